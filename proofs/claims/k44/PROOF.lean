import PyProof.Rows.All
import Wide.All
import OpenK.AllK
import Wide.FinOn
import PyProof.EqAt
import PyProof.EqKinds
import PyProof.TupleCall
import PyProof.ListMulAny
import Lean
import PySem.Challenge.RW_mirrorhouse_k44_whole_roots_of_two_words
set_option Elab.async false
set_option linter.all false
set_option maxRecDepth 100000
namespace L2
open PySem PySem.Spec PyProof.Rows
abbrev Key := Sum Int Str
def keyIs : Key → Value → Bool
  | .inl k, v => Value.isInt k v
  | .inr x, v => Value.isStrOf x v
def keyH (w : World) : Key → Int
  | .inl k => hashInt k
  | .inr x => hashStr w x
theorem keyIs_shape : ∀ {k : Key} {v : Value}, keyIs k v = true → (∃ i t, k = Sum.inl i ∧ v = Value.int i t) ∨ (∃ x t, k = Sum.inr x ∧ v = Value.str x t)
  | .inl i, v, h => by
    obtain ⟨t, e⟩ := Value.isInt_shape (k := i) (v := v) h
    exact .inl ⟨i, t, rfl, e⟩
  | .inr x, v, h => by
    obtain ⟨t, e⟩ := Value.isStrOf_shape (x := x) (v := v) h
    exact .inr ⟨x, t, rfl, e⟩
theorem key_ll (a b : Int) : decide ((Sum.inl a : Key) = Sum.inl b) = (a == b) := by
  by_cases e : a = b
  · subst e; simp
  · have h : ¬ (Sum.inl a : Key) = Sum.inl b := fun q => e (Sum.inl.inj q)
    rw [decide_eq_false h]
    exact (beq_eq_false_iff_ne.mpr e).symm
theorem key_rr (a b : Str) : decide ((Sum.inr a : Key) = Sum.inr b) = decide (a = b) := by
  by_cases e : a = b
  · subst e; simp
  · have h : ¬ (Sum.inr a : Key) = Sum.inr b := fun q => e (Sum.inr.inj q)
    rw [decide_eq_false h, decide_eq_false e]
theorem key_lr (a : Int) (b : Str) : decide ((Sum.inl a : Key) = Sum.inr b) = false := decide_eq_false (fun q => nomatch q)
theorem key_rl (a : Str) (b : Int) : decide ((Sum.inr a : Key) = Sum.inl b) = false := decide_eq_false (fun q => nomatch q)
def mixKind (prog : Program) (w : World) : PySem.KeyKind prog w Key where
  is := keyIs
  hash := keyH w
  inj := fun v a b ha hb => by
    rcases keyIs_shape ha with ⟨i, t, rfl, rfl⟩ | ⟨x, t, rfl, rfl⟩
    · rcases keyIs_shape hb with ⟨j, u, rfl, e⟩ | ⟨y, u, rfl, e⟩
      · injection e with e1 _; rw [e1]
      · exact nomatch e
    · rcases keyIs_shape hb with ⟨j, u, rfl, e⟩ | ⟨y, u, rfl, e⟩
      · exact nomatch e
      · injection e with e1 _; rw [e1]
  byValue := fun k v h => by
    rcases keyIs_shape h with ⟨i, t, rfl, rfl⟩ | ⟨x, t, rfl, rfl⟩ <;> rfl
  pyHash := fun hv h => by
    rcases keyIs_shape hv with ⟨i, t, rfl, rfl⟩ | ⟨x, t, rfl, rfl⟩
    · exact wpAny_pyHash_int h
    · exact wpAny_pyHash_str h
  eqBool := fun hu hv h => by
    rcases keyIs_shape hu with ⟨i, t, rfl, rfl⟩ | ⟨x, t, rfl, rfl⟩
    · rcases keyIs_shape hv with ⟨j, u, rfl, rfl⟩ | ⟨y, u, rfl, rfl⟩
      · rw [key_ll] at h; exact wpAny_eqBool_int h
      · rw [key_lr] at h; exact SeqAt.EqAt.int_str i t y u _ _ _ _ h
    · rcases keyIs_shape hv with ⟨j, u, rfl, rfl⟩ | ⟨y, u, rfl, rfl⟩
      · rw [key_rl] at h; exact SeqAt.EqAt.str_int x t j u _ _ _ _ h
      · rw [key_rr] at h; exact wpAny_eqBool_str h
  «strs» := fun k x t v h => by
    rcases keyIs_shape h with ⟨i, u, rfl, e⟩ | ⟨y, u, rfl, e⟩
    · exact nomatch e
    · injection e with e1 _
      subst e1
      cases v <;> rfl
end L2
namespace L2
open PySem PySem.Spec PyProof.Rows
inductive V where
  | non | bl (b : Bool) | int (i : Int) | str (x : Str) | byt (b : Array UInt8) | flt (b : UInt64) | ref (a : Addr) | ty (n : String)
  deriving DecidableEq
def RelV : V → Value → Prop
  | .non, u => u = Value.none
  | .bl b, u => u = Value.bool b
  | .int i, u => ∃ t, u = Value.int i t
  | .str x, u => ∃ t, u = Value.str x t
  | .byt b, u => ∃ t, u = Value.bytes b t
  | .flt b, u => ∃ t, u = Value.float b t
  | .ref a, u => u = Value.ref a
  | .ty n, u => u = Value.type n
abbrev Vals : List V → List Value → Prop := Paired RelV
theorem Vals.length {xs : List V} {us : List Value} (r : Vals xs us) : xs.length = us.length := Paired.length r
theorem Vals.get : ∀ {xs : List V} {us : List Value} {i : Nat} {x : V}, Vals xs us → xs[i]? = some x → ∃ u, us[i]? = some u ∧ RelV x u
  | _, _, _, _, .nil, e => by simp at e
  | _, _, 0, _, .cons r _, e => by simp at e; subst e; exact ⟨_, rfl, r⟩
  | _, _, i + 1, x, .cons _ t, e => by
    obtain ⟨u, h1, h2⟩ := Vals.get (i := i) (x := x) t (by simpa using e)
    exact ⟨u, by simpa using h1, h2⟩
theorem Vals.append : ∀ {xs ys : List V} {us ws : List Value}, Vals xs us → Vals ys ws → Vals (xs ++ ys) (us ++ ws)
  | _, _, _, _, .nil, s => s
  | _, _, _, _, .cons r t, s => .cons r (Vals.append t s)
theorem Vals.take : ∀ {xs : List V} {us : List Value} (n : Nat), Vals xs us → Vals (xs.take n) (us.take n)
  | _, _, 0, _ => .nil
  | _, _, _ + 1, .nil => .nil
  | _, _, n + 1, .cons r t => .cons r (Vals.take n t)
theorem Vals.drop : ∀ {xs : List V} {us : List Value} (n : Nat), Vals xs us → Vals (xs.drop n) (us.drop n)
  | _, _, 0, r => r
  | _, _, _ + 1, .nil => .nil
  | _, _, n + 1, .cons _ t => Vals.drop n t
def RelO : Option V → Option Value → Prop
  | some v, some u => RelV v u
  | none, none => True
  | _, _ => False
def KV {κ : Type} : List (κ × V) → List (κ × Value) → Prop := Paired fun (p : κ × V) (q : κ × Value) => p.1 = q.1 ∧ RelV p.2 q.2
def kV : Key → V
  | .inl i => .int i
  | .inr x => .str x
inductive HO where
  /-- a list -/
  | lst (xs : List V)
  /-- a tuple (never changes) -/
  | tup (xs : List V)
  /-- a dict whose keys are ints and texts; one whose keys are tuples of ints and texts (the empty one is both) -/
  | dK (kvs : List (Key × V)) | dT (kvs : List (List Key × V))
  /-- a set of ints: its members, its size -/
  | set (S : Int → Bool) (n : Nat)
  /-- an instance of the class at C, its dict at dx, its attributes -/
  | ins (C dx : Addr) (fs : List (Str × V))
  /-- the dict of the instance at x -/
  | own (x : Addr)
  /-- the dict of an exception -/
  | xd (fs : List (Str × V))
  /-- a bound method, f of x -/
  | met (f x : Addr)
  /-- a range object lo, lo + 1, .. below hi -/
  | rng (lo hi : Int)
  /-- a thing that is known to the object (the script; a dict while a loop walks it): read, never written while it is so -/
  | frz (o : Obj) (u : HO)
  /-- a code object's table -/
  | tbl (ps : Array Value)
  /-- any other thing, by what is true of its one object (a def of one's own: SetO a S n := HO.ext fun h => ..) -/
  | ext (φ : Heap → Prop)
abbrev Hp := Addr → Option HO
def upd (H : Hp) (a : Addr) (o : HO) : Hp := fun b => if b = a then some o else H b
theorem upd_same {H : Hp} {a : Addr} {o : HO} : upd H a o a = some o := by unfold upd; rw [if_pos rfl]
theorem upd_ne {H : Hp} {a b : Addr} {o : HO} (h : b ≠ a) : upd H a o b = H b := by unfold upd; rw [if_neg h]
theorem ne_of_none {H : Hp} {a b : Addr} {o : HO} (h : H a = some o) (h' : H b = none) : a ≠ b := by
  intro e; subst e; rw [h] at h'; cases h'
section
variable (P : Program) (w : World)
def ObjOk (H : Hp) (h : Heap) (a : Addr) : HO → Prop
  | .lst xs => xs.length ≤ sizeLine ∧ ∃ (its : List Value) (n : Nat), Vals xs its ∧ h.get? a = some { cls := .type "list", data := .seq its.toArray n }
  | .tup xs => xs.length ≤ sizeLine ∧ ∃ its : List Value, Vals xs its ∧ IsTup h a its.toArray
  | .dK kvs => kvs.length ≤ sizeLine ∧ (a == sysModules) = false ∧ ∃ vs, KV kvs vs ∧ h.DictOf (mixKind P w) a vs
  | .dT kvs => kvs.length ≤ sizeLine ∧ (a == sysModules) = false ∧ ∃ xs : List (List Key × Addr × Value),
      Paired (fun (p : List Key × V) (q : List Key × Addr × Value) => p.1 = q.1 ∧ H q.2.1 = some (.tup (p.1.map kV)) ∧ RelV p.2 q.2.2) kvs xs ∧
      ∃ o es ep, h.get? a = some o ∧ o.ExactDict ∧ o.data = .dict es ep ∧ es.toList = xs.map (entryOfKey (tupleKind (mixKind P w))) ∧ (xs.map (·.1)).Nodup
  | .set S n => h.SetOf (intKind P w) a S n
  | .ins C dx fs => H dx = some (.own a) ∧ fs.length ≤ 1000 ∧ dx ≠ a ∧ h.get? a = some (PySem.W.instObj C dx) ∧
      ∃ mA, h.Ns1 dx mA ∧ (∀ f, RelO (fs.lookup f) (mA f)) ∧ PySem.Within mA (fs.map (·.1))
  | .own _ => ∃ o, h.get? a = some o
  | .xd fs => ∃ mA, h.Ns1 a mA ∧ ∀ f, RelO (fs.lookup f) (mA f)
  | .rng lo hi => ∃ t u v, h.get? a = some { cls := .type "range", data := .fields #[.int lo t, .int hi u, .int 1 v] }
  | .frz o u => h.get? a = some o ∧ ObjOk H h a u
  | .tbl ps => h.get? a = some { cls := .none, data := .fields ps }
  | .met f x => h.get? a = some (PySem.W.methodObj (.ref f) (.ref x))
  | .ext φ => φ h ∧ (∃ o, h.get? a = some o) ∧ ∀ h1 h2 : Heap, φ h1 → (∀ o, h1.get? a = some o → h2.get? a = some o) → φ h2
def HOk (H : Hp) (h : Heap) : Prop := ∀ a o, H a = some o → ObjOk P w H h a o
end
section
variable {P : Program} {w : World} {H H' : Hp} {h h' : Heap} {a : Addr} {o : HO}
theorem ObjOk.lt (x : ObjOk P w H h a o) : a < h.objs.size := by
  cases o with
  | lst xs => obtain ⟨_, _, _, _, e⟩ := x; exact Heap.lt_size e
  | tup xs => obtain ⟨_, _, _, p⟩ := x; exact p.lt
  | dK kvs => obtain ⟨_, _, _, _, o, _, _, e, _⟩ := x; exact Heap.lt_size e
  | dT kvs => obtain ⟨_, _, _, _, o, _, _, e, _⟩ := x; exact Heap.lt_size e
  | set S n => obtain ⟨o, _, _, _, e, _⟩ := x; exact Heap.lt_size e
  | ins C dx fs => obtain ⟨_, _, _, e, _⟩ := x; exact Heap.lt_size e
  | own y => obtain ⟨_, e⟩ := x; exact Heap.lt_size e
  | xd fs => obtain ⟨_, ⟨_, _, _, e, _⟩, _⟩ := x; exact Heap.lt_size e
  | rng lo hi => obtain ⟨_, _, _, e⟩ := x; exact Heap.lt_size e
  | frz ob u => obtain ⟨e, _⟩ := x; exact Heap.lt_size e
  | tbl ps => exact Heap.lt_size (show h.get? a = some _ from x)
  | met f y => exact Heap.lt_size (show h.get? a = some _ from x)
  | ext φ => obtain ⟨_, ⟨_, e⟩, _⟩ := x; exact Heap.lt_size e
theorem Paired.mapP {α β : Type} {F G : α → β → Prop} : ∀ {l₁ : List α} {l₂ : List β}, Paired F l₁ l₂ → (∀ a b, F a b → G a b) → Paired G l₁ l₂
  | _, _, .nil, _ => .nil
  | _, _, .cons r t, f => .cons (f _ _ r) (Paired.mapP t f)
theorem ObjOk.stay (x : ObjOk P w H h a o) (k : ∀ b u, (b = a ∨ H b = some (.own a)) → h.get? b = some u → h'.get? b = some u)
    (ho : ∀ b, H b = some (.own a) → H' b = some (.own a)) (ht : ∀ b xs, H b = some (.tup xs) → H' b = some (.tup xs)) : ObjOk P w H' h' a o := by
  induction o with
  | lst xs => obtain ⟨z, its, n, r, e⟩ := x; exact ⟨z, its, n, r, k _ _ (.inl rfl) e⟩
  | tup xs => obtain ⟨z, its, r, ob, e, c⟩ := x; exact ⟨z, its, r, ob, k _ _ (.inl rfl) e, c⟩
  | dK kvs => obtain ⟨z, y, vs, r, ob, es, ep, e, c⟩ := x; exact ⟨z, y, vs, r, ob, es, ep, k _ _ (.inl rfl) e, c⟩
  | dT kvs =>
    obtain ⟨z, y, xs, r, ob, es, ep, e, c⟩ := x
    exact ⟨z, y, xs, Paired.mapP r fun p q z => ⟨z.1, ht _ _ z.2.1, z.2.2⟩, ob, es, ep, k _ _ (.inl rfl) e, c⟩
  | set S n => obtain ⟨ob, es, ep, t, e, c⟩ := x; exact ⟨ob, es, ep, t, k _ _ (.inl rfl) e, c⟩
  | ins C dx fs =>
    obtain ⟨d, z, ne, e, mA, ⟨od, es, ep, e2, c⟩, r⟩ := x
    exact ⟨ho _ d, z, ne, k _ _ (.inl rfl) e, mA, ⟨od, es, ep, k _ _ (.inr d) e2, c⟩, r⟩
  | own y => obtain ⟨ob, e⟩ := x; exact ⟨ob, k _ _ (.inl rfl) e⟩
  | xd fs => obtain ⟨mA, ⟨od, es, ep, e, c⟩, r⟩ := x; exact ⟨mA, ⟨od, es, ep, k _ _ (.inl rfl) e, c⟩, r⟩
  | rng lo hi => obtain ⟨t, u, v, e⟩ := x; exact ⟨t, u, v, k _ _ (.inl rfl) e⟩
  | frz ob u ih => obtain ⟨e, q⟩ := x; exact ⟨k _ _ (.inl rfl) e, ih q⟩
  | tbl ps =>
    have e : h.get? a = some { cls := .none, data := .fields ps } := x
    show h'.get? a = some { cls := .none, data := .fields ps }
    exact k a _ (.inl rfl) e
  | met f y =>
    have e : h.get? a = some (PySem.W.methodObj (.ref f) (.ref y)) := x
    show h'.get? a = some (PySem.W.methodObj (.ref f) (.ref y))
    exact k a _ (.inl rfl) e
  | ext φ => obtain ⟨p, ⟨o, e⟩, st⟩ := x; exact ⟨st _ _ p fun o q => k _ _ (.inl rfl) q, ⟨o, k _ _ (.inl rfl) e⟩, st⟩
theorem HOk.lt (x : HOk P w H h) (e : H a = some o) : a < h.objs.size := (x a o e).lt
theorem HOk.fresh (x : HOk P w H h) (e : h.objs.size ≤ a) : H a = none := by
  cases q : H a with
  | none => rfl
  | some u => exact absurd (Nat.lt_of_lt_of_le (x.lt q) e) (Nat.lt_irrefl _)
theorem HOk.kept (x : HOk P w H h) (k : ∀ b u, h.get? b = some u → h'.get? b = some u) : HOk P w H h' := fun a o e =>
  (x a o e).stay (fun b u _ q => k b u q) (fun _ q => q) fun _ _ q => q
theorem HOk.laid (x : HOk P w H h) (k : ∀ b u, h.get? b = some u → h'.get? b = some u) (hp : h.objs.size ≤ a) (new : ObjOk P w (upd H a o) h' a o) : HOk P w (upd H a o) h' := fun b u e => by
  have hn := x.fresh hp
  by_cases hb : b = a
  · subst hb; rw [upd_same] at e; cases e; exact new
  · rw [upd_ne hb] at e
    exact (x b u e).stay (fun c v _ q => k c v q) (fun c q => by rw [upd_ne (ne_of_none q hn)]; exact q) fun c xs q => by rw [upd_ne (ne_of_none q hn)]; exact q
end
def Rd (H : Hp) (a : Addr) (u : HO) : Prop := H a = some u ∨ ∃ o, H a = some (.frz o u)
theorem Rd.ok {P : Program} {w : World} {H : Hp} {h : Heap} {a : Addr} {u : HO} (r : Rd H a u) (x : HOk P w H h) : ObjOk P w H h a u := by
  rcases r with r | ⟨o, r⟩
  · exact x a u r
  · obtain ⟨_, q⟩ := x a _ r
    exact q
def Mut : Option HO → Prop
  | some (.lst _) => True
  | some (.dK _) => True
  | some (.dT _) => True
  | some (.set _ _) => True
  | some (.ins _ _ _) => True
  | some (.ext _) => True
  | _ => False
section
variable {P : Program} {w : World} {H : Hp} {h h' : Heap} {x e : Addr} {o' : HO}
theorem HOk.write (ok : HOk P w H h) (mu : Mut (H x)) (he : e = x ∨ H e = some (.own x)) (k : ∀ b u, b ≠ e → h.get? b = some u → h'.get? b = some u) (heo : ∃ u, h'.get? e = some u)
    (new : ObjOk P w (upd H x o') h' x o') : HOk P w (upd H x o') h' := fun b u q => by
  have nown : ∀ c y, H c = some (.own y) → c ≠ x := fun c y r z => by subst z; rw [r] at mu; exact mu
  have ntup : ∀ c xs, H c = some (.tup xs) → c ≠ x := fun c xs r z => by subst z; rw [r] at mu; exact mu
  by_cases hb : b = x
  · subst hb; rw [upd_same] at q; cases q; exact new
  · rw [upd_ne hb] at q
    by_cases hbe : b = e
    · have q' : H b = some (.own x) := by
        rcases he with z | z
        · exact absurd (hbe.trans z) hb
        · rw [hbe]; exact z
      rw [q] at q'; cases q'
      obtain ⟨v, hv⟩ := heo
      exact ⟨v, by rw [hbe]; exact hv⟩
    · refine (ok b u q).stay (fun c v hc r => k c v ?_ r) (fun c r => by rw [upd_ne (nown c b r)]; exact r) fun c xs r => by rw [upd_ne (ntup c xs r)]; exact r
      rcases hc with rfl | hc
      · exact hbe
      · rintro rfl
        rcases he with z | z
        · exact nown c b hc z
        · rw [hc] at z; cases z; exact hb rfl
end
structure Un (fs ex : List Addr) (H H' : Hp) (h h' : Heap) : Prop where
  keep : ∀ b o, h.get? b = some o → H b = none → b ∉ fs → b ∉ ex → h'.get? b = some o
  slot : ∀ b o, h.get? b = some o → H b = none → b ∈ fs → b ∉ ex → ∃ sl, h'.get? b = some { o with slots := sl }
  free : ∀ b o, h.get? b = some o → H b = none → b ∉ ex → H' b = none
  there : ∀ b o, h.get? b = some o → b ∉ ex → ∃ o', h'.get? b = some o'
  tups : ∀ b xs, H b = some (.tup xs) → H' b = some (.tup xs)
  frzs : ∀ b o u, H b = some (.frz o u) → H' b = some (.frz o u)
  tbls : ∀ b ps, H b = some (.tbl ps) → ∃ more, H' b = some (.tbl (ps ++ more))
section
variable {fs fs' ex ex' : List Addr} {H H1 H2 : Hp} {h h1 h2 h' : Heap} {a x e : Addr} {o : HO}
theorem Un.any (u : Un fs ex H H1 h h1) {b : Addr} {ob : Obj} (q : h.get? b = some ob) (n : H b = none) (hx : b ∉ ex) : ∃ sl, h1.get? b = some { ob with slots := sl } := by
  by_cases hb : b ∈ fs
  · exact u.slot b ob q n hb hx
  · exact ⟨ob.slots, u.keep b ob q n hb hx⟩
theorem Un.kept (k : ∀ b u, h.get? b = some u → h'.get? b = some u) : Un fs ex H H h h' :=
  ⟨fun b ob q _ _ _ => k b ob q, fun b ob q _ _ _ => ⟨ob.slots, k b ob q⟩, fun _ _ _ n _ => n, fun b ob q _ => ⟨ob, k b ob q⟩, fun _ _ q => q, fun _ _ _ q => q, fun _ ps q => ⟨#[], by rw [q]; simp⟩⟩
theorem Un.refl : Un fs ex H H h h := Un.kept fun _ _ q => q
theorem Un.laid (k : ∀ b u, h.get? b = some u → h'.get? b = some u) (hp : h.objs.size ≤ a) (hn : H a = none) : Un fs ex H (upd H a o) h h' where
  keep := fun b u q _ _ _ => k b u q
  slot := fun b u q _ _ _ => ⟨u.slots, k b u q⟩
  free := fun b u q n _ => by rw [upd_ne (Nat.ne_of_lt (Nat.lt_of_lt_of_le (Heap.lt_size q) hp))]; exact n
  there := fun b u q _ => ⟨u, k b u q⟩
  tups := fun b xs q => by rw [upd_ne (ne_of_none q hn)]; exact q
  frzs := fun b u xs q => by rw [upd_ne (ne_of_none q hn)]; exact q
  tbls := fun b ps q => ⟨#[], by rw [upd_ne (ne_of_none q hn), q]; simp⟩
theorem Un.write (mu : Mut (H x)) (he : e = x ∨ H e = some (.own x)) (k : ∀ b u, b ≠ e → h.get? b = some u → h'.get? b = some u) (heo : ∃ u, h'.get? e = some u) : Un fs ex H (upd H x o) h h' := by
  have hx : ∀ b, H b = none → b ≠ x := fun b n z => by subst z; rw [n] at mu; exact mu
  have hb : ∀ b, H b = none → b ≠ e := fun b n z => by
    subst z
    rcases he with r | r
    · exact hx b n r
    · rw [n] at r; cases r
  have hm : ∀ b u, H b = some u → ¬ Mut (some u) → b ≠ x := fun b u q nm z => by subst z; rw [q] at mu; exact nm mu
  refine ⟨fun b u q n _ _ => k b u (hb b n) q, fun b u q n _ _ => ⟨u.slots, k b u (hb b n) q⟩, fun b u q n _ => by rw [upd_ne (hx b n)]; exact n, fun b u q _ => ?_,
    fun b xs q => by rw [upd_ne (hm b _ q fun z => z)]; exact q, fun b u xs q => by rw [upd_ne (hm b _ q fun z => z)]; exact q, fun b ps q => ⟨#[], by rw [upd_ne (hm b _ q fun z => z), q]; simp⟩⟩
  by_cases hbe : b = e
  · subst hbe; exact heo
  · exact ⟨u, k b u hbe q⟩
end
def trk (h : Heap) (H : Hp) : List Addr := (List.range h.objs.size).filter fun a => (H a).isSome
def hidT (h : Heap) (H : Hp) : Heap := PySem.W.hideAll h (trk h H)
theorem hidT_size (h : Heap) (H : Hp) : (hidT h H).objs.size = h.objs.size := PySem.W.hideAll_size _ _
theorem hidT_get {h : Heap} {H : Hp} {b : Addr} {o : Obj} (e : h.get? b = some o) (n : H b = none) : (hidT h H).get? b = some o :=
  PySem.W.hideAll_get _ e fun hm => by
    have q : (H b).isSome = true := (List.mem_filter.mp hm).2
    rw [n] at q; simp at q
theorem of_hidT {h : Heap} {H : Hp} {b : Addr} {o : Obj} (e : (hidT h H).get? b = some o) : h.get? b = some o ∧ H b = none := by
  have e' : h.get? b = some o := PySem.W.of_hideAll (trk h H) e
  refine ⟨e', ?_⟩
  cases q : H b with
  | none => rfl
  | some x =>
    have hm : b ∈ trk h H := List.mem_filter.mpr ⟨List.mem_range.mpr (Heap.lt_size e'), by simp [q]⟩
    have z : (hidT h H).get? b = none := PySem.W.hideAll_none (trk h H) hm
    rw [z] at e; cases e
def allNews (g h : Heap) (L : Addr) : List (Addr × Obj) := (List.range h.objs.size).filterMap fun a => if a = L ∨ (g.get? a).isSome = true then none else (h.get? a).map fun o => (a, o)
def rest (g h : Heap) (L d : Addr) : List (Addr × Obj) := (allNews g h L).filter fun p => decide (p.1 ≠ d)
end L2
namespace L2
open PySem PySem.Spec PyProof.Rows
structure Mod (K : PySem.W.Frag) (mg : Str → Option Value) (base : Heap) : Prop where
  kin : K.In base
  glob : base.Ns mainGlobals mg
  blt : ∃ mb, base.Ns builtinsNs mb ∧ ∀ x : Str, x ≠ "__name__" → mb x = bootBuiltins x
  nolimit : base.NoLimit
structure Cx where
  prog : Program
  w : World
  K : PySem.W.Frag
  mg : Str → Option Value
  base : Heap
  A : Around
  N : List Str
  s₀ : Shared
  H₀ : Hp
  env : Env
  outer : List Env
  stack : List Env
  ex : List Addr
  fn : Str → Bool
  calm : Bool
  pn : List (Addr × Obj)
  xe : Value → Shared → Prop
def frs (l : List Env) : List Addr := l.filterMap (·.frame)
abbrev Cx.fs (X : Cx) : List Addr := frs X.outer
def Vis (sc : Scope) (x : Str) : Prop := sc.names.lookup x = some .local ∨ sc.names.lookup x = some .cell ∨ sc.names.lookup x = some .free
def Loc (sc : Scope) (x : Str) : Prop := sc.names.lookup x = some .local ∨ sc.names.lookup x = some .cell
def Look (env : Env) (h : Heap) (m : Str → Option Value) (x : Str) (u : Value) : Prop :=
  (env.kindOf x = some .local ∧ m x = some u) ∨ ((env.kindOf x = some .cell ∨ env.kindOf x = some .free) ∧ ∃ c, env.cells.lookup x = some c ∧ h.IsCell c (some u))
structure Cx.Ok (X : Cx) : Prop where
  mod : Mod X.K X.mg X.base
  kind : X.env.scope.kind = .function
  glob : X.env.globals = mainGlobals
  blt : X.env.builtins = builtinsNs
  above : X.s₀.heap.objs.size ≤ X.env.locals
  inj : ∀ x y c, X.env.cells.lookup x = some c → X.env.cells.lookup y = some c → x = y
  has : ∀ x, (X.env.kindOf x = some .cell ∨ X.env.kindOf x = some .free) → ∃ c, X.env.cells.lookup x = some c
  cab : ∀ x c, X.fn x = true → X.env.cells.lookup x = some c → X.s₀.heap.objs.size ≤ c
  hd : X.calm = true → X.A.handled = none
  frames : X.A.frames = some X.stack
  stk : X.stack = X.outer ∨ (X.stack = X.env :: X.outer ∧ X.env.frame = some X.env.locals)
  exf : ∀ b ∈ X.ex, b ≠ X.env.locals ∧ ∀ x c, X.env.cells.lookup x = some c → c ≠ b
  bs : ∀ b o, X.base.get? b = some o → X.s₀.heap.get? b = some o ∧ X.H₀ b = none
  bsz : X.base.objs.size ≤ X.s₀.heap.objs.size
  noex : ∀ b o, X.base.get? b = some o → b ∉ X.ex
  exfs : ∀ b ∈ X.ex, b ∉ X.fs
  funs : X.s₀.heap.FunFrames X.base X.outer
  frf : ∀ b ∈ X.fs, X.H₀ b = none
structure Inv (X : Cx) (pins : List (Addr × Obj)) (σ : List (Option V)) (H : Hp) (s : Shared) : Prop where
  ok : X.Ok
  os : s.os = X.s₀.os
  bare : AllBare s.gens
  base : Un X.fs X.ex X.H₀ H X.s₀.heap s.heap
  loc : ∃ m, s.heap.Ns X.env.locals m ∧ ∀ (i : Nat) (x : Str) (v : V), X.N[i]? = some x → σ[i]? = some (some v) → Vis X.env.scope x → ∃ u, RelV v u ∧ Look X.env s.heap m x u
  cell : ∀ x c, X.env.cells.lookup x = some c → ∃ v, s.heap.IsCell c v
  free : H X.env.locals = none
  freeC : ∀ x c, X.env.cells.lookup x = some c → H c = none
  pin : ∀ p ∈ X.pn ++ pins, s.heap.get? p.1 = some p.2 ∧ H p.1 = none ∧ p.1 ≠ X.env.locals ∧ p.1 ∉ X.fs ∧ ∀ v, p.2.data ≠ .cell v
  hok : HOk X.prog X.w H s.heap
  len : σ.length = X.N.length
section
variable {X : Cx} {pins : List (Addr × Obj)} {σ : List (Option V)} {H H' : Hp} {s : Shared} {h' : Heap}
theorem Cx.Ok.nofr (ok : X.Ok) {b : Addr} {o : Obj} (e : X.base.get? b = some o) : b ∉ X.fs := fun hb => by
  have := (ok.funs.mem hb).1
  rw [e] at this; cases this
theorem Inv.bs (I : Inv X pins σ H s) : ∀ b o, X.base.get? b = some o → s.heap.get? b = some o ∧ H b = none := fun b o e =>
  ⟨I.base.keep b o (I.ok.bs b o e).1 (I.ok.bs b o e).2 (I.ok.nofr e) (I.ok.noex b o e), I.base.free b o (I.ok.bs b o e).1 (I.ok.bs b o e).2 (I.ok.noex b o e)⟩
theorem Inv.bk (I : Inv X pins σ H s) : ∀ b o, X.base.get? b = some o → s.heap.get? b = some o := fun b o e => (I.bs b o e).1
theorem Inv.mod (I : Inv X pins σ H s) : Mod X.K X.mg X.base := I.ok.mod
theorem Inv.kIn (I : Inv X pins σ H s) : X.K.In s.heap := I.ok.mod.kin.keeps I.bk
theorem Inv.lt (I : Inv X pins σ H s) : X.env.locals < s.heap.objs.size := let ⟨_, hn, _⟩ := I.loc; hn.lt
theorem Inv.sz (I : Inv X pins σ H s) : X.s₀.heap.objs.size ≤ s.heap.objs.size := Nat.le_trans I.ok.above (Nat.le_of_lt I.lt)
theorem Inv.nofs (I : Inv X pins σ H s) {a : Addr} (h : s.heap.objs.size ≤ a) : a ∉ X.fs := fun hb => by
  obtain ⟨_, o, ho, _⟩ := I.ok.funs.mem hb
  exact absurd (Nat.lt_of_lt_of_le (Heap.lt_size ho) (Nat.le_trans I.sz h)) (Nat.lt_irrefl _)
theorem Inv.cne (I : Inv X pins σ H s) : ∀ x c, X.env.cells.lookup x = some c → c ≠ X.env.locals := fun x c e z => by
  obtain ⟨v, o, ho, hd⟩ := I.cell x c e
  obtain ⟨m, ⟨o', es, ep, ho', hd', _⟩, _⟩ := I.loc
  rw [z, ho'] at ho; cases ho; rw [hd'] at hd; cases hd
theorem Inv.funs (I : Inv X pins σ H s) : s.heap.FunFrames X.base X.outer := by
  have all : ∀ (l : List Env), (∀ b ∈ frs l, b ∈ X.fs) → X.s₀.heap.FunFrames X.base l → s.heap.FunFrames X.base l := by
    intro l
    induction l with
    | nil => intro _ _; trivial
    | cons env r ih =>
      intro hs hl
      obtain ⟨hk, ⟨L, o, hf, hn, ho, hd⟩, hr⟩ := hl
      have hL : L ∈ X.fs := hs L (by unfold frs; rw [List.filterMap_cons, hf]; exact List.mem_cons_self)
      obtain ⟨sl, e⟩ := I.base.slot L o ho (I.ok.frf L hL) hL fun z => I.ok.exfs L z hL
      exact ⟨hk, ⟨L, _, hf, hn, e, hd⟩, ih (fun b hb => hs b (by unfold frs; rw [List.filterMap_cons, hf]; exact List.mem_cons_of_mem _ hb)) hr⟩
  exact all X.outer (fun _ hb => hb) I.ok.funs
theorem Inv.stack (I : Inv X pins σ H s) : s.heap.FunFrames X.base X.stack := by
  rcases I.ok.stk with e | ⟨e, hf⟩
  · rw [e]; exact I.funs
  · rw [e]
    obtain ⟨m, hn, _⟩ := I.loc
    refine .cons (by rw [I.ok.kind]; decide) hf hn ?_ I.funs
    exact Heap.get?_none_of_le (Nat.le_trans I.ok.bsz I.ok.above)
theorem Inv.stkSub (I : Inv X pins σ H s) : ∀ b ∈ frs X.stack, b ∈ X.env.locals :: X.fs := fun b hb => by
  rcases I.ok.stk with e | ⟨e, hf⟩
  · rw [e] at hb; exact List.mem_cons_of_mem _ hb
  · rw [e] at hb
    unfold frs at hb
    rw [List.filterMap_cons, hf] at hb
    exact hb
theorem Inv.stkFree (I : Inv X pins σ H s) : ∀ b ∈ frs X.stack, H b = none := fun b hb => by
  rcases List.mem_cons.mp (I.stkSub b hb) with e | hb
  · rw [e]; exact I.free
  · obtain ⟨_, o, ho, _⟩ := I.ok.funs.mem hb
    exact I.base.free b o ho (I.ok.frf b hb) fun z => I.ok.exfs b z hb
theorem Inv.step {g' : Array GenState} {t' : Nat} {d' : Drawn} {ch : List Addr} (I : Inv X pins σ H s)
    (hch : ∀ b ∈ ch, (b ∈ X.ex ∨ X.s₀.heap.objs.size ≤ b) ∧ b ≠ X.env.locals ∧ (∀ x c, X.env.cells.lookup x = some c → c ≠ b) ∧ ∀ p ∈ X.pn ++ pins, p.1 ≠ b)
    (keep : ∀ b o, b ≠ X.env.locals → b ∉ X.fs → b ∉ ch → s.heap.get? b = some o → H b = none → h'.get? b = some o)
    (slot : ∀ b o, b ≠ X.env.locals → b ∈ X.fs → b ∉ ch → s.heap.get? b = some o → H b = none → ∃ sl, h'.get? b = some { o with slots := sl }) (free : ∀ b o, b ∉ ch → s.heap.get? b = some o → H b = none → H' b = none)
    (there : ∀ b o, b ∉ ch → s.heap.get? b = some o → ∃ o', h'.get? b = some o')
    (tups : ∀ b xs, H b = some (.tup xs) → H' b = some (.tup xs)) (frzs : ∀ b o u, H b = some (.frz o u) → H' b = some (.frz o u)) (tbls : ∀ b ps, H b = some (.tbl ps) → ∃ more, H' b = some (.tbl (ps ++ more)))
    (ns : ∀ m, s.heap.Ns X.env.locals m → h'.Ns X.env.locals m) (hok : HOk X.prog X.w H' h') (hg : AllBare g') :
    Inv X pins σ H' { s with heap := h', gens := g', drawn := d', toks := t' } := by
  have neL : ∀ b o, X.s₀.heap.get? b = some o → b ≠ X.env.locals := fun b o e => Nat.ne_of_lt (Nat.lt_of_lt_of_le (Heap.lt_size e) I.ok.above)
  have neC : ∀ b o, X.s₀.heap.get? b = some o → b ∉ X.ex → b ∉ ch := fun b o e hx hb => by
    rcases (hch b hb).1 with z | z
    · exact hx z
    · exact absurd (Nat.lt_of_lt_of_le (Heap.lt_size e) z) (Nat.lt_irrefl _)
  have cellK : ∀ x c, X.env.cells.lookup x = some c → ∀ v, s.heap.IsCell c v → h'.IsCell c v := fun x c e v ⟨o, ho, hd⟩ => by
    have nch : c ∉ ch := fun z => (hch c z).2.2.1 x c e rfl
    by_cases hc : c ∈ X.fs
    · obtain ⟨sl, q⟩ := slot c o (I.cne x c e) hc nch ho (I.freeC x c e)
      exact ⟨_, q, hd⟩
    · exact ⟨o, keep c o (I.cne x c e) hc nch ho (I.freeC x c e), hd⟩
  refine ⟨I.ok, I.os, hg, ⟨fun b o e n hb hx => ?_, fun b o e n hb hx => ?_, fun b o e n hx => ?_, fun b o e hx => ?_, fun b xs e => tups b xs (I.base.tups b xs e), fun b o xs e => frzs b o xs (I.base.frzs b o xs e), fun b ps e => ?_⟩, ?_, fun x c e => ?_, ?_, fun x c e => ?_, fun p hp => ?_, hok, I.len⟩
  · exact keep b o (neL b o e) hb (neC b o e hx) (I.base.keep b o e n hb hx) (I.base.free b o e n hx)
  · obtain ⟨sl, e1⟩ := I.base.slot b o e n hb hx
    obtain ⟨sl', e2⟩ := slot b _ (neL b o e) hb (neC b o e hx) e1 (I.base.free b o e n hx)
    exact ⟨sl', e2⟩
  · obtain ⟨o', e1⟩ := I.base.there b o e hx
    exact free b o' (neC b o e hx) e1 (I.base.free b o e n hx)
  · obtain ⟨o', e1⟩ := I.base.there b o e hx
    exact there b o' (neC b o e hx) e1
  · obtain ⟨m1, e1⟩ := I.base.tbls b ps e
    obtain ⟨m2, e2⟩ := tbls b _ e1
    exact ⟨m1 ++ m2, by rw [e2, Array.append_assoc]⟩
  · obtain ⟨m, hn, hl⟩ := I.loc
    refine ⟨m, ns m hn, fun i x v e1 e2 e3 => ?_⟩
    obtain ⟨u, r, l⟩ := hl i x v e1 e2 e3
    refine ⟨u, r, ?_⟩
    rcases l with l | ⟨k, c, e, z⟩
    · exact .inl l
    · exact .inr ⟨k, c, e, cellK x c e _ z⟩
  · obtain ⟨v, z⟩ := I.cell x c e
    exact ⟨v, cellK x c e v z⟩
  · obtain ⟨m, ⟨o, _, _, ho, _⟩, _⟩ := I.loc
    exact free _ o (fun z => (hch _ z).2.1 rfl) ho I.free
  · obtain ⟨v, o, ho, hd⟩ := I.cell x c e
    exact free c o (fun z => (hch c z).2.2.1 x c e rfl) ho (I.freeC x c e)
  · obtain ⟨e, n, ne, nf, d⟩ := I.pin p hp
    have nch : p.1 ∉ ch := fun z => (hch p.1 z).2.2.2 p hp rfl
    exact ⟨keep p.1 p.2 ne nf nch e n, free p.1 p.2 nch e n, ne, nf, d⟩
theorem Inv.un {t' : Nat} (I : Inv X pins σ H s) (u : Un X.fs [] H H' s.heap h') (hok : HOk X.prog X.w H' h') : Inv X pins σ H' { s with heap := h', toks := t' } := by
  obtain ⟨m, ⟨o, es, ep, ho, r⟩, _⟩ := id I.loc
  obtain ⟨sl, hL⟩ := u.any ho I.free (by simp)
  exact I.step (g' := s.gens) (d' := s.drawn) (ch := []) (fun _ z => nomatch z) (fun b o _ hb _ e n => u.keep b o e n hb (by simp)) (fun b o _ hb _ e n => u.slot b o e n hb (by simp)) (fun b o _ e n => u.free b o e n (by simp)) (fun b o _ e => u.there b o e (by simp)) u.tups u.frzs u.tbls (fun m' hm => by
    obtain ⟨o', es', ep', ho', r'⟩ := hm
    rw [ho] at ho'; cases ho'
    exact ⟨_, es', ep', hL, r'⟩) hok I.bare
theorem Inv.call {g' : Array GenState} {t' : Nat} {d' : Drawn} {ch : List Addr} (I : Inv X pins σ H s) (u : Un (frs X.stack) ch H H' s.heap h') (hok : HOk X.prog X.w H' h') (hg : AllBare g')
    (hch : ∀ b ∈ ch, (b ∈ X.ex ∨ X.s₀.heap.objs.size ≤ b) ∧ b ≠ X.env.locals ∧ (∀ x c, X.env.cells.lookup x = some c → c ≠ b) ∧ ∀ p ∈ X.pn ++ pins, p.1 ≠ b) :
    Inv X pins σ H' { s with heap := h', gens := g', drawn := d', toks := t' } := by
  obtain ⟨m, ⟨o, es, ep, ho, r⟩, _⟩ := id I.loc
  obtain ⟨sl, hL⟩ := u.any ho I.free fun z => (hch _ z).2.1 rfl
  exact I.step (ch := ch) hch (fun b o hL hb hc e n => u.keep b o e n (fun z => (List.mem_cons.mp (I.stkSub b z)).elim hL hb) hc) (fun b o _ _ hc e n => u.any e n hc) (fun b o hc e n => u.free b o e n hc) (fun b o hc e => u.there b o e hc) u.tups u.frzs u.tbls (fun m' hm => by
    obtain ⟨o', es', ep', ho', r'⟩ := hm
    rw [ho] at ho'; cases ho'
    exact ⟨_, es', ep', hL, r'⟩) hok hg
theorem Inv.turned {t' : Nat} {it : Addr} (I : Inv X pins σ H s) (k : ∀ b o, b ≠ it → s.heap.get? b = some o → h'.get? b = some o) (hn : H it = none) (hL : it ≠ X.env.locals)
    (h1 : it ∈ X.ex ∨ X.s₀.heap.objs.size ≤ it) (h2 : ∀ x c, X.env.cells.lookup x = some c → c ≠ it) (h3 : ∀ p ∈ X.pn ++ pins, p.1 ≠ it) : Inv X pins σ H { s with heap := h', toks := t' } := by
  have nit : ∀ b u, H b = some u → b ≠ it := fun b u e z => by rw [z, hn] at e; cases e
  refine I.step (g' := s.gens) (d' := s.drawn) (ch := [it]) (fun b hb => ?_) (fun b o _ _ hc e _ => k b o (fun z => hc (by simp [z])) e) (fun b o _ _ hc e _ => ⟨o.slots, k b o (fun z => hc (by simp [z])) e⟩) (fun _ _ _ _ n => n)
    (fun b o hc e => ⟨o, k b o (fun z => hc (by simp [z])) e⟩) (fun _ _ e => e) (fun _ _ _ e => e) (fun b ps e => ⟨#[], by rw [e]; simp⟩) (fun m hm => ?_) (fun b u e => ?_) I.bare
  · have e : b = it := by simpa using hb
    subst e
    exact ⟨h1, hL, h2, h3⟩
  · obtain ⟨o, es, ep, ho, r⟩ := hm
    exact ⟨o, es, ep, k _ o (Ne.symm hL) ho, r⟩
  · refine (I.hok b u e).stay (fun c v hc q => k c v ?_ q) (fun _ q => q) fun _ _ q => q
    rcases hc with z | z
    · rw [z]; exact nit b u e
    · exact nit c _ z
theorem Inv.tok (I : Inv X pins σ H s) (t : Nat) : Inv X pins σ H { s with toks := t } := I.un (h' := s.heap) (t' := t) Un.refl I.hok
theorem Inv.kept {t' : Nat} (I : Inv X pins σ H s) (k : ∀ b u, s.heap.get? b = some u → h'.get? b = some u) : Inv X pins σ H { s with heap := h', toks := t' } := I.un (Un.kept k) (I.hok.kept k)
theorem Inv.laid {a : Addr} {o : HO} {t' : Nat} (I : Inv X pins σ H s) (k : ∀ b u, s.heap.get? b = some u → h'.get? b = some u) (hp : s.heap.objs.size ≤ a) (new : ObjOk X.prog X.w (upd H a o) h' a o) :
    Inv X pins σ (upd H a o) { s with heap := h', toks := t' } := I.un (Un.laid k hp (I.hok.fresh hp)) (I.hok.laid k hp new)
theorem Inv.write {x e : Addr} {o : HO} {t' : Nat} (I : Inv X pins σ H s) (mu : Mut (H x)) (he : e = x ∨ H e = some (.own x)) (k : ∀ b u, b ≠ e → s.heap.get? b = some u → h'.get? b = some u) (heo : ∃ u, h'.get? e = some u)
    (new : ObjOk X.prog X.w (upd H x o) h' x o) : Inv X pins σ (upd H x o) { s with heap := h', toks := t' } := I.un (Un.write mu he k heo) (I.hok.write mu he k heo new)
theorem Inv.pins_of {pins' : List (Addr × Obj)} (I : Inv X pins σ H s) (h : ∀ p ∈ pins', s.heap.get? p.1 = some p.2 ∧ H p.1 = none ∧ p.1 ≠ X.env.locals ∧ p.1 ∉ X.fs ∧ ∀ v, p.2.data ≠ .cell v) : Inv X pins' σ H s :=
  ⟨I.ok, I.os, I.bare, I.base, I.loc, I.cell, I.free, I.freeC, fun p hp => (List.mem_append.mp hp).elim (fun z => I.pin p (List.mem_append_left _ z)) (h p), I.hok, I.len⟩
theorem nodup_ix {N : List Str} (hN : N.Nodup) {i j : Nat} {x : Str} (a : N[i]? = some x) (b : N[j]? = some x) : i = j := by
  obtain ⟨h1, e1⟩ := List.getElem?_eq_some_iff.mp a
  obtain ⟨h2, e2⟩ := List.getElem?_eq_some_iff.mp b
  exact (List.getElem_inj hN).mp (e1.trans e2.symm)
theorem store_ok2 {M : Model} {A : Around} {E : Value → Shared → Prop} {i : Nat} {x : Str} {v : V} {u : Value} {Q : Unit → Shared → Prop} (I : Inv X pins σ H s) (hN : X.N.Nodup) (hi : X.N[i]? = some x) (hx : Loc X.env.scope x) (r : RelV v u)
    (h : ∀ s', Inv X pins (σ.set i (some v)) H s' → (∃ a, Heap.SameBut a s.heap s'.heap ∧ (a = X.env.locals ∨ X.env.cells.lookup x = some a)) → Q () s') (hf : X.fn x = true ∨ X.env.scope.names.lookup x = some .local := by first | exact .inl rfl | exact .inr rfl | assumption) : wpAny M A (storeName X.env x u) Q E s := by
  obtain ⟨m, hn, hl⟩ := id I.loc
  have hcls : (X.env.scope.kind == .class || (X.env.scope.kind == .module && X.env.locals != X.env.globals)) = false := by rw [I.ok.kind]; rfl
  have hiσ : i < σ.length := by rw [I.len]; exact (List.getElem?_eq_some_iff.mp hi).1
  have cne := I.cne
  have tracked : ∀ {a : Addr} {h' : Heap}, (∃ o, s.heap.get? a = some o ∧ H a = none) → Heap.SameBut a s.heap h' → HOk X.prog X.w H h' := fun {a h'} ha hs b ob e => by
    obtain ⟨_, _, hfree⟩ := ha
    refine (I.hok b ob e).stay (fun c w' hc q => (hs.2 c ?_).trans q) (fun _ q => q) fun _ _ q => q
    rintro rfl
    rcases hc with rfl | hc
    · rw [hfree] at e; cases e
    · rw [hfree] at hc; cases hc
  rcases hx with hk | hk
  · refine wpAny_storeName_local hk hn (fun h' hn' hs => ?_) hcls
    obtain ⟨oL, _, _, hoL, _⟩ := id hn
    refine h _ ⟨I.ok, I.os, I.bare, ⟨fun b o e n hb hx => ?_, fun b o e n hb hx => ?_, I.base.free, fun b o e hx => ?_, I.base.tups, I.base.frzs, I.base.tbls⟩, ⟨_, hn', fun j y v' e1 e2 e3 => ?_⟩, fun y c e => ?_, I.free, I.freeC, fun p hp => ?_, tracked ⟨oL, hoL, I.free⟩ hs, by simpa using I.len⟩ ⟨_, hs, .inl rfl⟩
    · exact (hs.2 b (Nat.ne_of_lt (Nat.lt_of_lt_of_le (Heap.lt_size e) I.ok.above))).trans (I.base.keep b o e n hb hx)
    · obtain ⟨sl, e1⟩ := I.base.slot b o e n hb hx
      exact ⟨sl, (hs.2 b (Nat.ne_of_lt (Nat.lt_of_lt_of_le (Heap.lt_size e) I.ok.above))).trans e1⟩
    · obtain ⟨o', e1⟩ := I.base.there b o e hx
      exact ⟨o', (hs.2 b (Nat.ne_of_lt (Nat.lt_of_lt_of_le (Heap.lt_size e) I.ok.above))).trans e1⟩
    · by_cases hj : j = i
      · subst hj
        rw [hi] at e1; cases e1
        rw [List.getElem?_set_self hiσ] at e2
        cases e2
        exact ⟨u, r, .inl ⟨hk, by simp⟩⟩
      · rw [List.getElem?_set_ne (Ne.symm hj)] at e2
        obtain ⟨u', r', q⟩ := hl j y v' e1 e2 e3
        refine ⟨u', r', ?_⟩
        rcases q with ⟨k, e⟩ | ⟨k, c, e, z⟩
        · refine .inl ⟨k, ?_⟩
          have : y ≠ x := fun e => hj (nodup_ix hN e1 (e ▸ hi))
          simp [this, e]
        · exact .inr ⟨k, c, e, z.sameBut hs (cne y c e)⟩
    · obtain ⟨w', z⟩ := I.cell y c e
      exact ⟨w', z.sameBut hs (cne y c e)⟩
    · obtain ⟨e, n, ne, nf, d⟩ := I.pin p hp
      exact ⟨(hs.2 p.1 ne).trans e, n, ne, nf, d⟩
  · have hfn : X.fn x = true := by
      rcases hf with z | z
      · exact z
      · rw [z] at hk; cases hk
    obtain ⟨c, hc⟩ := I.ok.has x (.inl hk)
    obtain ⟨w', z⟩ := I.cell x c hc
    refine wpAny_storeName_cell I.ok.kind hk hc z (fun h' hc' hs => ?_)
    obtain ⟨oc, hoc, hocd⟩ := id z
    refine h { s with heap := h' } ⟨I.ok, I.os, I.bare, ⟨fun b o e n hb hx => ?_, fun b o e n hb hx => ?_, I.base.free, fun b o e hx => ?_, I.base.tups, I.base.frzs, I.base.tbls⟩, ⟨m, hn.sameBut hs (Ne.symm (cne x c hc)), fun j y v' e1 e2 e3 => ?_⟩, fun y c' e => ?_, I.free, I.freeC, fun p hp => ?_, tracked ⟨oc, hoc, I.freeC x c hc⟩ hs, by simpa using I.len⟩ ⟨c, hs, .inr hc⟩
    · exact (hs.2 b (Nat.ne_of_lt (Nat.lt_of_lt_of_le (Heap.lt_size e) (I.ok.cab x c hfn hc)))).trans (I.base.keep b o e n hb hx)
    · obtain ⟨sl, e1⟩ := I.base.slot b o e n hb hx
      exact ⟨sl, (hs.2 b (Nat.ne_of_lt (Nat.lt_of_lt_of_le (Heap.lt_size e) (I.ok.cab x c hfn hc)))).trans e1⟩
    · obtain ⟨o', e1⟩ := I.base.there b o e hx
      exact ⟨o', (hs.2 b (Nat.ne_of_lt (Nat.lt_of_lt_of_le (Heap.lt_size e) (I.ok.cab x c hfn hc)))).trans e1⟩
    · by_cases hj : j = i
      · subst hj
        rw [hi] at e1; cases e1
        rw [List.getElem?_set_self hiσ] at e2
        cases e2
        exact ⟨u, r, .inr ⟨.inl hk, c, hc, hc'⟩⟩
      · rw [List.getElem?_set_ne (Ne.symm hj)] at e2
        obtain ⟨u', r', q⟩ := hl j y v' e1 e2 e3
        refine ⟨u', r', ?_⟩
        rcases q with q | ⟨k, c', e, z'⟩
        · exact .inl q
        · refine .inr ⟨k, c', e, z'.sameBut hs ?_⟩
          rintro rfl
          exact hj (nodup_ix hN e1 (I.ok.inj _ _ _ e hc ▸ hi))
    · by_cases hcc : c' = c
      · subst hcc; exact ⟨_, hc'⟩
      · obtain ⟨w2, z2⟩ := I.cell y c' e
        exact ⟨w2, z2.sameBut hs hcc⟩
    · obtain ⟨e, n, ne, nf, d⟩ := I.pin p hp
      refine ⟨(hs.2 p.1 ?_).trans e, n, ne, nf, d⟩
      intro q
      rw [q, hoc] at e
      have q' : oc = p.2 := Option.some.inj e
      exact d w' (by rw [← q']; exact hocd)
theorem store_ok {M : Model} {A : Around} {E : Value → Shared → Prop} {i : Nat} {x : Str} {v : V} {u : Value} {Q : Unit → Shared → Prop} (I : Inv X pins σ H s) (hN : X.N.Nodup) (hi : X.N[i]? = some x) (hx : Loc X.env.scope x) (r : RelV v u)
    (h : ∀ s', Inv X pins (σ.set i (some v)) H s' → Q () s') (hf : X.fn x = true ∨ X.env.scope.names.lookup x = some .local := by first | exact .inl rfl | exact .inr rfl | assumption) : wpAny M A (storeName X.env x u) Q E s :=
  store_ok2 I hN hi hx r (fun s' I' _ => h s' I') hf
theorem Inv.call' {s' : Shared} {ch : List Addr} (I : Inv X pins σ H s) (ho : s'.os = s.os) (u : Un (frs X.stack) ch H H' s.heap s'.heap) (hok : HOk X.prog X.w H' s'.heap) (hg : AllBare s'.gens)
    (hch : ∀ b ∈ ch, (b ∈ X.ex ∨ X.s₀.heap.objs.size ≤ b) ∧ b ≠ X.env.locals ∧ (∀ x c, X.env.cells.lookup x = some c → c ≠ b) ∧ ∀ p ∈ X.pn ++ pins, p.1 ≠ b) : Inv X pins σ H' s' := by
  obtain ⟨h', g', d', t', o'⟩ := s'
  have e : o' = s.os := ho
  subst e
  exact I.call (g' := g') (t' := t') (d' := d') u hok hg hch
end
abbrev XK := Value → Option Addr → Hp → Prop
abbrev St := List (Option V)
abbrev VK := V → Hp → Prop
abbrev TE := St → Hp → VK → Prop
abbrev TT := St → Hp → (Bool → Hp → Prop) → Prop
abbrev TA := St → Hp → (List V → Hp → Prop) → Prop
structure Ends where
  nx : St → Hp → Prop
  rt : VK
  bk : St → Hp → Prop := fun _ _ => False
  ct : St → Hp → Prop := fun _ _ => False
abbrev TS := Ends → St → Hp → Prop
def EP (X : Cx) (pins : List (Addr × Obj)) (σ : St) (Q : VK) (u : Value) (s' : Shared) : Prop := ∃ v H', Inv X pins σ H' s' ∧ RelV v u ∧ Q v H'
def TP (X : Cx) (pins : List (Addr × Obj)) (σ : St) (Q : Bool → Hp → Prop) (b : Bool) (s' : Shared) : Prop := ∃ H', Inv X pins σ H' s' ∧ Q b H'
def AP (X : Cx) (pins : List (Addr × Obj)) (σ : St) (Q : List V → Hp → Prop) (us : List Value) (s' : Shared) : Prop := ∃ vs H', Inv X pins σ H' s' ∧ Vals vs us ∧ Q vs H'
def SP (X : Cx) (pins : List (Addr × Obj)) (D : Ends) (f : Flow) (s' : Shared) : Prop :=
  match f with
  | .next => ∃ σ' H', Inv X pins σ' H' s' ∧ D.nx σ' H'
  | .brk => ∃ σ' H', Inv X pins σ' H' s' ∧ D.bk σ' H'
  | .cont => ∃ σ' H', Inv X pins σ' H' s' ∧ D.ct σ' H'
  | .ret u => ∃ v σ' H', Inv X pins σ' H' s' ∧ RelV v u ∧ D.rt v H'
def PE (X : Cx) (e : Expr) (t : TE) : Prop :=
  ∀ (pins : List (Addr × Obj)) (s : Shared) (σ : St) (H : Hp) (Q : VK), Inv X pins σ H s → t σ H Q → wpAny (model X.prog X.w) X.A (eval e X.env) (EP X pins σ Q) X.xe s
def PT (X : Cx) (e : Expr) (t : TT) : Prop :=
  ∀ (pins : List (Addr × Obj)) (s : Shared) (σ : St) (H : Hp) (Q : Bool → Hp → Prop), Inv X pins σ H s → t σ H Q → wpAny (model X.prog X.w) X.A (isTrue e X.env (eval e X.env)) (TP X pins σ Q) X.xe s
def PW (X : Cx) (e : Expr) (t : TT) : Prop :=
  ∀ (whole : Sem Value) (pins : List (Addr × Obj)) (s : Shared) (σ : St) (H : Hp) (Q : Bool → Hp → Prop), Inv X pins σ H s → t σ H Q → wpAny (model X.prog X.w) X.A (isTrue e X.env whole) (TP X pins σ Q) X.xe s
theorem PW.pt {X : Cx} {e : Expr} {t : TT} (h : PW X e t) : PT X e t := h _
def PA (X : Cx) (es : List Expr) (t : TA) : Prop :=
  ∀ (pos : Pos) (pins : List (Addr × Obj)) (s : Shared) (σ : St) (H : Hp) (Q : List V → Hp → Prop), Inv X pins σ H s → t σ H Q → wpAny (model X.prog X.w) X.A (spliced (backTo pos (starEach es X.env))) (AP X pins σ Q) X.xe s
def PS (X : Cx) (st : Stmt) (t : TS) : Prop :=
  ∀ (pins : List (Addr × Obj)) (s : Shared) (σ : St) (H : Hp) (D : Ends), Inv X pins σ H s → t D σ H → wpAny (model X.prog X.w) X.A (exec st X.env) (SP X pins D) X.xe s
def PSs (X : Cx) (st : List Stmt) (t : TS) : Prop :=
  ∀ (pins : List (Addr × Obj)) (s : Shared) (σ : St) (H : Hp) (D : Ends), Inv X pins σ H s → t D σ H → wpAny (model X.prog X.w) X.A (execs st X.env) (SP X pins D) X.xe s
theorem thn {α : Type} {t : Sem α} {Q Q' : α → Shared → Prop} {M : Model} {A : Around} {E : Value → Shared → Prop} {s : Shared} (h : wpAny M A t Q E s) (hQ : ∀ a s, Q a s → Q' a s) : wpAny M A t Q' E s := wpAny_mono h hQ fun _ _ x => x
end L2
namespace L2
open PySem PySem.Spec PyProof.Rows
section
variable {X : Cx}
theorem bin {a b : Expr} {ta tb : TE} (ha : PE X a ta) (hb : PE X b tb) {pins : List (Addr × Obj)} {s : Shared} {σ : St} {H : Hp} {R : V → V → Hp → Prop} (I : Inv X pins σ H s) (h : ta σ H fun x H1 => tb σ H1 fun y H2 => R x y H2)
    {α : Type} {Q : α → Shared → Prop} {f : Value → Value → Sem α}
    (hf : ∀ v u s2 x y H2, Inv X pins σ H2 s2 → RelV x v → RelV y u → R x y H2 → wpAny (model X.prog X.w) X.A (f v u) Q X.xe s2) :
    wpAny (model X.prog X.w) X.A (eval a X.env) (fun v s₁ => wpAny (model X.prog X.w) X.A (eval b X.env) (fun u s₂ => wpAny (model X.prog X.w) X.A (f v u) Q X.xe s₂) X.xe s₁) X.xe s := by
  refine thn (ha pins s σ H _ I h) fun v s1 ⟨x, H1, I1, r1, q1⟩ => ?_
  refine thn (hb pins s1 σ H1 _ I1 q1) fun u s2 ⟨y, H2, I2, r2, q2⟩ => ?_
  exact hf v u s2 x y H2 I2 r1 r2 q2
def tVar (i : Nat) : TE := fun σ H Q => ∃ v, σ[i]? = some (some v) ∧ Q v H
def tC (v : V) : TE := fun _ H Q => Q v H
theorem pe_var {i : Nat} {x : Str} {pos : Pos} (hN : X.N[i]? = some x) (hv : Vis X.env.scope x) (hd : (x == ("__debug__" : Str)) = false := by decide) (hcd : (x == ("__classdict__" : Str)) = false := by decide) : PE X (.Name x pos) (tVar i) := by
  intro pins s σ H Q I h
  obtain ⟨v, e, h⟩ := h
  obtain ⟨m, hn, hl⟩ := I.loc
  obtain ⟨u, r, l⟩ := hl i x v hN e hv
  have fin : EP X pins σ Q u s := ⟨v, H, I, r, h⟩
  rcases l with ⟨hk, hm⟩ | ⟨hk, c, hc, hcell⟩
  · exact wpAny_Name (wpAny_loadName_local I.ok.kind hk hn hm fin) hd
  · rcases hk with hk | hk
    · exact wpAny_Name (wpAny_loadName_cell I.ok.kind hk hc hcell fin) hd
    · exact wpAny_Name (wpAny_loadName_free I.ok.kind hk hc hcell fin hcd) hd
theorem pe_int {i j pos} : PE X (.Constant (.int i) j pos) (tC (.int i)) := fun _ _ _ H _ I h => wpAny_Constant_int ⟨.int i, H, I.tok _, ⟨_, rfl⟩, h⟩
theorem pe_bl {b j pos} : PE X (.Constant (.bool b) j pos) (tC (.bl b)) := fun _ _ _ H _ I h => Constant_bool ⟨.bl b, H, I, rfl, h⟩
theorem pe_non {j pos} : PE X (.Constant .none j pos) (tC .non) := fun _ _ _ H _ I h => Constant_none ⟨.non, H, I, rfl, h⟩
def Gl (X : Cx) (x : Str) : Prop := X.env.kindOf x = some .globalImplicit
theorem ld_glob {E : Value → Shared → Prop} {pins : List (Addr × Obj)} {s : Shared} {σ : St} {H : Hp} {x : Str} {u : Value} {pos : Pos} {Q : Value → Shared → Prop} (I : Inv X pins σ H s) (hg : Gl X x) (hm : X.mg x = some u) (h : Q u s)
    (hd : (x == ("__debug__" : Str)) = false := by decide) : wpAny (model X.prog X.w) X.A (eval (.Name x pos) X.env) Q E s :=
  Calls.Name_function_global I.ok.kind hg (Calls.loadGlobal_global (by rw [I.ok.glob]; exact I.mod.glob.keeps I.bk) hm h) hd
theorem ld_blt {E : Value → Shared → Prop} {pins : List (Addr × Obj)} {s : Shared} {σ : St} {H : Hp} {x : Str} {u : Value} {pos : Pos} {Q : Value → Shared → Prop} (I : Inv X pins σ H s) (hg : Gl X x) (hm : X.mg x = none) (hv : bootBuiltins x = some u) (h : Q u s)
    (hn : x ≠ "__name__" := by decide) (hd : (x == ("__debug__" : Str)) = false := by decide) : wpAny (model X.prog X.w) X.A (eval (.Name x pos) X.env) Q E s := by
  obtain ⟨mb, h1, h2⟩ := I.mod.blt
  exact Calls.Name_function_global I.ok.kind hg (Calls.loadGlobal_builtin (by rw [I.ok.glob]; exact I.mod.glob.keeps I.bk) hm (by rw [I.ok.blt]; exact h1.keeps I.bk) ((h2 x hn).trans hv) h) hd
theorem pe_glob {x : Str} {v : V} {u : Value} {pos : Pos} (hg : Gl X x) (hm : X.mg x = some u) (r : RelV v u) (hd : (x == ("__debug__" : Str)) = false := by decide) : PE X (.Name x pos) (tC v) :=
  fun _ _ _ H _ I h => ld_glob I hg hm ⟨v, H, I, r, h⟩ hd
variable {a b : Expr} {ta tb : TE} {pos : Pos}
def PC (X : Cx) (op : CmpOp) (a b : Expr) (t : TE) : Prop :=
  ∀ (pins : List (Addr × Obj)) (s : Shared) (σ : St) (H : Hp) (Q : VK), Inv X pins σ H s → t σ H Q →
    wpAny (model X.prog X.w) X.A (eval a X.env) (fun v s₁ => wpAny (model X.prog X.w) X.A (eval b X.env) (fun u s₂ => wpAny (model X.prog X.w) X.A (compareOp op v u) (EP X pins σ Q) X.xe s₂) X.xe s₁) X.xe s
theorem nobehind (b : Expr) {op : CmpOp} (h : op ≠ .In) (h2 : op ≠ .NotIn) : behindInMarks op b = false := by
  have e1 : (op == CmpOp.In) = false := by cases op <;> first | rfl | exact absurd rfl h
  have e2 : (op == CmpOp.NotIn) = false := by cases op <;> first | rfl | exact absurd rfl h2
  cases b <;> simp [behindInMarks, e1, e2]
def tB (t : TE) : TT := fun σ H Q => t σ H fun x H1 => ∃ c, x = .bl c ∧ Q c H1
theorem pt_cmp {op : CmpOp} {t : TE} (h : PC X op a b t) (h1 : behindInMarks op b = false := by first | exact nobehind _ (by decide) (by decide) | rfl) : PT X (.Compare a [op] [b] pos) (tB t) := by
  intro pins s σ H Q I hw
  refine wpAny_isTrue_Compare1 (thn (h pins s σ H _ I hw) fun v s1 h1 => thn h1 fun u s2 h2 => thn h2 fun c s3 ⟨x, H1, I1, r1, q1⟩ => ?_) h1
  obtain ⟨d, rfl, q⟩ := q1
  cases r1
  exact wpAny_truthy_bool ⟨H1, I1, q⟩
theorem pt_val {e : Expr} {t : TE} (h : PE X e t) (he : ∀ whole, isTrue e X.env whole = (do let v ← whole; standAt e.pos; holding [v] (truthy v)) := by intro _; rfl) : PT X e (tB t) := by
  intro pins s σ H Q I hw
  refine isTrue_plain (thn (h pins s σ H _ I hw) fun v s1 ⟨x, H1, I1, r1, q1⟩ => ?_) (he _)
  obtain ⟨d, rfl, q⟩ := q1
  cases r1
  exact wpAny_truthy_bool ⟨H1, I1, q⟩
variable {tA tB' : TT} {rest : List Expr}
def tAnd (t u : TT) : TT := fun σ H Q => t σ H fun c H1 => if c = true then u σ H1 Q else Q false H1
def tOr (t u : TT) : TT := fun σ H Q => t σ H fun c H1 => if c = true then Q true H1 else u σ H1 Q
theorem pw_and1 (ha : PT X a tA) : PW X (.BoolOp .And [a] pos) tA := by
  intro wh pins s σ H Q I h
  refine isTrue_and (thn (ha pins s σ H Q I h) fun c s1 e => ?_)
  cases c with
  | true => exact isTrue_and_nil e
  | false => exact e
theorem pw_or1 (ha : PT X a tA) : PW X (.BoolOp .Or [a] pos) tA := by
  intro wh pins s σ H Q I h
  refine isTrue_or (thn (ha pins s σ H Q I h) fun c s1 e => ?_)
  cases c with
  | false => exact isTrue_or_nil e
  | true => exact e
theorem pw_and (ha : PT X a tA) (hb : PW X (.BoolOp .And (b :: rest) pos) tB') : PW X (.BoolOp .And (a :: b :: rest) pos) (tAnd tA tB') := by
  intro wh pins s σ H Q I h
  refine isTrue_and (thn (ha pins s σ H _ I h) fun c s1 ⟨H1, I1, q1⟩ => ?_)
  cases c with
  | true => exact hb wh pins s1 σ H1 Q I1 q1
  | false => exact ⟨H1, I1, q1⟩
theorem pw_or (ha : PT X a tA) (hb : PW X (.BoolOp .Or (b :: rest) pos) tB') : PW X (.BoolOp .Or (a :: b :: rest) pos) (tOr tA tB') := by
  intro wh pins s σ H Q I h
  refine isTrue_or (thn (ha pins s σ H _ I h) fun c s1 ⟨H1, I1, q1⟩ => ?_)
  cases c with
  | true => exact ⟨H1, I1, q1⟩
  | false => exact hb wh pins s1 σ H1 Q I1 q1
def tAndV (ta tb : TE) : TE := fun σ H Q => ta σ H fun x H1 => ∃ c, x = .bl c ∧ if c = true then tb σ H1 Q else Q (.bl false) H1
theorem pe_one {op} {t : TE} (h : PE X a t) : PE X (.BoolOp op [a] pos) t := fun pins s σ H Q I hw => BoolOp_one (h pins s σ H Q I hw)
theorem pe_and (ha : PE X a ta) (hb : PE X (.BoolOp .And (b :: rest) pos) tb) : PE X (.BoolOp .And (a :: b :: rest) pos) (tAndV ta tb) := by
  intro pins s σ H Q I h
  refine BoolOp_and (thn (ha pins s σ H _ I h) fun v s1 ⟨x, H1, I1, r1, q1⟩ => ?_)
  obtain ⟨c, rfl, q1⟩ := q1
  cases r1
  refine wpAny_truthy_bool ?_
  cases c with
  | true => exact hb pins s1 σ H1 Q I1 q1
  | false => exact ⟨.bl false, H1, I1, rfl, q1⟩
def tIf (t : TT) (ta tb : TE) : TE := fun σ H Q => t σ H fun c H1 => if c = true then ta σ H1 Q else tb σ H1 Q
theorem pe_ifExp {c : Expr} (hc : PT X c tA) (ha : PE X a ta) (hb : PE X b tb) : PE X (.IfExp c a b pos) (tIf tA ta tb) := by
  intro pins s σ H Q I h
  refine wpAny_IfExp (thn (hc pins s σ H _ I h) fun d s1 ⟨H1, I1, q1⟩ => ?_)
  cases d with
  | true => exact ha pins s1 σ H1 Q I1 q1
  | false => exact hb pins s1 σ H1 Q I1 q1
end
end L2
namespace L2
open PySem PySem.Spec PyProof.Rows
def SqL (K : PySem.W.Frag) (H : Hp) (a : Addr) (xs : List V) : Prop :=
  Rd H a (.lst xs) ∨
    ∃ (o : Obj) (its : Array Value) (n : Nat), K.lookup a = some o ∧ o.cls = .type "list" ∧ o.dict = none ∧ o.data = .seq its n ∧ its.size ≤ sizeLine ∧ Vals xs its.toList
def SqT (K : PySem.W.Frag) (H : Hp) (a : Addr) (xs : List V) : Prop :=
  Rd H a (.tup xs) ∨
    ∃ (o : Obj) (its : Array Value) (n : Nat), K.lookup a = some o ∧ o.cls = .type "tuple" ∧ o.data = .seq its n ∧ its.size ≤ sizeLine ∧ Vals xs its.toList
def absV : Value → Option V
  | .none => some .non
  | .bool b => some (.bl b)
  | .int i _ => some (.int i)
  | .str x _ => some (.str x)
  | .bytes b _ => some (.byt b)
  | .float b _ => some (.flt b)
  | .ref a => some (.ref a)
  | .type n => some (.ty n)
  | _ => none
theorem RelV.abs {x : V} {u : Value} (r : RelV x u) : absV u = some x := by
  cases x with
  | non => cases r; rfl
  | bl _ => cases r; rfl
  | int _ => obtain ⟨t, rfl⟩ := r; rfl
  | str _ => obtain ⟨t, rfl⟩ := r; rfl
  | byt _ => obtain ⟨t, rfl⟩ := r; rfl
  | flt _ => obtain ⟨t, rfl⟩ := r; rfl
  | ref _ => cases r; rfl
  | ty _ => cases r; rfl
theorem RelV.inj {x y : V} {u : Value} (r : RelV x u) (q : RelV y u) : x = y := Option.some.inj (r.abs.symm.trans q.abs)
theorem Vals.inj : ∀ {xs ys : List V} {us : List Value}, Vals xs us → Vals ys us → xs = ys
  | _, _, _, .nil, .nil => rfl
  | _, _, _, .cons r t, .cons r' t' => by rw [r.inj r', Vals.inj t t']
section
variable {X : Cx} {pins : List (Addr × Obj)} {σ : St} {H : Hp} {s : Shared} {a : Addr} {xs ys : List V}
theorem SqL.of {K : PySem.W.Frag} (h : H a = some (.lst xs)) : SqL K H a xs := .inl (.inl h)
theorem SqT.of {K : PySem.W.Frag} (h : H a = some (.tup xs)) : SqT K H a xs := .inl (.inl h)
theorem Inv.list (I : Inv X pins σ H s) (h : SqL X.K H a xs) : ∃ its : List Value, Vals xs its ∧ PlainL s.heap a its.toArray ∧ xs.length ≤ sizeLine := by
  rcases h with h | ⟨o, its, n, hk, hc, hd, hs, hz, r⟩
  · obtain ⟨z, its, n, r, e⟩ := h.ok I.hok
    exact ⟨its, r, ⟨_, n, e, rfl, rfl, rfl⟩, z⟩
  · refine ⟨its.toList, r, ⟨o, n, I.kIn a o hk, hc, hd, by simpa using hs⟩, ?_⟩
    have e := r.length
    simp only [Array.length_toList] at e
    omega
theorem Inv.tuple (I : Inv X pins σ H s) (h : SqT X.K H a xs) : ∃ its : List Value, Vals xs its ∧ IsTup s.heap a its.toArray ∧ xs.length ≤ sizeLine := by
  rcases h with h | ⟨o, its, n, hk, hc, hs, hz, r⟩
  · obtain ⟨z, its, r, p⟩ := h.ok I.hok
    exact ⟨its, r, p, z⟩
  · refine ⟨its.toList, r, ⟨o, I.kIn a o hk, hc, n, by simpa using hs⟩, ?_⟩
    have e := r.length
    simp only [Array.length_toList] at e
    omega
theorem Inv.list_inj (I : Inv X pins σ H s) (h : SqL X.K H a xs) (h' : SqL X.K H a ys) : xs = ys := by
  obtain ⟨its, r, ⟨o, n, e, _, _, d⟩, _⟩ := I.list h
  obtain ⟨its', r', ⟨o', n', e', _, _, d'⟩, _⟩ := I.list h'
  rw [e] at e'; cases e'
  rw [d] at d'
  injection d' with d1 _
  have : its = its' := by simpa using congrArg Array.toList d1
  subst this
  exact r.inj r'
theorem Inv.tuple_inj (I : Inv X pins σ H s) (h : SqT X.K H a xs) (h' : SqT X.K H a ys) : xs = ys := by
  obtain ⟨its, r, ⟨o, e, _, n, d⟩, _⟩ := I.tuple h
  obtain ⟨its', r', ⟨o', e', _, n', d'⟩, _⟩ := I.tuple h'
  rw [e] at e'; cases e'
  rw [d] at d'
  injection d' with d1 _
  have : its = its' := by simpa using congrArg Array.toList d1
  subst this
  exact r.inj r'
end
abbrev Cx.wish (X : Cx) (E : Value → Shared → Prop) : Cx := { X with xe := E }
abbrev Cx.nox (X : Cx) : Cx := X.wish fun _ _ => False
theorem Cx.Ok.wish {X : Cx} (ok : X.Ok) (E : Value → Shared → Prop) : (X.wish E).Ok :=
  ⟨ok.mod, ok.kind, ok.glob, ok.blt, ok.above, ok.inj, ok.has, ok.cab, ok.hd, ok.frames, ok.stk, ok.exf, ok.bs, ok.bsz, ok.noex, ok.exfs, ok.funs, ok.frf⟩
theorem Cx.Ok.unwish {X : Cx} {E : Value → Shared → Prop} (ok : (X.wish E).Ok) : X.Ok :=
  ⟨ok.mod, ok.kind, ok.glob, ok.blt, ok.above, ok.inj, ok.has, ok.cab, ok.hd, ok.frames, ok.stk, ok.exf, ok.bs, ok.bsz, ok.noex, ok.exfs, ok.funs, ok.frf⟩
section
variable {X : Cx} {pins : List (Addr × Obj)} {σ : St} {H : Hp} {s : Shared} {E : Value → Shared → Prop}
theorem Inv.wish (I : Inv X pins σ H s) (E : Value → Shared → Prop) : Inv (X.wish E) pins σ H s := ⟨I.ok.wish E, I.os, I.bare, I.base, I.loc, I.cell, I.free, I.freeC, I.pin, I.hok, I.len⟩
theorem Inv.unwish (I : Inv (X.wish E) pins σ H s) : Inv X pins σ H s := ⟨I.ok.unwish, I.os, I.bare, I.base, I.loc, I.cell, I.free, I.freeC, I.pin, I.hok, I.len⟩
theorem SP.unwish {D : Ends} {f : Flow} {s' : Shared} (h : SP (X.wish E) pins D f s') : SP X pins D f s' := by
  cases f with
  | next => obtain ⟨σ', H', I, q⟩ := h; exact ⟨σ', H', I.unwish, q⟩
  | brk => obtain ⟨σ', H', I, q⟩ := h; exact ⟨σ', H', I.unwish, q⟩
  | cont => obtain ⟨σ', H', I, q⟩ := h; exact ⟨σ', H', I.unwish, q⟩
  | ret u => obtain ⟨v, σ', H', I, r, q⟩ := h; exact ⟨v, σ', H', I.unwish, r, q⟩
theorem PSs.nox {st : List Stmt} {t : TS} (h : PSs X.nox st t) : PSs X st t := fun pins s σ H D I hw =>
  wpAny_mono (h pins s σ H D (I.wish _) hw) (fun _ _ q => q.unwish) fun _ _ z => False.elim z
end
section
variable {X : Cx} {st : Stmt} {rest : List Stmt} {t u : TS} {e : Expr} {te : TE} {pos : Pos}
def tNext : TS := fun D σ H => D.nx σ H
def tSeq (t u : TS) : TS := fun D σ H => t { D with nx := u D } σ H
theorem pss_nil : PSs X [] tNext := fun _ _ σ H _ I h => wpAny_execs_nil ⟨σ, H, I, h⟩
theorem pss_cons (h1 : PS X st t) (h2 : PSs X rest u) : PSs X (st :: rest) (tSeq t u) := by
  intro pins s σ H D I h
  refine wpAny_execs_cons (thn (h1 pins s σ H { D with nx := u D } I h) fun f s1 q => ?_)
  cases f with
  | next =>
    obtain ⟨σ', H', I', q⟩ := q
    exact h2 pins s1 σ' H' D I' q
  | ret v => exact q
  | brk => exact q
  | cont => exact q
theorem pss_one (h1 : PS X st t) : PSs X [st] t := by
  intro pins s σ H D I h
  refine wpAny_execs_cons (thn (h1 pins s σ H D I h) fun f s1 q => ?_)
  cases f with
  | next => exact wpAny_execs_nil q
  | ret v => exact q
  | brk => exact q
  | cont => exact q
theorem Inv.quiet {pins : List (Addr × Obj)} {σ : St} {H : Hp} {s : Shared} (I : Inv X pins σ H s) : interactive X.env = false := by simp [interactive, I.ok.kind]
def tDrop (te : TE) : TS := fun D σ H => te σ H fun _ H1 => D.nx σ H1
theorem ps_expr (he : PE X e te) (hs : swapsWith e none pos.line X.env = pure false := by rfl) : PS X (.Expr e pos) (tDrop te) := by
  intro pins s σ H D I h
  exact wpAny_Expr_any (thn (he pins s σ H _ I h) fun v s1 ⟨x, H1, I1, r1, q1⟩ => ⟨σ, H1, I1, q1⟩) I.quiet hs
def tRet (te : TE) : TS := fun D σ H => te σ H D.rt
theorem ps_ret (he : PE X e te) : PS X (.Return (some e) pos) (tRet te) := by
  intro pins s σ H D I h
  exact wpAny_Return_some (thn (he pins s σ H _ I h) fun v s1 ⟨x, H1, I1, r1, q1⟩ => ⟨x, σ, H1, I1, r1, q1⟩)
def tIfS (c : TT) (t u : TS) : TS := fun D σ H => c σ H fun b H1 => if b = true then t D σ H1 else u D σ H1
theorem ps_if {c : Expr} {a b : List Stmt} {tc : TT} (hc : PT X c tc) (ha : PSs X a t) (hb : PSs X b u) : PS X (.If c a b pos) (tIfS tc t u) := by
  intro pins s σ H D I h
  refine wpAny_If (thn (hc pins s σ H _ I h) fun d s1 ⟨H1, I1, q1⟩ => ?_)
  cases d with
  | true => exact ha pins s1 σ H1 D I1 q1
  | false => exact hb pins s1 σ H1 D I1 q1
end
abbrev TG := V → St → Hp → (St → Hp → Prop) → Prop
abbrev TGs := List V → St → Hp → (St → Hp → Prop) → Prop
def PG (X : Cx) (target : Expr) (t : TG) : Prop :=
  ∀ (pins : List (Addr × Obj)) (s : Shared) (σ : St) (H : Hp) (v : V) (u : Value) (Q : St → Hp → Prop), Inv X pins σ H s → RelV v u → t v σ H Q →
    wpAny (model X.prog X.w) X.A (assign target X.env u) (fun _ s' => ∃ σ' H', Inv X pins σ' H' s' ∧ Q σ' H') X.xe s
def PGs (X : Cx) (ts : List Expr) (t : TGs) : Prop :=
  ∀ (pins : List (Addr × Obj)) (s : Shared) (σ : St) (H : Hp) (vs : List V) (us : List Value) (Q : St → Hp → Prop), Inv X pins σ H s → Vals vs us → t vs σ H Q →
    wpAny (model X.prog X.w) X.A (assignInOrder ((assignEach ts X.env).map (·.2)) us) (fun _ s' => ∃ σ' H', Inv X pins σ' H' s' ∧ Q σ' H') X.xe s
section
variable {X : Cx} {pos : Pos}
def gName (i : Nat) : TG := fun v σ H Q => Q (σ.set i (some v)) H
theorem pg_name {i : Nat} {x : Str} (hN : X.N.Nodup) (hi : X.N[i]? = some x) (hx : Loc X.env.scope x) (hf : X.fn x = true ∨ X.env.scope.names.lookup x = some .local := by first | exact .inl rfl | exact .inr rfl | assumption) : PG X (.Name x pos) (gName i) := by
  intro pins s σ H v u Q I r h
  exact wpAny_assign_Name (store_ok I hN hi hx r (fun s' I' => ⟨_, H, I', h⟩) hf)
def gNil : TGs := fun vs σ H Q => vs = [] ∧ Q σ H
def gCons (t : TG) (u : TGs) : TGs := fun vs σ H Q => ∃ v r, vs = v :: r ∧ t v σ H fun σ' H' => u r σ' H' Q
theorem pgs_nil : PGs X [] gNil := by
  intro pins s σ H vs us Q I r h
  obtain ⟨e, h⟩ := h
  subst e
  cases r
  exact assignInOrder_nil ⟨σ, H, I, h⟩
theorem pgs_cons {e : Expr} {es : List Expr} {t : TG} {u : TGs} (h1 : PG X e t) (h2 : PGs X es u)
    (hs : (assignEach (e :: es) X.env).map (·.2) = assign e X.env :: (assignEach es X.env).map (·.2) := by rfl) : PGs X (e :: es) (gCons t u) := by
  intro pins s σ H vs us Q I r h
  obtain ⟨v, vr, e1, h⟩ := h
  subst e1
  cases r with
  | cons r rr =>
    rw [hs]
    refine assignInOrder_cons (thn (h1 pins s σ H _ _ _ I r h) fun _ s1 ⟨σ1, H1, I1, q1⟩ => ?_)
    exact h2 pins s1 σ1 H1 _ _ Q I1 rr q1
def gTup (K : PySem.W.Frag) (n : Nat) (t : TGs) : TG := fun v σ H Q => ∃ a xs, v = .ref a ∧ SqT K H a xs ∧ xs.length = n ∧ t xs σ H Q
theorem pg_tup {es : List Expr} {k : Nat} {t : TGs} {n : Nat} (hc : X.calm = true) (h : PGs X es t)
    (hn : (assignEach es X.env).length = n := by rfl) (hst : (assignEach es X.env).findIdx? (·.1) = none := by rfl) : PG X (.Tuple es k pos) (gTup X.K n t) := by
  intro pins s σ H v u Q I r hw
  obtain ⟨a, xs, e1, hq, hl, hw⟩ := hw
  subst e1
  cases r
  obtain ⟨its, rv, ht, hz⟩ := I.tuple hq
  refine assign_Tuple_tuple (I.ok.hd hc) ht (by simp [hn, ← hl, rv.length]) hst fun h' hx => ?_
  have I1 : Inv X pins σ H { s with heap := h' } := I.kept (t' := s.toks) fun b o e => hx b o (Nat.ne_of_lt (Heap.lt_size e)) e
  exact h pins _ σ H xs _ Q I1 (by simpa using rv) hw
def tAsg (te : TE) (g : TG) : TS := fun D σ H => te σ H fun x H1 => g x σ H1 D.nx
theorem ps_set {i : Nat} {x : Str} {e : Expr} {te : TE} {pos' : Pos} (hN : X.N.Nodup) (hi : X.N[i]? = some x) (hx : Loc X.env.scope x) (he : PE X e te) (hs : swapsWith e (some (.Name x pos')) pos.line X.env = pure false := by rfl) (hf : X.fn x = true ∨ X.env.scope.names.lookup x = some .local := by first | exact .inl rfl | exact .inr rfl | assumption) :
    PS X (.Assign [.Name x pos'] e pos) (tAsg te (gName i)) := by
  intro pins s σ H D I h
  refine wpAny_Assign_Name (thn (he pins s σ H _ I h) fun v s1 ⟨y, H1, I1, r1, q1⟩ => ?_) hs
  exact store_ok I1 hN hi hx r1 (fun s2 I2 => ⟨_, H1, I2, q1⟩) hf
end
section
variable {X : Cx} {pos : Pos}
def tWhile (c : TT) (tb : TS) : TS := fun D σ H => ∃ W : Nat → St → Hp → Prop, (∃ m, W m σ H) ∧ ∀ m σ H, W m σ H →
  c σ H fun b H1 => if b = true then ∃ N : St → Hp → Prop, (∀ σ' H', N σ' H' → ∃ m', m' < m ∧ W m' σ' H') ∧ tb { D with nx := N, ct := N, bk := D.nx } σ H1 else D.nx σ H1
theorem ps_while {c : Expr} {body : List Stmt} {tc : TT} {tb : TS} (hp : PassesOwn (model X.prog X.w) X.A X.env X.xe) (hc : PT X c tc) (hb : PSs X body tb) : PS X (.While c body [] pos) (tWhile tc tb) := by
  intro pins s σ H D I h
  obtain ⟨W, ⟨m0, w0⟩, turn⟩ := h
  refine wpAny_While (codeAny_whileLoop (fun n s' => ∃ σ' H', Inv X pins σ' H' s' ∧ W n σ' H') ?_ m0 ⟨σ, H, I, w0⟩)
  rintro n s1 ⟨σ1, H1, I1, w1⟩
  refine wpAny_passesOwn hp (thn (hc pins s1 σ1 H1 _ I1 (turn n σ1 H1 w1)) fun b s2 ⟨H2, I2, q2⟩ => ?_)
  cases b with
  | true =>
    obtain ⟨N, hN, q2⟩ := q2
    rw [if_pos rfl]
    refine wpAny_passesOwn hp (thn (hb pins s2 σ1 H2 _ I2 q2) fun f s3 q3 => ?_)
    cases f with
    | next =>
      obtain ⟨σ3, H3, I3, n3⟩ := q3
      obtain ⟨m', hm, w3⟩ := hN σ3 H3 n3
      exact ⟨m', hm, σ3, H3, I3, w3⟩
    | cont =>
      obtain ⟨σ3, H3, I3, n3⟩ := q3
      obtain ⟨m', hm, w3⟩ := hN σ3 H3 n3
      exact ⟨m', hm, σ3, H3, I3, w3⟩
    | brk => exact q3
    | ret v => exact q3
  | false =>
    rw [if_neg Bool.false_ne_true]
    exact wpAny_execs_nil ⟨σ1, H2, I2, q2⟩
end
structure It where
  go : Nat → Hp → Prop
  yld : Nat → Hp → V → Hp → Prop
  stop : Nat → Hp → Prop
def FpOk (X : Cx) (pins : List (Addr × Obj)) (H : Hp) (b : Addr) : Prop :=
  H b = none ∧ b ≠ X.env.locals ∧ b ∉ X.fs ∧ (b ∈ X.ex ∨ X.s₀.heap.objs.size ≤ b) ∧ (∀ x c, X.env.cells.lookup x = some c → c ≠ b) ∧ ∀ p ∈ X.pn ++ pins, p.1 ≠ b
theorem Inv.fpOk {X : Cx} {pins : List (Addr × Obj)} {σ : St} {H H' : Hp} {s : Shared} {b : Addr} (I : Inv X pins σ H s) (hb : s.heap.objs.size ≤ b) (hn : H' b = none) : FpOk X pins H' b := by
  refine ⟨hn, Nat.ne_of_gt (Nat.lt_of_lt_of_le I.lt hb), I.nofs hb, .inr (Nat.le_trans I.sz hb), fun x c e z => ?_, fun p hp z => ?_⟩
  · obtain ⟨v, q⟩ := I.cell x c e
    exact absurd (Nat.lt_of_lt_of_le q.lt (by rw [z]; exact hb)) (Nat.lt_irrefl _)
  · exact absurd (Nat.lt_of_lt_of_le (Heap.lt_size (I.pin p hp).1) (by rw [z]; exact hb)) (Nat.lt_irrefl _)
structure Turn (P : Program) (w : World) (K : PySem.W.Frag) (tg : Expr) (J : It) (fp : List Addr) (it : Addr) (tn : Nat → Heap → Prop) : Prop where
  mem : it ∈ fp
  obj : ∀ i h, tn i h → ∀ b ∈ fp, ∃ o, h.get? b = some o ∧ ∀ v, o.data ≠ .cell v
  keep : ∀ i h h', tn i h → (∀ b ∈ fp, ∀ o, h.get? b = some o → h'.get? b = some o) → tn i h'
  item : ∀ (X : Cx), X.prog = P → X.w = w → X.K = K → X.calm = true → ∀ (i : Nat) (pins : List (Addr × Obj)) (s : Shared) (σ : St) (H : Hp) (E : Value → Shared → Prop), Inv X pins σ H s → (∀ b ∈ fp, FpOk X pins H b) → tn i s.heap → J.go i H →
    wpAny (model P w) X.A (pyNext (.ref it)) (fun r s1 => ∃ u, r = some u ∧
      wpAny (model P w) X.A (letOwnedTupleGo tg (.ref it) u) (fun _ s2 => ∃ x H', Inv X pins σ H' s2 ∧ RelV x u ∧ J.yld i H x H' ∧ tn (i + 1) s2.heap ∧ ∀ b ∈ fp, H' b = none) E s1) E s
  done : ∀ (X : Cx), X.prog = P → X.w = w → X.K = K → X.calm = true → ∀ (i : Nat) (pins : List (Addr × Obj)) (s : Shared) (σ : St) (H : Hp) (E : Value → Shared → Prop), Inv X pins σ H s → (∀ b ∈ fp, FpOk X pins H b) → tn i s.heap → J.stop i H →
    wpAny (model P w) X.A (pyNext (.ref it)) (fun r s1 => r = none ∧ Inv X pins σ H s1) E s
  self : ∀ (A : Around) (i : Nat) (s : Shared) (Q : Value → Shared → Prop) (E : Value → Shared → Prop), tn i s.heap → Q (.ref it) s → wpAny (model P w) A (pyIter (.ref it)) Q E s
abbrev TI := St → Hp → (It → Hp → Prop) → Prop
def PIE (X : Cx) (pins : List (Addr × Obj)) (σ : St) (tg : Expr) (R : It → Hp → Prop) (itv : Value) (s2 : Shared) : Prop :=
  ∃ (it : Addr) (fp : List Addr) (tn : Nat → Heap → Prop) (J : It) (H' : Hp), itv = .ref it ∧ Inv X pins σ H' s2 ∧ Turn X.prog X.w X.K tg J fp it tn ∧ tn 0 s2.heap ∧ (∀ b ∈ fp, FpOk X pins H' b) ∧ R J H'
def PI (X : Cx) (tg iter : Expr) (wi : TI) : Prop :=
  ∀ (pins : List (Addr × Obj)) (s : Shared) (σ : St) (H : Hp) (R : It → Hp → Prop), Inv X pins σ H s → wi σ H R →
    wpAny (model X.prog X.w) X.A (eval iter X.env) (fun v s1 => wpAny (model X.prog X.w) X.A (pyIter v) (PIE X pins σ tg R) X.xe s1) X.xe s
theorem go_of {M : Model} {A : Around} {E : Value → Shared → Prop} {s : Shared} {tg : Expr} {it : Addr} {u : Value} {o : Obj} {n : String} {vs : Array Value} {Q : Unit → Shared → Prop} (ho : s.heap.get? it = some o) (hc : o.cls = .type n) (hd : o.data = .fields vs)
    (hn : ["enumerate", "zip", "dict_itemiterator", "dict_reverseitemiterator", "odict_iterator", "itertools.zip_longest", "itertools.pairwise"].contains n = false) (hQ : Q () s) : wpAny M A (letOwnedTupleGo tg (.ref it) u) Q E s := by
  unfold letOwnedTupleGo
  cases tg <;> first
    | exact wpAny_pure hQ
    | (cases u <;> first
        | exact wpAny_pure hQ
        | (refine wpAny_bind (wpAny_load ho ?_)
           rw [hc, hd]
           show wpAny M A (if (["enumerate", "zip", "dict_itemiterator", "dict_reverseitemiterator", "odict_iterator", "itertools.zip_longest", "itertools.pairwise"].contains n && vs[0]? == some (rawInt _)) = true then _ else _) Q E s
           rw [if_neg (by intro h; rw [hn, Bool.false_and] at h; cases h)]
           exact wpAny_pure hQ))
def Itl (K : PySem.W.Frag) (a : Addr) : It :=
  ⟨fun i H => ∃ xs x, SqL K H a xs ∧ xs[i]? = some x, fun i H x H' => H' = H ∧ ∀ xs, SqL K H a xs → xs[i]? = some x, fun i H => ∃ xs, SqL K H a xs ∧ xs.length ≤ i⟩
def Itt (K : PySem.W.Frag) (a : Addr) : It :=
  ⟨fun i H => ∃ xs x, SqT K H a xs ∧ xs[i]? = some x, fun i H x H' => H' = H ∧ ∀ xs, SqT K H a xs → xs[i]? = some x, fun i H => ∃ xs, SqT K H a xs ∧ xs.length ≤ i⟩
def Itr (lo : Int) (n : Nat) : It := ⟨fun i _ => i < n, fun i H x H' => H' = H ∧ x = .int (lo + i), fun i _ => n ≤ i⟩
theorem turn_list {P : Program} {w : World} {K : PySem.W.Frag} {tg : Expr} (a it : Addr) : Turn P w K tg (Itl K a) [it] it (fun i h => h.IsListIter it a i) where
  mem := by simp
  obj := fun i h st b hb => by
    have e : b = it := by simpa using hb
    subst e
    obtain ⟨o, e, c, d⟩ := st
    exact ⟨o, e, fun v z => by rw [d] at z; cases z⟩
  keep := fun i h h' st k => st.at fun o e => k it (by simp) o e
  item := by
    intro X hP hw hK hc i pins s σ H E I hf st hg
    subst hP hw hK
    obtain ⟨xs, x, hq, hx⟩ := hg
    obtain ⟨its, rv, p, hz⟩ := I.list hq
    obtain ⟨u, hu, ru⟩ := rv.get hx
    obtain ⟨f0, f1, f2, f3, f4, f5⟩ := hf it (by simp)
    refine wpAny_pyNext_list_item st p.isList (x := u) (by simpa using hu) fun h' st' sb => ?_
    have I1 : Inv X pins σ H { s with heap := h' } := I.turned (t' := s.toks) (fun b o hb e => (sb.2 b hb).trans e) f0 f1 f3 f4 f5
    obtain ⟨o, e, c, d⟩ := id st'
    exact ⟨u, rfl, go_of (s := { s with heap := h' }) e c d (by decide) ⟨x, H, I1, ru, ⟨rfl, fun ys hy => by rw [I.list_inj hy hq]; exact hx⟩, st', fun b hb => (hf b hb).1⟩⟩
  done := by
    intro X hP hw hK hc i pins s σ H E I hf st hg
    subst hP hw hK
    obtain ⟨xs, hq, hx⟩ := hg
    obtain ⟨its, rv, p, hz⟩ := I.list hq
    obtain ⟨f0, f1, f2, f3, f4, f5⟩ := hf it (by simp)
    have hl := rv.length
    exact wpAny_pyNext_list_end (I.ok.hd hc) st p.isList (by simp; omega) fun h' eb => ⟨rfl, I.turned (t' := s.toks) (fun b o hb e => eb b o hb e) f0 f1 f3 f4 f5⟩
  self := fun _ _ _ _ _ st h => wpAny_pyIter_listiter st h
theorem turn_tuple {P : Program} {w : World} {K : PySem.W.Frag} {tg : Expr} (a it : Addr) : Turn P w K tg (Itt K a) [it] it (fun i h => h.IsTupleIter it a i) where
  mem := by simp
  obj := fun i h st b hb => by
    have e : b = it := by simpa using hb
    subst e
    obtain ⟨o, e, c, d⟩ := st
    exact ⟨o, e, fun v z => by rw [d] at z; cases z⟩
  keep := fun i h h' st k => st.at fun o e => k it (by simp) o e
  item := by
    intro X hP hw hK hc i pins s σ H E I hf st hg
    subst hP hw hK
    obtain ⟨xs, x, hq, hx⟩ := hg
    obtain ⟨its, rv, p, hz⟩ := I.tuple hq
    obtain ⟨u, hu, ru⟩ := rv.get hx
    obtain ⟨f0, f1, f2, f3, f4, f5⟩ := hf it (by simp)
    refine wpAny_pyNext_tuple_item st (show s.heap.IsTuple a its.toArray from p) (x := u) (by simpa using hu) fun h' st' sb => ?_
    have I1 : Inv X pins σ H { s with heap := h' } := I.turned (t' := s.toks) (fun b o hb e => (sb.2 b hb).trans e) f0 f1 f3 f4 f5
    obtain ⟨o, e, c, d⟩ := id st'
    exact ⟨u, rfl, go_of (s := { s with heap := h' }) e c d (by decide) ⟨x, H, I1, ru, ⟨rfl, fun ys hy => by rw [I.tuple_inj hy hq]; exact hx⟩, st', fun b hb => (hf b hb).1⟩⟩
  done := by
    intro X hP hw hK hc i pins s σ H E I hf st hg
    subst hP hw hK
    obtain ⟨xs, hq, hx⟩ := hg
    obtain ⟨its, rv, p, hz⟩ := I.tuple hq
    obtain ⟨f0, f1, f2, f3, f4, f5⟩ := hf it (by simp)
    have hl := rv.length
    exact wpAny_pyNext_tuple_end (I.ok.hd hc) st (show s.heap.IsTuple a its.toArray from p) (by simp; omega) fun h' eb => ⟨rfl, I.turned (t' := s.toks) (fun b o hb e => eb b o hb e) f0 f1 f3 f4 f5⟩
  self := fun _ _ _ _ _ st h => wpAny_pyIter_tupleiter st h
theorem turn_range {P : Program} {w : World} {K : PySem.W.Frag} {tg : Expr} (it : Addr) (lo : Int) (n : Nat) : Turn P w K tg (Itr lo n) [it] it (fun i h => IsRangeIter h it (lo + (i : Nat) * 1) ((n : Int) - (i : Nat)) 1) where
  mem := by simp
  obj := fun i h st b hb => by
    have e : b = it := by simpa using hb
    subst e
    exact ⟨_, st, fun v z => by
      have z' : Data.fields _ = Data.cell v := z
      cases z'⟩
  keep := fun i h h' st k => k it (by simp) _ st
  item := by
    intro X hP hw hK hc i pins s σ H E I hf st hg
    subst hP hw hK
    obtain ⟨f0, f1, f2, f3, f4, f5⟩ := hf it (by simp)
    have W := Walks.range (prog := X.prog) (w := X.w) (I.ok.hd hc) it lo 1 n
    refine W.item i s _ _ hg st fun v h' tk hv st' kk => ?_
    obtain ⟨t, rfl⟩ := hv
    have I1 : Inv X pins σ H { s with heap := h', toks := tk } := I.turned (fun b o hb e => kk b o (by simpa using hb) e) f0 f1 f3 f4 f5
    refine ⟨_, rfl, go_of (s := { s with heap := h', toks := tk }) (n := "range_iterator") st' rfl rfl (by decide) ⟨.int (lo + i), H, I1, ⟨t, ?_⟩, ⟨rfl, rfl⟩, st', fun b hb => (hf b hb).1⟩⟩
    rw [Int.mul_one]
  done := by
    intro X hP hw hK hc i pins s σ H E I hf st hg
    subst hP hw hK
    obtain ⟨f0, f1, f2, f3, f4, f5⟩ := hf it (by simp)
    exact wpAny_pyNext_range_end (I.ok.hd hc) st (by have : n ≤ i := hg; omega) fun h' eb => ⟨rfl, I.turned (t' := s.toks) (fun b o hb e => eb b o hb e) f0 f1 f3 f4 f5⟩
  self := fun _ _ _ _ _ st h => wpAny_pyIter_rangeiter st h
end L2
namespace L2
open PySem PySem.Spec PyProof.Rows
section
variable {X : Cx} {tg : Expr}
theorem range_it {pins : List (Addr × Obj)} {σ : St} {H : Hp} {s : Shared} {R : It → Hp → Prop} {E : Value → Shared → Prop} {lo hi : Int} {t u v : Tok} {tk : Nat} (I : Inv X pins σ H s) (h1 : -(2 ^ 62) ≤ lo) (h2 : lo < 2 ^ 62) (h3 : -(2 ^ 62) ≤ hi) (h4 : hi < 2 ^ 62)
    (q : R (Itr lo (hi - lo).toNat) H) : wpAny (model X.prog X.w) X.A (pyIter (.ref s.heap.objs.size)) (PIE X pins σ tg R) E { s with heap := s.heap.push { cls := .type "range", data := .fields #[.int lo t, .int hi u, .int 1 v] }, toks := tk } := by
  refine wpAny_pyIter_range (IsRange.new ..) (small_one h1 h2 h3 h4) ?_
  have I1 : Inv X pins σ H { s with heap := s.heap.push { cls := .type "range", data := .fields #[.int lo t, .int hi u, .int 1 v] }, toks := tk } := I.kept fun b o e => Heap.get?_push_of_some _ e
  refine ⟨(s.heap.push { cls := .type "range", data := .fields #[.int lo t, .int hi u, .int 1 v] }).objs.size, [(s.heap.push { cls := .type "range", data := .fields #[.int lo t, .int hi u, .int 1 v] }).objs.size], _, _, H, rfl,
    I1.kept (t' := tk) fun b o e => Heap.get?_push_of_some _ e, turn_range _ lo (hi - lo).toNat, ?_, fun b hb => ?_, q⟩
  · have e1 : lo + ((0 : Nat) : Int) * 1 = lo := by simp
    have e2 : (((hi - lo).toNat : Nat) : Int) - ((0 : Nat) : Int) = Builtin.Range.rangeSize lo hi 1 := by rw [rangeSize_one]; split <;> omega
    show IsRangeIter _ _ (lo + ((0 : Nat) : Int) * 1) ((((hi - lo).toNat : Nat) : Int) - ((0 : Nat) : Int)) 1
    rw [e1, e2]
    exact Heap.get?_push_size _ rfl
  · have e : b = (s.heap.push { cls := .type "range", data := .fields #[.int lo t, .int hi u, .int 1 v] }).objs.size := by simpa using hb
    subst e
    exact I1.fpOk (Nat.le_refl _) (I1.hok.fresh (Nat.le_refl _))
def iRng1 (ta : TA) : TI := fun σ H R => ta σ H fun vs H1 => ∃ j : Int, vs = [.int j] ∧ -(2 ^ 62) ≤ j ∧ j < 2 ^ 62 ∧ R (Itr 0 j.toNat) H1
def iRng2 (ta : TA) : TI := fun σ H R => ta σ H fun vs H1 => ∃ i j : Int, vs = [.int i, .int j] ∧ (-(2 ^ 62) ≤ i ∧ i < 2 ^ 62 ∧ -(2 ^ 62) ≤ j ∧ j < 2 ^ 62) ∧ R (Itr i (j - i).toNat) H1
theorem pi_range1 {a : Expr} {ta : TA} {p pos : Pos} (hg : Gl X "range") (hm : X.mg "range" = none) (ha : PA X [a] ta) (hs : starEach [a] X.env = [(false, eval a X.env)] := by rfl) : PI X tg (.Call (.Name "range" p) [a] [] pos) (iRng1 ta) := by
  intro pins s σ H R I h
  refine Call_ (ld_blt I hg hm boot_range (PyProof.Rows.callWith_type1 (thn (ha pos pins s σ H _ I h) fun us s1 ⟨vs, H1, I1, r1, q1⟩ => ?_) hs rfl))
  obtain ⟨j, e, q1, q2, q⟩ := q1
  subst e
  cases r1 with
  | cons r rr =>
    cases rr
    obtain ⟨t, rfl⟩ := r
    exact call_range_1 (range_it I1 (by omega) (by omega) q1 q2 (by simpa using q))
theorem pi_range2 {a b : Expr} {ta : TA} {p pos : Pos} (hg : Gl X "range") (hm : X.mg "range" = none) (ha : PA X [a, b] ta) (hs : starEach [a, b] X.env = [(false, eval a X.env), (false, eval b X.env)] := by rfl) (hs2 : starEach [b] X.env = [(false, eval b X.env)] := by rfl) :
    PI X tg (.Call (.Name "range" p) [a, b] [] pos) (iRng2 ta) := by
  intro pins s σ H R I h
  refine Call_ (ld_blt I hg hm boot_range (PyProof.Rows.callWith_type1 (thn (ha pos pins s σ H _ I h) fun us s1 ⟨vs, H1, I1, r1, q1⟩ => ?_) (by rw [hs, hs2]) (by rw [hs2]; rfl)))
  obtain ⟨i, j, e, ⟨q1, q2, q3, q4⟩, q⟩ := q1
  subst e
  cases r1 with
  | cons r rr =>
    cases rr with
    | cons r' rr =>
      cases rr
      obtain ⟨t, rfl⟩ := r
      obtain ⟨t', rfl⟩ := r'
      exact call_range_2 (range_it I1 q1 q2 q3 q4 q)
def tFor (wi : TI) (g : TG) (tb : TS) : TS := fun D σ H => wi σ H fun J H1 => ∃ W : Nat → Nat → St → Hp → Prop, (∃ m, W 0 m σ H1) ∧ ∀ i m σ H, W i m σ H →
  (J.stop i H ∧ D.nx σ H) ∨ (J.go i H ∧ ∃ N : St → Hp → Prop, (∀ σ' H', N σ' H' → ∃ m', m' < m ∧ W (i + 1) m' σ' H') ∧ ∀ x H', J.yld i H x H' → g x σ H' fun σ2 H2 => tb { D with nx := N, ct := N, bk := D.nx } σ2 H2)
def pinsAt (fp : List Addr) (h : Heap) : List (Addr × Obj) := fp.filterMap fun b => (h.get? b).map fun o => (b, o)
theorem mem_pinsAt {fp : List Addr} {h : Heap} {b : Addr} {o : Obj} (hb : b ∈ fp) (e : h.get? b = some o) : (b, o) ∈ pinsAt fp h := List.mem_filterMap.mpr ⟨b, hb, by rw [e]; rfl⟩
theorem of_pinsAt {fp : List Addr} {h : Heap} {p : Addr × Obj} (hp : p ∈ pinsAt fp h) : p.1 ∈ fp ∧ h.get? p.1 = some p.2 := by
  obtain ⟨b, hb, e⟩ := List.mem_filterMap.mp hp
  cases q : h.get? b with
  | none => rw [q] at e; cases e
  | some o =>
    rw [q] at e
    have e' : (b, o) = p := Option.some.inj e
    subst e'
    exact ⟨hb, q⟩
theorem Inv.pinned {pins : List (Addr × Obj)} {σ : St} {H : Hp} {s : Shared} {fp : List Addr} (I : Inv X pins σ H s) (hf : ∀ b ∈ fp, FpOk X pins H b) (ho : ∀ b ∈ fp, ∃ o, s.heap.get? b = some o ∧ ∀ v, o.data ≠ .cell v) : Inv X (pins ++ pinsAt fp s.heap) σ H s :=
  I.pins_of fun p hp => (List.mem_append.mp hp).elim (fun z => I.pin p (List.mem_append_right _ z)) fun z => by
    obtain ⟨hb, e⟩ := of_pinsAt z
    obtain ⟨f0, f1, f2, _⟩ := hf p.1 hb
    obtain ⟨o, e', d⟩ := ho p.1 hb
    rw [e] at e'; cases e'
    exact ⟨e, f0, f1, f2, d⟩
theorem Inv.unpinned {pins pl : List (Addr × Obj)} {σ : St} {H : Hp} {s : Shared} (I : Inv X (pins ++ pl) σ H s) : Inv X pins σ H s := I.pins_of fun p hp => I.pin p (List.mem_append_right _ (List.mem_append_left _ hp))
theorem ps_for {iter : Expr} {body : List Stmt} {wi : TI} {g : TG} {tb : TS} {pos : Pos} (hp : PassesOwn (model X.prog X.w) X.A X.env X.xe) (hc : X.calm = true) (hi : PI X tg iter wi) (hg : PG X tg g) (hb : PSs X body tb)
    (hs : ∀ x, foldedSetIterable iter X.env x = pure x := by intro _; rfl) : PS X (.For tg iter body [] pos) (tFor wi g tb) := by
  intro pins s σ H D I h
  refine wpAny_For (thn (hi pins s σ H _ I h) fun v s1 h1 => thn h1 fun itv s2 h2 => ?_) hs
  obtain ⟨it, fp, tn, J, H2, e, I2, T, st2, f2, W, ⟨m0, w0⟩, turn⟩ := h2
  subst e
  -- what stays true of the iterator's objects through the loop
  have stat : ∀ {H' : Hp}, (∀ b ∈ fp, H' b = none) → ∀ b ∈ fp, FpOk X pins H' b := fun hn b hb => ⟨hn b hb, (f2 b hb).2⟩
  refine codeAny_forLoop_any (fun n s' => ∃ i σ' H', Inv X pins σ' H' s' ∧ tn i s'.heap ∧ (∀ b ∈ fp, H' b = none) ∧ W i n σ' H') ?_ m0 ⟨0, σ, H2, I2, st2, fun b hb => (f2 b hb).1, w0⟩
  rintro n s3 ⟨i, σ3, H3, I3, st3, fr3, w3⟩
  rcases turn i n σ3 H3 w3 with ⟨stop, qn⟩ | ⟨go, N, hN, step⟩
  · refine wpAny_passesOwn hp (thn (T.done X rfl rfl rfl hc i pins s3 σ3 H3 X.xe I3 (stat fr3) st3 stop) fun r s4 ⟨hr, I4⟩ => ?_)
    subst hr
    exact wpAny_execs_nil ⟨σ3, H3, I4, qn⟩
  · refine wpAny_passesOwn hp (thn (T.item X rfl rfl rfl hc i pins s3 σ3 H3 X.xe I3 (stat fr3) st3 go) fun r s4 ⟨u, hr, h4⟩ => ?_)
    subst hr
    refine wpAny_passesOwn hp (thn h4 fun _ s5 ⟨x, H5, I5, r5, y5, st5, fr5⟩ => ?_)
    have I5' := I5.pinned (stat fr5) (T.obj _ _ st5)
    refine wpAny_passesOwn hp (thn (hg _ s5 σ3 H5 x u _ I5' r5 (step x H5 y5)) fun _ s6 ⟨σ6, H6, I6, q6⟩ => ?_)
    refine wpAny_passesOwn hp (thn (hb _ s6 σ6 H6 _ I6 q6) fun f s7 q7 => ?_)
    have again : ∀ {σ7 : St} {H7 : Hp}, Inv X (pins ++ pinsAt fp s5.heap) σ7 H7 s7 → N σ7 H7 → ∃ m, m < n ∧ ∃ i σ' H', Inv X pins σ' H' s7 ∧ tn i s7.heap ∧ (∀ b ∈ fp, H' b = none) ∧ W i m σ' H' := fun {σ7 H7} I7 n7 => by
      obtain ⟨m', hm, w7⟩ := hN σ7 H7 n7
      refine ⟨m', hm, i + 1, σ7, H7, I7.unpinned, T.keep _ _ _ st5 fun b hb o e => (I7.pin (b, o) (List.mem_append_right _ (List.mem_append_right _ (mem_pinsAt hb e)))).1, fun b hb => ?_, w7⟩
      obtain ⟨o, e, d⟩ := T.obj _ _ st5 b hb
      exact (I7.pin (b, o) (List.mem_append_right _ (List.mem_append_right _ (mem_pinsAt hb e)))).2.1
    cases f with
    | next => obtain ⟨σ7, H7, I7, n7⟩ := q7; exact again I7 n7
    | cont => obtain ⟨σ7, H7, I7, n7⟩ := q7; exact again I7 n7
    | brk => obtain ⟨σ7, H7, I7, q7⟩ := q7; exact ⟨σ7, H7, I7.unpinned, q7⟩
    | ret v => obtain ⟨x7, σ7, H7, I7, r7, q7⟩ := q7; exact ⟨x7, σ7, H7, I7.unpinned, r7, q7⟩
end
end L2
namespace L2
open PySem PySem.Spec PyProof.Rows
abbrev R2 := V → V → Hp → VK → Prop
def OpR (X : Cx) (f : Value → Value → Sem Value) (r : R2) : Prop :=
  ∀ (pins : List (Addr × Obj)) (s : Shared) (σ : St) (H : Hp) (x y : V) (v u : Value) (Q : VK), Inv X pins σ H s → RelV x v → RelV y u → r x y H Q →
    wpAny (model X.prog X.w) X.A (f v u) (EP X pins σ Q) X.xe s
def UnR (X : Cx) (f : Value → Sem Value) (r : V → Hp → VK → Prop) : Prop :=
  ∀ (pins : List (Addr × Obj)) (s : Shared) (σ : St) (H : Hp) (x : V) (v : Value) (Q : VK), Inv X pins σ H s → RelV x v → r x H Q →
    wpAny (model X.prog X.w) X.A (f v) (EP X pins σ Q) X.xe s
def CallR (X : Cx) (f : Value) (r : List V → Hp → VK → Prop) : Prop :=
  ∀ (pins : List (Addr × Obj)) (s : Shared) (σ : St) (H : Hp) (xs : List V) (us : List Value) (Q : VK), Inv X pins σ H s → Vals xs us → r xs H Q →
    wpAny (model X.prog X.w) X.A (call f us) (EP X pins σ Q) X.xe s
def tOp (r : R2) (ta tb : TE) : TE := fun σ H Q => ta σ H fun x H1 => tb σ H1 fun y H2 => r x y H2 Q
def tUn (r : V → Hp → VK → Prop) (ta : TE) : TE := fun σ H Q => ta σ H fun x H1 => r x H1 Q
def rI (C : Int → Int → Prop) (g : Int → Int → V) : R2 := fun x y H Q => ∃ i j, x = .int i ∧ y = .int j ∧ C i j ∧ Q (g i j) H
def rI0 (g : Int → Int → V) : R2 := fun x y H Q => ∃ i j, x = .int i ∧ y = .int j ∧ Q (g i j) H
def rU (g : Int → V) : V → Hp → VK → Prop := fun x H Q => ∃ i, x = .int i ∧ Q (g i) H
section
variable {X : Cx} {a b c : Expr} {ta tb tc : TE} {pos : Pos}
theorem binT (ha : PE X a ta) (hb : PE X b tb) {pins : List (Addr × Obj)} {s : Shared} {σ : St} {H : Hp} {R : V → V → Hp → Prop} (I : Inv X pins σ H s)
    (h : ta σ H fun x H1 => tb σ H1 fun y H2 => R x y H2) {Q : Value → Shared → Prop} {f : Value → Value → Sem Value}
    (hf : ∀ v u s2 x y H2, Inv X pins σ H2 s2 → RelV x v → RelV y u → R x y H2 → wpAny (model X.prog X.w) X.A (f v u) Q X.xe s2) :
    wpAny (model X.prog X.w) X.A (eval a X.env) (fun v s₁ => wpAny (model X.prog X.w) X.A (eval b X.env) (fun u s₂ => wpAny (model X.prog X.w) X.A (f v u) Q X.xe s₂) X.xe s₁) X.xe s := by
  refine thn (ha pins s σ H _ I h) fun v s1 ⟨x, H1, I1, r1, q1⟩ => ?_
  refine thn (hb pins s1 σ H1 _ I1 q1) fun u s2 ⟨y, H2, I2, r2, q2⟩ => ?_
  exact hf v u s2 x y H2 I2 r1 r2 q2
theorem pe_op {op : Operator} {r : R2} (ho : OpR X (binaryOp op) r) (ha : PE X a ta) (hb : PE X b tb) : PE X (.BinOp a op b pos) (tOp r ta tb) := by
  intro pins s σ H Q I h
  exact wpAny_BinOp (binT ha hb I h fun v u s2 x y H2 I2 rx ry q => ho pins s2 σ H2 x y v u Q I2 rx ry q)
theorem pe_un {op : UnaryOp} {r : V → Hp → VK → Prop} (ho : UnR X (unaryOp op) r) (ha : PE X a ta) : PE X (.UnaryOp op a pos) (tUn r ta) := by
  intro pins s σ H Q I h
  exact UnaryOp_ (thn (ha pins s σ H _ I h) fun v s1 ⟨x, H1, I1, r1, q1⟩ => ho pins s1 σ H1 x v Q I1 r1 q1)
theorem opI {f : Value → Value → Sem Value} {C : Int → Int → Prop} {g : Int → Int → Int}
    (rule : ∀ (i j : Int) (t u : Tok) (s : Shared) (Q : Value → Shared → Prop) (E : Value → Shared → Prop), C i j → Q (.int (g i j) s.toks) { s with toks := s.toks + 1 } → wpAny (model X.prog X.w) X.A (f (.int i t) (.int j u)) Q E s) :
    OpR X f (rI C fun i j => .int (g i j)) := by
  intro pins s σ H x y v u Q I rx ry h
  obtain ⟨i, j, rfl, rfl, hc, q⟩ := h
  obtain ⟨t, rfl⟩ := rx
  obtain ⟨t', rfl⟩ := ry
  exact rule i j t t' s _ _ hc ⟨.int (g i j), H, I.tok _, ⟨_, rfl⟩, q⟩
theorem opI0 {f : Value → Value → Sem Value} {g : Int → Int → Int}
    (rule : ∀ (i j : Int) (t u : Tok) (s : Shared) (Q : Value → Shared → Prop) (E : Value → Shared → Prop), Q (.int (g i j) s.toks) { s with toks := s.toks + 1 } → wpAny (model X.prog X.w) X.A (f (.int i t) (.int j u)) Q E s) :
    OpR X f (rI0 fun i j => .int (g i j)) := by
  intro pins s σ H x y v u Q I rx ry h
  obtain ⟨i, j, rfl, rfl, q⟩ := h
  obtain ⟨t, rfl⟩ := rx
  obtain ⟨t', rfl⟩ := ry
  exact rule i j t t' s _ _ ⟨.int (g i j), H, I.tok _, ⟨_, rfl⟩, q⟩
theorem opB0 {f : Value → Value → Sem Value} {g : Int → Int → Bool}
    (rule : ∀ (i j : Int) (t u : Tok) (s : Shared) (Q : Value → Shared → Prop) (E : Value → Shared → Prop), Q (.bool (g i j)) s → wpAny (model X.prog X.w) X.A (f (.int i t) (.int j u)) Q E s) :
    OpR X f (rI0 fun i j => .bl (g i j)) := by
  intro pins s σ H x y v u Q I rx ry h
  obtain ⟨i, j, rfl, rfl, q⟩ := h
  obtain ⟨t, rfl⟩ := rx
  obtain ⟨t', rfl⟩ := ry
  exact rule i j t t' s _ _ ⟨.bl (g i j), H, I, rfl, q⟩
theorem op_add : OpR X (binaryOp .Add) (rI0 fun i j => .int (i + j)) := opI0 fun _ _ _ _ _ _ _ q => add_int q
theorem op_sub : OpR X (binaryOp .Sub) (rI0 fun i j => .int (i - j)) := opI0 fun _ _ _ _ _ _ _ q => sub_int q
theorem op_mod : OpR X (binaryOp .Mod) (rI (fun _ j => 0 < j) fun i j => .int (i % j)) := opI fun i j _ _ _ _ _ hc q => by
  have h1 : (0 : Int) < j := hc
  exact mod_int' (by omega) (by rw [Int.fmod_eq_emod_of_nonneg i (by omega)]; exact q)
theorem unI {f : Value → Sem Value} {g : Int → Int}
    (rule : ∀ (i : Int) (t : Tok) (s : Shared) (Q : Value → Shared → Prop) (E : Value → Shared → Prop), Q (.int (g i) s.toks) { s with toks := s.toks + 1 } → wpAny (model X.prog X.w) X.A (f (.int i t)) Q E s) :
    UnR X f (rU fun i => .int (g i)) := by
  intro pins s σ H x v Q I rx h
  obtain ⟨i, rfl, q⟩ := h
  obtain ⟨t, rfl⟩ := rx
  exact rule i t s _ _ ⟨.int (g i), H, I.tok _, ⟨_, rfl⟩, q⟩
theorem un_neg : UnR X (unaryOp .USub) (rU fun i => .int (-i)) := unI fun _ _ _ _ _ q => neg_int q
end
section
variable {X : Cx} {a b c : Expr} {ta tb tc : TE} {pos : Pos}
theorem fin_bl {pins : List (Addr × Obj)} {σ : St} {H : Hp} {s : Shared} {Q : VK} {k k' : Bool} (I : Inv X pins σ H s) (q : Q (.bl k) H) (e : k = k') : EP X pins σ Q (.bool k') s := by
  subst e
  exact ⟨.bl k, H, I, rfl, q⟩
theorem op_lt : OpR X (compareOp .Lt) (rI0 fun i j => .bl (decide (i < j))) := opB0 fun _ _ _ _ _ _ _ q => lt_int q
theorem op_le : OpR X (compareOp .LtE) (rI0 fun i j => .bl (decide (i ≤ j))) := opB0 fun _ _ _ _ _ _ _ q => le_int q
theorem op_gt : OpR X (compareOp .Gt) (rI0 fun i j => .bl (decide (j < i))) := opB0 fun _ _ _ _ _ _ _ q => gt_int q
theorem op_ge : OpR X (compareOp .GtE) (rI0 fun i j => .bl (decide (j ≤ i))) := opB0 fun _ _ _ _ _ _ _ q => ge_int q
theorem op_in_str : OpR X (compareOp .In) (fun x y H Q => ∃ i j, x = .str i ∧ y = .str j ∧ Q (.bl (!(Builtin.Str.occurrences j i 0 j.length 1).isEmpty)) H) := by
  intro pins s σ H x y v u Q I rx ry h
  obtain ⟨i, j, rfl, rfl, q⟩ := h
  obtain ⟨t, rfl⟩ := rx
  obtain ⟨t', rfl⟩ := ry
  exact in_str (fin_bl I q rfl)
theorem op_notN : OpR X (compareOp .IsNot) (fun x y H Q => y = .non ∧ Q (.bl (!decide (x = .non))) H) := by
  intro pins s σ H x y v u Q I rx ry h
  obtain ⟨rfl, q⟩ := h
  cases ry
  refine isnot_none_gen (fin_bl I q ?_)
  cases x <;> first
    | (cases rx; rfl)
    | (obtain ⟨t, rfl⟩ := rx; rfl)
theorem op_notin_str : OpR X (compareOp .NotIn) (fun x y H Q => ∃ i j, x = .str i ∧ y = .str j ∧ Q (.bl (!(!(Builtin.Str.occurrences j i 0 j.length 1).isEmpty))) H) := by
  intro pins s σ H x y v u Q I rx ry h
  obtain ⟨i, j, rfl, rfl, q⟩ := h
  obtain ⟨t, rfl⟩ := rx
  obtain ⟨t', rfl⟩ := ry
  exact notIn_str (fin_bl I q rfl)
theorem OpR.or {f : Value → Value → Sem Value} {r r' : R2} (h : OpR X f r) (h' : OpR X f r') : OpR X f (fun x y H Q => r x y H Q ∨ r' x y H Q) := by
  intro pins s σ H x y v u Q I rx ry q
  rcases q with q | q
  · exact h pins s σ H x y v u Q I rx ry q
  · exact h' pins s σ H x y v u Q I rx ry q
theorem nomark (b : Expr) {op : CmpOp} (h : op ≠ .In := by decide) (h2 : op ≠ .NotIn := by decide) : behindInMarks op b = false := by
  have e1 : (op == CmpOp.In) = false := by cases op <;> first | rfl | exact absurd rfl h
  have e2 : (op == CmpOp.NotIn) = false := by cases op <;> first | rfl | exact absurd rfl h2
  cases b <;> simp [behindInMarks, e1, e2]
theorem pe_cmpR {op : CmpOp} {r : R2} (ho : OpR X (compareOp op) r) (ha : PE X a ta) (hb : PE X b tb) (hm : behindInMarks op b = false) : PE X (.Compare a [op] [b] pos) (tOp r ta tb) := by
  intro pins s σ H Q I h
  exact wpAny_Compare1 (binT ha hb I h fun v u s2 x y H2 I2 rx ry q => ho pins s2 σ H2 x y v u Q I2 rx ry q) hm
def tTest (t : TE) : TT := fun σ H Q => t σ H fun x H' => ∃ k, x = .bl k ∧ Q k H'
theorem pt_cmpR {op : CmpOp} {r : R2} (ho : OpR X (compareOp op) r) (ha : PE X a ta) (hb : PE X b tb) (hm : behindInMarks op b = false) : PT X (.Compare a [op] [b] pos) (tTest (tOp r ta tb)) := by
  intro pins s σ H Q I h
  refine wpAny_isTrue_Compare1 (thn (ha pins s σ H _ I h) fun v s1 ⟨x, H1, I1, r1, q1⟩ => thn (hb pins s1 σ H1 _ I1 q1) fun u s2 ⟨y, H2, I2, r2, q2⟩ =>
    thn (ho pins s2 σ H2 x y v u _ I2 r1 r2 q2) fun c s3 ⟨z, H3, I3, r3, k, e, q3⟩ => ?_) hm
  subst e
  cases r3
  exact wpAny_truthy_bool ⟨H3, I3, q3⟩
theorem line63 : (sizeLine : Nat) < 2 ^ 63 := by rw [sizeLine_eq]; decide
theorem op_add_str : OpR X (binaryOp .Add) (fun x y H Q => ∃ i j, x = .str i ∧ y = .str j ∧ i.length + j.length ≤ sizeLine ∧ Q (.str (i ++ j)) H) := by
  intro pins s σ H x y v u Q I rx ry h
  obtain ⟨i, j, rfl, rfl, hz, q⟩ := h
  obtain ⟨t, rfl⟩ := rx
  obtain ⟨t', rfl⟩ := ry
  exact add_str (fun t' tk => ⟨.str (i ++ j), H, I.tok _, ⟨_, rfl⟩, q⟩) hz
theorem vals1 {x : V} {us : List Value} (r : Vals [x] us) : ∃ u, us = [u] ∧ RelV x u := by
  cases r with
  | cons r1 r2 => cases r2; exact ⟨_, rfl, r1⟩
theorem vals2 {x y : V} {us : List Value} (r : Vals [x, y] us) : ∃ u w', us = [u, w'] ∧ RelV x u ∧ RelV y w' := by
  cases r with
  | cons r1 r2 =>
    cases r2 with
    | cons r3 r4 => cases r4; exact ⟨_, _, rfl, r1, r3⟩
theorem call_max2 (hc : X.calm = true) : CallR X (.builtin "max") (fun xs H Q => ∃ i j, xs = [.int i, .int j] ∧ Q (.int (if j > i then j else i)) H) := by
  intro pins s σ H xs us Q I r h
  obtain ⟨i, j, rfl, q⟩ := h
  obtain ⟨u, w', rfl, ⟨t, rfl⟩, ⟨t', rfl⟩⟩ := vals2 r
  refine max_two_ints (I.ok.hd hc) fun h' tk k => ⟨_, H, I.kept k, ?_, q⟩
  by_cases hj : j > i
  · rw [if_pos hj, if_pos hj]; exact ⟨_, rfl⟩
  · rw [if_neg hj, if_neg hj]; exact ⟨_, rfl⟩
theorem call_min2 (hc : X.calm = true) : CallR X (.builtin "min") (fun xs H Q => ∃ i j, xs = [.int i, .int j] ∧ Q (.int (if j < i then j else i)) H) := by
  intro pins s σ H xs us Q I r h
  obtain ⟨i, j, rfl, q⟩ := h
  obtain ⟨u, w', rfl, ⟨t, rfl⟩, ⟨t', rfl⟩⟩ := vals2 r
  refine min_two_ints (I.ok.hd hc) fun h' tk k => ⟨_, H, I.kept k, ?_, q⟩
  by_cases hj : j < i
  · rw [if_pos hj, if_pos hj]; exact ⟨_, rfl⟩
  · rw [if_neg hj, if_neg hj]; exact ⟨_, rfl⟩
theorem call_int1 : CallR X (.type "int") (fun xs H Q => (∃ i, xs = [.int i] ∧ Q (.int i) H) ∨ ∃ k, xs = [.bl k] ∧ Q (.int (if k then 1 else 0)) H) := by
  intro pins s σ H xs us Q I r h
  rcases h with ⟨i, rfl, q⟩ | ⟨k, rfl, q⟩
  · obtain ⟨u, rfl, t, rfl⟩ := vals1 r
    exact call_int_int ⟨.int i, H, I, ⟨_, rfl⟩, q⟩
  · obtain ⟨u, rfl, r1⟩ := vals1 r
    cases r1
    exact call_int_bool ⟨.int (if k then 1 else 0), H, I.tok _, ⟨_, rfl⟩, q⟩
end
end L2
namespace L2
open PySem PySem.Spec PyProof.Rows
section
variable {prog : Program} {w : World} {A : Around} {E : Value → Shared → Prop} {s : Shared} {K : PySem.W.Frag} {x dx C f : Addr} {mA : Str → Option Value} {name : Str} {v : Value}
end
section
variable {P : Program} {w : World} {H H' : Hp} {h h' : Heap} {a C dx : Addr} {fs fs' : List (Str × V)}
end
section
variable {X : Cx} {pins : List (Addr × Obj)} {σ : St} {H : Hp} {s : Shared} {a C dx : Addr} {fs : List (Str × V)} {f : Str} {v : V} {A : Around} {E : Value → Shared → Prop}
end
section
variable {X : Cx} {o e value : Expr} {f : Str} {pos pos' tpos : Pos} {ta tv : TE}
end
section
variable {X : Cx} {pins : List (Addr × Obj)} {σ : St} {H : Hp} {s : Shared} {A : Around} {E : Value → Shared → Prop} {Q : Value → Shared → Prop} {c : Value} {b : Bool}
end
end L2
namespace L2
open PySem PySem.Spec PyProof.Rows
structure Room (k : Nat) (A : Around) : Prop where
  hd : A.handled = none
  dp : A.depth + 3 * k + 5 < recursionLimit
  un : A.units + 16 * k + 200 < cLine
theorem Room.mono {j k : Nat} {A : Around} (r : Room k A) (h : j ≤ k) : Room j A := ⟨r.hd, by have := r.dp; omega, by have := r.un; omega⟩
theorem Room.deeper {k : Nat} {A : Around} (r : Room (k + 1) A) (env : Env) : Room k (A.deeper env) :=
  ⟨r.hd, by have := r.dp; show A.depth + 1 + 3 * k + 5 < _; omega, by have := r.un; show A.units + 3 + 16 * k + 200 < _; omega⟩
theorem Room.depth {k : Nat} {A : Around} (r : Room k A) : A.depth < recursionLimit := by have := r.dp; omega
def tNil : TA := fun _ H Q => Q [] H
def tCons (ta : TE) (tr : TA) : TA := fun σ H Q => ta σ H fun x H1 => tr σ H1 fun xs H2 => Q (x :: xs) H2
section
variable {X : Cx} {e : Expr} {es : List Expr} {te : TE} {t : TA} {pos : Pos}
theorem pa_nil : PA X [] tNil := fun _ _ _ _ H Q I h => Calls.spliced_nil ⟨[], H, I, .nil, h⟩
theorem pa_cons (ha : PE X e te) (hr : PA X es t) (hs : starEach (e :: es) X.env = (false, eval e X.env) :: starEach es X.env := by rfl) : PA X (e :: es) (tCons te t) := by
  intro pos pins s σ H Q I h
  rw [hs]
  show wpAny _ _ (spliced ((false, eval e X.env) :: backTo pos (starEach es X.env))) _ _ s
  refine Calls.spliced_cons (thn (ha pins s σ H _ I h) fun u s1 ⟨x, H1, I1, r1, q1⟩ => ?_)
  exact thn (hr pos pins s1 σ H1 _ I1 q1) fun us s2 ⟨xs, H2, I2, r2, q2⟩ => ⟨x :: xs, H2, I2, .cons r1 r2, q2⟩
def tTup (t : TA) : TE := fun σ H Q => t σ H fun xs H1 => xs.length ≤ sizeLine ∧ ∀ p, H1 p = none → Q (.ref p) (upd H1 p (.tup xs))
def tLst (t : TA) : TE := fun σ H Q => t σ H fun xs H1 => xs.length ≤ sizeLine ∧ ∀ p, H1 p = none → Q (.ref p) (upd H1 p (.lst xs))
theorem pe_tup {x1} (h : PA X es t) : PE X (.Tuple es x1 pos) (tTup t) := by
  intro pins s σ H Q I hq
  refine wpAny_Tuple_spliced (thn (h pos pins s σ H _ I hq) fun us s1 ⟨xs, H1, I1, r, z, q⟩ => ⟨by rw [← r.length]; exact z, ?_⟩)
  have hf : H1 s1.heap.objs.size = none := I1.hok.fresh (Nat.le_refl _)
  refine ⟨.ref s1.heap.objs.size, upd H1 s1.heap.objs.size (.tup xs), I1.laid (t' := s1.toks) (fun b u e => Heap.get?_push_of_some _ e) (Nat.le_refl _) ?_, rfl, q _ hf⟩
  exact ⟨z, us, r, ⟨_, Heap.get?_push_size _ rfl, rfl, _, rfl⟩⟩
theorem pe_lst (h : PA X es t) : PE X (.List es pos) (tLst t) := by
  intro pins s σ H Q I hq
  refine wpAny_List_spliced (thn (h pos pins s σ H _ I hq) fun us s1 ⟨xs, H1, I1, r, z, q⟩ => ⟨by rw [← r.length]; exact z, ?_⟩)
  have hf : H1 s1.heap.objs.size = none := I1.hok.fresh (Nat.le_refl _)
  refine ⟨.ref s1.heap.objs.size, upd H1 s1.heap.objs.size (.lst xs), I1.laid (t' := s1.toks) (fun b u e => Heap.get?_push_of_some _ e) (Nat.le_refl _) ?_, rfl, q _ hf⟩
  exact ⟨z, us, 0, r, Heap.get?_push_size _ rfl⟩
end
abbrev Sp := List V → Hp → VK → XK → Prop
abbrev CXT := List Env → Hp → Shared → XK → Value → Shared → Prop
structure Env0 (P : Program) (w : World) (K : PySem.W.Frag) (mg : Str → Option Value) (base : Heap) (A : Around) (outer : List Env) (s : Shared) (H : Hp) : Prop where
  frames : A.frames = some outer
  mod : Mod K mg base
  bs : ∀ b o, base.get? b = some o → s.heap.get? b = some o ∧ H b = none
  bsz : base.objs.size ≤ s.heap.objs.size
  funs : s.heap.FunFrames base outer
  frf : ∀ b ∈ frs outer, H b = none
  hok : HOk P w H s.heap
  bare : AllBare s.gens
def CE (outer : List Env) (P : Program) (w : World) (H : Hp) (s : Shared) (Q : VK) (u : Value) (s' : Shared) : Prop :=
  ∃ v H', s'.os = s.os ∧ AllBare s'.gens ∧ Un (frs outer) [] H H' s.heap s'.heap ∧ HOk P w H' s'.heap ∧ RelV v u ∧ Q v H'
def CR (CX : CXT) (outer : List Env) (P : Program) (w : World) (H : Hp) (s : Shared) (Q : VK) (E : XK) (r : Result) (s' : Shared) : Prop :=
  match r with
  | .ok (.ret u) => CE outer P w H s Q u s'
  | .ok _ => False
  | .error e => CX outer H s E e s'
structure FnOk (P : Program) (w : World) (K : PySem.W.Frag) (mg : Str → Option Value) (base : Heap) (CX : CXT) (k : Nat) (f : Addr) (fd : FuncData) (ps : List Str) (sp : Sp) : Prop where
  len : ∀ vs H Q E, sp vs H Q E → vs.length = ps.length
  run : ∀ (A : Around) (outer : List Env) (s : Shared) (H : Hp) (args : Args) (us : List Value) (vs : List V) (Q : VK) (E : XK), Room k A → Env0 P w K mg base A outer s H → BindsTo s fd args (ps.zip us) → Vals vs us → sp vs H Q E →
    codeAny (model P w) A (.call (.ref f) args) (CR CX outer P w H s Q E) s
section
variable {X : Cx} {pins : List (Addr × Obj)} {σ : St} {H : Hp} {s s' : Shared}
theorem Inv.env0 (I : Inv X pins σ H s) : Env0 X.prog X.w X.K X.mg X.base X.A X.stack s H :=
  ⟨I.ok.frames, I.ok.mod, I.bs, Nat.le_trans I.ok.bsz I.sz, I.stack, I.stkFree, I.hok, I.bare⟩
theorem Inv.after {Q : VK} {u : Value} (I : Inv X pins σ H s) (h : CE X.stack X.prog X.w H s Q u s') : EP X pins σ Q u s' := by
  obtain ⟨v, H', os, bare, un, hok, r, q⟩ := h
  obtain ⟨hh, g, d, t, os'⟩ := s'
  obtain rfl : os' = s.os := os
  exact ⟨v, H', I.call (h' := hh) (g' := g) (d' := d) (t' := t) (ch := []) un hok bare (fun b z => absurd z (by simp)), r, q⟩
end
def tCall (sp : Sp) (dvs : List V) (E : XK) (t : TA) : TE := fun σ H Q => t σ H fun vs H1 => sp (vs ++ dvs) H1 Q E
def Binds (K : PySem.W.Frag) (fd : FuncData) (ps : List Str) (ds : List Value) : Prop :=
  ∀ (s : Shared) (us : List Value), K.In s.heap → (us ++ ds).length = ps.length → BindsTo s fd ⟨us, []⟩ (ps.zip (us ++ ds))
theorem Binds.all {K : PySem.W.Frag} {fd : FuncData} {ps : List Str} (h : ∀ us : List Value, us.length = ps.length → bindArgs fd ⟨us, []⟩ = pure (ps.zip us)) : Binds K fd ps [] := fun s us _ hl => by
  rw [List.append_nil] at hl ⊢
  exact .of_eq (h us hl)
def Passes (CX : CXT) (X : Cx) (E : XK) : Prop := ∀ (pins : List (Addr × Obj)) (σ : St) (H : Hp) (s : Shared) (e : Value) (s' : Shared), Inv X pins σ H s → CX X.stack H s E e s' → X.xe e s'
section
variable {X : Cx} {CX : CXT} {k : Nat} {f C : Addr} {fd : FuncData} {ps : List Str} {sp : Sp} {dvs : List V} {ds : List Value} {E : XK} {x m : Str} {p pos apos : Pos} {e o : Expr} {es : List Expr} {ta : TE} {t : TA}
theorem run_fn {pins : List (Addr × Obj)} {σ : St} {H : Hp} {s : Shared} {Q : VK} {us : List Value} {vs : List V} (F : FnOk X.prog X.w X.K X.mg X.base CX k f fd ps sp) (hr : Room k X.A) (hb : Binds X.K fd ps ds) (hd : Vals dvs ds) (hx : Passes CX X E)
    (I : Inv X pins σ H s) (r : Vals vs us) (h : sp (vs ++ dvs) H Q E) : wpAny (model X.prog X.w) X.A (call (.ref f) us) (EP X pins σ Q) X.xe s := by
  have r2 : Vals (vs ++ dvs) (us ++ ds) := r.append hd
  have hl : (us ++ ds).length = ps.length := by rw [← r2.length]; exact F.len _ _ _ _ h
  refine wpAny_call (codeAny_mono (F.run X.A X.stack s H ⟨us, []⟩ (us ++ ds) (vs ++ dvs) Q E hr I.env0 (hb s us I.kIn hl) r2 h) fun r s' hq => ?_)
  cases r with
  | error e => exact hx pins σ H s e s' I hq
  | ok fl =>
    cases fl with
    | ret u => exact I.after hq
    | next => exact False.elim hq
    | brk => exact False.elim hq
    | cont => exact False.elim hq
theorem pe_call (F : FnOk X.prog X.w X.K X.mg X.base CX k f fd ps sp) (hr : Room k X.A) (hg : Gl X x) (hm : X.mg x = some (.ref f)) (hk : PySem.W.keepIn X.K (.ref f) = true) (hb : Binds X.K fd ps ds) (hd : Vals dvs ds) (hx : Passes CX X E)
    (ha : PA X (e :: es) t) (hdb : (x == ("__debug__" : Str)) = false := by decide) (he : starEach (e :: es) X.env = (false, eval e X.env) :: starEach es X.env := by rfl) (hpl : (backTo pos (starEach es X.env)).any (·.1) = false := by rfl) :
    PE X (.Call (.Name x p) (e :: es) [] pos) (tCall sp dvs E t) := by
  intro pins s σ H Q I h
  refine wpAny_Call_Name_kw (ld_glob I hg hm ?_ hdb)
  refine PySem.W.callWith_K (h₀ := X.base) I.ok.mod.kin hk (thn (ha pos pins s σ H _ I h) fun us s1 ⟨vs, H1, I1, r, q⟩ => ⟨I1.kIn, ?_⟩) he hpl
  exact run_fn F hr hb hd hx I1 r q
end
section
variable {X : Cx} {CX : CXT} {k : Nat} {f C : Addr} {fd : FuncData} {ps ks : List Str} {sp : Sp} {E : XK} {x m : Str} {p pos apos kpos : Pos} {e o : Expr} {es : List Expr} {kws : List Keyword} {te ta : TE} {t tk : TA} {nm : Option Str}
variable {g : List Value → List Value → List Value} {gV : List V → List V → List V}
end
structure FnScope (N P : List Str) (sc : Scope) : Prop where
  kind : sc.kind = .function
  co : sc.isCoroutine = false
  gen : sc.isGenerator = false
  nd : N.Nodup
  pre : N.take P.length = P
  par : ∀ x ∈ P, sc.names.lookup x = some .local ∨ sc.names.lookup x = some .cell
  nofree : ∀ y ∈ sc.names, y.2 ≠ .free
theorem bindL_out {kindOf : Str → Option NameKind} {x : Str} : ∀ {binds : List (Str × Value)} {m : Str → Option Value}, (∀ v, (x, v) ∉ binds) → bindL kindOf binds m x = m x
  | [], _, _ => rfl
  | (n, v) :: r, m, h => by
    unfold bindL
    rw [bindL_out fun w hw => h w (List.mem_cons_of_mem _ hw)]
    split
    · have : x ≠ n := by rintro rfl; exact h v List.mem_cons_self
      simp [this]
    · rfl
theorem bindC_out {kindOf : Str → Option NameKind} {x : Str} : ∀ {binds : List (Str × Value)} {m : Str → Option Value}, (∀ v, (x, v) ∉ binds) → bindC kindOf binds m x = m x
  | [], _, _ => rfl
  | (n, v) :: r, m, h => by
    unfold bindC
    rw [bindC_out fun w hw => h w (List.mem_cons_of_mem _ hw)]
    split
    · rfl
    · have : x ≠ n := by rintro rfl; exact h v List.mem_cons_self
      simp [this]
theorem bindL_get {kindOf : Str → Option NameKind} {x : Str} {v : Value} : ∀ {P : List Str} {vs : List Value} {i : Nat} {m : Str → Option Value}, P.Nodup → P[i]? = some x → vs[i]? = some v → kindOf x = some .local →
    bindL kindOf (P.zip vs) m x = some v
  | [], _, _, _, _, h, _, _ => by simp at h
  | _ :: _, [], _, _, _, _, h, _ => by simp at h
  | p :: P, w :: vs, 0, m, nd, h1, h2, hk => by
    simp at h1 h2; subst h1; subst h2
    show bindL kindOf ((p, w) :: P.zip vs) m p = _
    unfold bindL
    rw [bindL_out fun v hv => (List.nodup_cons.mp nd).1 (List.of_mem_zip hv).1, if_pos hk]
    simp
  | p :: P, w :: vs, i + 1, m, nd, h1, h2, hk => by
    show bindL kindOf ((p, w) :: P.zip vs) m x = _
    unfold bindL
    exact bindL_get (i := i) (List.nodup_cons.mp nd).2 (by simpa using h1) (by simpa using h2) hk
theorem bindC_get {kindOf : Str → Option NameKind} {x : Str} {v : Value} : ∀ {P : List Str} {vs : List Value} {i : Nat} {m : Str → Option Value}, P.Nodup → P[i]? = some x → vs[i]? = some v → kindOf x ≠ some .local →
    bindC kindOf (P.zip vs) m x = some v
  | [], _, _, _, _, h, _, _ => by simp at h
  | _ :: _, [], _, _, _, _, h, _ => by simp at h
  | p :: P, w :: vs, 0, m, nd, h1, h2, hk => by
    simp at h1 h2; subst h1; subst h2
    show bindC kindOf ((p, w) :: P.zip vs) m p = _
    unfold bindC
    rw [bindC_out fun v hv => (List.nodup_cons.mp nd).1 (List.of_mem_zip hv).1, if_neg hk]
    simp
  | p :: P, w :: vs, i + 1, m, nd, h1, h2, hk => by
    show bindC kindOf ((p, w) :: P.zip vs) m x = _
    unfold bindC
    exact bindC_get (i := i) (List.nodup_cons.mp nd).2 (by simpa using h1) (by simpa using h2) hk
def start (N : List Str) (vs : List V) : St := vs.map some ++ List.replicate (N.length - vs.length) none
def cxOf (CX : CXT) (P : Program) (w : World) (K : PySem.W.Frag) (mg : Str → Option Value) (base : Heap) (N : List Str) (qual : Str) (scope : Scope) (f : Addr) (cd : Value) (A : Around) (outer : List Env) (s : Shared) (H : Hp) (E : XK) : Cx where
  prog := P
  w := w
  K := K
  mg := mg
  base := base
  A := A.deeper (envOfC qual scope s.heap.objs.size f cd)
  N := N
  s₀ := s
  H₀ := H
  env := envOfC qual scope s.heap.objs.size f cd
  outer := outer
  stack := envOfC qual scope s.heap.objs.size f cd :: outer
  ex := []
  calm := true
  fn := fun _ => true
  pn := []
  xe := fun e s' => wpAny (model P w) (A.deeper (envOfC qual scope s.heap.objs.size f cd)) (leaving (envOfC qual scope s.heap.objs.size f cd) e) (fun _ s'' => CX outer H s E e s'') (fun e' s'' => CX outer H s E e' s'') s'
theorem cell_has {sc : Scope} {n : Nat} {x : Str} (h : sc.names.lookup x = some .cell) : ∃ c, (cellsFrom n sc.names []).lookup x = some c := by
  have q := PySem.W.cellsFrom_some sc.names n [] (.inl h)
  exact Option.isSome_iff_exists.mp q
theorem inv_start {CX : CXT} {P : Program} {w : World} {K : PySem.W.Frag} {mg : Str → Option Value} {base : Heap} {N ps : List Str} {qual : Str} {scope : Scope} {f : Addr} {cd : Value} {A : Around} {outer : List Env} {s s1 : Shared} {H : Hp} {E : XK} {us : List Value} {vs : List V}
    (S : FnScope N ps scope) (hd : A.handled = none) (e0 : Env0 P w K mg base A outer s H) (hl : vs.length = ps.length) (r : Vals vs us)
    (x : InCallC s s.heap.objs.size (bindL (envOfC qual scope s.heap.objs.size f cd).kindOf (ps.zip us) fun _ => none) (cellsFrom (s.heap.objs.size + 1) scope.names []) (bindC (envOfC qual scope s.heap.objs.size f cd).kindOf (ps.zip us) fun _ => none) s1) :
    Inv (cxOf CX P w K mg base N qual scope f cd A outer s H E) [] (start N vs) H s1 := by
  have hpl : ps.length ≤ N.length := by have := congrArg List.length S.pre; rw [List.length_take] at this; omega
  obtain ⟨h1, tk, rfl, hk⟩ := x.done
  have noA : ∀ b : Addr, b ∉ (cxOf CX P w K mg base N qual scope f cd A outer s H E).ex := fun b z => absurd (show b ∈ ([] : List Addr) from z) (by simp)
  refine ⟨⟨e0.mod, S.kind, rfl, rfl, Nat.le_refl _, fun y z c h1 h2 => ?_, fun y hy => ?_, fun y c _ h => ?_, fun _ => hd, Around.frames_deeper e0.frames, .inr ⟨rfl, rfl⟩, fun b z => absurd z (noA b), e0.bs, e0.bsz, fun b _ _ => noA b, fun b z => absurd z (noA b), e0.funs, e0.frf⟩,
    rfl, e0.bare, Un.kept hk, ⟨_, x.toInCall.ns, fun i y v h1 h2 h3 => ?_⟩, fun y c h => ⟨_, x.cell y c h⟩, e0.hok.fresh (Nat.le_refl _), fun y c h => ?_, fun p hp => absurd (show p ∈ ([] : List (Addr × Obj)) from hp) (by simp), e0.hok.kept hk, ?_⟩
  · exact name_of_addr x.apart (PySem.mem_of_lookup h1) (PySem.mem_of_lookup h2)
  · have hy : scope.names.lookup y = some .cell ∨ scope.names.lookup y = some .free := hy
    rcases hy with hy | hy
    · exact cell_has hy
    · exact absurd rfl (S.nofree _ (PySem.mem_of_lookup hy))
  · exact Nat.le_of_lt (x.above y c (PySem.mem_of_lookup h))
  · have hi : i < vs.length := by
      unfold start at h2
      by_cases hi : i < vs.length
      · exact hi
      · rw [List.getElem?_append_right (by simpa using hi)] at h2
        rw [List.getElem?_replicate] at h2
        split at h2 <;> cases h2
    have ha : vs[i]? = some v := by
      unfold start at h2
      rw [List.getElem?_append_left (by simpa using hi), List.getElem?_map] at h2
      cases e : vs[i]? with
      | none => rw [e] at h2; cases h2
      | some a => rw [e] at h2; cases h2; rfl
    obtain ⟨u, hu, rv⟩ := r.get ha
    have hp : ps[i]? = some y := by
      rw [← S.pre, List.getElem?_take_of_lt (by omega)]; exact h1
    have ndP : ps.Nodup := by rw [← S.pre]; exact S.nd.sublist (List.take_sublist _ _)
    refine ⟨u, rv, ?_⟩
    rcases S.par y (List.mem_of_getElem? hp) with k | k
    · exact .inl ⟨k, bindL_get ndP hp hu k⟩
    · obtain ⟨c, e⟩ := cell_has (n := s.heap.objs.size + 1) k
      refine .inr ⟨.inl k, c, e, ?_⟩
      have q := x.cell y c e
      rw [bindC_get ndP hp hu (by show scope.names.lookup y ≠ _; rw [k]; decide)] at q
      exact q
  · exact e0.hok.fresh (Nat.le_of_lt (x.above y c (PySem.mem_of_lookup h)))
  · unfold start
    show _ = N.length
    rw [List.length_append, List.length_map, List.length_replicate]
    omega
theorem fn_of {CX : CXT} {P : Program} {w : World} {K : PySem.W.Frag} {mg : Str → Option Value} {base : Heap} {k : Nat} {f : Addr} {name qual : Str} {params : Arguments} {body : List Stmt} {scope : Scope} {dV kV doc pm cdv ct oc : Value} {an od : Option Addr}
    {osl : Array (Option Value)} {N ps : List Str} {sp : Sp} (lk : K.lookup f = some ⟨oc, od, .func (PySem.W.fnOf name qual params body scope dV kV doc pm an cdv ct), osl⟩) (hcd : PySem.W.codeIn K cdv qual = true) (S : FnScope N ps scope)
    (len : ∀ vs H Q E, sp vs H Q E → vs.length = ps.length)
    (hbody : ∀ (A : Around) (outer : List Env) (s : Shared) (H : Hp) (vs : List V) (Q : VK) (E : XK), Room k (A.deeper (envOfC qual scope s.heap.objs.size f cdv)) → sp vs H Q E →
      ∃ t, PSs (cxOf CX P w K mg base N qual scope f cdv A outer s H E) body t ∧ t { nx := fun _ H' => Q .non H', rt := Q } (start N vs) H) :
    FnOk P w K mg base CX (k + 1) f (PySem.W.fnOf name qual params body scope dV kV doc pm an cdv ct) ps sp := by
  refine ⟨len, fun A outer s H args us vs Q E hr e0 hb r hsp => ?_⟩
  have hl := len _ _ _ _ hsp
  have KX : K.In s.heap := e0.mod.kin.keeps fun b o e => (e0.bs b o e).1
  have lim : s.heap.NoLimit := e0.mod.nolimit.keeps fun b o e => (e0.bs b o e).1
  have hkind : ∀ y ∈ ps.zip us, scope.names.lookup y.1 = some .local ∨ (scope.names.lookup y.1 = some .cell ∧ ((cellsFrom (s.heap.objs.size + 1) scope.names []).lookup y.1).isSome = true) := fun ⟨n, v⟩ hy => by
    rcases S.par n (List.of_mem_zip hy).1 with q | q
    · exact .inl q
    · exact .inr ⟨q, PySem.W.cellsFrom_some _ _ _ (.inl q)⟩
  refine codeAny_call_function hr.depth (KX _ _ lk) rfl S.co S.gen rfl (PySem.W.codeRec_of KX hcd) (hb _ _ _ _ ?_)
  refine wpAny_newFunctionEnv_cells S.kind hkind fun env he s1 x => ?_
  subst he
  refine ⟨lim.keeps x.toInCall.keep, codeAny_func ?_⟩
  obtain ⟨t, ht, hq⟩ := hbody A outer s H vs Q E (hr.deeper _) hsp
  have I : Inv (cxOf CX P w K mg base N qual scope f cdv A outer s H E) [] (start N vs) H s1 := inv_start S hr.hd e0 hl r x
  refine wpAny_mono (ht [] s1 (start N vs) H _ I hq) (fun fl s' hs => ?_) fun e s' hs => hs
  have fin : ∀ {σ' : St} {H' : Hp} {v : V} {u : Value}, Inv (cxOf CX P w K mg base N qual scope f cdv A outer s H E) [] σ' H' s' → RelV v u → Q v H' → CE outer P w H s Q u s' :=
    fun {σ' H' v u} J rv q => ⟨v, H', J.os, J.bare, J.base, J.hok, rv, q⟩
  cases fl with
  | ret u =>
    obtain ⟨v, σ', H', J, rv, q⟩ := hs
    exact fin J rv q
  | next =>
    obtain ⟨σ', H', J, q⟩ := hs
    exact fin (v := V.non) (u := Value.none) J rfl q
  | brk =>
    obtain ⟨_, _, _, q⟩ := hs
    exact False.elim q
  | cont =>
    obtain ⟨_, _, _, q⟩ := hs
    exact False.elim q
end L2
namespace L2
open PySem PySem.Spec PyProof.Rows
section
variable {X : Cx} {x : Str} {p pos : Pos} {e : Expr} {es : List Expr} {t : TA} {id T : String} {r : List V → Hp → VK → Prop}
def tCB (r : List V → Hp → VK → Prop) (t : TA) : TE := fun σ H Q => t σ H fun vs H1 => r vs H1 Q
theorem pe_callB (hc : CallR X (.builtin id) r) (hg : Gl X x) (hm : X.mg x = none) (hv : bootBuiltins x = some (.builtin id)) (ha : PA X (e :: es) t) (hn : x ≠ "__name__" := by decide) (hdb : (x == ("__debug__" : Str)) = false := by decide)
    (he : starEach (e :: es) X.env = (false, eval e X.env) :: starEach es X.env := by rfl) (hpl : (backTo pos (starEach es X.env)).any (·.1) = false := by rfl) : PE X (.Call (.Name x p) (e :: es) [] pos) (tCB r t) := by
  intro pins s σ H Q I h
  refine wpAny_Call_Name_kw (ld_blt I hg hm hv ?_ hn hdb)
  exact PyProof.Rows.callWith_builtin1 (thn (ha pos pins s σ H _ I h) fun us s1 ⟨vs, H1, I1, r1, q1⟩ => hc pins s1 σ H1 vs us Q I1 r1 q1) he hpl
theorem pe_callTy (hc : CallR X (.type T) r) (hg : Gl X x) (hm : X.mg x = none) (hv : bootBuiltins x = some (.type T)) (ha : PA X (e :: es) t) (hn : x ≠ "__name__" := by decide) (hdb : (x == ("__debug__" : Str)) = false := by decide)
    (he : starEach (e :: es) X.env = (false, eval e X.env) :: starEach es X.env := by rfl) (hpl : (backTo pos (starEach es X.env)).any (·.1) = false := by rfl) : PE X (.Call (.Name x p) (e :: es) [] pos) (tCB r t) := by
  intro pins s σ H Q I h
  refine wpAny_Call_Name_kw (ld_blt I hg hm hv ?_ hn hdb)
  exact PyProof.Rows.callWith_type1 (thn (ha pos pins s σ H _ I h) fun us s1 ⟨vs, H1, I1, r1, q1⟩ => hc pins s1 σ H1 vs us Q I1 r1 q1) he hpl
end
end L2
namespace HT
open PySem PyProof.Rows
section
open PySem.SeqAt
open PySem.AutoSeq1 (wpAny_loadPart')
open PySem.MeetsSeq PySem.MeetsSeq2 PySem.MeetsSeq3
end
section
variable {prog : Program} {w : World} {A : Around} {E : Value → Shared → Prop} {s : Shared}
theorem cat_tup {t b : Addr} {vs ws : List Value} {Q : Value → Shared → Prop} (ht : IsTup s.heap t vs.toArray) (hb : IsTup s.heap b ws.toArray) (hv : vs ≠ [])
    (h1 : ws = [] → Q (.ref t) s) (h2 : ws ≠ [] → Q (.ref s.heap.objs.size) { s with heap := s.heap.push { cls := .type "tuple", data := .seq (vs ++ ws).toArray } })
    (hsz : vs.length + ws.length ≤ sizeLine) : wpAny (model prog w) A (binaryOp .Add (.ref t) (.ref b)) Q E s := by
  obtain ⟨⟨cls, dd, data, sl⟩, ho, hc, n, hd⟩ := id ht
  obtain ⟨⟨cls2, dd2, data2, sl2⟩, ho2, hc2, n2, hd2⟩ := id hb
  simp only at hc hd hc2 hd2
  subst hc hd hc2 hd2
  have e : vs.toArray ++ ws.toArray = (vs ++ ws).toArray := by simp
  by_cases hw : ws = []
  · exact concat_meets ⟨_, ho, rfl⟩ ⟨_, ho2, rfl⟩ noFill_tuple_add seq_tuple_add PySem.F.slot_tuple_add PySem.F.entry_tuple_add (PySem.F.args_tuple_add_2 _ _)
      (tuple_addW1 t b vs.toArray ws.toArray n n2 dd dd2 sl sl2 (by simpa using hv) (by simp [hw])) ⟨ho, ho2, h1 hw⟩
  · refine concat_meets ⟨_, ho, rfl⟩ ⟨_, ho2, rfl⟩ noFill_tuple_add seq_tuple_add PySem.F.slot_tuple_add PySem.F.entry_tuple_add (PySem.F.args_tuple_add_2 _ _)
      (tuple_addW2 t b vs.toArray ws.toArray n n2 dd dd2 sl sl2 (by simpa using hv) (by simpa using hw) (by rw [List.size_toArray, List.size_toArray]; exact hsz)) ⟨ho, ho2, ?_⟩
    rw [e]
    exact h2 hw
def sIx (n d : Nat) : Option Int → Nat
  | none => d
  | some v => if v < 0 then (v + (n : Int)).toNat else min v.toNat n
theorem sIx_none (n d : Nat) : sIx n d none = d := rfl
theorem sIx_nat (n d k : Nat) : sIx n d (some (k : Int)) = min k n := by
  show (if (k : Int) < 0 then ((k : Int) + (n : Int)).toNat else min (k : Int).toNat n) = min k n
  rw [if_neg (by omega), Int.toNat_natCast]
theorem sIx_le (n d : Nat) (hd : d ≤ n) (o : Option Int) : sIx n d o ≤ n := by
  cases o with
  | none => exact hd
  | some v =>
    show (if v < 0 then (v + (n : Int)).toNat else min v.toNat n) ≤ n
    by_cases hv : v < 0
    · rw [if_pos hv]; omega
    · rw [if_neg hv]; exact Nat.min_le_right _ _
theorem clip_eq (v : Int) (n d : Nat) : (if v < 0 then max (v + (n : Int)) 0 else min v (n : Int)) = ((sIx n d (some v) : Nat) : Int) := by
  show (if v < 0 then max (v + (n : Int)) 0 else min v (n : Int)) = (((if v < 0 then (v + (n : Int)).toNat else min v.toNat n) : Nat) : Int)
  by_cases hv : v < 0
  · simp only [if_pos hv]; omega
  · simp only [if_neg hv]; omega
theorem adjust_gen (lo hi : Option Int) (n : Nat) : Builtin.Slice.sliceAdjust lo hi 1 (n : Int) = (((sIx n 0 lo : Nat) : Int), ((sIx n n hi : Nat) : Int)) := by
  have h1 : ¬ ((1 : Int) < 0) := by omega
  unfold Builtin.Slice.sliceAdjust
  simp only [h1, if_false]
  refine Prod.ext ?_ ?_
  · cases lo with
    | none => rfl
    | some v => exact clip_eq v n 0
  · cases hi with
    | none => rfl
    | some v => exact clip_eq v n n
theorem places_gen (i j : Nat) : Builtin.Slice.slicePlaces (i : Int) (j : Int) 1 = j - i := by
  unfold Builtin.Slice.slicePlaces
  have h1 : (1 : Int) > 0 := by omega
  simp only [h1, if_true, Int.ediv_one]
  split <;> omega
theorem slicePart_ {v : Value} {o : Option Int} {Q : Option Int → Shared → Prop} (p : IsPart v o) (h : Q o s) : wpAny (model prog w) A (Builtin.Slice.slicePartIndex v) Q E s := by
  cases p with
  | none => exact slicePart_none h
  | int i t => exact slicePart_int h
theorem sliceApplied_gen {sl : Addr} {vl vu : Value} {lo hi : Option Int} {n : Nat} {Q : Int × Int × Nat → Shared → Prop} (hs : s.heap.IsSliceOf sl vl vu .none) (pl : IsPart vl lo) (pu : IsPart vu hi)
    (h : Q (((sIx n 0 lo : Nat) : Int), 1, sIx n n hi - sIx n 0 lo) s) : wpAny (model prog w) A (Builtin.Slice.sliceApplied (.ref sl) (pure (n : Int))) Q E s := by
  obtain ⟨os, hos, hcs, hds⟩ := id hs
  unfold Builtin.Slice.sliceApplied Builtin.Slice.sliceFields
  refine wpAny_bind (wpAny_bind (wpAny_field hos hds (x := vl) rfl (wpAny_bind (wpAny_field hos hds (x := vu) rfl (wpAny_bind (wpAny_field hos hds (x := .none) rfl (wpAny_pure ?_)))))))
  refine wpAny_bind (slicePart_none ?_)
  show wpAny _ _ (if ((1 : Int) == 0) = true then _ else _) _ _ s
  rw [if_neg (by decide)]
  refine wpAny_bind (slicePart_ pl (wpAny_bind (slicePart_ pu (wpAny_bind (wpAny_pure ?_)))))
  show wpAny _ _ (match Builtin.Slice.sliceAdjust lo hi 1 (n : Int) with | (lo, hi) => pure (lo, (1 : Int), Builtin.Slice.slicePlaces lo hi 1)) _ _ s
  rw [adjust_gen lo hi n]
  show wpAny _ _ (pure (((sIx n 0 lo : Nat) : Int), (1 : Int), Builtin.Slice.slicePlaces ((sIx n 0 lo : Nat) : Int) ((sIx n n hi : Nat) : Int) 1)) _ _ s
  rw [places_gen]
  exact wpAny_pure h
theorem pick_gen (xs : Array Value) (i k : Nat) : ((List.range k).filterMap fun (m : Nat) => xs[((i : Int) + (m : Int) * 1).toNat]?).toArray = ((xs.toList.drop i).take k).toArray := by
  have e : (fun (m : Nat) => xs[((i : Int) + (m : Int) * 1).toNat]?) = fun m => xs[i + m]? := by
    funext m
    have : ((i : Int) + (m : Int) * 1).toNat = i + m := by omega
    rw [this]
  rw [e]
  have := pick_run xs i k
  rw [List.filterMap_map] at this
  have e2 : ((fun x => xs[x]?) ∘ fun x => i + x) = fun m => xs[i + m]? := rfl
  rw [e2] at this
  rw [this]
theorem getItem_tuple_cut {t sl : Addr} {items : Array Value} {vl vu : Value} {lo hi : Option Int} {Q : Value → Shared → Prop} (ht : IsTup s.heap t items) (hs : s.heap.IsSliceOf sl vl vu .none) (pl : IsPart vl lo) (pu : IsPart vu hi)
    (hw : ¬ (sIx items.size 0 lo = 0 ∧ sIx items.size items.size hi = items.size))
    (h : Q (.ref s.heap.objs.size) { s with heap := s.heap.push { cls := .type "tuple", data := .seq ((items.toList.drop (sIx items.size 0 lo)).take (sIx items.size items.size hi - sIx items.size 0 lo)).toArray } })
    (hsz : items.size ≤ sizeLine) : wpAny (model prog w) A (getItem (.ref t) (.ref sl)) Q E s := by
  have htake : sizeOk (.seq ((items.toList.drop (sIx items.size 0 lo)).take (sIx items.size items.size hi - sIx items.size 0 lo)).toArray) := by
    show ((items.toList.drop (sIx items.size 0 lo)).take (sIx items.size items.size hi - sIx items.size 0 lo)).toArray.size ≤ sizeLine
    rw [List.size_toArray, List.length_take, List.length_drop, Array.length_toList]
    omega
  have hj : sIx items.size items.size hi ≤ items.size := sIx_le _ _ (Nat.le_refl _) hi
  obtain ⟨os, hos, hcs, hds⟩ := id hs
  have hTs : s.TypeIs (.ref sl) "slice" := ⟨os, hos, hcs⟩
  unfold getItem
  try with_reducible refine wpAny_holding ?_
  first | refine wpAny_bind (wpAny_pure ?_) | skip
  refine wpAny_bind (wpAny_sequenceKey ht.typeIs (by decide) ?_)
  refine wpAny_bind (wpAny_callSpecial?_slot (name := Str.ofString "__getitem__") ht.typeIs PyProof.Rows.slot_tuple_getitem
    (wpAny_call_entry PyProof.Rows.slot_tuple_getitem ht.typeIs entry_tuple_getitem ?_ (args_tuple_getitem _ _)))
  show wpAny _ _ (Builtin.Tuple.tupleItemsOf (.ref t) >>= _) _ _ s
  refine wpAny_bind (tupleItemsOf_ ht ?_)
  refine wpAny_bind (wpAny_typeOf hTs ?_)
  rw [if_pos (by decide)]
  refine wpAny_bind (sliceApplied_gen hs pl pu ?_)
  have hno : ¬ ((((sIx items.size 0 lo : Nat) : Int) == 0 && (1 : Int) == 1 && (sIx items.size items.size hi - sIx items.size 0 lo) == items.size) = true) := by
    intro q
    rw [Bool.and_eq_true, Bool.and_eq_true] at q
    have q1 : ((sIx items.size 0 lo : Nat) : Int) = 0 := eq_of_beq q.1.1
    have q2 : sIx items.size items.size hi - sIx items.size 0 lo = items.size := eq_of_beq q.2
    exact hw ⟨by omega, by omega⟩
  show wpAny _ _ (if (((sIx items.size 0 lo : Nat) : Int) == 0 && (1 : Int) == 1 && (sIx items.size items.size hi - sIx items.size 0 lo) == items.size) = true then _ else _) _ _ s
  rw [if_neg hno, pick_gen]
  first
    | exact wpAny_bind (m := Builtin.Tuple.tupleExact _) (wpAny_newObj_type (wpAny_pure ⟨_, rfl, wpAny_pure h⟩) htake)
    | exact wpAny_bind (m := Builtin.Tuple.tupleExact _) (wpAny_newObj_type (wpAny_bind (wpAny_pure (wpAny_pure ⟨_, rfl, wpAny_pure h⟩))) htake)
    | exact wpAny_bind (wpAny_bind (m := Builtin.Tuple.tupleExact _) (wpAny_newObj_type (wpAny_pure (wpAny_pure ⟨_, rfl, wpAny_pure h⟩)) htake))
    | exact wpAny_bind (wpAny_bind (m := Builtin.Tuple.tupleExact _) (wpAny_newObj_type (wpAny_pure ⟨_, rfl, wpAny_pure h⟩) htake))
end
end HT
namespace L2
open PySem PySem.Spec PyProof.Rows
abbrev TO := St → Hp → (Option Int → Hp → Prop) → Prop
def PO (X : Cx) (e : Option Expr) (t : TO) : Prop :=
  ∀ (pins : List (Addr × Obj)) (s : Shared) (σ : St) (H : Hp) (Q : Option Int → Hp → Prop), Inv X pins σ H s → t σ H Q →
    wpAny (model X.prog X.w) X.A (evalPart e X.env) (fun u s' => ∃ o H', Inv X pins σ H' s' ∧ IsPart u o ∧ Q o H') X.xe s
def tNoPart : TO := fun _ H Q => Q none H
def tPart (t : TE) : TO := fun σ H Q => t σ H fun x H1 => ∃ i, x = .int i ∧ Q (some i) H1
section
variable {X : Cx} {e : Expr} {te : TE} {lo hi : Option Expr} {tl th : TO} {pos p2 : Pos}
theorem po_none : PO X none tNoPart := by
  intro pins s σ H Q I h
  rw [evalPart_none]
  exact wpAny_pure ⟨none, H, I, .none, h⟩
theorem po_some (h : PE X e te) : PO X (some e) (tPart te) := by
  intro pins s σ H Q I hw
  rw [evalPart_some]
  refine thn (h pins s σ H _ I hw) fun u s1 ⟨x, H1, I1, r1, q1⟩ => ?_
  obtain ⟨i, rfl, q⟩ := q1
  obtain ⟨t, rfl⟩ := r1
  exact ⟨some i, H1, I1, .int i t, q⟩
def SlR (X : Cx) (r : V → Option Int → Option Int → Hp → VK → Prop) : Prop :=
  ∀ (pins : List (Addr × Obj)) (s : Shared) (σ : St) (H : Hp) (x : V) (v vl vu : Value) (lo hi : Option Int) (sl : Addr) (Q : VK), Inv X pins σ H s → RelV x v → s.heap.IsSliceOf sl vl vu .none → IsPart vl lo → IsPart vu hi → r x lo hi H Q →
    ∃ T id, typeLookup (.type T) "__getitem__" = pure (some (.builtin id)) ∧ s.TypeIs v T ∧ wpAny (model X.prog X.w) X.A (getItem v (.ref sl)) (EP X pins σ Q) X.xe s
theorem SlR.or {r r' : V → Option Int → Option Int → Hp → VK → Prop} (h : SlR X r) (h' : SlR X r') : SlR X (fun x lo hi H Q => r x lo hi H Q ∨ r' x lo hi H Q) := by
  intro pins s σ H x v vl vu lo hi sl Q I rx hs pl pu q
  rcases q with q | q
  · exact h pins s σ H x v vl vu lo hi sl Q I rx hs pl pu q
  · exact h' pins s σ H x v vl vu lo hi sl Q I rx hs pl pu q
def tSl (r : V → Option Int → Option Int → Hp → VK → Prop) (te : TE) (tl th : TO) : TE := fun σ H Q => te σ H fun x H1 => tl σ H1 fun l H2 => th σ H2 fun u H3 => r x l u H3 Q
theorem pe_slice {r : V → Option Int → Option Int → Hp → VK → Prop} (hr : SlR X r) (he : PE X e te) (hl : PO X lo tl) (hu : PO X hi th) : PE X (.Subscript e (.Slice lo hi none p2) pos) (tSl r te tl th) := by
  intro pins s σ H Q I h
  refine Subscript_ (thn (he pins s σ H _ I h) fun v s1 ⟨x, H1, I1, r1, q1⟩ => ?_)
  refine wpAny_Slice (thn (hl pins s1 σ H1 _ I1 q1) fun vl s2 ⟨l, H2, I2, pl, q2⟩ => thn (hu pins s2 σ H2 _ I2 q2) fun vu s3 ⟨u, H3, I3, pu, q3⟩ => ?_)
  rw [evalPart_none]
  refine wpAny_pure ?_
  have I4 : Inv X pins σ H3 { s3 with heap := s3.heap.push { cls := .type "slice", data := .fields #[vl, vu, .none] } } := I3.kept (t' := s3.toks) fun b ob q => Heap.get?_push_of_some _ q
  obtain ⟨T, id, hT, ht, hg⟩ := hr pins { s3 with heap := s3.heap.push { cls := .type "slice", data := .fields #[vl, vu, .none] } } σ H3 x v vl vu l u s3.heap.objs.size Q I4 r1 (Heap.IsSliceOf.new ..) pl pu q3
  show wpAny (model X.prog X.w) X.A (subscriptTail e (.Slice lo hi none p2) v (.ref s3.heap.objs.size)) (EP X pins σ Q) X.xe { s3 with heap := s3.heap.push { cls := .type "slice", data := .fields #[vl, vu, .none] } }
  exact tail_any (ops := [.ref s3.heap.objs.size, v]) ht hT hg (by with_unfolding_all rfl)
def cutV (xs : List V) (lo hi : Option Int) : List V := (xs.drop (HT.sIx xs.length 0 lo)).take (HT.sIx xs.length xs.length hi - HT.sIx xs.length 0 lo)
theorem cutV_length (xs : List V) (lo hi : Option Int) : (cutV xs lo hi).length ≤ xs.length := by
  unfold cutV
  rw [List.length_take, List.length_drop]
  omega
def rSlT (K : PySem.W.Frag) : V → Option Int → Option Int → Hp → VK → Prop := fun x lo hi H Q => ∃ a xs, x = .ref a ∧ SqT K H a xs ∧
  ¬ (HT.sIx xs.length 0 lo = 0 ∧ HT.sIx xs.length xs.length hi = xs.length) ∧ ∀ p, H p = none → Q (.ref p) (upd H p (.tup (cutV xs lo hi)))
theorem sl_tup : SlR X (rSlT X.K) := by
  intro pins s σ H x v vl vu lo hi sl Q I rx hs pl pu h
  obtain ⟨a, xs, rfl, hx, hw, q⟩ := h
  cases rx
  obtain ⟨its, r, ht, hz⟩ := I.tuple hx
  have hlen : its.toArray.size = xs.length := by rw [List.size_toArray]; exact r.length.symm
  refine ⟨"tuple", _, PyProof.Rows.slot_tuple_getitem.lookup, ht.typeIs, ?_⟩
  refine HT.getItem_tuple_cut ht hs pl pu (by rw [hlen]; exact hw) ?_ (by rw [hlen]; exact hz)
  rw [hlen]
  refine ⟨.ref s.heap.objs.size, _, I.laid (t' := s.toks) (o := .tup (cutV xs lo hi)) (fun b ob q => Heap.get?_push_of_some _ q) (Nat.le_refl _) ?_, rfl, q _ (I.hok.fresh (Nat.le_refl _))⟩
  exact ⟨Nat.le_trans (cutV_length xs lo hi) hz, _, (r.drop (HT.sIx xs.length 0 lo)).take (HT.sIx xs.length xs.length hi - HT.sIx xs.length 0 lo), IsTup.new _ _⟩
def rCatT (K : PySem.W.Frag) : R2 := fun x y H Q => ∃ a b xs ys, x = .ref a ∧ y = .ref b ∧ SqT K H a xs ∧ SqT K H b ys ∧ xs ≠ [] ∧ xs.length + ys.length ≤ sizeLine ∧
  (ys = [] → Q (.ref a) H) ∧ (ys ≠ [] → ∀ p, H p = none → Q (.ref p) (upd H p (.tup (xs ++ ys))))
theorem Vals.nil_iff {xs : List V} {us : List Value} (r : Vals xs us) : us = [] ↔ xs = [] := by
  cases r with
  | nil => simp
  | cons _ _ => simp
theorem op_catT : OpR X (binaryOp .Add) (rCatT X.K) := by
  intro pins s σ H x y v u Q I rx ry h
  obtain ⟨a, b, xs, ys, rfl, rfl, ha, hb, hx, hz, q1, q2⟩ := h
  cases rx
  cases ry
  obtain ⟨its, r1, p1, _⟩ := I.tuple ha
  obtain ⟨its2, r2, p2, _⟩ := I.tuple hb
  refine HT.cat_tup p1 p2 (fun z => hx (r1.nil_iff.mp z)) (fun z => ⟨.ref a, H, I, rfl, q1 (r2.nil_iff.mp z)⟩) (fun z => ?_) (by rw [← r1.length, ← r2.length]; exact hz)
  refine ⟨.ref s.heap.objs.size, _, I.laid (t' := s.toks) (o := .tup (xs ++ ys)) (fun b ob q => Heap.get?_push_of_some _ q) (Nat.le_refl _) ?_, rfl, q2 (fun w => z (r2.nil_iff.mpr w)) _ (I.hok.fresh (Nat.le_refl _))⟩
  exact ⟨by rw [List.length_append]; exact hz, _, r1.append r2, IsTup.new _ _⟩
end
end L2
namespace L2
open PySem PySem.Spec PyProof.Rows
def ixN (n : Nat) (i : Int) : Option Nat := if 0 ≤ i then (if i < n then some i.toNat else none) else if -(n : Int) ≤ i then some (i + n).toNat else none
def atI {α : Type} (xs : List α) (i : Int) : Option α := (ixN xs.length i).bind fun j => xs[j]?
theorem ixN_seq {n : Nat} {i : Int} {j : Nat} (h : ixN n i = some j) : seqIndex? i n = some j ∧ j < n ∧ -(n : Int) ≤ i ∧ i < n := by
  unfold ixN at h
  by_cases h0 : 0 ≤ i
  · rw [if_pos h0] at h
    by_cases h1 : i < n
    · rw [if_pos h1] at h
      have e : i.toNat = j := Option.some.inj h
      exact ⟨by rw [seqIndex_of h0 h1, e], by omega, by omega, h1⟩
    · rw [if_neg h1] at h; cases h
  · rw [if_neg h0] at h
    by_cases h1 : -(n : Int) ≤ i
    · rw [if_pos h1] at h
      have e : (i + n).toNat = j := Option.some.inj h
      exact ⟨by rw [seqIndex_neg (by omega) h1, e], by omega, h1, by omega⟩
    · rw [if_neg h1] at h; cases h
theorem atI_get {α : Type} {xs : List α} {i : Int} {v : α} (h : atI xs i = some v) : ∃ j, seqIndex? i xs.length = some j ∧ xs[j]? = some v ∧ j < xs.length ∧ -(xs.length : Int) ≤ i ∧ i < xs.length := by
  unfold atI at h
  cases e : ixN xs.length i with
  | none => rw [e] at h; cases h
  | some j =>
    rw [e] at h
    obtain ⟨h1, h2, h3, h4⟩ := ixN_seq e
    exact ⟨j, h1, h, h2, h3, h4⟩
theorem atI_nat {α : Type} {xs : List α} {j : Nat} {v : α} (h : xs[j]? = some v) : atI xs (j : Int) = some v := by
  have hj : j < xs.length := (List.getElem?_eq_some_iff.mp h).1
  have e : ixN xs.length (j : Int) = some j := by
    unfold ixN
    rw [if_pos (by omega), if_pos (by omega)]; simp
  unfold atI; rw [e]; exact h
def PlainIx (b : Expr) : Prop := ∀ o i, subscripted b false o i = operate [o, i] (getItem o i)
def IxR (X : Cx) (r : R2) : Prop :=
  ∀ (value slice : Expr) (pins : List (Addr × Obj)) (s : Shared) (σ : St) (H : Hp) (x y : V) (v u : Value) (Q : VK), Inv X pins σ H s → RelV x v → RelV y u → r x y H Q →
    subscripted slice false v u = operate [v, u] (getItem v u) → wpAny (model X.prog X.w) X.A (subscriptTail value slice v u) (EP X pins σ Q) X.xe s
def MtR (X : Cx) (id : String) (r : V → List V → Hp → VK → Prop) : Prop :=
  ∀ (pins : List (Addr × Obj)) (s : Shared) (σ : St) (H : Hp) (x : V) (xs : List V) (v : Value) (us : List Value) (Q : VK), Inv X pins σ H s → RelV x v → Vals xs us → r x xs H Q →
    wpAny (model X.prog X.w) X.A (call (.builtin id) (v :: us)) (EP X pins σ Q) X.xe s
section
variable {X : Cx} {a b : Expr} {ta tb : TE} {pos : Pos}
theorem IxR.or {r r' : R2} (h : IxR X r) (h' : IxR X r') : IxR X (fun x y H Q => r x y H Q ∨ r' x y H Q) := by
  intro value slice pins s σ H x y v u Q I rx ry q hs
  rcases q with q | q
  · exact h value slice pins s σ H x y v u Q I rx ry q hs
  · exact h' value slice pins s σ H x y v u Q I rx ry q hs
theorem pe_ix {r : R2} (hr : IxR X r) (ha : PE X a ta) (hb : PE X b tb) (hs : PlainIx b) : PE X (.Subscript a b pos) (tOp r ta tb) := by
  intro pins s σ H Q I h
  exact Subscript_ (binT ha hb I h fun v u s2 x y H2 I2 rx ry q => hr a b pins s2 σ H2 x y v u Q I2 rx ry q (hs _ _))
def rIxL (K : PySem.W.Frag) : R2 := fun x y H Q => ∃ p xs i v, x = .ref p ∧ y = .int i ∧ SqL K H p xs ∧ atI xs i = some v ∧ Q v H
def rIxT (K : PySem.W.Frag) : R2 := fun x y H Q => ∃ p xs i v, x = .ref p ∧ y = .int i ∧ SqT K H p xs ∧ atI xs i = some v ∧ Q v H
def rIxS : R2 := fun x y H Q => ∃ z i c, x = .str z ∧ y = .int i ∧ z.length ≤ sizeLine ∧ atI z.cps.toList i = some c ∧ Q (.str ⟨#[c]⟩) H
theorem ix_list : IxR X (rIxL X.K) := by
  intro value slice pins s σ H x y v u Q I rx ry h hs
  obtain ⟨p, xs, i, z, rfl, rfl, hq, he, q⟩ := h
  cases rx
  obtain ⟨t, rfl⟩ := ry
  obtain ⟨its, r, pl, hz⟩ := I.list hq
  obtain ⟨j, h1, h2, h3, h4, h5⟩ := atI_get he
  obtain ⟨w, ew, rw'⟩ := r.get h2
  have hl := r.length
  have hn := line63
  have fin : EP X pins σ Q w s := ⟨z, H, I, rw', q⟩
  by_cases h0 : 0 ≤ i
  · have hj : i.toNat = j := by
      rw [seqIndex_of h0 h5] at h1
      exact Option.some.inj h1
    exact item_listR pl.isList h0 (by omega) (by rw [hj]; simpa using ew) fin hs
  · have hj : (i + (its.toArray.size : Int)).toNat = j := by
      rw [seqIndex_neg (by omega) h4] at h1
      rw [List.size_toArray, ← hl]
      exact Option.some.inj h1
    exact subscriptTail_builtinR (x := w) pl.isList.typeIs slot_list_getitem.lookup
      (wpAny_getItem_list_neg (Q := fun r s' => r = w ∧ EP X pins σ Q r s') pl.isList (by omega) (by rw [List.size_toArray] <;> omega) (by omega) (by rw [hj]; simpa using ew) ⟨rfl, fin⟩) hs
theorem ix_tup : IxR X (rIxT X.K) := by
  intro value slice pins s σ H x y v u Q I rx ry h hs
  obtain ⟨p, xs, i, z, rfl, rfl, hq, he, q⟩ := h
  cases rx
  obtain ⟨t, rfl⟩ := ry
  obtain ⟨its, r, pl, hz⟩ := I.tuple hq
  obtain ⟨j, h1, h2, h3, h4, h5⟩ := atI_get he
  obtain ⟨w, ew, rw'⟩ := r.get h2
  have hl := r.length
  have hn := line63
  have fin : EP X pins σ Q w s := ⟨z, H, I, rw', q⟩
  exact subscriptTail_builtinR (x := w) pl.typeIs slot_tuple_getitem.lookup
    (getItem_tuple (j := j) (Q := fun r s' => r = w ∧ EP X pins σ Q r s') pl (by omega) (by omega) (by rw [List.size_toArray, ← hl]; exact h1) (by simpa using ew) ⟨rfl, fin⟩) hs
theorem ix_str : IxR X rIxS := by
  intro value slice pins s σ H x y v u Q I rx ry h hs
  obtain ⟨z, i, c, rfl, rfl, hz, he, q⟩ := h
  obtain ⟨t, rfl⟩ := rx
  obtain ⟨t', rfl⟩ := ry
  obtain ⟨j, h1, h2, h3, h4, h5⟩ := atI_get he
  have hl : z.cps.toList.length = z.length := by simp [Str.length]
  rw [hl] at h1 h4 h5
  have hn := line63
  exact tail_any (typeIs_str s z t) slot_str_getitem.lookup (getItem_str (c := c) (by
    have e1 : decide (i < -(2 ^ 63 : Int)) = false := decide_eq_false (by omega)
    have e2 : decide (i ≥ 2 ^ 63) = false := decide_eq_false (by omega)
    rw [e1, e2, Bool.or_false]) (by rw [h1]; simpa using h2) ⟨.str ⟨#[c]⟩, H, I.tok _, ⟨_, rfl⟩, q⟩) hs
def rIx (K : PySem.W.Frag) : R2 := fun x y H Q => rIxL K x y H Q ∨ rIxT K x y H Q ∨ rIxS x y H Q
theorem ix_seq : IxR X (rIx X.K) := ix_list.or (ix_tup.or ix_str)
theorem slice_bounds (lo hi : Option Int) (n : Nat) : (sliceBounds lo hi none n).1 = ((HT.sIx n 0 lo : Nat) : Int) ∧ (sliceBounds lo hi none n).2.1 = ((HT.sIx n n hi : Nat) : Int) ∧ (sliceBounds lo hi none n).2.2 = 1 := by
  refine ⟨?_, ?_, rfl⟩
  · cases lo with
    | none => simp [sliceBounds, HT.sIx]
    | some i =>
      simp only [sliceBounds, HT.sIx, Option.getD_none, show (1 : Int) > 0 by decide, if_true]
      by_cases h : i < 0
      · simp only [h, if_true] <;> omega
      · simp only [h, if_false] <;> omega
  · cases hi with
    | none => simp [sliceBounds, HT.sIx]
    | some i =>
      simp only [sliceBounds, HT.sIx, Option.getD_none, show (1 : Int) > 0 by decide, if_true]
      by_cases h : i < 0
      · simp only [h, if_true] <;> omega
      · simp only [h, if_false] <;> omega
theorem slicePick_cut (its : List Value) (lo hi : Option Int) : slicePick its.toArray lo hi none = ((its.drop (HT.sIx its.length 0 lo)).take (HT.sIx its.length its.length hi - HT.sIx its.length 0 lo)).toArray := by
  obtain ⟨h1, h2, h3⟩ := slice_bounds lo hi its.toArray.size
  unfold slicePick
  rw [h1, h2, h3]
  simp only [sliceRange_one, pick_run, List.size_toArray] <;> rfl
def rSlL (K : PySem.W.Frag) : V → Option Int → Option Int → Hp → VK → Prop := fun x lo hi H Q => ∃ a xs, x = .ref a ∧ SqL K H a xs ∧ ∀ p, H p = none → Q (.ref p) (upd H p (.lst (cutV xs lo hi)))
theorem sl_list : SlR X (rSlL X.K) := by
  intro pins s σ H x v vl vu lo hi sl Q I rx hs pl pu h
  obtain ⟨a, xs, rfl, hx, q⟩ := h
  cases rx
  obtain ⟨its, r, ht, hz⟩ := I.list hx
  have hlen := r.length
  refine ⟨"list", _, slot_list_getitem.lookup, ht.isList.typeIs, ?_⟩
  refine wpAny_getItem_list_slice ht.isList hs pl pu .none (by simp) ?_ (by rw [List.size_toArray] <;> omega)
  rw [slicePick_cut, ← hlen]
  refine ⟨.ref s.heap.objs.size, _, I.laid (t' := s.toks) (o := .lst (cutV xs lo hi)) (fun b ob q => Heap.get?_push_of_some _ q) (Nat.le_refl _) ?_, rfl, q _ (I.hok.fresh (Nat.le_refl _))⟩
  exact ⟨Nat.le_trans (cutV_length xs lo hi) hz, _, 0, (r.drop (HT.sIx xs.length 0 lo)).take (HT.sIx xs.length xs.length hi - HT.sIx xs.length 0 lo), Heap.get?_push_size _ rfl⟩
theorem call_len_seq : CallR X (.builtin "len") (fun xs H Q => ∃ p ys, xs = [.ref p] ∧ (SqL X.K H p ys ∨ SqT X.K H p ys) ∧ Q (.int ys.length) H) := by
  intro pins s σ H xs us Q I r h
  obtain ⟨p, ys, rfl, hq, q⟩ := h
  obtain ⟨u, rfl, rx⟩ := vals1 r
  cases rx
  have hn := line63
  rcases hq with hq | hq
  · obtain ⟨its, r', pl, hz⟩ := I.list hq
    have hlen := r'.length
    exact Calls.call_len_list pl.isList (by simp only [List.size_toArray] <;> omega) ⟨.int ys.length, H, I.tok _, ⟨s.toks + 1, by rw [List.size_toArray, hlen]⟩, q⟩
  · obtain ⟨its, r', pl, hz⟩ := I.tuple hq
    have hlen := r'.length
    exact len_tuple pl (by simp only [List.size_toArray] <;> omega) ⟨.int ys.length, H, I.tok _, ⟨s.toks + 1, by rw [List.size_toArray, hlen]⟩, q⟩
theorem call_len_str : CallR X (.builtin "len") (fun xs H Q => ∃ z, xs = [.str z] ∧ z.length ≤ sizeLine ∧ Q (.int z.length) H) := by
  intro pins s σ H xs us Q I r h
  obtain ⟨z, rfl, hz, q⟩ := h
  obtain ⟨u, rfl, t, rfl⟩ := vals1 r
  have hn := line63
  exact len_str (by omega) ⟨.int z.length, H, I.tok _, ⟨_, rfl⟩, q⟩
theorem CallR.or {f : Value} {r r' : List V → Hp → VK → Prop} (h : CallR X f r) (h' : CallR X f r') : CallR X f (fun xs H Q => r xs H Q ∨ r' xs H Q) := by
  intro pins s σ H xs us Q I rs q
  rcases q with q | q
  · exact h pins s σ H xs us Q I rs q
  · exact h' pins s σ H xs us Q I rs q
theorem call_tuple_of : CallR X (.type "tuple") (fun xs H Q => ∃ p ys, xs = [.ref p] ∧ ((SqL X.K H p ys ∧ ∀ l, H l = none → Q (.ref l) (upd H l (.tup ys))) ∨ (SqT X.K H p ys ∧ Q (.ref p) H))) := by
  intro pins s σ H xs us Q I r h
  obtain ⟨p, ys, rfl, h⟩ := h
  obtain ⟨u, rfl, rx⟩ := vals1 r
  cases rx
  rcases h with ⟨hq, q⟩ | ⟨hq, q⟩
  · obtain ⟨its, r', pl, hz⟩ := I.list hq
    have hlen := r'.length
    refine call_tuple_list pl.isList (fun h' kp => ?_) (by simp only [List.size_toArray] <;> omega)
    have I1 : Inv X pins σ H { s with heap := h' } := I.kept (t' := s.toks) kp
    have I2 : Inv X pins σ (upd H h'.objs.size (.tup ys)) { s with heap := h'.push { cls := .type "tuple", data := .seq its.toArray } } :=
      I1.laid (t' := s.toks) (fun b o e => Heap.get?_push_of_some _ e) (Nat.le_refl _) (show ObjOk X.prog X.w _ _ _ (.tup ys) from ⟨hz, its, r', IsTup.new _ _⟩)
    exact ⟨.ref h'.objs.size, _, I2, rfl, q _ (I1.hok.fresh (Nat.le_refl _))⟩
  · obtain ⟨its, r', pl, hz⟩ := I.tuple hq
    exact call_tuple_same pl ⟨.ref p, H, I, rfl, q⟩
def tyV (K : PySem.W.Frag) (T : String) (x : V) (H : Hp) : Prop := match x with
  | .str _ => T = "str"
  | .int _ => T = "int"
  | .ref p => (T = "list" ∧ ∃ xs, SqL K H p xs) ∨ (T = "tuple" ∧ ∃ o, K.lookup p = some o ∧ o.cls = .type "tuple" ∧ o.dict = none) ∨
      (T = "dict" ∧ ((∃ kvs, H p = some (.dK kvs)) ∨ ∃ kvs, H p = some (.dT kvs))) ∨ (T = "set" ∧ ∃ S n, H p = some (.set S n))
  | _ => False
theorem tyV_is {pins : List (Addr × Obj)} {σ : St} {H : Hp} {s : Shared} {T : String} {x : V} {v : Value} (I : Inv X pins σ H s) (r : RelV x v) (ty : tyV X.K T x H) :
    s.TypeIs v T ∧ ∀ a, v = .ref a → ∃ ob, s.heap.get? a = some ob ∧ ob.dict = none := by
  cases x with
  | str z =>
    obtain ⟨t, rfl⟩ := r
    cases (show T = "str" from ty)
    exact ⟨typeIs_str s z t, fun _ e => nomatch e⟩
  | int i =>
    obtain ⟨t, rfl⟩ := r
    cases (show T = "int" from ty)
    exact ⟨typeIs_int s i t, fun _ e => nomatch e⟩
  | ref p =>
    cases r
    rcases ty with ⟨rfl, xs, hq⟩ | ⟨rfl, o, hk, hc, hd⟩ | ⟨rfl, hk⟩ | ⟨rfl, S, n, hk⟩
    · obtain ⟨its, _, pl, _⟩ := I.list hq
      refine ⟨pl.isList.typeIs, fun a e => ?_⟩
      cases e
      obtain ⟨o, n, e, c, hd, _⟩ := pl
      exact ⟨o, e, hd⟩
    · refine ⟨⟨o, I.kIn p o hk, hc⟩, fun a e => ?_⟩
      cases e
      exact ⟨o, I.kIn _ o hk, hd⟩
    · have z : ∃ o, s.heap.get? p = some o ∧ o.ExactDict := by
        rcases hk with ⟨kvs, hk⟩ | ⟨kvs, hk⟩
        · obtain ⟨_, _, _, _, o, _, _, e, ex, _⟩ := I.hok p _ hk
          exact ⟨o, e, ex⟩
        · obtain ⟨_, _, _, _, o, _, _, e, ex, _⟩ := I.hok p _ hk
          exact ⟨o, e, ex⟩
      obtain ⟨o, e, ex⟩ := z
      refine ⟨⟨o, e, ex.1⟩, fun a e2 => ?_⟩
      cases e2
      exact ⟨o, e, ex.2.1⟩
    · obtain ⟨o, _, _, _, e, ex, _⟩ := I.hok p _ hk
      refine ⟨⟨o, e, ex.1⟩, fun a e2 => ?_⟩
      cases e2
      exact ⟨o, e, ex.2.1⟩
  | _ => exact False.elim ty
def tBM (K : PySem.W.Frag) (T : String) (r : V → List V → Hp → VK → Prop) (to : TE) (t : TA) : TE := fun σ H Q => to σ H fun x H1 => tyV K T x H1 ∧ t σ H1 fun xs H2 => r x xs H2 Q
variable {o e : Expr} {es : List Expr} {to : TE} {t : TA} {name : Str} {apos cpos : Pos} {T id : String} {r : V → List V → Hp → VK → Prop}
theorem pe_bm (pa : PlainAttrs T) (slot : Slot T name id) (hty : typeOf (.builtin id) = pure (.type "method_descriptor")) (hm : MtR X id r) (ho : PE X o to) (ha : PA X (e :: es) t)
    (hbase : attributeBase o name X.env (eval o X.env) = eval o X.env := by rfl)
    (hfew : ((backTo cpos (starEach (e :: es) X.env)).all (fun x => !x.1) && (backToKw cpos (keywordEach [] X.env)).all (fun x => x.1.isSome)
      && decide ((e :: es).length + ([] : List Keyword).length + (if ([] : List Keyword).isEmpty then 0 else 1) < 30)) = true := by rfl)
    (hline : (apos.endLine == cpos.line) = true := by rfl) (hs : starEach (e :: es) X.env = (false, eval e X.env) :: starEach es X.env := by rfl) (hplain : (backTo cpos (starEach es X.env)).any (·.1) = false := by rfl) :
    PE X (.Call (.Attribute o name apos) (e :: es) [] cpos) (tBM X.K T r to t) := by
  intro pins s σ H Q I h
  refine wpAny_Call_method_late hbase hfew hline rfl (thn (ho pins s σ H _ I h) fun v s1 ⟨x, H1, I1, r1, ty, q1⟩ => ?_)
  obtain ⟨h1, h2⟩ := tyV_is I1 r1 ty
  refine ⟨T, id, pa, slot, hty, h1, h2, ?_⟩
  have hA := ha cpos pins s1 σ H1 _ I1 q1
  rw [hs] at hA ⊢
  refine Calls.callWith_builtin (by show (false || (backTo cpos (starEach es X.env)).any (·.1)) = false; rw [hplain] <;> rfl) (Calls.evalArgs_plain ?_)
  exact thn hA fun us s2 ⟨vs, H2, I2, r2, q2⟩ => hm pins s2 σ H2 x vs v us Q I2 r1 r2 q2
end
end L2
namespace L2
open PySem PySem.Spec PyProof.Rows
def MtM (X : Cx) (id : String) (r : V → List V → Hp → VK → Prop) : Prop :=
  ∀ (pins : List (Addr × Obj)) (s : Shared) (σ : St) (H : Hp) (x : V) (xs : List V) (v : Value) (us : List Value) (Q : VK), Inv X pins σ H s → RelV x v → Vals xs us → r x xs H Q →
    wpAny (model X.prog X.w) X.A (call (.builtin id) (v :: us)) (EP X pins σ Q) X.xe s
theorem Vals.one : ∀ {x : V} {us : List Value}, Vals [x] us → ∃ u, us = [u] ∧ RelV x u
  | _, _, .cons r .nil => ⟨_, rfl, r⟩
theorem Vals.reverse {xs : List V} {us : List Value} (h : Vals xs us) : Vals xs.reverse us.reverse := by
  induction h with
  | nil => exact .nil
  | cons r t ih => rw [List.reverse_cons, List.reverse_cons]; exact Vals.append ih (.cons r .nil)
section
variable {X : Cx} {pins : List (Addr × Obj)} {σ : St} {H : Hp} {s : Shared} {l b : Addr} {xs ys zs : List V}
theorem Inv.lset {its its' : List Value} {n : Nat} {f : Array Value → Array Value} {t' : Nat} (I : Inv X pins σ H s) (hH : H l = some (.lst xs))
    (e : s.heap.get? l = some { cls := .type "list", data := .seq its.toArray n }) (hf : f its.toArray = its'.toArray) (hv : Vals ys its') (hz : ys.length ≤ sizeLine) :
    Inv X pins σ (upd H l (.lst ys)) { s with heap := s.heap.update l (Obj.mapSeq f), toks := t' } := by
  have q := PySem.IsL.update e f
  rw [hf] at q
  refine I.write (x := l) (e := l) (by rw [hH]; exact trivial) (.inl rfl) (fun b' u hb hu => (Heap.get?_update_other s.heap (Obj.mapSeq f) (Ne.symm hb)).trans hu) ⟨_, q⟩ ?_
  exact ⟨hz, its', _, hv, q⟩
theorem Inv.lnew {its : List Value} {t' : Nat} (I : Inv X pins σ H s) (hv : Vals ys its) (hz : ys.length ≤ sizeLine) :
    Inv X pins σ (upd H s.heap.objs.size (.lst ys)) { s with heap := s.heap.push { cls := .type "list", data := .seq its.toArray }, toks := t' } :=
  I.laid (fun _ _ q => Heap.get?_push_of_some _ q) (Nat.le_refl _) ⟨hz, its, 0, hv, Heap.get?_push_size _ rfl⟩
theorem Inv.fresh (I : Inv X pins σ H s) : H s.heap.objs.size = none := I.hok.fresh (Nat.le_refl _)
theorem Inv.lstM (I : Inv X pins σ H s) (hH : H l = some (.lst xs)) : xs.length ≤ sizeLine ∧ ∃ (its : List Value) (n : Nat), Vals xs its ∧ xs.length = its.length ∧ s.heap.get? l = some { cls := .type "list", data := .seq its.toArray n } := by
  obtain ⟨z, its, n, r, e⟩ := I.hok l _ hH
  exact ⟨z, its, n, r, r.length, e⟩
end
section
variable {X : Cx}
def rAppend : V → List V → Hp → VK → Prop := fun x vs H Q => ∃ l xs y, x = .ref l ∧ vs = [y] ∧ H l = some (.lst xs) ∧ xs.length < sizeLine ∧ Q .non (upd H l (.lst (xs ++ [y])))
theorem mt_append : MtM X "list.append" rAppend := by
  intro pins s σ H x vs v us Q I rx rv h
  obtain ⟨l, xs, y, rfl, rfl, hH, hz, q⟩ := h
  cases rx
  obtain ⟨u, rfl, ru⟩ := rv.one
  obtain ⟨z, its, n, r, hl, e⟩ := I.lstM hH
  refine call_meets F.slot_list_append ⟨_, e, rfl⟩ F.entry_list_append (F.args_list_append_2 _ _) (PySem.list_append l its.toArray n u (by rw [List.size_toArray]; omega)) ⟨e, ?_⟩
  refine ⟨.non, _, I.lset (its' := its ++ [u]) hH e (by simp) (r.append (.cons ru .nil)) ?_, rfl, q⟩
  rw [List.length_append, List.length_singleton]
  omega
end
section
variable {prog : Program} {w : World} {A : Around} {E : Value → Shared → Prop} {s : Shared}
end
section
variable {X : Cx}
end
end L2
namespace L2
open PySem PySem.Spec PyProof.Rows
section
variable {κ : Type} [DecidableEq κ]
end
section
variable {P : Program} {w : World} {H : Hp} {h : Heap} {a : Addr}
end
section
variable {X : Cx} {pins : List (Addr × Obj)} {σ : St} {H : Hp} {s : Shared} {a : Addr} {y v : V} {u r : Value} {o : Option V} {A : Around} {E : Value → Shared → Prop}
end
section
variable {X : Cx} {pins : List (Addr × Obj)} {σ : St} {H : Hp} {s : Shared} {a : Addr} {kvs : List (Key × V)} {k : Key} {u : Value} {A : Around} {E : Value → Shared → Prop}
end
def NoSl (i : Expr) : Prop := ∀ ov iv, subscripted i false ov iv = operate [ov, iv] (getItem ov iv)
theorem subD_of {prog : Program} {w : World} {A : Around} {E : Value → Shared → Prop} {s : Shared} {env : Env} {value slice : Expr} {pos : Pos} {T id : String} {Q : Value → Shared → Prop}
    (hl : typeLookup (.type T) "__getitem__" = pure (some (.builtin id))) (hs : NoSl slice)
    (h : wpAny (model prog w) A (eval value env) (fun o s₁ => wpAny (model prog w) A (eval slice env) (fun i s₂ => s₂.TypeIs o T ∧ wpAny (model prog w) A (getItem o i) Q E s₂) E s₁) E s) :
    wpAny (model prog w) A (eval (.Subscript value slice pos) env) Q E s := by
  refine Subscript_ (wpAny_mono h (fun o s₁ h₁ => wpAny_mono h₁ (fun i s₂ h₂ => ?_) fun _ _ x => x) fun _ _ x => x)
  obtain ⟨hT, h₂⟩ := h₂
  unfold subscriptTail
  refine wpAny_bind ?_
  rw [getitemInPython_of_ne hT.not_modules]
  refine wpAny_bind (wpAny_specialOf hT hl ?_)
  have fin : wpAny (model prog w) A (subscripted slice false o i) (fun r s₃ => wpAny (model prog w) A (letTemporaryGo value o r >>= fun _ => pure r) Q E s₃) E s₂ := by
    rw [hs o i]
    exact wpAny_operating (wpAny_mono h₂ (fun r s₃ h₃ => wpAny_bind (wpAny_letTemporaryGo (wpAny_pure h₃))) fun _ _ x => x)
  first
    | exact wpAny_pure (wpAny_bind fin)
    | exact wpAny_bind (wpAny_pure (wpAny_bind fin))
    | exact wpAny_bind fin
section
variable {X : Cx} {o i e value : Expr} {pos pos' tpos : Pos} {td ty tv : TE}
end
section
variable {X : Cx} {pos : Pos}
end
section
variable {X : Cx} {pins : List (Addr × Obj)} {σ : St} {H : Hp} {s : Shared} {a : Addr} {y d : V} {u r : Value} {o : Option V} {A : Around} {E : Value → Shared → Prop}
end
section
variable {X : Cx} {o e f : Expr} {apos cpos : Pos} {td ty tx : TE}
end
section
variable {X : Cx} {pins : List (Addr × Obj)} {σ : St} {H : Hp} {s : Shared} {a : Addr} {kvs : List (Key × V)} {A : Around} {E : Value → Shared → Prop}
end
section
variable {X : Cx} {pins : List (Addr × Obj)} {σ : St} {H : Hp} {s : Shared} {a : Addr} {y : V} {u : Value} {A : Around} {E : Value → Shared → Prop}
end
end L2
namespace Att
open PySem PySem.W PySem.Calls PyProof.Rows
theorem ints_of_wellAll {P : Params} {h : Heap} : ∀ (ns : List Int) (vs : List Value), WellAll P h vs (ns.map WData.int) → IntsAre vs ns := by
  intro ns
  induction ns with
  | nil =>
    intro vs w
    rw [List.map_nil] at w
    cases w
    exact .nil
  | cons n ns ih =>
    intro vs w
    rw [List.map_cons] at w
    cases w with
    | cons a b =>
      cases a
      exact .cons _ _ (ih _ b)
theorem script_of {l : OpenLaw} {n : Nat} (hn : l.most = some n) {P : Params} {h : Heap} {args : List WData} {vals : List Value}
    (hpre : l.row.toRowW.claim.pre args = true) (hwl : WellAll P h vals args) :
    ∃ a vs ns, vals = [Value.ref a] ∧ args = [WData.list (ns.map WData.int)] ∧ h.get? a = some { cls := .type "list", data := .seq vs.toArray } ∧ IntsAre vs ns ∧ ns.length ≤ n := by
  have hsh : WShape.hasAll [] args [.list .int] = true := (pre_splitW hpre).1
  have hc : l.pre.holds [] { args := args } = true := (pre_splitW hpre).2
  obtain ⟨d, r, rfl, h1, h2⟩ := hasAllW_cons hsh
  obtain rfl := hasAllW_nil h2
  obtain ⟨xs, rfl, h3⟩ := hasW_list h1
  obtain ⟨ns, rfl⟩ := items_int h3
  have hlen : ns.length ≤ n := by
    unfold OpenLaw.pre at hc
    have h4 : (WTm.not (.lt (.lit (.int (n : Int))) (.len (.arg 0)))).holds [] { args := [.list (ns.map .int)] } = true := by
      have h4 := (holds_andW hc).1
      rw [hn] at h4
      exact h4
    have h5 := condW_of h4 (w_not (w_lt w_lit (w_len_list (w_arg rfl))))
    rw [List.length_map] at h5
    refine Nat.le_of_not_lt fun q => ?_
    have q' : (n : Int) < ((ns.length : Nat) : Int) := by omega
    first
      | (rw [decide_eq_true q'] at h5; exact absurd h5 (by decide))
      | (simp at h5; omega)
  cases hwl with
  | cons w1 w2 =>
    cases w2
    cases w1 with
    | list ho hall => exact ⟨_, _, ns, rfl, rfl, ho, ints_of_wellAll ns _ hall, hlen⟩
theorem post_true (l : OpenLaw) (args : List WData) : l.row.toRowW.claim.post args (.bool true) args = true :=
  postW_of (r := l.row.toRowW) (X := (true == true))
    (show WShape.has [] (.bool true) .bool = true by first | rfl | decide | simp [WShape.has, WShape.arms, WShape.armsAll])
    (show (WTm.eq .res (.lit (.bool true))).value [] { args := args, res := some (.bool true), after := args } = some (.bool (true == true)) from w_eq_bool (w_res rfl) w_lit) rfl
theorem attach_call {l : OpenLaw} {n : Nat} {q : Program} {loose : List Str} {XP : (Str → Option Value) → Heap → Prop} {YP : World → Heap → Prop} {d : DefRec}
    (hn : l.most = some n) (hdf : d.params.defaults = [])
    (call : ∀ (w : World) (s₀ s₁ : Shared) (mg mb : Str → Option Value) (fa : Addr) (o : Obj) (pm cd doc : Value) (a : Addr) (vs : List Value) (ns : List Int),
      Ground q loose [] XP w s₀ mg mb s₁.heap → YP w s₁.heap →
      s₁.heap.get? fa = some o → o.data = .func (docDef d.name d.params d.body d.scope pm cd doc) → s₁.heap.CodeRec cd d.name → mg d.name = some (.ref fa) →
      s₁.heap.get? a = some { cls := .type "list", data := .seq vs.toArray } → IntsAre vs ns → ns.length ≤ n → s₁.gens = #[] →
      codeAny (model l.prog w) callerA (.call (.ref fa) ⟨[.ref a], []⟩) (fun r s' => r = .ok (.ret (.bool true)) ∧ OldK s₁.heap s'.heap ∧ s'.os = s₁.os ∧ AllBare s'.gens) s₁) :
    WalkO q loose XP YP l.row.toRowW d [] (fun f vs => PySem.call f vs) := by
  intro w s₀ s₁ mg mb G Y fa o pm cd doc dV kV ho hd hcd hD hmg hg args vals as hpre hlay hrd hwl hlo
  obtain rfl : dV = .none := Dflts.none hD hdf
  obtain rfl : kV = .none := Dflts.noKw hD
  obtain ⟨a, vs, ns, rfl, rfl, hobj, hints, hlen⟩ := script_of hn hpre hwl
  refine enter_call (codeAny_mono (call w s₀ s₁ mg mb fa o pm cd doc a vs ns G Y ho (fd_plain hd) hcd hmg hobj hints hlen hg) fun r s' hq => ?_)
  obtain ⟨rfl, h2, h3, h4⟩ := hq
  exact ⟨.inl ⟨.bool true, .bool true, [], rfl, fun _ => rfl, .bool true, post_true l _, fun _ => ⟨List.Pairwise.nil, fun _ hm => (nomatch hm)⟩⟩, h2, h3, h4⟩
section
variable {prog : Program} {w : World} {A : Around} {E : Value → Shared → Prop} {s : Shared} {K : Frag}
def ledger (h : Heap) (L d : Addr) : List (Addr × Obj) := (List.range h.objs.size).filterMap fun a => if a = L ∨ a = d then none else (h.get? a).map fun o => (a, o)
end
end Att
namespace L2
open PySem PySem.Spec PyProof.Rows
theorem vals_ints : ∀ {vs : List Value} {ns : List Int}, IntsAre vs ns → Vals (ns.map V.int) vs
  | _, _, .nil => .nil
  | _, _, .cons n t h => .cons ⟨t, rfl⟩ (vals_ints h)
def Only (H : Hp) : Prop := ∀ b, H b = none ∨ ∃ o xs, H b = some (.frz o (.lst xs))
theorem law_call {P : Program} {w : World} {K : PySem.W.Frag} {mg mb : Str → Option Value} {CX : CXT} {k : Nat} {fa a : Addr} {fd : FuncData} {x : Str} {sp : Sp} {s₁ : Shared} {vs : List Value} {ns : List Int}
    (KX : K.In s₁.heap) (hns : s₁.heap.Ns mainGlobals mg) (hb : s₁.heap.Ns builtinsNs mb) (hbb : ∀ x : Str, x ≠ "__name__" → mb x = bootBuiltins x) (hlim : s₁.heap.NoLimit) (hg : s₁.gens = #[])
    (ha : s₁.heap.get? a = some { cls := .type "list", data := .seq vs.toArray }) (hi : IntsAre vs ns) (hl : ns.length ≤ sizeLine) (hr : Room k callerA)
    (F : ∀ base : Heap, K.In base → base.Ns mainGlobals mg → FnOk P w K mg base CX k fa fd [x] sp) (hbind : ∀ (s : Shared) (u : Value), BindsTo s fd ⟨[u], []⟩ [(x, u)])
    (hsp : ∀ H : Hp, Only H → SqL K H a (ns.map V.int) → sp [.ref a] H (fun v _ => v = .bl true) fun _ _ _ => False)
    (hCX : ∀ H e s', CX [] H s₁ (fun _ _ _ => False) e s' → False) :
    codeAny (model P w) callerA (.call (.ref fa) ⟨[.ref a], []⟩) (fun r s' => r = .ok (.ret (.bool true)) ∧ OldK s₁.heap s'.heap ∧ s'.os = s₁.os ∧ AllBare s'.gens) s₁ := by
  have rv := vals_ints hi
  have lenV := hi.length
  -- from an abstract heap in which nothing but the script may be tracked
  have core : ∀ H : Hp, Only H → SqL K H a (ns.map V.int) → HOk P w H s₁.heap → (∀ b, H b ≠ none → b = a) → (H a ≠ none → K.lookup a = none) →
      codeAny (model P w) callerA (.call (.ref fa) ⟨[.ref a], []⟩) (fun r s' => r = .ok (.ret (.bool true)) ∧ OldK s₁.heap s'.heap ∧ s'.os = s₁.os ∧ AllBare s'.gens) s₁ := by
    intro H hO hS hok hA hK
    have base_of : ∀ {b : Addr} {o : Obj}, s₁.heap.get? b = some o → H b = none → (hidT s₁.heap H).get? b = some o := fun e n => hidT_get e n
    have noA : ∀ {b : Addr} {o : Obj} {es : Array DictEntry} {ep : Nat}, s₁.heap.get? b = some o → o.data = .dict es ep → H b = none := fun {b o es ep} e d => by
      cases q : H b with
      | none => rfl
      | some u =>
        have e' : b = a := hA b (by rw [q]; simp)
        subst e'
        rw [ha] at e; cases e
        have d' : Data.seq vs.toArray _ = Data.dict es ep := d
        cases d'
    have nsK : ∀ {b : Addr} {m : Str → Option Value}, s₁.heap.Ns b m → (hidT s₁.heap H).Ns b m := fun {b m} ⟨o, es, ep, e, d, r⟩ => ⟨o, es, ep, base_of e (noA e d), d, r⟩
    have hKb : K.In (hidT s₁.heap H) := fun b o e => base_of (KX b o e) (by
      cases q : H b with
      | none => rfl
      | some u =>
        have e' : b = a := hA b (by rw [q]; simp)
        subst e'
        rw [hK (by rw [q]; simp)] at e; cases e)
    have hM : Mod K mg (hidT s₁.heap H) := ⟨hKb, nsK hns, ⟨mb, nsK hb, hbb⟩, let ⟨mc, h1, h2⟩ := hlim; ⟨mc, nsK h1, h2⟩⟩
    have e0 : Env0 P w K mg (hidT s₁.heap H) callerA [] s₁ H := ⟨rfl, hM, fun b o e => of_hidT e, Nat.le_of_eq (hidT_size _ _), trivial, fun b hb => absurd (show b ∈ ([] : List Addr) from hb) (by simp), hok, .of_eq hg⟩
    refine codeAny_mono ((F _ hKb (nsK hns)).run callerA [] s₁ H ⟨[.ref a], []⟩ [.ref a] [.ref a] _ _ hr e0 (hbind s₁ (.ref a)) (.cons rfl .nil) (hsp H hO hS)) fun r s' h => ?_
    cases r with
    | error e => exact (hCX H e s' h).elim
    | ok fl =>
      cases fl with
      | next => exact False.elim h
      | brk => exact False.elim h
      | cont => exact False.elim h
      | ret u =>
        obtain ⟨v, H', os, bare, un, hok', r', q⟩ := h
        have q' : v = .bl true := q
        subst q'
        obtain rfl : u = Value.bool true := r'
        refine ⟨rfl, OldK.of_keep fun b o e => ?_, os, bare⟩
        cases q : H b with
        | none => exact un.keep b o e q (by intro z; exact absurd (show b ∈ ([] : List Addr) from z) (by simp)) (by simp)
        | some u =>
          rcases hO b with z | ⟨ob, xs, z⟩
          · rw [q] at z; cases z
          · have z2 := un.frzs b ob _ z
            obtain ⟨e1, _⟩ := hok b _ z
            obtain ⟨e2, _⟩ := hok' b _ z2
            rw [e] at e1; cases e1
            exact e2
  cases hk : K.lookup a with
  | some o =>
    -- the script is one of the module's own objects
    have e := KX a o hk
    rw [ha] at e
    cases e
    refine core (fun _ => none) (fun _ => .inl rfl) (.inr ⟨_, vs.toArray, _, hk, rfl, rfl, rfl, by rw [List.size_toArray, lenV]; exact hl, by simpa using rv⟩) (fun b u z => by have z' : (none : Option HO) = some u := z; cases z') (fun b z => absurd rfl z) fun z => absurd rfl z
  | none =>
    refine core (fun b => if b = a then some (.frz { cls := .type "list", data := .seq vs.toArray } (.lst (ns.map V.int))) else none) (fun b => ?_) (.inl (.inr ⟨{ cls := .type "list", data := .seq vs.toArray }, if_pos rfl⟩)) (fun b u z => ?_) (fun b z => ?_) fun _ => hk
    · by_cases hb : b = a
      · exact .inr ⟨_, _, if_pos hb⟩
      · exact .inl (if_neg hb)
    · by_cases hb : b = a
      · have z' := (if_pos hb).symm.trans z
        cases z'
        subst hb
        exact ⟨ha, by rw [List.length_map]; exact hl, vs, _, rv, ha⟩
      · have z' := (if_neg hb).symm.trans z
        cases z'
    · by_cases hb : b = a
      · exact hb
      · exact absurd (if_neg hb) z
end L2
namespace L2
open PySem PySem.Spec PyProof.Rows
theorem walk_of {l : PySem.W.OpenLaw} {n k : Nat} {q : Program} {loose : List Str} {XP : (Str → Option Value) → Heap → Prop} {YP : World → Heap → Prop} {d : DefRec} {K : Params → PySem.W.Frag} {CX : World → CXT} {sp : World → Sp} {x : Str}
    (hn : l.most = some n) (hn2 : n ≤ sizeLine) (hdf : d.params.defaults = []) (hr : Room k callerA)
    (hY : ∀ (w : World) (h : Heap), YP w h → (K w.params).In h)
    (F : ∀ (w : World) (mg : Str → Option Value) (fa : Addr) (h : Heap), (K w.params).In h → h.Ns mainGlobals mg → mg d.name = some (.ref fa) →
      ∃ fd : FuncData, (∀ (s : Shared) (u : Value), BindsTo s fd ⟨[u], []⟩ [(x, u)]) ∧
        ∀ base : Heap, (K w.params).In base → base.Ns mainGlobals mg → FnOk l.prog w (K w.params) mg base (CX w) k fa fd [x] (sp w))
    (hsp : ∀ (w : World) (H : Hp) (a : Addr) (ns : List Int), ns.length ≤ n → Only H → SqL (K w.params) H a (ns.map V.int) → sp w [.ref a] H (fun v _ => v = .bl true) fun _ _ _ => False)
    (hCX : ∀ (w : World) (H : Hp) (s : Shared) (e : Value) (s' : Shared), CX w [] H s (fun _ _ _ => False) e s' → False) :
    PySem.W.WalkO q loose XP YP l.row.toRowW d [] (fun f vs => PySem.call f vs) := by
  refine Att.attach_call hn hdf fun w s₀ s₁ mg mb fa o pm cd doc a vs ns G Y ho hd hcd hmg hobj hints hlen hg => ?_
  have KX := hY w _ Y
  obtain ⟨fd, hb, hF⟩ := F w mg fa _ KX G.T.g hmg
  exact law_call KX G.T.g G.T.b G.T.builtins G.T.nolimit hg hobj hints (Nat.le_trans hlen hn2) hr hF hb (fun H hO hS => hsp w H a ns hlen hO hS) fun H e s' => hCX w H s₁ e s'
theorem walk_ofK {l : PySem.W.OpenLaw} {n k : Nat} {q : Program} {loose : List Str} {XP : (Str → Option Value) → Heap → Prop} {YP : World → Heap → Prop} {d : DefRec} {K : Params → PySem.W.Frag} {CX : CXT} {sp : PySem.W.Frag → Sp} {x : Str}
    (hn : l.most = some n) (hn2 : n ≤ sizeLine) (hdf : d.params.defaults = []) (hr : Room k callerA)
    (hY : ∀ (w : World) (h : Heap), YP w h → (K w.params).In h)
    (F : ∀ (w : World) (mg : Str → Option Value) (fa : Addr) (h : Heap), (K w.params).In h → h.Ns mainGlobals mg → mg d.name = some (.ref fa) →
      ∃ fd : FuncData, (∀ (s : Shared) (u : Value), BindsTo s fd ⟨[u], []⟩ [(x, u)]) ∧
        ∀ base : Heap, (K w.params).In base → base.Ns mainGlobals mg → FnOk l.prog w (K w.params) mg base CX k fa fd [x] (sp (K w.params)))
    (hsp : ∀ (K : PySem.W.Frag) (H : Hp) (a : Addr) (ns : List Int), ns.length ≤ n → Only H → SqL K H a (ns.map V.int) → sp K [.ref a] H (fun v _ => v = .bl true) fun _ _ _ => False)
    (hCX : ∀ (H : Hp) (s : Shared) (e : Value) (s' : Shared), CX [] H s (fun _ _ _ => False) e s' → False) :
    PySem.W.WalkO q loose XP YP l.row.toRowW d [] (fun f vs => PySem.call f vs) :=
  walk_of (K := K) (CX := fun _ => CX) (sp := fun w => sp (K w.params)) hn hn2 hdf hr hY F (fun w H a ns h1 h2 h3 => hsp (K w.params) H a ns h1 h2 h3) fun _ H s e s' => hCX H s e s'
end L2
namespace L2
open PySem PySem.Spec PyProof.Rows
def defArgs (s : Stmt) : Arguments := match s with
  | .FunctionDef _ a _ _ _ _ _ _ _ _ => a
  | _ => { posonlyargs := [], args := [], vararg := none, kwonlyargs := [], kw_defaults := [], kwarg := none, defaults := [] }
def defBody (s : Stmt) : List Stmt := match s with
  | .FunctionDef _ _ b _ _ _ _ _ _ _ => b
  | _ => []
def defScope (s : Stmt) : Scope := match s with
  | .FunctionDef _ _ _ _ _ _ sc _ _ _ => sc
  | _ => { kind := .function, names := [], isGenerator := false, isCoroutine := false }
abbrev CX0 : CXT := fun _ _ _ _ _ _ => False
abbrev E0 : XK := fun _ _ _ => False
theorem pass0 {X : Cx} : Passes CX0 X E0 := fun _ _ _ _ _ _ _ h => h.elim
structure Fun (K : PySem.W.Frag) (x qual : Str) (st : Stmt) (f : Addr) (fd : FuncData) : Prop where
  ex : ∃ (oc : Value) (od : Option Addr) (kV doc pm : Value) (an : Option Addr) (cdv ct : Value) (osl : Array (Option Value)),
    fd = PySem.W.fnOf x qual (defArgs st) (defBody st) (defScope st) .none kV doc pm an cdv ct ∧ K.lookup f = some ⟨oc, od, .func fd, osl⟩ ∧ PySem.W.codeIn K cdv qual = true
  kp : PySem.W.keepIn K (.ref f) = true
section
variable {P : Program} {w : World} {K : PySem.W.Frag} {mg : Str → Option Value} {base : Heap}
theorem Fun.ok {x qual : Str} {st : Stmt} {f : Addr} {fd : FuncData} {N ps : List Str} {k : Nat} {sp : Sp} (F : Fun K x qual st f fd) (S : FnScope N ps (defScope st)) (len : ∀ vs H Q E, sp vs H Q E → vs.length = ps.length)
    (hbody : ∀ (cdv : Value) (A : Around) (outer : List Env) (s : Shared) (H : Hp) (vs : List V) (Q : VK) (E : XK), Room k (A.deeper (envOfC qual (defScope st) s.heap.objs.size f cdv)) → sp vs H Q E →
      ∃ t, PSs (cxOf CX0 P w K mg base N qual (defScope st) f cdv A outer s H E).nox (defBody st) t ∧ t { nx := fun _ H' => Q .non H', rt := Q } (start N vs) H) : FnOk P w K mg base CX0 (k + 1) f fd ps sp := by
  obtain ⟨oc, od, kV, doc, pm, an, cdv, ct, osl, rfl, lk, hcd⟩ := F.ex
  refine fn_of lk hcd S len fun A outer s H vs Q E hr hsp => ?_
  obtain ⟨t, h, q⟩ := hbody cdv A outer s H vs Q E hr hsp
  exact ⟨t, h.nox, q⟩
theorem Fun.binds {x qual : Str} {st : Stmt} {f : Addr} {fd : FuncData} {ps : List Str} (F : Fun K x qual st f fd)
    (h : ∀ (kV doc pm : Value) (an : Option Addr) (cdv ct : Value) (us : List Value), us.length = ps.length → bindArgs (PySem.W.fnOf x qual (defArgs st) (defBody st) (defScope st) .none kV doc pm an cdv ct) ⟨us, []⟩ = pure (ps.zip us)) : Binds K fd ps [] := by
  obtain ⟨oc, od, kV, doc, pm, an, cdv, ct, osl, rfl, lk, hcd⟩ := F.ex
  exact .all (h kV doc pm an cdv ct)
theorem fun_mk {x qual : Str} {st : Stmt} {f : Addr} {oc : Value} {od an : Option Addr} {osl : Array (Option Value)} {kV doc pm cdv ct : Value} (l : K.lookup f = some ⟨oc, od, .func (PySem.W.fnOf x qual (defArgs st) (defBody st) (defScope st) .none kV doc pm an cdv ct), osl⟩)
    (c : PySem.W.codeIn K cdv qual = true) (k : PySem.W.keepIn K (.ref f) = true) : Fun K x qual st f (PySem.W.fnOf x qual (defArgs st) (defBody st) (defScope st) .none kV doc pm an cdv ct) := ⟨⟨oc, od, kV, doc, pm, an, cdv, ct, osl, rfl, l, c⟩, k⟩
end
theorem small1000 {n : Nat} (h : n ≤ 1000) : n < sizeLine := Nat.lt_of_le_of_lt h (by decide)
section
variable {X : Cx}
theorem pv (i : Nat) {x : Str} {pos : Pos} (hN : X.N[i]? = some x := by rfl) (hv : Vis X.env.scope x := by first | exact Or.inl rfl | exact Or.inr (Or.inl rfl) | exact Or.inr (Or.inr rfl)) (hd : (x == ("__debug__" : Str)) = false := by decide)
    (hcd : (x == ("__classdict__" : Str)) = false := by decide) : PE X (.Name x pos) (tVar i) := pe_var hN hv hd hcd
end
theorem iteF {A B : Prop} (h : B) : if false = true then A else B := by
  rw [if_neg Bool.false_ne_true]
  exact h
theorem iteT {A B : Prop} (h : A) : if true = true then A else B := by
  rw [if_pos rfl]
  exact h
def Same (H H' : Hp) : Prop := ∀ b o, H b = some o → H' b = some o
theorem Same.trans {H H1 H2 : Hp} (a : Same H H1) (b : Same H1 H2) : Same H H2 := fun c o h => b c o (a c o h)
theorem Same.free {H H' : Hp} (e : Same H H') {l : Addr} (h : H' l = Option.none) : H l = Option.none := by
  cases q : H l with
  | none => rfl
  | some o =>
    rw [e l o q] at h
    cases h
theorem Same.seq {K : PySem.W.Frag} {H H' : Hp} {a : Addr} {xs : List V} (e : Same H H') (h : SqL K H a xs) : SqL K H' a xs := by
  rcases h with (h | ⟨o, h⟩) | h
  · exact .inl (.inl (e _ _ h))
  · exact .inl (.inr ⟨o, e _ _ h⟩)
  · exact .inr h
end L2
namespace L2
open PySem PySem.Spec PyProof.Rows
section
variable {κ : Type} [DecidableEq κ]
end
end L2
set_option Elab.async false
set_option linter.all false
set_option maxRecDepth 100000
set_option maxHeartbeats 4000000
namespace FL
open PySem PySem.Spec PyProof.Rows L2
abbrev St := L2.St
inductive D where
  | non
  | bl (b : Bool)
  | int (i : Int)
  | str (x : Str)
  | tup (ds : List D)
  | lst (ds : List D)
  deriving Inhabited
mutual
def Has (K : PySem.W.Frag) (H : Hp) : D → V → Prop
  | .non, v => v = .non
  | .bl b, v => v = .bl b
  | .int i, v => v = .int i
  | .str x, v => v = .str x
  | .tup ds, v => ∃ a xs, v = .ref a ∧ SqT K H a xs ∧ HasL K H ds xs
  | .lst ds, v => ∃ a xs, v = .ref a ∧ SqL K H a xs ∧ HasL K H ds xs
def HasL (K : PySem.W.Frag) (H : Hp) : List D → List V → Prop
  | [], xs => xs = []
  | d :: ds, xs => ∃ x r, xs = x :: r ∧ Has K H d x ∧ HasL K H ds r
end
theorem sameR {H : Hp} : Same H H := fun _ _ e => e
theorem sameT {K : PySem.W.Frag} {H H' : Hp} {a : Addr} {xs : List V} (e : Same H H') (h : SqT K H a xs) : SqT K H' a xs := by
  rcases h with (h | ⟨o, h⟩) | h
  · exact .inl (.inl (e _ _ h))
  · exact .inl (.inr ⟨o, e _ _ h⟩)
  · exact .inr h
section
variable {K : PySem.W.Frag} {H H' : Hp}
mutual
theorem Has.mono (s : Same H H') : ∀ {d : D} {v : V}, Has K H d v → Has K H' d v
  | .non, _, h => by unfold Has at h ⊢; exact h
  | .bl _, _, h => by unfold Has at h ⊢; exact h
  | .int _, _, h => by unfold Has at h ⊢; exact h
  | .str _, _, h => by unfold Has at h ⊢; exact h
  | .tup ds, v, h => by
    unfold Has at h ⊢
    obtain ⟨a, xs, e, q, l⟩ := h
    exact ⟨a, xs, e, sameT s q, HasL.mono s l⟩
  | .lst ds, v, h => by
    unfold Has at h ⊢
    obtain ⟨a, xs, e, q, l⟩ := h
    exact ⟨a, xs, e, s.seq q, HasL.mono s l⟩
theorem HasL.mono (s : Same H H') : ∀ {ds : List D} {xs : List V}, HasL K H ds xs → HasL K H' ds xs
  | [], _, h => by unfold HasL at h ⊢; exact h
  | d :: ds, xs, h => by
    unfold HasL at h ⊢
    obtain ⟨x, r, e, h1, h2⟩ := h
    exact ⟨x, r, e, Has.mono s h1, HasL.mono s h2⟩
end
theorem Has.non_iff {v : V} : Has K H .non v ↔ v = .non := by unfold Has; rfl
theorem Has.bl_iff {b : Bool} {v : V} : Has K H (.bl b) v ↔ v = .bl b := by unfold Has; rfl
theorem Has.int_iff {i : Int} {v : V} : Has K H (.int i) v ↔ v = .int i := by unfold Has; rfl
theorem Has.str_iff {x : Str} {v : V} : Has K H (.str x) v ↔ v = .str x := by unfold Has; rfl
theorem Has.tup_iff {ds : List D} {v : V} : Has K H (.tup ds) v ↔ ∃ a xs, v = .ref a ∧ SqT K H a xs ∧ HasL K H ds xs := by
  constructor
  · intro h; unfold Has at h; exact h
  · intro h; unfold Has; exact h
theorem Has.lst_iff {ds : List D} {v : V} : Has K H (.lst ds) v ↔ ∃ a xs, v = .ref a ∧ SqL K H a xs ∧ HasL K H ds xs := by
  constructor
  · intro h; unfold Has at h; exact h
  · intro h; unfold Has; exact h
theorem HasL.nil_iff {xs : List V} : HasL K H [] xs ↔ xs = [] := by unfold HasL; rfl
theorem HasL.cons_iff {d : D} {ds : List D} {xs : List V} : HasL K H (d :: ds) xs ↔ ∃ x r, xs = x :: r ∧ Has K H d x ∧ HasL K H ds r := by
  constructor
  · intro h; unfold HasL at h; exact h
  · intro h; unfold HasL; exact h
theorem HasL.nil : HasL K H [] [] := HasL.nil_iff.mpr rfl
theorem HasL.cons {d : D} {ds : List D} {x : V} {xs : List V} (h : Has K H d x) (t : HasL K H ds xs) : HasL K H (d :: ds) (x :: xs) := HasL.cons_iff.mpr ⟨x, xs, rfl, h, t⟩
theorem HasL.length : ∀ {ds : List D} {xs : List V}, HasL K H ds xs → xs.length = ds.length
  | [], _, h => by rw [HasL.nil_iff] at h; subst h; rfl
  | d :: ds, xs, h => by
    obtain ⟨x, r, e, _, h2⟩ := HasL.cons_iff.mp h
    subst e
    simp [HasL.length h2]
theorem HasL.get : ∀ {ds : List D} {xs : List V} {i : Nat} {d : D}, HasL K H ds xs → ds[i]? = some d → ∃ v, xs[i]? = some v ∧ Has K H d v
  | [], _, _, _, _, e => by simp at e
  | d :: ds, xs, i, d', h, e => by
    obtain ⟨x, r, e', h1, h2⟩ := HasL.cons_iff.mp h
    subst e'
    cases i with
    | zero => simp at e; subst e; exact ⟨x, rfl, h1⟩
    | succ i =>
      obtain ⟨v, q1, q2⟩ := HasL.get (i := i) (d := d') h2 (by simpa using e)
      exact ⟨v, by simpa using q1, q2⟩
theorem HasL.append : ∀ {ds es : List D} {xs ys : List V}, HasL K H ds xs → HasL K H es ys → HasL K H (ds ++ es) (xs ++ ys)
  | [], _, _, _, h, h' => by rw [HasL.nil_iff] at h; subst h; exact h'
  | d :: ds, es, xs, ys, h, h' => by
    obtain ⟨x, r, e, h1, h2⟩ := HasL.cons_iff.mp h
    subst e
    exact .cons h1 (HasL.append h2 h')
theorem HasL.drop : ∀ {ds : List D} {xs : List V} (n : Nat), HasL K H ds xs → HasL K H (ds.drop n) (xs.drop n)
  | _, _, 0, h => by simpa using h
  | [], _, n + 1, h => by rw [HasL.nil_iff] at h; subst h; simpa using HasL.nil
  | d :: ds, xs, n + 1, h => by
    obtain ⟨x, r, e, h1, h2⟩ := HasL.cons_iff.mp h
    subst e
    exact HasL.drop n h2
theorem HasL.take : ∀ {ds : List D} {xs : List V} (n : Nat), HasL K H ds xs → HasL K H (ds.take n) (xs.take n)
  | _, _, 0, h => by simpa using HasL.nil
  | [], _, n + 1, h => by rw [HasL.nil_iff] at h; subst h; simpa using HasL.nil
  | d :: ds, xs, n + 1, h => by
    obtain ⟨x, r, e, h1, h2⟩ := HasL.cons_iff.mp h
    subst e
    exact .cons h1 (HasL.take n h2)
theorem HasL.reverse {ds : List D} {xs : List V} (h : HasL K H ds xs) : HasL K H ds.reverse xs.reverse := by
  induction ds generalizing xs with
  | nil => rw [HasL.nil_iff] at h; subst h; exact HasL.nil
  | cons d ds ih =>
    obtain ⟨x, r, e, h1, h2⟩ := HasL.cons_iff.mp h
    subst e
    rw [List.reverse_cons, List.reverse_cons]
    exact (ih h2).append (.cons h1 .nil)
theorem HasL.ints : ∀ (ns : List Int), HasL K H (ns.map D.int) (ns.map V.int)
  | [] => .nil
  | n :: ns => .cons (Has.int_iff.mpr rfl) (HasL.ints ns)
end
inductive Slot where
  | no
  | fr (d : D)
  | ol (ds : List D)
  | oT (kvs : List (List Key × D))
  | oK (kvs : List (Key × D))
  deriving Inhabited
def Slot.own : Slot → Bool
  | .ol _ => true
  | .oT _ => true
  | .oK _ => true
  | _ => false
abbrev Rho := List Slot
def KVs (K : PySem.W.Frag) (H : Hp) {κ : Type} : List (κ × D) → List (κ × V) → Prop := Paired fun p q => p.1 = q.1 ∧ Has K H p.2 q.2
theorem KVs.mono {K : PySem.W.Frag} {H H' : Hp} {κ : Type} (s : Same H H') {l : List (κ × D)} {m : List (κ × V)} (h : KVs K H l m) : KVs K H' l m := Paired.mapP h fun _ _ z => ⟨z.1, Has.mono s z.2⟩
def OwnOk (K : PySem.W.Frag) (H Hf : Hp) (a : Addr) : Slot → Prop
  | .ol ds => ∃ xs, H a = some (.lst xs) ∧ HasL K Hf ds xs
  | .oT kvs => ∃ ws, H a = some (.dT ws) ∧ KVs K Hf kvs ws
  | .oK kvs => ∃ ws, H a = some (.dK ws) ∧ KVs K Hf kvs ws
  | _ => True
theorem OwnOk.mono {K : PySem.W.Frag} {H Hf H' Hf' : Hp} {a : Addr} {sl : Slot} (h : OwnOk K H Hf a sl) (k : ∀ o, H a = some o → H' a = some o) (s : Same Hf Hf') : OwnOk K H' Hf' a sl := by
  cases sl with
  | no => trivial
  | fr d => trivial
  | ol ds => obtain ⟨xs, e, q⟩ := h; exact ⟨xs, k _ e, q.mono s⟩
  | oT kvs => obtain ⟨xs, e, q⟩ := h; exact ⟨xs, k _ e, KVs.mono s q⟩
  | oK kvs => obtain ⟨xs, e, q⟩ := h; exact ⟨xs, k _ e, KVs.mono s q⟩
theorem OwnOk.there {K : PySem.W.Frag} {H Hf : Hp} {a : Addr} {sl : Slot} (h : OwnOk K H Hf a sl) (ow : sl.own = true) : ∃ o, H a = some o := by
  cases sl with
  | no => cases ow
  | fr d => cases ow
  | ol ds => obtain ⟨xs, e, q⟩ := h; exact ⟨_, e⟩
  | oT kvs => obtain ⟨xs, e, q⟩ := h; exact ⟨_, e⟩
  | oK kvs => obtain ⟨xs, e, q⟩ := h; exact ⟨_, e⟩
def Tp (o : HO) : Prop := ∃ ks : List Key, o = .tup (ks.map kV)
structure Rep (K : PySem.W.Frag) (H₀ Hf₀ : Hp) (σ : St) (ρ : Rho) (H Hf : Hp) : Prop where
  s0 : Same H₀ H
  sf : Same Hf H
  nf : ∀ b o, Hf b = some o → Hf₀ b = some o ∨ H₀ b = none ∨ Tp o
  f0 : Same Hf₀ Hf
  len : ρ.length = σ.length
  fr : ∀ (i : Nat) (d : D), ρ[i]? = some (.fr d) → ∃ v, σ[i]? = some (some v) ∧ Has K Hf d v
  ow : ∀ (i : Nat) (sl : Slot), ρ[i]? = some sl → sl.own = true → ∃ a, σ[i]? = some (some (.ref a)) ∧ OwnOk K H Hf a sl ∧ Hf a = none ∧ H₀ a = none
  inj : ∀ (i j : Nat) (sl sl' : Slot) (a : Addr), ρ[i]? = some sl → sl.own = true → ρ[j]? = some sl' → sl'.own = true → σ[i]? = some (some (.ref a)) → σ[j]? = some (some (.ref a)) → i = j
theorem OwnOk.notTp {K : PySem.W.Frag} {H Hf H' : Hp} {a : Addr} {sl : Slot} {u : HO} (h : OwnOk K H Hf a sl) (ow : sl.own = true) (k : ∀ o, H a = some o → H' a = some o) (z : H' a = some u) (t : Tp u) : False := by
  obtain ⟨ks, rfl⟩ := t
  cases sl with
  | no => cases ow
  | fr d => cases ow
  | ol ds => obtain ⟨xs, e, q⟩ := h; have := (k _ e).symm.trans z; cases this
  | oT kvs => obtain ⟨xs, e, q⟩ := h; have := (k _ e).symm.trans z; cases this
  | oK kvs => obtain ⟨xs, e, q⟩ := h; have := (k _ e).symm.trans z; cases this
section
variable {K : PySem.W.Frag} {H₀ Hf₀ : Hp} {σ : St} {ρ : Rho} {H Hf H' Hf' : Hp}
theorem Rep.grow (R : Rep K H₀ Hf₀ σ ρ H Hf) (h1 : Same H H') (h2 : Same Hf Hf') (h3 : Same Hf' H') (h4 : ∀ b o, Hf' b = some o → Hf b = some o ∨ H b = none ∨ Tp o) : Rep K H₀ Hf₀ σ ρ H' Hf' where
  s0 := R.s0.trans h1
  sf := h3
  nf := fun b o e => by
    rcases h4 b o e with q | q | q
    · exact R.nf b o q
    · exact .inr (.inl (R.s0.free q))
    · exact .inr (.inr q)
  f0 := R.f0.trans h2
  len := R.len
  fr := fun i d e => by
    obtain ⟨v, q1, q2⟩ := R.fr i d e
    exact ⟨v, q1, q2.mono h2⟩
  ow := fun i sl e o => by
    obtain ⟨a, q1, q2, q3, q4⟩ := R.ow i sl e o
    refine ⟨a, q1, q2.mono (fun o e => h1 _ _ e) h2, ?_, q4⟩
    obtain ⟨ob, qo⟩ := q2.there o
    cases z : Hf' a with
    | none => rfl
    | some u =>
      rcases h4 a u z with y | y | y
      · rw [q3] at y; cases y
      · rw [qo] at y; cases y
      · exact (q2.notTp o (fun o => h1 a o) (h3 _ _ z) y).elim
  inj := R.inj
theorem Rep.lay (R : Rep K H₀ Hf₀ σ ρ H Hf) {p : Addr} {o : HO} (hp : H p = none) : Rep K H₀ Hf₀ σ ρ (upd H p o) (upd Hf p o) := by
  have hfp : Hf p = none := R.sf.free hp
  refine R.grow (fun b u e => ?_) (fun b u e => ?_) (fun b u e => ?_) (fun b u e => ?_)
  · rw [upd_ne (ne_of_none e hp)]; exact e
  · rw [upd_ne (ne_of_none e hfp)]; exact e
  · by_cases hb : b = p
    · subst hb; rw [upd_same] at e ⊢; exact e
    · rw [upd_ne hb] at e ⊢; exact R.sf b u e
  · by_cases hb : b = p
    · subst hb; exact .inr (.inl hp)
    · rw [upd_ne hb] at e; exact .inl e
theorem Rep.layN (R : Rep K H₀ Hf₀ σ ρ H Hf) {p : Addr} {o : HO} (hp : H p = none) : Rep K H₀ Hf₀ σ ρ (upd H p o) Hf := by
  refine R.grow (fun b u e => ?_) sameR (fun b u e => ?_) (fun b u e => .inl e)
  · rw [upd_ne (ne_of_none e hp)]; exact e
  · rw [upd_ne (ne_of_none (R.sf b u e) hp)]; exact R.sf b u e
theorem same_upd {p : Addr} {o : HO} (hp : H p = none) : Same H (upd H p o) := fun b u e => by rw [upd_ne (ne_of_none e hp)]; exact e
theorem Rep.set (R : Rep K H₀ Hf₀ σ ρ H Hf) {d : D} {v : V} (i : Nat) (h : Has K Hf d v) : Rep K H₀ Hf₀ (σ.set i (some v)) (ρ.set i (.fr d)) H Hf where
  s0 := R.s0
  sf := R.sf
  nf := R.nf
  f0 := R.f0
  len := by simp [R.len]
  fr := fun j d' e => by
    rw [List.getElem?_set] at e ⊢
    by_cases hj : i = j
    · rw [if_pos hj] at e ⊢
      split at e
      · cases e
        rename_i hl
        rw [R.len] at hl
        rw [if_pos hl]
        exact ⟨v, rfl, h⟩
      · cases e
    · rw [if_neg hj] at e ⊢
      exact R.fr j d' e
  ow := fun j sl e o => by
    rw [List.getElem?_set] at e ⊢
    by_cases hj : i = j
    · rw [if_pos hj] at e
      split at e
      · cases e; cases o
      · cases e
    · rw [if_neg hj] at e ⊢
      exact R.ow j sl e o
  inj := fun j k sl sl' a e o e' o' z z' => by
    rw [List.getElem?_set] at e e' z z'
    by_cases hj : i = j
    · rw [if_pos hj] at e
      split at e
      · cases e; cases o
      · cases e
    · by_cases hk : i = k
      · rw [if_pos hk] at e'
        split at e'
        · cases e'; cases o'
        · cases e'
      · rw [if_neg hj] at e z
        rw [if_neg hk] at e' z'
        exact R.inj j k sl sl' a e o e' o' z z'
theorem Rep.setOwn (R : Rep K H₀ Hf₀ σ ρ H Hf) {sl : Slot} {a : Addr} (i : Nat) (ho : sl.own = true) (h : OwnOk K H Hf a sl) (hf : Hf a = none) (h0 : H₀ a = none)
    (fresh : ∀ (j : Nat) (sl' : Slot), ρ[j]? = some sl' → sl'.own = true → σ[j]? ≠ some (some (.ref a))) : Rep K H₀ Hf₀ (σ.set i (some (.ref a))) (ρ.set i sl) H Hf where
  s0 := R.s0
  sf := R.sf
  nf := R.nf
  f0 := R.f0
  len := by simp [R.len]
  fr := fun j d' e => by
    rw [List.getElem?_set] at e ⊢
    by_cases hj : i = j
    · rw [if_pos hj] at e
      split at e
      · cases e; cases ho
      · cases e
    · rw [if_neg hj] at e ⊢
      exact R.fr j d' e
  ow := fun j sl' e o => by
    rw [List.getElem?_set] at e ⊢
    by_cases hj : i = j
    · rw [if_pos hj] at e ⊢
      split at e
      · cases e
        rename_i hl
        rw [R.len] at hl
        rw [if_pos hl]
        exact ⟨a, rfl, h, hf, h0⟩
      · cases e
    · rw [if_neg hj] at e ⊢
      exact R.ow j sl' e o
  inj := fun j k s1 s2 b e o e' o' z z' => by
    rw [List.getElem?_set] at e e' z z'
    by_cases hj : i = j
    · by_cases hk : i = k
      · omega
      · rw [if_pos hj] at z
        rw [if_neg hk] at e' z'
        split at z
        · cases z
          exact absurd z' (fresh k s2 e' o')
        · cases z
    · by_cases hk : i = k
      · rw [if_pos hk] at z'
        rw [if_neg hj] at e z
        split at z'
        · cases z'
          exact absurd z (fresh j s1 e o)
        · cases z'
      · rw [if_neg hj] at e z
        rw [if_neg hk] at e' z'
        exact R.inj j k s1 s2 b e o e' o' z z'
theorem Rep.updOwn (R : Rep K H₀ Hf₀ σ ρ H Hf) {sl sl' : Slot} {a : Addr} {o : HO} {i : Nat} (e : ρ[i]? = some sl) (ho : sl.own = true) (ea : σ[i]? = some (some (.ref a))) (ho' : sl'.own = true) (h : OwnOk K (upd H a o) Hf a sl') :
    Rep K H₀ Hf₀ σ (ρ.set i sl') (upd H a o) Hf := by
  obtain ⟨a', q1, q2, q3, q4⟩ := R.ow i sl e ho
  rw [ea] at q1; cases q1
  have hil : i < ρ.length := (List.getElem?_eq_some_iff.mp e).1
  refine ⟨fun b u z => ?_, fun b u z => ?_, R.nf, R.f0, by simp [R.len], fun j d z => ?_, fun j s1 z oz => ?_, fun j k s1 s2 b z oz z' oz' y y' => ?_⟩
  · rw [upd_ne (ne_of_none z q4)]; exact R.s0 b u z
  · rw [upd_ne (ne_of_none z q3)]; exact R.sf b u z
  · rw [List.getElem?_set] at z
    by_cases hj : i = j
    · rw [if_pos hj, if_pos hil] at z
      cases z; cases ho'
    · rw [if_neg hj] at z
      exact R.fr j d z
  · rw [List.getElem?_set] at z
    by_cases hj : i = j
    · rw [if_pos hj, if_pos hil] at z
      cases z
      subst hj
      exact ⟨a, ea, h, q3, q4⟩
    · rw [if_neg hj] at z
      obtain ⟨b, p1, p2, p3, p4⟩ := R.ow j s1 z oz
      refine ⟨b, p1, p2.mono (fun u q => ?_) sameR, p3, p4⟩
      rw [upd_ne]
      · exact q
      · rintro rfl
        exact hj (R.inj i j sl s1 b e ho z oz ea p1)
  · have own_at : ∀ (j : Nat) (s1 : Slot), (ρ.set i sl')[j]? = some s1 → s1.own = true → ∃ s2, ρ[j]? = some s2 ∧ s2.own = true := fun j s1 z oz => by
      rw [List.getElem?_set] at z
      by_cases hj : i = j
      · subst hj; exact ⟨sl, e, ho⟩
      · rw [if_neg hj] at z; exact ⟨s1, z, oz⟩
    obtain ⟨t1, u1, v1⟩ := own_at j s1 z oz
    obtain ⟨t2, u2, v2⟩ := own_at k s2 z' oz'
    exact R.inj j k t1 t2 b u1 v1 u2 v2 y y'
theorem Rep.freeze (R : Rep K H₀ Hf₀ σ ρ H Hf) {ds : List D} {i : Nat} (e : ρ[i]? = some (.ol ds)) : ∃ Hf', Same Hf Hf' ∧ Rep K H₀ Hf₀ σ (ρ.set i (.fr (.lst ds))) H Hf' := by
  obtain ⟨a, q1, ⟨xs, q2, q2'⟩, q3, q4⟩ := R.ow i _ e rfl
  have hil : i < ρ.length := (List.getElem?_eq_some_iff.mp e).1
  have sm : Same Hf (upd Hf a (.lst xs)) := same_upd q3
  refine ⟨upd Hf a (.lst xs), sm, R.s0, fun b u z => ?_, fun b u z => ?_, R.f0.trans sm, by simp [R.len], fun j d z => ?_, fun j s1 z oz => ?_, fun j k s1 s2 b z oz z' oz' y y' => ?_⟩
  · by_cases hb : b = a
    · subst hb; rw [upd_same] at z; cases z; exact q2
    · rw [upd_ne hb] at z; exact R.sf b u z
  · by_cases hb : b = a
    · subst hb; exact .inr (.inl q4)
    · rw [upd_ne hb] at z; exact R.nf b u z
  · rw [List.getElem?_set] at z
    by_cases hj : i = j
    · rw [if_pos hj, if_pos hil] at z
      cases z
      subst hj
      exact ⟨_, q1, Has.lst_iff.mpr ⟨a, xs, rfl, SqL.of upd_same, q2'.mono sm⟩⟩
    · rw [if_neg hj] at z
      obtain ⟨v, p1, p2⟩ := R.fr j d z
      exact ⟨v, p1, p2.mono sm⟩
  · rw [List.getElem?_set] at z
    by_cases hj : i = j
    · rw [if_pos hj, if_pos hil] at z
      cases z; cases oz
    · rw [if_neg hj] at z
      obtain ⟨b, p1, p2, p3, p4⟩ := R.ow j s1 z oz
      refine ⟨b, p1, p2.mono (fun u q => q) sm, ?_, p4⟩
      rw [upd_ne]
      · exact p3
      · rintro rfl
        exact hj (R.inj i j _ s1 b e rfl z oz q1 p1)
  · have own_at : ∀ (j : Nat) (s1 : Slot), (ρ.set i (.fr (.lst ds)))[j]? = some s1 → s1.own = true → ρ[j]? = some s1 := fun j s1 z oz => by
      rw [List.getElem?_set] at z
      by_cases hj : i = j
      · rw [if_pos hj, if_pos hil] at z
        cases z; cases oz
      · rw [if_neg hj] at z; exact z
    exact R.inj j k s1 s2 b (own_at j s1 z oz) oz (own_at k s2 z' oz') oz' y y'
end
end FL
set_option Elab.async false
set_option linter.all false
set_option maxRecDepth 100000
set_option maxHeartbeats 4000000
namespace FL
open PySem PySem.Spec PyProof.Rows L2
abbrev FE := Rho → Option D
abbrev FT := Rho → Option Bool
abbrev FA := Rho → Option (List D)
inductive Out where
  | nx (ρ : Rho)
  | rt (d : D)
  | bk (ρ : Rho)
  | ct (ρ : Rho)
abbrev FS := Rho → Option Out
def HasR (K : PySem.W.Frag) (Hf : Hp) (σ : St) (ρ : Rho) (d : D) (v : V) : Prop := Has K Hf d v ∨ ∃ (i : Nat) (ds : List D), d = .lst ds ∧ ρ[i]? = some (.ol ds) ∧ σ[i]? = some (some v)
theorem HasR.mono {K : PySem.W.Frag} {Hf Hf' : Hp} {σ : St} {ρ : Rho} {d : D} {v : V} (h : HasR K Hf σ ρ d v) (s : Same Hf Hf') : HasR K Hf' σ ρ d v := h.imp (Has.mono s) id
def tF (K : PySem.W.Frag) (f : FE) : TE := fun σ H Q => ∃ H₀ Hf₀ ρ Hf d, Rep K H₀ Hf₀ σ ρ H Hf ∧ f ρ = some d ∧
  ∀ v H' Hf', Rep K H₀ Hf₀ σ ρ H' Hf' → Same H H' → Same Hf Hf' → Has K Hf' d v → Q v H'
def tR (K : PySem.W.Frag) (f : FE) : TE := fun σ H Q => ∃ H₀ Hf₀ ρ Hf d, Rep K H₀ Hf₀ σ ρ H Hf ∧ f ρ = some d ∧
  ∀ v H' Hf', Rep K H₀ Hf₀ σ ρ H' Hf' → Same H H' → Same Hf Hf' → HasR K Hf' σ ρ d v → Q v H'
def tN (K : PySem.W.Frag) (f : FA) : TE := fun σ H Q => ∃ H₀ Hf₀ ρ Hf ds, Rep K H₀ Hf₀ σ ρ H Hf ∧ f ρ = some ds ∧
  ∀ a xs H' Hf', Rep K H₀ Hf₀ σ ρ H' Hf' → Same H H' → Same Hf Hf' → HasL K Hf' ds xs → H' a = some (.lst xs) → Hf' a = none → H a = none → Q (.ref a) H'
def tT (K : PySem.W.Frag) (f : FT) : TT := fun σ H Q => ∃ H₀ Hf₀ ρ Hf b, Rep K H₀ Hf₀ σ ρ H Hf ∧ f ρ = some b ∧
  ∀ H' Hf', Rep K H₀ Hf₀ σ ρ H' Hf' → Same H H' → Same Hf Hf' → Q b H'
def tAF (K : PySem.W.Frag) (f : FA) : TA := fun σ H Q => ∃ H₀ Hf₀ ρ Hf ds, Rep K H₀ Hf₀ σ ρ H Hf ∧ f ρ = some ds ∧
  ∀ vs H' Hf', Rep K H₀ Hf₀ σ ρ H' Hf' → Same H H' → Same Hf Hf' → HasL K Hf' ds vs → Q vs H'
def HasRL (K : PySem.W.Frag) (Hf : Hp) (σ : St) (ρ : Rho) : List D → List V → Prop := Paired (HasR K Hf σ ρ)
def tAR (K : PySem.W.Frag) (f : FA) : TA := fun σ H Q => ∃ H₀ Hf₀ ρ Hf ds, Rep K H₀ Hf₀ σ ρ H Hf ∧ f ρ = some ds ∧
  ∀ vs H' Hf', Rep K H₀ Hf₀ σ ρ H' Hf' → Same H H' → Same Hf Hf' → HasRL K Hf' σ ρ ds vs → Q vs H'
def EndO (K : PySem.W.Frag) (H₀ Hf₀ Hf : Hp) (D' : Ends) : Out → Prop
  | .nx ρ' => ∀ σ' H' Hf', Rep K H₀ Hf₀ σ' ρ' H' Hf' → Same Hf Hf' → D'.nx σ' H'
  | .bk ρ' => ∀ σ' H' Hf', Rep K H₀ Hf₀ σ' ρ' H' Hf' → Same Hf Hf' → D'.bk σ' H'
  | .ct ρ' => ∀ σ' H' Hf', Rep K H₀ Hf₀ σ' ρ' H' Hf' → Same Hf Hf' → D'.ct σ' H'
  | .rt d => ∀ v σ' ρ' H' Hf', Rep K H₀ Hf₀ σ' ρ' H' Hf' → Same Hf Hf' → Has K Hf' d v → D'.rt v H'
def tS (K : PySem.W.Frag) (F : FS) : TS := fun D' σ H => ∃ H₀ Hf₀ ρ Hf o, Rep K H₀ Hf₀ σ ρ H Hf ∧ F ρ = some o ∧ EndO K H₀ Hf₀ Hf D' o
def DE (X : Cx) (e : Expr) (f : FE) : Prop := PE X e (tF X.K f)
def DR (X : Cx) (e : Expr) (f : FE) : Prop := PE X e (tR X.K f)
def DN (X : Cx) (e : Expr) (f : FA) : Prop := PE X e (tN X.K f)
def DT (X : Cx) (e : Expr) (f : FT) : Prop := PT X e (tT X.K f)
def DW (X : Cx) (e : Expr) (f : FT) : Prop := PW X e (tT X.K f)
def DA (X : Cx) (es : List Expr) (f : FA) : Prop := PA X es (tAF X.K f)
def DAR (X : Cx) (es : List Expr) (f : FA) : Prop := PA X es (tAR X.K f)
def DS (X : Cx) (st : Stmt) (F : FS) : Prop := PS X st (tS X.K F)
def DSs (X : Cx) (sts : List Stmt) (F : FS) : Prop := PSs X sts (tS X.K F)
section
variable {X : Cx} {e a b c : Expr} {es : List Expr} {f g h : FE} {fa ga : FA} {ft gt : FT} {pos : Pos} {t t' : TE}
theorem pe_imp (h : PE X e t) (i : ∀ σ H Q, t' σ H Q → t σ H Q) : PE X e t' := fun pins s σ H Q I hw => h pins s σ H Q I (i _ _ _ hw)
theorem pt_imp {t t' : TT} (h : PT X e t) (i : ∀ σ H Q, t' σ H Q → t σ H Q) : PT X e t' := fun pins s σ H Q I hw => h pins s σ H Q I (i _ _ _ hw)
theorem pw_imp {t t' : TT} (h : PW X e t) (i : ∀ σ H Q, t' σ H Q → t σ H Q) : PW X e t' := fun wh pins s σ H Q I hw => h wh pins s σ H Q I (i _ _ _ hw)
theorem pa_imp {t t' : TA} (h : PA X es t) (i : ∀ σ H Q, t' σ H Q → t σ H Q) : PA X es t' := fun p pins s σ H Q I hw => h p pins s σ H Q I (i _ _ _ hw)
theorem ps_imp {st : Stmt} {t t' : TS} (h : PS X st t) (i : ∀ D σ H, t' D σ H → t D σ H) : PS X st t' := fun pins s σ H D I hw => h pins s σ H D I (i _ _ _ hw)
theorem pss_imp {sts : List Stmt} {t t' : TS} (h : PSs X sts t) (i : ∀ D σ H, t' D σ H → t D σ H) : PSs X sts t' := fun pins s σ H D I hw => h pins s σ H D I (i _ _ _ hw)
theorem DE.dr (he : DE X e f) : DR X e f := pe_imp he fun σ H Q ⟨H₀, Hf₀, ρ, Hf, d, R, q, k⟩ => ⟨H₀, Hf₀, ρ, Hf, d, R, q, fun v H' Hf' R' s1 s2 hv => k v H' Hf' R' s1 s2 (.inl hv)⟩
def mapLst (fa : FA) : FE := fun ρ => (fa ρ).map D.lst
theorem DN.de (he : DN X e fa) : DE X e (mapLst fa) := pe_imp he fun σ H Q ⟨H₀, Hf₀, ρ, Hf, d, R, q, k⟩ => by
  unfold mapLst at q
  cases hq : fa ρ with
  | none => rw [hq] at q; cases q
  | some ds =>
    rw [hq] at q; cases q
    refine ⟨H₀, Hf₀, ρ, Hf, ds, R, hq, fun a xs H' Hf' R' s1 s2 hl ha hn hh => ?_⟩
    have sm : Same Hf' (upd Hf' a (.lst xs)) := same_upd hn
    have h0 : H₀ a = none := R.s0.free hh
    refine k (.ref a) H' (upd Hf' a (.lst xs)) ?_ s1 (s2.trans sm) (Has.lst_iff.mpr ⟨a, xs, rfl, SqL.of upd_same, hl.mono sm⟩)
    refine ⟨R'.s0, fun b u z => ?_, fun b u z => ?_, R'.f0.trans sm, R'.len, fun i d z => ?_, fun i sl z o => ?_, R'.inj⟩
    · by_cases hb : b = a
      · subst hb; rw [upd_same] at z; cases z; exact ha
      · rw [upd_ne hb] at z; exact R'.sf b u z
    · by_cases hb : b = a
      · subst hb; exact .inr (.inl h0)
      · rw [upd_ne hb] at z; exact R'.nf b u z
    · obtain ⟨v, p1, p2⟩ := R'.fr i d z
      exact ⟨v, p1, p2.mono sm⟩
    · obtain ⟨b, p1, p2, p3, p4⟩ := R.ow i sl z o
      obtain ⟨b', r1, r2, r3, r4⟩ := R'.ow i sl z o
      rw [p1] at r1; cases r1
      refine ⟨b, p1, r2.mono (fun u q => q) sm, ?_, r4⟩
      rw [upd_ne]
      · exact r3
      · rintro rfl
        obtain ⟨o', q'⟩ := p2.there o
        rw [q'] at hh; cases hh
def vF (i : Nat) : FE := fun ρ => match ρ[i]? with
  | some (.fr d) => some d
  | _ => none
def vR (i : Nat) : FE := fun ρ => match ρ[i]? with
  | some (.fr d) => some d
  | some (.ol ds) => some (.lst ds)
  | _ => none
theorem dv (i : Nat) {x : Str} (hN : X.N[i]? = some x := by rfl) (hv : Vis X.env.scope x := by first | exact Or.inl rfl | exact Or.inr (Or.inl rfl) | exact Or.inr (Or.inr rfl)) (hd : (x == ("__debug__" : Str)) = false := by decide)
    (hcd : (x == ("__classdict__" : Str)) = false := by decide) : DE X (.Name x pos) (vF i) :=
  pe_imp (pe_var hN hv hd hcd) fun σ H Q ⟨H₀, Hf₀, ρ, Hf, d, R, q, k⟩ => by
    unfold vF at q
    split at q
    · cases q
      rename_i e
      obtain ⟨v, e1, e2⟩ := R.fr i d e
      exact ⟨v, e1, k v H Hf R sameR sameR e2⟩
    · cases q
theorem dvr (i : Nat) {x : Str} (hN : X.N[i]? = some x := by rfl) (hv : Vis X.env.scope x := by first | exact Or.inl rfl | exact Or.inr (Or.inl rfl) | exact Or.inr (Or.inr rfl)) (hd : (x == ("__debug__" : Str)) = false := by decide)
    (hcd : (x == ("__classdict__" : Str)) = false := by decide) : DR X (.Name x pos) (vR i) :=
  pe_imp (pe_var hN hv hd hcd) fun σ H Q ⟨H₀, Hf₀, ρ, Hf, d, R, q, k⟩ => by
    unfold vR at q
    split at q
    · cases q
      rename_i e
      obtain ⟨v, e1, e2⟩ := R.fr i d e
      exact ⟨v, e1, k v H Hf R sameR sameR (.inl e2)⟩
    · cases q
      rename_i ds e
      obtain ⟨a, e1, e2, _⟩ := R.ow i _ e rfl
      exact ⟨.ref a, e1, k _ H Hf R sameR sameR (.inr ⟨i, ds, rfl, e, e1⟩)⟩
    · cases q
def cF (d : D) : FE := fun _ => some d
theorem d_int {i : Int} {j pos} : DE X (.Constant (.int i) j pos) (cF (.int i)) := pe_imp pe_int fun σ H Q ⟨H₀, Hf₀, ρ, Hf, d, R, q, k⟩ => by cases q; exact k _ _ _ R sameR sameR (Has.int_iff.mpr rfl)
theorem d_bl {i : Bool} {j pos} : DE X (.Constant (.bool i) j pos) (cF (.bl i)) := pe_imp pe_bl fun σ H Q ⟨H₀, Hf₀, ρ, Hf, d, R, q, k⟩ => by cases q; exact k _ _ _ R sameR sameR (Has.bl_iff.mpr rfl)
theorem d_non {j pos} : DE X (.Constant .none j pos) (cF .non) := pe_imp pe_non fun σ H Q ⟨H₀, Hf₀, ρ, Hf, d, R, q, k⟩ => by cases q; exact k _ _ _ R sameR sameR (Has.non_iff.mpr rfl)
def scalV : D → Option V
  | .non => some .non
  | .bl b => some (.bl b)
  | .int i => some (.int i)
  | .str x => some (.str x)
  | _ => none
theorem d_glob {x : Str} {d : D} {v : V} {u : Value} {pos : Pos} (hg : Gl X x) (hm : X.mg x = some u) (hs : scalV d = some v) (r : RelV v u) (hd : (x == ("__debug__" : Str)) = false := by decide) : DE X (.Name x pos) (cF d) :=
  pe_imp (pe_glob hg hm r hd) fun σ H Q ⟨H₀, Hf₀, ρ, Hf, d', R, q, k⟩ => by
    cases q
    refine k _ _ _ R sameR sameR ?_
    cases d <;> cases hs
    · exact Has.non_iff.mpr rfl
    · exact Has.bl_iff.mpr rfl
    · exact Has.int_iff.mpr rfl
    · exact Has.str_iff.mpr rfl
def bind2 (φ : D → D → Option D) (f g : FE) : FE := fun ρ => (f ρ).bind fun x => (g ρ).bind fun y => φ x y
def OpD (X : Cx) (r : R2) (φ : D → D → Option D) : Prop :=
  ∀ (σ : St) (ρ : Rho) (H₀ Hf₀ H Hf : Hp) (x y : V) (dx dy d : D) (Q : VK), Rep X.K H₀ Hf₀ σ ρ H Hf → HasR X.K Hf σ ρ dx x → HasR X.K Hf σ ρ dy y → φ dx dy = some d →
    (∀ v H' Hf', Rep X.K H₀ Hf₀ σ ρ H' Hf' → Same H H' → Same Hf Hf' → Has X.K Hf' d v → Q v H') → r x y H Q
theorem tOp_of {r : R2} {φ : D → D → Option D} (hφ : OpD X r φ) (σ : St) (H : Hp) (Q : VK) (hh : tF X.K (bind2 φ f g) σ H Q) : tOp r (tR X.K f) (tR X.K g) σ H Q := by
  obtain ⟨H₀, Hf₀, ρ, Hf, d, R, q, k⟩ := hh
  unfold bind2 at q
  cases hf : f ρ with
  | none => rw [hf] at q; cases q
  | some dx =>
    cases hg : g ρ with
    | none => rw [hf, hg] at q; cases q
    | some dy =>
      rw [hf, hg] at q
      refine ⟨H₀, Hf₀, ρ, Hf, dx, R, hf, fun v H1 Hf1 R1 s1 t1 h1 => ⟨H₀, Hf₀, ρ, Hf1, dy, R1, hg, fun u H2 Hf2 R2 s2 t2 h2 => ?_⟩⟩
      exact hφ σ ρ H₀ Hf₀ H2 Hf2 v u dx dy d Q R2 (h1.mono t2) h2 q fun w' H3 Hf3 R3 s3 t3 h3 => k w' H3 Hf3 R3 ((s1.trans s2).trans s3) ((t1.trans t2).trans t3) h3
theorem d_op {op : Operator} {r : R2} {φ : D → D → Option D} (ho : OpR X (binaryOp op) r) (hφ : OpD X r φ) (ha : DR X a f) (hb : DR X b g) : DE X (.BinOp a op b pos) (bind2 φ f g) :=
  pe_imp (pe_op ho ha hb) (tOp_of hφ)
theorem d_cmp {op : CmpOp} {r : R2} {φ : D → D → Option D} (ho : OpR X (compareOp op) r) (hφ : OpD X r φ) (ha : DR X a f) (hb : DR X b g) (hm : behindInMarks op b = false) : DE X (.Compare a [op] [b] pos) (bind2 φ f g) :=
  pe_imp (pe_cmpR ho ha hb hm) (tOp_of hφ)
theorem d_ix0 {r : R2} {φ : D → D → Option D} (ho : IxR X r) (hφ : OpD X r φ) (ha : DR X a f) (hb : DR X b g) (hs : PlainIx b) : DE X (.Subscript a b pos) (bind2 φ f g) :=
  pe_imp (pe_ix ho ha hb hs) (tOp_of hφ)
section
variable {K : PySem.W.Frag} {H₀ Hf₀ : Hp} {σ : St} {ρ : Rho} {H Hf : Hp} {v : V}
theorem HasR.int {i : Int} (h : HasR K Hf σ ρ (.int i) v) : v = .int i := by
  rcases h with h | ⟨_, _, e, _⟩
  · exact Has.int_iff.mp h
  · cases e
theorem HasR.bl {i : Bool} (h : HasR K Hf σ ρ (.bl i) v) : v = .bl i := by
  rcases h with h | ⟨_, _, e, _⟩
  · exact Has.bl_iff.mp h
  · cases e
theorem HasR.str {i : Str} (h : HasR K Hf σ ρ (.str i) v) : v = .str i := by
  rcases h with h | ⟨_, _, e, _⟩
  · exact Has.str_iff.mp h
  · cases e
theorem HasR.non (h : HasR K Hf σ ρ .non v) : v = .non := by
  rcases h with h | ⟨_, _, e, _⟩
  · exact Has.non_iff.mp h
  · cases e
theorem HasR.tup {ds : List D} (h : HasR K Hf σ ρ (.tup ds) v) (R : Rep K H₀ Hf₀ σ ρ H Hf) : ∃ a xs, v = .ref a ∧ SqT K H a xs ∧ HasL K Hf ds xs := by
  rcases h with h | ⟨_, _, e, _⟩
  · obtain ⟨a, xs, e, q, l⟩ := Has.tup_iff.mp h
    exact ⟨a, xs, e, sameT R.sf q, l⟩
  · cases e
theorem HasR.lst {ds : List D} (h : HasR K Hf σ ρ (.lst ds) v) (R : Rep K H₀ Hf₀ σ ρ H Hf) : ∃ a xs, v = .ref a ∧ SqL K H a xs ∧ HasL K Hf ds xs := by
  rcases h with h | ⟨i, ds', e, e1, e2⟩
  · obtain ⟨a, xs, e, q, l⟩ := Has.lst_iff.mp h
    exact ⟨a, xs, e, R.sf.seq q, l⟩
  · cases e
    obtain ⟨a, p1, ⟨xs, p2, p3⟩, _⟩ := R.ow i _ e1 rfl
    rw [e2] at p1; cases p1
    exact ⟨a, xs, rfl, SqL.of p2, p3⟩
end
def iiD (φ : Int → Int → Option D) : D → D → Option D
  | .int i, .int j => φ i j
  | _, _ => none
theorem iiD_some {φ : Int → Int → Option D} {x y d : D} (h : iiD φ x y = some d) : ∃ i j, x = .int i ∧ y = .int j ∧ φ i j = some d := by
  cases x <;> cases y <;> first | cases h | exact ⟨_, _, rfl, rfl, h⟩
theorem has_scal {K : PySem.W.Frag} {H : Hp} {d : D} {v : V} (h : scalV d = some v) : Has K H d v := by
  cases d <;> cases h
  · exact Has.non_iff.mpr rfl
  · exact Has.bl_iff.mpr rfl
  · exact Has.int_iff.mpr rfl
  · exact Has.str_iff.mpr rfl
theorem opD_ii {C : Int → Int → Prop} {gv : Int → Int → V} {φ : Int → Int → Option D} (h : ∀ i j d, φ i j = some d → C i j ∧ scalV d = some (gv i j)) : OpD X (rI C gv) (iiD φ) := by
  intro σ ρ H₀ Hf₀ H Hf x y dx dy d Q R hx hy hφ k
  obtain ⟨i, j, rfl, rfl, hd⟩ := iiD_some hφ
  obtain ⟨c, s⟩ := h i j d hd
  exact ⟨i, j, hx.int, hy.int, c, k _ _ _ R sameR sameR (has_scal s)⟩
theorem opD_ii0 {gv : Int → Int → V} {φ : Int → Int → Option D} (h : ∀ i j d, φ i j = some d → scalV d = some (gv i j)) : OpD X (rI0 gv) (iiD φ) := by
  intro σ ρ H₀ Hf₀ H Hf x y dx dy d Q R hx hy hφ k
  obtain ⟨i, j, rfl, rfl, hd⟩ := iiD_some hφ
  exact ⟨i, j, hx.int, hy.int, k _ _ _ R sameR sameR (has_scal (h i j d hd))⟩
end
end FL
set_option Elab.async false
set_option linter.all false
set_option maxRecDepth 100000
set_option maxHeartbeats 4000000
namespace FL
open PySem PySem.Spec PyProof.Rows L2
def big : Nat := 2 ^ 8000
theorem bits_big {i : Int} (h : i.natAbs < big) : Builtin.Int.intBits i ≤ 8001 := by
  unfold Builtin.Int.intBits
  split
  · exact Nat.zero_le _
  · have : i.natAbs.log2 < 8000 := by
      rcases Nat.eq_zero_or_pos i.natAbs with h0 | hp
      · rw [h0]; decide
      · exact (Nat.log2_lt (Nat.ne_of_gt hp)).mpr h
    omega
def MulB (i j : Int) : Prop := i.natAbs < 2 ^ 64 ∨ j.natAbs < 2 ^ 64 ∨ (i.natAbs < big ∧ j.natAbs < big)
instance (i j : Int) : Decidable (MulB i j) := by unfold MulB; exact inferInstance
theorem MulB.ok {i j : Int} (h : MulB i j) : IntMulOk i j := by
  rcases h with h | h | ⟨h1, h2⟩
  · exact .of_left (intBits_le_64 (by omega) (by omega))
  · exact .of_right (intBits_le_64 (by omega) (by omega))
  · exact IntMulOk.of_le (bits_big h1) (bits_big h2) (by decide)
def DivB (j : Int) : Prop := 0 < j ∧ j < 2 ^ 64
instance (j : Int) : Decidable (DivB j) := by unfold DivB; exact inferInstance
def PowB (i j : Int) : Prop := 0 ≤ j ∧ j ≤ 1000 ∧ i.natAbs < big
instance (i j : Int) : Decidable (PowB i j) := by unfold PowB; exact inferInstance
section
variable {X : Cx} {e a b c : Expr} {es : List Expr} {f g h : FE} {fa ga : FA} {ft gt : FT} {pos : Pos} {t t' : TE}
theorem op_mulG : OpR X (binaryOp .Mult) (rI MulB fun i j => .int (i * j)) := opI fun _ _ _ _ _ _ _ hc q => mul_int q hc.ok
theorem op_fdivG : OpR X (binaryOp .FloorDiv) (rI (fun _ j => DivB j) fun i j => .int (i / j)) := opI fun i j _ _ _ _ _ hc q => by
  have h1 : (0 : Int) < j := hc.1
  have h2 : j < 2 ^ 64 := hc.2
  refine floordiv_int (by omega) (by rw [Int.fdiv_eq_ediv_of_nonneg i (by omega)]; exact q) (.inl (PyProof.noPylong_of_log2 ?_))
  have hn : j.natAbs < 2 ^ 64 := by omega
  have : j.natAbs.log2 < 64 := (Nat.log2_lt (by omega)).mpr hn
  omega
theorem op_powG : OpR X (binaryOp .Pow) (rI PowB fun i j => .int (i ^ j.toNat)) := opI fun i j _ _ _ _ _ hc q => by
  obtain ⟨h1, h2, h3⟩ := hc
  refine pow_int h1 ?_ q
  have hb := bits_big h3
  have : (Builtin.Int.intBits i : Int) * j ≤ 8001 * 1000 := Int.mul_le_mul (by omega) h2 h1 (by decide)
  exact Int.le_trans this (by decide)
def mulD : D → D → Option D := iiD fun i j => if MulB i j then some (.int (i * j)) else none
def subD : D → D → Option D := iiD fun i j => some (.int (i - j))
def modD : D → D → Option D := iiD fun i j => if 0 < j then some (.int (i % j)) else none
def fdivD : D → D → Option D := iiD fun i j => if DivB j then some (.int (i / j)) else none
def powD : D → D → Option D := iiD fun i j => if PowB i j then some (.int (i ^ j.toNat)) else none
theorem opD_mul : OpD X (rI MulB fun i j => .int (i * j)) mulD := opD_ii fun i j d q => by
  split at q
  · cases q; exact ⟨by assumption, rfl⟩
  · cases q
theorem opD_sub : OpD X (rI0 fun i j => .int (i - j)) subD := opD_ii0 fun i j d q => by cases q; rfl
theorem opD_mod : OpD X (rI (fun _ j => 0 < j) fun i j => .int (i % j)) modD := opD_ii fun i j d q => by
  split at q
  · cases q; exact ⟨by assumption, rfl⟩
  · cases q
theorem opD_fdiv : OpD X (rI (fun _ j => DivB j) fun i j => .int (i / j)) fdivD := opD_ii fun i j d q => by
  split at q
  · cases q; exact ⟨by assumption, rfl⟩
  · cases q
theorem opD_pow : OpD X (rI PowB fun i j => .int (i ^ j.toNat)) powD := opD_ii fun i j d q => by
  split at q
  · cases q; exact ⟨by assumption, rfl⟩
  · cases q
theorem d_sub (ha : DR X a f) (hb : DR X b g) : DE X (.BinOp a .Sub b pos) (bind2 subD f g) := d_op op_sub opD_sub ha hb
theorem d_mul (ha : DR X a f) (hb : DR X b g) : DE X (.BinOp a .Mult b pos) (bind2 mulD f g) := d_op op_mulG opD_mul ha hb
theorem d_mod (ha : DR X a f) (hb : DR X b g) : DE X (.BinOp a .Mod b pos) (bind2 modD f g) := d_op op_mod opD_mod ha hb
theorem d_fdiv (ha : DR X a f) (hb : DR X b g) : DE X (.BinOp a .FloorDiv b pos) (bind2 fdivD f g) := d_op op_fdivG opD_fdiv ha hb
theorem d_pow (ha : DR X a f) (hb : DR X b g) : DE X (.BinOp a .Pow b pos) (bind2 powD f g) := d_op op_powG opD_pow ha hb
def addD : D → D → Option D
  | .int i, .int j => some (.int (i + j))
  | .str x, .str y => if x.length + y.length ≤ sizeLine then some (.str (x ++ y)) else none
  | .lst xs, .lst ys => if xs.length + ys.length ≤ sizeLine then some (.lst (xs ++ ys)) else none
  | .tup (x :: xs), .tup ys => if xs.length + 1 + ys.length ≤ sizeLine then some (.tup (x :: xs ++ ys)) else none
  | _, _ => none
def bind1 (φ : D → Option D) (f : FE) : FE := fun ρ => (f ρ).bind φ
def negD : D → Option D
  | .int i => some (.int (-i))
  | _ => none
theorem d_neg (ha : DR X a f) : DE X (.UnaryOp .USub a pos) (bind1 negD f) :=
  pe_imp (pe_un un_neg ha) fun σ H Q ⟨H₀, Hf₀, ρ, Hf, d, R, q, k⟩ => by
    unfold bind1 at q
    cases hf : f ρ with
    | none => rw [hf] at q; cases q
    | some x =>
      rw [hf] at q
      cases x <;> try cases q
      exact ⟨H₀, Hf₀, ρ, Hf, _, R, hf, fun v H1 Hf1 R1 s1 t1 h1 => ⟨_, h1.int, k _ _ _ R1 s1 t1 (Has.int_iff.mpr rfl)⟩⟩
def ltD : D → D → Option D := iiD fun i j => some (.bl (decide (i < j)))
def leD : D → D → Option D := iiD fun i j => some (.bl (decide (i ≤ j)))
def gtD : D → D → Option D := iiD fun i j => some (.bl (decide (j < i)))
def geD : D → D → Option D := iiD fun i j => some (.bl (decide (j ≤ i)))
theorem opD_lt : OpD X (rI0 fun i j => .bl (decide (i < j))) ltD := opD_ii0 fun i j d q => by cases q; rfl
theorem opD_le : OpD X (rI0 fun i j => .bl (decide (i ≤ j))) leD := opD_ii0 fun i j d q => by cases q; rfl
theorem opD_gt : OpD X (rI0 fun i j => .bl (decide (j < i))) gtD := opD_ii0 fun i j d q => by cases q; rfl
theorem opD_ge : OpD X (rI0 fun i j => .bl (decide (j ≤ i))) geD := opD_ii0 fun i j d q => by cases q; rfl
theorem d_gt (ha : DR X a f) (hb : DR X b g) : DE X (.Compare a [.Gt] [b] pos) (bind2 gtD f g) := d_cmp op_gt opD_gt ha hb (nomark _)
def isD (neg : Bool) : D → D → Option D := fun x y => match y with
  | .non => match x with
    | .non => some (.bl (!neg))
    | _ => some (.bl neg)
  | _ => none
theorem has_none {K : PySem.W.Frag} {Hf : Hp} {σ : St} {ρ : Rho} {x : D} {v : V} (h : HasR K Hf σ ρ x v) (R : ∃ H₀ Hf₀ H, Rep K H₀ Hf₀ σ ρ H Hf) : decide (v = V.non) = (match x with | .non => true | _ => false) := by
  obtain ⟨H₀, Hf₀, H, R⟩ := R
  cases x with
  | non => cases h.non; rfl
  | bl b => cases h.bl; rfl
  | int b => cases h.int; rfl
  | str b => cases h.str; rfl
  | tup ds => obtain ⟨a, xs, rfl, _⟩ := h.tup R; rfl
  | lst ds => obtain ⟨a, xs, rfl, _⟩ := h.lst R; rfl
theorem opD_isnot : OpD X (fun x y H Q => y = .non ∧ Q (.bl (!decide (x = .non))) H) (isD true) := by
  intro σ ρ H₀ Hf₀ H Hf x y dx dy d Q R hx hy hφ k
  cases dy <;> try cases hφ
  have e := has_none hx ⟨_, _, _, R⟩
  refine ⟨hy.non, ?_⟩
  rw [e]
  cases dx <;> cases hφ <;> exact k _ _ _ R sameR sameR (Has.bl_iff.mpr rfl)
def ixD : D → D → Option D
  | .tup ds, .int i => atI ds i
  | .lst ds, .int i => atI ds i
  | .str z, .int i => if z.length ≤ sizeLine then (atI z.cps.toList i).map fun c => .str ⟨#[c]⟩ else none
  | _, _ => none
theorem HasL.atI {K : PySem.W.Frag} {H : Hp} {ds : List D} {xs : List V} {i : Int} {d : D} (h : HasL K H ds xs) (e : L2.atI ds i = some d) : ∃ v, L2.atI xs i = some v ∧ Has K H d v := by
  unfold L2.atI at e ⊢
  rw [h.length]
  cases hj : ixN ds.length i with
  | none => rw [hj] at e; cases e
  | some j =>
    rw [hj] at e
    exact h.get e
theorem opD_ix : OpD X (rIx X.K) ixD := by
  intro σ ρ H₀ Hf₀ H Hf x y dx dy d Q R hx hy hφ k
  unfold ixD at hφ
  split at hφ
  · obtain ⟨a, xs, rfl, qa, la⟩ := hx.tup R
    obtain ⟨v, e1, e2⟩ := la.atI hφ
    exact .inr (.inl ⟨a, xs, _, v, rfl, hy.int, qa, e1, k _ _ _ R sameR sameR e2⟩)
  · obtain ⟨a, xs, rfl, qa, la⟩ := hx.lst R
    obtain ⟨v, e1, e2⟩ := la.atI hφ
    exact .inl ⟨a, xs, _, v, rfl, hy.int, qa, e1, k _ _ _ R sameR sameR e2⟩
  · split at hφ
    · rename_i z i hz
      cases e : atI z.cps.toList i with
      | none => rw [e] at hφ; cases hφ
      | some c =>
        rw [e] at hφ
        cases hφ
        exact .inr (.inr ⟨z, i, c, hx.str, hy.int, hz, e, k _ _ _ R sameR sameR (Has.str_iff.mpr rfl)⟩)
    · cases hφ
  · cases hφ
theorem d_ix (ha : DR X a f) (hb : DR X b g) (hs : PlainIx b := by intro _ _; rfl) : DE X (.Subscript a b pos) (bind2 ixD f g) := d_ix0 ix_seq opD_ix ha hb hs
def nilA : FA := fun _ => some []
def consA (f : FE) (g : FA) : FA := fun ρ => (f ρ).bind fun x => (g ρ).bind fun xs => some (x :: xs)
theorem consA_some {f : FE} {g : FA} {ρ : Rho} {l : List D} (h : consA f g ρ = some l) : ∃ x xs, f ρ = some x ∧ g ρ = some xs ∧ l = x :: xs := by
  unfold consA at h
  cases hf : f ρ with
  | none => rw [hf] at h; cases h
  | some x =>
    cases hg : g ρ with
    | none => rw [hf, hg] at h; cases h
    | some xs => rw [hf, hg] at h; cases h; exact ⟨x, xs, rfl, rfl, rfl⟩
theorem da_nil : DA X [] nilA := pa_imp pa_nil fun σ H Q ⟨H₀, Hf₀, ρ, Hf, d, R, q, k⟩ => by cases q; exact k _ _ _ R sameR sameR .nil
theorem da_cons (ha : DE X e f) (hr : DA X es fa) (hs : starEach (e :: es) X.env = (false, eval e X.env) :: starEach es X.env := by rfl) : DA X (e :: es) (consA f fa) :=
  pa_imp (pa_cons ha hr hs) fun σ H Q ⟨H₀, Hf₀, ρ, Hf, d, R, q, k⟩ => by
    obtain ⟨x, xs, e1, e2, rfl⟩ := consA_some q
    exact ⟨H₀, Hf₀, ρ, Hf, x, R, e1, fun v H1 Hf1 R1 s1 t1 h1 => ⟨H₀, Hf₀, ρ, Hf1, xs, R1, e2, fun vs H2 Hf2 R2 s2 t2 h2 => k _ _ _ R2 (s1.trans s2) (t1.trans t2) (.cons (h1.mono t2) h2)⟩⟩
theorem dar_nil : DAR X [] nilA := pa_imp pa_nil fun σ H Q ⟨H₀, Hf₀, ρ, Hf, d, R, q, k⟩ => by cases q; exact k _ _ _ R sameR sameR .nil
theorem dar_cons (ha : DR X e f) (hr : DAR X es fa) (hs : starEach (e :: es) X.env = (false, eval e X.env) :: starEach es X.env := by rfl) : DAR X (e :: es) (consA f fa) :=
  pa_imp (pa_cons ha hr hs) fun σ H Q ⟨H₀, Hf₀, ρ, Hf, d, R, q, k⟩ => by
    obtain ⟨x, xs, e1, e2, rfl⟩ := consA_some q
    exact ⟨H₀, Hf₀, ρ, Hf, x, R, e1, fun v H1 Hf1 R1 s1 t1 h1 => ⟨H₀, Hf₀, ρ, Hf1, xs, R1, e2, fun vs H2 Hf2 R2 s2 t2 h2 => k _ _ _ R2 (s1.trans s2) (t1.trans t2) (.cons (h1.mono t2) h2)⟩⟩
def tupF (g : FA) : FE := fun ρ => (g ρ).bind fun xs => if xs.length ≤ sizeLine then some (.tup xs) else none
theorem d_tup {x1} (h : DA X es fa) : DE X (.Tuple es x1 pos) (tupF fa) :=
  pe_imp (pe_tup h) fun σ H Q ⟨H₀, Hf₀, ρ, Hf, d, R, q, k⟩ => by
    unfold tupF at q
    cases hg : fa ρ with
    | none => rw [hg] at q; cases q
    | some xs =>
      rw [hg] at q
      simp only [Option.bind_some] at q
      split at q
      · cases q
        rename_i hl
        refine ⟨H₀, Hf₀, ρ, Hf, xs, R, hg, fun vs H1 Hf1 R1 s1 t1 h1 => ⟨by rw [h1.length]; exact hl, fun p hp => ?_⟩⟩
        have sm := same_upd (o := .tup vs) (R1.sf.free hp)
        exact k _ _ _ (R1.lay hp) (s1.trans (same_upd hp)) (t1.trans sm) (Has.tup_iff.mpr ⟨p, vs, rfl, SqT.of upd_same, h1.mono sm⟩)
      · cases q
def lstF (g : FA) : FA := fun ρ => (g ρ).bind fun xs => if xs.length ≤ sizeLine then some xs else none
theorem dn_lst (h : DA X es fa) : DN X (.List es pos) (lstF fa) :=
  pe_imp (pe_lst h) fun σ H Q ⟨H₀, Hf₀, ρ, Hf, d, R, q, k⟩ => by
    unfold lstF at q
    cases hg : fa ρ with
    | none => rw [hg] at q; cases q
    | some xs =>
      rw [hg] at q
      simp only [Option.bind_some] at q
      split at q
      · cases q
        rename_i hl
        refine ⟨H₀, Hf₀, ρ, Hf, _, R, hg, fun vs H1 Hf1 R1 s1 t1 h1 => ⟨by rw [h1.length]; exact hl, fun p hp => ?_⟩⟩
        exact k _ _ _ _ (R1.layN hp) (s1.trans (same_upd hp)) t1 h1 upd_same (R1.sf.free hp) (s1.free hp)
      · cases q
def blF (f : FE) : FT := fun ρ => (f ρ).bind fun | .bl b => some b | _ => none
theorem blF_some {f : FE} {ρ : Rho} {b : Bool} (h : blF f ρ = some b) : f ρ = some (.bl b) := by
  unfold blF at h
  cases hf : f ρ with
  | none => rw [hf] at h; cases h
  | some x => rw [hf] at h; cases x <;> cases h; rfl
theorem dt_val (h : DR X e f) (he : ∀ whole, isTrue e X.env whole = (do let v ← whole; standAt e.pos; holding [v] (truthy v)) := by intro _; rfl) : DT X e (blF f) :=
  pt_imp (pt_val h he) fun σ H Q ⟨H₀, Hf₀, ρ, Hf, d, R, q, k⟩ => ⟨H₀, Hf₀, ρ, Hf, _, R, blF_some q, fun v H1 Hf1 R1 s1 t1 h1 => ⟨d, h1.bl, k _ _ R1 s1 t1⟩⟩
theorem pt_of_cmp {op : CmpOp} {r : R2} {φ : D → D → Option D} (ho : OpR X (compareOp op) r) (hφ : OpD X r φ) (ha : DR X a f) (hb : DR X b g) (hm : behindInMarks op b = false) : DT X (.Compare a [op] [b] pos) (blF (bind2 φ f g)) :=
  pt_imp (pt_cmpR ho ha hb hm) fun σ H Q ⟨H₀, Hf₀, ρ, Hf, d, R, q, k⟩ => tOp_of hφ σ H _ ⟨H₀, Hf₀, ρ, Hf, _, R, blF_some q, fun v H1 Hf1 R1 s1 t1 h1 => ⟨d, Has.bl_iff.mp h1, k _ _ R1 s1 t1⟩⟩
theorem dt_lt (ha : DR X a f) (hb : DR X b g) : DT X (.Compare a [.Lt] [b] pos) (blF (bind2 ltD f g)) := pt_of_cmp op_lt opD_lt ha hb (nomark _)
theorem dt_le (ha : DR X a f) (hb : DR X b g) : DT X (.Compare a [.LtE] [b] pos) (blF (bind2 leD f g)) := pt_of_cmp op_le opD_le ha hb (nomark _)
theorem dt_gt (ha : DR X a f) (hb : DR X b g) : DT X (.Compare a [.Gt] [b] pos) (blF (bind2 gtD f g)) := pt_of_cmp op_gt opD_gt ha hb (nomark _)
theorem dt_ge (ha : DR X a f) (hb : DR X b g) : DT X (.Compare a [.GtE] [b] pos) (blF (bind2 geD f g)) := pt_of_cmp op_ge opD_ge ha hb (nomark _)
theorem dt_isnot (ha : DR X a f) (hb : DR X b g) : DT X (.Compare a [.IsNot] [b] pos) (blF (bind2 (isD true) f g)) := pt_of_cmp op_notN opD_isnot ha hb (nomark _)
def andT (f g : FT) : FT := fun ρ => (f ρ).bind fun b => if b = true then g ρ else some false
def orT (f g : FT) : FT := fun ρ => (f ρ).bind fun b => if b = true then some true else g ρ
variable {rest : List Expr}
theorem bindT_some {α : Type} {f : Rho → Option Bool} {k : Bool → Option α} {ρ : Rho} {r : α} (h : (f ρ).bind k = some r) : ∃ b, f ρ = some b ∧ k b = some r := by
  cases hf : f ρ with
  | none => rw [hf] at h; cases h
  | some x => rw [hf] at h; exact ⟨x, rfl, h⟩
theorem dw_and1 (ha : DT X a ft) : DW X (.BoolOp .And [a] pos) ft := pw_and1 ha
theorem dw_or1 (ha : DT X a ft) : DW X (.BoolOp .Or [a] pos) ft := pw_or1 ha
theorem dw_and (ha : DT X a ft) (hb : DW X (.BoolOp .And (b :: rest) pos) gt) : DW X (.BoolOp .And (a :: b :: rest) pos) (andT ft gt) :=
  pw_imp (pw_and ha hb) fun σ H Q ⟨H₀, Hf₀, ρ, Hf, d, R, q, k⟩ => by
    obtain ⟨b, e1, e2⟩ := bindT_some q
    refine ⟨H₀, Hf₀, ρ, Hf, b, R, e1, fun H1 Hf1 R1 s1 t1 => ?_⟩
    cases b with
    | true => exact iteT ⟨H₀, Hf₀, ρ, Hf1, d, R1, e2, fun H2 Hf2 R2 s2 t2 => k _ _ R2 (s1.trans s2) (t1.trans t2)⟩
    | false => cases e2; exact iteF (k _ _ R1 s1 t1)
theorem dw_or (ha : DT X a ft) (hb : DW X (.BoolOp .Or (b :: rest) pos) gt) : DW X (.BoolOp .Or (a :: b :: rest) pos) (orT ft gt) :=
  pw_imp (pw_or ha hb) fun σ H Q ⟨H₀, Hf₀, ρ, Hf, d, R, q, k⟩ => by
    obtain ⟨b, e1, e2⟩ := bindT_some q
    refine ⟨H₀, Hf₀, ρ, Hf, b, R, e1, fun H1 Hf1 R1 s1 t1 => ?_⟩
    cases b with
    | false => exact iteF ⟨H₀, Hf₀, ρ, Hf1, d, R1, e2, fun H2 Hf2 R2 s2 t2 => k _ _ R2 (s1.trans s2) (t1.trans t2)⟩
    | true => cases e2; exact iteT (k _ _ R1 s1 t1)
theorem DW.dt (h : DW X e ft) : DT X e ft := PW.pt h
def andV (f g : FE) : FE := fun ρ => (f ρ).bind fun | .bl b => (if b = true then g ρ else some (.bl false)) | _ => none
theorem bindV_some {α : Type} {f : FE} {k : D → Option α} {ρ : Rho} {r : α} (h : (f ρ).bind k = some r) : ∃ b, f ρ = some b ∧ k b = some r := by
  cases hf : f ρ with
  | none => rw [hf] at h; cases h
  | some x => rw [hf] at h; exact ⟨x, rfl, h⟩
theorem d_one {op} (h : DE X a f) : DE X (.BoolOp op [a] pos) f := pe_one h
theorem d_and (ha : DE X a f) (hb : DE X (.BoolOp .And (b :: rest) pos) g) : DE X (.BoolOp .And (a :: b :: rest) pos) (andV f g) :=
  pe_imp (pe_and ha hb) fun σ H Q ⟨H₀, Hf₀, ρ, Hf, d, R, q, k⟩ => by
    obtain ⟨x, e1, e2⟩ := bindV_some q
    cases x <;> try cases e2
    rename_i b
    refine ⟨H₀, Hf₀, ρ, Hf, _, R, e1, fun v H1 Hf1 R1 s1 t1 h1 => ⟨b, Has.bl_iff.mp h1, ?_⟩⟩
    cases b with
    | true => exact iteT ⟨H₀, Hf₀, ρ, Hf1, d, R1, e2, fun v H2 Hf2 R2 s2 t2 h2 => k _ _ _ R2 (s1.trans s2) (t1.trans t2) h2⟩
    | false => cases e2; exact iteF (k _ _ _ R1 s1 t1 (Has.bl_iff.mpr rfl))
def ifF (c : FT) (f g : FE) : FE := fun ρ => (c ρ).bind fun b => if b = true then f ρ else g ρ
theorem d_ifExp (hc : DT X c ft) (ha : DE X a f) (hb : DE X b g) : DE X (.IfExp c a b pos) (ifF ft f g) :=
  pe_imp (pe_ifExp hc ha hb) fun σ H Q ⟨H₀, Hf₀, ρ, Hf, d, R, q, k⟩ => by
    obtain ⟨x, e1, e2⟩ := bindT_some q
    refine ⟨H₀, Hf₀, ρ, Hf, x, R, e1, fun H1 Hf1 R1 s1 t1 => ?_⟩
    cases x with
    | true => exact iteT ⟨H₀, Hf₀, ρ, Hf1, d, R1, e2, fun v H2 Hf2 R2 s2 t2 h2 => k _ _ _ R2 (s1.trans s2) (t1.trans t2) h2⟩
    | false => exact iteF ⟨H₀, Hf₀, ρ, Hf1, d, R1, e2, fun v H2 Hf2 R2 s2 t2 h2 => k _ _ _ R2 (s1.trans s2) (t1.trans t2) h2⟩
end
end FL
set_option Elab.async false
set_option linter.all false
set_option maxRecDepth 100000
set_option maxHeartbeats 4000000
namespace FL
open PySem PySem.Spec PyProof.Rows L2
mutual
def eqD : D → D → Bool
  | .non, .non => true
  | .bl a, .bl b => a == b
  | .bl a, .int b => (if a then 1 else 0) == b
  | .int a, .bl b => a == (if b then 1 else 0)
  | .int a, .int b => a == b
  | .str a, .str b => a == b
  | .tup a, .tup b => eqDL a b
  | .lst a, .lst b => eqDL a b
  | _, _ => false
def eqDL : List D → List D → Bool
  | [], [] => true
  | x :: xs, y :: ys => eqD x y && eqDL xs ys
  | _, _ => false
end
mutual
def dep : D → Nat
  | .tup a => depL a + 1
  | .lst a => depL a + 1
  | _ => 0
def depL : List D → Nat
  | [] => 0
  | x :: xs => max (dep x) (depL xs)
end
theorem depL_le {l : List D} {k : Nat} (h : ∀ d ∈ l, dep d ≤ k) : depL l ≤ k := by
  induction l with
  | nil => simp [depL]
  | cons x xs ih =>
    unfold depL
    exact Nat.max_le.mpr ⟨h x List.mem_cons_self, ih fun d hd => h d (List.mem_cons_of_mem _ hd)⟩
mutual
theorem eqD_refl : ∀ d : D, eqD d d = true
  | .non => by simp [eqD]
  | .bl b => by simp [eqD]
  | .int i => by simp [eqD]
  | .str x => by simp [eqD]
  | .tup ds => by unfold eqD; exact eqDL_refl ds
  | .lst ds => by unfold eqD; exact eqDL_refl ds
theorem eqDL_refl : ∀ ds : List D, eqDL ds ds = true
  | [] => by simp [eqDL]
  | d :: ds => by unfold eqDL; rw [eqD_refl d, eqDL_refl ds]; rfl
end
theorem eqDL_eq : ∀ (xs ys : List D), eqDL xs ys = ((List.range (min xs.length ys.length)).all (fun j => eqD (xs.getD j .non) (ys.getD j .non)) && xs.length == ys.length)
  | [], [] => by simp [eqDL]
  | [], y :: ys => by simp [eqDL]
  | x :: xs, [] => by simp [eqDL]
  | x :: xs, y :: ys => by
    unfold eqDL
    rw [eqDL_eq xs ys]
    have e : min (x :: xs).length (y :: ys).length = min xs.length ys.length + 1 := by simp only [List.length_cons]; omega
    rw [e, List.range_succ_eq_map, List.all_cons, List.all_map]
    simp [Function.comp_def, Bool.and_assoc]
section
variable {X : Cx} {pins : List (Addr × Obj)} {σ : St} {H Hf : Hp} {s : Shared}
mutual
/-- one value, one datum -/
theorem Has.inj (I : Inv X pins σ H s) : ∀ {d d' : D} {v : V}, Has X.K H d v → Has X.K H d' v → d = d'
  | .non, d', v, h, h' => by
    rw [Has.non_iff] at h; subst h
    cases d' with
    | non => rfl
    | bl b => cases Has.bl_iff.mp h'
    | int b => cases Has.int_iff.mp h'
    | str b => cases Has.str_iff.mp h'
    | tup b => obtain ⟨_, _, e, _⟩ := Has.tup_iff.mp h'; cases e
    | lst b => obtain ⟨_, _, e, _⟩ := Has.lst_iff.mp h'; cases e
  | .bl x, d', v, h, h' => by
    rw [Has.bl_iff] at h; subst h
    cases d' with
    | non => cases Has.non_iff.mp h'
    | bl b => cases Has.bl_iff.mp h'; rfl
    | int b => cases Has.int_iff.mp h'
    | str b => cases Has.str_iff.mp h'
    | tup b => obtain ⟨_, _, e, _⟩ := Has.tup_iff.mp h'; cases e
    | lst b => obtain ⟨_, _, e, _⟩ := Has.lst_iff.mp h'; cases e
  | .int x, d', v, h, h' => by
    rw [Has.int_iff] at h; subst h
    cases d' with
    | non => cases Has.non_iff.mp h'
    | bl b => cases Has.bl_iff.mp h'
    | int b => cases Has.int_iff.mp h'; rfl
    | str b => cases Has.str_iff.mp h'
    | tup b => obtain ⟨_, _, e, _⟩ := Has.tup_iff.mp h'; cases e
    | lst b => obtain ⟨_, _, e, _⟩ := Has.lst_iff.mp h'; cases e
  | .str x, d', v, h, h' => by
    rw [Has.str_iff] at h; subst h
    cases d' with
    | non => cases Has.non_iff.mp h'
    | bl b => cases Has.bl_iff.mp h'
    | int b => cases Has.int_iff.mp h'
    | str b => cases Has.str_iff.mp h'; rfl
    | tup b => obtain ⟨_, _, e, _⟩ := Has.tup_iff.mp h'; cases e
    | lst b => obtain ⟨_, _, e, _⟩ := Has.lst_iff.mp h'; cases e
  | .tup x, d', v, h, h' => by
    obtain ⟨a, xs, rfl, qa, la⟩ := Has.tup_iff.mp h
    cases d' with
    | non => cases Has.non_iff.mp h'
    | bl b => cases Has.bl_iff.mp h'
    | int b => cases Has.int_iff.mp h'
    | str b => cases Has.str_iff.mp h'
    | tup b =>
      obtain ⟨a', ys, e, qb, lb⟩ := Has.tup_iff.mp h'
      cases e
      cases I.tuple_inj qa qb
      rw [HasL.inj I la lb]
    | lst b =>
      obtain ⟨a', ys, e, qb, lb⟩ := Has.lst_iff.mp h'
      cases e
      obtain ⟨its, _, p1, _⟩ := I.tuple qa
      obtain ⟨its', _, p2, _⟩ := I.list qb
      exact absurd rfl (SeqAt.ne_of_list_tuple p2.isList p1)
  | .lst x, d', v, h, h' => by
    obtain ⟨a, xs, rfl, qa, la⟩ := Has.lst_iff.mp h
    cases d' with
    | non => cases Has.non_iff.mp h'
    | bl b => cases Has.bl_iff.mp h'
    | int b => cases Has.int_iff.mp h'
    | str b => cases Has.str_iff.mp h'
    | lst b =>
      obtain ⟨a', ys, e, qb, lb⟩ := Has.lst_iff.mp h'
      cases e
      cases I.list_inj qa qb
      rw [HasL.inj I la lb]
    | tup b =>
      obtain ⟨a', ys, e, qb, lb⟩ := Has.tup_iff.mp h'
      cases e
      obtain ⟨its, _, p1, _⟩ := I.tuple qb
      obtain ⟨its', _, p2, _⟩ := I.list qa
      exact absurd rfl (SeqAt.ne_of_list_tuple p2.isList p1)
theorem HasL.inj (I : Inv X pins σ H s) : ∀ {ds ds' : List D} {xs : List V}, HasL X.K H ds xs → HasL X.K H ds' xs → ds = ds'
  | [], ds', xs, h, h' => by
    rw [HasL.nil_iff] at h; subst h
    cases ds' with
    | nil => rfl
    | cons d r => obtain ⟨_, _, e, _⟩ := HasL.cons_iff.mp h'; cases e
  | d :: ds, ds', xs, h, h' => by
    obtain ⟨x, r, rfl, h1, h2⟩ := HasL.cons_iff.mp h
    cases ds' with
    | nil => rw [HasL.nil_iff] at h'; cases h'
    | cons d' r' =>
      obtain ⟨x', r'', e, h1', h2'⟩ := HasL.cons_iff.mp h'
      cases e
      rw [Has.inj I h1 h1', HasL.inj I h2 h2']
end
open SeqAt in
mutual
theorem eqAt_of (I : Inv X pins σ H s) : ∀ (d : D) (A : Around) (d' : D) (v v' : V) (u u' : Value), Has X.K H d v → Has X.K H d' v' → RelV v u → RelV v' u' → A.units + dep d < cLine → EqAt A s u u' (eqD d d')
  | .non, A, d', v, v', u, u', h, h', r, r', hu => by
    have hu : A.units < cLine := by omega
    rw [Has.non_iff] at h; subst h
    cases r
    cases d' with
    | non => rw [Has.non_iff] at h'; subst h'; cases r'; exact EqAt.same _
    | bl b => rw [Has.bl_iff] at h'; subst h'; cases r'; exact EqAt.none_bool _
    | int b => rw [Has.int_iff] at h'; subst h'; obtain ⟨t, rfl⟩ := r'; exact EqAt.none_int _ _
    | str b => rw [Has.str_iff] at h'; subst h'; obtain ⟨t, rfl⟩ := r'; exact EqAt.none_str _ _
    | tup b => obtain ⟨a, xs, rfl, q, _⟩ := Has.tup_iff.mp h'; cases r'; obtain ⟨its, _, p, _⟩ := I.tuple q; exact EqAt.none_tuple p hu
    | lst b => obtain ⟨a, xs, rfl, q, _⟩ := Has.lst_iff.mp h'; cases r'; obtain ⟨its, _, p, _⟩ := I.list q; exact EqAt.none_list p.isList hu
  | .bl x, A, d', v, v', u, u', h, h', r, r', hu => by
    have hu : A.units < cLine := by omega
    rw [Has.bl_iff] at h; subst h
    cases r
    cases d' with
    | non => rw [Has.non_iff] at h'; subst h'; cases r'; exact EqAt.bool_none _
    | bl b => rw [Has.bl_iff] at h'; subst h'; cases r'; exact EqAt.bool_bool _ _
    | int b => rw [Has.int_iff] at h'; subst h'; obtain ⟨t, rfl⟩ := r'; exact EqAt.bool_int _ _ _
    | str b => rw [Has.str_iff] at h'; subst h'; obtain ⟨t, rfl⟩ := r'; exact EqAt.bool_str _ _ _
    | tup b => obtain ⟨a, xs, rfl, q, _⟩ := Has.tup_iff.mp h'; cases r'; obtain ⟨its, _, p, _⟩ := I.tuple q; exact EqAt.bool_tuple _ p hu
    | lst b => obtain ⟨a, xs, rfl, q, _⟩ := Has.lst_iff.mp h'; cases r'; obtain ⟨its, _, p, _⟩ := I.list q; exact EqAt.bool_list _ p.isList hu
  | .int x, A, d', v, v', u, u', h, h', r, r', hu => by
    have hu : A.units < cLine := by omega
    rw [Has.int_iff] at h; subst h
    obtain ⟨t, rfl⟩ := r
    cases d' with
    | non => rw [Has.non_iff] at h'; subst h'; cases r'; exact EqAt.int_none _ _
    | bl b => rw [Has.bl_iff] at h'; subst h'; cases r'; exact EqAt.int_bool _ _ _
    | int b => rw [Has.int_iff] at h'; subst h'; obtain ⟨t, rfl⟩ := r'; exact EqAt.int_int _ _ _ _
    | str b => rw [Has.str_iff] at h'; subst h'; obtain ⟨t, rfl⟩ := r'; exact EqAt.int_str _ _ _ _
    | tup b => obtain ⟨a, xs, rfl, q, _⟩ := Has.tup_iff.mp h'; cases r'; obtain ⟨its, _, p, _⟩ := I.tuple q; exact EqAt.int_tuple _ _ p hu
    | lst b => obtain ⟨a, xs, rfl, q, _⟩ := Has.lst_iff.mp h'; cases r'; obtain ⟨its, _, p, _⟩ := I.list q; exact EqAt.int_list _ _ p.isList hu
  | .str x, A, d', v, v', u, u', h, h', r, r', hu => by
    have hu : A.units < cLine := by omega
    rw [Has.str_iff] at h; subst h
    obtain ⟨t, rfl⟩ := r
    cases d' with
    | non => rw [Has.non_iff] at h'; subst h'; cases r'; exact EqAt.str_none _ _
    | bl b => rw [Has.bl_iff] at h'; subst h'; cases r'; exact EqAt.str_bool _ _ _
    | int b => rw [Has.int_iff] at h'; subst h'; obtain ⟨t, rfl⟩ := r'; exact EqAt.str_int _ _ _ _
    | str b => rw [Has.str_iff] at h'; subst h'; obtain ⟨t, rfl⟩ := r'; exact EqAt.str_str _ _ _ _
    | tup b => obtain ⟨a, xs, rfl, q, _⟩ := Has.tup_iff.mp h'; cases r'; obtain ⟨its, _, p, _⟩ := I.tuple q; exact EqAt.str_tuple _ _ p hu
    | lst b => obtain ⟨a, xs, rfl, q, _⟩ := Has.lst_iff.mp h'; cases r'; obtain ⟨its, _, p, _⟩ := I.list q; exact EqAt.str_list _ _ p.isList hu
  | .tup x, A, d', v, v', u, u', h, h', r, r', hu => by
    have hu0 : A.units < cLine := by omega
    obtain ⟨a, xs, rfl, q, l⟩ := Has.tup_iff.mp h
    cases r
    obtain ⟨its, rv, p, _⟩ := I.tuple q
    cases d' with
    | non => rw [Has.non_iff] at h'; subst h'; cases r'; exact EqAt.tuple_none p hu0
    | bl b => rw [Has.bl_iff] at h'; subst h'; cases r'; exact EqAt.tuple_bool _ p hu0
    | int b => rw [Has.int_iff] at h'; subst h'; obtain ⟨t, rfl⟩ := r'; exact EqAt.tuple_int _ _ p hu0
    | str b => rw [Has.str_iff] at h'; subst h'; obtain ⟨t, rfl⟩ := r'; exact EqAt.tuple_str _ _ p hu0
    | tup y =>
      obtain ⟨b, ys, rfl, q', l'⟩ := Has.tup_iff.mp h'
      cases r'
      obtain ⟨its', rv', p', _⟩ := I.tuple q'
      by_cases hab : a = b
      · subst hab
        cases Has.inj I h h'
        rw [eqD_refl]
        exact EqAt.same _
      · refine EqAt.of_refs hab ?_
        have e := RcAt.tuples (A := A) (e := fun j => eqD (x.getD j .non) (y.getD j .non)) p p' hu0 (fun j h1 h2 => eqAtL_of I x A.in1 y xs ys its its' l l' rv rv' (by show A.units + 1 + _ < cLine; unfold dep at hu; omega) j (by simpa using h1) (by simpa using h2))
        unfold eqD
        rw [eqDL_eq, ← l.length, ← l'.length, rv.length, rv'.length]
        simpa using e
    | lst y => obtain ⟨b, ys, rfl, q', l'⟩ := Has.lst_iff.mp h'; cases r'; obtain ⟨its', _, p', _⟩ := I.list q'; exact EqAt.tuple_list p p'.isList hu0
  | .lst x, A, d', v, v', u, u', h, h', r, r', hu => by
    have hu0 : A.units < cLine := by omega
    obtain ⟨a, xs, rfl, q, l⟩ := Has.lst_iff.mp h
    cases r
    obtain ⟨its, rv, p, _⟩ := I.list q
    cases d' with
    | non => rw [Has.non_iff] at h'; subst h'; cases r'; exact EqAt.list_none p.isList hu0
    | bl b => rw [Has.bl_iff] at h'; subst h'; cases r'; exact EqAt.list_bool _ p.isList hu0
    | int b => rw [Has.int_iff] at h'; subst h'; obtain ⟨t, rfl⟩ := r'; exact EqAt.list_int _ _ p.isList hu0
    | str b => rw [Has.str_iff] at h'; subst h'; obtain ⟨t, rfl⟩ := r'; exact EqAt.list_str _ _ p.isList hu0
    | lst y =>
      obtain ⟨b, ys, rfl, q', l'⟩ := Has.lst_iff.mp h'
      cases r'
      obtain ⟨its', rv', p', _⟩ := I.list q'
      by_cases hab : a = b
      · subst hab
        cases Has.inj I h h'
        rw [eqD_refl]
        exact EqAt.same _
      · refine EqAt.of_refs hab ?_
        unfold eqD
        rw [eqDL_eq, ← l.length, ← l'.length, rv.length, rv'.length]
        by_cases hl : its.length = its'.length
        · have e := RcAt.lists (A := A) (e := fun j => eqD (x.getD j .non) (y.getD j .non)) p.isList p'.isList (by simpa using hl) hu0 (fun j h1 h2 => eqAtL_of I x A.in1 y xs ys its its' l l' rv rv' (by show A.units + 1 + _ < cLine; unfold dep at hu; omega) j (by simpa using h1) (by simpa using h2))
          rw [← hl, Nat.min_self]
          simpa using e
        · have e := RcAt.lists_lengths (A := A) p.isList p'.isList (by simpa using hl) hu0
          have : (its.length == its'.length) = false := by simpa using hl
          rw [this, Bool.and_false]
          exact e
    | tup y => obtain ⟨b, ys, rfl, q', l'⟩ := Has.tup_iff.mp h'; cases r'; obtain ⟨its', _, p', _⟩ := I.tuple q'; exact EqAt.list_tuple p.isList p' hu0
theorem eqAtL_of (I : Inv X pins σ H s) : ∀ (ds : List D) (A : Around) (ds' : List D) (xs ys : List V) (us us' : List Value), HasL X.K H ds xs → HasL X.K H ds' ys → Vals xs us → Vals ys us' → A.units + depL ds < cLine →
    ∀ (j : Nat) (h1 : j < us.length) (h2 : j < us'.length), EqAt A s us[j] us'[j] (eqD (ds.getD j .non) (ds'.getD j .non))
  | [], A, ds', xs, ys, us, us', l, l', r, r', hu, j, h1, h2 => by
    rw [HasL.nil_iff] at l; subst l
    cases r
    simp at h1
  | d :: ds, A, ds', xs, ys, us, us', l, l', r, r', hu, j, h1, h2 => by
    obtain ⟨x, xr, rfl, hx, hr⟩ := HasL.cons_iff.mp l
    cases ds' with
    | nil =>
      rw [HasL.nil_iff] at l'; subst l'
      cases r'
      simp at h2
    | cons d' ds' =>
      obtain ⟨y, yr, rfl, hy, hyr⟩ := HasL.cons_iff.mp l'
      cases r with
      | cons r rr =>
        cases r' with
        | cons r' rr' =>
          unfold depL at hu
          cases j with
          | zero => exact eqAt_of I d A d' _ _ _ _ hx hy r r' (by have := Nat.le_max_left (dep d) (depL ds); omega)
          | succ j => exact eqAtL_of I ds A ds' _ _ _ _ hr hyr rr rr' (by have := Nat.le_max_right (dep d) (depL ds); omega) j (by simpa using h1) (by simpa using h2)
end
open SeqAt in
/-- == without the look whether both are one object -/
theorem rcAt_of (I : Inv X pins σ H s) (d : D) (A : Around) (d' : D) (v v' : V) (u u' : Value) (h : Has X.K H d v) (h' : Has X.K H d' v') (r : RelV v u) (r' : RelV v' u') (hu : A.units + dep d < cLine) : RcAt A s u u' (eqD d d') := by
  have hu0 : A.units < cLine := by omega
  cases d with
  | non =>
    rw [Has.non_iff] at h; subst h
    cases r
    cases d' with
    | non => rw [Has.non_iff] at h'; subst h'; cases r'; exact RcAt.none_none
    | bl b => rw [Has.bl_iff] at h'; subst h'; cases r'; exact RcAt.none_bool _
    | int b => rw [Has.int_iff] at h'; subst h'; obtain ⟨t, rfl⟩ := r'; exact RcAt.none_int _ _
    | str b => rw [Has.str_iff] at h'; subst h'; obtain ⟨t, rfl⟩ := r'; exact RcAt.none_str _ _
    | tup b => obtain ⟨a, xs, rfl, q, _⟩ := Has.tup_iff.mp h'; cases r'; obtain ⟨its, _, p, _⟩ := I.tuple q; exact RcAt.none_tuple p hu0
    | lst b => obtain ⟨a, xs, rfl, q, _⟩ := Has.lst_iff.mp h'; cases r'; obtain ⟨its, _, p, _⟩ := I.list q; exact RcAt.none_list p.isList hu0
  | bl x =>
    rw [Has.bl_iff] at h; subst h
    cases r
    cases d' with
    | non => rw [Has.non_iff] at h'; subst h'; cases r'; exact RcAt.bool_none _
    | bl b => rw [Has.bl_iff] at h'; subst h'; cases r'; exact RcAt.bool_bool _ _
    | int b => rw [Has.int_iff] at h'; subst h'; obtain ⟨t, rfl⟩ := r'; exact RcAt.bool_int _ _ _
    | str b => rw [Has.str_iff] at h'; subst h'; obtain ⟨t, rfl⟩ := r'; exact RcAt.bool_str _ _ _
    | tup b => obtain ⟨a, xs, rfl, q, _⟩ := Has.tup_iff.mp h'; cases r'; obtain ⟨its, _, p, _⟩ := I.tuple q; exact RcAt.bool_tuple _ p hu0
    | lst b => obtain ⟨a, xs, rfl, q, _⟩ := Has.lst_iff.mp h'; cases r'; obtain ⟨its, _, p, _⟩ := I.list q; exact RcAt.bool_list _ p.isList hu0
  | int x =>
    rw [Has.int_iff] at h; subst h
    obtain ⟨t, rfl⟩ := r
    cases d' with
    | non => rw [Has.non_iff] at h'; subst h'; cases r'; exact RcAt.int_none _ _
    | bl b => rw [Has.bl_iff] at h'; subst h'; cases r'; exact RcAt.int_bool _ _ _
    | int b => rw [Has.int_iff] at h'; subst h'; obtain ⟨t, rfl⟩ := r'; exact RcAt.int_int _ _ _ _
    | str b => rw [Has.str_iff] at h'; subst h'; obtain ⟨t, rfl⟩ := r'; exact RcAt.int_str _ _ _ _
    | tup b => obtain ⟨a, xs, rfl, q, _⟩ := Has.tup_iff.mp h'; cases r'; obtain ⟨its, _, p, _⟩ := I.tuple q; exact RcAt.int_tuple _ _ p hu0
    | lst b => obtain ⟨a, xs, rfl, q, _⟩ := Has.lst_iff.mp h'; cases r'; obtain ⟨its, _, p, _⟩ := I.list q; exact RcAt.int_list _ _ p.isList hu0
  | str x =>
    rw [Has.str_iff] at h; subst h
    obtain ⟨t, rfl⟩ := r
    cases d' with
    | non => rw [Has.non_iff] at h'; subst h'; cases r'; exact RcAt.str_none _ _
    | bl b => rw [Has.bl_iff] at h'; subst h'; cases r'; exact RcAt.str_bool _ _ _
    | int b => rw [Has.int_iff] at h'; subst h'; obtain ⟨t, rfl⟩ := r'; exact RcAt.str_int _ _ _ _
    | str b => rw [Has.str_iff] at h'; subst h'; obtain ⟨t, rfl⟩ := r'; exact RcAt.str_str _ _ _ _
    | tup b => obtain ⟨a, xs, rfl, q, _⟩ := Has.tup_iff.mp h'; cases r'; obtain ⟨its, _, p, _⟩ := I.tuple q; exact RcAt.str_tuple _ _ p hu0
    | lst b => obtain ⟨a, xs, rfl, q, _⟩ := Has.lst_iff.mp h'; cases r'; obtain ⟨its, _, p, _⟩ := I.list q; exact RcAt.str_list _ _ p.isList hu0
  | tup x =>
    obtain ⟨a, xs, rfl, q, l⟩ := Has.tup_iff.mp h
    cases r
    obtain ⟨its, rv, p, _⟩ := I.tuple q
    cases d' with
    | non => rw [Has.non_iff] at h'; subst h'; cases r'; exact RcAt.tuple_none p hu0
    | bl b => rw [Has.bl_iff] at h'; subst h'; cases r'; exact RcAt.tuple_bool _ p hu0
    | int b => rw [Has.int_iff] at h'; subst h'; obtain ⟨t, rfl⟩ := r'; exact RcAt.tuple_int _ _ p hu0
    | str b => rw [Has.str_iff] at h'; subst h'; obtain ⟨t, rfl⟩ := r'; exact RcAt.tuple_str _ _ p hu0
    | tup y =>
      obtain ⟨b, ys, rfl, q', l'⟩ := Has.tup_iff.mp h'
      cases r'
      obtain ⟨its', rv', p', _⟩ := I.tuple q'
      have e := RcAt.tuples (A := A) (e := fun j => eqD (x.getD j .non) (y.getD j .non)) p p' hu0 (fun j h1 h2 => eqAtL_of I x A.in1 y xs ys its its' l l' rv rv' (by show A.units + 1 + _ < cLine; unfold dep at hu; omega) j (by simpa using h1) (by simpa using h2))
      unfold eqD
      rw [eqDL_eq, ← l.length, ← l'.length, rv.length, rv'.length]
      simpa using e
    | lst y => obtain ⟨b, ys, rfl, q', l'⟩ := Has.lst_iff.mp h'; cases r'; obtain ⟨its', _, p', _⟩ := I.list q'; exact RcAt.tuple_list p p'.isList hu0
  | lst x =>
    obtain ⟨a, xs, rfl, q, l⟩ := Has.lst_iff.mp h
    cases r
    obtain ⟨its, rv, p, _⟩ := I.list q
    cases d' with
    | non => rw [Has.non_iff] at h'; subst h'; cases r'; exact RcAt.list_none p.isList hu0
    | bl b => rw [Has.bl_iff] at h'; subst h'; cases r'; exact RcAt.list_bool _ p.isList hu0
    | int b => rw [Has.int_iff] at h'; subst h'; obtain ⟨t, rfl⟩ := r'; exact RcAt.list_int _ _ p.isList hu0
    | str b => rw [Has.str_iff] at h'; subst h'; obtain ⟨t, rfl⟩ := r'; exact RcAt.list_str _ _ p.isList hu0
    | lst y =>
      obtain ⟨b, ys, rfl, q', l'⟩ := Has.lst_iff.mp h'
      cases r'
      obtain ⟨its', rv', p', _⟩ := I.list q'
      unfold eqD
      rw [eqDL_eq, ← l.length, ← l'.length, rv.length, rv'.length]
      by_cases hl : its.length = its'.length
      · have e := RcAt.lists (A := A) (e := fun j => eqD (x.getD j .non) (y.getD j .non)) p.isList p'.isList (by simpa using hl) hu0 (fun j h1 h2 => eqAtL_of I x A.in1 y xs ys its its' l l' rv rv' (by show A.units + 1 + _ < cLine; unfold dep at hu; omega) j (by simpa using h1) (by simpa using h2))
        rw [← hl, Nat.min_self]
        simpa using e
      · have e := RcAt.lists_lengths (A := A) p.isList p'.isList (by simpa using hl) hu0
        have : (its.length == its'.length) = false := by simpa using hl
        rw [this, Bool.and_false]
        exact e
    | tup y => obtain ⟨b, ys, rfl, q', l'⟩ := Has.tup_iff.mp h'; cases r'; obtain ⟨its', _, p', _⟩ := I.tuple q'; exact RcAt.list_tuple p.isList p' hu0
open SeqAt in
/-- != -/
theorem rcNe_of (I : Inv X pins σ H s) (d : D) (A : Around) (d' : D) (v v' : V) (u u' : Value) (h : Has X.K H d v) (h' : Has X.K H d' v') (r : RelV v u) (r' : RelV v' u') (hu : A.units + dep d < cLine) : RcNeAt A s u u' (!eqD d d') := by
  have hu0 : A.units < cLine := by omega
  cases d with
  | non =>
    rw [Has.non_iff] at h; subst h
    cases r
    cases d' with
    | non => rw [Has.non_iff] at h'; subst h'; cases r'; exact RcNeAt.none_none
    | bl b => rw [Has.bl_iff] at h'; subst h'; cases r'; exact RcNeAt.none_bool _
    | int b => rw [Has.int_iff] at h'; subst h'; obtain ⟨t, rfl⟩ := r'; exact RcNeAt.none_int _ _
    | str b => rw [Has.str_iff] at h'; subst h'; obtain ⟨t, rfl⟩ := r'; exact RcNeAt.none_str _ _
    | tup b => obtain ⟨a, xs, rfl, q, _⟩ := Has.tup_iff.mp h'; cases r'; obtain ⟨its, _, p, _⟩ := I.tuple q; exact RcNeAt.none_tuple p hu0
    | lst b => obtain ⟨a, xs, rfl, q, _⟩ := Has.lst_iff.mp h'; cases r'; obtain ⟨its, _, p, _⟩ := I.list q; exact RcNeAt.none_list p.isList hu0
  | bl x =>
    rw [Has.bl_iff] at h; subst h
    cases r
    cases d' with
    | non => rw [Has.non_iff] at h'; subst h'; cases r'; exact RcNeAt.bool_none _
    | bl b => rw [Has.bl_iff] at h'; subst h'; cases r'; exact RcNeAt.bool_bool _ _
    | int b => rw [Has.int_iff] at h'; subst h'; obtain ⟨t, rfl⟩ := r'; exact RcNeAt.bool_int _ _ _
    | str b => rw [Has.str_iff] at h'; subst h'; obtain ⟨t, rfl⟩ := r'; exact RcNeAt.bool_str _ _ _
    | tup b => obtain ⟨a, xs, rfl, q, _⟩ := Has.tup_iff.mp h'; cases r'; obtain ⟨its, _, p, _⟩ := I.tuple q; exact RcNeAt.bool_tuple _ p hu0
    | lst b => obtain ⟨a, xs, rfl, q, _⟩ := Has.lst_iff.mp h'; cases r'; obtain ⟨its, _, p, _⟩ := I.list q; exact RcNeAt.bool_list _ p.isList hu0
  | int x =>
    rw [Has.int_iff] at h; subst h
    obtain ⟨t, rfl⟩ := r
    cases d' with
    | non => rw [Has.non_iff] at h'; subst h'; cases r'; exact RcNeAt.int_none _ _
    | bl b => rw [Has.bl_iff] at h'; subst h'; cases r'; exact RcNeAt.int_bool _ _ _
    | int b => rw [Has.int_iff] at h'; subst h'; obtain ⟨t, rfl⟩ := r'; exact RcNeAt.int_int _ _ _ _
    | str b => rw [Has.str_iff] at h'; subst h'; obtain ⟨t, rfl⟩ := r'; exact RcNeAt.int_str _ _ _ _
    | tup b => obtain ⟨a, xs, rfl, q, _⟩ := Has.tup_iff.mp h'; cases r'; obtain ⟨its, _, p, _⟩ := I.tuple q; exact RcNeAt.int_tuple _ _ p hu0
    | lst b => obtain ⟨a, xs, rfl, q, _⟩ := Has.lst_iff.mp h'; cases r'; obtain ⟨its, _, p, _⟩ := I.list q; exact RcNeAt.int_list _ _ p.isList hu0
  | str x =>
    rw [Has.str_iff] at h; subst h
    obtain ⟨t, rfl⟩ := r
    cases d' with
    | non => rw [Has.non_iff] at h'; subst h'; cases r'; exact RcNeAt.str_none _ _
    | bl b => rw [Has.bl_iff] at h'; subst h'; cases r'; exact RcNeAt.str_bool _ _ _
    | int b => rw [Has.int_iff] at h'; subst h'; obtain ⟨t, rfl⟩ := r'; exact RcNeAt.str_int _ _ _ _
    | str b => rw [Has.str_iff] at h'; subst h'; obtain ⟨t, rfl⟩ := r'; exact RcNeAt.str_str _ _ _ _
    | tup b => obtain ⟨a, xs, rfl, q, _⟩ := Has.tup_iff.mp h'; cases r'; obtain ⟨its, _, p, _⟩ := I.tuple q; exact RcNeAt.str_tuple _ _ p hu0
    | lst b => obtain ⟨a, xs, rfl, q, _⟩ := Has.lst_iff.mp h'; cases r'; obtain ⟨its, _, p, _⟩ := I.list q; exact RcNeAt.str_list _ _ p.isList hu0
  | tup x =>
    obtain ⟨a, xs, rfl, q, l⟩ := Has.tup_iff.mp h
    cases r
    obtain ⟨its, rv, p, _⟩ := I.tuple q
    cases d' with
    | non => rw [Has.non_iff] at h'; subst h'; cases r'; exact RcNeAt.tuple_none p hu0
    | bl b => rw [Has.bl_iff] at h'; subst h'; cases r'; exact RcNeAt.tuple_bool _ p hu0
    | int b => rw [Has.int_iff] at h'; subst h'; obtain ⟨t, rfl⟩ := r'; exact RcNeAt.tuple_int _ _ p hu0
    | str b => rw [Has.str_iff] at h'; subst h'; obtain ⟨t, rfl⟩ := r'; exact RcNeAt.tuple_str _ _ p hu0
    | tup y =>
      obtain ⟨b, ys, rfl, q', l'⟩ := Has.tup_iff.mp h'
      cases r'
      obtain ⟨its', rv', p', _⟩ := I.tuple q'
      have e := RcNeAt.tuples (A := A) (e := fun j => eqD (x.getD j .non) (y.getD j .non)) p p' hu0 (fun j h1 h2 => eqAtL_of I x A.in1 y xs ys its its' l l' rv rv' (by show A.units + 1 + _ < cLine; unfold dep at hu; omega) j (by simpa using h1) (by simpa using h2))
      unfold eqD
      rw [eqDL_eq, ← l.length, ← l'.length, rv.length, rv'.length]
      simpa using e
    | lst y => obtain ⟨b, ys, rfl, q', l'⟩ := Has.lst_iff.mp h'; cases r'; obtain ⟨its', _, p', _⟩ := I.list q'; exact RcNeAt.tuple_list p p'.isList hu0
  | lst x =>
    obtain ⟨a, xs, rfl, q, l⟩ := Has.lst_iff.mp h
    cases r
    obtain ⟨its, rv, p, _⟩ := I.list q
    cases d' with
    | non => rw [Has.non_iff] at h'; subst h'; cases r'; exact RcNeAt.list_none p.isList hu0
    | bl b => rw [Has.bl_iff] at h'; subst h'; cases r'; exact RcNeAt.list_bool _ p.isList hu0
    | int b => rw [Has.int_iff] at h'; subst h'; obtain ⟨t, rfl⟩ := r'; exact RcNeAt.list_int _ _ p.isList hu0
    | str b => rw [Has.str_iff] at h'; subst h'; obtain ⟨t, rfl⟩ := r'; exact RcNeAt.list_str _ _ p.isList hu0
    | lst y =>
      obtain ⟨b, ys, rfl, q', l'⟩ := Has.lst_iff.mp h'
      cases r'
      obtain ⟨its', rv', p', _⟩ := I.list q'
      unfold eqD
      rw [eqDL_eq, ← l.length, ← l'.length, rv.length, rv'.length]
      by_cases hl : its.length = its'.length
      · have e := RcNeAt.lists (A := A) (e := fun j => eqD (x.getD j .non) (y.getD j .non)) p.isList p'.isList (by simpa using hl) hu0 (fun j h1 h2 => eqAtL_of I x A.in1 y xs ys its its' l l' rv rv' (by show A.units + 1 + _ < cLine; unfold dep at hu; omega) j (by simpa using h1) (by simpa using h2))
        rw [← hl, Nat.min_self]
        simpa using e
      · have e := RcNeAt.lists_lengths (A := A) p.isList p'.isList (by simpa using hl) hu0
        have : (its.length == its'.length) = false := by simpa using hl
        rw [this, Bool.and_false]
        exact e
    | tup y => obtain ⟨b, ys, rfl, q', l'⟩ := Has.tup_iff.mp h'; cases r'; obtain ⟨its', _, p', _⟩ := I.tuple q'; exact RcNeAt.list_tuple p.isList p' hu0
end
end FL
set_option Elab.async false
set_option linter.all false
set_option maxRecDepth 100000
set_option maxHeartbeats 4000000
namespace FL
open PySem PySem.Spec PyProof.Rows L2
theorem HasR.full {K : PySem.W.Frag} {H₀ Hf₀ H Hf : Hp} {σ : St} {ρ : Rho} {d : D} {v : V} (h : HasR K Hf σ ρ d v) (R : Rep K H₀ Hf₀ σ ρ H Hf) : Has K H d v := by
  rcases h with h | ⟨i, ds, rfl, e1, e2⟩
  · exact h.mono R.sf
  · obtain ⟨a, p1, ⟨xs, p2, p3⟩, _⟩ := R.ow i _ e1 rfl
    rw [e2] at p1; cases p1
    exact Has.lst_iff.mpr ⟨a, xs, rfl, SqL.of p2, p3.mono R.sf⟩
section
variable {X : Cx} {e a b c : Expr} {es : List Expr} {f g h : FE} {fa ga : FA} {ft gt : FT} {pos : Pos} {t t' : TE} {kk : Nat}
def rEqD (K : PySem.W.Frag) : R2 := fun x y H Q => ∃ d d', Has K H d x ∧ Has K H d' y ∧ dep d ≤ 100 ∧ Q (.bl (eqD d d')) H
def rNeD (K : PySem.W.Frag) : R2 := fun x y H Q => ∃ d d', Has K H d x ∧ Has K H d' y ∧ dep d ≤ 100 ∧ Q (.bl (!eqD d d')) H
theorem op_eqD (hr : Room kk X.A) : OpR X (compareOp .Eq) (rEqD X.K) := by
  intro pins s σ H x y v u Q I rx ry h
  obtain ⟨d, d', h1, h2, h3, q⟩ := h
  exact rcAt_of I d X.A d' x y v u h1 h2 rx ry (by have := hr.un; omega) X.prog X.w X.xe _ ⟨.bl _, H, I, rfl, q⟩
theorem op_neD (hr : Room kk X.A) : OpR X (compareOp .NotEq) (rNeD X.K) := by
  intro pins s σ H x y v u Q I rx ry h
  obtain ⟨d, d', h1, h2, h3, q⟩ := h
  exact rcNe_of I d X.A d' x y v u h1 h2 rx ry (by have := hr.un; omega) X.prog X.w X.xe _ ⟨.bl _, H, I, rfl, q⟩
def eqF : D → D → Option D := fun x y => if dep x ≤ 100 then some (.bl (eqD x y)) else none
def neF : D → D → Option D := fun x y => if dep x ≤ 100 then some (.bl (!eqD x y)) else none
theorem opD_eq : OpD X (rEqD X.K) eqF := by
  intro σ ρ H₀ Hf₀ H Hf x y dx dy d Q R hx hy hφ k
  unfold eqF at hφ
  split at hφ
  · cases hφ
    exact ⟨dx, dy, hx.full R, hy.full R, by assumption, k _ _ _ R sameR sameR (Has.bl_iff.mpr rfl)⟩
  · cases hφ
theorem opD_ne : OpD X (rNeD X.K) neF := by
  intro σ ρ H₀ Hf₀ H Hf x y dx dy d Q R hx hy hφ k
  unfold neF at hφ
  split at hφ
  · cases hφ
    exact ⟨dx, dy, hx.full R, hy.full R, by assumption, k _ _ _ R sameR sameR (Has.bl_iff.mpr rfl)⟩
  · cases hφ
theorem d_eq (hr : Room kk X.A) (ha : DR X a f) (hb : DR X b g) : DE X (.Compare a [.Eq] [b] pos) (bind2 eqF f g) := d_cmp (op_eqD hr) opD_eq ha hb (nomark _)
theorem dt_eq (hr : Room kk X.A) (ha : DR X a f) (hb : DR X b g) : DT X (.Compare a [.Eq] [b] pos) (blF (bind2 eqF f g)) := pt_of_cmp (op_eqD hr) opD_eq ha hb (nomark _)
theorem dt_ne (hr : Room kk X.A) (ha : DR X a f) (hb : DR X b g) : DT X (.Compare a [.NotEq] [b] pos) (blF (bind2 neF f g)) := pt_of_cmp (op_neD hr) opD_ne ha hb (nomark _)
def FnR (X : Cx) (r : List V → Hp → VK → Prop) (φ : List D → Option D) : Prop :=
  ∀ (σ : St) (ρ : Rho) (H₀ Hf₀ H Hf : Hp) (xs : List V) (ds : List D) (d : D) (Q : VK), Rep X.K H₀ Hf₀ σ ρ H Hf → HasRL X.K Hf σ ρ ds xs → φ ds = some d →
    (∀ v H' Hf', Rep X.K H₀ Hf₀ σ ρ H' Hf' → Same H H' → Same Hf Hf' → Has X.K Hf' d v → Q v H') → r xs H Q
def appF (φ : List D → Option D) (fa : FA) : FE := fun ρ => (fa ρ).bind φ
theorem bindA_some {α : Type} {f : FA} {k : List D → Option α} {ρ : Rho} {r : α} (h : (f ρ).bind k = some r) : ∃ b, f ρ = some b ∧ k b = some r := by
  cases hf : f ρ with
  | none => rw [hf] at h; cases h
  | some x => rw [hf] at h; exact ⟨x, rfl, h⟩
theorem tCB_of {r : List V → Hp → VK → Prop} {φ : List D → Option D} (hφ : FnR X r φ) (σ : St) (H : Hp) (Q : VK) (hh : tF X.K (appF φ fa) σ H Q) : tCB r (tAR X.K fa) σ H Q := by
  obtain ⟨H₀, Hf₀, ρ, Hf, d, R, q, k⟩ := hh
  obtain ⟨ds, e1, e2⟩ := bindA_some q
  exact ⟨H₀, Hf₀, ρ, Hf, ds, R, e1, fun vs H1 Hf1 R1 s1 t1 h1 => hφ σ ρ H₀ Hf₀ H1 Hf1 vs ds d Q R1 h1 e2 fun v H2 Hf2 R2 s2 t2 h2 => k _ _ _ R2 (s1.trans s2) (t1.trans t2) h2⟩
theorem d_callB {id : String} {x : Str} {p : Pos} {r : List V → Hp → VK → Prop} {φ : List D → Option D} (hc : CallR X (.builtin id) r) (hφ : FnR X r φ) (hg : Gl X x) (hm : X.mg x = none) (hv : bootBuiltins x = some (.builtin id)) (ha : DAR X (e :: es) fa)
    (hn : x ≠ "__name__" := by decide) (hdb : (x == ("__debug__" : Str)) = false := by decide)
    (he : starEach (e :: es) X.env = (false, eval e X.env) :: starEach es X.env := by rfl) (hpl : (backTo pos (starEach es X.env)).any (·.1) = false := by rfl) : DE X (.Call (.Name x p) (e :: es) [] pos) (appF φ fa) :=
  pe_imp (pe_callB hc hg hm hv ha hn hdb he hpl) (tCB_of hφ)
theorem d_callTy {T : String} {x : Str} {p : Pos} {r : List V → Hp → VK → Prop} {φ : List D → Option D} (hc : CallR X (.type T) r) (hφ : FnR X r φ) (hg : Gl X x) (hm : X.mg x = none) (hv : bootBuiltins x = some (.type T)) (ha : DAR X (e :: es) fa)
    (hn : x ≠ "__name__" := by decide) (hdb : (x == ("__debug__" : Str)) = false := by decide)
    (he : starEach (e :: es) X.env = (false, eval e X.env) :: starEach es X.env := by rfl) (hpl : (backTo pos (starEach es X.env)).any (·.1) = false := by rfl) : DE X (.Call (.Name x p) (e :: es) [] pos) (appF φ fa) :=
  pe_imp (pe_callTy hc hg hm hv ha hn hdb he hpl) (tCB_of hφ)
theorem HasRL.one {K : PySem.W.Frag} {Hf : Hp} {σ : St} {ρ : Rho} {d : D} {xs : List V} (h : HasRL K Hf σ ρ [d] xs) : ∃ v, xs = [v] ∧ HasR K Hf σ ρ d v := by
  cases h with
  | cons h1 h2 => cases h2; exact ⟨_, rfl, h1⟩
theorem HasRL.two {K : PySem.W.Frag} {Hf : Hp} {σ : St} {ρ : Rho} {d d' : D} {xs : List V} (h : HasRL K Hf σ ρ [d, d'] xs) : ∃ v v', xs = [v, v'] ∧ HasR K Hf σ ρ d v ∧ HasR K Hf σ ρ d' v' := by
  cases h with
  | cons h1 h2 =>
    cases h2 with
    | cons h2 h3 => cases h3; exact ⟨_, _, rfl, h1, h2⟩
def lenD : List D → Option D
  | [.lst ds] => some (.int ds.length)
  | [.tup ds] => some (.int ds.length)
  | [.str x] => if x.length ≤ sizeLine then some (.int x.length) else none
  | _ => none
theorem call_lenG : CallR X (.builtin "len") (fun xs H Q => (∃ p ys, xs = [.ref p] ∧ (SqL X.K H p ys ∨ SqT X.K H p ys) ∧ Q (.int ys.length) H) ∨ (∃ z, xs = [.str z] ∧ z.length ≤ sizeLine ∧ Q (.int z.length) H)) := CallR.or call_len_seq call_len_str
theorem fnR_len : FnR X (fun xs H Q => (∃ p ys, xs = [.ref p] ∧ (SqL X.K H p ys ∨ SqT X.K H p ys) ∧ Q (.int ys.length) H) ∨ (∃ z, xs = [.str z] ∧ z.length ≤ sizeLine ∧ Q (.int z.length) H)) lenD := by
  intro σ ρ H₀ Hf₀ H Hf xs ds d Q R hx hφ k
  unfold lenD at hφ
  split at hφ
  · cases hφ
    obtain ⟨v, rfl, hv⟩ := hx.one
    obtain ⟨a, ys, rfl, q, l⟩ := hv.lst R
    exact .inl ⟨a, ys, rfl, .inl q, k _ _ _ R sameR sameR (by rw [← l.length]; exact Has.int_iff.mpr rfl)⟩
  · cases hφ
    obtain ⟨v, rfl, hv⟩ := hx.one
    obtain ⟨a, ys, rfl, q, l⟩ := hv.tup R
    exact .inl ⟨a, ys, rfl, .inr q, k _ _ _ R sameR sameR (by rw [← l.length]; exact Has.int_iff.mpr rfl)⟩
  · split at hφ
    · cases hφ
      obtain ⟨v, rfl, hv⟩ := hx.one
      exact .inr ⟨_, by rw [hv.str], by assumption, k _ _ _ R sameR sameR (Has.int_iff.mpr rfl)⟩
    · cases hφ
  · cases hφ
def absD : List D → Option D
  | [.int i] => some (.int (if i < 0 then -i else i))
  | _ => none
def maxD : List D → Option D
  | [.int i, .int j] => some (.int (if j > i then j else i))
  | _ => none
def minD : List D → Option D
  | [.int i, .int j] => some (.int (if j < i then j else i))
  | _ => none
theorem fnR_max : FnR X (fun xs H Q => ∃ i j, xs = [.int i, .int j] ∧ Q (.int (if j > i then j else i)) H) maxD := by
  intro σ ρ H₀ Hf₀ H Hf xs ds d Q R hx hφ k
  unfold maxD at hφ
  split at hφ
  · cases hφ
    obtain ⟨v, v', rfl, hv, hv'⟩ := hx.two
    exact ⟨_, _, by rw [hv.int, hv'.int], k _ _ _ R sameR sameR (Has.int_iff.mpr rfl)⟩
  · cases hφ
theorem fnR_min : FnR X (fun xs H Q => ∃ i j, xs = [.int i, .int j] ∧ Q (.int (if j < i then j else i)) H) minD := by
  intro σ ρ H₀ Hf₀ H Hf xs ds d Q R hx hφ k
  unfold minD at hφ
  split at hφ
  · cases hφ
    obtain ⟨v, v', rfl, hv, hv'⟩ := hx.two
    exact ⟨_, _, by rw [hv.int, hv'.int], k _ _ _ R sameR sameR (Has.int_iff.mpr rfl)⟩
  · cases hφ
def intD : List D → Option D
  | [.int i] => some (.int i)
  | [.bl b] => some (.int (if b then 1 else 0))
  | _ => none
theorem fnR_int : FnR X (fun xs H Q => (∃ i, xs = [.int i] ∧ Q (.int i) H) ∨ ∃ k, xs = [.bl k] ∧ Q (.int (if k then 1 else 0)) H) intD := by
  intro σ ρ H₀ Hf₀ H Hf xs ds d Q R hx hφ k
  unfold intD at hφ
  split at hφ
  · cases hφ
    obtain ⟨v, rfl, hv⟩ := hx.one
    exact .inl ⟨_, by rw [hv.int], k _ _ _ R sameR sameR (Has.int_iff.mpr rfl)⟩
  · cases hφ
    obtain ⟨v, rfl, hv⟩ := hx.one
    exact .inr ⟨_, by rw [hv.bl], k _ _ _ R sameR sameR (Has.int_iff.mpr rfl)⟩
  · cases hφ
def seqF (F G : FS) : FS := fun ρ => (F ρ).bind fun o => match o with
  | .nx ρ' => G ρ'
  | o => some o
def nxF : FS := fun ρ => some (.nx ρ)
variable {st : Stmt} {sts rest : List Stmt} {F G : FS}
theorem bindO_some {α : Type} {F : FS} {k : Out → Option α} {ρ : Rho} {r : α} (h : (F ρ).bind k = some r) : ∃ b, F ρ = some b ∧ k b = some r := by
  cases hf : F ρ with
  | none => rw [hf] at h; cases h
  | some x => rw [hf] at h; exact ⟨x, rfl, h⟩
theorem dss_nil : DSs X [] nxF := pss_imp pss_nil fun D' σ H ⟨H₀, Hf₀, ρ, Hf, o, R, q, k⟩ => by cases q; exact k _ _ _ R sameR
theorem dss_cons (h1 : DS X st F) (h2 : DSs X rest G) : DSs X (st :: rest) (seqF F G) := pss_imp (pss_cons h1 h2) fun D' σ H ⟨H₀, Hf₀, ρ, Hf, o, R, q, k⟩ => by
  obtain ⟨o1, e1, e2⟩ := bindO_some q
  refine ⟨H₀, Hf₀, ρ, Hf, o1, R, e1, ?_⟩
  cases o1 with
  | nx ρ' =>
    intro σ' H' Hf' R' s'
    refine ⟨H₀, Hf₀, ρ', Hf', o, R', e2, ?_⟩
    cases o with
    | nx _ => exact fun σ2 H2 Hf2 R2 s2 => k _ _ _ R2 (s'.trans s2)
    | bk _ => exact fun σ2 H2 Hf2 R2 s2 => k _ _ _ R2 (s'.trans s2)
    | ct _ => exact fun σ2 H2 Hf2 R2 s2 => k _ _ _ R2 (s'.trans s2)
    | rt _ => exact fun v σ2 ρ2 H2 Hf2 R2 s2 h2 => k _ _ _ _ _ R2 (s'.trans s2) h2
  | bk _ => cases e2; exact k
  | ct _ => cases e2; exact k
  | rt _ => cases e2; exact k
theorem dss_one (h1 : DS X st F) : DSs X [st] F := pss_one h1
def retF (f : FE) : FS := fun ρ => (f ρ).bind fun d => some (.rt d)
theorem ds_ret (he : DE X e f) : DS X (.Return (some e) pos) (retF f) := ps_imp (ps_ret he) fun D' σ H ⟨H₀, Hf₀, ρ, Hf, o, R, q, k⟩ => by
  obtain ⟨d, e1, e2⟩ := bindV_some q
  cases e2
  exact ⟨H₀, Hf₀, ρ, Hf, d, R, e1, fun v H1 Hf1 R1 s1 t1 h1 => k v σ ρ H1 Hf1 R1 t1 h1⟩
def ifS (c : FT) (F G : FS) : FS := fun ρ => (c ρ).bind fun b => if b = true then F ρ else G ρ
theorem EndO.mono {K : PySem.W.Frag} {H₀ Hf₀ Hf Hf1 : Hp} {D' : Ends} {o : Out} (k : EndO K H₀ Hf₀ Hf D' o) (t : Same Hf Hf1) : EndO K H₀ Hf₀ Hf1 D' o := by
  cases o with
  | nx _ => exact fun σ2 H2 Hf2 R2 s2 => k _ _ _ R2 (t.trans s2)
  | bk _ => exact fun σ2 H2 Hf2 R2 s2 => k _ _ _ R2 (t.trans s2)
  | ct _ => exact fun σ2 H2 Hf2 R2 s2 => k _ _ _ R2 (t.trans s2)
  | rt _ => exact fun v σ2 ρ2 H2 Hf2 R2 s2 h2 => k _ _ _ _ _ R2 (t.trans s2) h2
theorem ds_if {a b : List Stmt} (hc : DT X c ft) (ha : DSs X a F) (hb : DSs X b G) : DS X (.If c a b pos) (ifS ft F G) := ps_imp (ps_if hc ha hb) fun D' σ H ⟨H₀, Hf₀, ρ, Hf, o, R, q, k⟩ => by
  obtain ⟨x, e1, e2⟩ := bindT_some q
  refine ⟨H₀, Hf₀, ρ, Hf, x, R, e1, fun H1 Hf1 R1 s1 t1 => ?_⟩
  cases x with
  | true => exact iteT ⟨H₀, Hf₀, ρ, Hf1, o, R1, e2, k.mono t1⟩
  | false => exact iteF ⟨H₀, Hf₀, ρ, Hf1, o, R1, e2, k.mono t1⟩
def asgF (i : Nat) (f : FE) : FS := fun ρ => (f ρ).bind fun d => some (.nx (ρ.set i (.fr d)))
theorem ds_asg {x : Str} {pos' : Pos} (i : Nat) (hN : X.N.Nodup) (he : DE X e f) (hi : X.N[i]? = some x := by rfl) (hx : Loc X.env.scope x := by first | exact Or.inl rfl | exact Or.inr rfl) (hs : swapsWith e (some (.Name x pos')) pos.line X.env = pure false := by rfl)
    (hf : X.fn x = true ∨ X.env.scope.names.lookup x = some .local := by first | exact .inl rfl | exact .inr rfl | assumption) : DS X (.Assign [.Name x pos'] e pos) (asgF i f) :=
  ps_imp (ps_set hN hi hx he hs hf) fun D' σ H ⟨H₀, Hf₀, ρ, Hf, o, R, q, k⟩ => by
    obtain ⟨d, e1, e2⟩ := bindV_some q
    cases e2
    exact ⟨H₀, Hf₀, ρ, Hf, d, R, e1, fun v H1 Hf1 R1 s1 t1 h1 => k _ _ _ (R1.set i h1) t1⟩
def asgN (i : Nat) (f : FA) : FS := fun ρ => (f ρ).bind fun ds => some (.nx (ρ.set i (.ol ds)))
theorem ds_asgN {x : Str} {pos' : Pos} (i : Nat) (hN : X.N.Nodup) (he : DN X e fa) (hi : X.N[i]? = some x := by rfl) (hx : Loc X.env.scope x := by first | exact Or.inl rfl | exact Or.inr rfl) (hs : swapsWith e (some (.Name x pos')) pos.line X.env = pure false := by rfl)
    (hf : X.fn x = true ∨ X.env.scope.names.lookup x = some .local := by first | exact .inl rfl | exact .inr rfl | assumption) : DS X (.Assign [.Name x pos'] e pos) (asgN i fa) :=
  ps_imp (ps_set hN hi hx he hs hf) fun D' σ H ⟨H₀, Hf₀, ρ, Hf, o, R, q, k⟩ => by
    obtain ⟨d, e1, e2⟩ := bindA_some q
    cases e2
    refine ⟨H₀, Hf₀, ρ, Hf, d, R, e1, fun a xs H1 Hf1 R1 s1 t1 h1 ha hn hh => k _ _ _ (R1.setOwn i rfl ⟨xs, ha, h1⟩ hn (R.s0.free hh) ?_) t1⟩
    intro j sl z o z'
    obtain ⟨b, p1, p2, _⟩ := R.ow j sl z o
    rw [p1] at z'; cases z'
    obtain ⟨ob, q'⟩ := p2.there o
    rw [q'] at hh; cases hh
def frz (i : Nat) (ρ : Rho) : Option Rho := match ρ[i]? with
  | some (.ol ds) => some (ρ.set i (.fr (.lst ds)))
  | some (.fr _) => some ρ
  | _ => none
def frzF (i : Nat) (F : FS) : FS := fun ρ => (frz i ρ).bind F
theorem dss_frz (i : Nat) (h : DSs X sts F) : DSs X sts (frzF i F) := pss_imp h fun D' σ H ⟨H₀, Hf₀, ρ, Hf, o, R, q, k⟩ => by
  unfold frzF frz at q
  split at q
  · rename_i ds e
    obtain ⟨Hf', sm, R'⟩ := R.freeze e
    exact ⟨H₀, Hf₀, _, Hf', o, R', q, k.mono sm⟩
  · exact ⟨H₀, Hf₀, _, Hf, o, R, q, k⟩
  · cases q
abbrev FG := D → Rho → Option Rho
def tG (K : PySem.W.Frag) (γ : FG) : TG := fun v σ H Q => ∃ H₀ Hf₀ ρ Hf d ρ', Rep K H₀ Hf₀ σ ρ H Hf ∧ Has K Hf d v ∧ γ d ρ = some ρ' ∧ ∀ σ' H' Hf', Rep K H₀ Hf₀ σ' ρ' H' Hf' → Same Hf Hf' → Q σ' H'
abbrev FGs := List D → Rho → Option Rho
def tGs (K : PySem.W.Frag) (γ : FGs) : TGs := fun vs σ H Q => ∃ H₀ Hf₀ ρ Hf ds ρ', Rep K H₀ Hf₀ σ ρ H Hf ∧ HasL K Hf ds vs ∧ γ ds ρ = some ρ' ∧ ∀ σ' H' Hf', Rep K H₀ Hf₀ σ' ρ' H' Hf' → Same Hf Hf' → Q σ' H'
def DG (X : Cx) (tg : Expr) (γ : FG) : Prop := PG X tg (tG X.K γ)
def DGs (X : Cx) (ts : List Expr) (γ : FGs) : Prop := PGs X ts (tGs X.K γ)
theorem pg_imp {tg : Expr} {t t' : TG} (h : PG X tg t) (i : ∀ v σ H Q, t' v σ H Q → t v σ H Q) : PG X tg t' := fun pins s σ H v u Q I r hw => h pins s σ H v u Q I r (i _ _ _ _ hw)
theorem pgs_imp {ts : List Expr} {t t' : TGs} (h : PGs X ts t) (i : ∀ v σ H Q, t' v σ H Q → t v σ H Q) : PGs X ts t' := fun pins s σ H v u Q I r hw => h pins s σ H v u Q I r (i _ _ _ _ hw)
def nameG (i : Nat) : FG := fun d ρ => some (ρ.set i (.fr d))
theorem dg_name {x : Str} (i : Nat) (hN : X.N.Nodup) (hi : X.N[i]? = some x := by rfl) (hx : Loc X.env.scope x := by first | exact Or.inl rfl | exact Or.inr rfl) (hf : X.fn x = true ∨ X.env.scope.names.lookup x = some .local := by first | exact .inl rfl | exact .inr rfl | assumption) : DG X (.Name x pos) (nameG i) :=
  pg_imp (pg_name hN hi hx hf) fun v σ H Q ⟨H₀, Hf₀, ρ, Hf, d, ρ', R, h, q, k⟩ => by
    cases q
    exact k _ _ _ (R.set i h) sameR
def nilG : FGs := fun ds ρ => match ds with
  | [] => some ρ
  | _ => none
def consG (γ : FG) (δ : FGs) : FGs := fun ds ρ => match ds with
  | d :: r => (γ d ρ).bind fun ρ' => δ r ρ'
  | _ => none
theorem dgs_nil : DGs X [] nilG := pgs_imp pgs_nil fun v σ H Q ⟨H₀, Hf₀, ρ, Hf, ds, ρ', R, h, q, k⟩ => by
  cases ds with
  | nil => cases q; exact ⟨HasL.nil_iff.mp h, k _ _ _ R sameR⟩
  | cons _ _ => cases q
theorem dgs_cons {γ : FG} {δ : FGs} (h1 : DG X e γ) (h2 : DGs X es δ) (hs : (assignEach (e :: es) X.env).map (·.2) = assign e X.env :: (assignEach es X.env).map (·.2) := by rfl) : DGs X (e :: es) (consG γ δ) :=
  pgs_imp (pgs_cons h1 h2 hs) fun v σ H Q ⟨H₀, Hf₀, ρ, Hf, ds, ρ', R, h, q, k⟩ => by
    cases ds with
    | nil => cases q
    | cons d r =>
      obtain ⟨x, xr, rfl, hx, hr⟩ := HasL.cons_iff.mp h
      have q : (γ d ρ).bind (fun ρ' => δ r ρ') = some ρ' := q
      cases e1 : γ d ρ with
      | none => rw [e1] at q; cases q
      | some ρ1 =>
        rw [e1] at q
        exact ⟨x, xr, rfl, H₀, Hf₀, ρ, Hf, d, ρ1, R, hx, e1, fun σ1 H1 Hf1 R1 s1 => ⟨H₀, Hf₀, ρ1, Hf1, r, ρ', R1, hr.mono s1, q, fun σ2 H2 Hf2 R2 s2 => k _ _ _ R2 (s1.trans s2)⟩⟩
def tupG (n : Nat) (δ : FGs) : FG := fun d ρ => match d with
  | .tup ds => if ds.length = n then δ ds ρ else none
  | _ => none
theorem dg_tup {kx n : Nat} {δ : FGs} (hc : X.calm = true) (h : DGs X es δ) (hn : (assignEach es X.env).length = n := by rfl) (hst : (assignEach es X.env).findIdx? (·.1) = none := by rfl) : DG X (.Tuple es kx pos) (tupG n δ) :=
  pg_imp (pg_tup hc h hn hst) fun v σ H Q ⟨H₀, Hf₀, ρ, Hf, d, ρ', R, h, q, k⟩ => by
    unfold tupG at q
    split at q
    · split at q
      · rename_i ds hl
        obtain ⟨a, xs, rfl, qa, la⟩ := Has.tup_iff.mp h
        exact ⟨a, xs, rfl, sameT R.sf qa, by rw [la.length]; exact hl, H₀, Hf₀, ρ, Hf, ds, ρ', R, la, q, k⟩
      · cases q
    · cases q
end
end FL
set_option Elab.async false
set_option linter.all false
set_option maxRecDepth 100000
set_option maxHeartbeats 4000000
namespace FL
open PySem PySem.Spec PyProof.Rows L2
def loopF (γ : FG) (B : FS) : List D → Rho → Option Out
  | [], ρ => some (.nx ρ)
  | d :: ds, ρ => (γ d ρ).bind fun ρ1 => (B ρ1).bind fun o => match o with
    | .nx ρ2 => loopF γ B ds ρ2
    | .ct ρ2 => loopF γ B ds ρ2
    | .bk ρ2 => some (.nx ρ2)
    | .rt d => some (.rt d)
def forF (fi : FA) (γ : FG) (B : FS) : FS := fun ρ => (fi ρ).bind fun ds => loopF γ B ds ρ
structure Grows (H Hf H' Hf' : Hp) : Prop where
  h : Same H H'
  f : Same Hf Hf'
  fh : Same Hf' H'
  new : ∀ b o, Hf' b = some o → Hf b = some o ∨ H b = none ∨ Tp o
theorem Rep.grows {K : PySem.W.Frag} {H₀ Hf₀ : Hp} {σ : St} {ρ : Rho} {H Hf H' Hf' : Hp} (R : Rep K H₀ Hf₀ σ ρ H Hf) (g : Grows H Hf H' Hf') : Rep K H₀ Hf₀ σ ρ H' Hf' := R.grow g.h g.f g.fh g.new
theorem Grows.refl {H Hf : Hp} (h : Same Hf H) : Grows H Hf H Hf := ⟨sameR, sameR, h, fun _ _ e => .inl e⟩
def Walks (K : PySem.W.Frag) (Hf : Hp) (J : It) (ds : List D) : Prop :=
  ∀ (H' Hf' : Hp), Same Hf Hf' → Same Hf' H' → ∀ i : Nat, (∀ d, ds[i]? = some d → J.go i H' ∧ ∀ x H2, J.yld i H' x H2 → ∃ Hf2, Grows H' Hf' H2 Hf2 ∧ Has K Hf2 d x) ∧ (ds.length ≤ i → J.stop i H')
def tI (K : PySem.W.Frag) (fi : FA) : TI := fun σ H R' => ∃ H₀ Hf₀ ρ Hf ds, Rep K H₀ Hf₀ σ ρ H Hf ∧ fi ρ = some ds ∧ ∀ J H' Hf', Rep K H₀ Hf₀ σ ρ H' Hf' → Same H H' → Same Hf Hf' → Walks K Hf' J ds → R' J H'
def DI (X : Cx) (tg iter : Expr) (fi : FA) : Prop := PI X tg iter (tI X.K fi)
section
variable {X : Cx} {e a b c tg iter : Expr} {es : List Expr} {f g h : FE} {fa ga fi : FA} {ft gt : FT} {pos : Pos} {t t' : TE} {kk : Nat} {st : Stmt} {sts rest body : List Stmt} {F G B : FS} {γ : FG}
theorem pi_imp {t t' : TI} (h : PI X tg iter t) (i : ∀ σ H R, t' σ H R → t σ H R) : PI X tg iter t' := fun pins s σ H R I hw => h pins s σ H R I (i _ _ _ hw)
theorem ds_for (hp : PassesOwn (model X.prog X.w) X.A X.env X.xe) (hc : X.calm = true) (hi : DI X tg iter fi) (hg : DG X tg γ) (hb : DSs X body B)
    (hs : ∀ x, foldedSetIterable iter X.env x = pure x := by intro _; rfl) : DS X (.For tg iter body [] pos) (forF fi γ B) :=
  ps_imp (ps_for hp hc hi hg hb hs) fun D' σ H ⟨H₀, Hf₀, ρ, Hf, o, R, q, k⟩ => by
    obtain ⟨ds, e1, e2⟩ := bindA_some q
    refine ⟨H₀, Hf₀, ρ, Hf, ds, R, e1, fun J H1 Hf1 R1 _ t1 wk => ?_⟩
    have k1 := k.mono t1
    refine ⟨fun i m σ H => m = ds.length - i ∧ i ≤ ds.length ∧ ∃ ρ Hf', Rep X.K H₀ Hf₀ σ ρ H Hf' ∧ Same Hf1 Hf' ∧ loopF γ B (ds.drop i) ρ = some o, ⟨ds.length, by simp, Nat.zero_le _, ρ, Hf1, R1, sameR, by simpa using e2⟩, ?_⟩
    rintro i m σ2 H2 ⟨rfl, hi, ρ2, Hf2, R2, t2, el⟩
    obtain ⟨w1, w2⟩ := wk H2 Hf2 t2 R2.sf i
    by_cases hil : i < ds.length
    · right
      have hd : ds[i]? = some ds[i] := List.getElem?_eq_getElem hil
      obtain ⟨go, yld⟩ := w1 _ hd
      refine ⟨go, ?_⟩
      rw [List.drop_eq_getElem_cons hil] at el
      unfold loopF at el
      cases eg : γ ds[i] ρ2 with
      | none => rw [eg] at el; cases el
      | some ρ3 =>
        rw [eg] at el
        simp only [Option.bind_some] at el
        obtain ⟨o1, eb, eo⟩ := bindO_some el
        refine ⟨fun σ' H' => ∃ ρ' Hf', Rep X.K H₀ Hf₀ σ' ρ' H' Hf' ∧ Same Hf1 Hf' ∧ loopF γ B (ds.drop (i + 1)) ρ' = some o, ?_, ?_⟩
        · rintro σ' H' ⟨ρ', Hf', R', t', e'⟩
          exact ⟨ds.length - (i + 1), by omega, rfl, hil, ρ', Hf', R', t', e'⟩
        · intro x H3 hy
          obtain ⟨Hf3, gr, hx⟩ := yld x H3 hy
          refine ⟨H₀, Hf₀, ρ2, Hf3, ds[i], ρ3, R2.grows gr, hx, eg, fun σ4 H4 Hf4 R4 t4 => ?_⟩
          refine ⟨H₀, Hf₀, ρ3, Hf4, o1, R4, eb, ?_⟩
          have tt : Same Hf1 Hf4 := (t2.trans gr.f).trans t4
          cases o1 with
          | nx ρ5 => exact fun σ5 H5 Hf5 R5 t5 => ⟨ρ5, Hf5, R5, tt.trans t5, eo⟩
          | ct ρ5 => exact fun σ5 H5 Hf5 R5 t5 => ⟨ρ5, Hf5, R5, tt.trans t5, eo⟩
          | bk ρ5 => cases eo; exact fun σ5 H5 Hf5 R5 t5 => k1 _ _ _ R5 (tt.trans t5)
          | rt d => cases eo; exact fun v σ5 ρ5 H5 Hf5 R5 t5 h5 => k1 _ _ _ _ _ R5 (tt.trans t5) h5
    · left
      have : ds.drop i = [] := List.drop_eq_nil_of_le (by omega)
      rw [this] at el
      cases el
      exact ⟨w2 (by omega), k1 _ _ _ R2 t2⟩
def rangeD (lo hi : Int) : List D := (List.range (hi - lo).toNat).map fun (k : Nat) => D.int (lo + (k : Int))
noncomputable def rangeA : List D → Option (List D)
  | [.int j] => @ite _ (-(2 ^ 62) ≤ j ∧ j < 2 ^ 62) (Classical.propDecidable _) (some (rangeD 0 j)) none
  | _ => none
noncomputable def rangeB : List D → Option (List D)
  | [.int i, .int j] => @ite _ (-(2 ^ 62) ≤ i ∧ i < 2 ^ 62 ∧ -(2 ^ 62) ≤ j ∧ j < 2 ^ 62) (Classical.propDecidable _) (some (rangeD i j)) none
  | _ => none
noncomputable def rng1 (fa : FA) : FA := fun ρ => (fa ρ).bind rangeA
noncomputable def rng2 (fa : FA) : FA := fun ρ => (fa ρ).bind rangeB
theorem walks_range {K : PySem.W.Frag} {Hf : Hp} {lo : Int} {n : Nat} : Walks K Hf (Itr lo n) ((List.range n).map fun (k : Nat) => D.int (lo + (k : Int))) := fun H2 Hf2 t2 sf2 i => by
  refine ⟨fun d hd => ?_, fun hle => ?_⟩
  · rw [List.getElem?_map] at hd
    cases e : (List.range n)[i]? with
    | none => rw [e] at hd; cases hd
    | some j =>
      rw [e] at hd
      cases hd
      obtain ⟨h1, h2⟩ := List.getElem?_eq_some_iff.mp e
      simp at h1 h2
      subst h2
      refine ⟨h1, fun x H3 hy => ?_⟩
      obtain ⟨rfl, rfl⟩ := hy
      exact ⟨Hf2, Grows.refl sf2, Has.int_iff.mpr rfl⟩
  · show n ≤ i
    simpa using hle
theorem di_range1 {p pos : Pos} (hg : Gl X "range") (hm : X.mg "range" = none) (ha : DAR X [a] fa) (hs : starEach [a] X.env = [(false, eval a X.env)] := by rfl) : DI X tg (.Call (.Name "range" p) [a] [] pos) (rng1 fa) :=
  pi_imp (pi_range1 hg hm ha hs) fun σ H R' ⟨H₀, Hf₀, ρ, Hf, ds, R, q, k⟩ => by
    obtain ⟨l, e1, e2⟩ := bindA_some q
    unfold rangeA at e2
    split at e2
    · split at e2
      · cases e2
        rename_i j hj
        refine ⟨H₀, Hf₀, ρ, Hf, _, R, e1, fun vs H1 Hf1 R1 s1 t1 h1 => ?_⟩
        obtain ⟨v, rfl, hv⟩ := h1.one
        refine ⟨j, by rw [hv.int], hj.1, hj.2, k _ _ _ R1 s1 t1 ?_⟩
        have := walks_range (K := X.K) (Hf := Hf1) (lo := 0) (n := j.toNat)
        unfold rangeD
        rw [Int.sub_zero]
        exact this
      · cases e2
    · cases e2
theorem di_range2 {p pos : Pos} (hg : Gl X "range") (hm : X.mg "range" = none) (ha : DAR X [a, b] fa) (hs : starEach [a, b] X.env = [(false, eval a X.env), (false, eval b X.env)] := by rfl) (hs2 : starEach [b] X.env = [(false, eval b X.env)] := by rfl) :
    DI X tg (.Call (.Name "range" p) [a, b] [] pos) (rng2 fa) :=
  pi_imp (pi_range2 hg hm ha hs hs2) fun σ H R' ⟨H₀, Hf₀, ρ, Hf, ds, R, q, k⟩ => by
    obtain ⟨l, e1, e2⟩ := bindA_some q
    unfold rangeB at e2
    split at e2
    · split at e2
      · cases e2
        rename_i i j hj
        refine ⟨H₀, Hf₀, ρ, Hf, _, R, e1, fun vs H1 Hf1 R1 s1 t1 h1 => ?_⟩
        obtain ⟨v, v', rfl, hv, hv'⟩ := h1.two
        exact ⟨i, j, by rw [hv.int, hv'.int], hj, k _ _ _ R1 s1 t1 walks_range⟩
      · cases e2
    · cases e2
def whileF (c : FT) (B : FS) : Nat → Rho → Option Out
  | 0, _ => none
  | n + 1, ρ => (c ρ).bind fun b => if b = true then (B ρ).bind fun o => match o with
      | .nx ρ2 => whileF c B n ρ2
      | .ct ρ2 => whileF c B n ρ2
      | .bk ρ2 => some (.nx ρ2)
      | .rt d => some (.rt d)
    else some (.nx ρ)
theorem ds_while (n : Nat) (hp : PassesOwn (model X.prog X.w) X.A X.env X.xe) (hc : DT X c ft) (hb : DSs X body B) : DS X (.While c body [] pos) (whileF ft B n) :=
  ps_imp (ps_while hp hc hb) fun D' σ H ⟨H₀, Hf₀, ρ, Hf, o, R, q, k⟩ => by
    refine ⟨fun m σ H => ∃ ρ Hf', Rep X.K H₀ Hf₀ σ ρ H Hf' ∧ Same Hf Hf' ∧ whileF ft B m ρ = some o, ⟨n, ρ, Hf, R, sameR, q⟩, ?_⟩
    rintro m σ2 H2 ⟨ρ2, Hf2, R2, t2, e2⟩
    cases m with
    | zero => cases e2
    | succ m =>
      unfold whileF at e2
      obtain ⟨b, e3, e4⟩ := bindT_some e2
      refine ⟨H₀, Hf₀, ρ2, Hf2, b, R2, e3, fun H3 Hf3 R3 s3 t3 => ?_⟩
      have tt := t2.trans t3
      cases b with
      | false => cases e4; exact iteF (k _ _ _ R3 tt)
      | true =>
        obtain ⟨o1, e5, e6⟩ := bindO_some e4
        refine iteT ⟨fun σ' H' => ∃ ρ' Hf', Rep X.K H₀ Hf₀ σ' ρ' H' Hf' ∧ Same Hf Hf' ∧ whileF ft B m ρ' = some o, fun σ' H' h => ⟨m, Nat.lt_succ_self _, h⟩, H₀, Hf₀, ρ2, Hf3, o1, R3, e5, ?_⟩
        cases o1 with
        | nx ρ5 => exact fun σ5 H5 Hf5 R5 t5 => ⟨ρ5, Hf5, R5, tt.trans t5, e6⟩
        | ct ρ5 => exact fun σ5 H5 Hf5 R5 t5 => ⟨ρ5, Hf5, R5, tt.trans t5, e6⟩
        | bk ρ5 => cases e6; exact fun σ5 H5 Hf5 R5 t5 => k _ _ _ R5 (tt.trans t5)
        | rt d => cases e6; exact fun v σ5 ρ5 H5 Hf5 R5 t5 h5 => k _ _ _ _ _ R5 (tt.trans t5) h5
def appendF (i : Nat) (f : FE) : FS := fun ρ => (f ρ).bind fun d => match ρ[i]? with
  | some (.ol ds) => if ds.length < sizeLine then some (.nx (ρ.set i (.ol (ds ++ [d])))) else none
  | _ => none
theorem ds_append {x : Str} {p1 apos cpos pos : Pos} (i : Nat) (he : DE X e f) (hN : X.N[i]? = some x := by rfl) (hv : Vis X.env.scope x := by first | exact Or.inl rfl | exact Or.inr (Or.inl rfl) | exact Or.inr (Or.inr rfl))
    (hd : (x == ("__debug__" : Str)) = false := by decide) (hcd : (x == ("__classdict__" : Str)) = false := by decide)
    (hbase : attributeBase (.Name x p1) "append" X.env (eval (.Name x p1) X.env) = eval (.Name x p1) X.env := by rfl)
    (hfew : ((backTo cpos (starEach [e] X.env)).all (fun x => !x.1) && (backToKw cpos (keywordEach [] X.env)).all (fun x => x.1.isSome)
      && decide (([e] : List Expr).length + ([] : List Keyword).length + (if ([] : List Keyword).isEmpty then 0 else 1) < 30)) = true := by rfl)
    (hline : (apos.endLine == cpos.line) = true := by rfl) (hst : starEach [e] X.env = (false, eval e X.env) :: starEach [] X.env := by rfl) (hplain : (backTo cpos (starEach [] X.env)).any (·.1) = false := by rfl)
    (hs : swapsWith (.Call (.Attribute (.Name x p1) "append" apos) [e] [] cpos) none pos.line X.env = pure false := by rfl) :
    DS X (.Expr (.Call (.Attribute (.Name x p1) "append" apos) [e] [] cpos) pos) (appendF i f) :=
  ps_imp (ps_expr (pe_bm PySem.F.plainAttrs_list PySem.F.slot_list_append PySem.F.type_list_append mt_append (pe_var hN hv hd hcd) (pa_cons he pa_nil hst) hbase hfew hline hst hplain) hs) fun D' σ H ⟨H₀, Hf₀, ρ, Hf, o, R, q, k⟩ => by
    obtain ⟨d, e1, e2⟩ := bindV_some q
    split at e2
    · split at e2
      · cases e2
        rename_i ds el hz
        obtain ⟨a, p1, ⟨xs, p2, p3⟩, p4, p5⟩ := R.ow i _ el rfl
        refine ⟨_, p1, .inl ⟨rfl, xs, SqL.of p2⟩, H₀, Hf₀, ρ, Hf, d, R, e1, fun v H1 Hf1 R1 s1 t1 h1 => ?_⟩
        obtain ⟨a', r1, ⟨ys, r2, r3⟩, r4, r5⟩ := R1.ow i _ el rfl
        rw [p1] at r1; cases r1
        refine ⟨a, ys, v, rfl, rfl, r2, by rw [r3.length]; exact hz, ?_⟩
        exact k _ _ _ (R1.updOwn el rfl p1 rfl ⟨_, upd_same, r3.append (.cons h1 .nil)⟩) t1
      · cases e2
    · cases e2
end
def spF (K : PySem.W.Frag) (n : Nat) (g : List D → Option D) : Sp := fun vs H Q _ => ∃ Hf ds d, Same Hf H ∧ HasL K Hf ds vs ∧ ds.length = n ∧ g ds = some d ∧ ∀ v H' Hf', Grows H Hf H' Hf' → Has K Hf' d v → Q v H'
def startR (n : Nat) (ds : List D) : Rho := ds.map Slot.fr ++ List.replicate (n - ds.length) Slot.no
def outD (o : Option Out) : Option D := match o with
  | some (.rt d) => some d
  | some (.nx _) => some .non
  | _ => none
def denF (m : Nat) (F : FS) : List D → Option D := fun ds => outD (F (startR m ds))
theorem rep_start {K : PySem.W.Frag} {N : List Str} {H Hf : Hp} {ds : List D} {vs : List V} (sf : Same Hf H) (h : HasL K Hf ds vs) : Rep K H Hf (L2.start N vs) (startR N.length ds) H Hf where
  s0 := sameR
  sf := sf
  nf := fun b o e => .inl e
  f0 := sameR
  len := by unfold startR L2.start; simp [h.length]
  fr := fun i d e => by
    unfold startR at e
    unfold L2.start
    by_cases hi : i < ds.length
    · rw [List.getElem?_append_left (by simpa using hi)] at e
      rw [List.getElem?_map] at e
      cases e1 : ds[i]? with
      | none => rw [e1] at e; cases e
      | some d' =>
        rw [e1] at e; cases e
        obtain ⟨v, e2, e3⟩ := h.get e1
        refine ⟨v, ?_, e3⟩
        have hl := h.length
        rw [List.getElem?_append_left (by simp; omega), List.getElem?_map, e2]
        rfl
    · rw [List.getElem?_append_right (by simpa using hi), List.getElem?_replicate] at e
      split at e <;> cases e
  ow := fun i sl e o => by
    unfold startR at e
    by_cases hi : i < ds.length
    · rw [List.getElem?_append_left (by simpa using hi), List.getElem?_map] at e
      cases e1 : ds[i]? with
      | none => rw [e1] at e; cases e
      | some d' => rw [e1] at e; cases e; cases o
    · rw [List.getElem?_append_right (by simpa using hi), List.getElem?_replicate] at e
      split at e
      · cases e; cases o
      · cases e
  inj := fun i j sl sl' a e o e' o' _ _ => by
    unfold startR at e
    by_cases hi : i < ds.length
    · rw [List.getElem?_append_left (by simpa using hi), List.getElem?_map] at e
      cases e1 : ds[i]? with
      | none => rw [e1] at e; cases e
      | some d' => rw [e1] at e; cases e; cases o
    · rw [List.getElem?_append_right (by simpa using hi), List.getElem?_replicate] at e
      split at e
      · cases e; cases o
      · cases e
section
variable {P : Program} {w : World} {K : PySem.W.Frag} {mg : Str → Option Value} {base : Heap}
theorem fn_den {x qual : Str} {st : Stmt} {f : Addr} {fd : FuncData} {N ps : List Str} {k m n : Nat} {F : FS} (hm : N.length = m) (hn : ps.length = n) (Fn : Fun K x qual st f fd) (S : FnScope N ps (defScope st))
    (body : ∀ (cdv : Value) (A : Around) (outer : List Env) (s : Shared) (H : Hp) (E : XK), Room k (A.deeper (envOfC qual (defScope st) s.heap.objs.size f cdv)) →
      DSs (cxOf CX0 P w K mg base N qual (defScope st) f cdv A outer s H E).nox (defBody st) F) :
    FnOk P w K mg base CX0 (k + 1) f fd ps (spF K n (denF m F)) := by
  subst hm hn
  refine Fn.ok S (fun vs H Q E h => ?_) (fun cdv A outer s H vs Q E hr h => ?_)
  · obtain ⟨Hf, ds, d, _, h1, h2, _⟩ := h
    rw [h1.length]; exact h2
  · obtain ⟨Hf, ds, d, sf, h1, h2, h3, q⟩ := h
    refine ⟨_, body cdv A outer s H E hr, ?_⟩
    unfold denF outD at h3
    have R := rep_start (N := N) sf h1
    have fin : ∀ (v : V) (σ' : St) (ρ' : Rho) (H' Hf' : Hp), Rep K H Hf σ' ρ' H' Hf' → Has K Hf' d v → Q v H' := fun v σ' ρ' H' Hf' R' hv => q v H' Hf' ⟨R'.s0, R'.f0, R'.sf, R'.nf⟩ hv
    split at h3
    · cases h3
      rename_i d e
      exact ⟨H, Hf, _, Hf, _, R, e, fun v σ' ρ' H' Hf' R' _ hv => fin v σ' ρ' H' Hf' R' hv⟩
    · cases h3
      rename_i ρ' e
      exact ⟨H, Hf, _, Hf, _, R, e, fun σ' H' Hf' R' _ => fin _ σ' ρ' H' Hf' R' (Has.non_iff.mpr rfl)⟩
    · cases h3
end
section
variable {X : Cx} {e : Expr} {es : List Expr} {fa : FA} {pos : Pos}
theorem d_call {CX : CXT} {k : Nat} {f : Addr} {fd : FuncData} {ps : List Str} {g : List D → Option D} {E : XK} {x : Str} {p : Pos} {n : Nat} (Fn : FnOk X.prog X.w X.K X.mg X.base CX k f fd ps (spF X.K n g)) (hr : Room k X.A) (hg : Gl X x) (hm : X.mg x = some (.ref f))
    (hk : PySem.W.keepIn X.K (.ref f) = true) (hb : Binds X.K fd ps []) (hx : Passes CX X E) (ha : DA X (e :: es) fa) (hn : ∀ ρ ds, fa ρ = some ds → ds.length = n)
    (hdb : (x == ("__debug__" : Str)) = false := by decide) (he : starEach (e :: es) X.env = (false, eval e X.env) :: starEach es X.env := by rfl) (hpl : (backTo pos (starEach es X.env)).any (·.1) = false := by rfl) :
    DE X (.Call (.Name x p) (e :: es) [] pos) (appF g fa) :=
  pe_imp (pe_call Fn hr hg hm hk hb .nil hx ha hdb he hpl) fun σ H Q ⟨H₀, Hf₀, ρ, Hf, d, R, q, k⟩ => by
    obtain ⟨ds, e1, e2⟩ := bindA_some q
    refine ⟨H₀, Hf₀, ρ, Hf, ds, R, e1, fun vs H1 Hf1 R1 s1 t1 h1 => ?_⟩
    show spF X.K n g (vs ++ []) H1 Q E
    rw [List.append_nil]
    exact ⟨Hf1, ds, d, R1.sf, h1, hn ρ ds e1, e2, fun v H2 Hf2 gr hv => k _ _ _ (R1.grows gr) (s1.trans gr.h) (t1.trans gr.f) hv⟩
end
theorem lenA0 : ∀ (ρ : Rho) (ds : List D), nilA ρ = some ds → ds.length = 0 := fun ρ ds h => by cases h; rfl
theorem lenAS {f : FE} {g : FA} {n : Nat} (h : ∀ (ρ : Rho) (ds : List D), g ρ = some ds → ds.length = n) : ∀ (ρ : Rho) (ds : List D), consA f g ρ = some ds → ds.length = n + 1 := fun ρ ds q => by
  obtain ⟨x, xs, _, e2, rfl⟩ := consA_some q
  simp [h ρ xs e2]
theorem law_sp {K : PySem.W.Frag} {g : List D → Option D} {H : Hp} {a : Addr} {ns : List Int} (hq : SqL K H a (ns.map V.int)) (hg : g [.lst (ns.map D.int)] = some (.bl true)) : spF K 1 g [.ref a] H (fun v _ => v = .bl true) fun _ _ _ => False :=
  ⟨H, [.lst (ns.map D.int)], .bl true, sameR, .cons (Has.lst_iff.mpr ⟨a, _, rfl, hq, HasL.ints ns⟩) .nil, rfl, hg, fun v H' Hf' _ hv => Has.bl_iff.mp hv⟩
end FL
set_option Elab.async false
set_option linter.all false
set_option maxRecDepth 100000
set_option maxHeartbeats 4000000
namespace FL
open PySem PySem.Spec PyProof.Rows L2
section
variable {X : Cx} {pins : List (Addr × Obj)} {σ : St} {H : Hp} {s : Shared} {A : Around} {E : Value → Shared → Prop} {Q : Value → Shared → Prop} {c : Value} {b : Bool}
end
section
variable {X : Cx} {e a b c : Expr} {es : List Expr} {f g h : FE} {fa ga : FA} {pos : Pos}
theorem d_gint {x : Str} {z : Int} {pos : Pos} (hg : Gl X x) (hm : ∃ t, X.mg x = some (.int z t)) (hd : (x == ("__debug__" : Str)) = false := by decide) : DE X (.Name x pos) (cF (.int z)) := by
  obtain ⟨t, hm⟩ := hm
  exact d_glob hg hm rfl ⟨t, rfl⟩ hd
end
structure HasFn (P : Program) (w : World) (K : PySem.W.Frag) (mg : Str → Option Value) (base : Heap) (k : Nat) (x : Str) (n : Nat) (g : List D → Option D) : Prop where
  ex : ∃ (f : Addr) (fd : FuncData) (ps : List Str), FnOk P w K mg base CX0 k f fd ps (spF K n g) ∧ mg x = some (.ref f) ∧ PySem.W.keepIn K (.ref f) = true ∧ Binds K fd ps []
theorem d_callH {X : Cx} {e : Expr} {es : List Expr} {fa : FA} {pos : Pos} {k : Nat} {g : List D → Option D} {x : Str} {p : Pos} {n : Nat} (Fn : HasFn X.prog X.w X.K X.mg X.base k x n g) (hr : Room k X.A) (hg : Gl X x) (ha : DA X (e :: es) fa) (hn : ∀ ρ ds, fa ρ = some ds → ds.length = n)
    (hdb : (x == ("__debug__" : Str)) = false := by decide) (he : starEach (e :: es) X.env = (false, eval e X.env) :: starEach es X.env := by rfl) (hpl : (backTo pos (starEach es X.env)).any (·.1) = false := by rfl) :
    DE X (.Call (.Name x p) (e :: es) [] pos) (appF g fa) := by
  obtain ⟨f, fd, ps, h1, h2, h3, h4⟩ := Fn.ex
  exact d_call h1 hr hg h2 h3 h4 pass0 ha hn hdb he hpl
end FL
set_option Elab.async false
set_option linter.all false
set_option maxRecDepth 100000
set_option maxHeartbeats 4000000
namespace FL
open PySem PySem.Spec PyProof.Rows L2
theorem lt_big {n k : Nat} (h : n < 2 ^ k) (hk : k ≤ 8000) : n < big := Nat.lt_of_lt_of_le h (Nat.pow_le_pow_right (by decide) hk)
theorem mulOk_big {i j : Int} (h1 : i.natAbs < big) (h2 : j.natAbs < big) : MulB i j := .inr (.inr ⟨h1, h2⟩)
theorem mulOk_l {i j : Int} (h1 : -(2 ^ 64) < i) (h2 : i < 2 ^ 64) : MulB i j := .inl (by omega)
theorem mulOk_r {i j : Int} (h1 : -(2 ^ 64) < j) (h2 : j < 2 ^ 64) : MulB i j := .inr (.inl (by omega))
theorem mulD_ok {i j : Int} (h : MulB i j) : mulD (.int i) (.int j) = some (.int (i * j)) := by
  show (if MulB i j then _ else _) = _
  rw [if_pos h]
theorem modD_ok {i j : Int} (h : 0 < j) : modD (.int i) (.int j) = some (.int (i % j)) := by
  show (if 0 < j then _ else _) = _
  rw [if_pos h]
theorem fdivD_ok {i j : Int} (h : 0 < j) (h2 : j < 2 ^ 64) : fdivD (.int i) (.int j) = some (.int (i / j)) := by
  show (if DivB j then _ else _) = _
  rw [if_pos ⟨h, h2⟩]
theorem powD_ok {i j : Int} (h : PowB i j) : powD (.int i) (.int j) = some (.int (i ^ j.toNat)) := by
  show (if PowB i j then _ else _) = _
  rw [if_pos h]
theorem eqF_int {i j : Int} : eqF (.int i) (.int j) = some (.bl (decide (i = j))) := by unfold eqF; simp [dep, eqD]; rfl
theorem neF_int {i j : Int} : neF (.int i) (.int j) = some (.bl (!decide (i = j))) := by unfold neF; simp [dep, eqD]; rfl
theorem rangeD_get {lo hi : Int} {i : Nat} {d : D} (h : (rangeD lo hi)[i]? = some d) : d = .int (lo + i) ∧ (i : Int) < hi - lo := by
  unfold rangeD at h
  rw [List.getElem?_map] at h
  cases e : (List.range (hi - lo).toNat)[i]? with
  | none => rw [e] at h; cases h
  | some j =>
    rw [e] at h
    cases h
    obtain ⟨h1, h2⟩ := List.getElem?_eq_some_iff.mp e
    simp at h1 h2
    subst h2
    exact ⟨rfl, by omega⟩
theorem rangeD_length (lo hi : Int) : (rangeD lo hi).length = (hi - lo).toNat := by simp [rangeD]
end FL
set_option Elab.async false
set_option linter.all false
set_option maxRecDepth 100000
set_option maxHeartbeats 4000000
namespace FL
open PySem PySem.Spec PyProof.Rows L2
def closeGo (env : Env) : List (Str × NameKind) → List (Str × Addr) → Option (List (Str × Addr))
  | [], cs => some cs
  | (n, k) :: r, cs => if k == .free then match env.cells.lookup n with
      | some c => closeGo env r ((n, c) :: cs)
      | none => none
    else closeGo env r cs
def closeBody (env : Env) : (Str × NameKind) → List (Str × Addr) → Sem (ForInStep (List (Str × Addr))) := fun x c => match x with
  | (name, kind) => if (kind == NameKind.free) = true then do let a ← cellOf env name; pure (ForInStep.yield ((name, a) :: c)) else pure (ForInStep.yield c)
theorem closeBody_free {env : Env} {n : Str} {k : NameKind} {c : Addr} {cs : List (Str × Addr)} (hk : (k == NameKind.free) = true) (hc : env.cells.lookup n = some c) : closeBody env (n, k) cs = pure (.yield ((n, c) :: cs)) := by
  unfold closeBody cellOf
  simp only [hk, if_true, hc]
  rfl
theorem closeBody_no {env : Env} {n : Str} {k : NameKind} {cs : List (Str × Addr)} (hk : (k == NameKind.free) = false) : closeBody env (n, k) cs = pure (.yield cs) := by
  unfold closeBody
  simp only [hk, Bool.false_eq_true, if_false]
theorem closeGo_eq {env : Env} : ∀ (l : List (Str × NameKind)) (cs cl : List (Str × Addr)), closeGo env l cs = some cl → (forIn l cs (closeBody env) : Sem (List (Str × Addr))) = pure cl
  | [], cs, cl, h => by cases h; rfl
  | (n, k) :: r, cs, cl, h => by
    rw [List.forIn_cons]
    unfold closeGo at h
    cases hk : k == NameKind.free with
    | true =>
      rw [hk] at h
      cases hc : env.cells.lookup n with
      | none => rw [hc] at h; cases h
      | some c =>
        rw [hc] at h
        rw [closeBody_free hk hc]
        exact closeGo_eq r _ cl h
    | false =>
      rw [hk] at h
      rw [closeBody_no hk]
      exact closeGo_eq r _ cl h
theorem closureFor_go {scope : Scope} {env : Env} {cl : List (Str × Addr)} (h : closeGo env scope.names [] = some cl) : closureFor scope env = pure cl := by
  have e := closeGo_eq (env := env) scope.names [] cl h
  unfold closureFor
  simp only [bind_pure]
  exact e
theorem closeGo_ex {env : Env} : ∀ (l : List (Str × NameKind)) (cs : List (Str × Addr)), (∀ n, (n, NameKind.free) ∈ l → ∃ c, env.cells.lookup n = some c) → (∀ x c, cs.lookup x = some c → env.cells.lookup x = some c) →
    ∃ cl, closeGo env l cs = some cl ∧ (∀ x c, cl.lookup x = some c → env.cells.lookup x = some c) ∧ (∀ x c, cs.lookup x = some c → ∃ c', cl.lookup x = some c') ∧ ∀ n, (n, NameKind.free) ∈ l → ∃ c, cl.lookup n = some c
  | [], cs, _, h2 => ⟨cs, rfl, h2, fun x c e => ⟨c, e⟩, fun n hn => by cases hn⟩
  | (n, k) :: r, cs, h1, h2 => by
    cases hk : k == NameKind.free with
    | true =>
      have hkf : k = .free := by simpa using hk
      subst hkf
      obtain ⟨c, hc⟩ := h1 n List.mem_cons_self
      obtain ⟨cl, e1, e2, e3, e4⟩ := closeGo_ex r ((n, c) :: cs) (fun m hm => h1 m (List.mem_cons_of_mem _ hm)) (fun x d e => by
        rw [List.lookup_cons] at e
        cases hx : x == n with
        | true => rw [hx] at e; cases e; have : x = n := by simpa using hx
                  rw [this]; exact hc
        | false => rw [hx] at e; exact h2 x d e)
      refine ⟨cl, by unfold closeGo; rw [hk, hc]; exact e1, e2, fun x d e => ?_, fun m hm => ?_⟩
      · cases hx : x == n with
        | true => exact e3 x c (by rw [List.lookup_cons, hx])
        | false => exact e3 x d (by rw [List.lookup_cons, hx]; exact e)
      · rcases List.mem_cons.mp hm with q | q
        · cases q; exact e3 n c (by rw [List.lookup_cons]; simp)
        · exact e4 m q
    | false =>
      obtain ⟨cl, e1, e2, e3, e4⟩ := closeGo_ex r cs (fun m hm => h1 m (List.mem_cons_of_mem _ hm)) h2
      refine ⟨cl, by unfold closeGo; rw [hk]; exact e1, e2, e3, fun m hm => ?_⟩
      rcases List.mem_cons.mp hm with q | q
      · cases q; simp at hk
      · exact e4 m q
structure CompScope (osc : Scope) (scope : Scope) (own frees : List Str) : Prop where
  kind : scope.kind = .function
  nocell : ∀ y ∈ scope.names, y.2 ≠ .cell
  loc : ∀ y ∈ scope.names, y.2 = .local → scope.names.lookup y.1 = some .local
  free : ∀ y ∈ scope.names, y.2 = .free → osc.names.lookup y.1 = some .cell ∨ osc.names.lookup y.1 = some .free
  capt : ∀ x ∈ frees, (osc.names.lookup x = some .cell ∨ osc.names.lookup x = some .free) ∧ scope.names.lookup x = some .free
theorem lookup_mem {α : Type} : ∀ {l : List (Str × α)} {x : Str} {k : α}, l.lookup x = some k → (x, k) ∈ l
  | [], _, _, h => by simp at h
  | (n, k) :: r, x, k', h => by
    rw [List.lookup_cons] at h
    cases hx : x == n with
    | true => rw [hx] at h; cases h; have : x = n := by simpa using hx
              subst this; exact List.mem_cons_self
    | false => rw [hx] at h; exact List.mem_cons_of_mem _ (lookup_mem h)
theorem relabel_cf {env : Env} {x : Str} : ∀ {l : List (Str × NameKind)}, (∀ y ∈ l, y.2 ≠ .cell) →
    ((l.map fun (n, k) => if (k == NameKind.free && env.scope.kind == .function && env.kindOf n == some .cell) then (n, NameKind.cell) else (n, k)).lookup x = some .cell ∨
     (l.map fun (n, k) => if (k == NameKind.free && env.scope.kind == .function && env.kindOf n == some .cell) then (n, NameKind.cell) else (n, k)).lookup x = some .free) → (x, NameKind.free) ∈ l
  | [], _, h => by simp at h
  | (n, k) :: r, hc, h => by
    have ih := @relabel_cf env x r (fun y hy => hc y (List.mem_cons_of_mem _ hy))
    have hk : k ≠ .cell := hc (n, k) List.mem_cons_self
    rw [List.map_cons] at h
    by_cases hq : (k == NameKind.free && env.scope.kind == .function && env.kindOf n == some .cell) = true
    · simp only [hq, if_true, List.lookup_cons] at h
      cases hx : x == n with
      | true =>
        have e1 : x = n := by simpa using hx
        have e2 : k = .free := by simp at hq; exact hq.1.1
        subst e1 e2; exact List.mem_cons_self
      | false => rw [hx] at h; exact List.mem_cons_of_mem _ (ih h)
    · simp only [hq, Bool.false_eq_true, if_false, List.lookup_cons] at h
      cases hx : x == n with
      | true =>
        rw [hx] at h
        have e1 : x = n := by simpa using hx
        subst e1
        rcases h with h | h
        · cases h; exact absurd rfl hk
        · cases h; exact List.mem_cons_self
      | false => rw [hx] at h; exact List.mem_cons_of_mem _ (ih h)
theorem relabel_free {env : Env} {x : Str} : ∀ {l : List (Str × NameKind)}, l.lookup x = some .free →
    ((l.map fun (n, k) => if (k == NameKind.free && env.scope.kind == .function && env.kindOf n == some .cell) then (n, NameKind.cell) else (n, k)).lookup x = some .cell ∨
     (l.map fun (n, k) => if (k == NameKind.free && env.scope.kind == .function && env.kindOf n == some .cell) then (n, NameKind.cell) else (n, k)).lookup x = some .free)
  | [], h => by simp at h
  | (n, k) :: r, h => by
    have ih := @relabel_free env x r
    rw [List.map_cons]
    rw [List.lookup_cons] at h
    by_cases hq : (k == NameKind.free && env.scope.kind == .function && env.kindOf n == some .cell) = true
    · simp only [hq, if_true, List.lookup_cons]
      cases hx : x == n with
      | true => exact .inl rfl
      | false => rw [hx] at h; exact ih h
    · simp only [hq, Bool.false_eq_true, if_false, List.lookup_cons]
      cases hx : x == n with
      | true => rw [hx] at h; exact .inr h
      | false => rw [hx] at h; exact ih h
theorem compLoop_any {prog : Program} {w : World} {A : Around} {R : Result → Shared → Prop} {s : Shared} {elt target iter : Expr} {ifs : List Expr} {scope : Scope} {pos : Pos} {it acc : Value} {env : Env} (I : Nat → Shared → Prop)
    (turn : ∀ n s, I n s → wpAny (model prog w) A (pyNext it) (fun r s₁ => match r with
      | none => R (.ok .next) s₁
      | some v => wpAny (model prog w) A (letOwnedTupleGo target it v) (fun _ s₁' => wpAny (model prog w) A (assign target env v) (fun _ s₂ =>
          wpAny (model prog w) A (forIn ifs true fun c r => if r = true then do let ok ← isTrue c env (eval c env); pure (ForInStep.yield ok) else pure (ForInStep.yield r)) (fun ok s₃ =>
            if ok = true then wpAny (model prog w) A (eval elt env) (fun x s₄ =>
              wpAny (model prog w) A (call (.builtin "list.append") [acc, x]) (fun _ s₅ => ∃ m, m < n ∧ I m s₅) (fun _ _ => False) s₄) (fun _ _ => False) s₃
            else ∃ m, m < n ∧ I m s₃) (fun _ _ => False) s₂) (fun _ _ => False) s₁') (fun _ _ => False) s₁) (fun _ _ => False) s)
    (n : Nat) (h : I n s) :
    codeAny (model prog w) A (.compLoop (.ListComp elt [⟨target, iter, ifs, 0⟩] scope pos) 0 it acc env) R s := by
  refine codeAny_loop rfl I (fun n s hI => ?_) n h
  show wpAny _ A ((compTurn (.ListComp elt [⟨target, iter, ifs, 0⟩] scope pos) 0 it acc env).onRaise (fun x => do noteFrame x env; theTreesLotGoes x)) _ _ s
  refine wpAny_noted ?_
  rw [compTurn_list]
  refine wpAny_bind (wpAny_standAt (wpAny_bind (wpAny_mono (turn n s hI) (fun r s₁ h₁ => ?_) fun _ _ h' => h'.elim)))
  cases r with
  | none => exact wpAny_pure h₁
  | some v =>
    refine wpAny_bind (wpAny_mono h₁ (fun _ s₁' h₁' => ?_) fun _ _ h' => h'.elim)
    refine wpAny_bind (wpAny_mono h₁' (fun _ s₂ h₂ => wpAny_bind (wpAny_mono h₂ (fun ok s₃ h₃ => ?_) fun _ _ h' => h'.elim)) fun _ _ h' => h'.elim)
    cases ok with
    | false => exact wpAny_pure ⟨rfl, h₃⟩
    | true =>
      exact wpAny_bind (wpAny_bind (wpAny_mono h₃ (fun x s₄ h₄ => wpAny_bind (wpAny_mono h₄ (fun _ s₅ h₅ => wpAny_pure (wpAny_pure ⟨rfl, h₅⟩)) fun _ _ h' => h'.elim)) fun _ _ h' => h'.elim))
def cxC (X : Cx) (scope : Scope) (cl : List (Str × Addr)) (C : Addr) (N : List Str) (s : Shared) (H : Hp) (fp : List Addr) : Cx :=
  { X with N := N, s₀ := s, H₀ := H, env := compEnvC scope cl C X.env, outer := X.stack, stack := X.stack, ex := fp, fn := fun _ => false, pn := [], xe := fun _ _ => False }
end FL
set_option Elab.async false
set_option linter.all false
set_option maxRecDepth 100000
set_option maxHeartbeats 4000000
namespace FL
open PySem PySem.Spec PyProof.Rows L2
def capS (ρ : Rho) (j : Nat) : Slot := match ρ[j]? with
  | some (.fr d) => .fr d
  | _ => .no
def compGo (γ : FG) (ft : FT) (f : FE) : List D → Rho → Option (List D)
  | [], _ => some []
  | d :: ds, ρ => (γ d ρ).bind fun ρ1 => (ft ρ1).bind fun b => if b = true then (f ρ1).bind fun y => (compGo γ ft f ds ρ1).bind fun ys => some (y :: ys) else compGo γ ft f ds ρ1
def compS (n : Nat) (caps : List Nat) (ρ : Rho) : Rho := List.replicate n .no ++ caps.map (capS ρ)
def compF (n : Nat) (caps : List Nat) (fi : FA) (γ : FG) (ft : FT) (f : FE) : FA := fun ρ => (fi ρ).bind fun ds => if ds.length ≤ sizeLine then compGo γ ft f ds (compS n caps ρ) else none
def DQ (X : Cx) (ifs : List Expr) (ft : FT) : Prop :=
  ∀ (pins : List (Addr × Obj)) (s : Shared) (σ : St) (H : Hp) (Q : Bool → Hp → Prop), Inv X pins σ H s → tT X.K ft σ H Q →
    wpAny (model X.prog X.w) X.A (forIn ifs true fun c r => if r = true then do let ok ← isTrue c X.env (eval c X.env); pure (ForInStep.yield ok) else pure (ForInStep.yield r)) (TP X pins σ Q) X.xe s
def ttF : FT := fun _ => some true
theorem dq_nil {X : Cx} : DQ X [] ttF := fun pins s σ H Q I h => by
  obtain ⟨H₀, Hf₀, ρ, Hf, b, R, q, k⟩ := h
  cases q
  exact wpAny_tests_nil ⟨H, I, k _ _ R sameR sameR⟩
def compσ (n : Nat) (caps : List Nat) (σ : St) : St := List.replicate n none ++ caps.map (fun j => σ.getD j none)
section
variable {X : Cx} {scope : Scope} {own frees : List Str} {caps : List Nat} {cl : List (Str × Addr)}
theorem cxC_ok {pins : List (Addr × Obj)} {s : Shared} {σ : St} {H : Hp} {fp : List Addr} {C : Addr} {N : List Str} (I : Inv X pins σ H s) (S : CompScope X.env.scope scope own frees) (hfp : ∀ b ∈ fp, FpOk X pins H b) (hfo : ∀ b ∈ fp, b < s.heap.objs.size)
    (c1 : ∀ x c, cl.lookup x = some c → X.env.cells.lookup x = some c) (c2 : ∀ n, (n, NameKind.free) ∈ scope.names → ∃ c, cl.lookup n = some c) (hC : s.heap.objs.size ≤ C) : (cxC X scope cl C N s H fp).Ok where
  mod := I.ok.mod
  kind := S.kind
  glob := I.ok.glob
  blt := I.ok.blt
  above := hC
  inj := fun x y c e1 e2 => I.ok.inj x y c (c1 x c e1) (c1 y c e2)
  has := fun x hx => c2 x (relabel_cf S.nocell hx)
  cab := fun x c h => by cases h
  hd := I.ok.hd
  frames := I.ok.frames
  stk := .inl rfl
  exf := fun b hb => ⟨Nat.ne_of_lt (Nat.lt_of_lt_of_le (hfo b hb) hC), fun x c e => (hfp b hb).2.2.2.2.1 x c (c1 x c e)⟩
  bs := I.bs
  bsz := Nat.le_trans I.ok.bsz I.sz
  noex := fun b o e hb => by
    rcases (hfp b hb).2.2.2.1 with z | z
    · exact I.ok.noex b o e z
    · exact absurd (Nat.lt_of_lt_of_le (Heap.lt_size e) (Nat.le_trans I.ok.bsz z)) (Nat.lt_irrefl _)
  exfs := fun b hb z => by
    rcases List.mem_cons.mp (I.stkSub b z) with q | q
    · exact (hfp b hb).2.1 q
    · exact (hfp b hb).2.2.1 q
  funs := I.stack
  frf := I.stkFree
theorem map_get {caps : List Nat} {N : List Str} {frees : List Str} (h : caps.map (fun j => N[j]?) = frees.map some) {k : Nat} {x : Str} (e : frees[k]? = some x) : ∃ j, caps[k]? = some j ∧ N[j]? = some x := by
  have := congrArg (fun l => l[k]?) h
  simp only [List.getElem?_map, e, Option.map_some] at this
  cases hc : caps[k]? with
  | none => rw [hc] at this; cases this
  | some j => rw [hc] at this; exact ⟨j, rfl, by simpa using this⟩
theorem cxC_inv {pins : List (Addr × Obj)} {s : Shared} {σ : St} {H : Hp} {fp : List Addr} {h' : Heap} {t' : Nat} (I : Inv X pins σ H s) (S : CompScope X.env.scope scope own frees) (hcap : caps.map (fun j => X.N[j]?) = frees.map some) (hfp : ∀ b ∈ fp, FpOk X pins H b) (hfo : ∀ b ∈ fp, b < s.heap.objs.size)
    (c1 : ∀ x c, cl.lookup x = some c → X.env.cells.lookup x = some c) (c2 : ∀ n, (n, NameKind.free) ∈ scope.names → ∃ c, cl.lookup n = some c) {C : Addr} (hC : C = s.heap.objs.size + 1) (hns : h'.Ns C fun _ => none)
    (hsb : Heap.SameBut C ((s.heap.push { cls := .type "list", dict := none, data := .seq #[] }).push { cls := .type "dict", data := .dict #[] }) h') :
    Inv (cxC X scope cl C (own ++ frees) s H fp) [] (compσ own.length caps σ) (upd H s.heap.objs.size (.lst [])) { s with heap := h', toks := t' } := by
  have hk : ∀ b u, s.heap.get? b = some u → h'.get? b = some u := fun b u e => (hsb.2 b (by rw [hC]; exact Nat.ne_of_lt (Nat.lt_succ_of_lt (Heap.lt_size e)))).trans (Heap.get?_push_of_some _ (Heap.get?_push_of_some _ e))
  have hD : h'.get? s.heap.objs.size = some { cls := .type "list", dict := none, data := .seq #[] } := (hsb.2 _ (by rw [hC]; exact Nat.ne_of_lt (Nat.lt_succ_self _))).trans (Heap.get?_push_of_some _ (Heap.get?_push_size _ rfl))
  have hfD : H s.heap.objs.size = none := I.hok.fresh (Nat.le_refl _)
  have hfC : H C = none := I.hok.fresh (by rw [hC]; exact Nat.le_succ _)
  have hCD : C ≠ s.heap.objs.size := by rw [hC]; exact Nat.succ_ne_self _
  have new : ObjOk X.prog X.w (upd H s.heap.objs.size (.lst [])) h' s.heap.objs.size (.lst []) := ⟨by decide, [], 0, .nil, hD⟩
  refine ⟨cxC_ok I S hfp hfo c1 c2 (by rw [hC]; exact Nat.le_succ _), rfl, I.bare, Un.laid hk (Nat.le_refl _) hfD, ⟨fun _ => none, hns, ?_⟩, ?_, ?_, ?_, ?_, I.hok.laid hk (Nat.le_refl _) new, ?_⟩
  · intro i x v e1 e2 hv
    have e1 : (own ++ frees)[i]? = some x := e1
    unfold compσ at e2
    by_cases h1 : i < own.length
    · rw [List.getElem?_append_left (by simpa using h1), List.getElem?_replicate, if_pos h1] at e2
      cases e2
    · rw [List.getElem?_append_right (by simpa using h1)] at e2
      rw [List.getElem?_append_right (by omega)] at e1
      have hcl : caps.length = frees.length := by have := congrArg List.length hcap; simpa using this
      simp only [List.length_replicate] at e2
      · rw [List.getElem?_map] at e2
        obtain ⟨j, q1, q2⟩ := map_get hcap e1
        rw [q1] at e2
        have e2 : σ.getD j none = some v := by simpa using e2
        have e2' : σ[j]? = some (some v) := by
          rw [List.getD_eq_getElem?_getD] at e2
          cases z : σ[j]? with
          | none => rw [z] at e2; cases e2
          | some w => rw [z] at e2; simp at e2; rw [e2]
        obtain ⟨hx, hsx⟩ := S.capt x (List.mem_of_getElem? e1)
        obtain ⟨m, hn, hl⟩ := I.loc
        obtain ⟨u, r, lk⟩ := hl j x v q2 e2' (.inr hx)
        refine ⟨u, r, ?_⟩
        rcases lk with ⟨k1, _⟩ | ⟨k1, c, k2, k3⟩
        · have k1 : X.env.scope.names.lookup x = some .local := k1
          rcases hx with z | z <;> rw [z] at k1 <;> cases k1
        · obtain ⟨c', hc'⟩ := c2 x (lookup_mem hsx)
          have z := c1 x c' hc'
          rw [k2] at z; cases z
          obtain ⟨o, ho, hd⟩ := k3
          exact .inr ⟨relabel_free hsx, c, hc', o, hk _ _ ho, hd⟩
  · intro x c e
    obtain ⟨v, o, ho, hd⟩ := I.cell x c (c1 x c e)
    exact ⟨v, o, hk _ _ ho, hd⟩
  · show (upd H s.heap.objs.size (.lst [])) C = none
    rw [upd_ne hCD]; exact hfC
  · intro x c e
    have z := I.freeC x c (c1 x c e)
    obtain ⟨v, o, ho, hd⟩ := I.cell x c (c1 x c e)
    show (upd H s.heap.objs.size (.lst [])) c = none
    rw [upd_ne (Nat.ne_of_lt (Heap.lt_size ho))]; exact z
  · intro p hp; cases hp
  · show (compσ own.length caps σ).length = (own ++ frees).length
    have hcl : caps.length = frees.length := by have := congrArg List.length hcap; simpa using this
    simp [compσ, hcl]
def NoOwn (ρ : Rho) : Prop := ∀ (i : Nat) (sl : Slot), ρ[i]? = some sl → sl.own = false
theorem Rep.rebase {K : PySem.W.Frag} {H₀ Hf₀ : Hp} {σ : St} {ρ : Rho} {H Hf H' : Hp} (R : Rep K H₀ Hf₀ σ ρ H Hf) (hn : NoOwn ρ) (hs : Same Hf H') : Rep K H' Hf σ ρ H' Hf where
  s0 := sameR
  sf := hs
  nf := fun _ _ e => .inl e
  f0 := sameR
  len := R.len
  fr := R.fr
  ow := fun i sl e o => by rw [hn i sl e] at o; cases o
  inj := fun i j sl sl' a e o => by rw [hn i sl e] at o; cases o
def KeepsNo (γ : FG) : Prop := ∀ d ρ ρ', γ d ρ = some ρ' → NoOwn ρ → NoOwn ρ'
theorem NoOwn.set {ρ : Rho} (h : NoOwn ρ) (i : Nat) (d : D) : NoOwn (ρ.set i (.fr d)) := fun j sl e => by
  rw [List.getElem?_set] at e
  split at e
  · split at e
    · cases e; rfl
    · cases e
  · exact h j sl e
theorem kn_name {i : Nat} : KeepsNo (nameG i) := fun d ρ ρ' e h => by cases e; exact h.set i d
def KeepsNoS (δ : FGs) : Prop := ∀ ds ρ ρ', δ ds ρ = some ρ' → NoOwn ρ → NoOwn ρ'
theorem kns_nil : KeepsNoS nilG := fun ds ρ ρ' e h => by
  cases ds with
  | nil => cases e; exact h
  | cons _ _ => cases e
theorem kns_cons {γ : FG} {δ : FGs} (h1 : KeepsNo γ) (h2 : KeepsNoS δ) : KeepsNoS (consG γ δ) := fun ds ρ ρ' e h => by
  cases ds with
  | nil => cases e
  | cons d r =>
    have e : (γ d ρ).bind (fun ρ' => δ r ρ') = some ρ' := e
    cases e1 : γ d ρ with
    | none => rw [e1] at e; cases e
    | some ρ1 => rw [e1] at e; exact h2 r ρ1 ρ' e (h1 d ρ ρ1 e1 h)
theorem kn_tup {n : Nat} {δ : FGs} (h : KeepsNoS δ) : KeepsNo (tupG n δ) := fun d ρ ρ' e hn => by
  unfold tupG at e
  split at e
  · split at e
    · exact h _ ρ ρ' e hn
    · cases e
  · cases e
theorem NoOwn.comp {n : Nat} {caps : List Nat} {ρ : Rho} : NoOwn (compS n caps ρ) := fun i sl e => by
  unfold compS at e
  by_cases h : i < n
  · rw [List.getElem?_append_left (by simpa using h), List.getElem?_replicate, if_pos h] at e
    cases e; rfl
  · rw [List.getElem?_append_right (by simpa using h), List.getElem?_map] at e
    cases q : caps[i - (List.replicate n Slot.no).length]? with
    | none => rw [q] at e; cases e
    | some j =>
      rw [q] at e
      cases e
      unfold capS
      split <;> rfl
theorem rep_comp {K : PySem.W.Frag} {H₀ Hf₀ : Hp} {σ : St} {ρ : Rho} {H Hf H' : Hp} {n : Nat} {caps : List Nat} (R : Rep K H₀ Hf₀ σ ρ H Hf) (hs : Same Hf H') : Rep K H' Hf (compσ n caps σ) (compS n caps ρ) H' Hf where
  s0 := sameR
  sf := hs
  nf := fun _ _ e => .inl e
  f0 := sameR
  len := by simp [compS, compσ]
  fr := fun i d e => by
    unfold compS at e
    unfold compσ
    by_cases h : i < n
    · rw [List.getElem?_append_left (by simpa using h), List.getElem?_replicate, if_pos h] at e
      cases e
    · rw [List.getElem?_append_right (by simpa using h), List.getElem?_map] at e ⊢
      simp only [List.length_replicate] at e ⊢
      cases q : caps[i - n]? with
      | none => rw [q] at e; cases e
      | some j =>
        rw [q] at e
        simp only [Option.map_some, Option.some.injEq] at e ⊢
        unfold capS at e
        split at e
        · cases e
          rename_i e
          obtain ⟨v, q1, q2⟩ := R.fr j d e
          exact ⟨v, by rw [List.getD_eq_getElem?_getD, q1]; rfl, q2⟩
        · cases e
  ow := fun i sl e o => by rw [NoOwn.comp i sl e] at o; cases o
  inj := fun i j sl sl' a e o => by rw [NoOwn.comp i sl e] at o; cases o
theorem Grows.trans {H Hf H1 Hf1 H2 Hf2 : Hp} (a : Grows H Hf H1 Hf1) (b : Grows H1 Hf1 H2 Hf2) : Grows H Hf H2 Hf2 :=
  ⟨a.h.trans b.h, a.f.trans b.f, b.fh, fun c o e => by
    rcases b.new c o e with q | q | q
    · exact a.new c o q
    · exact .inr (.inl (a.h.free q))
    · exact .inr (.inr q)⟩
theorem Rep.toGrows {K : PySem.W.Frag} {σ : St} {ρ : Rho} {H Hf H' Hf' : Hp} (R : Rep K H Hf σ ρ H' Hf') : Grows H Hf H' Hf' := ⟨R.s0, R.f0, R.sf, R.nf⟩
theorem compGo_cons {γ : FG} {ft : FT} {f : FE} {d : D} {ds ys : List D} {ρ : Rho} (h : compGo γ ft f (d :: ds) ρ = some ys) :
    ∃ ρ1 b, γ d ρ = some ρ1 ∧ ft ρ1 = some b ∧ ((b = true ∧ ∃ y r, f ρ1 = some y ∧ compGo γ ft f ds ρ1 = some r ∧ ys = y :: r) ∨ (b = false ∧ compGo γ ft f ds ρ1 = some ys)) := by
  unfold compGo at h
  cases e1 : γ d ρ with
  | none => rw [e1] at h; cases h
  | some ρ1 =>
    rw [e1] at h
    simp only [Option.bind_some] at h
    cases e2 : ft ρ1 with
    | none => rw [e2] at h; cases h
    | some b =>
      rw [e2] at h
      simp only [Option.bind_some] at h
      refine ⟨ρ1, b, rfl, e2, ?_⟩
      cases b with
      | false => exact .inr ⟨rfl, by simpa using h⟩
      | true =>
        simp only [if_true] at h
        cases e3 : f ρ1 with
        | none => rw [e3] at h; cases h
        | some y =>
          rw [e3] at h
          simp only [Option.bind_some] at h
          cases e4 : compGo γ ft f ds ρ1 with
          | none => rw [e4] at h; cases h
          | some r => rw [e4] at h; cases h; exact .inl ⟨rfl, y, r, rfl, rfl, rfl⟩
theorem comp_core {tg elt iter : Expr} {ifs : List Expr} {pos : Pos} {γ : FG} {ft : FT} {f : FE} {pins : List (Addr × Obj)} {s₂ : Shared} {σ : St} {H₂ Hf₂ H₀ Hf₀ : Hp} {ρ : Rho} {ds ys : List D} {J : It} {fp : List Addr} {it : Addr} {tn : Nat → Heap → Prop} {E : Value → Shared → Prop}
    (hc : X.calm = true) (S : CompScope X.env.scope scope own frees) (hcap : caps.map (fun j => X.N[j]?) = frees.map some) (kn : KeepsNo γ)
    (body : ∀ cl C s H fp, DG (cxC X scope cl C (own ++ frees) s H fp) tg γ ∧ DQ (cxC X scope cl C (own ++ frees) s H fp) ifs ft ∧ DE (cxC X scope cl C (own ++ frees) s H fp) elt f)
    (c1 : ∀ x c, cl.lookup x = some c → X.env.cells.lookup x = some c) (c2 : ∀ n, (n, NameKind.free) ∈ scope.names → ∃ c, cl.lookup n = some c)
    (I : Inv X pins σ H₂ s₂) (T : Turn X.prog X.w X.K tg J fp it tn) (st : tn 0 s₂.heap) (hfp : ∀ b ∈ fp, FpOk X pins H₂ b) (R : Rep X.K H₀ Hf₀ σ ρ H₂ Hf₂) (wk : Walks X.K Hf₂ J ds) (hz : ds.length ≤ sizeLine)
    (hgo : compGo γ ft f ds (compS own.length caps ρ) = some ys) {RR : Value → Addr → Result → Shared → Prop}
    (hRR : ∀ D C s' H' Hf' xs, Inv X pins σ H' s' → (∃ m, s'.heap.Ns C m) → FpOk X pins H' C → Grows H₂ Hf₂ H' Hf' → HasL X.K Hf' ys xs → H' D = some (.lst xs) → Hf' D = none → H₂ D = none → RR (.ref D) C (.ok .next) s') :
    wpAny (model X.prog X.w) X.A (newList []) (fun acc s₃ => wpAny (model X.prog X.w) X.A (newFunctionEnv scope X.env.globals cl [] X.env.qual none .none (some X.env)) (fun cenv s₄ =>
      codeAny (model X.prog X.w) X.A (.compStart (.ListComp elt [⟨tg, iter, ifs, 0⟩] scope pos) 0 (.ref it) acc { cenv with scope := relabel scope X.env }) (RR acc cenv.locals) s₄) E s₃) E s₂ := by
  have hfo : ∀ b ∈ fp, b < s₂.heap.objs.size := fun b hb => by
    obtain ⟨o, ho, _⟩ := T.obj 0 _ st b hb
    exact Heap.lt_size ho
  refine wpAny_newObj_type (wpAny_newFunctionEnv S.nocell (by intro y hy; simp at hy) (fun h₁ hns₁ hsb₁ => ?_) S.kind)
  dsimp only at hns₁ hsb₁ ⊢
  have hC : (s₂.heap.push { cls := .type "list", dict := none, data := .seq ([] : List Value).toArray }).objs.size = s₂.heap.objs.size + 1 := by rw [Heap.size_push]
  generalize hCe : (s₂.heap.push { cls := .type "list", dict := none, data := .seq ([] : List Value).toArray }).objs.size = C at hC hns₁ hsb₁ ⊢
  obtain ⟨b1, b2, b3⟩ := body cl C s₂ H₂ fp
  have hfD : H₂ s₂.heap.objs.size = none := I.hok.fresh (Nat.le_refl _)
  have IC : Inv (cxC X scope cl C (own ++ frees) s₂ H₂ fp) [] (compσ own.length caps σ) (upd H₂ s₂.heap.objs.size (.lst [])) { s₂ with heap := h₁, toks := s₂.toks + ([] : List (Str × Value)).length } :=
    cxC_inv I S hcap hfp hfo c1 c2 hC hns₁ hsb₁
  have DfD : Hf₂ s₂.heap.objs.size = none := R.sf.free hfD
  have R1 : Rep X.K (upd H₂ s₂.heap.objs.size (.lst [])) Hf₂ (compσ own.length caps σ) (compS own.length caps ρ) (upd H₂ s₂.heap.objs.size (.lst [])) Hf₂ := rep_comp R (R.sf.trans (same_upd hfD))
  have keep1 : ∀ b o, s₂.heap.get? b = some o → h₁.get? b = some o := fun b u e => (hsb₁.2 b (by rw [hC]; exact Nat.ne_of_lt (Nat.lt_succ_of_lt (Heap.lt_size e)))).trans (Heap.get?_push_of_some _ (Heap.get?_push_of_some _ e))
  have st1 : tn 0 h₁ := T.keep 0 _ _ st fun b _ o e => keep1 b o e
  -- what stays true of the iterator's objects through the loop
  have stat : ∀ {H' : Hp}, (∀ b ∈ fp, H' b = none) → ∀ b ∈ fp, FpOk (cxC X scope cl C (own ++ frees) s₂ H₂ fp) [] H' b := fun {H'} hn b hb => by
    refine ⟨hn b hb, Nat.ne_of_lt (Nat.lt_of_lt_of_le (hfo b hb) (by rw [hC]; exact Nat.le_succ _)), fun z => ?_, .inl hb, fun x c e => (hfp b hb).2.2.2.2.1 x c (c1 x c e), fun p hp => by cases hp⟩
    rcases List.mem_cons.mp (I.stkSub b z) with q | q
    · exact (hfp b hb).2.1 q
    · exact (hfp b hb).2.2.1 q
  have fp1 : ∀ b ∈ fp, (upd H₂ s₂.heap.objs.size (.lst [])) b = none := fun b hb => by
    rw [upd_ne (Nat.ne_of_lt (hfo b hb))]; exact (hfp b hb).1
  have loop : ∀ s₃ : Shared, s₃ = { s₂ with heap := h₁, toks := s₂.toks + ([] : List (Str × Value)).length } →
      codeAny (model X.prog X.w) X.A (.compLoop (.ListComp elt [⟨tg, iter, ifs, 0⟩] scope pos) 0 (.ref it) (.ref s₂.heap.objs.size) (compEnvC scope cl C X.env)) (RR (.ref s₂.heap.objs.size) C) s₃ := by
    rintro s₃ rfl
    refine compLoop_any (fun n s' => ∃ i ρ' σ' H' Hf' zs xs r, n = ds.length - i ∧ i ≤ ds.length ∧ Inv (cxC X scope cl C (own ++ frees) s₂ H₂ fp) [] σ' H' s' ∧ tn i s'.heap ∧ (∀ b ∈ fp, H' b = none) ∧ Rep X.K H' Hf' σ' ρ' H' Hf' ∧ NoOwn ρ' ∧
      compGo γ ft f (ds.drop i) ρ' = some r ∧ zs ++ r = ys ∧ HasL X.K Hf' zs xs ∧ zs.length ≤ i ∧ H' s₂.heap.objs.size = some (.lst xs) ∧ Hf' s₂.heap.objs.size = none ∧ Grows H₂ Hf₂ H' Hf') ?_ ds.length
      ⟨0, _, _, _, _, [], [], ys, by simp, Nat.zero_le _, IC, st1, fp1, R1, NoOwn.comp, by simpa using hgo, rfl, .nil, by simp, upd_same, DfD, ⟨same_upd hfD, sameR, R1.sf, fun b o e => .inl e⟩⟩
    rintro n s' ⟨i, ρ', σ', H', Hf', zs, xs, r, rfl, hi, I', st', fr', R', no', go', hys, hxs, hzl, hD', hfD', gr'⟩
    obtain ⟨w1, w2⟩ := wk H' Hf' gr'.f R'.sf i
    by_cases hil : i < ds.length
    · have hd : ds[i]? = some ds[i] := List.getElem?_eq_getElem hil
      obtain ⟨go, yld⟩ := w1 _ hd
      rw [List.drop_eq_getElem_cons hil] at go'
      obtain ⟨ρ1, b, eg, et, hb⟩ := compGo_cons go'
      refine wpAny_mono (T.item (cxC X scope cl C (own ++ frees) s₂ H₂ fp) rfl rfl rfl hc i [] s' σ' H' (fun _ _ => False) I' (stat fr') st' go) (fun rv s4 ⟨u, hr, h4⟩ => ?_) fun _ _ z => z
      subst hr
      refine wpAny_mono h4 (fun _ s5 ⟨x, H5, I5, r5, y5, st5, fr5⟩ => ?_) fun _ _ z => z
      obtain ⟨Hf5, gr5, hx5⟩ := yld x H5 y5
      have R5 : Rep X.K H' Hf' σ' ρ' H5 Hf5 := R'.grows gr5
      have I5' := I5.pinned (stat fr5) (T.obj _ _ st5)
      refine wpAny_mono (b1 _ s5 σ' H5 x u _ I5' r5 ⟨H', Hf', ρ', Hf5, ds[i], ρ1, R5, hx5, eg, fun σ6 H6 Hf6 R6 t6 => (⟨Hf6, R6, t6⟩ : ∃ Hf6, Rep X.K H' Hf' σ6 ρ1 H6 Hf6 ∧ Same Hf5 Hf6)⟩) (fun _ s6 h6 => ?_) fun _ _ z => z
      obtain ⟨σ6, H6, I6, Hf6, R6, t6⟩ := h6
      refine wpAny_mono (b2 _ s6 σ6 H6 (fun b' H7 => b' = b ∧ ∃ Hf7, Rep X.K H' Hf' σ6 ρ1 H7 Hf7) I6 ⟨H', Hf', ρ1, Hf6, b, R6, et, fun H7 Hf7 R7 s7 t7 => ⟨rfl, Hf7, R7⟩⟩) (fun ok s7 h7 => ?_) fun _ _ z => z
      obtain ⟨H7, I7, rfl, Hf7, R7⟩ := h7
      have no1 := kn _ _ _ eg no'
      have hm : ds.length - (i + 1) < ds.length - i := by omega
      rcases hb with ⟨rfl, y, r', ef, er, rfl⟩ | ⟨rfl, er⟩
      · rw [if_pos rfl]
        refine wpAny_mono (b3 _ s7 σ6 H7 (fun v H8 => ∃ Hf8, Rep X.K H' Hf' σ6 ρ1 H8 Hf8 ∧ Has X.K Hf8 y v) I7 ⟨H', Hf', ρ1, Hf7, y, R7, ef, fun v H8 Hf8 R8 s8 t8 h8 => ⟨Hf8, R8, h8⟩⟩) (fun u' s8 h8 => ?_) fun _ _ z => z
        obtain ⟨v, H8, I8, r8, Hf8, R8, h8⟩ := h8
        have hD8 : H8 s₂.heap.objs.size = some (.lst xs) := R8.s0 _ _ hD'
        have hfD8 : Hf8 s₂.heap.objs.size = none := by
          cases z : Hf8 s₂.heap.objs.size with
          | none => rfl
          | some o =>
            rcases R8.nf _ _ z with q | q | ⟨ks, rfl⟩
            · rw [hfD'] at q; cases q
            · rw [hD'] at q; cases q
            · have := hD8.symm.trans (R8.sf _ _ z); cases this
        have hsd : Same Hf8 (upd H8 s₂.heap.objs.size (.lst (xs ++ [v]))) := fun b o e => by rw [upd_ne (ne_of_none e hfD8)]; exact R8.sf b o e
        refine wpAny_mono (mt_append (X := cxC X scope cl C (own ++ frees) s₂ H₂ fp) _ s8 σ6 H8 (.ref s₂.heap.objs.size) [v] _ [u'] (fun _ H9 => H9 = upd H8 s₂.heap.objs.size (.lst (xs ++ [v]))) I8 rfl (.cons r8 .nil) ⟨_, xs, v, rfl, rfl, hD8, by have := hxs.length; omega, rfl⟩) (fun u9 s9 h9 => ?_) fun _ _ z => z
        obtain ⟨v9, H9, I9, _, rfl⟩ := h9
        refine ⟨_, hm, i + 1, ρ1, σ6, _, Hf8, zs ++ [y], xs ++ [v], r', rfl, hil, I9.unpinned, T.keep _ _ _ st5 fun b hb o e => (I9.pin (b, o) (List.mem_append_right _ (List.mem_append_right _ (mem_pinsAt hb e)))).1, fun b hb => ?_, R8.rebase no1 hsd, no1, er, by rw [List.append_assoc]; exact hys, (hxs.mono R8.f0).append (.cons h8 .nil), by simp; omega, upd_same, hfD8, ?_⟩
        · obtain ⟨o, e, d⟩ := T.obj _ _ st5 b hb
          exact (I9.pin (b, o) (List.mem_append_right _ (List.mem_append_right _ (mem_pinsAt hb e)))).2.1
        · have g8 := gr'.trans R8.toGrows
          exact ⟨fun b o e => by rw [upd_ne (ne_of_none e hfD)]; exact g8.h b o e, g8.f, hsd, g8.new⟩
      · rw [if_neg Bool.false_ne_true]
        refine ⟨_, hm, i + 1, ρ1, σ6, _, Hf7, zs, xs, r, rfl, hil, I7.unpinned, T.keep _ _ _ st5 fun b hb o e => (I7.pin (b, o) (List.mem_append_right _ (List.mem_append_right _ (mem_pinsAt hb e)))).1, fun b hb => ?_, R7.rebase no1 R7.sf, no1, er, hys, hxs.mono R7.f0, by omega, R7.s0 _ _ hD', ?_, gr'.trans R7.toGrows⟩
        · obtain ⟨o, e, d⟩ := T.obj _ _ st5 b hb
          exact (I7.pin (b, o) (List.mem_append_right _ (List.mem_append_right _ (mem_pinsAt hb e)))).2.1
        · cases z : Hf7 s₂.heap.objs.size with
          | none => rfl
          | some o =>
            rcases R7.nf _ _ z with q | q | ⟨ks, rfl⟩
            · rw [hfD'] at q; cases q
            · rw [hD'] at q; cases q
            · have := (R7.s0 _ _ hD').symm.trans (R7.sf _ _ z); cases this
    · have : ds.drop i = [] := List.drop_eq_nil_of_le (by omega)
      rw [this] at go'
      cases go'
      rw [List.append_nil] at hys
      subst hys
      refine wpAny_mono (T.done (cxC X scope cl C (own ++ frees) s₂ H₂ fp) rfl rfl rfl hc i [] s' σ' H' (fun _ _ => False) I' (stat fr') st' (w2 (by omega))) (fun rv s4 ⟨hr, I4⟩ => ?_) fun _ _ z => z
      subst hr
      obtain ⟨m, hn, _⟩ := I4.loc
      have hch : ∀ b ∈ fp, (b ∈ X.ex ∨ X.s₀.heap.objs.size ≤ b) ∧ b ≠ X.env.locals ∧ (∀ x c, X.env.cells.lookup x = some c → c ≠ b) ∧ ∀ p ∈ X.pn ++ pins, p.1 ≠ b := fun b hb => ⟨(hfp b hb).2.2.2.1, (hfp b hb).2.1, (hfp b hb).2.2.2.2.1, (hfp b hb).2.2.2.2.2⟩
      exact hRR _ C s4 H' Hf' xs (I.call' (s' := s4) I4.os I4.base I4.hok I4.bare hch) ⟨m, hn⟩ (I.fpOk (by rw [hC]; exact Nat.le_succ _) I4.free) gr' hxs hD' hfD' hfD
  exact codeAny_compStart_list (loop _ rfl) (T.self _ 0 _ _ _ st1 (loop _ rfl))
theorem compF_some {n : Nat} {fi : FA} {γ : FG} {ft : FT} {f : FE} {ρ : Rho} {ys : List D} (h : compF n caps fi γ ft f ρ = some ys) : ∃ ds, fi ρ = some ds ∧ ds.length ≤ sizeLine ∧ compGo γ ft f ds (compS n caps ρ) = some ys := by
  obtain ⟨ds, e1, e2⟩ := bindA_some h
  split at e2
  · exact ⟨ds, e1, by assumption, e2⟩
  · cases e2
theorem comp_cl {pins : List (Addr × Obj)} {σ : St} {H : Hp} {s : Shared} (I : Inv X pins σ H s) (S : CompScope X.env.scope scope own frees) : ∃ cl, closureFor scope X.env = pure cl ∧ (∀ x c, cl.lookup x = some c → X.env.cells.lookup x = some c) ∧ ∀ n, (n, NameKind.free) ∈ scope.names → ∃ c, cl.lookup n = some c := by
  obtain ⟨cl, e1, e2, _, e4⟩ := closeGo_ex (env := X.env) scope.names [] (fun n hn => I.ok.has n (S.free (n, .free) hn rfl)) (fun x c e => by simp at e)
  exact ⟨cl, closureFor_go e1, e2, e4⟩
theorem dn_comp {tg elt iter : Expr} {ifs : List Expr} {pos : Pos} {fi : FA} {γ : FG} {ft : FT} {f : FE} (hc : X.calm = true) (S : CompScope X.env.scope scope own frees) (hcap : caps.map (fun j => X.N[j]?) = frees.map some) (kn : KeepsNo γ) (hi : DI X tg iter fi)
    (body : ∀ cl C s H fp, DG (cxC X scope cl C (own ++ frees) s H fp) tg γ ∧ DQ (cxC X scope cl C (own ++ frees) s H fp) ifs ft ∧ DE (cxC X scope cl C (own ++ frees) s H fp) elt f)
    (hs : ∀ x, foldedSetIterable iter X.env x = pure x := by intro _; rfl) : DN X (.ListComp elt [⟨tg, iter, ifs, 0⟩] scope pos) (compF own.length caps fi γ ft f) := by
  intro pins s σ H Q I h
  obtain ⟨H₀, Hf₀, ρ, Hf, ys, R, q, k⟩ := h
  obtain ⟨ds, e1, hz, e2⟩ := compF_some q
  obtain ⟨cl, hcl, c1, c2⟩ := comp_cl I S
  rw [eval_ListComp]
  refine wpAny_comprehension_free (use := none) rfl hs hcl S.kind S.loc (thn (hi pins s σ H (fun J H' => ∃ Hf', Rep X.K H₀ Hf₀ σ ρ H' Hf' ∧ Same H H' ∧ Same Hf Hf' ∧ Walks X.K Hf' J ds) I ⟨H₀, Hf₀, ρ, Hf, ds, R, e1, fun J H' Hf' R' s' t' wk => ⟨Hf', R', s', t', wk⟩⟩) fun v s1 h1 => thn h1 fun itv s2 h2 => ?_)
  obtain ⟨it, fp, tn, J, H2, rfl, I2, T, st2, f2, Hf2, R2, s2', t2', wk⟩ := h2
  refine comp_core (RR := compPost (model X.prog X.w) X.A X.xe none (EP X pins σ Q)) hc S hcap kn body c1 c2 I2 T st2 f2 R2 wk hz e2 ?_
  intro D C s' H' Hf' xs I' hns hfC gr hxs hD hfD hD0
  obtain ⟨m, hn⟩ := hns
  refine ⟨m, hn, fun h' hsb => ⟨.ref D, H', ?_, rfl, ?_⟩⟩
  · obtain ⟨f0, f1, f2, f3, f4, f5⟩ := hfC
    exact I'.turned (t' := s'.toks) (fun b o hb e => (hsb.2 b hb).trans e) f0 f1 f3 f4 f5
  · exact k D xs H' Hf' (R2.grows gr) (s2'.trans gr.h) (t2'.trans gr.f) hxs hD hfD (s2'.free hD0)
theorem wp_asgComp {tg elt iter : Expr} {ifs : List Expr} {y : Str} {py pos spos : Pos} {fi : FA} {γ : FG} {ft : FT} {f : FE} (hc : X.calm = true) (S : CompScope X.env.scope scope own frees) (hcap : caps.map (fun j => X.N[j]?) = frees.map some) (kn : KeepsNo γ) (hi : DI X tg iter fi)
    (body : ∀ cl C s H fp, DG (cxC X scope cl C (own ++ frees) s H fp) tg γ ∧ DQ (cxC X scope cl C (own ++ frees) s H fp) ifs ft ∧ DE (cxC X scope cl C (own ++ frees) s H fp) elt f)
    (hsw : swapsWith (.ListComp elt [⟨tg, iter, ifs, 0⟩] scope pos) (some (.Name y py)) spos.line X.env = pure true) (i : Nat) (hN : X.N.Nodup) (hiN : X.N[i]? = some y) (hy : X.env.scope.names.lookup y = some .local)
    (hs : ∀ x, foldedSetIterable iter X.env x = pure x) : PS X (.Assign [.Name y py] (.ListComp elt [⟨tg, iter, ifs, 0⟩] scope pos) spos) (fun D' σ H => ∃ H₀ Hf₀ ρ Hf ys, Rep X.K H₀ Hf₀ σ ρ H Hf ∧ compF own.length caps fi γ ft f ρ = some ys ∧
      ∀ a xs H' Hf', Rep X.K H₀ Hf₀ σ ρ H' Hf' → Same H H' → Same Hf Hf' → HasL X.K Hf' ys xs → H' a = some (.lst xs) → Hf' a = none → H a = none → D'.nx (σ.set i (some (.ref a))) H') := by
  intro pins s σ H D' I h
  obtain ⟨H₀, Hf₀, ρ, Hf, ys, R, q, k⟩ := h
  obtain ⟨ds, e1, hz, e2⟩ := compF_some q
  obtain ⟨cl, hcl, c1, c2⟩ := comp_cl I S
  rw [exec_Assign_Name_used _ _ _ _ hsw]
  refine wpAny_bind (wpAny_standAt (wpAny_bind ?_))
  show wpAny _ X.A (do let _ ← comprehension (.ListComp elt [⟨tg, iter, ifs, 0⟩] scope pos) scope X.env _ (newList []) false (eval iter X.env) (some (assign (.Name y py) X.env))) _ _ s
  refine wpAny_bind (wpAny_mono (wpAny_comprehension_free (use := some (assign (.Name y py) X.env)) (Q := fun _ s' => SP X pins D' .next s') rfl hs hcl S.kind S.loc
    (thn (hi pins s σ H (fun J H' => ∃ Hf', Rep X.K H₀ Hf₀ σ ρ H' Hf' ∧ Same H H' ∧ Same Hf Hf' ∧ Walks X.K Hf' J ds) I ⟨H₀, Hf₀, ρ, Hf, ds, R, e1, fun J H' Hf' R' s' t' wk => ⟨Hf', R', s', t', wk⟩⟩) fun v s1 h1 => thn h1 fun itv s2 h2 => ?_)) (fun _ s' hq => wpAny_pure (wpAny_pure hq)) fun _ _ e => e)
  obtain ⟨it, fp, tn, J, H2, rfl, I2, T, st2, f2, Hf2, R2, s2', t2', wk⟩ := h2
  refine comp_core (RR := compPost (model X.prog X.w) X.A X.xe (some (assign (.Name y py) X.env)) (fun _ s' => SP X pins D' .next s')) hc S hcap kn body c1 c2 I2 T st2 f2 R2 wk hz e2 ?_
  intro D C s' H' Hf' xs I' hns hfC gr hxs hD hfD hD0
  obtain ⟨m, hn⟩ := hns
  show wpAny _ X.A (assign (.Name y py) X.env (.ref D)) _ _ _
  refine wpAny_assign_Name (store_ok2 I' hN hiN (.inl hy) (show RelV (.ref D) (.ref D) from rfl) (fun s'' I'' hsb => ?_) (.inr hy))
  obtain ⟨a, hsb, ha⟩ := hsb
  obtain ⟨f0, f1, f2', f3, f4, f5⟩ := hfC
  have haC : a ≠ C := by
    rcases ha with z | z
    · rw [z]; exact Ne.symm f1
    · exact f4 _ _ z
  refine ⟨m, hn.sameBut hsb (Ne.symm haC), fun h' hsb' => ?_⟩
  exact ⟨_, H', I''.turned (t' := s''.toks) (fun b o hb e => (hsb'.2 b hb).trans e) f0 f1 f3 f4 f5, k D xs H' Hf' (R2.grows gr) (s2'.trans gr.h) (t2'.trans gr.f) hxs hD hfD (s2'.free hD0)⟩
end
end FL
set_option Elab.async false
set_option linter.all false
set_option maxRecDepth 100000
set_option maxHeartbeats 4000000
namespace FL
open PySem PySem.Spec PyProof.Rows L2
structure Draw (P : Program) (w : World) (K : PySem.W.Frag) (J : It) (fp : List Addr) (it : Addr) (tn : Nat → Heap → Prop) : Prop where
  mem : it ∈ fp
  obj : ∀ i h, tn i h → ∀ b ∈ fp, ∃ o, h.get? b = some o ∧ ∀ v, o.data ≠ .cell v
  keep : ∀ i h h', tn i h → (∀ b ∈ fp, ∀ o, h.get? b = some o → h'.get? b = some o) → tn i h'
  item : ∀ (A : Around) (X : Cx), X.prog = P → X.w = w → X.K = K → ∀ (i : Nat) (pins : List (Addr × Obj)) (s : Shared) (σ : St) (H : Hp) (E : Value → Shared → Prop), Inv X pins σ H s → (∀ b ∈ fp, FpOk X pins H b) → tn i s.heap → J.go i H →
    wpAny (model P w) A (Builtin.SmallTypes.nextOf (.ref it)) (fun u s2 => ∃ x H', Inv X pins σ H' s2 ∧ RelV x u ∧ J.yld i H x H' ∧ tn (i + 1) s2.heap ∧ ∀ b ∈ fp, H' b = none) E s
  fin : ∀ (A : Around) (X : Cx), X.prog = P → X.w = w → X.K = K → A.handled = none → ∀ (i : Nat) (pins : List (Addr × Obj)) (s : Shared) (σ : St) (H : Hp) (Q : Value → Shared → Prop), Inv X pins σ H s → (∀ b ∈ fp, FpOk X pins H b) → tn i s.heap → J.stop i H →
    wpAny (model P w) A (Builtin.SmallTypes.nextOf (.ref it)) Q (fun e s2 => Inv X pins σ H s2 ∧ ∃ a o, e = .ref a ∧ s2.heap.get? a = some o ∧ o.cls = .type "StopIteration") s
section
variable {prog : Program} {w : World} {A : Around} {E : Value → Shared → Prop} {s : Shared}
theorem nextOf_tuple_item {it l : Addr} {i : Nat} {items : Array Value} {x : Value} {Q : Value → Shared → Prop} (hit : s.heap.IsTupleIter it l i) (hl : s.heap.IsTuple l items) (hx : items[i]? = some x)
    (hQ : ∀ h', h'.IsTupleIter it l (i + 1) → Heap.SameBut it s.heap h' → Q x { s with heap := h' }) : wpAny (model prog w) A (Builtin.SmallTypes.nextOf (.ref it)) Q E s := by
  obtain ⟨o, ho, hc, hd⟩ := id hit
  obtain ⟨ol, hol, _, nl, hdl⟩ := hl
  unfold Builtin.SmallTypes.nextOf
  refine wpAny_bind (wpAny_callSpecial?_slot (name := Str.ofString "__next__") hit.typeIs F.slot_tuple_iterator_next
    (wpAny_call_entry F.slot_tuple_iterator_next hit.typeIs F.entry_tuple_iterator_next ?_ (F.args_tuple_iterator_next_1 _)))
  show wpAny _ _ (field (.ref it) 0 >>= _) _ _ s
  refine wpAny_bind (wpAny_field ho hd (x := .ref l) rfl ?_)
  show wpAny _ _ (if (Value.ref l == Value.none) = true then _ else _) _ _ s
  rw [if_neg (show ¬ ((Value.ref l == Value.none) = true) from Bool.false_ne_true)]
  show wpAny _ _ (field (.ref it) 1 >>= _) _ _ s
  refine wpAny_bind (wpAny_field ho hd (x := .int i 0) rfl ?_)
  show wpAny _ _ (seqItems? (.ref l) >>= _) _ _ s
  refine wpAny_bind (wpAny_seqItems hol hdl ?_)
  simp only [Int.toNat_natCast, hx]
  refine wpAny_bind (wpAny_setField ho hd (by simp) (wpAny_pure ⟨x, rfl, wpAny_pure (hQ _ ?_ (Heap.SameBut.update ..))⟩))
  exact ⟨_, Heap.get?_update_self _ ho (Obj.isFreed_of_fields (Obj.data_mapFields hd _)), (Obj.cls_mapFields ..).trans hc, by rw [Obj.data_mapFields hd]; simp [rawInt]⟩
theorem nextOf_tuple_end {it l : Addr} {i : Nat} {items : Array Value} {Q : Value → Shared → Prop} (hh : A.handled = none) (hit : s.heap.IsTupleIter it l i) (hl : s.heap.IsTuple l items) (hx : items[i]? = none)
    (hE : ∀ h' e, Heap.ExtBut it s.heap h' → (∃ o, h'.get? e = some o ∧ o.cls = .type "StopIteration") → E (.ref e) { s with heap := h' }) : wpAny (model prog w) A (Builtin.SmallTypes.nextOf (.ref it)) Q E s := by
  obtain ⟨o, ho, hc, hd⟩ := id hit
  obtain ⟨ol, hol, _, nl, hdl⟩ := hl
  unfold Builtin.SmallTypes.nextOf
  refine wpAny_bind (wpAny_callSpecial?_slot (name := Str.ofString "__next__") hit.typeIs F.slot_tuple_iterator_next
    (wpAny_call_entry F.slot_tuple_iterator_next hit.typeIs F.entry_tuple_iterator_next ?_ (F.args_tuple_iterator_next_1 _)))
  show wpAny _ _ (field (.ref it) 0 >>= _) _ _ s
  refine wpAny_bind (wpAny_field ho hd (x := .ref l) rfl ?_)
  show wpAny _ _ (if (Value.ref l == Value.none) = true then _ else _) _ _ s
  rw [if_neg (show ¬ ((Value.ref l == Value.none) = true) from Bool.false_ne_true)]
  show wpAny _ _ (field (.ref it) 1 >>= _) _ _ s
  refine wpAny_bind (wpAny_field ho hd (x := .int i 0) rfl ?_)
  show wpAny _ _ (seqItems? (.ref l) >>= _) _ _ s
  refine wpAny_bind (wpAny_seqItems hol hdl ?_)
  simp only [Int.toNat_natCast, hx]
  refine wpAny_bind (wpAny_rule (wpAny_bind (wpAny_setField ho hd (by simp) ?_)))
  show wpAny _ _ (newExc (.type "StopIteration") [] >>= _) _ _ _
  refine wpAny_bind ?_
  simp only [newExc, newTuple]
  refine wpAny_bind (wpAny_newObj_type ?_ (by size_fits))
  refine wpAny_bind (m := firstArgMember _ _) (wpAny_of_eq (a := Value.none) (by first | rfl | (simp only [firstArgMember]; rfl)) ?_)
  refine wpAny_newObj_type ?_ (by size_fits)
  simp only [raiseNew]
  refine wpAny_bind (wpAny_handled ?_)
  first | rw [show A.in1.handled = none from hh] | rw [hh]
  refine wpAny_bind (wpAny_pure (wpAny_throw ?_))
  exact hE _ _ (((Heap.SameBut.update ..).extBut.push _).push _) ⟨_, Heap.get?_push_size _ rfl, rfl⟩
end
theorem draw_list {P : Program} {w : World} {K : PySem.W.Frag} (a it : Addr) : Draw P w K (Itl K a) [it] it (fun i h => h.IsListIter it a i) where
  mem := by simp
  obj := fun i h st b hb => by
    have e : b = it := by simpa using hb
    subst e
    obtain ⟨o, e, c, d⟩ := st
    exact ⟨o, e, fun v z => by rw [d] at z; cases z⟩
  keep := fun i h h' st k => st.at fun o e => k it (by simp) o e
  item := by
    intro A X hP hw hK i pins s σ H E I hf st hg
    subst hP hw hK
    obtain ⟨xs, x, hq, hx⟩ := hg
    obtain ⟨its, rv, p, hz⟩ := I.list hq
    obtain ⟨u, hu, ru⟩ := rv.get hx
    obtain ⟨f0, f1, f2, f3, f4, f5⟩ := hf it (by simp)
    refine wpAny_nextOf_list_item st p.isList (x := u) (by simpa using hu) fun h' st' sb => ?_
    have I1 : Inv X pins σ H { s with heap := h' } := I.turned (t' := s.toks) (fun b o hb e => (sb.2 b hb).trans e) f0 f1 f3 f4 f5
    exact ⟨x, H, I1, ru, ⟨rfl, fun ys hy => by rw [I.list_inj hy hq]; exact hx⟩, st', fun b hb => (hf b hb).1⟩
  fin := by
    intro A X hP hw hK hh i pins s σ H Q I hf st hg
    subst hP hw hK
    obtain ⟨xs, hq, hx⟩ := hg
    obtain ⟨its, rv, p, hz⟩ := I.list hq
    obtain ⟨f0, f1, f2, f3, f4, f5⟩ := hf it (by simp)
    have hl := rv.length
    refine wpAny_nextOf_list_end hh st p.isList (by simp; omega) fun h' e eb ⟨o, ho, hc⟩ => ⟨I.turned (t' := s.toks) (fun b o hb e => eb b o hb e) f0 f1 f3 f4 f5, e, o, rfl, ho, hc⟩
theorem draw_tuple {P : Program} {w : World} {K : PySem.W.Frag} (a it : Addr) : Draw P w K (Itt K a) [it] it (fun i h => h.IsTupleIter it a i) where
  mem := by simp
  obj := fun i h st b hb => by
    have e : b = it := by simpa using hb
    subst e
    obtain ⟨o, e, c, d⟩ := st
    exact ⟨o, e, fun v z => by rw [d] at z; cases z⟩
  keep := fun i h h' st k => st.at fun o e => k it (by simp) o e
  item := by
    intro A X hP hw hK i pins s σ H E I hf st hg
    subst hP hw hK
    obtain ⟨xs, x, hq, hx⟩ := hg
    obtain ⟨its, rv, p, hz⟩ := I.tuple hq
    obtain ⟨u, hu, ru⟩ := rv.get hx
    obtain ⟨f0, f1, f2, f3, f4, f5⟩ := hf it (by simp)
    refine nextOf_tuple_item st (show s.heap.IsTuple a its.toArray from p) (x := u) (by simpa using hu) fun h' st' sb => ?_
    have I1 : Inv X pins σ H { s with heap := h' } := I.turned (t' := s.toks) (fun b o hb e => (sb.2 b hb).trans e) f0 f1 f3 f4 f5
    exact ⟨x, H, I1, ru, ⟨rfl, fun ys hy => by rw [I.tuple_inj hy hq]; exact hx⟩, st', fun b hb => (hf b hb).1⟩
  fin := by
    intro A X hP hw hK hh i pins s σ H Q I hf st hg
    subst hP hw hK
    obtain ⟨xs, hq, hx⟩ := hg
    obtain ⟨its, rv, p, hz⟩ := I.tuple hq
    obtain ⟨f0, f1, f2, f3, f4, f5⟩ := hf it (by simp)
    have hl := rv.length
    exact nextOf_tuple_end hh st (show s.heap.IsTuple a its.toArray from p) (by simp; omega) fun h' e eb ⟨o, ho, hc⟩ => ⟨I.turned (t' := s.toks) (fun b o hb e => eb b o hb e) f0 f1 f3 f4 f5, e, o, rfl, ho, hc⟩
def ItE (J : It) : It := ⟨J.go, fun i H x H' => ∃ y H1 p, J.yld i H y H1 ∧ H1 p = none ∧ x = .ref p ∧ H' = upd H1 p (.tup [.int i, y]), J.stop⟩
theorem FpOk.more {X : Cx} {pins : List (Addr × Obj)} {H : Hp} {b c : Addr} {h : Heap} (f : FpOk X pins H b) (hne : b ≠ c) : FpOk X (pins ++ pinsAt [c] h) H b := by
  obtain ⟨f0, f1, f2, f3, f4, f5⟩ := f
  refine ⟨f0, f1, f2, f3, f4, fun p hp z => ?_⟩
  rcases List.mem_append.mp hp with q | q
  · exact f5 p (List.mem_append_left _ q) z
  · rcases List.mem_append.mp q with q | q
    · exact f5 p (List.mem_append_right _ q) z
    · have := (of_pinsAt q).1
      have e : p.1 = c := by simpa using this
      exact hne (z ▸ e)
theorem turn_enum {P : Program} {w : World} {K : PySem.W.Frag} {elts : List Expr} {kx : Nat} {tp : Pos} {J : It} {fp : List Addr} {it e : Addr} {tn : Nat → Heap → Prop} (T : Draw P w K J fp it tn) (hne : ∀ b ∈ fp, b ≠ e) :
    Turn P w K (.Tuple elts kx tp) (ItE J) (e :: fp) e (fun i h => tn i h ∧ ∃ old, IsEnum h e it i old) where
  mem := List.mem_cons_self
  obj := fun i h st b hb => by
    rcases List.mem_cons.mp hb with rfl | hb
    · obtain ⟨_, old, he⟩ := st
      exact ⟨_, he, fun v z => by cases z⟩
    · exact T.obj i h st.1 b hb
  keep := fun i h h' st k => ⟨T.keep i h h' st.1 fun b hb o e => k b (List.mem_cons_of_mem _ hb) o e, by obtain ⟨_, old, he⟩ := st; exact ⟨old, k e List.mem_cons_self _ he⟩⟩
  item := by
    intro X hP hw hK hc i pins s σ H E I hf st hg
    subst hP hw hK
    obtain ⟨st, old, he⟩ := st
    have hT : s.TypeIs (.ref e) "enumerate" := ⟨_, he, rfl⟩
    have fe := hf e List.mem_cons_self
    obtain ⟨f0, f1, f2, f3, f4, f5⟩ := id fe
    unfold pyNext
    refine wpAny_bind (wpAny_attempt (wpAny_callSpecial?_slot (name := Str.ofString "__next__") hT F.slot_enumerate_next
      (wpAny_call_entry F.slot_enumerate_next hT F.entry_enumerate_next ?_ (F.args_enumerate_next_1 _))))
    show wpAny _ _ (field (.ref e) 2 >>= _) _ _ _
    refine wpAny_bind (wpAny_field he rfl (x := .ref it) rfl ?_)
    have I0 := I.pinned (fp := [e]) (fun b hb => by have z : b = e := by simpa using hb
                                                    subst z; exact fe) (fun b hb => by have z : b = e := by simpa using hb
                                                                                       subst z; exact ⟨_, he, fun v z => by cases z⟩)
    refine wpAny_bind (wpAny_mono (T.item _ X rfl rfl rfl i _ s σ H _ I0 (fun b hb => FpOk.more (hf b (List.mem_cons_of_mem _ hb)) (hne b hb)) st hg) (fun u s1 h1 => ?_) fun _ _ z => z)
    obtain ⟨x, H1, I1, rx, yl, st1, fr1⟩ := h1
    obtain ⟨he₁, f0', _⟩ := I1.pin _ (List.mem_append_right _ (List.mem_append_right _ (mem_pinsAt (fp := [e]) (by simp) he)))
    have he₁ : IsEnum s1.heap e it i old := he₁
    have f0' : H1 e = none := f0'
    have I1 := I1.unpinned
    obtain ⟨hp, g, d, tk, os⟩ := s1
    show wpAny _ _ (field (.ref e) 3 >>= _) _ _ _
    refine wpAny_bind (wpAny_field he₁ rfl (x := rawInt i) rfl ?_)
    show wpAny _ _ (field (.ref e) 4 >>= _) _ _ _
    refine wpAny_bind (wpAny_field he₁ rfl (x := .none) rfl ?_)
    show wpAny _ _ (mkInt i >>= _) _ _ _
    refine wpAny_bind (wpAny_mkInt ?_)
    show wpAny _ _ (setField (.ref e) 3 (rawInt ((i : Int) + 1)) >>= _) _ _ _
    refine wpAny_bind (wpAny_setField_rec he₁ (by simp) fun h₂ he₂ hs₂ => ?_)
    replace hs₂ : Heap.SameBut e hp h₂ := hs₂
    replace he₂ : IsEnum h₂ e it ((i : Int) + 1) old := he₂
    show wpAny _ _ (setField (.ref e) 4 .none >>= _) _ _ ⟨h₂, g, d, tk + 1, os⟩
    refine wpAny_bind (wpAny_setField_rec he₂ (by simp) fun h₃ he₃ hs₃ => ?_)
    replace hs₃ : Heap.SameBut e h₂ h₃ := hs₃
    replace he₃ : IsEnum h₃ e it ((i : Int) + 1) old := he₃
    have I3 : Inv X pins σ H1 ⟨h₃, g, d, tk + 1, os⟩ := I1.turned (t' := tk + 1) (fun b o hb q => (hs₃.2 b hb).trans ((hs₂.2 b hb).trans q)) f0' f1 f3 f4 f5
    show wpAny _ _ (newTuple [.int i tk, u] >>= _) _ _ ⟨h₃, g, d, tk + 1, os⟩
    refine wpAny_bind (wpAny_newTuple ?_)
    have he₄ : IsEnum (h₃.push { cls := .type "tuple", data := .seq #[.int i tk, u] }) e it ((i : Int) + 1) old := Heap.get?_push_of_some _ he₃
    have hf4 : H1 h₃.objs.size = none := I3.hok.fresh (Nat.le_refl _)
    have I4 : Inv X pins σ (upd H1 h₃.objs.size (.tup [.int i, x])) ⟨h₃.push { cls := .type "tuple", data := .seq #[.int i tk, u] }, g, d, tk + 1, os⟩ :=
      I3.laid (t' := tk + 1) (fun b u e => Heap.get?_push_of_some _ e) (Nat.le_refl _) ⟨by show 2 ≤ sizeLine; decide, [.int i tk, u], .cons ⟨tk, rfl⟩ (.cons rx .nil), ⟨_, Heap.get?_push_size _ rfl, rfl, _, rfl⟩⟩
    have hel : e < h₃.objs.size := Heap.lt_size he₃
    have fe4 : (upd H1 h₃.objs.size (.tup [.int i, x])) e = none := by rw [upd_ne (Nat.ne_of_lt hel)]; exact f0'
    generalize hh₄ : h₃.push { cls := .type "tuple", data := .seq #[.int i tk, u] } = h₄ at he₄ I4
    have st4 : tn (i + 1) h₄ := T.keep _ _ _ st1 fun b hb o q => by rw [← hh₄]; exact Heap.get?_push_of_some _ ((hs₃.2 b (hne b hb)).trans ((hs₂.2 b (hne b hb)).trans q))
    show wpAny _ _ (Builtin.SmallTypes.ownedTupleIsFree (.ref e) >>= _) _ _ ⟨h₄, g, d, tk + 1, os⟩
    refine wpAny_bind ?_
    unfold Builtin.SmallTypes.ownedTupleIsFree
    refine wpAny_bind (wpAny_field he₄ rfl (x := .none) rfl (wpAny_pure ?_))
    simp only [if_true]
    refine wpAny_bind (wpAny_rule ?_)
    refine wpAny_bind (wpAny_field he₄ rfl (x := old) rfl ?_)
    refine wpAny_bind (wpAny_setField_rec he₄ (by simp) fun h₅ he₅ hs₅ => ?_)
    replace hs₅ : Heap.SameBut e h₄ h₅ := hs₅
    replace he₅ : IsEnum h₅ e it ((i : Int) + 1) u := he₅
    show wpAny _ _ (Builtin.SmallTypes.ownedTupleHandOut (.ref e) (.ref h₃.objs.size) >>= _) _ _ ⟨h₅, g, d, tk + 1, os⟩
    refine wpAny_bind ?_
    unfold Builtin.SmallTypes.ownedTupleHandOut
    refine wpAny_bind (wpAny_setField_rec he₅ (by simp) fun h₆ he₆ hs₆ => ?_)
    replace hs₆ : Heap.SameBut e h₅ h₆ := hs₆
    replace he₆ : IsEnumOut h₆ e it ((i : Int) + 1) u h₃.objs.size := he₆
    refine wpAny_setField_rec he₆ (by simp) fun h₇ he₇ hs₇ => ?_
    replace hs₇ : Heap.SameBut e h₆ h₇ := hs₇
    replace he₇ : IsEnumOut h₇ e it ((i : Int) + 1) u h₃.objs.size := he₇
    refine wpAny_bind (wpAny_letGo (wpAny_pure ⟨_, rfl, wpAny_pure ⟨_, rfl, ?_⟩⟩))
    unfold letOwnedTupleGo
    refine wpAny_bind (wpAny_load he₇ ?_)
    show wpAny _ _ (if (["enumerate", "zip", "dict_itemiterator", "dict_reverseitemiterator", "odict_iterator", "itertools.zip_longest", "itertools.pairwise"].contains "enumerate" &&
      (#[rawInt h₃.objs.size, .bool false, .ref it, rawInt ((i : Int) + 1), .none, u] : Array Value)[0]? == some (rawInt h₃.objs.size)) = true then _ else _) _ _ _
    rw [if_pos (by simp)]
    refine wpAny_bind (wpAny_rule ?_)
    show wpAny _ _ (setField (.ref e) 0 .none) _ _ _
    refine wpAny_setField_rec he₇ (by simp) fun h₈ he₈ hs₈ => ?_
    replace hs₈ : Heap.SameBut e h₇ h₈ := hs₈
    replace he₈ : IsEnum h₈ e it ((i : Int) + 1) u := he₈
    have k8 : ∀ b o, b ≠ e → h₄.get? b = some o → h₈.get? b = some o := fun b o hb q => (hs₈.2 b hb).trans ((hs₇.2 b hb).trans ((hs₆.2 b hb).trans ((hs₅.2 b hb).trans q)))
    refine ⟨.ref h₃.objs.size, _, I4.turned (t' := tk + 1) (fun b o hb q => k8 b o hb q) fe4 f1 f3 f4 f5, rfl, ⟨x, H1, h₃.objs.size, yl, hf4, rfl, rfl⟩, ⟨T.keep _ _ _ st4 fun b hb o q => k8 b o (hne b hb) q, u, he₈⟩, fun b hb => ?_⟩
    rcases List.mem_cons.mp hb with rfl | hb
    · exact fe4
    · obtain ⟨o, q, _⟩ := T.obj _ _ st1 b hb
      have q3 : h₃.get? b = some o := (hs₃.2 b (hne b hb)).trans ((hs₂.2 b (hne b hb)).trans q)
      rw [upd_ne (Nat.ne_of_lt (Heap.lt_size q3))]
      exact fr1 b hb
  done := by
    intro X hP hw hK hc i pins s σ H E I hf st hg
    subst hP hw hK
    obtain ⟨st, old, he⟩ := st
    have hT : s.TypeIs (.ref e) "enumerate" := ⟨_, he, rfl⟩
    unfold pyNext
    refine wpAny_bind (wpAny_attempt (wpAny_callSpecial?_slot (name := Str.ofString "__next__") hT F.slot_enumerate_next
      (wpAny_call_entry F.slot_enumerate_next hT F.entry_enumerate_next ?_ (F.args_enumerate_next_1 _))))
    show wpAny _ _ (field (.ref e) 2 >>= _) _ _ _
    refine wpAny_bind (wpAny_field he rfl (x := .ref it) rfl ?_)
    refine wpAny_bind (wpAny_mono (T.fin X.A.in1 X rfl rfl rfl (I.ok.hd hc) i pins s σ H _ I (fun b hb => hf b (List.mem_cons_of_mem _ hb)) st hg) (fun u s1 z => z) fun e' s1 h1 => ?_)
    obtain ⟨I1, a, o, rfl, ho, hcl⟩ := h1
    refine wpAny_bind (wpAny_isInstance (T := "StopIteration") (b := true) ⟨o, ho, hcl⟩ isSubtype_stop ?_)
    exact wpAny_pure ⟨rfl, I1⟩
  self := fun A i s Q E st h => by
    obtain ⟨_, old, he⟩ := st
    have hT : s.TypeIs (.ref e) "enumerate" := ⟨_, he, rfl⟩
    refine wpAny_pyIter_slot hT F.slot_enumerate_iter (wpAny_call_entry F.slot_enumerate_iter hT F.entry_enumerate_iter ?_ (F.args_enumerate_iter_1 _))
    show wpAny _ _ (ret (.ref e)) _ _ s
    exact wpAny_pure ⟨_, rfl, "enumerate", _, hT, F.slot_enumerate_next.lookup, h⟩
end FL
set_option Elab.async false
set_option linter.all false
set_option maxRecDepth 100000
set_option maxHeartbeats 4000000
namespace FL
open PySem PySem.Spec PyProof.Rows L2
def ItZ (J1 J2 : It) : It := ⟨fun i H => J1.go i H ∧ ∀ x H1, J1.yld i H x H1 → J2.go i H1, fun i H x H' => ∃ y1 y2 H1 H2 p, J1.yld i H y1 H1 ∧ J2.yld i H1 y2 H2 ∧ H2 p = none ∧ x = .ref p ∧ H' = upd H2 p (.tup [y1, y2]),
  fun i H => J1.stop i H ∨ (J1.go i H ∧ ∀ x H1, J1.yld i H x H1 → H1 = H ∧ J2.stop i H)⟩
theorem FpOk.moreL {X : Cx} {pins : List (Addr × Obj)} {H : Hp} {b : Addr} {L : List Addr} {h : Heap} (f : FpOk X pins H b) (hne : b ∉ L) : FpOk X (pins ++ pinsAt L h) H b := by
  obtain ⟨f0, f1, f2, f3, f4, f5⟩ := f
  refine ⟨f0, f1, f2, f3, f4, fun p hp z => ?_⟩
  rcases List.mem_append.mp hp with q | q
  · exact f5 p (List.mem_append_left _ q) z
  · rcases List.mem_append.mp q with q | q
    · exact f5 p (List.mem_append_right _ q) z
    · have := (of_pinsAt q).1
      exact hne (z ▸ this)
theorem pin_of {X : Cx} {pins : List (Addr × Obj)} {L : List Addr} {h : Heap} {σ : St} {H : Hp} {s : Shared} (I : Inv X (pins ++ pinsAt L h) σ H s) {b : Addr} {o : Obj} (hb : b ∈ L) (e : h.get? b = some o) : s.heap.get? b = some o ∧ H b = none := by
  obtain ⟨q1, q2, _⟩ := I.pin _ (List.mem_append_right _ (List.mem_append_right _ (mem_pinsAt hb e)))
  exact ⟨q1, q2⟩
theorem turned1 {X : Cx} {pins : List (Addr × Obj)} {σ : St} {H : Hp} {s : Shared} {h' : Heap} {t' : Nat} {b : Addr} (I : Inv X pins σ H s) (hs : Heap.SameBut b s.heap h') (f : FpOk X pins H b) : Inv X pins σ H { s with heap := h', toks := t' } := by
  obtain ⟨f0, f1, f2, f3, f4, f5⟩ := f
  exact I.turned (t' := t') (fun c o hb q => (hs.2 c hb).trans q) f0 f1 f3 f4 f5
structure ZApart (z TI TO : Addr) (fp1 fp2 : List Addr) : Prop where
  a1 : z ≠ TI
  a2 : z ≠ TO
  a3 : TI ≠ TO
  z1 : ∀ b ∈ fp1 ++ fp2, b ≠ z
  z2 : ∀ b ∈ fp1 ++ fp2, b ≠ TI
  z3 : ∀ b ∈ fp1 ++ fp2, b ≠ TO
  d : ∀ b ∈ fp1, b ∉ fp2
section
variable {P : Program} {w : World} {K : PySem.W.Frag} {J1 J2 : It} {fp1 fp2 : List Addr} {i1 i2 z TI TO : Addr} {tn1 tn2 : Nat → Heap → Prop}
def tnZ (tn1 tn2 : Nat → Heap → Prop) (z TI TO i1 i2 : Addr) (i : Nat) (h : Heap) : Prop := tn1 i h ∧ tn2 i h ∧ IsZip h z TI TO .none ∧ IsPair h TI (.ref i1) (.ref i2) ∧ ∃ a b, IsPair h TO a b
theorem turn_zip {elts : List Expr} {kx : Nat} {tp : Pos} (D1 : Draw P w K J1 fp1 i1 tn1) (D2 : Draw P w K J2 fp2 i2 tn2) (Z : ZApart z TI TO fp1 fp2) :
    Turn P w K (.Tuple elts kx tp) (ItZ J1 J2) (z :: TI :: TO :: (fp1 ++ fp2)) z (tnZ tn1 tn2 z TI TO i1 i2) where
  mem := List.mem_cons_self
  obj := fun i h st b hb => by
    obtain ⟨s1, s2, hz, hTI, a, b', hTO⟩ := st
    rcases List.mem_cons.mp hb with rfl | hb
    · exact ⟨_, hz, fun v z => by cases z⟩
    rcases List.mem_cons.mp hb with rfl | hb
    · exact ⟨_, hTI, fun v z => by cases z⟩
    rcases List.mem_cons.mp hb with rfl | hb
    · exact ⟨_, hTO, fun v z => by cases z⟩
    rcases List.mem_append.mp hb with hb | hb
    · exact D1.obj i h s1 b hb
    · exact D2.obj i h s2 b hb
  keep := fun i h h' st k => by
    obtain ⟨s1, s2, hz, hTI, a, b', hTO⟩ := st
    refine ⟨D1.keep i h h' s1 fun b hb o e => k b (by simp [hb]) o e, D2.keep i h h' s2 fun b hb o e => k b (by simp [hb]) o e, k z (by simp) _ hz, k TI (by simp) _ hTI, a, b', k TO (by simp) _ hTO⟩
  item := by
    intro X hP hw hK hc i pins s σ H E I hf st hg
    subst hP hw hK
    obtain ⟨s1, s2, hz, hTI, a, b', hTO⟩ := st
    obtain ⟨g1, g2⟩ := hg
    have hT : s.TypeIs (.ref z) "zip" := ⟨_, hz, rfl⟩
    have fz := hf z (by simp)
    have fTI := hf TI (by simp)
    have fTO := hf TO (by simp)
    have ff1 : ∀ b ∈ fp1, FpOk X pins H b := fun b hb => hf b (by simp [hb])
    have ff2 : ∀ b ∈ fp2, FpOk X pins H b := fun b hb => hf b (by simp [hb])
    have n1z : ∀ b ∈ fp1, b ≠ z := fun b hb => Z.z1 b (by simp [hb])
    have n2z : ∀ b ∈ fp2, b ≠ z := fun b hb => Z.z1 b (by simp [hb])
    have n1I : ∀ b ∈ fp1, b ≠ TI := fun b hb => Z.z2 b (by simp [hb])
    have n2I : ∀ b ∈ fp2, b ≠ TI := fun b hb => Z.z2 b (by simp [hb])
    have n1O : ∀ b ∈ fp1, b ≠ TO := fun b hb => Z.z3 b (by simp [hb])
    have n2O : ∀ b ∈ fp2, b ≠ TO := fun b hb => Z.z3 b (by simp [hb])
    unfold pyNext
    refine wpAny_bind (wpAny_attempt (wpAny_callSpecial?_slot (name := Str.ofString "__next__") hT F.slot_zip_next (wpAny_call_entry F.slot_zip_next hT F.entry_zip_next ?_ (F.args_zip_next_1 _))))
    show wpAny _ _ (field (.ref z) 2 >>= _) _ _ _
    refine wpAny_bind (wpAny_field hz rfl (x := .bool false) rfl ?_)
    show wpAny _ _ (field (.ref z) 3 >>= _) _ _ _
    refine wpAny_bind (wpAny_field hz rfl (x := .ref TI) rfl ?_)
    refine wpAny_bind (wpAny_seqItems hTI rfl ?_)
    show wpAny _ _ (Builtin.SmallTypes.ownedTupleIsFree (.ref z) >>= _) _ _ _
    refine wpAny_bind ?_
    unfold Builtin.SmallTypes.ownedTupleIsFree
    refine wpAny_bind (wpAny_field hz rfl (x := .none) rfl (wpAny_pure ?_))
    simp only [if_true]
    refine wpAny_bind (wpAny_rule ?_)
    refine wpAny_bind (wpAny_field hz rfl (x := .ref TO) rfl ?_)
    refine wpAny_bind (wpAny_setField_rec hz (by simp) fun h₁ hz₁ hs₁ => ?_)
    replace hz₁ : IsZip h₁ z TI TO .ellipsis := hz₁
    have I1 : Inv X pins σ H { s with heap := h₁ } := turned1 (t' := s.toks) I hs₁ fz
    have hTI₁ : IsPair h₁ TI (.ref i1) (.ref i2) := (hs₁.2 TI (Ne.symm Z.a1)).trans hTI
    have hTO₁ : IsPair h₁ TO a b' := (hs₁.2 TO (Ne.symm Z.a2)).trans hTO
    have s1₁ : tn1 i h₁ := D1.keep _ _ _ s1 fun b hb o e => (hs₁.2 b (n1z b hb)).trans e
    have s2₁ : tn2 i h₁ := D2.keep _ _ _ s2 fun b hb o e => (hs₁.2 b (n2z b hb)).trans e
    refine wpAny_bind ?_
    simp only [List.zipIdx_cons, List.zipIdx_nil, List.forIn_cons, List.forIn_nil]
    refine wpAny_bind (wpAny_bind (wpAny_onRaise ?_))
    show wpAny _ _ (Builtin.SmallTypes.nextOf (.ref i1) >>= _) _ _ _
    have I1p := I1.pinned (fp := z :: TI :: TO :: fp2) (fun b hb => by
      rcases List.mem_cons.mp hb with rfl | hb
      · exact fz
      rcases List.mem_cons.mp hb with rfl | hb
      · exact fTI
      rcases List.mem_cons.mp hb with rfl | hb
      · exact fTO
      · exact ff2 b hb) (fun b hb => by
      rcases List.mem_cons.mp hb with rfl | hb
      · exact ⟨_, hz₁, fun v z => by cases z⟩
      rcases List.mem_cons.mp hb with rfl | hb
      · exact ⟨_, hTI₁, fun v z => by cases z⟩
      rcases List.mem_cons.mp hb with rfl | hb
      · exact ⟨_, hTO₁, fun v z => by cases z⟩
      · exact D2.obj _ _ s2₁ b hb)
    refine wpAny_bind (wpAny_mono (D1.item _ X rfl rfl rfl i _ _ σ H _ I1p (fun b hb => FpOk.moreL (ff1 b hb) (by
      intro hm
      rcases List.mem_cons.mp hm with e | hm
      · exact n1z b hb e
      rcases List.mem_cons.mp hm with e | hm
      · exact n1I b hb e
      rcases List.mem_cons.mp hm with e | hm
      · exact n1O b hb e
      · exact Z.d b hb hm)) s1₁ g1) (fun u1 s3 h3 => wpAny_pure ?_) fun _ _ z => z)
    obtain ⟨x1, H3, I3, r3, y3, st3, fr3⟩ := h3
    obtain ⟨hz₃, fz3⟩ := pin_of I3 (b := z) (by simp) hz₁
    obtain ⟨hTI₃, fTI3⟩ := pin_of I3 (b := TI) (by simp) hTI₁
    obtain ⟨hTO₃, fTO3⟩ := pin_of I3 (b := TO) (by simp) hTO₁
    have hz₃ : IsZip s3.heap z TI TO .ellipsis := hz₃
    have hTI₃ : IsPair s3.heap TI (.ref i1) (.ref i2) := hTI₃
    have hTO₃ : IsPair s3.heap TO a b' := hTO₃
    have s2₃ : tn2 i s3.heap := D2.keep _ _ _ s2₁ fun b hb o e => (pin_of I3 (by simp [hb]) e).1
    have ff2₃ : ∀ b ∈ fp2, H3 b = none := fun b hb => by
      obtain ⟨o, e, _⟩ := D2.obj _ _ s2₁ b hb
      exact (pin_of I3 (by simp [hb]) e).2
    have I3 := I3.unpinned
    refine wpAny_bind (wpAny_seqItems hTO₃ rfl ?_)
    refine wpAny_bind (wpAny_updateSeq_pair hTO₃ fun h₄ hTO₄ hs₄ => ?_)
    replace hTO₄ : IsPair h₄ TO u1 b' := hTO₄
    refine wpAny_bind (wpAny_letGo (wpAny_pure ?_))
    have I4 : Inv X pins σ H3 { s3 with heap := h₄ } := turned1 (t' := s3.toks) I3 hs₄ ⟨fTO3, fTO.2⟩
    have hz₄ : IsZip h₄ z TI TO .ellipsis := (hs₄.2 z Z.a2).trans hz₃
    have hTI₄ : IsPair h₄ TI (.ref i1) (.ref i2) := (hs₄.2 TI Z.a3).trans hTI₃
    have st4 : tn1 (i + 1) h₄ := D1.keep _ _ _ st3 fun b hb o e => (hs₄.2 b (n1O b hb)).trans e
    have s2₄ : tn2 i h₄ := D2.keep _ _ _ s2₃ fun b hb o e => (hs₄.2 b (n2O b hb)).trans e
    refine wpAny_bind (wpAny_bind (wpAny_onRaise ?_))
    show wpAny _ _ (Builtin.SmallTypes.nextOf (.ref i2) >>= _) _ _ _
    have I4p := I4.pinned (fp := z :: TI :: TO :: fp1) (fun b hb => by
      rcases List.mem_cons.mp hb with rfl | hb
      · exact ⟨fz3, fz.2⟩
      rcases List.mem_cons.mp hb with rfl | hb
      · exact ⟨fTI3, fTI.2⟩
      rcases List.mem_cons.mp hb with rfl | hb
      · exact ⟨fTO3, fTO.2⟩
      · exact ⟨fr3 b hb, (ff1 b hb).2⟩) (fun b hb => by
      rcases List.mem_cons.mp hb with rfl | hb
      · exact ⟨_, hz₄, fun v z => by cases z⟩
      rcases List.mem_cons.mp hb with rfl | hb
      · exact ⟨_, hTI₄, fun v z => by cases z⟩
      rcases List.mem_cons.mp hb with rfl | hb
      · exact ⟨_, hTO₄, fun v z => by cases z⟩
      · exact D1.obj _ _ st4 b hb)
    refine wpAny_bind (wpAny_mono (D2.item _ X rfl rfl rfl i _ _ σ H3 _ I4p (fun b hb => FpOk.moreL ⟨ff2₃ b hb, (ff2 b hb).2⟩ (by
      intro hm
      rcases List.mem_cons.mp hm with e | hm
      · exact n2z b hb e
      rcases List.mem_cons.mp hm with e | hm
      · exact n2I b hb e
      rcases List.mem_cons.mp hm with e | hm
      · exact n2O b hb e
      · exact Z.d b hm hb)) s2₄ (g2 _ _ y3)) (fun u2 s5 h5 => wpAny_pure ?_) fun _ _ z => z)
    obtain ⟨x2, H5, I5, r5, y5, st5, fr5⟩ := h5
    obtain ⟨hz₅, fz5⟩ := pin_of I5 (b := z) (by simp) hz₄
    obtain ⟨hTI₅, fTI5⟩ := pin_of I5 (b := TI) (by simp) hTI₄
    obtain ⟨hTO₅, fTO5⟩ := pin_of I5 (b := TO) (by simp) hTO₄
    have hz₅ : IsZip s5.heap z TI TO .ellipsis := hz₅
    have hTI₅ : IsPair s5.heap TI (.ref i1) (.ref i2) := hTI₅
    have hTO₅ : IsPair s5.heap TO u1 b' := hTO₅
    have st5' : tn1 (i + 1) s5.heap := D1.keep _ _ _ st4 fun b hb o e => (pin_of I5 (by simp [hb]) e).1
    have ff1₅ : ∀ b ∈ fp1, H5 b = none := fun b hb => by
      obtain ⟨o, e, _⟩ := D1.obj _ _ st4 b hb
      exact (pin_of I5 (by simp [hb]) e).2
    have I5 := I5.unpinned
    refine wpAny_bind (wpAny_seqItems hTO₅ rfl ?_)
    refine wpAny_bind (wpAny_updateSeq_pair hTO₅ fun h₆ hTO₆ hs₆ => ?_)
    replace hTO₆ : IsPair h₆ TO u1 u2 := hTO₆
    refine wpAny_bind (wpAny_letGo (wpAny_pure (wpAny_pure ?_)))
    have I6 : Inv X pins σ H5 { s5 with heap := h₆ } := turned1 (t' := s5.toks) I5 hs₆ ⟨fTO5, fTO.2⟩
    have hz₆ : IsZip h₆ z TI TO .ellipsis := (hs₆.2 z Z.a2).trans hz₅
    have hTI₆ : IsPair h₆ TI (.ref i1) (.ref i2) := (hs₆.2 TI Z.a3).trans hTI₅
    have st6 : tn1 (i + 1) h₆ := D1.keep _ _ _ st5' fun b hb o e => (hs₆.2 b (n1O b hb)).trans e
    have st6' : tn2 (i + 1) h₆ := D2.keep _ _ _ st5 fun b hb o e => (hs₆.2 b (n2O b hb)).trans e
    refine wpAny_bind (wpAny_seqItems hTO₆ rfl ?_)
    refine wpAny_bind (wpAny_newTuple ?_)
    have hf7 : H5 h₆.objs.size = none := I6.hok.fresh (Nat.le_refl _)
    have I7 : Inv X pins σ (upd H5 h₆.objs.size (.tup [x1, x2])) { s5 with heap := h₆.push { cls := .type "tuple", data := .seq #[u1, u2] } } :=
      I6.laid (t' := s5.toks) (fun b u e => Heap.get?_push_of_some _ e) (Nat.le_refl _) ⟨by show 2 ≤ sizeLine; decide, [u1, u2], .cons r3 (.cons r5 .nil), ⟨_, Heap.get?_push_size _ rfl, rfl, _, rfl⟩⟩
    have lz : z < h₆.objs.size := Heap.lt_size hz₆
    have lTI : TI < h₆.objs.size := Heap.lt_size hTI₆
    have lTO : TO < h₆.objs.size := Heap.lt_size hTO₆
    show wpAny _ _ (Builtin.SmallTypes.ownedTupleHandOut (.ref z) (.ref h₆.objs.size) >>= _) _ _ _
    refine wpAny_bind ?_
    unfold Builtin.SmallTypes.ownedTupleHandOut
    have hz₇ : IsZip (h₆.push { cls := .type "tuple", data := .seq #[u1, u2] }) z TI TO .ellipsis := Heap.get?_push_of_some _ hz₆
    refine wpAny_bind (wpAny_setField_rec hz₇ (by simp) fun h₈ hz₈ hs₈ => ?_)
    replace hz₈ : IsZip h₈ z TI TO (rawInt h₆.objs.size) := hz₈
    refine wpAny_setField_rec hz₈ (by simp) fun h₉ hz₉ hs₉ => ?_
    replace hz₉ : IsZip h₉ z TI TO (rawInt h₆.objs.size) := hz₉
    refine wpAny_pure ⟨_, rfl, wpAny_pure ⟨_, rfl, ?_⟩⟩
    refine wpAny_letOwnedTupleGo_zip hz₉ fun h₀ hz₀ hs₀ => ?_
    have up : ∀ c o, c ≠ z → h₆.get? c = some o → h₀.get? c = some o := fun c o hc e => (hs₀.2 c hc).trans ((hs₉.2 c hc).trans ((hs₈.2 c hc).trans (Heap.get?_push_of_some _ e)))
    have fz7 : (upd H5 h₆.objs.size (.tup [x1, x2])) z = none := by rw [upd_ne (Nat.ne_of_lt lz)]; exact fz5
    refine ⟨.ref h₆.objs.size, _, I7.turned (t' := s5.toks) (fun b o hb q => (hs₀.2 b hb).trans ((hs₉.2 b hb).trans ((hs₈.2 b hb).trans q))) fz7 fz.2.1 fz.2.2.2.1 fz.2.2.2.2.1 fz.2.2.2.2.2, rfl, ⟨x1, x2, H3, H5, _, y3, y5, hf7, rfl, rfl⟩,
      ⟨D1.keep _ _ _ st6 fun b hb o e => up b o (n1z b hb) e, D2.keep _ _ _ st6' fun b hb o e => up b o (n2z b hb) e, hz₀, up _ _ (Ne.symm Z.a1) hTI₆, _, _, up _ _ (Ne.symm Z.a2) hTO₆⟩, fun b hb => ?_⟩
    have old : ∀ b, b < h₆.objs.size → H5 b = none → (upd H5 h₆.objs.size (.tup [x1, x2])) b = none := fun b hl hn => by rw [upd_ne (Nat.ne_of_lt hl)]; exact hn
    rcases List.mem_cons.mp hb with rfl | hb
    · exact fz7
    rcases List.mem_cons.mp hb with rfl | hb
    · exact old _ lTI fTI5
    rcases List.mem_cons.mp hb with rfl | hb
    · exact old _ lTO fTO5
    rcases List.mem_append.mp hb with hb | hb
    · obtain ⟨o, q, _⟩ := D1.obj _ _ st6 b hb
      exact old b (Heap.lt_size q) (ff1₅ b hb)
    · obtain ⟨o, q, _⟩ := D2.obj _ _ st6' b hb
      exact old b (Heap.lt_size q) (fr5 b hb)
  done := by
    intro X hP hw hK hc i pins s σ H E I hf st hg
    subst hP hw hK
    obtain ⟨s1, s2, hz, hTI, a, b', hTO⟩ := st
    have hT : s.TypeIs (.ref z) "zip" := ⟨_, hz, rfl⟩
    have fz := hf z (by simp)
    have fTI := hf TI (by simp)
    have fTO := hf TO (by simp)
    have ff1 : ∀ b ∈ fp1, FpOk X pins H b := fun b hb => hf b (by simp [hb])
    have ff2 : ∀ b ∈ fp2, FpOk X pins H b := fun b hb => hf b (by simp [hb])
    have n1z : ∀ b ∈ fp1, b ≠ z := fun b hb => Z.z1 b (by simp [hb])
    have n2z : ∀ b ∈ fp2, b ≠ z := fun b hb => Z.z1 b (by simp [hb])
    have n1I : ∀ b ∈ fp1, b ≠ TI := fun b hb => Z.z2 b (by simp [hb])
    have n2I : ∀ b ∈ fp2, b ≠ TI := fun b hb => Z.z2 b (by simp [hb])
    have n1O : ∀ b ∈ fp1, b ≠ TO := fun b hb => Z.z3 b (by simp [hb])
    have n2O : ∀ b ∈ fp2, b ≠ TO := fun b hb => Z.z3 b (by simp [hb])
    unfold pyNext
    refine wpAny_bind (wpAny_attempt (wpAny_callSpecial?_slot (name := Str.ofString "__next__") hT F.slot_zip_next (wpAny_call_entry F.slot_zip_next hT F.entry_zip_next ?_ (F.args_zip_next_1 _))))
    show wpAny _ _ (field (.ref z) 2 >>= _) _ _ _
    refine wpAny_bind (wpAny_field hz rfl (x := .bool false) rfl ?_)
    show wpAny _ _ (field (.ref z) 3 >>= _) _ _ _
    refine wpAny_bind (wpAny_field hz rfl (x := .ref TI) rfl ?_)
    refine wpAny_bind (wpAny_seqItems hTI rfl ?_)
    show wpAny _ _ (Builtin.SmallTypes.ownedTupleIsFree (.ref z) >>= _) _ _ _
    refine wpAny_bind ?_
    unfold Builtin.SmallTypes.ownedTupleIsFree
    refine wpAny_bind (wpAny_field hz rfl (x := .none) rfl (wpAny_pure ?_))
    simp only [if_true]
    refine wpAny_bind (wpAny_rule ?_)
    refine wpAny_bind (wpAny_field hz rfl (x := .ref TO) rfl ?_)
    refine wpAny_bind (wpAny_setField_rec hz (by simp) fun h₁ hz₁ hs₁ => ?_)
    replace hz₁ : IsZip h₁ z TI TO .ellipsis := hz₁
    have I1 : Inv X pins σ H { s with heap := h₁ } := turned1 (t' := s.toks) I hs₁ fz
    have hTI₁ : IsPair h₁ TI (.ref i1) (.ref i2) := (hs₁.2 TI (Ne.symm Z.a1)).trans hTI
    have hTO₁ : IsPair h₁ TO a b' := (hs₁.2 TO (Ne.symm Z.a2)).trans hTO
    have s1₁ : tn1 i h₁ := D1.keep _ _ _ s1 fun b hb o e => (hs₁.2 b (n1z b hb)).trans e
    have s2₁ : tn2 i h₁ := D2.keep _ _ _ s2 fun b hb o e => (hs₁.2 b (n2z b hb)).trans e
    have I1p := I1.pinned (fp := z :: TI :: TO :: fp2) (fun b hb => by
      rcases List.mem_cons.mp hb with rfl | hb
      · exact fz
      rcases List.mem_cons.mp hb with rfl | hb
      · exact fTI
      rcases List.mem_cons.mp hb with rfl | hb
      · exact fTO
      · exact ff2 b hb) (fun b hb => by
      rcases List.mem_cons.mp hb with rfl | hb
      · exact ⟨_, hz₁, fun v z => by cases z⟩
      rcases List.mem_cons.mp hb with rfl | hb
      · exact ⟨_, hTI₁, fun v z => by cases z⟩
      rcases List.mem_cons.mp hb with rfl | hb
      · exact ⟨_, hTO₁, fun v z => by cases z⟩
      · exact D2.obj _ _ s2₁ b hb)
    have out1 : ∀ b ∈ fp1, FpOk X (pins ++ pinsAt (z :: TI :: TO :: fp2) h₁) H b := fun b hb => FpOk.moreL (ff1 b hb) (by
      intro hm
      rcases List.mem_cons.mp hm with e | hm
      · exact n1z b hb e
      rcases List.mem_cons.mp hm with e | hm
      · exact n1I b hb e
      rcases List.mem_cons.mp hm with e | hm
      · exact n1O b hb e
      · exact Z.d b hb hm)
    refine wpAny_bind ?_
    simp only [List.zipIdx_cons, List.zipIdx_nil, List.forIn_cons, List.forIn_nil]
    refine wpAny_bind (wpAny_bind (wpAny_onRaise ?_))
    show wpAny _ _ (Builtin.SmallTypes.nextOf (.ref i1) >>= _) _ _ _
    rcases hg with hg | ⟨g1, hg⟩
    · refine wpAny_bind (wpAny_mono (D1.fin X.A.in1 X rfl rfl rfl (I.ok.hd hc) i _ _ σ H _ I1p out1 s1₁ hg) (fun _ _ z => z) fun e s3 h3 => ?_)
      obtain ⟨I3, c, o, rfl, ho, hcl⟩ := h3
      obtain ⟨hz₃, fz3⟩ := pin_of I3 (b := z) (by simp) hz₁
      have hz₃ : IsZip s3.heap z TI TO .ellipsis := hz₃
      have hcz : c ≠ z := fun x => by subst x; rw [hz₃] at ho; cases ho; simp at hcl
      refine wpAny_setField_rec hz₃ (by simp) fun h₄ hz₄ hs₄ => ?_
      refine wpAny_bind (wpAny_isInstance (T := "StopIteration") (b := true) ⟨o, (hs₄.2 c hcz).trans ho, hcl⟩ isSubtype_stop ?_)
      exact wpAny_pure ⟨rfl, turned1 (t' := s3.toks) I3.unpinned hs₄ ⟨fz3, fz.2⟩⟩
    · refine wpAny_bind (wpAny_mono (D1.item _ X rfl rfl rfl i _ _ σ H _ I1p out1 s1₁ g1) (fun u1 s3 h3 => wpAny_pure ?_) fun _ _ z => z)
      obtain ⟨x1, H3, I3, r3, y3, st3, fr3⟩ := h3
      obtain ⟨rfl, hst⟩ := hg _ _ y3
      obtain ⟨hz₃, fz3⟩ := pin_of I3 (b := z) (by simp) hz₁
      obtain ⟨hTI₃, fTI3⟩ := pin_of I3 (b := TI) (by simp) hTI₁
      obtain ⟨hTO₃, fTO3⟩ := pin_of I3 (b := TO) (by simp) hTO₁
      have hz₃ : IsZip s3.heap z TI TO .ellipsis := hz₃
      have hTO₃ : IsPair s3.heap TO a b' := hTO₃
      have s2₃ : tn2 i s3.heap := D2.keep _ _ _ s2₁ fun b hb o e => (pin_of I3 (by simp [hb]) e).1
      have I3 := I3.unpinned
      refine wpAny_bind (wpAny_seqItems hTO₃ rfl ?_)
      refine wpAny_bind (wpAny_updateSeq_pair hTO₃ fun h₄ hTO₄ hs₄ => ?_)
      refine wpAny_bind (wpAny_letGo (wpAny_pure ?_))
      have I4 : Inv X pins σ H3 { s3 with heap := h₄ } := turned1 (t' := s3.toks) I3 hs₄ ⟨fTO3, fTO.2⟩
      have hz₄ : IsZip h₄ z TI TO .ellipsis := (hs₄.2 z Z.a2).trans hz₃
      have s2₄ : tn2 i h₄ := D2.keep _ _ _ s2₃ fun b hb o e => (hs₄.2 b (n2O b hb)).trans e
      refine wpAny_bind (wpAny_bind (wpAny_onRaise ?_))
      show wpAny _ _ (Builtin.SmallTypes.nextOf (.ref i2) >>= _) _ _ _
      have I4p := I4.pinned (fp := [z]) (fun b hb => by
        have e : b = z := by simpa using hb
        subst e; exact ⟨fz3, fz.2⟩) (fun b hb => by
        have e : b = z := by simpa using hb
        subst e; exact ⟨_, hz₄, fun v z => by cases z⟩)
      refine wpAny_bind (wpAny_mono (D2.fin X.A.in1 X rfl rfl rfl (I.ok.hd hc) i _ _ σ H3 _ I4p (fun b hb => FpOk.moreL (ff2 b hb) (by
        intro hm
        exact n2z b hb (by simpa using hm))) s2₄ hst) (fun _ _ z => z) fun e s5 h5 => ?_)
      obtain ⟨I5, c, o, rfl, ho, hcl⟩ := h5
      obtain ⟨hz₅, fz5⟩ := pin_of I5 (b := z) (by simp) hz₄
      have hz₅ : IsZip s5.heap z TI TO .ellipsis := hz₅
      have hcz : c ≠ z := fun x => by subst x; rw [hz₅] at ho; cases ho; simp at hcl
      refine wpAny_setField_rec hz₅ (by simp) fun h₆ hz₆ hs₆ => ?_
      refine wpAny_bind (wpAny_isInstance (T := "StopIteration") (b := true) ⟨o, (hs₆.2 c hcz).trans ho, hcl⟩ isSubtype_stop ?_)
      exact wpAny_pure ⟨rfl, turned1 (t' := s5.toks) I5.unpinned hs₆ ⟨fz5, fz.2⟩⟩
  self := fun A i s Q E st h => wpAny_pyIter_zip st.2.2.1 h
end
end FL
set_option Elab.async false
set_option linter.all false
set_option maxRecDepth 100000
set_option maxHeartbeats 4000000
namespace FL
open PySem PySem.Spec PyProof.Rows L2
def SqH (b : Bool) (h : Heap) (a : Addr) (its : Array Value) : Prop := if b = true then h.IsList a its else h.IsTuple a its
def itObj (b : Bool) (a : Addr) : Obj := { cls := .type (if b = true then "list_iterator" else "tuple_iterator"), data := .fields #[.ref a, .int 0 0] }
theorem SqH.push {b : Bool} {h : Heap} {a : Addr} {its : Array Value} (q : SqH b h a its) (o : Obj) : SqH b (h.push o) a its := by
  cases b with
  | true => exact Heap.IsList.push q o
  | false => exact Heap.IsTuple.push q o
section
variable {prog : Program} {w : World} {A : Around} {E : Value → Shared → Prop} {s : Shared}
theorem pyIter_sq {b : Bool} {a : Addr} {its : Array Value} {Q : Value → Shared → Prop} (q : SqH b s.heap a its) (h : Q (.ref s.heap.objs.size) { s with heap := s.heap.push (itObj b a) }) : wpAny (model prog w) A (pyIter (.ref a)) Q E s := by
  cases b with
  | true => exact wpAny_pyIter_list q h
  | false => exact wpAny_pyIter_tuple q h
theorem meets_enum (b : Bool) (a : Addr) (its : Array Value) :
    Meets (Builtin.«enumerate.__new__» ⟨[.type "enumerate", .ref a], []⟩) (fun _ R s => SqH b s.heap a its ∧
      R (.ok (.ret (.ref (s.heap.push (itObj b a)).objs.size))) { s with heap := (s.heap.push (itObj b a)).push { cls := .type "enumerate", data := .fields #[.none, .bool false, .ref s.heap.objs.size, rawInt 0, .none, .none] } }) :=
  .of_wp fun prog w A R s h => by
    obtain ⟨hp, g, d, tk, os⟩ := s; obtain ⟨hl, h⟩ := h
    have hsub := sub_enumerate
    have hL : SqH b (Shared.heap ⟨hp, g, d, tk, os⟩) a its := hl
    wp_walk using pyIter_sq hL
    refine wpAny_stack_any fun st => wpAny_pure ?_
    split
    · rename_i c _ _ _ _ _
      cases (c == Value.type "enumerate")
      · wp_walk using pyIter_sq hL
        exact ⟨_, rfl, h⟩
      · wp_walk using pyIter_sq hL
        exact ⟨_, rfl, h⟩
    · wp_walk using pyIter_sq hL
      exact ⟨_, rfl, h⟩
theorem call_enum {b : Bool} {a : Addr} {its : Array Value} {Q : Value → Shared → Prop} (hL : SqH b s.heap a its)
    (h : ∀ h', IsEnum h' (s.heap.objs.size + 1) s.heap.objs.size 0 .none → h'.get? s.heap.objs.size = some (itObj b a) → (∀ b o, s.heap.get? b = some o → h'.get? b = some o) → Q (.ref (s.heap.objs.size + 1)) { s with heap := h' }) :
    wpAny (model prog w) A (call (.type "enumerate") [.ref a]) Q E s := by
  refine callType_new F.called_enumerate (by decide) (F.typeCall_enumerate_1 _) (F.newCall_enumerate_1 _) (fun obj => F.args_object_init_2 obj _) F.entry_enumerate_new (meets_enum b a its) ⟨hL, ?_⟩
  have hz : (s.heap.push (itObj b a)).objs.size = s.heap.objs.size + 1 := Heap.size_push ..
  show _ ∧ _
  rw [hz]
  have he : IsEnum ((s.heap.push (itObj b a)).push { cls := .type "enumerate", data := .fields #[.none, .bool false, .ref s.heap.objs.size, rawInt 0, .none, .none] }) (s.heap.objs.size + 1) s.heap.objs.size 0 .none := by
    have := Heap.get?_push_size (s.heap.push (itObj b a)) (o := { cls := .type "enumerate", data := .fields #[.none, .bool false, .ref s.heap.objs.size, rawInt 0, .none, .none] }) rfl
    rw [hz] at this; exact this
  exact ⟨⟨_, he, rfl⟩, h _ he (Heap.get?_push_of_some _ (Heap.get?_push_size _ rfl)) fun b o x => Heap.get?_push_of_some _ (Heap.get?_push_of_some _ x)⟩
theorem meets_zip (b1 b2 : Bool) (l1 l2 : Addr) (xs ys : Array Value) :
    Meets (Builtin.«zip.__new__» ⟨[.type "zip", .ref l1, .ref l2], []⟩) (fun _ R s => SqH b1 s.heap l1 xs ∧ SqH b2 s.heap l2 ys ∧
      R (.ok (.ret (.ref ((((s.heap.push (itObj b1 l1)).push (itObj b2 l2)).push { cls := .type "tuple", data := .seq #[.ref s.heap.objs.size, .ref (s.heap.push (itObj b1 l1)).objs.size] }).push { cls := .type "tuple", data := .seq #[.none, .none] }).objs.size)))
        { s with heap := ((((s.heap.push (itObj b1 l1)).push (itObj b2 l2)).push { cls := .type "tuple", data := .seq #[.ref s.heap.objs.size, .ref (s.heap.push (itObj b1 l1)).objs.size] }).push { cls := .type "tuple", data := .seq #[.none, .none] }).push ({ cls := .type "zip", data := .fields #[.none, .bool false, .bool false, .ref ((s.heap.push (itObj b1 l1)).push (itObj b2 l2)).objs.size, .ref (((s.heap.push (itObj b1 l1)).push (itObj b2 l2)).push { cls := .type "tuple", data := .seq #[.ref s.heap.objs.size, .ref (s.heap.push (itObj b1 l1)).objs.size] }).objs.size] } : Obj) }) :=
  .of_wp fun prog w A R s h => by
    obtain ⟨hp, g, d, tk, os⟩ := s; obtain ⟨hl1, hl2, h⟩ := h
    have hsub := sub_zip
    have hL1 : SqH b1 (Shared.heap ⟨hp, g, d, tk, os⟩) l1 xs := hl1
    have hL2 : SqH b2 (Shared.heap ⟨hp.push (itObj b1 l1), g, d, tk, os⟩) l2 ys := SqH.push hl2 _
    wp_walk using pyIter_sq hL1, pyIter_sq hL2
    exact ⟨_, rfl, h⟩
theorem call_zip {b1 b2 : Bool} {l1 l2 : Addr} {xs ys : Array Value} {Q : Value → Shared → Prop} (hl1 : SqH b1 s.heap l1 xs) (hl2 : SqH b2 s.heap l2 ys)
    (h : ∀ h', IsZip h' (s.heap.objs.size + 4) (s.heap.objs.size + 2) (s.heap.objs.size + 3) .none → IsPair h' (s.heap.objs.size + 2) (.ref s.heap.objs.size) (.ref (s.heap.objs.size + 1)) →
      IsPair h' (s.heap.objs.size + 3) .none .none → h'.get? s.heap.objs.size = some (itObj b1 l1) → h'.get? (s.heap.objs.size + 1) = some (itObj b2 l2) → (∀ c o, s.heap.get? c = some o → h'.get? c = some o) → Q (.ref (s.heap.objs.size + 4)) { s with heap := h' }) :
    wpAny (model prog w) A (call (.type "zip") [.ref l1, .ref l2]) Q E s := by
  refine callType_new F.called_zip (by decide) (F.typeCall_zip_2 _ _) (F.newCall_zip_2 _ _) (fun obj => F.args_object_init_3 obj _ _) F.entry_zip_new (meets_zip b1 b2 l1 l2 xs ys) ⟨hl1, hl2, ?_⟩
  generalize e1 : s.heap.push (itObj b1 l1) = h1
  generalize e2 : h1.push (itObj b2 l2) = h2
  generalize e3 : h2.push { cls := .type "tuple", data := .seq #[.ref s.heap.objs.size, .ref h1.objs.size] } = h3
  generalize e4 : h3.push { cls := .type "tuple", data := .seq #[.none, .none] } = h4
  have z1 : h1.objs.size = s.heap.objs.size + 1 := by rw [← e1]; exact Heap.size_push ..
  have z2 : h2.objs.size = s.heap.objs.size + 2 := by rw [← e2, Heap.size_push, z1]
  have z3 : h3.objs.size = s.heap.objs.size + 3 := by rw [← e3, Heap.size_push, z2]
  have z4 : h4.objs.size = s.heap.objs.size + 4 := by rw [← e4, Heap.size_push, z3]
  have k1 : ∀ c o, s.heap.get? c = some o → h1.get? c = some o := fun c o x => by rw [← e1]; exact Heap.get?_push_of_some _ x
  have k2 : ∀ c o, h1.get? c = some o → h2.get? c = some o := fun c o x => by rw [← e2]; exact Heap.get?_push_of_some _ x
  have k3 : ∀ c o, h2.get? c = some o → h3.get? c = some o := fun c o x => by rw [← e3]; exact Heap.get?_push_of_some _ x
  have k4 : ∀ c o, h3.get? c = some o → h4.get? c = some o := fun c o x => by rw [← e4]; exact Heap.get?_push_of_some _ x
  have g1 : h1.get? s.heap.objs.size = some (itObj b1 l1) := by rw [← e1]; exact Heap.get?_push_size _ rfl
  have g2 : h2.get? h1.objs.size = some (itObj b2 l2) := by rw [← e2]; exact Heap.get?_push_size _ rfl
  have g3 : IsPair h3 h2.objs.size (.ref s.heap.objs.size) (.ref h1.objs.size) := by show h3.get? h2.objs.size = _; rw [← e3]; exact Heap.get?_push_size _ rfl
  have g4 : IsPair h4 h3.objs.size .none .none := by show h4.get? h3.objs.size = _; rw [← e4]; exact Heap.get?_push_size _ rfl
  show _ ∧ _
  rw [z2, z3, z4]
  rw [z1] at g2
  rw [z1, z2] at g3
  rw [z3] at g4
  have g5 : IsZip (h4.push { cls := .type "zip", data := .fields #[.none, .bool false, .bool false, .ref (s.heap.objs.size + 2), .ref (s.heap.objs.size + 3)] }) (s.heap.objs.size + 4) (s.heap.objs.size + 2) (s.heap.objs.size + 3) .none := by
    have := Heap.get?_push_size h4 (o := { cls := .type "zip", data := .fields #[.none, .bool false, .bool false, .ref (s.heap.objs.size + 2), .ref (s.heap.objs.size + 3)] }) rfl
    rw [z4] at this; exact this
  exact ⟨⟨_, g5, rfl⟩, h _ g5 (Heap.get?_push_of_some _ (k4 _ _ g3)) (Heap.get?_push_of_some _ g4) (Heap.get?_push_of_some _ (k4 _ _ (k3 _ _ (k2 _ _ g1)))) (Heap.get?_push_of_some _ (k4 _ _ (k3 _ _ g2))) fun c o x => Heap.get?_push_of_some _ (k4 _ _ (k3 _ _ (k2 _ _ (k1 _ _ x))))⟩
theorem pyIter_enum {e it : Addr} {i : Int} {old : Value} {Q : Value → Shared → Prop} (he : IsEnum s.heap e it i old) (h : Q (.ref e) s) : wpAny (model prog w) A (pyIter (.ref e)) Q E s := by
  have hT : s.TypeIs (.ref e) "enumerate" := ⟨_, he, rfl⟩
  refine wpAny_pyIter_slot hT F.slot_enumerate_iter (wpAny_call_entry F.slot_enumerate_iter hT F.entry_enumerate_iter ?_ (F.args_enumerate_iter_1 _))
  show wpAny _ _ (ret (.ref e)) _ _ s
  exact wpAny_pure ⟨_, rfl, "enumerate", _, hT, F.slot_enumerate_next.lookup, h⟩
end
end FL
set_option Elab.async false
set_option linter.all false
set_option maxRecDepth 100000
set_option maxHeartbeats 4000000
namespace FL
open PySem PySem.Spec PyProof.Rows L2
theorem walks_list {K : PySem.W.Frag} {Hf : Hp} {a : Addr} {xs : List V} {ds : List D} (qa : SqL K Hf a xs) (la : HasL K Hf ds xs) : Walks K Hf (Itl K a) ds := fun H2 Hf2 t2 sf2 i => by
  refine ⟨fun d hd => ?_, fun hle => ⟨xs, sf2.seq (t2.seq qa), by rw [la.length]; exact hle⟩⟩
  obtain ⟨v, e3, e4⟩ := la.get hd
  have sq : SqL K H2 a xs := sf2.seq (t2.seq qa)
  refine ⟨⟨xs, v, sq, e3⟩, fun x H3 hy => ?_⟩
  obtain ⟨rfl, hy⟩ := hy
  have := hy xs sq
  rw [e3] at this
  cases this
  exact ⟨Hf2, Grows.refl sf2, e4.mono t2⟩
theorem walks_tup {K : PySem.W.Frag} {Hf : Hp} {a : Addr} {xs : List V} {ds : List D} (qa : SqT K Hf a xs) (la : HasL K Hf ds xs) : Walks K Hf (Itt K a) ds := fun H2 Hf2 t2 sf2 i => by
  refine ⟨fun d hd => ?_, fun hle => ⟨xs, sameT sf2 (sameT t2 qa), by rw [la.length]; exact hle⟩⟩
  obtain ⟨v, e3, e4⟩ := la.get hd
  have sq : SqT K H2 a xs := sameT sf2 (sameT t2 qa)
  refine ⟨⟨xs, v, sq, e3⟩, fun x H3 hy => ?_⟩
  obtain ⟨rfl, hy⟩ := hy
  have := hy xs sq
  rw [e3] at this
  cases this
  exact ⟨Hf2, Grows.refl sf2, e4.mono t2⟩
theorem Grows.lay {H Hf : Hp} {p : Addr} {o : HO} (s : Same Hf H) (hp : H p = none) : Grows H Hf (upd H p o) (upd Hf p o) := by
  have hfp : Hf p = none := s.free hp
  refine ⟨same_upd hp, same_upd hfp, fun b u e => ?_, fun b u e => ?_⟩
  · by_cases hb : b = p
    · subst hb; rw [upd_same] at e ⊢; exact e
    · rw [upd_ne hb] at e ⊢; exact s b u e
  · by_cases hb : b = p
    · subst hb; exact .inr (.inl hp)
    · rw [upd_ne hb] at e; exact .inl e
def enumD (ds : List D) : List D := ds.zipIdx.map fun p => .tup [.int (p.2 : Int), p.1]
theorem enumD_get {ds : List D} {i : Nat} {d : D} (h : (enumD ds)[i]? = some d) : ∃ x, ds[i]? = some x ∧ d = .tup [.int i, x] := by
  unfold enumD at h
  rw [List.getElem?_map, List.getElem?_zipIdx] at h
  cases e : ds[i]? with
  | none => rw [e] at h; cases h
  | some x => rw [e] at h; simp at h; exact ⟨x, rfl, h.symm⟩
theorem enumD_length (ds : List D) : (enumD ds).length = ds.length := by simp [enumD]
theorem walks_enum {K : PySem.W.Frag} {Hf : Hp} {J : It} {ds : List D} (wk : Walks K Hf J ds) : Walks K Hf (ItE J) (enumD ds) := fun H2 Hf2 t2 sf2 i => by
  obtain ⟨w1, w2⟩ := wk H2 Hf2 t2 sf2 i
  refine ⟨fun d hd => ?_, fun hle => w2 (by rw [enumD_length] at hle; exact hle)⟩
  obtain ⟨x, hx, rfl⟩ := enumD_get hd
  obtain ⟨go, yl⟩ := w1 x hx
  refine ⟨go, fun v H3 hy => ?_⟩
  obtain ⟨y, H1, p, hy, hp, rfl, rfl⟩ := hy
  obtain ⟨Hf1, gr, hh⟩ := yl y H1 hy
  have g2 := Grows.lay (o := .tup [.int i, y]) gr.fh hp
  exact ⟨_, gr.trans g2, Has.tup_iff.mpr ⟨p, _, rfl, SqT.of upd_same, .cons (Has.int_iff.mpr rfl) (.cons (hh.mono g2.f) .nil)⟩⟩
def zipD (xs ys : List D) : List D := (xs.zip ys).map fun p => .tup [p.1, p.2]
theorem zipD_get {xs ys : List D} {i : Nat} {d : D} (h : (zipD xs ys)[i]? = some d) : ∃ x y, xs[i]? = some x ∧ ys[i]? = some y ∧ d = .tup [x, y] := by
  unfold zipD at h
  rw [List.getElem?_map] at h
  cases e : (xs.zip ys)[i]? with
  | none => rw [e] at h; cases h
  | some p =>
    rw [e] at h
    simp at h
    obtain ⟨h1, h2⟩ := List.getElem?_zip_eq_some.mp e
    exact ⟨p.1, p.2, h1, h2, h.symm⟩
theorem zipD_length (xs ys : List D) : (zipD xs ys).length = min xs.length ys.length := by simp [zipD]
theorem walks_zip {K : PySem.W.Frag} {Hf : Hp} {J1 J2 : It} {xs ys : List D} (hq : ∀ i H x H', J1.yld i H x H' → H' = H) (w1 : Walks K Hf J1 xs) (w2 : Walks K Hf J2 ys) : Walks K Hf (ItZ J1 J2) (zipD xs ys) := fun H2 Hf2 t2 sf2 i => by
  obtain ⟨a1, a2⟩ := w1 H2 Hf2 t2 sf2 i
  obtain ⟨b1, b2⟩ := w2 H2 Hf2 t2 sf2 i
  refine ⟨fun d hd => ?_, fun hle => ?_⟩
  · obtain ⟨x, y, hx, hy, rfl⟩ := zipD_get hd
    obtain ⟨go1, yl1⟩ := a1 x hx
    obtain ⟨go2, yl2⟩ := b1 y hy
    refine ⟨⟨go1, fun v H1 q => by rw [hq _ _ _ _ q]; exact go2⟩, fun v H3 q => ?_⟩
    obtain ⟨y1, y2, H1, H2', p, q1, q2, hp, rfl, rfl⟩ := q
    have e1 := hq _ _ _ _ q1
    subst e1
    obtain ⟨Hf1, gr1, h1⟩ := yl1 y1 _ q1
    obtain ⟨Hf3, gr3, h3⟩ := (w2 H1 Hf1 (t2.trans gr1.f) gr1.fh i).1 y hy |>.2 y2 _ q2
    have g2 := Grows.lay (o := .tup [y1, y2]) gr3.fh hp
    exact ⟨_, (gr1.trans gr3).trans g2, Has.tup_iff.mpr ⟨p, _, rfl, SqT.of upd_same, .cons ((h1.mono gr3.f).mono g2.f) (.cons (h3.mono g2.f) .nil)⟩⟩
  · rw [zipD_length] at hle
    by_cases h : xs.length ≤ i
    · exact .inl (a2 h)
    · have hx : xs[i]? = some xs[i] := List.getElem?_eq_getElem (by omega)
      exact .inr ⟨(a1 _ hx).1, fun v H1 q => ⟨hq _ _ _ _ q, b2 (by omega)⟩⟩
section
variable {X : Cx} {e e1 e2 : Expr} {f f1 f2 : FE} {pos : Pos} {elts : List Expr} {kx : Nat} {tp : Pos}
theorem fp_new {pins : List (Addr × Obj)} {σ : St} {H : Hp} {s : Shared} (I : Inv X pins σ H s) {b : Addr} (hb : s.heap.objs.size ≤ b) : FpOk X pins H b := I.fpOk hb (I.hok.fresh hb)
def seqOf : D → Option (List D)
  | .lst ds => some ds
  | .tup ds => some ds
  | _ => none
def seqItems (f : FE) : FA := fun ρ => (f ρ).bind seqOf
def itemsE (f : FE) : FA := fun ρ => (seqItems f ρ).bind fun ds => some (enumD ds)
def itemsZ (f g : FE) : FA := fun ρ => (seqItems f ρ).bind fun xs => (seqItems g ρ).bind fun ys => some (zipD xs ys)
theorem src_of {pins : List (Addr × Obj)} {σ : St} {H Hf : Hp} {s : Shared} {d : D} {ds : List D} {v : V} {u : Value} (I : Inv X pins σ H s) (sf : Same Hf H) (h : Has X.K Hf d v) (hd : seqOf d = some ds) (r : RelV v u) :
    ∃ (b : Bool) (a : Addr) (its : Array Value) (J : It), u = .ref a ∧ SqH b s.heap a its ∧ Walks X.K Hf J ds ∧ (∀ i H x H', J.yld i H x H' → H' = H) ∧
      ∀ it, ∃ tn : Nat → Heap → Prop, Draw X.prog X.w X.K J [it] it tn ∧ ∀ h : Heap, h.get? it = some (itObj b a) → tn 0 h := by
  cases d with
  | lst ds' =>
    cases hd
    obtain ⟨a, xs, rfl, qa, la⟩ := Has.lst_iff.mp h
    cases r
    obtain ⟨its, _, p, _⟩ := I.list (sf.seq qa)
    exact ⟨true, a, _, _, rfl, p.isList, walks_list qa la, fun _ _ _ _ q => q.1, fun it => ⟨_, draw_list a it, fun h e => ⟨_, e, rfl, rfl⟩⟩⟩
  | tup ds' =>
    cases hd
    obtain ⟨a, xs, rfl, qa, la⟩ := Has.tup_iff.mp h
    cases r
    obtain ⟨its, _, p, _⟩ := I.tuple (sameT sf qa)
    exact ⟨false, a, _, _, rfl, p, walks_tup qa la, fun _ _ _ _ q => q.1, fun it => ⟨_, draw_tuple a it, fun h e => ⟨_, e, rfl, rfl⟩⟩⟩
  | _ => cases hd
theorem di_enum {p : Pos} (hg : Gl X "enumerate") (hm : X.mg "enumerate" = none) (he : DE X e f) (hs : starEach [e] X.env = [(false, eval e X.env)] := by rfl) : DI X (.Tuple elts kx tp) (.Call (.Name "enumerate" p) [e] [] pos) (itemsE f) := by
  intro pins s σ H R I h
  obtain ⟨H₀, Hf₀, ρ, Hf, ds', R0, q, k⟩ := h
  obtain ⟨ds, q1, q2⟩ := bindA_some q
  cases q2
  obtain ⟨d, q3, q4⟩ := bindV_some q1
  refine Call_ (ld_blt I hg hm boot_enumerate (PyProof.Rows.callWith_type1 (thn ((pa_cons he pa_nil hs) pos pins s σ H (fun vs H1 => ∃ v Hf1, vs = [v] ∧ Rep X.K H₀ Hf₀ σ ρ H1 Hf1 ∧ Same H H1 ∧ Same Hf Hf1 ∧ Has X.K Hf1 d v) I ⟨H₀, Hf₀, ρ, Hf, d, R0, q3, fun v H1 Hf1 R1 s1 t1 h1 => ⟨v, Hf1, rfl, R1, s1, t1, h1⟩⟩) fun us s1 ⟨vs, H1, I1, r1, q1⟩ => ?_) hs rfl))
  obtain ⟨v, Hf1, rfl, R1, s1', t1, h1⟩ := q1
  cases r1 with
  | cons r rr =>
    cases rr
    obtain ⟨b, a, its, J, rfl, sq, wk, _, dr⟩ := src_of I1 R1.sf h1 q4 r
    refine call_enum sq fun h' he' hi' hk => ?_
    have I2 : Inv X pins σ H1 { s1 with heap := h' } := I1.kept (t' := s1.toks) hk
    obtain ⟨tn, D, st⟩ := dr s1.heap.objs.size
    refine pyIter_enum he' ⟨s1.heap.objs.size + 1, [s1.heap.objs.size + 1, s1.heap.objs.size], _, _, H1, rfl, I2, turn_enum (elts := elts) (kx := kx) (tp := tp) (e := s1.heap.objs.size + 1) D (fun b hb => by
      have e : b = s1.heap.objs.size := by simpa using hb
      rw [e]; exact Nat.ne_of_lt (Nat.lt_succ_self _)), ⟨st _ hi', _, he'⟩, fun b hb => ?_, k _ _ _ R1 s1' t1 (walks_enum wk)⟩
    rcases List.mem_cons.mp hb with rfl | hb
    · exact fp_new I1 (Nat.le_succ _)
    · have e : b = s1.heap.objs.size := by simpa using hb
      rw [e]; exact fp_new I1 (Nat.le_refl _)
theorem di_zip {p : Pos} (hg : Gl X "zip") (hm : X.mg "zip" = none) (h1 : DE X e1 f1) (h2 : DE X e2 f2) (hs : starEach [e1, e2] X.env = [(false, eval e1 X.env), (false, eval e2 X.env)] := by rfl) (hs2 : starEach [e2] X.env = [(false, eval e2 X.env)] := by rfl) :
    DI X (.Tuple elts kx tp) (.Call (.Name "zip" p) [e1, e2] [] pos) (itemsZ f1 f2) := by
  intro pins s σ H R I h
  obtain ⟨H₀, Hf₀, ρ, Hf, ds', R0, q, k⟩ := h
  obtain ⟨xs, q1, q2⟩ := bindA_some q
  obtain ⟨ys, q5, q6⟩ := bindA_some q2
  cases q6
  obtain ⟨d1, q3, q4⟩ := bindV_some q1
  obtain ⟨d2, q7, q8⟩ := bindV_some q5
  refine Call_ (ld_blt I hg hm boot_zip (PyProof.Rows.callWith_type1 (thn ((pa_cons h1 (pa_cons h2 pa_nil hs2) (by rw [hs, hs2])) pos pins s σ H (fun vs H1 => ∃ v v' Hf1, vs = [v, v'] ∧ Rep X.K H₀ Hf₀ σ ρ H1 Hf1 ∧ Same H H1 ∧ Same Hf Hf1 ∧ Has X.K Hf1 d1 v ∧ Has X.K Hf1 d2 v') I
    ⟨H₀, Hf₀, ρ, Hf, d1, R0, q3, fun v H1 Hf1 R1 s1 t1 h1 => ⟨H₀, Hf₀, ρ, Hf1, d2, R1, q7, fun v' H2 Hf2 R2 s2 t2 h2 => ⟨v, v', Hf2, rfl, R2, s1.trans s2, t1.trans t2, h1.mono t2, h2⟩⟩⟩) fun us s1 ⟨vs, H1, I1, r1, q1⟩ => ?_) (by rw [hs, hs2]) (by rw [hs2]; rfl)))
  obtain ⟨v, v', Hf1, rfl, R1, s1', t1, hv, hv'⟩ := q1
  cases r1 with
  | cons r rr =>
    cases rr with
    | cons r' rr =>
      cases rr
      obtain ⟨b, a, its, J, rfl, sq, wk, hq, dr⟩ := src_of I1 R1.sf hv q4 r
      obtain ⟨b', a', its', J', rfl, sq', wk', hq', dr'⟩ := src_of I1 R1.sf hv' q8 r'
      refine call_zip sq sq' fun h' hz hTI hTO hi hi' hk => ?_
      have I2 : Inv X pins σ H1 { s1 with heap := h' } := I1.kept (t' := s1.toks) hk
      obtain ⟨tn, D, st⟩ := dr s1.heap.objs.size
      obtain ⟨tn', D', st'⟩ := dr' (s1.heap.objs.size + 1)
      have mem : ∀ b : Addr, b ∈ [s1.heap.objs.size] ++ [s1.heap.objs.size + 1] → b = s1.heap.objs.size ∨ b = s1.heap.objs.size + 1 := fun b hb => by simpa using hb
      have Z : ZApart (s1.heap.objs.size + 4) (s1.heap.objs.size + 2) (s1.heap.objs.size + 3) [s1.heap.objs.size] [s1.heap.objs.size + 1] :=
        ⟨by show (_ : Nat) ≠ _; omega, by show (_ : Nat) ≠ _; omega, by show (_ : Nat) ≠ _; omega, fun b hb => by rcases mem b hb with e | e <;> (rw [e]; show (_ : Nat) ≠ _; omega), fun b hb => by rcases mem b hb with e | e <;> (rw [e]; show (_ : Nat) ≠ _; omega),
          fun b hb => by rcases mem b hb with e | e <;> (rw [e]; show (_ : Nat) ≠ _; omega), fun b hb hb' => by
            have e1 : b = s1.heap.objs.size := by simpa using hb
            have e2 : b = s1.heap.objs.size + 1 := by simpa using hb'
            rw [e1] at e2
            exact absurd e2 (Nat.ne_of_lt (Nat.lt_succ_self _))⟩
      refine wpAny_pyIter_zip hz ⟨_, _, _, _, H1, rfl, I2, turn_zip (elts := elts) (kx := kx) (tp := tp) D D' Z, ⟨st _ hi, st' _ hi', hz, hTI, _, _, hTO⟩, fun b hb => ?_, k _ _ _ R1 s1' t1 (walks_zip hq wk wk')⟩
      have hle : s1.heap.objs.size ≤ b := by
        have : b = s1.heap.objs.size + 4 ∨ b = s1.heap.objs.size + 2 ∨ b = s1.heap.objs.size + 3 ∨ b = s1.heap.objs.size ∨ b = s1.heap.objs.size + 1 := by simpa using hb
        rcases this with e | e | e | e | e <;> (rw [e]; show (_ : Nat) ≤ _; omega)
      exact fp_new I1 hle
end
end FL
set_option Elab.async false
set_option linter.all false
set_option maxRecDepth 100000
set_option maxHeartbeats 4000000
namespace FL
open PySem PySem.Spec PyProof.Rows L2
section
variable {prog : Program} {w : World} {A : Around} {E : Value → Shared → Prop} {s : Shared}
theorem getItem_tuple_all {t sl : Addr} {items : Array Value} {vl vu : Value} {lo hi : Option Int} {Q : Value → Shared → Prop} (ht : IsTup s.heap t items) (hs : s.heap.IsSliceOf sl vl vu .none) (pl : IsPart vl lo) (pu : IsPart vu hi)
    (hw : HT.sIx items.size 0 lo = 0 ∧ HT.sIx items.size items.size hi = items.size) (h : Q (.ref t) s) : wpAny (model prog w) A (getItem (.ref t) (.ref sl)) Q E s := by
  obtain ⟨os, hos, hcs, hds⟩ := id hs
  have hTs : s.TypeIs (.ref sl) "slice" := ⟨os, hos, hcs⟩
  unfold getItem
  try with_reducible refine wpAny_holding ?_
  first | refine wpAny_bind (wpAny_pure ?_) | skip
  refine wpAny_bind (wpAny_sequenceKey ht.typeIs (by decide) ?_)
  refine wpAny_bind (wpAny_callSpecial?_slot (name := Str.ofString "__getitem__") ht.typeIs PyProof.Rows.slot_tuple_getitem
    (wpAny_call_entry PyProof.Rows.slot_tuple_getitem ht.typeIs entry_tuple_getitem ?_ (args_tuple_getitem _ _)))
  show wpAny _ _ (Builtin.Tuple.tupleItemsOf (.ref t) >>= _) _ _ s
  refine wpAny_bind (tupleItemsOf_ ht ?_)
  refine wpAny_bind (wpAny_typeOf hTs ?_)
  rw [if_pos (by decide)]
  refine wpAny_bind (HT.sliceApplied_gen hs pl pu ?_)
  rw [hw.1, hw.2]
  show wpAny _ _ (if (((0 : Nat) : Int) == 0 && (1 : Int) == 1 && (items.size - 0) == items.size) = true then _ else _) _ _ s
  rw [if_pos (by simp)]
  show wpAny _ _ (Builtin.Tuple.tupleIsExact (.ref t) >>= _) _ _ s
  unfold Builtin.Tuple.tupleIsExact
  refine wpAny_bind (wpAny_bind (wpAny_typeOf ht.typeIs (wpAny_pure ?_)))
  rw [if_pos (by decide)]
  refine wpAny_bind (wpAny_rule ?_)
  exact wpAny_pure ⟨_, rfl, wpAny_pure h⟩
theorem adjust_rev (n : Nat) : Builtin.Slice.sliceAdjust none none (-1) (n : Int) = ((n : Int) - 1, -1) := by
  unfold Builtin.Slice.sliceAdjust
  simp
theorem places_rev (n : Nat) : Builtin.Slice.slicePlaces ((n : Int) - 1) (-1) (-1) = n := by
  unfold Builtin.Slice.slicePlaces
  have h1 : ¬ ((-1 : Int) > 0) := by omega
  simp only [h1, if_false]
  split <;> simp <;> omega
theorem sliceApplied_rev {sl : Addr} {t : Tok} {n : Nat} {Q : Int × Int × Nat → Shared → Prop} (hs : s.heap.IsSliceOf sl .none .none (.int (-1) t)) (h : Q ((n : Int) - 1, -1, n) s) : wpAny (model prog w) A (Builtin.Slice.sliceApplied (.ref sl) (pure (n : Int))) Q E s := by
  obtain ⟨os, hos, hcs, hds⟩ := id hs
  unfold Builtin.Slice.sliceApplied Builtin.Slice.sliceFields
  refine wpAny_bind (wpAny_bind (wpAny_field hos hds (x := .none) rfl (wpAny_bind (wpAny_field hos hds (x := .none) rfl (wpAny_bind (wpAny_field hos hds (x := .int (-1) t) rfl (wpAny_pure ?_)))))))
  refine wpAny_bind (slicePart_int ?_)
  show wpAny _ _ (if ((-1 : Int) == 0) = true then _ else _) _ _ s
  rw [if_neg (by decide)]
  refine wpAny_bind (slicePart_none (wpAny_bind (slicePart_none (wpAny_bind (wpAny_pure ?_)))))
  show wpAny _ _ (match Builtin.Slice.sliceAdjust none none (-1) (n : Int) with | (lo, hi) => pure (lo, (-1 : Int), Builtin.Slice.slicePlaces lo hi (-1))) _ _ s
  rw [adjust_rev n]
  show wpAny _ _ (pure ((n : Int) - 1, (-1 : Int), Builtin.Slice.slicePlaces ((n : Int) - 1) (-1) (-1))) _ _ s
  rw [places_rev]
  exact wpAny_pure h
theorem pick_rev (xs : Array Value) : ((List.range xs.size).filterMap fun (m : Nat) => xs[(((xs.size : Nat) : Int) - 1 + (m : Int) * (-1)).toNat]?).toArray = xs.toList.reverse.toArray := by
  have e : ((List.range xs.size).filterMap fun (m : Nat) => xs[(((xs.size : Nat) : Int) - 1 + (m : Int) * (-1)).toNat]?) = xs.toList.reverse := by
    apply List.ext_getElem?
    intro i
    have f : (List.range xs.size).filterMap (fun (m : Nat) => xs[(((xs.size : Nat) : Int) - 1 + (m : Int) * (-1)).toNat]?) = (List.range xs.size).map (fun (m : Nat) => xs.toList.reverse.getD m .none) := by
      have gen : ∀ l : List Nat, (∀ m ∈ l, m < xs.size) → l.filterMap (fun (m : Nat) => xs[(((xs.size : Nat) : Int) - 1 + (m : Int) * (-1)).toNat]?) = l.map (fun (m : Nat) => xs.toList.reverse.getD m .none) := by
        intro l
        induction l with
        | nil => intro _; rfl
        | cons m l ih =>
          intro hl
          have hm' : m < xs.size := hl m List.mem_cons_self
          have : (((xs.size : Nat) : Int) - 1 + (m : Int) * (-1)).toNat = xs.size - 1 - m := by omega
          have h2 : xs.size - 1 - m < xs.size := by omega
          rw [List.filterMap_cons, this, Array.getElem?_eq_getElem h2, List.map_cons, ih fun k hk => hl k (List.mem_cons_of_mem _ hk)]
          simp [List.getD_eq_getElem?_getD, List.getElem?_reverse, hm']
      exact gen _ fun m hm => by simpa using hm
    rw [f, List.getElem?_map]
    by_cases hi : i < xs.size
    · rw [List.getElem?_range hi]
      simp [List.getD_eq_getElem?_getD, List.getElem?_reverse, hi]
    · rw [List.getElem?_eq_none (by simpa using hi), List.getElem?_eq_none (by simp; omega)]
      rfl
  rw [e]
theorem getItem_tuple_rev {t sl : Addr} {tk : Tok} {items : Array Value} {Q : Value → Shared → Prop} (ht : IsTup s.heap t items) (hs : s.heap.IsSliceOf sl .none .none (.int (-1) tk))
    (h : Q (.ref s.heap.objs.size) { s with heap := s.heap.push { cls := .type "tuple", data := .seq items.toList.reverse.toArray } }) (hsz : items.size ≤ sizeLine) : wpAny (model prog w) A (getItem (.ref t) (.ref sl)) Q E s := by
  have hrev : sizeOk (.seq items.toList.reverse.toArray) := by
    show items.toList.reverse.toArray.size ≤ sizeLine
    simpa using hsz
  obtain ⟨os, hos, hcs, hds⟩ := id hs
  have hTs : s.TypeIs (.ref sl) "slice" := ⟨os, hos, hcs⟩
  unfold getItem
  try with_reducible refine wpAny_holding ?_
  first | refine wpAny_bind (wpAny_pure ?_) | skip
  refine wpAny_bind (wpAny_sequenceKey ht.typeIs (by decide) ?_)
  refine wpAny_bind (wpAny_callSpecial?_slot (name := Str.ofString "__getitem__") ht.typeIs PyProof.Rows.slot_tuple_getitem
    (wpAny_call_entry PyProof.Rows.slot_tuple_getitem ht.typeIs entry_tuple_getitem ?_ (args_tuple_getitem _ _)))
  show wpAny _ _ (Builtin.Tuple.tupleItemsOf (.ref t) >>= _) _ _ s
  refine wpAny_bind (tupleItemsOf_ ht ?_)
  refine wpAny_bind (wpAny_typeOf hTs ?_)
  rw [if_pos (by decide)]
  refine wpAny_bind (sliceApplied_rev hs ?_)
  show wpAny _ _ (if ((((items.size : Nat) : Int) - 1) == 0 && (-1 : Int) == 1 && items.size == items.size) = true then _ else _) _ _ s
  rw [if_neg (by simp), pick_rev]
  first
    | exact wpAny_bind (m := Builtin.Tuple.tupleExact _) (wpAny_newObj_type (wpAny_pure ⟨_, rfl, wpAny_pure h⟩) hrev)
    | exact wpAny_bind (m := Builtin.Tuple.tupleExact _) (wpAny_newObj_type (wpAny_bind (wpAny_pure (wpAny_pure ⟨_, rfl, wpAny_pure h⟩))) hrev)
    | exact wpAny_bind (wpAny_bind (m := Builtin.Tuple.tupleExact _) (wpAny_newObj_type (wpAny_pure (wpAny_pure ⟨_, rfl, wpAny_pure h⟩)) hrev))
    | exact wpAny_bind (wpAny_bind (m := Builtin.Tuple.tupleExact _) (wpAny_newObj_type (wpAny_pure ⟨_, rfl, wpAny_pure h⟩) hrev))
open PySem.AutoSeq1 (wpAny_loadPart') in
theorem tuple_addW0 (l b : Addr) (items2 : Array Value) (n n2 : Nat) (dd dd2 : Option Addr) (sl sl2 : Array (Option Value)) :
    Meets (Builtin.«tuple.__add__» ⟨[.ref l, .ref b], []⟩) (fun _ R s => s.heap.get? l = some { cls := .type "tuple", dict := dd, data := .seq #[] n, slots := sl } ∧ s.heap.get? b = some { cls := .type "tuple", dict := dd2, data := .seq items2 n2, slots := sl2 } ∧ R (.ok (.ret (.ref b))) s) :=
  .of_wp fun prog w A R s h => by
    obtain ⟨hp, g, d, tk, os⟩ := s; obtain ⟨hl, hb, h⟩ := h
    have f2 := AutoSeq1.sub_tuple_tuple
    wp_walk using wpAny_loadPart' hl, wpAny_loadPart' hb
    exact ⟨_, rfl, h⟩
theorem cat_tup0 {t b : Addr} {ws : List Value} {Q : Value → Shared → Prop} (ht : IsTup s.heap t #[]) (hb : IsTup s.heap b ws.toArray) (h : Q (.ref b) s) : wpAny (model prog w) A (binaryOp .Add (.ref t) (.ref b)) Q E s := by
  obtain ⟨⟨cls, dd, data, sl⟩, ho, hc, n, hd⟩ := id ht
  obtain ⟨⟨cls2, dd2, data2, sl2⟩, ho2, hc2, n2, hd2⟩ := id hb
  simp only at hc hd hc2 hd2
  subst hc hd hc2 hd2
  exact concat_meets ⟨_, ho, rfl⟩ ⟨_, ho2, rfl⟩ noFill_tuple_add seq_tuple_add PySem.F.slot_tuple_add PySem.F.entry_tuple_add (PySem.F.args_tuple_add_2 _ _) (tuple_addW0 t b ws.toArray n n2 dd dd2 sl sl2) ⟨ho, ho2, h⟩
end
end FL
set_option Elab.async false
set_option linter.all false
set_option maxRecDepth 100000
set_option maxHeartbeats 4000000
namespace FL
open PySem PySem.Spec PyProof.Rows L2
section
variable {X : Cx}
def rCatTG (K : PySem.W.Frag) : R2 := fun x y H Q => ∃ a b xs ys, x = .ref a ∧ y = .ref b ∧ SqT K H a xs ∧ SqT K H b ys ∧ xs.length + ys.length ≤ sizeLine ∧
  (xs = [] → Q (.ref b) H) ∧ (xs ≠ [] → ys = [] → Q (.ref a) H) ∧ (xs ≠ [] → ys ≠ [] → ∀ p, H p = none → Q (.ref p) (upd H p (.tup (xs ++ ys))))
theorem op_catTG : OpR X (binaryOp .Add) (rCatTG X.K) := by
  intro pins s σ H x y v u Q I rx ry h
  obtain ⟨a, b, xs, ys, rfl, rfl, ha, hb, hz, q0, q1, q2⟩ := h
  by_cases hx : xs = []
  · subst hx
    cases rx
    cases ry
    obtain ⟨its, r1, p1, _⟩ := I.tuple ha
    obtain ⟨its2, r2, p2, _⟩ := I.tuple hb
    cases r1
    exact cat_tup0 p1 p2 ⟨.ref b, H, I, rfl, q0 rfl⟩
  · exact op_catT pins s σ H _ _ v u Q I rx ry ⟨a, b, xs, ys, rfl, rfl, ha, hb, hx, hz, q1 hx, q2 hx⟩
def rCatLG (K : PySem.W.Frag) : R2 := fun x y H Q => ∃ a b xs ys, x = .ref a ∧ y = .ref b ∧ SqL K H a xs ∧ SqL K H b ys ∧ xs.length + ys.length ≤ sizeLine ∧ ∀ p, H p = none → Q (.ref p) (upd H p (.lst (xs ++ ys)))
theorem op_catLG : OpR X (binaryOp .Add) (rCatLG X.K) := by
  intro pins s σ H x y v u Q I rx ry h
  obtain ⟨a, b, xs, ys, rfl, rfl, ha, hb, hz, q⟩ := h
  cases rx
  cases ry
  obtain ⟨its, r1, p1, _⟩ := I.list ha
  obtain ⟨its2, r2, p2, _⟩ := I.list hb
  obtain ⟨⟨cls, dd, data, sl⟩, ho, hc, n, hd⟩ := id p1.isList
  obtain ⟨⟨cls2, dd2, data2, sl2⟩, ho2, hc2, n2, hd2⟩ := id p2.isList
  simp only at hc hd hc2 hd2
  subst hc hd hc2 hd2
  have e : its.toArray ++ its2.toArray = (its ++ its2).toArray := by simp
  have hsz : its.toArray.size + its2.toArray.size ≤ sizeLine := by
    rw [List.size_toArray, List.size_toArray, ← r1.length, ← r2.length]; exact hz
  refine concat_meets ⟨_, ho, rfl⟩ ⟨_, ho2, rfl⟩ noFill_list_add seq_list_add PySem.F.slot_list_add PySem.F.entry_list_add (PySem.F.args_list_add_2 _ _) (list_addW a b its.toArray its2.toArray n n2 dd dd2 sl sl2 hsz) ⟨ho, ho2, ?_⟩
  rw [e]
  exact ⟨.ref _, _, I.lnew (t' := s.toks) (r1.append r2) (by rw [List.length_append]; exact hz), rfl, q _ I.fresh⟩
def rAddX (K : PySem.W.Frag) : R2 := fun x y H Q => rI0 (fun i j => .int (i + j)) x y H Q ∨ (∃ i j, x = .str i ∧ y = .str j ∧ i.length + j.length ≤ sizeLine ∧ Q (.str (i ++ j)) H) ∨ rCatTG K x y H Q ∨ rCatLG K x y H Q
theorem op_addX : OpR X (binaryOp .Add) (rAddX X.K) := op_add.or (op_add_str.or (op_catTG.or op_catLG))
def addX : D → D → Option D
  | .int i, .int j => some (.int (i + j))
  | .str x, .str y => if x.length + y.length ≤ sizeLine then some (.str (x ++ y)) else none
  | .tup xs, .tup ys => if xs.length + ys.length ≤ sizeLine then some (.tup (xs ++ ys)) else none
  | .lst xs, .lst ys => if xs.length + ys.length ≤ sizeLine then some (.lst (xs ++ ys)) else none
  | _, _ => none
theorem HasL.nil_of {K : PySem.W.Frag} {H : Hp} {ds : List D} {xs : List V} (h : HasL K H ds xs) : xs = [] ↔ ds = [] := by
  have := h.length
  constructor
  · intro e; subst e; exact List.eq_nil_of_length_eq_zero this.symm
  · intro e; subst e; exact List.eq_nil_of_length_eq_zero this
theorem HasR.tupF {K : PySem.W.Frag} {Hf : Hp} {σ : St} {ρ : Rho} {ds : List D} {v : V} (h : HasR K Hf σ ρ (.tup ds) v) : Has K Hf (.tup ds) v := by
  rcases h with h | ⟨_, _, e, _⟩
  · exact h
  · cases e
theorem opD_addX : OpD X (rAddX X.K) addX := by
  intro σ ρ H₀ Hf₀ H Hf x y dx dy d Q R hx hy hφ k
  unfold addX at hφ
  split at hφ
  · cases hφ
    exact .inl ⟨_, _, hx.int, hy.int, k _ _ _ R sameR sameR (Has.int_iff.mpr rfl)⟩
  · split at hφ
    · cases hφ
      exact .inr (.inl ⟨_, _, hx.str, hy.str, by assumption, k _ _ _ R sameR sameR (Has.str_iff.mpr rfl)⟩)
    · cases hφ
  · split at hφ
    · cases hφ
      rename_i xs ys hz
      obtain ⟨a, vs, rfl, qa, la⟩ := hx.tup R
      obtain ⟨b, ws, rfl, qb, lb⟩ := hy.tup R
      refine .inr (.inr (.inl ⟨a, b, vs, ws, rfl, rfl, qa, qb, by rw [la.length, lb.length]; exact hz, fun e => ?_, fun _ e => ?_, fun _ _ p hp => ?_⟩))
      · cases la.nil_of.mp e
        exact k _ _ _ R sameR sameR (by rw [List.nil_append]; exact hy.tupF)
      · cases lb.nil_of.mp e
        exact k _ _ _ R sameR sameR (by rw [List.append_nil]; exact hx.tupF)
      · have sm := same_upd (o := .tup (vs ++ ws)) (R.sf.free hp)
        exact k _ _ _ (R.lay hp) (same_upd hp) sm (Has.tup_iff.mpr ⟨p, _, rfl, SqT.of upd_same, (la.append lb).mono sm⟩)
    · cases hφ
  · split at hφ
    · cases hφ
      rename_i xs ys hz
      obtain ⟨a, vs, rfl, qa, la⟩ := hx.lst R
      obtain ⟨b, ws, rfl, qb, lb⟩ := hy.lst R
      refine .inr (.inr (.inr ⟨a, b, vs, ws, rfl, rfl, qa, qb, by rw [la.length, lb.length]; exact hz, fun p hp => ?_⟩))
      have sm := same_upd (o := .lst (vs ++ ws)) (R.sf.free hp)
      exact k _ _ _ (R.lay hp) (same_upd hp) sm (Has.lst_iff.mpr ⟨p, _, rfl, SqL.of upd_same, (la.append lb).mono sm⟩)
    · cases hφ
  · cases hφ
variable {a b c e : Expr} {f g h : FE} {pos p2 : Pos}
theorem d_addX (ha : DR X a f) (hb : DR X b g) : DE X (.BinOp a .Add b pos) (bind2 addX f g) := d_op op_addX opD_addX ha hb
abbrev FP := Rho → Option (Option Int)
def noP : FP := fun _ => some none
def exP (f : FE) : FP := fun ρ => (f ρ).bind fun | .int i => some (some i) | _ => none
def tP (K : PySem.W.Frag) (f : FP) : TO := fun σ H Q => ∃ H₀ Hf₀ ρ Hf o, Rep K H₀ Hf₀ σ ρ H Hf ∧ f ρ = some o ∧ ∀ H' Hf', Rep K H₀ Hf₀ σ ρ H' Hf' → Same H H' → Same Hf Hf' → Q o H'
def DP (X : Cx) (e : Option Expr) (f : FP) : Prop := PO X e (tP X.K f)
theorem po_imp {e : Option Expr} {t t' : TO} (h : PO X e t) (i : ∀ σ H Q, t' σ H Q → t σ H Q) : PO X e t' := fun pins s σ H Q I hw => h pins s σ H Q I (i _ _ _ hw)
theorem dp_no : DP X none noP := po_imp po_none fun σ H Q ⟨H₀, Hf₀, ρ, Hf, d, R, q, k⟩ => by cases q; exact k _ _ R sameR sameR
theorem dp_ex (h : DR X e f) : DP X (some e) (exP f) := po_imp (po_some h) fun σ H Q ⟨H₀, Hf₀, ρ, Hf, d, R, q, k⟩ => by
  obtain ⟨x, e1, e2⟩ := bindV_some q
  cases x <;> try cases e2
  exact ⟨H₀, Hf₀, ρ, Hf, _, R, e1, fun v H1 Hf1 R1 s1 t1 h1 => ⟨_, h1.int, k _ _ R1 s1 t1⟩⟩
def cutL {α : Type} (xs : List α) (lo hi : Option Int) : List α := (xs.drop (HT.sIx xs.length 0 lo)).take (HT.sIx xs.length xs.length hi - HT.sIx xs.length 0 lo)
theorem HasL.cut {K : PySem.W.Frag} {H : Hp} {ds : List D} {xs : List V} (h : HasL K H ds xs) (lo hi : Option Int) : HasL K H (cutL ds lo hi) (cutV xs lo hi) := by
  unfold cutL cutV
  rw [h.length]
  exact (h.drop _).take _
def rSlTG (K : PySem.W.Frag) : V → Option Int → Option Int → Hp → VK → Prop := fun x lo hi H Q => ∃ a xs, x = .ref a ∧ SqT K H a xs ∧
  ((HT.sIx xs.length 0 lo = 0 ∧ HT.sIx xs.length xs.length hi = xs.length) → Q (.ref a) H) ∧ (¬ (HT.sIx xs.length 0 lo = 0 ∧ HT.sIx xs.length xs.length hi = xs.length) → ∀ p, H p = none → Q (.ref p) (upd H p (.tup (cutV xs lo hi))))
theorem sl_tupG : SlR X (rSlTG X.K) := by
  intro pins s σ H x v vl vu lo hi sl Q I rx hs pl pu h
  obtain ⟨a, xs, rfl, hx, q1, q2⟩ := h
  by_cases hw : HT.sIx xs.length 0 lo = 0 ∧ HT.sIx xs.length xs.length hi = xs.length
  · cases rx
    obtain ⟨its, r, ht, hz⟩ := I.tuple hx
    have hlen : its.toArray.size = xs.length := by rw [List.size_toArray]; exact r.length.symm
    refine ⟨"tuple", _, PyProof.Rows.slot_tuple_getitem.lookup, ht.typeIs, ?_⟩
    exact getItem_tuple_all ht hs pl pu (by rw [hlen]; exact hw) ⟨.ref a, H, I, rfl, q1 hw⟩
  · exact sl_tup pins s σ H _ v vl vu lo hi sl Q I rx hs pl pu ⟨a, xs, rfl, hx, hw, q2 hw⟩
def sliceF (f : FE) (l u : FP) : FE := fun ρ => (f ρ).bind fun x => (l ρ).bind fun lo => (u ρ).bind fun hi => match x with
  | .tup ds => some (.tup (cutL ds lo hi))
  | .lst ds => some (.lst (cutL ds lo hi))
  | _ => none
theorem cut_whole {ds : List D} {lo hi : Option Int} (h : HT.sIx ds.length 0 lo = 0 ∧ HT.sIx ds.length ds.length hi = ds.length) : cutL ds lo hi = ds := by
  unfold cutL
  rw [h.1, h.2]
  simp
theorem d_slice {lo hi : Option Expr} {l u : FP} (he : DR X e f) (hl : DP X lo l) (hu : DP X hi u) : DE X (.Subscript e (.Slice lo hi none p2) pos) (sliceF f l u) :=
  pe_imp (pe_slice (sl_tupG.or sl_list) he hl hu) fun σ H Q ⟨H₀, Hf₀, ρ, Hf, d, R, q, k⟩ => by
    obtain ⟨x, e1, e2⟩ := bindV_some q
    cases e3 : l ρ with
    | none => rw [e3] at e2; cases e2
    | some lo =>
      rw [e3] at e2
      cases e4 : u ρ with
      | none => rw [e4] at e2; cases e2
      | some hi =>
        rw [e4] at e2
        simp only [Option.bind_some] at e2
        refine ⟨H₀, Hf₀, ρ, Hf, x, R, e1, fun v H1 Hf1 R1 s1 t1 h1 => ⟨H₀, Hf₀, ρ, Hf1, lo, R1, e3, fun H2 Hf2 R2 s2 t2 => ⟨H₀, Hf₀, ρ, Hf2, hi, R2, e4, fun H3 Hf3 R3 s3 t3 => ?_⟩⟩⟩
        have h3 := (h1.mono t2).mono t3
        have ss := (s1.trans s2).trans s3
        have tt := (t1.trans t2).trans t3
        split at e2
        · cases e2
          obtain ⟨a, xs, rfl, qa, la⟩ := h3.tup R3
          refine .inl ⟨a, xs, rfl, qa, fun hw => ?_, fun hw p hp => ?_⟩
          · rw [la.length] at hw
            exact k _ _ _ R3 ss tt (by rw [cut_whole hw]; exact h3.tupF)
          · have sm := same_upd (o := .tup (cutV xs lo hi)) (R3.sf.free hp)
            exact k _ _ _ (R3.lay hp) (ss.trans (same_upd hp)) (tt.trans sm) (Has.tup_iff.mpr ⟨p, _, rfl, SqT.of upd_same, (la.cut lo hi).mono sm⟩)
        · cases e2
          obtain ⟨a, xs, rfl, qa, la⟩ := h3.lst R3
          refine .inr ⟨a, xs, rfl, qa, fun p hp => ?_⟩
          have sm := same_upd (o := .lst (cutV xs lo hi)) (R3.sf.free hp)
          exact k _ _ _ (R3.lay hp) (ss.trans (same_upd hp)) (tt.trans sm) (Has.lst_iff.mpr ⟨p, _, rfl, SqL.of upd_same, (la.cut lo hi).mono sm⟩)
        · cases e2
def rRev (K : PySem.W.Frag) : V → Hp → VK → Prop := fun x H Q => ∃ a xs, x = .ref a ∧ ((SqT K H a xs ∧ ∀ p, H p = none → Q (.ref p) (upd H p (.tup xs.reverse))) ∨ (SqL K H a xs ∧ ∀ p, H p = none → Q (.ref p) (upd H p (.lst xs.reverse))))
theorem slicePick_rev (its : List Value) : slicePick its.toArray none none (some (-1)) = its.reverse.toArray := by
  have := pick_rev its.toArray
  have hb : sliceBounds none none (some (-1)) its.toArray.size = (((its.toArray.size : Nat) : Int) - 1, -1, -1) := by
    unfold sliceBounds
    simp
  unfold slicePick
  rw [hb]
  show ((sliceRange (((its.toArray.size : Nat) : Int) - 1) (-1) (-1)).filterMap (its.toArray[·]?)).toArray = _
  have hr : sliceRange (((its.toArray.size : Nat) : Int) - 1) (-1) (-1) = (List.range its.toArray.size).map fun (k : Nat) => (((its.toArray.size : Nat) : Int) - 1 + (k : Int) * (-1)).toNat := by
    unfold sliceRange
    have h1 : ¬ ((-1 : Int) > 0) := by omega
    simp only [h1, if_false]
    have hc : (if ((its.toArray.size : Nat) : Int) - 1 > -1 then (((its.toArray.size : Nat) : Int) - 1 - -1 - -1 - 1) / (- -1) else 0).toNat = its.toArray.size := by
      have h1' : (- -1 : Int) = 1 := rfl
      rw [h1', Int.ediv_one]
      split <;> omega
    rw [hc]
    congr 1
    funext k
    congr 1
    omega
  rw [hr, List.filterMap_map]
  exact this
section
variable {X : Cx} {a b c e st : Expr} {f g h fs : FE} {pos p2 : Pos}
theorem pe_rev {te ts : TE} (he : PE X e te) (hst : PE X st ts) : PE X (.Subscript e (.Slice none none (some st) p2) pos) (fun σ H Q => te σ H fun x H1 => ts σ H1 fun y H2 => y = .int (-1) ∧ rRev X.K x H2 Q) := by
  intro pins s σ H Q I h
  refine Subscript_ (thn (he pins s σ H _ I h) fun v s1 ⟨x, H1, I1, r1, q1⟩ => ?_)
  refine wpAny_Slice ?_
  rw [evalPart_none]
  refine wpAny_pure ?_
  refine wpAny_pure ?_
  rw [evalPart_some]
  refine thn (hst pins s1 σ H1 _ I1 q1) fun vs s3 ⟨y, H3, I3, ry, e1, a, xs, ex, q3⟩ => ?_
  subst e1
  subst ex
  obtain ⟨t, rfl⟩ := ry
  cases r1
  have I4 : Inv X pins σ H3 { s3 with heap := s3.heap.push { cls := .type "slice", data := .fields #[.none, .none, .int (-1) t] } } := I3.kept (t' := s3.toks) fun b ob q => Heap.get?_push_of_some _ q
  show wpAny (model X.prog X.w) X.A (subscriptTail e (.Slice none none (some st) p2) (.ref a) (.ref s3.heap.objs.size)) (EP X pins σ Q) X.xe { s3 with heap := s3.heap.push { cls := .type "slice", data := .fields #[.none, .none, .int (-1) t] } }
  have hsl : Heap.IsSliceOf (s3.heap.push { cls := .type "slice", data := .fields #[.none, .none, .int (-1) t] }) s3.heap.objs.size .none .none (.int (-1) t) := Heap.IsSliceOf.new ..
  rcases q3 with ⟨hq, q⟩ | ⟨hq, q⟩
  · obtain ⟨its, r, pl, hz⟩ := I4.tuple hq
    have hlen := r.length
    refine tail_any (ops := [.ref a, .ref s3.heap.objs.size]) pl.typeIs PyProof.Rows.slot_tuple_getitem.lookup ?_ (by with_unfolding_all rfl)
    refine getItem_tuple_rev pl hsl ?_ (by rw [List.size_toArray, ← hlen]; exact hz)
    refine ⟨.ref _, _, I4.laid (t' := s3.toks) (o := .tup xs.reverse) (fun b ob q => Heap.get?_push_of_some _ q) (Nat.le_refl _) ?_, rfl, q _ (I4.hok.fresh (Nat.le_refl _))⟩
    exact ⟨by rw [List.length_reverse]; exact hz, _, r.reverse, IsTup.new _ _⟩
  · obtain ⟨its, r, pl, hz⟩ := I4.list hq
    have hlen := r.length
    refine tail_any (ops := [.ref a, .ref s3.heap.objs.size]) pl.isList.typeIs slot_list_getitem.lookup ?_ (by with_unfolding_all rfl)
    refine wpAny_getItem_list_slice pl.isList hsl .none .none (.int (-1) t) (by decide) ?_ (by rw [List.size_toArray, ← hlen]; exact hz)
    rw [slicePick_rev]
    refine ⟨.ref _, _, I4.laid (t' := s3.toks) (o := .lst xs.reverse) (fun b ob q => Heap.get?_push_of_some _ q) (Nat.le_refl _) ?_, rfl, q _ (I4.hok.fresh (Nat.le_refl _))⟩
    exact ⟨by rw [List.length_reverse]; exact hz, _, 0, r.reverse, Heap.get?_push_size _ rfl⟩
def revF (f fs : FE) : FE := fun ρ => (f ρ).bind fun x => (fs ρ).bind fun y => match x, y with
  | .tup ds, .int i => if i = -1 then some (.tup ds.reverse) else none
  | .lst ds, .int i => if i = -1 then some (.lst ds.reverse) else none
  | _, _ => none
def revN (f fs : FE) : FA := fun ρ => (f ρ).bind fun x => (fs ρ).bind fun y => match x, y with
  | .lst ds, .int i => if i = -1 then some ds.reverse else none
  | _, _ => none
theorem bind2_some {α : Type} {f g : FE} {k : D → D → Option α} {ρ : Rho} {r : α} (h : ((f ρ).bind fun x => (g ρ).bind fun y => k x y) = some r) : ∃ x y, f ρ = some x ∧ g ρ = some y ∧ k x y = some r := by
  obtain ⟨x, e1, e2⟩ := bindV_some h
  obtain ⟨y, e3, e4⟩ := bindV_some e2
  exact ⟨x, y, e1, e3, e4⟩
theorem d_rev (he : DR X e f) (hst : DR X st fs) : DE X (.Subscript e (.Slice none none (some st) p2) pos) (revF f fs) :=
  pe_imp (pe_rev he hst) fun σ H Q ⟨H₀, Hf₀, ρ, Hf, d, R, q, k⟩ => by
    obtain ⟨x, y, e1, e2, e3⟩ := bind2_some q
    refine ⟨H₀, Hf₀, ρ, Hf, x, R, e1, fun v H1 Hf1 R1 s1 t1 h1 => ⟨H₀, Hf₀, ρ, Hf1, y, R1, e2, fun v' H2 Hf2 R2 s2 t2 h2 => ?_⟩⟩
    have h3 := h1.mono t2
    split at e3
    · split at e3
      · cases e3
        rename_i hi
        subst hi
        obtain ⟨a, xs, rfl, qa, la⟩ := h3.tup R2
        refine ⟨h2.int, a, xs, rfl, .inl ⟨qa, fun p hp => ?_⟩⟩
        have sm := same_upd (o := .tup xs.reverse) (R2.sf.free hp)
        exact k _ _ _ (R2.lay hp) ((s1.trans s2).trans (same_upd hp)) ((t1.trans t2).trans sm) (Has.tup_iff.mpr ⟨p, _, rfl, SqT.of upd_same, la.reverse.mono sm⟩)
      · cases e3
    · split at e3
      · cases e3
        rename_i hi
        subst hi
        obtain ⟨a, xs, rfl, qa, la⟩ := h3.lst R2
        refine ⟨h2.int, a, xs, rfl, .inr ⟨qa, fun p hp => ?_⟩⟩
        have sm := same_upd (o := .lst xs.reverse) (R2.sf.free hp)
        exact k _ _ _ (R2.lay hp) ((s1.trans s2).trans (same_upd hp)) ((t1.trans t2).trans sm) (Has.lst_iff.mpr ⟨p, _, rfl, SqL.of upd_same, la.reverse.mono sm⟩)
      · cases e3
    · cases e3
theorem dn_rev (he : DR X e f) (hst : DR X st fs) : DN X (.Subscript e (.Slice none none (some st) p2) pos) (revN f fs) :=
  pe_imp (pe_rev he hst) fun σ H Q ⟨H₀, Hf₀, ρ, Hf, d, R, q, k⟩ => by
    obtain ⟨x, y, e1, e2, e3⟩ := bind2_some q
    refine ⟨H₀, Hf₀, ρ, Hf, x, R, e1, fun v H1 Hf1 R1 s1 t1 h1 => ⟨H₀, Hf₀, ρ, Hf1, y, R1, e2, fun v' H2 Hf2 R2 s2 t2 h2 => ?_⟩⟩
    have h3 := h1.mono t2
    split at e3
    · split at e3
      · cases e3
        rename_i hi
        subst hi
        obtain ⟨a, xs, rfl, qa, la⟩ := h3.lst R2
        refine ⟨h2.int, a, xs, rfl, .inr ⟨qa, fun p hp => ?_⟩⟩
        exact k _ _ _ _ (R2.layN hp) ((s1.trans s2).trans (same_upd hp)) (t1.trans t2) la.reverse upd_same (R2.sf.free hp) ((s1.trans s2).free hp)
      · cases e3
    · cases e3
def tupleD : List D → Option D
  | [.lst ds] => some (.tup ds)
  | [.tup ds] => some (.tup ds)
  | _ => none
theorem fnR_tuple : FnR X (fun xs H Q => ∃ p ys, xs = [.ref p] ∧ ((SqL X.K H p ys ∧ ∀ l, H l = none → Q (.ref l) (upd H l (.tup ys))) ∨ (SqT X.K H p ys ∧ Q (.ref p) H))) tupleD := by
  intro σ ρ H₀ Hf₀ H Hf xs ds d Q R hx hφ k
  unfold tupleD at hφ
  split at hφ
  · cases hφ
    obtain ⟨v, rfl, hv⟩ := hx.one
    obtain ⟨a, ys, rfl, q, l⟩ := hv.lst R
    refine ⟨a, ys, rfl, .inl ⟨q, fun p hp => ?_⟩⟩
    have sm := same_upd (o := .tup ys) (R.sf.free hp)
    exact k _ _ _ (R.lay hp) (same_upd hp) sm (Has.tup_iff.mpr ⟨p, _, rfl, SqT.of upd_same, l.mono sm⟩)
  · cases hφ
    obtain ⟨v, rfl, hv⟩ := hx.one
    obtain ⟨a, ys, rfl, q, l⟩ := hv.tup R
    exact ⟨a, ys, rfl, .inr ⟨q, k _ _ _ R sameR sameR hv.tupF⟩⟩
  · cases hφ
end
end
end FL
set_option Elab.async false
set_option linter.all false
set_option maxRecDepth 100000
set_option maxHeartbeats 4000000
namespace FL
open PySem PySem.Spec PyProof.Rows L2
theorem relV_inj {y y' : V} {u : Value} {K : PySem.W.Frag} {H : Hp} {d d' : D} (h : Has K H d y) (h' : Has K H d' y') (r : RelV y u) (r' : RelV y' u) : y = y' := by
  cases d with
  | non =>
    cases Has.non_iff.mp h
    cases r
    cases d' with
    | non => cases Has.non_iff.mp h'; rfl
    | bl _ => cases Has.bl_iff.mp h'; cases r'
    | int _ => cases Has.int_iff.mp h'; obtain ⟨t, e⟩ := r'; cases e
    | str _ => cases Has.str_iff.mp h'; obtain ⟨t, e⟩ := r'; cases e
    | tup _ => obtain ⟨_, _, rfl, _⟩ := Has.tup_iff.mp h'; cases r'
    | lst _ => obtain ⟨_, _, rfl, _⟩ := Has.lst_iff.mp h'; cases r'
  | bl b =>
    cases Has.bl_iff.mp h
    cases r
    cases d' with
    | non => cases Has.non_iff.mp h'; cases r'
    | bl _ => cases Has.bl_iff.mp h'; cases r'; rfl
    | int _ => cases Has.int_iff.mp h'; obtain ⟨t, e⟩ := r'; cases e
    | str _ => cases Has.str_iff.mp h'; obtain ⟨t, e⟩ := r'; cases e
    | tup _ => obtain ⟨_, _, rfl, _⟩ := Has.tup_iff.mp h'; cases r'
    | lst _ => obtain ⟨_, _, rfl, _⟩ := Has.lst_iff.mp h'; cases r'
  | int b =>
    cases Has.int_iff.mp h
    obtain ⟨t0, rfl⟩ := r
    cases d' with
    | non => cases Has.non_iff.mp h'; cases r'
    | bl _ => cases Has.bl_iff.mp h'; cases r'
    | int _ => cases Has.int_iff.mp h'; obtain ⟨t, e⟩ := r'; cases e; rfl
    | str _ => cases Has.str_iff.mp h'; obtain ⟨t, e⟩ := r'; cases e
    | tup _ => obtain ⟨_, _, rfl, _⟩ := Has.tup_iff.mp h'; cases r'
    | lst _ => obtain ⟨_, _, rfl, _⟩ := Has.lst_iff.mp h'; cases r'
  | str b =>
    cases Has.str_iff.mp h
    obtain ⟨t0, rfl⟩ := r
    cases d' with
    | non => cases Has.non_iff.mp h'; cases r'
    | bl _ => cases Has.bl_iff.mp h'; cases r'
    | int _ => cases Has.int_iff.mp h'; obtain ⟨t, e⟩ := r'; cases e
    | str _ => cases Has.str_iff.mp h'; obtain ⟨t, e⟩ := r'; cases e; rfl
    | tup _ => obtain ⟨_, _, rfl, _⟩ := Has.tup_iff.mp h'; cases r'
    | lst _ => obtain ⟨_, _, rfl, _⟩ := Has.lst_iff.mp h'; cases r'
  | tup ds =>
    obtain ⟨a, _, rfl, _⟩ := Has.tup_iff.mp h
    cases r
    cases d' with
    | non => cases Has.non_iff.mp h'; cases r'
    | bl _ => cases Has.bl_iff.mp h'; cases r'
    | int _ => cases Has.int_iff.mp h'; obtain ⟨t, e⟩ := r'; cases e
    | str _ => cases Has.str_iff.mp h'; obtain ⟨t, e⟩ := r'; cases e
    | tup _ => obtain ⟨_, _, rfl, _⟩ := Has.tup_iff.mp h'; cases r'; rfl
    | lst _ => obtain ⟨_, _, rfl, _⟩ := Has.lst_iff.mp h'; cases r'; rfl
  | lst ds =>
    obtain ⟨a, _, rfl, _⟩ := Has.lst_iff.mp h
    cases r
    cases d' with
    | non => cases Has.non_iff.mp h'; cases r'
    | bl _ => cases Has.bl_iff.mp h'; cases r'
    | int _ => cases Has.int_iff.mp h'; obtain ⟨t, e⟩ := r'; cases e
    | str _ => cases Has.str_iff.mp h'; obtain ⟨t, e⟩ := r'; cases e
    | tup _ => obtain ⟨_, _, rfl, _⟩ := Has.tup_iff.mp h'; cases r'; rfl
    | lst _ => obtain ⟨_, _, rfl, _⟩ := Has.lst_iff.mp h'; cases r'; rfl
open Classical in
/-- an item's answer, read off its datum -/
noncomputable def ansU (K : PySem.W.Frag) (H : Hp) (dx : D) (u : Value) : Bool := decide (∃ d y, RelV y u ∧ Has K H d y ∧ eqD d dx = true)
section
variable {X : Cx} {pins : List (Addr × Obj)} {σ : St} {H : Hp} {s : Shared}
open Classical in
theorem ansU_of (I : Inv X pins σ H s) {dx d : D} {y : V} {u : Value} (r : RelV y u) (h : Has X.K H d y) : ansU X.K H dx u = eqD d dx := by
  unfold ansU
  cases hq : eqD d dx with
  | true => exact decide_eq_true ⟨d, y, r, h, hq⟩
  | false =>
    refine decide_eq_false ?_
    rintro ⟨d', y', r', h', e'⟩
    cases relV_inj h' h r' r
    cases Has.inj I h' h
    rw [hq] at e'; cases e'
theorem any_ansU (I : Inv X pins σ H s) {dx : D} : ∀ {ds : List D} {xs : List V} {us : List Value}, HasL X.K H ds xs → Vals xs us → us.any (ansU X.K H dx) = ds.any fun d => eqD d dx
  | [], _, _, h, r => by rw [HasL.nil_iff] at h; subst h; cases r; rfl
  | d :: ds, _, _, h, r => by
    obtain ⟨x, xr, rfl, h1, h2⟩ := HasL.cons_iff.mp h
    cases r with
    | cons r rr => rw [List.any_cons, List.any_cons, ansU_of I r h1, any_ansU I h2 rr]
theorem mem_ansU (I : Inv X pins σ H s) {A : Around} {dx : D} {x : V} {v : Value} (hx : Has X.K H dx x) (rx : RelV x v) : ∀ {ds : List D} {xs : List V} {us : List Value}, HasL X.K H ds xs → Vals xs us → A.units + depL ds < cLine → ∀ u ∈ us, SeqAt.EqAt A s u v (ansU X.K H dx u)
  | [], _, _, h, r, _ => by rw [HasL.nil_iff] at h; subst h; cases r; intro u hu; cases hu
  | d :: ds, _, _, h, r, hu => by
    obtain ⟨y, yr, rfl, h1, h2⟩ := HasL.cons_iff.mp h
    unfold depL at hu
    cases r with
    | cons r rr =>
      intro u' hu'
      rcases List.mem_cons.mp hu' with rfl | hm
      · rw [ansU_of I r h1]
        exact eqAt_of I d A dx y x _ v h1 hx r rx (by have := Nat.le_max_left (dep d) (depL ds); omega)
      · exact mem_ansU I hx rx h2 rr (by have := Nat.le_max_right (dep d) (depL ds); omega) u' hm
end
section
variable {X : Cx} {e a b c : Expr} {f g h : FE} {pos p2 : Pos} {kk : Nat}
def inS (x z : Str) : Bool := !(Builtin.Str.occurrences z x 0 z.length 1).isEmpty
def rInD (K : PySem.W.Frag) (neg : Bool) : R2 := fun x y H Q => (∃ p ds xs dx, y = .ref p ∧ (SqL K H p xs ∨ SqT K H p xs) ∧ HasL K H ds xs ∧ Has K H dx x ∧ depL ds ≤ 100 ∧ Q (.bl (xor neg (ds.any fun d => eqD d dx))) H) ∨
  (∃ i j, x = .str i ∧ y = .str j ∧ Q (.bl (xor neg (inS i j))) H)
theorem op_inD (hr : Room kk X.A) : OpR X (compareOp .In) (rInD X.K false) := by
  intro pins s σ H x y v u Q I rx ry h
  rcases h with ⟨p, ds, xs, dx, rfl, hq, hl, hx, hd, q⟩ | h
  · cases ry
    have hu : X.A.in1.units + depL ds < cLine := by show X.A.units + 1 + depL ds < cLine; have := hr.un; omega
    simp only [Bool.false_xor] at q
    rcases hq with hq | hq
    · obtain ⟨its, r, pl, hz⟩ := I.list hq
      refine SeqAt.in_listAt (ansU X.K H dx) pl.isList (fun w hw => mem_ansU I hx rx hl r hu w (by simpa using hw)) ⟨.bl _, H, I, rfl, ?_⟩
      rw [show its.toArray.any (ansU X.K H dx) = its.any (ansU X.K H dx) by simp, any_ansU I hl r]
      exact q
    · obtain ⟨its, r, pl, hz⟩ := I.tuple hq
      refine SeqAt.in_tupleAt (ansU X.K H dx) pl (fun w hw => mem_ansU I hx rx hl r hu w (by simpa using hw)) ⟨.bl _, H, I, rfl, ?_⟩
      rw [show its.toArray.any (ansU X.K H dx) = its.any (ansU X.K H dx) by simp, any_ansU I hl r]
      exact q
  · obtain ⟨i, j, e1, e2, q⟩ := h
    exact op_in_str pins s σ H x y v u Q I rx ry ⟨i, j, e1, e2, by simpa [inS] using q⟩
theorem op_notInD (hr : Room kk X.A) : OpR X (compareOp .NotIn) (rInD X.K true) := by
  intro pins s σ H x y v u Q I rx ry h
  rcases h with ⟨p, ds, xs, dx, rfl, hq, hl, hx, hd, q⟩ | h
  · cases ry
    have hu : X.A.in1.units + depL ds < cLine := by show X.A.units + 1 + depL ds < cLine; have := hr.un; omega
    simp only [Bool.true_xor] at q
    rcases hq with hq | hq
    · obtain ⟨its, r, pl, hz⟩ := I.list hq
      refine SeqAt.notIn_listAt (ansU X.K H dx) pl.isList (fun w hw => mem_ansU I hx rx hl r hu w (by simpa using hw)) ⟨.bl _, H, I, rfl, ?_⟩
      rw [show its.toArray.any (ansU X.K H dx) = its.any (ansU X.K H dx) by simp, any_ansU I hl r]
      exact q
    · obtain ⟨its, r, pl, hz⟩ := I.tuple hq
      refine SeqAt.notIn_tupleAt (ansU X.K H dx) pl (fun w hw => mem_ansU I hx rx hl r hu w (by simpa using hw)) ⟨.bl _, H, I, rfl, ?_⟩
      rw [show its.toArray.any (ansU X.K H dx) = its.any (ansU X.K H dx) by simp, any_ansU I hl r]
      exact q
  · obtain ⟨i, j, e1, e2, q⟩ := h
    exact op_notin_str pins s σ H x y v u Q I rx ry ⟨i, j, e1, e2, by simpa [inS] using q⟩
def inD (neg : Bool) : D → D → Option D
  | x, .lst ds => if depL ds ≤ 100 then some (.bl (xor neg (ds.any fun d => eqD d x))) else none
  | x, .tup ds => if depL ds ≤ 100 then some (.bl (xor neg (ds.any fun d => eqD d x))) else none
  | .str x, .str z => some (.bl (xor neg (inS x z)))
  | _, _ => none
theorem opD_in {neg : Bool} : OpD X (rInD X.K neg) (inD neg) := by
  intro σ ρ H₀ Hf₀ H Hf x y dx dy d Q R hx hy hφ k
  unfold inD at hφ
  split at hφ
  · split at hφ
    · cases hφ
      rename_i hd
      obtain ⟨a, xs, rfl, qa, la⟩ := hy.lst R
      exact .inl ⟨a, _, xs, dx, rfl, .inl qa, la.mono R.sf, hx.full R, hd, k _ _ _ R sameR sameR (Has.bl_iff.mpr rfl)⟩
    · cases hφ
  · split at hφ
    · cases hφ
      rename_i hd
      obtain ⟨a, xs, rfl, qa, la⟩ := hy.tup R
      exact .inl ⟨a, _, xs, dx, rfl, .inr qa, la.mono R.sf, hx.full R, hd, k _ _ _ R sameR sameR (Has.bl_iff.mpr rfl)⟩
    · cases hφ
  · cases hφ
    exact .inr ⟨_, _, hx.str, hy.str, k _ _ _ R sameR sameR (Has.bl_iff.mpr rfl)⟩
  · cases hφ
theorem d_in (hr : Room kk X.A) (ha : DR X a f) (hb : DR X b g) (hm : behindInMarks .In b = false := by rfl) : DE X (.Compare a [.In] [b] pos) (bind2 (inD false) f g) := d_cmp (op_inD hr) opD_in ha hb hm
theorem d_notin (hr : Room kk X.A) (ha : DR X a f) (hb : DR X b g) (hm : behindInMarks .NotIn b = false := by rfl) : DE X (.Compare a [.NotIn] [b] pos) (bind2 (inD true) f g) := d_cmp (op_notInD hr) opD_in ha hb hm
theorem dt_in (hr : Room kk X.A) (ha : DR X a f) (hb : DR X b g) (hm : behindInMarks .In b = false := by rfl) : DT X (.Compare a [.In] [b] pos) (blF (bind2 (inD false) f g)) := pt_of_cmp (op_inD hr) opD_in ha hb hm
theorem dt_notin (hr : Room kk X.A) (ha : DR X a f) (hb : DR X b g) (hm : behindInMarks .NotIn b = false := by rfl) : DT X (.Compare a [.NotIn] [b] pos) (blF (bind2 (inD true) f g)) := pt_of_cmp (op_notInD hr) opD_in ha hb hm
structure GTup (K : PySem.W.Frag) (mg : Str → Option Value) (x : Str) (ds : List D) : Prop where
  ex : ∃ a, mg x = some (.ref a) ∧ Has K (fun _ => none) (.tup ds) (.ref a)
theorem same_none {H : Hp} : Same (fun _ => none) H := fun _ _ e => by cases e
theorem d_gtup {x : Str} {ds : List D} (hg : Gl X x) (hm : GTup X.K X.mg x ds) (hd : (x == ("__debug__" : Str)) = false := by decide) : DE X (.Name x pos) (cF (.tup ds)) := by
  obtain ⟨a, h1, h2⟩ := hm.ex
  exact pe_imp (pe_glob (v := .ref a) hg h1 rfl hd) fun σ H Q ⟨H₀, Hf₀, ρ, Hf, d', R, q, k⟩ => by
    cases q
    exact k _ _ _ R sameR sameR (h2.mono same_none)
theorem gtup_mk {K : PySem.W.Frag} {mg : Str → Option Value} {x : Str} {ds : List D} {a : Addr} {xs : List V} {its : Array Value} {od : Option Addr} {n : Nat} {osl : Array (Option Value)} (h1 : mg x = some (.ref a)) (h2 : K.lookup a = some ⟨.type "tuple", od, .seq its n, osl⟩) (hz : its.size ≤ sizeLine) (hv : Vals xs its.toList) (hl : HasL K (fun _ => none) ds xs) : GTup K mg x ds :=
  ⟨a, h1, Has.tup_iff.mpr ⟨a, xs, rfl, .inr ⟨_, its, n, h2, rfl, rfl, hz, hv⟩, hl⟩⟩
structure GDict (K : PySem.W.Frag) (mg : Str → Option Value) (x : Str) (kvs : List (Int × D)) : Prop where
  ex : ∃ (a : Addr) (o : Obj) (es : Array DictEntry) (ep : Nat) (vs : List (Int × Value)), mg x = some (.ref a) ∧ K.lookup a = some o ∧ o.ExactDict ∧ o.data = .dict es ep ∧ (∀ P w, KeysOf (intKind P w) es ∧ Pairs (intKind P w) es.toList vs) ∧ (vs.map (·.1)).Nodup ∧
    ∀ k d, kvs.lookup k = some d → ∃ u v, valueAt vs k = some u ∧ RelV v u ∧ Has K (fun _ => none) d v
def lookD (kvs : List (Int × D)) : D → Option D
  | .int k => kvs.lookup k
  | _ => none
theorem d_gdict {x : Str} {i : Expr} {kvs : List (Int × D)} {p : Pos} (hg : Gl X x) (hm : GDict X.K X.mg x kvs) (hi : DR X i f) (hs : NoSl i := by intro _ _; rfl) (hd : (x == ("__debug__" : Str)) = false := by decide) : DE X (.Subscript (.Name x p) i pos) (bind1 (lookD kvs) f) := by
  obtain ⟨a, o, es, ep, vs, h1, h2, h3, h4, h5, h6, h7⟩ := hm.ex
  intro pins s σ H Q I h
  obtain ⟨H₀, Hf₀, ρ, Hf, d, R, q, k⟩ := h
  obtain ⟨y, e1, e2⟩ := bindV_some q
  unfold lookD at e2
  split at e2
  · rename_i n
    obtain ⟨u, v, q1, q2, q3⟩ := h7 n d e2
    refine subD_of PySem.F.slot_dict_getitem.lookup hs (thn (pe_glob (v := .ref a) hg h1 rfl hd pins s σ H (fun x H1 => x = .ref a ∧ H1 = H) I ⟨rfl, rfl⟩) fun u0 s1 ⟨x, H1, I1, rx, ex, eH⟩ => ?_)
    subst ex eH
    cases rx
    refine thn (hi pins s1 σ H1 (fun y H2 => y = .int n ∧ ∃ Hf2, Rep X.K H₀ Hf₀ σ ρ H2 Hf2 ∧ Same H1 H2 ∧ Same Hf Hf2) I1 ⟨H₀, Hf₀, ρ, Hf, _, R, e1, fun v H1 Hf1 R1 s1 t1 h1 => ⟨h1.int, Hf1, R1, s1, t1⟩⟩) fun iv s2 ⟨y, H2, I2, ry, ey, Hf2, R2, s2', t2⟩ => ?_
    subst ey
    obtain ⟨t, rfl⟩ := ry
    have hb := I2.kIn a o h2
    have hdo : s2.heap.DictOf (intKind X.prog X.w) a vs := ⟨o, es, ep, hb, h3, h4, (h5 _ _).1, (h5 _ _).2, h6⟩
    refine ⟨⟨o, hb, h3.1⟩, wpAny_getItem_of (knd := intKind X.prog X.w) (k := n) (by show Value.isInt n (.int n t) = true; simp [Value.isInt]) hdo.mapOf q1 ⟨v, H2, I2.tok _, q2, ?_⟩⟩
    exact k _ _ _ R2 s2' t2 (q3.mono same_none)
  · cases e2
end
end FL
set_option Elab.async false
set_option linter.all false
set_option maxRecDepth 100000
set_option maxHeartbeats 4000000
namespace FL
open PySem PySem.Spec PyProof.Rows L2
theorem owner_rev : Manifest.owners.lookup (String.ofList ['d', 'e', 's', 'r', 'e', 'v', 'e', 'r'].reverse) = some Manifest.sig_reversed := by kernel_rfl
theorem slot_rev_next : PySem.Slot "reversed" "__next__" "reversed.__next__" :=
  .of (owner := "reversed") (n := "__next__") (by rw [typeLookup_type, builtinLookup_eq_fast]; kernel_rfl) (by decide +kernel) (by decide +kernel) (by decide +kernel)
    (by first | exact .inl (by decide +kernel) | exact .inr (by decide +kernel)) (by rw [isSubtype_type]; kernel_rfl)
theorem entry_rev_next : entryFor table "reversed.__next__" = some Builtin.«reversed.__next__» := entryFor_of_tree (by kernel_rfl)
theorem args_rev_next (a : Value) : argsOk "reversed.__next__" ⟨[a], []⟩ := by
  unfold argsOk; rw [signature?_of (id := "reversed.__next__") (n := ['_', '_', 't', 'x', 'e', 'n', '_', '_']) (o := ['d', 'e', 's', 'r', 'e', 'v', 'e', 'r']) (by kernel_rfl) owner_rev]; kernel_rfl
theorem slot_rev_iter : PySem.Slot "reversed" "__iter__" "reversed.__iter__" :=
  .of (owner := "reversed") (n := "__iter__") (by rw [typeLookup_type, builtinLookup_eq_fast]; kernel_rfl) (by decide +kernel) (by decide +kernel) (by decide +kernel)
    (by first | exact .inl (by decide +kernel) | exact .inr (by decide +kernel)) (by rw [isSubtype_type]; kernel_rfl)
theorem args_rev_iter (a : Value) : argsOk "reversed.__iter__" ⟨[a], []⟩ := by
  unfold argsOk; rw [signature?_of (id := "reversed.__iter__") (n := ['_', '_', 'r', 'e', 't', 'i', '_', '_']) (o := ['d', 'e', 's', 'r', 'e', 'v', 'e', 'r']) (by kernel_rfl) owner_rev]; kernel_rfl
theorem entry_rev_iter : entryFor table "reversed.__iter__" = some Builtin.«dict_keyiterator.__iter__» :=
  entryFor_alias (id' := "dict_keyiterator.__iter__") (by kernel_rfl) (by first | rfl | decide +kernel | (unfold String.splitOn; simp +decide [String.splitOnAux])) (by decide +kernel) (by kernel_rfl)
theorem slot_rev_init : PySem.Slot "reversed" "__init__" "object.__init__" :=
  .of (owner := "object") (n := "__init__") (by rw [typeLookup_type, builtinLookup_eq_fast]; kernel_rfl) (by decide +kernel) (by decide +kernel) (by decide +kernel)
    (by first | exact .inl (by decide +kernel) | exact .inr (by decide +kernel)) (by rw [isSubtype_type]; kernel_rfl)
theorem called_rev : TypeCalled "reversed" "reversed.__new__" "object.__init__" :=
  ⟨by decide +kernel, by decide +kernel, ⟨_, _, F.mro_reversed⟩, F.made_reversed, by decide +kernel, by rw [isSubtype_type]; kernel_rfl, slot_rev_init⟩
theorem tuple_no_reversed : typeLookup (.type "tuple") "__reversed__" = pure none := by rw [typeLookup_type, builtinLookup_eq_fast]; kernel_rfl
theorem tuple_not_dict : isSubtype (.type "tuple") (.type "dict") = pure false := by rw [isSubtype_type]; kernel_rfl
abbrev IsRev (h : Heap) (r t : Addr) (i : Int) : Prop := h.get? r = some { cls := .type "reversed", dict := none, data := .fields #[.ref t, rawInt i], slots := #[] }
section
variable {prog : Program} {w : World} {A : Around} {E : Value → Shared → Prop} {s : Shared}
theorem next_rev_item {r t : Addr} {i : Nat} {items : Array Value} {x : Value} {Q : Value → Shared → Prop} (hr : IsRev s.heap r t (i : Int)) (ht : IsTup s.heap t items) (hx : items[i]? = some x) (hz : items.size ≤ sizeLine)
    (hQ : ∀ h', IsRev h' r t ((i : Int) - 1) → Heap.SameBut r s.heap h' → Q x { s with heap := h', toks := s.toks + 1 }) : wpAny (model prog w) A (Builtin.«reversed.__next__» ⟨[.ref r], []⟩) (fun fin s' => ∃ v, fin = .done (.ret v) ∧ Q v s') E s := by
  have hi : i < items.size := (Array.getElem?_eq_some_iff.mp hx).1
  have hn := line63
  show wpAny _ _ (field (.ref r) 0 >>= _) _ _ _
  refine wpAny_bind (wpAny_field hr rfl (x := .ref t) rfl ?_)
  show wpAny _ _ (field (.ref r) 1 >>= _) _ _ _
  refine wpAny_bind (wpAny_field hr rfl (x := rawInt (i : Int)) rfl ?_)
  show wpAny _ _ (if ((i : Int) < 0) then _ else _) _ _ _
  rw [if_neg (by omega)]
  refine wpAny_bind (wpAny_specialOf ht.typeIs PyProof.Rows.slot_tuple_getitem.lookup ?_)
  show wpAny _ _ (if (false = true) then _ else _) _ _ _
  rw [if_neg Bool.false_ne_true]
  show wpAny _ _ (mkInt (i : Int) >>= _) _ _ _
  refine wpAny_bind (wpAny_mkInt ?_)
  refine wpAny_bind (wpAny_attempt ?_)
  refine getItem_tuple (j := i) ht (by omega) (by omega) (seqIndex_of (by omega) (by omega)) hx ?_
  show wpAny _ _ (field (.ref r) 1 >>= _) _ _ _
  refine wpAny_bind (wpAny_field (s := { s with toks := s.toks + 1 }) hr rfl (x := rawInt (i : Int)) rfl ?_)
  refine wpAny_bind (wpAny_setField_rec (s := { s with toks := s.toks + 1 }) hr (by simp) fun h₁ hr₁ hs₁ => ?_)
  exact wpAny_pure ⟨_, rfl, hQ h₁ hr₁ hs₁⟩
theorem next_rev_end {r t : Addr} {i : Int} {Q : Fin → Shared → Prop} (hh : A.handled = none) (hr : IsRev s.heap r t i) (hi : i < 0)
    (hE : ∀ h' e, Heap.ExtBut r s.heap h' → (∃ o, h'.get? e = some o ∧ o.cls = .type "StopIteration") → E (.ref e) { s with heap := h' }) : wpAny (model prog w) A (Builtin.«reversed.__next__» ⟨[.ref r], []⟩) Q E s := by
  show wpAny _ _ (field (.ref r) 0 >>= _) _ _ _
  refine wpAny_bind (wpAny_field hr rfl (x := .ref t) rfl ?_)
  show wpAny _ _ (field (.ref r) 1 >>= _) _ _ _
  refine wpAny_bind (wpAny_field hr rfl (x := rawInt i) rfl ?_)
  show wpAny _ _ (if (i < 0) then _ else _) _ _ _
  rw [if_pos hi]
  refine wpAny_bind (wpAny_rule ?_)
  refine wpAny_bind ?_
  show wpAny _ _ (setField (.ref r) 1 (rawInt (-1)) >>= fun _ => setField (.ref r) 0 .none) _ _ _
  refine wpAny_bind (wpAny_setField_rec hr (by simp) fun h₁ hr₁ hs₁ => ?_)
  refine wpAny_setField_rec hr₁ (by simp) fun h₂ hr₂ hs₂ => ?_
  refine wpAny_bind ?_
  show wpAny _ _ (newExc (.type "StopIteration") [] >>= _) _ _ _
  refine wpAny_bind ?_
  simp only [newExc, newTuple]
  refine wpAny_bind (wpAny_newObj_type ?_ (by size_fits))
  refine wpAny_bind (m := firstArgMember _ _) (wpAny_of_eq (a := Value.none) (by first | rfl | (simp only [firstArgMember]; rfl)) ?_)
  refine wpAny_newObj_type ?_ (by size_fits)
  simp only [raiseNew]
  refine wpAny_bind (wpAny_handled ?_)
  first | rw [show A.in1.handled = none from hh] | rw [hh]
  refine wpAny_bind (wpAny_pure (wpAny_throw ?_))
  exact hE _ _ (fun b o hb e => Heap.get?_push_of_some _ (Heap.get?_push_of_some _ ((hs₂.2 b hb).trans ((hs₁.2 b hb).trans e)))) ⟨_, Heap.get?_push_size _ rfl, rfl⟩
theorem meets_rev (t : Addr) (items : Array Value) (hfit : (items.size : Int) < 2 ^ 63) : Meets (Builtin.«reversed.__new__» ⟨[.type "reversed", .ref t], []⟩) (fun _ R s => IsTup s.heap t items ∧
    R (.ok (.ret (.ref s.heap.objs.size))) { s with heap := s.heap.push { cls := .type "reversed", data := .fields #[.ref t, rawInt ((items.size : Int) - 1)] }, toks := s.toks + 1 + 1 }) :=
  .of_wp fun prog w A R s h => by
    obtain ⟨ht, h⟩ := h
    unfold Builtin.«reversed.__new__»
    refine wpAny_bind (wpAny_of_eq (newClass_reversed _) ?_)
    try dsimp only
    refine wpAny_bind (wpAny_of_eq (a := ()) (by first | rfl | kernel_rfl) ?_)
    refine wpAny_bind (wpAny_of_eq (a := ()) (by first | rfl | kernel_rfl) ?_)
    try dsimp only
    refine wpAny_bind (wpAny_specialOf ht.typeIs tuple_no_reversed ?_)
    try dsimp only
    refine wpAny_bind ?_
    show wpAny _ _ (isInstance (.ref t) (.type "dict") >>= _) _ _ _
    refine wpAny_bind (wpAny_isInstance ht.typeIs tuple_not_dict ?_)
    show wpAny _ _ (if (false = true) then _ else _) _ _ _
    rw [if_neg Bool.false_ne_true]
    refine wpAny_bind (wpAny_specialOf ht.typeIs PyProof.Rows.slot_tuple_getitem.lookup ?_)
    try dsimp only
    rw [if_pos (by decide)]
    refine wpAny_pure ?_
    show wpAny _ _ (if (false = true) then _ else _) _ _ _
    rw [if_neg Bool.false_ne_true]
    refine wpAny_bind (len_tuple ht hfit ?_)
    refine wpAny_bind (wpAny_of_eq (a := some (items.size : Int)) rfl ?_)
    try dsimp only
    refine wpAny_bind ?_
    show wpAny _ _ (newObj (.type "reversed") (.fields #[.ref t, rawInt ((items.size : Int) - 1)])) _ _ _
    exact wpAny_newObj_type (wpAny_pure ⟨_, rfl, h⟩)
theorem call_rev {t : Addr} {items : Array Value} {Q : Value → Shared → Prop} (ht : IsTup s.heap t items) (hfit : (items.size : Int) < 2 ^ 63)
    (h : Q (.ref s.heap.objs.size) { s with heap := s.heap.push { cls := .type "reversed", data := .fields #[.ref t, rawInt ((items.size : Int) - 1)] }, toks := s.toks + 1 + 1 }) : wpAny (model prog w) A (call (.type "reversed") [.ref t]) Q E s :=
  callType_new called_rev (by decide) (F.typeCall_reversed_1 _) (F.newCall_reversed_1 _) (fun obj => F.args_object_init_2 obj _) F.entry_reversed_new (meets_rev t items hfit) ⟨ht, ⟨_, Heap.get?_push_size _ rfl, rfl⟩, h⟩
theorem pyIter_rev {r t : Addr} {i : Int} {Q : Value → Shared → Prop} (he : IsRev s.heap r t i) (h : Q (.ref r) s) : wpAny (model prog w) A (pyIter (.ref r)) Q E s := by
  have hT : s.TypeIs (.ref r) "reversed" := ⟨_, he, rfl⟩
  refine wpAny_pyIter_slot hT slot_rev_iter (wpAny_call_entry slot_rev_iter hT entry_rev_iter ?_ (args_rev_iter _))
  show wpAny _ _ (ret (.ref r)) _ _ s
  exact wpAny_pure ⟨_, rfl, "reversed", _, hT, slot_rev_next.lookup, h⟩
end
def ItB (K : PySem.W.Frag) (a : Addr) (n : Nat) : It :=
  ⟨fun i H => ∃ xs x, SqT K H a xs ∧ xs.length = n ∧ xs.reverse[i]? = some x, fun i H x H' => H' = H ∧ ∀ xs, SqT K H a xs → xs.reverse[i]? = some x, fun i H => ∃ xs, SqT K H a xs ∧ xs.length = n ∧ n ≤ i⟩
theorem turn_rev {P : Program} {w : World} {K : PySem.W.Frag} {tg : Expr} (a r : Addr) (n : Nat) : Turn P w K tg (ItB K a n) [r] r (fun i h => IsRev h r a ((n : Int) - 1 - i)) where
  mem := by simp
  obj := fun i h st b hb => by
    have e : b = r := by simpa using hb
    subst e
    exact ⟨_, st, fun v z => by cases z⟩
  keep := fun i h h' st k => k r (by simp) _ st
  item := by
    intro X hP hw hK hc i pins s σ H E I hf st hg
    subst hP hw hK
    obtain ⟨xs, x, hq, hn, hx⟩ := hg
    obtain ⟨its, rv, p, hz⟩ := I.tuple hq
    have hl := rv.length
    have hi : i < xs.length := by have := (List.getElem?_eq_some_iff.mp hx).1; simpa using this
    have hx' : xs[xs.length - 1 - i]? = some x := by rw [List.getElem?_reverse hi] at hx; exact hx
    obtain ⟨u, hu, ru⟩ := rv.get hx'
    have fr := hf r (by simp)
    have hT : s.TypeIs (.ref r) "reversed" := ⟨_, st, rfl⟩
    have hk : ((n : Int) - 1 - i) = ((xs.length - 1 - i : Nat) : Int) := by omega
    rw [hk] at st
    unfold pyNext
    refine wpAny_bind (wpAny_attempt (wpAny_callSpecial?_slot (name := Str.ofString "__next__") hT slot_rev_next (wpAny_call_entry slot_rev_next hT entry_rev_next
      (next_rev_item st p (x := u) (by simpa using hu) (by rw [List.size_toArray, ← hl]; exact hz) fun h' st' sb => wpAny_pure ?_) (args_rev_next _))))
    have I1 : Inv X pins σ H { s with heap := h', toks := s.toks + 1 } := turned1 (t' := s.toks + 1) I sb fr
    refine ⟨u, rfl, go_of (s := { s with heap := h', toks := s.toks + 1 }) st' rfl rfl (by decide) ⟨x, H, I1, ru, ⟨rfl, fun ys hy => by rw [I.tuple_inj hy hq]; exact hx⟩, ?_, fun b hb => (hf b hb).1⟩⟩
    have e : ((n : Int) - 1 - ((i + 1 : Nat) : Int)) = ((xs.length - 1 - i : Nat) : Int) - 1 := by omega
    show IsRev h' r a ((n : Int) - 1 - ((i + 1 : Nat) : Int))
    rw [e]
    exact st'
  done := by
    intro X hP hw hK hc i pins s σ H E I hf st hg
    subst hP hw hK
    obtain ⟨xs, hq, hn, hx⟩ := hg
    have fr := hf r (by simp)
    have hT : s.TypeIs (.ref r) "reversed" := ⟨_, st, rfl⟩
    unfold pyNext
    refine wpAny_bind (wpAny_attempt (wpAny_callSpecial?_slot (name := Str.ofString "__next__") hT slot_rev_next (wpAny_call_entry slot_rev_next hT entry_rev_next
      (next_rev_end (show X.A.in1.handled = none from I.ok.hd hc) st (by omega) fun h' e eb ⟨o, ho, hcl⟩ => ?_) (args_rev_next _))))
    refine wpAny_bind (wpAny_isInstance (T := "StopIteration") (b := true) ⟨o, ho, hcl⟩ isSubtype_stop ?_)
    obtain ⟨f0, f1, f2, f3, f4, f5⟩ := fr
    exact wpAny_pure ⟨rfl, I.turned (t' := s.toks) (fun b o hb e => eb b o hb e) f0 f1 f3 f4 f5⟩
  self := fun A i s Q E st h => pyIter_rev st h
section
variable {X : Cx} {e : Expr} {f : FE} {pos : Pos} {tg : Expr}
def itemsB (f : FE) : FA := fun ρ => (f ρ).bind fun | .tup ds => some ds.reverse | _ => none
theorem walks_rev {K : PySem.W.Frag} {Hf : Hp} {a : Addr} {xs : List V} {ds : List D} (qa : SqT K Hf a xs) (la : HasL K Hf ds xs) : Walks K Hf (ItB K a xs.length) ds.reverse := fun H2 Hf2 t2 sf2 i => by
  refine ⟨fun d hd => ?_, fun hle => ⟨xs, sameT sf2 (sameT t2 qa), rfl, by rw [la.length]; simpa using hle⟩⟩
  obtain ⟨v, e3, e4⟩ := la.reverse.get hd
  have sq : SqT K H2 a xs := sameT sf2 (sameT t2 qa)
  refine ⟨⟨xs, v, sq, rfl, e3⟩, fun x H3 hy => ?_⟩
  obtain ⟨rfl, hy⟩ := hy
  have := hy xs sq
  rw [e3] at this
  cases this
  exact ⟨Hf2, Grows.refl sf2, e4.mono t2⟩
theorem di_rev {p : Pos} (hg : Gl X "reversed") (hm : X.mg "reversed" = none) (he : DE X e f) (hs : starEach [e] X.env = [(false, eval e X.env)] := by rfl) : DI X tg (.Call (.Name "reversed" p) [e] [] pos) (itemsB f) := by
  intro pins s σ H R I h
  obtain ⟨H₀, Hf₀, ρ, Hf, ds', R0, q, k⟩ := h
  obtain ⟨d, q3, q4⟩ := bindV_some q
  refine Call_ (ld_blt I hg hm boot_reversed (PyProof.Rows.callWith_type1 (thn ((pa_cons he pa_nil hs) pos pins s σ H (fun vs H1 => ∃ v Hf1, vs = [v] ∧ Rep X.K H₀ Hf₀ σ ρ H1 Hf1 ∧ Same H H1 ∧ Same Hf Hf1 ∧ Has X.K Hf1 d v) I ⟨H₀, Hf₀, ρ, Hf, d, R0, q3, fun v H1 Hf1 R1 s1 t1 h1 => ⟨v, Hf1, rfl, R1, s1, t1, h1⟩⟩) fun us s1 ⟨vs, H1, I1, r1, q1⟩ => ?_) hs rfl))
  obtain ⟨v, Hf1, rfl, R1, s1', t1, h1⟩ := q1
  cases r1 with
  | cons r rr =>
    cases rr
    cases d <;> try cases q4
    obtain ⟨a, xs, rfl, qa, la⟩ := Has.tup_iff.mp h1
    cases r
    obtain ⟨its, rv, p, hz⟩ := I1.tuple (sameT R1.sf qa)
    have hl := rv.length
    have hn := line63
    refine call_rev p (by rw [List.size_toArray, ← hl]; omega) ?_
    have e0 : ((its.toArray.size : Nat) : Int) - 1 = (xs.length : Int) - 1 - ((0 : Nat) : Int) := by rw [List.size_toArray, ← hl]; simp
    have hr : IsRev (s1.heap.push { cls := .type "reversed", data := .fields #[.ref a, rawInt (((its.toArray.size : Nat) : Int) - 1)] }) s1.heap.objs.size a ((xs.length : Int) - 1 - ((0 : Nat) : Int)) := by
      rw [← e0]; exact Heap.get?_push_size _ rfl
    have I2 : Inv X pins σ H1 { s1 with heap := s1.heap.push { cls := .type "reversed", data := .fields #[.ref a, rawInt (((its.toArray.size : Nat) : Int) - 1)] }, toks := s1.toks + 1 + 1 } := I1.kept fun b o e => Heap.get?_push_of_some _ e
    refine pyIter_rev hr ⟨s1.heap.objs.size, [s1.heap.objs.size], _, _, H1, rfl, I2, turn_rev a s1.heap.objs.size xs.length, hr, fun b hb => ?_, k _ _ _ R1 s1' t1 (walks_rev qa la)⟩
    have e : b = s1.heap.objs.size := by simpa using hb
    rw [e]; exact fp_new I1 (Nat.le_refl _)
end
end FL
set_option Elab.async false
set_option linter.all false
set_option maxRecDepth 100000
set_option maxHeartbeats 4000000
namespace FL
open PySem PySem.Spec PyProof.Rows L2
section
variable {X : Cx} {e : Expr} {f : FE} {pos : Pos} {tg : Expr}
theorem di_seq (he : DE X e f) : DI X tg e (seqItems f) := by
  intro pins s σ H R I h
  obtain ⟨H₀, Hf₀, ρ, Hf, ds, R0, q, k⟩ := h
  obtain ⟨d, q3, q4⟩ := bindV_some q
  refine thn (he pins s σ H (fun v H1 => ∃ Hf1, Rep X.K H₀ Hf₀ σ ρ H1 Hf1 ∧ Same H H1 ∧ Same Hf Hf1 ∧ Has X.K Hf1 d v) I ⟨H₀, Hf₀, ρ, Hf, d, R0, q3, fun v H1 Hf1 R1 s1 t1 h1 => ⟨Hf1, R1, s1, t1, h1⟩⟩) fun u s1 ⟨v, H1, I1, r, Hf1, R1, s1', t1, h1⟩ => ?_
  cases d with
  | lst ds' =>
    cases q4
    obtain ⟨a, xs, rfl, qa, la⟩ := Has.lst_iff.mp h1
    cases r
    obtain ⟨its, rv, p, hz⟩ := I1.list (R1.sf.seq qa)
    refine wpAny_pyIter_list p.isList ?_
    refine ⟨s1.heap.objs.size, [s1.heap.objs.size], _, _, H1, rfl, I1.kept (t' := s1.toks) fun b o e => Heap.get?_push_of_some _ e, turn_list a _, ⟨_, Heap.get?_push_size _ rfl, rfl, rfl⟩, fun b hb => ?_, k _ _ _ R1 s1' t1 (walks_list qa la)⟩
    have e : b = s1.heap.objs.size := by simpa using hb
    subst e
    exact I1.fpOk (Nat.le_refl _) (I1.hok.fresh (Nat.le_refl _))
  | tup ds' =>
    cases q4
    obtain ⟨a, xs, rfl, qa, la⟩ := Has.tup_iff.mp h1
    cases r
    obtain ⟨its, rv, p, hz⟩ := I1.tuple (sameT R1.sf qa)
    refine wpAny_pyIter_tuple (show s1.heap.IsTuple a its.toArray from p) ?_
    refine ⟨s1.heap.objs.size, [s1.heap.objs.size], _, _, H1, rfl, I1.kept (t' := s1.toks) fun b o e => Heap.get?_push_of_some _ e, turn_tuple a _, ⟨_, Heap.get?_push_size _ rfl, rfl, rfl⟩, fun b hb => ?_, k _ _ _ R1 s1' t1 (walks_tup qa la)⟩
    have e : b = s1.heap.objs.size := by simpa using hb
    subst e
    exact I1.fpOk (Nat.le_refl _) (I1.hok.fresh (Nat.le_refl _))
  | _ => cases q4
end
def isKind (k : NameKind) : Option NameKind → Bool
  | some k' => k' == k
  | none => false
def compOk (osc scope : Scope) (frees : List Str) : Bool :=
  scope.kind == .function && scope.names.all (fun y => !(y.2 == .cell)) && scope.names.all (fun y => !(y.2 == .local) || isKind .local (scope.names.lookup y.1)) &&
  scope.names.all (fun y => !(y.2 == .free) || (isKind .cell (osc.names.lookup y.1) || isKind .free (osc.names.lookup y.1))) &&
  frees.all (fun x => (isKind .cell (osc.names.lookup x) || isKind .free (osc.names.lookup x)) && isKind .free (scope.names.lookup x))
theorem isKind_eq {k : NameKind} {o : Option NameKind} (h : isKind k o = true) : o = some k := by
  unfold isKind at h
  split at h
  · rw [eq_of_beq h]
  · cases h
theorem CompScope.of {osc scope : Scope} {own frees : List Str} (h : compOk osc scope frees = true) : CompScope osc scope own frees := by
  unfold compOk at h
  simp only [Bool.and_eq_true, List.all_eq_true] at h
  obtain ⟨⟨⟨⟨h1, h2⟩, h3⟩, h4⟩, h5⟩ := h
  refine ⟨eq_of_beq h1, fun y hy z => ?_, fun y hy z => ?_, fun y hy z => ?_, fun x hx => ?_⟩
  · have := h2 y hy
    rw [z] at this
    simp at this
  · have := h3 y hy
    rw [z] at this
    simp at this
    exact isKind_eq this
  · have := h4 y hy
    rw [z] at this
    simp at this
    exact this.imp isKind_eq isKind_eq
  · have := h5 x hx
    exact ⟨(by simpa using this.1 : _ ∨ _).imp isKind_eq isKind_eq, isKind_eq this.2⟩
section
variable {X : Cx} {scope : Scope} {own frees : List Str} {caps : List Nat}
theorem Rep.lstFrz {K : PySem.W.Frag} {H₀ Hf₀ : Hp} {σ : St} {ρ : Rho} {H Hf H' Hf' : Hp} {a : Addr} {xs : List V} (R : Rep K H₀ Hf₀ σ ρ H Hf) (R' : Rep K H₀ Hf₀ σ ρ H' Hf') (ha : H' a = some (.lst xs)) (hn : Hf' a = none) (hh : H a = none) : Rep K H₀ Hf₀ σ ρ H' (upd Hf' a (.lst xs)) := by
  have sm : Same Hf' (upd Hf' a (.lst xs)) := same_upd hn
  refine ⟨R'.s0, fun b u z => ?_, fun b u z => ?_, R'.f0.trans sm, R'.len, fun i d z => ?_, fun i sl z o => ?_, R'.inj⟩
  · by_cases hb : b = a
    · subst hb; rw [upd_same] at z; cases z; exact ha
    · rw [upd_ne hb] at z; exact R'.sf b u z
  · by_cases hb : b = a
    · subst hb; exact .inr (.inl (R.s0.free hh))
    · rw [upd_ne hb] at z; exact R'.nf b u z
  · obtain ⟨v, p1, p2⟩ := R'.fr i d z
    exact ⟨v, p1, p2.mono sm⟩
  · obtain ⟨b, p1, p2, p3, p4⟩ := R.ow i sl z o
    obtain ⟨b', r1, r2, r3, r4⟩ := R'.ow i sl z o
    rw [p1] at r1; cases r1
    refine ⟨b, p1, r2.mono (fun u q => q) sm, ?_, r4⟩
    rw [upd_ne]
    · exact r3
    · rintro rfl
      obtain ⟨o', q'⟩ := p2.there o
      rw [q'] at hh; cases hh
theorem ds_asgComp {tg elt iter : Expr} {ifs : List Expr} {y : Str} {py pos spos : Pos} {fi : FA} {γ : FG} {ft : FT} {f : FE} (i : Nat) (hN : X.N.Nodup) (hc : X.calm = true) (S : CompScope X.env.scope scope own frees) (hcap : caps.map (fun j => X.N[j]?) = frees.map some) (kn : KeepsNo γ) (hi : DI X tg iter fi)
    (body : ∀ cl C s H fp, DG (cxC X scope cl C (own ++ frees) s H fp) tg γ ∧ DQ (cxC X scope cl C (own ++ frees) s H fp) ifs ft ∧ DE (cxC X scope cl C (own ++ frees) s H fp) elt f)
    (hsw : swapsWith (.ListComp elt [⟨tg, iter, ifs, 0⟩] scope pos) (some (.Name y py)) spos.line X.env = pure true := by rfl) (hiN : X.N[i]? = some y := by rfl) (hy : X.env.scope.names.lookup y = some .local := by rfl)
    (hs : ∀ x, foldedSetIterable iter X.env x = pure x := by intro _; rfl) : DS X (.Assign [.Name y py] (.ListComp elt [⟨tg, iter, ifs, 0⟩] scope pos) spos) (asgF i (mapLst (compF own.length caps fi γ ft f))) :=
  ps_imp (wp_asgComp hc S hcap kn hi body hsw i hN hiN hy hs) fun D' σ H ⟨H₀, Hf₀, ρ, Hf, o, R, q, k⟩ => by
    obtain ⟨d, e1, e2⟩ := bindV_some q
    cases e2
    unfold mapLst at e1
    cases e3 : compF own.length caps fi γ ft f ρ with
    | none => rw [e3] at e1; cases e1
    | some ds =>
      rw [e3] at e1
      cases e1
      refine ⟨H₀, Hf₀, ρ, Hf, ds, R, e3, fun a xs H1 Hf1 R1 s1 t1 h1 ha hn hh => ?_⟩
      have sm : Same Hf1 (upd Hf1 a (.lst xs)) := same_upd hn
      exact k _ _ _ ((R.lstFrz R1 ha hn hh).set i (Has.lst_iff.mpr ⟨a, xs, rfl, SqL.of upd_same, h1.mono sm⟩)) (t1.trans sm)
end
inductive GEnt (K : PySem.W.Frag) : List DictEntry → List (Int × D) → Prop
  | nil : GEnt K [] []
  | cons {k : Int} {t : Tok} {u : Value} {v : V} {d : D} {es : List DictEntry} {kvs : List (Int × D)} : hashInt k = k → RelV v u → Has K (fun _ => none) d v → GEnt K es kvs → GEnt K (⟨k, .int k t, u⟩ :: es) ((k, d) :: kvs)
theorem GEnt.vals {K : PySem.W.Frag} : ∀ {es : List DictEntry} {kvs : List (Int × D)}, GEnt K es kvs → ∃ vs : List (Int × Value), (∀ P w, (∀ e ∈ es, ∃ k, (intKind P w).is k e.key = true ∧ e.hash = (intKind P w).hash k) ∧ Pairs (intKind P w) es vs) ∧ vs.map (·.1) = kvs.map (·.1) ∧
    ∀ k d, kvs.lookup k = some d → ∃ u v, valueAt vs k = some u ∧ RelV v u ∧ Has K (fun _ => none) d v
  | _, _, .nil => ⟨[], fun P w => ⟨fun e he => (by cases he), Pairs.nil⟩, rfl, fun k d e => (by simp at e)⟩
  | _, _, @GEnt.cons _ k t u v d es kvs hk r h g => by
    obtain ⟨vs, p1, p2, p3⟩ := g.vals
    have hi : Value.isInt k (.int k t) = true := by simp [Value.isInt]
    refine ⟨(k, u) :: vs, fun P w => ⟨fun e he => ?_, Pairs.cons hi rfl (p1 P w).2⟩, (by simp [p2]), fun k' d' e => ?_⟩
    · rcases List.mem_cons.mp he with rfl | he
      · exact ⟨k, hi, hk.symm⟩
      · exact (p1 P w).1 e he
    · rw [List.lookup_cons] at e
      by_cases hkk : k' = k
      · subst hkk
        simp at e
        subst e
        exact ⟨u, v, by simp [valueAt], r, h⟩
      · have : (k' == k) = false := by simpa using hkk
        rw [this] at e
        obtain ⟨u', v', q1, q2, q3⟩ := p3 k' d' e
        refine ⟨u', v', ?_, q2, q3⟩
        unfold valueAt at q1 ⊢
        rw [List.find?_cons]
        have : decide (k = k') = false := by simpa using fun z : k = k' => hkk z.symm
        simp only [this]
        exact q1
theorem gdict_mk {K : PySem.W.Frag} {mg : Str → Option Value} {x : Str} {kvs : List (Int × D)} {a : Addr} {es : List DictEntry} {ep : Nat} (h1 : mg x = some (.ref a)) (h2 : K.lookup a = some ⟨.type "dict", none, .dict es.toArray ep, #[]⟩) (g : GEnt K es kvs) (nd : (kvs.map (·.1)).Nodup) : GDict K mg x kvs := by
  obtain ⟨vs, p1, p2, p3⟩ := g.vals
  exact ⟨a, _, es.toArray, ep, vs, h1, h2, ⟨rfl, rfl, rfl⟩, rfl, fun P w => ⟨fun e he => (p1 P w).1 e (by simpa using he), (p1 P w).2⟩, by rw [p2]; exact nd, p3⟩
theorem has_ktup {K : PySem.W.Frag} {ds : List D} {a : Addr} {xs : List V} {its : Array Value} {od : Option Addr} {n : Nat} {osl : Array (Option Value)} (h2 : K.lookup a = some ⟨.type "tuple", od, .seq its n, osl⟩) (hz : its.size ≤ sizeLine) (hv : Vals xs its.toList) (hl : HasL K (fun _ => none) ds xs) : Has K (fun _ => none) (.tup ds) (.ref a) :=
  Has.tup_iff.mpr ⟨a, xs, rfl, .inr ⟨_, its, n, h2, rfl, rfl, hz, hv⟩, hl⟩
end FL
set_option Elab.async false
set_option linter.all false
set_option maxRecDepth 100000
set_option maxHeartbeats 4000000
namespace FL
open PySem PySem.Spec PyProof.Rows L2
section
variable {ρ : Rho} {i j k : Nat} {f g h : FE} {fa ga : FA} {ft gt ht : FT} {F G B : FS} {γ : FG} {δ : FGs} {d x y : D} {ds : List D}
@[simp] theorem s_vF : vF i ρ = (match ρ[i]? with | some (.fr d) => some d | _ => none) := rfl
@[simp] theorem s_vR : vR i ρ = (match ρ[i]? with | some (.fr d) => some d | some (.ol ds) => some (.lst ds) | _ => none) := rfl
@[simp] theorem s_cF : cF d ρ = some d := rfl
@[simp] theorem s_bind1 {φ : D → Option D} : bind1 φ f ρ = (f ρ).bind φ := rfl
@[simp] theorem s_bind2 {φ : D → D → Option D} : bind2 φ f g ρ = (f ρ).bind fun x => (g ρ).bind fun y => φ x y := rfl
@[simp] theorem s_nilA : nilA ρ = some [] := rfl
@[simp] theorem s_consA : consA f ga ρ = (f ρ).bind fun x => (ga ρ).bind fun xs => some (x :: xs) := rfl
@[simp] theorem s_tupF : tupF ga ρ = (ga ρ).bind fun xs => if xs.length ≤ sizeLine then some (.tup xs) else none := rfl
@[simp] theorem s_lstF : lstF ga ρ = (ga ρ).bind fun xs => if xs.length ≤ sizeLine then some xs else none := rfl
@[simp] theorem s_mapLst : mapLst fa ρ = (fa ρ).map D.lst := rfl
@[simp] theorem s_blF : blF f ρ = (f ρ).bind fun | .bl b => some b | _ => none := rfl
@[simp] theorem s_andT : andT ft gt ρ = (ft ρ).bind fun b => if b = true then gt ρ else some false := rfl
@[simp] theorem s_orT : orT ft gt ρ = (ft ρ).bind fun b => if b = true then some true else gt ρ := rfl
@[simp] theorem s_ttF : ttF ρ = some true := rfl
@[simp] theorem s_andV : andV f g ρ = (f ρ).bind fun | .bl b => (if b = true then g ρ else some (.bl false)) | _ => none := rfl
@[simp] theorem s_ifF : ifF ft f g ρ = (ft ρ).bind fun b => if b = true then f ρ else g ρ := rfl
@[simp] theorem s_appF {φ : List D → Option D} : appF φ fa ρ = (fa ρ).bind φ := rfl
@[simp] theorem s_seqF : seqF F G ρ = (F ρ).bind fun o => match o with | .nx ρ' => G ρ' | o => some o := rfl
@[simp] theorem s_nxF : nxF ρ = some (.nx ρ) := rfl
@[simp] theorem s_retF : retF f ρ = (f ρ).bind fun d => some (.rt d) := rfl
@[simp] theorem s_ifS : ifS ft F G ρ = (ft ρ).bind fun b => if b = true then F ρ else G ρ := rfl
@[simp] theorem s_asgF : asgF i f ρ = (f ρ).bind fun d => some (.nx (ρ.set i (.fr d))) := rfl
@[simp] theorem s_asgN : asgN i fa ρ = (fa ρ).bind fun ds => some (.nx (ρ.set i (.ol ds))) := rfl
@[simp] theorem s_frzF : frzF i F ρ = (frz i ρ).bind F := rfl
@[simp] theorem s_frz : frz i ρ = (match ρ[i]? with | some (.ol ds) => some (ρ.set i (.fr (.lst ds))) | some (.fr _) => some ρ | _ => none) := rfl
@[simp] theorem s_nameG : nameG i d ρ = some (ρ.set i (.fr d)) := rfl
@[simp] theorem s_nilG : nilG [] ρ = some ρ := rfl
@[simp] theorem s_consG {r : List D} : consG γ δ (d :: r) ρ = (γ d ρ).bind fun ρ' => δ r ρ' := rfl
@[simp] theorem s_tupG : tupG k δ (.tup ds) ρ = if ds.length = k then δ ds ρ else none := rfl
@[simp] theorem s_appendF : appendF i f ρ = (f ρ).bind fun d => match ρ[i]? with | some (.ol ds) => if ds.length < sizeLine then some (.nx (ρ.set i (.ol (ds ++ [d])))) else none | _ => none := rfl
@[simp] theorem s_forF : forF fa γ B ρ = (fa ρ).bind fun ds => loopF γ B ds ρ := rfl
@[simp] theorem s_itemsE : itemsE f ρ = (seqItems f ρ).bind fun ds => some (enumD ds) := rfl
@[simp] theorem s_itemsZ : itemsZ f g ρ = (seqItems f ρ).bind fun xs => (seqItems g ρ).bind fun ys => some (zipD xs ys) := rfl
@[simp] theorem s_itemsB : itemsB f ρ = (f ρ).bind fun | .tup ds => some ds.reverse | _ => none := rfl
@[simp] theorem s_seqItems : seqItems f ρ = (f ρ).bind seqOf := rfl
@[simp] theorem s_seqL : seqOf (.lst ds) = some ds := rfl
@[simp] theorem s_seqT : seqOf (.tup ds) = some ds := rfl
@[simp] theorem s_noP : noP ρ = some none := rfl
@[simp] theorem s_exP : exP f ρ = (f ρ).bind fun | .int i => some (some i) | _ => none := rfl
@[simp] theorem s_sliceF {l u : FP} : sliceF f l u ρ = (f ρ).bind fun x => (l ρ).bind fun lo => (u ρ).bind fun hi => match x with | .tup ds => some (.tup (cutL ds lo hi)) | .lst ds => some (.lst (cutL ds lo hi)) | _ => none := rfl
@[simp] theorem s_revF : revF f g ρ = (f ρ).bind fun x => (g ρ).bind fun y => match x, y with | .tup ds, .int i => if i = -1 then some (.tup ds.reverse) else none | .lst ds, .int i => if i = -1 then some (.lst ds.reverse) else none | _, _ => none := rfl
@[simp] theorem s_revN : revN f g ρ = (f ρ).bind fun x => (g ρ).bind fun y => match x, y with | .lst ds, .int i => if i = -1 then some ds.reverse else none | _, _ => none := rfl
@[simp] theorem s_compF {n : Nat} {caps : List Nat} {fi : FA} : compF n caps fi γ ft f ρ = (fi ρ).bind fun ds => if ds.length ≤ sizeLine then compGo γ ft f ds (compS n caps ρ) else none := rfl
@[simp] theorem s_compS {n : Nat} {caps : List Nat} : compS n caps ρ = List.replicate n .no ++ caps.map (capS ρ) := rfl
@[simp] theorem s_capS : capS ρ j = (match ρ[j]? with | some (.fr d) => .fr d | _ => .no) := rfl
@[simp] theorem s_rng1 : rng1 fa ρ = (fa ρ).bind rangeA := rfl
@[simp] theorem s_rng2 : rng2 fa ρ = (fa ρ).bind rangeB := rfl
theorem rangeA_ok {j : Int} (h1 : -1000000 ≤ j) (h2 : j ≤ 1000000) : rangeA [.int j] = some (rangeD 0 j) := by
  show @ite _ (-(2 ^ 62) ≤ j ∧ j < 2 ^ 62) (Classical.propDecidable _) (some (rangeD 0 j)) none = _
  rw [if_pos (by omega)]
theorem rangeB_ok {i j : Int} (h1 : -1000000 ≤ i) (h2 : i ≤ 1000000) (h3 : -1000000 ≤ j) (h4 : j ≤ 1000000) : rangeB [.int i, .int j] = some (rangeD i j) := by
  show @ite _ (-(2 ^ 62) ≤ i ∧ i < 2 ^ 62 ∧ -(2 ^ 62) ≤ j ∧ j < 2 ^ 62) (Classical.propDecidable _) (some (rangeD i j)) none = _
  rw [if_pos (by omega)]
@[simp] theorem s_denF : denF k F ds = outD (F (startR k ds)) := rfl
@[simp] theorem s_outR : outD (some (.rt d)) = some d := rfl
@[simp] theorem s_outN : outD (some (.nx ρ)) = some .non := rfl
@[simp] theorem s_startR : startR k ds = ds.map Slot.fr ++ List.replicate (k - ds.length) Slot.no := rfl
variable {a b : Int}
@[simp] theorem s_sub : subD (.int a) (.int b) = some (.int (a - b)) := rfl
@[simp] theorem s_add : addX (.int a) (.int b) = some (.int (a + b)) := rfl
@[simp] theorem s_lt : ltD (.int a) (.int b) = some (.bl (decide (a < b))) := rfl
@[simp] theorem s_le : leD (.int a) (.int b) = some (.bl (decide (a ≤ b))) := rfl
@[simp] theorem s_gt : gtD (.int a) (.int b) = some (.bl (decide (b < a))) := rfl
@[simp] theorem s_ge : geD (.int a) (.int b) = some (.bl (decide (b ≤ a))) := rfl
@[simp] theorem s_neg : negD (.int a) = some (.int (-a)) := rfl
@[simp] theorem s_eqi : eqF (.int a) (.int b) = some (.bl (decide (a = b))) := eqF_int
@[simp] theorem s_nei : neF (.int a) (.int b) = some (.bl (!decide (a = b))) := neF_int
@[simp] theorem s_isN : isD k' .non .non = some (.bl (!k')) := rfl
@[simp] theorem s_min : minD [.int a, .int b] = some (.int (if b < a then b else a)) := rfl
@[simp] theorem s_max : maxD [.int a, .int b] = some (.int (if b > a then b else a)) := rfl
@[simp] theorem s_int : intD [.int a] = some (.int a) := rfl
@[simp] theorem s_intb {b : Bool} : intD [.bl b] = some (.int (if b then 1 else 0)) := rfl
@[simp] theorem s_lenL : lenD [.lst ds] = some (.int ds.length) := rfl
@[simp] theorem s_lenT : lenD [.tup ds] = some (.int ds.length) := rfl
@[simp] theorem s_tuL : tupleD [.lst ds] = some (.tup ds) := rfl
@[simp] theorem s_tuT : tupleD [.tup ds] = some (.tup ds) := rfl
end
theorem compF_ok {n : Nat} {caps : List Nat} {fi : FA} {γ : FG} {ft : FT} {f : FE} {ρ : Rho} {ds : List D} (h : fi ρ = some ds) (hz : ds.length ≤ sizeLine) : compF n caps fi γ ft f ρ = compGo γ ft f ds (compS n caps ρ) := by
  rw [s_compF, h, Option.bind_some, if_pos hz]
theorem comp1 {f : FE} {C : List Slot} {φ : Nat → D} : ∀ (ds : List D) (n : Nat) (s : Slot), (∀ k d, ds[k]? = some d → f (.fr d :: C) = some (φ (n + k))) → compGo (nameG 0) ttF f ds (s :: C) = some ((List.range ds.length).map fun k => φ (n + k))
  | [], _, _, _ => rfl
  | d :: ds, n, s, h => by
    have h0 := h 0 d rfl
    have ih := comp1 (f := f) (C := C) (φ := φ) ds (n + 1) (.fr d) (fun k d' e => by rw [h (k + 1) d' (by simpa using e)]; congr 2; omega)
    unfold compGo
    simp only [s_nameG, List.set_cons_zero, Option.bind_some, s_ttF, if_true, h0, ih, Nat.add_zero]
    rw [List.length_cons, List.range_succ_eq_map, List.map_cons, List.map_map]
    congr 3
    funext k
    simp only [Function.comp]
    congr 1
    omega
theorem comp2 {f : FE} {C : List Slot} {φ : Nat → D} : ∀ (ds : List D) (n : Nat) (s s' : Slot), (∀ k d, ds[k]? = some d → ∃ x y, d = .tup [x, y] ∧ f (.fr x :: .fr y :: C) = some (φ (n + k))) →
    compGo (tupG 2 (consG (nameG 0) (consG (nameG 1) nilG))) ttF f ds (s :: s' :: C) = some ((List.range ds.length).map fun k => φ (n + k))
  | [], _, _, _, _ => rfl
  | d :: ds, n, s, s', h => by
    obtain ⟨x, y, rfl, h0⟩ := h 0 d rfl
    have ih := comp2 (f := f) (C := C) (φ := φ) ds (n + 1) (.fr x) (.fr y) (fun k d' e => by
      obtain ⟨x', y', e1, e2⟩ := h (k + 1) d' (by simpa using e)
      exact ⟨x', y', e1, by rw [e2]; congr 2; omega⟩)
    unfold compGo
    simp only [s_tupG, s_consG, s_nameG, s_nilG, List.length_cons, List.length_nil, if_true, List.set_cons_zero, List.set_cons_succ, Option.bind_some, s_ttF, h0, ih, Nat.add_zero]
    rw [List.range_succ_eq_map, List.map_cons, List.map_map]
    congr 3
    funext k
    simp only [Function.comp]
    congr 1
    omega
end FL
set_option Elab.async false
set_option linter.all false
set_option maxRecDepth 100000
set_option maxHeartbeats 4000000
namespace FL
open PySem PySem.Spec PyProof.Rows L2
section
variable {X : Cx}
end
end FL
set_option Elab.async false
set_option linter.all false
set_option maxRecDepth 100000
set_option maxHeartbeats 4000000
namespace FL
open PySem PySem.Spec PyProof.Rows L2
theorem bools_are : ∀ {bs : List Bool} {us : List Value}, Vals (bs.map V.bl) us → LSm.BoolsAre us bs
  | [], _, r => by cases r; exact .nil
  | b :: bs, _, r => by
    rw [List.map_cons] at r
    cases r with
    | cons r1 r2 => cases r1; exact .cons b (bools_are r2)
theorem ints_are : ∀ {ns : List Int} {us : List Value}, Vals (ns.map V.int) us → IntsAre us ns
  | [], _, r => by cases r; exact .nil
  | n :: ns, _, r => by
    rw [List.map_cons] at r
    cases r with
    | cons r1 r2 => obtain ⟨t, rfl⟩ := r1; exact .cons n t (ints_are r2)
variable {X : Cx}
theorem call_all (hc : X.calm = true) : CallR X (.builtin "all") (fun xs H Q => ∃ (p : Addr) (bs : List Bool), xs = [.ref p] ∧ SqL X.K H p (bs.map V.bl) ∧ Q (.bl (bs.all id)) H) := by
  intro pins s σ H xs us Q I r h
  obtain ⟨p, bs, rfl, hq, q⟩ := h
  obtain ⟨u, rfl, rx⟩ := vals1 r
  cases rx
  obtain ⟨its, r', pl, hz⟩ := I.list hq
  have hb := bools_are r'
  have hl := pl.isList
  have hlt : p < s.heap.objs.size := by obtain ⟨_, e, _⟩ := hl; exact Heap.lt_size e
  refine call_all_walk (wpAny_pyIter_list hl ?_)
  refine ⟨s.heap.objs.size, [s.heap.objs.size, p], [s.heap.objs.size], its.toArray.size, _, _, fun i => (bs[i]?).getD true, rfl, PySem.Walks.list (A := X.A.in1) (I.ok.hd hc) _ p (Nat.ne_of_lt hlt) its.toArray,
    ⟨⟨_, Heap.get?_push_size _ rfl, rfl, rfl⟩, hl.push _⟩, fun i v s' Q' E' hP hQ => ?_, fun h' tk hk => ?_⟩
  · obtain ⟨b, e, rfl⟩ := hb.get i v (by simpa using hP)
    simp only [e, Option.getD_some] at hQ
    exact wpAny_truthy_bool hQ
  · have e : ((List.range its.toArray.size).all fun i => (bs[i]?).getD true) = bs.all id := by
      rw [List.size_toArray, hb.length]; exact LSm.range_all bs
    rw [e]
    exact ⟨.bl (bs.all id), H, I.kept (LSm.kept_iter hk), rfl, q⟩
theorem call_sum (hc : X.calm = true) : CallR X (.builtin "sum") (fun xs H Q => ∃ (p : Addr) (ns : List Int), xs = [.ref p] ∧ SqL X.K H p (ns.map V.int) ∧ Q (.int ns.sum) H) := by
  intro pins s σ H xs us Q I r h
  obtain ⟨p, ns, rfl, hq, q⟩ := h
  obtain ⟨u, rfl, rx⟩ := vals1 r
  cases rx
  obtain ⟨its, r', pl, hz⟩ := I.list hq
  have hi := ints_are r'
  have hl := pl.isList
  obtain ⟨xs, hx⟩ := hi.allInts.items
  have hl' : s.heap.IsList p (intItems xs) := hx ▸ hl
  refine sum_intListG (I.ok.hd hc) hl' fun h' tk t' hk => ?_
  have e1 : ns = xs.toList.map (·.1) := by
    rw [← nums_intItems, ← hx]
    exact (show numsOf its.toArray.toList = ns from hi.numsOf).symm
  have e2 : preSum (numAt xs) xs.size = ns.sum := by
    rw [preSum_eq, List.take_of_length_le (by simp), e1]
  rw [e2]
  exact ⟨.int ns.sum, H, I.kept hk, ⟨t', rfl⟩, q⟩
def boolsOf : List D → Option (List Bool)
  | [] => some []
  | .bl b :: ds => (boolsOf ds).map (b :: ·)
  | _ :: _ => none
def intsOf : List D → Option (List Int)
  | [] => some []
  | .int b :: ds => (intsOf ds).map (b :: ·)
  | _ :: _ => none
theorem HasL.bools {K : PySem.W.Frag} {H : Hp} : ∀ {ds : List D} {xs : List V} {bs : List Bool}, HasL K H ds xs → boolsOf ds = some bs → xs = bs.map V.bl
  | [], [], bs, h, e => by cases e; rfl
  | [], _ :: _, bs, h, e => by have := h.length; cases this
  | _ :: _, [], bs, h, e => by have := h.length; cases this
  | .bl b :: ds, x :: xs, bs, h, e => by
    unfold boolsOf at e
    cases e' : boolsOf ds with
    | none => rw [e'] at e; cases e
    | some cs =>
      rw [e'] at e
      cases e
      obtain ⟨_, _, e0, h1, h2⟩ := HasL.cons_iff.mp h
      cases e0
      rw [Has.bl_iff.mp h1, HasL.bools h2 e']
      rfl
  | .non :: _, _ :: _, _, _, e => by cases e
  | .int _ :: _, _ :: _, _, _, e => by cases e
  | .str _ :: _, _ :: _, _, _, e => by cases e
  | .tup _ :: _, _ :: _, _, _, e => by cases e
  | .lst _ :: _, _ :: _, _, _, e => by cases e
theorem HasL.intsV {K : PySem.W.Frag} {H : Hp} : ∀ {ds : List D} {xs : List V} {bs : List Int}, HasL K H ds xs → intsOf ds = some bs → xs = bs.map V.int
  | [], [], bs, h, e => by cases e; rfl
  | [], _ :: _, bs, h, e => by have := h.length; cases this
  | _ :: _, [], bs, h, e => by have := h.length; cases this
  | .int b :: ds, x :: xs, bs, h, e => by
    unfold intsOf at e
    cases e' : intsOf ds with
    | none => rw [e'] at e; cases e
    | some cs =>
      rw [e'] at e
      cases e
      obtain ⟨_, _, e0, h1, h2⟩ := HasL.cons_iff.mp h
      cases e0
      rw [Has.int_iff.mp h1, HasL.intsV h2 e']
      rfl
  | .non :: _, _ :: _, _, _, e => by cases e
  | .bl _ :: _, _ :: _, _, _, e => by cases e
  | .str _ :: _, _ :: _, _, _, e => by cases e
  | .tup _ :: _, _ :: _, _, _, e => by cases e
  | .lst _ :: _, _ :: _, _, _, e => by cases e
def allD : List D → Option D
  | [.lst ds] => (boolsOf ds).map fun bs => .bl (bs.all id)
  | _ => none
def sumD : List D → Option D
  | [.lst ds] => (intsOf ds).map fun bs => .int bs.sum
  | _ => none
theorem fnR_all : FnR X (fun xs H Q => ∃ (p : Addr) (bs : List Bool), xs = [.ref p] ∧ SqL X.K H p (bs.map V.bl) ∧ Q (.bl (bs.all id)) H) allD := by
  intro σ ρ H₀ Hf₀ H Hf xs ds d Q R hx hφ k
  unfold allD at hφ
  split at hφ
  · obtain ⟨bs, e1, rfl⟩ := Option.map_eq_some_iff.mp hφ
    obtain ⟨v, rfl, hv⟩ := hx.one
    obtain ⟨a, ys, rfl, q, l⟩ := hv.lst R
    have := l.bools e1
    subst this
    exact ⟨a, bs, rfl, q, k _ _ _ R sameR sameR (Has.bl_iff.mpr rfl)⟩
  · cases hφ
theorem fnR_sum : FnR X (fun xs H Q => ∃ (p : Addr) (ns : List Int), xs = [.ref p] ∧ SqL X.K H p (ns.map V.int) ∧ Q (.int ns.sum) H) sumD := by
  intro σ ρ H₀ Hf₀ H Hf xs ds d Q R hx hφ k
  unfold sumD at hφ
  split at hφ
  · obtain ⟨bs, e1, rfl⟩ := Option.map_eq_some_iff.mp hφ
    obtain ⟨v, rfl, hv⟩ := hx.one
    obtain ⟨a, ys, rfl, q, l⟩ := hv.lst R
    have := l.intsV e1
    subst this
    exact ⟨a, bs, rfl, q, k _ _ _ R sameR sameR (Has.int_iff.mpr rfl)⟩
  · cases hφ
theorem boolsOf_map : ∀ bs : List Bool, boolsOf (bs.map D.bl) = some bs
  | [] => rfl
  | b :: bs => by rw [List.map_cons, boolsOf, boolsOf_map bs]; rfl
theorem intsOf_map : ∀ bs : List Int, intsOf (bs.map D.int) = some bs
  | [] => rfl
  | b :: bs => by rw [List.map_cons, intsOf, intsOf_map bs]; rfl
@[simp] theorem s_all (bs : List Bool) : allD [.lst (bs.map D.bl)] = some (.bl (bs.all id)) := by show (boolsOf (bs.map D.bl)).map _ = _; rw [boolsOf_map]; rfl
@[simp] theorem s_sum (bs : List Int) : sumD [.lst (bs.map D.int)] = some (.int bs.sum) := by show (intsOf (bs.map D.int)).map _ = _; rw [intsOf_map]; rfl
end FL
set_option Elab.async false
set_option linter.all false
set_option maxRecDepth 100000
set_option maxHeartbeats 4000000
namespace FL
open PySem PySem.Spec PyProof.Rows L2
theorem nolen_rev : typeLookup (.type "reversed") "__len__" = pure none := by rw [typeLookup_type, builtinLookup_eq_fast]; kernel_rfl
theorem slot_rev_hint : PySem.Slot "reversed" "__length_hint__" "reversed.__length_hint__" :=
  .of (owner := "reversed") (n := "__length_hint__") (by rw [typeLookup_type, builtinLookup_eq_fast]; kernel_rfl) (by decide +kernel) (by decide +kernel) (by decide +kernel)
    (by first | exact .inl (by decide +kernel) | exact .inr (by decide +kernel)) (by rw [isSubtype_type]; kernel_rfl)
theorem entry_rev_hint : entryFor table "reversed.__length_hint__" = some Builtin.«reversed.__length_hint__» := entryFor_of_tree (by kernel_rfl)
theorem args_rev_hint (a : Value) : argsOk "reversed.__length_hint__" ⟨[a], []⟩ := by
  unfold argsOk; rw [signature?_of (id := "reversed.__length_hint__") (n := "__length_hint__".toList.reverse) (o := ['d', 'e', 's', 'r', 'e', 'v', 'e', 'r']) (by kernel_rfl) owner_rev]; kernel_rfl
section
variable {prog : Program} {w : World} {A : Around} {E : Value → Shared → Prop} {s : Shared}
theorem rev_walks (hh : A.handled = none) (r t : Addr) (hne : t ≠ r) (items : Array Value) (hz : items.size ≤ sizeLine) : WalksS prog w A r [r, t] [r] (fun a b => a = b) items.size (fun i v => items.toList.reverse[i]? = some v) (fun i s => IsRev s.heap r t ((items.size : Int) - 1 - i) ∧ IsTup s.heap t items) where
  sub := fun b hb => by simp at hb; simp [hb]
  grefl := fun _ => rfl
  gtrans := fun _ _ _ h h' => h.trans h'
  frame := fun i s h' tk st _ hk => ⟨hk r (by simp) _ st.1, by
    obtain ⟨o, ho, hc, n, hd⟩ := st.2
    exact ⟨o, hk t (by simp) o ho, hc, n, hd⟩⟩
  item := fun i s Q E hi st hQ => by
    obtain ⟨st, ht⟩ := st
    have hT : s.TypeIs (.ref r) "reversed" := ⟨_, st, rfl⟩
    have hk : ((items.size : Int) - 1 - i) = ((items.size - 1 - i : Nat) : Int) := by omega
    rw [hk] at st
    have hx : items[items.size - 1 - i]? = some items[items.size - 1 - i] := by simp
    unfold pyNext
    refine wpAny_bind (wpAny_attempt (wpAny_callSpecial?_slot (name := Str.ofString "__next__") hT slot_rev_next (wpAny_call_entry slot_rev_next hT entry_rev_next
      (next_rev_item st ht hx hz fun h' st' sb => wpAny_pure ?_) (args_rev_next _))))
    refine hQ _ _ ?_ ⟨?_, ?_⟩ ⟨fun b o hb e => sb.2 b (by simpa using hb) ▸ e, rfl, rfl, rfl, Nat.le_succ _⟩
    · rw [List.getElem?_reverse (by simpa using hi)]
      simp
    · have e : ((items.size : Int) - 1 - ((i + 1 : Nat) : Int)) = ((items.size - 1 - i : Nat) : Int) - 1 := by omega
      show IsRev h' r t ((items.size : Int) - 1 - ((i + 1 : Nat) : Int))
      rw [e]
      exact st'
    · obtain ⟨o, ho, hc, n, hd⟩ := ht
      exact ⟨o, (sb.2 t hne).trans ho, hc, n, hd⟩
  done := fun s Q E st hQ => by
    obtain ⟨st, ht⟩ := st
    have hT : s.TypeIs (.ref r) "reversed" := ⟨_, st, rfl⟩
    unfold pyNext
    refine wpAny_bind (wpAny_attempt (wpAny_callSpecial?_slot (name := Str.ofString "__next__") hT slot_rev_next (wpAny_call_entry slot_rev_next hT entry_rev_next
      (next_rev_end (show A.in1.handled = none from hh) st (by omega) fun h' e eb ⟨o, ho, hcl⟩ => ?_) (args_rev_next _))))
    refine wpAny_bind (wpAny_isInstance (T := "StopIteration") (b := true) ⟨o, ho, hcl⟩ isSubtype_stop ?_)
    exact wpAny_pure (hQ _ ⟨fun b o hb e => eb b o (by simpa using hb) e, rfl, rfl, rfl, Nat.le_refl _⟩)
  self := fun i s Q E st h => pyIter_rev st.1 h
theorem hint_rev {r t : Addr} {items : Array Value} {Q : Value → Shared → Prop} (hr : IsRev s.heap r t ((items.size : Int) - 1)) (ht : IsTup s.heap t items) (hz : items.size ≤ sizeLine)
    (h : ∀ u tk, s.toks ≤ tk → Q (.int (items.size : Int) u) { s with toks := tk }) : wpAny (model prog w) A (call (.builtin "reversed.__length_hint__") [.ref r]) Q E s := by
  have hn := line63
  have hT : s.TypeIs (.ref r) "reversed" := ⟨_, hr, rfl⟩
  refine wpAny_call_entry slot_rev_hint hT entry_rev_hint ?_ (args_rev_hint _)
  show wpAny _ _ (field (.ref r) 0 >>= _) _ _ _
  refine wpAny_bind (wpAny_field hr rfl (x := .ref t) rfl ?_)
  show wpAny _ _ (if ((Value.ref t == Value.none) = true) then _ else _) _ _ _
  rw [if_neg (show ¬ ((Value.ref t == Value.none) = true) from Bool.false_ne_true)]
  refine wpAny_bind (len_tuple ht (by omega) ?_)
  refine wpAny_bind (wpAny_of_eq (a := some (items.size : Int)) rfl ?_)
  try dsimp only
  refine wpAny_bind (wpAny_field (s := { s with toks := s.toks + 1 + 1 }) hr rfl (x := rawInt ((items.size : Int) - 1)) rfl ?_)
  show wpAny _ _ (if ((items.size : Int) < (items.size : Int) - 1 + 1) then _ else _) _ _ _
  rw [if_neg (by omega)]
  have e : (items.size : Int) - 1 + 1 = (items.size : Int) := by omega
  rw [e]
  exact wpAny_bind (wpAny_mkInt (wpAny_pure ⟨_, rfl, h _ _ (by show s.toks ≤ s.toks + 1 + 1 + 1; omega)⟩))
theorem collect_rev (hh : A.handled = none) {r t : Addr} (hne : t ≠ r) {items : Array Value} {Q : List Value → Shared → Prop} (hr : IsRev s.heap r t ((items.size : Int) - 1)) (ht : IsTup s.heap t items) (hz : items.size ≤ sizeLine)
    (hQ : ∀ s', Moved [r] (fun a b => a = b) s s' → Q items.toList.reverse s') : wpAny (model prog w) A (collect (.ref r)) Q E s := by
  have W := rev_walks (prog := prog) (w := w) (A := A.in1) hh r t hne items hz
  have hst : (fun i (s : Shared) => IsRev s.heap r t ((items.size : Int) - 1 - i) ∧ IsTup s.heap t items) 0 s := ⟨by simpa using hr, ht⟩
  have hT : ∀ (s : Shared), IsRev s.heap r t ((items.size : Int) - 1 - ((0 : Nat) : Int)) ∧ IsTup s.heap t items → s.TypeIs (.ref r) "reversed" := fun s st => ⟨_, st.1, rfl⟩
  have hfp : ∀ b ∈ [r, t], b < s.heap.objs.size := fun b hb => by
    simp only [List.mem_cons, List.not_mem_nil, or_false] at hb
    rcases hb with rfl | rfl
    · exact Heap.lt_size hr
    · obtain ⟨o, ho, _⟩ := ht; exact Heap.lt_size ho
  have hSf : s.heap.objs.size ∉ [r, t] := fun hm => Nat.lt_irrefl _ (hfp _ hm)
  have hSI : s.heap.objs.size ≠ r := fun e => hSf (by simp [e])
  unfold collect
  refine wpAny_bind (wpAny_runValue (codeAny_builtin F.entry_proto_collect ?_))
  rw [Around.under_plainId F.plain_proto_collect _]
  show wpAny _ A.in1 (newList [] >>= fun l => again (.builtin "list.__iadd__" ⟨[l, .ref r], []⟩)) _ _ s
  refine wpAny_bind (wpAny_newObj_type ?_)
  refine wpAny_pure ⟨plainId_quiet F.plain_list_iadd _, codeAny_builtin F.entry_list_iadd ?_⟩
  rw [Around.under_plainId F.plain_list_iadd _]
  have hst₁ := W.frame 0 s (s.heap.push { cls := .type "list", data := .seq ([] : List Value).toArray }) s.toks hst (Nat.le_refl _) fun b _ o e => Heap.get?_push_of_some _ e
  have h1 : Builtin.List.listSameRef (.ref s.heap.objs.size) (.ref r) = false := by simp [Builtin.List.listSameRef, hSI]
  show wpAny _ A.in1 (Builtin.List.listExtendWith (.ref s.heap.objs.size) (.ref r) (.ref s.heap.objs.size)) _ _ _
  unfold Builtin.List.listExtendWith
  refine wpAny_bind (wpAny_typeOf (hT _ hst₁) ?_)
  rw [if_neg (by rw [h1]; decide)]
  refine wpAny_bind (W.self 0 _ _ _ hst₁ ?_)
  refine wpAny_bind (wpAny_holding ?_)
  unfold Builtin.List.listLengthHint
  refine wpAny_bind (wpAny_specialOf (hT _ hst₁) nolen_rev ?_)
  show wpAny _ A.in1 (specialOf (Value.ref r) (Str.ofString "__length_hint__") >>= _) _ _ _
  refine wpAny_bind (wpAny_specialOf (hT _ hst₁) slot_rev_hint.lookup ?_)
  (generalize hid : ("reversed.__length_hint__" : String) = id0; (fail_if_success (clear hid id0)); wp_delta; rw [show splitId id0 = some ("reversed", "__length_hint__") from by subst hid; decide +kernel]; subst hid)
  refine wpAny_bind (wpAny_isInstance (b := true) (hT _ hst₁) (by rw [isSubtype_type]; kernel_rfl) ?_)
  show wpAny _ A.in1 (rule "list.length-hint.hint" >>= _) _ _ _
  refine wpAny_bind (wpAny_rule ?_)
  refine wpAny_bind (wpAny_of_eq (slot_rev_hint.bind _) ?_)
  try dsimp only
  refine wpAny_bind (wpAny_attempt (hint_rev (items := items) (by simpa using hst₁.1) hst₁.2 hz fun u tk htk => ?_))
  have hn := line63
  have f1 : Builtin.List.listFitsIndex (items.size : Int) = true := by
    unfold Builtin.List.listFitsIndex
    rw [Bool.and_eq_true, decide_eq_true_eq, decide_eq_true_eq]
    omega
  have f2 : Builtin.List.listTooLong ((items.size : Int)).toNat = false := by
    unfold Builtin.List.listTooLong
    rw [decide_eq_false_iff_not, Int.toNat_natCast]
    omega
  have f3 : ¬ ((items.size : Int) < 0) := by omega
  have f4 : ((items.size : Int) != 0) = decide (items.size ≠ 0) := by
    by_cases c : items.size = 0
    · rw [c]; rfl
    · have : (items.size : Int) ≠ 0 := by omega
      simp [c, this]
  generalize (items.size : Int) = kk at f1 f2 f3 f4
  refine wpAny_bind (m := asInt? (.int kk u)) (wpAny_pure ?_)
  dsimp only
  rw [if_neg (by rw [f1]; decide), if_neg f3, if_neg (by rw [f2]; decide)]
  refine wpAny_pure ?_
  rw [f4]
  have hst₂ := W.frame 0 _ _ tk hst₁ htk fun b _ o e => e
  have hS₁ : (s.heap.push { cls := .type "list", data := .seq ([] : List Value).toArray }).get? s.heap.objs.size = some { cls := .type "list", data := .seq ([] : List Value).toArray } := Heap.get?_push_size _ rfl
  have fin : ∀ acc : Array Value, ItemsOf (fun i v => items.toList.reverse[i]? = some v) acc items.size → acc.toList = items.toList.reverse := fun acc ha => by
    apply List.ext_getElem?
    intro i
    by_cases hi : i < items.size
    · have hi' : i < acc.size := by have := ha.1; omega
      have e1 : acc[i]? = some acc[i] := by simp [hi']
      rw [Array.getElem?_toList, e1]
      exact (ha.2 i _ e1).symm
    · have l1 : acc.toList.length ≤ i := by have := ha.1; simp; omega
      have l2 : items.toList.reverse.length ≤ i := by simp; omega
      rw [List.getElem?_eq_none l1, List.getElem?_eq_none l2]
  by_cases c : items.size = 0
  · have e0 : decide (items.size ≠ 0) = false := by simp [c]
    rw [e0]
    rw [if_neg (by decide)]
    refine wpAny_pure ⟨plainId_quiet F.plain_extend_loop _, codeAny_extend_loopS W hz _ hSf _ items.size 0 _ _ _ rfl (Nat.zero_le _) hst₂ hS₁ (ItemsOf.nil _) fun s' acc' c' hm hS' hacc => ?_⟩
    show wpAny _ A (load s.heap.objs.size >>= _) _ _ s'
    refine wpAny_bind (wpAny_load hS' ?_)
    show wpAny _ A (pure acc'.toList) _ _ s'
    rw [fin acc' hacc]
    exact wpAny_pure (hQ s' (Moved.drop_new (o := { cls := .type "list", data := .seq ([] : List Value).toArray }) (tk := tk) hm htk))
  · have e0 : decide (items.size ≠ 0) = true := by simp [c]
    rw [e0]
    show wpAny _ A.in1 (rule "list.extend.makes-room" >>= fun _ => Builtin.List.listTouch (.ref s.heap.objs.size) >>= fun _ =>
      again (.builtin "list.extend.loop" ⟨[.ref s.heap.objs.size, .ref r, .ref s.heap.objs.size], []⟩)) _ _ _
    refine wpAny_bind (wpAny_rule ?_)
    refine wpAny_bind ?_
    show wpAny _ A.in1 (updateSeq s.heap.objs.size (·.push .none) >>= fun _ => updateSeq s.heap.objs.size (·.pop)) _ _ _
    refine wpAny_bind (wpAny_updateSeq hS₁ rfl ?_)
    have hS₂ := Heap.get?_update_self (Obj.mapSeq (·.push Value.none)) hS₁ rfl
    refine wpAny_updateSeq hS₂ rfl ?_
    have hS₃ := Heap.get?_update_self (Obj.mapSeq (·.pop)) hS₂ rfl
    have oth : ∀ b o, b ≠ s.heap.objs.size → (s.heap.push { cls := .type "list", data := .seq ([] : List Value).toArray }).get? b = some o →
        (((s.heap.push { cls := .type "list", data := .seq ([] : List Value).toArray }).update s.heap.objs.size (Obj.mapSeq (·.push Value.none))).update s.heap.objs.size (Obj.mapSeq (·.pop))).get? b = some o :=
      fun b o hb e => (Heap.get?_update_other _ _ (Ne.symm hb)).trans ((Heap.get?_update_other _ _ (Ne.symm hb)).trans e)
    refine wpAny_pure ⟨plainId_quiet F.plain_extend_loop _, codeAny_extend_loopS W hz _ hSf _ items.size 0 _ _ _ rfl (Nat.zero_le _)
      (W.frame 0 ({ s with heap := s.heap.push { cls := .type "list", data := .seq ([] : List Value).toArray }, toks := tk } : Shared) _ tk hst₂ (Nat.le_refl _) fun b hb o e => oth b o (fun h => hSf (h ▸ hb)) e) hS₃ (ItemsOf.nil _) fun s' acc' c' hm hS' hacc => ?_⟩
    show wpAny _ A (load s.heap.objs.size >>= _) _ _ s'
    refine wpAny_bind (wpAny_load hS' ?_)
    show wpAny _ A (pure acc'.toList) _ _ s'
    rw [fin acc' hacc]
    refine wpAny_pure (hQ s' (Moved.drop_new (o := { cls := .type "list", data := .seq ([] : List Value).toArray }) (tk := tk) (Moved.trans W.gtrans ((Moved.refl W.grefl).then_heap (Nat.le_refl _) fun b o hb e => ?_) hm) htk))
    exact oth b o (fun h => hb (by rw [h]; exact List.mem_cons_self)) e
theorem code_tuple_new_rev {Q₁ : Value → Shared → Prop} (hh : A.handled = none) {r t : Addr} (hne : t ≠ r) {items : Array Value} (hr : IsRev s.heap r t ((items.size : Int) - 1)) (ht : IsTup s.heap t items) (hz : items.size ≤ sizeLine)
    (h : ∀ s', Moved [r] (fun a b => a = b) s s' → Q₁ (.ref s'.heap.objs.size) { s' with heap := s'.heap.push { cls := .type "tuple", data := .seq items.toList.reverse.toArray } }) :
    codeAny (model prog w) A (.call (.builtin "tuple.__new__") ⟨[.type "tuple", .ref r], []⟩) (wants Q₁ E) s := by
  refine codeAny_of_tree ?_
  show wpAny _ A.in1 (do checkBuiltinCall "tuple.__new__" ⟨[.type "tuple", .ref r], []⟩; again (.builtin "tuple.__new__" ⟨[.type "tuple", .ref r], []⟩)) _ _ s
  refine wpAny_bind (wpAny_of_eq (F.newCall_tuple_1 _) (wpAny_pure ⟨plainId_quiet F.plain_tuple_new _, codeAny_builtin F.entry_tuple_new ?_⟩))
  rw [Around.under_plainId F.plain_tuple_new _]
  have hsub := sub_tuple_self
  have hinit := init_tuple_lookup
  have hmh := madeHere_tuple
  have hTI : s.TypeIs (.ref r) "reversed" := ⟨_, hr, rfl⟩
  wp_walk using wpAny_typeOf hTI, collect_rev (show A.in1.handled = none from hh) hne hr ht hz
  intro s' hm
  show wpAny _ _ (Builtin.Tuple.tupleExact items.toList.reverse.toArray >>= fun v => ret v) _ _ _
  unfold Builtin.Tuple.tupleExact
  refine wpAny_bind (wpAny_newObj_type ?_ (by show items.toList.reverse.toArray.size ≤ sizeLine; simpa using hz))
  refine wpAny_pure ?_
  exact h s' hm
theorem call_tuple_rev {Q : Value → Shared → Prop} (hh : A.handled = none) {r t : Addr} (hne : t ≠ r) {items : Array Value} (hr : IsRev s.heap r t ((items.size : Int) - 1)) (ht : IsTup s.heap t items) (hz : items.size ≤ sizeLine)
    (hQ : ∀ s', Moved [r] (fun a b => a = b) s s' → Q (.ref s'.heap.objs.size) { s' with heap := s'.heap.push { cls := .type "tuple", data := .seq items.toList.reverse.toArray } }) :
    wpAny (model prog w) A (call (.type "tuple") [.ref r]) Q E s := by
  refine callType_codes (Q₁ := fun obj s₁ => s₁.TypeIs obj "tuple" ∧ Q obj s₁) F.called_tuple (F.typeCall_tuple_1 _) F.entry_object_init
    (code_tuple_new_rev (A := A.in1) (show A.in1.handled = none from hh) hne hr ht hz fun s' hm => ⟨⟨_, Heap.get?_push_size _ rfl, rfl⟩, hQ s' hm⟩) fun obj s₁ h₁ => ?_
  exact ⟨h₁.1, F.args_object_init_2 obj _, object_init_meets F.called_tuple.init.lookup F.called_tuple.made (by decide) prog w A.in1 _ s₁ ⟨h₁.1, rfl, h₁.2⟩⟩
end
def revT (f : FE) : FE := fun ρ => (f ρ).bind fun | .tup ds => some (.tup ds.reverse) | _ => none
@[simp] theorem s_revT {f : FE} {ρ : Rho} : revT f ρ = (f ρ).bind fun | .tup ds => some (.tup ds.reverse) | _ => none := rfl
theorem boot_tuple' : bootBuiltins "tuple" = some (.type "tuple") := by kernel_rfl
variable {X : Cx} {e : Expr} {f : FE} {pos : Pos}
theorem d_tupRev {p p2 pos2 : Pos} (hc : X.calm = true) (hgT : Gl X "tuple") (hmT : X.mg "tuple" = none) (hg : Gl X "reversed") (hm : X.mg "reversed" = none) (he : DE X e f) (hs : starEach [e] X.env = [(false, eval e X.env)] := by rfl)
    (hs2 : starEach [.Call (.Name "reversed" p2) [e] [] pos2] X.env = [(false, eval (.Call (.Name "reversed" p2) [e] [] pos2) X.env)] := by rfl) : DE X (.Call (.Name "tuple" p) [.Call (.Name "reversed" p2) [e] [] pos2] [] pos) (revT f) := by
  intro pins s σ H Q I h
  obtain ⟨H₀, Hf₀, ρ, Hf, d', R0, q, k⟩ := h
  obtain ⟨d, q3, q4⟩ := bindV_some q
  refine wpAny_Call_Name_kw (ld_blt I hgT hmT boot_tuple' (PyProof.Rows.callWith_type1 ?_ hs2 rfl))
  rw [hs2]
  refine Calls.spliced_cons (rest := []) ?_
  refine wpAny_Call_Name_kw (ld_blt I hg hm boot_reversed (PyProof.Rows.callWith_type1 (thn ((pa_cons he pa_nil hs) pos2 pins s σ H (fun vs H1 => ∃ v Hf1, vs = [v] ∧ Rep X.K H₀ Hf₀ σ ρ H1 Hf1 ∧ Same H H1 ∧ Same Hf Hf1 ∧ Has X.K Hf1 d v) I ⟨H₀, Hf₀, ρ, Hf, d, R0, q3, fun v H1 Hf1 R1 s1 t1 h1 => ⟨v, Hf1, rfl, R1, s1, t1, h1⟩⟩) fun us s1 ⟨vs, H1, I1, r1, q1⟩ => ?_) hs rfl))
  obtain ⟨v, Hf1, rfl, R1, s1', t1, h1⟩ := q1
  cases r1 with
  | cons r rr =>
    cases rr
    cases d <;> try cases q4
    obtain ⟨a, xs, rfl, qa, la⟩ := Has.tup_iff.mp h1
    cases r
    obtain ⟨its, rv, pt, hz⟩ := I1.tuple (sameT R1.sf qa)
    have hl := rv.length
    have hn := line63
    refine call_rev pt (by rw [List.size_toArray, ← hl]; omega) ?_
    refine Calls.spliced_nil ?_
    have hlt : a < s1.heap.objs.size := by obtain ⟨o, ho, _⟩ := pt; exact Heap.lt_size ho
    have I2 : Inv X pins σ H1 { s1 with heap := s1.heap.push { cls := .type "reversed", data := .fields #[.ref a, rawInt (((its.toArray.size : Nat) : Int) - 1)] }, toks := s1.toks + 1 + 1 } := I1.kept fun b o e => Heap.get?_push_of_some _ e
    refine call_tuple_rev (I.ok.hd hc) (r := s1.heap.objs.size) (t := a) (items := its.toArray) (Nat.ne_of_lt hlt) (Heap.get?_push_size _ rfl) (by
      obtain ⟨o, ho, hcl, n, hd⟩ := pt
      exact ⟨o, Heap.get?_push_of_some _ ho, hcl, n, hd⟩) (by rw [List.size_toArray, ← hl]; exact hz) fun s' hm => ?_
    obtain ⟨h', g', d', tk', os'⟩ := s'
    obtain ⟨m1, m2, m3, m4, m5⟩ := hm
    simp only at m1 m2 m3 m4 m5
    subst m2 m3 m4
    have fr := fp_new I1 (Nat.le_refl s1.heap.objs.size)
    obtain ⟨f0, f1, f2, f3, f4, f5⟩ := fr
    have I3 : Inv X pins σ H1 { s1 with heap := h', toks := tk' } := I2.turned (t' := tk') (fun b o hb e => m1 b o (by simpa using hb) e) f0 f1 f3 f4 f5
    have I4 : Inv X pins σ (upd H1 h'.objs.size (.tup xs.reverse)) { s1 with heap := h'.push { cls := .type "tuple", data := .seq its.reverse.toArray }, toks := tk' } :=
      I3.laid (t' := tk') (fun b o e => Heap.get?_push_of_some _ e) (Nat.le_refl _) (show ObjOk X.prog X.w _ _ _ (.tup xs.reverse) from ⟨by simpa using hz, its.reverse, rv.reverse, IsTup.new _ _⟩)
    have hfree : H1 h'.objs.size = none := I3.hok.fresh (Nat.le_refl _)
    have sm := same_upd (o := .tup xs.reverse) (R1.sf.free hfree)
    exact ⟨.ref h'.objs.size, _, I4, rfl, k _ _ _ (R1.lay hfree) (s1'.trans (same_upd hfree)) (t1.trans sm) (Has.tup_iff.mpr ⟨h'.objs.size, _, rfl, SqT.of upd_same, la.reverse.mono sm⟩)⟩
end FL
set_option Elab.async false
set_option linter.all false
set_option maxRecDepth 100000
set_option maxHeartbeats 4000000
namespace FL
open PySem PySem.Spec PyProof.Rows L2
section
variable {X : Cx} {pins : List (Addr × Obj)} {σ : St} {H : Hp} {s : Shared}
end
section
variable {X : Cx} {o e : Expr} {f g : FE} {kk : Nat}
end
end FL
set_option Elab.async false
set_option linter.all false
set_option maxRecDepth 100000
set_option maxHeartbeats 4000000
namespace FL
open PySem PySem.Spec PyProof.Rows L2
section
variable {X : Cx} {tg : Expr}
end
end FL
set_option Elab.async false
set_option linter.all false
set_option maxRecDepth 100000
set_option maxHeartbeats 4000000
namespace FL
open PySem PySem.Spec PyProof.Rows L2
section
variable {X : Cx} {a b c dd : Expr} {f g h i4 : FE} {pos p2 : Pos}
end
section
variable {X : Cx} {e : Expr} {f : FE} {pos : Pos}
end
section
variable {X : Cx} {e : Expr} {f : FE}
end
end FL
set_option Elab.async false
set_option linter.all false
set_option maxRecDepth 100000
set_option maxHeartbeats 4000000
namespace FL
open PySem PySem.Spec PyProof.Rows L2
section
variable {prog : Program} {w : World} {A : Around} {E : Value → Shared → Prop} {s : Shared}
end
section
variable {P : Program} {w : World} {K : PySem.W.Frag} {J1 J2 : It} {fp1 fp2 : List Addr} {i1 i2 z TI TO : Addr} {tn1 tn2 : Nat → Heap → Prop}
end
section
variable {prog : Program} {w : World} {A : Around} {E : Value → Shared → Prop} {s : Shared}
end
section
variable {X : Cx} {e1 e2 : Expr} {f1 f2 : FE} {pos : Pos} {elts : List Expr} {kx : Nat} {tp : Pos}
end
end FL
set_option Elab.async false
set_option linter.all false
set_option maxRecDepth 100000
set_option maxHeartbeats 4000000
namespace FL
open PySem PySem.Spec PyProof.Rows L2
section
variable {X : Cx} {e : Expr} {pos : Pos}
theorem boot_sorted : bootBuiltins "sorted" = some (.builtin "sorted") := by kernel_rfl
end
end FL
set_option Elab.async false
set_option linter.all false
set_option maxRecDepth 100000
set_option maxHeartbeats 4000000
namespace FL
open PySem PySem.Spec PyProof.Rows L2
section
variable {X : Cx}
end
end FL
set_option Elab.async false
set_option linter.all false
set_option maxRecDepth 100000
set_option maxHeartbeats 4000000
namespace FL
open PySem PySem.Spec PyProof.Rows L2
section
variable {prog : Program} {w : World} {A : Around} {E : Value → Shared → Prop} {s : Shared}
end
section
variable {X : Cx} {e st : Expr} {f fs : FE} {pos p2 : Pos}
end
end FL
set_option Elab.async false
set_option linter.all false
set_option maxRecDepth 100000
set_option maxHeartbeats 4000000
namespace FL
open PySem PySem.Spec PyProof.Rows L2
section
variable {O : KeyOrd} {n : Nat} {key : Nat → O.α}
def Run (O : KeyOrd) (n : Nat) (key : Nat → O.α) {α : Type} : PySem.W.KasT α → (α → Prop) → Prop
  | .ret a, Q => Q a
  | .ask i j k, Q => i < n ∧ j < n ∧ Run O n key (k (O.blt (key i) (key j))) Q
theorem run_mono {α : Type} {Q Q' : α → Prop} (hq : ∀ a, Q a → Q' a) : ∀ {t : PySem.W.KasT α}, Run O n key t Q → Run O n key t Q'
  | .ret a, h => hq a h
  | .ask i j k, h => ⟨h.1, h.2.1, run_mono hq h.2.2⟩
theorem run_bind {α β : Type} {Q : β → Prop} {f : α → PySem.W.KasT β} : ∀ {t : PySem.W.KasT α}, Run O n key t (fun a => Run O n key (f a) Q) → Run O n key (t.bind f) Q
  | .ret a, h => h
  | .ask i j k, h => ⟨h.1, h.2.1, run_bind h.2.2⟩
theorem run_wp {α : Type} {cmp : Nat → Nat → (Bool → Shared → Prop) → Shared → Prop} {s : Shared} (hc : ∀ i j (C : Bool → Shared → Prop), i < n → j < n → C (O.blt (key i) (key j)) s → cmp i j C s) {Q : α → Prop} {G : α → Shared → Prop} (hG : ∀ a, Q a → G a s) :
    ∀ {t : PySem.W.KasT α}, Run O n key t Q → t.kasWp cmp G s
  | .ret a, h => hG a h
  | .ask i j k, h => hc i j _ h.1 h.2.1 (run_wp hc hG h.2.2)
def KP (key : Nat → O.α) (p : Array Nat) (i : Nat) : O.α := key (p[i]?.getD 0)
theorem kp_getD (p : Array Nat) (i : Nat) : key (p.getD i 0) = KP key p i := by unfold KP; rw [Array.getD_eq_getD_getElem?]
theorem kp_congr {p p' : Array Nat} {i j : Nat} (h : p[i]? = p'[j]?) : KP key p i = KP key p' j := by unfold KP; rw [h]
theorem kp_mirror {p : Array Nat} {i j : Nat} (hj : j ≤ p.size) (k : Nat) : KP key (mirror p i j ((j - i) / 2)) k = if i ≤ k ∧ k < j then KP key p (i + j - 1 - k) else KP key p k := by
  have e := getElem?_mirror_all (i := i) hj k
  by_cases h1 : i ≤ k ∧ k < j
  · rw [if_pos h1] at e ⊢; exact kp_congr e
  · rw [if_neg h1] at e ⊢; exact kp_congr e
theorem kp_bubble {p : Array Nat} {src d : Nat} (hs : src < p.size) (hd : d ≤ src) (k : Nat) :
    KP key (bubble p src d) k = if k = src - d then KP key p src else if src - d < k ∧ k ≤ src then KP key p (k - 1) else KP key p k := by
  have e := getElem?_bubble hs d hd k
  by_cases h1 : k = src - d
  · rw [if_pos h1] at e ⊢; exact kp_congr e
  · rw [if_neg h1] at e ⊢
    by_cases h2 : src - d < k ∧ k ≤ src
    · rw [if_pos h2] at e ⊢; exact kp_congr e
    · rw [if_neg h2] at e ⊢; exact kp_congr e
theorem kp_mirror_equal {p : Array Nat} {i j : Nat} (hj : j ≤ p.size) (heq : ∀ k, i ≤ k → k < j → KP key p k = KP key p (j - 1)) (k : Nat) : KP key (mirror p i j ((j - i) / 2)) k = KP key p k := by
  rw [kp_mirror hj]
  split
  · rw [heq _ (by omega) (by omega), heq k (by omega) (by omega)]
  · rfl
def UpTo (key : Nat → O.α) (p : Array Nat) (k : Nat) : Prop := ∀ i j, i ≤ j → j < k → O.kle (KP key p i) (KP key p j)
def DnTo (key : Nat → O.α) (p : Array Nat) (k : Nat) : Prop := ∀ i j, i ≤ j → j < k → O.kle (KP key p j) (KP key p i)
structure Bs (n : Nat) (p : Array Nat) : Prop where
  perm : p.Perm (List.toArray (List.range n))
theorem Bs.size {p : Array Nat} (b : Bs n p) : p.size = n := by rw [b.perm.size_eq]; simp
theorem Bs.lt {p : Array Nat} (b : Bs n p) (hn : 0 < n) (i : Nat) : p.getD i 0 < n := by
  rw [Array.getD_eq_getD_getElem?]
  cases h : p[i]? with
  | none => exact hn
  | some a =>
    have hm : a ∈ p := Array.mem_of_getElem? h
    have : a ∈ List.range n := by simpa using b.perm.mem_iff.mp hm
    simpa using this
theorem Bs.rev {p : Array Nat} (b : Bs n p) (i j : Nat) : Bs n (PySem.W.kas_rev p i j) := ⟨(mirror_perm _ _ _ _).trans b.perm⟩
theorem Bs.bub {p : Array Nat} (b : Bs n p) (i j : Nat) : Bs n (bubble p i j) := ⟨(bubble_perm _ _ _).trans b.perm⟩
theorem run_ask {α : Type} {p : Array Nat} (b : Bs n p) (hn : 0 < n) {i j : Nat} {k : Bool → PySem.W.KasT α} {Q : α → Prop} (h : Run O n key (k (O.blt (KP key p i) (KP key p j))) Q) : Run O n key (.ask (p.getD i 0) (p.getD j 0) k) Q :=
  ⟨b.lt hn i, b.lt hn j, by rw [kp_getD (key := key) p i, kp_getD (key := key) p j]; exact h⟩
open KeyOrd
theorem run_asc {p : Array Nat} (b : Bs n p) : ∀ (f a : Nat), 1 ≤ a → a + f ≤ n → UpTo key p a → Run O n key (PySem.W.kas_asc p f a) fun m => a ≤ m ∧ m ≤ a + f ∧ UpTo key p m ∧ (m = a + f ∨ O.klt (KP key p m) (KP key p (m - 1)))
  | 0, a, _, _, hs => ⟨Nat.le_refl _, Nat.le_refl _, hs, .inl rfl⟩
  | f + 1, a, h1, hf, hs => by
    refine run_ask b (by omega) ?_
    cases hless : O.blt (KP key p a) (KP key p (a - 1)) with
    | true =>
      rw [if_pos rfl]
      exact ⟨Nat.le_refl _, by omega, hs, .inr hless⟩
    | false =>
      rw [if_neg (by simp)]
      refine run_mono ?_ (run_asc b f (a + 1) (by omega) (by omega) ?_)
      · rintro m ⟨x1, x2, x3, x4⟩
        exact ⟨by omega, by omega, x3, x4.imp (fun h => by omega) id⟩
      · intro i j hij hj
        by_cases hjx : j < a
        · exact hs i j hij hjx
        · have hj' : j = a := by omega
          subst hj'
          by_cases hi' : i = j
          · subst hi'; exact kle_refl _
          · exact kle_trans (hs i (j - 1) (by omega) (by omega)) hless
theorem run_tail3 {p : Array Nat} (b : Bs n p) {m : Nat} (h1 : 1 ≤ m) (hm : m ≤ n) (hs : DnTo key p m) : Run O n key (PySem.W.kas_tail3 m n p) fun r => 1 ≤ r.1 ∧ r.1 ≤ n ∧ Bs n r.2 ∧ UpTo key r.2 r.1 := by
  unfold PySem.W.kas_tail3
  have hsz : m ≤ p.size := by rw [b.size]; exact hm
  refine run_bind (run_mono ?_ (run_asc (b.rev 0 m) (n - m) m h1 (by omega) ?_))
  · rintro a ⟨x1, x2, x3, _⟩
    exact ⟨by show 1 ≤ a; omega, by show a ≤ n; omega, b.rev 0 m, x3⟩
  · intro i j hij hj
    show O.kle (KP key (mirror p 0 m ((m - 0) / 2)) i) (KP key (mirror p 0 m ((m - 0) / 2)) j)
    rw [kp_mirror hsz, kp_mirror hsz, if_pos (by omega), if_pos (by omega)]
    exact hs _ _ (by omega) (by omega)
theorem run_desc : ∀ (f : Nat) (p : Array Nat) (x q : Nat), Bs n p → 1 ≤ x → x + f ≤ n → DnTo key p x → q + 1 ≤ x → (∀ i, x - (q + 1) ≤ i → i < x → KP key p i = KP key p (x - 1)) →
    Run O n key (PySem.W.kas_desc f p x q) fun r => Bs n r.1 ∧ x ≤ r.2.1 ∧ r.2.1 ≤ x + f ∧ DnTo key r.1 r.2.1 ∧ r.2.2 + 1 ≤ r.2.1 ∧ ∀ i, r.2.1 - (r.2.2 + 1) ≤ i → i < r.2.1 → KP key r.1 i = KP key r.1 (r.2.1 - 1)
  | 0, p, x, q, b, _, _, hs, hq, he => ⟨b, Nat.le_refl _, Nat.le_refl _, hs, hq, he⟩
  | f + 1, p, x, q, b, h1, hf, hs, hq, he => by
    have hsz : x ≤ p.size := by rw [b.size]; omega
    refine run_ask b (by omega) ?_
    cases hless : O.blt (KP key p x) (KP key p (x - 1)) with
    | true =>
      rw [if_pos rfl]
      have step1 : ∀ p' : Array Nat, (∀ k, KP key p' k = KP key p k) → DnTo key p' (x + 1) := by
        intro p' hk i j hij hj
        rw [hk, hk]
        by_cases hjx : j < x
        · exact hs i j hij hjx
        · have hj' : j = x := by omega
          subst hj'
          by_cases hi' : i = j
          · subst hi'; exact kle_refl _
          · exact kle_trans (kle_of_klt hless) (hs i (j - 1) (by omega) (by omega))
      by_cases hq0 : q > 0
      · rw [if_pos hq0]
        refine run_mono ?_ (run_desc f _ (x + 1) 0 (b.rev _ _) (by omega) (by omega) (step1 _ (kp_mirror_equal hsz he)) (by omega) fun i h1 h2 => by congr 1; omega)
        rintro r ⟨x1, x2, x3, x4⟩
        exact ⟨x1, by omega, by omega, x4⟩
      · rw [if_neg hq0]
        refine run_mono ?_ (run_desc f _ (x + 1) 0 b (by omega) (by omega) (step1 _ fun _ => rfl) (by omega) fun i h1 h2 => by congr 1; omega)
        rintro r ⟨x1, x2, x3, x4⟩
        exact ⟨x1, by omega, by omega, x4⟩
    | false =>
      rw [if_neg (by simp)]
      refine run_ask b (by omega) ?_
      cases hlarger : O.blt (KP key p (x - 1)) (KP key p x) with
      | true =>
        rw [if_pos rfl]
        exact ⟨b, Nat.le_refl _, by show x ≤ _; omega, hs, hq, he⟩
      | false =>
        rw [if_neg (by simp)]
        have heqx : KP key p x = KP key p (x - 1) := kle_antisymm hlarger hless
        refine run_mono ?_ (run_desc f p (x + 1) (q + 1) b (by omega) (by omega) (fun i j hij hj => ?_) (by omega) fun i h1 h2 => ?_)
        · rintro r ⟨x1, x2, x3, x4⟩
          exact ⟨x1, by omega, by omega, x4⟩
        · by_cases hjx : j < x
          · exact hs i j hij hjx
          · have hj' : j = x := by omega
            subst hj'
            by_cases hi' : i = j
            · subst hi'; exact kle_refl _
            · rw [heqx]; exact hs i (j - 1) (by omega) (by omega)
        · rw [show x + 1 - 1 = x by omega]
          by_cases hix : i = x
          · subst hix; rfl
          · rw [heqx]; exact he i (by omega) (by omega)
theorem run_descPart {p : Array Nat} (b : Bs n p) {m : Nat} (hm : m + 1 ≤ n) (hs : DnTo key p (m + 1)) : Run O n key (PySem.W.kas_descPart m n p) fun r => 1 ≤ r.1 ∧ r.1 ≤ n ∧ Bs n r.2 ∧ UpTo key r.2 r.1 := by
  unfold PySem.W.kas_descPart
  refine run_bind (run_mono ?_ (run_desc (n - (m + 1)) p (m + 1) 0 b (by omega) (by omega) hs (by omega) fun i h1 h2 => by congr 1; omega))
  rintro ⟨p', x, q⟩ ⟨x1, x2, x3, x4, x5, x6⟩
  dsimp only at x1 x2 x3 x4 x5 x6 ⊢
  have hsz : x ≤ p'.size := by rw [x1.size]; omega
  by_cases hq : q > 0
  · rw [if_pos hq]
    refine run_tail3 (x1.rev _ _) (by omega) (by omega) ?_
    intro i j hij hj
    show O.kle (KP key (mirror p' _ _ _) j) (KP key (mirror p' _ _ _) i)
    rw [kp_mirror_equal hsz x6, kp_mirror_equal hsz x6]
    exact x4 i j hij hj
  · rw [if_neg hq]
    exact run_tail3 x1 (by omega) (by omega) x4
theorem run_count {p : Array Nat} (b : Bs n p) (hn : 1 ≤ n) : Run O n key (PySem.W.kas_count n p) fun r => 1 ≤ r.1 ∧ r.1 ≤ n ∧ Bs n r.2 ∧ UpTo key r.2 r.1 := by
  unfold PySem.W.kas_count
  refine run_bind (run_mono ?_ (run_asc b (n - 1) 1 (Nat.le_refl _) (by omega) fun i j hij hj => by have : i = j := (by omega); subst this; exact kle_refl _))
  rintro m ⟨x1, x2, x3, x4⟩
  have hb2 : m ≤ n := by omega
  by_cases hmn : m = n
  · rw [if_pos (by simpa using hmn)]
    exact ⟨x1, hb2, b, x3⟩
  · rw [if_neg (by simpa using hmn)]
    have hlt : O.klt (KP key p m) (KP key p (m - 1)) := x4.resolve_left (by omega)
    by_cases hgt : m > 1
    · rw [if_pos hgt]
      refine run_ask b (by omega) ?_
      cases hrose : O.blt (KP key p 0) (KP key p (m - 1)) with
      | true =>
        rw [if_pos rfl]
        exact ⟨x1, hb2, b, x3⟩
      | false =>
        rw [if_neg (by simp)]
        have hsz : m ≤ p.size := by rw [b.size]; omega
        have hall : ∀ k, 0 ≤ k → k < m → KP key p k = KP key p (m - 1) := by
          intro k _ hk
          have a1 := x3 0 k (by omega) hk
          have a2 := x3 k (m - 1) (by omega) (by omega)
          exact kle_antisymm a2 (kle_trans hrose a1)
        refine run_descPart (b.rev _ _) (by omega) ?_
        intro i j hij hj
        show O.kle (KP key (mirror p _ _ _) j) (KP key (mirror p _ _ _) i)
        rw [kp_mirror_equal hsz hall, kp_mirror_equal hsz hall]
        by_cases hjn : j < m
        · rw [hall i (by omega) (by omega), hall j (by omega) hjn]; exact kle_refl _
        · have hj' : j = m := by omega
          subst hj'
          by_cases hi' : i = j
          · subst hi'; exact kle_refl _
          · rw [hall i (by omega) (by omega)]; exact kle_of_klt hlt
    · rw [if_neg hgt]
      have hm1 : m = 1 := by omega
      subst hm1
      refine run_descPart b (by omega) ?_
      intro i j hij hj
      by_cases hi' : i = j
      · subst hi'; exact kle_refl _
      · have hi0 : i = 0 := by omega
        have hj1 : j = 1 := by omega
        subst hi0; subst hj1
        exact kle_of_klt hlt
theorem run_place {p : Array Nat} (b : Bs n p) {k : Nat} (hk : k < n) (hs : UpTo key p k) : ∀ (f l r : Nat), l ≤ r → r ≤ k → r - l ≤ f → (∀ i, i < l → O.kle (KP key p i) (KP key p k)) → (∀ i, r ≤ i → i < k → O.klt (KP key p k) (KP key p i)) →
    Run O n key (PySem.W.kas_place p k f l r) fun l' => l' ≤ k ∧ (∀ i, i < l' → O.kle (KP key p i) (KP key p k)) ∧ ∀ i, l' ≤ i → i < k → O.klt (KP key p k) (KP key p i)
  | 0, l, r, hlr, hrk, hf, hlo, hhi => by
    have : l = r := by omega
    subst this
    exact ⟨hrk, hlo, hhi⟩
  | f + 1, l, r, hlr, hrk, hf, hlo, hhi => by
    unfold PySem.W.kas_place
    by_cases hge : l ≥ r
    · rw [if_pos hge]
      have : l = r := by omega
      subst this
      exact ⟨hrk, hlo, hhi⟩
    · rw [if_neg hge]
      refine run_ask b (by omega) ?_
      cases hless : O.blt (KP key p k) (KP key p ((l + r) / 2)) with
      | true =>
        rw [if_pos rfl]
        exact run_place b hk hs f l ((l + r) / 2) (by omega) (by omega) (by omega) hlo fun i h1 h2 => klt_of_klt_of_kle hless (hs _ _ h1 h2)
      | false =>
        rw [if_neg (by simp)]
        exact run_place b hk hs f ((l + r) / 2 + 1) r (by omega) (by omega) (by omega) (fun i h1 => kle_trans (hs i ((l + r) / 2) (by omega) (by omega)) (show O.kle _ _ from hless)) hhi
theorem run_bin : ∀ (f : Nat) (p : Array Nat) (k : Nat), Bs n p → k + f = n → UpTo key p k → Run O n key (PySem.W.kas_bin f p k) fun p' => Bs n p' ∧ UpTo key p' n
  | 0, p, k, b, hk, hs => ⟨b, by rw [← hk]; exact hs⟩
  | f + 1, p, k, b, hk, hs => by
    unfold PySem.W.kas_bin
    refine run_bind (run_mono ?_ (run_place b (by omega) hs k 0 k (by omega) (Nat.le_refl _) (by omega) (fun i hi => by omega) fun i h1 h2 => by omega))
    rintro l ⟨hlk, hlo, hhi⟩
    refine run_bin f _ (k + 1) (b.bub _ _) (by omega) ?_
    have hks : k < p.size := by rw [b.size]; omega
    intro i j hij hj
    rw [kp_bubble hks (by omega), kp_bubble hks (by omega), show k - (k - l) = l by omega]
    repeat' split
    all_goals first
      | (exfalso; omega)
      | exact kle_refl _
      | exact hlo _ (by omega)
      | exact kle_of_klt (hhi _ (by omega) (by omega))
      | exact hs _ _ (by omega) (by omega)
theorem run_sort (hn : 1 ≤ n) : Run O n key (PySem.W.kas_sort n) fun p => Bs n p ∧ UpTo key p n := by
  unfold PySem.W.kas_sort
  refine run_bind (run_mono ?_ (run_count ⟨.refl _⟩ hn))
  rintro ⟨m, p⟩ ⟨x1, x2, x3, x4⟩
  dsimp only at x1 x2 x3 x4 ⊢
  by_cases h : m < n
  · rw [if_pos h, show max m 1 = m by omega]
    exact run_bin (n - m) p m x3 (by omega) x4
  · rw [if_neg h]
    exact ⟨x3, by rw [show n = m by omega]; exact x4⟩
end
end FL
set_option Elab.async false
set_option linter.all false
set_option maxRecDepth 100000
set_option maxHeartbeats 4000000
namespace FL
open PySem PySem.Spec PyProof.Rows L2
open PySem.AutoSeq1 (wpAny_loadPart')
open PySem.MeetsSeq PySem.MeetsSeq2 PySem.MeetsSeq3
def ltP (x y : Int × Int) : Bool := decide (x.1 < y.1) || (decide (x.1 = y.1) && decide (x.2 < y.2))
theorem tuple_lt2 (l b : Addr) (i0 i1 j0 j1 : Int) (t0 t1 u0 u1 : Tok) (n n2 : Nat) (dd dd2 : Option Addr) (sl sl2 : Array (Option Value)) :
    Meets (Builtin.«tuple.__lt__» ⟨[.ref l, .ref b], []⟩)
      (fun A R s => s.heap.get? l = some { cls := .type "tuple", dict := dd, data := .seq #[.int i0 t0, .int i1 t1] n, slots := sl } ∧ s.heap.get? b = some { cls := .type "tuple", dict := dd2, data := .seq #[.int j0 u0, .int j1 u1] n2, slots := sl2 } ∧
        R (.ok (.ret (.bool (ltP (i0, i1) (j0, j1))))) s) :=
  .of_wp fun prog w A R s h => by
    obtain ⟨hp, g, d, tk, os⟩ := s; obtain ⟨hl, hb, h⟩ := h
    have f2 := AutoSeq1.sub_tuple_tuple
    wp_walk using wpAny_loadPart' hl, wpAny_loadPart' hb, wpAny_forIn_list _ (fun rest b s' => b.1 = none ∧ s' = ⟨hp, g, d, tk, os⟩ ∧
      (rest = [(Value.int i0 t0, Value.int j0 u0), (Value.int i1 t1, Value.int j1 u1)] ∨ (i0 = j0 ∧ rest = [(Value.int i1 t1, Value.int j1 u1)]) ∨ (i0 = j0 ∧ i1 = j1 ∧ rest = []))) _
    case turn =>
      rintro ⟨y, x⟩ rest b s' ⟨hb', rfl, hr⟩
      rcases hr with hr | ⟨e, hr⟩ | ⟨_, _, hr⟩
      · injection hr with h1 h2
        injection h1 with h1 h3
        subst h1 h3 h2
        refine wpAny_bind (wpAny_eqBool_int ?_)
        by_cases c : i0 = j0
        · rw [show (i0 == j0) = true by simpa using c]
          wp_walk
          exact ⟨rfl, rfl, .inr (.inl ⟨c, rfl⟩)⟩
        · rw [show (i0 == j0) = false by simpa using c]
          have e : ltP (i0, i1) (j0, j1) = decide (i0 < j0) := by unfold ltP; simp [c]
          rw [e] at h
          refine wpAny_bind (wpAny_rule ?_)
          refine wpAny_bind (wpAny_lt_int (wpAny_bind (wpAny_pure (wpAny_pure ?_))))
          wp_walk
          exact ⟨_, rfl, h⟩
      · injection hr with h1 h2
        injection h1 with h1 h3
        subst h1 h3 h2
        subst e
        refine wpAny_bind (wpAny_eqBool_int ?_)
        by_cases c : i1 = j1
        · rw [show (i1 == j1) = true by simpa using c]
          wp_walk
          exact ⟨rfl, rfl, .inr (.inr ⟨rfl, c, rfl⟩)⟩
        · rw [show (i1 == j1) = false by simpa using c]
          have e : ltP (i0, i1) (i0, j1) = decide (i1 < j1) := by unfold ltP; simp
          rw [e] at h
          refine wpAny_bind (wpAny_rule ?_)
          refine wpAny_bind (wpAny_lt_int (wpAny_bind (wpAny_pure (wpAny_pure ?_))))
          wp_walk
          exact ⟨_, rfl, h⟩
      · cases hr
    case fin =>
      rintro ⟨b1, b2⟩ s' ⟨hb', rfl, hr⟩
      simp only at hb'
      subst hb'
      rcases hr with hr | ⟨e, hr⟩ | ⟨e, e', _⟩
      · cases hr
      · cases hr
      · subst e e'
        wp_walk
        have e : ltP (i0, i1) (i0, i1) = false := by unfold ltP; simp
        rw [e] at h
        exact ⟨_, rfl, by simpa [Builtin.Tuple.tupleCompareSizes] using h⟩
    case h =>
      exact ⟨rfl, rfl, .inl rfl⟩
end FL
set_option Elab.async false
set_option linter.all false
set_option maxRecDepth 100000
set_option maxHeartbeats 4000000
namespace FL
open PySem PySem.Spec PyProof.Rows L2
theorem ksk_zip2 (vs : List Value) : (vs.toArray.zip vs.toArray).toList = vs.zip vs := by simp
section
variable {prog : Program} {w : World} {A : Around} {E : Value → Shared → Prop} {s : Shared}
theorem map_range_getD (vs : List Value) : (List.range vs.length).map (fun i => vs.getD i Value.none) = vs := by
  apply List.ext_getElem
  · simp
  · intro i h1 h2
    simp [h2]
theorem list_sort_T {O : KeyOrd} {key : Nat → O.α} {κ : SortKind} {a : Addr} {vs : List Value} {n : Nat} {P : Fin → Shared → Prop} (ho : s.heap.get? a = some (seqObj "list" vs.toArray n)) (h64 : vs.length < 64)
    (hk : 2 ≤ vs.length → ∀ h', (∀ b o, b ≠ a → s.heap.get? b = some o → h'.get? b = some o) →
      (∀ (Q : SortKind → Shared → Prop) (E : Value → Shared → Prop), Q κ { s with heap := h' } → wpAny (model prog w) A (keyKind' vs.toArray) Q E { s with heap := h' }) ∧
      ∀ i j (Q : Bool → Shared → Prop), i < vs.length → j < vs.length → Q (O.blt (key i) (key j)) { s with heap := h' } → wpAny (model prog w) A (keyLt' κ (vs.getD i .none) (vs.getD j .none)) Q (fun _ _ => False) { s with heap := h' })
    (h : ∀ p : Array Nat, Bs vs.length p → UpTo key p vs.length → P (.done (.ret .none)) { s with heap := sortedHeap s.heap a vs (List.toArray (p.toList.map fun i => vs.getD i .none)) }) :
    wpAny (model prog w) A (Builtin.«list.sort» ⟨[.ref a], []⟩) P E s := by
  rw [list_sort_plain]
  have ha : a < s.heap.objs.size := Heap.lt_size ho
  refine wpAny_bind (listItems_at ho rfl ?_)
  refine wpAny_bind (listUpdate_at ho rfl ?_)
  obtain ⟨e1, ho1⟩ : ∃ e1, (s.heap.update a (Obj.mapSeq fun _ => #[])).get? a = some (seqObj "list" #[] e1) := ⟨_, get?_update_seq ho (fun _ => #[])⟩
  refine wpAny_bind (seqEpoch_at ho1 rfl ?_)
  refine wpAny_bind (wpAny_newTuple ?_)
  refine wpAny_bind (wpAny_newList ?_)
  refine wpAny_holding ?_
  have ho6 : (((s.heap.update a (Obj.mapSeq fun _ => #[])).push (seqObj "tuple" vs.toArray 0)).push (seqObj "list" #[] 0)).get? a = some (seqObj "list" #[] e1) := by
    rw [Heap.get?_push_ne _ _ _ (by rw [size_push', Heap.size_update]; exact Nat.ne_of_lt (Nat.lt_succ_of_lt ha)), Heap.get?_push_ne _ _ _ (by rw [Heap.size_update]; exact Nat.ne_of_lt ha)]
    exact ho1
  have hkeep : ∀ b o, b ≠ a → s.heap.get? b = some o → (((s.heap.update a (Obj.mapSeq fun _ => #[])).push (seqObj "tuple" vs.toArray 0)).push (seqObj "list" #[] 0)).get? b = some o := fun b o hb x =>
    Heap.get?_push_of_some _ (Heap.get?_push_of_some _ (by rw [Heap.get?_update_ne _ _ _ _ hb]; exact x))
  show wpAny (model prog w) A _ P E { s with heap := ((s.heap.update a (Obj.mapSeq fun _ => #[])).push (seqObj "tuple" vs.toArray 0)).push (seqObj "list" #[] 0) }
  dsimp only
  have hsz : vs.toArray.size = vs.length := by simp
  by_cases h2 : vs.toArray.size < 2
  · rw [if_pos h2, if_pos h2]
    refine wpAny_bind (wpAny_pure ?_)
    rw [StateT.run_pure]
    refine wpAny_bind (wpAny_pure ?_)
    dsimp only
    refine wpAny_bind (seqEpoch_at ho6 rfl ?_)
    refine wpAny_bind (listUpdate_at ho6 rfl ?_ (hsz2 := by rw [Array.size_map]; show (pairsOf vs).size ≤ _; rw [pairsOf_size, sizeLine_eq]; omega))
    simp only [bne_self_eq_false, Bool.false_eq_true, if_false]
    have fin := h (List.toArray (List.range vs.length)) ⟨.refl _⟩ (fun i j hij hj => by
      have : i = j := by omega
      subst this; exact KeyOrd.kle_refl _)
    have eo : (vs.toArray.zip vs.toArray).map (·.2) = List.toArray ((List.toArray (List.range vs.length)).toList.map fun i => vs.getD i .none) := by
      apply Array.toList_inj.mp
      rw [Array.toList_map, ksk_zip2]
      have e1 : (vs.zip vs).map (·.2) = vs := List.map_snd_zip (Nat.le_refl _)
      rw [e1]
      exact (map_range_getD vs).symm
    rw [← eo] at fin
    exact wpAny_pure fin
  · rw [if_neg h2, if_neg h2]
    have h2' : 2 ≤ vs.length := by omega
    obtain ⟨k1, k2⟩ := hk h2' _ hkeep
    refine wpAny_bind (k1 _ _ ?_)
    refine wpAny_bind (wpAny_mono (PySem.W.kat_run (vs := vs) (ks := vs) (κ := κ) (Q := fun st' s' => ∃ p : Array Nat, arrOf st' = p.map (PySem.W.kas_item (vs.toArray.zip vs.toArray)) ∧ failedOf st' = none ∧ (Bs vs.length p ∧ UpTo key p vs.length) ∧ s' = { s with heap := ((s.heap.update a (Obj.mapSeq fun _ => #[])).push (seqObj "tuple" vs.toArray 0)).push (seqObj "list" #[] 0) })
      (G := fun p s' => (Bs vs.length p ∧ UpTo key p vs.length) ∧ s' = { s with heap := ((s.heap.update a (Obj.mapSeq fun _ => #[])).push (seqObj "tuple" vs.toArray 0)).push (seqObj "list" #[] 0) })
      rfl h2' h64 (fun p st' s' a1 a2 a3 a4 => ⟨p, a2, a3, a4⟩) (run_wp (fun i j C hi hj hC => k2 i j C hi hj hC) (fun p hp => ⟨hp, rfl⟩) (run_sort (by omega)))) ?_ fun _ _ e => e)
    rintro ⟨⟨⟩, st'⟩ s' ⟨p, har, hf, hp, rfl⟩
    have hout := PySem.W.kat_snds rfl har
    dsimp only
    rw [hout]
    refine wpAny_bind (seqEpoch_at ho6 rfl ?_)
    refine wpAny_bind (listUpdate_at ho6 rfl ?_ (hsz2 := by rw [List.size_toArray, List.length_map, Array.length_toList, hp.1.size, sizeLine_eq]; omega))
    rw [hf]
    simp only [bne_self_eq_false, Bool.false_eq_true, if_false]
    exact wpAny_pure (h p hp.1 hp.2)
theorem sorted_T {O : KeyOrd} {key : Nat → O.α} {κ : SortKind} {l : Addr} {vs : List Value} {Q : Value → Shared → Prop} (hl : s.heap.IsList l vs.toArray) (h64 : vs.length < 64)
    (hk : 2 ≤ vs.length → ∀ h', (∀ b o, s.heap.get? b = some o → h'.get? b = some o) →
      (∀ (Q : SortKind → Shared → Prop) (E : Value → Shared → Prop), Q κ { s with heap := h' } → wpAny (model prog w) A.in1.in1 (keyKind' vs.toArray) Q E { s with heap := h' }) ∧
      ∀ i j (Q : Bool → Shared → Prop), i < vs.length → j < vs.length → Q (O.blt (key i) (key j)) { s with heap := h' } → wpAny (model prog w) A.in1.in1 (keyLt' κ (vs.getD i .none) (vs.getD j .none)) Q (fun _ _ => False) { s with heap := h' })
    (h : ∀ p : Array Nat, Bs vs.length p → UpTo key p vs.length → Q (.ref (s.heap.objs.size + 1)) { s with heap := sortedAll s.heap vs (List.toArray (p.toList.map fun i => vs.getD i .none)) }) :
    wpAny (model prog w) A (call (.builtin "sorted") [.ref l]) Q E s := by
  refine Calls.call_function_entry kind_sorted plain_sorted entry_sorted (args_sorted1 _) ?_
  unfold Builtin.«sorted»
  refine wpAny_bind (m := checkCount "sorted" 1 1 _) (wpAny_pure ?_)
  refine wpAny_bind (collect_list hl ?_)
  refine wpAny_bind (wpAny_newList ?_)
  have hsz : ((s.heap.push (seqObj "list" #[] 0)).update s.heap.objs.size (Obj.mapSeq (· ++ vs.toArray))).objs.size = s.heap.objs.size + 1 := by
    rw [Heap.size_update, size_push']
  have hoL : (((s.heap.push (seqObj "list" #[] 0)).update s.heap.objs.size (Obj.mapSeq (· ++ vs.toArray))).push (seqObj "list" vs.toArray 0)).get? (s.heap.objs.size + 1) = some (seqObj "list" vs.toArray 0) := by
    rw [← hsz]; exact Heap.get?_push_size _ rfl
  show wpAny _ _ _ _ _ { s with heap := ((s.heap.push (seqObj "list" #[] 0)).update s.heap.objs.size (Obj.mapSeq (· ++ vs.toArray))).push (seqObj "list" vs.toArray 0) }
  rw [hsz]
  have hkp : ∀ b o, s.heap.get? b = some o → b ≠ s.heap.objs.size + 1 ∧ (((s.heap.push (seqObj "list" #[] 0)).update s.heap.objs.size (Obj.mapSeq (· ++ vs.toArray))).push (seqObj "list" vs.toArray 0)).get? b = some o := fun b o x => by
    have hlt : b < s.heap.objs.size := Heap.lt_size x
    refine ⟨Nat.ne_of_lt (Nat.lt_succ_of_lt hlt), ?_⟩
    rw [Heap.get?_push_ne _ _ _ (by rw [hsz]; exact Nat.ne_of_lt (Nat.lt_succ_of_lt hlt)), Heap.get?_update_ne _ _ _ _ (Nat.ne_of_lt hlt), Heap.get?_push_ne _ _ _ (Nat.ne_of_lt hlt)]
    exact x
  refine wpAny_bind (wpAny_holding (wpAny_call_entry slot_list_sort ⟨_, hoL, rfl⟩ entry_list_sort (list_sort_T (key := key) hoL h64 (fun h2 h' hh => hk h2 h' fun b o x => hh b o (hkp b o x).1 (hkp b o x).2) fun p a1 a2 => ⟨_, rfl, ?_⟩) (args_list_sort _)))
  exact wpAny_pure ⟨_, rfl, h p a1 a2⟩
end
end FL
set_option Elab.async false
set_option linter.all false
set_option maxRecDepth 100000
set_option maxHeartbeats 4000000
namespace FL
open PySem PySem.Spec PyProof.Rows L2
def ltR : List (Int × Int) → List (Int × Int) → Bool
  | [], [] => false
  | [], _ :: _ => true
  | _ :: _, [] => false
  | x :: xs, y :: ys => if x = y then ltR xs ys else ltP x y
theorem ltR_irrefl : ∀ a, ltR a a = false
  | [] => rfl
  | x :: xs => by unfold ltR; rw [if_pos rfl]; exact ltR_irrefl xs
theorem ltP_iff {x y : Int × Int} : ltP x y = true ↔ x.1 < y.1 ∨ (x.1 = y.1 ∧ x.2 < y.2) := by unfold ltP; simp
theorem pair_ne {x y : Int × Int} (h : x ≠ y) : x.1 ≠ y.1 ∨ x.2 ≠ y.2 := by
  by_cases a : x.1 = y.1
  · exact .inr fun b => h (Prod.ext a b)
  · exact .inl a
theorem ltR_tri : ∀ a b, ltR a b = false → ltR b a = false → a = b
  | [], [], _, _ => rfl
  | [], _ :: _, h, _ => by cases h
  | _ :: _, [], _, h => by cases h
  | x :: xs, y :: ys, h, h' => by
    unfold ltR at h h'
    by_cases e : x = y
    · subst e
      rw [if_pos rfl] at h h'
      rw [ltR_tri xs ys h h']
    · rw [if_neg e] at h
      rw [if_neg (Ne.symm e)] at h'
      have h1 : ¬ (x.1 < y.1 ∨ (x.1 = y.1 ∧ x.2 < y.2)) := fun q => by rw [ltP_iff.mpr q] at h; cases h
      have h2 : ¬ (y.1 < x.1 ∨ (y.1 = x.1 ∧ y.2 < x.2)) := fun q => by rw [ltP_iff.mpr q] at h'; cases h'
      rcases pair_ne e with q | q <;> omega
theorem ltR_trans : ∀ a b c, ltR a b = true → ltR b c = true → ltR a c = true
  | [], [], _, h, _ => by cases h
  | [], _ :: _, [], _, h => by cases h
  | [], _ :: _, _ :: _, _, _ => rfl
  | _ :: _, [], _, h, _ => by cases h
  | _ :: _, _ :: _, [], _, h => by cases h
  | x :: xs, y :: ys, z :: zs, h, h' => by
    unfold ltR at h h' ⊢
    by_cases e : x = y
    · subst e
      rw [if_pos rfl] at h
      by_cases e' : x = z
      · subst e'
        rw [if_pos rfl] at h' ⊢
        exact ltR_trans xs ys zs h h'
      · rw [if_neg e'] at h' ⊢
        exact h'
    · rw [if_neg e] at h
      by_cases e' : y = z
      · subst e'
        rw [if_neg e]
        exact h
      · rw [if_neg e'] at h'
        have h1 := ltP_iff.mp h
        have h2 := ltP_iff.mp h'
        have h3 : x ≠ z := fun q => by subst q; omega
        rw [if_neg h3]
        exact ltP_iff.mpr (by omega)
def rowOrd : KeyOrd where
  α := List (Int × Int)
  blt := ltR
  irrefl := ltR_irrefl
  trans := ltR_trans
  negTrans := fun a b c h => by
    cases h1 : ltR a b with
    | true => exact .inl rfl
    | false =>
      refine .inr ?_
      cases h2 : ltR b a with
      | true => exact ltR_trans b a c h2 h
      | false => rw [← ltR_tri a b h1 h2]; exact h
  total := ltR_tri
theorem perm_eqK {α : Type} {r : α → α → Prop} (as : ∀ a b, r a b → r b a → a = b) : ∀ {a b : List α}, a.Perm b → a.Pairwise r → b.Pairwise r → a = b
  | [], b, h, _, _ => (List.nil_perm.mp h).symm
  | x :: a, [], h, _, _ => by have := h.length_eq; simp at this
  | x :: a, y :: b, h, ha, hb => by
    rw [List.pairwise_cons] at ha hb
    have e : x = y := by
      have h1 : x ∈ y :: b := h.subset List.mem_cons_self
      have h2 : y ∈ x :: a := h.symm.subset List.mem_cons_self
      rcases List.mem_cons.mp h1 with h1 | h1
      · exact h1
      · rcases List.mem_cons.mp h2 with h2 | h2
        · exact h2.symm
        · exact as _ _ (ha.1 y h2) (hb.1 x h1)
    subst e
    rw [perm_eqK as h.cons_inv ha.2 hb.2]
def insR (x : List (Int × Int)) : List (List (Int × Int)) → List (List (Int × Int))
  | [] => [x]
  | y :: l => if ltR y x = true then y :: insR x l else x :: y :: l
def sortR : List (List (Int × Int)) → List (List (Int × Int))
  | [] => []
  | x :: l => insR x (sortR l)
theorem insR_perm (x : List (Int × Int)) : ∀ l, (insR x l).Perm (x :: l)
  | [] => .refl _
  | y :: l => by
    unfold insR
    split
    · exact ((insR_perm x l).cons y).trans (.swap x y l)
    · exact .refl _
theorem sortR_perm : ∀ l, (sortR l).Perm l
  | [] => .refl _
  | x :: l => (insR_perm x (sortR l)).trans ((sortR_perm l).cons x)
theorem insR_sorted (x : List (Int × Int)) : ∀ {l : List (List (Int × Int))}, l.Pairwise rowOrd.kle → (insR x l).Pairwise rowOrd.kle
  | [], _ => List.pairwise_singleton _ _
  | y :: l, h => by
    have h' := List.pairwise_cons.mp h
    unfold insR
    split
    · rename_i c
      refine List.pairwise_cons.mpr ⟨fun z hz => ?_, insR_sorted x h'.2⟩
      rcases List.mem_cons.mp ((insR_perm x l).subset hz) with rfl | hz
      · exact KeyOrd.kle_of_klt c
      · exact h'.1 z hz
    · rename_i c
      have c' : rowOrd.kle x y := by show ltR y x = false; simpa using c
      refine List.pairwise_cons.mpr ⟨fun z hz => ?_, h⟩
      rcases List.mem_cons.mp hz with rfl | hz
      · exact c'
      · exact KeyOrd.kle_trans c' (h'.1 z hz)
theorem sortR_sorted : ∀ l, (sortR l).Pairwise rowOrd.kle
  | [] => .nil
  | x :: l => insR_sorted x (sortR_sorted l)
theorem sortR_eq {a b : List (List (Int × Int))} (h : a.Perm b) (ha : a.Pairwise rowOrd.kle) : sortR b = a := perm_eqK (fun _ _ => KeyOrd.kle_antisymm) ((sortR_perm b).trans h.symm) (sortR_sorted b) ha
theorem sortR_same {a b : List (List (Int × Int))} (h : a.Perm b) : sortR a = sortR b := sortR_eq ((sortR_perm b).trans h.symm) (sortR_sorted b)
def pD (x : Int × Int) : D := .tup [.int x.1, .int x.2]
def rwD (r : List (Int × Int)) : D := .tup (r.map pD)
section
variable {X : Cx} {pins : List (Addr × Obj)} {σ : St} {H : Hp} {s : Shared} {A : Around}
theorem ltAt_pair (I : Inv X pins σ H s) {x y : Int × Int} {v v' : V} {u u' : Value} (h : Has X.K H (pD x) v) (h' : Has X.K H (pD y) v') (r : RelV v u) (r' : RelV v' u') (hu : A.units < cLine) {Q : Value → Shared → Prop} {E : Value → Shared → Prop} (hq : Q (.bool (ltP x y)) s) :
    wpAny (model X.prog X.w) A (compareOp .Lt u u') Q E s := by
  obtain ⟨a, xs, rfl, q, l⟩ := Has.tup_iff.mp h
  obtain ⟨b, ys, rfl, q', l'⟩ := Has.tup_iff.mp h'
  cases r
  cases r'
  obtain ⟨v0, r0, rfl, e0, l⟩ := HasL.cons_iff.mp l
  obtain ⟨v1, r1, rfl, e1, l⟩ := HasL.cons_iff.mp l
  rw [HasL.nil_iff] at l
  subst l
  obtain ⟨w0, r0', rfl, f0, l'⟩ := HasL.cons_iff.mp l'
  obtain ⟨w1, r1', rfl, f1, l'⟩ := HasL.cons_iff.mp l'
  rw [HasL.nil_iff] at l'
  subst l'
  rw [Has.int_iff] at e0 e1 f0 f1
  subst e0 e1 f0 f1
  obtain ⟨its, rv, p, _⟩ := I.tuple q
  obtain ⟨its', rv', p', _⟩ := I.tuple q'
  cases rv with
  | cons k0 rv =>
    cases rv with
    | cons k1 rv =>
      cases rv
      cases rv' with
      | cons k0' rv' =>
        cases rv' with
        | cons k1' rv' =>
          cases rv'
          obtain ⟨t0, rfl⟩ := k0
          obtain ⟨t1, rfl⟩ := k1
          obtain ⟨u0, rfl⟩ := k0'
          obtain ⟨u1, rfl⟩ := k1'
          obtain ⟨⟨cls, dd, data, sl⟩, ho, hc, n, hd⟩ := p
          obtain ⟨⟨cls2, dd2, data2, sl2⟩, ho2, hc2, n2, hd2⟩ := p'
          simp only at hc hd hc2 hd2
          subst hc hd hc2 hd2
          exact richCompare_meets_room (op := .Lt) ⟨_, ho, rfl⟩ ⟨_, ho2, rfl⟩ PySem.F.slot_tuple_lt PySem.F.entry_tuple_lt (PySem.F.args_tuple_lt_2 _ _) (tuple_lt2 a b x.1 x.2 y.1 y.2 t0 t1 u0 u1 n n2 dd dd2 sl sl2)
            ⟨ho, ho2, show Value.bool (ltP x y) ≠ Value.notImplemented ∧ Q (.bool (ltP x y)) s from ⟨(fun x => nomatch x), hq⟩⟩ hu
theorem lex_rows (I : Inv X pins σ H s) (hu : A.units + 2 < cLine) {Q : Bool → Shared → Prop} : ∀ {xs ys : List (Int × Int)} {vs ws : List V} {us us' : List Value} {i : Nat} {fin : Bool}, HasL X.K H (xs.map pD) vs → HasL X.K H (ys.map pD) ws → Vals vs us → Vals ws us' →
    fin = decide (us.length < us'.length) → Q (ltR xs ys) s → PySem.W.KatLex X.prog X.w A false fin Q (us.zip us') i s
  | [], [], vs, ws, us, us', i, fin, h, h', r, r', hf, hq => by
    rw [List.map_nil, HasL.nil_iff] at h h'
    subst h h'
    cases r; cases r'
    subst hf
    exact PySem.W.kat_nil hq
  | [], y :: ys, vs, ws, us, us', i, fin, h, h', r, r', hf, hq => by
    rw [List.map_nil, HasL.nil_iff] at h
    subst h
    cases r
    obtain ⟨w0, r0, rfl, e0, l⟩ := HasL.cons_iff.mp h'
    cases r'
    subst hf
    exact PySem.W.kat_nil hq
  | x :: xs, [], vs, ws, us, us', i, fin, h, h', r, r', hf, hq => by
    rw [List.map_nil, HasL.nil_iff] at h'
    subst h'
    cases r'
    obtain ⟨w0, r0, rfl, e0, l⟩ := HasL.cons_iff.mp h
    cases r
    subst hf
    exact PySem.W.kat_nil hq
  | x :: xs, y :: ys, vs, ws, us, us', i, fin, h, h', r, r', hf, hq => by
    obtain ⟨v0, vr, rfl, e0, l⟩ := HasL.cons_iff.mp h
    obtain ⟨w0, wr, rfl, f0, l'⟩ := HasL.cons_iff.mp h'
    cases r with
    | cons r0 r =>
      cases r' with
      | cons r0' r' =>
        refine PySem.W.kat_cons ?_
        refine eqAt_of I (pD x) A (pD y) v0 w0 _ _ e0 f0 r0 r0' (by have : dep (pD x) ≤ 2 := by { simp [pD, dep, depL] }; omega) _ _ _ _ ?_
        have ee : eqD (pD x) (pD y) = decide (x = y) := by
          obtain ⟨a, b⟩ := x
          obtain ⟨c, d⟩ := y
          by_cases q : a = c <;> by_cases q' : b = d <;> simp [pD, eqD, eqDL, q, q']
        rw [ee]
        by_cases c : x = y
        · rw [decide_eq_true c]
          refine PySem.W.kat_yes (lex_rows I hu l l' r r' ?_ ?_)
          · rw [hf]; simp
          · unfold ltR at hq; rw [if_pos c] at hq; exact hq
        · rw [decide_eq_false c]
          refine PySem.W.kat_no ?_
          show wpAny _ _ (oneLt' (false && i == 0) _ _) _ _ _
          rw [Bool.false_and]
          refine PySem.W.kat_one _ _ (ltAt_pair I e0 f0 r0 r0' (by omega) ?_)
          unfold ltR at hq
          rw [if_neg c] at hq
          exact hq
end
end FL
set_option Elab.async false
set_option linter.all false
set_option maxRecDepth 100000
set_option maxHeartbeats 4000000
namespace FL
open PySem PySem.Spec PyProof.Rows L2
section
variable {X : Cx} {pins : List (Addr × Obj)} {σ : St} {H : Hp} {s : Shared}
theorem rows_tups (I : Inv X pins σ H s) : ∀ {rs : List (List (Int × Int))} {ys : List V} {us : List Value}, (∀ r ∈ rs, r ≠ []) → HasL X.K H (rs.map rwD) ys → Vals ys us →
    ∃ fs, PySem.W.KatTups s.heap us fs ∧ fs.length = rs.length ∧ ∀ v ∈ fs, ∃ b o, v = .ref b ∧ s.heap.get? b = some o ∧ o.cls = .type "tuple"
  | [], ys, us, _, h, r => by
    rw [List.map_nil, HasL.nil_iff] at h
    subst h
    cases r
    exact ⟨[], .nil, rfl, fun v hv => nomatch hv⟩
  | x :: rs, ys, us, hne, h, r => by
    obtain ⟨v, vr, rfl, e0, l⟩ := HasL.cons_iff.mp h
    cases r with
    | cons r0 r =>
      obtain ⟨fs, t, hl, ht⟩ := rows_tups I (fun r hr => hne r (List.mem_cons_of_mem _ hr)) l r
      obtain ⟨a, xs, rfl, q, lx⟩ := Has.tup_iff.mp e0
      cases r0
      obtain ⟨its, rv, ⟨o, ho, hc, n, hd⟩, _⟩ := I.tuple q
      cases x with
      | nil => exact absurd rfl (hne [] List.mem_cons_self)
      | cons x0 xr =>
        obtain ⟨w, wr, rfl, f0, lw⟩ := HasL.cons_iff.mp lx
        cases rv with
        | cons k0 rv =>
          obtain ⟨b, bs, rfl, q', l'⟩ := Has.tup_iff.mp f0
          cases k0
          obtain ⟨its', rv', ⟨o', ho', hc', _⟩, _⟩ := I.tuple q'
          refine ⟨.ref b :: fs, .cons ho hc hd (by simp) t, by simp [hl], fun v hv => ?_⟩
          rcases List.mem_cons.mp hv with rfl | hv
          · exact ⟨b, o', rfl, ho', hc'⟩
          · exact ht v hv
theorem rows_at {K : PySem.W.Frag} {rs : List (List (Int × Int))} {ys : List V} {us : List Value} (h : HasL K H (rs.map rwD) ys) (r : Vals ys us) {i : Nat} (hi : i < us.length) :
    Has K H (rwD (rs.getD i [])) (ys.getD i .non) ∧ RelV (ys.getD i .non) (us.getD i .none) := by
  have hl := r.length
  have hl' := h.length
  rw [List.length_map] at hl'
  have e : (rs.map rwD)[i]? = some (rwD (rs.getD i [])) := by
    rw [List.getElem?_map, List.getD_eq_getElem?_getD, List.getElem?_eq_getElem (by omega)]
    rfl
  obtain ⟨v, hv, hh⟩ := h.get e
  have ev : ys.getD i .non = v := by rw [List.getD_eq_getElem?_getD, hv]; rfl
  refine ⟨by rw [ev]; exact hh, ?_⟩
  obtain ⟨u, hu, hr⟩ := r.get hv
  rw [ev, List.getD_eq_getElem?_getD, hu]
  exact hr
theorem rows_maps {K : PySem.W.Frag} {rs : List (List (Int × Int))} {ys : List V} {us : List Value} (h : HasL K H (rs.map rwD) ys) (r : Vals ys us) : ∀ (l : List Nat), (∀ i ∈ l, i < us.length) →
    HasL K H ((l.map fun i => rs.getD i []).map rwD) (l.map fun i => ys.getD i .non) ∧ Vals (l.map fun i => ys.getD i .non) (l.map fun i => us.getD i .none)
  | [], _ => ⟨.nil, .nil⟩
  | i :: l, hl => by
    have a := rows_at h r (hl i List.mem_cons_self)
    have b := rows_maps h r l fun j hj => hl j (List.mem_cons_of_mem _ hj)
    exact ⟨.cons a.1 b.1, .cons a.2 b.2⟩
theorem map_range_rows (rs : List (List (Int × Int))) : (List.range rs.length).map (fun i => rs.getD i []) = rs := by
  apply List.ext_getElem
  · simp
  · intro i h1 h2
    simp [h2]
theorem up_sorted {rs : List (List (Int × Int))} {p : Array Nat} (b : Bs rs.length p) (u : UpTo (O := rowOrd) (fun i => rs.getD i []) p rs.length) : sortR rs = p.toList.map fun i => rs.getD i [] := by
  have hp : p.toList.Perm (List.range rs.length) := by simpa using Array.perm_iff_toList_perm.mp b.perm
  refine sortR_eq ?_ ?_
  · have := hp.map fun i => rs.getD i []
    rwa [map_range_rows] at this
  · show List.Pairwise (fun a b : List (Int × Int) => ltR b a = false) (List.map (fun i => rs.getD i []) p.toList)
    rw [List.pairwise_iff_getElem]
    intro i j hi hj hij
    have hs := b.size
    simp only [List.length_map, Array.length_toList] at hi hj
    have q : ltR (KP (O := rowOrd) (fun i => rs.getD i []) p j) (KP (O := rowOrd) (fun i => rs.getD i []) p i) = false := u i j (by omega) (by omega)
    unfold KP at q
    rw [Array.getElem?_eq_getElem hi, Array.getElem?_eq_getElem hj] at q
    simpa using q
theorem call_sortedR {kk : Nat} (hr : Room kk X.A) : CallR X (.builtin "sorted") (fun xs H Q => ∃ (p : Addr) (rs : List (List (Int × Int))) (ys : List V), xs = [.ref p] ∧ SqL X.K H p ys ∧ HasL X.K H (rs.map rwD) ys ∧ rs.length < 64 ∧ (∀ r ∈ rs, r ≠ []) ∧
    ∀ l (L : List Nat), H l = none → (∀ i ∈ L, i < ys.length) → sortR rs = L.map (fun i => rs.getD i []) → Q (.ref l) (upd H l (.lst (L.map fun i => ys.getD i .non)))) := by
  intro pins s σ H xs us Q I r h
  obtain ⟨p, rs, ys, rfl, hq, hh, hn, hne, q⟩ := h
  obtain ⟨u, rfl, rx⟩ := vals1 r
  cases rx
  obtain ⟨its, r', pl, hz⟩ := I.list hq
  have hlen := r'.length
  have hlen' := hh.length
  rw [List.length_map] at hlen'
  have hu : X.A.in1.in1.units + 100 < cLine := by show X.A.units + 1 + 1 + 100 < cLine; have := hr.un; omega
  refine sorted_T (O := rowOrd) (key := fun i => rs.getD i []) (κ := tuples' false) (vs := its) pl.isList (by omega) (fun h2 h' hk => ?_) fun p' a1 a2 => ?_
  · have I' : Inv X pins σ H { s with heap := h' } := I.kept (t' := s.toks) hk
    refine ⟨fun Q E hq => ?_, fun i j Q hi hj hq => ?_⟩
    · obtain ⟨fs, t, hl, ht⟩ := rows_tups I' hne hh r'
      refine PySem.W.kat_kind (T := .type "tuple") t (by omega) (fun v hv => ?_) (by rfl) hq
      obtain ⟨b, o, rfl, ho, hc⟩ := ht v hv
      have : PySem.W.Looks (model X.prog X.w) h' (typeOf (.ref b)) o.cls := (PySem.W.Looks.ld ho).andThen .now
      rw [hc] at this
      exact this
    · obtain ⟨x1, x2⟩ := rows_at hh r' hi
      obtain ⟨y1, y2⟩ := rows_at hh r' hj
      obtain ⟨a, xs, e, qa, la⟩ := Has.tup_iff.mp x1
      obtain ⟨b, zs, e', qb, lb⟩ := Has.tup_iff.mp y1
      rw [e] at x2
      rw [e'] at y2
      have k1 : its.getD i .none = .ref a := x2
      have k2 : its.getD j .none = .ref b := y2
      obtain ⟨ia, ra, ⟨o, ho, hc, n, hd⟩, _⟩ := I'.tuple qa
      obtain ⟨ib, rb, ⟨o', ho', hc', n', hd'⟩, _⟩ := I'.tuple qb
      rw [k1, k2]
      refine PySem.W.kat_lt ho hd ho' hd' ?_
      exact lex_rows I' (by omega) la lb ra rb (by simp) hq
  · have hm : ∀ i ∈ p'.toList, i < its.length := fun i hi => by
      have : i ∈ List.range its.length := by simpa using (Array.perm_iff_toList_perm.mp a1.perm).mem_iff.mp hi
      simpa using this
    have b := rows_maps hh r' p'.toList hm
    have el : its.length = rs.length := by omega
    rw [el] at a1 a2
    have hf : H (s.heap.objs.size + 1) = none := I.hok.fresh (Nat.le_succ _)
    have q' := q _ p'.toList hf (by rw [hlen]; exact hm) (up_sorted a1 a2)
    obtain ⟨e, he⟩ := sortedAll_at s.heap its (List.toArray (p'.toList.map fun i => its.getD i .none))
    exact ⟨.ref (s.heap.objs.size + 1), _, I.laid (t' := s.toks) (fun b o x => sortedAll_old x) (Nat.le_succ _) (show ObjOk X.prog X.w _ (sortedAll s.heap its _) _ (.lst _) from ⟨by rw [List.length_map, Array.length_toList, a1.size]; omega, _, e, b.2, he⟩), rfl, q'⟩
theorem rows_has {K : PySem.W.Frag} {rs : List (List (Int × Int))} {ys : List V} (h : HasL K H (rs.map rwD) ys) : ∀ (l : List Nat), (∀ i ∈ l, i < ys.length) → HasL K H ((l.map fun i => rs.getD i []).map rwD) (l.map fun i => ys.getD i .non)
  | [], _ => .nil
  | i :: l, hl => by
    have hi := hl i List.mem_cons_self
    have hl' := h.length
    rw [List.length_map] at hl'
    have e : (rs.map rwD)[i]? = some (rwD (rs.getD i [])) := by
      rw [List.getElem?_map, List.getD_eq_getElem?_getD, List.getElem?_eq_getElem (by omega)]
      rfl
    obtain ⟨v, hv, hh⟩ := h.get e
    have ev : ys.getD i .non = v := by rw [List.getD_eq_getElem?_getD, hv]; rfl
    exact .cons (show Has K H (rwD (rs.getD i [])) (ys.getD i .non) by rw [ev]; exact hh) (rows_has h l fun j hj => hl j (List.mem_cons_of_mem _ hj))
end
def pairOf : D → Option (Int × Int)
  | .tup [.int a, .int b] => some (a, b)
  | _ => none
def rowOf : List D → Option (List (Int × Int))
  | [] => some []
  | d :: ds => (pairOf d).bind fun x => (rowOf ds).bind fun r => some (x :: r)
def rowsOf : List D → Option (List (List (Int × Int)))
  | [] => some []
  | .tup ds :: rest => (rowOf ds).bind fun r => (rowsOf rest).bind fun rs => some (r :: rs)
  | _ :: _ => none
theorem pairOf_some {d : D} {x : Int × Int} (h : pairOf d = some x) : d = pD x := by
  unfold pairOf at h
  split at h
  · cases h; rfl
  · cases h
theorem rowOf_some : ∀ {ds : List D} {r : List (Int × Int)}, rowOf ds = some r → ds = r.map pD
  | [], r, h => by cases h; rfl
  | d :: ds, r, h => by
    unfold rowOf at h
    obtain ⟨x, h1, h⟩ := Option.bind_eq_some_iff.mp h
    obtain ⟨r', h2, h⟩ := Option.bind_eq_some_iff.mp h
    cases h
    rw [pairOf_some h1, rowOf_some h2]
    rfl
theorem rowsOf_some : ∀ {ds : List D} {rs : List (List (Int × Int))}, rowsOf ds = some rs → ds = rs.map rwD
  | [], r, h => by cases h; rfl
  | d :: ds, r, h => by
    unfold rowsOf at h
    split at h
    · rename_i e; cases e
    · rename_i e
      cases e
      obtain ⟨x, h1, h⟩ := Option.bind_eq_some_iff.mp h
      obtain ⟨r', h2, h⟩ := Option.bind_eq_some_iff.mp h
      cases h
      rw [rowOf_some h1, rowsOf_some h2]
      rfl
    · cases h
theorem rowOf_map : ∀ r : List (Int × Int), rowOf (r.map pD) = some r
  | [] => rfl
  | x :: r => by
    show (pairOf (pD x)).bind (fun x => (rowOf (r.map pD)).bind fun r => some (x :: r)) = _
    rw [rowOf_map r]
    rfl
theorem rowsOf_map : ∀ rs : List (List (Int × Int)), rowsOf (rs.map rwD) = some rs
  | [] => rfl
  | r :: rs => by
    show (rowOf (r.map pD)).bind (fun r => (rowsOf (rs.map rwD)).bind fun rs => some (r :: rs)) = _
    rw [rowOf_map r, rowsOf_map rs]
    rfl
def sortRN (fa : FA) : FA := fun ρ => (fa ρ).bind fun l => match l with
  | [.lst ds] => (rowsOf ds).bind fun rs => if rs.length < 64 ∧ ∀ r ∈ rs, r ≠ [] then some ((sortR rs).map rwD) else none
  | _ => none
@[simp] theorem s_sortRN {fa : FA} {ρ : Rho} : sortRN fa ρ = (fa ρ).bind fun l => match l with
  | [.lst ds] => (rowsOf ds).bind fun rs => if rs.length < 64 ∧ ∀ r ∈ rs, r ≠ [] then some ((sortR rs).map rwD) else none
  | _ => none := rfl
section
variable {X : Cx} {e : Expr} {pos : Pos} {kk : Nat}
theorem dn_sortedR (hr : Room kk X.A) {es : List Expr} {fa : FA} {p : Pos} (hg : Gl X "sorted") (hm : X.mg "sorted" = none) (ha : DAR X (e :: es) fa)
    (he : starEach (e :: es) X.env = (false, eval e X.env) :: starEach es X.env := by rfl) (hpl : (backTo pos (starEach es X.env)).any (·.1) = false := by rfl) : DN X (.Call (.Name "sorted" p) (e :: es) [] pos) (sortRN fa) :=
  pe_imp (pe_callB (id := "sorted") (call_sortedR hr) hg hm boot_sorted ha (by decide) (by decide) he hpl) fun σ H Q ⟨H₀, Hf₀, ρ, Hf, d, R, q, k⟩ => by
    obtain ⟨l, e1, e2⟩ := bindA_some q
    refine ⟨H₀, Hf₀, ρ, Hf, l, R, e1, fun vs H1 Hf1 R1 s1 t1 h1 => ?_⟩
    split at e2
    · rename_i ds
      obtain ⟨rs, e3, e4⟩ := Option.bind_eq_some_iff.mp e2
      split at e4
      · rename_i hn
        cases e4
        obtain ⟨v, rfl, hv⟩ := HasRL.one h1
        obtain ⟨a, ys, rfl, q, l⟩ := hv.lst R1
        rw [rowsOf_some e3] at l
        refine ⟨a, rs, ys, rfl, q, l.mono R1.sf, hn.1, hn.2, fun p L hp hL eL => ?_⟩
        rw [eL] at k
        exact k _ _ _ _ (R1.layN hp) (s1.trans (same_upd hp)) t1 (rows_has l L hL) upd_same (R1.sf.free hp) (s1.free hp)
      · cases e4
    · cases e2
end
end FL
set_option Elab.async false
set_option linter.all false
set_option maxRecDepth 100000
set_option maxHeartbeats 4000000
namespace FL
open PySem PySem.Spec PyProof.Rows L2
section
variable {α : Type} {P : List α → Prop}
theorem all0 (k : P []) : ∀ us : List α, us.length = 0 → P us
  | [], _ => k
theorem all1 (k : ∀ a, P [a]) : ∀ us : List α, us.length = 1 → P us
  | a :: us, h => all0 (P := fun us => P (a :: us)) (k a) us (Nat.succ.inj h)
theorem all2 (k : ∀ a b, P [a, b]) : ∀ us : List α, us.length = 2 → P us
  | a :: us, h => all1 (P := fun us => P (a :: us)) (k a) us (Nat.succ.inj h)
theorem all3 (k : ∀ a b c, P [a, b, c]) : ∀ us : List α, us.length = 3 → P us
  | a :: us, h => all2 (P := fun us => P (a :: us)) (k a) us (Nat.succ.inj h)
theorem all4 (k : ∀ a b c d, P [a, b, c, d]) : ∀ us : List α, us.length = 4 → P us
  | a :: us, h => all3 (P := fun us => P (a :: us)) (k a) us (Nat.succ.inj h)
theorem all5 (k : ∀ a b c d e, P [a, b, c, d, e]) : ∀ us : List α, us.length = 5 → P us
  | a :: us, h => all4 (P := fun us => P (a :: us)) (k a) us (Nat.succ.inj h)
end
section
variable {X : Cx} {pos : Pos} {kk : Nat}
end
end FL
set_option Elab.async false
set_option linter.all false
set_option maxRecDepth 100000
set_option maxHeartbeats 4000000
namespace FL
open PySem PySem.Spec PyProof.Rows L2
section
variable {prog : Program} {w : World} {A : Around} {E : Value → Shared → Prop} {s : Shared}
end
end FL
set_option Elab.async false
set_option linter.all false
set_option maxRecDepth 100000
set_option maxHeartbeats 4000000
namespace FL
open PySem PySem.Spec PyProof.Rows L2
end FL
set_option Elab.async false
set_option linter.all false
set_option maxRecDepth 100000
set_option maxHeartbeats 4000000
namespace FL
open PySem PySem.Spec PyProof.Rows L2
section
variable {K : PySem.W.Frag} {H₀ Hf₀ : Hp} {σ : St} {ρ : Rho} {H Hf : Hp}
end
section
variable {X : Cx} {pos : Pos} {body : List Stmt} {γ : FG} {B : FS}
end
end FL
set_option Elab.async false
set_option linter.all false
set_option maxRecDepth 100000
set_option maxHeartbeats 4000000
namespace M02
def wsgn (n : Int) : Int := if 0 < n then 1 else if n < 0 then -1 else 0
def N (a b : Int) : Int := a * a + a * b - b * b
def sgn (a b : Int) : Int := if 0 ≤ wsgn a * wsgn b then wsgn (wsgn a + wsgn b) else wsgn a * wsgn (a * a + a * b - b * b)
def absI (i : Int) : Int := if i < 0 then -i else i
def lawSgn (a b : Int) : Int := if (2 * a + b = 0 ∧ b = 0) then 0 else if 0 < (2 * a + b) * absI (2 * a + b) + 5 * b * absI b then 1 else 0 - 1
theorem wsgn_pos {n : Int} (h : 0 < n) : wsgn n = 1 := by unfold wsgn; rw [if_pos h]
theorem wsgn_neg {n : Int} (h : n < 0) : wsgn n = -1 := by unfold wsgn; rw [if_neg (by omega), if_pos h]
theorem wsgn_cases (n : Int) : (0 < n ∧ wsgn n = 1) ∨ (n < 0 ∧ wsgn n = -1) ∨ (n = 0 ∧ wsgn n = 0) := by
  rcases Int.lt_trichotomy n 0 with h | h | h
  · exact .inr (.inl ⟨h, wsgn_neg h⟩)
  · subst h; exact .inr (.inr ⟨rfl, rfl⟩)
  · exact .inl ⟨h, wsgn_pos h⟩
theorem N_even (x y : Int) : N (2 * x) (2 * y) = 4 * N x y := by
  unfold N
  have e1 : 2 * x * (2 * x) = 4 * (x * x) := by rw [Int.mul_assoc, Int.mul_left_comm x 2 x, ← Int.mul_assoc]; rfl
  have e2 : 2 * x * (2 * y) = 4 * (x * y) := by rw [Int.mul_assoc, Int.mul_left_comm x 2 y, ← Int.mul_assoc]; rfl
  have e3 : 2 * y * (2 * y) = 4 * (y * y) := by rw [Int.mul_assoc, Int.mul_left_comm y 2 y, ← Int.mul_assoc]; rfl
  rw [e1, e2, e3]
  omega
theorem odd_sq {a b : Int} (ha : a % 2 = 1) (hb : b % 2 = 1) : (a * b) % 2 = 1 := by rw [Int.mul_emod, ha, hb]; rfl
theorem even_l {a : Int} (b : Int) (ha : a % 2 = 0) : (a * b) % 2 = 0 := by rw [Int.mul_emod, ha]; simp
theorem even_r (a : Int) {b : Int} (hb : b % 2 = 0) : (a * b) % 2 = 0 := by rw [Int.mul_emod, hb]; simp
theorem N_zero_aux : ∀ (n : Nat) (a b : Int), a.natAbs + b.natAbs = n → N a b = 0 → a = 0 ∧ b = 0 := by
  intro n
  induction n using Nat.strongRecOn with
  | ind n ih =>
    intro a b hn h
    have h' : a * a + a * b - b * b = 0 := h
    have pa : a % 2 = 0 ∨ a % 2 = 1 := by omega
    have pb : b % 2 = 0 ∨ b % 2 = 1 := by omega
    rcases pa with pa | pa <;> rcases pb with pb | pb
    · by_cases h0 : a = 0 ∧ b = 0
      · exact h0
      · obtain ⟨x, rfl⟩ : ∃ x, a = 2 * x := ⟨a / 2, by omega⟩
        obtain ⟨y, rfl⟩ : ∃ y, b = 2 * y := ⟨b / 2, by omega⟩
        have hN := N_even x y
        rw [h] at hN
        have := ih (x.natAbs + y.natAbs) (by omega) x y rfl (by omega)
        omega
    · have e1 := even_l a pa
      have e2 := even_l b pa
      have e3 := odd_sq pb pb
      omega
    · have e1 := odd_sq pa pa
      have e2 := even_r a pb
      have e3 := even_l b pb
      omega
    · have e1 := odd_sq pa pa
      have e2 := odd_sq pa pb
      have e3 := odd_sq pb pb
      omega
theorem N_zero {a b : Int} (h : N a b = 0) : a = 0 ∧ b = 0 := N_zero_aux _ a b rfl h
def Pos (a b : Int) : Prop := (0 ≤ a ∧ 0 ≤ b ∧ (0 < a ∨ 0 < b)) ∨ (0 < a ∧ b < 0 ∧ 0 < N a b) ∨ (a < 0 ∧ 0 < b ∧ N a b < 0)
theorem N_neg (a b : Int) : N (-a) (-b) = N a b := by unfold N; rw [Int.neg_mul_neg, Int.neg_mul_neg, Int.neg_mul_neg]
theorem sgn_pos {a b : Int} (h : Pos a b) : sgn a b = 1 := by
  unfold sgn
  rcases h with ⟨h1, h2, h3⟩ | ⟨h1, h2, h3⟩ | ⟨h1, h2, h3⟩
  · rcases wsgn_cases a with ⟨p, e⟩ | ⟨p, e⟩ | ⟨p, e⟩ <;> rcases wsgn_cases b with ⟨p', e'⟩ | ⟨p', e'⟩ | ⟨p', e'⟩ <;> rw [e, e'] <;> first | rfl | omega
  · rw [wsgn_pos h1, wsgn_neg h2]
    have : a * a + a * b - b * b > 0 := h3
    rw [if_neg (by decide), wsgn_pos this]; rfl
  · rw [wsgn_neg h1, wsgn_pos h2]
    have : a * a + a * b - b * b < 0 := h3
    rw [if_neg (by decide), wsgn_neg this]; rfl
theorem wsgn_opp (n : Int) : wsgn (-n) = -wsgn n := by
  rcases wsgn_cases n with ⟨p, e⟩ | ⟨p, e⟩ | ⟨p, e⟩
  · rw [e, wsgn_neg (by omega)]
  · rw [e, wsgn_pos (by omega)]; rfl
  · subst p; rfl
theorem sgn_opp (a b : Int) : sgn (-a) (-b) = -sgn a b := by
  unfold sgn
  have e : -a * -a + -a * -b - -b * -b = a * a + a * b - b * b := N_neg a b
  rw [e, wsgn_opp a, wsgn_opp b]
  have e2 : -wsgn a * -wsgn b = wsgn a * wsgn b := Int.neg_mul_neg _ _
  rw [e2]
  have e3 : -wsgn a + -wsgn b = -(wsgn a + wsgn b) := by omega
  rw [e3, wsgn_opp]
  split
  · rfl
  · exact Int.neg_mul _ _
theorem pos_cases (a b : Int) : (a = 0 ∧ b = 0) ∨ Pos a b ∨ Pos (-a) (-b) := by
  by_cases h0 : a = 0 ∧ b = 0
  · exact .inl h0
  · right
    have hN : N a b ≠ 0 := fun h => h0 (N_zero h)
    by_cases ha : 0 ≤ a
    · by_cases hb : 0 ≤ b
      · exact .inl (.inl ⟨ha, hb, by omega⟩)
      · by_cases a0 : a = 0
        · exact .inr (.inl ⟨by omega, by omega, .inr (by omega)⟩)
        · rcases Int.lt_or_lt_of_ne hN with hn | hn
          · exact .inr (.inr (.inr ⟨by omega, by omega, by rw [N_neg]; exact hn⟩))
          · exact .inl (.inr (.inl ⟨by omega, by omega, hn⟩))
    · by_cases hb : 0 < b
      · rcases Int.lt_or_lt_of_ne hN with hn | hn
        · exact .inl (.inr (.inr ⟨by omega, hb, hn⟩))
        · exact .inr (.inr (.inl ⟨by omega, by omega, by rw [N_neg]; exact hn⟩))
      · exact .inr (.inl ⟨by omega, by omega, .inl (by omega)⟩)
theorem N_g (a b : Int) : N b (a + b) = -N a b := by
  unfold N
  have e1 : b * (a + b) = a * b + b * b := by rw [Int.mul_add, Int.mul_comm b a]
  have e2 : (a + b) * (a + b) = a * a + 2 * (a * b) + b * b := by rw [Int.add_mul, Int.mul_add, Int.mul_add, Int.mul_comm b a]; omega
  rw [e1, e2]; omega
theorem N_small {a b : Int} (h1 : 0 < a) (h2 : a + b ≤ 0) : N a b < 0 := by
  unfold N
  have e : a * a + a * b = a * (a + b) := by rw [Int.mul_add]
  have l1 : a * (a + b) ≤ 0 := Int.mul_nonpos_of_nonneg_of_nonpos (by omega) h2
  have l2 : 0 < b * b := Int.mul_pos_of_neg_of_neg (by omega) (by omega)
  omega
theorem N_small' {a b : Int} (h1 : a < 0) (h2 : 0 ≤ a + b) (h3 : 0 < b) : N a b < 0 := by
  have := N_small (a := -a) (b := -b) (by omega) (by omega)
  rwa [N_neg] at this
theorem pos_g {a b : Int} : Pos a b ↔ Pos b (a + b) := by
  unfold Pos
  rw [N_g]
  constructor
  · rintro (⟨h1, h2, h3⟩ | ⟨h1, h2, h3⟩ | ⟨h1, h2, h3⟩)
    · exact .inl ⟨h2, by omega, by omega⟩
    · by_cases h : a + b ≤ 0
      · have := N_small h1 h; omega
      · exact .inr (.inr ⟨h2, by omega, by omega⟩)
    · by_cases h : a + b < 0
      · exact .inr (.inl ⟨h2, h, by omega⟩)
      · exact .inl ⟨by omega, by omega, by omega⟩
  · rintro (⟨h1, h2, h3⟩ | ⟨h1, h2, h3⟩ | ⟨h1, h2, h3⟩)
    · by_cases h : 0 ≤ a
      · exact .inl ⟨h, h1, by omega⟩
      · exact .inr (.inr ⟨by omega, by omega, N_small' (by omega) h2 (by omega)⟩)
    · exact .inr (.inr ⟨by omega, h1, by omega⟩)
    · exact .inr (.inl ⟨by omega, h1, by omega⟩)
def gpow : Nat → Int × Int → Int × Int
  | 0, x => x
  | n + 1, x => gpow n (x.2, x.1 + x.2)
theorem pos_gpow : ∀ (n : Nat) (x : Int × Int), Pos x.1 x.2 ↔ Pos (gpow n x).1 (gpow n x).2
  | 0, x => Iff.rfl
  | n + 1, x => (pos_g (a := x.1) (b := x.2)).trans (pos_gpow n (x.2, x.1 + x.2))
def Cone (x : Int × Int) : Prop := 0 ≤ x.1 ∧ 0 ≤ x.2 ∧ (0 < x.1 ∨ 0 < x.2)
theorem cone_pos {x : Int × Int} (h : Cone x) : Pos x.1 x.2 := .inl h
theorem gpow_add (m : Nat) : ∀ (n : Nat) (x : Int × Int), gpow m (gpow n x) = gpow (n + m) x
  | 0, x => by rw [Nat.zero_add]; rfl
  | n + 1, x => by rw [Nat.succ_add]; exact gpow_add m n _
theorem to_cone_aux : ∀ (k : Nat) (a b : Int), a.natAbs ≤ k → 0 < a → b < 0 → 0 < N a b → ∃ n, Cone (gpow n (a, b)) := by
  intro k
  induction k with
  | zero => intro a b h1 h2; omega
  | succ k ih =>
    intro a b h1 h2 h3 h4
    have hs : 0 < a + b := by
      by_cases h : a + b ≤ 0
      · have := N_small h2 h; omega
      · omega
    by_cases hc : 0 ≤ a + 2 * b
    · exact ⟨2, (show (0 : Int) ≤ a + b by omega), (show (0 : Int) ≤ b + (a + b) by omega), .inl hs⟩
    · have hN : N (a + b) (b + (a + b)) = N a b := by rw [N_g, N_g]; omega
      obtain ⟨n, hn⟩ := ih (a + b) (b + (a + b)) (by omega) hs (by omega) (by omega)
      exact ⟨n + 2, hn⟩
theorem to_cone {a b : Int} (h : Pos a b) : ∃ n, Cone (gpow n (a, b)) := by
  rcases h with h | ⟨h1, h2, h3⟩ | ⟨h1, h2, h3⟩
  · exact ⟨0, h⟩
  · exact to_cone_aux _ a b (Nat.le_refl _) h1 h2 h3
  · by_cases h : 0 ≤ a + b
    · exact ⟨1, (show (0 : Int) ≤ b by omega), h, .inl h2⟩
    · obtain ⟨n, hn⟩ := to_cone_aux _ b (a + b) (Nat.le_refl _) h2 (by omega) (by rw [N_g]; omega)
      exact ⟨n + 1, hn⟩
def mulG (x y : Int × Int) : Int × Int := (x.1 * y.1 + x.2 * y.2, x.1 * y.2 + x.2 * y.1 + x.2 * y.2)
theorem mulG_g (x y : Int × Int) : mulG (x.2, x.1 + x.2) y = ((mulG x y).2, (mulG x y).1 + (mulG x y).2) := by
  unfold mulG
  simp only [Int.add_mul, Prod.mk.injEq]
  omega
theorem mulG_comm (x y : Int × Int) : mulG x y = mulG y x := by
  unfold mulG
  have e1 := Int.mul_comm x.1 y.1
  have e2 := Int.mul_comm x.2 y.2
  have e3 := Int.mul_comm x.1 y.2
  have e4 := Int.mul_comm x.2 y.1
  simp only [Prod.mk.injEq]
  omega
theorem mulG_gpow : ∀ (n : Nat) (x y : Int × Int), mulG (gpow n x) y = gpow n (mulG x y)
  | 0, _, _ => rfl
  | n + 1, x, y => by
    show mulG (gpow n (x.2, x.1 + x.2)) y = gpow n ((mulG x y).2, (mulG x y).1 + (mulG x y).2)
    rw [mulG_gpow n, mulG_g]
theorem cone_mul {x y : Int × Int} (hx : Cone x) (hy : Cone y) : Cone (mulG x y) := by
  obtain ⟨x1, x2, x3⟩ := hx
  obtain ⟨y1, y2, y3⟩ := hy
  have m1 := Int.mul_nonneg x1 y1
  have m2 := Int.mul_nonneg x2 y2
  have m3 := Int.mul_nonneg x1 y2
  have m4 := Int.mul_nonneg x2 y1
  refine ⟨show (0 : Int) ≤ x.1 * y.1 + x.2 * y.2 by omega, show (0 : Int) ≤ x.1 * y.2 + x.2 * y.1 + x.2 * y.2 by omega, ?_⟩
  show 0 < x.1 * y.1 + x.2 * y.2 ∨ 0 < x.1 * y.2 + x.2 * y.1 + x.2 * y.2
  rcases x3 with x3 | x3 <;> rcases y3 with y3 | y3
  · have := Int.mul_pos x3 y3; omega
  · have := Int.mul_pos x3 y3; omega
  · have := Int.mul_pos x3 y3; omega
  · have := Int.mul_pos x3 y3; omega
theorem pos_mul {x y : Int × Int} (hx : Pos x.1 x.2) (hy : Pos y.1 y.2) : Pos (mulG x y).1 (mulG x y).2 := by
  obtain ⟨n, hn⟩ := to_cone hx
  obtain ⟨m, hm⟩ := to_cone hy
  have h := cone_pos (cone_mul hn hm)
  have e : mulG (gpow n (x.1, x.2)) (gpow m (y.1, y.2)) = gpow (m + n) (mulG x y) := by
    rw [mulG_gpow, mulG_comm, mulG_gpow, mulG_comm, gpow_add]
  rw [e] at h
  exact (pos_gpow (m + n) (mulG x y)).mpr h
theorem absI_nn {i : Int} (h : 0 ≤ i) : absI i = i := by unfold absI; rw [if_neg (by omega)]
theorem absI_neg {i : Int} (h : i < 0) : absI i = -i := by unfold absI; rw [if_pos h]
theorem four_N (a b : Int) : (2 * a + b) * (2 * a + b) - 5 * b * b = 4 * N a b := by
  unfold N
  have e1 : (2 * a + b) * (2 * a + b) = 4 * (a * a) + 4 * (a * b) + b * b := by
    rw [Int.add_mul, Int.mul_add, Int.mul_add, Int.mul_assoc, Int.mul_left_comm a 2 a, Int.mul_assoc, Int.mul_comm b (2 * a), Int.mul_assoc]
    omega
  rw [e1, Int.mul_assoc]
  omega
theorem sq_pos {a : Int} (h : a ≠ 0) : 0 < a * a := by
  rcases Int.lt_or_gt_of_ne h with h | h
  · exact Int.mul_pos_of_neg_of_neg h h
  · exact Int.mul_pos h h
theorem sq_nn (a : Int) : 0 ≤ a * a := by
  by_cases h : a = 0
  · subst h; decide
  · exact Int.le_of_lt (sq_pos h)
theorem law_pos {a b : Int} (h : Pos a b) : lawSgn a b = 1 := by
  unfold lawSgn
  have q := four_N a b
  have s1 := sq_nn (2 * a + b)
  have s2 := sq_nn b
  have e5 : 5 * b * b = 5 * (b * b) := Int.mul_assoc 5 b b
  rcases h with ⟨h1, h2, h3⟩ | ⟨h1, h2, h3⟩ | ⟨h1, h2, h3⟩
  · rw [if_neg (by omega), absI_nn h2, absI_nn (by omega)]
    have s3 : 0 < (2 * a + b) * (2 * a + b) := sq_pos (by omega)
    rw [if_pos (by omega)]
  · have hT : 0 < 2 * a + b := by
      by_cases h : a + b ≤ 0
      · have := N_small h1 h; omega
      · omega
    rw [if_neg (by omega), absI_neg h2, absI_nn (by omega), Int.mul_neg]
    rw [if_pos (by omega)]
  · rw [if_neg (by omega), absI_nn (i := b) (by omega)]
    by_cases hT : 2 * a + b < 0
    · rw [absI_neg hT, Int.mul_neg, if_pos (by omega)]
    · have s3 : 0 < b * b := sq_pos (by omega)
      rw [absI_nn (by omega), if_pos (by omega)]
theorem lawSgn_opp {a b : Int} (h : ¬ (a = 0 ∧ b = 0)) : lawSgn (-a) (-b) = -lawSgn a b := by
  have absN : ∀ i : Int, absI (-i) = absI i := fun i => by unfold absI; split <;> split <;> omega
  unfold lawSgn
  have e1 : 2 * -a + -b = -(2 * a + b) := by omega
  have z1 : ¬ (-(2 * a + b) = 0 ∧ -b = 0) := by omega
  have z2 : ¬ ((2 * a + b) = 0 ∧ b = 0) := by omega
  rw [e1, absN, absN, Int.neg_mul, Int.mul_neg 5 b, Int.neg_mul]
  rw [if_neg z1, if_neg z2]
  have hne : (2 * a + b) * absI (2 * a + b) + 5 * b * absI b ≠ 0 := by
    rcases pos_cases a b with h0 | hp | hp
    · exact absurd h0 h
    · have := law_pos hp
      unfold lawSgn at this
      rw [if_neg z2] at this
      split at this
      · omega
      · omega
    · have := law_pos hp
      unfold lawSgn at this
      rw [e1, if_neg z1, absN, absN, Int.neg_mul, Int.mul_neg 5 b, Int.neg_mul] at this
      split at this
      · omega
      · omega
  split <;> split <;> omega
theorem sgn_law (a b : Int) : sgn a b = lawSgn a b := by
  rcases pos_cases a b with ⟨rfl, rfl⟩ | hp | hp
  · rfl
  · rw [sgn_pos hp, law_pos hp]
  · have e1 := sgn_pos hp
    have e2 := law_pos hp
    rw [sgn_opp] at e1
    rw [lawSgn_opp (by rintro ⟨rfl, rfl⟩; unfold Pos at hp; omega)] at e2
    omega
end M02
namespace GH
open FL L2
abbrev Gd := Int × Int
def gadd (x y : Gd) : Gd := (x.1 + y.1, x.2 + y.2)
def gneg (x : Gd) : Gd := (-x.1, -x.2)
def gmul (x y : Gd) : Gd := (x.1 * y.1 + x.2 * y.2, x.1 * y.2 + x.2 * y.1 + x.2 * y.2)
def gD (x : Gd) : D := .tup [.int x.1, .int x.2]
def rowD (r : List Gd) : D := .tup (r.map gD)
abbrev T3 := Int × Int × Int
def tD (t : T3) : D := .tup [.int t.1, .int t.2.1, .int t.2.2]
def houseD (n : Nat) (ts : List T3) : D := .tup [.int n, .lst (ts.map tD)]
def mlo (i j : Int) : Int := if j < i then j else i
def mhi (i j : Int) : Int := if j > i then j else i
theorem mlo_comm (i j : Int) : mlo i j = mlo j i := by unfold mlo; split <;> split <;> omega
theorem mhi_comm (i j : Int) : mhi i j = mhi j i := by unfold mhi; split <;> split <;> omega
def turnM : List T3 → Int → Int → Int
  | [], _, _ => 2
  | t :: ts, i, j => if t.1 = mlo i j ∧ t.2.1 = mhi i j then t.2.2 else turnM ts i j
theorem turnM_comm (ts : List T3) (i j : Int) : turnM ts i j = turnM ts j i := by
  induction ts with
  | nil => rfl
  | cons t ts ih => unfold turnM; rw [mlo_comm, mhi_comm, ih]
def GoodT (ts : List T3) : Prop := ∀ t ∈ ts, t.2.2 = 0 ∨ (3 ≤ t.2.2 ∧ t.2.2 ≤ 6)
theorem turnM_good {ts : List T3} (h : GoodT ts) (i j : Int) : turnM ts i j = 0 ∨ (2 ≤ turnM ts i j ∧ turnM ts i j ≤ 6) := by
  induction ts with
  | nil => simp [turnM]
  | cons t ts ih =>
    unfold turnM
    split
    · have := h t List.mem_cons_self; omega
    · exact ih fun t ht => h t (List.mem_cons_of_mem _ ht)
def pullT (m : Int) (less : Bool) : Gd :=
  if m = 0 then (-2, 0) else if m = 2 then (0, 0) else if m = 3 then (-1, 0) else if m = 4 then (if less then (-2, 0) else (-1, 0)) else if m = 5 then (0, -1) else (if less then (-3, 0) else (-1, 0))
def pullM (ts : List T3) (i j : Int) : Gd := if i = j then (2, 0) else pullT (turnM ts i j) (decide (i < j))
theorem pullT_small (m : Int) (b : Bool) : -3 ≤ (pullT m b).1 ∧ (pullT m b).1 ≤ 2 ∧ -1 ≤ (pullT m b).2 ∧ (pullT m b).2 ≤ 0 := by
  unfold pullT
  repeat' split
  all_goals decide
theorem pullM_small (ts : List T3) (i j : Int) : -3 ≤ (pullM ts i j).1 ∧ (pullM ts i j).1 ≤ 2 ∧ -1 ≤ (pullM ts i j).2 ∧ (pullM ts i j).2 ≤ 0 := by
  unfold pullM
  split
  · decide
  · exact pullT_small _ _
def sumL (A : Nat → Gd) : Nat → List Gd → Gd → Gd
  | _, [], acc => acc
  | k, x :: r, acc => sumL A (k + 1) r (gadd acc (gmul (A k) x))
def mirM (A : Nat → Gd) (i : Nat) (r : List Gd) : List Gd := r.set i (gadd (r.getD i (0, 0)) (gneg (sumL A 0 r (0, 0))))
theorem mirM_length (A : Nat → Gd) (i : Nat) (r : List Gd) : (mirM A i r).length = r.length := by simp [mirM]
def ledM (A : Nat → Nat → Gd) (w : List Nat) (r : List Gd) : List Gd := w.foldr (fun i r => mirM (A i) i r) r
theorem ledM_length (A : Nat → Nat → Gd) (w : List Nat) (r : List Gd) : (ledM A w r).length = r.length := by
  induction w with
  | nil => rfl
  | cons i w ih => show (mirM (A i) i (ledM A w r)).length = _; rw [mirM_length, ih]
theorem ledM_append (A : Nat → Nat → Gd) (u v : List Nat) (r : List Gd) : ledM A (u ++ v) r = ledM A u (ledM A v r) := by simp [ledM]
def simM (n i : Nat) : List Gd := (List.range n).map fun j => if j = i then (1, 0) else (0, 0)
theorem simM_length (n i : Nat) : (simM n i).length = n := by simp [simM]
def pulls (ts : List T3) : Nat → Nat → Gd := fun i j => pullM ts (i : Int) (j : Int)
theorem gadd_comm (x y : Gd) : gadd x y = gadd y x := by simp [gadd, Int.add_comm]
theorem gadd_assoc (x y z : Gd) : gadd (gadd x y) z = gadd x (gadd y z) := by simp [gadd, Int.add_assoc]
theorem gadd_zero (x : Gd) : gadd x (0, 0) = x := by simp [gadd]
theorem zero_gadd (x : Gd) : gadd (0, 0) x = x := by simp [gadd]
theorem gneg_gneg (x : Gd) : gneg (gneg x) = x := by simp [gneg]
theorem gmul_add (x y z : Gd) : gmul x (gadd y z) = gadd (gmul x y) (gmul x z) := by simp only [gmul, gadd, Int.mul_add, Prod.mk.injEq]; omega
theorem gmul_two (y : Gd) : gmul (2, 0) y = gadd y y := by simp only [gmul, gadd, Int.zero_mul, Prod.mk.injEq]; omega
theorem sumL_acc (A : Nat → Gd) : ∀ (r : List Gd) (k : Nat) (acc : Gd), sumL A k r acc = gadd acc (sumL A k r (0, 0))
  | [], k, acc => by simp [sumL, gadd_zero]
  | x :: r, k, acc => by
    unfold sumL
    rw [sumL_acc A r (k + 1) (gadd acc _), sumL_acc A r (k + 1) (gadd (0, 0) _), zero_gadd, gadd_assoc]
theorem sumL_set (A : Nat → Gd) : ∀ (r : List Gd) (k i : Nat) (y : Gd), i < r.length → sumL A k (r.set i (gadd (r.getD i (0, 0)) y)) (0, 0) = gadd (sumL A k r (0, 0)) (gmul (A (k + i)) y)
  | [], _, _, _, h => by simp at h
  | x :: r, k, 0, y, h => by
    simp only [List.set_cons_zero, List.getD_cons_zero, sumL, zero_gadd, Nat.add_zero]
    rw [sumL_acc A r (k + 1) (gmul (A k) x), sumL_acc A r (k + 1) (gmul (A k) (gadd x y)), gmul_add, gadd_assoc, gadd_comm (gmul (A k) y), ← gadd_assoc]
  | x :: r, k, i + 1, y, h => by
    simp only [List.set_cons_succ, List.getD_cons_succ, sumL, zero_gadd]
    rw [sumL_acc A r (k + 1) (gmul (A k) x), sumL_acc A _ (k + 1) (gmul (A k) x), sumL_set A r (k + 1) i y (by simpa using h), gadd_assoc]
    congr 4
    omega
theorem mirM_mirM {A : Nat → Gd} {i : Nat} (h : A i = (2, 0)) (r : List Gd) (hi : i < r.length) : mirM A i (mirM A i r) = r := by
  unfold mirM
  have hs := sumL_set A r 0 i (gneg (sumL A 0 r (0, 0))) hi
  rw [hs, Nat.zero_add, h, gmul_two, List.set_set]
  have hg : (r.set i (gadd (r.getD i (0, 0)) (gneg (sumL A 0 r (0, 0))))).getD i (0, 0) = gadd (r.getD i (0, 0)) (gneg (sumL A 0 r (0, 0))) := by simp [List.getD_eq_getElem?_getD, hi]
  rw [hg]
  generalize sumL A 0 r (0, 0) = S
  have e : gadd (gadd (r.getD i (0, 0)) (gneg S)) (gneg (gadd S (gadd (gneg S) (gneg S)))) = r.getD i (0, 0) := by
    simp only [gadd, gneg]
    refine Prod.ext ?_ ?_ <;> simp only [] <;> omega
  rw [e]
  apply List.ext_getElem?
  intro k
  rw [List.getElem?_set]
  by_cases hk : i = k
  · subst hk
    simp [hi, List.getD_eq_getElem?_getD]
  · rw [if_neg hk]
theorem ledM_back {A : Nat → Nat → Gd} (h : ∀ i, A i i = (2, 0)) : ∀ (w : List Nat) (r : List Gd), (∀ i ∈ w, i < r.length) → ledM A w.reverse (ledM A w r) = r
  | [], r, _ => rfl
  | i :: w, r, hw => by
    rw [List.reverse_cons, ledM_append]
    show ledM A w.reverse (mirM (A i) i (mirM (A i) i (ledM A w r))) = r
    rw [mirM_mirM (h i) _ (by rw [ledM_length]; exact hw i List.mem_cons_self)]
    exact ledM_back h w r fun j hj => hw j (List.mem_cons_of_mem _ hj)
theorem pulls_self (ts : List T3) (i : Nat) : pulls ts i i = (2, 0) := by simp [pulls, pullM]
end GH
namespace GH
open FL L2
def lawSgn2 (a b : Int) : Int :=
  if 0 ≤ 2 * a + b ∧ 0 ≤ b then (if 0 < 2 * a + b + b then 1 else 0) else if 2 * a + b ≤ 0 ∧ b ≤ 0 then -1
  else if 0 < 2 * a + b then (if 5 * b * b < (2 * a + b) * (2 * a + b) then 1 else -1) else (if (2 * a + b) * (2 * a + b) < 5 * b * b then 1 else -1)
theorem lawSgn2_eq (a b : Int) : lawSgn2 a b = M02.lawSgn a b := by
  unfold lawSgn2 M02.lawSgn
  generalize 2 * a + b = p
  have ap : (0 ≤ p ∧ M02.absI p = p) ∨ (p < 0 ∧ M02.absI p = -p) := by unfold M02.absI; split <;> omega
  have aq : (0 ≤ b ∧ M02.absI b = b) ∨ (b < 0 ∧ M02.absI b = -b) := by unfold M02.absI; split <;> omega
  rcases ap with ⟨hp, ep⟩ | ⟨hp, ep⟩ <;> rcases aq with ⟨hq, eq⟩ | ⟨hq, eq⟩ <;> rw [ep, eq]
  · have m1 : 0 ≤ p * p := Int.mul_nonneg hp hp
    have m2 : 0 ≤ 5 * b * b := Int.mul_nonneg (by omega) hq
    rw [if_pos ⟨hp, hq⟩]
    by_cases h : p = 0 ∧ b = 0
    · rw [if_pos h, if_neg (by omega)]
    · rw [if_neg h, if_pos (by omega)]
      have : 0 < p * p + 5 * b * b := by
        by_cases hp0 : p = 0
        · have : 0 < 5 * b * b := Int.mul_pos (by omega) (by omega)
          omega
        · have : 0 < p * p := Int.mul_pos (by omega) (by omega)
          omega
      rw [if_pos this]
  · have e : 5 * b * -b = -(5 * b * b) := Int.mul_neg _ _
    rw [if_neg (by omega), e, if_neg (show ¬ (p = 0 ∧ b = 0) by omega)]
    by_cases hp0 : p = 0
    · subst hp0
      have : 0 < 5 * b * b := Int.mul_pos_of_neg_of_neg (by omega) hq
      rw [if_pos (by omega), if_neg (by omega)]; rfl
    · rw [if_neg (by omega), if_pos (by omega)]
      by_cases h : 5 * b * b < p * p
      · rw [if_pos h, if_pos (by omega)]
      · rw [if_neg h, if_neg (by omega)]; rfl
  · have e : p * -p = -(p * p) := Int.mul_neg _ _
    rw [if_neg (by omega), e, if_neg (show ¬ (p = 0 ∧ b = 0) by omega)]
    by_cases hb0 : b = 0
    · subst hb0
      have : 0 < p * p := Int.mul_pos_of_neg_of_neg hp hp
      rw [if_pos (by omega), if_neg (by omega)]; rfl
    · rw [if_neg (by omega), if_neg (by omega)]
      by_cases h : p * p < 5 * b * b
      · rw [if_pos h, if_pos (by omega)]
      · rw [if_neg h, if_neg (by omega)]; rfl
  · have e : p * -p = -(p * p) := Int.mul_neg _ _
    have e' : 5 * b * -b = -(5 * b * b) := Int.mul_neg _ _
    have m1 : 0 < p * p := Int.mul_pos_of_neg_of_neg hp hp
    have m2 : 0 < 5 * b * b := Int.mul_pos_of_neg_of_neg (by omega) hq
    rw [if_neg (by omega), if_pos (by omega), e, e', if_neg (show ¬ (p = 0 ∧ b = 0) by omega), if_neg (by omega)]; rfl
def sgnG (x : Gd) : Int := M02.sgn x.1 x.2
def Bnd (B : Nat) (r : List Gd) : Prop := ∀ x ∈ r, x.1.natAbs ≤ B ∧ x.2.natAbs ≤ B
theorem mul_bd {p x : Int} {c B : Nat} (hp : p.natAbs ≤ c) (hx : x.natAbs ≤ B) : (p * x).natAbs ≤ c * B := by
  rw [Int.natAbs_mul]
  exact Nat.mul_le_mul hp hx
theorem gmul_bd {p x : Gd} {B : Nat} (hp : -3 ≤ p.1 ∧ p.1 ≤ 2 ∧ -1 ≤ p.2 ∧ p.2 ≤ 0) (hx : x.1.natAbs ≤ B ∧ x.2.natAbs ≤ B) : (gmul p x).1.natAbs ≤ 5 * B ∧ (gmul p x).2.natAbs ≤ 5 * B := by
  have p1 : p.1.natAbs ≤ 3 := by omega
  have p2 : p.2.natAbs ≤ 1 := by omega
  have a := mul_bd p1 hx.1
  have b := mul_bd p2 hx.2
  have c := mul_bd p1 hx.2
  have d := mul_bd p2 hx.1
  constructor
  · show (p.1 * x.1 + p.2 * x.2).natAbs ≤ 5 * B
    omega
  · show (p.1 * x.2 + p.2 * x.1 + p.2 * x.2).natAbs ≤ 5 * B
    omega
theorem sumL_bd {A : Nat → Gd} (hA : ∀ k, -3 ≤ (A k).1 ∧ (A k).1 ≤ 2 ∧ -1 ≤ (A k).2 ∧ (A k).2 ≤ 0) {B : Nat} : ∀ (r : List Gd) (k : Nat), Bnd B r → (sumL A k r (0, 0)).1.natAbs ≤ 5 * B * r.length ∧ (sumL A k r (0, 0)).2.natAbs ≤ 5 * B * r.length
  | [], k, _ => by simp [sumL]
  | x :: r, k, h => by
    unfold sumL
    rw [sumL_acc, zero_gadd]
    have a := gmul_bd (hA k) (h x List.mem_cons_self)
    have b := sumL_bd hA r (k + 1) fun y hy => h y (List.mem_cons_of_mem _ hy)
    have e : 5 * B * (x :: r).length = 5 * B * r.length + 5 * B := by rw [List.length_cons, Nat.mul_succ]
    rw [e]
    constructor
    · show ((gmul (A k) x).1 + (sumL A (k + 1) r (0, 0)).1).natAbs ≤ _
      omega
    · show ((gmul (A k) x).2 + (sumL A (k + 1) r (0, 0)).2).natAbs ≤ _
      omega
theorem getD_bd {B : Nat} {r : List Gd} (h : Bnd B r) (i : Nat) : (r.getD i (0, 0)).1.natAbs ≤ B ∧ (r.getD i (0, 0)).2.natAbs ≤ B := by
  rw [List.getD_eq_getElem?_getD]
  cases e : r[i]? with
  | none => simp
  | some x => exact h x (List.mem_of_getElem? e)
theorem mirM_bd {A : Nat → Gd} (hA : ∀ k, -3 ≤ (A k).1 ∧ (A k).1 ≤ 2 ∧ -1 ≤ (A k).2 ∧ (A k).2 ≤ 0) {B : Nat} {r : List Gd} (i : Nat) (h : Bnd B r) (hl : r.length ≤ 6) : Bnd (B * 32) (mirM A i r) := fun x hx => by
  unfold mirM at hx
  rcases List.mem_or_eq_of_mem_set hx with hx | rfl
  · have := h x hx; omega
  · have a := sumL_bd hA r 0 h
    have b := getD_bd h i
    have c : 5 * B * r.length ≤ 5 * B * 6 := Nat.mul_le_mul_left _ hl
    constructor
    · show ((r.getD i (0, 0)).1 + -(sumL A 0 r (0, 0)).1).natAbs ≤ _
      omega
    · show ((r.getD i (0, 0)).2 + -(sumL A 0 r (0, 0)).2).natAbs ≤ _
      omega
theorem ledM_bd {ts : List T3} {B : Nat} {r : List Gd} (h : Bnd B r) (hl : r.length ≤ 6) : ∀ w : List Nat, Bnd (B * 32 ^ w.length) (ledM (pulls ts) w r)
  | [] => by simpa [ledM] using h
  | i :: w => by
    have ih := ledM_bd (ts := ts) h hl w
    have := mirM_bd (A := pulls ts i) (fun k => pullM_small ts i k) i ih (by rw [ledM_length]; exact hl)
    show Bnd _ (mirM (pulls ts i) i (ledM (pulls ts) w r))
    rw [List.length_cons, Nat.pow_succ, ← Nat.mul_assoc]
    exact this
theorem simM_bd (n i : Nat) : Bnd 1 (simM n i) := fun x hx => by
  unfold simM at hx
  obtain ⟨j, _, rfl⟩ := List.mem_map.mp hx
  split <;> decide
end GH
namespace GH
theorem gmul_assoc (x y z : Gd) : gmul (gmul x y) z = gmul x (gmul y z) := by simp only [gmul, Prod.mk.injEq]; constructor <;> grind
theorem gmul_comm (x y : Gd) : gmul x y = gmul y x := by simp only [gmul, Prod.mk.injEq]; constructor <;> grind
def bump (i : Nat) (p : Gd) (r : List Gd) : List Gd := r.set i (gadd (r.getD i (0, 0)) p)
theorem bump_length (i : Nat) (p : Gd) (r : List Gd) : (bump i p r).length = r.length := by simp [bump]
theorem bump_bump {i : Nat} (p q : Gd) {r : List Gd} (h : i < r.length) : bump i p (bump i q r) = bump i (gadd q p) r := by
  unfold bump
  have : (r.set i (gadd (r.getD i (0, 0)) q)).getD i (0, 0) = gadd (r.getD i (0, 0)) q := by simp [List.getD_eq_getElem?_getD, h]
  rw [this, List.set_set, gadd_assoc]
theorem bump_comm {i j : Nat} (hij : i ≠ j) (p q : Gd) (r : List Gd) : bump i p (bump j q r) = bump j q (bump i p r) := by
  unfold bump
  have e1 : (r.set j (gadd (r.getD j (0, 0)) q)).getD i (0, 0) = r.getD i (0, 0) := by simp [List.getD_eq_getElem?_getD, List.getElem?_set, Ne.symm hij]
  have e2 : (r.set i (gadd (r.getD i (0, 0)) p)).getD j (0, 0) = r.getD j (0, 0) := by simp [List.getD_eq_getElem?_getD, List.getElem?_set, hij]
  rw [e1, e2, List.set_comm _ _ hij]
theorem bump_sum (A : Nat → Gd) {i : Nat} (p : Gd) {r : List Gd} (h : i < r.length) : sumL A 0 (bump i p r) (0, 0) = gadd (sumL A 0 r (0, 0)) (gmul (A i) p) := by
  have := sumL_set A r 0 i p h
  rw [Nat.zero_add] at this
  exact this
theorem mir_bump (A : Nat → Gd) (i : Nat) (r : List Gd) : mirM A i r = bump i (gneg (sumL A 0 r (0, 0))) r := rfl
theorem bump_zero {i : Nat} {r : List Gd} (h : i < r.length) : bump i (0, 0) r = r := by
  unfold bump
  rw [gadd_zero]
  apply List.ext_getElem?
  intro k
  rw [List.getElem?_set]
  split
  · next e => subst e; simp [h, List.getD_eq_getElem?_getD]
  · rfl
abbrev Fm := Gd × Gd
def ev (f : Fm) (x y : Gd) : Gd := gadd (gmul f.1 x) (gmul f.2 y)
def fadd (f g : Fm) : Fm := (gadd f.1 g.1, gadd f.2 g.2)
def fneg (f : Fm) : Fm := (gneg f.1, gneg f.2)
def fsc (c : Gd) (f : Fm) : Fm := (gmul c f.1, gmul c f.2)
theorem ev_add (f g : Fm) (x y : Gd) : ev (fadd f g) x y = gadd (ev f x y) (ev g x y) := by simp only [ev, fadd, gadd, gmul, Prod.mk.injEq]; constructor <;> grind
theorem ev_neg (f : Fm) (x y : Gd) : ev (fneg f) x y = gneg (ev f x y) := by simp only [ev, fneg, gadd, gneg, gmul, Prod.mk.injEq]; constructor <;> grind
theorem ev_sc (c : Gd) (f : Fm) (x y : Gd) : ev (fsc c f) x y = gmul c (ev f x y) := by simp only [ev, fsc, gadd, gmul, Prod.mk.injEq]; constructor <;> grind
theorem ev_zero (x y : Gd) : ev ((0, 0), (0, 0)) x y = (0, 0) := by simp [ev, gadd, gmul]
structure Tn where
  p : Fm
  q : Fm
  x : Fm
  y : Fm
  deriving DecidableEq
def tn0 : Tn := ⟨((0, 0), (0, 0)), ((0, 0), (0, 0)), ((1, 0), (0, 0)), ((0, 0), (1, 0))⟩
def tnJ (a : Gd) (s : Tn) : Tn := ⟨s.p, fadd s.q (fneg s.y), fadd s.x (fsc a (fneg s.y)), fneg s.y⟩
def tnI (b : Gd) (s : Tn) : Tn := ⟨fadd s.p (fneg s.x), s.q, fneg s.x, fadd s.y (fsc b (fneg s.x))⟩
def tn (a b : Gd) : Nat → Tn
  | 0 => tn0
  | k + 1 => tnI b (tnJ a (tn a b k))
def pairs (i j : Nat) : Nat → List Nat
  | 0 => []
  | k + 1 => i :: j :: pairs i j k
theorem two_neg (z : Gd) : gadd z (gmul (2, 0) (gneg z)) = gneg z := by simp only [gadd, gmul, gneg, Prod.mk.injEq]; constructor <;> grind
theorem led_pairs (A : Nat → Nat → Gd) {i j : Nat} (hij : i ≠ j) (hi2 : A i i = (2, 0)) (hj2 : A j j = (2, 0)) {r : List Gd} (hi : i < r.length) (hj : j < r.length) :
    ∀ k : Nat, ∃ R, ledM A (pairs i j k) r = R ∧ R = bump i (ev (tn (A i j) (A j i) k).p (sumL (A i) 0 r (0, 0)) (sumL (A j) 0 r (0, 0))) (bump j (ev (tn (A i j) (A j i) k).q (sumL (A i) 0 r (0, 0)) (sumL (A j) 0 r (0, 0))) r) ∧
      sumL (A i) 0 R (0, 0) = ev (tn (A i j) (A j i) k).x (sumL (A i) 0 r (0, 0)) (sumL (A j) 0 r (0, 0)) ∧ sumL (A j) 0 R (0, 0) = ev (tn (A i j) (A j i) k).y (sumL (A i) 0 r (0, 0)) (sumL (A j) 0 r (0, 0)) := by
  generalize hx : sumL (A i) 0 r (0, 0) = x
  generalize hy : sumL (A j) 0 r (0, 0) = y
  intro k
  induction k with
  | zero =>
    refine ⟨r, rfl, ?_, ?_, ?_⟩
    · simp only [tn, tn0, ev_zero]
      rw [bump_zero hj, bump_zero hi]
    · rw [hx]; simp [tn, tn0, ev, gadd, gmul]
    · rw [hy]; simp [tn, tn0, ev, gadd, gmul]
  | succ k ih =>
    obtain ⟨R, h1, h2, h3, h4⟩ := ih
    have htn : tn (A i j) (A j i) (k + 1) = tnI (A j i) (tnJ (A i j) (tn (A i j) (A j i) k)) := rfl
    rw [htn]
    generalize tn (A i j) (A j i) k = s at h2 h3 h4
    have hRl : R.length = r.length := by rw [h2, bump_length, bump_length]
    -- the j mirror first
    have e1 : mirM (A j) j R = bump j (ev (fneg s.y) x y) R := by rw [mir_bump, h4, ev_neg]
    have sx1 : sumL (A i) 0 (mirM (A j) j R) (0, 0) = ev (fadd s.x (fsc (A i j) (fneg s.y))) x y := by
      rw [e1, bump_sum (A i) _ (by omega), h3, ev_add, ev_sc]
    have sy1 : sumL (A j) 0 (mirM (A j) j R) (0, 0) = ev (fneg s.y) x y := by
      rw [e1, bump_sum (A j) _ (by omega), h4, hj2, ev_neg, two_neg]
    have b1 : mirM (A j) j R = bump i (ev s.p x y) (bump j (ev (fadd s.q (fneg s.y)) x y) r) := by
      rw [e1, h2, ← bump_comm hij, bump_bump _ _ hj, ev_add]
    -- then the i mirror
    generalize mirM (A j) j R = R1 at sx1 sy1 b1 e1
    have hRl1 : R1.length = r.length := by rw [b1, bump_length, bump_length]
    have hk : ledM A (pairs i j (k + 1)) r = mirM (A i) i (mirM (A j) j (ledM A (pairs i j k) r)) := rfl
    have e2 : mirM (A i) i R1 = bump i (ev (fneg (fadd s.x (fsc (A i j) (fneg s.y)))) x y) R1 := by rw [mir_bump, sx1, ev_neg]
    refine ⟨mirM (A i) i R1, ?_, ?_, ?_, ?_⟩
    · rw [hk, h1, mir_bump (A j), h4, ← ev_neg, ← e1]
    · rw [e2, b1, bump_bump _ _ (by rw [bump_length]; exact hi), ← ev_add]
      rfl
    · rw [e2, bump_sum (A i) _ (by omega), sx1, hi2, ev_neg, two_neg, ← ev_neg]
      rfl
    · rw [e2, bump_sum (A j) _ (by omega), sy1, ← ev_sc, ← ev_add]
      rfl
theorem sumL_sim (A : Nat → Gd) (n i : Nat) (hi : i < n) : sumL A 0 (simM n i) (0, 0) = A i := by
  have gen : ∀ (m k : Nat) (acc : Gd), sumL A k ((List.range m).map fun t => if k + t = i then ((1, 0) : Gd) else (0, 0)) acc = if k ≤ i ∧ i < k + m then gadd acc (A i) else acc := by
    intro m
    induction m with
    | zero => intro k acc; simp [sumL]; intro h h2; omega
    | succ m ih =>
      intro k acc
      rw [List.range_succ_eq_map, List.map_cons, List.map_map]
      have e : ((fun t => if k + t = i then ((1, 0) : Gd) else (0, 0)) ∘ Nat.succ) = fun t => if (k + 1) + t = i then ((1, 0) : Gd) else (0, 0) := by
        funext t
        simp only [Function.comp]
        have : k + t.succ = k + 1 + t := by omega
        rw [this]
      rw [e]
      unfold sumL
      rw [ih]
      by_cases h : k = i
      · subst h
        have z : gmul (A k) (1, 0) = A k := by simp [gmul]
        simp [z]
        omega
      · have z : gmul (A k) (0, 0) = (0, 0) := by simp [gmul]
        simp only [Nat.add_zero, h, if_false, z, gadd_zero]
        by_cases h2 : k + 1 ≤ i ∧ i < k + 1 + m
        · rw [if_pos h2, if_pos (by omega)]
        · rw [if_neg h2, if_neg (by omega)]
  have := gen n 0 (0, 0)
  simp only [Nat.zero_add] at this
  unfold simM
  rw [this, if_pos ⟨Nat.zero_le _, hi⟩, zero_gadd]
end GH
namespace GH
theorem gpow_sum : ∀ (n : Nat) (x y : Int × Int), M02.gpow n (x.1 + y.1, x.2 + y.2) = ((M02.gpow n x).1 + (M02.gpow n y).1, (M02.gpow n x).2 + (M02.gpow n y).2)
  | 0, x, y => rfl
  | n + 1, x, y => by
    have := gpow_sum n (x.2, x.1 + x.2) (y.2, y.1 + y.2)
    simp only at this
    unfold M02.gpow
    rw [← this]
    congr 2
    simp only []
    omega
theorem cone_gpow : ∀ (n : Nat) (x : Int × Int), M02.Cone x → M02.Cone (M02.gpow n x)
  | 0, x, h => h
  | n + 1, x, h => cone_gpow n _ ⟨h.2.1, by have := h.1; have := h.2.1; simp only []; omega, by have := h.1; have := h.2.1; have := h.2.2; simp only []; omega⟩
theorem pos_add {x y : Gd} (hx : M02.Pos x.1 x.2) (hy : M02.Pos y.1 y.2) : M02.Pos (gadd x y).1 (gadd x y).2 := by
  obtain ⟨n, hn⟩ := M02.to_cone hx
  obtain ⟨m, hm⟩ := M02.to_cone hy
  have h1 : M02.Cone (M02.gpow m (M02.gpow n x)) := cone_gpow m _ hn
  have h2 : M02.Cone (M02.gpow n (M02.gpow m y)) := cone_gpow n _ hm
  rw [M02.gpow_add] at h1 h2
  rw [Nat.add_comm m n] at h2
  rw [M02.pos_gpow (n + m) (gadd x y)]
  apply M02.cone_pos
  have e := gpow_sum (n + m) x y
  unfold gadd
  rw [e]
  obtain ⟨a1, a2, a3⟩ := h1
  obtain ⟨b1, b2, b3⟩ := h2
  exact ⟨by simp only []; omega, by simp only []; omega, by simp only []; omega⟩
def nn (x : Gd) : Prop := x = (0, 0) ∨ M02.Pos x.1 x.2
theorem nn_add {x y : Gd} (hx : nn x) (hy : nn y) : nn (gadd x y) := by
  rcases hx with rfl | hx
  · rw [zero_gadd]; exact hy
  · rcases hy with rfl | hy
    · rw [gadd_zero]; exact .inr hx
    · exact .inr (pos_add hx hy)
theorem nn_mul {x y : Gd} (hx : nn x) (hy : nn y) : nn (gmul x y) := by
  rcases hx with rfl | hx
  · left; simp [gmul]
  · rcases hy with rfl | hy
    · left; simp [gmul]
    · exact .inr (M02.pos_mul hx hy)
theorem pos_not_neg {x : Gd} (h : M02.Pos x.1 x.2) : ¬ M02.Pos (gneg x).1 (gneg x).2 := by
  intro h'
  have e1 := M02.sgn_pos h
  have e2 := M02.sgn_pos h'
  have := M02.sgn_opp x.1 x.2
  simp only [gneg] at e2
  omega
theorem nn_both {x : Gd} (h : nn x) (h' : nn (gneg x)) : x = (0, 0) := by
  rcases h with h | h
  · exact h
  · rcases h' with h' | h'
    · have := congrArg gneg h'
      rw [gneg_gneg] at this
      rw [this]; rfl
    · exact absurd h' (pos_not_neg h)
def nnb (x : Gd) : Bool := decide (0 ≤ M02.sgn x.1 x.2)
theorem nn_of_b {x : Gd} (h : nnb x = true) : nn x := by
  unfold nnb at h
  rw [decide_eq_true_eq] at h
  rcases M02.pos_cases x.1 x.2 with ⟨h1, h2⟩ | hp | hp
  · exact .inl (Prod.ext h1 h2)
  · exact .inr hp
  · have := M02.sgn_pos hp
    rw [M02.sgn_opp] at this
    omega
theorem nn_nat (k : Int) (h : 0 ≤ k) : nn (k, 0) := by
  by_cases c : k = 0
  · left; rw [c]
  · exact .inr (.inl ⟨h, Int.le_refl _, .inl (by omega)⟩)
theorem sgn_nn {x : Gd} (h : nn x) : sgnG x ≠ -1 := by
  rcases h with rfl | h
  · decide
  · unfold sgnG; rw [M02.sgn_pos h]; decide
theorem sgn_np {x : Gd} (h : nn (gneg x)) : sgnG x ≠ 1 := by
  have := sgn_nn h
  unfold sgnG gneg at *
  rw [M02.sgn_opp] at this
  omega
def radd (r s : List Gd) : List Gd := List.zipWith gadd r s
def rsc (c : Gd) (r : List Gd) : List Gd := r.map (gmul c)
theorem radd_length {r s : List Gd} (h : r.length = s.length) : (radd r s).length = r.length := by simp [radd, h]
theorem rsc_length (c : Gd) (r : List Gd) : (rsc c r).length = r.length := by simp [rsc]
theorem row_ext {r s : List Gd} (h : r.length = s.length) (e : ∀ k, k < r.length → r.getD k (0, 0) = s.getD k (0, 0)) : r = s := by
  apply List.ext_getElem h
  intro k h1 h2
  have := e k h1
  simpa [List.getD_eq_getElem?_getD, h1, h2] using this
theorem radd_get {r s : List Gd} (h : r.length = s.length) (k : Nat) : (radd r s).getD k (0, 0) = gadd (r.getD k (0, 0)) (s.getD k (0, 0)) := by
  unfold radd
  simp only [List.getD_eq_getElem?_getD, List.getElem?_zipWith]
  by_cases hk : k < r.length
  · simp [hk, h ▸ hk]
  · have h2 : ¬ k < s.length := by omega
    simp [List.getElem?_eq_none (Nat.not_lt.mp hk), List.getElem?_eq_none (Nat.not_lt.mp h2), gadd]
theorem rsc_get (c : Gd) (r : List Gd) (k : Nat) : (rsc c r).getD k (0, 0) = gmul c (r.getD k (0, 0)) := by
  unfold rsc
  simp only [List.getD_eq_getElem?_getD, List.getElem?_map]
  by_cases hk : k < r.length
  · simp [hk]
  · simp [List.getElem?_eq_none (Nat.not_lt.mp hk), gmul]
theorem mirM_get (A : Nat → Gd) {i : Nat} {r : List Gd} (hi : i < r.length) (k : Nat) : (mirM A i r).getD k (0, 0) = if k = i then gadd (r.getD i (0, 0)) (gneg (sumL A 0 r (0, 0))) else r.getD k (0, 0) := by
  unfold mirM
  simp only [List.getD_eq_getElem?_getD, List.getElem?_set]
  by_cases h : k = i
  · subst h; simp [hi]
  · have : ¬ i = k := fun e => h e.symm
    simp [h, this]
theorem sumL_add (A : Nat → Gd) : ∀ (r s : List Gd) (k : Nat), r.length = s.length → sumL A k (radd r s) (0, 0) = gadd (sumL A k r (0, 0)) (sumL A k s (0, 0))
  | [], [], k, _ => rfl
  | [], _ :: _, _, h => by cases h
  | _ :: _, [], _, h => by cases h
  | x :: r, y :: s, k, h => by
    have ih := sumL_add A r s (k + 1) (by simpa using h)
    unfold radd at ih ⊢
    simp only [List.zipWith_cons_cons, sumL, zero_gadd]
    rw [sumL_acc A (List.zipWith gadd r s), ih, sumL_acc A r (k + 1) (gmul (A k) x), sumL_acc A s (k + 1) (gmul (A k) y)]
    generalize sumL A (k + 1) r (0, 0) = p
    generalize sumL A (k + 1) s (0, 0) = q
    simp only [gadd, gmul, Prod.mk.injEq]
    constructor <;> grind
theorem sumL_sc (A : Nat → Gd) (c : Gd) : ∀ (r : List Gd) (k : Nat), sumL A k (rsc c r) (0, 0) = gmul c (sumL A k r (0, 0))
  | [], k => by simp [rsc, sumL, gmul]
  | x :: r, k => by
    have ih := sumL_sc A c r (k + 1)
    unfold rsc at ih ⊢
    simp only [List.map_cons, sumL, zero_gadd]
    rw [sumL_acc A (List.map (gmul c) r), ih, sumL_acc A r (k + 1) (gmul (A k) x)]
    generalize sumL A (k + 1) r (0, 0) = p
    simp only [gadd, gmul, Prod.mk.injEq]
    constructor <;> grind
theorem mirM_add (A : Nat → Gd) {i : Nat} {r s : List Gd} (h : r.length = s.length) (hi : i < r.length) : mirM A i (radd r s) = radd (mirM A i r) (mirM A i s) := by
  have hl : (mirM A i r).length = (mirM A i s).length := by rw [mirM_length, mirM_length, h]
  apply row_ext (by rw [mirM_length, radd_length h, radd_length hl, mirM_length])
  intro k _
  rw [mirM_get A (by rw [radd_length h]; exact hi), radd_get hl, mirM_get A hi, mirM_get A (h ▸ hi), radd_get h, radd_get h, sumL_add A r s 0 h]
  split
  · simp only [gadd, gneg, Prod.mk.injEq]; constructor <;> omega
  · rfl
theorem mirM_sc (A : Nat → Gd) {i : Nat} (c : Gd) {r : List Gd} (hi : i < r.length) : mirM A i (rsc c r) = rsc c (mirM A i r) := by
  apply row_ext (by rw [mirM_length, rsc_length, rsc_length, mirM_length])
  intro k _
  rw [mirM_get A (by rw [rsc_length]; exact hi), sumL_sc]
  simp only [rsc_get]
  rw [mirM_get A hi]
  split
  · simp only [gadd, gneg, gmul, Prod.mk.injEq]; constructor <;> grind
  · rfl
def InW (n : Nat) (w : List Nat) : Prop := ∀ i ∈ w, i < n
theorem InW.app {n : Nat} {u v : List Nat} (hu : InW n u) (hv : InW n v) : InW n (u ++ v) := fun i hi => (List.mem_append.mp hi).elim (hu i) (hv i)
theorem InW.left {n : Nat} {u v : List Nat} (h : InW n (u ++ v)) : InW n u := fun i hi => h i (List.mem_append.mpr (.inl hi))
theorem InW.right {n : Nat} {u v : List Nat} (h : InW n (u ++ v)) : InW n v := fun i hi => h i (List.mem_append.mpr (.inr hi))
theorem InW.rev {n : Nat} {u : List Nat} (h : InW n u) : InW n u.reverse := fun i hi => h i (by simpa using hi)
theorem InW.one {n i : Nat} (h : i < n) : InW n [i] := fun k hk => by simp at hk; omega
theorem InW.cons {n i : Nat} {u : List Nat} (h : i < n) (hu : InW n u) : InW n (i :: u) := fun k hk => by
  rcases List.mem_cons.mp hk with rfl | hk
  · exact h
  · exact hu k hk
section
variable (A : Nat → Nat → Gd)
theorem ledM_cons (i : Nat) (w : List Nat) (r : List Gd) : ledM A (i :: w) r = mirM (A i) i (ledM A w r) := rfl
theorem ledM_add : ∀ (w : List Nat) {r s : List Gd}, r.length = s.length → InW r.length w → ledM A w (radd r s) = radd (ledM A w r) (ledM A w s)
  | [], r, s, h, hw => rfl
  | i :: w, r, s, h, hw => by
    rw [ledM_cons, ledM_cons, ledM_cons, ledM_add w h (fun k hk => hw k (List.mem_cons_of_mem _ hk)), mirM_add (A i) (by rw [ledM_length, ledM_length, h]) (by rw [ledM_length]; exact hw i List.mem_cons_self)]
theorem ledM_sc (c : Gd) : ∀ (w : List Nat) {r : List Gd}, InW r.length w → ledM A w (rsc c r) = rsc c (ledM A w r)
  | [], r, hw => rfl
  | i :: w, r, hw => by
    rw [ledM_cons, ledM_cons, ledM_sc c w (fun k hk => hw k (List.mem_cons_of_mem _ hk)), mirM_sc (A i) c (by rw [ledM_length]; exact hw i List.mem_cons_self)]
def Eqv (n : Nat) (u v : List Nat) : Prop := ∀ r : List Gd, r.length = n → ledM A u r = ledM A v r
variable {A} {n : Nat}
theorem Eqv.rfl' (u : List Nat) : Eqv A n u u := fun _ _ => rfl
theorem Eqv.symm {u v : List Nat} (h : Eqv A n u v) : Eqv A n v u := fun r hr => (h r hr).symm
theorem Eqv.trans {u v w : List Nat} (h : Eqv A n u v) (h' : Eqv A n v w) : Eqv A n u w := fun r hr => (h r hr).trans (h' r hr)
theorem Eqv.app {u v u' v' : List Nat} (h : Eqv A n u u') (h' : Eqv A n v v') : Eqv A n (u ++ v) (u' ++ v') := fun r hr => by
  rw [ledM_append, ledM_append, h' r hr, h _ (by rw [ledM_length, hr])]
variable (h2 : ∀ i, A i i = (2, 0))
include h2
theorem Eqv.twice {s : Nat} (hs : s < n) : Eqv A n [s, s] [] := fun r hr => mirM_mirM (h2 s) r (by omega)
theorem eqv_back {w : List Nat} (hw : InW n w) : Eqv A n (w.reverse ++ w) [] := fun r hr => by
  rw [ledM_append]
  exact ledM_back h2 w r (fun i hi => by rw [hr]; exact hw i hi)
theorem eqv_back' {w : List Nat} (hw : InW n w) : Eqv A n (w ++ w.reverse) [] := by
  have := eqv_back h2 hw.rev
  rwa [List.reverse_reverse] at this
theorem Eqv.rev {u v : List Nat} (hu : InW n u) (hv : InW n v) (h : Eqv A n u v) : Eqv A n u.reverse v.reverse := by
  -- u⁻ ~ u⁻ v v⁻ ~ u⁻ u v⁻ ~ v⁻
  have a1 : Eqv A n (u.reverse ++ (v ++ v.reverse)) (u.reverse ++ []) := (Eqv.rfl' _).app (eqv_back' h2 hv)
  have a2 : Eqv A n ((u.reverse ++ v) ++ v.reverse) ((u.reverse ++ u) ++ v.reverse) := ((Eqv.rfl' _).app h.symm).app (Eqv.rfl' _)
  have a3 : Eqv A n ((u.reverse ++ u) ++ v.reverse) ([] ++ v.reverse) := (eqv_back h2 hu).app (Eqv.rfl' _)
  rw [List.append_nil, ← List.append_assoc] at a1
  exact a1.symm.trans (a2.trans a3)
theorem eqv_ss {w : List Nat} {s : Nat} (hs : s < n) : Eqv A n ((w ++ [s]) ++ [s]) w := by
  have := (Eqv.rfl' (A := A) (n := n) w).app (Eqv.twice h2 hs)
  rw [List.append_nil] at this
  simpa using this
end
theorem exists_min {α : Type} (P : α → Prop) (f : α → Nat) (h : ∃ x, P x) : ∃ x, P x ∧ ∀ y, P y → f x ≤ f y := by
  obtain ⟨x, hx⟩ := h
  have gen : ∀ k x, P x → f x = k → ∃ x, P x ∧ ∀ y, P y → f x ≤ f y := by
    intro k
    induction k using Nat.strongRecOn with
    | ind k ih =>
      intro x hx hk
      by_cases c : ∃ y, P y ∧ f y < f x
      · obtain ⟨y, hy, hl⟩ := c
        exact ih (f y) (by omega) y hy rfl
      · exact ⟨x, hx, fun y hy => Nat.not_lt.mp fun hl => c ⟨y, hy, hl⟩⟩
  exact gen _ x hx rfl
section
variable (A : Nat → Nat → Gd) (n : Nat)
def Red (w : List Nat) : Prop := InW n w ∧ ∀ u, InW n u → Eqv A n u w → w.length ≤ u.length
def NotDown (w : List Nat) (s : Nat) : Prop := ∀ u, InW n u → Eqv A n u (w ++ [s]) → w.length ≤ u.length
theorem red_exists {w : List Nat} (hw : InW n w) : ∃ u, Red A n u ∧ Eqv A n u w := by
  obtain ⟨u, ⟨h1, h3⟩, h4⟩ := exists_min (fun u => InW n u ∧ Eqv A n u w) List.length ⟨w, hw, Eqv.rfl' w⟩
  exact ⟨u, ⟨h1, fun v hv e => h4 v ⟨hv, e.trans h3⟩⟩, h3⟩
end
end GH
namespace GH
def sel (s t : Nat) : Bool → Nat := fun b => if b = true then s else t
def tnW (a b : Gd) : List Bool → Tn
  | [] => tn0
  | c :: l => if c = true then tnI b (tnW a b l) else tnJ a (tnW a b l)
def alt : Nat → List Bool
  | 0 => []
  | k + 1 => decide (k % 2 = 1) :: alt k
theorem alt_length : ∀ k, (alt k).length = k
  | 0 => rfl
  | k + 1 => by rw [alt, List.length_cons, alt_length k]
theorem alt_split {m : Nat} : ∀ {k : Nat}, m ≤ k → ∃ pre, alt k = pre ++ alt m
  | 0, h => ⟨[], by have : m = 0 := by omega
                    subst this; rfl⟩
  | k + 1, h => by
    by_cases c : m = k + 1
    · exact ⟨[], by rw [c]; rfl⟩
    · obtain ⟨pre, e⟩ := alt_split (m := m) (k := k) (by omega)
      exact ⟨decide (k % 2 = 1) :: pre, by rw [alt, e]; rfl⟩
theorem alt_last : ∀ k, ∃ x, alt (k + 1) = x ++ [false] ∧ x.length = k
  | 0 => ⟨[], rfl, rfl⟩
  | k + 1 => by
    obtain ⟨x, e, h⟩ := alt_last k
    exact ⟨decide ((k + 1) % 2 = 1) :: x, by rw [alt, e]; rfl, by simp [h]⟩
theorem alt_of : ∀ a : List Bool, (∀ x b y, a ≠ x ++ b :: b :: y) → (∀ x, a ≠ x ++ [true]) → a = alt a.length
  | [], _, _ => rfl
  | b :: a, h1, h2 => by
    have ih := alt_of a (fun x c y e => h1 (b :: x) c y (by rw [e]; rfl)) (fun x e => h2 (b :: x) (by rw [e]; rfl))
    cases a with
    | nil =>
      cases b with
      | true => exact absurd rfl (h2 [])
      | false => rfl
    | cons c a =>
      rw [List.length_cons] at ih ⊢
      have e1 : c = decide (a.length % 2 = 1) := by
        rw [alt] at ih
        exact (List.cons.inj ih).1
      have e2 : b ≠ c := fun e => h1 [] b a (by rw [e]; rfl)
      rw [List.length_cons, alt, ← ih]
      congr 1
      by_cases c1 : a.length % 2 = 1
      · have c2 : ¬ ((a.length + 1) % 2 = 1) := by omega
        simp only [c1, c2, decide_true, decide_false] at e1 ⊢
        cases b <;> simp_all
      · have c2 : (a.length + 1) % 2 = 1 := by omega
        simp only [c1, c2, decide_true, decide_false] at e1 ⊢
        cases b <;> simp_all
section
variable {A : Nat → Nat → Gd} {s t n : Nat} (hst : s ≠ t) (hs2 : A s s = (2, 0)) (ht2 : A t t = (2, 0))
include hst hs2 ht2
theorem led_forms {r : List Gd} (hs : s < r.length) (ht : t < r.length) : ∀ l : List Bool, ∃ R, ledM A (l.map (sel s t)) r = R ∧ R = bump s (ev (tnW (A s t) (A t s) l).p (sumL (A s) 0 r (0, 0)) (sumL (A t) 0 r (0, 0))) (bump t (ev (tnW (A s t) (A t s) l).q (sumL (A s) 0 r (0, 0)) (sumL (A t) 0 r (0, 0))) r) ∧
      sumL (A s) 0 R (0, 0) = ev (tnW (A s t) (A t s) l).x (sumL (A s) 0 r (0, 0)) (sumL (A t) 0 r (0, 0)) ∧ sumL (A t) 0 R (0, 0) = ev (tnW (A s t) (A t s) l).y (sumL (A s) 0 r (0, 0)) (sumL (A t) 0 r (0, 0)) := by
  generalize hx : sumL (A s) 0 r (0, 0) = x
  generalize hy : sumL (A t) 0 r (0, 0) = y
  intro l
  induction l with
  | nil =>
    refine ⟨r, rfl, ?_, ?_, ?_⟩
    · simp only [tnW, tn0, ev_zero]
      rw [bump_zero ht, bump_zero hs]
    · rw [hx]; simp [tnW, tn0, ev, gadd, gmul]
    · rw [hy]; simp [tnW, tn0, ev, gadd, gmul]
  | cons c l ih =>
    obtain ⟨R, h1, h2, h3, h4⟩ := ih
    have hRl : R.length = r.length := by rw [h2, bump_length, bump_length]
    cases c with
    | false =>
      have htn : tnW (A s t) (A t s) (false :: l) = tnJ (A s t) (tnW (A s t) (A t s) l) := rfl
      rw [htn]
      generalize tnW (A s t) (A t s) l = z at h2 h3 h4
      have e1 : mirM (A t) t R = bump t (ev (fneg z.y) x y) R := by rw [mir_bump, h4, ev_neg]
      refine ⟨mirM (A t) t R, ?_, ?_, ?_, ?_⟩
      · rw [List.map_cons, ledM_cons, h1]; rfl
      · rw [e1, h2, ← bump_comm hst, bump_bump _ _ ht, ← ev_add]; rfl
      · rw [e1, bump_sum (A s) _ (by omega), h3, ← ev_sc, ← ev_add]; rfl
      · rw [e1, bump_sum (A t) _ (by omega), h4, ht2, ev_neg, two_neg, ← ev_neg]; rfl
    | true =>
      have htn : tnW (A s t) (A t s) (true :: l) = tnI (A t s) (tnW (A s t) (A t s) l) := rfl
      rw [htn]
      generalize tnW (A s t) (A t s) l = z at h2 h3 h4
      have e2 : mirM (A s) s R = bump s (ev (fneg z.x) x y) R := by rw [mir_bump, h3, ev_neg]
      refine ⟨mirM (A s) s R, ?_, ?_, ?_, ?_⟩
      · rw [List.map_cons, ledM_cons, h1]; rfl
      · rw [e2, h2, bump_bump _ _ (by rw [bump_length]; exact hs), ← ev_add]; rfl
      · rw [e2, bump_sum (A s) _ (by omega), h3, hs2, ev_neg, two_neg, ← ev_neg]; rfl
      · rw [e2, bump_sum (A t) _ (by omega), h4, ← ev_sc, ← ev_add]; rfl
theorem eqv_forms (hs : s < n) (ht : t < n) {l l' : List Bool} (hp : (tnW (A s t) (A t s) l).p = (tnW (A s t) (A t s) l').p) (hq : (tnW (A s t) (A t s) l).q = (tnW (A s t) (A t s) l').q) : Eqv A n (l.map (sel s t)) (l'.map (sel s t)) := fun r hr => by
  obtain ⟨R, h1, h2, _⟩ := led_forms hst hs2 ht2 (r := r) (by omega) (by omega) l
  obtain ⟨R', h1', h2', _⟩ := led_forms hst hs2 ht2 (r := r) (by omega) (by omega) l'
  rw [h1, h1', h2, h2', hp, hq]
end
theorem braid_forms (b : Bool) {m : Nat} (h : 2 ≤ m ∧ m ≤ 6) : (tnW (pullT (m : Int) b) (pullT (m : Int) (!b)) (alt m)).p = (tnW (pullT (m : Int) b) (pullT (m : Int) (!b)) ((alt m).map (!·))).p ∧ (tnW (pullT (m : Int) b) (pullT (m : Int) (!b)) (alt m)).q = (tnW (pullT (m : Int) b) (pullT (m : Int) (!b)) ((alt m).map (!·))).q := by
  rcases (by omega : m = 2 ∨ m = 3 ∨ m = 4 ∨ m = 5 ∨ m = 6) with e | e | e | e | e <;> subst e <;> cases b <;> decide +kernel
theorem simM_get {n i k : Nat} (h : k < n) : (simM n i).getD k (0, 0) = if k = i then (1, 0) else (0, 0) := by
  unfold simM
  simp [List.getD_eq_getElem?_getD, h]
def comb (n s t : Nat) (p q : Gd) : List Gd := radd (rsc p (simM n s)) (rsc q (simM n t))
theorem comb_length (n s t : Nat) (p q : Gd) : (comb n s t p q).length = n := by
  unfold comb
  rw [radd_length (by rw [rsc_length, rsc_length, simM_length, simM_length]), rsc_length, simM_length]
theorem gmul_one (c : Gd) : gmul c (1, 0) = c := by simp [gmul]
theorem gmul_zero (c : Gd) : gmul c (0, 0) = (0, 0) := by simp [gmul]
theorem comb_get {n s t k : Nat} (p q : Gd) (hk : k < n) : (comb n s t p q).getD k (0, 0) = gadd (if k = s then p else (0, 0)) (if k = t then q else (0, 0)) := by
  unfold comb
  rw [radd_get (by rw [rsc_length, rsc_length, simM_length, simM_length]), rsc_get, rsc_get, simM_get hk, simM_get hk]
  by_cases h1 : k = s <;> by_cases h2 : k = t <;> simp only [h1, h2, if_true, if_false, gmul_one, gmul_zero] <;> split <;> simp [gmul_one, gmul_zero]
theorem comb_sum (A : Nat → Gd) {n s t : Nat} (p q : Gd) (hs : s < n) (ht : t < n) : sumL A 0 (comb n s t p q) (0, 0) = gadd (gmul p (A s)) (gmul q (A t)) := by
  unfold comb
  rw [sumL_add A _ _ 0 (by rw [rsc_length, rsc_length, simM_length, simM_length]), sumL_sc, sumL_sc, sumL_sim A n s hs, sumL_sim A n t ht]
theorem comb_s {A : Nat → Nat → Gd} {n s t : Nat} (hst : s ≠ t) (hs2 : A s s = (2, 0)) (p q : Gd) (hs : s < n) (ht : t < n) : mirM (A s) s (comb n s t p q) = comb n s t (gneg (gadd p (gmul (A s t) q))) q := by
  apply row_ext (by rw [mirM_length, comb_length, comb_length])
  intro k hk
  rw [mirM_length, comb_length] at hk
  rw [mirM_get (A s) (by rw [comb_length]; exact hs), comb_sum (A s) p q hs ht, comb_get p q hk, comb_get _ q hk, comb_get p q hs, hs2]
  by_cases c : k = s
  · subst c
    simp only [if_true, hst, if_false, gadd_zero, gadd, gneg, gmul, Prod.mk.injEq]
    constructor <;> grind
  · simp only [c, if_false]
theorem comb_t {A : Nat → Nat → Gd} {n s t : Nat} (hst : s ≠ t) (ht2 : A t t = (2, 0)) (p q : Gd) (hs : s < n) (ht : t < n) : mirM (A t) t (comb n s t p q) = comb n s t p (gneg (gadd q (gmul (A t s) p))) := by
  apply row_ext (by rw [mirM_length, comb_length, comb_length])
  intro k hk
  rw [mirM_length, comb_length] at hk
  rw [mirM_get (A t) (by rw [comb_length]; exact ht), comb_sum (A t) p q hs ht, comb_get p q hk, comb_get p _ hk, comb_get p q ht, ht2]
  by_cases c : k = t
  · subst c
    simp only [if_true, Ne.symm hst, if_false, zero_gadd, gadd, gneg, gmul, Prod.mk.injEq]
    constructor <;> grind
  · simp only [c, if_false]
def pqA (a b : Gd) : Nat → Gd × Gd
  | 0 => ((1, 0), (0, 0))
  | k + 1 => if k % 2 = 1 then (gneg (gadd (pqA a b k).1 (gmul a (pqA a b k).2)), (pqA a b k).2) else ((pqA a b k).1, gneg (gadd (pqA a b k).2 (gmul b (pqA a b k).1)))
theorem led_alt {A : Nat → Nat → Gd} {n s t : Nat} (hst : s ≠ t) (hs2 : A s s = (2, 0)) (ht2 : A t t = (2, 0)) (hs : s < n) (ht : t < n) : ∀ k, ledM A ((alt k).map (sel s t)) (simM n s) = comb n s t (pqA (A s t) (A t s) k).1 (pqA (A s t) (A t s) k).2
  | 0 => by
    apply row_ext (by rw [ledM_length, comb_length, simM_length])
    intro k hk
    rw [ledM_length, simM_length] at hk
    rw [comb_get _ _ hk]
    show (simM n s).getD k (0, 0) = _
    rw [simM_get hk]
    by_cases c : k = s <;> simp [pqA, c, gadd]
  | k + 1 => by
    have ih := led_alt hst hs2 ht2 hs ht k
    rw [alt, List.map_cons, ledM_cons, ih, pqA]
    by_cases c : k % 2 = 1
    · have e : sel s t (decide (k % 2 = 1)) = s := by simp [sel, c]
      rw [e, if_pos c, comb_s hst hs2 _ _ hs ht]
    · have e : sel s t (decide (k % 2 = 1)) = t := by simp [sel, c]
      rw [e, if_neg c, comb_t hst ht2 _ _ hs ht]
def PQ (x : Gd × Gd) : Prop := nn x.1 ∧ nn x.2 ∧ (x.2 = (0, 0) → x.1 = (1, 0)) ∧ (x.1 = (0, 0) → x.2 = (1, 0))
theorem pq_fin (b : Bool) {m : Nat} (h : 2 ≤ m ∧ m ≤ 6) {k : Nat} (hk : k < m) : PQ (pqA (pullT (m : Int) b) (pullT (m : Int) (!b)) k) := by
  have key : ∀ m : Fin 7, 2 ≤ m.1 → ∀ b : Bool, ∀ k : Fin 7, k.1 < m.1 → nnb (pqA (pullT (m.1 : Int) b) (pullT (m.1 : Int) (!b)) k.1).1 = true ∧ nnb (pqA (pullT (m.1 : Int) b) (pullT (m.1 : Int) (!b)) k.1).2 = true ∧
      ((pqA (pullT (m.1 : Int) b) (pullT (m.1 : Int) (!b)) k.1).2 = (0, 0) → (pqA (pullT (m.1 : Int) b) (pullT (m.1 : Int) (!b)) k.1).1 = (1, 0)) ∧ ((pqA (pullT (m.1 : Int) b) (pullT (m.1 : Int) (!b)) k.1).1 = (0, 0) → (pqA (pullT (m.1 : Int) b) (pullT (m.1 : Int) (!b)) k.1).2 = (1, 0)) := by decide +kernel
  have := key ⟨m, by omega⟩ h.1 b ⟨k, by omega⟩ hk
  exact ⟨nn_of_b this.1, nn_of_b this.2.1, this.2.2.1, this.2.2.2⟩
theorem pq_never : ∀ k : Nat, pqA (-2, 0) (-2, 0) k = if k % 2 = 1 then (((k : Int), 0), ((k : Int) + 1, 0)) else (((k : Int) + 1, 0), ((k : Int), 0))
  | 0 => rfl
  | k + 1 => by
    rw [pqA, pq_never k]
    by_cases c : k % 2 = 1
    · have c2 : ¬ ((k + 1) % 2 = 1) := by omega
      rw [if_pos c, if_pos c, if_neg c2]
      refine Prod.ext (Prod.ext ?_ ?_) (Prod.ext ?_ ?_) <;> simp only [gneg, gadd, gmul] <;> grind
    · have c2 : (k + 1) % 2 = 1 := by omega
      rw [if_neg c, if_neg c, if_pos c2]
      refine Prod.ext (Prod.ext ?_ ?_) (Prod.ext ?_ ?_) <;> simp only [gneg, gadd, gmul] <;> grind
theorem pq_never_nn (k : Nat) : PQ (pqA (-2, 0) (-2, 0) k) := by
  rw [pq_never]
  split
  · refine ⟨nn_nat _ (by omega), nn_nat _ (by omega), fun e => ?_, fun e => ?_⟩
    · have := congrArg Prod.fst e; simp only at this; omega
    · have := congrArg Prod.fst e; simp only at this; omega
  · refine ⟨nn_nat _ (by omega), nn_nat _ (by omega), fun e => ?_, fun e => ?_⟩
    · have := congrArg Prod.fst e
      simp only at this ⊢
      rw [this]; rfl
    · have := congrArg Prod.fst e; simp only at this; omega
theorem swap_fin (b : Bool) {m : Nat} (h : 2 ≤ m ∧ m ≤ 6) {k : Nat} (hk : k < m) :
    ((pqA (pullT (m : Int) b) (pullT (m : Int) (!b)) k).2 = (0, 0) → (tnW (pullT (m : Int) b) (pullT (m : Int) (!b)) (alt k ++ [true])).p = (tnW (pullT (m : Int) b) (pullT (m : Int) (!b)) (true :: alt k)).p ∧ (tnW (pullT (m : Int) b) (pullT (m : Int) (!b)) (alt k ++ [true])).q = (tnW (pullT (m : Int) b) (pullT (m : Int) (!b)) (true :: alt k)).q) ∧
    ((pqA (pullT (m : Int) b) (pullT (m : Int) (!b)) k).1 = (0, 0) → (tnW (pullT (m : Int) b) (pullT (m : Int) (!b)) (alt k ++ [true])).p = (tnW (pullT (m : Int) b) (pullT (m : Int) (!b)) (false :: alt k)).p ∧ (tnW (pullT (m : Int) b) (pullT (m : Int) (!b)) (alt k ++ [true])).q = (tnW (pullT (m : Int) b) (pullT (m : Int) (!b)) (false :: alt k)).q) := by
  have key : ∀ m : Fin 7, 2 ≤ m.1 → ∀ b : Bool, ∀ k : Fin 7, k.1 < m.1 →
    ((pqA (pullT (m.1 : Int) b) (pullT (m.1 : Int) (!b)) k.1).2 = (0, 0) → (tnW (pullT (m.1 : Int) b) (pullT (m.1 : Int) (!b)) (alt k.1 ++ [true])).p = (tnW (pullT (m.1 : Int) b) (pullT (m.1 : Int) (!b)) (true :: alt k.1)).p ∧ (tnW (pullT (m.1 : Int) b) (pullT (m.1 : Int) (!b)) (alt k.1 ++ [true])).q = (tnW (pullT (m.1 : Int) b) (pullT (m.1 : Int) (!b)) (true :: alt k.1)).q) ∧
    ((pqA (pullT (m.1 : Int) b) (pullT (m.1 : Int) (!b)) k.1).1 = (0, 0) → (tnW (pullT (m.1 : Int) b) (pullT (m.1 : Int) (!b)) (alt k.1 ++ [true])).p = (tnW (pullT (m.1 : Int) b) (pullT (m.1 : Int) (!b)) (false :: alt k.1)).p ∧ (tnW (pullT (m.1 : Int) b) (pullT (m.1 : Int) (!b)) (alt k.1 ++ [true])).q = (tnW (pullT (m.1 : Int) b) (pullT (m.1 : Int) (!b)) (false :: alt k.1)).q) := by decide +kernel
  exact key ⟨m, by omega⟩ h.1 b ⟨k, by omega⟩ hk
theorem pulls_ij (ts : List T3) {i j : Nat} (hij : i ≠ j) : pulls ts i j = pullT (turnM ts i j) (decide (i < j)) ∧ pulls ts j i = pullT (turnM ts i j) (!decide (i < j)) := by
  unfold pulls pullM
  have h1 : ¬ ((i : Int) = (j : Int)) := by omega
  have h2 : ¬ ((j : Int) = (i : Int)) := by omega
  rw [if_neg h1, if_neg h2, turnM_comm ts j i]
  refine ⟨by congr 1; simp, ?_⟩
  congr 1
  by_cases c : i < j
  · have : ¬ ((j : Int) < (i : Int)) := by omega
    simp [c, this]
  · have : (j : Int) < (i : Int) := by omega
    simp [c, this]
def NNr (r : List Gd) : Prop := ∀ k, nn (r.getD k (0, 0))
theorem split_off {ts : List T3} (hg : GoodT ts) {n : Nat} (w : List Nat) (s : Nat) (hs : s < n) (hw : Red (pulls ts) n w) (hd : NotDown (pulls ts) n w s) (hnil : w ≠ []) : ∃ (v : List Nat) (t : Nat) (x : Gd × Gd), v.length < w.length ∧ t < n ∧ t ≠ s ∧ Red (pulls ts) n v ∧ NotDown (pulls ts) n v s ∧ NotDown (pulls ts) n v t ∧ PQ x ∧
    ledM (pulls ts) w (simM n s) = radd (rsc x.1 (ledM (pulls ts) v (simM n s))) (rsc x.2 (ledM (pulls ts) v (simM n t))) ∧
    ∃ b : List Nat, InW n b ∧ Eqv (pulls ts) n (v ++ b) w ∧ (x.2 = (0, 0) → Eqv (pulls ts) n (b ++ [s]) (s :: b)) ∧ (x.1 = (0, 0) → Eqv (pulls ts) n (b ++ [s]) (t :: b)) := by
  have h2 := pulls_self ts
  obtain ⟨w', t, rfl⟩ : ∃ w' t, w = w' ++ [t] := ⟨w.dropLast, w.getLast hnil, (List.dropLast_concat_getLast hnil).symm⟩
  have ht : t < n := hw.1 t (by simp)
  have hw' : InW n w' := hw.1.left
  have hst : s ≠ t := by
    intro e
    subst e
    have := hd w' hw' (eqv_ss h2 hs).symm
    simp at this
    omega
  have hsel : ∀ b, sel s t b < n := fun b => by cases b <;> simp [sel] <;> assumption
  have hmapW : ∀ l : List Bool, InW n (l.map (sel s t)) := fun l i hi => by
    obtain ⟨b, _, rfl⟩ := List.mem_map.mp hi
    exact hsel b
  obtain ⟨⟨v, a⟩, ⟨hv, he, hl⟩, hmin⟩ := exists_min (fun p : List Nat × List Bool => InW n p.1 ∧ Eqv (pulls ts) n (p.1 ++ p.2.map (sel s t)) (w' ++ [t]) ∧ p.1.length + p.2.length = (w' ++ [t]).length) (fun p => p.1.length) ⟨(w', [false]), hw', Eqv.rfl' _, by simp⟩
  simp only at hv he hl hmin
  have hv1 : v.length ≤ w'.length := hmin (w', [false]) ⟨hw', Eqv.rfl' _, by simp⟩
  have hwl : (w' ++ [t]).length = w'.length + 1 := by simp
  have vred : Red (pulls ts) n v := ⟨hv, fun u hu e => by
    have := hw.2 (u ++ a.map (sel s t)) (hu.app (hmapW a)) ((e.app (Eqv.rfl' _)).trans he)
    simp only [List.length_append, List.length_map, List.length_cons, List.length_nil] at this hl
    omega⟩
  have vnd : ∀ b, NotDown (pulls ts) n v (sel s t b) := fun b u hu e => by
    apply Nat.not_lt.mp
    intro hlt
    have e2 : Eqv (pulls ts) n (u ++ (b :: a).map (sel s t)) (w' ++ [t]) := by
      have e3 : Eqv (pulls ts) n ((u ++ [sel s t b]) ++ a.map (sel s t)) (((v ++ [sel s t b]) ++ [sel s t b]) ++ a.map (sel s t)) := (e.app (Eqv.rfl' _)).app (Eqv.rfl' _)
      have e4 : Eqv (pulls ts) n (((v ++ [sel s t b]) ++ [sel s t b]) ++ a.map (sel s t)) (v ++ a.map (sel s t)) := (eqv_ss h2 (hsel b)).app (Eqv.rfl' _)
      have e5 := e3.trans (e4.trans he)
      have : (u ++ [sel s t b]) ++ a.map (sel s t) = u ++ (b :: a).map (sel s t) := by simp
      rwa [this] at e5
    have l1 := hw.2 (u ++ (b :: a).map (sel s t)) (hu.app (hmapW _)) e2
    simp only [List.length_append, List.length_map, List.length_cons, List.length_nil] at l1 hl
    have := hmin (u, b :: a) ⟨hu, e2, by simp only [List.length_append, List.length_cons, List.length_nil]; omega⟩
    simp only at this
    omega
  -- the signs of the two mirrors stand in turn
  have shorter : ∀ u : List Nat, InW n u → Eqv (pulls ts) n (u ++ [s]) (w' ++ [t]) → (w' ++ [t]).length ≤ u.length := fun u hu e => by
    apply hd u hu
    exact (eqv_ss h2 hs).symm.trans (e.app (Eqv.rfl' _))
  have a1 : ∀ x b y, a ≠ x ++ b :: b :: y := fun x b y e => by
    subst e
    have e1 : Eqv (pulls ts) n (v ++ (x ++ y).map (sel s t)) (v ++ (x ++ b :: b :: y).map (sel s t)) := by
      refine (Eqv.rfl' v).app ?_
      rw [List.map_append, List.map_append]
      refine (Eqv.rfl' _).app ?_
      have := (Eqv.twice (n := n) h2 (hsel b)).symm.app (Eqv.rfl' (A := pulls ts) (y.map (sel s t)))
      simpa using this
    have := hw.2 (v ++ (x ++ y).map (sel s t)) (hv.app (hmapW _)) (e1.trans he)
    simp only [List.length_append, List.length_map, List.length_cons] at this hl
    omega
  have a2 : ∀ x, a ≠ x ++ [true] := fun x e => by
    subst e
    have := shorter (v ++ x.map (sel s t)) (hv.app (hmapW _)) (by simpa [sel] using he)
    simp only [List.length_append, List.length_map, List.length_cons, List.length_nil] at this hl
    omega
  have ha := alt_of a a1 a2
  obtain ⟨p1, p2⟩ := pulls_ij ts hst
  have gt := turnM_good hg (s : Int) (t : Int)
  have hpq : PQ (pqA (pulls ts s t) (pulls ts t s) a.length) ∧ ((pqA (pulls ts s t) (pulls ts t s) a.length).2 = (0, 0) → Eqv (pulls ts) n (a.map (sel s t) ++ [s]) (s :: a.map (sel s t))) ∧ ((pqA (pulls ts s t) (pulls ts t s) a.length).1 = (0, 0) → Eqv (pulls ts) n (a.map (sel s t) ++ [s]) (t :: a.map (sel s t))) := by
    rcases gt with g0 | gt
    · rw [g0] at p1 p2
      have q1 : pullT 0 (decide (s < t)) = (-2, 0) := by cases decide (s < t) <;> rfl
      have q2 : pullT 0 (!decide (s < t)) = (-2, 0) := by cases decide (s < t) <;> rfl
      rw [p1, p2, q1, q2]
      refine ⟨pq_never_nn _, fun e => ?_, fun e => ?_⟩
      · rw [pq_never] at e
        have hk0 : a.length = 0 := by
          split at e
          · have := congrArg Prod.fst e; simp only at this; omega
          · have := congrArg Prod.fst e; simp only at this; omega
        have : a = [] := List.length_eq_zero_iff.mp hk0
        rw [this]
        exact Eqv.rfl' _
      · rw [pq_never] at e
        exfalso
        split at e
        · have := congrArg Prod.fst e; simp only at this; omega
        · have := congrArg Prod.fst e; simp only at this; omega
    · obtain ⟨m, em⟩ : ∃ m : Nat, turnM ts s t = (m : Int) := ⟨(turnM ts s t).toNat, by omega⟩
      rw [em] at p1 p2 gt
      have hm : 2 ≤ m ∧ m ≤ 6 := by omega
      have hkm : a.length < m := by
       apply Nat.not_le.mp
       intro hle
       obtain ⟨pre, epre⟩ := alt_split hle
       obtain ⟨b1, b2⟩ := braid_forms (decide (s < t)) hm
       rw [← p1, ← p2] at b1 b2
       have br := eqv_forms (n := n) hst (h2 s) (h2 t) hs ht b1 b2
       obtain ⟨y, ey, hy⟩ := alt_last (m - 1)
       have em1 : m - 1 + 1 = m := by omega
       rw [em1] at ey
       have ey2 : (alt m).map (!·) = y.map (!·) ++ [true] := by rw [ey]; simp
       rw [ey2, List.map_append] at br
       have e1 : Eqv (pulls ts) n (v ++ (pre.map (sel s t) ++ ((y.map (!·)).map (sel s t) ++ [s]))) (w' ++ [t]) := by
         have e2 : a.map (sel s t) = pre.map (sel s t) ++ (alt m).map (sel s t) := by rw [ha, epre, List.map_append]
         rw [e2] at he
         refine Eqv.trans ?_ he
         refine (Eqv.rfl' v).app ((Eqv.rfl' _).app ?_)
         exact br.symm
       have := shorter (v ++ (pre.map (sel s t) ++ (y.map (!·)).map (sel s t))) (hv.app ((hmapW _).app (hmapW _))) (by simpa using e1)
       have el : a.length = pre.length + m := by
         have := congrArg List.length epre
         rw [List.length_append, alt_length, alt_length] at this
         exact this
       simp only [List.length_append, List.length_map, List.length_cons, List.length_nil] at this hl
       omega
      obtain ⟨w1, w2⟩ := swap_fin (decide (s < t)) hm hkm
      rw [p1, p2]
      refine ⟨pq_fin _ hm hkm, fun e => ?_, fun e => ?_⟩
      · obtain ⟨f1, f2⟩ := w1 e
        rw [← p1, ← p2, ← ha] at f1 f2
        have := eqv_forms (n := n) hst (h2 s) (h2 t) hs ht f1 f2
        simpa [sel] using this
      · obtain ⟨f1, f2⟩ := w2 e
        rw [← p1, ← p2, ← ha] at f1 f2
        have := eqv_forms (n := n) hst (h2 s) (h2 t) hs ht f1 f2
        simpa [sel] using this
  -- so the row is put together of two rows above
  have le := led_alt hst (h2 s) (h2 t) hs ht a.length
  rw [← ha] at le
  have e := he (simM n s) (simM_length n s)
  rw [ledM_append, le] at e
  have hlen : (rsc (pqA (pulls ts s t) (pulls ts t s) a.length).1 (simM n s)).length = (rsc (pqA (pulls ts s t) (pulls ts t s) a.length).2 (simM n t)).length := by rw [rsc_length, rsc_length, simM_length, simM_length]
  unfold comb at e
  rw [ledM_add _ _ hlen (by rw [rsc_length, simM_length]; exact hv), ledM_sc _ _ _ (by rw [simM_length]; exact hv), ledM_sc _ _ _ (by rw [simM_length]; exact hv)] at e
  refine ⟨v, t, _, by omega, ht, Ne.symm hst, vred, by have := vnd true; simpa [sel] using this, by have := vnd false; simpa [sel] using this, hpq.1, e.symm, a.map (sel s t), hmapW a, he, hpq.2.1, hpq.2.2⟩
theorem above_all {ts : List T3} (hg : GoodT ts) {n : Nat} : ∀ (k : Nat) (w : List Nat) (s : Nat), w.length = k → s < n → Red (pulls ts) n w → NotDown (pulls ts) n w s → NNr (ledM (pulls ts) w (simM n s)) := by
  intro k
  induction k using Nat.strongRecOn with
  | ind k ih =>
    intro w s hk hs hw hd
    by_cases hnil : w = []
    · subst hnil
      intro j
      show nn ((simM n s).getD j (0, 0))
      by_cases hj : j < n
      · rw [simM_get hj]
        split
        · exact nn_nat 1 (by decide)
        · exact .inl rfl
      · left
        simp [List.getD_eq_getElem?_getD, List.getElem?_eq_none (show (simM n s).length ≤ j by rw [simM_length]; omega)]
    · obtain ⟨v, t, x, hl, ht, _, vr, vs, vt, hx, e, _⟩ := split_off hg w s hs hw hd hnil
      have ps := ih v.length (by omega) v s rfl hs vr vs
      have pt := ih v.length (by omega) v t rfl ht vr vt
      intro j
      rw [e, radd_get (by rw [rsc_length, rsc_length, ledM_length, ledM_length, simM_length, simM_length]), rsc_get, rsc_get]
      exact nn_add (nn_mul hx.1 (ps j)) (nn_mul hx.2.1 (pt j))
end GH
namespace GH
def NPr (r : List Gd) : Prop := ∀ k, nn (gneg (r.getD k (0, 0)))
def hasG (s : Int) (r : List Gd) : Bool := r.any fun x => decide (sgnG x = s)
theorem hasG_get {s : Int} {r : List Gd} (h : hasG s r = true) : ∃ k, k < r.length ∧ sgnG (r.getD k (0, 0)) = s := by
  unfold hasG at h
  rw [List.any_eq_true] at h
  obtain ⟨x, hx, e⟩ := h
  obtain ⟨k, hk, ek⟩ := List.getElem_of_mem hx
  refine ⟨k, hk, ?_⟩
  simp only [List.getD_eq_getElem?_getD, List.getElem?_eq_getElem hk, Option.getD_some, ek]
  simpa using e
theorem hasG_of {s : Int} {r : List Gd} {k : Nat} (hk : k < r.length) (h : sgnG (r.getD k (0, 0)) = s) : hasG s r = true := by
  unfold hasG
  rw [List.any_eq_true]
  refine ⟨r[k], List.getElem_mem hk, ?_⟩
  simp only [List.getD_eq_getElem?_getD, List.getElem?_eq_getElem hk, Option.getD_some] at h
  simpa using h
theorem NNr.no {r : List Gd} (h : NNr r) : hasG (-1) r = false := by
  apply Bool.eq_false_iff.mpr
  intro e
  obtain ⟨k, _, hk⟩ := hasG_get e
  exact sgn_nn (h k) hk
theorem NPr.no {r : List Gd} (h : NPr r) : hasG 1 r = false := by
  apply Bool.eq_false_iff.mpr
  intro e
  obtain ⟨k, _, hk⟩ := hasG_get e
  exact sgn_np (h k) hk
def Nz (r : List Gd) : Prop := ∃ k, k < r.length ∧ r.getD k (0, 0) ≠ (0, 0)
theorem NNr.yes {r : List Gd} (h : NNr r) (hz : Nz r) : hasG 1 r = true := by
  obtain ⟨k, hk, e⟩ := hz
  refine hasG_of hk ?_
  rcases h k with c | c
  · exact absurd c e
  · exact M02.sgn_pos c
theorem NPr.yes {r : List Gd} (h : NPr r) (hz : Nz r) : hasG (-1) r = true := by
  obtain ⟨k, hk, e⟩ := hz
  refine hasG_of hk ?_
  rcases h k with c | c
  · exact absurd (by have := congrArg gneg c; rwa [gneg_gneg] at this) e
  · have := M02.sgn_pos c
    simp only [gneg] at this
    rw [M02.sgn_opp] at this
    unfold sgnG
    omega
theorem NNr.notP {r : List Gd} (h : NNr r) (hz : Nz r) : ¬ NPr r := fun h' => by
  obtain ⟨k, _, e⟩ := hz
  exact e (nn_both (h k) (h' k))
section
variable {ts : List T3} {n : Nat}
theorem led_zero {w : List Nat} {r : List Gd} (hw : InW r.length w) (hz : ∀ k, r.getD k (0, 0) = (0, 0)) : ∀ k, (ledM (pulls ts) w r).getD k (0, 0) = (0, 0) := by
  have e : r = rsc (0, 0) r := row_ext (by rw [rsc_length]) fun k _ => by rw [rsc_get, hz]; rfl
  intro k
  rw [e, ledM_sc _ _ _ hw, rsc_get]
  simp [gmul]
theorem led_nz {w : List Nat} (hw : InW n w) {s : Nat} (hs : s < n) : Nz (ledM (pulls ts) w (simM n s)) := by
  apply Classical.byContradiction
  intro hc
  have hz : ∀ k, (ledM (pulls ts) w (simM n s)).getD k (0, 0) = (0, 0) := fun k => by
    by_cases hk : k < (ledM (pulls ts) w (simM n s)).length
    · exact Classical.byContradiction fun e => hc ⟨k, hk, e⟩
    · simp [List.getD_eq_getElem?_getD, List.getElem?_eq_none (Nat.not_lt.mp hk)]
  have h1 := led_zero (ts := ts) (w := w.reverse) (by rw [ledM_length, simM_length]; exact hw.rev) hz s
  rw [ledM_back (pulls_self ts) w (simM n s) (fun i hi => by rw [simM_length]; exact hw i hi), simM_get hs, if_pos rfl] at h1
  cases h1
theorem led_neg {w : List Nat} {s : Nat} (hw : InW n w) (hs : s < n) (k : Nat) : (ledM (pulls ts) (w ++ [s]) (simM n s)).getD k (0, 0) = gneg ((ledM (pulls ts) w (simM n s)).getD k (0, 0)) := by
  have e : mirM (pulls ts s) s (simM n s) = rsc (-1, 0) (simM n s) := by
    apply row_ext (by rw [mirM_length, rsc_length])
    intro j hj
    rw [mirM_length, simM_length] at hj
    rw [mirM_get _ (by rw [simM_length]; exact hs), rsc_get, sumL_sim _ n s hs, pulls_self, simM_get hs, simM_get hj]
    by_cases c : j = s
    · simp [c, gadd, gneg, gmul]
    · simp [c, gmul]
  rw [ledM_append, ledM_cons]
  show (ledM (pulls ts) w (mirM (pulls ts s) s (simM n s))).getD k (0, 0) = _
  rw [e, ledM_sc _ _ _ (by rw [simM_length]; exact hw), rsc_get]
  simp [gmul, gneg]
def Lth (ts : List T3) (n : Nat) (w : List Nat) (l : Nat) : Prop := ∃ u, Red (pulls ts) n u ∧ Eqv (pulls ts) n u w ∧ u.length = l
theorem Lth.ex {w : List Nat} (hw : InW n w) : ∃ l, Lth ts n w l := by
  obtain ⟨u, h1, h2⟩ := red_exists (pulls ts) n hw
  exact ⟨_, u, h1, h2, rfl⟩
theorem Lth.le {w u : List Nat} {l : Nat} (h : Lth ts n w l) (hu : InW n u) (e : Eqv (pulls ts) n u w) : l ≤ u.length := by
  obtain ⟨v, h1, h2, rfl⟩ := h
  exact h1.2 u hu (e.trans h2.symm)
theorem Lth.cong {w w' : List Nat} {l : Nat} (h : Lth ts n w l) (e : Eqv (pulls ts) n w w') : Lth ts n w' l := by
  obtain ⟨v, h1, h2, h3⟩ := h
  exact ⟨v, h1, h2.trans e, h3⟩
theorem Lth.uniq {w : List Nat} {l l' : Nat} (h : Lth ts n w l) (h' : Lth ts n w l') : l = l' := by
  obtain ⟨v, h1, h2, rfl⟩ := h
  obtain ⟨v', h1', h2', rfl⟩ := h'
  have a := h1.2 v' h1'.1 (h2'.trans h2.symm)
  have b := h1'.2 v h1.1 (h2.trans h2'.symm)
  omega
theorem Lth.nil : Lth ts n [] 0 := ⟨[], ⟨(fun i hi => by cases hi), fun u _ _ => Nat.zero_le _⟩, Eqv.rfl' _, rfl⟩
theorem Lth.zero {w : List Nat} (h : Lth ts n w 0) : Eqv (pulls ts) n w [] := by
  obtain ⟨v, h1, h2, h3⟩ := h
  have : v = [] := List.length_eq_zero_iff.mp h3
  subst this
  exact h2.symm
theorem Lth.rev {w : List Nat} {l : Nat} (hw : InW n w) (h : Lth ts n w l) : Lth ts n w.reverse l := by
  obtain ⟨l', h'⟩ := Lth.ex (ts := ts) hw.rev
  obtain ⟨u, u1, u2, u3⟩ := h
  obtain ⟨u', v1, v2, v3⟩ := h'
  have a : l' ≤ l := by
    have := v1.2 u.reverse u1.1.rev ((Eqv.rev (pulls_self ts) u1.1 hw u2).trans v2.symm)
    rw [List.length_reverse] at this
    omega
  have b : l ≤ l' := by
    have e := Eqv.rev (pulls_self ts) v1.1 hw.rev v2
    rw [List.reverse_reverse] at e
    have := u1.2 u'.reverse v1.1.rev (e.trans u2.symm)
    rw [List.length_reverse] at this
    omega
  have : l' = l := by omega
  subst this
  exact ⟨u', v1, v2, v3⟩
variable (hg : GoodT ts)
include hg
theorem root_step {w : List Nat} (hw : InW n w) {s : Nat} (hs : s < n) {l : Nat} (hl : Lth ts n w l) :
    (NNr (ledM (pulls ts) w (simM n s)) ∧ Lth ts n (w ++ [s]) (l + 1)) ∨ (NPr (ledM (pulls ts) w (simM n s)) ∧ 1 ≤ l ∧ Lth ts n (w ++ [s]) (l - 1)) := by
  have h2 := pulls_self ts
  obtain ⟨u, u1, u2, rfl⟩ := hl
  have eu := u2 (simM n s) (simM_length n s)
  obtain ⟨x, x1, x2⟩ := red_exists (pulls ts) n (u1.1.app (InW.one hs))
  have hx := x1.2 (u ++ [s]) (u1.1.app (InW.one hs)) x2.symm
  have xs : Eqv (pulls ts) n (x ++ [s]) u := (x2.app (Eqv.rfl' _)).trans (eqv_ss h2 hs)
  have hux := u1.2 (x ++ [s]) (x1.1.app (InW.one hs)) xs
  rw [List.length_append, List.length_singleton] at hx hux
  have ex := x2 (simM n s) (simM_length n s)
  have neg : ∀ k, (ledM (pulls ts) x (simM n s)).getD k (0, 0) = gneg ((ledM (pulls ts) u (simM n s)).getD k (0, 0)) := fun k => by rw [ex, led_neg u1.1 hs]
  have ew : Eqv (pulls ts) n x (w ++ [s]) := x2.trans (u2.app (Eqv.rfl' _))
  -- x isn't longer: then the row is below
  have down : x.length ≤ u.length → NPr (ledM (pulls ts) u (simM n s)) := fun h => by
    have nd : NotDown (pulls ts) n x s := fun y hy e => by
      have := u1.2 y hy (e.trans xs)
      omega
    have := above_all hg x.length x s rfl hs x1 nd
    intro k
    rw [← neg k]
    exact this k
  -- x isn't shorter: then the row is above
  have up : u.length ≤ x.length → NNr (ledM (pulls ts) u (simM n s)) := fun h => by
    have nd : NotDown (pulls ts) n u s := fun y hy e => by
      have := x1.2 y hy (e.trans x2.symm)
      omega
    exact above_all hg u.length u s rfl hs u1 nd
  rw [← eu]
  rcases Nat.lt_trichotomy x.length u.length with c | c | c
  · right
    refine ⟨down (by omega), by omega, x, x1, ew, by omega⟩
  · exact absurd (down (by omega)) ((up (by omega)).notP (led_nz u1.1 hs))
  · left
    exact ⟨up (by omega), x, x1, ew, by omega⟩
theorem root_one {w : List Nat} (hw : InW n w) {s : Nat} (hs : s < n) : NNr (ledM (pulls ts) w (simM n s)) ∨ NPr (ledM (pulls ts) w (simM n s)) := by
  obtain ⟨l, hl⟩ := Lth.ex (ts := ts) hw
  rcases root_step hg hw hs hl with h | h
  · exact .inl h.1
  · exact .inr h.1
theorem some_down {w : List Nat} (hw : InW n w) {l : Nat} (hl : Lth ts n w l) (h : 1 ≤ l) : ∃ s, s < n ∧ NPr (ledM (pulls ts) w (simM n s)) := by
  obtain ⟨u, u1, u2, rfl⟩ := hl
  have hne : u ≠ [] := fun e => by subst e; simp at h
  obtain ⟨v, t, rfl⟩ : ∃ v t, u = v ++ [t] := ⟨u.dropLast, u.getLast hne, (List.dropLast_concat_getLast hne).symm⟩
  have ht : t < n := u1.1 t (by simp)
  refine ⟨t, ht, ?_⟩
  rcases root_step hg hw ht ⟨v ++ [t], u1, u2, rfl⟩ with ⟨_, h'⟩ | h'
  · have e : Eqv (pulls ts) n v (w ++ [t]) := (eqv_ss (pulls_self ts) ht).symm.trans (u2.app (Eqv.rfl' _))
    have := h'.le u1.1.left e
    simp only [List.length_append, List.length_singleton] at this
    omega
  · exact h'.1
end
def abvG (r : List Gd) : Bool := hasG 1 r && !hasG (-1) r
def blwG (r : List Gd) : Bool := hasG (-1) r && !hasG 1 r
theorem NNr.abv {r : List Gd} (h : NNr r) (hz : Nz r) : abvG r = true ∧ blwG r = false := by simp [abvG, blwG, h.no, h.yes hz]
theorem NPr.blw {r : List Gd} (h : NPr r) (hz : Nz r) : abvG r = false ∧ blwG r = true := by simp [abvG, blwG, h.no, h.yes hz]
def whichM (ts : List T3) (n : Nat) : List Nat → List Nat → List Bool
  | _, [] => []
  | pre, s :: w => abvG (ledM (pulls ts) pre (simM n s)) :: whichM ts n (pre ++ [s]) w
def sumB : List Bool → Int
  | [] => 0
  | b :: l => (if b = true then 1 else -1) + sumB l
theorem whichM_length (ts : List T3) (n : Nat) : ∀ (w pre : List Nat), (whichM ts n pre w).length = w.length
  | [], _ => rfl
  | s :: w, pre => by rw [whichM, List.length_cons, whichM_length ts n w, List.length_cons]
theorem sumB_le : ∀ l : List Bool, sumB l ≤ l.length ∧ (sumB l = l.length ↔ l.all id = true) ∧ (sumB l - l.length) % 2 = 0
  | [] => by simp [sumB]
  | b :: l => by
    obtain ⟨h1, h2, h3⟩ := sumB_le l
    cases b
    · simp only [sumB, Bool.false_eq_true, if_false, List.length_cons, List.all_cons, id, Bool.false_and, iff_false]
      refine ⟨by omega, by omega, by omega⟩
    · simp only [sumB, if_true, List.length_cons, List.all_cons, id, Bool.true_and]
      refine ⟨by omega, ?_, by omega⟩
      rw [← h2]
      omega
theorem sum_len {ts : List T3} {n : Nat} (hg : GoodT ts) : ∀ (w pre : List Nat) {l l' : Nat}, InW n pre → InW n w → Lth ts n pre l → Lth ts n (pre ++ w) l' → (l' : Int) = l + sumB (whichM ts n pre w)
  | [], pre, l, l', hp, hw, h1, h2 => by
    rw [List.append_nil] at h2
    have := h1.uniq h2
    simp [whichM, sumB, this]
  | s :: w, pre, l, l', hp, hw, h1, h2 => by
    have hs : s < n := hw s List.mem_cons_self
    have hw' : InW n w := fun i hi => hw i (List.mem_cons_of_mem _ hi)
    have h2' : Lth ts n ((pre ++ [s]) ++ w) l' := by simpa using h2
    have nz := led_nz (ts := ts) hp hs
    rw [whichM, sumB]
    rcases root_step hg hp hs h1 with ⟨a, b⟩ | ⟨a, b, c⟩
    · have ih := sum_len hg w (pre ++ [s]) (hp.app (InW.one hs)) hw' b h2'
      rw [(a.abv nz).1, if_pos rfl]
      omega
    · have ih := sum_len hg w (pre ++ [s]) (hp.app (InW.one hs)) hw' c h2'
      rw [(a.blw nz).1]
      simp only [Bool.false_eq_true, if_false]
      omega
theorem sum_len0 {ts : List T3} {n : Nat} (hg : GoodT ts) {w : List Nat} (hw : InW n w) {l : Nat} (h : Lth ts n w l) : sumB (whichM ts n [] w) = l := by
  have := sum_len hg w [] (fun i hi => by cases hi) hw Lth.nil (by rw [List.nil_append]; exact h)
  omega
end GH
namespace GH
section
variable (ts : List T3) (n : Nat)
def firstB (u : List Nat) : Option Nat := (List.range n).find? fun i => blwG (ledM (pulls ts) u (simM n i))
inductive Lst : List Nat → List Nat → Prop
  | nil {u : List Nat} (h : firstB ts n u = none) : Lst u []
  | cons {u v : List Nat} {i : Nat} (h : firstB ts n u = some i) (t : Lst (u ++ [i]) v) : Lst u (i :: v)
end
variable {ts : List T3} {n : Nat}
theorem firstB_some {u : List Nat} {i : Nat} (h : firstB ts n u = some i) : i < n ∧ blwG (ledM (pulls ts) u (simM n i)) = true ∧ ∀ j, j < i → blwG (ledM (pulls ts) u (simM n j)) = false := by
  unfold firstB at h
  have h1 := List.mem_of_find?_eq_some h
  have h2 := List.find?_some h
  refine ⟨List.mem_range.mp h1, h2, fun j hj => ?_⟩
  rw [List.find?_range_eq_some] at h
  have := h.2.2 j hj
  simpa using this
theorem firstB_none {u : List Nat} (h : firstB ts n u = none) {i : Nat} (hi : i < n) : blwG (ledM (pulls ts) u (simM n i)) = false := by
  unfold firstB at h
  rw [List.find?_eq_none] at h
  have := h i (List.mem_range.mpr hi)
  simpa using this
theorem firstB_ex {u : List Nat} {i : Nat} (hi : i < n) (h : blwG (ledM (pulls ts) u (simM n i)) = true) : ∃ j, firstB ts n u = some j := by
  cases e : firstB ts n u with
  | some j => exact ⟨j, rfl⟩
  | none => rw [firstB_none e hi] at h; cases h
theorem lst_ex (hg : GoodT ts) : ∀ (l : Nat) {u : List Nat}, InW n u → Lth ts n u l → ∃ v, Lst ts n u v ∧ v.length = l ∧ InW n v ∧ Eqv (pulls ts) n (u ++ v) []
  | 0, u, hu, hl => by
    refine ⟨[], .nil ?_, rfl, (fun i hi => by cases hi), by rw [List.append_nil]; exact hl.zero⟩
    unfold firstB
    rw [List.find?_eq_none]
    intro i hi
    have hi' := List.mem_range.mp hi
    rcases root_step hg hu hi' hl with ⟨a, _⟩ | ⟨_, b, _⟩
    · rw [(a.abv (led_nz hu hi')).2]; decide
    · omega
  | l + 1, u, hu, hl => by
    obtain ⟨s, hs, hp⟩ := some_down hg hu hl (by omega)
    obtain ⟨i, hi⟩ := firstB_ex hs (hp.blw (led_nz hu hs)).2
    obtain ⟨h1, h2, _⟩ := firstB_some hi
    have hL : Lth ts n (u ++ [i]) l := by
      rcases root_step hg hu h1 hl with ⟨a, _⟩ | ⟨_, _, c⟩
      · rw [(a.abv (led_nz hu h1)).2] at h2; cases h2
      · exact c
    obtain ⟨v, v1, v2, v3, v4⟩ := lst_ex hg l (hu.app (InW.one h1)) hL
    refine ⟨i :: v, .cons hi v1, by rw [List.length_cons, v2], v3.cons h1, ?_⟩
    rw [List.append_assoc] at v4
    exact v4
theorem least_ex (hg : GoodT ts) {w : List Nat} (hw : InW n w) : ∃ (v : List Nat) (l : Nat), Lst ts n w.reverse v ∧ InW n v ∧ Eqv (pulls ts) n v w ∧ Lth ts n v l ∧ v.length = l ∧ l ≤ w.length := by
  obtain ⟨l, hl⟩ := Lth.ex (ts := ts) hw
  obtain ⟨v, v1, v2, v3, v4⟩ := lst_ex hg l hw.rev (hl.rev hw)
  have e : Eqv (pulls ts) n v w := by
    have a1 : Eqv (pulls ts) n (w ++ (w.reverse ++ v)) (w ++ []) := (Eqv.rfl' _).app v4
    have a2 : Eqv (pulls ts) n ((w ++ w.reverse) ++ v) ([] ++ v) := (eqv_back' (pulls_self ts) hw).app (Eqv.rfl' _)
    rw [List.append_nil] at a1
    rw [List.append_assoc, List.nil_append] at a2
    exact a2.symm.trans a1
  exact ⟨v, l, v1, v3, e, hl.cong e.symm, v2, hl.le hw (Eqv.rfl' _)⟩
end GH
namespace GH
theorem gmul_nz {x y : Gd} (hx : nn x) (hy : nn y) (h : gmul x y = (0, 0)) : x = (0, 0) ∨ y = (0, 0) := by
  rcases hx with hx | hx
  · exact .inl hx
  · rcases hy with hy | hy
    · exact .inr hy
    · have := M02.pos_mul hx hy
      have e : M02.mulG x y = gmul x y := rfl
      rw [e, h] at this
      have := M02.sgn_pos this
      cases this
theorem nn_sum_zero {x y : Gd} (hx : nn x) (hy : nn y) (h : gadd x y = (0, 0)) : x = (0, 0) ∧ y = (0, 0) := by
  have e : y = gneg x := by
    have e1 := congrArg Prod.fst h
    have e2 := congrArg Prod.snd h
    simp only [gadd] at e1 e2
    exact Prod.ext (by simp only [gneg]; omega) (by simp only [gneg]; omega)
  rw [e] at hy
  have := nn_both hx hy
  rw [this] at e
  exact ⟨this, e⟩
theorem sc_sim_get {n i k : Nat} (c : Gd) (hk : k < n) : (rsc c (simM n i)).getD k (0, 0) = if k = i then c else (0, 0) := by
  rw [rsc_get, simM_get hk]
  split
  · exact gmul_one c
  · exact gmul_zero c
theorem row_is_sc {n i : Nat} {r : List Gd} (hl : r.length = n) (h : ∀ k, k < n → k ≠ i → r.getD k (0, 0) = (0, 0)) : r = rsc (r.getD i (0, 0)) (simM n i) := by
  apply row_ext (by rw [rsc_length, simM_length, hl])
  intro k hk
  rw [hl] at hk
  rw [sc_sim_get _ hk]
  by_cases c : k = i
  · rw [if_pos c, c]
  · rw [if_neg c, h k hk c]
section
variable {ts : List T3} {n : Nat}
theorem led_inj {w : List Nat} (hw : InW n w) {r s : List Gd} (hr : r.length = n) (hs : s.length = n) (h : ledM (pulls ts) w r = ledM (pulls ts) w s) : r = s := by
  have h1 := ledM_back (pulls_self ts) w r (fun i hi => by rw [hr]; exact hw i hi)
  have h2 := ledM_back (pulls_self ts) w s (fun i hi => by rw [hs]; exact hw i hi)
  rw [← h1, h, h2]
theorem split_simple (hg : GoodT ts) (w : List Nat) (s i : Nat) (c : Gd) (hs : s < n) (hi : i < n) (hw : Red (pulls ts) n w) (hd : NotDown (pulls ts) n w s) (he : ledM (pulls ts) w (simM n s) = rsc c (simM n i)) (hnil : w ≠ []) :
    ∃ (v : List Nat) (t : Nat) (b : List Nat), v.length < w.length ∧ t < n ∧ Red (pulls ts) n v ∧ NotDown (pulls ts) n v t ∧ ledM (pulls ts) v (simM n t) = rsc c (simM n i) ∧ InW n b ∧ Eqv (pulls ts) n (v ++ b) w ∧ Eqv (pulls ts) n (b ++ [s]) (t :: b) := by
  obtain ⟨v, t, x, hl, ht, hts, vr, vs, vt, hx, e, bw, b1, b2, b3, b4⟩ := split_off hg w s hs hw hd hnil
  have ps := above_all hg v.length v s rfl hs vr vs
  have pt := above_all hg v.length v t rfl ht vr vt
  have hlen : (rsc x.1 (ledM (pulls ts) v (simM n s))).length = (rsc x.2 (ledM (pulls ts) v (simM n t))).length := by rw [rsc_length, rsc_length, ledM_length, ledM_length, simM_length, simM_length]
  have lP : (ledM (pulls ts) v (simM n s)).length = n := by rw [ledM_length, simM_length]
  have lQ : (ledM (pulls ts) v (simM n t)).length = n := by rw [ledM_length, simM_length]
  rw [he] at e
  have off : ∀ j, j < n → j ≠ i → gmul x.1 ((ledM (pulls ts) v (simM n s)).getD j (0, 0)) = (0, 0) ∧ gmul x.2 ((ledM (pulls ts) v (simM n t)).getD j (0, 0)) = (0, 0) := fun j hj hji => by
    have e1 := congrArg (fun r => r.getD j (0, 0)) e
    rw [sc_sim_get c hj, if_neg hji, radd_get hlen, rsc_get, rsc_get] at e1
    exact nn_sum_zero (nn_mul hx.1 (ps j)) (nn_mul hx.2.1 (pt j)) e1.symm
  have one : ∀ r : List Gd, rsc (1, 0) r = r := fun r => by
    apply row_ext (rsc_length _ _)
    intro j _
    rw [rsc_get]
    simp [gmul]
  by_cases c1 : x.1 = (0, 0)
  · have q1 := hx.2.2.2 c1
    refine ⟨v, t, bw, hl, ht, vr, vt, ?_, b1, b2, b4 c1⟩
    rw [e, c1, q1]
    apply row_ext (by rw [lQ, radd_length (by rw [rsc_length, rsc_length, lP, lQ]), rsc_length, lP])
    intro j _
    rw [radd_get (by rw [rsc_length, rsc_length, lP, lQ]), one, rsc_get]
    simp [gmul, gadd]
  · by_cases c2 : x.2 = (0, 0)
    · have q1 := hx.2.2.1 c2
      refine ⟨v, s, bw, hl, hs, vr, vs, ?_, b1, b2, b3 c2⟩
      rw [e, c2, q1]
      apply row_ext (by rw [lP, radd_length (by rw [rsc_length, rsc_length, lP, lQ]), rsc_length, lP])
      intro j _
      rw [radd_get (by rw [rsc_length, rsc_length, lP, lQ]), one, rsc_get]
      simp [gmul, gadd]
    · exfalso
      have hP := row_is_sc lP (i := i) fun j hj hji => (gmul_nz hx.1 (ps j) (off j hj hji).1).resolve_left c1
      have hQ := row_is_sc lQ (i := i) fun j hj hji => (gmul_nz hx.2.1 (pt j) (off j hj hji).2).resolve_left c2
      generalize (ledM (pulls ts) v (simM n s)).getD i (0, 0) = a at hP
      generalize (ledM (pulls ts) v (simM n t)).getD i (0, 0) = b at hQ
      have e3 : ledM (pulls ts) v (rsc b (simM n s)) = ledM (pulls ts) v (rsc a (simM n t)) := by
        rw [ledM_sc _ _ _ (by rw [simM_length]; exact vr.1), ledM_sc _ _ _ (by rw [simM_length]; exact vr.1), hP, hQ]
        apply row_ext (by simp only [rsc_length, simM_length])
        intro j _
        rw [rsc_get, rsc_get, rsc_get, rsc_get, ← gmul_assoc, ← gmul_assoc, gmul_comm b a]
      have e4 := led_inj vr.1 (by rw [rsc_length, simM_length]) (by rw [rsc_length, simM_length]) e3
      have e5 := congrArg (fun r => r.getD t (0, 0)) e4
      simp only [sc_sim_get b ht, sc_sim_get a ht, if_true, if_neg hts] at e5
      obtain ⟨j, hj, hn⟩ := led_nz (ts := ts) vr.1 hs
      apply hn
      rw [hP, ← e5, rsc_get]
      simp [gmul]
theorem one_coef (hg : GoodT ts) : ∀ (k : Nat) (w : List Nat) (s i : Nat) (c : Gd), w.length = k → s < n → i < n → Red (pulls ts) n w → NotDown (pulls ts) n w s → ledM (pulls ts) w (simM n s) = rsc c (simM n i) → c = (1, 0) ∧ Eqv (pulls ts) n (w ++ [s]) (i :: w) := by
  intro k
  induction k using Nat.strongRecOn with
  | ind k ih =>
    intro w s i c hk hs hi hw hd he
    by_cases hnil : w = []
    · subst hnil
      have he : simM n s = rsc c (simM n i) := he
      have e1 := congrArg (fun r => r.getD s (0, 0)) he
      simp only [simM_get hs, sc_sim_get c hs, if_true] at e1
      by_cases cc : s = i
      · rw [if_pos cc] at e1
        subst cc
        exact ⟨e1.symm, Eqv.rfl' _⟩
      · rw [if_neg cc] at e1; cases e1
    · obtain ⟨v, t, b, hl, ht, vr, vt, he', b1, b2, b3⟩ := split_simple hg w s i c hs hi hw hd he hnil
      obtain ⟨h1, h2⟩ := ih v.length (by omega) v t i c rfl ht hi vr vt he'
      refine ⟨h1, ?_⟩
      -- w s ~ v b s ~ v t b ~ i v b ~ i w
      have a1 : Eqv (pulls ts) n ((v ++ b) ++ [s]) (w ++ [s]) := b2.app (Eqv.rfl' _)
      have a2 : Eqv (pulls ts) n (v ++ (b ++ [s])) (v ++ (t :: b)) := (Eqv.rfl' _).app b3
      have a3 : Eqv (pulls ts) n ((v ++ [t]) ++ b) ((i :: v) ++ b) := h2.app (Eqv.rfl' _)
      have a4 : Eqv (pulls ts) n ([i] ++ (v ++ b)) ([i] ++ w) := (Eqv.rfl' _).app b2
      rw [List.append_assoc] at a1
      rw [List.append_assoc, List.singleton_append] at a3
      exact a1.symm.trans (a2.trans (a3.trans a4))
theorem cross (hg : GoodT ts) {u : List Nat} (hu : InW n u) {m i : Nat} (hm : m < n) (hi : i < n) (h1 : NNr (ledM (pulls ts) u (simM n m))) (h2 : NPr (ledM (pulls ts) (i :: u) (simM n m))) : ledM (pulls ts) u (simM n m) = simM n i := by
  have lB : (ledM (pulls ts) u (simM n m)).length = n := by rw [ledM_length, simM_length]
  have off : ∀ k, k < n → k ≠ i → (ledM (pulls ts) u (simM n m)).getD k (0, 0) = (0, 0) := fun k hk hki => by
    have := h2 k
    rw [ledM_cons, mirM_get _ (by rw [lB]; exact hi), if_neg hki] at this
    exact nn_both (h1 k) this
  have hsc := row_is_sc lB off
  generalize (ledM (pulls ts) u (simM n m)).getD i (0, 0) = c at hsc
  obtain ⟨l, hl⟩ := Lth.ex (ts := ts) hu
  have hl' := hl
  obtain ⟨v, v1, v2, v3⟩ := hl'
  have nd : NotDown (pulls ts) n v m := by
    rcases root_step hg hu hm hl with ⟨_, hL⟩ | ⟨hn, _⟩
    · intro y hy e
      have := hL.le hy (e.trans (v2.app (Eqv.rfl' _)))
      omega
    · exact absurd hn (h1.notP (led_nz hu hm))
  have ev := v2 (simM n m) (simM_length n m)
  have c1 := (one_coef hg v.length v m i c rfl hm hi v1 nd (by rw [ev, hsc])).1
  rw [hsc, c1]
  apply row_ext (rsc_length _ _)
  intro j _
  rw [rsc_get]
  simp [gmul]
def Sh (ts : List T3) (n : Nat) (w : List Nat) : Prop := InW n w ∧ Lth ts n w w.length
theorem Sh.cut {a b c : List Nat} (h : Sh ts n (a ++ b ++ c)) : Sh ts n b := by
  obtain ⟨h1, h2⟩ := h
  have hb : InW n b := h1.left.right
  obtain ⟨l, hl⟩ := Lth.ex (ts := ts) hb
  refine ⟨hb, ?_⟩
  have hl' := hl
  obtain ⟨v, v1, v2, v3⟩ := hl'
  have e : Eqv (pulls ts) n (a ++ v ++ c) (a ++ b ++ c) := ((Eqv.rfl' _).app v2).app (Eqv.rfl' _)
  have := h2.le ((h1.left.left.app v1.1).app h1.right) e
  simp only [List.length_append] at this
  have h3 := hl.le hb (Eqv.rfl' _)
  have : l = b.length := by omega
  rw [← this]
  exact hl
theorem Sh.rev {a : List Nat} (h : Sh ts n a) : Sh ts n a.reverse := ⟨h.1.rev, by rw [List.length_reverse]; exact h.2.rev h.1⟩
theorem Sh.up (hg : GoodT ts) {u : List Nat} {s : Nat} (h : Sh ts n (u ++ [s])) : NNr (ledM (pulls ts) u (simM n s)) := by
  have hs : s < n := h.1 s (by simp)
  have hu : Sh ts n u := Sh.cut (a := []) (c := [s]) (by simpa using h)
  rcases root_step hg hu.1 hs hu.2 with ⟨a, _⟩ | ⟨_, b, c⟩
  · exact a
  · have := c.uniq h.2
    simp only [List.length_append, List.length_singleton] at this
    omega
def rootAt (ts : List T3) (n : Nat) (v : List Nat) (a : Nat) : List Gd := ledM (pulls ts) (v.drop (a + 1)).reverse (simM n (v.getD a 0))
theorem getD_lt {v : List Nat} {a : Nat} (h : a < v.length) : v.getD a 0 = v[a] := by simp [List.getD_eq_getElem?_getD, h]
theorem cut_at {v : List Nat} {a : Nat} (h : a < v.length) : v = v.take a ++ v.getD a 0 :: v.drop (a + 1) := by
  rw [getD_lt h, List.getElem_cons_drop, List.take_append_drop]
theorem InW.at {v : List Nat} (hv : InW n v) {a : Nat} (h : a < v.length) : v.getD a 0 < n := by rw [getD_lt h]; exact hv _ (List.getElem_mem h)
theorem root_above (hg : GoodT ts) {v : List Nat} (hv : Sh ts n v) {a : Nat} (h : a < v.length) : NNr (rootAt ts n v a) := by
  have e := cut_at h
  have h1 : Sh ts n (v.getD a 0 :: v.drop (a + 1)) := Sh.cut (a := v.take a) (c := []) (by rw [List.append_nil, ← e]; exact hv)
  have h2 := h1.rev
  rw [List.reverse_cons] at h2
  exact h2.up hg
theorem root_led (hg : GoodT ts) {v : List Nat} (hv : InW n v) {a : Nat} (h : a < v.length) : ledM (pulls ts) v (rootAt ts n v a) = ledM (pulls ts) (v.take a ++ [v.getD a 0]) (simM n (v.getD a 0)) := by
  have e := cut_at h
  have hd : InW n (v.drop (a + 1)) := fun x hx => hv x (List.mem_of_mem_drop hx)
  unfold rootAt
  conv => lhs; rw [e]
  have e2 : v.take a ++ v.getD a 0 :: v.drop (a + 1) = (v.take a ++ [v.getD a 0]) ++ v.drop (a + 1) := by simp
  rw [e2, ledM_append]
  congr 1
  have := ledM_back (pulls_self ts) (v.drop (a + 1)).reverse (simM n (v.getD a 0)) (fun i hi => by rw [simM_length]; exact hd.rev i hi)
  rw [List.reverse_reverse] at this
  have e3 : (List.take a v ++ [v.getD a 0] ++ List.drop (a + 1) v).drop (a + 1) = v.drop (a + 1) := by rw [← e2, ← e]
  have e4 : (List.take a v ++ [v.getD a 0] ++ List.drop (a + 1) v).getD a 0 = v.getD a 0 := by rw [← e2, ← e]
  rw [e3, e4]
  exact this
theorem root_below (hg : GoodT ts) {v : List Nat} (hv : Sh ts n v) {a : Nat} (h : a < v.length) : NPr (ledM (pulls ts) v (rootAt ts n v a)) := by
  have e := cut_at h
  have hs := hv.1.at h
  have h1 : Sh ts n (v.take a ++ [v.getD a 0]) := Sh.cut (a := []) (c := v.drop (a + 1)) (by rw [List.nil_append, List.append_assoc, List.singleton_append, ← e]; exact hv)
  have h2 := h1.up hg
  rw [root_led hg hv.1 h]
  intro k
  rw [led_neg h1.1.left hs, gneg_gneg]
  exact h2 k
theorem roots_unlike (hg : GoodT ts) {v : List Nat} (hv : Sh ts n v) {a b : Nat} (hab : a < b) (hb : b < v.length) : rootAt ts n v a ≠ rootAt ts n v b := by
  intro e
  have ha : a < v.length := by omega
  have hsa := hv.1.at ha
  have hsb := hv.1.at hb
  -- the signs between
  have eb := cut_at hb
  have hdb : InW n (v.drop (b + 1)) := fun x hx => hv.1 x (List.mem_of_mem_drop hx)
  obtain ⟨x, hx⟩ : ∃ x, v.drop (a + 1) = x ++ v.getD b 0 :: v.drop (b + 1) := by
    refine ⟨(v.take b).drop (a + 1), ?_⟩
    conv => lhs; rw [eb]
    rw [List.drop_append_of_le_length (by simp; omega)]
  have ea := cut_at ha
  rw [hx] at ea
  have hfac : Sh ts n (v.getD a 0 :: x) := Sh.cut (a := v.take a) (c := v.getD b 0 :: v.drop (b + 1)) (by rw [List.append_assoc, List.cons_append, ← ea]; exact hv)
  have hxW : InW n x := fun i hi => hfac.1 i (List.mem_cons_of_mem _ hi)
  have h1 := hfac.rev
  rw [List.reverse_cons] at h1
  have pos := h1.up hg
  -- both roots, the outer signs taken off
  unfold rootAt at e
  rw [hx, List.reverse_append, List.reverse_cons, ledM_append, ledM_append] at e
  have e2 := led_inj hdb.rev (by rw [ledM_length, ledM_length, simM_length]) (simM_length _ _) e
  have e3 : mirM (pulls ts (v.getD b 0)) (v.getD b 0) (ledM (pulls ts) x.reverse (simM n (v.getD a 0))) = simM n (v.getD b 0) := e2
  have e4 := congrArg (mirM (pulls ts (v.getD b 0)) (v.getD b 0)) e3
  rw [mirM_mirM (pulls_self ts _) _ (by rw [ledM_length, simM_length]; exact hsb)] at e4
  have neg : ∀ k, (mirM (pulls ts (v.getD b 0)) (v.getD b 0) (simM n (v.getD b 0))).getD k (0, 0) = gneg ((simM n (v.getD b 0)).getD k (0, 0)) := fun k => led_neg (ts := ts) (w := []) (fun i hi => by cases hi) hsb k
  have p := pos (v.getD b 0)
  rw [e4, neg, simM_get hsb, if_pos rfl] at p
  have := nn_both (nn_nat 1 (by decide)) p
  cases this
theorem root_of_simple (hg : GoodT ts) {v : List Nat} (hv : InW n v) {i : Nat} (hi : i < n) (h : NPr (ledM (pulls ts) v (simM n i))) : ∃ a, a < v.length ∧ rootAt ts n v a = simM n i := by
  have key : ∀ (k a : Nat), a + k = v.length → NPr (ledM (pulls ts) (v.drop a) (simM n i)) → ∃ b, a ≤ b ∧ b < v.length ∧ rootAt ts n v b = simM n i := by
    intro k
    induction k with
    | zero =>
      intro a ha hn
      have : v.drop a = [] := List.drop_of_length_le (by omega)
      rw [this] at hn
      have p := hn i
      have p : nn (gneg ((simM n i).getD i (0, 0))) := p
      rw [simM_get hi, if_pos rfl] at p
      have := nn_both (nn_nat 1 (by decide)) p
      cases this
    | succ k ih =>
      intro a ha hn
      have hal : a < v.length := by omega
      have hd : InW n (v.drop (a + 1)) := fun x hx => hv x (List.mem_of_mem_drop hx)
      have ed : v.drop a = v.getD a 0 :: v.drop (a + 1) := by rw [getD_lt hal, List.getElem_cons_drop]
      rcases root_one hg hd hi with c | c
      · rw [ed] at hn
        have := cross hg hd hi (hv.at hal) c hn
        refine ⟨a, Nat.le_refl _, hal, ?_⟩
        unfold rootAt
        rw [← this]
        exact ledM_back (pulls_self ts) _ _ (fun j hj => by rw [simM_length]; exact hd j hj)
      · obtain ⟨b, h1, h2, h3⟩ := ih (a + 1) (by omega) c
        exact ⟨b, by omega, h2, h3⟩
  obtain ⟨b, _, h2, h3⟩ := key v.length 0 (by omega) (by rw [List.drop_zero]; exact h)
  exact ⟨b, h2, h3⟩
end
end GH
namespace GH
def Root (ts : List T3) (n : Nat) (r : List Gd) : Prop := ∃ u i, InW n u ∧ i < n ∧ r = ledM (pulls ts) u (simM n i)
def negR (r : List Gd) : List Gd := r.map gneg
section
variable {ts : List T3} {n : Nat}
theorem negR_length (r : List Gd) : (negR r).length = r.length := by simp [negR]
theorem negR_negR (r : List Gd) : negR (negR r) = r := by
  unfold negR
  rw [List.map_map]
  have : (gneg ∘ gneg) = id := by funext x; exact gneg_gneg x
  rw [this, List.map_id]
theorem negR_get (r : List Gd) (k : Nat) : (negR r).getD k (0, 0) = gneg (r.getD k (0, 0)) := by
  unfold negR
  rw [List.getD_eq_getElem?_getD, List.getD_eq_getElem?_getD, List.getElem?_map]
  cases r[k]? with
  | none => rfl
  | some x => rfl
theorem negR_sc (r : List Gd) : negR r = rsc (-1, 0) r := by
  unfold negR rsc
  apply List.map_congr_left
  intro x _
  simp [gmul, gneg]
theorem led_negR {w : List Nat} {r : List Gd} (hw : InW r.length w) : ledM (pulls ts) w (negR r) = negR (ledM (pulls ts) w r) := by
  rw [negR_sc, negR_sc, ledM_sc _ _ _ hw]
theorem NNr_neg {r : List Gd} : NNr (negR r) ↔ NPr r := by
  unfold NNr NPr
  exact ⟨fun h k => by have := h k; rwa [negR_get] at this, fun h k => by rw [negR_get]; exact h k⟩
theorem NPr_neg {r : List Gd} : NPr (negR r) ↔ NNr r := by
  rw [← NNr_neg, negR_negR]
theorem Root.len {r : List Gd} (h : Root ts n r) : r.length = n := by
  obtain ⟨u, i, _, _, rfl⟩ := h
  rw [ledM_length, simM_length]
theorem Root.led {r : List Gd} (h : Root ts n r) {w : List Nat} (hw : InW n w) : Root ts n (ledM (pulls ts) w r) := by
  obtain ⟨u, i, hu, hi, rfl⟩ := h
  exact ⟨w ++ u, i, hw.app hu, hi, by rw [ledM_append]⟩
theorem Root.neg {r : List Gd} (h : Root ts n r) : Root ts n (negR r) := by
  obtain ⟨u, i, hu, hi, rfl⟩ := h
  refine ⟨u ++ [i], i, hu.app (InW.one hi), hi, ?_⟩
  apply row_ext (by rw [negR_length, ledM_length, ledM_length])
  intro k _
  rw [negR_get, led_neg hu hi]
theorem Root.one (hg : GoodT ts) {r : List Gd} (h : Root ts n r) : NNr r ∨ NPr r := by
  obtain ⟨u, i, hu, hi, rfl⟩ := h
  exact root_one hg hu hi
theorem Root.nz {r : List Gd} (h : Root ts n r) : Nz r := by
  obtain ⟨u, i, hu, hi, rfl⟩ := h
  exact led_nz hu hi
theorem Root.not {r : List Gd} (h : Root ts n r) (h1 : NNr r) : ¬ NPr r := h1.notP h.nz
theorem led_back {w : List Nat} {r : List Gd} (hw : InW r.length w) : ledM (pulls ts) w.reverse (ledM (pulls ts) w r) = r := ledM_back (pulls_self ts) w r hw
theorem led_back' {w : List Nat} {r : List Gd} (hw : InW r.length w) : ledM (pulls ts) w (ledM (pulls ts) w.reverse r) = r := by
  have := ledM_back (pulls_self ts) w.reverse r (fun i hi => hw i (by simpa using hi))
  rwa [List.reverse_reverse] at this
theorem root_of_root (hg : GoodT ts) {v : List Nat} (hv : InW n v) {r : List Gd} (hr : Root ts n r) (h0 : NNr r) (h : NPr (ledM (pulls ts) v r)) : ∃ a, a < v.length ∧ rootAt ts n v a = r := by
  obtain ⟨u, i, hu, hi, er⟩ := hr
  have key : ∀ (k a : Nat), a + k = v.length → NPr (ledM (pulls ts) (v.drop a) r) → ∃ b, a ≤ b ∧ b < v.length ∧ rootAt ts n v b = r := by
    intro k
    induction k with
    | zero =>
      intro a ha hn
      have : v.drop a = [] := List.drop_of_length_le (by omega)
      rw [this] at hn
      have hr : Root ts n r := ⟨u, i, hu, hi, er⟩
      exact absurd hn (hr.not h0)
    | succ k ih =>
      intro a ha hn
      have hal : a < v.length := by omega
      have hd : InW n (v.drop (a + 1)) := fun x hx => hv x (List.mem_of_mem_drop hx)
      have ed : v.drop a = v.getD a 0 :: v.drop (a + 1) := by rw [getD_lt hal, List.getElem_cons_drop]
      have e1 : ledM (pulls ts) (v.drop (a + 1)) r = ledM (pulls ts) (v.drop (a + 1) ++ u) (simM n i) := by rw [ledM_append, er]
      rcases root_one hg (hd.app hu) hi with c | c
      · rw [ed, ledM_cons, e1] at hn
        have := cross hg (hd.app hu) hi (hv.at hal) c hn
        refine ⟨a, Nat.le_refl _, hal, ?_⟩
        unfold rootAt
        rw [← this, ← e1]
        exact ledM_back (pulls_self ts) _ _ (fun j hj => by rw [er, ledM_length, simM_length]; exact hd j hj)
      · rw [← e1] at c
        obtain ⟨b, h1, h2, h3⟩ := ih (a + 1) (by omega) c
        exact ⟨b, by omega, h2, h3⟩
  obtain ⟨b, _, h2, h3⟩ := key v.length 0 (by omega) (by rw [List.drop_zero]; exact h)
  exact ⟨b, h2, h3⟩
structure IsN (ts : List T3) (n : Nat) (w : List Nat) (L : List (List Gd)) : Prop where
  nd : L.Pairwise (· ≠ ·)
  mem : ∀ r, r ∈ L ↔ Root ts n r ∧ NNr r ∧ NPr (ledM (pulls ts) w r)
theorem isN_of (hg : GoodT ts) {w v : List Nat} (hv : Sh ts n v) (he : Eqv (pulls ts) n v w) : IsN ts n w ((List.range v.length).reverse.map (rootAt ts n v)) where
  nd := by
    rw [List.pairwise_map, List.pairwise_reverse]
    refine List.Pairwise.imp_of_mem ?_ (List.pairwise_lt_range (n := v.length))
    intro a b ha hb hab e
    exact roots_unlike hg hv hab (List.mem_range.mp hb) e.symm
  mem r := by
    simp only [List.mem_map, List.mem_reverse, List.mem_range]
    constructor
    · rintro ⟨a, ha, rfl⟩
      have hr : Root ts n (rootAt ts n v a) := ⟨_, _, fun x hx => hv.1 x (List.mem_of_mem_drop (by simpa using hx)), hv.1.at ha, rfl⟩
      exact ⟨hr, root_above hg hv ha, by rw [← he _ hr.len]; exact root_below hg hv ha⟩
    · rintro ⟨h1, h2, h3⟩
      rw [← he _ h1.len] at h3
      exact root_of_root hg hv.1 h1 h2 h3
theorem nodup_of {L : List (List Gd)} (h : L.Pairwise (· ≠ ·)) : L.Nodup := h
theorem isN_perm {w w' : List Nat} {L M : List (List Gd)} (hL : IsN ts n w L) (hM : M.Pairwise (· ≠ ·)) (h : ∀ r, r ∈ M ↔ Root ts n r ∧ NNr r ∧ NPr (ledM (pulls ts) w r)) : L.Perm M :=
  (List.perm_ext_iff_of_nodup (nodup_of hL.nd) (nodup_of hM)).mpr fun r => (hL.mem r).trans (h r).symm
def dueM (ts : List T3) (v : List Nat) (A B : List (List Gd)) : List (List Gd) :=
  (B.filter fun r => !(A.any fun s => decide (s = negR (ledM (pulls ts) v r)))) ++ ((A.map (ledM (pulls ts) v.reverse)).filter fun r => hasG 1 r)
theorem due_perm (hg : GoodT ts) {u v : List Nat} (hu : InW n u) (hv : InW n v) {A B C : List (List Gd)} (hA : IsN ts n u A) (hB : IsN ts n v B) (hC : IsN ts n (u ++ v) C) : C.Perm (dueM ts v A B) := by
  have anyA : ∀ r, (A.any fun s => decide (s = r)) = true ↔ r ∈ A := fun r => by
    rw [List.any_eq_true]
    exact ⟨fun ⟨s, h1, h2⟩ => by have := of_decide_eq_true h2; rwa [← this], fun h => ⟨r, h, by simp⟩⟩
  have mem1 : ∀ r, r ∈ (B.filter fun r => !(A.any fun s => decide (s = negR (ledM (pulls ts) v r)))) ↔ Root ts n r ∧ NNr r ∧ NPr (ledM (pulls ts) v r) ∧ NPr (ledM (pulls ts) (u ++ v) r) := fun r => by
    rw [List.mem_filter, hB.mem]
    have hx : Root ts n r → NNr r → NPr (ledM (pulls ts) v r) → ((!(A.any fun s => decide (s = negR (ledM (pulls ts) v r)))) = true ↔ NPr (ledM (pulls ts) (u ++ v) r)) := fun h1 h2 h3 => by
      have hv' := (h1.led hv).neg
      have e : ledM (pulls ts) u (negR (ledM (pulls ts) v r)) = negR (ledM (pulls ts) (u ++ v) r) := by
        rw [led_negR (by rw [(h1.led hv).len]; exact hu), ledM_append]
      have huv := h1.led (hu.app hv)
      rw [Bool.not_eq_true', ← Bool.not_eq_true, anyA, hA.mem, e, NPr_neg]
      constructor
      · intro h
        rcases huv.one hg with c | c
        · exact absurd ⟨hv', NNr_neg.mpr h3, c⟩ h
        · exact c
      · rintro h ⟨_, _, c⟩
        exact huv.not c h
    exact ⟨fun ⟨⟨h1, h2, h3⟩, h4⟩ => ⟨h1, h2, h3, (hx h1 h2 h3).mp h4⟩, fun ⟨h1, h2, h3, h4⟩ => ⟨⟨h1, h2, h3⟩, (hx h1 h2 h3).mpr h4⟩⟩
  have mem2 : ∀ r, r ∈ ((A.map (ledM (pulls ts) v.reverse)).filter fun r => hasG 1 r) ↔ Root ts n r ∧ NNr r ∧ NNr (ledM (pulls ts) v r) ∧ NPr (ledM (pulls ts) (u ++ v) r) := fun r => by
    rw [List.mem_filter, List.mem_map]
    constructor
    · rintro ⟨⟨s, hs, rfl⟩, h⟩
      obtain ⟨h1, h2, h3⟩ := (hA.mem s).mp hs
      have hb := h1.led hv.rev
      have e := led_back' (ts := ts) (w := v) (r := s) (by rw [h1.len]; exact hv)
      refine ⟨hb, ?_, by rw [e]; exact h2, by rw [ledM_append, e]; exact h3⟩
      rcases hb.one hg with c | c
      · exact c
      · rw [c.no] at h; cases h
    · rintro ⟨h1, h2, h3, h4⟩
      refine ⟨⟨ledM (pulls ts) v r, (hA.mem _).mpr ⟨h1.led hv, h3, by rw [← ledM_append]; exact h4⟩, led_back (by rw [h1.len]; exact hv)⟩, h2.yes h1.nz⟩
  refine isN_perm (w' := []) hC ?_ fun r => ?_
  · unfold dueM
    rw [List.pairwise_append]
    refine ⟨hB.nd.filter _, ?_, fun a ha b hb e => ?_⟩
    · refine List.Pairwise.filter _ ?_
      rw [List.pairwise_map]
      refine List.Pairwise.imp_of_mem ?_ hA.nd
      intro a b ha hb hab e
      have la := ((hA.mem a).mp ha).1.len
      have lb := ((hA.mem b).mp hb).1.len
      exact hab (led_inj hv.rev la lb e)
    · subst e
      obtain ⟨h1, _, h3, _⟩ := (mem1 a).mp ha
      obtain ⟨_, _, h3', _⟩ := (mem2 a).mp hb
      exact (h1.led hv).not h3' h3
  · unfold dueM
    rw [List.mem_append, mem1, mem2]
    constructor
    · rintro (⟨h1, h2, _, h4⟩ | ⟨h1, h2, _, h4⟩) <;> exact ⟨h1, h2, h4⟩
    · rintro ⟨h1, h2, h4⟩
      rcases (h1.led hv).one hg with c | c
      · exact .inr ⟨h1, h2, c, h4⟩
      · exact .inl ⟨h1, h2, c, h4⟩
theorem back_perm (hg : GoodT ts) {u : List Nat} (hu : InW n u) {A B : List (List Gd)} (hA : IsN ts n u A) (hB : IsN ts n u.reverse B) : B.Perm (A.map fun r => negR (ledM (pulls ts) u r)) := by
  refine isN_perm (w' := []) hB ?_ fun r => ?_
  · rw [List.pairwise_map]
    refine List.Pairwise.imp_of_mem ?_ hA.nd
    intro a b ha hb hab e
    have la := ((hA.mem a).mp ha).1.len
    have lb := ((hA.mem b).mp hb).1.len
    have e' : ledM (pulls ts) u a = ledM (pulls ts) u b := by rw [← negR_negR (ledM (pulls ts) u a), e, negR_negR]
    exact hab (led_inj hu la lb e')
  · rw [List.mem_map]
    constructor
    · rintro ⟨s, hs, rfl⟩
      obtain ⟨h1, h2, h3⟩ := (hA.mem s).mp hs
      refine ⟨(h1.led hu).neg, NNr_neg.mpr h3, ?_⟩
      rw [led_negR (by rw [(h1.led hu).len]; exact hu.rev), NPr_neg, led_back (by rw [h1.len]; exact hu)]
      exact h2
    · rintro ⟨h1, h2, h3⟩
      have hb := h1.led hu.rev
      have e : ledM (pulls ts) u (negR (ledM (pulls ts) u.reverse r)) = negR r := by
        rw [led_negR (by rw [hb.len]; exact hu), led_back' (by rw [h1.len]; exact hu)]
      refine ⟨negR (ledM (pulls ts) u.reverse r), (hA.mem _).mpr ⟨hb.neg, NNr_neg.mpr h3, by rw [e, NPr_neg]; exact h2⟩, by rw [e, negR_negR]⟩
end
end GH
namespace Pk44
open PySem PySem.Spec PyProof.Rows L2 FL
def top (i : Nat) : Stmt := PySem.Challenge.pw_mirrorhouse_k44_whole_roots_of_two_words.main.body.getD i (.Pass ⟨0, 0, 0, 0⟩)
abbrev s_plus : Stmt := top 1
abbrev s_times : Stmt := top 2
abbrev s_minus : Stmt := top 3
abbrev s_whole_sign : Stmt := top 4
abbrev s_sign : Stmt := top 5
abbrev s_turn_of : Stmt := top 9
abbrev s_pull : Stmt := top 10
abbrev s_simple : Stmt := top 14
abbrev s_mirrored : Stmt := top 15
abbrev s_led : Stmt := top 16
abbrev s_images : Stmt := top 17
abbrev s_less_by : Stmt := top 18
abbrev s_images_with_behind : Stmt := top 19
abbrev s_is_above : Stmt := top 20
abbrev s_is_below : Stmt := top 21
abbrev s_which_lengthen : Stmt := top 23
abbrev s_is_short : Stmt := top 24
abbrev s_length : Stmt := top 25
abbrev s_first_below : Stmt := top 27
abbrev s_least : Stmt := top 28
abbrev s_turned : Stmt := top 29
abbrev s_l_cell_at : Stmt := top 31
abbrev s_l_mix : Stmt := top 32
abbrev s_l_house : Stmt := top 33
abbrev s_l_word : Stmt := top 34
abbrev s_l_plus : Stmt := top 35
abbrev s_l_times : Stmt := top 36
abbrev s_l_sign : Stmt := top 37
abbrev s_l_pull : Stmt := top 38
abbrev s_l_led : Stmt := top 39
abbrev s_l_turned_about : Stmt := top 42
abbrev s_l_due : Stmt := top 43
abbrev s_law : Stmt := top 44
structure Txt (K : PySem.W.Frag) (mg : Str → Option Value) : Prop where
  base : True
  all_b : mg "all" = none
  enumerate_b : mg "enumerate" = none
  int_b : mg "int" = none
  len_b : mg "len" = none
  max_b : mg "max" = none
  min_b : mg "min" = none
  range_b : mg "range" = none
  reversed_b : mg "reversed" = none
  sorted_b : mg "sorted" = none
  sum_b : mg "sum" = none
  tuple_b : mg "tuple" = none
  zip_b : mg "zip" = none
  NOT_TOLD_c : ∃ t, mg "NOT_TOLD" = some (Value.int 2 t)
  NOUGHT_c : GTup K mg "NOUGHT" [(.int 0), (.int 0)]
  ONE_c : GTup K mg "ONE" [(.int 1), (.int 0)]
  PULLS_BELOW_NOUGHT_c : GDict K mg "PULLS_BELOW_NOUGHT" [(0, (.tup [(.int 2), (.int 0)])), (2, (.tup [(.int 0), (.int 0)])), (3, (.tup [(.int 1), (.int 0)])), (4, (.tup [(.int 2), (.int 0)])), (5, (.tup [(.int 0), (.int 1)])), (6, (.tup [(.int 3), (.int 0)]))]
noncomputable def F_plus : FS := (retF (tupF (consA (bind2 addX (bind2 ixD (vF 0) (cF (.int 0))) (bind2 ixD (vF 1) (cF (.int 0)))) (consA (bind2 addX (bind2 ixD (vF 0) (cF (.int 1))) (bind2 ixD (vF 1) (cF (.int 1)))) nilA))))
noncomputable def g_plus : List D → Option D := denF 2 F_plus
theorem sc_plus : FnScope ["x", "y"] ["x", "y"] (defScope s_plus) := ⟨rfl, rfl, rfl, by decide +kernel, rfl, by decide +kernel, by decide +kernel⟩
theorem ok_plus {P : Program} {w : World} {K : PySem.W.Frag} {mg : Str → Option Value} {base : Heap} {f : Addr} {fd : FuncData} (Fn : Fun K "plus" "plus" s_plus f fd) (T : Txt K mg)  :
    FnOk P w K mg base CX0 1 f fd ["x", "y"] (spF K 2 g_plus) :=
  fn_den (k := 0) (m := 2) (F := F_plus) rfl rfl Fn sc_plus fun cdv A outer s H E hr => (dss_one (ds_ret (d_tup (da_cons (d_addX (DE.dr (d_ix (DE.dr (dv 0)) (DE.dr d_int))) (DE.dr (d_ix (DE.dr (dv 1)) (DE.dr d_int)))) (da_cons (d_addX (DE.dr (d_ix (DE.dr (dv 0)) (DE.dr d_int))) (DE.dr (d_ix (DE.dr (dv 1)) (DE.dr d_int)))) da_nil)))))
noncomputable def F_times : FS := (seqF (asgF 2 (bind2 mulD (bind2 ixD (vF 0) (cF (.int 1))) (bind2 ixD (vF 1) (cF (.int 1))))) (retF (tupF (consA (bind2 addX (bind2 mulD (bind2 ixD (vF 0) (cF (.int 0))) (bind2 ixD (vF 1) (cF (.int 0)))) (vF 2)) (consA (bind2 addX (bind2 addX (bind2 mulD (bind2 ixD (vF 0) (cF (.int 0))) (bind2 ixD (vF 1) (cF (.int 1)))) (bind2 mulD (bind2 ixD (vF 0) (cF (.int 1))) (bind2 ixD (vF 1) (cF (.int 0))))) (vF 2)) nilA)))))
noncomputable def g_times : List D → Option D := denF 3 F_times
theorem sc_times : FnScope ["x", "y", "both"] ["x", "y"] (defScope s_times) := ⟨rfl, rfl, rfl, by decide +kernel, rfl, by decide +kernel, by decide +kernel⟩
theorem ok_times {P : Program} {w : World} {K : PySem.W.Frag} {mg : Str → Option Value} {base : Heap} {f : Addr} {fd : FuncData} (Fn : Fun K "times" "times" s_times f fd) (T : Txt K mg)  :
    FnOk P w K mg base CX0 1 f fd ["x", "y"] (spF K 2 g_times) :=
  fn_den (k := 0) (m := 3) (F := F_times) rfl rfl Fn sc_times fun cdv A outer s H E hr => (dss_cons (ds_asg 2 sc_times.nd (d_mul (DE.dr (d_ix (DE.dr (dv 0)) (DE.dr d_int))) (DE.dr (d_ix (DE.dr (dv 1)) (DE.dr d_int))))) (dss_one (ds_ret (d_tup (da_cons (d_addX (DE.dr (d_mul (DE.dr (d_ix (DE.dr (dv 0)) (DE.dr d_int))) (DE.dr (d_ix (DE.dr (dv 1)) (DE.dr d_int))))) (DE.dr (dv 2))) (da_cons (d_addX (DE.dr (d_addX (DE.dr (d_mul (DE.dr (d_ix (DE.dr (dv 0)) (DE.dr d_int))) (DE.dr (d_ix (DE.dr (dv 1)) (DE.dr d_int))))) (DE.dr (d_mul (DE.dr (d_ix (DE.dr (dv 0)) (DE.dr d_int))) (DE.dr (d_ix (DE.dr (dv 1)) (DE.dr d_int))))))) (DE.dr (dv 2))) da_nil))))))
noncomputable def F_minus : FS := (retF (tupF (consA (bind1 negD (bind2 ixD (vF 0) (cF (.int 0)))) (consA (bind1 negD (bind2 ixD (vF 0) (cF (.int 1)))) nilA))))
noncomputable def g_minus : List D → Option D := denF 1 F_minus
theorem sc_minus : FnScope ["x"] ["x"] (defScope s_minus) := ⟨rfl, rfl, rfl, by decide +kernel, rfl, by decide +kernel, by decide +kernel⟩
theorem ok_minus {P : Program} {w : World} {K : PySem.W.Frag} {mg : Str → Option Value} {base : Heap} {f : Addr} {fd : FuncData} (Fn : Fun K "minus" "minus" s_minus f fd) (T : Txt K mg)  :
    FnOk P w K mg base CX0 1 f fd ["x"] (spF K 1 g_minus) :=
  fn_den (k := 0) (m := 1) (F := F_minus) rfl rfl Fn sc_minus fun cdv A outer s H E hr => (dss_one (ds_ret (d_tup (da_cons (d_neg (DE.dr (d_ix (DE.dr (dv 0)) (DE.dr d_int)))) (da_cons (d_neg (DE.dr (d_ix (DE.dr (dv 0)) (DE.dr d_int)))) da_nil)))))
noncomputable def F_whole_sign : FS := (seqF (ifS (blF (bind2 gtD (vF 0) (cF (.int 0)))) (retF (cF (.int 1))) nxF) (seqF (ifS (blF (bind2 ltD (vF 0) (cF (.int 0)))) (retF (bind1 negD (cF (.int 1)))) nxF) (retF (cF (.int 0)))))
noncomputable def g_whole_sign : List D → Option D := denF 1 F_whole_sign
theorem sc_whole_sign : FnScope ["number"] ["number"] (defScope s_whole_sign) := ⟨rfl, rfl, rfl, by decide +kernel, rfl, by decide +kernel, by decide +kernel⟩
theorem ok_whole_sign {P : Program} {w : World} {K : PySem.W.Frag} {mg : Str → Option Value} {base : Heap} {f : Addr} {fd : FuncData} (Fn : Fun K "whole_sign" "whole_sign" s_whole_sign f fd) (T : Txt K mg)  :
    FnOk P w K mg base CX0 1 f fd ["number"] (spF K 1 g_whole_sign) :=
  fn_den (k := 0) (m := 1) (F := F_whole_sign) rfl rfl Fn sc_whole_sign fun cdv A outer s H E hr => (dss_cons (ds_if (dt_gt (DE.dr (dv 0)) (DE.dr d_int)) (dss_one (ds_ret d_int)) dss_nil) (dss_cons (ds_if (dt_lt (DE.dr (dv 0)) (DE.dr d_int)) (dss_one (ds_ret (d_neg (DE.dr d_int)))) dss_nil) (dss_one (ds_ret d_int))))
noncomputable def F_sign : FS := (seqF (asgF 1 (appF g_whole_sign (consA (bind2 ixD (vF 0) (cF (.int 0))) nilA))) (seqF (asgF 2 (appF g_whole_sign (consA (bind2 ixD (vF 0) (cF (.int 1))) nilA))) (seqF (ifS (blF (bind2 geD (bind2 mulD (vF 1) (vF 2)) (cF (.int 0)))) (retF (appF g_whole_sign (consA (bind2 addX (vF 1) (vF 2)) nilA))) nxF) (seqF (asgF 3 (bind2 subD (bind2 addX (bind2 mulD (bind2 ixD (vF 0) (cF (.int 0))) (bind2 ixD (vF 0) (cF (.int 0)))) (bind2 mulD (bind2 ixD (vF 0) (cF (.int 0))) (bind2 ixD (vF 0) (cF (.int 1))))) (bind2 mulD (bind2 ixD (vF 0) (cF (.int 1))) (bind2 ixD (vF 0) (cF (.int 1)))))) (retF (bind2 mulD (vF 1) (appF g_whole_sign (consA (vF 3) nilA))))))))
noncomputable def g_sign : List D → Option D := denF 4 F_sign
theorem sc_sign : FnScope ["x", "whole", "golden", "product"] ["x"] (defScope s_sign) := ⟨rfl, rfl, rfl, by decide +kernel, rfl, by decide +kernel, by decide +kernel⟩
theorem ok_sign {P : Program} {w : World} {K : PySem.W.Frag} {mg : Str → Option Value} {base : Heap} {f : Addr} {fd : FuncData} (Fn : Fun K "sign" "sign" s_sign f fd) (T : Txt K mg) (h_whole_sign : HasFn P w K mg base 1 "whole_sign" 1 g_whole_sign) :
    FnOk P w K mg base CX0 2 f fd ["x"] (spF K 1 g_sign) :=
  fn_den (k := 1) (m := 4) (F := F_sign) rfl rfl Fn sc_sign fun cdv A outer s H E hr => (dss_cons (ds_asg 1 sc_sign.nd (d_callH h_whole_sign (hr.mono (by decide)) rfl (da_cons (d_ix (DE.dr (dv 0)) (DE.dr d_int)) da_nil) (lenAS lenA0))) (dss_cons (ds_asg 2 sc_sign.nd (d_callH h_whole_sign (hr.mono (by decide)) rfl (da_cons (d_ix (DE.dr (dv 0)) (DE.dr d_int)) da_nil) (lenAS lenA0))) (dss_cons (ds_if (dt_ge (DE.dr (d_mul (DE.dr (dv 1)) (DE.dr (dv 2)))) (DE.dr d_int)) (dss_one (ds_ret (d_callH h_whole_sign (hr.mono (by decide)) rfl (da_cons (d_addX (DE.dr (dv 1)) (DE.dr (dv 2))) da_nil) (lenAS lenA0)))) dss_nil) (dss_cons (ds_asg 3 sc_sign.nd (d_sub (DE.dr (d_addX (DE.dr (d_mul (DE.dr (d_ix (DE.dr (dv 0)) (DE.dr d_int))) (DE.dr (d_ix (DE.dr (dv 0)) (DE.dr d_int))))) (DE.dr (d_mul (DE.dr (d_ix (DE.dr (dv 0)) (DE.dr d_int))) (DE.dr (d_ix (DE.dr (dv 0)) (DE.dr d_int))))))) (DE.dr (d_mul (DE.dr (d_ix (DE.dr (dv 0)) (DE.dr d_int))) (DE.dr (d_ix (DE.dr (dv 0)) (DE.dr d_int))))))) (dss_one (ds_ret (d_mul (DE.dr (dv 1)) (DE.dr (d_callH h_whole_sign (hr.mono (by decide)) rfl (da_cons (dv 3) da_nil) (lenAS lenA0))))))))))
noncomputable def F_turn_of : FS := (seqF (asgF 3 (appF minD (consA (vF 1) (consA (vF 2) nilA)))) (seqF (asgF 4 (appF maxD (consA (vF 1) (consA (vF 2) nilA)))) (seqF (forF (seqItems (bind2 ixD (vF 0) (cF (.int 1)))) (tupG 3 (consG (nameG 5) (consG (nameG 6) (consG (nameG 7) nilG)))) (ifS (andT (blF (bind2 eqF (vF 5) (vF 3))) (blF (bind2 eqF (vF 6) (vF 4)))) (retF (vF 7)) nxF)) (retF (cF (.int 2))))))
noncomputable def g_turn_of : List D → Option D := denF 8 F_turn_of
theorem sc_turn_of : FnScope ["house", "i", "j", "lesser", "greater", "first", "second", "m"] ["house", "i", "j"] (defScope s_turn_of) := ⟨rfl, rfl, rfl, by decide +kernel, rfl, by decide +kernel, by decide +kernel⟩
theorem ok_turn_of {P : Program} {w : World} {K : PySem.W.Frag} {mg : Str → Option Value} {base : Heap} {f : Addr} {fd : FuncData} (Fn : Fun K "turn_of" "turn_of" s_turn_of f fd) (T : Txt K mg)  :
    FnOk P w K mg base CX0 1 f fd ["house", "i", "j"] (spF K 3 g_turn_of) :=
  fn_den (k := 0) (m := 8) (F := F_turn_of) rfl rfl Fn sc_turn_of fun cdv A outer s H E hr => (dss_cons (ds_asg 3 sc_turn_of.nd (d_callB (call_min2 rfl) fnR_min rfl T.min_b (by rfl) (dar_cons (DE.dr (dv 1)) (dar_cons (DE.dr (dv 2)) dar_nil)))) (dss_cons (ds_asg 4 sc_turn_of.nd (d_callB (call_max2 rfl) fnR_max rfl T.max_b (by rfl) (dar_cons (DE.dr (dv 1)) (dar_cons (DE.dr (dv 2)) dar_nil)))) (dss_cons (ds_for PassesOwn.never rfl (di_seq (d_ix (DE.dr (dv 0)) (DE.dr d_int))) (dg_tup rfl (dgs_cons (dg_name 5 sc_turn_of.nd) (dgs_cons (dg_name 6 sc_turn_of.nd) (dgs_cons (dg_name 7 sc_turn_of.nd) dgs_nil)))) (dss_one (ds_if (DW.dt (dw_and (dt_eq hr (DE.dr (dv 5)) (DE.dr (dv 3))) (dw_and1 (dt_eq hr (DE.dr (dv 6)) (DE.dr (dv 4)))))) (dss_one (ds_ret (dv 7))) dss_nil))) (dss_one (ds_ret (d_gint rfl T.NOT_TOLD_c))))))
noncomputable def F_pull : FS := (seqF (ifS (blF (bind2 eqF (vF 1) (vF 2))) (retF (tupF (consA (cF (.int 2)) (consA (cF (.int 0)) nilA)))) nxF) (seqF (asgF 3 (appF g_turn_of (consA (vF 0) (consA (vF 1) (consA (vF 2) nilA))))) (seqF (ifS (andT (blF (bind2 gtD (vF 1) (vF 2))) (blF (bind2 (inD false) (vF 3) (tupF (consA (cF (.int 4)) (consA (cF (.int 6)) nilA)))))) (retF (tupF (consA (bind1 negD (cF (.int 1))) (consA (cF (.int 0)) nilA)))) nxF) (retF (appF g_minus (consA (bind1 (lookD [(0, (.tup [(.int 2), (.int 0)])), (2, (.tup [(.int 0), (.int 0)])), (3, (.tup [(.int 1), (.int 0)])), (4, (.tup [(.int 2), (.int 0)])), (5, (.tup [(.int 0), (.int 1)])), (6, (.tup [(.int 3), (.int 0)]))]) (vF 3)) nilA))))))
noncomputable def g_pull : List D → Option D := denF 4 F_pull
theorem sc_pull : FnScope ["house", "i", "j", "turn"] ["house", "i", "j"] (defScope s_pull) := ⟨rfl, rfl, rfl, by decide +kernel, rfl, by decide +kernel, by decide +kernel⟩
theorem ok_pull {P : Program} {w : World} {K : PySem.W.Frag} {mg : Str → Option Value} {base : Heap} {f : Addr} {fd : FuncData} (Fn : Fun K "pull" "pull" s_pull f fd) (T : Txt K mg) (h_minus : HasFn P w K mg base 1 "minus" 1 g_minus) (h_turn_of : HasFn P w K mg base 1 "turn_of" 3 g_turn_of) :
    FnOk P w K mg base CX0 2 f fd ["house", "i", "j"] (spF K 3 g_pull) :=
  fn_den (k := 1) (m := 4) (F := F_pull) rfl rfl Fn sc_pull fun cdv A outer s H E hr => (dss_cons (ds_if (dt_eq hr (DE.dr (dv 1)) (DE.dr (dv 2))) (dss_one (ds_ret (d_tup (da_cons d_int (da_cons d_int da_nil))))) dss_nil) (dss_cons (ds_asg 3 sc_pull.nd (d_callH h_turn_of (hr.mono (by decide)) rfl (da_cons (dv 0) (da_cons (dv 1) (da_cons (dv 2) da_nil))) (lenAS (lenAS (lenAS lenA0))))) (dss_cons (ds_if (DW.dt (dw_and (dt_gt (DE.dr (dv 1)) (DE.dr (dv 2))) (dw_and1 (dt_in hr (DE.dr (dv 3)) (DE.dr (d_tup (da_cons d_int (da_cons d_int da_nil)))))))) (dss_one (ds_ret (d_tup (da_cons (d_neg (DE.dr d_int)) (da_cons d_int da_nil))))) dss_nil) (dss_one (ds_ret (d_callH h_minus (hr.mono (by decide)) rfl (da_cons (d_gdict rfl T.PULLS_BELOW_NOUGHT_c (DE.dr (dv 3))) da_nil) (lenAS lenA0)))))))
noncomputable def F_simple : FS := (retF (appF tupleD (consA (mapLst (compF 1 [1] (rng1 (consA (bind2 ixD (vF 0) (cF (.int 0))) nilA)) (nameG 0) ttF (ifF (blF (bind2 eqF (vF 0) (vF 1))) (cF (.tup [(.int 1), (.int 0)])) (cF (.tup [(.int 0), (.int 0)]))))) nilA)))
noncomputable def g_simple : List D → Option D := denF 2 F_simple
theorem sc_simple : FnScope ["house", "i"] ["house", "i"] (defScope s_simple) := ⟨rfl, rfl, rfl, by decide +kernel, rfl, by decide +kernel, by decide +kernel⟩
theorem ok_simple {P : Program} {w : World} {K : PySem.W.Frag} {mg : Str → Option Value} {base : Heap} {f : Addr} {fd : FuncData} (Fn : Fun K "simple" "simple" s_simple f fd) (T : Txt K mg)  :
    FnOk P w K mg base CX0 1 f fd ["house", "i"] (spF K 2 g_simple) :=
  fn_den (k := 0) (m := 2) (F := F_simple) rfl rfl Fn sc_simple fun cdv A outer s H E hr => (dss_one (ds_ret (d_callTy call_tuple_of fnR_tuple rfl T.tuple_b (by rfl) (dar_cons (DE.dr (DN.de (dn_comp (own := ["j"]) (frees := ["i"]) (caps := [1]) rfl (.of (by kernel_rfl)) rfl kn_name (di_range1 rfl T.range_b (dar_cons (DE.dr (d_ix (DE.dr (dv 0)) (DE.dr d_int))) dar_nil)) (fun cl C s H fp => ⟨(dg_name 0 (show List.Nodup (["j", "i"] : List Str) from by decide +kernel)), dq_nil, (d_ifExp (dt_eq hr (DE.dr (dv 0)) (DE.dr (dv 1))) (d_gtup rfl T.ONE_c) (d_gtup rfl T.NOUGHT_c))⟩)))) dar_nil))))
noncomputable def F_mirrored : FS := (seqF (asgF 3 (cF (.tup [(.int 0), (.int 0)]))) (seqF (forF (itemsE (vF 2)) (tupG 2 (consG (nameG 4) (consG (nameG 5) nilG))) (asgF 3 (appF g_plus (consA (vF 3) (consA (appF g_times (consA (appF g_pull (consA (vF 0) (consA (vF 1) (consA (vF 4) nilA)))) (consA (vF 5) nilA))) nilA))))) (retF (bind2 addX (bind2 addX (sliceF (vF 2) noP (exP (vF 1))) (tupF (consA (appF g_plus (consA (bind2 ixD (vF 2) (vF 1)) (consA (appF g_minus (consA (vF 3) nilA)) nilA))) nilA))) (sliceF (vF 2) (exP (bind2 addX (vF 1) (cF (.int 1)))) noP)))))
noncomputable def g_mirrored : List D → Option D := denF 6 F_mirrored
theorem sc_mirrored : FnScope ["house", "i", "row", "less", "j", "number"] ["house", "i", "row"] (defScope s_mirrored) := ⟨rfl, rfl, rfl, by decide +kernel, rfl, by decide +kernel, by decide +kernel⟩
theorem ok_mirrored {P : Program} {w : World} {K : PySem.W.Frag} {mg : Str → Option Value} {base : Heap} {f : Addr} {fd : FuncData} (Fn : Fun K "mirrored" "mirrored" s_mirrored f fd) (T : Txt K mg) (h_minus : HasFn P w K mg base 1 "minus" 1 g_minus) (h_plus : HasFn P w K mg base 1 "plus" 2 g_plus) (h_pull : HasFn P w K mg base 2 "pull" 3 g_pull) (h_times : HasFn P w K mg base 1 "times" 2 g_times) :
    FnOk P w K mg base CX0 3 f fd ["house", "i", "row"] (spF K 3 g_mirrored) :=
  fn_den (k := 2) (m := 6) (F := F_mirrored) rfl rfl Fn sc_mirrored fun cdv A outer s H E hr => (dss_cons (ds_asg 3 sc_mirrored.nd (d_gtup rfl T.NOUGHT_c)) (dss_cons (ds_for PassesOwn.never rfl (di_enum rfl T.enumerate_b (dv 2)) (dg_tup rfl (dgs_cons (dg_name 4 sc_mirrored.nd) (dgs_cons (dg_name 5 sc_mirrored.nd) dgs_nil))) (dss_one (ds_asg 3 sc_mirrored.nd (d_callH h_plus (hr.mono (by decide)) rfl (da_cons (dv 3) (da_cons (d_callH h_times (hr.mono (by decide)) rfl (da_cons (d_callH h_pull (hr.mono (by decide)) rfl (da_cons (dv 0) (da_cons (dv 1) (da_cons (dv 4) da_nil))) (lenAS (lenAS (lenAS lenA0)))) (da_cons (dv 5) da_nil)) (lenAS (lenAS lenA0))) da_nil)) (lenAS (lenAS lenA0)))))) (dss_one (ds_ret (d_addX (DE.dr (d_addX (DE.dr (d_slice (DE.dr (dv 2)) dp_no (dp_ex (DE.dr (dv 1))))) (DE.dr (d_tup (da_cons (d_callH h_plus (hr.mono (by decide)) rfl (da_cons (d_ix (DE.dr (dv 2)) (DE.dr (dv 1))) (da_cons (d_callH h_minus (hr.mono (by decide)) rfl (da_cons (dv 3) da_nil) (lenAS lenA0)) da_nil)) (lenAS (lenAS lenA0))) da_nil))))) (DE.dr (d_slice (DE.dr (dv 2)) (dp_ex (DE.dr (d_addX (DE.dr (dv 1)) (DE.dr d_int)))) dp_no)))))))
noncomputable def F_led : FS := (seqF (forF (itemsB (vF 1)) (nameG 3) (asgF 2 (appF g_mirrored (consA (vF 0) (consA (vF 3) (consA (vF 2) nilA)))))) (retF (vF 2)))
noncomputable def g_led : List D → Option D := denF 4 F_led
theorem sc_led : FnScope ["house", "word", "row", "mirror"] ["house", "word", "row"] (defScope s_led) := ⟨rfl, rfl, rfl, by decide +kernel, rfl, by decide +kernel, by decide +kernel⟩
theorem ok_led {P : Program} {w : World} {K : PySem.W.Frag} {mg : Str → Option Value} {base : Heap} {f : Addr} {fd : FuncData} (Fn : Fun K "led" "led" s_led f fd) (T : Txt K mg) (h_mirrored : HasFn P w K mg base 3 "mirrored" 3 g_mirrored) :
    FnOk P w K mg base CX0 4 f fd ["house", "word", "row"] (spF K 3 g_led) :=
  fn_den (k := 3) (m := 4) (F := F_led) rfl rfl Fn sc_led fun cdv A outer s H E hr => (dss_cons (ds_for PassesOwn.never rfl (di_rev rfl T.reversed_b (dv 1)) (dg_name 3 sc_led.nd) (dss_one (ds_asg 2 sc_led.nd (d_callH h_mirrored (hr.mono (by decide)) rfl (da_cons (dv 0) (da_cons (dv 3) (da_cons (dv 2) da_nil))) (lenAS (lenAS (lenAS lenA0))))))) (dss_one (ds_ret (dv 2))))
noncomputable def F_images : FS := (retF (mapLst (compF 1 [0, 1] (rng1 (consA (bind2 ixD (vF 0) (cF (.int 0))) nilA)) (nameG 0) ttF (appF g_led (consA (vF 1) (consA (vF 2) (consA (appF g_simple (consA (vF 1) (consA (vF 0) nilA))) nilA)))))))
noncomputable def g_images : List D → Option D := denF 2 F_images
theorem sc_images : FnScope ["house", "word"] ["house", "word"] (defScope s_images) := ⟨rfl, rfl, rfl, by decide +kernel, rfl, by decide +kernel, by decide +kernel⟩
theorem ok_images {P : Program} {w : World} {K : PySem.W.Frag} {mg : Str → Option Value} {base : Heap} {f : Addr} {fd : FuncData} (Fn : Fun K "images" "images" s_images f fd) (T : Txt K mg) (h_led : HasFn P w K mg base 4 "led" 3 g_led) (h_simple : HasFn P w K mg base 1 "simple" 2 g_simple) :
    FnOk P w K mg base CX0 5 f fd ["house", "word"] (spF K 2 g_images) :=
  fn_den (k := 4) (m := 2) (F := F_images) rfl rfl Fn sc_images fun cdv A outer s H E hr => (dss_one (ds_ret (DN.de (dn_comp (own := ["i"]) (frees := ["house", "word"]) (caps := [0, 1]) rfl (.of (by kernel_rfl)) rfl kn_name (di_range1 rfl T.range_b (dar_cons (DE.dr (d_ix (DE.dr (dv 0)) (DE.dr d_int))) dar_nil)) (fun cl C s H fp => ⟨(dg_name 0 (show List.Nodup (["i", "house", "word"] : List Str) from by decide +kernel)), dq_nil, (d_callH h_led (hr.mono (by decide)) rfl (da_cons (dv 1) (da_cons (dv 2) (da_cons (d_callH h_simple (hr.mono (by decide)) rfl (da_cons (dv 1) (da_cons (dv 0) da_nil)) (lenAS (lenAS lenA0))) da_nil))) (lenAS (lenAS (lenAS lenA0))))⟩)))))
noncomputable def F_less_by : FS := (retF (appF tupleD (consA (mapLst (compF 2 [1] (itemsZ (vF 0) (vF 2)) (tupG 2 (consG (nameG 0) (consG (nameG 1) nilG))) ttF (appF g_plus (consA (vF 0) (consA (appF g_minus (consA (appF g_times (consA (vF 2) (consA (vF 1) nilA))) nilA)) nilA))))) nilA)))
noncomputable def g_less_by : List D → Option D := denF 3 F_less_by
theorem sc_less_by : FnScope ["row", "factor", "other"] ["row", "factor", "other"] (defScope s_less_by) := ⟨rfl, rfl, rfl, by decide +kernel, rfl, by decide +kernel, by decide +kernel⟩
theorem ok_less_by {P : Program} {w : World} {K : PySem.W.Frag} {mg : Str → Option Value} {base : Heap} {f : Addr} {fd : FuncData} (Fn : Fun K "less_by" "less_by" s_less_by f fd) (T : Txt K mg) (h_minus : HasFn P w K mg base 1 "minus" 1 g_minus) (h_plus : HasFn P w K mg base 1 "plus" 2 g_plus) (h_times : HasFn P w K mg base 1 "times" 2 g_times) :
    FnOk P w K mg base CX0 2 f fd ["row", "factor", "other"] (spF K 3 g_less_by) :=
  fn_den (k := 1) (m := 3) (F := F_less_by) rfl rfl Fn sc_less_by fun cdv A outer s H E hr => (dss_one (ds_ret (d_callTy call_tuple_of fnR_tuple rfl T.tuple_b (by rfl) (dar_cons (DE.dr (DN.de (dn_comp (own := ["x", "y"]) (frees := ["factor"]) (caps := [1]) rfl (.of (by kernel_rfl)) rfl (kn_tup (kns_cons kn_name (kns_cons kn_name kns_nil))) (di_zip rfl T.zip_b (dv 0) (dv 2)) (fun cl C s H fp => ⟨(dg_tup rfl (dgs_cons (dg_name 0 (show List.Nodup (["x", "y", "factor"] : List Str) from by decide +kernel)) (dgs_cons (dg_name 1 (show List.Nodup (["x", "y", "factor"] : List Str) from by decide +kernel)) dgs_nil))), dq_nil, (d_callH h_plus (hr.mono (by decide)) rfl (da_cons (dv 0) (da_cons (d_callH h_minus (hr.mono (by decide)) rfl (da_cons (d_callH h_times (hr.mono (by decide)) rfl (da_cons (dv 2) (da_cons (dv 1) da_nil)) (lenAS (lenAS lenA0))) da_nil) (lenAS lenA0)) da_nil)) (lenAS (lenAS lenA0)))⟩)))) dar_nil))))
noncomputable def F_images_with_behind : FS := (retF (mapLst (compF 2 [0, 2, 1] (itemsE (vF 1)) (tupG 2 (consG (nameG 0) (consG (nameG 1) nilG))) ttF (appF g_less_by (consA (vF 1) (consA (appF g_pull (consA (vF 2) (consA (vF 3) (consA (vF 0) nilA)))) (consA (bind2 ixD (vF 4) (vF 3)) nilA)))))))
noncomputable def g_images_with_behind : List D → Option D := denF 3 F_images_with_behind
theorem sc_images_with_behind : FnScope ["house", "rows", "i"] ["house", "rows", "i"] (defScope s_images_with_behind) := ⟨rfl, rfl, rfl, by decide +kernel, rfl, by decide +kernel, by decide +kernel⟩
theorem ok_images_with_behind {P : Program} {w : World} {K : PySem.W.Frag} {mg : Str → Option Value} {base : Heap} {f : Addr} {fd : FuncData} (Fn : Fun K "images_with_behind" "images_with_behind" s_images_with_behind f fd) (T : Txt K mg) (h_less_by : HasFn P w K mg base 2 "less_by" 3 g_less_by) (h_pull : HasFn P w K mg base 2 "pull" 3 g_pull) :
    FnOk P w K mg base CX0 3 f fd ["house", "rows", "i"] (spF K 3 g_images_with_behind) :=
  fn_den (k := 2) (m := 3) (F := F_images_with_behind) rfl rfl Fn sc_images_with_behind fun cdv A outer s H E hr => (dss_one (ds_ret (DN.de (dn_comp (own := ["j", "row"]) (frees := ["house", "i", "rows"]) (caps := [0, 2, 1]) rfl (.of (by kernel_rfl)) rfl (kn_tup (kns_cons kn_name (kns_cons kn_name kns_nil))) (di_enum rfl T.enumerate_b (dv 1)) (fun cl C s H fp => ⟨(dg_tup rfl (dgs_cons (dg_name 0 (show List.Nodup (["j", "row", "house", "i", "rows"] : List Str) from by decide +kernel)) (dgs_cons (dg_name 1 (show List.Nodup (["j", "row", "house", "i", "rows"] : List Str) from by decide +kernel)) dgs_nil))), dq_nil, (d_callH h_less_by (hr.mono (by decide)) rfl (da_cons (dv 1) (da_cons (d_callH h_pull (hr.mono (by decide)) rfl (da_cons (dv 2) (da_cons (dv 3) (da_cons (dv 0) da_nil))) (lenAS (lenAS (lenAS lenA0)))) (da_cons (d_ix (DE.dr (dv 4)) (DE.dr (dv 3))) da_nil))) (lenAS (lenAS (lenAS lenA0))))⟩)))))
noncomputable def F_is_above : FS := (seqF (asgF 1 (mapLst (compF 1 [] (seqItems (vF 0)) (nameG 0) ttF (appF g_sign (consA (vF 0) nilA))))) (retF (andV (bind2 (inD false) (cF (.int 1)) (vF 1)) (bind2 (inD true) (bind1 negD (cF (.int 1))) (vF 1)))))
noncomputable def g_is_above : List D → Option D := denF 2 F_is_above
theorem sc_is_above : FnScope ["row", "signs"] ["row"] (defScope s_is_above) := ⟨rfl, rfl, rfl, by decide +kernel, rfl, by decide +kernel, by decide +kernel⟩
theorem ok_is_above {P : Program} {w : World} {K : PySem.W.Frag} {mg : Str → Option Value} {base : Heap} {f : Addr} {fd : FuncData} (Fn : Fun K "is_above" "is_above" s_is_above f fd) (T : Txt K mg) (h_sign : HasFn P w K mg base 2 "sign" 1 g_sign) :
    FnOk P w K mg base CX0 3 f fd ["row"] (spF K 1 g_is_above) :=
  fn_den (k := 2) (m := 2) (F := F_is_above) rfl rfl Fn sc_is_above fun cdv A outer s H E hr => (dss_cons (ds_asgComp 1 sc_is_above.nd (own := ["x"]) (frees := []) (caps := []) rfl (.of (by kernel_rfl)) rfl kn_name (di_seq (dv 0)) (fun cl C s H fp => ⟨(dg_name 0 (show List.Nodup (["x"] : List Str) from by decide +kernel)), dq_nil, (d_callH h_sign (hr.mono (by decide)) rfl (da_cons (dv 0) da_nil) (lenAS lenA0))⟩)) (dss_one (ds_ret (d_and (d_in hr (DE.dr d_int) (DE.dr (dv 1))) (d_one (d_notin hr (DE.dr (d_neg (DE.dr d_int))) (DE.dr (dv 1))))))))
noncomputable def F_is_below : FS := (seqF (asgF 1 (mapLst (compF 1 [] (seqItems (vF 0)) (nameG 0) ttF (appF g_sign (consA (vF 0) nilA))))) (retF (andV (bind2 (inD false) (bind1 negD (cF (.int 1))) (vF 1)) (bind2 (inD true) (cF (.int 1)) (vF 1)))))
noncomputable def g_is_below : List D → Option D := denF 2 F_is_below
theorem sc_is_below : FnScope ["row", "signs"] ["row"] (defScope s_is_below) := ⟨rfl, rfl, rfl, by decide +kernel, rfl, by decide +kernel, by decide +kernel⟩
theorem ok_is_below {P : Program} {w : World} {K : PySem.W.Frag} {mg : Str → Option Value} {base : Heap} {f : Addr} {fd : FuncData} (Fn : Fun K "is_below" "is_below" s_is_below f fd) (T : Txt K mg) (h_sign : HasFn P w K mg base 2 "sign" 1 g_sign) :
    FnOk P w K mg base CX0 3 f fd ["row"] (spF K 1 g_is_below) :=
  fn_den (k := 2) (m := 2) (F := F_is_below) rfl rfl Fn sc_is_below fun cdv A outer s H E hr => (dss_cons (ds_asgComp 1 sc_is_below.nd (own := ["x"]) (frees := []) (caps := []) rfl (.of (by kernel_rfl)) rfl kn_name (di_seq (dv 0)) (fun cl C s H fp => ⟨(dg_name 0 (show List.Nodup (["x"] : List Str) from by decide +kernel)), dq_nil, (d_callH h_sign (hr.mono (by decide)) rfl (da_cons (dv 0) da_nil) (lenAS lenA0))⟩)) (dss_one (ds_ret (d_and (d_in hr (DE.dr (d_neg (DE.dr d_int))) (DE.dr (dv 1))) (d_one (d_notin hr (DE.dr d_int) (DE.dr (dv 1))))))))
noncomputable def F_which_lengthen : FS := (seqF (asgN 2 (lstF nilA)) (seqF (asgF 3 (appF g_images (consA (vF 0) (consA (tupF nilA) nilA)))) (seqF (forF (seqItems (vF 1)) (nameG 4) (seqF (appendF 2 (appF g_is_above (consA (bind2 ixD (vF 3) (vF 4)) nilA))) (asgF 3 (appF g_images_with_behind (consA (vF 0) (consA (vF 3) (consA (vF 4) nilA))))))) (frzF 2 (retF (vF 2))))))
noncomputable def g_which_lengthen : List D → Option D := denF 5 F_which_lengthen
theorem sc_which_lengthen : FnScope ["house", "word", "told", "rows", "mirror"] ["house", "word"] (defScope s_which_lengthen) := ⟨rfl, rfl, rfl, by decide +kernel, rfl, by decide +kernel, by decide +kernel⟩
theorem ok_which_lengthen {P : Program} {w : World} {K : PySem.W.Frag} {mg : Str → Option Value} {base : Heap} {f : Addr} {fd : FuncData} (Fn : Fun K "which_lengthen" "which_lengthen" s_which_lengthen f fd) (T : Txt K mg) (h_images : HasFn P w K mg base 5 "images" 2 g_images) (h_images_with_behind : HasFn P w K mg base 3 "images_with_behind" 3 g_images_with_behind) (h_is_above : HasFn P w K mg base 3 "is_above" 1 g_is_above) :
    FnOk P w K mg base CX0 6 f fd ["house", "word"] (spF K 2 g_which_lengthen) :=
  fn_den (k := 5) (m := 5) (F := F_which_lengthen) rfl rfl Fn sc_which_lengthen fun cdv A outer s H E hr => (dss_cons (ds_asgN 2 sc_which_lengthen.nd (dn_lst da_nil)) (dss_cons (ds_asg 3 sc_which_lengthen.nd (d_callH h_images (hr.mono (by decide)) rfl (da_cons (dv 0) (da_cons (d_tup da_nil) da_nil)) (lenAS (lenAS lenA0)))) (dss_cons (ds_for PassesOwn.never rfl (di_seq (dv 1)) (dg_name 4 sc_which_lengthen.nd) (dss_cons (ds_append 2 (d_callH h_is_above (hr.mono (by decide)) rfl (da_cons (d_ix (DE.dr (dv 3)) (DE.dr (dv 4))) da_nil) (lenAS lenA0))) (dss_one (ds_asg 3 sc_which_lengthen.nd (d_callH h_images_with_behind (hr.mono (by decide)) rfl (da_cons (dv 0) (da_cons (dv 3) (da_cons (dv 4) da_nil))) (lenAS (lenAS (lenAS lenA0)))))))) (dss_frz 2 (dss_one (ds_ret (dv 2)))))))
noncomputable def F_is_short : FS := (retF (appF allD (consA (appF g_which_lengthen (consA (vF 0) (consA (vF 1) nilA))) nilA)))
noncomputable def g_is_short : List D → Option D := denF 2 F_is_short
theorem sc_is_short : FnScope ["house", "word"] ["house", "word"] (defScope s_is_short) := ⟨rfl, rfl, rfl, by decide +kernel, rfl, by decide +kernel, by decide +kernel⟩
theorem ok_is_short {P : Program} {w : World} {K : PySem.W.Frag} {mg : Str → Option Value} {base : Heap} {f : Addr} {fd : FuncData} (Fn : Fun K "is_short" "is_short" s_is_short f fd) (T : Txt K mg) (h_which_lengthen : HasFn P w K mg base 6 "which_lengthen" 2 g_which_lengthen) :
    FnOk P w K mg base CX0 7 f fd ["house", "word"] (spF K 2 g_is_short) :=
  fn_den (k := 6) (m := 2) (F := F_is_short) rfl rfl Fn sc_is_short fun cdv A outer s H E hr => (dss_one (ds_ret (d_callB (call_all rfl) fnR_all rfl T.all_b (by rfl) (dar_cons (DE.dr (d_callH h_which_lengthen (hr.mono (by decide)) rfl (da_cons (dv 0) (da_cons (dv 1) da_nil)) (lenAS (lenAS lenA0)))) dar_nil))))
noncomputable def F_length : FS := (retF (appF sumD (consA (mapLst (compF 1 [] (seqItems (appF g_which_lengthen (consA (vF 0) (consA (vF 1) nilA)))) (nameG 0) ttF (ifF (blF (vF 0)) (cF (.int 1)) (bind1 negD (cF (.int 1)))))) nilA)))
noncomputable def g_length : List D → Option D := denF 2 F_length
theorem sc_length : FnScope ["house", "word"] ["house", "word"] (defScope s_length) := ⟨rfl, rfl, rfl, by decide +kernel, rfl, by decide +kernel, by decide +kernel⟩
theorem ok_length {P : Program} {w : World} {K : PySem.W.Frag} {mg : Str → Option Value} {base : Heap} {f : Addr} {fd : FuncData} (Fn : Fun K "length" "length" s_length f fd) (T : Txt K mg) (h_which_lengthen : HasFn P w K mg base 6 "which_lengthen" 2 g_which_lengthen) :
    FnOk P w K mg base CX0 7 f fd ["house", "word"] (spF K 2 g_length) :=
  fn_den (k := 6) (m := 2) (F := F_length) rfl rfl Fn sc_length fun cdv A outer s H E hr => (dss_one (ds_ret (d_callB (call_sum rfl) fnR_sum rfl T.sum_b (by rfl) (dar_cons (DE.dr (DN.de (dn_comp (own := ["longer"]) (frees := []) (caps := []) rfl (.of (by kernel_rfl)) rfl kn_name (di_seq (d_callH h_which_lengthen (hr.mono (by decide)) rfl (da_cons (dv 0) (da_cons (dv 1) da_nil)) (lenAS (lenAS lenA0)))) (fun cl C s H fp => ⟨(dg_name 0 (show List.Nodup (["longer"] : List Str) from by decide +kernel)), dq_nil, (d_ifExp (dt_val (DE.dr (dv 0))) d_int (d_neg (DE.dr d_int)))⟩)))) dar_nil))))
noncomputable def F_first_below : FS := (seqF (forF (itemsE (vF 0)) (tupG 2 (consG (nameG 1) (consG (nameG 2) nilG))) (ifS (blF (appF g_is_below (consA (vF 2) nilA))) (retF (vF 1)) nxF)) (retF (cF .non)))
noncomputable def g_first_below : List D → Option D := denF 3 F_first_below
theorem sc_first_below : FnScope ["rows", "mirror", "row"] ["rows"] (defScope s_first_below) := ⟨rfl, rfl, rfl, by decide +kernel, rfl, by decide +kernel, by decide +kernel⟩
theorem ok_first_below {P : Program} {w : World} {K : PySem.W.Frag} {mg : Str → Option Value} {base : Heap} {f : Addr} {fd : FuncData} (Fn : Fun K "first_below" "first_below" s_first_below f fd) (T : Txt K mg) (h_is_below : HasFn P w K mg base 3 "is_below" 1 g_is_below) :
    FnOk P w K mg base CX0 4 f fd ["rows"] (spF K 1 g_first_below) :=
  fn_den (k := 3) (m := 3) (F := F_first_below) rfl rfl Fn sc_first_below fun cdv A outer s H E hr => (dss_cons (ds_for PassesOwn.never rfl (di_enum rfl T.enumerate_b (dv 0)) (dg_tup rfl (dgs_cons (dg_name 1 sc_first_below.nd) (dgs_cons (dg_name 2 sc_first_below.nd) dgs_nil))) (dss_one (ds_if (dt_val (DE.dr (d_callH h_is_below (hr.mono (by decide)) rfl (da_cons (dv 2) da_nil) (lenAS lenA0)))) (dss_one (ds_ret (dv 1))) dss_nil))) (dss_one (ds_ret d_non)))
noncomputable def F_least : FS := (seqF (asgN 2 (lstF nilA)) (seqF (asgF 3 (appF g_images (consA (vF 0) (consA (revT (vF 1)) nilA)))) (seqF (asgF 4 (appF g_first_below (consA (vF 3) nilA))) (seqF (whileF (blF (bind2 (isD true) (vF 4) (cF .non))) (seqF (appendF 2 (vF 4)) (seqF (asgF 3 (appF g_images_with_behind (consA (vF 0) (consA (vF 3) (consA (vF 4) nilA))))) (asgF 4 (appF g_first_below (consA (vF 3) nilA))))) 100000) (retF (appF tupleD (consA (vR 2) nilA)))))))
noncomputable def g_least : List D → Option D := denF 5 F_least
theorem sc_least : FnScope ["house", "word", "signs", "rows", "mirror"] ["house", "word"] (defScope s_least) := ⟨rfl, rfl, rfl, by decide +kernel, rfl, by decide +kernel, by decide +kernel⟩
theorem ok_least {P : Program} {w : World} {K : PySem.W.Frag} {mg : Str → Option Value} {base : Heap} {f : Addr} {fd : FuncData} (Fn : Fun K "least" "least" s_least f fd) (T : Txt K mg) (h_first_below : HasFn P w K mg base 4 "first_below" 1 g_first_below) (h_images : HasFn P w K mg base 5 "images" 2 g_images) (h_images_with_behind : HasFn P w K mg base 3 "images_with_behind" 3 g_images_with_behind) :
    FnOk P w K mg base CX0 6 f fd ["house", "word"] (spF K 2 g_least) :=
  fn_den (k := 5) (m := 5) (F := F_least) rfl rfl Fn sc_least fun cdv A outer s H E hr => (dss_cons (ds_asgN 2 sc_least.nd (dn_lst da_nil)) (dss_cons (ds_asg 3 sc_least.nd (d_callH h_images (hr.mono (by decide)) rfl (da_cons (dv 0) (da_cons (d_tupRev rfl rfl T.tuple_b rfl T.reversed_b (dv 1)) da_nil)) (lenAS (lenAS lenA0)))) (dss_cons (ds_asg 4 sc_least.nd (d_callH h_first_below (hr.mono (by decide)) rfl (da_cons (dv 3) da_nil) (lenAS lenA0))) (dss_cons (ds_while 100000 PassesOwn.never (dt_isnot (DE.dr (dv 4)) (DE.dr d_non)) (dss_cons (ds_append 2 (dv 4)) (dss_cons (ds_asg 3 sc_least.nd (d_callH h_images_with_behind (hr.mono (by decide)) rfl (da_cons (dv 0) (da_cons (dv 3) (da_cons (dv 4) da_nil))) (lenAS (lenAS (lenAS lenA0))))) (dss_one (ds_asg 4 sc_least.nd (d_callH h_first_below (hr.mono (by decide)) rfl (da_cons (dv 3) da_nil) (lenAS lenA0))))))) (dss_one (ds_ret (d_callTy call_tuple_of fnR_tuple rfl T.tuple_b (by rfl) (dar_cons (dvr 2) dar_nil))))))))
noncomputable def F_turned : FS := (seqF (asgF 2 (ifF (blF (appF g_is_short (consA (vF 0) (consA (vF 1) nilA)))) (vF 1) (appF g_least (consA (vF 0) (consA (vF 1) nilA))))) (seqF (asgN 3 (lstF nilA)) (seqF (asgF 4 (appF g_images (consA (vF 0) (consA (tupF nilA) nilA)))) (seqF (forF (itemsB (vF 2)) (nameG 5) (seqF (appendF 3 (bind2 ixD (vF 4) (vF 5))) (asgF 4 (appF g_images_with_behind (consA (vF 0) (consA (vF 4) (consA (vF 5) nilA))))))) (frzF 3 (retF (vF 3)))))))
noncomputable def g_turned : List D → Option D := denF 6 F_turned
theorem sc_turned : FnScope ["house", "word", "short", "roots", "rows", "mirror"] ["house", "word"] (defScope s_turned) := ⟨rfl, rfl, rfl, by decide +kernel, rfl, by decide +kernel, by decide +kernel⟩
theorem ok_turned {P : Program} {w : World} {K : PySem.W.Frag} {mg : Str → Option Value} {base : Heap} {f : Addr} {fd : FuncData} (Fn : Fun K "turned" "turned" s_turned f fd) (T : Txt K mg) (h_images : HasFn P w K mg base 5 "images" 2 g_images) (h_images_with_behind : HasFn P w K mg base 3 "images_with_behind" 3 g_images_with_behind) (h_is_short : HasFn P w K mg base 7 "is_short" 2 g_is_short) (h_least : HasFn P w K mg base 6 "least" 2 g_least) :
    FnOk P w K mg base CX0 8 f fd ["house", "word"] (spF K 2 g_turned) :=
  fn_den (k := 7) (m := 6) (F := F_turned) rfl rfl Fn sc_turned fun cdv A outer s H E hr => (dss_cons (ds_asg 2 sc_turned.nd (d_ifExp (dt_val (DE.dr (d_callH h_is_short (hr.mono (by decide)) rfl (da_cons (dv 0) (da_cons (dv 1) da_nil)) (lenAS (lenAS lenA0))))) (dv 1) (d_callH h_least (hr.mono (by decide)) rfl (da_cons (dv 0) (da_cons (dv 1) da_nil)) (lenAS (lenAS lenA0))))) (dss_cons (ds_asgN 3 sc_turned.nd (dn_lst da_nil)) (dss_cons (ds_asg 4 sc_turned.nd (d_callH h_images (hr.mono (by decide)) rfl (da_cons (dv 0) (da_cons (d_tup da_nil) da_nil)) (lenAS (lenAS lenA0)))) (dss_cons (ds_for PassesOwn.never rfl (di_rev rfl T.reversed_b (dv 2)) (dg_name 5 sc_turned.nd) (dss_cons (ds_append 3 (d_ix (DE.dr (dv 4)) (DE.dr (dv 5)))) (dss_one (ds_asg 4 sc_turned.nd (d_callH h_images_with_behind (hr.mono (by decide)) rfl (da_cons (dv 0) (da_cons (dv 4) (da_cons (dv 5) da_nil))) (lenAS (lenAS (lenAS lenA0)))))))) (dss_frz 3 (dss_one (ds_ret (dv 3))))))))
noncomputable def F_l_cell_at : FS := (seqF (ifS (blF (bind2 ltD (vF 1) (appF lenD (consA (vF 0) nilA)))) (retF (bind2 ixD (vF 0) (vF 1))) nxF) (retF (cF (.int 0))))
noncomputable def g_l_cell_at : List D → Option D := denF 2 F_l_cell_at
theorem sc_l_cell_at : FnScope ["_law_script", "_law_k"] ["_law_script", "_law_k"] (defScope s_l_cell_at) := ⟨rfl, rfl, rfl, by decide +kernel, rfl, by decide +kernel, by decide +kernel⟩
theorem ok_l_cell_at {P : Program} {w : World} {K : PySem.W.Frag} {mg : Str → Option Value} {base : Heap} {f : Addr} {fd : FuncData} (Fn : Fun K "_law_cell_at" "_law_cell_at" s_l_cell_at f fd) (T : Txt K mg)  :
    FnOk P w K mg base CX0 1 f fd ["_law_script", "_law_k"] (spF K 2 g_l_cell_at) :=
  fn_den (k := 0) (m := 2) (F := F_l_cell_at) rfl rfl Fn sc_l_cell_at fun cdv A outer s H E hr => (dss_cons (ds_if (dt_lt (DE.dr (dv 1)) (DE.dr (d_callB call_lenG fnR_len rfl T.len_b (by rfl) (dar_cons (DE.dr (dv 0)) dar_nil)))) (dss_one (ds_ret (d_ix (DE.dr (dv 0)) (DE.dr (dv 1))))) dss_nil) (dss_one (ds_ret d_int)))
noncomputable def F_l_mix : FS := (seqF (ifS (blF (bind2 geD (vF 0) (bind2 powD (cF (.int 10)) (cF (.int 12))))) (seqF (asgF 0 (bind2 subD (bind2 fdivD (vF 0) (bind2 powD (cF (.int 10)) (cF (.int 12)))) (cF (.int 1)))) (seqF (forF (rng1 (consA (bind2 modD (vF 1) (cF (.int 61))) nilA)) (nameG 2) (asgF 0 (bind2 fdivD (vF 0) (cF (.int 2147483648))))) (retF (bind2 modD (vF 0) (cF (.int 2147483648)))))) nxF) (seqF (asgF 3 (bind2 modD (bind2 mulD (bind2 addX (bind2 addX (bind2 modD (vF 0) (cF (.int 1000003))) (bind2 mulD (bind2 mulD (vF 1) (vF 1)) (cF (.int 7919)))) (vF 1)) (cF (.int 48271))) (cF (.int 2147483629)))) (seqF (asgF 3 (bind2 modD (bind2 mulD (vF 3) (vF 3)) (cF (.int 2147483587)))) (retF (bind2 fdivD (bind2 modD (bind2 mulD (vF 3) (bind2 addX (vF 3) (cF (.int 2)))) (cF (.int 2147483579))) (cF (.int 7)))))))
noncomputable def g_l_mix : List D → Option D := denF 4 F_l_mix
theorem sc_l_mix : FnScope ["_law_cell", "_law_k", "_law_turn", "_law_number"] ["_law_cell", "_law_k"] (defScope s_l_mix) := ⟨rfl, rfl, rfl, by decide +kernel, rfl, by decide +kernel, by decide +kernel⟩
theorem ok_l_mix {P : Program} {w : World} {K : PySem.W.Frag} {mg : Str → Option Value} {base : Heap} {f : Addr} {fd : FuncData} (Fn : Fun K "_law_mix" "_law_mix" s_l_mix f fd) (T : Txt K mg)  :
    FnOk P w K mg base CX0 1 f fd ["_law_cell", "_law_k"] (spF K 2 g_l_mix) :=
  fn_den (k := 0) (m := 4) (F := F_l_mix) rfl rfl Fn sc_l_mix fun cdv A outer s H E hr => (dss_cons (ds_if (dt_ge (DE.dr (dv 0)) (DE.dr (d_pow (DE.dr d_int) (DE.dr d_int)))) (dss_cons (ds_asg 0 sc_l_mix.nd (d_sub (DE.dr (d_fdiv (DE.dr (dv 0)) (DE.dr (d_pow (DE.dr d_int) (DE.dr d_int))))) (DE.dr d_int))) (dss_cons (ds_for PassesOwn.never rfl (di_range1 rfl T.range_b (dar_cons (DE.dr (d_mod (DE.dr (dv 1)) (DE.dr d_int))) dar_nil)) (dg_name 2 sc_l_mix.nd) (dss_one (ds_asg 0 sc_l_mix.nd (d_fdiv (DE.dr (dv 0)) (DE.dr d_int))))) (dss_one (ds_ret (d_mod (DE.dr (dv 0)) (DE.dr d_int)))))) dss_nil) (dss_cons (ds_asg 3 sc_l_mix.nd (d_mod (DE.dr (d_mul (DE.dr (d_addX (DE.dr (d_addX (DE.dr (d_mod (DE.dr (dv 0)) (DE.dr d_int))) (DE.dr (d_mul (DE.dr (d_mul (DE.dr (dv 1)) (DE.dr (dv 1)))) (DE.dr d_int))))) (DE.dr (dv 1)))) (DE.dr d_int))) (DE.dr d_int))) (dss_cons (ds_asg 3 sc_l_mix.nd (d_mod (DE.dr (d_mul (DE.dr (dv 3)) (DE.dr (dv 3)))) (DE.dr d_int))) (dss_one (ds_ret (d_fdiv (DE.dr (d_mod (DE.dr (d_mul (DE.dr (dv 3)) (DE.dr (d_addX (DE.dr (dv 3)) (DE.dr d_int))))) (DE.dr d_int))) (DE.dr d_int)))))))
noncomputable def F_l_house : FS := (seqF (asgF 2 (bind2 addX (cF (.int 1)) (bind2 modD (appF g_l_cell_at (consA (vF 0) (consA (cF (.int 0)) nilA))) (vF 1)))) (seqF (asgF 3 (appF g_l_mix (consA (appF g_l_cell_at (consA (vF 0) (consA (cF (.int 0)) nilA))) (consA (cF (.int 1)) nilA)))) (seqF (asgN 4 (lstF nilA)) (seqF (forF (rng1 (consA (vF 2) nilA)) (nameG 5) (forF (rng2 (consA (bind2 addX (vF 5) (cF (.int 1))) (consA (vF 2) nilA))) (nameG 6) (seqF (asgF 7 (appF g_l_mix (consA (appF g_l_cell_at (consA (vF 0) (consA (bind2 addX (cF (.int 1)) (vF 5)) nilA))) (consA (bind2 addX (bind2 mulD (cF (.int 10)) (vF 5)) (vF 6)) nilA)))) (seqF (asgF 8 (bind2 ixD (mapLst (lstF (consA (cF (.int 2)) (consA (cF (.int 3)) (consA (cF (.int 4)) (consA (cF (.int 5)) (consA (cF (.int 6)) (consA (cF (.int 0)) (consA (cF (.int 3)) (consA (cF (.int 2)) nilA)))))))))) (bind2 modD (vF 7) (cF (.int 8))))) (seqF (ifS (blF (bind2 eqF (bind2 modD (vF 3) (cF (.int 3))) (cF (.int 1)))) (seqF (asgF 8 (bind2 ixD (mapLst (lstF (consA (cF (.int 2)) (consA (cF (.int 3)) nilA)))) (appF intD (consA (bind2 eqF (vF 6) (bind2 addX (vF 5) (cF (.int 1)))) nilA)))) (ifS (andT (blF (bind2 eqF (vF 6) (bind2 addX (vF 5) (cF (.int 1))))) (andT (blF (bind2 eqF (bind2 modD (bind2 fdivD (vF 3) (cF (.int 3))) (cF (.int 3))) (cF (.int 1)))) (blF (bind2 eqF (vF 6) (bind2 subD (vF 2) (cF (.int 1))))))) (asgF 8 (bind2 ixD (mapLst (lstF (consA (cF (.int 4)) (consA (cF (.int 5)) nilA)))) (bind2 modD (bind2 fdivD (vF 3) (cF (.int 9))) (cF (.int 2))))) nxF)) nxF) (seqF (ifS (andT (blF (bind2 eqF (bind2 modD (vF 3) (cF (.int 3))) (cF (.int 2)))) (andT (blF (bind2 neF (vF 6) (bind2 addX (vF 5) (cF (.int 1))))) (blF (bind2 gtD (bind2 modD (bind2 fdivD (vF 7) (cF (.int 8))) (cF (.int 3))) (cF (.int 0)))))) (asgF 8 (cF (.int 2))) nxF) (ifS (blF (bind2 neF (vF 8) (cF (.int 2)))) (appendF 4 (tupF (consA (vF 5) (consA (vF 6) (consA (vF 8) nilA))))) nxF))))))) (seqF (ifS (blF (bind2 eqF (bind2 modD (bind2 fdivD (vF 3) (cF (.int 27))) (cF (.int 2))) (cF (.int 1)))) (asgN 4 (revN (vR 4) (bind1 negD (cF (.int 1))))) nxF) (frzF 4 (retF (tupF (consA (vF 2) (consA (vF 4) nilA))))))))))
noncomputable def g_l_house : List D → Option D := denF 9 F_l_house
theorem sc_l_house : FnScope ["_law_script", "_law_most", "_law_mirrors", "_law_kind", "_law_turns", "_law_i", "_law_j", "_law_drawn", "_law_m"] ["_law_script", "_law_most"] (defScope s_l_house) := ⟨rfl, rfl, rfl, by decide +kernel, rfl, by decide +kernel, by decide +kernel⟩
theorem ok_l_house {P : Program} {w : World} {K : PySem.W.Frag} {mg : Str → Option Value} {base : Heap} {f : Addr} {fd : FuncData} (Fn : Fun K "_law_house" "_law_house" s_l_house f fd) (T : Txt K mg) (h_l_cell_at : HasFn P w K mg base 1 "_law_cell_at" 2 g_l_cell_at) (h_l_mix : HasFn P w K mg base 1 "_law_mix" 2 g_l_mix) :
    FnOk P w K mg base CX0 2 f fd ["_law_script", "_law_most"] (spF K 2 g_l_house) :=
  fn_den (k := 1) (m := 9) (F := F_l_house) rfl rfl Fn sc_l_house fun cdv A outer s H E hr => (dss_cons (ds_asg 2 sc_l_house.nd (d_addX (DE.dr d_int) (DE.dr (d_mod (DE.dr (d_callH h_l_cell_at (hr.mono (by decide)) rfl (da_cons (dv 0) (da_cons d_int da_nil)) (lenAS (lenAS lenA0)))) (DE.dr (dv 1)))))) (dss_cons (ds_asg 3 sc_l_house.nd (d_callH h_l_mix (hr.mono (by decide)) rfl (da_cons (d_callH h_l_cell_at (hr.mono (by decide)) rfl (da_cons (dv 0) (da_cons d_int da_nil)) (lenAS (lenAS lenA0))) (da_cons d_int da_nil)) (lenAS (lenAS lenA0)))) (dss_cons (ds_asgN 4 sc_l_house.nd (dn_lst da_nil)) (dss_cons (ds_for PassesOwn.never rfl (di_range1 rfl T.range_b (dar_cons (DE.dr (dv 2)) dar_nil)) (dg_name 5 sc_l_house.nd) (dss_one (ds_for PassesOwn.never rfl (di_range2 rfl T.range_b (dar_cons (DE.dr (d_addX (DE.dr (dv 5)) (DE.dr d_int))) (dar_cons (DE.dr (dv 2)) dar_nil))) (dg_name 6 sc_l_house.nd) (dss_cons (ds_asg 7 sc_l_house.nd (d_callH h_l_mix (hr.mono (by decide)) rfl (da_cons (d_callH h_l_cell_at (hr.mono (by decide)) rfl (da_cons (dv 0) (da_cons (d_addX (DE.dr d_int) (DE.dr (dv 5))) da_nil)) (lenAS (lenAS lenA0))) (da_cons (d_addX (DE.dr (d_mul (DE.dr d_int) (DE.dr (dv 5)))) (DE.dr (dv 6))) da_nil)) (lenAS (lenAS lenA0)))) (dss_cons (ds_asg 8 sc_l_house.nd (d_ix (DE.dr (DN.de (dn_lst (da_cons d_int (da_cons d_int (da_cons d_int (da_cons d_int (da_cons d_int (da_cons d_int (da_cons d_int (da_cons d_int da_nil))))))))))) (DE.dr (d_mod (DE.dr (dv 7)) (DE.dr d_int))))) (dss_cons (ds_if (dt_eq hr (DE.dr (d_mod (DE.dr (dv 3)) (DE.dr d_int))) (DE.dr d_int)) (dss_cons (ds_asg 8 sc_l_house.nd (d_ix (DE.dr (DN.de (dn_lst (da_cons d_int (da_cons d_int da_nil))))) (DE.dr (d_callTy call_int1 fnR_int rfl T.int_b (by rfl) (dar_cons (DE.dr (d_eq hr (DE.dr (dv 6)) (DE.dr (d_addX (DE.dr (dv 5)) (DE.dr d_int))))) dar_nil))))) (dss_one (ds_if (DW.dt (dw_and (dt_eq hr (DE.dr (dv 6)) (DE.dr (d_addX (DE.dr (dv 5)) (DE.dr d_int)))) (dw_and (dt_eq hr (DE.dr (d_mod (DE.dr (d_fdiv (DE.dr (dv 3)) (DE.dr d_int))) (DE.dr d_int))) (DE.dr d_int)) (dw_and1 (dt_eq hr (DE.dr (dv 6)) (DE.dr (d_sub (DE.dr (dv 2)) (DE.dr d_int)))))))) (dss_one (ds_asg 8 sc_l_house.nd (d_ix (DE.dr (DN.de (dn_lst (da_cons d_int (da_cons d_int da_nil))))) (DE.dr (d_mod (DE.dr (d_fdiv (DE.dr (dv 3)) (DE.dr d_int))) (DE.dr d_int)))))) dss_nil))) dss_nil) (dss_cons (ds_if (DW.dt (dw_and (dt_eq hr (DE.dr (d_mod (DE.dr (dv 3)) (DE.dr d_int))) (DE.dr d_int)) (dw_and (dt_ne hr (DE.dr (dv 6)) (DE.dr (d_addX (DE.dr (dv 5)) (DE.dr d_int)))) (dw_and1 (dt_gt (DE.dr (d_mod (DE.dr (d_fdiv (DE.dr (dv 7)) (DE.dr d_int))) (DE.dr d_int))) (DE.dr d_int)))))) (dss_one (ds_asg 8 sc_l_house.nd d_int)) dss_nil) (dss_one (ds_if (dt_ne hr (DE.dr (dv 8)) (DE.dr d_int)) (dss_one (ds_append 4 (d_tup (da_cons (dv 5) (da_cons (dv 6) (da_cons (dv 8) da_nil)))))) dss_nil))))))))) (dss_cons (ds_if (dt_eq hr (DE.dr (d_mod (DE.dr (d_fdiv (DE.dr (dv 3)) (DE.dr d_int))) (DE.dr d_int))) (DE.dr d_int)) (dss_one (ds_asgN 4 sc_l_house.nd (dn_rev (dvr 4) (DE.dr (d_neg (DE.dr d_int)))))) dss_nil) (dss_frz 4 (dss_one (ds_ret (d_tup (da_cons (dv 2) (da_cons (dv 4) da_nil)))))))))))
noncomputable def F_l_word : FS := (seqF (asgF 4 (appF g_l_mix (consA (appF g_l_cell_at (consA (vF 0) (consA (vF 2) nilA))) (consA (cF (.int 60)) nilA)))) (seqF (ifS (blF (bind2 eqF (bind2 modD (vF 4) (cF (.int 3))) (cF (.int 1)))) (asgF 3 (bind2 modD (bind2 fdivD (vF 4) (cF (.int 3))) (bind2 addX (vF 3) (cF (.int 1))))) nxF) (seqF (asgF 5 (tupF nilA)) (seqF (forF (rng1 (consA (vF 3) nilA)) (nameG 6) (asgF 5 (bind2 addX (vF 5) (tupF (consA (bind2 modD (appF g_l_mix (consA (appF g_l_cell_at (consA (vF 0) (consA (bind2 addX (vF 2) (vF 6)) nilA))) (consA (bind2 addX (bind2 mulD (cF (.int 7)) (vF 6)) (cF (.int 3))) nilA))) (bind2 ixD (vF 1) (cF (.int 0)))) nilA))))) (retF (vF 5))))))
noncomputable def g_l_word : List D → Option D := denF 7 F_l_word
theorem sc_l_word : FnScope ["_law_script", "_law_house_here", "_law_first", "_law_many", "_law_drawn", "_law_word_here", "_law_k"] ["_law_script", "_law_house_here", "_law_first", "_law_many"] (defScope s_l_word) := ⟨rfl, rfl, rfl, by decide +kernel, rfl, by decide +kernel, by decide +kernel⟩
theorem ok_l_word {P : Program} {w : World} {K : PySem.W.Frag} {mg : Str → Option Value} {base : Heap} {f : Addr} {fd : FuncData} (Fn : Fun K "_law_word" "_law_word" s_l_word f fd) (T : Txt K mg) (h_l_cell_at : HasFn P w K mg base 1 "_law_cell_at" 2 g_l_cell_at) (h_l_mix : HasFn P w K mg base 1 "_law_mix" 2 g_l_mix) :
    FnOk P w K mg base CX0 2 f fd ["_law_script", "_law_house_here", "_law_first", "_law_many"] (spF K 4 g_l_word) :=
  fn_den (k := 1) (m := 7) (F := F_l_word) rfl rfl Fn sc_l_word fun cdv A outer s H E hr => (dss_cons (ds_asg 4 sc_l_word.nd (d_callH h_l_mix (hr.mono (by decide)) rfl (da_cons (d_callH h_l_cell_at (hr.mono (by decide)) rfl (da_cons (dv 0) (da_cons (dv 2) da_nil)) (lenAS (lenAS lenA0))) (da_cons d_int da_nil)) (lenAS (lenAS lenA0)))) (dss_cons (ds_if (dt_eq hr (DE.dr (d_mod (DE.dr (dv 4)) (DE.dr d_int))) (DE.dr d_int)) (dss_one (ds_asg 3 sc_l_word.nd (d_mod (DE.dr (d_fdiv (DE.dr (dv 4)) (DE.dr d_int))) (DE.dr (d_addX (DE.dr (dv 3)) (DE.dr d_int)))))) dss_nil) (dss_cons (ds_asg 5 sc_l_word.nd (d_tup da_nil)) (dss_cons (ds_for PassesOwn.never rfl (di_range1 rfl T.range_b (dar_cons (DE.dr (dv 3)) dar_nil)) (dg_name 6 sc_l_word.nd) (dss_one (ds_asg 5 sc_l_word.nd (d_addX (DE.dr (dv 5)) (DE.dr (d_tup (da_cons (d_mod (DE.dr (d_callH h_l_mix (hr.mono (by decide)) rfl (da_cons (d_callH h_l_cell_at (hr.mono (by decide)) rfl (da_cons (dv 0) (da_cons (d_addX (DE.dr (dv 2)) (DE.dr (dv 6))) da_nil)) (lenAS (lenAS lenA0))) (da_cons (d_addX (DE.dr (d_mul (DE.dr d_int) (DE.dr (dv 6)))) (DE.dr d_int)) da_nil)) (lenAS (lenAS lenA0)))) (DE.dr (d_ix (DE.dr (dv 1)) (DE.dr d_int)))) da_nil))))))) (dss_one (ds_ret (dv 5)))))))
noncomputable def F_l_plus : FS := (retF (tupF (consA (bind2 addX (bind2 ixD (vF 0) (cF (.int 0))) (bind2 ixD (vF 1) (cF (.int 0)))) (consA (bind2 addX (bind2 ixD (vF 0) (cF (.int 1))) (bind2 ixD (vF 1) (cF (.int 1)))) nilA))))
noncomputable def g_l_plus : List D → Option D := denF 2 F_l_plus
theorem sc_l_plus : FnScope ["_law_x", "_law_y"] ["_law_x", "_law_y"] (defScope s_l_plus) := ⟨rfl, rfl, rfl, by decide +kernel, rfl, by decide +kernel, by decide +kernel⟩
theorem ok_l_plus {P : Program} {w : World} {K : PySem.W.Frag} {mg : Str → Option Value} {base : Heap} {f : Addr} {fd : FuncData} (Fn : Fun K "_law_plus" "_law_plus" s_l_plus f fd) (T : Txt K mg)  :
    FnOk P w K mg base CX0 1 f fd ["_law_x", "_law_y"] (spF K 2 g_l_plus) :=
  fn_den (k := 0) (m := 2) (F := F_l_plus) rfl rfl Fn sc_l_plus fun cdv A outer s H E hr => (dss_one (ds_ret (d_tup (da_cons (d_addX (DE.dr (d_ix (DE.dr (dv 0)) (DE.dr d_int))) (DE.dr (d_ix (DE.dr (dv 1)) (DE.dr d_int)))) (da_cons (d_addX (DE.dr (d_ix (DE.dr (dv 0)) (DE.dr d_int))) (DE.dr (d_ix (DE.dr (dv 1)) (DE.dr d_int)))) da_nil)))))
noncomputable def F_l_times : FS := (retF (tupF (consA (bind2 addX (bind2 mulD (bind2 ixD (vF 0) (cF (.int 0))) (bind2 ixD (vF 1) (cF (.int 0)))) (bind2 mulD (bind2 ixD (vF 0) (cF (.int 1))) (bind2 ixD (vF 1) (cF (.int 1))))) (consA (bind2 addX (bind2 addX (bind2 mulD (bind2 ixD (vF 0) (cF (.int 0))) (bind2 ixD (vF 1) (cF (.int 1)))) (bind2 mulD (bind2 ixD (vF 0) (cF (.int 1))) (bind2 ixD (vF 1) (cF (.int 0))))) (bind2 mulD (bind2 ixD (vF 0) (cF (.int 1))) (bind2 ixD (vF 1) (cF (.int 1))))) nilA))))
noncomputable def g_l_times : List D → Option D := denF 2 F_l_times
theorem sc_l_times : FnScope ["_law_x", "_law_y"] ["_law_x", "_law_y"] (defScope s_l_times) := ⟨rfl, rfl, rfl, by decide +kernel, rfl, by decide +kernel, by decide +kernel⟩
theorem ok_l_times {P : Program} {w : World} {K : PySem.W.Frag} {mg : Str → Option Value} {base : Heap} {f : Addr} {fd : FuncData} (Fn : Fun K "_law_times" "_law_times" s_l_times f fd) (T : Txt K mg)  :
    FnOk P w K mg base CX0 1 f fd ["_law_x", "_law_y"] (spF K 2 g_l_times) :=
  fn_den (k := 0) (m := 2) (F := F_l_times) rfl rfl Fn sc_l_times fun cdv A outer s H E hr => (dss_one (ds_ret (d_tup (da_cons (d_addX (DE.dr (d_mul (DE.dr (d_ix (DE.dr (dv 0)) (DE.dr d_int))) (DE.dr (d_ix (DE.dr (dv 1)) (DE.dr d_int))))) (DE.dr (d_mul (DE.dr (d_ix (DE.dr (dv 0)) (DE.dr d_int))) (DE.dr (d_ix (DE.dr (dv 1)) (DE.dr d_int)))))) (da_cons (d_addX (DE.dr (d_addX (DE.dr (d_mul (DE.dr (d_ix (DE.dr (dv 0)) (DE.dr d_int))) (DE.dr (d_ix (DE.dr (dv 1)) (DE.dr d_int))))) (DE.dr (d_mul (DE.dr (d_ix (DE.dr (dv 0)) (DE.dr d_int))) (DE.dr (d_ix (DE.dr (dv 1)) (DE.dr d_int))))))) (DE.dr (d_mul (DE.dr (d_ix (DE.dr (dv 0)) (DE.dr d_int))) (DE.dr (d_ix (DE.dr (dv 1)) (DE.dr d_int)))))) da_nil)))))
noncomputable def F_l_sign : FS := (seqF (asgF 1 (bind2 addX (bind2 mulD (cF (.int 2)) (bind2 ixD (vF 0) (cF (.int 0)))) (bind2 ixD (vF 0) (cF (.int 1))))) (seqF (asgF 2 (bind2 ixD (vF 0) (cF (.int 1)))) (seqF (ifS (andT (blF (bind2 geD (vF 1) (cF (.int 0)))) (blF (bind2 geD (vF 2) (cF (.int 0))))) (retF (appF intD (consA (bind2 gtD (bind2 addX (vF 1) (vF 2)) (cF (.int 0))) nilA))) nxF) (seqF (ifS (andT (blF (bind2 leD (vF 1) (cF (.int 0)))) (blF (bind2 leD (vF 2) (cF (.int 0))))) (retF (bind1 negD (cF (.int 1)))) nxF) (seqF (ifS (blF (bind2 gtD (vF 1) (cF (.int 0)))) (retF (bind2 ixD (mapLst (lstF (consA (bind1 negD (cF (.int 1))) (consA (cF (.int 1)) nilA)))) (appF intD (consA (bind2 gtD (bind2 mulD (vF 1) (vF 1)) (bind2 mulD (bind2 mulD (cF (.int 5)) (vF 2)) (vF 2))) nilA)))) nxF) (retF (bind2 ixD (mapLst (lstF (consA (bind1 negD (cF (.int 1))) (consA (cF (.int 1)) nilA)))) (appF intD (consA (bind2 gtD (bind2 mulD (bind2 mulD (cF (.int 5)) (vF 2)) (vF 2)) (bind2 mulD (vF 1) (vF 1))) nilA)))))))))
noncomputable def g_l_sign : List D → Option D := denF 3 F_l_sign
theorem sc_l_sign : FnScope ["_law_x", "_law_one", "_law_two"] ["_law_x"] (defScope s_l_sign) := ⟨rfl, rfl, rfl, by decide +kernel, rfl, by decide +kernel, by decide +kernel⟩
theorem ok_l_sign {P : Program} {w : World} {K : PySem.W.Frag} {mg : Str → Option Value} {base : Heap} {f : Addr} {fd : FuncData} (Fn : Fun K "_law_sign" "_law_sign" s_l_sign f fd) (T : Txt K mg)  :
    FnOk P w K mg base CX0 1 f fd ["_law_x"] (spF K 1 g_l_sign) :=
  fn_den (k := 0) (m := 3) (F := F_l_sign) rfl rfl Fn sc_l_sign fun cdv A outer s H E hr => (dss_cons (ds_asg 1 sc_l_sign.nd (d_addX (DE.dr (d_mul (DE.dr d_int) (DE.dr (d_ix (DE.dr (dv 0)) (DE.dr d_int))))) (DE.dr (d_ix (DE.dr (dv 0)) (DE.dr d_int))))) (dss_cons (ds_asg 2 sc_l_sign.nd (d_ix (DE.dr (dv 0)) (DE.dr d_int))) (dss_cons (ds_if (DW.dt (dw_and (dt_ge (DE.dr (dv 1)) (DE.dr d_int)) (dw_and1 (dt_ge (DE.dr (dv 2)) (DE.dr d_int))))) (dss_one (ds_ret (d_callTy call_int1 fnR_int rfl T.int_b (by rfl) (dar_cons (DE.dr (d_gt (DE.dr (d_addX (DE.dr (dv 1)) (DE.dr (dv 2)))) (DE.dr d_int))) dar_nil)))) dss_nil) (dss_cons (ds_if (DW.dt (dw_and (dt_le (DE.dr (dv 1)) (DE.dr d_int)) (dw_and1 (dt_le (DE.dr (dv 2)) (DE.dr d_int))))) (dss_one (ds_ret (d_neg (DE.dr d_int)))) dss_nil) (dss_cons (ds_if (dt_gt (DE.dr (dv 1)) (DE.dr d_int)) (dss_one (ds_ret (d_ix (DE.dr (DN.de (dn_lst (da_cons (d_neg (DE.dr d_int)) (da_cons d_int da_nil))))) (DE.dr (d_callTy call_int1 fnR_int rfl T.int_b (by rfl) (dar_cons (DE.dr (d_gt (DE.dr (d_mul (DE.dr (dv 1)) (DE.dr (dv 1)))) (DE.dr (d_mul (DE.dr (d_mul (DE.dr d_int) (DE.dr (dv 2)))) (DE.dr (dv 2)))))) dar_nil)))))) dss_nil) (dss_one (ds_ret (d_ix (DE.dr (DN.de (dn_lst (da_cons (d_neg (DE.dr d_int)) (da_cons d_int da_nil))))) (DE.dr (d_callTy call_int1 fnR_int rfl T.int_b (by rfl) (dar_cons (DE.dr (d_gt (DE.dr (d_mul (DE.dr (d_mul (DE.dr d_int) (DE.dr (dv 2)))) (DE.dr (dv 2)))) (DE.dr (d_mul (DE.dr (dv 1)) (DE.dr (dv 1)))))) dar_nil)))))))))))
noncomputable def F_l_pull : FS := (seqF (ifS (blF (bind2 eqF (vF 1) (vF 2))) (retF (tupF (consA (cF (.int 2)) (consA (cF (.int 0)) nilA)))) nxF) (seqF (forF (seqItems (bind2 ixD (vF 0) (cF (.int 1)))) (tupG 3 (consG (nameG 3) (consG (nameG 4) (consG (nameG 5) nilG)))) (ifS (blF (bind2 eqF (tupF (consA (vF 3) (consA (vF 4) nilA))) (tupF (consA (appF minD (consA (vF 1) (consA (vF 2) nilA))) (consA (appF maxD (consA (vF 1) (consA (vF 2) nilA))) nilA))))) (seqF (ifS (blF (bind2 eqF (vF 5) (cF (.int 5)))) (retF (tupF (consA (cF (.int 0)) (consA (bind1 negD (cF (.int 1))) nilA)))) nxF) (seqF (ifS (blF (bind2 eqF (vF 5) (cF (.int 0)))) (retF (tupF (consA (bind1 negD (cF (.int 2))) (consA (cF (.int 0)) nilA)))) nxF) (retF (tupF (consA (ifF (blF (bind2 ltD (vF 1) (vF 2))) (bind2 ixD (mapLst (lstF (consA (bind1 negD (cF (.int 1))) (consA (bind1 negD (cF (.int 2))) (consA (cF (.int 0)) (consA (bind1 negD (cF (.int 3))) nilA)))))) (bind2 subD (vF 5) (cF (.int 3)))) (bind1 negD (cF (.int 1)))) (consA (cF (.int 0)) nilA)))))) nxF)) (retF (tupF (consA (cF (.int 0)) (consA (cF (.int 0)) nilA))))))
noncomputable def g_l_pull : List D → Option D := denF 6 F_l_pull
theorem sc_l_pull : FnScope ["_law_house_here", "_law_i", "_law_j", "_law_one", "_law_other", "_law_m"] ["_law_house_here", "_law_i", "_law_j"] (defScope s_l_pull) := ⟨rfl, rfl, rfl, by decide +kernel, rfl, by decide +kernel, by decide +kernel⟩
theorem ok_l_pull {P : Program} {w : World} {K : PySem.W.Frag} {mg : Str → Option Value} {base : Heap} {f : Addr} {fd : FuncData} (Fn : Fun K "_law_pull" "_law_pull" s_l_pull f fd) (T : Txt K mg)  :
    FnOk P w K mg base CX0 1 f fd ["_law_house_here", "_law_i", "_law_j"] (spF K 3 g_l_pull) :=
  fn_den (k := 0) (m := 6) (F := F_l_pull) rfl rfl Fn sc_l_pull fun cdv A outer s H E hr => (dss_cons (ds_if (dt_eq hr (DE.dr (dv 1)) (DE.dr (dv 2))) (dss_one (ds_ret (d_tup (da_cons d_int (da_cons d_int da_nil))))) dss_nil) (dss_cons (ds_for PassesOwn.never rfl (di_seq (d_ix (DE.dr (dv 0)) (DE.dr d_int))) (dg_tup rfl (dgs_cons (dg_name 3 sc_l_pull.nd) (dgs_cons (dg_name 4 sc_l_pull.nd) (dgs_cons (dg_name 5 sc_l_pull.nd) dgs_nil)))) (dss_one (ds_if (dt_eq hr (DE.dr (d_tup (da_cons (dv 3) (da_cons (dv 4) da_nil)))) (DE.dr (d_tup (da_cons (d_callB (call_min2 rfl) fnR_min rfl T.min_b (by rfl) (dar_cons (DE.dr (dv 1)) (dar_cons (DE.dr (dv 2)) dar_nil))) (da_cons (d_callB (call_max2 rfl) fnR_max rfl T.max_b (by rfl) (dar_cons (DE.dr (dv 1)) (dar_cons (DE.dr (dv 2)) dar_nil))) da_nil))))) (dss_cons (ds_if (dt_eq hr (DE.dr (dv 5)) (DE.dr d_int)) (dss_one (ds_ret (d_tup (da_cons d_int (da_cons (d_neg (DE.dr d_int)) da_nil))))) dss_nil) (dss_cons (ds_if (dt_eq hr (DE.dr (dv 5)) (DE.dr d_int)) (dss_one (ds_ret (d_tup (da_cons (d_neg (DE.dr d_int)) (da_cons d_int da_nil))))) dss_nil) (dss_one (ds_ret (d_tup (da_cons (d_ifExp (dt_lt (DE.dr (dv 1)) (DE.dr (dv 2))) (d_ix (DE.dr (DN.de (dn_lst (da_cons (d_neg (DE.dr d_int)) (da_cons (d_neg (DE.dr d_int)) (da_cons d_int (da_cons (d_neg (DE.dr d_int)) da_nil))))))) (DE.dr (d_sub (DE.dr (dv 5)) (DE.dr d_int)))) (d_neg (DE.dr d_int))) (da_cons d_int da_nil))))))) dss_nil))) (dss_one (ds_ret (d_tup (da_cons d_int (da_cons d_int da_nil)))))))
noncomputable def F_l_led : FS := (seqF (forF (seqItems (revF (vF 1) (bind1 negD (cF (.int 1))))) (nameG 3) (seqF (asgF 4 (tupF (consA (cF (.int 0)) (consA (cF (.int 0)) nilA)))) (seqF (forF (rng1 (consA (bind2 ixD (vF 0) (cF (.int 0))) nilA)) (nameG 5) (asgF 4 (appF g_l_plus (consA (vF 4) (consA (appF g_l_times (consA (appF g_l_pull (consA (vF 0) (consA (vF 3) (consA (vF 5) nilA)))) (consA (bind2 ixD (vF 2) (vF 5)) nilA))) nilA))))) (asgF 2 (bind2 addX (bind2 addX (sliceF (vF 2) noP (exP (vF 3))) (tupF (consA (appF g_l_plus (consA (bind2 ixD (vF 2) (vF 3)) (consA (tupF (consA (bind1 negD (bind2 ixD (vF 4) (cF (.int 0)))) (consA (bind1 negD (bind2 ixD (vF 4) (cF (.int 1)))) nilA))) nilA))) nilA))) (sliceF (vF 2) (exP (bind2 addX (vF 3) (cF (.int 1)))) noP)))))) (retF (vF 2)))
noncomputable def g_l_led : List D → Option D := denF 6 F_l_led
theorem sc_l_led : FnScope ["_law_house_here", "_law_word_here", "_law_row", "_law_i", "_law_taken", "_law_j"] ["_law_house_here", "_law_word_here", "_law_row"] (defScope s_l_led) := ⟨rfl, rfl, rfl, by decide +kernel, rfl, by decide +kernel, by decide +kernel⟩
theorem ok_l_led {P : Program} {w : World} {K : PySem.W.Frag} {mg : Str → Option Value} {base : Heap} {f : Addr} {fd : FuncData} (Fn : Fun K "_law_led" "_law_led" s_l_led f fd) (T : Txt K mg) (h_l_plus : HasFn P w K mg base 1 "_law_plus" 2 g_l_plus) (h_l_pull : HasFn P w K mg base 1 "_law_pull" 3 g_l_pull) (h_l_times : HasFn P w K mg base 1 "_law_times" 2 g_l_times) :
    FnOk P w K mg base CX0 2 f fd ["_law_house_here", "_law_word_here", "_law_row"] (spF K 3 g_l_led) :=
  fn_den (k := 1) (m := 6) (F := F_l_led) rfl rfl Fn sc_l_led fun cdv A outer s H E hr => (dss_cons (ds_for PassesOwn.never rfl (di_seq (d_rev (DE.dr (dv 1)) (DE.dr (d_neg (DE.dr d_int))))) (dg_name 3 sc_l_led.nd) (dss_cons (ds_asg 4 sc_l_led.nd (d_tup (da_cons d_int (da_cons d_int da_nil)))) (dss_cons (ds_for PassesOwn.never rfl (di_range1 rfl T.range_b (dar_cons (DE.dr (d_ix (DE.dr (dv 0)) (DE.dr d_int))) dar_nil)) (dg_name 5 sc_l_led.nd) (dss_one (ds_asg 4 sc_l_led.nd (d_callH h_l_plus (hr.mono (by decide)) rfl (da_cons (dv 4) (da_cons (d_callH h_l_times (hr.mono (by decide)) rfl (da_cons (d_callH h_l_pull (hr.mono (by decide)) rfl (da_cons (dv 0) (da_cons (dv 3) (da_cons (dv 5) da_nil))) (lenAS (lenAS (lenAS lenA0)))) (da_cons (d_ix (DE.dr (dv 2)) (DE.dr (dv 5))) da_nil)) (lenAS (lenAS lenA0))) da_nil)) (lenAS (lenAS lenA0)))))) (dss_one (ds_asg 2 sc_l_led.nd (d_addX (DE.dr (d_addX (DE.dr (d_slice (DE.dr (dv 2)) dp_no (dp_ex (DE.dr (dv 3))))) (DE.dr (d_tup (da_cons (d_callH h_l_plus (hr.mono (by decide)) rfl (da_cons (d_ix (DE.dr (dv 2)) (DE.dr (dv 3))) (da_cons (d_tup (da_cons (d_neg (DE.dr (d_ix (DE.dr (dv 4)) (DE.dr d_int)))) (da_cons (d_neg (DE.dr (d_ix (DE.dr (dv 4)) (DE.dr d_int)))) da_nil))) da_nil)) (lenAS (lenAS lenA0))) da_nil))))) (DE.dr (d_slice (DE.dr (dv 2)) (dp_ex (DE.dr (d_addX (DE.dr (dv 3)) (DE.dr d_int)))) dp_no)))))))) (dss_one (ds_ret (dv 2))))
noncomputable def F_l_turned_about : FS := (retF (appF tupleD (consA (mapLst (compF 1 [] (seqItems (vF 0)) (nameG 0) ttF (tupF (consA (bind1 negD (bind2 ixD (vF 0) (cF (.int 0)))) (consA (bind1 negD (bind2 ixD (vF 0) (cF (.int 1)))) nilA))))) nilA)))
noncomputable def g_l_turned_about : List D → Option D := denF 1 F_l_turned_about
theorem sc_l_turned_about : FnScope ["_law_row"] ["_law_row"] (defScope s_l_turned_about) := ⟨rfl, rfl, rfl, by decide +kernel, rfl, by decide +kernel, by decide +kernel⟩
theorem ok_l_turned_about {P : Program} {w : World} {K : PySem.W.Frag} {mg : Str → Option Value} {base : Heap} {f : Addr} {fd : FuncData} (Fn : Fun K "_law_turned_about" "_law_turned_about" s_l_turned_about f fd) (T : Txt K mg)  :
    FnOk P w K mg base CX0 1 f fd ["_law_row"] (spF K 1 g_l_turned_about) :=
  fn_den (k := 0) (m := 1) (F := F_l_turned_about) rfl rfl Fn sc_l_turned_about fun cdv A outer s H E hr => (dss_one (ds_ret (d_callTy call_tuple_of fnR_tuple rfl T.tuple_b (by rfl) (dar_cons (DE.dr (DN.de (dn_comp (own := ["_law_number"]) (frees := []) (caps := []) rfl (.of (by kernel_rfl)) rfl kn_name (di_seq (dv 0)) (fun cl C s H fp => ⟨(dg_name 0 (show List.Nodup (["_law_number"] : List Str) from by decide +kernel)), dq_nil, (d_tup (da_cons (d_neg (DE.dr (d_ix (DE.dr (dv 0)) (DE.dr d_int)))) (da_cons (d_neg (DE.dr (d_ix (DE.dr (dv 0)) (DE.dr d_int)))) da_nil)))⟩)))) dar_nil))))
noncomputable def F_l_due : FS := (seqF (asgF 3 (appF g_turned (consA (vF 0) (consA (vF 1) nilA)))) (seqF (asgF 4 (appF g_turned (consA (vF 0) (consA (vF 2) nilA)))) (seqF (asgN 5 (lstF nilA)) (seqF (forF (seqItems (vF 4)) (nameG 6) (ifS (blF (bind2 (inD true) (appF g_l_turned_about (consA (appF g_l_led (consA (vF 0) (consA (vF 2) (consA (vF 6) nilA)))) nilA)) (vF 3))) (appendF 5 (vF 6)) nxF)) (seqF (forF (seqItems (vF 3)) (nameG 6) (seqF (asgF 7 (appF g_l_led (consA (vF 0) (consA (revF (vF 2) (bind1 negD (cF (.int 1)))) (consA (vF 6) nilA))))) (ifS (blF (bind2 (inD false) (cF (.int 1)) (mapLst (compF 1 [] (seqItems (vF 7)) (nameG 0) ttF (appF g_l_sign (consA (vF 0) nilA)))))) (appendF 5 (vF 7)) nxF))) (frzF 5 (retF (vF 5))))))))
noncomputable def g_l_due : List D → Option D := denF 8 F_l_due
theorem sc_l_due : FnScope ["_law_house_here", "_law_one", "_law_other", "_law_ones", "_law_others", "_law_due_here", "_law_row", "_law_back"] ["_law_house_here", "_law_one", "_law_other"] (defScope s_l_due) := ⟨rfl, rfl, rfl, by decide +kernel, rfl, by decide +kernel, by decide +kernel⟩
theorem ok_l_due {P : Program} {w : World} {K : PySem.W.Frag} {mg : Str → Option Value} {base : Heap} {f : Addr} {fd : FuncData} (Fn : Fun K "_law_due" "_law_due" s_l_due f fd) (T : Txt K mg) (h_l_led : HasFn P w K mg base 2 "_law_led" 3 g_l_led) (h_l_sign : HasFn P w K mg base 1 "_law_sign" 1 g_l_sign) (h_l_turned_about : HasFn P w K mg base 1 "_law_turned_about" 1 g_l_turned_about) (h_turned : HasFn P w K mg base 8 "turned" 2 g_turned) :
    FnOk P w K mg base CX0 9 f fd ["_law_house_here", "_law_one", "_law_other"] (spF K 3 g_l_due) :=
  fn_den (k := 8) (m := 8) (F := F_l_due) rfl rfl Fn sc_l_due fun cdv A outer s H E hr => (dss_cons (ds_asg 3 sc_l_due.nd (d_callH h_turned (hr.mono (by decide)) rfl (da_cons (dv 0) (da_cons (dv 1) da_nil)) (lenAS (lenAS lenA0)))) (dss_cons (ds_asg 4 sc_l_due.nd (d_callH h_turned (hr.mono (by decide)) rfl (da_cons (dv 0) (da_cons (dv 2) da_nil)) (lenAS (lenAS lenA0)))) (dss_cons (ds_asgN 5 sc_l_due.nd (dn_lst da_nil)) (dss_cons (ds_for PassesOwn.never rfl (di_seq (dv 4)) (dg_name 6 sc_l_due.nd) (dss_one (ds_if (dt_notin hr (DE.dr (d_callH h_l_turned_about (hr.mono (by decide)) rfl (da_cons (d_callH h_l_led (hr.mono (by decide)) rfl (da_cons (dv 0) (da_cons (dv 2) (da_cons (dv 6) da_nil))) (lenAS (lenAS (lenAS lenA0)))) da_nil) (lenAS lenA0))) (DE.dr (dv 3))) (dss_one (ds_append 5 (dv 6))) dss_nil))) (dss_cons (ds_for PassesOwn.never rfl (di_seq (dv 3)) (dg_name 6 sc_l_due.nd) (dss_cons (ds_asg 7 sc_l_due.nd (d_callH h_l_led (hr.mono (by decide)) rfl (da_cons (dv 0) (da_cons (d_rev (DE.dr (dv 2)) (DE.dr (d_neg (DE.dr d_int)))) (da_cons (dv 6) da_nil))) (lenAS (lenAS (lenAS lenA0))))) (dss_one (ds_if (dt_in hr (DE.dr d_int) (DE.dr (DN.de (dn_comp (own := ["_law_number"]) (frees := []) (caps := []) rfl (.of (by kernel_rfl)) rfl kn_name (di_seq (dv 7)) (fun cl C s H fp => ⟨(dg_name 0 (show List.Nodup (["_law_number"] : List Str) from by decide +kernel)), dq_nil, (d_callH h_l_sign (hr.mono (by decide)) rfl (da_cons (dv 0) da_nil) (lenAS lenA0))⟩))))) (dss_one (ds_append 5 (dv 7))) dss_nil)))) (dss_frz 5 (dss_one (ds_ret (dv 5)))))))))
noncomputable def F_law : FS := (seqF (asgF 1 (appF g_l_house (consA (vF 0) (consA (cF (.int 4)) nilA)))) (seqF (asgF 2 (appF g_l_word (consA (vF 0) (consA (vF 1) (consA (cF (.int 5)) (consA (cF (.int 8)) nilA)))))) (seqF (asgF 3 (appF g_l_word (consA (vF 0) (consA (vF 1) (consA (cF (.int 13)) (consA (cF (.int 8)) nilA)))))) (seqF (asgF 4 (appF g_turned (consA (vF 1) (consA (bind2 addX (vF 2) (vF 3)) nilA)))) (seqF (asgF 5 (appF g_l_due (consA (vF 1) (consA (vF 2) (consA (vF 3) nilA))))) (seqF (ifS (orT (blF (bind2 neF (mapLst (sortRN (consA (vF 4) nilA))) (mapLst (sortRN (consA (vF 5) nilA))))) (blF (bind2 neF (appF lenD (consA (vF 4) nilA)) (appF g_length (consA (vF 1) (consA (bind2 addX (vF 2) (vF 3)) nilA)))))) (retF (cF (.bl false))) nxF) (seqF (asgF 6 (mapLst (compF 1 [1, 2] (seqItems (appF g_turned (consA (vF 1) (consA (vF 2) nilA)))) (nameG 0) ttF (appF g_l_turned_about (consA (appF g_l_led (consA (vF 1) (consA (vF 2) (consA (vF 0) nilA)))) nilA))))) (retF (bind2 eqF (mapLst (sortRN (consA (appF g_turned (consA (vF 1) (consA (revF (vF 2) (bind1 negD (cF (.int 1)))) nilA))) nilA))) (mapLst (sortRN (consA (vF 6) nilA))))))))))))
noncomputable def g_law : List D → Option D := denF 7 F_law
theorem sc_law : FnScope ["_law_script", "_law_house_here", "_law_one", "_law_other", "_law_found", "_law_due_here", "_law_others"] ["_law_script"] (defScope s_law) := ⟨rfl, rfl, rfl, by decide +kernel, rfl, by decide +kernel, by decide +kernel⟩
theorem ok_law {P : Program} {w : World} {K : PySem.W.Frag} {mg : Str → Option Value} {base : Heap} {f : Addr} {fd : FuncData} (Fn : Fun K "law" "law" s_law f fd) (T : Txt K mg) (h_l_due : HasFn P w K mg base 9 "_law_due" 3 g_l_due) (h_l_house : HasFn P w K mg base 2 "_law_house" 2 g_l_house) (h_l_led : HasFn P w K mg base 2 "_law_led" 3 g_l_led) (h_l_turned_about : HasFn P w K mg base 1 "_law_turned_about" 1 g_l_turned_about) (h_l_word : HasFn P w K mg base 2 "_law_word" 4 g_l_word) (h_length : HasFn P w K mg base 7 "length" 2 g_length) (h_turned : HasFn P w K mg base 8 "turned" 2 g_turned) :
    FnOk P w K mg base CX0 10 f fd ["_law_script"] (spF K 1 g_law) :=
  fn_den (k := 9) (m := 7) (F := F_law) rfl rfl Fn sc_law fun cdv A outer s H E hr => (dss_cons (ds_asg 1 sc_law.nd (d_callH h_l_house (hr.mono (by decide)) rfl (da_cons (dv 0) (da_cons d_int da_nil)) (lenAS (lenAS lenA0)))) (dss_cons (ds_asg 2 sc_law.nd (d_callH h_l_word (hr.mono (by decide)) rfl (da_cons (dv 0) (da_cons (dv 1) (da_cons d_int (da_cons d_int da_nil)))) (lenAS (lenAS (lenAS (lenAS lenA0)))))) (dss_cons (ds_asg 3 sc_law.nd (d_callH h_l_word (hr.mono (by decide)) rfl (da_cons (dv 0) (da_cons (dv 1) (da_cons d_int (da_cons d_int da_nil)))) (lenAS (lenAS (lenAS (lenAS lenA0)))))) (dss_cons (ds_asg 4 sc_law.nd (d_callH h_turned (hr.mono (by decide)) rfl (da_cons (dv 1) (da_cons (d_addX (DE.dr (dv 2)) (DE.dr (dv 3))) da_nil)) (lenAS (lenAS lenA0)))) (dss_cons (ds_asg 5 sc_law.nd (d_callH h_l_due (hr.mono (by decide)) rfl (da_cons (dv 1) (da_cons (dv 2) (da_cons (dv 3) da_nil))) (lenAS (lenAS (lenAS lenA0))))) (dss_cons (ds_if (DW.dt (dw_or (dt_ne hr (DE.dr (DN.de (dn_sortedR hr rfl T.sorted_b (dar_cons (DE.dr (dv 4)) dar_nil)))) (DE.dr (DN.de (dn_sortedR hr rfl T.sorted_b (dar_cons (DE.dr (dv 5)) dar_nil))))) (dw_or1 (dt_ne hr (DE.dr (d_callB call_lenG fnR_len rfl T.len_b (by rfl) (dar_cons (DE.dr (dv 4)) dar_nil))) (DE.dr (d_callH h_length (hr.mono (by decide)) rfl (da_cons (dv 1) (da_cons (d_addX (DE.dr (dv 2)) (DE.dr (dv 3))) da_nil)) (lenAS (lenAS lenA0)))))))) (dss_one (ds_ret d_bl)) dss_nil) (dss_cons (ds_asgComp 6 sc_law.nd (own := ["_law_row"]) (frees := ["_law_house_here", "_law_one"]) (caps := [1, 2]) rfl (.of (by kernel_rfl)) rfl kn_name (di_seq (d_callH h_turned (hr.mono (by decide)) rfl (da_cons (dv 1) (da_cons (dv 2) da_nil)) (lenAS (lenAS lenA0)))) (fun cl C s H fp => ⟨(dg_name 0 (show List.Nodup (["_law_row", "_law_house_here", "_law_one"] : List Str) from by decide +kernel)), dq_nil, (d_callH h_l_turned_about (hr.mono (by decide)) rfl (da_cons (d_callH h_l_led (hr.mono (by decide)) rfl (da_cons (dv 1) (da_cons (dv 2) (da_cons (dv 0) da_nil))) (lenAS (lenAS (lenAS lenA0)))) da_nil) (lenAS lenA0))⟩)) (dss_one (ds_ret (d_eq hr (DE.dr (DN.de (dn_sortedR hr rfl T.sorted_b (dar_cons (DE.dr (d_callH h_turned (hr.mono (by decide)) rfl (da_cons (dv 1) (da_cons (d_rev (DE.dr (dv 2)) (DE.dr (d_neg (DE.dr d_int)))) da_nil)) (lenAS (lenAS lenA0)))) dar_nil)))) (DE.dr (DN.de (dn_sortedR hr rfl T.sorted_b (dar_cons (DE.dr (dv 6)) dar_nil))))))))))))))
theorem all_mk {l : PySem.W.OpenLaw} {w : World} {K : PySem.W.Frag} {h : Heap} {mg : Str → Option Value} {fa : Addr} (X : K.In h) (G : h.Ns mainGlobals mg) (hfa : mg "law" = some (.ref fa))
    {f0 : Addr} {oc0 : Value} {od0 an0 : Option Addr} {osl0 : Array (Option Value)} {kV0 doc0 pm0 cdv0 ct0 : Value}
    {f1 : Addr} {oc1 : Value} {od1 an1 : Option Addr} {osl1 : Array (Option Value)} {kV1 doc1 pm1 cdv1 ct1 : Value}
    {f2 : Addr} {oc2 : Value} {od2 an2 : Option Addr} {osl2 : Array (Option Value)} {kV2 doc2 pm2 cdv2 ct2 : Value}
    {f3 : Addr} {oc3 : Value} {od3 an3 : Option Addr} {osl3 : Array (Option Value)} {kV3 doc3 pm3 cdv3 ct3 : Value}
    {f4 : Addr} {oc4 : Value} {od4 an4 : Option Addr} {osl4 : Array (Option Value)} {kV4 doc4 pm4 cdv4 ct4 : Value}
    {f5 : Addr} {oc5 : Value} {od5 an5 : Option Addr} {osl5 : Array (Option Value)} {kV5 doc5 pm5 cdv5 ct5 : Value}
    {f6 : Addr} {oc6 : Value} {od6 an6 : Option Addr} {osl6 : Array (Option Value)} {kV6 doc6 pm6 cdv6 ct6 : Value}
    {f7 : Addr} {oc7 : Value} {od7 an7 : Option Addr} {osl7 : Array (Option Value)} {kV7 doc7 pm7 cdv7 ct7 : Value}
    {f8 : Addr} {oc8 : Value} {od8 an8 : Option Addr} {osl8 : Array (Option Value)} {kV8 doc8 pm8 cdv8 ct8 : Value}
    {f9 : Addr} {oc9 : Value} {od9 an9 : Option Addr} {osl9 : Array (Option Value)} {kV9 doc9 pm9 cdv9 ct9 : Value}
    {f10 : Addr} {oc10 : Value} {od10 an10 : Option Addr} {osl10 : Array (Option Value)} {kV10 doc10 pm10 cdv10 ct10 : Value}
    {f11 : Addr} {oc11 : Value} {od11 an11 : Option Addr} {osl11 : Array (Option Value)} {kV11 doc11 pm11 cdv11 ct11 : Value}
    {f12 : Addr} {oc12 : Value} {od12 an12 : Option Addr} {osl12 : Array (Option Value)} {kV12 doc12 pm12 cdv12 ct12 : Value}
    {f13 : Addr} {oc13 : Value} {od13 an13 : Option Addr} {osl13 : Array (Option Value)} {kV13 doc13 pm13 cdv13 ct13 : Value}
    {f14 : Addr} {oc14 : Value} {od14 an14 : Option Addr} {osl14 : Array (Option Value)} {kV14 doc14 pm14 cdv14 ct14 : Value}
    {f15 : Addr} {oc15 : Value} {od15 an15 : Option Addr} {osl15 : Array (Option Value)} {kV15 doc15 pm15 cdv15 ct15 : Value}
    {f16 : Addr} {oc16 : Value} {od16 an16 : Option Addr} {osl16 : Array (Option Value)} {kV16 doc16 pm16 cdv16 ct16 : Value}
    {f17 : Addr} {oc17 : Value} {od17 an17 : Option Addr} {osl17 : Array (Option Value)} {kV17 doc17 pm17 cdv17 ct17 : Value}
    {f18 : Addr} {oc18 : Value} {od18 an18 : Option Addr} {osl18 : Array (Option Value)} {kV18 doc18 pm18 cdv18 ct18 : Value}
    {f19 : Addr} {oc19 : Value} {od19 an19 : Option Addr} {osl19 : Array (Option Value)} {kV19 doc19 pm19 cdv19 ct19 : Value}
    {f20 : Addr} {oc20 : Value} {od20 an20 : Option Addr} {osl20 : Array (Option Value)} {kV20 doc20 pm20 cdv20 ct20 : Value}
    {f21 : Addr} {oc21 : Value} {od21 an21 : Option Addr} {osl21 : Array (Option Value)} {kV21 doc21 pm21 cdv21 ct21 : Value}
    {f22 : Addr} {oc22 : Value} {od22 an22 : Option Addr} {osl22 : Array (Option Value)} {kV22 doc22 pm22 cdv22 ct22 : Value}
    {f23 : Addr} {oc23 : Value} {od23 an23 : Option Addr} {osl23 : Array (Option Value)} {kV23 doc23 pm23 cdv23 ct23 : Value}
    {f24 : Addr} {oc24 : Value} {od24 an24 : Option Addr} {osl24 : Array (Option Value)} {kV24 doc24 pm24 cdv24 ct24 : Value}
    {f25 : Addr} {oc25 : Value} {od25 an25 : Option Addr} {osl25 : Array (Option Value)} {kV25 doc25 pm25 cdv25 ct25 : Value}
    {f26 : Addr} {oc26 : Value} {od26 an26 : Option Addr} {osl26 : Array (Option Value)} {kV26 doc26 pm26 cdv26 ct26 : Value}
    {f27 : Addr} {oc27 : Value} {od27 an27 : Option Addr} {osl27 : Array (Option Value)} {kV27 doc27 pm27 cdv27 ct27 : Value}
    {f28 : Addr} {oc28 : Value} {od28 an28 : Option Addr} {osl28 : Array (Option Value)} {kV28 doc28 pm28 cdv28 ct28 : Value}
    {f29 : Addr} {oc29 : Value} {od29 an29 : Option Addr} {osl29 : Array (Option Value)} {kV29 doc29 pm29 cdv29 ct29 : Value}
    {f30 : Addr} {oc30 : Value} {od30 an30 : Option Addr} {osl30 : Array (Option Value)} {kV30 doc30 pm30 cdv30 ct30 : Value}
    {f31 : Addr} {oc31 : Value} {od31 an31 : Option Addr} {osl31 : Array (Option Value)} {kV31 doc31 pm31 cdv31 ct31 : Value}
    {f32 : Addr} {oc32 : Value} {od32 an32 : Option Addr} {osl32 : Array (Option Value)} {kV32 doc32 pm32 cdv32 ct32 : Value}
    {t_NOT_TOLD : Tok}
    {tk_NOUGHT_0 : Tok}
    {tk_NOUGHT_1 : Tok}
    {ta_NOUGHT : Addr} {od_NOUGHT : Option Addr} {n_NOUGHT : Nat} {osl_NOUGHT : Array (Option Value)}
    {tk_ONE_0 : Tok}
    {tk_ONE_1 : Tok}
    {ta_ONE : Addr} {od_ONE : Option Addr} {n_ONE : Nat} {osl_ONE : Array (Option Value)}
    {tk_PULLS_BELOW_NOUGHT_0_0 : Tok}
    {tk_PULLS_BELOW_NOUGHT_0_1 : Tok}
    {ta_PULLS_BELOW_NOUGHT_0 : Addr} {od_PULLS_BELOW_NOUGHT_0 : Option Addr} {n_PULLS_BELOW_NOUGHT_0 : Nat} {osl_PULLS_BELOW_NOUGHT_0 : Array (Option Value)}
    {kk_PULLS_BELOW_NOUGHT_0 : Tok}
    {tk_PULLS_BELOW_NOUGHT_1_0 : Tok}
    {tk_PULLS_BELOW_NOUGHT_1_1 : Tok}
    {ta_PULLS_BELOW_NOUGHT_1 : Addr} {od_PULLS_BELOW_NOUGHT_1 : Option Addr} {n_PULLS_BELOW_NOUGHT_1 : Nat} {osl_PULLS_BELOW_NOUGHT_1 : Array (Option Value)}
    {kk_PULLS_BELOW_NOUGHT_1 : Tok}
    {tk_PULLS_BELOW_NOUGHT_2_0 : Tok}
    {tk_PULLS_BELOW_NOUGHT_2_1 : Tok}
    {ta_PULLS_BELOW_NOUGHT_2 : Addr} {od_PULLS_BELOW_NOUGHT_2 : Option Addr} {n_PULLS_BELOW_NOUGHT_2 : Nat} {osl_PULLS_BELOW_NOUGHT_2 : Array (Option Value)}
    {kk_PULLS_BELOW_NOUGHT_2 : Tok}
    {tk_PULLS_BELOW_NOUGHT_3_0 : Tok}
    {tk_PULLS_BELOW_NOUGHT_3_1 : Tok}
    {ta_PULLS_BELOW_NOUGHT_3 : Addr} {od_PULLS_BELOW_NOUGHT_3 : Option Addr} {n_PULLS_BELOW_NOUGHT_3 : Nat} {osl_PULLS_BELOW_NOUGHT_3 : Array (Option Value)}
    {kk_PULLS_BELOW_NOUGHT_3 : Tok}
    {tk_PULLS_BELOW_NOUGHT_4_0 : Tok}
    {tk_PULLS_BELOW_NOUGHT_4_1 : Tok}
    {ta_PULLS_BELOW_NOUGHT_4 : Addr} {od_PULLS_BELOW_NOUGHT_4 : Option Addr} {n_PULLS_BELOW_NOUGHT_4 : Nat} {osl_PULLS_BELOW_NOUGHT_4 : Array (Option Value)}
    {kk_PULLS_BELOW_NOUGHT_4 : Tok}
    {tk_PULLS_BELOW_NOUGHT_5_0 : Tok}
    {tk_PULLS_BELOW_NOUGHT_5_1 : Tok}
    {ta_PULLS_BELOW_NOUGHT_5 : Addr} {od_PULLS_BELOW_NOUGHT_5 : Option Addr} {n_PULLS_BELOW_NOUGHT_5 : Nat} {osl_PULLS_BELOW_NOUGHT_5 : Array (Option Value)}
    {kk_PULLS_BELOW_NOUGHT_5 : Tok}
    {da_PULLS_BELOW_NOUGHT : Addr} {ep_PULLS_BELOW_NOUGHT : Nat}
    (a0 : PySem.W.nsIn K mainGlobals "plus" = some (some (.ref f0))) (l0 : K.lookup f0 = some ⟨oc0, od0, .func (PySem.W.fnOf "plus" "plus" (defArgs s_plus) (defBody s_plus) (defScope s_plus) .none kV0 doc0 pm0 an0 cdv0 ct0), osl0⟩) (c0 : PySem.W.codeIn K cdv0 "plus" = true) (k0 : PySem.W.keepIn K (.ref f0) = true)
    (a1 : PySem.W.nsIn K mainGlobals "times" = some (some (.ref f1))) (l1 : K.lookup f1 = some ⟨oc1, od1, .func (PySem.W.fnOf "times" "times" (defArgs s_times) (defBody s_times) (defScope s_times) .none kV1 doc1 pm1 an1 cdv1 ct1), osl1⟩) (c1 : PySem.W.codeIn K cdv1 "times" = true) (k1 : PySem.W.keepIn K (.ref f1) = true)
    (a2 : PySem.W.nsIn K mainGlobals "minus" = some (some (.ref f2))) (l2 : K.lookup f2 = some ⟨oc2, od2, .func (PySem.W.fnOf "minus" "minus" (defArgs s_minus) (defBody s_minus) (defScope s_minus) .none kV2 doc2 pm2 an2 cdv2 ct2), osl2⟩) (c2 : PySem.W.codeIn K cdv2 "minus" = true) (k2 : PySem.W.keepIn K (.ref f2) = true)
    (a3 : PySem.W.nsIn K mainGlobals "whole_sign" = some (some (.ref f3))) (l3 : K.lookup f3 = some ⟨oc3, od3, .func (PySem.W.fnOf "whole_sign" "whole_sign" (defArgs s_whole_sign) (defBody s_whole_sign) (defScope s_whole_sign) .none kV3 doc3 pm3 an3 cdv3 ct3), osl3⟩) (c3 : PySem.W.codeIn K cdv3 "whole_sign" = true) (k3 : PySem.W.keepIn K (.ref f3) = true)
    (a4 : PySem.W.nsIn K mainGlobals "sign" = some (some (.ref f4))) (l4 : K.lookup f4 = some ⟨oc4, od4, .func (PySem.W.fnOf "sign" "sign" (defArgs s_sign) (defBody s_sign) (defScope s_sign) .none kV4 doc4 pm4 an4 cdv4 ct4), osl4⟩) (c4 : PySem.W.codeIn K cdv4 "sign" = true) (k4 : PySem.W.keepIn K (.ref f4) = true)
    (a5 : PySem.W.nsIn K mainGlobals "turn_of" = some (some (.ref f5))) (l5 : K.lookup f5 = some ⟨oc5, od5, .func (PySem.W.fnOf "turn_of" "turn_of" (defArgs s_turn_of) (defBody s_turn_of) (defScope s_turn_of) .none kV5 doc5 pm5 an5 cdv5 ct5), osl5⟩) (c5 : PySem.W.codeIn K cdv5 "turn_of" = true) (k5 : PySem.W.keepIn K (.ref f5) = true)
    (a6 : PySem.W.nsIn K mainGlobals "pull" = some (some (.ref f6))) (l6 : K.lookup f6 = some ⟨oc6, od6, .func (PySem.W.fnOf "pull" "pull" (defArgs s_pull) (defBody s_pull) (defScope s_pull) .none kV6 doc6 pm6 an6 cdv6 ct6), osl6⟩) (c6 : PySem.W.codeIn K cdv6 "pull" = true) (k6 : PySem.W.keepIn K (.ref f6) = true)
    (a7 : PySem.W.nsIn K mainGlobals "simple" = some (some (.ref f7))) (l7 : K.lookup f7 = some ⟨oc7, od7, .func (PySem.W.fnOf "simple" "simple" (defArgs s_simple) (defBody s_simple) (defScope s_simple) .none kV7 doc7 pm7 an7 cdv7 ct7), osl7⟩) (c7 : PySem.W.codeIn K cdv7 "simple" = true) (k7 : PySem.W.keepIn K (.ref f7) = true)
    (a8 : PySem.W.nsIn K mainGlobals "mirrored" = some (some (.ref f8))) (l8 : K.lookup f8 = some ⟨oc8, od8, .func (PySem.W.fnOf "mirrored" "mirrored" (defArgs s_mirrored) (defBody s_mirrored) (defScope s_mirrored) .none kV8 doc8 pm8 an8 cdv8 ct8), osl8⟩) (c8 : PySem.W.codeIn K cdv8 "mirrored" = true) (k8 : PySem.W.keepIn K (.ref f8) = true)
    (a9 : PySem.W.nsIn K mainGlobals "led" = some (some (.ref f9))) (l9 : K.lookup f9 = some ⟨oc9, od9, .func (PySem.W.fnOf "led" "led" (defArgs s_led) (defBody s_led) (defScope s_led) .none kV9 doc9 pm9 an9 cdv9 ct9), osl9⟩) (c9 : PySem.W.codeIn K cdv9 "led" = true) (k9 : PySem.W.keepIn K (.ref f9) = true)
    (a10 : PySem.W.nsIn K mainGlobals "images" = some (some (.ref f10))) (l10 : K.lookup f10 = some ⟨oc10, od10, .func (PySem.W.fnOf "images" "images" (defArgs s_images) (defBody s_images) (defScope s_images) .none kV10 doc10 pm10 an10 cdv10 ct10), osl10⟩) (c10 : PySem.W.codeIn K cdv10 "images" = true) (k10 : PySem.W.keepIn K (.ref f10) = true)
    (a11 : PySem.W.nsIn K mainGlobals "less_by" = some (some (.ref f11))) (l11 : K.lookup f11 = some ⟨oc11, od11, .func (PySem.W.fnOf "less_by" "less_by" (defArgs s_less_by) (defBody s_less_by) (defScope s_less_by) .none kV11 doc11 pm11 an11 cdv11 ct11), osl11⟩) (c11 : PySem.W.codeIn K cdv11 "less_by" = true) (k11 : PySem.W.keepIn K (.ref f11) = true)
    (a12 : PySem.W.nsIn K mainGlobals "images_with_behind" = some (some (.ref f12))) (l12 : K.lookup f12 = some ⟨oc12, od12, .func (PySem.W.fnOf "images_with_behind" "images_with_behind" (defArgs s_images_with_behind) (defBody s_images_with_behind) (defScope s_images_with_behind) .none kV12 doc12 pm12 an12 cdv12 ct12), osl12⟩) (c12 : PySem.W.codeIn K cdv12 "images_with_behind" = true) (k12 : PySem.W.keepIn K (.ref f12) = true)
    (a13 : PySem.W.nsIn K mainGlobals "is_above" = some (some (.ref f13))) (l13 : K.lookup f13 = some ⟨oc13, od13, .func (PySem.W.fnOf "is_above" "is_above" (defArgs s_is_above) (defBody s_is_above) (defScope s_is_above) .none kV13 doc13 pm13 an13 cdv13 ct13), osl13⟩) (c13 : PySem.W.codeIn K cdv13 "is_above" = true) (k13 : PySem.W.keepIn K (.ref f13) = true)
    (a14 : PySem.W.nsIn K mainGlobals "is_below" = some (some (.ref f14))) (l14 : K.lookup f14 = some ⟨oc14, od14, .func (PySem.W.fnOf "is_below" "is_below" (defArgs s_is_below) (defBody s_is_below) (defScope s_is_below) .none kV14 doc14 pm14 an14 cdv14 ct14), osl14⟩) (c14 : PySem.W.codeIn K cdv14 "is_below" = true) (k14 : PySem.W.keepIn K (.ref f14) = true)
    (a15 : PySem.W.nsIn K mainGlobals "which_lengthen" = some (some (.ref f15))) (l15 : K.lookup f15 = some ⟨oc15, od15, .func (PySem.W.fnOf "which_lengthen" "which_lengthen" (defArgs s_which_lengthen) (defBody s_which_lengthen) (defScope s_which_lengthen) .none kV15 doc15 pm15 an15 cdv15 ct15), osl15⟩) (c15 : PySem.W.codeIn K cdv15 "which_lengthen" = true) (k15 : PySem.W.keepIn K (.ref f15) = true)
    (a16 : PySem.W.nsIn K mainGlobals "is_short" = some (some (.ref f16))) (l16 : K.lookup f16 = some ⟨oc16, od16, .func (PySem.W.fnOf "is_short" "is_short" (defArgs s_is_short) (defBody s_is_short) (defScope s_is_short) .none kV16 doc16 pm16 an16 cdv16 ct16), osl16⟩) (c16 : PySem.W.codeIn K cdv16 "is_short" = true) (k16 : PySem.W.keepIn K (.ref f16) = true)
    (a17 : PySem.W.nsIn K mainGlobals "length" = some (some (.ref f17))) (l17 : K.lookup f17 = some ⟨oc17, od17, .func (PySem.W.fnOf "length" "length" (defArgs s_length) (defBody s_length) (defScope s_length) .none kV17 doc17 pm17 an17 cdv17 ct17), osl17⟩) (c17 : PySem.W.codeIn K cdv17 "length" = true) (k17 : PySem.W.keepIn K (.ref f17) = true)
    (a18 : PySem.W.nsIn K mainGlobals "first_below" = some (some (.ref f18))) (l18 : K.lookup f18 = some ⟨oc18, od18, .func (PySem.W.fnOf "first_below" "first_below" (defArgs s_first_below) (defBody s_first_below) (defScope s_first_below) .none kV18 doc18 pm18 an18 cdv18 ct18), osl18⟩) (c18 : PySem.W.codeIn K cdv18 "first_below" = true) (k18 : PySem.W.keepIn K (.ref f18) = true)
    (a19 : PySem.W.nsIn K mainGlobals "least" = some (some (.ref f19))) (l19 : K.lookup f19 = some ⟨oc19, od19, .func (PySem.W.fnOf "least" "least" (defArgs s_least) (defBody s_least) (defScope s_least) .none kV19 doc19 pm19 an19 cdv19 ct19), osl19⟩) (c19 : PySem.W.codeIn K cdv19 "least" = true) (k19 : PySem.W.keepIn K (.ref f19) = true)
    (a20 : PySem.W.nsIn K mainGlobals "turned" = some (some (.ref f20))) (l20 : K.lookup f20 = some ⟨oc20, od20, .func (PySem.W.fnOf "turned" "turned" (defArgs s_turned) (defBody s_turned) (defScope s_turned) .none kV20 doc20 pm20 an20 cdv20 ct20), osl20⟩) (c20 : PySem.W.codeIn K cdv20 "turned" = true) (k20 : PySem.W.keepIn K (.ref f20) = true)
    (a21 : PySem.W.nsIn K mainGlobals "_law_cell_at" = some (some (.ref f21))) (l21 : K.lookup f21 = some ⟨oc21, od21, .func (PySem.W.fnOf "_law_cell_at" "_law_cell_at" (defArgs s_l_cell_at) (defBody s_l_cell_at) (defScope s_l_cell_at) .none kV21 doc21 pm21 an21 cdv21 ct21), osl21⟩) (c21 : PySem.W.codeIn K cdv21 "_law_cell_at" = true) (k21 : PySem.W.keepIn K (.ref f21) = true)
    (a22 : PySem.W.nsIn K mainGlobals "_law_mix" = some (some (.ref f22))) (l22 : K.lookup f22 = some ⟨oc22, od22, .func (PySem.W.fnOf "_law_mix" "_law_mix" (defArgs s_l_mix) (defBody s_l_mix) (defScope s_l_mix) .none kV22 doc22 pm22 an22 cdv22 ct22), osl22⟩) (c22 : PySem.W.codeIn K cdv22 "_law_mix" = true) (k22 : PySem.W.keepIn K (.ref f22) = true)
    (a23 : PySem.W.nsIn K mainGlobals "_law_house" = some (some (.ref f23))) (l23 : K.lookup f23 = some ⟨oc23, od23, .func (PySem.W.fnOf "_law_house" "_law_house" (defArgs s_l_house) (defBody s_l_house) (defScope s_l_house) .none kV23 doc23 pm23 an23 cdv23 ct23), osl23⟩) (c23 : PySem.W.codeIn K cdv23 "_law_house" = true) (k23 : PySem.W.keepIn K (.ref f23) = true)
    (a24 : PySem.W.nsIn K mainGlobals "_law_word" = some (some (.ref f24))) (l24 : K.lookup f24 = some ⟨oc24, od24, .func (PySem.W.fnOf "_law_word" "_law_word" (defArgs s_l_word) (defBody s_l_word) (defScope s_l_word) .none kV24 doc24 pm24 an24 cdv24 ct24), osl24⟩) (c24 : PySem.W.codeIn K cdv24 "_law_word" = true) (k24 : PySem.W.keepIn K (.ref f24) = true)
    (a25 : PySem.W.nsIn K mainGlobals "_law_plus" = some (some (.ref f25))) (l25 : K.lookup f25 = some ⟨oc25, od25, .func (PySem.W.fnOf "_law_plus" "_law_plus" (defArgs s_l_plus) (defBody s_l_plus) (defScope s_l_plus) .none kV25 doc25 pm25 an25 cdv25 ct25), osl25⟩) (c25 : PySem.W.codeIn K cdv25 "_law_plus" = true) (k25 : PySem.W.keepIn K (.ref f25) = true)
    (a26 : PySem.W.nsIn K mainGlobals "_law_times" = some (some (.ref f26))) (l26 : K.lookup f26 = some ⟨oc26, od26, .func (PySem.W.fnOf "_law_times" "_law_times" (defArgs s_l_times) (defBody s_l_times) (defScope s_l_times) .none kV26 doc26 pm26 an26 cdv26 ct26), osl26⟩) (c26 : PySem.W.codeIn K cdv26 "_law_times" = true) (k26 : PySem.W.keepIn K (.ref f26) = true)
    (a27 : PySem.W.nsIn K mainGlobals "_law_sign" = some (some (.ref f27))) (l27 : K.lookup f27 = some ⟨oc27, od27, .func (PySem.W.fnOf "_law_sign" "_law_sign" (defArgs s_l_sign) (defBody s_l_sign) (defScope s_l_sign) .none kV27 doc27 pm27 an27 cdv27 ct27), osl27⟩) (c27 : PySem.W.codeIn K cdv27 "_law_sign" = true) (k27 : PySem.W.keepIn K (.ref f27) = true)
    (a28 : PySem.W.nsIn K mainGlobals "_law_pull" = some (some (.ref f28))) (l28 : K.lookup f28 = some ⟨oc28, od28, .func (PySem.W.fnOf "_law_pull" "_law_pull" (defArgs s_l_pull) (defBody s_l_pull) (defScope s_l_pull) .none kV28 doc28 pm28 an28 cdv28 ct28), osl28⟩) (c28 : PySem.W.codeIn K cdv28 "_law_pull" = true) (k28 : PySem.W.keepIn K (.ref f28) = true)
    (a29 : PySem.W.nsIn K mainGlobals "_law_led" = some (some (.ref f29))) (l29 : K.lookup f29 = some ⟨oc29, od29, .func (PySem.W.fnOf "_law_led" "_law_led" (defArgs s_l_led) (defBody s_l_led) (defScope s_l_led) .none kV29 doc29 pm29 an29 cdv29 ct29), osl29⟩) (c29 : PySem.W.codeIn K cdv29 "_law_led" = true) (k29 : PySem.W.keepIn K (.ref f29) = true)
    (a30 : PySem.W.nsIn K mainGlobals "_law_turned_about" = some (some (.ref f30))) (l30 : K.lookup f30 = some ⟨oc30, od30, .func (PySem.W.fnOf "_law_turned_about" "_law_turned_about" (defArgs s_l_turned_about) (defBody s_l_turned_about) (defScope s_l_turned_about) .none kV30 doc30 pm30 an30 cdv30 ct30), osl30⟩) (c30 : PySem.W.codeIn K cdv30 "_law_turned_about" = true) (k30 : PySem.W.keepIn K (.ref f30) = true)
    (a31 : PySem.W.nsIn K mainGlobals "_law_due" = some (some (.ref f31))) (l31 : K.lookup f31 = some ⟨oc31, od31, .func (PySem.W.fnOf "_law_due" "_law_due" (defArgs s_l_due) (defBody s_l_due) (defScope s_l_due) .none kV31 doc31 pm31 an31 cdv31 ct31), osl31⟩) (c31 : PySem.W.codeIn K cdv31 "_law_due" = true) (k31 : PySem.W.keepIn K (.ref f31) = true)
    (a32 : PySem.W.nsIn K mainGlobals "law" = some (some (.ref f32))) (l32 : K.lookup f32 = some ⟨oc32, od32, .func (PySem.W.fnOf "law" "law" (defArgs s_law) (defBody s_law) (defScope s_law) .none kV32 doc32 pm32 an32 cdv32 ct32), osl32⟩) (c32 : PySem.W.codeIn K cdv32 "law" = true) (k32 : PySem.W.keepIn K (.ref f32) = true)
    (b_all : PySem.W.nsIn K mainGlobals "all" = some none)
    (b_enumerate : PySem.W.nsIn K mainGlobals "enumerate" = some none)
    (b_int : PySem.W.nsIn K mainGlobals "int" = some none)
    (b_len : PySem.W.nsIn K mainGlobals "len" = some none)
    (b_max : PySem.W.nsIn K mainGlobals "max" = some none)
    (b_min : PySem.W.nsIn K mainGlobals "min" = some none)
    (b_range : PySem.W.nsIn K mainGlobals "range" = some none)
    (b_reversed : PySem.W.nsIn K mainGlobals "reversed" = some none)
    (b_sorted : PySem.W.nsIn K mainGlobals "sorted" = some none)
    (b_sum : PySem.W.nsIn K mainGlobals "sum" = some none)
    (b_tuple : PySem.W.nsIn K mainGlobals "tuple" = some none)
    (b_zip : PySem.W.nsIn K mainGlobals "zip" = some none)
    (q_NOT_TOLD : PySem.W.nsIn K mainGlobals "NOT_TOLD" = some (some (.int 2 t_NOT_TOLD)))
    (q_NOUGHT : PySem.W.nsIn K mainGlobals "NOUGHT" = some (some (.ref ta_NOUGHT)))
    (r_NOUGHT : K.lookup ta_NOUGHT = some ⟨.type "tuple", od_NOUGHT, .seq #[.int 0 tk_NOUGHT_0, .int 0 tk_NOUGHT_1] n_NOUGHT, osl_NOUGHT⟩)
    (q_ONE : PySem.W.nsIn K mainGlobals "ONE" = some (some (.ref ta_ONE)))
    (r_ONE : K.lookup ta_ONE = some ⟨.type "tuple", od_ONE, .seq #[.int 1 tk_ONE_0, .int 0 tk_ONE_1] n_ONE, osl_ONE⟩)
    (q_PULLS_BELOW_NOUGHT : PySem.W.nsIn K mainGlobals "PULLS_BELOW_NOUGHT" = some (some (.ref da_PULLS_BELOW_NOUGHT)))
    (r_PULLS_BELOW_NOUGHT : K.lookup da_PULLS_BELOW_NOUGHT = some ⟨.type "dict", none, .dict #[⟨0, .int 0 kk_PULLS_BELOW_NOUGHT_0, .ref ta_PULLS_BELOW_NOUGHT_0⟩, ⟨2, .int 2 kk_PULLS_BELOW_NOUGHT_1, .ref ta_PULLS_BELOW_NOUGHT_1⟩, ⟨3, .int 3 kk_PULLS_BELOW_NOUGHT_2, .ref ta_PULLS_BELOW_NOUGHT_2⟩, ⟨4, .int 4 kk_PULLS_BELOW_NOUGHT_3, .ref ta_PULLS_BELOW_NOUGHT_3⟩, ⟨5, .int 5 kk_PULLS_BELOW_NOUGHT_4, .ref ta_PULLS_BELOW_NOUGHT_4⟩, ⟨6, .int 6 kk_PULLS_BELOW_NOUGHT_5, .ref ta_PULLS_BELOW_NOUGHT_5⟩] ep_PULLS_BELOW_NOUGHT, #[]⟩)
    (r_PULLS_BELOW_NOUGHT_0 : K.lookup ta_PULLS_BELOW_NOUGHT_0 = some ⟨.type "tuple", od_PULLS_BELOW_NOUGHT_0, .seq #[.int 2 tk_PULLS_BELOW_NOUGHT_0_0, .int 0 tk_PULLS_BELOW_NOUGHT_0_1] n_PULLS_BELOW_NOUGHT_0, osl_PULLS_BELOW_NOUGHT_0⟩)
    (r_PULLS_BELOW_NOUGHT_1 : K.lookup ta_PULLS_BELOW_NOUGHT_1 = some ⟨.type "tuple", od_PULLS_BELOW_NOUGHT_1, .seq #[.int 0 tk_PULLS_BELOW_NOUGHT_1_0, .int 0 tk_PULLS_BELOW_NOUGHT_1_1] n_PULLS_BELOW_NOUGHT_1, osl_PULLS_BELOW_NOUGHT_1⟩)
    (r_PULLS_BELOW_NOUGHT_2 : K.lookup ta_PULLS_BELOW_NOUGHT_2 = some ⟨.type "tuple", od_PULLS_BELOW_NOUGHT_2, .seq #[.int 1 tk_PULLS_BELOW_NOUGHT_2_0, .int 0 tk_PULLS_BELOW_NOUGHT_2_1] n_PULLS_BELOW_NOUGHT_2, osl_PULLS_BELOW_NOUGHT_2⟩)
    (r_PULLS_BELOW_NOUGHT_3 : K.lookup ta_PULLS_BELOW_NOUGHT_3 = some ⟨.type "tuple", od_PULLS_BELOW_NOUGHT_3, .seq #[.int 2 tk_PULLS_BELOW_NOUGHT_3_0, .int 0 tk_PULLS_BELOW_NOUGHT_3_1] n_PULLS_BELOW_NOUGHT_3, osl_PULLS_BELOW_NOUGHT_3⟩)
    (r_PULLS_BELOW_NOUGHT_4 : K.lookup ta_PULLS_BELOW_NOUGHT_4 = some ⟨.type "tuple", od_PULLS_BELOW_NOUGHT_4, .seq #[.int 0 tk_PULLS_BELOW_NOUGHT_4_0, .int 1 tk_PULLS_BELOW_NOUGHT_4_1] n_PULLS_BELOW_NOUGHT_4, osl_PULLS_BELOW_NOUGHT_4⟩)
    (r_PULLS_BELOW_NOUGHT_5 : K.lookup ta_PULLS_BELOW_NOUGHT_5 = some ⟨.type "tuple", od_PULLS_BELOW_NOUGHT_5, .seq #[.int 3 tk_PULLS_BELOW_NOUGHT_5_0, .int 0 tk_PULLS_BELOW_NOUGHT_5_1] n_PULLS_BELOW_NOUGHT_5, osl_PULLS_BELOW_NOUGHT_5⟩)
    : ∃ fd : FuncData, (∀ (s : Shared) (v : Value), BindsTo s fd ⟨[v], []⟩ [("_law_script", v)]) ∧ ∀ base : Heap, K.In base → base.Ns mainGlobals mg → FnOk l.prog w K mg base CX0 10 fa fd ["_law_script"] (spF K 1 g_law) := by
  have e := hfa.symm.trans (PySem.W.mg_of X G a32)
  cases e
  have T : Txt K mg := ⟨trivial, PySem.W.mg_none_of X G b_all, PySem.W.mg_none_of X G b_enumerate, PySem.W.mg_none_of X G b_int, PySem.W.mg_none_of X G b_len, PySem.W.mg_none_of X G b_max, PySem.W.mg_none_of X G b_min, PySem.W.mg_none_of X G b_range, PySem.W.mg_none_of X G b_reversed, PySem.W.mg_none_of X G b_sorted, PySem.W.mg_none_of X G b_sum, PySem.W.mg_none_of X G b_tuple, PySem.W.mg_none_of X G b_zip, ⟨_, PySem.W.mg_of X G q_NOT_TOLD⟩, gtup_mk (xs := [.int 0, .int 0]) (PySem.W.mg_of X G q_NOUGHT) r_NOUGHT (show 2 ≤ sizeLine from by decide) (.cons ⟨_, rfl⟩ (.cons ⟨_, rfl⟩ .nil)) (.cons (Has.int_iff.mpr rfl) (.cons (Has.int_iff.mpr rfl) .nil)), gtup_mk (xs := [.int 1, .int 0]) (PySem.W.mg_of X G q_ONE) r_ONE (show 2 ≤ sizeLine from by decide) (.cons ⟨_, rfl⟩ (.cons ⟨_, rfl⟩ .nil)) (.cons (Has.int_iff.mpr rfl) (.cons (Has.int_iff.mpr rfl) .nil)), gdict_mk (PySem.W.mg_of X G q_PULLS_BELOW_NOUGHT) r_PULLS_BELOW_NOUGHT (.cons (v := .ref _) (by rfl) rfl (has_ktup (xs := [.int 2, .int 0]) r_PULLS_BELOW_NOUGHT_0 (show 2 ≤ sizeLine from by decide) (.cons ⟨_, rfl⟩ (.cons ⟨_, rfl⟩ .nil)) (.cons (Has.int_iff.mpr rfl) (.cons (Has.int_iff.mpr rfl) .nil))) (.cons (v := .ref _) (by rfl) rfl (has_ktup (xs := [.int 0, .int 0]) r_PULLS_BELOW_NOUGHT_1 (show 2 ≤ sizeLine from by decide) (.cons ⟨_, rfl⟩ (.cons ⟨_, rfl⟩ .nil)) (.cons (Has.int_iff.mpr rfl) (.cons (Has.int_iff.mpr rfl) .nil))) (.cons (v := .ref _) (by rfl) rfl (has_ktup (xs := [.int 1, .int 0]) r_PULLS_BELOW_NOUGHT_2 (show 2 ≤ sizeLine from by decide) (.cons ⟨_, rfl⟩ (.cons ⟨_, rfl⟩ .nil)) (.cons (Has.int_iff.mpr rfl) (.cons (Has.int_iff.mpr rfl) .nil))) (.cons (v := .ref _) (by rfl) rfl (has_ktup (xs := [.int 2, .int 0]) r_PULLS_BELOW_NOUGHT_3 (show 2 ≤ sizeLine from by decide) (.cons ⟨_, rfl⟩ (.cons ⟨_, rfl⟩ .nil)) (.cons (Has.int_iff.mpr rfl) (.cons (Has.int_iff.mpr rfl) .nil))) (.cons (v := .ref _) (by rfl) rfl (has_ktup (xs := [.int 0, .int 1]) r_PULLS_BELOW_NOUGHT_4 (show 2 ≤ sizeLine from by decide) (.cons ⟨_, rfl⟩ (.cons ⟨_, rfl⟩ .nil)) (.cons (Has.int_iff.mpr rfl) (.cons (Has.int_iff.mpr rfl) .nil))) (.cons (v := .ref _) (by rfl) rfl (has_ktup (xs := [.int 3, .int 0]) r_PULLS_BELOW_NOUGHT_5 (show 2 ≤ sizeLine from by decide) (.cons ⟨_, rfl⟩ (.cons ⟨_, rfl⟩ .nil)) (.cons (Has.int_iff.mpr rfl) (.cons (Has.int_iff.mpr rfl) .nil))) .nil)))))) (by decide)⟩
  have F0 := fun_mk (st := s_plus) l0 c0 k0
  have B0 := F0.binds (ps := ["x", "y"]) fun _ _ _ _ _ _ => all2 (fun _ _ => rfl)
  have F1 := fun_mk (st := s_times) l1 c1 k1
  have B1 := F1.binds (ps := ["x", "y"]) fun _ _ _ _ _ _ => all2 (fun _ _ => rfl)
  have F2 := fun_mk (st := s_minus) l2 c2 k2
  have B2 := F2.binds (ps := ["x"]) fun _ _ _ _ _ _ => all1 (fun _ => rfl)
  have F3 := fun_mk (st := s_whole_sign) l3 c3 k3
  have B3 := F3.binds (ps := ["number"]) fun _ _ _ _ _ _ => all1 (fun _ => rfl)
  have F4 := fun_mk (st := s_sign) l4 c4 k4
  have B4 := F4.binds (ps := ["x"]) fun _ _ _ _ _ _ => all1 (fun _ => rfl)
  have F5 := fun_mk (st := s_turn_of) l5 c5 k5
  have B5 := F5.binds (ps := ["house", "i", "j"]) fun _ _ _ _ _ _ => all3 (fun _ _ _ => rfl)
  have F6 := fun_mk (st := s_pull) l6 c6 k6
  have B6 := F6.binds (ps := ["house", "i", "j"]) fun _ _ _ _ _ _ => all3 (fun _ _ _ => rfl)
  have F7 := fun_mk (st := s_simple) l7 c7 k7
  have B7 := F7.binds (ps := ["house", "i"]) fun _ _ _ _ _ _ => all2 (fun _ _ => rfl)
  have F8 := fun_mk (st := s_mirrored) l8 c8 k8
  have B8 := F8.binds (ps := ["house", "i", "row"]) fun _ _ _ _ _ _ => all3 (fun _ _ _ => rfl)
  have F9 := fun_mk (st := s_led) l9 c9 k9
  have B9 := F9.binds (ps := ["house", "word", "row"]) fun _ _ _ _ _ _ => all3 (fun _ _ _ => rfl)
  have F10 := fun_mk (st := s_images) l10 c10 k10
  have B10 := F10.binds (ps := ["house", "word"]) fun _ _ _ _ _ _ => all2 (fun _ _ => rfl)
  have F11 := fun_mk (st := s_less_by) l11 c11 k11
  have B11 := F11.binds (ps := ["row", "factor", "other"]) fun _ _ _ _ _ _ => all3 (fun _ _ _ => rfl)
  have F12 := fun_mk (st := s_images_with_behind) l12 c12 k12
  have B12 := F12.binds (ps := ["house", "rows", "i"]) fun _ _ _ _ _ _ => all3 (fun _ _ _ => rfl)
  have F13 := fun_mk (st := s_is_above) l13 c13 k13
  have B13 := F13.binds (ps := ["row"]) fun _ _ _ _ _ _ => all1 (fun _ => rfl)
  have F14 := fun_mk (st := s_is_below) l14 c14 k14
  have B14 := F14.binds (ps := ["row"]) fun _ _ _ _ _ _ => all1 (fun _ => rfl)
  have F15 := fun_mk (st := s_which_lengthen) l15 c15 k15
  have B15 := F15.binds (ps := ["house", "word"]) fun _ _ _ _ _ _ => all2 (fun _ _ => rfl)
  have F16 := fun_mk (st := s_is_short) l16 c16 k16
  have B16 := F16.binds (ps := ["house", "word"]) fun _ _ _ _ _ _ => all2 (fun _ _ => rfl)
  have F17 := fun_mk (st := s_length) l17 c17 k17
  have B17 := F17.binds (ps := ["house", "word"]) fun _ _ _ _ _ _ => all2 (fun _ _ => rfl)
  have F18 := fun_mk (st := s_first_below) l18 c18 k18
  have B18 := F18.binds (ps := ["rows"]) fun _ _ _ _ _ _ => all1 (fun _ => rfl)
  have F19 := fun_mk (st := s_least) l19 c19 k19
  have B19 := F19.binds (ps := ["house", "word"]) fun _ _ _ _ _ _ => all2 (fun _ _ => rfl)
  have F20 := fun_mk (st := s_turned) l20 c20 k20
  have B20 := F20.binds (ps := ["house", "word"]) fun _ _ _ _ _ _ => all2 (fun _ _ => rfl)
  have F21 := fun_mk (st := s_l_cell_at) l21 c21 k21
  have B21 := F21.binds (ps := ["_law_script", "_law_k"]) fun _ _ _ _ _ _ => all2 (fun _ _ => rfl)
  have F22 := fun_mk (st := s_l_mix) l22 c22 k22
  have B22 := F22.binds (ps := ["_law_cell", "_law_k"]) fun _ _ _ _ _ _ => all2 (fun _ _ => rfl)
  have F23 := fun_mk (st := s_l_house) l23 c23 k23
  have B23 := F23.binds (ps := ["_law_script", "_law_most"]) fun _ _ _ _ _ _ => all2 (fun _ _ => rfl)
  have F24 := fun_mk (st := s_l_word) l24 c24 k24
  have B24 := F24.binds (ps := ["_law_script", "_law_house_here", "_law_first", "_law_many"]) fun _ _ _ _ _ _ => all4 (fun _ _ _ _ => rfl)
  have F25 := fun_mk (st := s_l_plus) l25 c25 k25
  have B25 := F25.binds (ps := ["_law_x", "_law_y"]) fun _ _ _ _ _ _ => all2 (fun _ _ => rfl)
  have F26 := fun_mk (st := s_l_times) l26 c26 k26
  have B26 := F26.binds (ps := ["_law_x", "_law_y"]) fun _ _ _ _ _ _ => all2 (fun _ _ => rfl)
  have F27 := fun_mk (st := s_l_sign) l27 c27 k27
  have B27 := F27.binds (ps := ["_law_x"]) fun _ _ _ _ _ _ => all1 (fun _ => rfl)
  have F28 := fun_mk (st := s_l_pull) l28 c28 k28
  have B28 := F28.binds (ps := ["_law_house_here", "_law_i", "_law_j"]) fun _ _ _ _ _ _ => all3 (fun _ _ _ => rfl)
  have F29 := fun_mk (st := s_l_led) l29 c29 k29
  have B29 := F29.binds (ps := ["_law_house_here", "_law_word_here", "_law_row"]) fun _ _ _ _ _ _ => all3 (fun _ _ _ => rfl)
  have F30 := fun_mk (st := s_l_turned_about) l30 c30 k30
  have B30 := F30.binds (ps := ["_law_row"]) fun _ _ _ _ _ _ => all1 (fun _ => rfl)
  have F31 := fun_mk (st := s_l_due) l31 c31 k31
  have B31 := F31.binds (ps := ["_law_house_here", "_law_one", "_law_other"]) fun _ _ _ _ _ _ => all3 (fun _ _ _ => rfl)
  have F32 := fun_mk (st := s_law) l32 c32 k32
  have B32 := F32.binds (ps := ["_law_script"]) fun _ _ _ _ _ _ => all1 (fun _ => rfl)
  refine ⟨PySem.W.fnOf "law" "law" (defArgs s_law) (defBody s_law) (defScope s_law) .none kV32 doc32 pm32 an32 cdv32 ct32, fun s v => .of_eq rfl, fun base _ _ => ?_⟩
  have H0 : HasFn l.prog w K mg base 1 "plus" 2 g_plus := ⟨⟨_, _, _, ok_plus F0 T , PySem.W.mg_of X G a0, k0, B0⟩⟩
  have H1 : HasFn l.prog w K mg base 1 "times" 2 g_times := ⟨⟨_, _, _, ok_times F1 T , PySem.W.mg_of X G a1, k1, B1⟩⟩
  have H2 : HasFn l.prog w K mg base 1 "minus" 1 g_minus := ⟨⟨_, _, _, ok_minus F2 T , PySem.W.mg_of X G a2, k2, B2⟩⟩
  have H3 : HasFn l.prog w K mg base 1 "whole_sign" 1 g_whole_sign := ⟨⟨_, _, _, ok_whole_sign F3 T , PySem.W.mg_of X G a3, k3, B3⟩⟩
  have H4 : HasFn l.prog w K mg base 2 "sign" 1 g_sign := ⟨⟨_, _, _, ok_sign F4 T H3, PySem.W.mg_of X G a4, k4, B4⟩⟩
  have H5 : HasFn l.prog w K mg base 1 "turn_of" 3 g_turn_of := ⟨⟨_, _, _, ok_turn_of F5 T , PySem.W.mg_of X G a5, k5, B5⟩⟩
  have H6 : HasFn l.prog w K mg base 2 "pull" 3 g_pull := ⟨⟨_, _, _, ok_pull F6 T H2 H5, PySem.W.mg_of X G a6, k6, B6⟩⟩
  have H7 : HasFn l.prog w K mg base 1 "simple" 2 g_simple := ⟨⟨_, _, _, ok_simple F7 T , PySem.W.mg_of X G a7, k7, B7⟩⟩
  have H8 : HasFn l.prog w K mg base 3 "mirrored" 3 g_mirrored := ⟨⟨_, _, _, ok_mirrored F8 T H2 H0 H6 H1, PySem.W.mg_of X G a8, k8, B8⟩⟩
  have H9 : HasFn l.prog w K mg base 4 "led" 3 g_led := ⟨⟨_, _, _, ok_led F9 T H8, PySem.W.mg_of X G a9, k9, B9⟩⟩
  have H10 : HasFn l.prog w K mg base 5 "images" 2 g_images := ⟨⟨_, _, _, ok_images F10 T H9 H7, PySem.W.mg_of X G a10, k10, B10⟩⟩
  have H11 : HasFn l.prog w K mg base 2 "less_by" 3 g_less_by := ⟨⟨_, _, _, ok_less_by F11 T H2 H0 H1, PySem.W.mg_of X G a11, k11, B11⟩⟩
  have H12 : HasFn l.prog w K mg base 3 "images_with_behind" 3 g_images_with_behind := ⟨⟨_, _, _, ok_images_with_behind F12 T H11 H6, PySem.W.mg_of X G a12, k12, B12⟩⟩
  have H13 : HasFn l.prog w K mg base 3 "is_above" 1 g_is_above := ⟨⟨_, _, _, ok_is_above F13 T H4, PySem.W.mg_of X G a13, k13, B13⟩⟩
  have H14 : HasFn l.prog w K mg base 3 "is_below" 1 g_is_below := ⟨⟨_, _, _, ok_is_below F14 T H4, PySem.W.mg_of X G a14, k14, B14⟩⟩
  have H15 : HasFn l.prog w K mg base 6 "which_lengthen" 2 g_which_lengthen := ⟨⟨_, _, _, ok_which_lengthen F15 T H10 H12 H13, PySem.W.mg_of X G a15, k15, B15⟩⟩
  have H16 : HasFn l.prog w K mg base 7 "is_short" 2 g_is_short := ⟨⟨_, _, _, ok_is_short F16 T H15, PySem.W.mg_of X G a16, k16, B16⟩⟩
  have H17 : HasFn l.prog w K mg base 7 "length" 2 g_length := ⟨⟨_, _, _, ok_length F17 T H15, PySem.W.mg_of X G a17, k17, B17⟩⟩
  have H18 : HasFn l.prog w K mg base 4 "first_below" 1 g_first_below := ⟨⟨_, _, _, ok_first_below F18 T H14, PySem.W.mg_of X G a18, k18, B18⟩⟩
  have H19 : HasFn l.prog w K mg base 6 "least" 2 g_least := ⟨⟨_, _, _, ok_least F19 T H18 H10 H12, PySem.W.mg_of X G a19, k19, B19⟩⟩
  have H20 : HasFn l.prog w K mg base 8 "turned" 2 g_turned := ⟨⟨_, _, _, ok_turned F20 T H10 H12 H16 H19, PySem.W.mg_of X G a20, k20, B20⟩⟩
  have H21 : HasFn l.prog w K mg base 1 "_law_cell_at" 2 g_l_cell_at := ⟨⟨_, _, _, ok_l_cell_at F21 T , PySem.W.mg_of X G a21, k21, B21⟩⟩
  have H22 : HasFn l.prog w K mg base 1 "_law_mix" 2 g_l_mix := ⟨⟨_, _, _, ok_l_mix F22 T , PySem.W.mg_of X G a22, k22, B22⟩⟩
  have H23 : HasFn l.prog w K mg base 2 "_law_house" 2 g_l_house := ⟨⟨_, _, _, ok_l_house F23 T H21 H22, PySem.W.mg_of X G a23, k23, B23⟩⟩
  have H24 : HasFn l.prog w K mg base 2 "_law_word" 4 g_l_word := ⟨⟨_, _, _, ok_l_word F24 T H21 H22, PySem.W.mg_of X G a24, k24, B24⟩⟩
  have H25 : HasFn l.prog w K mg base 1 "_law_plus" 2 g_l_plus := ⟨⟨_, _, _, ok_l_plus F25 T , PySem.W.mg_of X G a25, k25, B25⟩⟩
  have H26 : HasFn l.prog w K mg base 1 "_law_times" 2 g_l_times := ⟨⟨_, _, _, ok_l_times F26 T , PySem.W.mg_of X G a26, k26, B26⟩⟩
  have H27 : HasFn l.prog w K mg base 1 "_law_sign" 1 g_l_sign := ⟨⟨_, _, _, ok_l_sign F27 T , PySem.W.mg_of X G a27, k27, B27⟩⟩
  have H28 : HasFn l.prog w K mg base 1 "_law_pull" 3 g_l_pull := ⟨⟨_, _, _, ok_l_pull F28 T , PySem.W.mg_of X G a28, k28, B28⟩⟩
  have H29 : HasFn l.prog w K mg base 2 "_law_led" 3 g_l_led := ⟨⟨_, _, _, ok_l_led F29 T H25 H28 H26, PySem.W.mg_of X G a29, k29, B29⟩⟩
  have H30 : HasFn l.prog w K mg base 1 "_law_turned_about" 1 g_l_turned_about := ⟨⟨_, _, _, ok_l_turned_about F30 T , PySem.W.mg_of X G a30, k30, B30⟩⟩
  have H31 : HasFn l.prog w K mg base 9 "_law_due" 3 g_l_due := ⟨⟨_, _, _, ok_l_due F31 T H29 H27 H30 H20, PySem.W.mg_of X G a31, k31, B31⟩⟩
  exact ok_law F32 T H31 H23 H29 H30 H24 H17 H20
open GH
theorem mulS {a b : Int} (h1 : -3 ≤ a) (h2 : a ≤ 3) : mulD (.int a) (.int b) = some (.int (a * b)) := mulD_ok (mulOk_l (by omega) (by omega))
theorem szl {n : Nat} (h : n ≤ 100) : n ≤ sizeLine := Nat.le_of_lt (small1000 (by omega))
theorem ix0 {x : D} {l : List D} : ixD (.tup (x :: l)) (.int 0) = some x := by simp [ixD, atI, ixN]
theorem ix1 {x y : D} {l : List D} : ixD (.tup (x :: y :: l)) (.int 1) = some y := by
  have h := atI_nat (xs := x :: y :: l) (j := 1) (v := y) rfl
  exact h
theorem plus_val (x y : Gd) : g_plus [gD x, gD y] = some (gD (gadd x y)) := by simp [g_plus, F_plus, gD, ix0, ix1, gadd, sizeLine_eq]
theorem minus_val (x : Gd) : g_minus [gD x] = some (gD (gneg x)) := by simp [g_minus, F_minus, gD, ix0, ix1, gneg, sizeLine_eq]
theorem times_val {x : Gd} (y : Gd) (h : -3 ≤ x.1 ∧ x.1 ≤ 2 ∧ -1 ≤ x.2 ∧ x.2 ≤ 0) : g_times [gD x, gD y] = some (gD (gmul x y)) := by
  have m1 := fun b => @mulS x.1 b (by omega) (by omega)
  have m2 := fun b => @mulS x.2 b (by omega) (by omega)
  simp [g_times, F_times, gD, ix0, ix1, gmul, m1, m2, sizeLine_eq]
theorem turn_loop (h : D) (i j a b : Int) : ∀ (ts : List T3) (s1 s2 s3 : Slot), ∃ o, loopF (tupG 3 (consG (nameG 5) (consG (nameG 6) (consG (nameG 7) nilG)))) (ifS (andT (blF (bind2 eqF (vF 5) (vF 3))) (blF (bind2 eqF (vF 6) (vF 4)))) (retF (vF 7)) nxF) (ts.map tD)
    [.fr h, .fr (.int i), .fr (.int j), .fr (.int (mlo i j)), .fr (.int (mhi i j)), s1, s2, s3] = some o ∧ outD ((some o).bind fun o => match o with | .nx ρ' => retF (cF (.int 2)) ρ' | o => some o) = some (.int (turnM ts i j))
  | [], s1, s2, s3 => ⟨_, rfl, rfl⟩
  | t :: ts, s1, s2, s3 => by
    obtain ⟨o, h1, h2⟩ := turn_loop h i j a b ts (.fr (.int t.1)) (.fr (.int t.2.1)) (.fr (.int t.2.2))
    rw [List.map_cons]
    unfold loopF turnM
    by_cases c1 : t.1 = mlo i j
    · by_cases c2 : t.2.1 = mhi i j
      · exact ⟨.rt (.int t.2.2), by simp [tD, c1, c2], by simp [c1, c2]⟩
      · refine ⟨o, ?_, by simpa [c2] using h2⟩
        simp [tD, c1, c2] at h1 ⊢
        exact h1
    · refine ⟨o, ?_, by simpa [c1] using h2⟩
      simp [tD, c1] at h1 ⊢
      exact h1
theorem turn_val (n : Nat) (ts : List T3) (i j : Int) : g_turn_of [houseD n ts, .int i, .int j] = some (.int (turnM ts i j)) := by
  obtain ⟨o, h1, h2⟩ := turn_loop (houseD n ts) i j 0 0 ts .no .no .no
  have e : ixD (houseD n ts) (.int 1) = some (.lst (ts.map tD)) := by unfold houseD; exact ix1
  simp [g_turn_of, F_turn_of, e, List.replicate] at h2 ⊢
  unfold mlo mhi at h1
  simp at h1
  rw [h1]
  exact h2
theorem in46 (m : Int) : inD false (.int m) (.tup [.int 4, .int 6]) = some (.bl (decide (m = 4 ∨ m = 6))) := by
  simp [inD, depL, dep, eqD]
  by_cases h : m = 4
  · subst h; rfl
  · by_cases h' : m = 6
    · subst h'; rfl
    · have a : (4 == m) = false := by simpa using fun z : (4 : Int) = m => h z.symm
      have b : (6 == m) = false := by simpa using fun z : (6 : Int) = m => h' z.symm
      simp [a, b, h, h']
theorem pull_val (n : Nat) {ts : List T3} (hg : GoodT ts) (i j : Int) : g_pull [houseD n ts, .int i, .int j] = some (gD (pullM ts i j)) := by
  have t := turn_val n ts i j
  have gt := turnM_good hg i j
  unfold pullM
  by_cases h : i = j
  · simp [g_pull, F_pull, h, sizeLine_eq, gD]
  · generalize turnM ts i j = m at t gt
    have mv := minus_val
    have cs : m = 0 ∨ m = 2 ∨ m = 3 ∨ m = 4 ∨ m = 5 ∨ m = 6 := by omega
    by_cases h2 : j < i
    · have h3 : ¬ i < j := by omega
      rcases cs with e | e | e | e | e | e <;> subst e
      · have := mv (2, 0); simp [gD, gneg] at this; simp [g_pull, F_pull, h, h2, h3, t, in46, sizeLine_eq, lookD, List.lookup, pullT, this, gD]
      · have := mv (0, 0); simp [gD, gneg] at this; simp [g_pull, F_pull, h, h2, h3, t, in46, sizeLine_eq, lookD, List.lookup, pullT, this, gD]
      · have := mv (1, 0); simp [gD, gneg] at this; simp [g_pull, F_pull, h, h2, h3, t, in46, sizeLine_eq, lookD, List.lookup, pullT, this, gD]
      · simp [g_pull, F_pull, h, h2, h3, t, in46, sizeLine_eq, pullT, gD]
      · have := mv (0, 1); simp [gD, gneg] at this; simp [g_pull, F_pull, h, h2, h3, t, in46, sizeLine_eq, lookD, List.lookup, pullT, this, gD]
      · simp [g_pull, F_pull, h, h2, h3, t, in46, sizeLine_eq, pullT, gD]
    · have h3 : i < j := by omega
      rcases cs with e | e | e | e | e | e <;> subst e
      · have := mv (2, 0); simp [gD, gneg] at this; simp [g_pull, F_pull, h, h2, h3, t, in46, sizeLine_eq, lookD, List.lookup, pullT, this, gD]
      · have := mv (0, 0); simp [gD, gneg] at this; simp [g_pull, F_pull, h, h2, h3, t, in46, sizeLine_eq, lookD, List.lookup, pullT, this, gD]
      · have := mv (1, 0); simp [gD, gneg] at this; simp [g_pull, F_pull, h, h2, h3, t, in46, sizeLine_eq, lookD, List.lookup, pullT, this, gD]
      · have := mv (2, 0); simp [gD, gneg] at this; simp [g_pull, F_pull, h, h2, h3, t, in46, sizeLine_eq, lookD, List.lookup, pullT, this, gD]
      · have := mv (0, 1); simp [gD, gneg] at this; simp [g_pull, F_pull, h, h2, h3, t, in46, sizeLine_eq, lookD, List.lookup, pullT, this, gD]
      · have := mv (3, 0); simp [gD, gneg] at this; simp [g_pull, F_pull, h, h2, h3, t, in46, sizeLine_eq, lookD, List.lookup, pullT, this, gD]
theorem cut_take {α : Type} (xs : List α) (k : Nat) : cutL xs none (some (k : Int)) = xs.take k := by
  unfold cutL
  rw [HT.sIx_none, HT.sIx_nat, List.drop_zero, Nat.sub_zero]
  by_cases h : k ≤ xs.length
  · rw [Nat.min_eq_left h]
  · rw [Nat.min_eq_right (by omega), List.take_of_length_le (Nat.le_refl _), List.take_of_length_le (by omega)]
theorem cut_drop {α : Type} (xs : List α) (k : Nat) : cutL xs (some (k : Int)) none = xs.drop k := by
  unfold cutL
  rw [HT.sIx_none, HT.sIx_nat]
  by_cases h : k ≤ xs.length
  · rw [Nat.min_eq_left h, List.take_of_length_le (by simp)]
  · rw [Nat.min_eq_right (by omega), List.drop_of_length_le (Nat.le_refl _), List.drop_of_length_le (by omega)]; simp
def enumK : Nat → List D → List D
  | _, [] => []
  | k, d :: ds => .tup [.int (k : Int), d] :: enumK (k + 1) ds
theorem enumD_K (ds : List D) : enumD ds = enumK 0 ds := by
  have gen : ∀ (ds : List D) (k : Nat), (ds.zipIdx k).map (fun p => D.tup [.int (p.2 : Int), p.1]) = enumK k ds := by
    intro ds
    induction ds with
    | nil => intro k; rfl
    | cons d ds ih => intro k; rw [List.zipIdx_cons, List.map_cons, ih]; rfl
  exact gen ds 0
theorem at_nat {ds : List D} {i : Nat} {d : D} (h : ds[i]? = some d) : ixD (.tup ds) (.int (i : Int)) = some d := atI_nat h
theorem at_natL {ds : List D} {i : Nat} {d : D} (h : ds[i]? = some d) : ixD (.lst ds) (.int (i : Int)) = some d := atI_nat h
theorem row_at {r : List Gd} {i : Nat} (h : i < r.length) : ixD (rowD r) (.int (i : Int)) = some (gD (r.getD i (0, 0))) := by
  unfold rowD
  apply at_nat
  simp [List.getD_eq_getElem?_getD, h]
theorem set_slices {r : List Gd} {i : Nat} (x : Gd) (h : i < r.length) : (r.map gD).take i ++ gD x :: (r.map gD).drop (i + 1) = (r.set i x).map gD := by
  rw [List.map_set]
  apply List.ext_getElem?
  intro k
  rcases Nat.lt_trichotomy k i with hk | hk | hk
  · rw [List.getElem?_append_left (by simp; omega), List.getElem?_set, if_neg (by omega), List.getElem?_take_of_lt hk]
  · subst hk
    rw [List.getElem?_append_right (by simp; omega)]
    simp [h, Nat.min_eq_left (Nat.le_of_lt h)]
  · rw [List.getElem?_append_right (by simp; omega), List.getElem?_set, if_neg (by omega)]
    have : k - (List.take i (List.map gD r)).length = (k - i - 1) + 1 := by simp; omega
    rw [this, List.getElem?_cons_succ, List.getElem?_drop]
    congr 1
    omega
noncomputable def mirB : FS := asgF 3 (appF g_plus (consA (vF 3) (consA (appF g_times (consA (appF g_pull (consA (vF 0) (consA (vF 1) (consA (vF 4) nilA)))) (consA (vF 5) nilA))) nilA)))
theorem mir_loop (n : Nat) {ts : List T3} (hg : GoodT ts) (i : Nat) (R : D) : ∀ (r : List Gd) (k : Nat) (acc : Gd) (s4 s5 : Slot), ∃ s4' s5', loopF (tupG 2 (consG (nameG 4) (consG (nameG 5) nilG))) mirB (enumK k (r.map gD)) [.fr (houseD n ts), .fr (.int i), .fr R, .fr (gD acc), s4, s5] =
    some (.nx [.fr (houseD n ts), .fr (.int i), .fr R, .fr (gD (sumL (pulls ts i) k r acc)), s4', s5'])
  | [], k, acc, s4, s5 => ⟨s4, s5, rfl⟩
  | x :: r, k, acc, s4, s5 => by
    obtain ⟨s4', s5', e⟩ := mir_loop n hg i R r (k + 1) (gadd acc (gmul (pulls ts i k) x)) (.fr (.int k)) (.fr (gD x))
    refine ⟨s4', s5', ?_⟩
    have p := pull_val n hg (i : Int) (k : Int)
    have m := times_val x (pullM_small ts i k)
    have a := plus_val acc (gmul (pullM ts i k) x)
    rw [List.map_cons]
    unfold enumK loopF
    simp [mirB, p, m, a]
    unfold mirB at e
    exact e
theorem mirrored_val (n : Nat) {ts : List T3} (hg : GoodT ts) {i : Nat} {r : List Gd} (hi : i < r.length) (hr : r.length ≤ 100) : g_mirrored [houseD n ts, .int i, rowD r] = some (rowD (mirM (pulls ts i) i r)) := by
  obtain ⟨s4', s5', e⟩ := mir_loop n hg i (rowD r) r 0 (0, 0) .no .no
  have mi := minus_val (sumL (pulls ts i) 0 r (0, 0))
  have pl := plus_val (r.getD i (0, 0)) (gneg (sumL (pulls ts i) 0 r (0, 0)))
  have ra := row_at hi
  have z1 : i ≤ sizeLine := szl (by omega)
  have e0 : gD (0, 0) = .tup [.int 0, .int 0] := rfl
  rw [e0, ← enumD_K] at e
  have sl := set_slices (gadd (r.getD i (0, 0)) (gneg (sumL (pulls ts i) 0 r (0, 0)))) hi
  have s1 : sliceF (vF 2) noP (exP (vF 1)) [.fr (houseD n ts), .fr (.int i), .fr (rowD r), .fr (gD (sumL (pulls ts i) 0 r (0, 0))), s4', s5'] = some (.tup ((r.map gD).take i)) := by
    simp [rowD, cut_take]
  have s2 : sliceF (vF 2) (exP (bind2 addX (vF 1) (cF (.int 1)))) noP [.fr (houseD n ts), .fr (.int i), .fr (rowD r), .fr (gD (sumL (pulls ts i) 0 r (0, 0))), s4', s5'] = some (.tup ((r.map gD).drop (i + 1))) := by
    have := cut_drop (r.map gD) (i + 1)
    simp [rowD] at this ⊢
    exact this
  have it : itemsE (vF 2) [.fr (houseD n ts), .fr (.int i), .fr (rowD r), .fr (.tup [.int 0, .int 0]), .no, .no] = some (enumD (r.map gD)) := by simp [rowD]
  have a1 : ∀ x, addX (.tup ((r.map gD).take i)) (.tup [x]) = some (.tup ((r.map gD).take i ++ [x])) := fun x => by
    show (if _ then _ else _) = _
    rw [if_pos (szl (by simp; omega))]
  have a2 : ∀ x, addX (.tup ((r.map gD).take i ++ [x])) (.tup ((r.map gD).drop (i + 1))) = some (.tup ((r.map gD).take i ++ [x] ++ (r.map gD).drop (i + 1))) := fun x => by
    show (if _ then _ else _) = _
    rw [if_pos (szl (by simp; omega))]
  unfold g_mirrored F_mirrored
  simp only [s_denF, s_startR, List.map_cons, List.map_nil, List.length_cons, List.length_nil, List.replicate, List.cons_append, List.nil_append, s_seqF, s_asgF, s_cF, Option.bind_some, List.set_cons_succ, List.set_cons_zero, s_forF, it]
  unfold mirB at e
  rw [e]
  simp only [Option.bind_some, s_retF, s_bind2, s1, s2, s_tupF, s_consA, s_nilA, s_appF, s_vF, List.getElem?_cons_zero, List.getElem?_cons_succ, ra, mi, pl, List.length_cons, List.length_nil]
  rw [if_pos (szl (by decide))]
  simp only [Option.bind_some, a1, a2, s_outR]
  unfold rowD mirM
  rw [← sl, List.append_assoc]
  rfl
theorem simple_val (n : Nat) (ts : List T3) (i : Nat) (hn : n ≤ 100) : g_simple [houseD n ts, .int i] = some (rowD (simM n i)) := by
  have e : ixD (houseD n ts) (.int 0) = some (.int n) := by unfold houseD; exact ix0
  have ra : rangeA [.int (n : Int)] = some (rangeD 0 n) := rangeA_ok (by omega) (by omega)
  have c := comp1 (f := ifF (blF (bind2 eqF (vF 0) (vF 1))) (cF (.tup [(.int 1), (.int 0)])) (cF (.tup [(.int 0), (.int 0)]))) (C := [.fr (.int (i : Int))]) (φ := fun j => gD (if j = i then (1, 0) else (0, 0))) (rangeD 0 n) 0 .no (fun k d hk => by
    obtain ⟨rfl, _⟩ := rangeD_get hk
    by_cases h : k = i
    · simp [h, gD]
    · have : ¬ (k : Int) = (i : Int) := by omega
      simp [h, this, gD])
  have hz : n ≤ sizeLine := szl (by omega)
  have hl : (rangeD 0 (n : Int)).length = n := by rw [rangeD_length]; omega
  simp only [hl, Nat.zero_add] at c
  unfold g_simple F_simple
  simp only [s_denF, s_startR, List.map_cons, List.map_nil, List.length_cons, List.length_nil, List.replicate, List.cons_append, List.nil_append, s_retF, s_appF, s_consA, s_mapLst, s_compF, s_rng1, s_bind2, s_vF, s_cF, List.getElem?_cons_zero, List.getElem?_cons_succ, Option.bind_some, e, s_nilA, ra, hl, if_pos hz, s_compS, s_capS, c, Option.map_some, s_tuL, s_outR]
  simp only [rowD, simM, List.map_map]
  rfl
def cellM (ns : List Int) (k : Nat) : Int := ns.getD k 0
theorem cell_val (ns : List Int) (k : Nat) (hl : ns.length ≤ 63) : g_l_cell_at [.lst (ns.map D.int), .int k] = some (.int (cellM ns k)) := by
  unfold cellM
  by_cases h : k < ns.length
  · have e : ixD (.lst (ns.map D.int)) (.int (k : Int)) = some (.int (ns.getD k 0)) := at_natL (by simp [List.getD_eq_getElem?_getD, h])
    have h' : (k : Int) < (ns.length : Int) := by omega
    simp [g_l_cell_at, F_l_cell_at, h', e]
  · have h' : ¬ ((k : Int) < (ns.length : Int)) := by omega
    simp [g_l_cell_at, F_l_cell_at, h', List.getD_eq_getElem?_getD, List.getElem?_eq_none (Nat.not_lt.mp h)]
theorem eq2 (a b c d : Int) : eqF (.tup [.int a, .int b]) (.tup [.int c, .int d]) = some (.bl (decide (a = c ∧ b = d))) := by
  simp [eqF, dep, depL, eqD, eqDL]
  by_cases h : a = c <;> by_cases h' : b = d <;> simp [h, h']
def wordD (w : List Nat) : D := .tup (w.map fun (i : Nat) => .int (i : Int))
theorem rangeD_cons {k n : Nat} (h : k < n) : rangeD (k : Int) (n : Int) = .int (k : Int) :: rangeD ((k + 1 : Nat) : Int) (n : Int) := by
  unfold rangeD
  have e1 : ((n : Int) - (k : Int)).toNat = ((n : Int) - ((k + 1 : Nat) : Int)).toNat + 1 := by omega
  rw [e1, List.range_succ_eq_map, List.map_cons, List.map_map]
  refine congr (congrArg List.cons (by simp)) ?_
  apply List.map_congr_left
  intro a _
  simp only [Function.comp]
  congr 1
  omega
theorem rangeD_nil {k n : Nat} (h : n ≤ k) : rangeD (k : Int) (n : Int) = [] := by
  unfold rangeD
  have e1 : ((n : Int) - (k : Int)).toNat = 0 := by omega
  rw [e1]
  rfl
theorem lplus_val (x y : Gd) : g_l_plus [gD x, gD y] = some (gD (gadd x y)) := by simp [g_l_plus, F_l_plus, gD, ix0, ix1, gadd, sizeLine_eq]
theorem ltimes_val {x : Gd} (y : Gd) (h : -3 ≤ x.1 ∧ x.1 ≤ 2 ∧ -1 ≤ x.2 ∧ x.2 ≤ 0) : g_l_times [gD x, gD y] = some (gD (gmul x y)) := by
  have m1 := fun b => @mulS x.1 b (by omega) (by omega)
  have m2 := fun b => @mulS x.2 b (by omega) (by omega)
  simp [g_l_times, F_l_times, gD, ix0, ix1, gmul, m1, m2, sizeLine_eq]
theorem lpull_tail {ts : List T3} (hg : GoodT ts) (h : D) (i j : Int) (hij : i ≠ j) : ∀ (s1 s2 s3 : Slot), ∃ o, loopF (tupG 3 (consG (nameG 3) (consG (nameG 4) (consG (nameG 5) nilG))))
    (ifS (blF (bind2 eqF (tupF (consA (vF 3) (consA (vF 4) nilA))) (tupF (consA (appF minD (consA (vF 1) (consA (vF 2) nilA))) (consA (appF maxD (consA (vF 1) (consA (vF 2) nilA))) nilA)))))
      (seqF (ifS (blF (bind2 eqF (vF 5) (cF (.int 5)))) (retF (tupF (consA (cF (.int 0)) (consA (bind1 negD (cF (.int 1))) nilA)))) nxF) (seqF (ifS (blF (bind2 eqF (vF 5) (cF (.int 0)))) (retF (tupF (consA (bind1 negD (cF (.int 2))) (consA (cF (.int 0)) nilA)))) nxF)
        (retF (tupF (consA (ifF (blF (bind2 ltD (vF 1) (vF 2))) (bind2 ixD (mapLst (lstF (consA (bind1 negD (cF (.int 1))) (consA (bind1 negD (cF (.int 2))) (consA (cF (.int 0)) (consA (bind1 negD (cF (.int 3))) nilA)))))) (bind2 subD (vF 5) (cF (.int 3)))) (bind1 negD (cF (.int 1)))) (consA (cF (.int 0)) nilA)))))) nxF)
    (ts.map tD) [.fr h, .fr (.int i), .fr (.int j), s1, s2, s3] = some o ∧ outD ((some o).bind fun o => match o with | .nx ρ' => retF (tupF (consA (cF (.int 0)) (consA (cF (.int 0)) nilA))) ρ' | o => some o) = some (gD (pullT (turnM ts i j) (decide (i < j)))) := by
  induction ts with
  | nil => intro s1 s2 s3; exact ⟨_, rfl, by simp [turnM, pullT, gD, sizeLine_eq]⟩
  | cons t ts ih =>
    intro s1 s2 s3
    obtain ⟨o, h1, h2⟩ := ih (fun t ht => hg t (List.mem_cons_of_mem _ ht)) (.fr (.int t.1)) (.fr (.int t.2.1)) (.fr (.int t.2.2))
    have ht := hg t List.mem_cons_self
    rw [List.map_cons]
    unfold loopF turnM
    by_cases c : t.1 = mlo i j ∧ t.2.1 = mhi i j
    · obtain ⟨t1, t2, m⟩ := t
      obtain ⟨c1, c2⟩ := c
      simp only at c1 c2 ht
      have cs : m = 0 ∨ m = 3 ∨ m = 4 ∨ m = 5 ∨ m = 6 := by omega
      refine ⟨.rt (gD (pullT m (decide (i < j)))), ?_, by simp [c1, c2]⟩
      have e := eq2 t1 t2 (if j < i then j else i) (if j > i then j else i)
      have e1 : (if j < i then j else i) = t1 := by rw [c1]; rfl
      have e2 : (if j > i then j else i) = t2 := by rw [c2]; rfl
      have e3 : (if i < j then j else i) = t2 := e2
      have e0 : eqF (.tup [.int t1, .int t2]) (.tup [.int t1, .int t2]) = some (.bl true) := by rw [eq2]; simp
      by_cases hl : i < j
      · rcases cs with c | c | c | c | c <;> subst c <;> simp only [tD, s_tupG, s_consG, s_nameG, s_nilG, List.length_cons, List.length_nil, Nat.reduceAdd, if_true, List.set_cons_succ, List.set_cons_zero, Option.bind_some, s_ifS, s_blF, s_bind2, s_tupF, s_consA, s_nilA, s_vF, List.getElem?_cons_succ, List.getElem?_cons_zero, s_appF, s_min, s_max, e1, e2, if_pos (szl (n := 2) (by decide)), e0] <;> simp [sizeLine_eq, hl, pullT, gD, ixD, atI, ixN]
      · rcases cs with c | c | c | c | c <;> subst c <;> simp only [tD, s_tupG, s_consG, s_nameG, s_nilG, List.length_cons, List.length_nil, Nat.reduceAdd, if_true, List.set_cons_succ, List.set_cons_zero, Option.bind_some, s_ifS, s_blF, s_bind2, s_tupF, s_consA, s_nilA, s_vF, List.getElem?_cons_succ, List.getElem?_cons_zero, s_appF, s_min, s_max, e1, e2, if_pos (szl (n := 2) (by decide)), e0] <;> simp [sizeLine_eq, hl, pullT, gD, ixD, atI, ixN]
    · have e : eqF (.tup [.int t.1, .int t.2.1]) (.tup [.int (if j < i then j else i), .int (if i < j then j else i)]) = some (.bl false) := by
        rw [eq2]
        have : ¬ (t.1 = (if j < i then j else i) ∧ t.2.1 = (if i < j then j else i)) := c
        simp only [this, decide_false]
      refine ⟨o, ?_, by simpa [c] using h2⟩
      simp [tD, sizeLine_eq, e] at h1 ⊢
      exact h1
theorem lpull_val (n : Nat) {ts : List T3} (hg : GoodT ts) (i j : Int) : g_l_pull [houseD n ts, .int i, .int j] = some (gD (pullM ts i j)) := by
  unfold pullM
  by_cases h : i = j
  · simp [g_l_pull, F_l_pull, h, sizeLine_eq, gD]
  · obtain ⟨o, h1, h2⟩ := lpull_tail hg (houseD n ts) i j h .no .no .no
    have e : ixD (houseD n ts) (.int 1) = some (.lst (ts.map tD)) := by unfold houseD; exact ix1
    unfold g_l_pull F_l_pull
    simp only [s_denF, s_startR, List.map_cons, List.map_nil, List.length_cons, List.length_nil, Nat.reduceAdd, Nat.reduceSub, List.replicate, List.cons_append, List.nil_append, s_seqF, s_ifS, s_blF, s_bind2, s_vF, s_cF, List.getElem?_cons_zero, List.getElem?_cons_succ, Option.bind_some, s_eqi, h, decide_false, Bool.false_eq_true, if_false, s_nxF, s_forF, s_seqItems, e, s_seqL]
    rw [h1]
    exact h2
noncomputable def ledB : FS := asgF 4 (appF g_l_plus (consA (vF 4) (consA (appF g_l_times (consA (appF g_l_pull (consA (vF 0) (consA (vF 3) (consA (vF 5) nilA)))) (consA (bind2 ixD (vF 2) (vF 5)) nilA))) nilA)))
theorem led_inner (n : Nat) {ts : List T3} (hg : GoodT ts) (i : Nat) (W : D) {r : List Gd} (hr : r.length = n) : ∀ (m k : Nat) (acc : Gd) (s5 : Slot), k + m = n → ∃ s5', loopF (nameG 5) ledB (rangeD (k : Int) (n : Int)) [.fr (houseD n ts), .fr W, .fr (rowD r), .fr (.int i), .fr (gD acc), s5] =
    some (.nx [.fr (houseD n ts), .fr W, .fr (rowD r), .fr (.int i), .fr (gD (sumL (pulls ts i) k (r.drop k) acc)), s5'])
  | 0, k, acc, s5, h => by
    rw [rangeD_nil (by omega), List.drop_of_length_le (by omega)]
    exact ⟨s5, rfl⟩
  | m + 1, k, acc, s5, h => by
    have hk : k < r.length := by omega
    have p := lpull_val n hg (i : Int) (k : Int)
    have mm := ltimes_val (r.getD k (0, 0)) (pullM_small ts i k)
    have a := lplus_val acc (gmul (pullM ts i k) (r.getD k (0, 0)))
    have ra := row_at hk
    obtain ⟨s5', e⟩ := led_inner n hg i W hr m (k + 1) (gadd acc (gmul (pulls ts i k) (r.getD k (0, 0)))) (.fr (.int k)) (by omega)
    refine ⟨s5', ?_⟩
    rw [rangeD_cons (by omega)]
    have hd : r.drop k = r.getD k (0, 0) :: r.drop (k + 1) := by
      rw [List.drop_eq_getElem_cons hk]
      simp [List.getD_eq_getElem?_getD, hk]
    rw [hd]
    unfold loopF ledB
    simp only [s_nameG, Option.bind_some, List.set_cons_succ, List.set_cons_zero, s_asgF, s_appF, s_consA, s_nilA, s_vF, List.getElem?_cons_succ, List.getElem?_cons_zero, s_bind2, p, mm, a, ra]
    unfold ledB at e
    exact e
noncomputable def ledS : FS := (seqF (asgF 4 (tupF (consA (cF (.int 0)) (consA (cF (.int 0)) nilA)))) (seqF (forF (rng1 (consA (bind2 ixD (vF 0) (cF (.int 0))) nilA)) (nameG 5) ledB) (asgF 2 (bind2 addX (bind2 addX (sliceF (vF 2) noP (exP (vF 3))) (tupF (consA (appF g_l_plus (consA (bind2 ixD (vF 2) (vF 3)) (consA (tupF (consA (bind1 negD (bind2 ixD (vF 4) (cF (.int 0)))) (consA (bind1 negD (bind2 ixD (vF 4) (cF (.int 1)))) nilA))) nilA))) nilA))) (sliceF (vF 2) (exP (bind2 addX (vF 3) (cF (.int 1)))) noP)))))
theorem led_step (n : Nat) {ts : List T3} (hg : GoodT ts) {i : Nat} (W : D) {r : List Gd} (hr : r.length = n) (hi : i < n) (hn : n ≤ 100) (s4 s5 : Slot) : ∃ s4' s5', ledS [.fr (houseD n ts), .fr W, .fr (rowD r), .fr (.int i), s4, s5] =
    some (.nx [.fr (houseD n ts), .fr W, .fr (rowD (mirM (pulls ts i) i r)), .fr (.int i), s4', s5']) := by
  obtain ⟨s5', e⟩ := led_inner n hg i W hr n 0 (0, 0) s5 (by omega)
  rw [List.drop_zero] at e
  have hi' : i < r.length := by omega
  generalize hS : sumL (pulls ts i) 0 r (0, 0) = S at e
  have pl := lplus_val (r.getD i (0, 0)) (gneg S)
  have ra := row_at hi'
  have sl := set_slices (gadd (r.getD i (0, 0)) (gneg S)) hi'
  have c1 := cut_take (r.map gD) i
  have c2 := cut_drop (r.map gD) (i + 1)
  have en : ixD (houseD n ts) (.int 0) = some (.int n) := by unfold houseD; exact ix0
  have rg : rangeA [.int (n : Int)] = some (rangeD ((0 : Nat) : Int) (n : Int)) := rangeA_ok (by omega) (by omega)
  have a1 : ∀ x, addX (.tup ((r.map gD).take i)) (.tup [x]) = some (.tup ((r.map gD).take i ++ [x])) := fun x => by
    show (if _ then _ else _) = _
    rw [if_pos (szl (by simp; omega))]
  have a2 : ∀ x, addX (.tup ((r.map gD).take i ++ [x])) (.tup ((r.map gD).drop (i + 1))) = some (.tup ((r.map gD).take i ++ [x] ++ (r.map gD).drop (i + 1))) := fun x => by
    show (if _ then _ else _) = _
    rw [if_pos (szl (by simp; omega))]
  have z2 : 0 + 1 + 1 ≤ sizeLine := szl (by decide)
  have z1 : 0 + 1 ≤ sizeLine := szl (by decide)
  have i0 : ixD (gD S) (.int 0) = some (.int S.1) := ix0
  have i1 : ixD (gD S) (.int 1) = some (.int S.2) := ix1
  have e0 : D.tup [.int 0, .int 0] = gD (0, 0) := rfl
  have e1 : D.tup [.int (-S.1), .int (-S.2)] = gD (gneg S) := rfl
  have e2 : ((i : Int) + 1) = ((i + 1 : Nat) : Int) := by omega
  refine ⟨.fr (gD S), s5', ?_⟩
  unfold ledS
  simp only [s_seqF, s_asgF, s_tupF, s_consA, s_cF, s_nilA, Option.bind_some, List.length_cons, List.length_nil, if_pos z2, List.set_cons_succ, List.set_cons_zero, s_forF, s_rng1, s_bind2, s_vF, List.getElem?_cons_zero, List.getElem?_cons_succ, en, rg, e0]
  rw [e]
  simp only [Option.bind_some, s_asgF, s_bind2, s_sliceF, s_vF, List.getElem?_cons_zero, List.getElem?_cons_succ, s_noP, s_exP, rowD, s_tupF, s_consA, s_appF, s_nilA, s_bind1, s_cF, i0, i1, s_neg, List.length_cons, List.length_nil, if_pos z2, e1, s_add, e2, c1, c2]
  unfold rowD at ra
  simp only [ra, pl, Option.bind_some, List.length_cons, List.length_nil, if_pos z1, a1, a2, List.set_cons_succ, List.set_cons_zero, mirM, hS]
  rw [← sl, List.append_assoc]
  rfl
theorem led_loop (n : Nat) {ts : List T3} (hg : GoodT ts) (W : D) (hn : n ≤ 100) : ∀ (l : List Nat) (r : List Gd) (s3 s4 s5 : Slot), r.length = n → (∀ i ∈ l, i < n) → ∃ s3' s4' s5', loopF (nameG 3) ledS (l.map fun (i : Nat) => .int (i : Int)) [.fr (houseD n ts), .fr W, .fr (rowD r), s3, s4, s5] =
    some (.nx [.fr (houseD n ts), .fr W, .fr (rowD (l.foldl (fun r i => mirM (pulls ts i) i r) r)), s3', s4', s5'])
  | [], r, s3, s4, s5, hr, hl => ⟨s3, s4, s5, rfl⟩
  | i :: l, r, s3, s4, s5, hr, hl => by
    obtain ⟨s4', s5', e⟩ := led_step n hg W hr (hl i List.mem_cons_self) hn s4 s5
    obtain ⟨t3, t4, t5, e'⟩ := led_loop n hg W hn l (mirM (pulls ts i) i r) (.fr (.int i)) s4' s5' (by rw [mirM_length, hr]) (fun j hj => hl j (List.mem_cons_of_mem _ hj))
    refine ⟨t3, t4, t5, ?_⟩
    rw [List.map_cons]
    unfold loopF
    simp only [s_nameG, Option.bind_some, List.set_cons_succ, List.set_cons_zero, e]
    exact e'
theorem led_val (n : Nat) {ts : List T3} (hg : GoodT ts) {w : List Nat} {r : List Gd} (hn : n ≤ 100) (hr : r.length = n) (hw : ∀ i ∈ w, i < n) : g_l_led [houseD n ts, wordD w, rowD r] = some (rowD (ledM (pulls ts) w r)) := by
  obtain ⟨t3, t4, t5, e⟩ := led_loop n hg (wordD w) hn w.reverse r .no .no .no hr (fun i hi => hw i (by simpa using hi))
  have er : (w.map fun (i : Nat) => D.int (i : Int)).reverse = w.reverse.map fun (i : Nat) => D.int (i : Int) := by simp
  unfold g_l_led F_l_led
  simp only [s_denF, s_startR, List.map_cons, List.map_nil, List.length_cons, List.length_nil, Nat.reduceAdd, Nat.reduceSub, List.replicate, List.cons_append, List.nil_append, s_seqF, s_forF, s_seqItems, s_revF, s_vF, List.getElem?_cons_zero, List.getElem?_cons_succ, Option.bind_some, s_bind1, s_cF, s_neg, wordD, if_true, s_seqT, er]
  unfold ledS ledB wordD at e
  rw [e]
  simp only [Option.bind_some, s_retF, s_vF, List.getElem?_cons_zero, List.getElem?_cons_succ, s_outR, ledM, List.foldl_reverse]
theorem mix_loop (k : Int) (s3 : Slot) : ∀ (l : List D) (c : Int) (s2 : Slot), ∃ (c' : Int) (s2' : Slot), loopF (nameG 2) (asgF 0 (bind2 fdivD (vF 0) (cF (.int 2147483648)))) l [.fr (.int c), .fr (.int k), s2, s3] = some (.nx [.fr (.int c'), .fr (.int k), s2', s3])
  | [], c, s2 => ⟨c, s2, rfl⟩
  | d :: l, c, s2 => by
    obtain ⟨c', s2', e⟩ := mix_loop k s3 l (c / 2147483648) (.fr d)
    refine ⟨c', s2', ?_⟩
    have f := fdivD_ok (i := c) (show (0 : Int) < 2147483648 by decide) (by decide)
    unfold loopF
    simp only [s_nameG, Option.bind_some, List.set_cons_succ, List.set_cons_zero, s_asgF, s_bind2, s_vF, s_cF, List.getElem?_cons_zero, List.getElem?_cons_succ, f]
    exact e
theorem mix_val (c : Int) (k : Nat) (hk : k ≤ 1000) : ∃ z : Int, 0 ≤ z ∧ z < 2147483648 ∧ g_l_mix [.int c, .int k] = some (.int z) := by
  have p12 : powD (.int 10) (.int 12) = some (.int (10 ^ 12)) := powD_ok ⟨by decide, by decide, lt_big (k := 8) (by decide) (by decide)⟩
  by_cases hc : (10 : Int) ^ 12 ≤ c
  · have f12 := fdivD_ok (i := c) (show (0 : Int) < 10 ^ 12 by decide) (by decide)
    have md := modD_ok (i := (k : Int)) (show (0 : Int) < 61 by decide)
    have ra : rangeA [.int ((k : Int) % 61)] = some (rangeD 0 ((k : Int) % 61)) := rangeA_ok (by omega) (by omega)
    obtain ⟨c', s2', e⟩ := mix_loop (k : Int) .no (rangeD 0 ((k : Int) % 61)) (c / 10 ^ 12 - 1) .no
    have md2 := modD_ok (i := c') (show (0 : Int) < 2147483648 by decide)
    refine ⟨c' % 2147483648, by omega, by omega, ?_⟩
    simp only [g_l_mix, F_l_mix, s_denF, s_startR, List.map_cons, List.map_nil, List.length_cons, List.length_nil, Nat.reduceAdd, Nat.reduceSub, List.replicate, List.cons_append, List.nil_append, s_seqF, s_ifS, s_blF, s_bind2, s_vF, s_cF, List.getElem?_cons_zero, List.getElem?_cons_succ, Option.bind_some, p12, s_ge, hc, decide_true, if_true, s_asgF, f12, s_sub, List.set_cons_zero, List.set_cons_succ, s_forF, s_rng1, s_consA, s_nilA, md, ra]
    rw [e]
    simp only [Option.bind_some, s_retF, s_bind2, s_vF, s_cF, List.getElem?_cons_zero, md2, s_outR]
  · have h0 : (0 : Int) ≤ (k : Int) * k := Int.mul_nonneg (by omega) (by omega)
    have h1 : (k : Int) * k ≤ 1000 * 1000 := Int.mul_le_mul (by omega) (by omega) (by omega) (by omega)
    have m1 : mulD (.int (k : Int)) (.int (k : Int)) = _ := mulD_ok (mulOk_l (by omega) (by omega))
    have m2 : mulD (.int ((k : Int) * k)) (.int 7919) = _ := mulD_ok (mulOk_r (by decide) (by decide))
    have m3 : ∀ x, mulD (.int x) (.int 48271) = _ := fun x => mulD_ok (mulOk_r (by decide) (by decide))
    have m4 : ∀ x : Int, mulD (.int (x % 2147483629)) (.int (x % 2147483629)) = _ := fun x => mulD_ok (mulOk_l (by omega) (by omega))
    have m5 : ∀ x y : Int, mulD (.int (x % 2147483587)) (.int y) = _ := fun x y => mulD_ok (mulOk_l (by omega) (by omega))
    refine ⟨_, ?_, ?_, by simp only [g_l_mix, F_l_mix, s_denF, s_startR, List.map_cons, List.map_nil, List.length_cons, List.length_nil, Nat.reduceAdd, Nat.reduceSub, List.replicate, List.cons_append, List.nil_append, s_seqF, s_ifS, s_blF, s_bind2, s_vF, s_cF, List.getElem?_cons_zero, List.getElem?_cons_succ, Option.bind_some, p12, s_ge, hc, decide_false, Bool.false_eq_true, if_false, s_nxF, s_asgF, modD_ok (show (0 : Int) < 1000003 by decide), m1, m2, s_add, m3, modD_ok (show (0 : Int) < 2147483629 by decide), List.set_cons_succ, List.set_cons_zero, s_retF, m4, modD_ok (show (0 : Int) < 2147483587 by decide), m5, modD_ok (show (0 : Int) < 2147483579 by decide), fdivD_ok (show (0 : Int) < 7 by decide) (by decide), s_outR]; rfl⟩ <;> omega
def Mok (m : Int) : Prop := m = 0 ∨ (2 ≤ m ∧ m ≤ 6)
def TsOk (n : Nat) (ts : List T3) : Prop := ∀ t ∈ ts, (t.2.2 = 0 ∨ (3 ≤ t.2.2 ∧ t.2.2 ≤ 6)) ∧ 0 ≤ t.1 ∧ t.1 < t.2.1 ∧ t.2.1 < n
theorem TsOk.good {n : Nat} {ts : List T3} (h : TsOk n ts) : GoodT ts := fun t ht => (h t ht).1
noncomputable def hB1 : FS := asgF 7 (appF g_l_mix (consA (appF g_l_cell_at (consA (vF 0) (consA (bind2 addX (cF (.int 1)) (vF 5)) nilA))) (consA (bind2 addX (bind2 mulD (cF (.int 10)) (vF 5)) (vF 6)) nilA)))
def hB2 : FS := asgF 8 (bind2 ixD (mapLst (lstF (consA (cF (.int 2)) (consA (cF (.int 3)) (consA (cF (.int 4)) (consA (cF (.int 5)) (consA (cF (.int 6)) (consA (cF (.int 0)) (consA (cF (.int 3)) (consA (cF (.int 2)) nilA)))))))))) (bind2 modD (vF 7) (cF (.int 8))))
def hB3 : FS := ifS (blF (bind2 eqF (bind2 modD (vF 3) (cF (.int 3))) (cF (.int 1)))) (seqF (asgF 8 (bind2 ixD (mapLst (lstF (consA (cF (.int 2)) (consA (cF (.int 3)) nilA)))) (appF intD (consA (bind2 eqF (vF 6) (bind2 addX (vF 5) (cF (.int 1)))) nilA)))) (ifS (andT (blF (bind2 eqF (vF 6) (bind2 addX (vF 5) (cF (.int 1))))) (andT (blF (bind2 eqF (bind2 modD (bind2 fdivD (vF 3) (cF (.int 3))) (cF (.int 3))) (cF (.int 1)))) (blF (bind2 eqF (vF 6) (bind2 subD (vF 2) (cF (.int 1))))))) (asgF 8 (bind2 ixD (mapLst (lstF (consA (cF (.int 4)) (consA (cF (.int 5)) nilA)))) (bind2 modD (bind2 fdivD (vF 3) (cF (.int 9))) (cF (.int 2))))) nxF)) nxF
def hB4 : FS := ifS (andT (blF (bind2 eqF (bind2 modD (vF 3) (cF (.int 3))) (cF (.int 2)))) (andT (blF (bind2 neF (vF 6) (bind2 addX (vF 5) (cF (.int 1))))) (blF (bind2 gtD (bind2 modD (bind2 fdivD (vF 7) (cF (.int 8))) (cF (.int 3))) (cF (.int 0)))))) (asgF 8 (cF (.int 2))) nxF
def hB5 : FS := ifS (blF (bind2 neF (vF 8) (cF (.int 2)))) (appendF 4 (tupF (consA (vF 5) (consA (vF 6) (consA (vF 8) nilA))))) nxF
noncomputable def hBody : FS := seqF hB1 (seqF hB2 (seqF hB3 (seqF hB4 hB5)))
section
variable (ns : List Int) (hl : ns.length ≤ 63) (most kind : Int) (n : Nat) (hn : n ≤ 6)
abbrev hR (L : List D) (i j : Nat) (s7 s8 : Slot) : Rho := [.fr (.lst (ns.map D.int)), .fr (.int most), .fr (.int n), .fr (.int kind), .ol L, .fr (.int i), .fr (.int j), s7, s8]
include hl hn in
theorem hb1 (L : List D) {i j : Nat} (hi : i ≤ 6) (hj : j ≤ 6) (s7 s8 : Slot) : ∃ d : Int, 0 ≤ d ∧ hB1 (hR ns most kind n L i j s7 s8) = some (.nx (hR ns most kind n L i j (.fr (.int d)) s8)) := by
  obtain ⟨z, h0, _, e⟩ := mix_val (cellM ns (1 + i)) (10 * i + j) (by omega)
  have ce := cell_val ns (1 + i) hl
  have e1 : (1 : Int) + (i : Int) = ((1 + i : Nat) : Int) := by omega
  have e2 : (10 : Int) * (i : Int) + (j : Int) = ((10 * i + j : Nat) : Int) := by omega
  refine ⟨z, h0, ?_⟩
  have m1 : mulD (.int 10) (.int (i : Int)) = some (.int (10 * (i : Int))) := mulD_ok (mulOk_l (by decide) (by decide))
  simp only [hB1, hR, s_asgF, s_appF, s_consA, s_nilA, s_bind2, s_vF, s_cF, List.getElem?_cons_zero, List.getElem?_cons_succ, Option.bind_some, s_add, m1, e1, e2, ce, e, List.set_cons_succ, List.set_cons_zero]
theorem hb2 (L : List D) (i j : Nat) {d : Int} (s8 : Slot) : ∃ m, Mok m ∧ hB2 (hR ns most kind n L i j (.fr (.int d)) s8) = some (.nx (hR ns most kind n L i j (.fr (.int d)) (.fr (.int m)))) := by
  have md := modD_ok (i := d) (show (0 : Int) < 8 by decide)
  have cs : d % 8 = 0 ∨ d % 8 = 1 ∨ d % 8 = 2 ∨ d % 8 = 3 ∨ d % 8 = 4 ∨ d % 8 = 5 ∨ d % 8 = 6 ∨ d % 8 = 7 := by omega
  unfold Mok
  rcases cs with c | c | c | c | c | c | c | c
  · exact ⟨2, by decide, by simp [hB2, hR, md, c, sizeLine_eq, ixD, atI, ixN]⟩
  · exact ⟨3, by decide, by simp [hB2, hR, md, c, sizeLine_eq, ixD, atI, ixN]⟩
  · exact ⟨4, by decide, by simp [hB2, hR, md, c, sizeLine_eq, ixD, atI, ixN]⟩
  · exact ⟨5, by decide, by simp [hB2, hR, md, c, sizeLine_eq, ixD, atI, ixN]⟩
  · exact ⟨6, by decide, by simp [hB2, hR, md, c, sizeLine_eq, ixD, atI, ixN]⟩
  · exact ⟨0, by decide, by simp [hB2, hR, md, c, sizeLine_eq, ixD, atI, ixN]⟩
  · exact ⟨3, by decide, by simp [hB2, hR, md, c, sizeLine_eq, ixD, atI, ixN]⟩
  · exact ⟨2, by decide, by simp [hB2, hR, md, c, sizeLine_eq, ixD, atI, ixN]⟩
theorem hb3 (L : List D) (i j : Nat) (s7 : Slot) {m : Int} (hm : Mok m) : ∃ m', Mok m' ∧ hB3 (hR ns most kind n L i j s7 (.fr (.int m))) = some (.nx (hR ns most kind n L i j s7 (.fr (.int m')))) := by
  have md := modD_ok (i := kind) (show (0 : Int) < 3 by decide)
  have f3 := fdivD_ok (i := kind) (show (0 : Int) < 3 by decide) (by decide)
  have f9 := fdivD_ok (i := kind) (show (0 : Int) < 9 by decide) (by decide)
  have md3 := modD_ok (i := kind / 3) (show (0 : Int) < 3 by decide)
  have md9 := modD_ok (i := kind / 9) (show (0 : Int) < 2 by decide)
  by_cases c : kind % 3 = 1
  · by_cases c1 : (j : Int) = (i : Int) + 1
    · by_cases c2 : kind / 3 % 3 = 1 ∧ (j : Int) = (n : Int) - 1
      · obtain ⟨c2, c3⟩ := c2
        rcases (by omega : kind / 9 % 2 = 0 ∨ kind / 9 % 2 = 1) with c4 | c4
        · refine ⟨4, by unfold Mok; decide, ?_⟩
          have c5 : (i : Int) + 1 = (n : Int) - 1 := by omega
          simp [hB3, hR, md, c, c1, c5, f3, md3, c2, f9, md9, c4, sizeLine_eq, ixD, atI, ixN]
        · refine ⟨5, by unfold Mok; decide, ?_⟩
          have c5 : (i : Int) + 1 = (n : Int) - 1 := by omega
          simp [hB3, hR, md, c, c1, c5, f3, md3, c2, f9, md9, c4, sizeLine_eq, ixD, atI, ixN]
      · refine ⟨3, by unfold Mok; decide, ?_⟩
        by_cases c3 : kind / 3 % 3 = 1
        · have c4 : ¬ (i : Int) + 1 = (n : Int) - 1 := fun z => c2 ⟨c3, by omega⟩
          simp [hB3, hR, md, c, c1, c4, f3, md3, c3, sizeLine_eq, ixD, atI, ixN]
        · simp [hB3, hR, md, c, c1, f3, md3, c3, sizeLine_eq, ixD, atI, ixN]
    · refine ⟨2, by unfold Mok; decide, ?_⟩
      simp [hB3, hR, md, c, c1, sizeLine_eq, ixD, atI, ixN]
  · exact ⟨m, hm, by simp [hB3, hR, md, c]⟩
theorem hb4 (L : List D) (i j : Nat) {d m : Int} (hm : Mok m) : ∃ m', Mok m' ∧ hB4 (hR ns most kind n L i j (.fr (.int d)) (.fr (.int m))) = some (.nx (hR ns most kind n L i j (.fr (.int d)) (.fr (.int m')))) := by
  have md := modD_ok (i := kind) (show (0 : Int) < 3 by decide)
  have f8 := fdivD_ok (i := d) (show (0 : Int) < 8 by decide) (by decide)
  have md8 := modD_ok (i := d / 8) (show (0 : Int) < 3 by decide)
  by_cases c : kind % 3 = 2
  · by_cases c1 : (j : Int) = (i : Int) + 1
    · exact ⟨m, hm, by simp [hB4, hR, md, c, c1]⟩
    · by_cases c2 : 0 < d / 8 % 3
      · exact ⟨2, by unfold Mok; decide, by simp [hB4, hR, md, c, c1, f8, md8, c2]⟩
      · exact ⟨m, hm, by simp [hB4, hR, md, c, c1, f8, md8, c2]⟩
  · exact ⟨m, hm, by simp [hB4, hR, md, c]⟩
theorem hb5 {ts : List T3} {i j : Nat} (s7 : Slot) {m : Int} (hm : Mok m) (ht : TsOk n ts) (hi : i < j) (hj : j < n) (hlen : ts.length < 1000) : ∃ ts', TsOk n ts' ∧ ts'.length ≤ ts.length + 1 ∧ hB5 (hR ns most kind n (ts.map tD) i j s7 (.fr (.int m))) = some (.nx (hR ns most kind n (ts'.map tD) i j s7 (.fr (.int m)))) := by
  by_cases c : m = 2
  · exact ⟨ts, ht, by omega, by simp [hB5, hR, c]⟩
  · refine ⟨ts ++ [((i : Int), (j : Int), m)], fun t h => ?_, by simp, ?_⟩
    · rcases List.mem_append.mp h with h | h
      · exact ht t h
      · have : t = ((i : Int), (j : Int), m) := by simpa using h
        subst this
        unfold Mok at hm
        exact ⟨by simp only []; omega, by simp only []; omega, by simp only []; omega, by simp only []; omega⟩
    · have z : ts.length < sizeLine := small1000 (by omega)
      have z3 : (3 : Nat) ≤ sizeLine := szl (by decide)
      simp [hB5, hR, c, z, z3, tD]
include hl hn in
theorem hbody {ts : List T3} {i j : Nat} (s7 s8 : Slot) (ht : TsOk n ts) (hi : i < j) (hj : j < n) (hlen : ts.length < 1000) : ∃ ts' s7' s8', TsOk n ts' ∧ ts'.length ≤ ts.length + 1 ∧ hBody (hR ns most kind n (ts.map tD) i j s7 s8) = some (.nx (hR ns most kind n (ts'.map tD) i j s7' s8')) := by
  obtain ⟨d, _, e1⟩ := hb1 ns hl most kind n hn (ts.map tD) (i := i) (j := j) (by omega) (by omega) s7 s8
  obtain ⟨m, m1, e2⟩ := hb2 ns most kind n (ts.map tD) i j (d := d) s8
  obtain ⟨m', m2, e3⟩ := hb3 ns most kind n (ts.map tD) i j (.fr (.int d)) m1
  obtain ⟨m'', m3, e4⟩ := hb4 ns most kind n (ts.map tD) i j (d := d) m2
  obtain ⟨ts', h1, h2, e5⟩ := hb5 ns most kind n (.fr (.int d)) m3 ht hi hj hlen
  refine ⟨ts', .fr (.int d), .fr (.int m''), h1, h2, ?_⟩
  unfold hBody
  simp only [s_seqF, e1, e2, e3, e4, e5, Option.bind_some]
include hl hn in
theorem hinner {i : Nat} (hi : i < n) : ∀ (k j : Nat) (ts : List T3) (s6 s7 s8 : Slot), j + k = n → i < j → TsOk n ts → ts.length + k < 1000 → ∃ ts' s6' s7' s8', TsOk n ts' ∧ ts'.length ≤ ts.length + k ∧
    loopF (nameG 6) hBody (rangeD (j : Int) (n : Int)) [.fr (.lst (ns.map D.int)), .fr (.int most), .fr (.int n), .fr (.int kind), .ol (ts.map tD), .fr (.int i), s6, s7, s8] = some (.nx [.fr (.lst (ns.map D.int)), .fr (.int most), .fr (.int n), .fr (.int kind), .ol (ts'.map tD), .fr (.int i), s6', s7', s8'])
  | 0, j, ts, s6, s7, s8, h, hij, ht, hlen => by
    rw [rangeD_nil (by omega)]
    exact ⟨ts, s6, s7, s8, ht, by omega, rfl⟩
  | k + 1, j, ts, s6, s7, s8, h, hij, ht, hlen => by
    obtain ⟨ts1, a7, a8, h1, h2, e1⟩ := hbody ns hl most kind n hn (i := i) (j := j) s7 s8 ht hij (by omega) (by omega)
    obtain ⟨ts2, b6, b7, b8, h3, h4, e2⟩ := hinner hi k (j + 1) ts1 (.fr (.int j)) a7 a8 (by omega) (by omega) h1 (by omega)
    refine ⟨ts2, b6, b7, b8, h3, by omega, ?_⟩
    rw [rangeD_cons (by omega)]
    unfold loopF
    simp only [s_nameG, Option.bind_some, List.set_cons_succ, List.set_cons_zero]
    rw [e1]
    exact e2
include hl hn in
theorem houter : ∀ (k i : Nat) (ts : List T3) (s5 s6 s7 s8 : Slot), i + k = n → TsOk n ts → ts.length + k * 6 < 900 → ∃ ts' s5' s6' s7' s8', TsOk n ts' ∧ ts'.length ≤ ts.length + k * 6 ∧
    loopF (nameG 5) (forF (rng2 (consA (bind2 addX (vF 5) (cF (.int 1))) (consA (vF 2) nilA))) (nameG 6) hBody) (rangeD (i : Int) (n : Int)) [.fr (.lst (ns.map D.int)), .fr (.int most), .fr (.int n), .fr (.int kind), .ol (ts.map tD), s5, s6, s7, s8] =
      some (.nx [.fr (.lst (ns.map D.int)), .fr (.int most), .fr (.int n), .fr (.int kind), .ol (ts'.map tD), s5', s6', s7', s8'])
  | 0, i, ts, s5, s6, s7, s8, h, ht, hlen => by
    rw [rangeD_nil (by omega)]
    exact ⟨ts, s5, s6, s7, s8, ht, by omega, rfl⟩
  | k + 1, i, ts, s5, s6, s7, s8, h, ht, hlen => by
    obtain ⟨ts1, a6, a7, a8, h1, h2, e1⟩ := hinner ns hl most kind n hn (i := i) (by omega) (n - (i + 1)) (i + 1) ts s6 s7 s8 (by omega) (by omega) ht (by omega)
    obtain ⟨ts2, b5, b6, b7, b8, h3, h4, e2⟩ := houter k (i + 1) ts1 (.fr (.int i)) a6 a7 a8 (by omega) h1 (by omega)
    have rg : rangeB [.int ((i : Int) + 1), .int (n : Int)] = some (rangeD ((i + 1 : Nat) : Int) (n : Int)) := by
      have e0 : ((i : Int) + 1) = ((i + 1 : Nat) : Int) := by omega
      rw [e0]
      exact rangeB_ok (by omega) (by omega) (by omega) (by omega)
    refine ⟨ts2, b5, b6, b7, b8, h3, by omega, ?_⟩
    rw [rangeD_cons (by omega)]
    unfold loopF
    simp only [s_nameG, Option.bind_some, List.set_cons_succ, List.set_cons_zero, s_forF, s_rng2, s_consA, s_bind2, s_vF, s_cF, s_nilA, List.getElem?_cons_zero, List.getElem?_cons_succ, s_add, rg]
    rw [e1]
    exact e2
end
theorem TsOk.rev {n : Nat} {ts : List T3} (h : TsOk n ts) : TsOk n ts.reverse := fun t ht => h t (by simpa using ht)
theorem house_val (ns : List Int) (hl : ns.length ≤ 63) (most : Nat) (h1 : 1 ≤ most) (h2 : most ≤ 6) : ∃ (n : Nat) (ts : List T3), 1 ≤ n ∧ n ≤ most ∧ TsOk n ts ∧ ts.length ≤ 36 ∧ g_l_house [.lst (ns.map D.int), .int most] = some (houseD n ts) := by
  have c0 := cell_val ns 0 hl
  obtain ⟨kind, _, _, k1⟩ := mix_val (cellM ns 0) 1 (by decide)
  have md := modD_ok (i := cellM ns 0) (show (0 : Int) < (most : Int) by omega)
  have b1 := Int.emod_nonneg (cellM ns 0) (show (most : Int) ≠ 0 by omega)
  have b2 := Int.emod_lt_of_pos (cellM ns 0) (show (0 : Int) < (most : Int) by omega)
  obtain ⟨n, hn⟩ : ∃ n : Nat, 1 + cellM ns 0 % (most : Int) = (n : Int) := ⟨(1 + cellM ns 0 % (most : Int)).toNat, by omega⟩
  have hn1 : 1 ≤ n := by omega
  have hn6 : n ≤ most := by omega
  obtain ⟨ts, a5, a6, a7, a8, q1, q2, e⟩ := houter ns hl (most : Int) kind n (by omega) n 0 [] .no .no .no .no (by omega) (fun t ht => by cases ht) (by simp; omega)
  have rg : rangeA [.int (n : Int)] = some (rangeD ((0 : Nat) : Int) (n : Int)) := rangeA_ok (by omega) (by omega)
  have f27 := fdivD_ok (i := kind) (show (0 : Int) < 27 by decide) (by decide)
  have md2 := modD_ok (i := kind / 27) (show (0 : Int) < 2 by decide)
  have z0 : 0 ≤ sizeLine := Nat.zero_le _
  have z2 : 0 + 1 + 1 ≤ sizeLine := szl (by decide)
  have c0' : g_l_cell_at [.lst (ns.map D.int), .int 0] = some (.int (cellM ns 0)) := c0
  have k1' : g_l_mix [.int (cellM ns 0), .int 1] = some (.int kind) := k1
  have hlen : ts.length ≤ 36 := by simp at q2; omega
  unfold hBody hB1 hB2 hB3 hB4 hB5 at e
  unfold g_l_house F_l_house
  by_cases c : kind / 27 % 2 = 1
  · refine ⟨n, ts.reverse, hn1, hn6, q1.rev, by simpa using hlen, ?_⟩
    simp only [s_denF, s_startR, List.map_cons, List.map_nil, List.length_cons, List.length_nil, Nat.reduceAdd, Nat.reduceSub, List.replicate, List.cons_append, List.nil_append, s_seqF, s_asgF, s_bind2, s_cF, s_appF, s_consA, s_vF, s_nilA, List.getElem?_cons_zero, List.getElem?_cons_succ, Option.bind_some, c0', md, s_add, hn, List.set_cons_succ, List.set_cons_zero, k1', s_asgN, s_lstF, if_pos z0, s_forF, s_rng1, rg]
    rw [List.map_nil] at e
    rw [e]
    simp only [Option.bind_some, s_ifS, s_blF, s_bind2, s_vF, s_cF, List.getElem?_cons_zero, List.getElem?_cons_succ, f27, md2, s_eqi, c, decide_true, if_true, s_asgN, s_revN, s_vR, s_bind1, s_neg, List.set_cons_succ, List.set_cons_zero, s_frzF, s_frz, s_retF, s_tupF, s_consA, s_nilA, List.length_cons, List.length_nil, if_pos z2, s_outR]
    simp [houseD]
  · refine ⟨n, ts, hn1, hn6, q1, hlen, ?_⟩
    simp only [s_denF, s_startR, List.map_cons, List.map_nil, List.length_cons, List.length_nil, Nat.reduceAdd, Nat.reduceSub, List.replicate, List.cons_append, List.nil_append, s_seqF, s_asgF, s_bind2, s_cF, s_appF, s_consA, s_vF, s_nilA, List.getElem?_cons_zero, List.getElem?_cons_succ, Option.bind_some, c0', md, s_add, hn, List.set_cons_succ, List.set_cons_zero, k1', s_asgN, s_lstF, if_pos z0, s_forF, s_rng1, rg]
    rw [List.map_nil] at e
    rw [e]
    simp only [Option.bind_some, s_ifS, s_blF, s_bind2, s_vF, s_cF, List.getElem?_cons_zero, List.getElem?_cons_succ, f27, md2, s_eqi, c, decide_false, Bool.false_eq_true, if_false, s_nxF, List.set_cons_succ, List.set_cons_zero, s_frzF, s_frz, s_retF, s_tupF, s_consA, s_nilA, List.length_cons, List.length_nil, if_pos z2, s_outR]
    simp [houseD]
theorem eq_same {d : D} (h : dep d ≤ 100) : eqF d d = some (.bl true) := by
  unfold eqF
  rw [if_pos h, eqD_refl]
theorem ne_same {d : D} (h : dep d ≤ 100) : neF d d = some (.bl false) := by
  unfold neF
  rw [if_pos h, eqD_refl]
  rfl
noncomputable def wB : FS := asgF 5 (bind2 addX (vF 5) (tupF (consA (bind2 modD (appF g_l_mix (consA (appF g_l_cell_at (consA (vF 0) (consA (bind2 addX (vF 2) (vF 6)) nilA))) (consA (bind2 addX (bind2 mulD (cF (.int 7)) (vF 6)) (cF (.int 3))) nilA))) (bind2 ixD (vF 1) (cF (.int 0)))) nilA)))
theorem wordD_snoc (w : List Nat) (i : Nat) (h : w.length ≤ 90) : addX (wordD w) (.tup [.int i]) = some (wordD (w ++ [i])) := by
  show (if _ then _ else _) = _
  rw [if_pos (szl (by simp; omega))]
  simp [wordD]
theorem word_loop (ns : List Int) (hl : ns.length ≤ 63) (n : Nat) (ts : List T3) (hn : 1 ≤ n) (first : Nat) (many : Nat) (s4 : Slot) (hm : many ≤ 60) : ∀ (m k : Nat) (w : List Nat) (s6 : Slot), k + m = many → w.length = k → (∀ i ∈ w, i < n) → ∃ (w' : List Nat) (s6' : Slot), w'.length = many ∧ (∀ i ∈ w', i < n) ∧
    loopF (nameG 6) wB (rangeD (k : Int) (many : Int)) [.fr (.lst (ns.map D.int)), .fr (houseD n ts), .fr (.int first), .fr (.int many), s4, .fr (wordD w), s6] = some (.nx [.fr (.lst (ns.map D.int)), .fr (houseD n ts), .fr (.int first), .fr (.int many), s4, .fr (wordD w'), s6'])
  | 0, k, w, s6, h, hw, hi => by
    rw [rangeD_nil (by omega)]
    exact ⟨w, s6, by omega, hi, rfl⟩
  | m + 1, k, w, s6, h, hw, hi => by
    have cv := cell_val ns (first + k) hl
    obtain ⟨z, h0, _, mv⟩ := mix_val (cellM ns (first + k)) (7 * k + 3) (by omega)
    have en : ixD (houseD n ts) (.int 0) = some (.int n) := by unfold houseD; exact ix0
    have md := modD_ok (i := z) (show (0 : Int) < (n : Int) by omega)
    have b1 := Int.emod_nonneg z (show (n : Int) ≠ 0 by omega)
    have b2 := Int.emod_lt_of_pos z (show (0 : Int) < (n : Int) by omega)
    obtain ⟨i, ei⟩ : ∃ i : Nat, z % (n : Int) = (i : Int) := ⟨(z % (n : Int)).toNat, by omega⟩
    rw [ei] at md
    have wd := wordD_snoc w i (by omega)
    have m7 : mulD (.int 7) (.int (k : Int)) = some (.int (7 * (k : Int))) := mulD_ok (mulOk_l (by decide) (by decide))
    have e1 : (first : Int) + (k : Int) = ((first + k : Nat) : Int) := by omega
    have e2 : (7 : Int) * (k : Int) + 3 = ((7 * k + 3 : Nat) : Int) := by omega
    have z1 : 0 + 1 ≤ sizeLine := szl (by decide)
    obtain ⟨w', s6', q1, q2, e⟩ := word_loop ns hl n ts hn first many s4 hm m (k + 1) (w ++ [i]) (.fr (.int k)) (by omega) (by simp; omega) (fun j hj => by
      rcases List.mem_append.mp hj with hj | hj
      · exact hi j hj
      · have : j = i := by simpa using hj
        omega)
    refine ⟨w', s6', q1, q2, ?_⟩
    rw [rangeD_cons (by omega)]
    unfold loopF wB
    simp only [s_nameG, Option.bind_some, List.set_cons_succ, List.set_cons_zero, s_asgF, s_bind2, s_vF, s_cF, List.getElem?_cons_zero, List.getElem?_cons_succ, s_tupF, s_consA, s_nilA, s_appF, s_add, m7, e1, e2, cv, mv, en, md, List.length_cons, List.length_nil, if_pos z1, wd]
    unfold wB at e
    exact e
theorem word_val (ns : List Int) (hl : ns.length ≤ 63) (n : Nat) (ts : List T3) (hn : 1 ≤ n) (first many : Nat) (hm : many ≤ 60) : ∃ w : List Nat, w.length ≤ many ∧ (∀ i ∈ w, i < n) ∧ g_l_word [.lst (ns.map D.int), houseD n ts, .int first, .int many] = some (wordD w) := by
  have cv := cell_val ns first hl
  obtain ⟨z, h0, _, mv⟩ := mix_val (cellM ns first) 60 (by decide)
  have mv' : g_l_mix [.int (cellM ns first), .int 60] = some (.int z) := mv
  have md := modD_ok (i := z) (show (0 : Int) < 3 by decide)
  have f3 := fdivD_ok (i := z) (show (0 : Int) < 3 by decide) (by decide)
  have z0 : 0 ≤ sizeLine := Nat.zero_le _
  have e0 : D.tup [] = wordD [] := rfl
  by_cases c : z % 3 = 1
  · have b1 := Int.emod_nonneg (z / 3) (show (many : Int) + 1 ≠ 0 by omega)
    have b2 := Int.emod_lt_of_pos (z / 3) (show (0 : Int) < (many : Int) + 1 by omega)
    have mm := modD_ok (i := z / 3) (show (0 : Int) < (many : Int) + 1 by omega)
    obtain ⟨k, ek⟩ : ∃ k : Nat, z / 3 % ((many : Int) + 1) = (k : Int) := ⟨(z / 3 % ((many : Int) + 1)).toNat, by omega⟩
    rw [ek] at mm
    have ra : rangeA [.int (k : Int)] = some (rangeD ((0 : Nat) : Int) (k : Int)) := rangeA_ok (by omega) (by omega)
    obtain ⟨w, s6, q1, q2, e⟩ := word_loop ns hl n ts hn first k (.fr (.int z)) (by omega) k 0 [] .no (by omega) rfl (by simp)
    refine ⟨w, by omega, q2, ?_⟩
    simp only [g_l_word, F_l_word, s_denF, s_startR, List.map_cons, List.map_nil, List.length_cons, List.length_nil, Nat.reduceAdd, Nat.reduceSub, List.replicate, List.cons_append, List.nil_append, s_seqF, s_asgF, s_appF, s_consA, s_vF, s_nilA, s_cF, List.getElem?_cons_zero, List.getElem?_cons_succ, Option.bind_some, cv, mv', List.set_cons_succ, List.set_cons_zero, s_ifS, s_blF, s_bind2, md, c, s_eqi, decide_true, if_true, f3, s_add, mm, s_tupF, if_pos z0, s_forF, s_rng1, ra, e0]
    unfold wB at e
    rw [e]
    simp only [Option.bind_some, s_retF, s_vF, List.getElem?_cons_zero, List.getElem?_cons_succ, s_outR]
  · have ra : rangeA [.int (many : Int)] = some (rangeD ((0 : Nat) : Int) (many : Int)) := rangeA_ok (by omega) (by omega)
    obtain ⟨w, s6, q1, q2, e⟩ := word_loop ns hl n ts hn first many (.fr (.int z)) (by omega) many 0 [] .no (by omega) rfl (by simp)
    refine ⟨w, by omega, q2, ?_⟩
    simp only [g_l_word, F_l_word, s_denF, s_startR, List.map_cons, List.map_nil, List.length_cons, List.length_nil, Nat.reduceAdd, Nat.reduceSub, List.replicate, List.cons_append, List.nil_append, s_seqF, s_asgF, s_appF, s_consA, s_vF, s_nilA, s_cF, List.getElem?_cons_zero, List.getElem?_cons_succ, Option.bind_some, cv, mv', List.set_cons_succ, List.set_cons_zero, s_ifS, s_blF, s_bind2, md, c, s_eqi, decide_false, Bool.false_eq_true, if_false, s_nxF, s_tupF, if_pos z0, s_forF, s_rng1, ra, e0]
    unfold wB at e
    rw [e]
    simp only [Option.bind_some, s_retF, s_vF, List.getElem?_cons_zero, List.getElem?_cons_succ, s_outR]
theorem pled_loop (n : Nat) {ts : List T3} (hg : GoodT ts) (W : D) (hn : n ≤ 100) : ∀ (l : List Nat) (r : List Gd) (s3 : Slot), r.length = n → (∀ i ∈ l, i < n) → ∃ s3', loopF (nameG 3) (asgF 2 (appF g_mirrored (consA (vF 0) (consA (vF 3) (consA (vF 2) nilA))))) (l.map fun (i : Nat) => .int (i : Int)) [.fr (houseD n ts), .fr W, .fr (rowD r), s3] =
    some (.nx [.fr (houseD n ts), .fr W, .fr (rowD (l.foldl (fun r i => mirM (pulls ts i) i r) r)), s3'])
  | [], r, s3, hr, hl => ⟨s3, rfl⟩
  | i :: l, r, s3, hr, hl => by
    have hi := hl i List.mem_cons_self
    have m := mirrored_val n hg (i := i) (r := r) (by omega) (by omega)
    obtain ⟨t3, e'⟩ := pled_loop n hg W hn l (mirM (pulls ts i) i r) (.fr (.int i)) (by rw [mirM_length, hr]) (fun j hj => hl j (List.mem_cons_of_mem _ hj))
    refine ⟨t3, ?_⟩
    rw [List.map_cons]
    unfold loopF
    simp only [s_nameG, Option.bind_some, List.set_cons_succ, List.set_cons_zero, s_asgF, s_appF, s_consA, s_nilA, s_vF, List.getElem?_cons_zero, List.getElem?_cons_succ, m]
    exact e'
theorem pled_val (n : Nat) {ts : List T3} (hg : GoodT ts) {w : List Nat} {r : List Gd} (hn : n ≤ 100) (hr : r.length = n) (hw : ∀ i ∈ w, i < n) : g_led [houseD n ts, wordD w, rowD r] = some (rowD (ledM (pulls ts) w r)) := by
  obtain ⟨t3, e⟩ := pled_loop n hg (wordD w) hn w.reverse r .no hr (fun i hi => hw i (by simpa using hi))
  have er : (w.map fun (i : Nat) => D.int (i : Int)).reverse = w.reverse.map fun (i : Nat) => D.int (i : Int) := by simp
  unfold g_led F_led
  simp only [s_denF, s_startR, List.map_cons, List.map_nil, List.length_cons, List.length_nil, Nat.reduceAdd, Nat.reduceSub, List.replicate, List.cons_append, List.nil_append, s_seqF, s_forF, s_itemsB, s_vF, List.getElem?_cons_zero, List.getElem?_cons_succ, Option.bind_some, wordD, er]
  unfold wordD at e
  rw [e]
  simp only [Option.bind_some, s_retF, s_vF, List.getElem?_cons_zero, List.getElem?_cons_succ, s_outR, ledM, List.foldl_reverse]
def imgM (ts : List T3) (n : Nat) (w : List Nat) : List (List Gd) := (List.range n).map fun i => ledM (pulls ts) w (simM n i)
def rowsD (rs : List (List Gd)) : D := .lst (rs.map rowD)
theorem pimages_val (n : Nat) {ts : List T3} (hg : GoodT ts) {w : List Nat} (hn : n ≤ 100) (hw : ∀ i ∈ w, i < n) : g_images [houseD n ts, wordD w] = some (rowsD (imgM ts n w)) := by
  have e : ixD (houseD n ts) (.int 0) = some (.int n) := by unfold houseD; exact ix0
  have ra : rangeA [.int (n : Int)] = some (rangeD ((0 : Nat) : Int) n) := rangeA_ok (by omega) (by omega)
  have c := comp1 (f := appF g_led (consA (vF 1) (consA (vF 2) (consA (appF g_simple (consA (vF 1) (consA (vF 0) nilA))) nilA)))) (C := [.fr (houseD n ts), .fr (wordD w)]) (φ := fun i => rowD (ledM (pulls ts) w (simM n i))) (rangeD ((0 : Nat) : Int) n) 0 .no (fun k d hk => by
    obtain ⟨rfl, _⟩ := rangeD_get hk
    have sv := simple_val n ts k hn
    have lv := pled_val n hg hn (simM_length n k) hw
    have e2 : ((0 : Nat) : Int) + (k : Int) = (k : Int) := by omega
    simp only [s_appF, s_consA, s_nilA, s_vF, List.getElem?_cons_succ, List.getElem?_cons_zero, Option.bind_some, e2, sv, lv, Nat.zero_add])
  have hl : (rangeD ((0 : Nat) : Int) (n : Int)).length = n := by rw [rangeD_length]; omega
  have hi : rng1 (consA (bind2 ixD (vF 0) (cF (.int 0))) nilA) [.fr (houseD n ts), .fr (wordD w)] = some (rangeD ((0 : Nat) : Int) n) := by
    simp only [s_rng1, s_consA, s_bind2, s_vF, List.getElem?_cons_zero, s_cF, Option.bind_some, e, s_nilA, ra]
  have hc := compF_ok (n := 1) (caps := [0, 1]) (γ := nameG 0) (ft := ttF) (f := appF g_led (consA (vF 1) (consA (vF 2) (consA (appF g_simple (consA (vF 1) (consA (vF 0) nilA))) nilA)))) hi (by rw [hl]; exact szl (by omega))
  have cs : compS 1 [0, 1] [.fr (houseD n ts), .fr (wordD w)] = [.no, .fr (houseD n ts), .fr (wordD w)] := rfl
  rw [cs, c, hl] at hc
  simp only [g_images, F_images, s_denF, s_startR, List.map_cons, List.map_nil, List.length_cons, List.length_nil, Nat.reduceAdd, Nat.reduceSub, List.replicate, List.append_nil, s_retF, s_mapLst, hc, Option.bind_some, Option.map_some, s_outR, Nat.zero_add]
  simp only [rowsD, imgM, List.map_map, Function.comp_def]
theorem wsign_val (n : Int) : g_whole_sign [.int n] = some (.int (M02.wsgn n)) := by
  unfold M02.wsgn
  by_cases h : 0 < n
  · simp [g_whole_sign, F_whole_sign, h]
  · by_cases h2 : n < 0
    · simp [g_whole_sign, F_whole_sign, h, h2]
    · simp [g_whole_sign, F_whole_sign, h, h2]
theorem wsgn_bd (n : Int) : -1 ≤ M02.wsgn n ∧ M02.wsgn n ≤ 1 := by rcases M02.wsgn_cases n with ⟨_, e⟩ | ⟨_, e⟩ | ⟨_, e⟩ <;> rw [e] <;> decide
theorem sign_val {x : Gd} (ha : x.1.natAbs < big) (hb : x.2.natAbs < big) : g_sign [gD x] = some (.int (sgnG x)) := by
  obtain ⟨a, b⟩ := x
  simp only at ha hb
  have m1 := mulD_ok (mulOk_big ha ha)
  have m2 := mulD_ok (mulOk_big ha hb)
  have m3 := mulD_ok (mulOk_big hb hb)
  have wa := wsgn_bd a
  have wb := wsgn_bd b
  have m4 : mulD (.int (M02.wsgn a)) (.int (M02.wsgn b)) = _ := mulD_ok (mulOk_l (by omega) (by omega))
  have m5 : ∀ z, mulD (.int (M02.wsgn a)) (.int z) = _ := fun z => mulD_ok (mulOk_l (by omega) (by omega))
  unfold sgnG M02.sgn
  by_cases h : 0 ≤ M02.wsgn a * M02.wsgn b
  · simp [g_sign, F_sign, gD, ix0, ix1, wsign_val, h, m4]
  · simp [g_sign, F_sign, gD, ix0, ix1, wsign_val, h, m4, m5, m1, m2, m3]
def Fit (r : List Gd) : Prop := ∀ x ∈ r, x.1.natAbs < big ∧ x.2.natAbs < big
def hasS (s : Int) (r : List Gd) : Bool := r.any fun x => decide (sgnG x = s)
theorem in_signs (neg : Bool) (s : Int) (r : List Gd) : inD neg (.int s) (.lst ((r.map sgnG).map D.int)) = some (.bl (xor neg (hasS s r))) := by
  have hd : depL ((r.map sgnG).map D.int) ≤ 100 := Nat.le_trans (depL_le (k := 0) fun d hd => by
    obtain ⟨x, _, rfl⟩ := List.mem_map.mp hd
    simp [dep]) (by decide)
  show (if _ then _ else _) = _
  rw [if_pos hd]
  congr 3
  unfold hasS
  rw [List.map_map, List.any_map]
  rfl
theorem map_range_get {α β : Type} (f : α → β) (l : List α) (z : α) : (List.range l.length).map (fun k => f (l.getD k z)) = l.map f := by
  apply List.ext_getElem?
  intro k
  rw [List.getElem?_map, List.getElem?_map]
  by_cases h : k < l.length
  · rw [List.getElem?_range h]
    simp [List.getD_eq_getElem?_getD, h]
  · rw [List.getElem?_eq_none (by simpa using h), List.getElem?_eq_none (by omega)]
    rfl
theorem signs_comp {r : List Gd} (hr : r.length ≤ 100) {g : List D → Option D} (hg : ∀ x ∈ r, g [gD x] = some (.int (sgnG x))) : compGo (nameG 0) ttF (appF g (consA (vF 0) nilA)) (r.map gD) [.no] = some ((r.map sgnG).map D.int) := by
  have c := comp1 (f := appF g (consA (vF 0) nilA)) (C := []) (φ := fun k => D.int (sgnG (r.getD k (0, 0)))) (r.map gD) 0 .no (fun k d hk => by
    rw [List.getElem?_map] at hk
    cases e : r[k]? with
    | none => rw [e] at hk; cases hk
    | some x =>
      rw [e] at hk
      cases hk
      have := hg x (List.mem_of_getElem? e)
      simp only [s_appF, s_consA, s_nilA, s_vF, List.getElem?_cons_zero, Option.bind_some, this, Nat.zero_add, List.getD_eq_getElem?_getD, e, Option.getD_some])
  rw [c]
  have := map_range_get (fun x => D.int (sgnG x)) r (0, 0)
  simp only [List.length_map, Nat.zero_add, List.map_map] at this ⊢
  rw [this]
  rfl
def abvM (r : List Gd) : Bool := hasS 1 r && !hasS (-1) r
def blwM (r : List Gd) : Bool := hasS (-1) r && !hasS 1 r
theorem below_val {r : List Gd} (hr : r.length ≤ 100) (hf : Fit r) : g_is_below [rowD r] = some (.bl (blwM r)) := by
  have c := signs_comp hr (g := g_sign) fun x hx => sign_val (hf x hx).1 (hf x hx).2
  have i1 := in_signs false (-1) r
  have i2 := in_signs true 1 r
  have hi : seqItems (vF 0) [.fr (rowD r), .no] = some (r.map gD) := rfl
  have hc := compF_ok (n := 1) (caps := []) (γ := nameG 0) (ft := ttF) (f := appF g_sign (consA (vF 0) nilA)) hi (szl (by simpa using hr))
  have cs : compS 1 [] [.fr (rowD r), .no] = [.no] := rfl
  rw [cs, c] at hc
  simp only [g_is_below, F_is_below, s_denF, s_startR, List.map_cons, List.map_nil, List.length_cons, List.length_nil, Nat.reduceAdd, Nat.reduceSub, List.replicate, List.cons_append, List.nil_append, s_seqF, s_asgF, s_mapLst, hc, Option.map_some, Option.bind_some, List.set_cons_succ, List.set_cons_zero, s_retF, s_andV, s_bind2, s_cF, s_vF, List.getElem?_cons_zero, List.getElem?_cons_succ, i1, i2, s_bind1, s_neg, Bool.false_xor, Bool.true_xor]
  unfold blwM
  cases hasS (-1) r <;> rfl
theorem above_val {r : List Gd} (hr : r.length ≤ 100) (hf : Fit r) : g_is_above [rowD r] = some (.bl (abvM r)) := by
  have c := signs_comp hr (g := g_sign) fun x hx => sign_val (hf x hx).1 (hf x hx).2
  have i1 := in_signs false 1 r
  have i2 := in_signs true (-1) r
  have hi : seqItems (vF 0) [.fr (rowD r), .no] = some (r.map gD) := rfl
  have hc := compF_ok (n := 1) (caps := []) (γ := nameG 0) (ft := ttF) (f := appF g_sign (consA (vF 0) nilA)) hi (szl (by simpa using hr))
  have cs : compS 1 [] [.fr (rowD r), .no] = [.no] := rfl
  rw [cs, c] at hc
  simp only [g_is_above, F_is_above, s_denF, s_startR, List.map_cons, List.map_nil, List.length_cons, List.length_nil, Nat.reduceAdd, Nat.reduceSub, List.replicate, List.cons_append, List.nil_append, s_seqF, s_asgF, s_mapLst, hc, Option.map_some, Option.bind_some, List.set_cons_succ, List.set_cons_zero, s_retF, s_andV, s_bind2, s_cF, s_vF, List.getElem?_cons_zero, List.getElem?_cons_succ, i1, i2, s_bind1, s_neg, Bool.false_xor, Bool.true_xor]
  unfold abvM
  cases hasS 1 r <;> rfl
theorem lsign_val {x : Gd} (ha : x.1.natAbs ≤ 2 ^ 700) (hb : x.2.natAbs ≤ 2 ^ 700) : g_l_sign [gD x] = some (.int (sgnG x)) := by
  obtain ⟨a, b⟩ := x
  simp only at ha hb
  have es : sgnG (a, b) = lawSgn2 a b := by rw [lawSgn2_eq, ← M02.sgn_law]; rfl
  rw [es]
  have hP : (2 : Nat) ^ 710 = 2 ^ 700 * 2 ^ 10 := Nat.pow_add 2 700 10
  have h10 : (2 : Nat) ^ 10 = 1024 := by decide
  have hpos : 0 < (2 : Nat) ^ 700 := Nat.pow_pos (by decide)
  have ht : (2 * a + b).natAbs < big := lt_big (k := 710) (by rw [hP, h10]; generalize (2 : Nat) ^ 700 = P at *; omega) (by decide)
  have h5 : (5 * b).natAbs < big := lt_big (k := 710) (by rw [hP, h10]; generalize (2 : Nat) ^ 700 = P at *; omega) (by decide)
  have hb' : b.natAbs < big := lt_big (k := 710) (by rw [hP, h10]; generalize (2 : Nat) ^ 700 = P at *; omega) (by decide)
  have m1 : mulD (.int 2) (.int a) = some (.int (2 * a)) := mulD_ok (mulOk_l (by decide) (by decide))
  have m2 : mulD (.int (2 * a + b)) (.int (2 * a + b)) = some (.int ((2 * a + b) * (2 * a + b))) := mulD_ok (mulOk_big ht ht)
  have m3 : mulD (.int 5) (.int b) = some (.int (5 * b)) := mulD_ok (mulOk_l (by decide) (by decide))
  have m4 : mulD (.int (5 * b)) (.int b) = some (.int (5 * b * b)) := mulD_ok (mulOk_big h5 hb')
  clear ha hb hP hpos ht h5 hb' es
  unfold lawSgn2
  generalize hp : 2 * a + b = p at m2
  generalize hpp : p * p = pp at m2
  generalize hbb : 5 * b * b = bb at m4
  have i0 : ixD (gD (a, b)) (.int 0) = some (.int a) := ix0
  have i1 : ixD (gD (a, b)) (.int 1) = some (.int b) := ix1
  have z2 : 2 ≤ sizeLine := szl (by decide)
  have l0 : ixD (.lst [.int (-1), .int 1]) (.int 0) = some (.int (-1)) := by simp [ixD, atI, ixN]
  have l1 : ixD (.lst [.int (-1), .int 1]) (.int 1) = some (.int 1) := by simp [ixD, atI, ixN]
  by_cases c1 : 0 ≤ p ∧ 0 ≤ b
  · by_cases c2 : 0 < p + b
    · simp [g_l_sign, F_l_sign, i0, i1, m1, hp, c1, c2]
    · simp [g_l_sign, F_l_sign, i0, i1, m1, hp, c1, c2]
  · by_cases c2 : p ≤ 0 ∧ b ≤ 0
    · have c3 : ¬ (0 ≤ p ∧ 0 ≤ b) := c1
      by_cases c4 : 0 ≤ p
      · have c5 : ¬ 0 ≤ b := fun z => c1 ⟨c4, z⟩
        simp [g_l_sign, F_l_sign, i0, i1, m1, hp, c4, c5, c2]
      · simp [g_l_sign, F_l_sign, i0, i1, m1, hp, c4, c2]
    · by_cases c3 : 0 < p
      · have c4 : 0 ≤ p := by omega
        have c5 : ¬ 0 ≤ b := fun z => c1 ⟨c4, z⟩
        have c6 : ¬ p ≤ 0 := by omega
        by_cases c7 : bb < pp
        · simp [g_l_sign, F_l_sign, i0, i1, m1, hp, c4, c5, c6, c3, m2, m3, m4, hpp, hbb, c7, z2, l0, l1]
        · simp [g_l_sign, F_l_sign, i0, i1, m1, hp, c4, c5, c6, c3, m2, m3, m4, hpp, hbb, c7, z2, l0, l1]
      · have c4 : 0 < b := by omega
        have c5 : ¬ 0 ≤ p := fun z => c1 ⟨z, by omega⟩
        have c6 : p ≤ 0 := by omega
        have c7 : ¬ b ≤ 0 := by omega
        by_cases c8 : pp < bb
        · simp [g_l_sign, F_l_sign, i0, i1, m1, hp, c5, c6, c7, c3, m2, m3, m4, hpp, hbb, c8, z2, l0, l1]
        · simp [g_l_sign, F_l_sign, i0, i1, m1, hp, c5, c6, c7, c3, m2, m3, m4, hpp, hbb, c8, z2, l0, l1]
theorem less_val {c : Gd} (hc : -3 ≤ c.1 ∧ c.1 ≤ 2 ∧ -1 ≤ c.2 ∧ c.2 ≤ 0) {r s : List Gd} (hr : r.length = s.length) (hl : r.length ≤ 100) : g_less_by [rowD r, gD c, rowD s] = some (rowD (radd r (rsc (gneg c) s))) := by
  have hz : zipD (r.map gD) (s.map gD) = zipD (r.map gD) (s.map gD) := rfl
  have lz : (zipD (r.map gD) (s.map gD)).length = r.length := by rw [zipD_length]; simp; omega
  have cm := comp2 (f := appF g_plus (consA (vF 0) (consA (appF g_minus (consA (appF g_times (consA (vF 2) (consA (vF 1) nilA))) nilA)) nilA))) (C := [.fr (gD c)]) (φ := fun k => gD (gadd (r.getD k (0, 0)) (gneg (gmul c (s.getD k (0, 0)))))) (zipD (r.map gD) (s.map gD)) 0 .no .no (fun k d hk => by
    obtain ⟨x, y, e1, e2, rfl⟩ := zipD_get hk
    rw [List.getElem?_map] at e1 e2
    cases q1 : r[k]? with
    | none => rw [q1] at e1; cases e1
    | some a =>
      cases q2 : s[k]? with
      | none => rw [q2] at e2; cases e2
      | some b =>
        rw [q1] at e1
        rw [q2] at e2
        cases e1
        cases e2
        have m := times_val b hc
        have mi := minus_val (gmul c b)
        have pl := plus_val a (gneg (gmul c b))
        refine ⟨_, _, rfl, ?_⟩
        simp only [s_appF, s_consA, s_nilA, s_vF, List.getElem?_cons_succ, List.getElem?_cons_zero, Option.bind_some, m, mi, pl, Nat.zero_add, List.getD_eq_getElem?_getD, q1, q2, Option.getD_some])
  have hi : itemsZ (vF 0) (vF 2) [.fr (rowD r), .fr (gD c), .fr (rowD s)] = some (zipD (r.map gD) (s.map gD)) := by
    simp only [s_itemsZ, s_seqItems, s_vF, List.getElem?_cons_zero, List.getElem?_cons_succ, Option.bind_some, rowD, s_seqT]
  have hcf := compF_ok (n := 2) (caps := [1]) (γ := tupG 2 (consG (nameG 0) (consG (nameG 1) nilG))) (ft := ttF) (f := appF g_plus (consA (vF 0) (consA (appF g_minus (consA (appF g_times (consA (vF 2) (consA (vF 1) nilA))) nilA)) nilA))) hi (by rw [lz]; exact szl hl)
  have cs : compS 2 [1] [.fr (rowD r), .fr (gD c), .fr (rowD s)] = [.no, .no, .fr (gD c)] := rfl
  rw [cs, cm, lz] at hcf
  simp only [g_less_by, F_less_by, s_denF, s_startR, List.map_cons, List.map_nil, List.length_cons, List.length_nil, Nat.reduceAdd, Nat.reduceSub, List.replicate, List.append_nil, s_retF, s_appF, s_consA, s_mapLst, hcf, s_nilA, Option.bind_some, Option.map_some, s_tuL, s_outR, Nat.zero_add]
  have er : (List.range r.length).map (fun k => gD (gadd (r.getD k (0, 0)) (gneg (gmul c (s.getD k (0, 0)))))) = (radd r (rsc (gneg c) s)).map gD := by
    have h1 := map_range_get gD (radd r (rsc (gneg c) s)) (0, 0)
    rw [radd_length (by rw [rsc_length, hr])] at h1
    rw [← h1]
    apply List.map_congr_left
    intro k _
    rw [radd_get (by rw [rsc_length, hr]), rsc_get]
    congr 2
    simp only [gneg, gmul, Prod.mk.injEq]
    constructor <;> grind
  rw [er]
  rfl
theorem mir_sim (ts : List T3) {n i j : Nat} (hi : i < n) (hj : j < n) : mirM (pulls ts i) i (simM n j) = radd (simM n j) (rsc (gneg (pulls ts i j)) (simM n i)) := by
  have hl : (simM n j).length = (rsc (gneg (pulls ts i j)) (simM n i)).length := by rw [rsc_length, simM_length, simM_length]
  apply row_ext (by rw [mirM_length, radd_length hl])
  intro k hk
  rw [mirM_length, simM_length] at hk
  rw [mirM_get _ (by rw [simM_length]; exact hi), sumL_sim _ n j hj, radd_get hl, rsc_get, simM_get hi, simM_get hk, simM_get hk]
  by_cases c : k = i
  · subst c
    simp only [if_true, gmul_one]
  · simp only [c, if_false, gmul_zero, gadd_zero]
theorem img_behind (ts : List T3) {n : Nat} {w : List Nat} (hw : InW n w) {i j : Nat} (hi : i < n) (hj : j < n) : ledM (pulls ts) (w ++ [i]) (simM n j) = radd (ledM (pulls ts) w (simM n j)) (rsc (gneg (pulls ts i j)) (ledM (pulls ts) w (simM n i))) := by
  rw [ledM_append]
  show ledM (pulls ts) w (mirM (pulls ts i) i (simM n j)) = _
  rw [mir_sim ts hi hj, ledM_add _ _ (by rw [rsc_length, simM_length, simM_length]) (by rw [simM_length]; exact hw), ledM_sc _ _ _ (by rw [simM_length]; exact hw)]
theorem imgM_at (ts : List T3) {n : Nat} (w : List Nat) {i : Nat} (hi : i < n) : ixD (rowsD (imgM ts n w)) (.int i) = some (rowD (ledM (pulls ts) w (simM n i))) := by
  unfold rowsD
  apply at_natL
  simp [imgM, hi]
theorem behind_val (n : Nat) {ts : List T3} (hg : GoodT ts) {w : List Nat} (hn : n ≤ 100) (hw : InW n w) {i : Nat} (hi : i < n) : g_images_with_behind [houseD n ts, rowsD (imgM ts n w), .int i] = some (rowsD (imgM ts n (w ++ [i]))) := by
  have ei : enumD ((imgM ts n w).map rowD) = enumD ((imgM ts n w).map rowD) := rfl
  have le : (enumD ((imgM ts n w).map rowD)).length = n := by rw [enumD]; simp [imgM]
  have cm := comp2 (f := appF g_less_by (consA (vF 1) (consA (appF g_pull (consA (vF 2) (consA (vF 3) (consA (vF 0) nilA)))) (consA (bind2 ixD (vF 4) (vF 3)) nilA)))) (C := [.fr (houseD n ts), .fr (.int i), .fr (rowsD (imgM ts n w))]) (φ := fun j => rowD (ledM (pulls ts) (w ++ [i]) (simM n j))) (enumD ((imgM ts n w).map rowD)) 0 .no .no (fun k d hk => by
    have hk' : k < n := by
      have := (List.getElem?_eq_some_iff.mp hk).1
      rwa [le] at this
    have e1 : (enumD ((imgM ts n w).map rowD))[k]? = some (.tup [.int (k : Int), rowD (ledM (pulls ts) w (simM n k))]) := by
      simp [enumD, imgM, hk', List.getElem?_zipIdx]
    rw [e1] at hk
    cases hk
    have pv := pull_val n hg (i : Int) (k : Int)
    have ia := imgM_at ts w hi
    have lv := less_val (c := pullM ts i k) (pullM_small ts i k) (r := ledM (pulls ts) w (simM n k)) (s := ledM (pulls ts) w (simM n i)) (by rw [ledM_length, ledM_length, simM_length, simM_length]) (by rw [ledM_length, simM_length]; exact hn)
    have ib := img_behind ts hw hi hk'
    unfold pulls at ib lv
    rw [← ib] at lv
    refine ⟨_, _, rfl, ?_⟩
    unfold pulls at ia
    simp only [s_appF, s_consA, s_nilA, s_bind2, s_vF, List.getElem?_cons_succ, List.getElem?_cons_zero, Option.bind_some, pv, Nat.zero_add]
    unfold pulls
    rw [ia]
    simp only [Option.bind_some]
    exact lv)
  have hit : itemsE (vF 1) [.fr (houseD n ts), .fr (rowsD (imgM ts n w)), .fr (.int i)] = some (enumD ((imgM ts n w).map rowD)) := by
    simp only [s_itemsE, s_seqItems, s_vF, List.getElem?_cons_zero, List.getElem?_cons_succ, Option.bind_some, rowsD, s_seqL]
  have hcf := compF_ok (n := 2) (caps := [0, 2, 1]) (γ := tupG 2 (consG (nameG 0) (consG (nameG 1) nilG))) (ft := ttF) (f := appF g_less_by (consA (vF 1) (consA (appF g_pull (consA (vF 2) (consA (vF 3) (consA (vF 0) nilA)))) (consA (bind2 ixD (vF 4) (vF 3)) nilA)))) hit (by rw [le]; exact szl hn)
  have cs : compS 2 [0, 2, 1] [.fr (houseD n ts), .fr (rowsD (imgM ts n w)), .fr (.int i)] = [.no, .no, .fr (houseD n ts), .fr (.int i), .fr (rowsD (imgM ts n w))] := rfl
  rw [cs, cm, le] at hcf
  simp only [g_images_with_behind, F_images_with_behind, s_denF, s_startR, List.map_cons, List.map_nil, List.length_cons, List.length_nil, Nat.reduceAdd, Nat.reduceSub, List.replicate, List.append_nil, s_retF, s_mapLst, hcf, Option.bind_some, Option.map_some, s_outR, Nat.zero_add]
  simp only [rowsD, imgM, List.map_map, Function.comp_def]
theorem led_fit (ts : List T3) {n : Nat} (hn : n ≤ 6) {w : List Nat} (hw : w.length ≤ 100) (i : Nat) : ∀ x ∈ ledM (pulls ts) w (simM n i), x.1.natAbs ≤ 2 ^ 700 ∧ x.2.natAbs ≤ 2 ^ 700 := by
  have h := ledM_bd (ts := ts) (simM_bd n i) (by rw [simM_length]; exact hn) w
  have e : 1 * 32 ^ w.length ≤ 2 ^ 700 := by
    have h32 : (32 : Nat) = 2 ^ 5 := by decide
    rw [Nat.one_mul, h32, ← Nat.pow_mul]
    exact Nat.pow_le_pow_right (by decide) (by omega)
  intro x hx
  exact ⟨Nat.le_trans (h x hx).1 e, Nat.le_trans (h x hx).2 e⟩
theorem led_Fit (ts : List T3) {n : Nat} (hn : n ≤ 6) {w : List Nat} (hw : w.length ≤ 100) (i : Nat) : Fit (ledM (pulls ts) w (simM n i)) := fun x hx => by
  have h := led_fit ts hn hw i x hx
  exact ⟨lt_big (k := 701) (Nat.lt_of_le_of_lt h.1 (Nat.pow_lt_pow_right (by decide) (by decide))) (by decide), lt_big (k := 701) (Nat.lt_of_le_of_lt h.2 (Nat.pow_lt_pow_right (by decide) (by decide))) (by decide)⟩
theorem abvG_M (r : List Gd) : abvM r = abvG r := rfl
noncomputable def whB : FS := seqF (appendF 2 (appF g_is_above (consA (bind2 ixD (vF 3) (vF 4)) nilA))) (asgF 3 (appF g_images_with_behind (consA (vF 0) (consA (vF 3) (consA (vF 4) nilA)))))
theorem which_loop (n : Nat) {ts : List T3} (hg : GoodT ts) (hn : n ≤ 6) (W : D) : ∀ (w pre : List Nat) (T : List Bool) (s : Slot), InW n pre → InW n w → pre.length + w.length ≤ 100 → T.length + w.length ≤ 200 → ∃ s3 s4, loopF (nameG 4) whB (w.map fun (i : Nat) => .int (i : Int)) [.fr (houseD n ts), .fr W, .ol (T.map D.bl), .fr (rowsD (imgM ts n pre)), s] =
    some (.nx [.fr (houseD n ts), .fr W, .ol ((T ++ whichM ts n pre w).map D.bl), s3, s4])
  | [], pre, T, s, hp, hw, h1, h2 => ⟨_, _, by rw [whichM, List.append_nil]; rfl⟩
  | i :: w, pre, T, s, hp, hw, h1, h2 => by
    have hi : i < n := hw i List.mem_cons_self
    rw [List.length_cons] at h1 h2
    obtain ⟨s3, s4, e⟩ := which_loop n hg hn W w (pre ++ [i]) (T ++ [abvG (ledM (pulls ts) pre (simM n i))]) (.fr (.int i)) (hp.app (InW.one hi)) (fun k hk => hw k (List.mem_cons_of_mem _ hk)) (by rw [List.length_append, List.length_singleton]; omega) (by rw [List.length_append, List.length_singleton]; omega)
    refine ⟨s3, s4, ?_⟩
    have ia := imgM_at ts pre hi
    have av := above_val (r := ledM (pulls ts) pre (simM n i)) (by rw [ledM_length, simM_length]; omega) (led_Fit ts hn (by omega) i)
    rw [abvG_M] at av
    have bv := behind_val n hg (by omega) hp hi
    have z : (T.map D.bl).length < sizeLine := small1000 (by simp; omega)
    have em : (T ++ [abvG (ledM (pulls ts) pre (simM n i))]).map D.bl = T.map D.bl ++ [D.bl (abvG (ledM (pulls ts) pre (simM n i)))] := by simp
    rw [List.append_assoc, List.singleton_append] at e
    rw [whichM, List.map_cons]
    unfold loopF
    rw [em] at e
    simp only [whB, s_nameG, Option.bind_some, List.set_cons_succ, List.set_cons_zero, s_seqF, s_appendF, s_appF, s_consA, s_nilA, s_bind2, s_vF, List.getElem?_cons_succ, List.getElem?_cons_zero, ia, av, if_pos z, s_asgF, bv]
    unfold whB at e
    exact e
theorem which_val (n : Nat) {ts : List T3} (hg : GoodT ts) (hn : n ≤ 6) {w : List Nat} (hw : InW n w) (hl : w.length ≤ 100) : g_which_lengthen [houseD n ts, wordD w] = some (.lst ((whichM ts n [] w).map D.bl)) := by
  have w0 : D.tup [] = wordD [] := rfl
  have iv := pimages_val n hg (w := []) (by omega) (fun i hi => by cases hi)
  obtain ⟨s3, s4, e⟩ := which_loop n hg hn (wordD w) w [] [] .no (fun i hi => by cases hi) hw (by simpa using hl) (by simp; omega)
  have z0 : 0 ≤ sizeLine := Nat.zero_le _
  rw [List.map_nil, List.nil_append] at e
  unfold g_which_lengthen F_which_lengthen
  unfold whB at e
  simp only [s_denF, s_startR, List.map_cons, List.map_nil, List.length_cons, List.length_nil, Nat.reduceAdd, Nat.reduceSub, List.replicate, List.cons_append, List.nil_append, s_seqF, s_asgN, s_lstF, s_nilA, Option.bind_some, if_pos z0, List.set_cons_succ, List.set_cons_zero, s_asgF, s_appF, s_consA, s_vF, s_tupF, List.getElem?_cons_zero, List.getElem?_cons_succ, w0, iv, s_forF, s_seqItems]
  have sq : seqOf (wordD w) = some (w.map fun (i : Nat) => .int (i : Int)) := rfl
  simp only [sq, Option.bind_some]
  rw [e]
  simp only [Option.bind_some, s_frzF, s_frz, s_retF, s_vF, List.getElem?_cons_zero, List.getElem?_cons_succ, List.set_cons_succ, List.set_cons_zero, s_outR]
theorem isshort_val (n : Nat) {ts : List T3} (hg : GoodT ts) (hn : n ≤ 6) {w : List Nat} (hw : InW n w) (hl : w.length ≤ 100) : g_is_short [houseD n ts, wordD w] = some (.bl ((whichM ts n [] w).all id)) := by
  have wv := which_val n hg hn hw hl
  simp only [g_is_short, F_is_short, s_denF, s_startR, List.map_cons, List.map_nil, List.length_cons, List.length_nil, Nat.reduceAdd, Nat.reduceSub, List.replicate, List.append_nil, s_retF, s_appF, s_consA, s_nilA, s_vF, List.getElem?_cons_zero, List.getElem?_cons_succ, Option.bind_some, wv, s_all, s_outR]
theorem sumB_sum : ∀ l : List Bool, (l.map fun b => if b = true then (1 : Int) else -1).sum = sumB l
  | [] => rfl
  | b :: l => by rw [List.map_cons, List.sum_cons, sumB_sum l]; rfl
theorem length_val (n : Nat) {ts : List T3} (hg : GoodT ts) (hn : n ≤ 6) {w : List Nat} (hw : InW n w) (hl : w.length ≤ 100) : g_length [houseD n ts, wordD w] = some (.int (sumB (whichM ts n [] w))) := by
  have wv := which_val n hg hn hw hl
  generalize hT : whichM ts n [] w = T at wv
  have hTl : T.length = w.length := by rw [← hT, whichM_length]
  have cm := comp1 (f := ifF (blF (vF 0)) (cF (.int 1)) (bind1 negD (cF (.int 1)))) (C := []) (φ := fun k => D.int (if T.getD k false = true then 1 else -1)) (T.map D.bl) 0 .no (fun k d hk => by
    rw [List.getElem?_map] at hk
    cases e : T[k]? with
    | none => rw [e] at hk; cases hk
    | some b =>
      rw [e] at hk
      cases hk
      cases b <;> simp [List.getD_eq_getElem?_getD, e])
  have hi : seqItems (appF g_which_lengthen (consA (vF 0) (consA (vF 1) nilA))) [.fr (houseD n ts), .fr (wordD w)] = some (T.map D.bl) := by
    simp only [s_seqItems, s_appF, s_consA, s_nilA, s_vF, List.getElem?_cons_zero, List.getElem?_cons_succ, Option.bind_some, wv, s_seqL]
  have hcf := compF_ok (n := 1) (caps := []) (γ := nameG 0) (ft := ttF) (f := ifF (blF (vF 0)) (cF (.int 1)) (bind1 negD (cF (.int 1)))) hi (by rw [List.length_map, hTl]; exact szl hl)
  have cs : compS 1 [] [.fr (houseD n ts), .fr (wordD w)] = [.no] := rfl
  rw [cs, cm] at hcf
  have er : (List.range (T.map D.bl).length).map (fun k => D.int (if T.getD (0 + k) false = true then 1 else -1)) = (T.map fun b => if b = true then (1 : Int) else -1).map D.int := by
    have := map_range_get (fun b : Bool => D.int (if b = true then 1 else -1)) T false
    simp only [List.length_map, Nat.zero_add, List.map_map]
    rw [this]
    rfl
  rw [er] at hcf
  simp only [g_length, F_length, s_denF, s_startR, List.map_cons, List.map_nil, List.length_cons, List.length_nil, Nat.reduceAdd, Nat.reduceSub, List.replicate, List.append_nil, s_retF, s_appF, s_consA, s_mapLst, hcf, s_nilA, Option.bind_some, Option.map_some, s_sum, sumB_sum, s_outR]
def optD : Option Nat → D
  | none => .non
  | some i => .int (i : Int)
theorem blwG_M (r : List Gd) : blwM r = blwG r := rfl
noncomputable def fbB : FS := ifS (blF (appF g_is_below (consA (vF 2) nilA))) (retF (vF 1)) nxF
theorem fb_loop (n : Nat) (ts : List T3) (hn : n ≤ 6) {u : List Nat} (hu : u.length ≤ 100) (R : D) : ∀ (m i : Nat) (s1 s2 : Slot), i + m = n → ∃ o, loopF (tupG 2 (consG (nameG 1) (consG (nameG 2) nilG))) fbB (enumK i (((List.range' i m).map fun j => ledM (pulls ts) u (simM n j)).map rowD)) [.fr R, s1, s2] = some o ∧
    outD ((some o).bind fun o => match o with | .nx ρ' => retF (cF .non) ρ' | o => some o) = some (optD ((List.range' i m).find? fun j => blwG (ledM (pulls ts) u (simM n j))))
  | 0, i, s1, s2, h => ⟨_, rfl, rfl⟩
  | m + 1, i, s1, s2, h => by
    obtain ⟨o, h1, h2⟩ := fb_loop n ts hn hu R m (i + 1) (.fr (.int i)) (.fr (rowD (ledM (pulls ts) u (simM n i)))) (by omega)
    have bv := below_val (r := ledM (pulls ts) u (simM n i)) (by rw [ledM_length, simM_length]; omega) (led_Fit ts hn hu i)
    rw [blwG_M] at bv
    rw [List.range'_succ, List.map_cons, List.map_cons]
    unfold enumK loopF
    by_cases c : blwG (ledM (pulls ts) u (simM n i)) = true
    · rw [c] at bv
      refine ⟨.rt (.int i), ?_, by rw [List.find?_cons_of_pos (by exact c)]; rfl⟩
      simp only [fbB, s_tupG, s_consG, s_nameG, s_nilG, List.length_cons, List.length_nil, Nat.reduceAdd, if_true, List.set_cons_succ, List.set_cons_zero, Option.bind_some, s_ifS, s_blF, s_appF, s_consA, s_nilA, s_vF, List.getElem?_cons_succ, List.getElem?_cons_zero, bv, s_retF]
    · rw [Bool.not_eq_true] at c
      rw [c] at bv
      refine ⟨o, ?_, by rw [List.find?_cons_of_neg (by simp [c])]; exact h2⟩
      simp only [fbB, s_tupG, s_consG, s_nameG, s_nilG, List.length_cons, List.length_nil, Nat.reduceAdd, if_true, List.set_cons_succ, List.set_cons_zero, Option.bind_some, s_ifS, s_blF, s_appF, s_consA, s_nilA, s_vF, List.getElem?_cons_succ, List.getElem?_cons_zero, bv, Bool.false_eq_true, if_false, s_nxF]
      unfold fbB at h1
      exact h1
theorem fb_val (n : Nat) (ts : List T3) (hn : n ≤ 6) {u : List Nat} (hu : u.length ≤ 100) : g_first_below [rowsD (imgM ts n u)] = some (optD (firstB ts n u)) := by
  obtain ⟨o, h1, h2⟩ := fb_loop n ts hn hu (rowsD (imgM ts n u)) n 0 .no .no (by omega)
  rw [← List.range_eq_range'] at h1 h2
  rw [← enumD_K] at h1
  have it : itemsE (vF 0) [.fr (rowsD (imgM ts n u)), .no, .no] = some (enumD (((List.range n).map fun j => ledM (pulls ts) u (simM n j)).map rowD)) := by
    simp only [s_itemsE, s_seqItems, s_vF, List.getElem?_cons_zero, Option.bind_some, rowsD, s_seqL]
    rfl
  unfold g_first_below F_first_below
  unfold fbB at h1
  simp only [s_denF, s_startR, List.map_cons, List.map_nil, List.length_cons, List.length_nil, Nat.reduceAdd, Nat.reduceSub, List.replicate, List.cons_append, List.nil_append, s_seqF, s_forF, it, Option.bind_some]
  rw [h1]
  exact h2
noncomputable def leB : FS := (seqF (appendF 2 (vF 4)) (seqF (asgF 3 (appF g_images_with_behind (consA (vF 0) (consA (vF 3) (consA (vF 4) nilA))))) (asgF 4 (appF g_first_below (consA (vF 3) nilA)))))
theorem le_loop (n : Nat) {ts : List T3} (hg : GoodT ts) (hn : n ≤ 6) (W : D) {u v : List Nat} (h : Lst ts n u v) : ∀ (T : List Nat) (k : Nat), InW n u → u.length + v.length ≤ 100 → T.length + v.length ≤ 100 → v.length < k → ∃ s3 s4, whileF (blF (bind2 (isD true) (vF 4) (cF .non))) leB k [.fr (houseD n ts), .fr W, .ol (T.map fun (i : Nat) => .int (i : Int)), .fr (rowsD (imgM ts n u)), .fr (optD (firstB ts n u))] =
    some (.nx [.fr (houseD n ts), .fr W, .ol ((T ++ v).map fun (i : Nat) => .int (i : Int)), s3, s4]) := by
  induction h with
  | @nil u h =>
    intro T k hu h1 h2 h3
    cases k with
    | zero => simp at h3
    | succ k =>
      refine ⟨.fr (rowsD (imgM ts n u)), .fr .non, ?_⟩
      rw [h, List.append_nil]
      rfl
  | @cons u v i h t ih =>
    intro T k hu h1 h2 h3
    rw [List.length_cons] at h1 h2 h3
    cases k with
    | zero => omega
    | succ k =>
      obtain ⟨hi, _, _⟩ := firstB_some h
      obtain ⟨s3, s4, e⟩ := ih (T ++ [i]) k (hu.app (InW.one hi)) (by rw [List.length_append, List.length_singleton]; omega) (by rw [List.length_append, List.length_singleton]; omega) (by omega)
      refine ⟨s3, s4, ?_⟩
      have bv := behind_val n hg (by omega) hu hi
      have fv := fb_val n ts hn (u := u ++ [i]) (by rw [List.length_append, List.length_singleton]; omega)
      have z : (T.map fun (i : Nat) => D.int (i : Int)).length < sizeLine := small1000 (by simp; omega)
      have nn : isD true (.int (i : Int)) .non = some (.bl true) := rfl
      have em : (T ++ [i]).map (fun (i : Nat) => D.int (i : Int)) = T.map (fun (i : Nat) => D.int (i : Int)) ++ [D.int (i : Int)] := by simp
      rw [em, List.append_assoc, List.singleton_append] at e
      rw [h]
      unfold whileF
      simp only [s_blF, s_bind2, s_vF, s_cF, List.getElem?_cons_succ, List.getElem?_cons_zero, Option.bind_some, optD, nn, if_true, leB, s_seqF, s_appendF, if_pos z, List.set_cons_succ, List.set_cons_zero, s_asgF, s_appF, s_consA, s_nilA, bv, fv]
      unfold leB at e
      exact e
theorem least_val (n : Nat) {ts : List T3} (hg : GoodT ts) (hn : n ≤ 6) {w v : List Nat} (hw : InW n w) (h : Lst ts n w.reverse v) (hl : w.length ≤ 50) (hv : v.length ≤ 50) : g_least [houseD n ts, wordD w] = some (wordD v) := by
  have iv := pimages_val n hg (w := w.reverse) (by omega) hw.rev
  have fv := fb_val n ts hn (u := w.reverse) (by rw [List.length_reverse]; omega)
  obtain ⟨s3, s4, e⟩ := le_loop n hg hn (wordD w) h [] 100000 hw.rev (by rw [List.length_reverse]; omega) (by simp; omega) (by omega)
  have z0 : 0 ≤ sizeLine := Nat.zero_le _
  have rt : ∀ ρ : Rho, ρ[1]? = some (.fr (wordD w)) → revT (vF 1) ρ = some (wordD w.reverse) := fun ρ hρ => by
    simp only [s_revT, s_vF, hρ, Option.bind_some, wordD]
    simp
  have rt' := rt [.fr (houseD n ts), .fr (wordD w), .ol [], .no, .no] rfl
  rw [List.map_nil, List.nil_append] at e
  unfold g_least F_least
  unfold leB at e
  generalize 100000 = FU at e ⊢
  simp only [s_denF, s_startR, List.map_cons, List.map_nil, List.length_cons, List.length_nil, Nat.reduceAdd, Nat.reduceSub, List.replicate, List.cons_append, List.nil_append, s_seqF, s_asgN, s_lstF, s_nilA, Option.bind_some, if_pos z0, List.set_cons_succ, List.set_cons_zero, s_asgF, s_appF, s_consA, rt', s_vF, List.getElem?_cons_zero, List.getElem?_cons_succ, iv, fv]
  rw [e]
  simp only [Option.bind_some, s_retF, s_appF, s_consA, s_nilA, s_vR, List.getElem?_cons_zero, List.getElem?_cons_succ, s_tuL, s_outR]
  rfl
theorem rowsD_dep (rs : List (List Gd)) : dep (rowsD rs) ≤ 100 := by
  have : depL (rs.map rowD) ≤ 2 := depL_le fun d hd => by
    obtain ⟨r, _, rfl⟩ := List.mem_map.mp hd
    have : depL (r.map gD) ≤ 1 := depL_le fun d hd => by
      obtain ⟨x, _, rfl⟩ := List.mem_map.mp hd
      simp [gD, dep, depL]
    unfold rowD dep
    omega
  unfold rowsD dep
  omega
theorem eqD_gD (x y : Gd) : eqD (gD x) (gD y) = decide (x = y) := by
  obtain ⟨a, b⟩ := x
  obtain ⟨c, d⟩ := y
  by_cases h : a = c <;> by_cases h' : b = d <;> simp [gD, eqD, eqDL, h, h']
theorem eqDL_map {α : Type} [DecidableEq α] (f : α → D) (hf : ∀ x y, eqD (f x) (f y) = decide (x = y)) : ∀ r s : List α, eqDL (r.map f) (s.map f) = decide (r = s)
  | [], [] => by simp [eqDL]
  | [], y :: s => by simp [eqDL]
  | x :: r, [] => by simp [eqDL]
  | x :: r, y :: s => by
    simp only [List.map_cons, eqDL, hf, eqDL_map f hf r s]
    by_cases h : x = y <;> by_cases h' : r = s <;> simp [h, h']
theorem eqD_rowD (r s : List Gd) : eqD (rowD r) (rowD s) = decide (r = s) := by
  unfold rowD eqD
  exact eqDL_map gD eqD_gD r s
theorem wordD_add (u v : List Nat) (h : u.length + v.length ≤ 100) : addX (wordD u) (wordD v) = some (wordD (u ++ v)) := by
  show (if _ then _ else _) = _
  rw [if_pos (szl (by simp; omega))]
  simp [wordD]
def rl (ts : List T3) (n : Nat) : List Nat → List Nat → List (List Gd)
  | _, [] => []
  | pre, m :: l => ledM (pulls ts) pre (simM n m) :: rl ts n (pre ++ [m]) l
def rootsL (ts : List T3) (n : Nat) (v : List Nat) : List (List Gd) := (List.range v.length).reverse.map (rootAt ts n v)
theorem rl_roots (ts : List T3) (n : Nat) (v : List Nat) : ∀ (l pre : List Nat), v.reverse = pre ++ l → rl ts n pre l = (List.range l.length).reverse.map (rootAt ts n v)
  | [], pre, h => rfl
  | m :: l, pre, h => by
    have hv : v = l.reverse ++ m :: pre.reverse := by
      have := congrArg List.reverse h
      rw [List.reverse_reverse] at this
      rw [this]
      simp
    have e1 : rootAt ts n v l.length = ledM (pulls ts) pre (simM n m) := by
      unfold rootAt
      have d1 : v.drop (l.length + 1) = pre.reverse := by
        rw [hv]
        have : l.length + 1 = (l.reverse ++ [m]).length := by simp
        rw [this]
        have e : l.reverse ++ m :: pre.reverse = (l.reverse ++ [m]) ++ pre.reverse := by simp
        rw [e, List.drop_left]
      have d2 : v.getD l.length 0 = m := by
        rw [hv, List.getD_eq_getElem?_getD, List.getElem?_append_right (by simp)]
        simp
      rw [d1, d2, List.reverse_reverse]
    rw [rl, rl_roots ts n v l (pre ++ [m]) (by rw [h]; simp), List.length_cons, List.range_succ, List.reverse_append, List.reverse_singleton, List.singleton_append, List.map_cons, e1]
theorem rl_all (ts : List T3) (n : Nat) (v : List Nat) : rl ts n [] v.reverse = rootsL ts n v := by
  have := rl_roots ts n v v.reverse [] rfl
  rw [List.length_reverse] at this
  exact this
noncomputable def tuB : FS := seqF (appendF 3 (bind2 ixD (vF 4) (vF 5))) (asgF 4 (appF g_images_with_behind (consA (vF 0) (consA (vF 4) (consA (vF 5) nilA)))))
theorem tu_loop (n : Nat) {ts : List T3} (hg : GoodT ts) (hn : n ≤ 6) (W V : D) : ∀ (l pre : List Nat) (T : List (List Gd)) (s : Slot), InW n pre → InW n l → T.length + l.length ≤ 100 → ∃ s4 s5, loopF (nameG 5) tuB (l.map fun (i : Nat) => .int (i : Int)) [.fr (houseD n ts), .fr W, .fr V, .ol (T.map rowD), .fr (rowsD (imgM ts n pre)), s] =
    some (.nx [.fr (houseD n ts), .fr W, .fr V, .ol ((T ++ rl ts n pre l).map rowD), s4, s5])
  | [], pre, T, s, hp, hl, h => ⟨_, _, by rw [rl, List.append_nil]; rfl⟩
  | i :: l, pre, T, s, hp, hl, h => by
    have hi : i < n := hl i List.mem_cons_self
    rw [List.length_cons] at h
    obtain ⟨s4, s5, e⟩ := tu_loop n hg hn W V l (pre ++ [i]) (T ++ [ledM (pulls ts) pre (simM n i)]) (.fr (.int i)) (hp.app (InW.one hi)) (fun k hk => hl k (List.mem_cons_of_mem _ hk)) (by rw [List.length_append, List.length_singleton]; omega)
    refine ⟨s4, s5, ?_⟩
    have ia := imgM_at ts pre hi
    have bv := behind_val n hg (by omega) hp hi
    have z : (T.map rowD).length < sizeLine := small1000 (by simp; omega)
    have em : (T ++ [ledM (pulls ts) pre (simM n i)]).map rowD = T.map rowD ++ [rowD (ledM (pulls ts) pre (simM n i))] := by simp
    rw [List.append_assoc, List.singleton_append, em] at e
    rw [rl, List.map_cons]
    unfold loopF
    simp only [tuB, s_nameG, Option.bind_some, List.set_cons_succ, List.set_cons_zero, s_seqF, s_appendF, s_bind2, s_vF, List.getElem?_cons_succ, List.getElem?_cons_zero, ia, if_pos z, s_asgF, s_appF, s_consA, s_nilA, bv]
    unfold tuB at e
    exact e
theorem turned_val (n : Nat) {ts : List T3} (hg : GoodT ts) (hn : n ≤ 6) {w v : List Nat} (hw : InW n w) (hv : InW n v) (hl : w.length ≤ 40) (hvl : v.length ≤ 40)
    (h : ((whichM ts n [] w).all id = true ∧ v = w) ∨ ((whichM ts n [] w).all id = false ∧ Lst ts n w.reverse v)) : g_turned [houseD n ts, wordD w] = some (rowsD (rootsL ts n v)) := by
  have sv := isshort_val n hg hn hw (by omega)
  have w0 : D.tup [] = wordD [] := rfl
  have iv := pimages_val n hg (w := []) (by omega) (fun i hi => by cases hi)
  have z0 : 0 ≤ sizeLine := Nat.zero_le _
  obtain ⟨s4, s5, e⟩ := tu_loop n hg hn (wordD w) (wordD v) v.reverse [] [] .no (fun i hi => by cases hi) hv.rev (by simp; omega)
  rw [List.map_nil, List.nil_append, rl_all] at e
  have er : (v.map fun (i : Nat) => D.int (i : Int)).reverse = v.reverse.map fun (i : Nat) => D.int (i : Int) := by simp
  have first : ifF (blF (appF g_is_short (consA (vF 0) (consA (vF 1) nilA)))) (vF 1) (appF g_least (consA (vF 0) (consA (vF 1) nilA))) [.fr (houseD n ts), .fr (wordD w), .no, .no, .no, .no] = some (wordD v) := by
    rcases h with ⟨h1, rfl⟩ | ⟨h1, h2⟩
    · rw [h1] at sv
      simp only [s_ifF, s_blF, s_appF, s_consA, s_nilA, s_vF, List.getElem?_cons_zero, List.getElem?_cons_succ, Option.bind_some, sv, if_true]
    · rw [h1] at sv
      have lv := least_val n hg hn hw h2 (by omega) (by omega)
      simp only [s_ifF, s_blF, s_appF, s_consA, s_nilA, s_vF, List.getElem?_cons_zero, List.getElem?_cons_succ, Option.bind_some, sv, Bool.false_eq_true, if_false, lv]
  unfold g_turned F_turned
  unfold tuB at e
  simp only [s_denF, s_startR, List.map_cons, List.map_nil, List.length_cons, List.length_nil, Nat.reduceAdd, Nat.reduceSub, List.replicate, List.cons_append, List.nil_append]
  rw [s_seqF, s_asgF, first]
  simp only [s_seqF, s_asgN, s_lstF, s_nilA, Option.bind_some, if_pos z0, List.set_cons_succ, List.set_cons_zero, s_asgF, s_appF, s_consA, s_vF, s_tupF, List.length_nil, List.getElem?_cons_zero, List.getElem?_cons_succ, w0, iv, s_forF, s_itemsB]
  simp only [wordD, er, Option.bind_some]
  unfold wordD at e
  rw [e]
  simp only [Option.bind_some, s_frzF, s_frz, s_retF, s_vF, List.getElem?_cons_zero, List.getElem?_cons_succ, List.set_cons_succ, List.set_cons_zero, s_outR]
  rfl
theorem in_rowsN (neg : Bool) (L : List (List Gd)) (r : List Gd) : inD neg (rowD r) (rowsD L) = some (.bl (xor neg (L.any fun s => decide (s = r)))) := by
  have hd : depL (L.map rowD) ≤ 100 := by
    have h := rowsD_dep L
    unfold rowsD dep at h
    omega
  show (if _ then _ else _) = _
  rw [if_pos hd, List.any_map]
  congr 3
  congr 1
  funext s
  exact eqD_rowD s r
theorem compGM {α : Type} {f : FE} {C : List Slot} {d φ : α → D} : ∀ (l : List α) (s : Slot), (∀ x ∈ l, f (.fr (d x) :: C) = some (φ x)) → compGo (nameG 0) ttF f (l.map d) (s :: C) = some (l.map φ)
  | [], _, _ => rfl
  | i :: l, s, h => by
    have h0 := h i List.mem_cons_self
    have ih := compGM (φ := φ) l (.fr (d i)) fun j hj => h j (List.mem_cons_of_mem _ hj)
    rw [List.map_cons]
    unfold compGo
    simp only [s_nameG, List.set_cons_zero, Option.bind_some, s_ttF, if_true, h0, ih]
    rfl
theorem about_val {r : List Gd} (hr : r.length ≤ 100) : g_l_turned_about [rowD r] = some (rowD (negR r)) := by
  have c := compGM (f := tupF (consA (bind1 negD (bind2 ixD (vF 0) (cF (.int 0)))) (consA (bind1 negD (bind2 ixD (vF 0) (cF (.int 1)))) nilA))) (C := []) (d := gD) (φ := fun x => gD (gneg x)) r .no (fun x _ => by simp [gD, ix0, ix1, gneg, sizeLine_eq])
  have hi : seqItems (vF 0) [.fr (rowD r)] = some (r.map gD) := rfl
  have hc := compF_ok (n := 1) (caps := []) (γ := nameG 0) (ft := ttF) (f := tupF (consA (bind1 negD (bind2 ixD (vF 0) (cF (.int 0)))) (consA (bind1 negD (bind2 ixD (vF 0) (cF (.int 1)))) nilA))) hi (szl (by simpa using hr))
  have cs : compS 1 [] [.fr (rowD r)] = [.no] := rfl
  rw [cs, c] at hc
  have em : r.map (fun x => gD (gneg x)) = (negR r).map gD := by unfold negR; rw [List.map_map]; rfl
  rw [em] at hc
  unfold g_l_turned_about F_l_turned_about
  simp only [s_denF, s_startR, List.map_cons, List.map_nil, List.length_cons, List.length_nil, Nat.reduceAdd, Nat.reduceSub, List.replicate, List.cons_append, List.nil_append, List.append_nil, s_retF, s_appF, s_consA, s_mapLst, hc, Option.map_some, Option.bind_some, s_nilA]
  simp [rowD]
theorem sort_val {L : List (List Gd)} (h : L.length < 64) (hne : ∀ r ∈ L, r ≠ []) {fa : FA} {ρ : Rho} (hf : fa ρ = some [rowsD L]) : mapLst (sortRN fa) ρ = some (rowsD (sortR L)) := by
  have e : rowsOf (L.map rowD) = some L := rowsOf_map L
  have hs : sortRN fa ρ = some ((sortR L).map rowD) := by
    rw [s_sortRN, hf]
    show (rowsOf (L.map rowD)).bind _ = _
    rw [e]
    show (if _ then _ else _) = _
    rw [if_pos ⟨h, hne⟩]
    rfl
  rw [s_mapLst, hs]
  rfl
theorem turned_tell (n : Nat) {ts : List T3} (hg : GoodT ts) (hn : n ≤ 6) {w : List Nat} (hw : InW n w) (hl : w.length ≤ 16) : ∃ L, g_turned [houseD n ts, wordD w] = some (rowsD L) ∧ IsN ts n w L ∧ L.length ≤ 16 ∧ (∀ l, Lth ts n w l → L.length = l) ∧ ∀ r ∈ L, r.length = n ∧ ∃ x i, x.length ≤ 16 ∧ r = ledM (pulls ts) x (simM n i) := by
  obtain ⟨vl, l, v1, v2, v3, v4, v5, v6⟩ := least_ex hg hw
  have hLw : Lth ts n w l := v4.cong v3
  have hsum := sum_len0 hg hw hLw
  obtain ⟨v, hv3, hvS, hvl, hvlen, hev⟩ : ∃ v, (((whichM ts n [] w).all id = true ∧ v = w) ∨ ((whichM ts n [] w).all id = false ∧ Lst ts n w.reverse v)) ∧ Sh ts n v ∧ v.length ≤ 16 ∧ v.length = l ∧ Eqv (pulls ts) n v w := by
    cases c : (whichM ts n [] w).all id with
    | true =>
      have hs := (sumB_le (whichM ts n [] w)).2.1.mpr c
      rw [whichM_length, hsum] at hs
      have hs' : l = w.length := by omega
      exact ⟨w, .inl ⟨rfl, rfl⟩, ⟨hw, by rw [← hs']; exact hLw⟩, hl, hs'.symm, Eqv.rfl' _⟩
    | false => exact ⟨vl, .inr ⟨rfl, v1⟩, ⟨v2, by rw [v5]; exact v4⟩, by omega, v5, v3⟩
  have tv := turned_val n hg hn hw hvS.1 (by omega) (by omega) hv3
  have hN := isN_of hg hvS hev
  refine ⟨rootsL ts n v, tv, hN, by unfold rootsL; simpa using hvl, fun l' hl' => ?_, fun r hr => ⟨((hN.mem r).mp hr).1.len, ?_⟩⟩
  · have := hl'.uniq hLw
    unfold rootsL
    simp
    omega
  · unfold rootsL at hr
    simp only [List.mem_map, List.mem_reverse, List.mem_range] at hr
    obtain ⟨a, ha, rfl⟩ := hr
    exact ⟨_, _, by simp; omega, rfl⟩
noncomputable def d1B : FS := ifS (blF (bind2 (inD true) (appF g_l_turned_about (consA (appF g_l_led (consA (vF 0) (consA (vF 2) (consA (vF 6) nilA)))) nilA)) (vF 3))) (appendF 5 (vF 6)) nxF
theorem d1_loop (n : Nat) {ts : List T3} (hg : GoodT ts) (hn : n ≤ 6) {v : List Nat} (hv : InW n v) (A : List (List Gd)) (a1 a4 a7 : Slot) : ∀ (L T : List (List Gd)) (s6 : Slot), (∀ r ∈ L, r.length = n) → T.length + L.length ≤ 100 →
    ∃ s6', loopF (nameG 6) d1B (L.map rowD) [.fr (houseD n ts), a1, .fr (wordD v), .fr (rowsD A), a4, .ol (T.map rowD), s6, a7] = some (.nx [.fr (houseD n ts), a1, .fr (wordD v), .fr (rowsD A), a4, .ol ((T ++ L.filter fun r => !(A.any fun s => decide (s = negR (ledM (pulls ts) v r)))).map rowD), s6', a7])
  | [], T, s6, _, _ => ⟨s6, by rw [List.filter_nil, List.append_nil]; rfl⟩
  | r :: L, T, s6, h, hT => by
    have hr := h r List.mem_cons_self
    rw [List.length_cons] at hT
    have lv := led_val n hg (w := v) (r := r) (by omega) hr hv
    have av := about_val (r := ledM (pulls ts) v r) (by rw [ledM_length]; omega)
    have iv := in_rowsN true A (negR (ledM (pulls ts) v r))
    have z : (T.map rowD).length < sizeLine := small1000 (by simp; omega)
    rw [List.map_cons]
    unfold loopF
    cases c : A.any fun s => decide (s = negR (ledM (pulls ts) v r)) with
    | true =>
      rw [c] at iv
      obtain ⟨s6', e⟩ := d1_loop n hg hn hv A a1 a4 a7 L T (.fr (rowD r)) (fun x hx => h x (List.mem_cons_of_mem _ hx)) (by omega)
      refine ⟨s6', ?_⟩
      rw [List.filter_cons_of_neg (by simp [c])]
      simp only [d1B, s_nameG, Option.bind_some, List.set_cons_succ, List.set_cons_zero, s_ifS, s_blF, s_bind2, s_appF, s_consA, s_nilA, s_vF, List.getElem?_cons_succ, List.getElem?_cons_zero, lv, av, iv, Bool.true_xor, Bool.not_true, Bool.false_eq_true, if_false, s_nxF]
      unfold d1B at e
      exact e
    | false =>
      rw [c] at iv
      obtain ⟨s6', e⟩ := d1_loop n hg hn hv A a1 a4 a7 L (T ++ [r]) (.fr (rowD r)) (fun x hx => h x (List.mem_cons_of_mem _ hx)) (by rw [List.length_append, List.length_singleton]; omega)
      refine ⟨s6', ?_⟩
      have em : (T ++ [r]).map rowD = T.map rowD ++ [rowD r] := by simp
      rw [List.append_assoc, List.singleton_append, em] at e
      rw [List.filter_cons_of_pos (by simp [c])]
      simp only [d1B, s_nameG, Option.bind_some, List.set_cons_succ, List.set_cons_zero, s_ifS, s_blF, s_bind2, s_appF, s_consA, s_nilA, s_vF, List.getElem?_cons_succ, List.getElem?_cons_zero, lv, av, iv, Bool.true_xor, Bool.not_false, if_true, s_appendF, if_pos z]
      unfold d1B at e
      exact e
noncomputable def d2B : FS := seqF (asgF 7 (appF g_l_led (consA (vF 0) (consA (revF (vF 2) (bind1 negD (cF (.int 1)))) (consA (vF 6) nilA))))) (ifS (blF (bind2 (inD false) (cF (.int 1)) (mapLst (compF 1 [] (seqItems (vF 7)) (nameG 0) ttF (appF g_l_sign (consA (vF 0) nilA)))))) (appendF 5 (vF 7)) nxF)
theorem d2_loop (n : Nat) {ts : List T3} (hg : GoodT ts) (hn : n ≤ 6) {v : List Nat} (hv : InW n v) (hvl : v.length ≤ 16) (a1 a3 a4 : Slot) : ∀ (L T : List (List Gd)) (s6 s7 : Slot), (∀ r ∈ L, r.length = n ∧ ∃ x i, x.length ≤ 16 ∧ r = ledM (pulls ts) x (simM n i)) → T.length + L.length ≤ 100 →
    ∃ s6' s7', loopF (nameG 6) d2B (L.map rowD) [.fr (houseD n ts), a1, .fr (wordD v), a3, a4, .ol (T.map rowD), s6, s7] = some (.nx [.fr (houseD n ts), a1, .fr (wordD v), a3, a4, .ol ((T ++ (L.map (ledM (pulls ts) v.reverse)).filter fun r => hasG 1 r).map rowD), s6', s7'])
  | [], T, s6, s7, _, _ => ⟨s6, s7, by simp [loopF]⟩
  | r :: L, T, s6, s7, h, hT => by
    obtain ⟨hr, x, i, hx, ex⟩ := h r List.mem_cons_self
    rw [List.length_cons] at hT
    have lv := led_val n hg (w := v.reverse) (r := r) (by omega) hr hv.rev
    have rv : ∀ (ρ : Rho), ρ[2]? = some (.fr (wordD v)) → revF (vF 2) (bind1 negD (cF (.int 1))) ρ = some (wordD v.reverse) := fun ρ hρ => by
      simp only [s_revF, s_vF, hρ, Option.bind_some, s_bind1, s_cF, s_neg, wordD, if_true, List.map_reverse]
    have rv1 := rv [.fr (houseD n ts), a1, .fr (wordD v), a3, a4, .ol (T.map rowD), .fr (rowD r), s7] rfl
    have fit : ∀ y ∈ ledM (pulls ts) v.reverse r, y.1.natAbs ≤ 2 ^ 700 ∧ y.2.natAbs ≤ 2 ^ 700 := by
      rw [ex, ← ledM_append]
      exact led_fit ts hn (by simp; omega) i
    have c0 := signs_comp (r := ledM (pulls ts) v.reverse r) (by rw [ledM_length]; omega) (g := g_l_sign) fun y hy => lsign_val (fit y hy).1 (fit y hy).2
    have hi : seqItems (vF 7) [.fr (houseD n ts), a1, .fr (wordD v), a3, a4, .ol (T.map rowD), .fr (rowD r), .fr (rowD (ledM (pulls ts) v.reverse r))] = some ((ledM (pulls ts) v.reverse r).map gD) := rfl
    have hc := compF_ok (n := 1) (caps := []) (γ := nameG 0) (ft := ttF) (f := appF g_l_sign (consA (vF 0) nilA)) hi (szl (by simp [ledM_length]; omega))
    have cs : ∀ ρ, compS 1 [] ρ = [.no] := fun _ => rfl
    rw [cs, c0] at hc
    have iv := in_signs false 1 (ledM (pulls ts) v.reverse r)
    have eh : hasS 1 (ledM (pulls ts) v.reverse r) = hasG 1 (ledM (pulls ts) v.reverse r) := rfl
    rw [eh] at iv
    have z : (T.map rowD).length < sizeLine := small1000 (by simp; omega)
    rw [List.map_cons, List.map_cons]
    unfold loopF
    cases c : hasG 1 (ledM (pulls ts) v.reverse r) with
    | false =>
      rw [c] at iv
      obtain ⟨s6', s7', e⟩ := d2_loop n hg hn hv hvl a1 a3 a4 L T (.fr (rowD r)) (.fr (rowD (ledM (pulls ts) v.reverse r))) (fun x hx => h x (List.mem_cons_of_mem _ hx)) (by omega)
      refine ⟨s6', s7', ?_⟩
      rw [List.filter_cons_of_neg (by simp [c])]
      simp only [d2B, s_nameG, Option.bind_some, List.set_cons_succ, List.set_cons_zero, s_seqF, s_asgF, s_appF, s_consA, s_nilA, rv1, s_vF, List.getElem?_cons_succ, List.getElem?_cons_zero, lv, s_ifS, s_blF, s_bind2, s_cF, s_mapLst, hc, Option.map_some, iv, Bool.false_xor, Bool.false_eq_true, if_false, s_nxF]
      unfold d2B at e
      exact e
    | true =>
      rw [c] at iv
      obtain ⟨s6', s7', e⟩ := d2_loop n hg hn hv hvl a1 a3 a4 L (T ++ [ledM (pulls ts) v.reverse r]) (.fr (rowD r)) (.fr (rowD (ledM (pulls ts) v.reverse r))) (fun x hx => h x (List.mem_cons_of_mem _ hx)) (by rw [List.length_append, List.length_singleton]; omega)
      refine ⟨s6', s7', ?_⟩
      have em : (T ++ [ledM (pulls ts) v.reverse r]).map rowD = T.map rowD ++ [rowD (ledM (pulls ts) v.reverse r)] := by simp
      rw [List.append_assoc, List.singleton_append, em] at e
      rw [List.filter_cons_of_pos c]
      simp only [d2B, s_nameG, Option.bind_some, List.set_cons_succ, List.set_cons_zero, s_seqF, s_asgF, s_appF, s_consA, s_nilA, rv1, s_vF, List.getElem?_cons_succ, List.getElem?_cons_zero, lv, s_ifS, s_blF, s_bind2, s_cF, s_mapLst, hc, Option.map_some, iv, Bool.false_xor, if_true, s_appendF, if_pos z]
      unfold d2B at e
      exact e
theorem due_val (n : Nat) {ts : List T3} (hg : GoodT ts) (hn : n ≤ 6) {u v : List Nat} (hv : InW n v) (hvl : v.length ≤ 16) {A B : List (List Gd)} (ta : g_turned [houseD n ts, wordD u] = some (rowsD A)) (tb : g_turned [houseD n ts, wordD v] = some (rowsD B))
    (hA : A.length ≤ 16) (hB : B.length ≤ 16) (fA : ∀ r ∈ A, r.length = n ∧ ∃ x i, x.length ≤ 16 ∧ r = ledM (pulls ts) x (simM n i)) (fB : ∀ r ∈ B, r.length = n) : g_l_due [houseD n ts, wordD u, wordD v] = some (rowsD (dueM ts v A B)) := by
  have z0 : 0 ≤ sizeLine := Nat.zero_le _
  obtain ⟨s6, e1⟩ := d1_loop n hg hn hv A (.fr (wordD u)) (.fr (rowsD B)) .no B [] .no fB (by simp; omega)
  obtain ⟨t6, t7, e2⟩ := d2_loop n hg hn hv hvl (.fr (wordD u)) (.fr (rowsD A)) (.fr (rowsD B)) A (B.filter fun r => !(A.any fun s => decide (s = negR (ledM (pulls ts) v r)))) s6 .no fA (by have := List.length_filter_le (fun r => !(A.any fun s => decide (s = negR (ledM (pulls ts) v r)))) B; omega)
  rw [List.map_nil, List.nil_append] at e1
  have sa : seqOf (rowsD A) = some (A.map rowD) := rfl
  have sb : seqOf (rowsD B) = some (B.map rowD) := rfl
  unfold d1B at e1
  unfold d2B at e2
  unfold g_l_due F_l_due
  simp only [s_denF, s_startR, List.map_cons, List.map_nil, List.length_cons, List.length_nil, Nat.reduceAdd, Nat.reduceSub, List.replicate, List.cons_append, List.nil_append, s_seqF, s_asgF, s_appF, s_consA, s_vF, s_nilA, List.getElem?_cons_succ, List.getElem?_cons_zero, Option.bind_some, ta, tb, List.set_cons_succ, List.set_cons_zero, s_asgN, s_lstF, if_pos z0, s_forF, s_seqItems, sb]
  rw [e1]
  simp only [Option.bind_some, s_seqF, s_forF, s_seqItems, s_vF, List.getElem?_cons_succ, List.getElem?_cons_zero, sa]
  rw [e2]
  simp only [Option.bind_some, s_frzF, s_frz, s_retF, s_vF, List.getElem?_cons_succ, List.getElem?_cons_zero, List.set_cons_succ, List.set_cons_zero, s_outR]
  rfl
theorem law_true (ns : List Int) (hl : ns.length ≤ 63) : g_law [.lst (ns.map D.int)] = some (.bl true) := by
  obtain ⟨n, ts, h1, h4, ht, hlen, hv⟩ := house_val ns hl 4 (by decide) (by decide)
  have h6 : n ≤ 6 := by omega
  have hg := ht.good
  obtain ⟨u, hul, hu, uv⟩ := word_val ns hl n ts h1 5 8 (by omega)
  obtain ⟨v, hvl, hv', vv⟩ := word_val ns hl n ts h1 13 8 (by omega)
  have hu : InW n u := hu
  have hv' : InW n v := hv'
  have hv4 : g_l_house [.lst (ns.map D.int), .int 4] = some (houseD n ts) := hv
  have uv' : g_l_word [.lst (ns.map D.int), houseD n ts, .int 5, .int 8] = some (wordD u) := uv
  have vv' : g_l_word [.lst (ns.map D.int), houseD n ts, .int 13, .int 8] = some (wordD v) := vv
  obtain ⟨A, ta, nA, lA, _, fA⟩ := turned_tell n hg h6 hu (by omega)
  obtain ⟨B, tb, nB, lB, _, fB⟩ := turned_tell n hg h6 hv' (by omega)
  obtain ⟨C, tc, nC, lC, eC, fC⟩ := turned_tell n hg h6 (hu.app hv') (by rw [List.length_append]; omega)
  obtain ⟨E, te, nE, lE, _, fE⟩ := turned_tell n hg h6 hu.rev (by rw [List.length_reverse]; omega)
  have wa := wordD_add u v (by omega)
  have dv := due_val n hg h6 hv' (by omega) ta tb lA lB fA (fun r hr => (fB r hr).1)
  have p1 := due_perm hg hu hv' nA nB nC
  have p2 := back_perm hg hu nA nE
  have q1 := sortR_same p1
  have q2 := sortR_same p2
  have ne : ∀ {L : List (List Gd)}, (∀ r ∈ L, r.length = n) → ∀ r ∈ L, r ≠ [] := fun h r hr e => by
    have := h r hr
    rw [e] at this
    simp at this
    omega
  have fC' : ∀ r ∈ C, r.length = n := fun r hr => (fC r hr).1
  have fE' : ∀ r ∈ E, r.length = n := fun r hr => (fE r hr).1
  have fD : ∀ r ∈ dueM ts v A B, r.length = n := fun r hr => fC' r (p1.mem_iff.mpr hr)
  have fG : ∀ r ∈ (A.map fun r => negR (ledM (pulls ts) u r)), r.length = n := fun r hr => fE' r (p2.mem_iff.mpr hr)
  have lD : (dueM ts v A B).length ≤ 16 := by rw [← p1.length_eq]; exact lC
  obtain ⟨l, hLl⟩ := Lth.ex (ts := ts) (hu.app hv')
  have hsum := sum_len0 hg (hu.app hv') hLl
  have lv := length_val n hg h6 (hu.app hv') (by rw [List.length_append]; omega)
  rw [hsum] at lv
  have eL := eC l hLl
  have hlc : lenD [rowsD C] = some (.int (l : Int)) := by simp [rowsD, eL]
  have nl : neF (.int (l : Int)) (.int (l : Int)) = some (.bl false) := ne_same (by simp [dep])
  have sC : ∀ ρ : Rho, ρ[4]? = some (.fr (rowsD C)) → mapLst (sortRN (consA (vF 4) nilA)) ρ = some (rowsD (sortR C)) := fun ρ hρ => sort_val (by omega) (ne fC') (by simp only [s_consA, s_vF, hρ, s_nilA, Option.bind_some])
  have sD : ∀ ρ : Rho, ρ[5]? = some (.fr (rowsD (dueM ts v A B))) → mapLst (sortRN (consA (vF 5) nilA)) ρ = some (rowsD (sortR C)) := fun ρ hρ => by
    rw [q1]
    exact sort_val (by omega) (ne fD) (by simp only [s_consA, s_vF, hρ, s_nilA, Option.bind_some])
  have sG : ∀ ρ : Rho, ρ[6]? = some (.fr (rowsD (A.map fun r => negR (ledM (pulls ts) u r)))) → mapLst (sortRN (consA (vF 6) nilA)) ρ = some (rowsD (sortR E)) := fun ρ hρ => by
    rw [q2]
    exact sort_val (by rw [List.length_map]; omega) (ne fG) (by simp only [s_consA, s_vF, hρ, s_nilA, Option.bind_some])
  have rv : ∀ (ρ : Rho), ρ[2]? = some (.fr (wordD u)) → revF (vF 2) (bind1 negD (cF (.int 1))) ρ = some (wordD u.reverse) := fun ρ hρ => by
    simp only [s_revF, s_vF, hρ, Option.bind_some, s_bind1, s_cF, s_neg, wordD, if_true, List.map_reverse]
  have sE : ∀ ρ : Rho, ρ[1]? = some (.fr (houseD n ts)) → ρ[2]? = some (.fr (wordD u)) → mapLst (sortRN (consA (appF g_turned (consA (vF 1) (consA (revF (vF 2) (bind1 negD (cF (.int 1)))) nilA))) nilA)) ρ = some (rowsD (sortR E)) := fun ρ h1 h2 =>
    sort_val (by omega) (ne fE') (by rw [s_consA, s_appF, s_consA, s_consA, rv ρ h2]; simp only [s_vF, h1, s_nilA, Option.bind_some, te])
  have hcomp : ∀ ρ : Rho, ρ[1]? = some (.fr (houseD n ts)) → ρ[2]? = some (.fr (wordD u)) → mapLst (compF 1 [1, 2] (seqItems (appF g_turned (consA (vF 1) (consA (vF 2) nilA)))) (nameG 0) ttF (appF g_l_turned_about (consA (appF g_l_led (consA (vF 1) (consA (vF 2) (consA (vF 0) nilA)))) nilA))) ρ = some (rowsD (A.map fun r => negR (ledM (pulls ts) u r))) := fun ρ h1 h2 => by
    have c := compGM (f := appF g_l_turned_about (consA (appF g_l_led (consA (vF 1) (consA (vF 2) (consA (vF 0) nilA)))) nilA)) (C := [.fr (houseD n ts), .fr (wordD u)]) (d := rowD) (φ := fun r => rowD (negR (ledM (pulls ts) u r))) A .no (fun r hr => by
      have ll := led_val n hg (w := u) (r := r) (by omega) (fA r hr).1 hu
      have av := about_val (r := ledM (pulls ts) u r) (by rw [ledM_length, (fA r hr).1]; omega)
      simp only [s_appF, s_consA, s_vF, s_nilA, List.getElem?_cons_succ, List.getElem?_cons_zero, Option.bind_some, ll, av])
    have hi : seqItems (appF g_turned (consA (vF 1) (consA (vF 2) nilA))) ρ = some (A.map rowD) := by
      simp only [s_seqItems, s_appF, s_consA, s_vF, s_nilA, h1, h2, Option.bind_some, ta]
      rfl
    have hc := compF_ok (n := 1) (caps := [1, 2]) (γ := nameG 0) (ft := ttF) (f := appF g_l_turned_about (consA (appF g_l_led (consA (vF 1) (consA (vF 2) (consA (vF 0) nilA)))) nilA)) hi (szl (by simp; omega))
    have cs : compS 1 [1, 2] ρ = [.no, .fr (houseD n ts), .fr (wordD u)] := by simp [compS, h1, h2]
    rw [cs, c] at hc
    rw [s_mapLst, hc]
    simp [rowsD]
  have nC2 := ne_same (rowsD_dep (sortR C))
  have eE := eq_same (rowsD_dep (sortR E))
  unfold g_law F_law
  simp only [s_denF, s_startR, List.map_cons, List.map_nil, List.length_cons, List.length_nil, Nat.reduceAdd, Nat.reduceSub, List.replicate, List.cons_append, List.nil_append, s_seqF, s_asgF, s_appF, s_consA, s_vF, s_nilA, s_cF, List.getElem?_cons_succ, List.getElem?_cons_zero, Option.bind_some, hv4, uv', vv', s_bind2, wa, tc, dv, List.set_cons_succ, List.set_cons_zero]
  rw [s_ifS, s_orT, s_blF, s_bind2, sC _ rfl, Option.bind_some, sD _ rfl, Option.bind_some, nC2]
  simp only [Option.bind_some, Bool.false_eq_true, if_false, s_blF, s_bind2, s_appF, s_consA, s_vF, s_nilA, List.getElem?_cons_succ, List.getElem?_cons_zero, hlc, wa, lv, nl, s_nxF]
  rw [hcomp _ rfl rfl]
  simp only [Option.bind_some, List.set_cons_succ, List.set_cons_zero]
  rw [s_retF, s_bind2, sE _ rfl rfl, Option.bind_some, sG _ rfl, Option.bind_some, eE]
  rfl
end Pk44
open PySem PySem.W PyProof.Rows FL L2 in
set_option maxRecDepth 100000 in
set_option maxHeartbeats 0 in
theorem PySem.Challenge.cw_mirrorhouse_k44_whole_roots_of_two_words_holds : PySem.Challenge.rw_mirrorhouse_k44_whole_roots_of_two_words.Holds := by
  w_on; o_law; k_head; (case hw => w_witness2)
  k_fill
  refine L2.walk_ofK (l := PySem.Challenge.rw_mirrorhouse_k44_whole_roots_of_two_words) (n := 63) (k := 10) (x := "_law_script") (CX := CX0) (sp := fun K => FL.spF K 1 Pk44.g_law) rfl (by decide) rfl ⟨rfl, by decide, by decide⟩ (fun w h Y => PySem.W.kIn_of Y) ?F (fun K H a ns hl _ hS => FL.law_sp hS (Pk44.law_true ns hl)) (fun _ _ _ _ z => z)
  case F =>
    intro w mg fa h KX G hmg
    refine' Pk44.all_mk KX G hmg ?a0 ?l0 ?c0 ?k0 ?a1 ?l1 ?c1 ?k1 ?a2 ?l2 ?c2 ?k2 ?a3 ?l3 ?c3 ?k3 ?a4 ?l4 ?c4 ?k4 ?a5 ?l5 ?c5 ?k5 ?a6 ?l6 ?c6 ?k6 ?a7 ?l7 ?c7 ?k7 ?a8 ?l8 ?c8 ?k8 ?a9 ?l9 ?c9 ?k9 ?a10 ?l10 ?c10 ?k10 ?a11 ?l11 ?c11 ?k11 ?a12 ?l12 ?c12 ?k12 ?a13 ?l13 ?c13 ?k13 ?a14 ?l14 ?c14 ?k14 ?a15 ?l15 ?c15 ?k15 ?a16 ?l16 ?c16 ?k16 ?a17 ?l17 ?c17 ?k17 ?a18 ?l18 ?c18 ?k18 ?a19 ?l19 ?c19 ?k19 ?a20 ?l20 ?c20 ?k20 ?a21 ?l21 ?c21 ?k21 ?a22 ?l22 ?c22 ?k22 ?a23 ?l23 ?c23 ?k23 ?a24 ?l24 ?c24 ?k24 ?a25 ?l25 ?c25 ?k25 ?a26 ?l26 ?c26 ?k26 ?a27 ?l27 ?c27 ?k27 ?a28 ?l28 ?c28 ?k28 ?a29 ?l29 ?c29 ?k29 ?a30 ?l30 ?c30 ?k30 ?a31 ?l31 ?c31 ?k31 ?a32 ?l32 ?c32 ?k32 ?b_all ?b_enumerate ?b_int ?b_len ?b_max ?b_min ?b_range ?b_reversed ?b_sorted ?b_sum ?b_tuple ?b_zip ?q_NOT_TOLD ?q_NOUGHT ?r_NOUGHT ?q_ONE ?r_ONE ?q_PULLS_BELOW_NOUGHT ?r_PULLS_BELOW_NOUGHT ?r_PULLS_BELOW_NOUGHT_0 ?r_PULLS_BELOW_NOUGHT_1 ?r_PULLS_BELOW_NOUGHT_2 ?r_PULLS_BELOW_NOUGHT_3 ?r_PULLS_BELOW_NOUGHT_4 ?r_PULLS_BELOW_NOUGHT_5
    (case a0 => k_is)
    (case l0 => k_is)
    (case c0 => k_is)
    (case k0 => k_is)
    (case a1 => k_is)
    (case l1 => k_is)
    (case c1 => k_is)
    (case k1 => k_is)
    (case a2 => k_is)
    (case l2 => k_is)
    (case c2 => k_is)
    (case k2 => k_is)
    (case a3 => k_is)
    (case l3 => k_is)
    (case c3 => k_is)
    (case k3 => k_is)
    (case a4 => k_is)
    (case l4 => k_is)
    (case c4 => k_is)
    (case k4 => k_is)
    (case a5 => k_is)
    (case l5 => k_is)
    (case c5 => k_is)
    (case k5 => k_is)
    (case a6 => k_is)
    (case l6 => k_is)
    (case c6 => k_is)
    (case k6 => k_is)
    (case a7 => k_is)
    (case l7 => k_is)
    (case c7 => k_is)
    (case k7 => k_is)
    (case a8 => k_is)
    (case l8 => k_is)
    (case c8 => k_is)
    (case k8 => k_is)
    (case a9 => k_is)
    (case l9 => k_is)
    (case c9 => k_is)
    (case k9 => k_is)
    (case a10 => k_is)
    (case l10 => k_is)
    (case c10 => k_is)
    (case k10 => k_is)
    (case a11 => k_is)
    (case l11 => k_is)
    (case c11 => k_is)
    (case k11 => k_is)
    (case a12 => k_is)
    (case l12 => k_is)
    (case c12 => k_is)
    (case k12 => k_is)
    (case a13 => k_is)
    (case l13 => k_is)
    (case c13 => k_is)
    (case k13 => k_is)
    (case a14 => k_is)
    (case l14 => k_is)
    (case c14 => k_is)
    (case k14 => k_is)
    (case a15 => k_is)
    (case l15 => k_is)
    (case c15 => k_is)
    (case k15 => k_is)
    (case a16 => k_is)
    (case l16 => k_is)
    (case c16 => k_is)
    (case k16 => k_is)
    (case a17 => k_is)
    (case l17 => k_is)
    (case c17 => k_is)
    (case k17 => k_is)
    (case a18 => k_is)
    (case l18 => k_is)
    (case c18 => k_is)
    (case k18 => k_is)
    (case a19 => k_is)
    (case l19 => k_is)
    (case c19 => k_is)
    (case k19 => k_is)
    (case a20 => k_is)
    (case l20 => k_is)
    (case c20 => k_is)
    (case k20 => k_is)
    (case a21 => k_is)
    (case l21 => k_is)
    (case c21 => k_is)
    (case k21 => k_is)
    (case a22 => k_is)
    (case l22 => k_is)
    (case c22 => k_is)
    (case k22 => k_is)
    (case a23 => k_is)
    (case l23 => k_is)
    (case c23 => k_is)
    (case k23 => k_is)
    (case a24 => k_is)
    (case l24 => k_is)
    (case c24 => k_is)
    (case k24 => k_is)
    (case a25 => k_is)
    (case l25 => k_is)
    (case c25 => k_is)
    (case k25 => k_is)
    (case a26 => k_is)
    (case l26 => k_is)
    (case c26 => k_is)
    (case k26 => k_is)
    (case a27 => k_is)
    (case l27 => k_is)
    (case c27 => k_is)
    (case k27 => k_is)
    (case a28 => k_is)
    (case l28 => k_is)
    (case c28 => k_is)
    (case k28 => k_is)
    (case a29 => k_is)
    (case l29 => k_is)
    (case c29 => k_is)
    (case k29 => k_is)
    (case a30 => k_is)
    (case l30 => k_is)
    (case c30 => k_is)
    (case k30 => k_is)
    (case a31 => k_is)
    (case l31 => k_is)
    (case c31 => k_is)
    (case k31 => k_is)
    (case a32 => k_is)
    (case l32 => k_is)
    (case c32 => k_is)
    (case k32 => k_is)
    (case b_all => k_is)
    (case b_enumerate => k_is)
    (case b_int => k_is)
    (case b_len => k_is)
    (case b_max => k_is)
    (case b_min => k_is)
    (case b_range => k_is)
    (case b_reversed => k_is)
    (case b_sorted => k_is)
    (case b_sum => k_is)
    (case b_tuple => k_is)
    (case b_zip => k_is)
    (case q_NOT_TOLD => k_is)
    (case q_NOUGHT => k_is)
    (case r_NOUGHT => k_is)
    (case q_ONE => k_is)
    (case r_ONE => k_is)
    (case q_PULLS_BELOW_NOUGHT => k_is)
    (case r_PULLS_BELOW_NOUGHT => k_is)
    (case r_PULLS_BELOW_NOUGHT_0 => k_is)
    (case r_PULLS_BELOW_NOUGHT_1 => k_is)
    (case r_PULLS_BELOW_NOUGHT_2 => k_is)
    (case r_PULLS_BELOW_NOUGHT_3 => k_is)
    (case r_PULLS_BELOW_NOUGHT_4 => k_is)
    (case r_PULLS_BELOW_NOUGHT_5 => k_is)
