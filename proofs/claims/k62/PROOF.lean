import PyProof.Rows.All
import Wide.All
import OpenK.AllK
import Wide.FinOn
import PyProof.EqAt
import PyProof.EqKinds
import PyProof.TupleCall
import PyProof.ListMulAny
import KE.KIsAll
import Lean
import PySem.Challenge.RW_mirrorhouse_k62_whole_never_ending
open List renaming getElem?_cons_zero → g0a,getElem?_cons_succ → g0c,getD_eq_getElem?_getD → g0d,length_cons → g0e,length_map → g0f,length_append → g0g,map_cons → g0h,mem_cons_self → g0i,set_cons_zero → g0j,set_cons_succ → g0k,replicate → g0l,mem_cons_of_mem → g0m,length_nil → g0n,mem_cons → g0o,getElem?_eq_getElem → g0p,nil_append → g0r,length_singleton → g0s,range → g0t,cons_append → g0u,getElem?_eq_some_iff → g0v,all_eq_true → g0w,append_nil → g0x,map_append → g0y,getElem?_map → g0z,append_assoc → g1a,map_nil → g1b,mem_append_right → g1c,size_toArray → g1d,getElem?_append_left → g1e,map_map → g1h,mem_map → g1i,mem_filter → g1k,nodup_iff_pairwise_ne → g1l,getElem?_set → g1m,mem_append → g1o,getElem?_append_right → g1q,map_congr_left → g1r,mem_range → g1t,mem_append_left → g1w,getElem?_eq_none → g1x,mem_of_getElem? → g1y,getElem?_replicate → g2b,length_reverse → g2c,nodup_cons → g2d,lookup_cons → g2e,drop_eq_getElem_cons → g2f,singleton_append → g2g,length_range → g2h,reverse_reverse → g2i,mem_filterMap → g2k,range_succ_eq_map → g2l,replicate_succ → g2m,pairwise_map → g2n,length_filter_le → g2o,mem_of_mem_drop → g2p,mem_iff_getElem → g2q,getElem_mem → g2r,drop_eq_nil_of_le → g2s,filter_congr → g2t,nodup_append → g2u,eq_nil_of_length_eq_zero → g2v,any_eq_true → g2x,getElem?_set_ne → g2y,map → g2z,length_eq_zero_iff → g3a,flatten_cons → g3b,reverse_cons → g3c,flatMap_cons → g3f,any_cons → g3g,filter_cons_of_neg → g3h,length_take → g3i,length_drop → g3j,take_of_length_le → g3k,drop_of_length_le → g3l,getElem?_eq_none_iff → g3n,pairwise_iff_getElem → g3o,getD_cons_succ → g3q,reverse_append → g3r,length_pos_iff → g3s,pairwise_cons → g3v,filter_cons_of_pos → g3x
open Option renaming bind_some → g0b,map_some → g1f,bind_eq_some_iff → g1j,map_eq_some_iff → g1v,getD_some → g2w,some → g3e
open Nat renaming le_refl → g0q,lt_of_lt_of_le → g1s,ne_of_lt → g1u,zero_le → g1z,le_trans → g2j,zero_add → g3d,le_succ → g3p,lt_irrefl → g3t,lt_of_le_of_lt → g3u
open Bool renaming false_eq_true → g1g,and_eq_true → g1p,false_ne_true → g2a,not_true → g3m,or_eq_true → g3w
set_option Elab.async false
set_option linter.all false
set_option maxRecDepth 100000
namespace L2
open PySem PySem.Spec PyProof.Rows
abbrev Key:=Sum Int Str
def UF:Key->Value->Bool
 | .inl k,v=>Value.isInt k v
 | .inr x,v=>Value.isStrOf x v
def RE (w:World):Key->Int
 | .inl k=>hashInt k
 | .inr x=>hashStr w x
theorem yW:∀ {k:Key} {v:Value},UF k v=true->(∃ i t,k=Sum.inl i/\v=Value.int i t)\/(∃ x t,k=Sum.inr x/\v=Value.str x t)
 | .inl i,v,h=>by
  obtain ⟨t,e⟩:=Value.isInt_shape (k:=i) (v:=v) h
  exact .inl ⟨i,t,rfl,e⟩
 | .inr x,v,h=>by
  obtain ⟨t,e⟩:=Value.isStrOf_shape (x:=x) (v:=v) h
  exact .inr ⟨x,t,rfl,e⟩
theorem Q1 (i:Int) (t:Tok):UF (.inl i) (.int i t)=true:=by simp [UF,Value.isInt]
theorem Q0 (x:Str) (t:Tok):UF (.inr x) (.str x t)=true:=by simp [UF,Value.isStrOf]
theorem Mr (a b:Int):decide ((Sum.inl a:Key)=Sum.inl b)=(a==b):=by
 by_cases e:a=b
 ·subst e; simp
 ·have h:¬ (Sum.inl a:Key)=Sum.inl b:=fun q=>e (Sum.inl.inj q)
  rw [decide_eq_false h]
  exact (beq_eq_false_iff_ne.mpr e).symm
theorem Mo (a b:Str):decide ((Sum.inr a:Key)=Sum.inr b)=decide (a=b):=by
 by_cases e:a=b
 ·subst e; simp
 ·have h:¬ (Sum.inr a:Key)=Sum.inr b:=fun q=>e (Sum.inr.inj q)
  rw [decide_eq_false h,decide_eq_false e]
theorem Mq (a:Int) (b:Str):decide ((Sum.inl a:Key)=Sum.inr b)=false:=decide_eq_false (fun q=>nomatch q)
theorem Mp (a:Str) (b:Int):decide ((Sum.inr a:Key)=Sum.inl b)=false:=decide_eq_false (fun q=>nomatch q)
def xU (prog:Program) (w:World):PySem.KeyKind prog w Key where
 is:=UF
 hash:=RE w
 inj:=fun v a b ha hb=>by
  rcases yW ha with ⟨i,t,rfl,rfl⟩ | ⟨x,t,rfl,rfl⟩
  ·rcases yW hb with ⟨j,u,rfl,e⟩ | ⟨y,u,rfl,e⟩
   ·injection e with e1 _; rw [e1]
   ·exact nomatch e
  ·rcases yW hb with ⟨j,u,rfl,e⟩ | ⟨y,u,rfl,e⟩
   ·exact nomatch e
   ·injection e with e1 _; rw [e1]
 byValue:=fun k v h=>by
  rcases yW h with ⟨i,t,rfl,rfl⟩ | ⟨x,t,rfl,rfl⟩ <;> rfl
 pyHash:=fun hv h=>by
  rcases yW hv with ⟨i,t,rfl,rfl⟩ | ⟨x,t,rfl,rfl⟩
  ·exact wpAny_pyHash_int h
  ·exact wpAny_pyHash_str h
 eqBool:=fun hu hv h=>by
  rcases yW hu with ⟨i,t,rfl,rfl⟩ | ⟨x,t,rfl,rfl⟩
  ·rcases yW hv with ⟨j,u,rfl,rfl⟩ | ⟨y,u,rfl,rfl⟩
   ·rw [Mr] at h; exact wpAny_eqBool_int h
   ·rw [Mq] at h; exact SeqAt.EqAt.int_str i t y u _ _ _ _ h
  ·rcases yW hv with ⟨j,u,rfl,rfl⟩ | ⟨y,u,rfl,rfl⟩
   ·rw [Mp] at h; exact SeqAt.EqAt.str_int x t j u _ _ _ _ h
   ·rw [Mo] at h; exact wpAny_eqBool_str h
 «strs» := fun k x t v h=>by
  rcases yW h with ⟨i,u,rfl,e⟩ | ⟨y,u,rfl,e⟩
  ·exact nomatch e
  ·injection e with e1 _
   subst e1
   cases v <;> rfl
theorem Wx (prog:Program) (w:World) (i:Int) (t:Tok):(xU prog w).is (.inl i) (.int i t)=true:=Q1 i t
theorem Ww (prog:Program) (w:World) (x:Str) (t:Tok):(xU prog w).is (.inr x) (.str x t)=true:=Q0 x t
inductive V where
 | non | bl (b:Bool) | int (i:Int) | str (x:Str) | byt (b:Array UInt8) | flt (b:UInt64) | ref (a:Addr) | ty (n:String)
 deriving DecidableEq
def xm:V->Value->Prop
 | .non,u=>u=Value.none
 | .bl b,u=>u=Value.bool b
 | .int i,u=>∃ t,u=Value.int i t
 | .str x,u=>∃ t,u=Value.str x t
 | .byt b,u=>∃ t,u=Value.bytes b t
 | .flt b,u=>∃ t,u=Value.float b t
 | .ref a,u=>u=Value.ref a
 | .ty n,u=>u=Value.type n
abbrev xh:List V->List Value->Prop:=Paired xm
theorem xh.length {xs:List V} {us:List Value} (r:xh xs us):xs.length=us.length:=Paired.length r
theorem xh.get:∀ {xs:List V} {us:List Value} {i:Nat} {x:V},xh xs us->xs[i]? = some x->∃ u,us[i]? = some u/\xm x u
 | _,_,_,_,.nil,e=>by simp at e
 | _,_,0,_,.cons r _,e=>by simp at e; subst e; exact ⟨_,rfl,r⟩
 | _,_,i+1,x,.cons _ t,e=>by
  obtain ⟨u,h1,h2⟩:=xh.get (i:=i) (x:=x) t (by simpa using e)
  exact ⟨u,by simpa using h1,h2⟩
theorem xh.append:∀ {xs ys:List V} {us ws:List Value},xh xs us->xh ys ws->xh (xs++ys) (us++ws)
 | _,_,_,_,.nil,s=>s
 | _,_,_,_,.cons r t,s=>.cons r (xh.append t s)
theorem xh.take:∀ {xs:List V} {us:List Value} (n:Nat),xh xs us->xh (xs.take n) (us.take n)
 | _,_,0,_=>.nil
 | _,_,_+1,.nil=>.nil
 | _,_,n+1,.cons r t=>.cons r (xh.take n t)
theorem xh.drop:∀ {xs:List V} {us:List Value} (n:Nat),xh xs us->xh (xs.drop n) (us.drop n)
 | _,_,0,r=>r
 | _,_,_+1,.nil=>.nil
 | _,_,n+1,.cons _ t=>xh.drop n t
def Nh:Option V->Option Value->Prop
 | some v,some u=>xm v u
 | none,none=>True
 | _,_=>False
def KV {κ:Type}:List (κ×V)->List (κ×Value)->Prop:=Paired fun (p:κ×V) (q:κ×Value)=>p.1=q.1/\xm p.2 q.2
def kV:Key->V
 | .inl i=>.int i
 | .inr x=>.str x
inductive HO where
  | lst (xs:List V)
  | tup (xs:List V)
  | dK (kvs:List (Key×V)) | dT (kvs:List (List Key×V))
  | set (S:Int->Bool) (n:Nat)
  | ins (C dx:Addr) (fs:List (Str×V))
  | own (x:Addr)
  | xd (fs:List (Str×V))
  | met (f x:Addr)
  | rng (lo hi:Int)
  | frz (o:Obj) (u:HO)
  | tbl (ps:Array Value)
  | ext (φ:Heap->Prop)
abbrev Hp:=Addr->Option HO
def upd (H:Hp) (a:Addr) (o:HO):Hp:=fun b=>if b=a then some o else H b
theorem zq {H:Hp} {a:Addr} {o:HO}:upd H a o a=some o:=by unfold upd; rw [if_pos rfl]
theorem zG {H:Hp} {a b:Addr} {o:HO} (h:b≠a):upd H a o b=H b:=by unfold upd; rw [if_neg h]
theorem Ma {H:Hp} {a b:Addr} {o u:HO} (h:H a=some o) (h':H b=some u) (d:o≠u):a≠b:=by
 intro e; subst e; rw [h] at h'; exact d (g3e.inj h')
theorem yb {H:Hp} {a b:Addr} {o:HO} (h:H a=some o) (h':H b=none):a≠b:=by
 intro e; subst e; rw [h] at h'; cases h'
section
variable (P:Program) (w:World)
def xY (H:Hp) (h:Heap) (a:Addr):HO->Prop
 | .lst xs=>xs.length<=sizeLine/\∃ (its:List Value) (n:Nat),xh xs its/\h.get? a=some { cls:=.type "list",data:=.seq its.toArray n }
 | .tup xs=>xs.length<=sizeLine/\∃ its:List Value,xh xs its/\IsTup h a its.toArray
 | .dK kvs=>kvs.length<=sizeLine/\(a==sysModules)=false/\∃ vs,KV kvs vs/\h.DictOf (xU P w) a vs
 | .dT kvs=>kvs.length<=sizeLine/\(a==sysModules)=false/\∃ xs:List (List Key×Addr×Value),
   Paired (fun (p:List Key×V) (q:List Key×Addr×Value)=>p.1=q.1/\H q.2.1=some (.tup (p.1.map kV))/\xm p.2 q.2.2) kvs xs ∧
   ∃ o es ep,h.get? a=some o/\o.ExactDict/\o.data=.dict es ep/\es.toList=xs.map (entryOfKey (tupleKind (xU P w)))/\(xs.map (·.1)).Nodup
 | .set S n=>h.SetOf (intKind P w) a S n
 | .ins C dx fs=>H dx=some (.own a)/\fs.length<=1000/\dx≠a/\h.get? a=some (PySem.W.instObj C dx) ∧
   ∃ mA,h.Ns1 dx mA/\(∀ f,Nh (fs.lookup f) (mA f))/\PySem.Within mA (fs.map (·.1))
 | .own _=>∃ o,h.get? a=some o
 | .xd fs=>∃ mA,h.Ns1 a mA/\∀ f,Nh (fs.lookup f) (mA f)
 | .rng lo hi=>∃ t u v,h.get? a=some { cls:=.type "range",data:=.fields #[.int lo t,.int hi u,.int 1 v] }
 | .frz o u=>h.get? a=some o/\xY H h a u
 | .tbl ps=>h.get? a=some { cls:=.none,data:=.fields ps }
 | .met f x=>h.get? a=some (PySem.W.methodObj (.ref f) (.ref x))
 | .ext φ=>φ h/\(∃ o,h.get? a=some o)/\∀ h1 h2:Heap,φ h1->(∀ o,h1.get? a=some o->h2.get? a=some o)->φ h2
def HOk (H:Hp) (h:Heap):Prop:=∀ a o,H a=some o->xY P w H h a o
end
section
variable {P:Program} {w:World} {H H':Hp} {h h':Heap} {a:Addr} {o:HO}
theorem xY.lt (x:xY P w H h a o):a < h.objs.size:=by
 cases o with
 | lst xs=>obtain ⟨_,_,_,_,e⟩:=x; exact Heap.lt_size e
 | tup xs=>obtain ⟨_,_,_,p⟩:=x; exact p.lt
 | dK kvs=>obtain ⟨_,_,_,_,o,_,_,e,_⟩:=x; exact Heap.lt_size e
 | dT kvs=>obtain ⟨_,_,_,_,o,_,_,e,_⟩:=x; exact Heap.lt_size e
 | set S n=>obtain ⟨o,_,_,_,e,_⟩:=x; exact Heap.lt_size e
 | ins C dx fs=>obtain ⟨_,_,_,e,_⟩:=x; exact Heap.lt_size e
 | own y=>obtain ⟨_,e⟩:=x; exact Heap.lt_size e
 | xd fs=>obtain ⟨_,⟨_,_,_,e,_⟩,_⟩:=x; exact Heap.lt_size e
 | rng lo hi=>obtain ⟨_,_,_,e⟩:=x; exact Heap.lt_size e
 | frz ob u=>obtain ⟨e,_⟩:=x; exact Heap.lt_size e
 | tbl ps=>exact Heap.lt_size (show h.get? a=some _ from x)
 | met f y=>exact Heap.lt_size (show h.get? a=some _ from x)
 | ext φ=>obtain ⟨_,⟨_,e⟩,_⟩:=x; exact Heap.lt_size e
theorem Paired.mapP {α β:Type} {F G:α->β->Prop}:∀ {l₁:List α} {l₂:List β},Paired F l₁ l₂->(∀ a b,F a b->G a b)->Paired G l₁ l₂
 | _,_,.nil,_=>.nil
 | _,_,.cons r t,f=>.cons (f _ _ r) (Paired.mapP t f)
theorem xY.stay (x:xY P w H h a o) (k:∀ b u,(b=a\/H b=some (.own a))->h.get? b=some u->h'.get? b=some u)
  (ho:∀ b,H b=some (.own a)->H' b=some (.own a)) (ht:∀ b xs,H b=some (.tup xs)->H' b=some (.tup xs)):xY P w H' h' a o:=by
 induction o with
 | lst xs=>obtain ⟨z,its,n,r,e⟩:=x; exact ⟨z,its,n,r,k _ _ (.inl rfl) e⟩
 | tup xs=>obtain ⟨z,its,r,ob,e,c⟩:=x; exact ⟨z,its,r,ob,k _ _ (.inl rfl) e,c⟩
 | dK kvs=>obtain ⟨z,y,vs,r,ob,es,ep,e,c⟩:=x; exact ⟨z,y,vs,r,ob,es,ep,k _ _ (.inl rfl) e,c⟩
 | dT kvs =>
  obtain ⟨z,y,xs,r,ob,es,ep,e,c⟩:=x
  exact ⟨z,y,xs,Paired.mapP r fun p q z=>⟨z.1,ht _ _ z.2.1,z.2.2⟩,ob,es,ep,k _ _ (.inl rfl) e,c⟩
 | set S n=>obtain ⟨ob,es,ep,t,e,c⟩:=x; exact ⟨ob,es,ep,t,k _ _ (.inl rfl) e,c⟩
 | ins C dx fs =>
  obtain ⟨d,z,ne,e,mA,⟨od,es,ep,e2,c⟩,r⟩:=x
  exact ⟨ho _ d,z,ne,k _ _ (.inl rfl) e,mA,⟨od,es,ep,k _ _ (.inr d) e2,c⟩,r⟩
 | own y=>obtain ⟨ob,e⟩:=x; exact ⟨ob,k _ _ (.inl rfl) e⟩
 | xd fs=>obtain ⟨mA,⟨od,es,ep,e,c⟩,r⟩:=x; exact ⟨mA,⟨od,es,ep,k _ _ (.inl rfl) e,c⟩,r⟩
 | rng lo hi=>obtain ⟨t,u,v,e⟩:=x; exact ⟨t,u,v,k _ _ (.inl rfl) e⟩
 | frz ob u ih=>obtain ⟨e,q⟩:=x; exact ⟨k _ _ (.inl rfl) e,ih q⟩
 | tbl ps =>
  have e:h.get? a=some { cls:=.none,data:=.fields ps }:=x
  show h'.get? a=some { cls:=.none,data:=.fields ps }
  exact k a _ (.inl rfl) e
 | met f y =>
  have e:h.get? a=some (PySem.W.methodObj (.ref f) (.ref y)):=x
  show h'.get? a=some (PySem.W.methodObj (.ref f) (.ref y))
  exact k a _ (.inl rfl) e
 | ext φ=>obtain ⟨p,⟨o,e⟩,st⟩:=x; exact ⟨st _ _ p fun o q=>k _ _ (.inl rfl) q,⟨o,k _ _ (.inl rfl) e⟩,st⟩
theorem HOk.lt (x:HOk P w H h) (e:H a=some o):a < h.objs.size:=(x a o e).lt
theorem HOk.fresh (x:HOk P w H h) (e:h.objs.size<=a):H a=none:=by
 cases q:H a with
 | none=>rfl
 | some u=>exact absurd (g1s (x.lt q) e) (g3t _)
theorem HOk.kept (x:HOk P w H h) (k:∀ b u,h.get? b=some u->h'.get? b=some u):HOk P w H h':=fun a o e =>
 (x a o e).stay (fun b u _ q=>k b u q) (fun _ q=>q) fun _ _ q=>q
theorem HOk.laid (x:HOk P w H h) (k:∀ b u,h.get? b=some u->h'.get? b=some u) (hp:h.objs.size<=a) (new:xY P w (upd H a o) h' a o):HOk P w (upd H a o) h':=fun b u e=>by
 have hn:=x.fresh hp
 by_cases hb:b=a
 ·subst hb; rw [zq] at e; cases e; exact new
 ·rw [zG hb] at e
  exact (x b u e).stay (fun c v _ q=>k c v q) (fun c q=>by rw [zG (yb q hn)]; exact q) fun c xs q=>by rw [zG (yb q hn)]; exact q
end
def Rd (H:Hp) (a:Addr) (u:HO):Prop:=H a=some u\/∃ o,H a=some (.frz o u)
theorem Rd.ok {P:Program} {w:World} {H:Hp} {h:Heap} {a:Addr} {u:HO} (r:Rd H a u) (x:HOk P w H h):xY P w H h a u:=by
 rcases r with r | ⟨o,r⟩
 ·exact x a u r
 ·obtain ⟨_,q⟩:=x a _ r
  exact q
def Mut:Option HO->Prop
 | some (.lst _)=>True
 | some (.dK _)=>True
 | some (.dT _)=>True
 | some (.set _ _)=>True
 | some (.ins _ _ _)=>True
 | some (.ext _)=>True
 | _=>False
section
variable {P:Program} {w:World} {H:Hp} {h h':Heap} {x e:Addr} {o':HO}
theorem HOk.write (ok:HOk P w H h) (mu:Mut (H x)) (he:e=x\/H e=some (.own x)) (k:∀ b u,b≠e->h.get? b=some u->h'.get? b=some u) (heo:∃ u,h'.get? e=some u)
  (new:xY P w (upd H x o') h' x o'):HOk P w (upd H x o') h':=fun b u q=>by
 have nown:∀ c y,H c=some (.own y)->c≠x:=fun c y r z=>by subst z; rw [r] at mu; exact mu
 have ntup:∀ c xs,H c=some (.tup xs)->c≠x:=fun c xs r z=>by subst z; rw [r] at mu; exact mu
 by_cases hb:b=x
 ·subst hb; rw [zq] at q; cases q; exact new
 ·rw [zG hb] at q
  by_cases hbe:b=e
  ·have q':H b=some (.own x):=by
    rcases he with z | z
    ·exact absurd (hbe.trans z) hb
    ·rw [hbe]; exact z
   rw [q] at q'; cases q'
   obtain ⟨v,hv⟩:=heo
   exact ⟨v,by rw [hbe]; exact hv⟩
  ·refine (ok b u q).stay (fun c v hc r=>k c v ?_ r) (fun c r=>by rw [zG (nown c b r)]; exact r) fun c xs r=>by rw [zG (ntup c xs r)]; exact r
   rcases hc with rfl | hc
   ·exact hbe
   ·rintro rfl
    rcases he with z | z
    ·exact nown c b hc z
    ·rw [hc] at z; cases z; exact hb rfl
end
structure Un (fs ex:List Addr) (H H':Hp) (h h':Heap):Prop where
 keep:∀ b o,h.get? b=some o->H b=none->b∉fs->b∉ex->h'.get? b=some o
 slot:∀ b o,h.get? b=some o->H b=none->b∈fs->b∉ex->∃ sl,h'.get? b=some { o with slots:=sl }
 free:∀ b o,h.get? b=some o->H b=none->b∉ex->H' b=none
 there:∀ b o,h.get? b=some o->b∉ex->∃ o',h'.get? b=some o'
 tups:∀ b xs,H b=some (.tup xs)->H' b=some (.tup xs)
 frzs:∀ b o u,H b=some (.frz o u)->H' b=some (.frz o u)
 tbls:∀ b ps,H b=some (.tbl ps)->∃ more,H' b=some (.tbl (ps++more))
section
variable {fs fs' ex ex':List Addr} {H H1 H2:Hp} {h h1 h2 h':Heap} {a x e:Addr} {o:HO}
theorem Un.any (u:Un fs ex H H1 h h1) {b:Addr} {ob:Obj} (q:h.get? b=some ob) (n:H b=none) (hx:b∉ex):∃ sl,h1.get? b=some { ob with slots:=sl }:=by
 by_cases hb:b∈fs
 ·exact u.slot b ob q n hb hx
 ·exact ⟨ob.slots,u.keep b ob q n hb hx⟩
theorem Un.kept (k:∀ b u,h.get? b=some u->h'.get? b=some u):Un fs ex H H h h' :=
 ⟨fun b ob q _ _ _=>k b ob q,fun b ob q _ _ _=>⟨ob.slots,k b ob q⟩,fun _ _ _ n _=>n,fun b ob q _=>⟨ob,k b ob q⟩,fun _ _ q=>q,fun _ _ _ q=>q,fun _ ps q=>⟨#[],by rw [q]; simp⟩⟩
theorem Un.refl:Un fs ex H H h h:=Un.kept fun _ _ q=>q
theorem Un.laid (k:∀ b u,h.get? b=some u->h'.get? b=some u) (hp:h.objs.size<=a) (hn:H a=none):Un fs ex H (upd H a o) h h' where
 keep:=fun b u q _ _ _=>k b u q
 slot:=fun b u q _ _ _=>⟨u.slots,k b u q⟩
 free:=fun b u q n _=>by rw [zG (g1u (g1s (Heap.lt_size q) hp))]; exact n
 there:=fun b u q _=>⟨u,k b u q⟩
 tups:=fun b xs q=>by rw [zG (yb q hn)]; exact q
 frzs:=fun b u xs q=>by rw [zG (yb q hn)]; exact q
 tbls:=fun b ps q=>⟨#[],by rw [zG (yb q hn),q]; simp⟩
theorem Un.write (mu:Mut (H x)) (he:e=x\/H e=some (.own x)) (k:∀ b u,b≠e->h.get? b=some u->h'.get? b=some u) (heo:∃ u,h'.get? e=some u):Un fs ex H (upd H x o) h h':=by
 have hx:∀ b,H b=none->b≠x:=fun b n z=>by subst z; rw [n] at mu; exact mu
 have hb:∀ b,H b=none->b≠e:=fun b n z=>by
  subst z
  rcases he with r | r
  ·exact hx b n r
  ·rw [n] at r; cases r
 have hm:∀ b u,H b=some u->¬ Mut (some u)->b≠x:=fun b u q nm z=>by subst z; rw [q] at mu; exact nm mu
 refine ⟨fun b u q n _ _=>k b u (hb b n) q,fun b u q n _ _=>⟨u.slots,k b u (hb b n) q⟩,fun b u q n _=>by rw [zG (hx b n)]; exact n,fun b u q _=>?_,
  fun b xs q=>by rw [zG (hm b _ q fun z=>z)]; exact q,fun b u xs q=>by rw [zG (hm b _ q fun z=>z)]; exact q,fun b ps q=>⟨#[],by rw [zG (hm b _ q fun z=>z),q]; simp⟩⟩
 by_cases hbe:b=e
 ·subst hbe; exact heo
 ·exact ⟨u,k b u hbe q⟩
end
def trk (h:Heap) (H:Hp):List Addr:=(g0t h.objs.size).filter fun a=>(H a).isSome
def GF (h:Heap) (H:Hp):Heap:=PySem.W.hideAll h (trk h H)
theorem Ja (h:Heap) (H:Hp):(GF h H).objs.size=h.objs.size:=PySem.W.hideAll_size _ _
theorem GE {h:Heap} {H:Hp} {b:Addr} {o:Obj} (e:h.get? b=some o) (n:H b=none):(GF h H).get? b=some o :=
 PySem.W.hideAll_get _ e fun hm=>by
  have q:(H b).isSome=true:=(g1k.mp hm).2
  rw [n] at q; simp at q
theorem Cp {h:Heap} {H:Hp} {b:Addr} {o:Obj} (e:(GF h H).get? b=some o):h.get? b=some o/\H b=none:=by
 have e':h.get? b=some o:=PySem.W.of_hideAll (trk h H) e
 refine ⟨e',?_⟩
 cases q:H b with
 | none=>rfl
 | some x =>
  have hm:b∈trk h H:=g1k.mpr ⟨g1t.mpr (Heap.lt_size e'),by simp [q]⟩
  have z:(GF h H).get? b=none:=PySem.W.hideAll_none (trk h H) hm
  rw [z] at e; cases e
def Dq (g h:Heap) (L:Addr):List (Addr×Obj):=(g0t h.objs.size).filterMap fun a=>if a=L\/(g.get? a).isSome=true then none else (h.get? a).map fun o=>(a,o)
def uQ (g h:Heap) (L d:Addr):List (Addr×Obj):=(Dq g h L).filter fun p=>decide (p.1≠d)
structure Mod (K:W.Frag) (mg:Str->Option Value) (base:Heap):Prop where
 kin:K.In base
 glob:base.Ns mainGlobals mg
 blt:∃ mb,base.Ns builtinsNs mb/\∀ x:Str,x≠"__name__"->mb x=bootBuiltins x
 nolimit:base.NoLimit
structure Cx where
 prog:Program
 w:World
 K:W.Frag
 mg:Str->Option Value
 base:Heap
 A:Around
 N:List Str
 s₀:Shared
 H₀:Hp
 env:Env
 outer:List Env
 stack:List Env
 ex:List Addr
 fn:Str->Bool
 calm:Bool
 pn:List (Addr×Obj)
 xe:Value->Shared->Prop
def frs (l:List Env):List Addr:=l.filterMap (·.frame)
abbrev Cx.fs (X:Cx):List Addr:=frs X.outer
def Vis (sc:Scope) (x:Str):Prop:=sc.names.lookup x=some .local\/sc.names.lookup x=some .cell\/sc.names.lookup x=some .free
def Loc (sc:Scope) (x:Str):Prop:=sc.names.lookup x=some .local\/sc.names.lookup x=some .cell
def RQ (env:Env) (h:Heap) (m:Str->Option Value) (x:Str) (u:Value):Prop :=
 (env.kindOf x=some .local/\m x=some u)\/((env.kindOf x=some .cell\/env.kindOf x=some .free)/\∃ c,env.cells.lookup x=some c/\h.IsCell c (some u))
structure Cx.Ok (X:Cx):Prop where
 mod:Mod X.K X.mg X.base
 kind:X.env.scope.kind=.function
 glob:X.env.globals=mainGlobals
 blt:X.env.builtins=builtinsNs
 above:X.s₀.heap.objs.size<=X.env.locals
 inj:∀ x y c,X.env.cells.lookup x=some c->X.env.cells.lookup y=some c->x=y
 has:∀ x,(X.env.kindOf x=some .cell\/X.env.kindOf x=some .free)->∃ c,X.env.cells.lookup x=some c
 cab:∀ x c,X.fn x=true->X.env.cells.lookup x=some c->X.s₀.heap.objs.size<=c
 hd:X.calm=true->X.A.handled=none
 frames:X.A.frames=some X.stack
 stk:X.stack=X.outer\/(X.stack=X.env :: X.outer/\X.env.frame=some X.env.locals)
 exf:∀ b∈X.ex,b≠X.env.locals/\∀ x c,X.env.cells.lookup x=some c->c≠b
 bs:∀ b o,X.base.get? b=some o->X.s₀.heap.get? b=some o/\X.H₀ b=none
 bsz:X.base.objs.size<=X.s₀.heap.objs.size
 noex:∀ b o,X.base.get? b=some o->b∉X.ex
 exfs:∀ b∈X.ex,b∉X.fs
 funs:X.s₀.heap.FunFrames X.base X.outer
 frf:∀ b∈X.fs,X.H₀ b=none
structure Inv (X:Cx) (pins:List (Addr×Obj)) (σ:List (Option V)) (H:Hp) (s:Shared):Prop where
 ok:X.Ok
 os:s.os=X.s₀.os
 bare:AllBare s.gens
 base:Un X.fs X.ex X.H₀ H X.s₀.heap s.heap
 loc:∃ m,s.heap.Ns X.env.locals m/\∀ (i:Nat) (x:Str) (v:V),X.N[i]? = some x->σ[i]? = some (some v)->Vis X.env.scope x->∃ u,xm v u/\RQ X.env s.heap m x u
 cell:∀ x c,X.env.cells.lookup x=some c->∃ v,s.heap.IsCell c v
 free:H X.env.locals=none
 freeC:∀ x c,X.env.cells.lookup x=some c->H c=none
 pin:∀ p∈X.pn++pins,s.heap.get? p.1=some p.2/\H p.1=none/\p.1≠X.env.locals/\p.1∉X.fs/\∀ v,p.2.data≠.cell v
 hok:HOk X.prog X.w H s.heap
 len:σ.length=X.N.length
section
variable {X:Cx} {pins:List (Addr×Obj)} {σ:List (Option V)} {H H':Hp} {s:Shared} {h':Heap}
theorem Cx.Ok.nofr (ok:X.Ok) {b:Addr} {o:Obj} (e:X.base.get? b=some o):b∉X.fs:=fun hb=>by
 have:=(ok.funs.mem hb).1
 rw [e] at this; cases this
theorem Inv.bs (I:Inv X pins σ H s):∀ b o,X.base.get? b=some o->s.heap.get? b=some o/\H b=none:=fun b o e =>
 ⟨I.base.keep b o (I.ok.bs b o e).1 (I.ok.bs b o e).2 (I.ok.nofr e) (I.ok.noex b o e),I.base.free b o (I.ok.bs b o e).1 (I.ok.bs b o e).2 (I.ok.noex b o e)⟩
theorem Inv.bk (I:Inv X pins σ H s):∀ b o,X.base.get? b=some o->s.heap.get? b=some o:=fun b o e=>(I.bs b o e).1
theorem Inv.mod (I:Inv X pins σ H s):Mod X.K X.mg X.base:=I.ok.mod
theorem Inv.kIn (I:Inv X pins σ H s):X.K.In s.heap:=I.ok.mod.kin.keeps I.bk
theorem Inv.lt (I:Inv X pins σ H s):X.env.locals < s.heap.objs.size:=let ⟨_,hn,_⟩:=I.loc; hn.lt
theorem Inv.sz (I:Inv X pins σ H s):X.s₀.heap.objs.size<=s.heap.objs.size:=g2j I.ok.above (Nat.le_of_lt I.lt)
theorem Inv.nofs (I:Inv X pins σ H s) {a:Addr} (h:s.heap.objs.size<=a):a∉X.fs:=fun hb=>by
 obtain ⟨_,o,ho,_⟩:=I.ok.funs.mem hb
 exact absurd (g1s (Heap.lt_size ho) (g2j I.sz h)) (g3t _)
theorem Inv.cne (I:Inv X pins σ H s):∀ x c,X.env.cells.lookup x=some c->c≠X.env.locals:=fun x c e z=>by
 obtain ⟨v,o,ho,hd⟩:=I.cell x c e
 obtain ⟨m,⟨o',es,ep,ho',hd',_⟩,_⟩:=I.loc
 rw [z,ho'] at ho; cases ho; rw [hd'] at hd; cases hd
theorem Inv.funs (I:Inv X pins σ H s):s.heap.FunFrames X.base X.outer:=by
 have all:∀ (l:List Env),(∀ b∈frs l,b∈X.fs)->X.s₀.heap.FunFrames X.base l->s.heap.FunFrames X.base l:=by
  intro l
  induction l with
  | nil=>intro _ _; trivial
  | cons env r ih =>
   intro hs hl
   obtain ⟨hk,⟨L,o,hf,hn,ho,hd⟩,hr⟩:=hl
   have hL:L∈X.fs:=hs L (by unfold frs; rw [List.filterMap_cons,hf]; exact g0i)
   obtain ⟨sl,e⟩:=I.base.slot L o ho (I.ok.frf L hL) hL fun z=>I.ok.exfs L z hL
   exact ⟨hk,⟨L,_,hf,hn,e,hd⟩,ih (fun b hb=>hs b (by unfold frs; rw [List.filterMap_cons,hf]; exact g0m _ hb)) hr⟩
 exact all X.outer (fun _ hb=>hb) I.ok.funs
theorem Inv.stack (I:Inv X pins σ H s):s.heap.FunFrames X.base X.stack:=by
 rcases I.ok.stk with e | ⟨e,hf⟩
 ·rw [e]; exact I.funs
 ·rw [e]
  obtain ⟨m,hn,_⟩:=I.loc
  refine .cons (by rw [I.ok.kind]; decide) hf hn ?_ I.funs
  exact Heap.get?_none_of_le (g2j I.ok.bsz I.ok.above)
theorem Inv.stkSub (I:Inv X pins σ H s):∀ b∈frs X.stack,b∈X.env.locals :: X.fs:=fun b hb=>by
 rcases I.ok.stk with e | ⟨e,hf⟩
 ·rw [e] at hb; exact g0m _ hb
 ·rw [e] at hb
  unfold frs at hb
  rw [List.filterMap_cons,hf] at hb
  exact hb
theorem Inv.stkFree (I:Inv X pins σ H s):∀ b∈frs X.stack,H b=none:=fun b hb=>by
 rcases g0o.mp (I.stkSub b hb) with e | hb
 ·rw [e]; exact I.free
 ·obtain ⟨_,o,ho,_⟩:=I.ok.funs.mem hb
  exact I.base.free b o ho (I.ok.frf b hb) fun z=>I.ok.exfs b z hb
theorem Inv.step {g':Array GenState} {t':Nat} {d':Drawn} {ch:List Addr} (I:Inv X pins σ H s)
  (hch:∀ b∈ch,(b∈X.ex\/X.s₀.heap.objs.size<=b)/\b≠X.env.locals/\(∀ x c,X.env.cells.lookup x=some c->c≠b)/\∀ p∈X.pn++pins,p.1≠b)
  (keep:∀ b o,b≠X.env.locals->b∉X.fs->b∉ch->s.heap.get? b=some o->H b=none->h'.get? b=some o)
  (slot:∀ b o,b≠X.env.locals->b∈X.fs->b∉ch->s.heap.get? b=some o->H b=none->∃ sl,h'.get? b=some { o with slots:=sl }) (free:∀ b o,b∉ch->s.heap.get? b=some o->H b=none->H' b=none)
  (there:∀ b o,b∉ch->s.heap.get? b=some o->∃ o',h'.get? b=some o')
  (tups:∀ b xs,H b=some (.tup xs)->H' b=some (.tup xs)) (frzs:∀ b o u,H b=some (.frz o u)->H' b=some (.frz o u)) (tbls:∀ b ps,H b=some (.tbl ps)->∃ more,H' b=some (.tbl (ps++more)))
  (ns:∀ m,s.heap.Ns X.env.locals m->h'.Ns X.env.locals m) (hok:HOk X.prog X.w H' h') (hg:AllBare g') :
  Inv X pins σ H' { s with heap:=h',gens:=g',drawn:=d',toks:=t' }:=by
 have neL:∀ b o,X.s₀.heap.get? b=some o->b≠X.env.locals:=fun b o e=>g1u (g1s (Heap.lt_size e) I.ok.above)
 have neC:∀ b o,X.s₀.heap.get? b=some o->b∉X.ex->b∉ch:=fun b o e hx hb=>by
  rcases (hch b hb).1 with z | z
  ·exact hx z
  ·exact absurd (g1s (Heap.lt_size e) z) (g3t _)
 have cellK:∀ x c,X.env.cells.lookup x=some c->∀ v,s.heap.IsCell c v->h'.IsCell c v:=fun x c e v ⟨o,ho,hd⟩=>by
  have nch:c∉ch:=fun z=>(hch c z).2.2.1 x c e rfl
  by_cases hc:c∈X.fs
  ·obtain ⟨sl,q⟩:=slot c o (I.cne x c e) hc nch ho (I.freeC x c e)
   exact ⟨_,q,hd⟩
  ·exact ⟨o,keep c o (I.cne x c e) hc nch ho (I.freeC x c e),hd⟩
 refine ⟨I.ok,I.os,hg,⟨fun b o e n hb hx=>?_,fun b o e n hb hx=>?_,fun b o e n hx=>?_,fun b o e hx=>?_,fun b xs e=>tups b xs (I.base.tups b xs e),fun b o xs e=>frzs b o xs (I.base.frzs b o xs e),fun b ps e=>?_⟩,?_,fun x c e=>?_,?_,fun x c e=>?_,fun p hp=>?_,hok,I.len⟩
 ·exact keep b o (neL b o e) hb (neC b o e hx) (I.base.keep b o e n hb hx) (I.base.free b o e n hx)
 ·obtain ⟨sl,e1⟩:=I.base.slot b o e n hb hx
  obtain ⟨sl',e2⟩:=slot b _ (neL b o e) hb (neC b o e hx) e1 (I.base.free b o e n hx)
  exact ⟨sl',e2⟩
 ·obtain ⟨o',e1⟩:=I.base.there b o e hx
  exact free b o' (neC b o e hx) e1 (I.base.free b o e n hx)
 ·obtain ⟨o',e1⟩:=I.base.there b o e hx
  exact there b o' (neC b o e hx) e1
 ·obtain ⟨m1,e1⟩:=I.base.tbls b ps e
  obtain ⟨m2,e2⟩:=tbls b _ e1
  exact ⟨m1++m2,by rw [e2,Array.append_assoc]⟩
 ·obtain ⟨m,hn,hl⟩:=I.loc
  refine ⟨m,ns m hn,fun i x v e1 e2 e3=>?_⟩
  obtain ⟨u,r,l⟩:=hl i x v e1 e2 e3
  refine ⟨u,r,?_⟩
  rcases l with l | ⟨k,c,e,z⟩
  ·exact .inl l
  ·exact .inr ⟨k,c,e,cellK x c e _ z⟩
 ·obtain ⟨v,z⟩:=I.cell x c e
  exact ⟨v,cellK x c e v z⟩
 ·obtain ⟨m,⟨o,_,_,ho,_⟩,_⟩:=I.loc
  exact free _ o (fun z=>(hch _ z).2.1 rfl) ho I.free
 ·obtain ⟨v,o,ho,hd⟩:=I.cell x c e
  exact free c o (fun z=>(hch c z).2.2.1 x c e rfl) ho (I.freeC x c e)
 ·obtain ⟨e,n,ne,nf,d⟩:=I.pin p hp
  have nch:p.1∉ch:=fun z=>(hch p.1 z).2.2.2 p hp rfl
  exact ⟨keep p.1 p.2 ne nf nch e n,free p.1 p.2 nch e n,ne,nf,d⟩
theorem Inv.un {t':Nat} (I:Inv X pins σ H s) (u:Un X.fs [] H H' s.heap h') (hok:HOk X.prog X.w H' h'):Inv X pins σ H' { s with heap:=h',toks:=t' }:=by
 obtain ⟨m,⟨o,es,ep,ho,r⟩,_⟩:=id I.loc
 obtain ⟨sl,hL⟩:=u.any ho I.free (by simp)
 exact I.step (g':=s.gens) (d':=s.drawn) (ch:=[]) (fun _ z=>nomatch z) (fun b o _ hb _ e n=>u.keep b o e n hb (by simp)) (fun b o _ hb _ e n=>u.slot b o e n hb (by simp)) (fun b o _ e n=>u.free b o e n (by simp)) (fun b o _ e=>u.there b o e (by simp)) u.tups u.frzs u.tbls (fun m' hm=>by
  obtain ⟨o',es',ep',ho',r'⟩:=hm
  rw [ho] at ho'; cases ho'
  exact ⟨_,es',ep',hL,r'⟩) hok I.bare
theorem Inv.call {g':Array GenState} {t':Nat} {d':Drawn} {ch:List Addr} (I:Inv X pins σ H s) (u:Un (frs X.stack) ch H H' s.heap h') (hok:HOk X.prog X.w H' h') (hg:AllBare g')
  (hch:∀ b∈ch,(b∈X.ex\/X.s₀.heap.objs.size<=b)/\b≠X.env.locals/\(∀ x c,X.env.cells.lookup x=some c->c≠b)/\∀ p∈X.pn++pins,p.1≠b) :
  Inv X pins σ H' { s with heap:=h',gens:=g',drawn:=d',toks:=t' }:=by
 obtain ⟨m,⟨o,es,ep,ho,r⟩,_⟩:=id I.loc
 obtain ⟨sl,hL⟩:=u.any ho I.free fun z=>(hch _ z).2.1 rfl
 exact I.step (ch:=ch) hch (fun b o hL hb hc e n=>u.keep b o e n (fun z=>(g0o.mp (I.stkSub b z)).elim hL hb) hc) (fun b o _ _ hc e n=>u.any e n hc) (fun b o hc e n=>u.free b o e n hc) (fun b o hc e=>u.there b o e hc) u.tups u.frzs u.tbls (fun m' hm=>by
  obtain ⟨o',es',ep',ho',r'⟩:=hm
  rw [ho] at ho'; cases ho'
  exact ⟨_,es',ep',hL,r'⟩) hok hg
theorem Inv.turned {t':Nat} {it:Addr} (I:Inv X pins σ H s) (k:∀ b o,b≠it->s.heap.get? b=some o->h'.get? b=some o) (hn:H it=none) (hL:it≠X.env.locals)
  (h1:it∈X.ex\/X.s₀.heap.objs.size<=it) (h2:∀ x c,X.env.cells.lookup x=some c->c≠it) (h3:∀ p∈X.pn++pins,p.1≠it):Inv X pins σ H { s with heap:=h',toks:=t' }:=by
 have nit:∀ b u,H b=some u->b≠it:=fun b u e z=>by rw [z,hn] at e; cases e
 refine I.step (g':=s.gens) (d':=s.drawn) (ch:=[it]) (fun b hb=>?_) (fun b o _ _ hc e _=>k b o (fun z=>hc (by simp [z])) e) (fun b o _ _ hc e _=>⟨o.slots,k b o (fun z=>hc (by simp [z])) e⟩) (fun _ _ _ _ n=>n)
  (fun b o hc e=>⟨o,k b o (fun z=>hc (by simp [z])) e⟩) (fun _ _ e=>e) (fun _ _ _ e=>e) (fun b ps e=>⟨#[],by rw [e]; simp⟩) (fun m hm=>?_) (fun b u e=>?_) I.bare
 ·have e:b=it:=by simpa using hb
  subst e
  exact ⟨h1,hL,h2,h3⟩
 ·obtain ⟨o,es,ep,ho,r⟩:=hm
  exact ⟨o,es,ep,k _ o (Ne.symm hL) ho,r⟩
 ·refine (I.hok b u e).stay (fun c v hc q=>k c v ?_ q) (fun _ q=>q) fun _ _ q=>q
  rcases hc with z | z
  ·rw [z]; exact nit b u e
  ·exact nit c _ z
theorem Inv.tok (I:Inv X pins σ H s) (t:Nat):Inv X pins σ H { s with toks:=t }:=I.un (h':=s.heap) (t':=t) Un.refl I.hok
theorem Inv.kept {t':Nat} (I:Inv X pins σ H s) (k:∀ b u,s.heap.get? b=some u->h'.get? b=some u):Inv X pins σ H { s with heap:=h',toks:=t' }:=I.un (Un.kept k) (I.hok.kept k)
theorem Inv.laid {a:Addr} {o:HO} {t':Nat} (I:Inv X pins σ H s) (k:∀ b u,s.heap.get? b=some u->h'.get? b=some u) (hp:s.heap.objs.size<=a) (new:xY X.prog X.w (upd H a o) h' a o) :
  Inv X pins σ (upd H a o) { s with heap:=h',toks:=t' }:=I.un (Un.laid k hp (I.hok.fresh hp)) (I.hok.laid k hp new)
theorem Inv.write {x e:Addr} {o:HO} {t':Nat} (I:Inv X pins σ H s) (mu:Mut (H x)) (he:e=x\/H e=some (.own x)) (k:∀ b u,b≠e->s.heap.get? b=some u->h'.get? b=some u) (heo:∃ u,h'.get? e=some u)
  (new:xY X.prog X.w (upd H x o) h' x o):Inv X pins σ (upd H x o) { s with heap:=h',toks:=t' }:=I.un (Un.write mu he k heo) (I.hok.write mu he k heo new)
theorem Inv.pins_of {pins':List (Addr×Obj)} (I:Inv X pins σ H s) (h:∀ p∈pins',s.heap.get? p.1=some p.2/\H p.1=none/\p.1≠X.env.locals/\p.1∉X.fs/\∀ v,p.2.data≠.cell v):Inv X pins' σ H s :=
 ⟨I.ok,I.os,I.bare,I.base,I.loc,I.cell,I.free,I.freeC,fun p hp=>(g1o.mp hp).elim (fun z=>I.pin p (g1w _ z)) (h p),I.hok,I.len⟩
theorem Vh {N:List Str} (hN:N.Nodup) {i j:Nat} {x:Str} (a:N[i]? = some x) (b:N[j]? = some x):i=j:=by
 obtain ⟨h1,e1⟩:=g0v.mp a
 obtain ⟨h2,e2⟩:=g0v.mp b
 exact (List.getElem_inj hN).mp (e1.trans e2.symm)
theorem Y0 {M:Model} {A:Around} {E:Value->Shared->Prop} {i:Nat} {x:Str} {v:V} {u:Value} {Q:Unit->Shared->Prop} (I:Inv X pins σ H s) (hN:X.N.Nodup) (hi:X.N[i]? = some x) (hx:Loc X.env.scope x) (r:xm v u)
  (h:∀ s',Inv X pins (σ.set i (some v)) H s'->(∃ a,Heap.SameBut a s.heap s'.heap/\(a=X.env.locals\/X.env.cells.lookup x=some a))->Q () s') (hf:X.fn x=true\/X.env.scope.names.lookup x=some .local:=by first | exact .inl rfl | exact .inr rfl | assumption):wpAny M A (storeName X.env x u) Q E s:=by
 obtain ⟨m,hn,hl⟩:=id I.loc
 have hcls:(X.env.scope.kind==.class||(X.env.scope.kind==.module&&X.env.locals != X.env.globals))=false:=by rw [I.ok.kind]; rfl
 have hiσ:i < σ.length:=by rw [I.len]; exact (g0v.mp hi).1
 have cne:=I.cne
 have tracked:∀ {a:Addr} {h':Heap},(∃ o,s.heap.get? a=some o/\H a=none)->Heap.SameBut a s.heap h'->HOk X.prog X.w H h':=fun {a h'} ha hs b ob e=>by
  obtain ⟨_,_,hfree⟩:=ha
  refine (I.hok b ob e).stay (fun c w' hc q=>(hs.2 c ?_).trans q) (fun _ q=>q) fun _ _ q=>q
  rintro rfl
  rcases hc with rfl | hc
  ·rw [hfree] at e; cases e
  ·rw [hfree] at hc; cases hc
 rcases hx with hk | hk
 ·refine wpAny_storeName_local hk hn (fun h' hn' hs=>?_) hcls
  obtain ⟨oL,_,_,hoL,_⟩:=id hn
  refine h _ ⟨I.ok,I.os,I.bare,⟨fun b o e n hb hx=>?_,fun b o e n hb hx=>?_,I.base.free,fun b o e hx=>?_,I.base.tups,I.base.frzs,I.base.tbls⟩,⟨_,hn',fun j y v' e1 e2 e3=>?_⟩,fun y c e=>?_,I.free,I.freeC,fun p hp=>?_,tracked ⟨oL,hoL,I.free⟩ hs,by simpa using I.len⟩ ⟨_,hs,.inl rfl⟩
  ·exact (hs.2 b (g1u (g1s (Heap.lt_size e) I.ok.above))).trans (I.base.keep b o e n hb hx)
  ·obtain ⟨sl,e1⟩:=I.base.slot b o e n hb hx
   exact ⟨sl,(hs.2 b (g1u (g1s (Heap.lt_size e) I.ok.above))).trans e1⟩
  ·obtain ⟨o',e1⟩:=I.base.there b o e hx
   exact ⟨o',(hs.2 b (g1u (g1s (Heap.lt_size e) I.ok.above))).trans e1⟩
  ·by_cases hj:j=i
   ·subst hj
    rw [hi] at e1; cases e1
    rw [List.getElem?_set_self hiσ] at e2
    cases e2
    exact ⟨u,r,.inl ⟨hk,by simp⟩⟩
   ·rw [g2y (Ne.symm hj)] at e2
    obtain ⟨u',r',q⟩:=hl j y v' e1 e2 e3
    refine ⟨u',r',?_⟩
    rcases q with ⟨k,e⟩ | ⟨k,c,e,z⟩
    ·refine .inl ⟨k,?_⟩
     have:y≠x:=fun e=>hj (Vh hN e1 (e ▸ hi))
     simp [this,e]
    ·exact .inr ⟨k,c,e,z.sameBut hs (cne y c e)⟩
  ·obtain ⟨w',z⟩:=I.cell y c e
   exact ⟨w',z.sameBut hs (cne y c e)⟩
  ·obtain ⟨e,n,ne,nf,d⟩:=I.pin p hp
   exact ⟨(hs.2 p.1 ne).trans e,n,ne,nf,d⟩
 ·have hfn:X.fn x=true:=by
   rcases hf with z | z
   ·exact z
   ·rw [z] at hk; cases hk
  obtain ⟨c,hc⟩:=I.ok.has x (.inl hk)
  obtain ⟨w',z⟩:=I.cell x c hc
  refine wpAny_storeName_cell I.ok.kind hk hc z (fun h' hc' hs=>?_)
  obtain ⟨oc,hoc,hocd⟩:=id z
  refine h { s with heap:=h' } ⟨I.ok,I.os,I.bare,⟨fun b o e n hb hx=>?_,fun b o e n hb hx=>?_,I.base.free,fun b o e hx=>?_,I.base.tups,I.base.frzs,I.base.tbls⟩,⟨m,hn.sameBut hs (Ne.symm (cne x c hc)),fun j y v' e1 e2 e3=>?_⟩,fun y c' e=>?_,I.free,I.freeC,fun p hp=>?_,tracked ⟨oc,hoc,I.freeC x c hc⟩ hs,by simpa using I.len⟩ ⟨c,hs,.inr hc⟩
  ·exact (hs.2 b (g1u (g1s (Heap.lt_size e) (I.ok.cab x c hfn hc)))).trans (I.base.keep b o e n hb hx)
  ·obtain ⟨sl,e1⟩:=I.base.slot b o e n hb hx
   exact ⟨sl,(hs.2 b (g1u (g1s (Heap.lt_size e) (I.ok.cab x c hfn hc)))).trans e1⟩
  ·obtain ⟨o',e1⟩:=I.base.there b o e hx
   exact ⟨o',(hs.2 b (g1u (g1s (Heap.lt_size e) (I.ok.cab x c hfn hc)))).trans e1⟩
  ·by_cases hj:j=i
   ·subst hj
    rw [hi] at e1; cases e1
    rw [List.getElem?_set_self hiσ] at e2
    cases e2
    exact ⟨u,r,.inr ⟨.inl hk,c,hc,hc'⟩⟩
   ·rw [g2y (Ne.symm hj)] at e2
    obtain ⟨u',r',q⟩:=hl j y v' e1 e2 e3
    refine ⟨u',r',?_⟩
    rcases q with q | ⟨k,c',e,z'⟩
    ·exact .inl q
    ·refine .inr ⟨k,c',e,z'.sameBut hs ?_⟩
     rintro rfl
     exact hj (Vh hN e1 (I.ok.inj _ _ _ e hc ▸ hi))
  ·by_cases hcc:c'=c
   ·subst hcc; exact ⟨_,hc'⟩
   ·obtain ⟨w2,z2⟩:=I.cell y c' e
    exact ⟨w2,z2.sameBut hs hcc⟩
  ·obtain ⟨e,n,ne,nf,d⟩:=I.pin p hp
   refine ⟨(hs.2 p.1 ?_).trans e,n,ne,nf,d⟩
   intro q
   rw [q,hoc] at e
   have q':oc=p.2:=g3e.inj e
   exact d w' (by rw [<- q']; exact hocd)
theorem Ye {M:Model} {A:Around} {E:Value->Shared->Prop} {i:Nat} {x:Str} {v:V} {u:Value} {Q:Unit->Shared->Prop} (I:Inv X pins σ H s) (hN:X.N.Nodup) (hi:X.N[i]? = some x) (hx:Loc X.env.scope x) (r:xm v u)
  (h:∀ s',Inv X pins (σ.set i (some v)) H s'->Q () s') (hf:X.fn x=true\/X.env.scope.names.lookup x=some .local:=by first | exact .inl rfl | exact .inr rfl | assumption):wpAny M A (storeName X.env x u) Q E s :=
 Y0 I hN hi hx r (fun s' I' _=>h s' I') hf
theorem Inv.call' {s':Shared} {ch:List Addr} (I:Inv X pins σ H s) (ho:s'.os=s.os) (u:Un (frs X.stack) ch H H' s.heap s'.heap) (hok:HOk X.prog X.w H' s'.heap) (hg:AllBare s'.gens)
  (hch:∀ b∈ch,(b∈X.ex\/X.s₀.heap.objs.size<=b)/\b≠X.env.locals/\(∀ x c,X.env.cells.lookup x=some c->c≠b)/\∀ p∈X.pn++pins,p.1≠b):Inv X pins σ H' s':=by
 obtain ⟨h',g',d',t',o'⟩:=s'
 have e:o'=s.os:=ho
 subst e
 exact I.call (g':=g') (t':=t') (d':=d') u hok hg hch
end
abbrev XK:=Value->Option Addr->Hp->Prop
abbrev St:=List (Option V)
abbrev VK:=V->Hp->Prop
abbrev TE:=St->Hp->VK->Prop
abbrev TT:=St->Hp->(Bool->Hp->Prop)->Prop
abbrev TA:=St->Hp->(List V->Hp->Prop)->Prop
structure Ends where
 nx:St->Hp->Prop
 rt:VK
 bk:St->Hp->Prop:=fun _ _=>False
 ct:St->Hp->Prop:=fun _ _=>False
abbrev TS:=Ends->St->Hp->Prop
def EP (X:Cx) (pins:List (Addr×Obj)) (σ:St) (Q:VK) (u:Value) (s':Shared):Prop:=∃ v H',Inv X pins σ H' s'/\xm v u/\Q v H'
def TP (X:Cx) (pins:List (Addr×Obj)) (σ:St) (Q:Bool->Hp->Prop) (b:Bool) (s':Shared):Prop:=∃ H',Inv X pins σ H' s'/\Q b H'
def AP (X:Cx) (pins:List (Addr×Obj)) (σ:St) (Q:List V->Hp->Prop) (us:List Value) (s':Shared):Prop:=∃ vs H',Inv X pins σ H' s'/\xh vs us/\Q vs H'
def SP (X:Cx) (pins:List (Addr×Obj)) (D:Ends) (f:Flow) (s':Shared):Prop :=
 match f with
 | .next=>∃ σ' H',Inv X pins σ' H' s'/\D.nx σ' H'
 | .brk=>∃ σ' H',Inv X pins σ' H' s'/\D.bk σ' H'
 | .cont=>∃ σ' H',Inv X pins σ' H' s'/\D.ct σ' H'
 | .ret u=>∃ v σ' H',Inv X pins σ' H' s'/\xm v u/\D.rt v H'
def PE (X:Cx) (e:Expr) (t:TE):Prop :=
 ∀ (pins:List (Addr×Obj)) (s:Shared) (σ:St) (H:Hp) (Q:VK),Inv X pins σ H s->t σ H Q->wpAny (model X.prog X.w) X.A (eval e X.env) (EP X pins σ Q) X.xe s
def PT (X:Cx) (e:Expr) (t:TT):Prop :=
 ∀ (pins:List (Addr×Obj)) (s:Shared) (σ:St) (H:Hp) (Q:Bool->Hp->Prop),Inv X pins σ H s->t σ H Q->wpAny (model X.prog X.w) X.A (isTrue e X.env (eval e X.env)) (TP X pins σ Q) X.xe s
def PW (X:Cx) (e:Expr) (t:TT):Prop :=
 ∀ (whole:Sem Value) (pins:List (Addr×Obj)) (s:Shared) (σ:St) (H:Hp) (Q:Bool->Hp->Prop),Inv X pins σ H s->t σ H Q->wpAny (model X.prog X.w) X.A (isTrue e X.env whole) (TP X pins σ Q) X.xe s
theorem PW.pt {X:Cx} {e:Expr} {t:TT} (h:PW X e t):PT X e t:=h _
def PA (X:Cx) (es:List Expr) (t:TA):Prop :=
 ∀ (pos:Pos) (pins:List (Addr×Obj)) (s:Shared) (σ:St) (H:Hp) (Q:List V->Hp->Prop),Inv X pins σ H s->t σ H Q->wpAny (model X.prog X.w) X.A (spliced (backTo pos (starEach es X.env))) (AP X pins σ Q) X.xe s
def PS (X:Cx) (st:Stmt) (t:TS):Prop :=
 ∀ (pins:List (Addr×Obj)) (s:Shared) (σ:St) (H:Hp) (D:Ends),Inv X pins σ H s->t D σ H->wpAny (model X.prog X.w) X.A (exec st X.env) (SP X pins D) X.xe s
def PSs (X:Cx) (st:List Stmt) (t:TS):Prop :=
 ∀ (pins:List (Addr×Obj)) (s:Shared) (σ:St) (H:Hp) (D:Ends),Inv X pins σ H s->t D σ H->wpAny (model X.prog X.w) X.A (execs st X.env) (SP X pins D) X.xe s
theorem thn {α:Type} {t:Sem α} {Q Q':α->Shared->Prop} {M:Model} {A:Around} {E:Value->Shared->Prop} {s:Shared} (h:wpAny M A t Q E s) (hQ:∀ a s,Q a s->Q' a s):wpAny M A t Q' E s:=wpAny_mono h hQ fun _ _ x=>x
section
variable {X:Cx}
theorem bin {a b:Expr} {ta tb:TE} (ha:PE X a ta) (hb:PE X b tb) {pins:List (Addr×Obj)} {s:Shared} {σ:St} {H:Hp} {R:V->V->Hp->Prop} (I:Inv X pins σ H s) (h:ta σ H fun x H1=>tb σ H1 fun y H2=>R x y H2)
  {α:Type} {Q:α->Shared->Prop} {f:Value->Value->Sem α}
  (hf:∀ v u s2 x y H2,Inv X pins σ H2 s2->xm x v->xm y u->R x y H2->wpAny (model X.prog X.w) X.A (f v u) Q X.xe s2) :
  wpAny (model X.prog X.w) X.A (eval a X.env) (fun v s₁=>wpAny (model X.prog X.w) X.A (eval b X.env) (fun u s₂=>wpAny (model X.prog X.w) X.A (f v u) Q X.xe s₂) X.xe s₁) X.xe s:=by
 refine thn (ha pins s σ H _ I h) fun v s1 ⟨x,H1,I1,r1,q1⟩=>?_
 refine thn (hb pins s1 σ H1 _ I1 q1) fun u s2 ⟨y,H2,I2,r2,q2⟩=>?_
 exact hf v u s2 x y H2 I2 r1 r2 q2
def PB (i:Nat):TE:=fun σ H Q=>∃ v,σ[i]? = some (some v)/\Q v H
def tC (v:V):TE:=fun _ H Q=>Q v H
theorem uj {i:Nat} {x:Str} {pos:Pos} (hN:X.N[i]? = some x) (hv:Vis X.env.scope x) (hd:(x==("__debug__":Str))=false:=by decide) (hcd:(x==("__classdict__":Str))=false:=by decide):PE X (.Name x pos) (PB i):=by
 intro pins s σ H Q I h
 obtain ⟨v,e,h⟩:=h
 obtain ⟨m,hn,hl⟩:=I.loc
 obtain ⟨u,r,l⟩:=hl i x v hN e hv
 have fin:EP X pins σ Q u s:=⟨v,H,I,r,h⟩
 rcases l with ⟨hk,hm⟩ | ⟨hk,c,hc,hcell⟩
 ·exact wpAny_Name (wpAny_loadName_local I.ok.kind hk hn hm fin) hd
 ·rcases hk with hk | hk
  ·exact wpAny_Name (wpAny_loadName_cell I.ok.kind hk hc hcell fin) hd
  ·exact wpAny_Name (wpAny_loadName_free I.ok.kind hk hc hcell fin hcd) hd
theorem FC {i j pos}:PE X (.Constant (.int i) j pos) (tC (.int i)):=fun _ _ _ H _ I h=>wpAny_Constant_int ⟨.int i,H,I.tok _,⟨_,rfl⟩,h⟩
theorem N7 {b j pos}:PE X (.Constant (.bool b) j pos) (tC (.bl b)):=fun _ _ _ H _ I h=>Constant_bool ⟨.bl b,H,I,rfl,h⟩
theorem Fz {j pos}:PE X (.Constant .none j pos) (tC .non):=fun _ _ _ H _ I h=>Constant_none ⟨.non,H,I,rfl,h⟩
theorem Fw {x j pos}:PE X (.Constant (.str x) j pos) (tC (.str x)):=fun _ _ _ H _ I h=>Calls.Constant_str ⟨.str x,H,I.tok _,⟨_,rfl⟩,h⟩
def Gl (X:Cx) (x:Str):Prop:=X.env.kindOf x=some .globalImplicit
theorem QW {E:Value->Shared->Prop} {pins:List (Addr×Obj)} {s:Shared} {σ:St} {H:Hp} {x:Str} {u:Value} {pos:Pos} {Q:Value->Shared->Prop} (I:Inv X pins σ H s) (hg:Gl X x) (hm:X.mg x=some u) (h:Q u s)
  (hd:(x==("__debug__":Str))=false:=by decide):wpAny (model X.prog X.w) X.A (eval (.Name x pos) X.env) Q E s :=
 Calls.Name_function_global I.ok.kind hg (Calls.loadGlobal_global (by rw [I.ok.glob]; exact I.mod.glob.keeps I.bk) hm h) hd
theorem Xp {E:Value->Shared->Prop} {pins:List (Addr×Obj)} {s:Shared} {σ:St} {H:Hp} {x:Str} {u:Value} {pos:Pos} {Q:Value->Shared->Prop} (I:Inv X pins σ H s) (hg:Gl X x) (hm:X.mg x=none) (hv:bootBuiltins x=some u) (h:Q u s)
  (hn:x≠"__name__":=by decide) (hd:(x==("__debug__":Str))=false:=by decide):wpAny (model X.prog X.w) X.A (eval (.Name x pos) X.env) Q E s:=by
 obtain ⟨mb,h1,h2⟩:=I.mod.blt
 exact Calls.Name_function_global I.ok.kind hg (Calls.loadGlobal_builtin (by rw [I.ok.glob]; exact I.mod.glob.keeps I.bk) hm (by rw [I.ok.blt]; exact h1.keeps I.bk) ((h2 x hn).trans hv) h) hd
theorem Yn {x:Str} {v:V} {u:Value} {pos:Pos} (hg:Gl X x) (hm:X.mg x=some u) (r:xm v u) (hd:(x==("__debug__":Str))=false:=by decide):PE X (.Name x pos) (tC v) :=
 fun _ _ _ H _ I h=>QW I hg hm ⟨v,H,I,r,h⟩ hd
variable {a b:Expr} {ta tb:TE} {pos:Pos}
def PC (X:Cx) (op:CmpOp) (a b:Expr) (t:TE):Prop :=
 ∀ (pins:List (Addr×Obj)) (s:Shared) (σ:St) (H:Hp) (Q:VK),Inv X pins σ H s->t σ H Q →
  wpAny (model X.prog X.w) X.A (eval a X.env) (fun v s₁=>wpAny (model X.prog X.w) X.A (eval b X.env) (fun u s₂=>wpAny (model X.prog X.w) X.A (compareOp op v u) (EP X pins σ Q) X.xe s₂) X.xe s₁) X.xe s
theorem Gg (b:Expr) {op:CmpOp} (h:op≠.In) (h2:op≠.NotIn):behindInMarks op b=false:=by
 have e1:(op==CmpOp.In)=false:=by cases op <;> first | rfl | exact absurd rfl h
 have e2:(op==CmpOp.NotIn)=false:=by cases op <;> first | rfl | exact absurd rfl h2
 cases b <;> simp [behindInMarks,e1,e2]
def tB (t:TE):TT:=fun σ H Q=>t σ H fun x H1=>∃ c,x=.bl c/\Q c H1
theorem Hr {op:CmpOp} {t:TE} (h:PC X op a b t) (h1:behindInMarks op b=false:=by first | exact Gg _ (by decide) (by decide) | rfl):PT X (.Compare a [op] [b] pos) (tB t):=by
 intro pins s σ H Q I hw
 refine wpAny_isTrue_Compare1 (thn (h pins s σ H _ I hw) fun v s1 h1=>thn h1 fun u s2 h2=>thn h2 fun c s3 ⟨x,H1,I1,r1,q1⟩=>?_) h1
 obtain ⟨d,rfl,q⟩:=q1
 cases r1
 exact wpAny_truthy_bool ⟨H1,I1,q⟩
theorem Fp {e:Expr} {t:TE} (h:PE X e t) (he:∀ whole,isTrue e X.env whole=(do let v ← whole; standAt e.pos; holding [v] (truthy v)):=by intro _; rfl):PT X e (tB t):=by
 intro pins s σ H Q I hw
 refine isTrue_plain (thn (h pins s σ H _ I hw) fun v s1 ⟨x,H1,I1,r1,q1⟩=>?_) (he _)
 obtain ⟨d,rfl,q⟩:=q1
 cases r1
 exact wpAny_truthy_bool ⟨H1,I1,q⟩
variable {tA tB':TT} {uQ:List Expr}
def Rk (t u:TT):TT:=fun σ H Q=>t σ H fun c H1=>if c=true then u σ H1 Q else Q false H1
def tOr (t u:TT):TT:=fun σ H Q=>t σ H fun c H1=>if c=true then Q true H1 else u σ H1 Q
def Rc (t:TT):TT:=fun σ H Q=>t σ H fun c H1=>Q (!c) H1
theorem BF (ha:PT X a tA):PW X (.BoolOp .And [a] pos) tA:=by
 intro wh pins s σ H Q I h
 refine isTrue_and (thn (ha pins s σ H Q I h) fun c s1 e=>?_)
 cases c with
 | true=>exact isTrue_and_nil e
 | false=>exact e
theorem Fk (ha:PT X a tA):PW X (.BoolOp .Or [a] pos) tA:=by
 intro wh pins s σ H Q I h
 refine isTrue_or (thn (ha pins s σ H Q I h) fun c s1 e=>?_)
 cases c with
 | false=>exact isTrue_or_nil e
 | true=>exact e
theorem Fl (ha:PT X a tA) (hb:PW X (.BoolOp .And (b :: uQ) pos) tB'):PW X (.BoolOp .And (a :: b :: uQ) pos) (Rk tA tB'):=by
 intro wh pins s σ H Q I h
 refine isTrue_and (thn (ha pins s σ H _ I h) fun c s1 ⟨H1,I1,q1⟩=>?_)
 cases c with
 | true=>exact hb wh pins s1 σ H1 Q I1 q1
 | false=>exact ⟨H1,I1,q1⟩
theorem N0 (ha:PT X a tA) (hb:PW X (.BoolOp .Or (b :: uQ) pos) tB'):PW X (.BoolOp .Or (a :: b :: uQ) pos) (tOr tA tB'):=by
 intro wh pins s σ H Q I h
 refine isTrue_or (thn (ha pins s σ H _ I h) fun c s1 ⟨H1,I1,q1⟩=>?_)
 cases c with
 | true=>exact ⟨H1,I1,q1⟩
 | false=>exact hb wh pins s1 σ H1 Q I1 q1
theorem Fq (ha:PT X a tA):PT X (.UnaryOp .Not a pos) (Rc tA):=by
 intro pins s σ H Q I h
 exact isTrue_not (ha pins s σ H (fun c H1=>Q (!c) H1) I h)
def Rb (ta tb:TE):TE:=fun σ H Q=>ta σ H fun x H1=>∃ c,x=.bl c/\if c=true then Q (.bl true) H1 else tb σ H1 Q
theorem Fy {op} {t:TE} (h:PE X a t):PE X (.BoolOp op [a] pos) t:=fun pins s σ H Q I hw=>BoolOp_one (h pins s σ H Q I hw)
theorem N5 (ha:PE X a ta) (hb:PE X (.BoolOp .Or (b :: uQ) pos) tb):PE X (.BoolOp .Or (a :: b :: uQ) pos) (Rb ta tb):=by
 intro pins s σ H Q I h
 refine BoolOp_or (thn (ha pins s σ H _ I h) fun v s1 ⟨x,H1,I1,r1,q1⟩=>?_)
 obtain ⟨c,rfl,q1⟩:=q1
 cases r1
 refine wpAny_truthy_bool ?_
 cases c with
 | false=>exact hb pins s1 σ H1 Q I1 q1
 | true=>exact ⟨.bl true,H1,I1,rfl,q1⟩
end
def SqL (K:W.Frag) (H:Hp) (a:Addr) (xs:List V):Prop :=
 Rd H a (.lst xs) ∨
  ∃ (o:Obj) (its:Array Value) (n:Nat),K.lookup a=some o/\o.cls=.type "list"/\o.dict=none/\o.data=.seq its n/\its.size<=sizeLine/\xh xs its.toList
def SqT (K:W.Frag) (H:Hp) (a:Addr) (xs:List V):Prop :=
 Rd H a (.tup xs) ∨
  ∃ (o:Obj) (its:Array Value) (n:Nat),K.lookup a=some o/\o.cls=.type "tuple"/\o.data=.seq its n/\its.size<=sizeLine/\xh xs its.toList
def RP:Value->Option V
 | .none=>some .non
 | .bool b=>some (.bl b)
 | .int i _=>some (.int i)
 | .str x _=>some (.str x)
 | .bytes b _=>some (.byt b)
 | .float b _=>some (.flt b)
 | .ref a=>some (.ref a)
 | .type n=>some (.ty n)
 | _=>none
theorem xm.abs {x:V} {u:Value} (r:xm x u):RP u=some x:=by
 cases x with
 | non=>cases r; rfl
 | bl _=>cases r; rfl
 | int _=>obtain ⟨t,rfl⟩:=r; rfl
 | str _=>obtain ⟨t,rfl⟩:=r; rfl
 | byt _=>obtain ⟨t,rfl⟩:=r; rfl
 | flt _=>obtain ⟨t,rfl⟩:=r; rfl
 | ref _=>cases r; rfl
 | ty _=>cases r; rfl
theorem xm.inj {x y:V} {u:Value} (r:xm x u) (q:xm y u):x=y:=g3e.inj (r.abs.symm.trans q.abs)
theorem xh.inj:∀ {xs ys:List V} {us:List Value},xh xs us->xh ys us->xs=ys
 | _,_,_,.nil,.nil=>rfl
 | _,_,_,.cons r t,.cons r' t'=>by rw [r.inj r',xh.inj t t']
section
variable {X:Cx} {pins:List (Addr×Obj)} {σ:St} {H:Hp} {s:Shared} {a:Addr} {xs ys:List V}
theorem SqL.of {K:W.Frag} (h:H a=some (.lst xs)):SqL K H a xs:=.inl (.inl h)
theorem SqT.of {K:W.Frag} (h:H a=some (.tup xs)):SqT K H a xs:=.inl (.inl h)
theorem Inv.list (I:Inv X pins σ H s) (h:SqL X.K H a xs):∃ its:List Value,xh xs its/\PlainL s.heap a its.toArray/\xs.length<=sizeLine:=by
 rcases h with h | ⟨o,its,n,hk,hc,hd,hs,hz,r⟩
 ·obtain ⟨z,its,n,r,e⟩:=h.ok I.hok
  exact ⟨its,r,⟨_,n,e,rfl,rfl,rfl⟩,z⟩
 ·refine ⟨its.toList,r,⟨o,n,I.kIn a o hk,hc,hd,by simpa using hs⟩,?_⟩
  have e:=r.length
  simp only [Array.length_toList] at e
  omega
theorem Inv.tuple (I:Inv X pins σ H s) (h:SqT X.K H a xs):∃ its:List Value,xh xs its/\IsTup s.heap a its.toArray/\xs.length<=sizeLine:=by
 rcases h with h | ⟨o,its,n,hk,hc,hs,hz,r⟩
 ·obtain ⟨z,its,r,p⟩:=h.ok I.hok
  exact ⟨its,r,p,z⟩
 ·refine ⟨its.toList,r,⟨o,I.kIn a o hk,hc,n,by simpa using hs⟩,?_⟩
  have e:=r.length
  simp only [Array.length_toList] at e
  omega
theorem Inv.list_inj (I:Inv X pins σ H s) (h:SqL X.K H a xs) (h':SqL X.K H a ys):xs=ys:=by
 obtain ⟨its,r,⟨o,n,e,_,_,d⟩,_⟩:=I.list h
 obtain ⟨its',r',⟨o',n',e',_,_,d'⟩,_⟩:=I.list h'
 rw [e] at e'; cases e'
 rw [d] at d'
 injection d' with d1 _
 have:its=its':=by simpa using congrArg Array.toList d1
 subst this
 exact r.inj r'
theorem Inv.tuple_inj (I:Inv X pins σ H s) (h:SqT X.K H a xs) (h':SqT X.K H a ys):xs=ys:=by
 obtain ⟨its,r,⟨o,e,_,n,d⟩,_⟩:=I.tuple h
 obtain ⟨its',r',⟨o',e',_,n',d'⟩,_⟩:=I.tuple h'
 rw [e] at e'; cases e'
 rw [d] at d'
 injection d' with d1 _
 have:its=its':=by simpa using congrArg Array.toList d1
 subst this
 exact r.inj r'
end
abbrev Cx.wish (X:Cx) (E:Value->Shared->Prop):Cx:={ X with xe:=E }
abbrev Cx.nox (X:Cx):Cx:=X.wish fun _ _=>False
theorem Cx.Ok.wish {X:Cx} (ok:X.Ok) (E:Value->Shared->Prop):(X.wish E).Ok :=
 ⟨ok.mod,ok.kind,ok.glob,ok.blt,ok.above,ok.inj,ok.has,ok.cab,ok.hd,ok.frames,ok.stk,ok.exf,ok.bs,ok.bsz,ok.noex,ok.exfs,ok.funs,ok.frf⟩
theorem Cx.Ok.unwish {X:Cx} {E:Value->Shared->Prop} (ok:(X.wish E).Ok):X.Ok :=
 ⟨ok.mod,ok.kind,ok.glob,ok.blt,ok.above,ok.inj,ok.has,ok.cab,ok.hd,ok.frames,ok.stk,ok.exf,ok.bs,ok.bsz,ok.noex,ok.exfs,ok.funs,ok.frf⟩
section
variable {X:Cx} {pins:List (Addr×Obj)} {σ:St} {H:Hp} {s:Shared} {E:Value->Shared->Prop}
theorem Inv.wish (I:Inv X pins σ H s) (E:Value->Shared->Prop):Inv (X.wish E) pins σ H s:=⟨I.ok.wish E,I.os,I.bare,I.base,I.loc,I.cell,I.free,I.freeC,I.pin,I.hok,I.len⟩
theorem Inv.unwish (I:Inv (X.wish E) pins σ H s):Inv X pins σ H s:=⟨I.ok.unwish,I.os,I.bare,I.base,I.loc,I.cell,I.free,I.freeC,I.pin,I.hok,I.len⟩
theorem SP.unwish {D:Ends} {f:Flow} {s':Shared} (h:SP (X.wish E) pins D f s'):SP X pins D f s':=by
 cases f with
 | next=>obtain ⟨σ',H',I,q⟩:=h; exact ⟨σ',H',I.unwish,q⟩
 | brk=>obtain ⟨σ',H',I,q⟩:=h; exact ⟨σ',H',I.unwish,q⟩
 | cont=>obtain ⟨σ',H',I,q⟩:=h; exact ⟨σ',H',I.unwish,q⟩
 | ret u=>obtain ⟨v,σ',H',I,r,q⟩:=h; exact ⟨v,σ',H',I.unwish,r,q⟩
theorem PSs.nox {st:List Stmt} {t:TS} (h:PSs X.nox st t):PSs X st t:=fun pins s σ H D I hw =>
 wpAny_mono (h pins s σ H D (I.wish _) hw) (fun _ _ q=>q.unwish) fun _ _ z=>False.elim z
end
section
variable {X:Cx} {st:Stmt} {uQ:List Stmt} {t u:TS} {e:Expr} {te:TE} {pos:Pos}
def ND:TS:=fun D σ H=>D.nx σ H
def P9 (t u:TS):TS:=fun D σ H=>t { D with nx:=u D } σ H
theorem BI:PSs X [] ND:=fun _ _ σ H _ I h=>wpAny_execs_nil ⟨σ,H,I,h⟩
theorem KO (h1:PS X st t) (h2:PSs X uQ u):PSs X (st :: uQ) (P9 t u):=by
 intro pins s σ H D I h
 refine wpAny_execs_cons (thn (h1 pins s σ H { D with nx:=u D } I h) fun f s1 q=>?_)
 cases f with
 | next =>
  obtain ⟨σ',H',I',q⟩:=q
  exact h2 pins s1 σ' H' D I' q
 | ret v=>exact q
 | brk=>exact q
 | cont=>exact q
theorem Ql (h1:PS X st t):PSs X [st] t:=by
 intro pins s σ H D I h
 refine wpAny_execs_cons (thn (h1 pins s σ H D I h) fun f s1 q=>?_)
 cases f with
 | next=>exact wpAny_execs_nil q
 | ret v=>exact q
 | brk=>exact q
 | cont=>exact q
theorem Inv.quiet {pins:List (Addr×Obj)} {σ:St} {H:Hp} {s:Shared} (I:Inv X pins σ H s):interactive X.env=false:=by simp [interactive,I.ok.kind]
def NG (te:TE):TS:=fun D σ H=>te σ H fun _ H1=>D.nx σ H1
theorem Qo (he:PE X e te) (hs:swapsWith e none pos.line X.env=pure false:=by rfl):PS X (.Expr e pos) (NG te):=by
 intro pins s σ H D I h
 exact wpAny_Expr_any (thn (he pins s σ H _ I h) fun v s1 ⟨x,H1,I1,r1,q1⟩=>⟨σ,H1,I1,q1⟩) I.quiet hs
def Ra (te:TE):TS:=fun D σ H=>te σ H D.rt
theorem Fs (he:PE X e te):PS X (.Return (some e) pos) (Ra te):=by
 intro pins s σ H D I h
 exact wpAny_Return_some (thn (he pins s σ H _ I h) fun v s1 ⟨x,H1,I1,r1,q1⟩=>⟨x,σ,H1,I1,r1,q1⟩)
def Rg (c:TT) (t u:TS):TS:=fun D σ H=>c σ H fun b H1=>if b=true then t D σ H1 else u D σ H1
theorem N1 {c:Expr} {a b:List Stmt} {tc:TT} (hc:PT X c tc) (ha:PSs X a t) (hb:PSs X b u):PS X (.If c a b pos) (Rg tc t u):=by
 intro pins s σ H D I h
 refine wpAny_If (thn (hc pins s σ H _ I h) fun d s1 ⟨H1,I1,q1⟩=>?_)
 cases d with
 | true=>exact ha pins s1 σ H1 D I1 q1
 | false=>exact hb pins s1 σ H1 D I1 q1
def DU:TS:=fun _ _ _=>False
theorem KR:PS X st DU:=fun _ _ _ _ _ _ h=>h.elim
end
abbrev TG:=V->St->Hp->(St->Hp->Prop)->Prop
abbrev TGs:=List V->St->Hp->(St->Hp->Prop)->Prop
def PG (X:Cx) (target:Expr) (t:TG):Prop :=
 ∀ (pins:List (Addr×Obj)) (s:Shared) (σ:St) (H:Hp) (v:V) (u:Value) (Q:St->Hp->Prop),Inv X pins σ H s->xm v u->t v σ H Q →
  wpAny (model X.prog X.w) X.A (assign target X.env u) (fun _ s'=>∃ σ' H',Inv X pins σ' H' s'/\Q σ' H') X.xe s
def PGs (X:Cx) (ts:List Expr) (t:TGs):Prop :=
 ∀ (pins:List (Addr×Obj)) (s:Shared) (σ:St) (H:Hp) (vs:List V) (us:List Value) (Q:St->Hp->Prop),Inv X pins σ H s->xh vs us->t vs σ H Q →
  wpAny (model X.prog X.w) X.A (assignInOrder ((assignEach ts X.env).map (·.2)) us) (fun _ s'=>∃ σ' H',Inv X pins σ' H' s'/\Q σ' H') X.xe s
abbrev TIp:=V->V->Hp->VK->Prop
def PIp (X:Cx) (op:Operator) (t:TIp):Prop :=
 ∀ (pins:List (Addr×Obj)) (s:Shared) (σ:St) (H:Hp) (x y:V) (v u:Value) (Q:VK),Inv X pins σ H s->xm x v->xm y u->t x y H Q →
  wpAny (model X.prog X.w) X.A (inplaceOp op v u) (EP X pins σ Q) X.xe s
section
variable {X:Cx} {pos:Pos}
def MI (i:Nat):TG:=fun v σ H Q=>Q (σ.set i (some v)) H
theorem Qs {i:Nat} {x:Str} (hN:X.N.Nodup) (hi:X.N[i]? = some x) (hx:Loc X.env.scope x) (hf:X.fn x=true\/X.env.scope.names.lookup x=some .local:=by first | exact .inl rfl | exact .inr rfl | assumption):PG X (.Name x pos) (MI i):=by
 intro pins s σ H v u Q I r h
 exact wpAny_assign_Name (Ye I hN hi hx r (fun s' I'=>⟨_,H,I',h⟩) hf)
def RH:TGs:=fun vs σ H Q=>vs=[]/\Q σ H
def Pg (t:TG) (u:TGs):TGs:=fun vs σ H Q=>∃ v r,vs=v :: r/\t v σ H fun σ' H'=>u r σ' H' Q
theorem BP:PGs X [] RH:=by
 intro pins s σ H vs us Q I r h
 obtain ⟨e,h⟩:=h
 subst e
 cases r
 exact assignInOrder_nil ⟨σ,H,I,h⟩
theorem KW {e:Expr} {es:List Expr} {t:TG} {u:TGs} (h1:PG X e t) (h2:PGs X es u)
  (hs:(assignEach (e :: es) X.env).map (·.2)=assign e X.env :: (assignEach es X.env).map (·.2):=by rfl):PGs X (e :: es) (Pg t u):=by
 intro pins s σ H vs us Q I r h
 obtain ⟨v,vr,e1,h⟩:=h
 subst e1
 cases r with
 | cons r rr =>
  rw [hs]
  refine assignInOrder_cons (thn (h1 pins s σ H _ _ _ I r h) fun _ s1 ⟨σ1,H1,I1,q1⟩=>?_)
  exact h2 pins s1 σ1 H1 _ _ Q I1 rr q1
def RG (K:W.Frag) (n:Nat) (t:TGs):TG:=fun v σ H Q=>∃ a xs,v=.ref a/\SqT K H a xs/\xs.length=n/\t xs σ H Q
theorem Fv {es:List Expr} {k:Nat} {t:TGs} {n:Nat} (hc:X.calm=true) (h:PGs X es t)
  (hn:(assignEach es X.env).length=n:=by rfl) (hst:(assignEach es X.env).findIdx? (·.1)=none:=by rfl):PG X (.Tuple es k pos) (RG X.K n t):=by
 intro pins s σ H v u Q I r hw
 obtain ⟨a,xs,e1,hq,hl,hw⟩:=hw
 subst e1
 cases r
 obtain ⟨its,rv,ht,hz⟩:=I.tuple hq
 refine assign_Tuple_tuple (I.ok.hd hc) ht (by simp [hn,<- hl,rv.length]) hst fun h' hx=>?_
 have I1:Inv X pins σ H { s with heap:=h' }:=I.kept (t':=s.toks) fun b o e=>hx b o (g1u (Heap.lt_size e)) e
 exact h pins _ σ H xs _ Q I1 (by simpa using rv) hw
def Rj (te:TE) (g:TG):TS:=fun D σ H=>te σ H fun x H1=>g x σ H1 D.nx
theorem Vb {i:Nat} {x:Str} {e:Expr} {te:TE} {pos':Pos} (hN:X.N.Nodup) (hi:X.N[i]? = some x) (hx:Loc X.env.scope x) (he:PE X e te) (hs:swapsWith e (some (.Name x pos')) pos.line X.env=pure false:=by rfl) (hf:X.fn x=true\/X.env.scope.names.lookup x=some .local:=by first | exact .inl rfl | exact .inr rfl | assumption) :
  PS X (.Assign [.Name x pos'] e pos) (Rj te (MI i)):=by
 intro pins s σ H D I h
 refine wpAny_Assign_Name (thn (he pins s σ H _ I h) fun v s1 ⟨y,H1,I1,r1,q1⟩=>?_) hs
 exact Ye I1 hN hi hx r1 (fun s2 I2=>⟨_,H1,I2,q1⟩) hf
def Ri (i:Nat) (te:TE) (ti:TIp):TS:=fun D σ H=>∃ x,σ[i]? = some (some x)/\te σ H fun y H1=>ti x y H1 fun z H2=>D.nx (σ.set i (some z)) H2
theorem Ft {i:Nat} {x:Str} {e:Expr} {te:TE} {op:Operator} {ti:TIp} {pos':Pos} (hN:X.N.Nodup) (hi:X.N[i]? = some x) (hx:Loc X.env.scope x) (he:PE X e te) (ho:PIp X op ti) (hf:X.fn x=true\/X.env.scope.names.lookup x=some .local:=by first | exact .inl rfl | exact .inr rfl | assumption) :
  PS X (.AugAssign (.Name x pos') op e pos) (Ri i te ti):=by
 intro pins s σ H D I h
 obtain ⟨v,e1,h⟩:=h
 obtain ⟨m,hn,hl⟩:=I.loc
 have vis:Vis X.env.scope x:=by rcases hx with k | k; exact .inl k; exact .inr (.inl k)
 obtain ⟨u,r,l⟩:=hl i x v hi e1 vis
 refine wpAny_AugAssign_Name ?_
 have go:wpAny (model X.prog X.w) X.A (eval e X.env) (fun w s₂=>wpAny (model X.prog X.w) X.A (inplaceOp op u w) (fun r s₃=>wpAny (model X.prog X.w) X.A (storeName X.env x r) (fun _=>SP X pins D .next) X.xe s₃) X.xe s₂) X.xe s:=by
  refine thn (he pins s σ H _ I h) fun w s1 ⟨y,H1,I1,r1,q1⟩=>?_
  refine thn (ho pins s1 σ H1 v y u w _ I1 r r1 q1) fun z s2 ⟨zv,H2,I2,r2,q2⟩=>?_
  exact Ye I2 hN hi hx r2 (fun s3 I3=>⟨_,H2,I3,q2⟩) hf
 rcases l with ⟨hk,hm⟩ | ⟨hk,c,hc,hcell⟩
 ·exact wpAny_loadName_local I.ok.kind hk hn hm go
 ·rcases hk with hk | hk
  ·exact wpAny_loadName_cell I.ok.kind hk hc hcell go
  ·rcases hx with k | k
   ·have:X.env.scope.names.lookup x=some .free:=hk
    rw [k] at this; cases this
   ·have:X.env.scope.names.lookup x=some .free:=hk
    rw [k] at this; cases this
def ipI (f:Int->Int->Int):TIp:=fun x y H Q=>∃ i j,x=.int i/\y=.int j/\Q (.int (f i j)) H
theorem ME:PIp X .Add (ipI fun i j=>i+j):=by
 intro pins s σ H x y v u Q I r1 r2 h
 obtain ⟨i,j,e1,e2,q⟩:=h
 subst e1; subst e2
 obtain ⟨t,rfl⟩:=r1
 obtain ⟨t',rfl⟩:=r2
 exact iadd_int ⟨.int _,H,I.tok _,⟨_,rfl⟩,q⟩
end
section
variable {X:Cx} {pos:Pos}
def DO (c:TT) (tb:TS):TS:=fun D σ H=>∃ W:Nat->St->Hp->Prop,(∃ m,W m σ H)/\∀ m σ H,W m σ H →
 c σ H fun b H1=>if b=true then ∃ N:St->Hp->Prop,(∀ σ' H',N σ' H'->∃ m',m' < m/\W m' σ' H')/\tb { D with nx:=N,ct:=N,bk:=D.nx } σ H1 else D.nx σ H1
theorem KQ {c:Expr} {body:List Stmt} {tc:TT} {tb:TS} (hp:PassesOwn (model X.prog X.w) X.A X.env X.xe) (hc:PT X c tc) (hb:PSs X body tb):PS X (.While c body [] pos) (DO tc tb):=by
 intro pins s σ H D I h
 obtain ⟨W,⟨m0,w0⟩,turn⟩:=h
 refine wpAny_While (codeAny_whileLoop (fun n s'=>∃ σ' H',Inv X pins σ' H' s'/\W n σ' H') ?_ m0 ⟨σ,H,I,w0⟩)
 rintro n s1 ⟨σ1,H1,I1,w1⟩
 refine wpAny_passesOwn hp (thn (hc pins s1 σ1 H1 _ I1 (turn n σ1 H1 w1)) fun b s2 ⟨H2,I2,q2⟩=>?_)
 cases b with
 | true =>
  obtain ⟨N,hN,q2⟩:=q2
  rw [if_pos rfl]
  refine wpAny_passesOwn hp (thn (hb pins s2 σ1 H2 _ I2 q2) fun f s3 q3=>?_)
  cases f with
  | next =>
   obtain ⟨σ3,H3,I3,n3⟩:=q3
   obtain ⟨m',hm,w3⟩:=hN σ3 H3 n3
   exact ⟨m',hm,σ3,H3,I3,w3⟩
  | cont =>
   obtain ⟨σ3,H3,I3,n3⟩:=q3
   obtain ⟨m',hm,w3⟩:=hN σ3 H3 n3
   exact ⟨m',hm,σ3,H3,I3,w3⟩
  | brk=>exact q3
  | ret v=>exact q3
 | false =>
  rw [if_neg g2a]
  exact wpAny_execs_nil ⟨σ1,H2,I2,q2⟩
end
structure It where
 go:Nat->Hp->Prop
 yld:Nat->Hp->V->Hp->Prop
 stop:Nat->Hp->Prop
def uF (X:Cx) (pins:List (Addr×Obj)) (H:Hp) (b:Addr):Prop :=
 H b=none/\b≠X.env.locals/\b∉X.fs/\(b∈X.ex\/X.s₀.heap.objs.size<=b)/\(∀ x c,X.env.cells.lookup x=some c->c≠b)/\∀ p∈X.pn++pins,p.1≠b
theorem Inv.fpOk {X:Cx} {pins:List (Addr×Obj)} {σ:St} {H H':Hp} {s:Shared} {b:Addr} (I:Inv X pins σ H s) (hb:s.heap.objs.size<=b) (hn:H' b=none):uF X pins H' b:=by
 refine ⟨hn,Nat.ne_of_gt (g1s I.lt hb),I.nofs hb,.inr (g2j I.sz hb),fun x c e z=>?_,fun p hp z=>?_⟩
 ·obtain ⟨v,q⟩:=I.cell x c e
  exact absurd (g1s q.lt (by rw [z]; exact hb)) (g3t _)
 ·exact absurd (g1s (Heap.lt_size (I.pin p hp).1) (by rw [z]; exact hb)) (g3t _)
structure Turn (P:Program) (w:World) (K:W.Frag) (tg:Expr) (J:It) (fp:List Addr) (it:Addr) (tn:Nat->Heap->Prop):Prop where
 mem:it∈fp
 obj:∀ i h,tn i h->∀ b∈fp,∃ o,h.get? b=some o/\∀ v,o.data≠.cell v
 keep:∀ i h h',tn i h->(∀ b∈fp,∀ o,h.get? b=some o->h'.get? b=some o)->tn i h'
 item:∀ (X:Cx),X.prog=P->X.w=w->X.K=K->X.calm=true->∀ (i:Nat) (pins:List (Addr×Obj)) (s:Shared) (σ:St) (H:Hp) (E:Value->Shared->Prop),Inv X pins σ H s->(∀ b∈fp,uF X pins H b)->tn i s.heap->J.go i H →
  wpAny (model P w) X.A (pyNext (.ref it)) (fun r s1=>∃ u,r=some u ∧
   wpAny (model P w) X.A (letOwnedTupleGo tg (.ref it) u) (fun _ s2=>∃ x H',Inv X pins σ H' s2/\xm x u/\J.yld i H x H'/\tn (i+1) s2.heap/\∀ b∈fp,H' b=none) E s1) E s
 done:∀ (X:Cx),X.prog=P->X.w=w->X.K=K->X.calm=true->∀ (i:Nat) (pins:List (Addr×Obj)) (s:Shared) (σ:St) (H:Hp) (E:Value->Shared->Prop),Inv X pins σ H s->(∀ b∈fp,uF X pins H b)->tn i s.heap->J.stop i H →
  wpAny (model P w) X.A (pyNext (.ref it)) (fun r s1=>r=none/\Inv X pins σ H s1) E s
 self:∀ (A:Around) (i:Nat) (s:Shared) (Q:Value->Shared->Prop) (E:Value->Shared->Prop),tn i s.heap->Q (.ref it) s->wpAny (model P w) A (pyIter (.ref it)) Q E s
abbrev TI:=St->Hp->(It->Hp->Prop)->Prop
def PIE (X:Cx) (pins:List (Addr×Obj)) (σ:St) (tg:Expr) (R:It->Hp->Prop) (itv:Value) (s2:Shared):Prop :=
 ∃ (it:Addr) (fp:List Addr) (tn:Nat->Heap->Prop) (J:It) (H':Hp),itv=.ref it/\Inv X pins σ H' s2/\Turn X.prog X.w X.K tg J fp it tn/\tn 0 s2.heap/\(∀ b∈fp,uF X pins H' b)/\R J H'
def PI (X:Cx) (tg iter:Expr) (wi:TI):Prop :=
 ∀ (pins:List (Addr×Obj)) (s:Shared) (σ:St) (H:Hp) (R:It->Hp->Prop),Inv X pins σ H s->wi σ H R →
  wpAny (model X.prog X.w) X.A (eval iter X.env) (fun v s1=>wpAny (model X.prog X.w) X.A (pyIter v) (PIE X pins σ tg R) X.xe s1) X.xe s
theorem CV {M:Model} {A:Around} {E:Value->Shared->Prop} {s:Shared} {tg:Expr} {it:Addr} {u:Value} {o:Obj} {n:String} {vs:Array Value} {Q:Unit->Shared->Prop} (ho:s.heap.get? it=some o) (hc:o.cls=.type n) (hd:o.data=.fields vs)
    (hn:["enumerate","zip","dict_itemiterator","dict_reverseitemiterator","odict_iterator","itertools.zip_longest","itertools.pairwise"].contains n=false) (hQ:Q () s):wpAny M A (letOwnedTupleGo tg (.ref it) u) Q E s:=by
  unfold letOwnedTupleGo
  cases tg <;> first
    | exact wpAny_pure hQ
    | (cases u <;> first
        | exact wpAny_pure hQ
        | (refine wpAny_bind (wpAny_load ho ?_)
           rw [hc,hd]
           show wpAny M A (if (["enumerate","zip","dict_itemiterator","dict_reverseitemiterator","odict_iterator","itertools.zip_longest","itertools.pairwise"].contains n&&vs[0]? == some (rawInt _))=true then _ else _) Q E s
           rw [if_neg (by intro h; rw [hn,Bool.false_and] at h; cases h)]
           exact wpAny_pure hQ))
def Itl (K:W.Frag) (a:Addr):It :=
 ⟨fun i H=>∃ xs x,SqL K H a xs/\xs[i]? = some x,fun i H x H'=>H'=H/\∀ xs,SqL K H a xs->xs[i]? = some x,fun i H=>∃ xs,SqL K H a xs/\xs.length<=i⟩
def Itt (K:W.Frag) (a:Addr):It :=
 ⟨fun i H=>∃ xs x,SqT K H a xs/\xs[i]? = some x,fun i H x H'=>H'=H/\∀ xs,SqT K H a xs->xs[i]? = some x,fun i H=>∃ xs,SqT K H a xs/\xs.length<=i⟩
def Itr (lo:Int) (n:Nat):It:=⟨fun i _=>i < n,fun i H x H'=>H'=H/\x=.int (lo+i),fun i _=>n<=i⟩
theorem YZ {P:Program} {w:World} {K:W.Frag} {tg:Expr} (a it:Addr):Turn P w K tg (Itl K a) [it] it (fun i h=>h.IsListIter it a i) where
 mem:=by simp
 obj:=fun i h st b hb=>by
  have e:b=it:=by simpa using hb
  subst e
  obtain ⟨o,e,c,d⟩:=st
  exact ⟨o,e,fun v z=>by rw [d] at z; cases z⟩
 keep:=fun i h h' st k=>st.at fun o e=>k it (by simp) o e
 item:=by
  intro X hP hw hK hc i pins s σ H E I hf st hg
  subst hP hw hK
  obtain ⟨xs,x,hq,hx⟩:=hg
  obtain ⟨its,rv,p,hz⟩:=I.list hq
  obtain ⟨u,hu,ru⟩:=rv.get hx
  obtain ⟨f0,f1,f2,f3,f4,f5⟩:=hf it (by simp)
  refine wpAny_pyNext_list_item st p.isList (x:=u) (by simpa using hu) fun h' st' sb=>?_
  have I1:Inv X pins σ H { s with heap:=h' }:=I.turned (t':=s.toks) (fun b o hb e=>(sb.2 b hb).trans e) f0 f1 f3 f4 f5
  obtain ⟨o,e,c,d⟩:=id st'
  exact ⟨u,rfl,CV (s:={ s with heap:=h' }) e c d (by decide) ⟨x,H,I1,ru,⟨rfl,fun ys hy=>by rw [I.list_inj hy hq]; exact hx⟩,st',fun b hb=>(hf b hb).1⟩⟩
 done:=by
  intro X hP hw hK hc i pins s σ H E I hf st hg
  subst hP hw hK
  obtain ⟨xs,hq,hx⟩:=hg
  obtain ⟨its,rv,p,hz⟩:=I.list hq
  obtain ⟨f0,f1,f2,f3,f4,f5⟩:=hf it (by simp)
  have hl:=rv.length
  exact wpAny_pyNext_list_end (I.ok.hd hc) st p.isList (by simp; omega) fun h' eb=>⟨rfl,I.turned (t':=s.toks) (fun b o hb e=>eb b o hb e) f0 f1 f3 f4 f5⟩
 self:=fun _ _ _ _ _ st h=>wpAny_pyIter_listiter st h
theorem V7 {P:Program} {w:World} {K:W.Frag} {tg:Expr} (a it:Addr):Turn P w K tg (Itt K a) [it] it (fun i h=>h.IsTupleIter it a i) where
 mem:=by simp
 obj:=fun i h st b hb=>by
  have e:b=it:=by simpa using hb
  subst e
  obtain ⟨o,e,c,d⟩:=st
  exact ⟨o,e,fun v z=>by rw [d] at z; cases z⟩
 keep:=fun i h h' st k=>st.at fun o e=>k it (by simp) o e
 item:=by
  intro X hP hw hK hc i pins s σ H E I hf st hg
  subst hP hw hK
  obtain ⟨xs,x,hq,hx⟩:=hg
  obtain ⟨its,rv,p,hz⟩:=I.tuple hq
  obtain ⟨u,hu,ru⟩:=rv.get hx
  obtain ⟨f0,f1,f2,f3,f4,f5⟩:=hf it (by simp)
  refine wpAny_pyNext_tuple_item st (show s.heap.IsTuple a its.toArray from p) (x:=u) (by simpa using hu) fun h' st' sb=>?_
  have I1:Inv X pins σ H { s with heap:=h' }:=I.turned (t':=s.toks) (fun b o hb e=>(sb.2 b hb).trans e) f0 f1 f3 f4 f5
  obtain ⟨o,e,c,d⟩:=id st'
  exact ⟨u,rfl,CV (s:={ s with heap:=h' }) e c d (by decide) ⟨x,H,I1,ru,⟨rfl,fun ys hy=>by rw [I.tuple_inj hy hq]; exact hx⟩,st',fun b hb=>(hf b hb).1⟩⟩
 done:=by
  intro X hP hw hK hc i pins s σ H E I hf st hg
  subst hP hw hK
  obtain ⟨xs,hq,hx⟩:=hg
  obtain ⟨its,rv,p,hz⟩:=I.tuple hq
  obtain ⟨f0,f1,f2,f3,f4,f5⟩:=hf it (by simp)
  have hl:=rv.length
  exact wpAny_pyNext_tuple_end (I.ok.hd hc) st (show s.heap.IsTuple a its.toArray from p) (by simp; omega) fun h' eb=>⟨rfl,I.turned (t':=s.toks) (fun b o hb e=>eb b o hb e) f0 f1 f3 f4 f5⟩
 self:=fun _ _ _ _ _ st h=>wpAny_pyIter_tupleiter st h
theorem V8 {P:Program} {w:World} {K:W.Frag} {tg:Expr} (it:Addr) (lo:Int) (n:Nat):Turn P w K tg (Itr lo n) [it] it (fun i h=>IsRangeIter h it (lo+(i:Nat) * 1) ((n:Int) - (i:Nat)) 1) where
 mem:=by simp
 obj:=fun i h st b hb=>by
  have e:b=it:=by simpa using hb
  subst e
  exact ⟨_,st,fun v z=>by
   have z':Data.fields _=Data.cell v:=z
   cases z'⟩
 keep:=fun i h h' st k=>k it (by simp) _ st
 item:=by
  intro X hP hw hK hc i pins s σ H E I hf st hg
  subst hP hw hK
  obtain ⟨f0,f1,f2,f3,f4,f5⟩:=hf it (by simp)
  have W:=Walks.range (prog:=X.prog) (w:=X.w) (I.ok.hd hc) it lo 1 n
  refine W.item i s _ _ hg st fun v h' tk hv st' kk=>?_
  obtain ⟨t,rfl⟩:=hv
  have I1:Inv X pins σ H { s with heap:=h',toks:=tk }:=I.turned (fun b o hb e=>kk b o (by simpa using hb) e) f0 f1 f3 f4 f5
  refine ⟨_,rfl,CV (s:={ s with heap:=h',toks:=tk }) (n:="range_iterator") st' rfl rfl (by decide) ⟨.int (lo+i),H,I1,⟨t,?_⟩,⟨rfl,rfl⟩,st',fun b hb=>(hf b hb).1⟩⟩
  rw [Int.mul_one]
 done:=by
  intro X hP hw hK hc i pins s σ H E I hf st hg
  subst hP hw hK
  obtain ⟨f0,f1,f2,f3,f4,f5⟩:=hf it (by simp)
  exact wpAny_pyNext_range_end (I.ok.hd hc) st (by have:n<=i:=hg; omega) fun h' eb=>⟨rfl,I.turned (t':=s.toks) (fun b o hb e=>eb b o hb e) f0 f1 f3 f4 f5⟩
 self:=fun _ _ _ _ _ st h=>wpAny_pyIter_rangeiter st h
section
variable {X:Cx} {tg:Expr}
def Pf (K:W.Frag) (tl:TE):TI:=fun σ H R=>tl σ H fun x H1=>∃ a,x=.ref a/\(∃ xs,SqL K H1 a xs)/\R (Itl K a) H1
theorem BO {l:Expr} {tl:TE} (hl:PE X l tl):PI X tg l (Pf X.K tl):=by
 intro pins s σ H R I h
 refine thn (hl pins s σ H _ I h) fun v s1 ⟨x,H1,I1,r1,q1⟩=>?_
 obtain ⟨a,e,⟨xs,hq⟩,q⟩:=q1
 subst e
 cases r1
 obtain ⟨its,rv,p,hz⟩:=I1.list hq
 refine wpAny_pyIter_list p.isList ?_
 refine ⟨s1.heap.objs.size,[s1.heap.objs.size],_,_,H1,rfl,I1.kept (t':=s1.toks) fun b o e=>Heap.get?_push_of_some _ e,YZ a _,⟨_,Heap.get?_push_size _ rfl,rfl,rfl⟩,fun b hb=>?_,q⟩
 have e:b=s1.heap.objs.size:=by simpa using hb
 subst e
 exact I1.fpOk (g0q _) (I1.hok.fresh (g0q _))
theorem KJ {pins:List (Addr×Obj)} {σ:St} {H:Hp} {s:Shared} {R:It->Hp->Prop} {E:Value->Shared->Prop} {lo hi:Int} {t u v:Tok} {tk:Nat} (I:Inv X pins σ H s) (h1 : -(2 ^ 62)<=lo) (h2:lo < 2 ^ 62) (h3 : -(2 ^ 62)<=hi) (h4:hi < 2 ^ 62)
  (q:R (Itr lo (hi - lo).toNat) H):wpAny (model X.prog X.w) X.A (pyIter (.ref s.heap.objs.size)) (PIE X pins σ tg R) E { s with heap:=s.heap.push { cls:=.type "range",data:=.fields #[.int lo t,.int hi u,.int 1 v] },toks:=tk }:=by
 refine wpAny_pyIter_range (IsRange.new ..) (small_one h1 h2 h3 h4) ?_
 have I1:Inv X pins σ H { s with heap:=s.heap.push { cls:=.type "range",data:=.fields #[.int lo t,.int hi u,.int 1 v] },toks:=tk }:=I.kept fun b o e=>Heap.get?_push_of_some _ e
 refine ⟨(s.heap.push { cls:=.type "range",data:=.fields #[.int lo t,.int hi u,.int 1 v] }).objs.size,[(s.heap.push { cls:=.type "range",data:=.fields #[.int lo t,.int hi u,.int 1 v] }).objs.size],_,_,H,rfl,
  I1.kept (t':=tk) fun b o e=>Heap.get?_push_of_some _ e,V8 _ lo (hi - lo).toNat,?_,fun b hb=>?_,q⟩
 ·have e1:lo+((0:Nat):Int) * 1=lo:=by simp
  have e2:(((hi - lo).toNat:Nat):Int) - ((0:Nat):Int)=Builtin.Range.rangeSize lo hi 1:=by rw [rangeSize_one]; split <;> omega
  show IsRangeIter _ _ (lo+((0:Nat):Int) * 1) ((((hi - lo).toNat:Nat):Int) - ((0:Nat):Int)) 1
  rw [e1,e2]
  exact Heap.get?_push_size _ rfl
 ·have e:b=(s.heap.push { cls:=.type "range",data:=.fields #[.int lo t,.int hi u,.int 1 v] }).objs.size:=by simpa using hb
  subst e
  exact I1.fpOk (g0q _) (I1.hok.fresh (g0q _))
def Pe (ta:TA):TI:=fun σ H R=>ta σ H fun vs H1=>∃ j:Int,vs=[.int j] /\ -(2 ^ 62)<=j/\j < 2 ^ 62/\R (Itr 0 j.toNat) H1
theorem Qq {a:Expr} {ta:TA} {p pos:Pos} (hg:Gl X "range") (hm:X.mg "range"=none) (ha:PA X [a] ta) (hs:starEach [a] X.env=[(false,eval a X.env)]:=by rfl):PI X tg (.Call (.Name "range" p) [a] [] pos) (Pe ta):=by
 intro pins s σ H R I h
 refine Call_ (Xp I hg hm boot_range (PyProof.Rows.callWith_type1 (thn (ha pos pins s σ H _ I h) fun us s1 ⟨vs,H1,I1,r1,q1⟩=>?_) hs rfl))
 obtain ⟨j,e,q1,q2,q⟩:=q1
 subst e
 cases r1 with
 | cons r rr =>
  cases rr
  obtain ⟨t,rfl⟩:=r
  exact call_range_1 (KJ I1 (by omega) (by omega) q1 q2 (by simpa using q))
def Rh (wi:TI) (g:TG) (tb:TS):TS:=fun D σ H=>wi σ H fun J H1=>∃ W:Nat->Nat->St->Hp->Prop,(∃ m,W 0 m σ H1)/\∀ i m σ H,W i m σ H →
 (J.stop i H/\D.nx σ H)\/(J.go i H/\∃ N:St->Hp->Prop,(∀ σ' H',N σ' H'->∃ m',m' < m/\W (i+1) m' σ' H')/\∀ x H',J.yld i H x H'->g x σ H' fun σ2 H2=>tb { D with nx:=N,ct:=N,bk:=D.nx } σ2 H2)
def jw (fp:List Addr) (h:Heap):List (Addr×Obj):=fp.filterMap fun b=>(h.get? b).map fun o=>(b,o)
theorem xI {fp:List Addr} {h:Heap} {b:Addr} {o:Obj} (hb:b∈fp) (e:h.get? b=some o):(b,o)∈jw fp h:=g2k.mpr ⟨b,hb,by rw [e]; rfl⟩
theorem kq {fp:List Addr} {h:Heap} {p:Addr×Obj} (hp:p∈jw fp h):p.1∈fp/\h.get? p.1=some p.2:=by
 obtain ⟨b,hb,e⟩:=g2k.mp hp
 cases q:h.get? b with
 | none=>rw [q] at e; cases e
 | some o =>
  rw [q] at e
  have e':(b,o)=p:=g3e.inj e
  subst e'
  exact ⟨hb,q⟩
theorem Inv.pinned {pins:List (Addr×Obj)} {σ:St} {H:Hp} {s:Shared} {fp:List Addr} (I:Inv X pins σ H s) (hf:∀ b∈fp,uF X pins H b) (ho:∀ b∈fp,∃ o,s.heap.get? b=some o/\∀ v,o.data≠.cell v):Inv X (pins++jw fp s.heap) σ H s :=
 I.pins_of fun p hp=>(g1o.mp hp).elim (fun z=>I.pin p (g1c _ z)) fun z=>by
  obtain ⟨hb,e⟩:=kq z
  obtain ⟨f0,f1,f2,_⟩:=hf p.1 hb
  obtain ⟨o,e',d⟩:=ho p.1 hb
  rw [e] at e'; cases e'
  exact ⟨e,f0,f1,f2,d⟩
theorem Inv.unpinned {pins pl:List (Addr×Obj)} {σ:St} {H:Hp} {s:Shared} (I:Inv X (pins++pl) σ H s):Inv X pins σ H s:=I.pins_of fun p hp=>I.pin p (g1c _ (g1w _ hp))
theorem Qn {iter:Expr} {body:List Stmt} {wi:TI} {g:TG} {tb:TS} {pos:Pos} (hp:PassesOwn (model X.prog X.w) X.A X.env X.xe) (hc:X.calm=true) (hi:PI X tg iter wi) (hg:PG X tg g) (hb:PSs X body tb)
  (hs:∀ x,foldedSetIterable iter X.env x=pure x:=by intro _; rfl):PS X (.For tg iter body [] pos) (Rh wi g tb):=by
 intro pins s σ H D I h
 refine wpAny_For (thn (hi pins s σ H _ I h) fun v s1 h1=>thn h1 fun itv s2 h2=>?_) hs
 obtain ⟨it,fp,tn,J,H2,e,I2,T,st2,f2,W,⟨m0,w0⟩,turn⟩:=h2
 subst e
 have stat:∀ {H':Hp},(∀ b∈fp,H' b=none)->∀ b∈fp,uF X pins H' b:=fun hn b hb=>⟨hn b hb,(f2 b hb).2⟩
 refine codeAny_forLoop_any (fun n s'=>∃ i σ' H',Inv X pins σ' H' s'/\tn i s'.heap/\(∀ b∈fp,H' b=none)/\W i n σ' H') ?_ m0 ⟨0,σ,H2,I2,st2,fun b hb=>(f2 b hb).1,w0⟩
 rintro n s3 ⟨i,σ3,H3,I3,st3,fr3,w3⟩
 rcases turn i n σ3 H3 w3 with ⟨stop,qn⟩ | ⟨go,N,hN,step⟩
 ·refine wpAny_passesOwn hp (thn (T.done X rfl rfl rfl hc i pins s3 σ3 H3 X.xe I3 (stat fr3) st3 stop) fun r s4 ⟨hr,I4⟩=>?_)
  subst hr
  exact wpAny_execs_nil ⟨σ3,H3,I4,qn⟩
 ·refine wpAny_passesOwn hp (thn (T.item X rfl rfl rfl hc i pins s3 σ3 H3 X.xe I3 (stat fr3) st3 go) fun r s4 ⟨u,hr,h4⟩=>?_)
  subst hr
  refine wpAny_passesOwn hp (thn h4 fun _ s5 ⟨x,H5,I5,r5,y5,st5,fr5⟩=>?_)
  have I5':=I5.pinned (stat fr5) (T.obj _ _ st5)
  refine wpAny_passesOwn hp (thn (hg _ s5 σ3 H5 x u _ I5' r5 (step x H5 y5)) fun _ s6 ⟨σ6,H6,I6,q6⟩=>?_)
  refine wpAny_passesOwn hp (thn (hb _ s6 σ6 H6 _ I6 q6) fun f s7 q7=>?_)
  have again:∀ {σ7:St} {H7:Hp},Inv X (pins++jw fp s5.heap) σ7 H7 s7->N σ7 H7->∃ m,m < n/\∃ i σ' H',Inv X pins σ' H' s7/\tn i s7.heap/\(∀ b∈fp,H' b=none)/\W i m σ' H':=fun {σ7 H7} I7 n7=>by
   obtain ⟨m',hm,w7⟩:=hN σ7 H7 n7
   refine ⟨m',hm,i+1,σ7,H7,I7.unpinned,T.keep _ _ _ st5 fun b hb o e=>(I7.pin (b,o) (g1c _ (g1c _ (xI hb e)))).1,fun b hb=>?_,w7⟩
   obtain ⟨o,e,d⟩:=T.obj _ _ st5 b hb
   exact (I7.pin (b,o) (g1c _ (g1c _ (xI hb e)))).2.1
  cases f with
  | next=>obtain ⟨σ7,H7,I7,n7⟩:=q7; exact again I7 n7
  | cont=>obtain ⟨σ7,H7,I7,n7⟩:=q7; exact again I7 n7
  | brk=>obtain ⟨σ7,H7,I7,q7⟩:=q7; exact ⟨σ7,H7,I7.unpinned,q7⟩
  | ret v=>obtain ⟨x7,σ7,H7,I7,r7,q7⟩:=q7; exact ⟨x7,σ7,H7,I7.unpinned,r7,q7⟩
end
abbrev R2:=V->V->Hp->VK->Prop
def OpR (X:Cx) (f:Value->Value->Sem Value) (r:R2):Prop :=
 ∀ (pins:List (Addr×Obj)) (s:Shared) (σ:St) (H:Hp) (x y:V) (v u:Value) (Q:VK),Inv X pins σ H s->xm x v->xm y u->r x y H Q →
  wpAny (model X.prog X.w) X.A (f v u) (EP X pins σ Q) X.xe s
def UnR (X:Cx) (f:Value->Sem Value) (r:V->Hp->VK->Prop):Prop :=
 ∀ (pins:List (Addr×Obj)) (s:Shared) (σ:St) (H:Hp) (x:V) (v:Value) (Q:VK),Inv X pins σ H s->xm x v->r x H Q →
  wpAny (model X.prog X.w) X.A (f v) (EP X pins σ Q) X.xe s
def wt (X:Cx) (f:Value) (r:List V->Hp->VK->Prop):Prop :=
 ∀ (pins:List (Addr×Obj)) (s:Shared) (σ:St) (H:Hp) (xs:List V) (us:List Value) (Q:VK),Inv X pins σ H s->xh xs us->r xs H Q →
  wpAny (model X.prog X.w) X.A (call f us) (EP X pins σ Q) X.xe s
def tOp (r:R2) (ta tb:TE):TE:=fun σ H Q=>ta σ H fun x H1=>tb σ H1 fun y H2=>r x y H2 Q
def tUn (r:V->Hp->VK->Prop) (ta:TE):TE:=fun σ H Q=>ta σ H fun x H1=>r x H1 Q
def rI (C:Int->Int->Prop) (g:Int->Int->V):R2:=fun x y H Q=>∃ i j,x=.int i/\y=.int j/\C i j/\Q (g i j) H
def rI0 (g:Int->Int->V):R2:=fun x y H Q=>∃ i j,x=.int i/\y=.int j/\Q (g i j) H
def rU (g:Int->V):V->Hp->VK->Prop:=fun x H Q=>∃ i,x=.int i/\Q (g i) H
section
variable {X:Cx} {a b c:Expr} {ta tb tc:TE} {pos:Pos}
theorem Px (ha:PE X a ta) (hb:PE X b tb) {pins:List (Addr×Obj)} {s:Shared} {σ:St} {H:Hp} {R:V->V->Hp->Prop} (I:Inv X pins σ H s)
  (h:ta σ H fun x H1=>tb σ H1 fun y H2=>R x y H2) {Q:Value->Shared->Prop} {f:Value->Value->Sem Value}
  (hf:∀ v u s2 x y H2,Inv X pins σ H2 s2->xm x v->xm y u->R x y H2->wpAny (model X.prog X.w) X.A (f v u) Q X.xe s2) :
  wpAny (model X.prog X.w) X.A (eval a X.env) (fun v s₁=>wpAny (model X.prog X.w) X.A (eval b X.env) (fun u s₂=>wpAny (model X.prog X.w) X.A (f v u) Q X.xe s₂) X.xe s₁) X.xe s:=by
 refine thn (ha pins s σ H _ I h) fun v s1 ⟨x,H1,I1,r1,q1⟩=>?_
 refine thn (hb pins s1 σ H1 _ I1 q1) fun u s2 ⟨y,H2,I2,r2,q2⟩=>?_
 exact hf v u s2 x y H2 I2 r1 r2 q2
theorem Fx {op:Operator} {r:R2} (ho:OpR X (binaryOp op) r) (ha:PE X a ta) (hb:PE X b tb):PE X (.BinOp a op b pos) (tOp r ta tb):=by
 intro pins s σ H Q I h
 exact wpAny_BinOp (Px ha hb I h fun v u s2 x y H2 I2 rx ry q=>ho pins s2 σ H2 x y v u Q I2 rx ry q)
theorem N4 {op:UnaryOp} {r:V->Hp->VK->Prop} (ho:UnR X (unaryOp op) r) (ha:PE X a ta):PE X (.UnaryOp op a pos) (tUn r ta):=by
 intro pins s σ H Q I h
 exact UnaryOp_ (thn (ha pins s σ H _ I h) fun v s1 ⟨x,H1,I1,r1,q1⟩=>ho pins s1 σ H1 x v Q I1 r1 q1)
theorem opI {f:Value->Value->Sem Value} {C:Int->Int->Prop} {g:Int->Int->Int}
  (rule:∀ (i j:Int) (t u:Tok) (s:Shared) (Q:Value->Shared->Prop) (E:Value->Shared->Prop),C i j->Q (.int (g i j) s.toks) { s with toks:=s.toks+1 }->wpAny (model X.prog X.w) X.A (f (.int i t) (.int j u)) Q E s) :
  OpR X f (rI C fun i j=>.int (g i j)):=by
 intro pins s σ H x y v u Q I rx ry h
 obtain ⟨i,j,rfl,rfl,hc,q⟩:=h
 obtain ⟨t,rfl⟩:=rx
 obtain ⟨t',rfl⟩:=ry
 exact rule i j t t' s _ _ hc ⟨.int (g i j),H,I.tok _,⟨_,rfl⟩,q⟩
theorem P1 {f:Value->Value->Sem Value} {g:Int->Int->Int}
  (rule:∀ (i j:Int) (t u:Tok) (s:Shared) (Q:Value->Shared->Prop) (E:Value->Shared->Prop),Q (.int (g i j) s.toks) { s with toks:=s.toks+1 }->wpAny (model X.prog X.w) X.A (f (.int i t) (.int j u)) Q E s) :
  OpR X f (rI0 fun i j=>.int (g i j)):=by
 intro pins s σ H x y v u Q I rx ry h
 obtain ⟨i,j,rfl,rfl,q⟩:=h
 obtain ⟨t,rfl⟩:=rx
 obtain ⟨t',rfl⟩:=ry
 exact rule i j t t' s _ _ ⟨.int (g i j),H,I.tok _,⟨_,rfl⟩,q⟩
theorem Nn {f:Value->Value->Sem Value} {g:Int->Int->Bool}
  (rule:∀ (i j:Int) (t u:Tok) (s:Shared) (Q:Value->Shared->Prop) (E:Value->Shared->Prop),Q (.bool (g i j)) s->wpAny (model X.prog X.w) X.A (f (.int i t) (.int j u)) Q E s) :
  OpR X f (rI0 fun i j=>.bl (g i j)):=by
 intro pins s σ H x y v u Q I rx ry h
 obtain ⟨i,j,rfl,rfl,q⟩:=h
 obtain ⟨t,rfl⟩:=rx
 obtain ⟨t',rfl⟩:=ry
 exact rule i j t t' s _ _ ⟨.bl (g i j),H,I,rfl,q⟩
theorem FK:OpR X (binaryOp .Add) (rI0 fun i j=>.int (i+j)):=P1 fun _ _ _ _ _ _ _ q=>add_int q
theorem FD:OpR X (binaryOp .Sub) (rI0 fun i j=>.int (i - j)):=P1 fun _ _ _ _ _ _ _ q=>sub_int q
theorem FF:OpR X (binaryOp .Mod) (rI (fun _ j=>0 < j) fun i j=>.int (i % j)):=opI fun i j _ _ _ _ _ hc q=>by
 have h1:(0:Int) < j:=hc
 exact mod_int' (by omega) (by rw [Int.fmod_eq_emod_of_nonneg i (by omega)]; exact q)
theorem unI {f:Value->Sem Value} {g:Int->Int}
  (rule:∀ (i:Int) (t:Tok) (s:Shared) (Q:Value->Shared->Prop) (E:Value->Shared->Prop),Q (.int (g i) s.toks) { s with toks:=s.toks+1 }->wpAny (model X.prog X.w) X.A (f (.int i t)) Q E s) :
  UnR X f (rU fun i=>.int (g i)):=by
 intro pins s σ H x v Q I rx h
 obtain ⟨i,rfl,q⟩:=h
 obtain ⟨t,rfl⟩:=rx
 exact rule i t s _ _ ⟨.int (g i),H,I.tok _,⟨_,rfl⟩,q⟩
theorem DL:UnR X (unaryOp .USub) (rU fun i=>.int (-i)):=unI fun _ _ _ _ _ q=>neg_int q
end
section
variable {X:Cx} {a b c:Expr} {ta tb tc:TE} {pos:Pos}
theorem Jo {pins:List (Addr×Obj)} {σ:St} {H:Hp} {s:Shared} {Q:VK} {k k':Bool} (I:Inv X pins σ H s) (q:Q (.bl k) H) (e:k=k'):EP X pins σ Q (.bool k') s:=by
 subst e
 exact ⟨.bl k,H,I,rfl,q⟩
theorem N9:OpR X (compareOp .Lt) (rI0 fun i j=>.bl (decide (i < j))):=Nn fun _ _ _ _ _ _ _ q=>lt_int q
theorem Pa:OpR X (compareOp .LtE) (rI0 fun i j=>.bl (decide (i<=j))):=Nn fun _ _ _ _ _ _ _ q=>le_int q
theorem FI:OpR X (compareOp .Gt) (rI0 fun i j=>.bl (decide (j < i))):=Nn fun _ _ _ _ _ _ _ q=>gt_int q
theorem Pb:OpR X (compareOp .GtE) (rI0 fun i j=>.bl (decide (j<=i))):=Nn fun _ _ _ _ _ _ _ q=>ge_int q
theorem Qz:OpR X (compareOp .In) (fun x y H Q=>∃ i j,x=.str i/\y=.str j/\Q (.bl (!(Builtin.Str.occurrences j i 0 j.length 1).isEmpty)) H):=by
 intro pins s σ H x y v u Q I rx ry h
 obtain ⟨i,j,rfl,rfl,q⟩:=h
 obtain ⟨t,rfl⟩:=rx
 obtain ⟨t',rfl⟩:=ry
 exact in_str (Jo I q rfl)
theorem BY:OpR X (compareOp .IsNot) (fun x y H Q=>y=.non/\Q (.bl (!decide (x=.non))) H):=by
 intro pins s σ H x y v u Q I rx ry h
 obtain ⟨rfl,q⟩:=h
 cases ry
 refine isnot_none_gen (Jo I q ?_)
 cases x <;> first
  | (cases rx; rfl)
  | (obtain ⟨t,rfl⟩:=rx; rfl)
theorem Xg:OpR X (compareOp .NotIn) (fun x y H Q=>∃ i j,x=.str i/\y=.str j/\Q (.bl (!(!(Builtin.Str.occurrences j i 0 j.length 1).isEmpty))) H):=by
 intro pins s σ H x y v u Q I rx ry h
 obtain ⟨i,j,rfl,rfl,q⟩:=h
 obtain ⟨t,rfl⟩:=rx
 obtain ⟨t',rfl⟩:=ry
 exact notIn_str (Jo I q rfl)
theorem OpR.or {f:Value->Value->Sem Value} {r r':R2} (h:OpR X f r) (h':OpR X f r'):OpR X f (fun x y H Q=>r x y H Q\/r' x y H Q):=by
 intro pins s σ H x y v u Q I rx ry q
 rcases q with q | q
 ·exact h pins s σ H x y v u Q I rx ry q
 ·exact h' pins s σ H x y v u Q I rx ry q
theorem u5 (b:Expr) {op:CmpOp} (h:op≠.In:=by decide) (h2:op≠.NotIn:=by decide):behindInMarks op b=false:=by
 have e1:(op==CmpOp.In)=false:=by cases op <;> first | rfl | exact absurd rfl h
 have e2:(op==CmpOp.NotIn)=false:=by cases op <;> first | rfl | exact absurd rfl h2
 cases b <;> simp [behindInMarks,e1,e2]
theorem BQ {op:CmpOp} {r:R2} (ho:OpR X (compareOp op) r) (ha:PE X a ta) (hb:PE X b tb) (hm:behindInMarks op b=false):PE X (.Compare a [op] [b] pos) (tOp r ta tb):=by
 intro pins s σ H Q I h
 exact wpAny_Compare1 (Px ha hb I h fun v u s2 x y H2 I2 rx ry q=>ho pins s2 σ H2 x y v u Q I2 rx ry q) hm
def NA (t:TE):TT:=fun σ H Q=>t σ H fun x H'=>∃ k,x=.bl k/\Q k H'
theorem BH {op:CmpOp} {r:R2} (ho:OpR X (compareOp op) r) (ha:PE X a ta) (hb:PE X b tb) (hm:behindInMarks op b=false):PT X (.Compare a [op] [b] pos) (NA (tOp r ta tb)):=by
 intro pins s σ H Q I h
 refine wpAny_isTrue_Compare1 (thn (ha pins s σ H _ I h) fun v s1 ⟨x,H1,I1,r1,q1⟩=>thn (hb pins s1 σ H1 _ I1 q1) fun u s2 ⟨y,H2,I2,r2,q2⟩ =>
  thn (ho pins s2 σ H2 x y v u _ I2 r1 r2 q2) fun c s3 ⟨z,H3,I3,r3,k,e,q3⟩=>?_) hm
 subst e
 cases r3
 exact wpAny_truthy_bool ⟨H3,I3,q3⟩
theorem Xn:(sizeLine:Nat) < 2 ^ 63:=by rw [sizeLine_eq]; decide
theorem Um:OpR X (binaryOp .Add) (fun x y H Q=>∃ i j,x=.str i/\y=.str j/\i.length+j.length<=sizeLine/\Q (.str (i++j)) H):=by
 intro pins s σ H x y v u Q I rx ry h
 obtain ⟨i,j,rfl,rfl,hz,q⟩:=h
 obtain ⟨t,rfl⟩:=rx
 obtain ⟨t',rfl⟩:=ry
 exact add_str (fun t' tk=>⟨.str (i++j),H,I.tok _,⟨_,rfl⟩,q⟩) hz
theorem ql {x:V} {us:List Value} (r:xh [x] us):∃ u,us=[u]/\xm x u:=by
 cases r with
 | cons r1 r2=>cases r2; exact ⟨_,rfl,r1⟩
theorem Bc {x y:V} {us:List Value} (r:xh [x,y] us):∃ u w',us=[u,w']/\xm x u/\xm y w':=by
 cases r with
 | cons r1 r2 =>
  cases r2 with
  | cons r3 r4=>cases r4; exact ⟨_,_,rfl,r1,r3⟩
theorem VT:wt X (.builtin "abs") (fun xs H Q=>∃ i,xs=[.int i]/\Q (.int (if i < 0 then -i else i)) H):=by
 intro pins s σ H xs us Q I r h
 obtain ⟨i,rfl,q⟩:=h
 obtain ⟨u,rfl,t,rfl⟩:=ql r
 exact call_abs_int fun u tk=>⟨.int (if i < 0 then -i else i),H,I.tok _,⟨_,rfl⟩,q⟩
theorem kY (hc:X.calm=true):wt X (.builtin "max") (fun xs H Q=>∃ i j,xs=[.int i,.int j]/\Q (.int (if j > i then j else i)) H):=by
 intro pins s σ H xs us Q I r h
 obtain ⟨i,j,rfl,q⟩:=h
 obtain ⟨u,w',rfl,⟨t,rfl⟩,⟨t',rfl⟩⟩:=Bc r
 refine max_two_ints (I.ok.hd hc) fun h' tk k=>⟨_,H,I.kept k,?_,q⟩
 by_cases hj:j > i
 ·rw [if_pos hj,if_pos hj]; exact ⟨_,rfl⟩
 ·rw [if_neg hj,if_neg hj]; exact ⟨_,rfl⟩
theorem kX (hc:X.calm=true):wt X (.builtin "min") (fun xs H Q=>∃ i j,xs=[.int i,.int j]/\Q (.int (if j < i then j else i)) H):=by
 intro pins s σ H xs us Q I r h
 obtain ⟨i,j,rfl,q⟩:=h
 obtain ⟨u,w',rfl,⟨t,rfl⟩,⟨t',rfl⟩⟩:=Bc r
 refine min_two_ints (I.ok.hd hc) fun h' tk k=>⟨_,H,I.kept k,?_,q⟩
 by_cases hj:j < i
 ·rw [if_pos hj,if_pos hj]; exact ⟨_,rfl⟩
 ·rw [if_neg hj,if_neg hj]; exact ⟨_,rfl⟩
theorem XT:wt X (.type "int") (fun xs H Q=>(∃ i,xs=[.int i]/\Q (.int i) H)\/∃ k,xs=[.bl k]/\Q (.int (if k then 1 else 0)) H):=by
 intro pins s σ H xs us Q I r h
 rcases h with ⟨i,rfl,q⟩ | ⟨k,rfl,q⟩
 ·obtain ⟨u,rfl,t,rfl⟩:=ql r
  exact call_int_int ⟨.int i,H,I,⟨_,rfl⟩,q⟩
 ·obtain ⟨u,rfl,r1⟩:=ql r
  cases r1
  exact call_int_bool ⟨.int (if k then 1 else 0),H,I.tok _,⟨_,rfl⟩,q⟩
end
section
variable {prog:Program} {w:World} {A:Around} {E:Value->Shared->Prop} {s:Shared} {K:W.Frag} {x dx C f:Addr} {mA:Str->Option Value} {name:Str} {v:Value}
end
section
variable {P:Program} {w:World} {H H':Hp} {h h':Heap} {a C dx:Addr} {fs fs':List (Str×V)}
end
section
variable {X:Cx} {pins:List (Addr×Obj)} {σ:St} {H:Hp} {s:Shared} {a C dx:Addr} {fs:List (Str×V)} {f:Str} {v:V} {A:Around} {E:Value->Shared->Prop}
end
section
variable {X:Cx} {o e value:Expr} {f:Str} {pos pos' tpos:Pos} {ta tv:TE}
end
section
variable {X:Cx} {pins:List (Addr×Obj)} {σ:St} {H:Hp} {s:Shared} {A:Around} {E:Value->Shared->Prop} {Q:Value->Shared->Prop} {c:Value} {b:Bool}
end
structure Room (k:Nat) (A:Around):Prop where
 hd:A.handled=none
 dp:A.depth+3 * k+5 < recursionLimit
 un:A.units+16 * k+200 < cLine
theorem Room.mono {j k:Nat} {A:Around} (r:Room k A) (h:j<=k):Room j A:=⟨r.hd,by have:=r.dp; omega,by have:=r.un; omega⟩
theorem Room.deeper {k:Nat} {A:Around} (r:Room (k+1) A) (env:Env):Room k (A.deeper env) :=
 ⟨r.hd,by have:=r.dp; show A.depth+1+3 * k+5 < _; omega,by have:=r.un; show A.units+3+16 * k+200 < _; omega⟩
theorem Room.depth {k:Nat} {A:Around} (r:Room k A):A.depth < recursionLimit:=by have:=r.dp; omega
def Re:TA:=fun _ H Q=>Q [] H
def NH (ta:TE) (tr:TA):TA:=fun σ H Q=>ta σ H fun x H1=>tr σ H1 fun xs H2=>Q (x :: xs) H2
section
variable {X:Cx} {e:Expr} {es:List Expr} {te:TE} {t:TA} {pos:Pos}
theorem u4:PA X [] Re:=fun _ _ _ _ H Q I h=>Calls.spliced_nil ⟨[],H,I,.nil,h⟩
theorem wK (ha:PE X e te) (hr:PA X es t) (hs:starEach (e :: es) X.env=(false,eval e X.env) :: starEach es X.env:=by rfl):PA X (e :: es) (NH te t):=by
 intro pos pins s σ H Q I h
 rw [hs]
 show wpAny _ _ (spliced ((false,eval e X.env) :: backTo pos (starEach es X.env))) _ _ s
 refine Calls.spliced_cons (thn (ha pins s σ H _ I h) fun u s1 ⟨x,H1,I1,r1,q1⟩=>?_)
 exact thn (hr pos pins s1 σ H1 _ I1 q1) fun us s2 ⟨xs,H2,I2,r2,q2⟩=>⟨x :: xs,H2,I2,.cons r1 r2,q2⟩
def P8 (t:TA):TE:=fun σ H Q=>t σ H fun xs H1=>xs.length<=sizeLine/\∀ p,H1 p=none->Q (.ref p) (upd H1 p (.tup xs))
def Rf (t:TA):TE:=fun σ H Q=>t σ H fun xs H1=>xs.length<=sizeLine/\∀ p,H1 p=none->Q (.ref p) (upd H1 p (.lst xs))
theorem Hw {x1} (h:PA X es t):PE X (.Tuple es x1 pos) (P8 t):=by
 intro pins s σ H Q I hq
 refine wpAny_Tuple_spliced (thn (h pos pins s σ H _ I hq) fun us s1 ⟨xs,H1,I1,r,z,q⟩=>⟨by rw [<- r.length]; exact z,?_⟩)
 have hf:H1 s1.heap.objs.size=none:=I1.hok.fresh (g0q _)
 refine ⟨.ref s1.heap.objs.size,upd H1 s1.heap.objs.size (.tup xs),I1.laid (t':=s1.toks) (fun b u e=>Heap.get?_push_of_some _ e) (g0q _) ?_,rfl,q _ hf⟩
 exact ⟨z,us,r,⟨_,Heap.get?_push_size _ rfl,rfl,_,rfl⟩⟩
theorem FB (h:PA X es t):PE X (.List es pos) (Rf t):=by
 intro pins s σ H Q I hq
 refine wpAny_List_spliced (thn (h pos pins s σ H _ I hq) fun us s1 ⟨xs,H1,I1,r,z,q⟩=>⟨by rw [<- r.length]; exact z,?_⟩)
 have hf:H1 s1.heap.objs.size=none:=I1.hok.fresh (g0q _)
 refine ⟨.ref s1.heap.objs.size,upd H1 s1.heap.objs.size (.lst xs),I1.laid (t':=s1.toks) (fun b u e=>Heap.get?_push_of_some _ e) (g0q _) ?_,rfl,q _ hf⟩
 exact ⟨z,us,0,r,Heap.get?_push_size _ rfl⟩
end
abbrev Sp:=List V->Hp->VK->XK->Prop
abbrev CXT:=List Env->Hp->Shared->XK->Value->Shared->Prop
structure Env0 (P:Program) (w:World) (K:W.Frag) (mg:Str->Option Value) (base:Heap) (A:Around) (outer:List Env) (s:Shared) (H:Hp):Prop where
 frames:A.frames=some outer
 mod:Mod K mg base
 bs:∀ b o,base.get? b=some o->s.heap.get? b=some o/\H b=none
 bsz:base.objs.size<=s.heap.objs.size
 funs:s.heap.FunFrames base outer
 frf:∀ b∈frs outer,H b=none
 hok:HOk P w H s.heap
 bare:AllBare s.gens
def CE (outer:List Env) (P:Program) (w:World) (H:Hp) (s:Shared) (Q:VK) (u:Value) (s':Shared):Prop :=
 ∃ v H',s'.os=s.os/\AllBare s'.gens/\Un (frs outer) [] H H' s.heap s'.heap/\HOk P w H' s'.heap/\xm v u/\Q v H'
def CR (CX:CXT) (outer:List Env) (P:Program) (w:World) (H:Hp) (s:Shared) (Q:VK) (E:XK) (r:Result) (s':Shared):Prop :=
 match r with
 | .ok (.ret u)=>CE outer P w H s Q u s'
 | .ok _=>False
 | .error e=>CX outer H s E e s'
structure FnOk (P:Program) (w:World) (K:W.Frag) (mg:Str->Option Value) (base:Heap) (CX:CXT) (k:Nat) (f:Addr) (fd:FuncData) (ps:List Str) (sp:Sp):Prop where
 len:∀ vs H Q E,sp vs H Q E->vs.length=ps.length
 run:∀ (A:Around) (outer:List Env) (s:Shared) (H:Hp) (args:Args) (us:List Value) (vs:List V) (Q:VK) (E:XK),Room k A->Env0 P w K mg base A outer s H->BindsTo s fd args (ps.zip us)->xh vs us->sp vs H Q E →
  codeAny (model P w) A (.call (.ref f) args) (CR CX outer P w H s Q E) s
section
variable {X:Cx} {pins:List (Addr×Obj)} {σ:St} {H:Hp} {s s':Shared}
theorem Inv.env0 (I:Inv X pins σ H s):Env0 X.prog X.w X.K X.mg X.base X.A X.stack s H :=
 ⟨I.ok.frames,I.ok.mod,I.bs,g2j I.ok.bsz I.sz,I.stack,I.stkFree,I.hok,I.bare⟩
theorem Inv.after {Q:VK} {u:Value} (I:Inv X pins σ H s) (h:CE X.stack X.prog X.w H s Q u s'):EP X pins σ Q u s':=by
 obtain ⟨v,H',os,bare,un,hok,r,q⟩:=h
 obtain ⟨hh,g,d,t,os'⟩:=s'
 obtain rfl:os'=s.os:=os
 exact ⟨v,H',I.call (h':=hh) (g':=g) (d':=d) (t':=t) (ch:=[]) un hok bare (fun b z=>absurd z (by simp)),r,q⟩
end
def NI (sp:Sp) (dvs:List V) (E:XK) (t:TA):TE:=fun σ H Q=>t σ H fun vs H1=>sp (vs++dvs) H1 Q E
def WZ (K:W.Frag) (fd:FuncData) (ps:List Str) (ds:List Value):Prop :=
 ∀ (s:Shared) (us:List Value),K.In s.heap->(us++ds).length=ps.length->BindsTo s fd ⟨us,[]⟩ (ps.zip (us++ds))
theorem WZ.all {K:W.Frag} {fd:FuncData} {ps:List Str} (h:∀ us:List Value,us.length=ps.length->bindArgs fd ⟨us,[]⟩=pure (ps.zip us)):WZ K fd ps []:=fun s us _ hl=>by
 rw [g0x] at hl ⊢
 exact .of_eq (h us hl)
def V3 (CX:CXT) (X:Cx) (E:XK):Prop:=∀ (pins:List (Addr×Obj)) (σ:St) (H:Hp) (s:Shared) (e:Value) (s':Shared),Inv X pins σ H s->CX X.stack H s E e s'->X.xe e s'
section
variable {X:Cx} {CX:CXT} {k:Nat} {f C:Addr} {fd:FuncData} {ps:List Str} {sp:Sp} {dvs:List V} {ds:List Value} {E:XK} {x m:Str} {p pos apos:Pos} {e o:Expr} {es:List Expr} {ta:TE} {t:TA}
theorem Ff {pins:List (Addr×Obj)} {σ:St} {H:Hp} {s:Shared} {Q:VK} {us:List Value} {vs:List V} (F:FnOk X.prog X.w X.K X.mg X.base CX k f fd ps sp) (hr:Room k X.A) (hb:WZ X.K fd ps ds) (hd:xh dvs ds) (hx:V3 CX X E)
  (I:Inv X pins σ H s) (r:xh vs us) (h:sp (vs++dvs) H Q E):wpAny (model X.prog X.w) X.A (call (.ref f) us) (EP X pins σ Q) X.xe s:=by
 have r2:xh (vs++dvs) (us++ds):=r.append hd
 have hl:(us++ds).length=ps.length:=by rw [<- r2.length]; exact F.len _ _ _ _ h
 refine wpAny_call (codeAny_mono (F.run X.A X.stack s H ⟨us,[]⟩ (us++ds) (vs++dvs) Q E hr I.env0 (hb s us I.kIn hl) r2 h) fun r s' hq=>?_)
 cases r with
 | error e=>exact hx pins σ H s e s' I hq
 | ok fl =>
  cases fl with
  | ret u=>exact I.after hq
  | next=>exact False.elim hq
  | brk=>exact False.elim hq
  | cont=>exact False.elim hq
theorem BR (F:FnOk X.prog X.w X.K X.mg X.base CX k f fd ps sp) (hr:Room k X.A) (hg:Gl X x) (hm:X.mg x=some (.ref f)) (hk:W.keepIn X.K (.ref f)=true) (hb:WZ X.K fd ps ds) (hd:xh dvs ds) (hx:V3 CX X E)
  (ha:PA X (e :: es) t) (hdb:(x==("__debug__":Str))=false:=by decide) (he:starEach (e :: es) X.env=(false,eval e X.env) :: starEach es X.env:=by rfl) (hpl:(backTo pos (starEach es X.env)).any (·.1)=false:=by rfl) :
  PE X (.Call (.Name x p) (e :: es) [] pos) (NI sp dvs E t):=by
 intro pins s σ H Q I h
 refine wpAny_Call_Name_kw (QW I hg hm ?_ hdb)
 refine PySem.W.callWith_K (h₀:=X.base) I.ok.mod.kin hk (thn (ha pos pins s σ H _ I h) fun us s1 ⟨vs,H1,I1,r,q⟩=>⟨I1.kIn,?_⟩) he hpl
 exact Ff F hr hb hd hx I1 r q
end
section
variable {X:Cx} {CX:CXT} {k:Nat} {f C:Addr} {fd:FuncData} {ps ks:List Str} {sp:Sp} {E:XK} {x m:Str} {p pos apos kpos:Pos} {e o:Expr} {es:List Expr} {kws:List Keyword} {te ta:TE} {t tk:TA} {nm:Option Str}
variable {g:List Value->List Value->List Value} {gV:List V->List V->List V}
end
structure FnScope (N P:List Str) (sc:Scope):Prop where
 kind:sc.kind=.function
 co:sc.isCoroutine=false
 gen:sc.isGenerator=false
 nd:N.Nodup
 pre:N.take P.length=P
 par:∀ x∈P,sc.names.lookup x=some .local\/sc.names.lookup x=some .cell
 nofree:∀ y∈sc.names,y.2≠.free
theorem XX {kindOf:Str->Option NameKind} {x:Str}:∀ {binds:List (Str×Value)} {m:Str->Option Value},(∀ v,(x,v)∉binds)->bindL kindOf binds m x=m x
 | [],_,_=>rfl
 | (n,v) :: r,m,h=>by
  unfold bindL
  rw [XX fun w hw=>h w (g0m _ hw)]
  split
  ·have:x≠n:=by rintro rfl; exact h v g0i
   simp [this]
  ·rfl
theorem XZ {kindOf:Str->Option NameKind} {x:Str}:∀ {binds:List (Str×Value)} {m:Str->Option Value},(∀ v,(x,v)∉binds)->bindC kindOf binds m x=m x
 | [],_,_=>rfl
 | (n,v) :: r,m,h=>by
  unfold bindC
  rw [XZ fun w hw=>h w (g0m _ hw)]
  split
  ·rfl
  ·have:x≠n:=by rintro rfl; exact h v g0i
   simp [this]
theorem XY {kindOf:Str->Option NameKind} {x:Str} {v:Value}:∀ {P:List Str} {vs:List Value} {i:Nat} {m:Str->Option Value},P.Nodup->P[i]? = some x->vs[i]? = some v->kindOf x=some .local →
  bindL kindOf (P.zip vs) m x=some v
 | [],_,_,_,_,h,_,_=>by simp at h
 | _ :: _,[],_,_,_,_,h,_=>by simp at h
 | p :: P,w :: vs,0,m,nd,h1,h2,hk=>by
  simp at h1 h2; subst h1; subst h2
  show bindL kindOf ((p,w) :: P.zip vs) m p=_
  unfold bindL
  rw [XX fun v hv=>(g2d.mp nd).1 (List.of_mem_zip hv).1,if_pos hk]
  simp
 | p :: P,w :: vs,i+1,m,nd,h1,h2,hk=>by
  show bindL kindOf ((p,w) :: P.zip vs) m x=_
  unfold bindL
  exact XY (i:=i) (g2d.mp nd).2 (by simpa using h1) (by simpa using h2) hk
theorem X0 {kindOf:Str->Option NameKind} {x:Str} {v:Value}:∀ {P:List Str} {vs:List Value} {i:Nat} {m:Str->Option Value},P.Nodup->P[i]? = some x->vs[i]? = some v->kindOf x≠some .local →
  bindC kindOf (P.zip vs) m x=some v
 | [],_,_,_,_,h,_,_=>by simp at h
 | _ :: _,[],_,_,_,_,h,_=>by simp at h
 | p :: P,w :: vs,0,m,nd,h1,h2,hk=>by
  simp at h1 h2; subst h1; subst h2
  show bindC kindOf ((p,w) :: P.zip vs) m p=_
  unfold bindC
  rw [XZ fun v hv=>(g2d.mp nd).1 (List.of_mem_zip hv).1,if_neg hk]
  simp
 | p :: P,w :: vs,i+1,m,nd,h1,h2,hk=>by
  show bindC kindOf ((p,w) :: P.zip vs) m x=_
  unfold bindC
  exact X0 (i:=i) (g2d.mp nd).2 (by simpa using h1) (by simpa using h2) hk
def start (N:List Str) (vs:List V):St:=vs.map some++g0l (N.length - vs.length) none
def Di (CX:CXT) (P:Program) (w:World) (K:W.Frag) (mg:Str->Option Value) (base:Heap) (N:List Str) (qual:Str) (scope:Scope) (f:Addr) (cd:Value) (A:Around) (outer:List Env) (s:Shared) (H:Hp) (E:XK):Cx where
 prog:=P
 w:=w
 K:=K
 mg:=mg
 base:=base
 A:=A.deeper (envOfC qual scope s.heap.objs.size f cd)
 N:=N
 s₀:=s
 H₀:=H
 env:=envOfC qual scope s.heap.objs.size f cd
 outer:=outer
 stack:=envOfC qual scope s.heap.objs.size f cd :: outer
 ex:=[]
 calm:=true
 fn:=fun _=>true
 pn:=[]
 xe:=fun e s'=>wpAny (model P w) (A.deeper (envOfC qual scope s.heap.objs.size f cd)) (leaving (envOfC qual scope s.heap.objs.size f cd) e) (fun _ s''=>CX outer H s E e s'') (fun e' s''=>CX outer H s E e' s'') s'
theorem VS {sc:Scope} {n:Nat} {x:Str} (h:sc.names.lookup x=some .cell):∃ c,(cellsFrom n sc.names []).lookup x=some c:=by
 have q:=PySem.W.cellsFrom_some sc.names n [] (.inl h)
 exact Option.isSome_iff_exists.mp q
theorem Q8 {CX:CXT} {P:Program} {w:World} {K:W.Frag} {mg:Str->Option Value} {base:Heap} {N ps:List Str} {qual:Str} {scope:Scope} {f:Addr} {cd:Value} {A:Around} {outer:List Env} {s s1:Shared} {H:Hp} {E:XK} {us:List Value} {vs:List V}
  (S:FnScope N ps scope) (hd:A.handled=none) (e0:Env0 P w K mg base A outer s H) (hl:vs.length=ps.length) (r:xh vs us)
  (x:InCallC s s.heap.objs.size (bindL (envOfC qual scope s.heap.objs.size f cd).kindOf (ps.zip us) fun _=>none) (cellsFrom (s.heap.objs.size+1) scope.names []) (bindC (envOfC qual scope s.heap.objs.size f cd).kindOf (ps.zip us) fun _=>none) s1) :
  Inv (Di CX P w K mg base N qual scope f cd A outer s H E) [] (start N vs) H s1:=by
 have hpl:ps.length<=N.length:=by have:=congrArg List.length S.pre; rw [g3i] at this; omega
 obtain ⟨h1,tk,rfl,hk⟩:=x.done
 have noA:∀ b:Addr,b∉(Di CX P w K mg base N qual scope f cd A outer s H E).ex:=fun b z=>absurd (show b∈([]:List Addr) from z) (by simp)
 refine ⟨⟨e0.mod,S.kind,rfl,rfl,g0q _,fun y z c h1 h2=>?_,fun y hy=>?_,fun y c _ h=>?_,fun _=>hd,Around.frames_deeper e0.frames,.inr ⟨rfl,rfl⟩,fun b z=>absurd z (noA b),e0.bs,e0.bsz,fun b _ _=>noA b,fun b z=>absurd z (noA b),e0.funs,e0.frf⟩,
  rfl,e0.bare,Un.kept hk,⟨_,x.toInCall.ns,fun i y v h1 h2 h3=>?_⟩,fun y c h=>⟨_,x.cell y c h⟩,e0.hok.fresh (g0q _),fun y c h=>?_,fun p hp=>absurd (show p∈([]:List (Addr×Obj)) from hp) (by simp),e0.hok.kept hk,?_⟩
 ·exact name_of_addr x.apart (PySem.mem_of_lookup h1) (PySem.mem_of_lookup h2)
 ·have hy:scope.names.lookup y=some .cell\/scope.names.lookup y=some .free:=hy
  rcases hy with hy | hy
  ·exact VS hy
  ·exact absurd rfl (S.nofree _ (PySem.mem_of_lookup hy))
 ·exact Nat.le_of_lt (x.above y c (PySem.mem_of_lookup h))
 ·have hi:i < vs.length:=by
   unfold start at h2
   by_cases hi:i < vs.length
   ·exact hi
   ·rw [g1q (by simpa using hi)] at h2
    rw [g2b] at h2
    split at h2 <;> cases h2
  have ha:vs[i]? = some v:=by
   unfold start at h2
   rw [g1e (by simpa using hi),g0z] at h2
   cases e:vs[i]? with
   | none=>rw [e] at h2; cases h2
   | some a=>rw [e] at h2; cases h2; rfl
  obtain ⟨u,hu,rv⟩:=r.get ha
  have hp:ps[i]? = some y:=by
   rw [<- S.pre,List.getElem?_take_of_lt (by omega)]; exact h1
  have ndP:ps.Nodup:=by rw [<- S.pre]; exact S.nd.sublist (List.take_sublist _ _)
  refine ⟨u,rv,?_⟩
  rcases S.par y (g1y hp) with k | k
  ·exact .inl ⟨k,XY ndP hp hu k⟩
  ·obtain ⟨c,e⟩:=VS (n:=s.heap.objs.size+1) k
   refine .inr ⟨.inl k,c,e,?_⟩
   have q:=x.cell y c e
   rw [X0 ndP hp hu (by show scope.names.lookup y≠_; rw [k]; decide)] at q
   exact q
 ·exact e0.hok.fresh (Nat.le_of_lt (x.above y c (PySem.mem_of_lookup h)))
 ·unfold start
  show _=N.length
  rw [g0g,g0f,List.length_replicate]
  omega
theorem Ph {CX:CXT} {P:Program} {w:World} {K:W.Frag} {mg:Str->Option Value} {base:Heap} {k:Nat} {f:Addr} {name qual:Str} {params:Arguments} {body:List Stmt} {scope:Scope} {dV kV doc pm cdv ct oc:Value} {an od:Option Addr}
  {osl:Array (Option Value)} {N ps:List Str} {sp:Sp} (lk:K.lookup f=some ⟨oc,od,.func (W.fnOf name qual params body scope dV kV doc pm an cdv ct),osl⟩) (hcd:W.codeIn K cdv qual=true) (S:FnScope N ps scope)
  (len:∀ vs H Q E,sp vs H Q E->vs.length=ps.length)
  (hbody:∀ (A:Around) (outer:List Env) (s:Shared) (H:Hp) (vs:List V) (Q:VK) (E:XK),Room k (A.deeper (envOfC qual scope s.heap.objs.size f cdv))->sp vs H Q E →
   ∃ t,PSs (Di CX P w K mg base N qual scope f cdv A outer s H E) body t/\t { nx:=fun _ H'=>Q .non H',rt:=Q } (start N vs) H) :
  FnOk P w K mg base CX (k+1) f (W.fnOf name qual params body scope dV kV doc pm an cdv ct) ps sp:=by
 refine ⟨len,fun A outer s H args us vs Q E hr e0 hb r hsp=>?_⟩
 have hl:=len _ _ _ _ hsp
 have KX:K.In s.heap:=e0.mod.kin.keeps fun b o e=>(e0.bs b o e).1
 have lim:s.heap.NoLimit:=e0.mod.nolimit.keeps fun b o e=>(e0.bs b o e).1
 have hkind:∀ y∈ps.zip us,scope.names.lookup y.1=some .local\/(scope.names.lookup y.1=some .cell/\((cellsFrom (s.heap.objs.size+1) scope.names []).lookup y.1).isSome=true):=fun ⟨n,v⟩ hy=>by
  rcases S.par n (List.of_mem_zip hy).1 with q | q
  ·exact .inl q
  ·exact .inr ⟨q,PySem.W.cellsFrom_some _ _ _ (.inl q)⟩
 refine codeAny_call_function hr.depth (KX _ _ lk) rfl S.co S.gen rfl (PySem.W.codeRec_of KX hcd) (hb _ _ _ _ ?_)
 refine wpAny_newFunctionEnv_cells S.kind hkind fun env he s1 x=>?_
 subst he
 refine ⟨lim.keeps x.toInCall.keep,codeAny_func ?_⟩
 obtain ⟨t,ht,hq⟩:=hbody A outer s H vs Q E (hr.deeper _) hsp
 have I:Inv (Di CX P w K mg base N qual scope f cdv A outer s H E) [] (start N vs) H s1:=Q8 S hr.hd e0 hl r x
 refine wpAny_mono (ht [] s1 (start N vs) H _ I hq) (fun fl s' hs=>?_) fun e s' hs=>hs
 have fin:∀ {σ':St} {H':Hp} {v:V} {u:Value},Inv (Di CX P w K mg base N qual scope f cdv A outer s H E) [] σ' H' s'->xm v u->Q v H'->CE outer P w H s Q u s' :=
  fun {σ' H' v u} J rv q=>⟨v,H',J.os,J.bare,J.base,J.hok,rv,q⟩
 cases fl with
 | ret u =>
  obtain ⟨v,σ',H',J,rv,q⟩:=hs
  exact fin J rv q
 | next =>
  obtain ⟨σ',H',J,q⟩:=hs
  exact fin (v:=V.non) (u:=Value.none) J rfl q
 | brk =>
  obtain ⟨_,_,_,q⟩:=hs
  exact False.elim q
 | cont =>
  obtain ⟨_,_,_,q⟩:=hs
  exact False.elim q
section
variable {X:Cx} {x:Str} {p pos:Pos} {e:Expr} {es:List Expr} {t:TA} {id T:String} {r:List V->Hp->VK->Prop}
def tCB (r:List V->Hp->VK->Prop) (t:TA):TE:=fun σ H Q=>t σ H fun vs H1=>r vs H1 Q
theorem Vc (hc:wt X (.builtin id) r) (hg:Gl X x) (hm:X.mg x=none) (hv:bootBuiltins x=some (.builtin id)) (ha:PA X (e :: es) t) (hn:x≠"__name__":=by decide) (hdb:(x==("__debug__":Str))=false:=by decide)
  (he:starEach (e :: es) X.env=(false,eval e X.env) :: starEach es X.env:=by rfl) (hpl:(backTo pos (starEach es X.env)).any (·.1)=false:=by rfl):PE X (.Call (.Name x p) (e :: es) [] pos) (tCB r t):=by
 intro pins s σ H Q I h
 refine wpAny_Call_Name_kw (Xp I hg hm hv ?_ hn hdb)
 exact PyProof.Rows.callWith_builtin1 (thn (ha pos pins s σ H _ I h) fun us s1 ⟨vs,H1,I1,r1,q1⟩=>hc pins s1 σ H1 vs us Q I1 r1 q1) he hpl
theorem wm (hc:wt X (.type T) r) (hg:Gl X x) (hm:X.mg x=none) (hv:bootBuiltins x=some (.type T)) (ha:PA X (e :: es) t) (hn:x≠"__name__":=by decide) (hdb:(x==("__debug__":Str))=false:=by decide)
  (he:starEach (e :: es) X.env=(false,eval e X.env) :: starEach es X.env:=by rfl) (hpl:(backTo pos (starEach es X.env)).any (·.1)=false:=by rfl):PE X (.Call (.Name x p) (e :: es) [] pos) (tCB r t):=by
 intro pins s σ H Q I h
 refine wpAny_Call_Name_kw (Xp I hg hm hv ?_ hn hdb)
 exact PyProof.Rows.callWith_type1 (thn (ha pos pins s σ H _ I h) fun us s1 ⟨vs,H1,I1,r1,q1⟩=>hc pins s1 σ H1 vs us Q I1 r1 q1) he hpl
end
end L2
namespace HT
open PySem PyProof.Rows
section
open PySem.SeqAt
open PySem.AutoSeq1 (wpAny_loadPart')
open PySem.MeetsSeq PySem.MeetsSeq2 PySem.MeetsSeq3
end
section
variable {prog:Program} {w:World} {A:Around} {E:Value->Shared->Prop} {s:Shared}
theorem cat_tup {t b:Addr} {vs ws:List Value} {Q:Value->Shared->Prop} (ht:IsTup s.heap t vs.toArray) (hb:IsTup s.heap b ws.toArray) (hv:vs≠[])
  (h1:ws=[]->Q (.ref t) s) (h2:ws≠[]->Q (.ref s.heap.objs.size) { s with heap:=s.heap.push { cls:=.type "tuple",data:=.seq (vs++ws).toArray } })
  (hsz:vs.length+ws.length<=sizeLine):wpAny (model prog w) A (binaryOp .Add (.ref t) (.ref b)) Q E s:=by
 obtain ⟨⟨cls,dd,data,sl⟩,ho,hc,n,hd⟩:=id ht
 obtain ⟨⟨cls2,dd2,data2,sl2⟩,ho2,hc2,n2,hd2⟩:=id hb
 simp only at hc hd hc2 hd2
 subst hc hd hc2 hd2
 have e:vs.toArray++ws.toArray=(vs++ws).toArray:=by simp
 by_cases hw:ws=[]
 ·exact concat_meets ⟨_,ho,rfl⟩ ⟨_,ho2,rfl⟩ noFill_tuple_add seq_tuple_add PySem.F.slot_tuple_add PySem.F.entry_tuple_add (PySem.F.args_tuple_add_2 _ _)
   (tuple_addW1 t b vs.toArray ws.toArray n n2 dd dd2 sl sl2 (by simpa using hv) (by simp [hw])) ⟨ho,ho2,h1 hw⟩
 ·refine concat_meets ⟨_,ho,rfl⟩ ⟨_,ho2,rfl⟩ noFill_tuple_add seq_tuple_add PySem.F.slot_tuple_add PySem.F.entry_tuple_add (PySem.F.args_tuple_add_2 _ _)
   (tuple_addW2 t b vs.toArray ws.toArray n n2 dd dd2 sl sl2 (by simpa using hv) (by simpa using hw) (by rw [g1d,g1d]; exact hsz)) ⟨ho,ho2,?_⟩
  rw [e]
  exact h2 hw
def sIx (n d:Nat):Option Int->Nat
 | none=>d
 | some v=>if v < 0 then (v+(n:Int)).toNat else min v.toNat n
theorem sIx_nat (n d k:Nat):sIx n d (some (k:Int))=min k n:=by
 show (if (k:Int) < 0 then ((k:Int)+(n:Int)).toNat else min (k:Int).toNat n)=min k n
 rw [if_neg (by omega),Int.toNat_natCast]
theorem Fe (n d:Nat) (hd:d<=n) (o:Option Int):sIx n d o<=n:=by
 cases o with
 | none=>exact hd
 | some v =>
  show (if v < 0 then (v+(n:Int)).toNat else min v.toNat n)<=n
  by_cases hv:v < 0
  ·rw [if_pos hv]; omega
  ·rw [if_neg hv]; exact Nat.min_le_right _ _
theorem JQ (v:Int) (n d:Nat):(if v < 0 then max (v+(n:Int)) 0 else min v (n:Int))=((sIx n d (some v):Nat):Int):=by
 show (if v < 0 then max (v+(n:Int)) 0 else min v (n:Int))=(((if v < 0 then (v+(n:Int)).toNat else min v.toNat n):Nat):Int)
 by_cases hv:v < 0
 ·simp only [if_pos hv]; omega
 ·simp only [if_neg hv]; omega
theorem UT (lo hi:Option Int) (n:Nat):Builtin.Slice.sliceAdjust lo hi 1 (n:Int)=(((sIx n 0 lo:Nat):Int),((sIx n n hi:Nat):Int)):=by
 have h1:¬ ((1:Int) < 0):=by omega
 unfold Builtin.Slice.sliceAdjust
 simp only [h1,if_false]
 refine Prod.ext ?_ ?_
 ·cases lo with
  | none=>rfl
  | some v=>exact JQ v n 0
 ·cases hi with
  | none=>rfl
  | some v=>exact JQ v n n
theorem Uk (i j:Nat):Builtin.Slice.slicePlaces (i:Int) (j:Int) 1=j - i:=by
 unfold Builtin.Slice.slicePlaces
 have h1:(1:Int) > 0:=by omega
 simp only [h1,if_true,Int.ediv_one]
 split <;> omega
theorem ZF {v:Value} {o:Option Int} {Q:Option Int->Shared->Prop} (p:IsPart v o) (h:Q o s):wpAny (model prog w) A (Builtin.Slice.slicePartIndex v) Q E s:=by
 cases p with
 | none=>exact slicePart_none h
 | int i t=>exact slicePart_int h
theorem sliceApplied_gen {sl:Addr} {vl vu:Value} {lo hi:Option Int} {n:Nat} {Q:Int×Int×Nat->Shared->Prop} (hs:s.heap.IsSliceOf sl vl vu .none) (pl:IsPart vl lo) (pu:IsPart vu hi)
  (h:Q (((sIx n 0 lo:Nat):Int),1,sIx n n hi - sIx n 0 lo) s):wpAny (model prog w) A (Builtin.Slice.sliceApplied (.ref sl) (pure (n:Int))) Q E s:=by
 obtain ⟨os,hos,hcs,hds⟩:=id hs
 unfold Builtin.Slice.sliceApplied Builtin.Slice.sliceFields
 refine wpAny_bind (wpAny_bind (wpAny_field hos hds (x:=vl) rfl (wpAny_bind (wpAny_field hos hds (x:=vu) rfl (wpAny_bind (wpAny_field hos hds (x:=.none) rfl (wpAny_pure ?_)))))))
 refine wpAny_bind (slicePart_none ?_)
 show wpAny _ _ (if ((1:Int)==0)=true then _ else _) _ _ s
 rw [if_neg (by decide)]
 refine wpAny_bind (ZF pl (wpAny_bind (ZF pu (wpAny_bind (wpAny_pure ?_)))))
 show wpAny _ _ (match Builtin.Slice.sliceAdjust lo hi 1 (n:Int) with | (lo,hi)=>pure (lo,(1:Int),Builtin.Slice.slicePlaces lo hi 1)) _ _ s
 rw [UT lo hi n]
 show wpAny _ _ (pure (((sIx n 0 lo:Nat):Int),(1:Int),Builtin.Slice.slicePlaces ((sIx n 0 lo:Nat):Int) ((sIx n n hi:Nat):Int) 1)) _ _ s
 rw [Uk]
 exact wpAny_pure h
theorem KS (xs:Array Value) (i k:Nat):((g0t k).filterMap fun (m:Nat)=>xs[((i:Int)+(m:Int) * 1).toNat]?).toArray=((xs.toList.drop i).take k).toArray:=by
 have e:(fun (m:Nat)=>xs[((i:Int)+(m:Int) * 1).toNat]?)=fun m=>xs[i+m]? := by
  funext m
  have:((i:Int)+(m:Int) * 1).toNat=i+m:=by omega
  rw [this]
 rw [e]
 have:=pick_run xs i k
 rw [List.filterMap_map] at this
 have e2:((fun x=>xs[x]?) ∘ fun x=>i+x)=fun m=>xs[i+m]? := rfl
 rw [e2] at this
 rw [this]
theorem getItem_tuple_cut {t sl:Addr} {items:Array Value} {vl vu:Value} {lo hi:Option Int} {Q:Value->Shared->Prop} (ht:IsTup s.heap t items) (hs:s.heap.IsSliceOf sl vl vu .none) (pl:IsPart vl lo) (pu:IsPart vu hi)
  (hw:¬ (sIx items.size 0 lo=0/\sIx items.size items.size hi=items.size))
  (h:Q (.ref s.heap.objs.size) { s with heap:=s.heap.push { cls:=.type "tuple",data:=.seq ((items.toList.drop (sIx items.size 0 lo)).take (sIx items.size items.size hi - sIx items.size 0 lo)).toArray } })
  (hsz:items.size<=sizeLine):wpAny (model prog w) A (getItem (.ref t) (.ref sl)) Q E s:=by
 have htake:sizeOk (.seq ((items.toList.drop (sIx items.size 0 lo)).take (sIx items.size items.size hi - sIx items.size 0 lo)).toArray):=by
  show ((items.toList.drop (sIx items.size 0 lo)).take (sIx items.size items.size hi - sIx items.size 0 lo)).toArray.size<=sizeLine
  rw [g1d,g3i,g3j,Array.length_toList]
  omega
 have hj:sIx items.size items.size hi<=items.size:=Fe _ _ (g0q _) hi
 obtain ⟨os,hos,hcs,hds⟩:=id hs
 have hTs:s.TypeIs (.ref sl) "slice":=⟨os,hos,hcs⟩
 unfold getItem
 try with_reducible refine wpAny_holding ?_
 first | refine wpAny_bind (wpAny_pure ?_) | skip
 refine wpAny_bind (wpAny_sequenceKey ht.typeIs (by decide) ?_)
 refine wpAny_bind (wpAny_callSpecial?_slot (name:=Str.ofString "__getitem__") ht.typeIs PyProof.Rows.slot_tuple_getitem
  (wpAny_call_entry PyProof.Rows.slot_tuple_getitem ht.typeIs entry_tuple_getitem ?_ (args_tuple_getitem _ _)))
 show wpAny _ _ (Builtin.Tuple.tupleItemsOf (.ref t) >>= _) _ _ s
 refine wpAny_bind (tupleItemsOf_ ht ?_)
 refine wpAny_bind (wpAny_typeOf hTs ?_)
 rw [if_pos (by decide)]
 refine wpAny_bind (sliceApplied_gen hs pl pu ?_)
 have hno:¬ ((((sIx items.size 0 lo:Nat):Int)==0&&(1:Int)==1&&(sIx items.size items.size hi - sIx items.size 0 lo)==items.size)=true):=by
  intro q
  rw [g1p,g1p] at q
  have q1:((sIx items.size 0 lo:Nat):Int)=0:=eq_of_beq q.1.1
  have q2:sIx items.size items.size hi - sIx items.size 0 lo=items.size:=eq_of_beq q.2
  exact hw ⟨by omega,by omega⟩
 show wpAny _ _ (if (((sIx items.size 0 lo:Nat):Int)==0&&(1:Int)==1&&(sIx items.size items.size hi - sIx items.size 0 lo)==items.size)=true then _ else _) _ _ s
 rw [if_neg hno,KS]
 first
  | exact wpAny_bind (m:=Builtin.Tuple.tupleExact _) (wpAny_newObj_type (wpAny_pure ⟨_,rfl,wpAny_pure h⟩) htake)
  | exact wpAny_bind (m:=Builtin.Tuple.tupleExact _) (wpAny_newObj_type (wpAny_bind (wpAny_pure (wpAny_pure ⟨_,rfl,wpAny_pure h⟩))) htake)
  | exact wpAny_bind (wpAny_bind (m:=Builtin.Tuple.tupleExact _) (wpAny_newObj_type (wpAny_pure (wpAny_pure ⟨_,rfl,wpAny_pure h⟩)) htake))
  | exact wpAny_bind (wpAny_bind (m:=Builtin.Tuple.tupleExact _) (wpAny_newObj_type (wpAny_pure ⟨_,rfl,wpAny_pure h⟩) htake))
end
end HT
namespace L2
open PySem PySem.Spec PyProof.Rows
abbrev TO:=St->Hp->(Option Int->Hp->Prop)->Prop
def PO (X:Cx) (e:Option Expr) (t:TO):Prop :=
 ∀ (pins:List (Addr×Obj)) (s:Shared) (σ:St) (H:Hp) (Q:Option Int->Hp->Prop),Inv X pins σ H s->t σ H Q →
  wpAny (model X.prog X.w) X.A (evalPart e X.env) (fun u s'=>∃ o H',Inv X pins σ H' s'/\IsPart u o/\Q o H') X.xe s
def Bg:TO:=fun _ H Q=>Q none H
def NB (t:TE):TO:=fun σ H Q=>t σ H fun x H1=>∃ i,x=.int i/\Q (some i) H1
section
variable {X:Cx} {e:Expr} {te:TE} {lo hi:Option Expr} {tl th:TO} {pos p2:Pos}
theorem BN:PO X none Bg:=by
 intro pins s σ H Q I h
 rw [evalPart_none]
 exact wpAny_pure ⟨none,H,I,.none,h⟩
theorem BM (h:PE X e te):PO X (some e) (NB te):=by
 intro pins s σ H Q I hw
 rw [evalPart_some]
 refine thn (h pins s σ H _ I hw) fun u s1 ⟨x,H1,I1,r1,q1⟩=>?_
 obtain ⟨i,rfl,q⟩:=q1
 obtain ⟨t,rfl⟩:=r1
 exact ⟨some i,H1,I1,.int i t,q⟩
def SlR (X:Cx) (r:V->Option Int->Option Int->Hp->VK->Prop):Prop :=
 ∀ (pins:List (Addr×Obj)) (s:Shared) (σ:St) (H:Hp) (x:V) (v vl vu:Value) (lo hi:Option Int) (sl:Addr) (Q:VK),Inv X pins σ H s->xm x v->s.heap.IsSliceOf sl vl vu .none->IsPart vl lo->IsPart vu hi->r x lo hi H Q →
  ∃ T id,typeLookup (.type T) "__getitem__"=pure (some (.builtin id))/\s.TypeIs v T/\wpAny (model X.prog X.w) X.A (getItem v (.ref sl)) (EP X pins σ Q) X.xe s
theorem SlR.or {r r':V->Option Int->Option Int->Hp->VK->Prop} (h:SlR X r) (h':SlR X r'):SlR X (fun x lo hi H Q=>r x lo hi H Q\/r' x lo hi H Q):=by
 intro pins s σ H x v vl vu lo hi sl Q I rx hs pl pu q
 rcases q with q | q
 ·exact h pins s σ H x v vl vu lo hi sl Q I rx hs pl pu q
 ·exact h' pins s σ H x v vl vu lo hi sl Q I rx hs pl pu q
def tSl (r:V->Option Int->Option Int->Hp->VK->Prop) (te:TE) (tl th:TO):TE:=fun σ H Q=>te σ H fun x H1=>tl σ H1 fun l H2=>th σ H2 fun u H3=>r x l u H3 Q
theorem KY {r:V->Option Int->Option Int->Hp->VK->Prop} (hr:SlR X r) (he:PE X e te) (hl:PO X lo tl) (hu:PO X hi th):PE X (.Subscript e (.Slice lo hi none p2) pos) (tSl r te tl th):=by
 intro pins s σ H Q I h
 refine Subscript_ (thn (he pins s σ H _ I h) fun v s1 ⟨x,H1,I1,r1,q1⟩=>?_)
 refine wpAny_Slice (thn (hl pins s1 σ H1 _ I1 q1) fun vl s2 ⟨l,H2,I2,pl,q2⟩=>thn (hu pins s2 σ H2 _ I2 q2) fun vu s3 ⟨u,H3,I3,pu,q3⟩=>?_)
 rw [evalPart_none]
 refine wpAny_pure ?_
 have I4:Inv X pins σ H3 { s3 with heap:=s3.heap.push { cls:=.type "slice",data:=.fields #[vl,vu,.none] } }:=I3.kept (t':=s3.toks) fun b ob q=>Heap.get?_push_of_some _ q
 obtain ⟨T,id,hT,ht,hg⟩:=hr pins { s3 with heap:=s3.heap.push { cls:=.type "slice",data:=.fields #[vl,vu,.none] } } σ H3 x v vl vu l u s3.heap.objs.size Q I4 r1 (Heap.IsSliceOf.new ..) pl pu q3
 show wpAny (model X.prog X.w) X.A (subscriptTail e (.Slice lo hi none p2) v (.ref s3.heap.objs.size)) (EP X pins σ Q) X.xe { s3 with heap:=s3.heap.push { cls:=.type "slice",data:=.fields #[vl,vu,.none] } }
 exact tail_any (ops:=[.ref s3.heap.objs.size,v]) ht hT hg (by with_unfolding_all rfl)
def JN (xs:List V) (lo hi:Option Int):List V:=(xs.drop (HT.sIx xs.length 0 lo)).take (HT.sIx xs.length xs.length hi - HT.sIx xs.length 0 lo)
theorem kS (xs:List V) (lo hi:Option Int):(JN xs lo hi).length<=xs.length:=by
 unfold JN
 rw [g3i,g3j]
 omega
def Ru (K:W.Frag):V->Option Int->Option Int->Hp->VK->Prop:=fun x lo hi H Q=>∃ a xs,x=.ref a/\SqT K H a xs ∧
 ¬ (HT.sIx xs.length 0 lo=0/\HT.sIx xs.length xs.length hi=xs.length)/\∀ p,H p=none->Q (.ref p) (upd H p (.tup (JN xs lo hi)))
theorem D3:SlR X (Ru X.K):=by
 intro pins s σ H x v vl vu lo hi sl Q I rx hs pl pu h
 obtain ⟨a,xs,rfl,hx,hw,q⟩:=h
 cases rx
 obtain ⟨its,r,ht,hz⟩:=I.tuple hx
 have hlen:its.toArray.size=xs.length:=by rw [g1d]; exact r.length.symm
 refine ⟨"tuple",_,PyProof.Rows.slot_tuple_getitem.lookup,ht.typeIs,?_⟩
 refine HT.getItem_tuple_cut ht hs pl pu (by rw [hlen]; exact hw) ?_ (by rw [hlen]; exact hz)
 rw [hlen]
 refine ⟨.ref s.heap.objs.size,_,I.laid (t':=s.toks) (o:=.tup (JN xs lo hi)) (fun b ob q=>Heap.get?_push_of_some _ q) (g0q _) ?_,rfl,q _ (I.hok.fresh (g0q _))⟩
 exact ⟨g2j (kS xs lo hi) hz,_,(r.drop (HT.sIx xs.length 0 lo)).take (HT.sIx xs.length xs.length hi - HT.sIx xs.length 0 lo),IsTup.new _ _⟩
def NZ (K:W.Frag):R2:=fun x y H Q=>∃ a b xs ys,x=.ref a/\y=.ref b/\SqT K H a xs/\SqT K H b ys/\xs≠[]/\xs.length+ys.length<=sizeLine ∧
 (ys=[]->Q (.ref a) H)/\(ys≠[]->∀ p,H p=none->Q (.ref p) (upd H p (.tup (xs++ys))))
theorem xh.nil_iff {xs:List V} {us:List Value} (r:xh xs us):us=[]↔xs=[]:=by
 cases r with
 | nil=>simp
 | cons _ _=>simp
theorem Cb:OpR X (binaryOp .Add) (NZ X.K):=by
 intro pins s σ H x y v u Q I rx ry h
 obtain ⟨a,b,xs,ys,rfl,rfl,ha,hb,hx,hz,q1,q2⟩:=h
 cases rx
 cases ry
 obtain ⟨its,r1,p1,_⟩:=I.tuple ha
 obtain ⟨its2,r2,p2,_⟩:=I.tuple hb
 refine HT.cat_tup p1 p2 (fun z=>hx (r1.nil_iff.mp z)) (fun z=>⟨.ref a,H,I,rfl,q1 (r2.nil_iff.mp z)⟩) (fun z=>?_) (by rw [<- r1.length,<- r2.length]; exact hz)
 refine ⟨.ref s.heap.objs.size,_,I.laid (t':=s.toks) (o:=.tup (xs++ys)) (fun b ob q=>Heap.get?_push_of_some _ q) (g0q _) ?_,rfl,q2 (fun w=>z (r2.nil_iff.mpr w)) _ (I.hok.fresh (g0q _))⟩
 exact ⟨by rw [g0g]; exact hz,_,r1.append r2,IsTup.new _ _⟩
end
def ixN (n:Nat) (i:Int):Option Nat:=if 0<=i then (if i < n then some i.toNat else none) else if -(n:Int)<=i then some (i+n).toNat else none
def atI {α:Type} (xs:List α) (i:Int):Option α:=(ixN xs.length i).bind fun j=>xs[j]?
theorem CU {n:Nat} {i:Int} {j:Nat} (h:ixN n i=some j):seqIndex? i n=some j/\j < n /\ -(n:Int)<=i/\i < n:=by
 unfold ixN at h
 by_cases h0:0<=i
 ·rw [if_pos h0] at h
  by_cases h1:i < n
  ·rw [if_pos h1] at h
   have e:i.toNat=j:=g3e.inj h
   exact ⟨by rw [seqIndex_of h0 h1,e],by omega,by omega,h1⟩
  ·rw [if_neg h1] at h; cases h
 ·rw [if_neg h0] at h
  by_cases h1 : -(n:Int)<=i
  ·rw [if_pos h1] at h
   have e:(i+n).toNat=j:=g3e.inj h
   exact ⟨by rw [seqIndex_neg (by omega) h1,e],by omega,h1,by omega⟩
  ·rw [if_neg h1] at h; cases h
theorem WU {α:Type} {xs:List α} {i:Int} {v:α} (h:atI xs i=some v):∃ j,seqIndex? i xs.length=some j/\xs[j]? = some v/\j < xs.length /\ -(xs.length:Int)<=i/\i < xs.length:=by
 unfold atI at h
 cases e:ixN xs.length i with
 | none=>rw [e] at h; cases h
 | some j =>
  rw [e] at h
  obtain ⟨h1,h2,h3,h4⟩:=CU e
  exact ⟨j,h1,h,h2,h3,h4⟩
theorem uD {α:Type} {xs:List α} {j:Nat} {v:α} (h:xs[j]? = some v):atI xs (j:Int)=some v:=by
 have hj:j < xs.length:=(g0v.mp h).1
 have e:ixN xs.length (j:Int)=some j:=by
  unfold ixN
  rw [if_pos (by omega),if_pos (by omega)]; simp
 unfold atI; rw [e]; exact h
def WV (b:Expr):Prop:=∀ o i,subscripted b false o i=operate [o,i] (getItem o i)
def IxR (X:Cx) (r:R2):Prop :=
 ∀ (value slice:Expr) (pins:List (Addr×Obj)) (s:Shared) (σ:St) (H:Hp) (x y:V) (v u:Value) (Q:VK),Inv X pins σ H s->xm x v->xm y u->r x y H Q →
  subscripted slice false v u=operate [v,u] (getItem v u)->wpAny (model X.prog X.w) X.A (subscriptTail value slice v u) (EP X pins σ Q) X.xe s
def MtR (X:Cx) (id:String) (r:V->List V->Hp->VK->Prop):Prop :=
 ∀ (pins:List (Addr×Obj)) (s:Shared) (σ:St) (H:Hp) (x:V) (xs:List V) (v:Value) (us:List Value) (Q:VK),Inv X pins σ H s->xm x v->xh xs us->r x xs H Q →
  wpAny (model X.prog X.w) X.A (call (.builtin id) (v :: us)) (EP X pins σ Q) X.xe s
section
variable {X:Cx} {a b:Expr} {ta tb:TE} {pos:Pos}
theorem IxR.or {r r':R2} (h:IxR X r) (h':IxR X r'):IxR X (fun x y H Q=>r x y H Q\/r' x y H Q):=by
 intro value slice pins s σ H x y v u Q I rx ry q hs
 rcases q with q | q
 ·exact h value slice pins s σ H x y v u Q I rx ry q hs
 ·exact h' value slice pins s σ H x y v u Q I rx ry q hs
theorem N6 {r:R2} (hr:IxR X r) (ha:PE X a ta) (hb:PE X b tb) (hs:WV b):PE X (.Subscript a b pos) (tOp r ta tb):=by
 intro pins s σ H Q I h
 exact Subscript_ (Px ha hb I h fun v u s2 x y H2 I2 rx ry q=>hr a b pins s2 σ H2 x y v u Q I2 rx ry q (hs _ _))
def PZ (K:W.Frag):R2:=fun x y H Q=>∃ p xs i v,x=.ref p/\y=.int i/\SqL K H p xs/\atI xs i=some v/\Q v H
def PX (K:W.Frag):R2:=fun x y H Q=>∃ p xs i v,x=.ref p/\y=.int i/\SqT K H p xs/\atI xs i=some v/\Q v H
def PY:R2:=fun x y H Q=>∃ z i c,x=.str z/\y=.int i/\z.length<=sizeLine/\atI z.cps.toList i=some c/\Q (.str ⟨#[c]⟩) H
theorem CT:IxR X (PZ X.K):=by
 intro value slice pins s σ H x y v u Q I rx ry h hs
 obtain ⟨p,xs,i,z,rfl,rfl,hq,he,q⟩:=h
 cases rx
 obtain ⟨t,rfl⟩:=ry
 obtain ⟨its,r,pl,hz⟩:=I.list hq
 obtain ⟨j,h1,h2,h3,h4,h5⟩:=WU he
 obtain ⟨w,ew,rw'⟩:=r.get h2
 have hl:=r.length
 have hn:=Xn
 have fin:EP X pins σ Q w s:=⟨z,H,I,rw',q⟩
 by_cases h0:0<=i
 ·have hj:i.toNat=j:=by
   rw [seqIndex_of h0 h5] at h1
   exact g3e.inj h1
  exact item_listR pl.isList h0 (by omega) (by rw [hj]; simpa using ew) fin hs
 ·have hj:(i+(its.toArray.size:Int)).toNat=j:=by
   rw [seqIndex_neg (by omega) h4] at h1
   rw [g1d,<- hl]
   exact g3e.inj h1
  exact subscriptTail_builtinR (x:=w) pl.isList.typeIs slot_list_getitem.lookup
   (wpAny_getItem_list_neg (Q:=fun r s'=>r=w/\EP X pins σ Q r s') pl.isList (by omega) (by rw [g1d] <;> omega) (by omega) (by rw [hj]; simpa using ew) ⟨rfl,fin⟩) hs
theorem Mx:IxR X (PX X.K):=by
 intro value slice pins s σ H x y v u Q I rx ry h hs
 obtain ⟨p,xs,i,z,rfl,rfl,hq,he,q⟩:=h
 cases rx
 obtain ⟨t,rfl⟩:=ry
 obtain ⟨its,r,pl,hz⟩:=I.tuple hq
 obtain ⟨j,h1,h2,h3,h4,h5⟩:=WU he
 obtain ⟨w,ew,rw'⟩:=r.get h2
 have hl:=r.length
 have hn:=Xn
 have fin:EP X pins σ Q w s:=⟨z,H,I,rw',q⟩
 exact subscriptTail_builtinR (x:=w) pl.typeIs slot_tuple_getitem.lookup
  (getItem_tuple (j:=j) (Q:=fun r s'=>r=w/\EP X pins σ Q r s') pl (by omega) (by omega) (by rw [g1d,<- hl]; exact h1) (by simpa using ew) ⟨rfl,fin⟩) hs
theorem My:IxR X PY:=by
 intro value slice pins s σ H x y v u Q I rx ry h hs
 obtain ⟨z,i,c,rfl,rfl,hz,he,q⟩:=h
 obtain ⟨t,rfl⟩:=rx
 obtain ⟨t',rfl⟩:=ry
 obtain ⟨j,h1,h2,h3,h4,h5⟩:=WU he
 have hl:z.cps.toList.length=z.length:=by simp [Str.length]
 rw [hl] at h1 h4 h5
 have hn:=Xn
 exact tail_any (typeIs_str s z t) slot_str_getitem.lookup (getItem_str (c:=c) (by
  have e1:decide (i < -(2 ^ 63:Int))=false:=decide_eq_false (by omega)
  have e2:decide (i ≥ 2 ^ 63)=false:=decide_eq_false (by omega)
  rw [e1,e2,Bool.or_false]) (by rw [h1]; simpa using h2) ⟨.str ⟨#[c]⟩,H,I.tok _,⟨_,rfl⟩,q⟩) hs
def rIx (K:W.Frag):R2:=fun x y H Q=>PZ K x y H Q\/PX K x y H Q\/PY x y H Q
theorem Mz:IxR X (rIx X.K):=CT.or (Mx.or My)
theorem Y3 (lo hi:Option Int) (n:Nat):(sliceBounds lo hi none n).1=((HT.sIx n 0 lo:Nat):Int)/\(sliceBounds lo hi none n).2.1=((HT.sIx n n hi:Nat):Int)/\(sliceBounds lo hi none n).2.2=1:=by
 refine ⟨?_,?_,rfl⟩
 ·cases lo with
  | none=>simp [sliceBounds,HT.sIx]
  | some i =>
   simp only [sliceBounds,HT.sIx,Option.getD_none,show (1:Int) > 0 by decide,if_true]
   by_cases h:i < 0
   ·simp only [h,if_true] <;> omega
   ·simp only [h,if_false] <;> omega
 ·cases hi with
  | none=>simp [sliceBounds,HT.sIx]
  | some i =>
   simp only [sliceBounds,HT.sIx,Option.getD_none,show (1:Int) > 0 by decide,if_true]
   by_cases h:i < 0
   ·simp only [h,if_true] <;> omega
   ·simp only [h,if_false] <;> omega
theorem Yg (its:List Value) (lo hi:Option Int):slicePick its.toArray lo hi none=((its.drop (HT.sIx its.length 0 lo)).take (HT.sIx its.length its.length hi - HT.sIx its.length 0 lo)).toArray:=by
 obtain ⟨h1,h2,h3⟩:=Y3 lo hi its.toArray.size
 unfold slicePick
 rw [h1,h2,h3]
 simp only [sliceRange_one,pick_run,g1d] <;> rfl
def Rv (K:W.Frag):V->Option Int->Option Int->Hp->VK->Prop:=fun x lo hi H Q=>∃ a xs,x=.ref a/\SqL K H a xs/\∀ p,H p=none->Q (.ref p) (upd H p (.lst (JN xs lo hi)))
theorem Bj:SlR X (Rv X.K):=by
 intro pins s σ H x v vl vu lo hi sl Q I rx hs pl pu h
 obtain ⟨a,xs,rfl,hx,q⟩:=h
 cases rx
 obtain ⟨its,r,ht,hz⟩:=I.list hx
 have hlen:=r.length
 refine ⟨"list",_,slot_list_getitem.lookup,ht.isList.typeIs,?_⟩
 refine wpAny_getItem_list_slice ht.isList hs pl pu .none (by simp) ?_ (by rw [g1d] <;> omega)
 rw [Yg,<- hlen]
 refine ⟨.ref s.heap.objs.size,_,I.laid (t':=s.toks) (o:=.lst (JN xs lo hi)) (fun b ob q=>Heap.get?_push_of_some _ q) (g0q _) ?_,rfl,q _ (I.hok.fresh (g0q _))⟩
 exact ⟨g2j (kS xs lo hi) hz,_,0,(r.drop (HT.sIx xs.length 0 lo)).take (HT.sIx xs.length xs.length hi - HT.sIx xs.length 0 lo),Heap.get?_push_size _ rfl⟩
theorem XS:wt X (.builtin "len") (fun xs H Q=>∃ p ys,xs=[.ref p]/\(SqL X.K H p ys\/SqT X.K H p ys)/\Q (.int ys.length) H):=by
 intro pins s σ H xs us Q I r h
 obtain ⟨p,ys,rfl,hq,q⟩:=h
 obtain ⟨u,rfl,rx⟩:=ql r
 cases rx
 have hn:=Xn
 rcases hq with hq | hq
 ·obtain ⟨its,r',pl,hz⟩:=I.list hq
  have hlen:=r'.length
  exact Calls.call_len_list pl.isList (by simp only [g1d] <;> omega) ⟨.int ys.length,H,I.tok _,⟨s.toks+1,by rw [g1d,hlen]⟩,q⟩
 ·obtain ⟨its,r',pl,hz⟩:=I.tuple hq
  have hlen:=r'.length
  exact len_tuple pl (by simp only [g1d] <;> omega) ⟨.int ys.length,H,I.tok _,⟨s.toks+1,by rw [g1d,hlen]⟩,q⟩
theorem XR:wt X (.builtin "len") (fun xs H Q=>∃ z,xs=[.str z]/\z.length<=sizeLine/\Q (.int z.length) H):=by
 intro pins s σ H xs us Q I r h
 obtain ⟨z,rfl,hz,q⟩:=h
 obtain ⟨u,rfl,t,rfl⟩:=ql r
 have hn:=Xn
 exact len_str (by omega) ⟨.int z.length,H,I.tok _,⟨_,rfl⟩,q⟩
theorem wt.or {f:Value} {r r':List V->Hp->VK->Prop} (h:wt X f r) (h':wt X f r'):wt X f (fun xs H Q=>r xs H Q\/r' xs H Q):=by
 intro pins s σ H xs us Q I rs q
 rcases q with q | q
 ·exact h pins s σ H xs us Q I rs q
 ·exact h' pins s σ H xs us Q I rs q
theorem XQ:wt X (.type "list") (fun xs H Q=>∃ p ys,xs=[.ref p]/\(SqL X.K H p ys\/SqT X.K H p ys)/\∀ l,H l=none->Q (.ref l) (upd H l (.lst ys))):=by
 intro pins s σ H xs us Q I r h
 obtain ⟨p,ys,rfl,hq,q⟩:=h
 obtain ⟨u,rfl,rx⟩:=ql r
 cases rx
 have fin:∀ (its:List Value),xh ys its->ys.length<=sizeLine->∀ (h':Heap) (c':Nat),(∀ b o',s.heap.get? b=some o'->h'.get? b=some o') →
   h'.get? s.heap.objs.size=some { cls:=.type "list",dict:=none,data:=.seq its.toArray c',slots := #[] }->EP X pins σ Q (.ref s.heap.objs.size) { s with heap:=h' }:=fun its r' hz h' c' kp e =>
  ⟨.ref s.heap.objs.size,_,I.laid (t':=s.toks) kp (g0q _) (show xY X.prog X.w _ h' _ (.lst ys) from ⟨hz,its,c',r',e⟩),rfl,q _ (I.hok.fresh (g0q _))⟩
 rcases hq with hq | hq
 ·obtain ⟨its,r',pl,hz⟩:=I.list hq
  have hlen:=r'.length
  obtain ⟨o,ho,hc,n,hd⟩:=pl.isList
  exact call_list_seq p (.inl rfl) ho hc hd (fun h' c' kp e=>fin its r' hz h' c' kp e) (by simp only [g1d] <;> omega)
 ·obtain ⟨its,r',pl,hz⟩:=I.tuple hq
  have hlen:=r'.length
  obtain ⟨o,ho,hc,n,hd⟩:=pl
  exact call_list_seq p (.inr rfl) ho hc hd (fun h' c' kp e=>fin its r' hz h' c' kp e) (by simp only [g1d] <;> omega)
theorem uc:wt X (.type "tuple") (fun xs H Q=>∃ p ys,xs=[.ref p]/\((SqL X.K H p ys/\∀ l,H l=none->Q (.ref l) (upd H l (.tup ys)))\/(SqT X.K H p ys/\Q (.ref p) H))):=by
 intro pins s σ H xs us Q I r h
 obtain ⟨p,ys,rfl,h⟩:=h
 obtain ⟨u,rfl,rx⟩:=ql r
 cases rx
 rcases h with ⟨hq,q⟩ | ⟨hq,q⟩
 ·obtain ⟨its,r',pl,hz⟩:=I.list hq
  have hlen:=r'.length
  refine call_tuple_list pl.isList (fun h' kp=>?_) (by simp only [g1d] <;> omega)
  have I1:Inv X pins σ H { s with heap:=h' }:=I.kept (t':=s.toks) kp
  have I2:Inv X pins σ (upd H h'.objs.size (.tup ys)) { s with heap:=h'.push { cls:=.type "tuple",data:=.seq its.toArray } } :=
   I1.laid (t':=s.toks) (fun b o e=>Heap.get?_push_of_some _ e) (g0q _) (show xY X.prog X.w _ _ _ (.tup ys) from ⟨hz,its,r',IsTup.new _ _⟩)
  exact ⟨.ref h'.objs.size,_,I2,rfl,q _ (I1.hok.fresh (g0q _))⟩
 ·obtain ⟨its,r',pl,hz⟩:=I.tuple hq
  exact call_tuple_same pl ⟨.ref p,H,I,rfl,q⟩
def tyV (K:W.Frag) (T:String) (x:V) (H:Hp):Prop:=match x with
 | .str _=>T="str"
 | .int _=>T="int"
 | .ref p=>(T="list"/\∃ xs,SqL K H p xs)\/(T="tuple"/\∃ o,K.lookup p=some o/\o.cls=.type "tuple"/\o.dict=none) ∨
   (T="dict"/\((∃ kvs,H p=some (.dK kvs))\/∃ kvs,H p=some (.dT kvs)))\/(T="set"/\∃ S n,H p=some (.set S n))
 | _=>False
theorem DM {pins:List (Addr×Obj)} {σ:St} {H:Hp} {s:Shared} {T:String} {x:V} {v:Value} (I:Inv X pins σ H s) (r:xm x v) (ty:tyV X.K T x H) :
  s.TypeIs v T/\∀ a,v=.ref a->∃ ob,s.heap.get? a=some ob/\ob.dict=none:=by
 cases x with
 | str z =>
  obtain ⟨t,rfl⟩:=r
  cases (show T="str" from ty)
  exact ⟨typeIs_str s z t,fun _ e=>nomatch e⟩
 | int i =>
  obtain ⟨t,rfl⟩:=r
  cases (show T="int" from ty)
  exact ⟨typeIs_int s i t,fun _ e=>nomatch e⟩
 | ref p =>
  cases r
  rcases ty with ⟨rfl,xs,hq⟩ | ⟨rfl,o,hk,hc,hd⟩ | ⟨rfl,hk⟩ | ⟨rfl,S,n,hk⟩
  ·obtain ⟨its,_,pl,_⟩:=I.list hq
   refine ⟨pl.isList.typeIs,fun a e=>?_⟩
   cases e
   obtain ⟨o,n,e,c,hd,_⟩:=pl
   exact ⟨o,e,hd⟩
  ·refine ⟨⟨o,I.kIn p o hk,hc⟩,fun a e=>?_⟩
   cases e
   exact ⟨o,I.kIn _ o hk,hd⟩
  ·have z:∃ o,s.heap.get? p=some o/\o.ExactDict:=by
    rcases hk with ⟨kvs,hk⟩ | ⟨kvs,hk⟩
    ·obtain ⟨_,_,_,_,o,_,_,e,ex,_⟩:=I.hok p _ hk
     exact ⟨o,e,ex⟩
    ·obtain ⟨_,_,_,_,o,_,_,e,ex,_⟩:=I.hok p _ hk
     exact ⟨o,e,ex⟩
   obtain ⟨o,e,ex⟩:=z
   refine ⟨⟨o,e,ex.1⟩,fun a e2=>?_⟩
   cases e2
   exact ⟨o,e,ex.2.1⟩
  ·obtain ⟨o,_,_,_,e,ex,_⟩:=I.hok p _ hk
   refine ⟨⟨o,e,ex.1⟩,fun a e2=>?_⟩
   cases e2
   exact ⟨o,e,ex.2.1⟩
 | _=>exact False.elim ty
def tBM (K:W.Frag) (T:String) (r:V->List V->Hp->VK->Prop) (to:TE) (t:TA):TE:=fun σ H Q=>to σ H fun x H1=>tyV K T x H1/\t σ H1 fun xs H2=>r x xs H2 Q
variable {o e:Expr} {es:List Expr} {to:TE} {t:TA} {name:Str} {apos cpos:Pos} {T id:String} {r:V->List V->Hp->VK->Prop}
theorem BS (pa:PlainAttrs T) (slot:Slot T name id) (hty:typeOf (.builtin id)=pure (.type "method_descriptor")) (hm:MtR X id r) (ho:PE X o to) (ha:PA X (e :: es) t)
  (hbase:attributeBase o name X.env (eval o X.env)=eval o X.env:=by rfl)
  (hfew:((backTo cpos (starEach (e :: es) X.env)).all (fun x => !x.1)&&(backToKw cpos (keywordEach [] X.env)).all (fun x=>x.1.isSome)
   && decide ((e :: es).length+([]:List Keyword).length+(if ([]:List Keyword).isEmpty then 0 else 1) < 30))=true:=by rfl)
  (hline:(apos.endLine==cpos.line)=true:=by rfl) (hs:starEach (e :: es) X.env=(false,eval e X.env) :: starEach es X.env:=by rfl) (hplain:(backTo cpos (starEach es X.env)).any (·.1)=false:=by rfl) :
  PE X (.Call (.Attribute o name apos) (e :: es) [] cpos) (tBM X.K T r to t):=by
 intro pins s σ H Q I h
 refine wpAny_Call_method_late hbase hfew hline rfl (thn (ho pins s σ H _ I h) fun v s1 ⟨x,H1,I1,r1,ty,q1⟩=>?_)
 obtain ⟨h1,h2⟩:=DM I1 r1 ty
 refine ⟨T,id,pa,slot,hty,h1,h2,?_⟩
 have hA:=ha cpos pins s1 σ H1 _ I1 q1
 rw [hs] at hA ⊢
 refine Calls.callWith_builtin (by show (false||(backTo cpos (starEach es X.env)).any (·.1))=false; rw [hplain] <;> rfl) (Calls.evalArgs_plain ?_)
 exact thn hA fun us s2 ⟨vs,H2,I2,r2,q2⟩=>hm pins s2 σ H2 x vs v us Q I2 r1 r2 q2
end
def MtM (X:Cx) (id:String) (r:V->List V->Hp->VK->Prop):Prop :=
 ∀ (pins:List (Addr×Obj)) (s:Shared) (σ:St) (H:Hp) (x:V) (xs:List V) (v:Value) (us:List Value) (Q:VK),Inv X pins σ H s->xm x v->xh xs us->r x xs H Q →
  wpAny (model X.prog X.w) X.A (call (.builtin id) (v :: us)) (EP X pins σ Q) X.xe s
theorem xh.one:∀ {x:V} {us:List Value},xh [x] us->∃ u,us=[u]/\xm x u
 | _,_,.cons r .nil=>⟨_,rfl,r⟩
theorem xh.rep {xs:List V} {us:List Value} (h:xh xs us):∀ k:Nat,xh (g0l k xs).flatten (g0l k us).flatten
 | 0=>.nil
 | k+1=>by
  rw [g2m,g2m,g3b,g3b]
  exact xh.append h (xh.rep h k)
theorem XA (its:List Value):∀ (k:Nat) (acc:List Value),
  List.foldl (fun x1 x2=>x1++x2) acc.toArray (g0l k its.toArray)=(acc++(g0l k its).flatten).toArray
 | 0,acc=>by simp
 | k+1,acc=>by
  have e:acc.toArray++its.toArray=(acc++its).toArray:=by simp
  have e2:(acc++its)++(g0l k its).flatten=acc++(g0l (k+1) its).flatten:=by
   rw [g2m,g3b,g1a]
  rw [<- e2,<- XA its k (acc++its),<- e,g2m,List.foldl_cons]
section
variable {X:Cx} {pins:List (Addr×Obj)} {σ:St} {H:Hp} {s:Shared} {l b:Addr} {xs ys zs:List V}
theorem Inv.lset {its its':List Value} {n:Nat} {f:Array Value->Array Value} {t':Nat} (I:Inv X pins σ H s) (hH:H l=some (.lst xs))
  (e:s.heap.get? l=some { cls:=.type "list",data:=.seq its.toArray n }) (hf:f its.toArray=its'.toArray) (hv:xh ys its') (hz:ys.length<=sizeLine) :
  Inv X pins σ (upd H l (.lst ys)) { s with heap:=s.heap.update l (Obj.mapSeq f),toks:=t' }:=by
 have q:=PySem.IsL.update e f
 rw [hf] at q
 refine I.write (x:=l) (e:=l) (by rw [hH]; exact trivial) (.inl rfl) (fun b' u hb hu=>(Heap.get?_update_other s.heap (Obj.mapSeq f) (Ne.symm hb)).trans hu) ⟨_,q⟩ ?_
 exact ⟨hz,its',_,hv,q⟩
theorem Inv.lnew {its:List Value} {t':Nat} (I:Inv X pins σ H s) (hv:xh ys its) (hz:ys.length<=sizeLine) :
  Inv X pins σ (upd H s.heap.objs.size (.lst ys)) { s with heap:=s.heap.push { cls:=.type "list",data:=.seq its.toArray },toks:=t' } :=
 I.laid (fun _ _ q=>Heap.get?_push_of_some _ q) (g0q _) ⟨hz,its,0,hv,Heap.get?_push_size _ rfl⟩
theorem Inv.fresh (I:Inv X pins σ H s):H s.heap.objs.size=none:=I.hok.fresh (g0q _)
theorem Inv.lstM (I:Inv X pins σ H s) (hH:H l=some (.lst xs)):xs.length<=sizeLine/\∃ (its:List Value) (n:Nat),xh xs its/\xs.length=its.length/\s.heap.get? l=some { cls:=.type "list",data:=.seq its.toArray n }:=by
 obtain ⟨z,its,n,r,e⟩:=I.hok l _ hH
 exact ⟨z,its,n,r,r.length,e⟩
theorem Gf {n:Nat} (h:n<=sizeLine):Builtin.List.listTooLong n=false:=by
 unfold Builtin.List.listTooLong
 exact decide_eq_false (by omega)
end
section
variable {X:Cx}
def BE:V->List V->Hp->VK->Prop:=fun x vs H Q=>∃ l xs y,x=.ref l/\vs=[y]/\H l=some (.lst xs)/\xs.length < sizeLine/\Q .non (upd H l (.lst (xs++[y])))
theorem Xl:MtM X "list.append" BE:=by
 intro pins s σ H x vs v us Q I rx rv h
 obtain ⟨l,xs,y,rfl,rfl,hH,hz,q⟩:=h
 cases rx
 obtain ⟨u,rfl,ru⟩:=rv.one
 obtain ⟨z,its,n,r,hl,e⟩:=I.lstM hH
 refine call_meets F.slot_list_append ⟨_,e,rfl⟩ F.entry_list_append (F.args_list_append_2 _ _) (PySem.list_append l its.toArray n u (by rw [g1d]; omega)) ⟨e,?_⟩
 refine ⟨.non,_,I.lset (its':=its++[u]) hH e (by simp) (r.append (.cons ru .nil)) ?_,rfl,q⟩
 rw [g0g,g0s]
 omega
theorem CA {α:Type} (xs:List α) (k:Nat):(g0l k xs).flatten.length=k * xs.length:=by
 induction k with
 | zero=>simp
 | succ k ih=>rw [g2m,g3b,g0g,ih,Nat.succ_mul,Nat.add_comm]
end
section
variable {prog:Program} {w:World} {A:Around} {E:Value->Shared->Prop} {s:Shared}
end
section
variable {X:Cx}
end
section
variable {κ:Type} [DecidableEq κ]
def Be (kvs:List (κ×V)) (k:κ):Option V:=(kvs.find? fun kv=>decide (kv.1=k)).map (·.2)
def Uj (kvs:List (κ×V)) (k:κ) (v:V):List (κ×V) :=
 if (kvs.any fun kv=>decide (kv.1=k))=true then kvs.map (fun kv=>if kv.1=k then (kv.1,v) else kv) else kvs++[(k,v)]
theorem W1 {p:κ×V} {r:List (κ×V)} {k:κ} (e:p.1=k):Be (p :: r) k=some p.2:=by simp [Be,List.find?_cons,e]
theorem W2 {p:κ×V} {r:List (κ×V)} {k:κ} (e:¬ p.1=k):Be (p :: r) k=Be r k:=by simp [Be,List.find?_cons,e]
theorem W3 (k:κ):∀ kvs:List (κ×V),(kvs.any fun kv=>decide (kv.1=k))=(Be kvs k).isSome
 | []=>rfl
 | p :: r=>by
  rw [g3g]
  by_cases e:p.1=k
  ·simp only [W1 e,decide_eq_true e,Bool.true_or,Option.isSome_some]
  ·rw [W2 e,decide_eq_false e,Bool.false_or]; exact W3 k r
theorem kz (kvs:List (κ×V)) (k:κ) (v:V):(Uj kvs k v).length<=kvs.length+1:=by
 unfold Uj
 split
 ·rw [g0f]; omega
 ·rw [g0g,g0e,g0n]; omega
theorem Nh.isSome_eq {o:Option V} {u:Option Value} (r:Nh o u):o.isSome=u.isSome:=by
 cases o with
 | none=>cases u with
  | none=>rfl
  | some _=>exact (show False from r).elim
 | some _=>cases u with
  | none=>exact (show False from r).elim
  | some _=>rfl
theorem KV.any {kvs:List (κ×V)} {vs:List (κ×Value)} (r:KV kvs vs) (k:κ):(kvs.any fun kv=>decide (kv.1=k))=vs.any fun kv=>decide (kv.1=k):=by
 unfold KV at r
 induction r with
 | nil=>rfl
 | cons h t ih=>rw [g3g,g3g,ih,h.1]
theorem KV.repl {kvs:List (κ×V)} {vs:List (κ×Value)} (r:KV kvs vs) (k:κ) {y:V} {u:Value} (ry:xm y u) :
  KV (kvs.map fun kv=>if kv.1=k then (kv.1,y) else kv) (vs.map fun kv=>if kv.1=k then (kv.1,u) else kv):=by
 unfold KV at r ⊢
 induction r with
 | nil=>exact .nil
 | @cons p q ps qs h t ih =>
  rw [g0h,g0h]
  refine .cons ?_ ih
  obtain ⟨h1,h2⟩:=h
  by_cases e:p.1=k
  ·rw [if_pos e,if_pos (h1.symm.trans e)]; exact ⟨h1,ry⟩
  ·rw [if_neg e,if_neg (fun z=>e (h1.trans z))]; exact ⟨h1,h2⟩
theorem KV.put {kvs:List (κ×V)} {vs:List (κ×Value)} (r:KV kvs vs) (k:κ) {y:V} {u:Value} (ry:xm y u):KV (Uj kvs k y) (stored vs k u):=by
 unfold Uj stored
 rw [r.any k]
 by_cases e:(vs.any fun kv=>decide (kv.1=k))=true
 ·rw [if_pos e,if_pos e]; exact r.repl k ry
 ·rw [if_neg e,if_neg e]; exact Paired.snoc r ⟨rfl,ry⟩
theorem KV.length {kvs:List (κ×V)} {vs:List (κ×Value)} (r:KV kvs vs):kvs.length=vs.length:=Paired.length r
end
theorem Mu {P:Program} {w:World} {k:Key} {u:Value} (r:xm (kV k) u):(xU P w).is k u=true:=by
 cases k with
 | inl i=>obtain ⟨t,e⟩:=(show ∃ t,u=Value.int i t from r); subst e; exact Wx P w i t
 | inr x=>obtain ⟨t,e⟩:=(show ∃ t,u=Value.str x t from r); subst e; exact Ww P w x t
theorem Xs {P:Program} {w:World}:∀ {ks:List Key} {us:List Value},xh (ks.map kV) us->ItemsAre (xU P w) ks us
 | [],_,r=>by rw [g1b] at r; cases r; exact .nil
 | k :: ks,_,r=>by
  rw [g0h] at r
  cases r with
  | cons h t=>exact .cons (Mu h) (Xs t)
abbrev KT (H:Hp):List (List Key×V)->List (List Key×Addr×Value)->Prop:=Paired fun p q=>p.1=q.1/\H q.2.1=some (.tup (p.1.map kV))/\xm p.2 q.2.2
theorem KT.val {H:Hp} {kvs:List (List Key×V)} {xs:List (List Key×Addr×Value)} (r:KT H kvs xs) (k:List Key):Nh (Be kvs k) ((atKey xs k).map (·.2)):=by
 induction r with
 | nil=>exact True.intro
 | @cons p q ps qs h t ih =>
  obtain ⟨h1,_,h2⟩:=h
  by_cases e:p.1=k
  ·have e':q.1=k:=h1.symm.trans e
   have b:atKey (q :: qs) k=some q.2:=by simp [atKey,List.find?_cons,e']
   rw [W1 e,b]; exact h2
  ·have e':¬ q.1=k:=fun z=>e (h1.trans z)
   have b:atKey (q :: qs) k=atKey qs k:=by simp [atKey,List.find?_cons,e']
   rw [W2 e,b]; exact ih
theorem KT.repl {H:Hp} {kvs:List (List Key×V)} {xs:List (List Key×Addr×Value)} (r:KT H kvs xs) (k:List Key) {y:V} {u:Value} (ry:xm y u) :
  KT H (kvs.map fun kv=>if kv.1=k then (kv.1,y) else kv) (xs.map (putAt k u)):=by
 induction r with
 | nil=>exact .nil
 | @cons p q ps qs h t ih =>
  rw [g0h,g0h]
  refine .cons ?_ ih
  obtain ⟨h1,h2,h3⟩:=h
  unfold putAt
  by_cases e:p.1=k
  ·rw [if_pos e,if_pos (h1.symm.trans e)]; exact ⟨h1,h2,ry⟩
  ·rw [if_neg e,if_neg (fun z=>e (h1.trans z))]; exact ⟨h1,h2,h3⟩
theorem KT.put {H:Hp} {kvs:List (List Key×V)} {xs:List (List Key×Addr×Value)} (r:KT H kvs xs) (k:List Key) {b:Addr} {y:V} {u:Value} (hb:H b=some (.tup (k.map kV))) (ry:xm y u) :
  KT H (Uj kvs k y) (storedH xs k b u):=by
 have e:(kvs.any fun kv=>decide (kv.1=k))=(atKey xs k).isSome:=by
  rw [W3,(r.val k).isSome_eq,Option.isSome_map]
 unfold Uj storedH
 rw [e]
 by_cases q:(atKey xs k).isSome=true
 ·rw [if_pos q,if_pos q]; exact r.repl k ry
 ·rw [if_neg q,if_neg q]; exact Paired.snoc r ⟨rfl,hb,ry⟩
theorem KT.keeps {H H':Hp} {kvs:List (List Key×V)} {xs:List (List Key×Addr×Value)} (r:KT H kvs xs) (ht:∀ b ys,H b=some (.tup ys)->H' b=some (.tup ys)):KT H' kvs xs :=
 Paired.mapP r fun _ _ z=>⟨z.1,ht _ _ z.2.1,z.2.2⟩
section
variable {P:Program} {w:World} {H:Hp} {h:Heap} {a:Addr}
theorem Fh {u:HO} (ok:HOk P w H h) (e:Rd H a u):xY P w H h a u:=e.ok ok
theorem Pn {kvs:List (Key×V)} (ok:HOk P w H h) (e:Rd H a (.dK kvs)):kvs.length<=sizeLine/\(a==sysModules)=false/\∃ vs,KV kvs vs/\h.DictOf (xU P w) a vs :=
 show xY P w H h a (.dK kvs) from Fh ok e
theorem Po {kvs:List (Key×V)} (ok:HOk P w H h) (e:H a=some (.dK kvs)):kvs.length<=sizeLine/\(a==sysModules)=false/\∃ vs,KV kvs vs/\h.DictOf (xU P w) a vs:=Pn ok (.inl e)
theorem HH {ks:List Key} (ok:HOk P w H h) (e:H a=some (.tup (ks.map kV))):(tupleKind (xU P w)).is h ks a:=by
 obtain ⟨_,its,r,o,h1,h2,n,h3⟩:=(show xY P w H h a (.tup (ks.map kV)) from ok a _ e)
 exact ⟨o,its.toArray,n,h1,h2,h3,by simpa using Xs r⟩
theorem Pj {kvs:List (List Key×V)} (ok:HOk P w H h) (e:Rd H a (.dT kvs)):kvs.length<=sizeLine/\(a==sysModules)=false ∧
  ∃ xs,KT H kvs xs/\h.DictOfH (tupleKind (xU P w)) a xs:=by
 obtain ⟨z,y,xs,r,o,es,ep,h1,h2,h3,h4,h5⟩:=(show xY P w H h a (.dT kvs) from Fh ok e)
 refine ⟨z,y,xs,r,o,es,ep,h1,h2,h3,h4,fun x hx=>?_,h5⟩
 have all:∀ {l:List (List Key×V)} {m:List (List Key×Addr×Value)},KT H l m->∀ x∈m,(tupleKind (xU P w)).is h x.1 x.2.1:=by
  intro l m q
  induction q with
  | nil=>intro x hx; exact nomatch hx
  | @cons p q ps qs hq t ih =>
   intro x hx
   rcases g0o.mp hx with e | hx
   ·subst e
    exact HH ok (by rw [<- hq.1]; exact hq.2.1)
   ·exact ih x hx
 exact all r x hx
theorem Pk {kvs:List (List Key×V)} (ok:HOk P w H h) (e:H a=some (.dT kvs)):kvs.length<=sizeLine/\(a==sysModules)=false ∧
  ∃ xs,KT H kvs xs/\h.DictOfH (tupleKind (xU P w)) a xs:=Pj ok (.inl e)
end
def Nk (H:Hp) (a:Addr) (y v:V) (H':Hp):Prop :=
 (∃ kvs k,H a=some (.dK kvs)/\y=kV k/\kvs.length < sizeLine/\H'=upd H a (.dK (Uj kvs k v))) ∨
 ∃ kvs k b,H a=some (.dT kvs)/\y=.ref b/\H b=some (.tup (k.map kV))/\kvs.length < sizeLine/\H'=upd H a (.dT (Uj kvs k v))
theorem Nk.t {H:Hp} {a b:Addr} {kvs:List (List Key×V)} {k:List Key} {v:V} (e:H a=some (.dT kvs)) (eb:H b=some (.tup (k.map kV))) (hl:kvs.length < sizeLine) :
  Nk H a (.ref b) v (upd H a (.dT (Uj kvs k v))):=.inr ⟨kvs,k,b,e,rfl,eb,hl,rfl⟩
section
variable {X:Cx} {pins:List (Addr×Obj)} {σ:St} {H:Hp} {s:Shared} {a:Addr} {y v:V} {u r:Value} {o:Option V} {A:Around} {E:Value->Shared->Prop}
theorem Inv.big (I:Inv X pins σ H s):sysModules < s.heap.objs.size:=by
 have h:mainGlobals < s.heap.objs.size:=(I.mod.glob.keeps I.bk).lt
 exact Nat.lt_trans (by decide) h
theorem YI {h':Heap} {t':Nat} {ob:HO} (I:Inv X pins σ H s) (mu:Mut (H a)) (hs:Heap.SameBut a s.heap h') (he:∃ q,h'.get? a=some q) (new:xY X.prog X.w (upd H a ob) h' a ob) :
  Inv X pins σ (upd H a ob) { s with heap:=h',toks:=t' } :=
 I.write (x:=a) (e:=a) mu (.inl rfl) (fun b q hb z=>(hs.2 b hb).trans z) he new
theorem MS {P:Program} {w:World} {H':Hp} {h':Heap} {kvs:List (Key×V)} {vs:List (Key×Value)} (z:kvs.length<=sizeLine) (hd:(a==sysModules)=false) (rel:KV kvs vs) (dd:h'.DictOf (xU P w) a vs) :
  xY P w H' h' a (.dK kvs):=⟨z,hd,vs,rel,dd⟩
theorem JJ {H':Hp} {Q:Unit->Shared->Prop} (hu:A.units+1 < cLine) (I:Inv X pins σ H s) (g:Nk H a y v H') (ry:xm y u) (rv:xm v r) (h:∀ s',Inv X pins σ H' s'->Q () s') :
  wpAny (model X.prog X.w) A (setItem (.ref a) u r) Q E s:=by
 rcases g with ⟨kvs,k,e,ey,l,eH⟩ | ⟨kvs,k,b,e,ey,eb,l,eH⟩
 ·subst ey eH
  obtain ⟨z,hd,vs,rel,dd⟩:=Po I.hok e
  have hz:vs.length<=sizeLine:=by rw [<- rel.length]; exact z
  have hl:(Uj kvs k v).length<=sizeLine:=by have:=kz kvs k v; omega
  refine wpAny_setItem_pairs (hsz:=hz) (Mu ry) dd fun h' dd' hs=>h _ ?_
  have he:∃ q,h'.get? a=some q:=let ⟨q,_,_,hq,_⟩:=dd'; ⟨q,hq⟩
  exact YI I (by rw [e]; exact True.intro) hs he (MS hl hd (rel.put k rv) dd')
 ·subst ey eH
  cases (show u=Value.ref b from ry)
  obtain ⟨z,hd,xs,rel,dd⟩:=Pk I.hok e
  have hz:xs.length<=sizeLine:=by rw [<- Paired.length rel]; exact z
  have hl:(Uj kvs k v).length<=sizeLine:=by have:=kz kvs k v; omega
  refine wpAny_setItem_heap (hsz:=hz) (tupleKind_room_in1 hu) (HH I.hok eb) dd fun h' dd' hs=>h _ ?_
  obtain ⟨q,es,ep,hq,h2,h3,h4,_,h5⟩:=dd'
  refine YI I (by rw [e]; exact True.intro) hs ⟨q,hq⟩ ⟨hl,hd,_,(rel.put k eb rv).keeps fun c ys ec=>?_,q,es,ep,hq,h2,h3,h4,h5⟩
  rw [zG (Ma ec e (fun z=>nomatch z))]
  exact ec
end
section
variable {X:Cx} {pins:List (Addr×Obj)} {σ:St} {H:Hp} {s:Shared} {a:Addr} {kvs:List (Key×V)} {k:Key} {u:Value} {A:Around} {E:Value->Shared->Prop}
end
def P5 (i:Expr):Prop:=∀ ov iv,subscripted i false ov iv=operate [ov,iv] (getItem ov iv)
theorem Bh {prog:Program} {w:World} {A:Around} {E:Value->Shared->Prop} {s:Shared} {env:Env} {value slice:Expr} {pos:Pos} {T id:String} {Q:Value->Shared->Prop}
  (hl:typeLookup (.type T) "__getitem__"=pure (some (.builtin id))) (hs:P5 slice)
  (h:wpAny (model prog w) A (eval value env) (fun o s₁=>wpAny (model prog w) A (eval slice env) (fun i s₂=>s₂.TypeIs o T/\wpAny (model prog w) A (getItem o i) Q E s₂) E s₁) E s) :
  wpAny (model prog w) A (eval (.Subscript value slice pos) env) Q E s:=by
 refine Subscript_ (wpAny_mono h (fun o s₁ h₁=>wpAny_mono h₁ (fun i s₂ h₂=>?_) fun _ _ x=>x) fun _ _ x=>x)
 obtain ⟨hT,h₂⟩:=h₂
 unfold subscriptTail
 refine wpAny_bind ?_
 rw [getitemInPython_of_ne hT.not_modules]
 refine wpAny_bind (wpAny_specialOf hT hl ?_)
 have fin:wpAny (model prog w) A (subscripted slice false o i) (fun r s₃=>wpAny (model prog w) A (letTemporaryGo value o r >>= fun _=>pure r) Q E s₃) E s₂:=by
  rw [hs o i]
  exact wpAny_operating (wpAny_mono h₂ (fun r s₃ h₃=>wpAny_bind (wpAny_letTemporaryGo (wpAny_pure h₃))) fun _ _ x=>x)
 first
  | exact wpAny_pure (wpAny_bind fin)
  | exact wpAny_bind (wpAny_pure (wpAny_bind fin))
  | exact wpAny_bind fin
def NV (td ty tv:TE):TS:=fun D σ H=>tv σ H fun v H1=>td σ H1 fun x H2=>ty σ H2 fun y H3=>∃ a H4,x=.ref a/\Nk H3 a y v H4/\D.nx σ H4
section
variable {X:Cx} {o i e value:Expr} {pos pos' tpos:Pos} {td ty tv:TE}
theorem BJ (hu:X.A.units+1 < cLine) (ho:PE X o td) (hi:PE X i ty) (hv:PE X value tv) (hs:swapsWith value (some (.Subscript o i pos')) pos.line X.env=pure false) :
  PS X (.Assign [.Subscript o i pos'] value pos) (NV td ty tv):=by
 intro pins s σ H D I h
 refine wpAny_Assign_Subscript (thn (hv pins s σ H _ I h) fun r s1 ⟨v,H1,I1,rv,q1⟩=>thn (ho pins s1 σ H1 _ I1 q1) fun u s2 ⟨x,H2,I2,rx,q2⟩=>thn (hi pins s2 σ H2 _ I2 q2) fun iv s3 ⟨y,H3,I3,ry,a,H4,ex,g,q3⟩=>?_) hs
 subst ex
 obtain rfl:u=Value.ref a:=rx
 exact JJ hu I3 g ry rv fun s4 I4=>⟨σ,H4,I4,q3⟩
end
theorem GT {P:Program} {w:World} {H:Hp} (h:Heap) (hb:sysModules < h.objs.size):xY P w H (h.push { cls:=.type "dict",data:=.dict #[] }) h.objs.size (.dT []) :=
 ⟨g1z _,beq_eq_false_iff_ne.mpr (Ne.symm (g1u hb)),[],.nil,_,#[],0,Heap.get?_push_size _ rfl,⟨rfl,rfl,rfl⟩,rfl,rfl,List.nodup_nil⟩
def DY:TE:=fun _ H Q=>∀ p,H p=none->Q (.ref p) (upd H p (.dT []))
section
variable {X:Cx} {pos:Pos}
theorem K0:PE X (.Dict [] [] pos) DY:=fun pins s σ H Q I h =>
 wpAny_Dict_empty ⟨.ref s.heap.objs.size,_,I.laid (a:=s.heap.objs.size) (o:=.dT []) (t':=s.toks) (fun _ _ q=>Heap.get?_push_of_some _ q) (g0q _) (GT s.heap I.big),rfl,h _ (I.hok.fresh (g0q _))⟩
end
structure M2 (X:Cx) (o:Expr) (m:Str) (apos:Pos) (e f:Expr) (cpos:Pos):Prop where
 base:attributeBase o m X.env (eval o X.env)=eval o X.env
 few:((backTo cpos (starEach [e,f] X.env)).all (fun x => !x.1)&&(backToKw cpos (keywordEach [] X.env)).all (fun x=>x.1.isSome)
  && decide (([e,f]:List Expr).length+([]:List Keyword).length+(if ([]:List Keyword).isEmpty then 0 else 1) < 30))=true
 line:(apos.endLine==cpos.line)=true
 trees:backTo cpos (starEach [e,f] X.env)=[(false,eval e X.env),(false,eval f X.env)]
section
variable {X:Cx} {pins:List (Addr×Obj)} {σ:St} {H:Hp} {s:Shared} {a:Addr} {y d:V} {u r:Value} {o:Option V} {A:Around} {E:Value->Shared->Prop}
end
section
variable {X:Cx} {o e f:Expr} {apos cpos:Pos} {td ty tx:TE}
end
section
variable {X:Cx} {pins:List (Addr×Obj)} {σ:St} {H:Hp} {s:Shared} {a:Addr} {kvs:List (Key×V)} {A:Around} {E:Value->Shared->Prop}
end
section
variable {X:Cx} {pins:List (Addr×Obj)} {σ:St} {H:Hp} {s:Shared} {a:Addr} {y:V} {u:Value} {A:Around} {E:Value->Shared->Prop}
end
end L2
namespace Att
open PySem PySem.W PySem.Calls PyProof.Rows
theorem kE {P:Params} {h:Heap}:∀ (ns:List Int) (vs:List Value),WellAll P h vs (ns.map WData.int)->IntsAre vs ns:=by
 intro ns
 induction ns with
 | nil =>
  intro vs w
  rw [g1b] at w
  cases w
  exact .nil
 | cons n ns ih =>
  intro vs w
  rw [g0h] at w
  cases w with
  | cons a b =>
   cases a
   exact .cons _ _ (ih _ b)
theorem Qc {l:OpenLaw} {n:Nat} (hn:l.most=some n) {P:Params} {h:Heap} {args:List WData} {vals:List Value}
  (hpre:l.row.toRowW.claim.pre args=true) (hwl:WellAll P h vals args) :
  ∃ a vs ns,vals=[Value.ref a]/\args=[WData.list (ns.map WData.int)]/\h.get? a=some { cls:=.type "list",data:=.seq vs.toArray }/\IntsAre vs ns/\ns.length<=n:=by
 have hsh:WShape.hasAll [] args [.list .int]=true:=(pre_splitW hpre).1
 have hc:l.pre.holds [] { args:=args }=true:=(pre_splitW hpre).2
 obtain ⟨d,r,rfl,h1,h2⟩:=hasAllW_cons hsh
 obtain rfl:=hasAllW_nil h2
 obtain ⟨xs,rfl,h3⟩:=hasW_list h1
 obtain ⟨ns,rfl⟩:=items_int h3
 have hlen:ns.length<=n:=by
  unfold OpenLaw.pre at hc
  have h4:(WTm.not (.lt (.lit (.int (n:Int))) (.len (.arg 0)))).holds [] { args:=[.list (ns.map .int)] }=true:=by
   have h4:=(holds_andW hc).1
   rw [hn] at h4
   exact h4
  have h5:=condW_of h4 (w_not (w_lt w_lit (w_len_list (w_arg rfl))))
  rw [g0f] at h5
  refine Nat.le_of_not_lt fun q=>?_
  have q':(n:Int) < ((ns.length:Nat):Int):=by omega
  first
   | (rw [decide_eq_true q'] at h5; exact absurd h5 (by decide))
   | (simp at h5; omega)
 cases hwl with
 | cons w1 w2 =>
  cases w2
  cases w1 with
  | list ho hall=>exact ⟨_,_,ns,rfl,rfl,ho,kE ns _ hall,hlen⟩
theorem Qp (l:OpenLaw) (args:List WData):l.row.toRowW.claim.post args (.bool true) args=true :=
 postW_of (r:=l.row.toRowW) (X:=(true==true))
  (show WShape.has [] (.bool true) .bool=true by first | rfl | decide | simp [WShape.has,WShape.arms,WShape.armsAll])
  (show (WTm.eq .res (.lit (.bool true))).value [] { args:=args,res:=some (.bool true),after:=args }=some (.bool (true==true)) from w_eq_bool (w_res rfl) w_lit) rfl
theorem attach_call {l:OpenLaw} {n:Nat} {q:Program} {loose:List Str} {XP:(Str->Option Value)->Heap->Prop} {YP:World->Heap->Prop} {d:DefRec}
  (hn:l.most=some n) (hdf:d.params.defaults=[])
  (call:∀ (w:World) (s₀ s₁:Shared) (mg mb:Str->Option Value) (fa:Addr) (o:Obj) (pm cd doc:Value) (a:Addr) (vs:List Value) (ns:List Int),
   Ground q loose [] XP w s₀ mg mb s₁.heap->YP w s₁.heap →
   s₁.heap.get? fa=some o->o.data=.func (docDef d.name d.params d.body d.scope pm cd doc)->s₁.heap.CodeRec cd d.name->mg d.name=some (.ref fa) →
   s₁.heap.get? a=some { cls:=.type "list",data:=.seq vs.toArray }->IntsAre vs ns->ns.length<=n->s₁.gens = #[] →
   codeAny (model l.prog w) callerA (.call (.ref fa) ⟨[.ref a],[]⟩) (fun r s'=>r=.ok (.ret (.bool true))/\OldK s₁.heap s'.heap/\s'.os=s₁.os/\AllBare s'.gens) s₁) :
  WalkO q loose XP YP l.row.toRowW d [] (fun f vs=>PySem.call f vs):=by
 intro w s₀ s₁ mg mb G Y fa o pm cd doc dV kV ho hd hcd hD hmg hg args vals as hpre hlay hrd hwl hlo
 obtain rfl:dV=.none:=Dflts.none hD hdf
 obtain rfl:kV=.none:=Dflts.noKw hD
 obtain ⟨a,vs,ns,rfl,rfl,hobj,hints,hlen⟩:=Qc hn hpre hwl
 refine enter_call (codeAny_mono (call w s₀ s₁ mg mb fa o pm cd doc a vs ns G Y ho (fd_plain hd) hcd hmg hobj hints hlen hg) fun r s' hq=>?_)
 obtain ⟨rfl,h2,h3,h4⟩:=hq
 exact ⟨.inl ⟨.bool true,.bool true,[],rfl,fun _=>rfl,.bool true,Qp l _,fun _=>⟨List.Pairwise.nil,fun _ hm=>(nomatch hm)⟩⟩,h2,h3,h4⟩
section
variable {prog:Program} {w:World} {A:Around} {E:Value->Shared->Prop} {s:Shared} {K:Frag}
def P2 (h:Heap) (L d:Addr):List (Addr×Obj):=(g0t h.objs.size).filterMap fun a=>if a=L\/a=d then none else (h.get? a).map fun o=>(a,o)
end
end Att
namespace L2
open PySem PySem.Spec PyProof.Rows
theorem vals_ints:∀ {vs:List Value} {ns:List Int},IntsAre vs ns->xh (ns.map V.int) vs
 | _,_,.nil=>.nil
 | _,_,.cons n t h=>.cons ⟨t,rfl⟩ (vals_ints h)
def Nx (H:Hp):Prop:=∀ b,H b=none\/∃ o xs,H b=some (.frz o (.lst xs))
theorem Gu {P:Program} {w:World} {K:W.Frag} {mg mb:Str->Option Value} {CX:CXT} {k:Nat} {fa a:Addr} {fd:FuncData} {x:Str} {sp:Sp} {s₁:Shared} {vs:List Value} {ns:List Int}
  (KX:K.In s₁.heap) (hns:s₁.heap.Ns mainGlobals mg) (hb:s₁.heap.Ns builtinsNs mb) (hbb:∀ x:Str,x≠"__name__"->mb x=bootBuiltins x) (hlim:s₁.heap.NoLimit) (hg:s₁.gens = #[])
  (ha:s₁.heap.get? a=some { cls:=.type "list",data:=.seq vs.toArray }) (hi:IntsAre vs ns) (hl:ns.length<=sizeLine) (hr:Room k callerA)
  (F:∀ base:Heap,K.In base->base.Ns mainGlobals mg->FnOk P w K mg base CX k fa fd [x] sp) (hbind:∀ (s:Shared) (u:Value),BindsTo s fd ⟨[u],[]⟩ [(x,u)])
  (hsp:∀ H:Hp,Nx H->SqL K H a (ns.map V.int)->sp [.ref a] H (fun v _=>v=.bl true) fun _ _ _=>False)
  (hCX:∀ H e s',CX [] H s₁ (fun _ _ _=>False) e s'->False) :
  codeAny (model P w) callerA (.call (.ref fa) ⟨[.ref a],[]⟩) (fun r s'=>r=.ok (.ret (.bool true))/\OldK s₁.heap s'.heap/\s'.os=s₁.os/\AllBare s'.gens) s₁:=by
 have rv:=vals_ints hi
 have lenV:=hi.length
 have core:∀ H:Hp,Nx H->SqL K H a (ns.map V.int)->HOk P w H s₁.heap->(∀ b,H b≠none->b=a)->(H a≠none->K.lookup a=none) →
   codeAny (model P w) callerA (.call (.ref fa) ⟨[.ref a],[]⟩) (fun r s'=>r=.ok (.ret (.bool true))/\OldK s₁.heap s'.heap/\s'.os=s₁.os/\AllBare s'.gens) s₁:=by
  intro H hO hS hok hA hK
  have base_of:∀ {b:Addr} {o:Obj},s₁.heap.get? b=some o->H b=none->(GF s₁.heap H).get? b=some o:=fun e n=>GE e n
  have noA:∀ {b:Addr} {o:Obj} {es:Array DictEntry} {ep:Nat},s₁.heap.get? b=some o->o.data=.dict es ep->H b=none:=fun {b o es ep} e d=>by
   cases q:H b with
   | none=>rfl
   | some u =>
    have e':b=a:=hA b (by rw [q]; simp)
    subst e'
    rw [ha] at e; cases e
    have d':Data.seq vs.toArray _=Data.dict es ep:=d
    cases d'
  have nsK:∀ {b:Addr} {m:Str->Option Value},s₁.heap.Ns b m->(GF s₁.heap H).Ns b m:=fun {b m} ⟨o,es,ep,e,d,r⟩=>⟨o,es,ep,base_of e (noA e d),d,r⟩
  have hKb:K.In (GF s₁.heap H):=fun b o e=>base_of (KX b o e) (by
   cases q:H b with
   | none=>rfl
   | some u =>
    have e':b=a:=hA b (by rw [q]; simp)
    subst e'
    rw [hK (by rw [q]; simp)] at e; cases e)
  have hM:Mod K mg (GF s₁.heap H):=⟨hKb,nsK hns,⟨mb,nsK hb,hbb⟩,let ⟨mc,h1,h2⟩:=hlim; ⟨mc,nsK h1,h2⟩⟩
  have e0:Env0 P w K mg (GF s₁.heap H) callerA [] s₁ H:=⟨rfl,hM,fun b o e=>Cp e,Nat.le_of_eq (Ja _ _),trivial,fun b hb=>absurd (show b∈([]:List Addr) from hb) (by simp),hok,.of_eq hg⟩
  refine codeAny_mono ((F _ hKb (nsK hns)).run callerA [] s₁ H ⟨[.ref a],[]⟩ [.ref a] [.ref a] _ _ hr e0 (hbind s₁ (.ref a)) (.cons rfl .nil) (hsp H hO hS)) fun r s' h=>?_
  cases r with
  | error e=>exact (hCX H e s' h).elim
  | ok fl =>
   cases fl with
   | next=>exact False.elim h
   | brk=>exact False.elim h
   | cont=>exact False.elim h
   | ret u =>
    obtain ⟨v,H',os,bare,un,hok',r',q⟩:=h
    have q':v=.bl true:=q
    subst q'
    obtain rfl:u=Value.bool true:=r'
    refine ⟨rfl,OldK.of_keep fun b o e=>?_,os,bare⟩
    cases q:H b with
    | none=>exact un.keep b o e q (by intro z; exact absurd (show b∈([]:List Addr) from z) (by simp)) (by simp)
    | some u =>
     rcases hO b with z | ⟨ob,xs,z⟩
     ·rw [q] at z; cases z
     ·have z2:=un.frzs b ob _ z
      obtain ⟨e1,_⟩:=hok b _ z
      obtain ⟨e2,_⟩:=hok' b _ z2
      rw [e] at e1; cases e1
      exact e2
 cases hk:K.lookup a with
 | some o =>
  have e:=KX a o hk
  rw [ha] at e
  cases e
  refine core (fun _=>none) (fun _=>.inl rfl) (.inr ⟨_,vs.toArray,_,hk,rfl,rfl,rfl,by rw [g1d,lenV]; exact hl,by simpa using rv⟩) (fun b u z=>by have z':(none:Option HO)=some u:=z; cases z') (fun b z=>absurd rfl z) fun z=>absurd rfl z
 | none =>
  refine core (fun b=>if b=a then some (.frz { cls:=.type "list",data:=.seq vs.toArray } (.lst (ns.map V.int))) else none) (fun b=>?_) (.inl (.inr ⟨{ cls:=.type "list",data:=.seq vs.toArray },if_pos rfl⟩)) (fun b u z=>?_) (fun b z=>?_) fun _=>hk
  ·by_cases hb:b=a
   ·exact .inr ⟨_,_,if_pos hb⟩
   ·exact .inl (if_neg hb)
  ·by_cases hb:b=a
   ·have z':=(if_pos hb).symm.trans z
    cases z'
    subst hb
    exact ⟨ha,by rw [g0f]; exact hl,vs,_,rv,ha⟩
   ·have z':=(if_neg hb).symm.trans z
    cases z'
  ·by_cases hb:b=a
   ·exact hb
   ·exact absurd (if_neg hb) z
theorem Bb {l:W.OpenLaw} {n k:Nat} {q:Program} {loose:List Str} {XP:(Str->Option Value)->Heap->Prop} {YP:World->Heap->Prop} {d:DefRec} {K:Params->W.Frag} {CX:World->CXT} {sp:World->Sp} {x:Str}
  (hn:l.most=some n) (hn2:n<=sizeLine) (hdf:d.params.defaults=[]) (hr:Room k callerA)
  (hY:∀ (w:World) (h:Heap),YP w h->(K w.params).In h)
  (F:∀ (w:World) (mg:Str->Option Value) (fa:Addr) (h:Heap),(K w.params).In h->h.Ns mainGlobals mg->mg d.name=some (.ref fa) →
   ∃ fd:FuncData,(∀ (s:Shared) (u:Value),BindsTo s fd ⟨[u],[]⟩ [(x,u)]) ∧
    ∀ base:Heap,(K w.params).In base->base.Ns mainGlobals mg->FnOk l.prog w (K w.params) mg base (CX w) k fa fd [x] (sp w))
  (hsp:∀ (w:World) (H:Hp) (a:Addr) (ns:List Int),ns.length<=n->Nx H->SqL (K w.params) H a (ns.map V.int)->sp w [.ref a] H (fun v _=>v=.bl true) fun _ _ _=>False)
  (hCX:∀ (w:World) (H:Hp) (s:Shared) (e:Value) (s':Shared),CX w [] H s (fun _ _ _=>False) e s'->False) :
  PySem.W.WalkO q loose XP YP l.row.toRowW d [] (fun f vs=>PySem.call f vs):=by
 refine Att.attach_call hn hdf fun w s₀ s₁ mg mb fa o pm cd doc a vs ns G Y ho hd hcd hmg hobj hints hlen hg=>?_
 have KX:=hY w _ Y
 obtain ⟨fd,hb,hF⟩:=F w mg fa _ KX G.T.g hmg
 exact Gu KX G.T.g G.T.b G.T.builtins G.T.nolimit hg hobj hints (g2j hlen hn2) hr hF hb (fun H hO hS=>hsp w H a ns hlen hO hS) fun H e s'=>hCX w H s₁ e s'
theorem walk_ofK {l:W.OpenLaw} {n k:Nat} {q:Program} {loose:List Str} {XP:(Str->Option Value)->Heap->Prop} {YP:World->Heap->Prop} {d:DefRec} {K:Params->W.Frag} {CX:CXT} {sp:W.Frag->Sp} {x:Str}
  (hn:l.most=some n) (hn2:n<=sizeLine) (hdf:d.params.defaults=[]) (hr:Room k callerA)
  (hY:∀ (w:World) (h:Heap),YP w h->(K w.params).In h)
  (F:∀ (w:World) (mg:Str->Option Value) (fa:Addr) (h:Heap),(K w.params).In h->h.Ns mainGlobals mg->mg d.name=some (.ref fa) →
   ∃ fd:FuncData,(∀ (s:Shared) (u:Value),BindsTo s fd ⟨[u],[]⟩ [(x,u)]) ∧
    ∀ base:Heap,(K w.params).In base->base.Ns mainGlobals mg->FnOk l.prog w (K w.params) mg base CX k fa fd [x] (sp (K w.params)))
  (hsp:∀ (K:W.Frag) (H:Hp) (a:Addr) (ns:List Int),ns.length<=n->Nx H->SqL K H a (ns.map V.int)->sp K [.ref a] H (fun v _=>v=.bl true) fun _ _ _=>False)
  (hCX:∀ (H:Hp) (s:Shared) (e:Value) (s':Shared),CX [] H s (fun _ _ _=>False) e s'->False) :
  PySem.W.WalkO q loose XP YP l.row.toRowW d [] (fun f vs=>PySem.call f vs) :=
 Bb (K:=K) (CX:=fun _=>CX) (sp:=fun w=>sp (K w.params)) hn hn2 hdf hr hY F (fun w H a ns h1 h2 h3=>hsp (K w.params) H a ns h1 h2 h3) fun _ H s e s'=>hCX H s e s'
def zX (s:Stmt):Arguments:=match s with
 | .FunctionDef _ a _ _ _ _ _ _ _ _=>a
 | _=>{ posonlyargs:=[],args:=[],vararg:=none,kwonlyargs:=[],kw_defaults:=[],kwarg:=none,defaults:=[] }
def zT (s:Stmt):List Stmt:=match s with
 | .FunctionDef _ _ b _ _ _ _ _ _ _=>b
 | _=>[]
def zi (s:Stmt):Scope:=match s with
 | .FunctionDef _ _ _ _ _ _ sc _ _ _=>sc
 | _=>{ kind:=.function,names:=[],isGenerator:=false,isCoroutine:=false }
abbrev CX0:CXT:=fun _ _ _ _ _ _=>False
abbrev E0:XK:=fun _ _ _=>False
theorem N8 {X:Cx}:V3 CX0 X E0:=fun _ _ _ _ _ _ _ h=>h.elim
structure Fun (K:W.Frag) (x qual:Str) (st:Stmt) (f:Addr) (fd:FuncData):Prop where
 ex:∃ (oc:Value) (od:Option Addr) (kV doc pm:Value) (an:Option Addr) (cdv ct:Value) (osl:Array (Option Value)),
  fd=W.fnOf x qual (zX st) (zT st) (zi st) .none kV doc pm an cdv ct/\K.lookup f=some ⟨oc,od,.func fd,osl⟩/\W.codeIn K cdv qual=true
 kp:W.keepIn K (.ref f)=true
section
variable {P:Program} {w:World} {K:W.Frag} {mg:Str->Option Value} {base:Heap}
theorem Fun.ok {x qual:Str} {st:Stmt} {f:Addr} {fd:FuncData} {N ps:List Str} {k:Nat} {sp:Sp} (F:Fun K x qual st f fd) (S:FnScope N ps (zi st)) (len:∀ vs H Q E,sp vs H Q E->vs.length=ps.length)
  (hbody:∀ (cdv:Value) (A:Around) (outer:List Env) (s:Shared) (H:Hp) (vs:List V) (Q:VK) (E:XK),Room k (A.deeper (envOfC qual (zi st) s.heap.objs.size f cdv))->sp vs H Q E →
   ∃ t,PSs (Di CX0 P w K mg base N qual (zi st) f cdv A outer s H E).nox (zT st) t/\t { nx:=fun _ H'=>Q .non H',rt:=Q } (start N vs) H):FnOk P w K mg base CX0 (k+1) f fd ps sp:=by
 obtain ⟨oc,od,kV,doc,pm,an,cdv,ct,osl,rfl,lk,hcd⟩:=F.ex
 refine Ph lk hcd S len fun A outer s H vs Q E hr hsp=>?_
 obtain ⟨t,h,q⟩:=hbody cdv A outer s H vs Q E hr hsp
 exact ⟨t,h.nox,q⟩
theorem Fun.binds {x qual:Str} {st:Stmt} {f:Addr} {fd:FuncData} {ps:List Str} (F:Fun K x qual st f fd)
  (h:∀ (kV doc pm:Value) (an:Option Addr) (cdv ct:Value) (us:List Value),us.length=ps.length->bindArgs (W.fnOf x qual (zX st) (zT st) (zi st) .none kV doc pm an cdv ct) ⟨us,[]⟩=pure (ps.zip us)):WZ K fd ps []:=by
 obtain ⟨oc,od,kV,doc,pm,an,cdv,ct,osl,rfl,lk,hcd⟩:=F.ex
 exact .all (h kV doc pm an cdv ct)
theorem yC {x qual:Str} {st:Stmt} {f:Addr} {oc:Value} {od an:Option Addr} {osl:Array (Option Value)} {kV doc pm cdv ct:Value} (l:K.lookup f=some ⟨oc,od,.func (W.fnOf x qual (zX st) (zT st) (zi st) .none kV doc pm an cdv ct),osl⟩)
  (c:W.codeIn K cdv qual=true) (k:W.keepIn K (.ref f)=true):Fun K x qual st f (W.fnOf x qual (zX st) (zT st) (zi st) .none kV doc pm an cdv ct):=⟨⟨oc,od,kV,doc,pm,an,cdv,ct,osl,rfl,l,c⟩,k⟩
end
theorem xt {n:Nat} (h:n<=1000):n < sizeLine:=g3u h (by decide)
section
variable {X:Cx}
theorem pv (i:Nat) {x:Str} {pos:Pos} (hN:X.N[i]? = some x:=by rfl) (hv:Vis X.env.scope x:=by first | exact Or.inl rfl | exact Or.inr (Or.inl rfl) | exact Or.inr (Or.inr rfl)) (hd:(x==("__debug__":Str))=false:=by decide)
  (hcd:(x==("__classdict__":Str))=false:=by decide):PE X (.Name x pos) (PB i):=uj hN hv hd hcd
end
theorem MB {A B:Prop} (h:B):if false=true then A else B:=by
 rw [if_neg g2a]
 exact h
theorem MA {A B:Prop} (h:A):if true=true then A else B:=by
 rw [if_pos rfl]
 exact h
def yf (H H':Hp):Prop:=∀ b o,H b=some o->H' b=some o
theorem yf.trans {H H1 H2:Hp} (a:yf H H1) (b:yf H1 H2):yf H H2:=fun c o h=>b c o (a c o h)
theorem yf.free {H H':Hp} (e:yf H H') {l:Addr} (h:H' l=Option.none):H l=Option.none:=by
 cases q:H l with
 | none=>rfl
 | some o =>
  rw [e l o q] at h
  cases h
theorem yf.seq {K:W.Frag} {H H':Hp} {a:Addr} {xs:List V} (e:yf H H') (h:SqL K H a xs):SqL K H' a xs:=by
 rcases h with (h | ⟨o,h⟩) | h
 ·exact .inl (.inl (e _ _ h))
 ·exact .inl (.inr ⟨o,e _ _ h⟩)
 ·exact .inr h
section
variable {κ:Type} [DecidableEq κ]
end
end L2
set_option maxHeartbeats 4000000
namespace FL
open PySem PySem.Spec PyProof.Rows L2
abbrev St:=L2.St
inductive D where
 | non
 | bl (b:Bool)
 | int (i:Int)
 | str (x:Str)
 | tup (ds:List D)
 | lst (ds:List D)
 deriving Inhabited
mutual
def Has (K:W.Frag) (H:Hp):D->V->Prop
 | .non,v=>v=.non
 | .bl b,v=>v=.bl b
 | .int i,v=>v=.int i
 | .str x,v=>v=.str x
 | .tup ds,v=>∃ a xs,v=.ref a/\SqT K H a xs/\zZ K H ds xs
 | .lst ds,v=>∃ a xs,v=.ref a/\SqL K H a xs/\zZ K H ds xs
def zZ (K:W.Frag) (H:Hp):List D->List V->Prop
 | [],xs=>xs=[]
 | d :: ds,xs=>∃ x r,xs=x :: r/\Has K H d x/\zZ K H ds r
end
theorem zA {H:Hp}:yf H H:=fun _ _ e=>e
theorem Yj {K:W.Frag} {H H':Hp} {a:Addr} {xs:List V} (e:yf H H') (h:SqT K H a xs):SqT K H' a xs:=by
 rcases h with (h | ⟨o,h⟩) | h
 ·exact .inl (.inl (e _ _ h))
 ·exact .inl (.inr ⟨o,e _ _ h⟩)
 ·exact .inr h
section
variable {K:W.Frag} {H H':Hp}
mutual
theorem Has.mono (s:yf H H'):∀ {d:D} {v:V},Has K H d v->Has K H' d v
 | .non,_,h=>by unfold Has at h ⊢; exact h
 | .bl _,_,h=>by unfold Has at h ⊢; exact h
 | .int _,_,h=>by unfold Has at h ⊢; exact h
 | .str _,_,h=>by unfold Has at h ⊢; exact h
 | .tup ds,v,h=>by
  unfold Has at h ⊢
  obtain ⟨a,xs,e,q,l⟩:=h
  exact ⟨a,xs,e,Yj s q,zZ.mono s l⟩
 | .lst ds,v,h=>by
  unfold Has at h ⊢
  obtain ⟨a,xs,e,q,l⟩:=h
  exact ⟨a,xs,e,s.seq q,zZ.mono s l⟩
theorem zZ.mono (s:yf H H'):∀ {ds:List D} {xs:List V},zZ K H ds xs->zZ K H' ds xs
 | [],_,h=>by unfold zZ at h ⊢; exact h
 | d :: ds,xs,h=>by
  unfold zZ at h ⊢
  obtain ⟨x,r,e,h1,h2⟩:=h
  exact ⟨x,r,e,Has.mono s h1,zZ.mono s h2⟩
end
theorem Has.non_iff {v:V}:Has K H .non v↔v=.non:=by unfold Has; rfl
theorem Has.bl_iff {b:Bool} {v:V}:Has K H (.bl b) v↔v=.bl b:=by unfold Has; rfl
theorem Has.int_iff {i:Int} {v:V}:Has K H (.int i) v↔v=.int i:=by unfold Has; rfl
theorem Has.str_iff {x:Str} {v:V}:Has K H (.str x) v↔v=.str x:=by unfold Has; rfl
theorem Has.tup_iff {ds:List D} {v:V}:Has K H (.tup ds) v↔∃ a xs,v=.ref a/\SqT K H a xs/\zZ K H ds xs:=by
 constructor
 ·intro h; unfold Has at h; exact h
 ·intro h; unfold Has; exact h
theorem Has.lst_iff {ds:List D} {v:V}:Has K H (.lst ds) v↔∃ a xs,v=.ref a/\SqL K H a xs/\zZ K H ds xs:=by
 constructor
 ·intro h; unfold Has at h; exact h
 ·intro h; unfold Has; exact h
theorem zZ.nil_iff {xs:List V}:zZ K H [] xs↔xs=[]:=by unfold zZ; rfl
theorem zZ.cons_iff {d:D} {ds:List D} {xs:List V}:zZ K H (d :: ds) xs↔∃ x r,xs=x :: r/\Has K H d x/\zZ K H ds r:=by
 constructor
 ·intro h; unfold zZ at h; exact h
 ·intro h; unfold zZ; exact h
theorem zZ.nil:zZ K H [] []:=zZ.nil_iff.mpr rfl
theorem zZ.cons {d:D} {ds:List D} {x:V} {xs:List V} (h:Has K H d x) (t:zZ K H ds xs):zZ K H (d :: ds) (x :: xs):=zZ.cons_iff.mpr ⟨x,xs,rfl,h,t⟩
theorem zZ.length:∀ {ds:List D} {xs:List V},zZ K H ds xs->xs.length=ds.length
 | [],_,h=>by rw [zZ.nil_iff] at h; subst h; rfl
 | d :: ds,xs,h=>by
  obtain ⟨x,r,e,_,h2⟩:=zZ.cons_iff.mp h
  subst e
  simp [zZ.length h2]
theorem zZ.get:∀ {ds:List D} {xs:List V} {i:Nat} {d:D},zZ K H ds xs->ds[i]? = some d->∃ v,xs[i]? = some v/\Has K H d v
 | [],_,_,_,_,e=>by simp at e
 | d :: ds,xs,i,d',h,e=>by
  obtain ⟨x,r,e',h1,h2⟩:=zZ.cons_iff.mp h
  subst e'
  cases i with
  | zero=>simp at e; subst e; exact ⟨x,rfl,h1⟩
  | succ i =>
   obtain ⟨v,q1,q2⟩:=zZ.get (i:=i) (d:=d') h2 (by simpa using e)
   exact ⟨v,by simpa using q1,q2⟩
theorem zZ.append:∀ {ds es:List D} {xs ys:List V},zZ K H ds xs->zZ K H es ys->zZ K H (ds++es) (xs++ys)
 | [],_,_,_,h,h'=>by rw [zZ.nil_iff] at h; subst h; exact h'
 | d :: ds,es,xs,ys,h,h'=>by
  obtain ⟨x,r,e,h1,h2⟩:=zZ.cons_iff.mp h
  subst e
  exact .cons h1 (zZ.append h2 h')
theorem zZ.drop:∀ {ds:List D} {xs:List V} (n:Nat),zZ K H ds xs->zZ K H (ds.drop n) (xs.drop n)
 | _,_,0,h=>by simpa using h
 | [],_,n+1,h=>by rw [zZ.nil_iff] at h; subst h; simpa using zZ.nil
 | d :: ds,xs,n+1,h=>by
  obtain ⟨x,r,e,h1,h2⟩:=zZ.cons_iff.mp h
  subst e
  exact zZ.drop n h2
theorem zZ.take:∀ {ds:List D} {xs:List V} (n:Nat),zZ K H ds xs->zZ K H (ds.take n) (xs.take n)
 | _,_,0,h=>by simpa using zZ.nil
 | [],_,n+1,h=>by rw [zZ.nil_iff] at h; subst h; simpa using zZ.nil
 | d :: ds,xs,n+1,h=>by
  obtain ⟨x,r,e,h1,h2⟩:=zZ.cons_iff.mp h
  subst e
  exact .cons h1 (zZ.take n h2)
theorem zZ.ints:∀ (ns:List Int),zZ K H (ns.map D.int) (ns.map V.int)
 | []=>.nil
 | n :: ns=>.cons (Has.int_iff.mpr rfl) (zZ.ints ns)
end
def KTy:Nat->Type
 | 0=>Int
 | n+1=>List (KTy n)
def dOf:(n:Nat)->KTy n->D
 | 0,i=>.int i
 | n+1,l=>.tup (g2z (dOf n) l)
def Zw:(n:Nat)->KTy n->Int
 | 0,i=>hashInt i
 | n+1,l=>reduceHash (Builtin.Tuple.tupleHashOf (g2z (Zw n) l))
def Zp (n:Nat) (xs:List (KTy n×Addr)) (a:Addr) (h:Heap):Prop :=
 (a==sysModules)=false/\∃ o es ep,h.get? a=some o/\o.ExactDict/\o.data=.dict es ep/\(es.toList=xs.map fun x=>⟨Zw n x.1,.ref x.2,.bool true⟩)/\(xs.map (·.1)).Nodup/\xs.length<=sizeLine
inductive Slot where
 | no
 | fr (d:D)
 | ol (ds:List D)
 | oT (kvs:List (List Key×D))
 | oX (n:Nat) (ks:List (KTy n))
 deriving Inhabited
def Slot.own:Slot->Bool
 | .ol _=>true
 | .oT _=>true
 | .oX _ _=>true
 | _=>false
abbrev Rho:=List Slot
def KVs (K:W.Frag) (H:Hp) {κ:Type}:List (κ×D)->List (κ×V)->Prop:=Paired fun p q=>p.1=q.1/\Has K H p.2 q.2
theorem KVs.mono {K:W.Frag} {H H':Hp} {κ:Type} (s:yf H H') {l:List (κ×D)} {m:List (κ×V)} (h:KVs K H l m):KVs K H' l m:=Paired.mapP h fun _ _ z=>⟨z.1,Has.mono s z.2⟩
def ZC (K:W.Frag) (H Hf:Hp) (a:Addr):Slot->Prop
 | .ol ds=>∃ xs,H a=some (.lst xs)/\zZ K Hf ds xs
 | .oT kvs=>∃ ws,H a=some (.dT ws)/\KVs K Hf kvs ws
 | .oX n ks=>∃ xs:List (KTy n×Addr),H a=some (.ext (Zp n xs a))/\xs.map (·.1)=ks/\∀ x∈xs,Has K Hf (dOf n x.1) (.ref x.2)
 | _=>True
theorem ZC.mono {K:W.Frag} {H Hf H' Hf':Hp} {a:Addr} {sl:Slot} (h:ZC K H Hf a sl) (k:∀ o,H a=some o->H' a=some o) (s:yf Hf Hf'):ZC K H' Hf' a sl:=by
 cases sl with
 | no=>trivial
 | fr d=>trivial
 | ol ds=>obtain ⟨xs,e,q⟩:=h; exact ⟨xs,k _ e,q.mono s⟩
 | oT kvs=>obtain ⟨xs,e,q⟩:=h; exact ⟨xs,k _ e,KVs.mono s q⟩
 | oX n ks=>obtain ⟨xs,e,q1,q2⟩:=h; exact ⟨xs,k _ e,q1,fun x hx=>(q2 x hx).mono s⟩
theorem ZC.there {K:W.Frag} {H Hf:Hp} {a:Addr} {sl:Slot} (h:ZC K H Hf a sl) (ow:sl.own=true):∃ o,H a=some o:=by
 cases sl with
 | no=>cases ow
 | fr d=>cases ow
 | ol ds=>obtain ⟨xs,e,q⟩:=h; exact ⟨_,e⟩
 | oT kvs=>obtain ⟨xs,e,q⟩:=h; exact ⟨_,e⟩
 | oX n ks=>obtain ⟨xs,e,q⟩:=h; exact ⟨_,e⟩
def Tp (o:HO):Prop:=∃ ks:List Key,o=.tup (ks.map kV)
structure Rep (K:W.Frag) (H₀ Hf₀:Hp) (σ:St) (ρ:Rho) (H Hf:Hp):Prop where
 s0:yf H₀ H
 sf:yf Hf H
 nf:∀ b o,Hf b=some o->Hf₀ b=some o\/H₀ b=none\/Tp o
 f0:yf Hf₀ Hf
 len:ρ.length=σ.length
 fr:∀ (i:Nat) (d:D),ρ[i]? = some (.fr d)->∃ v,σ[i]? = some (some v)/\Has K Hf d v
 ow:∀ (i:Nat) (sl:Slot),ρ[i]? = some sl->sl.own=true->∃ a,σ[i]? = some (some (.ref a))/\ZC K H Hf a sl/\Hf a=none/\H₀ a=none
 inj:∀ (i j:Nat) (sl sl':Slot) (a:Addr),ρ[i]? = some sl->sl.own=true->ρ[j]? = some sl'->sl'.own=true->σ[i]? = some (some (.ref a))->σ[j]? = some (some (.ref a))->i=j
theorem ZC.notTp {K:W.Frag} {H Hf H':Hp} {a:Addr} {sl:Slot} {u:HO} (h:ZC K H Hf a sl) (ow:sl.own=true) (k:∀ o,H a=some o->H' a=some o) (z:H' a=some u) (t:Tp u):False:=by
 obtain ⟨ks,rfl⟩:=t
 cases sl with
 | no=>cases ow
 | fr d=>cases ow
 | ol ds=>obtain ⟨xs,e,q⟩:=h; have:=(k _ e).symm.trans z; cases this
 | oT kvs=>obtain ⟨xs,e,q⟩:=h; have:=(k _ e).symm.trans z; cases this
 | oX n ks=>obtain ⟨xs,e,q⟩:=h; have:=(k _ e).symm.trans z; cases this
section
variable {K:W.Frag} {H₀ Hf₀:Hp} {σ:St} {ρ:Rho} {H Hf H' Hf':Hp}
theorem Rep.grow (R:Rep K H₀ Hf₀ σ ρ H Hf) (h1:yf H H') (h2:yf Hf Hf') (h3:yf Hf' H') (h4:∀ b o,Hf' b=some o->Hf b=some o\/H b=none\/Tp o):Rep K H₀ Hf₀ σ ρ H' Hf' where
 s0:=R.s0.trans h1
 sf:=h3
 nf:=fun b o e=>by
  rcases h4 b o e with q | q | q
  ·exact R.nf b o q
  ·exact .inr (.inl (R.s0.free q))
  ·exact .inr (.inr q)
 f0:=R.f0.trans h2
 len:=R.len
 fr:=fun i d e=>by
  obtain ⟨v,q1,q2⟩:=R.fr i d e
  exact ⟨v,q1,q2.mono h2⟩
 ow:=fun i sl e o=>by
  obtain ⟨a,q1,q2,q3,q4⟩:=R.ow i sl e o
  refine ⟨a,q1,q2.mono (fun o e=>h1 _ _ e) h2,?_,q4⟩
  obtain ⟨ob,qo⟩:=q2.there o
  cases z:Hf' a with
  | none=>rfl
  | some u =>
   rcases h4 a u z with y | y | y
   ·rw [q3] at y; cases y
   ·rw [qo] at y; cases y
   ·exact (q2.notTp o (fun o=>h1 a o) (h3 _ _ z) y).elim
 inj:=R.inj
theorem Rep.lay (R:Rep K H₀ Hf₀ σ ρ H Hf) {p:Addr} {o:HO} (hp:H p=none):Rep K H₀ Hf₀ σ ρ (upd H p o) (upd Hf p o):=by
 have hfp:Hf p=none:=R.sf.free hp
 refine R.grow (fun b u e=>?_) (fun b u e=>?_) (fun b u e=>?_) (fun b u e=>?_)
 ·rw [zG (yb e hp)]; exact e
 ·rw [zG (yb e hfp)]; exact e
 ·by_cases hb:b=p
  ·subst hb; rw [zq] at e ⊢; exact e
  ·rw [zG hb] at e ⊢; exact R.sf b u e
 ·by_cases hb:b=p
  ·subst hb; exact .inr (.inl hp)
  ·rw [zG hb] at e; exact .inl e
theorem Rep.layN (R:Rep K H₀ Hf₀ σ ρ H Hf) {p:Addr} {o:HO} (hp:H p=none):Rep K H₀ Hf₀ σ ρ (upd H p o) Hf:=by
 refine R.grow (fun b u e=>?_) zA (fun b u e=>?_) (fun b u e=>.inl e)
 ·rw [zG (yb e hp)]; exact e
 ·rw [zG (yb (R.sf b u e) hp)]; exact R.sf b u e
theorem zI {p:Addr} {o:HO} (hp:H p=none):yf H (upd H p o):=fun b u e=>by rw [zG (yb e hp)]; exact e
theorem Rep.set (R:Rep K H₀ Hf₀ σ ρ H Hf) {d:D} {v:V} (i:Nat) (h:Has K Hf d v):Rep K H₀ Hf₀ (σ.set i (some v)) (ρ.set i (.fr d)) H Hf where
 s0:=R.s0
 sf:=R.sf
 nf:=R.nf
 f0:=R.f0
 len:=by simp [R.len]
 fr:=fun j d' e=>by
  rw [g1m] at e ⊢
  by_cases hj:i=j
  ·rw [if_pos hj] at e ⊢
   split at e
   ·cases e
    rename_i hl
    rw [R.len] at hl
    rw [if_pos hl]
    exact ⟨v,rfl,h⟩
   ·cases e
  ·rw [if_neg hj] at e ⊢
   exact R.fr j d' e
 ow:=fun j sl e o=>by
  rw [g1m] at e ⊢
  by_cases hj:i=j
  ·rw [if_pos hj] at e
   split at e
   ·cases e; cases o
   ·cases e
  ·rw [if_neg hj] at e ⊢
   exact R.ow j sl e o
 inj:=fun j k sl sl' a e o e' o' z z'=>by
  rw [g1m] at e e' z z'
  by_cases hj:i=j
  ·rw [if_pos hj] at e
   split at e
   ·cases e; cases o
   ·cases e
  ·by_cases hk:i=k
   ·rw [if_pos hk] at e'
    split at e'
    ·cases e'; cases o'
    ·cases e'
   ·rw [if_neg hj] at e z
    rw [if_neg hk] at e' z'
    exact R.inj j k sl sl' a e o e' o' z z'
theorem Rep.setOwn (R:Rep K H₀ Hf₀ σ ρ H Hf) {sl:Slot} {a:Addr} (i:Nat) (ho:sl.own=true) (h:ZC K H Hf a sl) (hf:Hf a=none) (h0:H₀ a=none)
  (fresh:∀ (j:Nat) (sl':Slot),ρ[j]? = some sl'->sl'.own=true->σ[j]? ≠ some (some (.ref a))):Rep K H₀ Hf₀ (σ.set i (some (.ref a))) (ρ.set i sl) H Hf where
 s0:=R.s0
 sf:=R.sf
 nf:=R.nf
 f0:=R.f0
 len:=by simp [R.len]
 fr:=fun j d' e=>by
  rw [g1m] at e ⊢
  by_cases hj:i=j
  ·rw [if_pos hj] at e
   split at e
   ·cases e; cases ho
   ·cases e
  ·rw [if_neg hj] at e ⊢
   exact R.fr j d' e
 ow:=fun j sl' e o=>by
  rw [g1m] at e ⊢
  by_cases hj:i=j
  ·rw [if_pos hj] at e ⊢
   split at e
   ·cases e
    rename_i hl
    rw [R.len] at hl
    rw [if_pos hl]
    exact ⟨a,rfl,h,hf,h0⟩
   ·cases e
  ·rw [if_neg hj] at e ⊢
   exact R.ow j sl' e o
 inj:=fun j k s1 s2 b e o e' o' z z'=>by
  rw [g1m] at e e' z z'
  by_cases hj:i=j
  ·by_cases hk:i=k
   ·omega
   ·rw [if_pos hj] at z
    rw [if_neg hk] at e' z'
    split at z
    ·cases z
     exact absurd z' (fresh k s2 e' o')
    ·cases z
  ·by_cases hk:i=k
   ·rw [if_pos hk] at z'
    rw [if_neg hj] at e z
    split at z'
    ·cases z'
     exact absurd z (fresh j s1 e o)
    ·cases z'
   ·rw [if_neg hj] at e z
    rw [if_neg hk] at e' z'
    exact R.inj j k s1 s2 b e o e' o' z z'
theorem Rep.updOwn (R:Rep K H₀ Hf₀ σ ρ H Hf) {sl sl':Slot} {a:Addr} {o:HO} {i:Nat} (e:ρ[i]? = some sl) (ho:sl.own=true) (ea:σ[i]? = some (some (.ref a))) (ho':sl'.own=true) (h:ZC K (upd H a o) Hf a sl') :
  Rep K H₀ Hf₀ σ (ρ.set i sl') (upd H a o) Hf:=by
 obtain ⟨a',q1,q2,q3,q4⟩:=R.ow i sl e ho
 rw [ea] at q1; cases q1
 have hil:i < ρ.length:=(g0v.mp e).1
 refine ⟨fun b u z=>?_,fun b u z=>?_,R.nf,R.f0,by simp [R.len],fun j d z=>?_,fun j s1 z oz=>?_,fun j k s1 s2 b z oz z' oz' y y'=>?_⟩
 ·rw [zG (yb z q4)]; exact R.s0 b u z
 ·rw [zG (yb z q3)]; exact R.sf b u z
 ·rw [g1m] at z
  by_cases hj:i=j
  ·rw [if_pos hj,if_pos hil] at z
   cases z; cases ho'
  ·rw [if_neg hj] at z
   exact R.fr j d z
 ·rw [g1m] at z
  by_cases hj:i=j
  ·rw [if_pos hj,if_pos hil] at z
   cases z
   subst hj
   exact ⟨a,ea,h,q3,q4⟩
  ·rw [if_neg hj] at z
   obtain ⟨b,p1,p2,p3,p4⟩:=R.ow j s1 z oz
   refine ⟨b,p1,p2.mono (fun u q=>?_) zA,p3,p4⟩
   rw [zG]
   ·exact q
   ·rintro rfl
    exact hj (R.inj i j sl s1 b e ho z oz ea p1)
 ·have own_at:∀ (j:Nat) (s1:Slot),(ρ.set i sl')[j]? = some s1->s1.own=true->∃ s2,ρ[j]? = some s2/\s2.own=true:=fun j s1 z oz=>by
   rw [g1m] at z
   by_cases hj:i=j
   ·subst hj; exact ⟨sl,e,ho⟩
   ·rw [if_neg hj] at z; exact ⟨s1,z,oz⟩
  obtain ⟨t1,u1,v1⟩:=own_at j s1 z oz
  obtain ⟨t2,u2,v2⟩:=own_at k s2 z' oz'
  exact R.inj j k t1 t2 b u1 v1 u2 v2 y y'
theorem Rep.freeze (R:Rep K H₀ Hf₀ σ ρ H Hf) {ds:List D} {i:Nat} (e:ρ[i]? = some (.ol ds)):∃ Hf',yf Hf Hf'/\Rep K H₀ Hf₀ σ (ρ.set i (.fr (.lst ds))) H Hf':=by
 obtain ⟨a,q1,⟨xs,q2,q2'⟩,q3,q4⟩:=R.ow i _ e rfl
 have hil:i < ρ.length:=(g0v.mp e).1
 have sm:yf Hf (upd Hf a (.lst xs)):=zI q3
 refine ⟨upd Hf a (.lst xs),sm,R.s0,fun b u z=>?_,fun b u z=>?_,R.f0.trans sm,by simp [R.len],fun j d z=>?_,fun j s1 z oz=>?_,fun j k s1 s2 b z oz z' oz' y y'=>?_⟩
 ·by_cases hb:b=a
  ·subst hb; rw [zq] at z; cases z; exact q2
  ·rw [zG hb] at z; exact R.sf b u z
 ·by_cases hb:b=a
  ·subst hb; exact .inr (.inl q4)
  ·rw [zG hb] at z; exact R.nf b u z
 ·rw [g1m] at z
  by_cases hj:i=j
  ·rw [if_pos hj,if_pos hil] at z
   cases z
   subst hj
   exact ⟨_,q1,Has.lst_iff.mpr ⟨a,xs,rfl,SqL.of zq,q2'.mono sm⟩⟩
  ·rw [if_neg hj] at z
   obtain ⟨v,p1,p2⟩:=R.fr j d z
   exact ⟨v,p1,p2.mono sm⟩
 ·rw [g1m] at z
  by_cases hj:i=j
  ·rw [if_pos hj,if_pos hil] at z
   cases z; cases oz
  ·rw [if_neg hj] at z
   obtain ⟨b,p1,p2,p3,p4⟩:=R.ow j s1 z oz
   refine ⟨b,p1,p2.mono (fun u q=>q) sm,?_,p4⟩
   rw [zG]
   ·exact p3
   ·rintro rfl
    exact hj (R.inj i j _ s1 b e rfl z oz q1 p1)
 ·have own_at:∀ (j:Nat) (s1:Slot),(ρ.set i (.fr (.lst ds)))[j]? = some s1->s1.own=true->ρ[j]? = some s1:=fun j s1 z oz=>by
   rw [g1m] at z
   by_cases hj:i=j
   ·rw [if_pos hj,if_pos hil] at z
    cases z; cases oz
   ·rw [if_neg hj] at z; exact z
  exact R.inj j k s1 s2 b (own_at j s1 z oz) oz (own_at k s2 z' oz') oz' y y'
end
end FL
namespace FL
open PySem PySem.Spec PyProof.Rows L2
abbrev FE:=Rho->Option D
abbrev FT:=Rho->Option Bool
abbrev FA:=Rho->Option (List D)
inductive Out where
 | nx (ρ:Rho)
 | rt (d:D)
 | bk (ρ:Rho)
 | ct (ρ:Rho)
abbrev FS:=Rho->Option Out
def qh (K:W.Frag) (Hf:Hp) (σ:St) (ρ:Rho) (d:D) (v:V):Prop:=Has K Hf d v\/∃ (i:Nat) (ds:List D),d=.lst ds/\ρ[i]? = some (.ol ds)/\σ[i]? = some (some v)
theorem qh.mono {K:W.Frag} {Hf Hf':Hp} {σ:St} {ρ:Rho} {d:D} {v:V} (h:qh K Hf σ ρ d v) (s:yf Hf Hf'):qh K Hf' σ ρ d v:=h.imp (Has.mono s) id
def tF (K:W.Frag) (f:FE):TE:=fun σ H Q=>∃ H₀ Hf₀ ρ Hf d,Rep K H₀ Hf₀ σ ρ H Hf/\f ρ=some d ∧
 ∀ v H' Hf',Rep K H₀ Hf₀ σ ρ H' Hf'->yf H H'->yf Hf Hf'->Has K Hf' d v->Q v H'
def tR (K:W.Frag) (f:FE):TE:=fun σ H Q=>∃ H₀ Hf₀ ρ Hf d,Rep K H₀ Hf₀ σ ρ H Hf/\f ρ=some d ∧
 ∀ v H' Hf',Rep K H₀ Hf₀ σ ρ H' Hf'->yf H H'->yf Hf Hf'->qh K Hf' σ ρ d v->Q v H'
def tN (K:W.Frag) (f:FA):TE:=fun σ H Q=>∃ H₀ Hf₀ ρ Hf ds,Rep K H₀ Hf₀ σ ρ H Hf/\f ρ=some ds ∧
 ∀ a xs H' Hf',Rep K H₀ Hf₀ σ ρ H' Hf'->yf H H'->yf Hf Hf'->zZ K Hf' ds xs->H' a=some (.lst xs)->Hf' a=none->H a=none->Q (.ref a) H'
def tT (K:W.Frag) (f:FT):TT:=fun σ H Q=>∃ H₀ Hf₀ ρ Hf b,Rep K H₀ Hf₀ σ ρ H Hf/\f ρ=some b ∧
 ∀ H' Hf',Rep K H₀ Hf₀ σ ρ H' Hf'->yf H H'->yf Hf Hf'->Q b H'
def tAF (K:W.Frag) (f:FA):TA:=fun σ H Q=>∃ H₀ Hf₀ ρ Hf ds,Rep K H₀ Hf₀ σ ρ H Hf/\f ρ=some ds ∧
 ∀ vs H' Hf',Rep K H₀ Hf₀ σ ρ H' Hf'->yf H H'->yf Hf Hf'->zZ K Hf' ds vs->Q vs H'
def qR (K:W.Frag) (Hf:Hp) (σ:St) (ρ:Rho):List D->List V->Prop:=Paired (qh K Hf σ ρ)
def tAR (K:W.Frag) (f:FA):TA:=fun σ H Q=>∃ H₀ Hf₀ ρ Hf ds,Rep K H₀ Hf₀ σ ρ H Hf/\f ρ=some ds ∧
 ∀ vs H' Hf',Rep K H₀ Hf₀ σ ρ H' Hf'->yf H H'->yf Hf Hf'->qR K Hf' σ ρ ds vs->Q vs H'
def Ny (K:W.Frag) (H₀ Hf₀ Hf:Hp) (D':Ends):Out->Prop
 | .nx ρ'=>∀ σ' H' Hf',Rep K H₀ Hf₀ σ' ρ' H' Hf'->yf Hf Hf'->D'.nx σ' H'
 | .bk ρ'=>∀ σ' H' Hf',Rep K H₀ Hf₀ σ' ρ' H' Hf'->yf Hf Hf'->D'.bk σ' H'
 | .ct ρ'=>∀ σ' H' Hf',Rep K H₀ Hf₀ σ' ρ' H' Hf'->yf Hf Hf'->D'.ct σ' H'
 | .rt d=>∀ v σ' ρ' H' Hf',Rep K H₀ Hf₀ σ' ρ' H' Hf'->yf Hf Hf'->Has K Hf' d v->D'.rt v H'
def tS (K:W.Frag) (F:FS):TS:=fun D' σ H=>∃ H₀ Hf₀ ρ Hf o,Rep K H₀ Hf₀ σ ρ H Hf/\F ρ=some o/\Ny K H₀ Hf₀ Hf D' o
def DE (X:Cx) (e:Expr) (f:FE):Prop:=PE X e (tF X.K f)
def DR (X:Cx) (e:Expr) (f:FE):Prop:=PE X e (tR X.K f)
def DN (X:Cx) (e:Expr) (f:FA):Prop:=PE X e (tN X.K f)
def DT (X:Cx) (e:Expr) (f:FT):Prop:=PT X e (tT X.K f)
def DW (X:Cx) (e:Expr) (f:FT):Prop:=PW X e (tT X.K f)
def DA (X:Cx) (es:List Expr) (f:FA):Prop:=PA X es (tAF X.K f)
def DAR (X:Cx) (es:List Expr) (f:FA):Prop:=PA X es (tAR X.K f)
def DS (X:Cx) (st:Stmt) (F:FS):Prop:=PS X st (tS X.K F)
def DSs (X:Cx) (sts:List Stmt) (F:FS):Prop:=PSs X sts (tS X.K F)
section
variable {X:Cx} {e a b c:Expr} {es:List Expr} {f g h:FE} {fa ga:FA} {ft gt:FT} {pos:Pos} {t t':TE}
theorem yP (h:PE X e t) (i:∀ σ H Q,t' σ H Q->t σ H Q):PE X e t':=fun pins s σ H Q I hw=>h pins s σ H Q I (i _ _ _ hw)
theorem Xd {t t':TT} (h:PT X e t) (i:∀ σ H Q,t' σ H Q->t σ H Q):PT X e t':=fun pins s σ H Q I hw=>h pins s σ H Q I (i _ _ _ hw)
theorem Hq {t t':TT} (h:PW X e t) (i:∀ σ H Q,t' σ H Q->t σ H Q):PW X e t':=fun wh pins s σ H Q I hw=>h wh pins s σ H Q I (i _ _ _ hw)
theorem Vf {t t':TA} (h:PA X es t) (i:∀ σ H Q,t' σ H Q->t σ H Q):PA X es t':=fun p pins s σ H Q I hw=>h p pins s σ H Q I (i _ _ _ hw)
theorem wj {st:Stmt} {t t':TS} (h:PS X st t) (i:∀ D σ H,t' D σ H->t D σ H):PS X st t':=fun pins s σ H D I hw=>h pins s σ H D I (i _ _ _ hw)
theorem Wm {sts:List Stmt} {t t':TS} (h:PSs X sts t) (i:∀ D σ H,t' D σ H->t D σ H):PSs X sts t':=fun pins s σ H D I hw=>h pins s σ H D I (i _ _ _ hw)
theorem DE.dr (he:DE X e f):DR X e f:=yP he fun σ H Q ⟨H₀,Hf₀,ρ,Hf,d,R,q,k⟩=>⟨H₀,Hf₀,ρ,Hf,d,R,q,fun v H' Hf' R' s1 s2 hv=>k v H' Hf' R' s1 s2 (.inl hv)⟩
def zL (fa:FA):FE:=fun ρ=>(fa ρ).map D.lst
theorem DN.de (he:DN X e fa):DE X e (zL fa):=yP he fun σ H Q ⟨H₀,Hf₀,ρ,Hf,d,R,q,k⟩=>by
 unfold zL at q
 cases hq:fa ρ with
 | none=>rw [hq] at q; cases q
 | some ds =>
  rw [hq] at q; cases q
  refine ⟨H₀,Hf₀,ρ,Hf,ds,R,hq,fun a xs H' Hf' R' s1 s2 hl ha hn hh=>?_⟩
  have sm:yf Hf' (upd Hf' a (.lst xs)):=zI hn
  have h0:H₀ a=none:=R.s0.free hh
  refine k (.ref a) H' (upd Hf' a (.lst xs)) ?_ s1 (s2.trans sm) (Has.lst_iff.mpr ⟨a,xs,rfl,SqL.of zq,hl.mono sm⟩)
  refine ⟨R'.s0,fun b u z=>?_,fun b u z=>?_,R'.f0.trans sm,R'.len,fun i d z=>?_,fun i sl z o=>?_,R'.inj⟩
  ·by_cases hb:b=a
   ·subst hb; rw [zq] at z; cases z; exact ha
   ·rw [zG hb] at z; exact R'.sf b u z
  ·by_cases hb:b=a
   ·subst hb; exact .inr (.inl h0)
   ·rw [zG hb] at z; exact R'.nf b u z
  ·obtain ⟨v,p1,p2⟩:=R'.fr i d z
   exact ⟨v,p1,p2.mono sm⟩
  ·obtain ⟨b,p1,p2,p3,p4⟩:=R.ow i sl z o
   obtain ⟨b',r1,r2,r3,r4⟩:=R'.ow i sl z o
   rw [p1] at r1; cases r1
   refine ⟨b,p1,r2.mono (fun u q=>q) sm,?_,r4⟩
   rw [zG]
   ·exact r3
   ·rintro rfl
    obtain ⟨o',q'⟩:=p2.there o
    rw [q'] at hh; cases hh
def vF (i:Nat):FE:=fun ρ=>match ρ[i]? with
 | some (.fr d)=>some d
 | _=>none
def vR (i:Nat):FE:=fun ρ=>match ρ[i]? with
 | some (.fr d)=>some d
 | some (.ol ds)=>some (.lst ds)
 | _=>none
theorem dv (i:Nat) {x:Str} (hN:X.N[i]? = some x:=by rfl) (hv:Vis X.env.scope x:=by first | exact Or.inl rfl | exact Or.inr (Or.inl rfl) | exact Or.inr (Or.inr rfl)) (hd:(x==("__debug__":Str))=false:=by decide)
  (hcd:(x==("__classdict__":Str))=false:=by decide):DE X (.Name x pos) (vF i) :=
 yP (uj hN hv hd hcd) fun σ H Q ⟨H₀,Hf₀,ρ,Hf,d,R,q,k⟩=>by
  unfold vF at q
  split at q
  ·cases q
   rename_i e
   obtain ⟨v,e1,e2⟩:=R.fr i d e
   exact ⟨v,e1,k v H Hf R zA zA e2⟩
  ·cases q
theorem dvr (i:Nat) {x:Str} (hN:X.N[i]? = some x:=by rfl) (hv:Vis X.env.scope x:=by first | exact Or.inl rfl | exact Or.inr (Or.inl rfl) | exact Or.inr (Or.inr rfl)) (hd:(x==("__debug__":Str))=false:=by decide)
  (hcd:(x==("__classdict__":Str))=false:=by decide):DR X (.Name x pos) (vR i) :=
 yP (uj hN hv hd hcd) fun σ H Q ⟨H₀,Hf₀,ρ,Hf,d,R,q,k⟩=>by
  unfold vR at q
  split at q
  ·cases q
   rename_i e
   obtain ⟨v,e1,e2⟩:=R.fr i d e
   exact ⟨v,e1,k v H Hf R zA zA (.inl e2)⟩
  ·cases q
   rename_i ds e
   obtain ⟨a,e1,e2,_⟩:=R.ow i _ e rfl
   exact ⟨.ref a,e1,k _ H Hf R zA zA (.inr ⟨i,ds,rfl,e,e1⟩)⟩
  ·cases q
def cF (d:D):FE:=fun _=>some d
theorem zk {i:Int} {j pos}:DE X (.Constant (.int i) j pos) (cF (.int i)):=yP FC fun σ H Q ⟨H₀,Hf₀,ρ,Hf,d,R,q,k⟩=>by cases q; exact k _ _ _ R zA zA (Has.int_iff.mpr rfl)
theorem Dh {i:Bool} {j pos}:DE X (.Constant (.bool i) j pos) (cF (.bl i)):=yP N7 fun σ H Q ⟨H₀,Hf₀,ρ,Hf,d,R,q,k⟩=>by cases q; exact k _ _ _ R zA zA (Has.bl_iff.mpr rfl)
theorem GY {j pos}:DE X (.Constant .none j pos) (cF .non):=yP Fz fun σ H Q ⟨H₀,Hf₀,ρ,Hf,d,R,q,k⟩=>by cases q; exact k _ _ _ R zA zA (Has.non_iff.mpr rfl)
theorem JI {x:Str} {j pos}:DE X (.Constant (.str x) j pos) (cF (.str x)):=yP Fw fun σ H Q ⟨H₀,Hf₀,ρ,Hf,d,R,q,k⟩=>by cases q; exact k _ _ _ R zA zA (Has.str_iff.mpr rfl)
def Kx:D->Option V
 | .non=>some .non
 | .bl b=>some (.bl b)
 | .int i=>some (.int i)
 | .str x=>some (.str x)
 | _=>none
theorem HN {x:Str} {d:D} {v:V} {u:Value} {pos:Pos} (hg:Gl X x) (hm:X.mg x=some u) (hs:Kx d=some v) (r:xm v u) (hd:(x==("__debug__":Str))=false:=by decide):DE X (.Name x pos) (cF d) :=
 yP (Yn hg hm r hd) fun σ H Q ⟨H₀,Hf₀,ρ,Hf,d',R,q,k⟩=>by
  cases q
  refine k _ _ _ R zA zA ?_
  cases d <;> cases hs
  ·exact Has.non_iff.mpr rfl
  ·exact Has.bl_iff.mpr rfl
  ·exact Has.int_iff.mpr rfl
  ·exact Has.str_iff.mpr rfl
def zb (φ:D->D->Option D) (f g:FE):FE:=fun ρ=>(f ρ).bind fun x=>(g ρ).bind fun y=>φ x y
def OpD (X:Cx) (r:R2) (φ:D->D->Option D):Prop :=
 ∀ (σ:St) (ρ:Rho) (H₀ Hf₀ H Hf:Hp) (x y:V) (dx dy d:D) (Q:VK),Rep X.K H₀ Hf₀ σ ρ H Hf->qh X.K Hf σ ρ dx x->qh X.K Hf σ ρ dy y->φ dx dy=some d →
  (∀ v H' Hf',Rep X.K H₀ Hf₀ σ ρ H' Hf'->yf H H'->yf Hf Hf'->Has X.K Hf' d v->Q v H')->r x y H Q
theorem W6 {r:R2} {φ:D->D->Option D} (hφ:OpD X r φ) (σ:St) (H:Hp) (Q:VK) (hh:tF X.K (zb φ f g) σ H Q):tOp r (tR X.K f) (tR X.K g) σ H Q:=by
 obtain ⟨H₀,Hf₀,ρ,Hf,d,R,q,k⟩:=hh
 unfold zb at q
 cases hf:f ρ with
 | none=>rw [hf] at q; cases q
 | some dx =>
  cases hg:g ρ with
  | none=>rw [hf,hg] at q; cases q
  | some dy =>
   rw [hf,hg] at q
   refine ⟨H₀,Hf₀,ρ,Hf,dx,R,hf,fun v H1 Hf1 R1 s1 t1 h1=>⟨H₀,Hf₀,ρ,Hf1,dy,R1,hg,fun u H2 Hf2 R2 s2 t2 h2=>?_⟩⟩
   exact hφ σ ρ H₀ Hf₀ H2 Hf2 v u dx dy d Q R2 (h1.mono t2) h2 q fun w' H3 Hf3 R3 s3 t3 h3=>k w' H3 Hf3 R3 ((s1.trans s2).trans s3) ((t1.trans t2).trans t3) h3
theorem DC {op:Operator} {r:R2} {φ:D->D->Option D} (ho:OpR X (binaryOp op) r) (hφ:OpD X r φ) (ha:DR X a f) (hb:DR X b g):DE X (.BinOp a op b pos) (zb φ f g) :=
 yP (Fx ho ha hb) (W6 hφ)
theorem Dg {op:CmpOp} {r:R2} {φ:D->D->Option D} (ho:OpR X (compareOp op) r) (hφ:OpD X r φ) (ha:DR X a f) (hb:DR X b g) (hm:behindInMarks op b=false):DE X (.Compare a [op] [b] pos) (zb φ f g) :=
 yP (BQ ho ha hb hm) (W6 hφ)
theorem Pw {r:R2} {φ:D->D->Option D} (ho:IxR X r) (hφ:OpD X r φ) (ha:DR X a f) (hb:DR X b g) (hs:WV b):DE X (.Subscript a b pos) (zb φ f g) :=
 yP (N6 ho ha hb hs) (W6 hφ)
section
variable {K:W.Frag} {H₀ Hf₀:Hp} {σ:St} {ρ:Rho} {H Hf:Hp} {v:V}
theorem qh.int {i:Int} (h:qh K Hf σ ρ (.int i) v):v=.int i:=by
 rcases h with h | ⟨_,_,e,_⟩
 ·exact Has.int_iff.mp h
 ·cases e
theorem qh.bl {i:Bool} (h:qh K Hf σ ρ (.bl i) v):v=.bl i:=by
 rcases h with h | ⟨_,_,e,_⟩
 ·exact Has.bl_iff.mp h
 ·cases e
theorem qh.str {i:Str} (h:qh K Hf σ ρ (.str i) v):v=.str i:=by
 rcases h with h | ⟨_,_,e,_⟩
 ·exact Has.str_iff.mp h
 ·cases e
theorem qh.non (h:qh K Hf σ ρ .non v):v=.non:=by
 rcases h with h | ⟨_,_,e,_⟩
 ·exact Has.non_iff.mp h
 ·cases e
theorem qh.tup {ds:List D} (h:qh K Hf σ ρ (.tup ds) v) (R:Rep K H₀ Hf₀ σ ρ H Hf):∃ a xs,v=.ref a/\SqT K H a xs/\zZ K Hf ds xs:=by
 rcases h with h | ⟨_,_,e,_⟩
 ·obtain ⟨a,xs,e,q,l⟩:=Has.tup_iff.mp h
  exact ⟨a,xs,e,Yj R.sf q,l⟩
 ·cases e
theorem qh.lst {ds:List D} (h:qh K Hf σ ρ (.lst ds) v) (R:Rep K H₀ Hf₀ σ ρ H Hf):∃ a xs,v=.ref a/\SqL K H a xs/\zZ K Hf ds xs:=by
 rcases h with h | ⟨i,ds',e,e1,e2⟩
 ·obtain ⟨a,xs,e,q,l⟩:=Has.lst_iff.mp h
  exact ⟨a,xs,e,R.sf.seq q,l⟩
 ·cases e
  obtain ⟨a,p1,⟨xs,p2,p3⟩,_⟩:=R.ow i _ e1 rfl
  rw [e2] at p1; cases p1
  exact ⟨a,xs,rfl,SqL.of p2,p3⟩
end
def iiD (φ:Int->Int->Option D):D->D->Option D
 | .int i,.int j=>φ i j
 | _,_=>none
theorem Vv {φ:Int->Int->Option D} {x y d:D} (h:iiD φ x y=some d):∃ i j,x=.int i/\y=.int j/\φ i j=some d:=by
 cases x <;> cases y <;> first | cases h | exact ⟨_,_,rfl,rfl,h⟩
theorem Vw {K:W.Frag} {H:Hp} {d:D} {v:V} (h:Kx d=some v):Has K H d v:=by
 cases d <;> cases h
 ·exact Has.non_iff.mpr rfl
 ·exact Has.bl_iff.mpr rfl
 ·exact Has.int_iff.mpr rfl
 ·exact Has.str_iff.mpr rfl
theorem Vg {C:Int->Int->Prop} {gv:Int->Int->V} {φ:Int->Int->Option D} (h:∀ i j d,φ i j=some d->C i j/\Kx d=some (gv i j)):OpD X (rI C gv) (iiD φ):=by
 intro σ ρ H₀ Hf₀ H Hf x y dx dy d Q R hx hy hφ k
 obtain ⟨i,j,rfl,rfl,hd⟩:=Vv hφ
 obtain ⟨c,s⟩:=h i j d hd
 exact ⟨i,j,hx.int,hy.int,c,k _ _ _ R zA zA (Vw s)⟩
theorem kl {gv:Int->Int->V} {φ:Int->Int->Option D} (h:∀ i j d,φ i j=some d->Kx d=some (gv i j)):OpD X (rI0 gv) (iiD φ):=by
 intro σ ρ H₀ Hf₀ H Hf x y dx dy d Q R hx hy hφ k
 obtain ⟨i,j,rfl,rfl,hd⟩:=Vv hφ
 exact ⟨i,j,hx.int,hy.int,k _ _ _ R zA zA (Vw (h i j d hd))⟩
end
def big:Nat:=2 ^ 8000
theorem YM {i:Int} (h:i.natAbs < big):Builtin.Int.intBits i<=8001:=by
 unfold Builtin.Int.intBits
 split
 ·exact g1z _
 ·have:i.natAbs.log2 < 8000:=by
   rcases Nat.eq_zero_or_pos i.natAbs with h0 | hp
   ·rw [h0]; decide
   ·exact (Nat.log2_lt (Nat.ne_of_gt hp)).mpr h
  omega
def Kb (i j:Int):Prop:=i.natAbs < 2 ^ 64\/j.natAbs < 2 ^ 64\/(i.natAbs < big/\j.natAbs < big)
instance (i j:Int):Decidable (Kb i j):=by unfold Kb; exact inferInstance
theorem Kb.ok {i j:Int} (h:Kb i j):IntMulOk i j:=by
 rcases h with h | h | ⟨h1,h2⟩
 ·exact .of_left (intBits_le_64 (by omega) (by omega))
 ·exact .of_right (intBits_le_64 (by omega) (by omega))
 ·exact IntMulOk.of_le (YM h1) (YM h2) (by decide)
def DK (j:Int):Prop:=0 < j/\j < 2 ^ 64
instance (j:Int):Decidable (DK j):=by unfold DK; exact inferInstance
def Dr (i j:Int):Prop:=0<=j/\j<=1000/\i.natAbs < big
instance (i j:Int):Decidable (Dr i j):=by unfold Dr; exact inferInstance
section
variable {X:Cx} {e a b c:Expr} {es:List Expr} {f g h:FE} {fa ga:FA} {ft gt:FT} {pos:Pos} {t t':TE}
theorem Ca:OpR X (binaryOp .Mult) (rI Kb fun i j=>.int (i * j)):=opI fun _ _ _ _ _ _ _ hc q=>mul_int q hc.ok
theorem K2:OpR X (binaryOp .FloorDiv) (rI (fun _ j=>DK j) fun i j=>.int (i / j)):=opI fun i j _ _ _ _ _ hc q=>by
 have h1:(0:Int) < j:=hc.1
 have h2:j < 2 ^ 64:=hc.2
 refine floordiv_int (by omega) (by rw [Int.fdiv_eq_ediv_of_nonneg i (by omega)]; exact q) (.inl (PyProof.noPylong_of_log2 ?_))
 have hn:j.natAbs < 2 ^ 64:=by omega
 have:j.natAbs.log2 < 64:=(Nat.log2_lt (by omega)).mpr hn
 omega
theorem BX:OpR X (binaryOp .Pow) (rI Dr fun i j=>.int (i ^ j.toNat)):=opI fun i j _ _ _ _ _ hc q=>by
 obtain ⟨h1,h2,h3⟩:=hc
 refine pow_int h1 ?_ q
 have hb:=YM h3
 have:(Builtin.Int.intBits i:Int) * j<=8001 * 1000:=Int.mul_le_mul (by omega) h2 h1 (by decide)
 exact Int.le_trans this (by decide)
def uY:D->D->Option D:=iiD fun i j=>if Kb i j then some (.int (i * j)) else none
def jN:D->D->Option D:=iiD fun i j=>some (.int (i - j))
def X7:D->D->Option D:=iiD fun i j=>if 0 < j then some (.int (i % j)) else none
def Zx:D->D->Option D:=iiD fun i j=>if DK j then some (.int (i / j)) else none
def Dv:D->D->Option D:=iiD fun i j=>if Dr i j then some (.int (i ^ j.toNat)) else none
theorem Cf:OpD X (rI Kb fun i j=>.int (i * j)) uY:=Vg fun i j d q=>by
 split at q
 ·cases q; exact ⟨by assumption,rfl⟩
 ·cases q
theorem Cd:OpD X (rI0 fun i j=>.int (i - j)) jN:=kl fun i j d q=>by cases q; rfl
theorem Cg:OpD X (rI (fun _ j=>0 < j) fun i j=>.int (i % j)) X7:=Vg fun i j d q=>by
 split at q
 ·cases q; exact ⟨by assumption,rfl⟩
 ·cases q
theorem K5:OpD X (rI (fun _ j=>DK j) fun i j=>.int (i / j)) Zx:=Vg fun i j d q=>by
 split at q
 ·cases q; exact ⟨by assumption,rfl⟩
 ·cases q
theorem Ce:OpD X (rI Dr fun i j=>.int (i ^ j.toNat)) Dv:=Vg fun i j d q=>by
 split at q
 ·cases q; exact ⟨by assumption,rfl⟩
 ·cases q
theorem jJ (ha:DR X a f) (hb:DR X b g):DE X (.BinOp a .Sub b pos) (zb jN f g):=DC FD Cd ha hb
theorem uA (ha:DR X a f) (hb:DR X b g):DE X (.BinOp a .Mult b pos) (zb uY f g):=DC Ca Cf ha hb
theorem Zy (ha:DR X a f) (hb:DR X b g):DE X (.BinOp a .Mod b pos) (zb X7 f g):=DC FF Cg ha hb
theorem VO (ha:DR X a f) (hb:DR X b g):DE X (.BinOp a .FloorDiv b pos) (zb Zx f g):=DC K2 K5 ha hb
theorem MX (ha:DR X a f) (hb:DR X b g):DE X (.BinOp a .Pow b pos) (zb Dv f g):=DC BX Ce ha hb
def RO:D->D->Option D
 | .int i,.int j=>some (.int (i+j))
 | .str x,.str y=>if x.length+y.length<=sizeLine then some (.str (x++y)) else none
 | .lst xs,.lst ys=>if xs.length+ys.length<=sizeLine then some (.lst (xs++ys)) else none
 | .tup (x :: xs),.tup ys=>if xs.length+1+ys.length<=sizeLine then some (.tup (x :: xs++ys)) else none
 | _,_=>none
def jr (φ:D->Option D) (f:FE):FE:=fun ρ=>(f ρ).bind φ
def FY:D->Option D
 | .int i=>some (.int (-i))
 | _=>none
theorem Pv (ha:DR X a f):DE X (.UnaryOp .USub a pos) (jr FY f) :=
 yP (N4 DL ha) fun σ H Q ⟨H₀,Hf₀,ρ,Hf,d,R,q,k⟩=>by
  unfold jr at q
  cases hf:f ρ with
  | none=>rw [hf] at q; cases q
  | some x =>
   rw [hf] at q
   cases x <;> try cases q
   exact ⟨H₀,Hf₀,ρ,Hf,_,R,hf,fun v H1 Hf1 R1 s1 t1 h1=>⟨_,h1.int,k _ _ _ R1 s1 t1 (Has.int_iff.mpr rfl)⟩⟩
def ltD:D->D->Option D:=iiD fun i j=>some (.bl (decide (i < j)))
def leD:D->D->Option D:=iiD fun i j=>some (.bl (decide (i<=j)))
def gtD:D->D->Option D:=iiD fun i j=>some (.bl (decide (j < i)))
def geD:D->D->Option D:=iiD fun i j=>some (.bl (decide (j<=i)))
theorem FM:OpD X (rI0 fun i j=>.bl (decide (i < j))) ltD:=kl fun i j d q=>by cases q; rfl
theorem FN:OpD X (rI0 fun i j=>.bl (decide (i<=j))) leD:=kl fun i j d q=>by cases q; rfl
theorem HB:OpD X (rI0 fun i j=>.bl (decide (j < i))) gtD:=kl fun i j d q=>by cases q; rfl
theorem FQ:OpD X (rI0 fun i j=>.bl (decide (j<=i))) geD:=kl fun i j d q=>by cases q; rfl
theorem RL (ha:DR X a f) (hb:DR X b g):DE X (.Compare a [.Gt] [b] pos) (zb gtD f g):=Dg FI HB ha hb (u5 _)
def isD (neg:Bool):D->D->Option D:=fun x y=>match y with
 | .non=>match x with
  | .non=>some (.bl (!neg))
  | _=>some (.bl neg)
 | _=>none
theorem GG {K:W.Frag} {Hf:Hp} {σ:St} {ρ:Rho} {x:D} {v:V} (h:qh K Hf σ ρ x v) (R:∃ H₀ Hf₀ H,Rep K H₀ Hf₀ σ ρ H Hf):decide (v=V.non)=(match x with | .non=>true | _=>false):=by
 obtain ⟨H₀,Hf₀,H,R⟩:=R
 cases x with
 | non=>cases h.non; rfl
 | bl b=>cases h.bl; rfl
 | int b=>cases h.int; rfl
 | str b=>cases h.str; rfl
 | tup ds=>obtain ⟨a,xs,rfl,_⟩:=h.tup R; rfl
 | lst ds=>obtain ⟨a,xs,rfl,_⟩:=h.lst R; rfl
theorem QA:OpD X (fun x y H Q=>y=.non/\Q (.bl (!decide (x=.non))) H) (isD true):=by
 intro σ ρ H₀ Hf₀ H Hf x y dx dy d Q R hx hy hφ k
 cases dy <;> try cases hφ
 have e:=GG hx ⟨_,_,_,R⟩
 refine ⟨hy.non,?_⟩
 rw [e]
 cases dx <;> cases hφ <;> exact k _ _ _ R zA zA (Has.bl_iff.mpr rfl)
def ixD:D->D->Option D
 | .tup ds,.int i=>atI ds i
 | .lst ds,.int i=>atI ds i
 | .str z,.int i=>if z.length<=sizeLine then (atI z.cps.toList i).map fun c=>.str ⟨#[c]⟩ else none
 | _,_=>none
theorem zZ.atI {K:W.Frag} {H:Hp} {ds:List D} {xs:List V} {i:Int} {d:D} (h:zZ K H ds xs) (e:L2.atI ds i=some d):∃ v,L2.atI xs i=some v/\Has K H d v:=by
 unfold L2.atI at e ⊢
 rw [h.length]
 cases hj:ixN ds.length i with
 | none=>rw [hj] at e; cases e
 | some j =>
  rw [hj] at e
  exact h.get e
theorem FO:OpD X (rIx X.K) ixD:=by
 intro σ ρ H₀ Hf₀ H Hf x y dx dy d Q R hx hy hφ k
 unfold ixD at hφ
 split at hφ
 ·obtain ⟨a,xs,rfl,qa,la⟩:=hx.tup R
  obtain ⟨v,e1,e2⟩:=la.atI hφ
  exact .inr (.inl ⟨a,xs,_,v,rfl,hy.int,qa,e1,k _ _ _ R zA zA e2⟩)
 ·obtain ⟨a,xs,rfl,qa,la⟩:=hx.lst R
  obtain ⟨v,e1,e2⟩:=la.atI hφ
  exact .inl ⟨a,xs,_,v,rfl,hy.int,qa,e1,k _ _ _ R zA zA e2⟩
 ·split at hφ
  ·rename_i z i hz
   cases e:atI z.cps.toList i with
   | none=>rw [e] at hφ; cases hφ
   | some c =>
    rw [e] at hφ
    cases hφ
    exact .inr (.inr ⟨z,i,c,hx.str,hy.int,hz,e,k _ _ _ R zA zA (Has.str_iff.mpr rfl)⟩)
  ·cases hφ
 ·cases hφ
theorem x9 (ha:DR X a f) (hb:DR X b g) (hs:WV b:=by intro _ _; rfl):DE X (.Subscript a b pos) (zb ixD f g):=Pw Mz FO ha hb hs
def zy:FA:=fun _=>some []
def za (f:FE) (g:FA):FA:=fun ρ=>(f ρ).bind fun x=>(g ρ).bind fun xs=>some (x :: xs)
theorem jl {f:FE} {g:FA} {ρ:Rho} {l:List D} (h:za f g ρ=some l):∃ x xs,f ρ=some x/\g ρ=some xs/\l=x :: xs:=by
 unfold za at h
 cases hf:f ρ with
 | none=>rw [hf] at h; cases h
 | some x =>
  cases hg:g ρ with
  | none=>rw [hf,hg] at h; cases h
  | some xs=>rw [hf,hg] at h; cases h; exact ⟨x,xs,rfl,rfl,rfl⟩
theorem zw:DA X [] zy:=Vf u4 fun σ H Q ⟨H₀,Hf₀,ρ,Hf,d,R,q,k⟩=>by cases q; exact k _ _ _ R zA zA .nil
theorem zd (ha:DE X e f) (hr:DA X es fa) (hs:starEach (e :: es) X.env=(false,eval e X.env) :: starEach es X.env:=by rfl):DA X (e :: es) (za f fa) :=
 Vf (wK ha hr hs) fun σ H Q ⟨H₀,Hf₀,ρ,Hf,d,R,q,k⟩=>by
  obtain ⟨x,xs,e1,e2,rfl⟩:=jl q
  exact ⟨H₀,Hf₀,ρ,Hf,x,R,e1,fun v H1 Hf1 R1 s1 t1 h1=>⟨H₀,Hf₀,ρ,Hf1,xs,R1,e2,fun vs H2 Hf2 R2 s2 t2 h2=>k _ _ _ R2 (s1.trans s2) (t1.trans t2) (.cons (h1.mono t2) h2)⟩⟩
theorem zC:DAR X [] zy:=Vf u4 fun σ H Q ⟨H₀,Hf₀,ρ,Hf,d,R,q,k⟩=>by cases q; exact k _ _ _ R zA zA .nil
theorem zl (ha:DR X e f) (hr:DAR X es fa) (hs:starEach (e :: es) X.env=(false,eval e X.env) :: starEach es X.env:=by rfl):DAR X (e :: es) (za f fa) :=
 Vf (wK ha hr hs) fun σ H Q ⟨H₀,Hf₀,ρ,Hf,d,R,q,k⟩=>by
  obtain ⟨x,xs,e1,e2,rfl⟩:=jl q
  exact ⟨H₀,Hf₀,ρ,Hf,x,R,e1,fun v H1 Hf1 R1 s1 t1 h1=>⟨H₀,Hf₀,ρ,Hf1,xs,R1,e2,fun vs H2 Hf2 R2 s2 t2 h2=>k _ _ _ R2 (s1.trans s2) (t1.trans t2) (.cons (h1.mono t2) h2)⟩⟩
def tupF (g:FA):FE:=fun ρ=>(g ρ).bind fun xs=>if xs.length<=sizeLine then some (.tup xs) else none
theorem qe {x1} (h:DA X es fa):DE X (.Tuple es x1 pos) (tupF fa) :=
 yP (Hw h) fun σ H Q ⟨H₀,Hf₀,ρ,Hf,d,R,q,k⟩=>by
  unfold tupF at q
  cases hg:fa ρ with
  | none=>rw [hg] at q; cases q
  | some xs =>
   rw [hg] at q
   simp only [g0b] at q
   split at q
   ·cases q
    rename_i hl
    refine ⟨H₀,Hf₀,ρ,Hf,xs,R,hg,fun vs H1 Hf1 R1 s1 t1 h1=>⟨by rw [h1.length]; exact hl,fun p hp=>?_⟩⟩
    have sm:=zI (o:=.tup vs) (R1.sf.free hp)
    exact k _ _ _ (R1.lay hp) (s1.trans (zI hp)) (t1.trans sm) (Has.tup_iff.mpr ⟨p,vs,rfl,SqT.of zq,h1.mono sm⟩)
   ·cases q
def Zq (g:FA):FA:=fun ρ=>(g ρ).bind fun xs=>if xs.length<=sizeLine then some xs else none
theorem va (h:DA X es fa):DN X (.List es pos) (Zq fa) :=
 yP (FB h) fun σ H Q ⟨H₀,Hf₀,ρ,Hf,d,R,q,k⟩=>by
  unfold Zq at q
  cases hg:fa ρ with
  | none=>rw [hg] at q; cases q
  | some xs =>
   rw [hg] at q
   simp only [g0b] at q
   split at q
   ·cases q
    rename_i hl
    refine ⟨H₀,Hf₀,ρ,Hf,_,R,hg,fun vs H1 Hf1 R1 s1 t1 h1=>⟨by rw [h1.length]; exact hl,fun p hp=>?_⟩⟩
    exact k _ _ _ _ (R1.layN hp) (s1.trans (zI hp)) t1 h1 zq (R1.sf.free hp) (s1.free hp)
   ·cases q
def blF (f:FE):FT:=fun ρ=>(f ρ).bind fun | .bl b=>some b | _=>none
theorem VU {f:FE} {ρ:Rho} {b:Bool} (h:blF f ρ=some b):f ρ=some (.bl b):=by
 unfold blF at h
 cases hf:f ρ with
 | none=>rw [hf] at h; cases h
 | some x=>rw [hf] at h; cases x <;> cases h; rfl
theorem VH (h:DR X e f) (he:∀ whole,isTrue e X.env whole=(do let v ← whole; standAt e.pos; holding [v] (truthy v)):=by intro _; rfl):DT X e (blF f) :=
 Xd (Fp h he) fun σ H Q ⟨H₀,Hf₀,ρ,Hf,d,R,q,k⟩=>⟨H₀,Hf₀,ρ,Hf,_,R,VU q,fun v H1 Hf1 R1 s1 t1 h1=>⟨d,h1.bl,k _ _ R1 s1 t1⟩⟩
theorem xT {op:CmpOp} {r:R2} {φ:D->D->Option D} (ho:OpR X (compareOp op) r) (hφ:OpD X r φ) (ha:DR X a f) (hb:DR X b g) (hm:behindInMarks op b=false):DT X (.Compare a [op] [b] pos) (blF (zb φ f g)) :=
 Xd (BH ho ha hb hm) fun σ H Q ⟨H₀,Hf₀,ρ,Hf,d,R,q,k⟩=>W6 hφ σ H _ ⟨H₀,Hf₀,ρ,Hf,_,R,VU q,fun v H1 Hf1 R1 s1 t1 h1=>⟨d,Has.bl_iff.mp h1,k _ _ R1 s1 t1⟩⟩
theorem UP (ha:DR X a f) (hb:DR X b g):DT X (.Compare a [.Lt] [b] pos) (blF (zb ltD f g)):=xT N9 FM ha hb (u5 _)
theorem Pl (ha:DR X a f) (hb:DR X b g):DT X (.Compare a [.LtE] [b] pos) (blF (zb leD f g)):=xT Pa FN ha hb (u5 _)
theorem MQ (ha:DR X a f) (hb:DR X b g):DT X (.Compare a [.Gt] [b] pos) (blF (zb gtD f g)):=xT FI HB ha hb (u5 _)
theorem MR (ha:DR X a f) (hb:DR X b g):DT X (.Compare a [.GtE] [b] pos) (blF (zb geD f g)):=xT Pb FQ ha hb (u5 _)
theorem VI (ha:DR X a f) (hb:DR X b g):DT X (.Compare a [.IsNot] [b] pos) (blF (zb (isD true) f g)):=xT BY QA ha hb (u5 _)
def qO (f g:FT):FT:=fun ρ=>(f ρ).bind fun b=>if b=true then g ρ else some false
def orT (f g:FT):FT:=fun ρ=>(f ρ).bind fun b=>if b=true then some true else g ρ
def FX (f:FT):FT:=fun ρ=>(f ρ).bind fun b=>some (!b)
variable {uQ:List Expr}
theorem vP {α:Type} {f:Rho->Option Bool} {k:Bool->Option α} {ρ:Rho} {r:α} (h:(f ρ).bind k=some r):∃ b,f ρ=some b/\k b=some r:=by
 cases hf:f ρ with
 | none=>rw [hf] at h; cases h
 | some x=>rw [hf] at h; exact ⟨x,rfl,h⟩
theorem wV (ha:DT X a ft):DW X (.BoolOp .And [a] pos) ft:=BF ha
theorem HL (ha:DT X a ft):DW X (.BoolOp .Or [a] pos) ft:=Fk ha
theorem uy (ha:DT X a ft) (hb:DW X (.BoolOp .And (b :: uQ) pos) gt):DW X (.BoolOp .And (a :: b :: uQ) pos) (qO ft gt) :=
 Hq (Fl ha hb) fun σ H Q ⟨H₀,Hf₀,ρ,Hf,d,R,q,k⟩=>by
  obtain ⟨b,e1,e2⟩:=vP q
  refine ⟨H₀,Hf₀,ρ,Hf,b,R,e1,fun H1 Hf1 R1 s1 t1=>?_⟩
  cases b with
  | true=>exact MA ⟨H₀,Hf₀,ρ,Hf1,d,R1,e2,fun H2 Hf2 R2 s2 t2=>k _ _ R2 (s1.trans s2) (t1.trans t2)⟩
  | false=>cases e2; exact MB (k _ _ R1 s1 t1)
theorem MO (ha:DT X a ft) (hb:DW X (.BoolOp .Or (b :: uQ) pos) gt):DW X (.BoolOp .Or (a :: b :: uQ) pos) (orT ft gt) :=
 Hq (N0 ha hb) fun σ H Q ⟨H₀,Hf₀,ρ,Hf,d,R,q,k⟩=>by
  obtain ⟨b,e1,e2⟩:=vP q
  refine ⟨H₀,Hf₀,ρ,Hf,b,R,e1,fun H1 Hf1 R1 s1 t1=>?_⟩
  cases b with
  | false=>exact MB ⟨H₀,Hf₀,ρ,Hf1,d,R1,e2,fun H2 Hf2 R2 s2 t2=>k _ _ R2 (s1.trans s2) (t1.trans t2)⟩
  | true=>cases e2; exact MA (k _ _ R1 s1 t1)
theorem DW.dt (h:DW X e ft):DT X e ft:=PW.pt h
theorem MP (ha:DT X a ft):DT X (.UnaryOp .Not a pos) (FX ft) :=
 Xd (Fq ha) fun σ H Q ⟨H₀,Hf₀,ρ,Hf,d,R,q,k⟩=>by
  obtain ⟨b,e1,e2⟩:=vP q
  cases e2
  exact ⟨H₀,Hf₀,ρ,Hf,b,R,e1,fun H1 Hf1 R1 s1 t1=>k _ _ R1 s1 t1⟩
def orV (f g:FE):FE:=fun ρ=>(f ρ).bind fun | .bl b=>(if b=true then some (.bl true) else g ρ) | _=>none
theorem ya {α:Type} {f:FE} {k:D->Option α} {ρ:Rho} {r:α} (h:(f ρ).bind k=some r):∃ b,f ρ=some b/\k b=some r:=by
 cases hf:f ρ with
 | none=>rw [hf] at h; cases h
 | some x=>rw [hf] at h; exact ⟨x,rfl,h⟩
theorem Pu {op} (h:DE X a f):DE X (.BoolOp op [a] pos) f:=Fy h
theorem RJ (ha:DE X a f) (hb:DE X (.BoolOp .Or (b :: uQ) pos) g):DE X (.BoolOp .Or (a :: b :: uQ) pos) (orV f g) :=
 yP (N5 ha hb) fun σ H Q ⟨H₀,Hf₀,ρ,Hf,d,R,q,k⟩=>by
  obtain ⟨x,e1,e2⟩:=ya q
  cases x <;> try cases e2
  rename_i b
  refine ⟨H₀,Hf₀,ρ,Hf,_,R,e1,fun v H1 Hf1 R1 s1 t1 h1=>⟨b,Has.bl_iff.mp h1,?_⟩⟩
  cases b with
  | false=>exact MB ⟨H₀,Hf₀,ρ,Hf1,d,R1,e2,fun v H2 Hf2 R2 s2 t2 h2=>k _ _ _ R2 (s1.trans s2) (t1.trans t2) h2⟩
  | true=>cases e2; exact MA (k _ _ _ R1 s1 t1 (Has.bl_iff.mpr rfl))
end
mutual
def eqD:D->D->Bool
 | .non,.non=>true
 | .bl a,.bl b=>a==b
 | .bl a,.int b=>(if a then 1 else 0)==b
 | .int a,.bl b=>a==(if b then 1 else 0)
 | .int a,.int b=>a==b
 | .str a,.str b=>a==b
 | .tup a,.tup b=>VF a b
 | .lst a,.lst b=>VF a b
 | _,_=>false
def VF:List D->List D->Bool
 | [],[]=>true
 | x :: xs,y :: ys=>eqD x y&&VF xs ys
 | _,_=>false
end
mutual
def dep:D->Nat
 | .tup a=>qS a+1
 | .lst a=>qS a+1
 | _=>0
def qS:List D->Nat
 | []=>0
 | x :: xs=>max (dep x) (qS xs)
end
theorem WL {l:List D} {k:Nat} (h:∀ d∈l,dep d<=k):qS l<=k:=by
 induction l with
 | nil=>simp [qS]
 | cons x xs ih =>
  unfold qS
  exact Nat.max_le.mpr ⟨h x g0i,ih fun d hd=>h d (g0m _ hd)⟩
mutual
theorem qF:∀ d:D,eqD d d=true
 | .non=>by simp [eqD]
 | .bl b=>by simp [eqD]
 | .int i=>by simp [eqD]
 | .str x=>by simp [eqD]
 | .tup ds=>by unfold eqD; exact kN ds
 | .lst ds=>by unfold eqD; exact kN ds
theorem kN:∀ ds:List D,VF ds ds=true
 | []=>by simp [VF]
 | d :: ds=>by unfold VF; rw [qF d,kN ds]; rfl
end
theorem qd:∀ (xs ys:List D),VF xs ys=((g0t (min xs.length ys.length)).all (fun j=>eqD (xs.getD j .non) (ys.getD j .non))&&xs.length==ys.length)
 | [],[]=>by simp [VF]
 | [],y :: ys=>by simp [VF]
 | x :: xs,[]=>by simp [VF]
 | x :: xs,y :: ys=>by
  unfold VF
  rw [qd xs ys]
  have e:min (x :: xs).length (y :: ys).length=min xs.length ys.length+1:=by simp only [g0e]; omega
  rw [e,g2l,List.all_cons,List.all_map]
  simp [Function.comp_def,Bool.and_assoc]
section
variable {X:Cx} {pins:List (Addr×Obj)} {σ:St} {H Hf:Hp} {s:Shared}
mutual
theorem Has.inj (I:Inv X pins σ H s):∀ {d d':D} {v:V},Has X.K H d v->Has X.K H d' v->d=d'
 | .non,d',v,h,h'=>by
  rw [Has.non_iff] at h; subst h
  cases d' with
  | non=>rfl
  | bl b=>cases Has.bl_iff.mp h'
  | int b=>cases Has.int_iff.mp h'
  | str b=>cases Has.str_iff.mp h'
  | tup b=>obtain ⟨_,_,e,_⟩:=Has.tup_iff.mp h'; cases e
  | lst b=>obtain ⟨_,_,e,_⟩:=Has.lst_iff.mp h'; cases e
 | .bl x,d',v,h,h'=>by
  rw [Has.bl_iff] at h; subst h
  cases d' with
  | non=>cases Has.non_iff.mp h'
  | bl b=>cases Has.bl_iff.mp h'; rfl
  | int b=>cases Has.int_iff.mp h'
  | str b=>cases Has.str_iff.mp h'
  | tup b=>obtain ⟨_,_,e,_⟩:=Has.tup_iff.mp h'; cases e
  | lst b=>obtain ⟨_,_,e,_⟩:=Has.lst_iff.mp h'; cases e
 | .int x,d',v,h,h'=>by
  rw [Has.int_iff] at h; subst h
  cases d' with
  | non=>cases Has.non_iff.mp h'
  | bl b=>cases Has.bl_iff.mp h'
  | int b=>cases Has.int_iff.mp h'; rfl
  | str b=>cases Has.str_iff.mp h'
  | tup b=>obtain ⟨_,_,e,_⟩:=Has.tup_iff.mp h'; cases e
  | lst b=>obtain ⟨_,_,e,_⟩:=Has.lst_iff.mp h'; cases e
 | .str x,d',v,h,h'=>by
  rw [Has.str_iff] at h; subst h
  cases d' with
  | non=>cases Has.non_iff.mp h'
  | bl b=>cases Has.bl_iff.mp h'
  | int b=>cases Has.int_iff.mp h'
  | str b=>cases Has.str_iff.mp h'; rfl
  | tup b=>obtain ⟨_,_,e,_⟩:=Has.tup_iff.mp h'; cases e
  | lst b=>obtain ⟨_,_,e,_⟩:=Has.lst_iff.mp h'; cases e
 | .tup x,d',v,h,h'=>by
  obtain ⟨a,xs,rfl,qa,la⟩:=Has.tup_iff.mp h
  cases d' with
  | non=>cases Has.non_iff.mp h'
  | bl b=>cases Has.bl_iff.mp h'
  | int b=>cases Has.int_iff.mp h'
  | str b=>cases Has.str_iff.mp h'
  | tup b =>
   obtain ⟨a',ys,e,qb,lb⟩:=Has.tup_iff.mp h'
   cases e
   cases I.tuple_inj qa qb
   rw [zZ.inj I la lb]
  | lst b =>
   obtain ⟨a',ys,e,qb,lb⟩:=Has.lst_iff.mp h'
   cases e
   obtain ⟨its,_,p1,_⟩:=I.tuple qa
   obtain ⟨its',_,p2,_⟩:=I.list qb
   exact absurd rfl (SeqAt.ne_of_list_tuple p2.isList p1)
 | .lst x,d',v,h,h'=>by
  obtain ⟨a,xs,rfl,qa,la⟩:=Has.lst_iff.mp h
  cases d' with
  | non=>cases Has.non_iff.mp h'
  | bl b=>cases Has.bl_iff.mp h'
  | int b=>cases Has.int_iff.mp h'
  | str b=>cases Has.str_iff.mp h'
  | lst b =>
   obtain ⟨a',ys,e,qb,lb⟩:=Has.lst_iff.mp h'
   cases e
   cases I.list_inj qa qb
   rw [zZ.inj I la lb]
  | tup b =>
   obtain ⟨a',ys,e,qb,lb⟩:=Has.tup_iff.mp h'
   cases e
   obtain ⟨its,_,p1,_⟩:=I.tuple qb
   obtain ⟨its',_,p2,_⟩:=I.list qa
   exact absurd rfl (SeqAt.ne_of_list_tuple p2.isList p1)
theorem zZ.inj (I:Inv X pins σ H s):∀ {ds ds':List D} {xs:List V},zZ X.K H ds xs->zZ X.K H ds' xs->ds=ds'
 | [],ds',xs,h,h'=>by
  rw [zZ.nil_iff] at h; subst h
  cases ds' with
  | nil=>rfl
  | cons d r=>obtain ⟨_,_,e,_⟩:=zZ.cons_iff.mp h'; cases e
 | d :: ds,ds',xs,h,h'=>by
  obtain ⟨x,r,rfl,h1,h2⟩:=zZ.cons_iff.mp h
  cases ds' with
  | nil=>rw [zZ.nil_iff] at h'; cases h'
  | cons d' r' =>
   obtain ⟨x',r'',e,h1',h2'⟩:=zZ.cons_iff.mp h'
   cases e
   rw [Has.inj I h1 h1',zZ.inj I h2 h2']
end
open SeqAt in
mutual
theorem Ju (I:Inv X pins σ H s):∀ (d:D) (A:Around) (d':D) (v v':V) (u u':Value),Has X.K H d v->Has X.K H d' v'->xm v u->xm v' u'->A.units+dep d < cLine->EqAt A s u u' (eqD d d')
 | .non,A,d',v,v',u,u',h,h',r,r',hu=>by
  have hu:A.units < cLine:=by omega
  rw [Has.non_iff] at h; subst h
  cases r
  cases d' with
  | non=>rw [Has.non_iff] at h'; subst h'; cases r'; exact EqAt.same _
  | bl b=>rw [Has.bl_iff] at h'; subst h'; cases r'; exact EqAt.none_bool _
  | int b=>rw [Has.int_iff] at h'; subst h'; obtain ⟨t,rfl⟩:=r'; exact EqAt.none_int _ _
  | str b=>rw [Has.str_iff] at h'; subst h'; obtain ⟨t,rfl⟩:=r'; exact EqAt.none_str _ _
  | tup b=>obtain ⟨a,xs,rfl,q,_⟩:=Has.tup_iff.mp h'; cases r'; obtain ⟨its,_,p,_⟩:=I.tuple q; exact EqAt.none_tuple p hu
  | lst b=>obtain ⟨a,xs,rfl,q,_⟩:=Has.lst_iff.mp h'; cases r'; obtain ⟨its,_,p,_⟩:=I.list q; exact EqAt.none_list p.isList hu
 | .bl x,A,d',v,v',u,u',h,h',r,r',hu=>by
  have hu:A.units < cLine:=by omega
  rw [Has.bl_iff] at h; subst h
  cases r
  cases d' with
  | non=>rw [Has.non_iff] at h'; subst h'; cases r'; exact EqAt.bool_none _
  | bl b=>rw [Has.bl_iff] at h'; subst h'; cases r'; exact EqAt.bool_bool _ _
  | int b=>rw [Has.int_iff] at h'; subst h'; obtain ⟨t,rfl⟩:=r'; exact EqAt.bool_int _ _ _
  | str b=>rw [Has.str_iff] at h'; subst h'; obtain ⟨t,rfl⟩:=r'; exact EqAt.bool_str _ _ _
  | tup b=>obtain ⟨a,xs,rfl,q,_⟩:=Has.tup_iff.mp h'; cases r'; obtain ⟨its,_,p,_⟩:=I.tuple q; exact EqAt.bool_tuple _ p hu
  | lst b=>obtain ⟨a,xs,rfl,q,_⟩:=Has.lst_iff.mp h'; cases r'; obtain ⟨its,_,p,_⟩:=I.list q; exact EqAt.bool_list _ p.isList hu
 | .int x,A,d',v,v',u,u',h,h',r,r',hu=>by
  have hu:A.units < cLine:=by omega
  rw [Has.int_iff] at h; subst h
  obtain ⟨t,rfl⟩:=r
  cases d' with
  | non=>rw [Has.non_iff] at h'; subst h'; cases r'; exact EqAt.int_none _ _
  | bl b=>rw [Has.bl_iff] at h'; subst h'; cases r'; exact EqAt.int_bool _ _ _
  | int b=>rw [Has.int_iff] at h'; subst h'; obtain ⟨t,rfl⟩:=r'; exact EqAt.int_int _ _ _ _
  | str b=>rw [Has.str_iff] at h'; subst h'; obtain ⟨t,rfl⟩:=r'; exact EqAt.int_str _ _ _ _
  | tup b=>obtain ⟨a,xs,rfl,q,_⟩:=Has.tup_iff.mp h'; cases r'; obtain ⟨its,_,p,_⟩:=I.tuple q; exact EqAt.int_tuple _ _ p hu
  | lst b=>obtain ⟨a,xs,rfl,q,_⟩:=Has.lst_iff.mp h'; cases r'; obtain ⟨its,_,p,_⟩:=I.list q; exact EqAt.int_list _ _ p.isList hu
 | .str x,A,d',v,v',u,u',h,h',r,r',hu=>by
  have hu:A.units < cLine:=by omega
  rw [Has.str_iff] at h; subst h
  obtain ⟨t,rfl⟩:=r
  cases d' with
  | non=>rw [Has.non_iff] at h'; subst h'; cases r'; exact EqAt.str_none _ _
  | bl b=>rw [Has.bl_iff] at h'; subst h'; cases r'; exact EqAt.str_bool _ _ _
  | int b=>rw [Has.int_iff] at h'; subst h'; obtain ⟨t,rfl⟩:=r'; exact EqAt.str_int _ _ _ _
  | str b=>rw [Has.str_iff] at h'; subst h'; obtain ⟨t,rfl⟩:=r'; exact EqAt.str_str _ _ _ _
  | tup b=>obtain ⟨a,xs,rfl,q,_⟩:=Has.tup_iff.mp h'; cases r'; obtain ⟨its,_,p,_⟩:=I.tuple q; exact EqAt.str_tuple _ _ p hu
  | lst b=>obtain ⟨a,xs,rfl,q,_⟩:=Has.lst_iff.mp h'; cases r'; obtain ⟨its,_,p,_⟩:=I.list q; exact EqAt.str_list _ _ p.isList hu
 | .tup x,A,d',v,v',u,u',h,h',r,r',hu=>by
  have hu0:A.units < cLine:=by omega
  obtain ⟨a,xs,rfl,q,l⟩:=Has.tup_iff.mp h
  cases r
  obtain ⟨its,rv,p,_⟩:=I.tuple q
  cases d' with
  | non=>rw [Has.non_iff] at h'; subst h'; cases r'; exact EqAt.tuple_none p hu0
  | bl b=>rw [Has.bl_iff] at h'; subst h'; cases r'; exact EqAt.tuple_bool _ p hu0
  | int b=>rw [Has.int_iff] at h'; subst h'; obtain ⟨t,rfl⟩:=r'; exact EqAt.tuple_int _ _ p hu0
  | str b=>rw [Has.str_iff] at h'; subst h'; obtain ⟨t,rfl⟩:=r'; exact EqAt.tuple_str _ _ p hu0
  | tup y =>
   obtain ⟨b,ys,rfl,q',l'⟩:=Has.tup_iff.mp h'
   cases r'
   obtain ⟨its',rv',p',_⟩:=I.tuple q'
   by_cases hab:a=b
   ·subst hab
    cases Has.inj I h h'
    rw [qF]
    exact EqAt.same _
   ·refine EqAt.of_refs hab ?_
    have e:=RcAt.tuples (A:=A) (e:=fun j=>eqD (x.getD j .non) (y.getD j .non)) p p' hu0 (fun j h1 h2=>v8 I x A.in1 y xs ys its its' l l' rv rv' (by show A.units+1+_ < cLine; unfold dep at hu; omega) j (by simpa using h1) (by simpa using h2))
    unfold eqD
    rw [qd,<- l.length,<- l'.length,rv.length,rv'.length]
    simpa using e
  | lst y=>obtain ⟨b,ys,rfl,q',l'⟩:=Has.lst_iff.mp h'; cases r'; obtain ⟨its',_,p',_⟩:=I.list q'; exact EqAt.tuple_list p p'.isList hu0
 | .lst x,A,d',v,v',u,u',h,h',r,r',hu=>by
  have hu0:A.units < cLine:=by omega
  obtain ⟨a,xs,rfl,q,l⟩:=Has.lst_iff.mp h
  cases r
  obtain ⟨its,rv,p,_⟩:=I.list q
  cases d' with
  | non=>rw [Has.non_iff] at h'; subst h'; cases r'; exact EqAt.list_none p.isList hu0
  | bl b=>rw [Has.bl_iff] at h'; subst h'; cases r'; exact EqAt.list_bool _ p.isList hu0
  | int b=>rw [Has.int_iff] at h'; subst h'; obtain ⟨t,rfl⟩:=r'; exact EqAt.list_int _ _ p.isList hu0
  | str b=>rw [Has.str_iff] at h'; subst h'; obtain ⟨t,rfl⟩:=r'; exact EqAt.list_str _ _ p.isList hu0
  | lst y =>
   obtain ⟨b,ys,rfl,q',l'⟩:=Has.lst_iff.mp h'
   cases r'
   obtain ⟨its',rv',p',_⟩:=I.list q'
   by_cases hab:a=b
   ·subst hab
    cases Has.inj I h h'
    rw [qF]
    exact EqAt.same _
   ·refine EqAt.of_refs hab ?_
    unfold eqD
    rw [qd,<- l.length,<- l'.length,rv.length,rv'.length]
    by_cases hl:its.length=its'.length
    ·have e:=RcAt.lists (A:=A) (e:=fun j=>eqD (x.getD j .non) (y.getD j .non)) p.isList p'.isList (by simpa using hl) hu0 (fun j h1 h2=>v8 I x A.in1 y xs ys its its' l l' rv rv' (by show A.units+1+_ < cLine; unfold dep at hu; omega) j (by simpa using h1) (by simpa using h2))
     rw [<- hl,Nat.min_self]
     simpa using e
    ·have e:=RcAt.lists_lengths (A:=A) p.isList p'.isList (by simpa using hl) hu0
     have:(its.length==its'.length)=false:=by simpa using hl
     rw [this,Bool.and_false]
     exact e
  | tup y=>obtain ⟨b,ys,rfl,q',l'⟩:=Has.tup_iff.mp h'; cases r'; obtain ⟨its',_,p',_⟩:=I.tuple q'; exact EqAt.list_tuple p.isList p' hu0
theorem v8 (I:Inv X pins σ H s):∀ (ds:List D) (A:Around) (ds':List D) (xs ys:List V) (us us':List Value),zZ X.K H ds xs->zZ X.K H ds' ys->xh xs us->xh ys us'->A.units+qS ds < cLine →
  ∀ (j:Nat) (h1:j < us.length) (h2:j < us'.length),EqAt A s us[j] us'[j] (eqD (ds.getD j .non) (ds'.getD j .non))
 | [],A,ds',xs,ys,us,us',l,l',r,r',hu,j,h1,h2=>by
  rw [zZ.nil_iff] at l; subst l
  cases r
  simp at h1
 | d :: ds,A,ds',xs,ys,us,us',l,l',r,r',hu,j,h1,h2=>by
  obtain ⟨x,xr,rfl,hx,hr⟩:=zZ.cons_iff.mp l
  cases ds' with
  | nil =>
   rw [zZ.nil_iff] at l'; subst l'
   cases r'
   simp at h2
  | cons d' ds' =>
   obtain ⟨y,yr,rfl,hy,hyr⟩:=zZ.cons_iff.mp l'
   cases r with
   | cons r rr =>
    cases r' with
    | cons r' rr' =>
     unfold qS at hu
     cases j with
     | zero=>exact Ju I d A d' _ _ _ _ hx hy r r' (by have:=Nat.le_max_left (dep d) (qS ds); omega)
     | succ j=>exact v8 I ds A ds' _ _ _ _ hr hyr rr rr' (by have:=Nat.le_max_right (dep d) (qS ds); omega) j (by simpa using h1) (by simpa using h2)
end
open SeqAt in
theorem BD (I:Inv X pins σ H s) (d:D) (A:Around) (d':D) (v v':V) (u u':Value) (h:Has X.K H d v) (h':Has X.K H d' v') (r:xm v u) (r':xm v' u') (hu:A.units+dep d < cLine):RcAt A s u u' (eqD d d'):=by
 have hu0:A.units < cLine:=by omega
 cases d with
 | non =>
  rw [Has.non_iff] at h; subst h
  cases r
  cases d' with
  | non=>rw [Has.non_iff] at h'; subst h'; cases r'; exact RcAt.none_none
  | bl b=>rw [Has.bl_iff] at h'; subst h'; cases r'; exact RcAt.none_bool _
  | int b=>rw [Has.int_iff] at h'; subst h'; obtain ⟨t,rfl⟩:=r'; exact RcAt.none_int _ _
  | str b=>rw [Has.str_iff] at h'; subst h'; obtain ⟨t,rfl⟩:=r'; exact RcAt.none_str _ _
  | tup b=>obtain ⟨a,xs,rfl,q,_⟩:=Has.tup_iff.mp h'; cases r'; obtain ⟨its,_,p,_⟩:=I.tuple q; exact RcAt.none_tuple p hu0
  | lst b=>obtain ⟨a,xs,rfl,q,_⟩:=Has.lst_iff.mp h'; cases r'; obtain ⟨its,_,p,_⟩:=I.list q; exact RcAt.none_list p.isList hu0
 | bl x =>
  rw [Has.bl_iff] at h; subst h
  cases r
  cases d' with
  | non=>rw [Has.non_iff] at h'; subst h'; cases r'; exact RcAt.bool_none _
  | bl b=>rw [Has.bl_iff] at h'; subst h'; cases r'; exact RcAt.bool_bool _ _
  | int b=>rw [Has.int_iff] at h'; subst h'; obtain ⟨t,rfl⟩:=r'; exact RcAt.bool_int _ _ _
  | str b=>rw [Has.str_iff] at h'; subst h'; obtain ⟨t,rfl⟩:=r'; exact RcAt.bool_str _ _ _
  | tup b=>obtain ⟨a,xs,rfl,q,_⟩:=Has.tup_iff.mp h'; cases r'; obtain ⟨its,_,p,_⟩:=I.tuple q; exact RcAt.bool_tuple _ p hu0
  | lst b=>obtain ⟨a,xs,rfl,q,_⟩:=Has.lst_iff.mp h'; cases r'; obtain ⟨its,_,p,_⟩:=I.list q; exact RcAt.bool_list _ p.isList hu0
 | int x =>
  rw [Has.int_iff] at h; subst h
  obtain ⟨t,rfl⟩:=r
  cases d' with
  | non=>rw [Has.non_iff] at h'; subst h'; cases r'; exact RcAt.int_none _ _
  | bl b=>rw [Has.bl_iff] at h'; subst h'; cases r'; exact RcAt.int_bool _ _ _
  | int b=>rw [Has.int_iff] at h'; subst h'; obtain ⟨t,rfl⟩:=r'; exact RcAt.int_int _ _ _ _
  | str b=>rw [Has.str_iff] at h'; subst h'; obtain ⟨t,rfl⟩:=r'; exact RcAt.int_str _ _ _ _
  | tup b=>obtain ⟨a,xs,rfl,q,_⟩:=Has.tup_iff.mp h'; cases r'; obtain ⟨its,_,p,_⟩:=I.tuple q; exact RcAt.int_tuple _ _ p hu0
  | lst b=>obtain ⟨a,xs,rfl,q,_⟩:=Has.lst_iff.mp h'; cases r'; obtain ⟨its,_,p,_⟩:=I.list q; exact RcAt.int_list _ _ p.isList hu0
 | str x =>
  rw [Has.str_iff] at h; subst h
  obtain ⟨t,rfl⟩:=r
  cases d' with
  | non=>rw [Has.non_iff] at h'; subst h'; cases r'; exact RcAt.str_none _ _
  | bl b=>rw [Has.bl_iff] at h'; subst h'; cases r'; exact RcAt.str_bool _ _ _
  | int b=>rw [Has.int_iff] at h'; subst h'; obtain ⟨t,rfl⟩:=r'; exact RcAt.str_int _ _ _ _
  | str b=>rw [Has.str_iff] at h'; subst h'; obtain ⟨t,rfl⟩:=r'; exact RcAt.str_str _ _ _ _
  | tup b=>obtain ⟨a,xs,rfl,q,_⟩:=Has.tup_iff.mp h'; cases r'; obtain ⟨its,_,p,_⟩:=I.tuple q; exact RcAt.str_tuple _ _ p hu0
  | lst b=>obtain ⟨a,xs,rfl,q,_⟩:=Has.lst_iff.mp h'; cases r'; obtain ⟨its,_,p,_⟩:=I.list q; exact RcAt.str_list _ _ p.isList hu0
 | tup x =>
  obtain ⟨a,xs,rfl,q,l⟩:=Has.tup_iff.mp h
  cases r
  obtain ⟨its,rv,p,_⟩:=I.tuple q
  cases d' with
  | non=>rw [Has.non_iff] at h'; subst h'; cases r'; exact RcAt.tuple_none p hu0
  | bl b=>rw [Has.bl_iff] at h'; subst h'; cases r'; exact RcAt.tuple_bool _ p hu0
  | int b=>rw [Has.int_iff] at h'; subst h'; obtain ⟨t,rfl⟩:=r'; exact RcAt.tuple_int _ _ p hu0
  | str b=>rw [Has.str_iff] at h'; subst h'; obtain ⟨t,rfl⟩:=r'; exact RcAt.tuple_str _ _ p hu0
  | tup y =>
   obtain ⟨b,ys,rfl,q',l'⟩:=Has.tup_iff.mp h'
   cases r'
   obtain ⟨its',rv',p',_⟩:=I.tuple q'
   have e:=RcAt.tuples (A:=A) (e:=fun j=>eqD (x.getD j .non) (y.getD j .non)) p p' hu0 (fun j h1 h2=>v8 I x A.in1 y xs ys its its' l l' rv rv' (by show A.units+1+_ < cLine; unfold dep at hu; omega) j (by simpa using h1) (by simpa using h2))
   unfold eqD
   rw [qd,<- l.length,<- l'.length,rv.length,rv'.length]
   simpa using e
  | lst y=>obtain ⟨b,ys,rfl,q',l'⟩:=Has.lst_iff.mp h'; cases r'; obtain ⟨its',_,p',_⟩:=I.list q'; exact RcAt.tuple_list p p'.isList hu0
 | lst x =>
  obtain ⟨a,xs,rfl,q,l⟩:=Has.lst_iff.mp h
  cases r
  obtain ⟨its,rv,p,_⟩:=I.list q
  cases d' with
  | non=>rw [Has.non_iff] at h'; subst h'; cases r'; exact RcAt.list_none p.isList hu0
  | bl b=>rw [Has.bl_iff] at h'; subst h'; cases r'; exact RcAt.list_bool _ p.isList hu0
  | int b=>rw [Has.int_iff] at h'; subst h'; obtain ⟨t,rfl⟩:=r'; exact RcAt.list_int _ _ p.isList hu0
  | str b=>rw [Has.str_iff] at h'; subst h'; obtain ⟨t,rfl⟩:=r'; exact RcAt.list_str _ _ p.isList hu0
  | lst y =>
   obtain ⟨b,ys,rfl,q',l'⟩:=Has.lst_iff.mp h'
   cases r'
   obtain ⟨its',rv',p',_⟩:=I.list q'
   unfold eqD
   rw [qd,<- l.length,<- l'.length,rv.length,rv'.length]
   by_cases hl:its.length=its'.length
   ·have e:=RcAt.lists (A:=A) (e:=fun j=>eqD (x.getD j .non) (y.getD j .non)) p.isList p'.isList (by simpa using hl) hu0 (fun j h1 h2=>v8 I x A.in1 y xs ys its its' l l' rv rv' (by show A.units+1+_ < cLine; unfold dep at hu; omega) j (by simpa using h1) (by simpa using h2))
    rw [<- hl,Nat.min_self]
    simpa using e
   ·have e:=RcAt.lists_lengths (A:=A) p.isList p'.isList (by simpa using hl) hu0
    have:(its.length==its'.length)=false:=by simpa using hl
    rw [this,Bool.and_false]
    exact e
  | tup y=>obtain ⟨b,ys,rfl,q',l'⟩:=Has.tup_iff.mp h'; cases r'; obtain ⟨its',_,p',_⟩:=I.tuple q'; exact RcAt.list_tuple p.isList p' hu0
open SeqAt in
theorem BC (I:Inv X pins σ H s) (d:D) (A:Around) (d':D) (v v':V) (u u':Value) (h:Has X.K H d v) (h':Has X.K H d' v') (r:xm v u) (r':xm v' u') (hu:A.units+dep d < cLine):RcNeAt A s u u' (!eqD d d'):=by
 have hu0:A.units < cLine:=by omega
 cases d with
 | non =>
  rw [Has.non_iff] at h; subst h
  cases r
  cases d' with
  | non=>rw [Has.non_iff] at h'; subst h'; cases r'; exact RcNeAt.none_none
  | bl b=>rw [Has.bl_iff] at h'; subst h'; cases r'; exact RcNeAt.none_bool _
  | int b=>rw [Has.int_iff] at h'; subst h'; obtain ⟨t,rfl⟩:=r'; exact RcNeAt.none_int _ _
  | str b=>rw [Has.str_iff] at h'; subst h'; obtain ⟨t,rfl⟩:=r'; exact RcNeAt.none_str _ _
  | tup b=>obtain ⟨a,xs,rfl,q,_⟩:=Has.tup_iff.mp h'; cases r'; obtain ⟨its,_,p,_⟩:=I.tuple q; exact RcNeAt.none_tuple p hu0
  | lst b=>obtain ⟨a,xs,rfl,q,_⟩:=Has.lst_iff.mp h'; cases r'; obtain ⟨its,_,p,_⟩:=I.list q; exact RcNeAt.none_list p.isList hu0
 | bl x =>
  rw [Has.bl_iff] at h; subst h
  cases r
  cases d' with
  | non=>rw [Has.non_iff] at h'; subst h'; cases r'; exact RcNeAt.bool_none _
  | bl b=>rw [Has.bl_iff] at h'; subst h'; cases r'; exact RcNeAt.bool_bool _ _
  | int b=>rw [Has.int_iff] at h'; subst h'; obtain ⟨t,rfl⟩:=r'; exact RcNeAt.bool_int _ _ _
  | str b=>rw [Has.str_iff] at h'; subst h'; obtain ⟨t,rfl⟩:=r'; exact RcNeAt.bool_str _ _ _
  | tup b=>obtain ⟨a,xs,rfl,q,_⟩:=Has.tup_iff.mp h'; cases r'; obtain ⟨its,_,p,_⟩:=I.tuple q; exact RcNeAt.bool_tuple _ p hu0
  | lst b=>obtain ⟨a,xs,rfl,q,_⟩:=Has.lst_iff.mp h'; cases r'; obtain ⟨its,_,p,_⟩:=I.list q; exact RcNeAt.bool_list _ p.isList hu0
 | int x =>
  rw [Has.int_iff] at h; subst h
  obtain ⟨t,rfl⟩:=r
  cases d' with
  | non=>rw [Has.non_iff] at h'; subst h'; cases r'; exact RcNeAt.int_none _ _
  | bl b=>rw [Has.bl_iff] at h'; subst h'; cases r'; exact RcNeAt.int_bool _ _ _
  | int b=>rw [Has.int_iff] at h'; subst h'; obtain ⟨t,rfl⟩:=r'; exact RcNeAt.int_int _ _ _ _
  | str b=>rw [Has.str_iff] at h'; subst h'; obtain ⟨t,rfl⟩:=r'; exact RcNeAt.int_str _ _ _ _
  | tup b=>obtain ⟨a,xs,rfl,q,_⟩:=Has.tup_iff.mp h'; cases r'; obtain ⟨its,_,p,_⟩:=I.tuple q; exact RcNeAt.int_tuple _ _ p hu0
  | lst b=>obtain ⟨a,xs,rfl,q,_⟩:=Has.lst_iff.mp h'; cases r'; obtain ⟨its,_,p,_⟩:=I.list q; exact RcNeAt.int_list _ _ p.isList hu0
 | str x =>
  rw [Has.str_iff] at h; subst h
  obtain ⟨t,rfl⟩:=r
  cases d' with
  | non=>rw [Has.non_iff] at h'; subst h'; cases r'; exact RcNeAt.str_none _ _
  | bl b=>rw [Has.bl_iff] at h'; subst h'; cases r'; exact RcNeAt.str_bool _ _ _
  | int b=>rw [Has.int_iff] at h'; subst h'; obtain ⟨t,rfl⟩:=r'; exact RcNeAt.str_int _ _ _ _
  | str b=>rw [Has.str_iff] at h'; subst h'; obtain ⟨t,rfl⟩:=r'; exact RcNeAt.str_str _ _ _ _
  | tup b=>obtain ⟨a,xs,rfl,q,_⟩:=Has.tup_iff.mp h'; cases r'; obtain ⟨its,_,p,_⟩:=I.tuple q; exact RcNeAt.str_tuple _ _ p hu0
  | lst b=>obtain ⟨a,xs,rfl,q,_⟩:=Has.lst_iff.mp h'; cases r'; obtain ⟨its,_,p,_⟩:=I.list q; exact RcNeAt.str_list _ _ p.isList hu0
 | tup x =>
  obtain ⟨a,xs,rfl,q,l⟩:=Has.tup_iff.mp h
  cases r
  obtain ⟨its,rv,p,_⟩:=I.tuple q
  cases d' with
  | non=>rw [Has.non_iff] at h'; subst h'; cases r'; exact RcNeAt.tuple_none p hu0
  | bl b=>rw [Has.bl_iff] at h'; subst h'; cases r'; exact RcNeAt.tuple_bool _ p hu0
  | int b=>rw [Has.int_iff] at h'; subst h'; obtain ⟨t,rfl⟩:=r'; exact RcNeAt.tuple_int _ _ p hu0
  | str b=>rw [Has.str_iff] at h'; subst h'; obtain ⟨t,rfl⟩:=r'; exact RcNeAt.tuple_str _ _ p hu0
  | tup y =>
   obtain ⟨b,ys,rfl,q',l'⟩:=Has.tup_iff.mp h'
   cases r'
   obtain ⟨its',rv',p',_⟩:=I.tuple q'
   have e:=RcNeAt.tuples (A:=A) (e:=fun j=>eqD (x.getD j .non) (y.getD j .non)) p p' hu0 (fun j h1 h2=>v8 I x A.in1 y xs ys its its' l l' rv rv' (by show A.units+1+_ < cLine; unfold dep at hu; omega) j (by simpa using h1) (by simpa using h2))
   unfold eqD
   rw [qd,<- l.length,<- l'.length,rv.length,rv'.length]
   simpa using e
  | lst y=>obtain ⟨b,ys,rfl,q',l'⟩:=Has.lst_iff.mp h'; cases r'; obtain ⟨its',_,p',_⟩:=I.list q'; exact RcNeAt.tuple_list p p'.isList hu0
 | lst x =>
  obtain ⟨a,xs,rfl,q,l⟩:=Has.lst_iff.mp h
  cases r
  obtain ⟨its,rv,p,_⟩:=I.list q
  cases d' with
  | non=>rw [Has.non_iff] at h'; subst h'; cases r'; exact RcNeAt.list_none p.isList hu0
  | bl b=>rw [Has.bl_iff] at h'; subst h'; cases r'; exact RcNeAt.list_bool _ p.isList hu0
  | int b=>rw [Has.int_iff] at h'; subst h'; obtain ⟨t,rfl⟩:=r'; exact RcNeAt.list_int _ _ p.isList hu0
  | str b=>rw [Has.str_iff] at h'; subst h'; obtain ⟨t,rfl⟩:=r'; exact RcNeAt.list_str _ _ p.isList hu0
  | lst y =>
   obtain ⟨b,ys,rfl,q',l'⟩:=Has.lst_iff.mp h'
   cases r'
   obtain ⟨its',rv',p',_⟩:=I.list q'
   unfold eqD
   rw [qd,<- l.length,<- l'.length,rv.length,rv'.length]
   by_cases hl:its.length=its'.length
   ·have e:=RcNeAt.lists (A:=A) (e:=fun j=>eqD (x.getD j .non) (y.getD j .non)) p.isList p'.isList (by simpa using hl) hu0 (fun j h1 h2=>v8 I x A.in1 y xs ys its its' l l' rv rv' (by show A.units+1+_ < cLine; unfold dep at hu; omega) j (by simpa using h1) (by simpa using h2))
    rw [<- hl,Nat.min_self]
    simpa using e
   ·have e:=RcNeAt.lists_lengths (A:=A) p.isList p'.isList (by simpa using hl) hu0
    have:(its.length==its'.length)=false:=by simpa using hl
    rw [this,Bool.and_false]
    exact e
  | tup y=>obtain ⟨b,ys,rfl,q',l'⟩:=Has.tup_iff.mp h'; cases r'; obtain ⟨its',_,p',_⟩:=I.tuple q'; exact RcNeAt.list_tuple p.isList p' hu0
end
theorem qh.full {K:W.Frag} {H₀ Hf₀ H Hf:Hp} {σ:St} {ρ:Rho} {d:D} {v:V} (h:qh K Hf σ ρ d v) (R:Rep K H₀ Hf₀ σ ρ H Hf):Has K H d v:=by
 rcases h with h | ⟨i,ds,rfl,e1,e2⟩
 ·exact h.mono R.sf
 ·obtain ⟨a,p1,⟨xs,p2,p3⟩,_⟩:=R.ow i _ e1 rfl
  rw [e2] at p1; cases p1
  exact Has.lst_iff.mpr ⟨a,xs,rfl,SqL.of p2,p3.mono R.sf⟩
section
variable {X:Cx} {e a b c:Expr} {es:List Expr} {f g h:FE} {fa ga:FA} {ft gt:FT} {pos:Pos} {t t':TE} {kk:Nat}
def P0 (K:W.Frag):R2:=fun x y H Q=>∃ d d',Has K H d x/\Has K H d' y/\dep d<=100/\Q (.bl (eqD d d')) H
def PV (K:W.Frag):R2:=fun x y H Q=>∃ d d',Has K H d x/\Has K H d' y/\dep d<=100/\Q (.bl (!eqD d d')) H
theorem Hy (hr:Room kk X.A):OpR X (compareOp .Eq) (P0 X.K):=by
 intro pins s σ H x y v u Q I rx ry h
 obtain ⟨d,d',h1,h2,h3,q⟩:=h
 exact BD I d X.A d' x y v u h1 h2 rx ry (by have:=hr.un; omega) X.prog X.w X.xe _ ⟨.bl _,H,I,rfl,q⟩
theorem Hx (hr:Room kk X.A):OpR X (compareOp .NotEq) (PV X.K):=by
 intro pins s σ H x y v u Q I rx ry h
 obtain ⟨d,d',h1,h2,h3,q⟩:=h
 exact BC I d X.A d' x y v u h1 h2 rx ry (by have:=hr.un; omega) X.prog X.w X.xe _ ⟨.bl _,H,I,rfl,q⟩
def eqF:D->D->Option D:=fun x y=>if dep x<=100 then some (.bl (eqD x y)) else none
def neF:D->D->Option D:=fun x y=>if dep x<=100 then some (.bl (!eqD x y)) else none
theorem HC:OpD X (P0 X.K) eqF:=by
 intro σ ρ H₀ Hf₀ H Hf x y dx dy d Q R hx hy hφ k
 unfold eqF at hφ
 split at hφ
 ·cases hφ
  exact ⟨dx,dy,hx.full R,hy.full R,by assumption,k _ _ _ R zA zA (Has.bl_iff.mpr rfl)⟩
 ·cases hφ
theorem Hz:OpD X (PV X.K) neF:=by
 intro σ ρ H₀ Hf₀ H Hf x y dx dy d Q R hx hy hφ k
 unfold neF at hφ
 split at hφ
 ·cases hφ
  exact ⟨dx,dy,hx.full R,hy.full R,by assumption,k _ _ _ R zA zA (Has.bl_iff.mpr rfl)⟩
 ·cases hφ
theorem MZ (hr:Room kk X.A) (ha:DR X a f) (hb:DR X b g):DE X (.Compare a [.Eq] [b] pos) (zb eqF f g):=Dg (Hy hr) HC ha hb (u5 _)
theorem RK (hr:Room kk X.A) (ha:DR X a f) (hb:DR X b g):DE X (.Compare a [.NotEq] [b] pos) (zb neF f g):=Dg (Hx hr) Hz ha hb (u5 _)
theorem vN (hr:Room kk X.A) (ha:DR X a f) (hb:DR X b g):DT X (.Compare a [.Eq] [b] pos) (blF (zb eqF f g)):=xT (Hy hr) HC ha hb (u5 _)
theorem kO (hr:Room kk X.A) (ha:DR X a f) (hb:DR X b g):DT X (.Compare a [.NotEq] [b] pos) (blF (zb neF f g)):=xT (Hx hr) Hz ha hb (u5 _)
def FnR (X:Cx) (r:List V->Hp->VK->Prop) (φ:List D->Option D):Prop :=
 ∀ (σ:St) (ρ:Rho) (H₀ Hf₀ H Hf:Hp) (xs:List V) (ds:List D) (d:D) (Q:VK),Rep X.K H₀ Hf₀ σ ρ H Hf->qR X.K Hf σ ρ ds xs->φ ds=some d →
  (∀ v H' Hf',Rep X.K H₀ Hf₀ σ ρ H' Hf'->yf H H'->yf Hf Hf'->Has X.K Hf' d v->Q v H')->r xs H Q
def zY (φ:List D->Option D) (fa:FA):FE:=fun ρ=>(fa ρ).bind φ
theorem yj {α:Type} {f:FA} {k:List D->Option α} {ρ:Rho} {r:α} (h:(f ρ).bind k=some r):∃ b,f ρ=some b/\k b=some r:=by
 cases hf:f ρ with
 | none=>rw [hf] at h; cases h
 | some x=>rw [hf] at h; exact ⟨x,rfl,h⟩
theorem Hi {r:List V->Hp->VK->Prop} {φ:List D->Option D} (hφ:FnR X r φ) (σ:St) (H:Hp) (Q:VK) (hh:tF X.K (zY φ fa) σ H Q):tCB r (tAR X.K fa) σ H Q:=by
 obtain ⟨H₀,Hf₀,ρ,Hf,d,R,q,k⟩:=hh
 obtain ⟨ds,e1,e2⟩:=yj q
 exact ⟨H₀,Hf₀,ρ,Hf,ds,R,e1,fun vs H1 Hf1 R1 s1 t1 h1=>hφ σ ρ H₀ Hf₀ H1 Hf1 vs ds d Q R1 h1 e2 fun v H2 Hf2 R2 s2 t2 h2=>k _ _ _ R2 (s1.trans s2) (t1.trans t2) h2⟩
theorem yn {id:String} {x:Str} {p:Pos} {r:List V->Hp->VK->Prop} {φ:List D->Option D} (hc:wt X (.builtin id) r) (hφ:FnR X r φ) (hg:Gl X x) (hm:X.mg x=none) (hv:bootBuiltins x=some (.builtin id)) (ha:DAR X (e :: es) fa)
  (hn:x≠"__name__":=by decide) (hdb:(x==("__debug__":Str))=false:=by decide)
  (he:starEach (e :: es) X.env=(false,eval e X.env) :: starEach es X.env:=by rfl) (hpl:(backTo pos (starEach es X.env)).any (·.1)=false:=by rfl):DE X (.Call (.Name x p) (e :: es) [] pos) (zY φ fa) :=
 yP (Vc hc hg hm hv ha hn hdb he hpl) (Hi hφ)
theorem qJ {T:String} {x:Str} {p:Pos} {r:List V->Hp->VK->Prop} {φ:List D->Option D} (hc:wt X (.type T) r) (hφ:FnR X r φ) (hg:Gl X x) (hm:X.mg x=none) (hv:bootBuiltins x=some (.type T)) (ha:DAR X (e :: es) fa)
  (hn:x≠"__name__":=by decide) (hdb:(x==("__debug__":Str))=false:=by decide)
  (he:starEach (e :: es) X.env=(false,eval e X.env) :: starEach es X.env:=by rfl) (hpl:(backTo pos (starEach es X.env)).any (·.1)=false:=by rfl):DE X (.Call (.Name x p) (e :: es) [] pos) (zY φ fa) :=
 yP (wm hc hg hm hv ha hn hdb he hpl) (Hi hφ)
theorem qR.one {K:W.Frag} {Hf:Hp} {σ:St} {ρ:Rho} {d:D} {xs:List V} (h:qR K Hf σ ρ [d] xs):∃ v,xs=[v]/\qh K Hf σ ρ d v:=by
 cases h with
 | cons h1 h2=>cases h2; exact ⟨_,rfl,h1⟩
theorem qR.two {K:W.Frag} {Hf:Hp} {σ:St} {ρ:Rho} {d d':D} {xs:List V} (h:qR K Hf σ ρ [d,d'] xs):∃ v v',xs=[v,v']/\qh K Hf σ ρ d v/\qh K Hf σ ρ d' v':=by
 cases h with
 | cons h1 h2 =>
  cases h2 with
  | cons h2 h3=>cases h3; exact ⟨_,_,rfl,h1,h2⟩
def uZ:List D->Option D
 | [.lst ds]=>some (.int ds.length)
 | [.tup ds]=>some (.int ds.length)
 | [.str x]=>if x.length<=sizeLine then some (.int x.length) else none
 | _=>none
theorem yH:wt X (.builtin "len") (fun xs H Q=>(∃ p ys,xs=[.ref p]/\(SqL X.K H p ys\/SqT X.K H p ys)/\Q (.int ys.length) H)\/(∃ z,xs=[.str z]/\z.length<=sizeLine/\Q (.int z.length) H)):=wt.or XS XR
theorem xW:FnR X (fun xs H Q=>(∃ p ys,xs=[.ref p]/\(SqL X.K H p ys\/SqT X.K H p ys)/\Q (.int ys.length) H)\/(∃ z,xs=[.str z]/\z.length<=sizeLine/\Q (.int z.length) H)) uZ:=by
 intro σ ρ H₀ Hf₀ H Hf xs ds d Q R hx hφ k
 unfold uZ at hφ
 split at hφ
 ·cases hφ
  obtain ⟨v,rfl,hv⟩:=hx.one
  obtain ⟨a,ys,rfl,q,l⟩:=hv.lst R
  exact .inl ⟨a,ys,rfl,.inl q,k _ _ _ R zA zA (by rw [<- l.length]; exact Has.int_iff.mpr rfl)⟩
 ·cases hφ
  obtain ⟨v,rfl,hv⟩:=hx.one
  obtain ⟨a,ys,rfl,q,l⟩:=hv.tup R
  exact .inl ⟨a,ys,rfl,.inr q,k _ _ _ R zA zA (by rw [<- l.length]; exact Has.int_iff.mpr rfl)⟩
 ·split at hφ
  ·cases hφ
   obtain ⟨v,rfl,hv⟩:=hx.one
   exact .inr ⟨_,by rw [hv.str],by assumption,k _ _ _ R zA zA (Has.int_iff.mpr rfl)⟩
  ·cases hφ
 ·cases hφ
def Ng:List D->Option D
 | [.int i]=>some (.int (if i < 0 then -i else i))
 | _=>none
theorem Jl:FnR X (fun xs H Q=>∃ i,xs=[.int i]/\Q (.int (if i < 0 then -i else i)) H) Ng:=by
 intro σ ρ H₀ Hf₀ H Hf xs ds d Q R hx hφ k
 unfold Ng at hφ
 split at hφ
 ·cases hφ
  obtain ⟨v,rfl,hv⟩:=hx.one
  exact ⟨_,by rw [hv.int],k _ _ _ R zA zA (Has.int_iff.mpr rfl)⟩
 ·cases hφ
def Gn:List D->Option D
 | [.int i,.int j]=>some (.int (if j > i then j else i))
 | _=>none
def Gj:List D->Option D
 | [.int i,.int j]=>some (.int (if j < i then j else i))
 | _=>none
theorem WJ:FnR X (fun xs H Q=>∃ i j,xs=[.int i,.int j]/\Q (.int (if j > i then j else i)) H) Gn:=by
 intro σ ρ H₀ Hf₀ H Hf xs ds d Q R hx hφ k
 unfold Gn at hφ
 split at hφ
 ·cases hφ
  obtain ⟨v,v',rfl,hv,hv'⟩:=hx.two
  exact ⟨_,_,by rw [hv.int,hv'.int],k _ _ _ R zA zA (Has.int_iff.mpr rfl)⟩
 ·cases hφ
theorem WI:FnR X (fun xs H Q=>∃ i j,xs=[.int i,.int j]/\Q (.int (if j < i then j else i)) H) Gj:=by
 intro σ ρ H₀ Hf₀ H Hf xs ds d Q R hx hφ k
 unfold Gj at hφ
 split at hφ
 ·cases hφ
  obtain ⟨v,v',rfl,hv,hv'⟩:=hx.two
  exact ⟨_,_,by rw [hv.int,hv'.int],k _ _ _ R zA zA (Has.int_iff.mpr rfl)⟩
 ·cases hφ
def HI:List D->Option D
 | [.int i]=>some (.int i)
 | [.bl b]=>some (.int (if b then 1 else 0))
 | _=>none
theorem Jk:FnR X (fun xs H Q=>(∃ i,xs=[.int i]/\Q (.int i) H)\/∃ k,xs=[.bl k]/\Q (.int (if k then 1 else 0)) H) HI:=by
 intro σ ρ H₀ Hf₀ H Hf xs ds d Q R hx hφ k
 unfold HI at hφ
 split at hφ
 ·cases hφ
  obtain ⟨v,rfl,hv⟩:=hx.one
  exact .inl ⟨_,by rw [hv.int],k _ _ _ R zA zA (Has.int_iff.mpr rfl)⟩
 ·cases hφ
  obtain ⟨v,rfl,hv⟩:=hx.one
  exact .inr ⟨_,by rw [hv.bl],k _ _ _ R zA zA (Has.int_iff.mpr rfl)⟩
 ·cases hφ
def z6 (F G:FS):FS:=fun ρ=>(F ρ).bind fun o=>match o with
 | .nx ρ'=>G ρ'
 | o=>some o
def nxF:FS:=fun ρ=>some (.nx ρ)
variable {st:Stmt} {sts uQ:List Stmt} {F G:FS}
theorem uW {α:Type} {F:FS} {k:Out->Option α} {ρ:Rho} {r:α} (h:(F ρ).bind k=some r):∃ b,F ρ=some b/\k b=some r:=by
 cases hf:F ρ with
 | none=>rw [hf] at h; cases h
 | some x=>rw [hf] at h; exact ⟨x,rfl,h⟩
theorem z9:DSs X [] nxF:=Wm BI fun D' σ H ⟨H₀,Hf₀,ρ,Hf,o,R,q,k⟩=>by cases q; exact k _ _ _ R zA
theorem zf (h1:DS X st F) (h2:DSs X uQ G):DSs X (st :: uQ) (z6 F G):=Wm (KO h1 h2) fun D' σ H ⟨H₀,Hf₀,ρ,Hf,o,R,q,k⟩=>by
 obtain ⟨o1,e1,e2⟩:=uW q
 refine ⟨H₀,Hf₀,ρ,Hf,o1,R,e1,?_⟩
 cases o1 with
 | nx ρ' =>
  intro σ' H' Hf' R' s'
  refine ⟨H₀,Hf₀,ρ',Hf',o,R',e2,?_⟩
  cases o with
  | nx _=>exact fun σ2 H2 Hf2 R2 s2=>k _ _ _ R2 (s'.trans s2)
  | bk _=>exact fun σ2 H2 Hf2 R2 s2=>k _ _ _ R2 (s'.trans s2)
  | ct _=>exact fun σ2 H2 Hf2 R2 s2=>k _ _ _ R2 (s'.trans s2)
  | rt _=>exact fun v σ2 ρ2 H2 Hf2 R2 s2 h2=>k _ _ _ _ _ R2 (s'.trans s2) h2
 | bk _=>cases e2; exact k
 | ct _=>cases e2; exact k
 | rt _=>cases e2; exact k
theorem zj (h1:DS X st F):DSs X [st] F:=Ql h1
def HD:FS:=fun _=>none
theorem GU:DS X st HD:=wj KR fun D' σ H ⟨H₀,Hf₀,ρ,Hf,o,R,q,k⟩=>by cases q
def yT (f:FE):FS:=fun ρ=>(f ρ).bind fun d=>some (.rt d)
theorem zK (he:DE X e f):DS X (.Return (some e) pos) (yT f):=wj (Fs he) fun D' σ H ⟨H₀,Hf₀,ρ,Hf,o,R,q,k⟩=>by
 obtain ⟨d,e1,e2⟩:=ya q
 cases e2
 exact ⟨H₀,Hf₀,ρ,Hf,d,R,e1,fun v H1 Hf1 R1 s1 t1 h1=>k v σ ρ H1 Hf1 R1 t1 h1⟩
def ifS (c:FT) (F G:FS):FS:=fun ρ=>(c ρ).bind fun b=>if b=true then F ρ else G ρ
theorem Ny.mono {K:W.Frag} {H₀ Hf₀ Hf Hf1:Hp} {D':Ends} {o:Out} (k:Ny K H₀ Hf₀ Hf D' o) (t:yf Hf Hf1):Ny K H₀ Hf₀ Hf1 D' o:=by
 cases o with
 | nx _=>exact fun σ2 H2 Hf2 R2 s2=>k _ _ _ R2 (t.trans s2)
 | bk _=>exact fun σ2 H2 Hf2 R2 s2=>k _ _ _ R2 (t.trans s2)
 | ct _=>exact fun σ2 H2 Hf2 R2 s2=>k _ _ _ R2 (t.trans s2)
 | rt _=>exact fun v σ2 ρ2 H2 Hf2 R2 s2 h2=>k _ _ _ _ _ R2 (t.trans s2) h2
theorem xD {a b:List Stmt} (hc:DT X c ft) (ha:DSs X a F) (hb:DSs X b G):DS X (.If c a b pos) (ifS ft F G):=wj (N1 hc ha hb) fun D' σ H ⟨H₀,Hf₀,ρ,Hf,o,R,q,k⟩=>by
 obtain ⟨x,e1,e2⟩:=vP q
 refine ⟨H₀,Hf₀,ρ,Hf,x,R,e1,fun H1 Hf1 R1 s1 t1=>?_⟩
 cases x with
 | true=>exact MA ⟨H₀,Hf₀,ρ,Hf1,o,R1,e2,k.mono t1⟩
 | false=>exact MB ⟨H₀,Hf₀,ρ,Hf1,o,R1,e2,k.mono t1⟩
def yL (i:Nat) (f:FE):FS:=fun ρ=>(f ρ).bind fun d=>some (.nx (ρ.set i (.fr d)))
theorem z7 {x:Str} {pos':Pos} (i:Nat) (hN:X.N.Nodup) (he:DE X e f) (hi:X.N[i]? = some x:=by rfl) (hx:Loc X.env.scope x:=by first | exact Or.inl rfl | exact Or.inr rfl) (hs:swapsWith e (some (.Name x pos')) pos.line X.env=pure false:=by rfl)
  (hf:X.fn x=true\/X.env.scope.names.lookup x=some .local:=by first | exact .inl rfl | exact .inr rfl | assumption):DS X (.Assign [.Name x pos'] e pos) (yL i f) :=
 wj (Vb hN hi hx he hs hf) fun D' σ H ⟨H₀,Hf₀,ρ,Hf,o,R,q,k⟩=>by
  obtain ⟨d,e1,e2⟩:=ya q
  cases e2
  exact ⟨H₀,Hf₀,ρ,Hf,d,R,e1,fun v H1 Hf1 R1 s1 t1 h1=>k _ _ _ (R1.set i h1) t1⟩
def VY (i:Nat) (f:FA):FS:=fun ρ=>(f ρ).bind fun ds=>some (.nx (ρ.set i (.ol ds)))
theorem uz {x:Str} {pos':Pos} (i:Nat) (hN:X.N.Nodup) (he:DN X e fa) (hi:X.N[i]? = some x:=by rfl) (hx:Loc X.env.scope x:=by first | exact Or.inl rfl | exact Or.inr rfl) (hs:swapsWith e (some (.Name x pos')) pos.line X.env=pure false:=by rfl)
  (hf:X.fn x=true\/X.env.scope.names.lookup x=some .local:=by first | exact .inl rfl | exact .inr rfl | assumption):DS X (.Assign [.Name x pos'] e pos) (VY i fa) :=
 wj (Vb hN hi hx he hs hf) fun D' σ H ⟨H₀,Hf₀,ρ,Hf,o,R,q,k⟩=>by
  obtain ⟨d,e1,e2⟩:=yj q
  cases e2
  refine ⟨H₀,Hf₀,ρ,Hf,d,R,e1,fun a xs H1 Hf1 R1 s1 t1 h1 ha hn hh=>k _ _ _ (R1.setOwn i rfl ⟨xs,ha,h1⟩ hn (R.s0.free hh) ?_) t1⟩
  intro j sl z o z'
  obtain ⟨b,p1,p2,_⟩:=R.ow j sl z o
  rw [p1] at z'; cases z'
  obtain ⟨ob,q'⟩:=p2.there o
  rw [q'] at hh; cases hh
def frz (i:Nat) (ρ:Rho):Option Rho:=match ρ[i]? with
 | some (.ol ds)=>some (ρ.set i (.fr (.lst ds)))
 | some (.fr _)=>some ρ
 | _=>none
def Jj (i:Nat) (F:FS):FS:=fun ρ=>(frz i ρ).bind F
theorem kP (i:Nat) (h:DSs X sts F):DSs X sts (Jj i F):=Wm h fun D' σ H ⟨H₀,Hf₀,ρ,Hf,o,R,q,k⟩=>by
 unfold Jj frz at q
 split at q
 ·rename_i ds e
  obtain ⟨Hf',sm,R'⟩:=R.freeze e
  exact ⟨H₀,Hf₀,_,Hf',o,R',q,k.mono sm⟩
 ·exact ⟨H₀,Hf₀,_,Hf,o,R,q,k⟩
 ·cases q
abbrev FG:=D->Rho->Option Rho
def tG (K:W.Frag) (γ:FG):TG:=fun v σ H Q=>∃ H₀ Hf₀ ρ Hf d ρ',Rep K H₀ Hf₀ σ ρ H Hf/\Has K Hf d v/\γ d ρ=some ρ'/\∀ σ' H' Hf',Rep K H₀ Hf₀ σ' ρ' H' Hf'->yf Hf Hf'->Q σ' H'
abbrev FGs:=List D->Rho->Option Rho
def tGs (K:W.Frag) (γ:FGs):TGs:=fun vs σ H Q=>∃ H₀ Hf₀ ρ Hf ds ρ',Rep K H₀ Hf₀ σ ρ H Hf/\zZ K Hf ds vs/\γ ds ρ=some ρ'/\∀ σ' H' Hf',Rep K H₀ Hf₀ σ' ρ' H' Hf'->yf Hf Hf'->Q σ' H'
def DG (X:Cx) (tg:Expr) (γ:FG):Prop:=PG X tg (tG X.K γ)
def DGs (X:Cx) (ts:List Expr) (γ:FGs):Prop:=PGs X ts (tGs X.K γ)
theorem Hv {tg:Expr} {t t':TG} (h:PG X tg t) (i:∀ v σ H Q,t' v σ H Q->t v σ H Q):PG X tg t':=fun pins s σ H v u Q I r hw=>h pins s σ H v u Q I r (i _ _ _ _ hw)
theorem Qr {ts:List Expr} {t t':TGs} (h:PGs X ts t) (i:∀ v σ H Q,t' v σ H Q->t v σ H Q):PGs X ts t':=fun pins s σ H v u Q I r hw=>h pins s σ H v u Q I r (i _ _ _ _ hw)
def zB (i:Nat):FG:=fun d ρ=>some (ρ.set i (.fr d))
theorem zJ {x:Str} (i:Nat) (hN:X.N.Nodup) (hi:X.N[i]? = some x:=by rfl) (hx:Loc X.env.scope x:=by first | exact Or.inl rfl | exact Or.inr rfl) (hf:X.fn x=true\/X.env.scope.names.lookup x=some .local:=by first | exact .inl rfl | exact .inr rfl | assumption):DG X (.Name x pos) (zB i) :=
 Hv (Qs hN hi hx hf) fun v σ H Q ⟨H₀,Hf₀,ρ,Hf,d,ρ',R,h,q,k⟩=>by
  cases q
  exact k _ _ _ (R.set i h) zA
def Zv:FGs:=fun ds ρ=>match ds with
 | []=>some ρ
 | _=>none
def yA (γ:FG) (δ:FGs):FGs:=fun ds ρ=>match ds with
 | d :: r=>(γ d ρ).bind fun ρ'=>δ r ρ'
 | _=>none
theorem ua:DGs X [] Zv:=Qr BP fun v σ H Q ⟨H₀,Hf₀,ρ,Hf,ds,ρ',R,h,q,k⟩=>by
 cases ds with
 | nil=>cases q; exact ⟨zZ.nil_iff.mp h,k _ _ _ R zA⟩
 | cons _ _=>cases q
theorem ye {γ:FG} {δ:FGs} (h1:DG X e γ) (h2:DGs X es δ) (hs:(assignEach (e :: es) X.env).map (·.2)=assign e X.env :: (assignEach es X.env).map (·.2):=by rfl):DGs X (e :: es) (yA γ δ) :=
 Qr (KW h1 h2 hs) fun v σ H Q ⟨H₀,Hf₀,ρ,Hf,ds,ρ',R,h,q,k⟩=>by
  cases ds with
  | nil=>cases q
  | cons d r =>
   obtain ⟨x,xr,rfl,hx,hr⟩:=zZ.cons_iff.mp h
   have q:(γ d ρ).bind (fun ρ'=>δ r ρ')=some ρ':=q
   cases e1:γ d ρ with
   | none=>rw [e1] at q; cases q
   | some ρ1 =>
    rw [e1] at q
    exact ⟨x,xr,rfl,H₀,Hf₀,ρ,Hf,d,ρ1,R,hx,e1,fun σ1 H1 Hf1 R1 s1=>⟨H₀,Hf₀,ρ1,Hf1,r,ρ',R1,hr.mono s1,q,fun σ2 H2 Hf2 R2 s2=>k _ _ _ R2 (s1.trans s2)⟩⟩
def j7 (n:Nat) (δ:FGs):FG:=fun d ρ=>match d with
 | .tup ds=>if ds.length=n then δ ds ρ else none
 | _=>none
theorem qI {kx n:Nat} {δ:FGs} (hc:X.calm=true) (h:DGs X es δ) (hn:(assignEach es X.env).length=n:=by rfl) (hst:(assignEach es X.env).findIdx? (·.1)=none:=by rfl):DG X (.Tuple es kx pos) (j7 n δ) :=
 Hv (Fv hc h hn hst) fun v σ H Q ⟨H₀,Hf₀,ρ,Hf,d,ρ',R,h,q,k⟩=>by
  unfold j7 at q
  split at q
  ·split at q
   ·rename_i ds hl
    obtain ⟨a,xs,rfl,qa,la⟩:=Has.tup_iff.mp h
    exact ⟨a,xs,rfl,Yj R.sf qa,by rw [la.length]; exact hl,H₀,Hf₀,ρ,Hf,ds,ρ',R,la,q,k⟩
   ·cases q
  ·cases q
end
def yd (γ:FG) (B:FS):List D->Rho->Option Out
 | [],ρ=>some (.nx ρ)
 | d :: ds,ρ=>(γ d ρ).bind fun ρ1=>(B ρ1).bind fun o=>match o with
  | .nx ρ2=>yd γ B ds ρ2
  | .ct ρ2=>yd γ B ds ρ2
  | .bk ρ2=>some (.nx ρ2)
  | .rt d=>some (.rt d)
def jI (fi:FA) (γ:FG) (B:FS):FS:=fun ρ=>(fi ρ).bind fun ds=>yd γ B ds ρ
structure Grows (H Hf H' Hf':Hp):Prop where
 h:yf H H'
 f:yf Hf Hf'
 fh:yf Hf' H'
 new:∀ b o,Hf' b=some o->Hf b=some o\/H b=none\/Tp o
theorem Rep.grows {K:W.Frag} {H₀ Hf₀:Hp} {σ:St} {ρ:Rho} {H Hf H' Hf':Hp} (R:Rep K H₀ Hf₀ σ ρ H Hf) (g:Grows H Hf H' Hf'):Rep K H₀ Hf₀ σ ρ H' Hf':=R.grow g.h g.f g.fh g.new
theorem Grows.refl {H Hf:Hp} (h:yf Hf H):Grows H Hf H Hf:=⟨zA,zA,h,fun _ _ e=>.inl e⟩
def Walks (K:W.Frag) (Hf:Hp) (J:It) (ds:List D):Prop :=
 ∀ (H' Hf':Hp),yf Hf Hf'->yf Hf' H'->∀ i:Nat,(∀ d,ds[i]? = some d->J.go i H'/\∀ x H2,J.yld i H' x H2->∃ Hf2,Grows H' Hf' H2 Hf2/\Has K Hf2 d x)/\(ds.length<=i->J.stop i H')
def tI (K:W.Frag) (fi:FA):TI:=fun σ H R'=>∃ H₀ Hf₀ ρ Hf ds,Rep K H₀ Hf₀ σ ρ H Hf/\fi ρ=some ds/\∀ J H' Hf',Rep K H₀ Hf₀ σ ρ H' Hf'->yf H H'->yf Hf Hf'->Walks K Hf' J ds->R' J H'
def DI (X:Cx) (tg iter:Expr) (fi:FA):Prop:=PI X tg iter (tI X.K fi)
section
variable {X:Cx} {e a b c tg iter:Expr} {es:List Expr} {f g h:FE} {fa ga fi:FA} {ft gt:FT} {pos:Pos} {t t':TE} {kk:Nat} {st:Stmt} {sts uQ body:List Stmt} {F G B:FS} {γ:FG}
theorem Fu {t t':TI} (h:PI X tg iter t) (i:∀ σ H R,t' σ H R->t σ H R):PI X tg iter t':=fun pins s σ H R I hw=>h pins s σ H R I (i _ _ _ hw)
theorem w9 (hp:PassesOwn (model X.prog X.w) X.A X.env X.xe) (hc:X.calm=true) (hi:DI X tg iter fi) (hg:DG X tg γ) (hb:DSs X body B)
  (hs:∀ x,foldedSetIterable iter X.env x=pure x:=by intro _; rfl):DS X (.For tg iter body [] pos) (jI fi γ B) :=
 wj (Qn hp hc hi hg hb hs) fun D' σ H ⟨H₀,Hf₀,ρ,Hf,o,R,q,k⟩=>by
  obtain ⟨ds,e1,e2⟩:=yj q
  refine ⟨H₀,Hf₀,ρ,Hf,ds,R,e1,fun J H1 Hf1 R1 _ t1 wk=>?_⟩
  have k1:=k.mono t1
  refine ⟨fun i m σ H=>m=ds.length - i/\i<=ds.length/\∃ ρ Hf',Rep X.K H₀ Hf₀ σ ρ H Hf'/\yf Hf1 Hf'/\yd γ B (ds.drop i) ρ=some o,⟨ds.length,by simp,g1z _,ρ,Hf1,R1,zA,by simpa using e2⟩,?_⟩
  rintro i m σ2 H2 ⟨rfl,hi,ρ2,Hf2,R2,t2,el⟩
  obtain ⟨w1,w2⟩:=wk H2 Hf2 t2 R2.sf i
  by_cases hil:i < ds.length
  ·right
   have hd:ds[i]? = some ds[i]:=g0p hil
   obtain ⟨go,yld⟩:=w1 _ hd
   refine ⟨go,?_⟩
   rw [g2f hil] at el
   unfold yd at el
   cases eg:γ ds[i] ρ2 with
   | none=>rw [eg] at el; cases el
   | some ρ3 =>
    rw [eg] at el
    simp only [g0b] at el
    obtain ⟨o1,eb,eo⟩:=uW el
    refine ⟨fun σ' H'=>∃ ρ' Hf',Rep X.K H₀ Hf₀ σ' ρ' H' Hf'/\yf Hf1 Hf'/\yd γ B (ds.drop (i+1)) ρ'=some o,?_,?_⟩
    ·rintro σ' H' ⟨ρ',Hf',R',t',e'⟩
     exact ⟨ds.length - (i+1),by omega,rfl,hil,ρ',Hf',R',t',e'⟩
    ·intro x H3 hy
     obtain ⟨Hf3,gr,hx⟩:=yld x H3 hy
     refine ⟨H₀,Hf₀,ρ2,Hf3,ds[i],ρ3,R2.grows gr,hx,eg,fun σ4 H4 Hf4 R4 t4=>?_⟩
     refine ⟨H₀,Hf₀,ρ3,Hf4,o1,R4,eb,?_⟩
     have tt:yf Hf1 Hf4:=(t2.trans gr.f).trans t4
     cases o1 with
     | nx ρ5=>exact fun σ5 H5 Hf5 R5 t5=>⟨ρ5,Hf5,R5,tt.trans t5,eo⟩
     | ct ρ5=>exact fun σ5 H5 Hf5 R5 t5=>⟨ρ5,Hf5,R5,tt.trans t5,eo⟩
     | bk ρ5=>cases eo; exact fun σ5 H5 Hf5 R5 t5=>k1 _ _ _ R5 (tt.trans t5)
     | rt d=>cases eo; exact fun v σ5 ρ5 H5 Hf5 R5 t5 h5=>k1 _ _ _ _ _ R5 (tt.trans t5) h5
  ·left
   have:ds.drop i=[]:=g2s (by omega)
   rw [this] at el
   cases el
   exact ⟨w2 (by omega),k1 _ _ _ R2 t2⟩
def wz (lo hi:Int):List D:=(g0t (hi - lo).toNat).map fun (k:Nat)=>D.int (lo+(k:Int))
noncomputable def uu:List D->Option (List D)
 | [.int j]=>@ite _ (-(2 ^ 62)<=j/\j < 2 ^ 62) (Classical.propDecidable _) (some (wz 0 j)) none
 | _=>none
noncomputable def UV (fa:FA):FA:=fun ρ=>(fa ρ).bind uu
theorem Wd {K:W.Frag} {Hf:Hp} {lo:Int} {n:Nat}:Walks K Hf (Itr lo n) ((g0t n).map fun (k:Nat)=>D.int (lo+(k:Int))):=fun H2 Hf2 t2 sf2 i=>by
 refine ⟨fun d hd=>?_,fun hle=>?_⟩
 ·rw [g0z] at hd
  cases e:(g0t n)[i]? with
  | none=>rw [e] at hd; cases hd
  | some j =>
   rw [e] at hd
   cases hd
   obtain ⟨h1,h2⟩:=g0v.mp e
   simp at h1 h2
   subst h2
   refine ⟨h1,fun x H3 hy=>?_⟩
   obtain ⟨rfl,rfl⟩:=hy
   exact ⟨Hf2,Grows.refl sf2,Has.int_iff.mpr rfl⟩
 ·show n<=i
  simpa using hle
theorem wW {p pos:Pos} (hg:Gl X "range") (hm:X.mg "range"=none) (ha:DAR X [a] fa) (hs:starEach [a] X.env=[(false,eval a X.env)]:=by rfl):DI X tg (.Call (.Name "range" p) [a] [] pos) (UV fa) :=
 Fu (Qq hg hm ha hs) fun σ H R' ⟨H₀,Hf₀,ρ,Hf,ds,R,q,k⟩=>by
  obtain ⟨l,e1,e2⟩:=yj q
  unfold uu at e2
  split at e2
  ·split at e2
   ·cases e2
    rename_i j hj
    refine ⟨H₀,Hf₀,ρ,Hf,_,R,e1,fun vs H1 Hf1 R1 s1 t1 h1=>?_⟩
    obtain ⟨v,rfl,hv⟩:=h1.one
    refine ⟨j,by rw [hv.int],hj.1,hj.2,k _ _ _ R1 s1 t1 ?_⟩
    have:=Wd (K:=X.K) (Hf:=Hf1) (lo:=0) (n:=j.toNat)
    unfold wz
    rw [Int.sub_zero]
    exact this
   ·cases e2
  ·cases e2
def yo (c:FT) (B:FS):Nat->Rho->Option Out
 | 0,_=>none
 | n+1,ρ=>(c ρ).bind fun b=>if b=true then (B ρ).bind fun o=>match o with
   | .nx ρ2=>yo c B n ρ2
   | .ct ρ2=>yo c B n ρ2
   | .bk ρ2=>some (.nx ρ2)
   | .rt d=>some (.rt d)
  else some (.nx ρ)
theorem jX (n:Nat) (hp:PassesOwn (model X.prog X.w) X.A X.env X.xe) (hc:DT X c ft) (hb:DSs X body B):DS X (.While c body [] pos) (yo ft B n) :=
 wj (KQ hp hc hb) fun D' σ H ⟨H₀,Hf₀,ρ,Hf,o,R,q,k⟩=>by
  refine ⟨fun m σ H=>∃ ρ Hf',Rep X.K H₀ Hf₀ σ ρ H Hf'/\yf Hf Hf'/\yo ft B m ρ=some o,⟨n,ρ,Hf,R,zA,q⟩,?_⟩
  rintro m σ2 H2 ⟨ρ2,Hf2,R2,t2,e2⟩
  cases m with
  | zero=>cases e2
  | succ m =>
   unfold yo at e2
   obtain ⟨b,e3,e4⟩:=vP e2
   refine ⟨H₀,Hf₀,ρ2,Hf2,b,R2,e3,fun H3 Hf3 R3 s3 t3=>?_⟩
   have tt:=t2.trans t3
   cases b with
   | false=>cases e4; exact MB (k _ _ _ R3 tt)
   | true =>
    obtain ⟨o1,e5,e6⟩:=uW e4
    refine MA ⟨fun σ' H'=>∃ ρ' Hf',Rep X.K H₀ Hf₀ σ' ρ' H' Hf'/\yf Hf Hf'/\yo ft B m ρ'=some o,fun σ' H' h=>⟨m,Nat.lt_succ_self _,h⟩,H₀,Hf₀,ρ2,Hf3,o1,R3,e5,?_⟩
    cases o1 with
    | nx ρ5=>exact fun σ5 H5 Hf5 R5 t5=>⟨ρ5,Hf5,R5,tt.trans t5,e6⟩
    | ct ρ5=>exact fun σ5 H5 Hf5 R5 t5=>⟨ρ5,Hf5,R5,tt.trans t5,e6⟩
    | bk ρ5=>cases e6; exact fun σ5 H5 Hf5 R5 t5=>k _ _ _ R5 (tt.trans t5)
    | rt d=>cases e6; exact fun v σ5 ρ5 H5 Hf5 R5 t5 h5=>k _ _ _ _ _ R5 (tt.trans t5) h5
def xp (i:Nat) (f:FE):FS:=fun ρ=>(f ρ).bind fun d=>match ρ[i]? with
 | some (.ol ds)=>if ds.length < sizeLine then some (.nx (ρ.set i (.ol (ds++[d])))) else none
 | _=>none
theorem vO {x:Str} {p1 apos cpos pos:Pos} (i:Nat) (he:DE X e f) (hN:X.N[i]? = some x:=by rfl) (hv:Vis X.env.scope x:=by first | exact Or.inl rfl | exact Or.inr (Or.inl rfl) | exact Or.inr (Or.inr rfl))
  (hd:(x==("__debug__":Str))=false:=by decide) (hcd:(x==("__classdict__":Str))=false:=by decide)
  (hbase:attributeBase (.Name x p1) "append" X.env (eval (.Name x p1) X.env)=eval (.Name x p1) X.env:=by rfl)
  (hfew:((backTo cpos (starEach [e] X.env)).all (fun x => !x.1)&&(backToKw cpos (keywordEach [] X.env)).all (fun x=>x.1.isSome)
   && decide (([e]:List Expr).length+([]:List Keyword).length+(if ([]:List Keyword).isEmpty then 0 else 1) < 30))=true:=by rfl)
  (hline:(apos.endLine==cpos.line)=true:=by rfl) (hst:starEach [e] X.env=(false,eval e X.env) :: starEach [] X.env:=by rfl) (hplain:(backTo cpos (starEach [] X.env)).any (·.1)=false:=by rfl)
  (hs:swapsWith (.Call (.Attribute (.Name x p1) "append" apos) [e] [] cpos) none pos.line X.env=pure false:=by rfl) :
  DS X (.Expr (.Call (.Attribute (.Name x p1) "append" apos) [e] [] cpos) pos) (xp i f) :=
 wj (Qo (BS PySem.F.plainAttrs_list PySem.F.slot_list_append PySem.F.type_list_append Xl (uj hN hv hd hcd) (wK he u4 hst) hbase hfew hline hst hplain) hs) fun D' σ H ⟨H₀,Hf₀,ρ,Hf,o,R,q,k⟩=>by
  obtain ⟨d,e1,e2⟩:=ya q
  split at e2
  ·split at e2
   ·cases e2
    rename_i ds el hz
    obtain ⟨a,p1,⟨xs,p2,p3⟩,p4,p5⟩:=R.ow i _ el rfl
    refine ⟨_,p1,.inl ⟨rfl,xs,SqL.of p2⟩,H₀,Hf₀,ρ,Hf,d,R,e1,fun v H1 Hf1 R1 s1 t1 h1=>?_⟩
    obtain ⟨a',r1,⟨ys,r2,r3⟩,r4,r5⟩:=R1.ow i _ el rfl
    rw [p1] at r1; cases r1
    refine ⟨a,ys,v,rfl,rfl,r2,by rw [r3.length]; exact hz,?_⟩
    exact k _ _ _ (R1.updOwn el rfl p1 rfl ⟨_,zq,r3.append (.cons h1 .nil)⟩) t1
   ·cases e2
  ·cases e2
def Rw (i j:Nat) (fa:FA):FS:=fun ρ=>(fa ρ).bind fun l=>match l with
 | [d,d']=>some (.nx ((ρ.set i (.fr d)).set j (.fr d')))
 | _=>none
end
def spF (K:W.Frag) (n:Nat) (g:List D->Option D):Sp:=fun vs H Q _=>∃ Hf ds d,yf Hf H/\zZ K Hf ds vs/\ds.length=n/\g ds=some d/\∀ v H' Hf',Grows H Hf H' Hf'->Has K Hf' d v->Q v H'
def vh (n:Nat) (ds:List D):Rho:=ds.map Slot.fr++g0l (n - ds.length) Slot.no
def YW (o:Option Out):Option D:=match o with
 | some (.rt d)=>some d
 | some (.nx _)=>some .non
 | _=>none
def uo (m:Nat) (F:FS):List D->Option D:=fun ds=>YW (F (vh m ds))
theorem Qi {K:W.Frag} {N:List Str} {H Hf:Hp} {ds:List D} {vs:List V} (sf:yf Hf H) (h:zZ K Hf ds vs):Rep K H Hf (L2.start N vs) (vh N.length ds) H Hf where
 s0:=zA
 sf:=sf
 nf:=fun b o e=>.inl e
 f0:=zA
 len:=by unfold vh L2.start; simp [h.length]
 fr:=fun i d e=>by
  unfold vh at e
  unfold L2.start
  by_cases hi:i < ds.length
  ·rw [g1e (by simpa using hi)] at e
   rw [g0z] at e
   cases e1:ds[i]? with
   | none=>rw [e1] at e; cases e
   | some d' =>
    rw [e1] at e; cases e
    obtain ⟨v,e2,e3⟩:=h.get e1
    refine ⟨v,?_,e3⟩
    have hl:=h.length
    rw [g1e (by simp; omega),g0z,e2]
    rfl
  ·rw [g1q (by simpa using hi),g2b] at e
   split at e <;> cases e
 ow:=fun i sl e o=>by
  unfold vh at e
  by_cases hi:i < ds.length
  ·rw [g1e (by simpa using hi),g0z] at e
   cases e1:ds[i]? with
   | none=>rw [e1] at e; cases e
   | some d'=>rw [e1] at e; cases e; cases o
  ·rw [g1q (by simpa using hi),g2b] at e
   split at e
   ·cases e; cases o
   ·cases e
 inj:=fun i j sl sl' a e o e' o' _ _=>by
  unfold vh at e
  by_cases hi:i < ds.length
  ·rw [g1e (by simpa using hi),g0z] at e
   cases e1:ds[i]? with
   | none=>rw [e1] at e; cases e
   | some d'=>rw [e1] at e; cases e; cases o
  ·rw [g1q (by simpa using hi),g2b] at e
   split at e
   ·cases e; cases o
   ·cases e
section
variable {P:Program} {w:World} {K:W.Frag} {mg:Str->Option Value} {base:Heap}
theorem yD {x qual:Str} {st:Stmt} {f:Addr} {fd:FuncData} {N ps:List Str} {k m n:Nat} {F:FS} (hm:N.length=m) (hn:ps.length=n) (Fn:Fun K x qual st f fd) (S:FnScope N ps (zi st))
  (body:∀ (cdv:Value) (A:Around) (outer:List Env) (s:Shared) (H:Hp) (E:XK),Room k (A.deeper (envOfC qual (zi st) s.heap.objs.size f cdv)) →
   DSs (Di CX0 P w K mg base N qual (zi st) f cdv A outer s H E).nox (zT st) F) :
  FnOk P w K mg base CX0 (k+1) f fd ps (spF K n (uo m F)):=by
 subst hm hn
 refine Fn.ok S (fun vs H Q E h=>?_) (fun cdv A outer s H vs Q E hr h=>?_)
 ·obtain ⟨Hf,ds,d,_,h1,h2,_⟩:=h
  rw [h1.length]; exact h2
 ·obtain ⟨Hf,ds,d,sf,h1,h2,h3,q⟩:=h
  refine ⟨_,body cdv A outer s H E hr,?_⟩
  unfold uo YW at h3
  have R:=Qi (N:=N) sf h1
  have fin:∀ (v:V) (σ':St) (ρ':Rho) (H' Hf':Hp),Rep K H Hf σ' ρ' H' Hf'->Has K Hf' d v->Q v H':=fun v σ' ρ' H' Hf' R' hv=>q v H' Hf' ⟨R'.s0,R'.f0,R'.sf,R'.nf⟩ hv
  split at h3
  ·cases h3
   rename_i d e
   exact ⟨H,Hf,_,Hf,_,R,e,fun v σ' ρ' H' Hf' R' _ hv=>fin v σ' ρ' H' Hf' R' hv⟩
  ·cases h3
   rename_i ρ' e
   exact ⟨H,Hf,_,Hf,_,R,e,fun σ' H' Hf' R' _=>fin _ σ' ρ' H' Hf' R' (Has.non_iff.mpr rfl)⟩
  ·cases h3
end
section
variable {X:Cx} {e:Expr} {es:List Expr} {fa:FA} {pos:Pos}
theorem M0 {CX:CXT} {k:Nat} {f:Addr} {fd:FuncData} {ps:List Str} {g:List D->Option D} {E:XK} {x:Str} {p:Pos} {n:Nat} (Fn:FnOk X.prog X.w X.K X.mg X.base CX k f fd ps (spF X.K n g)) (hr:Room k X.A) (hg:Gl X x) (hm:X.mg x=some (.ref f))
  (hk:W.keepIn X.K (.ref f)=true) (hb:WZ X.K fd ps []) (hx:V3 CX X E) (ha:DA X (e :: es) fa) (hn:∀ ρ ds,fa ρ=some ds->ds.length=n)
  (hdb:(x==("__debug__":Str))=false:=by decide) (he:starEach (e :: es) X.env=(false,eval e X.env) :: starEach es X.env:=by rfl) (hpl:(backTo pos (starEach es X.env)).any (·.1)=false:=by rfl) :
  DE X (.Call (.Name x p) (e :: es) [] pos) (zY g fa) :=
 yP (BR Fn hr hg hm hk hb .nil hx ha hdb he hpl) fun σ H Q ⟨H₀,Hf₀,ρ,Hf,d,R,q,k⟩=>by
  obtain ⟨ds,e1,e2⟩:=yj q
  refine ⟨H₀,Hf₀,ρ,Hf,ds,R,e1,fun vs H1 Hf1 R1 s1 t1 h1=>?_⟩
  show spF X.K n g (vs++[]) H1 Q E
  rw [g0x]
  exact ⟨Hf1,ds,d,R1.sf,h1,hn ρ ds e1,e2,fun v H2 Hf2 gr hv=>k _ _ _ (R1.grows gr) (s1.trans gr.h) (t1.trans gr.f) hv⟩
end
theorem yU:∀ (ρ:Rho) (ds:List D),zy ρ=some ds->ds.length=0:=fun ρ ds h=>by cases h; rfl
theorem zM {f:FE} {g:FA} {n:Nat} (h:∀ (ρ:Rho) (ds:List D),g ρ=some ds->ds.length=n):∀ (ρ:Rho) (ds:List D),za f g ρ=some ds->ds.length=n+1:=fun ρ ds q=>by
 obtain ⟨x,xs,_,e2,rfl⟩:=jl q
 simp [h ρ xs e2]
theorem law_sp {K:W.Frag} {g:List D->Option D} {H:Hp} {a:Addr} {ns:List Int} (hq:SqL K H a (ns.map V.int)) (hg:g [.lst (ns.map D.int)]=some (.bl true)):spF K 1 g [.ref a] H (fun v _=>v=.bl true) fun _ _ _=>False :=
 ⟨H,[.lst (ns.map D.int)],.bl true,zA,.cons (Has.lst_iff.mpr ⟨a,_,rfl,hq,zZ.ints ns⟩) .nil,rfl,hg,fun v H' Hf' _ hv=>Has.bl_iff.mp hv⟩
section
variable {X:Cx} {pins:List (Addr×Obj)} {σ:St} {H:Hp} {s:Shared} {A:Around} {E:Value->Shared->Prop} {Q:Value->Shared->Prop} {c:Value} {b:Bool}
end
section
variable {X:Cx} {e a b c:Expr} {es:List Expr} {f g h:FE} {fa ga:FA} {pos:Pos}
theorem XH {x z:Str} {pos:Pos} (hg:Gl X x) (hm:∃ t,X.mg x=some (.str z t)) (hd:(x==("__debug__":Str))=false:=by decide):DE X (.Name x pos) (cF (.str z)):=by
 obtain ⟨t,hm⟩:=hm
 exact HN hg hm rfl ⟨t,rfl⟩ hd
theorem XI {x:Str} {z:Int} {pos:Pos} (hg:Gl X x) (hm:∃ t,X.mg x=some (.int z t)) (hd:(x==("__debug__":Str))=false:=by decide):DE X (.Name x pos) (cF (.int z)):=by
 obtain ⟨t,hm⟩:=hm
 exact HN hg hm rfl ⟨t,rfl⟩ hd
end
structure HasFn (P:Program) (w:World) (K:W.Frag) (mg:Str->Option Value) (base:Heap) (k:Nat) (x:Str) (n:Nat) (g:List D->Option D):Prop where
 ex:∃ (f:Addr) (fd:FuncData) (ps:List Str),FnOk P w K mg base CX0 k f fd ps (spF K n g)/\mg x=some (.ref f)/\W.keepIn K (.ref f)=true/\WZ K fd ps []
theorem zN {X:Cx} {e:Expr} {es:List Expr} {fa:FA} {pos:Pos} {k:Nat} {g:List D->Option D} {x:Str} {p:Pos} {n:Nat} (Fn:HasFn X.prog X.w X.K X.mg X.base k x n g) (hr:Room k X.A) (hg:Gl X x) (ha:DA X (e :: es) fa) (hn:∀ ρ ds,fa ρ=some ds->ds.length=n)
  (hdb:(x==("__debug__":Str))=false:=by decide) (he:starEach (e :: es) X.env=(false,eval e X.env) :: starEach es X.env:=by rfl) (hpl:(backTo pos (starEach es X.env)).any (·.1)=false:=by rfl) :
  DE X (.Call (.Name x p) (e :: es) [] pos) (zY g fa):=by
 obtain ⟨f,fd,ps,h1,h2,h3,h4⟩:=Fn.ex
 exact M0 h1 hr hg h2 h3 h4 N8 ha hn hdb he hpl
theorem Vn {n k:Nat} (h:n < 2 ^ k) (hk:k<=8000):n < big:=g1s h (Nat.pow_le_pow_right (by decide) hk)
theorem Xj {i j:Int} (h1:i.natAbs < big) (h2:j.natAbs < big):Kb i j:=.inr (.inr ⟨h1,h2⟩)
theorem vW {i j:Int} (h1 : -(2 ^ 64) < i) (h2:i < 2 ^ 64):Kb i j:=.inl (by omega)
theorem wL {i j:Int} (h:Kb i j):uY (.int i) (.int j)=some (.int (i * j)):=by
 show (if Kb i j then _ else _)=_
 rw [if_pos h]
theorem vd {i j:Int} (h:0 < j):X7 (.int i) (.int j)=some (.int (i % j)):=by
 show (if 0 < j then _ else _)=_
 rw [if_pos h]
theorem jW {i j:Int} (h:0 < j) (h2:j < 2 ^ 64):Zx (.int i) (.int j)=some (.int (i / j)):=by
 show (if DK j then _ else _)=_
 rw [if_pos ⟨h,h2⟩]
theorem BK {i j:Int} (h:Dr i j):Dv (.int i) (.int j)=some (.int (i ^ j.toNat)):=by
 show (if Dr i j then _ else _)=_
 rw [if_pos h]
theorem U4 {i j:Int}:jN (.int i) (.int j)=some (.int (i - j)):=rfl
theorem Zd {i j:Int}:RO (.int i) (.int j)=some (.int (i+j)):=rfl
theorem Xy {i j:Int}:gtD (.int i) (.int j)=some (.bl (decide (j < i))):=rfl
theorem v7 {i j:Int}:eqF (.int i) (.int j)=some (.bl (decide (i=j))):=by unfold eqF; simp [dep,eqD]; rfl
theorem uw {i j:Int}:neF (.int i) (.int j)=some (.bl (!decide (i=j))):=by unfold neF; simp [dep,eqD]; rfl
def uB (env:Env):List (Str×NameKind)->List (Str×Addr)->Option (List (Str×Addr))
 | [],cs=>some cs
 | (n,k) :: r,cs=>if k==.free then match env.cells.lookup n with
   | some c=>uB env r ((n,c) :: cs)
   | none=>none
  else uB env r cs
def uC (env:Env):(Str×NameKind)->List (Str×Addr)->Sem (ForInStep (List (Str×Addr))):=fun x c=>match x with
 | (name,kind)=>if (kind==NameKind.free)=true then do let a ← cellOf env name; pure (ForInStep.yield ((name,a) :: c)) else pure (ForInStep.yield c)
theorem Zz {env:Env} {n:Str} {k:NameKind} {c:Addr} {cs:List (Str×Addr)} (hk:(k==NameKind.free)=true) (hc:env.cells.lookup n=some c):uC env (n,k) cs=pure (.yield ((n,c) :: cs)):=by
 unfold uC cellOf
 simp only [hk,if_true,hc]
 rfl
theorem XO {env:Env} {n:Str} {k:NameKind} {cs:List (Str×Addr)} (hk:(k==NameKind.free)=false):uC env (n,k) cs=pure (.yield cs):=by
 unfold uC
 simp only [hk,g1g,if_false]
theorem jo {env:Env}:∀ (l:List (Str×NameKind)) (cs cl:List (Str×Addr)),uB env l cs=some cl->(forIn l cs (uC env):Sem (List (Str×Addr)))=pure cl
 | [],cs,cl,h=>by cases h; rfl
 | (n,k) :: r,cs,cl,h=>by
  rw [List.forIn_cons]
  unfold uB at h
  cases hk:k==NameKind.free with
  | true =>
   rw [hk] at h
   cases hc:env.cells.lookup n with
   | none=>rw [hc] at h; cases h
   | some c =>
    rw [hc] at h
    rw [Zz hk hc]
    exact jo r _ cl h
  | false =>
   rw [hk] at h
   rw [XO hk]
   exact jo r _ cl h
theorem YL {scope:Scope} {env:Env} {cl:List (Str×Addr)} (h:uB env scope.names []=some cl):closureFor scope env=pure cl:=by
 have e:=jo (env:=env) scope.names [] cl h
 unfold closureFor
 simp only [bind_pure]
 exact e
theorem jm {env:Env}:∀ (l:List (Str×NameKind)) (cs:List (Str×Addr)),(∀ n,(n,NameKind.free)∈l->∃ c,env.cells.lookup n=some c)->(∀ x c,cs.lookup x=some c->env.cells.lookup x=some c) →
    ∃ cl,uB env l cs=some cl/\(∀ x c,cl.lookup x=some c->env.cells.lookup x=some c)/\(∀ x c,cs.lookup x=some c->∃ c',cl.lookup x=some c')/\∀ n,(n,NameKind.free)∈l->∃ c,cl.lookup n=some c
  | [],cs,_,h2=>⟨cs,rfl,h2,fun x c e=>⟨c,e⟩,fun n hn=>by cases hn⟩
  | (n,k) :: r,cs,h1,h2=>by
    cases hk:k==NameKind.free with
    | true =>
      have hkf:k=.free:=by simpa using hk
      subst hkf
      obtain ⟨c,hc⟩:=h1 n g0i
      obtain ⟨cl,e1,e2,e3,e4⟩:=jm r ((n,c) :: cs) (fun m hm=>h1 m (g0m _ hm)) (fun x d e=>by
        rw [g2e] at e
        cases hx:x==n with
        | true => rw [hx] at e; cases e; have:x=n:=by simpa using hx
                  rw [this]; exact hc
        | false=>rw [hx] at e; exact h2 x d e)
      refine ⟨cl,by unfold uB; rw [hk,hc]; exact e1,e2,fun x d e=>?_,fun m hm=>?_⟩
      · cases hx:x==n with
        | true=>exact e3 x c (by rw [g2e,hx])
        | false=>exact e3 x d (by rw [g2e,hx]; exact e)
      · rcases g0o.mp hm with q | q
        · cases q; exact e3 n c (by rw [g2e]; simp)
        · exact e4 m q
    | false =>
      obtain ⟨cl,e1,e2,e3,e4⟩:=jm r cs (fun m hm=>h1 m (g0m _ hm)) h2
      refine ⟨cl,by unfold uB; rw [hk]; exact e1,e2,e3,fun m hm=>?_⟩
      rcases g0o.mp hm with q | q
      · cases q; simp at hk
      · exact e4 m q
structure CompScope (osc:Scope) (scope:Scope) (own frees:List Str):Prop where
 kind:scope.kind=.function
 nocell:∀ y∈scope.names,y.2≠.cell
 loc:∀ y∈scope.names,y.2=.local->scope.names.lookup y.1=some .local
 free:∀ y∈scope.names,y.2=.free->osc.names.lookup y.1=some .cell\/osc.names.lookup y.1=some .free
 capt:∀ x∈frees,(osc.names.lookup x=some .cell\/osc.names.lookup x=some .free)/\scope.names.lookup x=some .free
theorem ZS {α:Type}:∀ {l:List (Str×α)} {x:Str} {k:α},l.lookup x=some k->(x,k)∈l
  | [],_,_,h=>by simp at h
  | (n,k) :: r,x,k',h=>by
    rw [g2e] at h
    cases hx:x==n with
    | true => rw [hx] at h; cases h; have:x=n:=by simpa using hx
              subst this; exact g0i
    | false=>rw [hx] at h; exact g0m _ (ZS h)
theorem ZK {env:Env} {x:Str}:∀ {l:List (Str×NameKind)},(∀ y∈l,y.2≠.cell) →
    ((l.map fun (n,k)=>if (k==NameKind.free&&env.scope.kind==.function&&env.kindOf n==some .cell) then (n,NameKind.cell) else (n,k)).lookup x=some .cell ∨
     (l.map fun (n,k)=>if (k==NameKind.free&&env.scope.kind==.function&&env.kindOf n==some .cell) then (n,NameKind.cell) else (n,k)).lookup x=some .free)->(x,NameKind.free)∈l
  | [],_,h=>by simp at h
  | (n,k) :: r,hc,h=>by
    have ih:=@ZK env x r (fun y hy=>hc y (g0m _ hy))
    have hk:k≠.cell:=hc (n,k) g0i
    rw [g0h] at h
    by_cases hq:(k==NameKind.free&&env.scope.kind==.function&&env.kindOf n==some .cell)=true
    · simp only [hq,if_true,g2e] at h
      cases hx:x==n with
      | true =>
        have e1:x=n:=by simpa using hx
        have e2:k=.free:=by simp at hq; exact hq.1.1
        subst e1 e2; exact g0i
      | false=>rw [hx] at h; exact g0m _ (ih h)
    · simp only [hq,g1g,if_false,g2e] at h
      cases hx:x==n with
      | true =>
        rw [hx] at h
        have e1:x=n:=by simpa using hx
        subst e1
        rcases h with h | h
        · cases h; exact absurd rfl hk
        · cases h; exact g0i
      | false=>rw [hx] at h; exact g0m _ (ih h)
theorem jv {env:Env} {x:Str}:∀ {l:List (Str×NameKind)},l.lookup x=some .free →
    ((l.map fun (n,k)=>if (k==NameKind.free&&env.scope.kind==.function&&env.kindOf n==some .cell) then (n,NameKind.cell) else (n,k)).lookup x=some .cell ∨
     (l.map fun (n,k)=>if (k==NameKind.free&&env.scope.kind==.function&&env.kindOf n==some .cell) then (n,NameKind.cell) else (n,k)).lookup x=some .free)
  | [],h=>by simp at h
  | (n,k) :: r,h=>by
    have ih:=@jv env x r
    rw [g0h]
    rw [g2e] at h
    by_cases hq:(k==NameKind.free&&env.scope.kind==.function&&env.kindOf n==some .cell)=true
    · simp only [hq,if_true,g2e]
      cases hx:x==n with
      | true=>exact .inl rfl
      | false=>rw [hx] at h; exact ih h
    · simp only [hq,g1g,if_false,g2e]
      cases hx:x==n with
      | true=>rw [hx] at h; exact .inr h
      | false=>rw [hx] at h; exact ih h
theorem XM {prog:Program} {w:World} {A:Around} {R:Result->Shared->Prop} {s:Shared} {elt target iter:Expr} {ifs:List Expr} {scope:Scope} {pos:Pos} {it acc:Value} {env:Env} (I:Nat->Shared->Prop)
  (turn:∀ n s,I n s->wpAny (model prog w) A (pyNext it) (fun r s₁=>match r with
   | none=>R (.ok .next) s₁
   | some v=>wpAny (model prog w) A (letOwnedTupleGo target it v) (fun _ s₁'=>wpAny (model prog w) A (assign target env v) (fun _ s₂ =>
     wpAny (model prog w) A (forIn ifs true fun c r=>if r=true then do let ok ← isTrue c env (eval c env); pure (ForInStep.yield ok) else pure (ForInStep.yield r)) (fun ok s₃ =>
      if ok=true then wpAny (model prog w) A (eval elt env) (fun x s₄ =>
       wpAny (model prog w) A (call (.builtin "list.append") [acc,x]) (fun _ s₅=>∃ m,m < n/\I m s₅) (fun _ _=>False) s₄) (fun _ _=>False) s₃
      else ∃ m,m < n/\I m s₃) (fun _ _=>False) s₂) (fun _ _=>False) s₁') (fun _ _=>False) s₁) (fun _ _=>False) s)
  (n:Nat) (h:I n s) :
  codeAny (model prog w) A (.compLoop (.ListComp elt [⟨target,iter,ifs,0⟩] scope pos) 0 it acc env) R s:=by
 refine codeAny_loop rfl I (fun n s hI=>?_) n h
 show wpAny _ A ((compTurn (.ListComp elt [⟨target,iter,ifs,0⟩] scope pos) 0 it acc env).onRaise (fun x=>do noteFrame x env; theTreesLotGoes x)) _ _ s
 refine wpAny_noted ?_
 rw [compTurn_list]
 refine wpAny_bind (wpAny_standAt (wpAny_bind (wpAny_mono (turn n s hI) (fun r s₁ h₁=>?_) fun _ _ h'=>h'.elim)))
 cases r with
 | none=>exact wpAny_pure h₁
 | some v =>
  refine wpAny_bind (wpAny_mono h₁ (fun _ s₁' h₁'=>?_) fun _ _ h'=>h'.elim)
  refine wpAny_bind (wpAny_mono h₁' (fun _ s₂ h₂=>wpAny_bind (wpAny_mono h₂ (fun ok s₃ h₃=>?_) fun _ _ h'=>h'.elim)) fun _ _ h'=>h'.elim)
  cases ok with
  | false=>exact wpAny_pure ⟨rfl,h₃⟩
  | true =>
   exact wpAny_bind (wpAny_bind (wpAny_mono h₃ (fun x s₄ h₄=>wpAny_bind (wpAny_mono h₄ (fun _ s₅ h₅=>wpAny_pure (wpAny_pure ⟨rfl,h₅⟩)) fun _ _ h'=>h'.elim)) fun _ _ h'=>h'.elim))
def cxC (X:Cx) (scope:Scope) (cl:List (Str×Addr)) (C:Addr) (N:List Str) (s:Shared) (H:Hp) (fp:List Addr):Cx :=
 { X with N:=N,s₀:=s,H₀:=H,env:=compEnvC scope cl C X.env,outer:=X.stack,stack:=X.stack,ex:=fp,fn:=fun _=>false,pn:=[],xe:=fun _ _=>False }
def Na (ρ:Rho) (j:Nat):Slot:=match ρ[j]? with
 | some (.fr d)=>.fr d
 | _=>.no
def xj (γ:FG) (ft:FT) (f:FE):List D->Rho->Option (List D)
 | [],_=>some []
 | d :: ds,ρ=>(γ d ρ).bind fun ρ1=>(ft ρ1).bind fun b=>if b=true then (f ρ1).bind fun y=>(xj γ ft f ds ρ1).bind fun ys=>some (y :: ys) else xj γ ft f ds ρ1
def kW (n:Nat) (caps:List Nat) (ρ:Rho):Rho:=g0l n .no++caps.map (Na ρ)
def xX (n:Nat) (caps:List Nat) (fi:FA) (γ:FG) (ft:FT) (f:FE):FA:=fun ρ=>(fi ρ).bind fun ds=>if ds.length<=sizeLine then xj γ ft f ds (kW n caps ρ) else none
def DQ (X:Cx) (ifs:List Expr) (ft:FT):Prop :=
 ∀ (pins:List (Addr×Obj)) (s:Shared) (σ:St) (H:Hp) (Q:Bool->Hp->Prop),Inv X pins σ H s->tT X.K ft σ H Q →
  wpAny (model X.prog X.w) X.A (forIn ifs true fun c r=>if r=true then do let ok ← isTrue c X.env (eval c X.env); pure (ForInStep.yield ok) else pure (ForInStep.yield r)) (TP X pins σ Q) X.xe s
def ttF:FT:=fun _=>some true
theorem u6 {X:Cx}:DQ X [] ttF:=fun pins s σ H Q I h=>by
 obtain ⟨H₀,Hf₀,ρ,Hf,b,R,q,k⟩:=h
 cases q
 exact wpAny_tests_nil ⟨H,I,k _ _ R zA zA⟩
theorem ZW {X:Cx} {c:Expr} {ft:FT} (h:DT X c ft):DQ X [c] ft:=fun pins s σ H Q I hq=>wpAny_tests_one (h pins s σ H Q I hq)
def YK (n:Nat) (caps:List Nat) (σ:St):St:=g0l n none++caps.map (fun j=>σ.getD j none)
section
variable {X:Cx} {scope:Scope} {own frees:List Str} {caps:List Nat} {cl:List (Str×Addr)}
theorem M3 {pins:List (Addr×Obj)} {s:Shared} {σ:St} {H:Hp} {fp:List Addr} {C:Addr} {N:List Str} (I:Inv X pins σ H s) (S:CompScope X.env.scope scope own frees) (hfp:∀ b∈fp,uF X pins H b) (hfo:∀ b∈fp,b < s.heap.objs.size)
  (c1:∀ x c,cl.lookup x=some c->X.env.cells.lookup x=some c) (c2:∀ n,(n,NameKind.free)∈scope.names->∃ c,cl.lookup n=some c) (hC:s.heap.objs.size<=C):(cxC X scope cl C N s H fp).Ok where
 mod:=I.ok.mod
 kind:=S.kind
 glob:=I.ok.glob
 blt:=I.ok.blt
 above:=hC
 inj:=fun x y c e1 e2=>I.ok.inj x y c (c1 x c e1) (c1 y c e2)
 has:=fun x hx=>c2 x (ZK S.nocell hx)
 cab:=fun x c h=>by cases h
 hd:=I.ok.hd
 frames:=I.ok.frames
 stk:=.inl rfl
 exf:=fun b hb=>⟨g1u (g1s (hfo b hb) hC),fun x c e=>(hfp b hb).2.2.2.2.1 x c (c1 x c e)⟩
 bs:=I.bs
 bsz:=g2j I.ok.bsz I.sz
 noex:=fun b o e hb=>by
  rcases (hfp b hb).2.2.2.1 with z | z
  ·exact I.ok.noex b o e z
  ·exact absurd (g1s (Heap.lt_size e) (g2j I.ok.bsz z)) (g3t _)
 exfs:=fun b hb z=>by
  rcases g0o.mp (I.stkSub b z) with q | q
  ·exact (hfp b hb).2.1 q
  ·exact (hfp b hb).2.2.1 q
 funs:=I.stack
 frf:=I.stkFree
theorem Cz {caps:List Nat} {N:List Str} {frees:List Str} (h:caps.map (fun j=>N[j]?)=frees.map some) {k:Nat} {x:Str} (e:frees[k]? = some x):∃ j,caps[k]? = some j/\N[j]? = some x:=by
 have:=congrArg (fun l=>l[k]?) h
 simp only [g0z,e,g1f] at this
 cases hc:caps[k]? with
 | none=>rw [hc] at this; cases this
 | some j=>rw [hc] at this; exact ⟨j,rfl,by simpa using this⟩
theorem Dj {pins:List (Addr×Obj)} {s:Shared} {σ:St} {H:Hp} {fp:List Addr} {h':Heap} {t':Nat} (I:Inv X pins σ H s) (S:CompScope X.env.scope scope own frees) (hcap:caps.map (fun j=>X.N[j]?)=frees.map some) (hfp:∀ b∈fp,uF X pins H b) (hfo:∀ b∈fp,b < s.heap.objs.size)
  (c1:∀ x c,cl.lookup x=some c->X.env.cells.lookup x=some c) (c2:∀ n,(n,NameKind.free)∈scope.names->∃ c,cl.lookup n=some c) {C:Addr} (hC:C=s.heap.objs.size+1) (hns:h'.Ns C fun _=>none)
  (hsb:Heap.SameBut C ((s.heap.push { cls:=.type "list",dict:=none,data:=.seq #[] }).push { cls:=.type "dict",data:=.dict #[] }) h') :
  Inv (cxC X scope cl C (own++frees) s H fp) [] (YK own.length caps σ) (upd H s.heap.objs.size (.lst [])) { s with heap:=h',toks:=t' }:=by
 have hk:∀ b u,s.heap.get? b=some u->h'.get? b=some u:=fun b u e=>(hsb.2 b (by rw [hC]; exact g1u (Nat.lt_succ_of_lt (Heap.lt_size e)))).trans (Heap.get?_push_of_some _ (Heap.get?_push_of_some _ e))
 have hD:h'.get? s.heap.objs.size=some { cls:=.type "list",dict:=none,data:=.seq #[] }:=(hsb.2 _ (by rw [hC]; exact g1u (Nat.lt_succ_self _))).trans (Heap.get?_push_of_some _ (Heap.get?_push_size _ rfl))
 have hfD:H s.heap.objs.size=none:=I.hok.fresh (g0q _)
 have hfC:H C=none:=I.hok.fresh (by rw [hC]; exact g3p _)
 have hCD:C≠s.heap.objs.size:=by rw [hC]; exact Nat.succ_ne_self _
 have new:xY X.prog X.w (upd H s.heap.objs.size (.lst [])) h' s.heap.objs.size (.lst []):=⟨by decide,[],0,.nil,hD⟩
 refine ⟨M3 I S hfp hfo c1 c2 (by rw [hC]; exact g3p _),rfl,I.bare,Un.laid hk (g0q _) hfD,⟨fun _=>none,hns,?_⟩,?_,?_,?_,?_,I.hok.laid hk (g0q _) new,?_⟩
 ·intro i x v e1 e2 hv
  have e1:(own++frees)[i]? = some x:=e1
  unfold YK at e2
  by_cases h1:i < own.length
  ·rw [g1e (by simpa using h1),g2b,if_pos h1] at e2
   cases e2
  ·rw [g1q (by simpa using h1)] at e2
   rw [g1q (by omega)] at e1
   have hcl:caps.length=frees.length:=by have:=congrArg List.length hcap; simpa using this
   simp only [List.length_replicate] at e2
   ·rw [g0z] at e2
    obtain ⟨j,q1,q2⟩:=Cz hcap e1
    rw [q1] at e2
    have e2:σ.getD j none=some v:=by simpa using e2
    have e2':σ[j]? = some (some v):=by
     rw [g0d] at e2
     cases z:σ[j]? with
     | none=>rw [z] at e2; cases e2
     | some w=>rw [z] at e2; simp at e2; rw [e2]
    obtain ⟨hx,hsx⟩:=S.capt x (g1y e1)
    obtain ⟨m,hn,hl⟩:=I.loc
    obtain ⟨u,r,lk⟩:=hl j x v q2 e2' (.inr hx)
    refine ⟨u,r,?_⟩
    rcases lk with ⟨k1,_⟩ | ⟨k1,c,k2,k3⟩
    ·have k1:X.env.scope.names.lookup x=some .local:=k1
     rcases hx with z | z <;> rw [z] at k1 <;> cases k1
    ·obtain ⟨c',hc'⟩:=c2 x (ZS hsx)
     have z:=c1 x c' hc'
     rw [k2] at z; cases z
     obtain ⟨o,ho,hd⟩:=k3
     exact .inr ⟨jv hsx,c,hc',o,hk _ _ ho,hd⟩
 ·intro x c e
  obtain ⟨v,o,ho,hd⟩:=I.cell x c (c1 x c e)
  exact ⟨v,o,hk _ _ ho,hd⟩
 ·show (upd H s.heap.objs.size (.lst [])) C=none
  rw [zG hCD]; exact hfC
 ·intro x c e
  have z:=I.freeC x c (c1 x c e)
  obtain ⟨v,o,ho,hd⟩:=I.cell x c (c1 x c e)
  show (upd H s.heap.objs.size (.lst [])) c=none
  rw [zG (g1u (Heap.lt_size ho))]; exact z
 ·intro p hp; cases hp
 ·show (YK own.length caps σ).length=(own++frees).length
  have hcl:caps.length=frees.length:=by have:=congrArg List.length hcap; simpa using this
  simp [YK,hcl]
def qQ (ρ:Rho):Prop:=∀ (i:Nat) (sl:Slot),ρ[i]? = some sl->sl.own=false
theorem Rep.rebase {K:W.Frag} {H₀ Hf₀:Hp} {σ:St} {ρ:Rho} {H Hf H':Hp} (R:Rep K H₀ Hf₀ σ ρ H Hf) (hn:qQ ρ) (hs:yf Hf H'):Rep K H' Hf σ ρ H' Hf where
 s0:=zA
 sf:=hs
 nf:=fun _ _ e=>.inl e
 f0:=zA
 len:=R.len
 fr:=R.fr
 ow:=fun i sl e o=>by rw [hn i sl e] at o; cases o
 inj:=fun i j sl sl' a e o=>by rw [hn i sl e] at o; cases o
def qg (γ:FG):Prop:=∀ d ρ ρ',γ d ρ=some ρ'->qQ ρ->qQ ρ'
theorem qQ.set {ρ:Rho} (h:qQ ρ) (i:Nat) (d:D):qQ (ρ.set i (.fr d)):=fun j sl e=>by
 rw [g1m] at e
 split at e
 ·split at e
  ·cases e; rfl
  ·cases e
 ·exact h j sl e
theorem yQ {i:Nat}:qg (zB i):=fun d ρ ρ' e h=>by cases e; exact h.set i d
def j0 (δ:FGs):Prop:=∀ ds ρ ρ',δ ds ρ=some ρ'->qQ ρ->qQ ρ'
theorem WB:j0 Zv:=fun ds ρ ρ' e h=>by
 cases ds with
 | nil=>cases e; exact h
 | cons _ _=>cases e
theorem vY {γ:FG} {δ:FGs} (h1:qg γ) (h2:j0 δ):j0 (yA γ δ):=fun ds ρ ρ' e h=>by
 cases ds with
 | nil=>cases e
 | cons d r =>
  have e:(γ d ρ).bind (fun ρ'=>δ r ρ')=some ρ':=e
  cases e1:γ d ρ with
  | none=>rw [e1] at e; cases e
  | some ρ1=>rw [e1] at e; exact h2 r ρ1 ρ' e (h1 d ρ ρ1 e1 h)
theorem QZ {n:Nat} {δ:FGs} (h:j0 δ):qg (j7 n δ):=fun d ρ ρ' e hn=>by
 unfold j7 at e
 split at e
 ·split at e
  ·exact h _ ρ ρ' e hn
  ·cases e
 ·cases e
theorem qQ.comp {n:Nat} {caps:List Nat} {ρ:Rho}:qQ (kW n caps ρ):=fun i sl e=>by
 unfold kW at e
 by_cases h:i < n
 ·rw [g1e (by simpa using h),g2b,if_pos h] at e
  cases e; rfl
 ·rw [g1q (by simpa using h),g0z] at e
  cases q:caps[i - (g0l n Slot.no).length]? with
  | none=>rw [q] at e; cases e
  | some j =>
   rw [q] at e
   cases e
   unfold Na
   split <;> rfl
theorem KG {K:W.Frag} {H₀ Hf₀:Hp} {σ:St} {ρ:Rho} {H Hf H':Hp} {n:Nat} {caps:List Nat} (R:Rep K H₀ Hf₀ σ ρ H Hf) (hs:yf Hf H'):Rep K H' Hf (YK n caps σ) (kW n caps ρ) H' Hf where
 s0:=zA
 sf:=hs
 nf:=fun _ _ e=>.inl e
 f0:=zA
 len:=by simp [kW,YK]
 fr:=fun i d e=>by
  unfold kW at e
  unfold YK
  by_cases h:i < n
  ·rw [g1e (by simpa using h),g2b,if_pos h] at e
   cases e
  ·rw [g1q (by simpa using h),g0z] at e ⊢
   simp only [List.length_replicate] at e ⊢
   cases q:caps[i - n]? with
   | none=>rw [q] at e; cases e
   | some j =>
    rw [q] at e
    simp only [g1f,g3e.injEq] at e ⊢
    unfold Na at e
    split at e
    ·cases e
     rename_i e
     obtain ⟨v,q1,q2⟩:=R.fr j d e
     exact ⟨v,by rw [g0d,q1]; rfl,q2⟩
    ·cases e
 ow:=fun i sl e o=>by rw [qQ.comp i sl e] at o; cases o
 inj:=fun i j sl sl' a e o=>by rw [qQ.comp i sl e] at o; cases o
theorem Grows.trans {H Hf H1 Hf1 H2 Hf2:Hp} (a:Grows H Hf H1 Hf1) (b:Grows H1 Hf1 H2 Hf2):Grows H Hf H2 Hf2 :=
 ⟨a.h.trans b.h,a.f.trans b.f,b.fh,fun c o e=>by
  rcases b.new c o e with q | q | q
  ·exact a.new c o q
  ·exact .inr (.inl (a.h.free q))
  ·exact .inr (.inr q)⟩
theorem Rep.toGrows {K:W.Frag} {σ:St} {ρ:Rho} {H Hf H' Hf':Hp} (R:Rep K H Hf σ ρ H' Hf'):Grows H Hf H' Hf':=⟨R.s0,R.f0,R.sf,R.nf⟩
theorem WN {γ:FG} {ft:FT} {f:FE} {d:D} {ds ys:List D} {ρ:Rho} (h:xj γ ft f (d :: ds) ρ=some ys) :
  ∃ ρ1 b,γ d ρ=some ρ1/\ft ρ1=some b/\((b=true/\∃ y r,f ρ1=some y/\xj γ ft f ds ρ1=some r/\ys=y :: r)\/(b=false/\xj γ ft f ds ρ1=some ys)):=by
 unfold xj at h
 cases e1:γ d ρ with
 | none=>rw [e1] at h; cases h
 | some ρ1 =>
  rw [e1] at h
  simp only [g0b] at h
  cases e2:ft ρ1 with
  | none=>rw [e2] at h; cases h
  | some b =>
   rw [e2] at h
   simp only [g0b] at h
   refine ⟨ρ1,b,rfl,e2,?_⟩
   cases b with
   | false=>exact .inr ⟨rfl,by simpa using h⟩
   | true =>
    simp only [if_true] at h
    cases e3:f ρ1 with
    | none=>rw [e3] at h; cases h
    | some y =>
     rw [e3] at h
     simp only [g0b] at h
     cases e4:xj γ ft f ds ρ1 with
     | none=>rw [e4] at h; cases h
     | some r=>rw [e4] at h; cases h; exact .inl ⟨rfl,y,r,rfl,rfl,rfl⟩
theorem XJ {tg elt iter:Expr} {ifs:List Expr} {pos:Pos} {γ:FG} {ft:FT} {f:FE} {pins:List (Addr×Obj)} {s₂:Shared} {σ:St} {H₂ Hf₂ H₀ Hf₀:Hp} {ρ:Rho} {ds ys:List D} {J:It} {fp:List Addr} {it:Addr} {tn:Nat->Heap->Prop} {E:Value->Shared->Prop}
  (hc:X.calm=true) (S:CompScope X.env.scope scope own frees) (hcap:caps.map (fun j=>X.N[j]?)=frees.map some) (kn:qg γ)
  (body:∀ cl C s H fp,DG (cxC X scope cl C (own++frees) s H fp) tg γ/\DQ (cxC X scope cl C (own++frees) s H fp) ifs ft/\DE (cxC X scope cl C (own++frees) s H fp) elt f)
  (c1:∀ x c,cl.lookup x=some c->X.env.cells.lookup x=some c) (c2:∀ n,(n,NameKind.free)∈scope.names->∃ c,cl.lookup n=some c)
  (I:Inv X pins σ H₂ s₂) (T:Turn X.prog X.w X.K tg J fp it tn) (st:tn 0 s₂.heap) (hfp:∀ b∈fp,uF X pins H₂ b) (R:Rep X.K H₀ Hf₀ σ ρ H₂ Hf₂) (wk:Walks X.K Hf₂ J ds) (hz:ds.length<=sizeLine)
  (hgo:xj γ ft f ds (kW own.length caps ρ)=some ys) {RR:Value->Addr->Result->Shared->Prop}
  (hRR:∀ D C s' H' Hf' xs,Inv X pins σ H' s'->(∃ m,s'.heap.Ns C m)->uF X pins H' C->Grows H₂ Hf₂ H' Hf'->zZ X.K Hf' ys xs->H' D=some (.lst xs)->Hf' D=none->H₂ D=none->RR (.ref D) C (.ok .next) s') :
  wpAny (model X.prog X.w) X.A (newList []) (fun acc s₃=>wpAny (model X.prog X.w) X.A (newFunctionEnv scope X.env.globals cl [] X.env.qual none .none (some X.env)) (fun cenv s₄ =>
   codeAny (model X.prog X.w) X.A (.compStart (.ListComp elt [⟨tg,iter,ifs,0⟩] scope pos) 0 (.ref it) acc { cenv with scope:=relabel scope X.env }) (RR acc cenv.locals) s₄) E s₃) E s₂:=by
 have hfo:∀ b∈fp,b < s₂.heap.objs.size:=fun b hb=>by
  obtain ⟨o,ho,_⟩:=T.obj 0 _ st b hb
  exact Heap.lt_size ho
 refine wpAny_newObj_type (wpAny_newFunctionEnv S.nocell (by intro y hy; simp at hy) (fun h₁ hns₁ hsb₁=>?_) S.kind)
 dsimp only at hns₁ hsb₁ ⊢
 have hC:(s₂.heap.push { cls:=.type "list",dict:=none,data:=.seq ([]:List Value).toArray }).objs.size=s₂.heap.objs.size+1:=by rw [Heap.size_push]
 generalize hCe:(s₂.heap.push { cls:=.type "list",dict:=none,data:=.seq ([]:List Value).toArray }).objs.size=C at hC hns₁ hsb₁ ⊢
 obtain ⟨b1,b2,b3⟩:=body cl C s₂ H₂ fp
 have hfD:H₂ s₂.heap.objs.size=none:=I.hok.fresh (g0q _)
 have IC:Inv (cxC X scope cl C (own++frees) s₂ H₂ fp) [] (YK own.length caps σ) (upd H₂ s₂.heap.objs.size (.lst [])) { s₂ with heap:=h₁,toks:=s₂.toks+([]:List (Str×Value)).length } :=
  Dj I S hcap hfp hfo c1 c2 hC hns₁ hsb₁
 have DfD:Hf₂ s₂.heap.objs.size=none:=R.sf.free hfD
 have R1:Rep X.K (upd H₂ s₂.heap.objs.size (.lst [])) Hf₂ (YK own.length caps σ) (kW own.length caps ρ) (upd H₂ s₂.heap.objs.size (.lst [])) Hf₂:=KG R (R.sf.trans (zI hfD))
 have keep1:∀ b o,s₂.heap.get? b=some o->h₁.get? b=some o:=fun b u e=>(hsb₁.2 b (by rw [hC]; exact g1u (Nat.lt_succ_of_lt (Heap.lt_size e)))).trans (Heap.get?_push_of_some _ (Heap.get?_push_of_some _ e))
 have st1:tn 0 h₁:=T.keep 0 _ _ st fun b _ o e=>keep1 b o e
 have stat:∀ {H':Hp},(∀ b∈fp,H' b=none)->∀ b∈fp,uF (cxC X scope cl C (own++frees) s₂ H₂ fp) [] H' b:=fun {H'} hn b hb=>by
  refine ⟨hn b hb,g1u (g1s (hfo b hb) (by rw [hC]; exact g3p _)),fun z=>?_,.inl hb,fun x c e=>(hfp b hb).2.2.2.2.1 x c (c1 x c e),fun p hp=>by cases hp⟩
  rcases g0o.mp (I.stkSub b z) with q | q
  ·exact (hfp b hb).2.1 q
  ·exact (hfp b hb).2.2.1 q
 have fp1:∀ b∈fp,(upd H₂ s₂.heap.objs.size (.lst [])) b=none:=fun b hb=>by
  rw [zG (g1u (hfo b hb))]; exact (hfp b hb).1
 have loop:∀ s₃:Shared,s₃={ s₂ with heap:=h₁,toks:=s₂.toks+([]:List (Str×Value)).length } →
   codeAny (model X.prog X.w) X.A (.compLoop (.ListComp elt [⟨tg,iter,ifs,0⟩] scope pos) 0 (.ref it) (.ref s₂.heap.objs.size) (compEnvC scope cl C X.env)) (RR (.ref s₂.heap.objs.size) C) s₃:=by
  rintro s₃ rfl
  refine XM (fun n s'=>∃ i ρ' σ' H' Hf' zs xs r,n=ds.length - i/\i<=ds.length/\Inv (cxC X scope cl C (own++frees) s₂ H₂ fp) [] σ' H' s'/\tn i s'.heap/\(∀ b∈fp,H' b=none)/\Rep X.K H' Hf' σ' ρ' H' Hf'/\qQ ρ' ∧
   xj γ ft f (ds.drop i) ρ'=some r/\zs++r=ys/\zZ X.K Hf' zs xs/\zs.length<=i/\H' s₂.heap.objs.size=some (.lst xs)/\Hf' s₂.heap.objs.size=none/\Grows H₂ Hf₂ H' Hf') ?_ ds.length
   ⟨0,_,_,_,_,[],[],ys,by simp,g1z _,IC,st1,fp1,R1,qQ.comp,by simpa using hgo,rfl,.nil,by simp,zq,DfD,⟨zI hfD,zA,R1.sf,fun b o e=>.inl e⟩⟩
  rintro n s' ⟨i,ρ',σ',H',Hf',zs,xs,r,rfl,hi,I',st',fr',R',no',go',hys,hxs,hzl,hD',hfD',gr'⟩
  obtain ⟨w1,w2⟩:=wk H' Hf' gr'.f R'.sf i
  by_cases hil:i < ds.length
  ·have hd:ds[i]? = some ds[i]:=g0p hil
   obtain ⟨go,yld⟩:=w1 _ hd
   rw [g2f hil] at go'
   obtain ⟨ρ1,b,eg,et,hb⟩:=WN go'
   refine wpAny_mono (T.item (cxC X scope cl C (own++frees) s₂ H₂ fp) rfl rfl rfl hc i [] s' σ' H' (fun _ _=>False) I' (stat fr') st' go) (fun rv s4 ⟨u,hr,h4⟩=>?_) fun _ _ z=>z
   subst hr
   refine wpAny_mono h4 (fun _ s5 ⟨x,H5,I5,r5,y5,st5,fr5⟩=>?_) fun _ _ z=>z
   obtain ⟨Hf5,gr5,hx5⟩:=yld x H5 y5
   have R5:Rep X.K H' Hf' σ' ρ' H5 Hf5:=R'.grows gr5
   have I5':=I5.pinned (stat fr5) (T.obj _ _ st5)
   refine wpAny_mono (b1 _ s5 σ' H5 x u _ I5' r5 ⟨H',Hf',ρ',Hf5,ds[i],ρ1,R5,hx5,eg,fun σ6 H6 Hf6 R6 t6=>(⟨Hf6,R6,t6⟩:∃ Hf6,Rep X.K H' Hf' σ6 ρ1 H6 Hf6/\yf Hf5 Hf6)⟩) (fun _ s6 h6=>?_) fun _ _ z=>z
   obtain ⟨σ6,H6,I6,Hf6,R6,t6⟩:=h6
   refine wpAny_mono (b2 _ s6 σ6 H6 (fun b' H7=>b'=b/\∃ Hf7,Rep X.K H' Hf' σ6 ρ1 H7 Hf7) I6 ⟨H',Hf',ρ1,Hf6,b,R6,et,fun H7 Hf7 R7 s7 t7=>⟨rfl,Hf7,R7⟩⟩) (fun ok s7 h7=>?_) fun _ _ z=>z
   obtain ⟨H7,I7,rfl,Hf7,R7⟩:=h7
   have no1:=kn _ _ _ eg no'
   have hm:ds.length - (i+1) < ds.length - i:=by omega
   rcases hb with ⟨rfl,y,r',ef,er,rfl⟩ | ⟨rfl,er⟩
   ·rw [if_pos rfl]
    refine wpAny_mono (b3 _ s7 σ6 H7 (fun v H8=>∃ Hf8,Rep X.K H' Hf' σ6 ρ1 H8 Hf8/\Has X.K Hf8 y v) I7 ⟨H',Hf',ρ1,Hf7,y,R7,ef,fun v H8 Hf8 R8 s8 t8 h8=>⟨Hf8,R8,h8⟩⟩) (fun u' s8 h8=>?_) fun _ _ z=>z
    obtain ⟨v,H8,I8,r8,Hf8,R8,h8⟩:=h8
    have hD8:H8 s₂.heap.objs.size=some (.lst xs):=R8.s0 _ _ hD'
    have hfD8:Hf8 s₂.heap.objs.size=none:=by
     cases z:Hf8 s₂.heap.objs.size with
     | none=>rfl
     | some o =>
      rcases R8.nf _ _ z with q | q | ⟨ks,rfl⟩
      ·rw [hfD'] at q; cases q
      ·rw [hD'] at q; cases q
      ·have:=hD8.symm.trans (R8.sf _ _ z); cases this
    have hsd:yf Hf8 (upd H8 s₂.heap.objs.size (.lst (xs++[v]))):=fun b o e=>by rw [zG (yb e hfD8)]; exact R8.sf b o e
    refine wpAny_mono (Xl (X:=cxC X scope cl C (own++frees) s₂ H₂ fp) _ s8 σ6 H8 (.ref s₂.heap.objs.size) [v] _ [u'] (fun _ H9=>H9=upd H8 s₂.heap.objs.size (.lst (xs++[v]))) I8 rfl (.cons r8 .nil) ⟨_,xs,v,rfl,rfl,hD8,by have:=hxs.length; omega,rfl⟩) (fun u9 s9 h9=>?_) fun _ _ z=>z
    obtain ⟨v9,H9,I9,_,rfl⟩:=h9
    refine ⟨_,hm,i+1,ρ1,σ6,_,Hf8,zs++[y],xs++[v],r',rfl,hil,I9.unpinned,T.keep _ _ _ st5 fun b hb o e=>(I9.pin (b,o) (g1c _ (g1c _ (xI hb e)))).1,fun b hb=>?_,R8.rebase no1 hsd,no1,er,by rw [g1a]; exact hys,(hxs.mono R8.f0).append (.cons h8 .nil),by simp; omega,zq,hfD8,?_⟩
    ·obtain ⟨o,e,d⟩:=T.obj _ _ st5 b hb
     exact (I9.pin (b,o) (g1c _ (g1c _ (xI hb e)))).2.1
    ·have g8:=gr'.trans R8.toGrows
     exact ⟨fun b o e=>by rw [zG (yb e hfD)]; exact g8.h b o e,g8.f,hsd,g8.new⟩
   ·rw [if_neg g2a]
    refine ⟨_,hm,i+1,ρ1,σ6,_,Hf7,zs,xs,r,rfl,hil,I7.unpinned,T.keep _ _ _ st5 fun b hb o e=>(I7.pin (b,o) (g1c _ (g1c _ (xI hb e)))).1,fun b hb=>?_,R7.rebase no1 R7.sf,no1,er,hys,hxs.mono R7.f0,by omega,R7.s0 _ _ hD',?_,gr'.trans R7.toGrows⟩
    ·obtain ⟨o,e,d⟩:=T.obj _ _ st5 b hb
     exact (I7.pin (b,o) (g1c _ (g1c _ (xI hb e)))).2.1
    ·cases z:Hf7 s₂.heap.objs.size with
     | none=>rfl
     | some o =>
      rcases R7.nf _ _ z with q | q | ⟨ks,rfl⟩
      ·rw [hfD'] at q; cases q
      ·rw [hD'] at q; cases q
      ·have:=(R7.s0 _ _ hD').symm.trans (R7.sf _ _ z); cases this
  ·have:ds.drop i=[]:=g2s (by omega)
   rw [this] at go'
   cases go'
   rw [g0x] at hys
   subst hys
   refine wpAny_mono (T.done (cxC X scope cl C (own++frees) s₂ H₂ fp) rfl rfl rfl hc i [] s' σ' H' (fun _ _=>False) I' (stat fr') st' (w2 (by omega))) (fun rv s4 ⟨hr,I4⟩=>?_) fun _ _ z=>z
   subst hr
   obtain ⟨m,hn,_⟩:=I4.loc
   have hch:∀ b∈fp,(b∈X.ex\/X.s₀.heap.objs.size<=b)/\b≠X.env.locals/\(∀ x c,X.env.cells.lookup x=some c->c≠b)/\∀ p∈X.pn++pins,p.1≠b:=fun b hb=>⟨(hfp b hb).2.2.2.1,(hfp b hb).2.1,(hfp b hb).2.2.2.2.1,(hfp b hb).2.2.2.2.2⟩
   exact hRR _ C s4 H' Hf' xs (I.call' (s':=s4) I4.os I4.base I4.hok I4.bare hch) ⟨m,hn⟩ (I.fpOk (by rw [hC]; exact g3p _) I4.free) gr' hxs hD' hfD' hfD
 exact codeAny_compStart_list (loop _ rfl) (T.self _ 0 _ _ _ st1 (loop _ rfl))
theorem ZX {n:Nat} {fi:FA} {γ:FG} {ft:FT} {f:FE} {ρ:Rho} {ys:List D} (h:xX n caps fi γ ft f ρ=some ys):∃ ds,fi ρ=some ds/\ds.length<=sizeLine/\xj γ ft f ds (kW n caps ρ)=some ys:=by
 obtain ⟨ds,e1,e2⟩:=yj h
 split at e2
 ·exact ⟨ds,e1,by assumption,e2⟩
 ·cases e2
theorem JO {pins:List (Addr×Obj)} {σ:St} {H:Hp} {s:Shared} (I:Inv X pins σ H s) (S:CompScope X.env.scope scope own frees):∃ cl,closureFor scope X.env=pure cl/\(∀ x c,cl.lookup x=some c->X.env.cells.lookup x=some c)/\∀ n,(n,NameKind.free)∈scope.names->∃ c,cl.lookup n=some c:=by
 obtain ⟨cl,e1,e2,_,e4⟩:=jm (env:=X.env) scope.names [] (fun n hn=>I.ok.has n (S.free (n,.free) hn rfl)) (fun x c e=>by simp at e)
 exact ⟨cl,YL e1,e2,e4⟩
theorem x8 {tg elt iter:Expr} {ifs:List Expr} {pos:Pos} {fi:FA} {γ:FG} {ft:FT} {f:FE} (hc:X.calm=true) (S:CompScope X.env.scope scope own frees) (hcap:caps.map (fun j=>X.N[j]?)=frees.map some) (kn:qg γ) (hi:DI X tg iter fi)
  (body:∀ cl C s H fp,DG (cxC X scope cl C (own++frees) s H fp) tg γ/\DQ (cxC X scope cl C (own++frees) s H fp) ifs ft/\DE (cxC X scope cl C (own++frees) s H fp) elt f)
  (hs:∀ x,foldedSetIterable iter X.env x=pure x:=by intro _; rfl):DN X (.ListComp elt [⟨tg,iter,ifs,0⟩] scope pos) (xX own.length caps fi γ ft f):=by
 intro pins s σ H Q I h
 obtain ⟨H₀,Hf₀,ρ,Hf,ys,R,q,k⟩:=h
 obtain ⟨ds,e1,hz,e2⟩:=ZX q
 obtain ⟨cl,hcl,c1,c2⟩:=JO I S
 rw [eval_ListComp]
 refine wpAny_comprehension_free (use:=none) rfl hs hcl S.kind S.loc (thn (hi pins s σ H (fun J H'=>∃ Hf',Rep X.K H₀ Hf₀ σ ρ H' Hf'/\yf H H'/\yf Hf Hf'/\Walks X.K Hf' J ds) I ⟨H₀,Hf₀,ρ,Hf,ds,R,e1,fun J H' Hf' R' s' t' wk=>⟨Hf',R',s',t',wk⟩⟩) fun v s1 h1=>thn h1 fun itv s2 h2=>?_)
 obtain ⟨it,fp,tn,J,H2,rfl,I2,T,st2,f2,Hf2,R2,s2',t2',wk⟩:=h2
 refine XJ (RR:=compPost (model X.prog X.w) X.A X.xe none (EP X pins σ Q)) hc S hcap kn body c1 c2 I2 T st2 f2 R2 wk hz e2 ?_
 intro D C s' H' Hf' xs I' hns hfC gr hxs hD hfD hD0
 obtain ⟨m,hn⟩:=hns
 refine ⟨m,hn,fun h' hsb=>⟨.ref D,H',?_,rfl,?_⟩⟩
 ·obtain ⟨f0,f1,f2,f3,f4,f5⟩:=hfC
  exact I'.turned (t':=s'.toks) (fun b o hb e=>(hsb.2 b hb).trans e) f0 f1 f3 f4 f5
 ·exact k D xs H' Hf' (R2.grows gr) (s2'.trans gr.h) (t2'.trans gr.f) hxs hD hfD (s2'.free hD0)
theorem V5 {tg elt iter:Expr} {ifs:List Expr} {y:Str} {py pos spos:Pos} {fi:FA} {γ:FG} {ft:FT} {f:FE} (hc:X.calm=true) (S:CompScope X.env.scope scope own frees) (hcap:caps.map (fun j=>X.N[j]?)=frees.map some) (kn:qg γ) (hi:DI X tg iter fi)
  (body:∀ cl C s H fp,DG (cxC X scope cl C (own++frees) s H fp) tg γ/\DQ (cxC X scope cl C (own++frees) s H fp) ifs ft/\DE (cxC X scope cl C (own++frees) s H fp) elt f)
  (hsw:swapsWith (.ListComp elt [⟨tg,iter,ifs,0⟩] scope pos) (some (.Name y py)) spos.line X.env=pure true) (i:Nat) (hN:X.N.Nodup) (hiN:X.N[i]? = some y) (hy:X.env.scope.names.lookup y=some .local)
  (hs:∀ x,foldedSetIterable iter X.env x=pure x):PS X (.Assign [.Name y py] (.ListComp elt [⟨tg,iter,ifs,0⟩] scope pos) spos) (fun D' σ H=>∃ H₀ Hf₀ ρ Hf ys,Rep X.K H₀ Hf₀ σ ρ H Hf/\xX own.length caps fi γ ft f ρ=some ys ∧
   ∀ a xs H' Hf',Rep X.K H₀ Hf₀ σ ρ H' Hf'->yf H H'->yf Hf Hf'->zZ X.K Hf' ys xs->H' a=some (.lst xs)->Hf' a=none->H a=none->D'.nx (σ.set i (some (.ref a))) H'):=by
 intro pins s σ H D' I h
 obtain ⟨H₀,Hf₀,ρ,Hf,ys,R,q,k⟩:=h
 obtain ⟨ds,e1,hz,e2⟩:=ZX q
 obtain ⟨cl,hcl,c1,c2⟩:=JO I S
 rw [exec_Assign_Name_used _ _ _ _ hsw]
 refine wpAny_bind (wpAny_standAt (wpAny_bind ?_))
 show wpAny _ X.A (do let _ ← comprehension (.ListComp elt [⟨tg,iter,ifs,0⟩] scope pos) scope X.env _ (newList []) false (eval iter X.env) (some (assign (.Name y py) X.env))) _ _ s
 refine wpAny_bind (wpAny_mono (wpAny_comprehension_free (use:=some (assign (.Name y py) X.env)) (Q:=fun _ s'=>SP X pins D' .next s') rfl hs hcl S.kind S.loc
  (thn (hi pins s σ H (fun J H'=>∃ Hf',Rep X.K H₀ Hf₀ σ ρ H' Hf'/\yf H H'/\yf Hf Hf'/\Walks X.K Hf' J ds) I ⟨H₀,Hf₀,ρ,Hf,ds,R,e1,fun J H' Hf' R' s' t' wk=>⟨Hf',R',s',t',wk⟩⟩) fun v s1 h1=>thn h1 fun itv s2 h2=>?_)) (fun _ s' hq=>wpAny_pure (wpAny_pure hq)) fun _ _ e=>e)
 obtain ⟨it,fp,tn,J,H2,rfl,I2,T,st2,f2,Hf2,R2,s2',t2',wk⟩:=h2
 refine XJ (RR:=compPost (model X.prog X.w) X.A X.xe (some (assign (.Name y py) X.env)) (fun _ s'=>SP X pins D' .next s')) hc S hcap kn body c1 c2 I2 T st2 f2 R2 wk hz e2 ?_
 intro D C s' H' Hf' xs I' hns hfC gr hxs hD hfD hD0
 obtain ⟨m,hn⟩:=hns
 show wpAny _ X.A (assign (.Name y py) X.env (.ref D)) _ _ _
 refine wpAny_assign_Name (Y0 I' hN hiN (.inl hy) (show xm (.ref D) (.ref D) from rfl) (fun s'' I'' hsb=>?_) (.inr hy))
 obtain ⟨a,hsb,ha⟩:=hsb
 obtain ⟨f0,f1,f2',f3,f4,f5⟩:=hfC
 have haC:a≠C:=by
  rcases ha with z | z
  ·rw [z]; exact Ne.symm f1
  ·exact f4 _ _ z
 refine ⟨m,hn.sameBut hsb (Ne.symm haC),fun h' hsb'=>?_⟩
 exact ⟨_,H',I''.turned (t':=s''.toks) (fun b o hb e=>(hsb'.2 b hb).trans e) f0 f1 f3 f4 f5,k D xs H' Hf' (R2.grows gr) (s2'.trans gr.h) (t2'.trans gr.f) hxs hD hfD (s2'.free hD0)⟩
end
structure Draw (P:Program) (w:World) (K:W.Frag) (J:It) (fp:List Addr) (it:Addr) (tn:Nat->Heap->Prop):Prop where
 mem:it∈fp
 obj:∀ i h,tn i h->∀ b∈fp,∃ o,h.get? b=some o/\∀ v,o.data≠.cell v
 keep:∀ i h h',tn i h->(∀ b∈fp,∀ o,h.get? b=some o->h'.get? b=some o)->tn i h'
 item:∀ (A:Around) (X:Cx),X.prog=P->X.w=w->X.K=K->∀ (i:Nat) (pins:List (Addr×Obj)) (s:Shared) (σ:St) (H:Hp) (E:Value->Shared->Prop),Inv X pins σ H s->(∀ b∈fp,uF X pins H b)->tn i s.heap->J.go i H →
  wpAny (model P w) A (Builtin.SmallTypes.nextOf (.ref it)) (fun u s2=>∃ x H',Inv X pins σ H' s2/\xm x u/\J.yld i H x H'/\tn (i+1) s2.heap/\∀ b∈fp,H' b=none) E s
 fin:∀ (A:Around) (X:Cx),X.prog=P->X.w=w->X.K=K->A.handled=none->∀ (i:Nat) (pins:List (Addr×Obj)) (s:Shared) (σ:St) (H:Hp) (Q:Value->Shared->Prop),Inv X pins σ H s->(∀ b∈fp,uF X pins H b)->tn i s.heap->J.stop i H →
  wpAny (model P w) A (Builtin.SmallTypes.nextOf (.ref it)) Q (fun e s2=>Inv X pins σ H s2/\∃ a o,e=.ref a/\s2.heap.get? a=some o/\o.cls=.type "StopIteration") s
section
variable {prog:Program} {w:World} {A:Around} {E:Value->Shared->Prop} {s:Shared}
theorem jf {it l:Addr} {i:Nat} {items:Array Value} {x:Value} {Q:Value->Shared->Prop} (hit:s.heap.IsTupleIter it l i) (hl:s.heap.IsTuple l items) (hx:items[i]? = some x)
  (hQ:∀ h',h'.IsTupleIter it l (i+1)->Heap.SameBut it s.heap h'->Q x { s with heap:=h' }):wpAny (model prog w) A (Builtin.SmallTypes.nextOf (.ref it)) Q E s:=by
 obtain ⟨o,ho,hc,hd⟩:=id hit
 obtain ⟨ol,hol,_,nl,hdl⟩:=hl
 unfold Builtin.SmallTypes.nextOf
 refine wpAny_bind (wpAny_callSpecial?_slot (name:=Str.ofString "__next__") hit.typeIs F.slot_tuple_iterator_next
  (wpAny_call_entry F.slot_tuple_iterator_next hit.typeIs F.entry_tuple_iterator_next ?_ (F.args_tuple_iterator_next_1 _)))
 show wpAny _ _ (field (.ref it) 0 >>= _) _ _ s
 refine wpAny_bind (wpAny_field ho hd (x:=.ref l) rfl ?_)
 show wpAny _ _ (if (Value.ref l==Value.none)=true then _ else _) _ _ s
 rw [if_neg (show ¬ ((Value.ref l==Value.none)=true) from g2a)]
 show wpAny _ _ (field (.ref it) 1 >>= _) _ _ s
 refine wpAny_bind (wpAny_field ho hd (x:=.int i 0) rfl ?_)
 show wpAny _ _ (seqItems? (.ref l) >>= _) _ _ s
 refine wpAny_bind (wpAny_seqItems hol hdl ?_)
 simp only [Int.toNat_natCast,hx]
 refine wpAny_bind (wpAny_setField ho hd (by simp) (wpAny_pure ⟨x,rfl,wpAny_pure (hQ _ ?_ (Heap.SameBut.update ..))⟩))
 exact ⟨_,Heap.get?_update_self _ ho (Obj.isFreed_of_fields (Obj.data_mapFields hd _)),(Obj.cls_mapFields ..).trans hc,by rw [Obj.data_mapFields hd]; simp [rawInt]⟩
theorem jG {it l:Addr} {i:Nat} {items:Array Value} {Q:Value->Shared->Prop} (hh:A.handled=none) (hit:s.heap.IsTupleIter it l i) (hl:s.heap.IsTuple l items) (hx:items[i]? = none)
  (hE:∀ h' e,Heap.ExtBut it s.heap h'->(∃ o,h'.get? e=some o/\o.cls=.type "StopIteration")->E (.ref e) { s with heap:=h' }):wpAny (model prog w) A (Builtin.SmallTypes.nextOf (.ref it)) Q E s:=by
 obtain ⟨o,ho,hc,hd⟩:=id hit
 obtain ⟨ol,hol,_,nl,hdl⟩:=hl
 unfold Builtin.SmallTypes.nextOf
 refine wpAny_bind (wpAny_callSpecial?_slot (name:=Str.ofString "__next__") hit.typeIs F.slot_tuple_iterator_next
  (wpAny_call_entry F.slot_tuple_iterator_next hit.typeIs F.entry_tuple_iterator_next ?_ (F.args_tuple_iterator_next_1 _)))
 show wpAny _ _ (field (.ref it) 0 >>= _) _ _ s
 refine wpAny_bind (wpAny_field ho hd (x:=.ref l) rfl ?_)
 show wpAny _ _ (if (Value.ref l==Value.none)=true then _ else _) _ _ s
 rw [if_neg (show ¬ ((Value.ref l==Value.none)=true) from g2a)]
 show wpAny _ _ (field (.ref it) 1 >>= _) _ _ s
 refine wpAny_bind (wpAny_field ho hd (x:=.int i 0) rfl ?_)
 show wpAny _ _ (seqItems? (.ref l) >>= _) _ _ s
 refine wpAny_bind (wpAny_seqItems hol hdl ?_)
 simp only [Int.toNat_natCast,hx]
 refine wpAny_bind (wpAny_rule (wpAny_bind (wpAny_setField ho hd (by simp) ?_)))
 show wpAny _ _ (newExc (.type "StopIteration") [] >>= _) _ _ _
 refine wpAny_bind ?_
 simp only [newExc,newTuple]
 refine wpAny_bind (wpAny_newObj_type ?_ (by size_fits))
 refine wpAny_bind (m:=firstArgMember _ _) (wpAny_of_eq (a:=Value.none) (by first | rfl | (simp only [firstArgMember]; rfl)) ?_)
 refine wpAny_newObj_type ?_ (by size_fits)
 simp only [raiseNew]
 refine wpAny_bind (wpAny_handled ?_)
 first | rw [show A.in1.handled=none from hh] | rw [hh]
 refine wpAny_bind (wpAny_pure (wpAny_throw ?_))
 exact hE _ _ (((Heap.SameBut.update ..).extBut.push _).push _) ⟨_,Heap.get?_push_size _ rfl,rfl⟩
end
theorem Jx {P:Program} {w:World} {K:W.Frag} (a it:Addr):Draw P w K (Itl K a) [it] it (fun i h=>h.IsListIter it a i) where
 mem:=by simp
 obj:=fun i h st b hb=>by
  have e:b=it:=by simpa using hb
  subst e
  obtain ⟨o,e,c,d⟩:=st
  exact ⟨o,e,fun v z=>by rw [d] at z; cases z⟩
 keep:=fun i h h' st k=>st.at fun o e=>k it (by simp) o e
 item:=by
  intro A X hP hw hK i pins s σ H E I hf st hg
  subst hP hw hK
  obtain ⟨xs,x,hq,hx⟩:=hg
  obtain ⟨its,rv,p,hz⟩:=I.list hq
  obtain ⟨u,hu,ru⟩:=rv.get hx
  obtain ⟨f0,f1,f2,f3,f4,f5⟩:=hf it (by simp)
  refine wpAny_nextOf_list_item st p.isList (x:=u) (by simpa using hu) fun h' st' sb=>?_
  have I1:Inv X pins σ H { s with heap:=h' }:=I.turned (t':=s.toks) (fun b o hb e=>(sb.2 b hb).trans e) f0 f1 f3 f4 f5
  exact ⟨x,H,I1,ru,⟨rfl,fun ys hy=>by rw [I.list_inj hy hq]; exact hx⟩,st',fun b hb=>(hf b hb).1⟩
 fin:=by
  intro A X hP hw hK hh i pins s σ H Q I hf st hg
  subst hP hw hK
  obtain ⟨xs,hq,hx⟩:=hg
  obtain ⟨its,rv,p,hz⟩:=I.list hq
  obtain ⟨f0,f1,f2,f3,f4,f5⟩:=hf it (by simp)
  have hl:=rv.length
  refine wpAny_nextOf_list_end hh st p.isList (by simp; omega) fun h' e eb ⟨o,ho,hc⟩=>⟨I.turned (t':=s.toks) (fun b o hb e=>eb b o hb e) f0 f1 f3 f4 f5,e,o,rfl,ho,hc⟩
theorem UQ {P:Program} {w:World} {K:W.Frag} (a it:Addr):Draw P w K (Itt K a) [it] it (fun i h=>h.IsTupleIter it a i) where
 mem:=by simp
 obj:=fun i h st b hb=>by
  have e:b=it:=by simpa using hb
  subst e
  obtain ⟨o,e,c,d⟩:=st
  exact ⟨o,e,fun v z=>by rw [d] at z; cases z⟩
 keep:=fun i h h' st k=>st.at fun o e=>k it (by simp) o e
 item:=by
  intro A X hP hw hK i pins s σ H E I hf st hg
  subst hP hw hK
  obtain ⟨xs,x,hq,hx⟩:=hg
  obtain ⟨its,rv,p,hz⟩:=I.tuple hq
  obtain ⟨u,hu,ru⟩:=rv.get hx
  obtain ⟨f0,f1,f2,f3,f4,f5⟩:=hf it (by simp)
  refine jf st (show s.heap.IsTuple a its.toArray from p) (x:=u) (by simpa using hu) fun h' st' sb=>?_
  have I1:Inv X pins σ H { s with heap:=h' }:=I.turned (t':=s.toks) (fun b o hb e=>(sb.2 b hb).trans e) f0 f1 f3 f4 f5
  exact ⟨x,H,I1,ru,⟨rfl,fun ys hy=>by rw [I.tuple_inj hy hq]; exact hx⟩,st',fun b hb=>(hf b hb).1⟩
 fin:=by
  intro A X hP hw hK hh i pins s σ H Q I hf st hg
  subst hP hw hK
  obtain ⟨xs,hq,hx⟩:=hg
  obtain ⟨its,rv,p,hz⟩:=I.tuple hq
  obtain ⟨f0,f1,f2,f3,f4,f5⟩:=hf it (by simp)
  have hl:=rv.length
  exact jG hh st (show s.heap.IsTuple a its.toArray from p) (by simp; omega) fun h' e eb ⟨o,ho,hc⟩=>⟨I.turned (t':=s.toks) (fun b o hb e=>eb b o hb e) f0 f1 f3 f4 f5,e,o,rfl,ho,hc⟩
def ItE (J:It):It:=⟨J.go,fun i H x H'=>∃ y H1 p,J.yld i H y H1/\H1 p=none/\x=.ref p/\H'=upd H1 p (.tup [.int i,y]),J.stop⟩
theorem uF.more {X:Cx} {pins:List (Addr×Obj)} {H:Hp} {b c:Addr} {h:Heap} (f:uF X pins H b) (hne:b≠c):uF X (pins++jw [c] h) H b:=by
 obtain ⟨f0,f1,f2,f3,f4,f5⟩:=f
 refine ⟨f0,f1,f2,f3,f4,fun p hp z=>?_⟩
 rcases g1o.mp hp with q | q
 ·exact f5 p (g1w _ q) z
 ·rcases g1o.mp q with q | q
  ·exact f5 p (g1c _ q) z
  ·have:=(kq q).1
   have e:p.1=c:=by simpa using this
   exact hne (z ▸ e)
theorem uF.none' {X:Cx} {pins:List (Addr×Obj)} {H H':Hp} {b:Addr} (f:uF X pins H b) (h:H' b=none):uF X pins H' b:=⟨h,f.2⟩
theorem U0 {P:Program} {w:World} {K:W.Frag} {elts:List Expr} {kx:Nat} {tp:Pos} {J:It} {fp:List Addr} {it e:Addr} {tn:Nat->Heap->Prop} (T:Draw P w K J fp it tn) (hne:∀ b∈fp,b≠e) :
    Turn P w K (.Tuple elts kx tp) (ItE J) (e :: fp) e (fun i h=>tn i h/\∃ old,IsEnum h e it i old) where
  mem:=g0i
  obj:=fun i h st b hb=>by
    rcases g0o.mp hb with rfl | hb
    · obtain ⟨_,old,he⟩:=st
      exact ⟨_,he,fun v z=>by cases z⟩
    · exact T.obj i h st.1 b hb
  keep:=fun i h h' st k=>⟨T.keep i h h' st.1 fun b hb o e=>k b (g0m _ hb) o e,by obtain ⟨_,old,he⟩:=st; exact ⟨old,k e g0i _ he⟩⟩
  item:=by
    intro X hP hw hK hc i pins s σ H E I hf st hg
    subst hP hw hK
    obtain ⟨st,old,he⟩:=st
    have hT:s.TypeIs (.ref e) "enumerate":=⟨_,he,rfl⟩
    have fe:=hf e g0i
    obtain ⟨f0,f1,f2,f3,f4,f5⟩:=id fe
    unfold pyNext
    refine wpAny_bind (wpAny_attempt (wpAny_callSpecial?_slot (name:=Str.ofString "__next__") hT F.slot_enumerate_next
      (wpAny_call_entry F.slot_enumerate_next hT F.entry_enumerate_next ?_ (F.args_enumerate_next_1 _))))
    show wpAny _ _ (field (.ref e) 2 >>= _) _ _ _
    refine wpAny_bind (wpAny_field he rfl (x:=.ref it) rfl ?_)
    have I0 := I.pinned (fp := [e]) (fun b hb => by have z:b=e:=by simpa using hb
                                                    subst z; exact fe) (fun b hb => by have z:b=e:=by simpa using hb
                                                                                       subst z; exact ⟨_,he,fun v z=>by cases z⟩)
    refine wpAny_bind (wpAny_mono (T.item _ X rfl rfl rfl i _ s σ H _ I0 (fun b hb=>uF.more (hf b (g0m _ hb)) (hne b hb)) st hg) (fun u s1 h1=>?_) fun _ _ z=>z)
    obtain ⟨x,H1,I1,rx,yl,st1,fr1⟩:=h1
    obtain ⟨he₁,f0',_⟩:=I1.pin _ (g1c _ (g1c _ (xI (fp:=[e]) (by simp) he)))
    have he₁:IsEnum s1.heap e it i old:=he₁
    have f0':H1 e=none:=f0'
    have I1:=I1.unpinned
    obtain ⟨hp,g,d,tk,os⟩:=s1
    show wpAny _ _ (field (.ref e) 3 >>= _) _ _ _
    refine wpAny_bind (wpAny_field he₁ rfl (x:=rawInt i) rfl ?_)
    show wpAny _ _ (field (.ref e) 4 >>= _) _ _ _
    refine wpAny_bind (wpAny_field he₁ rfl (x:=.none) rfl ?_)
    show wpAny _ _ (mkInt i >>= _) _ _ _
    refine wpAny_bind (wpAny_mkInt ?_)
    show wpAny _ _ (setField (.ref e) 3 (rawInt ((i:Int)+1)) >>= _) _ _ _
    refine wpAny_bind (wpAny_setField_rec he₁ (by simp) fun h₂ he₂ hs₂=>?_)
    replace hs₂:Heap.SameBut e hp h₂:=hs₂
    replace he₂:IsEnum h₂ e it ((i:Int)+1) old:=he₂
    show wpAny _ _ (setField (.ref e) 4 .none >>= _) _ _ ⟨h₂,g,d,tk+1,os⟩
    refine wpAny_bind (wpAny_setField_rec he₂ (by simp) fun h₃ he₃ hs₃=>?_)
    replace hs₃:Heap.SameBut e h₂ h₃:=hs₃
    replace he₃:IsEnum h₃ e it ((i:Int)+1) old:=he₃
    have I3:Inv X pins σ H1 ⟨h₃,g,d,tk+1,os⟩:=I1.turned (t':=tk+1) (fun b o hb q=>(hs₃.2 b hb).trans ((hs₂.2 b hb).trans q)) f0' f1 f3 f4 f5
    show wpAny _ _ (newTuple [.int i tk,u] >>= _) _ _ ⟨h₃,g,d,tk+1,os⟩
    refine wpAny_bind (wpAny_newTuple ?_)
    have he₄:IsEnum (h₃.push { cls:=.type "tuple",data:=.seq #[.int i tk,u] }) e it ((i:Int)+1) old:=Heap.get?_push_of_some _ he₃
    have hf4:H1 h₃.objs.size=none:=I3.hok.fresh (g0q _)
    have I4:Inv X pins σ (upd H1 h₃.objs.size (.tup [.int i,x])) ⟨h₃.push { cls:=.type "tuple",data:=.seq #[.int i tk,u] },g,d,tk+1,os⟩ :=
      I3.laid (t':=tk+1) (fun b u e=>Heap.get?_push_of_some _ e) (g0q _) ⟨by show 2<=sizeLine; decide,[.int i tk,u],.cons ⟨tk,rfl⟩ (.cons rx .nil),⟨_,Heap.get?_push_size _ rfl,rfl,_,rfl⟩⟩
    have hel:e < h₃.objs.size:=Heap.lt_size he₃
    have fe4:(upd H1 h₃.objs.size (.tup [.int i,x])) e=none:=by rw [zG (g1u hel)]; exact f0'
    generalize hh₄:h₃.push { cls:=.type "tuple",data:=.seq #[.int i tk,u] }=h₄ at he₄ I4
    have st4:tn (i+1) h₄:=T.keep _ _ _ st1 fun b hb o q=>by rw [<- hh₄]; exact Heap.get?_push_of_some _ ((hs₃.2 b (hne b hb)).trans ((hs₂.2 b (hne b hb)).trans q))
    show wpAny _ _ (Builtin.SmallTypes.ownedTupleIsFree (.ref e) >>= _) _ _ ⟨h₄,g,d,tk+1,os⟩
    refine wpAny_bind ?_
    unfold Builtin.SmallTypes.ownedTupleIsFree
    refine wpAny_bind (wpAny_field he₄ rfl (x:=.none) rfl (wpAny_pure ?_))
    simp only [if_true]
    refine wpAny_bind (wpAny_rule ?_)
    refine wpAny_bind (wpAny_field he₄ rfl (x:=old) rfl ?_)
    refine wpAny_bind (wpAny_setField_rec he₄ (by simp) fun h₅ he₅ hs₅=>?_)
    replace hs₅:Heap.SameBut e h₄ h₅:=hs₅
    replace he₅:IsEnum h₅ e it ((i:Int)+1) u:=he₅
    show wpAny _ _ (Builtin.SmallTypes.ownedTupleHandOut (.ref e) (.ref h₃.objs.size) >>= _) _ _ ⟨h₅,g,d,tk+1,os⟩
    refine wpAny_bind ?_
    unfold Builtin.SmallTypes.ownedTupleHandOut
    refine wpAny_bind (wpAny_setField_rec he₅ (by simp) fun h₆ he₆ hs₆=>?_)
    replace hs₆:Heap.SameBut e h₅ h₆:=hs₆
    replace he₆:IsEnumOut h₆ e it ((i:Int)+1) u h₃.objs.size:=he₆
    refine wpAny_setField_rec he₆ (by simp) fun h₇ he₇ hs₇=>?_
    replace hs₇:Heap.SameBut e h₆ h₇:=hs₇
    replace he₇:IsEnumOut h₇ e it ((i:Int)+1) u h₃.objs.size:=he₇
    refine wpAny_bind (wpAny_letGo (wpAny_pure ⟨_,rfl,wpAny_pure ⟨_,rfl,?_⟩⟩))
    unfold letOwnedTupleGo
    refine wpAny_bind (wpAny_load he₇ ?_)
    show wpAny _ _ (if (["enumerate","zip","dict_itemiterator","dict_reverseitemiterator","odict_iterator","itertools.zip_longest","itertools.pairwise"].contains "enumerate" &&
      (#[rawInt h₃.objs.size,.bool false,.ref it,rawInt ((i:Int)+1),.none,u]:Array Value)[0]? == some (rawInt h₃.objs.size))=true then _ else _) _ _ _
    rw [if_pos (by simp)]
    refine wpAny_bind (wpAny_rule ?_)
    show wpAny _ _ (setField (.ref e) 0 .none) _ _ _
    refine wpAny_setField_rec he₇ (by simp) fun h₈ he₈ hs₈=>?_
    replace hs₈:Heap.SameBut e h₇ h₈:=hs₈
    replace he₈:IsEnum h₈ e it ((i:Int)+1) u:=he₈
    have k8:∀ b o,b≠e->h₄.get? b=some o->h₈.get? b=some o:=fun b o hb q=>(hs₈.2 b hb).trans ((hs₇.2 b hb).trans ((hs₆.2 b hb).trans ((hs₅.2 b hb).trans q)))
    refine ⟨.ref h₃.objs.size,_,I4.turned (t':=tk+1) (fun b o hb q=>k8 b o hb q) fe4 f1 f3 f4 f5,rfl,⟨x,H1,h₃.objs.size,yl,hf4,rfl,rfl⟩,⟨T.keep _ _ _ st4 fun b hb o q=>k8 b o (hne b hb) q,u,he₈⟩,fun b hb=>?_⟩
    rcases g0o.mp hb with rfl | hb
    · exact fe4
    · obtain ⟨o,q,_⟩:=T.obj _ _ st1 b hb
      have q3:h₃.get? b=some o:=(hs₃.2 b (hne b hb)).trans ((hs₂.2 b (hne b hb)).trans q)
      rw [zG (g1u (Heap.lt_size q3))]
      exact fr1 b hb
  done:=by
    intro X hP hw hK hc i pins s σ H E I hf st hg
    subst hP hw hK
    obtain ⟨st,old,he⟩:=st
    have hT:s.TypeIs (.ref e) "enumerate":=⟨_,he,rfl⟩
    unfold pyNext
    refine wpAny_bind (wpAny_attempt (wpAny_callSpecial?_slot (name:=Str.ofString "__next__") hT F.slot_enumerate_next
      (wpAny_call_entry F.slot_enumerate_next hT F.entry_enumerate_next ?_ (F.args_enumerate_next_1 _))))
    show wpAny _ _ (field (.ref e) 2 >>= _) _ _ _
    refine wpAny_bind (wpAny_field he rfl (x:=.ref it) rfl ?_)
    refine wpAny_bind (wpAny_mono (T.fin X.A.in1 X rfl rfl rfl (I.ok.hd hc) i pins s σ H _ I (fun b hb=>hf b (g0m _ hb)) st hg) (fun u s1 z=>z) fun e' s1 h1=>?_)
    obtain ⟨I1,a,o,rfl,ho,hcl⟩:=h1
    refine wpAny_bind (wpAny_isInstance (T:="StopIteration") (b:=true) ⟨o,ho,hcl⟩ isSubtype_stop ?_)
    exact wpAny_pure ⟨rfl,I1⟩
  self:=fun A i s Q E st h=>by
    obtain ⟨_,old,he⟩:=st
    have hT:s.TypeIs (.ref e) "enumerate":=⟨_,he,rfl⟩
    refine wpAny_pyIter_slot hT F.slot_enumerate_iter (wpAny_call_entry F.slot_enumerate_iter hT F.entry_enumerate_iter ?_ (F.args_enumerate_iter_1 _))
    show wpAny _ _ (ret (.ref e)) _ _ s
    exact wpAny_pure ⟨_,rfl,"enumerate",_,hT,F.slot_enumerate_next.lookup,h⟩
def ItZ (J1 J2:It):It:=⟨fun i H=>J1.go i H/\∀ x H1,J1.yld i H x H1->J2.go i H1,fun i H x H'=>∃ y1 y2 H1 H2 p,J1.yld i H y1 H1/\J2.yld i H1 y2 H2/\H2 p=none/\x=.ref p/\H'=upd H2 p (.tup [y1,y2]),
 fun i H=>J1.stop i H\/(J1.go i H/\∀ x H1,J1.yld i H x H1->H1=H/\J2.stop i H)⟩
theorem uF.moreL {X:Cx} {pins:List (Addr×Obj)} {H:Hp} {b:Addr} {L:List Addr} {h:Heap} (f:uF X pins H b) (hne:b∉L):uF X (pins++jw L h) H b:=by
 obtain ⟨f0,f1,f2,f3,f4,f5⟩:=f
 refine ⟨f0,f1,f2,f3,f4,fun p hp z=>?_⟩
 rcases g1o.mp hp with q | q
 ·exact f5 p (g1w _ q) z
 ·rcases g1o.mp q with q | q
  ·exact f5 p (g1c _ q) z
  ·have:=(kq q).1
   exact hne (z ▸ this)
theorem wA {X:Cx} {pins:List (Addr×Obj)} {L:List Addr} {h:Heap} {σ:St} {H:Hp} {s:Shared} (I:Inv X (pins++jw L h) σ H s) {b:Addr} {o:Obj} (hb:b∈L) (e:h.get? b=some o):s.heap.get? b=some o/\H b=none:=by
 obtain ⟨q1,q2,_⟩:=I.pin _ (g1c _ (g1c _ (xI hb e)))
 exact ⟨q1,q2⟩
theorem u7 {X:Cx} {pins:List (Addr×Obj)} {σ:St} {H:Hp} {s:Shared} {h':Heap} {t':Nat} {b:Addr} (I:Inv X pins σ H s) (hs:Heap.SameBut b s.heap h') (f:uF X pins H b):Inv X pins σ H { s with heap:=h',toks:=t' }:=by
 obtain ⟨f0,f1,f2,f3,f4,f5⟩:=f
 exact I.turned (t':=t') (fun c o hb q=>(hs.2 c hb).trans q) f0 f1 f3 f4 f5
structure ZApart (z TI TO:Addr) (fp1 fp2:List Addr):Prop where
 a1:z≠TI
 a2:z≠TO
 a3:TI≠TO
 z1:∀ b∈fp1++fp2,b≠z
 z2:∀ b∈fp1++fp2,b≠TI
 z3:∀ b∈fp1++fp2,b≠TO
 d:∀ b∈fp1,b∉fp2
section
variable {P:Program} {w:World} {K:W.Frag} {J1 J2:It} {fp1 fp2:List Addr} {i1 i2 z TI TO:Addr} {tn1 tn2:Nat->Heap->Prop}
def tnZ (tn1 tn2:Nat->Heap->Prop) (z TI TO i1 i2:Addr) (i:Nat) (h:Heap):Prop:=tn1 i h/\tn2 i h/\IsZip h z TI TO .none/\IsPair h TI (.ref i1) (.ref i2)/\∃ a b,IsPair h TO a b
theorem Ko {elts:List Expr} {kx:Nat} {tp:Pos} (D1:Draw P w K J1 fp1 i1 tn1) (D2:Draw P w K J2 fp2 i2 tn2) (Z:ZApart z TI TO fp1 fp2) :
  Turn P w K (.Tuple elts kx tp) (ItZ J1 J2) (z :: TI :: TO :: (fp1++fp2)) z (tnZ tn1 tn2 z TI TO i1 i2) where
 mem:=g0i
 obj:=fun i h st b hb=>by
  obtain ⟨s1,s2,hz,hTI,a,b',hTO⟩:=st
  rcases g0o.mp hb with rfl | hb
  ·exact ⟨_,hz,fun v z=>by cases z⟩
  rcases g0o.mp hb with rfl | hb
  ·exact ⟨_,hTI,fun v z=>by cases z⟩
  rcases g0o.mp hb with rfl | hb
  ·exact ⟨_,hTO,fun v z=>by cases z⟩
  rcases g1o.mp hb with hb | hb
  ·exact D1.obj i h s1 b hb
  ·exact D2.obj i h s2 b hb
 keep:=fun i h h' st k=>by
  obtain ⟨s1,s2,hz,hTI,a,b',hTO⟩:=st
  refine ⟨D1.keep i h h' s1 fun b hb o e=>k b (by simp [hb]) o e,D2.keep i h h' s2 fun b hb o e=>k b (by simp [hb]) o e,k z (by simp) _ hz,k TI (by simp) _ hTI,a,b',k TO (by simp) _ hTO⟩
 item:=by
  intro X hP hw hK hc i pins s σ H E I hf st hg
  subst hP hw hK
  obtain ⟨s1,s2,hz,hTI,a,b',hTO⟩:=st
  obtain ⟨g1,g2⟩:=hg
  have hT:s.TypeIs (.ref z) "zip":=⟨_,hz,rfl⟩
  have fz:=hf z (by simp)
  have fTI:=hf TI (by simp)
  have fTO:=hf TO (by simp)
  have ff1:∀ b∈fp1,uF X pins H b:=fun b hb=>hf b (by simp [hb])
  have ff2:∀ b∈fp2,uF X pins H b:=fun b hb=>hf b (by simp [hb])
  have n1z:∀ b∈fp1,b≠z:=fun b hb=>Z.z1 b (by simp [hb])
  have n2z:∀ b∈fp2,b≠z:=fun b hb=>Z.z1 b (by simp [hb])
  have n1I:∀ b∈fp1,b≠TI:=fun b hb=>Z.z2 b (by simp [hb])
  have n2I:∀ b∈fp2,b≠TI:=fun b hb=>Z.z2 b (by simp [hb])
  have n1O:∀ b∈fp1,b≠TO:=fun b hb=>Z.z3 b (by simp [hb])
  have n2O:∀ b∈fp2,b≠TO:=fun b hb=>Z.z3 b (by simp [hb])
  unfold pyNext
  refine wpAny_bind (wpAny_attempt (wpAny_callSpecial?_slot (name:=Str.ofString "__next__") hT F.slot_zip_next (wpAny_call_entry F.slot_zip_next hT F.entry_zip_next ?_ (F.args_zip_next_1 _))))
  show wpAny _ _ (field (.ref z) 2 >>= _) _ _ _
  refine wpAny_bind (wpAny_field hz rfl (x:=.bool false) rfl ?_)
  show wpAny _ _ (field (.ref z) 3 >>= _) _ _ _
  refine wpAny_bind (wpAny_field hz rfl (x:=.ref TI) rfl ?_)
  refine wpAny_bind (wpAny_seqItems hTI rfl ?_)
  show wpAny _ _ (Builtin.SmallTypes.ownedTupleIsFree (.ref z) >>= _) _ _ _
  refine wpAny_bind ?_
  unfold Builtin.SmallTypes.ownedTupleIsFree
  refine wpAny_bind (wpAny_field hz rfl (x:=.none) rfl (wpAny_pure ?_))
  simp only [if_true]
  refine wpAny_bind (wpAny_rule ?_)
  refine wpAny_bind (wpAny_field hz rfl (x:=.ref TO) rfl ?_)
  refine wpAny_bind (wpAny_setField_rec hz (by simp) fun h₁ hz₁ hs₁=>?_)
  replace hz₁:IsZip h₁ z TI TO .ellipsis:=hz₁
  have I1:Inv X pins σ H { s with heap:=h₁ }:=u7 (t':=s.toks) I hs₁ fz
  have hTI₁:IsPair h₁ TI (.ref i1) (.ref i2):=(hs₁.2 TI (Ne.symm Z.a1)).trans hTI
  have hTO₁:IsPair h₁ TO a b':=(hs₁.2 TO (Ne.symm Z.a2)).trans hTO
  have s1₁:tn1 i h₁:=D1.keep _ _ _ s1 fun b hb o e=>(hs₁.2 b (n1z b hb)).trans e
  have s2₁:tn2 i h₁:=D2.keep _ _ _ s2 fun b hb o e=>(hs₁.2 b (n2z b hb)).trans e
  refine wpAny_bind ?_
  simp only [List.zipIdx_cons,List.zipIdx_nil,List.forIn_cons,List.forIn_nil]
  refine wpAny_bind (wpAny_bind (wpAny_onRaise ?_))
  show wpAny _ _ (Builtin.SmallTypes.nextOf (.ref i1) >>= _) _ _ _
  have I1p:=I1.pinned (fp:=z :: TI :: TO :: fp2) (fun b hb=>by
   rcases g0o.mp hb with rfl | hb
   ·exact fz
   rcases g0o.mp hb with rfl | hb
   ·exact fTI
   rcases g0o.mp hb with rfl | hb
   ·exact fTO
   ·exact ff2 b hb) (fun b hb=>by
   rcases g0o.mp hb with rfl | hb
   ·exact ⟨_,hz₁,fun v z=>by cases z⟩
   rcases g0o.mp hb with rfl | hb
   ·exact ⟨_,hTI₁,fun v z=>by cases z⟩
   rcases g0o.mp hb with rfl | hb
   ·exact ⟨_,hTO₁,fun v z=>by cases z⟩
   ·exact D2.obj _ _ s2₁ b hb)
  refine wpAny_bind (wpAny_mono (D1.item _ X rfl rfl rfl i _ _ σ H _ I1p (fun b hb=>uF.moreL (ff1 b hb) (by
   intro hm
   rcases g0o.mp hm with e | hm
   ·exact n1z b hb e
   rcases g0o.mp hm with e | hm
   ·exact n1I b hb e
   rcases g0o.mp hm with e | hm
   ·exact n1O b hb e
   ·exact Z.d b hb hm)) s1₁ g1) (fun u1 s3 h3=>wpAny_pure ?_) fun _ _ z=>z)
  obtain ⟨x1,H3,I3,r3,y3,st3,fr3⟩:=h3
  obtain ⟨hz₃,fz3⟩:=wA I3 (b:=z) (by simp) hz₁
  obtain ⟨hTI₃,fTI3⟩:=wA I3 (b:=TI) (by simp) hTI₁
  obtain ⟨hTO₃,fTO3⟩:=wA I3 (b:=TO) (by simp) hTO₁
  have hz₃:IsZip s3.heap z TI TO .ellipsis:=hz₃
  have hTI₃:IsPair s3.heap TI (.ref i1) (.ref i2):=hTI₃
  have hTO₃:IsPair s3.heap TO a b':=hTO₃
  have s2₃:tn2 i s3.heap:=D2.keep _ _ _ s2₁ fun b hb o e=>(wA I3 (by simp [hb]) e).1
  have ff2₃:∀ b∈fp2,H3 b=none:=fun b hb=>by
   obtain ⟨o,e,_⟩:=D2.obj _ _ s2₁ b hb
   exact (wA I3 (by simp [hb]) e).2
  have I3:=I3.unpinned
  refine wpAny_bind (wpAny_seqItems hTO₃ rfl ?_)
  refine wpAny_bind (wpAny_updateSeq_pair hTO₃ fun h₄ hTO₄ hs₄=>?_)
  replace hTO₄:IsPair h₄ TO u1 b':=hTO₄
  refine wpAny_bind (wpAny_letGo (wpAny_pure ?_))
  have I4:Inv X pins σ H3 { s3 with heap:=h₄ }:=u7 (t':=s3.toks) I3 hs₄ ⟨fTO3,fTO.2⟩
  have hz₄:IsZip h₄ z TI TO .ellipsis:=(hs₄.2 z Z.a2).trans hz₃
  have hTI₄:IsPair h₄ TI (.ref i1) (.ref i2):=(hs₄.2 TI Z.a3).trans hTI₃
  have st4:tn1 (i+1) h₄:=D1.keep _ _ _ st3 fun b hb o e=>(hs₄.2 b (n1O b hb)).trans e
  have s2₄:tn2 i h₄:=D2.keep _ _ _ s2₃ fun b hb o e=>(hs₄.2 b (n2O b hb)).trans e
  refine wpAny_bind (wpAny_bind (wpAny_onRaise ?_))
  show wpAny _ _ (Builtin.SmallTypes.nextOf (.ref i2) >>= _) _ _ _
  have I4p:=I4.pinned (fp:=z :: TI :: TO :: fp1) (fun b hb=>by
   rcases g0o.mp hb with rfl | hb
   ·exact ⟨fz3,fz.2⟩
   rcases g0o.mp hb with rfl | hb
   ·exact ⟨fTI3,fTI.2⟩
   rcases g0o.mp hb with rfl | hb
   ·exact ⟨fTO3,fTO.2⟩
   ·exact ⟨fr3 b hb,(ff1 b hb).2⟩) (fun b hb=>by
   rcases g0o.mp hb with rfl | hb
   ·exact ⟨_,hz₄,fun v z=>by cases z⟩
   rcases g0o.mp hb with rfl | hb
   ·exact ⟨_,hTI₄,fun v z=>by cases z⟩
   rcases g0o.mp hb with rfl | hb
   ·exact ⟨_,hTO₄,fun v z=>by cases z⟩
   ·exact D1.obj _ _ st4 b hb)
  refine wpAny_bind (wpAny_mono (D2.item _ X rfl rfl rfl i _ _ σ H3 _ I4p (fun b hb=>uF.moreL ⟨ff2₃ b hb,(ff2 b hb).2⟩ (by
   intro hm
   rcases g0o.mp hm with e | hm
   ·exact n2z b hb e
   rcases g0o.mp hm with e | hm
   ·exact n2I b hb e
   rcases g0o.mp hm with e | hm
   ·exact n2O b hb e
   ·exact Z.d b hm hb)) s2₄ (g2 _ _ y3)) (fun u2 s5 h5=>wpAny_pure ?_) fun _ _ z=>z)
  obtain ⟨x2,H5,I5,r5,y5,st5,fr5⟩:=h5
  obtain ⟨hz₅,fz5⟩:=wA I5 (b:=z) (by simp) hz₄
  obtain ⟨hTI₅,fTI5⟩:=wA I5 (b:=TI) (by simp) hTI₄
  obtain ⟨hTO₅,fTO5⟩:=wA I5 (b:=TO) (by simp) hTO₄
  have hz₅:IsZip s5.heap z TI TO .ellipsis:=hz₅
  have hTI₅:IsPair s5.heap TI (.ref i1) (.ref i2):=hTI₅
  have hTO₅:IsPair s5.heap TO u1 b':=hTO₅
  have st5':tn1 (i+1) s5.heap:=D1.keep _ _ _ st4 fun b hb o e=>(wA I5 (by simp [hb]) e).1
  have ff1₅:∀ b∈fp1,H5 b=none:=fun b hb=>by
   obtain ⟨o,e,_⟩:=D1.obj _ _ st4 b hb
   exact (wA I5 (by simp [hb]) e).2
  have I5:=I5.unpinned
  refine wpAny_bind (wpAny_seqItems hTO₅ rfl ?_)
  refine wpAny_bind (wpAny_updateSeq_pair hTO₅ fun h₆ hTO₆ hs₆=>?_)
  replace hTO₆:IsPair h₆ TO u1 u2:=hTO₆
  refine wpAny_bind (wpAny_letGo (wpAny_pure (wpAny_pure ?_)))
  have I6:Inv X pins σ H5 { s5 with heap:=h₆ }:=u7 (t':=s5.toks) I5 hs₆ ⟨fTO5,fTO.2⟩
  have hz₆:IsZip h₆ z TI TO .ellipsis:=(hs₆.2 z Z.a2).trans hz₅
  have hTI₆:IsPair h₆ TI (.ref i1) (.ref i2):=(hs₆.2 TI Z.a3).trans hTI₅
  have st6:tn1 (i+1) h₆:=D1.keep _ _ _ st5' fun b hb o e=>(hs₆.2 b (n1O b hb)).trans e
  have st6':tn2 (i+1) h₆:=D2.keep _ _ _ st5 fun b hb o e=>(hs₆.2 b (n2O b hb)).trans e
  refine wpAny_bind (wpAny_seqItems hTO₆ rfl ?_)
  refine wpAny_bind (wpAny_newTuple ?_)
  have hf7:H5 h₆.objs.size=none:=I6.hok.fresh (g0q _)
  have I7:Inv X pins σ (upd H5 h₆.objs.size (.tup [x1,x2])) { s5 with heap:=h₆.push { cls:=.type "tuple",data:=.seq #[u1,u2] } } :=
   I6.laid (t':=s5.toks) (fun b u e=>Heap.get?_push_of_some _ e) (g0q _) ⟨by show 2<=sizeLine; decide,[u1,u2],.cons r3 (.cons r5 .nil),⟨_,Heap.get?_push_size _ rfl,rfl,_,rfl⟩⟩
  have lz:z < h₆.objs.size:=Heap.lt_size hz₆
  have lTI:TI < h₆.objs.size:=Heap.lt_size hTI₆
  have lTO:TO < h₆.objs.size:=Heap.lt_size hTO₆
  show wpAny _ _ (Builtin.SmallTypes.ownedTupleHandOut (.ref z) (.ref h₆.objs.size) >>= _) _ _ _
  refine wpAny_bind ?_
  unfold Builtin.SmallTypes.ownedTupleHandOut
  have hz₇:IsZip (h₆.push { cls:=.type "tuple",data:=.seq #[u1,u2] }) z TI TO .ellipsis:=Heap.get?_push_of_some _ hz₆
  refine wpAny_bind (wpAny_setField_rec hz₇ (by simp) fun h₈ hz₈ hs₈=>?_)
  replace hz₈:IsZip h₈ z TI TO (rawInt h₆.objs.size):=hz₈
  refine wpAny_setField_rec hz₈ (by simp) fun h₉ hz₉ hs₉=>?_
  replace hz₉:IsZip h₉ z TI TO (rawInt h₆.objs.size):=hz₉
  refine wpAny_pure ⟨_,rfl,wpAny_pure ⟨_,rfl,?_⟩⟩
  refine wpAny_letOwnedTupleGo_zip hz₉ fun h₀ hz₀ hs₀=>?_
  have up:∀ c o,c≠z->h₆.get? c=some o->h₀.get? c=some o:=fun c o hc e=>(hs₀.2 c hc).trans ((hs₉.2 c hc).trans ((hs₈.2 c hc).trans (Heap.get?_push_of_some _ e)))
  have fz7:(upd H5 h₆.objs.size (.tup [x1,x2])) z=none:=by rw [zG (g1u lz)]; exact fz5
  refine ⟨.ref h₆.objs.size,_,I7.turned (t':=s5.toks) (fun b o hb q=>(hs₀.2 b hb).trans ((hs₉.2 b hb).trans ((hs₈.2 b hb).trans q))) fz7 fz.2.1 fz.2.2.2.1 fz.2.2.2.2.1 fz.2.2.2.2.2,rfl,⟨x1,x2,H3,H5,_,y3,y5,hf7,rfl,rfl⟩,
   ⟨D1.keep _ _ _ st6 fun b hb o e=>up b o (n1z b hb) e,D2.keep _ _ _ st6' fun b hb o e=>up b o (n2z b hb) e,hz₀,up _ _ (Ne.symm Z.a1) hTI₆,_,_,up _ _ (Ne.symm Z.a2) hTO₆⟩,fun b hb=>?_⟩
  have old:∀ b,b < h₆.objs.size->H5 b=none->(upd H5 h₆.objs.size (.tup [x1,x2])) b=none:=fun b hl hn=>by rw [zG (g1u hl)]; exact hn
  rcases g0o.mp hb with rfl | hb
  ·exact fz7
  rcases g0o.mp hb with rfl | hb
  ·exact old _ lTI fTI5
  rcases g0o.mp hb with rfl | hb
  ·exact old _ lTO fTO5
  rcases g1o.mp hb with hb | hb
  ·obtain ⟨o,q,_⟩:=D1.obj _ _ st6 b hb
   exact old b (Heap.lt_size q) (ff1₅ b hb)
  ·obtain ⟨o,q,_⟩:=D2.obj _ _ st6' b hb
   exact old b (Heap.lt_size q) (fr5 b hb)
 done:=by
  intro X hP hw hK hc i pins s σ H E I hf st hg
  subst hP hw hK
  obtain ⟨s1,s2,hz,hTI,a,b',hTO⟩:=st
  have hT:s.TypeIs (.ref z) "zip":=⟨_,hz,rfl⟩
  have fz:=hf z (by simp)
  have fTI:=hf TI (by simp)
  have fTO:=hf TO (by simp)
  have ff1:∀ b∈fp1,uF X pins H b:=fun b hb=>hf b (by simp [hb])
  have ff2:∀ b∈fp2,uF X pins H b:=fun b hb=>hf b (by simp [hb])
  have n1z:∀ b∈fp1,b≠z:=fun b hb=>Z.z1 b (by simp [hb])
  have n2z:∀ b∈fp2,b≠z:=fun b hb=>Z.z1 b (by simp [hb])
  have n1I:∀ b∈fp1,b≠TI:=fun b hb=>Z.z2 b (by simp [hb])
  have n2I:∀ b∈fp2,b≠TI:=fun b hb=>Z.z2 b (by simp [hb])
  have n1O:∀ b∈fp1,b≠TO:=fun b hb=>Z.z3 b (by simp [hb])
  have n2O:∀ b∈fp2,b≠TO:=fun b hb=>Z.z3 b (by simp [hb])
  unfold pyNext
  refine wpAny_bind (wpAny_attempt (wpAny_callSpecial?_slot (name:=Str.ofString "__next__") hT F.slot_zip_next (wpAny_call_entry F.slot_zip_next hT F.entry_zip_next ?_ (F.args_zip_next_1 _))))
  show wpAny _ _ (field (.ref z) 2 >>= _) _ _ _
  refine wpAny_bind (wpAny_field hz rfl (x:=.bool false) rfl ?_)
  show wpAny _ _ (field (.ref z) 3 >>= _) _ _ _
  refine wpAny_bind (wpAny_field hz rfl (x:=.ref TI) rfl ?_)
  refine wpAny_bind (wpAny_seqItems hTI rfl ?_)
  show wpAny _ _ (Builtin.SmallTypes.ownedTupleIsFree (.ref z) >>= _) _ _ _
  refine wpAny_bind ?_
  unfold Builtin.SmallTypes.ownedTupleIsFree
  refine wpAny_bind (wpAny_field hz rfl (x:=.none) rfl (wpAny_pure ?_))
  simp only [if_true]
  refine wpAny_bind (wpAny_rule ?_)
  refine wpAny_bind (wpAny_field hz rfl (x:=.ref TO) rfl ?_)
  refine wpAny_bind (wpAny_setField_rec hz (by simp) fun h₁ hz₁ hs₁=>?_)
  replace hz₁:IsZip h₁ z TI TO .ellipsis:=hz₁
  have I1:Inv X pins σ H { s with heap:=h₁ }:=u7 (t':=s.toks) I hs₁ fz
  have hTI₁:IsPair h₁ TI (.ref i1) (.ref i2):=(hs₁.2 TI (Ne.symm Z.a1)).trans hTI
  have hTO₁:IsPair h₁ TO a b':=(hs₁.2 TO (Ne.symm Z.a2)).trans hTO
  have s1₁:tn1 i h₁:=D1.keep _ _ _ s1 fun b hb o e=>(hs₁.2 b (n1z b hb)).trans e
  have s2₁:tn2 i h₁:=D2.keep _ _ _ s2 fun b hb o e=>(hs₁.2 b (n2z b hb)).trans e
  have I1p:=I1.pinned (fp:=z :: TI :: TO :: fp2) (fun b hb=>by
   rcases g0o.mp hb with rfl | hb
   ·exact fz
   rcases g0o.mp hb with rfl | hb
   ·exact fTI
   rcases g0o.mp hb with rfl | hb
   ·exact fTO
   ·exact ff2 b hb) (fun b hb=>by
   rcases g0o.mp hb with rfl | hb
   ·exact ⟨_,hz₁,fun v z=>by cases z⟩
   rcases g0o.mp hb with rfl | hb
   ·exact ⟨_,hTI₁,fun v z=>by cases z⟩
   rcases g0o.mp hb with rfl | hb
   ·exact ⟨_,hTO₁,fun v z=>by cases z⟩
   ·exact D2.obj _ _ s2₁ b hb)
  have out1:∀ b∈fp1,uF X (pins++jw (z :: TI :: TO :: fp2) h₁) H b:=fun b hb=>uF.moreL (ff1 b hb) (by
   intro hm
   rcases g0o.mp hm with e | hm
   ·exact n1z b hb e
   rcases g0o.mp hm with e | hm
   ·exact n1I b hb e
   rcases g0o.mp hm with e | hm
   ·exact n1O b hb e
   ·exact Z.d b hb hm)
  refine wpAny_bind ?_
  simp only [List.zipIdx_cons,List.zipIdx_nil,List.forIn_cons,List.forIn_nil]
  refine wpAny_bind (wpAny_bind (wpAny_onRaise ?_))
  show wpAny _ _ (Builtin.SmallTypes.nextOf (.ref i1) >>= _) _ _ _
  rcases hg with hg | ⟨g1,hg⟩
  ·refine wpAny_bind (wpAny_mono (D1.fin X.A.in1 X rfl rfl rfl (I.ok.hd hc) i _ _ σ H _ I1p out1 s1₁ hg) (fun _ _ z=>z) fun e s3 h3=>?_)
   obtain ⟨I3,c,o,rfl,ho,hcl⟩:=h3
   obtain ⟨hz₃,fz3⟩:=wA I3 (b:=z) (by simp) hz₁
   have hz₃:IsZip s3.heap z TI TO .ellipsis:=hz₃
   have hcz:c≠z:=fun x=>by subst x; rw [hz₃] at ho; cases ho; simp at hcl
   refine wpAny_setField_rec hz₃ (by simp) fun h₄ hz₄ hs₄=>?_
   refine wpAny_bind (wpAny_isInstance (T:="StopIteration") (b:=true) ⟨o,(hs₄.2 c hcz).trans ho,hcl⟩ isSubtype_stop ?_)
   exact wpAny_pure ⟨rfl,u7 (t':=s3.toks) I3.unpinned hs₄ ⟨fz3,fz.2⟩⟩
  ·refine wpAny_bind (wpAny_mono (D1.item _ X rfl rfl rfl i _ _ σ H _ I1p out1 s1₁ g1) (fun u1 s3 h3=>wpAny_pure ?_) fun _ _ z=>z)
   obtain ⟨x1,H3,I3,r3,y3,st3,fr3⟩:=h3
   obtain ⟨rfl,hst⟩:=hg _ _ y3
   obtain ⟨hz₃,fz3⟩:=wA I3 (b:=z) (by simp) hz₁
   obtain ⟨hTI₃,fTI3⟩:=wA I3 (b:=TI) (by simp) hTI₁
   obtain ⟨hTO₃,fTO3⟩:=wA I3 (b:=TO) (by simp) hTO₁
   have hz₃:IsZip s3.heap z TI TO .ellipsis:=hz₃
   have hTO₃:IsPair s3.heap TO a b':=hTO₃
   have s2₃:tn2 i s3.heap:=D2.keep _ _ _ s2₁ fun b hb o e=>(wA I3 (by simp [hb]) e).1
   have I3:=I3.unpinned
   refine wpAny_bind (wpAny_seqItems hTO₃ rfl ?_)
   refine wpAny_bind (wpAny_updateSeq_pair hTO₃ fun h₄ hTO₄ hs₄=>?_)
   refine wpAny_bind (wpAny_letGo (wpAny_pure ?_))
   have I4:Inv X pins σ H3 { s3 with heap:=h₄ }:=u7 (t':=s3.toks) I3 hs₄ ⟨fTO3,fTO.2⟩
   have hz₄:IsZip h₄ z TI TO .ellipsis:=(hs₄.2 z Z.a2).trans hz₃
   have s2₄:tn2 i h₄:=D2.keep _ _ _ s2₃ fun b hb o e=>(hs₄.2 b (n2O b hb)).trans e
   refine wpAny_bind (wpAny_bind (wpAny_onRaise ?_))
   show wpAny _ _ (Builtin.SmallTypes.nextOf (.ref i2) >>= _) _ _ _
   have I4p:=I4.pinned (fp:=[z]) (fun b hb=>by
    have e:b=z:=by simpa using hb
    subst e; exact ⟨fz3,fz.2⟩) (fun b hb=>by
    have e:b=z:=by simpa using hb
    subst e; exact ⟨_,hz₄,fun v z=>by cases z⟩)
   refine wpAny_bind (wpAny_mono (D2.fin X.A.in1 X rfl rfl rfl (I.ok.hd hc) i _ _ σ H3 _ I4p (fun b hb=>uF.moreL (ff2 b hb) (by
    intro hm
    exact n2z b hb (by simpa using hm))) s2₄ hst) (fun _ _ z=>z) fun e s5 h5=>?_)
   obtain ⟨I5,c,o,rfl,ho,hcl⟩:=h5
   obtain ⟨hz₅,fz5⟩:=wA I5 (b:=z) (by simp) hz₄
   have hz₅:IsZip s5.heap z TI TO .ellipsis:=hz₅
   have hcz:c≠z:=fun x=>by subst x; rw [hz₅] at ho; cases ho; simp at hcl
   refine wpAny_setField_rec hz₅ (by simp) fun h₆ hz₆ hs₆=>?_
   refine wpAny_bind (wpAny_isInstance (T:="StopIteration") (b:=true) ⟨o,(hs₆.2 c hcz).trans ho,hcl⟩ isSubtype_stop ?_)
   exact wpAny_pure ⟨rfl,u7 (t':=s5.toks) I5.unpinned hs₆ ⟨fz5,fz.2⟩⟩
 self:=fun A i s Q E st h=>wpAny_pyIter_zip st.2.2.1 h
end
def SqH (b:Bool) (h:Heap) (a:Addr) (its:Array Value):Prop:=if b=true then h.IsList a its else h.IsTuple a its
def wo (b:Bool) (a:Addr):Obj:={ cls:=.type (if b=true then "list_iterator" else "tuple_iterator"),data:=.fields #[.ref a,.int 0 0] }
theorem SqH.push {b:Bool} {h:Heap} {a:Addr} {its:Array Value} (q:SqH b h a its) (o:Obj):SqH b (h.push o) a its:=by
 cases b with
 | true=>exact Heap.IsList.push q o
 | false=>exact Heap.IsTuple.push q o
section
variable {prog:Program} {w:World} {A:Around} {E:Value->Shared->Prop} {s:Shared}
theorem vC {b:Bool} {a:Addr} {its:Array Value} {Q:Value->Shared->Prop} (q:SqH b s.heap a its) (h:Q (.ref s.heap.objs.size) { s with heap:=s.heap.push (wo b a) }):wpAny (model prog w) A (pyIter (.ref a)) Q E s:=by
 cases b with
 | true=>exact wpAny_pyIter_list q h
 | false=>exact wpAny_pyIter_tuple q h
theorem Uz (b:Bool) (a:Addr) (its:Array Value) :
  Meets (Builtin.«enumerate.__new__» ⟨[.type "enumerate",.ref a],[]⟩) (fun _ R s=>SqH b s.heap a its ∧
   R (.ok (.ret (.ref (s.heap.push (wo b a)).objs.size))) { s with heap:=(s.heap.push (wo b a)).push { cls:=.type "enumerate",data:=.fields #[.none,.bool false,.ref s.heap.objs.size,rawInt 0,.none,.none] } }) :=
 .of_wp fun prog w A R s h=>by
  obtain ⟨hp,g,d,tk,os⟩:=s; obtain ⟨hl,h⟩:=h
  have hsub:=sub_enumerate
  have hL:SqH b (Shared.heap ⟨hp,g,d,tk,os⟩) a its:=hl
  wp_walk using vC hL
  refine wpAny_stack_any fun st=>wpAny_pure ?_
  split
  ·rename_i c _ _ _ _ _
   cases (c==Value.type "enumerate")
   ·wp_walk using vC hL
    exact ⟨_,rfl,h⟩
   ·wp_walk using vC hL
    exact ⟨_,rfl,h⟩
  ·wp_walk using vC hL
   exact ⟨_,rfl,h⟩
theorem JZ {b:Bool} {a:Addr} {its:Array Value} {Q:Value->Shared->Prop} (hL:SqH b s.heap a its)
  (h:∀ h',IsEnum h' (s.heap.objs.size+1) s.heap.objs.size 0 .none->h'.get? s.heap.objs.size=some (wo b a)->(∀ b o,s.heap.get? b=some o->h'.get? b=some o)->Q (.ref (s.heap.objs.size+1)) { s with heap:=h' }) :
  wpAny (model prog w) A (call (.type "enumerate") [.ref a]) Q E s:=by
 refine callType_new F.called_enumerate (by decide) (F.typeCall_enumerate_1 _) (F.newCall_enumerate_1 _) (fun obj=>F.args_object_init_2 obj _) F.entry_enumerate_new (Uz b a its) ⟨hL,?_⟩
 have hz:(s.heap.push (wo b a)).objs.size=s.heap.objs.size+1:=Heap.size_push ..
 show _/\_
 rw [hz]
 have he:IsEnum ((s.heap.push (wo b a)).push { cls:=.type "enumerate",data:=.fields #[.none,.bool false,.ref s.heap.objs.size,rawInt 0,.none,.none] }) (s.heap.objs.size+1) s.heap.objs.size 0 .none:=by
  have:=Heap.get?_push_size (s.heap.push (wo b a)) (o:={ cls:=.type "enumerate",data:=.fields #[.none,.bool false,.ref s.heap.objs.size,rawInt 0,.none,.none] }) rfl
  rw [hz] at this; exact this
 exact ⟨⟨_,he,rfl⟩,h _ he (Heap.get?_push_of_some _ (Heap.get?_push_size _ rfl)) fun b o x=>Heap.get?_push_of_some _ (Heap.get?_push_of_some _ x)⟩
theorem QQ (b1 b2:Bool) (l1 l2:Addr) (xs ys:Array Value) :
  Meets (Builtin.«zip.__new__» ⟨[.type "zip",.ref l1,.ref l2],[]⟩) (fun _ R s=>SqH b1 s.heap l1 xs/\SqH b2 s.heap l2 ys ∧
   R (.ok (.ret (.ref ((((s.heap.push (wo b1 l1)).push (wo b2 l2)).push { cls:=.type "tuple",data:=.seq #[.ref s.heap.objs.size,.ref (s.heap.push (wo b1 l1)).objs.size] }).push { cls:=.type "tuple",data:=.seq #[.none,.none] }).objs.size)))
    { s with heap:=((((s.heap.push (wo b1 l1)).push (wo b2 l2)).push { cls:=.type "tuple",data:=.seq #[.ref s.heap.objs.size,.ref (s.heap.push (wo b1 l1)).objs.size] }).push { cls:=.type "tuple",data:=.seq #[.none,.none] }).push ({ cls:=.type "zip",data:=.fields #[.none,.bool false,.bool false,.ref ((s.heap.push (wo b1 l1)).push (wo b2 l2)).objs.size,.ref (((s.heap.push (wo b1 l1)).push (wo b2 l2)).push { cls:=.type "tuple",data:=.seq #[.ref s.heap.objs.size,.ref (s.heap.push (wo b1 l1)).objs.size] }).objs.size] }:Obj) }) :=
 .of_wp fun prog w A R s h=>by
  obtain ⟨hp,g,d,tk,os⟩:=s; obtain ⟨hl1,hl2,h⟩:=h
  have hsub:=sub_zip
  have hL1:SqH b1 (Shared.heap ⟨hp,g,d,tk,os⟩) l1 xs:=hl1
  have hL2:SqH b2 (Shared.heap ⟨hp.push (wo b1 l1),g,d,tk,os⟩) l2 ys:=SqH.push hl2 _
  wp_walk using vC hL1,vC hL2
  exact ⟨_,rfl,h⟩
theorem G7 {b1 b2:Bool} {l1 l2:Addr} {xs ys:Array Value} {Q:Value->Shared->Prop} (hl1:SqH b1 s.heap l1 xs) (hl2:SqH b2 s.heap l2 ys)
  (h:∀ h',IsZip h' (s.heap.objs.size+4) (s.heap.objs.size+2) (s.heap.objs.size+3) .none->IsPair h' (s.heap.objs.size+2) (.ref s.heap.objs.size) (.ref (s.heap.objs.size+1)) →
   IsPair h' (s.heap.objs.size+3) .none .none->h'.get? s.heap.objs.size=some (wo b1 l1)->h'.get? (s.heap.objs.size+1)=some (wo b2 l2)->(∀ c o,s.heap.get? c=some o->h'.get? c=some o)->Q (.ref (s.heap.objs.size+4)) { s with heap:=h' }) :
  wpAny (model prog w) A (call (.type "zip") [.ref l1,.ref l2]) Q E s:=by
 refine callType_new F.called_zip (by decide) (F.typeCall_zip_2 _ _) (F.newCall_zip_2 _ _) (fun obj=>F.args_object_init_3 obj _ _) F.entry_zip_new (QQ b1 b2 l1 l2 xs ys) ⟨hl1,hl2,?_⟩
 generalize e1:s.heap.push (wo b1 l1)=h1
 generalize e2:h1.push (wo b2 l2)=h2
 generalize e3:h2.push { cls:=.type "tuple",data:=.seq #[.ref s.heap.objs.size,.ref h1.objs.size] }=h3
 generalize e4:h3.push { cls:=.type "tuple",data:=.seq #[.none,.none] }=h4
 have z1:h1.objs.size=s.heap.objs.size+1:=by rw [<- e1]; exact Heap.size_push ..
 have z2:h2.objs.size=s.heap.objs.size+2:=by rw [<- e2,Heap.size_push,z1]
 have z3:h3.objs.size=s.heap.objs.size+3:=by rw [<- e3,Heap.size_push,z2]
 have z4:h4.objs.size=s.heap.objs.size+4:=by rw [<- e4,Heap.size_push,z3]
 have k1:∀ c o,s.heap.get? c=some o->h1.get? c=some o:=fun c o x=>by rw [<- e1]; exact Heap.get?_push_of_some _ x
 have k2:∀ c o,h1.get? c=some o->h2.get? c=some o:=fun c o x=>by rw [<- e2]; exact Heap.get?_push_of_some _ x
 have k3:∀ c o,h2.get? c=some o->h3.get? c=some o:=fun c o x=>by rw [<- e3]; exact Heap.get?_push_of_some _ x
 have k4:∀ c o,h3.get? c=some o->h4.get? c=some o:=fun c o x=>by rw [<- e4]; exact Heap.get?_push_of_some _ x
 have g1:h1.get? s.heap.objs.size=some (wo b1 l1):=by rw [<- e1]; exact Heap.get?_push_size _ rfl
 have g2:h2.get? h1.objs.size=some (wo b2 l2):=by rw [<- e2]; exact Heap.get?_push_size _ rfl
 have g3:IsPair h3 h2.objs.size (.ref s.heap.objs.size) (.ref h1.objs.size):=by show h3.get? h2.objs.size=_; rw [<- e3]; exact Heap.get?_push_size _ rfl
 have g4:IsPair h4 h3.objs.size .none .none:=by show h4.get? h3.objs.size=_; rw [<- e4]; exact Heap.get?_push_size _ rfl
 show _/\_
 rw [z2,z3,z4]
 rw [z1] at g2
 rw [z1,z2] at g3
 rw [z3] at g4
 have g5:IsZip (h4.push { cls:=.type "zip",data:=.fields #[.none,.bool false,.bool false,.ref (s.heap.objs.size+2),.ref (s.heap.objs.size+3)] }) (s.heap.objs.size+4) (s.heap.objs.size+2) (s.heap.objs.size+3) .none:=by
  have:=Heap.get?_push_size h4 (o:={ cls:=.type "zip",data:=.fields #[.none,.bool false,.bool false,.ref (s.heap.objs.size+2),.ref (s.heap.objs.size+3)] }) rfl
  rw [z4] at this; exact this
 exact ⟨⟨_,g5,rfl⟩,h _ g5 (Heap.get?_push_of_some _ (k4 _ _ g3)) (Heap.get?_push_of_some _ g4) (Heap.get?_push_of_some _ (k4 _ _ (k3 _ _ (k2 _ _ g1)))) (Heap.get?_push_of_some _ (k4 _ _ (k3 _ _ g2))) fun c o x=>Heap.get?_push_of_some _ (k4 _ _ (k3 _ _ (k2 _ _ (k1 _ _ x))))⟩
theorem Wk {e it:Addr} {i:Int} {old:Value} {Q:Value->Shared->Prop} (he:IsEnum s.heap e it i old) (h:Q (.ref e) s):wpAny (model prog w) A (pyIter (.ref e)) Q E s:=by
 have hT:s.TypeIs (.ref e) "enumerate":=⟨_,he,rfl⟩
 refine wpAny_pyIter_slot hT F.slot_enumerate_iter (wpAny_call_entry F.slot_enumerate_iter hT F.entry_enumerate_iter ?_ (F.args_enumerate_iter_1 _))
 show wpAny _ _ (ret (.ref e)) _ _ s
 exact wpAny_pure ⟨_,rfl,"enumerate",_,hT,F.slot_enumerate_next.lookup,h⟩
end
theorem ZD {K:W.Frag} {Hf:Hp} {a:Addr} {xs:List V} {ds:List D} (qa:SqL K Hf a xs) (la:zZ K Hf ds xs):Walks K Hf (Itl K a) ds:=fun H2 Hf2 t2 sf2 i=>by
 refine ⟨fun d hd=>?_,fun hle=>⟨xs,sf2.seq (t2.seq qa),by rw [la.length]; exact hle⟩⟩
 obtain ⟨v,e3,e4⟩:=la.get hd
 have sq:SqL K H2 a xs:=sf2.seq (t2.seq qa)
 refine ⟨⟨xs,v,sq,e3⟩,fun x H3 hy=>?_⟩
 obtain ⟨rfl,hy⟩:=hy
 have:=hy xs sq
 rw [e3] at this
 cases this
 exact ⟨Hf2,Grows.refl sf2,e4.mono t2⟩
theorem YX {K:W.Frag} {Hf:Hp} {a:Addr} {xs:List V} {ds:List D} (qa:SqT K Hf a xs) (la:zZ K Hf ds xs):Walks K Hf (Itt K a) ds:=fun H2 Hf2 t2 sf2 i=>by
 refine ⟨fun d hd=>?_,fun hle=>⟨xs,Yj sf2 (Yj t2 qa),by rw [la.length]; exact hle⟩⟩
 obtain ⟨v,e3,e4⟩:=la.get hd
 have sq:SqT K H2 a xs:=Yj sf2 (Yj t2 qa)
 refine ⟨⟨xs,v,sq,e3⟩,fun x H3 hy=>?_⟩
 obtain ⟨rfl,hy⟩:=hy
 have:=hy xs sq
 rw [e3] at this
 cases this
 exact ⟨Hf2,Grows.refl sf2,e4.mono t2⟩
theorem Grows.lay {H Hf:Hp} {p:Addr} {o:HO} (s:yf Hf H) (hp:H p=none):Grows H Hf (upd H p o) (upd Hf p o):=by
 have hfp:Hf p=none:=s.free hp
 refine ⟨zI hp,zI hfp,fun b u e=>?_,fun b u e=>?_⟩
 ·by_cases hb:b=p
  ·subst hb; rw [zq] at e ⊢; exact e
  ·rw [zG hb] at e ⊢; exact s b u e
 ·by_cases hb:b=p
  ·subst hb; exact .inr (.inl hp)
  ·rw [zG hb] at e; exact .inl e
def YG (ds:List D):List D:=ds.zipIdx.map fun p=>.tup [.int (p.2:Int),p.1]
theorem Jv {ds:List D} {i:Nat} {d:D} (h:(YG ds)[i]? = some d):∃ x,ds[i]? = some x/\d=.tup [.int i,x]:=by
 unfold YG at h
 rw [g0z,List.getElem?_zipIdx] at h
 cases e:ds[i]? with
 | none=>rw [e] at h; cases h
 | some x=>rw [e] at h; simp at h; exact ⟨x,rfl,h.symm⟩
theorem XE (ds:List D):(YG ds).length=ds.length:=by simp [YG]
theorem V6 {K:W.Frag} {Hf:Hp} {J:It} {ds:List D} (wk:Walks K Hf J ds):Walks K Hf (ItE J) (YG ds):=fun H2 Hf2 t2 sf2 i=>by
 obtain ⟨w1,w2⟩:=wk H2 Hf2 t2 sf2 i
 refine ⟨fun d hd=>?_,fun hle=>w2 (by rw [XE] at hle; exact hle)⟩
 obtain ⟨x,hx,rfl⟩:=Jv hd
 obtain ⟨go,yl⟩:=w1 x hx
 refine ⟨go,fun v H3 hy=>?_⟩
 obtain ⟨y,H1,p,hy,hp,rfl,rfl⟩:=hy
 obtain ⟨Hf1,gr,hh⟩:=yl y H1 hy
 have g2:=Grows.lay (o:=.tup [.int i,y]) gr.fh hp
 exact ⟨_,gr.trans g2,Has.tup_iff.mpr ⟨p,_,rfl,SqT.of zq,.cons (Has.int_iff.mpr rfl) (.cons (hh.mono g2.f) .nil)⟩⟩
def Kc (xs ys:List D):List D:=(xs.zip ys).map fun p=>.tup [p.1,p.2]
theorem Kl {xs ys:List D} {i:Nat} {d:D} (h:(Kc xs ys)[i]? = some d):∃ x y,xs[i]? = some x/\ys[i]? = some y/\d=.tup [x,y]:=by
 unfold Kc at h
 rw [g0z] at h
 cases e:(xs.zip ys)[i]? with
 | none=>rw [e] at h; cases h
 | some p =>
  rw [e] at h
  simp at h
  obtain ⟨h1,h2⟩:=List.getElem?_zip_eq_some.mp e
  exact ⟨p.1,p.2,h1,h2,h.symm⟩
theorem Wb (xs ys:List D):(Kc xs ys).length=min xs.length ys.length:=by simp [Kc]
theorem UZ {K:W.Frag} {Hf:Hp} {J1 J2:It} {xs ys:List D} (hq:∀ i H x H',J1.yld i H x H'->H'=H) (w1:Walks K Hf J1 xs) (w2:Walks K Hf J2 ys):Walks K Hf (ItZ J1 J2) (Kc xs ys):=fun H2 Hf2 t2 sf2 i=>by
 obtain ⟨a1,a2⟩:=w1 H2 Hf2 t2 sf2 i
 obtain ⟨b1,b2⟩:=w2 H2 Hf2 t2 sf2 i
 refine ⟨fun d hd=>?_,fun hle=>?_⟩
 ·obtain ⟨x,y,hx,hy,rfl⟩:=Kl hd
  obtain ⟨go1,yl1⟩:=a1 x hx
  obtain ⟨go2,yl2⟩:=b1 y hy
  refine ⟨⟨go1,fun v H1 q=>by rw [hq _ _ _ _ q]; exact go2⟩,fun v H3 q=>?_⟩
  obtain ⟨y1,y2,H1,H2',p,q1,q2,hp,rfl,rfl⟩:=q
  have e1:=hq _ _ _ _ q1
  subst e1
  obtain ⟨Hf1,gr1,h1⟩:=yl1 y1 _ q1
  obtain ⟨Hf3,gr3,h3⟩:=(w2 H1 Hf1 (t2.trans gr1.f) gr1.fh i).1 y hy |>.2 y2 _ q2
  have g2:=Grows.lay (o:=.tup [y1,y2]) gr3.fh hp
  exact ⟨_,(gr1.trans gr3).trans g2,Has.tup_iff.mpr ⟨p,_,rfl,SqT.of zq,.cons ((h1.mono gr3.f).mono g2.f) (.cons (h3.mono g2.f) .nil)⟩⟩
 ·rw [Wb] at hle
  by_cases h:xs.length<=i
  ·exact .inl (a2 h)
  ·have hx:xs[i]? = some xs[i]:=g0p (by omega)
   exact .inr ⟨(a1 _ hx).1,fun v H1 q=>⟨hq _ _ _ _ q,b2 (by omega)⟩⟩
section
variable {X:Cx} {e e1 e2:Expr} {f f1 f2:FE} {pos:Pos} {elts:List Expr} {kx:Nat} {tp:Pos}
theorem VB {pins:List (Addr×Obj)} {σ:St} {H:Hp} {s:Shared} (I:Inv X pins σ H s) {b:Addr} (hb:s.heap.objs.size<=b):uF X pins H b:=I.fpOk hb (I.hok.fresh hb)
def Qa:D->Option (List D)
 | .lst ds=>some ds
 | .tup ds=>some ds
 | _=>none
def zF (f:FE):FA:=fun ρ=>(f ρ).bind Qa
def Q6 (f:FE):FA:=fun ρ=>(zF f ρ).bind fun ds=>some (YG ds)
def Q5 (f g:FE):FA:=fun ρ=>(zF f ρ).bind fun xs=>(zF g ρ).bind fun ys=>some (Kc xs ys)
theorem U5 {pins:List (Addr×Obj)} {σ:St} {H Hf:Hp} {s:Shared} {d:D} {ds:List D} {v:V} {u:Value} (I:Inv X pins σ H s) (sf:yf Hf H) (h:Has X.K Hf d v) (hd:Qa d=some ds) (r:xm v u) :
  ∃ (b:Bool) (a:Addr) (its:Array Value) (J:It),u=.ref a/\SqH b s.heap a its/\Walks X.K Hf J ds/\(∀ i H x H',J.yld i H x H'->H'=H) ∧
   ∀ it,∃ tn:Nat->Heap->Prop,Draw X.prog X.w X.K J [it] it tn/\∀ h:Heap,h.get? it=some (wo b a)->tn 0 h:=by
 cases d with
 | lst ds' =>
  cases hd
  obtain ⟨a,xs,rfl,qa,la⟩:=Has.lst_iff.mp h
  cases r
  obtain ⟨its,_,p,_⟩:=I.list (sf.seq qa)
  exact ⟨true,a,_,_,rfl,p.isList,ZD qa la,fun _ _ _ _ q=>q.1,fun it=>⟨_,Jx a it,fun h e=>⟨_,e,rfl,rfl⟩⟩⟩
 | tup ds' =>
  cases hd
  obtain ⟨a,xs,rfl,qa,la⟩:=Has.tup_iff.mp h
  cases r
  obtain ⟨its,_,p,_⟩:=I.tuple (Yj sf qa)
  exact ⟨false,a,_,_,rfl,p,YX qa la,fun _ _ _ _ q=>q.1,fun it=>⟨_,UQ a it,fun h e=>⟨_,e,rfl,rfl⟩⟩⟩
 | _=>cases hd
theorem Dd {p:Pos} (hg:Gl X "enumerate") (hm:X.mg "enumerate"=none) (he:DE X e f) (hs:starEach [e] X.env=[(false,eval e X.env)]:=by rfl):DI X (.Tuple elts kx tp) (.Call (.Name "enumerate" p) [e] [] pos) (Q6 f):=by
 intro pins s σ H R I h
 obtain ⟨H₀,Hf₀,ρ,Hf,ds',R0,q,k⟩:=h
 obtain ⟨ds,q1,q2⟩:=yj q
 cases q2
 obtain ⟨d,q3,q4⟩:=ya q1
 refine Call_ (Xp I hg hm boot_enumerate (PyProof.Rows.callWith_type1 (thn ((wK he u4 hs) pos pins s σ H (fun vs H1=>∃ v Hf1,vs=[v]/\Rep X.K H₀ Hf₀ σ ρ H1 Hf1/\yf H H1/\yf Hf Hf1/\Has X.K Hf1 d v) I ⟨H₀,Hf₀,ρ,Hf,d,R0,q3,fun v H1 Hf1 R1 s1 t1 h1=>⟨v,Hf1,rfl,R1,s1,t1,h1⟩⟩) fun us s1 ⟨vs,H1,I1,r1,q1⟩=>?_) hs rfl))
 obtain ⟨v,Hf1,rfl,R1,s1',t1,h1⟩:=q1
 cases r1 with
 | cons r rr =>
  cases rr
  obtain ⟨b,a,its,J,rfl,sq,wk,_,dr⟩:=U5 I1 R1.sf h1 q4 r
  refine JZ sq fun h' he' hi' hk=>?_
  have I2:Inv X pins σ H1 { s1 with heap:=h' }:=I1.kept (t':=s1.toks) hk
  obtain ⟨tn,D,st⟩:=dr s1.heap.objs.size
  refine Wk he' ⟨s1.heap.objs.size+1,[s1.heap.objs.size+1,s1.heap.objs.size],_,_,H1,rfl,I2,U0 (elts:=elts) (kx:=kx) (tp:=tp) (e:=s1.heap.objs.size+1) D (fun b hb=>by
   have e:b=s1.heap.objs.size:=by simpa using hb
   rw [e]; exact g1u (Nat.lt_succ_self _)),⟨st _ hi',_,he'⟩,fun b hb=>?_,k _ _ _ R1 s1' t1 (V6 wk)⟩
  rcases g0o.mp hb with rfl | hb
  ·exact VB I1 (g3p _)
  ·have e:b=s1.heap.objs.size:=by simpa using hb
   rw [e]; exact VB I1 (g0q _)
theorem MT {p:Pos} (hg:Gl X "zip") (hm:X.mg "zip"=none) (h1:DE X e1 f1) (h2:DE X e2 f2) (hs:starEach [e1,e2] X.env=[(false,eval e1 X.env),(false,eval e2 X.env)]:=by rfl) (hs2:starEach [e2] X.env=[(false,eval e2 X.env)]:=by rfl) :
  DI X (.Tuple elts kx tp) (.Call (.Name "zip" p) [e1,e2] [] pos) (Q5 f1 f2):=by
 intro pins s σ H R I h
 obtain ⟨H₀,Hf₀,ρ,Hf,ds',R0,q,k⟩:=h
 obtain ⟨xs,q1,q2⟩:=yj q
 obtain ⟨ys,q5,q6⟩:=yj q2
 cases q6
 obtain ⟨d1,q3,q4⟩:=ya q1
 obtain ⟨d2,q7,q8⟩:=ya q5
 refine Call_ (Xp I hg hm boot_zip (PyProof.Rows.callWith_type1 (thn ((wK h1 (wK h2 u4 hs2) (by rw [hs,hs2])) pos pins s σ H (fun vs H1=>∃ v v' Hf1,vs=[v,v']/\Rep X.K H₀ Hf₀ σ ρ H1 Hf1/\yf H H1/\yf Hf Hf1/\Has X.K Hf1 d1 v/\Has X.K Hf1 d2 v') I
  ⟨H₀,Hf₀,ρ,Hf,d1,R0,q3,fun v H1 Hf1 R1 s1 t1 h1=>⟨H₀,Hf₀,ρ,Hf1,d2,R1,q7,fun v' H2 Hf2 R2 s2 t2 h2=>⟨v,v',Hf2,rfl,R2,s1.trans s2,t1.trans t2,h1.mono t2,h2⟩⟩⟩) fun us s1 ⟨vs,H1,I1,r1,q1⟩=>?_) (by rw [hs,hs2]) (by rw [hs2]; rfl)))
 obtain ⟨v,v',Hf1,rfl,R1,s1',t1,hv,hv'⟩:=q1
 cases r1 with
 | cons r rr =>
  cases rr with
  | cons r' rr =>
   cases rr
   obtain ⟨b,a,its,J,rfl,sq,wk,hq,dr⟩:=U5 I1 R1.sf hv q4 r
   obtain ⟨b',a',its',J',rfl,sq',wk',hq',dr'⟩:=U5 I1 R1.sf hv' q8 r'
   refine G7 sq sq' fun h' hz hTI hTO hi hi' hk=>?_
   have I2:Inv X pins σ H1 { s1 with heap:=h' }:=I1.kept (t':=s1.toks) hk
   obtain ⟨tn,D,st⟩:=dr s1.heap.objs.size
   obtain ⟨tn',D',st'⟩:=dr' (s1.heap.objs.size+1)
   have mem:∀ b:Addr,b∈[s1.heap.objs.size]++[s1.heap.objs.size+1]->b=s1.heap.objs.size\/b=s1.heap.objs.size+1:=fun b hb=>by simpa using hb
   have Z:ZApart (s1.heap.objs.size+4) (s1.heap.objs.size+2) (s1.heap.objs.size+3) [s1.heap.objs.size] [s1.heap.objs.size+1] :=
    ⟨by show (_:Nat)≠_; omega,by show (_:Nat)≠_; omega,by show (_:Nat)≠_; omega,fun b hb=>by rcases mem b hb with e | e <;> (rw [e]; show (_:Nat)≠_; omega),fun b hb=>by rcases mem b hb with e | e <;> (rw [e]; show (_:Nat)≠_; omega),
     fun b hb=>by rcases mem b hb with e | e <;> (rw [e]; show (_:Nat)≠_; omega),fun b hb hb'=>by
      have e1:b=s1.heap.objs.size:=by simpa using hb
      have e2:b=s1.heap.objs.size+1:=by simpa using hb'
      rw [e1] at e2
      exact absurd e2 (g1u (Nat.lt_succ_self _))⟩
   refine wpAny_pyIter_zip hz ⟨_,_,_,_,H1,rfl,I2,Ko (elts:=elts) (kx:=kx) (tp:=tp) D D' Z,⟨st _ hi,st' _ hi',hz,hTI,_,_,hTO⟩,fun b hb=>?_,k _ _ _ R1 s1' t1 (UZ hq wk wk')⟩
   have hle:s1.heap.objs.size<=b:=by
    have:b=s1.heap.objs.size+4\/b=s1.heap.objs.size+2\/b=s1.heap.objs.size+3\/b=s1.heap.objs.size\/b=s1.heap.objs.size+1:=by simpa using hb
    rcases this with e | e | e | e | e <;> (rw [e]; show (_:Nat)<=_; omega)
   exact VB I1 hle
end
section
variable {prog:Program} {w:World} {A:Around} {E:Value->Shared->Prop} {s:Shared}
theorem jh {t sl:Addr} {items:Array Value} {vl vu:Value} {lo hi:Option Int} {Q:Value->Shared->Prop} (ht:IsTup s.heap t items) (hs:s.heap.IsSliceOf sl vl vu .none) (pl:IsPart vl lo) (pu:IsPart vu hi)
  (hw:HT.sIx items.size 0 lo=0/\HT.sIx items.size items.size hi=items.size) (h:Q (.ref t) s):wpAny (model prog w) A (getItem (.ref t) (.ref sl)) Q E s:=by
 obtain ⟨os,hos,hcs,hds⟩:=id hs
 have hTs:s.TypeIs (.ref sl) "slice":=⟨os,hos,hcs⟩
 unfold getItem
 try with_reducible refine wpAny_holding ?_
 first | refine wpAny_bind (wpAny_pure ?_) | skip
 refine wpAny_bind (wpAny_sequenceKey ht.typeIs (by decide) ?_)
 refine wpAny_bind (wpAny_callSpecial?_slot (name:=Str.ofString "__getitem__") ht.typeIs PyProof.Rows.slot_tuple_getitem
  (wpAny_call_entry PyProof.Rows.slot_tuple_getitem ht.typeIs entry_tuple_getitem ?_ (args_tuple_getitem _ _)))
 show wpAny _ _ (Builtin.Tuple.tupleItemsOf (.ref t) >>= _) _ _ s
 refine wpAny_bind (tupleItemsOf_ ht ?_)
 refine wpAny_bind (wpAny_typeOf hTs ?_)
 rw [if_pos (by decide)]
 refine wpAny_bind (HT.sliceApplied_gen hs pl pu ?_)
 rw [hw.1,hw.2]
 show wpAny _ _ (if (((0:Nat):Int)==0&&(1:Int)==1&&(items.size - 0)==items.size)=true then _ else _) _ _ s
 rw [if_pos (by simp)]
 show wpAny _ _ (Builtin.Tuple.tupleIsExact (.ref t) >>= _) _ _ s
 unfold Builtin.Tuple.tupleIsExact
 refine wpAny_bind (wpAny_bind (wpAny_typeOf ht.typeIs (wpAny_pure ?_)))
 rw [if_pos (by decide)]
 refine wpAny_bind (wpAny_rule ?_)
 exact wpAny_pure ⟨_,rfl,wpAny_pure h⟩
open PySem.AutoSeq1 (wpAny_loadPart') in
theorem Wf (l b:Addr) (items2:Array Value) (n n2:Nat) (dd dd2:Option Addr) (sl sl2:Array (Option Value)) :
  Meets (Builtin.«tuple.__add__» ⟨[.ref l,.ref b],[]⟩) (fun _ R s=>s.heap.get? l=some { cls:=.type "tuple",dict:=dd,data:=.seq #[] n,slots:=sl }/\s.heap.get? b=some { cls:=.type "tuple",dict:=dd2,data:=.seq items2 n2,slots:=sl2 }/\R (.ok (.ret (.ref b))) s) :=
 .of_wp fun prog w A R s h=>by
  obtain ⟨hp,g,d,tk,os⟩:=s; obtain ⟨hl,hb,h⟩:=h
  have f2:=AutoSeq1.sub_tuple_tuple
  wp_walk using wpAny_loadPart' hl,wpAny_loadPart' hb
  exact ⟨_,rfl,h⟩
theorem G6 {t b:Addr} {ws:List Value} {Q:Value->Shared->Prop} (ht:IsTup s.heap t #[]) (hb:IsTup s.heap b ws.toArray) (h:Q (.ref b) s):wpAny (model prog w) A (binaryOp .Add (.ref t) (.ref b)) Q E s:=by
 obtain ⟨⟨cls,dd,data,sl⟩,ho,hc,n,hd⟩:=id ht
 obtain ⟨⟨cls2,dd2,data2,sl2⟩,ho2,hc2,n2,hd2⟩:=id hb
 simp only at hc hd hc2 hd2
 subst hc hd hc2 hd2
 exact concat_meets ⟨_,ho,rfl⟩ ⟨_,ho2,rfl⟩ noFill_tuple_add seq_tuple_add PySem.F.slot_tuple_add PySem.F.entry_tuple_add (PySem.F.args_tuple_add_2 _ _) (Wf t b ws.toArray n n2 dd dd2 sl sl2) ⟨ho,ho2,h⟩
end
section
variable {X:Cx}
def Hn (K:W.Frag):R2:=fun x y H Q=>∃ a b xs ys,x=.ref a/\y=.ref b/\SqT K H a xs/\SqT K H b ys/\xs.length+ys.length<=sizeLine ∧
 (xs=[]->Q (.ref b) H)/\(xs≠[]->ys=[]->Q (.ref a) H)/\(xs≠[]->ys≠[]->∀ p,H p=none->Q (.ref p) (upd H p (.tup (xs++ys))))
theorem K3:OpR X (binaryOp .Add) (Hn X.K):=by
 intro pins s σ H x y v u Q I rx ry h
 obtain ⟨a,b,xs,ys,rfl,rfl,ha,hb,hz,q0,q1,q2⟩:=h
 by_cases hx:xs=[]
 ·subst hx
  cases rx
  cases ry
  obtain ⟨its,r1,p1,_⟩:=I.tuple ha
  obtain ⟨its2,r2,p2,_⟩:=I.tuple hb
  cases r1
  exact G6 p1 p2 ⟨.ref b,H,I,rfl,q0 rfl⟩
 ·exact Cb pins s σ H _ _ v u Q I rx ry ⟨a,b,xs,ys,rfl,rfl,ha,hb,hx,hz,q1 hx,q2 hx⟩
def Ho (K:W.Frag):R2:=fun x y H Q=>∃ a b xs ys,x=.ref a/\y=.ref b/\SqL K H a xs/\SqL K H b ys/\xs.length+ys.length<=sizeLine/\∀ p,H p=none->Q (.ref p) (upd H p (.lst (xs++ys)))
theorem K4:OpR X (binaryOp .Add) (Ho X.K):=by
 intro pins s σ H x y v u Q I rx ry h
 obtain ⟨a,b,xs,ys,rfl,rfl,ha,hb,hz,q⟩:=h
 cases rx
 cases ry
 obtain ⟨its,r1,p1,_⟩:=I.list ha
 obtain ⟨its2,r2,p2,_⟩:=I.list hb
 obtain ⟨⟨cls,dd,data,sl⟩,ho,hc,n,hd⟩:=id p1.isList
 obtain ⟨⟨cls2,dd2,data2,sl2⟩,ho2,hc2,n2,hd2⟩:=id p2.isList
 simp only at hc hd hc2 hd2
 subst hc hd hc2 hd2
 have e:its.toArray++its2.toArray=(its++its2).toArray:=by simp
 have hsz:its.toArray.size+its2.toArray.size<=sizeLine:=by
  rw [g1d,g1d,<- r1.length,<- r2.length]; exact hz
 refine concat_meets ⟨_,ho,rfl⟩ ⟨_,ho2,rfl⟩ noFill_list_add seq_list_add PySem.F.slot_list_add PySem.F.entry_list_add (PySem.F.args_list_add_2 _ _) (list_addW a b its.toArray its2.toArray n n2 dd dd2 sl sl2 hsz) ⟨ho,ho2,?_⟩
 rw [e]
 exact ⟨.ref _,_,I.lnew (t':=s.toks) (r1.append r2) (by rw [g0g]; exact hz),rfl,q _ I.fresh⟩
def Fi (K:W.Frag):R2:=fun x y H Q=>rI0 (fun i j=>.int (i+j)) x y H Q\/(∃ i j,x=.str i/\y=.str j/\i.length+j.length<=sizeLine/\Q (.str (i++j)) H)\/Hn K x y H Q\/Ho K x y H Q
theorem Cc:OpR X (binaryOp .Add) (Fi X.K):=FK.or (Um.or (K3.or K4))
def wB:D->D->Option D
 | .int i,.int j=>some (.int (i+j))
 | .str x,.str y=>if x.length+y.length<=sizeLine then some (.str (x++y)) else none
 | .tup xs,.tup ys=>if xs.length+ys.length<=sizeLine then some (.tup (xs++ys)) else none
 | .lst xs,.lst ys=>if xs.length+ys.length<=sizeLine then some (.lst (xs++ys)) else none
 | _,_=>none
theorem zZ.nil_of {K:W.Frag} {H:Hp} {ds:List D} {xs:List V} (h:zZ K H ds xs):xs=[]↔ds=[]:=by
 have:=h.length
 constructor
 ·intro e; subst e; exact g2v this.symm
 ·intro e; subst e; exact g2v this
theorem qh.tupF {K:W.Frag} {Hf:Hp} {σ:St} {ρ:Rho} {ds:List D} {v:V} (h:qh K Hf σ ρ (.tup ds) v):Has K Hf (.tup ds) v:=by
 rcases h with h | ⟨_,_,e,_⟩
 ·exact h
 ·cases e
theorem K6:OpD X (Fi X.K) wB:=by
 intro σ ρ H₀ Hf₀ H Hf x y dx dy d Q R hx hy hφ k
 unfold wB at hφ
 split at hφ
 ·cases hφ
  exact .inl ⟨_,_,hx.int,hy.int,k _ _ _ R zA zA (Has.int_iff.mpr rfl)⟩
 ·split at hφ
  ·cases hφ
   exact .inr (.inl ⟨_,_,hx.str,hy.str,by assumption,k _ _ _ R zA zA (Has.str_iff.mpr rfl)⟩)
  ·cases hφ
 ·split at hφ
  ·cases hφ
   rename_i xs ys hz
   obtain ⟨a,vs,rfl,qa,la⟩:=hx.tup R
   obtain ⟨b,ws,rfl,qb,lb⟩:=hy.tup R
   refine .inr (.inr (.inl ⟨a,b,vs,ws,rfl,rfl,qa,qb,by rw [la.length,lb.length]; exact hz,fun e=>?_,fun _ e=>?_,fun _ _ p hp=>?_⟩))
   ·cases la.nil_of.mp e
    exact k _ _ _ R zA zA (by rw [g0r]; exact hy.tupF)
   ·cases lb.nil_of.mp e
    exact k _ _ _ R zA zA (by rw [g0x]; exact hx.tupF)
   ·have sm:=zI (o:=.tup (vs++ws)) (R.sf.free hp)
    exact k _ _ _ (R.lay hp) (zI hp) sm (Has.tup_iff.mpr ⟨p,_,rfl,SqT.of zq,(la.append lb).mono sm⟩)
  ·cases hφ
 ·split at hφ
  ·cases hφ
   rename_i xs ys hz
   obtain ⟨a,vs,rfl,qa,la⟩:=hx.lst R
   obtain ⟨b,ws,rfl,qb,lb⟩:=hy.lst R
   refine .inr (.inr (.inr ⟨a,b,vs,ws,rfl,rfl,qa,qb,by rw [la.length,lb.length]; exact hz,fun p hp=>?_⟩))
   have sm:=zI (o:=.lst (vs++ws)) (R.sf.free hp)
   exact k _ _ _ (R.lay hp) (zI hp) sm (Has.lst_iff.mpr ⟨p,_,rfl,SqL.of zq,(la.append lb).mono sm⟩)
  ·cases hφ
 ·cases hφ
variable {a b c e:Expr} {f g h:FE} {pos p2:Pos}
theorem yG (ha:DR X a f) (hb:DR X b g):DE X (.BinOp a .Add b pos) (zb wB f g):=DC Cc K6 ha hb
abbrev FP:=Rho->Option (Option Int)
def noP:FP:=fun _=>some none
def exP (f:FE):FP:=fun ρ=>(f ρ).bind fun | .int i=>some (some i) | _=>none
def tP (K:W.Frag) (f:FP):TO:=fun σ H Q=>∃ H₀ Hf₀ ρ Hf o,Rep K H₀ Hf₀ σ ρ H Hf/\f ρ=some o/\∀ H' Hf',Rep K H₀ Hf₀ σ ρ H' Hf'->yf H H'->yf Hf Hf'->Q o H'
def DP (X:Cx) (e:Option Expr) (f:FP):Prop:=PO X e (tP X.K f)
theorem Hu {e:Option Expr} {t t':TO} (h:PO X e t) (i:∀ σ H Q,t' σ H Q->t σ H Q):PO X e t':=fun pins s σ H Q I hw=>h pins s σ H Q I (i _ _ _ hw)
theorem C9:DP X none noP:=Hu BN fun σ H Q ⟨H₀,Hf₀,ρ,Hf,d,R,q,k⟩=>by cases q; exact k _ _ R zA zA
theorem Jz (h:DR X e f):DP X (some e) (exP f):=Hu (BM h) fun σ H Q ⟨H₀,Hf₀,ρ,Hf,d,R,q,k⟩=>by
 obtain ⟨x,e1,e2⟩:=ya q
 cases x <;> try cases e2
 exact ⟨H₀,Hf₀,ρ,Hf,_,R,e1,fun v H1 Hf1 R1 s1 t1 h1=>⟨_,h1.int,k _ _ R1 s1 t1⟩⟩
def Zr {α:Type} (xs:List α) (lo hi:Option Int):List α:=(xs.drop (HT.sIx xs.length 0 lo)).take (HT.sIx xs.length xs.length hi - HT.sIx xs.length 0 lo)
theorem zZ.cut {K:W.Frag} {H:Hp} {ds:List D} {xs:List V} (h:zZ K H ds xs) (lo hi:Option Int):zZ K H (Zr ds lo hi) (JN xs lo hi):=by
 unfold Zr JN
 rw [h.length]
 exact (h.drop _).take _
def NW (K:W.Frag):V->Option Int->Option Int->Hp->VK->Prop:=fun x lo hi H Q=>∃ a xs,x=.ref a/\SqT K H a xs ∧
 ((HT.sIx xs.length 0 lo=0/\HT.sIx xs.length xs.length hi=xs.length)->Q (.ref a) H)/\(¬ (HT.sIx xs.length 0 lo=0/\HT.sIx xs.length xs.length hi=xs.length)->∀ p,H p=none->Q (.ref p) (upd H p (.tup (JN xs lo hi))))
theorem Bi:SlR X (NW X.K):=by
 intro pins s σ H x v vl vu lo hi sl Q I rx hs pl pu h
 obtain ⟨a,xs,rfl,hx,q1,q2⟩:=h
 by_cases hw:HT.sIx xs.length 0 lo=0/\HT.sIx xs.length xs.length hi=xs.length
 ·cases rx
  obtain ⟨its,r,ht,hz⟩:=I.tuple hx
  have hlen:its.toArray.size=xs.length:=by rw [g1d]; exact r.length.symm
  refine ⟨"tuple",_,PyProof.Rows.slot_tuple_getitem.lookup,ht.typeIs,?_⟩
  exact jh ht hs pl pu (by rw [hlen]; exact hw) ⟨.ref a,H,I,rfl,q1 hw⟩
 ·exact D3 pins s σ H _ v vl vu lo hi sl Q I rx hs pl pu ⟨a,xs,rfl,hx,hw,q2 hw⟩
def ZG (f:FE) (l u:FP):FE:=fun ρ=>(f ρ).bind fun x=>(l ρ).bind fun lo=>(u ρ).bind fun hi=>match x with
 | .tup ds=>some (.tup (Zr ds lo hi))
 | .lst ds=>some (.lst (Zr ds lo hi))
 | _=>none
theorem JL {ds:List D} {lo hi:Option Int} (h:HT.sIx ds.length 0 lo=0/\HT.sIx ds.length ds.length hi=ds.length):Zr ds lo hi=ds:=by
 unfold Zr
 rw [h.1,h.2]
 simp
theorem YJ {lo hi:Option Expr} {l u:FP} (he:DR X e f) (hl:DP X lo l) (hu:DP X hi u):DE X (.Subscript e (.Slice lo hi none p2) pos) (ZG f l u) :=
 yP (KY (Bi.or Bj) he hl hu) fun σ H Q ⟨H₀,Hf₀,ρ,Hf,d,R,q,k⟩=>by
  obtain ⟨x,e1,e2⟩:=ya q
  cases e3:l ρ with
  | none=>rw [e3] at e2; cases e2
  | some lo =>
   rw [e3] at e2
   cases e4:u ρ with
   | none=>rw [e4] at e2; cases e2
   | some hi =>
    rw [e4] at e2
    simp only [g0b] at e2
    refine ⟨H₀,Hf₀,ρ,Hf,x,R,e1,fun v H1 Hf1 R1 s1 t1 h1=>⟨H₀,Hf₀,ρ,Hf1,lo,R1,e3,fun H2 Hf2 R2 s2 t2=>⟨H₀,Hf₀,ρ,Hf2,hi,R2,e4,fun H3 Hf3 R3 s3 t3=>?_⟩⟩⟩
    have h3:=(h1.mono t2).mono t3
    have ss:=(s1.trans s2).trans s3
    have tt:=(t1.trans t2).trans t3
    split at e2
    ·cases e2
     obtain ⟨a,xs,rfl,qa,la⟩:=h3.tup R3
     refine .inl ⟨a,xs,rfl,qa,fun hw=>?_,fun hw p hp=>?_⟩
     ·rw [la.length] at hw
      exact k _ _ _ R3 ss tt (by rw [JL hw]; exact h3.tupF)
     ·have sm:=zI (o:=.tup (JN xs lo hi)) (R3.sf.free hp)
      exact k _ _ _ (R3.lay hp) (ss.trans (zI hp)) (tt.trans sm) (Has.tup_iff.mpr ⟨p,_,rfl,SqT.of zq,(la.cut lo hi).mono sm⟩)
    ·cases e2
     obtain ⟨a,xs,rfl,qa,la⟩:=h3.lst R3
     refine .inr ⟨a,xs,rfl,qa,fun p hp=>?_⟩
     have sm:=zI (o:=.lst (JN xs lo hi)) (R3.sf.free hp)
     exact k _ _ _ (R3.lay hp) (ss.trans (zI hp)) (tt.trans sm) (Has.lst_iff.mpr ⟨p,_,rfl,SqL.of zq,(la.cut lo hi).mono sm⟩)
    ·cases e2
section
variable {X:Cx} {a b c e st:Expr} {f g h fs:FE} {pos p2:Pos}
theorem jq {α:Type} {f g:FE} {k:D->D->Option α} {ρ:Rho} {r:α} (h:((f ρ).bind fun x=>(g ρ).bind fun y=>k x y)=some r):∃ x y,f ρ=some x/\g ρ=some y/\k x y=some r:=by
 obtain ⟨x,e1,e2⟩:=ya h
 obtain ⟨y,e3,e4⟩:=ya e2
 exact ⟨x,y,e1,e3,e4⟩
def uq:List D->Option D
 | [.lst ds]=>some (.tup ds)
 | [.tup ds]=>some (.tup ds)
 | _=>none
theorem kK:FnR X (fun xs H Q=>∃ p ys,xs=[.ref p]/\((SqL X.K H p ys/\∀ l,H l=none->Q (.ref l) (upd H l (.tup ys)))\/(SqT X.K H p ys/\Q (.ref p) H))) uq:=by
 intro σ ρ H₀ Hf₀ H Hf xs ds d Q R hx hφ k
 unfold uq at hφ
 split at hφ
 ·cases hφ
  obtain ⟨v,rfl,hv⟩:=hx.one
  obtain ⟨a,ys,rfl,q,l⟩:=hv.lst R
  refine ⟨a,ys,rfl,.inl ⟨q,fun p hp=>?_⟩⟩
  have sm:=zI (o:=.tup ys) (R.sf.free hp)
  exact k _ _ _ (R.lay hp) (zI hp) sm (Has.tup_iff.mpr ⟨p,_,rfl,SqT.of zq,l.mono sm⟩)
 ·cases hφ
  obtain ⟨v,rfl,hv⟩:=hx.one
  obtain ⟨a,ys,rfl,q,l⟩:=hv.tup R
  exact ⟨a,ys,rfl,.inr ⟨q,k _ _ _ R zA zA hv.tupF⟩⟩
 ·cases hφ
def Gr (fa:FA):FA:=fun ρ=>(fa ρ).bind fun l=>match l with
 | [.lst ds]=>some ds
 | [.tup ds]=>some ds
 | _=>none
theorem JC {es:List Expr} {fa:FA} {p:Pos} (hg:Gl X "list") (hm:X.mg "list"=none) (ha:DAR X (e :: es) fa)
  (he:starEach (e :: es) X.env=(false,eval e X.env) :: starEach es X.env:=by rfl) (hpl:(backTo pos (starEach es X.env)).any (·.1)=false:=by rfl):DN X (.Call (.Name "list" p) (e :: es) [] pos) (Gr fa) :=
 yP (wm (T:="list") XQ hg hm (by rfl) ha (by decide) (by decide) he hpl) fun σ H Q ⟨H₀,Hf₀,ρ,Hf,d,R,q,k⟩=>by
  obtain ⟨l,e1,e2⟩:=yj q
  refine ⟨H₀,Hf₀,ρ,Hf,l,R,e1,fun vs H1 Hf1 R1 s1 t1 h1=>?_⟩
  split at e2
  ·cases e2
   obtain ⟨v,rfl,hv⟩:=qR.one h1
   obtain ⟨a,ys,rfl,q,l⟩:=hv.lst R1
   exact ⟨a,ys,rfl,.inl q,fun p hp=>k _ _ _ _ (R1.layN hp) (s1.trans (zI hp)) t1 l zq (R1.sf.free hp) (s1.free hp)⟩
  ·cases e2
   obtain ⟨v,rfl,hv⟩:=qR.one h1
   obtain ⟨a,ys,rfl,q,l⟩:=hv.tup R1
   exact ⟨a,ys,rfl,.inr q,fun p hp=>k _ _ _ _ (R1.layN hp) (s1.trans (zI hp)) t1 l zq (R1.sf.free hp) (s1.free hp)⟩
  ·cases e2
end
end
theorem KI {y y':V} {u:Value} {K:W.Frag} {H:Hp} {d d':D} (h:Has K H d y) (h':Has K H d' y') (r:xm y u) (r':xm y' u):y=y':=by
 cases d with
 | non =>
  cases Has.non_iff.mp h
  cases r
  cases d' with
  | non=>cases Has.non_iff.mp h'; rfl
  | bl _=>cases Has.bl_iff.mp h'; cases r'
  | int _=>cases Has.int_iff.mp h'; obtain ⟨t,e⟩:=r'; cases e
  | str _=>cases Has.str_iff.mp h'; obtain ⟨t,e⟩:=r'; cases e
  | tup _=>obtain ⟨_,_,rfl,_⟩:=Has.tup_iff.mp h'; cases r'
  | lst _=>obtain ⟨_,_,rfl,_⟩:=Has.lst_iff.mp h'; cases r'
 | bl b =>
  cases Has.bl_iff.mp h
  cases r
  cases d' with
  | non=>cases Has.non_iff.mp h'; cases r'
  | bl _=>cases Has.bl_iff.mp h'; cases r'; rfl
  | int _=>cases Has.int_iff.mp h'; obtain ⟨t,e⟩:=r'; cases e
  | str _=>cases Has.str_iff.mp h'; obtain ⟨t,e⟩:=r'; cases e
  | tup _=>obtain ⟨_,_,rfl,_⟩:=Has.tup_iff.mp h'; cases r'
  | lst _=>obtain ⟨_,_,rfl,_⟩:=Has.lst_iff.mp h'; cases r'
 | int b =>
  cases Has.int_iff.mp h
  obtain ⟨t0,rfl⟩:=r
  cases d' with
  | non=>cases Has.non_iff.mp h'; cases r'
  | bl _=>cases Has.bl_iff.mp h'; cases r'
  | int _=>cases Has.int_iff.mp h'; obtain ⟨t,e⟩:=r'; cases e; rfl
  | str _=>cases Has.str_iff.mp h'; obtain ⟨t,e⟩:=r'; cases e
  | tup _=>obtain ⟨_,_,rfl,_⟩:=Has.tup_iff.mp h'; cases r'
  | lst _=>obtain ⟨_,_,rfl,_⟩:=Has.lst_iff.mp h'; cases r'
 | str b =>
  cases Has.str_iff.mp h
  obtain ⟨t0,rfl⟩:=r
  cases d' with
  | non=>cases Has.non_iff.mp h'; cases r'
  | bl _=>cases Has.bl_iff.mp h'; cases r'
  | int _=>cases Has.int_iff.mp h'; obtain ⟨t,e⟩:=r'; cases e
  | str _=>cases Has.str_iff.mp h'; obtain ⟨t,e⟩:=r'; cases e; rfl
  | tup _=>obtain ⟨_,_,rfl,_⟩:=Has.tup_iff.mp h'; cases r'
  | lst _=>obtain ⟨_,_,rfl,_⟩:=Has.lst_iff.mp h'; cases r'
 | tup ds =>
  obtain ⟨a,_,rfl,_⟩:=Has.tup_iff.mp h
  cases r
  cases d' with
  | non=>cases Has.non_iff.mp h'; cases r'
  | bl _=>cases Has.bl_iff.mp h'; cases r'
  | int _=>cases Has.int_iff.mp h'; obtain ⟨t,e⟩:=r'; cases e
  | str _=>cases Has.str_iff.mp h'; obtain ⟨t,e⟩:=r'; cases e
  | tup _=>obtain ⟨_,_,rfl,_⟩:=Has.tup_iff.mp h'; cases r'; rfl
  | lst _=>obtain ⟨_,_,rfl,_⟩:=Has.lst_iff.mp h'; cases r'; rfl
 | lst ds =>
  obtain ⟨a,_,rfl,_⟩:=Has.lst_iff.mp h
  cases r
  cases d' with
  | non=>cases Has.non_iff.mp h'; cases r'
  | bl _=>cases Has.bl_iff.mp h'; cases r'
  | int _=>cases Has.int_iff.mp h'; obtain ⟨t,e⟩:=r'; cases e
  | str _=>cases Has.str_iff.mp h'; obtain ⟨t,e⟩:=r'; cases e
  | tup _=>obtain ⟨_,_,rfl,_⟩:=Has.tup_iff.mp h'; cases r'; rfl
  | lst _=>obtain ⟨_,_,rfl,_⟩:=Has.lst_iff.mp h'; cases r'; rfl
open Classical in
noncomputable def Wa (K:W.Frag) (H:Hp) (dx:D) (u:Value):Bool:=decide (∃ d y,xm y u/\Has K H d y/\eqD d dx=true)
section
variable {X:Cx} {pins:List (Addr×Obj)} {σ:St} {H:Hp} {s:Shared}
open Classical in
theorem J5 (I:Inv X pins σ H s) {dx d:D} {y:V} {u:Value} (r:xm y u) (h:Has X.K H d y):Wa X.K H dx u=eqD d dx:=by
 unfold Wa
 cases hq:eqD d dx with
 | true=>exact decide_eq_true ⟨d,y,r,h,hq⟩
 | false =>
  refine decide_eq_false ?_
  rintro ⟨d',y',r',h',e'⟩
  cases KI h' h r' r
  cases Has.inj I h' h
  rw [hq] at e'; cases e'
theorem qN (I:Inv X pins σ H s) {dx:D}:∀ {ds:List D} {xs:List V} {us:List Value},zZ X.K H ds xs->xh xs us->us.any (Wa X.K H dx)=ds.any fun d=>eqD d dx
 | [],_,_,h,r=>by rw [zZ.nil_iff] at h; subst h; cases r; rfl
 | d :: ds,_,_,h,r=>by
  obtain ⟨x,xr,rfl,h1,h2⟩:=zZ.cons_iff.mp h
  cases r with
  | cons r rr=>rw [g3g,g3g,J5 I r h1,qN I h2 rr]
theorem qA (I:Inv X pins σ H s) {A:Around} {dx:D} {x:V} {v:Value} (hx:Has X.K H dx x) (rx:xm x v):∀ {ds:List D} {xs:List V} {us:List Value},zZ X.K H ds xs->xh xs us->A.units+qS ds < cLine->∀ u∈us,SeqAt.EqAt A s u v (Wa X.K H dx u)
 | [],_,_,h,r,_=>by rw [zZ.nil_iff] at h; subst h; cases r; intro u hu; cases hu
 | d :: ds,_,_,h,r,hu=>by
  obtain ⟨y,yr,rfl,h1,h2⟩:=zZ.cons_iff.mp h
  unfold qS at hu
  cases r with
  | cons r rr =>
   intro u' hu'
   rcases g0o.mp hu' with rfl | hm
   ·rw [J5 I r h1]
    exact Ju I d A dx y x _ v h1 hx r rx (by have:=Nat.le_max_left (dep d) (qS ds); omega)
   ·exact qA I hx rx h2 rr (by have:=Nat.le_max_right (dep d) (qS ds); omega) u' hm
end
section
variable {X:Cx} {e a b c:Expr} {f g h:FE} {pos p2:Pos} {kk:Nat}
def inS (x z:Str):Bool := !(Builtin.Str.occurrences z x 0 z.length 1).isEmpty
def NY (K:W.Frag) (neg:Bool):R2:=fun x y H Q=>(∃ p ds xs dx,y=.ref p/\(SqL K H p xs\/SqT K H p xs)/\zZ K H ds xs/\Has K H dx x/\qS ds<=100/\Q (.bl (xor neg (ds.any fun d=>eqD d dx))) H) ∨
 (∃ i j,x=.str i/\y=.str j/\Q (.bl (xor neg (inS i j))) H)
theorem FH (hr:Room kk X.A):OpR X (compareOp .In) (NY X.K false):=by
 intro pins s σ H x y v u Q I rx ry h
 rcases h with ⟨p,ds,xs,dx,rfl,hq,hl,hx,hd,q⟩ | h
 ·cases ry
  have hu:X.A.in1.units+qS ds < cLine:=by show X.A.units+1+qS ds < cLine; have:=hr.un; omega
  simp only [Bool.false_xor] at q
  rcases hq with hq | hq
  ·obtain ⟨its,r,pl,hz⟩:=I.list hq
   refine SeqAt.in_listAt (Wa X.K H dx) pl.isList (fun w hw=>qA I hx rx hl r hu w (by simpa using hw)) ⟨.bl _,H,I,rfl,?_⟩
   rw [show its.toArray.any (Wa X.K H dx)=its.any (Wa X.K H dx) by simp,qN I hl r]
   exact q
  ·obtain ⟨its,r,pl,hz⟩:=I.tuple hq
   refine SeqAt.in_tupleAt (Wa X.K H dx) pl (fun w hw=>qA I hx rx hl r hu w (by simpa using hw)) ⟨.bl _,H,I,rfl,?_⟩
   rw [show its.toArray.any (Wa X.K H dx)=its.any (Wa X.K H dx) by simp,qN I hl r]
   exact q
 ·obtain ⟨i,j,e1,e2,q⟩:=h
  exact Qz pins s σ H x y v u Q I rx ry ⟨i,j,e1,e2,by simpa [inS] using q⟩
theorem Qy (hr:Room kk X.A):OpR X (compareOp .NotIn) (NY X.K true):=by
 intro pins s σ H x y v u Q I rx ry h
 rcases h with ⟨p,ds,xs,dx,rfl,hq,hl,hx,hd,q⟩ | h
 ·cases ry
  have hu:X.A.in1.units+qS ds < cLine:=by show X.A.units+1+qS ds < cLine; have:=hr.un; omega
  simp only [Bool.true_xor] at q
  rcases hq with hq | hq
  ·obtain ⟨its,r,pl,hz⟩:=I.list hq
   refine SeqAt.notIn_listAt (Wa X.K H dx) pl.isList (fun w hw=>qA I hx rx hl r hu w (by simpa using hw)) ⟨.bl _,H,I,rfl,?_⟩
   rw [show its.toArray.any (Wa X.K H dx)=its.any (Wa X.K H dx) by simp,qN I hl r]
   exact q
  ·obtain ⟨its,r,pl,hz⟩:=I.tuple hq
   refine SeqAt.notIn_tupleAt (Wa X.K H dx) pl (fun w hw=>qA I hx rx hl r hu w (by simpa using hw)) ⟨.bl _,H,I,rfl,?_⟩
   rw [show its.toArray.any (Wa X.K H dx)=its.any (Wa X.K H dx) by simp,qN I hl r]
   exact q
 ·obtain ⟨i,j,e1,e2,q⟩:=h
  exact Xg pins s σ H x y v u Q I rx ry ⟨i,j,e1,e2,by simpa [inS] using q⟩
def inD (neg:Bool):D->D->Option D
 | x,.lst ds=>if qS ds<=100 then some (.bl (xor neg (ds.any fun d=>eqD d x))) else none
 | x,.tup ds=>if qS ds<=100 then some (.bl (xor neg (ds.any fun d=>eqD d x))) else none
 | .str x,.str z=>some (.bl (xor neg (inS x z)))
 | _,_=>none
theorem HA {neg:Bool}:OpD X (NY X.K neg) (inD neg):=by
 intro σ ρ H₀ Hf₀ H Hf x y dx dy d Q R hx hy hφ k
 unfold inD at hφ
 split at hφ
 ·split at hφ
  ·cases hφ
   rename_i hd
   obtain ⟨a,xs,rfl,qa,la⟩:=hy.lst R
   exact .inl ⟨a,_,xs,dx,rfl,.inl qa,la.mono R.sf,hx.full R,hd,k _ _ _ R zA zA (Has.bl_iff.mpr rfl)⟩
  ·cases hφ
 ·split at hφ
  ·cases hφ
   rename_i hd
   obtain ⟨a,xs,rfl,qa,la⟩:=hy.tup R
   exact .inl ⟨a,_,xs,dx,rfl,.inr qa,la.mono R.sf,hx.full R,hd,k _ _ _ R zA zA (Has.bl_iff.mpr rfl)⟩
  ·cases hφ
 ·cases hφ
  exact .inr ⟨_,_,hx.str,hy.str,k _ _ _ R zA zA (Has.bl_iff.mpr rfl)⟩
 ·cases hφ
theorem Pm (hr:Room kk X.A) (ha:DR X a f) (hb:DR X b g) (hm:behindInMarks .In b=false:=by rfl):DT X (.Compare a [.In] [b] pos) (blF (zb (inD false) f g)):=xT (FH hr) HA ha hb hm
theorem YH (hr:Room kk X.A) (ha:DR X a f) (hb:DR X b g) (hm:behindInMarks .NotIn b=false:=by rfl):DT X (.Compare a [.NotIn] [b] pos) (blF (zb (inD true) f g)):=xT (Qy hr) HA ha hb hm
theorem Y7 {H:Hp}:yf (fun _=>none) H:=fun _ _ e=>by cases e
end
section
variable {prog:Program} {w:World} {A:Around} {E:Value->Shared->Prop} {s:Shared}
end
section
variable {X:Cx} {e:Expr} {f:FE} {pos:Pos} {tg:Expr}
end
section
variable {X:Cx} {e:Expr} {f:FE} {pos:Pos} {tg:Expr}
theorem xy (he:DE X e f):DI X tg e (zF f):=by
 intro pins s σ H R I h
 obtain ⟨H₀,Hf₀,ρ,Hf,ds,R0,q,k⟩:=h
 obtain ⟨d,q3,q4⟩:=ya q
 refine thn (he pins s σ H (fun v H1=>∃ Hf1,Rep X.K H₀ Hf₀ σ ρ H1 Hf1/\yf H H1/\yf Hf Hf1/\Has X.K Hf1 d v) I ⟨H₀,Hf₀,ρ,Hf,d,R0,q3,fun v H1 Hf1 R1 s1 t1 h1=>⟨Hf1,R1,s1,t1,h1⟩⟩) fun u s1 ⟨v,H1,I1,r,Hf1,R1,s1',t1,h1⟩=>?_
 cases d with
 | lst ds' =>
  cases q4
  obtain ⟨a,xs,rfl,qa,la⟩:=Has.lst_iff.mp h1
  cases r
  obtain ⟨its,rv,p,hz⟩:=I1.list (R1.sf.seq qa)
  refine wpAny_pyIter_list p.isList ?_
  refine ⟨s1.heap.objs.size,[s1.heap.objs.size],_,_,H1,rfl,I1.kept (t':=s1.toks) fun b o e=>Heap.get?_push_of_some _ e,YZ a _,⟨_,Heap.get?_push_size _ rfl,rfl,rfl⟩,fun b hb=>?_,k _ _ _ R1 s1' t1 (ZD qa la)⟩
  have e:b=s1.heap.objs.size:=by simpa using hb
  subst e
  exact I1.fpOk (g0q _) (I1.hok.fresh (g0q _))
 | tup ds' =>
  cases q4
  obtain ⟨a,xs,rfl,qa,la⟩:=Has.tup_iff.mp h1
  cases r
  obtain ⟨its,rv,p,hz⟩:=I1.tuple (Yj R1.sf qa)
  refine wpAny_pyIter_tuple (show s1.heap.IsTuple a its.toArray from p) ?_
  refine ⟨s1.heap.objs.size,[s1.heap.objs.size],_,_,H1,rfl,I1.kept (t':=s1.toks) fun b o e=>Heap.get?_push_of_some _ e,V7 a _,⟨_,Heap.get?_push_size _ rfl,rfl,rfl⟩,fun b hb=>?_,k _ _ _ R1 s1' t1 (YX qa la)⟩
  have e:b=s1.heap.objs.size:=by simpa using hb
  subst e
  exact I1.fpOk (g0q _) (I1.hok.fresh (g0q _))
 | _=>cases q4
end
def jy (k:NameKind):Option NameKind->Bool
 | some k'=>k'==k
 | none=>false
def HP (osc scope:Scope) (frees:List Str):Bool :=
 scope.kind==.function&&scope.names.all (fun y => !(y.2==.cell))&&scope.names.all (fun y => !(y.2==.local)||jy .local (scope.names.lookup y.1)) &&
 scope.names.all (fun y => !(y.2==.free)||(jy .cell (osc.names.lookup y.1)||jy .free (osc.names.lookup y.1))) &&
 frees.all (fun x=>(jy .cell (osc.names.lookup x)||jy .free (osc.names.lookup x))&&jy .free (scope.names.lookup x))
theorem vH {k:NameKind} {o:Option NameKind} (h:jy k o=true):o=some k:=by
 unfold jy at h
 split at h
 ·rw [eq_of_beq h]
 ·cases h
theorem CompScope.of {osc scope:Scope} {own frees:List Str} (h:HP osc scope frees=true):CompScope osc scope own frees:=by
 unfold HP at h
 simp only [g1p,g0w] at h
 obtain ⟨⟨⟨⟨h1,h2⟩,h3⟩,h4⟩,h5⟩:=h
 refine ⟨eq_of_beq h1,fun y hy z=>?_,fun y hy z=>?_,fun y hy z=>?_,fun x hx=>?_⟩
 ·have:=h2 y hy
  rw [z] at this
  simp at this
 ·have:=h3 y hy
  rw [z] at this
  simp at this
  exact vH this
 ·have:=h4 y hy
  rw [z] at this
  simp at this
  exact this.imp vH vH
 ·have:=h5 x hx
  exact ⟨(by simpa using this.1:_\/_).imp vH vH,vH this.2⟩
section
variable {X:Cx} {scope:Scope} {own frees:List Str} {caps:List Nat}
theorem Rep.lstFrz {K:W.Frag} {H₀ Hf₀:Hp} {σ:St} {ρ:Rho} {H Hf H' Hf':Hp} {a:Addr} {xs:List V} (R:Rep K H₀ Hf₀ σ ρ H Hf) (R':Rep K H₀ Hf₀ σ ρ H' Hf') (ha:H' a=some (.lst xs)) (hn:Hf' a=none) (hh:H a=none):Rep K H₀ Hf₀ σ ρ H' (upd Hf' a (.lst xs)):=by
 have sm:yf Hf' (upd Hf' a (.lst xs)):=zI hn
 refine ⟨R'.s0,fun b u z=>?_,fun b u z=>?_,R'.f0.trans sm,R'.len,fun i d z=>?_,fun i sl z o=>?_,R'.inj⟩
 ·by_cases hb:b=a
  ·subst hb; rw [zq] at z; cases z; exact ha
  ·rw [zG hb] at z; exact R'.sf b u z
 ·by_cases hb:b=a
  ·subst hb; exact .inr (.inl (R.s0.free hh))
  ·rw [zG hb] at z; exact R'.nf b u z
 ·obtain ⟨v,p1,p2⟩:=R'.fr i d z
  exact ⟨v,p1,p2.mono sm⟩
 ·obtain ⟨b,p1,p2,p3,p4⟩:=R.ow i sl z o
  obtain ⟨b',r1,r2,r3,r4⟩:=R'.ow i sl z o
  rw [p1] at r1; cases r1
  refine ⟨b,p1,r2.mono (fun u q=>q) sm,?_,r4⟩
  rw [zG]
  ·exact r3
  ·rintro rfl
   obtain ⟨o',q'⟩:=p2.there o
   rw [q'] at hh; cases hh
theorem jk {tg elt iter:Expr} {ifs:List Expr} {y:Str} {py pos spos:Pos} {fi:FA} {γ:FG} {ft:FT} {f:FE} (i:Nat) (hN:X.N.Nodup) (hc:X.calm=true) (S:CompScope X.env.scope scope own frees) (hcap:caps.map (fun j=>X.N[j]?)=frees.map some) (kn:qg γ) (hi:DI X tg iter fi)
  (body:∀ cl C s H fp,DG (cxC X scope cl C (own++frees) s H fp) tg γ/\DQ (cxC X scope cl C (own++frees) s H fp) ifs ft/\DE (cxC X scope cl C (own++frees) s H fp) elt f)
  (hsw:swapsWith (.ListComp elt [⟨tg,iter,ifs,0⟩] scope pos) (some (.Name y py)) spos.line X.env=pure true:=by rfl) (hiN:X.N[i]? = some y:=by rfl) (hy:X.env.scope.names.lookup y=some .local:=by rfl)
  (hs:∀ x,foldedSetIterable iter X.env x=pure x:=by intro _; rfl):DS X (.Assign [.Name y py] (.ListComp elt [⟨tg,iter,ifs,0⟩] scope pos) spos) (yL i (zL (xX own.length caps fi γ ft f))) :=
 wj (V5 hc S hcap kn hi body hsw i hN hiN hy hs) fun D' σ H ⟨H₀,Hf₀,ρ,Hf,o,R,q,k⟩=>by
  obtain ⟨d,e1,e2⟩:=ya q
  cases e2
  unfold zL at e1
  cases e3:xX own.length caps fi γ ft f ρ with
  | none=>rw [e3] at e1; cases e1
  | some ds =>
   rw [e3] at e1
   cases e1
   refine ⟨H₀,Hf₀,ρ,Hf,ds,R,e3,fun a xs H1 Hf1 R1 s1 t1 h1 ha hn hh=>?_⟩
   have sm:yf Hf1 (upd Hf1 a (.lst xs)):=zI hn
   exact k _ _ _ ((R.lstFrz R1 ha hn hh).set i (Has.lst_iff.mpr ⟨a,xs,rfl,SqL.of zq,h1.mono sm⟩)) (t1.trans sm)
end
theorem uS {K:W.Frag} {ds:List D} {a:Addr} {xs:List V} {its:Array Value} {od:Option Addr} {n:Nat} {osl:Array (Option Value)} (h2:K.lookup a=some ⟨.type "tuple",od,.seq its n,osl⟩) (hz:its.size<=sizeLine) (hv:xh xs its.toList) (hl:zZ K (fun _=>none) ds xs):Has K (fun _=>none) (.tup ds) (.ref a) :=
 Has.tup_iff.mpr ⟨a,xs,rfl,.inr ⟨_,its,n,h2,rfl,rfl,hz,hv⟩,hl⟩
section
variable {ρ:Rho} {i j k:Nat} {f g h:FE} {fa ga:FA} {ft gt ht:FT} {F G B:FS} {γ:FG} {δ:FGs} {d x y:D} {ds:List D}
@[simp] theorem yB:vF i ρ=(match ρ[i]? with | some (.fr d)=>some d | _=>none):=rfl
@[simp] theorem Ke:vR i ρ=(match ρ[i]? with | some (.fr d)=>some d | some (.ol ds)=>some (.lst ds) | _=>none):=rfl
@[simp] theorem xZ:cF d ρ=some d:=rfl
@[simp] theorem Qf {φ:D->Option D}:jr φ f ρ=(f ρ).bind φ:=rfl
@[simp] theorem zr {φ:D->D->Option D}:zb φ f g ρ=(f ρ).bind fun x=>(g ρ).bind fun y=>φ x y:=rfl
@[simp] theorem zu:zy ρ=some []:=rfl
@[simp] theorem zo:za f ga ρ=(f ρ).bind fun x=>(ga ρ).bind fun xs=>some (x :: xs):=rfl
@[simp] theorem qt:tupF ga ρ=(ga ρ).bind fun xs=>if xs.length<=sizeLine then some (.tup xs) else none:=rfl
@[simp] theorem vn:Zq ga ρ=(ga ρ).bind fun xs=>if xs.length<=sizeLine then some xs else none:=rfl
@[simp] theorem zP:zL fa ρ=(fa ρ).map D.lst:=rfl
@[simp] theorem xB:blF f ρ=(f ρ).bind fun | .bl b=>some b | _=>none:=rfl
@[simp] theorem Xa:qO ft gt ρ=(ft ρ).bind fun b=>if b=true then gt ρ else some false:=rfl
@[simp] theorem NN:orT ft gt ρ=(ft ρ).bind fun b=>if b=true then some true else gt ρ:=rfl
@[simp] theorem D8:FX ft ρ=(ft ρ).bind fun b=>some (!b):=rfl
@[simp] theorem NK:ttF ρ=some true:=rfl
@[simp] theorem NM:orV f g ρ=(f ρ).bind fun | .bl b=>(if b=true then some (.bl true) else g ρ) | _=>none:=rfl
@[simp] theorem zU {φ:List D->Option D}:zY φ fa ρ=(fa ρ).bind φ:=rfl
@[simp] theorem zx:z6 F G ρ=(F ρ).bind fun o=>match o with | .nx ρ'=>G ρ' | o=>some o:=rfl
@[simp] theorem vT:nxF ρ=some (.nx ρ):=rfl
@[simp] theorem yJ:yT f ρ=(f ρ).bind fun d=>some (.rt d):=rfl
@[simp] theorem xJ:ifS ft F G ρ=(ft ρ).bind fun b=>if b=true then F ρ else G ρ:=rfl
@[simp] theorem ym:yL i f ρ=(f ρ).bind fun d=>some (.nx (ρ.set i (.fr d))):=rfl
@[simp] theorem jt:VY i fa ρ=(fa ρ).bind fun ds=>some (.nx (ρ.set i (.ol ds))):=rfl
@[simp] theorem Hl:Jj i F ρ=(frz i ρ).bind F:=rfl
@[simp] theorem Fd:frz i ρ=(match ρ[i]? with | some (.ol ds)=>some (ρ.set i (.fr (.lst ds))) | some (.fr _)=>some ρ | _=>none):=rfl
@[simp] theorem xn:zB i d ρ=some (ρ.set i (.fr d)):=rfl
@[simp] theorem Y9:Zv [] ρ=some ρ:=rfl
@[simp] theorem ke {r:List D}:yA γ δ (d :: r) ρ=(γ d ρ).bind fun ρ'=>δ r ρ':=rfl
@[simp] theorem Y8:j7 k δ (.tup ds) ρ=if ds.length=k then δ ds ρ else none:=rfl
@[simp] theorem PD:Rw i j fa ρ=(fa ρ).bind fun l=>match l with | [d,d']=>some (.nx ((ρ.set i (.fr d)).set j (.fr d'))) | _=>none:=rfl
@[simp] theorem vB:xp i f ρ=(f ρ).bind fun d=>match ρ[i]? with | some (.ol ds)=>if ds.length < sizeLine then some (.nx (ρ.set i (.ol (ds++[d])))) else none | _=>none:=rfl
@[simp] theorem vy:jI fa γ B ρ=(fa ρ).bind fun ds=>yd γ B ds ρ:=rfl
@[simp] theorem KB:Q6 f ρ=(zF f ρ).bind fun ds=>some (YG ds):=rfl
@[simp] theorem KA:Q5 f g ρ=(zF f ρ).bind fun xs=>(zF g ρ).bind fun ys=>some (Kc xs ys):=rfl
@[simp] theorem zQ:zF f ρ=(f ρ).bind Qa:=rfl
@[simp] theorem xE:Qa (.lst ds)=some ds:=rfl
@[simp] theorem D7:Qa (.tup ds)=some ds:=rfl
@[simp] theorem D9:noP ρ=some none:=rfl
@[simp] theorem KC:exP f ρ=(f ρ).bind fun | .int i=>some (some i) | _=>none:=rfl
@[simp] theorem Yk {l u:FP}:ZG f l u ρ=(f ρ).bind fun x=>(l ρ).bind fun lo=>(u ρ).bind fun hi=>match x with | .tup ds=>some (.tup (Zr ds lo hi)) | .lst ds=>some (.lst (Zr ds lo hi)) | _=>none:=rfl
@[simp] theorem Qe:Gr fa ρ=(fa ρ).bind fun l=>match l with | [.lst ds]=>some ds | [.tup ds]=>some ds | _=>none:=rfl
@[simp] theorem xR {n:Nat} {caps:List Nat} {fi:FA}:xX n caps fi γ ft f ρ=(fi ρ).bind fun ds=>if ds.length<=sizeLine then xj γ ft f ds (kW n caps ρ) else none:=rfl
@[simp] theorem xQ {n:Nat} {caps:List Nat}:kW n caps ρ=g0l n .no++caps.map (Na ρ):=rfl
@[simp] theorem ui:Na ρ j=(match ρ[j]? with | some (.fr d)=>.fr d | _=>.no):=rfl
@[simp] theorem kb:UV fa ρ=(fa ρ).bind uu:=rfl
theorem wJ {j:Int} (h1 : -1000000<=j) (h2:j<=1000000):uu [.int j]=some (wz 0 j):=by
 show @ite _ (-(2 ^ 62)<=j/\j < 2 ^ 62) (Classical.propDecidable _) (some (wz 0 j)) none=_
 rw [if_pos (by omega)]
@[simp] theorem yK:uo k F ds=YW (F (vh k ds)):=rfl
@[simp] theorem xf:YW (some (.rt d))=some d:=rfl
@[simp] theorem PF:YW (some (.nx ρ))=some .non:=rfl
@[simp] theorem zV:vh k ds=ds.map Slot.fr++g0l (k - ds.length) Slot.no:=rfl
variable {a b:Int}
@[simp] theorem Bp:jN (.int a) (.int b)=some (.int (a - b)):=rfl
@[simp] theorem Zt:wB (.int a) (.int b)=some (.int (a+b)):=rfl
@[simp] theorem NS:ltD (.int a) (.int b)=some (.bl (decide (a < b))):=rfl
@[simp] theorem Rp:leD (.int a) (.int b)=some (.bl (decide (a<=b))):=rfl
@[simp] theorem PL:gtD (.int a) (.int b)=some (.bl (decide (b < a))):=rfl
@[simp] theorem PN:geD (.int a) (.int b)=some (.bl (decide (b<=a))):=rfl
@[simp] theorem NP:FY (.int a)=some (.int (-a)):=rfl
@[simp] theorem Ue:eqF (.int a) (.int b)=some (.bl (decide (a=b))):=v7
@[simp] theorem NO:neF (.int a) (.int b)=some (.bl (!decide (a=b))):=uw
@[simp] theorem Rq:isD k' .non .non=some (.bl (!k')):=rfl
@[simp] theorem NQ:Gj [.int a,.int b]=some (.int (if b < a then b else a)):=rfl
@[simp] theorem NR:Gn [.int a,.int b]=some (.int (if b > a then b else a)):=rfl
@[simp] theorem Rr:HI [.int a]=some (.int a):=rfl
@[simp] theorem Fc {b:Bool}:HI [.bl b]=some (.int (if b then 1 else 0)):=rfl
@[simp] theorem kc:uZ [.lst ds]=some (.int ds.length):=rfl
@[simp] theorem PJ:uZ [.tup ds]=some (.int ds.length):=rfl
@[simp] theorem NJ:uq [.lst ds]=some (.tup ds):=rfl
@[simp] theorem Ro:uq [.tup ds]=some (.tup ds):=rfl
end
theorem M5 {f:FE} {C:List Slot} {φ:Nat->D}:∀ (ds:List D) (n:Nat) (s:Slot),(∀ k d,ds[k]? = some d->f (.fr d :: C)=some (φ (n+k)))->xj (zB 0) ttF f ds (s :: C)=some ((g0t ds.length).map fun k=>φ (n+k))
 | [],_,_,_=>rfl
 | d :: ds,n,s,h=>by
  have h0:=h 0 d rfl
  have ih:=M5 (f:=f) (C:=C) (φ:=φ) ds (n+1) (.fr d) (fun k d' e=>by rw [h (k+1) d' (by simpa using e)]; congr 2; omega)
  unfold xj
  simp only [xn,g0j,g0b,NK,if_true,h0,ih,Nat.add_zero]
  rw [g0e,g2l,g0h,g1h]
  congr 3
  funext k
  simp only [Function.comp]
  congr 1
  omega
section
variable {X:Cx}
theorem zZ.rep {K:W.Frag} {H:Hp} {ds:List D} {xs:List V} (h:zZ K H ds xs):∀ k:Nat,zZ K H (g0l k ds).flatten (g0l k xs).flatten
 | 0=>.nil
 | k+1=>by
  rw [g2m,g2m,g3b,g3b]
  exact h.append (zZ.rep h k)
end
theorem XW:∀ {bs:List Bool} {us:List Value},xh (bs.map V.bl) us->LSm.BoolsAre us bs
 | [],_,r=>by cases r; exact .nil
 | b :: bs,_,r=>by
  rw [g0h] at r
  cases r with
  | cons r1 r2=>cases r1; exact .cons b (XW r2)
theorem YA:∀ {ns:List Int} {us:List Value},xh (ns.map V.int) us->IntsAre us ns
 | [],_,r=>by cases r; exact .nil
 | n :: ns,_,r=>by
  rw [g0h] at r
  cases r with
  | cons r1 r2=>obtain ⟨t,rfl⟩:=r1; exact .cons n t (YA r2)
variable {X:Cx}
theorem G9 (hc:X.calm=true):wt X (.builtin "all") (fun xs H Q=>∃ (p:Addr) (bs:List Bool),xs=[.ref p]/\SqL X.K H p (bs.map V.bl)/\Q (.bl (bs.all id)) H):=by
 intro pins s σ H xs us Q I r h
 obtain ⟨p,bs,rfl,hq,q⟩:=h
 obtain ⟨u,rfl,rx⟩:=ql r
 cases rx
 obtain ⟨its,r',pl,hz⟩:=I.list hq
 have hb:=XW r'
 have hl:=pl.isList
 have hlt:p < s.heap.objs.size:=by obtain ⟨_,e,_⟩:=hl; exact Heap.lt_size e
 refine call_all_walk (wpAny_pyIter_list hl ?_)
 refine ⟨s.heap.objs.size,[s.heap.objs.size,p],[s.heap.objs.size],its.toArray.size,_,_,fun i=>(bs[i]?).getD true,rfl,PySem.Walks.list (A:=X.A.in1) (I.ok.hd hc) _ p (g1u hlt) its.toArray,
  ⟨⟨_,Heap.get?_push_size _ rfl,rfl,rfl⟩,hl.push _⟩,fun i v s' Q' E' hP hQ=>?_,fun h' tk hk=>?_⟩
 ·obtain ⟨b,e,rfl⟩:=hb.get i v (by simpa using hP)
  simp only [e,g2w] at hQ
  exact wpAny_truthy_bool hQ
 ·have e:((g0t its.toArray.size).all fun i=>(bs[i]?).getD true)=bs.all id:=by
   rw [g1d,hb.length]; exact LSm.range_all bs
  rw [e]
  exact ⟨.bl (bs.all id),H,I.kept (LSm.kept_iter hk),rfl,q⟩
theorem G8 (hc:X.calm=true):wt X (.builtin "sum") (fun xs H Q=>∃ (p:Addr) (ns:List Int),xs=[.ref p]/\SqL X.K H p (ns.map V.int)/\Q (.int ns.sum) H):=by
 intro pins s σ H xs us Q I r h
 obtain ⟨p,ns,rfl,hq,q⟩:=h
 obtain ⟨u,rfl,rx⟩:=ql r
 cases rx
 obtain ⟨its,r',pl,hz⟩:=I.list hq
 have hi:=YA r'
 have hl:=pl.isList
 obtain ⟨xs,hx⟩:=hi.allInts.items
 have hl':s.heap.IsList p (intItems xs):=hx ▸ hl
 refine sum_intListG (I.ok.hd hc) hl' fun h' tk t' hk=>?_
 have e1:ns=xs.toList.map (·.1):=by
  rw [<- nums_intItems,<- hx]
  exact (show numsOf its.toArray.toList=ns from hi.numsOf).symm
 have e2:preSum (numAt xs) xs.size=ns.sum:=by
  rw [preSum_eq,g3k (by simp),e1]
 rw [e2]
 exact ⟨.int ns.sum,H,I.kept hk,⟨t',rfl⟩,q⟩
def wX:List D->Option (List Bool)
 | []=>some []
 | .bl b :: ds=>(wX ds).map (b :: ·)
 | _ :: _=>none
def uk:List D->Option (List Int)
 | []=>some []
 | .int b :: ds=>(uk ds).map (b :: ·)
 | _ :: _=>none
theorem zZ.bools {K:W.Frag} {H:Hp}:∀ {ds:List D} {xs:List V} {bs:List Bool},zZ K H ds xs->wX ds=some bs->xs=bs.map V.bl
 | [],[],bs,h,e=>by cases e; rfl
 | [],_ :: _,bs,h,e=>by have:=h.length; cases this
 | _ :: _,[],bs,h,e=>by have:=h.length; cases this
 | .bl b :: ds,x :: xs,bs,h,e=>by
  unfold wX at e
  cases e':wX ds with
  | none=>rw [e'] at e; cases e
  | some cs =>
   rw [e'] at e
   cases e
   obtain ⟨_,_,e0,h1,h2⟩:=zZ.cons_iff.mp h
   cases e0
   rw [Has.bl_iff.mp h1,zZ.bools h2 e']
   rfl
 | .non :: _,_ :: _,_,_,e=>by cases e
 | .int _ :: _,_ :: _,_,_,e=>by cases e
 | .str _ :: _,_ :: _,_,_,e=>by cases e
 | .tup _ :: _,_ :: _,_,_,e=>by cases e
 | .lst _ :: _,_ :: _,_,_,e=>by cases e
theorem zZ.intsV {K:W.Frag} {H:Hp}:∀ {ds:List D} {xs:List V} {bs:List Int},zZ K H ds xs->uk ds=some bs->xs=bs.map V.int
 | [],[],bs,h,e=>by cases e; rfl
 | [],_ :: _,bs,h,e=>by have:=h.length; cases this
 | _ :: _,[],bs,h,e=>by have:=h.length; cases this
 | .int b :: ds,x :: xs,bs,h,e=>by
  unfold uk at e
  cases e':uk ds with
  | none=>rw [e'] at e; cases e
  | some cs =>
   rw [e'] at e
   cases e
   obtain ⟨_,_,e0,h1,h2⟩:=zZ.cons_iff.mp h
   cases e0
   rw [Has.int_iff.mp h1,zZ.intsV h2 e']
   rfl
 | .non :: _,_ :: _,_,_,e=>by cases e
 | .bl _ :: _,_ :: _,_,_,e=>by cases e
 | .str _ :: _,_ :: _,_,_,e=>by cases e
 | .tup _ :: _,_ :: _,_,_,e=>by cases e
 | .lst _ :: _,_ :: _,_,_,e=>by cases e
def Nv:List D->Option D
 | [.lst ds]=>(wX ds).map fun bs=>.bl (bs.all id)
 | _=>none
def Nl:List D->Option D
 | [.lst ds]=>(uk ds).map fun bs=>.int bs.sum
 | _=>none
theorem C0:FnR X (fun xs H Q=>∃ (p:Addr) (bs:List Bool),xs=[.ref p]/\SqL X.K H p (bs.map V.bl)/\Q (.bl (bs.all id)) H) Nv:=by
 intro σ ρ H₀ Hf₀ H Hf xs ds d Q R hx hφ k
 unfold Nv at hφ
 split at hφ
 ·obtain ⟨bs,e1,rfl⟩:=g1v.mp hφ
  obtain ⟨v,rfl,hv⟩:=hx.one
  obtain ⟨a,ys,rfl,q,l⟩:=hv.lst R
  have:=l.bools e1
  subst this
  exact ⟨a,bs,rfl,q,k _ _ _ R zA zA (Has.bl_iff.mpr rfl)⟩
 ·cases hφ
theorem CZ:FnR X (fun xs H Q=>∃ (p:Addr) (ns:List Int),xs=[.ref p]/\SqL X.K H p (ns.map V.int)/\Q (.int ns.sum) H) Nl:=by
 intro σ ρ H₀ Hf₀ H Hf xs ds d Q R hx hφ k
 unfold Nl at hφ
 split at hφ
 ·obtain ⟨bs,e1,rfl⟩:=g1v.mp hφ
  obtain ⟨v,rfl,hv⟩:=hx.one
  obtain ⟨a,ys,rfl,q,l⟩:=hv.lst R
  have:=l.intsV e1
  subst this
  exact ⟨a,bs,rfl,q,k _ _ _ R zA zA (Has.int_iff.mpr rfl)⟩
 ·cases hφ
theorem Za:∀ bs:List Bool,wX (bs.map D.bl)=some bs
 | []=>rfl
 | b :: bs=>by rw [g0h,wX,Za bs]; rfl
theorem uR:∀ bs:List Int,uk (bs.map D.int)=some bs
 | []=>rfl
 | b :: bs=>by rw [g0h,uk,uR bs]; rfl
@[simp] theorem Rt (bs:List Bool):Nv [.lst (bs.map D.bl)]=some (.bl (bs.all id)):=by show (wX (bs.map D.bl)).map _=_; rw [Za]; rfl
@[simp] theorem NL (bs:List Int):Nl [.lst (bs.map D.int)]=some (.int bs.sum):=by show (uk (bs.map D.int)).map _=_; rw [uR]; rfl
section
variable {prog:Program} {w:World} {A:Around} {E:Value->Shared->Prop} {s:Shared}
end
variable {X:Cx} {e:Expr} {f:FE} {pos:Pos}
section
variable {X:Cx} {pins:List (Addr×Obj)} {σ:St} {H:Hp} {s:Shared}
end
section
variable {X:Cx} {o e:Expr} {f g:FE} {kk:Nat}
end
section
variable {X:Cx} {tg:Expr}
end
section
variable {X:Cx} {a b c dd:Expr} {f g h i4:FE} {pos p2:Pos}
end
section
variable {X:Cx} {e:Expr} {f:FE} {pos:Pos}
def Nc (i:Nat) (op:Int->Int->Int) (f:FE):FS:=fun ρ=>(f ρ).bind fun y=>match ρ[i]?,y with
 | some (.fr (.int m)),.int k=>some (.nx (ρ.set i (.fr (.int (op m k)))))
 | _,_=>none
theorem C8 {x:Str} {pos':Pos} {op:Operator} {φ:Int->Int->Int} (i:Nat) (hN:X.N.Nodup) (ho:PIp X op (ipI φ)) (he:DE X e f) (hi:X.N[i]? = some x:=by rfl) (hx:Loc X.env.scope x:=by first | exact Or.inl rfl | exact Or.inr rfl)
  (hf:X.fn x=true\/X.env.scope.names.lookup x=some .local:=by first | exact .inl rfl | exact .inr rfl | assumption):DS X (.AugAssign (.Name x pos') op e pos) (Nc i φ f) :=
 wj (Ft hN hi hx he ho hf) fun D' σ H ⟨H₀,Hf₀,ρ,Hf,o,R,q,k⟩=>by
  obtain ⟨y,e1,e2⟩:=ya q
  split at e2
  ·cases e2
   rename_i m kk el
   obtain ⟨v,p1,p2⟩:=R.fr i _ el
   have pv:=Has.int_iff.mp p2
   subst pv
   refine ⟨.int m,p1,H₀,Hf₀,ρ,Hf,.int kk,R,e1,fun v H1 Hf1 R1 s1 t1 h1=>?_⟩
   exact ⟨m,kk,rfl,Has.int_iff.mp h1,k _ _ _ (R1.set i (Has.int_iff.mpr rfl)) t1⟩
  ·cases e2
@[simp] theorem PU {i:Nat} {op:Int->Int->Int} {ρ:Rho}:Nc i op f ρ=(f ρ).bind fun y=>match ρ[i]?,y with
 | some (.fr (.int m)),.int k=>some (.nx (ρ.set i (.fr (.int (op m k)))))
 | _,_=>none:=rfl
end
section
variable {X:Cx} {e:Expr} {f:FE}
end
section
variable {prog:Program} {w:World} {A:Around} {E:Value->Shared->Prop} {s:Shared}
end
section
variable {P:Program} {w:World} {K:W.Frag} {J1 J2:It} {fp1 fp2:List Addr} {i1 i2 z TI TO:Addr} {tn1 tn2:Nat->Heap->Prop}
end
section
variable {prog:Program} {w:World} {A:Around} {E:Value->Shared->Prop} {s:Shared}
end
section
variable {X:Cx} {e1 e2:Expr} {f1 f2:FE} {pos:Pos} {elts:List Expr} {kx:Nat} {tp:Pos}
end
theorem perm_eq:∀ {a b:List Int},a.Perm b->a.Pairwise (· <= ·)->b.Pairwise (· <= ·)->a=b
 | [],b,h,_,_=>(List.nil_perm.mp h).symm
 | x :: a,[],h,_,_=>by have:=h.length_eq; simp at this
 | x :: a,y :: b,h,ha,hb=>by
  rw [g3v] at ha hb
  have e:x=y:=by
   have h1:x∈y :: b:=h.subset g0i
   have h2:y∈x :: a:=h.symm.subset g0i
   rcases g0o.mp h1 with h1 | h1
   ·exact h1
   ·rcases g0o.mp h2 with h2 | h2
    ·exact h2.symm
    ·have:=hb.1 x h1
     have:=ha.1 y h2
     omega
  subst e
  rw [perm_eq h.cons_inv ha.2 hb.2]
def Dw (x:Int):List Int->List Int
 | []=>[x]
 | y :: l=>if x<=y then x :: y :: l else y :: Dw x l
def sortI:List Int->List Int
 | []=>[]
 | x :: l=>Dw x (sortI l)
theorem kH (x:Int):∀ l,(Dw x l).Perm (x :: l)
 | []=>.refl _
 | y :: l=>by
  unfold Dw
  split
  ·exact .refl _
  ·exact ((kH x l).cons y).trans (.swap x y l)
theorem sortI_perm:∀ l,(sortI l).Perm l
 | []=>.refl _
 | x :: l=>(kH x (sortI l)).trans ((sortI_perm l).cons x)
theorem kG (x:Int):∀ {l:List Int},l.Pairwise (· <= ·)->(Dw x l).Pairwise (· <= ·)
 | [],_=>List.pairwise_singleton _ _
 | y :: l,h=>by
  have h':=g3v.mp h
  unfold Dw
  split
  ·rename_i c
   refine g3v.mpr ⟨fun z hz=>?_,h⟩
   rcases g0o.mp hz with rfl | hz
   ·exact c
   ·exact Int.le_trans c (h'.1 z hz)
  ·rename_i c
   refine g3v.mpr ⟨fun z hz=>?_,kG x h'.2⟩
   rcases g0o.mp ((kH x l).subset hz) with rfl | hz
   ·omega
   ·exact h'.1 z hz
theorem sortI_sorted:∀ l:List Int,(sortI l).Pairwise (· <= ·)
 | []=>.nil
 | x :: l=>kG x (sortI_sorted l)
theorem Kv {a b:List Int} (h:a.Perm b) (ha:a.Pairwise (· <= ·)):sortI b=a:=perm_eq ((sortI_perm b).trans h.symm) (sortI_sorted b) ha
section
variable {X:Cx} {e:Expr} {pos:Pos}
theorem vals_ints {us:List Value} {ns:List Int} (h:IntsAre us ns):xh (ns.map V.int) us:=by
 induction h with
 | nil=>exact .nil
 | cons _ _ _ ih=>exact .cons ⟨_,rfl⟩ ih
theorem WQ:wt X (.builtin "sorted") (fun xs H Q=>∃ (p:Addr) (ns:List Int),xs=[.ref p]/\SqL X.K H p (ns.map V.int)/\ns.length < 64/\∀ l,H l=none->Q (.ref l) (upd H l (.lst ((sortI ns).map V.int)))):=by
 intro pins s σ H xs us Q I r h
 obtain ⟨p,ns,rfl,hq,hn,q⟩:=h
 obtain ⟨u,rfl,rx⟩:=ql r
 cases rx
 obtain ⟨its,r',pl,hz⟩:=I.list hq
 have hi:=YA r'
 have hlen:=r'.length
 rw [g0f] at hlen hz
 refine sorted_ints (vs:=its) pl.isList hi (by omega) fun out ns' a1 a2 a3=>?_
 obtain ⟨e,he⟩:=sortedAll_at s.heap its out
 have es:sortI ns=ns':=Kv a2 a3
 have hf:H (s.heap.objs.size+1)=none:=I.hok.fresh (g3p _)
 have q':=q _ hf
 rw [es] at q'
 exact ⟨.ref (s.heap.objs.size+1),_,I.laid (t':=s.toks) (fun b o x=>sortedAll_old x) (g3p _) (show xY X.prog X.w _ (sortedAll s.heap its out) _ (.lst (ns'.map V.int)) from ⟨by rw [g0f,a2.length_eq]; exact hz,out.toList,e,vals_ints a1,by simpa using he⟩),rfl,q'⟩
def Wi (fa:FA):FA:=fun ρ=>(fa ρ).bind fun l=>match l with
 | [.lst ds]=>(uk ds).bind fun ns=>if ns.length < 64 then some ((sortI ns).map D.int) else none
 | _=>none
@[simp] theorem Bq {fa:FA} {ρ:Rho}:Wi fa ρ=(fa ρ).bind fun l=>match l with
 | [.lst ds]=>(uk ds).bind fun ns=>if ns.length < 64 then some ((sortI ns).map D.int) else none
 | _=>none:=rfl
theorem Xx {K:W.Frag} {H:Hp}:∀ ns:List Int,zZ K H (ns.map D.int) (ns.map V.int)
 | []=>.nil
 | n :: ns=>.cons (Has.int_iff.mpr rfl) (Xx ns)
theorem WR:bootBuiltins "sorted"=some (.builtin "sorted"):=by kernel_rfl
theorem qH {es:List Expr} {fa:FA} {p:Pos} (hg:Gl X "sorted") (hm:X.mg "sorted"=none) (ha:DAR X (e :: es) fa)
  (he:starEach (e :: es) X.env=(false,eval e X.env) :: starEach es X.env:=by rfl) (hpl:(backTo pos (starEach es X.env)).any (·.1)=false:=by rfl):DN X (.Call (.Name "sorted" p) (e :: es) [] pos) (Wi fa) :=
 yP (Vc (id:="sorted") WQ hg hm WR ha (by decide) (by decide) he hpl) fun σ H Q ⟨H₀,Hf₀,ρ,Hf,d,R,q,k⟩=>by
  obtain ⟨l,e1,e2⟩:=yj q
  refine ⟨H₀,Hf₀,ρ,Hf,l,R,e1,fun vs H1 Hf1 R1 s1 t1 h1=>?_⟩
  split at e2
  ·rename_i ds
   obtain ⟨ns,e3,e4⟩:=g1j.mp e2
   split at e4
   ·rename_i hn
    cases e4
    obtain ⟨v,rfl,hv⟩:=qR.one h1
    obtain ⟨a,ys,rfl,q,l⟩:=hv.lst R1
    have ey:=zZ.intsV l e3
    subst ey
    exact ⟨a,ns,rfl,q,hn,fun p hp=>k _ _ _ _ (R1.layN hp) (s1.trans (zI hp)) t1 (Xx _) zq (R1.sf.free hp) (s1.free hp)⟩
   ·cases e4
  ·cases e2
end
section
variable {X:Cx}
end
section
variable {prog:Program} {w:World} {A:Around} {E:Value->Shared->Prop} {s:Shared}
end
section
variable {X:Cx} {e st:Expr} {f fs:FE} {pos p2:Pos}
end
section
variable {O:KeyOrd} {n:Nat} {key:Nat->O.α}
open KeyOrd
end
open PySem.AutoSeq1 (wpAny_loadPart')
open PySem.MeetsSeq PySem.MeetsSeq2 PySem.MeetsSeq3
section
variable {prog:Program} {w:World} {A:Around} {E:Value->Shared->Prop} {s:Shared}
end
section
variable {X:Cx} {pins:List (Addr×Obj)} {σ:St} {H:Hp} {s:Shared} {A:Around}
end
section
variable {X:Cx} {pins:List (Addr×Obj)} {σ:St} {H:Hp} {s:Shared}
end
section
variable {X:Cx} {e:Expr} {pos:Pos} {kk:Nat}
end
section
variable {α:Type} {P:List α->Prop}
theorem RN (k:P []):∀ us:List α,us.length=0->P us
 | [],_=>k
theorem Hb (k:∀ a,P [a]):∀ us:List α,us.length=1->P us
 | a :: us,h=>RN (P:=fun us=>P (a :: us)) (k a) us (Nat.succ.inj h)
theorem X5 (k:∀ a b,P [a,b]):∀ us:List α,us.length=2->P us
 | a :: us,h=>Hb (P:=fun us=>P (a :: us)) (k a) us (Nat.succ.inj h)
theorem DF (k:∀ a b c,P [a,b,c]):∀ us:List α,us.length=3->P us
 | a :: us,h=>X5 (P:=fun us=>P (a :: us)) (k a) us (Nat.succ.inj h)
end
def Ms:D->Option Key
 | .int i=>some (.inl i)
 | .str x=>some (.inr x)
 | _=>none
def ZT:List D->Option (List Key)
 | []=>some []
 | d :: ds=>(Ms d).bind fun k=>(ZT ds).bind fun ks=>some (k :: ks)
def Mt:Key->D
 | .inl i=>.int i
 | .inr x=>.str x
theorem kC:∀ {ds:List D} {ks:List Key},ZT ds=some ks->ds=ks.map Mt
 | [],ks,h=>by cases h; rfl
 | d :: ds,ks,h=>by
  unfold ZT at h
  obtain ⟨k,h1,h⟩:=g1j.mp h
  obtain ⟨r,h2,h⟩:=g1j.mp h
  cases h
  rw [kC h2,g0h]
  congr 1
  unfold Ms at h1
  split at h1 <;> cases h1 <;> rfl
theorem Xw {K:W.Frag} {H:Hp}:∀ {ks:List Key} {xs:List V},zZ K H (ks.map Mt) xs->xs=ks.map kV
 | [],xs,h=>zZ.nil_iff.mp h
 | k :: ks,xs,h=>by
  obtain ⟨x,r,rfl,h1,h2⟩:=zZ.cons_iff.mp h
  rw [Xw h2,g0h]
  congr 1
  cases k with
  | inl i=>exact Has.int_iff.mp h1
  | inr z=>exact Has.str_iff.mp h1
theorem Xr {K:W.Frag} {H:Hp}:∀ (ks:List Key),zZ K H (ks.map Mt) (ks.map kV)
 | []=>.nil
 | k :: ks=>.cons (by cases k with
  | inl i=>exact Has.int_iff.mpr rfl
  | inr z=>exact Has.str_iff.mpr rfl) (Xr ks)
def KM {κ:Type} [DecidableEq κ] (kvs:List (κ×D)) (k:κ) (v:D):List (κ×D) :=
 if (kvs.any fun kv=>decide (kv.1=k))=true then kvs.map (fun kv=>if kv.1=k then (kv.1,v) else kv) else kvs++[(k,v)]
theorem KVs.any {K:W.Frag} {H:Hp} {κ:Type} [DecidableEq κ] {kvs:List (κ×D)} {ws:List (κ×V)} (r:KVs K H kvs ws) (k:κ):(kvs.any fun kv=>decide (kv.1=k))=ws.any fun kv=>decide (kv.1=k):=by
 induction r with
 | nil=>rfl
 | cons h t ih=>rw [g3g,g3g,ih,h.1]
theorem KVs.putAll {K:W.Frag} {H:Hp} {κ:Type} [DecidableEq κ] {kvs:List (κ×D)} {ws:List (κ×V)} (r:KVs K H kvs ws) (k:κ) {d:D} {v:V} (hv:Has K H d v) :
  KVs K H (kvs.map (fun kv=>if kv.1=k then (kv.1,d) else kv)) (ws.map (fun kv=>if kv.1=k then (kv.1,v) else kv)):=by
 induction r with
 | nil=>exact .nil
 | @cons p q ps qs h t ih =>
  rw [g0h,g0h]
  refine .cons ?_ ih
  by_cases e:p.1=k
  ·rw [if_pos e,if_pos (h.1.symm.trans e)]; exact ⟨h.1,hv⟩
  ·rw [if_neg e,if_neg (fun z=>e (h.1.trans z))]; exact h
theorem KVs.snoc {K:W.Frag} {H:Hp} {κ:Type} {kvs:List (κ×D)} {ws:List (κ×V)} (r:KVs K H kvs ws) {k:κ} {d:D} {v:V} (hv:Has K H d v):KVs K H (kvs++[(k,d)]) (ws++[(k,v)]):=by
 induction r with
 | nil=>exact .cons ⟨rfl,hv⟩ .nil
 | cons h t ih=>exact .cons h ih
theorem KVs.put {K:W.Frag} {H:Hp} {κ:Type} [DecidableEq κ] {kvs:List (κ×D)} {ws:List (κ×V)} (r:KVs K H kvs ws) (k:κ) {d:D} {v:V} (hv:Has K H d v):KVs K H (KM kvs k d) (Uj ws k v):=by
 unfold KM Uj
 rw [r.any k]
 split
 ·exact r.putAll k hv
 ·exact r.snoc hv
theorem KVs.length {K:W.Frag} {H:Hp} {κ:Type} {kvs:List (κ×D)} {ws:List (κ×V)} (r:KVs K H kvs ws):kvs.length=ws.length:=Paired.length r
section
variable {X:Cx} {pos:Pos} {kk:Nat}
def Dc (i:Nat):FS:=fun ρ=>some (.nx (ρ.set i (.oT [])))
theorem C7 {x:Str} {pos' dpos:Pos} (i:Nat) (hN:X.N.Nodup) (hi:X.N[i]? = some x:=by rfl) (hx:Loc X.env.scope x:=by first | exact Or.inl rfl | exact Or.inr rfl) (hs:swapsWith (.Dict [] [] dpos) (some (.Name x pos')) pos.line X.env=pure false:=by rfl)
  (hf:X.fn x=true\/X.env.scope.names.lookup x=some .local:=by first | exact .inl rfl | exact .inr rfl | assumption):DS X (.Assign [.Name x pos'] (.Dict [] [] dpos) pos) (Dc i) :=
 wj (Vb hN hi hx (K0 (pos:=dpos)) hs hf) fun D' σ H ⟨H₀,Hf₀,ρ,Hf,o,R,q,k⟩=>by
  cases q
  intro p hp
  refine k _ _ _ ((R.layN hp).setOwn i rfl ⟨[],zq,.nil⟩ (R.sf.free hp) (R.s0.free hp) ?_) zA
  intro j sl z o z'
  obtain ⟨b,p1,p2,_⟩:=R.ow j sl z o
  rw [p1] at z'; cases z'
  obtain ⟨ob,q'⟩:=p2.there o
  rw [q'] at hp; cases hp
def Jy (i:Nat) (fa:FA) (g:FE):FS:=fun ρ=>(g ρ).bind fun v=>(fa ρ).bind fun ks=>match ρ[i]? with
 | some (.oT kvs)=>(ZT ks).bind fun k=>if kvs.length < sizeLine/\ks.length<=sizeLine then some (.nx (ρ.set i (.oT (KM kvs k v)))) else none
 | _=>none
theorem C6 {x:Str} {es:List Expr} {x1} {p1 tp sp:Pos} {value:Expr} {fa:FA} {g:FE} (i:Nat) (hr:Room kk X.A) (hv:DE X value g) (ha:DA X es fa) (hN:X.N[i]? = some x:=by rfl) (hvis:Vis X.env.scope x:=by first | exact Or.inl rfl | exact Or.inr (Or.inl rfl) | exact Or.inr (Or.inr rfl))
  (hd:(x==("__debug__":Str))=false:=by decide) (hcd:(x==("__classdict__":Str))=false:=by decide)
  (hs:swapsWith value (some (.Subscript (.Name x p1) (.Tuple es x1 tp) sp)) pos.line X.env=pure false:=by rfl) :
  DS X (.Assign [.Subscript (.Name x p1) (.Tuple es x1 tp) sp] value pos) (Jy i fa g) :=
 wj (BJ (by have:=hr.un; omega) (uj hN hvis hd hcd) (Hw ha) hv hs) fun D' σ H ⟨H₀,Hf₀,ρ,Hf,o,R,q,k⟩=>by
  unfold Jy at q
  obtain ⟨v,e1,q⟩:=g1j.mp q
  obtain ⟨ks,e2,q⟩:=g1j.mp q
  split at q
  ·rename_i kvs el
   obtain ⟨kk,e3,q⟩:=g1j.mp q
   split at q
   ·rename_i hz
    cases q
    obtain ⟨a,p1,_⟩:=R.ow i _ el rfl
    refine ⟨H₀,Hf₀,ρ,Hf,v,R,e1,fun v1 H1 Hf1 R1 s1 t1 h1=>⟨_,p1,H₀,Hf₀,ρ,Hf1,ks,R1,e2,fun vs H2 Hf2 R2 s2 t2 h2=>⟨by rw [h2.length]; exact hz.2,fun p hp=>?_⟩⟩⟩
    have R3:=R2.lay (o:=.tup vs) hp
    obtain ⟨a',r1,⟨ws,r2,r3⟩,r4,r5⟩:=R3.ow i _ el rfl
    rw [p1] at r1; cases r1
    rw [kC e3] at h2
    have ev:=Xw h2
    have hzw:ws.length < sizeLine:=by rw [<- r3.length]; exact hz.1
    refine ⟨a,_,rfl,Nk.t r2 (by rw [zq,ev]) hzw,?_⟩
    have sm:yf Hf1 (upd Hf2 p (.tup vs)):=t2.trans (zI (R2.sf.free hp))
    exact k _ _ _ (R3.updOwn el rfl p1 rfl ⟨_,zq,r3.put kk (h1.mono sm)⟩) (t1.trans sm)
   ·cases q
  ·cases q
end
section
variable {prog:Program} {w:World} {A:Around} {E:Value->Shared->Prop} {s:Shared}
theorem UG {d:Addr} {Q:Value->Shared->Prop} (hd:(d==sysModules)=false) (hT:s.TypeIs (.ref d) "dict")
  (hQ:Q (.ref s.heap.objs.size) { s with heap:=s.heap.push { cls:=.type "dict_items",data:=.fields #[.ref d] } }):wpAny (model prog w) A (call (.builtin "dict.items") [.ref d]) Q E s:=by
 refine wpAny_call_entry PySem.F.slot_dict_items hT PySem.F.entry_dict_items ?_ (PySem.F.args_dict_items_1 _)
 unfold Builtin.«dict.items»
 refine wpAny_bind ?_
 unfold Builtin.Dict.noArgs
 refine wpAny_bind (wpAny_notOrdered_dict hT ?_)
 show wpAny _ _ (pure d) _ _ s
 refine wpAny_pure ?_
 show wpAny _ _ (Builtin.Dict.showsAll d >>= _) _ _ s
 unfold Builtin.Dict.showsAll
 rw [if_neg (by rw [hd]; exact g2a)]
 refine wpAny_bind (wpAny_pure ?_)
 exact wpAny_bind (wpAny_newObj_type (wpAny_pure ⟨_,rfl,hQ⟩))
theorem UJ {v d:Addr} {o:Obj} {es:Array DictEntry} {ep:Nat} {Q:Value->Shared->Prop} (hv:s.heap.IsItemsView v d) (ho:s.heap.get? d=some o) (hdat:o.data=.dict es ep)
  (hQ:Q (.ref s.heap.objs.size) { s with heap:=s.heap.push { cls:=.type "dict_itemiterator",data:=.fields #[.none,.bool false,.ref d,.int 0 0,.int es.size 0,.int ep 0,.none,.none] } }) :
  wpAny (model prog w) A (pyIter (.ref v)) Q E s:=by
 obtain ⟨ov,hov,hcv,hdv⟩:=id hv
 refine wpAny_pyIter_slot hv.typeIs F.slot_dict_items_iter (wpAny_call_entry F.slot_dict_items_iter hv.typeIs F.entry_dict_items_iter ?_ (F.args_dict_items_iter_1 _))
 unfold Builtin.«dict_items.__iter__»
 refine wpAny_bind (wpAny_pure (wpAny_bind ?_))
 unfold Builtin.Dict_items.dictOf
 refine wpAny_bind (wpAny_field hov hdv (x:=.ref d) rfl (wpAny_pure (wpAny_bind ?_)))
 unfold Builtin.Dict_items.newIterator
 refine wpAny_bind (wpAny_dictEntries ho hdat (wpAny_bind (wpAny_dictEpoch ho hdat ?_)))
 have hown:Builtin.Dict_items.ownsTuple "dict_itemiterator"=true:=by decide
 simp only [hown,if_true]
 refine wpAny_newObj_type (wpAny_pure ⟨_,rfl,"dict_itemiterator",_,⟨_,Heap.get?_push_size _ rfl,rfl⟩,F.slot_dict_itemiterator_next.lookup,?_⟩)
  (by simp only [sizeOk,Builtin.Dict_items.ownedTupleFields,g1d,g0g,g0e,g0n,sizeLine_eq]; omega)
 simpa [rawInt,Builtin.Dict_items.ownedTupleFields] using hQ
theorem UI {it d:Addr} {i ep:Nat} {od:Obj} {es:Array DictEntry} {ok ov:Value} {Q:Option Value->Shared->Prop} (hit:IsItemIter s.heap it d i es.size ep ok ov) (hod:s.heap.get? d=some od) (hdd:od.data=.dict es ep) (hlt:i < es.size)
  (hQ:∀ h',IsItemIterOut h' it d (i+1) es.size ep es[i].key es[i].val s.heap.objs.size->h'.get? s.heap.objs.size=some { cls:=.type "tuple",data:=.seq #[es[i].key,es[i].val] } →
   (∀ b o,b≠it->s.heap.get? b=some o->h'.get? b=some o)->Q (some (.ref s.heap.objs.size)) { s with heap:=h' }):wpAny (model prog w) A (pyNext (.ref it)) Q E s:=by
 obtain ⟨hp,g,dr,tk,os⟩:=s
 have hT:Shared.TypeIs ⟨hp,g,dr,tk,os⟩ (.ref it) "dict_itemiterator":=⟨_,hit,rfl⟩
 have hown:Builtin.Dict_items.ownsTuple "dict_itemiterator"=true:=by decide
 have hil:it < hp.objs.size:=Heap.lt_size hit
 unfold pyNext
 refine wpAny_bind (wpAny_attempt (wpAny_callSpecial?_slot (name:=Str.ofString "__next__") hT F.slot_dict_itemiterator_next
  (wpAny_call_entry F.slot_dict_itemiterator_next hT F.entry_dict_itemiterator_next ?_ (F.args_dict_itemiterator_next_1 _))))
 refine wpAny_bind (wpAny_pure (wpAny_bind (wpAny_bind ?_)))
 first | refine wpAny_bind (wpAny_typeNameOfWhole_itemiter hT (wpAny_pure ?_)) | refine wpAny_bind (wpAny_typeNameOf_itemiter hT (wpAny_pure ?_))
 refine wpAny_bind (wpAny_fieldsOf hit rfl ?_)
 simp only [hown,if_true]
 show wpAny _ _ (if (Value.ref d==Value.none)=true then _ else _) _ _ _
 rw [if_neg (show ¬ ((Value.ref d==Value.none)=true) from g2a)]
 refine wpAny_bind (wpAny_pure (wpAny_bind (wpAny_dictEntries hod hdd ?_)))
 rw [if_neg (by simp)]
 refine wpAny_bind (wpAny_pure (wpAny_bind (wpAny_dictEpoch hod hdd ?_)))
 rw [if_neg (by simp)]
 refine wpAny_pure ?_
 simp only [show ¬ ((i:Int) < 0) from by omega,if_false,Int.toNat_natCast,Array.getElem?_eq_getElem hlt]
 refine wpAny_bind ?_
 first | refine wpAny_bind (wpAny_typeNameOfWhole_itemiter hT (wpAny_pure ?_)) | refine wpAny_bind (wpAny_typeNameOf_itemiter hT (wpAny_pure ?_))
 refine wpAny_bind (wpAny_isOneOf_itemiter hT ?_)
 show wpAny _ _ (setField (.ref it) 3 (rawInt ((i:Int)+1)) >>= _) _ _ ⟨hp,g,dr,tk,os⟩
 refine wpAny_bind (wpAny_setField_rec hit (by simp) fun h₁ he₁ hs₁=>?_)
 replace hs₁:Heap.SameBut it hp h₁:=hs₁
 replace he₁:IsItemIter h₁ it d (i+1) es.size ep ok ov:=by
  have e:((i+1:Nat):Int)=(i:Int)+1:=by omega
  unfold IsItemIter
  rw [e]
  simpa [rawInt] using he₁
 have hT₁:Shared.TypeIs ⟨h₁,g,dr,tk,os⟩ (.ref it) "dict_itemiterator":=⟨_,he₁,rfl⟩
 refine wpAny_bind (wpAny_holding (wpAny_bind (wpAny_isOneOf_itemiter hT₁ (wpAny_bind (wpAny_isOneOf_itemiter hT₁ ?_)))))
 show wpAny _ _ (Builtin.Dict_items.pairFromOwner (.ref it) 6 es[i].key es[i].val) _ _ ⟨h₁,g,dr,tk,os⟩
 unfold Builtin.Dict_items.pairFromOwner
 refine wpAny_bind (wpAny_newTuple ?_)
 have he₂:IsItemIter (h₁.push { cls:=.type "tuple",data:=.seq #[es[i].key,es[i].val] }) it d (i+1) es.size ep ok ov:=Heap.get?_push_of_some _ he₁
 have hz₁:h₁.objs.size=hp.objs.size:=hs₁.1
 have ht₂:(h₁.push { cls:=.type "tuple",data:=.seq #[es[i].key,es[i].val] }).get? hp.objs.size=some { cls:=.type "tuple",data:=.seq #[es[i].key,es[i].val] }:=by rw [<- hz₁]; exact Heap.get?_push_size _ rfl
 have hk₂:∀ b o,b≠it->hp.get? b=some o->(h₁.push { cls:=.type "tuple",data:=.seq #[es[i].key,es[i].val] }).get? b=some o:=fun b o hb e=>Heap.get?_push_of_some _ (hs₁.extBut b o hb e)
 generalize h₁.push { cls:=.type "tuple",data:=.seq #[es[i].key,es[i].val] }=h₂ at he₂ ht₂ hk₂
 show wpAny _ _ (Builtin.Dict_items.ownedTupleIsFree (.ref it) >>= _) _ _ ⟨h₂,g,dr,tk,os⟩
 rw [hz₁]
 refine wpAny_bind ?_
 unfold Builtin.Dict_items.ownedTupleIsFree
 refine wpAny_bind (wpAny_field he₂ rfl (x:=.none) rfl (wpAny_pure ?_))
 simp only [if_true]
 refine wpAny_bind (wpAny_field he₂ rfl (x:=ok) rfl (wpAny_bind (wpAny_field he₂ rfl (x:=ov) rfl ?_)))
 refine wpAny_bind (wpAny_setField_rec he₂ (by simp) fun h₃ he₃ hs₃=>?_)
 replace he₃:IsItemIter h₃ it d (i+1) es.size ep es[i].key ov:=he₃
 refine wpAny_bind (wpAny_setField_rec he₃ (by simp) fun h₄ he₄ hs₄=>?_)
 replace he₄:IsItemIter h₄ it d (i+1) es.size ep es[i].key es[i].val:=he₄
 refine wpAny_bind (wpAny_setField_rec he₄ (by simp) fun h₅ he₅ hs₅=>?_)
 replace he₅:IsItemIterOut h₅ it d (i+1) es.size ep es[i].key es[i].val hp.objs.size:=he₅
 refine wpAny_bind (wpAny_setField_rec he₅ (by simp) fun h₆ he₆ hs₆=>?_)
 replace he₆:IsItemIterOut h₆ it d (i+1) es.size ep es[i].key es[i].val hp.objs.size:=he₆
 have all:∀ b o,b≠it->h₂.get? b=some o->h₆.get? b=some o:=fun b o hb e=>Heap.SameBut.extBut hs₆ b o hb (Heap.SameBut.extBut hs₅ b o hb (Heap.SameBut.extBut hs₄ b o hb (Heap.SameBut.extBut hs₃ b o hb e)))
 exact wpAny_bind (wpAny_letGo (wpAny_pure (wpAny_pure ⟨_,rfl,wpAny_pure (hQ h₆ he₆ (all _ _ (Nat.ne_of_gt hil) ht₂) fun b o hb e=>all b o hb (hk₂ b o hb e))⟩)))
theorem UH {it d:Addr} {i ep:Nat} {od:Obj} {es:Array DictEntry} {ok ov:Value} {Q:Option Value->Shared->Prop} (hh:A.handled=none) (hit:IsItemIter s.heap it d i es.size ep ok ov) (hod:s.heap.get? d=some od) (hdd:od.data=.dict es ep) (hge:es.size<=i)
  (hQ:∀ h',Heap.ExtBut it s.heap h'->Q none { s with heap:=h' }):wpAny (model prog w) A (pyNext (.ref it)) Q E s:=by
 have hT:s.TypeIs (.ref it) "dict_itemiterator":=⟨_,hit,rfl⟩
 have hown:Builtin.Dict_items.ownsTuple "dict_itemiterator"=true:=by decide
 unfold pyNext
 refine wpAny_bind (wpAny_attempt (wpAny_callSpecial?_slot (name:=Str.ofString "__next__") hT F.slot_dict_itemiterator_next
  (wpAny_call_entry F.slot_dict_itemiterator_next hT F.entry_dict_itemiterator_next ?_ (F.args_dict_itemiterator_next_1 _))))
 refine wpAny_bind (wpAny_pure (wpAny_bind (wpAny_bind ?_)))
 first | refine wpAny_bind (wpAny_typeNameOfWhole_itemiter hT (wpAny_pure ?_)) | refine wpAny_bind (wpAny_typeNameOf_itemiter hT (wpAny_pure ?_))
 refine wpAny_bind (wpAny_fieldsOf hit rfl ?_)
 simp only [hown,if_true]
 show wpAny _ _ (if (Value.ref d==Value.none)=true then _ else _) _ _ s
 rw [if_neg (show ¬ ((Value.ref d==Value.none)=true) from g2a)]
 refine wpAny_bind (wpAny_pure (wpAny_bind (wpAny_dictEntries hod hdd ?_)))
 rw [if_neg (by simp)]
 refine wpAny_bind (wpAny_pure (wpAny_bind (wpAny_dictEpoch hod hdd ?_)))
 rw [if_neg (by simp)]
 refine wpAny_pure ?_
 simp only [show ¬ ((i:Int) < 0) from by omega,if_false,Int.toNat_natCast,Array.getElem?_eq_none hge]
 refine wpAny_bind ?_
 first | refine wpAny_bind (wpAny_typeNameOfWhole_itemiter hT (wpAny_pure ?_)) | refine wpAny_bind (wpAny_typeNameOf_itemiter hT (wpAny_pure ?_))
 show wpAny _ _ (setField (.ref it) 2 .none >>= _) _ _ s
 refine wpAny_bind (wpAny_setField hit rfl (by simp) ?_)
 show wpAny _ _ (newExc (.type "StopIteration") [] >>= _) _ _ _
 refine wpAny_bind ?_
 simp only [newExc,newTuple]
 refine wpAny_bind (wpAny_newObj_type ?_ (by size_fits))
 refine wpAny_bind (m:=firstArgMember _ _) (wpAny_of_eq (a:=Value.none) (by first | rfl | (simp only [firstArgMember]; rfl)) ?_)
 refine wpAny_newObj_type ?_ (by size_fits)
 simp only [raiseNew]
 refine wpAny_bind (wpAny_handled ?_)
 rw [show A.in1.handled=none from hh]
 refine wpAny_bind (wpAny_pure (wpAny_throw ?_))
 refine wpAny_bind (wpAny_isInstance (T:="StopIteration") (b:=true) ⟨_,Heap.get?_push_size _ rfl,rfl⟩ isSubtype_stop ?_)
 exact wpAny_pure (hQ _ (((Heap.SameBut.update ..).extBut.push _).push _))
end
def ItD (a:Addr) (o:Obj) (ws:List (List Key×V)):It :=
  ⟨fun i H=>i < ws.length/\H a=some (.frz o (.dT ws)),
   fun i H x H'=>∃ p b k v,ws[i]? = some (k,v)/\H b=some (.tup (k.map kV))/\H p=none/\x=.ref p/\H'=upd H p (.tup [.ref b,v]),
   fun i H=>ws.length<=i/\H a=some (.frz o (.dT ws))⟩
theorem Paired.getP {α β:Type} {F:α->β->Prop}:∀ {l:List α} {m:List β} {i:Nat} {x:α},Paired F l m->l[i]? = some x->∃ y,m[i]? = some y/\F x y
 | _,_,0,x,.cons h t,e=>by
  rw [g0a] at e
  cases e
  exact ⟨_,g0a,h⟩
 | _,_,i+1,x,.cons h t,e=>by
  rw [g0c] at e
  obtain ⟨y,h1,h2⟩:=Paired.getP t e
  exact ⟨y,by rw [g0c]; exact h1,h2⟩
theorem V9 {P:Program} {w:World} {K:W.Frag} {elts:List Expr} {kx:Nat} {tp:Pos} {a it:Addr} {o:Obj} {es:Array DictEntry} {ep:Nat} {ws:List (List Key×V)} (hod:o.data=.dict es ep) (hsz:es.size=ws.length) :
  Turn P w K (.Tuple elts kx tp) (ItD a o ws) [it] it (fun i h=>∃ ok ov,IsItemIter h it a i es.size ep ok ov) where
 mem:=g0i
 obj:=fun i h st b hb=>by
  have e:b=it:=by simpa using hb
  subst e
  obtain ⟨ok,ov,he⟩:=st
  exact ⟨_,he,fun v z=>by cases z⟩
 keep:=fun i h h' st k=>by
  obtain ⟨ok,ov,he⟩:=st
  exact ⟨ok,ov,k it g0i _ he⟩
 item:=by
  intro X hP hw hK hc i pins s σ H E I hf st hg
  subst hP hw hK
  obtain ⟨ok,ov,he⟩:=st
  obtain ⟨f0,f1,f2,f3,f4,f5⟩:=hf it g0i
  obtain ⟨hlt,ha⟩:=hg
  obtain ⟨hoa,hz,hd,xs,rel,o',es',ep',h1,h2,h3,h4,h5⟩:=(show s.heap.get? a=some o/\xY X.prog X.w H s.heap a (.dT ws) from I.hok a _ ha)
  rw [hoa] at h1
  cases h1
  rw [hod] at h3
  cases h3
  have hi:i < es.size:=by rw [hsz]; exact hlt
  obtain ⟨q,hq,r1,r2,r3⟩:=Paired.getP rel (g0p hlt)
  have hes:es[i]=entryOfKey (tupleKind (xU X.prog X.w)) q:=by
   have e1:es.toList[i]? = some es[i]:=by simp [hi]
   rw [h4,g0z,hq] at e1
   exact (g3e.inj e1).symm
  have ek:es[i].key=.ref q.2.1:=by rw [hes]; rfl
  have ev:es[i].val=q.2.2:=by rw [hes]; rfl
  refine UI he hoa hod hi fun h' hout htup hkeep=>⟨_,rfl,?_⟩
  rw [ek,ev] at htup
  refine wpAny_letOwnedTupleGo_items hout fun h'' he'' hs''=>?_
  have hil:it < s.heap.objs.size:=Heap.lt_size he
  have hfp:H s.heap.objs.size=none:=I.hok.fresh (g0q _)
  have I1:Inv X pins σ (upd H s.heap.objs.size (.tup [.ref q.2.1,ws[i].2])) { s with heap:=s.heap.push { cls:=.type "tuple",data:=.seq #[.ref q.2.1,q.2.2] },toks:=s.toks } :=
   I.laid (t':=s.toks) (fun b u e=>Heap.get?_push_of_some _ e) (g0q _) ⟨by show 2<=sizeLine; decide,[.ref q.2.1,q.2.2],.cons rfl (.cons r3 .nil),⟨_,Heap.get?_push_size _ rfl,rfl,_,rfl⟩⟩
  have fe:(upd H s.heap.objs.size (.tup [.ref q.2.1,ws[i].2])) it=none:=by rw [zG (g1u hil)]; exact f0
  have I2:Inv X pins σ (upd H s.heap.objs.size (.tup [.ref q.2.1,ws[i].2])) { s with heap:=h'' }:=I1.turned (t':=s.toks) (fun b ob hb e=>by
   refine (hs''.2 b hb).trans ?_
   by_cases c:b=s.heap.objs.size
   ·subst c
    rw [Heap.get?_push_size _ rfl] at e
    cases e
    exact htup
   ·rw [Heap.get?_push_ne _ _ _ c] at e
    exact hkeep b ob hb e) fe f1 f3 f4 f5
  refine ⟨.ref s.heap.objs.size,_,I2,rfl,⟨s.heap.objs.size,q.2.1,ws[i].1,ws[i].2,g0p hlt,r2,hfp,rfl,rfl⟩,⟨_,_,he''⟩,fun b hb=>?_⟩
  have e:b=it:=by simpa using hb
  subst e
  exact fe
 done:=by
  intro X hP hw hK hc i pins s σ H E I hf st hg
  subst hP hw hK
  obtain ⟨ok,ov,he⟩:=st
  obtain ⟨f0,f1,f2,f3,f4,f5⟩:=hf it g0i
  obtain ⟨hle,ha⟩:=hg
  have hoa:s.heap.get? a=some o:=(show s.heap.get? a=some o/\xY X.prog X.w H s.heap a (.dT ws) from I.hok a _ ha).1
  exact UH (I.ok.hd hc) he hoa hod (by rw [hsz]; exact hle) fun h' hx=>⟨rfl,I.turned (t':=s.toks) (fun b ob hb e=>hx b ob hb e) f0 f1 f3 f4 f5⟩
 self:=fun A i s Q E st h=>by
  obtain ⟨ok,ov,he⟩:=st
  exact PySem.W.kcp_self he h
def xV (kvs:List (List Key×D)):List D:=kvs.map fun kv=>.tup [.tup (kv.1.map Mt),kv.2]
theorem We {K:W.Frag} {Hf:Hp} {a:Addr} {o:Obj} {ws:List (List Key×V)} {kvs:List (List Key×D)} (ha:Hf a=some (.frz o (.dT ws))) (r:KVs K Hf kvs ws):Walks K Hf (ItD a o ws) (xV kvs):=fun H' Hf' t sf i=>by
 have ha':H' a=some (.frz o (.dT ws)):=sf _ _ (t _ _ ha)
 have hlen:=r.length
 refine ⟨fun d hd=>?_,fun hle=>⟨by unfold xV at hle; rw [g0f] at hle; omega,ha'⟩⟩
 unfold xV at hd
 rw [g0z] at hd
 cases hk:kvs[i]? with
 | none=>rw [hk] at hd; cases hd
 | some kv =>
  rw [hk] at hd
  cases hd
  obtain ⟨⟨k0,v0⟩,hw,h1,h2⟩:=Paired.getP r hk
  have hi:i < ws.length:=(g0v.mp hw).1
  refine ⟨⟨hi,ha'⟩,fun x H2 hy=>?_⟩
  obtain ⟨p,b,k,v,e1,e2,e3,rfl,rfl⟩:=hy
  rw [hw] at e1
  cases e1
  have hfp:Hf' p=none:=sf.free e3
  have hbp:b≠p:=yb e2 e3
  have hsb:∀ u,Hf' b=some u->u=.tup (k0.map kV):=fun u e=>by
   have:=sf _ _ e
   rw [e2] at this
   exact (g3e.inj this).symm
  have sm1:yf Hf' (upd Hf' b (.tup (k0.map kV))):=fun c u e=>by
   by_cases hc:c=b
   ·subst hc; rw [zq,hsb u e]
   ·rw [zG hc]; exact e
  have hfp1:(upd Hf' b (.tup (k0.map kV))) p=none:=by rw [zG (Ne.symm hbp)]; exact hfp
  have sm2:=zI (o:=.tup [.ref b,v0]) hfp1
  refine ⟨upd (upd Hf' b (.tup (k0.map kV))) p (.tup [.ref b,v0]),⟨zI e3,sm1.trans sm2,fun c u e=>?_,fun c u e=>?_⟩,?_⟩
  ·by_cases hc:c=p
   ·subst hc; rw [zq] at e ⊢; exact e
   ·rw [zG hc] at e ⊢
    by_cases hc':c=b
    ·subst hc'; rw [zq] at e; cases e; exact e2
    ·rw [zG hc'] at e; exact sf _ _ e
  ·by_cases hc:c=p
   ·subst hc; exact .inr (.inl e3)
   ·rw [zG hc] at e
    by_cases hc':c=b
    ·subst hc'; rw [zq] at e; cases e; exact .inr (.inr ⟨k0,rfl⟩)
    ·rw [zG hc'] at e; exact .inl e
  ·have e1:kv.1=k0:=h1
   show Has K _ (.tup [.tup (kv.1.map Mt),kv.2]) (.ref p)
   rw [e1]
   refine Has.tup_iff.mpr ⟨p,[.ref b,v0],rfl,SqT.of zq,.cons (Has.tup_iff.mpr ⟨b,k0.map kV,rfl,SqT.of (by rw [zG hbp,zq]),Xr k0⟩) (.cons (h2.mono ((t.trans sm1).trans sm2)) .nil)⟩
section
variable {K:W.Frag} {H₀ Hf₀:Hp} {σ:St} {ρ:Rho} {H Hf:Hp}
theorem Rep.letGo (R:Rep K H₀ Hf₀ σ ρ H Hf) {kvs:List (List Key×D)} {i:Nat} (e:ρ[i]? = some (.oT kvs)) {a:Addr} (ea:σ[i]? = some (some (.ref a))) (u:HO):yf Hf (upd Hf a u)/\Rep K H₀ Hf₀ σ (ρ.set i .no) (upd H a u) (upd Hf a u):=by
 obtain ⟨a',q1,⟨ws,q2,q2'⟩,q3,q4⟩:=R.ow i _ e rfl
 rw [ea] at q1; cases q1
 have hil:i < ρ.length:=(g0v.mp e).1
 have sm:yf Hf (upd Hf a u):=zI q3
 refine ⟨sm,fun b v z=>?_,fun b v z=>?_,fun b v z=>?_,R.f0.trans sm,by simp [R.len],fun j d z=>?_,fun j s1 z oz=>?_,fun j k s1 s2 b z oz z' oz' y y'=>?_⟩
 ·rw [zG (yb z q4)]; exact R.s0 b v z
 ·by_cases hb:b=a
  ·subst hb; rw [zq] at z ⊢; exact z
  ·rw [zG hb] at z ⊢; exact R.sf b v z
 ·by_cases hb:b=a
  ·subst hb; exact .inr (.inl q4)
  ·rw [zG hb] at z; exact R.nf b v z
 ·rw [g1m] at z
  by_cases hj:i=j
  ·rw [if_pos hj,if_pos hil] at z; cases z
  ·rw [if_neg hj] at z
   obtain ⟨v,p1,p2⟩:=R.fr j d z
   exact ⟨v,p1,p2.mono sm⟩
 ·rw [g1m] at z
  by_cases hj:i=j
  ·rw [if_pos hj,if_pos hil] at z
   cases z; cases oz
  ·rw [if_neg hj] at z
   obtain ⟨b,p1,p2,p3,p4⟩:=R.ow j s1 z oz
   have hba:b≠a:=by
    rintro rfl
    exact hj (R.inj i j _ s1 b e rfl z oz ea p1)
   refine ⟨b,p1,p2.mono (fun o q=>by rw [zG hba]; exact q) sm,?_,p4⟩
   rw [zG hba]
   exact p3
 ·have own_at:∀ (j:Nat) (s1:Slot),(ρ.set i .no)[j]? = some s1->s1.own=true->ρ[j]? = some s1:=fun j s1 z oz=>by
   rw [g1m] at z
   by_cases hj:i=j
   ·rw [if_pos hj,if_pos hil] at z; cases z; cases oz
   ·rw [if_neg hj] at z; exact z
  exact R.inj j k s1 s2 b (own_at j s1 z oz) oz (own_at k s2 z' oz') oz' y y'
end
def tID (K:W.Frag) (i:Nat):TI:=fun σ H R'=>∃ H₀ Hf₀ ρ Hf kvs,Rep K H₀ Hf₀ σ ρ H Hf/\ρ[i]? = some (.oT kvs)/\∀ J H' Hf',Rep K H₀ Hf₀ σ (ρ.set i .no) H' Hf'->yf Hf Hf'->Walks K Hf' J (xV kvs)->R' J H'
section
variable {X:Cx} {pos:Pos} {body:List Stmt} {γ:FG} {B:FS}
theorem jC:typeOf (.builtin "dict.items")=pure (.type "method_descriptor"):=by show builtinType _=_; rw [builtinType_eq_fast]; kernel_rfl
theorem KU {x:Str} {p1 apos cpos:Pos} {elts:List Expr} {kx:Nat} {tp:Pos} (i:Nat) (hN:X.N[i]? = some x:=by rfl) (hvis:Vis X.env.scope x:=by first | exact Or.inl rfl | exact Or.inr (Or.inl rfl) | exact Or.inr (Or.inr rfl))
  (hd:(x==("__debug__":Str))=false:=by decide) (hcd:(x==("__classdict__":Str))=false:=by decide)
  (hbase:attributeBase (.Name x p1) "items" X.env (eval (.Name x p1) X.env)=eval (.Name x p1) X.env:=by rfl) (hline:(apos.endLine==cpos.line)=true:=by rfl) :
  PI X (.Tuple elts kx tp) (.Call (.Attribute (.Name x p1) "items" apos) [] [] cpos) (tID X.K i):=by
 intro pins s σ H R' I h
 obtain ⟨H₀,Hf₀,ρ,Hf,kvs,R,e,k⟩:=h
 obtain ⟨a,q1,⟨ws,q2,q2'⟩,q3,q4⟩:=R.ow i _ e rfl
 refine wpAny_Call_method0_late hbase hline (thn (uj hN hvis hd hcd pins s σ H (fun v H1=>v=.ref a/\H1=H) I ⟨_,q1,rfl,rfl⟩) fun v s1 ⟨y,H1,I1,r1,ey,eH⟩=>?_)
 subst ey eH
 cases r1
 obtain ⟨hz,hd',xs,rel,o,es,ep,g1,g2,g3,g4,g5⟩:=(show xY X.prog X.w H1 s1.heap a (.dT ws) from I1.hok a _ q2)
 have hT:s1.TypeIs (.ref a) "dict":=⟨o,g1,g2.1⟩
 refine ⟨"dict","dict.items",PySem.F.plainAttrs_dict,PySem.F.slot_dict_items,jC,hT,?_,?_⟩
 ·intro a' ea
  cases ea
  exact ⟨o,g1,g2.2.1⟩
 ·refine Calls.callWith_builtin rfl (PySem.evalArgs_none (UG hd' hT ?_))
  have hal:a < s1.heap.objs.size:=Heap.lt_size g1
  have hsx:xs.length=es.size:=by
   have:=congrArg List.length g4
   rw [g0f,Array.length_toList] at this
   exact this.symm
  refine UJ (d:=a) ⟨_,Heap.get?_push_size _ rfl,rfl,rfl⟩ (Heap.get?_push_of_some _ g1) g3 ?_
  obtain ⟨sm,R2⟩:=R.letGo e q1 (.frz o (.dT ws))
  have hsz1:(s1.heap.push { cls:=.type "dict_items",data:=.fields #[.ref a] }).objs.size=s1.heap.objs.size+1:=size_push' _ _
  have kp:∀ b u,s1.heap.get? b=some u->((s1.heap.push { cls:=.type "dict_items",data:=.fields #[.ref a] }).push { cls:=.type "dict_itemiterator",data:=.fields #[.none,.bool false,.ref a,.int 0 0,.int es.size 0,.int ep 0,.none,.none] }).get? b=some u:=fun b u z=>Heap.get?_push_of_some _ (Heap.get?_push_of_some _ z)
  have I2:=I1.kept (t':=s1.toks) kp
  have ne:∀ c ks,H1 c=some (.tup ks)->c≠a:=fun c ks z=>Ma z q2 (fun z=>nomatch z)
  have I3:=YI (ob:=.frz o (.dT ws)) (t':=s1.toks) I2 (by rw [q2]; exact True.intro) (Heap.SameBut.refl _ _) ⟨o,kp _ _ g1⟩
   ⟨kp _ _ g1,hz,hd',xs,Paired.mapP rel fun p q z=>⟨z.1,by rw [zG (ne _ _ z.2.1)]; exact z.2.1,z.2.2⟩,o,es,ep,kp _ _ g1,g2,g3,g4,g5⟩
  have hit:(s1.heap.push { cls:=.type "dict_items",data:=.fields #[.ref a] }).objs.size≠a:=by rw [hsz1]; exact Nat.ne_of_gt (Nat.lt_succ_of_lt hal)
  refine ⟨_,[(s1.heap.push { cls:=.type "dict_items",data:=.fields #[.ref a] }).objs.size],_,_,_,rfl,I3,V9 (a:=a) (ws:=ws) (elts:=elts) (kx:=kx) (tp:=tp) g3 (by rw [<- hsx]; exact (Paired.length rel).symm),⟨_,_,Heap.get?_push_size _ rfl⟩,fun b hb=>?_,k _ _ _ R2 sm (We zq (KVs.mono sm q2'))⟩
  have eb:b=(s1.heap.push { cls:=.type "dict_items",data:=.fields #[.ref a] }).objs.size:=by simpa using hb
  have hle:s1.heap.objs.size<=b:=by rw [eb,hsz1]; exact g3p _
  exact uF.none' (VB I1 hle) (by rw [zG (by rw [eb]; exact hit)]; exact I1.hok.fresh hle)
def GM (i:Nat) (γ:FG) (B:FS):FS:=fun ρ=>match ρ[i]? with
 | some (.oT kvs)=>yd γ B (xV kvs) (ρ.set i .no)
 | _=>none
@[simp] theorem Bv {i:Nat} {γ:FG} {B:FS} {ρ:Rho}:GM i γ B ρ=match ρ[i]? with
 | some (.oT kvs)=>yd γ B (xV kvs) (ρ.set i .no)
 | _=>none:=rfl
@[simp] theorem Bx {i:Nat} {ρ:Rho}:Dc i ρ=some (.nx (ρ.set i (.oT []))):=rfl
@[simp] theorem Bw {i:Nat} {fa:FA} {g:FE} {ρ:Rho}:Jy i fa g ρ=(g ρ).bind fun v=>(fa ρ).bind fun ks=>match ρ[i]? with
 | some (.oT kvs)=>(ZT ks).bind fun k=>if kvs.length < sizeLine/\ks.length<=sizeLine then some (.nx (ρ.set i (.oT (KM kvs k v)))) else none
 | _=>none:=rfl
theorem C5 {tg iter:Expr} {i0:Nat} (hp:PassesOwn (model X.prog X.w) X.A X.env X.xe) (hc:X.calm=true) (hi:PI X tg iter (tID X.K i0)) (hg:DG X tg γ) (hb:DSs X body B)
  (hs:∀ x,foldedSetIterable iter X.env x=pure x:=by intro _; rfl):DS X (.For tg iter body [] pos) (GM i0 γ B) :=
 wj (Qn hp hc hi hg hb hs) fun D' σ H ⟨H₀,Hf₀,ρ,Hf,o,R,q,k⟩=>by
  unfold GM at q
  split at q
  ·rename_i kvs el0
   refine ⟨H₀,Hf₀,ρ,Hf,kvs,R,el0,fun J H1 Hf1 R1 t1 wk=>?_⟩
   have k1:=k.mono t1
   refine ⟨fun i m σ H=>m=(xV kvs).length - i/\i<=(xV kvs).length/\∃ ρ Hf',Rep X.K H₀ Hf₀ σ ρ H Hf'/\yf Hf1 Hf'/\yd γ B ((xV kvs).drop i) ρ=some o,⟨(xV kvs).length,by simp,g1z _,_,Hf1,R1,zA,by simpa using q⟩,?_⟩
   rintro i m σ2 H2 ⟨rfl,hi,ρ2,Hf2,R2,t2,el⟩
   obtain ⟨w1,w2⟩:=wk H2 Hf2 t2 R2.sf i
   by_cases hil:i < (xV kvs).length
   ·right
    obtain ⟨go,yld⟩:=w1 _ (g0p hil)
    refine ⟨go,?_⟩
    rw [g2f hil] at el
    unfold yd at el
    cases eg:γ (xV kvs)[i] ρ2 with
    | none=>rw [eg] at el; cases el
    | some ρ3 =>
     rw [eg] at el
     simp only [g0b] at el
     obtain ⟨o1,eb,eo⟩:=uW el
     refine ⟨fun σ' H'=>∃ ρ' Hf',Rep X.K H₀ Hf₀ σ' ρ' H' Hf'/\yf Hf1 Hf'/\yd γ B ((xV kvs).drop (i+1)) ρ'=some o,?_,?_⟩
     ·rintro σ' H' ⟨ρ',Hf',R',t',e'⟩
      exact ⟨(xV kvs).length - (i+1),by omega,rfl,hil,ρ',Hf',R',t',e'⟩
     ·intro x H3 hy
      obtain ⟨Hf3,gr,hx⟩:=yld x H3 hy
      refine ⟨H₀,Hf₀,ρ2,Hf3,(xV kvs)[i],ρ3,R2.grows gr,hx,eg,fun σ4 H4 Hf4 R4 t4=>?_⟩
      refine ⟨H₀,Hf₀,ρ3,Hf4,o1,R4,eb,?_⟩
      have tt:yf Hf1 Hf4:=(t2.trans gr.f).trans t4
      cases o1 with
      | nx ρ5=>exact fun σ5 H5 Hf5 R5 t5=>⟨ρ5,Hf5,R5,tt.trans t5,eo⟩
      | ct ρ5=>exact fun σ5 H5 Hf5 R5 t5=>⟨ρ5,Hf5,R5,tt.trans t5,eo⟩
      | bk ρ5=>cases eo; exact fun σ5 H5 Hf5 R5 t5=>k1 _ _ _ R5 (tt.trans t5)
      | rt d=>cases eo; exact fun v σ5 ρ5 H5 Hf5 R5 t5 h5=>k1 _ _ _ _ _ R5 (tt.trans t5) h5
   ·left
    have:(xV kvs).drop i=[]:=g2s (by omega)
    rw [this] at el
    cases el
    exact ⟨w2 (by omega),k1 _ _ _ R2 t2⟩
  ·cases q
end
section
variable {X:Cx} {pos:Pos} {kk:Nat}
end
def P4 (z:Str) (lo hi:Option Int):Str:=⟨(Zr z.cps.toList lo hi).toArray⟩
section
variable {X:Cx}
def D0 (f:FE) (l u:FP):FE:=fun ρ=>(f ρ).bind fun x=>(l ρ).bind fun lo=>(u ρ).bind fun hi=>match x with
 | .tup ds=>some (.tup (Zr ds lo hi))
 | .lst ds=>some (.lst (Zr ds lo hi))
 | .str z=>if z.length<=sizeLine then some (.str (P4 z lo hi)) else none
 | _=>none
variable {a b c e:Expr} {f g h:FE} {pos p2:Pos}
end
def Rl (z:Str):List D:=z.cps.toList.map fun c=>D.str ⟨#[c]⟩
section
variable {X:Cx} {e:Expr} {f:FE} {pos:Pos} {tg:Expr}
def U9:D->Option (List D)
 | .lst ds=>some ds
 | .tup ds=>some ds
 | .str z=>some (Rl z)
 | _=>none
def Rn (f:FE):FA:=fun ρ=>(f ρ).bind U9
end
section
variable {X:Cx} {o e:Expr} {f g:FE} {kk:Nat}
end
section
variable {X:Cx}
end
def jn (out:Str):List Str->Str
 | []=>out
 | z :: zs=>jn (out++z) zs
theorem Q4:∀ (zs:List Str) (out:Str),out.length<=(jn out zs).length
 | [],_=>g0q _
 | z :: zs,out=>by
  have h:=Q4 zs (out++z)
  rw [strLen_append] at h
  show _<=(jn (out++z) zs).length
  omega
abbrev FJ:=Rho->Option (List Str)
def tJ (K:W.Frag) (fj:FJ) (out:Str):TE:=fun σ H Q=>∃ H₀ Hf₀ ρ Hf zs,Rep K H₀ Hf₀ σ ρ H Hf/\fj ρ=some zs/\(jn out zs).length<=sizeLine ∧
 ∀ H' Hf',Rep K H₀ Hf₀ σ ρ H' Hf'->yf H H'->yf Hf Hf'->Q (.str (jn out zs)) H'
def DJ (X:Cx) (es:List Expr) (fj:FJ):Prop :=
 ∀ (out:Str) (pins:List (Addr×Obj)) (s:Shared) (σ:St) (H:Hp) (Q:VK),Inv X pins σ H s->tJ X.K fj out σ H Q->wpAny (model X.prog X.w) X.A (joinParts out (evalEach es X.env)) (EP X pins σ Q) X.xe s
section
variable {X:Cx} {e:Expr} {es:List Expr} {f:FE} {fj:FJ} {pos p2:Pos}
def Kg:FJ:=fun _=>some []
def UW (z:Str) (fj:FJ):FJ:=fun ρ=>(fj ρ).bind fun zs=>some (z :: zs)
def Nt:D->Option Str
 | .int i=>if i.natAbs.log2 < 1920 then some (toString i) else none
 | .str z=>if z.length<=sizeLine then some z else none
 | _=>none
def Ki (f:FE) (fj:FJ):FJ:=fun ρ=>(f ρ).bind fun d=>(Nt d).bind fun z=>(fj ρ).bind fun zs=>some (z :: zs)
theorem JD:DJ X [] Kg:=by
 intro out pins s σ H Q I h
 obtain ⟨H₀,Hf₀,ρ,Hf,zs,R,q,hz,k⟩:=h
 cases q
 exact joinParts_nilE (joinParts_nil ⟨.str out,H,I.tok _,⟨_,rfl⟩,k _ _ R zA zA⟩ hz)
theorem JF {z:Str} {j:Nat} (h:DJ X es fj):DJ X (.Constant (.str z) j p2 :: es) (UW z fj):=by
 intro out pins s σ H Q I hh
 obtain ⟨H₀,Hf₀,ρ,Hf,zs,R,q,hz,k⟩:=hh
 cases e:fj ρ with
 | none=>unfold UW at q; rw [e] at q; cases q
 | some zs' =>
  unfold UW at q
  rw [e] at q
  cases q
  have hz':(jn (out++z) zs').length<=sizeLine:=hz
  refine joinParts_consE (joinParts_cons (Calls.Constant_str ?_))
  exact ⟨g2j (Q4 _ _) hz',h (out++z) pins _ σ H Q (I.tok _) ⟨H₀,Hf₀,ρ,Hf,zs',R,e,hz',k⟩⟩
theorem JE (he:DR X e f) (h:DJ X es fj):DJ X (.FormattedValue e (-1) none p2 :: es) (Ki f fj):=by
 intro out pins s σ H Q I hh
 obtain ⟨H₀,Hf₀,ρ,Hf,zs,R,q,hz,k⟩:=hh
 obtain ⟨d,e1,e2⟩:=ya q
 cases e3:Nt d with
 | none=>rw [e3] at e2; cases e2
 | some z =>
  rw [e3] at e2
  cases e4:fj ρ with
  | none=>rw [e4] at e2; cases e2
  | some zs' =>
   rw [e4] at e2
   cases e2
   have hz':(jn (out++z) zs').length<=sizeLine:=hz
   refine joinParts_consE (joinParts_cons (FormattedValue_plain (thn (he pins s σ H (fun v H1=>∃ Hf1,Rep X.K H₀ Hf₀ σ ρ H1 Hf1/\yf H H1/\yf Hf Hf1/\qh X.K Hf1 σ ρ d v) I ⟨H₀,Hf₀,ρ,Hf,d,R,e1,fun v H1 Hf1 R1 s1 t1 h1=>⟨Hf1,R1,s1,t1,h1⟩⟩) fun u s1 ⟨v,H1,I1,r,Hf1,R1,s1',t1,h1⟩=>?_)))
   have fin:∀ (t':Tok) (tk:Nat),(out++z).length<=sizeLine/\wpAny (model X.prog X.w) X.A (joinParts (out++z) (evalEach es X.env)) (EP X pins σ Q) X.xe { s1 with toks:=tk }:=fun t' tk =>
    ⟨g2j (Q4 _ _) hz',h (out++z) pins _ σ H1 Q (I1.tok _) ⟨H₀,Hf₀,ρ,Hf1,zs',R1,e4,hz',fun H2 Hf2 R2 s2 t2=>k _ _ R2 (s1'.trans s2) (t1.trans t2)⟩⟩
   unfold Nt at e3
   split at e3
   ·split at e3
    ·cases e3
     cases h1.int
     obtain ⟨t,rfl⟩:=r
     exact formatField_int_small (by assumption) (fin (s1.toks+1) _)
    ·cases e3
   ·split at e3
    ·cases e3
     cases h1.str
     obtain ⟨t,rfl⟩:=r
     exact formatField_str fin (by assumption)
    ·cases e3
   ·cases e3
def jH (fj:FJ):FE:=fun ρ=>(fj ρ).bind fun zs=>if (jn Str.empty zs).length<=sizeLine then some (.str (jn Str.empty zs)) else none
theorem JK {v₁ v₂:Expr} (h:DJ X (v₁ :: v₂ :: es) fj) (hs:evalEach (v₁ :: v₂ :: es) X.env=eval v₁ X.env :: eval v₂ X.env :: evalEach es X.env:=by rfl):DE X (.JoinedStr (v₁ :: v₂ :: es) pos) (jH fj):=by
 intro pins s σ H Q I hh
 obtain ⟨H₀,Hf₀,ρ,Hf,d,R,q,k⟩:=hh
 cases e:fj ρ with
 | none=>unfold jH at q; rw [e] at q; cases q
 | some zs =>
  unfold jH at q
  rw [e] at q
  have q:(if (jn Str.empty zs).length<=sizeLine then some (D.str (jn Str.empty zs)) else none)=some d:=q
  split at q
  ·cases q
   refine JoinedStr_many ?_
   rw [<- hs]
   exact h Str.empty pins s σ H Q I ⟨H₀,Hf₀,ρ,Hf,zs,R,e,by assumption,fun H' Hf' R' s' t'=>k _ _ _ R' s' t' (Has.str_iff.mpr rfl)⟩
  ·cases q
end
@[simp] theorem Kz {f:FE} {l u:FP} {ρ:Rho}:D0 f l u ρ=(f ρ).bind fun x=>(l ρ).bind fun lo=>(u ρ).bind fun hi=>match x with
 | .tup ds=>some (.tup (Zr ds lo hi))
 | .lst ds=>some (.lst (Zr ds lo hi))
 | .str z=>if z.length<=sizeLine then some (.str (P4 z lo hi)) else none
 | _=>none:=rfl
@[simp] theorem D6 {f:FE} {ρ:Rho}:Rn f ρ=(f ρ).bind U9:=rfl
@[simp] theorem NT {fj:FJ} {ρ:Rho}:jH fj ρ=(fj ρ).bind fun zs=>if (jn Str.empty zs).length<=sizeLine then some (.str (jn Str.empty zs)) else none:=rfl
@[simp] theorem PH {ρ:Rho}:Kg ρ=some []:=rfl
@[simp] theorem PR {z:Str} {fj:FJ} {ρ:Rho}:UW z fj ρ=(fj ρ).bind fun zs=>some (z :: zs):=rfl
@[simp] theorem PP {f:FE} {fj:FJ} {ρ:Rho}:Ki f fj ρ=(f ρ).bind fun d=>(Nt d).bind fun z=>(fj ρ).bind fun zs=>some (z :: zs):=rfl
section
variable {K:W.Frag} {C p dx l:Addr} {H Hf H' Hf' H2 Hf2:Hp} {hd wd:D} {ms:List D}
end
section
variable (gA gT gI gS:List D->Option D)
variable (gL:List D->Option D)
end
section
variable {X:Cx} {pins:List (Addr×Obj)} {σ:St} {H:Hp} {s:Shared} {e:Value}
end
section
variable {X:Cx} {pins:List (Addr×Obj)} {σ:St} {H:Hp} {s:Shared}
end
end FL
namespace FL
open PySem PySem.Spec PySem.Calls PyProof.Rows L2
section
variable {prog:Program} {w:World} {A:Around} {E:Value->Shared->Prop} {s:Shared} {K:W.Frag} {a C:Addr}
end
end FL
namespace FL
open PySem PySem.Spec PyProof.Rows L2
inductive OutX where
 | o (x:Out)
 | ex (n:Str)
abbrev FSX:=Rho->Option OutX
section
variable {X:Cx} {E:XK} {c tg iter:Expr} {fi:FA} {ft:FT} {pos:Pos} {st:Stmt} {sts uQ body:List Stmt} {F:FS} {G G1 G2 B:FSX} {γ:FG}
end
inductive RX where
 | v (d:D)
 | ex (n:Str)
section
variable {mg:Str->Option Value} {K:W.Frag} {n:Nat} {g:List D->Option RX} {vs:List V} {H Hf:Hp} {Q:VK} {E:XK} {ds:List D}
end
section
variable {X:Cx} {o e:Expr} {f g:FE} {kk:Nat}
end
section
variable {X:Cx} {o e:Expr} {f g:FE} {kk:Nat}
end
section
variable {prog:Program} {w:World} {A:Around} {E:Value->Shared->Prop} {s:Shared} {l:Addr} {xs:Array (Int×Tok)}
end
section
variable {X:Cx}
end
section
variable {X:Cx} {kk:Nat}
end
def eP (r:List Int):List (Int×Int):=r.map fun x=>(x,0)
section
variable {X:Cx} {pins:List (Addr×Obj)} {σ:St} {H:Hp} {s:Shared} {A:Around}
end
section
variable {X:Cx} {e:Expr} {pos:Pos}
end
open PySem.AutoSeq1 (wpAny_loadPart')
theorem ky (l:Addr) (items:Array Value) (n:Nat) (b:Addr) (items2:Array Value) (n2:Nat) (sl2:Array (Option Value)) (hc0:¬(!items.isEmpty&&Builtin.List.listTooLong (items.size+items2.size))=true) (hc1:items.size<=sizeLine) (hs2:items.size+items2.size<=sizeLine+1) :
  Meets (Builtin.«list.extend» ⟨[.ref l,.ref b],[]⟩) (fun _ R s=>s.heap.get? l=some { cls:=.type "list",dict:=none,data:=.seq items n,slots := #[] }/\s.heap.get? b=some { cls:=.type "list",dict:=none,data:=.seq items2 n2,slots:=sl2 }/\R (.ok (.ret Value.none)) { s with heap:=s.heap.update l (Obj.mapSeq fun x=>x++items2),toks:=s.toks }) :=
 .of_wp fun prog w A R s h=>by
  obtain ⟨hp,g,d,tk,os⟩:=s; obtain ⟨hl,hb,h⟩:=h
  have f2:=AutoSeq1.sub_tuple_tuple
  have f3:=AutoSeq1.sub_list_list
  have f4:=AutoSeq1.sub_tuple_list
  have f5:=AutoSeq1.sub_list_tuple
  have hz':(items++items2).size<=sizeLine+1:=by rw [Array.size_append]; exact hs2
  wp_walk using (wpAny_updateSeq hl rfl (hz:=hc1) (_hz':=hz')),wpAny_loadPart' hl,wpAny_loadPart' hb
  exact ⟨_,rfl,h⟩
section
variable {X:Cx} {e:Expr} {f g:FE} {pos:Pos}
def KL (K:W.Frag):V->List V->Hp->VK->Prop:=fun x vs H Q=>∃ l b xs zs,x=.ref l/\vs=[.ref b]/\H l=some (.lst xs)/\SqL K H b zs/\xs.length+zs.length<=sizeLine/\Q .non (upd H l (.lst (xs++zs)))
theorem Uy:MtM X "list.extend" (KL X.K):=by
 intro pins s σ H x vs v us Q I rx rv h
 obtain ⟨l,b,xs,zs,rfl,rfl,hH,hB,hz,q⟩:=h
 cases rx
 obtain ⟨u,rfl,ru⟩:=rv.one
 cases ru
 obtain ⟨z,its,n,r,hl,e⟩:=I.lstM hH
 obtain ⟨its2,r2,⟨o2,n2,e2,c2,d2,s2⟩,z2⟩:=I.list hB
 have hl2:=r2.length
 obtain ⟨cls2,dict2,data2,sl2⟩:=o2
 dsimp only at c2 d2 s2
 subst c2 d2 s2
 have hsz:its.toArray.size+its2.toArray.size<=sizeLine:=by rw [g1d,g1d]; omega
 have hlong:¬ (!its.toArray.isEmpty&&Builtin.List.listTooLong (its.toArray.size+its2.toArray.size))=true:=by
  rw [Gf hsz,Bool.and_false]
  exact g2a
 refine call_meets F.slot_list_extend ⟨_,e,rfl⟩ F.entry_list_extend (F.args_list_extend_2 _ _)
  (ky l its.toArray n b its2.toArray n2 sl2 hlong (by rw [g1d]; omega) (by omega)) ⟨e,e2,?_⟩
 refine ⟨.non,_,I.lset (its':=its++its2) hH e (by simp) (r.append r2) ?_,rfl,q⟩
 rw [g0g]
 omega
def v5 (i:Nat) (f:FE):FS:=fun ρ=>(f ρ).bind fun d=>match d,ρ[i]? with
 | .lst zs,some (.ol ds)=>if ds.length+zs.length<=sizeLine then some (.nx (ρ.set i (.ol (ds++zs)))) else none
 | _,_=>none
@[simp] theorem kd {i:Nat} {ρ:Rho}:v5 i f ρ=(f ρ).bind fun d=>match d,ρ[i]? with
 | .lst zs,some (.ol ds)=>if ds.length+zs.length<=sizeLine then some (.nx (ρ.set i (.ol (ds++zs)))) else none
 | _,_=>none:=rfl
theorem kQ {x:Str} {p1 apos cpos pos:Pos} (i:Nat) (he:DE X e f) (hN:X.N[i]? = some x:=by rfl) (hv:Vis X.env.scope x:=by first | exact Or.inl rfl | exact Or.inr (Or.inl rfl) | exact Or.inr (Or.inr rfl))
  (hd:(x==("__debug__":Str))=false:=by decide) (hcd:(x==("__classdict__":Str))=false:=by decide)
  (hbase:attributeBase (.Name x p1) "extend" X.env (eval (.Name x p1) X.env)=eval (.Name x p1) X.env:=by rfl)
  (hfew:((backTo cpos (starEach [e] X.env)).all (fun x => !x.1)&&(backToKw cpos (keywordEach [] X.env)).all (fun x=>x.1.isSome)
   && decide (([e]:List Expr).length+([]:List Keyword).length+(if ([]:List Keyword).isEmpty then 0 else 1) < 30))=true:=by rfl)
  (hline:(apos.endLine==cpos.line)=true:=by rfl) (hst:starEach [e] X.env=(false,eval e X.env) :: starEach [] X.env:=by rfl) (hplain:(backTo cpos (starEach [] X.env)).any (·.1)=false:=by rfl)
  (hs:swapsWith (.Call (.Attribute (.Name x p1) "extend" apos) [e] [] cpos) none pos.line X.env=pure false:=by rfl) :
  DS X (.Expr (.Call (.Attribute (.Name x p1) "extend" apos) [e] [] cpos) pos) (v5 i f) :=
 wj (Qo (BS PySem.F.plainAttrs_list PySem.F.slot_list_extend PySem.F.type_list_extend Uy (uj hN hv hd hcd) (wK he u4 hst) hbase hfew hline hst hplain) hs) fun D' σ H zz=>by
  obtain ⟨H₀,Hf₀,ρ,Hf,o,R,q,k⟩:=zz
  obtain ⟨d,e1,e2⟩:=ya q
  split at e2
  ·rename_i ds' zs ds el
   split at e2
   ·rename_i hz
    cases e2
    obtain ⟨a,p1,⟨xs,p2,p3⟩,p4,p5⟩:=R.ow i _ el rfl
    refine ⟨_,p1,.inl ⟨rfl,xs,SqL.of p2⟩,H₀,Hf₀,ρ,Hf,_,R,e1,fun v H1 Hf1 R1 s1 t1 h1=>?_⟩
    obtain ⟨a',r1,⟨ys,r2,r3⟩,r4,r5⟩:=R1.ow i _ el rfl
    rw [p1] at r1; cases r1
    obtain ⟨b,ws,rfl,qb,lb⟩:=Has.lst_iff.mp h1
    refine ⟨a,b,ys,ws,rfl,rfl,r2,R1.sf.seq qb,by rw [r3.length,lb.length]; exact hz,?_⟩
    exact k _ _ _ (R1.updOwn el rfl p1 rfl ⟨_,zq,r3.append lb⟩) t1
   ·cases e2
  ·cases e2
theorem JY:wt X (.type "range") (fun xs H Q=>∃ j:Int,xs=[.int j]/\∀ p,H p=none->Q (.ref p) (upd H p (.rng 0 j))):=by
 intro pins s σ H xs us Q I r h
 obtain ⟨j,rfl,q⟩:=h
 obtain ⟨u,rfl,t,rfl⟩:=ql r
 refine call_range_1 ⟨.ref s.heap.objs.size,_,I.laid (t':=s.toks+1+1) (o:=.rng 0 j) (fun b ob q=>Heap.get?_push_of_some _ q) (g0q _) ⟨_,_,_,Heap.get?_push_size _ rfl⟩,rfl,q _ (I.hok.fresh (g0q _))⟩
theorem JX:wt X (.type "range") (fun xs H Q=>∃ i j:Int,xs=[.int i,.int j]/\∀ p,H p=none->Q (.ref p) (upd H p (.rng i j))):=by
 intro pins s σ H xs us Q I r h
 obtain ⟨i,j,rfl,q⟩:=h
 obtain ⟨u,u',rfl,⟨t,rfl⟩,⟨t',rfl⟩⟩:=Bc r
 refine call_range_2 ⟨.ref s.heap.objs.size,_,I.laid (t':=s.toks+1) (o:=.rng i j) (fun b ob q=>Heap.get?_push_of_some _ q) (g0q _) ⟨_,_,_,Heap.get?_push_size _ rfl⟩,rfl,q _ (I.hok.fresh (g0q _))⟩
theorem Z5 {lo:Int}:∀ (n:Nat) (its:List Value),its.length=n->(∀ (j:Nat) v,its[j]? = some v->∃ t,v=.int (lo+(j:Int)) t)->xh ((g0t n).map fun (k:Nat)=>V.int (lo+(k:Int))) its:=by
 intro n
 induction n generalizing lo with
 | zero =>
  intro its hl _
  rw [g2v hl]
  exact .nil
 | succ n ih =>
  intro its hl h
  cases its with
  | nil=>simp at hl
  | cons v its =>
   rw [g2l,g0h,g1h]
   obtain ⟨t,rfl⟩:=h 0 v rfl
   refine .cons ⟨t,rfl⟩ ?_
   have:=ih (lo:=lo+1) its (by simpa using hl) fun j w e=>by
    obtain ⟨t,rfl⟩:=h (j+1) w (by simpa using e)
    exact ⟨t,by congr 1; omega⟩
   have e:((fun k:Nat=>V.int (lo+(k:Int))) ∘ Nat.succ)=fun k:Nat=>V.int (lo+1+(k:Int)):=by
    funext k
    simp only [Function.comp]
    congr 1
    omega
   rw [e]
   exact this
theorem qK (hc:X.calm=true):wt X (.type "list") (fun xs H Q=>∃ (p:Addr) (lo hi:Int),xs=[.ref p]/\H p=some (.rng lo hi)/\(-(2 ^ 62)<=lo/\lo < 2 ^ 62 /\ -(2 ^ 62)<=hi/\hi < 2 ^ 62)/\(hi - lo).toNat<=1000000 ∧
  ∀ l,H l=none->Q (.ref l) (upd H l (.lst ((g0t (hi - lo).toNat).map fun (k:Nat)=>V.int (lo+(k:Int)))))):=by
 intro pins s σ H xs us Q I r h
 obtain ⟨p,lo,hi,rfl,hp,⟨h1,h2,h3,h4⟩,hn,q⟩:=h
 obtain ⟨u,rfl,rx⟩:=ql r
 cases rx
 obtain ⟨t,u,v,e⟩:=I.hok p _ hp
 have hl24:sizeLine=16777216:=sizeLine_eq
 refine call_list_range (n:=(hi - lo).toNat) (I.ok.hd hc) (show IsRange s.heap p lo hi 1 t u v from e) (small_one h1 h2 h3 h4) (by rw [rangeSize_one]; split <;> omega) (by omega) fun h' tk acc' c' kp es hi'=>?_
 obtain ⟨hs,hv⟩:=hi'
 have vv:xh ((g0t (hi - lo).toNat).map fun (k:Nat)=>V.int (lo+(k:Int))) acc'.toList:=Z5 _ _ (by simpa using hs) fun j w ew=>by
  obtain ⟨t,rfl⟩:=hv j w (by simpa using ew)
  exact ⟨t,by congr 1; omega⟩
 refine ⟨.ref s.heap.objs.size,_,I.laid (t':=tk) (o:=.lst _) kp (g0q _) ⟨by rw [g0f,g2h]; omega,acc'.toList,c',vv,by simpa using es⟩,rfl,q _ (I.hok.fresh (g0q _))⟩
theorem Vx {K:W.Frag} {H:Hp} (lo hi:Int):zZ K H (wz lo hi) ((g0t (hi - lo).toNat).map fun (k:Nat)=>V.int (lo+(k:Int))):=by
 unfold wz
 induction (g0t (hi - lo).toNat) with
 | nil=>exact .nil
 | cons k l ih=>exact .cons (Has.int_iff.mpr rfl) ih
theorem qf:bootBuiltins "range"=some (.type "range"):=boot_range
noncomputable def Uh (fa:FA):FA:=fun ρ=>(fa ρ).bind fun l=>match l with
 | [.int j]=>if -(2 ^ 62)<=j/\j<=1000000 then some (wz 0 j) else none
 | _=>none
noncomputable def BA (fa:FA):FA:=fun ρ=>(fa ρ).bind fun l=>match l with
 | [.int i,.int j]=>if (-(2 ^ 62)<=i/\i < 2 ^ 62 /\ -(2 ^ 62)<=j/\j < 2 ^ 62)/\(j - i).toNat<=1000000 then some (wz i j) else none
 | _=>none
theorem XG {a:Expr} {fa:FA} {p p2 pos2:Pos} (hc:X.calm=true) (hg:Gl X "list") (hm:X.mg "list"=none) (hg2:Gl X "range") (hm2:X.mg "range"=none) (ha:DAR X [a] fa)
  (he:starEach [.Call (.Name "range" p2) [a] [] pos2] X.env=(false,eval (.Call (.Name "range" p2) [a] [] pos2) X.env) :: starEach [] X.env:=by rfl) (hpl:(backTo pos (starEach [] X.env)).any (·.1)=false:=by rfl)
  (he2:starEach [a] X.env=(false,eval a X.env) :: starEach [] X.env:=by rfl) (hpl2:(backTo pos2 (starEach [] X.env)).any (·.1)=false:=by rfl) :
  DN X (.Call (.Name "list" p) [.Call (.Name "range" p2) [a] [] pos2] [] pos) (Uh fa) :=
 yP (wm (T:="list") (qK hc) hg hm (by rfl) (wK (wm (T:="range") JY hg2 hm2 qf ha (by decide) (by decide) he2 hpl2) u4 he) (by decide) (by decide) he hpl) fun σ H Q zz=>by
  obtain ⟨H₀,Hf₀,ρ,Hf,d,R,q,k⟩:=zz
  obtain ⟨l,e1,e2⟩:=yj q
  refine ⟨H₀,Hf₀,ρ,Hf,l,R,e1,fun vs H1 Hf1 R1 s1 t1 h1=>?_⟩
  split at e2
  ·rename_i j
   split at e2
   ·rename_i hj
    cases e2
    obtain ⟨v,rfl,hv⟩:=qR.one h1
    refine ⟨j,by rw [hv.int],fun p hp=>?_⟩
    refine ⟨p,0,j,rfl,zq,⟨by omega,by omega,by omega,by omega⟩,by omega,fun l' hl'=>?_⟩
    have s2:yf H1 (upd H1 p (.rng 0 j)):=zI hp
    have R2:=R1.layN (o:=.rng 0 j) hp
    exact k _ _ _ _ (R2.layN hl') ((s1.trans s2).trans (zI hl')) t1 (Vx 0 j) zq (R2.sf.free hl') ((s1.trans s2).free hl')
   ·cases e2
  ·cases e2
theorem JB {a b:Expr} {fa:FA} {p p2 pos2:Pos} (hc:X.calm=true) (hg:Gl X "list") (hm:X.mg "list"=none) (hg2:Gl X "range") (hm2:X.mg "range"=none) (ha:DAR X [a,b] fa)
  (he:starEach [.Call (.Name "range" p2) [a,b] [] pos2] X.env=(false,eval (.Call (.Name "range" p2) [a,b] [] pos2) X.env) :: starEach [] X.env:=by rfl) (hpl:(backTo pos (starEach [] X.env)).any (·.1)=false:=by rfl)
  (he2:starEach [a,b] X.env=(false,eval a X.env) :: starEach [b] X.env:=by rfl) (hpl2:(backTo pos2 (starEach [b] X.env)).any (·.1)=false:=by rfl) :
  DN X (.Call (.Name "list" p) [.Call (.Name "range" p2) [a,b] [] pos2] [] pos) (BA fa) :=
 yP (wm (T:="list") (qK hc) hg hm (by rfl) (wK (wm (T:="range") JX hg2 hm2 qf ha (by decide) (by decide) he2 hpl2) u4 he) (by decide) (by decide) he hpl) fun σ H Q zz=>by
  obtain ⟨H₀,Hf₀,ρ,Hf,d,R,q,k⟩:=zz
  obtain ⟨l,e1,e2⟩:=yj q
  refine ⟨H₀,Hf₀,ρ,Hf,l,R,e1,fun vs H1 Hf1 R1 s1 t1 h1=>?_⟩
  split at e2
  ·rename_i i j
   split at e2
   ·rename_i hj
    cases e2
    obtain ⟨v,v',rfl,hv,hv'⟩:=qR.two h1
    refine ⟨i,j,by rw [hv.int,hv'.int],fun p hp=>?_⟩
    refine ⟨p,i,j,rfl,zq,hj.1,hj.2,fun l' hl'=>?_⟩
    have s2:yf H1 (upd H1 p (.rng i j)):=zI hp
    have R2:=R1.layN (o:=.rng i j) hp
    exact k _ _ _ _ (R2.layN hl') ((s1.trans s2).trans (zI hl')) t1 (Vx i j) zq (R2.sf.free hl') ((s1.trans s2).free hl')
   ·cases e2
  ·cases e2
end
theorem kF {P:Program} {w:World}:∀ {ks:List Int} {its:List Value},xh (ks.map V.int) its->ItemsAre (intKind P w) ks its
 | [],_,h=>by cases h; exact .nil
 | k :: ks,_,h=>by
  cases h with
  | cons h1 h2 =>
   obtain ⟨t,rfl⟩:=h1
   exact .cons (by show Value.isInt k (.int k t)=true; simp [Value.isInt]) (kF h2)
structure GDictT (K:W.Frag) (mg:Str->Option Value) (x:Str) (kvs:List (List Int×D)):Prop where
 ex:∃ (a:Addr) (o:Obj) (es:Array DictEntry) (ep:Nat) (xs:List (List Int×Addr×Value)),mg x=some (.ref a)/\K.lookup a=some o/\o.ExactDict/\o.data=.dict es ep/\(a==sysModules)=false/\(∀ P w,es.toList=xs.map (entryOfKey (tupleKind (intKind P w)))) ∧
  (∀ p∈xs,∃ (o:Obj) (its:Array Value) (n:Nat),K.lookup p.2.1=some o/\o.cls=.type "tuple"/\o.data=.seq its n/\xh (p.1.map V.int) its.toList)/\(xs.map (·.1)).Nodup ∧
  ∀ ns,(∃ d u v,kvs.lookup ns=some d/\(atKey xs ns).map (·.2)=some u/\xm v u/\Has K (fun _=>none) d v)\/(kvs.lookup ns=none/\(atKey xs ns).map (·.2)=none)
def Dx (kvs:List (List Int×D)):D->D->Option D
 | .tup ds,d=>(uk ds).map fun ns=>(kvs.lookup ns).getD d
 | _,_=>none
section
variable {X:Cx} {e e2:Expr} {f g:FE} {kk:Nat}
theorem MY {x:Str} {kvs:List (List Int×D)} {p apos cpos:Pos} (hr:Room kk X.A) (hg:Gl X x) (hm:GDictT X.K X.mg x kvs) (he:DE X e f) (hf:DE X e2 g) (m:M2 X (.Name x p) "get" apos e e2 cpos:=by exact ⟨rfl,rfl,rfl,rfl⟩) (hd:(x==("__debug__":Str))=false:=by decide) :
  DE X (.Call (.Attribute (.Name x p) "get" apos) [e,e2] [] cpos) (zb (Dx kvs) f g):=by
 obtain ⟨a,o,es,ep,xs,h1,h2,h3,h4,h5,h6,h7,h8,h9⟩:=hm.ex
 intro pins s σ H Q I h
 obtain ⟨H₀,Hf₀,ρ,Hf,d,R,q,k⟩:=h
 obtain ⟨dx,dy,e1,e2,e3⟩:=jq q
 unfold Dx at e3
 split at e3
 ·rename_i ds
  obtain ⟨ns,en,rfl⟩:=g1v.mp e3
  refine wpAny_Call_method m.base m.few m.line PySem.F.plainAttrs_dict PySem.F.slot_dict_get PySem.F.type_dict_get (thn (Yn (v:=.ref a) hg h1 rfl hd pins s σ H (fun x H1=>x=.ref a/\H1=H) I ⟨rfl,rfl⟩) fun u0 s1 zz=>?_)
  obtain ⟨x,H1,I1,rx,ex,eH⟩:=zz
  subst ex eH
  cases rx
  have hb:=I1.kIn a o h2
  refine ⟨⟨o,hb,h3.1⟩,fun b q=>by cases q; exact ⟨o,hb,h3.2.1⟩,?_⟩
  rw [m.trees]
  refine Calls.callWith_builtin rfl (Calls.evalArgs_plain (Calls.spliced_cons (thn (he pins s1 σ H1 (fun y H2=>∃ Hf2,Rep X.K H₀ Hf₀ σ ρ H2 Hf2/\yf H1 H2/\yf Hf Hf2/\Has X.K Hf2 (.tup ds) y) I1 ⟨H₀,Hf₀,ρ,Hf,_,R,e1,fun v H1 Hf1 R1 s1 t1 h1=>⟨Hf1,R1,s1,t1,h1⟩⟩) fun iv s2 zz=>?_)))
  obtain ⟨y,H2,I2,ry,Hf2,R2,s2',t2,hy⟩:=zz
  refine Calls.spliced_cons (thn (hf pins s2 σ H2 (fun z H3=>∃ Hf3,Rep X.K H₀ Hf₀ σ ρ H3 Hf3/\yf H2 H3/\yf Hf2 Hf3/\Has X.K Hf3 dy z) I2 ⟨H₀,Hf₀,ρ,Hf2,_,R2,e2,fun v H1 Hf1 R1 s1 t1 h1=>⟨Hf1,R1,s1,t1,h1⟩⟩) fun fv s3 zz=>Calls.spliced_nil ?_)
  obtain ⟨z,H3,I3,rz,Hf3,R3,s3',t3,hz⟩:=zz
  obtain ⟨b,vs,rfl,qb,lb⟩:=Has.tup_iff.mp (hy.mono t3)
  have ev:=lb.intsV en
  subst ev
  cases ry
  have qb3:SqT X.K H3 b (ns.map V.int):=by
   rcases qb with (w | ⟨o',w⟩) | w
   ·exact .inl (.inl (R3.sf _ _ w))
   ·exact .inl (.inr ⟨o',R3.sf _ _ w⟩)
   ·exact .inr w
  obtain ⟨its,rv,⟨ob,ho,hc,n,hdt⟩,_⟩:=I3.tuple qb3
  have hb3:=I3.kIn a o h2
  have key:(tupleKind (intKind X.prog X.w)).is s3.heap ns b:=⟨ob,its.toArray,n,ho,hc,hdt,by simpa using kF rv⟩
  have dict:s3.heap.DictOfH (tupleKind (intKind X.prog X.w)) a xs:=⟨o,es,ep,hb3,h3,h4,h6 _ _,fun p hp=>by
   obtain ⟨o',its',n',l1,l2,l3,l4⟩:=h7 p hp
   exact ⟨o',its',n',I3.kIn _ _ l1,l2,l3,kF l4⟩,h8⟩
  refine call_meetsIn PySem.F.slot_dict_get ⟨o,hb3,h3.1⟩ PySem.F.entry_dict_get (PySem.F.args_dict_get_3 _ _ _) (meetsH_dict_get_default (tupleKind (intKind X.prog X.w)) a b h5 fv) ⟨tupleKind_room_in1 (by have:=hr.un; omega),ns,xs,key,dict,?_⟩
  rcases h9 ns with ⟨d,u,v,l1,l2,l3,l4⟩ | ⟨l1,l2⟩
  ·rw [l2]
   rw [l1] at k
   exact ⟨v,H3,I3.tok _,l3,k _ _ _ R3 (s2'.trans s3') (t2.trans t3) (l4.mono Y7)⟩
  ·rw [l2]
   rw [l1] at k
   exact ⟨z,H3,I3.tok _,rz,k _ _ _ R3 (s2'.trans s3') (t2.trans t3) hz⟩
 ·cases e3
end
section
variable {X:Cx}
def NX (K:W.Frag):R2:=fun x y H Q=>∃ a k xs,x=.ref a/\y=.int k/\SqL K H a xs/\xs≠[] /\ -1000000<=k/\xs.length * k.toNat<=1000000/\∀ p,H p=none->Q (.ref p) (upd H p (.lst (g0l k.toNat xs).flatten))
theorem BZ:OpR X (binaryOp .Mult) (NX X.K):=by
 intro pins s σ H x y v u Q I rx ry h
 obtain ⟨a,k,xs,rfl,rfl,ha,hne,hk,hz,q⟩:=h
 cases rx
 obtain ⟨t,rfl⟩:=ry
 obtain ⟨its,r,p,hz'⟩:=I.list ha
 have hlen:=r.length
 obtain ⟨⟨cls,dd,data,sl⟩,ho,hc,n,hd⟩:=p.isList
 simp only at hc hd
 subst hc hd
 have hne':its.toArray.isEmpty=false:=by
  cases its with
  | nil=>cases r; exact absurd rfl hne
  | cons _ _=>rfl
 have l1:1<=xs.length:=by
  cases xs with
  | nil=>exact absurd rfl hne
  | cons _ _=>simp
 have l2:k.toNat<=xs.length * k.toNat:=Nat.le_mul_of_pos_left _ l1
 have hsz:its.toArray.size * k.toNat<=1000000:=by rw [g1d,<- hlen]; exact hz
 have hl24:sizeLine=16777216:=sizeLine_eq
 have hnew:List.foldl (fun x1 x2=>x1++x2) #[] (g0l (if its.toArray.isEmpty=true then 0 else k.toNat) its.toArray)=(g0l k.toNat its).flatten.toArray:=by
  rw [hne',if_neg g2a]
  have:=XA its k.toNat []
  rw [g0r] at this
  exact this
 refine wpAny_binaryOp_repeat_ref (T:="list") (U:="int") (by decide) ⟨_,ho,rfl⟩ (fun s'=>typeIs_int s' k t) noFill_list_mul F.fills_int_mul F.slot_int_rmul repeat_list F.slot_int_index.lookup
  (call_meets F.slot_int_rmul (typeIs_int s k t) F.entry_int_rmul (F.args_int_rmul_2 _ _) (lm_int_rmul_list_any k t a its.toArray n dd sl)
   ⟨ho,rfl,⟨_,ho,rfl⟩,call_meets F.slot_list_mul ⟨_,ho,rfl⟩ F.entry_list_mul (F.args_list_mul_2 _ _) (lm_list_mul_any a its.toArray n dd sl k t (by
    unfold Builtin.List.listFitsIndex
    simp
    omega) (by omega) (by
    have hsz':its.length * k.toNat<=1000000:=by rw [<- hlen]; exact hz
    unfold Builtin.List.listTooLong
    simp
    omega)) ⟨ho,?_⟩⟩)
 rw [hnew]
 refine ⟨.ref s.heap.objs.size,_,I.laid (t':=s.toks) (o:=.lst (g0l k.toNat xs).flatten) (fun b ob q=>Heap.get?_push_of_some _ q) (g0q _) ?_,rfl,q _ (I.hok.fresh (g0q _))⟩
 exact ⟨by rw [CA,Nat.mul_comm]; omega,_,_,r.rep k.toNat,Heap.get?_push_size _ rfl⟩
def Cv (f g:FE):FA:=fun ρ=>(f ρ).bind fun x=>(g ρ).bind fun y=>match x,y with
 | .lst (d :: ds),.int k=>if -1000000<=k/\(ds.length+1) * k.toNat<=1000000 then some (g0l k.toNat (d :: ds)).flatten else none
 | _,_=>none
@[simp] theorem Fb {f g:FE} {ρ:Rho}:Cv f g ρ=(f ρ).bind fun x=>(g ρ).bind fun y=>match x,y with
 | .lst (d :: ds),.int k=>if -1000000<=k/\(ds.length+1) * k.toNat<=1000000 then some (g0l k.toNat (d :: ds)).flatten else none
 | _,_=>none:=rfl
theorem JA {a b:Expr} {f g:FE} {pos:Pos} (ha:DR X a f) (hb:DR X b g):DN X (.BinOp a .Mult b pos) (Cv f g) :=
 yP (Fx BZ ha hb) fun σ H Q ⟨H₀,Hf₀,ρ,Hf,d,R,q,k⟩=>by
  obtain ⟨x,y,e1,e2,e3⟩:=jq q
  refine ⟨H₀,Hf₀,ρ,Hf,x,R,e1,fun v H1 Hf1 R1 s1 t1 h1=>⟨H₀,Hf₀,ρ,Hf1,y,R1,e2,fun v' H2 Hf2 R2 s2 t2 h2=>?_⟩⟩
  have h3:=h1.mono t2
  split at e3
  ·rename_i e ds j
   split at e3
   ·rename_i hz
    cases e3
    obtain ⟨a,xs,rfl,qa,la⟩:=h3.lst R2
    have hl:=la.length
    refine ⟨a,j,xs,rfl,h2.int,qa,fun z=>?_,hz.1,by rw [hl]; exact hz.2,fun p hp=>?_⟩
    ·rw [z] at hl; simp at hl
    ·exact k _ _ _ _ (R2.layN hp) ((s1.trans s2).trans (zI hp)) (t1.trans t2) (zZ.rep la j.toNat) zq (R2.sf.free hp) ((s1.trans s2).free hp)
   ·cases e3
  ·cases e3
end
def UM (ks:List Int):Int:=reduceHash (Builtin.Tuple.tupleHashOf (ks.map hashInt))
inductive GEntT (K:W.Frag):List (List Int×D)->List DictEntry->List (List Int×Addr×Value)->Prop
 | nil:GEntT K [] [] []
 | cons {ks:List Int} {d:D} {kvs:List (List Int×D)} {h:Int} {ta:Addr} {od:Option Addr} {its:Array Value} {n:Nat} {osl:Array (Option Value)} {v:V} {u:Value} {es:List DictEntry} {xs:List (List Int×Addr×Value)}
   (hz:UM ks=h) (lk:K.lookup ta=some ⟨.type "tuple",od,.seq its n,osl⟩) (vals:xh (ks.map V.int) its.toList) (rel:xm v u) (has:Has K (fun _=>none) d v) (uQ:GEntT K kvs es xs):GEntT K ((ks,d) :: kvs) (⟨h,.ref ta,u⟩ :: es) ((ks,ta,u) :: xs)
theorem GEntT.keys {K:W.Frag} {kvs:List (List Int×D)} {es:List DictEntry} {xs:List (List Int×Addr×Value)} (g:GEntT K kvs es xs):xs.map (·.1)=kvs.map (·.1):=by
 induction g with
 | nil=>rfl
 | cons _ _ _ _ _ _ ih=>simp [ih]
theorem GEntT.ents {K:W.Frag} {kvs:List (List Int×D)} {es:List DictEntry} {xs:List (List Int×Addr×Value)} (g:GEntT K kvs es xs) (P:Program) (w:World):es=xs.map (entryOfKey (tupleKind (intKind P w))):=by
 induction g with
 | nil=>rfl
 | cons hz _ _ _ _ _ ih =>
  subst hz
  rw [g0h,<- ih]
  rfl
theorem GEntT.tups {K:W.Frag} {kvs:List (List Int×D)} {es:List DictEntry} {xs:List (List Int×Addr×Value)} (g:GEntT K kvs es xs):∀ p∈xs,∃ (o:Obj) (its:Array Value) (n:Nat),K.lookup p.2.1=some o/\o.cls=.type "tuple"/\o.data=.seq its n/\xh (p.1.map V.int) its.toList:=by
 induction g with
 | nil=>intro p hp; cases hp
 | cons _ lk vals _ _ _ ih =>
  intro p hp
  rcases g0o.mp hp with rfl | hp
  ·exact ⟨_,_,_,lk,rfl,rfl,vals⟩
  ·exact ih p hp
theorem GEntT.look {K:W.Frag} {kvs:List (List Int×D)} {es:List DictEntry} {xs:List (List Int×Addr×Value)} (g:GEntT K kvs es xs) (ns:List Int) :
  (∃ d u v,kvs.lookup ns=some d/\(atKey xs ns).map (·.2)=some u/\xm v u/\Has K (fun _=>none) d v)\/(kvs.lookup ns=none/\(atKey xs ns).map (·.2)=none):=by
 induction g with
 | nil=>exact .inr ⟨rfl,rfl⟩
 | @cons ks d kvs h ta od its n osl v u es xs hz lk vals rel has uQ ih =>
  by_cases c:ks=ns
  ·subst c
   refine .inl ⟨d,u,v,by simp [List.lookup],?_,rel,has⟩
   simp [atKey]
  ·have e1:((ks,d) :: kvs).lookup ns=kvs.lookup ns:=by
    rw [g2e]
    have:(ns==ks)=false:=by simpa using fun z=>c z.symm
    rw [this]
   have e2:atKey ((ks,ta,u) :: xs) ns=atKey xs ns:=by
    unfold atKey
    rw [List.find?_cons_of_neg (by simpa using c)]
   rw [e1,e2]
   exact ih
theorem Jg {K:W.Frag} {mg:Str->Option Value} {x:Str} {a:Addr} {es:Array DictEntry} {ep:Nat} {kvs:List (List Int×D)} {xs:List (List Int×Addr×Value)} (h1:mg x=some (.ref a)) (h2:K.lookup a=some ⟨.type "dict",none,.dict es ep,#[]⟩)
  (hs:(a==sysModules)=false) (g:GEntT K kvs es.toList xs) (nd:(kvs.map (·.1)).Nodup):GDictT K mg x kvs :=
 ⟨a,_,es,ep,xs,h1,h2,⟨rfl,rfl,rfl⟩,rfl,hs,fun P w=>g.ents P w,g.tups,by rw [g.keys]; exact nd,g.look⟩
open PySem.AutoSeq1 (wpAny_loadPart')
open PySem.MeetsSeq PySem.MeetsSeq2 PySem.MeetsSeq3
section
variable {X:Cx} {pins:List (Addr×Obj)} {σ:St} {H:Hp} {s:Shared} {A:Around}
theorem MW (l:List Int):dep (.lst (l.map D.int))<=1:=by
 unfold dep
 have:qS (l.map D.int)<=0:=WL fun d hd=>by
  obtain ⟨x,_,rfl⟩:=g1i.mp hd
  exact g0q _
 omega
end
section
variable {X:Cx} {e:Expr} {pos:Pos} {kk:Nat}
end
section
variable {prog:Program} {w:World} {A:Around} {E:Value->Shared->Prop} {s:Shared}
end
section
variable {X:Cx} {e f:Expr} {pos:Pos} {kk:Nat}
end
instance KTy.dec:(n:Nat)->DecidableEq (KTy n)
 | 0=>inferInstanceAs (DecidableEq Int)
 | n+1=>have:=KTy.dec n; inferInstanceAs (DecidableEq (List (KTy n)))
def isN:(n:Nat)->Heap->KTy n->Value->Prop
 | 0,_,i,v=>∃ t,v=.int i t
 | n+1,h,l,v=>∃ (a:Addr) (o:Obj) (its:Array Value) (m:Nat),v=.ref a/\h.get? a=some o/\o.cls=.type "tuple"/\o.data=.seq its m/\Paired (isN n h) l its.toList
theorem Paired.same {α β:Type} {F:α->β->Prop} (inj:∀ x y v,F x v->F y v->x=y):∀ {l m:List α} {vs:List β},Paired F l vs->Paired F m vs->l=m
 | _,_,_,.nil,.nil=>rfl
 | _,_,_,.cons r t,.cons r' t'=>by rw [inj _ _ _ r r',Paired.same inj t t']
theorem WC:∀ (n:Nat) {h:Heap} (x y:KTy n) (v:Value),isN n h x v->isN n h y v->x=y
 | 0,h,x,y,v,⟨t,e⟩,⟨t',e'⟩=>by
  rw [e] at e'
  injection e'
 | n+1,h,x,y,v,⟨a,o,its,m,e1,e2,e3,e4,e5⟩,⟨a',o',its',m',f1,f2,f3,f4,f5⟩=>by
  subst e1
  cases f1
  rw [e2] at f2
  cases f2
  rw [e4] at f4
  injection f4 with g1 g2
  subst g1
  exact Paired.same (WC n) e5 f5
theorem Xt:∀ (n:Nat) {h h':Heap},(∀ b (o:Obj) its m,h.get? b=some o->o.data=.seq its m->h'.get? b=some o)->∀ (x:KTy n) (v:Value),isN n h x v->isN n h' x v
 | 0,_,_,_,x,v,e=>e
 | n+1,h,h',k,x,v,⟨a,o,its,m,e1,e2,e3,e4,e5⟩=>⟨a,o,its,m,e1,k a o its m e2 e4,e3,e4,Paired.mapP e5 (Xt n k)⟩
def qG:(n:Nat)->KTy n->Nat
 | 0,_=>1
 | n+1,l=>(g2z (qG n) l).sum+1
theorem Pd {M:Model} {A:Around} {α:Type} {E:Value->Shared->Prop} {s:Shared} {c:Prop} [Decidable c] {x y:Sem α} {Q:α->Shared->Prop} (h:¬ c) (k:wpAny M A y Q E s):wpAny M A (if c then x else y) Q E s:=by rw [if_neg h]; exact k
theorem P3 {M:Model} {A:Around} {α:Type} {E:Value->Shared->Prop} {s:Shared} {c:Prop} [Decidable c] {x y:Sem α} {Q:α->Shared->Prop} (h:c) (k:wpAny M A x Q E s):wpAny M A (if c then x else y) Q E s:=by rw [if_pos h]; exact k
section
variable {prog:Program} {w:World} {A:Around} {E:Value->Shared->Prop} {s:Shared}
theorem Xv:∀ (n:Nat) {A:Around} {E:Value->Shared->Prop} {s:Shared} {k:KTy n} {v:Value} {Q:Int->Shared->Prop},A.units+n < cLine->isN n s.heap k v->Q (Zw n k) { s with toks:=s.toks+qG n k }->wpAny (model prog w) A (pyHash v) Q E s
 | 0,A,E,s,k,v,Q,hu,⟨t,e⟩,h=>by
  subst e
  exact (intKind prog w).pyHash (show Value.isInt k (.int k t)=true from beq_self_eq_true (α:=Int) k) h
 | n+1,A,E,s,k,v,Q,hu,⟨a,o,its,m,e1,ho,hcls,hdat,hit⟩,h=>by
  subst e1
  have hTy:s.TypeIs (.ref a) "tuple":=⟨o,ho,hcls⟩
  unfold pyHash
  (first | unfold pyHashByItsType | skip)
  (first | refine wpAny_bind (wpAny_cRoomFor_or (.inr (show A.units < cLine by omega)) ?_) | skip)
  refine wpAny_bind (wpAny_specialOf hTy F.slot_tuple_hash.lookup ?_)
  have nb:¬ ((some (Value.builtin "tuple.__hash__")==some Value.none)=true):=fun z=>by rw [beq_builtin_none] at z; cases z
  refine Pd nb ?_
  refine wpAny_bind (wpAny_specialOf hTy F.slot_tuple_hash.lookup ?_)
  refine wpAny_bind (wpAny_callSpecialIfBoundUnlessNone?_slot hTy F.slot_tuple_hash (wpAny_call_entry F.slot_tuple_hash hTy F.entry_tuple_hash ?_ (F.args_tuple_hash_1 _)))
  refine wpAny_bind (m:=Builtin.Tuple.tupleItemsOf (.ref a)) (wpAny_tupleItemsOf ho hdat (wpAny_bind ?_))
  rw [<- Array.forIn_toList]
  refine wpAny_forIn_list _ (fun uQ (b:Array Int) s'=>∃ dn lf:List (KTy n),k=dn++lf/\Paired (isN n s.heap) lf uQ/\b.toList=g2z (Zw n) dn/\s'={ s with toks:=s.toks+(g2z (qG n) dn).sum }) _ ?_ ?_ _ _ ⟨[],k,rfl,hit,rfl,rfl⟩
  ·rintro x uQ b s' ⟨dn,lf,hkd,hl,hb,rfl⟩
   cases hl with
   | @cons q _ lf' _ h1 hl' =>
    refine wpAny_bind (Xv n (by show A.units+1+n < cLine; omega) h1 ?_)
    have fin:∃ dn' lf'':List (KTy n),k=dn'++lf''/\Paired (isN n s.heap) lf'' uQ/\(b.push (Zw n q)).toList=g2z (Zw n) dn'/\({ s with toks:=s.toks+(g2z (qG n) dn).sum+qG n q }:Shared)={ s with toks:=s.toks+(g2z (qG n) dn').sum }:=⟨dn++[q],lf',by rw [hkd,g1a,g2g],hl',by simp [hb],by simp [Nat.add_assoc]⟩
    first
     | exact wpAny_pure fin
     | exact wpAny_bind (wpAny_pure (wpAny_pure fin))
  ·rintro b s' ⟨dn,lf,hkd,hl,hb,rfl⟩
   cases hl
   have hkd':k=dn:=hkd.trans (g0x dn)
   subst hkd'
   show wpAny _ _ (retInt (Builtin.Tuple.tupleHashOf b.toList)) _ _ _
   rw [hb]
   refine wpAny_ret_mkInt ?_
   have hd:qG (n+1) k=(g2z (qG n) k).sum+1:=rfl
   rw [hd,<- Nat.add_assoc] at h
   have hh:Zw (n+1) k=reduceHash (Builtin.Tuple.tupleHashOf (g2z (Zw n) k)):=rfl
   rw [hh] at h
   generalize Builtin.Tuple.tupleHashOf (g2z (Zw n) k)=z at h ⊢
   unfold reduceHash at h
   by_cases hr:(decide (-(2:Int) ^ 63<=z)&&decide (z < 2 ^ 63))=true
   ·rw [if_pos hr] at h
    refine P3 hr ?_
    exact wpAny_pure h
   ·rw [if_neg hr] at h
    refine Pd hr ?_
    exact wpAny_bind (wpAny_rule (wpAny_pure h))
theorem Jt:∀ (n:Nat) {A:Around} {E:Value->Shared->Prop} {s:Shared} {x y:KTy n} {u v:Value} {Q:Bool->Shared->Prop},A.units+n < cLine->isN n s.heap x u->isN n s.heap y v->Q (decide (x=y)) s->wpAny (model prog w) A (eqBool u v) Q E s
 | 0,A,E,s,x,y,u,v,Q,hu,⟨t,e⟩,⟨t',e'⟩,h=>by
  subst e e'
  exact (intKind prog w).eqBool (a:=x) (b:=y) (show Value.isInt x (.int x t)=true from beq_self_eq_true (α:=Int) x) (show Value.isInt y (.int y t')=true from beq_self_eq_true (α:=Int) y) h
 | n+1,A,E,s,x,y,u,v,Q,hu,hx,hy,h=>by
  have hx0:=hx
  have hy0:=hy
  obtain ⟨a,oa,xs,na,rfl,hoa,hca,hda,hia⟩:=hx
  obtain ⟨b,ob,ys,nb,rfl,hob,hcb,hdb,hib⟩:=hy
  have tA:s.TypeIs (.ref a) "tuple":=⟨oa,hoa,hca⟩
  have tB:s.TypeIs (.ref b) "tuple":=⟨ob,hob,hcb⟩
  unfold eqBool
  (try with_reducible refine wpAny_holding ?_)
  by_cases hab:(Value.ref a==Value.ref b)=true
  ·refine P3 hab ?_
   have e:a=b:=by have:=eq_of_beq hab; injection this
   subst e
   have:=WC (n+1) x y _ hx0 hy0
   subst this
   exact wpAny_bind (wpAny_rule (wpAny_pure (by simpa using h)))
  ·refine Pd hab ?_
   refine wpAny_bind (wpAny_richCompare_same_room (op:=.Eq) tA tB F.slot_tuple_eq (wpAny_call_entry F.slot_tuple_eq tA F.entry_tuple_eq ?_ (F.args_tuple_eq_2 _ _)) (by omega))
   refine wpAny_bind (m:=isInstance (.ref b) (.type "tuple")) (wpAny_isInstance tB isSubtype_tuple_tuple ?_)
   simp only [g3m,g1g,if_false]
   refine wpAny_bind (wpAny_tupleItemsOf hoa hda (wpAny_bind (wpAny_tupleItemsOf hob hdb (wpAny_bind ?_))))
   refine wpAny_forIn_list _ (fun uQ r s'=>r.1=none/\s'=s/\∃ x' y' xs' ys',uQ=List.zip xs' ys'/\Paired (isN n s.heap) x' xs'/\Paired (isN n s.heap) y' ys'/\decide (x'=y')=decide (x=y)/\(xs'.length==ys'.length)=(xs.size==ys.size)) _ ?_ ?_ _ _ ⟨rfl,rfl,x,y,xs.toList,ys.toList,rfl,hia,hib,rfl,by simp⟩
   ·rintro ⟨p,q⟩ uQ r s' ⟨hr,rfl,x',y',xs',ys',hz,hx',hy',hdec,hlen⟩
    cases hx' with
    | nil=>simp at hz
    | @cons k1 p' x'' xs'' h1 hx'' =>
     cases hy' with
     | nil=>simp at hz
     | @cons k2 q' y'' ys'' h2 hy'' =>
      rw [List.zip_cons_cons] at hz
      obtain ⟨z1,rfl⟩:=List.cons.inj hz
      cases z1
      refine wpAny_bind (Jt n (x:=k1) (y:=k2) (by show A.units+1+n < cLine; omega) h1 h2 ?_)
      by_cases hk:k1=k2
      ·subst hk
       rw [decide_eq_true rfl]
       simp only [g3m,g1g,if_false]
       refine wpAny_pure ⟨rfl,rfl,x'',y'',xs'',ys'',rfl,hx'',hy'',?_,by simpa using hlen⟩
       rw [<- hdec]
       by_cases hxy:x''=y'' <;> simp [hxy]
      ·rw [decide_eq_false hk]
       simp only [Bool.not_false,if_true]
       have hf:decide (x=y)=false:=by rw [<- hdec]; simp [hk]
       rw [hf] at h
       exact wpAny_bind (wpAny_pure (wpAny_pure (wpAny_pure ⟨_,rfl,(fun e=>nomatch e),wpAny_truthy_bool h⟩)))
   ·rintro ⟨r1,r2⟩ s' ⟨hr,rfl,x',y',xs',ys',hz,hx',hy',hdec,hlen⟩
    dsimp only at hr
    subst hr
    refine wpAny_pure ?_
    have hfin:(xs.size==ys.size)=decide (x=y):=by
     rw [<- hdec,<- hlen]
     cases hx' with
     | nil=>cases hy' <;> simp
     | cons _ _ =>
      cases hy' with
      | nil=>simp
      | cons _ _=>simp at hz
    refine ⟨_,rfl,(fun e=>nomatch e),?_⟩
    show wpAny _ A (truthOfDropped (.bool (xs.size==ys.size))) Q E s'
    rw [hfin]
    exact wpAny_truthy_bool h
theorem ZM:∀ (n m:Nat) {A:Around} {E:Value->Shared->Prop} {s:Shared} {k:KTy n} {v:Value} {Q:Bool->Shared->Prop},n<=m->isN n s.heap k v->Q true s->wpAny (model prog w) A (eqIsQuiet m v) Q E s
 | 0,m,A,E,s,k,v,Q,_,⟨t,e⟩,h=>by
  subst e
  rw [eqIsQuiet_byValue m (v:=.int k t) rfl]
  exact wpAny_pure h
 | n+1,0,A,E,s,k,v,Q,hm,_,_=>absurd hm (by omega)
 | n+1,m+1,A,E,s,k,v,Q,hm,⟨a,o,its,z,e1,ho,hcls,hdat,hit⟩,h=>by
  subst e1
  have hTy:s.TypeIs (.ref a) "tuple":=⟨o,ho,hcls⟩
  unfold eqIsQuiet
  refine wpAny_bind (wpAny_specialOf hTy F.slot_tuple_eq.lookup ?_)
  refine wpAny_bind (m:=isInstance (.ref a) (.type "tuple")) (wpAny_isInstance hTy isSubtype_tuple_tuple ?_)
  simp only [g3m,g1g,if_false]
  refine wpAny_bind (wpAny_seqItems ho hdat (wpAny_bind ?_))
  show wpAny _ _ (forIn its _ _) _ _ _
  rw [<- Array.forIn_toList]
  refine wpAny_forIn_list _ (fun uQ r s'=>r.1=none/\s'=s/\∃ lf,Paired (isN n s.heap) lf uQ) _ ?_ ?_ _ _ ⟨rfl,rfl,k,hit⟩
  ·rintro q uQ r s' ⟨hr,rfl,lf,hl⟩
   cases hl with
   | @cons k1 _ lf' _ h1 hl' =>
    refine wpAny_bind (ZM n m (by omega) h1 ?_)
    simp only [g3m,g1g,if_false]
    exact wpAny_pure ⟨rfl,rfl,lf',hl'⟩
  ·rintro ⟨r1,r2⟩ s' ⟨hr,rfl,_⟩
   dsimp only at hr
   subst hr
   exact wpAny_pure h
def CG (n:Nat) (hn:n+1<=8):HeapKind prog w (KTy (n+1)) where
 is:=fun h k a=>isN (n+1) h k (.ref a)
 hash:=Zw (n+1)
 draws:=qG (n+1)
 room:=fun A=>A.units+(n+1) < cLine
 inj:=fun hx hy=>WC (n+1) _ _ _ hx hy
 keeps:=fun {h h' k a d o es ep} x ho hd hs=>Xt (n+1) (fun b ob its m e z=>(hs.2 b (fun q=>by
  subst q
  rw [ho] at e
  cases e
  rw [hd] at z
  cases z)).trans e) _ _ x
 pyHash:=fun hu hk h=>Xv (n+1) hu hk h
 eqBool:=fun hu hx hy h=>Jt (n+1) hu hx hy h
 quiet:=fun hk h=>ZM (n+1) 8 hn hk h
end
def DD {κ:Type} (f:D->Option κ):List D->Option (List κ)
 | []=>some []
 | d :: ds=>(f d).bind fun k=>(DD f ds).bind fun ks=>some (k :: ks)
def asK:(n:Nat)->D->Option (KTy n)
 | 0,.int i=>some i
 | n+1,.tup ds=>DD (asK n) ds
 | _,_=>none
theorem X1 {κ:Type} {f:D->Option κ} {g:κ->D} (hf:∀ d k,f d=some k->d=g k):∀ {ds:List D} {ks:List κ},DD f ds=some ks->ds=ks.map g
 | [],ks,h=>by cases h; rfl
 | d :: ds,ks,h=>by
  unfold DD at h
  obtain ⟨k,h1,h⟩:=g1j.mp h
  obtain ⟨r,h2,h⟩:=g1j.mp h
  cases h
  rw [X1 hf h2,hf d k h1]
  rfl
theorem jZ:∀ (n:Nat) (d:D) (k:KTy n),asK n d=some k->d=dOf n k
 | 0,d,k,h=>by cases d <;> cases h <;> rfl
 | n+1,d,k,h=>by
  cases d with
  | tup ds=>exact congrArg D.tup (X1 (jZ n) h)
  | _=>cases h
theorem J4 {κ:Type} {f:D->Option κ} {g:κ->D} (hf:∀ k,f (g k)=some k):∀ ks:List κ,DD f (ks.map g)=some ks
 | []=>rfl
 | k :: ks=>by
  rw [g0h]
  unfold DD
  rw [hf k,J4 hf ks]
  rfl
theorem HW:∀ (n:Nat) (k:KTy n),asK n (dOf n k)=some k
 | 0,_=>rfl
 | n+1,k=>J4 (HW n) k
section
variable {X:Cx} {e:Expr} {f g:FE} {pos:Pos} {kk:Nat}
theorem YC:∀ (n:Nat) {pins:List (Addr×Obj)} {σ:St} {H:Hp} {s:Shared} (I:Inv X pins σ H s) {k:KTy n} {v:V} {u:Value},Has X.K H (dOf n k) v->xm v u->isN n s.heap k u
 | 0,pins,σ,H,s,I,k,v,u,h,r=>by
  have e:v=.int k:=Has.int_iff.mp h
  subst e
  exact r
 | n+1,pins,σ,H,s,I,k,v,u,h,r=>by
  obtain ⟨a,xs,rfl,q,l⟩:=Has.tup_iff.mp h
  cases r
  obtain ⟨its,rv,⟨o,h1,h2,m,h3⟩,_⟩:=I.tuple q
  refine ⟨a,o,its.toArray,m,rfl,h1,h2,h3,?_⟩
  have all:∀ (k:List (KTy n)) (xs:List V) (its:List Value),zZ X.K H (k.map (dOf n)) xs->xh xs its->Paired (isN n s.heap) k its:=by
   intro k
   induction k with
   | nil =>
    intro xs its l rv
    rw [zZ.nil_iff.mp l] at rv
    cases rv
    exact .nil
   | cons x k ih =>
    intro xs its l rv
    obtain ⟨y,r,rfl,h1,h2⟩:=zZ.cons_iff.mp l
    cases rv with
    | cons r1 r2=>exact .cons (YC n I h1 r1) (ih _ _ h2 r2)
  exact all k xs its l rv
theorem VL {n:Nat} {xs:List (KTy n×Addr)} {a:Addr} {H:Hp} {h:Heap} (d:Zp n xs a h):xY X.prog X.w H h a (.ext (Zp n xs a)):=by
 refine ⟨d,?_,fun h1 h2 d1 k=>?_⟩
 ·obtain ⟨_,o,_,_,e,_⟩:=d
  exact ⟨o,e⟩
 ·obtain ⟨z,o,es,ep,e,r⟩:=d1
  exact ⟨z,o,es,ep,k o e,r⟩
theorem JG {n:Nat} (hn:n+1<=8) {pins:List (Addr×Obj)} {σ:St} {H:Hp} {s:Shared} (I:Inv X pins σ H s) {xs:List (KTy (n+1)×Addr)} {a:Addr} (e:H a=some (.ext (Zp (n+1) xs a))) (hk:∀ x∈xs,Has X.K H (dOf (n+1) x.1) (.ref x.2)) :
  (a==sysModules)=false/\xs.length<=sizeLine/\Heap.DictOfH (CG (prog:=X.prog) (w:=X.w) n hn) s.heap a (xs.map fun x=>(x.1,x.2,.bool true)):=by
 obtain ⟨⟨z,o,es,ep,h1,h2,h3,h4,h5,h6⟩,_⟩:=(show xY X.prog X.w H s.heap a (.ext (Zp (n+1) xs a)) from I.hok a _ e)
 refine ⟨z,h6,o,es,ep,h1,h2,h3,?_,fun x hx=>?_,?_⟩
 ·rw [h4,g1h]
  rfl
 ·obtain ⟨y,hy,rfl⟩:=g1i.mp hx
  exact YC (n+1) I (hk y hy) rfl
 ·rw [g1h]
  exact h5
theorem Zb {κ:Type} [DecidableEq κ] (k:κ):∀ xs:List (κ×Addr),(atKey (xs.map fun x=>(x.1,x.2,Value.bool true)) k).isSome=decide (k∈xs.map (·.1))
 | []=>by simp [atKey]
 | x :: xs=>by
  rw [g0h,g0h]
  by_cases c:x.1=k
  ·simp [atKey,c]
  ·have:atKey ((x.1,x.2,Value.bool true) :: xs.map fun x=>(x.1,x.2,Value.bool true)) k=atKey (xs.map fun x=>(x.1,x.2,Value.bool true)) k:=by
    unfold atKey
    rw [List.find?_cons_of_neg (by simpa using c)]
   rw [this,Zb k xs]
   simp [Ne.symm c]
def DV (n:Nat):TE:=fun _ H Q=>∀ p,H p=none->Q (.ref p) (upd H p (.ext (Zp n [] p)))
theorem KZ (n:Nat) {dpos:Pos}:PE X (.Dict [] [] dpos) (DV n):=fun pins s σ H Q I h =>
 wpAny_Dict_empty ⟨.ref s.heap.objs.size,_,I.laid (a:=s.heap.objs.size) (o:=.ext (Zp n [] s.heap.objs.size)) (t':=s.toks) (fun _ _ q=>Heap.get?_push_of_some _ q) (g0q _)
  (VL ⟨beq_eq_false_iff_ne.mpr (Ne.symm (g1u I.big)),_,#[],0,Heap.get?_push_size _ rfl,⟨rfl,rfl,rfl⟩,rfl,rfl,List.nodup_nil,g1z _⟩),rfl,h _ (I.hok.fresh (g0q _))⟩
def VJ (i n:Nat):FS:=fun ρ=>some (.nx (ρ.set i (.oX n [])))
@[simp] theorem KD {i n:Nat} {ρ:Rho}:VJ i n ρ=some (.nx (ρ.set i (.oX n []))):=rfl
theorem GV {x:Str} {pos' dpos:Pos} (i n:Nat) (hN:X.N.Nodup) (hi:X.N[i]? = some x:=by rfl) (hx:Loc X.env.scope x:=by first | exact Or.inl rfl | exact Or.inr rfl) (hs:swapsWith (.Dict [] [] dpos) (some (.Name x pos')) pos.line X.env=pure false:=by rfl)
  (hf:X.fn x=true\/X.env.scope.names.lookup x=some .local:=by first | exact .inl rfl | exact .inr rfl | assumption):DS X (.Assign [.Name x pos'] (.Dict [] [] dpos) pos) (VJ i n) :=
 wj (Vb hN hi hx (KZ n (dpos:=dpos)) hs hf) fun D' σ H ⟨H₀,Hf₀,ρ,Hf,o,R,q,k⟩=>by
  cases q
  intro p hp
  refine k _ _ _ ((R.layN hp).setOwn i rfl ⟨[],zq,rfl,fun x hx=>by cases hx⟩ (R.sf.free hp) (R.s0.free hp) ?_) zA
  intro j sl z o z'
  obtain ⟨b,p1,p2,_⟩:=R.ow j sl z o
  rw [p1] at z'; cases z'
  obtain ⟨ob,q'⟩:=p2.there o
  rw [q'] at hp; cases hp
def NC (K:W.Frag) (ty td:TE):TE:=fun σ H Q=>ty σ H fun y H1=>td σ H1 fun x H2=>∃ (a b:Addr) (n:Nat) (xs:List (KTy (n+1)×Addr)) (k:KTy (n+1)),n<=3/\x=.ref a/\y=.ref b/\H2 a=some (.ext (Zp (n+1) xs a)) ∧
 (∀ x∈xs,Has K H2 (dOf (n+1) x.1) (.ref x.2))/\Has K H2 (dOf (n+1) k) (.ref b)/\Q (.bl (!decide (k∈xs.map (·.1)))) H2
theorem BU {o i:Expr} {ty td:TE} (hu:X.A.units+6 < cLine) (hi:PE X i ty) (ho:PE X o td):PC X .NotIn i o (NC X.K ty td):=by
 intro pins s σ H Q I h
 refine thn (hi pins s σ H _ I h) fun iv s1 ⟨y,H1,I1,ry,q1⟩=>thn (ho pins s1 σ H1 _ I1 q1) fun u s2 ⟨x,H2,I2,rx,a,b,n,xs,k,hn,ex,ey,e,hk,hb,q2⟩=>?_
 subst ex ey
 obtain rfl:u=Value.ref a:=rx
 obtain rfl:iv=Value.ref b:=ry
 obtain ⟨z,hz,dd⟩:=JG (n:=n) (by omega) I2 e hk
 refine wpAny_notIn_heap (knd:=CG (prog:=X.prog) (w:=X.w) n (by omega)) (by show X.A.units+1+(n+1) < cLine; omega) (YC (n+1) I2 hb rfl) z dd ?_
 rw [Zb]
 exact ⟨.bl (!decide (k∈xs.map (fun x:KTy (n+1)×Addr=>x.1))),H2,I2.tok _,rfl,q2⟩
def Wt (i:Nat) (fk:FE):FT:=fun ρ=>(fk ρ).bind fun d=>match ρ[i]? with
 | some (.oX (n+1) ks)=>if n<=3 then (asK (n+1) d).bind fun k=>some (!decide (k∈ks)) else none
 | _=>none
@[simp] theorem Bt {i:Nat} {fk:FE} {ρ:Rho}:Wt i fk ρ=(fk ρ).bind fun d=>match ρ[i]? with
 | some (.oX (n+1) ks)=>if n<=3 then (asK (n+1) d).bind fun k=>some (!decide (k∈ks)) else none
 | _=>none:=rfl
theorem C2 {x:Str} {p1:Pos} {fk:FE} (i:Nat) (hr:Room kk X.A) (ha:DE X e fk) (hN:X.N[i]? = some x:=by rfl) (hvis:Vis X.env.scope x:=by first | exact Or.inl rfl | exact Or.inr (Or.inl rfl) | exact Or.inr (Or.inr rfl))
  (hd:(x==("__debug__":Str))=false:=by decide) (hcd:(x==("__classdict__":Str))=false:=by decide) (hm:behindInMarks .NotIn (.Name x p1)=false:=by rfl) :
  DT X (.Compare e [.NotIn] [.Name x p1] pos) (Wt i fk) :=
 Xd (Hr (BU (by have:=hr.un; omega) ha (uj hN hvis hd hcd)) hm) fun σ H Q ⟨H₀,Hf₀,ρ,Hf,b,R,q,k⟩=>by
  unfold Wt at q
  obtain ⟨d,e2,q⟩:=g1j.mp q
  split at q
  ·rename_i n ks el
   split at q
   ·rename_i hn
    obtain ⟨k',e3,q⟩:=g1j.mp q
    cases q
    obtain ⟨a,p1,_⟩:=R.ow i _ el rfl
    refine ⟨H₀,Hf₀,ρ,Hf,d,R,e2,fun v H2 Hf2 R2 s2 t2 h2=>⟨_,p1,?_⟩⟩
    obtain ⟨a',r1,⟨xs,r2,r3,r4⟩,_⟩:=R2.ow i _ el rfl
    rw [p1] at r1; cases r1
    rw [jZ (n+1) d k' e3] at h2
    obtain ⟨b,ys,rfl,_⟩:=Has.tup_iff.mp h2
    refine ⟨a,b,n,xs,k',hn,rfl,rfl,r2,fun x hx=>(r4 x hx).mono R2.sf,h2.mono R2.sf,?_⟩
    rw [r3]
    exact ⟨_,rfl,k _ _ R2 s2 t2⟩
   ·cases q
  ·cases q
def NU (K:W.Frag) (td ty tv:TE):TS:=fun D' σ H=>tv σ H fun v H1=>td σ H1 fun x H2=>ty σ H2 fun y H3=>∃ (a b:Addr) (n:Nat) (xs:List (KTy (n+1)×Addr)) (k:KTy (n+1)),n<=3/\v=.bl true/\x=.ref a/\y=.ref b/\H3 a=some (.ext (Zp (n+1) xs a)) ∧
 (∀ x∈xs,Has K H3 (dOf (n+1) x.1) (.ref x.2))/\Has K H3 (dOf (n+1) k) (.ref b)/\xs.length < sizeLine/\D'.nx σ (upd H3 a (.ext (Zp (n+1) (if k∈xs.map (·.1) then xs else xs++[(k,b)]) a)))
theorem Qm {o i value:Expr} {sp:Pos} {td ty tv:TE} (hu:X.A.units+6 < cLine) (ho:PE X o td) (hi:PE X i ty) (hv:PE X value tv) (hs:swapsWith value (some (.Subscript o i sp)) pos.line X.env=pure false) :
  PS X (.Assign [.Subscript o i sp] value pos) (NU X.K td ty tv):=by
 intro pins s σ H D I h
 refine wpAny_Assign_Subscript (thn (hv pins s σ H _ I h) fun r s1 ⟨v,H1,I1,rv,q1⟩=>thn (ho pins s1 σ H1 _ I1 q1) fun u s2 ⟨x,H2,I2,rx,q2⟩=>thn (hi pins s2 σ H2 _ I2 q2) fun iv s3 ⟨y,H3,I3,ry,a,b,n,xs,k,hn,ev,ex,ey,e,hk,hb,hl,q3⟩=>?_) hs
 subst ev ex ey
 obtain rfl:u=Value.ref a:=rx
 obtain rfl:iv=Value.ref b:=ry
 obtain rfl:r=Value.bool true:=rv
 obtain ⟨z,hz,dd⟩:=JG (n:=n) (by omega) I3 e hk
 refine wpAny_setItem_heap (knd:=CG (prog:=X.prog) (w:=X.w) n (by omega)) (hsz:=by rw [g0f]; exact hz) (by show X.A.units+1+(n+1) < cLine; omega) (YC (n+1) I3 hb rfl) dd fun h' dd' hs'=>⟨σ,_,?_,q3⟩
 obtain ⟨q,es,ep,hq,h2,h3,h4,_,h5⟩:=dd'
 refine YI I3 (by rw [e]; exact True.intro) hs' ⟨q,hq⟩ (VL ⟨z,q,es,ep,hq,h2,h3,?_⟩)
 unfold storedH at h4 h5
 rw [Zb] at h4 h5
 by_cases c:k∈xs.map (·.1)
 ·rw [decide_eq_true c,if_pos rfl] at h4 h5
  rw [if_pos c]
  have e1:(xs.map fun x=>(x.1,x.2,Value.bool true)).map (putAt k (Value.bool true))=xs.map fun x=>(x.1,x.2,Value.bool true):=by
   rw [g1h]
   apply g1r
   intro x _
   simp only [Function.comp,putAt]
   split <;> rfl
  rw [e1,g1h] at h4 h5
  exact ⟨h4,h5,hz⟩
 ·rw [decide_eq_false c,if_neg g2a] at h4 h5
  rw [if_neg c]
  rw [g0y,g1h] at h4 h5
  refine ⟨?_,?_,?_⟩
  ·rw [h4,g0y]
   rfl
  ·rw [g0y]
   exact h5
  ·rw [g0g,g0s]
   omega
def Xc (i:Nat) (fk gv:FE):FS:=fun ρ=>(gv ρ).bind fun v=>(fk ρ).bind fun d=>match ρ[i]?,v with
 | some (.oX (n+1) ks),.bl true=>if n<=3/\ks.length < sizeLine then (asK (n+1) d).bind fun k=>some (.nx (ρ.set i (.oX (n+1) (if k∈ks then ks else ks++[k])))) else none
 | _,_=>none
@[simp] theorem Br {i:Nat} {fk gv:FE} {ρ:Rho}:Xc i fk gv ρ=(gv ρ).bind fun v=>(fk ρ).bind fun d=>match ρ[i]?,v with
 | some (.oX (n+1) ks),.bl true=>if n<=3/\ks.length < sizeLine then (asK (n+1) d).bind fun k=>some (.nx (ρ.set i (.oX (n+1) (if k∈ks then ks else ks++[k])))) else none
 | _,_=>none:=rfl
theorem C4 {x:Str} {p1 sp:Pos} {key value:Expr} {fk gv:FE} (i:Nat) (hr:Room kk X.A) (hv:DE X value gv) (hk:DE X key fk) (hN:X.N[i]? = some x:=by rfl) (hvis:Vis X.env.scope x:=by first | exact Or.inl rfl | exact Or.inr (Or.inl rfl) | exact Or.inr (Or.inr rfl))
  (hd:(x==("__debug__":Str))=false:=by decide) (hcd:(x==("__classdict__":Str))=false:=by decide)
  (hs:swapsWith value (some (.Subscript (.Name x p1) key sp)) pos.line X.env=pure false:=by rfl) :
  DS X (.Assign [.Subscript (.Name x p1) key sp] value pos) (Xc i fk gv) :=
 wj (Qm (by have:=hr.un; omega) (uj hN hvis hd hcd) hk hv hs) fun D' σ H ⟨H₀,Hf₀,ρ,Hf,o,R,q,k⟩=>by
  unfold Xc at q
  obtain ⟨v,e1,q⟩:=g1j.mp q
  obtain ⟨d,e2,q⟩:=g1j.mp q
  generalize el:ρ[i]? = sl at q
  split at q
  ·rename_i n ks _
   split at q
   ·rename_i hn
    obtain ⟨k',e3,q⟩:=g1j.mp q
    cases q
    obtain ⟨a,p1,_⟩:=R.ow i _ el rfl
    refine ⟨H₀,Hf₀,ρ,Hf,_,R,e1,fun v1 H1 Hf1 R1 s1 t1 h1=>⟨_,p1,H₀,Hf₀,ρ,Hf1,d,R1,e2,fun v2 H2 Hf2 R2 s2 t2 h2=>?_⟩⟩
    obtain ⟨a',r1,⟨xs,r2,r3,r4⟩,_⟩:=R2.ow i _ el rfl
    rw [p1] at r1; cases r1
    rw [jZ (n+1) d k' e3] at h2
    obtain ⟨b,ys,rfl,_⟩:=Has.tup_iff.mp h2
    have hlen:xs.length=ks.length:=by rw [<- r3,g0f]
    refine ⟨a,b,n,xs,k',hn.1,Has.bl_iff.mp h1,rfl,rfl,r2,fun x hx=>(r4 x hx).mono R2.sf,h2.mono R2.sf,by omega,?_⟩
    refine k _ _ _ (R2.updOwn el rfl p1 rfl ⟨_,zq,?_,?_⟩) (t1.trans t2)
    ·rw [r3]
     split
     ·exact r3
     ·rw [g0y,r3]
      rfl
    ·intro x hx
     split at hx
     ·exact r4 x hx
     ·rcases g1o.mp hx with hx | hx
      ·exact r4 x hx
      ·have ex:x=(k',b):=by simpa using hx
       subst ex
       exact h2
   ·cases q
  ·cases q
end
structure GDictS (w:World) (K:W.Frag) (mg:Str->Option Value) (x:Str) (kvs:List (Str×D)):Prop where
 ex:∃ (a:Addr) (o:Obj) (es:Array DictEntry) (ep:Nat) (vs:List (Str×Value)),mg x=some (.ref a)/\K.lookup a=some o/\o.ExactDict/\o.data=.dict es ep/\(a==sysModules)=false/\(∀ P,KeysOf (PySem.strKind P w) es/\Pairs (PySem.strKind P w) es.toList vs)/\(vs.map (·.1)).Nodup ∧
  ∀ k,(∃ d u v,kvs.lookup k=some d/\valueAt vs k=some u/\xm v u/\Has K (fun _=>none) d v)\/(kvs.lookup k=none/\valueAt vs k=none)
inductive GEntS (w:World) (K:W.Frag):List DictEntry->List (Str×D)->Prop
 | nil:GEntS w K [] []
 | cons {k:Str} {t:Tok} {hh:Int} {u:Value} {v:V} {d:D} {es:List DictEntry} {kvs:List (Str×D)}:hashStr w k=hh->xm v u->Has K (fun _=>none) d v->GEntS w K es kvs->GEntS w K (⟨hh,.str k t,u⟩ :: es) ((k,d) :: kvs)
theorem ux (k:Str) (t:Tok):Value.isStrOf k (.str k t)=true:=by simp [Value.isStrOf]
theorem GEntS.vals {w:World} {K:W.Frag}:∀ {es:List DictEntry} {kvs:List (Str×D)},GEntS w K es kvs->∃ vs:List (Str×Value),(∀ P,(∀ e∈es,∃ k,(PySem.strKind P w).is k e.key=true/\e.hash=(PySem.strKind P w).hash k)/\Pairs (PySem.strKind P w) es vs)/\vs.map (·.1)=kvs.map (·.1) ∧
  ∀ k,(∃ d u v,kvs.lookup k=some d/\valueAt vs k=some u/\xm v u/\Has K (fun _=>none) d v)\/(kvs.lookup k=none/\valueAt vs k=none)
 | _,_,.nil=>⟨[],fun P=>⟨fun e he=>(by cases he),Pairs.nil⟩,rfl,fun k=>.inr ⟨rfl,rfl⟩⟩
 | _,_,@GEntS.cons _ _ k t hh u v d es kvs hk r h g=>by
  obtain ⟨vs,p1,p2,p3⟩:=g.vals
  have hi:=ux k t
  refine ⟨(k,u) :: vs,fun P=>⟨fun e he=>?_,Pairs.cons hi rfl (p1 P).2⟩,(by simp [p2]),fun k'=>?_⟩
  ·rcases g0o.mp he with rfl | he
   ·exact ⟨k,hi,hk.symm⟩
   ·exact (p1 P).1 e he
  ·rw [g2e]
   by_cases hkk:k'=k
   ·subst hkk
    exact .inl ⟨d,u,v,by simp,by simp [valueAt],r,h⟩
   ·have e1:(k'==k)=false:=by simpa using hkk
    have e2:valueAt ((k,u) :: vs) k'=valueAt vs k':=by
     unfold valueAt
     rw [List.find?_cons_of_neg (by simpa using fun z:k=k'=>hkk z.symm)]
    rw [e1,e2]
    exact p3 k'
theorem Jh {w:World} {K:W.Frag} {mg:Str->Option Value} {x:Str} {kvs:List (Str×D)} {a:Addr} {es:List DictEntry} {ep:Nat} (h1:mg x=some (.ref a)) (h2:K.lookup a=some ⟨.type "dict",none,.dict es.toArray ep,#[]⟩) (hs:(a==sysModules)=false) (g:GEntS w K es kvs) (nd:(kvs.map (·.1)).Nodup):GDictS w K mg x kvs:=by
 obtain ⟨vs,p1,p2,p3⟩:=g.vals
 exact ⟨a,_,es.toArray,ep,vs,h1,h2,⟨rfl,rfl,rfl⟩,rfl,hs,fun P=>⟨fun e he=>(p1 P).1 e (by simpa using he),(p1 P).2⟩,by rw [p2]; exact nd,p3⟩
section
variable {X:Cx} {o e a b:Expr} {f g:FE} {pos:Pos} {kk:Nat}
def Gp (kvs:List (Str×D)):D->Option D
 | .str k=>kvs.lookup k
 | _=>none
@[simp] theorem Bu {kvs:List (Str×D)} {k:Str}:Gp kvs (.str k)=kvs.lookup k:=rfl
theorem GZ {x:Str} {i:Expr} {kvs:List (Str×D)} {p:Pos} (hg:Gl X x) (hm:GDictS X.w X.K X.mg x kvs) (hi:DR X i f) (hs:P5 i:=by intro _ _; rfl) (hd:(x==("__debug__":Str))=false:=by decide):DE X (.Subscript (.Name x p) i pos) (jr (Gp kvs) f):=by
 obtain ⟨a,o,es,ep,vs,h1,h2,h3,h4,hsm,h5,h6,h7⟩:=hm.ex
 intro pins s σ H Q I h
 obtain ⟨H₀,Hf₀,ρ,Hf,d,R,q,k⟩:=h
 obtain ⟨y,e1,e2⟩:=ya q
 unfold Gp at e2
 split at e2
 ·rename_i n
  rcases h7 n with ⟨d',u,v,q0,q1,q2,q3⟩ | ⟨q0,_⟩
  ·rw [q0] at e2
   cases e2
   refine Bh PySem.F.slot_dict_getitem.lookup hs (thn (Yn (v:=.ref a) hg h1 rfl hd pins s σ H (fun x H1=>x=.ref a/\H1=H) I ⟨rfl,rfl⟩) fun u0 s1 ⟨x,H1,I1,rx,ex,eH⟩=>?_)
   subst ex eH
   cases rx
   refine thn (hi pins s1 σ H1 (fun y H2=>y=.str n/\∃ Hf2,Rep X.K H₀ Hf₀ σ ρ H2 Hf2/\yf H1 H2/\yf Hf Hf2) I1 ⟨H₀,Hf₀,ρ,Hf,_,R,e1,fun v H1 Hf1 R1 s1 t1 h1=>⟨h1.str,Hf1,R1,s1,t1⟩⟩) fun iv s2 ⟨y,H2,I2,ry,ey,Hf2,R2,s2',t2⟩=>?_
   subst ey
   obtain ⟨t,rfl⟩:=ry
   have hb:=I2.kIn a o h2
   have hdo:s2.heap.DictOf (PySem.strKind X.prog X.w) a vs:=⟨o,es,ep,hb,h3,h4,(h5 _).1,(h5 _).2,h6⟩
   refine ⟨⟨o,hb,h3.1⟩,wpAny_getItem_of (knd:=PySem.strKind X.prog X.w) (k:=n) (ux n t) hdo.mapOf q1 ⟨v,H2,I2.tok _,q2,?_⟩⟩
   exact k _ _ _ R2 s2' t2 (q3.mono Y7)
  ·rw [q0] at e2
   cases e2
 ·cases e2
def Nr (kvs:List (Str×D)) (f:FE):FT:=fun ρ=>(f ρ).bind fun d=>match d with
 | .str k=>some (kvs.lookup k).isSome
 | _=>none
@[simp] theorem W9 {kvs:List (Str×D)} {ρ:Rho}:Nr kvs f ρ=(f ρ).bind fun d=>match d with
 | .str k=>some (kvs.lookup k).isSome
 | _=>none:=rfl
def NF (K:W.Frag) (w:World) (mg:Str->Option Value) (x:Str) (kvs:List (Str×D)) (ty:TE):TE:=fun σ H Q=>ty σ H fun y H1=>∃ k,y=.str k/\Q (.bl (kvs.lookup k).isSome) H1
theorem BV {x:Str} {kvs:List (Str×D)} {p:Pos} {ty:TE} (hg:Gl X x) (hm:GDictS X.w X.K X.mg x kvs) (hi:PE X e ty) (hd:(x==("__debug__":Str))=false):PC X .In e (.Name x p) (NF X.K X.w X.mg x kvs ty):=by
 obtain ⟨a,o,es,ep,vs,h1,h2,h3,h4,hsm,h5,h6,h7⟩:=hm.ex
 intro pins s σ H Q I h
 refine thn (hi pins s σ H _ I h) fun iv s1 ⟨y,H1,I1,ry,n,ey,q⟩=>?_
 subst ey
 obtain ⟨t,rfl⟩:=ry
 refine thn (Yn (v:=.ref a) hg h1 rfl hd pins s1 σ H1 (fun x H2=>x=.ref a/\H2=H1) I1 ⟨rfl,rfl⟩) fun u0 s2 ⟨x,H2,I2,rx,ex,eH⟩=>?_
 subst ex eH
 cases rx
 have hb:=I2.kIn a o h2
 have hdo:s2.heap.DictOf (PySem.strKind X.prog X.w) a vs:=⟨o,es,ep,hb,h3,h4,(h5 _).1,(h5 _).2,h6⟩
 refine wpAny_in_of (knd:=PySem.strKind X.prog X.w) (k:=n) (ux n t) hsm hdo.mapOf ?_
 have e:(valueAt vs n).isSome=(kvs.lookup n).isSome:=by
  rcases h7 n with ⟨d',u,v,q0,q1,_⟩ | ⟨q0,q1⟩ <;> rw [q0,q1] <;> rfl
 rw [e]
 exact ⟨.bl (kvs.lookup n).isSome,H2,I2.tok _,rfl,q⟩
theorem C3 {x:Str} {kvs:List (Str×D)} {p:Pos} (hg:Gl X x) (hm:GDictS X.w X.K X.mg x kvs) (hi:DE X e f) (hd:(x==("__debug__":Str))=false:=by decide) (hb:behindInMarks .In (.Name x p)=false:=by rfl):DT X (.Compare e [.In] [.Name x p] pos) (Nr kvs f) :=
 Xd (Hr (BV hg hm hi hd) hb) fun σ H Q ⟨H₀,Hf₀,ρ,Hf,b,R,q,k⟩=>by
  unfold Nr at q
  obtain ⟨d,e2,q⟩:=g1j.mp q
  split at q
  ·cases q
   exact ⟨H₀,Hf₀,ρ,Hf,_,R,e2,fun v H2 Hf2 R2 s2 t2 h2=>⟨_,Has.str_iff.mp h2,_,rfl,k _ _ R2 s2 t2⟩⟩
  ·cases q
def rTB (φ:Str->Str->Bool):V->List V->Hp->VK->Prop:=fun x vs H Q=>∃ z y,x=.str z/\vs=[.str y]/\Q (.bl (φ z y)) H
theorem QN:MtR X "str.startswith" (rTB Txt.startswith):=by
 intro pins s σ H x vs v us Q I rx rv h
 obtain ⟨z,y,rfl,rfl,q⟩:=h
 obtain ⟨t,rfl⟩:=rx
 obtain ⟨u,rfl,t',rfl⟩:=ql rv
 exact SC.startswith ⟨.bl _,H,I,rfl,q⟩
def tbD (φ:Str->Str->Bool):D->D->Option D
 | .str z,.str y=>some (.bl (φ z y))
 | _,_=>none
@[simp] theorem Bo {φ:Str->Str->Bool} {z y:Str}:tbD φ (.str z) (.str y)=some (.bl (φ z y)):=rfl
theorem VN {apos cpos:Pos} (ho:DE X o f) (he:DE X e g)
  (hbase:attributeBase o "startswith" X.env (eval o X.env)=eval o X.env:=by rfl)
  (hfew:((backTo cpos (starEach [e] X.env)).all (fun x => !x.1)&&(backToKw cpos (keywordEach [] X.env)).all (fun x=>x.1.isSome)
   && decide (([e]:List Expr).length+([]:List Keyword).length+(if ([]:List Keyword).isEmpty then 0 else 1) < 30))=true:=by rfl)
  (hline:(apos.endLine==cpos.line)=true:=by rfl) (hst:starEach [e] X.env=(false,eval e X.env) :: starEach [] X.env:=by rfl) (hplain:(backTo cpos (starEach [] X.env)).any (·.1)=false:=by rfl) :
  DE X (.Call (.Attribute o "startswith" apos) [e] [] cpos) (zb (tbD Txt.startswith) f g) :=
 yP (BS PySem.F.plainAttrs_str PySem.F.slot_str_startswith PySem.F.type_str_startswith QN ho (wK he u4 hst) hbase hfew hline hst hplain) fun σ H Q ⟨H₀,Hf₀,ρ,Hf,d,R,q,k⟩=>by
  obtain ⟨x,y,e1,e2,e3⟩:=jq q
  refine ⟨H₀,Hf₀,ρ,Hf,x,R,e1,fun v H1 Hf1 R1 s1 t1 h1=>?_⟩
  unfold tbD at e3
  split at e3
  ·cases e3
   cases Has.str_iff.mp h1
   refine ⟨rfl,H₀,Hf₀,ρ,Hf1,_,R1,e2,fun v' H2 Hf2 R2 s2 t2 h2=>?_⟩
   cases Has.str_iff.mp h2
   exact ⟨_,_,rfl,rfl,k _ _ _ R2 (s1.trans s2) (t1.trans t2) (Has.bl_iff.mpr rfl)⟩
  ·cases e3
def DH (i j c:Int) (p:Addr) (h:Heap):Prop:=∃ t u v,h.get? p=some { cls:=.type "range",data:=.fields #[.int i t,.int j u,.int c v] }
theorem JW:wt X (.type "range") (fun xs H Q=>∃ i j c:Int,xs=[.int i,.int j,.int c]/\c≠0/\Builtin.divisionGoesByPylong (j - i) c=false/\∀ p,H p=none->Q (.ref p) (upd H p (.ext (DH i j c p)))):=by
 intro pins s σ H xs us Q I r h
 obtain ⟨i,j,c,rfl,hc,hp,q⟩:=h
 cases r with
 | cons r1 r =>
  cases r with
  | cons r2 r =>
   cases r with
   | cons r3 r =>
    cases r
    obtain ⟨t1,rfl⟩:=r1
    obtain ⟨t2,rfl⟩:=r2
    obtain ⟨t3,rfl⟩:=r3
    refine call_range_3 hc ⟨.ref s.heap.objs.size,_,I.laid (t':=s.toks) (o:=.ext (DH i j c s.heap.objs.size)) (fun b ob q=>Heap.get?_push_of_some _ q) (g0q _) ?_,rfl,q _ (I.hok.fresh (g0q _))⟩ (.inl hp)
    refine ⟨⟨_,_,_,Heap.get?_push_size _ rfl⟩,⟨_,Heap.get?_push_size _ rfl⟩,fun h1 h2 d1 k=>?_⟩
    obtain ⟨t,u,v,e⟩:=d1
    exact ⟨t,u,v,k _ e⟩
theorem ZA (hc:X.calm=true):wt X (.type "list") (fun xs H Q=>∃ (p:Addr) (i j c:Int) (n:Nat),xs=[.ref p]/\H p=some (.ext (DH i j c p))/\Builtin.Range.small i j c=true/\Builtin.Range.rangeSize i j c=(n:Int)/\n<=1000000 ∧
  ∀ l,H l=none->Q (.ref l) (upd H l (.lst ((g0t n).map fun (k:Nat)=>V.int (i+(k:Int) * c))))):=by
 intro pins s σ H xs us Q I r h
 obtain ⟨p,i,j,c,n,rfl,hp,hsm,hsz,hn,q⟩:=h
 obtain ⟨u,rfl,rx⟩:=ql r
 cases rx
 obtain ⟨⟨t,u,v,e⟩,_⟩:=(show xY X.prog X.w H s.heap p (.ext (DH i j c p)) from I.hok p _ hp)
 have hl24:sizeLine=16777216:=sizeLine_eq
 refine call_list_range (n:=n) (I.ok.hd hc) (show IsRange s.heap p i j c t u v from e) hsm hsz (by omega) fun h' tk acc' c' kp es hi'=>?_
 obtain ⟨hs,hv⟩:=hi'
 have vv:∀ (m:Nat) (its:List Value) (lo:Nat),its.length=m->(∀ (k:Nat) w,its[k]? = some w->∃ t,w=.int (i+((lo+k:Nat):Int) * c) t)->xh ((g0t m).map fun (k:Nat)=>V.int (i+((lo+k:Nat):Int) * c)) its:=by
  intro m
  induction m with
  | zero =>
   intro its lo hl _
   rw [g2v hl]
   exact .nil
  | succ m ih =>
   intro its lo hl hw
   cases its with
   | nil=>simp at hl
   | cons w its =>
    rw [g2l,g0h,g1h]
    obtain ⟨t,rfl⟩:=hw 0 w rfl
    refine .cons ⟨t,rfl⟩ ?_
    have:=ih its (lo+1) (by simpa using hl) fun k w e=>by
     obtain ⟨t,rfl⟩:=hw (k+1) w (by simpa using e)
     exact ⟨t,by rw [show lo+(k+1)=lo+1+k by omega]⟩
    have e:((fun k:Nat=>V.int (i+((lo+k:Nat):Int) * c)) ∘ Nat.succ)=fun k:Nat=>V.int (i+((lo+1+k:Nat):Int) * c):=by
     funext k
     simp only [Function.comp]
     rw [show lo+k.succ=lo+1+k by omega]
    rw [e]
    exact this
 have vv':xh ((g0t n).map fun (k:Nat)=>V.int (i+(k:Int) * c)) acc'.toList:=by
  have:=vv n acc'.toList 0 (by simpa using hs) fun k w ew=>by
   obtain ⟨t,rfl⟩:=hv k w (by simpa using ew)
   exact ⟨t,by rw [g3d]⟩
  simpa only [g3d] using this
 refine ⟨.ref s.heap.objs.size,_,I.laid (t':=tk) (o:=.lst _) kp (g0q _) ⟨by rw [g0f,g2h]; omega,acc'.toList,c',vv',by simpa using es⟩,rfl,q _ (I.hok.fresh (g0q _))⟩
def Yf (i c:Int) (n:Nat):List D:=(g0t n).map fun (k:Nat)=>D.int (i+(k:Int) * c)
theorem Jc {K:W.Frag} {H:Hp} (i c:Int) (n:Nat):zZ K H (Yf i c n) ((g0t n).map fun (k:Nat)=>V.int (i+(k:Int) * c)):=by
 unfold Yf
 induction (g0t n) with
 | nil=>exact .nil
 | cons k l ih=>exact .cons (Has.int_iff.mpr rfl) ih
def Ck (i j c:Int):Bool:=decide (c≠0) && !Builtin.divisionGoesByPylong (j - i) c&&Builtin.Range.small i j c&&decide (0<=Builtin.Range.rangeSize i j c)&&decide (Builtin.Range.rangeSize i j c<=1000000)
def KF (fa:FA):FA:=fun ρ=>(fa ρ).bind fun l=>match l with
 | [.int i,.int j,.int c]=>if Ck i j c=true then some (Yf i c (Builtin.Range.rangeSize i j c).toNat) else none
 | _=>none
@[simp] theorem Qd {fa:FA} {ρ:Rho}:KF fa ρ=(fa ρ).bind fun l=>match l with
 | [.int i,.int j,.int c]=>if Ck i j c=true then some (Yf i c (Builtin.Range.rangeSize i j c).toNat) else none
 | _=>none:=rfl
theorem qR.three {K:W.Frag} {Hf:Hp} {σ:St} {ρ:Rho} {a b c:D} {vs:List V} (h:qR K Hf σ ρ [a,b,c] vs):∃ x y z,vs=[x,y,z]/\qh K Hf σ ρ a x/\qh K Hf σ ρ b y/\qh K Hf σ ρ c z:=by
 cases h with
 | cons h1 h =>
  cases h with
  | cons h2 h =>
   cases h with
   | cons h3 h =>
    cases h
    exact ⟨_,_,_,rfl,h1,h2,h3⟩
theorem XF {a b c:Expr} {fa:FA} {p p2 pos2:Pos} (hc:X.calm=true) (hg:Gl X "list") (hm:X.mg "list"=none) (hg2:Gl X "range") (hm2:X.mg "range"=none) (ha:DAR X [a,b,c] fa)
  (he:starEach [.Call (.Name "range" p2) [a,b,c] [] pos2] X.env=(false,eval (.Call (.Name "range" p2) [a,b,c] [] pos2) X.env) :: starEach [] X.env:=by rfl) (hpl:(backTo pos (starEach [] X.env)).any (·.1)=false:=by rfl)
  (he2:starEach [a,b,c] X.env=(false,eval a X.env) :: starEach [b,c] X.env:=by rfl) (hpl2:(backTo pos2 (starEach [b,c] X.env)).any (·.1)=false:=by rfl) :
  DN X (.Call (.Name "list" p) [.Call (.Name "range" p2) [a,b,c] [] pos2] [] pos) (KF fa) :=
 yP (wm (T:="list") (ZA hc) hg hm (by rfl) (wK (wm (T:="range") JW hg2 hm2 qf ha (by decide) (by decide) he2 hpl2) u4 he) (by decide) (by decide) he hpl) fun σ H Q zz=>by
  obtain ⟨H₀,Hf₀,ρ,Hf,d,R,q,k⟩:=zz
  obtain ⟨l,e1,e2⟩:=yj q
  refine ⟨H₀,Hf₀,ρ,Hf,l,R,e1,fun vs H1 Hf1 R1 s1 t1 h1=>?_⟩
  split at e2
  ·rename_i i j c
   split at e2
   ·rename_i hok
    cases e2
    unfold Ck at hok
    simp only [g1p,decide_eq_true_eq,Bool.not_eq_true'] at hok
    obtain ⟨⟨⟨⟨k1,k2⟩,k3⟩,k4⟩,k5⟩:=hok
    obtain ⟨x,y,z,rfl,hx,hy,hz⟩:=qR.three h1
    refine ⟨i,j,c,by rw [hx.int,hy.int,hz.int],k1,k2,fun p hp=>?_⟩
    refine ⟨p,i,j,c,(Builtin.Range.rangeSize i j c).toNat,rfl,zq,k3,by omega,by omega,fun l' hl'=>?_⟩
    have s2:yf H1 (upd H1 p (.ext (DH i j c p))):=zI hp
    have R2:=R1.layN (o:=.ext (DH i j c p)) hp
    exact k _ _ _ _ (R2.layN hl') ((s1.trans s2).trans (zI hl')) t1 (Jc i c _) zq (R2.sf.free hl') ((s1.trans s2).free hl')
   ·cases e2
  ·cases e2
end
section
variable {X:Cx} {pos:Pos} {kk:Nat}
def putAll (jx i0:Nat):List D->Rho->Option Rho
 | [],ρ=>some ρ
 | d :: ds,ρ=>match ρ[i0]? with
  | some (.oX (n+1) ks)=>if n<=3/\ks.length < sizeLine/\jx < ρ.length then (asK (n+1) d).bind fun k=>putAll jx i0 ds ((ρ.set jx (.fr d)).set i0 (.oX (n+1) (if k∈ks then ks else ks++[k]))) else none
  | _=>none
def jj (jx j i0:Nat):FS:=fun ρ=>match ρ[j]? with
 | some (.ol ds)=>(putAll jx i0 ds ρ).bind fun ρ'=>some (.nx ρ')
 | _=>none
theorem Jw {x y z:Str} {p1 p2 p3 p4 sp pos2:Pos} {value:Expr} (jx j i0:Nat) (hr:Room kk X.A) (hp:PassesOwn (model X.prog X.w) X.A X.env X.xe) (hc:X.calm=true) (hNd:X.N.Nodup) (hv:DE X value (cF (.bl true)))
  (hne:jx≠j/\jx≠i0/\i0≠j:=by decide)
  (hN:X.N[jx]? = some x:=by rfl) (hx:Loc X.env.scope x:=by first | exact Or.inl rfl | exact Or.inr rfl) (hf:X.fn x=true\/X.env.scope.names.lookup x=some .local:=by first | exact .inl rfl | exact .inr rfl | assumption)
  (hvis:Vis X.env.scope x:=by first | exact Or.inl rfl | exact Or.inr (Or.inl rfl) | exact Or.inr (Or.inr rfl)) (hd:(x==("__debug__":Str))=false:=by decide) (hcd:(x==("__classdict__":Str))=false:=by decide)
  (hN2:X.N[j]? = some y:=by rfl) (hvis2:Vis X.env.scope y:=by first | exact Or.inl rfl | exact Or.inr (Or.inl rfl) | exact Or.inr (Or.inr rfl)) (hd2:(y==("__debug__":Str))=false:=by decide) (hcd2:(y==("__classdict__":Str))=false:=by decide)
  (hN3:X.N[i0]? = some z:=by rfl) (hvis3:Vis X.env.scope z:=by first | exact Or.inl rfl | exact Or.inr (Or.inl rfl) | exact Or.inr (Or.inr rfl)) (hd3:(z==("__debug__":Str))=false:=by decide) (hcd3:(z==("__classdict__":Str))=false:=by decide)
  (hs:swapsWith value (some (.Subscript (.Name z p3) (.Name x p4) sp)) pos2.line X.env=pure false:=by rfl) (hfs:∀ u,foldedSetIterable (.Name y p2) X.env u=pure u:=by intro _; rfl) :
  DS X (.For (.Name x p1) (.Name y p2) [.Assign [.Subscript (.Name z p3) (.Name x p4) sp] value pos2] [] pos) (jj jx j i0) :=
 wj (Qn hp hc (BO (uj hN2 hvis2 hd2 hcd2)) (Qs hNd hN hx hf) (Ql (Qm (by have:=hr.un; omega) (uj hN3 hvis3 hd3 hcd3) (uj hN hvis hd hcd) hv hs)) hfs) fun D' σ H zz=>by
  obtain ⟨H₀,Hf₀,ρ,Hf,o,R,q,k⟩:=zz
  unfold jj at q
  split at q
  ·rename_i ds el
   obtain ⟨ρe,e0,q⟩:=g1j.mp q
   cases q
   obtain ⟨a,p1,⟨xs0,p2,p3⟩,_⟩:=R.ow j _ el rfl
   refine ⟨_,p1,a,rfl,⟨xs0,SqL.of p2⟩,?_⟩
   refine ⟨fun i m σ H=>m=ds.length - i/\i<=ds.length/\∃ ρ' Hf',Rep X.K H₀ Hf₀ σ ρ' H Hf'/\yf Hf Hf'/\putAll jx i0 (ds.drop i) ρ'=some ρe/\σ[j]? = some (some (.ref a))/\ρ'[j]? = some (.ol ds),⟨ds.length,by simp,g1z _,ρ,Hf,R,zA,by simpa using e0,p1,el⟩,?_⟩
   rintro i m σ2 H2 ⟨rfl,hi,ρ2,Hf2,R2,t2,e2,hσ,hρ⟩
   obtain ⟨a',r1,⟨xs,r2,r3⟩,_⟩:=R2.ow j _ hρ rfl
   rw [hσ] at r1; cases r1
   have hlen:=r3.length
   by_cases hil:i < ds.length
   ·right
    obtain ⟨v,gv,hasv⟩:=r3.get (g0p hil)
    refine ⟨⟨xs,v,SqL.of r2,gv⟩,?_⟩
    refine ⟨fun σ' H'=>∃ ρ' Hf',Rep X.K H₀ Hf₀ σ' ρ' H' Hf'/\yf Hf Hf'/\putAll jx i0 (ds.drop (i+1)) ρ'=some ρe/\σ'[j]? = some (some (.ref a))/\ρ'[j]? = some (.ol ds),?_,?_⟩
    ·rintro σ' H' ⟨ρ',Hf',R',t',e',s',l'⟩
     exact ⟨ds.length - (i+1),by omega,rfl,hil,ρ',Hf',R',t',e',s',l'⟩
    ·rintro u H3 ⟨rfl,hu⟩
     have eu:=hu xs (SqL.of r2)
     rw [gv] at eu
     cases eu
     have R3:=R2.set jx hasv
     rw [g2f hil] at e2
     unfold putAll at e2
     generalize es:ρ2[i0]? = sl at e2
     split at e2
     ·rename_i n ks
      split at e2
      ·rename_i hz
       obtain ⟨k',e3,e2⟩:=g1j.mp e2
       have es3:(ρ2.set jx (.fr ds[i]))[i0]? = some (.oX (n+1) ks):=by rw [g2y hne.2.1]; exact es
       have hj3:(ρ2.set jx (.fr ds[i]))[j]? = some (.ol ds):=by rw [g2y hne.1]; exact hρ
       have hσ3:(σ2.set jx (some v))[j]? = some (some (.ref a)):=by rw [g2y hne.1]; exact hσ
       have hjl:jx < σ2.length:=by rw [<- R2.len]; exact hz.2.2
       obtain ⟨b,q1,_⟩:=R3.ow i0 _ es3 rfl
       refine ⟨H₀,Hf₀,_,Hf2,_,R3,rfl,fun v1 H4 Hf4 R4 s4 t4 h4=>⟨_,q1,v,by rw [List.getElem?_set_self hjl],?_⟩⟩
       obtain ⟨b',w1,⟨ys,w2,w3,w4⟩,_⟩:=R4.ow i0 _ es3 rfl
       rw [q1] at w1; cases w1
       have hk:=(hasv.mono t4)
       rw [jZ (n+1) _ k' e3] at hk
       obtain ⟨c,zs,rfl,_⟩:=Has.tup_iff.mp hk
       have hlen':ys.length=ks.length:=by rw [<- w3,g0f]
       refine ⟨b,c,n,ys,k',hz.1,Has.bl_iff.mp h4,rfl,rfl,w2,fun x hx=>(w4 x hx).mono R4.sf,hk.mono R4.sf,by omega,?_⟩
       have R5:=R4.updOwn (sl':=.oX (n+1) (if k'∈ks then ks else ks++[k'])) (o:=.ext (Zp (n+1) (if k'∈ys.map (·.1) then ys else ys++[(k',c)]) b)) es3 rfl q1 rfl ⟨_,zq,by
        rw [w3]
        split
        ·exact w3
        ·rw [g0y,w3]
         rfl,fun x hx=>by
        split at hx
        ·exact w4 x hx
        ·rcases g1o.mp hx with hx | hx
         ·exact w4 x hx
         ·have ex:x=(k',c):=by simpa using hx
          subst ex
          exact hk⟩
       refine ⟨_,Hf4,R5,t2.trans t4,e2,hσ3,?_⟩
       rw [g2y (hne.2.2)]
       exact hj3
      ·cases e2
     ·cases e2
   ·left
    have:ds.drop i=[]:=g2s (by omega)
    rw [this] at e2
    cases e2
    exact ⟨⟨xs,SqL.of r2,by omega⟩,k _ _ _ R2 t2⟩
  ·cases q
end
end FL
namespace M02
def jL (n:Int):Int:=if 0 < n then 1 else if n < 0 then -1 else 0
def N (a b:Int):Int:=a * a+a * b - b * b
def sgn (a b:Int):Int:=if 0<=jL a * jL b then jL (jL a+jL b) else jL a * jL (a * a+a * b - b * b)
def absI (i:Int):Int:=if i < 0 then -i else i
def lawSgn (a b:Int):Int:=if (2 * a+b=0/\b=0) then 0 else if 0 < (2 * a+b) * absI (2 * a+b)+5 * b * absI b then 1 else 0 - 1
theorem qi {n:Int} (h:0 < n):jL n=1:=by unfold jL; rw [if_pos h]
theorem qj {n:Int} (h:n < 0):jL n = -1:=by unfold jL; rw [if_neg (by omega),if_pos h]
theorem qT (n:Int):(0 < n/\jL n=1)\/(n < 0/\jL n = -1)\/(n=0/\jL n=0):=by
 rcases Int.lt_trichotomy n 0 with h | h | h
 ·exact .inr (.inl ⟨h,qj h⟩)
 ·subst h; exact .inr (.inr ⟨rfl,rfl⟩)
 ·exact .inl ⟨h,qi h⟩
theorem Nj (x y:Int):N (2 * x) (2 * y)=4 * N x y:=by
 unfold N
 have e1:2 * x * (2 * x)=4 * (x * x):=by rw [Int.mul_assoc,Int.mul_left_comm x 2 x,<- Int.mul_assoc]; rfl
 have e2:2 * x * (2 * y)=4 * (x * y):=by rw [Int.mul_assoc,Int.mul_left_comm x 2 y,<- Int.mul_assoc]; rfl
 have e3:2 * y * (2 * y)=4 * (y * y):=by rw [Int.mul_assoc,Int.mul_left_comm y 2 y,<- Int.mul_assoc]; rfl
 rw [e1,e2,e3]
 omega
theorem Xh {a b:Int} (ha:a % 2=1) (hb:b % 2=1):(a * b) % 2=1:=by rw [Int.mul_emod,ha,hb]; rfl
theorem Jq {a:Int} (b:Int) (ha:a % 2=0):(a * b) % 2=0:=by rw [Int.mul_emod,ha]; simp
theorem MN (a:Int) {b:Int} (hb:b % 2=0):(a * b) % 2=0:=by rw [Int.mul_emod,hb]; simp
theorem UU:∀ (n:Nat) (a b:Int),a.natAbs+b.natAbs=n->N a b=0->a=0/\b=0:=by
 intro n
 induction n using Nat.strongRecOn with
 | ind n ih =>
  intro a b hn h
  have h':a * a+a * b - b * b=0:=h
  have pa:a % 2=0\/a % 2=1:=by omega
  have pb:b % 2=0\/b % 2=1:=by omega
  rcases pa with pa | pa <;> rcases pb with pb | pb
  ·by_cases h0:a=0/\b=0
   ·exact h0
   ·obtain ⟨x,rfl⟩:∃ x,a=2 * x:=⟨a / 2,by omega⟩
    obtain ⟨y,rfl⟩:∃ y,b=2 * y:=⟨b / 2,by omega⟩
    have hN:=Nj x y
    rw [h] at hN
    have:=ih (x.natAbs+y.natAbs) (by omega) x y rfl (by omega)
    omega
  ·have e1:=Jq a pa
   have e2:=Jq b pa
   have e3:=Xh pb pb
   omega
  ·have e1:=Xh pa pa
   have e2:=MN a pb
   have e3:=Jq b pb
   omega
  ·have e1:=Xh pa pa
   have e2:=Xh pa pb
   have e3:=Xh pb pb
   omega
theorem Ni {a b:Int} (h:N a b=0):a=0/\b=0:=UU _ a b rfl h
def Pos (a b:Int):Prop:=(0<=a/\0<=b/\(0 < a\/0 < b))\/(0 < a/\b < 0/\0 < N a b)\/(a < 0/\0 < b/\N a b < 0)
theorem Hd (a b:Int):N (-a) (-b)=N a b:=by unfold N; rw [Int.neg_mul_neg,Int.neg_mul_neg,Int.neg_mul_neg]
theorem sgn_pos {a b:Int} (h:Pos a b):sgn a b=1:=by
 unfold sgn
 rcases h with ⟨h1,h2,h3⟩ | ⟨h1,h2,h3⟩ | ⟨h1,h2,h3⟩
 ·rcases qT a with ⟨p,e⟩ | ⟨p,e⟩ | ⟨p,e⟩ <;> rcases qT b with ⟨p',e'⟩ | ⟨p',e'⟩ | ⟨p',e'⟩ <;> rw [e,e'] <;> first | rfl | omega
 ·rw [qi h1,qj h2]
  have:a * a+a * b - b * b > 0:=h3
  rw [if_neg (by decide),qi this]; rfl
 ·rw [qj h1,qi h2]
  have:a * a+a * b - b * b < 0:=h3
  rw [if_neg (by decide),qj this]; rfl
theorem Z3 (n:Int):jL (-n) = -jL n:=by
 rcases qT n with ⟨p,e⟩ | ⟨p,e⟩ | ⟨p,e⟩
 ·rw [e,qj (by omega)]
 ·rw [e,qi (by omega)]; rfl
 ·subst p; rfl
theorem sgn_opp (a b:Int):sgn (-a) (-b) = -sgn a b:=by
 unfold sgn
 have e : -a * -a + -a * -b - -b * -b=a * a+a * b - b * b:=Hd a b
 rw [e,Z3 a,Z3 b]
 have e2 : -jL a * -jL b=jL a * jL b:=Int.neg_mul_neg _ _
 rw [e2]
 have e3 : -jL a + -jL b = -(jL a+jL b):=by omega
 rw [e3,Z3]
 split
 ·rfl
 ·exact Int.neg_mul _ _
theorem pos_cases (a b:Int):(a=0/\b=0)\/Pos a b\/Pos (-a) (-b):=by
 by_cases h0:a=0/\b=0
 ·exact .inl h0
 ·right
  have hN:N a b≠0:=fun h=>h0 (Ni h)
  by_cases ha:0<=a
  ·by_cases hb:0<=b
   ·exact .inl (.inl ⟨ha,hb,by omega⟩)
   ·by_cases a0:a=0
    ·exact .inr (.inl ⟨by omega,by omega,.inr (by omega)⟩)
    ·rcases Int.lt_or_lt_of_ne hN with hn | hn
     ·exact .inr (.inr (.inr ⟨by omega,by omega,by rw [Hd]; exact hn⟩))
     ·exact .inl (.inr (.inl ⟨by omega,by omega,hn⟩))
  ·by_cases hb:0 < b
   ·rcases Int.lt_or_lt_of_ne hN with hn | hn
    ·exact .inl (.inr (.inr ⟨by omega,hb,hn⟩))
    ·exact .inr (.inr (.inl ⟨by omega,by omega,by rw [Hd]; exact hn⟩))
   ·exact .inr (.inl ⟨by omega,by omega,.inl (by omega)⟩)
theorem N_g (a b:Int):N b (a+b) = -N a b:=by
 unfold N
 have e1:b * (a+b)=a * b+b * b:=by rw [Int.mul_add,Int.mul_comm b a]
 have e2:(a+b) * (a+b)=a * a+2 * (a * b)+b * b:=by rw [Int.add_mul,Int.mul_add,Int.mul_add,Int.mul_comm b a]; omega
 rw [e1,e2]; omega
theorem YR {a b:Int} (h1:0 < a) (h2:a+b<=0):N a b < 0:=by
 unfold N
 have e:a * a+a * b=a * (a+b):=by rw [Int.mul_add]
 have l1:a * (a+b)<=0:=Int.mul_nonpos_of_nonneg_of_nonpos (by omega) h2
 have l2:0 < b * b:=Int.mul_pos_of_neg_of_neg (by omega) (by omega)
 omega
theorem Hc {a b:Int} (h1:a < 0) (h2:0<=a+b) (h3:0 < b):N a b < 0:=by
 have:=YR (a := -a) (b := -b) (by omega) (by omega)
 rwa [Hd] at this
theorem N2 {a b:Int}:Pos a b↔Pos b (a+b):=by
 unfold Pos
 rw [N_g]
 constructor
 ·rintro (⟨h1,h2,h3⟩ | ⟨h1,h2,h3⟩ | ⟨h1,h2,h3⟩)
  ·exact .inl ⟨h2,by omega,by omega⟩
  ·by_cases h:a+b<=0
   ·have:=YR h1 h; omega
   ·exact .inr (.inr ⟨h2,by omega,by omega⟩)
  ·by_cases h:a+b < 0
   ·exact .inr (.inl ⟨h2,h,by omega⟩)
   ·exact .inl ⟨by omega,by omega,by omega⟩
 ·rintro (⟨h1,h2,h3⟩ | ⟨h1,h2,h3⟩ | ⟨h1,h2,h3⟩)
  ·by_cases h:0<=a
   ·exact .inl ⟨h,h1,by omega⟩
   ·exact .inr (.inr ⟨by omega,by omega,Hc (by omega) h2 (by omega)⟩)
  ·exact .inr (.inr ⟨by omega,h1,by omega⟩)
  ·exact .inr (.inl ⟨by omega,h1,by omega⟩)
def gpow:Nat->Int×Int->Int×Int
 | 0,x=>x
 | n+1,x=>gpow n (x.2,x.1+x.2)
theorem pos_gpow:∀ (n:Nat) (x:Int×Int),Pos x.1 x.2↔Pos (gpow n x).1 (gpow n x).2
 | 0,x=>Iff.rfl
 | n+1,x=>(N2 (a:=x.1) (b:=x.2)).trans (pos_gpow n (x.2,x.1+x.2))
def Cone (x:Int×Int):Prop:=0<=x.1/\0<=x.2/\(0 < x.1\/0 < x.2)
theorem cone_pos {x:Int×Int} (h:Cone x):Pos x.1 x.2:=.inl h
theorem gpow_add (m:Nat):∀ (n:Nat) (x:Int×Int),gpow m (gpow n x)=gpow (n+m) x
 | 0,x=>by rw [g3d]; rfl
 | n+1,x=>by rw [Nat.succ_add]; exact gpow_add m n _
theorem j8:∀ (k:Nat) (a b:Int),a.natAbs<=k->0 < a->b < 0->0 < N a b->∃ n,Cone (gpow n (a,b)):=by
 intro k
 induction k with
 | zero=>intro a b h1 h2; omega
 | succ k ih =>
  intro a b h1 h2 h3 h4
  have hs:0 < a+b:=by
   by_cases h:a+b<=0
   ·have:=YR h2 h; omega
   ·omega
  by_cases hc:0<=a+2 * b
  ·exact ⟨2,(show (0:Int)<=a+b by omega),(show (0:Int)<=b+(a+b) by omega),.inl hs⟩
  ·have hN:N (a+b) (b+(a+b))=N a b:=by rw [N_g,N_g]; omega
   obtain ⟨n,hn⟩:=ih (a+b) (b+(a+b)) (by omega) hs (by omega) (by omega)
   exact ⟨n+2,hn⟩
theorem to_cone {a b:Int} (h:Pos a b):∃ n,Cone (gpow n (a,b)):=by
 rcases h with h | ⟨h1,h2,h3⟩ | ⟨h1,h2,h3⟩
 ·exact ⟨0,h⟩
 ·exact j8 _ a b (g0q _) h1 h2 h3
 ·by_cases h:0<=a+b
  ·exact ⟨1,(show (0:Int)<=b by omega),h,.inl h2⟩
  ·obtain ⟨n,hn⟩:=j8 _ b (a+b) (g0q _) h2 (by omega) (by rw [N_g]; omega)
   exact ⟨n+1,hn⟩
def mulG (x y:Int×Int):Int×Int:=(x.1 * y.1+x.2 * y.2,x.1 * y.2+x.2 * y.1+x.2 * y.2)
theorem Mb (x y:Int×Int):mulG (x.2,x.1+x.2) y=((mulG x y).2,(mulG x y).1+(mulG x y).2):=by
 unfold mulG
 simp only [Int.add_mul,Prod.mk.injEq]
 omega
theorem Xk (x y:Int×Int):mulG x y=mulG y x:=by
 unfold mulG
 have e1:=Int.mul_comm x.1 y.1
 have e2:=Int.mul_comm x.2 y.2
 have e3:=Int.mul_comm x.1 y.2
 have e4:=Int.mul_comm x.2 y.1
 simp only [Prod.mk.injEq]
 omega
theorem kr:∀ (n:Nat) (x y:Int×Int),mulG (gpow n x) y=gpow n (mulG x y)
 | 0,_,_=>rfl
 | n+1,x,y=>by
  show mulG (gpow n (x.2,x.1+x.2)) y=gpow n ((mulG x y).2,(mulG x y).1+(mulG x y).2)
  rw [kr n,Mb]
theorem G3 {x y:Int×Int} (hx:Cone x) (hy:Cone y):Cone (mulG x y):=by
 obtain ⟨x1,x2,x3⟩:=hx
 obtain ⟨y1,y2,y3⟩:=hy
 have m1:=Int.mul_nonneg x1 y1
 have m2:=Int.mul_nonneg x2 y2
 have m3:=Int.mul_nonneg x1 y2
 have m4:=Int.mul_nonneg x2 y1
 refine ⟨show (0:Int)<=x.1 * y.1+x.2 * y.2 by omega,show (0:Int)<=x.1 * y.2+x.2 * y.1+x.2 * y.2 by omega,?_⟩
 show 0 < x.1 * y.1+x.2 * y.2\/0 < x.1 * y.2+x.2 * y.1+x.2 * y.2
 rcases x3 with x3 | x3 <;> rcases y3 with y3 | y3
 ·have:=Int.mul_pos x3 y3; omega
 ·have:=Int.mul_pos x3 y3; omega
 ·have:=Int.mul_pos x3 y3; omega
 ·have:=Int.mul_pos x3 y3; omega
theorem pos_mul {x y:Int×Int} (hx:Pos x.1 x.2) (hy:Pos y.1 y.2):Pos (mulG x y).1 (mulG x y).2:=by
 obtain ⟨n,hn⟩:=to_cone hx
 obtain ⟨m,hm⟩:=to_cone hy
 have h:=cone_pos (G3 hn hm)
 have e:mulG (gpow n (x.1,x.2)) (gpow m (y.1,y.2))=gpow (m+n) (mulG x y):=by
  rw [kr,Xk,kr,Xk,gpow_add]
 rw [e] at h
 exact (pos_gpow (m+n) (mulG x y)).mpr h
theorem Ze {i:Int} (h:0<=i):absI i=i:=by unfold absI; rw [if_neg (by omega)]
theorem V1 {i:Int} (h:i < 0):absI i = -i:=by unfold absI; rw [if_pos h]
theorem MJ (a b:Int):(2 * a+b) * (2 * a+b) - 5 * b * b=4 * N a b:=by
 unfold N
 have e1:(2 * a+b) * (2 * a+b)=4 * (a * a)+4 * (a * b)+b * b:=by
  rw [Int.add_mul,Int.mul_add,Int.mul_add,Int.mul_assoc,Int.mul_left_comm a 2 a,Int.mul_assoc,Int.mul_comm b (2 * a),Int.mul_assoc]
  omega
 rw [e1,Int.mul_assoc]
 omega
theorem U6 {a:Int} (h:a≠0):0 < a * a:=by
 rcases Int.lt_or_gt_of_ne h with h | h
 ·exact Int.mul_pos_of_neg_of_neg h h
 ·exact Int.mul_pos h h
theorem DZ (a:Int):0<=a * a:=by
 by_cases h:a=0
 ·subst h; decide
 ·exact Int.le_of_lt (U6 h)
theorem Yy {a b:Int} (h:Pos a b):lawSgn a b=1:=by
 unfold lawSgn
 have q:=MJ a b
 have s1:=DZ (2 * a+b)
 have s2:=DZ b
 have e5:5 * b * b=5 * (b * b):=Int.mul_assoc 5 b b
 rcases h with ⟨h1,h2,h3⟩ | ⟨h1,h2,h3⟩ | ⟨h1,h2,h3⟩
 ·rw [if_neg (by omega),Ze h2,Ze (by omega)]
  have s3:0 < (2 * a+b) * (2 * a+b):=U6 (by omega)
  rw [if_pos (by omega)]
 ·have hT:0 < 2 * a+b:=by
   by_cases h:a+b<=0
   ·have:=YR h1 h; omega
   ·omega
  rw [if_neg (by omega),V1 h2,Ze (by omega),Int.mul_neg]
  rw [if_pos (by omega)]
 ·rw [if_neg (by omega),Ze (i:=b) (by omega)]
  by_cases hT:2 * a+b < 0
  ·rw [V1 hT,Int.mul_neg,if_pos (by omega)]
  ·have s3:0 < b * b:=U6 (by omega)
   rw [Ze (by omega),if_pos (by omega)]
theorem UD {a b:Int} (h:¬ (a=0/\b=0)):lawSgn (-a) (-b) = -lawSgn a b:=by
 have absN:∀ i:Int,absI (-i)=absI i:=fun i=>by unfold absI; split <;> split <;> omega
 unfold lawSgn
 have e1:2 * -a + -b = -(2 * a+b):=by omega
 have z1:¬ (-(2 * a+b)=0 /\ -b=0):=by omega
 have z2:¬ ((2 * a+b)=0/\b=0):=by omega
 rw [e1,absN,absN,Int.neg_mul,Int.mul_neg 5 b,Int.neg_mul]
 rw [if_neg z1,if_neg z2]
 have hne:(2 * a+b) * absI (2 * a+b)+5 * b * absI b≠0:=by
  rcases pos_cases a b with h0 | hp | hp
  ·exact absurd h0 h
  ·have:=Yy hp
   unfold lawSgn at this
   rw [if_neg z2] at this
   split at this
   ·omega
   ·omega
  ·have:=Yy hp
   unfold lawSgn at this
   rw [e1,if_neg z1,absN,absN,Int.neg_mul,Int.mul_neg 5 b,Int.neg_mul] at this
   split at this
   ·omega
   ·omega
 split <;> split <;> omega
theorem sgn_law (a b:Int):sgn a b=lawSgn a b:=by
 rcases pos_cases a b with ⟨rfl,rfl⟩ | hp | hp
 ·rfl
 ·rw [sgn_pos hp,Yy hp]
 ·have e1:=sgn_pos hp
  have e2:=Yy hp
  rw [sgn_opp] at e1
  rw [UD (by rintro ⟨rfl,rfl⟩; unfold Pos at hp; omega)] at e2
  omega
end M02
namespace GH
open FL L2
abbrev Gd:=Int×Int
def yu (x y:Gd):Gd:=(x.1+y.1,x.2+y.2)
def yS (x:Gd):Gd:=(-x.1,-x.2)
def yh (x y:Gd):Gd:=(x.1 * y.1+x.2 * y.2,x.1 * y.2+x.2 * y.1+x.2 * y.2)
def gD (x:Gd):D:=.tup [.int x.1,.int x.2]
def vQ (r:List Gd):D:=.tup (r.map gD)
abbrev T3:=Int×Int×Int
def tD (t:T3):D:=.tup [.int t.1,.int t.2.1,.int t.2.2]
def zh (n:Nat) (ts:List T3):D:=.tup [.int n,.lst (ts.map tD)]
def mlo (i j:Int):Int:=if j < i then j else i
def mhi (i j:Int):Int:=if j > i then j else i
theorem Gh (i j:Int):mlo i j=mlo j i:=by unfold mlo; split <;> split <;> omega
theorem Gm (i j:Int):mhi i j=mhi j i:=by unfold mhi; split <;> split <;> omega
def zg:List T3->Int->Int->Int
 | [],_,_=>2
 | t :: ts,i,j=>if t.1=mlo i j/\t.2.1=mhi i j then t.2.2 else zg ts i j
theorem yE (ts:List T3) (i j:Int):zg ts i j=zg ts j i:=by
 induction ts with
 | nil=>rfl
 | cons t ts ih=>unfold zg; rw [Gh,Gm,ih]
def yg (ts:List T3):Prop:=∀ t∈ts,t.2.2=0\/(3<=t.2.2/\t.2.2<=6)
theorem vg {ts:List T3} (h:yg ts) (i j:Int):zg ts i j=0\/(2<=zg ts i j/\zg ts i j<=6):=by
 induction ts with
 | nil=>simp [zg]
 | cons t ts ih =>
  unfold zg
  split
  ·have:=h t g0i; omega
  ·exact ih fun t ht=>h t (g0m _ ht)
def zS (m:Int) (less:Bool):Gd :=
 if m=0 then (-2,0) else if m=2 then (0,0) else if m=3 then (-1,0) else if m=4 then (if less then (-2,0) else (-1,0)) else if m=5 then (0,-1) else (if less then (-3,0) else (-1,0))
def jc (ts:List T3) (i j:Int):Gd:=if i=j then (2,0) else zS (zg ts i j) (decide (i < j))
theorem Wl (m:Int) (b:Bool) : -3<=(zS m b).1/\(zS m b).1<=2 /\ -1<=(zS m b).2/\(zS m b).2<=0:=by
 unfold zS
 repeat' split
 all_goals decide
theorem ki (ts:List T3) (i j:Int) : -3<=(jc ts i j).1/\(jc ts i j).1<=2 /\ -1<=(jc ts i j).2/\(jc ts i j).2<=0:=by
 unfold jc
 split
 ·decide
 ·exact Wl _ _
def y6 (A:Nat->Gd):Nat->List Gd->Gd->Gd
 | _,[],acc=>acc
 | k,x :: r,acc=>y6 A (k+1) r (yu acc (yh (A k) x))
def xq (A:Nat->Gd) (i:Nat) (r:List Gd):List Gd:=r.set i (yu (r.getD i (0,0)) (yS (y6 A 0 r (0,0))))
theorem yc (A:Nat->Gd) (i:Nat) (r:List Gd):(xq A i r).length=r.length:=by simp [xq]
def zO (A:Nat->Nat->Gd) (w:List Nat) (r:List Gd):List Gd:=w.foldr (fun i r=>xq (A i) i r) r
theorem zp (A:Nat->Nat->Gd) (w:List Nat) (r:List Gd):(zO A w r).length=r.length:=by
 induction w with
 | nil=>rfl
 | cons i w ih=>show (xq (A i) i (zO A w r)).length=_; rw [yc,ih]
theorem yx (A:Nat->Nat->Gd) (u v:List Nat) (r:List Gd):zO A (u++v) r=zO A u (zO A v r):=by simp [zO]
def zE (n i:Nat):List Gd:=(g0t n).map fun j=>if j=i then (1,0) else (0,0)
theorem ze (n i:Nat):(zE n i).length=n:=by simp [zE]
def zc (ts:List T3):Nat->Nat->Gd:=fun i j=>jc ts (i:Int) (j:Int)
theorem Ji (x y:Gd):yu x y=yu y x:=by simp [yu,Int.add_comm]
theorem vI (x y z:Gd):yu (yu x y) z=yu x (yu y z):=by simp [yu,Int.add_assoc]
theorem wq (x:Gd):yu x (0,0)=x:=by simp [yu]
theorem xM (x:Gd):yu (0,0) x=x:=by simp [yu]
theorem kI (x:Gd):yS (yS x)=x:=by simp [yS]
theorem Xz (x y:Gd):yS (yu x y)=yu (yS x) (yS y):=by simp [yu,yS]; omega
theorem GK (x y z:Gd):yh x (yu y z)=yu (yh x y) (yh x z):=by simp only [yh,yu,Int.mul_add,Prod.mk.injEq]; omega
theorem GJ (x y:Gd):yh x (yS y)=yS (yh x y):=by simp only [yh,yS,Int.mul_neg,Prod.mk.injEq]; omega
theorem GI (y:Gd):yh (2,0) y=yu y y:=by simp only [yh,yu,Int.zero_mul,Prod.mk.injEq]; omega
theorem xA (A:Nat->Gd):∀ (r:List Gd) (k:Nat) (acc:Gd),y6 A k r acc=yu acc (y6 A k r (0,0))
 | [],k,acc=>by simp [y6,wq]
 | x :: r,k,acc=>by
  unfold y6
  rw [xA A r (k+1) (yu acc _),xA A r (k+1) (yu (0,0) _),xM,vI]
theorem Yb (A:Nat->Gd):∀ (r:List Gd) (k i:Nat) (y:Gd),i < r.length->y6 A k (r.set i (yu (r.getD i (0,0)) y)) (0,0)=yu (y6 A k r (0,0)) (yh (A (k+i)) y)
 | [],_,_,_,h=>by simp at h
 | x :: r,k,0,y,h=>by
  simp only [g0j,List.getD_cons_zero,y6,xM,Nat.add_zero]
  rw [xA A r (k+1) (yh (A k) x),xA A r (k+1) (yh (A k) (yu x y)),GK,vI,Ji (yh (A k) y),<- vI]
 | x :: r,k,i+1,y,h=>by
  simp only [g0k,g3q,y6,xM]
  rw [xA A r (k+1) (yh (A k) x),xA A _ (k+1) (yh (A k) x),Yb A r (k+1) i y (by simpa using h),vI]
  congr 4
  omega
theorem ku {A:Nat->Gd} {i:Nat} (h:A i=(2,0)) (r:List Gd) (hi:i < r.length):xq A i (xq A i r)=r:=by
 unfold xq
 have hs:=Yb A r 0 i (yS (y6 A 0 r (0,0))) hi
 rw [hs,g3d,h,GI,List.set_set]
 have hg:(r.set i (yu (r.getD i (0,0)) (yS (y6 A 0 r (0,0))))).getD i (0,0)=yu (r.getD i (0,0)) (yS (y6 A 0 r (0,0))):=by simp [g0d,hi]
 rw [hg]
 generalize y6 A 0 r (0,0)=S
 have e:yu (yu (r.getD i (0,0)) (yS S)) (yS (yu S (yu (yS S) (yS S))))=r.getD i (0,0):=by
  simp only [yu,yS]
  refine Prod.ext ?_ ?_ <;> simp only [] <;> omega
 rw [e]
 apply List.ext_getElem?
 intro k
 rw [g1m]
 by_cases hk:i=k
 ·subst hk
  simp [hi,g0d]
 ·rw [if_neg hk]
theorem wO {A:Nat->Nat->Gd} (h:∀ i,A i i=(2,0)):∀ (w:List Nat) (r:List Gd),(∀ i∈w,i < r.length)->zO A w.reverse (zO A w r)=r
 | [],r,_=>rfl
 | i :: w,r,hw=>by
  rw [g3c,yx]
  show zO A w.reverse (xq (A i) i (xq (A i) i (zO A w r)))=r
  rw [ku (h i) _ (by rw [zp]; exact hw i g0i)]
  exact wO h w r fun j hj=>hw j (g0m _ hj)
theorem zH (ts:List T3) (i:Nat):zc ts i i=(2,0):=by simp [zc,jc]
def X6 (x:Gd):Int:=M02.sgn x.1 x.2
def Bnd (B:Nat) (r:List Gd):Prop:=∀ x∈r,x.1.natAbs<=B/\x.2.natAbs<=B
theorem Vk {p x:Int} {c B:Nat} (hp:p.natAbs<=c) (hx:x.natAbs<=B):(p * x).natAbs<=c * B:=by
 rw [Int.natAbs_mul]
 exact Nat.mul_le_mul hp hx
theorem CW {p x:Gd} {B:Nat} (hp : -3<=p.1/\p.1<=2 /\ -1<=p.2/\p.2<=0) (hx:x.1.natAbs<=B/\x.2.natAbs<=B):(yh p x).1.natAbs<=5 * B/\(yh p x).2.natAbs<=5 * B:=by
 have p1:p.1.natAbs<=3:=by omega
 have p2:p.2.natAbs<=1:=by omega
 have a:=Vk p1 hx.1
 have b:=Vk p2 hx.2
 have c:=Vk p1 hx.2
 have d:=Vk p2 hx.1
 constructor
 ·show (p.1 * x.1+p.2 * x.2).natAbs<=5 * B
  omega
 ·show (p.1 * x.2+p.2 * x.1+p.2 * x.2).natAbs<=5 * B
  omega
theorem U1 {A:Nat->Gd} (hA:∀ k,-3<=(A k).1/\(A k).1<=2 /\ -1<=(A k).2/\(A k).2<=0) {B:Nat}:∀ (r:List Gd) (k:Nat),Bnd B r->(y6 A k r (0,0)).1.natAbs<=5 * B * r.length/\(y6 A k r (0,0)).2.natAbs<=5 * B * r.length
 | [],k,_=>by simp [y6]
 | x :: r,k,h=>by
  unfold y6
  rw [xA,xM]
  have a:=CW (hA k) (h x g0i)
  have b:=U1 hA r (k+1) fun y hy=>h y (g0m _ hy)
  have e:5 * B * (x :: r).length=5 * B * r.length+5 * B:=by rw [g0e,Nat.mul_succ]
  rw [e]
  constructor
  ·show ((yh (A k) x).1+(y6 A (k+1) r (0,0)).1).natAbs<=_
   omega
  ·show ((yh (A k) x).2+(y6 A (k+1) r (0,0)).2).natAbs<=_
   omega
theorem CY {B:Nat} {r:List Gd} (h:Bnd B r) (i:Nat):(r.getD i (0,0)).1.natAbs<=B/\(r.getD i (0,0)).2.natAbs<=B:=by
 rw [g0d]
 cases e:r[i]? with
 | none=>simp
 | some x=>exact h x (g1y e)
theorem Cy {A:Nat->Gd} (hA:∀ k,-3<=(A k).1/\(A k).1<=2 /\ -1<=(A k).2/\(A k).2<=0) {B:Nat} {r:List Gd} (i:Nat) (h:Bnd B r) (hl:r.length<=6):Bnd (B * 32) (xq A i r):=fun x hx=>by
 unfold xq at hx
 rcases List.mem_or_eq_of_mem_set hx with hx | rfl
 ·have:=h x hx; omega
 ·have a:=U1 hA r 0 h
  have b:=CY h i
  have c:5 * B * r.length<=5 * B * 6:=Nat.mul_le_mul_left _ hl
  constructor
  ·show ((r.getD i (0,0)).1 + -(y6 A 0 r (0,0)).1).natAbs<=_
   omega
  ·show ((r.getD i (0,0)).2 + -(y6 A 0 r (0,0)).2).natAbs<=_
   omega
theorem QV {ts:List T3} {B:Nat} {r:List Gd} (h:Bnd B r) (hl:r.length<=6):∀ w:List Nat,Bnd (B * 32 ^ w.length) (zO (zc ts) w r)
 | []=>by simpa [zO] using h
 | i :: w=>by
  have ih:=QV (ts:=ts) h hl w
  have:=Cy (A:=zc ts i) (fun k=>ki ts i k) i ih (by rw [zp]; exact hl)
  show Bnd _ (xq (zc ts i) i (zO (zc ts) w r))
  rw [g0e,Nat.pow_succ,<- Nat.mul_assoc]
  exact this
theorem Bm (n i:Nat):Bnd 1 (zE n i):=fun x hx=>by
 unfold zE at hx
 obtain ⟨j,_,rfl⟩:=g1i.mp hx
 split <;> decide
end GH
namespace GH
theorem ZU (x y z:Gd):yh (yh x y) z=yh x (yh y z):=by simp only [yh,Prod.mk.injEq]; constructor <;> grind
theorem Jf (x y:Gd):yh x y=yh y x:=by simp only [yh,Prod.mk.injEq]; constructor <;> grind
def jK (i:Nat) (p:Gd) (r:List Gd):List Gd:=r.set i (yu (r.getD i (0,0)) p)
theorem xk (i:Nat) (p:Gd) (r:List Gd):(jK i p r).length=r.length:=by simp [jK]
theorem qM {i:Nat} (p q:Gd) {r:List Gd} (h:i < r.length):jK i p (jK i q r)=jK i (yu q p) r:=by
 unfold jK
 have:(r.set i (yu (r.getD i (0,0)) q)).getD i (0,0)=yu (r.getD i (0,0)) q:=by simp [g0d,h]
 rw [this,List.set_set,vI]
theorem XU {i j:Nat} (hij:i≠j) (p q:Gd) (r:List Gd):jK i p (jK j q r)=jK j q (jK i p r):=by
 unfold jK
 have e1:(r.set j (yu (r.getD j (0,0)) q)).getD i (0,0)=r.getD i (0,0):=by simp [g0d,g1m,Ne.symm hij]
 have e2:(r.set i (yu (r.getD i (0,0)) p)).getD j (0,0)=r.getD j (0,0):=by simp [g0d,g1m,hij]
 rw [e1,e2,List.set_comm _ _ hij]
theorem vc (A:Nat->Gd) {i:Nat} (p:Gd) {r:List Gd} (h:i < r.length):y6 A 0 (jK i p r) (0,0)=yu (y6 A 0 r (0,0)) (yh (A i) p):=by
 have:=Yb A r 0 i p h
 rw [g3d] at this
 exact this
theorem qz (A:Nat->Gd) (i:Nat) (r:List Gd):xq A i r=jK i (yS (y6 A 0 r (0,0))) r:=rfl
theorem qL {i:Nat} {r:List Gd} (h:i < r.length):jK i (0,0) r=r:=by
 unfold jK
 rw [wq]
 apply List.ext_getElem?
 intro k
 rw [g1m]
 split
 ·next e=>subst e; simp [h,g0d]
 ·rfl
abbrev Fm:=Gd×Gd
def ev (f:Fm) (x y:Gd):Gd:=yu (yh f.1 x) (yh f.2 y)
def GP (f g:Fm):Fm:=(yu f.1 g.1,yu f.2 g.2)
def X8 (f:Fm):Fm:=(yS f.1,yS f.2)
def fsc (c:Gd) (f:Fm):Fm:=(yh c f.1,yh c f.2)
theorem jA (f g:Fm) (x y:Gd):ev (GP f g) x y=yu (ev f x y) (ev g x y):=by simp only [ev,GP,yu,yh,Prod.mk.injEq]; constructor <;> grind
theorem um (f:Fm) (x y:Gd):ev (X8 f) x y=yS (ev f x y):=by simp only [ev,X8,yu,yS,yh,Prod.mk.injEq]; constructor <;> grind
theorem GQ (c:Gd) (f:Fm) (x y:Gd):ev (fsc c f) x y=yh c (ev f x y):=by simp only [ev,fsc,yu,yh,Prod.mk.injEq]; constructor <;> grind
theorem Jr (x y:Gd):ev ((0,0),(0,0)) x y=(0,0):=by simp [ev,yu,yh]
structure Tn where
 p:Fm
 q:Fm
 x:Fm
 y:Fm
 deriving DecidableEq
def tn0:Tn:=⟨((0,0),(0,0)),((0,0),(0,0)),((1,0),(0,0)),((0,0),(1,0))⟩
def tnJ (a:Gd) (s:Tn):Tn:=⟨s.p,GP s.q (X8 s.y),GP s.x (fsc a (X8 s.y)),X8 s.y⟩
def tnI (b:Gd) (s:Tn):Tn:=⟨GP s.p (X8 s.x),s.q,X8 s.x,GP s.y (fsc b (X8 s.x))⟩
def tn (a b:Gd):Nat->Tn
 | 0=>tn0
 | k+1=>tnI b (tnJ a (tn a b k))
def Ul (i j:Nat):Nat->List Nat
 | 0=>[]
 | k+1=>i :: j :: Ul i j k
theorem Qx {i j n:Nat} (hi:i < n) (hj:j < n):∀ k,∀ t∈Ul i j k,t < n
 | 0,t,h=>by cases h
 | k+1,t,h=>by
  simp only [Ul,g0o] at h
  rcases h with h | h | h
  ·omega
  ·omega
  ·exact Qx hi hj k t h
theorem Z6 (z:Gd):yu z (yh (2,0) (yS z))=yS z:=by simp only [yu,yh,yS,Prod.mk.injEq]; constructor <;> grind
theorem Md (A:Nat->Nat->Gd) {i j:Nat} (hij:i≠j) (hi2:A i i=(2,0)) (hj2:A j j=(2,0)) {r:List Gd} (hi:i < r.length) (hj:j < r.length) :
  ∀ k:Nat,∃ R,zO A (Ul i j k) r=R/\R=jK i (ev (tn (A i j) (A j i) k).p (y6 (A i) 0 r (0,0)) (y6 (A j) 0 r (0,0))) (jK j (ev (tn (A i j) (A j i) k).q (y6 (A i) 0 r (0,0)) (y6 (A j) 0 r (0,0))) r) ∧
   y6 (A i) 0 R (0,0)=ev (tn (A i j) (A j i) k).x (y6 (A i) 0 r (0,0)) (y6 (A j) 0 r (0,0))/\y6 (A j) 0 R (0,0)=ev (tn (A i j) (A j i) k).y (y6 (A i) 0 r (0,0)) (y6 (A j) 0 r (0,0)):=by
 generalize hx:y6 (A i) 0 r (0,0)=x
 generalize hy:y6 (A j) 0 r (0,0)=y
 intro k
 induction k with
 | zero =>
  refine ⟨r,rfl,?_,?_,?_⟩
  ·simp only [tn,tn0,Jr]
   rw [qL hj,qL hi]
  ·rw [hx]; simp [tn,tn0,ev,yu,yh]
  ·rw [hy]; simp [tn,tn0,ev,yu,yh]
 | succ k ih =>
  obtain ⟨R,h1,h2,h3,h4⟩:=ih
  have htn:tn (A i j) (A j i) (k+1)=tnI (A j i) (tnJ (A i j) (tn (A i j) (A j i) k)):=rfl
  rw [htn]
  generalize tn (A i j) (A j i) k=s at h2 h3 h4
  have hRl:R.length=r.length:=by rw [h2,xk,xk]
  have e1:xq (A j) j R=jK j (ev (X8 s.y) x y) R:=by rw [qz,h4,um]
  have sx1:y6 (A i) 0 (xq (A j) j R) (0,0)=ev (GP s.x (fsc (A i j) (X8 s.y))) x y:=by
   rw [e1,vc (A i) _ (by omega),h3,jA,GQ]
  have sy1:y6 (A j) 0 (xq (A j) j R) (0,0)=ev (X8 s.y) x y:=by
   rw [e1,vc (A j) _ (by omega),h4,hj2,um,Z6]
  have b1:xq (A j) j R=jK i (ev s.p x y) (jK j (ev (GP s.q (X8 s.y)) x y) r):=by
   rw [e1,h2,<- XU hij,qM _ _ hj,jA]
  generalize xq (A j) j R=R1 at sx1 sy1 b1 e1
  have hRl1:R1.length=r.length:=by rw [b1,xk,xk]
  have hk:zO A (Ul i j (k+1)) r=xq (A i) i (xq (A j) j (zO A (Ul i j k) r)):=rfl
  have e2:xq (A i) i R1=jK i (ev (X8 (GP s.x (fsc (A i j) (X8 s.y)))) x y) R1:=by rw [qz,sx1,um]
  refine ⟨xq (A i) i R1,?_,?_,?_,?_⟩
  ·rw [hk,h1,qz (A j),h4,<- um,<- e1]
  ·rw [e2,b1,qM _ _ (by rw [xk]; exact hi),<- jA]
   rfl
  ·rw [e2,vc (A i) _ (by omega),sx1,hi2,um,Z6,<- um]
   rfl
  ·rw [e2,vc (A j) _ (by omega),sy1,<- GQ,<- jA]
   rfl
theorem Ya (A:Nat->Gd) (n i:Nat) (hi:i < n):y6 A 0 (zE n i) (0,0)=A i:=by
 have gen:∀ (m k:Nat) (acc:Gd),y6 A k ((g0t m).map fun t=>if k+t=i then ((1,0):Gd) else (0,0)) acc=if k<=i/\i < k+m then yu acc (A i) else acc:=by
  intro m
  induction m with
  | zero=>intro k acc; simp [y6]; intro h h2; omega
  | succ m ih =>
   intro k acc
   rw [g2l,g0h,g1h]
   have e:((fun t=>if k+t=i then ((1,0):Gd) else (0,0)) ∘ Nat.succ)=fun t=>if (k+1)+t=i then ((1,0):Gd) else (0,0):=by
    funext t
    simp only [Function.comp]
    have:k+t.succ=k+1+t:=by omega
    rw [this]
   rw [e]
   unfold y6
   rw [ih]
   by_cases h:k=i
   ·subst h
    have z:yh (A k) (1,0)=A k:=by simp [yh]
    simp [z]
    omega
   ·have z:yh (A k) (0,0)=(0,0):=by simp [yh]
    simp only [Nat.add_zero,h,if_false,z,wq]
    by_cases h2:k+1<=i/\i < k+1+m
    ·rw [if_pos h2,if_pos (by omega)]
    ·rw [if_neg h2,if_neg (by omega)]
 have:=gen n 0 (0,0)
 simp only [g3d] at this
 unfold zE
 rw [this,if_pos ⟨g1z _,hi⟩,xM]
theorem Vz:∀ (n:Nat) (x y:Int×Int),M02.gpow n (x.1+y.1,x.2+y.2)=((M02.gpow n x).1+(M02.gpow n y).1,(M02.gpow n x).2+(M02.gpow n y).2)
 | 0,x,y=>rfl
 | n+1,x,y=>by
  have:=Vz n (x.2,x.1+x.2) (y.2,y.1+y.2)
  simp only at this
  unfold M02.gpow
  rw [<- this]
  congr 2
  simp only []
  omega
theorem kU:∀ (n:Nat) (x:Int×Int),M02.Cone x->M02.Cone (M02.gpow n x)
 | 0,x,h=>h
 | n+1,x,h=>kU n _ ⟨h.2.1,by have:=h.1; have:=h.2.1; simp only []; omega,by have:=h.1; have:=h.2.1; have:=h.2.2; simp only []; omega⟩
theorem BL {x y:Gd} (hx:M02.Pos x.1 x.2) (hy:M02.Pos y.1 y.2):M02.Pos (yu x y).1 (yu x y).2:=by
 obtain ⟨n,hn⟩:=M02.to_cone hx
 obtain ⟨m,hm⟩:=M02.to_cone hy
 have h1:M02.Cone (M02.gpow m (M02.gpow n x)):=kU m _ hn
 have h2:M02.Cone (M02.gpow n (M02.gpow m y)):=kU n _ hm
 rw [M02.gpow_add] at h1 h2
 rw [Nat.add_comm m n] at h2
 rw [M02.pos_gpow (n+m) (yu x y)]
 apply M02.cone_pos
 have e:=Vz (n+m) x y
 unfold yu
 rw [e]
 obtain ⟨a1,a2,a3⟩:=h1
 obtain ⟨b1,b2,b3⟩:=h2
 exact ⟨by simp only []; omega,by simp only []; omega,by simp only []; omega⟩
def nn (x:Gd):Prop:=x=(0,0)\/M02.Pos x.1 x.2
theorem Vi {x y:Gd} (hx:nn x) (hy:nn y):nn (yu x y):=by
 rcases hx with rfl | hx
 ·rw [xM]; exact hy
 ·rcases hy with rfl | hy
  ·rw [wq]; exact .inr hx
  ·exact .inr (BL hx hy)
theorem ZO {x y:Gd} (hx:nn x) (hy:nn y):nn (yh x y):=by
 rcases hx with rfl | hx
 ·left; simp [yh]
 ·rcases hy with rfl | hy
  ·left; simp [yh]
  ·exact .inr (M02.pos_mul hx hy)
theorem Wn {x:Gd} (h:M02.Pos x.1 x.2):¬ M02.Pos (yS x).1 (yS x).2:=by
 intro h'
 have e1:=M02.sgn_pos h
 have e2:=M02.sgn_pos h'
 have:=M02.sgn_opp x.1 x.2
 simp only [yS] at e2
 omega
theorem je {x:Gd} (h:nn x) (h':nn (yS x)):x=(0,0):=by
 rcases h with h | h
 ·exact h
 ·rcases h' with h' | h'
  ·have:=congrArg yS h'
   rw [kI] at this
   rw [this]; rfl
  ·exact absurd h' (Wn h)
def nnb (x:Gd):Bool:=decide (0<=M02.sgn x.1 x.2)
theorem QH {x:Gd} (h:nnb x=true):nn x:=by
 unfold nnb at h
 rw [decide_eq_true_eq] at h
 rcases M02.pos_cases x.1 x.2 with ⟨h1,h2⟩ | hp | hp
 ·exact .inl (Prod.ext h1 h2)
 ·exact .inr hp
 ·have:=M02.sgn_pos hp
  rw [M02.sgn_opp] at this
  omega
theorem qx (k:Int) (h:0<=k):nn (k,0):=by
 by_cases c:k=0
 ·left; rw [c]
 ·exact .inr (.inl ⟨h,Int.le_refl _,.inl (by omega)⟩)
theorem Hj {x:Gd} (h:nn x):X6 x ≠ -1:=by
 rcases h with rfl | h
 ·decide
 ·unfold X6; rw [M02.sgn_pos h]; decide
theorem D5 {x:Gd} (h:nn (yS x)):X6 x≠1:=by
 have:=Hj h
 unfold X6 yS at *
 rw [M02.sgn_opp] at this
 omega
def Ui (r s:List Gd):List Gd:=List.zipWith yu r s
def rsc (c:Gd) (r:List Gd):List Gd:=r.map (yh c)
theorem xC {r s:List Gd} (h:r.length=s.length):(Ui r s).length=r.length:=by simp [Ui,h]
theorem zm (c:Gd) (r:List Gd):(rsc c r).length=r.length:=by simp [rsc]
theorem xo {r s:List Gd} (h:r.length=s.length) (e:∀ k,k < r.length->r.getD k (0,0)=s.getD k (0,0)):r=s:=by
 apply List.ext_getElem h
 intro k h1 h2
 have:=e k h1
 simpa [g0d,h1,h2] using this
theorem xS {r s:List Gd} (h:r.length=s.length) (k:Nat):(Ui r s).getD k (0,0)=yu (r.getD k (0,0)) (s.getD k (0,0)):=by
 unfold Ui
 simp only [g0d,List.getElem?_zipWith]
 by_cases hk:k < r.length
 ·simp [hk,h ▸ hk]
 ·have h2:¬ k < s.length:=by omega
  simp [g1x (Nat.not_lt.mp hk),g1x (Nat.not_lt.mp h2),yu]
theorem yk (c:Gd) (r:List Gd) (k:Nat):(rsc c r).getD k (0,0)=yh c (r.getD k (0,0)):=by
 unfold rsc
 simp only [g0d,g0z]
 by_cases hk:k < r.length
 ·simp [hk]
 ·simp [g1x (Nat.not_lt.mp hk),yh]
theorem we (A:Nat->Gd) {i:Nat} {r:List Gd} (hi:i < r.length) (k:Nat):(xq A i r).getD k (0,0)=if k=i then yu (r.getD i (0,0)) (yS (y6 A 0 r (0,0))) else r.getD k (0,0):=by
 unfold xq
 simp only [g0d,g1m]
 by_cases h:k=i
 ·subst h; simp [hi]
 ·have:¬ i=k:=fun e=>h e.symm
  simp [h,this]
theorem Yd (A:Nat->Gd):∀ (r s:List Gd) (k:Nat),r.length=s.length->y6 A k (Ui r s) (0,0)=yu (y6 A k r (0,0)) (y6 A k s (0,0))
 | [],[],k,_=>rfl
 | [],_ :: _,_,h=>by cases h
 | _ :: _,[],_,h=>by cases h
 | x :: r,y :: s,k,h=>by
  have ih:=Yd A r s (k+1) (by simpa using h)
  unfold Ui at ih ⊢
  simp only [List.zipWith_cons_cons,y6,xM]
  rw [xA A (List.zipWith yu r s),ih,xA A r (k+1) (yh (A k) x),xA A s (k+1) (yh (A k) y)]
  generalize y6 A (k+1) r (0,0)=p
  generalize y6 A (k+1) s (0,0)=q
  simp only [yu,yh,Prod.mk.injEq]
  constructor <;> grind
theorem Yc (A:Nat->Gd) (c:Gd):∀ (r:List Gd) (k:Nat),y6 A k (rsc c r) (0,0)=yh c (y6 A k r (0,0))
 | [],k=>by simp [rsc,y6,yh]
 | x :: r,k=>by
  have ih:=Yc A c r (k+1)
  unfold rsc at ih ⊢
  simp only [g0h,y6,xM]
  rw [xA A (g2z (yh c) r),ih,xA A r (k+1) (yh (A k) x)]
  generalize y6 A (k+1) r (0,0)=p
  simp only [yu,yh,Prod.mk.injEq]
  constructor <;> grind
theorem Gi (A:Nat->Gd) {i:Nat} {r s:List Gd} (h:r.length=s.length) (hi:i < r.length):xq A i (Ui r s)=Ui (xq A i r) (xq A i s):=by
 have hl:(xq A i r).length=(xq A i s).length:=by rw [yc,yc,h]
 apply xo (by rw [yc,xC h,xC hl,yc])
 intro k _
 rw [we A (by rw [xC h]; exact hi),xS hl,we A hi,we A (h ▸ hi),xS h,xS h,Yd A r s 0 h]
 split
 ·simp only [yu,yS,Prod.mk.injEq]; constructor <;> omega
 ·rfl
theorem Cw (A:Nat->Gd) {i:Nat} (c:Gd) {r:List Gd} (hi:i < r.length):xq A i (rsc c r)=rsc c (xq A i r):=by
 apply xo (by rw [yc,zm,zm,yc])
 intro k _
 rw [we A (by rw [zm]; exact hi),Yc]
 simp only [yk]
 rw [we A hi]
 split
 ·simp only [yu,yS,yh,Prod.mk.injEq]; constructor <;> grind
 ·rfl
def InW (n:Nat) (w:List Nat):Prop:=∀ i∈w,i < n
theorem InW.app {n:Nat} {u v:List Nat} (hu:InW n u) (hv:InW n v):InW n (u++v):=fun i hi=>(g1o.mp hi).elim (hu i) (hv i)
theorem InW.left {n:Nat} {u v:List Nat} (h:InW n (u++v)):InW n u:=fun i hi=>h i (g1o.mpr (.inl hi))
theorem InW.right {n:Nat} {u v:List Nat} (h:InW n (u++v)):InW n v:=fun i hi=>h i (g1o.mpr (.inr hi))
theorem InW.rev {n:Nat} {u:List Nat} (h:InW n u):InW n u.reverse:=fun i hi=>h i (by simpa using hi)
theorem InW.one {n i:Nat} (h:i < n):InW n [i]:=fun k hk=>by simp at hk; omega
theorem InW.cons {n i:Nat} {u:List Nat} (h:i < n) (hu:InW n u):InW n (i :: u):=fun k hk=>by
 rcases g0o.mp hk with rfl | hk
 ·exact h
 ·exact hu k hk
section
variable (A:Nat->Nat->Gd)
theorem y8 (i:Nat) (w:List Nat) (r:List Gd):zO A (i :: w) r=xq (A i) i (zO A w r):=rfl
theorem jR:∀ (w:List Nat) {r s:List Gd},r.length=s.length->InW r.length w->zO A w (Ui r s)=Ui (zO A w r) (zO A w s)
 | [],r,s,h,hw=>rfl
 | i :: w,r,s,h,hw=>by
  rw [y8,y8,y8,jR w h (fun k hk=>hw k (g0m _ hk)),Gi (A i) (by rw [zp,zp,h]) (by rw [zp]; exact hw i g0i)]
theorem wN (c:Gd):∀ (w:List Nat) {r:List Gd},InW r.length w->zO A w (rsc c r)=rsc c (zO A w r)
 | [],r,hw=>rfl
 | i :: w,r,hw=>by
  rw [y8,y8,wN c w (fun k hk=>hw k (g0m _ hk)),Cw (A i) c (by rw [zp]; exact hw i g0i)]
def Eqv (n:Nat) (u v:List Nat):Prop:=∀ r:List Gd,r.length=n->zO A u r=zO A v r
variable {A} {n:Nat}
theorem Eqv.rfl' (u:List Nat):Eqv A n u u:=fun _ _=>rfl
theorem Eqv.symm {u v:List Nat} (h:Eqv A n u v):Eqv A n v u:=fun r hr=>(h r hr).symm
theorem Eqv.trans {u v w:List Nat} (h:Eqv A n u v) (h':Eqv A n v w):Eqv A n u w:=fun r hr=>(h r hr).trans (h' r hr)
theorem Eqv.app {u v u' v':List Nat} (h:Eqv A n u u') (h':Eqv A n v v'):Eqv A n (u++v) (u'++v'):=fun r hr=>by
 rw [yx,yx,h' r hr,h _ (by rw [zp,hr])]
variable (h2:∀ i,A i i=(2,0))
include h2
theorem Eqv.twice {s:Nat} (hs:s < n):Eqv A n [s,s] []:=fun r hr=>ku (h2 s) r (by omega)
theorem YF {w:List Nat} (hw:InW n w):Eqv A n (w.reverse++w) []:=fun r hr=>by
 rw [yx]
 exact wO h2 w r (fun i hi=>by rw [hr]; exact hw i hi)
theorem kM {w:List Nat} (hw:InW n w):Eqv A n (w++w.reverse) []:=by
 have:=YF h2 hw.rev
 rwa [g2i] at this
theorem Eqv.rev {u v:List Nat} (hu:InW n u) (hv:InW n v) (h:Eqv A n u v):Eqv A n u.reverse v.reverse:=by
 have a1:Eqv A n (u.reverse++(v++v.reverse)) (u.reverse++[]):=(Eqv.rfl' _).app (kM h2 hv)
 have a2:Eqv A n ((u.reverse++v)++v.reverse) ((u.reverse++u)++v.reverse):=((Eqv.rfl' _).app h.symm).app (Eqv.rfl' _)
 have a3:Eqv A n ((u.reverse++u)++v.reverse) ([]++v.reverse):=(YF h2 hu).app (Eqv.rfl' _)
 rw [g0x,<- g1a] at a1
 exact a1.symm.trans (a2.trans a3)
theorem XD {w:List Nat} {s:Nat} (hs:s < n):Eqv A n ((w++[s])++[s]) w:=by
 have:=(Eqv.rfl' (A:=A) (n:=n) w).app (Eqv.twice h2 hs)
 rw [g0x] at this
 simpa using this
end
theorem ZV {α:Type} (P:α->Prop) (f:α->Nat) (h:∃ x,P x):∃ x,P x/\∀ y,P y->f x<=f y:=by
 obtain ⟨x,hx⟩:=h
 have gen:∀ k x,P x->f x=k->∃ x,P x/\∀ y,P y->f x<=f y:=by
  intro k
  induction k using Nat.strongRecOn with
  | ind k ih =>
   intro x hx hk
   by_cases c:∃ y,P y/\f y < f x
   ·obtain ⟨y,hy,hl⟩:=c
    exact ih (f y) (by omega) y hy rfl
   ·exact ⟨x,hx,fun y hy=>Nat.not_lt.mp fun hl=>c ⟨y,hy,hl⟩⟩
 exact gen _ x hx rfl
section
variable (A:Nat->Nat->Gd) (n:Nat)
def Red (w:List Nat):Prop:=InW n w/\∀ u,InW n u->Eqv A n u w->w.length<=u.length
def wY (w:List Nat) (s:Nat):Prop:=∀ u,InW n u->Eqv A n u (w++[s])->w.length<=u.length
theorem ZL {w:List Nat} (hw:InW n w):∃ u,Red A n u/\Eqv A n u w:=by
 obtain ⟨u,⟨h1,h3⟩,h4⟩:=ZV (fun u=>InW n u/\Eqv A n u w) List.length ⟨w,hw,Eqv.rfl' w⟩
 exact ⟨u,⟨h1,fun v hv e=>h4 v ⟨hv,e.trans h3⟩⟩,h3⟩
end
def sel (s t:Nat):Bool->Nat:=fun b=>if b=true then s else t
def tnW (a b:Gd):List Bool->Tn
 | []=>tn0
 | c :: l=>if c=true then tnI b (tnW a b l) else tnJ a (tnW a b l)
def alt:Nat->List Bool
 | 0=>[]
 | k+1=>decide (k % 2=1) :: alt k
theorem wa:∀ k,(alt k).length=k
 | 0=>rfl
 | k+1=>by rw [alt,g0e,wa k]
theorem Zc {m:Nat}:∀ {k:Nat},m<=k->∃ pre,alt k=pre++alt m
  | 0, h => ⟨[], by have:m=0:=by omega
                    subst this; rfl⟩
  | k+1,h=>by
    by_cases c:m=k+1
    · exact ⟨[],by rw [c]; rfl⟩
    · obtain ⟨pre,e⟩:=Zc (m:=m) (k:=k) (by omega)
      exact ⟨decide (k % 2=1) :: pre,by rw [alt,e]; rfl⟩
theorem V0:∀ k,∃ x,alt (k+1)=x++[false]/\x.length=k
 | 0=>⟨[],rfl,rfl⟩
 | k+1=>by
  obtain ⟨x,e,h⟩:=V0 k
  exact ⟨decide ((k+1) % 2=1) :: x,by rw [alt,e]; rfl,by simp [h]⟩
theorem VZ:∀ a:List Bool,(∀ x b y,a≠x++b :: b :: y)->(∀ x,a≠x++[true])->a=alt a.length
 | [],_,_=>rfl
 | b :: a,h1,h2=>by
  have ih:=VZ a (fun x c y e=>h1 (b :: x) c y (by rw [e]; rfl)) (fun x e=>h2 (b :: x) (by rw [e]; rfl))
  cases a with
  | nil =>
   cases b with
   | true=>exact absurd rfl (h2 [])
   | false=>rfl
  | cons c a =>
   rw [g0e] at ih ⊢
   have e1:c=decide (a.length % 2=1):=by
    rw [alt] at ih
    exact (List.cons.inj ih).1
   have e2:b≠c:=fun e=>h1 [] b a (by rw [e]; rfl)
   rw [g0e,alt,<- ih]
   congr 1
   by_cases c1:a.length % 2=1
   ·have c2:¬ ((a.length+1) % 2=1):=by omega
    simp only [c1,c2,decide_true,decide_false] at e1 ⊢
    cases b <;> simp_all
   ·have c2:(a.length+1) % 2=1:=by omega
    simp only [c1,c2,decide_true,decide_false] at e1 ⊢
    cases b <;> simp_all
section
variable {A:Nat->Nat->Gd} {s t n:Nat} (hst:s≠t) (hs2:A s s=(2,0)) (ht2:A t t=(2,0))
include hst hs2 ht2
theorem Xo {r:List Gd} (hs:s < r.length) (ht:t < r.length):∀ l:List Bool,∃ R,zO A (l.map (sel s t)) r=R/\R=jK s (ev (tnW (A s t) (A t s) l).p (y6 (A s) 0 r (0,0)) (y6 (A t) 0 r (0,0))) (jK t (ev (tnW (A s t) (A t s) l).q (y6 (A s) 0 r (0,0)) (y6 (A t) 0 r (0,0))) r) ∧
      y6 (A s) 0 R (0,0)=ev (tnW (A s t) (A t s) l).x (y6 (A s) 0 r (0,0)) (y6 (A t) 0 r (0,0))/\y6 (A t) 0 R (0,0)=ev (tnW (A s t) (A t s) l).y (y6 (A s) 0 r (0,0)) (y6 (A t) 0 r (0,0)):=by
  generalize hx:y6 (A s) 0 r (0,0)=x
  generalize hy:y6 (A t) 0 r (0,0)=y
  intro l
  induction l with
  | nil =>
    refine ⟨r,rfl,?_,?_,?_⟩
    · simp only [tnW,tn0,Jr]
      rw [qL ht,qL hs]
    · rw [hx]; simp [tnW,tn0,ev,yu,yh]
    · rw [hy]; simp [tnW,tn0,ev,yu,yh]
  | cons c l ih =>
    obtain ⟨R,h1,h2,h3,h4⟩:=ih
    have hRl:R.length=r.length:=by rw [h2,xk,xk]
    cases c with
    | false =>
      have htn:tnW (A s t) (A t s) (false :: l)=tnJ (A s t) (tnW (A s t) (A t s) l):=rfl
      rw [htn]
      generalize tnW (A s t) (A t s) l=z at h2 h3 h4
      have e1:xq (A t) t R=jK t (ev (X8 z.y) x y) R:=by rw [qz,h4,um]
      refine ⟨xq (A t) t R,?_,?_,?_,?_⟩
      · rw [g0h,y8,h1]; rfl
      · rw [e1,h2,<- XU hst,qM _ _ ht,<- jA]; rfl
      · rw [e1,vc (A s) _ (by omega),h3,<- GQ,<- jA]; rfl
      · rw [e1,vc (A t) _ (by omega),h4,ht2,um,Z6,<- um]; rfl
    | true =>
      have htn:tnW (A s t) (A t s) (true :: l)=tnI (A t s) (tnW (A s t) (A t s) l):=rfl
      rw [htn]
      generalize tnW (A s t) (A t s) l=z at h2 h3 h4
      have e2:xq (A s) s R=jK s (ev (X8 z.x) x y) R:=by rw [qz,h3,um]
      refine ⟨xq (A s) s R,?_,?_,?_,?_⟩
      · rw [g0h,y8,h1]; rfl
      · rw [e2,h2,qM _ _ (by rw [xk]; exact hs),<- jA]; rfl
      · rw [e2,vc (A s) _ (by omega),h3,hs2,um,Z6,<- um]; rfl
      · rw [e2,vc (A t) _ (by omega),h4,<- GQ,<- jA]; rfl
theorem qE (hs:s < n) (ht:t < n) {l l':List Bool} (hp:(tnW (A s t) (A t s) l).p=(tnW (A s t) (A t s) l').p) (hq:(tnW (A s t) (A t s) l).q=(tnW (A s t) (A t s) l').q):Eqv A n (l.map (sel s t)) (l'.map (sel s t)):=fun r hr=>by
 obtain ⟨R,h1,h2,_⟩:=Xo hst hs2 ht2 (r:=r) (by omega) (by omega) l
 obtain ⟨R',h1',h2',_⟩:=Xo hst hs2 ht2 (r:=r) (by omega) (by omega) l'
 rw [h1,h1',h2,h2',hp,hq]
end
theorem kZ (b:Bool) {m:Nat} (h:2<=m/\m<=6):(tnW (zS (m:Int) b) (zS (m:Int) (!b)) (alt m)).p=(tnW (zS (m:Int) b) (zS (m:Int) (!b)) ((alt m).map (!·))).p/\(tnW (zS (m:Int) b) (zS (m:Int) (!b)) (alt m)).q=(tnW (zS (m:Int) b) (zS (m:Int) (!b)) ((alt m).map (!·))).q:=by
 rcases (by omega:m=2\/m=3\/m=4\/m=5\/m=6) with e | e | e | e | e <;> subst e <;> cases b <;> decide +kernel
theorem yF {n i k:Nat} (h:k < n):(zE n i).getD k (0,0)=if k=i then (1,0) else (0,0):=by
 unfold zE
 simp [g0d,h]
def UX (n s t:Nat) (p q:Gd):List Gd:=Ui (rsc p (zE n s)) (rsc q (zE n t))
theorem yz (n s t:Nat) (p q:Gd):(UX n s t p q).length=n:=by
 unfold UX
 rw [xC (by rw [zm,zm,ze,ze]),zm,ze]
theorem YD (c:Gd):yh c (1,0)=c:=by simp [yh]
theorem kJ (c:Gd):yh c (0,0)=(0,0):=by simp [yh]
theorem wG {n s t k:Nat} (p q:Gd) (hk:k < n):(UX n s t p q).getD k (0,0)=yu (if k=s then p else (0,0)) (if k=t then q else (0,0)):=by
 unfold UX
 rw [xS (by rw [zm,zm,ze,ze]),yk,yk,yF hk,yF hk]
 by_cases h1:k=s <;> by_cases h2:k=t <;> simp only [h1,h2,if_true,if_false,YD,kJ] <;> split <;> simp [YD,kJ]
theorem VP (A:Nat->Gd) {n s t:Nat} (p q:Gd) (hs:s < n) (ht:t < n):y6 A 0 (UX n s t p q) (0,0)=yu (yh p (A s)) (yh q (A t)):=by
 unfold UX
 rw [Yd A _ _ 0 (by rw [zm,zm,ze,ze]),Yc,Yc,Ya A n s hs,Ya A n t ht]
theorem M7 {A:Nat->Nat->Gd} {n s t:Nat} (hst:s≠t) (hs2:A s s=(2,0)) (p q:Gd) (hs:s < n) (ht:t < n):xq (A s) s (UX n s t p q)=UX n s t (yS (yu p (yh (A s t) q))) q:=by
 apply xo (by rw [yc,yz,yz])
 intro k hk
 rw [yc,yz] at hk
 rw [we (A s) (by rw [yz]; exact hs),VP (A s) p q hs ht,wG p q hk,wG _ q hk,wG p q hs,hs2]
 by_cases c:k=s
 ·subst c
  simp only [if_true,hst,if_false,wq,yu,yS,yh,Prod.mk.injEq]
  constructor <;> grind
 ·simp only [c,if_false]
theorem M6 {A:Nat->Nat->Gd} {n s t:Nat} (hst:s≠t) (ht2:A t t=(2,0)) (p q:Gd) (hs:s < n) (ht:t < n):xq (A t) t (UX n s t p q)=UX n s t p (yS (yu q (yh (A t s) p))):=by
 apply xo (by rw [yc,yz,yz])
 intro k hk
 rw [yc,yz] at hk
 rw [we (A t) (by rw [yz]; exact ht),VP (A t) p q hs ht,wG p q hk,wG p _ hk,wG p q ht,ht2]
 by_cases c:k=t
 ·subst c
  simp only [if_true,Ne.symm hst,if_false,xM,yu,yS,yh,Prod.mk.injEq]
  constructor <;> grind
 ·simp only [c,if_false]
def pqA (a b:Gd):Nat->Gd×Gd
 | 0=>((1,0),(0,0))
 | k+1=>if k % 2=1 then (yS (yu (pqA a b k).1 (yh a (pqA a b k).2)),(pqA a b k).2) else ((pqA a b k).1,yS (yu (pqA a b k).2 (yh b (pqA a b k).1)))
theorem WA {A:Nat->Nat->Gd} {n s t:Nat} (hst:s≠t) (hs2:A s s=(2,0)) (ht2:A t t=(2,0)) (hs:s < n) (ht:t < n):∀ k,zO A ((alt k).map (sel s t)) (zE n s)=UX n s t (pqA (A s t) (A t s) k).1 (pqA (A s t) (A t s) k).2
 | 0=>by
  apply xo (by rw [zp,yz,ze])
  intro k hk
  rw [zp,ze] at hk
  rw [wG _ _ hk]
  show (zE n s).getD k (0,0)=_
  rw [yF hk]
  by_cases c:k=s <;> simp [pqA,c,yu]
 | k+1=>by
  have ih:=WA hst hs2 ht2 hs ht k
  rw [alt,g0h,y8,ih,pqA]
  by_cases c:k % 2=1
  ·have e:sel s t (decide (k % 2=1))=s:=by simp [sel,c]
   rw [e,if_pos c,M7 hst hs2 _ _ hs ht]
  ·have e:sel s t (decide (k % 2=1))=t:=by simp [sel,c]
   rw [e,if_neg c,M6 hst ht2 _ _ hs ht]
def PQ (x:Gd×Gd):Prop:=nn x.1/\nn x.2/\(x.2=(0,0)->x.1=(1,0))/\(x.1=(0,0)->x.2=(1,0))
theorem Ht (b:Bool) {m:Nat} (h:2<=m/\m<=6) {k:Nat} (hk:k < m):PQ (pqA (zS (m:Int) b) (zS (m:Int) (!b)) k):=by
 have key:∀ m:Fin 7,2<=m.1->∀ b:Bool,∀ k:Fin 7,k.1 < m.1->nnb (pqA (zS (m.1:Int) b) (zS (m.1:Int) (!b)) k.1).1=true/\nnb (pqA (zS (m.1:Int) b) (zS (m.1:Int) (!b)) k.1).2=true ∧
   ((pqA (zS (m.1:Int) b) (zS (m.1:Int) (!b)) k.1).2=(0,0)->(pqA (zS (m.1:Int) b) (zS (m.1:Int) (!b)) k.1).1=(1,0))/\((pqA (zS (m.1:Int) b) (zS (m.1:Int) (!b)) k.1).1=(0,0)->(pqA (zS (m.1:Int) b) (zS (m.1:Int) (!b)) k.1).2=(1,0)):=by decide +kernel
 have:=key ⟨m,by omega⟩ h.1 b ⟨k,by omega⟩ hk
 exact ⟨QH this.1,QH this.2.1,this.2.2.1,this.2.2.2⟩
theorem jP:∀ k:Nat,pqA (-2,0) (-2,0) k=if k % 2=1 then (((k:Int),0),((k:Int)+1,0)) else (((k:Int)+1,0),((k:Int),0))
 | 0=>rfl
 | k+1=>by
  rw [pqA,jP k]
  by_cases c:k % 2=1
  ·have c2:¬ ((k+1) % 2=1):=by omega
   rw [if_pos c,if_pos c,if_neg c2]
   refine Prod.ext (Prod.ext ?_ ?_) (Prod.ext ?_ ?_) <;> simp only [yS,yu,yh] <;> grind
  ·have c2:(k+1) % 2=1:=by omega
   rw [if_neg c,if_neg c,if_pos c2]
   refine Prod.ext (Prod.ext ?_ ?_) (Prod.ext ?_ ?_) <;> simp only [yS,yu,yh] <;> grind
theorem kj (k:Nat):PQ (pqA (-2,0) (-2,0) k):=by
 rw [jP]
 split
 ·refine ⟨qx _ (by omega),qx _ (by omega),fun e=>?_,fun e=>?_⟩
  ·have:=congrArg Prod.fst e; simp only at this; omega
  ·have:=congrArg Prod.fst e; simp only at this; omega
 ·refine ⟨qx _ (by omega),qx _ (by omega),fun e=>?_,fun e=>?_⟩
  ·have:=congrArg Prod.fst e
   simp only at this ⊢
   rw [this]; rfl
  ·have:=congrArg Prod.fst e; simp only at this; omega
theorem Kp (b:Bool) {m:Nat} (h:2<=m/\m<=6) {k:Nat} (hk:k < m) :
  ((pqA (zS (m:Int) b) (zS (m:Int) (!b)) k).2=(0,0)->(tnW (zS (m:Int) b) (zS (m:Int) (!b)) (alt k++[true])).p=(tnW (zS (m:Int) b) (zS (m:Int) (!b)) (true :: alt k)).p/\(tnW (zS (m:Int) b) (zS (m:Int) (!b)) (alt k++[true])).q=(tnW (zS (m:Int) b) (zS (m:Int) (!b)) (true :: alt k)).q) ∧
  ((pqA (zS (m:Int) b) (zS (m:Int) (!b)) k).1=(0,0)->(tnW (zS (m:Int) b) (zS (m:Int) (!b)) (alt k++[true])).p=(tnW (zS (m:Int) b) (zS (m:Int) (!b)) (false :: alt k)).p/\(tnW (zS (m:Int) b) (zS (m:Int) (!b)) (alt k++[true])).q=(tnW (zS (m:Int) b) (zS (m:Int) (!b)) (false :: alt k)).q):=by
 have key:∀ m:Fin 7,2<=m.1->∀ b:Bool,∀ k:Fin 7,k.1 < m.1 →
  ((pqA (zS (m.1:Int) b) (zS (m.1:Int) (!b)) k.1).2=(0,0)->(tnW (zS (m.1:Int) b) (zS (m.1:Int) (!b)) (alt k.1++[true])).p=(tnW (zS (m.1:Int) b) (zS (m.1:Int) (!b)) (true :: alt k.1)).p/\(tnW (zS (m.1:Int) b) (zS (m.1:Int) (!b)) (alt k.1++[true])).q=(tnW (zS (m.1:Int) b) (zS (m.1:Int) (!b)) (true :: alt k.1)).q) ∧
  ((pqA (zS (m.1:Int) b) (zS (m.1:Int) (!b)) k.1).1=(0,0)->(tnW (zS (m.1:Int) b) (zS (m.1:Int) (!b)) (alt k.1++[true])).p=(tnW (zS (m.1:Int) b) (zS (m.1:Int) (!b)) (false :: alt k.1)).p/\(tnW (zS (m.1:Int) b) (zS (m.1:Int) (!b)) (alt k.1++[true])).q=(tnW (zS (m.1:Int) b) (zS (m.1:Int) (!b)) (false :: alt k.1)).q):=by decide +kernel
 exact key ⟨m,by omega⟩ h.1 b ⟨k,by omega⟩ hk
theorem Ym (ts:List T3) {i j:Nat} (hij:i≠j):zc ts i j=zS (zg ts i j) (decide (i < j))/\zc ts j i=zS (zg ts i j) (!decide (i < j)):=by
 unfold zc jc
 have h1:¬ ((i:Int)=(j:Int)):=by omega
 have h2:¬ ((j:Int)=(i:Int)):=by omega
 rw [if_neg h1,if_neg h2,yE ts j i]
 refine ⟨by congr 1; simp,?_⟩
 congr 1
 by_cases c:i < j
 ·have:¬ ((j:Int) < (i:Int)):=by omega
  simp [c,this]
 ·have:(j:Int) < (i:Int):=by omega
  simp [c,this]
def NNr (r:List Gd):Prop:=∀ k,nn (r.getD k (0,0))
theorem Y2 {ts:List T3} (hg:yg ts) {n:Nat} (w:List Nat) (s:Nat) (hs:s < n) (hw:Red (zc ts) n w) (hd:wY (zc ts) n w s) (hnil:w≠[]):∃ (v:List Nat) (t:Nat) (x:Gd×Gd),v.length < w.length/\t < n/\t≠s/\Red (zc ts) n v/\wY (zc ts) n v s/\wY (zc ts) n v t/\PQ x ∧
    zO (zc ts) w (zE n s)=Ui (rsc x.1 (zO (zc ts) v (zE n s))) (rsc x.2 (zO (zc ts) v (zE n t))) ∧
    ∃ b:List Nat,InW n b/\Eqv (zc ts) n (v++b) w/\(x.2=(0,0)->Eqv (zc ts) n (b++[s]) (s :: b))/\(x.1=(0,0)->Eqv (zc ts) n (b++[s]) (t :: b)):=by
  have h2:=zH ts
  obtain ⟨w',t,rfl⟩:∃ w' t,w=w'++[t]:=⟨w.dropLast,w.getLast hnil,(List.dropLast_concat_getLast hnil).symm⟩
  have ht:t < n:=hw.1 t (by simp)
  have hw':InW n w':=hw.1.left
  have hst:s≠t:=by
    intro e
    subst e
    have:=hd w' hw' (XD h2 hs).symm
    simp at this
    omega
  have hsel:∀ b,sel s t b < n:=fun b=>by cases b <;> simp [sel] <;> assumption
  have hmapW:∀ l:List Bool,InW n (l.map (sel s t)):=fun l i hi=>by
    obtain ⟨b,_,rfl⟩:=g1i.mp hi
    exact hsel b
  obtain ⟨⟨v,a⟩,⟨hv,he,hl⟩,hmin⟩:=ZV (fun p:List Nat×List Bool=>InW n p.1/\Eqv (zc ts) n (p.1++p.2.map (sel s t)) (w'++[t])/\p.1.length+p.2.length=(w'++[t]).length) (fun p=>p.1.length) ⟨(w',[false]),hw',Eqv.rfl' _,by simp⟩
  simp only at hv he hl hmin
  have hv1:v.length<=w'.length:=hmin (w',[false]) ⟨hw',Eqv.rfl' _,by simp⟩
  have hwl:(w'++[t]).length=w'.length+1:=by simp
  have vred:Red (zc ts) n v:=⟨hv,fun u hu e=>by
    have:=hw.2 (u++a.map (sel s t)) (hu.app (hmapW a)) ((e.app (Eqv.rfl' _)).trans he)
    simp only [g0g,g0f,g0e,g0n] at this hl
    omega⟩
  have vnd:∀ b,wY (zc ts) n v (sel s t b):=fun b u hu e=>by
    apply Nat.not_lt.mp
    intro hlt
    have e2:Eqv (zc ts) n (u++(b :: a).map (sel s t)) (w'++[t]):=by
      have e3:Eqv (zc ts) n ((u++[sel s t b])++a.map (sel s t)) (((v++[sel s t b])++[sel s t b])++a.map (sel s t)):=(e.app (Eqv.rfl' _)).app (Eqv.rfl' _)
      have e4:Eqv (zc ts) n (((v++[sel s t b])++[sel s t b])++a.map (sel s t)) (v++a.map (sel s t)):=(XD h2 (hsel b)).app (Eqv.rfl' _)
      have e5:=e3.trans (e4.trans he)
      have:(u++[sel s t b])++a.map (sel s t)=u++(b :: a).map (sel s t):=by simp
      rwa [this] at e5
    have l1:=hw.2 (u++(b :: a).map (sel s t)) (hu.app (hmapW _)) e2
    simp only [g0g,g0f,g0e,g0n] at l1 hl
    have:=hmin (u,b :: a) ⟨hu,e2,by simp only [g0g,g0e,g0n]; omega⟩
    simp only at this
    omega
  have shorter:∀ u:List Nat,InW n u->Eqv (zc ts) n (u++[s]) (w'++[t])->(w'++[t]).length<=u.length:=fun u hu e=>by
    apply hd u hu
    exact (XD h2 hs).symm.trans (e.app (Eqv.rfl' _))
  have a1:∀ x b y,a≠x++b :: b :: y:=fun x b y e=>by
    subst e
    have e1:Eqv (zc ts) n (v++(x++y).map (sel s t)) (v++(x++b :: b :: y).map (sel s t)):=by
      refine (Eqv.rfl' v).app ?_
      rw [g0y,g0y]
      refine (Eqv.rfl' _).app ?_
      have:=(Eqv.twice (n:=n) h2 (hsel b)).symm.app (Eqv.rfl' (A:=zc ts) (y.map (sel s t)))
      simpa using this
    have:=hw.2 (v++(x++y).map (sel s t)) (hv.app (hmapW _)) (e1.trans he)
    simp only [g0g,g0f,g0e] at this hl
    omega
  have a2:∀ x,a≠x++[true]:=fun x e=>by
    subst e
    have:=shorter (v++x.map (sel s t)) (hv.app (hmapW _)) (by simpa [sel] using he)
    simp only [g0g,g0f,g0e,g0n] at this hl
    omega
  have ha:=VZ a a1 a2
  obtain ⟨p1,p2⟩:=Ym ts hst
  have gt:=vg hg (s:Int) (t:Int)
  have hpq:PQ (pqA (zc ts s t) (zc ts t s) a.length)/\((pqA (zc ts s t) (zc ts t s) a.length).2=(0,0)->Eqv (zc ts) n (a.map (sel s t)++[s]) (s :: a.map (sel s t)))/\((pqA (zc ts s t) (zc ts t s) a.length).1=(0,0)->Eqv (zc ts) n (a.map (sel s t)++[s]) (t :: a.map (sel s t))):=by
    rcases gt with g0 | gt
    · rw [g0] at p1 p2
      have q1:zS 0 (decide (s < t))=(-2,0):=by cases decide (s < t) <;> rfl
      have q2:zS 0 (!decide (s < t))=(-2,0):=by cases decide (s < t) <;> rfl
      rw [p1,p2,q1,q2]
      refine ⟨kj _,fun e=>?_,fun e=>?_⟩
      · rw [jP] at e
        have hk0:a.length=0:=by
          split at e
          · have:=congrArg Prod.fst e; simp only at this; omega
          · have:=congrArg Prod.fst e; simp only at this; omega
        have:a=[]:=g3a.mp hk0
        rw [this]
        exact Eqv.rfl' _
      · rw [jP] at e
        exfalso
        split at e
        · have:=congrArg Prod.fst e; simp only at this; omega
        · have:=congrArg Prod.fst e; simp only at this; omega
    · obtain ⟨m,em⟩:∃ m:Nat,zg ts s t=(m:Int):=⟨(zg ts s t).toNat,by omega⟩
      rw [em] at p1 p2 gt
      have hm:2<=m/\m<=6:=by omega
      have hkm:a.length < m:=by
       apply Nat.not_le.mp
       intro hle
       obtain ⟨pre,epre⟩:=Zc hle
       obtain ⟨b1,b2⟩:=kZ (decide (s < t)) hm
       rw [<- p1,<- p2] at b1 b2
       have br:=qE (n:=n) hst (h2 s) (h2 t) hs ht b1 b2
       obtain ⟨y,ey,hy⟩:=V0 (m - 1)
       have em1:m - 1+1=m:=by omega
       rw [em1] at ey
       have ey2:(alt m).map (!·)=y.map (!·)++[true]:=by rw [ey]; simp
       rw [ey2,g0y] at br
       have e1:Eqv (zc ts) n (v++(pre.map (sel s t)++((y.map (!·)).map (sel s t)++[s]))) (w'++[t]):=by
         have e2:a.map (sel s t)=pre.map (sel s t)++(alt m).map (sel s t):=by rw [ha,epre,g0y]
         rw [e2] at he
         refine Eqv.trans ?_ he
         refine (Eqv.rfl' v).app ((Eqv.rfl' _).app ?_)
         exact br.symm
       have:=shorter (v++(pre.map (sel s t)++(y.map (!·)).map (sel s t))) (hv.app ((hmapW _).app (hmapW _))) (by simpa using e1)
       have el:a.length=pre.length+m:=by
         have:=congrArg List.length epre
         rw [g0g,wa,wa] at this
         exact this
       simp only [g0g,g0f,g0e,g0n] at this hl
       omega
      obtain ⟨w1,w2⟩:=Kp (decide (s < t)) hm hkm
      rw [p1,p2]
      refine ⟨Ht _ hm hkm,fun e=>?_,fun e=>?_⟩
      · obtain ⟨f1,f2⟩:=w1 e
        rw [<- p1,<- p2,<- ha] at f1 f2
        have:=qE (n:=n) hst (h2 s) (h2 t) hs ht f1 f2
        simpa [sel] using this
      · obtain ⟨f1,f2⟩:=w2 e
        rw [<- p1,<- p2,<- ha] at f1 f2
        have:=qE (n:=n) hst (h2 s) (h2 t) hs ht f1 f2
        simpa [sel] using this
  have le:=WA hst (h2 s) (h2 t) hs ht a.length
  rw [<- ha] at le
  have e:=he (zE n s) (ze n s)
  rw [yx,le] at e
  have hlen:(rsc (pqA (zc ts s t) (zc ts t s) a.length).1 (zE n s)).length=(rsc (pqA (zc ts s t) (zc ts t s) a.length).2 (zE n t)).length:=by rw [zm,zm,ze,ze]
  unfold UX at e
  rw [jR _ _ hlen (by rw [zm,ze]; exact hv),wN _ _ _ (by rw [ze]; exact hv),wN _ _ _ (by rw [ze]; exact hv)] at e
  refine ⟨v,t,_,by omega,ht,Ne.symm hst,vred,by have:=vnd true; simpa [sel] using this,by have:=vnd false; simpa [sel] using this,hpq.1,e.symm,a.map (sel s t),hmapW a,he,hpq.2.1,hpq.2.2⟩
theorem qP {ts:List T3} (hg:yg ts) {n:Nat}:∀ (k:Nat) (w:List Nat) (s:Nat),w.length=k->s < n->Red (zc ts) n w->wY (zc ts) n w s->NNr (zO (zc ts) w (zE n s)):=by
 intro k
 induction k using Nat.strongRecOn with
 | ind k ih =>
  intro w s hk hs hw hd
  by_cases hnil:w=[]
  ·subst hnil
   intro j
   show nn ((zE n s).getD j (0,0))
   by_cases hj:j < n
   ·rw [yF hj]
    split
    ·exact qx 1 (by decide)
    ·exact .inl rfl
   ·left
    simp [g0d,g1x (show (zE n s).length<=j by rw [ze]; omega)]
  ·obtain ⟨v,t,x,hl,ht,_,vr,vs,vt,hx,e,_⟩:=Y2 hg w s hs hw hd hnil
   have ps:=ih v.length (by omega) v s rfl hs vr vs
   have pt:=ih v.length (by omega) v t rfl ht vr vt
   intro j
   rw [e,xS (by rw [zm,zm,zp,zp,ze,ze]),yk,yk]
   exact Vi (ZO hx.1 (ps j)) (ZO hx.2.1 (pt j))
def NPr (r:List Gd):Prop:=∀ k,nn (yS (r.getD k (0,0)))
def UN (s:Int) (r:List Gd):Bool:=r.any fun x=>decide (X6 x=s)
theorem Vy {s:Int} {r:List Gd} (h:UN s r=true):∃ k,k < r.length/\X6 (r.getD k (0,0))=s:=by
 unfold UN at h
 rw [g2x] at h
 obtain ⟨x,hx,e⟩:=h
 obtain ⟨k,hk,ek⟩:=List.getElem_of_mem hx
 refine ⟨k,hk,?_⟩
 simp only [g0d,g0p hk,g2w,ek]
 simpa using e
theorem WH {s:Int} {r:List Gd} {k:Nat} (hk:k < r.length) (h:X6 (r.getD k (0,0))=s):UN s r=true:=by
 unfold UN
 rw [g2x]
 refine ⟨r[k],g2r hk,?_⟩
 simp only [g0d,g0p hk,g2w] at h
 simpa using h
theorem NNr.no {r:List Gd} (h:NNr r):UN (-1) r=false:=by
 apply Bool.eq_false_iff.mpr
 intro e
 obtain ⟨k,_,hk⟩:=Vy e
 exact Hj (h k) hk
theorem NPr.no {r:List Gd} (h:NPr r):UN 1 r=false:=by
 apply Bool.eq_false_iff.mpr
 intro e
 obtain ⟨k,_,hk⟩:=Vy e
 exact D5 (h k) hk
def Nz (r:List Gd):Prop:=∃ k,k < r.length/\r.getD k (0,0)≠(0,0)
theorem NNr.yes {r:List Gd} (h:NNr r) (hz:Nz r):UN 1 r=true:=by
 obtain ⟨k,hk,e⟩:=hz
 refine WH hk ?_
 rcases h k with c | c
 ·exact absurd c e
 ·exact M02.sgn_pos c
theorem NPr.yes {r:List Gd} (h:NPr r) (hz:Nz r):UN (-1) r=true:=by
 obtain ⟨k,hk,e⟩:=hz
 refine WH hk ?_
 rcases h k with c | c
 ·exact absurd (by have:=congrArg yS c; rwa [kI] at this) e
 ·have:=M02.sgn_pos c
  simp only [yS] at this
  rw [M02.sgn_opp] at this
  unfold X6
  omega
theorem NNr.notP {r:List Gd} (h:NNr r) (hz:Nz r):¬ NPr r:=fun h'=>by
 obtain ⟨k,_,e⟩:=hz
 exact e (je (h k) (h' k))
section
variable {ts:List T3} {n:Nat}
theorem Yw {w:List Nat} {r:List Gd} (hw:InW r.length w) (hz:∀ k,r.getD k (0,0)=(0,0)):∀ k,(zO (zc ts) w r).getD k (0,0)=(0,0):=by
 have e:r=rsc (0,0) r:=xo (by rw [zm]) fun k _=>by rw [yk,hz]; rfl
 intro k
 rw [e,wN _ _ _ hw,yk]
 simp [yh]
theorem vG {w:List Nat} (hw:InW n w) {s:Nat} (hs:s < n):Nz (zO (zc ts) w (zE n s)):=by
 apply Classical.byContradiction
 intro hc
 have hz:∀ k,(zO (zc ts) w (zE n s)).getD k (0,0)=(0,0):=fun k=>by
  by_cases hk:k < (zO (zc ts) w (zE n s)).length
  ·exact Classical.byContradiction fun e=>hc ⟨k,hk,e⟩
  ·simp [g0d,g1x (Nat.not_lt.mp hk)]
 have h1:=Yw (ts:=ts) (w:=w.reverse) (by rw [zp,ze]; exact hw.rev) hz s
 rw [wO (zH ts) w (zE n s) (fun i hi=>by rw [ze]; exact hw i hi),yF hs,if_pos rfl] at h1
 cases h1
theorem Yx {w:List Nat} {s:Nat} (hw:InW n w) (hs:s < n) (k:Nat):(zO (zc ts) (w++[s]) (zE n s)).getD k (0,0)=yS ((zO (zc ts) w (zE n s)).getD k (0,0)):=by
 have e:xq (zc ts s) s (zE n s)=rsc (-1,0) (zE n s):=by
  apply xo (by rw [yc,zm])
  intro j hj
  rw [yc,ze] at hj
  rw [we _ (by rw [ze]; exact hs),yk,Ya _ n s hs,zH,yF hs,yF hj]
  by_cases c:j=s
  ·simp [c,yu,yS,yh]
  ·simp [c,yh]
 rw [yx,y8]
 show (zO (zc ts) w (xq (zc ts s) s (zE n s))).getD k (0,0)=_
 rw [e,wN _ _ _ (by rw [ze]; exact hw),yk]
 simp [yh,yS]
def Lth (ts:List T3) (n:Nat) (w:List Nat) (l:Nat):Prop:=∃ u,Red (zc ts) n u/\Eqv (zc ts) n u w/\u.length=l
theorem Lth.ex {w:List Nat} (hw:InW n w):∃ l,Lth ts n w l:=by
 obtain ⟨u,h1,h2⟩:=ZL (zc ts) n hw
 exact ⟨_,u,h1,h2,rfl⟩
theorem Lth.le {w u:List Nat} {l:Nat} (h:Lth ts n w l) (hu:InW n u) (e:Eqv (zc ts) n u w):l<=u.length:=by
 obtain ⟨v,h1,h2,rfl⟩:=h
 exact h1.2 u hu (e.trans h2.symm)
theorem Lth.cong {w w':List Nat} {l:Nat} (h:Lth ts n w l) (e:Eqv (zc ts) n w w'):Lth ts n w' l:=by
 obtain ⟨v,h1,h2,h3⟩:=h
 exact ⟨v,h1,h2.trans e,h3⟩
theorem Lth.uniq {w:List Nat} {l l':Nat} (h:Lth ts n w l) (h':Lth ts n w l'):l=l':=by
 obtain ⟨v,h1,h2,rfl⟩:=h
 obtain ⟨v',h1',h2',rfl⟩:=h'
 have a:=h1.2 v' h1'.1 (h2'.trans h2.symm)
 have b:=h1'.2 v h1.1 (h2.trans h2'.symm)
 omega
theorem Lth.nil:Lth ts n [] 0:=⟨[],⟨(fun i hi=>by cases hi),fun u _ _=>g1z _⟩,Eqv.rfl' _,rfl⟩
theorem Lth.zero {w:List Nat} (h:Lth ts n w 0):Eqv (zc ts) n w []:=by
 obtain ⟨v,h1,h2,h3⟩:=h
 have:v=[]:=g3a.mp h3
 subst this
 exact h2.symm
theorem Lth.rev {w:List Nat} {l:Nat} (hw:InW n w) (h:Lth ts n w l):Lth ts n w.reverse l:=by
 obtain ⟨l',h'⟩:=Lth.ex (ts:=ts) hw.rev
 obtain ⟨u,u1,u2,u3⟩:=h
 obtain ⟨u',v1,v2,v3⟩:=h'
 have a:l'<=l:=by
  have:=v1.2 u.reverse u1.1.rev ((Eqv.rev (zH ts) u1.1 hw u2).trans v2.symm)
  rw [g2c] at this
  omega
 have b:l<=l':=by
  have e:=Eqv.rev (zH ts) v1.1 hw.rev v2
  rw [g2i] at e
  have:=u1.2 u'.reverse v1.1.rev (e.trans u2.symm)
  rw [g2c] at this
  omega
 have:l'=l:=by omega
 subst this
 exact ⟨u',v1,v2,v3⟩
variable (hg:yg ts)
include hg
theorem xu {w:List Nat} (hw:InW n w) {s:Nat} (hs:s < n) {l:Nat} (hl:Lth ts n w l) :
  (NNr (zO (zc ts) w (zE n s))/\Lth ts n (w++[s]) (l+1))\/(NPr (zO (zc ts) w (zE n s))/\1<=l/\Lth ts n (w++[s]) (l - 1)):=by
 have h2:=zH ts
 obtain ⟨u,u1,u2,rfl⟩:=hl
 have eu:=u2 (zE n s) (ze n s)
 obtain ⟨x,x1,x2⟩:=ZL (zc ts) n (u1.1.app (InW.one hs))
 have hx:=x1.2 (u++[s]) (u1.1.app (InW.one hs)) x2.symm
 have xs:Eqv (zc ts) n (x++[s]) u:=(x2.app (Eqv.rfl' _)).trans (XD h2 hs)
 have hux:=u1.2 (x++[s]) (x1.1.app (InW.one hs)) xs
 rw [g0g,g0s] at hx hux
 have ex:=x2 (zE n s) (ze n s)
 have neg:∀ k,(zO (zc ts) x (zE n s)).getD k (0,0)=yS ((zO (zc ts) u (zE n s)).getD k (0,0)):=fun k=>by rw [ex,Yx u1.1 hs]
 have ew:Eqv (zc ts) n x (w++[s]):=x2.trans (u2.app (Eqv.rfl' _))
 have down:x.length<=u.length->NPr (zO (zc ts) u (zE n s)):=fun h=>by
  have nd:wY (zc ts) n x s:=fun y hy e=>by
   have:=u1.2 y hy (e.trans xs)
   omega
  have:=qP hg x.length x s rfl hs x1 nd
  intro k
  rw [<- neg k]
  exact this k
 have up:u.length<=x.length->NNr (zO (zc ts) u (zE n s)):=fun h=>by
  have nd:wY (zc ts) n u s:=fun y hy e=>by
   have:=x1.2 y hy (e.trans x2.symm)
   omega
  exact qP hg u.length u s rfl hs u1 nd
 rw [<- eu]
 rcases Nat.lt_trichotomy x.length u.length with c | c | c
 ·right
  refine ⟨down (by omega),by omega,x,x1,ew,by omega⟩
 ·exact absurd (down (by omega)) ((up (by omega)).notP (vG u1.1 hs))
 ·left
  exact ⟨up (by omega),x,x1,ew,by omega⟩
theorem uP {w:List Nat} (hw:InW n w) {s:Nat} (hs:s < n):NNr (zO (zc ts) w (zE n s))\/NPr (zO (zc ts) w (zE n s)):=by
 obtain ⟨l,hl⟩:=Lth.ex (ts:=ts) hw
 rcases xu hg hw hs hl with h | h
 ·exact .inl h.1
 ·exact .inr h.1
theorem U7 {w:List Nat} (hw:InW n w) {l:Nat} (hl:Lth ts n w l) (h:1<=l):∃ s,s < n/\NPr (zO (zc ts) w (zE n s)):=by
 obtain ⟨u,u1,u2,rfl⟩:=hl
 have hne:u≠[]:=fun e=>by subst e; simp at h
 obtain ⟨v,t,rfl⟩:∃ v t,u=v++[t]:=⟨u.dropLast,u.getLast hne,(List.dropLast_concat_getLast hne).symm⟩
 have ht:t < n:=u1.1 t (by simp)
 refine ⟨t,ht,?_⟩
 rcases xu hg hw ht ⟨v++[t],u1,u2,rfl⟩ with ⟨_,h'⟩ | h'
 ·have e:Eqv (zc ts) n v (w++[t]):=(XD (zH ts) ht).symm.trans (u2.app (Eqv.rfl' _))
  have:=h'.le u1.1.left e
  simp only [g0g,g0s] at this
  omega
 ·exact h'.1
end
def Nf (r:List Gd):Bool:=UN 1 r && !UN (-1) r
def X9 (r:List Gd):Bool:=UN (-1) r && !UN 1 r
theorem NNr.abv {r:List Gd} (h:NNr r) (hz:Nz r):Nf r=true/\X9 r=false:=by simp [Nf,X9,h.no,h.yes hz]
theorem NPr.blw {r:List Gd} (h:NPr r) (hz:Nz r):Nf r=false/\X9 r=true:=by simp [Nf,X9,h.no,h.yes hz]
def uf (ts:List T3) (n:Nat):List Nat->List Nat->List Bool
 | _,[]=>[]
 | pre,s :: w=>Nf (zO (zc ts) pre (zE n s)) :: uf ts n (pre++[s]) w
def U3:List Bool->Int
 | []=>0
 | b :: l=>(if b=true then 1 else -1)+U3 l
theorem qk (ts:List T3) (n:Nat):∀ (w pre:List Nat),(uf ts n pre w).length=w.length
 | [],_=>rfl
 | s :: w,pre=>by rw [uf,g0e,qk ts n w,g0e]
theorem U2:∀ l:List Bool,U3 l<=l.length/\(U3 l=l.length↔l.all id=true)/\(U3 l - l.length) % 2=0
 | []=>by simp [U3]
 | b :: l=>by
  obtain ⟨h1,h2,h3⟩:=U2 l
  cases b
  ·simp only [U3,g1g,if_false,g0e,List.all_cons,id,Bool.false_and,iff_false]
   refine ⟨by omega,by omega,by omega⟩
  ·simp only [U3,if_true,g0e,List.all_cons,id,Bool.true_and]
   refine ⟨by omega,?_,by omega⟩
   rw [<- h2]
   omega
theorem Wg {ts:List T3} {n:Nat} (hg:yg ts):∀ (w pre:List Nat) {l l':Nat},InW n pre->InW n w->Lth ts n pre l->Lth ts n (pre++w) l'->(l':Int)=l+U3 (uf ts n pre w)
 | [],pre,l,l',hp,hw,h1,h2=>by
  rw [g0x] at h2
  have:=h1.uniq h2
  simp [uf,U3,this]
 | s :: w,pre,l,l',hp,hw,h1,h2=>by
  have hs:s < n:=hw s g0i
  have hw':InW n w:=fun i hi=>hw i (g0m _ hi)
  have h2':Lth ts n ((pre++[s])++w) l':=by simpa using h2
  have nz:=vG (ts:=ts) hp hs
  rw [uf,U3]
  rcases xu hg hp hs h1 with ⟨a,b⟩ | ⟨a,b,c⟩
  ·have ih:=Wg hg w (pre++[s]) (hp.app (InW.one hs)) hw' b h2'
   rw [(a.abv nz).1,if_pos rfl]
   omega
  ·have ih:=Wg hg w (pre++[s]) (hp.app (InW.one hs)) hw' c h2'
   rw [(a.blw nz).1]
   simp only [g1g,if_false]
   omega
theorem Kr {ts:List T3} {n:Nat} (hg:yg ts) {w:List Nat} (hw:InW n w) {l:Nat} (h:Lth ts n w l):U3 (uf ts n [] w)=l:=by
 have:=Wg hg w [] (fun i hi=>by cases hi) hw Lth.nil (by rw [g0r]; exact h)
 omega
section
variable (ts:List T3) (n:Nat)
def qD (u:List Nat):Option Nat:=(g0t n).find? fun i=>X9 (zO (zc ts) u (zE n i))
inductive Lst:List Nat->List Nat->Prop
 | nil {u:List Nat} (h:qD ts n u=none):Lst u []
 | cons {u v:List Nat} {i:Nat} (h:qD ts n u=some i) (t:Lst (u++[i]) v):Lst u (i :: v)
end
variable {ts:List T3} {n:Nat}
theorem kL {u:List Nat} {i:Nat} (h:qD ts n u=some i):i < n/\X9 (zO (zc ts) u (zE n i))=true/\∀ j,j < i->X9 (zO (zc ts) u (zE n j))=false:=by
 unfold qD at h
 have h1:=List.mem_of_find?_eq_some h
 have h2:=List.find?_some h
 refine ⟨g1t.mp h1,h2,fun j hj=>?_⟩
 rw [List.find?_range_eq_some] at h
 have:=h.2.2 j hj
 simpa using this
theorem WK {u:List Nat} (h:qD ts n u=none) {i:Nat} (hi:i < n):X9 (zO (zc ts) u (zE n i))=false:=by
 unfold qD at h
 rw [List.find?_eq_none] at h
 have:=h i (g1t.mpr hi)
 simpa using this
theorem Jn {u:List Nat} {i:Nat} (hi:i < n) (h:X9 (zO (zc ts) u (zE n i))=true):∃ j,qD ts n u=some j:=by
 cases e:qD ts n u with
 | some j=>exact ⟨j,rfl⟩
 | none=>rw [WK e hi] at h; cases h
theorem HF (hg:yg ts):∀ (l:Nat) {u:List Nat},InW n u->Lth ts n u l->∃ v,Lst ts n u v/\v.length=l/\InW n v/\Eqv (zc ts) n (u++v) []
 | 0,u,hu,hl=>by
  refine ⟨[],.nil ?_,rfl,(fun i hi=>by cases hi),by rw [g0x]; exact hl.zero⟩
  unfold qD
  rw [List.find?_eq_none]
  intro i hi
  have hi':=g1t.mp hi
  rcases xu hg hu hi' hl with ⟨a,_⟩ | ⟨_,b,_⟩
  ·rw [(a.abv (vG hu hi')).2]; decide
  ·omega
 | l+1,u,hu,hl=>by
  obtain ⟨s,hs,hp⟩:=U7 hg hu hl (by omega)
  obtain ⟨i,hi⟩:=Jn hs (hp.blw (vG hu hs)).2
  obtain ⟨h1,h2,_⟩:=kL hi
  have hL:Lth ts n (u++[i]) l:=by
   rcases xu hg hu h1 hl with ⟨a,_⟩ | ⟨_,_,c⟩
   ·rw [(a.abv (vG hu h1)).2] at h2; cases h2
   ·exact c
  obtain ⟨v,v1,v2,v3,v4⟩:=HF hg l (hu.app (InW.one h1)) hL
  refine ⟨i :: v,.cons hi v1,by rw [g0e,v2],v3.cons h1,?_⟩
  rw [g1a] at v4
  exact v4
theorem Vp (hg:yg ts) {w:List Nat} (hw:InW n w):∃ (v:List Nat) (l:Nat),Lst ts n w.reverse v/\InW n v/\Eqv (zc ts) n v w/\Lth ts n v l/\v.length=l/\l<=w.length:=by
 obtain ⟨l,hl⟩:=Lth.ex (ts:=ts) hw
 obtain ⟨v,v1,v2,v3,v4⟩:=HF hg l hw.rev (hl.rev hw)
 have e:Eqv (zc ts) n v w:=by
  have a1:Eqv (zc ts) n (w++(w.reverse++v)) (w++[]):=(Eqv.rfl' _).app v4
  have a2:Eqv (zc ts) n ((w++w.reverse)++v) ([]++v):=(kM (zH ts) hw).app (Eqv.rfl' _)
  rw [g0x] at a1
  rw [g1a,g0r] at a2
  exact a2.symm.trans a1
 exact ⟨v,l,v1,v3,e,hl.cong e.symm,v2,hl.le hw (Eqv.rfl' _)⟩
end GH
namespace GH
theorem Je {x y:Gd} (hx:nn x) (hy:nn y) (h:yh x y=(0,0)):x=(0,0)\/y=(0,0):=by
 rcases hx with hx | hx
 ·exact .inl hx
 ·rcases hy with hy | hy
  ·exact .inr hy
  ·have:=M02.pos_mul hx hy
   have e:M02.mulG x y=yh x y:=rfl
   rw [e,h] at this
   have:=M02.sgn_pos this
   cases this
theorem Ws {x y:Gd} (hx:nn x) (hy:nn y) (h:yu x y=(0,0)):x=(0,0)/\y=(0,0):=by
 have e:y=yS x:=by
  have e1:=congrArg Prod.fst h
  have e2:=congrArg Prod.snd h
  simp only [yu] at e1 e2
  exact Prod.ext (by simp only [yS]; omega) (by simp only [yS]; omega)
 rw [e] at hy
 have:=je hx hy
 rw [this] at e
 exact ⟨this,e⟩
theorem wI {n i k:Nat} (c:Gd) (hk:k < n):(rsc c (zE n i)).getD k (0,0)=if k=i then c else (0,0):=by
 rw [yk,yF hk]
 split
 ·exact YD c
 ·exact kJ c
theorem kf {n i:Nat} {r:List Gd} (hl:r.length=n) (h:∀ k,k < n->k≠i->r.getD k (0,0)=(0,0)):r=rsc (r.getD i (0,0)) (zE n i):=by
 apply xo (by rw [zm,ze,hl])
 intro k hk
 rw [hl] at hk
 rw [wI _ hk]
 by_cases c:k=i
 ·rw [if_pos c,c]
 ·rw [if_neg c,h k hk c]
section
variable {ts:List T3} {n:Nat}
theorem QU {w:List Nat} (hw:InW n w) {r s:List Gd} (hr:r.length=n) (hs:s.length=n) (h:zO (zc ts) w r=zO (zc ts) w s):r=s:=by
 have h1:=wO (zH ts) w r (fun i hi=>by rw [hr]; exact hw i hi)
 have h2:=wO (zH ts) w s (fun i hi=>by rw [hs]; exact hw i hi)
 rw [<- h1,h,h2]
theorem Y1 (hg:yg ts) (w:List Nat) (s i:Nat) (c:Gd) (hs:s < n) (hi:i < n) (hw:Red (zc ts) n w) (hd:wY (zc ts) n w s) (he:zO (zc ts) w (zE n s)=rsc c (zE n i)) (hnil:w≠[]) :
  ∃ (v:List Nat) (t:Nat) (b:List Nat),v.length < w.length/\t < n/\Red (zc ts) n v/\wY (zc ts) n v t/\zO (zc ts) v (zE n t)=rsc c (zE n i)/\InW n b/\Eqv (zc ts) n (v++b) w/\Eqv (zc ts) n (b++[s]) (t :: b):=by
 obtain ⟨v,t,x,hl,ht,hts,vr,vs,vt,hx,e,bw,b1,b2,b3,b4⟩:=Y2 hg w s hs hw hd hnil
 have ps:=qP hg v.length v s rfl hs vr vs
 have pt:=qP hg v.length v t rfl ht vr vt
 have hlen:(rsc x.1 (zO (zc ts) v (zE n s))).length=(rsc x.2 (zO (zc ts) v (zE n t))).length:=by rw [zm,zm,zp,zp,ze,ze]
 have lP:(zO (zc ts) v (zE n s)).length=n:=by rw [zp,ze]
 have lQ:(zO (zc ts) v (zE n t)).length=n:=by rw [zp,ze]
 rw [he] at e
 have off:∀ j,j < n->j≠i->yh x.1 ((zO (zc ts) v (zE n s)).getD j (0,0))=(0,0)/\yh x.2 ((zO (zc ts) v (zE n t)).getD j (0,0))=(0,0):=fun j hj hji=>by
  have e1:=congrArg (fun r=>r.getD j (0,0)) e
  rw [wI c hj,if_neg hji,xS hlen,yk,yk] at e1
  exact Ws (ZO hx.1 (ps j)) (ZO hx.2.1 (pt j)) e1.symm
 have one:∀ r:List Gd,rsc (1,0) r=r:=fun r=>by
  apply xo (zm _ _)
  intro j _
  rw [yk]
  simp [yh]
 by_cases c1:x.1=(0,0)
 ·have q1:=hx.2.2.2 c1
  refine ⟨v,t,bw,hl,ht,vr,vt,?_,b1,b2,b4 c1⟩
  rw [e,c1,q1]
  apply xo (by rw [lQ,xC (by rw [zm,zm,lP,lQ]),zm,lP])
  intro j _
  rw [xS (by rw [zm,zm,lP,lQ]),one,yk]
  simp [yh,yu]
 ·by_cases c2:x.2=(0,0)
  ·have q1:=hx.2.2.1 c2
   refine ⟨v,s,bw,hl,hs,vr,vs,?_,b1,b2,b3 c2⟩
   rw [e,c2,q1]
   apply xo (by rw [lP,xC (by rw [zm,zm,lP,lQ]),zm,lP])
   intro j _
   rw [xS (by rw [zm,zm,lP,lQ]),one,yk]
   simp [yh,yu]
  ·exfalso
   have hP:=kf lP (i:=i) fun j hj hji=>(Je hx.1 (ps j) (off j hj hji).1).resolve_left c1
   have hQ:=kf lQ (i:=i) fun j hj hji=>(Je hx.2.1 (pt j) (off j hj hji).2).resolve_left c2
   generalize (zO (zc ts) v (zE n s)).getD i (0,0)=a at hP
   generalize (zO (zc ts) v (zE n t)).getD i (0,0)=b at hQ
   have e3:zO (zc ts) v (rsc b (zE n s))=zO (zc ts) v (rsc a (zE n t)):=by
    rw [wN _ _ _ (by rw [ze]; exact vr.1),wN _ _ _ (by rw [ze]; exact vr.1),hP,hQ]
    apply xo (by simp only [zm,ze])
    intro j _
    rw [yk,yk,yk,yk,<- ZU,<- ZU,Jf b a]
   have e4:=QU vr.1 (by rw [zm,ze]) (by rw [zm,ze]) e3
   have e5:=congrArg (fun r=>r.getD t (0,0)) e4
   simp only [wI b ht,wI a ht,if_true,if_neg hts] at e5
   obtain ⟨j,hj,hn⟩:=vG (ts:=ts) vr.1 hs
   apply hn
   rw [hP,<- e5,yk]
   simp [yh]
theorem K8 (hg:yg ts):∀ (k:Nat) (w:List Nat) (s i:Nat) (c:Gd),w.length=k->s < n->i < n->Red (zc ts) n w->wY (zc ts) n w s->zO (zc ts) w (zE n s)=rsc c (zE n i)->c=(1,0)/\Eqv (zc ts) n (w++[s]) (i :: w):=by
 intro k
 induction k using Nat.strongRecOn with
 | ind k ih =>
  intro w s i c hk hs hi hw hd he
  by_cases hnil:w=[]
  ·subst hnil
   have he:zE n s=rsc c (zE n i):=he
   have e1:=congrArg (fun r=>r.getD s (0,0)) he
   simp only [yF hs,wI c hs,if_true] at e1
   by_cases cc:s=i
   ·rw [if_pos cc] at e1
    subst cc
    exact ⟨e1.symm,Eqv.rfl' _⟩
   ·rw [if_neg cc] at e1; cases e1
  ·obtain ⟨v,t,b,hl,ht,vr,vt,he',b1,b2,b3⟩:=Y1 hg w s i c hs hi hw hd he hnil
   obtain ⟨h1,h2⟩:=ih v.length (by omega) v t i c rfl ht hi vr vt he'
   refine ⟨h1,?_⟩
   have a1:Eqv (zc ts) n ((v++b)++[s]) (w++[s]):=b2.app (Eqv.rfl' _)
   have a2:Eqv (zc ts) n (v++(b++[s])) (v++(t :: b)):=(Eqv.rfl' _).app b3
   have a3:Eqv (zc ts) n ((v++[t])++b) ((i :: v)++b):=h2.app (Eqv.rfl' _)
   have a4:Eqv (zc ts) n ([i]++(v++b)) ([i]++w):=(Eqv.rfl' _).app b2
   rw [g1a] at a1
   rw [g1a,g2g] at a3
   exact a1.symm.trans (a2.trans (a3.trans a4))
theorem G0 (hg:yg ts) {u:List Nat} (hu:InW n u) {m i:Nat} (hm:m < n) (hi:i < n) (h1:NNr (zO (zc ts) u (zE n m))) (h2:NPr (zO (zc ts) (i :: u) (zE n m))):zO (zc ts) u (zE n m)=zE n i:=by
 have lB:(zO (zc ts) u (zE n m)).length=n:=by rw [zp,ze]
 have off:∀ k,k < n->k≠i->(zO (zc ts) u (zE n m)).getD k (0,0)=(0,0):=fun k hk hki=>by
  have:=h2 k
  rw [y8,we _ (by rw [lB]; exact hi),if_neg hki] at this
  exact je (h1 k) this
 have hsc:=kf lB off
 generalize (zO (zc ts) u (zE n m)).getD i (0,0)=c at hsc
 obtain ⟨l,hl⟩:=Lth.ex (ts:=ts) hu
 have hl':=hl
 obtain ⟨v,v1,v2,v3⟩:=hl'
 have nd:wY (zc ts) n v m:=by
  rcases xu hg hu hm hl with ⟨_,hL⟩ | ⟨hn,_⟩
  ·intro y hy e
   have:=hL.le hy (e.trans (v2.app (Eqv.rfl' _)))
   omega
  ·exact absurd hn (h1.notP (vG hu hm))
 have ev:=v2 (zE n m) (ze n m)
 have c1:=(K8 hg v.length v m i c rfl hm hi v1 nd (by rw [ev,hsc])).1
 rw [hsc,c1]
 apply xo (zm _ _)
 intro j _
 rw [yk]
 simp [yh]
def Sh (ts:List T3) (n:Nat) (w:List Nat):Prop:=InW n w/\Lth ts n w w.length
theorem Sh.cut {a b c:List Nat} (h:Sh ts n (a++b++c)):Sh ts n b:=by
 obtain ⟨h1,h2⟩:=h
 have hb:InW n b:=h1.left.right
 obtain ⟨l,hl⟩:=Lth.ex (ts:=ts) hb
 refine ⟨hb,?_⟩
 have hl':=hl
 obtain ⟨v,v1,v2,v3⟩:=hl'
 have e:Eqv (zc ts) n (a++v++c) (a++b++c):=((Eqv.rfl' _).app v2).app (Eqv.rfl' _)
 have:=h2.le ((h1.left.left.app v1.1).app h1.right) e
 simp only [g0g] at this
 have h3:=hl.le hb (Eqv.rfl' _)
 have:l=b.length:=by omega
 rw [<- this]
 exact hl
theorem Sh.rev {a:List Nat} (h:Sh ts n a):Sh ts n a.reverse:=⟨h.1.rev,by rw [g2c]; exact h.2.rev h.1⟩
theorem Sh.up (hg:yg ts) {u:List Nat} {s:Nat} (h:Sh ts n (u++[s])):NNr (zO (zc ts) u (zE n s)):=by
 have hs:s < n:=h.1 s (by simp)
 have hu:Sh ts n u:=Sh.cut (a:=[]) (c:=[s]) (by simpa using h)
 rcases xu hg hu.1 hs hu.2 with ⟨a,_⟩ | ⟨_,b,c⟩
 ·exact a
 ·have:=c.uniq h.2
  simp only [g0g,g0s] at this
  omega
def w8 (ts:List T3) (n:Nat) (v:List Nat) (a:Nat):List Gd:=zO (zc ts) (v.drop (a+1)).reverse (zE n (v.getD a 0))
theorem wx {v:List Nat} {a:Nat} (h:a < v.length):v.getD a 0=v[a]:=by simp [g0d,h]
theorem JM {v:List Nat} {a:Nat} (h:a < v.length):v=v.take a++v.getD a 0 :: v.drop (a+1):=by
 rw [wx h,List.getElem_cons_drop,List.take_append_drop]
theorem InW.at {v:List Nat} (hv:InW n v) {a:Nat} (h:a < v.length):v.getD a 0 < n:=by rw [wx h]; exact hv _ (g2r h)
theorem ZJ (hg:yg ts) {v:List Nat} (hv:Sh ts n v) {a:Nat} (h:a < v.length):NNr (w8 ts n v a):=by
 have e:=JM h
 have h1:Sh ts n (v.getD a 0 :: v.drop (a+1)):=Sh.cut (a:=v.take a) (c:=[]) (by rw [g0x,<- e]; exact hv)
 have h2:=h1.rev
 rw [g3c] at h2
 exact h2.up hg
theorem ju (hg:yg ts) {v:List Nat} (hv:Sh ts n v) {a b:Nat} (hab:a < b) (hb:b < v.length):w8 ts n v a≠w8 ts n v b:=by
 intro e
 have ha:a < v.length:=by omega
 have hsa:=hv.1.at ha
 have hsb:=hv.1.at hb
 have eb:=JM hb
 have hdb:InW n (v.drop (b+1)):=fun x hx=>hv.1 x (g2p hx)
 obtain ⟨x,hx⟩:∃ x,v.drop (a+1)=x++v.getD b 0 :: v.drop (b+1):=by
  refine ⟨(v.take b).drop (a+1),?_⟩
  conv=>lhs; rw [eb]
  rw [List.drop_append_of_le_length (by simp; omega)]
 have ea:=JM ha
 rw [hx] at ea
 have hfac:Sh ts n (v.getD a 0 :: x):=Sh.cut (a:=v.take a) (c:=v.getD b 0 :: v.drop (b+1)) (by rw [g1a,g0u,<- ea]; exact hv)
 have hxW:InW n x:=fun i hi=>hfac.1 i (g0m _ hi)
 have h1:=hfac.rev
 rw [g3c] at h1
 have pos:=h1.up hg
 unfold w8 at e
 rw [hx,g3r,g3c,yx,yx] at e
 have e2:=QU hdb.rev (by rw [zp,zp,ze]) (ze _ _) e
 have e3:xq (zc ts (v.getD b 0)) (v.getD b 0) (zO (zc ts) x.reverse (zE n (v.getD a 0)))=zE n (v.getD b 0):=e2
 have e4:=congrArg (xq (zc ts (v.getD b 0)) (v.getD b 0)) e3
 rw [ku (zH ts _) _ (by rw [zp,ze]; exact hsb)] at e4
 have neg:∀ k,(xq (zc ts (v.getD b 0)) (v.getD b 0) (zE n (v.getD b 0))).getD k (0,0)=yS ((zE n (v.getD b 0)).getD k (0,0)):=fun k=>Yx (ts:=ts) (w:=[]) (fun i hi=>by cases hi) hsb k
 have p:=pos (v.getD b 0)
 rw [e4,neg,yF hsb,if_pos rfl] at p
 have:=je (qx 1 (by decide)) p
 cases this
theorem Kf (hg:yg ts) {v:List Nat} (hv:InW n v) {i:Nat} (hi:i < n) (h:NPr (zO (zc ts) v (zE n i))):∃ a,a < v.length/\w8 ts n v a=zE n i:=by
 have key:∀ (k a:Nat),a+k=v.length->NPr (zO (zc ts) (v.drop a) (zE n i))->∃ b,a<=b/\b < v.length/\w8 ts n v b=zE n i:=by
  intro k
  induction k with
  | zero =>
   intro a ha hn
   have:v.drop a=[]:=g3l (by omega)
   rw [this] at hn
   have p:=hn i
   have p:nn (yS ((zE n i).getD i (0,0))):=p
   rw [yF hi,if_pos rfl] at p
   have:=je (qx 1 (by decide)) p
   cases this
  | succ k ih =>
   intro a ha hn
   have hal:a < v.length:=by omega
   have hd:InW n (v.drop (a+1)):=fun x hx=>hv x (g2p hx)
   have ed:v.drop a=v.getD a 0 :: v.drop (a+1):=by rw [wx hal,List.getElem_cons_drop]
   rcases uP hg hd hi with c | c
   ·rw [ed] at hn
    have:=G0 hg hd hi (hv.at hal) c hn
    refine ⟨a,g0q _,hal,?_⟩
    unfold w8
    rw [<- this]
    exact wO (zH ts) _ _ (fun j hj=>by rw [ze]; exact hd j hj)
   ·obtain ⟨b,h1,h2,h3⟩:=ih (a+1) (by omega) c
    exact ⟨b,by omega,h2,h3⟩
 obtain ⟨b,_,h2,h3⟩:=key v.length 0 (by omega) (by rw [List.drop_zero]; exact h)
 exact ⟨b,h2,h3⟩
end
section
variable {ts:List T3} {n:Nat}
theorem D4 (n i:Nat):NNr (zE n i):=fun k=>by
 by_cases hk:k < n
 ·rw [yF hk]
  split
  ·exact qx 1 (by decide)
  ·exact .inl rfl
 ·left
  simp [g0d,g1x (show (zE n i).length<=k by rw [ze]; omega)]
end
section
variable {ts:List T3} {n:Nat}
def qu (n m:Nat) (r:List Gd):List Gd:=(g0t n).map fun k=>if k < m then r.getD k (0,0) else (0,0)
theorem zR (n m:Nat) (r:List Gd):(qu n m r).length=n:=by simp [qu]
theorem uv {n m:Nat} (r:List Gd) {k:Nat} (hk:k < n):(qu n m r).getD k (0,0)=if k < m then r.getD k (0,0) else (0,0):=by
 simp [qu,g0d,hk]
theorem ZN {n m:Nat} (hm:m < n) (r:List Gd):qu n (m+1) r=Ui (qu n m r) (rsc (r.getD m (0,0)) (zE n m)):=by
 have hl:(qu n m r).length=(rsc (r.getD m (0,0)) (zE n m)).length:=by rw [zm,ze,zR]
 apply xo (by rw [xC hl,zR,zR])
 intro k hk
 rw [zR] at hk
 rw [xS hl,uv r hk,uv r hk,wI _ hk]
 by_cases c:k=m
 ·subst c
  simp [yu]
 ·by_cases c2:k < m
  ·rw [if_pos (by omega),if_pos c2,if_neg c,wq]
  ·rw [if_neg (by omega),if_neg c2,if_neg c,wq]
theorem Xf {n:Nat} {r:List Gd} (h:r.length=n):qu n n r=r:=by
 apply xo (by rw [zR,h])
 intro k hk
 rw [zR] at hk
 rw [uv r hk,if_pos hk]
theorem Jd (x y:Gd):yS (yh x y)=yh (yS x) y:=by
 simp only [yS,yh,Prod.mk.injEq]; constructor <;> grind
theorem Wr:nn (0,0):=.inl rfl
theorem Me {u:List Nat} (hu:InW n u) {r:List Gd} (hr:r.length=n) (hp:NPr r) (h:∀ k,k < n->r.getD k (0,0)=(0,0)\/NNr (zO (zc ts) u (zE n k))):NPr (zO (zc ts) u r):=by
 have main:∀ m,m<=n->NPr (zO (zc ts) u (qu n m r)):=by
  intro m
  induction m with
  | zero =>
   intro _ k
   have:=Yw (ts:=ts) (w:=u) (r:=qu n 0 r) (by rw [zR]; exact hu) (fun k=>by
    by_cases hk:k < n
    ·rw [uv r hk,if_neg (by omega)]
    ·rw [g0d,g1x (by rw [zR]; omega)]; rfl) k
   rw [this]
   exact .inl rfl
  | succ m ih =>
   intro hm k
   have hl:(qu n m r).length=(rsc (r.getD m (0,0)) (zE n m)).length:=by rw [zm,ze,zR]
   rw [ZN (by omega) r,jR _ _ hl (by rw [zR]; exact hu),wN _ _ _ (by rw [ze]; exact hu),xS (by rw [zp,zm,zp,ze,zR]),yk,Xz]
   refine Vi (ih (by omega) k) ?_
   rw [Jd]
   rcases h m (by omega) with z | z
   ·rw [z]
    have:yh (yS (0,0)) ((zO (zc ts) u (zE n m)).getD k (0,0))=(0,0):=by simp [yS,yh]
    rw [this]
    exact .inl rfl
   ·exact ZO (hp m) (z k)
 have:=main n (g0q _)
 rwa [Xf hr] at this
theorem Mf {u:List Nat} (hu:InW n u) {r:List Gd} (hr:r.length=n) (hp:NNr r) (h:∀ k,k < n->r.getD k (0,0)=(0,0)\/NNr (zO (zc ts) u (zE n k))):NNr (zO (zc ts) u r):=by
 have hneg:∀ k,(rsc (-1,0) r).getD k (0,0)=yS (r.getD k (0,0)):=fun k=>by
  rw [yk]; simp [yh,yS]
 have h1:NPr (zO (zc ts) u (rsc (-1,0) r)):=Me hu (by rw [zm,hr]) (fun k=>by
  rw [hneg]
  have:yS (yS (r.getD k (0,0)))=r.getD k (0,0):=by simp [yS]
  rw [this]
  exact hp k) fun k hk=>by
   rcases h k hk with z | z
   ·left
    rw [hneg,z]
    rfl
   ·exact .inr z
 rw [wN _ _ _ (by rw [hr]; exact hu)] at h1
 intro k
 have:=h1 k
 rw [yk] at this
 have e:yS (yh (-1,0) ((zO (zc ts) u r).getD k (0,0)))=(zO (zc ts) u r).getD k (0,0):=by simp [yh,yS]
 rwa [e] at this
theorem Wz {k:Nat}:∀ {w:List Nat} {r:List Gd},InW r.length w->k∉w->(zO (zc ts) w r).getD k (0,0)=r.getD k (0,0)
 | [],r,_,_=>rfl
 | i :: w,r,hw,hk=>by
  have hw':InW r.length w:=fun j hj=>hw j (g0m _ hj)
  have hi:i < r.length:=hw i g0i
  rw [y8,we _ (by rw [zp]; exact hi),if_neg (fun c=>hk (by rw [c]; exact g0i))]
  exact Wz hw' fun c=>hk (g0m _ c)
theorem Wq {w:List Nat} (hw:InW n w) {i:Nat} (hi:i < n) (h:i∉w):X9 (zO (zc ts) w (zE n i))=false:=by
 have e:=Wz (ts:=ts) (w:=w) (r:=zE n i) (by rw [ze]; exact hw) h
 rw [yF hi,if_pos rfl] at e
 have:UN 1 (zO (zc ts) w (zE n i))=true:=WH (k:=i) (by rw [zp,ze]; exact hi) (by rw [e]; decide)
 simp [X9,this]
theorem Lst.sub {P:Nat->Prop} {u v:List Nat} (h:Lst ts n u v):InW n u->(∀ i∈u,P i)->∀ i∈v,P i:=by
 induction h with
 | nil _=>intro _ _ i hi; cases hi
 | @cons u v i h t ih =>
  intro hu hp j hj
  obtain ⟨hi,hb,_⟩:=kL h
  have hm:i∈u:=by
   apply Classical.byContradiction
   intro c
   rw [Wq hu hi c] at hb
   cases hb
  rcases g0o.mp hj with rfl | hj
  ·exact hp _ hm
  ·refine ih (hu.app (InW.one hi)) (fun k hk=>?_) j hj
   rcases g1o.mp hk with hk | hk
   ·exact hp k hk
   ·rw [List.mem_singleton.mp hk]; exact hp _ hm
def UO (ts:List T3) (n:Nat) (part u:List Nat):List Nat:=part.filter fun i=>X9 (zO (zc ts) u (zE n i))
inductive Rm (ts:List T3) (n:Nat) (part:List Nat):List Nat->List Nat->Prop
 | nil {u:List Nat} (h:UO ts n part u=[]):Rm ts n part u []
 | cons {u s:List Nat} {i:Nat} {r:List Nat} (h:UO ts n part u=i :: r) (t:Rm ts n part (u++[i]) s):Rm ts n part u (i :: s)
theorem XC {part u:List Nat} {i:Nat}:i∈UO ts n part u↔i∈part/\X9 (zO (zc ts) u (zE n i))=true:=by
 simp [UO]
variable (hg:yg ts)
include hg
theorem Nb {w:List Nat} (hw:InW n w) {s:Nat} (hs:s < n) (h:X9 (zO (zc ts) w (zE n s))=true):NPr (zO (zc ts) w (zE n s)):=by
 rcases uP hg hw hs with c | c
 ·rw [(c.abv (vG hw hs)).2] at h; cases h
 ·exact c
theorem Ct {w:List Nat} (hw:InW n w) {s:Nat} (hs:s < n) (h:X9 (zO (zc ts) w (zE n s))=false):NNr (zO (zc ts) w (zE n s)):=by
 rcases uP hg hw hs with c | c
 ·exact c
 ·rw [(c.blw (vG hw hs)).2] at h; cases h
theorem Fg {part:List Nat} (hp:InW n part):∀ (l:Nat) {u:List Nat},InW n u->Lth ts n u l->∃ s k,Rm ts n part u s/\s.length+k=l/\(∀ i∈s,i∈part)/\Lth ts n (u++s) k/\∀ i∈part,NNr (zO (zc ts) (u++s) (zE n i))
 | l,u,hu,hl=>by
  cases e:UO ts n part u with
  | nil =>
   refine ⟨[],l,.nil e,by simp,(fun i hi=>by cases hi),by rw [g0x]; exact hl,fun i hi=>?_⟩
   rw [g0x]
   refine Ct hg hu (hp i hi) ?_
   cases c:X9 (zO (zc ts) u (zE n i)) with
   | false=>rfl
   | true =>
    have:=XC.mpr ⟨hi,c⟩
    rw [e] at this
    cases this
  | cons i r =>
   have hm:i∈UO ts n part u:=by rw [e]; exact g0i
   obtain ⟨h1,h2⟩:=XC.mp hm
   have hi:=hp i h1
   have hn:=Nb hg hu hi h2
   rcases xu hg hu hi hl with ⟨c,_⟩ | ⟨_,c2,c3⟩
   ·exact absurd hn (c.notP (vG hu hi))
   ·have hlt:l - 1 < l:=by omega
    obtain ⟨s,k,a1,a2,a3,a4,a5⟩:=Fg hp (l - 1) (hu.app (InW.one hi)) c3
    refine ⟨i :: s,k,.cons e a1,by rw [g0e]; omega,fun j hj=>?_,?_,?_⟩
    ·rcases g0o.mp hj with rfl | hj
     ·exact h1
     ·exact a3 j hj
    ·rwa [g1a,g2g] at a4
    ·rwa [g1a,g2g] at a5
theorem By {part:List Nat} (hp:InW n part) {w:List Nat} (hw:InW n w):∃ s o i,Rm ts n part w s/\s.length<=w.length/\(∀ x∈s,x∈part)/\Lst ts n (w++s).reverse o/\Lst ts n s.reverse.reverse i/\InW n o/\InW n i/\(∀ x∈i,x∈part) ∧
  Eqv (zc ts) n (o++i) w/\Lth ts n (o++i) (o++i).length/\(∀ x∈part,NNr (zO (zc ts) o (zE n x)))/\(o++i).length<=w.length/\Eqv (zc ts) n o (w++s)/\Eqv (zc ts) n i s.reverse/\(∀ x∈part,NNr (zO (zc ts) (w++s) (zE n x))):=by
 have h2:=zH ts
 obtain ⟨l,hl⟩:=Lth.ex (ts:=ts) hw
 obtain ⟨s,k,a1,a2,a3,a4,a5⟩:=Fg hg hp l hw hl
 have hs:InW n s:=fun x hx=>hp x (a3 x hx)
 obtain ⟨o,lo,o1,o2,o3,o4,o5,o6⟩:=Vp hg (hw.app hs)
 obtain ⟨i,li,i1,i2,i3,i4,i5,i6⟩:=Vp hg hs.rev
 have e:Eqv (zc ts) n (o++i) w:=by
  have:=o3.app i3
  rw [g1a] at this
  exact this.trans (((Eqv.rfl' w).app (kM h2 hs)).trans (by rw [g0x]; exact Eqv.rfl' _))
 have hlw:=hl.le hw (Eqv.rfl' _)
 have hlo:lo=k:=(o4.cong o3).uniq a4
 have hle:=hl.le (o2.app i2) e
 rw [g0g] at hle
 rw [g2c] at i6
 have hi:∀ x∈i,x∈part:=i1.sub (by rw [g2i]; exact hs) (by rw [g2i]; exact a3)
 refine ⟨s,o,i,a1,by omega,a3,o1,i1,o2,i2,hi,e,?_,fun x hx=>?_,by rw [g0g]; omega,o3,i3,a5⟩
 ·have:(o++i).length=l:=by rw [g0g]; omega
  rw [this]
  exact hl.cong e.symm
 ·rw [o3 _ (ze n x)]
  exact a5 x hx
end
section
variable {ts:List T3} {n:Nat}
end
section
variable {ts:List T3} {n:Nat}
variable (hg:yg ts)
include hg
theorem Cq {u:List Nat} (hu:InW n u) {s:Nat} (hs:s < n) (h:NNr (zO (zc ts) u (zE n s))):NPr (zO (zc ts) (u++[s]) (zE n s)):=fun k=>by
 rw [Yx hu hs k]
 have:yS (yS ((zO (zc ts) u (zE n s)).getD k (0,0)))=(zO (zc ts) u (zE n s)).getD k (0,0):=by simp [yS]
 rw [this]
 exact h k
theorem Cr {u v:List Nat} (e:Eqv (zc ts) n u v) {s:Nat} (h:NPr (zO (zc ts) u (zE n s))):NPr (zO (zc ts) v (zE n s)):=by
 rw [<- e _ (ze n s)]; exact h
end
theorem Kw (s t:Nat) (b:Bool):sel t s b=sel s t (!b):=by cases b <;> rfl
theorem Yu (s t:Nat) (l:List Bool):l.map (sel t s)=(l.map (!·)).map (sel s t):=by
 rw [g1h]
 apply g1r
 intro b _
 exact Kw s t b
section
variable {ts:List T3} {n:Nat}
theorem Hk {s t:Nat} (hs:s < n) (ht:t < n) (l:List Bool):InW n (l.map (sel s t)):=fun i hi=>by
 obtain ⟨b,_,rfl⟩:=g1i.mp hi
 cases b <;> simp [sel] <;> assumption
theorem Ve {s t:Nat} (hs:s < n) (ht:t < n) (x y:List Bool) (b:Bool):Eqv (zc ts) n ((x++y).map (sel s t)) ((x++b :: b :: y).map (sel s t)):=by
 rw [g0y,g0y]
 refine (Eqv.rfl' _).app ?_
 have hb:sel s t b < n:=Hk hs ht [b] _ (by simp)
 have:=(Eqv.twice (n:=n) (zH ts) hb).symm.app (Eqv.rfl' (A:=zc ts) (y.map (sel s t)))
 simpa using this
theorem Ha {s t:Nat} (hst:s≠t) (hs:s < n) (ht:t < n) {m:Nat} (em:zg ts s t=(m:Int)) (hm:2<=m/\m<=6):Eqv (zc ts) n ((alt m).map (sel s t)) ((alt m).map (sel t s)):=by
 have h2:=zH ts
 obtain ⟨p1,p2⟩:=Ym ts hst
 rw [em] at p1 p2
 obtain ⟨b1,b2⟩:=kZ (decide (s < t)) hm
 rw [<- p1,<- p2] at b1 b2
 rw [Yu s t]
 exact qE (n:=n) hst (h2 s) (h2 t) hs ht b1 b2
theorem HY {s t:Nat} (hst:s≠t) (hs:s < n) (ht:t < n) {m k:Nat} (em:zg ts s t=(m:Int)) (hm:2<=m/\m<=6) (h:Sh ts n ((alt k).map (sel s t))):k<=m:=by
 apply Nat.not_lt.mp
 intro hlt
 obtain ⟨pre,e⟩:=Zc (m:=m+1) (k:=k) (by omega)
 obtain ⟨j,rfl⟩:∃ j,m=j+1:=⟨m - 1,by omega⟩
 have e1:(alt (j+1)).map (!·)=decide ((j+1) % 2=1) :: (alt j).map (!·):=by
  rw [alt,g0h]
  congr 1
  by_cases c:j % 2=1
  ·have c2:¬ ((j+1) % 2=1):=by omega
   simp [c,c2]
  ·have c2:(j+1) % 2=1:=by omega
   simp [c,c2]
 have br:=Ha (ts:=ts) (n:=n) hst hs ht em hm
 rw [Yu s t,e1] at br
 have e2:Eqv (zc ts) n ((pre++(alt j).map (!·)).map (sel s t)) ((alt k).map (sel s t)):=by
  rw [e,alt]
  refine (Ve hs ht pre ((alt j).map (!·)) (decide ((j+1) % 2=1))).trans ?_
  rw [g0y,g0y,g0h,g0h (l:=alt (j+1))]
  refine (Eqv.rfl' _).app ?_
  exact (Eqv.rfl' [sel s t (decide ((j+1) % 2=1))]).app br.symm
 have:=h.2.le (Hk hs ht _) e2
 have hk:=congrArg List.length e
 rw [g0g,wa,wa] at hk
 simp only [g0f,g0g,wa] at this
 omega
variable (hg:yg ts)
include hg
theorem Do {s t:Nat} (hst:s≠t) (hs:s < n) (ht:t < n) {o:List Nat} {k:Nat} (h:Sh ts n (o++(alt k).map (sel s t))) (h1:NNr (zO (zc ts) o (zE n s))) (h2:NNr (zO (zc ts) o (zE n t))) (hd:NPr (zO (zc ts) (o++(alt k).map (sel s t)) (zE n s))):∃ m:Nat,zg ts s t=(m:Int)/\(2<=m/\m<=6)/\k=m:=by
 have hp2:=zH ts
 have ho:InW n o:=h.1.left
 have hsi:Sh ts n ((alt k).map (sel s t)):=Sh.cut (a:=o) (b:=(alt k).map (sel s t)) (c:=[]) (by simpa using h)
 obtain ⟨p1,p2⟩:=Ym ts hst
 have no:¬ PQ (pqA (zc ts s t) (zc ts t s) k):=fun hpq=>by
  have le:=WA hst (hp2 s) (hp2 t) hs ht k
  have hnn:NNr (zO (zc ts) (o++(alt k).map (sel s t)) (zE n s)):=by
   rw [yx,le]
   refine Mf ho (yz _ _ _ _ _) (fun j=>?_) fun j hj=>?_
   ·by_cases hj:j < n
    ·rw [wG _ _ hj]
     refine Vi ?_ ?_
     ·split
      ·exact hpq.1
      ·exact Wr
     ·split
      ·exact hpq.2.1
      ·exact Wr
    ·rw [g0d,g1x (by rw [yz]; omega)]
     exact Wr
   ·by_cases c1:j=s
    ·subst c1; exact .inr h1
    ·by_cases c2:j=t
     ·subst c2; exact .inr h2
     ·left
      rw [wG _ _ hj,if_neg c1,if_neg c2,wq]
  exact hnn.notP (vG h.1 hs) hd
 rcases vg hg (s:Int) (t:Int) with g0 | gt
 ·rw [g0] at p1 p2
  have q1:zS 0 (decide (s < t))=(-2,0):=by cases decide (s < t) <;> rfl
  have q2:zS 0 (!decide (s < t))=(-2,0):=by cases decide (s < t) <;> rfl
  rw [p1,p2,q1,q2] at no
  exact absurd (kj k) no
 ·obtain ⟨m,em⟩:∃ m:Nat,zg ts s t=(m:Int):=⟨(zg ts s t).toNat,by omega⟩
  rw [em] at p1 p2 gt
  have hm:2<=m/\m<=6:=by omega
  refine ⟨m,em,hm,Nat.le_antisymm (HY hst hs ht em hm hsi) (Nat.not_lt.mp fun hlt=>?_)⟩
  rw [p1,p2] at no
  exact no (Ht _ hm hlt)
theorem Kn {v:List Nat} (hv:Sh ts n v) {s t:Nat} (hst:s≠t) (hs:s < n) (ht:t < n) (d1:NPr (zO (zc ts) v (zE n s))) (d2:NPr (zO (zc ts) v (zE n t))) :
  ∃ (c:List Nat) (m:Nat),zg ts s t=(m:Int)/\(2<=m/\m<=6)/\InW n c/\Sh ts n (c++(alt m).map (sel s t))/\Eqv (zc ts) n (c++(alt m).map (sel s t)) v/\Sh ts n (c++(alt m).map (sel t s))/\Eqv (zc ts) n (c++(alt m).map (sel t s)) v:=by
 have hp2:=zH ts
 obtain ⟨_,o,i,_,_,_,_,_,r6,r7,r8,r9,r10,r11,_,_,_,_⟩:=By hg (part:=[s,t]) (fun x hx=>by
  have:x=s\/x=t:=by simpa using hx
  rcases this with rfl | rfl <;> assumption) hv.1
 have os:=r11 s (by simp)
 have ot:=r11 t (by simp)
 have hsh:Sh ts n (o++i):=⟨r6.app r7,r10⟩
 have hi:Sh ts n i:=Sh.cut (a:=o) (b:=i) (c:=[]) (by simpa using hsh)
 obtain ⟨a,ha⟩:∃ a:List Bool,i=a.map (sel s t):=⟨i.map fun x=>decide (x=s),by
  rw [g1h]
  have:i.map (sel s t ∘ fun x=>decide (x=s))=i.map id:=by
   apply g1r
   intro x hx
   have:x=s\/x=t:=by simpa using r8 x hx
   rcases this with rfl | rfl
   ·simp [sel]
   ·simp [sel,Ne.symm hst]
  rw [this,List.map_id]⟩
 subst ha
 have a1:∀ x b y,a≠x++b :: b :: y:=fun x b y e=>by
  have:=hi.2.le (Hk hs ht (x++y)) (by rw [e]; exact Ve hs ht x y b)
  rw [e] at this
  simp only [g0f,g0g,g0e] at this
  omega
 have fin:∀ {s t:Nat},s≠t->s < n->t < n->NPr (zO (zc ts) v (zE n s))->NNr (zO (zc ts) o (zE n s))->NNr (zO (zc ts) o (zE n t))->∀ k,Sh ts n (o++(alt k).map (sel s t))->Eqv (zc ts) n (o++(alt k).map (sel s t)) v →
   ∃ m:Nat,zg ts s t=(m:Int)/\(2<=m/\m<=6)/\Sh ts n (o++(alt m).map (sel s t))/\Eqv (zc ts) n (o++(alt m).map (sel s t)) v/\Sh ts n (o++(alt m).map (sel t s))/\Eqv (zc ts) n (o++(alt m).map (sel t s)) v:=by
  intro s t hst hs ht d1 os ot k h1 h2
  obtain ⟨m,em,hm,rfl⟩:=Do hg hst hs ht h1 os ot (by rw [h2 _ (ze n s)]; exact d1)
  have br:=(Eqv.rfl' (A:=zc ts) (n:=n) o).app (Ha (ts:=ts) (n:=n) hst hs ht em hm)
  refine ⟨k,em,hm,h1,h2,⟨r6.app (Hk ht hs _),?_⟩,br.symm.trans h2⟩
  have l:(o++(alt k).map (sel t s)).length=(o++(alt k).map (sel s t)).length:=by simp
  rw [l]
  exact h1.2.cong br
 by_cases c:∃ x,a=x++[true]
 ·obtain ⟨x,hx⟩:=c
  have e:a.map (!·)=alt (a.map (!·)).length:=VZ _ (fun x b y e=>by
   have e2:=congrArg (g2z (!·)) e
   rw [g1h] at e2
   have e3:(a.map ((!·) ∘ (!·)))=a:=by
    have:((fun b:Bool => !b) ∘ fun b => !b)=id:=by funext b; simp
    rw [this,List.map_id]
   rw [e3] at e2
   exact a1 (x.map (!·)) (!b) (y.map (!·)) (by simpa using e2)) (fun y e=>by
   have e2:=congrArg List.getLast? e
   rw [hx] at e2
   simp at e2)
  have e4:a.map (sel s t)=(alt (a.map (!·)).length).map (sel t s):=by
   rw [<- e,Yu t s,g1h]
  rw [e4] at hsh r9
  obtain ⟨m,em,hm,g1,g2,g3,g4⟩:=fin (Ne.symm hst) ht hs d2 ot os _ hsh r9
  exact ⟨o,m,by rw [yE]; exact em,hm,r6,g3,g4,g1,g2⟩
 ·have e:=VZ a a1 fun x e=>c ⟨x,e⟩
  rw [e] at hsh r9
  obtain ⟨m,em,hm,g1,g2,g3,g4⟩:=fin hst hs ht d1 os ot _ hsh r9
  exact ⟨o,m,em,hm,r6,g1,g2,g3,g4⟩
theorem QX {a:List Nat} {s:Nat} (h:Sh ts n (a++[s])):NPr (zO (zc ts) (a++[s]) (zE n s)):=Cq hg h.1.left (h.1 s (by simp)) (Sh.up hg h)
end
def w6 (i j m:Nat):List Nat:=(g0t m).map fun k=>if k % 2=0 then i else j
theorem wb (i j m:Nat):(w6 i j m).length=m:=by simp [w6]
theorem J7 (i j:Nat) {k m:Nat} (h:k<=m):(w6 i j m).take k=w6 i j k:=by
 unfold w6
 rw [<- List.map_take,List.take_range,Nat.min_eq_left h]
theorem J6:∀ m,(alt m).reverse=(g0t m).map fun k=>decide (k % 2=1)
 | 0=>rfl
 | m+1=>by
  rw [alt,g3c,J6 m,List.range_succ,g0y]
  rfl
theorem uX (s t m:Nat):((alt m).map (sel s t)).reverse=w6 t s m:=by
 rw [<- List.map_reverse,J6,g1h]
 unfold w6
 apply g1r
 intro k _
 simp only [Function.comp,sel]
 by_cases c:k % 2=1
 ·have:¬ (k % 2=0):=by omega
  simp [c]
 ·have c2:k % 2=0:=by omega
  simp [c2]
section
variable {ts:List T3} {n:Nat}
def Dn (ts:List T3) (n:Nat) (s:List Nat) (t:Nat):Prop:=∃ r,InW n r/\Eqv (zc ts) n (t :: r) s/\r.length+1=s.length
theorem Sh.of {s u:List Nat} (h:Sh ts n s) (hu:InW n u) (e:Eqv (zc ts) n u s) (hl:u.length=s.length):Sh ts n u:=⟨hu,by rw [hl]; exact h.2.cong e.symm⟩
theorem GR {x a b:List Nat} (hx:InW n x) (e:Eqv (zc ts) n (x++a) (x++b)):Eqv (zc ts) n a b:=by
 have h2:=zH ts
 have k:∀ y:List Nat,Eqv (zc ts) n (x.reverse++(x++y)) y:=fun y=>by
  have:=(YF h2 hx).app (Eqv.rfl' (A:=zc ts) (n:=n) y)
  rw [g1a] at this
  exact this
 exact (k a).symm.trans (((Eqv.rfl' x.reverse).app e).trans (k b))
theorem YO {i j:Nat} (hi:i < n) (hj:j < n) (m:Nat):InW n (w6 i j m):=fun k hk=>by
 obtain ⟨a,_,rfl⟩:=g1i.mp hk
 split <;> assumption
variable (hg:yg ts)
include hg
theorem Dn.np {s:List Nat} {t:Nat} (hs:Sh ts n s) (ht:t < n) (h:Dn ts n s t):NPr (zO (zc ts) s.reverse (zE n t)):=by
 obtain ⟨r,h1,h2,h3⟩:=h
 have hr:Sh ts n (t :: r):=hs.of (InW.cons ht h1) h2 (by simpa using h3)
 have h4:=hr.rev
 rw [g3c] at h4
 have h5:=QX hg h4
 refine Cr hg ?_ h5
 have:=Eqv.rev (zH ts) hr.1 hs.1 h2
 rw [g3c] at this
 exact this
theorem Km {s:List Nat} (hs:Sh ts n s) {f t:Nat} (hft:f≠t) (hf:f < n) (ht:t < n) (d1:Dn ts n s f) (d2:Dn ts n s t) :
  ∃ (c:List Nat) (m:Nat),zg ts f t=(m:Int)/\(2<=m/\m<=6)/\InW n c/\Eqv (zc ts) n (w6 f t m++c) s/\Eqv (zc ts) n (w6 f t m) (w6 t f m)/\m+c.length=s.length:=by
 obtain ⟨c,m,em,hm,hc,g1,g2,g3,g4⟩:=Kn hg hs.rev (Ne.symm hft) ht hf (d2.np hg hs ht) (d1.np hg hs hf)
 have em':zg ts f t=(m:Int):=by rw [yE]; exact em
 have e1:=Eqv.rev (zH ts) g1.1 hs.1.rev g2
 rw [g3r,uX,g2i] at e1
 have br:=Ha (ts:=ts) (n:=n) (Ne.symm hft) ht hf em hm
 have e2:=Eqv.rev (zH ts) (Hk ht hf _) (Hk hf ht _) br
 rw [uX,uX] at e2
 refine ⟨c.reverse,m,em',hm,hc.rev,e1,e2,?_⟩
 have l1:=g1.2.uniq (hs.rev.2.cong g2.symm)
 simp only [g0g,g0f,wa,g2c] at l1 ⊢
 omega
omit hg in
theorem Dn.head {f:Nat} {r:List Nat} (h:InW n (f :: r)):Dn ts n (f :: r) f:=⟨r,fun x hx=>h x (g0m _ hx),Eqv.rfl' _,rfl⟩
theorem Gk {s c x:List Nat} (hs:Sh ts n s) {f t m k:Nat} (hf:f < n) (ht:t < n) (hk:k < m) (hc:InW n c) (e:Eqv (zc ts) n (w6 f t m++c) s) (hl:m+c.length=s.length) (hx:InW n x) (ex:Eqv (zc ts) n (w6 f t k++x) s) (hxl:k+x.length=s.length) :
  Sh ts n x/\Dn ts n x (if k % 2=0 then f else t):=by
 have ha:=YO hf ht (n:=n) k
 have h1:Sh ts n (w6 f t k++x):=hs.of (ha.app hx) ex (by rw [g0g,wb]; exact hxl)
 have h2:Sh ts n x:=Sh.cut (a:=w6 f t k) (b:=x) (c:=[]) (by simpa using h1)
 refine ⟨h2,?_⟩
 have e1:w6 f t m=w6 f t k++(w6 f t m).drop k:=by
  rw [<- J7 f t (Nat.le_of_lt hk),List.take_append_drop]
 have e2:(w6 f t m).drop k=(if k % 2=0 then f else t) :: (w6 f t m).drop (k+1):=by
  rw [g2f (by rw [wb]; exact hk)]
  congr 1
  simp [w6]
 have e3:Eqv (zc ts) n (w6 f t k++x) (w6 f t k++((w6 f t m).drop k++c)):=by
  rw [<- g1a,<- e1]
  exact ex.trans e.symm
 have e4:=GR ha e3
 rw [e2] at e4
 refine ⟨(w6 f t m).drop (k+1)++c,?_,e4.symm,?_⟩
 ·exact InW.app (fun y hy=>YO hf ht m y (g2p hy)) hc
 ·rw [g0g,g3j,wb]
  omega
theorem QG {s:List Nat} (hs:Sh ts n s) {a:Nat} (ha:a < n) (h:¬ Sh ts n (a :: s)):Dn ts n s a:=by
 have h2:=zH ts
 have hl:=hs.2.rev hs.1
 rcases xu hg hs.1.rev ha hl with ⟨_,k⟩ | ⟨_,k0,k⟩
 ·exfalso
  apply h
  have hw:InW n (s.reverse++[a]):=hs.1.rev.app (InW.one ha)
  have:=k.rev hw
  rw [g3r,g2i] at this
  exact ⟨InW.cons ha hs.1,this⟩
 ·have hw:InW n (s.reverse++[a]):=hs.1.rev.app (InW.one ha)
  have:=k.rev hw
  rw [g3r,g2i] at this
  obtain ⟨u,u1,u2,u3⟩:=this
  refine ⟨u,u1.1,?_,by omega⟩
  have e:Eqv (zc ts) n ([a]++u) ([a]++([a]++s)):=(Eqv.rfl' [a]).app u2
  have e2:Eqv (zc ts) n ([a,a]++s) ([]++s):=(Eqv.twice h2 ha).app (Eqv.rfl' s)
  exact e.trans e2
theorem j9 {w:List Nat} (hw:InW n w):(uf ts n [] w).all id=true↔Sh ts n w:=by
 obtain ⟨l,hl⟩:=Lth.ex (ts:=ts) hw
 have h1:=Kr hg hw hl
 obtain ⟨h2,h3,h4⟩:=U2 (uf ts n [] w)
 rw [qk] at h3
 rw [<- h3,h1]
 constructor
 ·intro e
  have:l=w.length:=by omega
  subst this
  exact ⟨hw,hl⟩
 ·intro h
  have:=hl.uniq h.2
  omega
end
def nbM (t:Int->Int->Int) (x:Int) (os:List Int):List Int:=os.filter fun o=>decide (o≠x)&&decide (t x o≠2)
def woM (os:List Int) (x:Int):List Int:=os.filter fun o=>decide (o≠x)
def chG (t:Int->Int->Int):Nat->Int->List Int->Option (List Int)
 | 0,_,_=>some []
 | n+1,x,left=>if left=[] then some [] else match nbM t x left with
  | [y]=>(chG t n y (woM left y)).map (y :: ·)
  | _=>none
def vb (t:Int->Int->Int) (ms:List Int) (f:Int):Option (List Int):=(chG t ms.length f (woM ms f)).map (f :: ·)
def yI (t:Int->Int->Int) (ms:List Int):List (List Int):=ms.filterMap (vb t ms)
def x5 (t:Int->Int->Int) (o:List Int):List Int:=List.zipWith t o (o.drop 1)
abbrev Kd:=Nat×Nat
def CQ (ts:List Int):Kd :=
 if ts=g0l ts.length 3 then (1,ts.length+1)
 else if ts=g0l (ts.length - 1) 3++[4] then (2,ts.length+1)
 else if ts=[3,4,3] then (6,4) else if ts=[3,5] then (8,3) else if ts=[3,3,5] then (8,4)
 else if ts=[5] then (9,5) else if ts=[6] then (9,6) else (0,0)
def qB (o:List Int) (y:Int):Kd :=
 if 4<=o.length+1/\o[1]? = some y then (4,o.length+1) else if o.length+1=6/\o[2]? = some y then (5,6) else (0,0)
def Kh (t:Int->Int->Int) (ms:List Int):List Kd:=(yI t ms).map fun o=>CQ (x5 t o)
def Gv (t:Int->Int->Int) (ms:List Int):List Kd:=ms.flatMap fun e=>match nbM t e ms with
 | [y]=>(yI t (woM ms e)).map fun o=>qB o y
 | _=>[]
def ve (t:Int->Int->Int) (three:Bool) (ms:List Int):List Kd:=Kh t ms++if three then Gv t ms else []
structure Rlb (t t':Int->Int->Int) (φ:Int->Int) (S:List Int):Prop where
 tt:∀ i∈S,∀ j∈S,t' (φ i) (φ j)=t i j
 inj:∀ i∈S,∀ j∈S,φ i=φ j->i=j
section
variable {t t':Int->Int->Int} {φ:Int->Int} {S:List Int}
theorem QM (R:Rlb t t' φ S) {x:Int} {l l':List Int} (hx:x∈S) (hl:∀ y∈l,y∈S) (hp:l'.Perm (l.map φ)):(nbM t' (φ x) l').Perm ((nbM t x l).map φ):=by
 unfold nbM
 refine (hp.filter _).trans ?_
 rw [List.filter_map]
 refine List.Perm.of_eq (congrArg _ (g2t fun y hy=>?_))
 show (decide (φ y≠φ x)&&decide (t' (φ x) (φ y)≠2))=_
 rw [R.tt x hx y (hl y hy)]
 have:(φ y≠φ x)↔(y≠x):=⟨fun h e=>h (by rw [e]),fun h e=>h (R.inj y (hl y hy) x hx e)⟩
 rw [decide_eq_decide.mpr this]
theorem Wc (R:Rlb t t' φ S) {x:Int} {l l':List Int} (hx:x∈S) (hl:∀ y∈l,y∈S) (hp:l'.Perm (l.map φ)):(woM l' (φ x)).Perm ((woM l x).map φ):=by
 unfold woM
 refine (hp.filter _).trans ?_
 rw [List.filter_map]
 refine List.Perm.of_eq (congrArg _ (g2t fun y hy=>?_))
 have:(φ y≠φ x)↔(y≠x):=⟨fun h e=>h (by rw [e]),fun h e=>h (R.inj y (hl y hy) x hx e)⟩
 exact decide_eq_decide.mpr this
theorem Yt {x y:Int} {l:List Int} (h:y∈nbM t x l):y∈l:=(g1k.mp h).1
theorem qU {x y:Int} {l:List Int} (h:y∈woM l x):y∈l:=(g1k.mp h).1
theorem JU (R:Rlb t t' φ S):∀ (n:Nat) (x:Int) (l l':List Int),x∈S->(∀ y∈l,y∈S)->l'.Perm (l.map φ)->chG t' n (φ x) l'=(chG t n x l).map (g2z φ)
 | 0,_,_,_,_,_,_=>rfl
 | n+1,x,l,l',hx,hl,hp=>by
  have hn:=QM R hx hl hp
  unfold chG
  by_cases e:l=[]
  ·subst e
   have:l'=[]:=List.perm_nil.mp hp
   subst this
   rfl
  ·have e':l'≠[]:=fun z=>by
    subst z
    have:=hp.length_eq
    rw [g0f] at this
    exact e (g3a.mp this.symm)
   rw [if_neg e,if_neg e']
   cases h:nbM t x l with
   | nil =>
    rw [h] at hn
    rw [List.perm_nil.mp hn]
    rfl
   | cons y r =>
    rw [h] at hn
    cases r with
    | nil =>
     rw [List.perm_singleton.mp hn]
     have hy:y∈l:=Yt (t:=t) (x:=x) (by rw [h]; exact g0i)
     show Option.map (φ y :: ·) (chG t' n (φ y) (woM l' (φ y)))=Option.map (g2z φ) (Option.map (y :: ·) (chG t n y (woM l y)))
     rw [JU R n y _ _ (hl y hy) (fun z hz=>hl z (qU hz)) (Wc R (hl y hy) hl hp)]
     cases chG t n y (woM l y) <;> rfl
    | cons z r =>
     have hlen:=hn.length_eq
     cases h':nbM t' (φ x) l' with
     | nil=>rfl
     | cons a r' =>
      cases r' with
      | nil=>rw [h'] at hlen; simp at hlen
      | cons b r'=>rfl
theorem JT:∀ {n:Nat} {x:Int} {l o:List Int},chG t n x l=some o->∀ y∈o,y∈l
 | 0,x,l,o,h,y,hy=>by cases h; cases hy
 | n+1,x,l,o,h,y,hy=>by
  unfold chG at h
  split at h
  ·cases h; cases hy
  ·split at h
   ·rename_i z e
    obtain ⟨o',e',rfl⟩:=g1v.mp h
    rcases g0o.mp hy with rfl | hy
    ·exact Yt (t:=t) (x:=x) (by rw [e]; exact g0i)
    ·exact qU (JT e' y hy)
   ·cases h
theorem Z2 (R:Rlb t t' φ S) {ms ms':List Int} {f:Int} (hf:f∈S) (hm:∀ y∈ms,y∈S) (hp:ms'.Perm (ms.map φ)):vb t' ms' (φ f)=(vb t ms f).map (g2z φ):=by
 unfold vb
 have e:ms'.length=ms.length:=by rw [hp.length_eq,g0f]
 rw [e,JU R ms.length f (woM ms f) _ hf (fun y hy=>hm y (qU hy)) (Wc R hf hm hp)]
 cases chG t ms.length f (woM ms f) <;> rfl
theorem UR {ms o:List Int} {f:Int} (hf:f∈ms) (h:vb t ms f=some o):∀ y∈o,y∈ms:=by
 obtain ⟨o',e,rfl⟩:=g1v.mp h
 intro y hy
 rcases g0o.mp hy with rfl | hy
 ·exact hf
 ·exact qU (JT e y hy)
theorem uV (R:Rlb t t' φ S) {ms ms':List Int} (hm:∀ y∈ms,y∈S) (hp:ms'.Perm (ms.map φ)) {o':List Int}:o'∈yI t' ms'↔∃ o∈yI t ms,o'=o.map φ:=by
 unfold yI
 rw [g2k]
 constructor
 ·rintro ⟨f',hf',e⟩
  obtain ⟨f,hf,rfl⟩:=g1i.mp (hp.subset hf')
  rw [Z2 R (hm f hf) hm hp] at e
  obtain ⟨o,e2,rfl⟩:=g1v.mp e
  exact ⟨o,g2k.mpr ⟨f,hf,e2⟩,rfl⟩
 ·rintro ⟨o,ho,rfl⟩
  obtain ⟨f,hf,e⟩:=g2k.mp ho
  refine ⟨φ f,hp.symm.subset (List.mem_map_of_mem hf),?_⟩
  rw [Z2 R (hm f hf) hm hp,e]
  rfl
theorem uU {ms o:List Int} (h:o∈yI t ms):∀ y∈o,y∈ms:=by
 obtain ⟨f,hf,e⟩:=g2k.mp h
 exact UR hf e
theorem X4 (R:Rlb t t' φ S) {o:List Int} (ho:∀ y∈o,y∈S):x5 t' (o.map φ)=x5 t o:=by
 unfold x5
 rw [<- List.map_drop,List.zipWith_map]
 have:∀ (a b:List Int),(∀ y∈a,y∈S)->(∀ y∈b,y∈S)->List.zipWith (fun x y=>t' (φ x) (φ y)) a b=List.zipWith t a b:=by
  intro a
  induction a with
  | nil=>intro b _ _; simp
  | cons x a ih =>
   intro b ha hb
   cases b with
   | nil=>simp
   | cons y b =>
    rw [List.zipWith_cons_cons,List.zipWith_cons_cons,R.tt x (ha x g0i) y (hb y g0i),ih b (fun z hz=>ha z (g0m _ hz)) (fun z hz=>hb z (g0m _ hz))]
 exact this o (o.drop 1) ho fun y hy=>ho y (g2p hy)
theorem Vr (R:Rlb t t' φ S) {o:List Int} {y:Int} (ho:∀ y∈o,y∈S) (hy:y∈S):qB (o.map φ) (φ y)=qB o y:=by
 have q:∀ i:Nat,((o.map φ)[i]? = some (φ y))↔(o[i]? = some y):=fun i=>by
  rw [g0z]
  constructor
  ·intro h
   obtain ⟨z,e,h⟩:=g1v.mp h
   rw [e,R.inj z (ho z (g1y e)) y hy h]
  ·intro h; rw [h]; rfl
 unfold qB
 rw [g0f]
 simp only [q]
theorem CM (R:Rlb t t' φ S) {ms ms':List Int} (hm:∀ y∈ms,y∈S) (hp:ms'.Perm (ms.map φ)) {k:Kd}:k∈Kh t' ms'↔k∈Kh t ms:=by
 unfold Kh
 rw [g1i,g1i]
 constructor
 ·rintro ⟨o',ho',rfl⟩
  obtain ⟨o,ho,rfl⟩:=(uV R hm hp).mp ho'
  exact ⟨o,ho,by rw [X4 R fun y hy=>hm y (uU ho y hy)]⟩
 ·rintro ⟨o,ho,rfl⟩
  exact ⟨o.map φ,(uV R hm hp).mpr ⟨o,ho,rfl⟩,by rw [X4 R fun y hy=>hm y (uU ho y hy)]⟩
theorem Q2 (R:Rlb t t' φ S) {ms ms':List Int} (hm:∀ y∈ms,y∈S) (hp:ms'.Perm (ms.map φ)) {e:Int} (he:e∈ms) {k:Kd} :
  (k∈(match nbM t' (φ e) ms' with | [y]=>(yI t' (woM ms' (φ e))).map (fun o=>qB o y) | _=>[]))↔(k∈(match nbM t e ms with | [y]=>(yI t (woM ms e)).map (fun o=>qB o y) | _=>[])):=by
 have hn:=QM R (hm e he) hm hp
 cases h:nbM t e ms with
 | nil =>
  rw [h] at hn
  rw [List.perm_nil.mp hn]
 | cons y r =>
  rw [h] at hn
  cases r with
  | nil =>
   rw [List.perm_singleton.mp hn]
   have hy:y∈ms:=Yt (t:=t) (x:=e) (by rw [h]; exact g0i)
   have hw:∀ z∈woM ms e,z∈S:=fun z hz=>hm z (qU hz)
   have hpw:=Wc R (hm e he) hm hp
   show k∈(yI t' (woM ms' (φ e))).map (fun o=>qB o (φ y))↔k∈(yI t (woM ms e)).map (fun o=>qB o y)
   rw [g1i,g1i]
   constructor
   ·rintro ⟨o',ho',rfl⟩
    obtain ⟨o,ho,rfl⟩:=(uV R hw hpw).mp ho'
    exact ⟨o,ho,by rw [Vr R (fun z hz=>hw z (uU ho z hz)) (hm y hy)]⟩
   ·rintro ⟨o,ho,rfl⟩
    exact ⟨o.map φ,(uV R hw hpw).mpr ⟨o,ho,rfl⟩,by rw [Vr R (fun z hz=>hw z (uU ho z hz)) (hm y hy)]⟩
  | cons z r =>
   have hlen:=hn.length_eq
   cases h':nbM t' (φ e) ms' with
   | nil=>exact Iff.rfl
   | cons a r' =>
    cases r' with
    | nil=>rw [h'] at hlen; simp at hlen
    | cons b r'=>exact Iff.rfl
theorem CI (R:Rlb t t' φ S) {ms ms':List Int} (hm:∀ y∈ms,y∈S) (hp:ms'.Perm (ms.map φ)) {k:Kd}:k∈Gv t' ms'↔k∈Gv t ms:=by
 unfold Gv
 rw [List.mem_flatMap,List.mem_flatMap]
 constructor
 ·rintro ⟨e',he',h⟩
  obtain ⟨e,he,rfl⟩:=g1i.mp (hp.subset he')
  exact ⟨e,he,(Q2 R hm hp he).mp h⟩
 ·rintro ⟨e,he,h⟩
  exact ⟨φ e,hp.symm.subset (List.mem_map_of_mem he),(Q2 R hm hp he).mpr h⟩
theorem Gx (R:Rlb t t' φ S) {ms ms':List Int} (hm:∀ y∈ms,y∈S) (hp:ms'.Perm (ms.map φ)) {b:Bool} {k:Kd}:k∈ve t' b ms'↔k∈ve t b ms:=by
 unfold ve
 rw [g1o,g1o,CM R hm hp]
 cases b with
 | false=>exact Iff.rfl
 | true=>exact or_congr Iff.rfl (CI R hm hp)
end
def xb (ts:List Int):List T3:=(List.zip (g0t ts.length) ts).map fun p=>((p.1:Int),(p.1:Int)+1,p.2)
def Ua (n:Nat):List T3:=(g0t n).map fun (k:Nat)=>(0,(k:Int)+1,3)
def r3 (n:Nat):List Int:=g0l n 3
abbrev Bk:=Kd×List T3
def Kj:Nat->List Bk
 | 1=>[((1,1),xb [])]
 | 2=>[((1,2),xb [3]),((2,2),xb [4]),((9,5),xb [5]),((9,6),xb [6]),((0,0),xb [0])]
 | 3=>[((1,3),xb [3,3]),((2,3),xb [3,4]),((8,3),xb [3,5]),((0,0),xb [3,0]),((0,0),xb [5,4]),((0,0),xb [4,4]),((0,0),xb [3,6]),((0,0),xb [3,3]++[(0,2,3)]),((0,0),xb [5,5])]
 | 4=>[((1,4),xb [3,3,3]),((2,4),xb [3,3,4]),((4,4),xb [3,3]++[(1,3,3)]),((8,4),xb [3,3,5]),((6,4),xb [3,4,3]),((0,0),xb [3,3,0]),((0,0),xb [5,3,4]),((0,0),xb [4,3,4]),((0,0),xb [3,3,6]),((0,0),xb [3,3,3]++[(0,3,3)]),
   ((0,0),xb [3,3]++[(1,3,4)]),((0,0),xb [3,5,3]),((0,0),Ua 3++[(1,2,3)])]
 | 5=>[((1,5),xb [3,3,3,3]),((2,5),xb [3,3,3,4]),((4,5),xb [3,3,3]++[(2,4,3)]),((0,0),xb [3,3,3,0]),((0,0),xb [5,3,3,4]),((0,0),xb [4,3,3,4]),((0,0),xb [3,3,3,6]),((0,0),xb [3,3,3,3]++[(0,4,3)]),((0,0),xb [3,3,3,5]),
   ((0,0),xb [3,3,3]++[(2,4,4)]),((0,0),xb [3,5,3,3]),((0,0),Ua 4++[(1,2,3)]),((0,0),Ua 4)]
 | 6=>[((1,6),xb [3,3,3,3,3]),((2,6),xb [3,3,3,3,4]),((4,6),xb [3,3,3,3]++[(3,5,3)]),((5,6),xb [3,3,3,3]++[(2,5,3)]),((0,0),xb [3,3,3,3,0]),((0,0),xb [5,3,3,3,4]),((0,0),xb [4,3,3,3,4]),((0,0),xb [3,3,3,3,6]),((0,0),xb [3,3,3,3,3]++[(0,5,3)]),((0,0),xb [3,3,3,3,5]),
   ((0,0),xb [3,3,3,3]++[(3,5,4)]),((0,0),xb [3,5,3,3,3]),((0,0),Ua 5++[(1,2,3)]),((0,0),Ua 5)]
 | _=>[]
def idx (n:Nat):List Int:=(g0t n).map fun (i:Nat)=>(i:Int)
def Hh (ts:List T3):Bool:=ts.all fun u=>decide (u.2.2=3)
def okB (k:Nat) (B:Bk):Bool :=
 (B.2.all fun u=>decide (0<=u.1)&&decide (u.1 < u.2.1)&&decide (u.2.1 < k)) &&
 ((g0t k).all fun v=>decide (v=0)||(g0t v).any fun u=>decide (zg B.2 u v≠2)) &&
 ((ve (zg B.2) (Hh B.2) (idx k)).all fun c=>decide (c=(0,0))||decide (c=B.1)) &&
 (decide (B.1=(0,0))||(ve (zg B.2) (Hh B.2) (idx k)).any fun c=>decide (c=B.1))
theorem RC:((Kj 1).all (okB 1))=true:=by decide +kernel
theorem RB:((Kj 2).all (okB 2))=true:=by decide +kernel
theorem RA:((Kj 3).all (okB 3))=true:=by decide +kernel
theorem Rz:((Kj 4).all (okB 4))=true:=by decide +kernel
theorem Ry:((Kj 5).all (okB 5))=true:=by decide +kernel
theorem Rx:((Kj 6).all (okB 6))=true:=by decide +kernel
theorem Co {k:Nat} {B:Bk} (h:B∈Kj k):okB k B=true:=by
 match k,h with
 | 0,h=>cases h
 | 1,h=>exact g0w.mp RC B h
 | 2,h=>exact g0w.mp RB B h
 | 3,h=>exact g0w.mp RA B h
 | 4,h=>exact g0w.mp Rz B h
 | 5,h=>exact g0w.mp Ry B h
 | 6,h=>exact g0w.mp Rx B h
 | n+7,h=>cases h
abbrev Blk:=Nat×Bk
def Kk (k:Nat) (ts:List T3):Prop:=∀ u∈ts,0<=u.1/\u.1 < u.2.1/\u.2.1 < k
abbrev Hit (i j:Int) (u:T3):Prop:=u.1=mlo i j/\u.2.1=mhi i j
theorem jM {i j:Int}:∀ {ts:List T3},(∀ u∈ts,¬ Hit i j u)->zg ts i j=2
 | [],_=>rfl
 | u :: ts,h=>by
  unfold zg
  rw [if_neg (h u g0i),jM fun v hv=>h v (g0m _ hv)]
theorem j6 {i j:Int} {b:List T3} (hb:∀ u∈b,¬ Hit i j u):∀ {a:List T3},zg (a++b) i j=zg a i j
 | []=>jM hb
 | u :: a=>by
  rw [g0u]
  unfold zg
  rw [j6 hb]
theorem j5 {i j:Int} {b:List T3}:∀ {a:List T3},(∀ u∈a,¬ Hit i j u)->zg (a++b) i j=zg b i j
 | [],_=>rfl
 | u :: a,h=>by
  rw [g0u]
  unfold zg
  rw [if_neg (h u g0i),j5 fun v hv=>h v (g0m _ hv)]
  cases b <;> simp [zg]
def In (p:Int×Blk) (x:Int):Prop:=p.1<=x/\x < p.1+p.2.1
theorem vX {n:Nat} {i:Int}:i∈idx n↔0<=i/\i < n:=by
 unfold idx
 rw [g1i]
 constructor
 ·rintro ⟨k,hk,rfl⟩
  have:=g1t.mp hk
  omega
 ·rintro ⟨h1,h2⟩
  exact ⟨i.toNat,g1t.mpr (by omega),by omega⟩
theorem vE (n:Nat):(idx n).Nodup:=by
 unfold idx List.Nodup
 rw [g2n]
 exact List.nodup_range.imp fun h e=>h (by omega)
theorem Gc {k:Nat} {B:Bk} (h:B∈Kj k):(∀ c∈ve (zg B.2) (Hh B.2) (idx k),c=(0,0)\/c=B.1)/\(B.1=(0,0)\/B.1∈ve (zg B.2) (Hh B.2) (idx k)):=by
 have h:=Co h
 unfold okB at h
 rw [g1p,g1p,g1p] at h
 refine ⟨fun c hc=>?_,?_⟩
 ·have:=g0w.mp h.1.2 c hc
  rw [g3w] at this
  exact this.imp of_decide_eq_true of_decide_eq_true
 ·have:=h.2
  rw [g3w] at this
  refine this.imp of_decide_eq_true fun z=>?_
  obtain ⟨c,hc,e⟩:=g2x.mp z
  rw [<- of_decide_eq_true e]
  exact hc
section
variable {bs:List Blk} {σ:Int->Int} {p:Int×Blk}
def ZE (ts:List T3) (ms:List Int):Bool:=(ts.filter fun u=>decide (u.1∈ms)).all fun u=>decide (u.2.2=3)
theorem Mc (a b:Int):mlo a b=a\/mlo a b=b:=by unfold mlo; split <;> simp
end
def js (t:Int->Int->Int):Nat->List Int->List Int->Nat->List Int
 | 0,part,_,_=>part
 | n+1,part,left,p=>match part[p]? with
  | none=>part
  | some x=>js t n (part++nbM t x left) (left.filter fun o=>decide (o∉nbM t x left)) (p+1)
theorem VW {t:Int->Int->Int} {R S:List Int} (hR:R.Nodup) (hS:∀ x∈S,∀ y∈R,y∉S->t x y=2) :
  ∀ (n:Nat) (part left:List Int) (p:Nat),(part++left).Perm R->(∀ x∈part,x∈S)->(∀ q,q < p->∀ x,part[q]? = some x->∀ y∈left,t x y=2)->R.length<=n+p →
   (∀ x∈part,x∈js t n part left p)/\(js t n part left p).Nodup/\(∀ x∈js t n part left p,x∈S)/\∀ x∈js t n part left p,∀ y∈R,y∉js t n part left p->t x y=2
 | n,part,left,p,h1,h2,h3,h4=>by
  have hn:(part++left).Nodup:=h1.nodup_iff.mpr hR
  have hl:=h1.length_eq
  rw [g0g] at hl
  have stop:part.length<=p->(∀ x∈part,x∈part)/\part.Nodup/\(∀ x∈part,x∈S)/\∀ x∈part,∀ y∈R,y∉part->t x y=2:=fun hp=>by
   refine ⟨fun _ h=>h,(g2u.mp hn).1,h2,fun x hx y hy hy'=>?_⟩
   obtain ⟨q,hq,e⟩:=g2q.mp hx
   refine h3 q (by omega) x (by rw [g0p hq,e]) y ?_
   rcases g1o.mp (h1.mem_iff.mpr hy) with z | z
   ·exact absurd z hy'
   ·exact z
  cases n with
  | zero=>exact stop (by omega)
  | succ n =>
   unfold js
   cases e:part[p]? with
   | none=>exact stop (g3n.mp e)
   | some x =>
    have hx:x∈part:=g1y e
    have hf:∀ o∈left,(decide (o∉nbM t x left)) = !(decide (o≠x)&&decide (t x o≠2)):=fun o ho=>by
     have:o∈nbM t x left↔(decide (o≠x)&&decide (t x o≠2))=true:=by
      unfold nbM; rw [g1k]; exact ⟨fun z=>z.2,fun z=>⟨ho,z⟩⟩
     cases c:(decide (o≠x)&&decide (t x o≠2)) with
     | true=>rw [c] at this; simpa using this
     | false=>rw [c] at this; simpa using this
    have hp':((part++nbM t x left)++left.filter fun o=>decide (o∉nbM t x left)).Perm R:=by
     rw [g1a]
     refine (List.Perm.append_left part ?_).trans h1
     rw [g2t hf]
     exact List.filter_append_perm _ _
    have hsub:∀ y∈nbM t x left,y∈S:=fun y hy=>by
     unfold nbM at hy
     obtain ⟨hy,hd⟩:=g1k.mp hy
     rw [g1p] at hd
     refine Classical.byContradiction fun z=>of_decide_eq_true hd.2 (hS x (h2 x hx) y (h1.mem_iff.mp (g1c _ hy)) z)
    obtain ⟨a1,a2,a3,a4⟩:=VW hR hS n (part++nbM t x left) (left.filter fun o=>decide (o∉nbM t x left)) (p+1) hp' (fun y hy=>(g1o.mp hy).elim (h2 y) (hsub y)) (fun q hq z ez y hy=>by
      obtain ⟨hyl,hd⟩:=g1k.mp hy
      have hpl:p < part.length:=(g0v.mp e).1
      rw [g1e (by omega)] at ez
      by_cases c:q=p
      ·subst c
       rw [e] at ez
       cases ez
       rw [hf y hyl] at hd
       have hne:y≠x:=fun z=>by
        subst z
        exact (g2u.mp hn).2.2 y hx y hyl rfl
       simpa [hne] using hd
      ·exact h3 q (by omega) z ez y hyl) (by omega)
    exact ⟨fun y hy=>a1 y (g1w _ hy),a2,a3,a4⟩
theorem vU {a b:List Int} (ha:a.Nodup) (hb:b.Nodup) (h:∀ x,x∈a↔x∈b):a.Perm b:=(List.perm_ext_iff_of_nodup ha hb).mpr h
def xK (t:Int->Int->Int) (n:Nat) (x:Int):List Int:=js t n [x] (woM (idx n) x) 0
def Ka (ts:List T3) (n:Nat) (r:List Gd):Prop:=∃ u i,InW n u/\i < n/\r=zO (zc ts) u (zE n i)
def ZP (r:List Gd):List Gd:=r.map yS
section
variable {ts:List T3} {n:Nat}
theorem Wu (r:List Gd):(ZP r).length=r.length:=by simp [ZP]
theorem qy (r:List Gd):ZP (ZP r)=r:=by
 unfold ZP
 rw [g1h]
 have:(yS ∘ yS)=id:=by funext x; exact kI x
 rw [this,List.map_id]
theorem Ys (r:List Gd) (k:Nat):(ZP r).getD k (0,0)=yS (r.getD k (0,0)):=by
 unfold ZP
 rw [g0d,g0d,g0z]
 cases r[k]? with
 | none=>rfl
 | some x=>rfl
theorem QI (r:List Gd):ZP r=rsc (-1,0) r:=by
 unfold ZP rsc
 apply g1r
 intro x _
 simp [yh,yS]
theorem Vo {w:List Nat} {r:List Gd} (hw:InW r.length w):zO (zc ts) w (ZP r)=ZP (zO (zc ts) w r):=by
 rw [QI,QI,wN _ _ _ hw]
theorem WW {r:List Gd}:NNr (ZP r)↔NPr r:=by
 unfold NNr NPr
 exact ⟨fun h k=>by have:=h k; rwa [Ys] at this,fun h k=>by rw [Ys]; exact h k⟩
theorem Ds {r:List Gd}:NPr (ZP r)↔NNr r:=by
 rw [<- WW,qy]
theorem Ka.one (hg:yg ts) {r:List Gd} (h:Ka ts n r):NNr r\/NPr r:=by
 obtain ⟨u,i,hu,hi,rfl⟩:=h
 exact uP hg hu hi
theorem Ka.nz {r:List Gd} (h:Ka ts n r):Nz r:=by
 obtain ⟨u,i,hu,hi,rfl⟩:=h
 exact vG hu hi
theorem Ka.not {r:List Gd} (h:Ka ts n r) (h1:NNr r):¬ NPr r:=h1.notP h.nz
theorem Xb (hg:yg ts) {v:List Nat} (hv:InW n v) {r:List Gd} (hr:Ka ts n r) (h0:NNr r) (h:NPr (zO (zc ts) v r)):∃ a,a < v.length/\w8 ts n v a=r:=by
 obtain ⟨u,i,hu,hi,er⟩:=hr
 have key:∀ (k a:Nat),a+k=v.length->NPr (zO (zc ts) (v.drop a) r)->∃ b,a<=b/\b < v.length/\w8 ts n v b=r:=by
  intro k
  induction k with
  | zero =>
   intro a ha hn
   have:v.drop a=[]:=g3l (by omega)
   rw [this] at hn
   have hr:Ka ts n r:=⟨u,i,hu,hi,er⟩
   exact absurd hn (hr.not h0)
  | succ k ih =>
   intro a ha hn
   have hal:a < v.length:=by omega
   have hd:InW n (v.drop (a+1)):=fun x hx=>hv x (g2p hx)
   have ed:v.drop a=v.getD a 0 :: v.drop (a+1):=by rw [wx hal,List.getElem_cons_drop]
   have e1:zO (zc ts) (v.drop (a+1)) r=zO (zc ts) (v.drop (a+1)++u) (zE n i):=by rw [yx,er]
   rcases uP hg (hd.app hu) hi with c | c
   ·rw [ed,y8,e1] at hn
    have:=G0 hg (hd.app hu) hi (hv.at hal) c hn
    refine ⟨a,g0q _,hal,?_⟩
    unfold w8
    rw [<- this,<- e1]
    exact wO (zH ts) _ _ (fun j hj=>by rw [er,zp,ze]; exact hd j hj)
   ·rw [<- e1] at c
    obtain ⟨b,h1,h2,h3⟩:=ih (a+1) (by omega) c
    exact ⟨b,by omega,h2,h3⟩
 obtain ⟨b,_,h2,h3⟩:=key v.length 0 (by omega) (by rw [List.drop_zero]; exact h)
 exact ⟨b,h2,h3⟩
end
def Le (a b:Int):Prop:=b=0\/(a≠0/\a<=b)
theorem X2 (i j k:Nat):w6 i j (k+1)=w6 i j k++[if k % 2=0 then i else j]:=by
 unfold w6
 rw [List.range_succ,g0y]
 rfl
theorem X3 (i j k:Nat):w6 i j (k+1)=i :: w6 j i k:=by
 unfold w6
 rw [g2l,g0h,g1h]
 congr 1
 apply g1r
 intro m _
 simp only [Function.comp]
 by_cases c:m % 2=0
 ·rw [if_pos c,if_neg (by omega)]
 ·rw [if_neg c,if_pos (by omega)]
theorem YN (φ:Nat->Nat) (i j k:Nat):(w6 i j k).map φ=w6 (φ i) (φ j) k:=by
 unfold w6
 rw [g1h]
 apply g1r
 intro m _
 simp only [Function.comp]
 split <;> rfl
section
variable {ts us:List T3} {n n':Nat}
theorem HU {f t m:Nat} (hft:f≠t) (hf:f < n) (ht:t < n) (em:zg ts f t=(m:Int)) (hm:2<=m/\m<=6):Eqv (zc ts) n (w6 f t m) (w6 t f m):=by
 have br:=Ha (ts:=ts) (n:=n) hft hf ht em hm
 have e2:=Eqv.rev (zH ts) (Hk hf ht _) (Hk ht hf _) br
 rw [uX,uX] at e2
 exact e2.symm
theorem Dp {f t m k:Nat} (hft:f≠t) (hf:f < n) (ht:t < n) (em:zg ts f t=(m:Int)) (hm:2<=m/\m<=6) (h:Sh ts n (w6 f t k)):k<=m:=by
 have h2:=h.rev
 rw [<- uX,g2i] at h2
 exact HY (Ne.symm hft) ht hf (by rw [yE]; exact em) hm h2
structure Rel (ts us:List T3) (n n':Nat) (P:Nat->Prop) (φ:Nat->Nat):Prop where
 g:yg ts
 g':yg us
 lt:∀ i,P i->i < n
 lt':∀ i,P i->φ i < n'
 inj:∀ i j,P i->P j->φ i=φ j->i=j
 le:∀ i j,P i->P j->i≠j->Le (zg ts i j) (zg us (φ i) (φ j))
variable {P:Nat->Prop} {φ:Nat->Nat}
theorem US (R:Rel ts us n n' P φ):∀ (L:Nat) (s:List Nat) (a:Nat),s.length=L->(∀ i∈s,P i)->Sh ts n s->Sh us n' (s.map φ)->P a->Dn us n' (s.map φ) (φ a)->∃ r,(∀ i∈r,P i)/\r.length+1=s.length/\Eqv (zc ts) n (a :: r) s/\Eqv (zc us) n' ((a :: r).map φ) (s.map φ):=by
 intro L
 induction L using Nat.strongRecOn with
 | _ L ih =>
  intro s a hL hP hs hs' ha hd
  cases s with
  | nil =>
   obtain ⟨r,_,_,z⟩:=hd
   simp at z
  | cons f s =>
   have hPf:P f:=hP f g0i
   have hf:=R.lt f hPf
   have han:=R.lt a ha
   have hPs:∀ i∈s,P i:=fun x hx=>hP x (g0m _ hx)
   by_cases c:f=a
   ·subst c
    exact ⟨s,hPs,rfl,Eqv.rfl' _,Eqv.rfl' _⟩
   ·have c':φ f≠φ a:=fun z=>c (R.inj f a hPf ha z)
    have hf':=R.lt' f hPf
    have ha':=R.lt' a ha
    obtain ⟨cc,m,em,hm,hc,e1,e2,hl⟩:=Km R.g' hs' c' hf' ha' (Dn.head hs'.1) hd
    have wk:∀ k,1<=k->k<=m->∃ x,(∀ i∈x,P i)/\k+x.length=(f :: s).length/\Eqv (zc ts) n (w6 f a k++x) (f :: s)/\Eqv (zc us) n' ((w6 f a k++x).map φ) ((f :: s).map φ):=by
     intro k
     induction k with
     | zero=>intro h; omega
     | succ k ihk =>
      intro _ hk
      by_cases k0:k=0
      ·subst k0
       exact ⟨s,hPs,by simp; omega,Eqv.rfl' _,Eqv.rfl' _⟩
      ·obtain ⟨x,x1,x2,x3,x4⟩:=ihk (by omega) (by omega)
       have x4':=x4
       rw [g0y,YN] at x4'
       have hxn':InW n' (x.map φ):=fun i hi=>by
        obtain ⟨j,hj,rfl⟩:=g1i.mp hi
        exact R.lt' j (x1 j hj)
       obtain ⟨y1,y2⟩:=Gk R.g' hs' (f:=φ f) (t:=φ a) (m:=m) (k:=k) hf' ha' (by omega) hc e1 hl hxn' x4' (by rw [g0f,g0f]; exact x2)
       have hak:=YO hf han (n:=n) k
       have hx:Sh ts n x:=by
        have:Sh ts n (w6 f a k++x):=hs.of (hak.app fun i hi=>R.lt i (x1 i hi)) x3 (by rw [g0g,wb]; exact x2)
        exact Sh.cut (a:=w6 f a k) (b:=x) (c:=[]) (by simpa using this)
       have hsg:P (if k % 2=0 then f else a):=by split <;> assumption
       have y2':Dn us n' (x.map φ) (φ (if k % 2=0 then f else a)):=by
        have e:φ (if k % 2=0 then f else a)=if k % 2=0 then φ f else φ a:=by split <;> rfl
        rw [e]; exact y2
       obtain ⟨r,r1,r2,r3,r4⟩:=ih x.length (by omega) x _ rfl x1 hx y1 hsg y2'
       refine ⟨r,r1,by omega,?_,?_⟩
       ·rw [X2,g1a]
        exact ((Eqv.rfl' _).app r3).trans x3
       ·rw [X2,g1a,g0y]
        rw [g0y] at x4
        exact ((Eqv.rfl' _).app r4).trans x4
    obtain ⟨x,x1,x2,x3,x4⟩:=wk m (by omega) (g0q _)
    have hxn:InW n x:=fun i hi=>R.lt i (x1 i hi)
    have hsa:Sh ts n (w6 f a m):=by
     have:Sh ts n (w6 f a m++x):=hs.of ((YO hf han m).app hxn) x3 (by rw [g0g,wb]; exact x2)
     exact Sh.cut (a:=[]) (b:=w6 f a m) (c:=x) (by simpa using this)
    have hl0:=R.le f a hPf ha c
    rw [em] at hl0
    have hl1:zg ts f a≠0/\zg ts f a<=m:=by
     rcases hl0 with z | z
     ·omega
     ·exact z
    have hgd:=vg R.g (f:Int) (a:Int)
    obtain ⟨m0,em0⟩:∃ m0:Nat,zg ts f a=(m0:Int):=⟨(zg ts f a).toNat,by omega⟩
    have hm0:2<=m0/\m0<=6:=by omega
    have:=Dp c hf han em0 hm0 hsa
    have:m0=m:=by omega
    subst this
    have b1:=HU c hf han em0 hm0
    have b2:=HU c' hf' ha' em hm
    obtain ⟨k,rfl⟩:∃ k,m0=k+1:=⟨m0 - 1,by omega⟩
    refine ⟨w6 f a k++x,fun i hi=>?_,?_,?_,?_⟩
    ·rcases g1o.mp hi with hi | hi
     ·obtain ⟨q,_,rfl⟩:=g1i.mp hi
      split <;> assumption
     ·exact x1 i hi
    ·rw [g0g,wb]
     omega
    ·have:=(b1.symm.app (Eqv.rfl' x)).trans x3
     rw [X3 a f] at this
     exact this
    ·rw [g0y,YN] at x4
     have:=(b2.symm.app (Eqv.rfl' (x.map φ))).trans x4
     rw [X3 (φ a) (φ f)] at this
     rw [g0h,g0y,YN]
     exact this
theorem Yh (R:Rel ts us n n' P φ):∀ w:List Nat,(∀ i∈w,P i)->Sh ts n w->Sh us n' (w.map φ)
 | [],hP,h=>⟨(fun i hi=>by cases hi),Lth.nil⟩
 | a :: s,hP,h=>by
  have hs:Sh ts n s:=Sh.cut (a:=[a]) (b:=s) (c:=[]) (by simpa using h)
  have hPs:∀ i∈s,P i:=fun x hx=>hP x (g0m _ hx)
  have hs':=Yh R s hPs hs
  have hPa:P a:=hP a g0i
  have ha:=R.lt a hPa
  apply Classical.byContradiction
  intro hn
  obtain ⟨r,r1,r2,r3,_⟩:=US R s.length s a rfl hPs hs hs' hPa (QG R.g' hs' (R.lt' a hPa) hn)
  have e:Eqv (zc ts) n r (a :: s):=by
   have e1:Eqv (zc ts) n ([a]++(a :: r)) ([a]++s):=(Eqv.rfl' [a]).app r3
   have e2:Eqv (zc ts) n ([a,a]++r) ([]++r):=(Eqv.twice (zH ts) ha).app (Eqv.rfl' r)
   exact e2.symm.trans e1
  have:=h.2.le (fun i hi=>R.lt i (r1 i hi)) e
  simp only [g0e] at this
  omega
end
section
variable {ts:List T3} {n:Nat}
def PRt (ts:List T3) (n:Nat) (S:List Nat) (r:List Gd):Prop:=NNr r/\∃ w s,(∀ i∈w,i∈S)/\s∈S/\r=zO (zc ts) w (zE n s)
theorem Wp {s:Nat} (hs:s < n):zO (zc ts) [s] (zE n s)=ZP (zE n s):=by
 refine xo (by rw [zp,Wu]) fun k hk=>?_
 have:=Yx (ts:=ts) (n:=n) (w:=[]) (s:=s) (fun _ h=>by cases h) hs k
 rw [g0r] at this
 rw [this,Ys]
 rfl
theorem PRt.root {S:List Nat} (hS:∀ i∈S,i < n) {r:List Gd} (h:PRt ts n S r):Ka ts n r:=by
 obtain ⟨_,w,s,hw,hs,rfl⟩:=h
 exact ⟨w,s,fun i hi=>hS i (hw i hi),hS s hs,rfl⟩
theorem ZY (hg:yg ts) {S:List Nat} (hS:∀ i∈S,i < n) {C:List (List Gd)} (h1:∀ s∈S,zE n s∈C) (h2:∀ r∈C,∀ i∈S,NNr (xq (zc ts i) i r)->xq (zc ts i) i r∈C) :
  ∀ (w:List Nat) (s:Nat),(∀ i∈w,i∈S)->s∈S->(NNr (zO (zc ts) w (zE n s))->zO (zc ts) w (zE n s)∈C)/\(NPr (zO (zc ts) w (zE n s))->ZP (zO (zc ts) w (zE n s))∈C)
 | [],s,_,hs=>⟨fun _=>h1 s hs,fun hn=>by
  have hr:Ka ts n (zE n s):=⟨[],s,fun _ h=>(by cases h),hS s hs,rfl⟩
  have hn':NPr (zE n s):=hn
  have:NNr (zE n s):=by
   rcases hr.one hg with z | z
   ·exact z
   ·exfalso
    have:=z s
    rw [yF (hS s hs),if_pos rfl] at this
    exact absurd (je (qx 1 (by decide)) this) (by decide)
  exact absurd hn' (hr.not this)⟩
 | i :: w,s,hw,hs=>by
  have hwS:∀ j∈w,j∈S:=fun j hj=>hw j (g0m _ hj)
  have hi:i∈S:=hw i g0i
  have hin:=hS i hi
  have hsn:=hS s hs
  have hwn:InW n w:=fun j hj=>hS j (hwS j hj)
  obtain ⟨a1,a2⟩:=ZY hg hS h1 h2 w s hwS hs
  have r0:Ka ts n (zO (zc ts) w (zE n s)):=⟨w,s,hwn,hsn,rfl⟩
  have e:zO (zc ts) (i :: w) (zE n s)=xq (zc ts i) i (zO (zc ts) w (zE n s)):=rfl
  have mi:zO (zc ts) [i] (zE n i)=xq (zc ts i) i (zE n i):=rfl
  rcases r0.one hg with p | p
  ·have hc:=a1 p
   refine ⟨fun q=>?_,fun q=>?_⟩
   ·rw [e] at q ⊢
    exact h2 _ hc i hi q
   ·have cr:=G0 hg hwn hsn hin p q
    rw [e,cr,<- mi,Wp hin,qy]
    exact h1 i hi
  ·have hc:=a2 p
   have ew:ZP (zO (zc ts) w (zE n s))=zO (zc ts) (w++[s]) (zE n s):=by
    rw [yx,Wp hsn,Vo (by rw [ze]; exact hwn)]
   have en:ZP (zO (zc ts) (i :: w) (zE n s))=xq (zc ts i) i (ZP (zO (zc ts) w (zE n s))):=by
    have:=Vo (ts:=ts) (w:=[i]) (r:=zO (zc ts) w (zE n s)) (by rw [zp,ze]; exact InW.one hin)
    exact this.symm
   refine ⟨fun q=>?_,fun q=>?_⟩
   ·have q':NPr (zO (zc ts) (i :: (w++[s])) (zE n s)):=by
     have:zO (zc ts) (i :: (w++[s])) (zE n s)=ZP (zO (zc ts) (i :: w) (zE n s)):=by rw [en,ew]; rfl
     rw [this]
     exact Ds.mpr q
    have p':NNr (zO (zc ts) (w++[s]) (zE n s)):=by rw [<- ew]; exact WW.mpr p
    have cr:=G0 hg (hwn.app (InW.one hsn)) hsn hin p' q'
    have:zO (zc ts) (i :: w) (zE n s)=zE n i:=by
     rw [<- qy (zO (zc ts) (i :: w) (zE n s)),en,ew,cr,<- mi,Wp hin,qy]
    rw [this]
    exact h1 i hi
   ·have q':NNr (ZP (zO (zc ts) (i :: w) (zE n s))):=WW.mpr q
    rw [en] at q' ⊢
    exact h2 _ hc i hi q'
theorem kA {α:Type} [DecidableEq α]:∀ {l m:List α},l.Nodup->(∀ x∈l,x∈m)->l.length<=m.length
 | [],m,_,_=>g1z _
 | x :: l,m,hn,h=>by
  rw [g2d] at hn
  have hx:x∈m:=h x g0i
  have:=kA (l:=l) (m:=m.erase x) hn.2 fun y hy=>by
   have hne:y≠x:=fun z=>hn.1 (z ▸ hy)
   exact (List.mem_erase_of_ne hne).mpr (h y (g0m _ hy))
  rw [List.length_erase_of_mem hx] at this
  have hp:=List.length_pos_of_mem hx
  rw [g0e]
  omega
theorem ZQ (hg:yg ts) {S:List Nat} (hS:∀ i∈S,i < n) {C:List (List Gd)} (h1:∀ s∈S,zE n s∈C) (h2:∀ r∈C,∀ i∈S,NNr (xq (zc ts i) i r)->xq (zc ts i) i r∈C) {v:List Nat} (hv:Sh ts n v) (hvS:∀ i∈v,i∈S):v.length<=C.length:=by
 have key:=kA (l:=(g0t v.length).map (w8 ts n v)) (m:=C) (by
  rw [g1l,g2n]
  exact List.pairwise_lt_range.imp_of_mem fun {a b} ha hb hab=>ju hg hv hab (g1t.mp hb)) fun r hr=>by
  obtain ⟨a,ha,rfl⟩:=g1i.mp hr
  have ha':=g1t.mp ha
  have up:=ZJ hg hv ha'
  unfold w8 at up ⊢
  refine (ZY hg hS h1 h2 _ _ (fun i hi=>hvS i ?_) (hvS _ ?_)).1 up
  ·rw [List.mem_reverse] at hi
   exact g2p hi
  ·rw [wx ha']
   exact g2r ha'
 rw [g0f,g2h] at key
 exact key
theorem CC {u:List Nat} (hu:InW n u) {r:List Gd} (hr:r.length=n) (hp:NNr r) (h:∀ k,k < n->r.getD k (0,0)=(0,0)\/NPr (zO (zc ts) u (zE n k))):NPr (zO (zc ts) u r):=by
 have step:∀ m,m<=n->NPr (zO (zc ts) u (qu n m r)):=by
  intro m
  induction m with
  | zero =>
   intro _ k
   have e:∀ k,(qu n 0 r).getD k (0,0)=(0,0):=fun k=>by
    by_cases hk:k < n
    ·rw [uv r hk,if_neg (by omega)]
    ·rw [g0d,g1x (by rw [zR]; omega)]; rfl
   rw [Yw (ts:=ts) (by rw [zR]; exact hu) e k]
   exact .inl rfl
  | succ m ih =>
   intro hm k
   have hmn:m < n:=by omega
   have hl:(qu n m r).length=(rsc (r.getD m (0,0)) (zE n m)).length:=by rw [zm,ze,zR]
   rw [ZN hmn r,jR _ _ hl (by rw [zR]; exact hu),wN _ _ _ (by rw [ze]; exact hu),xS (by rw [zp,zm,zp,ze,zR]),yk,Xz]
   refine Vi (ih (by omega) k) ?_
   rcases h m hmn with z | z
   ·rw [z]
    have:yh (0,0) ((zO (zc ts) u (zE n m)).getD k (0,0))=(0,0):=by simp [yh]
    rw [this]
    exact .inl rfl
   ·rw [<- GJ]
    exact ZO (hp m) (z k)
 have:=step n (g0q _)
 rwa [Xf hr] at this
theorem XB (hg:yg ts) {S:List Nat} (hS:∀ i∈S,i < n) {v:List Nat} (hv:Sh ts n v) (hd:∀ s∈S,NPr (zO (zc ts) v (zE n s))) {C:List (List Gd)} (hC:C.Nodup) (h:∀ r∈C,PRt ts n S r):C.length<=v.length:=by
 have key:=kA (l:=C) (m:=(g0t v.length).map (w8 ts n v)) hC fun r hr=>by
  have pr:=h r hr
  have rt:=pr.root hS
  obtain ⟨p,w,s,hw,hs,rfl⟩:=pr
  have hwn:InW n w:=fun i hi=>hS i (hw i hi)
  obtain ⟨a,ha,e⟩:=Xb hg hv.1 rt p (CC hv.1 (by rw [zp,ze]) p fun k hk=>by
   by_cases c:k∈S
   ·exact .inr (hd k c)
   ·left
    rw [Wz (by rw [ze]; exact hwn) (fun z=>c (hw k z)),yF hk,if_neg (fun z:k=s=>c (by rw [z]; exact hs))])
  exact g1i.mpr ⟨a,g1t.mpr ha,e⟩
 rw [g0f,g2h] at key
 exact key
theorem Da (hg:yg ts) {v:List Nat} {s:Nat} (hv:Sh ts n v) (hs:s < n) (h:¬ Sh ts n (v++[s])):NPr (zO (zc ts) v (zE n s)):=by
 rcases xu hg hv.1 hs hv.2 with ⟨_,k⟩ | ⟨z,_⟩
 ·exact absurd ⟨hv.1.app (InW.one hs),by rw [g0g,g0s]; exact k⟩ h
 ·exact z
end
def jV (k:Nat):List Bk:=(Kj k).filter fun B=>decide (B.1≠(0,0))
def HJ:List (Nat×List T3):=[(2,[(0,1,0)]),(3,xb [3,3]++[(0,2,3)]),(4,xb [3,3,3]++[(0,3,3)]),(5,xb [3,3,3,3]++[(0,4,3)]),(6,xb [3,3,3,3,3]++[(0,5,3)]),(3,xb [4,4]),(4,xb [4,3,4]),(5,xb [4,3,3,4]),(6,xb [4,3,3,3,4]),(3,xb [3,6]),(4,xb [3,5,3]),(5,xb [3,3,3,5]),(5,xb [3,4,3,3]),
 (5,Ua 4),(6,xb [3,3,3]++[(1,4,3),(2,5,3)]),(4,[(0,1,3),(0,2,3),(0,3,4)]),(5,xb [3,3,4]++[(1,4,3)]),(6,xb [3,3,3,4]++[(1,5,3)])]
def MM:Nat->List (List Nat)
 | 1=>[[0]]
 | 2=>[[0,1,0],[0,1,0,1],[0,1,0,1,0],[0,1,0,1,0,1]]
 | 3=>[[0,1,0,2,1,0],[0,1,0,2,1,0,2,1,2],[0,1,0,2,1,0,2,1,0,2,1,0,2,1,2]]
 | 4=>[[0,1,0,2,1,0,3,2,1,0],[0,1,0,2,1,0,3,2,1,0,3,2,1,3,2,3],[0,1,0,2,1,0,3,1,0,2,1,3],[0,1,0,2,1,0,3,2,1,0,3,2,1,0,3,2,1,0,3,2,1,0,3,2,1,0,3,2,1,0,3,2,1,0,3,2,1,0,3,2,1,0,3,2,1,0,3,2,1,0,3,2,1,0,3,2,1,3,2,3],[0,1,0,2,1,0,2,1,2,3,2,1,0,2,1,2,3,2,1,0,2,1,2,3]]
 | 5=>[[0,1,0,2,1,0,3,2,1,0,4,3,2,1,0],[0,1,0,2,1,0,3,2,1,0,4,3,2,1,0,4,3,2,1,4,3,2,4,3,4],[0,1,0,2,1,0,3,2,1,0,4,2,1,0,3,2,1,4,2,3]]
 | 6=>[[0,1,0,2,1,0,3,2,1,0,4,3,2,1,0,5,4,3,2,1,0],[0,1,0,2,1,0,3,2,1,0,4,3,2,1,0,5,4,3,2,1,0,5,4,3,2,1,5,4,3,2,5,4,3,5,4,5],[0,1,0,2,1,0,3,2,1,0,4,3,2,1,0,5,3,2,1,0,4,3,2,1,5,3,2,4,3,5],[0,1,0,2,1,0,3,2,1,0,4,3,2,1,0,5,2,1,0,3,2,1,4,3,2,5,2,1,0,3,2,1,4,3,2,5]]
 | _=>[]
def P7:List (Nat×Nat×Nat×Nat×Bool×Nat×List Nat):=[(1,0,0,3,true,0,[0,1]),(1,0,0,4,true,1,[0,1]),(1,0,0,5,true,2,[0,1]),(1,0,0,6,true,3,[0,1]),(2,0,0,3,true,0,[1,0,2]),(2,0,0,4,true,1,[1,0,2]),(2,0,0,5,true,2,[1,0,2]),(2,0,0,6,false,9,[1,0,2]),(2,0,1,3,true,0,[0,1,2]),(2,0,1,4,true,1,[0,1,2]),(2,0,1,5,true,2,[0,1,2]),(2,0,1,6,false,9,[0,1,2]),(2,1,0,3,true,1,[2,0,1]),(2,1,0,4,false,5,[1,0,2]),(2,1,0,5,false,5,[1,0,2]),(2,1,0,6,false,5,[1,0,2]),(2,1,1,3,true,1,[2,1,0]),(2,1,1,4,false,5,[0,1,2]),(2,1,1,5,false,5,[0,1,2]),(2,1,1,6,false,5,[0,1,2]),(2,2,0,3,true,2,[2,0,1]),(2,2,0,4,false,5,[1,0,2]),(2,2,0,5,false,5,[1,0,2]),(2,2,0,6,false,5,[1,0,2]),(2,2,1,3,true,2,[2,1,0]),(2,2,1,4,false,5,[0,1,2]),(2,2,1,5,false,5,[0,1,2]),(2,2,1,6,false,5,[0,1,2]),(2,3,0,3,false,9,[2,0,1]),(2,3,0,4,false,5,[1,0,2]),(2,3,0,5,false,5,[1,0,2]),(2,3,0,6,false,5,[1,0,2]),(2,3,1,3,false,9,[2,1,0]),(2,3,1,4,false,5,[0,1,2]),(2,3,1,5,false,5,[0,1,2]),(2,3,1,6,false,5,[0,1,2]),(3,0,0,3,true,0,[2,1,0,3]),(3,0,0,4,true,1,[2,1,0,3]),(3,0,0,5,true,3,[2,1,0,3]),(3,0,0,6,false,9,[1,0,3]),(3,0,1,3,true,2,[0,1,2,3]),(3,0,1,4,false,15,[1,0,2,3]),(3,0,1,5,false,15,[1,0,2,3]),(3,0,1,6,false,9,[0,1,3]),(3,0,2,3,true,0,[0,1,2,3]),(3,0,2,4,true,1,[0,1,2,3]),(3,0,2,5,true,3,[0,1,2,3]),(3,0,2,6,false,9,[1,2,3]),(3,1,0,3,true,1,[3,0,1,2]),(3,1,0,4,false,6,[2,1,0,3]),(3,1,0,5,false,6,[2,1,0,3]),(3,1,0,6,false,6,[2,1,0,3]),(3,1,1,3,false,15,[1,0,3,2]),(3,1,1,4,false,5,[2,1,3]),(3,1,1,5,false,5,[2,1,3]),(3,1,1,6,false,5,[2,1,3]),(3,1,2,3,true,4,[0,1,2,3]),(3,1,2,4,false,5,[1,2,3]),(3,1,2,5,false,5,[1,2,3]),(3,1,2,6,false,5,[1,2,3]),(3,2,0,3,true,3,[3,0,1,2]),(3,2,0,4,false,6,[2,1,0,3]),(3,2,0,5,false,6,[2,1,0,3]),(3,2,0,6,false,6,[2,1,0,3]),(3,2,1,3,false,15,[1,0,3,2]),(3,2,1,4,false,5,[2,1,3]),(3,2,1,5,false,5,[2,1,3]),(3,2,1,6,false,5,[2,1,3]),(3,2,2,3,false,10,[0,1,2,3]),(3,2,2,4,false,5,[1,2,3]),(3,2,2,5,false,5,[1,2,3]),(3,2,2,6,false,5,[1,2,3]),(4,0,0,3,true,0,[3,2,1,0,4]),(4,0,0,4,true,1,[3,2,1,0,4]),(4,0,0,5,false,11,[3,2,1,0,4]),(4,0,0,6,false,9,[1,0,4]),(4,0,1,3,true,2,[3,2,1,0,4]),(4,0,1,4,false,15,[1,0,2,4]),(4,0,1,5,false,15,[1,0,2,4]),(4,0,1,6,false,9,[0,1,4]),(4,0,2,3,true,2,[0,1,2,3,4]),(4,0,2,4,false,15,[2,1,3,4]),(4,0,2,5,false,15,[2,1,3,4]),(4,0,2,6,false,9,[1,2,4]),(4,0,3,3,true,0,[0,1,2,3,4]),(4,0,3,4,true,1,[0,1,2,3,4]),(4,0,3,5,false,11,[0,1,2,3,4]),(4,0,3,6,false,9,[2,3,4]),(4,1,0,3,true,1,[4,0,1,2,3]),(4,1,0,4,false,7,[3,2,1,0,4]),(4,1,0,5,false,7,[3,2,1,0,4]),(4,1,0,6,false,7,[3,2,1,0,4]),(4,1,1,3,false,16,[0,1,2,3,4]),(4,1,1,4,false,6,[3,2,1,4]),(4,1,1,5,false,6,[3,2,1,4]),(4,1,1,6,false,6,[3,2,1,4]),(4,1,2,3,false,15,[2,1,4,3]),(4,1,2,4,false,5,[3,2,4]),(4,1,2,5,false,5,[3,2,4]),(4,1,2,6,false,5,[3,2,4]),(4,1,3,3,false,12,[4,3,2,1,0]),(4,1,3,4,false,5,[2,3,4]),(4,1,3,5,false,5,[2,3,4]),(4,1,3,6,false,5,[2,3,4]),(4,2,0,3,true,2,[4,0,1,2,3]),(4,2,0,4,false,16,[2,1,0,4,3]),(4,2,0,5,false,16,[2,1,0,4,3]),(4,2,0,6,false,9,[1,0,4]),(4,2,1,3,false,13,[1,0,2,3,4]),(4,2,1,4,false,13,[1,0,2,3,4]),(4,2,1,5,false,13,[1,0,2,3,4]),(4,2,1,6,false,9,[0,1,4]),(4,2,2,3,true,2,[4,2,1,0,3]),(4,2,2,4,false,16,[0,1,2,4,3]),(4,2,2,5,false,16,[0,1,2,4,3]),(4,2,2,6,false,9,[1,2,4]),(4,2,3,3,true,2,[4,3,1,0,2]),(4,2,3,4,false,16,[0,1,3,4,2]),(4,2,3,5,false,16,[0,1,3,4,2]),(4,2,3,6,false,9,[1,3,4]),(4,3,0,3,false,11,[4,0,1,2,3]),(4,3,0,4,false,7,[3,2,1,0,4]),(4,3,0,5,false,7,[3,2,1,0,4]),(4,3,0,6,false,7,[3,2,1,0,4]),(4,3,1,3,false,16,[0,1,2,3,4]),(4,3,1,4,false,6,[3,2,1,4]),(4,3,1,5,false,6,[3,2,1,4]),(4,3,1,6,false,6,[3,2,1,4]),(4,3,2,3,false,15,[2,1,4,3]),(4,3,2,4,false,5,[3,2,4]),(4,3,2,5,false,5,[3,2,4]),(4,3,2,6,false,5,[3,2,4]),(4,3,3,3,false,10,[1,2,3,4]),(4,3,3,4,false,5,[2,3,4]),(4,3,3,5,false,5,[2,3,4]),(4,3,3,6,false,5,[2,3,4]),(4,4,0,3,false,12,[3,2,1,0,4]),(4,4,0,4,false,6,[2,1,0,4]),(4,4,0,5,false,6,[2,1,0,4]),(4,4,0,6,false,6,[2,1,0,4]),(4,4,1,3,false,15,[1,0,4,2]),(4,4,1,4,false,5,[2,1,4]),(4,4,1,5,false,5,[2,1,4]),(4,4,1,6,false,5,[2,1,4]),(4,4,2,3,false,15,[2,3,4,1]),(4,4,2,4,false,5,[1,2,4]),(4,4,2,5,false,5,[1,2,4]),(4,4,2,6,false,5,[1,2,4]),(4,4,3,3,false,12,[0,1,2,3,4]),(4,4,3,4,false,6,[1,2,3,4]),(4,4,3,5,false,6,[1,2,3,4]),(4,4,3,6,false,6,[1,2,3,4]),(5,0,0,3,true,0,[4,3,2,1,0,5]),(5,0,0,4,true,1,[4,3,2,1,0,5]),(5,0,0,5,false,11,[3,2,1,0,5]),(5,0,0,6,false,9,[1,0,5]),(5,0,1,3,true,2,[4,3,2,1,0,5]),(5,0,1,4,false,15,[1,0,2,5]),(5,0,1,5,false,11,[4,3,2,1,5]),(5,0,1,6,false,9,[0,1,5]),(5,0,2,3,true,3,[0,1,2,3,4,5]),(5,0,2,4,false,15,[2,1,3,5]),(5,0,2,5,false,15,[2,1,3,5]),(5,0,2,6,false,9,[1,2,5]),(5,0,3,3,true,2,[0,1,2,3,4,5]),(5,0,3,4,false,15,[3,2,4,5]),(5,0,3,5,false,11,[0,1,2,3,5]),(5,0,3,6,false,9,[2,3,5]),(5,0,4,3,true,0,[0,1,2,3,4,5]),(5,0,4,4,true,1,[0,1,2,3,4,5]),(5,0,4,5,false,11,[1,2,3,4,5]),(5,0,4,6,false,9,[3,4,5]),(5,1,0,3,true,1,[5,0,1,2,3,4]),(5,1,0,4,false,8,[4,3,2,1,0,5]),(5,1,0,5,false,8,[4,3,2,1,0,5]),(5,1,0,6,false,8,[4,3,2,1,0,5]),(5,1,1,3,false,17,[0,1,2,3,4,5]),(5,1,1,4,false,7,[4,3,2,1,5]),(5,1,1,5,false,7,[4,3,2,1,5]),(5,1,1,6,false,7,[4,3,2,1,5]),(5,1,2,3,false,16,[1,2,3,4,5]),(5,1,2,4,false,6,[4,3,2,5]),(5,1,2,5,false,6,[4,3,2,5]),(5,1,2,6,false,6,[4,3,2,5]),(5,1,3,3,false,15,[3,2,5,4]),(5,1,3,4,false,5,[4,3,5]),(5,1,3,5,false,5,[4,3,5]),(5,1,3,6,false,5,[4,3,5]),(5,1,4,3,false,12,[5,4,3,2,1]),(5,1,4,4,false,5,[3,4,5]),(5,1,4,5,false,5,[3,4,5]),(5,1,4,6,false,5,[3,4,5]),(5,2,0,3,true,2,[5,0,1,2,3,4]),(5,2,0,4,false,17,[3,2,1,0,5,4]),(5,2,0,5,false,11,[3,2,1,0,5]),(5,2,0,6,false,9,[1,0,5]),(5,2,1,3,false,14,[0,1,2,3,5,4]),(5,2,1,4,false,14,[0,1,2,3,5,4]),(5,2,1,5,false,14,[0,1,2,3,5,4]),(5,2,1,6,false,9,[0,1,5]),(5,2,2,3,false,13,[2,1,3,4,5]),(5,2,2,4,false,13,[2,1,3,4,5]),(5,2,2,5,false,13,[2,1,3,4,5]),(5,2,2,6,false,9,[1,2,5]),(5,2,3,3,true,3,[0,1,2,3,5,4]),(5,2,3,4,false,16,[1,2,3,5,4]),(5,2,3,5,false,11,[0,1,2,3,5]),(5,2,3,6,false,9,[2,3,5]),(5,2,4,3,true,3,[0,1,2,4,5,3]),(5,2,4,4,false,16,[1,2,4,5,3]),(5,2,4,5,false,11,[0,1,2,4,5]),(5,2,4,6,false,9,[2,4,5])]
def P6:List (Nat×Nat×Nat×Nat×Nat×List Nat):=[(2,0,0,1,1,[0,1,2]),(2,1,0,1,1,[0,1,2]),(2,2,0,1,1,[0,1,2]),(2,3,0,1,1,[0,1,2]),(3,0,0,1,1,[0,1,3]),(3,0,0,2,2,[0,1,2,3]),(3,0,1,2,1,[1,2,3]),(3,1,0,1,1,[0,1,3]),(3,1,0,2,2,[0,1,2,3]),(3,1,1,2,1,[1,2,3]),(3,2,0,1,1,[0,1,3]),(3,2,0,2,2,[0,1,2,3]),(3,2,1,2,1,[1,2,3]),(4,0,0,1,1,[0,1,4]),(4,0,0,2,2,[0,1,2,4]),(4,0,1,2,1,[1,2,4]),(4,0,0,3,3,[0,1,2,3,4]),(4,0,1,3,2,[1,2,3,4]),(4,0,2,3,1,[2,3,4]),(4,1,0,1,1,[0,1,4]),(4,1,0,2,2,[0,1,2,4]),(4,1,1,2,1,[1,2,4]),(4,1,0,3,3,[0,1,2,3,4]),(4,1,1,3,2,[1,2,3,4]),(4,1,2,3,1,[2,3,4]),(4,2,0,1,1,[0,1,4]),(4,2,0,2,2,[0,1,2,4]),(4,2,1,2,1,[1,2,4]),(4,2,0,3,2,[0,1,3,4]),(4,2,1,3,1,[1,3,4]),(4,2,2,3,2,[1,2,4,3]),(4,3,0,1,1,[0,1,4]),(4,3,0,2,2,[0,1,2,4]),(4,3,1,2,1,[1,2,4]),(4,3,0,3,3,[0,1,2,3,4]),(4,3,1,3,2,[1,2,3,4]),(4,3,2,3,1,[2,3,4]),(4,4,0,1,1,[0,1,4]),(4,4,0,2,2,[0,1,2,4]),(4,4,1,2,1,[1,2,4]),(4,4,0,3,3,[0,1,2,3,4]),(4,4,1,3,2,[1,2,3,4]),(4,4,2,3,1,[2,3,4]),(5,0,0,1,1,[0,1,5]),(5,0,0,2,2,[0,1,2,5]),(5,0,1,2,1,[1,2,5]),(5,0,0,3,3,[0,1,2,3,5]),(5,0,1,3,2,[1,2,3,5]),(5,0,2,3,1,[2,3,5]),(5,0,0,4,4,[0,1,2,3,4,5]),(5,0,1,4,3,[1,2,3,4,5]),(5,0,2,4,2,[2,3,4,5]),(5,0,3,4,1,[3,4,5]),(5,1,0,1,1,[0,1,5]),(5,1,0,2,2,[0,1,2,5]),(5,1,1,2,1,[1,2,5]),(5,1,0,3,3,[0,1,2,3,5]),(5,1,1,3,2,[1,2,3,5]),(5,1,2,3,1,[2,3,5]),(5,1,0,4,4,[0,1,2,3,4,5]),(5,1,1,4,3,[1,2,3,4,5]),(5,1,2,4,2,[2,3,4,5]),(5,1,3,4,1,[3,4,5]),(5,2,0,1,1,[0,1,5]),(5,2,0,2,2,[0,1,2,5]),(5,2,1,2,1,[1,2,5]),(5,2,0,3,3,[0,1,2,3,5]),(5,2,1,3,2,[1,2,3,5]),(5,2,2,3,1,[2,3,5]),(5,2,0,4,3,[0,1,2,4,5]),(5,2,1,4,2,[1,2,4,5]),(5,2,2,4,1,[2,4,5]),(5,2,3,4,2,[2,3,5,4])]
def leB (a b:Int):Bool:=decide (b=0)||(decide (a≠0)&&decide (a<=b))
theorem Mg {a b:Int} (h:leB a b=true):Le a b:=by
 unfold leB at h
 rw [g3w,g1p,decide_eq_true_eq,decide_eq_true_eq,decide_eq_true_eq] at h
 exact h
theorem Le.trans {a b c:Int} (h:Le a b) (h':Le b c):Le a c:=by unfold Le at *; omega
def prB (m:Nat) (p:Nat->Nat->Bool):Bool:=(g0t m).all fun a=>(g0t m).all fun b=>decide (a=b)||p a b
theorem Hs {m:Nat} {p:Nat->Nat->Bool} (h:prB m p=true) {a b:Nat} (ha:a < m) (hb:b < m) (c:a≠b):p a b=true:=by
 have:=g0w.mp (g0w.mp h a (g1t.mpr ha)) b (g1t.mpr hb)
 rw [g3w] at this
 exact this.resolve_left (by simpa using c)
def Nm (m k:Nat) (q:List Nat):Bool:=decide (q.length=k)&&decide q.Nodup&&q.all fun x=>decide (x < m)
def Nq (m:Nat) (T B:List T3) (q:List Nat):Bool:=Nm m m q&&prB m fun a b=>decide (zg T (q.getD a 0:Nat) (q.getD b 0:Nat)=zg B a b)
def Dy (m:Nat) (T:List T3) (k:Nat) (B:List T3) (q:List Nat):Bool:=Nm m k q&&prB k fun a b=>leB (zg B a b) (zg T (q.getD a 0:Nat) (q.getD b 0:Nat))
def Pi (k:Nat) (ts:List T3):Bool:=ts.all fun u=>decide (0<=u.1)&&decide (u.1 < u.2.1)&&decide (u.2.1 < k)&&(decide (u.2.2=0)||(decide (3<=u.2.2)&&decide (u.2.2<=6)))
def Wv (i k:Nat) (l:Int):T3:=((i:Int),(k:Int),l)
def okP (k q i:Nat) (l:Int):Bool:=match (jV k)[q]? with
  | none=>false
  | some B=>P7.any fun e=>decide (e.1=k)&&decide (e.2.1=q)&&decide (e.2.2.1=i)&&decide ((e.2.2.2.1:Int)=l) &&
    (if e.2.2.2.2.1 then (match (jV (k+1))[e.2.2.2.2.2.1]? with | some B'=>Nq (k+1) (B.2++[Wv i k l]) B'.2 e.2.2.2.2.2.2 | none=>false)
     else (match HJ[e.2.2.2.2.2.1]? with | some b=>Dy (k+1) (B.2++[Wv i k l]) b.1 b.2 e.2.2.2.2.2.2 | none=>false))
def okR (k q i j:Nat):Bool:=match (jV k)[q]? with
 | none=>false
 | some B=>P6.any fun e=>decide (e.1=k)&&decide (e.2.1=q)&&decide (e.2.2.1=i)&&decide (e.2.2.2.1=j) &&
  (match HJ[e.2.2.2.2.1]? with | some b=>Dy (k+1) (B.2++[Wv i k 3,Wv j k 3]) b.1 b.2 e.2.2.2.2.2 | none=>false)
theorem Cm:([1,2,3,4,5].all fun k=>(g0t (jV k).length).all fun q=>(g0t k).all fun i=>[3,4,5,6].all fun l=>okP k q i l)=true:=by decide +kernel
theorem Cj:([1,2,3,4,5].all fun k=>(g0t (jV k).length).all fun q=>(g0t k).all fun j=>(g0t j).all fun i=>okR k q i j)=true:=by decide +kernel
def HG (B:Nat×List T3):List Nat:=(g0l (60 / B.1+1) (g0t B.1)).flatten
theorem MF:(HJ.all fun b=>Pi b.1 b.2&&decide (60 < (HG b).length)&&(HG b).all (fun x=>decide (x < b.1))&&(uf b.2 b.1 [] (HG b)).all id)=true:=by decide +kernel
def okF (k q:Nat):Bool:=match (jV k)[q]?,(MM k)[q]? with
 | some B,some w=>Pi k B.2&&w.all (fun x=>decide (x < k))&&(uf B.2 k [] w).all id&&(g0t k).all (fun s => !(uf B.2 k [] (w++[s])).all id)&&decide (w.length<=60)
 | _,_=>false
theorem MK:([1,2,3,4,5,6].all fun k=>(g0t (jV k).length).all fun q=>okF k q)=true:=by decide +kernel
theorem Jm {k:Nat} {ts:List T3} (h:Pi k ts=true):Kk k ts/\yg ts:=by
 have key:∀ u∈ts,0<=u.1/\u.1 < u.2.1/\u.2.1 < (k:Int)/\(u.2.2=0\/(3<=u.2.2/\u.2.2<=6)):=fun u hu=>by
  have:=g0w.mp h u hu
  simp only [g1p,g3w,decide_eq_true_eq] at this
  obtain ⟨⟨⟨h1,h2⟩,h3⟩,h4⟩:=this
  exact ⟨h1,h2,h3,h4⟩
 exact ⟨fun u hu=>⟨(key u hu).1,(key u hu).2.1,(key u hu).2.2.1⟩,fun u hu=>(key u hu).2.2.2⟩
structure FinD (k:Nat) (B:List T3) (w:List Nat):Prop where
 fit:Kk k B
 good:yg B
 inw:∀ i∈w,i < k
 sh:Sh B k w
 top:∀ s,s < k->¬ Sh B k (w++[s])
 len:w.length<=60
theorem jU {k q:Nat} {B:Bk} (h1:1<=k) (h6:k<=6) (hq:(jV k)[q]? = some B):∃ w,(MM k)[q]? = some w/\FinD k B.2 w:=by
 have hk:k∈[1,2,3,4,5,6]:=by
  have:k=1\/k=2\/k=3\/k=4\/k=5\/k=6:=by omega
  simpa using this
 have hql:q < (jV k).length:=(g0v.mp hq).1
 have:=g0w.mp (g0w.mp MK k hk) q (g1t.mpr hql)
 unfold okF at this
 rw [hq] at this
 cases hw:(MM k)[q]? with
 | none=>rw [hw] at this; cases this
 | some w =>
  rw [hw] at this
  simp only [g1p] at this
  obtain ⟨⟨⟨⟨f,a⟩,b⟩,c⟩,d⟩:=this
  obtain ⟨f1,f2⟩:=Jm f
  have inw:InW k w:=fun i hi=>of_decide_eq_true (g0w.mp a i hi)
  refine ⟨w,rfl,f1,f2,inw,(j9 f2 inw).mp b,fun s hs z=>?_,of_decide_eq_true d⟩
  have:=g0w.mp c s (g1t.mpr hs)
  rw [(j9 f2 (inw.app (InW.one hs))).mpr z] at this
  cases this
theorem GC {b:Nat×List T3} (h:b∈HJ):yg b.2/\Sh b.2 b.1 (HG b)/\60 < (HG b).length/\∀ i∈HG b,i < b.1:=by
 have:=g0w.mp MF b h
 simp only [g1p] at this
 obtain ⟨⟨⟨f,a⟩,c⟩,d⟩:=this
 obtain ⟨_,f2⟩:=Jm f
 have inw:InW b.1 (HG b):=fun i hi=>of_decide_eq_true (g0w.mp c i hi)
 exact ⟨f2,(j9 f2 inw).mp d,of_decide_eq_true a,inw⟩
section
variable {us:List T3}
structure IsoT (B us:List T3) (u:List Nat):Prop where
 nd:u.Nodup
 eq:∀ a b:Nat,a < u.length->b < u.length->a≠b->zg us ((u.getD a 0:Nat):Int) ((u.getD b 0:Nat):Int)=zg B a b
structure EmbT (b:Nat×List T3) (us:List T3) (S u:List Nat):Prop where
 len:u.length=b.1
 nd:u.Nodup
 sub:∀ x∈u,x∈S
 le:∀ a c:Nat,a < b.1->c < b.1->a≠c->Le (zg b.2 a c) (zg us ((u.getD a 0:Nat):Int) ((u.getD c 0:Nat):Int))
def He (us:List T3) (v:List Nat):Prop:=∃ (q:Nat) (B:Bk) (u:List Nat),(jV v.length)[q]? = some B/\u.Perm v/\IsoT B.2 us u
def HZ (us:List T3) (v:List Nat):Prop:=∃ b∈HJ,∃ u,EmbT b us v u
theorem yX {u:List Nat} {a:Nat} (h:a < u.length):u.getD a 0∈u:=by rw [wx h]; exact g2r h
theorem uT {u:List Nat} (hn:u.Nodup) {a b:Nat} (ha:a < u.length) (hb:b < u.length) (e:u.getD a 0=u.getD b 0):a=b:=by
 rw [wx ha,wx hb] at e
 have h:=g3o.mp (g1l.mp hn)
 rcases Nat.lt_trichotomy a b with c | c | c
 ·exact absurd e (h a b ha hb c)
 ·exact c
 ·exact absurd e.symm (h b a hb ha c)
theorem GL {q:List Nat} {m:Nat} (hn:q.Nodup) (hl:q.length=m) (h:∀ x∈q,x < m) {x:Nat} (hx:x < m):x∈q:=by
 apply Classical.byContradiction
 intro c
 have:=kA (l:=x :: q) (m:=g0t m) (g2d.mpr ⟨c,hn⟩) fun y hy=>by
  rcases g0o.mp hy with rfl | hy
  ·exact g1t.mpr hx
  ·exact g1t.mpr (h y hy)
 rw [g0e,g2h] at this
 omega
theorem Le.self (a:Int):Le a a:=by unfold Le; omega
theorem BB {n k:Nat} {B:List T3} {u:List Nat} (hg:yg us) (hB:yg B) (hl:u.length=k) (hu:∀ x∈u,x < n) (I:IsoT B us u):Rel B us k n (· < k) (fun i=>u.getD i 0) where
 g:=hB
 g':=hg
 lt:=fun _ h=>h
 lt':=fun i h=>hu _ (yX (by omega))
 inj:=fun i j hi hj e=>uT I.nd (by omega) (by omega) e
 le:=fun i j hi hj c=>by rw [I.eq i j (by omega) (by omega) c]; exact Le.self _
theorem wu {u:List Nat} {x:Nat} (h:x∈u):u.idxOf x < u.length/\u.getD (u.idxOf x) 0=x:=by
 have h1:=List.idxOf_lt_length_iff.mpr h
 exact ⟨h1,by rw [wx h1]; exact List.getElem_idxOf h1⟩
theorem KH {n k:Nat} {B:List T3} {u:List Nat} (hg:yg us) (hB:yg B) (hl:u.length=k) (hu:∀ x∈u,x < n) (I:IsoT B us u):Rel us B n k (· ∈ u) (fun x=>u.idxOf x) where
 g:=hg
 g':=hB
 lt:=hu
 lt':=fun i h=>by rw [<- hl]; exact (wu h).1
 inj:=fun i j hi hj e=>by
  have:=(wu hi).2
  rw [show u.idxOf i=u.idxOf j from e,(wu hj).2] at this
  exact this.symm
 le:=fun i j hi hj c=>by
  have:=I.eq (u.idxOf i) (u.idxOf j) (wu hi).1 (wu hj).1 (fun e=>c (by
   have:=(wu hi).2
   rw [e,(wu hj).2] at this
   exact this.symm))
  rw [(wu hi).2,(wu hj).2] at this
  rw [this]
  exact Le.self _
theorem VC {n k:Nat} {B:List T3} {w u S:List Nat} (hg:yg us) (F:FinD k B w) (hl:u.length=k) (hp:u.Perm S) (hS:∀ x∈S,x < n) (I:IsoT B us u) :
  ∃ v,v.length=w.length/\Sh us n v/\(∀ i∈v,i∈S)/\∀ s∈S,NPr (zO (zc us) v (zE n s)):=by
 have hu:∀ x∈u,x < n:=fun x hx=>hS x (hp.mem_iff.mp hx)
 have sh:=Yh (BB hg F.good hl hu I) w F.inw F.sh
 have sub:∀ i∈w.map (fun i=>u.getD i 0),i∈u:=fun i hi=>by
  obtain ⟨j,hj,rfl⟩:=g1i.mp hi
  exact yX (by rw [hl]; exact F.inw j hj)
 refine ⟨w.map fun i=>u.getD i 0,g0f _,sh,fun i hi=>hp.mem_iff.mp (sub i hi),fun s hs=>?_⟩
 have hsu:=hp.mem_iff.mpr hs
 refine Da hg sh (hS s hs) fun z=>?_
 have:=Yh (KH hg F.good hl hu I) _ (fun i hi=>by
  rcases g1o.mp hi with hi | hi
  ·exact sub i hi
  ·have e:i=s:=by simpa using hi
   rw [e]; exact hsu) z
 refine F.top (u.idxOf s) (by rw [<- hl]; exact (wu hsu).1) ?_
 have e:(w.map (fun i=>u.getD i 0)++[s]).map (fun x=>u.idxOf x)=w++[u.idxOf s]:=by
  rw [g0y,g1h]
  congr 1
  have:w.map ((fun x=>u.idxOf x) ∘ fun i=>u.getD i 0)=w.map id:=g1r fun i hi=>by
   have hi':i < u.length:=by rw [hl]; exact F.inw i hi
   simp only [Function.comp]
   rw [wx hi']
   exact List.Nodup.idxOf_getElem I.nd i hi'
  rw [this,List.map_id]
 rw [e] at this
 exact this
theorem Vu {n:Nat} {S u:List Nat} {b:Nat×List T3} (hg:yg us) (hb:b∈HJ) (hS:∀ x∈S,x < n) (E:EmbT b us S u):∃ v,60 < v.length/\Sh us n v/\∀ i∈v,i∈S:=by
 obtain ⟨g,sh,ln,inw⟩:=GC hb
 have R:Rel b.2 us b.1 n (· < b.1) (fun i=>u.getD i 0):=⟨g,hg,fun _ h=>h,fun i h=>hS _ (E.sub _ (yX (by rw [E.len]; exact h))),fun i j hi hj e=>uT E.nd (by rw [E.len]; exact hi) (by rw [E.len]; exact hj) e,E.le⟩
 refine ⟨(HG b).map fun i=>u.getD i 0,by rw [g0f]; exact ln,Yh R _ inw sh,fun i hi=>?_⟩
 obtain ⟨j,hj,rfl⟩:=g1i.mp hi
 exact E.sub _ (yX (by rw [E.len]; exact inw j hj))
theorem C1 {n k:Nat} {B:List T3} {w u S v:List Nat} (hg:yg us) (F:FinD k B w) (hl:u.length=k) (hp:u.Perm S) (hS:∀ x∈S,x < n) (I:IsoT B us u) (hv:Sh us n v) (hvS:∀ i∈v,i∈S):v.length<=w.length:=by
 obtain ⟨v0,e0,h0,h0S,h0d⟩:=VC hg F hl hp hS I
 have:=XB hg hS h0 h0d (C:=(g0t v.length).map (w8 us n v)) (by
  rw [g1l,g2n]
  exact List.pairwise_lt_range.imp_of_mem fun {a b} ha hb hab=>ju hg hv hab (g1t.mp hb)) fun r hr=>by
  obtain ⟨a,ha,rfl⟩:=g1i.mp hr
  have ha':=g1t.mp ha
  refine ⟨ZJ hg hv ha',_,_,fun i hi=>hvS i ?_,hvS _ ?_,rfl⟩
  ·rw [List.mem_reverse] at hi
   exact g2p hi
  ·exact yX ha'
 rw [g0f,g2h,e0] at this
 exact this
theorem Ge {n:Nat} {S:List Nat} (hg:yg us) (hS:∀ x∈S,x < n) (h1:1<=S.length) (h6:S.length<=6) (hf:He us S) (hi:HZ us S):False:=by
 obtain ⟨q,B,u,hq,hp,I⟩:=hf
 obtain ⟨w,_,F⟩:=jU h1 h6 hq
 obtain ⟨b,hb,u',E⟩:=hi
 obtain ⟨v,v1,v2,v3⟩:=Vu hg hb hS E
 have:=C1 hg F hp.length_eq hp hS I v2 v3
 have:=F.len
 omega
theorem Z7 {k:Nat} {B E:List T3} (hE:∀ e∈E,e.2.1=(k:Int)) {x z:Nat} (hx:x < k) (hz:z < k):zg (B++E) x z=zg B x z :=
 j6 fun e he hh=>by
  have h1:e.2.1=mhi x z:=hh.2
  rw [hE e he] at h1
  unfold mhi at h1
  split at h1 <;> omega
theorem Z8 {k:Nat} {B E:List T3} (hB:Kk k B) {x:Nat} (hx:x < k):zg (B++E) x k=zg E x k :=
 j5 fun e he hh=>by
  have h1:e.2.1=mhi x k:=hh.2
  have:=(hB e he).2.2
  unfold mhi at h1
  split at h1 <;> omega
theorem qm {k x i:Nat} (hx:x < k) (l:Int) (E:List T3):zg (Wv i k l :: E) x k=if i=x then l else zg E x k:=by
 have m1:mlo (x:Int) k=x:=by unfold mlo; rw [if_neg (by omega)]
 have m2:mhi (x:Int) k=k:=by unfold mhi; rw [if_pos (by omega)]
 show (if (i:Int)=mlo x k/\(k:Int)=mhi x k then l else zg E x k)=_
 rw [m1,m2]
 by_cases c:i=x
 ·rw [if_pos c,if_pos ⟨by omega,rfl⟩]
 ·rw [if_neg c,if_neg (fun z=>c (by omega))]
theorem jS {u:List Nat} {y a:Nat} (h:a < u.length):(u++[y]).getD a 0=u.getD a 0:=by
 rw [g0d,g0d,g1e h]
theorem VA {u:List Nat} {y:Nat}:(u++[y]).getD u.length 0=y:=by
 rw [g0d,g1q (g0q _)]
 simp
theorem Jp {u:List Nat} {y:Nat} {T:List T3} {p:Int->Int->Prop} (h1:∀ a b:Nat,a < u.length->b < u.length->a≠b->p (zg T a b) (zg us ((u.getD a 0:Nat):Int) ((u.getD b 0:Nat):Int))) (h2:∀ a:Nat,a < u.length->p (zg T a u.length) (zg us ((u.getD a 0:Nat):Int) (y:Int))) :
  ∀ a b:Nat,a < u.length+1->b < u.length+1->a≠b->p (zg T a b) (zg us (((u++[y]).getD a 0:Nat):Int) (((u++[y]).getD b 0:Nat):Int)):=fun a b ha hb c=>by
 by_cases ca:a=u.length
 ·subst ca
  rw [yE T,yE us,VA,jS (by omega)]
  exact h2 b (by omega)
 ·by_cases cb:b=u.length
  ·subst cb
   rw [VA,jS (by omega)]
   exact h2 a (by omega)
  ·rw [jS (by omega),jS (by omega)]
   exact h1 a b (by omega) (by omega) c
theorem Qb {m k:Nat} {q:List Nat} (h:Nm m k q=true):q.length=k/\q.Nodup/\∀ x∈q,x < m:=by
 unfold Nm at h
 rw [g1p,g1p,decide_eq_true_eq,decide_eq_true_eq] at h
 exact ⟨h.1.1,h.1.2,fun x hx=>of_decide_eq_true (g0w.mp h.2 x hx)⟩
theorem jT {q u':List Nat} {a:Nat} (ha:a < q.length):(q.map fun x=>u'.getD x 0).getD a 0=u'.getD (q.getD a 0) 0:=by
 rw [g0d,g0z,g0p ha,wx ha]
 rfl
theorem Xi {q u':List Nat} (hq:q.Nodup) (hl:∀ x∈q,x < u'.length) (hu:u'.Nodup):(q.map fun x=>u'.getD x 0).Nodup:=by
 rw [g1l] at hq ⊢
 rw [g2n]
 exact hq.imp_of_mem fun {a b} ha hb hab e=>hab (uT hu (hl a ha) (hl b hb) e)
theorem HK {u' S q:List Nat} {T:List T3} {b:Nat×List T3} (h:Dy u'.length T b.1 b.2 q=true) (hn:u'.Nodup) (hS:∀ x∈u',x∈S) (hT:∀ a c:Nat,a < u'.length->c < u'.length->a≠c->Le (zg T a c) (zg us ((u'.getD a 0:Nat):Int) ((u'.getD c 0:Nat):Int))):EmbT b us S (q.map fun x=>u'.getD x 0):=by
 unfold Dy at h
 rw [g1p] at h
 obtain ⟨q1,q2,q3⟩:=Qb h.1
 refine ⟨by rw [g0f,q1],Xi q2 q3 hn,fun x hx=>?_,fun a c ha hc hac=>?_⟩
 ·obtain ⟨z,hz,rfl⟩:=g1i.mp hx
  exact hS _ (yX (q3 z hz))
 ·rw [jT (by omega),jT (by omega)]
  refine (Mg (Hs h.2 ha hc hac)).trans (hT _ _ (q3 _ (yX (by omega))) (q3 _ (yX (by omega))) fun e=>hac (uT q2 (by omega) (by omega) e))
theorem MC {u' q:List Nat} {T B:List T3} (h:Nq u'.length T B q=true) (hn:u'.Nodup) (hT:∀ a c:Nat,a < u'.length->c < u'.length->a≠c->zg us ((u'.getD a 0:Nat):Int) ((u'.getD c 0:Nat):Int)=zg T a c):(q.map fun x=>u'.getD x 0).Perm u'/\IsoT B us (q.map fun x=>u'.getD x 0):=by
 unfold Nq at h
 rw [g1p] at h
 obtain ⟨q1,q2,q3⟩:=Qb h.1
 have nd:=Xi q2 q3 hn
 constructor
 ·refine (List.perm_ext_iff_of_nodup nd hn).mpr fun x=>⟨fun hx=>?_,fun hx=>?_⟩
  ·obtain ⟨z,hz,rfl⟩:=g1i.mp hx
   exact yX (q3 z hz)
  ·obtain ⟨h1,h2⟩:=wu hx
   exact g1i.mpr ⟨u'.idxOf x,GL q2 q1 q3 h1,h2⟩
 ·refine ⟨nd,fun a c ha hc hac=>?_⟩
  rw [g0f] at ha hc
  rw [jT ha,jT hc]
  have:=of_decide_eq_true (Hs h.2 (by omega:a < u'.length) (by omega:c < u'.length) hac)
  rw [<- this]
  exact hT _ _ (q3 _ (yX ha)) (q3 _ (yX hc)) fun e=>hac (uT q2 ha hc e)
theorem FV {k q i:Nat} {B:Bk} {l:Int} (h1:1<=k) (h5:k<=5) (hq:(jV k)[q]? = some B) (hi:i < k) (hl:3<=l/\l<=6) :
  (∃ (q':Nat) (B':Bk) (π:List Nat),(jV (k+1))[q']? = some B'/\Nq (k+1) (B.2++[Wv i k l]) B'.2 π=true)\/∃ b∈HJ,∃ π,Dy (k+1) (B.2++[Wv i k l]) b.1 b.2 π=true:=by
 have hk:k∈[1,2,3,4,5]:=by
  have:k=1\/k=2\/k=3\/k=4\/k=5:=by omega
  simpa using this
 have hlm:l∈([3,4,5,6]:List Int):=by
  have:l=3\/l=4\/l=5\/l=6:=by omega
  simpa using this
 have hql:q < (jV k).length:=(g0v.mp hq).1
 have:=g0w.mp (g0w.mp (g0w.mp (g0w.mp Cm k hk) q (g1t.mpr hql)) i (g1t.mpr hi)) l hlm
 unfold okP at this
 rw [hq] at this
 obtain ⟨e,_,he⟩:=g2x.mp this
 rw [g1p] at he
 have he:=he.2
 split at he
 ·split at he
  ·rename_i B' hB'
   exact .inl ⟨_,B',_,hB',he⟩
  ·cases he
 ·split at he
  ·rename_i b hb
   exact .inr ⟨b,g1y hb,_,he⟩
  ·cases he
theorem FU {k q i j:Nat} {B:Bk} (h1:1<=k) (h5:k<=5) (hq:(jV k)[q]? = some B) (hij:i < j) (hj:j < k):∃ b∈HJ,∃ π,Dy (k+1) (B.2++[Wv i k 3,Wv j k 3]) b.1 b.2 π=true:=by
 have hk:k∈[1,2,3,4,5]:=by
  have:k=1\/k=2\/k=3\/k=4\/k=5:=by omega
  simpa using this
 have hql:q < (jV k).length:=(g0v.mp hq).1
 have:=g0w.mp (g0w.mp (g0w.mp (g0w.mp Cj k hk) q (g1t.mpr hql)) j (g1t.mpr hj)) i (g1t.mpr hij)
 unfold okR at this
 rw [hq] at this
 obtain ⟨e,_,he⟩:=g2x.mp this
 rw [g1p] at he
 have he:=he.2
 split at he
 ·rename_i b hb
  exact ⟨b,g1y hb,_,he⟩
 ·cases he
theorem K7 (hg:yg us) {v:List Nat} {y:Nat} (h1:1<=v.length) (h5:v.length<=5) (nd:(v++[y]).Nodup) (adj:∃ x∈v,zg us (x:Int) (y:Int)≠2) (ih:He us v\/HZ us v):He us (v++[y])\/HZ us (v++[y]):=by
 rcases ih with ⟨q,B,u,hq,hp,I⟩ | ⟨b,hb,u,E⟩
 ·have hk:u.length=v.length:=hp.length_eq
  obtain ⟨w,_,F⟩:=jU h1 (by omega) hq
  have hp':(u++[y]).Perm (v++[y]):=hp.append_right [y]
  have nd':(u++[y]).Nodup:=hp'.nodup_iff.mpr nd
  have hS:∀ x∈u++[y],x∈v++[y]:=fun x hx=>hp'.mem_iff.mp hx
  have hl':(u++[y]).length=v.length+1:=by rw [g0g,g0s,hk]
  have gd:∀ a:Nat,zg us ((u.getD a 0:Nat):Int) (y:Int)=0\/(2<=zg us ((u.getD a 0:Nat):Int) (y:Int)/\zg us ((u.getD a 0:Nat):Int) (y:Int)<=6):=fun a=>vg hg _ _
  obtain ⟨x,hx,hxy⟩:=adj
  obtain ⟨i1,i2⟩:=wu (hp.mem_iff.mpr hx)
  by_cases c0:∃ i,i < u.length/\zg us ((u.getD i 0:Nat):Int) (y:Int)=0
  ·obtain ⟨i,hi,e0⟩:=c0
   refine .inr ⟨(2,[(0,1,0)]),g0i,[u.getD i 0,y],rfl,?_,fun z hz=>?_,fun a c ha hc hac=>?_⟩
   ·refine g2d.mpr ⟨fun z=>?_,by simp⟩
    have e:u.getD i 0=y:=by simpa using z
    have:=(g2u.mp nd').2.2 _ (yX hi) y (by simp)
    exact this e
   ·rcases g0o.mp hz with rfl | hz
    ·exact hS _ (g1w _ (yX hi))
    ·have e:z=y:=by simpa using hz
     rw [e]; exact hS y (by simp)
   ·have hac':(a=0/\c=1)\/(a=1/\c=0):=by
     have ha:a < 2:=ha
     have hc:c < 2:=hc
     omega
    rcases hac' with ⟨rfl,rfl⟩ | ⟨rfl,rfl⟩
    ·exact .inl e0
    ·exact .inl (by rw [yE]; exact e0)
  ·by_cases c2:∃ i j,i < j/\j < u.length/\zg us ((u.getD i 0:Nat):Int) (y:Int)≠2/\zg us ((u.getD j 0:Nat):Int) (y:Int)≠2
   ·obtain ⟨i,j,hij,hj,li,lj⟩:=c2
    obtain ⟨b,hb,π,he⟩:=FU h1 h5 hq hij (by omega)
    rw [<- hl'] at he
    refine .inr ⟨b,hb,_,HK he nd' hS ?_⟩
    rw [hl',<- hk]
    refine Jp (p:=Le) (fun a c ha hc hac=>?_) fun a ha=>?_
    ·rw [Z7 (k:=u.length) (fun e he=>by
      simp only [g0o,List.not_mem_nil,or_false] at he
      rcases he with rfl | rfl <;> rfl) ha hc,I.eq a c ha hc hac]
     exact Le.self _
    ·have hf:Kk u.length B.2:=by rw [hk]; exact F.fit
     have g:=gd a
     have n0:¬ (zg us ((u.getD a 0:Nat):Int) (y:Int)=0):=fun z=>c0 ⟨a,ha,z⟩
     rw [Z8 hf ha,qm ha,qm ha]
     have t0:zg ([]:List T3) a u.length=2:=rfl
     rw [t0]
     unfold Le
     by_cases ci:i=a
     ·subst ci
      rw [if_pos rfl]
      omega
     ·rw [if_neg ci]
      by_cases cj:j=a
      ·subst cj
       rw [if_pos rfl]
       omega
      ·rw [if_neg cj]
       omega
   ·have hne:zg us ((u.getD (u.idxOf x) 0:Nat):Int) (y:Int)≠2:=by rw [i2]; exact hxy
    generalize u.idxOf x=i at i1 hne
    have g:=gd i
    have n0:¬ (zg us ((u.getD i 0:Nat):Int) (y:Int)=0):=fun z=>c0 ⟨i,i1,z⟩
    have oth:∀ a,a < u.length->a≠i->zg us ((u.getD a 0:Nat):Int) (y:Int)=2:=fun a ha c=>by
     apply Classical.byContradiction
     intro z
     rcases Nat.lt_or_ge a i with d | d
     ·exact c2 ⟨a,i,d,i1,z,hne⟩
     ·exact c2 ⟨i,a,by omega,ha,hne,z⟩
    generalize hl:zg us ((u.getD i 0:Nat):Int) (y:Int)=l at g n0 hne
    have hT:∀ a c:Nat,a < (u++[y]).length->c < (u++[y]).length->a≠c->zg us (((u++[y]).getD a 0:Nat):Int) (((u++[y]).getD c 0:Nat):Int)=zg (B.2++[Wv i v.length l]) a c:=by
     rw [hl',<- hk]
     have:=Jp (us:=us) (u:=u) (y:=y) (T:=B.2++[Wv i u.length l]) (p:=fun s t=>t=s) (fun a c ha hc hac=>by
      rw [Z7 (k:=u.length) (fun e he=>by
       have:e=Wv i u.length l:=by simpa using he
       subst this
       rfl) ha hc]
      exact I.eq a c ha hc hac) fun a ha=>by
      have hf:Kk u.length B.2:=by rw [hk]; exact F.fit
      rw [Z8 hf ha,qm ha]
      by_cases c:i=a
      ·subst c
       rw [if_pos rfl]
       exact hl
      ·rw [if_neg c]
       exact oth a ha (Ne.symm c)
     exact this
    rcases FV h1 h5 hq (i:=i) (l:=l) (by omega) (by omega) with ⟨q',B',π,hq',he⟩ | ⟨b,hb,π,he⟩
    ·rw [<- hl'] at he
     obtain ⟨p1,p2⟩:=MC he nd' hT
     exact .inl ⟨q',B',_,by rw [g0g,g0s]; exact hq',p1.trans hp',p2⟩
    ·rw [<- hl'] at he
     refine .inr ⟨b,hb,_,HK he nd' hS fun a c ha hc hac=>?_⟩
     rw [hT a c ha hc hac]
     exact Le.self _
 ·exact .inr ⟨b,hb,u,E.len,E.nd,fun x hx=>g1w _ (E.sub x hx),E.le⟩
theorem VQ (hg:yg us):∀ (m:Nat) (v:List Nat),v.length=m+1->m<=5->v.Nodup->(∀ i,0 < i->i < v.length->∃ j,j < i/\zg us ((v.getD j 0:Nat):Int) ((v.getD i 0:Nat):Int)≠2)->He us v\/HZ us v
 | 0,v,hl,_,nd,_=>by
  refine .inl ⟨0,((1,1),xb []),v,?_,.refl _,nd,fun a b ha hb hab=>by omega⟩
  rw [hl]
  rfl
 | m+1,v,hl,hm,nd,adj=>by
  have e:v=v.take (m+1)++[v.getD (m+1) 0]:=by
   have h:=List.take_append_drop (m+1) v
   rw [g2f (by omega),g2s (by omega)] at h
   rw [wx (by omega)]
   exact h.symm
  have tl:(v.take (m+1)).length=m+1:=by rw [g3i]; omega
  have tg:∀ i,i < m+1->(v.take (m+1)).getD i 0=v.getD i 0:=fun i hi=>by
   rw [g0d,g0d,List.getElem?_take_of_lt hi]
  have ih:=VQ hg m (v.take (m+1)) tl (by omega) (nd.sublist (List.take_sublist _ _)) fun i h0 hi=>by
   rw [tl] at hi
   obtain ⟨j,hj,h⟩:=adj i h0 (by omega)
   exact ⟨j,hj,by rw [tg j (by omega),tg i hi]; exact h⟩
  obtain ⟨j,hj,h⟩:=adj (m+1) (by omega) (by omega)
  rw [e] at nd ⊢
  exact K7 hg (by omega) (by omega) nd ⟨v.getD j 0,by rw [<- tg j hj]; exact yX (by omega),h⟩ ih
end
section
variable {t:Int->Int->Int}
def Ch (t:Int->Int->Int):List Int->Prop
 | x :: y :: r=>t x y≠2/\(∀ z∈r,t x z=2)/\Ch t (y :: r)
 | _=>True
theorem Z4 {l:List Int} (hn:l.Nodup) {y:Int} (hy:y∈l):(y :: woM l y).Perm l:=by
 refine vU ?_ hn fun z=>?_
 ·rw [g2d]
  refine ⟨fun z=>?_,hn.filter _⟩
  unfold woM at z
  simpa using (g1k.mp z).2
 ·rw [g0o]
  unfold woM
  rw [g1k]
  constructor
  ·rintro (rfl | z)
   ·exact hy
   ·exact z.1
  ·intro h
   by_cases c:z=y
   ·exact .inl c
   ·exact .inr ⟨h,decide_eq_true c⟩
theorem QL {x y:Int} {l:List Int}:y∈nbM t x l↔y∈l/\y≠x/\t x y≠2:=by
 unfold nbM
 rw [g1k,g1p,decide_eq_true_eq,decide_eq_true_eq]
theorem HE {x y:Int} {l:List Int} (h:nbM t x l=[y]):y∈l/\y≠x/\t x y≠2/\∀ z∈l,z≠x->z≠y->t x z=2:=by
 have:=QL.mp (show y∈nbM t x l by rw [h]; exact g0i)
 refine ⟨this.1,this.2.1,this.2.2,fun z hz hx hy=>?_⟩
 apply Classical.byContradiction
 intro c
 have:z∈nbM t x l:=QL.mpr ⟨hz,hx,c⟩
 rw [h] at this
 exact hy (by simpa using this)
theorem HS:∀ (n:Nat) (x:Int) (l o:List Int),l.Nodup->x∉l->l.length<=n->chG t n x l=some o->o.Perm l/\Ch t (x :: o)
 | 0,x,l,o,_,_,hl,h=>by
  cases h
  rw [g3a.mp (Nat.le_zero.mp hl)]
  exact ⟨.refl _,trivial⟩
 | n+1,x,l,o,hn,hx,hl,h=>by
  unfold chG at h
  split at h
  ·rename_i e
   cases h
   rw [e]
   exact ⟨.refl _,trivial⟩
  ·split at h
   ·rename_i y e
    obtain ⟨o',e',rfl⟩:=g1v.mp h
    obtain ⟨y1,y2,y3,y4⟩:=HE e
    have wp:=Z4 hn y1
    have wn:(woM l y).Nodup:=hn.filter _
    have hy:y∉woM l y:=(g2d.mp (wp.nodup_iff.mpr hn)).1
    have hwl:=wp.length_eq
    rw [g0e] at hwl
    obtain ⟨p,c⟩:=HS n y (woM l y) o' wn hy (by omega) e'
    refine ⟨(p.cons y).trans wp,y3,fun z hz=>?_,c⟩
    have hz':=p.mem_iff.mp hz
    have hzl:z∈l:=qU hz'
    exact y4 z hzl (fun q=>hx (q ▸ hzl)) fun q=>hy (q ▸ hz')
   ·cases h
theorem VR {ms o:List Int} (hn:ms.Nodup) (h:o∈yI t ms):o.Perm ms/\Ch t o:=by
 obtain ⟨f,hf,e⟩:=g2k.mp h
 unfold vb at e
 obtain ⟨o',e',rfl⟩:=g1v.mp e
 have wp:=Z4 hn hf
 obtain ⟨p,c⟩:=HS ms.length f (woM ms f) o' (hn.filter _) (g2d.mp (wp.nodup_iff.mpr hn)).1 (g2o _ _) e'
 exact ⟨(p.cons f).trans wp,c⟩
theorem JS:∀ {o:List Int},Ch t o->∀ a b:Nat,a < b->b < o.length->t (o.getD a 0) (o.getD b 0)=if b=a+1 then (x5 t o).getD a 0 else 2
 | [],_,a,b,_,hb=>by simp at hb
 | [_],_,a,b,h,hb=>by
  rw [g0s] at hb
  omega
 | x :: y :: r,⟨h1,h2,h3⟩,a,b,hab,hb=>by
  have al:x5 t (x :: y :: r)=t x y :: x5 t (y :: r):=rfl
  cases b with
  | zero=>omega
  | succ b =>
   cases a with
   | zero =>
    rw [al]
    cases b with
    | zero=>rfl
    | succ b =>
     rw [if_neg (by omega)]
     have hb':b < r.length:=by simp only [g0e] at hb; omega
     refine h2 _ ?_
     simp only [g3q]
     rw [g0d,g0p hb']
     exact g2r hb'
   | succ a =>
    have:=JS h3 a b (by omega) (by simp only [g0e] at hb ⊢; omega)
    rw [al]
    simp only [g3q]
    rw [this]
    by_cases c:b=a+1
    ·rw [if_pos c,if_pos (by omega)]
    ·rw [if_neg c,if_neg (by omega)]
end
theorem j4 {ts:List T3} {e:T3} (hn:(ts.map fun u=>(u.1,u.2.1)).Nodup) (he:e∈ts) (hlt:e.1 < e.2.1):zg ts e.1 e.2.1=e.2.2:=by
 have m1:mlo e.1 e.2.1=e.1:=by unfold mlo; rw [if_neg (by omega)]
 have m2:mhi e.1 e.2.1=e.2.1:=by unfold mhi; rw [if_pos (by omega)]
 induction ts with
 | nil=>cases he
 | cons u ts ih =>
  rw [g0h,g2d] at hn
  unfold zg
  rw [m1,m2]
  rcases g0o.mp he with rfl | he
  ·rw [if_pos ⟨rfl,rfl⟩]
  ·rw [if_neg (fun z=>hn.1 (g1i.mpr ⟨e,he,by rw [z.1,z.2]⟩))]
   exact ih hn.2 he
theorem WO {row:List Int} {e:T3}:e∈xb row↔∃ k:Nat,k < row.length/\e=((k:Int),(k:Int)+1,row.getD k 0):=by
 unfold xb
 rw [g1i]
 constructor
 ·rintro ⟨p,hp,rfl⟩
  obtain ⟨k,hk,e⟩:=g2q.mp hp
  have hk':k < row.length:=by simp at hk; exact hk
  refine ⟨k,hk',?_⟩
  rw [<- e]
  simp [g0d,hk']
 ·rintro ⟨k,hk,rfl⟩
  refine ⟨(k,row.getD k 0),?_,rfl⟩
  refine g2q.mpr ⟨k,by simpa using hk,?_⟩
  simp [g0d,hk]
theorem M8 (row:List Int):((xb row).map fun u=>(u.1,u.2.1)).Nodup:=by
 unfold xb
 rw [g1h,g1l,g2n]
 have:(List.zip (g0t row.length) row).Pairwise fun p q=>p.1 < q.1:=by
  rw [g3o]
  intro i j hi hj hij
  simp
  exact hij
 exact this.imp fun {p q} h e=>by
  have:=congrArg Prod.fst e
  simp only [Function.comp] at this
  omega
theorem W5 (row:List Int) {a b:Nat} (hab:a < b) (hb:b < row.length+1):zg (xb row) a b=if b=a+1 then row.getD a 0 else 2:=by
 by_cases c:b=a+1
 ·subst c
  rw [if_pos rfl]
  have:=j4 (M8 row) (e:=((a:Int),(a:Int)+1,row.getD a 0)) (WO.mpr ⟨a,by omega,rfl⟩) (by show (a:Int) < a+1; omega)
  exact this
 ·rw [if_neg c]
  refine jM fun e he hh=>?_
  obtain ⟨k,hk,rfl⟩:=WO.mp he
  obtain ⟨z1,z2⟩:=hh
  have m1:mlo (a:Int) b=a:=by unfold mlo; rw [if_neg (by omega)]
  have m2:mhi (a:Int) b=b:=by unfold mhi; rw [if_pos (by omega)]
  have z1':(k:Int)=mlo (a:Int) b:=z1
  have z2':(k:Int)+1=mhi (a:Int) b:=z2
  omega
section
variable {us:List T3}
theorem uE (t:Int->Int->Int) (o:List Int):(x5 t o).length=o.length - 1:=by
 unfold x5
 rw [List.length_zipWith,g3j]
 omega
theorem jg {o:List Int} (h0:∀ x∈o,0<=x) {a:Nat} (ha:a < o.length):(((o.map Int.toNat).getD a 0:Nat):Int)=o.getD a 0:=by
 rw [g0d,g0z,g0p ha,g0d,g0p ha]
 have:=h0 o[a] (g2r ha)
 simp
 omega
theorem Vj {o:List Int} (h0:∀ x∈o,0<=x) (hn:o.Nodup):(o.map Int.toNat).Nodup:=by
 rw [g1l] at hn ⊢
 rw [g2n]
 exact hn.imp_of_mem fun {a b} ha hb hab e=>hab (by
  have:=h0 a ha
  have:=h0 b hb
  omega)
theorem Q7 {B:List T3} {u:List Nat} (hn:u.Nodup) (h:∀ a b:Nat,a < b->b < u.length->zg us ((u.getD a 0:Nat):Int) ((u.getD b 0:Nat):Int)=zg B a b):IsoT B us u :=
 ⟨hn,fun a b ha hb c=>by
  rcases Nat.lt_or_ge a b with d | d
  ·exact h a b d hb
  ·rw [yE us,yE B]
   exact h b a (by omega) ha⟩
theorem MD {o:List Int} (h0:∀ x∈o,0<=x) (hn:o.Nodup) (hne:o≠[]) (hc:Ch (zg us) o):IsoT (xb (x5 (zg us) o)) us (o.map Int.toNat) :=
 Q7 (Vj h0 hn) fun a b hab hb=>by
  rw [g0f] at hb
  have hl:1<=o.length:=g3s.mpr hne
  rw [jg h0 (by omega),jg h0 hb,JS hc a b hab hb,W5 _ hab (by rw [uE]; omega)]
theorem CP {row:List Int} (hl:row.length<=5) (h:CQ row≠(0,0)):∃ q:Nat,(jV (row.length+1))[q]? = some (CQ row,xb row):=by
 unfold CQ at h
 by_cases c1:row=g0l row.length 3
 ·generalize hn:row.length=n at c1 hl
  subst c1
  have:n=0\/n=1\/n=2\/n=3\/n=4\/n=5:=by omega
  rcases this with rfl | rfl | rfl | rfl | rfl | rfl <;> exact ⟨0,by decide +kernel⟩
 ·rw [if_neg c1] at h
  by_cases c2:row=g0l (row.length - 1) 3++[4]
  ·generalize hn:row.length=n at c2 hl
   have h1:1<=n:=by
    rw [<- hn,c2]
    simp
   subst c2
   have:n=1\/n=2\/n=3\/n=4\/n=5:=by omega
   rcases this with rfl | rfl | rfl | rfl | rfl <;> exact ⟨1,by decide +kernel⟩
  ·rw [if_neg c2] at h
   by_cases d1:row=[3,4,3]
   ·subst d1; exact ⟨4,by decide +kernel⟩
   ·rw [if_neg d1] at h
    by_cases d2:row=[3,5]
    ·subst d2; exact ⟨2,by decide +kernel⟩
    ·rw [if_neg d2] at h
     by_cases d3:row=[3,3,5]
     ·subst d3; exact ⟨3,by decide +kernel⟩
     ·rw [if_neg d3] at h
      by_cases d4:row=[5]
      ·subst d4; exact ⟨2,by decide +kernel⟩
      ·rw [if_neg d4] at h
       by_cases d5:row=[6]
       ·subst d5; exact ⟨3,by decide +kernel⟩
       ·rw [if_neg d5] at h
        exact absurd rfl h
theorem CN {ms:List Int} (h0:∀ x∈ms,0<=x) (hn:ms.Nodup) (hl:ms.length<=6) {c:Kd} (hc:c∈Kh (zg us) ms) (hz:c≠(0,0)):He us (ms.map Int.toNat):=by
 unfold Kh at hc
 obtain ⟨o,ho,rfl⟩:=g1i.mp hc
 obtain ⟨p,ch⟩:=VR hn ho
 have hol:=p.length_eq
 have hne:o≠[]:=by
  obtain ⟨f,hf,e⟩:=g2k.mp ho
  unfold vb at e
  obtain ⟨o',_,rfl⟩:=g1v.mp e
  simp
 have hl1:1<=o.length:=g3s.mpr hne
 obtain ⟨q,hq⟩:=CP (row:=x5 (zg us) o) (by rw [uE]; omega) hz
 rw [uE,show o.length - 1+1=ms.length by omega] at hq
 exact ⟨q,_,o.map Int.toNat,by rw [g0f]; exact hq,p.map _,MD (fun x hx=>h0 x (p.mem_iff.mp hx)) (p.nodup_iff.mpr hn) hne ch⟩
end
section
variable {us:List T3}
theorem M9 {t:Int->Int->Int}:∀ {o:List Int},Ch t o->∀ a:Nat,a+1 < o.length->t (o.getD a 0) (o.getD (a+1) 0)≠2
 | [],_,a,h=>by simp at h
 | [_],_,a,h=>by
  rw [g0s] at h
  omega
 | x :: y :: r,⟨h1,_,h3⟩,0,_=>h1
 | x :: y :: r,⟨_,_,h3⟩,a+1,h=>by
  have:=M9 h3 a (by simp only [g0e] at h ⊢; omega)
  simpa only [g3q] using this
theorem Fj {m a:Nat} (h:a < m):(r3 m).getD a 0=3:=by
 unfold r3
 rw [g0d,g2b,if_pos h]
 rfl
theorem Vt {o:List Int} {e:Int} {p:Nat} (h0:∀ x∈o++[e],0<=x) (hn:(o++[e]).Nodup) (h2:2<=o.length) (hp:p < o.length) (hc:∀ a b:Nat,a < b->b < o.length->zg us (o.getD a 0) (o.getD b 0)=if b=a+1 then 3 else 2) (he:∀ a:Nat,a < o.length->zg us (o.getD a 0) e=if p=a then 3 else 2) :
  IsoT (xb (r3 (o.length - 1))++[Wv p o.length 3]) us ((o++[e]).map Int.toNat) :=
 Q7 (Vj h0 hn) fun a b hab hb=>by
  rw [g0f,g0g,g0s] at hb
  have rl:(r3 (o.length - 1)).length=o.length - 1:=by simp [r3]
  have old:∀ a,a < o.length->(o++[e]).getD a 0=o.getD a 0:=fun a ha=>by
   rw [g0d,g0d,g1e ha]
  rw [jg h0 (by rw [g0g,g0s]; omega),jg h0 (by rw [g0g,g0s]; omega),old a (by omega)]
  by_cases c:b=o.length
  ·subst c
   have nw:(o++[e]).getD o.length 0=e:=by
    rw [g0d,g1q (g0q _)]
    simp
   have hf:Kk o.length (xb (r3 (o.length - 1))):=fun u hu=>by
    obtain ⟨k,hk,rfl⟩:=WO.mp hu
    rw [rl] at hk
    refine ⟨?_,?_,?_⟩
    ·show (0:Int)<=k; omega
    ·show (k:Int) < k+1; omega
    ·show (k:Int)+1 < o.length; omega
   rw [nw,he a (by omega),Z8 hf (by omega),qm (by omega)]
   rfl
  ·rw [old b (by omega),hc a b hab (by omega),Z7 (k:=o.length) (fun u hu=>by
    have:u=Wv p o.length 3:=by simpa using hu
    subst this
    rfl) (by omega) (by omega),W5 _ hab (by rw [rl]; omega)]
   by_cases d:b=a+1
   ·rw [if_pos d,if_pos d,Fj (by omega)]
   ·rw [if_neg d,if_neg d]
theorem Wj {o:List Int} {a:Nat} (h:a < o.length):o.reverse.getD a 0=o.getD (o.length - 1 - a) 0:=by
 rw [g0d,g0d,List.getElem?_reverse h]
theorem CJ {ms:List Int} (h0:∀ x∈ms,0<=x) (hn:ms.Nodup) (hl:ms.length<=6) (h3:∀ x∈ms,∀ y∈ms,x≠y->zg us x y=2\/zg us x y=3) {c:Kd} (hc:c∈Gv (zg us) ms) (hz:c≠(0,0)):He us (ms.map Int.toNat):=by
 unfold Gv at hc
 obtain ⟨e,he,hc⟩:=List.mem_flatMap.mp hc
 split at hc
 ·rename_i y hy
  obtain ⟨o,ho,rfl⟩:=g1i.mp hc
  obtain ⟨y1,y2,y3,y4⟩:=HE hy
  obtain ⟨p,ch⟩:=VR (hn.filter _) ho
  have wp:=Z4 hn he
  have pe:(o++[e]).Perm ms:=(List.perm_append_singleton e o).trans ((p.cons e).trans wp)
  have nd:=pe.nodup_iff.mpr hn
  have g0:∀ x∈o++[e],0<=x:=fun x hx=>h0 x (pe.mem_iff.mp hx)
  have hlen:=pe.length_eq
  rw [g0g,g0s] at hlen
  have om:∀ a,a < o.length->o.getD a 0∈o:=fun a ha=>by
   rw [g0d,g0p ha]
   exact g2r ha
  have oms:∀ x∈o,x∈ms:=fun x hx=>pe.mem_iff.mp (g1w _ hx)
  have one:∀ x∈o,x≠e:=fun x hx=>(g2u.mp nd).2.2 x hx e (by simp)
  have ond:o.Nodup:=(g2u.mp nd).1
  have oinj:∀ a b,a < o.length->b < o.length->o.getD a 0=o.getD b 0->a=b:=fun a b ha hb z=>by
   rw [g0d,g0p ha,g0d,g0p hb] at z
   have z:o[a]=o[b]:=z
   have h:=g3o.mp (g1l.mp ond)
   rcases Nat.lt_trichotomy a b with d | d | d
   ·exact absurd z (h a b ha hb d)
   ·exact d
   ·exact absurd z.symm (h b a hb ha d)
  have c3:∀ a b:Nat,a < b->b < o.length->zg us (o.getD a 0) (o.getD b 0)=if b=a+1 then 3 else 2:=fun a b hab hb=>by
   by_cases d:b=a+1
   ·subst d
    rw [if_pos rfl]
    rcases h3 _ (oms _ (om a (by omega))) _ (oms _ (om (a+1) hb)) (fun z=>by have:=oinj a (a+1) (by omega) hb z; omega) with z | z
    ·exact absurd z (M9 ch a hb)
    ·exact z
   ·rw [if_neg d]
    have:=JS ch a b hab hb
    rw [if_neg d] at this
    exact this
  have eP:∀ k a,o[k]? = some y->a < o.length->zg us (o.getD a 0) e=if k=a then 3 else 2:=fun k a hk ha=>by
   obtain ⟨hkl,ek⟩:=g0v.mp hk
   have ey:o.getD k 0=y:=by rw [g0d,hk]; rfl
   rw [yE]
   by_cases d:k=a
   ·subst d
    rw [if_pos rfl,ey]
    rcases h3 e he y y1 (Ne.symm y2) with z | z
    ·exact absurd z y3
    ·exact z
   ·rw [if_neg d]
    exact y4 _ (oms _ (om a ha)) (one _ (om a ha)) fun z=>d (oinj k a hkl ha (by rw [ey,z]))
  unfold qB at hz
  by_cases d1:4<=o.length+1/\o[1]? = some y
  ·have I:=Vt (us:=us) (o:=o.reverse) (e:=e) (p:=o.length - 2) (fun x hx=>g0 x (by
    rcases g1o.mp hx with hx | hx
    ·exact g1w _ (List.mem_reverse.mp hx)
    ·exact g1c _ hx)) ((List.Perm.append_right [e] (List.reverse_perm o)).nodup_iff.mpr nd) (by rw [g2c]; omega) (by rw [g2c]; omega) (fun a b hab hb=>by
    rw [g2c] at hb
    rw [Wj (by omega),Wj hb,yE,c3 _ _ (by omega) (by omega)]
    by_cases d:b=a+1
    ·rw [if_pos (by omega),if_pos d]
    ·rw [if_neg (by omega),if_neg d]) fun a ha=>by
    rw [g2c] at ha
    rw [Wj ha,eP 1 _ d1.2 (by omega)]
    by_cases d:o.length - 2=a
    ·rw [if_pos (by omega),if_pos d]
    ·rw [if_neg (by omega),if_neg d]
   rw [g2c] at I
   have hm:∃ (q:Nat) (B:Kd),(jV (o.length+1))[q]? = some (B,xb (r3 (o.length - 1))++[Wv (o.length - 2) o.length 3]):=by
    have:o.length=3\/o.length=4\/o.length=5:=by omega
    rcases this with z | z | z <;> rw [z]
    ·exact ⟨2,(4,4),by decide +kernel⟩
    ·exact ⟨2,(4,5),by decide +kernel⟩
    ·exact ⟨2,(4,6),by decide +kernel⟩
   obtain ⟨q,B,hq⟩:=hm
   exact ⟨q,_,_,by rw [g0f,<- hlen]; exact hq,((List.Perm.append_right [e] (List.reverse_perm o)).trans pe).map _,I⟩
  ·rw [if_neg d1] at hz
   by_cases d2:o.length+1=6/\o[2]? = some y
   ·have I:=Vt (us:=us) (o:=o) (e:=e) (p:=2) g0 nd (by omega) (by omega) c3 (fun a ha=>eP 2 a d2.2 ha)
    have z:o.length=5:=by omega
    rw [z] at I
    exact ⟨3,((5,6),_),_,by rw [g0f,<- hlen,z]; decide +kernel,pe.map _,I⟩
   ·rw [if_neg d2] at hz
    exact absurd rfl hz
 ·cases hc
theorem Z9:∀ {us:List T3} {i j:Int},zg us i j≠2->∃ u∈us,u.1=mlo i j/\u.2.2=zg us i j
 | [],i,j,h=>absurd rfl h
 | u :: us,i,j,h=>by
  unfold zg at h ⊢
  by_cases c:u.1=mlo i j/\u.2.1=mhi i j
  ·rw [if_pos c]
   exact ⟨u,g0i,c.1,rfl⟩
  ·rw [if_neg c] at h ⊢
   obtain ⟨v,hv,e⟩:=Z9 h
   exact ⟨v,g0m _ hv,e⟩
theorem Pz {ms:List Int} (h:ZE us ms=true):∀ x∈ms,∀ y∈ms,x≠y->zg us x y=2\/zg us x y=3:=fun x hx y hy _=>by
 by_cases c:zg us x y=2
 ·exact .inl c
 ·obtain ⟨u,hu,e1,e2⟩:=Z9 c
  right
  unfold ZE at h
  have:=g0w.mp h u (g1k.mpr ⟨hu,decide_eq_true (by
   rw [e1]
   rcases Mc x y with z | z <;> rw [z] <;> assumption)⟩)
  rw [<- e2]
  exact of_decide_eq_true this
theorem GB {n:Nat} (hg:yg us) {ms:List Int} (h0:∀ x∈ms,0<=x/\x < n) (hn:ms.Nodup) (h1:1<=ms.length) (hl:ms.length<=6) (hi:HZ us (ms.map Int.toNat)) {c:Kd} (hc:c∈ve (zg us) (ZE us ms) ms):c=(0,0):=by
 apply Classical.byContradiction
 intro hz
 have hS:∀ x∈ms.map Int.toNat,x < n:=fun x hx=>by
  obtain ⟨y,hy,rfl⟩:=g1i.mp hx
  have:=h0 y hy
  omega
 have h0':∀ x∈ms,0<=x:=fun x hx=>(h0 x hx).1
 refine Ge hg hS (by rw [g0f]; exact h1) (by rw [g0f]; exact hl) ?_ hi
 unfold ve at hc
 rcases g1o.mp hc with hc | hc
 ·exact CN h0' hn hl hc hz
 ·split at hc
  ·rename_i ht
   exact CJ h0' hn hl (Pz ht) hc hz
  ·cases hc
theorem ML:([1,2,3,4,5,6].all fun k=>(jV k).all fun B=>decide ((B.2.map fun u=>(u.1,u.2.1)).Nodup))=true:=by decide +kernel
theorem GO {n k q:Nat} {B:Bk} (hg:yg us) (hnd:(us.map fun u=>(u.1,u.2.1)).Nodup) (hfit:Kk n us) {ms:List Int} (h0:∀ x∈ms,0<=x/\x < n) (hcl:∀ x∈ms,∀ y:Int,0<=y->y < n->y∉ms->zg us x y=2) (h1:1<=k) (h6:k<=6) (hq:(jV k)[q]? = some B) {u:List Nat} (hl:u.length=k) (hp:u.Perm (ms.map Int.toNat)) (I:IsoT B.2 us u) :
  (∀ c∈ve (zg us) (ZE us ms) ms,c=(0,0)\/c=B.1)/\(B.1=(0,0)\/B.1∈ve (zg us) (ZE us ms) ms):=by
 obtain ⟨w,_,F⟩:=jU h1 h6 hq
 have hk:k∈[1,2,3,4,5,6]:=by
  have:k=1\/k=2\/k=3\/k=4\/k=5\/k=6:=by omega
  simpa using this
 have hB:B∈jV k:=g1y hq
 have hBb:B∈Kj k:=(g1k.mp hB).1
 have bnd:(B.2.map fun u=>(u.1,u.2.1)).Nodup:=of_decide_eq_true (g0w.mp (g0w.mp ML k hk) B hB)
 have mem:∀ a,a < k->((u.getD a 0:Nat):Int)∈ms:=fun a ha=>by
  obtain ⟨x,hx,e⟩:=g1i.mp (hp.mem_iff.mp (yX (u:=u) (a:=a) (by omega)))
  have:=(h0 x hx).1
  rw [<- e,show ((x.toNat:Nat):Int)=x by omega]
  exact hx
 have self2:∀ (ts:List T3) (m:Nat),Kk m ts->∀ x:Int,zg ts x x=2:=fun ts m hf x=>jM fun e he hh=>by
  have h2:=(hf e he).2.1
  obtain ⟨z1,z2⟩:=hh
  have z1:e.1=mlo x x:=z1
  have z2:e.2.1=mhi x x:=z2
  unfold mlo at z1
  unfold mhi at z2
  simp at z1 z2
  omega
 have R:Rlb (zg B.2) (zg us) (fun i=>((u.getD i.toNat 0:Nat):Int)) (idx k):=⟨fun i hi j hj=>by
  rw [vX] at hi hj
  by_cases c:i=j
  ·subst c
   rw [self2 us n hfit,self2 B.2 k F.fit]
  ·have:=I.eq i.toNat j.toNat (by omega) (by omega) (by omega)
   rw [show ((i.toNat:Nat):Int)=i by omega,show ((j.toNat:Nat):Int)=j by omega] at this
   exact this,fun i hi j hj e=>by
  rw [vX] at hi hj
  have:=uT I.nd (a:=i.toNat) (b:=j.toNat) (by omega) (by omega) (by omega)
  omega⟩
 have pm:ms.Perm ((idx k).map fun i=>((u.getD i.toNat 0:Nat):Int)):=by
  have e1:(idx k).map (fun i=>((u.getD i.toNat 0:Nat):Int))=u.map fun (x:Nat)=>(x:Int):=by
   unfold idx
   rw [g1h,<- hl]
   apply List.ext_getElem
   ·simp
   ·intro i a b
    simp at a
    simp [g0d,a]
  have e2:ms=(ms.map Int.toNat).map fun (x:Nat)=>(x:Int):=by
   rw [g1h]
   have:ms.map ((fun (x:Nat)=>(x:Int)) ∘ Int.toNat)=ms.map id:=g1r fun x hx=>by
    have:=(h0 x hx).1
    simp only [Function.comp,id]
    omega
   rw [this,List.map_id]
  rw [e1,e2]
  exact (hp.map _).symm
 have thr:ZE us ms=Hh B.2:=by
  rw [Bool.eq_iff_iff]
  constructor
  ·intro h
   unfold Hh
   rw [g0w]
   intro e he
   obtain ⟨f1,f2,f3⟩:=F.fit e he
   have ts:=j4 bnd he f2
   have eq:=R.tt e.1 (vX.mpr ⟨f1,by omega⟩) e.2.1 (vX.mpr ⟨by omega,f3⟩)
   have m1:=mem e.1.toNat (by omega)
   have m2:=mem e.2.1.toNat (by omega)
   have gd:=F.good e he
   have:=Pz h _ m1 _ m2 (fun z=>by
    have:=R.inj e.1 (vX.mpr ⟨f1,by omega⟩) e.2.1 (vX.mpr ⟨by omega,f3⟩) z
    omega)
   rw [eq,ts] at this
   exact decide_eq_true (by omega)
  ·intro h
   unfold ZE
   rw [g0w]
   intro e he
   obtain ⟨he,hm⟩:=g1k.mp he
   have hm:=of_decide_eq_true hm
   obtain ⟨f1,f2,f3⟩:=hfit e he
   have ts:=j4 hnd he f2
   have gd:=hg e he
   have hm2:e.2.1∈ms:=Classical.byContradiction fun z=>by
    have:=hcl e.1 hm e.2.1 (by omega) f3 z
    omega
   obtain ⟨i,hi,ei⟩:=g1i.mp (pm.mem_iff.mp hm)
   obtain ⟨j,hj,ej⟩:=g1i.mp (pm.mem_iff.mp hm2)
   have eq:=R.tt i hi j hj
   rw [ei,ej,ts] at eq
   obtain ⟨v,hv,_,v2⟩:=Z9 (us:=B.2) (i:=i) (j:=j) (by omega)
   unfold Hh at h
   have:=of_decide_eq_true (g0w.mp h v hv)
   exact decide_eq_true (by omega)
 rw [thr]
 obtain ⟨k1,k2⟩:=Gc hBb
 have r:=fun c=>Gx R (fun y hy=>hy) pm (b:=Hh B.2) (k:=c)
 exact ⟨fun c hc=>k1 c ((r c).mp hc),k2.imp id fun z=>(r _).mpr z⟩
end
section
variable {t:Int->Int->Int} {n:Nat}
def Adj (t:Int->Int->Int) (v:List Int):Prop:=∀ i:Nat,0 < i->i < v.length->∃ j:Nat,j < i/\t (v.getD j 0) (v.getD i 0)≠2
theorem qC {a b:List Int} {i:Nat} (h:i < a.length):(a++b).getD i 0=a.getD i 0:=by
 rw [g0d,g1e h,g0d]
theorem J3 (t:Int->Int->Int):∀ (k:Nat) (part left:List Int) (p:Nat),Adj t part->Adj t (js t k part left p)
 | 0,part,left,p,h=>h
 | k+1,part,left,p,h=>by
  unfold js
  cases e:part[p]? with
  | none=>exact h
  | some x =>
   have hp:p < part.length:=(g0v.mp e).1
   refine J3 t k _ _ _ fun i h0 hi=>?_
   by_cases c:i < part.length
   ·obtain ⟨j,h1,h2⟩:=h i h0 c
    exact ⟨j,h1,by rw [qC c,qC (by omega)]; exact h2⟩
   ·refine ⟨p,by omega,?_⟩
    rw [qC hp,g0d,e,g2w]
    rw [g0g] at hi
    have hy:(part++nbM t x left).getD i 0∈nbM t x left:=by
     rw [g0d,g1q (by omega),g0p (by omega),g2w]
     exact g2r _
    exact (QL.mp hy).2.2
theorem Wo {x:Int} {S:List Int} (hx:x∈idx n) (hxS:x∈S) (hS:∀ x∈S,∀ y∈idx n,y∉S->t x y=2) :
  x∈xK t n x/\(xK t n x).Nodup/\(∀ y∈xK t n x,y∈S)/\∀ y∈xK t n x,∀ z∈idx n,z∉xK t n x->t y z=2:=by
 have hwo:([x]++woM (idx n) x).Perm (idx n):=Z4 (vE n) hx
 obtain ⟨a1,a2,a3,a4⟩:=VW (vE n) hS n [x] (woM (idx n) x) 0 hwo (fun y hy=>by simp at hy; exact hy ▸ hxS) (fun q hq=>by omega) (by simp [idx])
 exact ⟨a1 x g0i,a2,a3,a4⟩
theorem Yo {x:Int} (hx:x∈idx n):x∈xK t n x/\(xK t n x).Nodup/\(∀ y∈xK t n x,y∈idx n)/\∀ y∈xK t n x,∀ z∈idx n,z∉xK t n x->t y z=2 :=
 Wo hx hx fun _ _ y hy hy'=>absurd hy hy'
theorem Vd (t:Int->Int->Int) (n:Nat) (x:Int):Adj t (xK t n x):=J3 t n [x] _ 0 fun i h0 hi=>by
 rw [g0s] at hi
 omega
theorem VX (t:Int->Int->Int):∀ (k:Nat) (part left:List Int) (p:Nat),part≠[]->(js t k part left p).getD 0 0=part.getD 0 0
 | 0,part,left,p,h=>rfl
 | k+1,part,left,p,h=>by
  unfold js
  split
  ·rfl
  ·rw [VX t k _ _ _ (by simp [h]),qC (g3s.mpr h)]
theorem Qw (ht:∀ i j,t i j=t j i) {x y:Int} (hx:x∈idx n) (hy:y∈xK t n x):(xK t n y).Perm (xK t n x):=by
 obtain ⟨x1,x2,x3,x4⟩:=Yo (t:=t) hx
 have hyn:=x3 y hy
 obtain ⟨y1,y2,y3,y4⟩:=Wo (t:=t) (S:=xK t n x) hyn hy x4
 refine vU y2 x2 fun z=>⟨y3 z,fun hz=>?_⟩
 have hxy:x∈xK t n y:=Classical.byContradiction fun hn=>by
  have all:∀ i,i < (xK t n x).length->(xK t n x).getD i 0∉xK t n y:=by
   intro i
   induction i using Nat.strongRecOn with
   | ind i ih =>
    intro hi
    by_cases c:i=0
    ·subst c
     unfold xK
     rw [VX t n [x] _ 0 (by simp)]
     exact hn
    ·obtain ⟨j,h1,h2⟩:=Vd t n x i (by omega) hi
     intro hm
     have hj:=ih j h1 (by omega)
     have hjn:(xK t n x).getD j 0∈idx n:=x3 _ (by rw [g0d,g0p (by omega),g2w]; exact g2r _)
     exact h2 (by rw [ht]; exact y4 _ hm _ hjn hj)
  obtain ⟨i,hi,e⟩:=g2q.mp hy
  refine all i hi ?_
  rw [g0d,g0p hi,g2w,e]
  exact y1
 exact (Wo (t:=t) (S:=xK t n y) hx hxy y4).2.2.1 z hz
end
section
variable {ts:List T3} {n:Nat}
abbrev SP (n:Nat) (ts:List T3) (x:Int):List Int:=FL.sortI (xK (zg ts) n x)
theorem qV (x:Int):(SP n ts x).Perm (xK (zg ts) n x):=FL.sortI_perm _
theorem Wh (ht:∀ i j,zg ts i j=zg ts j i) {x y:Int} (hx:x∈idx n) (hy:y∈SP n ts x):SP n ts y=SP n ts x :=
 FL.perm_eq ((qV y).trans ((Qw ht hx ((qV x).mem_iff.mp hy)).trans (qV x).symm)) (FL.sortI_sorted _) (FL.sortI_sorted _)
theorem vS {x:Int} (hx:x∈idx n):x∈SP n ts x/\(SP n ts x).Nodup/\(∀ y∈SP n ts x,y∈idx n)/\(SP n ts x).length<=n/\1<=(SP n ts x).length/\∀ y∈SP n ts x,∀ z:Int,0<=z->z < n->z∉SP n ts x->zg ts y z=2:=by
 obtain ⟨h1,h2,h3,h4⟩:=Yo (t:=zg ts) hx
 have p:=qV (n:=n) (ts:=ts) x
 have m1:=p.mem_iff.mpr h1
 have nd:=p.nodup_iff.mpr h2
 have sub:∀ y∈SP n ts x,y∈idx n:=fun y hy=>h3 y (p.mem_iff.mp hy)
 refine ⟨m1,nd,sub,?_,List.length_pos_of_mem m1,fun y hy z z0 z1 hz=>h4 y (p.mem_iff.mp hy) z (vX.mpr ⟨z0,z1⟩) fun q=>hz (p.mem_iff.mpr q)⟩
 have:=kA nd sub
 simpa [idx] using this
def xg (n:Nat) (ts:List T3):List Int:=(idx n).filter fun x=>decide ((SP n ts x).headD 0=x)
theorem Jb {l:List Int} (h:1<=l.length):l.headD 0∈l:=by
 cases l with
 | nil=>simp at h
 | cons x l=>exact g0i
theorem UL (ht:∀ i j,zg ts i j=zg ts j i):((xg n ts).flatMap (SP n ts)).Perm (idx n):=by
 refine vU ?_ (vE n) fun y=>?_
 ·rw [g1l,List.pairwise_flatMap]
  refine ⟨fun x hx=>g1l.mp (vS (g1k.mp hx).1).2.1,?_⟩
  have nd:(xg n ts).Nodup:=(vE n).filter _
  refine (g1l.mp nd).imp_of_mem fun {a b} ha hb hab=>?_
  obtain ⟨ha1,ha2⟩:=g1k.mp ha
  obtain ⟨hb1,hb2⟩:=g1k.mp hb
  intro z hza z' hzb hz
  subst hz
  have e:=(Wh ht ha1 hza).symm.trans (Wh ht hb1 hzb)
  refine hab ?_
  rw [<- of_decide_eq_true ha2,<- of_decide_eq_true hb2,e]
 ·rw [List.mem_flatMap]
  constructor
  ·rintro ⟨x,hx,hy⟩
   exact (vS (g1k.mp hx).1).2.2.1 y hy
  ·intro hy
   obtain ⟨f1,_,f3,_,f5,_⟩:=vS (ts:=ts) hy
   have hm:=Jb f5
   have e:=Wh ht hy hm
   refine ⟨(SP n ts y).headD 0,g1k.mpr ⟨f3 _ hm,?_⟩,by rw [e]; exact f1⟩
   rw [e]
   exact decide_eq_true rfl
theorem GN {us:List T3} {v v':List Nat} (h:v.Perm v') (hf:He us v):He us v':=by
 obtain ⟨q,B,u,h1,h2,h3⟩:=hf
 exact ⟨q,B,u,by rw [<- h.length_eq]; exact h1,h2.trans h,h3⟩
theorem GA {us:List T3} {v v':List Nat} (h:v.Perm v') (hf:HZ us v):HZ us v':=by
 obtain ⟨b,hb,u,E⟩:=hf
 exact ⟨b,hb,u,E.len,E.nd,fun x hx=>h.mem_iff.mp (E.sub x hx),E.le⟩
theorem Kt (hg:yg ts) (hn:n<=6) {x:Int} (hx:x∈idx n):He ts ((SP n ts x).map Int.toNat)\/HZ ts ((SP n ts x).map Int.toNat):=by
 obtain ⟨h1,h2,h3,h4⟩:=Yo (t:=zg ts) hx
 have p:=(qV (n:=n) (ts:=ts) x).symm.map Int.toNat
 have h0:∀ y∈xK (zg ts) n x,0<=y:=fun y hy=>(vX.mp (h3 y hy)).1
 obtain ⟨_,_,_,f4,f5,_⟩:=vS (ts:=ts) hx
 rw [(qV (n:=n) (ts:=ts) x).length_eq] at f4 f5
 obtain ⟨m,hm⟩:∃ m,(xK (zg ts) n x).length=m+1:=⟨(xK (zg ts) n x).length - 1,by omega⟩
 rcases VQ hg m ((xK (zg ts) n x).map Int.toNat) (by rw [g0f]; exact hm) (by omega) (Vj h0 h2) (fun i hi1 hi2=>by
  rw [g0f] at hi2
  obtain ⟨j,hj,e⟩:=Vd (zg ts) n x i hi1 hi2
  exact ⟨j,hj,by rw [jg h0 (by omega),jg h0 hi2]; exact e⟩) with z | z
 ·exact .inl (GN p z)
 ·exact .inr (GA p z)
end
end GH
namespace Pk62
open PySem PySem.Spec PyProof.Rows L2 FL
def top (i:Nat):Stmt:=PySem.Challenge.pw_mirrorhouse_k62_whole_never_ending.main.body.getD i (.Pass ⟨0,0,0,0⟩)
abbrev vk:Stmt:=top 5
abbrev xF:Stmt:=top 11
abbrev vj:Stmt:=top 12
abbrev vm:Stmt:=top 13
abbrev qY:Stmt:=top 14
abbrev xH:Stmt:=top 15
abbrev uO:Stmt:=top 16
abbrev xl:Stmt:=top 17
abbrev yO:Stmt:=top 18
abbrev z5:Stmt:=top 19
abbrev yq:Stmt:=top 20
abbrev xa:Stmt:=top 21
abbrev yN:Stmt:=top 22
abbrev vx:Stmt:=top 23
abbrev q9:Stmt:=top 24
abbrev vz:Stmt:=top 25
abbrev yt:Stmt:=top 26
abbrev vA:Stmt:=top 27
abbrev ZI:Stmt:=top 29
abbrev qZ:Stmt:=top 30
abbrev vw:Stmt:=top 32
abbrev uK:Stmt:=top 33
abbrev uM:Stmt:=top 34
abbrev vq:Stmt:=top 35
abbrev vo:Stmt:=top 36
abbrev xG:Stmt:=top 37
abbrev uL:Stmt:=top 38
abbrev uN:Stmt:=top 39
abbrev vp:Stmt:=top 40
abbrev Yl:Stmt:=top 41
structure Txt (w:World) (K:W.Frag) (mg:Str->Option Value):Prop where
 base:True
 abs_b:mg "abs"=none
 all_b:mg "all"=none
 enumerate_b:mg "enumerate"=none
 int_b:mg "int"=none
 len_b:mg "len"=none
 list_b:mg "list"=none
 max_b:mg "max"=none
 min_b:mg "min"=none
 range_b:mg "range"=none
 sorted_b:mg "sorted"=none
 sum_b:mg "sum"=none
 tuple_b:mg "tuple"=none
 zip_b:mg "zip"=none
 COMMON_TURN_c:∃ t,mg "COMMON_TURN"=some (Value.int 3 t)
 NOT_TOLD_c:∃ t,mg "NOT_TOLD"=some (Value.int 2 t)
 NO_KIND_c:∃ t,mg "NO_KIND"=some (Value.str "-" t)
 RARE_CHAINS_c:GDictT K mg "RARE_CHAINS" [([3,4,3],(.str "f4")),([3,5],(.str "h3")),([3,3,5],(.str "h4")),([5],(.str "i5")),([6],(.str "i6"))]
 RARE_DEGREES_c:GDictS w K mg "RARE_DEGREES" [("e6",(.tup [(.int 2),(.int 5),(.int 6),(.int 8),(.int 9),(.int 12)])),("f4",(.tup [(.int 2),(.int 6),(.int 8),(.int 12)])),("h3",(.tup [(.int 2),(.int 6),(.int 10)])),("h4",(.tup [(.int 2),(.int 12),(.int 20),(.int 30)])),("i5",(.tup [(.int 2),(.int 5)])),("i6",(.tup [(.int 2),(.int 6)]))]
noncomputable def Zg:FS:=(z6 (yL 3 (zY Gj (za (vF 1) (za (vF 2) zy)))) (z6 (yL 4 (zY Gn (za (vF 1) (za (vF 2) zy)))) (z6 (jI (zF (zb ixD (vF 0) (cF (.int 1)))) (j7 3 (yA (zB 5) (yA (zB 6) (yA (zB 7) Zv)))) (ifS (qO (blF (zb eqF (vF 5) (vF 3))) (blF (zb eqF (vF 6) (vF 4)))) (yT (vF 7)) nxF)) (yT (cF (.int 2))))))
noncomputable def xv:List D->Option D:=uo 8 Zg
theorem wH:FnScope ["house","i","j","lesser","greater","first","second","m"] ["house","i","j"] (zi vk):=⟨rfl,rfl,rfl,by decide +kernel,rfl,by decide +kernel,by decide +kernel⟩
section
variable {P:Program} {w:World} {K:W.Frag} {mg:Str->Option Value} {base:Heap} {f:Addr} {fd:FuncData}
theorem Up (Fn:Fun K "turn_of" "turn_of" vk f fd) (T:Txt w K mg)  :
  FnOk P w K mg base CX0 1 f fd ["house","i","j"] (spF K 3 xv) :=
 yD (k:=0) (m:=8) (F:=Zg) rfl rfl Fn wH fun cdv A outer s H E hr=>(zf (z7 3 wH.nd (yn (kX rfl) WI rfl T.min_b (by rfl) (zl (DE.dr (dv 1)) (zl (DE.dr (dv 2)) zC)))) (zf (z7 4 wH.nd (yn (kY rfl) WJ rfl T.max_b (by rfl) (zl (DE.dr (dv 1)) (zl (DE.dr (dv 2)) zC)))) (zf (w9 PassesOwn.never rfl (xy (x9 (DE.dr (dv 0)) (DE.dr zk))) (qI rfl (ye (zJ 5 wH.nd) (ye (zJ 6 wH.nd) (ye (zJ 7 wH.nd) ua)))) (zj (xD (DW.dt (uy (vN hr (DE.dr (dv 5)) (DE.dr (dv 3))) (wV (vN hr (DE.dr (dv 6)) (DE.dr (dv 4)))))) (zj (zK (dv 7))) z9))) (zj (zK (XI rfl T.NOT_TOLD_c))))))
noncomputable def uG:FS:=(yT (zL (xX 1 [1,0] (zF (vF 2)) (zB 0) (qO (blF (zb neF (vF 0) (vF 1))) (blF (zb neF (zY xv (za (vF 2) (za (vF 1) (za (vF 0) zy)))) (cF (.int 2))))) (vF 0))))
noncomputable def zW:List D->Option D:=uo 3 uG
theorem Yi:FnScope ["house","mirror","others"] ["house","mirror","others"] (zi xF):=⟨rfl,rfl,rfl,by decide +kernel,rfl,by decide +kernel,by decide +kernel⟩
theorem Yp (Fn:Fun K "neighbours" "neighbours" xF f fd) (T:Txt w K mg) (h_turn_of:HasFn P w K mg base 1 "turn_of" 3 xv) :
  FnOk P w K mg base CX0 2 f fd ["house","mirror","others"] (spF K 3 zW) :=
 yD (k:=1) (m:=3) (F:=uG) rfl rfl Fn Yi fun cdv A outer s H E hr=>(zj (zK (DN.de (x8 (own:=["other"]) (frees:=["mirror","house"]) (caps:=[1,0]) rfl (.of (by kernel_rfl)) rfl yQ (xy (dv 2)) (fun cl C s H fp=>⟨(zJ 0 (show List.Nodup (["other","mirror","house"]:List Str) from by decide +kernel)),(ZW (DW.dt (uy (kO hr (DE.dr (dv 0)) (DE.dr (dv 1))) (wV (kO hr (DE.dr (zN h_turn_of (hr.mono (by decide)) rfl (zd (dv 2) (zd (dv 1) (zd (dv 0) zw))) (zM (zM (zM yU))))) (DE.dr (XI rfl T.NOT_TOLD_c))))))),(dv 0)⟩)))))
noncomputable def Zf:FS:=(yT (zL (xX 1 [1] (zF (vF 0)) (zB 0) (blF (zb neF (vF 0) (vF 1))) (vF 0))))
noncomputable def yR:List D->Option D:=uo 2 Zf
theorem Uc:FnScope ["mirrors","mirror"] ["mirrors","mirror"] (zi vj):=⟨rfl,rfl,rfl,by decide +kernel,rfl,by decide +kernel,by decide +kernel⟩
theorem Uo (Fn:Fun K "without" "without" vj f fd) (T:Txt w K mg)  :
  FnOk P w K mg base CX0 1 f fd ["mirrors","mirror"] (spF K 2 yR) :=
 yD (k:=0) (m:=2) (F:=Zf) rfl rfl Fn Uc fun cdv A outer s H E hr=>(zj (zK (DN.de (x8 (own:=["other"]) (frees:=["mirror"]) (caps:=[1]) rfl (.of (by kernel_rfl)) rfl yQ (xy (dv 0)) (fun cl C s H fp=>⟨(zJ 0 (show List.Nodup (["other","mirror"]:List Str) from by decide +kernel)),(ZW (kO hr (DE.dr (dv 0)) (DE.dr (dv 1)))),(dv 0)⟩)))))
noncomputable def Zh:FS:=(z6 (VY 2 (Zq (za (vF 1) zy))) (z6 (yL 3 (zY yR (za (zL (Uh (za (zb ixD (vF 0) (cF (.int 0))) zy))) (za (vF 1) zy)))) (z6 (yL 4 (cF (.int 0))) (z6 (yo (blF (zb ltD (vF 4) (zY uZ (za (vR 2) zy)))) (z6 (yL 5 (zY zW (za (vF 0) (za (zb ixD (vR 2) (vF 4)) (za (vF 3) zy))))) (z6 (v5 2 (vF 5)) (z6 (yL 3 (zL (xX 1 [5] (zF (vF 3)) (zB 0) (blF (zb (inD true) (vF 0) (vF 1))) (vF 0)))) (Nc 4 (fun i j=>i+j) (cF (.int 1)))))) 100000) (yT (zL (Wi (za (vR 2) zy))))))))
noncomputable def wQ:List D->Option D:=uo 6 Zh
theorem x6:FnScope ["house","mirror","part","left","place","near"] ["house","mirror"] (zi vm):=⟨rfl,rfl,rfl,by decide +kernel,rfl,by decide +kernel,by decide +kernel⟩
theorem Uq (Fn:Fun K "part_of" "part_of" vm f fd) (T:Txt w K mg) (h_neighbours:HasFn P w K mg base 2 "neighbours" 3 zW) (h_without:HasFn P w K mg base 1 "without" 2 yR) :
  FnOk P w K mg base CX0 3 f fd ["house","mirror"] (spF K 2 wQ) :=
 yD (k:=2) (m:=6) (F:=Zh) rfl rfl Fn x6 fun cdv A outer s H E hr=>(zf (uz 2 x6.nd (va (zd (dv 1) zw))) (zf (z7 3 x6.nd (zN h_without (hr.mono (by decide)) rfl (zd (DN.de (XG rfl rfl T.list_b rfl T.range_b (zl (DE.dr (x9 (DE.dr (dv 0)) (DE.dr zk))) zC))) (zd (dv 1) zw)) (zM (zM yU)))) (zf (z7 4 x6.nd zk) (zf (jX 100000 PassesOwn.never (UP (DE.dr (dv 4)) (DE.dr (yn yH xW rfl T.len_b (by rfl) (zl (dvr 2) zC)))) (zf (z7 5 x6.nd (zN h_neighbours (hr.mono (by decide)) rfl (zd (dv 0) (zd (x9 (dvr 2) (DE.dr (dv 4))) (zd (dv 3) zw))) (zM (zM (zM yU))))) (zf (kQ 2 (dv 5)) (zf (jk 3 x6.nd (own:=["other"]) (frees:=["near"]) (caps:=[5]) rfl (.of (by kernel_rfl)) rfl yQ (xy (dv 3)) (fun cl C s H fp=>⟨(zJ 0 (show List.Nodup (["other","near"]:List Str) from by decide +kernel)),(ZW (YH hr (DE.dr (dv 0)) (DE.dr (dv 1)))),(dv 0)⟩)) (zj (C8 4 x6.nd ME zk)))))) (zj (zK (DN.de (qH rfl T.sorted_b (zl (dvr 2) zC)))))))))
noncomputable def WX:FS:=(z6 (yL 1 (zL (xX 1 [0] (UV (za (zb ixD (vF 0) (cF (.int 0))) zy)) (zB 0) ttF (zY wQ (za (vF 1) (za (vF 0) zy)))))) (yT (zL (xX 2 [] (Q6 (vF 1)) (j7 2 (yA (zB 0) (yA (zB 1) Zv))) (blF (zb eqF (zb ixD (vF 1) (cF (.int 0))) (vF 0))) (vF 1)))))
noncomputable def ji:List D->Option D:=uo 2 WX
theorem W8:FnScope ["house","reached"] ["house"] (zi qY):=⟨rfl,rfl,rfl,by decide +kernel,rfl,by decide +kernel,by decide +kernel⟩
theorem K9 (Fn:Fun K "parts" "parts" qY f fd) (T:Txt w K mg) (h_part_of:HasFn P w K mg base 3 "part_of" 2 wQ) :
  FnOk P w K mg base CX0 4 f fd ["house"] (spF K 1 ji) :=
 yD (k:=3) (m:=2) (F:=WX) rfl rfl Fn W8 fun cdv A outer s H E hr=>(zf (jk 1 W8.nd (own:=["mirror"]) (frees:=["house"]) (caps:=[0]) rfl (.of (by kernel_rfl)) rfl yQ (wW rfl T.range_b (zl (DE.dr (x9 (DE.dr (dv 0)) (DE.dr zk))) zC)) (fun cl C s H fp=>⟨(zJ 0 (show List.Nodup (["mirror","house"]:List Str) from by decide +kernel)),u6,(zN h_part_of (hr.mono (by decide)) rfl (zd (dv 1) (zd (dv 0) zw)) (zM (zM yU)))⟩)) (zj (zK (DN.de (x8 (own:=["mirror","part"]) (frees:=[]) (caps:=[]) rfl (.of (by kernel_rfl)) rfl (QZ (vY yQ (vY yQ WB))) (Dd rfl T.enumerate_b (dv 1)) (fun cl C s H fp=>⟨(qI rfl (ye (zJ 0 (show List.Nodup (["mirror","part"]:List Str) from by decide +kernel)) (ye (zJ 1 (show List.Nodup (["mirror","part"]:List Str) from by decide +kernel)) ua))),(ZW (vN hr (DE.dr (x9 (DE.dr (dv 1)) (DE.dr zk))) (DE.dr (dv 0)))),(dv 1)⟩))))))
noncomputable def uI:FS:=(z6 (VY 3 (Zq (za (vF 2) zy))) (z6 (yL 4 (zY yR (za (vF 1) (za (vF 2) zy)))) (z6 (yo (blF (zb gtD (zY uZ (za (vF 4) zy)) (cF (.int 0)))) (z6 (yL 5 (zY zW (za (vF 0) (za (zb ixD (vR 3) (jr FY (cF (.int 1)))) (za (vF 4) zy))))) (z6 (ifS (blF (zb neF (zY uZ (za (vF 5) zy)) (cF (.int 1)))) (yT (cF .non)) nxF) (z6 (xp 3 (zb ixD (vF 5) (cF (.int 0)))) (yL 4 (zY yR (za (vF 4) (za (zb ixD (vF 5) (cF (.int 0))) zy))))))) 100000) (Jj 3 (yT (vF 3))))))
noncomputable def yV:List D->Option D:=uo 6 uI
theorem xP:FnScope ["house","mirrors","first","order","left","near"] ["house","mirrors","first"] (zi xH):=⟨rfl,rfl,rfl,by decide +kernel,rfl,by decide +kernel,by decide +kernel⟩
theorem Yr (Fn:Fun K "chain_from" "chain_from" xH f fd) (T:Txt w K mg) (h_neighbours:HasFn P w K mg base 2 "neighbours" 3 zW) (h_without:HasFn P w K mg base 1 "without" 2 yR) :
  FnOk P w K mg base CX0 3 f fd ["house","mirrors","first"] (spF K 3 yV) :=
 yD (k:=2) (m:=6) (F:=uI) rfl rfl Fn xP fun cdv A outer s H E hr=>(zf (uz 3 xP.nd (va (zd (dv 2) zw))) (zf (z7 4 xP.nd (zN h_without (hr.mono (by decide)) rfl (zd (dv 1) (zd (dv 2) zw)) (zM (zM yU)))) (zf (jX 100000 PassesOwn.never (MQ (DE.dr (yn yH xW rfl T.len_b (by rfl) (zl (DE.dr (dv 4)) zC))) (DE.dr zk)) (zf (z7 5 xP.nd (zN h_neighbours (hr.mono (by decide)) rfl (zd (dv 0) (zd (x9 (dvr 3) (DE.dr (Pv (DE.dr zk)))) (zd (dv 4) zw))) (zM (zM (zM yU))))) (zf (xD (kO hr (DE.dr (yn yH xW rfl T.len_b (by rfl) (zl (DE.dr (dv 5)) zC))) (DE.dr zk)) (zj (zK GY)) z9) (zf (vO 3 (x9 (DE.dr (dv 5)) (DE.dr zk))) (zj (z7 4 xP.nd (zN h_without (hr.mono (by decide)) rfl (zd (dv 4) (zd (x9 (DE.dr (dv 5)) (DE.dr zk)) zw)) (zM (zM yU))))))))) (kP 3 (zj (zK (dv 3)))))))
noncomputable def YV:FS:=(z6 (yL 2 (zL (xX 1 [0,1] (zF (vF 1)) (zB 0) ttF (zY yV (za (vF 1) (za (vF 2) (za (vF 0) zy))))))) (yT (zL (xX 1 [] (zF (vF 2)) (zB 0) (blF (zb (isD true) (vF 0) (cF .non))) (vF 0)))))
noncomputable def wF:List D->Option D:=uo 3 YV
theorem Y6:FnScope ["house","mirrors","orders"] ["house","mirrors"] (zi uO):=⟨rfl,rfl,rfl,by decide +kernel,rfl,by decide +kernel,by decide +kernel⟩
theorem QF (Fn:Fun K "chains" "chains" uO f fd) (T:Txt w K mg) (h_chain_from:HasFn P w K mg base 3 "chain_from" 3 yV) :
  FnOk P w K mg base CX0 4 f fd ["house","mirrors"] (spF K 2 wF) :=
 yD (k:=3) (m:=3) (F:=YV) rfl rfl Fn Y6 fun cdv A outer s H E hr=>(zf (jk 2 Y6.nd (own:=["first"]) (frees:=["house","mirrors"]) (caps:=[0,1]) rfl (.of (by kernel_rfl)) rfl yQ (xy (dv 1)) (fun cl C s H fp=>⟨(zJ 0 (show List.Nodup (["first","house","mirrors"]:List Str) from by decide +kernel)),u6,(zN h_chain_from (hr.mono (by decide)) rfl (zd (dv 1) (zd (dv 2) (zd (dv 0) zw))) (zM (zM (zM yU))))⟩)) (zj (zK (DN.de (x8 (own:=["order"]) (frees:=[]) (caps:=[]) rfl (.of (by kernel_rfl)) rfl yQ (xy (dv 2)) (fun cl C s H fp=>⟨(zJ 0 (show List.Nodup (["order"]:List Str) from by decide +kernel)),(ZW (VI (DE.dr (dv 0)) (DE.dr GY))),(dv 0)⟩))))))
noncomputable def ud:FS:=(yT (zL (xX 2 [0] (Q5 (vF 1) (ZG (vF 1) (exP (cF (.int 1))) noP)) (j7 2 (yA (zB 0) (yA (zB 1) Zv))) ttF (zY xv (za (vF 2) (za (vF 0) (za (vF 1) zy)))))))
noncomputable def yY:List D->Option D:=uo 2 ud
theorem Zs:FnScope ["house","order"] ["house","order"] (zi xl):=⟨rfl,rfl,rfl,by decide +kernel,rfl,by decide +kernel,by decide +kernel⟩
theorem Zu (Fn:Fun K "turns_along" "turns_along" xl f fd) (T:Txt w K mg) (h_turn_of:HasFn P w K mg base 1 "turn_of" 3 xv) :
  FnOk P w K mg base CX0 2 f fd ["house","order"] (spF K 2 yY) :=
 yD (k:=1) (m:=2) (F:=ud) rfl rfl Fn Zs fun cdv A outer s H E hr=>(zj (zK (DN.de (x8 (own:=["i","j"]) (frees:=["house"]) (caps:=[0]) rfl (.of (by kernel_rfl)) rfl (QZ (vY yQ (vY yQ WB))) (MT rfl T.zip_b (dv 1) (YJ (DE.dr (dv 1)) (Jz (DE.dr zk)) C9)) (fun cl C s H fp=>⟨(qI rfl (ye (zJ 0 (show List.Nodup (["i","j","house"]:List Str) from by decide +kernel)) (ye (zJ 1 (show List.Nodup (["i","j","house"]:List Str) from by decide +kernel)) ua))),u6,(zN h_turn_of (hr.mono (by decide)) rfl (zd (dv 2) (zd (dv 0) (zd (dv 1) zw))) (zM (zM (zM yU))))⟩)))))
noncomputable def w5:FS:=(z6 (yL 1 (zb wB (zY uZ (za (vF 0) zy)) (cF (.int 1)))) (z6 (ifS (blF (zb eqF (vF 0) (zL (Cv (zL (Zq (za (cF (.int 3)) zy))) (zb jN (vF 1) (cF (.int 1))))))) (yT (jH (UW "a" (Ki (vF 1) Kg)))) nxF) (z6 (ifS (blF (zb eqF (vF 0) (zb wB (zL (Cv (zL (Zq (za (cF (.int 3)) zy))) (zb jN (vF 1) (cF (.int 2))))) (zL (Zq (za (cF (.int 4)) zy)))))) (yT (jH (UW "b" (Ki (vF 1) Kg)))) nxF) (yT (zb (Dx [([3,4,3],(.str "f4")),([3,5],(.str "h3")),([3,3,5],(.str "h4")),([5],(.str "i5")),([6],(.str "i6"))]) (zY uq (za (vF 0) zy)) (cF (.str "-")))))))
noncomputable def yi:List D->Option D:=uo 2 w5
theorem uh:FnScope ["turns","mirrors"] ["turns"] (zi yO):=⟨rfl,rfl,rfl,by decide +kernel,rfl,by decide +kernel,by decide +kernel⟩
theorem jF (Fn:Fun K "kind_of_chain" "kind_of_chain" yO f fd) (T:Txt w K mg)  :
  FnOk P w K mg base CX0 1 f fd ["turns"] (spF K 1 yi) :=
 yD (k:=0) (m:=2) (F:=w5) rfl rfl Fn uh fun cdv A outer s H E hr=>(zf (z7 1 uh.nd (yG (DE.dr (yn yH xW rfl T.len_b (by rfl) (zl (DE.dr (dv 0)) zC))) (DE.dr zk))) (zf (xD (vN hr (DE.dr (dv 0)) (DE.dr (DN.de (JA (DE.dr (DN.de (va (zd (XI rfl T.COMMON_TURN_c) zw)))) (DE.dr (jJ (DE.dr (dv 1)) (DE.dr zk))))))) (zj (zK (JK (JF (JE (DE.dr (dv 1)) JD))))) z9) (zf (xD (vN hr (DE.dr (dv 0)) (DE.dr (yG (DE.dr (DN.de (JA (DE.dr (DN.de (va (zd (XI rfl T.COMMON_TURN_c) zw)))) (DE.dr (jJ (DE.dr (dv 1)) (DE.dr zk)))))) (DE.dr (DN.de (va (zd zk zw))))))) (zj (zK (JK (JF (JE (DE.dr (dv 1)) JD))))) z9) (zj (zK (MY hr rfl T.RARE_CHAINS_c (qJ uc kK rfl T.tuple_b (by rfl) (zl (DE.dr (dv 0)) zC)) (XH rfl T.NO_KIND_c)))))))
noncomputable def xc:FS:=(z6 (yL 2 (zb wB (zY uZ (za (vF 0) zy)) (cF (.int 1)))) (z6 (ifS (qO (blF (zb geD (vF 2) (cF (.int 4)))) (blF (zb eqF (zb ixD (vF 0) (cF (.int 1))) (vF 1)))) (yT (jH (UW "d" (Ki (vF 2) Kg)))) nxF) (z6 (ifS (qO (blF (zb eqF (vF 2) (cF (.int 6)))) (blF (zb eqF (zb ixD (vF 0) (cF (.int 2))) (vF 1)))) (yT (cF (.str "e6"))) nxF) (yT (cF (.str "-"))))))
noncomputable def zD:List D->Option D:=uo 3 xc
theorem xO:FnScope ["order","mirror","mirrors"] ["order","mirror"] (zi z5):=⟨rfl,rfl,rfl,by decide +kernel,rfl,by decide +kernel,by decide +kernel⟩
theorem vV (Fn:Fun K "kind_with_one_beside" "kind_with_one_beside" z5 f fd) (T:Txt w K mg)  :
  FnOk P w K mg base CX0 1 f fd ["order","mirror"] (spF K 2 zD) :=
 yD (k:=0) (m:=3) (F:=xc) rfl rfl Fn xO fun cdv A outer s H E hr=>(zf (z7 2 xO.nd (yG (DE.dr (yn yH xW rfl T.len_b (by rfl) (zl (DE.dr (dv 0)) zC))) (DE.dr zk))) (zf (xD (DW.dt (uy (MR (DE.dr (dv 2)) (DE.dr zk)) (wV (vN hr (DE.dr (x9 (DE.dr (dv 0)) (DE.dr zk))) (DE.dr (dv 1)))))) (zj (zK (JK (JF (JE (DE.dr (dv 2)) JD))))) z9) (zf (xD (DW.dt (uy (vN hr (DE.dr (dv 2)) (DE.dr zk)) (wV (vN hr (DE.dr (x9 (DE.dr (dv 0)) (DE.dr zk))) (DE.dr (dv 1)))))) (zj (zK JI)) z9) (zj (zK (XH rfl T.NO_KIND_c))))))
noncomputable def wc:FS:=(yT (zL (xX 1 [0] (zF (zY wF (za (vF 0) (za (vF 1) zy)))) (zB 0) ttF (zY yi (za (zY yY (za (vF 1) (za (vF 0) zy))) zy)))))
noncomputable def yv:List D->Option D:=uo 2 wc
theorem qq:FnScope ["house","part"] ["house","part"] (zi yq):=⟨rfl,rfl,rfl,by decide +kernel,rfl,by decide +kernel,by decide +kernel⟩
theorem qv (Fn:Fun K "kinds_by_chains" "kinds_by_chains" yq f fd) (T:Txt w K mg) (h_chains:HasFn P w K mg base 4 "chains" 2 wF) (h_kind_of_chain:HasFn P w K mg base 1 "kind_of_chain" 1 yi) (h_turns_along:HasFn P w K mg base 2 "turns_along" 2 yY) :
  FnOk P w K mg base CX0 5 f fd ["house","part"] (spF K 2 yv) :=
 yD (k:=4) (m:=2) (F:=wc) rfl rfl Fn qq fun cdv A outer s H E hr=>(zj (zK (DN.de (x8 (own:=["order"]) (frees:=["house"]) (caps:=[0]) rfl (.of (by kernel_rfl)) rfl yQ (xy (zN h_chains (hr.mono (by decide)) rfl (zd (dv 0) (zd (dv 1) zw)) (zM (zM yU)))) (fun cl C s H fp=>⟨(zJ 0 (show List.Nodup (["order","house"]:List Str) from by decide +kernel)),u6,(zN h_kind_of_chain (hr.mono (by decide)) rfl (zd (zN h_turns_along (hr.mono (by decide)) rfl (zd (dv 1) (zd (dv 0) zw)) (zM (zM yU))) zw) (zM yU))⟩)))))
noncomputable def vf:FS:=(yT (zY Nv (za (zL (xX 3 [1] (zF (zb ixD (vF 0) (cF (.int 1)))) (j7 3 (yA (zB 0) (yA (zB 1) (yA (zB 2) Zv)))) (blF (zb (inD false) (vF 0) (vF 3))) (zb eqF (vF 2) (cF (.int 3))))) zy)))
noncomputable def yp:List D->Option D:=uo 2 vf
theorem ka:FnScope ["house","part"] ["house","part"] (zi xa):=⟨rfl,rfl,rfl,by decide +kernel,rfl,by decide +kernel,by decide +kernel⟩
theorem km (Fn:Fun K "all_by_three" "all_by_three" xa f fd) (T:Txt w K mg)  :
  FnOk P w K mg base CX0 1 f fd ["house","part"] (spF K 2 yp) :=
 yD (k:=0) (m:=2) (F:=vf) rfl rfl Fn ka fun cdv A outer s H E hr=>(zj (zK (yn (G9 rfl) C0 rfl T.all_b (by rfl) (zl (DE.dr (DN.de (x8 (own:=["i","j","m"]) (frees:=["part"]) (caps:=[1]) rfl (.of (by kernel_rfl)) rfl (QZ (vY yQ (vY yQ (vY yQ WB)))) (xy (x9 (DE.dr (dv 0)) (DE.dr zk))) (fun cl C s H fp=>⟨(qI rfl (ye (zJ 0 (show List.Nodup (["i","j","m","part"]:List Str) from by decide +kernel)) (ye (zJ 1 (show List.Nodup (["i","j","m","part"]:List Str) from by decide +kernel)) (ye (zJ 2 (show List.Nodup (["i","j","m","part"]:List Str) from by decide +kernel)) ua)))),(ZW (Pm hr (DE.dr (dv 0)) (DE.dr (dv 3)))),(MZ hr (DE.dr (dv 2)) (DE.dr (XI rfl T.COMMON_TURN_c)))⟩)))) zC))))
noncomputable def wZ:FS:=(z6 (VY 2 (Zq zy)) (z6 (ifS (FX (blF (zY yp (za (vF 0) (za (vF 1) zy))))) (Jj 2 (yT (vF 2))) nxF) (z6 (jI (zF (vF 1)) (zB 3) (z6 (yL 4 (zY zW (za (vF 0) (za (vF 3) (za (vF 1) zy))))) (ifS (blF (zb eqF (zY uZ (za (vF 4) zy)) (cF (.int 1)))) (z6 (yL 5 (zY wF (za (vF 0) (za (zY yR (za (vF 1) (za (vF 3) zy))) zy)))) (v5 2 (zL (xX 1 [4] (zF (vF 5)) (zB 0) ttF (zY zD (za (vF 0) (za (zb ixD (vF 1) (cF (.int 0))) zy))))))) nxF))) (Jj 2 (yT (vF 2))))))
noncomputable def yy:List D->Option D:=uo 6 wZ
theorem y7:FnScope ["house","part","told","end","near","orders"] ["house","part"] (zi yN):=⟨rfl,rfl,rfl,by decide +kernel,rfl,by decide +kernel,by decide +kernel⟩
theorem jE (Fn:Fun K "kinds_by_ends" "kinds_by_ends" yN f fd) (T:Txt w K mg) (h_all_by_three:HasFn P w K mg base 1 "all_by_three" 2 yp) (h_chains:HasFn P w K mg base 4 "chains" 2 wF) (h_kind_with_one_beside:HasFn P w K mg base 1 "kind_with_one_beside" 2 zD) (h_neighbours:HasFn P w K mg base 2 "neighbours" 3 zW) (h_without:HasFn P w K mg base 1 "without" 2 yR) :
  FnOk P w K mg base CX0 5 f fd ["house","part"] (spF K 2 yy) :=
 yD (k:=4) (m:=6) (F:=wZ) rfl rfl Fn y7 fun cdv A outer s H E hr=>(zf (uz 2 y7.nd (va zw)) (zf (xD (MP (VH (DE.dr (zN h_all_by_three (hr.mono (by decide)) rfl (zd (dv 0) (zd (dv 1) zw)) (zM (zM yU)))))) (kP 2 (zj (zK (dv 2)))) z9) (zf (w9 PassesOwn.never rfl (xy (dv 1)) (zJ 3 y7.nd) (zf (z7 4 y7.nd (zN h_neighbours (hr.mono (by decide)) rfl (zd (dv 0) (zd (dv 3) (zd (dv 1) zw))) (zM (zM (zM yU))))) (zj (xD (vN hr (DE.dr (yn yH xW rfl T.len_b (by rfl) (zl (DE.dr (dv 4)) zC))) (DE.dr zk)) (zf (z7 5 y7.nd (zN h_chains (hr.mono (by decide)) rfl (zd (dv 0) (zd (zN h_without (hr.mono (by decide)) rfl (zd (dv 1) (zd (dv 3) zw)) (zM (zM yU))) zw)) (zM (zM yU)))) (zj (kQ 2 (DN.de (x8 (own:=["order"]) (frees:=["near"]) (caps:=[4]) rfl (.of (by kernel_rfl)) rfl yQ (xy (dv 5)) (fun cl C s H fp=>⟨(zJ 0 (show List.Nodup (["order","near"]:List Str) from by decide +kernel)),u6,(zN h_kind_with_one_beside (hr.mono (by decide)) rfl (zd (dv 0) (zd (x9 (DE.dr (dv 1)) (DE.dr zk)) zw)) (zM (zM yU)))⟩)))))) z9)))) (kP 2 (zj (zK (dv 2)))))))
noncomputable def Zm:FS:=(z6 (jI (zF (zb wB (zY yv (za (vF 0) (za (vF 1) zy))) (zY yy (za (vF 0) (za (vF 1) zy))))) (zB 2) (ifS (blF (zb neF (vF 2) (cF (.str "-")))) (yT (vF 2)) nxF)) (yT (cF (.str "-"))))
noncomputable def xx:List D->Option D:=uo 3 Zm
theorem ZH:FnScope ["house","part","kind"] ["house","part"] (zi vx):=⟨rfl,rfl,rfl,by decide +kernel,rfl,by decide +kernel,by decide +kernel⟩
theorem Uv (Fn:Fun K "kind_of" "kind_of" vx f fd) (T:Txt w K mg) (h_kinds_by_chains:HasFn P w K mg base 5 "kinds_by_chains" 2 yv) (h_kinds_by_ends:HasFn P w K mg base 5 "kinds_by_ends" 2 yy) :
  FnOk P w K mg base CX0 6 f fd ["house","part"] (spF K 2 xx) :=
 yD (k:=5) (m:=3) (F:=Zm) rfl rfl Fn ZH fun cdv A outer s H E hr=>(zf (w9 PassesOwn.never rfl (xy (yG (DE.dr (zN h_kinds_by_chains (hr.mono (by decide)) rfl (zd (dv 0) (zd (dv 1) zw)) (zM (zM yU)))) (DE.dr (zN h_kinds_by_ends (hr.mono (by decide)) rfl (zd (dv 0) (zd (dv 1) zw)) (zM (zM yU)))))) (zJ 2 ZH.nd) (zj (xD (kO hr (DE.dr (dv 2)) (DE.dr (XH rfl T.NO_KIND_c))) (zj (zK (dv 2))) z9))) (zj (zK (XH rfl T.NO_KIND_c))))
noncomputable def WY:FS:=(yT (zL (xX 1 [0] (zF (zY ji (za (vF 0) zy))) (zB 0) ttF (tupF (za (vF 0) (za (zY xx (za (vF 1) (za (vF 0) zy))) zy))))))
noncomputable def wy:List D->Option D:=uo 1 WY
theorem Ky:FnScope ["house"] ["house"] (zi q9):=⟨rfl,rfl,rfl,by decide +kernel,rfl,by decide +kernel,by decide +kernel⟩
theorem Gb (Fn:Fun K "kinds" "kinds" q9 f fd) (T:Txt w K mg) (h_kind_of:HasFn P w K mg base 6 "kind_of" 2 xx) (h_parts:HasFn P w K mg base 4 "parts" 1 ji) :
  FnOk P w K mg base CX0 7 f fd ["house"] (spF K 1 wy) :=
 yD (k:=6) (m:=1) (F:=WY) rfl rfl Fn Ky fun cdv A outer s H E hr=>(zj (zK (DN.de (x8 (own:=["part"]) (frees:=["house"]) (caps:=[0]) rfl (.of (by kernel_rfl)) rfl yQ (xy (zN h_parts (hr.mono (by decide)) rfl (zd (dv 0) zw) (zM yU))) (fun cl C s H fp=>⟨(zJ 0 (show List.Nodup (["part","house"]:List Str) from by decide +kernel)),u6,(qe (zd (dv 0) (zd (zN h_kind_of (hr.mono (by decide)) rfl (zd (dv 1) (zd (dv 0) zw)) (zM (zM yU))) zw)))⟩)))))
noncomputable def Zn:FS:=(z6 (jI (zF (zY wy (za (vF 0) zy))) (j7 2 (yA (zB 1) (yA (zB 2) Zv))) (ifS (blF (zb eqF (vF 2) (cF (.str "-")))) (yT (zY uq (za (vF 1) zy))) nxF)) (yT (cF .non)))
noncomputable def vL:List D->Option D:=uo 3 Zn
theorem qX:FnScope ["house","part","kind"] ["house"] (zi vz):=⟨rfl,rfl,rfl,by decide +kernel,rfl,by decide +kernel,by decide +kernel⟩
theorem Uw (Fn:Fun K "endless" "endless" vz f fd) (T:Txt w K mg) (h_kinds:HasFn P w K mg base 7 "kinds" 1 wy) :
  FnOk P w K mg base CX0 8 f fd ["house"] (spF K 1 vL) :=
 yD (k:=7) (m:=3) (F:=Zn) rfl rfl Fn qX fun cdv A outer s H E hr=>(zf (w9 PassesOwn.never rfl (xy (zN h_kinds (hr.mono (by decide)) rfl (zd (dv 0) zw) (zM yU))) (qI rfl (ye (zJ 1 qX.nd) (ye (zJ 2 qX.nd) ua))) (zj (xD (vN hr (DE.dr (dv 2)) (DE.dr (XH rfl T.NO_KIND_c))) (zj (zK (qJ uc kK rfl T.tuple_b (by rfl) (zl (DE.dr (dv 1)) zC)))) z9))) (zj (zK GY)))
noncomputable def yw:FS:=(z6 (ifS (Nr [("e6",(.tup [(.int 2),(.int 5),(.int 6),(.int 8),(.int 9),(.int 12)])),("f4",(.tup [(.int 2),(.int 6),(.int 8),(.int 12)])),("h3",(.tup [(.int 2),(.int 6),(.int 10)])),("h4",(.tup [(.int 2),(.int 12),(.int 20),(.int 30)])),("i5",(.tup [(.int 2),(.int 5)])),("i6",(.tup [(.int 2),(.int 6)]))] (vF 0)) (yT (zL (Gr (za (jr (Gp [("e6",(.tup [(.int 2),(.int 5),(.int 6),(.int 8),(.int 9),(.int 12)])),("f4",(.tup [(.int 2),(.int 6),(.int 8),(.int 12)])),("h3",(.tup [(.int 2),(.int 6),(.int 10)])),("h4",(.tup [(.int 2),(.int 12),(.int 20),(.int 30)])),("i5",(.tup [(.int 2),(.int 5)])),("i6",(.tup [(.int 2),(.int 6)]))]) (vF 0)) zy)))) nxF) (z6 (ifS (blF (zb (tbD Txt.startswith) (vF 0) (cF (.str "a")))) (yT (zL (BA (za (cF (.int 2)) (za (zb wB (vF 1) (cF (.int 2))) zy))))) nxF) (z6 (ifS (blF (zb (tbD Txt.startswith) (vF 0) (cF (.str "b")))) (yT (zL (KF (za (cF (.int 2)) (za (zb wB (zb uY (cF (.int 2)) (vF 1)) (cF (.int 1))) (za (cF (.int 2)) zy)))))) nxF) (yT (zb wB (zL (KF (za (cF (.int 2)) (za (zb uY (cF (.int 2)) (vF 1)) (za (cF (.int 2)) zy))))) (zL (Zq (za (vF 1) zy))))))))
noncomputable def zt:List D->Option D:=uo 2 yw
theorem qr:FnScope ["kind","mirrors"] ["kind","mirrors"] (zi yt):=⟨rfl,rfl,rfl,by decide +kernel,rfl,by decide +kernel,by decide +kernel⟩
theorem qw (Fn:Fun K "degrees_of_kind" "degrees_of_kind" yt f fd) (T:Txt w K mg)  :
  FnOk P w K mg base CX0 1 f fd ["kind","mirrors"] (spF K 2 zt) :=
 yD (k:=0) (m:=2) (F:=yw) rfl rfl Fn qr fun cdv A outer s H E hr=>(zf (xD (C3 rfl T.RARE_DEGREES_c (dv 0)) (zj (zK (DN.de (JC rfl T.list_b (zl (DE.dr (GZ rfl T.RARE_DEGREES_c (DE.dr (dv 0)))) zC))))) z9) (zf (xD (VH (DE.dr (VN (dv 0) JI))) (zj (zK (DN.de (JB rfl rfl T.list_b rfl T.range_b (zl (DE.dr zk) (zl (DE.dr (yG (DE.dr (dv 1)) (DE.dr zk))) zC)))))) z9) (zf (xD (VH (DE.dr (VN (dv 0) JI))) (zj (zK (DN.de (XF rfl rfl T.list_b rfl T.range_b (zl (DE.dr zk) (zl (DE.dr (yG (DE.dr (uA (DE.dr zk) (DE.dr (dv 1)))) (DE.dr zk))) (zl (DE.dr zk) zC))))))) z9) (zj (zK (yG (DE.dr (DN.de (XF rfl rfl T.list_b rfl T.range_b (zl (DE.dr zk) (zl (DE.dr (uA (DE.dr zk) (DE.dr (dv 1)))) (zl (DE.dr zk) zC)))))) (DE.dr (DN.de (va (zd (dv 1) zw))))))))))
noncomputable def Zo:FS:=(z6 (yL 1 (zY vL (za (vF 0) zy))) (z6 (ifS (blF (zb (isD true) (vF 1) (cF .non))) HD nxF) (z6 (VY 2 (Zq zy)) (z6 (jI (zF (zY wy (za (vF 0) zy))) (j7 2 (yA (zB 3) (yA (zB 4) Zv))) (v5 2 (zY zt (za (vF 4) (za (zY uZ (za (vF 3) zy)) zy))))) (yT (zL (Wi (za (vR 2) zy))))))))
noncomputable def vM:List D->Option D:=uo 5 Zo
theorem vi:FnScope ["house","word","told","part","kind"] ["house"] (zi vA):=⟨rfl,rfl,rfl,by decide +kernel,rfl,by decide +kernel,by decide +kernel⟩
theorem Ux (Fn:Fun K "degrees" "degrees" vA f fd) (T:Txt w K mg) (h_degrees_of_kind:HasFn P w K mg base 1 "degrees_of_kind" 2 zt) (h_endless:HasFn P w K mg base 8 "endless" 1 vL) (h_kinds:HasFn P w K mg base 7 "kinds" 1 wy) :
  FnOk P w K mg base CX0 9 f fd ["house"] (spF K 1 vM) :=
 yD (k:=8) (m:=5) (F:=Zo) rfl rfl Fn vi fun cdv A outer s H E hr=>(zf (z7 1 vi.nd (zN h_endless (hr.mono (by decide)) rfl (zd (dv 0) zw) (zM yU))) (zf (xD (VI (DE.dr (dv 1)) (DE.dr GY)) (zj GU) z9) (zf (uz 2 vi.nd (va zw)) (zf (w9 PassesOwn.never rfl (xy (zN h_kinds (hr.mono (by decide)) rfl (zd (dv 0) zw) (zM yU))) (qI rfl (ye (zJ 3 vi.nd) (ye (zJ 4 vi.nd) ua))) (zj (kQ 2 (zN h_degrees_of_kind (hr.mono (by decide)) rfl (zd (dv 4) (zd (yn yH xW rfl T.len_b (by rfl) (zl (DE.dr (dv 3)) zC)) zw)) (zM (zM yU)))))) (zj (zK (DN.de (qH rfl T.sorted_b (zl (dvr 2) zC)))))))))
noncomputable def V4:FS:=(z6 (ifS (blF (zb ltD (vF 1) (zY uZ (za (vF 0) zy)))) (yT (zb ixD (vF 0) (vF 1))) nxF) (yT (zb wB (zb uY (cF (.int 17)) (vF 1)) (cF (.int 9)))))
noncomputable def jz:List D->Option D:=uo 2 V4
theorem Bn:FnScope ["_law_script","_law_k"] ["_law_script","_law_k"] (zi ZI):=⟨rfl,rfl,rfl,by decide +kernel,rfl,by decide +kernel,by decide +kernel⟩
theorem Ci (Fn:Fun K "_law_at" "_law_at" ZI f fd) (T:Txt w K mg)  :
  FnOk P w K mg base CX0 1 f fd ["_law_script","_law_k"] (spF K 2 jz) :=
 yD (k:=0) (m:=2) (F:=V4) rfl rfl Fn Bn fun cdv A outer s H E hr=>(zf (xD (UP (DE.dr (dv 1)) (DE.dr (yn yH xW rfl T.len_b (by rfl) (zl (DE.dr (dv 0)) zC)))) (zj (zK (x9 (DE.dr (dv 0)) (DE.dr (dv 1))))) z9) (zj (zK (yG (DE.dr (uA (DE.dr zk) (DE.dr (dv 1)))) (DE.dr zk)))))
noncomputable def YT:FS:=(z6 (ifS (blF (zb geD (vF 0) (zb Dv (cF (.int 10)) (cF (.int 12))))) (z6 (yL 0 (zb jN (zb Zx (vF 0) (zb Dv (cF (.int 10)) (cF (.int 12)))) (cF (.int 1)))) (z6 (jI (UV (za (zb X7 (vF 1) (cF (.int 61))) zy)) (zB 2) (yL 0 (zb Zx (vF 0) (cF (.int 2147483648))))) (yT (zb X7 (vF 0) (cF (.int 2147483648)))))) nxF) (z6 (yL 3 (zb X7 (zb uY (zb wB (zb wB (zb X7 (vF 0) (cF (.int 2147483629))) (vF 1)) (cF (.int 1))) (zb wB (zb uY (zb uY (cF (.int 8)) (vF 1)) (vF 1)) (cF (.int 48271)))) (cF (.int 2147483647)))) (z6 (yL 3 (zb X7 (zb uY (vF 3) (vF 3)) (cF (.int 2147483587)))) (yT (zb X7 (zb uY (vF 3) (zb wB (vF 3) (cF (.int 2)))) (cF (.int 2147483579)))))))
noncomputable def wU:List D->Option D:=uo 4 YT
theorem uJ:FnScope ["_law_number","_law_place","_law_turn_here","_law_part"] ["_law_number","_law_place"] (zi qZ):=⟨rfl,rfl,rfl,by decide +kernel,rfl,by decide +kernel,by decide +kernel⟩
theorem Ga (Fn:Fun K "_law_mix" "_law_mix" qZ f fd) (T:Txt w K mg)  :
  FnOk P w K mg base CX0 1 f fd ["_law_number","_law_place"] (spF K 2 wU) :=
 yD (k:=0) (m:=4) (F:=YT) rfl rfl Fn uJ fun cdv A outer s H E hr=>(zf (xD (MR (DE.dr (dv 0)) (DE.dr (MX (DE.dr zk) (DE.dr zk)))) (zf (z7 0 uJ.nd (jJ (DE.dr (VO (DE.dr (dv 0)) (DE.dr (MX (DE.dr zk) (DE.dr zk))))) (DE.dr zk))) (zf (w9 PassesOwn.never rfl (wW rfl T.range_b (zl (DE.dr (Zy (DE.dr (dv 1)) (DE.dr zk))) zC)) (zJ 2 uJ.nd) (zj (z7 0 uJ.nd (VO (DE.dr (dv 0)) (DE.dr zk))))) (zj (zK (Zy (DE.dr (dv 0)) (DE.dr zk)))))) z9) (zf (z7 3 uJ.nd (Zy (DE.dr (uA (DE.dr (yG (DE.dr (yG (DE.dr (Zy (DE.dr (dv 0)) (DE.dr zk))) (DE.dr (dv 1)))) (DE.dr zk))) (DE.dr (yG (DE.dr (uA (DE.dr (uA (DE.dr zk) (DE.dr (dv 1)))) (DE.dr (dv 1)))) (DE.dr zk))))) (DE.dr zk))) (zf (z7 3 uJ.nd (Zy (DE.dr (uA (DE.dr (dv 3)) (DE.dr (dv 3)))) (DE.dr zk))) (zj (zK (Zy (DE.dr (uA (DE.dr (dv 3)) (DE.dr (yG (DE.dr (dv 3)) (DE.dr zk))))) (DE.dr zk)))))))
noncomputable def Zl:FS:=(z6 (yL 2 (zY wU (za (zY jz (za (vF 0) (za (vF 1) zy))) (za (cF (.int 1)) zy)))) (z6 (yL 3 (zb wB (cF (.int 1)) (zb X7 (vF 2) (cF (.int 6))))) (z6 (Dc 4) (z6 (jI (zF (ZG (vF 0) (exP (zb wB (vF 1) (cF (.int 1)))) (exP (zb wB (vF 1) (cF (.int 64)))))) (zB 5) (z6 (yL 6 (zY wU (za (vF 5) (za (cF (.int 2)) zy)))) (z6 (yL 7 (zb X7 (vF 6) (vF 3))) (z6 (yL 8 (zb X7 (zb Zx (vF 6) (cF (.int 8))) (vF 3))) (ifS (blF (zb neF (vF 7) (vF 8))) (Jy 4 (za (zY Gj (za (vF 7) (za (vF 8) zy))) (za (zY Gn (za (vF 7) (za (vF 8) zy))) zy)) (zb ixD (zL (Zq (za (cF (.int 3)) (za (cF (.int 4)) (za (cF (.int 5)) (za (cF (.int 6)) (za (cF (.int 0)) (za (cF (.int 3)) (za (cF (.int 2)) (za (cF (.int 2)) zy)))))))))) (zb X7 (zb Zx (vF 6) (cF (.int 64))) (cF (.int 8))))) nxF))))) (z6 (VY 9 (Zq zy)) (z6 (GM 4 (j7 2 (yA (zB 10) (yA (zB 11) Zv))) (ifS (blF (zb neF (vF 11) (cF (.int 2)))) (xp 9 (tupF (za (zb ixD (vF 10) (cF (.int 0))) (za (zb ixD (vF 10) (cF (.int 1))) (za (vF 11) zy))))) nxF)) (Jj 9 (yT (tupF (za (vF 3) (za (vF 9) zy)))))))))))
noncomputable def vK:List D->Option D:=uo 12 Zl
theorem yM:FnScope ["_law_script","_law_start","_law_number","_law_mirrors","_law_told","_law_cell","_law_drawn","_law_i","_law_j","_law_turns","_law_pair","_law_many"] ["_law_script","_law_start"] (zi vw):=⟨rfl,rfl,rfl,by decide +kernel,rfl,by decide +kernel,by decide +kernel⟩
theorem Uu (Fn:Fun K "_law_house" "_law_house" vw f fd) (T:Txt w K mg) (h_l_at:HasFn P w K mg base 1 "_law_at" 2 jz) (h_l_mix:HasFn P w K mg base 1 "_law_mix" 2 wU) :
  FnOk P w K mg base CX0 2 f fd ["_law_script","_law_start"] (spF K 2 vK) :=
 yD (k:=1) (m:=12) (F:=Zl) rfl rfl Fn yM fun cdv A outer s H E hr=>(zf (z7 2 yM.nd (zN h_l_mix (hr.mono (by decide)) rfl (zd (zN h_l_at (hr.mono (by decide)) rfl (zd (dv 0) (zd (dv 1) zw)) (zM (zM yU))) (zd zk zw)) (zM (zM yU)))) (zf (z7 3 yM.nd (yG (DE.dr zk) (DE.dr (Zy (DE.dr (dv 2)) (DE.dr zk))))) (zf (C7 4 yM.nd) (zf (w9 PassesOwn.never rfl (xy (YJ (DE.dr (dv 0)) (Jz (DE.dr (yG (DE.dr (dv 1)) (DE.dr zk)))) (Jz (DE.dr (yG (DE.dr (dv 1)) (DE.dr zk)))))) (zJ 5 yM.nd) (zf (z7 6 yM.nd (zN h_l_mix (hr.mono (by decide)) rfl (zd (dv 5) (zd zk zw)) (zM (zM yU)))) (zf (z7 7 yM.nd (Zy (DE.dr (dv 6)) (DE.dr (dv 3)))) (zf (z7 8 yM.nd (Zy (DE.dr (VO (DE.dr (dv 6)) (DE.dr zk))) (DE.dr (dv 3)))) (zj (xD (kO hr (DE.dr (dv 7)) (DE.dr (dv 8))) (zj (by refine C6 4 hr ?hv ?ha; (case ha=>exact (zd (yn (kX rfl) WI rfl T.min_b (by rfl) (zl (DE.dr (dv 7)) (zl (DE.dr (dv 8)) zC))) (zd (yn (kY rfl) WJ rfl T.max_b (by rfl) (zl (DE.dr (dv 7)) (zl (DE.dr (dv 8)) zC))) zw))); (case hv=>refine x9 ?a ?b; (case b=>exact (DE.dr (Zy (DE.dr (VO (DE.dr (dv 6)) (DE.dr zk))) (DE.dr zk)))); (case a=>refine DE.dr ?u; (case u=>refine DN.de ?c; (case c=>exact (by refine va ?l0; (case l0=>refine zd ?e0 ?l1; (case e0=>exact zk); (case l1=>refine zd ?e1 ?l2; (case e1=>exact zk); (case l2=>refine zd ?e2 ?l3; (case e2=>exact zk); (case l3=>refine zd ?e3 ?l4; (case e3=>exact zk); (case l4=>refine zd ?e4 ?l5; (case e4=>exact zk); (case l5=>refine zd ?e5 ?l6; (case e5=>exact zk); (case l6=>refine zd ?e6 ?l7; (case e6=>exact zk); (case l7=>refine zd ?e7 ?l8; (case e7=>exact zk); (case l8=>exact zw)))))))))))))))) z9)))))) (zf (uz 9 yM.nd (va zw)) (zf (C5 PassesOwn.never rfl (KU 4) (qI rfl (ye (zJ 10 yM.nd) (ye (zJ 11 yM.nd) ua))) (zj (xD (kO hr (DE.dr (dv 11)) (DE.dr zk)) (zj (vO 9 (qe (zd (x9 (DE.dr (dv 10)) (DE.dr zk)) (zd (x9 (DE.dr (dv 10)) (DE.dr zk)) (zd (dv 11) zw)))))) z9))) (kP 9 (zj (zK (qe (zd (dv 3) (zd (dv 9) zw))))))))))))
noncomputable def YS:FS:=(z6 (jI (zF (zb ixD (vF 0) (cF (.int 1)))) (j7 3 (yA (zB 3) (yA (zB 4) (yA (zB 5) Zv)))) (ifS (qO (blF (zb eqF (vF 3) (zY Gj (za (vF 1) (za (vF 2) zy))))) (blF (zb eqF (vF 4) (zY Gn (za (vF 1) (za (vF 2) zy)))))) (yT (vF 5)) nxF)) (yT (cF (.int 2))))
noncomputable def wC:List D->Option D:=uo 6 YS
theorem qp:FnScope ["_law_house_here","_law_i","_law_j","_law_one","_law_other","_law_many"] ["_law_house_here","_law_i","_law_j"] (zi uK):=⟨rfl,rfl,rfl,by decide +kernel,rfl,by decide +kernel,by decide +kernel⟩
theorem QB (Fn:Fun K "_law_turn" "_law_turn" uK f fd) (T:Txt w K mg)  :
  FnOk P w K mg base CX0 1 f fd ["_law_house_here","_law_i","_law_j"] (spF K 3 wC) :=
 yD (k:=0) (m:=6) (F:=YS) rfl rfl Fn qp fun cdv A outer s H E hr=>(zf (w9 PassesOwn.never rfl (xy (x9 (DE.dr (dv 0)) (DE.dr zk))) (qI rfl (ye (zJ 3 qp.nd) (ye (zJ 4 qp.nd) (ye (zJ 5 qp.nd) ua)))) (zj (xD (DW.dt (uy (vN hr (DE.dr (dv 3)) (DE.dr (yn (kX rfl) WI rfl T.min_b (by rfl) (zl (DE.dr (dv 1)) (zl (DE.dr (dv 2)) zC))))) (wV (vN hr (DE.dr (dv 4)) (DE.dr (yn (kY rfl) WJ rfl T.max_b (by rfl) (zl (DE.dr (dv 1)) (zl (DE.dr (dv 2)) zC)))))))) (zj (zK (dv 5))) z9))) (zj (zK zk)))
noncomputable def j3:FS:=(z6 (ifS (blF (zb eqF (vF 1) (vF 2))) (yT (tupF (za (cF (.int 2)) (za (cF (.int 0)) zy)))) nxF) (z6 (yL 3 (zY wC (za (vF 0) (za (vF 1) (za (vF 2) zy))))) (z6 (ifS (orT (qO (blF (zb eqF (vF 3) (cF (.int 4)))) (blF (zb ltD (vF 1) (vF 2)))) (blF (zb eqF (vF 3) (cF (.int 0))))) (yT (tupF (za (zb jN (cF (.int 0)) (cF (.int 2))) (za (cF (.int 0)) zy)))) nxF) (z6 (ifS (qO (blF (zb eqF (vF 3) (cF (.int 6)))) (blF (zb ltD (vF 1) (vF 2)))) (yT (tupF (za (zb jN (cF (.int 0)) (cF (.int 3))) (za (cF (.int 0)) zy)))) nxF) (z6 (ifS (blF (zb eqF (vF 3) (cF (.int 5)))) (yT (tupF (za (cF (.int 0)) (za (zb jN (cF (.int 0)) (cF (.int 1))) zy)))) nxF) (yT (tupF (za (zb jN (cF (.int 0)) (zY HI (za (zb neF (vF 3) (cF (.int 2))) zy))) (za (cF (.int 0)) zy)))))))))
noncomputable def wD:List D->Option D:=uo 4 j3
theorem Y5:FnScope ["_law_house_here","_law_i","_law_j","_law_many"] ["_law_house_here","_law_i","_law_j"] (zi uM):=⟨rfl,rfl,rfl,by decide +kernel,rfl,by decide +kernel,by decide +kernel⟩
theorem QD (Fn:Fun K "_law_pull" "_law_pull" uM f fd) (T:Txt w K mg) (h_l_turn:HasFn P w K mg base 1 "_law_turn" 3 wC) :
  FnOk P w K mg base CX0 2 f fd ["_law_house_here","_law_i","_law_j"] (spF K 3 wD) :=
 yD (k:=1) (m:=4) (F:=j3) rfl rfl Fn Y5 fun cdv A outer s H E hr=>(zf (xD (vN hr (DE.dr (dv 1)) (DE.dr (dv 2))) (zj (zK (qe (zd zk (zd zk zw))))) z9) (zf (z7 3 Y5.nd (zN h_l_turn (hr.mono (by decide)) rfl (zd (dv 0) (zd (dv 1) (zd (dv 2) zw))) (zM (zM (zM yU))))) (zf (xD (DW.dt (MO (DW.dt (uy (vN hr (DE.dr (dv 3)) (DE.dr zk)) (wV (UP (DE.dr (dv 1)) (DE.dr (dv 2)))))) (HL (vN hr (DE.dr (dv 3)) (DE.dr zk))))) (zj (zK (qe (zd (jJ (DE.dr zk) (DE.dr zk)) (zd zk zw))))) z9) (zf (xD (DW.dt (uy (vN hr (DE.dr (dv 3)) (DE.dr zk)) (wV (UP (DE.dr (dv 1)) (DE.dr (dv 2)))))) (zj (zK (qe (zd (jJ (DE.dr zk) (DE.dr zk)) (zd zk zw))))) z9) (zf (xD (vN hr (DE.dr (dv 3)) (DE.dr zk)) (zj (zK (qe (zd zk (zd (jJ (DE.dr zk) (DE.dr zk)) zw))))) z9) (zj (zK (qe (zd (jJ (DE.dr zk) (DE.dr (qJ XT Jk rfl T.int_b (by rfl) (zl (DE.dr (RK hr (DE.dr (dv 3)) (DE.dr zk))) zC)))) (zd zk zw))))))))))
noncomputable def Zk:FS:=(z6 (VY 1 (Zq zy)) (z6 (jI (UV (za (zb ixD (vF 0) (cF (.int 0))) zy)) (zB 2) (xp 1 (zL (xX 1 [0,2] (UV (za (zb ixD (vF 0) (cF (.int 0))) zy)) (zB 0) ttF (zY wD (za (vF 1) (za (vF 2) (za (vF 0) zy)))))))) (Jj 1 (yT (vF 1)))))
noncomputable def vJ:List D->Option D:=uo 3 Zk
theorem qW:FnScope ["_law_house_here","_law_found","_law_i"] ["_law_house_here"] (zi vq):=⟨rfl,rfl,rfl,by decide +kernel,rfl,by decide +kernel,by decide +kernel⟩
theorem Ut (Fn:Fun K "_law_pulls" "_law_pulls" vq f fd) (T:Txt w K mg) (h_l_pull:HasFn P w K mg base 2 "_law_pull" 3 wD) :
  FnOk P w K mg base CX0 3 f fd ["_law_house_here"] (spF K 1 vJ) :=
 yD (k:=2) (m:=3) (F:=Zk) rfl rfl Fn qW fun cdv A outer s H E hr=>(zf (uz 1 qW.nd (va zw)) (zf (w9 PassesOwn.never rfl (wW rfl T.range_b (zl (DE.dr (x9 (DE.dr (dv 0)) (DE.dr zk))) zC)) (zJ 2 qW.nd) (zj (vO 1 (DN.de (x8 (own:=["_law_j"]) (frees:=["_law_house_here","_law_i"]) (caps:=[0,2]) rfl (.of (by kernel_rfl)) rfl yQ (wW rfl T.range_b (zl (DE.dr (x9 (DE.dr (dv 0)) (DE.dr zk))) zC)) (fun cl C s H fp=>⟨(zJ 0 (show List.Nodup (["_law_j","_law_house_here","_law_i"]:List Str) from by decide +kernel)),u6,(zN h_l_pull (hr.mono (by decide)) rfl (zd (dv 1) (zd (dv 2) (zd (dv 0) zw))) (zM (zM (zM yU))))⟩)))))) (kP 1 (zj (zK (dv 1))))))
noncomputable def Zi:FS:=(yT (tupF (za (zb wB (zb uY (zb ixD (vF 0) (cF (.int 0))) (zb ixD (vF 1) (cF (.int 0)))) (zb uY (zb ixD (vF 0) (cF (.int 1))) (zb ixD (vF 1) (cF (.int 1))))) (za (zb wB (zb wB (zb uY (zb ixD (vF 0) (cF (.int 0))) (zb ixD (vF 1) (cF (.int 1)))) (zb uY (zb ixD (vF 0) (cF (.int 1))) (zb ixD (vF 1) (cF (.int 0))))) (zb uY (zb ixD (vF 0) (cF (.int 1))) (zb ixD (vF 1) (cF (.int 1))))) zy))))
noncomputable def wR:List D->Option D:=uo 2 Zi
theorem Ud:FnScope ["_law_x","_law_y"] ["_law_x","_law_y"] (zi vo):=⟨rfl,rfl,rfl,by decide +kernel,rfl,by decide +kernel,by decide +kernel⟩
theorem Ur (Fn:Fun K "_law_times" "_law_times" vo f fd) (T:Txt w K mg)  :
  FnOk P w K mg base CX0 1 f fd ["_law_x","_law_y"] (spF K 2 wR) :=
 yD (k:=0) (m:=2) (F:=Zi) rfl rfl Fn Ud fun cdv A outer s H E hr=>(zj (zK (qe (zd (yG (DE.dr (uA (DE.dr (x9 (DE.dr (dv 0)) (DE.dr zk))) (DE.dr (x9 (DE.dr (dv 1)) (DE.dr zk))))) (DE.dr (uA (DE.dr (x9 (DE.dr (dv 0)) (DE.dr zk))) (DE.dr (x9 (DE.dr (dv 1)) (DE.dr zk)))))) (zd (yG (DE.dr (yG (DE.dr (uA (DE.dr (x9 (DE.dr (dv 0)) (DE.dr zk))) (DE.dr (x9 (DE.dr (dv 1)) (DE.dr zk))))) (DE.dr (uA (DE.dr (x9 (DE.dr (dv 0)) (DE.dr zk))) (DE.dr (x9 (DE.dr (dv 1)) (DE.dr zk))))))) (DE.dr (uA (DE.dr (x9 (DE.dr (dv 0)) (DE.dr zk))) (DE.dr (x9 (DE.dr (dv 1)) (DE.dr zk)))))) zw)))))
noncomputable def uH:FS:=(z6 (yL 3 (tupF (za (cF (.int 0)) (za (cF (.int 0)) zy)))) (z6 (jI (UV (za (zY uZ (za (vF 2) zy)) zy)) (zB 4) (z6 (yL 5 (zY wR (za (zb ixD (zb ixD (vF 0) (vF 1)) (vF 4)) (za (zb ixD (vF 2) (vF 4)) zy)))) (yL 3 (tupF (za (zb wB (zb ixD (vF 3) (cF (.int 0))) (zb ixD (vF 5) (cF (.int 0)))) (za (zb wB (zb ixD (vF 3) (cF (.int 1))) (zb ixD (vF 5) (cF (.int 1)))) zy)))))) (yT (zb wB (zb wB (ZG (vF 2) noP (exP (vF 1))) (tupF (za (tupF (za (zb jN (zb ixD (zb ixD (vF 2) (vF 1)) (cF (.int 0))) (zb ixD (vF 3) (cF (.int 0)))) (za (zb jN (zb ixD (zb ixD (vF 2) (vF 1)) (cF (.int 1))) (zb ixD (vF 3) (cF (.int 1)))) zy))) zy))) (ZG (vF 2) (exP (zb wB (vF 1) (cF (.int 1)))) noP)))))
noncomputable def xi:List D->Option D:=uo 6 uH
theorem xN:FnScope ["_law_pulls_here","_law_i","_law_row","_law_taken","_law_j","_law_more"] ["_law_pulls_here","_law_i","_law_row"] (zi xG):=⟨rfl,rfl,rfl,by decide +kernel,rfl,by decide +kernel,by decide +kernel⟩
theorem Yq (Fn:Fun K "_law_mirrored" "_law_mirrored" xG f fd) (T:Txt w K mg) (h_l_times:HasFn P w K mg base 1 "_law_times" 2 wR) :
  FnOk P w K mg base CX0 2 f fd ["_law_pulls_here","_law_i","_law_row"] (spF K 3 xi) :=
 yD (k:=1) (m:=6) (F:=uH) rfl rfl Fn xN fun cdv A outer s H E hr=>(zf (z7 3 xN.nd (qe (zd zk (zd zk zw)))) (zf (w9 PassesOwn.never rfl (wW rfl T.range_b (zl (DE.dr (yn yH xW rfl T.len_b (by rfl) (zl (DE.dr (dv 2)) zC))) zC)) (zJ 4 xN.nd) (zf (z7 5 xN.nd (zN h_l_times (hr.mono (by decide)) rfl (zd (x9 (DE.dr (x9 (DE.dr (dv 0)) (DE.dr (dv 1)))) (DE.dr (dv 4))) (zd (x9 (DE.dr (dv 2)) (DE.dr (dv 4))) zw)) (zM (zM yU)))) (zj (z7 3 xN.nd (qe (zd (yG (DE.dr (x9 (DE.dr (dv 3)) (DE.dr zk))) (DE.dr (x9 (DE.dr (dv 5)) (DE.dr zk)))) (zd (yG (DE.dr (x9 (DE.dr (dv 3)) (DE.dr zk))) (DE.dr (x9 (DE.dr (dv 5)) (DE.dr zk)))) zw))))))) (zj (zK (yG (DE.dr (yG (DE.dr (YJ (DE.dr (dv 2)) C9 (Jz (DE.dr (dv 1))))) (DE.dr (qe (zd (qe (zd (jJ (DE.dr (x9 (DE.dr (x9 (DE.dr (dv 2)) (DE.dr (dv 1)))) (DE.dr zk))) (DE.dr (x9 (DE.dr (dv 3)) (DE.dr zk)))) (zd (jJ (DE.dr (x9 (DE.dr (x9 (DE.dr (dv 2)) (DE.dr (dv 1)))) (DE.dr zk))) (DE.dr (x9 (DE.dr (dv 3)) (DE.dr zk)))) zw))) zw))))) (DE.dr (YJ (DE.dr (dv 2)) (Jz (DE.dr (yG (DE.dr (dv 1)) (DE.dr zk)))) C9)))))))
noncomputable def ue:FS:=(z6 (yL 1 (zb wB (zb uY (cF (.int 2)) (zb ixD (vF 0) (cF (.int 0)))) (zb ixD (vF 0) (cF (.int 1))))) (z6 (ifS (qO (blF (zb eqF (vF 1) (cF (.int 0)))) (blF (zb eqF (zb ixD (vF 0) (cF (.int 1))) (cF (.int 0))))) (yT (cF (.int 0))) nxF) (z6 (ifS (blF (zb gtD (zb wB (zb uY (vF 1) (zY Ng (za (vF 1) zy))) (zb uY (zb uY (cF (.int 5)) (zb ixD (vF 0) (cF (.int 1)))) (zY Ng (za (zb ixD (vF 0) (cF (.int 1))) zy)))) (cF (.int 0)))) (yT (cF (.int 1))) nxF) (yT (zb jN (cF (.int 0)) (cF (.int 1)))))))
noncomputable def yZ:List D->Option D:=uo 2 ue
theorem Y4:FnScope ["_law_x","_law_twice"] ["_law_x"] (zi uL):=⟨rfl,rfl,rfl,by decide +kernel,rfl,by decide +kernel,by decide +kernel⟩
theorem QC (Fn:Fun K "_law_sign" "_law_sign" uL f fd) (T:Txt w K mg)  :
  FnOk P w K mg base CX0 1 f fd ["_law_x"] (spF K 1 yZ) :=
 yD (k:=0) (m:=2) (F:=ue) rfl rfl Fn Y4 fun cdv A outer s H E hr=>(zf (z7 1 Y4.nd (yG (DE.dr (uA (DE.dr zk) (DE.dr (x9 (DE.dr (dv 0)) (DE.dr zk))))) (DE.dr (x9 (DE.dr (dv 0)) (DE.dr zk))))) (zf (xD (DW.dt (uy (vN hr (DE.dr (dv 1)) (DE.dr zk)) (wV (vN hr (DE.dr (x9 (DE.dr (dv 0)) (DE.dr zk))) (DE.dr zk))))) (zj (zK zk)) z9) (zf (xD (MQ (DE.dr (yG (DE.dr (uA (DE.dr (dv 1)) (DE.dr (yn VT Jl rfl T.abs_b (by rfl) (zl (DE.dr (dv 1)) zC))))) (DE.dr (uA (DE.dr (uA (DE.dr zk) (DE.dr (x9 (DE.dr (dv 0)) (DE.dr zk))))) (DE.dr (yn VT Jl rfl T.abs_b (by rfl) (zl (DE.dr (x9 (DE.dr (dv 0)) (DE.dr zk))) zC))))))) (DE.dr zk)) (zj (zK zk)) z9) (zj (zK (jJ (DE.dr zk) (DE.dr zk)))))))
noncomputable def YU:FS:=(z6 (VY 2 (Zq (za (vF 1) zy))) (z6 (yL 3 (cF (.int 0))) (z6 (yo (blF (zb ltD (vF 3) (zY uZ (za (vR 2) zy)))) (z6 (jI (UV (za (zb ixD (vF 0) (cF (.int 0))) zy)) (zB 4) (ifS (qO (blF (zb (inD true) (vF 4) (vR 2))) (blF (zb neF (zY wC (za (vF 0) (za (zb ixD (vR 2) (vF 3)) (za (vF 4) zy)))) (cF (.int 2))))) (xp 2 (vF 4)) nxF)) (yL 3 (zb wB (vF 3) (cF (.int 1))))) 100000) (yT (zL (Wi (za (vR 2) zy)))))))
noncomputable def vZ:List D->Option D:=uo 5 YU
theorem ur:FnScope ["_law_house_here","_law_mirror","_law_come_here","_law_at_here","_law_other"] ["_law_house_here","_law_mirror"] (zi uN):=⟨rfl,rfl,rfl,by decide +kernel,rfl,by decide +kernel,by decide +kernel⟩
theorem QE (Fn:Fun K "_law_come" "_law_come" uN f fd) (T:Txt w K mg) (h_l_turn:HasFn P w K mg base 1 "_law_turn" 3 wC) :
  FnOk P w K mg base CX0 2 f fd ["_law_house_here","_law_mirror"] (spF K 2 vZ) :=
 yD (k:=1) (m:=5) (F:=YU) rfl rfl Fn ur fun cdv A outer s H E hr=>(zf (uz 2 ur.nd (va (zd (dv 1) zw))) (zf (z7 3 ur.nd zk) (zf (jX 100000 PassesOwn.never (UP (DE.dr (dv 3)) (DE.dr (yn yH xW rfl T.len_b (by rfl) (zl (dvr 2) zC)))) (zf (w9 PassesOwn.never rfl (wW rfl T.range_b (zl (DE.dr (x9 (DE.dr (dv 0)) (DE.dr zk))) zC)) (zJ 4 ur.nd) (zj (xD (DW.dt (uy (YH hr (DE.dr (dv 4)) (dvr 2)) (wV (kO hr (DE.dr (zN h_l_turn (hr.mono (by decide)) rfl (zd (dv 0) (zd (x9 (dvr 2) (DE.dr (dv 3))) (zd (dv 4) zw))) (zM (zM (zM yU))))) (DE.dr zk))))) (zj (vO 2 (dv 4))) z9))) (zj (z7 3 ur.nd (yG (DE.dr (dv 3)) (DE.dr zk)))))) (zj (zK (DN.de (qH rfl T.sorted_b (zl (dvr 2) zC))))))))
noncomputable def Zj:FS:=(z6 (yL 2 (zY vJ (za (vF 0) zy))) (z6 (VY 3 (Zq zy)) (z6 (jI (zF (vF 1)) (zB 4) (xp 3 (zY uq (za (zL (xX 1 [4] (UV (za (zb ixD (vF 0) (cF (.int 0))) zy)) (zB 0) ttF (tupF (za (zY HI (za (zb eqF (vF 1) (vF 0)) zy)) (za (cF (.int 0)) zy))))) zy)))) (z6 (VJ 5 2) (z6 (jj 6 3 5) (z6 (yL 7 (cF (.int 0))) (z6 (yo (qO (blF (zb ltD (vF 7) (zY uZ (za (vR 3) zy)))) (blF (zb leD (zY uZ (za (vR 3) zy)) (cF (.int 60))))) (z6 (jI (zF (vF 1)) (zB 4) (z6 (yL 6 (zY xi (za (vF 2) (za (vF 4) (za (zb ixD (vR 3) (vF 7)) zy))))) (ifS (qO (Wt 5 (vF 6)) (blF (zb (inD true) (zb jN (cF (.int 0)) (cF (.int 1))) (zL (xX 1 [] (zF (vF 6)) (zB 0) ttF (zY yZ (za (vF 0) zy))))))) (z6 (Xc 5 (vF 6) (cF (.bl true))) (xp 3 (vF 6))) nxF))) (yL 7 (zb wB (vF 7) (cF (.int 1))))) 100000) (yT (zY uZ (za (vR 3) zy))))))))))
noncomputable def xw:List D->Option D:=uo 8 Zj
theorem y9:FnScope ["_law_house_here","_law_part","_law_pulls_here","_law_come_here","_law_i","_law_seen","_law_row","_law_at_here"] ["_law_house_here","_law_part"] (zi vp):=⟨rfl,rfl,rfl,by decide +kernel,rfl,by decide +kernel,by decide +kernel⟩
theorem Us (Fn:Fun K "_law_roots" "_law_roots" vp f fd) (T:Txt w K mg) (h_l_mirrored:HasFn P w K mg base 2 "_law_mirrored" 3 xi) (h_l_pulls:HasFn P w K mg base 3 "_law_pulls" 1 vJ) (h_l_sign:HasFn P w K mg base 1 "_law_sign" 1 yZ) :
  FnOk P w K mg base CX0 4 f fd ["_law_house_here","_law_part"] (spF K 2 xw) :=
 yD (k:=3) (m:=8) (F:=Zj) rfl rfl Fn y9 fun cdv A outer s H E hr=>(zf (z7 2 y9.nd (zN h_l_pulls (hr.mono (by decide)) rfl (zd (dv 0) zw) (zM yU))) (zf (uz 3 y9.nd (va zw)) (zf (w9 PassesOwn.never rfl (xy (dv 1)) (zJ 4 y9.nd) (zj (vO 3 (qJ uc kK rfl T.tuple_b (by rfl) (zl (DE.dr (DN.de (x8 (own:=["_law_j"]) (frees:=["_law_i"]) (caps:=[4]) rfl (.of (by kernel_rfl)) rfl yQ (wW rfl T.range_b (zl (DE.dr (x9 (DE.dr (dv 0)) (DE.dr zk))) zC)) (fun cl C s H fp=>⟨(zJ 0 (show List.Nodup (["_law_j","_law_i"]:List Str) from by decide +kernel)),u6,(qe (zd (qJ XT Jk rfl T.int_b (by rfl) (zl (DE.dr (MZ hr (DE.dr (dv 1)) (DE.dr (dv 0)))) zC)) (zd zk zw)))⟩)))) zC))))) (zf (GV 5 2 y9.nd) (zf (Jw 6 3 5 hr PassesOwn.never rfl y9.nd Dh) (zf (z7 7 y9.nd zk) (zf (jX 100000 PassesOwn.never (DW.dt (uy (UP (DE.dr (dv 7)) (DE.dr (yn yH xW rfl T.len_b (by rfl) (zl (dvr 3) zC)))) (wV (Pl (DE.dr (yn yH xW rfl T.len_b (by rfl) (zl (dvr 3) zC))) (DE.dr zk))))) (zf (w9 PassesOwn.never rfl (xy (dv 1)) (zJ 4 y9.nd) (zf (z7 6 y9.nd (zN h_l_mirrored (hr.mono (by decide)) rfl (zd (dv 2) (zd (dv 4) (zd (x9 (dvr 3) (DE.dr (dv 7))) zw))) (zM (zM (zM yU))))) (zj (xD (DW.dt (uy (C2 5 hr (dv 6)) (wV (YH hr (DE.dr (jJ (DE.dr zk) (DE.dr zk))) (DE.dr (DN.de (x8 (own:=["_law_number"]) (frees:=[]) (caps:=[]) rfl (.of (by kernel_rfl)) rfl yQ (xy (dv 6)) (fun cl C s H fp=>⟨(zJ 0 (show List.Nodup (["_law_number"]:List Str) from by decide +kernel)),u6,(zN h_l_sign (hr.mono (by decide)) rfl (zd (dv 0) zw) (zM yU))⟩)))))))) (zf (C4 5 hr Dh (dv 6)) (zj (vO 3 (dv 6)))) z9)))) (zj (z7 7 y9.nd (yG (DE.dr (dv 7)) (DE.dr zk)))))) (zj (zK (yn yH xW rfl T.len_b (by rfl) (zl (dvr 3) zC)))))))))))
noncomputable def Du:FS:=(z6 (yL 1 (zY vK (za (vF 0) (za (cF (.int 0)) zy)))) (z6 (yL 2 (cF (.int 0))) (z6 (yL 3 (cF (.bl false))) (z6 (yL 4 (zY wy (za (tupF (za (zb ixD (vF 1) (cF (.int 0))) (za (zL (Gr (za (zb ixD (vF 1) (cF (.int 1))) zy))) zy))) zy))) (z6 (yL 5 (zL (Zq zy))) (z6 (jI (zF (vF 4)) (j7 2 (yA (zB 6) (yA (zB 7) Zv))) (z6 (ifS (orT (blF (zb eqF (zY uZ (za (vF 6) zy)) (cF (.int 0)))) (blF (zb neF (vF 6) (zY vZ (za (vF 1) (za (zb ixD (vF 6) (cF (.int 0))) zy)))))) (yT (cF (.bl false))) nxF) (z6 (yL 8 (zY xw (za (vF 1) (za (vF 6) zy)))) (z6 (ifS (blF (zb neF (zb gtD (vF 8) (cF (.int 60))) (zb eqF (vF 7) (cF (.str "-"))))) (yT (cF (.bl false))) nxF) (z6 (yL 5 (zb wB (vF 5) (vF 6))) (z6 (yL 3 (orV (vF 3) (zb eqF (vF 7) (cF (.str "-"))))) (yL 2 (zb wB (vF 2) (vF 8))))))))) (z6 (ifS (blF (zb neF (zL (Wi (za (vF 5) zy))) (zL (Uh (za (zb ixD (vF 1) (cF (.int 0))) zy))))) (yT (cF (.bl false))) nxF) (z6 (ifS (blF (vF 3)) (yT (cF (.bl true))) nxF) (yT (zb eqF (vF 2) (zY Nl (za (zL (xX 1 [] (zF (zY vM (za (vF 1) zy))) (zB 0) ttF (zb jN (vF 0) (cF (.int 1))))) zy))))))))))))
noncomputable def g_law:List D->Option D:=uo 9 Du
theorem ug:FnScope ["_law_script","_law_house_here","_law_total","_law_never","_law_told","_law_mirrors","_law_part","_law_kind","_law_many"] ["_law_script"] (zi Yl):=⟨rfl,rfl,rfl,by decide +kernel,rfl,by decide +kernel,by decide +kernel⟩
theorem FR (Fn:Fun K "law" "law" Yl f fd) (T:Txt w K mg) (h_l_come:HasFn P w K mg base 2 "_law_come" 2 vZ) (h_l_house:HasFn P w K mg base 2 "_law_house" 2 vK) (h_l_roots:HasFn P w K mg base 4 "_law_roots" 2 xw) (h_degrees:HasFn P w K mg base 9 "degrees" 1 vM) (h_kinds:HasFn P w K mg base 7 "kinds" 1 wy) :
  FnOk P w K mg base CX0 10 f fd ["_law_script"] (spF K 1 g_law) :=
 yD (k:=9) (m:=9) (F:=Du) rfl rfl Fn ug fun cdv A outer s H E hr=>(zf (z7 1 ug.nd (zN h_l_house (hr.mono (by decide)) rfl (zd (dv 0) (zd zk zw)) (zM (zM yU)))) (zf (z7 2 ug.nd zk) (zf (z7 3 ug.nd Dh) (zf (z7 4 ug.nd (zN h_kinds (hr.mono (by decide)) rfl (zd (qe (zd (x9 (DE.dr (dv 1)) (DE.dr zk)) (zd (DN.de (JC rfl T.list_b (zl (DE.dr (x9 (DE.dr (dv 1)) (DE.dr zk))) zC))) zw))) zw) (zM yU))) (zf (z7 5 ug.nd (DN.de (va zw))) (zf (w9 PassesOwn.never rfl (xy (dv 4)) (qI rfl (ye (zJ 6 ug.nd) (ye (zJ 7 ug.nd) ua))) (zf (xD (DW.dt (MO (vN hr (DE.dr (yn yH xW rfl T.len_b (by rfl) (zl (DE.dr (dv 6)) zC))) (DE.dr zk)) (HL (kO hr (DE.dr (dv 6)) (DE.dr (zN h_l_come (hr.mono (by decide)) rfl (zd (dv 1) (zd (x9 (DE.dr (dv 6)) (DE.dr zk)) zw)) (zM (zM yU)))))))) (zj (zK Dh)) z9) (zf (z7 8 ug.nd (zN h_l_roots (hr.mono (by decide)) rfl (zd (dv 1) (zd (dv 6) zw)) (zM (zM yU)))) (zf (xD (kO hr (DE.dr (RL (DE.dr (dv 8)) (DE.dr zk))) (DE.dr (MZ hr (DE.dr (dv 7)) (DE.dr JI)))) (zj (zK Dh)) z9) (zf (z7 5 ug.nd (yG (DE.dr (dv 5)) (DE.dr (dv 6)))) (zf (z7 3 ug.nd (RJ (dv 3) (Pu (MZ hr (DE.dr (dv 7)) (DE.dr JI))))) (zj (z7 2 ug.nd (yG (DE.dr (dv 2)) (DE.dr (dv 8))))))))))) (zf (xD (kO hr (DE.dr (DN.de (qH rfl T.sorted_b (zl (DE.dr (dv 5)) zC)))) (DE.dr (DN.de (XG rfl rfl T.list_b rfl T.range_b (zl (DE.dr (x9 (DE.dr (dv 1)) (DE.dr zk))) zC))))) (zj (zK Dh)) z9) (zf (xD (VH (DE.dr (dv 3))) (zj (zK Dh)) z9) (zj (zK (MZ hr (DE.dr (dv 2)) (DE.dr (yn (G8 rfl) CZ rfl T.sum_b (by rfl) (zl (DE.dr (DN.de (x8 (own:=["_law_degree"]) (frees:=[]) (caps:=[]) rfl (.of (by kernel_rfl)) rfl yQ (xy (zN h_degrees (hr.mono (by decide)) rfl (zd (dv 1) zw) (zM yU))) (fun cl C s H fp=>⟨(zJ 0 (show List.Nodup (["_law_degree"]:List Str) from by decide +kernel)),u6,(jJ (DE.dr (dv 0)) (DE.dr zk))⟩)))) zC))))))))))))))
end
theorem all_mk {l:W.OpenLaw} {w:World} {K:W.Frag} {h:Heap} {mg:Str->Option Value} {fa:Addr} (X:K.In h) (G:h.Ns mainGlobals mg) (hfa:mg "law"=some (.ref fa))
  {f0:Addr} {oc0:Value} {od0 an0:Option Addr} {osl0:Array (Option Value)} {kV0 doc0 pm0 cdv0 ct0:Value}
  {f1:Addr} {oc1:Value} {od1 an1:Option Addr} {osl1:Array (Option Value)} {kV1 doc1 pm1 cdv1 ct1:Value}
  {f2:Addr} {oc2:Value} {od2 an2:Option Addr} {osl2:Array (Option Value)} {kV2 doc2 pm2 cdv2 ct2:Value}
  {f3:Addr} {oc3:Value} {od3 an3:Option Addr} {osl3:Array (Option Value)} {kV3 doc3 pm3 cdv3 ct3:Value}
  {f4:Addr} {oc4:Value} {od4 an4:Option Addr} {osl4:Array (Option Value)} {kV4 doc4 pm4 cdv4 ct4:Value}
  {f5:Addr} {oc5:Value} {od5 an5:Option Addr} {osl5:Array (Option Value)} {kV5 doc5 pm5 cdv5 ct5:Value}
  {f6:Addr} {oc6:Value} {od6 an6:Option Addr} {osl6:Array (Option Value)} {kV6 doc6 pm6 cdv6 ct6:Value}
  {f7:Addr} {oc7:Value} {od7 an7:Option Addr} {osl7:Array (Option Value)} {kV7 doc7 pm7 cdv7 ct7:Value}
  {f8:Addr} {oc8:Value} {od8 an8:Option Addr} {osl8:Array (Option Value)} {kV8 doc8 pm8 cdv8 ct8:Value}
  {f9:Addr} {oc9:Value} {od9 an9:Option Addr} {osl9:Array (Option Value)} {kV9 doc9 pm9 cdv9 ct9:Value}
  {f10:Addr} {oc10:Value} {od10 an10:Option Addr} {osl10:Array (Option Value)} {kV10 doc10 pm10 cdv10 ct10:Value}
  {f11:Addr} {oc11:Value} {od11 an11:Option Addr} {osl11:Array (Option Value)} {kV11 doc11 pm11 cdv11 ct11:Value}
  {f12:Addr} {oc12:Value} {od12 an12:Option Addr} {osl12:Array (Option Value)} {kV12 doc12 pm12 cdv12 ct12:Value}
  {f13:Addr} {oc13:Value} {od13 an13:Option Addr} {osl13:Array (Option Value)} {kV13 doc13 pm13 cdv13 ct13:Value}
  {f14:Addr} {oc14:Value} {od14 an14:Option Addr} {osl14:Array (Option Value)} {kV14 doc14 pm14 cdv14 ct14:Value}
  {f15:Addr} {oc15:Value} {od15 an15:Option Addr} {osl15:Array (Option Value)} {kV15 doc15 pm15 cdv15 ct15:Value}
  {f16:Addr} {oc16:Value} {od16 an16:Option Addr} {osl16:Array (Option Value)} {kV16 doc16 pm16 cdv16 ct16:Value}
  {f17:Addr} {oc17:Value} {od17 an17:Option Addr} {osl17:Array (Option Value)} {kV17 doc17 pm17 cdv17 ct17:Value}
  {f18:Addr} {oc18:Value} {od18 an18:Option Addr} {osl18:Array (Option Value)} {kV18 doc18 pm18 cdv18 ct18:Value}
  {f19:Addr} {oc19:Value} {od19 an19:Option Addr} {osl19:Array (Option Value)} {kV19 doc19 pm19 cdv19 ct19:Value}
  {f20:Addr} {oc20:Value} {od20 an20:Option Addr} {osl20:Array (Option Value)} {kV20 doc20 pm20 cdv20 ct20:Value}
  {f21:Addr} {oc21:Value} {od21 an21:Option Addr} {osl21:Array (Option Value)} {kV21 doc21 pm21 cdv21 ct21:Value}
  {f22:Addr} {oc22:Value} {od22 an22:Option Addr} {osl22:Array (Option Value)} {kV22 doc22 pm22 cdv22 ct22:Value}
  {f23:Addr} {oc23:Value} {od23 an23:Option Addr} {osl23:Array (Option Value)} {kV23 doc23 pm23 cdv23 ct23:Value}
  {f24:Addr} {oc24:Value} {od24 an24:Option Addr} {osl24:Array (Option Value)} {kV24 doc24 pm24 cdv24 ct24:Value}
  {f25:Addr} {oc25:Value} {od25 an25:Option Addr} {osl25:Array (Option Value)} {kV25 doc25 pm25 cdv25 ct25:Value}
  {f26:Addr} {oc26:Value} {od26 an26:Option Addr} {osl26:Array (Option Value)} {kV26 doc26 pm26 cdv26 ct26:Value}
  {f27:Addr} {oc27:Value} {od27 an27:Option Addr} {osl27:Array (Option Value)} {kV27 doc27 pm27 cdv27 ct27:Value}
  {f28:Addr} {oc28:Value} {od28 an28:Option Addr} {osl28:Array (Option Value)} {kV28 doc28 pm28 cdv28 ct28:Value}
  {f29:Addr} {oc29:Value} {od29 an29:Option Addr} {osl29:Array (Option Value)} {kV29 doc29 pm29 cdv29 ct29:Value}
  {t_COMMON_TURN:Tok}
  {t_NOT_TOLD:Tok}
  {t_NO_KIND:Tok}
  {tk_RARE_CHAINS_0_0:Tok}
  {tk_RARE_CHAINS_0_1:Tok}
  {tk_RARE_CHAINS_0_2:Tok}
  {ta_RARE_CHAINS_0:Addr} {od_RARE_CHAINS_0:Option Addr} {n_RARE_CHAINS_0:Nat} {osl_RARE_CHAINS_0:Array (Option Value)}
  {hh_RARE_CHAINS_0:Int} {vt_RARE_CHAINS_0:Tok}
  {tk_RARE_CHAINS_1_0:Tok}
  {tk_RARE_CHAINS_1_1:Tok}
  {ta_RARE_CHAINS_1:Addr} {od_RARE_CHAINS_1:Option Addr} {n_RARE_CHAINS_1:Nat} {osl_RARE_CHAINS_1:Array (Option Value)}
  {hh_RARE_CHAINS_1:Int} {vt_RARE_CHAINS_1:Tok}
  {tk_RARE_CHAINS_2_0:Tok}
  {tk_RARE_CHAINS_2_1:Tok}
  {tk_RARE_CHAINS_2_2:Tok}
  {ta_RARE_CHAINS_2:Addr} {od_RARE_CHAINS_2:Option Addr} {n_RARE_CHAINS_2:Nat} {osl_RARE_CHAINS_2:Array (Option Value)}
  {hh_RARE_CHAINS_2:Int} {vt_RARE_CHAINS_2:Tok}
  {tk_RARE_CHAINS_3_0:Tok}
  {ta_RARE_CHAINS_3:Addr} {od_RARE_CHAINS_3:Option Addr} {n_RARE_CHAINS_3:Nat} {osl_RARE_CHAINS_3:Array (Option Value)}
  {hh_RARE_CHAINS_3:Int} {vt_RARE_CHAINS_3:Tok}
  {tk_RARE_CHAINS_4_0:Tok}
  {ta_RARE_CHAINS_4:Addr} {od_RARE_CHAINS_4:Option Addr} {n_RARE_CHAINS_4:Nat} {osl_RARE_CHAINS_4:Array (Option Value)}
  {hh_RARE_CHAINS_4:Int} {vt_RARE_CHAINS_4:Tok}
  {da_RARE_CHAINS:Addr} {ep_RARE_CHAINS:Nat}
  {tk_RARE_DEGREES_0_0:Tok}
  {tk_RARE_DEGREES_0_1:Tok}
  {tk_RARE_DEGREES_0_2:Tok}
  {tk_RARE_DEGREES_0_3:Tok}
  {tk_RARE_DEGREES_0_4:Tok}
  {tk_RARE_DEGREES_0_5:Tok}
  {ta_RARE_DEGREES_0:Addr} {od_RARE_DEGREES_0:Option Addr} {n_RARE_DEGREES_0:Nat} {osl_RARE_DEGREES_0:Array (Option Value)}
  {hh_RARE_DEGREES_0:Int} {kk_RARE_DEGREES_0:Tok}
  {tk_RARE_DEGREES_1_0:Tok}
  {tk_RARE_DEGREES_1_1:Tok}
  {tk_RARE_DEGREES_1_2:Tok}
  {tk_RARE_DEGREES_1_3:Tok}
  {ta_RARE_DEGREES_1:Addr} {od_RARE_DEGREES_1:Option Addr} {n_RARE_DEGREES_1:Nat} {osl_RARE_DEGREES_1:Array (Option Value)}
  {hh_RARE_DEGREES_1:Int} {kk_RARE_DEGREES_1:Tok}
  {tk_RARE_DEGREES_2_0:Tok}
  {tk_RARE_DEGREES_2_1:Tok}
  {tk_RARE_DEGREES_2_2:Tok}
  {ta_RARE_DEGREES_2:Addr} {od_RARE_DEGREES_2:Option Addr} {n_RARE_DEGREES_2:Nat} {osl_RARE_DEGREES_2:Array (Option Value)}
  {hh_RARE_DEGREES_2:Int} {kk_RARE_DEGREES_2:Tok}
  {tk_RARE_DEGREES_3_0:Tok}
  {tk_RARE_DEGREES_3_1:Tok}
  {tk_RARE_DEGREES_3_2:Tok}
  {tk_RARE_DEGREES_3_3:Tok}
  {ta_RARE_DEGREES_3:Addr} {od_RARE_DEGREES_3:Option Addr} {n_RARE_DEGREES_3:Nat} {osl_RARE_DEGREES_3:Array (Option Value)}
  {hh_RARE_DEGREES_3:Int} {kk_RARE_DEGREES_3:Tok}
  {tk_RARE_DEGREES_4_0:Tok}
  {tk_RARE_DEGREES_4_1:Tok}
  {ta_RARE_DEGREES_4:Addr} {od_RARE_DEGREES_4:Option Addr} {n_RARE_DEGREES_4:Nat} {osl_RARE_DEGREES_4:Array (Option Value)}
  {hh_RARE_DEGREES_4:Int} {kk_RARE_DEGREES_4:Tok}
  {tk_RARE_DEGREES_5_0:Tok}
  {tk_RARE_DEGREES_5_1:Tok}
  {ta_RARE_DEGREES_5:Addr} {od_RARE_DEGREES_5:Option Addr} {n_RARE_DEGREES_5:Nat} {osl_RARE_DEGREES_5:Array (Option Value)}
  {hh_RARE_DEGREES_5:Int} {kk_RARE_DEGREES_5:Tok}
  {da_RARE_DEGREES:Addr} {ep_RARE_DEGREES:Nat}
  (a0:W.nsIn K mainGlobals "turn_of"=some (some (.ref f0))) (l0:K.lookup f0=some ⟨oc0,od0,.func (W.fnOf "turn_of" "turn_of" (zX vk) (zT vk) (zi vk) .none kV0 doc0 pm0 an0 cdv0 ct0),osl0⟩) (c0:W.codeIn K cdv0 "turn_of"=true) (k0:W.keepIn K (.ref f0)=true)
  (a1:W.nsIn K mainGlobals "neighbours"=some (some (.ref f1))) (l1:K.lookup f1=some ⟨oc1,od1,.func (W.fnOf "neighbours" "neighbours" (zX xF) (zT xF) (zi xF) .none kV1 doc1 pm1 an1 cdv1 ct1),osl1⟩) (c1:W.codeIn K cdv1 "neighbours"=true) (k1:W.keepIn K (.ref f1)=true)
  (a2:W.nsIn K mainGlobals "without"=some (some (.ref f2))) (l2:K.lookup f2=some ⟨oc2,od2,.func (W.fnOf "without" "without" (zX vj) (zT vj) (zi vj) .none kV2 doc2 pm2 an2 cdv2 ct2),osl2⟩) (c2:W.codeIn K cdv2 "without"=true) (k2:W.keepIn K (.ref f2)=true)
  (a3:W.nsIn K mainGlobals "part_of"=some (some (.ref f3))) (l3:K.lookup f3=some ⟨oc3,od3,.func (W.fnOf "part_of" "part_of" (zX vm) (zT vm) (zi vm) .none kV3 doc3 pm3 an3 cdv3 ct3),osl3⟩) (c3:W.codeIn K cdv3 "part_of"=true) (k3:W.keepIn K (.ref f3)=true)
  (a4:W.nsIn K mainGlobals "parts"=some (some (.ref f4))) (l4:K.lookup f4=some ⟨oc4,od4,.func (W.fnOf "parts" "parts" (zX qY) (zT qY) (zi qY) .none kV4 doc4 pm4 an4 cdv4 ct4),osl4⟩) (c4:W.codeIn K cdv4 "parts"=true) (k4:W.keepIn K (.ref f4)=true)
  (a5:W.nsIn K mainGlobals "chain_from"=some (some (.ref f5))) (l5:K.lookup f5=some ⟨oc5,od5,.func (W.fnOf "chain_from" "chain_from" (zX xH) (zT xH) (zi xH) .none kV5 doc5 pm5 an5 cdv5 ct5),osl5⟩) (c5:W.codeIn K cdv5 "chain_from"=true) (k5:W.keepIn K (.ref f5)=true)
  (a6:W.nsIn K mainGlobals "chains"=some (some (.ref f6))) (l6:K.lookup f6=some ⟨oc6,od6,.func (W.fnOf "chains" "chains" (zX uO) (zT uO) (zi uO) .none kV6 doc6 pm6 an6 cdv6 ct6),osl6⟩) (c6:W.codeIn K cdv6 "chains"=true) (k6:W.keepIn K (.ref f6)=true)
  (a7:W.nsIn K mainGlobals "turns_along"=some (some (.ref f7))) (l7:K.lookup f7=some ⟨oc7,od7,.func (W.fnOf "turns_along" "turns_along" (zX xl) (zT xl) (zi xl) .none kV7 doc7 pm7 an7 cdv7 ct7),osl7⟩) (c7:W.codeIn K cdv7 "turns_along"=true) (k7:W.keepIn K (.ref f7)=true)
  (a8:W.nsIn K mainGlobals "kind_of_chain"=some (some (.ref f8))) (l8:K.lookup f8=some ⟨oc8,od8,.func (W.fnOf "kind_of_chain" "kind_of_chain" (zX yO) (zT yO) (zi yO) .none kV8 doc8 pm8 an8 cdv8 ct8),osl8⟩) (c8:W.codeIn K cdv8 "kind_of_chain"=true) (k8:W.keepIn K (.ref f8)=true)
  (a9:W.nsIn K mainGlobals "kind_with_one_beside"=some (some (.ref f9))) (l9:K.lookup f9=some ⟨oc9,od9,.func (W.fnOf "kind_with_one_beside" "kind_with_one_beside" (zX z5) (zT z5) (zi z5) .none kV9 doc9 pm9 an9 cdv9 ct9),osl9⟩) (c9:W.codeIn K cdv9 "kind_with_one_beside"=true) (k9:W.keepIn K (.ref f9)=true)
  (a10:W.nsIn K mainGlobals "kinds_by_chains"=some (some (.ref f10))) (l10:K.lookup f10=some ⟨oc10,od10,.func (W.fnOf "kinds_by_chains" "kinds_by_chains" (zX yq) (zT yq) (zi yq) .none kV10 doc10 pm10 an10 cdv10 ct10),osl10⟩) (c10:W.codeIn K cdv10 "kinds_by_chains"=true) (k10:W.keepIn K (.ref f10)=true)
  (a11:W.nsIn K mainGlobals "all_by_three"=some (some (.ref f11))) (l11:K.lookup f11=some ⟨oc11,od11,.func (W.fnOf "all_by_three" "all_by_three" (zX xa) (zT xa) (zi xa) .none kV11 doc11 pm11 an11 cdv11 ct11),osl11⟩) (c11:W.codeIn K cdv11 "all_by_three"=true) (k11:W.keepIn K (.ref f11)=true)
  (a12:W.nsIn K mainGlobals "kinds_by_ends"=some (some (.ref f12))) (l12:K.lookup f12=some ⟨oc12,od12,.func (W.fnOf "kinds_by_ends" "kinds_by_ends" (zX yN) (zT yN) (zi yN) .none kV12 doc12 pm12 an12 cdv12 ct12),osl12⟩) (c12:W.codeIn K cdv12 "kinds_by_ends"=true) (k12:W.keepIn K (.ref f12)=true)
  (a13:W.nsIn K mainGlobals "kind_of"=some (some (.ref f13))) (l13:K.lookup f13=some ⟨oc13,od13,.func (W.fnOf "kind_of" "kind_of" (zX vx) (zT vx) (zi vx) .none kV13 doc13 pm13 an13 cdv13 ct13),osl13⟩) (c13:W.codeIn K cdv13 "kind_of"=true) (k13:W.keepIn K (.ref f13)=true)
  (a14:W.nsIn K mainGlobals "kinds"=some (some (.ref f14))) (l14:K.lookup f14=some ⟨oc14,od14,.func (W.fnOf "kinds" "kinds" (zX q9) (zT q9) (zi q9) .none kV14 doc14 pm14 an14 cdv14 ct14),osl14⟩) (c14:W.codeIn K cdv14 "kinds"=true) (k14:W.keepIn K (.ref f14)=true)
  (a15:W.nsIn K mainGlobals "endless"=some (some (.ref f15))) (l15:K.lookup f15=some ⟨oc15,od15,.func (W.fnOf "endless" "endless" (zX vz) (zT vz) (zi vz) .none kV15 doc15 pm15 an15 cdv15 ct15),osl15⟩) (c15:W.codeIn K cdv15 "endless"=true) (k15:W.keepIn K (.ref f15)=true)
  (a16:W.nsIn K mainGlobals "degrees_of_kind"=some (some (.ref f16))) (l16:K.lookup f16=some ⟨oc16,od16,.func (W.fnOf "degrees_of_kind" "degrees_of_kind" (zX yt) (zT yt) (zi yt) .none kV16 doc16 pm16 an16 cdv16 ct16),osl16⟩) (c16:W.codeIn K cdv16 "degrees_of_kind"=true) (k16:W.keepIn K (.ref f16)=true)
  (a17:W.nsIn K mainGlobals "degrees"=some (some (.ref f17))) (l17:K.lookup f17=some ⟨oc17,od17,.func (W.fnOf "degrees" "degrees" (zX vA) (zT vA) (zi vA) .none kV17 doc17 pm17 an17 cdv17 ct17),osl17⟩) (c17:W.codeIn K cdv17 "degrees"=true) (k17:W.keepIn K (.ref f17)=true)
  (a18:W.nsIn K mainGlobals "_law_at"=some (some (.ref f18))) (l18:K.lookup f18=some ⟨oc18,od18,.func (W.fnOf "_law_at" "_law_at" (zX ZI) (zT ZI) (zi ZI) .none kV18 doc18 pm18 an18 cdv18 ct18),osl18⟩) (c18:W.codeIn K cdv18 "_law_at"=true) (k18:W.keepIn K (.ref f18)=true)
  (a19:W.nsIn K mainGlobals "_law_mix"=some (some (.ref f19))) (l19:K.lookup f19=some ⟨oc19,od19,.func (W.fnOf "_law_mix" "_law_mix" (zX qZ) (zT qZ) (zi qZ) .none kV19 doc19 pm19 an19 cdv19 ct19),osl19⟩) (c19:W.codeIn K cdv19 "_law_mix"=true) (k19:W.keepIn K (.ref f19)=true)
  (a20:W.nsIn K mainGlobals "_law_house"=some (some (.ref f20))) (l20:K.lookup f20=some ⟨oc20,od20,.func (W.fnOf "_law_house" "_law_house" (zX vw) (zT vw) (zi vw) .none kV20 doc20 pm20 an20 cdv20 ct20),osl20⟩) (c20:W.codeIn K cdv20 "_law_house"=true) (k20:W.keepIn K (.ref f20)=true)
  (a21:W.nsIn K mainGlobals "_law_turn"=some (some (.ref f21))) (l21:K.lookup f21=some ⟨oc21,od21,.func (W.fnOf "_law_turn" "_law_turn" (zX uK) (zT uK) (zi uK) .none kV21 doc21 pm21 an21 cdv21 ct21),osl21⟩) (c21:W.codeIn K cdv21 "_law_turn"=true) (k21:W.keepIn K (.ref f21)=true)
  (a22:W.nsIn K mainGlobals "_law_pull"=some (some (.ref f22))) (l22:K.lookup f22=some ⟨oc22,od22,.func (W.fnOf "_law_pull" "_law_pull" (zX uM) (zT uM) (zi uM) .none kV22 doc22 pm22 an22 cdv22 ct22),osl22⟩) (c22:W.codeIn K cdv22 "_law_pull"=true) (k22:W.keepIn K (.ref f22)=true)
  (a23:W.nsIn K mainGlobals "_law_pulls"=some (some (.ref f23))) (l23:K.lookup f23=some ⟨oc23,od23,.func (W.fnOf "_law_pulls" "_law_pulls" (zX vq) (zT vq) (zi vq) .none kV23 doc23 pm23 an23 cdv23 ct23),osl23⟩) (c23:W.codeIn K cdv23 "_law_pulls"=true) (k23:W.keepIn K (.ref f23)=true)
  (a24:W.nsIn K mainGlobals "_law_times"=some (some (.ref f24))) (l24:K.lookup f24=some ⟨oc24,od24,.func (W.fnOf "_law_times" "_law_times" (zX vo) (zT vo) (zi vo) .none kV24 doc24 pm24 an24 cdv24 ct24),osl24⟩) (c24:W.codeIn K cdv24 "_law_times"=true) (k24:W.keepIn K (.ref f24)=true)
  (a25:W.nsIn K mainGlobals "_law_mirrored"=some (some (.ref f25))) (l25:K.lookup f25=some ⟨oc25,od25,.func (W.fnOf "_law_mirrored" "_law_mirrored" (zX xG) (zT xG) (zi xG) .none kV25 doc25 pm25 an25 cdv25 ct25),osl25⟩) (c25:W.codeIn K cdv25 "_law_mirrored"=true) (k25:W.keepIn K (.ref f25)=true)
  (a26:W.nsIn K mainGlobals "_law_sign"=some (some (.ref f26))) (l26:K.lookup f26=some ⟨oc26,od26,.func (W.fnOf "_law_sign" "_law_sign" (zX uL) (zT uL) (zi uL) .none kV26 doc26 pm26 an26 cdv26 ct26),osl26⟩) (c26:W.codeIn K cdv26 "_law_sign"=true) (k26:W.keepIn K (.ref f26)=true)
  (a27:W.nsIn K mainGlobals "_law_come"=some (some (.ref f27))) (l27:K.lookup f27=some ⟨oc27,od27,.func (W.fnOf "_law_come" "_law_come" (zX uN) (zT uN) (zi uN) .none kV27 doc27 pm27 an27 cdv27 ct27),osl27⟩) (c27:W.codeIn K cdv27 "_law_come"=true) (k27:W.keepIn K (.ref f27)=true)
  (a28:W.nsIn K mainGlobals "_law_roots"=some (some (.ref f28))) (l28:K.lookup f28=some ⟨oc28,od28,.func (W.fnOf "_law_roots" "_law_roots" (zX vp) (zT vp) (zi vp) .none kV28 doc28 pm28 an28 cdv28 ct28),osl28⟩) (c28:W.codeIn K cdv28 "_law_roots"=true) (k28:W.keepIn K (.ref f28)=true)
  (a29:W.nsIn K mainGlobals "law"=some (some (.ref f29))) (l29:K.lookup f29=some ⟨oc29,od29,.func (W.fnOf "law" "law" (zX Yl) (zT Yl) (zi Yl) .none kV29 doc29 pm29 an29 cdv29 ct29),osl29⟩) (c29:W.codeIn K cdv29 "law"=true) (k29:W.keepIn K (.ref f29)=true)
  (b_abs:W.nsIn K mainGlobals "abs"=some none)
  (b_all:W.nsIn K mainGlobals "all"=some none)
  (b_enumerate:W.nsIn K mainGlobals "enumerate"=some none)
  (b_int:W.nsIn K mainGlobals "int"=some none)
  (b_len:W.nsIn K mainGlobals "len"=some none)
  (b_list:W.nsIn K mainGlobals "list"=some none)
  (b_max:W.nsIn K mainGlobals "max"=some none)
  (b_min:W.nsIn K mainGlobals "min"=some none)
  (b_range:W.nsIn K mainGlobals "range"=some none)
  (b_sorted:W.nsIn K mainGlobals "sorted"=some none)
  (b_sum:W.nsIn K mainGlobals "sum"=some none)
  (b_tuple:W.nsIn K mainGlobals "tuple"=some none)
  (b_zip:W.nsIn K mainGlobals "zip"=some none)
  (q_COMMON_TURN:W.nsIn K mainGlobals "COMMON_TURN"=some (some (.int 3 t_COMMON_TURN)))
  (q_NOT_TOLD:W.nsIn K mainGlobals "NOT_TOLD"=some (some (.int 2 t_NOT_TOLD)))
  (q_NO_KIND:W.nsIn K mainGlobals "NO_KIND"=some (some (.str "-" t_NO_KIND)))
  (q_RARE_CHAINS:W.nsIn K mainGlobals "RARE_CHAINS"=some (some (.ref da_RARE_CHAINS)))
  (r_RARE_CHAINS:K.lookup da_RARE_CHAINS=some ⟨.type "dict",none,.dict #[⟨hh_RARE_CHAINS_0,.ref ta_RARE_CHAINS_0,.str "f4" vt_RARE_CHAINS_0⟩,⟨hh_RARE_CHAINS_1,.ref ta_RARE_CHAINS_1,.str "h3" vt_RARE_CHAINS_1⟩,⟨hh_RARE_CHAINS_2,.ref ta_RARE_CHAINS_2,.str "h4" vt_RARE_CHAINS_2⟩,⟨hh_RARE_CHAINS_3,.ref ta_RARE_CHAINS_3,.str "i5" vt_RARE_CHAINS_3⟩,⟨hh_RARE_CHAINS_4,.ref ta_RARE_CHAINS_4,.str "i6" vt_RARE_CHAINS_4⟩] ep_RARE_CHAINS,#[]⟩)
  (r_RARE_CHAINS_0:K.lookup ta_RARE_CHAINS_0=some ⟨.type "tuple",od_RARE_CHAINS_0,.seq #[.int 3 tk_RARE_CHAINS_0_0,.int 4 tk_RARE_CHAINS_0_1,.int 3 tk_RARE_CHAINS_0_2] n_RARE_CHAINS_0,osl_RARE_CHAINS_0⟩)
  (r_RARE_CHAINS_1:K.lookup ta_RARE_CHAINS_1=some ⟨.type "tuple",od_RARE_CHAINS_1,.seq #[.int 3 tk_RARE_CHAINS_1_0,.int 5 tk_RARE_CHAINS_1_1] n_RARE_CHAINS_1,osl_RARE_CHAINS_1⟩)
  (r_RARE_CHAINS_2:K.lookup ta_RARE_CHAINS_2=some ⟨.type "tuple",od_RARE_CHAINS_2,.seq #[.int 3 tk_RARE_CHAINS_2_0,.int 3 tk_RARE_CHAINS_2_1,.int 5 tk_RARE_CHAINS_2_2] n_RARE_CHAINS_2,osl_RARE_CHAINS_2⟩)
  (r_RARE_CHAINS_3:K.lookup ta_RARE_CHAINS_3=some ⟨.type "tuple",od_RARE_CHAINS_3,.seq #[.int 5 tk_RARE_CHAINS_3_0] n_RARE_CHAINS_3,osl_RARE_CHAINS_3⟩)
  (r_RARE_CHAINS_4:K.lookup ta_RARE_CHAINS_4=some ⟨.type "tuple",od_RARE_CHAINS_4,.seq #[.int 6 tk_RARE_CHAINS_4_0] n_RARE_CHAINS_4,osl_RARE_CHAINS_4⟩)
  (kr_y_RARE_CHAINS:(da_RARE_CHAINS==sysModules)=false)
  (kr_z_RARE_CHAINS_0:UM [3,4,3]=hh_RARE_CHAINS_0)
  (kr_z_RARE_CHAINS_1:UM [3,5]=hh_RARE_CHAINS_1)
  (kr_z_RARE_CHAINS_2:UM [3,3,5]=hh_RARE_CHAINS_2)
  (kr_z_RARE_CHAINS_3:UM [5]=hh_RARE_CHAINS_3)
  (kr_z_RARE_CHAINS_4:UM [6]=hh_RARE_CHAINS_4)
  (q_RARE_DEGREES:W.nsIn K mainGlobals "RARE_DEGREES"=some (some (.ref da_RARE_DEGREES)))
  (r_RARE_DEGREES:K.lookup da_RARE_DEGREES=some ⟨.type "dict",none,.dict #[⟨hh_RARE_DEGREES_0,.str "e6" kk_RARE_DEGREES_0,.ref ta_RARE_DEGREES_0⟩,⟨hh_RARE_DEGREES_1,.str "f4" kk_RARE_DEGREES_1,.ref ta_RARE_DEGREES_1⟩,⟨hh_RARE_DEGREES_2,.str "h3" kk_RARE_DEGREES_2,.ref ta_RARE_DEGREES_2⟩,⟨hh_RARE_DEGREES_3,.str "h4" kk_RARE_DEGREES_3,.ref ta_RARE_DEGREES_3⟩,⟨hh_RARE_DEGREES_4,.str "i5" kk_RARE_DEGREES_4,.ref ta_RARE_DEGREES_4⟩,⟨hh_RARE_DEGREES_5,.str "i6" kk_RARE_DEGREES_5,.ref ta_RARE_DEGREES_5⟩] ep_RARE_DEGREES,#[]⟩)
  (r_RARE_DEGREES_0:K.lookup ta_RARE_DEGREES_0=some ⟨.type "tuple",od_RARE_DEGREES_0,.seq #[.int 2 tk_RARE_DEGREES_0_0,.int 5 tk_RARE_DEGREES_0_1,.int 6 tk_RARE_DEGREES_0_2,.int 8 tk_RARE_DEGREES_0_3,.int 9 tk_RARE_DEGREES_0_4,.int 12 tk_RARE_DEGREES_0_5] n_RARE_DEGREES_0,osl_RARE_DEGREES_0⟩)
  (r_RARE_DEGREES_1:K.lookup ta_RARE_DEGREES_1=some ⟨.type "tuple",od_RARE_DEGREES_1,.seq #[.int 2 tk_RARE_DEGREES_1_0,.int 6 tk_RARE_DEGREES_1_1,.int 8 tk_RARE_DEGREES_1_2,.int 12 tk_RARE_DEGREES_1_3] n_RARE_DEGREES_1,osl_RARE_DEGREES_1⟩)
  (r_RARE_DEGREES_2:K.lookup ta_RARE_DEGREES_2=some ⟨.type "tuple",od_RARE_DEGREES_2,.seq #[.int 2 tk_RARE_DEGREES_2_0,.int 6 tk_RARE_DEGREES_2_1,.int 10 tk_RARE_DEGREES_2_2] n_RARE_DEGREES_2,osl_RARE_DEGREES_2⟩)
  (r_RARE_DEGREES_3:K.lookup ta_RARE_DEGREES_3=some ⟨.type "tuple",od_RARE_DEGREES_3,.seq #[.int 2 tk_RARE_DEGREES_3_0,.int 12 tk_RARE_DEGREES_3_1,.int 20 tk_RARE_DEGREES_3_2,.int 30 tk_RARE_DEGREES_3_3] n_RARE_DEGREES_3,osl_RARE_DEGREES_3⟩)
  (r_RARE_DEGREES_4:K.lookup ta_RARE_DEGREES_4=some ⟨.type "tuple",od_RARE_DEGREES_4,.seq #[.int 2 tk_RARE_DEGREES_4_0,.int 5 tk_RARE_DEGREES_4_1] n_RARE_DEGREES_4,osl_RARE_DEGREES_4⟩)
  (r_RARE_DEGREES_5:K.lookup ta_RARE_DEGREES_5=some ⟨.type "tuple",od_RARE_DEGREES_5,.seq #[.int 2 tk_RARE_DEGREES_5_0,.int 6 tk_RARE_DEGREES_5_1] n_RARE_DEGREES_5,osl_RARE_DEGREES_5⟩)
  (kr_y_RARE_DEGREES:(da_RARE_DEGREES==sysModules)=false)
  (kr_z_RARE_DEGREES_0:hashStr w "e6"=hh_RARE_DEGREES_0)
  (kr_z_RARE_DEGREES_1:hashStr w "f4"=hh_RARE_DEGREES_1)
  (kr_z_RARE_DEGREES_2:hashStr w "h3"=hh_RARE_DEGREES_2)
  (kr_z_RARE_DEGREES_3:hashStr w "h4"=hh_RARE_DEGREES_3)
  (kr_z_RARE_DEGREES_4:hashStr w "i5"=hh_RARE_DEGREES_4)
  (kr_z_RARE_DEGREES_5:hashStr w "i6"=hh_RARE_DEGREES_5)
  : ∃ fd:FuncData,(∀ (s:Shared) (v:Value),BindsTo s fd ⟨[v],[]⟩ [("_law_script",v)])/\∀ base:Heap,K.In base->base.Ns mainGlobals mg->FnOk l.prog w K mg base CX0 10 fa fd ["_law_script"] (spF K 1 g_law):=by
 have e:=hfa.symm.trans (W.mg_of X G a29)
 cases e
 have T:Txt w K mg:=⟨trivial,W.mg_none_of X G b_abs,W.mg_none_of X G b_all,W.mg_none_of X G b_enumerate,W.mg_none_of X G b_int,W.mg_none_of X G b_len,W.mg_none_of X G b_list,W.mg_none_of X G b_max,W.mg_none_of X G b_min,W.mg_none_of X G b_range,W.mg_none_of X G b_sorted,W.mg_none_of X G b_sum,W.mg_none_of X G b_tuple,W.mg_none_of X G b_zip,⟨_,W.mg_of X G q_COMMON_TURN⟩,⟨_,W.mg_of X G q_NOT_TOLD⟩,⟨_,W.mg_of X G q_NO_KIND⟩,Jg (W.mg_of X G q_RARE_CHAINS) r_RARE_CHAINS kr_y_RARE_CHAINS (.cons (ks:=[3,4,3]) (v:=.str "f4") kr_z_RARE_CHAINS_0 r_RARE_CHAINS_0 (.cons ⟨_,rfl⟩ (.cons ⟨_,rfl⟩ (.cons ⟨_,rfl⟩ .nil))) ⟨_,rfl⟩ (Has.str_iff.mpr rfl) (.cons (ks:=[3,5]) (v:=.str "h3") kr_z_RARE_CHAINS_1 r_RARE_CHAINS_1 (.cons ⟨_,rfl⟩ (.cons ⟨_,rfl⟩ .nil)) ⟨_,rfl⟩ (Has.str_iff.mpr rfl) (.cons (ks:=[3,3,5]) (v:=.str "h4") kr_z_RARE_CHAINS_2 r_RARE_CHAINS_2 (.cons ⟨_,rfl⟩ (.cons ⟨_,rfl⟩ (.cons ⟨_,rfl⟩ .nil))) ⟨_,rfl⟩ (Has.str_iff.mpr rfl) (.cons (ks:=[5]) (v:=.str "i5") kr_z_RARE_CHAINS_3 r_RARE_CHAINS_3 (.cons ⟨_,rfl⟩ .nil) ⟨_,rfl⟩ (Has.str_iff.mpr rfl) (.cons (ks:=[6]) (v:=.str "i6") kr_z_RARE_CHAINS_4 r_RARE_CHAINS_4 (.cons ⟨_,rfl⟩ .nil) ⟨_,rfl⟩ (Has.str_iff.mpr rfl) .nil))))) (by decide),Jh (W.mg_of X G q_RARE_DEGREES) r_RARE_DEGREES kr_y_RARE_DEGREES (.cons (v:=.ref _) kr_z_RARE_DEGREES_0 rfl (uS (xs:=[.int 2,.int 5,.int 6,.int 8,.int 9,.int 12]) r_RARE_DEGREES_0 (show 6<=sizeLine from by decide) (.cons ⟨_,rfl⟩ (.cons ⟨_,rfl⟩ (.cons ⟨_,rfl⟩ (.cons ⟨_,rfl⟩ (.cons ⟨_,rfl⟩ (.cons ⟨_,rfl⟩ .nil)))))) (.cons (Has.int_iff.mpr rfl) (.cons (Has.int_iff.mpr rfl) (.cons (Has.int_iff.mpr rfl) (.cons (Has.int_iff.mpr rfl) (.cons (Has.int_iff.mpr rfl) (.cons (Has.int_iff.mpr rfl) .nil))))))) (.cons (v:=.ref _) kr_z_RARE_DEGREES_1 rfl (uS (xs:=[.int 2,.int 6,.int 8,.int 12]) r_RARE_DEGREES_1 (show 4<=sizeLine from by decide) (.cons ⟨_,rfl⟩ (.cons ⟨_,rfl⟩ (.cons ⟨_,rfl⟩ (.cons ⟨_,rfl⟩ .nil)))) (.cons (Has.int_iff.mpr rfl) (.cons (Has.int_iff.mpr rfl) (.cons (Has.int_iff.mpr rfl) (.cons (Has.int_iff.mpr rfl) .nil))))) (.cons (v:=.ref _) kr_z_RARE_DEGREES_2 rfl (uS (xs:=[.int 2,.int 6,.int 10]) r_RARE_DEGREES_2 (show 3<=sizeLine from by decide) (.cons ⟨_,rfl⟩ (.cons ⟨_,rfl⟩ (.cons ⟨_,rfl⟩ .nil))) (.cons (Has.int_iff.mpr rfl) (.cons (Has.int_iff.mpr rfl) (.cons (Has.int_iff.mpr rfl) .nil)))) (.cons (v:=.ref _) kr_z_RARE_DEGREES_3 rfl (uS (xs:=[.int 2,.int 12,.int 20,.int 30]) r_RARE_DEGREES_3 (show 4<=sizeLine from by decide) (.cons ⟨_,rfl⟩ (.cons ⟨_,rfl⟩ (.cons ⟨_,rfl⟩ (.cons ⟨_,rfl⟩ .nil)))) (.cons (Has.int_iff.mpr rfl) (.cons (Has.int_iff.mpr rfl) (.cons (Has.int_iff.mpr rfl) (.cons (Has.int_iff.mpr rfl) .nil))))) (.cons (v:=.ref _) kr_z_RARE_DEGREES_4 rfl (uS (xs:=[.int 2,.int 5]) r_RARE_DEGREES_4 (show 2<=sizeLine from by decide) (.cons ⟨_,rfl⟩ (.cons ⟨_,rfl⟩ .nil)) (.cons (Has.int_iff.mpr rfl) (.cons (Has.int_iff.mpr rfl) .nil))) (.cons (v:=.ref _) kr_z_RARE_DEGREES_5 rfl (uS (xs:=[.int 2,.int 6]) r_RARE_DEGREES_5 (show 2<=sizeLine from by decide) (.cons ⟨_,rfl⟩ (.cons ⟨_,rfl⟩ .nil)) (.cons (Has.int_iff.mpr rfl) (.cons (Has.int_iff.mpr rfl) .nil))) .nil)))))) (by decide +kernel)⟩
 have F0:=yC (st:=vk) l0 c0 k0
 have B0:=F0.binds (ps:=["house","i","j"]) fun _ _ _ _ _ _=>DF (fun _ _ _=>rfl)
 have F1:=yC (st:=xF) l1 c1 k1
 have B1:=F1.binds (ps:=["house","mirror","others"]) fun _ _ _ _ _ _=>DF (fun _ _ _=>rfl)
 have F2:=yC (st:=vj) l2 c2 k2
 have B2:=F2.binds (ps:=["mirrors","mirror"]) fun _ _ _ _ _ _=>X5 (fun _ _=>rfl)
 have F3:=yC (st:=vm) l3 c3 k3
 have B3:=F3.binds (ps:=["house","mirror"]) fun _ _ _ _ _ _=>X5 (fun _ _=>rfl)
 have F4:=yC (st:=qY) l4 c4 k4
 have B4:=F4.binds (ps:=["house"]) fun _ _ _ _ _ _=>Hb (fun _=>rfl)
 have F5:=yC (st:=xH) l5 c5 k5
 have B5:=F5.binds (ps:=["house","mirrors","first"]) fun _ _ _ _ _ _=>DF (fun _ _ _=>rfl)
 have F6:=yC (st:=uO) l6 c6 k6
 have B6:=F6.binds (ps:=["house","mirrors"]) fun _ _ _ _ _ _=>X5 (fun _ _=>rfl)
 have F7:=yC (st:=xl) l7 c7 k7
 have B7:=F7.binds (ps:=["house","order"]) fun _ _ _ _ _ _=>X5 (fun _ _=>rfl)
 have F8:=yC (st:=yO) l8 c8 k8
 have B8:=F8.binds (ps:=["turns"]) fun _ _ _ _ _ _=>Hb (fun _=>rfl)
 have F9:=yC (st:=z5) l9 c9 k9
 have B9:=F9.binds (ps:=["order","mirror"]) fun _ _ _ _ _ _=>X5 (fun _ _=>rfl)
 have F10:=yC (st:=yq) l10 c10 k10
 have B10:=F10.binds (ps:=["house","part"]) fun _ _ _ _ _ _=>X5 (fun _ _=>rfl)
 have F11:=yC (st:=xa) l11 c11 k11
 have B11:=F11.binds (ps:=["house","part"]) fun _ _ _ _ _ _=>X5 (fun _ _=>rfl)
 have F12:=yC (st:=yN) l12 c12 k12
 have B12:=F12.binds (ps:=["house","part"]) fun _ _ _ _ _ _=>X5 (fun _ _=>rfl)
 have F13:=yC (st:=vx) l13 c13 k13
 have B13:=F13.binds (ps:=["house","part"]) fun _ _ _ _ _ _=>X5 (fun _ _=>rfl)
 have F14:=yC (st:=q9) l14 c14 k14
 have B14:=F14.binds (ps:=["house"]) fun _ _ _ _ _ _=>Hb (fun _=>rfl)
 have F15:=yC (st:=vz) l15 c15 k15
 have B15:=F15.binds (ps:=["house"]) fun _ _ _ _ _ _=>Hb (fun _=>rfl)
 have F16:=yC (st:=yt) l16 c16 k16
 have B16:=F16.binds (ps:=["kind","mirrors"]) fun _ _ _ _ _ _=>X5 (fun _ _=>rfl)
 have F17:=yC (st:=vA) l17 c17 k17
 have B17:=F17.binds (ps:=["house"]) fun _ _ _ _ _ _=>Hb (fun _=>rfl)
 have F18:=yC (st:=ZI) l18 c18 k18
 have B18:=F18.binds (ps:=["_law_script","_law_k"]) fun _ _ _ _ _ _=>X5 (fun _ _=>rfl)
 have F19:=yC (st:=qZ) l19 c19 k19
 have B19:=F19.binds (ps:=["_law_number","_law_place"]) fun _ _ _ _ _ _=>X5 (fun _ _=>rfl)
 have F20:=yC (st:=vw) l20 c20 k20
 have B20:=F20.binds (ps:=["_law_script","_law_start"]) fun _ _ _ _ _ _=>X5 (fun _ _=>rfl)
 have F21:=yC (st:=uK) l21 c21 k21
 have B21:=F21.binds (ps:=["_law_house_here","_law_i","_law_j"]) fun _ _ _ _ _ _=>DF (fun _ _ _=>rfl)
 have F22:=yC (st:=uM) l22 c22 k22
 have B22:=F22.binds (ps:=["_law_house_here","_law_i","_law_j"]) fun _ _ _ _ _ _=>DF (fun _ _ _=>rfl)
 have F23:=yC (st:=vq) l23 c23 k23
 have B23:=F23.binds (ps:=["_law_house_here"]) fun _ _ _ _ _ _=>Hb (fun _=>rfl)
 have F24:=yC (st:=vo) l24 c24 k24
 have B24:=F24.binds (ps:=["_law_x","_law_y"]) fun _ _ _ _ _ _=>X5 (fun _ _=>rfl)
 have F25:=yC (st:=xG) l25 c25 k25
 have B25:=F25.binds (ps:=["_law_pulls_here","_law_i","_law_row"]) fun _ _ _ _ _ _=>DF (fun _ _ _=>rfl)
 have F26:=yC (st:=uL) l26 c26 k26
 have B26:=F26.binds (ps:=["_law_x"]) fun _ _ _ _ _ _=>Hb (fun _=>rfl)
 have F27:=yC (st:=uN) l27 c27 k27
 have B27:=F27.binds (ps:=["_law_house_here","_law_mirror"]) fun _ _ _ _ _ _=>X5 (fun _ _=>rfl)
 have F28:=yC (st:=vp) l28 c28 k28
 have B28:=F28.binds (ps:=["_law_house_here","_law_part"]) fun _ _ _ _ _ _=>X5 (fun _ _=>rfl)
 have F29:=yC (st:=Yl) l29 c29 k29
 have B29:=F29.binds (ps:=["_law_script"]) fun _ _ _ _ _ _=>Hb (fun _=>rfl)
 refine ⟨W.fnOf "law" "law" (zX Yl) (zT Yl) (zi Yl) .none kV29 doc29 pm29 an29 cdv29 ct29,fun s v=>.of_eq rfl,fun base _ _=>?_⟩
 have H0:HasFn l.prog w K mg base 1 "turn_of" 3 xv:=⟨⟨_,_,_,Up F0 T ,W.mg_of X G a0,k0,B0⟩⟩
 have H1:HasFn l.prog w K mg base 2 "neighbours" 3 zW:=⟨⟨_,_,_,Yp F1 T H0,W.mg_of X G a1,k1,B1⟩⟩
 have H2:HasFn l.prog w K mg base 1 "without" 2 yR:=⟨⟨_,_,_,Uo F2 T ,W.mg_of X G a2,k2,B2⟩⟩
 have H3:HasFn l.prog w K mg base 3 "part_of" 2 wQ:=⟨⟨_,_,_,Uq F3 T H1 H2,W.mg_of X G a3,k3,B3⟩⟩
 have H4:HasFn l.prog w K mg base 4 "parts" 1 ji:=⟨⟨_,_,_,K9 F4 T H3,W.mg_of X G a4,k4,B4⟩⟩
 have H5:HasFn l.prog w K mg base 3 "chain_from" 3 yV:=⟨⟨_,_,_,Yr F5 T H1 H2,W.mg_of X G a5,k5,B5⟩⟩
 have H6:HasFn l.prog w K mg base 4 "chains" 2 wF:=⟨⟨_,_,_,QF F6 T H5,W.mg_of X G a6,k6,B6⟩⟩
 have H7:HasFn l.prog w K mg base 2 "turns_along" 2 yY:=⟨⟨_,_,_,Zu F7 T H0,W.mg_of X G a7,k7,B7⟩⟩
 have H8:HasFn l.prog w K mg base 1 "kind_of_chain" 1 yi:=⟨⟨_,_,_,jF F8 T ,W.mg_of X G a8,k8,B8⟩⟩
 have H9:HasFn l.prog w K mg base 1 "kind_with_one_beside" 2 zD:=⟨⟨_,_,_,vV F9 T ,W.mg_of X G a9,k9,B9⟩⟩
 have H10:HasFn l.prog w K mg base 5 "kinds_by_chains" 2 yv:=⟨⟨_,_,_,qv F10 T H6 H8 H7,W.mg_of X G a10,k10,B10⟩⟩
 have H11:HasFn l.prog w K mg base 1 "all_by_three" 2 yp:=⟨⟨_,_,_,km F11 T ,W.mg_of X G a11,k11,B11⟩⟩
 have H12:HasFn l.prog w K mg base 5 "kinds_by_ends" 2 yy:=⟨⟨_,_,_,jE F12 T H11 H6 H9 H1 H2,W.mg_of X G a12,k12,B12⟩⟩
 have H13:HasFn l.prog w K mg base 6 "kind_of" 2 xx:=⟨⟨_,_,_,Uv F13 T H10 H12,W.mg_of X G a13,k13,B13⟩⟩
 have H14:HasFn l.prog w K mg base 7 "kinds" 1 wy:=⟨⟨_,_,_,Gb F14 T H13 H4,W.mg_of X G a14,k14,B14⟩⟩
 have H15:HasFn l.prog w K mg base 8 "endless" 1 vL:=⟨⟨_,_,_,Uw F15 T H14,W.mg_of X G a15,k15,B15⟩⟩
 have H16:HasFn l.prog w K mg base 1 "degrees_of_kind" 2 zt:=⟨⟨_,_,_,qw F16 T ,W.mg_of X G a16,k16,B16⟩⟩
 have H17:HasFn l.prog w K mg base 9 "degrees" 1 vM:=⟨⟨_,_,_,Ux F17 T H16 H15 H14,W.mg_of X G a17,k17,B17⟩⟩
 have H18:HasFn l.prog w K mg base 1 "_law_at" 2 jz:=⟨⟨_,_,_,Ci F18 T ,W.mg_of X G a18,k18,B18⟩⟩
 have H19:HasFn l.prog w K mg base 1 "_law_mix" 2 wU:=⟨⟨_,_,_,Ga F19 T ,W.mg_of X G a19,k19,B19⟩⟩
 have H20:HasFn l.prog w K mg base 2 "_law_house" 2 vK:=⟨⟨_,_,_,Uu F20 T H18 H19,W.mg_of X G a20,k20,B20⟩⟩
 have H21:HasFn l.prog w K mg base 1 "_law_turn" 3 wC:=⟨⟨_,_,_,QB F21 T ,W.mg_of X G a21,k21,B21⟩⟩
 have H22:HasFn l.prog w K mg base 2 "_law_pull" 3 wD:=⟨⟨_,_,_,QD F22 T H21,W.mg_of X G a22,k22,B22⟩⟩
 have H23:HasFn l.prog w K mg base 3 "_law_pulls" 1 vJ:=⟨⟨_,_,_,Ut F23 T H22,W.mg_of X G a23,k23,B23⟩⟩
 have H24:HasFn l.prog w K mg base 1 "_law_times" 2 wR:=⟨⟨_,_,_,Ur F24 T ,W.mg_of X G a24,k24,B24⟩⟩
 have H25:HasFn l.prog w K mg base 2 "_law_mirrored" 3 xi:=⟨⟨_,_,_,Yq F25 T H24,W.mg_of X G a25,k25,B25⟩⟩
 have H26:HasFn l.prog w K mg base 1 "_law_sign" 1 yZ:=⟨⟨_,_,_,QC F26 T ,W.mg_of X G a26,k26,B26⟩⟩
 have H27:HasFn l.prog w K mg base 2 "_law_come" 2 vZ:=⟨⟨_,_,_,QE F27 T H21,W.mg_of X G a27,k27,B27⟩⟩
 have H28:HasFn l.prog w K mg base 4 "_law_roots" 2 xw:=⟨⟨_,_,_,Us F28 T H25 H23 H26,W.mg_of X G a28,k28,B28⟩⟩
 exact FR F29 T H27 H20 H28 H17 H14
open GH
theorem ix0 {x:D} {l:List D}:ixD (.tup (x :: l)) (.int 0)=some x:=by simp [ixD,atI,ixN]
theorem ix1 {x y:D} {l:List D}:ixD (.tup (x :: y :: l)) (.int 1)=some y:=by
 have h:=uD (xs:=x :: y :: l) (j:=1) (v:=y) rfl
 exact h
theorem Nd (ns:List Int) (k:Nat) (hk:k<=100):∃ c:Int,jz [.lst (ns.map D.int),.int k]=some (.int c):=by
 by_cases h:k < ns.length
 ·have e:ixD (.lst (ns.map D.int)) (.int (k:Int))=some (.int (ns.getD k 0)):=uD (by simp [g0d,h])
  have h':(k:Int) < (ns.length:Int):=by omega
  exact ⟨ns.getD k 0,by simp [jz,V4,h',e]⟩
 ·have h':¬ ((k:Int) < (ns.length:Int)):=by omega
  have m:uY (.int 17) (.int (k:Int))=some (.int (17 * k)):=wL (vW (by decide) (by decide))
  exact ⟨17 * k+9,by simp [jz,V4,h',m]⟩
theorem Vm (k:Int) (s3:Slot):∀ (l:List D) (c:Int) (s2:Slot),∃ (c':Int) (s2':Slot),yd (zB 2) (yL 0 (zb Zx (vF 0) (cF (.int 2147483648)))) l [.fr (.int c),.fr (.int k),s2,s3]=some (.nx [.fr (.int c'),.fr (.int k),s2',s3])
 | [],c,s2=>⟨c,s2,rfl⟩
 | d :: l,c,s2=>by
  obtain ⟨c',s2',e⟩:=Vm k s3 l (c / 2147483648) (.fr d)
  refine ⟨c',s2',?_⟩
  have f:=jW (i:=c) (show (0:Int) < 2147483648 by decide) (by decide)
  unfold yd
  simp only [xn,g0b,g0k,g0j,ym,zr,yB,xZ,g0a,g0c,f]
  exact e
theorem QO (c:Int) (k:Nat) (hk:k<=1000):∃ z:Int,0<=z/\z < 2147483648/\wU [.int c,.int k]=some (.int z):=by
 have p12:Dv (.int 10) (.int 12)=some (.int (10 ^ 12)):=BK ⟨by decide,by decide,Vn (k:=8) (by decide) (by decide)⟩
 by_cases hc:(10:Int) ^ 12<=c
 ·have f12:=jW (i:=c) (show (0:Int) < 10 ^ 12 by decide) (by decide)
  have md:=vd (i:=(k:Int)) (show (0:Int) < 61 by decide)
  have ra:uu [.int ((k:Int) % 61)]=some (wz 0 ((k:Int) % 61)):=wJ (by omega) (by omega)
  obtain ⟨c',s2',e⟩:=Vm (k:Int) .no (wz 0 ((k:Int) % 61)) (c / 10 ^ 12 - 1) .no
  have md2:=vd (i:=c') (show (0:Int) < 2147483648 by decide)
  refine ⟨c' % 2147483648,by omega,by omega,?_⟩
  simp only [wU,YT,yK,zV,g0h,g1b,g0e,g0n,Nat.reduceAdd,Nat.reduceSub,g0l,g0u,g0r,zx,xJ,xB,zr,yB,xZ,g0a,g0c,g0b,p12,PN,hc,decide_true,if_true,ym,f12,Bp,g0j,g0k,vy,kb,zo,zu,md,ra]
  rw [e]
  simp only [g0b,yJ,zr,yB,xZ,g0a,md2,xf]
 ·have h0:(0:Int)<=(k:Int) * k:=Int.mul_nonneg (by omega) (by omega)
  have h1:(k:Int) * k<=1000 * 1000:=Int.mul_le_mul (by omega) (by omega) (by omega) (by omega)
  have m1:uY (.int 8) (.int (k:Int))=_:=wL (vW (by omega) (by omega))
  have m2:uY (.int (8 * (k:Int))) (.int (k:Int))=_:=wL (vW (by omega) (by omega))
  have m3:∀ x:Int,uY (.int (x % 2147483629+k+1)) (.int (8 * (k:Int) * k+48271))=_:=fun x=>wL (vW (by omega) (by omega))
  have m4:∀ x:Int,uY (.int (x % 2147483647)) (.int (x % 2147483647))=_:=fun x=>wL (vW (by omega) (by omega))
  have m5:∀ x y:Int,uY (.int (x % 2147483587)) (.int y)=_:=fun x y=>wL (vW (by omega) (by omega))
  refine ⟨_,?_,?_,by simp only [wU,YT,yK,zV,g0h,g1b,g0e,g0n,Nat.reduceAdd,Nat.reduceSub,g0l,g0u,g0r,zx,xJ,xB,zr,yB,xZ,g0a,g0c,g0b,p12,PN,hc,decide_false,g1g,if_false,vT,ym,m1,m2,Zt,vd (show (0:Int) < 2147483629 by decide),m3,vd (show (0:Int) < 2147483647 by decide),g0k,g0j,yJ,m4,vd (show (0:Int) < 2147483587 by decide),m5,vd (show (0:Int) < 2147483579 by decide),xf]; rfl⟩ <;> omega
theorem YY (h:D) (i j a b:Int):∀ (ts:List T3) (s1 s2 s3:Slot),∃ o,yd (j7 3 (yA (zB 5) (yA (zB 6) (yA (zB 7) Zv)))) (ifS (qO (blF (zb eqF (vF 5) (vF 3))) (blF (zb eqF (vF 6) (vF 4)))) (yT (vF 7)) nxF) (ts.map tD)
  [.fr h,.fr (.int i),.fr (.int j),.fr (.int (mlo i j)),.fr (.int (mhi i j)),s1,s2,s3]=some o/\YW ((some o).bind fun o=>match o with | .nx ρ'=>yT (cF (.int 2)) ρ' | o=>some o)=some (.int (zg ts i j))
 | [],s1,s2,s3=>⟨_,rfl,rfl⟩
 | t :: ts,s1,s2,s3=>by
  obtain ⟨o,h1,h2⟩:=YY h i j a b ts (.fr (.int t.1)) (.fr (.int t.2.1)) (.fr (.int t.2.2))
  rw [g0h]
  unfold yd zg
  by_cases c1:t.1=mlo i j
  ·by_cases c2:t.2.1=mhi i j
   ·exact ⟨.rt (.int t.2.2),by simp [tD,c1,c2],by simp [c1,c2]⟩
   ·refine ⟨o,?_,by simpa [c2] using h2⟩
    simp [tD,c1,c2] at h1 ⊢
    exact h1
  ·refine ⟨o,?_,by simpa [c1] using h2⟩
   simp [tD,c1] at h1 ⊢
   exact h1
theorem W4 (n:Nat) (ts:List T3) (i j:Int):xv [zh n ts,.int i,.int j]=some (.int (zg ts i j)):=by
 obtain ⟨o,h1,h2⟩:=YY (zh n ts) i j 0 0 ts .no .no .no
 have e:ixD (zh n ts) (.int 1)=some (.lst (ts.map tD)):=by unfold zh; exact ix1
 simp [xv,Zg,e,g0l] at h2 ⊢
 unfold mlo mhi at h1
 simp at h1
 rw [h1]
 exact h2
theorem szl {n:Nat} (h:n<=100):n<=sizeLine:=Nat.le_of_lt (xt (by omega))
theorem G4 {α:Type} {γ:FG} {ft:FT} {f:FE} {C:List Slot} {ι:α->D} {nm:α->List Slot} {q:α->Bool} {φ:α->D} {k:Nat}
  (hγ:∀ a (pre:List Slot),pre.length=k->γ (ι a) (pre++C)=some (nm a++C)) (hk:∀ a,(nm a).length=k):∀ (l:List α),(∀ a∈l,ft (nm a++C)=some (q a))->(∀ a∈l,q a=true->f (nm a++C)=some (φ a))->∀ pre:List Slot,pre.length=k →
  xj γ ft f (l.map ι) (pre++C)=some ((l.filter q).map φ)
 | [],_,_,_,_=>rfl
 | a :: l,ht,hf,pre,hp=>by
  have ih:=G4 hγ hk l (fun b hb=>ht b (g0m _ hb)) (fun b hb=>hf b (g0m _ hb)) (nm a) (hk a)
  rw [g0h]
  unfold xj
  rw [hγ a pre hp,g0b,ht a g0i,g0b,ih]
  cases c:q a with
  | true=>rw [if_pos rfl,hf a g0i c,g3x c]; rfl
  | false=>rw [if_neg (by simp),g3h (by simp [c])]
theorem XN {α:Type} {ft:FT} {f:FE} {C:List Slot} {ι:α->D} {q:α->Bool} {φ:α->D} (l:List α) (s:Slot) (ht:∀ a∈l,ft (.fr (ι a) :: C)=some (q a)) (hf:∀ a∈l,q a=true->f (.fr (ι a) :: C)=some (φ a)) :
  xj (zB 0) ft f (l.map ι) (s :: C)=some ((l.filter q).map φ) :=
 G4 (nm:=fun a=>[.fr (ι a)]) (k:=1) (fun a pre hp=>by
  match pre,hp with
  | [x],_=>rfl) (fun _=>rfl) l ht hf [s] rfl
theorem jB {α:Type} {f:FE} {C:List Slot} {ι:α->D} {φ:α->D} (l:List α) (s:Slot) (hf:∀ a∈l,f (.fr (ι a) :: C)=some (φ a)) :
  xj (zB 0) ttF f (l.map ι) (s :: C)=some (l.map φ):=by
 have:=XN (ft:=ttF) (q:=fun _=>true) l s (fun _ _=>rfl) (fun a ha _=>hf a ha)
 rwa [List.filter_eq_self.mpr (fun _ _=>rfl)] at this
theorem HQ {α:Type} {ft:FT} {f:FE} {C:List Slot} {ι κ:α->D} {q:α->Bool} {φ:α->D} (l:List α) (s s':Slot) (ht:∀ a∈l,ft (.fr (ι a) :: .fr (κ a) :: C)=some (q a)) (hf:∀ a∈l,q a=true->f (.fr (ι a) :: .fr (κ a) :: C)=some (φ a)) :
  xj (j7 2 (yA (zB 0) (yA (zB 1) Zv))) ft f (l.map fun a=>.tup [ι a,κ a]) (s :: s' :: C)=some ((l.filter q).map φ) :=
 G4 (nm:=fun a=>[.fr (ι a),.fr (κ a)]) (k:=2) (fun a pre hp=>by
  match pre,hp with
  | [x,y],_=>rfl) (fun _=>rfl) l ht hf [s,s'] rfl
theorem M4 {α:Type} {ft:FT} {f:FE} {C:List Slot} {ι κ μ:α->D} {q:α->Bool} {φ:α->D} (l:List α) (s s' s'':Slot) (ht:∀ a∈l,ft (.fr (ι a) :: .fr (κ a) :: .fr (μ a) :: C)=some (q a)) (hf:∀ a∈l,q a=true->f (.fr (ι a) :: .fr (κ a) :: .fr (μ a) :: C)=some (φ a)) :
  xj (j7 3 (yA (zB 0) (yA (zB 1) (yA (zB 2) Zv)))) ft f (l.map fun a=>.tup [ι a,κ a,μ a]) (s :: s' :: s'' :: C)=some ((l.filter q).map φ) :=
 G4 (nm:=fun a=>[.fr (ι a),.fr (κ a),.fr (μ a)]) (k:=3) (fun a pre hp=>by
  match pre,hp with
  | [x,y,z],_=>rfl) (fun _=>rfl) l ht hf [s,s',s''] rfl
abbrev lD (l:List Int):D:=.lst (l.map D.int)
theorem QK (n:Nat) (ts:List T3) (x:Int) (l:List Int) (hl:l.length<=100):zW [zh n ts,.int x,lD l]=some (lD (nbM (zg ts) x l)):=by
 have e:=XN (ft:=qO (blF (zb neF (vF 0) (vF 1))) (blF (zb neF (zY xv (za (vF 2) (za (vF 1) (za (vF 0) zy)))) (cF (.int 2))))) (f:=vF 0) (C:=[.fr (.int x),.fr (zh n ts)]) (ι:=D.int) (q:=fun o=>decide (o≠x)&&decide (zg ts x o≠2)) (φ:=D.int) l .no
  (fun o _=>by
   by_cases c:o=x
   ·simp [c]
   ·by_cases c':zg ts x o=2 <;> simp [c,c',W4]) (fun o _ _=>rfl)
 have hz:(l.map D.int).length<=sizeLine:=by rw [g0f]; exact szl hl
 simp only [zW,uG,yK,zV,yJ,zP,xR,zQ,yB,g0h,g1b,g0e,g0n,Nat.reduceAdd,Nat.reduceSub,g0l,g0x,g0a,g0c,g0b,xE,if_pos hz,xQ,ui,g0u,g0r,e,g1f,xf]
 rfl
theorem W0 (l:List Int) (x:Int) (hl:l.length<=100):yR [lD l,.int x]=some (lD (woM l x)):=by
 have e:=XN (ft:=blF (zb neF (vF 0) (vF 1))) (f:=vF 0) (C:=[.fr (.int x)]) (ι:=D.int) (q:=fun o=>decide (o≠x)) (φ:=D.int) l .no
  (fun o _=>by
   by_cases c:o=x <;> simp [c]) (fun o _ _=>rfl)
 have hz:(l.map D.int).length<=sizeLine:=by rw [g0f]; exact szl hl
 simp only [yR,Zf,yK,zV,yJ,zP,xR,zQ,yB,g0h,g1b,g0e,g0n,Nat.reduceAdd,Nat.reduceSub,g0l,g0x,g0a,g0c,g0b,xE,if_pos hz,xQ,ui,g0u,g0r,e,g1f,xf]
 rfl
theorem jQ (t:Int->Int->Int) (x:Int) (left:List Int):(nbM t x left).length+(left.filter fun o=>decide (o∉nbM t x left)).length=left.length:=by
 have hf:∀ o∈left,(decide (o∉nbM t x left)) = !(decide (o≠x)&&decide (t x o≠2)):=fun o ho=>by
  have:o∈nbM t x left↔(decide (o≠x)&&decide (t x o≠2))=true:=by
   unfold nbM; rw [g1k]; exact ⟨fun z=>z.2,fun z=>⟨ho,z⟩⟩
  cases c:(decide (o≠x)&&decide (t x o≠2)) with
  | true=>rw [c] at this; simpa using this
  | false=>rw [c] at this; simpa using this
 rw [g2t hf,<- g0g]
 exact (List.filter_append_perm _ _).length_eq
theorem Dm (l:List Int) (x:Int):((l.map D.int).any fun d=>eqD d (.int x))=decide (x∈l):=by
 rw [Bool.eq_iff_iff,g2x,decide_eq_true_iff]
 constructor
 ·rintro ⟨d,hd,e⟩
  obtain ⟨y,hy,rfl⟩:=g1i.mp hd
  have:y=x:=by simpa [eqD] using e
  exact this ▸ hy
 ·intro h
  exact ⟨.int x,List.mem_map_of_mem h,qF _⟩
theorem JH (l:List Int):qS (l.map D.int)<=100:=WL fun d hd=>by
 obtain ⟨x,_,rfl⟩:=g1i.mp hd
 exact g1z _
theorem WD (b:Bool) (l:List Int) (x:Int):inD b (.int x) (lD l)=some (.bl (xor b (decide (x∈l)))):=by
 show (if qS (l.map D.int)<=100 then some (D.bl (xor b ((l.map D.int).any fun d=>eqD d (.int x)))) else none)=_
 rw [if_pos (JH l),Dm]
theorem Gs (near left:List Int) (hl:left.length<=100) (s:Slot):(if (left.map D.int).length<=sizeLine then xj (zB 0) (blF (zb (inD true) (vF 0) (vF 1))) (vF 0) (left.map D.int) [s,.fr (lD near)] else none)=some ((left.filter fun o=>decide (o∉near)).map D.int):=by
 rw [if_pos (by rw [g0f]; exact szl hl)]
 exact XN (C:=[.fr (lD near)]) (ι:=D.int) (q:=fun o=>decide (o∉near)) (φ:=D.int) left s (fun o _=>by
  by_cases c:o∈near <;> simp [WD,c]) (fun o _ _=>rfl)
abbrev pC:FT:=blF (zb ltD (vF 4) (zY uZ (za (vR 2) zy)))
noncomputable abbrev pB:FS:=z6 (yL 5 (zY zW (za (vF 0) (za (zb ixD (vR 2) (vF 4)) (za (vF 3) zy))))) (z6 (v5 2 (vF 5)) (z6 (yL 3 (zL (xX 1 [5] (zF (vF 3)) (zB 0) (blF (zb (inD true) (vF 0) (vF 1))) (vF 0)))) (Nc 4 (fun i j=>i+j) (cF (.int 1)))))
theorem Qv (n:Nat) (ts:List T3) (x:Int) (part left:List Int) (p:Nat) (s5:Slot) (y:Int) (h:part[p]? = some y) (hz:part.length+left.length<=50) :
  pB [.fr (zh n ts),.fr (.int x),.ol (part.map D.int),.fr (lD left),.fr (.int p),s5]=some (.nx [.fr (zh n ts),.fr (.int x),.ol ((part++nbM (zg ts) y left).map D.int),.fr (lD (left.filter fun o=>decide (o∉nbM (zg ts) y left))),.fr (.int ((p+1:Nat):Int)),.fr (lD (nbM (zg ts) y left))]):=by
 have h1:ixD (.lst (part.map D.int)) (.int (p:Int))=some (.int y):=uD (by rw [g0z,h]; rfl)
 have h2:=QK n ts y left (by omega)
 have h3:=Gs (nbM (zg ts) y left) left (by omega) .no
 have hs:=jQ (zg ts) y left
 have h4:(part.map D.int).length+((nbM (zg ts) y left).map D.int).length<=sizeLine:=by rw [g0f,g0f]; exact szl (by omega)
 simp only [pB,zx,ym,zU,zo,zu,yB,Ke,zr,g0a,g0c,g0b,h1,h2,g0k,g0j,kd,if_pos h4,zP,xR,zQ,xE,xQ,g0h,g1b,ui,g0l,g0u,g0r,h3,g1f,Nc,xZ,g0y]
 rfl
theorem Xe (n:Nat) (ts:List T3) (x:Int):∀ (k N:Nat) (part left:List Int) (p:Nat) (s5:Slot),part.length+left.length<=k+p->k < N->part.length+left.length<=50 →
  ∃ s3 s4 s5',yo pC pB N [.fr (zh n ts),.fr (.int x),.ol (part.map D.int),.fr (lD left),.fr (.int p),s5]=some (.nx [.fr (zh n ts),.fr (.int x),.ol ((js (zg ts) k part left p).map D.int),s3,s4,s5'])
 | k,0,part,left,p,s5,h1,h2,h3=>by omega
 | k,N+1,part,left,p,s5,h1,h2,h3=>by
  have hc:pC [.fr (zh n ts),.fr (.int x),.ol (part.map D.int),.fr (lD left),.fr (.int p),s5]=some (decide ((p:Int) < (part.length:Int))):=by
   simp only [pC,xB,zr,yB,zU,zo,zu,Ke,g0a,g0c,g0b,kc,NS,g0f]
  have stop:part.length<=p->yo pC pB (N+1) [.fr (zh n ts),.fr (.int x),.ol (part.map D.int),.fr (lD left),.fr (.int p),s5]=some (.nx [.fr (zh n ts),.fr (.int x),.ol (part.map D.int),.fr (lD left),.fr (.int p),s5]):=fun hp=>by
   unfold yo
   rw [hc,decide_eq_false (by omega)]
   rfl
  match k with
  | 0=>exact ⟨_,_,_,stop (by omega)⟩
  | k+1 =>
   cases e:part[p]? with
   | none =>
    have:=g3n.mp e
    unfold js
    rw [e]
    exact ⟨_,_,_,stop this⟩
   | some y =>
    have hp:p < part.length:=(g0v.mp e).1
    have hs:=jQ (zg ts) y left
    obtain ⟨s3,s4,s5',ih⟩:=Xe n ts x k N (part++nbM (zg ts) y left) (left.filter fun o=>decide (o∉nbM (zg ts) y left)) (p+1) (.fr (lD (nbM (zg ts) y left))) (by rw [g0g]; omega) (by omega) (by rw [g0g]; omega)
    refine ⟨s3,s4,s5',?_⟩
    unfold js yo
    rw [hc,decide_eq_true (by omega),e]
    show (pB _).bind _=_
    rw [Qv n ts x part left p s5 y e h3]
    exact ih
theorem wg (n:Nat):wz 0 (n:Int)=(idx n).map D.int:=by
 unfold wz idx
 rw [g1h,show ((n:Int) - 0).toNat=n by omega]
 exact g1r fun k _=>by simp
theorem wM (n:Nat):(idx n).length=n:=by simp [idx]
theorem WT (t:Int->Int->Int):∀ (k:Nat) (part left:List Int) (p:Nat),(js t k part left p).length<=part.length+left.length
 | 0,part,left,p=>by unfold js; omega
 | k+1,part,left,p=>by
  unfold js
  split
  ·omega
  ·rename_i x _
   have:=WT t k (part++nbM t x left) (left.filter fun o=>decide (o∉nbM t x left)) (p+1)
   have hs:=jQ t x left
   rw [g0g] at this
   omega
theorem Hg {n:Nat} {x:Int} (hx:x∈idx n):(woM (idx n) x).length+1=n:=by
 have h:=(vE n)
 have:(([x]:List Int)++woM (idx n) x).Perm (idx n):=by
  refine vU ?_ h fun y=>?_
  ·rw [g2g,g2d]
   refine ⟨fun z=>?_,h.filter _⟩
   unfold woM at z
   simpa using (g1k.mp z).2
  ·rw [g2g,g0o]
   unfold woM
   rw [g1k]
   constructor
   ·rintro (rfl | z)
    ·exact hx
    ·exact z.1
   ·intro z
    by_cases c:y=x
    ·exact .inl c
    ·exact .inr ⟨z,decide_eq_true c⟩
 have:=this.length_eq
 rw [g0g,wM,g0s] at this
 omega
theorem jO {fa:FA} {ρ:Rho} {l:List Int} (h:fa ρ=some [lD l]) (hl:l.length < 64):Wi fa ρ=some ((sortI l).map D.int):=by
 rw [Bq,h]
 show (uk (l.map D.int)).bind _=_
 rw [uR,g0b,if_pos hl]
theorem K1 (n:Nat) (ts:List T3) (x:Int) (hn:n<=40) (hx:x∈idx n):wQ [zh n ts,.int x]=some (lD (sortI (xK (zg ts) n x))):=by
 have hw:=Hg hx
 obtain ⟨s3,s4,s5,h⟩:=Xe n ts x n 100000 [x] (woM (idx n) x) 0 .no (by simp; omega) (by omega) (by simp; omega)
 have h0:ixD (zh n ts) (.int 0)=some (.int n):=by unfold zh; exact ix0
 have h1:(if -(2 ^ 62)<=(n:Int)/\(n:Int)<=1000000 then some (wz 0 (n:Int)) else none)=some ((idx n).map D.int):=by rw [if_pos (by omega),wg]
 have h2:=W0 (idx n) x (by rw [wM]; omega)
 have hb:=WT (zg ts) n [x] (woM (idx n) x) 0
 have h3:=jO (fa:=za (vR 2) zy) (ρ:=[.fr (zh n ts),.fr (.int x),.ol ((js (zg ts) n [x] (woM (idx n) x) 0).map D.int),s3,s4,s5]) (l:=js (zg ts) n [x] (woM (idx n) x) 0) rfl (by simp at hb; omega)
 have hz:1<=sizeLine:=szl (by omega)
 simp only [wQ,Zh,yK,zV,g0h,g1b,g0e,g0n,Nat.reduceAdd,Nat.reduceSub,g0l,g0u,g0r,zx,jt,vn,zo,zu,yB,g0a,g0c,g0b,if_pos hz,g0k,g0j,ym,zU,zP,Uh,zr,xZ,h0,h1,h2,g1f]
 have h:yo pC pB 100000 [.fr (zh n ts),.fr (.int x),.ol [.int x],.fr (lD (woM (idx n) x)),.fr (.int 0),.no]=_:=h
 rw [h]
 simp only [g0b,yJ,zP,h3,g1f,xf]
 rfl
abbrev cC:FT:=blF (zb gtD (zY uZ (za (vF 4) zy)) (cF (.int 0)))
noncomputable abbrev cB:FS:=z6 (yL 5 (zY zW (za (vF 0) (za (zb ixD (vR 3) (jr FY (cF (.int 1)))) (za (vF 4) zy))))) (z6 (ifS (blF (zb neF (zY uZ (za (vF 5) zy)) (cF (.int 1)))) (yT (cF .non)) nxF) (z6 (xp 3 (zb ixD (vF 5) (cF (.int 0)))) (yL 4 (zY yR (za (vF 4) (za (zb ixD (vF 5) (cF (.int 0))) zy))))))
theorem Dl (pre:List Int) (x:Int):ixD (.lst ((pre++[x]).map D.int)) (.int (-1))=some (.int x):=by
 have e:ixD (.lst ((pre++[x]).map D.int)) (.int (-1))=atI ((pre++[x]).map D.int) (-1):=rfl
 rw [e]
 unfold atI ixN
 simp
 rw [if_pos (by omega)]
 have e2:(-1+((pre.length:Int)+1)).toNat=pre.length:=by omega
 rw [g0b,e2]
 simp
theorem Ba {l:List Int} {y:Int} (h:y∈l):(woM l y).length < l.length:=by
 unfold woM
 have:=List.length_filter_lt_length_iff_exists (p:=fun o=>decide (o≠y)) (l:=l)
 exact this.mpr ⟨y,h,by simp⟩
def BW:Option (List Int)->Option D
 | some o=>some (lD o)
 | none=>some .non
theorem Z1 (n:Nat) (ts:List T3) (ms:D) (f:D):∀ (k N:Nat) (pre:List Int) (x:Int) (left:List Int) (s5:Slot),left.length<=k->k < N->pre.length+left.length<=50 →
  (∃ s4 s5',∃ o,chG (zg ts) k x left=some o/\yo cC cB N [.fr (zh n ts),.fr ms,.fr f,.ol ((pre++[x]).map D.int),.fr (lD left),s5]=some (.nx [.fr (zh n ts),.fr ms,.fr f,.ol ((pre++x :: o).map D.int),s4,s5'])) ∨
  (chG (zg ts) k x left=none/\yo cC cB N [.fr (zh n ts),.fr ms,.fr f,.ol ((pre++[x]).map D.int),.fr (lD left),s5]=some (.rt .non))
 | k,0,pre,x,left,s5,h1,h2,h3=>by omega
 | k,N+1,pre,x,left,s5,h1,h2,h3=>by
  have hc:cC [.fr (zh n ts),.fr ms,.fr f,.ol ((pre++[x]).map D.int),.fr (lD left),s5]=some (decide ((0:Int) < (left.length:Int))):=by
   simp only [cC,xB,zr,yB,zU,zo,zu,g0a,g0c,g0b,kc,PL,g0f,xZ]
  by_cases e:left=[]
  ·subst e
   refine .inl ⟨.fr (lD []),s5,[],by cases k <;> rfl,?_⟩
   unfold yo
   rw [hc]
   rfl
  ·have hpos:0 < left.length:=g3s.mpr e
   match k with
   | 0=>omega
   | k+1 =>
    have hn:=QK n ts x left (by omega)
    have hl:=Dl pre x
    have a1:yL 5 (zY zW (za (vF 0) (za (zb ixD (vR 3) (jr FY (cF (.int 1)))) (za (vF 4) zy)))) [.fr (zh n ts),.fr ms,.fr f,.ol ((pre++[x]).map D.int),.fr (lD left),s5]=some (.nx [.fr (zh n ts),.fr ms,.fr f,.ol ((pre++[x]).map D.int),.fr (lD left),.fr (lD (nbM (zg ts) x left))]):=by
     simp only [ym,zU,zo,zu,yB,Ke,zr,Qf,xZ,NP,g0a,g0c,g0b,hl,hn,g0k,g0j]
    have a2:∀ l:List Int,blF (zb neF (zY uZ (za (vF 5) zy)) (cF (.int 1))) [.fr (zh n ts),.fr ms,.fr f,.ol ((pre++[x]).map D.int),.fr (lD left),.fr (lD l)]=some (!decide ((l.length:Int)=1)):=fun l=>by
     simp only [xB,zr,zU,zo,zu,yB,xZ,g0a,g0c,g0b,kc,g0f,NO]
    have bad:(nbM (zg ts) x left).length≠1->yo cC cB (N+1) [.fr (zh n ts),.fr ms,.fr f,.ol ((pre++[x]).map D.int),.fr (lD left),s5]=some (.rt .non):=fun hb=>by
     unfold yo
     rw [hc,decide_eq_true (by omega)]
     show (cB _).bind _=_
     unfold cB
     rw [zx,a1]
     show (z6 _ _ _).bind _=_
     rw [zx,xJ,a2,decide_eq_false (by omega)]
     rfl
    unfold chG
    rw [if_neg e]
    cases h:nbM (zg ts) x left with
    | nil=>exact .inr ⟨rfl,bad (by rw [h]; simp)⟩
    | cons y r =>
     cases r with
     | cons z r=>exact .inr ⟨rfl,bad (by rw [h]; simp)⟩
     | nil =>
      have hy:y∈left:=Yt (t:=zg ts) (x:=x) (by rw [h]; exact g0i)
      have hw:=W0 left y (by omega)
      have hwl:=Ba hy
      have hz:((pre++[x]).map D.int).length < sizeLine:=by
       rw [g0f,g0g,g0s]; exact xt (by omega)
      have y0:ixD (lD [y]) (.int 0)=some (.int y):=by simp [ixD,atI,ixN]
      have st:cB [.fr (zh n ts),.fr ms,.fr f,.ol ((pre++[x]).map D.int),.fr (lD left),s5]=some (.nx [.fr (zh n ts),.fr ms,.fr f,.ol (((pre++[x])++[y]).map D.int),.fr (lD (woM left y)),.fr (lD [y])]):=by
       unfold cB
       rw [zx,a1,h,g0b]
       dsimp only
       rw [zx,xJ,a2]
       simp only [g0s,decide_true,g3m,g0b,g1g,if_false,vT,zx,vB,zr,yB,xZ,g0a,g0c,y0,if_pos hz,g0k,g0j,ym,zU,zo,zu,hw,Int.ofNat_one]
       rw [g0y (l₁:=pre++[x])]
       rfl
      have wh:∀ R,yo cC cB N [.fr (zh n ts),.fr ms,.fr f,.ol (((pre++[x])++[y]).map D.int),.fr (lD (woM left y)),.fr (lD [y])]=R->yo cC cB (N+1) [.fr (zh n ts),.fr ms,.fr f,.ol ((pre++[x]).map D.int),.fr (lD left),s5]=R:=fun R hR=>by
       unfold yo
       rw [hc,decide_eq_true (by omega)]
       show (cB _).bind _=_
       rw [st]
       exact hR
      rcases Z1 n ts ms f k N (pre++[x]) y (woM left y) (.fr (lD [y])) (by omega) (by omega) (by rw [g0g,g0s]; omega) with ⟨s4,s5',o,e1,e2⟩ | ⟨e1,e2⟩
      ·refine .inl ⟨s4,s5',y :: o,by show Option.map (y :: ·) (chG (zg ts) k y (woM left y))=_; rw [e1]; rfl,wh _ ?_⟩
       rw [e2]
       simp
      ·exact .inr ⟨by show Option.map (y :: ·) (chG (zg ts) k y (woM left y))=_; rw [e1]; rfl,wh _ e2⟩
theorem JR (n:Nat) (ts:List T3) (ms:List Int) (f:Int) (hm:ms.length<=40):yV [zh n ts,lD ms,.int f]=BW (vb (zg ts) ms f):=by
 have hw:=W0 ms f (by omega)
 have hl:(woM ms f).length<=ms.length:=g2o _ _
 have hz:1<=sizeLine:=szl (by omega)
 have pre:yV [zh n ts,lD ms,.int f]=YW ((yo cC cB 100000 [.fr (zh n ts),.fr (lD ms),.fr (.int f),.ol (([]++[f]).map D.int),.fr (lD (woM ms f)),.no]).bind fun o=>match o with | .nx ρ'=>Jj 3 (yT (vF 3)) ρ' | o=>some o):=by
  simp only [yV,uI,yK,zV,g0h,g1b,g0e,g0n,Nat.reduceAdd,Nat.reduceSub,g0l,g0u,g0r,zx,jt,vn,zo,zu,yB,g0a,g0c,g0b,if_pos hz,g0k,g0j,ym,zU,hw]
  try rfl
 rw [pre]
 unfold vb
 rcases Z1 n ts (lD ms) (.int f) ms.length 100000 [] f (woM ms f) .no hl (by omega) (by simp; omega) with ⟨s4,s5,o,e1,e2⟩ | ⟨e1,e2⟩
 ·rw [e1,e2]
  rfl
 ·rw [e1,e2]
  rfl
theorem qc:∀ (l:List (Option (List Int))),(l.filter (·.isSome)).map (fun o=>(BW o).getD .non)=(l.filterMap id).map lD
 | []=>rfl
 | none :: l=>by
  rw [g3h (by simp),List.filterMap_cons_none rfl]
  exact qc l
 | some o :: l=>by
  rw [g3x rfl,g0h,qc l]
  rfl
theorem ZZ (n:Nat) (ts:List T3) (ms:List Int) (hm:ms.length<=40):wF [zh n ts,lD ms]=some (.lst ((yI (zg ts) ms).map lD)):=by
 have e1:=jB (f:=zY yV (za (vF 1) (za (vF 2) (za (vF 0) zy)))) (C:=[.fr (zh n ts),.fr (lD ms)]) (ι:=D.int) (φ:=fun f=>(BW (vb (zg ts) ms f)).getD .non) ms .no (fun f _=>by
  have:=JR n ts ms f hm
  simp only [zU,zo,zu,yB,g0a,g0c,g0b,this]
  cases vb (zg ts) ms f <;> rfl)
 have e2:=XN (ft:=blF (zb (isD true) (vF 0) (cF .non))) (f:=vF 0) (C:=[]) (ι:=fun o=>(BW o).getD .non) (q:=fun o=>o.isSome) (φ:=fun o=>(BW o).getD .non) (ms.map (vb (zg ts) ms)) .no (fun o _=>by
  cases o <;> rfl) (fun o _ _=>rfl)
 rw [qc,g1h,List.filterMap_map] at e2
 have hz:(ms.map D.int).length<=sizeLine:=by rw [g0f]; exact szl (by omega)
 have hz2:(ms.map ((fun o=>(BW o).getD D.non) ∘ vb (zg ts) ms)).length<=sizeLine:=by rw [g0f]; exact szl (by omega)
 have e1:_=some (ms.map ((fun o=>(BW o).getD D.non) ∘ vb (zg ts) ms)):=e1
 simp only [wF,YV,yK,zV,g0h,g1b,g0e,g0n,Nat.reduceAdd,Nat.reduceSub,g0l,g0u,g0r,zx,ym,zP,xR,zQ,yB,g0a,g0c,g0b,xE,if_pos hz,xQ,ui,e1,g1f,g0k,g0j,yJ,if_pos hz2,e2,xf]
 rfl
theorem UY (t:Int->Int->Int) (o:List Int):(List.zip o (o.drop 1)).map (fun p=>t p.1 p.2)=x5 t o:=by
 unfold x5
 rw [List.zip,List.map_zipWith]
theorem RM (l:List D):Zr l (some 1) none=l.drop 1:=by
 unfold Zr HT.sIx
 simp
 cases l with
 | nil=>rfl
 | cons a l=>simp
theorem J8 (n:Nat) (ts:List T3) (o:List Int) (ho:o.length<=40):yY [zh n ts,lD o]=some (lD (x5 (zg ts) o)):=by
 have e1:=HQ (ft:=ttF) (f:=zY xv (za (vF 2) (za (vF 0) (za (vF 1) zy)))) (C:=[.fr (zh n ts)]) (ι:=fun p:Int×Int=>.int p.1) (κ:=fun p:Int×Int=>.int p.2) (q:=fun _=>true) (φ:=fun p=>.int (zg ts p.1 p.2)) (List.zip o (o.drop 1)) .no .no (fun _ _=>rfl) (fun p _ _=>by
  simp only [zU,zo,zu,yB,g0a,g0c,g0b,W4])
 rw [List.filter_eq_self.mpr (fun _ _=>rfl)] at e1
 have ez:Kc (o.map D.int) ((o.map D.int).drop 1)=(List.zip o (o.drop 1)).map fun p:Int×Int=>.tup [.int p.1,.int p.2]:=by
  unfold Kc
  rw [<- List.map_drop,List.zip_map,g1h]
  rfl
 have hz:(Kc (o.map D.int) ((o.map D.int).drop 1)).length<=sizeLine:=by
  rw [ez,g0f,List.length_zip]
  exact szl (by omega)
 simp only [yY,ud,yK,zV,g0h,g1b,g0e,g0n,Nat.reduceAdd,Nat.reduceSub,g0l,g0x,g0u,g0r,yJ,zP,xR,KA,zQ,yB,Yk,KC,D9,xZ,g0a,g0c,g0b,xE,RM,if_pos hz,xQ,ui]
 rw [ez,e1]
 simp only [g1f,g0b,xf]
 rw [<- UY]
 show _=some (D.lst ((g2z _ _).map D.int))
 rw [g1h]
 rfl
def RD:Nat->Str
 | 1=>"a" | 2=>"b" | 4=>"d" | 5=>"e" | 6=>"f" | 8=>"h" | 9=>"i" | _=>"-"
def kT (k:Kd):Str:=if k.1=0 then "-" else jn Str.empty [RD k.1,toString (k.2:Int)]
abbrev kD (k:Kd):D:=.str (kT k)
theorem Mm:kT (6,4)="f4":=by decide +kernel
theorem Ml:kT (8,3)="h3":=by decide +kernel
theorem Mj:kT (8,4)="h4":=by decide +kernel
theorem Mi:kT (9,5)="i5":=by decide +kernel
theorem Mh:kT (9,6)="i6":=by decide +kernel
theorem Mn:kT (5,6)="e6":=by decide +kernel
theorem Gz:(g0t 50).all (fun n=>decide ((jn Str.empty ["a",toString (n:Int)]).length<=100)&&decide ((jn Str.empty ["b",toString (n:Int)]).length<=100)&&decide ((jn Str.empty ["d",toString (n:Int)]).length<=100))=true:=by decide +kernel
theorem Mw {n:Nat} (h:n < 50):(jn Str.empty ["a",toString (n:Int)]).length<=100/\(jn Str.empty ["b",toString (n:Int)]).length<=100/\(jn Str.empty ["d",toString (n:Int)]).length<=100:=by
 have:=g0w.mp Gz n (g1t.mpr h)
 rw [g1p,g1p] at this
 exact ⟨of_decide_eq_true this.1.1,of_decide_eq_true this.1.2,of_decide_eq_true this.2⟩
theorem Yz {c:Str} {f:FE} {ρ:Rho} {n:Nat} (h:f ρ=some (.int n)) (hn:n < 50) (hl:(jn Str.empty [c,toString (n:Int)]).length<=100):jH (UW c (Ki f Kg)) ρ=some (.str (jn Str.empty [c,toString (n:Int)])):=by
 have hg:((n:Int).natAbs).log2 < 1920:=g3u (Nat.log2_le_self _) (by omega)
 unfold jH UW Ki Kg
 rw [h]
 show ((((if ((n:Int).natAbs).log2 < 1920 then some (toString (n:Int)) else none:Option Str).bind fun z=>some [z]).bind (fun zs=>some (c :: zs))).bind _)=_
 rw [if_pos hg]
 show (if (jn Str.empty [c,toString (n:Int)]).length<=sizeLine then _ else none)=_
 rw [if_pos (szl hl)]
theorem VD:∀ a b:List Int,VF (a.map D.int) (b.map D.int)=decide (a=b)
 | [],[]=>rfl
 | [],_ :: _=>rfl
 | _ :: _,[]=>rfl
 | x :: a,y :: b=>by
  rw [g0h,g0h]
  unfold VF
  rw [VD a b]
  by_cases c:x=y <;> by_cases c':a=b <;> simp [eqD,c,c']
theorem GW (l:List Int):dep (lD l)<=100:=by
 have:=MW l
 show dep (.lst (l.map D.int))<=100
 omega
theorem VE (a b:List Int):eqF (lD a) (lD b)=some (.bl (decide (a=b))):=by
 unfold eqF
 rw [if_pos (GW a)]
 show some (D.bl (VF (a.map D.int) (b.map D.int)))=_
 rw [VD]
theorem Vl {f:FE} {ρ:Rho} {k:Int} (h:f ρ=some (.int k)) (h1 : -100<=k) (h2:k<=100):Cv (zL (Zq (za (cF (.int 3)) zy))) f ρ=some ((g0l k.toNat (3:Int)).map D.int):=by
 have hz:1<=sizeLine:=szl (by omega)
 simp only [Fb,zP,vn,zo,xZ,zu,g0b,g0e,g0n,g3d,if_pos hz,g1f,h]
 rw [if_pos (by omega),List.map_replicate]
 congr 1
 generalize k.toNat=m
 induction m with
 | zero=>rfl
 | succ m ih=>rw [g2m,g3b,ih]; rfl
theorem CO (l:List Int) (hl:l.length<=40):yi [lD l]=some (kD (CQ l)):=by
 obtain ⟨ja,jb,_⟩:=Mw (n:=l.length+1) (by omega)
 have hz:1<=sizeLine:=szl (by omega)
 have m1:=Vl (f:=zb jN (vF 1) (cF (.int 1))) (ρ:=[.fr (lD l),.fr (.int ((l.length:Int)+1))]) (k:=(l.length:Int)) (by simp) (by omega) (by omega)
 have m2:=Vl (f:=zb jN (vF 1) (cF (.int 2))) (ρ:=[.fr (lD l),.fr (.int ((l.length:Int)+1))]) (k:=(l.length:Int) - 1) (by simp; omega) (by omega) (by omega)
 have t1:((l.length:Int)).toNat=l.length:=by omega
 have t2:((l.length:Int) - 1).toNat=l.length - 1:=by omega
 rw [t1] at m1
 rw [t2] at m2
 have j1:=Yz (c:="a") (f:=vF 1) (ρ:=[.fr (lD l),.fr (.int ((l.length:Int)+1))]) (n:=l.length+1) rfl (by omega) ja
 have j2:=Yz (c:="b") (f:=vF 1) (ρ:=[.fr (lD l),.fr (.int ((l.length:Int)+1))]) (n:=l.length+1) rfl (by omega) jb
 have q1:=VE l (g0l l.length 3)
 have q2:=VE l (g0l (l.length - 1) 3++[4])
 have ad:wB (.lst ((g0l (l.length - 1) (3:Int)).map D.int)) (.lst [.int 4])=some (lD (g0l (l.length - 1) 3++[4])):=by
  unfold wB
  dsimp only
  rw [if_pos (by simp; exact szl (by omega))]
  simp
 have gt:Dx [([3,4,3],(.str "f4")),([3,5],(.str "h3")),([3,3,5],(.str "h4")),([5],(.str "i5")),([6],(.str "i6"))] (.tup (l.map D.int)) (.str "-")=some ((List.lookup l [([3,4,3],(D.str "f4")),([3,5],(.str "h3")),([3,3,5],(.str "h4")),([5],(.str "i5")),([6],(.str "i6"))]).getD (.str "-")):=by
  unfold Dx
  dsimp only
  rw [uR]
  rfl
 have start:yi [lD l]=YW (z6 (ifS (blF (zb eqF (vF 0) (zL (Cv (zL (Zq (za (cF (.int 3)) zy))) (zb jN (vF 1) (cF (.int 1))))))) (yT (jH (UW "a" (Ki (vF 1) Kg)))) nxF) (z6 (ifS (blF (zb eqF (vF 0) (zb wB (zL (Cv (zL (Zq (za (cF (.int 3)) zy))) (zb jN (vF 1) (cF (.int 2))))) (zL (Zq (za (cF (.int 4)) zy)))))) (yT (jH (UW "b" (Ki (vF 1) Kg)))) nxF) (yT (zb (Dx [([3,4,3],(.str "f4")),([3,5],(.str "h3")),([3,3,5],(.str "h4")),([5],(.str "i5")),([6],(.str "i6"))]) (zY uq (za (vF 0) zy)) (cF (.str "-"))))) [.fr (lD l),.fr (.int ((l.length:Int)+1))]):=by
  simp [yi,w5,g0l]
 rw [start,zx,xJ,xB,zr,zP,m1]
 simp only [yB,g0a,g0b,g1f,q1]
 unfold CQ
 by_cases c1:l=g0l l.length 3
 ·rw [if_pos c1,if_pos (decide_eq_true c1),yJ,j1]
  rfl
 ·rw [if_neg c1,if_neg (by simpa using c1)]
  simp only [vT,g0b]
  rw [zx,xJ,xB,zr,zr,zP,m2]
  simp only [yB,g0a,g0b,g1f,zP,vn,zo,xZ,zu,g0e,g0n,g3d,if_pos hz,ad,q2]
  by_cases c2:l=g0l (l.length - 1) 3++[4]
  ·rw [if_pos c2,if_pos (decide_eq_true c2),yJ,j2]
   rfl
  ·rw [if_neg c2,if_neg (by simpa using c2)]
   simp only [vT,g0b,yJ,zr,zU,zo,zu,yB,g0a,NJ,xZ,gt,xf]
   by_cases d1:l=[3,4,3]
   ·subst d1; rw [if_pos rfl]; show _=some (D.str (kT (6,4))); rw [Mm]; rfl
   ·rw [if_neg d1]
    by_cases d2:l=[3,5]
    ·subst d2; rw [if_pos rfl]; show _=some (D.str (kT (8,3))); rw [Ml]; rfl
    ·rw [if_neg d2]
     by_cases d3:l=[3,3,5]
     ·subst d3; rw [if_pos rfl]; show _=some (D.str (kT (8,4))); rw [Mj]; rfl
     ·rw [if_neg d3]
      by_cases d4:l=[5]
      ·subst d4; rw [if_pos rfl]; show _=some (D.str (kT (9,5))); rw [Mi]; rfl
      ·rw [if_neg d4]
       by_cases d5:l=[6]
       ·subst d5; rw [if_pos rfl]; show _=some (D.str (kT (9,6))); rw [Mh]; rfl
       ·rw [if_neg d5]
        have e:List.lookup l [([3,4,3],(D.str "f4")),([3,5],(.str "h3")),([3,3,5],(.str "h4")),([5],(.str "i5")),([6],(.str "i6"))]=none:=by
         simp [List.lookup,beq_false_of_ne,d1,d2,d3,d4,d5]
        rw [e]
        rfl
theorem Nu (o:List Int) (i:Nat) (y:Int) (h:o[i]? = some y):ixD (lD o) (.int (i:Int))=some (.int y):=uD (by rw [g0z,h]; rfl)
theorem Gw (o:List Int) (y:Int) (hl:o.length<=40):zD [lD o,.int y]=some (kD (qB o y)):=by
 obtain ⟨_,_,jd⟩:=Mw (n:=o.length+1) (by omega)
 have j1:=Yz (c:="d") (f:=vF 2) (ρ:=[.fr (lD o),.fr (.int y),.fr (.int ((o.length:Int)+1))]) (n:=o.length+1) rfl (by omega) jd
 have start:zD [lD o,.int y]=YW (z6 (ifS (qO (blF (zb geD (vF 2) (cF (.int 4)))) (blF (zb eqF (zb ixD (vF 0) (cF (.int 1))) (vF 1)))) (yT (jH (UW "d" (Ki (vF 2) Kg)))) nxF) (z6 (ifS (qO (blF (zb eqF (vF 2) (cF (.int 6)))) (blF (zb eqF (zb ixD (vF 0) (cF (.int 2))) (vF 1)))) (yT (cF (.str "e6"))) nxF) (yT (cF (.str "-")))) [.fr (lD o),.fr (.int y),.fr (.int ((o.length:Int)+1))]):=by
  simp [zD,xc,g0l]
 have a1:qO (blF (zb geD (vF 2) (cF (.int 4)))) (blF (zb eqF (zb ixD (vF 0) (cF (.int 1))) (vF 1))) [.fr (lD o),.fr (.int y),.fr (.int ((o.length:Int)+1))]=some (decide (4<=o.length+1/\o[1]? = some y)):=by
  by_cases c:4<=o.length+1
  ·have hx:o[1]? = some o[1]:=g0p (by omega)
   have c':(4:Int)<=(o.length:Int)+1:=by omega
   have:=Nu o 1 o[1] hx
   have this:ixD (lD o) (.int 1)=some (.int o[1]):=this
   simp [c,c',this,hx]
  ·have c':¬ (4:Int)<=(o.length:Int)+1:=by omega
   simp [c,c']
 have a2:qO (blF (zb eqF (vF 2) (cF (.int 6)))) (blF (zb eqF (zb ixD (vF 0) (cF (.int 2))) (vF 1))) [.fr (lD o),.fr (.int y),.fr (.int ((o.length:Int)+1))]=some (decide (o.length+1=6/\o[2]? = some y)):=by
  by_cases c:o.length+1=6
  ·have hx:o[2]? = some o[2]:=g0p (by omega)
   have c':(o.length:Int)+1=6:=by omega
   have:=Nu o 2 o[2] hx
   have this:ixD (lD o) (.int 2)=some (.int o[2]):=this
   simp [c,c',this,hx]
  ·have c':¬ (o.length:Int)+1=6:=by omega
   simp [c,c']
 rw [start,zx,xJ,a1,g0b]
 unfold qB
 by_cases c1:4<=o.length+1/\o[1]? = some y
 ·rw [if_pos c1,if_pos (decide_eq_true c1),yJ,j1]
  rfl
 ·rw [if_neg c1,if_neg (by simpa using c1),vT,g0b]
  dsimp only
  rw [zx,xJ,a2,g0b]
  by_cases c2:o.length+1=6/\o[2]? = some y
  ·rw [if_pos c2,if_pos (decide_eq_true c2)]
   show _=some (D.str (kT (5,6)))
   rw [Mn]
   rfl
  ·rw [if_neg c2,if_neg (by simpa using c2)]
   rfl
theorem JV {t:Int->Int->Int}:∀ {n:Nat} {x:Int} {l o:List Int},chG t n x l=some o->o.length<=n
 | 0,x,l,o,h=>by cases h; exact g0q _
 | n+1,x,l,o,h=>by
  unfold chG at h
  split at h
  ·cases h; exact g1z _
  ·split at h
   ·obtain ⟨o',e',rfl⟩:=g1v.mp h
    have:=JV e'
    rw [g0e]
    omega
   ·cases h
theorem Z0 {t:Int->Int->Int} {ms o:List Int} (h:o∈yI t ms):o.length<=ms.length+1:=by
 obtain ⟨f,_,e⟩:=g2k.mp h
 obtain ⟨o',e',rfl⟩:=g1v.mp e
 have:=JV e'
 rw [g0e]
 omega
theorem ub (t:Int->Int->Int) (ms:List Int):(yI t ms).length<=ms.length:=List.length_filterMap_le _ _
theorem J9 (t:Int->Int->Int) (o:List Int):(x5 t o).length<=o.length:=by
 unfold x5
 rw [List.length_zipWith]
 omega
theorem CL (n:Nat) (ts:List T3) (ms:List Int) (hm:ms.length<=9):yv [zh n ts,lD ms]=some (.lst ((Kh (zg ts) ms).map kD)):=by
 have e0:=ZZ n ts ms (by omega)
 have e1:=jB (f:=zY yi (za (zY yY (za (vF 1) (za (vF 0) zy))) zy)) (C:=[.fr (zh n ts)]) (ι:=lD) (φ:=fun o=>kD (CQ (x5 (zg ts) o))) (yI (zg ts) ms) .no (fun o ho=>by
  have h1:=Z0 ho
  have h2:=J9 (zg ts) o
  simp only [zU,zo,zu,yB,g0a,g0c,g0b,J8 n ts o (by omega),CO (x5 (zg ts) o) (by omega)])
 have hz:((yI (zg ts) ms).map lD).length<=sizeLine:=by
  have:=ub (zg ts) ms
  rw [g0f]; exact szl (by omega)
 simp only [yv,wc,yK,zV,g0h,g1b,g0e,g0n,Nat.reduceAdd,Nat.reduceSub,g0l,g0x,g0u,g0r,yJ,zP,xR,zQ,zU,zo,zu,yB,g0a,g0c,g0b,e0,xE,if_pos hz,xQ,ui,e1,g1f,xf]
 unfold Kh
 rw [g1h]
 rfl
theorem J0 {α:Type} (l:List α) (p:α->Bool):wX (l.map fun a=>D.bl (p a))=some (l.map p):=by
 induction l with
 | nil=>rfl
 | cons a l ih =>
  rw [g0h,g0h]
  unfold wX
  rw [ih]
  rfl
theorem Bf (n:Nat) (ts:List T3) (ms:List Int) (ht:ts.length<=90):yp [zh n ts,lD ms]=some (.bl (ZE ts ms)):=by
 have h0:ixD (zh n ts) (.int 1)=some (.lst (ts.map tD)):=by unfold zh; exact ix1
 have e1:=M4 (ft:=blF (zb (inD false) (vF 0) (vF 3))) (f:=zb eqF (vF 2) (cF (.int 3))) (C:=[.fr (lD ms)]) (ι:=fun u:T3=>.int u.1) (κ:=fun u:T3=>.int u.2.1) (μ:=fun u:T3=>.int u.2.2) (q:=fun u=>decide (u.1∈ms)) (φ:=fun u=>.bl (decide (u.2.2=3))) ts .no .no .no (fun u _=>by
  by_cases c:u.1∈ms <;> simp [WD,c]) (fun u _ _=>by simp)
 have hz:(ts.map tD).length<=sizeLine:=by rw [g0f]; exact szl (by omega)
 have e1:xj (j7 3 (yA (zB 0) (yA (zB 1) (yA (zB 2) Zv)))) (blF (zb (inD false) (vF 0) (vF 3))) (zb eqF (vF 2) (cF (.int 3))) (ts.map tD) [.no,.no,.no,.fr (lD ms)]=_:=e1
 simp only [yp,vf,yK,zV,g0h,g1b,g0e,g0n,Nat.reduceAdd,Nat.reduceSub,g0l,g0x,g0u,g0r,yJ,zP,xR,zQ,zU,zo,zu,zr,xZ,yB,g0a,g0c,g0b,h0,xE,if_pos hz,xQ,ui,e1,g1f]
 show YW (((wX (g2z (fun u:T3=>D.bl (decide (u.2.2=3))) (List.filter (fun u:T3=>decide (u.1∈ms)) ts))).map fun bs=>D.bl (bs.all id)).bind fun d=>some (Out.rt d))=_
 rw [J0]
 show some (D.bl _)=_
 unfold ZE
 rw [List.all_map]
 rfl
noncomputable abbrev eB:FS:=z6 (yL 4 (zY zW (za (vF 0) (za (vF 3) (za (vF 1) zy))))) (ifS (blF (zb eqF (zY uZ (za (vF 4) zy)) (cF (.int 1)))) (z6 (yL 5 (zY wF (za (vF 0) (za (zY yR (za (vF 1) (za (vF 3) zy))) zy)))) (v5 2 (zL (xX 1 [4] (zF (vF 5)) (zB 0) ttF (zY zD (za (vF 0) (za (zb ixD (vF 1) (cF (.int 0))) zy))))))) nxF)
def keM (t:Int->Int->Int) (ms:List Int) (e:Int):List Kd:=match nbM t e ms with
 | [y]=>(yI t (woM ms e)).map fun o=>qB o y
 | _=>[]
theorem CK (n:Nat) (ts:List T3) (ms:List Int) (hm:ms.length<=9) (told:List Kd) (ht:told.length<=90) (e:Int) (s4 s5:Slot) :
  ∃ s4' s5',eB [.fr (zh n ts),.fr (lD ms),.ol (told.map kD),.fr (.int e),s4,s5]=some (.nx [.fr (zh n ts),.fr (lD ms),.ol ((told++keM (zg ts) ms e).map kD),.fr (.int e),s4',s5'])/\(keM (zg ts) ms e).length<=9:=by
 have h1:=QK n ts e ms (by omega)
 have hw:=W0 ms e (by omega)
 have hwl:(woM ms e).length<=ms.length:=g2o _ _
 have h2:=ZZ n ts (woM ms e) (by omega)
 have hcm:=ub (zg ts) (woM ms e)
 have a1:yL 4 (zY zW (za (vF 0) (za (vF 3) (za (vF 1) zy)))) [.fr (zh n ts),.fr (lD ms),.ol (told.map kD),.fr (.int e),s4,s5]=some (.nx [.fr (zh n ts),.fr (lD ms),.ol (told.map kD),.fr (.int e),.fr (lD (nbM (zg ts) e ms)),s5]):=by
  simp only [ym,zU,zo,zu,yB,g0a,g0c,g0b,h1,g0k,g0j]
 have a2:∀ l:List Int,blF (zb eqF (zY uZ (za (vF 4) zy)) (cF (.int 1))) [.fr (zh n ts),.fr (lD ms),.ol (told.map kD),.fr (.int e),.fr (lD l),s5]=some (decide ((l.length:Int)=1)):=fun l=>by
  simp only [xB,zr,zU,zo,zu,yB,xZ,g0a,g0c,g0b,kc,g0f,Ue]
 have bad:(nbM (zg ts) e ms).length≠1->eB [.fr (zh n ts),.fr (lD ms),.ol (told.map kD),.fr (.int e),s4,s5]=some (.nx [.fr (zh n ts),.fr (lD ms),.ol ((told++[]).map kD),.fr (.int e),.fr (lD (nbM (zg ts) e ms)),s5]):=fun hb=>by
  unfold eB
  rw [zx,a1,g0b]
  dsimp only
  rw [xJ,a2,decide_eq_false (by omega),g0x]
  rfl
 unfold keM
 cases h:nbM (zg ts) e ms with
 | nil=>exact ⟨_,_,bad (by rw [h]; simp),by simp⟩
 | cons y r =>
  cases r with
  | cons z r=>exact ⟨_,_,bad (by rw [h]; simp),by simp⟩
  | nil =>
   have y0:ixD (lD [y]) (.int 0)=some (.int y):=by simp [ixD,atI,ixN]
   have e1:=jB (f:=zY zD (za (vF 0) (za (zb ixD (vF 1) (cF (.int 0))) zy))) (C:=[.fr (lD [y])]) (ι:=lD) (φ:=fun o=>kD (qB o y)) (yI (zg ts) (woM ms e)) .no (fun o ho=>by
    have h1:=Z0 ho
    simp only [zU,zo,zu,yB,zr,xZ,g0a,g0c,g0b,y0,Gw o y (by omega)])
   have hz:((yI (zg ts) (woM ms e)).map lD).length<=sizeLine:=by rw [g0f]; exact szl (by omega)
   have hz2:(told.map kD).length+((yI (zg ts) (woM ms e)).map fun o=>kD (qB o y)).length<=sizeLine:=by rw [g0f,g0f]; exact szl (by omega)
   refine ⟨.fr (lD [y]),.fr (.lst ((yI (zg ts) (woM ms e)).map lD)),?_,by simp; omega⟩
   unfold eB
   rw [zx,a1,h,g0b]
   dsimp only
   rw [xJ,a2]
   simp only [g0s,Int.ofNat_one,decide_true,g0b,if_true,zx,ym,zU,zo,zu,yB,g0a,g0c,hw,h2,g0k,g0j,kd,zP,xR,zQ,xE,if_pos hz,xQ,ui,g0h,g1b,g0l,g0u,g0r,e1,g1f,if_pos hz2]
   rw [g0y,g1h]
   rfl
theorem Q3 (n:Nat) (ts:List T3) (ms:List Int) (hm:ms.length<=9):∀ (es:List Int) (told:List Kd) (s3 s4 s5:Slot),told.length+9 * es.length<=90 →
  ∃ s3' s4' s5',yd (zB 3) eB (es.map D.int) [.fr (zh n ts),.fr (lD ms),.ol (told.map kD),s3,s4,s5]=some (.nx [.fr (zh n ts),.fr (lD ms),.ol ((told++es.flatMap (keM (zg ts) ms)).map kD),s3',s4',s5'])
 | [],told,s3,s4,s5,h=>⟨_,_,_,by rw [List.flatMap_nil,g0x]; rfl⟩
 | e :: es,told,s3,s4,s5,h=>by
  rw [g0e] at h
  obtain ⟨s4',s5',h1,h2⟩:=CK n ts ms hm told (by omega) e s4 s5
  obtain ⟨t3,t4,t5,ih⟩:=Q3 n ts ms hm es (told++keM (zg ts) ms e) (.fr (.int e)) s4' s5' (by rw [g0g]; omega)
  refine ⟨t3,t4,t5,?_⟩
  rw [g0h]
  unfold yd
  simp only [xn,g0b,g0k,g0j]
  rw [h1]
  show yd _ _ _ _=_
  rw [ih,g3f,g1a]
theorem CH (n:Nat) (ts:List T3) (ms:List Int) (hm:ms.length<=9) (ht:ts.length<=90):yy [zh n ts,lD ms]=some (.lst ((if ZE ts ms=true then Gv (zg ts) ms else []).map kD)):=by
 have h0:=Bf n ts ms ht
 obtain ⟨s3,s4,s5,h1⟩:=Q3 n ts ms hm ms [] .no .no .no (by simp; omega)
 have hz:0<=sizeLine:=g1z _
 have start:yy [zh n ts,lD ms]=YW (z6 (ifS (FX (blF (zY yp (za (vF 0) (za (vF 1) zy))))) (Jj 2 (yT (vF 2))) nxF) (z6 (jI (zF (vF 1)) (zB 3) eB) (Jj 2 (yT (vF 2)))) [.fr (zh n ts),.fr (lD ms),.ol [],.no,.no,.no]):=by
  simp only [yy,wZ,yK,zV,g0h,g1b,g0e,g0n,Nat.reduceAdd,Nat.reduceSub,g0l,g0u,g0r]
  rw [zx (F:=VY 2 _),jt]
  simp only [vn,zu,g0b,g0n,if_pos hz,g0k,g0j]
 have a1:FX (blF (zY yp (za (vF 0) (za (vF 1) zy)))) [.fr (zh n ts),.fr (lD ms),.ol [],.no,.no,.no]=some (!ZE ts ms):=by
  simp only [D8,xB,zU,zo,zu,yB,g0a,g0c,g0b,h0]
 rw [start,zx,xJ,a1,g0b]
 cases c:ZE ts ms with
 | false=>rfl
 | true =>
  rw [if_neg (by simp),if_pos rfl,vT,g0b]
  dsimp only
  rw [zx,vy]
  simp only [zQ,yB,g0a,g0c,g0b,xE]
  have h1:yd (zB 3) eB (ms.map D.int) [.fr (zh n ts),.fr (lD ms),.ol [],.no,.no,.no]=_:=h1
  rw [h1]
  rfl
abbrev kB:FS:=ifS (blF (zb neF (vF 2) (cF (.str "-")))) (yT (vF 2)) nxF
theorem FZ (a b:Str):neF (.str a) (.str b)=some (.bl (!decide (a=b))):=by
 unfold neF
 rw [if_pos (show dep (.str a)<=100 from g1z _)]
 by_cases c:a=b <;> simp [eqD,c]
theorem Xq {c:Kd} (hc:c=(0,0)\/kT c≠"-") (a b:Slot):∀ (L:List Kd) (s:Slot),(∀ k∈L,k=(0,0)\/k=c) →
  ((c=(0,0)\/c∉L)/\∃ s',yd (zB 2) kB (L.map kD) [a,b,s]=some (.nx [a,b,s']))\/yd (zB 2) kB (L.map kD) [a,b,s]=some (.rt (kD c))
 | [],s,_=>.inl ⟨.inr (by simp),s,rfl⟩
 | k :: L,s,h=>by
  rw [g0h]
  by_cases z:k=(0,0)
  ·subst z
   have st:yd (zB 2) kB (kD (0,0) :: L.map kD) [a,b,s]=yd (zB 2) kB (L.map kD) [a,b,.fr (kD (0,0))]:=by
    rw [yd]
    rfl
   rw [st]
   rcases Xq hc a b L (.fr (kD (0,0))) (fun k hk=>h k (g0m _ hk)) with ⟨h1,h2⟩ | h1
   ·refine .inl ⟨?_,h2⟩
    by_cases c0:c=(0,0)
    ·exact .inl c0
    ·exact .inr fun m=>(g0o.mp m).elim c0 (h1.resolve_left c0)
   ·exact .inr h1
  ·have e:k=c:=(h k g0i).resolve_left z
   subst e
   have hk:=hc.resolve_left z
   refine .inr ?_
   unfold yd
   simp [FZ,hk]
theorem Vq (n:Nat) (ts:List T3) (ms:List Int) (c:Kd) (hm:ms.length<=9) (ht:ts.length<=90) (h1:∀ k∈ve (zg ts) (ZE ts ms) ms,k=(0,0)\/k=c) (h2:c=(0,0)\/c∈ve (zg ts) (ZE ts ms) ms) (hc:c=(0,0)\/kT c≠"-")
  (hz:(ve (zg ts) (ZE ts ms) ms).length<=100):xx [zh n ts,lD ms]=some (kD c):=by
 have e1:=CL n ts ms hm
 have e2:=CH n ts ms hm ht
 have ad:wB (.lst ((Kh (zg ts) ms).map kD)) (.lst ((if ZE ts ms=true then Gv (zg ts) ms else []).map kD))=some (.lst ((ve (zg ts) (ZE ts ms) ms).map kD)):=by
  unfold wB ve
  dsimp only
  unfold ve at hz
  rw [g0g] at hz
  rw [if_pos (by rw [g0f,g0f]; exact szl hz),g0y]
 have start:xx [zh n ts,lD ms]=YW ((yd (zB 2) kB ((ve (zg ts) (ZE ts ms) ms).map kD) [.fr (zh n ts),.fr (lD ms),.no]).bind fun o=>match o with | .nx ρ'=>yT (cF (.str "-")) ρ' | o=>some o):=by
  simp only [xx,Zm,yK,zV,g0h,g1b,g0e,g0n,Nat.reduceAdd,Nat.reduceSub,g0l,g0u,g0r,zx,vy,zQ,zr,zU,zo,zu,yB,g0a,g0c,g0b,e1,e2,ad,xE]
  try rfl
 rw [start]
 rcases Xq hc (.fr (zh n ts)) (.fr (lD ms)) _ .no h1 with ⟨h3,s',h4⟩ | h3
 ·rw [h4]
  have:c=(0,0):=by
   rcases h3 with z | z
   ·exact z
   ·exact h2.resolve_right z
  subst this
  rfl
 ·rw [h3]
  rfl
theorem HV (t:Int->Int->Int):∀ (k:Nat) (part left:List Int) (p:Nat),part≠[]->js t k part left p≠[]
 | 0,part,left,p,h=>h
 | k+1,part,left,p,h=>by
  unfold js
  split
  ·exact h
  ·exact HV t k _ _ _ (by simp [h])
theorem Ku {l:List Int} (h:l≠[]):sortI l≠[]:=fun z=>h (by
 have:=(sortI_perm l).length_eq
 rw [z] at this
 exact g3a.mp this.symm)
abbrev PM (n:Nat) (ts:List T3) (x:Int):List Int:=sortI (xK (zg ts) n x)
theorem Py (n:Nat) (ts:List T3) (x:Int):PM n ts x≠[]:=Ku (HV _ _ _ _ _ (by simp))
theorem GS (n:Nat) (f:Int->D):YG ((idx n).map f)=(idx n).map fun x=>.tup [.int x,f x]:=by
 unfold YG
 apply List.ext_getElem
 ·simp
 ·intro i h1 h2
  simp [idx]
theorem Qt (n:Nat) (ts:List T3) (hn:n<=40):ji [zh n ts]=some (.lst (((idx n).filter fun x=>decide ((PM n ts x).headD 0=x)).map fun x=>lD (PM n ts x))):=by
 have h0:ixD (zh n ts) (.int 0)=some (.int n):=by unfold zh; exact ix0
 have hr:uu [.int (n:Int)]=some ((idx n).map D.int):=by rw [wJ (by omega) (by omega),wg]
 have e1:=jB (f:=zY wQ (za (vF 1) (za (vF 0) zy))) (C:=[.fr (zh n ts)]) (ι:=D.int) (φ:=fun x=>lD (PM n ts x)) (idx n) .no (fun x hx=>by
  simp only [zU,zo,zu,yB,g0a,g0c,g0b,K1 n ts x hn hx])
 have e2:=HQ (ft:=blF (zb eqF (zb ixD (vF 1) (cF (.int 0))) (vF 0))) (f:=vF 1) (C:=[]) (ι:=D.int) (κ:=fun x=>lD (PM n ts x)) (q:=fun x=>decide ((PM n ts x).headD 0=x)) (φ:=fun x=>lD (PM n ts x)) (idx n) .no .no (fun x _=>by
  have hne:=Py n ts x
  cases e:PM n ts x with
  | nil=>exact absurd e hne
  | cons y r =>
   have y0:ixD (lD (y :: r)) (.int 0)=some (.int y):=by simp [ixD,atI,ixN]
   simp only [xB,zr,yB,xZ,g0a,g0c,g0b,y0,Ue]
   rfl) (fun x _ _=>rfl)
 have hz:((idx n).map D.int).length<=sizeLine:=by rw [g0f,wM]; exact szl (by omega)
 have hz2:((idx n).map fun x=>D.tup [.int x,lD (PM n ts x)]).length<=sizeLine:=by rw [g0f,wM]; exact szl (by omega)
 simp only [ji,WX,yK,zV,g0h,g1b,g0e,g0n,Nat.reduceAdd,Nat.reduceSub,g0l,g0u,g0r,zx,ym,zP,xR,kb,zo,zu,zr,xZ,yB,g0a,g0c,g0b,h0,hr,if_pos hz,xQ,ui,e1,g1f,g0k,g0j,yJ,KB,zQ,xE,GS,if_pos hz2,e2,xf]
theorem UE (n:Nat) (ts:List T3) (c:Int->Kd) (hn:n<=40) (hk:∀ x∈idx n,xx [zh n ts,lD (PM n ts x)]=some (kD (c x))):wy [zh n ts]=some (.lst (((idx n).filter fun x=>decide ((PM n ts x).headD 0=x)).map fun x=>.tup [lD (PM n ts x),kD (c x)])):=by
 have e0:=Qt n ts hn
 have e1:=jB (f:=tupF (za (vF 0) (za (zY xx (za (vF 1) (za (vF 0) zy))) zy))) (C:=[.fr (zh n ts)]) (ι:=fun x=>lD (PM n ts x)) (φ:=fun x=>.tup [lD (PM n ts x),kD (c x)]) ((idx n).filter fun x=>decide ((PM n ts x).headD 0=x)) .no (fun x hx=>by
  have:=hk x (g1k.mp hx).1
  simp only [qt,zU,zo,zu,yB,g0a,g0c,g0b,this,g0e,g0n]
  rw [if_pos (szl (by omega))])
 have hz:(((idx n).filter fun x=>decide ((PM n ts x).headD 0=x)).map fun x=>lD (PM n ts x)).length<=sizeLine:=by
  rw [g0f]
  have:=g2o (fun x=>decide ((PM n ts x).headD 0=x)) (idx n)
  rw [wM] at this
  exact szl (by omega)
 simp only [wy,WY,yK,zV,g0h,g1b,g0e,g0n,Nat.reduceAdd,Nat.reduceSub,g0l,g0x,g0u,g0r,yJ,zP,xR,zQ,zU,zo,zu,yB,g0a,g0c,g0b,e0,xE,if_pos hz,xQ,ui,e1,g1f,xf]
theorem Gy (t:Int->Int->Int) (b:Bool) (ms:List Int) (hm:ms.length<=9):(ve t b ms).length<=100:=by
 have h1:=ub t ms
 have h2:∀ es:List Int,(es.flatMap (keM t ms)).length<=9 * es.length:=fun es=>by
  induction es with
  | nil=>simp
  | cons e es ih =>
   rw [g3f,g0g,g0e]
   have:(keM t ms e).length<=9:=by
    unfold keM
    split
    ·have:=ub t (woM ms e)
     have hwl:(woM ms e).length<=ms.length:=g2o _ _
     rw [g0f]
     omega
    ·simp
   omega
 unfold ve Kh
 rw [g0g,g0f]
 have h3:(Gv t ms).length<=9 * ms.length:=h2 ms
 split
 ·omega
 ·simp; omega
theorem Np {a b:Int} (h1 : -3<=a) (h2:a<=3):uY (.int a) (.int b)=some (.int (a * b)):=wL (vW (by omega) (by omega))
theorem QJ {d:D} (h:dep d<=100):neF d d=some (.bl false):=by
 unfold neF
 rw [if_pos h,qF]
 rfl
def MH (s:Int) (r:List Gd):Bool:=r.any fun x=>decide (X6 x=s)
theorem GD (neg:Bool) (s:Int) (r:List Gd):inD neg (.int s) (.lst ((r.map X6).map D.int))=some (.bl (xor neg (MH s r))):=by
 have hd:qS ((r.map X6).map D.int)<=100:=g2j (WL (k:=0) fun d hd=>by
  obtain ⟨x,_,rfl⟩:=g1i.mp hd
  simp [dep]) (by decide)
 show (if _ then _ else _)=_
 rw [if_pos hd]
 congr 3
 unfold MH
 rw [g1h,List.any_map]
 rfl
theorem Yv {α β:Type} (f:α->β) (l:List α) (z:α):(g0t l.length).map (fun k=>f (l.getD k z))=l.map f:=by
 apply List.ext_getElem?
 intro k
 rw [g0z,g0z]
 by_cases h:k < l.length
 ·rw [List.getElem?_range h]
  simp [g0d,h]
 ·rw [g1x (by simpa using h),g1x (by omega)]
  rfl
theorem Ub {r:List Gd} (hr:r.length<=100) {g:List D->Option D} (hg:∀ x∈r,g [gD x]=some (.int (X6 x))):xj (zB 0) ttF (zY g (za (vF 0) zy)) (r.map gD) [.no]=some ((r.map X6).map D.int):=by
 have c:=M5 (f:=zY g (za (vF 0) zy)) (C:=[]) (φ:=fun k=>D.int (X6 (r.getD k (0,0)))) (r.map gD) 0 .no (fun k d hk=>by
  rw [g0z] at hk
  cases e:r[k]? with
  | none=>rw [e] at hk; cases hk
  | some x =>
   rw [e] at hk
   cases hk
   have:=hg x (g1y e)
   simp only [zU,zo,zu,yB,g0a,g0b,this,g3d,g0d,e,g2w])
 rw [c]
 have:=Yv (fun x=>D.int (X6 x)) r (0,0)
 simp only [g0f,g3d,g1h] at this ⊢
 rw [this]
 rfl
def Bd (x:Int):Prop:=x.natAbs < 2 ^ 1000
theorem Bd.big {x:Int} (h:Bd x):x.natAbs < big:=Vn h (by decide)
theorem YQ {i:Int}:Ng [.int i]=some (.int (M02.absI i)):=rfl
theorem V2 {x:Int} (h:x.natAbs < big):(M02.absI x).natAbs < big:=by unfold M02.absI; split <;> omega
theorem UB {a b:Int} (ha:Bd a) (hb:Bd b):yZ [.tup [.int a,.int b]]=some (.int (M02.lawSgn a b)):=by
 have ht:(2 * a+b).natAbs < big:=by
  refine Vn (k:=1010) ?_ (by decide)
  unfold Bd at ha hb
  have:(2:Nat) ^ 1010=2 ^ 1000 * 1024:=by decide
  omega
 have h5:(5 * b).natAbs < big:=by
  refine Vn (k:=1010) ?_ (by decide)
  unfold Bd at ha hb
  have:(2:Nat) ^ 1010=2 ^ 1000 * 1024:=by decide
  omega
 have m1:uY (.int 2) (.int a)=_:=wL (vW (by decide) (by decide))
 have m2:uY (.int (2 * a+b)) (.int (M02.absI (2 * a+b)))=_:=wL (Xj ht (V2 ht))
 have m3:uY (.int 5) (.int b)=_:=wL (vW (by decide) (by decide))
 have m4:uY (.int (5 * b)) (.int (M02.absI b))=_:=wL (Xj h5 (V2 hb.big))
 unfold M02.lawSgn
 by_cases h:2 * a+b=0
 ·by_cases h':b=0
  ·simp [yZ,ue,uo,YW,z6,yT,yL,za,zy,zY,zb,jr,vh,vF,cF,ifS,blF,qO,Xy,v7,ixD,atI,ixN,m1,Zd,h,h']
   simp [h'] at h
   simp [h]
  ·by_cases h2:0 < (2 * a+b) * M02.absI (2 * a+b)+5 * b * M02.absI b
   ·simp [yZ,ue,uo,YW,z6,yT,yL,za,zy,zY,zb,jr,vh,vF,cF,ifS,blF,qO,Xy,v7,ixD,atI,ixN,m1,Zd,h',h2,YQ,m2,m3,m4,nxF]
   ·simp [yZ,ue,uo,YW,z6,yT,yL,za,zy,zY,zb,jr,vh,vF,cF,ifS,blF,qO,Xy,v7,ixD,atI,ixN,m1,Zd,h',h2,YQ,m2,m3,m4,nxF,U4]
 ·by_cases h2:0 < (2 * a+b) * M02.absI (2 * a+b)+5 * b * M02.absI b
  ·simp [yZ,ue,uo,YW,z6,yT,yL,za,zy,zY,zb,jr,vh,vF,cF,ifS,blF,qO,Xy,v7,ixD,atI,ixN,m1,Zd,h,h2,YQ,m2,m3,m4,nxF]
  ·simp [yZ,ue,uo,YW,z6,yT,yL,za,zy,zY,zb,jr,vh,vF,cF,ifS,blF,qO,Xy,v7,ixD,atI,ixN,m1,Zd,h,h2,YQ,m2,m3,m4,nxF,U4]
theorem QR {x:Gd} (ha:x.1.natAbs<=2 ^ 700) (hb:x.2.natAbs<=2 ^ 700):yZ [gD x]=some (.int (X6 x)):=by
 have hp:(2:Nat) ^ 700 < 2 ^ 1000:=Nat.pow_lt_pow_right (by decide) (by decide)
 have:=UB (a:=x.1) (b:=x.2) (g3u ha hp) (g3u hb hp)
 rw [<- M02.sgn_law] at this
 exact this
theorem CD (ts:List T3) {n:Nat} (hn:n<=6) {w:List Nat} (hw:w.length<=100) (i:Nat):∀ x∈zO (zc ts) w (zE n i),x.1.natAbs<=2 ^ 700/\x.2.natAbs<=2 ^ 700:=by
 have h:=QV (ts:=ts) (Bm n i) (by rw [ze]; exact hn) w
 have e:1 * 32 ^ w.length<=2 ^ 700:=by
  have h32:(32:Nat)=2 ^ 5:=by decide
  rw [Nat.one_mul,h32,<- Nat.pow_mul]
  exact Nat.pow_le_pow_right (by decide) (by omega)
 intro x hx
 exact ⟨g2j (h x hx).1 e,g2j (h x hx).2 e⟩
theorem UA {x:Gd} (y:Gd) (h : -3<=x.1/\x.1<=2 /\ -1<=x.2/\x.2<=0):wR [gD x,gD y]=some (gD (yh x y)):=by
 have m1:=fun b=>@Np x.1 b (by omega) (by omega)
 have m2:=fun b=>@Np x.2 b (by omega) (by omega)
 simp [wR,Zi,gD,ix0,ix1,yh,m1,m2,sizeLine_eq]
theorem ZR (h:D) (i j:Int):∀ (ts:List T3) (s1 s2 s3:Slot),∃ o,yd (j7 3 (yA (zB 3) (yA (zB 4) (yA (zB 5) Zv)))) (ifS (qO (blF (zb eqF (vF 3) (zY Gj (za (vF 1) (za (vF 2) zy))))) (blF (zb eqF (vF 4) (zY Gn (za (vF 1) (za (vF 2) zy)))))) (yT (vF 5)) nxF) (ts.map tD)
  [.fr h,.fr (.int i),.fr (.int j),s1,s2,s3]=some o/\YW ((some o).bind fun o=>match o with | .nx ρ'=>yT (cF (.int 2)) ρ' | o=>some o)=some (.int (zg ts i j))
 | [],s1,s2,s3=>⟨_,rfl,rfl⟩
 | t :: ts,s1,s2,s3=>by
  obtain ⟨o,h1,h2⟩:=ZR h i j ts (.fr (.int t.1)) (.fr (.int t.2.1)) (.fr (.int t.2.2))
  rw [g0h]
  unfold yd zg
  have elo:(if j < i then j else i)=mlo i j:=rfl
  have ehi:(if j > i then j else i)=mhi i j:=rfl
  by_cases c1:t.1=mlo i j
  ·by_cases c2:t.2.1=mhi i j
   ·exact ⟨.rt (.int t.2.2),by simp [tD,elo,ehi,c1,c2,v7],by simp [c1,c2]⟩
   ·refine ⟨o,?_,by simpa [c2] using h2⟩
    simp [tD,elo,ehi,c1,c2,v7] at h1 ⊢
    exact h1
  ·refine ⟨o,?_,by simpa [c1] using h2⟩
   simp [tD,elo,ehi,c1,v7] at h1 ⊢
   exact h1
theorem Xm (n:Nat) (ts:List T3) (i j:Int):wC [zh n ts,.int i,.int j]=some (.int (zg ts i j)):=by
 obtain ⟨o,h1,h2⟩:=ZR (zh n ts) i j ts .no .no .no
 have e:ixD (zh n ts) (.int 1)=some (.lst (ts.map tD)):=by unfold zh; exact ix1
 unfold wC YS
 simp only [yK,zV,g0h,g1b,g0e,g0n,Nat.reduceAdd,Nat.reduceSub,g0l,g0u,g0r,zx,vy,zQ,zr,yB,xZ,g0a,g0c,g0b,e,xE]
 rw [h1]
 exact h2
abbrev kyT (t:T3):List Key:=[.inl t.1,.inl t.2.1]
theorem Dk {α:Type} (xs:List α) (a b:Nat) (h:a<=b):Zr xs (some (a:Int)) (some (b:Int))=(xs.drop a).take (b - a):=by
 unfold Zr
 rw [HT.sIx_nat,HT.sIx_nat]
 by_cases h1:a<=xs.length
 ·by_cases h2:b<=xs.length
  ·rw [Nat.min_eq_left h1,Nat.min_eq_left h2]
  ·rw [Nat.min_eq_left h1,Nat.min_eq_right (by omega),g3k (by simp),g3k (by simp; omega)]
 ·rw [Nat.min_eq_right (by omega),Nat.min_eq_right (by omega),g3l (g0q _),g3l (by omega)]
  simp
def Dt (n:Nat) (kvs:List (List Key×D)):Prop:=∀ p∈kvs,∃ a b m:Int,p=([.inl a,.inl b],.int m)/\0<=a/\a < b/\b < n/\(m=0\/(2<=m/\m<=6))
def Nw (n:Nat) (ts:List T3):Prop:=∀ t∈ts,(t.2.2=0\/(3<=t.2.2/\t.2.2<=6))/\0<=t.1/\t.1 < t.2.1/\t.2.1 < n
theorem Dt.put {n:Nat} {kvs:List (List Key×D)} (h:Dt n kvs) {a b m:Int} (h1:0<=a) (h2:a < b) (h3:b < n) (h4:m=0\/(2<=m/\m<=6)):Dt n (KM kvs [.inl a,.inl b] (.int m))/\(KM kvs [.inl a,.inl b] (.int m)).length<=kvs.length+1:=by
 unfold KM
 split
 ·refine ⟨fun p hp=>?_,by simp⟩
  obtain ⟨q,hq,rfl⟩:=g1i.mp hp
  split
  ·rename_i e
   exact ⟨a,b,m,by rw [e],h1,h2,h3,h4⟩
  ·exact h q hq
 ·refine ⟨fun p hp=>?_,by simp⟩
  rcases g1o.mp hp with hp | hp
  ·exact h p hp
  ·exact ⟨a,b,m,by simpa using hp,h1,h2,h3,h4⟩
theorem Fo {kvs:List (List Key×D)} {k:List Key} {v:D} (h:(kvs.map (·.1)).Nodup):((KM kvs k v).map (·.1)).Nodup:=by
 unfold KM
 split
 ·have:(kvs.map fun kv=>if kv.1=k then (kv.1,v) else kv).map (·.1)=kvs.map (·.1):=by
   rw [g1h]
   apply g1r
   intro a _
   simp only [Function.comp]
   split <;> rfl
  rw [this]; exact h
 ·rename_i hn
  rw [g0y,g2u]
  refine ⟨h,by simp,fun a ha b hb=>?_⟩
  have eb:b=k:=by simpa using hb
  subst eb
  rintro rfl
  obtain ⟨q,hq,e⟩:=g1i.mp ha
  exact hn (g2x.mpr ⟨q,hq,by simp [e]⟩)
noncomputable def hoB:FS:=(z6 (yL 6 (zY wU (za (vF 5) (za (cF (.int 2)) zy)))) (z6 (yL 7 (zb X7 (vF 6) (vF 3))) (z6 (yL 8 (zb X7 (zb Zx (vF 6) (cF (.int 8))) (vF 3))) (ifS (blF (zb neF (vF 7) (vF 8))) (Jy 4 (za (zY Gj (za (vF 7) (za (vF 8) zy))) (za (zY Gn (za (vF 7) (za (vF 8) zy))) zy)) (zb ixD (zL (Zq (za (cF (.int 3)) (za (cF (.int 4)) (za (cF (.int 5)) (za (cF (.int 6)) (za (cF (.int 0)) (za (cF (.int 3)) (za (cF (.int 2)) (za (cF (.int 2)) zy)))))))))) (zb X7 (zb Zx (vF 6) (cF (.int 64))) (cF (.int 8))))) nxF))))
theorem N3 {x:Int} (h1:0<=x) (h2:x < 8):∃ m:Int,(m=0\/(2<=m/\m<=6))/\ixD (.lst [.int 3,.int 4,.int 5,.int 6,.int 0,.int 3,.int 2,.int 2]) (.int x)=some (.int m):=by
 have:x=0\/x=1\/x=2\/x=3\/x=4\/x=5\/x=6\/x=7:=by omega
 rcases this with e | e | e | e | e | e | e | e <;> subst e
 ·exact ⟨3,by omega,by simp [ixD,atI,ixN]⟩
 ·exact ⟨4,by omega,by simp [ixD,atI,ixN]⟩
 ·exact ⟨5,by omega,by simp [ixD,atI,ixN]⟩
 ·exact ⟨6,by omega,by simp [ixD,atI,ixN]⟩
 ·exact ⟨0,by omega,by simp [ixD,atI,ixN]⟩
 ·exact ⟨3,by omega,by simp [ixD,atI,ixN]⟩
 ·exact ⟨2,by omega,by simp [ixD,atI,ixN]⟩
 ·exact ⟨2,by omega,by simp [ixD,atI,ixN]⟩
theorem WG {n:Nat} (hn:1<=n) (a0 a1 a2 a9 a10 a11:Slot):∀ (l:List Int) (kvs:List (List Key×D)) (s5 s6 s7 s8:Slot),Dt n kvs->(kvs.map (·.1)).Nodup->kvs.length+l.length<=63->∃ kvs' s5' s6' s7' s8',Dt n kvs'/\(kvs'.map (·.1)).Nodup/\kvs'.length<=63 ∧
  yd (zB 5) hoB (l.map D.int) [a0,a1,a2,.fr (.int n),.oT kvs,s5,s6,s7,s8,a9,a10,a11]=some (.nx [a0,a1,a2,.fr (.int n),.oT kvs',s5',s6',s7',s8',a9,a10,a11])
 | [],kvs,s5,s6,s7,s8,hk,hnd,hlen=>⟨kvs,s5,s6,s7,s8,hk,hnd,by simp at hlen; omega,rfl⟩
 | c :: l,kvs,s5,s6,s7,s8,hk,hnd,hlen=>by
  rw [g0e] at hlen
  obtain ⟨z,hz,_,mv⟩:=QO c 2 (by omega)
  have mv':wU [.int c,.int 2]=some (.int z):=mv
  have hnp:(0:Int) < n:=by omega
  have d1:=vd (i:=z) hnp
  have f8:=jW (i:=z) (show (0:Int) < 8 by decide) (by decide)
  have d2:=vd (i:=z / 8) hnp
  have f64:=jW (i:=z) (show (0:Int) < 64 by decide) (by decide)
  have d3:=vd (i:=z / 64) (show (0:Int) < 8 by decide)
  have z8:0+1+1+1+1+1+1+1+1<=sizeLine:=szl (by decide)
  have z8':8<=sizeLine:=szl (by decide)
  have z2:0+1+1<=sizeLine:=szl (by decide)
  have z2':2<=sizeLine:=szl (by decide)
  obtain ⟨m,hm,px⟩:=N3 (x:=z / 64 % 8) (by omega) (by omega)
  have b1:0<=z % n:=Int.emod_nonneg _ (by omega)
  have b2:z % n < n:=Int.emod_lt_of_pos _ hnp
  have b3:0<=z / 8 % n:=Int.emod_nonneg _ (by omega)
  have b4:z / 8 % n < n:=Int.emod_lt_of_pos _ hnp
  have hkz:kvs.length < sizeLine:=xt (by omega)
  rw [g0h]
  by_cases c1:z % n=z / 8 % n
  ·obtain ⟨kvs',t5,t6,t7,t8,h1,h1n,h2,e⟩:=WG hn a0 a1 a2 a9 a10 a11 l kvs (.fr (.int c)) (.fr (.int z)) (.fr (.int (z % n))) (.fr (.int (z / 8 % n))) hk hnd (by omega)
   refine ⟨kvs',t5,t6,t7,t8,h1,h1n,h2,?_⟩
   have ne:neF (.int (z % n)) (.int (z / 8 % n))=some (.bl false):=by rw [uw,decide_eq_true c1]; rfl
   unfold yd
   simp only [hoB,xn,g0b,g0k,g0j,zx,ym,zU,zo,zu,yB,xZ,g0c,g0a,mv',zr,d1,f8,d2,xJ,xB,ne,g1g,if_false,vT]
   unfold hoB at e
   exact e
  ·have ne:neF (.int (z % n)) (.int (z / 8 % n))=some (.bl true):=by rw [uw,decide_eq_false c1]; rfl
   obtain ⟨a,b,h1,h2,h3,ea,eb⟩:∃ a b:Int,0<=a/\a < b/\b < n/\Gj [.int (z % n),.int (z / 8 % n)]=some (.int a)/\Gn [.int (z % n),.int (z / 8 % n)]=some (.int b):=by
    refine ⟨_,_,?_,?_,?_,NQ,NR⟩
    ·split <;> omega
    ·split <;> split <;> omega
    ·split <;> omega
   obtain ⟨p1,p2⟩:=hk.put h1 h2 h3 hm
   obtain ⟨kvs',t5,t6,t7,t8,g1,g1n,g2,e⟩:=WG hn a0 a1 a2 a9 a10 a11 l _ (.fr (.int c)) (.fr (.int z)) (.fr (.int (z % n))) (.fr (.int (z / 8 % n))) p1 (Fo hnd) (by omega)
   refine ⟨kvs',t5,t6,t7,t8,g1,g1n,g2,?_⟩
   have ko:ZT [.int a,.int b]=some [.inl a,.inl b]:=rfl
   have cnd:kvs.length < sizeLine/\0+1+1<=sizeLine:=⟨hkz,z2⟩
   unfold yd
   simp only [hoB,xn,g0b,g0k,g0j,zx,ym,zU,zo,zu,yB,xZ,g0c,g0a,mv',zr,d1,f8,d2,xJ,xB,ne,if_true,Bw,zP,vn,g0e,g0n,if_pos z8,if_pos z8',g1f,f64,d3,px,ea,eb,ko,if_pos cnd]
   unfold hoB at e
   exact e
noncomputable def hoT:FS:=(ifS (blF (zb neF (vF 11) (cF (.int 2)))) (xp 9 (tupF (za (zb ixD (vF 10) (cF (.int 0))) (za (zb ixD (vF 10) (cF (.int 1))) (za (vF 11) zy))))) nxF)
theorem WE {n:Nat} (a0 a1 a2 a3 a4 a5 a6 a7 a8:Slot):∀ (kvs:List (List Key×D)) (ts:List T3) (s10 s11:Slot),Dt n kvs->Nw n ts->(ts.map kyT++kvs.map (·.1)).Nodup->ts.length+kvs.length<=63->∃ ts' s10' s11',Nw n ts'/\(ts'.map kyT).Nodup/\ts'.length<=63 ∧
  yd (j7 2 (yA (zB 10) (yA (zB 11) Zv))) hoT (xV kvs) [a0,a1,a2,a3,a4,a5,a6,a7,a8,.ol (ts.map tD),s10,s11]=some (.nx [a0,a1,a2,a3,a4,a5,a6,a7,a8,.ol (ts'.map tD),s10',s11'])
 | [],ts,s10,s11,hk,ht,hnd,hlen=>⟨ts,s10,s11,ht,by simpa using hnd,by simp at hlen; omega,rfl⟩
 | p :: kvs,ts,s10,s11,hk,ht,hnd,hlen=>by
  rw [g0e] at hlen
  obtain ⟨a,b,m,rfl,h1,h2,h3,h4⟩:=hk p g0i
  have hk':Dt n kvs:=fun q hq=>hk q (g0m _ hq)
  have ei:xV (([.inl a,.inl b],.int m) :: kvs)=.tup [.tup [.int a,.int b],.int m] :: xV kvs:=rfl
  have z:(ts.map tD).length < sizeLine:=xt (by simp; omega)
  have z3:0+1+1+1<=sizeLine:=szl (by decide)
  have z3':3<=sizeLine:=szl (by decide)
  have i0:ixD (.tup [.int a,.int b]) (.int 0)=some (.int a):=ix0
  have i1:ixD (.tup [.int a,.int b]) (.int 1)=some (.int b):=ix1
  rw [ei]
  by_cases c:m=2
  ·obtain ⟨ts',t10,t11,g1,g1n,g2,e⟩:=WE (n:=n) a0 a1 a2 a3 a4 a5 a6 a7 a8 kvs ts (.fr (.tup [.int a,.int b])) (.fr (.int m)) hk' ht (hnd.sublist (List.Sublist.append_left (by simp) _)) (by omega)
   refine ⟨ts',t10,t11,g1,g1n,g2,?_⟩
   have ne:neF (.int m) (.int 2)=some (.bl false):=by rw [uw,decide_eq_true c]; rfl
   unfold yd
   simp only [hoT,Y8,ke,xn,Y9,g0e,g0n,Nat.reduceAdd,if_true,g0k,g0j,g0b,xJ,xB,zr,yB,xZ,g0c,g0a,ne,g1g,if_false,vT]
   unfold hoT at e
   exact e
  ·have ht':Nw n (ts++[(a,b,m)]):=fun t hq=>by
    rcases g1o.mp hq with q | q
    ·exact ht t q
    ·have e:t=(a,b,m):=by simpa using q
     subst e
     exact ⟨by show m=0\/(3<=m/\m<=6); omega,h1,h2,h3⟩
   obtain ⟨ts',t10,t11,g1,g1n,g2,e⟩:=WE (n:=n) a0 a1 a2 a3 a4 a5 a6 a7 a8 kvs (ts++[(a,b,m)]) (.fr (.tup [.int a,.int b])) (.fr (.int m)) hk' ht' (by rw [g0y,g1a]; exact hnd) (by rw [g0g,g0s]; omega)
   refine ⟨ts',t10,t11,g1,g1n,g2,?_⟩
   have ne:neF (.int m) (.int 2)=some (.bl true):=by rw [uw,decide_eq_false c]; rfl
   have em:(ts++[(a,b,m)]).map tD=ts.map tD++[.tup [.int a,.int b,.int m]]:=by simp [tD]
   rw [em] at e
   unfold yd
   simp only [hoT,Y8,ke,xn,Y9,g0e,g0n,Nat.reduceAdd,if_true,g0k,g0j,g0b,xJ,xB,zr,yB,xZ,g0c,g0a,ne,vB,qt,zo,zu,i0,i1,if_pos z3,if_pos z3',if_pos z]
   unfold hoT at e
   exact e
theorem Q9 (ns:List Int) (hl:ns.length<=63):∃ (n:Nat) (ts:List T3),1<=n/\n<=6/\Nw n ts/\(ts.map kyT).Nodup/\ts.length<=63/\vK [.lst (ns.map D.int),.int 0]=some (zh n ts):=by
 obtain ⟨z0,av0⟩:=Nd ns 0 (by omega)
 have av:jz [.lst (ns.map D.int),.int 0]=some (.int z0):=av0
 obtain ⟨z,hz,_,mv⟩:=QO z0 1 (by omega)
 have mv':wU [.int z0,.int 1]=some (.int z):=mv
 have d6:=vd (i:=z) (show (0:Int) < 6 by decide)
 obtain ⟨n,en,hn1,hn6⟩:∃ n:Nat,1+z % 6=(n:Int)/\1<=n/\n<=6:=⟨(1+z % 6).toNat,by omega,by omega,by omega⟩
 have z0':0<=sizeLine:=g1z _
 have z2:0+1+1<=sizeLine:=szl (by decide)
 have z2':2<=sizeLine:=szl (by decide)
 obtain ⟨l,ll,el⟩:∃ l:List Int,l.length<=63/\Zr (ns.map D.int) (some 1) (some 64)=l.map D.int:=by
  refine ⟨(ns.drop 1).take 63,by simp; omega,?_⟩
  have:=Dk (ns.map D.int) 1 64 (by decide)
  rw [<- List.map_drop,<- List.map_take] at this
  exact this
 obtain ⟨kvs,s5,s6,s7,s8,k1,k1n,k2,e1⟩:=WG hn1 (.fr (.lst (ns.map D.int))) (.fr (.int 0)) (.fr (.int z)) .no .no .no l [] .no .no .no .no (fun p hp=>by cases hp) (by simp) (by simp; omega)
 obtain ⟨ts,s10,s11,t1,t1n,t2,e2⟩:=WE (n:=n) (.fr (.lst (ns.map D.int))) (.fr (.int 0)) (.fr (.int z)) (.fr (.int n)) .no s5 s6 s7 s8 kvs [] .no .no k1 (fun t ht=>by cases ht) (by simpa using k1n) (by simp; omega)
 refine ⟨n,ts,hn1,hn6,t1,t1n,t2,?_⟩
 have sqL:∀ l:List D,U9 (.lst l)=some l:=fun _=>rfl
 unfold hoB at e1
 unfold hoT at e2
 unfold vK Zl
 simp only [yK,zV,g0h,g1b,g0e,g0n,Nat.reduceAdd,Nat.reduceSub,g0l,g0u,g0r,zx,ym,zU,zo,yB,zu,xZ,g0c,g0a,g0b,av,mv',zr,d6,Zt,en,g0k,g0j,Bx,vy,D6,Kz,KC,Int.zero_add,el,sqL]
 simp only [zQ,Yk,KC,zr,yB,xZ,g0a,g0c,g0b,Zt,Int.zero_add,el,xE]
 rw [e1]
 simp only [g0b,zx,jt,vn,zu,g0n,if_pos z0',g0k,g0j,Bv,g0c,g0a]
 rw [g1b] at e2
 rw [e2]
 simp only [g0b,Hl,Fd,yJ,qt,zo,zu,yB,g0c,g0a,g0k,g0j,g0e,g0n,if_pos z2,if_pos z2',xf]
 rfl
theorem QS (n:Nat) {ts:List T3} (hg:yg ts) (i j:Int):wD [zh n ts,.int i,.int j]=some (gD (jc ts i j)):=by
 have lt:=Xm n ts i j
 have z2:0+1+1<=sizeLine:=szl (by decide)
 unfold jc
 by_cases c:i=j
 ·subst c
  simp only [wD,j3,yK,zV,g0h,g1b,g0e,g0n,Nat.reduceAdd,Nat.reduceSub,g0l,g0u,g0r,zx,xJ,xB,zr,yB,g0a,g0c,g0b,Ue,decide_true,if_true,yJ,qt,zo,xZ,zu,if_pos z2,xf]
  rfl
 ·rw [if_neg c]
  have gm:=vg hg i j
  generalize zg ts i j=m at lt gm
  have hm:m=0\/m=2\/m=3\/m=4\/m=5\/m=6:=by omega
  by_cases d:i < j <;> rcases hm with rfl | rfl | rfl | rfl | rfl | rfl <;> simp [wD,j3,g0l,c,lt,d,sizeLine_eq,zS,gD,uw]
def vD (ts:List T3) (n:Nat):D:=.lst ((g0t n).map fun i=>.lst ((g0t n).map fun j=>gD (zc ts i j)))
theorem YB {β:Type} (n:Nat) (f:Int->β):(idx n).map f=(g0t n).map fun (i:Nat)=>f (i:Int):=by
 unfold idx
 rw [g1h]
 rfl
noncomputable def puB:FS:=xp 1 (zL (xX 1 [0,2] (UV (za (zb ixD (vF 0) (cF (.int 0))) zy)) (zB 0) ttF (zY wD (za (vF 1) (za (vF 2) (za (vF 0) zy))))))
theorem Qk (n:Nat) {ts:List T3} (hg:yg ts) (hn:n<=40):∀ (l:List Int) (acc:List D) (s2:Slot),acc.length+l.length<=90->∃ s2',yd (zB 2) puB (l.map D.int) [.fr (zh n ts),.ol acc,s2]=some (.nx [.fr (zh n ts),.ol (acc++l.map fun i=>.lst ((idx n).map fun j=>gD (jc ts i j))),s2'])
 | [],acc,s2,_=>⟨s2,by rw [g1b,g1b,g0x]; rfl⟩
 | i :: l,acc,s2,hlen=>by
  rw [g0e] at hlen
  obtain ⟨s2',e⟩:=Qk n hg hn l (acc++[.lst ((idx n).map fun j=>gD (jc ts i j))]) (.fr (.int i)) (by rw [g0g,g0s]; omega)
  refine ⟨s2',?_⟩
  have h0:ixD (zh n ts) (.int 0)=some (.int n):=by unfold zh; exact ix0
  have hr:uu [.int (n:Int)]=some ((idx n).map D.int):=by rw [wJ (by omega) (by omega),wg]
  have hz:((idx n).map D.int).length<=sizeLine:=by rw [g0f,wM]; exact szl (by omega)
  have hza:acc.length < sizeLine:=xt (by omega)
  have cm:=jB (f:=zY wD (za (vF 1) (za (vF 2) (za (vF 0) zy)))) (C:=[.fr (zh n ts),.fr (.int i)]) (ι:=D.int) (φ:=fun j=>gD (jc ts i j)) (idx n) .no (fun j _=>by
   simp only [zU,zo,zu,yB,g0a,g0c,g0b,QS n hg])
  rw [g0h]
  unfold yd
  simp only [puB,xn,g0b,g0k,g0j,vB,zP,xR,kb,zo,zu,zr,yB,xZ,g0a,g0c,h0,hr,if_pos hz,xQ,ui,g0h,g1b,g0l,g0u,g0r,cm,g1f,if_pos hza]
  unfold puB at e
  rw [e,g1a]
  rfl
theorem UC (n:Nat) {ts:List T3} (hg:yg ts) (hn:n<=40):vJ [zh n ts]=some (vD ts n):=by
 obtain ⟨s2,e⟩:=Qk n hg hn (idx n) [] .no (by rw [wM]; simp; omega)
 have h0:ixD (zh n ts) (.int 0)=some (.int n):=by unfold zh; exact ix0
 have hr:uu [.int (n:Int)]=some ((idx n).map D.int):=by rw [wJ (by omega) (by omega),wg]
 have z0:0<=sizeLine:=g1z _
 unfold puB at e
 simp only [vJ,Zk,yK,zV,g0h,g1b,g0e,g0n,Nat.reduceAdd,Nat.reduceSub,g0l,g0u,g0r]
 rw [zx (F:=VY 1 _),jt]
 simp only [vn,zu,g0b,g0n,if_pos z0,g0k,g0j]
 rw [zx (F:=jI _ _ _),vy]
 simp only [kb,zo,zu,zr,yB,xZ,g0a,g0b,h0,hr]
 rw [e]
 simp only [g0b,Hl,Fd,g0a,g0c,g0k,g0j,yJ,yB,xf,g0r]
 unfold vD
 rw [YB]
 congr 3
 funext i
 rw [YB]
 rfl
theorem KN (ts:List T3) {n i j:Nat} (hi:i < n) (hj:j < n):zb ixD (zb ixD (vF 0) (vF 1)) (vF 4)=zb ixD (zb ixD (vF 0) (vF 1)) (vF 4)/\ixD (vD ts n) (.int (i:Int))=some (.lst ((g0t n).map fun j=>gD (zc ts i j)))/\ixD (.lst ((g0t n).map fun j=>gD (zc ts i j))) (.int (j:Int))=some (gD (zc ts i j)):=by
 refine ⟨rfl,?_,?_⟩
 ·unfold vD
  exact uD (by rw [g0z,List.getElem?_range hi]; rfl)
 ·exact uD (by rw [g0z,List.getElem?_range hj]; rfl)
noncomputable def miB:FS:=z6 (yL 5 (zY wR (za (zb ixD (zb ixD (vF 0) (vF 1)) (vF 4)) (za (zb ixD (vF 2) (vF 4)) zy)))) (yL 3 (tupF (za (zb wB (zb ixD (vF 3) (cF (.int 0))) (zb ixD (vF 5) (cF (.int 0)))) (za (zb wB (zb ixD (vF 3) (cF (.int 1))) (zb ixD (vF 5) (cF (.int 1)))) zy))))
theorem Hm {r:List Gd} {i:Nat} (h:i < r.length):ixD (vQ r) (.int (i:Int))=some (gD (r.getD i (0,0))):=by
 unfold vQ
 exact uD (by rw [g0z,g0p h]; simp [g0d,h])
theorem QP {ts:List T3} {n i:Nat} (hi:i < n) {r:List Gd} (hr:r.length=n):∀ (m k:Nat) (acc:Gd) (s4 s5:Slot),k+m=n->∃ s4' s5',yd (zB 4) miB ((g0t m).map fun (a:Nat)=>D.int ((k+a:Nat):Int)) [.fr (vD ts n),.fr (.int (i:Int)),.fr (vQ r),.fr (gD acc),s4,s5]=some (.nx [.fr (vD ts n),.fr (.int (i:Int)),.fr (vQ r),.fr (gD (y6 (zc ts i) k (r.drop k) acc)),s4',s5'])
 | 0,k,acc,s4,s5,hk=>⟨s4,s5,by rw [g2s (by omega)]; rfl⟩
 | m+1,k,acc,s4,s5,hk=>by
  have hkn:k < n:=by omega
  obtain ⟨_,p1,p2⟩:=KN ts hi hkn
  have tv:=UA (r.getD k (0,0)) (x:=zc ts i k) (ki ts (i:Int) (k:Int))
  have rk:=Hm (r:=r) (i:=k) (by omega)
  have g0:∀ x:Gd,ixD (gD x) (.int 0)=some (.int x.1):=fun x=>ix0
  have g1:∀ x:Gd,ixD (gD x) (.int 1)=some (.int x.2):=fun x=>ix1
  have z2:0+1+1<=sizeLine:=szl (by decide)
  obtain ⟨s4',s5',e⟩:=QP hi hr m (k+1) (yu acc (yh (zc ts i k) (r.getD k (0,0)))) (.fr (.int (k:Int))) (.fr (gD (yh (zc ts i k) (r.getD k (0,0))))) (by omega)
  refine ⟨s4',s5',?_⟩
  have er:(g0t (m+1)).map (fun (a:Nat)=>D.int ((k+a:Nat):Int))=.int (k:Int) :: (g0t m).map fun (a:Nat)=>D.int ((k+1+a:Nat):Int):=by
   rw [g2l,g0h,g1h]
   congr 1
   apply g1r
   intro a _
   simp only [Function.comp]
   congr 2
   omega
  have ed:y6 (zc ts i) k (r.drop k) acc=y6 (zc ts i) (k+1) (r.drop (k+1)) (yu acc (yh (zc ts i k) (r.getD k (0,0)))):=by
   rw [g2f (by omega:k < r.length)]
   show y6 (zc ts i) (k+1) (r.drop (k+1)) (yu acc (yh (zc ts i k) r[k]))=_
   congr 3
   simp [g0d,show k < r.length by omega]
  rw [er,ed]
  unfold yd
  simp only [miB,xn,g0b,g0k,g0j,zx,ym,zU,zo,zu,zr,yB,xZ,g0a,g0c,p1,p2,rk,tv,qt,g0,g1,Zt,g0e,g0n,if_pos z2]
  unfold miB at e
  exact e
theorem Gq {ts:List T3} {n i:Nat} (hi:i < n) (hn:n<=40) {r:List Gd} (hr:r.length=n):xi [vD ts n,.int (i:Int),vQ r]=some (vQ (xq (zc ts i) i r)):=by
 obtain ⟨s4,s5,e⟩:=QP (ts:=ts) hi hr n 0 (0,0) .no .no (by omega)
 have ri:=Hm (r:=r) (i:=i) (by omega)
 have g0:∀ x:Gd,ixD (gD x) (.int 0)=some (.int x.1):=fun x=>ix0
 have g1:∀ x:Gd,ixD (gD x) (.int 1)=some (.int x.2):=fun x=>ix1
 have z2:0+1+1<=sizeLine:=szl (by decide)
 have z1:0+1<=sizeLine:=szl (by decide)
 have hz:r.length<=sizeLine:=by rw [hr]; exact szl (by omega)
 have ra:uu [.int (n:Int)]=some ((g0t n).map fun (a:Nat)=>D.int ((0+a:Nat):Int)):=by
  rw [wJ (by omega) (by omega),wg,YB]
  congr 2
  funext a
  simp
 have ln:uZ [vQ r]=some (.int (n:Int)):=by unfold vQ; rw [<- hr]; simp
 have c1:Zr (r.map gD) none (some (i:Int))=(r.take i).map gD:=by
  unfold Zr
  rw [show HT.sIx (r.map gD).length (r.map gD).length (some (i:Int))=i from by rw [HT.sIx_nat,g0f]; omega]
  show ((r.map gD).drop 0).take (i - 0)=_
  rw [List.drop_zero,Nat.sub_zero,List.map_take]
 have c2:Zr (r.map gD) (some ((i:Int)+1)) none=(r.drop (i+1)).map gD:=by
  rw [show (i:Int)+1=((i+1:Nat):Int) by omega]
  unfold Zr
  rw [show HT.sIx (r.map gD).length 0 (some ((i+1:Nat):Int))=i+1 from by rw [HT.sIx_nat,g0f]; omega]
  show ((r.map gD).drop (i+1)).take ((r.map gD).length - (i+1))=_
  rw [g3k (by rw [g3j]; omega),List.map_drop]
 have hs:(r.take i).map gD++[gD (yu (r.getD i (0,0)) (yS (y6 (zc ts i) 0 r (0,0))))]++(r.drop (i+1)).map gD=(xq (zc ts i) i r).map gD:=by
  unfold xq
  rw [List.set_eq_take_append_cons_drop,if_pos (by omega),g0y,g0h,g1a]
  rfl
 unfold miB at e
 have e:yd (zB 4) _ ((g0t n).map fun (a:Nat)=>D.int ((0+a:Nat):Int)) [.fr (vD ts n),.fr (.int (i:Int)),.fr (vQ r),.fr (.tup [.int 0,.int 0]),.no,.no]=_:=e
 simp only [xi,uH,yK,zV,g0h,g1b,g0e,g0n,Nat.reduceAdd,Nat.reduceSub,g0l,g0u,g0r]
 rw [zx (F:=yL 3 _),ym]
 simp only [qt,zo,zu,xZ,g0b,g0e,g0n,if_pos z2,g0k,g0j]
 rw [zx (F:=jI _ _ _),vy]
 simp only [kb,zo,zu,zU,yB,g0a,g0c,g0b,ln,ra]
 rw [e,List.drop_zero]
 have el:∀ a b:List D,a.length+b.length<=sizeLine->wB (.tup a) (.tup b)=some (.tup (a++b)):=fun a b h=>by
  unfold wB
  dsimp only
  rw [if_pos h]
 have gs:D.tup [.int ((r.getD i (0,0)).1 - (y6 (zc ts i) 0 r (0,0)).1),.int ((r.getD i (0,0)).2 - (y6 (zc ts i) 0 r (0,0)).2)]=gD (yu (r.getD i (0,0)) (yS (y6 (zc ts i) 0 r (0,0)))):=by
  unfold gD yu yS
  rfl
 have t1:((r.take i).map gD).length+[gD (yu (r.getD i (0,0)) (yS (y6 (zc ts i) 0 r (0,0))))].length<=sizeLine:=by
  rw [g0f,g3i,g0s]
  exact szl (by omega)
 have t2:((r.take i).map gD++[gD (yu (r.getD i (0,0)) (yS (y6 (zc ts i) 0 r (0,0))))]).length+((r.drop (i+1)).map gD).length<=sizeLine:=by
  rw [g0g,g0f,g3i,g0s,g0f,g3j]
  exact szl (by omega)
 have rd:vQ r=.tup (r.map gD):=rfl
 have ri':ixD (.tup (r.map gD)) (.int (i:Int))=some (gD (r.getD i (0,0))):=ri
 simp only [g0b,yJ,zr,Yk,KC,D9,qt,zo,zu,yB,xZ,g0a,g0c,Zt,Bp,ri',g0,g1,g0e,g0n,if_pos z2,if_pos z1,gs,rd,c1,c2,el _ _ t1,el _ _ t2,hs,xf]
 rfl
noncomputable def coB:FS:=ifS (qO (blF (zb (inD true) (vF 4) (vR 2))) (blF (zb neF (zY wC (za (vF 0) (za (zb ixD (vR 2) (vF 3)) (za (vF 4) zy)))) (cF (.int 2))))) (xp 2 (vF 4)) nxF
theorem MG {come:List Int} (o:Int):inD true (.int o) (.lst (come.map D.int))=some (.bl (!decide (o∈come))):=by
 have:=WD true come o
 rw [Bool.true_xor] at this
 exact this
theorem jY (n:Nat) (ts:List T3) (x:Int) (p:Nat) (y:Int):∀ (l come:List Int) (s4:Slot),l.Nodup->come[p]? = some y->come.length+l.length<=90->∃ s4',yd (zB 4) coB (l.map D.int) [.fr (zh n ts),.fr (.int x),.ol (come.map D.int),.fr (.int (p:Int)),s4] =
  some (.nx [.fr (zh n ts),.fr (.int x),.ol ((come++l.filter fun o=>decide (o∉come)&&decide (zg ts y o≠2)).map D.int),.fr (.int (p:Int)),s4'])
 | [],come,s4,_,_,_=>⟨s4,by rw [List.filter_nil,g0x]; rfl⟩
 | o :: l,come,s4,hn,hy,hlen=>by
  rw [g0e] at hlen
  rw [g2d] at hn
  have io:=MG (come:=come) o
  have iy:ixD (.lst (come.map D.int)) (.int (p:Int))=some (.int y):=Nu come p y hy
  have lt:=Xm n ts y o
  have hz:(come.map D.int).length < sizeLine:=by rw [g0f]; exact xt (by omega)
  rw [g0h]
  by_cases c1:o∈come
  ·obtain ⟨s4',e⟩:=jY n ts x p y l come (.fr (.int o)) hn.2 hy (by omega)
   refine ⟨s4',?_⟩
   rw [g3h (by simp [c1])]
   unfold yd
   rw [decide_eq_true c1] at io
   simp only [coB,xn,g0b,g0k,g0j,xJ,Xa,xB,zr,yB,Ke,g0a,g0c,io,g3m,g1g,if_false,vT]
   unfold coB at e
   exact e
  ·rw [decide_eq_false c1] at io
   by_cases c2:zg ts y o=2
   ·obtain ⟨s4',e⟩:=jY n ts x p y l come (.fr (.int o)) hn.2 hy (by omega)
    refine ⟨s4',?_⟩
    rw [g3h (by simp [c2])]
    have n2:neF (.int (zg ts y o)) (.int 2)=some (.bl false):=by rw [uw,decide_eq_true c2]; rfl
    unfold yd
    simp only [coB,xn,g0b,g0k,g0j,xJ,Xa,xB,zr,zU,zo,zu,yB,Ke,xZ,g0a,g0c,io,iy,lt,n2,Bool.not_false,if_true,g1g,if_false,vT]
    unfold coB at e
    exact e
   ·have hy':(come++[o])[p]? = some y:=by
     rw [g1e (g0v.mp hy).1]
     exact hy
    obtain ⟨s4',e⟩:=jY n ts x p y l (come++[o]) (.fr (.int o)) hn.2 hy' (by rw [g0g,g0s]; omega)
    refine ⟨s4',?_⟩
    have n2:neF (.int (zg ts y o)) (.int 2)=some (.bl true):=by rw [uw,decide_eq_false c2]; rfl
    have ef:(l.filter fun z=>decide (z∉come++[o])&&decide (zg ts y z≠2))=l.filter fun z=>decide (z∉come)&&decide (zg ts y z≠2):=g2t fun z hz=>by
     congr 1
     rw [decide_eq_decide]
     have:z≠o:=fun q=>hn.1 (q ▸ hz)
     simp [this]
    rw [g3x (by simp [c1,c2])]
    have em:(come++[o]).map D.int=come.map D.int++[.int o]:=by simp
    rw [ef,g1a,g2g,em] at e
    unfold yd
    simp only [coB,xn,g0b,g0k,g0j,xJ,Xa,xB,zr,zU,zo,zu,yB,Ke,xZ,g0a,g0c,io,iy,lt,n2,Bool.not_false,if_true,vB,if_pos hz]
    unfold coB at e
    exact e
abbrev coC:FT:=blF (zb ltD (vF 3) (zY uZ (za (vR 2) zy)))
noncomputable abbrev coW:FS:=z6 (jI (UV (za (zb ixD (vF 0) (cF (.int 0))) zy)) (zB 4) coB) (yL 3 (zb wB (vF 3) (cF (.int 1))))
theorem Cu (n:Nat) (t:Int->Int->Int) (come:List Int) {y:Int} (hy:y∈come):nbM t y ((idx n).filter fun o=>decide (o∉come))=(idx n).filter fun o=>decide (o∉come)&&decide (t y o≠2):=by
 unfold nbM
 rw [List.filter_filter]
 refine g2t fun o _=>?_
 by_cases c:o∈come
 ·simp [c]
 ·have:o≠y:=fun z=>c (z ▸ hy)
  simp [c,this]
theorem QT (n:Nat) (t:Int->Int->Int) (come:List Int) (y:Int):((idx n).filter fun o=>decide (o∉come)).filter (fun o=>decide (o∉nbM t y ((idx n).filter fun o=>decide (o∉come))))=(idx n).filter fun o=>decide (o∉come++nbM t y ((idx n).filter fun o=>decide (o∉come))):=by
 rw [List.filter_filter]
 refine g2t fun o _=>?_
 generalize nbM t y ((idx n).filter fun o=>decide (o∉come))=N
 by_cases c1:o∈come <;> by_cases c2:o∈N <;> simp [c1,c2]
theorem JP (n:Nat) (ts:List T3) (x:Int) (hn:n<=40):∀ (k N:Nat) (come:List Int) (p:Nat) (s4:Slot),come.length+((idx n).filter fun o=>decide (o∉come)).length<=k+p->k < N->come.length+((idx n).filter fun o=>decide (o∉come)).length<=50 →
  ∃ s3 s4',yo coC coW N [.fr (zh n ts),.fr (.int x),.ol (come.map D.int),.fr (.int (p:Int)),s4]=some (.nx [.fr (zh n ts),.fr (.int x),.ol ((js (zg ts) k come ((idx n).filter fun o=>decide (o∉come)) p).map D.int),s3,s4'])
 | k,0,come,p,s4,h1,h2,h3=>by omega
 | k,N+1,come,p,s4,h1,h2,h3=>by
  have hc:coC [.fr (zh n ts),.fr (.int x),.ol (come.map D.int),.fr (.int (p:Int)),s4]=some (decide ((p:Int) < (come.length:Int))):=by
   simp only [coC,xB,zr,yB,zU,zo,zu,Ke,g0a,g0c,g0b,kc,NS,g0f]
  have stop:come.length<=p->yo coC coW (N+1) [.fr (zh n ts),.fr (.int x),.ol (come.map D.int),.fr (.int (p:Int)),s4]=some (.nx [.fr (zh n ts),.fr (.int x),.ol (come.map D.int),.fr (.int (p:Int)),s4]):=fun hp=>by
   unfold yo
   rw [hc,decide_eq_false (by omega)]
   rfl
  match k with
  | 0=>exact ⟨_,_,stop (by omega)⟩
  | k+1 =>
   cases e:come[p]? with
   | none =>
    unfold js
    rw [e]
    exact ⟨_,_,stop (g3n.mp e)⟩
   | some y =>
    have hp:p < come.length:=(g0v.mp e).1
    have hy:y∈come:=g1y e
    have hnl:=Cu n (zg ts) come hy
    have hs:=jQ (zg ts) y ((idx n).filter fun o=>decide (o∉come))
    have hll:=QT n (zg ts) come y
    have hfl:((idx n).filter fun o=>decide (o∉come)).length<=(idx n).length:=g2o _ _
    obtain ⟨s4',ei⟩:=jY n ts x p y (idx n) come s4 (vE n) e (by rw [wM]; omega)
    rw [<- hnl] at ei
    have hlen2:((idx n).filter fun o=>decide (o∉come++nbM (zg ts) y ((idx n).filter fun o=>decide (o∉come)))).length+(nbM (zg ts) y ((idx n).filter fun o=>decide (o∉come))).length=((idx n).filter fun o=>decide (o∉come)).length:=by
     rw [<- hll]
     omega
    obtain ⟨s3,t4,ih⟩:=JP n ts x hn k N (come++nbM (zg ts) y ((idx n).filter fun o=>decide (o∉come))) (p+1) s4' (by rw [g0g]; omega) (by omega) (by rw [g0g]; omega)
    refine ⟨s3,t4,?_⟩
    have h0:ixD (zh n ts) (.int 0)=some (.int n):=by unfold zh; exact ix0
    have hr:uu [.int (n:Int)]=some ((idx n).map D.int):=by rw [wJ (by omega) (by omega),wg]
    have body:coW [.fr (zh n ts),.fr (.int x),.ol (come.map D.int),.fr (.int (p:Int)),s4]=some (.nx [.fr (zh n ts),.fr (.int x),.ol ((come++nbM (zg ts) y ((idx n).filter fun o=>decide (o∉come))).map D.int),.fr (.int ((p+1:Nat):Int)),s4']):=by
     unfold coW
     rw [zx,vy]
     simp only [kb,zo,zu,zr,yB,xZ,g0a,g0b,h0,hr]
     rw [ei]
     simp only [g0b,ym,zr,yB,xZ,g0a,g0c,Zt,g0k,g0j]
     rfl
    unfold js yo
    rw [hc,decide_eq_true (by omega),e]
    show (coW _).bind _=_
    rw [body]
    dsimp only
    rw [hll]
    exact ih
theorem G5 (n:Nat) (ts:List T3) (x:Int) (hn:n<=40) (hx:x∈idx n):vZ [zh n ts,.int x]=some (lD (PM n ts x)):=by
 have hf:(idx n).filter (fun o=>decide (o∉[x]))=woM (idx n) x:=by
  unfold woM
  exact g2t fun o _=>by simp
 have hw:=Hg hx
 obtain ⟨s3,s4,h⟩:=JP n ts x hn n 100000 [x] 0 .no (by rw [hf]; simp; omega) (by omega) (by rw [hf]; simp; omega)
 rw [hf] at h
 have hb:=WT (zg ts) n [x] (woM (idx n) x) 0
 have h3:=jO (fa:=za (vR 2) zy) (ρ:=[.fr (zh n ts),.fr (.int x),.ol ((js (zg ts) n [x] (woM (idx n) x) 0).map D.int),s3,s4]) (l:=js (zg ts) n [x] (woM (idx n) x) 0) rfl (by simp at hb; omega)
 have hz:1<=sizeLine:=szl (by omega)
 have h:yo coC coW 100000 [.fr (zh n ts),.fr (.int x),.ol [.int x],.fr (.int 0),.no]=_:=h
 unfold coW coC coB at h
 simp only [vZ,YU,yK,zV,g0h,g1b,g0e,g0n,Nat.reduceAdd,Nat.reduceSub,g0l,g0u,g0r,zx,jt,vn,zo,zu,yB,g0a,g0c,g0b,if_pos hz,g0k,g0j,ym,xZ]
 first | rw [h] | (erw [h])
 simp only [g0b,yJ,zP,h3,g1f,xf]
 rfl
def kR (r:List Gd):KTy 2:=g2z (fun x:Gd=>([x.1,x.2]:List Int)) r
theorem RF (r:List Gd):dOf 2 (kR r)=vQ r:=by
 have:∀ l:List Gd,g2z (dOf 1) (kR l)=l.map gD:=fun l=>by
  induction l with
  | nil=>rfl
  | cons x l ih=>exact congrArg (gD x :: ·) ih
 exact congrArg D.tup (this r)
theorem CS (r:List Gd):asK 2 (vQ r)=some (kR r):=by rw [<- RF]; exact HW 2 (kR r)
theorem Mv {r r':List Gd} (h:kR r=kR r'):r=r':=by
 unfold kR at h
 refine (List.map_inj_right fun x y e=>?_).mp h
 have e:([x.1,x.2]:List Int)=[y.1,y.2]:=e
 injection e with e1 e2
 injection e2 with e2 e3
 exact Prod.ext e1 e2
theorem Vs {r:List Gd} {C:List (List Gd)}:kR r∈C.map kR↔r∈C:=by
 rw [g1i]
 exact ⟨fun ⟨x,hx,e⟩=>Mv e ▸ hx,fun h=>⟨r,h,rfl⟩⟩
theorem Cs {ρ:Rho} {ks:List (KTy 2)} {r:List Gd} (h5:ρ[5]? = some (.oX 2 ks)) (h6:vF 6 ρ=some (vQ r)):Wt 5 (vF 6) ρ=some (!decide (kR r∈ks)):=by
 rw [Bt,h6,g0b,h5]
 show (if 1<=3 then (asK 2 (vQ r)).bind fun k=>some (!decide (k∈ks)) else none)=_
 rw [CS]
 rfl
theorem BG {ρ:Rho} {ks:List (KTy 2)} {r:List Gd} (h5:ρ[5]? = some (.oX 2 ks)) (h6:vF 6 ρ=some (vQ r)) (hz:ks.length < sizeLine) (hn:kR r∉ks):Xc 5 (vF 6) (cF (.bl true)) ρ=some (.nx (ρ.set 5 (.oX 2 (ks++[kR r])))):=by
 rw [Br,xZ,g0b,h6,g0b,h5]
 show (if 1<=3/\ks.length < sizeLine then (asK 2 (vQ r)).bind fun k=>some (Out.nx (ρ.set 5 (.oX 2 (if k∈ks then ks else ks++[k])))) else none)=_
 rw [CS,if_pos ⟨by decide,hz⟩,g0b,if_neg hn]
structure RI (ts:List T3) (n:Nat) (S:List Nat) (C:List (List Gd)):Prop where
 nd:C.Nodup
 pr:∀ (q:Nat) (r:List Gd),C[q]? = some r->NNr r/\∃ w s,(∀ i∈w,i∈S)/\s∈S/\w.length<=q/\r=zO (zc ts) w (zE n s)
 sim:∀ s∈S,zE n s∈C
noncomputable def roB:FS:=z6 (yL 6 (zY xi (za (vF 2) (za (vF 4) (za (zb ixD (vR 3) (vF 7)) zy))))) (ifS (qO (Wt 5 (vF 6)) (blF (zb (inD true) (zb jN (cF (.int 0)) (cF (.int 1))) (zL (xX 1 [] (zF (vF 6)) (zB 0) ttF (zY yZ (za (vF 0) zy))))))) (z6 (Xc 5 (vF 6) (cF (.bl true))) (xp 3 (vF 6))) nxF)
abbrev stR (n:Nat) (ts:List T3) (ms:List Int) (C:List (List Gd)) (p:Nat) (s4 s6:Slot):Rho:=[.fr (zh n ts),.fr (lD ms),.fr (vD ts n),.ol (C.map vQ),s4,.oX 2 (C.map kR),s6,.fr (.int (p:Int))]
section
variable {ts:List T3} {n:Nat} {S:List Nat}
theorem Bz (hg:yg ts) (hn:n<=6) (hS:∀ i∈S,i < n) (ms:List Int) {C:List (List Gd)} (hC:RI ts n S C) {p:Nat} {r:List Gd} (hp:C[p]? = some r) (hlen:C.length<=90) {i:Nat} (hi:i∈S) (s6:Slot) :
  ∃ T:List (List Gd),T.length<=1/\RI ts n S (C++T)/\(NNr (xq (zc ts i) i r)->xq (zc ts i) i r∈C++T)/\roB (stR n ts ms C p (.fr (.int (i:Int))) s6)=some (.nx (stR n ts ms (C++T) p (.fr (.int (i:Int))) (.fr (vQ (xq (zc ts i) i r))))):=by
 obtain ⟨hnn,w,s,hw,hs,hwl,er⟩:=hC.pr p r hp
 have hpl:p < C.length:=(g0v.mp hp).1
 have hrl:r.length=n:=by rw [er,zp,ze]
 have hin:=hS i hi
 have e':xq (zc ts i) i r=zO (zc ts) (i :: w) (zE n s):=by rw [er]; rfl
 have hwn:InW n (i :: w):=fun j hj=>(g0o.mp hj).elim (fun z=>z ▸ hin) fun z=>hS j (hw j z)
 have lm:=Gq (ts:=ts) hin (by omega) hrl
 have ix:ixD (.lst (C.map vQ)) (.int (p:Int))=some (vQ r):=uD (by rw [g0z,hp]; rfl)
 have fit:=CD ts hn (w:=i :: w) (by rw [g0e]; omega) s
 rw [<- e'] at fit
 have ml:(xq (zc ts i) i r).length=n:=by rw [e',zp,ze]
 have sc:=Ub (r:=xq (zc ts i) i r) (by omega) (g:=yZ) fun x hx=>QR (fit x hx).1 (fit x hx).2
 have one:=uP (ts:=ts) (n:=n) hg hwn (hS s hs)
 have nz:=vG (ts:=ts) (n:=n) hwn (hS s hs)
 rw [<- e'] at one nz
 have ins:=GD true (-1) (xq (zc ts i) i r)
 generalize xq (zc ts i) i r=m at *
 have hzm:(m.map gD).length<=sizeLine:=by rw [g0f,ml]; exact szl (by omega)
 have hz:(C.map vQ).length < sizeLine:=by rw [g0f]; exact xt (by omega)
 have hzk:(C.map kR).length < sizeLine:=by rw [g0f]; exact xt (by omega)
 have nr:=Cs (ρ:=stR n ts ms C p (.fr (.int (i:Int))) (.fr (vQ m))) (ks:=C.map kR) (r:=m) rfl rfl
 have pu:=BG (ρ:=stR n ts ms C p (.fr (.int (i:Int))) (.fr (vQ m))) (ks:=C.map kR) (r:=m) rfl rfl hzk
 have st:roB (stR n ts ms C p (.fr (.int (i:Int))) s6)=(ifS (qO (Wt 5 (vF 6)) (blF (zb (inD true) (zb jN (cF (.int 0)) (cF (.int 1))) (zL (xX 1 [] (zF (vF 6)) (zB 0) ttF (zY yZ (za (vF 0) zy))))))) (z6 (Xc 5 (vF 6) (cF (.bl true))) (xp 3 (vF 6))) nxF) (stR n ts ms C p (.fr (.int (i:Int))) (.fr (vQ m))):=by
  unfold roB
  rw [zx,ym]
  simp only [zU,zo,zu,zr,yB,Ke,g0a,g0c,g0b,ix,lm,g0k,g0j]
 have sg:blF (zb (inD true) (zb jN (cF (.int 0)) (cF (.int 1))) (zL (xX 1 [] (zF (vF 6)) (zB 0) ttF (zY yZ (za (vF 0) zy))))) (stR n ts ms C p (.fr (.int (i:Int))) (.fr (vQ m)))=some (xor true (MH (-1) m)):=by
  have rd:vQ m=.tup (m.map gD):=rfl
  simp only [xB,zr,xZ,g0b,Bp,zP,xR,zQ,yB,g0a,g0c,rd,D7,if_pos hzm,xQ,g1b,g0l,g0u,g0r,sc,g1f]
  rw [show (0:Int) - 1 = -1 from rfl,ins]
  rfl
 rw [st,xJ,Xa,nr,g0b]
 by_cases c1:m∈C
 ·refine ⟨[],by simp,by simpa using hC,fun _=>by simpa using c1,?_⟩
  rw [decide_eq_true (Vs.mpr c1),g0x]
  rfl
 ·rw [decide_eq_false (fun z=>c1 (Vs.mp z))]
  rcases one with one | one
  ·refine ⟨[m],by simp,⟨?_,?_,?_⟩,fun _=>by simp,?_⟩
   ·rw [g2u]
    exact ⟨hC.nd,by simp,fun a ha b hb=>by rw [List.mem_singleton] at hb; subst hb; exact fun z=>c1 (z ▸ ha)⟩
   ·intro q r' hq
    by_cases hql:q < C.length
    ·rw [g1e hql] at hq
     exact hC.pr q r' hq
    ·rw [g1q (by omega)] at hq
     have:q - C.length=0:=by
      cases hd:q - C.length with
      | zero=>rfl
      | succ k=>rw [hd] at hq; cases hq
     rw [this] at hq
     cases hq
     refine ⟨one,i :: w,s,fun j hj=>(g0o.mp hj).elim (fun z=>z ▸ hi) (hw j),hs,?_,e'⟩
     rw [g0e]
     omega
   ·exact fun s hs=>g1w _ (hC.sim s hs)
   ·have hno:MH (-1) m=false:=one.no
    rw [hno] at sg
    show ((blF _ _).bind _)=_
    rw [sg]
    show (z6 (Xc 5 (vF 6) (cF (.bl true))) (xp 3 (vF 6))) _=_
    rw [zx,pu (fun z=>c1 (Vs.mp z))]
    simp only [g0k,g0j,g0b,vB,yB,g0a,g0c,if_pos hz,stR,g0y,g0h,g1b]
  ·refine ⟨[],by simp,by simpa using hC,fun z=>absurd one (z.notP nz),?_⟩
   have hno:MH (-1) m=true:=one.yes nz
   rw [hno] at sg
   show ((blF _ _).bind _)=_
   rw [sg,g0x]
   rfl
theorem Va (hg:yg ts) (hn:n<=6) (hS:∀ i∈S,i < n) (ms:List Int) {p:Nat} {r:List Gd}:∀ (l:List Nat) (C:List (List Gd)) (s4 s6:Slot),(∀ i∈l,i∈S)->RI ts n S C->C[p]? = some r->C.length+l.length<=90 →
  ∃ (T:List (List Gd)) (s4' s6':Slot),T.length<=l.length/\RI ts n S (C++T)/\(∀ i∈l,NNr (xq (zc ts i) i r)->xq (zc ts i) i r∈C++T)/\yd (zB 4) roB (l.map fun (i:Nat)=>D.int (i:Int)) (stR n ts ms C p s4 s6)=some (.nx (stR n ts ms (C++T) p s4' s6'))
 | [],C,s4,s6,_,hC,_,_=>⟨[],s4,s6,by simp,by simpa using hC,fun i hi=>(by cases hi),by rw [g0x]; rfl⟩
 | i :: l,C,s4,s6,hl,hC,hp,hlen=>by
  rw [g0e] at hlen
  obtain ⟨T,h1,h2,h3,h4⟩:=Bz hg hn hS ms hC hp (by omega) (hl i g0i) s6
  have hp':(C++T)[p]? = some r:=by rw [g1e (g0v.mp hp).1]; exact hp
  obtain ⟨T',s4',s6',k1,k2,k3,k4⟩:=Va hg hn hS ms l (C++T) (.fr (.int (i:Int))) (.fr (vQ (xq (zc ts i) i r))) (fun j hj=>hl j (g0m _ hj)) h2 hp' (by rw [g0g]; omega)
  refine ⟨T++T',s4',s6',by rw [g0g,g0e]; omega,by rw [<- g1a]; exact k2,fun j hj hnn=>?_,?_⟩
  ·rw [<- g1a]
   rcases g0o.mp hj with z | z
   ·subst z
    exact g1w _ (h3 hnn)
   ·exact k3 j z hnn
  ·rw [<- g1a,<- k4,g0h]
   rw [yd]
   show (roB (stR n ts ms C p (.fr (.int (i:Int))) s6)).bind _=_
   rw [h4]
   rfl
def CB (ts:List T3) (S:List Nat) (p:Nat) (C:List (List Gd)):Prop:=∀ q r,q < p->C[q]? = some r->∀ i∈S,NNr (xq (zc ts i) i r)->xq (zc ts i) i r∈C
abbrev roC:FT:=qO (blF (zb ltD (vF 7) (zY uZ (za (vR 3) zy)))) (blF (zb leD (zY uZ (za (vR 3) zy)) (cF (.int 60))))
noncomputable def roW:FS:=z6 (jI (zF (vF 1)) (zB 4) roB) (yL 7 (zb wB (vF 7) (cF (.int 1))))
theorem Qh (hg:yg ts) (hn:n<=6) (hS:∀ i∈S,i < n) (hSl:S.length<=6) {ms:List Int} (hms:ms=S.map fun (i:Nat)=>(i:Int)):∀ (N:Nat) (C:List (List Gd)) (p:Nat) (s4 s6:Slot),RI ts n S C->C.length<=66->CB ts S p C->p<=61->62<=N+p →
  ∃ (C':List (List Gd)) (p':Nat) (s4' s6':Slot),RI ts n S C'/\C'.length<=66/\(60 < C'.length\/CB ts S C'.length C')/\yo roC roW N (stR n ts ms C p s4 s6)=some (.nx (stR n ts ms C' p' s4' s6'))
 | 0,C,p,s4,s6,_,_,_,h4,h5=>by omega
 | N+1,C,p,s4,s6,hC,hl,hb,h4,h5=>by
  have hc:roC (stR n ts ms C p s4 s6)=some (decide (p < C.length)&&decide (C.length<=60)):=by
   have d1:decide ((p:Int) < (C.length:Int))=decide (p < C.length):=by simp
   have d2:decide ((C.length:Int)<=60)=decide (C.length<=60):=by rw [decide_eq_decide]; omega
   simp only [roC,Xa,xB,zr,yB,zU,zo,zu,Ke,xZ,g0a,g0c,g0b,kc,NS,Rp,g0f,d1,d2]
   cases decide (p < C.length) <;> rfl
  unfold yo
  rw [hc]
  by_cases c1:p < C.length
  ·by_cases c2:C.length<=60
   ·have e:C[p]? = some C[p]:=g0p c1
    obtain ⟨T,s4',s6',h1,h2,h3,h4'⟩:=Va hg hn hS ms S C s4 s6 (fun _ h=>h) hC e (by omega)
    have body:roW (stR n ts ms C p s4 s6)=some (.nx (stR n ts ms (C++T) (p+1) s4' s6')):=by
     unfold roW
     rw [zx,vy]
     have hmm:ms.map D.int=S.map fun (i:Nat)=>D.int (i:Int):=by rw [hms,g1h]; rfl
     simp only [zQ,yB,g0a,g0c,g0b,xE,hmm]
     first | rw [h4'] | (rw [hmm] at h4'; rw [h4'])
     simp only [g0b,ym,zr,yB,xZ,g0a,g0c,Zt,g0k,g0j]
     rfl
    obtain ⟨C',p',t4,t6,k1,k2,k3,k4⟩:=Qh hg hn hS hSl hms N (C++T) (p+1) s4' s6' h2 (by rw [g0g]; omega) (fun q r hq hr i hi hnn=>by
     by_cases z:q=p
     ·subst z
      rw [g1e c1,e] at hr
      cases hr
      exact h3 i hi hnn
     ·rw [g1e (by omega)] at hr
      exact g1w _ (hb q r (by omega) hr i hi hnn)) (by omega) (by omega)
    refine ⟨C',p',t4,t6,k1,k2,k3,?_⟩
    rw [decide_eq_true c1,decide_eq_true c2]
    show (roW _).bind _=_
    rw [body]
    exact k4
   ·refine ⟨C,p,s4,s6,hC,hl,.inl (by omega),?_⟩
    rw [decide_eq_false c2,Bool.and_false]
    rfl
  ·refine ⟨C,p,s4,s6,hC,hl,.inr fun q r hq=>hb q r (by omega),?_⟩
   rw [decide_eq_false c1,Bool.false_and]
   rfl
end
theorem Qj (a0 a1 a2 a3 a4 a7:Slot):∀ (l C:List (List Gd)) (s6:Slot),(C++l).Nodup->C.length+l.length<=90->∃ s6',FL.putAll 6 5 (l.map vQ) [a0,a1,a2,a3,a4,.oX 2 (C.map kR),s6,a7]=some [a0,a1,a2,a3,a4,.oX 2 ((C++l).map kR),s6',a7]
 | [],C,s6,_,_=>⟨s6,by rw [g0x]; rfl⟩
 | r :: l,C,s6,hn,hl=>by
  rw [g0e] at hl
  have hz:(C.map kR).length < sizeLine:=by rw [g0f]; exact xt (by omega)
  have hm:kR r∉C.map kR:=fun z=>(g2u.mp hn).2.2 r (Vs.mp z) r g0i rfl
  have ea:C++r :: l=(C++[r])++l:=by rw [g1a]; rfl
  rw [ea] at hn ⊢
  obtain ⟨s6',e⟩:=Qj a0 a1 a2 a3 a4 a7 l (C++[r]) (.fr (vQ r)) hn (by rw [g0g,g0s]; omega)
  refine ⟨s6',?_⟩
  rw [g0h,FL.putAll]
  show (if 1<=3/\(C.map kR).length < sizeLine/\6 < 8 then (asK 2 (vQ r)).bind fun k=>FL.putAll 6 5 (l.map vQ) [a0,a1,a2,a3,a4,.oX 2 (if k∈C.map kR then C.map kR else C.map kR++[k]),.fr (vQ r),a7] else none)=_
  rw [if_pos ⟨by decide,hz,by decide⟩,CS,g0b,if_neg hm,<- e,g0y]
  rfl
noncomputable def siB:FS:=xp 3 (zY uq (za (zL (xX 1 [4] (UV (za (zb ixD (vF 0) (cF (.int 0))) zy)) (zB 0) ttF (tupF (za (zY HI (za (zb eqF (vF 1) (vF 0)) zy)) (za (cF (.int 0)) zy))))) zy))
theorem U8 (n:Nat) (ts:List T3) (hn:n<=6) (a1 a2 a5 a6 a7:Slot):∀ (l:List Nat) (C:List (List Gd)) (s4:Slot),C.length+l.length<=90->∃ s4',yd (zB 4) siB (l.map fun (i:Nat)=>D.int (i:Int)) [.fr (zh n ts),a1,a2,.ol (C.map vQ),s4,a5,a6,a7]=some (.nx [.fr (zh n ts),a1,a2,.ol ((C++l.map (zE n)).map vQ),s4',a5,a6,a7])
 | [],C,s4,_=>⟨s4,by rw [g1b,g1b,g0x]; rfl⟩
 | i :: l,C,s4,hl=>by
  rw [g0e] at hl
  obtain ⟨s4',e⟩:=U8 n ts hn a1 a2 a5 a6 a7 l (C++[zE n i]) (.fr (.int (i:Int))) (by rw [g0g,g0s]; omega)
  refine ⟨s4',?_⟩
  have h0:ixD (zh n ts) (.int 0)=some (.int n):=by unfold zh; exact ix0
  have hr:uu [.int (n:Int)]=some ((idx n).map D.int):=by rw [wJ (by omega) (by omega),wg]
  have hz:((idx n).map D.int).length<=sizeLine:=by rw [g0f,wM]; exact szl (by omega)
  have hza:(C.map vQ).length < sizeLine:=by rw [g0f]; exact xt (by omega)
  have z2:0+1+1<=sizeLine:=szl (by decide)
  have cm:=jB (f:=tupF (za (zY HI (za (zb eqF (vF 1) (vF 0)) zy)) (za (cF (.int 0)) zy))) (C:=[.fr (.int (i:Int))]) (ι:=D.int) (φ:=fun j=>gD (if j=(i:Int) then (1,0) else (0,0))) (idx n) .no (fun j _=>by
   simp only [qt,zU,zo,zu,zr,yB,xZ,g0a,g0c,g0b,Ue,Fc,g0e,g0n,if_pos z2]
   by_cases c:j=(i:Int)
   ·rw [if_pos c,decide_eq_true c.symm]; rfl
   ·rw [if_neg c,decide_eq_false (fun z=>c z.symm)]; rfl)
  have es:((idx n).map fun j=>gD (if j=(i:Int) then (1,0) else (0,0)))=(zE n i).map gD:=by
   rw [YB]
   unfold zE
   rw [g1h]
   refine g1r fun k _=>?_
   show gD _=gD _
   congr 1
   by_cases c:k=i
   ·rw [if_pos (by omega)]
    exact (if_pos c).symm
   ·rw [if_neg (by omega)]
    exact (if_neg c).symm
  rw [es] at cm
  have tp:uq [.lst ((zE n i).map gD)]=some (vQ (zE n i)):=rfl
  rw [g0h,yd]
  simp only [xn,g0b,g0k,g0j,siB,vB,zU,zo,zu,zP,xR,kb,zr,yB,xZ,g0a,g0c,h0,hr,if_pos hz,xQ,ui,g0h,g1b,g0l,g0u,g0r,cm,g1f,tp,if_pos hza]
  unfold siB at e
  rw [g1a,g2g,g0y (l₁:=C) (l₂:=[zE n i])] at e
  exact e
theorem Bl {n a b:Nat} (ha:a < n) (h:zE n a=zE n b):a=b:=by
 have e:=congrArg (fun r:List Gd=>r.getD a (0,0)) h
 rw [yF ha,yF ha,if_pos rfl] at e
 by_cases c:a=b
 ·exact c
 ·rw [if_neg c] at e
  cases e
theorem kg {ts:List T3} (hg:yg ts) {n:Nat} (hn:n<=6) {S:List Nat} (hS:∀ i∈S,i < n) (hSn:S.Nodup) (hSl:S.length<=6) {ms:List Int} (hms:ms=S.map fun (i:Nat)=>(i:Int)) :
  ∃ C:List (List Gd),RI ts n S C/\C.length<=66/\(60 < C.length\/CB ts S C.length C)/\xw [zh n ts,lD ms]=some (.int (C.length:Int)):=by
 have nd:(S.map (zE n)).Nodup:=by
  rw [g1l,g2n]
  exact (g1l.mp hSn).imp_of_mem fun {a b} ha hb hab z=>hab (Bl (hS a ha) z)
 have R0:RI ts n S (S.map (zE n)):=⟨nd,fun q r hq=>by
  rw [g0z] at hq
  cases e:S[q]? with
  | none=>rw [e] at hq; cases hq
  | some s =>
   rw [e] at hq
   cases hq
   exact ⟨D4 n s,[],s,fun _ h=>(by cases h),g1y e,g1z _,rfl⟩,fun s hs=>g1i.mpr ⟨s,hs,rfl⟩⟩
 obtain ⟨s4,e1⟩:=U8 n ts hn (.fr (lD ms)) (.fr (vD ts n)) .no .no .no S [] .no (by simp; omega)
 obtain ⟨s6,e2⟩:=Qj (.fr (zh n ts)) (.fr (lD ms)) (.fr (vD ts n)) (.ol ((S.map (zE n)).map vQ)) s4 .no (S.map (zE n)) [] .no (by simpa using nd) (by simp; omega)
 obtain ⟨C,p,t4,t6,k1,k2,k3,k4⟩:=Qh hg hn hS hSl hms 100000 (S.map (zE n)) 0 s4 s6 R0 (by simp; omega) (fun q r hq=>by omega) (by omega) (by omega)
 refine ⟨C,k1,k2,k3,?_⟩
 have lp:=UC n hg (by omega)
 have z0:0<=sizeLine:=g1z _
 have hmm:ms.map D.int=S.map fun (i:Nat)=>D.int (i:Int):=by rw [hms,g1h]; rfl
 unfold siB at e1
 unfold roW roB roC at k4
 rw [g1b,g0r] at e1
 rw [g1b,g0r] at e2
 simp only [xw,Zj,yK,zV,g0h,g1b,g0e,g0n,Nat.reduceAdd,Nat.reduceSub,g0l,g0u,g0r]
 rw [zx (F:=yL 2 _),ym]
 simp only [zU,zo,zu,yB,g0a,g0b,lp,g0k,g0j]
 rw [zx (F:=VY 3 _),jt]
 simp only [vn,zu,g0b,g0n,if_pos z0,g0k,g0j]
 rw [zx (F:=jI _ _ _),vy]
 simp only [zQ,yB,g0a,g0c,g0b,xE]
 rw [hmm,e1]
 simp only [g0b]
 rw [zx (F:=VJ 5 2),KD]
 simp only [g0b,g0k,g0j]
 rw [zx (F:=jj 6 3 5)]
 have fp:jj 6 3 5 [.fr (zh n ts),.fr (lD ms),.fr (vD ts n),.ol ((S.map (zE n)).map vQ),s4,.oX 2 [],.no,.no]=some (.nx [.fr (zh n ts),.fr (lD ms),.fr (vD ts n),.ol ((S.map (zE n)).map vQ),s4,.oX 2 ((S.map (zE n)).map kR),s6,.no]):=by
  unfold jj
  show (FL.putAll 6 5 ((S.map (zE n)).map vQ) _).bind _=_
  rw [e2]
  rfl
 rw [fp]
 simp only [g0b]
 rw [zx (F:=yL 7 _),ym]
 simp only [xZ,g0b,g0k,g0j]
 rw [zx (F:=yo _ _ _)]
 have k4':=k4
 unfold stR at k4'
 first | rw [k4] | (erw [k4]) | (rw [hmm] at k4'; rw [k4'])
 simp only [g0b,yJ,zU,zo,zu,Ke,g0a,g0c,kc,g0f,xf]
theorem Ug {ts:List T3} (hg:yg ts) {n:Nat} (hn:n<=6) {S:List Nat} (hS:∀ i∈S,i < n) (hSn:S.Nodup) (hSl:S.length<=6) {ms:List Int} (hms:ms=S.map fun (i:Nat)=>(i:Int)) {v:List Nat} (h1:60 < v.length) (h2:Sh ts n v) (h3:∀ i∈v,i∈S) :
  ∃ k:Nat,60 < k/\k<=66/\xw [zh n ts,lD ms]=some (.int (k:Int)):=by
 obtain ⟨C,k1,k2,k3,k4⟩:=kg hg hn hS hSn hSl hms
 refine ⟨C.length,?_,k2,k4⟩
 rcases k3 with z | z
 ·exact z
 ·have:=ZQ hg hS k1.sim (fun r hr i hi hnn=>by
   obtain ⟨q,hq,e⟩:=g2q.mp hr
   exact z q r hq (by rw [g0p hq,e]) i hi hnn) h2 h3
  omega
theorem Qg {ts:List T3} (hg:yg ts) {n:Nat} (hn:n<=6) {S:List Nat} (hS:∀ i∈S,i < n) (hSn:S.Nodup) (hSl:S.length<=6) {ms:List Int} (hms:ms=S.map fun (i:Nat)=>(i:Int)) {v:List Nat} (h1:v.length<=60) (h2:Sh ts n v) (h3:∀ i∈v,i∈S) (h4:∀ s∈S,NPr (zO (zc ts) v (zE n s))) :
  xw [zh n ts,lD ms]=some (.int (v.length:Int)):=by
 obtain ⟨C,k1,k2,k3,k4⟩:=kg hg hn hS hSn hSl hms
 have few:=XB hg hS h2 h4 k1.nd fun r hr=>by
  obtain ⟨q,hq,e⟩:=g2q.mp hr
  obtain ⟨a,w,s,b1,b2,_,b3⟩:=k1.pr q r (by rw [g0p hq,e])
  exact ⟨a,w,s,b1,b2,b3⟩
 have many:v.length<=C.length:=by
  rcases k3 with z | z
  ·omega
  ·exact ZQ hg hS k1.sim (fun r hr i hi hnn=>by
    obtain ⟨q,hq,e⟩:=g2q.mp hr
    exact z q r hq (by rw [g0p hq,e]) i hi hnn) h2 h3
 rw [k4,Nat.le_antisymm few many]
abbrev kh:List (Str×D):=[("e6",(.tup [(.int 2),(.int 5),(.int 6),(.int 8),(.int 9),(.int 12)])),("f4",(.tup [(.int 2),(.int 6),(.int 8),(.int 12)])),("h3",(.tup [(.int 2),(.int 6),(.int 10)])),("h4",(.tup [(.int 2),(.int 12),(.int 20),(.int 30)])),("i5",(.tup [(.int 2),(.int 5)])),("i6",(.tup [(.int 2),(.int 6)]))]
theorem GX {k:Str} {l:List Int} (m:Int) (h:kh.lookup k=some (.tup (l.map D.int))):zt [.str k,.int m]=some (lD l):=by
 simp only [zt,yw,yK,zV,g0h,g1b,g0e,g0n,Nat.reduceAdd,Nat.reduceSub,g0l,g0x,g0u,g0r,zx,xJ,W9,yB,g0a,g0b,h,Option.isSome_some,if_true,yJ,zP,Qe,zo,zu,Qf,Bu,g1f,xf]
theorem Pt {k:Str} {m:Int} {l:List Int} (h:kh.lookup k=none) (h1:Txt.startswith k "a"=true) (h0:0<=m) (h2:m<=9) (hr:wz 2 (m+2)=l.map D.int):zt [.str k,.int m]=some (lD l):=by
 have c:(-(2 ^ 62)<=(2:Int)/\(2:Int) < 2 ^ 62 /\ -(2 ^ 62)<=m+2/\m+2 < 2 ^ 62)/\(m+2 - 2).toNat<=1000000:=by
  refine ⟨⟨by decide,by decide,?_,?_⟩,?_⟩ <;> omega
 simp only [zt,yw,yK,zV,g0h,g1b,g0e,g0n,Nat.reduceAdd,Nat.reduceSub,g0l,g0x,g0u,g0r,zx,xJ,W9,yB,g0a,g0c,g0b,h,Option.isSome_none,g1g,if_false,vT,xB,zr,xZ,Bo,h1,if_true,yJ,zP,BA,zo,zu,Zt,if_pos c,hr,g1f,xf]
theorem Pr {k:Str} {m:Int} {l:List Int} (h:kh.lookup k=none) (h1:Txt.startswith k "a"=false) (h2:Txt.startswith k "b"=true) (h0:0<=m) (h3:m<=9) (ho:Ck 2 (2 * m+1) 2=true) (hr:Yf 2 2 (Builtin.Range.rangeSize 2 (2 * m+1) 2).toNat=l.map D.int):zt [.str k,.int m]=some (lD l):=by
 have mu:uY (.int 2) (.int m)=some (.int (2 * m)):=Np (by decide) (by decide)
 simp only [zt,yw,yK,zV,g0h,g1b,g0e,g0n,Nat.reduceAdd,Nat.reduceSub,g0l,g0x,g0u,g0r,zx,xJ,W9,yB,g0a,g0c,g0b,h,Option.isSome_none,g1g,if_false,vT,xB,zr,xZ,Bo,h1,h2,if_true,yJ,zP,Qd,zo,zu,mu,Zt,if_pos ho,hr,g1f,xf]
theorem Pq {k:Str} {m:Int} {l:List Int} (h:kh.lookup k=none) (h1:Txt.startswith k "a"=false) (h2:Txt.startswith k "b"=false) (h0:0<=m) (h3:m<=9) (ho:Ck 2 (2 * m) 2=true) (hr:Yf 2 2 (Builtin.Range.rangeSize 2 (2 * m) 2).toNat=l.map D.int) (hl:l.length<=9):zt [.str k,.int m]=some (lD (l++[m])):=by
 have mu:uY (.int 2) (.int m)=some (.int (2 * m)):=Np (by decide) (by decide)
 have z1:0+1<=sizeLine:=szl (by decide)
 have ad:wB (.lst (l.map D.int)) (.lst [.int m])=some (lD (l++[m])):=by
  unfold wB
  dsimp only
  rw [if_pos (by rw [g0f,g0s]; exact szl (by omega))]
  simp
 simp only [zt,yw,yK,zV,g0h,g1b,g0e,g0n,Nat.reduceAdd,Nat.reduceSub,g0l,g0x,g0u,g0r,zx,xJ,W9,yB,g0a,g0c,g0b,h,Option.isSome_none,g1g,if_false,vT,xB,zr,xZ,Bo,h1,h2,if_true,yJ,zP,Qd,zo,zu,mu,if_pos ho,hr,vn,if_pos z1,g1f,ad,xf]
def dgM:Kd->List Int
 | (1,m)=>(g0t m).map fun (i:Nat)=>(i:Int)+2
 | (2,m)=>(g0t m).map fun (i:Nat)=>2 * (i:Int)+2
 | (4,m)=>((g0t (m - 1)).map fun (i:Nat)=>2 * (i:Int)+2)++[(m:Int)]
 | (5,6)=>[2,5,6,8,9,12]
 | (6,4)=>[2,6,8,12]
 | (8,3)=>[2,6,10]
 | (8,4)=>[2,12,20,30]
 | (9,5)=>[2,5]
 | (9,6)=>[2,6]
 | _=>[]
def dgS (l:List Int):Int:=(l.map fun d=>d - 1).sum
structure DgOk (k:Nat) (c:Kd):Prop where
 val:zt [kD c,.int (k:Int)]=some (lD (dgM c))
 len:(dgM c).length<=6
 txt:kT c≠"-"
theorem Wy {k:Str} (h:(kh.lookup k).isSome=false):kh.lookup k=none:=by
 cases e:kh.lookup k with
 | none=>rfl
 | some d=>rw [e] at h; cases h
theorem DB (m:Nat) (hm:m<=6) (h:(kh.lookup (kT (1,m))).isSome=false) (h1:Txt.startswith (kT (1,m)) "a"=true) (h2:kT (1,m)≠"-"):DgOk m (1,m) :=
 ⟨Pt (Wy h) h1 (by omega) (by omega) (by
  show wz 2 ((m:Int)+2)=((g0t m).map fun (i:Nat)=>(i:Int)+2).map D.int
  unfold wz
  rw [g1h,show ((m:Int)+2 - 2).toNat=m by omega]
  exact g1r fun i _=>congrArg D.int (show 2+(i:Int)=(i:Int)+2 by omega)),by show ((g0t m).map _).length<=6; rw [g0f,g2h]; exact hm,h2⟩
theorem MU (m:Nat) (hm:m<=6) (h:(kh.lookup (kT (2,m))).isSome=false) (h1:Txt.startswith (kT (2,m)) "a"=false) (h3:Txt.startswith (kT (2,m)) "b"=true) (ho:Ck 2 (2 * (m:Int)+1) 2=true) (hr:(Builtin.Range.rangeSize 2 (2 * (m:Int)+1) 2).toNat=m) (h2:kT (2,m)≠"-"):DgOk m (2,m) :=
 ⟨Pr (Wy h) h1 h3 (by omega) (by omega) ho (by
  show Yf 2 2 _=((g0t m).map fun (i:Nat)=>2 * (i:Int)+2).map D.int
  unfold Yf
  rw [g1h,hr]
  exact g1r fun i _=>congrArg D.int (show 2+(i:Int) * 2=2 * (i:Int)+2 by omega)),by show ((g0t m).map _).length<=6; rw [g0f,g2h]; exact hm,h2⟩
theorem Pp (m:Nat) (h4:1<=m) (hm:m<=6) (h:(kh.lookup (kT (4,m))).isSome=false) (h1:Txt.startswith (kT (4,m)) "a"=false) (h3:Txt.startswith (kT (4,m)) "b"=false) (ho:Ck 2 (2 * (m:Int)) 2=true) (hr:(Builtin.Range.rangeSize 2 (2 * (m:Int)) 2).toNat=m - 1) (h2:kT (4,m)≠"-"):DgOk m (4,m) :=
 ⟨Pq (l:=(g0t (m - 1)).map fun (i:Nat)=>2 * (i:Int)+2) (Wy h) h1 h3 (by omega) (by omega) ho (by
  unfold Yf
  rw [g1h,hr]
  exact g1r fun i _=>congrArg D.int (show 2+(i:Int) * 2=2 * (i:Int)+2 by omega)) (by rw [g0f,g2h]; omega),by show (((g0t (m - 1)).map _)++[(m:Int)]).length<=6; rw [g0g,g0f,g2h,g0s]; omega,h2⟩
theorem Dz {k:Nat} {c:Kd} {t:Str} (e:kT c=t) (h:kh.lookup t=some (.tup ((dgM c).map D.int))) (h1:(dgM c).length<=6) (h2:kT c≠"-"):DgOk k c:=⟨GX _ (e ▸ h),h1,h2⟩
def Df:List (Nat×Kd):=[(1,1,1),(2,1,2),(3,1,3),(4,1,4),(5,1,5),(6,1,6),(2,2,2),(3,2,3),(4,2,4),(5,2,5),(6,2,6),(4,4,4),(5,4,5),(6,4,6),(2,9,5),(2,9,6),(3,8,3),(4,8,4),(4,6,4),(6,5,6)]
theorem MV {k:Nat} {c:Kd} (h:(k,c)∈Df):DgOk k c:=by
 unfold Df at h
 simp only [g0o,List.not_mem_nil,or_false] at h
 rcases h with h | h | h | h | h | h | h | h | h | h | h | h | h | h | h | h | h | h | h | h <;> cases h
 ·exact DB _ (by decide) (by decide +kernel) (by decide +kernel) (by decide +kernel)
 ·exact DB _ (by decide) (by decide +kernel) (by decide +kernel) (by decide +kernel)
 ·exact DB _ (by decide) (by decide +kernel) (by decide +kernel) (by decide +kernel)
 ·exact DB _ (by decide) (by decide +kernel) (by decide +kernel) (by decide +kernel)
 ·exact DB _ (by decide) (by decide +kernel) (by decide +kernel) (by decide +kernel)
 ·exact DB _ (by decide) (by decide +kernel) (by decide +kernel) (by decide +kernel)
 ·exact MU _ (by decide) (by decide +kernel) (by decide +kernel) (by decide +kernel) (by decide +kernel) (by decide +kernel) (by decide +kernel)
 ·exact MU _ (by decide) (by decide +kernel) (by decide +kernel) (by decide +kernel) (by decide +kernel) (by decide +kernel) (by decide +kernel)
 ·exact MU _ (by decide) (by decide +kernel) (by decide +kernel) (by decide +kernel) (by decide +kernel) (by decide +kernel) (by decide +kernel)
 ·exact MU _ (by decide) (by decide +kernel) (by decide +kernel) (by decide +kernel) (by decide +kernel) (by decide +kernel) (by decide +kernel)
 ·exact MU _ (by decide) (by decide +kernel) (by decide +kernel) (by decide +kernel) (by decide +kernel) (by decide +kernel) (by decide +kernel)
 ·exact Pp _ (by decide) (by decide) (by decide +kernel) (by decide +kernel) (by decide +kernel) (by decide +kernel) (by decide +kernel) (by decide +kernel)
 ·exact Pp _ (by decide) (by decide) (by decide +kernel) (by decide +kernel) (by decide +kernel) (by decide +kernel) (by decide +kernel) (by decide +kernel)
 ·exact Pp _ (by decide) (by decide) (by decide +kernel) (by decide +kernel) (by decide +kernel) (by decide +kernel) (by decide +kernel) (by decide +kernel)
 ·exact Dz Mi rfl (by decide) (by decide +kernel)
 ·exact Dz Mh rfl (by decide) (by decide +kernel)
 ·exact Dz Ml rfl (by decide) (by decide +kernel)
 ·exact Dz Mj rfl (by decide) (by decide +kernel)
 ·exact Dz Mm rfl (by decide) (by decide +kernel)
 ·exact Dz Mn rfl (by decide) (by decide +kernel)
def okD (k q:Nat):Bool:=match (jV k)[q]?,(MM k)[q]? with
 | some B,some w=>decide ((k,B.1)∈Df)&&decide (dgS (dgM B.1)=(w.length:Int))
 | _,_=>false
theorem Cn:([1,2,3,4,5,6].all fun k=>(g0t (jV k).length).all fun q=>okD k q)=true:=by decide +kernel
theorem FW {k q:Nat} {B:Bk} {w:List Nat} (h1:1<=k) (h6:k<=6) (hq:(jV k)[q]? = some B) (hw:(MM k)[q]? = some w):DgOk k B.1/\dgS (dgM B.1)=(w.length:Int):=by
 have hk:k∈[1,2,3,4,5,6]:=by
  have:k=1\/k=2\/k=3\/k=4\/k=5\/k=6:=by omega
  simpa using this
 have:=g0w.mp (g0w.mp Cn k hk) q (g1t.mpr (g0v.mp hq).1)
 unfold okD at this
 rw [hq,hw] at this
 dsimp only at this
 rw [g1p] at this
 exact ⟨MV (of_decide_eq_true this.1),of_decide_eq_true this.2⟩
theorem Js (a b:Str):eqF (.str a) (.str b)=some (.bl (decide (a=b))):=by
 unfold eqF
 rw [if_pos (show dep (.str a)<=100 from g1z _)]
 by_cases c:a=b <;> simp [eqD,c]
theorem Pc (a b:Bool):neF (.bl a) (.bl b)=some (.bl (!decide (a=b))):=by
 unfold neF
 rw [if_pos (show dep (.bl a)<=100 from g1z _)]
 cases a <;> cases b <;> rfl
structure Told (n:Nat) (ts:List T3) (x:Int) (p:Kd×Nat):Prop where
 kind:xx [zh n ts,lD (PM n ts x)]=some (kD p.1)
 roots:xw [zh n ts,lD (PM n ts x)]=some (.int (p.2:Int))
 two:(p.1=(0,0)/\60 < p.2)\/(p.2<=60/\DgOk (PM n ts x).length p.1/\dgS (dgM p.1)=(p.2:Int))
theorem Told.same {n:Nat} {ts:List T3} {x:Int} {p:Kd×Nat} (h:Told n ts x p):decide ((60:Int) < (p.2:Int))=decide (kT p.1="-"):=by
 rcases h.two with ⟨h1,h2⟩ | ⟨h1,h2,_⟩
 ·rw [h1,decide_eq_true (by omega)]
  exact (decide_eq_true (show kT (0,0)="-" from rfl)).symm
 ·rw [decide_eq_false (by omega),decide_eq_false h2.txt]
theorem Qu {n:Nat} {ts:List T3} (hg:yg ts) (hnd:(ts.map fun u=>(u.1,u.2.1)).Nodup) (hfit:Kk n ts) (hn:n<=6) (htl:ts.length<=90) {x:Int} (hx:x∈idx n):∃ p:Kd×Nat,Told n ts x p:=by
 obtain ⟨f1,f2,f3,f4,f5,f6⟩:=vS (ts:=ts) hx
 have h0:∀ y∈PM n ts x,0<=y/\y < n:=fun y hy=>vX.mp (f3 y hy)
 have hms:PM n ts x=((PM n ts x).map Int.toNat).map fun (i:Nat)=>(i:Int):=by
  rw [g1h]
  refine (List.map_id _).symm.trans (g1r fun y hy=>?_)
  have:=(h0 y hy).1
  show y=((y.toNat:Nat):Int)
  omega
 have hS:∀ i∈(PM n ts x).map Int.toNat,i < n:=fun i hi=>by
  obtain ⟨y,hy,rfl⟩:=g1i.mp hi
  have:=h0 y hy
  omega
 have hSn:((PM n ts x).map Int.toNat).Nodup:=Vj (fun y hy=>(h0 y hy).1) f2
 have hSl:((PM n ts x).map Int.toNat).length=(PM n ts x).length:=g0f _
 have f4:(PM n ts x).length<=n:=f4
 have f5:1<=(PM n ts x).length:=f5
 have hz:=Gy (zg ts) (ZE ts (PM n ts x)) (PM n ts x) (by omega)
 rcases Kt hg hn hx with hf | hi
 ·obtain ⟨q,B,u,hq,hp,I⟩:=hf
  have hq:(jV ((PM n ts x).map Int.toNat).length)[q]? = some B:=hq
  rw [hSl] at hq
  obtain ⟨w,hw,F⟩:=jU f5 (by omega) hq
  have hul:u.length=(PM n ts x).length:=by rw [hp.length_eq]; exact hSl
  obtain ⟨v,v1,v2,v3,v4⟩:=VC hg F hul hp hS I
  obtain ⟨d1,d2⟩:=FW f5 (by omega) hq hw
  obtain ⟨k1,k2⟩:=GO hg hnd hfit h0 f6 f5 (by omega) hq hul hp I
  have wl:=F.len
  have rf:=Qg hg hn hS hSn (by omega) hms (by omega) v2 v3 v4
  rw [v1] at rf
  exact ⟨(B.1,w.length),Vq n ts (PM n ts x) B.1 (by omega) htl k1 k2 (.inr d1.txt) hz,rf,.inr ⟨wl,d1,d2⟩⟩
 ·have k1:∀ c∈ve (zg ts) (ZE ts (PM n ts x)) (PM n ts x),c=(0,0):=fun c hc=>GB hg h0 f2 f5 (by omega) hi hc
  obtain ⟨b,hb,u,E⟩:=hi
  obtain ⟨v,v1,v2,v3⟩:=Vu hg hb hS E
  obtain ⟨k,r1,r2,r3⟩:=Ug hg hn hS hSn (by omega) hms v1 v2 v3
  exact ⟨((0,0),k),Vq n ts (PM n ts x) (0,0) (by omega) htl (fun c hc=>.inl (k1 c hc)) (.inl rfl) (.inl rfl) hz,r3,.inl ⟨rfl,r1⟩⟩
section
variable {n:Nat} {ts:List T3} {f:Int->Kd×Nat}
abbrev jD (n:Nat) (ts:List T3) (f:Int->Kd×Nat) (l:List Int):List D:=l.map fun x=>.tup [lD (PM n ts x),kD (f x).1]
theorem VG (a0:Slot):∀ (l:List Int) (s1 s2:Slot),(∀ x∈l,kT (f x).1≠"-")->∃ s1' s2',yd (j7 2 (yA (zB 1) (yA (zB 2) Zv))) (ifS (blF (zb eqF (vF 2) (cF (.str "-")))) (yT (zY uq (za (vF 1) zy))) nxF) (jD n ts f l) [a0,s1,s2]=some (.nx [a0,s1',s2'])
 | [],s1,s2,_=>⟨s1,s2,rfl⟩
 | x :: l,s1,s2,h=>by
  obtain ⟨s1',s2',e⟩:=VG a0 l (.fr (lD (PM n ts x))) (.fr (kD (f x).1)) (fun y hy=>h y (g0m _ hy))
  refine ⟨s1',s2',?_⟩
  have hx:=h x g0i
  unfold jD
  rw [g0h,yd]
  simp only [Y8,ke,xn,Y9,g0e,g0n,Nat.reduceAdd,if_true,g0k,g0j,g0b,xJ,xB,zr,yB,xZ,g0a,g0c,Js,decide_eq_false hx,g1g,if_false,vT]
  exact e
theorem VM (a0 a1:Slot):∀ (l:List Int) (acc:List Int) (s3 s4:Slot),(∀ x∈l,DgOk (PM n ts x).length (f x).1)->acc.length+6 * l.length<=60->∃ s3' s4',yd (j7 2 (yA (zB 3) (yA (zB 4) Zv))) (v5 2 (zY zt (za (vF 4) (za (zY uZ (za (vF 3) zy)) zy)))) (jD n ts f l) [a0,a1,.ol (acc.map D.int),s3,s4]=some (.nx [a0,a1,.ol ((acc++l.flatMap fun x=>dgM (f x).1).map D.int),s3',s4'])
 | [],acc,s3,s4,_,_=>⟨s3,s4,by rw [List.flatMap_nil,g0x]; rfl⟩
 | x :: l,acc,s3,s4,h,hl=>by
  rw [g0e] at hl
  have hx:=h x g0i
  have hxl:=hx.len
  obtain ⟨s3',s4',e⟩:=VM a0 a1 l (acc++dgM (f x).1) (.fr (lD (PM n ts x))) (.fr (kD (f x).1)) (fun y hy=>h y (g0m _ hy)) (by rw [g0g]; omega)
  refine ⟨s3',s4',?_⟩
  have hz:(acc.map D.int).length+((dgM (f x).1).map D.int).length<=sizeLine:=by rw [g0f,g0f]; exact szl (by omega)
  have ln:uZ [lD (PM n ts x)]=some (.int ((PM n ts x).length:Int)):=by simp
  have ex:v5 2 (zY zt (za (vF 4) (za (zY uZ (za (vF 3) zy)) zy))) [a0,a1,.ol (acc.map D.int),.fr (lD (PM n ts x)),.fr (kD (f x).1)]=some (.nx [a0,a1,.ol ((acc++dgM (f x).1).map D.int),.fr (lD (PM n ts x)),.fr (kD (f x).1)]):=by
   simp only [kd,zU,zo,zu,yB,g0a,g0c,g0b,ln,hx.val,if_pos hz,g0k,g0j,g0y]
  unfold jD
  rw [g0h,yd]
  simp only [Y8,ke,xn,Y9,g0e,g0n,Nat.reduceAdd,if_true,g0k,g0j,g0b]
  rw [ex]
  rw [g1a] at e
  rw [g3f]
  exact e
theorem Xu (n:Nat) (ts:List T3):(xg n ts).length<=n:=by
 have:=g2o (fun x=>decide ((SP n ts x).headD 0=x)) (idx n)
 rw [wM] at this
 exact this
theorem YE:∀ l:List Int,(∀ x∈l,(dgM (f x).1).length<=6)->(l.flatMap fun x=>dgM (f x).1).length<=6 * l.length
 | [],_=>by simp
 | x :: l,h=>by
  have:=YE l fun y hy=>h y (g0m _ hy)
  have:=h x g0i
  rw [g3f,g0g,g0e]
  omega
theorem WM (hn:n<=6) (hk:wy [zh n ts]=some (.lst (jD n ts f (xg n ts)))) (hd:∀ x∈xg n ts,DgOk (PM n ts x).length (f x).1):vM [zh n ts]=some (lD (sortI ((xg n ts).flatMap fun x=>dgM (f x).1))):=by
 have hl:=Xu n ts
 have fl:=YE (f:=f) (xg n ts) fun x hx=>(hd x hx).len
 obtain ⟨t1,t2,e1⟩:=VG (n:=n) (ts:=ts) (f:=f) (.fr (zh n ts)) (xg n ts) .no .no fun x hx=>(hd x hx).txt
 obtain ⟨t3,t4,e2⟩:=VM (n:=n) (ts:=ts) (f:=f) (.fr (zh n ts)) (.fr .non) (xg n ts) [] .no .no hd (by simp; omega)
 rw [g1b,g0r] at e2
 have z0:0<=sizeLine:=g1z _
 have ev:vL [zh n ts]=some .non:=by
  simp only [vL,Zn,yK,zV,g0h,g1b,g0e,g0n,Nat.reduceAdd,Nat.reduceSub,g0l,g0u,g0r]
  rw [zx (F:=jI _ _ _),vy]
  simp only [zQ,zU,zo,zu,yB,g0a,g0b,hk,xE]
  rw [e1]
  rfl
 have sv:=jO (fa:=za (vR 2) zy) (ρ:=[.fr (zh n ts),.fr .non,.ol (((xg n ts).flatMap fun x=>dgM (f x).1).map D.int),t3,t4]) (l:=(xg n ts).flatMap fun x=>dgM (f x).1) rfl (by omega)
 have isn:isD true .non .non=some (.bl false):=rfl
 simp only [vM,Zo,yK,zV,g0h,g1b,g0e,g0n,Nat.reduceAdd,Nat.reduceSub,g0l,g0u,g0r]
 rw [zx (F:=yL 1 _),ym]
 simp only [zU,zo,zu,yB,g0a,g0b,ev,g0k,g0j]
 rw [zx (F:=ifS _ _ _),xJ]
 simp only [xB,zr,yB,xZ,g0a,g0c,g0b,isn,g1g,if_false,vT]
 rw [zx (F:=VY 2 _),jt]
 simp only [vn,zu,g0b,g0n,if_pos z0,g0k,g0j]
 rw [zx (F:=jI _ _ _),vy]
 simp only [zQ,zU,zo,zu,yB,g0a,g0b,hk,xE]
 rw [e2]
 simp only [g0b,yJ,zP,sv,g1f,xf]
end
noncomputable def laB:FS:=(z6 (ifS (orT (blF (zb eqF (zY uZ (za (vF 6) zy)) (cF (.int 0)))) (blF (zb neF (vF 6) (zY vZ (za (vF 1) (za (zb ixD (vF 6) (cF (.int 0))) zy)))))) (yT (cF (.bl false))) nxF) (z6 (yL 8 (zY xw (za (vF 1) (za (vF 6) zy)))) (z6 (ifS (blF (zb neF (zb gtD (vF 8) (cF (.int 60))) (zb eqF (vF 7) (cF (.str "-"))))) (yT (cF (.bl false))) nxF) (z6 (yL 5 (zb wB (vF 5) (vF 6))) (z6 (yL 3 (orV (vF 3) (zb eqF (vF 7) (cF (.str "-"))))) (yL 2 (zb wB (vF 2) (vF 8))))))))
section
variable {n:Nat} {ts:List T3} {f:Int->Kd×Nat}
def Ks (f:Int->Kd×Nat) (l:List Int):Int:=(l.map fun x=>((f x).2:Int)).sum
def HX (f:Int->Kd×Nat) (l:List Int):Bool:=l.any fun x=>decide (kT (f x).1="-")
theorem HM (l:List Int):dep (lD l)<=100:=by
 have:∀ l:List Int,qS (l.map D.int)=0:=fun l=>by
  induction l with
  | nil=>rfl
  | cons x l ih=>rw [g0h]; simp [qS,dep,ih]
 show qS (l.map D.int)+1<=100
 rw [this]
 decide
theorem CF (hn:n<=6) {x:Int} (hx:x∈xg n ts) (hT:Told n ts x (f x)) (a0 a4 s8:Slot) (a:Int) (b:Bool) (ms:List Int) (hm:ms.length<=80) :
  laB [a0,.fr (zh n ts),.fr (.int a),.fr (.bl b),a4,.fr (lD ms),.fr (lD (PM n ts x)),.fr (kD (f x).1),s8]=some (.nx [a0,.fr (zh n ts),.fr (.int (a+((f x).2:Int))),.fr (.bl (b||decide (kT (f x).1="-"))),a4,.fr (lD (ms++PM n ts x)),.fr (lD (PM n ts x)),.fr (kD (f x).1),.fr (.int ((f x).2:Int))]):=by
 obtain ⟨hx1,hx2⟩:=g1k.mp hx
 have hx2:(PM n ts x).headD 0=x:=of_decide_eq_true hx2
 obtain ⟨_,_,_,f4,f5,_⟩:=vS (ts:=ts) hx1
 have f4:(PM n ts x).length<=n:=f4
 have f5:1<=(PM n ts x).length:=f5
 have ln:uZ [lD (PM n ts x)]=some (.int ((PM n ts x).length:Int)):=by simp
 have i0:ixD (lD (PM n ts x)) (.int 0)=some (.int x):=by
  refine Nu (PM n ts x) 0 x ?_
  cases e:PM n ts x with
  | nil=>rw [e] at f5; simp at f5
  | cons y l=>rw [e] at hx2; exact congrArg some hx2
 have cv:=G5 n ts x (by omega) hx1
 have ne0:neF (lD (PM n ts x)) (lD (PM n ts x))=some (.bl false):=QJ (HM _)
 have d0:decide (((PM n ts x).length:Int)=0)=false:=decide_eq_false (by omega)
 have nb:=Pc (decide ((60:Int) < ((f x).2:Int))) (decide (kT (f x).1="-"))
 rw [hT.same,decide_eq_true rfl,g3m] at nb
 have ad:wB (lD ms) (lD (PM n ts x))=some (lD (ms++PM n ts x)):=by
  unfold wB
  dsimp only
  rw [if_pos (by rw [g0f,g0f]; exact szl (by omega)),<- g0y]
 have rt:=hT.roots
 unfold laB
 rw [zx (F:=ifS _ _ _),xJ]
 simp only [NN,xB,zr,zU,zo,zu,yB,xZ,g0a,g0c,g0b,ln,Ue,d0,g1g,if_false,i0,cv,ne0,vT]
 rw [zx (F:=yL 8 _),ym]
 simp only [zU,zo,zu,yB,g0a,g0c,g0b,rt,g0k,g0j]
 rw [zx (F:=ifS _ _ _),xJ]
 simp only [xB,zr,yB,xZ,g0a,g0c,g0b,PL,Js,hT.same,nb,g1g,if_false,vT]
 rw [zx (F:=yL 5 _),ym]
 simp only [zr,yB,g0a,g0c,g0b,ad,g0k,g0j]
 rw [zx (F:=yL 3 _),ym]
 have ov:orV (vF 3) (zb eqF (vF 7) (cF (.str "-"))) [a0,.fr (zh n ts),.fr (.int a),.fr (.bl b),a4,.fr (lD (ms++PM n ts x)),.fr (lD (PM n ts x)),.fr (kD (f x).1),.fr (.int ((f x).2:Int))]=some (.bl (b||decide (kT (f x).1="-"))):=by
  simp only [NM,zr,yB,xZ,g0a,g0c,g0b,Js]
  cases b <;> rfl
 rw [ov]
 simp only [g0b,g0k,g0j,ym,zr,yB,g0a,g0c,Zt]
theorem QY (hn:n<=6) (hT:∀ x∈idx n,Told n ts x (f x)) (a0 a4:Slot):∀ (l:List Int) (a:Int) (b:Bool) (ms:List Int) (s6 s7 s8:Slot),(∀ x∈l,x∈xg n ts)->ms.length+6 * l.length<=80 →
  ∃ s6' s7' s8',yd (j7 2 (yA (zB 6) (yA (zB 7) Zv))) laB (jD n ts f l) [a0,.fr (zh n ts),.fr (.int a),.fr (.bl b),a4,.fr (lD ms),s6,s7,s8]=some (.nx [a0,.fr (zh n ts),.fr (.int (a+Ks f l)),.fr (.bl (b||HX f l)),a4,.fr (lD (ms++l.flatMap (PM n ts))),s6',s7',s8'])
 | [],a,b,ms,s6,s7,s8,_,_=>⟨s6,s7,s8,by
  rw [List.flatMap_nil,g0x,show Ks f []=0 from rfl,Int.add_zero,show HX f []=false from rfl,Bool.or_false]
  rfl⟩
 | x :: l,a,b,ms,s6,s7,s8,h,hl=>by
  rw [g0e] at hl
  have hx:=h x g0i
  have hx1:=(g1k.mp hx).1
  have f4:(PM n ts x).length<=n:=(vS (ts:=ts) hx1).2.2.2.1
  have st:=CF hn hx (hT x hx1) a0 a4 s8 a b ms (by omega)
  obtain ⟨s6',s7',s8',e⟩:=QY hn hT a0 a4 l (a+((f x).2:Int)) (b||decide (kT (f x).1="-")) (ms++PM n ts x) (.fr (lD (PM n ts x))) (.fr (kD (f x).1)) (.fr (.int ((f x).2:Int))) (fun y hy=>h y (g0m _ hy)) (by rw [g0g]; omega)
  refine ⟨s6',s7',s8',?_⟩
  have e1:a+((f x).2:Int)+Ks f l=a+Ks f (x :: l):=by unfold Ks; rw [g0h,List.sum_cons]; omega
  have e2:((b||decide (kT (f x).1="-"))||HX f l)=(b||HX f (x :: l)):=by unfold HX; rw [g3g,Bool.or_assoc]
  rw [e1,e2,g1a] at e
  rw [g3f,<- e]
  unfold jD
  rw [g0h,yd]
  simp only [Y8,ke,xn,Y9,g0e,g0n,Nat.reduceAdd,if_true,g0k,g0j,g0b]
  rw [st]
  rfl
theorem De (a b:List Int):dgS (a++b)=dgS a+dgS b:=by unfold dgS; rw [g0y,List.sum_append]
theorem W7:∀ l:List Int,(∀ x∈l,dgS (dgM (f x).1)=((f x).2:Int))->dgS (l.flatMap fun x=>dgM (f x).1)=Ks f l
 | [],_=>rfl
 | x :: l,h=>by
  have:=W7 l fun y hy=>h y (g0m _ hy)
  rw [g3f,De,this,h x g0i]
  unfold Ks
  rw [g0h,List.sum_cons]
theorem Kq:∀ {a b:List Int},a.Perm b->a.sum=b.sum:=fun h=>by
 induction h with
 | nil=>rfl
 | cons x _ ih=>rw [List.sum_cons,List.sum_cons,ih]
 | swap x y l=>simp only [List.sum_cons]; omega
 | trans _ _ h1 h2=>exact h1.trans h2
end
theorem UK (n:Nat):(idx n).Pairwise (· <= ·):=by
 unfold idx
 rw [g2n]
 exact List.pairwise_lt_range.imp fun h=>by omega
theorem law_true (ns:List Int) (hl:ns.length<=63):g_law [.lst (ns.map D.int)]=some (.bl true):=by
 obtain ⟨n,ts,h1,hn,hT,hnd,htl,hh⟩:=Q9 ns hl
 have hg:yg ts:=fun t ht=>(hT t ht).1
 have hfit:Kk n ts:=fun t ht=>(hT t ht).2
 have hnd':(ts.map fun u=>(u.1,u.2.1)).Nodup:=by
  rw [g1l,g2n] at hnd ⊢
  exact hnd.imp fun {a b} h z=>h (by
   injection z with z1 z2
   show [Sum.inl a.1,Sum.inl a.2.1]=[Sum.inl b.1,Sum.inl b.2.1]
   rw [z1,z2])
 have key:∀ x:Int,∃ p:Kd×Nat,x∈idx n->Told n ts x p:=fun x=>by
  by_cases c:x∈idx n
  ·obtain ⟨p,hp⟩:=Qu hg hnd' hfit hn (by omega) c
   exact ⟨p,fun _=>hp⟩
  ·exact ⟨((0,0),0),fun z=>absurd z c⟩
 obtain ⟨f,hf⟩:=Classical.axiomOfChoice key
 have hk:wy [zh n ts]=some (.lst (jD n ts f (xg n ts))):=UE n ts (fun x=>(f x).1) (by omega) fun x hx=>(hf x hx).kind
 have hl6:=Xu n ts
 obtain ⟨s6,s7,s8,e⟩:=QY (f:=f) hn hf (.fr (.lst (ns.map D.int))) (.fr (.lst (jD n ts f (xg n ts)))) (xg n ts) 0 false [] .no .no .no (fun _ h=>h) (by simp; omega)
 have pm:=UL (n:=n) (ts:=ts) (yE ts)
 have pl:=pm.length_eq
 rw [wM] at pl
 have so:sortI ((xg n ts).flatMap (PM n ts))=idx n:=perm_eq ((sortI_perm _).trans pm) (sortI_sorted _) (UK n)
 have pl:((xg n ts).flatMap (PM n ts)).length=n:=pl
 have h0:ixD (zh n ts) (.int 0)=some (.int n):=by unfold zh; exact ix0
 have hi1:ixD (zh n ts) (.int 1)=some (.lst (ts.map tD)):=by unfold zh; exact ix1
 have hd:D.tup [.int n,.lst (ts.map tD)]=zh n ts:=rfl
 have z0:0<=sizeLine:=g1z _
 have z2:0+1+1<=sizeLine:=szl (by decide)
 have ne0:neF (lD (idx n)) (lD (idx n))=some (.bl false):=QJ (HM _)
 have hr1:∀ (a:Slot) (r:Rho),Uh (za (zb ixD (vF 1) (cF (.int 0))) zy) (a :: .fr (zh n ts) :: r)=some ((idx n).map D.int):=fun a r=>by
  unfold Uh
  simp only [zo,zu,zr,yB,xZ,g0a,g0c,g0b,h0]
  rw [if_pos (by omega),wg]
 rw [g0r,Int.zero_add,Bool.false_or] at e
 have sv:=jO (fa:=za (vF 5) zy) (ρ:=[.fr (.lst (ns.map D.int)),.fr (zh n ts),.fr (.int (Ks f (xg n ts))),.fr (.bl (HX f (xg n ts))),.fr (.lst (jD n ts f (xg n ts))),.fr (lD ((xg n ts).flatMap (PM n ts))),s6,s7,s8]) (l:=(xg n ts).flatMap (PM n ts)) rfl (by omega)
 rw [so] at sv
 unfold laB at e
 simp only [g_law,Du,yK,zV,g0h,g1b,g0e,g0n,Nat.reduceAdd,Nat.reduceSub,g0l,g0u,g0r]
 rw [zx (F:=yL 1 _),ym]
 simp only [zU,zo,zu,yB,xZ,g0a,g0b,hh,g0k,g0j]
 rw [zx (F:=yL 2 _),ym]
 simp only [xZ,g0b,g0k,g0j]
 rw [zx (F:=yL 3 _),ym]
 simp only [xZ,g0b,g0k,g0j]
 rw [zx (F:=yL 4 _),ym]
 simp only [zU,qt,zo,zu,zr,yB,xZ,zP,Qe,g0a,g0c,g0b,h0,hi1,g1f,g0e,g0n,if_pos z2,hd,hk,g0k,g0j]
 rw [zx (F:=yL 5 _),ym]
 simp only [zP,vn,zu,g0b,g0n,if_pos z0,g1f,g0k,g0j]
 rw [zx (F:=jI _ _ _),vy]
 simp only [zQ,yB,g0a,g0c,g0b,xE]
 have e:yd _ _ (jD n ts f (xg n ts)) [.fr (.lst (ns.map D.int)),.fr (zh n ts),.fr (.int 0),.fr (.bl false),.fr (.lst (jD n ts f (xg n ts))),.fr (.lst []),.no,.no,.no]=_:=e
 rw [e]
 simp only [g0b]
 rw [zx (F:=ifS _ _ _),xJ]
 simp only [xB,zr,zP,sv,hr1,g1f,g0b,ne0,g1g,if_false,vT]
 rw [zx (F:=ifS _ _ _),xJ]
 cases c:HX f (xg n ts) with
 | true=>simp only [xB,yB,g0a,g0c,g0b,if_true,yJ,xZ,xf]
 | false =>
  have two:∀ x∈xg n ts,DgOk (PM n ts x).length (f x).1/\dgS (dgM (f x).1)=((f x).2:Int):=fun x hx=>by
   rcases (hf x (g1k.mp hx).1).two with ⟨k1,_⟩ | ⟨_,k2,k3⟩
   ·exfalso
    have:HX f (xg n ts)=true:=g2x.mpr ⟨x,hx,by rw [k1]; exact decide_eq_true rfl⟩
    rw [c] at this
    cases this
   ·exact ⟨k2,k3⟩
  have dv:=WM hn hk fun x hx=>(two x hx).1
  have fl:=YE (f:=f) (xg n ts) fun x hx=>((two x hx).1).len
  have sf:=W7 (xg n ts) fun x hx=>(two x hx).2
  have sp:((sortI ((xg n ts).flatMap fun x=>dgM (f x).1)).map fun d=>d - 1).sum=Ks f (xg n ts):=by
   rw [<- sf]
   exact Kq ((sortI_perm _).map _)
  have cm:=jB (f:=zb jN (vF 0) (cF (.int 1))) (C:=[]) (ι:=D.int) (φ:=fun d=>.int (d - 1)) (sortI ((xg n ts).flatMap fun x=>dgM (f x).1)) .no (fun d _=>rfl)
  have hz:((sortI ((xg n ts).flatMap fun x=>dgM (f x).1)).map D.int).length<=sizeLine:=by
   rw [g0f,(sortI_perm _).length_eq]
   exact szl (by omega)
  have em:((sortI ((xg n ts).flatMap fun x=>dgM (f x).1)).map fun d=>D.int (d - 1))=(((sortI ((xg n ts).flatMap fun x=>dgM (f x).1)).map fun d=>d - 1).map D.int):=by rw [g1h]; rfl
  rw [em] at cm
  simp only [xB,yB,g0a,g0c,g0b,g1g,if_false,vT,yJ,zr,zU,zo,zu,zP,xR,zQ,dv,xE,if_pos hz,xQ,g1b,g0l,g0u,g0r,cm,g1f,NL,sp,Ue,decide_true,xf]
end Pk62
def PySem.W.Fast.tw14235925827743356304 := 0
def PySem.W.Fast.tw11453031791297289772 := 0
def PySem.W.Fast.tw12202483249481064206 := 0
def PySem.W.Fast.tw4408920482342393539 := 0
def PySem.W.Fast.tw9161308808662921110 := 0
def PySem.W.Fast.tw17133292502535953084 := 0
open PySem PySem.W PyProof.Rows FL L2 in
set_option maxRecDepth 100000 in
set_option maxHeartbeats 0 in
theorem PySem.Challenge.cw_mirrorhouse_k62_whole_never_ending_holds : PySem.Challenge.rw_mirrorhouse_k62_whole_never_ending.Holds := by
 w_on; refine holds_law (by kernel_rfl) fun said=>?_; k_head; (case hw=>w_witness2)
 k_fill
 refine L2.walk_ofK (l:=PySem.Challenge.rw_mirrorhouse_k62_whole_never_ending) (n:=63) (k:=10) (x:="_law_script") (CX:=CX0) (sp:=fun K=>FL.spF K 1 Pk62.g_law) rfl (by decide) rfl ⟨rfl,by decide,by decide⟩ (fun w h Y=>PySem.W.kIn_of Y) ?F (fun K H a ns hl _ hS=>FL.law_sp hS (Pk62.law_true ns hl)) (fun _ _ _ _ z=>z)
 case F =>
  intro w mg fa h KX G hmg
  refine' Pk62.all_mk KX G hmg ?a0 ?l0 ?c0 ?k0 ?a1 ?l1 ?c1 ?k1 ?a2 ?l2 ?c2 ?k2 ?a3 ?l3 ?c3 ?k3 ?a4 ?l4 ?c4 ?k4 ?a5 ?l5 ?c5 ?k5 ?a6 ?l6 ?c6 ?k6 ?a7 ?l7 ?c7 ?k7 ?a8 ?l8 ?c8 ?k8 ?a9 ?l9 ?c9 ?k9 ?a10 ?l10 ?c10 ?k10 ?a11 ?l11 ?c11 ?k11 ?a12 ?l12 ?c12 ?k12 ?a13 ?l13 ?c13 ?k13 ?a14 ?l14 ?c14 ?k14 ?a15 ?l15 ?c15 ?k15 ?a16 ?l16 ?c16 ?k16 ?a17 ?l17 ?c17 ?k17 ?a18 ?l18 ?c18 ?k18 ?a19 ?l19 ?c19 ?k19 ?a20 ?l20 ?c20 ?k20 ?a21 ?l21 ?c21 ?k21 ?a22 ?l22 ?c22 ?k22 ?a23 ?l23 ?c23 ?k23 ?a24 ?l24 ?c24 ?k24 ?a25 ?l25 ?c25 ?k25 ?a26 ?l26 ?c26 ?k26 ?a27 ?l27 ?c27 ?k27 ?a28 ?l28 ?c28 ?k28 ?a29 ?l29 ?c29 ?k29 ?b_abs ?b_all ?b_enumerate ?b_int ?b_len ?b_list ?b_max ?b_min ?b_range ?b_sorted ?b_sum ?b_tuple ?b_zip ?q_COMMON_TURN ?q_NOT_TOLD ?q_NO_KIND ?q_RARE_CHAINS ?r_RARE_CHAINS ?r_RARE_CHAINS_0 ?r_RARE_CHAINS_1 ?r_RARE_CHAINS_2 ?r_RARE_CHAINS_3 ?r_RARE_CHAINS_4 ?kr_y_RARE_CHAINS ?kr_z_RARE_CHAINS_0 ?kr_z_RARE_CHAINS_1 ?kr_z_RARE_CHAINS_2 ?kr_z_RARE_CHAINS_3 ?kr_z_RARE_CHAINS_4 ?q_RARE_DEGREES ?r_RARE_DEGREES ?r_RARE_DEGREES_0 ?r_RARE_DEGREES_1 ?r_RARE_DEGREES_2 ?r_RARE_DEGREES_3 ?r_RARE_DEGREES_4 ?r_RARE_DEGREES_5 ?kr_y_RARE_DEGREES ?kr_z_RARE_DEGREES_0 ?kr_z_RARE_DEGREES_1 ?kr_z_RARE_DEGREES_2 ?kr_z_RARE_DEGREES_3 ?kr_z_RARE_DEGREES_4 ?kr_z_RARE_DEGREES_5
  (case a0=>k_is)
  (case l0=>k_is)
  (case c0=>k_is)
  (case k0=>k_is)
  (case a1=>k_is)
  (case l1=>k_is)
  (case c1=>k_is)
  (case k1=>k_is)
  (case a2=>k_is)
  (case l2=>k_is)
  (case c2=>k_is)
  (case k2=>k_is)
  (case a3=>k_is)
  (case l3=>k_is)
  (case c3=>k_is)
  (case k3=>k_is)
  (case a4=>k_is)
  (case l4=>k_is)
  (case c4=>k_is)
  (case k4=>k_is)
  (case a5=>k_is)
  (case l5=>k_is)
  (case c5=>k_is)
  (case k5=>k_is)
  (case a6=>k_is)
  (case l6=>k_is)
  (case c6=>k_is)
  (case k6=>k_is)
  (case a7=>k_is)
  (case l7=>k_is)
  (case c7=>k_is)
  (case k7=>k_is)
  (case a8=>k_is)
  (case l8=>k_is)
  (case c8=>k_is)
  (case k8=>k_is)
  (case a9=>k_is)
  (case l9=>k_is)
  (case c9=>k_is)
  (case k9=>k_is)
  (case a10=>k_is)
  (case l10=>k_is)
  (case c10=>k_is)
  (case k10=>k_is)
  (case a11=>k_is)
  (case l11=>k_is)
  (case c11=>k_is)
  (case k11=>k_is)
  (case a12=>k_is)
  (case l12=>k_is)
  (case c12=>k_is)
  (case k12=>k_is)
  (case a13=>k_is)
  (case l13=>k_is)
  (case c13=>k_is)
  (case k13=>k_is)
  (case a14=>k_is)
  (case l14=>k_is)
  (case c14=>k_is)
  (case k14=>k_is)
  (case a15=>k_is)
  (case l15=>k_is)
  (case c15=>k_is)
  (case k15=>k_is)
  (case a16=>k_is)
  (case l16=>k_is)
  (case c16=>k_is)
  (case k16=>k_is)
  (case a17=>k_is)
  (case l17=>k_is)
  (case c17=>k_is)
  (case k17=>k_is)
  (case a18=>k_is)
  (case l18=>k_is)
  (case c18=>k_is)
  (case k18=>k_is)
  (case a19=>k_is)
  (case l19=>k_is)
  (case c19=>k_is)
  (case k19=>k_is)
  (case a20=>k_is)
  (case l20=>k_is)
  (case c20=>k_is)
  (case k20=>k_is)
  (case a21=>k_is)
  (case l21=>k_is)
  (case c21=>k_is)
  (case k21=>k_is)
  (case a22=>k_is)
  (case l22=>k_is)
  (case c22=>k_is)
  (case k22=>k_is)
  (case a23=>k_is)
  (case l23=>k_is)
  (case c23=>k_is)
  (case k23=>k_is)
  (case a24=>k_is)
  (case l24=>k_is)
  (case c24=>k_is)
  (case k24=>k_is)
  (case a25=>k_is)
  (case l25=>k_is)
  (case c25=>k_is)
  (case k25=>k_is)
  (case a26=>k_is)
  (case l26=>k_is)
  (case c26=>k_is)
  (case k26=>k_is)
  (case a27=>k_is)
  (case l27=>k_is)
  (case c27=>k_is)
  (case k27=>k_is)
  (case a28=>k_is)
  (case l28=>k_is)
  (case c28=>k_is)
  (case k28=>k_is)
  (case a29=>k_is)
  (case l29=>k_is)
  (case c29=>k_is)
  (case k29=>k_is)
  (case b_abs=>k_is)
  (case b_all=>k_is)
  (case b_enumerate=>k_is)
  (case b_int=>k_is)
  (case b_len=>k_is)
  (case b_list=>k_is)
  (case b_max=>k_is)
  (case b_min=>k_is)
  (case b_range=>k_is)
  (case b_sorted=>k_is)
  (case b_sum=>k_is)
  (case b_tuple=>k_is)
  (case b_zip=>k_is)
  (case q_COMMON_TURN=>k_is)
  (case q_NOT_TOLD=>k_is)
  (case q_NO_KIND=>k_is)
  (case q_RARE_CHAINS=>k_is)
  (case r_RARE_CHAINS=>k_is)
  (case r_RARE_CHAINS_0=>k_is)
  (case r_RARE_CHAINS_1=>k_is)
  (case r_RARE_CHAINS_2=>k_is)
  (case r_RARE_CHAINS_3=>k_is)
  (case r_RARE_CHAINS_4=>k_is)
  (case kr_y_RARE_CHAINS=>kernel_rfl)
  (case kr_z_RARE_CHAINS_0=>kernel_rfl)
  (case kr_z_RARE_CHAINS_1=>kernel_rfl)
  (case kr_z_RARE_CHAINS_2=>kernel_rfl)
  (case kr_z_RARE_CHAINS_3=>kernel_rfl)
  (case kr_z_RARE_CHAINS_4=>kernel_rfl)
  (case q_RARE_DEGREES=>k_is)
  (case r_RARE_DEGREES=>k_is)
  (case r_RARE_DEGREES_0=>k_is)
  (case r_RARE_DEGREES_1=>k_is)
  (case r_RARE_DEGREES_2=>k_is)
  (case r_RARE_DEGREES_3=>k_is)
  (case r_RARE_DEGREES_4=>k_is)
  (case r_RARE_DEGREES_5=>k_is)
  (case kr_y_RARE_DEGREES=>kernel_rfl)
  (case kr_z_RARE_DEGREES_0=>kernel_rfl)
  (case kr_z_RARE_DEGREES_1=>kernel_rfl)
  (case kr_z_RARE_DEGREES_2=>kernel_rfl)
  (case kr_z_RARE_DEGREES_3=>kernel_rfl)
  (case kr_z_RARE_DEGREES_4=>kernel_rfl)
  (case kr_z_RARE_DEGREES_5=>kernel_rfl)
