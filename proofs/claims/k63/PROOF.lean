import PyProof.Rows.All
import Wide.All
import OpenK.AllK
import Wide.FinOn
import PyProof.EqAt
import PyProof.EqKinds
import PyProof.TupleCall
import PyProof.ListMulAny
import KE.KIsAll
import Lean
import PySem.Challenge.RW_mirrorhouse_k63_degrees_and_counts
set_option tactic.hygienic false
set_option bootstrap.genMatcherCode false
set_option compiler.extract_closed false
set_option linter.all false
set_option Elab.async false
open PySem renaming wpAny_bind→ls,wpAny_pure→su,starEach→sC,wpAny→sG,Program→sH,mainGlobals→sI,model→sL,wpAny_mono→sN,wpAny_field→sS,World→sU,wpAny_loadPart'→s_,wpAny_setField_rec→tf,Spec→tq,wpAny_callSpecial?_slot→tE,wpAny_call_entry→tM,behindInMarks→tO,wpAny_holding→tQ,FuncData→tU,backTo→tV,wpAny_newObj_type→tX,bootBuiltins→u_,sysModules→x_,wpAny_truthy_bool→y_,compareOp→z_,attributeBase→Ad,rawInt→Aj,strKind→Am,assignEach→An,wpAny_seqItems→Ao,wpAny_setField→Ap,wpAny_execs_nil→Ar,swapsWith→As,wpAny_passesOwn→Au,sizeLine_eq→Av,foldedSetIterable→Ax,binaryOp→Ay,codeAny_call_builtin→AB,mem_of_lookup→AD,ExcBaseFacts→AG,wpAny_Call_Name_kw→AJ,valueAt→AK,IsPair→AZ,cLine→A0,wpAny_attempt→A1,tupleKind→A3,letOwnedTupleGo→A6,Keyword→A7,sliceBounds→A8,keywordEach→A9,wpAny_pyIter_list→Ed,wpAny_call→Ee,DictEntry→Eg,wpAny_rule→Eh,wpAny_loadPart_at→Em,wpAny_standAt→Ep,wpAny_onRaise→Et,wpAny_execs_cons→Ez
open PySem.Heap renaming get?_push_of_some→mo,lt_size→sE,get?_push_size→sF,get?_update_other→sM,get?_update_self→tw,size_push→AW,get?_push_ne→Ek
open PySem.W renaming Frag→sx,mg_none_of→tK,kitOne→v_,kia_one→Ah,nsIn→Ai,findIn→Aq,keepIn→AI,hasDictIn→AU,mg_of→AV,hideAll→A4,hideAll_get→A5,KasT→DX,looks_findIn→D_,typeIn→Ec,specialIn→El,mroIn→Eu
open PySem.Value renaming ref→sT,none→tj,builtin→Ex
open PySem.Builtin.Range renaming rangeSize→sV
open PySem.Builtin.SmallTypes renaming nextOf→sW,ownedTupleIsFree→tm,ownedTupleHandOut→w_
open PySem.Str renaming ofString→sX,empty→Ac
open PySem.PassesOwn renaming never→sY
open PySem.NameKind renaming free→sZ
open False renaming elim→tu
open PyProof.Rows renaming slot_tuple_getitem→tH,callWith_type1→Aa,seqObj→AO
open Array renaming getElem?_eq_some_iff→tW,length_toList→Ak
open Ne renaming symm→tZ
open PySem.Obj renaming mapSeq→t_,mapFields→Az,data_mapFields→AN,isFreed_of_fields→AX,putName→Ew
open Or renaming inr→Ab,inl→Aw
open PySem.F renaming slot_enumerate_next→Ae,plainAttrs_list→Al,slot_tuple_iterator_next→AA,slot_enumerate_iter→AY,args_tuple_add_2→Ef,slot_list_append→Ei,type_list_append→Ej,entry_tuple_add→Es,slot_tuple_add→EE
open Classical renaming byContradiction→Af,propDecidable→AL
open PySem.Builtin.List renaming listTooLong→Ag
open PySem.Builtin.Slice renaming slicePlaces→AC,sliceAdjust→Eb
open PySem.Builtin.Tuple renaming tupleExact→AE
open True renaming intro→AF
open PySem.Calls renaming spliced_cons→AH,callWith_builtin→AR
open ForInStep renaming yield→AM
open Int renaming emod_lt_of_pos→AQ,emod_nonneg→B_
open Sum renaming inr→AS
open Option renaming map→A2
open PySem.EntryCells renaming newEntry→A_
open List renaming filter_congr→En,map_drop→Ey,ext_getElem→EC,not_mem_nil→ED,range_succ_eq_map→EG
open PySem.Builtin.Str renaming occurrences→Er
open Nat renaming lt_succ_self→EA
open Option renaming bind_some → ak,map_some → bg,map_eq_some_iff → fb,bind_eq_some_iff → iq,some → g2j
open List renaming getElem?_cons_zero → au,getElem?_cons_succ → aw,set_cons_succ → aK,set_cons_zero → aJ,length_map → aC,length_cons → aM,length_nil → aN,replicate → aL,mem_cons_self → ba,map_cons → aH,mem_cons_of_mem → br,mem_cons → aQ,nil_append → bu,cons_append → bD,length_append → bX,range → aV,size_toArray → cx,map_nil → bq,all_eq_true → cw,mem_append_right → dD,getD_eq_getElem?_getD → fL,getElem?_eq_getElem → fq,append_nil → cO,getElem?_map → dX,getElem?_eq_some_iff → gE,map_map → cN,mem_filter → e_,getElem?_append_left → lQ,getElem?_set → f_,getElem?_append_right → mv,length_singleton → iJ,lookup_cons → gu,length_range → gD,mem_map → eW,mem_append → gs,getElem?_set_ne → lP,map_append → gC,getElem?_replicate → nz,mem_filterMap → lO,pairwise_cons → lN,replicate_succ → mr,map_congr_left → mq,mem_range → ip,getElem?_set_self → oZ,append_assoc → mn,eq_nil_of_length_eq_zero → g2g,flatten_cons → nu,flatMap_cons → nt,foldl_cons → mm,mem_append_left → rR,nodup_cons → nq,pairwise_map → oY,filterMap_cons → rQ,mem_map_of_mem → rP,filter_cons_of_pos → g2t,filter_cons_of_neg → g2u,take_of_length_le → g2v,length_replicate → g2x,find?_cons → oW,singleton_append → g2z,length_filter_le → g3a,sum_cons → nk,mem_of_getElem? → g3d,any_eq_true → rN,length_pos_iff → g3f,toArray → nj
open Nat renaming le_refl → aU,ne_of_lt → cb,lt_of_lt_of_le → dY,zero_add → cW,zero_le → fo,le_trans → gq,le_succ → il,lt_irrefl → ml,ne_of_gt → mj,lt_succ_of_lt → rO,lt_of_le_of_lt → g3h
open Bool renaming false_eq_true → cM,and_eq_true → du,false_ne_true → ny,not_true → lM,or_eq_true → rM
set_option autoImplicit true
set_option relaxedAutoImplicit true
set_option maxRecDepth 100000
namespace L2
open PySem PySem.Spec PyProof.Rows
abbrev Key:=Sum Int Str
def Ub:Key->Value->Bool
 | .inl k,v=>Value.isInt k v
 | .inr x,v=>Value.isStrOf x v
def PU (w:sU):Key->Int
 | .inl k=>hashInt k
 | .inr x=>hashStr w x
def yM:∀ {k:Key} {v:Value},Ub k v=true->(∃ i t,k=Sum.inl i/\v=Value.int i t)\/(∃ x t,k=AS x/\v=Value.str x t)
 | .inl i,v,h=>by
  obtain ⟨t,e⟩:=Value.isInt_shape (k:=i) (v:=v) h
  exact .inl ⟨i,t,rfl,e⟩
 | .inr x,v,h=>by
  obtain ⟨t,e⟩:=Value.isStrOf_shape (x:=x) (v:=v) h
  exact .inr ⟨x,t,rfl,e⟩
def Qz (i) (t:Tok):Ub (.inl i) (.int i t)=true:=by simp [Ub,Value.isInt]
def Qy (x) (t:Tok):Ub (.inr x) (.str x t)=true:=by simp [Ub,Value.isStrOf]
def Fm (a b):decide ((Sum.inl a:Key)=Sum.inl b)=(a==b):=by
 by_cases e:a=b
 .subst e; simp
 .have h:¬ (Sum.inl a:Key)=Sum.inl b:=λq=>e (Sum.inl.inj q)
  rw [decide_eq_false h]
  exact (beq_eq_false_iff_ne.mpr e).symm
def Fj (a b):decide ((AS a:Key)=AS b)=decide (a=b):=by
 by_cases e:a=b
 .subst e; simp
 .have h:¬ (AS a:Key)=AS b:=λq=>e (AS.inj q)
  rw [decide_eq_false h,decide_eq_false e]
def Fl (a) (b:Str):decide ((Sum.inl a:Key)=AS b)=false:=decide_eq_false (λq=>nomatch q)
def Fk (a) (b:Int):decide ((AS a:Key)=Sum.inl b)=false:=decide_eq_false (λq=>nomatch q)
def xq (prog:sH) (w:sU):PySem.KeyKind prog w Key where
 is:=Ub
 hash:=PU w
 inj:=λv a b g d=>by
  rcases yM g with ⟨i,t,rfl,rfl⟩ | ⟨x,t,rfl,rfl⟩
  .rcases yM d with ⟨j,u,rfl,e⟩ | ⟨y,u,rfl,e⟩
   .injection e with e1 _; rw [e1]
   .exact nomatch e
  .rcases yM d with ⟨j,u,rfl,e⟩ | ⟨y,u,rfl,e⟩
   .exact nomatch e
   .injection e with e1 _; rw [e1]
 byValue:=λk v h=>by
  rcases yM h with ⟨i,t,rfl,rfl⟩ | ⟨x,t,rfl,rfl⟩ <;> rfl
 pyHash:=λc h=>by
  rcases yM c with ⟨i,t,rfl,rfl⟩ | ⟨x,t,rfl,rfl⟩
  .exact wpAny_pyHash_int h
  .exact wpAny_pyHash_str h
 eqBool:=λf c h=>by
  rcases yM f with ⟨i,t,rfl,rfl⟩ | ⟨x,t,rfl,rfl⟩
  .rcases yM c with ⟨j,u,rfl,rfl⟩ | ⟨y,u,rfl,rfl⟩
   .rw [Fm] at h; exact wpAny_eqBool_int h
   .rw [Fl] at h; exact SeqAt.EqAt.int_str i t y u _ _ _ _ h
  .rcases yM c with ⟨j,u,rfl,rfl⟩ | ⟨y,u,rfl,rfl⟩
   .rw [Fk] at h; exact SeqAt.EqAt.str_int x t j u _ _ _ _ h
   .rw [Fj] at h; exact wpAny_eqBool_str h
 «strs» := λk x t v h=>by
  rcases yM h with ⟨i,u,rfl,e⟩ | ⟨y,u,rfl,e⟩
  .exact nomatch e
  .injection e with e1 _
   subst e1
   cases v <;> rfl
def Wk (prog) (w:sU) (i:Int) (t:Tok):(xq prog w).is (.inl i) (.int i t)=true:=Qz i t
def Wj (prog) (w:sU) (x:Str) (t:Tok):(xq prog w).is (.inr x) (.str x t)=true:=Qy x t
inductive V where
 | non | bl (b:Bool) | int (i:Int) | str (x:Str) | byt (b:Array UInt8) | flt (b:UInt64) | ref (a:Addr) | ty (n:String)
 deriving DecidableEq
def yJ:V->Value->Prop
 | .non,u=>u=tj
 | .bl b,u=>u=Value.bool b
 | .int i,u=>∃ t,u=Value.int i t
 | .str x,u=>∃ t,u=Value.str x t
 | .byt b,u=>∃ t,u=Value.bytes b t
 | .flt b,u=>∃ t,u=Value.float b t
 | .ref a,u=>u=sT a
 | .ty n,u=>u=Value.type n
abbrev yx:List V->List Value->Prop:=Paired yJ
def yx.length (r:yx xs us):xs.length=us.length:=Paired.length r
theorem yx.get:∀ {xs:List V} {us:List Value} {i:Nat} {x:V},yx xs us->xs[i]? = some x->∃ u,us[i]? = some u/\yJ x u
 | _,_,_,_,.nil,e=>by simp at e
 | _,_,0,_,.cons r _,e=>by simp at e; subst e; exact ⟨_,rfl,r⟩
 | _,_,i+1,x,.cons _ t,e=>by
  obtain ⟨u,h1,h2⟩:=yx.get (i:=i) (x:=x) t (by simpa using e)
  exact ⟨u,by simpa using h1,h2⟩
theorem yx.set (r:yJ x u):∀ {xs:List V} {us:List Value} (i:Nat),yx xs us->yx (xs.set i x) (us.set i u)
 | _,_,_,.nil=>.nil
 | _,_,0,.cons _ t=>.cons r t
 | _,_,i+1,.cons q t=>.cons q (yx.set r i t)
theorem yx.append:∀ {xs ys:List V} {us a:List Value},yx xs us->yx ys a->yx (xs++ys) (us++a)
 | _,_,_,_,.nil,s=>s
 | _,_,_,_,.cons r t,s=>.cons r (yx.append t s)
theorem yx.take:∀ {xs:List V} {us:List Value} (n:Nat),yx xs us->yx (xs.take n) (us.take n)
 | _,_,0,_=>.nil
 | _,_,_+1,.nil=>.nil
 | _,_,n+1,.cons r t=>.cons r (yx.take n t)
theorem yx.drop:∀ {xs:List V} {us:List Value} (n:Nat),yx xs us->yx (xs.drop n) (us.drop n)
 | _,_,0,r=>r
 | _,_,_+1,.nil=>.nil
 | _,_,n+1,.cons _ t=>yx.drop n t
def JC:Option V->Option Value->Prop
 | some v,some u=>yJ v u
 | none,none=>True
 | _,_=>False
def KV {κ:Type}:List (κ×V)->List (κ×Value)->Prop:=Paired λ(p:κ×V) (q:κ×Value)=>p.1=q.1/\yJ p.2 q.2
def kV:Key->V
 | .inl i=>.int i
 | .inr x=>.str x
inductive HO where
  | lst (xs:List V)
  | tup (xs:List V)
  | dK (ar:List (Key×V)) | dT (ar:List (List Key×V))
  | set (S:Int->Bool) (n:Nat)
  | ins (C dx:Addr) (fs:List (Str×V))
  | own (x:Addr)
  | xd (fs:List (Str×V))
  | met (f x:Addr)
  | rng (lo hi:Int)
  | frz (o:Obj) (u:HO)
  | tbl (ps:Array Value)
  | ext (φ:Heap->Prop)
abbrev Hp:=Addr->Option HO
def upd (H:Hp) (a:Addr) (o:HO):Hp:=λb=>if b=a then some o else H b
def zq    : upd H a o a=some o:=by unfold upd; rw [if_pos rfl]
def zu (h:b≠a):upd H a o b=H b:=by unfold upd; rw [if_neg h]
def zy {H:Hp} (h:H a=some o) (h':H b=none):a≠b:=by
 intro e; subst e; rw [h] at h'; cases h'
section
variable (P:sH) (w:sU)
def y7 (H:Hp) (h:Heap) (a:Addr):HO->Prop
 | .lst xs=>xs.length<=sizeLine/\∃ (ah:List Value) (n:Nat),yx xs ah/\h.get? a=some { cls:=.type "list",data:=.seq ah.toArray n }
 | .tup xs=>xs.length<=sizeLine/\∃ ah:List Value,yx xs ah/\IsTup h a ah.toArray
 | .dK ar=>ar.length<=sizeLine/\(a==x_)=false/\∃ vs,KV ar vs/\h.DictOf (xq P w) a vs
 | .dT ar=>ar.length<=sizeLine/\(a==x_)=false/\∃ xs:List (List Key×Addr×Value),
   Paired (λ(p:List Key×V) (q:List Key×Addr×Value)=>p.1=q.1/\H q.2.1=some (.tup (p.1.map kV))/\yJ p.2 q.2.2) ar xs ∧
   ∃ o es ep,h.get? a=some o/\o.ExactDict/\o.data=.dict es ep/\es.toList=xs.map (entryOfKey (A3 (xq P w)))/\(xs.map (·.1)).Nodup
 | .set S n=>h.SetOf (intKind P w) a S n
 | .ins C dx fs=>H dx=some (.own a)/\fs.length<=1000/\dx≠a/\h.get? a=some (PySem.W.instObj C dx) ∧
   ∃ mA,h.Ns1 dx mA/\(∀ f,JC (fs.lookup f) (mA f))/\PySem.Within mA (fs.map (·.1))
 | .own _=>∃ o,h.get? a=some o
 | .xd fs=>∃ mA,h.Ns1 a mA/\∀ f,JC (fs.lookup f) (mA f)
 | .rng lo hi=>∃ t u v,h.get? a=some { cls:=.type "range",data:=.fields #[.int lo t,.int hi u,.int 1 v] }
 | .frz o u=>h.get? a=some o/\y7 H h a u
 | .tbl ps=>h.get? a=some { cls:=.none,data:=.fields ps }
 | .met f x=>h.get? a=some (PySem.W.methodObj (.ref f) (.ref x))
 | .ext φ=>φ h/\(∃ o,h.get? a=some o)/\∀ h1 h2:Heap,φ h1->(∀ o,h1.get? a=some o->h2.get? a=some o)->φ h2
def cj (H:Hp) (h:Heap):Prop:=∀ a o,H a=some o->y7 P w H h a o
end
section
variable {P:sH} {w:sU} {H H':Hp} {h h':Heap} {a:Addr} {o:HO}
def y7.lt (x:y7 P w H h a o):a < h.objs.size:=by
 cases o with
 | lst xs=>obtain ⟨_,_,_,_,e⟩:=x; exact sE e
 | tup xs=>obtain ⟨_,_,_,p⟩:=x; exact p.lt
 | dK ar=>obtain ⟨_,_,_,_,o,_,_,e,_⟩:=x; exact sE e
 | dT ar=>obtain ⟨_,_,_,_,o,_,_,e,_⟩:=x; exact sE e
 | set S n=>obtain ⟨o,_,_,_,e,_⟩:=x; exact sE e
 | ins C dx fs=>obtain ⟨_,_,_,e,_⟩:=x; exact sE e
 | own y=>obtain ⟨_,e⟩:=x; exact sE e
 | xd fs=>obtain ⟨_,⟨_,_,_,e,_⟩,_⟩:=x; exact sE e
 | rng lo hi=>obtain ⟨_,_,_,e⟩:=x; exact sE e
 | frz ob u=>obtain ⟨e,_⟩:=x; exact sE e
 | tbl ps=>exact sE (show h.get? a=some _ from x)
 | met f y=>exact sE (show h.get? a=some _ from x)
 | ext φ=>obtain ⟨_,⟨_,e⟩,_⟩:=x; exact sE e
theorem C_  {F G:α->β->Prop}:∀ {l₁:List α} {c:List β},Paired F l₁ c->(∀ a b,F a b->G a b)->Paired G l₁ c
 | _,_,.nil,_=>.nil
 | _,_,.cons r t,f=>.cons (f _ _ r) (C_ t f)
def y7.stay (x:y7 P w H h a o) (k:∀ b u,(b=a\/H b=some (.own a))->h.get? b=some u->h'.get? b=some u)
  (j:∀ b,H b=some (.own a)->H' b=some (.own a)) (ht:∀ b xs,H b=some (.tup xs)->H' b=some (.tup xs)):y7 P w H' h' a o:=by
 induction o with
 | lst xs=>obtain ⟨z,ah,n,r,e⟩:=x; exact ⟨z,ah,n,r,k _ _ (.inl rfl) e⟩
 | tup xs=>obtain ⟨z,ah,r,ob,e,c⟩:=x; exact ⟨z,ah,r,ob,k _ _ (.inl rfl) e,c⟩
 | dK ar=>obtain ⟨z,y,vs,r,ob,es,ep,e,c⟩:=x; exact ⟨z,y,vs,r,ob,es,ep,k _ _ (.inl rfl) e,c⟩
 | dT ar =>
  obtain ⟨z,y,xs,r,ob,es,ep,e,c⟩:=x
  exact ⟨z,y,xs,C_ r λp q z=>⟨z.1,ht _ _ z.2.1,z.2.2⟩,ob,es,ep,k _ _ (.inl rfl) e,c⟩
 | set S n=>obtain ⟨ob,es,ep,t,e,c⟩:=x; exact ⟨ob,es,ep,t,k _ _ (.inl rfl) e,c⟩
 | ins C dx fs =>
  obtain ⟨d,z,g,e,mA,⟨od,es,ep,e2,c⟩,r⟩:=x
  exact ⟨j _ d,z,g,k _ _ (.inl rfl) e,mA,⟨od,es,ep,k _ _ (.inr d) e2,c⟩,r⟩
 | own y=>obtain ⟨ob,e⟩:=x; exact ⟨ob,k _ _ (.inl rfl) e⟩
 | xd fs=>obtain ⟨mA,⟨od,es,ep,e,c⟩,r⟩:=x; exact ⟨mA,⟨od,es,ep,k _ _ (.inl rfl) e,c⟩,r⟩
 | rng lo hi=>obtain ⟨t,u,v,e⟩:=x; exact ⟨t,u,v,k _ _ (.inl rfl) e⟩
 | frz ob u i=>obtain ⟨e,q⟩:=x; exact ⟨k _ _ (.inl rfl) e,i q⟩
 | tbl ps =>
  have e:h.get? a=some { cls:=.none,data:=.fields ps }:=x
  show h'.get? a=some { cls:=.none,data:=.fields ps }
  exact k a _ (.inl rfl) e
 | met f y =>
  have e:h.get? a=some (PySem.W.methodObj (.ref f) (.ref y)):=x
  show h'.get? a=some (PySem.W.methodObj (.ref f) (.ref y))
  exact k a _ (.inl rfl) e
 | ext φ=>obtain ⟨p,⟨o,e⟩,st⟩:=x; exact ⟨st _ _ p λo q=>k _ _ (.inl rfl) q,⟨o,k _ _ (.inl rfl) e⟩,st⟩
def cj.lt (x:cj P w H h) (e:H a=some o):a < h.objs.size:=(x a o e).lt
def cj.fresh (x:cj P w H h) (e:h.objs.size<=a):H a=none:=by
 cases q:H a with
 | none=>rfl
 | some u=>exact absurd (dY (x.lt q) e) (ml _)
def cj.kept (x:cj P w H h) (k:∀ b u,h.get? b=some u->h'.get? b=some u):cj P w H h':=λa o e =>
 (x a o e).stay (λb u _ q=>k b u q) (λ_ q=>q) λ_ _ q=>q
def cj.laid (x:cj P w H h) (k:∀ b u,h.get? b=some u->h'.get? b=some u) (g:h.objs.size<=a) (new:y7 P w (upd H a o) h' a o):cj P w (upd H a o) h':=λb u e=>by
 have d:=x.fresh g
 by_cases f:b=a
 .subst f; rw [zq] at e; cases e; exact new
 .rw [zu f] at e
  exact (x b u e).stay (λc v _ q=>k c v q) (λc q=>by rw [zu (zy q d)]; exact q) λc xs q=>by rw [zu (zy q d)]; exact q
end
def Rd (H:Hp) (a:Addr) (u:HO):Prop:=H a=some u\/∃ o,H a=some (.frz o u)
def Rd.ok (r:Rd H a u) (x:cj P w H h):y7 P w H h a u:=by
 rcases r with r | ⟨o,r⟩
 .exact x a u r
 .obtain ⟨_,q⟩:=x a _ r
  exact q
def o4:Option HO->Prop
 | some (.lst _)=>True
 | some (.dK _)=>True
 | some (.dT _)=>True
 | some (.set _ _)=>True
 | some (.ins _ _ _)=>True
 | some (.ext _)=>True
 | _=>False
section
variable {P:sH} {w:sU} {H:Hp} {h h':Heap} {x e:Addr} {o':HO}
def cj.write (ok:cj P w H h) (a:o4 (H x)) (j:e=x\/H e=some (.own x)) (k:∀ b u,b≠e->h.get? b=some u->h'.get? b=some u) (m:∃ u,h'.get? e=some u)
  (new:y7 P w (upd H x o') h' x o'):cj P w (upd H x o') h':=λb u q=>by
 have l:∀ c y,H c=some (.own y)->c≠x:=λc y r z=>by subst z; rw [r] at a; exact a
 have n:∀ c xs,H c=some (.tup xs)->c≠x:=λc xs r z=>by subst z; rw [r] at a; exact a
 by_cases g:b=x
 .subst g; rw [zq] at q; cases q; exact new
 .rw [zu g] at q
  by_cases d:b=e
  .have i:H b=some (.own x):=by
    rcases j with z | z
    .exact absurd (d.trans z) g
    .rw [d]; exact z
   rw [q] at i; cases i
   obtain ⟨v,o⟩:=m
   exact ⟨v,by rw [d]; exact o⟩
  .refine (ok b u q).stay (λc v f r=>k c v ?_ r) (λc r=>by rw [zu (l c b r)]; exact r) λc xs r=>by rw [zu (n c xs r)]; exact r
   rcases f with rfl | f
   .exact d
   .rintro rfl
    rcases j with z | z
    .exact l c b f z
    .rw [f] at z; cases z; exact g rfl
end
structure Un (fs ex:List Addr) (H H':Hp) (h h':Heap):Prop where
 keep:∀ b o,h.get? b=some o->H b=none->b∉fs->b∉ex->h'.get? b=some o
 slot:∀ b o,h.get? b=some o->H b=none->b∈fs->b∉ex->∃ sl,h'.get? b=some { o with slots:=sl }
 free:∀ b o,h.get? b=some o->H b=none->b∉ex->H' b=none
 there:∀ b o,h.get? b=some o->b∉ex->∃ o',h'.get? b=some o'
 tups:∀ b xs,H b=some (.tup xs)->H' b=some (.tup xs)
 frzs:∀ b o u,H b=some (.frz o u)->H' b=some (.frz o u)
 tbls:∀ b ps,H b=some (.tbl ps)->∃ more,H' b=some (.tbl (ps++more))
section
variable {fs fs' ex ex':List Addr} {H H1 H2:Hp} {h h1 h2 h':Heap} {a x e:Addr} {o:HO}
def Un.any (u:Un fs ex H H1 h h1) (q:h.get? b=some ob) (n:H b=none) (c:b∉ex):∃ sl,h1.get? b=some { ob with slots:=sl }:=by
 by_cases d:b∈fs
 .exact u.slot b ob q n d c
 .exact ⟨ob.slots,u.keep b ob q n d c⟩
def Un.kept (k:∀ b u,h.get? b=some u->h'.get? b=some u):Un fs ex H H h h' :=
 ⟨λb ob q _ _ _=>k b ob q,λb ob q _ _ _=>⟨ob.slots,k b ob q⟩,λ_ _ _ n _=>n,λb ob q _=>⟨ob,k b ob q⟩,λ_ _ q=>q,λ_ _ _ q=>q,λ_ ps q=>⟨#[],by rw [q]; simp⟩⟩
def Un.refl:Un fs ex H H h h:=Un.kept λ_ _ q=>q
def Un.laid (k:∀ b u,h.get? b=some u->h'.get? b=some u) (d:h.objs.size<=a) (c:H a=none):Un fs ex H (upd H a o) h h' where
 keep:=λb u q _ _ _=>k b u q
 slot:=λb u q _ _ _=>⟨u.slots,k b u q⟩
 free:=λb u q n _=>by rw [zu (cb (dY (sE q) d))]; exact n
 there:=λb u q _=>⟨u,k b u q⟩
 tups:=λb xs q=>by rw [zu (zy q c)]; exact q
 frzs:=λb u xs q=>by rw [zu (zy q c)]; exact q
 tbls:=λb ps q=>⟨#[],by rw [zu (zy q c),q]; simp⟩
def Un.write (c:o4 (H x)) (l:e=x\/H e=some (.own x)) (k:∀ b u,b≠e->h.get? b=some u->h'.get? b=some u) (j:∃ u,h'.get? e=some u):Un fs ex H (upd H x o) h h':=by
 have g:∀ b,H b=none->b≠x:=λb n z=>by subst z; rw [n] at c; exact c
 have i:∀ b,H b=none->b≠e:=λb n z=>by
  subst z
  rcases l with r | r
  .exact g b n r
  .rw [n] at r; cases r
 have d:∀ b u,H b=some u->¬ o4 (some u)->b≠x:=λb u q nm z=>by subst z; rw [q] at c; exact nm c
 refine ⟨λb u q n _ _=>k b u (i b n) q,λb u q n _ _=>⟨u.slots,k b u (i b n) q⟩,λb u q n _=>by rw [zu (g b n)]; exact n,λb u q _=>?_,
  λb xs q=>by rw [zu (d b _ q λz=>z)]; exact q,λb u xs q=>by rw [zu (d b _ q λz=>z)]; exact q,λb ps q=>⟨#[],by rw [zu (d b _ q λz=>z),q]; simp⟩⟩
 by_cases f:b=e
 .subst f; exact j
 .exact ⟨u,k b u f q⟩
end
def trk (h:Heap) (H:Hp):List Addr:=(aV h.objs.size).filter λa=>(H a).isSome
def KY (h:Heap) (H:Hp):Heap:=A4 h (trk h H)
def QL (h) (H:Hp):(KY h H).objs.size=h.objs.size:=PySem.W.hideAll_size _ _
def KW (e:h.get? b=some o) (n:H b=none):(KY h H).get? b=some o :=
 A5 _ e λa=>by
  have q:(H b).isSome=true:=(e_.mp a).2
  rw [n] at q; simp at q
def Bu (e:(KY h H).get? b=some o):h.get? b=some o/\H b=none:=by
 have a:h.get? b=some o:=PySem.W.of_hideAll (trk h H) e
 refine ⟨a,?_⟩
 cases q:H b with
 | none=>rfl
 | some x =>
  have c:b∈trk h H:=e_.mpr ⟨ip.mpr (sE a),by simp [q]⟩
  have z:(KY h H).get? b=none:=PySem.W.hideAll_none (trk h H) c
  rw [z] at e; cases e
def Cu (g h:Heap) (L:Addr):List (Addr×Obj):=(aV h.objs.size).filterMap λa=>if a=L\/(g.get? a).isSome=true then none else (h.get? a).map λo=>(a,o)
def wo (g h:Heap) (L d:Addr):List (Addr×Obj):=(Cu g h L).filter λp=>decide (p.1≠d)
structure Mod (K:sx) (mg:Str->Option Value) (base:Heap):Prop where
 kin:K.In base
 glob:base.Ns sI mg
 blt:∃ mb,base.Ns builtinsNs mb/\∀ x:Str,x≠"__name__"->mb x=u_ x
 nolimit:base.NoLimit
structure Cx where
 prog:sH
 w:sU
 K:sx
 mg:Str->Option Value
 base:Heap
 A:Around
 N:List Str
 s₀:Shared
 H₀:Hp
 env:Env
 outer:List Env
 stack:List Env
 ex:List Addr
 fn:Str->Bool
 calm:Bool
 pn:List (Addr×Obj)
 xe:Value->Shared->Prop
def cg (l:List Env):List Addr:=l.filterMap (·.frame)
abbrev Cx.fs (X:Cx):List Addr:=cg X.outer
def iu (sc:Scope) (x:Str):Prop:=sc.names.lookup x=some .local\/sc.names.lookup x=some .cell\/sc.names.lookup x=some .free
def Loc (sc:Scope) (x:Str):Prop:=sc.names.lookup x=some .local\/sc.names.lookup x=some .cell
def P5 (env:Env) (h:Heap) (m:Str->Option Value) (x:Str) (u:Value):Prop :=
 (env.kindOf x=some .local/\m x=some u)\/((env.kindOf x=some .cell\/env.kindOf x=some .free)/\∃ c,env.cells.lookup x=some c/\h.IsCell c (some u))
structure Cx.Ok (X:Cx):Prop where
 mod:Mod X.K X.mg X.base
 kind:X.env.scope.kind=.function
 glob:X.env.globals=sI
 blt:X.env.builtins=builtinsNs
 above:X.s₀.heap.objs.size<=X.env.locals
 inj:∀ x y c,X.env.cells.lookup x=some c->X.env.cells.lookup y=some c->x=y
 has:∀ x,(X.env.kindOf x=some .cell\/X.env.kindOf x=some .free)->∃ c,X.env.cells.lookup x=some c
 cab:∀ x c,X.fn x=true->X.env.cells.lookup x=some c->X.s₀.heap.objs.size<=c
 hd:X.calm=true->X.A.handled=none
 frames:X.A.frames=some X.stack
 stk:X.stack=X.outer\/(X.stack=X.env :: X.outer/\X.env.frame=some X.env.locals)
 exf:∀ b∈X.ex,b≠X.env.locals/\∀ x c,X.env.cells.lookup x=some c->c≠b
 bs:∀ b o,X.base.get? b=some o->X.s₀.heap.get? b=some o/\X.H₀ b=none
 bsz:X.base.objs.size<=X.s₀.heap.objs.size
 noex:∀ b o,X.base.get? b=some o->b∉X.ex
 exfs:∀ b∈X.ex,b∉X.fs
 funs:X.s₀.heap.FunFrames X.base X.outer
 frf:∀ b∈X.fs,X.H₀ b=none
structure Inv (X:Cx) (pins:List (Addr×Obj)) (σ:List (Option V)) (H:Hp) (s:Shared):Prop where
 ok:X.Ok
 os:s.os=X.s₀.os
 bare:AllBare s.gens
 base:Un X.fs X.ex X.H₀ H X.s₀.heap s.heap
 loc:∃ m,s.heap.Ns X.env.locals m/\∀ (i:Nat) (x:Str) (v:V),X.N[i]? = some x->σ[i]? = some (some v)->iu X.env.scope x->∃ u,yJ v u/\P5 X.env s.heap m x u
 cell:∀ x c,X.env.cells.lookup x=some c->∃ v,s.heap.IsCell c v
 free:H X.env.locals=none
 freeC:∀ x c,X.env.cells.lookup x=some c->H c=none
 pin:∀ p∈X.pn++pins,s.heap.get? p.1=some p.2/\H p.1=none/\p.1≠X.env.locals/\p.1∉X.fs/\∀ v,p.2.data≠.cell v
 hok:cj X.prog X.w H s.heap
 len:σ.length=X.N.length
section
variable {X:Cx} {pins:List (Addr×Obj)} {σ:List (Option V)} {H H':Hp} {s:Shared} {h':Heap}
def Cx.Ok.nofr (ok:X.Ok) (e:X.base.get? b=some o):b∉X.fs:=λa=>by
 have:=(ok.funs.mem a).1
 rw [e] at this; cases this
def Inv.bs (I:Inv X pins σ H s):∀ b o,X.base.get? b=some o->s.heap.get? b=some o/\H b=none:=λb o e =>
 ⟨I.base.keep b o (I.ok.bs b o e).1 (I.ok.bs b o e).2 (I.ok.nofr e) (I.ok.noex b o e),I.base.free b o (I.ok.bs b o e).1 (I.ok.bs b o e).2 (I.ok.noex b o e)⟩
def Inv.bk (I:Inv X pins σ H s):∀ b o,X.base.get? b=some o->s.heap.get? b=some o:=λb o e=>(I.bs b o e).1
def Inv.mod (I:Inv X pins σ H s):Mod X.K X.mg X.base:=I.ok.mod
def Inv.kIn (I:Inv X pins σ H s):X.K.In s.heap:=I.ok.mod.kin.keeps I.bk
def Inv.lt (I:Inv X pins σ H s):X.env.locals < s.heap.objs.size:=let ⟨_,a,_⟩:=I.loc; a.lt
def Inv.sz (I:Inv X pins σ H s):X.s₀.heap.objs.size<=s.heap.objs.size:=gq I.ok.above (Nat.le_of_lt I.lt)
def Inv.nofs (I:Inv X pins σ H s) {a:Addr} (h:s.heap.objs.size<=a):a∉X.fs:=λc=>by
 obtain ⟨_,o,b,_⟩:=I.ok.funs.mem c
 exact absurd (dY (sE b) (gq I.sz h)) (ml _)
def Inv.cne (I:Inv X pins σ H s):∀ x c,X.env.cells.lookup x=some c->c≠X.env.locals:=λx c e z=>by
 obtain ⟨v,o,a,hd⟩:=I.cell x c e
 obtain ⟨m,⟨o',es,ep,d,b,_⟩,_⟩:=I.loc
 rw [z,d] at a; cases a; rw [b] at hd; cases hd
def Inv.funs (I:Inv X pins σ H s):s.heap.FunFrames X.base X.outer:=by
 have all:∀ (l:List Env),(∀ b∈cg l,b∈X.fs)->X.s₀.heap.FunFrames X.base l->s.heap.FunFrames X.base l:=by
  intro l
  induction l with
  | nil=>intro _ _; trivial
  | cons env r g =>
   intro f m
   obtain ⟨n,⟨L,o,a,j,i,hd⟩,h⟩:=m
   have d:L∈X.fs:=f L (by unfold cg; rw [rQ,a]; exact ba)
   obtain ⟨sl,e⟩:=I.base.slot L o i (I.ok.frf L d) d λz=>I.ok.exfs L z d
   exact ⟨n,⟨L,_,a,j,e,hd⟩,g (λb c=>f b (by unfold cg; rw [rQ,a]; exact br _ c)) h⟩
 exact all X.outer (λ_ c=>c) I.ok.funs
def Inv.stack (I:Inv X pins σ H s):s.heap.FunFrames X.base X.stack:=by
 rcases I.ok.stk with e | ⟨e,b⟩
 .rw [e]; exact I.funs
 .rw [e]
  obtain ⟨m,a,_⟩:=I.loc
  refine .cons (by rw [I.ok.kind]; decide) b a ?_ I.funs
  exact Heap.get?_none_of_le (gq I.ok.bsz I.ok.above)
def Inv.stkSub (I:Inv X pins σ H s):∀ b∈cg X.stack,b∈X.env.locals :: X.fs:=λb a=>by
 rcases I.ok.stk with e | ⟨e,c⟩
 .rw [e] at a; exact br _ a
 .rw [e] at a
  unfold cg at a
  rw [rQ,c] at a
  exact a
def Inv.stkFree (I:Inv X pins σ H s):∀ b∈cg X.stack,H b=none:=λb a=>by
 rcases aQ.mp (I.stkSub b a) with e | a
 .rw [e]; exact I.free
 .obtain ⟨_,o,c,_⟩:=I.ok.funs.mem a
  exact I.base.free b o c (I.ok.frf b a) λz=>I.ok.exfs b z a
def Inv.step    {ch:List Addr} (I:Inv X pins σ H s)
  (f:∀ b∈ch,(b∈X.ex\/X.s₀.heap.objs.size<=b)/\b≠X.env.locals/\(∀ x c,X.env.cells.lookup x=some c->c≠b)/\∀ p∈X.pn++pins,p.1≠b)
  (keep:∀ b o,b≠X.env.locals->b∉X.fs->b∉ch->s.heap.get? b=some o->H b=none->h'.get? b=some o)
  (slot:∀ b o,b≠X.env.locals->b∈X.fs->b∉ch->s.heap.get? b=some o->H b=none->∃ sl,h'.get? b=some { o with slots:=sl }) (free:∀ b o,b∉ch->s.heap.get? b=some o->H b=none->H' b=none)
  (there:∀ b o,b∉ch->s.heap.get? b=some o->∃ o',h'.get? b=some o')
  (tups:∀ b xs,H b=some (.tup xs)->H' b=some (.tup xs)) (frzs:∀ b o u,H b=some (.frz o u)->H' b=some (.frz o u)) (tbls:∀ b ps,H b=some (.tbl ps)->∃ more,H' b=some (.tbl (ps++more)))
  (ns:∀ m,s.heap.Ns X.env.locals m->h'.Ns X.env.locals m) (hok:cj X.prog X.w H' h') (L:AllBare g') :
  Inv X pins σ H' { s with heap:=h',gens:=g',drawn:=d',toks:=t' }:=by
 have w:∀ b o,X.s₀.heap.get? b=some o->b≠X.env.locals:=λb o e=>cb (dY (sE e) I.ok.above)
 have y:∀ b o,X.s₀.heap.get? b=some o->b∉X.ex->b∉ch:=λb o e a h=>by
  rcases (f b h).1 with z | z
  .exact a z
  .exact absurd (dY (sE e) z) (ml _)
 have g:∀ x c,X.env.cells.lookup x=some c->∀ v,s.heap.IsCell c v->h'.IsCell c v:=λx c e v ⟨o,j,hd⟩=>by
  have t:c∉ch:=λz=>(f c z).2.2.1 x c e rfl
  by_cases C:c∈X.fs
  .obtain ⟨sl,q⟩:=slot c o (I.cne x c e) C t j (I.freeC x c e)
   exact ⟨_,q,hd⟩
  .exact ⟨o,keep c o (I.cne x c e) C t j (I.freeC x c e),hd⟩
 refine ⟨I.ok,I.os,L,⟨λb o e n h a=>?_,λb o e n h a=>?_,λb o e n a=>?_,λb o e a=>?_,λb xs e=>tups b xs (I.base.tups b xs e),λb o xs e=>frzs b o xs (I.base.frzs b o xs e),λb ps e=>?_⟩,?_,λx c e=>?_,?_,λx c e=>?_,λp B=>?_,hok,I.len⟩
 .exact keep b o (w b o e) h (y b o e a) (I.base.keep b o e n h a) (I.base.free b o e n a)
 .obtain ⟨sl,e1⟩:=I.base.slot b o e n h a
  obtain ⟨cX,e2⟩:=slot b _ (w b o e) h (y b o e a) e1 (I.base.free b o e n a)
  exact ⟨cX,e2⟩
 .obtain ⟨o',e1⟩:=I.base.there b o e a
  exact free b o' (y b o e a) e1 (I.base.free b o e n a)
 .obtain ⟨o',e1⟩:=I.base.there b o e a
  exact there b o' (y b o e a) e1
 .obtain ⟨F,e1⟩:=I.base.tbls b ps e
  obtain ⟨E,e2⟩:=tbls b _ e1
  exact ⟨F++E,by rw [e2,Array.append_assoc]⟩
 .obtain ⟨m,G,J⟩:=I.loc
  refine ⟨m,ns m G,λi x v e1 e2 M=>?_⟩
  obtain ⟨u,r,l⟩:=J i x v e1 e2 M
  refine ⟨u,r,?_⟩
  rcases l with l | ⟨k,c,e,z⟩
  .exact .inl l
  .exact .inr ⟨k,c,e,g x c e _ z⟩
 .obtain ⟨v,z⟩:=I.cell x c e
  exact ⟨v,g x c e v z⟩
 .obtain ⟨m,⟨o,_,_,j,_⟩,_⟩:=I.loc
  exact free _ o (λz=>(f _ z).2.1 rfl) j I.free
 .obtain ⟨v,o,j,hd⟩:=I.cell x c e
  exact free c o (λz=>(f c z).2.2.1 x c e rfl) j (I.freeC x c e)
 .obtain ⟨e,n,A,nf,d⟩:=I.pin p B
  have t:p.1∉ch:=λz=>(f p.1 z).2.2.2 p B rfl
  exact ⟨keep p.1 p.2 A nf t e n,free p.1 p.2 t e n,A,nf,d⟩
def Inv.un (I:Inv X pins σ H s) (u:Un X.fs [] H H' s.heap h') (hok:cj X.prog X.w H' h'):Inv X pins σ H' { s with heap:=h',toks:=t' }:=by
 obtain ⟨m,⟨o,es,ep,f,r⟩,_⟩:=id I.loc
 obtain ⟨sl,j⟩:=u.any f I.free (by simp)
 exact I.step (g':=s.gens) (d':=s.drawn) (ch:=[]) (λ_ z=>nomatch z) (λb o _ a _ e n=>u.keep b o e n a (by simp)) (λb o _ a _ e n=>u.slot b o e n a (by simp)) (λb o _ e n=>u.free b o e n (by simp)) (λb o _ e=>u.there b o e (by simp)) u.tups u.frzs u.tbls (λl i=>by
  obtain ⟨o',c,d,g,h⟩:=i
  rw [f] at g; cases g
  exact ⟨_,c,d,j,h⟩) hok I.bare
def Inv.call (I:Inv X pins σ H s) (u:Un (cg X.stack) ch H H' s.heap h') (hok:cj X.prog X.w H' h') (t:AllBare g')
  (d:∀ b∈ch,(b∈X.ex\/X.s₀.heap.objs.size<=b)/\b≠X.env.locals/\(∀ x c,X.env.cells.lookup x=some c->c≠b)/\∀ p∈X.pn++pins,p.1≠b) :
  Inv X pins σ H' { s with heap:=h',gens:=g',drawn:=d',toks:=t' }:=by
 obtain ⟨m,⟨o,es,ep,i,r⟩,_⟩:=id I.loc
 obtain ⟨sl,f⟩:=u.any i I.free λz=>(d _ z).2.1 rfl
 exact I.step (ch:=ch) d (λb o f v a e n=>u.keep b o e n (λz=>(aQ.mp (I.stkSub b z)).elim f v) a) (λb o _ _ a e n=>u.any e n a) (λb o a e n=>u.free b o e n a) (λb o a e=>u.there b o e a) u.tups u.frzs u.tbls (λw q=>by
  obtain ⟨o',g,h,j,l⟩:=q
  rw [i] at j; cases j
  exact ⟨_,g,h,f,l⟩) hok t
def Inv.turned (I:Inv X pins σ H s) (k:∀ b o,b≠it->s.heap.get? b=some o->h'.get? b=some o) (h:H it=none) (f:it≠X.env.locals)
  (h1:it∈X.ex\/X.s₀.heap.objs.size<=it) (h2:∀ x c,X.env.cells.lookup x=some c->c≠it) (l:∀ p∈X.pn++pins,p.1≠it):Inv X pins σ H { s with heap:=h',toks:=t' }:=by
 have d:∀ b u,H b=some u->b≠it:=λb u e z=>by rw [z,h] at e; cases e
 refine I.step (g':=s.gens) (d':=s.drawn) (ch:=[it]) (λb j=>?_) (λb o _ _ a e _=>k b o (λz=>a (by simp [z])) e) (λb o _ _ a e _=>⟨o.slots,k b o (λz=>a (by simp [z])) e⟩) (λ_ _ _ _ n=>n)
  (λb o a e=>⟨o,k b o (λz=>a (by simp [z])) e⟩) (λ_ _ e=>e) (λ_ _ _ e=>e) (λb ps e=>⟨#[],by rw [e]; simp⟩) (λm i=>?_) (λb u e=>?_) I.bare
 .have e:b=it:=by simpa using j
  subst e
  exact ⟨h1,f,h2,l⟩
 .obtain ⟨o,es,ep,g,r⟩:=i
  exact ⟨o,es,ep,k _ o (tZ f) g,r⟩
 .refine (I.hok b u e).stay (λc v a q=>k c v ?_ q) (λ_ q=>q) λ_ _ q=>q
  rcases a with z | z
  .rw [z]; exact d b u e
  .exact d c _ z
def Inv.tok (I:Inv X pins σ H s) (t):Inv X pins σ H { s with toks:=t }:=I.un (h':=s.heap) (t':=t) Un.refl I.hok
def Inv.kept (I:Inv X pins σ H s) (k:∀ b u,s.heap.get? b=some u->h'.get? b=some u):Inv X pins σ H { s with heap:=h',toks:=t' }:=I.un (Un.kept k) (I.hok.kept k)
def Inv.laid {a:Addr} (I:Inv X pins σ H s) (k:∀ b u,s.heap.get? b=some u->h'.get? b=some u) (c:s.heap.objs.size<=a) (new:y7 X.prog X.w (upd H a o) h' a o) :
  Inv X pins σ (upd H a o) { s with heap:=h',toks:=t' }:=I.un (Un.laid k c (I.hok.fresh c)) (I.hok.laid k c new)
def Inv.write (I:Inv X pins σ H s) (c:o4 (H x)) (d:e=x\/H e=some (.own x)) (k:∀ b u,b≠e->s.heap.get? b=some u->h'.get? b=some u) (a:∃ u,h'.get? e=some u)
  (new:y7 X.prog X.w (upd H x o) h' x o):Inv X pins σ (upd H x o) { s with heap:=h',toks:=t' }:=I.un (Un.write c d k a) (I.hok.write c d k a new)
def Inv.pins_of (I:Inv X pins σ H s) (h:∀ p∈a,s.heap.get? p.1=some p.2/\H p.1=none/\p.1≠X.env.locals/\p.1∉X.fs/\∀ v,p.2.data≠.cell v):Inv X a σ H s :=
 ⟨I.ok,I.os,I.bare,I.base,I.loc,I.cell,I.free,I.freeC,λp b=>(gs.mp b).elim (λz=>I.pin p (rR _ z)) (h p),I.hok,I.len⟩
def Yb {N:List Str} (c:N.Nodup) {i j:Nat} (a:N[i]? = some x) (b:N[j]? = some x):i=j:=by
 obtain ⟨h1,e1⟩:=gE.mp a
 obtain ⟨h2,e2⟩:=gE.mp b
 exact (List.getElem_inj c).mp (e1.trans e2.symm)
def YU (I:Inv X pins σ H s) (hN:X.N.Nodup) (hi:X.N[i]? = some x) (t:Loc X.env.scope x) (r:yJ v u)
  (h:∀ s',Inv X pins (σ.set i (some v)) H s'->(∃ a,Heap.SameBut a s.heap s'.heap/\(a=X.env.locals\/X.env.cells.lookup x=some a))->Q () s') (hf:X.fn x=true\/X.env.scope.names.lookup x=some .local:=by first | exact .inl rfl | exact .inr rfl | assumption):sG M A (storeName X.env x u) Q E s:=by
 obtain ⟨m,W,hl⟩:=id I.loc
 have J:(X.env.scope.kind==.class||(X.env.scope.kind==.module&&X.env.locals != X.env.globals))=false:=by rw [I.ok.kind]; rfl
 have gn:i < σ.length:=by rw [I.len]; exact (gE.mp hi).1
 have cne:=I.cne
 have g:∀ {a:Addr} {h':Heap},(∃ o,s.heap.get? a=some o/\H a=none)->Heap.SameBut a s.heap h'->cj X.prog X.w H h':=λ{a h'} ha f b ob e=>by
  obtain ⟨_,_,Z⟩:=ha
  refine (I.hok b ob e).stay (λc N l q=>(f.2 c ?_).trans q) (λ_ q=>q) λ_ _ q=>q
  rintro rfl
  rcases l with rfl | l
  .rw [Z] at e; cases e
  .rw [Z] at l; cases l
 rcases t with w | w
 .refine wpAny_storeName_local w W (λh' rf f=>?_) J
  obtain ⟨oL,_,_,q_,_⟩:=id W
  refine h _ ⟨I.ok,I.os,I.bare,⟨λb o e n C t=>?_,λb o e n C t=>?_,I.base.free,λb o e t=>?_,I.base.tups,I.base.frzs,I.base.tbls⟩,⟨_,rf,λj y R e1 e2 Y=>?_⟩,λy c e=>?_,I.free,I.freeC,λp U=>?_,g ⟨oL,q_,I.free⟩ f,by simpa using I.len⟩ ⟨_,f,.inl rfl⟩
  .exact (f.2 b (cb (dY (sE e) I.ok.above))).trans (I.base.keep b o e n C t)
  .obtain ⟨sl,e1⟩:=I.base.slot b o e n C t
   exact ⟨sl,(f.2 b (cb (dY (sE e) I.ok.above))).trans e1⟩
  .obtain ⟨o',e1⟩:=I.base.there b o e t
   exact ⟨o',(f.2 b (cb (dY (sE e) I.ok.above))).trans e1⟩
  .by_cases B:j=i
   .subst B
    rw [hi] at e1; cases e1
    rw [oZ gn] at e2
    cases e2
    exact ⟨u,r,.inl ⟨w,by simp⟩⟩
   .rw [lP (tZ B)] at e2
    obtain ⟨S,T,q⟩:=hl j y R e1 e2 Y
    refine ⟨S,T,?_⟩
    rcases q with ⟨k,e⟩ | ⟨k,c,e,z⟩
    .refine .inl ⟨k,?_⟩
     have:y≠x:=λe=>B (Yb hN e1 (e ▸ hi))
     simp [this,e]
    .exact .inr ⟨k,c,e,z.sameBut f (cne y c e)⟩
  .obtain ⟨N,z⟩:=I.cell y c e
   exact ⟨N,z.sameBut f (cne y c e)⟩
  .obtain ⟨e,n,O,nf,d⟩:=I.pin p U
   exact ⟨(f.2 p.1 O).trans e,n,O,nf,d⟩
 .have lK:X.fn x=true:=by
   rcases hf with z | z
   .exact z
   .rw [z] at w; cases w
  obtain ⟨c,l⟩:=I.ok.has x (.inl w)
  obtain ⟨N,z⟩:=I.cell x c l
  refine wpAny_storeName_cell I.ok.kind w l z (λh' gp f=>?_)
  obtain ⟨oc,G,F⟩:=id z
  refine h { s with heap:=h' } ⟨I.ok,I.os,I.bare,⟨λb o e n C t=>?_,λb o e n C t=>?_,I.base.free,λb o e t=>?_,I.base.tups,I.base.frzs,I.base.tbls⟩,⟨m,W.sameBut f (tZ (cne x c l)),λj y R e1 e2 Y=>?_⟩,λy P e=>?_,I.free,I.freeC,λp U=>?_,g ⟨oc,G,I.freeC x c l⟩ f,by simpa using I.len⟩ ⟨c,f,.inr l⟩
  .exact (f.2 b (cb (dY (sE e) (I.ok.cab x c lK l)))).trans (I.base.keep b o e n C t)
  .obtain ⟨sl,e1⟩:=I.base.slot b o e n C t
   exact ⟨sl,(f.2 b (cb (dY (sE e) (I.ok.cab x c lK l)))).trans e1⟩
  .obtain ⟨o',e1⟩:=I.base.there b o e t
   exact ⟨o',(f.2 b (cb (dY (sE e) (I.ok.cab x c lK l)))).trans e1⟩
  .by_cases B:j=i
   .subst B
    rw [hi] at e1; cases e1
    rw [oZ gn] at e2
    cases e2
    exact ⟨u,r,.inr ⟨.inl w,c,l,gp⟩⟩
   .rw [lP (tZ B)] at e2
    obtain ⟨S,T,q⟩:=hl j y R e1 e2 Y
    refine ⟨S,T,?_⟩
    rcases q with q | ⟨k,P,e,z'⟩
    .exact .inl q
    .refine .inr ⟨k,P,e,z'.sameBut f ?_⟩
     rintro rfl
     exact B (Yb hN e1 (I.ok.inj _ _ _ e l ▸ hi))
  .by_cases L:P=c
   .subst L; exact ⟨_,gp⟩
   .obtain ⟨w2,z2⟩:=I.cell y P e
    exact ⟨w2,z2.sameBut f L⟩
  .obtain ⟨e,n,O,nf,d⟩:=I.pin p U
   refine ⟨(f.2 p.1 ?_).trans e,n,O,nf,d⟩
   intro q
   rw [q,G] at e
   have q':oc=p.2:=g2j.inj e
   exact d N (by rw [<- q']; exact F)
def uP (I:Inv X pins σ H s) (c:X.N.Nodup) (hi:X.N[i]? = some x) (a:Loc X.env.scope x) (r:yJ v u)
  (h:∀ s',Inv X pins (σ.set i (some v)) H s'->Q () s') (b:X.fn x=true\/X.env.scope.names.lookup x=some .local:=by first | exact .inl rfl | exact .inr rfl | assumption):sG M A (storeName X.env x u) Q E s :=
 YU I c hi a r (λs' d _=>h s' d) b
def Inv.call' (I:Inv X pins σ H s) (d:s'.os=s.os) (u:Un (cg X.stack) ch H H' s.heap s'.heap) (hok:cj X.prog X.w H' s'.heap) (f:AllBare s'.gens)
  (a:∀ b∈ch,(b∈X.ex\/X.s₀.heap.objs.size<=b)/\b≠X.env.locals/\(∀ x c,X.env.cells.lookup x=some c->c≠b)/\∀ p∈X.pn++pins,p.1≠b):Inv X pins σ H' s':=by
 obtain ⟨h',g',d',t',o'⟩:=s'
 have e:o'=s.os:=d
 subst e
 exact I.call (g':=g') (t':=t') (d':=d') u hok f a
end
abbrev XK:=Value->Option Addr->Hp->Prop
abbrev St:=List (Option V)
abbrev VK:=V->Hp->Prop
abbrev TE:=St->Hp->VK->Prop
abbrev TT:=St->Hp->(Bool->Hp->Prop)->Prop
abbrev TA:=St->Hp->(List V->Hp->Prop)->Prop
structure Ends where
 nx:St->Hp->Prop
 rt:VK
 bk:St->Hp->Prop:=λ_ _=>False
 ct:St->Hp->Prop:=λ_ _=>False
abbrev TS:=Ends->St->Hp->Prop
inductive EP (X:Cx) (pins:List (Addr×Obj)) (σ:St) (Q:VK) (u:Value) (s':Shared):Prop
 |mk (v H') (a0:Inv X pins σ H' s') (a1:yJ v u) (a2:Q v H')
def TP (X:Cx) (pins:List (Addr×Obj)) (σ:St) (Q:Bool->Hp->Prop) (b:Bool) (s':Shared):Prop:=∃ H',Inv X pins σ H' s'/\Q b H'
inductive AP (X:Cx) (pins:List (Addr×Obj)) (σ:St) (Q:List V->Hp->Prop) (us:List Value) (s':Shared):Prop
 |mk (vs H') (a0:Inv X pins σ H' s') (a1:yx vs us) (a2:Q vs H')
def SP (X:Cx) (pins:List (Addr×Obj)) (D:Ends) (f:Flow) (s':Shared):Prop :=
 match f with
 | .next=>∃ aB H',Inv X pins aB H' s'/\D.nx aB H'
 | .brk=>∃ aB H',Inv X pins aB H' s'/\D.bk aB H'
 | .cont=>∃ aB H',Inv X pins aB H' s'/\D.ct aB H'
 | .ret u=>∃ v aB H',Inv X pins aB H' s'/\yJ v u/\D.rt v H'
def PE (X:Cx) (e:Expr) (t:TE):Prop :=
 ∀ (pins:List (Addr×Obj)) (s:Shared) (σ:St) (H:Hp) (Q:VK),Inv X pins σ H s->t σ H Q->sG (sL X.prog X.w) X.A (eval e X.env) (EP X pins σ Q) X.xe s
def PT (X:Cx) (e:Expr) (t:TT):Prop :=
 ∀ (pins:List (Addr×Obj)) (s:Shared) (σ:St) (H:Hp) (Q:Bool->Hp->Prop),Inv X pins σ H s->t σ H Q->sG (sL X.prog X.w) X.A (isTrue e X.env (eval e X.env)) (TP X pins σ Q) X.xe s
def PW (X:Cx) (e:Expr) (t:TT):Prop :=
 ∀ (a:Sem Value) (pins:List (Addr×Obj)) (s:Shared) (σ:St) (H:Hp) (Q:Bool->Hp->Prop),Inv X pins σ H s->t σ H Q->sG (sL X.prog X.w) X.A (isTrue e X.env a) (TP X pins σ Q) X.xe s
def PW.pt (h:PW X e t):PT X e t:=h _
def PA (X:Cx) (es:List Expr) (t:TA):Prop :=
 ∀ (pos:Pos) (pins:List (Addr×Obj)) (s:Shared) (σ:St) (H:Hp) (Q:List V->Hp->Prop),Inv X pins σ H s->t σ H Q->sG (sL X.prog X.w) X.A (spliced (tV pos (sC es X.env))) (AP X pins σ Q) X.xe s
def PS (X:Cx) (st:Stmt) (t:TS):Prop :=
 ∀ (pins:List (Addr×Obj)) (s:Shared) (σ:St) (H:Hp) (D:Ends),Inv X pins σ H s->t D σ H->sG (sL X.prog X.w) X.A (exec st X.env) (SP X pins D) X.xe s
def eX (X:Cx) (st:List Stmt) (t:TS):Prop :=
 ∀ (pins:List (Addr×Obj)) (s:Shared) (σ:St) (H:Hp) (D:Ends),Inv X pins σ H s->t D σ H->sG (sL X.prog X.w) X.A (execs st X.env) (SP X pins D) X.xe s
def thn   {Q b:α->Shared->Prop} (h:sG M A t Q E s) (c:∀ a s,Q a s->b a s):sG M A t b E s:=sN h c λ_ _ x=>x
section
variable {X:Cx}
def bin (m:PE X a ta) (l:PE X b tb) {σ:St} {R:V->V->Hp->Prop} (I:Inv X pins σ H s) (h:ta σ H λx H1=>tb σ H1 λy H2=>R x y H2)
     {Q:α->Shared->Prop} {f:Value->Value->Sem α}
    (j:∀ v u s2 x y H2,Inv X pins σ H2 s2->yJ x v->yJ y u->R x y H2->sG (sL X.prog X.w) X.A (f v u) Q X.xe s2) :
    sG (sL X.prog X.w) X.A (eval a X.env) (λv c=>sG (sL X.prog X.w) X.A (eval b X.env) (λu n=>sG (sL X.prog X.w) X.A (f v u) Q X.xe n) X.xe c) X.xe s:=by
  refine thn (m pins s σ H _ I h) λv s1 ⟨x,H1,p,e,i⟩=>?_
  refine thn (l pins s1 σ H1 _ p i) λu s2 ⟨y,H2,o,d,g⟩=>?_
  exact j v u s2 x y H2 o e d g
def NO (i:Nat):TE:=λσ H Q=>∃ v,σ[i]? = some (some v)/\Q v H
def tC (v:V):TE:=λ_ H Q=>Q v H
def u4 (p:X.N[i]? = some x) (g:iu X.env.scope x) (hd:(x==("__debug__":Str))=false:=by decide) (b:(x==("__classdict__":Str))=false:=by decide):PE X (.Name x pos) (NO i):=by
 intro pins s σ H Q I h
 obtain ⟨v,e,h⟩:=h
 obtain ⟨m,j,o⟩:=I.loc
 obtain ⟨u,r,l⟩:=o i x v p e g
 have fin:EP X pins σ Q u s:=⟨v,H,I,r,h⟩
 rcases l with ⟨a,n⟩ | ⟨a,c,d,f⟩
 .exact wpAny_Name (wpAny_loadName_local I.ok.kind a j n fin) hd
 .rcases a with a | a
  .exact wpAny_Name (wpAny_loadName_cell I.ok.kind a d f fin) hd
  .exact wpAny_Name (wpAny_loadName_free I.ok.kind a d f fin b) hd
def Zq {i j pos}:PE X (.Constant (.int i) j pos) (tC (.int i)):=λ_ _ _ H _ I h=>wpAny_Constant_int ⟨.int i,H,I.tok _,⟨_,rfl⟩,h⟩
def Be {b j pos}:PE X (.Constant (.bool b) j pos) (tC (.bl b)):=λ_ _ _ H _ I h=>Constant_bool ⟨.bl b,H,I,rfl,h⟩
def GL {j pos}:PE X (.Constant .none j pos) (tC .non):=λ_ _ _ H _ I h=>Constant_none ⟨.non,H,I,rfl,h⟩
def Zp {x j pos}:PE X (.Constant (.str x) j pos) (tC (.str x)):=λ_ _ _ H _ I h=>Calls.Constant_str ⟨.str x,H,I.tok _,⟨_,rfl⟩,h⟩
def Gl (X:Cx) (x:Str):Prop:=X.env.kindOf x=some .globalImplicit
def qL (I:Inv X pins σ H s) (b:Gl X x) (a:X.mg x=some u) (h:Q u s)
  (hd:(x==("__debug__":Str))=false:=by decide):sG (sL X.prog X.w) X.A (eval (.Name x pos) X.env) Q E s :=
 Calls.Name_function_global I.ok.kind b (Calls.loadGlobal_global (by rw [I.ok.glob]; exact I.mod.glob.keeps I.bk) a h) hd
def kj (I:Inv X pins σ H s) (d:Gl X x) (c:X.mg x=none) (a:u_ x=some u) (h:Q u s)
  (b:x≠"__name__":=by decide) (hd:(x==("__debug__":Str))=false:=by decide):sG (sL X.prog X.w) X.A (eval (.Name x pos) X.env) Q E s:=by
 obtain ⟨mb,h1,h2⟩:=I.mod.blt
 exact Calls.Name_function_global I.ok.kind d (Calls.loadGlobal_builtin (by rw [I.ok.glob]; exact I.mod.glob.keeps I.bk) c (by rw [I.ok.blt]; exact h1.keeps I.bk) ((h2 x b).trans a) h) hd
def wU (b:Gl X x) (a:X.mg x=some u) (r:yJ v u) (hd:(x==("__debug__":Str))=false:=by decide):PE X (.Name x pos) (tC v) :=
 λ_ _ _ H _ I h=>qL I b a ⟨v,H,I,r,h⟩ hd
def U9 (d:Gl X x) (c:X.mg x=none) (a:u_ x=some u) (r:yJ v u) (b:x≠"__name__":=by decide) (hd:(x==("__debug__":Str))=false:=by decide):PE X (.Name x pos) (tC v) :=
 λ_ _ _ H _ I h=>kj I d c a ⟨v,H,I,r,h⟩ b hd
def t2I (ta tb:TE) (k:Int->Int->Hp->Prop):St->Hp->Prop:=λσ H=>ta σ H λx H1=>tb σ H1 λy H2=>∃ i j,x=.int i/\y=.int j/\k i j H2
variable {a b:Expr} {ta tb:TE} {pos:Pos}
def PC (X:Cx) (d:CmpOp) (a b:Expr) (t:TE):Prop :=
 ∀ (pins:List (Addr×Obj)) (s:Shared) (σ:St) (H:Hp) (Q:VK),Inv X pins σ H s->t σ H Q →
  sG (sL X.prog X.w) X.A (eval a X.env) (λv c=>sG (sL X.prog X.w) X.A (eval b X.env) (λu e=>sG (sL X.prog X.w) X.A (z_ d v u) (EP X pins σ Q) X.xe e) X.xe c) X.xe s
def Ku (b) (h:op≠.In) (h2:op≠.NotIn):tO op b=false:=by
 have e1:(op==CmpOp.In)=false:=by cases op <;> first | rfl | exact absurd rfl h
 have e2:(op==CmpOp.NotIn)=false:=by cases op <;> first | rfl | exact absurd rfl h2
 cases b <;> simp [tO,e1,e2]
def NP (p:Int->Int->Bool) (ta tb:TE):TE:=λσ H Q=>t2I ta tb (λi j H2=>Q (.bl (p i j)) H2) σ H
abbrev Po:TE->TE->TE:=NP λi j=>decide (i=j)
def Dn (g:PE X a ta) (f:PE X b tb)
  (rule:∀ (i j:Int) (t u:Tok) (Q:Value->Shared->Prop) (s:Shared),Q (.bool (p i j)) s->sG (sL X.prog X.w) X.A (z_ c (.int i t) (.int j u)) Q X.xe s):PC X c a b (NP p ta tb):=by
 intro pins s σ H Q I h
 refine bin g f I h λv u s2 x y H2 l e d q=>?_
 obtain ⟨i,j,rfl,rfl,q⟩:=q
 obtain ⟨t,rfl⟩:=e
 obtain ⟨t',rfl⟩:=d
 exact rule i j t t' _ s2 ⟨.bl _,H2,l,rfl,q⟩
def GO (d:PE X a ta) (c:PE X b tb):PC X .Eq a b (Po ta tb):=Dn d c λ_ _ _ _ _ _ h=>eq_int (by rw [Bool.beq_eq_decide_eq]; exact h)
def tB (t:TE):TT:=λσ H Q=>t σ H λx H1=>∃ c,x=.bl c/\Q c H1
def Vc (h:PC X op a b t) (h1:tO op b=false:=by first | exact Ku _ (by decide) (by decide) | rfl):PT X (.Compare a [op] [b] pos) (tB t):=by
 intro pins s σ H Q I g
 refine wpAny_isTrue_Compare1 (thn (h pins s σ H _ I g) λv s1 h1=>thn h1 λu s2 h2=>thn h2 λc s3 ⟨x,H1,i,e,f⟩=>?_) h1
 obtain ⟨d,rfl,q⟩:=f
 cases e
 exact y_ ⟨H1,i,q⟩
def Y5 (h:PE X e t) (j:∀ c,isTrue e X.env c=(do let v ← c; standAt e.pos; holding [v] (truthy v)):=by intro _; rfl):PT X e (tB t):=by
 intro pins s σ H Q I i
 refine isTrue_plain (thn (h pins s σ H _ I i) λv s1 ⟨x,H1,l,f,g⟩=>?_) (j _)
 obtain ⟨d,rfl,q⟩:=g
 cases f
 exact y_ ⟨H1,l,q⟩
variable {tA tB':TT} {wo:List Expr}
def Pu (t u:TT):TT:=λσ H Q=>t σ H λc H1=>if c=true then u σ H1 Q else Q false H1
def tOr (t u:TT):TT:=λσ H Q=>t σ H λc H1=>if c=true then Q true H1 else u σ H1 Q
def Pj (t:TT):TT:=λσ H Q=>t σ H λc H1=>Q (!c) H1
def HP (d:PT X a tA):PW X (.BoolOp .And [a] pos) tA:=by
 intro f pins s σ H Q I h
 refine isTrue_and (thn (d pins s σ H Q I h) λc s1 e=>?_)
 cases c with
 | true=>exact isTrue_and_nil e
 | false=>exact e
def UV (d:PT X a tA):PW X (.BoolOp .Or [a] pos) tA:=by
 intro f pins s σ H Q I h
 refine isTrue_or (thn (d pins s σ H Q I h) λc s1 e=>?_)
 cases c with
 | false=>exact isTrue_or_nil e
 | true=>exact e
def Di (i:PT X a tA) (g:PW X (.BoolOp .And (b :: wo) pos) tB'):PW X (.BoolOp .And (a :: b :: wo) pos) (Pu tA tB'):=by
 intro f pins s σ H Q I h
 refine isTrue_and (thn (i pins s σ H _ I h) λc s1 ⟨H1,e,d⟩=>?_)
 cases c with
 | true=>exact g f pins s1 σ H1 Q e d
 | false=>exact ⟨H1,e,d⟩
def HN (i:PT X a tA) (g:PW X (.BoolOp .Or (b :: wo) pos) tB'):PW X (.BoolOp .Or (a :: b :: wo) pos) (tOr tA tB'):=by
 intro f pins s σ H Q I h
 refine isTrue_or (thn (i pins s σ H _ I h) λc s1 ⟨H1,e,d⟩=>?_)
 cases c with
 | true=>exact ⟨H1,e,d⟩
 | false=>exact g f pins s1 σ H1 Q e d
def Va (d:PT X a tA):PT X (.UnaryOp .Not a pos) (Pj tA):=by
 intro pins s σ H Q I h
 exact isTrue_not (d pins s σ H (λc H1=>Q (!c) H1) I h)
def MM (ta tb:TE):TE:=λσ H Q=>ta σ H λx H1=>∃ c,x=.bl c/\if c=true then tb σ H1 Q else Q (.bl false) H1
def ME (ta:TE):TE:=λσ H Q=>ta σ H λx H1=>∃ c,x=.bl c/\Q (.bl (!c)) H1
def GK {op} (h:PE X a t):PE X (.BoolOp op [a] pos) t:=λpins s σ H Q I c=>BoolOp_one (h pins s σ H Q I c)
def GN (i:PE X a ta) (g:PE X (.BoolOp .And (b :: wo) pos) tb):PE X (.BoolOp .And (a :: b :: wo) pos) (MM ta tb):=by
 intro pins s σ H Q I h
 refine BoolOp_and (thn (i pins s σ H _ I h) λv s1 ⟨x,H1,e,f,d⟩=>?_)
 obtain ⟨c,rfl,d⟩:=d
 cases f
 refine y_ ?_
 cases c with
 | true=>exact g pins s1 σ H1 Q e d
 | false=>exact ⟨.bl false,H1,e,rfl,d⟩
def Dl (f:PE X a ta):PE X (.UnaryOp .Not a pos) (ME ta):=by
 intro pins s σ H Q I h
 refine UnaryOp_ (thn (f pins s σ H _ I h) λv s1 ⟨x,H1,g,e,d⟩=>?_)
 obtain ⟨c,rfl,d⟩:=d
 cases e
 exact not_of (y_ ⟨.bl (!c),H1,g,rfl,d⟩)
end
def aZ (K:sx) (H:Hp) (a:Addr) (xs:List V):Prop :=
 Rd H a (.lst xs) ∨
  ∃ (o:Obj) (ah:Array Value) (n:Nat),K.lookup a=some o/\o.cls=.type "list"/\o.dict=none/\o.data=.seq ah n/\ah.size<=sizeLine/\yx xs ah.toList
def bJ (K:sx) (H:Hp) (a:Addr) (xs:List V):Prop :=
 Rd H a (.tup xs) ∨
  ∃ (o:Obj) (ah:Array Value) (n:Nat),K.lookup a=some o/\o.cls=.type "tuple"/\o.data=.seq ah n/\ah.size<=sizeLine/\yx xs ah.toList
def P4:Value->Option V
 | .none=>some .non
 | .bool b=>some (.bl b)
 | .int i _=>some (.int i)
 | .str x _=>some (.str x)
 | .bytes b _=>some (.byt b)
 | .float b _=>some (.flt b)
 | .ref a=>some (.ref a)
 | .type n=>some (.ty n)
 | _=>none
def yJ.abs (r:yJ x u):P4 u=some x:=by
 cases x with
 | non=>cases r; rfl
 | bl _=>cases r; rfl
 | int _=>obtain ⟨t,rfl⟩:=r; rfl
 | str _=>obtain ⟨t,rfl⟩:=r; rfl
 | byt _=>obtain ⟨t,rfl⟩:=r; rfl
 | flt _=>obtain ⟨t,rfl⟩:=r; rfl
 | ref _=>cases r; rfl
 | ty _=>cases r; rfl
def yJ.inj (r:yJ x u) (q:yJ y u):x=y:=g2j.inj (r.abs.symm.trans q.abs)
theorem yx.inj:∀ {xs ys:List V} {us:List Value},yx xs us->yx ys us->xs=ys
 | _,_,_,.nil,.nil=>rfl
 | _,_,_,.cons r t,.cons a t'=>by rw [r.inj a,yx.inj t t']
section
variable {X:Cx} {pins:List (Addr×Obj)} {σ:St} {H:Hp} {s:Shared} {a:Addr} {xs ys:List V}
def aZ.of {K:sx} (h:H a=some (.lst xs)):aZ K H a xs:=.inl (.inl h)
def bJ.of {K:sx} (h:H a=some (.tup xs)):bJ K H a xs:=.inl (.inl h)
def Inv.list (I:Inv X pins σ H s) (h:aZ X.K H a xs):∃ ah,yx xs ah/\PlainL s.heap a ah.toArray/\xs.length<=sizeLine:=by
 rcases h with h | ⟨o,ah,n,c,d,hd,b,hz,r⟩
 .obtain ⟨z,ah,n,r,e⟩:=h.ok I.hok
  exact ⟨ah,r,⟨_,n,e,rfl,rfl,rfl⟩,z⟩
 .refine ⟨ah.toList,r,⟨o,n,I.kIn a o c,d,hd,by simpa using b⟩,?_⟩
  have e:=r.length
  simp only [Ak] at e
  omega
def Inv.tuple (I:Inv X pins σ H s) (h:bJ X.K H a xs):∃ ah,yx xs ah/\IsTup s.heap a ah.toArray/\xs.length<=sizeLine:=by
 rcases h with h | ⟨o,ah,n,c,d,b,hz,r⟩
 .obtain ⟨z,ah,r,p⟩:=h.ok I.hok
  exact ⟨ah,r,p,z⟩
 .refine ⟨ah.toList,r,⟨o,I.kIn a o c,d,n,by simpa using b⟩,?_⟩
  have e:=r.length
  simp only [Ak] at e
  omega
def Inv.list_inj (I:Inv X pins σ H s) (h:aZ X.K H a xs) (h':aZ X.K H a ys):xs=ys:=by
 obtain ⟨ah,r,⟨o,n,e,_,_,d⟩,_⟩:=I.list h
 obtain ⟨its',c,⟨o',g,b,_,_,d'⟩,_⟩:=I.list h'
 rw [e] at b; cases b
 rw [d] at d'
 injection d' with f _
 have:ah=its':=by simpa using congrArg Array.toList f
 subst this
 exact r.inj c
def Inv.tuple_inj (I:Inv X pins σ H s) (h:bJ X.K H a xs) (h':bJ X.K H a ys):xs=ys:=by
 obtain ⟨ah,r,⟨o,e,_,n,d⟩,_⟩:=I.tuple h
 obtain ⟨its',c,⟨o',b,_,g,d'⟩,_⟩:=I.tuple h'
 rw [e] at b; cases b
 rw [d] at d'
 injection d' with f _
 have:ah=its':=by simpa using congrArg Array.toList f
 subst this
 exact r.inj c
end
abbrev Cx.wish (X:Cx) (E:Value->Shared->Prop):Cx:={ X with xe:=E }
abbrev Cx.nox (X:Cx):Cx:=X.wish λ_ _=>False
def Cx.Ok.wish {X:Cx} (ok:X.Ok) (E):(X.wish E).Ok :=
 ⟨ok.mod,ok.kind,ok.glob,ok.blt,ok.above,ok.inj,ok.has,ok.cab,ok.hd,ok.frames,ok.stk,ok.exf,ok.bs,ok.bsz,ok.noex,ok.exfs,ok.funs,ok.frf⟩
def Cx.Ok.unwish {X:Cx} (ok:(X.wish E).Ok):X.Ok :=
 ⟨ok.mod,ok.kind,ok.glob,ok.blt,ok.above,ok.inj,ok.has,ok.cab,ok.hd,ok.frames,ok.stk,ok.exf,ok.bs,ok.bsz,ok.noex,ok.exfs,ok.funs,ok.frf⟩
section
variable {X:Cx} {pins:List (Addr×Obj)} {σ:St} {H:Hp} {s:Shared} {E:Value->Shared->Prop}
def Inv.wish (I:Inv X pins σ H s) (E):Inv (X.wish E) pins σ H s:=⟨I.ok.wish E,I.os,I.bare,I.base,I.loc,I.cell,I.free,I.freeC,I.pin,I.hok,I.len⟩
def Inv.unwish (I:Inv (X.wish E) pins σ H s):Inv X pins σ H s:=⟨I.ok.unwish,I.os,I.bare,I.base,I.loc,I.cell,I.free,I.freeC,I.pin,I.hok,I.len⟩
def SP.unwish (h:SP (X.wish E) pins D f s'):SP X pins D f s':=by
 cases f with
 | next=>obtain ⟨aB,H',I,q⟩:=h; exact ⟨aB,H',I.unwish,q⟩
 | brk=>obtain ⟨aB,H',I,q⟩:=h; exact ⟨aB,H',I.unwish,q⟩
 | cont=>obtain ⟨aB,H',I,q⟩:=h; exact ⟨aB,H',I.unwish,q⟩
 | ret u=>obtain ⟨v,aB,H',I,r,q⟩:=h; exact ⟨v,aB,H',I.unwish,r,q⟩
def eX.nox {st:List Stmt} (h:eX X.nox st t):eX X st t:=λpins s σ H D I a =>
 sN (h pins s σ H D (I.wish _) a) (λ_ _ q=>q.unwish) λ_ _ z=>tu z
end
section
variable {X:Cx} {st:Stmt} {wo:List Stmt} {t u:TS} {e:Expr} {te:TE} {pos:Pos}
def MF:TS:=λD σ H=>D.nx σ H
def Ph (t u:TS):TS:=λD σ H=>t { D with nx:=u D } σ H
def j9:eX X [] MF:=λ_ _ σ H _ I h=>Ar ⟨σ,H,I,h⟩
def yL (h1:PS X st t) (h2:eX X wo u):eX X (st :: wo) (Ph t u):=by
 intro pins s σ H D I h
 refine Ez (thn (h1 pins s σ H { D with nx:=u D } I h) λf s1 q=>?_)
 cases f with
 | next =>
  obtain ⟨aB,H',a,q⟩:=q
  exact h2 pins s1 aB H' D a q
 | ret v=>exact q
 | brk=>exact q
 | cont=>exact q
def wR (h1:PS X st t):eX X [st] t:=by
 intro pins s σ H D I h
 refine Ez (thn (h1 pins s σ H D I h) λf s1 q=>?_)
 cases f with
 | next=>exact Ar q
 | ret v=>exact q
 | brk=>exact q
 | cont=>exact q
def Inv.quiet (I:Inv X pins σ H s):interactive X.env=false:=by simp [interactive,I.ok.kind]
def MH (te:TE):TS:=λD σ H=>te σ H λ_ H1=>D.nx σ H1
def qI (c:PE X e te) (b:As e none pos.line X.env=pure false:=by rfl):PS X (.Expr e pos) (MH te):=by
 intro pins s σ H D I h
 exact wpAny_Expr_any (thn (c pins s σ H _ I h) λv s1 ⟨x,H1,d,f,a⟩=>⟨σ,H1,d,a⟩) I.quiet b
def Pi (te:TE):TS:=λD σ H=>te σ H D.rt
def kd (c:PE X e te):PS X (.Return (some e) pos) (Pi te):=by
 intro pins s σ H D I h
 exact wpAny_Return_some (thn (c pins s σ H _ I h) λv s1 ⟨x,H1,d,a,b⟩=>⟨x,σ,H1,d,a,b⟩)
def Pm (c:TT) (t u:TS):TS:=λD σ H=>c σ H λb H1=>if b=true then t D σ H1 else u D σ H1
def UY (i:PT X c tc) (l:eX X a t) (j:eX X b u):PS X (.If c a b pos) (Pm tc t u):=by
 intro pins s σ H D I h
 refine wpAny_If (thn (i pins s σ H _ I h) λd s1 ⟨H1,g,f⟩=>?_)
 cases d with
 | true=>exact l pins s1 σ H1 D g f
 | false=>exact j pins s1 σ H1 D g f
def CY:TS:=λ_ _ _=>False
def Kb:PS X st CY:=λ_ _ _ _ _ _ h=>h.elim
end
abbrev TG:=V->St->Hp->(St->Hp->Prop)->Prop
abbrev nI:=List V->St->Hp->(St->Hp->Prop)->Prop
def PG (X:Cx) (a:Expr) (t:TG):Prop :=
 ∀ (pins:List (Addr×Obj)) (s:Shared) (σ:St) (H:Hp) (v:V) (u:Value) (Q:St->Hp->Prop),Inv X pins σ H s->yJ v u->t v σ H Q →
  sG (sL X.prog X.w) X.A (assign a X.env u) (λ_ s'=>∃ aB H',Inv X pins aB H' s'/\Q aB H') X.xe s
def nJ (X:Cx) (ts:List Expr) (t:nI):Prop :=
 ∀ (pins:List (Addr×Obj)) (s:Shared) (σ:St) (H:Hp) (vs:List V) (us:List Value) (Q:St->Hp->Prop),Inv X pins σ H s->yx vs us->t vs σ H Q →
  sG (sL X.prog X.w) X.A (assignInOrder ((An ts X.env).map (·.2)) us) (λ_ s'=>∃ aB H',Inv X pins aB H' s'/\Q aB H') X.xe s
abbrev Pd:=V->V->V->Hp->(Hp->Prop)->Prop
def Pf (X:Cx) (t:Pd):Prop :=
 ∀ (pins:List (Addr×Obj)) (s:Shared) (σ:St) (H:Hp) (o i v:V) (a b u:Value) (Q:Hp->Prop),Inv X pins σ H s->yJ o a->yJ i b->yJ v u->t o i v H Q →
  sG (sL X.prog X.w) X.A (setItem a b u) (λ_ s'=>∃ H',Inv X pins σ H' s'/\Q H') X.xe s
abbrev TIp:=V->V->Hp->VK->Prop
def PIp (X:Cx) (a:Operator) (t:TIp):Prop :=
 ∀ (pins:List (Addr×Obj)) (s:Shared) (σ:St) (H:Hp) (x y:V) (v u:Value) (Q:VK),Inv X pins σ H s->yJ x v->yJ y u->t x y H Q →
  sG (sL X.prog X.w) X.A (inplaceOp a v u) (EP X pins σ Q) X.xe s
section
variable {X:Cx} {pos:Pos}
def FD (i:Nat):TG:=λv σ H Q=>Q (σ.set i (some v)) H
def HZ (c:X.N.Nodup) (hi:X.N[i]? = some x) (a:Loc X.env.scope x) (b:X.fn x=true\/X.env.scope.names.lookup x=some .local:=by first | exact .inl rfl | exact .inr rfl | assumption):PG X (.Name x pos) (FD i):=by
 intro pins s σ H v u Q I r h
 exact wpAny_assign_Name (uP I c hi a r (λs' d=>⟨_,H,d,h⟩) b)
def P0:nI:=λvs σ H Q=>vs=[]/\Q σ H
def Nt (t:TG) (u:nI):nI:=λvs σ H Q=>∃ v r,vs=v :: r/\t v σ H λaB H'=>u r aB H' Q
def HY:nJ X [] P0:=by
 intro pins s σ H vs us Q I r h
 obtain ⟨e,h⟩:=h
 subst e
 cases r
 exact assignInOrder_nil ⟨σ,H,I,h⟩
def Kf (h1:PG X e t) (h2:nJ X es u)
  (c:(An (e :: es) X.env).map (·.2)=assign e X.env :: (An es X.env).map (·.2):=by rfl):nJ X (e :: es) (Nt t u):=by
 intro pins s σ H vs us Q I r h
 obtain ⟨v,g,e1,h⟩:=h
 subst e1
 cases r with
 | cons r a =>
  rw [c]
  refine assignInOrder_cons (thn (h1 pins s σ H _ _ _ I r h) λ_ s1 ⟨d,H1,f,b⟩=>?_)
  exact h2 pins s1 d H1 _ _ Q f a b
def PY (K:sx) (n:Nat) (t:nI):TG:=λv σ H Q=>∃ a xs,v=.ref a/\bJ K H a xs/\xs.length=n/\t xs σ H Q
def Dj (j:X.calm=true) (h:nJ X es t)
  (g:(An es X.env).length=n:=by rfl) (l:(An es X.env).findIdx? (·.1)=none:=by rfl):PG X (.Tuple es k pos) (PY X.K n t):=by
 intro pins s σ H v u Q I r hw
 obtain ⟨a,xs,e1,f,i,hw⟩:=hw
 subst e1
 cases r
 obtain ⟨ah,c,ht,hz⟩:=I.tuple f
 refine assign_Tuple_tuple (I.ok.hd j) ht (by simp [g,<- i,c.length]) l λh' d=>?_
 have m:Inv X pins σ H { s with heap:=h' }:=I.kept (t':=s.toks) λb o e=>d b o (cb (sE e)) e
 exact h pins _ σ H xs _ Q m (by simpa using c) hw
def PZ (to a:TE) (t:Pd):TG:=λv σ H Q=>to σ H λo H1=>a σ H1 λi H2=>t o i v H2 λb=>Q σ b
def Dk (m:PE X o to) (hi:PE X i c) (l:Pf X t)
  (n:∀ v,assign (.Subscript o i pos) X.env v=(do
   let a ← holding [v] (eval o X.env)
   let b ← holding [v,a] (eval i X.env)
   standAt pos
   holding [v,a,b] (setItem a b v)
   release [v,a,b] []):=by intro _; rfl):PG X (.Subscript o i pos) (PZ to c t):=by
 intro pins s σ H v u Q I r h
 rw [n]
 refine ls (tQ (thn (m pins s σ H _ I h) λa s1 ⟨x,H1,w,e,j⟩=>?_))
 refine ls (tQ (thn (hi pins s1 σ H1 _ w j) λb s2 ⟨y,H2,q,d,g⟩=>?_))
 refine ls (Ep (ls (tQ (thn (l pins s2 σ H2 x y v a b u _ q e d r g) λ_ s3 ⟨z,p,f⟩=>?_))))
 exact wpAny_release ⟨σ,z,p,f⟩
def NQ (te:TE) (g:TG):TS:=λD σ H=>te σ H λx H1=>g x σ H1 D.nx
def GF (i:PE X e te) (f:PG X tg g) (d:swapsWithSole [tg] e pos.line X.env=pure false:=by rfl) (c:swappedStores [tg] e X.env=pure none:=by rfl)
  (h1:(An [tg] X.env).map (·.2)=[assign tg X.env]:=by rfl):PS X (.Assign [tg] e pos) (NQ te g):=by
 intro pins s σ H D I h
 refine wpAny_Assign_stores (thn (i pins s σ H _ I h) λv s1 ⟨x,H1,j,a,b⟩=>?_) d c
 rw [h1]
 exact thn (f pins s1 σ H1 x v _ j a b) λ_ s2 q=>q
def u3 (j:X.N.Nodup) (hi:X.N[i]? = some x) (c:Loc X.env.scope x) (g:PE X e te) (d:As e (some (.Name x pos')) pos.line X.env=pure false:=by rfl) (f:X.fn x=true\/X.env.scope.names.lookup x=some .local:=by first | exact .inl rfl | exact .inr rfl | assumption) :
  PS X (.Assign [.Name x pos'] e pos) (NQ te (FD i)):=by
 intro pins s σ H D I h
 refine wpAny_Assign_Name (thn (g pins s σ H _ I h) λv s1 ⟨y,H1,m,a,b⟩=>?_) d
 exact uP m j hi c a (λs2 l=>⟨_,H1,l,b⟩) f
def Pt (i:Nat) (te:TE) (a:TIp):TS:=λD σ H=>∃ x,σ[i]? = some (some x)/\te σ H λy H1=>a x y H1 λz H2=>D.nx (σ.set i (some z)) H2
def GE (F:X.N.Nodup) (hi:X.N[i]? = some x) (d:Loc X.env.scope x) (C:PE X e te) (p:PIp X op f) (B:X.fn x=true\/X.env.scope.names.lookup x=some .local:=by first | exact .inl rfl | exact .inr rfl | assumption) :
  PS X (.AugAssign (.Name x pos') op e pos) (Pt i te f):=by
 intro pins s σ H D I h
 obtain ⟨v,e1,h⟩:=h
 obtain ⟨m,q,A⟩:=I.loc
 have b:iu X.env.scope x:=by rcases d with k | k; exact .inl k; exact .inr (.inl k)
 obtain ⟨u,r,l⟩:=A i x v hi e1 b
 refine wpAny_AugAssign_Name ?_
 have go:sG (sL X.prog X.w) X.A (eval e X.env) (λw L=>sG (sL X.prog X.w) X.A (inplaceOp op u w) (λr J=>sG (sL X.prog X.w) X.A (storeName X.env x r) (λ_=>SP X pins D .next) X.xe J) X.xe L) X.xe s:=by
  refine thn (C pins s σ H _ I h) λw s1 ⟨y,H1,O,j,o⟩=>?_
  refine thn (p pins s1 σ H1 v y u w _ O r j o) λz s2 ⟨P,H2,N,g,n⟩=>?_
  exact uP N F hi d g (λQ M=>⟨_,H2,M,n⟩) B
 rcases l with ⟨a,t⟩ | ⟨a,c,E,G⟩
 .exact wpAny_loadName_local I.ok.kind a q t go
 .rcases a with a | a
  .exact wpAny_loadName_cell I.ok.kind a E G go
  .rcases d with k | k
   .have:X.env.scope.names.lookup x=some .free:=a
    rw [k] at this; cases this
   .have:X.env.scope.names.lookup x=some .free:=a
    rw [k] at this; cases this
def ipI (f:Int->Int->Int):TIp:=λx y H Q=>∃ i j,x=.int i/\y=.int j/\Q (.int (f i j)) H
def Fu:PIp X .Add (ipI λi j=>i+j):=by
 intro pins s σ H x y v u Q I b a h
 obtain ⟨i,j,e1,e2,q⟩:=h
 subst e1; subst e2
 obtain ⟨t,rfl⟩:=b
 obtain ⟨t',rfl⟩:=a
 exact iadd_int ⟨.int _,H,I.tok _,⟨_,rfl⟩,q⟩
end
section
variable {X:Cx} {pos:Pos}
def CV (c:TT) (tb:TS):TS:=λD σ H=>∃ W:Nat->St->Hp->Prop,(∃ m,W m σ H)/\∀ m σ H,W m σ H →
 c σ H λb H1=>if b=true then ∃ N:St->Hp->Prop,(∀ aB H',N aB H'->∃ a,a < m/\W a aB H')/\tb { D with nx:=N,ct:=N,bk:=D.nx } σ H1 else D.nx σ H1
def J9 (r:PassesOwn (sL X.prog X.w) X.A X.env X.xe) (z:PT X c tc) (A:eX X body tb):PS X (.While c body [] pos) (CV tc tb):=by
 intro pins s σ H D I h
 obtain ⟨W,⟨y,x⟩,a⟩:=h
 refine wpAny_While (codeAny_whileLoop (λn s'=>∃ aB H',Inv X pins aB H' s'/\W n aB H') ?_ y ⟨σ,H,I,x⟩)
 rintro n s1 ⟨j,H1,B,w⟩
 refine Au r (thn (z pins s1 j H1 _ B (a n j H1 w)) λb s2 ⟨H2,u,i⟩=>?_)
 cases b with
 | true =>
  obtain ⟨N,t,i⟩:=i
  rw [if_pos rfl]
  refine Au r (thn (A pins s2 j H2 _ u i) λf C g=>?_)
  cases f with
  | next =>
   obtain ⟨d,e,q,m⟩:=g
   obtain ⟨o,p,l⟩:=t d e m
   exact ⟨o,p,d,e,q,l⟩
  | cont =>
   obtain ⟨d,e,q,m⟩:=g
   obtain ⟨o,p,l⟩:=t d e m
   exact ⟨o,p,d,e,q,l⟩
  | brk=>exact g
  | ret v=>exact g
 | false =>
  rw [if_neg ny]
  exact Ar ⟨j,H2,u,i⟩
end
structure It where
 go:Nat->Hp->Prop
 yld:Nat->Hp->V->Hp->Prop
 stop:Nat->Hp->Prop
def uM (X:Cx) (pins:List (Addr×Obj)) (H:Hp) (b:Addr):Prop :=
 H b=none/\b≠X.env.locals/\b∉X.fs/\(b∈X.ex\/X.s₀.heap.objs.size<=b)/\(∀ x c,X.env.cells.lookup x=some c->c≠b)/\∀ p∈X.pn++pins,p.1≠b
def Inv.fpOk   {σ:St} {b:Addr} (I:Inv X pins σ H s) (a:s.heap.objs.size<=b) (f:H' b=none):uM X pins H' b:=by
 refine ⟨f,mj (dY I.lt a),I.nofs a,.inr (gq I.sz a),λx c e z=>?_,λp d z=>?_⟩
 .obtain ⟨v,q⟩:=I.cell x c e
  exact absurd (dY q.lt (by rw [z]; exact a)) (ml _)
 .exact absurd (dY (sE (I.pin p d).1) (by rw [z]; exact a)) (ml _)
structure Turn (P:sH) (w:sU) (K:sx) (tg:Expr) (J:It) (fp:List Addr) (it:Addr) (tn:Nat->Heap->Prop):Prop where
 mem:it∈fp
 obj:∀ i h,tn i h->∀ b∈fp,∃ o,h.get? b=some o/\∀ v,o.data≠.cell v
 keep:∀ i h h',tn i h->(∀ b∈fp,∀ o,h.get? b=some o->h'.get? b=some o)->tn i h'
 item:∀ (X:Cx),X.prog=P->X.w=w->X.K=K->X.calm=true->∀ (i:Nat) (pins:List (Addr×Obj)) (s:Shared) (σ:St) (H:Hp) (E:Value->Shared->Prop),Inv X pins σ H s->(∀ b∈fp,uM X pins H b)->tn i s.heap->J.go i H →
  sG (sL P w) X.A (pyNext (.ref it)) (λr s1=>∃ u,r=some u ∧
   sG (sL P w) X.A (A6 tg (.ref it) u) (λ_ s2=>∃ x H',Inv X pins σ H' s2/\yJ x u/\J.yld i H x H'/\tn (i+1) s2.heap/\∀ b∈fp,H' b=none) E s1) E s
 done:∀ (X:Cx),X.prog=P->X.w=w->X.K=K->X.calm=true->∀ (i:Nat) (pins:List (Addr×Obj)) (s:Shared) (σ:St) (H:Hp) (E:Value->Shared->Prop),Inv X pins σ H s->(∀ b∈fp,uM X pins H b)->tn i s.heap->J.stop i H →
  sG (sL P w) X.A (pyNext (.ref it)) (λr s1=>r=none/\Inv X pins σ H s1) E s
 self:∀ (A:Around) (i:Nat) (s:Shared) (Q:Value->Shared->Prop) (E:Value->Shared->Prop),tn i s.heap->Q (.ref it) s->sG (sL P w) A (pyIter (.ref it)) Q E s
abbrev TI:=St->Hp->(It->Hp->Prop)->Prop
def PIE (X:Cx) (pins:List (Addr×Obj)) (σ:St) (tg:Expr) (R:It->Hp->Prop) (a:Value) (s2:Shared):Prop :=
 ∃ (it:Addr) (fp:List Addr) (tn:Nat->Heap->Prop) (J:It) (H':Hp),a=.ref it/\Inv X pins σ H' s2/\Turn X.prog X.w X.K tg J fp it tn/\tn 0 s2.heap/\(∀ b∈fp,uM X pins H' b)/\R J H'
def PI (X:Cx) (tg iter:Expr) (a:TI):Prop :=
 ∀ (pins:List (Addr×Obj)) (s:Shared) (σ:St) (H:Hp) (R:It->Hp->Prop),Inv X pins σ H s->a σ H R →
  sG (sL X.prog X.w) X.A (eval iter X.env) (λv s1=>sG (sL X.prog X.w) X.A (pyIter v) (PIE X pins σ tg R) X.xe s1) X.xe s
def BW (b:s.heap.get? it=some o) (d:o.cls=.type n) (hd:o.data=.fields vs)
    (c:["enumerate","zip","dict_itemiterator","dict_reverseitemiterator","odict_iterator","itertools.zip_longest","itertools.pairwise"].contains n=false) (a:Q () s):sG M A (A6 tg (.ref it) u) Q E s:=by
  unfold A6
  cases tg <;> first
    | exact su a
    | (cases u <;> first
        | exact su a
        | (refine ls (wpAny_load b ?_)
           rw [d,hd]
           show sG M A (if (["enumerate","zip","dict_itemiterator","dict_reverseitemiterator","odict_iterator","itertools.zip_longest","itertools.pairwise"].contains n&&vs[0]? == some (Aj _))=true then _ else _) Q E s
           rw [if_neg (by intro h; rw [c,Bool.false_and] at h; cases h)]
           exact su a))
def Itl (K:sx) (a:Addr):It :=
 ⟨λi H=>∃ xs x,aZ K H a xs/\xs[i]? = some x,λi H x H'=>H'=H/\∀ xs,aZ K H a xs->xs[i]? = some x,λi H=>∃ xs,aZ K H a xs/\xs.length<=i⟩
def Itt (K:sx) (a:Addr):It :=
 ⟨λi H=>∃ xs x,bJ K H a xs/\xs[i]? = some x,λi H x H'=>H'=H/\∀ xs,bJ K H a xs->xs[i]? = some x,λi H=>∃ xs,bJ K H a xs/\xs.length<=i⟩
def so (lo:Int) (n:Nat):It:=⟨λi _=>i < n,λi H x H'=>H'=H/\x=.int (lo+i),λi _=>n<=i⟩
def YQ {P:sH} {w:sU} {K:sx} {tg:Expr} (a it:Addr):Turn P w K tg (Itl K a) [it] it (λi h=>h.IsListIter it a i) where
 mem:=by simp
 obj:=λi h st b f=>by
  have e:b=it:=by simpa using f
  subst e
  obtain ⟨o,e,c,d⟩:=st
  exact ⟨o,e,λv z=>by rw [d] at z; cases z⟩
 keep:=λi h h' st k=>st.at λo e=>k it (by simp) o e
 item:=by
  intro X r n t C i pins s σ H E I j st q
  subst r n t
  obtain ⟨xs,x,g,m⟩:=q
  obtain ⟨ah,l,p,hz⟩:=I.list g
  obtain ⟨u,M,J⟩:=l.get m
  obtain ⟨f0,f1,f2,B,A,y⟩:=j it (by simp)
  refine wpAny_pyNext_list_item st p.isList (x:=u) (by simpa using M) λh' F G=>?_
  have O:Inv X pins σ H { s with heap:=h' }:=I.turned (t':=s.toks) (λb o f e=>(G.2 b f).trans e) f0 f1 B A y
  obtain ⟨o,e,c,d⟩:=id F
  exact ⟨u,rfl,BW (s:={ s with heap:=h' }) e c d (by decide) ⟨x,H,O,J,⟨rfl,λys L=>by rw [I.list_inj L g]; exact m⟩,F,λb f=>(j b f).1⟩⟩
 done:=by
  intro X r n t C i pins s σ H E I j st q
  subst r n t
  obtain ⟨xs,g,m⟩:=q
  obtain ⟨ah,l,p,hz⟩:=I.list g
  obtain ⟨f0,f1,f2,B,A,y⟩:=j it (by simp)
  have Q:=l.length
  exact wpAny_pyNext_list_end (I.ok.hd C) st p.isList (by simp; omega) λh' N=>⟨rfl,I.turned (t':=s.toks) (λb o f e=>N b o f e) f0 f1 B A y⟩
 self:=λ_ _ _ _ _ st h=>wpAny_pyIter_listiter st h
def VO {P:sH} {w:sU} {K:sx} {tg:Expr} (a it:Addr):Turn P w K tg (Itt K a) [it] it (λi h=>h.IsTupleIter it a i) where
 mem:=by simp
 obj:=λi h st b f=>by
  have e:b=it:=by simpa using f
  subst e
  obtain ⟨o,e,c,d⟩:=st
  exact ⟨o,e,λv z=>by rw [d] at z; cases z⟩
 keep:=λi h h' st k=>st.at λo e=>k it (by simp) o e
 item:=by
  intro X r n t C i pins s σ H E I j st q
  subst r n t
  obtain ⟨xs,x,g,m⟩:=q
  obtain ⟨ah,l,p,hz⟩:=I.tuple g
  obtain ⟨u,M,J⟩:=l.get m
  obtain ⟨f0,f1,f2,B,A,y⟩:=j it (by simp)
  refine wpAny_pyNext_tuple_item st (show s.heap.IsTuple a ah.toArray from p) (x:=u) (by simpa using M) λh' F G=>?_
  have O:Inv X pins σ H { s with heap:=h' }:=I.turned (t':=s.toks) (λb o f e=>(G.2 b f).trans e) f0 f1 B A y
  obtain ⟨o,e,c,d⟩:=id F
  exact ⟨u,rfl,BW (s:={ s with heap:=h' }) e c d (by decide) ⟨x,H,O,J,⟨rfl,λys L=>by rw [I.tuple_inj L g]; exact m⟩,F,λb f=>(j b f).1⟩⟩
 done:=by
  intro X r n t C i pins s σ H E I j st q
  subst r n t
  obtain ⟨xs,g,m⟩:=q
  obtain ⟨ah,l,p,hz⟩:=I.tuple g
  obtain ⟨f0,f1,f2,B,A,y⟩:=j it (by simp)
  have Q:=l.length
  exact wpAny_pyNext_tuple_end (I.ok.hd C) st (show s.heap.IsTuple a ah.toArray from p) (by simp; omega) λh' N=>⟨rfl,I.turned (t':=s.toks) (λb o f e=>N b o f e) f0 f1 B A y⟩
 self:=λ_ _ _ _ _ st h=>wpAny_pyIter_tupleiter st h
def VP {P:sH} {w:sU} {K:sx} {tg:Expr} (it:Addr) (lo:Int) (n:Nat):Turn P w K tg (so lo n) [it] it (λi h=>IsRangeIter h it (lo+(i:Nat) * 1) ((n:Int) - (i:Nat)) 1) where
 mem:=by simp
 obj:=λi h st b a=>by
  have e:b=it:=by simpa using a
  subst e
  exact ⟨_,st,λv z=>by
   have r:Data.fields _=Data.cell v:=z
   cases r⟩
 keep:=λi h h' st k=>k it (by simp) _ st
 item:=by
  intro X j d l g i pins s σ H E I c st f
  subst j d l
  obtain ⟨f0,f1,f2,p,f4,m⟩:=c it (by simp)
  have W:=Walks.range (prog:=X.prog) (w:=X.w) (I.ok.hd g) it lo 1 n
  refine W.item i s _ _ f st λv h' tk u q kk=>?_
  obtain ⟨t,rfl⟩:=u
  have y:Inv X pins σ H { s with heap:=h',toks:=tk }:=I.turned (λb o a e=>kk b o (by simpa using a) e) f0 f1 p f4 m
  refine ⟨_,rfl,BW (s:={ s with heap:=h',toks:=tk }) (n:="range_iterator") q rfl rfl (by decide) ⟨.int (lo+i),H,y,⟨t,?_⟩,⟨rfl,rfl⟩,q,λb a=>(c b a).1⟩⟩
  rw [Int.mul_one]
 done:=by
  intro X j d l g i pins s σ H E I c st f
  subst j d l
  obtain ⟨f0,f1,f2,p,f4,m⟩:=c it (by simp)
  exact wpAny_pyNext_range_end (I.ok.hd g) st (by have:n<=i:=f; omega) λh' x=>⟨rfl,I.turned (t':=s.toks) (λb o a e=>x b o a e) f0 f1 p f4 m⟩
 self:=λ_ _ _ _ _ st h=>wpAny_pyIter_rangeiter st h
section
variable {X:Cx} {tg:Expr}
def Nn (K:sx) (tl:TE):TI:=λσ H R=>tl σ H λx H1=>∃ a,x=.ref a/\(∃ xs,aZ K H1 a xs)/\R (Itl K a) H1
def U4 (i:PE X l tl):PI X tg l (Nn X.K tl):=by
 intro pins s σ H R I h
 refine thn (i pins s σ H _ I h) λv s1 ⟨x,H1,c,d,f⟩=>?_
 obtain ⟨a,e,⟨xs,g⟩,q⟩:=f
 subst e
 cases d
 obtain ⟨ah,m,p,hz⟩:=c.list g
 refine Ed p.isList ?_
 refine ⟨s1.heap.objs.size,[s1.heap.objs.size],_,_,H1,rfl,c.kept (t':=s1.toks) λb o e=>mo _ e,YQ a _,⟨_,sF _ rfl,rfl,rfl⟩,λb j=>?_,q⟩
 have e:b=s1.heap.objs.size:=by simpa using j
 subst e
 exact c.fpOk (aU _) (c.hok.fresh (aU _))
def W9  {σ:St} {lo hi:Int} (I:Inv X pins σ H s) (h1 : -(2 ^ 62)<=lo) (h2:lo < 2 ^ 62) (f : -(2 ^ 62)<=hi) (d:hi < 2 ^ 62)
  (q:R (so lo (hi - lo).toNat) H):sG (sL X.prog X.w) X.A (pyIter (.ref s.heap.objs.size)) (PIE X pins σ tg R) E { s with heap:=s.heap.push { cls:=.type "range",data:=.fields #[.int lo t,.int hi u,.int 1 v] },toks:=tk }:=by
 refine wpAny_pyIter_range (IsRange.new ..) (small_one h1 h2 f d) ?_
 have a:Inv X pins σ H { s with heap:=s.heap.push { cls:=.type "range",data:=.fields #[.int lo t,.int hi u,.int 1 v] },toks:=tk }:=I.kept λb o e=>mo _ e
 refine ⟨(s.heap.push { cls:=.type "range",data:=.fields #[.int lo t,.int hi u,.int 1 v] }).objs.size,[(s.heap.push { cls:=.type "range",data:=.fields #[.int lo t,.int hi u,.int 1 v] }).objs.size],_,_,H,rfl,
  a.kept (t':=tk) λb o e=>mo _ e,VP _ lo (hi - lo).toNat,?_,λb c=>?_,q⟩
 .have e1:lo+((0:Nat):Int) * 1=lo:=by simp
  have e2:(((hi - lo).toNat:Nat):Int) - ((0:Nat):Int)=sV lo hi 1:=by rw [rangeSize_one]; split <;> omega
  show IsRangeIter _ _ (lo+((0:Nat):Int) * 1) ((((hi - lo).toNat:Nat):Int) - ((0:Nat):Int)) 1
  rw [e1,e2]
  exact sF _ rfl
 .have e:b=(s.heap.push { cls:=.type "range",data:=.fields #[.int lo t,.int hi u,.int 1 v] }).objs.size:=by simpa using c
  subst e
  exact a.fpOk (aU _) (a.hok.fresh (aU _))
def Nm (ta:TA):TI:=λσ H R=>ta σ H λvs H1=>∃ j:Int,vs=[.int j] /\ -(2 ^ 62)<=j/\j < 2 ^ 62/\R (so 0 j.toNat) H1
def Nl (ta:TA):TI:=λσ H R=>ta σ H λvs H1=>∃ i j:Int,vs=[.int i,.int j]/\(-(2 ^ 62)<=i/\i < 2 ^ 62 /\ -(2 ^ 62)<=j/\j < 2 ^ 62)/\R (so i (j - i).toNat) H1
def U3 (l:Gl X "range") (i:X.mg "range"=none) (m:PA X [a] ta) (g:sC [a] X.env=[(false,eval a X.env)]:=by rfl):PI X tg (.Call (.Name "range" p) [a] [] pos) (Nm ta):=by
 intro pins s σ H R I h
 refine Call_ (kj I l i boot_range (Aa (thn (m pos pins s σ H _ I h) λus s1 ⟨vs,H1,n,d,b⟩=>?_) g rfl))
 obtain ⟨j,e,b,f,q⟩:=b
 subst e
 cases d with
 | cons r c =>
  cases c
  obtain ⟨t,rfl⟩:=r
  exact call_range_1 (W9 n (by omega) (by omega) b f (by simpa using q))
def U2 (w:Gl X "range") (v:X.mg "range"=none) (x:PA X [a,b] ta) (u:sC [a,b] X.env=[(false,eval a X.env),(false,eval b X.env)]:=by rfl) (f:sC [b] X.env=[(false,eval b X.env)]:=by rfl):
  PI X tg (.Call (.Name "range" p) [a,b] [] pos) (Nl ta):=by
 intro pins s σ H R I h
 refine Call_ (kj I w v boot_range (Aa (thn (x pos pins s σ H _ I h) λus s1 ⟨vs,H1,y,g,d⟩=>?_) (by rw [u,f]) (by rw [f]; rfl)))
 obtain ⟨i,j,e,⟨d,o,n,m⟩,q⟩:=d
 subst e
 cases g with
 | cons r c =>
  cases c with
  | cons l c =>
   cases c
   obtain ⟨t,rfl⟩:=r
   obtain ⟨t',rfl⟩:=l
   exact call_range_2 (W9 y d o n m q)
def Pn (b:TI) (g:TG) (tb:TS):TS:=λD σ H=>b σ H λJ H1=>∃ W:Nat->Nat->St->Hp->Prop,(∃ m,W 0 m σ H1)/\∀ i m σ H,W i m σ H →
 (J.stop i H/\D.nx σ H)\/(J.go i H/\∃ N:St->Hp->Prop,(∀ aB H',N aB H'->∃ a,a < m/\W (i+1) a aB H')/\∀ x H',J.yld i H x H'->g x σ H' λc H2=>tb { D with nx:=N,ct:=N,bk:=D.nx } c H2)
def jc (fp:List Addr) (h:Heap):List (Addr×Obj):=fp.filterMap λb=>(h.get? b).map λo=>(b,o)
def xk (a:b∈fp) (e:h.get? b=some o):(b,o)∈jc fp h:=lO.mpr ⟨b,a,by rw [e]; rfl⟩
def kf   {p:Addr×Obj} (a:p∈jc fp h):p.1∈fp/\h.get? p.1=some p.2:=by
 obtain ⟨b,c,e⟩:=lO.mp a
 cases q:h.get? b with
 | none=>rw [q] at e; cases e
 | some o =>
  rw [q] at e
  have d:(b,o)=p:=g2j.inj e
  subst d
  exact ⟨c,q⟩
def Inv.pinned (I:Inv X pins σ H s) (h:∀ b∈fp,uM X pins H b) (g:∀ b∈fp,∃ o,s.heap.get? b=some o/\∀ v,o.data≠.cell v):Inv X (pins++jc fp s.heap) σ H s :=
 I.pins_of λp f=>(gs.mp f).elim (λz=>I.pin p (dD _ z)) λz=>by
  obtain ⟨a,e⟩:=kf z
  obtain ⟨f0,f1,f2,_⟩:=h p.1 a
  obtain ⟨o,c,d⟩:=g p.1 a
  rw [e] at c; cases c
  exact ⟨e,f0,f1,f2,d⟩
def Inv.unpinned (I:Inv X (pins++pl) σ H s):Inv X pins σ H s:=I.pins_of λp a=>I.pin p (dD _ (rR _ a))
def GD (w:PassesOwn (sL X.prog X.w) X.A X.env X.xe) (O:X.calm=true) (hi:PI X tg iter U) (hg:PG X tg g) (a:eX X body tb)
  (hs:∀ x,Ax iter X.env x=pure x:=by intro _; rfl):PS X (.For tg iter body [] pos) (Pn U g tb):=by
 intro pins s σ H D I h
 refine wpAny_For (thn (hi pins s σ H _ I h) λv s1 h1=>thn h1 λitv s2 h2=>?_) hs
 obtain ⟨it,fp,tn,J,H2,e,I2,T,o_,f2,W,⟨m0,w0⟩,q⟩:=h2
 subst e
 have E:∀ {H':Hp},(∀ b∈fp,H' b=none)->∀ b∈fp,uM X pins H' b:=λhn b a=>⟨hn b a,(f2 b a).2⟩
 refine codeAny_forLoop_any (λn s'=>∃ i aB H',Inv X pins aB H' s'/\tn i s'.heap/\(∀ b∈fp,H' b=none)/\W i n aB H') ?_ m0 ⟨0,σ,H2,I2,o_,λb a=>(f2 b a).1,w0⟩
 rintro n G ⟨i,y,z,P,M,L,Z⟩
 rcases q i n y z Z with ⟨stop,qn⟩ | ⟨go,N,hN,step⟩
 .refine Au w (thn (T.done X rfl rfl rfl O i pins G y z X.xe P (E L) M stop) λr s4 ⟨B,I4⟩=>?_)
  subst B
  exact Ar ⟨y,z,I4,qn⟩
 .refine Au w (thn (T.item X rfl rfl rfl O i pins G y z X.xe P (E L) M go) λr s4 ⟨u,B,h4⟩=>?_)
  subst B
  refine Au w (thn h4 λ_ s5 ⟨x,Q,I5,r5,R,C,rT⟩=>?_)
  have F:=I5.pinned (E rT) (T.obj _ _ C)
  refine Au w (thn (hg _ s5 y Q x u _ F r5 (step x Q R)) λ_ s6 ⟨gK,H6,I6,q6⟩=>?_)
  refine Au w (thn (a _ s6 gK H6 _ I6 q6) λf A p=>?_)
  have again:∀ {c:St} {l:Hp},Inv X (pins++jc fp s5.heap) c l A->N c l->∃ m,m < n/\∃ i aB H',Inv X pins aB H' A/\tn i A.heap/\(∀ b∈fp,H' b=none)/\W i m aB H':=λ{c l} j t=>by
   obtain ⟨m',hm,Y⟩:=hN c l t
   refine ⟨m',hm,i+1,c,l,j.unpinned,T.keep _ _ _ C λb a o e=>(j.pin (b,o) (dD _ (dD _ (xk a e)))).1,λb a=>?_,Y⟩
   obtain ⟨o,e,d⟩:=T.obj _ _ C b a
   exact (j.pin (b,o) (dD _ (dD _ (xk a e)))).2.1
  cases f with
  | next=>obtain ⟨c,l,j,t⟩:=p; exact again j t
  | cont=>obtain ⟨c,l,j,t⟩:=p; exact again j t
  | brk=>obtain ⟨c,l,j,p⟩:=p; exact ⟨c,l,j.unpinned,p⟩
  | ret v=>obtain ⟨S,c,l,j,r7,p⟩:=p; exact ⟨S,c,l,j.unpinned,r7,p⟩
end
abbrev R2:=V->V->Hp->VK->Prop
def cf (X:Cx) (f:Value->Value->Sem Value) (r:R2):Prop :=
 ∀ (pins:List (Addr×Obj)) (s:Shared) (σ:St) (H:Hp) (x y:V) (v u:Value) (Q:VK),Inv X pins σ H s->yJ x v->yJ y u->r x y H Q →
  sG (sL X.prog X.w) X.A (f v u) (EP X pins σ Q) X.xe s
def UnR (X:Cx) (f:Value->Sem Value) (r:V->Hp->VK->Prop):Prop :=
 ∀ (pins:List (Addr×Obj)) (s:Shared) (σ:St) (H:Hp) (x:V) (v:Value) (Q:VK),Inv X pins σ H s->yJ x v->r x H Q →
  sG (sL X.prog X.w) X.A (f v) (EP X pins σ Q) X.xe s
def xm (X:Cx) (f:Value) (r:List V->Hp->VK->Prop):Prop :=
 ∀ (pins:List (Addr×Obj)) (s:Shared) (σ:St) (H:Hp) (xs:List V) (us:List Value) (Q:VK),Inv X pins σ H s->yx xs us->r xs H Q →
  sG (sL X.prog X.w) X.A (call f us) (EP X pins σ Q) X.xe s
def o6 (r:R2) (ta tb:TE):TE:=λσ H Q=>ta σ H λx H1=>tb σ H1 λy H2=>r x y H2 Q
def tUn (r:V->Hp->VK->Prop) (ta:TE):TE:=λσ H Q=>ta σ H λx H1=>r x H1 Q
def rI (C:Int->Int->Prop) (g:Int->Int->V):R2:=λx y H Q=>∃ i j,x=.int i/\y=.int j/\C i j/\Q (g i j) H
def gk (g:Int->Int->V):R2:=λx y H Q=>∃ i j,x=.int i/\y=.int j/\Q (g i j) H
def rU (g:Int->V):V->Hp->VK->Prop:=λx H Q=>∃ i,x=.int i/\Q (g i) H
section
variable {X:Cx} {a b c:Expr} {ta tb tc:TE} {pos:Pos}
def NH (n:PE X a ta) (m:PE X b tb) {σ:St} {R:V->V->Hp->Prop} (I:Inv X pins σ H s)
  (h:ta σ H λx H1=>tb σ H1 λy H2=>R x y H2) {f:Value->Value->Sem Value}
  (l:∀ v u s2 x y H2,Inv X pins σ H2 s2->yJ x v->yJ y u->R x y H2->sG (sL X.prog X.w) X.A (f v u) Q X.xe s2) :
  sG (sL X.prog X.w) X.A (eval a X.env) (λv d=>sG (sL X.prog X.w) X.A (eval b X.env) (λu o=>sG (sL X.prog X.w) X.A (f v u) Q X.xe o) X.xe d) X.xe s:=by
 refine thn (n pins s σ H _ I h) λv s1 ⟨x,H1,q,g,j⟩=>?_
 refine thn (m pins s1 σ H1 _ q j) λu s2 ⟨y,H2,p,e,i⟩=>?_
 exact l v u s2 x y H2 p g e i
def Ba (f:cf X (Ay op) r) (i:PE X a ta) (g:PE X b tb):PE X (.BinOp a op b pos) (o6 r ta tb):=by
 intro pins s σ H Q I h
 exact wpAny_BinOp (NH i g I h λv u s2 x y H2 j e d q=>f pins s2 σ H2 x y v u Q j e d q)
def M5 (f:UnR X (unaryOp op) r) (g:PE X a ta):PE X (.UnaryOp op a pos) (tUn r ta):=by
 intro pins s σ H Q I h
 exact UnaryOp_ (thn (g pins s σ H _ I h) λv s1 ⟨x,H1,i,d,e⟩=>f pins s1 σ H1 x v Q i d e)
def opI   {g:Int->Int->Int}
  (rule:∀ (i j:Int) (t u:Tok) (s:Shared) (Q:Value->Shared->Prop) (E:Value->Shared->Prop),C i j->Q (.int (g i j) s.toks) { s with toks:=s.toks+1 }->sG (sL X.prog X.w) X.A (f (.int i t) (.int j u)) Q E s) :
  cf X f (rI C λi j=>.int (g i j)):=by
 intro pins s σ H x y v u Q I e d h
 obtain ⟨i,j,rfl,rfl,l,q⟩:=h
 obtain ⟨t,rfl⟩:=e
 obtain ⟨t',rfl⟩:=d
 exact rule i j t t' s _ _ l ⟨.int (g i j),H,I.tok _,⟨_,rfl⟩,q⟩
def N5  {g:Int->Int->Int}
  (rule:∀ (i j:Int) (t u:Tok) (s:Shared) (Q:Value->Shared->Prop) (E:Value->Shared->Prop),Q (.int (g i j) s.toks) { s with toks:=s.toks+1 }->sG (sL X.prog X.w) X.A (f (.int i t) (.int j u)) Q E s) :
  cf X f (gk λi j=>.int (g i j)):=by
 intro pins s σ H x y v u Q I e d h
 obtain ⟨i,j,rfl,rfl,q⟩:=h
 obtain ⟨t,rfl⟩:=e
 obtain ⟨t',rfl⟩:=d
 exact rule i j t t' s _ _ ⟨.int (g i j),H,I.tok _,⟨_,rfl⟩,q⟩
def Nb  {g:Int->Int->Bool}
  (rule:∀ (i j:Int) (t u:Tok) (s:Shared) (Q:Value->Shared->Prop) (E:Value->Shared->Prop),Q (.bool (g i j)) s->sG (sL X.prog X.w) X.A (f (.int i t) (.int j u)) Q E s) :
  cf X f (gk λi j=>.bl (g i j)):=by
 intro pins s σ H x y v u Q I e d h
 obtain ⟨i,j,rfl,rfl,q⟩:=h
 obtain ⟨t,rfl⟩:=e
 obtain ⟨t',rfl⟩:=d
 exact rule i j t t' s _ _ ⟨.bl (g i j),H,I,rfl,q⟩
def Dw:cf X (Ay .Add) (gk λi j=>.int (i+j)):=N5 λ_ _ _ _ _ _ _ q=>add_int q
def Ds:cf X (Ay .Sub) (gk λi j=>.int (i - j)):=N5 λ_ _ _ _ _ _ _ q=>sub_int q
def Du:cf X (Ay .Mod) (rI (λ_ j=>0 < j) λi j=>.int (i % j)):=opI λi j _ _ _ _ _ d q=>by
 have h1:(0:Int) < j:=d
 exact mod_int' (by omega) (by rw [Int.fmod_eq_emod_of_nonneg i (by omega)]; exact q)
def unI  {g:Int->Int}
  (rule:∀ (i:Int) (t:Tok) (s:Shared) (Q:Value->Shared->Prop) (E:Value->Shared->Prop),Q (.int (g i) s.toks) { s with toks:=s.toks+1 }->sG (sL X.prog X.w) X.A (f (.int i t)) Q E s) :
  UnR X f (rU λi=>.int (g i)):=by
 intro pins s σ H x v Q I d h
 obtain ⟨i,rfl,q⟩:=h
 obtain ⟨t,rfl⟩:=d
 exact rule i t s _ _ ⟨.int (g i),H,I.tok _,⟨_,rfl⟩,q⟩
def CQ:UnR X (unaryOp .USub) (rU λi=>.int (-i)):=unI λ_ _ _ _ _ q=>neg_int q
end
section
variable {X:Cx} {a b c:Expr} {ta tb tc:TE} {pos:Pos}
def QS (I:Inv X pins σ H s) (q:Q (.bl k) H) (e:k=d):EP X pins σ Q (.bool d) s:=by
 subst e
 exact ⟨.bl k,H,I,rfl,q⟩
def M8:cf X (z_ .Lt) (gk λi j=>.bl (decide (i < j))):=Nb λ_ _ _ _ _ _ _ q=>lt_int q
def M9:cf X (z_ .Gt) (gk λi j=>.bl (decide (j < i))):=Nb λ_ _ _ _ _ _ _ q=>gt_int q
def Na:cf X (z_ .GtE) (gk λi j=>.bl (decide (j<=i))):=Nb λ_ _ _ _ _ _ _ q=>ge_int q
def Qe:cf X (z_ .In) (λx y H Q=>∃ i j,x=.str i/\y=.str j/\Q (.bl (!(Er j i 0 j.length 1).isEmpty)) H):=by
 intro pins s σ H x y v u Q I e d h
 obtain ⟨i,j,rfl,rfl,q⟩:=h
 obtain ⟨t,rfl⟩:=e
 obtain ⟨t',rfl⟩:=d
 exact in_str (QS I q rfl)
def Bj:cf X (z_ .IsNot) (λx y H Q=>y=.non/\Q (.bl (!decide (x=.non))) H):=by
 intro pins s σ H x y v u Q I d e h
 obtain ⟨rfl,q⟩:=h
 cases e
 refine isnot_none_gen (QS I q ?_)
 cases x <;> first
  | (cases d; rfl)
  | (obtain ⟨t,rfl⟩:=d; rfl)
def Xa:cf X (z_ .NotIn) (λx y H Q=>∃ i j,x=.str i/\y=.str j/\Q (.bl (!(!(Er j i 0 j.length 1).isEmpty))) H):=by
 intro pins s σ H x y v u Q I e d h
 obtain ⟨i,j,rfl,rfl,q⟩:=h
 obtain ⟨t,rfl⟩:=e
 obtain ⟨t',rfl⟩:=d
 exact notIn_str (QS I q rfl)
def cf.or (h:cf X f r) (h':cf X f g):cf X f (λx y H Q=>r x y H Q\/g x y H Q):=by
 intro pins s σ H x y v u Q I e d q
 rcases q with q | q
 .exact h pins s σ H x y v u Q I e d q
 .exact h' pins s σ H x y v u Q I e d q
def kg (b) (h:op≠.In:=by decide) (h2:op≠.NotIn:=by decide):tO op b=false:=by
 have e1:(op==CmpOp.In)=false:=by cases op <;> first | rfl | exact absurd rfl h
 have e2:(op==CmpOp.NotIn)=false:=by cases op <;> first | rfl | exact absurd rfl h2
 cases b <;> simp [tO,e1,e2]
def Bd (f:cf X (z_ op) r) (j:PE X a ta) (i:PE X b tb) (g:tO op b=false):PE X (.Compare a [op] [b] pos) (o6 r ta tb):=by
 intro pins s σ H Q I h
 exact wpAny_Compare1 (NH j i I h λv u s2 x y H2 l e d q=>f pins s2 σ H2 x y v u Q l e d q) g
def MB (t:TE):TT:=λσ H Q=>t σ H λx H'=>∃ k,x=.bl k/\Q k H'
def HQ (l:cf X (z_ op) r) (o:PE X a ta) (n:PE X b tb) (m:tO op b=false):PT X (.Compare a [op] [b] pos) (MB (o6 r ta tb)):=by
 intro pins s σ H Q I h
 refine wpAny_isTrue_Compare1 (thn (o pins s σ H _ I h) λv s1 ⟨x,H1,t,f,j⟩=>thn (n pins s1 σ H1 _ t j) λu s2 ⟨y,H2,q,d,i⟩ =>
  thn (l pins s2 σ H2 x y v u _ q f d i) λc s3 ⟨z,w,p,r3,k,e,g⟩=>?_) m
 subst e
 cases r3
 exact y_ ⟨w,p,g⟩
def Zu:(sizeLine:Nat) < 2 ^ 63:=by rw [Av]; decide
def VZ:cf X (Ay .Add) (λx y H Q=>∃ i j,x=.str i/\y=.str j/\i.length+j.length<=sizeLine/\Q (.str (i++j)) H):=by
 intro pins s σ H x y v u Q I e d h
 obtain ⟨i,j,rfl,rfl,hz,q⟩:=h
 obtain ⟨t,rfl⟩:=e
 obtain ⟨t',rfl⟩:=d
 exact add_str (λt' tk=>⟨.str (i++j),H,I.tok _,⟨_,rfl⟩,q⟩) hz
def ur (r:yx [x] us):∃ u,us=[u]/\yJ x u:=by
 cases r with
 | cons e d=>cases d; exact ⟨_,rfl,e⟩
def JF (r:yx [x,y] us):∃ u d,us=[u,d]/\yJ x u/\yJ y d:=by
 cases r with
 | cons g f =>
  cases f with
  | cons r3 e=>cases e; exact ⟨_,_,rfl,g,r3⟩
def qt (e:X.calm=true):xm X (.builtin "max") (λxs H Q=>∃ i j,xs=[.int i,.int j]/\Q (.int (if j > i then j else i)) H):=by
 intro pins s σ H xs us Q I r h
 obtain ⟨i,j,rfl,q⟩:=h
 obtain ⟨u,f,rfl,⟨t,rfl⟩,⟨t',rfl⟩⟩:=JF r
 refine max_two_ints (I.ok.hd e) λh' tk k=>⟨_,H,I.kept k,?_,q⟩
 by_cases d:j > i
 .rw [if_pos d,if_pos d]; exact ⟨_,rfl⟩
 .rw [if_neg d,if_neg d]; exact ⟨_,rfl⟩
def XH (e:X.calm=true):xm X (.builtin "min") (λxs H Q=>∃ i j,xs=[.int i,.int j]/\Q (.int (if j < i then j else i)) H):=by
 intro pins s σ H xs us Q I r h
 obtain ⟨i,j,rfl,q⟩:=h
 obtain ⟨u,f,rfl,⟨t,rfl⟩,⟨t',rfl⟩⟩:=JF r
 refine min_two_ints (I.ok.hd e) λh' tk k=>⟨_,H,I.kept k,?_,q⟩
 by_cases d:j < i
 .rw [if_pos d,if_pos d]; exact ⟨_,rfl⟩
 .rw [if_neg d,if_neg d]; exact ⟨_,rfl⟩
def Jn:xm X (.type "int") (λxs H Q=>(∃ i,xs=[.int i]/\Q (.int i) H)\/∃ k,xs=[.bl k]/\Q (.int (if k then 1 else 0)) H):=by
 intro pins s σ H xs us Q I r h
 rcases h with ⟨i,rfl,q⟩ | ⟨k,rfl,q⟩
 .obtain ⟨u,rfl,t,rfl⟩:=ur r
  exact call_int_int ⟨.int i,H,I,⟨_,rfl⟩,q⟩
 .obtain ⟨u,rfl,d⟩:=ur r
  cases d
  exact call_int_bool ⟨.int (if k then 1 else 0),H,I.tok _,⟨_,rfl⟩,q⟩
def XF:xm X (.type "str") (λxs H Q=>∃ i,xs=[.int i]/\i.natAbs.log2 < 1920/\Q (.str (toString i)) H):=by
 intro pins s σ H xs us Q I r h
 obtain ⟨i,rfl,hz,q⟩:=h
 obtain ⟨u,rfl,t,rfl⟩:=ur r
 exact PySem.P.str_of_int hz ⟨.str _,H,I.tok _,⟨_,rfl⟩,q⟩
end
section
variable {prog:sH} {w:sU} {A:Around} {E:Value->Shared->Prop} {s:Shared} {K:sx} {x dx C f:Addr} {mA:Str->Option Value} {name:Str} {v:Value}
end
def EH (r:JC (some v) o):∃ u,o=some u/\yJ v u:=by
 cases o with
 | none=>exact (show False from r).elim
 | some u=>exact ⟨u,rfl,r⟩
section
variable {P:sH} {w:sU} {H H':Hp} {h h':Heap} {a C dx:Addr} {fs fs':List (Str×V)}
end
section
variable {X:Cx} {pins:List (Addr×Obj)} {σ:St} {H:Hp} {s:Shared} {a C dx:Addr} {fs:List (Str×V)} {f:Str} {v:V} {A:Around} {E:Value->Shared->Prop}
def Cp (c:Ad e f env (eval e env)=eval e env)
  (h:sG (sL prog w) A (eval e env) (λo b=>sG (sL prog w) A (getAttr o f true) Q E b) E s):sG (sL prog w) A (eval (.Attribute e f pos) env) Q E s :=
 Attribute_any_ h (by rw [arm_eval_Attribute,c])
end
section
variable {X:Cx} {o e value:Expr} {f:Str} {pos pos' eI:Pos} {ta tv:TE}
end
section
variable {X:Cx} {pins:List (Addr×Obj)} {σ:St} {H:Hp} {s:Shared} {A:Around} {E:Value->Shared->Prop} {Q:Value->Shared->Prop} {c:Value} {b:Bool}
end
structure Room (k:Nat) (A:Around):Prop where
 hd:A.handled=none
 dp:A.depth+3 * k+5 < recursionLimit
 un:A.units+16 * k+200 < A0
def Room.mono (r:Room k A) (h:j<=k):Room j A:=⟨r.hd,by have:=r.dp; omega,by have:=r.un; omega⟩
def Room.deeper (r:Room (k+1) A) (env):Room k (A.deeper env) :=
 ⟨r.hd,by have:=r.dp; show A.depth+1+3 * k+5 < _; omega,by have:=r.un; show A.units+3+16 * k+200 < _; omega⟩
def V6 {A:Around} {C:Addr} {us:List Value} {a:List (Str×Value)}:(A.under (.builtin "type.__call__" ⟨.ref C :: us,a⟩)).depth=A.depth+1:=by
 first | rfl | simp [Around.under,Code.weight,Code.isCreation,Code.isGuard,Code.isCaller,Code.frames,Code.isFrame,guardIds]
def V5 {A:Around} {C:Addr} {us:List Value} {a:List (Str×Value)}:(A.under (.builtin "type.__call__" ⟨.ref C :: us,a⟩)).units=A.units+1:=by
 first | rfl | simp [Around.under,Code.cUnits,Code.frames,Code.isFrame]
def Room.make (r:Room (k+1) A) (C:Addr) (us:List Value) (a:List (Str×Value)):Room k (A.under (.builtin "type.__call__" ⟨.ref C :: us,a⟩)) :=
 ⟨r.hd,by have:=r.dp; rw [V6]; omega,by have:=r.un; rw [V5]; omega⟩
def Room.depth (r:Room k A):A.depth < recursionLimit:=by have:=r.dp; omega
def Pk:TA:=λ_ H Q=>Q [] H
def MK (ta:TE) (tr:TA):TA:=λσ H Q=>ta σ H λx H1=>tr σ H1 λxs H2=>Q (x :: xs) H2
section
variable {X:Cx} {e:Expr} {es:List Expr} {te:TE} {t:TA} {pos:Pos}
def yE:PA X [] Pk:=λ_ _ _ _ H Q I h=>Calls.spliced_nil ⟨[],H,I,.nil,h⟩
def zN (i:PE X e te) (g:PA X es t) (f:sC (e :: es) X.env=(false,eval e X.env) :: sC es X.env:=by rfl):PA X (e :: es) (MK te t):=by
 intro pos pins s σ H Q I h
 rw [f]
 show sG _ _ (spliced ((false,eval e X.env) :: tV pos (sC es X.env))) _ _ s
 refine AH (thn (i pins s σ H _ I h) λu s1 ⟨x,H1,l,b,d⟩=>?_)
 exact thn (g pos pins s1 σ H1 _ l d) λus s2 ⟨xs,H2,j,a,c⟩=>⟨x :: xs,H2,j,.cons b a,c⟩
def Pg (t:TA):TE:=λσ H Q=>t σ H λxs H1=>xs.length<=sizeLine/\∀ p,H1 p=none->Q (.ref p) (upd H1 p (.tup xs))
def Pl (t:TA):TE:=λσ H Q=>t σ H λxs H1=>xs.length<=sizeLine/\∀ p,H1 p=none->Q (.ref p) (upd H1 p (.lst xs))
def GJ {c} (h:PA X es t):PE X (.Tuple es c pos) (Pg t):=by
 intro pins s σ H Q I d
 refine wpAny_Tuple_spliced (thn (h pos pins s σ H _ I d) λus s1 ⟨xs,H1,a,r,z,q⟩=>⟨by rw [<- r.length]; exact z,?_⟩)
 have f:H1 s1.heap.objs.size=none:=a.hok.fresh (aU _)
 refine ⟨.ref s1.heap.objs.size,upd H1 s1.heap.objs.size (.tup xs),a.laid (t':=s1.toks) (λb u e=>mo _ e) (aU _) ?_,rfl,q _ f⟩
 exact ⟨z,us,r,⟨_,sF _ rfl,rfl,_,rfl⟩⟩
def GM (h:PA X es t):PE X (.List es pos) (Pl t):=by
 intro pins s σ H Q I c
 refine wpAny_List_spliced (thn (h pos pins s σ H _ I c) λus s1 ⟨xs,H1,a,r,z,q⟩=>⟨by rw [<- r.length]; exact z,?_⟩)
 have d:H1 s1.heap.objs.size=none:=a.hok.fresh (aU _)
 refine ⟨.ref s1.heap.objs.size,upd H1 s1.heap.objs.size (.lst xs),a.laid (t':=s1.toks) (λb u e=>mo _ e) (aU _) ?_,rfl,q _ d⟩
 exact ⟨z,us,0,r,sF _ rfl⟩
end
abbrev Sp:=List V->Hp->VK->XK->Prop
abbrev iB:=List Env->Hp->Shared->XK->Value->Shared->Prop
structure Env0 (P:sH) (w:sU) (K:sx) (mg:Str->Option Value) (base:Heap) (A:Around) (outer:List Env) (s:Shared) (H:Hp):Prop where
 frames:A.frames=some outer
 mod:Mod K mg base
 bs:∀ b o,base.get? b=some o->s.heap.get? b=some o/\H b=none
 bsz:base.objs.size<=s.heap.objs.size
 funs:s.heap.FunFrames base outer
 frf:∀ b∈cg outer,H b=none
 hok:cj P w H s.heap
 bare:AllBare s.gens
def CE (outer:List Env) (P:sH) (w:sU) (H:Hp) (s:Shared) (Q:VK) (u:Value) (s':Shared):Prop :=
 ∃ v H',s'.os=s.os/\AllBare s'.gens/\Un (cg outer) [] H H' s.heap s'.heap/\cj P w H' s'.heap/\yJ v u/\Q v H'
def CR (CX:iB) (outer:List Env) (P:sH) (w:sU) (H:Hp) (s:Shared) (Q:VK) (E:XK) (r:Result) (s':Shared):Prop :=
 match r with
 | .ok (.ret u)=>CE outer P w H s Q u s'
 | .ok _=>False
 | .error e=>CX outer H s E e s'
structure FnOk (P:sH) (w:sU) (K:sx) (mg:Str->Option Value) (base:Heap) (CX:iB) (k:Nat) (f:Addr) (fd:tU) (ps:List Str) (sp:Sp):Prop where
 len:∀ vs H Q E,sp vs H Q E->vs.length=ps.length
 run:∀ (A:Around) (outer:List Env) (s:Shared) (H:Hp) (args:Args) (us:List Value) (vs:List V) (Q:VK) (E:XK),Room k A->Env0 P w K mg base A outer s H->BindsTo s fd args (ps.zip us)->yx vs us->sp vs H Q E →
  codeAny (sL P w) A (.call (.ref f) args) (CR CX outer P w H s Q E) s
def FnOk.mono {P:sH} {w:sU} {K:sx} {mg:Str->Option Value} {base:Heap} {CX:iB} {j k:Nat} {f:Addr} {fd:tU} {ps:List Str} {sp:Sp} (F:FnOk P w K mg base CX j f fd ps sp) (h:j<=k) :
  FnOk P w K mg base CX k f fd ps sp:=⟨F.len,λA outer s H args us vs Q E a=>F.run A outer s H args us vs Q E (a.mono h)⟩
def Env0.make {P:sH} {w:sU} {K:sx} {mg:Str->Option Value} {base:Heap} {A:Around} {outer:List Env} {s:Shared} {H:Hp} (e:Env0 P w K mg base A outer s H) (C:Addr) (us:List Value) (a:List (Str×Value)) :
  Env0 P w K mg base (A.under (.builtin "type.__call__" ⟨.ref C :: us,a⟩)) outer s H:=⟨by first | exact e.frames | (simpa [Around.under,Code.envs,Code.isFrame,pushEnvs] using e.frames),e.mod,e.bs,e.bsz,e.funs,e.frf,e.hok,e.bare⟩
section
variable {X:Cx} {pins:List (Addr×Obj)} {σ:St} {H:Hp} {s s':Shared}
def Inv.env0 (I:Inv X pins σ H s):Env0 X.prog X.w X.K X.mg X.base X.A X.stack s H :=
 ⟨I.ok.frames,I.ok.mod,I.bs,gq I.ok.bsz I.sz,I.stack,I.stkFree,I.hok,I.bare⟩
def Inv.after (I:Inv X pins σ H s) (h:CE X.stack X.prog X.w H s Q u s'):EP X pins σ Q u s':=by
 obtain ⟨v,H',os,bare,un,hok,r,q⟩:=h
 obtain ⟨hh,g,d,t,a⟩:=s'
 obtain rfl:a=s.os:=os
 exact ⟨v,H',I.call (h':=hh) (g':=g) (d':=d) (t':=t) (ch:=[]) un hok bare (λb z=>absurd z (by simp)),r,q⟩
end
def ML (sp:Sp) (mw:List V) (E:XK) (t:TA):TE:=λσ H Q=>t σ H λvs H1=>sp (vs++mw) H1 Q E
def qB (K:sx) (fd:tU) (ps:List Str) (ds:List Value):Prop :=
 ∀ (s:Shared) (us:List Value),K.In s.heap->(us++ds).length=ps.length->BindsTo s fd ⟨us,[]⟩ (ps.zip (us++ds))
def qB.all {K:sx} (h:∀ us:List Value,us.length=ps.length->bindArgs fd ⟨us,[]⟩=pure (ps.zip us)):qB K fd ps []:=λs us _ a=>by
 rw [cO] at a ⊢
 exact .of_eq (h us a)
def ZJ (CX:iB) (X:Cx) (E:XK):Prop:=∀ (pins:List (Addr×Obj)) (σ:St) (H:Hp) (s:Shared) (e:Value) (s':Shared),Inv X pins σ H s->CX X.stack H s E e s'->X.xe e s'
section
variable {X:Cx} {CX:iB} {k:Nat} {f C:Addr} {fd:tU} {ps:List Str} {sp:Sp} {mw:List V} {ds:List Value} {E:XK} {x m:Str} {p pos apos:Pos} {e o:Expr} {es:List Expr} {ta:TE} {t:TA}
def C9 (F:FnOk X.prog X.w X.K X.mg X.base CX k f fd ps sp) (d:Room k X.A) (i:qB X.K fd ps ds) (hd:yx mw ds) (c:ZJ CX X E)
  (I:Inv X pins σ H s) (r:yx vs us) (h:sp (vs++mw) H Q E):sG (sL X.prog X.w) X.A (call (.ref f) us) (EP X pins σ Q) X.xe s:=by
 have b:yx (vs++mw) (us++ds):=r.append hd
 have g:(us++ds).length=ps.length:=by rw [<- b.length]; exact F.len _ _ _ _ h
 refine Ee (codeAny_mono (F.run X.A X.stack s H ⟨us,[]⟩ (us++ds) (vs++mw) Q E d I.env0 (i s us I.kIn g) b h) λr s' a=>?_)
 cases r with
 | error e=>exact c pins σ H s e s' I a
 | ok fl =>
  cases fl with
  | ret u=>exact I.after a
  | next=>exact tu a
  | brk=>exact tu a
  | cont=>exact tu a
def vO (F:FnOk X.prog X.w X.K X.mg X.base CX k f fd ps sp) (g:Room k X.A) (l:Gl X x) (i:X.mg x=some (.ref f)) (j:AI X.K (.ref f)=true) (u:qB X.K fd ps ds) (hd:yx mw ds) (d:ZJ CX X E)
  (v:PA X (e :: es) t) (b:(x==("__debug__":Str))=false:=by decide) (n:sC (e :: es) X.env=(false,eval e X.env) :: sC es X.env:=by rfl) (a:(tV pos (sC es X.env)).any (·.1)=false:=by rfl) :
  PE X (.Call (.Name x p) (e :: es) [] pos) (ML sp mw E t):=by
 intro pins s σ H Q I h
 refine AJ (qL I l i ?_ b)
 refine PySem.W.callWith_K (h₀:=X.base) I.ok.mod.kin j (thn (v pos pins s σ H _ I h) λus s1 ⟨vs,H1,c,r,q⟩=>⟨c.kIn,?_⟩) n a
 exact C9 F g u hd d c r q
end
section
variable {X:Cx} {CX:iB} {k:Nat} {f C:Addr} {fd:tU} {ps ks:List Str} {sp:Sp} {E:XK} {x m:Str} {p pos apos kpos:Pos} {e o:Expr} {es:List Expr} {kws:List A7} {te ta:TE} {t tk:TA} {nm:Option Str}
variable {g:List Value->List Value->List Value} {gV:List V->List V->List V}
end
structure FnScope (N P:List Str) (sc:Scope):Prop where
 kind:sc.kind=.function
 co:sc.isCoroutine=false
 gen:sc.isGenerator=false
 nd:N.Nodup
 pre:N.take P.length=P
 par:∀ x∈P,sc.names.lookup x=some .local\/sc.names.lookup x=some .cell
 nofree:∀ y∈sc.names,y.2≠.free
theorem XR {kindOf:Str->Option NameKind}:∀ {binds:List (Str×Value)} {m:Str->Option Value},(∀ v,(x,v)∉binds)->bindL kindOf binds m x=m x
 | [],_,_=>rfl
 | (n,v) :: r,m,h=>by
  unfold bindL
  rw [XR λw a=>h w (br _ a)]
  split
  .have:x≠n:=by rintro rfl; exact h v ba
   simp [this]
  .rfl
theorem XT {kindOf:Str->Option NameKind}:∀ {binds:List (Str×Value)} {m:Str->Option Value},(∀ v,(x,v)∉binds)->bindC kindOf binds m x=m x
 | [],_,_=>rfl
 | (n,v) :: r,m,h=>by
  unfold bindC
  rw [XT λw a=>h w (br _ a)]
  split
  .rfl
  .have:x≠n:=by rintro rfl; exact h v ba
   simp [this]
theorem XS {kindOf:Str->Option NameKind}:∀ {P:List Str} {vs:List Value} {i:Nat} {m:Str->Option Value},P.Nodup->P[i]? = some x->vs[i]? = some v->kindOf x=some .local →
  bindL kindOf (P.zip vs) m x=some v
 | [],_,_,_,_,h,_,_=>by simp at h
 | _ :: _,[],_,_,_,_,h,_=>by simp at h
 | p :: P,w :: vs,0,m,nd,h1,h2,a=>by
  simp at h1 h2; subst h1; subst h2
  show bindL kindOf ((p,w) :: P.zip vs) m p=_
  unfold bindL
  rw [XR λv b=>(nq.mp nd).1 (List.of_mem_zip b).1,if_pos a]
  simp
 | p :: P,w :: vs,i+1,m,nd,h1,h2,a=>by
  show bindL kindOf ((p,w) :: P.zip vs) m x=_
  unfold bindL
  exact XS (i:=i) (nq.mp nd).2 (by simpa using h1) (by simpa using h2) a
theorem XU {kindOf:Str->Option NameKind}:∀ {P:List Str} {vs:List Value} {i:Nat} {m:Str->Option Value},P.Nodup->P[i]? = some x->vs[i]? = some v->kindOf x≠some .local →
  bindC kindOf (P.zip vs) m x=some v
 | [],_,_,_,_,h,_,_=>by simp at h
 | _ :: _,[],_,_,_,_,h,_=>by simp at h
 | p :: P,w :: vs,0,m,nd,h1,h2,a=>by
  simp at h1 h2; subst h1; subst h2
  show bindC kindOf ((p,w) :: P.zip vs) m p=_
  unfold bindC
  rw [XT λv b=>(nq.mp nd).1 (List.of_mem_zip b).1,if_neg a]
  simp
 | p :: P,w :: vs,i+1,m,nd,h1,h2,a=>by
  show bindC kindOf ((p,w) :: P.zip vs) m x=_
  unfold bindC
  exact XU (i:=i) (nq.mp nd).2 (by simpa using h1) (by simpa using h2) a
def start (N:List Str) (vs:List V):St:=vs.map some++aL (N.length - vs.length) none
def xA (CX:iB) (P:sH) (w:sU) (K:sx) (mg:Str->Option Value) (base:Heap) (N:List Str) (qual:Str) (scope:Scope) (f:Addr) (cd:Value) (A:Around) (outer:List Env) (s:Shared) (H:Hp) (E:XK):Cx where
 prog:=P
 w:=w
 K:=K
 mg:=mg
 base:=base
 A:=A.deeper (envOfC qual scope s.heap.objs.size f cd)
 N:=N
 s₀:=s
 H₀:=H
 env:=envOfC qual scope s.heap.objs.size f cd
 outer:=outer
 stack:=envOfC qual scope s.heap.objs.size f cd :: outer
 ex:=[]
 calm:=true
 fn:=λ_=>true
 pn:=[]
 xe:=λe s'=>sG (sL P w) (A.deeper (envOfC qual scope s.heap.objs.size f cd)) (leaving (envOfC qual scope s.heap.objs.size f cd) e) (λ_ a=>CX outer H s E e a) (λb a=>CX outer H s E b a) s'
def VC {sc:Scope} (h:sc.names.lookup x=some .cell):∃ c,(cellsFrom n sc.names []).lookup x=some c:=by
 have q:=PySem.W.cellsFrom_some sc.names n [] (.inl h)
 exact Option.isSome_iff_exists.mp q
def QH    {K:sx}
  (S:FnScope N ps scope) (hd:A.handled=none) (d:Env0 P w K mg base A outer s H) (G:vs.length=ps.length) (r:yx vs us)
  (x:InCallC s s.heap.objs.size (bindL (envOfC qual scope s.heap.objs.size f cd).kindOf (ps.zip us) λ_=>none) (cellsFrom (s.heap.objs.size+1) scope.names []) (bindC (envOfC qual scope s.heap.objs.size f cd).kindOf (ps.zip us) λ_=>none) s1) :
  Inv (xA CX P w K mg base N qual scope f cd A outer s H E) [] (start N vs) H s1:=by
 have C:ps.length<=N.length:=by have:=congrArg List.length S.pre; rw [List.length_take] at this; omega
 obtain ⟨h1,tk,rfl,t⟩:=x.done
 have m:∀ b:Addr,b∉(xA CX P w K mg base N qual scope f cd A outer s H E).ex:=λb z=>absurd (show b∈([]:List Addr) from z) (by simp)
 refine ⟨⟨d.mod,S.kind,rfl,rfl,aU _,λy z c h1 h2=>?_,λy g=>?_,λy c _ h=>?_,λ_=>hd,Around.frames_deeper d.frames,.inr ⟨rfl,rfl⟩,λb z=>absurd z (m b),d.bs,d.bsz,λb _ _=>m b,λb z=>absurd z (m b),d.funs,d.frf⟩,
  rfl,d.bare,Un.kept t,⟨_,x.toInCall.ns,λi y v h1 h2 I=>?_⟩,λy c h=>⟨_,x.cell y c h⟩,d.hok.fresh (aU _),λy c h=>?_,λp l=>absurd (show p∈([]:List (Addr×Obj)) from l) (by simp),d.hok.kept t,?_⟩
 .exact name_of_addr x.apart (AD h1) (AD h2)
 .have g:scope.names.lookup y=some .cell\/scope.names.lookup y=some .free:=g
  rcases g with g | g
  .exact VC g
  .exact absurd rfl (S.nofree _ (AD g))
 .exact Nat.le_of_lt (x.above y c (AD h))
 .have hi:i < vs.length:=by
   unfold start at h2
   by_cases hi:i < vs.length
   .exact hi
   .rw [mv (by simpa using hi)] at h2
    rw [nz] at h2
    split at h2 <;> cases h2
  have F:vs[i]? = some v:=by
   unfold start at h2
   rw [lQ (by simpa using hi),dX] at h2
   cases e:vs[i]? with
   | none=>rw [e] at h2; cases h2
   | some a=>rw [e] at h2; cases h2; rfl
  obtain ⟨u,o,B⟩:=r.get F
  have l:ps[i]? = some y:=by
   rw [<- S.pre,List.getElem?_take_of_lt (by omega)]; exact h1
  have j:ps.Nodup:=by rw [<- S.pre]; exact S.nd.sublist (List.take_sublist _ _)
  refine ⟨u,B,?_⟩
  rcases S.par y (g3d l) with k | k
  .exact .inl ⟨k,XS j l o k⟩
  .obtain ⟨c,e⟩:=VC (n:=s.heap.objs.size+1) k
   refine .inr ⟨.inl k,c,e,?_⟩
   have q:=x.cell y c e
   rw [XU j l o (by show scope.names.lookup y≠_; rw [k]; decide)] at q
   exact q
 .exact d.hok.fresh (Nat.le_of_lt (x.above y c (AD h)))
 .unfold start
  show _=N.length
  rw [bX,aC,g2x]
  omega
def FH    {K:sx} {m kV doc pm aq ct oc:Value}
       (lk:K.lookup f=some ⟨oc,od,.func (W.fnOf name qual params body scope m kV doc pm an aq ct),eU⟩) (l:W.codeIn K aq qual=true) (S:FnScope N ps scope)
    (len:∀ vs H Q E,sp vs H Q E->vs.length=ps.length)
    (a:∀ (A:Around) (outer:List Env) (s:Shared) (H:Hp) (vs:List V) (Q:VK) (E:XK),Room k (A.deeper (envOfC qual scope s.heap.objs.size f aq))->sp vs H Q E →
      ∃ t,eX (xA CX P w K mg base N qual scope f aq A outer s H E) body t/\t { nx:=λ_ H'=>Q .non H',rt:=Q } (start N vs) H) :
    FnOk P w K mg base CX (k+1) f (W.fnOf name qual params body scope m kV doc pm an aq ct) ps sp:=by
  refine ⟨len,λA outer s H args us vs Q E j g L r d=>?_⟩
  have F:=len _ _ _ _ d
  have p:K.In s.heap:=g.mod.kin.keeps λb o e=>(g.bs b o e).1
  have i:s.heap.NoLimit:=g.mod.nolimit.keeps λb o e=>(g.bs b o e).1
  have z:∀ y∈ps.zip us,scope.names.lookup y.1=some .local\/(scope.names.lookup y.1=some .cell/\((cellsFrom (s.heap.objs.size+1) scope.names []).lookup y.1).isSome=true):=λ⟨n,v⟩ B=>by
    rcases S.par n (List.of_mem_zip B).1 with q | q
    · exact .inl q
    · exact .inr ⟨q,PySem.W.cellsFrom_some _ _ _ (.inl q)⟩
  refine codeAny_call_function j.depth (p _ _ lk) rfl S.co S.gen rfl (PySem.W.codeRec_of p l) (L _ _ _ _ ?_)
  refine wpAny_newFunctionEnv_cells S.kind z λenv G s1 x=>?_
  subst G
  refine ⟨i.keeps x.toInCall.keep,codeAny_func ?_⟩
  obtain ⟨t,ht,C⟩:=a A outer s H vs Q E (j.deeper _) d
  have I:Inv (xA CX P w K mg base N qual scope f aq A outer s H E) [] (start N vs) H s1:=QH S j.hd g F r x
  refine sN (ht [] s1 (start N vs) H _ I C) (λfl s' c=>?_) λe s' c=>c
  have fin:∀ {aB:St} {H':Hp} {v:V} {u:Value},Inv (xA CX P w K mg base N qual scope f aq A outer s H E) [] aB H' s'->yJ v u->Q v H'->CE outer P w H s Q u s' :=
    λ{aB H' v u} J h q=>⟨v,H',J.os,J.bare,J.base,J.hok,h,q⟩
  cases fl with
  | ret u =>
    obtain ⟨v,aB,H',J,h,q⟩:=c
    exact fin J h q
  | next =>
    obtain ⟨aB,H',J,q⟩:=c
    exact fin (v:=V.non) (u:=tj) J rfl q
  | brk =>
    obtain ⟨_,_,_,q⟩:=c
    exact tu q
  | cont =>
    obtain ⟨_,_,_,q⟩:=c
    exact tu q
section
variable {X:Cx} {x:Str} {p pos:Pos} {e:Expr} {es:List Expr} {t:TA} {id T:String} {r:List V->Hp->VK->Prop}
def tCB (r:List V->Hp->VK->Prop) (t:TA):TE:=λσ H Q=>t σ H λvs H1=>r vs H1 Q
def wL (m:xm X (.builtin id) r) (j:Gl X x) (i:X.mg x=none) (f:u_ x=some (.builtin id)) (n:PA X (e :: es) t) (g:x≠"__name__":=by decide) (b:(x==("__debug__":Str))=false:=by decide)
  (l:sC (e :: es) X.env=(false,eval e X.env) :: sC es X.env:=by rfl) (a:(tV pos (sC es X.env)).any (·.1)=false:=by rfl):PE X (.Call (.Name x p) (e :: es) [] pos) (tCB r t):=by
 intro pins s σ H Q I h
 refine AJ (kj I j i f ?_ g b)
 exact PyProof.Rows.callWith_builtin1 (thn (n pos pins s σ H _ I h) λus s1 ⟨vs,H1,o,c,d⟩=>m pins s1 σ H1 vs us Q o c d) l a
def xQ (m:xm X (.type T) r) (j:Gl X x) (i:X.mg x=none) (f:u_ x=some (.type T)) (n:PA X (e :: es) t) (g:x≠"__name__":=by decide) (b:(x==("__debug__":Str))=false:=by decide)
  (l:sC (e :: es) X.env=(false,eval e X.env) :: sC es X.env:=by rfl) (a:(tV pos (sC es X.env)).any (·.1)=false:=by rfl):PE X (.Call (.Name x p) (e :: es) [] pos) (tCB r t):=by
 intro pins s σ H Q I h
 refine AJ (kj I j i f ?_ g b)
 exact Aa (thn (n pos pins s σ H _ I h) λus s1 ⟨vs,H1,o,c,d⟩=>m pins s1 σ H1 vs us Q o c d) l a
end
end L2
namespace HT
open PySem PyProof.Rows
section
open PySem.SeqAt
open PySem.AutoSeq1 (wpAny_loadPart')
open PySem.MeetsSeq PySem.MeetsSeq2 PySem.MeetsSeq3
end
section
variable {prog:sH} {w:sU} {A:Around} {E:Value->Shared->Prop} {s:Shared}
def cat_tup (ht:IsTup s.heap t vs.toArray) (o:IsTup s.heap b ws.toArray) (j:vs≠[])
  (h1:ws=[]->Q (.ref t) s) (h2:ws≠[]->Q (.ref s.heap.objs.size) { s with heap:=s.heap.push { cls:=.type "tuple",data:=.seq (vs++ws).toArray } })
  (f:vs.length+ws.length<=sizeLine):sG (sL prog w) A (Ay .Add (.ref t) (.ref b)) Q E s:=by
 obtain ⟨⟨cls,dd,data,sl⟩,d,l,n,hd⟩:=id ht
 obtain ⟨⟨p,i,data2,m⟩,c,h,g,a⟩:=id o
 simp only at l hd h a
 subst l hd h a
 have e:vs.toArray++ws.toArray=(vs++ws).toArray:=by simp
 by_cases hw:ws=[]
 .exact concat_meets ⟨_,d,rfl⟩ ⟨_,c,rfl⟩ noFill_tuple_add seq_tuple_add EE Es (Ef _ _)
   (tuple_addW1 t b vs.toArray ws.toArray n g dd i sl m (by simpa using j) (by simp [hw])) ⟨d,c,h1 hw⟩
 .refine concat_meets ⟨_,d,rfl⟩ ⟨_,c,rfl⟩ noFill_tuple_add seq_tuple_add EE Es (Ef _ _)
   (tuple_addW2 t b vs.toArray ws.toArray n g dd i sl m (by simpa using j) (by simpa using hw) (by rw [cx,cx]; exact f)) ⟨d,c,?_⟩
  rw [e]
  exact h2 hw
def sIx (n d:Nat):Option Int->Nat
 | none=>d
 | some v=>if v < 0 then (v+(n:Int)).toNat else min v.toNat n
def sIx_nat (n d k:Nat):sIx n d (some (k:Int))=min k n:=by
 show (if (k:Int) < 0 then ((k:Int)+(n:Int)).toNat else min (k:Int).toNat n)=min k n
 rw [if_neg (by omega),Int.toNat_natCast]
def C8 (n d) (hd:d<=n) (o:Option Int):sIx n d o<=n:=by
 cases o with
 | none=>exact hd
 | some v =>
  show (if v < 0 then (v+(n:Int)).toNat else min v.toNat n)<=n
  by_cases a:v < 0
  .rw [if_pos a]; omega
  .rw [if_neg a]; exact Nat.min_le_right _ _
def Jd (v) (n d:Nat):(if v < 0 then max (v+(n:Int)) 0 else min v (n:Int))=((sIx n d (some v):Nat):Int):=by
 show (if v < 0 then max (v+(n:Int)) 0 else min v (n:Int))=(((if v < 0 then (v+(n:Int)).toNat else min v.toNat n):Nat):Int)
 by_cases a:v < 0
 .simp only [if_pos a]; omega
 .simp only [if_neg a]; omega
def Ut (lo hi) (n:Nat):Eb lo hi 1 (n:Int)=(((sIx n 0 lo:Nat):Int),((sIx n n hi:Nat):Int)):=by
 have h1:¬ ((1:Int) < 0):=by omega
 unfold Eb
 simp only [h1,if_false]
 refine Prod.ext ?_ ?_
 .cases lo with
  | none=>rfl
  | some v=>exact Jd v n 0
 .cases hi with
  | none=>rfl
  | some v=>exact Jd v n n
def VY (i j:Nat):AC (i:Int) (j:Int) 1=j - i:=by
 unfold AC
 have h1:(1:Int) > 0:=by omega
 simp only [h1,if_true,Int.ediv_one]
 split <;> omega
def Zl (p:IsPart v o) (h:Q o s):sG (sL prog w) A (Builtin.Slice.slicePartIndex v) Q E s:=by
 cases p with
 | none=>exact slicePart_none h
 | int i t=>exact slicePart_int h
def sliceApplied_gen   {lo hi:Option Int} {Q:Int×Int×Nat->Shared->Prop} (f:s.heap.IsSliceOf sl d c .none) (pl:IsPart d lo) (e:IsPart c hi)
  (h:Q (((sIx n 0 lo:Nat):Int),1,sIx n n hi - sIx n 0 lo) s):sG (sL prog w) A (Builtin.Slice.sliceApplied (.ref sl) (pure (n:Int))) Q E s:=by
 obtain ⟨os,b,g,a⟩:=id f
 unfold Builtin.Slice.sliceApplied Builtin.Slice.sliceFields
 refine ls (ls (sS b a (x:=d) rfl (ls (sS b a (x:=c) rfl (ls (sS b a (x:=.none) rfl (su ?_)))))))
 refine ls (slicePart_none ?_)
 show sG _ _ (if ((1:Int)==0)=true then _ else _) _ _ s
 rw [if_neg (by decide)]
 refine ls (Zl pl (ls (Zl e (ls (su ?_)))))
 show sG _ _ (match Eb lo hi 1 (n:Int) with | (lo,hi)=>pure (lo,(1:Int),AC lo hi 1)) _ _ s
 rw [Ut lo hi n]
 show sG _ _ (pure (((sIx n 0 lo:Nat):Int),(1:Int),AC ((sIx n 0 lo:Nat):Int) ((sIx n n hi:Nat):Int) 1)) _ _ s
 rw [VY]
 exact su h
def Ke (xs:Array Value) (i k:Nat):((aV k).filterMap λ(m:Nat)=>xs[((i:Int)+(m:Int) * 1).toNat]?).toArray=((xs.toList.drop i).take k).toArray:=by
 have e:(λ(m:Nat)=>xs[((i:Int)+(m:Int) * 1).toNat]?)=λm=>xs[i+m]? := by
  funext m
  have:((i:Int)+(m:Int) * 1).toNat=i+m:=by omega
  rw [this]
 rw [e]
 have:=pick_run xs i k
 rw [List.filterMap_map] at this
 have e2:((λx=>xs[x]?) ∘ λx=>i+x)=λm=>xs[i+m]? := rfl
 rw [e2] at this
 rw [this]
def getItem_tuple_cut    {lo hi:Option Int} (ht:IsTup s.heap t items) (e:s.heap.IsSliceOf sl g f .none) (pl:IsPart g lo) (i:IsPart f hi)
  (l:¬ (sIx items.size 0 lo=0/\sIx items.size items.size hi=items.size))
  (h:Q (.ref s.heap.objs.size) { s with heap:=s.heap.push { cls:=.type "tuple",data:=.seq ((items.toList.drop (sIx items.size 0 lo)).take (sIx items.size items.size hi - sIx items.size 0 lo)).toArray } })
  (n:items.size<=sizeLine):sG (sL prog w) A (getItem (.ref t) (.ref sl)) Q E s:=by
 have a:sizeOk (.seq ((items.toList.drop (sIx items.size 0 lo)).take (sIx items.size items.size hi - sIx items.size 0 lo)).toArray):=by
  show ((items.toList.drop (sIx items.size 0 lo)).take (sIx items.size items.size hi - sIx items.size 0 lo)).toArray.size<=sizeLine
  rw [cx,List.length_take,List.length_drop,Ak]
  omega
 have u:sIx items.size items.size hi<=items.size:=C8 _ _ (aU _) hi
 obtain ⟨os,j,c,o⟩:=id e
 have d:s.TypeIs (.ref sl) "slice":=⟨os,j,c⟩
 unfold getItem
 try with_reducible refine tQ ?_
 first | refine ls (su ?_) | skip
 refine ls (wpAny_sequenceKey ht.typeIs (by decide) ?_)
 refine ls (tE (name:=sX "__getitem__") ht.typeIs tH
  (tM tH ht.typeIs entry_tuple_getitem ?_ (args_tuple_getitem _ _)))
 show sG _ _ (Builtin.Tuple.tupleItemsOf (.ref t) >>= _) _ _ s
 refine ls (tupleItemsOf_ ht ?_)
 refine ls (wpAny_typeOf d ?_)
 rw [if_pos (by decide)]
 refine ls (sliceApplied_gen e pl i ?_)
 have b:¬ ((((sIx items.size 0 lo:Nat):Int)==0&&(1:Int)==1&&(sIx items.size items.size hi - sIx items.size 0 lo)==items.size)=true):=by
  intro q
  rw [du,du] at q
  have r:((sIx items.size 0 lo:Nat):Int)=0:=eq_of_beq q.1.1
  have p:sIx items.size items.size hi - sIx items.size 0 lo=items.size:=eq_of_beq q.2
  exact l ⟨by omega,by omega⟩
 show sG _ _ (if (((sIx items.size 0 lo:Nat):Int)==0&&(1:Int)==1&&(sIx items.size items.size hi - sIx items.size 0 lo)==items.size)=true then _ else _) _ _ s
 rw [if_neg b,Ke]
 first
  | exact ls (m:=AE _) (tX (su ⟨_,rfl,su h⟩) a)
  | exact ls (m:=AE _) (tX (ls (su (su ⟨_,rfl,su h⟩))) a)
  | exact ls (ls (m:=AE _) (tX (su (su ⟨_,rfl,su h⟩)) a))
  | exact ls (ls (m:=AE _) (tX (su ⟨_,rfl,su h⟩) a))
end
end HT
namespace L2
open PySem PySem.Spec PyProof.Rows
abbrev TO:=St->Hp->(Option Int->Hp->Prop)->Prop
def PO (X:Cx) (e:Option Expr) (t:TO):Prop :=
 ∀ (pins:List (Addr×Obj)) (s:Shared) (σ:St) (H:Hp) (Q:Option Int->Hp->Prop),Inv X pins σ H s->t σ H Q →
  sG (sL X.prog X.w) X.A (evalPart e X.env) (λu s'=>∃ o H',Inv X pins σ H' s'/\IsPart u o/\Q o H') X.xe s
def Ho:TO:=λ_ H Q=>Q none H
def MD (t:TE):TO:=λσ H Q=>t σ H λx H1=>∃ i,x=.int i/\Q (some i) H1
section
variable {X:Cx} {e:Expr} {te:TE} {lo hi:Option Expr} {tl th:TO} {pos p2:Pos}
def HX:PO X none Ho:=by
 intro pins s σ H Q I h
 rw [evalPart_none]
 exact su ⟨none,H,I,.none,h⟩
def HW (h:PE X e te):PO X (some e) (MD te):=by
 intro pins s σ H Q I c
 rw [evalPart_some]
 refine thn (h pins s σ H _ I c) λu s1 ⟨x,H1,d,a,b⟩=>?_
 obtain ⟨i,rfl,q⟩:=b
 obtain ⟨t,rfl⟩:=a
 exact ⟨some i,H1,d,.int i t,q⟩
def mB (X:Cx) (r:V->Option Int->Option Int->Hp->VK->Prop):Prop :=
 ∀ (pins:List (Addr×Obj)) (s:Shared) (σ:St) (H:Hp) (x:V) (v b a:Value) (lo hi:Option Int) (sl:Addr) (Q:VK),Inv X pins σ H s->yJ x v->s.heap.IsSliceOf sl b a .none->IsPart b lo->IsPart a hi->r x lo hi H Q →
  ∃ T id,typeLookup (.type T) "__getitem__"=pure (some (.builtin id))/\s.TypeIs v T/\sG (sL X.prog X.w) X.A (getItem v (.ref sl)) (EP X pins σ Q) X.xe s
def mB.or (h:mB X r) (h':mB X g):mB X (λx lo hi H Q=>r x lo hi H Q\/g x lo hi H Q):=by
 intro pins s σ H x v b a lo hi sl Q I c f pl d q
 rcases q with q | q
 .exact h pins s σ H x v b a lo hi sl Q I c f pl d q
 .exact h' pins s σ H x v b a lo hi sl Q I c f pl d q
def tSl (r:V->Option Int->Option Int->Hp->VK->Prop) (te:TE) (tl th:TO):TE:=λσ H Q=>te σ H λx H1=>tl σ H1 λl H2=>th σ H2 λu a=>r x l u a Q
def Kh (o:mB X r) (w:PE X e te) (p:PO X lo tl) (n:PO X hi th):PE X (.Subscript e (.Slice lo hi none p2) pos) (tSl r te tl th):=by
 intro pins s σ H Q I h
 refine Subscript_ (thn (w pins s σ H _ I h) λv s1 ⟨x,H1,C,f,j⟩=>?_)
 refine wpAny_Slice (thn (p pins s1 σ H1 _ C j) λc s2 ⟨l,H2,B,pl,i⟩=>thn (n pins s2 σ H2 _ B i) λa s3 ⟨u,d,A,m,g⟩=>?_)
 rw [evalPart_none]
 refine su ?_
 have z:Inv X pins σ d { s3 with heap:=s3.heap.push { cls:=.type "slice",data:=.fields #[c,a,.none] } }:=A.kept (t':=s3.toks) λb ob q=>mo _ q
 obtain ⟨T,id,y,ht,t⟩:=o pins { s3 with heap:=s3.heap.push { cls:=.type "slice",data:=.fields #[c,a,.none] } } σ d x v c a l u s3.heap.objs.size Q z f (Heap.IsSliceOf.new ..) pl m g
 show sG (sL X.prog X.w) X.A (subscriptTail e (.Slice lo hi none p2) v (.ref s3.heap.objs.size)) (EP X pins σ Q) X.xe { s3 with heap:=s3.heap.push { cls:=.type "slice",data:=.fields #[c,a,.none] } }
 exact tail_any (ops:=[.ref s3.heap.objs.size,v]) ht y t (by with_unfolding_all rfl)
def Q9 (xs:List V) (lo hi:Option Int):List V:=(xs.drop (HT.sIx xs.length 0 lo)).take (HT.sIx xs.length xs.length hi - HT.sIx xs.length 0 lo)
def kO (xs) (lo hi:Option Int):(Q9 xs lo hi).length<=xs.length:=by
 unfold Q9
 rw [List.length_take,List.length_drop]
 omega
def Pz (K:sx):V->Option Int->Option Int->Hp->VK->Prop:=λx lo hi H Q=>∃ a xs,x=.ref a/\bJ K H a xs ∧
 ¬ (HT.sIx xs.length 0 lo=0/\HT.sIx xs.length xs.length hi=xs.length)/\∀ p,H p=none->Q (.ref p) (upd H p (.tup (Q9 xs lo hi)))
def C4:mB X (Pz X.K):=by
 intro pins s σ H x v m l lo hi sl Q I d j pl f h
 obtain ⟨a,xs,rfl,g,i,q⟩:=h
 cases d
 obtain ⟨ah,r,ht,hz⟩:=I.tuple g
 have c:ah.toArray.size=xs.length:=by rw [cx]; exact r.length.symm
 refine ⟨"tuple",_,tH.lookup,ht.typeIs,?_⟩
 refine HT.getItem_tuple_cut ht j pl f (by rw [c]; exact i) ?_ (by rw [c]; exact hz)
 rw [c]
 refine ⟨.ref s.heap.objs.size,_,I.laid (t':=s.toks) (o:=.tup (Q9 xs lo hi)) (λb ob q=>mo _ q) (aU _) ?_,rfl,q _ (I.hok.fresh (aU _))⟩
 exact ⟨gq (kO xs lo hi) hz,_,(r.drop (HT.sIx xs.length 0 lo)).take (HT.sIx xs.length xs.length hi - HT.sIx xs.length 0 lo),IsTup.new _ _⟩
def M4 (K:sx):R2:=λx y H Q=>∃ a b xs ys,x=.ref a/\y=.ref b/\bJ K H a xs/\bJ K H b ys/\xs≠[]/\xs.length+ys.length<=sizeLine ∧
 (ys=[]->Q (.ref a) H)/\(ys≠[]->∀ p,H p=none->Q (.ref p) (upd H p (.tup (xs++ys))))
def yx.nil_iff (r:yx xs us):us=[]↔xs=[]:=by
 cases r with
 | nil=>simp
 | cons _ _=>simp
def Bn:cf X (Ay .Add) (M4 X.K):=by
 intro pins s σ H x y v u Q I g f h
 obtain ⟨a,b,xs,ys,rfl,rfl,p,n,m,hz,j,i⟩:=h
 cases g
 cases f
 obtain ⟨ah,d,l,_⟩:=I.tuple p
 obtain ⟨r,c,p2,_⟩:=I.tuple n
 refine HT.cat_tup l p2 (λz=>m (d.nil_iff.mp z)) (λz=>⟨.ref a,H,I,rfl,j (c.nil_iff.mp z)⟩) (λz=>?_) (by rw [<- d.length,<- c.length]; exact hz)
 refine ⟨.ref s.heap.objs.size,_,I.laid (t':=s.toks) (o:=.tup (xs++ys)) (λb ob q=>mo _ q) (aU _) ?_,rfl,i (λw=>z (c.nil_iff.mpr w)) _ (I.hok.fresh (aU _))⟩
 exact ⟨by rw [bX]; exact hz,_,d.append c,IsTup.new _ _⟩
end
def dI (n:Nat) (i:Int):Option Nat:=if 0<=i then (if i < n then some i.toNat else none) else if -(n:Int)<=i then some (i+n).toNat else none
def atI {α:Type} (xs:List α) (i:Int):Option α:=(dI xs.length i).bind λj=>xs[j]?
def QE (h:dI n i=some j):seqIndex? i n=some j/\j < n /\ -(n:Int)<=i/\i < n:=by
 unfold dI at h
 by_cases h0:0<=i
 .rw [if_pos h0] at h
  by_cases h1:i < n
  .rw [if_pos h1] at h
   have e:i.toNat=j:=g2j.inj h
   exact ⟨by rw [seqIndex_of h0 h1,e],by omega,by omega,h1⟩
  .rw [if_neg h1] at h; cases h
 .rw [if_neg h0] at h
  by_cases h1 : -(n:Int)<=i
  .rw [if_pos h1] at h
   have e:(i+n).toNat=j:=g2j.inj h
   exact ⟨by rw [seqIndex_neg (by omega) h1,e],by omega,h1,by omega⟩
  .rw [if_neg h1] at h; cases h
def WQ    {v:α} (h:atI xs i=some v):∃ j,seqIndex? i xs.length=some j/\xs[j]? = some v/\j < xs.length /\ -(xs.length:Int)<=i/\i < xs.length:=by
 unfold atI at h
 cases e:dI xs.length i with
 | none=>rw [e] at h; cases h
 | some j =>
  rw [e] at h
  obtain ⟨h1,h2,b,a⟩:=QE e
  exact ⟨j,h1,h,h2,b,a⟩
def uK   {j:Nat} {v:α} (h:xs[j]? = some v):atI xs (j:Int)=some v:=by
 have a:j < xs.length:=(gE.mp h).1
 have e:dI xs.length (j:Int)=some j:=by
  unfold dI
  rw [if_pos (by omega),if_pos (by omega)]; simp
 unfold atI; rw [e]; exact h
def WR (b:Expr):Prop:=∀ o i,subscripted b false o i=operate [o,i] (getItem o i)
def iL (X:Cx) (r:R2):Prop :=
 ∀ (value a:Expr) (pins:List (Addr×Obj)) (s:Shared) (σ:St) (H:Hp) (x y:V) (v u:Value) (Q:VK),Inv X pins σ H s->yJ x v->yJ y u->r x y H Q →
  subscripted a false v u=operate [v,u] (getItem v u)->sG (sL X.prog X.w) X.A (subscriptTail value a v u) (EP X pins σ Q) X.xe s
def MtR (X:Cx) (id:String) (r:V->List V->Hp->VK->Prop):Prop :=
 ∀ (pins:List (Addr×Obj)) (s:Shared) (σ:St) (H:Hp) (x:V) (xs:List V) (v:Value) (us:List Value) (Q:VK),Inv X pins σ H s->yJ x v->yx xs us->r x xs H Q →
  sG (sL X.prog X.w) X.A (call (.builtin id) (v :: us)) (EP X pins σ Q) X.xe s
section
variable {X:Cx} {a b:Expr} {ta tb:TE} {pos:Pos}
def iL.or (h:iL X r) (h':iL X g):iL X (λx y H Q=>r x y H Q\/g x y H Q):=by
 intro value c pins s σ H x y v u Q I e d q f
 rcases q with q | q
 .exact h value c pins s σ H x y v u Q I e d q f
 .exact h' value c pins s σ H x y v u Q I e d q f
def M6 (f:iL X r) (i:PE X a ta) (g:PE X b tb) (e:WR b):PE X (.Subscript a b pos) (o6 r ta tb):=by
 intro pins s σ H Q I h
 exact Subscript_ (NH i g I h λv u s2 x y H2 j d c q=>f a b pins s2 σ H2 x y v u Q j d c q (e _ _))
def N3 (K:sx):R2:=λx y H Q=>∃ p xs i v,x=.ref p/\y=.int i/\aZ K H p xs/\atI xs i=some v/\Q v H
def N1 (K:sx):R2:=λx y H Q=>∃ p xs i v,x=.ref p/\y=.int i/\bJ K H p xs/\atI xs i=some v/\Q v H
def N2:R2:=λx y H Q=>∃ z i c,x=.str z/\y=.int i/\z.length<=sizeLine/\atI z.cps.toList i=some c/\Q (.str ⟨#[c]⟩) H
def BL:iL X (N3 X.K):=by
 intro value c pins s σ H x y v u Q I l g h e
 obtain ⟨p,xs,i,z,rfl,rfl,n,A,q⟩:=h
 cases l
 obtain ⟨t,rfl⟩:=g
 obtain ⟨ah,r,pl,hz⟩:=I.list n
 obtain ⟨j,h1,h2,F,C,B⟩:=WQ A
 obtain ⟨w,f,m⟩:=r.get h2
 have o:=r.length
 have E:=Zu
 have fin:EP X pins σ Q w s:=⟨z,H,I,m,q⟩
 by_cases h0:0<=i
 .have d:i.toNat=j:=by
   rw [seqIndex_of h0 B] at h1
   exact g2j.inj h1
  exact item_listR pl.isList h0 (by omega) (by rw [d]; simpa using f) fin e
 .have d:(i+(ah.toArray.size:Int)).toNat=j:=by
   rw [seqIndex_neg (by omega) C] at h1
   rw [cx,<- o]
   exact g2j.inj h1
  exact subscriptTail_builtinR (x:=w) pl.isList.typeIs slot_list_getitem.lookup
   (wpAny_getItem_list_neg (Q:=λr s'=>r=w/\EP X pins σ Q r s') pl.isList (by omega) (by rw [cx] <;> omega) (by omega) (by rw [d]; simpa using f) ⟨rfl,fin⟩) e
def Fp:iL X (N1 X.K):=by
 intro value c pins s σ H x y v u Q I e d h g
 obtain ⟨p,xs,i,z,rfl,rfl,l,n,q⟩:=h
 cases e
 obtain ⟨t,rfl⟩:=d
 obtain ⟨ah,r,pl,hz⟩:=I.tuple l
 obtain ⟨j,h1,h2,E,C,B⟩:=WQ n
 obtain ⟨w,o,f⟩:=r.get h2
 have m:=r.length
 have A:=Zu
 have fin:EP X pins σ Q w s:=⟨z,H,I,f,q⟩
 exact subscriptTail_builtinR (x:=w) pl.typeIs slot_tuple_getitem.lookup
  (getItem_tuple (j:=j) (Q:=λr s'=>r=w/\EP X pins σ Q r s') pl (by omega) (by omega) (by rw [cx,<- m]; exact h1) (by simpa using o) ⟨rfl,fin⟩) g
def Fq:iL X N2:=by
 intro value d pins s σ H x y v u Q I f e h g
 obtain ⟨z,i,c,rfl,rfl,hz,m,q⟩:=h
 obtain ⟨t,rfl⟩:=f
 obtain ⟨t',rfl⟩:=e
 obtain ⟨j,h1,h2,r,o,n⟩:=WQ m
 have l:z.cps.toList.length=z.length:=by simp [Str.length]
 rw [l] at h1 o n
 have p:=Zu
 exact tail_any (typeIs_str s z t) slot_str_getitem.lookup (getItem_str (c:=c) (by
  have e1:decide (i < -(2 ^ 63:Int))=false:=decide_eq_false (by omega)
  have e2:decide (i ≥ 2 ^ 63)=false:=decide_eq_false (by omega)
  rw [e1,e2,Bool.or_false]) (by rw [h1]; simpa using h2) ⟨.str ⟨#[c]⟩,H,I.tok _,⟨_,rfl⟩,q⟩) g
def rIx (K:sx):R2:=λx y H Q=>N3 K x y H Q\/N1 K x y H Q\/N2 x y H Q
def Fs:iL X (rIx X.K):=BL.or (Fp.or Fq)
def V4 (ah:List Value) (n j:Nat) (u:Value):t_ (·.setIfInBounds j u) { cls:=.type "list",data:=.seq ah.toArray n }={ cls:=.type "list",data:=.seq (ah.set j u).toArray n }:=by
 simp [t_]
def Inv.lst (I:Inv X pins σ H s) (h:H p=some (.lst xs)):
  ∃ (ah:List Value) (n:Nat),yx xs ah/\s.heap.get? p=some { cls:=.type "list",data:=.seq ah.toArray n }/\xs.length<=sizeLine:=by
 obtain ⟨z,ah,n,r,e⟩:=I.hok p _ h
 exact ⟨ah,n,r,e,z⟩
def Inv.lstUpd  {σ:St} {ah its':List Value} (I:Inv X pins σ H s) (h:H p=some (.lst xs))
  (g:s.heap.get? p=some { cls:=.type "list",data:=.seq ah.toArray n }) (d:f { cls:=.type "list",data:=.seq ah.toArray n }={ cls:=.type "list",data:=.seq its'.toArray c }) (r:yx ys its') (hz:ys.length<=sizeLine) (t) :
  Inv X pins σ (upd H p (.lst ys)) { s with heap:=s.heap.update p f,toks:=t }:=by
 have e:(s.heap.update p f).get? p=some { cls:=.type "list",data:=.seq its'.toArray c }:=by
  rw [tw f g (by rw [d] <;> rfl),d]
 refine I.write (x:=p) (e:=p) (by rw [h]; trivial) (.inl rfl) (λb u i q=>(sM _ _ (tZ i)).trans q) ⟨_,e⟩ ?_
 exact ⟨hz,its',c,r,e⟩
def MY:V->V->V->Hp->(Hp->Prop)->Prop:=λo i v H Q=>∃ p xs k j,o=.ref p/\i=.int k/\H p=some (.lst xs)/\dI xs.length k=some j/\Q (upd H p (.lst (xs.set j v)))
def JR:Pf X MY:=by
 intro pins s σ H o i v A B u Q I x y w h
 obtain ⟨p,xs,k,j,rfl,rfl,f,z,q⟩:=h
 cases x
 obtain ⟨t,rfl⟩:=y
 obtain ⟨ah,n,r,c,hz⟩:=I.lst f
 obtain ⟨h1,h2,l,g⟩:=QE z
 have d:=r.length
 have C:=Zu
 have m:Inv X pins σ (upd H p (.lst (xs.set j v))) { s with heap:=s.heap.update p (t_ (·.setIfInBounds j u)) } :=
  I.lstUpd f c (V4 ah n j u) (r.set w j) (by rw [List.length_set]; exact hz) s.toks
 by_cases h0:0<=k
 .have e:k.toNat=j:=by
   rw [seqIndex_of h0 g] at h1
   exact g2j.inj h1
  exact PySem.W.ki_setAt c h0 (by omega) (by rw [cx,<- d]; exact g) (by rw [e]; exact ⟨_,m,q⟩)
 .have e:(k+(ah.toArray.size:Int)).toNat=j:=by
   rw [seqIndex_neg (by omega) l] at h1
   rw [cx,<- d]
   exact g2j.inj h1
  exact PySem.W.ki_setBack c (by omega) (by rw [cx,<- d]; exact l) (by omega) (by rw [e]; exact ⟨_,m,q⟩)
def YX (lo hi) (n:Nat):(A8 lo hi none n).1=((HT.sIx n 0 lo:Nat):Int)/\(A8 lo hi none n).2.1=((HT.sIx n n hi:Nat):Int)/\(A8 lo hi none n).2.2=1:=by
 refine ⟨?_,?_,rfl⟩
 .cases lo with
  | none=>simp [A8,HT.sIx]
  | some i =>
   simp only [A8,HT.sIx,Option.getD_none,show (1:Int) > 0 by decide,if_true]
   by_cases h:i < 0
   .simp only [h,if_true] <;> omega
   .simp only [h,if_false] <;> omega
 .cases hi with
  | none=>simp [A8,HT.sIx]
  | some i =>
   simp only [A8,HT.sIx,Option.getD_none,show (1:Int) > 0 by decide,if_true]
   by_cases h:i < 0
   .simp only [h,if_true] <;> omega
   .simp only [h,if_false] <;> omega
def ZY (ah:List Value) (lo hi:Option Int):slicePick ah.toArray lo hi none=((ah.drop (HT.sIx ah.length 0 lo)).take (HT.sIx ah.length ah.length hi - HT.sIx ah.length 0 lo)).toArray:=by
 obtain ⟨h1,h2,c⟩:=YX lo hi ah.toArray.size
 unfold slicePick
 rw [h1,h2,c]
 simp only [sliceRange_one,pick_run,cx] <;> rfl
def PB (K:sx):V->Option Int->Option Int->Hp->VK->Prop:=λx lo hi H Q=>∃ a xs,x=.ref a/\aZ K H a xs/\∀ p,H p=none->Q (.ref p) (upd H p (.lst (Q9 xs lo hi)))
def Hw:mB X (PB X.K):=by
 intro pins s σ H x v j i lo hi sl Q I d g pl e h
 obtain ⟨a,xs,rfl,f,q⟩:=h
 cases d
 obtain ⟨ah,r,ht,hz⟩:=I.list f
 have c:=r.length
 refine ⟨"list",_,slot_list_getitem.lookup,ht.isList.typeIs,?_⟩
 refine wpAny_getItem_list_slice ht.isList g pl e .none (by simp) ?_ (by rw [cx] <;> omega)
 rw [ZY,<- c]
 refine ⟨.ref s.heap.objs.size,_,I.laid (t':=s.toks) (o:=.lst (Q9 xs lo hi)) (λb ob q=>mo _ q) (aU _) ?_,rfl,q _ (I.hok.fresh (aU _))⟩
 exact ⟨gq (kO xs lo hi) hz,_,0,(r.drop (HT.sIx xs.length 0 lo)).take (HT.sIx xs.length xs.length hi - HT.sIx xs.length 0 lo),sF _ rfl⟩
def XM:xm X (.builtin "len") (λxs H Q=>∃ p ys,xs=[.ref p]/\(aZ X.K H p ys\/bJ X.K H p ys)/\Q (.int ys.length) H):=by
 intro pins s σ H xs us Q I r h
 obtain ⟨p,ys,rfl,d,q⟩:=h
 obtain ⟨u,rfl,f⟩:=ur r
 cases f
 have g:=Zu
 rcases d with d | d
 .obtain ⟨ah,e,pl,hz⟩:=I.list d
  have c:=e.length
  exact Calls.call_len_list pl.isList (by simp only [cx] <;> omega) ⟨.int ys.length,H,I.tok _,⟨s.toks+1,by rw [cx,c]⟩,q⟩
 .obtain ⟨ah,e,pl,hz⟩:=I.tuple d
  have c:=e.length
  exact len_tuple pl (by simp only [cx] <;> omega) ⟨.int ys.length,H,I.tok _,⟨s.toks+1,by rw [cx,c]⟩,q⟩
def XJ:xm X (.builtin "len") (λxs H Q=>∃ z,xs=[.str z]/\z.length<=sizeLine/\Q (.int z.length) H):=by
 intro pins s σ H xs us Q I r h
 obtain ⟨z,rfl,hz,q⟩:=h
 obtain ⟨u,rfl,t,rfl⟩:=ur r
 have c:=Zu
 exact len_str (by omega) ⟨.int z.length,H,I.tok _,⟨_,rfl⟩,q⟩
def xm.or (h:xm X f r) (h':xm X f c):xm X f (λxs H Q=>r xs H Q\/c xs H Q):=by
 intro pins s σ H xs us Q I rs q
 rcases q with q | q
 .exact h pins s σ H xs us Q I rs q
 .exact h' pins s σ H xs us Q I rs q
def XI:xm X (.type "list") (λxs H Q=>∃ p ys,xs=[.ref p]/\(aZ X.K H p ys\/bJ X.K H p ys)/\∀ l,H l=none->Q (.ref l) (upd H l (.lst ys))):=by
 intro pins s σ H xs us Q I r h
 obtain ⟨p,ys,rfl,f,q⟩:=h
 obtain ⟨u,rfl,m⟩:=ur r
 cases m
 have fin:∀ (ah:List Value),yx ys ah->ys.length<=sizeLine->∀ (h':Heap) (d:Nat),(∀ b o',s.heap.get? b=some o'->h'.get? b=some o') →
   h'.get? s.heap.objs.size=some { cls:=.type "list",dict:=none,data:=.seq ah.toArray d,slots := #[] }->EP X pins σ Q (.ref s.heap.objs.size) { s with heap:=h' }:=λah c hz h' d kp e =>
  ⟨.ref s.heap.objs.size,_,I.laid (t':=s.toks) kp (aU _) (show y7 X.prog X.w _ h' _ (.lst ys) from ⟨hz,ah,d,c,e⟩),rfl,q _ (I.hok.fresh (aU _))⟩
 rcases f with f | f
 .obtain ⟨ah,c,pl,hz⟩:=I.list f
  have g:=c.length
  obtain ⟨o,i,j,n,hd⟩:=pl.isList
  exact call_list_seq p (.inl rfl) i j hd (λh' d kp e=>fin ah c hz h' d kp e) (by simp only [cx] <;> omega)
 .obtain ⟨ah,c,pl,hz⟩:=I.tuple f
  have g:=c.length
  obtain ⟨o,i,j,n,hd⟩:=pl
  exact call_list_seq p (.inr rfl) i j hd (λh' d kp e=>fin ah c hz h' d kp e) (by simp only [cx] <;> omega)
def vx:xm X (.type "tuple") (λxs H Q=>∃ p ys,xs=[.ref p]/\((aZ X.K H p ys/\∀ l,H l=none->Q (.ref l) (upd H l (.tup ys)))\/(bJ X.K H p ys/\Q (.ref p) H))):=by
 intro pins s σ H xs us Q I r h
 obtain ⟨p,ys,rfl,h⟩:=h
 obtain ⟨u,rfl,i⟩:=ur r
 cases i
 rcases h with ⟨d,q⟩ | ⟨d,q⟩
 .obtain ⟨ah,c,pl,hz⟩:=I.list d
  have f:=c.length
  refine call_tuple_list pl.isList (λh' kp=>?_) (by simp only [cx] <;> omega)
  have g:Inv X pins σ H { s with heap:=h' }:=I.kept (t':=s.toks) kp
  have j:Inv X pins σ (upd H h'.objs.size (.tup ys)) { s with heap:=h'.push { cls:=.type "tuple",data:=.seq ah.toArray } } :=
   g.laid (t':=s.toks) (λb o e=>mo _ e) (aU _) (show y7 X.prog X.w _ _ _ (.tup ys) from ⟨hz,ah,c,IsTup.new _ _⟩)
  exact ⟨.ref h'.objs.size,_,j,rfl,q _ (g.hok.fresh (aU _))⟩
 .obtain ⟨ah,c,pl,hz⟩:=I.tuple d
  exact call_tuple_same pl ⟨.ref p,H,I,rfl,q⟩
def tyV (K:sx) (T:String) (x:V) (H:Hp):Prop:=match x with
 | .str _=>T="str"
 | .int _=>T="int"
 | .ref p=>(T="list"/\∃ xs,aZ K H p xs)\/(T="tuple"/\∃ o,K.lookup p=some o/\o.cls=.type "tuple"/\o.dict=none) ∨
   (T="dict"/\((∃ ar,H p=some (.dK ar))\/∃ ar,H p=some (.dT ar)))\/(T="set"/\∃ S n,H p=some (.set S n))
 | _=>False
def Gr (I:Inv X pins σ H s) (r:yJ x v) (ty:tyV X.K T x H):
  s.TypeIs v T/\∀ a,v=.ref a->∃ ob,s.heap.get? a=some ob/\ob.dict=none:=by
 cases x with
 | str z =>
  obtain ⟨t,rfl⟩:=r
  cases (show T="str" from ty)
  exact ⟨typeIs_str s z t,λ_ e=>nomatch e⟩
 | int i =>
  obtain ⟨t,rfl⟩:=r
  cases (show T="int" from ty)
  exact ⟨typeIs_int s i t,λ_ e=>nomatch e⟩
 | ref p =>
  cases r
  rcases ty with ⟨rfl,xs,f⟩ | ⟨rfl,o,d,g,hd⟩ | ⟨rfl,d⟩ | ⟨rfl,S,n,d⟩
  .obtain ⟨ah,_,pl,_⟩:=I.list f
   refine ⟨pl.isList.typeIs,λa e=>?_⟩
   cases e
   obtain ⟨o,n,e,c,hd,_⟩:=pl
   exact ⟨o,e,hd⟩
  .refine ⟨⟨o,I.kIn p o d,g⟩,λa e=>?_⟩
   cases e
   exact ⟨o,I.kIn _ o d,hd⟩
  .have z:∃ o,s.heap.get? p=some o/\o.ExactDict:=by
    rcases d with ⟨ar,d⟩ | ⟨ar,d⟩
    .obtain ⟨_,_,_,_,o,_,_,e,ex,_⟩:=I.hok p _ d
     exact ⟨o,e,ex⟩
    .obtain ⟨_,_,_,_,o,_,_,e,ex,_⟩:=I.hok p _ d
     exact ⟨o,e,ex⟩
   obtain ⟨o,e,ex⟩:=z
   refine ⟨⟨o,e,ex.1⟩,λa e2=>?_⟩
   cases e2
   exact ⟨o,e,ex.2.1⟩
  .obtain ⟨o,_,_,_,e,ex,_⟩:=I.hok p _ d
   refine ⟨⟨o,e,ex.1⟩,λa e2=>?_⟩
   cases e2
   exact ⟨o,e,ex.2.1⟩
 | _=>exact tu ty
def Pr (K:sx) (T:String) (r:V->List V->Hp->VK->Prop) (to:TE):TE:=λσ H Q=>to σ H λx H1=>tyV K T x H1/\r x [] H1 Q
def tBM (K:sx) (T:String) (r:V->List V->Hp->VK->Prop) (to:TE) (t:TA):TE:=λσ H Q=>to σ H λx H1=>tyV K T x H1/\t σ H1 λxs H2=>r x xs H2 Q
variable {o e:Expr} {es:List Expr} {to:TE} {t:TA} {name:Str} {apos aA:Pos} {T id:String} {r:V->List V->Hp->VK->Prop}
def Dm (l:PlainAttrs T) (slot:Slot T name id) (f:typeOf (.builtin id)=pure (.type "method_descriptor")) (n:MtR X id r) (m:PE X o to)
  (d:Ad o name X.env (eval o X.env)=eval o X.env:=by rfl) (c:(apos.endLine==aA.line)=true:=by rfl):PE X (.Call (.Attribute o name apos) [] [] aA) (Pr X.K T r to):=by
 intro pins s σ H Q I h
 refine wpAny_Call_method0_late d c (thn (m pins s σ H _ I h) λv s1 ⟨x,H1,i,g,ty,j⟩=>?_)
 obtain ⟨h1,h2⟩:=Gr i g ty
 exact ⟨T,id,l,slot,f,h1,h2,AR rfl (PySem.evalArgs_none (n pins s1 σ H1 x [] v [] Q i g .nil j))⟩
def U8 (q:PlainAttrs T) (slot:Slot T name id) (g:typeOf (.builtin id)=pure (.type "method_descriptor")) (y:MtR X id r) (w:PE X o to) (z:PA X (e :: es) t)
  (d:Ad o name X.env (eval o X.env)=eval o X.env:=by rfl)
  (f:((tV aA (sC (e :: es) X.env)).all (λx => !x.1)&&(backToKw aA (A9 [] X.env)).all (λx=>x.1.isSome)
   && decide ((e :: es).length+([]:List A7).length+(if ([]:List A7).isEmpty then 0 else 1) < 30))=true:=by rfl)
  (c:(apos.endLine==aA.line)=true:=by rfl) (u:sC (e :: es) X.env=(false,eval e X.env) :: sC es X.env:=by rfl) (A:(tV aA (sC es X.env)).any (·.1)=false:=by rfl) :
  PE X (.Call (.Attribute o name apos) (e :: es) [] aA) (tBM X.K T r to t):=by
 intro pins s σ H Q I h
 refine wpAny_Call_method_late d f c rfl (thn (w pins s σ H _ I h) λv s1 ⟨x,H1,l,i,ty,p⟩=>?_)
 obtain ⟨h1,h2⟩:=Gr l i ty
 refine ⟨T,id,q,slot,g,h1,h2,?_⟩
 have j:=z aA pins s1 σ H1 _ l p
 rw [u] at j ⊢
 refine AR (by show (false||(tV aA (sC es X.env)).any (·.1))=false; rw [A] <;> rfl) (Calls.evalArgs_plain ?_)
 exact thn j λus s2 ⟨vs,H2,B,m,n⟩=>y pins s2 σ H2 x vs v us Q B i m n
end
def MtM (X:Cx) (id:String) (r:V->List V->Hp->VK->Prop):Prop :=
 ∀ (pins:List (Addr×Obj)) (s:Shared) (σ:St) (H:Hp) (x:V) (xs:List V) (v:Value) (us:List Value) (Q:VK),Inv X pins σ H s->yJ x v->yx xs us->r x xs H Q →
  sG (sL X.prog X.w) X.A (call (.builtin id) (v :: us)) (EP X pins σ Q) X.xe s
def yx.one:∀ {x:V} {us:List Value},yx [x] us->∃ u,us=[u]/\yJ x u
 | _,_,.cons r .nil=>⟨_,rfl,r⟩
def yx.zero:∀ {us:List Value},yx [] us->us=[]
 | _,.nil=>rfl
theorem yx.rep (h:yx xs us):∀ k,yx (aL k xs).flatten (aL k us).flatten
 | 0=>.nil
 | k+1=>by
  rw [mr,mr,nu,nu]
  exact yx.append h (yx.rep h k)
theorem Xt (ah):∀ (k) (a:List Value),
  List.foldl (λc b=>c++b) a.toArray (aL k ah.toArray)=(a++(aL k ah).flatten).toArray
 | 0,a=>by simp
 | k+1,a=>by
  have e:a.toArray++ah.toArray=(a++ah).toArray:=by simp
  have e2:(a++ah)++(aL k ah).flatten=a++(aL (k+1) ah).flatten:=by
   rw [mr,nu,mn]
  rw [<- e2,<- Xt ah k (a++ah),<- e,mr,mm]
section
variable {X:Cx} {pins:List (Addr×Obj)} {σ:St} {H:Hp} {s:Shared} {l b:Addr} {xs ys zs:List V}
def Inv.lset {ah its':List Value} (I:Inv X pins σ H s) (h:H l=some (.lst xs))
  (e:s.heap.get? l=some { cls:=.type "list",data:=.seq ah.toArray n }) (d:f ah.toArray=its'.toArray) (a:yx ys its') (hz:ys.length<=sizeLine) :
  Inv X pins σ (upd H l (.lst ys)) { s with heap:=s.heap.update l (t_ f),toks:=t' }:=by
 have q:=PySem.IsL.update e f
 rw [d] at q
 refine I.write (x:=l) (e:=l) (by rw [h]; exact trivial) (.inl rfl) (λi u g c=>(sM s.heap (t_ f) (tZ g)).trans c) ⟨_,q⟩ ?_
 exact ⟨hz,its',_,a,q⟩
def Inv.lnew (I:Inv X pins σ H s) (a:yx ys ah) (hz:ys.length<=sizeLine) :
  Inv X pins σ (upd H s.heap.objs.size (.lst ys)) { s with heap:=s.heap.push { cls:=.type "list",data:=.seq ah.toArray },toks:=t' } :=
 I.laid (λ_ _ q=>mo _ q) (aU _) ⟨hz,ah,0,a,sF _ rfl⟩
def Inv.fresh (I:Inv X pins σ H s):H s.heap.objs.size=none:=I.hok.fresh (aU _)
def Inv.lstM (I:Inv X pins σ H s) (a:H l=some (.lst xs)):xs.length<=sizeLine/\∃ (ah:List Value) (n:Nat),yx xs ah/\xs.length=ah.length/\s.heap.get? l=some { cls:=.type "list",data:=.seq ah.toArray n }:=by
 obtain ⟨z,ah,n,r,e⟩:=I.hok l _ a
 exact ⟨z,ah,n,r,r.length,e⟩
def Kt (h:n<=sizeLine):Ag n=false:=by
 unfold Ag
 exact decide_eq_false (by omega)
end
section
variable {X:Cx}
def HM:V->List V->Hp->VK->Prop:=λx vs H Q=>∃ l xs y,x=.ref l/\vs=[y]/\H l=some (.lst xs)/\xs.length < sizeLine/\Q .non (upd H l (.lst (xs++[y])))
def qc:MtM X "list.append" HM:=by
 intro pins s σ H x vs v us Q I b c h
 obtain ⟨l,xs,y,rfl,rfl,a,hz,q⟩:=h
 cases b
 obtain ⟨u,rfl,d⟩:=c.one
 obtain ⟨z,ah,n,r,f,e⟩:=I.lstM a
 refine call_meets F.slot_list_append ⟨_,e,rfl⟩ F.entry_list_append (F.args_list_append_2 _ _) (PySem.list_append l ah.toArray n u (by rw [cx]; omega)) ⟨e,?_⟩
 refine ⟨.non,_,I.lset (its':=ah++[u]) a e (by simp) (r.append (.cons d .nil)) ?_,rfl,q⟩
 rw [bX,iJ]
 omega
def Dg:V->List V->Hp->VK->Prop:=λx vs H Q=>∃ l xs,x=.ref l/\vs=[]/\H l=some (.lst xs)/\Q .non (upd H l (.lst []))
def Kw:MtM X "list.clear" Dg:=by
 intro pins s σ H x vs v us Q I c d h
 obtain ⟨l,xs,rfl,rfl,b,q⟩:=h
 cases c
 have a:=d.zero
 subst a
 obtain ⟨z,ah,n,r,f,e⟩:=I.lstM b
 refine call_meets F.slot_list_clear ⟨_,e,rfl⟩ F.entry_list_clear (F.args_list_clear_1 _) (AutoSeq1.list_clear_list_0 l ah.toArray n (by rw [cx]; omega)) ⟨e,?_⟩
 exact ⟨.non,_,I.lset (its':=[]) (ys:=[]) b e rfl .nil (fo _),rfl,q⟩
def BB (xs:List α) (k:Nat):(aL k xs).flatten.length=k * xs.length:=by
 induction k with
 | zero=>simp
 | succ k a=>rw [mr,nu,bX,a,Nat.succ_mul,Nat.add_comm]
end
section
variable {prog:sH} {w:sU} {A:Around} {E:Value->Shared->Prop} {s:Shared}
end
section
variable {X:Cx}
end
section
variable {κ:Type} [DecidableEq κ]
def VN (ar:List (κ×V)) (k:κ):Option V:=(ar.find? λa=>decide (a.1=k)).map (·.2)
def GC (ar:List (κ×V)) (k:κ) (v:V):List (κ×V) :=
 if (ar.any λa=>decide (a.1=k))=true then ar.map (λa=>if a.1=k then (a.1,v) else a) else ar++[(k,v)]
def ud {p:κ×V} {k:κ} (e:p.1=k):VN (p :: r) k=some p.2:=by simp [VN,oW,e]
def ue {p:κ×V} {k:κ} (e:¬ p.1=k):VN (p :: r) k=VN r k:=by simp [VN,oW,e]
def Wo (ar) (k:κ) (v:V):(GC ar k v).length<=ar.length+1:=by
 unfold GC
 split
 .rw [aC]; omega
 .rw [bX,aM,aN]; omega
def JC.isSome_eq (r:JC o u):o.isSome=u.isSome:=by
 cases o with
 | none=>cases u with
  | none=>rfl
  | some _=>exact (show False from r).elim
 | some _=>cases u with
  | none=>exact (show False from r).elim
  | some _=>rfl
def KV.val (r:KV ar vs) (k:κ):JC (VN ar k) (AK vs k):=by
 unfold KV at r
 induction r with
 | nil=>exact AF
 | @cons p q ps a h t d =>
  obtain ⟨h1,h2⟩:=h
  by_cases e:p.1=k
  .have c:q.1=k:=h1.symm.trans e
   have b:AK (q :: a) k=some q.2:=by simp [AK,oW,c]
   rw [ud e,b]; exact h2
  .have c:¬ q.1=k:=λz=>e (h1.trans z)
   have b:AK (q :: a) k=AK a k:=by simp [AK,oW,c]
   rw [ue e,b]; exact d
def KV.any (r:KV ar vs) (k:κ):(ar.any λa=>decide (a.1=k))=vs.any λa=>decide (a.1=k):=by
 unfold KV at r
 induction r with
 | nil=>rfl
 | cons h t b=>rw [List.any_cons,List.any_cons,b,h.1]
def KV.repl (r:KV ar vs) (k:κ) (b:yJ y u) :
  KV (ar.map λa=>if a.1=k then (a.1,y) else a) (vs.map λa=>if a.1=k then (a.1,u) else a):=by
 unfold KV at r ⊢
 induction r with
 | nil=>exact .nil
 | @cons p q ps d h t c =>
  rw [aH,aH]
  refine .cons ?_ c
  obtain ⟨h1,h2⟩:=h
  by_cases e:p.1=k
  .rw [if_pos e,if_pos (h1.symm.trans e)]; exact ⟨h1,b⟩
  .rw [if_neg e,if_neg (λz=>e (h1.trans z))]; exact ⟨h1,h2⟩
def KV.put (r:KV ar vs) (k:κ) (a:yJ y u):KV (GC ar k y) (stored vs k u):=by
 unfold GC stored
 rw [r.any k]
 by_cases e:(vs.any λb=>decide (b.1=k))=true
 .rw [if_pos e,if_pos e]; exact r.repl k a
 .rw [if_neg e,if_neg e]; exact Paired.snoc r ⟨rfl,a⟩
end
def KQ (r:yJ (kV k) u):(xq P w).is k u=true:=by
 cases k with
 | inl i=>obtain ⟨t,e⟩:=(show ∃ t,u=Value.int i t from r); subst e; exact Wk P w i t
 | inr x=>obtain ⟨t,e⟩:=(show ∃ t,u=Value.str x t from r); subst e; exact Wj P w x t
theorem Xq   : ∀ {ks:List Key} {us:List Value},yx (ks.map kV) us->ItemsAre (xq P w) ks us
 | [],_,r=>by rw [bq] at r; cases r; exact .nil
 | k :: ks,_,r=>by
  rw [aH] at r
  cases r with
  | cons h t=>exact .cons (KQ h) (Xq t)
abbrev KT (H:Hp):List (List Key×V)->List (List Key×Addr×Value)->Prop:=Paired λp q=>p.1=q.1/\H q.2.1=some (.tup (p.1.map kV))/\yJ p.2 q.2.2
def KT.val (r:KT H ar xs) (k):JC (VN ar k) ((atKey xs k).map (·.2)):=by
 induction r with
 | nil=>exact AF
 | @cons p q ps a h t d =>
  obtain ⟨h1,_,h2⟩:=h
  by_cases e:p.1=k
  .have c:q.1=k:=h1.symm.trans e
   have b:atKey (q :: a) k=some q.2:=by simp [atKey,oW,c]
   rw [ud e,b]; exact h2
  .have c:¬ q.1=k:=λz=>e (h1.trans z)
   have b:atKey (q :: a) k=atKey a k:=by simp [atKey,oW,c]
   rw [ue e,b]; exact d
section
variable {P:sH} {w:sU} {H:Hp} {h:Heap} {a:Addr}
def Dd (ok:cj P w H h) (e:Rd H a u):y7 P w H h a u:=e.ok ok
def K8 (ok:cj P w H h) (e:Rd H a (.dK ar)):ar.length<=sizeLine/\(a==x_)=false/\∃ vs,KV ar vs/\h.DictOf (xq P w) a vs :=
 show y7 P w H h a (.dK ar) from Dd ok e
def Nx (ok:cj P w H h) (e:H a=some (.dK ar)):ar.length<=sizeLine/\(a==x_)=false/\∃ vs,KV ar vs/\h.DictOf (xq P w) a vs:=K8 ok (.inl e)
def Qx (ok:cj P w H h) (e:H a=some (.tup (ks.map kV))):(A3 (xq P w)).is h ks a:=by
 obtain ⟨_,ah,r,o,h1,h2,n,b⟩:=(show y7 P w H h a (.tup (ks.map kV)) from ok a _ e)
 exact ⟨o,ah.toArray,n,h1,h2,b,by simpa using Xq r⟩
def B5 (ok:cj P w H h) (e:Rd H a (.dT ar)):ar.length<=sizeLine/\(a==x_)=false ∧
  ∃ xs,KT H ar xs/\h.DictOfH (A3 (xq P w)) a xs:=by
 obtain ⟨z,y,xs,r,o,es,ep,h1,h2,i,g,f⟩:=(show y7 P w H h a (.dT ar) from Dd ok e)
 refine ⟨z,y,xs,r,o,es,ep,h1,h2,i,g,λx b=>?_,f⟩
 have all:∀ {l:List (List Key×V)} {m:List (List Key×Addr×Value)},KT H l m->∀ x∈m,(A3 (xq P w)).is h x.1 x.2.1:=by
  intro l m q
  induction q with
  | nil=>intro x b; exact nomatch b
  | @cons p q ps j c t d =>
   intro x b
   rcases aQ.mp b with e | b
   .subst e
    exact Qx ok (by rw [<- c.1]; exact c.2.1)
   .exact d x b
 exact all r x b
end
def JD (H:Hp) (a:Addr) (y:V) (r:Option V):Prop :=
 (∃ ar k,Rd H a (.dK ar)/\y=kV k/\r=VN ar k)\/∃ ar k b,Rd H a (.dT ar)/\y=.ref b/\H b=some (.tup (k.map kV))/\r=VN ar k
def JD.k {H:Hp} {a:Addr} {ar:List (Key×V)} {k:Key} (e:H a=some (.dK ar)):JD H a (kV k) (VN ar k):=.inl ⟨ar,k,.inl e,rfl,rfl⟩
section
variable {X:Cx} {pins:List (Addr×Obj)} {σ:St} {H:Hp} {s:Shared} {a:Addr} {y v:V} {u r:Value} {o:Option V} {A:Around} {E:Value->Shared->Prop}
def Inv.big (I:Inv X pins σ H s):x_ < s.heap.objs.size:=by
 have h:sI < s.heap.objs.size:=(I.mod.glob.keeps I.bk).lt
 exact Nat.lt_trans (by decide) h
def Q6 (n:A.units+1 < A0) (I:Inv X pins σ H s) (g:JD H a y (some v)) (m:yJ y u) (h:∀ c s',Inv X pins σ H s'->yJ v c->Q c s'):
  sG (sL X.prog X.w) A (getItem (.ref a) u) Q E s:=by
 rcases g with ⟨ar,k,e,j,l⟩ | ⟨ar,k,b,e,j,t,l⟩
 .subst j
  obtain ⟨z,hd,vs,rel,dd⟩:=K8 I.hok e
  obtain ⟨c,f,d⟩:=EH (v:=v) (o:=AK vs k) (by rw [l]; exact rel.val k)
  exact wpAny_getItem_of (KQ m) dd.mapOf f (h c _ (I.tok _) d)
 .subst j
  cases (show u=sT b from m)
  obtain ⟨z,hd,xs,rel,dd⟩:=B5 I.hok e
  obtain ⟨c,f,d⟩:=EH (v:=v) (o:=(atKey xs k).map (·.2)) (by rw [l]; exact rel.val k)
  obtain ⟨p,q,i⟩:=fb.mp f
  refine wpAny_getItem_heap (tupleKind_room_in1 n) (Qx I.hok t) dd q ?_
  rw [i]
  exact h c _ (I.tok _) d
def P1 (f:A.units+1 < A0) (I:Inv X pins σ H s) (g:JD H a y o) (d:yJ y u) (h:∀ s',Inv X pins σ H s'->Q (.bool o.isSome) s'):
  sG (sL X.prog X.w) A (z_ .In u (.ref a)) Q E s:=by
 rcases g with ⟨ar,k,e,c,l⟩ | ⟨ar,k,b,e,c,i,l⟩
 .subst c
  obtain ⟨z,hd,vs,rel,dd⟩:=K8 I.hok e
  refine wpAny_in_of (KQ d) hd dd.mapOf ?_
  rw [<- (rel.val k).isSome_eq,<- l]
  exact h _ (I.tok _)
 .subst c
  cases (show u=sT b from d)
  obtain ⟨z,hd,xs,rel,dd⟩:=B5 I.hok e
  refine wpAny_in_heap (tupleKind_room_in1 f) (Qx I.hok i) hd dd ?_
  have q:=(rel.val k).isSome_eq
  rw [Option.isSome_map] at q
  rw [<- q,<- l]
  exact h _ (I.tok _)
def Cc (I:Inv X pins σ H s) (c:o4 (H a)) (d:Heap.SameBut a s.heap h') (f:∃ q,h'.get? a=some q) (new:y7 X.prog X.w (upd H a ob) h' a ob) :
  Inv X pins σ (upd H a ob) { s with heap:=h',toks:=t' } :=
 I.write (x:=a) (e:=a) c (.inl rfl) (λb q g z=>(d.2 b g).trans z) f new
def FV (z:ar.length<=sizeLine) (hd:(a==x_)=false) (rel:KV ar vs) (dd:h'.DictOf (xq P w) a vs) :
  y7 P w H' h' a (.dK ar):=⟨z,hd,vs,rel,dd⟩
end
section
variable {X:Cx} {pins:List (Addr×Obj)} {σ:St} {H:Hp} {s:Shared} {a:Addr} {ar:List (Key×V)} {k:Key} {u:Value} {A:Around} {E:Value->Shared->Prop}
end
def NL (i:Expr):Prop:=∀ a b,subscripted i false a b=operate [a,b] (getItem a b)
def UF         {T id:String}
  (g:typeLookup (.type T) "__getitem__"=pure (some (.builtin id))) (f:NL slice)
  (h:sG (sL prog w) A (eval value env) (λo a=>sG (sL prog w) A (eval slice env) (λi b=>b.TypeIs o T/\sG (sL prog w) A (getItem o i) Q E b) E a) E s) :
  sG (sL prog w) A (eval (.Subscript value slice pos) env) Q E s:=by
 refine Subscript_ (sN h (λo a h₁=>sN h₁ (λi b c=>?_) λ_ _ x=>x) λ_ _ x=>x)
 obtain ⟨d,c⟩:=c
 unfold subscriptTail
 refine ls ?_
 rw [getitemInPython_of_ne d.not_modules]
 refine ls (wpAny_specialOf d g ?_)
 have fin:sG (sL prog w) A (subscripted slice false o i) (λr e=>sG (sL prog w) A (letTemporaryGo value o r >>= λ_=>pure r) Q E e) E b:=by
  rw [f o i]
  exact wpAny_operating (sN c (λr e j=>ls (wpAny_letTemporaryGo (su j))) λ_ _ x=>x)
 first
  | exact su (ls fin)
  | exact ls (su (ls fin))
  | exact ls fin
def WJ (I:Inv X pins σ H s) (g:JD H a y o):s.TypeIs (.ref a) "dict":=by
 rcases g with ⟨ar,k,e,_,_⟩ | ⟨ar,k,b,e,_,_,_⟩
 .obtain ⟨_,_,vs,_,dd⟩:=K8 I.hok e
  exact dd.typeIs
 .obtain ⟨_,_,xs,_,dd⟩:=B5 I.hok e
  exact dd.typeIs
def MJ (td ty:TE):TE:=λσ H Q=>td σ H λx H1=>ty σ H1 λy H2=>∃ a v,x=.ref a/\JD H2 a y (some v)/\Q v H2
def Pq (ty td:TE):TE:=λσ H Q=>ty σ H λy H1=>td σ H1 λx H2=>∃ a o,x=.ref a/\JD H2 a y o/\Q (.bl o.isSome) H2
section
variable {X:Cx} {o i e value:Expr} {pos pos' eI:Pos} {td ty tv:TE}
def Bc (m:X.A.units+1 < A0) (p:PE X o td) (hi:PE X i ty) (n:NL i):PE X (.Subscript o i pos) (MJ td ty):=by
 intro pins s σ H Q I h
 refine UF PySem.F.slot_dict_getitem.lookup n (thn (p pins s σ H _ I h) λu s1 ⟨x,H1,r,d,j⟩=>thn (hi pins s1 σ H1 _ r j) λz s2 ⟨y,H2,b,c,a,v,ex,g,f⟩=>?_)
 subst ex
 obtain rfl:u=sT a:=d
 exact ⟨WJ b g,Q6 m b g c λt w q l=>⟨v,H2,q,l,f⟩⟩
def Do (l:X.A.units+1 < A0) (hi:PE X i ty) (m:PE X o td):PC X .In i o (Pq ty td):=by
 intro pins s σ H Q I h
 refine thn (hi pins s σ H _ I h) λt s1 ⟨y,H1,q,b,f⟩=>thn (m pins s1 σ H1 _ q f) λu s2 ⟨x,H2,p,c,a,j,ex,g,d⟩=>?_
 subst ex
 obtain rfl:u=sT a:=c
 exact P1 l p g b λr n=>⟨.bl j.isSome,H2,n,rfl,d⟩
end
def K9 (h:Heap) (a:x_ < h.objs.size):y7 P w H (h.push { cls:=.type "dict",data:=.dict #[] }) h.objs.size (.dK []) :=
 ⟨fo _,beq_eq_false_iff_ne.mpr (tZ (cb a)),[],.nil,Heap.DictOf.new h⟩
section
variable {X:Cx} {pos:Pos}
end
def UE:List (TE×TE)->St->Hp->(List (V×V)->Hp->Prop)->Prop
 | [],_,H,Q=>Q [] H
 | (tk,tv) :: r,σ,H,Q=>tk σ H λx H1=>tv σ H1 λy H2=>UE r σ H2 λps a=>Q ((x,y) :: ps) a
abbrev VV:List (V×V)->List (Value×Value)->Prop:=Paired λp q=>yJ p.1 q.1/\yJ p.2 q.2
def PPs (X:Cx) (pos:Pos) (keys:List (Option Expr)) (values:List Expr) (a:List (TE×TE)):Prop :=
 ∀ (pins:List (Addr×Obj)) (s:Shared) (σ:St) (H:Hp) (Q:List (V×V)->Hp->Prop),Inv X pins σ H s->UE a σ H Q →
  sG (sL X.prog X.w) X.A (evalPairs (pairTrees keys values X.env pos)) (λvs s'=>∃ ps H',Inv X pins σ H' s'/\VV ps vs/\Q ps H') X.xe s
def HV   : PPs X pos [] [] []:=λpins s σ H Q I h=>pairTrees_nil_walk ⟨[],H,I,.nil,h⟩
def jz (j:PE X k tk) (g:PE X v tv) (i:PPs X pos ks vs f) :
  PPs X pos (some k :: ks) (v :: vs) ((tk,tv) :: f):=λpins s σ H Q I h =>
 pairTrees_cons_walk (thn (j pins s σ H _ I h) λu s1 ⟨x,H1,n,b,e⟩=>thn (g pins s1 σ H1 _ n e) λp s2 ⟨y,H2,m,a,d⟩ =>
  thn (i pins s2 σ H2 _ m d) λws s3 ⟨ps,o,l,rel,c⟩=>⟨(x,y) :: ps,o,l,.cons ⟨b,a⟩ rel,c⟩)
def jf (ar more:List (Key×V)):List (Key×V):=more.foldl (λa b=>GC a b.1 b.2) ar
def KV.merge:∀ {more:List (Key×V)} {rs:List (Key×Value)} {ar:List (Key×V)} {vs:List (Key×Value)},KV more rs->KV ar vs->KV (jf ar more) (merged vs rs):=by
 intro more rs ar vs r
 unfold KV at r
 induction r generalizing ar vs with
 | nil=>intro q; exact q
 | @cons p q ps c h t b =>
  intro a
  have e:KV (GC ar p.1 p.2) (stored vs q.1 q.2):=by
   have:=a.put p.1 h.2
   rw [<- h.1]; exact this
  exact b e
theorem qf:∀ (more ar:List (Key×V)),(jf ar more).length<=ar.length+more.length
 | [],ar=>by show ar.length<=ar.length+0; omega
 | p :: r,ar=>by
  have h1:=qf r (GC ar p.1 p.2)
  have h2:=Wo ar p.1 p.2
  show (jf (GC ar p.1 p.2) r).length<=_
  rw [aM]; omega
theorem ZG:∀ {ar:List (Key×V)} {d:List (Value×Value)},VV (ar.map λe=>(kV e.1,e.2)) d->∃ rs,Carries (xq P w) d rs/\KV ar rs
 | [],_,r=>by rw [bq] at r; cases r; exact ⟨[],AF,.nil⟩
 | p :: ar,_,r=>by
  rw [aH] at r
  cases r with
  | @cons a b as bs h t =>
   obtain ⟨rs,c,q⟩:=ZG (P:=P) (w:=w) t
   obtain ⟨g,f⟩:=b
   exact ⟨(p.1,f) :: rs,⟨KQ h.1,rfl,c⟩,.cons ⟨rfl,h.2⟩ q⟩
def MI (b:List (TE×TE)):TE:=λσ H Q=>∀ p,H p=none->UE b σ (upd H p (.dK [])) λps H2=>H2 p=some (.dK [])/\∃ ar:List (Key×V),ps=ar.map (λa=>(kV a.1,a.2))/\ar.length<=15/\Q (.ref p) (upd H2 p (.dK (jf [] ar)))
def Bb (h:PPs X pos keys values f) (x:keys.all (·.isSome)=true) (t:keys.length=values.length) (v:keys≠[])
  (d:keys.length<=15):PE X (.Dict keys values pos) (MI f):=by
 intro pins s σ H Q I q
 have r:=I.hok.fresh (aU s.heap.objs.size)
 have y:=I.laid (a:=s.heap.objs.size) (o:=.dK []) (h':=s.heap.push { cls:=.type "dict",data:=.dict #[] }) (t':=s.toks) (λ_ _ q=>mo _ q) (aU _) (K9 s.heap I.big)
 refine wpAny_Dict_walk (knd:=xq X.prog X.w) x t v d (thn (h pins _ σ _ _ y (q _ r)) λws s2 ⟨ps,H2,g,rel,e,ar,ep,lk,m⟩=>?_)
 subst ep
 obtain ⟨rs,c,j⟩:=ZG (P:=X.prog) (w:=X.w) rel
 obtain ⟨z,hd,i,l,dd⟩:=Nx g.hok e
 cases l
 refine ⟨rs,c,dd,λh' b n=>⟨.ref s.heap.objs.size,_,?_,rfl,m⟩⟩
 have hz:(jf [] ar).length<=sizeLine:=by
  have h1:=qf ar []
  rw [aN] at h1
  rw [Av]; omega
 have u:∃ q,h'.get? s.heap.objs.size=some q:=let ⟨q,_,_,p,_⟩:=b; ⟨q,p⟩
 exact Cc g (by rw [e]; exact AF) n u (FV hz hd (j.merge .nil) b)
structure M1 (X:Cx) (o:Expr) (m:Str) (apos:Pos) (e:Expr) (aA:Pos):Prop where
 base:Ad o m X.env (eval o X.env)=eval o X.env
 few:((tV aA (sC [e] X.env)).all (λx => !x.1)&&(backToKw aA (A9 [] X.env)).all (λx=>x.1.isSome)
  && decide (([e]:List Expr).length+([]:List A7).length+(if ([]:List A7).isEmpty then 0 else 1) < 30))=true
 line:(apos.endLine==aA.line)=true
 trees:tV aA (sC [e] X.env)=[(false,eval e X.env)]
structure M2 (X:Cx) (o:Expr) (m:Str) (apos:Pos) (e f:Expr) (aA:Pos):Prop where
 base:Ad o m X.env (eval o X.env)=eval o X.env
 few:((tV aA (sC [e,f] X.env)).all (λx => !x.1)&&(backToKw aA (A9 [] X.env)).all (λx=>x.1.isSome)
  && decide (([e,f]:List Expr).length+([]:List A7).length+(if ([]:List A7).isEmpty then 0 else 1) < 30))=true
 line:(apos.endLine==aA.line)=true
 trees:tV aA (sC [e,f] X.env)=[(false,eval e X.env),(false,eval f X.env)]
section
variable {X:Cx} {pins:List (Addr×Obj)} {σ:St} {H:Hp} {s:Shared} {a:Addr} {y d:V} {u r:Value} {o:Option V} {A:Around} {E:Value->Shared->Prop}
end
section
variable {X:Cx} {o e f:Expr} {apos aA:Pos} {td ty tx:TE}
end
section
variable {X:Cx} {pins:List (Addr×Obj)} {σ:St} {H:Hp} {s:Shared} {a:Addr} {ar:List (Key×V)} {A:Around} {E:Value->Shared->Prop}
end
section
variable {X:Cx} {pins:List (Addr×Obj)} {σ:St} {H:Hp} {s:Shared} {a:Addr} {y:V} {u:Value} {A:Around} {E:Value->Shared->Prop}
end
end L2
namespace Att
open PySem PySem.W PySem.Calls PyProof.Rows
def ko   : ∀ ns vs,WellAll P h vs (ns.map WData.int)->IntsAre vs ns:=by
 intro ns
 induction ns with
 | nil =>
  intro vs w
  rw [bq] at w
  cases w
  exact .nil
 | cons n ns c =>
  intro vs w
  rw [aH] at w
  cases w with
  | cons a b =>
   cases a
   exact .cons _ _ (c _ b)
def UK {l:OpenLaw} (t:l.most=some n)
  (b:l.row.toRowW.claim.pre args=true) (p:WellAll P h vals args) :
  ∃ a vs ns,vals=[sT a]/\args=[WData.list (ns.map WData.int)]/\h.get? a=some { cls:=.type "list",data:=.seq vs.toArray }/\IntsAre vs ns/\ns.length<=n:=by
 have g:WShape.hasAll [] args [.list .int]=true:=(pre_splitW b).1
 have i:l.pre.holds [] { args:=args }=true:=(pre_splitW b).2
 obtain ⟨d,r,rfl,h1,h2⟩:=hasAllW_cons g
 obtain rfl:=hasAllW_nil h2
 obtain ⟨xs,rfl,u⟩:=hasW_list h1
 obtain ⟨ns,rfl⟩:=items_int u
 have c:ns.length<=n:=by
  unfold OpenLaw.pre at i
  have f:(WTm.not (.lt (.lit (.int (n:Int))) (.len (.arg 0)))).holds [] { args:=[.list (ns.map .int)] }=true:=by
   have f:=(holds_andW i).1
   rw [t] at f
   exact f
  have e:=condW_of f (w_not (w_lt w_lit (w_len_list (w_arg rfl))))
  rw [aC] at e
  refine Nat.le_of_not_lt λq=>?_
  have o:(n:Int) < ((ns.length:Nat):Int):=by omega
  first
   | (rw [decide_eq_true o] at e; exact absurd e (by decide))
   | (simp at e; omega)
 cases p with
 | cons m j =>
  cases j
  cases m with
  | list s v=>exact ⟨_,_,ns,rfl,rfl,s,ko ns _ v,c⟩
def UZ (l:OpenLaw) (args):l.row.toRowW.claim.post args (.bool true) args=true :=
 postW_of (r:=l.row.toRowW) (X:=(true==true))
  (show WShape.has [] (.bool true) .bool=true by first | rfl | decide | simp [WShape.has,WShape.arms,WShape.armsAll])
  (show (WTm.eq .res (.lit (.bool true))).value [] { args:=args,res:=some (.bool true),after:=args }=some (.bool (true==true)) from w_eq_bool (w_res rfl) w_lit) rfl
def attach_call {l:OpenLaw} {m:(Str->Option Value)->Heap->Prop}
  (z:l.most=some n) (s:d.params.defaults=[])
  (call:∀ (w:sU) (s₀ b:Shared) (mg mb:Str->Option Value) (fa:Addr) (o:Obj) (pm cd doc:Value) (a:Addr) (vs:List Value) (ns:List Int),
   Ground q loose [] m w s₀ mg mb b.heap->H w b.heap →
   b.heap.get? fa=some o->o.data=.func (docDef d.name d.params d.body d.scope pm cd doc)->b.heap.CodeRec cd d.name->mg d.name=some (.ref fa) →
   b.heap.get? a=some { cls:=.type "list",data:=.seq vs.toArray }->IntsAre vs ns->ns.length<=n->b.gens = #[] →
   codeAny (sL l.prog w) callerA (.call (.ref fa) ⟨[.ref a],[]⟩) (λr s'=>r=.ok (.ret (.bool true))/\OldK b.heap s'.heap/\s'.os=b.os/\AllBare s'.gens) b) :
  WalkO q loose m H l.row.toRowW d [] (λf vs=>PySem.call f vs):=by
 intro w s₀ b mg mb G Y fa o pm cd doc F kV y hd h j p B args vals J e i v t I
 obtain rfl:F=.none:=Dflts.none j s
 obtain rfl:kV=.none:=Dflts.noKw j
 obtain ⟨a,vs,ns,rfl,rfl,u,c,g⟩:=UK z e t
 refine enter_call (codeAny_mono (call w s₀ b mg mb fa o pm cd doc a vs ns G Y y (fd_plain hd) h p u c g B) λr s' x=>?_)
 obtain ⟨rfl,h2,E,C⟩:=x
 exact ⟨.inl ⟨.bool true,.bool true,[],rfl,λ_=>rfl,.bool true,UZ l _,λ_=>⟨List.Pairwise.nil,λ_ A=>(nomatch A)⟩⟩,h2,E,C⟩
section
variable {prog:sH} {w:sU} {A:Around} {E:Value->Shared->Prop} {s:Shared} {K:Frag}
def N9 (h:Heap) (L d:Addr):List (Addr×Obj):=(aV h.objs.size).filterMap λa=>if a=L\/a=d then none else (h.get? a).map λo=>(a,o)
end
end Att
namespace L2
open PySem PySem.Spec PyProof.Rows
theorem b9:∀ {vs:List Value} {ns:List Int},IntsAre vs ns->yx (ns.map V.int) vs
 | _,_,.nil=>.nil
 | _,_,.cons n t h=>.cons ⟨t,rfl⟩ (b9 h)
def Mx (H:Hp):Prop:=∀ b,H b=none\/∃ o xs,H b=some (.frz o (.lst xs))
def KG   {K:sx}
  (R:K.In c.heap) (L:c.heap.Ns sI mg) (f:c.heap.Ns builtinsNs mb) (E:∀ x:Str,x≠"__name__"->mb x=u_ x) (t:c.heap.NoLimit) (Z:c.gens = #[])
  (A:c.heap.get? a=some { cls:=.type "list",data:=.seq vs.toArray }) (hi:IntsAre vs ns) (M:ns.length<=sizeLine) (Y:Room k callerA)
  (F:∀ base:Heap,K.In base->base.Ns sI mg->FnOk P w K mg base CX k fa fd [x] sp) (S:∀ (s:Shared) (u:Value),BindsTo s fd ⟨[u],[]⟩ [(x,u)])
  (B:∀ H:Hp,Mx H->aZ K H a (ns.map V.int)->sp [.ref a] H (λv _=>v=.bl true) λ_ _ _=>False)
  (G:∀ H e s',CX [] H c (λ_ _ _=>False) e s'->False) :
  codeAny (sL P w) callerA (.call (.ref fa) ⟨[.ref a],[]⟩) (λr s'=>r=.ok (.ret (.bool true))/\OldK c.heap s'.heap/\s'.os=c.os/\AllBare s'.gens) c:=by
 have J:=b9 hi
 have l:=hi.length
 have i:∀ H:Hp,Mx H->aZ K H a (ns.map V.int)->cj P w H c.heap->(∀ b,H b≠none->b=a)->(H a≠none->K.lookup a=none) →
   codeAny (sL P w) callerA (.call (.ref fa) ⟨[.ref a],[]⟩) (λr s'=>r=.ok (.ret (.bool true))/\OldK c.heap s'.heap/\s'.os=c.os/\AllBare s'.gens) c:=by
  intro H N hS hok O hK
  have Q:∀ {b:Addr} {o:Obj},c.heap.get? b=some o->H b=none->(KY c.heap H).get? b=some o:=λe n=>KW e n
  have W:∀ {b:Addr} {o:Obj} {es:Array Eg} {ep:Nat},c.heap.get? b=some o->o.data=.dict es ep->H b=none:=λ{b o es ep} e d=>by
   cases q:H b with
   | none=>rfl
   | some u =>
    have I:b=a:=O b (by rw [q]; simp)
    subst I
    rw [A] at e; cases e
    have d':Data.seq vs.toArray _=Data.dict es ep:=d
    cases d'
  have g:∀ {b:Addr} {m:Str->Option Value},c.heap.Ns b m->(KY c.heap H).Ns b m:=λ{b m} ⟨o,es,ep,e,d,r⟩=>⟨o,es,ep,Q e (W e d),d,r⟩
  have y:K.In (KY c.heap H):=λb o e=>Q (R b o e) (by
   cases q:H b with
   | none=>rfl
   | some u =>
    have I:b=a:=O b (by rw [q]; simp)
    subst I
    rw [hK (by rw [q]; simp)] at e; cases e)
  have hM:Mod K mg (KY c.heap H):=⟨y,g L,⟨mb,g f,E⟩,let ⟨X,h1,h2⟩:=t; ⟨X,g h1,h2⟩⟩
  have e0:Env0 P w K mg (KY c.heap H) callerA [] c H:=⟨rfl,hM,λb o e=>Bu e,Nat.le_of_eq (QL _ _),trivial,λb f=>absurd (show b∈([]:List Addr) from f) (by simp),hok,.of_eq Z⟩
  refine codeAny_mono ((F _ y (g L)).run callerA [] c H ⟨[.ref a],[]⟩ [.ref a] [.ref a] _ _ Y e0 (S c (.ref a)) (.cons rfl .nil) (B H N hS)) λr s' h=>?_
  cases r with
  | error e=>exact (G H e s' h).elim
  | ok fl =>
   cases fl with
   | next=>exact tu h
   | brk=>exact tu h
   | cont=>exact tu h
   | ret u =>
    obtain ⟨v,H',os,bare,un,p,T,q⟩:=h
    have U:v=.bl true:=q
    subst U
    obtain rfl:u=Value.bool true:=T
    refine ⟨rfl,OldK.of_keep λb o e=>?_,os,bare⟩
    cases q:H b with
    | none=>exact un.keep b o e q (by intro z; exact absurd (show b∈([]:List Addr) from z) (by simp)) (by simp)
    | some u =>
     rcases N b with z | ⟨ob,xs,z⟩
     .rw [q] at z; cases z
     .have z2:=un.frzs b ob _ z
      obtain ⟨e1,_⟩:=hok b _ z
      obtain ⟨e2,_⟩:=p b _ z2
      rw [e] at e1; cases e1
      exact e2
 cases C:K.lookup a with
 | some o =>
  have e:=R a o C
  rw [A] at e
  cases e
  refine i (λ_=>none) (λ_=>.inl rfl) (.inr ⟨_,vs.toArray,_,C,rfl,rfl,rfl,by rw [cx,l]; exact M,by simpa using J⟩) (λb u z=>by have j:(none:Option HO)=some u:=z; cases j) (λb z=>absurd rfl z) λz=>absurd rfl z
 | none =>
  refine i (λb=>if b=a then some (.frz { cls:=.type "list",data:=.seq vs.toArray } (.lst (ns.map V.int))) else none) (λb=>?_) (.inl (.inr ⟨{ cls:=.type "list",data:=.seq vs.toArray },if_pos rfl⟩)) (λb u z=>?_) (λb z=>?_) λ_=>C
  .by_cases f:b=a
   .exact .inr ⟨_,_,if_pos f⟩
   .exact .inl (if_neg f)
  .by_cases f:b=a
   .have j:=(if_pos f).symm.trans z
    cases j
    subst f
    exact ⟨A,by rw [aC]; exact M,vs,_,J,A⟩
   .have j:=(if_neg f).symm.trans z
    cases j
  .by_cases f:b=a
   .exact f
   .exact absurd (if_neg f) z
def Hi {l:W.OpenLaw} {O:(Str->Option Value)->Heap->Prop} {K:Params->sx} {CX:sU->iB} {sp:sU->Sp}
  (A:l.most=some n) (r:n<=sizeLine) (t:d.params.defaults=[]) (z:Room k callerA)
  (I:∀ (w:sU) (h:Heap),N w h->(K w.params).In h)
  (F:∀ (w:sU) (mg:Str->Option Value) (fa:Addr) (h:Heap),(K w.params).In h->h.Ns sI mg->mg d.name=some (.ref fa) →
   ∃ fd:tU,(∀ (s:Shared) (u:Value),BindsTo s fd ⟨[u],[]⟩ [(x,u)]) ∧
    ∀ base:Heap,(K w.params).In base->base.Ns sI mg->FnOk l.prog w (K w.params) mg base (CX w) k fa fd [x] (sp w))
  (i:∀ (w:sU) (H:Hp) (a:Addr) (ns:List Int),ns.length<=n->Mx H->aZ (K w.params) H a (ns.map V.int)->sp w [.ref a] H (λv _=>v=.bl true) λ_ _ _=>False)
  (j:∀ (w:sU) (H:Hp) (s:Shared) (e:Value) (s':Shared),CX w [] H s (λ_ _ _=>False) e s'->False) :
  PySem.W.WalkO q loose O N l.row.toRowW d [] (λf vs=>PySem.call f vs):=by
 refine Att.attach_call A t λw s₀ g mg mb fa o pm cd doc a vs ns G Y P hd C p y c b B=>?_
 have m:=I w _ Y
 obtain ⟨fd,E,M⟩:=F w mg fa _ m G.T.g p
 exact KG m G.T.g G.T.b G.T.builtins G.T.nolimit B y c (gq b r) z M E (λH L J=>i w H a ns b L J) λH e s'=>j w H g e s'
def walk_ofK {l:W.OpenLaw} {t:(Str->Option Value)->Heap->Prop} {K:Params->sx} {sp:sx->Sp}
  (m:l.most=some n) (g:n<=sizeLine) (i:d.params.defaults=[]) (j:Room k callerA)
  (o:∀ (w:sU) (h:Heap),r w h->(K w.params).In h)
  (F:∀ (w:sU) (mg:Str->Option Value) (fa:Addr) (h:Heap),(K w.params).In h->h.Ns sI mg->mg d.name=some (.ref fa) →
   ∃ fd:tU,(∀ (s:Shared) (u:Value),BindsTo s fd ⟨[u],[]⟩ [(x,u)]) ∧
    ∀ base:Heap,(K w.params).In base->base.Ns sI mg->FnOk l.prog w (K w.params) mg base CX k fa fd [x] (sp (K w.params)))
  (b:∀ (K:sx) (H:Hp) (a:Addr) (ns:List Int),ns.length<=n->Mx H->aZ K H a (ns.map V.int)->sp K [.ref a] H (λv _=>v=.bl true) λ_ _ _=>False)
  (c:∀ (H:Hp) (s:Shared) (e:Value) (s':Shared),CX [] H s (λ_ _ _=>False) e s'->False) :
  PySem.W.WalkO q loose t r l.row.toRowW d [] (λf vs=>PySem.call f vs) :=
 Hi (K:=K) (CX:=λ_=>CX) (sp:=λw=>sp (K w.params)) m g i j o F (λw H a ns h1 h2 p=>b (K w.params) H a ns h1 h2 p) λ_ H s e s'=>c H s e s'
def BP (s:Stmt) (j:Nat):Stmt:=match s with
 | .ClassDef _ _ _ body _ _ _ _ _ _ _=>body.getD j (.Pass ⟨0,0,0,0⟩)
 | _=>.Pass ⟨0,0,0,0⟩
def wF (s:Stmt):Arguments:=match s with
 | .FunctionDef _ a _ _ _ _ _ _ _ _=>a
 | _=>{ posonlyargs:=[],args:=[],vararg:=none,kwonlyargs:=[],kw_defaults:=[],kwarg:=none,defaults:=[] }
def yw (s:Stmt):List Stmt:=match s with
 | .FunctionDef _ _ b _ _ _ _ _ _ _=>b
 | _=>[]
def zi (s:Stmt):Scope:=match s with
 | .FunctionDef _ _ _ _ _ _ sc _ _ _=>sc
 | _=>{ kind:=.function,names:=[],isGenerator:=false,isCoroutine:=false }
abbrev bF:iB:=λ_ _ _ _ _ _=>False
abbrev E0:XK:=λ_ _ _=>False
def Dp  : ZJ bF X E0:=λ_ _ _ _ _ _ _ h=>h.elim
structure Fun (K:sx) (x qual:Str) (st:Stmt) (f:Addr) (fd:tU):Prop where
 ex:∃ (oc:Value) (od:Option Addr) (kV doc pm:Value) (an:Option Addr) (aq ct:Value) (eU:Array (Option Value)),
  fd=W.fnOf x qual (wF st) (yw st) (zi st) .none kV doc pm an aq ct/\K.lookup f=some ⟨oc,od,.func fd,eU⟩/\W.codeIn K aq qual=true
 kp:AI K (.ref f)=true
section
variable {P:sH} {w:sU} {K:sx} {mg:Str->Option Value} {base:Heap}
def Fun.ok  {st:Stmt} (F:Fun K x qual st f fd) (S:FnScope N ps (zi st)) (len:∀ vs H Q E,sp vs H Q E->vs.length=ps.length)
  (a:∀ (aq:Value) (A:Around) (outer:List Env) (s:Shared) (H:Hp) (vs:List V) (Q:VK) (E:XK),Room k (A.deeper (envOfC qual (zi st) s.heap.objs.size f aq))->sp vs H Q E →
   ∃ t,eX (xA bF P w K mg base N qual (zi st) f aq A outer s H E).nox (yw st) t/\t { nx:=λ_ H'=>Q .non H',rt:=Q } (start N vs) H):FnOk P w K mg base bF (k+1) f fd ps sp:=by
 obtain ⟨oc,od,kV,doc,pm,an,aq,ct,eU,rfl,lk,c⟩:=F.ex
 refine FH lk c S len λA outer s H vs Q E d b=>?_
 obtain ⟨t,h,q⟩:=a aq A outer s H vs Q E d b
 exact ⟨t,h.nox,q⟩
def Fun.binds  {st:Stmt} (F:Fun K x qual st f fd)
  (h:∀ (kV doc pm:Value) (an:Option Addr) (aq ct:Value) (us:List Value),us.length=ps.length->bindArgs (W.fnOf x qual (wF st) (yw st) (zi st) .none kV doc pm an aq ct) ⟨us,[]⟩=pure (ps.zip us)):qB K fd ps []:=by
 obtain ⟨oc,od,kV,doc,pm,an,aq,ct,eU,rfl,lk,a⟩:=F.ex
 exact .all (h kV doc pm an aq ct)
def Xs  {st:Stmt} {kV doc pm aq ct:Value} (l:K.lookup f=some ⟨oc,od,.func (W.fnOf x qual (wF st) (yw st) (zi st) .none kV doc pm an aq ct),eU⟩)
  (c:W.codeIn K aq qual=true) (k:AI K (.ref f)=true):Fun K x qual st f (W.fnOf x qual (wF st) (yw st) (zi st) .none kV doc pm an aq ct):=⟨⟨oc,od,kV,doc,pm,an,aq,ct,eU,rfl,l,c⟩,k⟩
end
def xM (h:n<=1000):n < sizeLine:=g3h h (by decide)
section
variable {X:Cx}
def pv (i) (c:X.N[i]? = some x:=by rfl) (b:iu X.env.scope x:=by first | exact Aw rfl | exact Ab (Aw rfl) | exact Ab (Ab rfl)) (hd:(x==("__debug__":Str))=false:=by decide)
  (a:(x==("__classdict__":Str))=false:=by decide):PE X (.Name x pos) (NO i):=u4 c b hd a
end
def BN {A B:Prop} (h:B):if false=true then A else B:=by
 rw [if_neg ny]
 exact h
def BM {A B:Prop} (h:A):if true=true then A else B:=by
 rw [if_pos rfl]
 exact h
def zV (H H':Hp):Prop:=∀ b o,H b=some o->H' b=some o
def zV.refl (H:Hp):zV H H:=λ_ _ h=>h
def zV.trans (a:zV H H1) (b:zV H1 H2):zV H H2:=λc o h=>b c o (a c o h)
def zV.free (e:zV H H') (h:H' l=Option.none):H l=Option.none:=by
 cases q:H l with
 | none=>rfl
 | some o =>
  rw [e l o q] at h
  cases h
def zV.seq {K:sx} (e:zV H H') (h:aZ K H a xs):aZ K H' a xs:=by
 rcases h with (h | ⟨o,h⟩) | h
 .exact .inl (.inl (e _ _ h))
 .exact .inl (.inr ⟨o,e _ _ h⟩)
 .exact .inr h
section
variable {κ:Type} [DecidableEq κ]
end
end L2
set_option maxHeartbeats 4000000
namespace FL
open PySem PySem.Spec PyProof.Rows L2
abbrev St:=L2.St
inductive D where
 | non
 | bl (b:Bool)
 | int (i:Int)
 | str (x:Str)
 | tup (ds:List D)
 | lst (ds:List D)
 deriving Inhabited
mutual
def af (K:sx) (H:Hp):D->V->Prop
 | .non,v=>v=.non
 | .bl b,v=>v=.bl b
 | .int i,v=>v=.int i
 | .str x,v=>v=.str x
 | .tup ds,v=>∃ a xs,v=.ref a/\bJ K H a xs/\zB K H ds xs
 | .lst ds,v=>∃ a xs,v=.ref a/\aZ K H a xs/\zB K H ds xs
def zB (K:sx) (H:Hp):List D->List V->Prop
 | [],xs=>xs=[]
 | d :: ds,xs=>∃ x r,xs=x :: r/\af K H d x/\zB K H ds r
end
def zD  : zV H H:=λ_ _ e=>e
def Z1 {K:sx} (e:zV H H') (h:bJ K H a xs):bJ K H' a xs:=by
 rcases h with (h | ⟨o,h⟩) | h
 .exact .inl (.inl (e _ _ h))
 .exact .inl (.inr ⟨o,e _ _ h⟩)
 .exact .inr h
section
variable {K:sx} {H H':Hp}
mutual
theorem af.mono (s:zV H H'):∀ {d:D} {v:V},af K H d v->af K H' d v
 | .non,_,h=>by unfold af at h ⊢; exact h
 | .bl _,_,h=>by unfold af at h ⊢; exact h
 | .int _,_,h=>by unfold af at h ⊢; exact h
 | .str _,_,h=>by unfold af at h ⊢; exact h
 | .tup ds,v,h=>by
  unfold af at h ⊢
  obtain ⟨a,xs,e,q,l⟩:=h
  exact ⟨a,xs,e,Z1 s q,zB.mono s l⟩
 | .lst ds,v,h=>by
  unfold af at h ⊢
  obtain ⟨a,xs,e,q,l⟩:=h
  exact ⟨a,xs,e,s.seq q,zB.mono s l⟩
theorem zB.mono (s:zV H H'):∀ {ds:List D} {xs:List V},zB K H ds xs->zB K H' ds xs
 | [],_,h=>by unfold zB at h ⊢; exact h
 | d :: ds,xs,h=>by
  unfold zB at h ⊢
  obtain ⟨x,r,e,h1,h2⟩:=h
  exact ⟨x,r,e,af.mono s h1,zB.mono s h2⟩
end
def tL  : af K H .non v↔v=.non:=by unfold af; rfl
def sP   : af K H (.bl b) v↔v=.bl b:=by unfold af; rfl
def sA   : af K H (.int i) v↔v=.int i:=by unfold af; rfl
def sR   : af K H (.str x) v↔v=.str x:=by unfold af; rfl
def sQ   : af K H (.tup ds) v↔∃ a xs,v=.ref a/\bJ K H a xs/\zB K H ds xs:=by
 constructor
 .intro h; unfold af at h; exact h
 .intro h; unfold af; exact h
def sO   : af K H (.lst ds) v↔∃ a xs,v=.ref a/\aZ K H a xs/\zB K H ds xs:=by
 constructor
 .intro h; unfold af at h; exact h
 .intro h; unfold af; exact h
def zB.nil_iff  : zB K H [] xs↔xs=[]:=by unfold zB; rfl
def sD    : zB K H (d :: ds) xs↔∃ x r,xs=x :: r/\af K H d x/\zB K H ds r:=by
 constructor
 .intro h; unfold zB at h; exact h
 .intro h; unfold zB; exact h
def zB.nil:zB K H [] []:=zB.nil_iff.mpr rfl
def zB.cons (h:af K H d x) (t:zB K H ds xs):zB K H (d :: ds) (x :: xs):=sD.mpr ⟨x,xs,rfl,h,t⟩
theorem zB.length:∀ {ds:List D} {xs:List V},zB K H ds xs->xs.length=ds.length
 | [],_,h=>by rw [zB.nil_iff] at h; subst h; rfl
 | d :: ds,xs,h=>by
  obtain ⟨x,r,e,_,h2⟩:=sD.mp h
  subst e
  simp [zB.length h2]
theorem zB.get:∀ {ds:List D} {xs:List V} {i:Nat} {d:D},zB K H ds xs->ds[i]? = some d->∃ v,xs[i]? = some v/\af K H d v
 | [],_,_,_,_,e=>by simp at e
 | d :: ds,xs,i,d',h,e=>by
  obtain ⟨x,r,c,h1,h2⟩:=sD.mp h
  subst c
  cases i with
  | zero=>simp at e; subst e; exact ⟨x,rfl,h1⟩
  | succ i =>
   obtain ⟨v,b,a⟩:=zB.get (i:=i) (d:=d') h2 (by simpa using e)
   exact ⟨v,by simpa using b,a⟩
theorem zB.append:∀ {ds es:List D} {xs ys:List V},zB K H ds xs->zB K H es ys->zB K H (ds++es) (xs++ys)
 | [],_,_,_,h,h'=>by rw [zB.nil_iff] at h; subst h; exact h'
 | d :: ds,es,xs,ys,h,h'=>by
  obtain ⟨x,r,e,h1,h2⟩:=sD.mp h
  subst e
  exact .cons h1 (zB.append h2 h')
theorem zB.drop:∀ {ds:List D} {xs:List V} (n:Nat),zB K H ds xs->zB K H (ds.drop n) (xs.drop n)
 | _,_,0,h=>by simpa using h
 | [],_,n+1,h=>by rw [zB.nil_iff] at h; subst h; simpa using zB.nil
 | d :: ds,xs,n+1,h=>by
  obtain ⟨x,r,e,h1,h2⟩:=sD.mp h
  subst e
  exact zB.drop n h2
theorem zB.take:∀ {ds:List D} {xs:List V} (n:Nat),zB K H ds xs->zB K H (ds.take n) (xs.take n)
 | _,_,0,h=>by simpa using zB.nil
 | [],_,n+1,h=>by rw [zB.nil_iff] at h; subst h; simpa using zB.nil
 | d :: ds,xs,n+1,h=>by
  obtain ⟨x,r,e,h1,h2⟩:=sD.mp h
  subst e
  exact .cons h1 (zB.take n h2)
theorem zB.set (a:af K H d x):∀ {ds:List D} {xs:List V} (i:Nat),zB K H ds xs->zB K H (ds.set i d) (xs.set i x)
 | [],_,_,h=>by rw [zB.nil_iff] at h; subst h; exact zB.nil
 | e :: ds,xs,i,h=>by
  obtain ⟨y,r,e,h1,h2⟩:=sD.mp h
  subst e
  cases i with
  | zero=>exact .cons a h2
  | succ i=>exact .cons h1 (zB.set a i h2)
theorem zB.ints:∀ (ns:List Int),zB K H (ns.map D.int) (ns.map V.int)
 | []=>.nil
 | n :: ns=>.cons (sA.mpr rfl) (zB.ints ns)
end
def KTy:Nat->Type
 | 0=>Int
 | n+1=>List (KTy n)
def dOf:(n:Nat)->KTy n->D
 | 0,i=>.int i
 | n+1,l=>.tup (List.map (dOf n) l)
def Fy:(n:Nat)->KTy n->Int
 | 0,i=>hashInt i
 | n+1,l=>reduceHash (Builtin.Tuple.tupleHashOf (List.map (Fy n) l))
def NM (n:Nat) (xs:List (KTy n×Addr)) (a:Addr) (h:Heap):Prop :=
 (a==x_)=false/\∃ o es ep,h.get? a=some o/\o.ExactDict/\o.data=.dict es ep/\(es.toList=xs.map λx=>⟨Fy n x.1,.ref x.2,.bool true⟩)/\(xs.map (·.1)).Nodup/\xs.length<=sizeLine
inductive Slot where
 | no
 | fr (d:D)
 | ol (ds:List D)
 | oT (ar:List (List Key×D))
 | oX (n:Nat) (ks:List (KTy n))
 deriving Inhabited
def Slot.own:Slot->Bool
 | .ol _=>true
 | .oT _=>true
 | .oX _ _=>true
 | _=>false
abbrev aI:=List Slot
def sk (K:sx) (H:Hp) {κ:Type}:List (κ×D)->List (κ×V)->Prop:=Paired λp q=>p.1=q.1/\af K H p.2 q.2
def sk.mono {K:sx} (s:zV H H') {m:List (κ×V)} (h:sk K H l m):sk K H' l m:=C_ h λ_ _ z=>⟨z.1,af.mono s z.2⟩
def Zk (K:sx) (H Hf:Hp) (a:Addr):Slot->Prop
 | .ol ds=>∃ xs,H a=some (.lst xs)/\zB K Hf ds xs
 | .oT ar=>∃ b,H a=some (.dT b)/\sk K Hf ar b
 | .oX n ks=>∃ xs:List (KTy n×Addr),H a=some (.ext (NM n xs a))/\xs.map (·.1)=ks/\∀ x∈xs,af K Hf (dOf n x.1) (.ref x.2)
 | _=>True
def Zk.mono {K:sx} (h:Zk K H Hf a sl) (k:∀ o,H a=some o->H' a=some o) (s:zV Hf ao):Zk K H' ao a sl:=by
 cases sl with
 | no=>trivial
 | fr d=>trivial
 | ol ds=>obtain ⟨xs,e,q⟩:=h; exact ⟨xs,k _ e,q.mono s⟩
 | oT ar=>obtain ⟨xs,e,q⟩:=h; exact ⟨xs,k _ e,sk.mono s q⟩
 | oX n ks=>obtain ⟨xs,e,c,b⟩:=h; exact ⟨xs,k _ e,c,λx f=>(b x f).mono s⟩
def Zk.there {K:sx} (h:Zk K H Hf a sl) (ow:sl.own=true):∃ o,H a=some o:=by
 cases sl with
 | no=>cases ow
 | fr d=>cases ow
 | ol ds=>obtain ⟨xs,e,q⟩:=h; exact ⟨_,e⟩
 | oT ar=>obtain ⟨xs,e,q⟩:=h; exact ⟨_,e⟩
 | oX n ks=>obtain ⟨xs,e,q⟩:=h; exact ⟨_,e⟩
def Tp (o:HO):Prop:=∃ ks:List Key,o=.tup (ks.map kV)
structure Rep (K:sx) (H₀ aa:Hp) (σ:St) (ρ:aI) (H Hf:Hp):Prop where
 s0:zV H₀ H
 sf:zV Hf H
 nf:∀ b o,Hf b=some o->aa b=some o\/H₀ b=none\/Tp o
 f0:zV aa Hf
 len:ρ.length=σ.length
 fr:∀ (i:Nat) (d:D),ρ[i]? = some (.fr d)->∃ v,σ[i]? = some (some v)/\af K Hf d v
 ow:∀ (i:Nat) (sl:Slot),ρ[i]? = some sl->sl.own=true->∃ a,σ[i]? = some (some (.ref a))/\Zk K H Hf a sl/\Hf a=none/\H₀ a=none
 inj:∀ (i j:Nat) (sl cX:Slot) (a:Addr),ρ[i]? = some sl->sl.own=true->ρ[j]? = some cX->cX.own=true->σ[i]? = some (some (.ref a))->σ[j]? = some (some (.ref a))->i=j
def Zk.notTp {K:sx} {H Hf H':Hp} (h:Zk K H Hf a sl) (ow:sl.own=true) (k:∀ o,H a=some o->H' a=some o) (z:H' a=some u) (t:Tp u):False:=by
 obtain ⟨ks,rfl⟩:=t
 cases sl with
 | no=>cases ow
 | fr d=>cases ow
 | ol ds=>obtain ⟨xs,e,q⟩:=h; have:=(k _ e).symm.trans z; cases this
 | oT ar=>obtain ⟨xs,e,q⟩:=h; have:=(k _ e).symm.trans z; cases this
 | oX n ks=>obtain ⟨xs,e,q⟩:=h; have:=(k _ e).symm.trans z; cases this
section
variable {K:sx} {H₀ aa:Hp} {σ:St} {ρ:aI} {H Hf H' ao:Hp}
def Rep.grow (R:Rep K H₀ aa σ ρ H Hf) (h1:zV H H') (h2:zV Hf ao) (h:zV ao H') (g:∀ b o,ao b=some o->Hf b=some o\/H b=none\/Tp o):Rep K H₀ aa σ ρ H' ao where
 s0:=R.s0.trans h1
 sf:=h
 nf:=λb o e=>by
  rcases g b o e with q | q | q
  .exact R.nf b o q
  .exact .inr (.inl (R.s0.free q))
  .exact .inr (.inr q)
 f0:=R.f0.trans h2
 len:=R.len
 fr:=λi d e=>by
  obtain ⟨v,f,c⟩:=R.fr i d e
  exact ⟨v,f,c.mono h2⟩
 ow:=λi sl e o=>by
  obtain ⟨a,f,c,m,l⟩:=R.ow i sl e o
  refine ⟨a,f,c.mono (λo e=>h1 _ _ e) h2,?_,l⟩
  obtain ⟨ob,j⟩:=c.there o
  cases z:ao a with
  | none=>rfl
  | some u =>
   rcases g a u z with y | y | y
   .rw [m] at y; cases y
   .rw [j] at y; cases y
   .exact (c.notTp o (λo=>h1 a o) (h _ _ z) y).elim
 inj:=R.inj
def Rep.lay (R:Rep K H₀ aa σ ρ H Hf) (c:H p=none):Rep K H₀ aa σ ρ (upd H p o) (upd Hf p o):=by
 have d:Hf p=none:=R.sf.free c
 refine R.grow (λb u e=>?_) (λb u e=>?_) (λb u e=>?_) (λb u e=>?_)
 .rw [zu (zy e c)]; exact e
 .rw [zu (zy e d)]; exact e
 .by_cases a:b=p
  .subst a; rw [zq] at e ⊢; exact e
  .rw [zu a] at e ⊢; exact R.sf b u e
 .by_cases a:b=p
  .subst a; exact .inr (.inl c)
  .rw [zu a] at e; exact .inl e
def Rep.layN (R:Rep K H₀ aa σ ρ H Hf) (a:H p=none):Rep K H₀ aa σ ρ (upd H p o) Hf:=by
 refine R.grow (λb u e=>?_) zD (λb u e=>?_) (λb u e=>.inl e)
 .rw [zu (zy e a)]; exact e
 .rw [zu (zy (R.sf b u e) a)]; exact R.sf b u e
def zA (a:H p=none):zV H (upd H p o):=λb u e=>by rw [zu (zy e a)]; exact e
def Rep.set (R:Rep K H₀ aa σ ρ H Hf) {d:D} {v:V} (i:Nat) (h:af K Hf d v):Rep K H₀ aa (σ.set i (some v)) (ρ.set i (.fr d)) H Hf where
 s0:=R.s0
 sf:=R.sf
 nf:=R.nf
 f0:=R.f0
 len:=by simp [R.len]
 fr:=λj d' e=>by
  rw [f_] at e ⊢
  by_cases b:i=j
  .rw [if_pos b] at e ⊢
   split at e
   .cases e
    rename_i g
    rw [R.len] at g
    rw [if_pos g]
    exact ⟨v,rfl,h⟩
   .cases e
  .rw [if_neg b] at e ⊢
   exact R.fr j d' e
 ow:=λj sl e o=>by
  rw [f_] at e ⊢
  by_cases b:i=j
  .rw [if_pos b] at e
   split at e
   .cases e; cases o
   .cases e
  .rw [if_neg b] at e ⊢
   exact R.ow j sl e o
 inj:=λj k sl cX a e o c o' z f=>by
  rw [f_] at e c z f
  by_cases b:i=j
  .rw [if_pos b] at e
   split at e
   .cases e; cases o
   .cases e
  .by_cases l:i=k
   .rw [if_pos l] at c
    split at c
    .cases c; cases o'
    .cases c
   .rw [if_neg b] at e z
    rw [if_neg l] at c f
    exact R.inj j k sl cX a e o c o' z f
def Rep.setOwn (R:Rep K H₀ aa σ ρ H Hf) {sl:Slot} {a:Addr} (i:Nat) (m:sl.own=true) (h:Zk K H Hf a sl) (n:Hf a=none) (p:H₀ a=none)
  (fresh:∀ (j:Nat) (cX:Slot),ρ[j]? = some cX->cX.own=true->σ[j]? ≠ some (some (.ref a))):Rep K H₀ aa (σ.set i (some (.ref a))) (ρ.set i sl) H Hf where
 s0:=R.s0
 sf:=R.sf
 nf:=R.nf
 f0:=R.f0
 len:=by simp [R.len]
 fr:=λj d' e=>by
  rw [f_] at e ⊢
  by_cases d:i=j
  .rw [if_pos d] at e
   split at e
   .cases e; cases m
   .cases e
  .rw [if_neg d] at e ⊢
   exact R.fr j d' e
 ow:=λj cX e o=>by
  rw [f_] at e ⊢
  by_cases d:i=j
  .rw [if_pos d] at e ⊢
   split at e
   .cases e
    rename_i l
    rw [R.len] at l
    rw [if_pos l]
    exact ⟨a,rfl,h,n,p⟩
   .cases e
  .rw [if_neg d] at e ⊢
   exact R.ow j cX e o
 inj:=λj k s1 s2 b e o f o' z c=>by
  rw [f_] at e f z c
  by_cases d:i=j
  .by_cases g:i=k
   .omega
   .rw [if_pos d] at z
    rw [if_neg g] at f c
    split at z
    .cases z
     exact absurd c (fresh k s2 f o')
    .cases z
  .by_cases g:i=k
   .rw [if_pos g] at c
    rw [if_neg d] at e z
    split at c
    .cases c
     exact absurd z (fresh j s1 e o)
    .cases c
   .rw [if_neg d] at e z
    rw [if_neg g] at f c
    exact R.inj j k s1 s2 b e o f o' z c
def Rep.updOwn (R:Rep K H₀ aa σ ρ H Hf) (e:ρ[i]? = some sl) (l:sl.own=true) (m:σ[i]? = some (some (.ref a))) (I:cX.own=true) (h:Zk K (upd H a o) Hf a cX) :
  Rep K H₀ aa σ (ρ.set i cX) (upd H a o) Hf:=by
 obtain ⟨L,r,J,p,n⟩:=R.ow i sl e l
 rw [m] at r; cases r
 have t:i < ρ.length:=(gE.mp e).1
 refine ⟨λb u z=>?_,λb u z=>?_,R.nf,R.f0,by simp [R.len],λj d z=>?_,λj s1 z f=>?_,λj k s1 s2 b z f w g y x=>?_⟩
 .rw [zu (zy z n)]; exact R.s0 b u z
 .rw [zu (zy z p)]; exact R.sf b u z
 .rw [f_] at z
  by_cases c:i=j
  .rw [if_pos c,if_pos t] at z
   cases z; cases I
  .rw [if_neg c] at z
   exact R.fr j d z
 .rw [f_] at z
  by_cases c:i=j
  .rw [if_pos c,if_pos t] at z
   cases z
   subst c
   exact ⟨a,m,h,p,n⟩
  .rw [if_neg c] at z
   obtain ⟨b,s,p2,G,F⟩:=R.ow j s1 z f
   refine ⟨b,s,p2.mono (λu q=>?_) zD,G,F⟩
   rw [zu]
   .exact q
   .rintro rfl
    exact c (R.inj i j sl s1 b e l z f m s)
 .have v:∀ (j:Nat) (s1:Slot),(ρ.set i cX)[j]? = some s1->s1.own=true->∃ s2,ρ[j]? = some s2/\s2.own=true:=λj s1 z f=>by
   rw [f_] at z
   by_cases c:i=j
   .subst c; exact ⟨sl,e,l⟩
   .rw [if_neg c] at z; exact ⟨s1,z,f⟩
  obtain ⟨t1,E,B⟩:=v j s1 z f
  obtain ⟨t2,C,A⟩:=v k s2 w g
  exact R.inj j k t1 t2 b E B C A y x
def Rep.freeze (R:Rep K H₀ aa σ ρ H Hf) (e:ρ[i]? = some (.ol ds)):∃ ao,zV Hf ao/\Rep K H₀ aa σ (ρ.set i (.fr (.lst ds))) H ao:=by
 obtain ⟨a,p,⟨xs,A,n⟩,x,w⟩:=R.ow i _ e rfl
 have o:i < ρ.length:=(gE.mp e).1
 have g:zV Hf (upd Hf a (.lst xs)):=zA x
 refine ⟨upd Hf a (.lst xs),g,R.s0,λb u z=>?_,λb u z=>?_,R.f0.trans g,by simp [R.len],λj d z=>?_,λj s1 z f=>?_,λj k s1 s2 b z f s h y t=>?_⟩
 .by_cases l:b=a
  .subst l; rw [zq] at z; cases z; exact A
  .rw [zu l] at z; exact R.sf b u z
 .by_cases l:b=a
  .subst l; exact .inr (.inl w)
  .rw [zu l] at z; exact R.nf b u z
 .rw [f_] at z
  by_cases c:i=j
  .rw [if_pos c,if_pos o] at z
   cases z
   subst c
   exact ⟨_,p,sO.mpr ⟨a,xs,rfl,aZ.of zq,n.mono g⟩⟩
  .rw [if_neg c] at z
   obtain ⟨v,m,p2⟩:=R.fr j d z
   exact ⟨v,m,p2.mono g⟩
 .rw [f_] at z
  by_cases c:i=j
  .rw [if_pos c,if_pos o] at z
   cases z; cases f
  .rw [if_neg c] at z
   obtain ⟨b,m,p2,C,B⟩:=R.ow j s1 z f
   refine ⟨b,m,p2.mono (λu q=>q) g,?_,B⟩
   rw [zu]
   .exact C
   .rintro rfl
    exact c (R.inj i j _ s1 b e rfl z f p m)
 .have r:∀ (j:Nat) (s1:Slot),(ρ.set i (.fr (.lst ds)))[j]? = some s1->s1.own=true->ρ[j]? = some s1:=λj s1 z f=>by
   rw [f_] at z
   by_cases c:i=j
   .rw [if_pos c,if_pos o] at z
    cases z; cases f
   .rw [if_neg c] at z; exact z
  exact R.inj j k s1 s2 b (r j s1 z f) f (r k s2 s h) h y t
end
end FL
namespace FL
open PySem PySem.Spec PyProof.Rows L2
abbrev FE:=aI->Option D
abbrev FT:=aI->Option Bool
abbrev FA:=aI->Option (List D)
inductive Out where
 | nx (ρ:aI)
 | rt (d:D)
 | bk (ρ:aI)
 | ct (ρ:aI)
abbrev FS:=aI->Option Out
def uA (K:sx) (Hf:Hp) (σ:St) (ρ:aI) (d:D) (v:V):Prop:=af K Hf d v\/∃ (i:Nat) (ds:List D),d=.lst ds/\ρ[i]? = some (.ol ds)/\σ[i]? = some (some v)
def uA.mono {K:sx} (h:uA K Hf σ ρ d v) (s:zV Hf ao):uA K ao σ ρ d v:=h.imp (af.mono s) id
inductive tF (K:sx) (f:FE) (σ:St) (H:Hp) (Q:VK):Prop
 |mk (H₀ aa ρ Hf d) (a0:Rep K H₀ aa σ ρ H Hf) (a1:f ρ=some d) (a2:∀ v H' ao,Rep K H₀ aa σ ρ H' ao->zV H H'->zV Hf ao->af K ao d v->Q v H')
inductive tR (K:sx) (f:FE) (σ:St) (H:Hp) (Q:VK):Prop
 |mk (H₀ aa ρ Hf d) (a0:Rep K H₀ aa σ ρ H Hf) (a1:f ρ=some d) (a2:∀ v H' ao,Rep K H₀ aa σ ρ H' ao->zV H H'->zV Hf ao->uA K ao σ ρ d v->Q v H')
inductive tN (K:sx) (f:FA) (σ:St) (H:Hp) (Q:VK):Prop
 |mk (H₀ aa ρ Hf ds) (a0:Rep K H₀ aa σ ρ H Hf) (a1:f ρ=some ds) (a2:∀ a xs H' ao,Rep K H₀ aa σ ρ H' ao->zV H H'->zV Hf ao->zB K ao ds xs->H' a=some (.lst xs)->ao a=none->H a=none->Q (.ref a) H')
inductive tT (K:sx) (f:FT) (σ:St) (H:Hp) (Q:Bool->Hp->Prop):Prop
 |mk (H₀ aa ρ Hf b) (a0:Rep K H₀ aa σ ρ H Hf) (a1:f ρ=some b) (a2:∀ H' ao,Rep K H₀ aa σ ρ H' ao->zV H H'->zV Hf ao->Q b H')
inductive tAF (K:sx) (f:FA) (σ:St) (H:Hp) (Q:List V->Hp->Prop):Prop
 |mk (H₀ aa ρ Hf ds) (a0:Rep K H₀ aa σ ρ H Hf) (a1:f ρ=some ds) (a2:∀ vs H' ao,Rep K H₀ aa σ ρ H' ao->zV H H'->zV Hf ao->zB K ao ds vs->Q vs H')
def uw (K:sx) (Hf:Hp) (σ:St) (ρ:aI):List D->List V->Prop:=Paired (uA K Hf σ ρ)
inductive tAR (K:sx) (f:FA) (σ:St) (H:Hp) (Q:List V->Hp->Prop):Prop
 |mk (H₀ aa ρ Hf ds) (a0:Rep K H₀ aa σ ρ H Hf) (a1:f ρ=some ds) (a2:∀ vs H' ao,Rep K H₀ aa σ ρ H' ao->zV H H'->zV Hf ao->uw K ao σ ρ ds vs->Q vs H')
def CJ (K:sx) (H₀ aa Hf:Hp) (D':Ends):Out->Prop
 | .nx ρ'=>∀ aB H' ao,Rep K H₀ aa aB ρ' H' ao->zV Hf ao->D'.nx aB H'
 | .bk ρ'=>∀ aB H' ao,Rep K H₀ aa aB ρ' H' ao->zV Hf ao->D'.bk aB H'
 | .ct ρ'=>∀ aB H' ao,Rep K H₀ aa aB ρ' H' ao->zV Hf ao->D'.ct aB H'
 | .rt d=>∀ v aB ρ' H' ao,Rep K H₀ aa aB ρ' H' ao->zV Hf ao->af K ao d v->D'.rt v H'
inductive tS (K:sx) (F:FS) (D':Ends) (σ:St) (H:Hp):Prop
 |mk (H₀ aa ρ Hf o) (a0:Rep K H₀ aa σ ρ H Hf) (a1:F ρ=some o) (a2:CJ K H₀ aa Hf D' o)
def DE (X:Cx) (e:Expr) (f:FE):Prop:=PE X e (tF X.K f)
def DR (X:Cx) (e:Expr) (f:FE):Prop:=PE X e (tR X.K f)
def DN (X:Cx) (e:Expr) (f:FA):Prop:=PE X e (tN X.K f)
def DT (X:Cx) (e:Expr) (f:FT):Prop:=PT X e (tT X.K f)
def DW (X:Cx) (e:Expr) (f:FT):Prop:=PW X e (tT X.K f)
def DA (X:Cx) (es:List Expr) (f:FA):Prop:=PA X es (tAF X.K f)
def fN (X:Cx) (es:List Expr) (f:FA):Prop:=PA X es (tAR X.K f)
def DS (X:Cx) (st:Stmt) (F:FS):Prop:=PS X st (tS X.K F)
def gz (X:Cx) (iD:List Stmt) (F:FS):Prop:=eX X iD (tS X.K F)
section
variable {X:Cx} {e a b c:Expr} {es:List Expr} {f g h:FE} {fa ga:FA} {ft gt:FT} {pos:Pos} {t t':TE}
def yi (h:PE X e t) (i:∀ σ H Q,t' σ H Q->t σ H Q):PE X e t':=λpins s σ H Q I d=>h pins s σ H Q I (i _ _ _ d)
def Vb {t t':TT} (h:PT X e t) (i:∀ σ H Q,t' σ H Q->t σ H Q):PT X e t':=λpins s σ H Q I d=>h pins s σ H Q I (i _ _ _ d)
def GB {t t':TT} (h:PW X e t) (i:∀ σ H Q,t' σ H Q->t σ H Q):PW X e t':=λd pins s σ H Q I j=>h d pins s σ H Q I (i _ _ _ j)
def Vd {t t':TA} (h:PA X es t) (i:∀ σ H Q,t' σ H Q->t σ H Q):PA X es t':=λp pins s σ H Q I d=>h p pins s σ H Q I (i _ _ _ d)
def y8 {st:Stmt} {t t':TS} (h:PS X st t) (i:∀ D σ H,t' D σ H->t D σ H):PS X st t':=λpins s σ H D I d=>h pins s σ H D I (i _ _ _ d)
def ka  {t t':TS} (h:eX X iD t) (i:∀ D σ H,t' D σ H->t D σ H):eX X iD t':=λpins s σ H D I d=>h pins s σ H D I (i _ _ _ d)
def sy (j:DE X e f):DR X e f:=yi j λσ H Q ⟨H₀,aa,ρ,Hf,d,R,q,k⟩=>⟨H₀,aa,ρ,Hf,d,R,q,λv H' ao R' s1 s2 i=>k v H' ao R' s1 s2 (.inl i)⟩
def zg (fa:FA):FE:=λρ=>(fa ρ).map D.lst
def sJ (A:DN X e fa):DE X e (zg fa):=yi A λσ H Q ⟨H₀,aa,ρ,Hf,d,R,q,k⟩=>by
 unfold zg at q
 cases n:fa ρ with
 | none=>rw [n] at q; cases q
 | some ds =>
  rw [n] at q; cases q
  refine ⟨H₀,aa,ρ,Hf,ds,R,n,λa xs H' ao R' s1 s2 y B x hh=>?_⟩
  have j:zV ao (upd ao a (.lst xs)):=zA x
  have C:H₀ a=none:=R.s0.free hh
  refine k (.ref a) H' (upd ao a (.lst xs)) ?_ s1 (s2.trans j) (sO.mpr ⟨a,xs,rfl,aZ.of zq,y.mono j⟩)
  refine ⟨R'.s0,λb u z=>?_,λb u z=>?_,R'.f0.trans j,R'.len,λi d z=>?_,λi sl z o=>?_,R'.inj⟩
  .by_cases l:b=a
   .subst l; rw [zq] at z; cases z; exact B
   .rw [zu l] at z; exact R'.sf b u z
  .by_cases l:b=a
   .subst l; exact .inr (.inl C)
   .rw [zu l] at z; exact R'.nf b u z
  .obtain ⟨v,m,p2⟩:=R'.fr i d z
   exact ⟨v,m,p2.mono j⟩
  .obtain ⟨b,m,p2,F,E⟩:=R.ow i sl z o
   obtain ⟨G,p,s,r3,r⟩:=R'.ow i sl z o
   rw [m] at p; cases p
   refine ⟨b,m,s.mono (λu q=>q) j,?_,r⟩
   rw [zu]
   .exact r3
   .rintro rfl
    obtain ⟨o',w⟩:=p2.there o
    rw [w] at hh; cases hh
def vF (i:Nat):FE:=λρ=>match ρ[i]? with
 | some (.fr d)=>some d
 | _=>none
def vR (i:Nat):FE:=λρ=>match ρ[i]? with
 | some (.fr d)=>some d
 | some (.ol ds)=>some (.lst ds)
 | _=>none
def dv (i) (m:X.N[i]? = some x:=by rfl) (l:iu X.env.scope x:=by first | exact Aw rfl | exact Ab (Aw rfl) | exact Ab (Ab rfl)) (hd:(x==("__debug__":Str))=false:=by decide)
  (j:(x==("__classdict__":Str))=false:=by decide):DE X (.Name x pos) (vF i) :=
 yi (u4 m l hd j) λσ H Q ⟨H₀,aa,ρ,Hf,d,R,q,k⟩=>by
  unfold vF at q
  split at q
  .cases q
   rename_i e
   obtain ⟨v,e1,e2⟩:=R.fr i d e
   exact ⟨v,e1,k v H Hf R zD zD e2⟩
  .cases q
def dw (i:Nat) (l:X.N[i]? = some x:=by rfl) (j:iu X.env.scope x:=by first | exact Aw rfl | exact Ab (Aw rfl) | exact Ab (Ab rfl)) (hd:(x==("__debug__":Str))=false:=by decide)
  (d:(x==("__classdict__":Str))=false:=by decide):DR X (.Name x pos) (vF i):=sy (dv i l j hd d)
def dk (i) (m:X.N[i]? = some x:=by rfl) (l:iu X.env.scope x:=by first | exact Aw rfl | exact Ab (Aw rfl) | exact Ab (Ab rfl)) (hd:(x==("__debug__":Str))=false:=by decide)
  (j:(x==("__classdict__":Str))=false:=by decide):DR X (.Name x pos) (vR i) :=
 yi (u4 m l hd j) λσ H Q ⟨H₀,aa,ρ,Hf,d,R,q,k⟩=>by
  unfold vR at q
  split at q
  .cases q
   rename_i e
   obtain ⟨v,e1,e2⟩:=R.fr i d e
   exact ⟨v,e1,k v H Hf R zD zD (.inl e2)⟩
  .cases q
   rename_i ds e
   obtain ⟨a,e1,e2,_⟩:=R.ow i _ e rfl
   exact ⟨.ref a,e1,k _ H Hf R zD zD (.inr ⟨i,ds,rfl,e,e1⟩)⟩
  .cases q
def cF (d:D):FE:=λ_=>some d
def zU  {j pos}:DE X (.Constant (.int i) j pos) (cF (.int i)):=yi Zq λσ H Q ⟨H₀,aa,ρ,Hf,d,R,q,k⟩=>by cases q; exact k _ _ _ R zD zD (sA.mpr rfl)
def ay {j pos}:DR X (.Constant (.int i) j pos) (cF (.int i)):=sy zU
def ck (h1:sc.kind=.function:=by rfl) (h2:sc.isCoroutine=false:=by rfl) (j:sc.isGenerator=false:=by rfl) (i:N.take P.length=P:=by rfl)
  (d:N.Nodup/\(∀ x∈P,sc.names.lookup x=some .local\/sc.names.lookup x=some .cell)/\∀ y∈sc.names,y.2≠.free:=by decide +kernel):FnScope N P sc:=⟨h1,h2,j,d.1,i,d.2.1,d.2.2⟩
def CF  {j pos}:DE X (.Constant (.bool i) j pos) (cF (.bl i)):=yi Be λσ H Q ⟨H₀,aa,ρ,Hf,d,R,q,k⟩=>by cases q; exact k _ _ _ R zD zD (sP.mpr rfl)
def Ul {j pos}:DE X (.Constant .none j pos) (cF .non):=yi GL λσ H Q ⟨H₀,aa,ρ,Hf,d,R,q,k⟩=>by cases q; exact k _ _ _ R zD zD (tL.mpr rfl)
def vg  {j pos}:DE X (.Constant (.str x) j pos) (cF (.str x)):=yi Zp λσ H Q ⟨H₀,aa,ρ,Hf,d,R,q,k⟩=>by cases q; exact k _ _ _ R zD zD (sR.mpr rfl)
def JS:D->Option V
 | .non=>some .non
 | .bl b=>some (.bl b)
 | .int i=>some (.int i)
 | .str x=>some (.str x)
 | _=>none
def G8 (l:Gl X x) (j:X.mg x=some u) (i:JS d=some v) (r:yJ v u) (hd:(x==("__debug__":Str))=false:=by decide):DE X (.Name x pos) (cF d) :=
 yi (wU l j r hd) λσ H Q ⟨H₀,aa,ρ,Hf,d',R,q,k⟩=>by
  cases q
  refine k _ _ _ R zD zD ?_
  cases d <;> cases i
  .exact tL.mpr rfl
  .exact sP.mpr rfl
  .exact sA.mpr rfl
  .exact sR.mpr rfl
def zd (φ:D->D->Option D) (f g:FE):FE:=λρ=>(f ρ).bind λx=>(g ρ).bind λy=>φ x y
def d_ (X:Cx) (r:R2) (φ:D->D->Option D):Prop :=
 ∀ (σ:St) (ρ:aI) (H₀ aa H Hf:Hp) (x y:V) (dx i d:D) (Q:VK),Rep X.K H₀ aa σ ρ H Hf->uA X.K Hf σ ρ dx x->uA X.K Hf σ ρ i y->φ dx i=some d →
  (∀ v H' ao,Rep X.K H₀ aa σ ρ H' ao->zV H H'->zV Hf ao->af X.K ao d v->Q v H')->r x y H Q
def W0 (s:d_ X r φ) (σ:St) (H:Hp) (Q:VK) (hh:tF X.K (zd φ f g) σ H Q):o6 r (tR X.K f) (tR X.K g) σ H Q:=by
 obtain ⟨H₀,aa,ρ,Hf,d,R,q,k⟩:=hh
 unfold zd at q
 cases hf:f ρ with
 | none=>rw [hf] at q; cases q
 | some dx =>
  cases i:g ρ with
  | none=>rw [hf,i] at q; cases q
  | some j =>
   rw [hf,i] at q
   refine ⟨H₀,aa,ρ,Hf,dx,R,hf,λv H1 w y s1 t1 h1=>⟨H₀,aa,ρ,w,j,y,i,λu H2 aP R2 s2 t2 h2=>?_⟩⟩
   exact s σ ρ H₀ aa H2 aP v u dx j d Q R2 (h1.mono t2) h2 q λl z p x n m o=>k l z p x ((s1.trans s2).trans n) ((t1.trans t2).trans m) o
def F6 (d:cf X (Ay op) r) (l:d_ X r φ) (j:DR X a f) (i:DR X b g):DE X (.BinOp a op b pos) (zd φ f g) :=
 yi (Ba d j i) (W0 l)
def F8 (d:cf X (z_ op) r) (m:d_ X r φ) (l:DR X a f) (j:DR X b g) (i:tO op b=false):DE X (.Compare a [op] [b] pos) (zd φ f g) :=
 yi (Bd d l j i) (W0 m)
def NF (i:iL X r) (m:d_ X r φ) (l:DR X a f) (j:DR X b g) (d:WR b):DE X (.Subscript a b pos) (zd φ f g) :=
 yi (M6 i l j d) (W0 m)
section
variable {K:sx} {H₀ aa:Hp} {σ:St} {ρ:aI} {H Hf:Hp} {v:V}
def uA.int (h:uA K Hf σ ρ (.int i) v):v=.int i:=by
 rcases h with h | ⟨_,_,e,_⟩
 .exact sA.mp h
 .cases e
def uA.bl (h:uA K Hf σ ρ (.bl i) v):v=.bl i:=by
 rcases h with h | ⟨_,_,e,_⟩
 .exact sP.mp h
 .cases e
def uA.str (h:uA K Hf σ ρ (.str i) v):v=.str i:=by
 rcases h with h | ⟨_,_,e,_⟩
 .exact sR.mp h
 .cases e
def uA.non (h:uA K Hf σ ρ .non v):v=.non:=by
 rcases h with h | ⟨_,_,e,_⟩
 .exact tL.mp h
 .cases e
def uA.tup (h:uA K Hf σ ρ (.tup ds) v) (R:Rep K H₀ aa σ ρ H Hf):∃ a xs,v=.ref a/\bJ K H a xs/\zB K Hf ds xs:=by
 rcases h with h | ⟨_,_,e,_⟩
 .obtain ⟨a,xs,e,q,l⟩:=sQ.mp h
  exact ⟨a,xs,e,Z1 R.sf q,l⟩
 .cases e
def uA.lst (h:uA K Hf σ ρ (.lst ds) v) (R:Rep K H₀ aa σ ρ H Hf):∃ a xs,v=.ref a/\aZ K H a xs/\zB K Hf ds xs:=by
 rcases h with h | ⟨i,m,e,e1,e2⟩
 .obtain ⟨a,xs,e,q,l⟩:=sO.mp h
  exact ⟨a,xs,e,R.sf.seq q,l⟩
 .cases e
  obtain ⟨a,d,⟨xs,p2,j⟩,_⟩:=R.ow i _ e1 rfl
  rw [e2] at d; cases d
  exact ⟨a,xs,rfl,aZ.of p2,j⟩
end
def iF (φ:Int->Int->Option D):D->D->Option D
 | .int i,.int j=>φ i j
 | _,_=>none
def Vp (h:iF φ x y=some d):∃ i j,x=.int i/\y=.int j/\φ i j=some d:=by
 cases x <;> cases y <;> first | cases h | exact ⟨_,_,rfl,rfl,h⟩
def Vr {K:sx} (h:JS d=some v):af K H d v:=by
 cases d <;> cases h
 .exact tL.mpr rfl
 .exact sP.mpr rfl
 .exact sA.mpr rfl
 .exact sR.mpr rfl
def Qh (h:∀ i j d,φ i j=some d->C i j/\JS d=some (n i j)):d_ X (rI C n) (iF φ):=by
 intro σ ρ H₀ aa H Hf x y dx p d Q R m l o k
 obtain ⟨i,j,rfl,rfl,hd⟩:=Vp o
 obtain ⟨c,s⟩:=h i j d hd
 exact ⟨i,j,m.int,l.int,c,k _ _ _ R zD zD (Vr s)⟩
def Ya (h:∀ i j d,φ i j=some d->JS d=some (n i j)):d_ X (gk n) (iF φ):=by
 intro σ ρ H₀ aa H Hf x y dx p d Q R m l o k
 obtain ⟨i,j,rfl,rfl,hd⟩:=Vp o
 exact ⟨i,j,m.int,l.int,k _ _ _ R zD zD (Vr (h i j d hd))⟩
end
def big:Nat:=2 ^ 8000
def VE (h:i.natAbs < big):Builtin.Int.intBits i<=8001:=by
 unfold Builtin.Int.intBits
 split
 .exact fo _
 .have:i.natAbs.log2 < 8000:=by
   rcases Nat.eq_zero_or_pos i.natAbs with h0 | a
   .rw [h0]; decide
   .exact (Nat.log2_lt (mj a)).mpr h
  omega
def WT (i j:Int):Prop:=i.natAbs < 2 ^ 64\/j.natAbs < 2 ^ 64\/(i.natAbs < big/\j.natAbs < big)
instance (i j:Int):Decidable (WT i j):=by unfold WT; exact inferInstance
def WT.ok (h:WT i j):IntMulOk i j:=by
 rcases h with h | h | ⟨h1,h2⟩
 .exact .of_left (intBits_le_64 (by omega) (by omega))
 .exact .of_right (intBits_le_64 (by omega) (by omega))
 .exact IntMulOk.of_le (VE h1) (VE h2) (by decide)
def CK (j:Int):Prop:=0 < j/\j < 2 ^ 64
instance (j:Int):Decidable (CK j):=by unfold CK; exact inferInstance
def Pe (i j:Int):Prop:=0<=j/\j<=1000/\i.natAbs < big
instance (i j:Int):Decidable (Pe i j):=by unfold Pe; exact inferInstance
section
variable {X:Cx} {e a b c:Expr} {es:List Expr} {f g h:FE} {fa ga:FA} {ft gt:FT} {pos:Pos} {t t':TE}
def Bm:cf X (Ay .Mult) (rI WT λi j=>.int (i * j)):=opI λ_ _ _ _ _ _ _ d q=>mul_int q d.ok
def Kl:cf X (Ay .FloorDiv) (rI (λ_ j=>CK j) λi j=>.int (i / j)):=opI λi j _ _ _ _ _ d q=>by
 have h1:(0:Int) < j:=d.1
 have h2:j < 2 ^ 64:=d.2
 refine floordiv_int (by omega) (by rw [Int.fdiv_eq_ediv_of_nonneg i (by omega)]; exact q) (.inl (PyProof.noPylong_of_log2 ?_))
 have l:j.natAbs < 2 ^ 64:=by omega
 have:j.natAbs.log2 < 64:=(Nat.log2_lt (by omega)).mpr l
 omega
def YI:D->D->Option D:=iF λi j=>if WT i j then some (.int (i * j)) else none
def wg:D->D->Option D:=iF λi j=>some (.int (i - j))
def Zc:D->D->Option D:=iF λi j=>if 0 < j then some (.int (i % j)) else none
def vT:D->D->Option D:=iF λi j=>if CK j then some (.int (i / j)) else none
def Bq:d_ X (rI WT λi j=>.int (i * j)) YI:=Qh λi j d q=>by
 split at q
 .cases q; exact ⟨by assumption,rfl⟩
 .cases q
def Bp:d_ X (gk λi j=>.int (i - j)) wg:=Ya λi j d q=>by cases q; rfl
def Br:d_ X (rI (λ_ j=>0 < j) λi j=>.int (i % j)) Zc:=Qh λi j d q=>by
 split at q
 .cases q; exact ⟨by assumption,rfl⟩
 .cases q
def Kn:d_ X (rI (λ_ j=>CK j) λi j=>.int (i / j)) vT:=Qh λi j d q=>by
 split at q
 .cases q; exact ⟨by assumption,rfl⟩
 .cases q
def we (i:DR X a f) (d:DR X b g):DE X (.BinOp a .Sub b pos) (zd wg f g):=F6 Ds Bp i d
def Zg (i:DR X a f) (d:DR X b g):DE X (.BinOp a .Mult b pos) (zd YI f g):=F6 Bm Bq i d
def uI (i:DR X a f) (d:DR X b g):DE X (.BinOp a .Mod b pos) (zd Zc f g):=F6 Du Br i d
def kN (i:DR X a f) (d:DR X b g):DE X (.BinOp a .FloorDiv b pos) (zd vT f g):=F6 Kl Kn i d
def WO (φ:D->Option D) (f:FE):FE:=λρ=>(f ρ).bind φ
def Mo:D->Option D
 | .int i=>some (.int (-i))
 | _=>none
def ND (i:DR X a f):DE X (.UnaryOp .USub a pos) (WO Mo f) :=
 yi (M5 CQ i) λσ H Q ⟨H₀,aa,ρ,Hf,d,R,q,k⟩=>by
  unfold WO at q
  cases hf:f ρ with
  | none=>rw [hf] at q; cases q
  | some x =>
   rw [hf] at q
   cases x <;> try cases q
   exact ⟨H₀,aa,ρ,Hf,_,R,hf,λv H1 l j s1 t1 h1=>⟨_,h1.int,k _ _ _ j s1 t1 (sA.mpr rfl)⟩⟩
def pT:D->D->Option D:=iF λi j=>some (.bl (decide (i < j)))
def dW:D->D->Option D:=iF λi j=>some (.bl (decide (j < i)))
def rL:D->D->Option D:=iF λi j=>some (.bl (decide (j<=i)))
def Dy:d_ X (gk λi j=>.bl (decide (i < j))) pT:=Ya λi j d q=>by cases q; rfl
def DC:d_ X (gk λi j=>.bl (decide (j < i))) dW:=Ya λi j d q=>by cases q; rfl
def DD:d_ X (gk λi j=>.bl (decide (j<=i))) rL:=Ya λi j d q=>by cases q; rfl
def l9 (neg:Bool):D->D->Option D:=λx y=>match y with
 | .non=>match x with
  | .non=>some (.bl (!neg))
  | _=>some (.bl neg)
 | _=>none
def KZ {K:sx} (h:uA K Hf σ ρ x v) (R:∃ H₀ aa H,Rep K H₀ aa σ ρ H Hf):decide (v=V.non)=(match x with | .non=>true | _=>false):=by
 obtain ⟨H₀,aa,H,R⟩:=R
 cases x with
 | non=>cases h.non; rfl
 | bl b=>cases h.bl; rfl
 | int b=>cases h.int; rfl
 | str b=>cases h.str; rfl
 | tup ds=>obtain ⟨a,xs,rfl,_⟩:=h.tup R; rfl
 | lst ds=>obtain ⟨a,xs,rfl,_⟩:=h.lst R; rfl
def Qf:d_ X (λx y H Q=>y=.non/\Q (.bl (!decide (x=.non))) H) (l9 true):=by
 intro σ ρ H₀ aa H Hf x y dx m d Q R l j i k
 cases m <;> try cases i
 have e:=KZ l ⟨_,_,_,R⟩
 refine ⟨j.non,?_⟩
 rw [e]
 cases dx <;> cases i <;> exact k _ _ _ R zD zD (sP.mpr rfl)
def aE:D->D->Option D
 | .tup ds,.int i=>atI ds i
 | .lst ds,.int i=>atI ds i
 | .str z,.int i=>if z.length<=sizeLine then (atI z.cps.toList i).map λc=>.str ⟨#[c]⟩ else none
 | _,_=>none
def zB.atI {K:sx} (h:zB K H ds xs) (e:L2.atI ds i=some d):∃ v,L2.atI xs i=some v/\af K H d v:=by
 unfold L2.atI at e ⊢
 rw [h.length]
 cases l:dI ds.length i with
 | none=>rw [l] at e; cases e
 | some j =>
  rw [l] at e
  exact h.get e
set_option tactic.hygienic true in
def DB:d_ X (rIx X.K) aE:=by
 intro σ ρ H₀ aa H Hf x y dx p d Q R o n j k
 unfold aE at j
 split at j
 .obtain ⟨a,xs,rfl,l,m⟩:=o.tup R
  obtain ⟨v,e1,e2⟩:=m.atI j
  exact .inr (.inl ⟨a,xs,_,v,rfl,n.int,l,e1,k _ _ _ R zD zD e2⟩)
 .obtain ⟨a,xs,rfl,l,m⟩:=o.lst R
  obtain ⟨v,e1,e2⟩:=m.atI j
  exact .inl ⟨a,xs,_,v,rfl,n.int,l,e1,k _ _ _ R zD zD e2⟩
 .split at j
  .rename_i z i hz
   cases e:atI z.cps.toList i with
   | none=>rw [e] at j; cases j
   | some c =>
    rw [e] at j
    cases j
    exact .inr (.inr ⟨z,i,c,o.str,n.int,hz,e,k _ _ _ R zD zD (sR.mpr rfl)⟩)
  .cases j
 .cases j
def vi (j:DR X a f) (i:DR X b g) (d:WR b:=by intro _ _; rfl):DE X (.Subscript a b pos) (zd aE f g):=NF Fs DB j i d
def zp:FA:=λ_=>some []
def zb (f:FE) (g:FA):FA:=λρ=>(f ρ).bind λx=>(g ρ).bind λxs=>some (x :: xs)
def qQ  {g:FA} (h:zb f g ρ=some l):∃ x xs,f ρ=some x/\g ρ=some xs/\l=x :: xs:=by
 unfold zb at h
 cases hf:f ρ with
 | none=>rw [hf] at h; cases h
 | some x =>
  cases d:g ρ with
  | none=>rw [hf,d] at h; cases h
  | some xs=>rw [hf,d] at h; cases h; exact ⟨x,xs,rfl,rfl,rfl⟩
def zf:DA X [] zp:=Vd yE λσ H Q ⟨H₀,aa,ρ,Hf,d,R,q,k⟩=>by cases q; exact k _ _ _ R zD zD .nil
def za (l:DE X e f) (j:DA X es fa) (i:sC (e :: es) X.env=(false,eval e X.env) :: sC es X.env:=by rfl):DA X (e :: es) (zb f fa) :=
 Vd (zN l j i) λσ H Q ⟨H₀,aa,ρ,Hf,d,R,q,k⟩=>by
  obtain ⟨x,xs,e1,e2,rfl⟩:=qQ q
  exact ⟨H₀,aa,ρ,Hf,x,R,e1,λv H1 m n s1 t1 h1=>⟨H₀,aa,ρ,m,xs,n,e2,λvs H2 aP R2 s2 t2 h2=>k _ _ _ R2 (s1.trans s2) (t1.trans t2) (.cons (h1.mono t2) h2)⟩⟩
def zx:fN X [] zp:=Vd yE λσ H Q ⟨H₀,aa,ρ,Hf,d,R,q,k⟩=>by cases q; exact k _ _ _ R zD zD .nil
def zj (l:DR X e f) (j:fN X es fa) (i:sC (e :: es) X.env=(false,eval e X.env) :: sC es X.env:=by rfl):fN X (e :: es) (zb f fa) :=
 Vd (zN l j i) λσ H Q ⟨H₀,aa,ρ,Hf,d,R,q,k⟩=>by
  obtain ⟨x,xs,e1,e2,rfl⟩:=qQ q
  exact ⟨H₀,aa,ρ,Hf,x,R,e1,λv H1 m n s1 t1 h1=>⟨H₀,aa,ρ,m,xs,n,e2,λvs H2 aP R2 s2 t2 h2=>k _ _ _ R2 (s1.trans s2) (t1.trans t2) (.cons (h1.mono t2) h2)⟩⟩
def tupF (g:FA):FE:=λρ=>(g ρ).bind λxs=>if xs.length<=sizeLine then some (.tup xs) else none
def xj {n} (h:DA X es fa):DE X (.Tuple es n pos) (tupF fa) :=
 yi (GJ h) λσ H Q ⟨H₀,aa,ρ,Hf,d,R,q,k⟩=>by
  unfold tupF at q
  cases j:fa ρ with
  | none=>rw [j] at q; cases q
  | some xs =>
   rw [j] at q
   simp only [ak] at q
   split at q
   .cases q
    rename_i r
    refine ⟨H₀,aa,ρ,Hf,xs,R,j,λvs H1 s m s1 t1 h1=>⟨by rw [h1.length]; exact r,λp i=>?_⟩⟩
    have l:=zA (o:=.tup vs) (m.sf.free i)
    exact k _ _ _ (m.lay i) (s1.trans (zA i)) (t1.trans l) (sQ.mpr ⟨p,vs,rfl,bJ.of zq,h1.mono l⟩)
   .cases q
def zY (g:FA):FA:=λρ=>(g ρ).bind λxs=>if xs.length<=sizeLine then some xs else none
def zF (h:DA X es fa):DN X (.List es pos) (zY fa) :=
 yi (GM h) λσ H Q ⟨H₀,aa,ρ,Hf,d,R,q,k⟩=>by
  unfold zY at q
  cases j:fa ρ with
  | none=>rw [j] at q; cases q
  | some xs =>
   rw [j] at q
   simp only [ak] at q
   split at q
   .cases q
    rename_i m
    refine ⟨H₀,aa,ρ,Hf,_,R,j,λvs H1 n l s1 t1 h1=>⟨by rw [h1.length]; exact m,λp i=>?_⟩⟩
    exact k _ _ _ _ (l.layN i) (s1.trans (zA i)) t1 h1 zq (l.sf.free i) (s1.free i)
   .cases q
def aO (f:FE):FT:=λρ=>(f ρ).bind fun | .bl b=>some b | _=>none
def VD   {b:Bool} (h:aO f ρ=some b):f ρ=some (.bl b):=by
 unfold aO at h
 cases hf:f ρ with
 | none=>rw [hf] at h; cases h
 | some x=>rw [hf] at h; cases x <;> cases h; rfl
def uz (h:DR X e f) (j:∀ i,isTrue e X.env i=(do let v ← i; standAt e.pos; holding [v] (truthy v)):=by intro _; rfl):DT X e (aO f) :=
 Vb (Y5 h j) λσ H Q ⟨H₀,aa,ρ,Hf,d,R,q,k⟩=>⟨H₀,aa,ρ,Hf,_,R,VD q,λv H1 m l s1 t1 h1=>⟨d,h1.bl,k _ _ l s1 t1⟩⟩
def xP (i:cf X (z_ op) r) (n:d_ X r φ) (m:DR X a f) (l:DR X b g) (j:tO op b=false):DT X (.Compare a [op] [b] pos) (aO (zd φ f g)) :=
 Vb (HQ i m l j) λσ H Q ⟨H₀,aa,ρ,Hf,d,R,q,k⟩=>W0 n σ H _ ⟨H₀,aa,ρ,Hf,_,R,VD q,λv H1 p o s1 t1 h1=>⟨d,sP.mp h1,k _ _ o s1 t1⟩⟩
def B6 (i:DR X a f) (d:DR X b g):DT X (.Compare a [.Lt] [b] pos) (aO (zd pT f g)):=xP M8 Dy i d (kg _)
def WG (i:DR X a f) (d:DR X b g):DT X (.Compare a [.Gt] [b] pos) (aO (zd dW f g)):=xP M9 DC i d (kg _)
def Nw (i:DR X a f) (d:DR X b g):DT X (.Compare a [.GtE] [b] pos) (aO (zd rL f g)):=xP Na DD i d (kg _)
def jC (i:DR X a f) (d:DR X b g):DT X (.Compare a [.IsNot] [b] pos) (aO (zd (l9 true) f g)):=xP Bj Qf i d (kg _)
def Us (f g:FT):FT:=λρ=>(f ρ).bind λb=>if b=true then g ρ else some false
def orT (f g:FT):FT:=λρ=>(f ρ).bind λb=>if b=true then some true else g ρ
def DO (f:FT):FT:=λρ=>(f ρ).bind λb=>some (!b)
variable {wo:List Expr}
def vj  {f:aI->Option Bool} {r:α} (h:(f ρ).bind k=some r):∃ b,f ρ=some b/\k b=some r:=by
 cases hf:f ρ with
 | none=>rw [hf] at h; cases h
 | some x=>rw [hf] at h; exact ⟨x,rfl,h⟩
def qO (d:DT X a ft):DW X (.BoolOp .And [a] pos) ft:=HP d
def Vx (d:DT X a ft):DW X (.BoolOp .Or [a] pos) ft:=UV d
def Zx (l:DT X a ft) (j:DW X (.BoolOp .And (b :: wo) pos) gt):DW X (.BoolOp .And (a :: b :: wo) pos) (Us ft gt) :=
 GB (Di l j) λσ H Q ⟨H₀,aa,ρ,Hf,d,R,q,k⟩=>by
  obtain ⟨b,e1,e2⟩:=vj q
  refine ⟨H₀,aa,ρ,Hf,b,R,e1,λH1 m i s1 t1=>?_⟩
  cases b with
  | true=>exact BM ⟨H₀,aa,ρ,m,d,i,e2,λH2 aP R2 s2 t2=>k _ _ R2 (s1.trans s2) (t1.trans t2)⟩
  | false=>cases e2; exact BN (k _ _ i s1 t1)
def Uh (l:DT X a ft) (j:DW X (.BoolOp .Or (b :: wo) pos) gt):DW X (.BoolOp .Or (a :: b :: wo) pos) (orT ft gt) :=
 GB (HN l j) λσ H Q ⟨H₀,aa,ρ,Hf,d,R,q,k⟩=>by
  obtain ⟨b,e1,e2⟩:=vj q
  refine ⟨H₀,aa,ρ,Hf,b,R,e1,λH1 m i s1 t1=>?_⟩
  cases b with
  | false=>exact BN ⟨H₀,aa,ρ,m,d,i,e2,λH2 aP R2 s2 t2=>k _ _ R2 (s1.trans s2) (t1.trans t2)⟩
  | true=>cases e2; exact BM (k _ _ i s1 t1)
def Ea (h:DW X e ft):DT X e ft:=PW.pt h
def jh (i:DT X a ft):DT X (.UnaryOp .Not a pos) (DO ft) :=
 Vb (Va i) λσ H Q ⟨H₀,aa,ρ,Hf,d,R,q,k⟩=>by
  obtain ⟨b,e1,e2⟩:=vj q
  cases e2
  exact ⟨H₀,aa,ρ,Hf,b,R,e1,λH1 l j s1 t1=>k _ _ j s1 t1⟩
def Pc (f g:FE):FE:=λρ=>(f ρ).bind fun | .bl b=>(if b=true then g ρ else some (.bl false)) | _=>none
def N6 (f:FE):FE:=λρ=>(f ρ).bind fun | .bl b=>some (.bl (!b)) | _=>none
def zM     {r:α} (h:(f ρ).bind k=some r):∃ b,f ρ=some b/\k b=some r:=by
 cases hf:f ρ with
 | none=>rw [hf] at h; cases h
 | some x=>rw [hf] at h; exact ⟨x,rfl,h⟩
def Cd {op} (h:DE X a f):DE X (.BoolOp op [a] pos) f:=GK h
set_option tactic.hygienic true in
def Gd (l:DE X a f) (j:DE X (.BoolOp .And (b :: wo) pos) g):DE X (.BoolOp .And (a :: b :: wo) pos) (Pc f g) :=
 yi (GN l j) λσ H Q ⟨H₀,aa,ρ,Hf,d,R,q,k⟩=>by
  obtain ⟨x,e1,e2⟩:=zM q
  cases x <;> try cases e2
  rename_i b
  refine ⟨H₀,aa,ρ,Hf,_,R,e1,λv H1 m i s1 t1 h1=>⟨b,sP.mp h1,?_⟩⟩
  cases b with
  | true=>exact BM ⟨H₀,aa,ρ,m,d,i,e2,λv H2 aP R2 s2 t2 h2=>k _ _ _ R2 (s1.trans s2) (t1.trans t2) h2⟩
  | false=>cases e2; exact BN (k _ _ _ i s1 t1 (sP.mpr rfl))
set_option tactic.hygienic true in
def NC (i:DE X a f):DE X (.UnaryOp .Not a pos) (N6 f) :=
 yi (Dl i) λσ H Q ⟨H₀,aa,ρ,Hf,d,R,q,k⟩=>by
  obtain ⟨x,e1,e2⟩:=zM q
  cases x <;> try cases e2
  rename_i b
  exact ⟨H₀,aa,ρ,Hf,_,R,e1,λv H1 l j s1 t1 h1=>⟨b,sP.mp h1,k _ _ _ j s1 t1 (sP.mpr rfl)⟩⟩
end
mutual
def bT:D->D->Bool
 | .non,.non=>true
 | .bl a,.bl b=>a==b
 | .bl a,.int b=>(if a then 1 else 0)==b
 | .int a,.bl b=>a==(if b then 1 else 0)
 | .int a,.int b=>a==b
 | .str a,.str b=>a==b
 | .tup a,.tup b=>WD a b
 | .lst a,.lst b=>WD a b
 | _,_=>false
def WD:List D->List D->Bool
 | [],[]=>true
 | x :: xs,y :: ys=>bT x y&&WD xs ys
 | _,_=>false
end
mutual
def dep:D->Nat
 | .tup a=>qD a+1
 | .lst a=>qD a+1
 | _=>0
def qD:List D->Nat
 | []=>0
 | x :: xs=>max (dep x) (qD xs)
end
def kM (h:∀ d∈l,dep d<=k):qD l<=k:=by
 induction l with
 | nil=>simp [qD]
 | cons x xs a =>
  unfold qD
  exact Nat.max_le.mpr ⟨h x ba,a λd hd=>h d (br _ hd)⟩
mutual
theorem wM:∀ d:D,bT d d=true
 | .non=>by simp [bT]
 | .bl b=>by simp [bT]
 | .int i=>by simp [bT]
 | .str x=>by simp [bT]
 | .tup ds=>by unfold bT; exact kJ ds
 | .lst ds=>by unfold bT; exact kJ ds
theorem kJ:∀ ds:List D,WD ds ds=true
 | []=>by simp [WD]
 | d :: ds=>by unfold WD; rw [wM d,kJ ds]; rfl
end
theorem WC:∀ xs ys,WD xs ys=((aV (min xs.length ys.length)).all (λj=>bT (xs.getD j .non) (ys.getD j .non))&&xs.length==ys.length)
 | [],[]=>by simp [WD]
 | [],y :: ys=>by simp [WD]
 | x :: xs,[]=>by simp [WD]
 | x :: xs,y :: ys=>by
  unfold WD
  rw [WC xs ys]
  have e:min (x :: xs).length (y :: ys).length=min xs.length ys.length+1:=by simp only [aM]; omega
  rw [e,EG,List.all_cons,List.all_map]
  simp [Function.comp_def,Bool.and_assoc]
section
variable {X:Cx} {pins:List (Addr×Obj)} {σ:St} {H Hf:Hp} {s:Shared}
inductive SvD (K:sx) (H:Hp):D->V->Prop
 | non:SvD K H .non .non
 | bl (b:Bool):SvD K H (.bl b) (.bl b)
 | int (b:Int):SvD K H (.int b) (.int b)
 | str (b:Str):SvD K H (.str b) (.str b)
 | tup {b:List D} {a:Addr} {xs:List V} (q:bJ K H a xs) (l:zB K H b xs):SvD K H (.tup b) (.ref a)
 | lst {b:List D} {a:Addr} {xs:List V} (q:aZ K H a xs) (l:zB K H b xs):SvD K H (.lst b) (.ref a)
def gi {K:sx} {d:D} {v:V} (h:af K H d v):SvD K H d v:=by
 cases d <;> unfold af at h
 .subst h; exact .non
 .subst h; exact .bl _
 .subst h; exact .int _
 .subst h; exact .str _
 .obtain ⟨a,xs,rfl,q,l⟩:=h; exact .tup q l
 .obtain ⟨a,xs,rfl,q,l⟩:=h; exact .lst q l
def N7 (I:Inv X pins σ H s) (h:bJ X.K H a xs) (h':aZ X.K H a ys):False:=by
 obtain ⟨ah,_,b,_⟩:=I.tuple h
 obtain ⟨its',_,p2,_⟩:=I.list h'
 exact absurd rfl (SeqAt.ne_of_list_tuple p2.isList b)
mutual
theorem af.inj (I:Inv X pins σ H s):∀ {d d':D} {v:V},af X.K H d v->af X.K H d' v->d=d'
 | .non,d',v,h,h'=>by cases gi h; cases gi h'; rfl
 | .bl x,d',v,h,h'=>by cases gi h; cases gi h'; rfl
 | .int x,d',v,h,h'=>by cases gi h; cases gi h'; rfl
 | .str x,d',v,h,h'=>by cases gi h; cases gi h'; rfl
 | .tup x,d',v,h,h'=>by
  cases gi h with
  | tup q l=>cases gi h' with
   | tup a c=>cases I.tuple_inj q a; rw [zB.inj I l c]
   | lst a c=>cases N7 I q a
 | .lst x,d',v,h,h'=>by
  cases gi h with
  | lst q l=>cases gi h' with
   | lst a c=>cases I.list_inj q a; rw [zB.inj I l c]
   | tup a c=>cases N7 I a q
theorem zB.inj (I:Inv X pins σ H s):∀ {ds b:List D} {xs:List V},zB X.K H ds xs->zB X.K H b xs->ds=b
 | [],b,xs,h,h'=>by
  rw [zB.nil_iff] at h; subst h
  cases b with
  | nil=>rfl
  | cons d r=>obtain ⟨_,_,e,_⟩:=sD.mp h'; cases e
 | d :: ds,b,xs,h,h'=>by
  obtain ⟨x,r,rfl,h1,h2⟩:=sD.mp h
  cases b with
  | nil=>rw [zB.nil_iff] at h'; cases h'
  | cons d' m =>
   obtain ⟨j,i,e,g,f⟩:=sD.mp h'
   cases e
   rw [af.inj I h1 g,zB.inj I h2 f]
end
inductive ShV (K:sx) (H:Hp) (s:Shared):D->Value->Prop
 | non:ShV K H s .non .none
 | bl (b:Bool):ShV K H s (.bl b) (.bool b)
 | int (b:Int) (t:Tok):ShV K H s (.int b) (.int b t)
 | str (b:Str) (t:Tok):ShV K H s (.str b) (.str b t)
 | tup {b:List D} {a:Addr} {xs:List V} {ah:List Value} (l:zB K H b xs) (r:yx xs ah) (p:IsTup s.heap a ah.toArray):ShV K H s (.tup b) (.ref a)
 | lst {b:List D} {a:Addr} {xs:List V} {ah:List Value} (l:zB K H b xs) (r:yx xs ah) (p:s.heap.IsList a ah.toArray):ShV K H s (.lst b) (.ref a)
def eS (I:Inv X pins σ H s) (h:af X.K H d v) (r:yJ v u):ShV X.K H s d u:=by
 cases gi h with
 | non=>cases r; exact .non
 | bl=>cases r; exact .bl _
 | int=>obtain ⟨t,rfl⟩:=r; exact .int _ _
 | str=>obtain ⟨t,rfl⟩:=r; exact .str _ _
 | tup q l=>cases r; obtain ⟨ah,r,p,_⟩:=I.tuple q; exact .tup l r p
 | lst q l=>cases r; obtain ⟨ah,r,p,_⟩:=I.list q; exact .lst l r p.isList
def unV:Value->V
 | .bool b=>.bl b
 | .int b _=>.int b
 | .str b _=>.str b
 | .bytes b _=>.byt b
 | .float b _=>.flt b
 | .ref b=>.ref b
 | .type b=>.ty b
 | _=>.non
def Z7 (r:yJ v u):v=unV u:=by
 cases v <;> first | (cases r; rfl) | (obtain ⟨t,rfl⟩:=r; rfl)
open SeqAt in
def Vu {K:sx} {d:D} {A:Around} {y x:Value} {b:Bool} (S:ShV K H s d y) (h:RcAt A s y x b) (e:y=x->b=true):EqAt A s y x b:=λprog w E Q c=>by
 unfold eqBool
 cases S <;> (
  refine tQ (wpAny_ite_split (λa=>?_) (λ_=>ls (h prog w E _ (y_ c))))
  cases e (eq_of_beq a)
  exact ls (Eh (su c)))
open SeqAt in
abbrev RcG (A:Around) (s:Shared) (u a:Value) (b:Bool):Prop:=RcAt A s u a b/\RcNeAt A s u a (!b)
abbrev Hl (d d':D):Prop:=(∃ x y,d=.tup x/\d'=.tup y)\/∃ x y,d=.lst x/\d'=.lst y
open SeqAt in
def oG {K:sx} {A:Around} {d d':D} {u c:Value} (S:ShV K H s d u) (b:ShV K H s d' c) (a:A.units < A0):RcG A s u c (bT d d')\/Hl d d':=by
 cases S with
 | non=>cases b with
  | non=>exact .inl ⟨.none_none,.none_none⟩
  | bl=>exact .inl ⟨.none_bool _,.none_bool _⟩
  | int=>exact .inl ⟨.none_int _ _,.none_int _ _⟩
  | str=>exact .inl ⟨.none_str _ _,.none_str _ _⟩
  | tup _ _ q=>exact .inl ⟨.none_tuple q a,.none_tuple q a⟩
  | lst _ _ q=>exact .inl ⟨.none_list q a,.none_list q a⟩
 | bl=>cases b with
  | non=>exact .inl ⟨.bool_none _,.bool_none _⟩
  | bl=>exact .inl ⟨.bool_bool _ _,.bool_bool _ _⟩
  | int=>exact .inl ⟨.bool_int _ _ _,.bool_int _ _ _⟩
  | str=>exact .inl ⟨.bool_str _ _ _,.bool_str _ _ _⟩
  | tup _ _ q=>exact .inl ⟨.bool_tuple _ q a,.bool_tuple _ q a⟩
  | lst _ _ q=>exact .inl ⟨.bool_list _ q a,.bool_list _ q a⟩
 | int=>cases b with
  | non=>exact .inl ⟨.int_none _ _,.int_none _ _⟩
  | bl=>exact .inl ⟨.int_bool _ _ _,.int_bool _ _ _⟩
  | int=>exact .inl ⟨.int_int _ _ _ _,.int_int _ _ _ _⟩
  | str=>exact .inl ⟨.int_str _ _ _ _,.int_str _ _ _ _⟩
  | tup _ _ q=>exact .inl ⟨.int_tuple _ _ q a,.int_tuple _ _ q a⟩
  | lst _ _ q=>exact .inl ⟨.int_list _ _ q a,.int_list _ _ q a⟩
 | str=>cases b with
  | non=>exact .inl ⟨.str_none _ _,.str_none _ _⟩
  | bl=>exact .inl ⟨.str_bool _ _ _,.str_bool _ _ _⟩
  | int=>exact .inl ⟨.str_int _ _ _ _,.str_int _ _ _ _⟩
  | str=>exact .inl ⟨.str_str _ _ _ _,.str_str _ _ _ _⟩
  | tup _ _ q=>exact .inl ⟨.str_tuple _ _ q a,.str_tuple _ _ q a⟩
  | lst _ _ q=>exact .inl ⟨.str_list _ _ q a,.str_list _ _ q a⟩
 | tup _ _ p=>cases b with
  | non=>exact .inl ⟨.tuple_none p a,.tuple_none p a⟩
  | bl=>exact .inl ⟨.tuple_bool _ p a,.tuple_bool _ p a⟩
  | int=>exact .inl ⟨.tuple_int _ _ p a,.tuple_int _ _ p a⟩
  | str=>exact .inl ⟨.tuple_str _ _ p a,.tuple_str _ _ p a⟩
  | tup _ _ q=>exact .inr (.inl ⟨_,_,rfl,rfl⟩)
  | lst _ _ q=>exact .inl ⟨.tuple_list p q a,.tuple_list p q a⟩
 | lst _ _ p=>cases b with
  | non=>exact .inl ⟨.list_none p a,.list_none p a⟩
  | bl=>exact .inl ⟨.list_bool _ p a,.list_bool _ p a⟩
  | int=>exact .inl ⟨.list_int _ _ p a,.list_int _ _ p a⟩
  | str=>exact .inl ⟨.list_str _ _ p a,.list_str _ _ p a⟩
  | tup _ _ q=>exact .inl ⟨.list_tuple p q a,.list_tuple p q a⟩
  | lst _ _ q=>exact .inr (.inr ⟨_,_,rfl,rfl⟩)
open SeqAt in
mutual
theorem W8 (I:Inv X pins σ H s):∀ (d:D) {A:Around} {d':D} {v C:V} {u E:Value},af X.K H d v->af X.K H d' C->yJ v u->yJ C E->A.units+dep d < A0->RcG A s u E (bT d d')
 | .non,_,_,_,_,_,_,h,h',r,a,c=>(oG (eS I h r) (eS I h' a) (by omega)).elim id (by simp [Hl])
 | .bl _,_,_,_,_,_,_,h,h',r,a,c=>(oG (eS I h r) (eS I h' a) (by omega)).elim id (by simp [Hl])
 | .int _,_,_,_,_,_,_,h,h',r,a,c=>(oG (eS I h r) (eS I h' a) (by omega)).elim id (by simp [Hl])
 | .str _,_,_,_,_,_,_,h,h',r,a,c=>(oG (eS I h r) (eS I h' a) (by omega)).elim id (by simp [Hl])
 | .tup x,A,_,_,_,_,_,h,h',r,a,c=>(oG (eS I h r) (eS I h' a) (by omega)).elim id λe=>by
   simp [Hl] at e; obtain ⟨y,rfl⟩:=e
   cases eS I h r with
   | tup l o p=>cases eS I h' a with
    | tup b q i =>
     have g:=λj (h1:j < _) (h2:j < _)=>Yq I x (A:=A.in1) l b o q (by show A.units+1+_ < A0; unfold dep at c; omega) j h1 h2
     have m:A.units < A0:=by omega
     unfold bT
     rw [WC,<- l.length,<- b.length,o.length,q.length]
     exact ⟨by simpa using RcAt.tuples p i m (λj h1 h2=>g j (by simpa using h1) (by simpa using h2)),by simpa using RcNeAt.tuples p i m (λj h1 h2=>g j (by simpa using h1) (by simpa using h2))⟩
 | .lst x,A,_,_,_,_,_,h,h',r,a,c=>(oG (eS I h r) (eS I h' a) (by omega)).elim id λe=>by
   simp [Hl] at e; obtain ⟨y,rfl⟩:=e
   cases eS I h r with
   | @lst _ _ _ ah l o p=>cases eS I h' a with
    | @lst _ _ _ its' b q i =>
     have g:=λj (h1:j < _) (h2:j < _)=>Yq I x (A:=A.in1) l b o q (by show A.units+1+_ < A0; unfold dep at c; omega) j h1 h2
     have m:A.units < A0:=by omega
     unfold bT
     rw [WC,<- l.length,<- b.length,o.length,q.length]
     by_cases f:ah.length=its'.length
     .rw [f,Nat.min_self]
      exact ⟨by simpa [f] using RcAt.lists p i (by simpa using f) m (λj h1 h2=>g j (by simpa using h1) (by simpa using h2)),by simpa [f] using RcNeAt.lists p i (by simpa using f) m (λj h1 h2=>g j (by simpa using h1) (by simpa using h2))⟩
     .rw [beq_eq_false_iff_ne.mpr f,Bool.and_false]
      exact ⟨RcAt.lists_lengths p i (by simpa using f) m,RcNeAt.lists_lengths p i (by simpa using f) m⟩
theorem Yq (I:Inv X pins σ H s):∀ (ds:List D) {A:Around} {n:List D} {xs ys:List V} {us t:List Value},zB X.K H ds xs->zB X.K H n ys->yx xs us->yx ys t->A.units+qD ds < A0 →
  ∀ (j:Nat) (h1:j < us.length) (h2:j < t.length),EqAt A s us[j] t[j] (bT (ds.getD j .non) (n.getD j .non))
 | [],A,n,xs,ys,us,t,l,b,r,a,c,j,h1,h2=>by
  rw [zB.nil_iff] at l; subst l
  cases r
  simp at h1
 | d :: ds,A,n,xs,ys,us,t,l,b,r,a,c,j,h1,h2=>by
  obtain ⟨x,M,rfl,B,J⟩:=sD.mp l
  cases n with
  | nil =>
   rw [zB.nil_iff] at b; subst b
   cases a
   simp at h2
  | cons d' n =>
   obtain ⟨y,L,rfl,F,z⟩:=sD.mp b
   cases r with
   | cons r G =>
    cases a with
    | cons a w =>
     unfold qD at c
     cases j with
     | zero=>exact Vu (eS I B r) (W8 I d B F r a (by have:=Nat.le_max_left (dep d) (qD ds); omega)).1 (λe=>by
       have e:_=_:=e
       subst e; cases (Z7 r).trans (Z7 a).symm; cases af.inj I B F; exact wM _)
     | succ j=>exact Yq I ds J z G w (by have:=Nat.le_max_right (dep d) (qD ds); omega) j (by simpa using h1) (by simpa using h2)
end
def WE (I:Inv X pins σ H s) (d:D) (A:Around) (d':D) (v a:V) (u b:Value) (h:af X.K H d v) (h':af X.K H d' a) (r:yJ v u) (c:yJ a b) (f:A.units+dep d < A0):SeqAt.EqAt A s u b (bT d d') :=
 Vu (eS I h r) (W8 I d h h' r c f).1 λe=>by subst e; cases (Z7 r).trans (Z7 c).symm; cases af.inj I h h'; exact wM _
def HJ (I:Inv X pins σ H s) (d:D) (A:Around) (d':D) (v a:V) (u b:Value) (h:af X.K H d v) (h':af X.K H d' a) (r:yJ v u) (c:yJ a b) (e:A.units+dep d < A0):SeqAt.RcAt A s u b (bT d d'):=(W8 I d h h' r c e).1
def HI (I:Inv X pins σ H s) (d:D) (A:Around) (d':D) (v a:V) (u b:Value) (h:af X.K H d v) (h':af X.K H d' a) (r:yJ v u) (c:yJ a b) (e:A.units+dep d < A0):SeqAt.RcNeAt A s u b (!bT d d'):=(W8 I d h h' r c e).2
end
def uA.full {K:sx} (h:uA K Hf σ ρ d v) (R:Rep K H₀ aa σ ρ H Hf):af K H d v:=by
 rcases h with h | ⟨i,ds,rfl,e1,e2⟩
 .exact h.mono R.sf
 .obtain ⟨a,b,⟨xs,p2,c⟩,_⟩:=R.ow i _ e1 rfl
  rw [e2] at b; cases b
  exact sO.mpr ⟨a,xs,rfl,aZ.of p2,c.mono R.sf⟩
section
variable {X:Cx} {e a b c:Expr} {es:List Expr} {f g h:FE} {fa ga:FA} {ft gt:FT} {pos:Pos} {t t':TE} {kk:Nat}
def N4 (K:sx):R2:=λx y H Q=>∃ d d',af K H d x/\af K H d' y/\dep d<=100/\Q (.bl (bT d d')) H
def N0 (K:sx):R2:=λx y H Q=>∃ d d',af K H d x/\af K H d' y/\dep d<=100/\Q (.bl (!bT d d')) H
def GP (l:Room kk X.A):cf X (z_ .Eq) (N4 X.K):=by
 intro pins s σ H x y v u Q I j i h
 obtain ⟨d,d',h1,h2,m,q⟩:=h
 exact HJ I d X.A d' x y v u h1 h2 j i (by have:=l.un; omega) X.prog X.w X.xe _ ⟨.bl _,H,I,rfl,q⟩
def Dt (l:Room kk X.A):cf X (z_ .NotEq) (N0 X.K):=by
 intro pins s σ H x y v u Q I j i h
 obtain ⟨d,d',h1,h2,m,q⟩:=h
 exact HI I d X.A d' x y v u h1 h2 j i (by have:=l.un; omega) X.prog X.w X.xe _ ⟨.bl _,H,I,rfl,q⟩
def bt:D->D->Option D:=λx y=>if dep x<=100 then some (.bl (bT x y)) else none
def fk:D->D->Option D:=λx y=>if dep x<=100 then some (.bl (!bT x y)) else none
def GQ:d_ X (N4 X.K) bt:=by
 intro σ ρ H₀ aa H Hf x y dx m d Q R l j i k
 unfold bt at i
 split at i
 .cases i
  exact ⟨dx,m,l.full R,j.full R,by assumption,k _ _ _ R zD zD (sP.mpr rfl)⟩
 .cases i
def Dx:d_ X (N0 X.K) fk:=by
 intro σ ρ H₀ aa H Hf x y dx m d Q R l j i k
 unfold fk at i
 split at i
 .cases i
  exact ⟨dx,m,l.full R,j.full R,by assumption,k _ _ _ R zD zD (sP.mpr rfl)⟩
 .cases i
def CD (d:Room kk X.A) (j:DR X a f) (i:DR X b g):DE X (.Compare a [.Eq] [b] pos) (zd bt f g):=F8 (GP d) GQ j i (kg _)
def vt (d:Room kk X.A) (j:DR X a f) (i:DR X b g):DT X (.Compare a [.Eq] [b] pos) (aO (zd bt f g)):=xP (GP d) GQ j i (kg _)
def Yv (d:Room kk X.A) (j:DR X a f) (i:DR X b g):DT X (.Compare a [.NotEq] [b] pos) (aO (zd fk f g)):=xP (Dt d) Dx j i (kg _)
def iw (X:Cx) (r:List V->Hp->VK->Prop) (φ:List D->Option D):Prop :=
 ∀ (σ:St) (ρ:aI) (H₀ aa H Hf:Hp) (xs:List V) (ds:List D) (d:D) (Q:VK),Rep X.K H₀ aa σ ρ H Hf->uw X.K Hf σ ρ ds xs->φ ds=some d →
  (∀ v H' ao,Rep X.K H₀ aa σ ρ H' ao->zV H H'->zV Hf ao->af X.K ao d v->Q v H')->r xs H Q
def ya (φ:List D->Option D) (fa:FA):FE:=λρ=>(fa ρ).bind φ
def z8  {f:FA} {r:α} (h:(f ρ).bind k=some r):∃ b,f ρ=some b/\k b=some r:=by
 cases hf:f ρ with
 | none=>rw [hf] at h; cases h
 | some x=>rw [hf] at h; exact ⟨x,rfl,h⟩
def Gs (i:iw X r φ) (σ:St) (H:Hp) (Q:VK) (hh:tF X.K (ya φ fa) σ H Q):tCB r (tAR X.K fa) σ H Q:=by
 obtain ⟨H₀,aa,ρ,Hf,d,R,q,k⟩:=hh
 obtain ⟨ds,e1,e2⟩:=z8 q
 exact ⟨H₀,aa,ρ,Hf,ds,R,e1,λvs H1 j l s1 t1 h1=>i σ ρ H₀ aa H1 j vs ds d Q l h1 e2 λv H2 aP R2 s2 t2 h2=>k _ _ _ R2 (s1.trans s2) (t1.trans t2) h2⟩
def yc {id:String} (q:xm X (.builtin id) r) (u:iw X r φ) (n:Gl X x) (m:X.mg x=none) (j:u_ x=some (.builtin id)) (s:fN X (e :: es) fa)
  (l:x≠"__name__":=by decide) (i:(x==("__debug__":Str))=false:=by decide)
  (o:sC (e :: es) X.env=(false,eval e X.env) :: sC es X.env:=by rfl) (d:(tV pos (sC es X.env)).any (·.1)=false:=by rfl):DE X (.Call (.Name x p) (e :: es) [] pos) (ya φ fa) :=
 yi (wL q n m j s l i o d) (Gs u)
def qp (q:xm X (.type T) r) (u:iw X r φ) (n:Gl X x) (m:X.mg x=none) (j:u_ x=some (.type T)) (s:fN X (e :: es) fa)
  (l:x≠"__name__":=by decide) (i:(x==("__debug__":Str))=false:=by decide)
  (o:sC (e :: es) X.env=(false,eval e X.env) :: sC es X.env:=by rfl) (d:(tV pos (sC es X.env)).any (·.1)=false:=by rfl):DE X (.Call (.Name x p) (e :: es) [] pos) (ya φ fa) :=
 yi (xQ q n m j s l i o d) (Gs u)
def uw.one {K:sx} (h:uw K Hf σ ρ [d] xs):∃ v,xs=[v]/\uA K Hf σ ρ d v:=by
 cases h with
 | cons h1 h2=>cases h2; exact ⟨_,rfl,h1⟩
def uw.two {K:sx} (h:uw K Hf σ ρ [d,d'] xs):∃ v i,xs=[v,i]/\uA K Hf σ ρ d v/\uA K Hf σ ρ d' i:=by
 cases h with
 | cons h1 h2 =>
  cases h2 with
  | cons h2 j=>cases j; exact ⟨_,_,rfl,h1,h2⟩
def jA:List D->Option D
 | [.lst ds]=>some (.int ds.length)
 | [.tup ds]=>some (.int ds.length)
 | [.str x]=>if x.length<=sizeLine then some (.int x.length) else none
 | _=>none
def yg:xm X (.builtin "len") (λxs H Q=>(∃ p ys,xs=[.ref p]/\(aZ X.K H p ys\/bJ X.K H p ys)/\Q (.int ys.length) H)\/(∃ z,xs=[.str z]/\z.length<=sizeLine/\Q (.int z.length) H)):=xm.or XM XJ
def yY:iw X (λxs H Q=>(∃ p ys,xs=[.ref p]/\(aZ X.K H p ys\/bJ X.K H p ys)/\Q (.int ys.length) H)\/(∃ z,xs=[.str z]/\z.length<=sizeLine/\Q (.int z.length) H)) jA:=by
 intro σ ρ H₀ aa H Hf xs ds d Q R m i k
 unfold jA at i
 split at i
 .cases i
  obtain ⟨v,rfl,j⟩:=m.one
  obtain ⟨a,ys,rfl,q,l⟩:=j.lst R
  exact .inl ⟨a,ys,rfl,.inl q,k _ _ _ R zD zD (by rw [<- l.length]; exact sA.mpr rfl)⟩
 .cases i
  obtain ⟨v,rfl,j⟩:=m.one
  obtain ⟨a,ys,rfl,q,l⟩:=j.tup R
  exact .inl ⟨a,ys,rfl,.inr q,k _ _ _ R zD zD (by rw [<- l.length]; exact sA.mpr rfl)⟩
 .split at i
  .cases i
   obtain ⟨v,rfl,j⟩:=m.one
   exact .inr ⟨_,by rw [j.str],by assumption,k _ _ _ R zD zD (sA.mpr rfl)⟩
  .cases i
 .cases i
def JA:List D->Option D
 | [.int i,.int j]=>some (.int (if j > i then j else i))
 | _=>none
def D0:List D->Option D
 | [.int i,.int j]=>some (.int (if j < i then j else i))
 | _=>none
def Yo:iw X (λxs H Q=>∃ i j,xs=[.int i,.int j]/\Q (.int (if j > i then j else i)) H) JA:=by
 intro σ ρ H₀ aa H Hf xs ds d Q R n l k
 unfold JA at l
 split at l
 .cases l
  obtain ⟨v,p,rfl,o,m⟩:=n.two
  exact ⟨_,_,by rw [o.int,m.int],k _ _ _ R zD zD (sA.mpr rfl)⟩
 .cases l
def QR:iw X (λxs H Q=>∃ i j,xs=[.int i,.int j]/\Q (.int (if j < i then j else i)) H) D0:=by
 intro σ ρ H₀ aa H Hf xs ds d Q R n l k
 unfold D0 at l
 split at l
 .cases l
  obtain ⟨v,p,rfl,o,m⟩:=n.two
  exact ⟨_,_,by rw [o.int,m.int],k _ _ _ R zD zD (sA.mpr rfl)⟩
 .cases l
def Cy:List D->Option D
 | [.int i]=>if i.natAbs.log2 < 1920 then some (.str (toString i)) else none
 | _=>none
def BY:iw X (λxs H Q=>∃ i,xs=[.int i]/\i.natAbs.log2 < 1920/\Q (.str (toString i)) H) Cy:=by
 intro σ ρ H₀ aa H Hf xs ds d Q R l j k
 unfold Cy at j
 split at j
 .split at j
  .cases j
   obtain ⟨v,rfl,m⟩:=l.one
   exact ⟨_,by rw [m.int],by assumption,k _ _ _ R zD zD (sR.mpr rfl)⟩
  .cases j
 .cases j
def xB (F G:FS):FS:=λρ=>(F ρ).bind λo=>match o with
 | .nx ρ'=>G ρ'
 | o=>some o
def cK:FS:=λρ=>some (.nx ρ)
variable {st:Stmt} {iD wo:List Stmt} {F G:FS}
def qT     {r:α} (h:(F ρ).bind k=some r):∃ b,F ρ=some b/\k b=some r:=by
 cases hf:F ρ with
 | none=>rw [hf] at h; cases h
 | some x=>rw [hf] at h; exact ⟨x,rfl,h⟩
def z5:gz X [] cK:=ka j9 λD' σ H ⟨H₀,aa,ρ,Hf,o,R,q,k⟩=>by cases q; exact k _ _ _ R zD
def ze (h1:DS X st F) (h2:gz X wo G):gz X (st :: wo) (xB F G):=ka (yL h1 h2) λD' σ H ⟨H₀,aa,ρ,Hf,o,R,q,k⟩=>by
 obtain ⟨i,e1,e2⟩:=qT q
 refine ⟨H₀,aa,ρ,Hf,i,R,e1,?_⟩
 cases i with
 | nx ρ' =>
  intro aB H' ao R' s'
  refine ⟨H₀,aa,ρ',ao,o,R',e2,?_⟩
  cases o with
  | nx _=>exact λd H2 aP R2 s2=>k _ _ _ R2 (s'.trans s2)
  | bk _=>exact λd H2 aP R2 s2=>k _ _ _ R2 (s'.trans s2)
  | ct _=>exact λd H2 aP R2 s2=>k _ _ _ R2 (s'.trans s2)
  | rt _=>exact λv d j H2 aP R2 s2 h2=>k _ _ _ _ _ R2 (s'.trans s2) h2
 | bk _=>cases e2; exact k
 | ct _=>cases e2; exact k
 | rt _=>cases e2; exact k
def zo (h1:DS X st F):gz X [st] F:=wR h1
def DV:FS:=λ_=>none
def K6:DS X st DV:=y8 Kb λD' σ H ⟨H₀,aa,ρ,Hf,o,R,q,k⟩=>by cases q
def qH (f:FE):FS:=λρ=>(f ρ).bind λd=>some (.rt d)
def zK (i:DE X e f):DS X (.Return (some e) pos) (qH f):=y8 (kd i) λD' σ H ⟨H₀,aa,ρ,Hf,o,R,q,k⟩=>by
 obtain ⟨d,e1,e2⟩:=zM q
 cases e2
 exact ⟨H₀,aa,ρ,Hf,d,R,e1,λv H1 j l s1 t1 h1=>k v σ ρ H1 j l t1 h1⟩
def cn (c:FT) (F G:FS):FS:=λρ=>(c ρ).bind λb=>if b=true then F ρ else G ρ
def CJ.mono {K:sx} (k:CJ K H₀ aa Hf D' o) (t:zV Hf i):CJ K H₀ aa i D' o:=by
 cases o with
 | nx _=>exact λd H2 aP R2 s2=>k _ _ _ R2 (t.trans s2)
 | bk _=>exact λd H2 aP R2 s2=>k _ _ _ R2 (t.trans s2)
 | ct _=>exact λd H2 aP R2 s2=>k _ _ _ R2 (t.trans s2)
 | rt _=>exact λv d j H2 aP R2 s2 h2=>k _ _ _ _ _ R2 (t.trans s2) h2
def xa {a b:List Stmt} (j:DT X c ft) (m:gz X a F) (l:gz X b G):DS X (.If c a b pos) (cn ft F G):=y8 (UY j m l) λD' σ H ⟨H₀,aa,ρ,Hf,o,R,q,k⟩=>by
 obtain ⟨x,e1,e2⟩:=vj q
 refine ⟨H₀,aa,ρ,Hf,x,R,e1,λH1 d i s1 t1=>?_⟩
 cases x with
 | true=>exact BM ⟨H₀,aa,ρ,d,o,i,e2,k.mono t1⟩
 | false=>exact BN ⟨H₀,aa,ρ,d,o,i,e2,k.mono t1⟩
def vk (i:Nat) (f:FE):FS:=λρ=>(f ρ).bind λd=>some (.nx (ρ.set i (.fr d)))
def zR (i) (p:X.N.Nodup) (n:DE X e f) (hi:X.N[i]? = some x:=by rfl) (j:Loc X.env.scope x:=by first | exact Aw rfl | exact Ab rfl) (l:As e (some (.Name x pos')) pos.line X.env=pure false:=by rfl)
  (m:X.fn x=true\/X.env.scope.names.lookup x=some .local:=by first | exact .inl rfl | exact .inr rfl | assumption):DS X (.Assign [.Name x pos'] e pos) (vk i f) :=
 y8 (u3 p hi j n l m) λD' σ H ⟨H₀,aa,ρ,Hf,o,R,q,k⟩=>by
  obtain ⟨d,e1,e2⟩:=zM q
  cases e2
  exact ⟨H₀,aa,ρ,Hf,d,R,e1,λv H1 s r s1 t1 h1=>k _ _ _ (r.set i h1) t1⟩
def Ur (i:Nat) (f:FA):FS:=λρ=>(f ρ).bind λds=>some (.nx (ρ.set i (.ol ds)))
def xx (i) (y:X.N.Nodup) (v:DN X e fa) (hi:X.N[i]? = some x:=by rfl) (p:Loc X.env.scope x:=by first | exact Aw rfl | exact Ab rfl) (r:As e (some (.Name x pos')) pos.line X.env=pure false:=by rfl)
  (u:X.fn x=true\/X.env.scope.names.lookup x=some .local:=by first | exact .inl rfl | exact .inr rfl | assumption):DS X (.Assign [.Name x pos'] e pos) (Ur i fa) :=
 y8 (u3 y hi p v r u) λD' σ H ⟨H₀,aa,ρ,Hf,o,R,q,k⟩=>by
  obtain ⟨d,e1,e2⟩:=z8 q
  cases e2
  refine ⟨H₀,aa,ρ,Hf,d,R,e1,λa xs H1 B A s1 t1 h1 w s hh=>k _ _ _ (A.setOwn i rfl ⟨xs,w,h1⟩ s (R.s0.free hh) ?_) t1⟩
  intro j sl z o l
  obtain ⟨b,n,p2,_⟩:=R.ow j sl z o
  rw [n] at l; cases l
  obtain ⟨ob,m⟩:=p2.there o
  rw [m] at hh; cases hh
def frz (i:Nat) (ρ:aI):Option aI:=match ρ[i]? with
 | some (.ol ds)=>some (ρ.set i (.fr (.lst ds)))
 | some (.fr _)=>some ρ
 | _=>none
def BX (i:Nat) (F:FS):FS:=λρ=>(frz i ρ).bind F
def uH (i) (h:gz X iD F):gz X iD (BX i F):=ka h λD' σ H ⟨H₀,aa,ρ,Hf,o,R,q,k⟩=>by
 unfold BX frz at q
 split at q
 .rename_i ds e
  obtain ⟨ao,d,R'⟩:=R.freeze e
  exact ⟨H₀,aa,_,ao,o,R',q,k.mono d⟩
 .exact ⟨H₀,aa,_,Hf,o,R,q,k⟩
 .cases q
abbrev FG:=D->aI->Option aI
inductive tG (K:sx) (γ:FG) (v:V) (σ:St) (H:Hp) (Q:St->Hp->Prop):Prop
 |mk (H₀ aa ρ Hf d ρ') (a0:Rep K H₀ aa σ ρ H Hf) (a1:af K Hf d v) (a2:γ d ρ=some ρ') (a3:∀ aB H' ao,Rep K H₀ aa aB ρ' H' ao->zV Hf ao->Q aB H')
abbrev mF:=List D->aI->Option aI
inductive tGs (K:sx) (γ:mF) (vs:List V) (σ:St) (H:Hp) (Q:St->Hp->Prop):Prop
 |mk (H₀ aa ρ Hf ds ρ') (a0:Rep K H₀ aa σ ρ H Hf) (a1:zB K Hf ds vs) (a2:γ ds ρ=some ρ') (a3:∀ aB H' ao,Rep K H₀ aa aB ρ' H' ao->zV Hf ao->Q aB H')
def DG (X:Cx) (tg:Expr) (γ:FG):Prop:=PG X tg (tG X.K γ)
def DGs (X:Cx) (ts:List Expr) (γ:mF):Prop:=nJ X ts (tGs X.K γ)
def GI  {t t':TG} (h:PG X tg t) (i:∀ v σ H Q,t' v σ H Q->t v σ H Q):PG X tg t':=λpins s σ H v u Q I r d=>h pins s σ H v u Q I r (i _ _ _ _ d)
def U6  {t t':nI} (h:nJ X ts t) (i:∀ v σ H Q,t' v σ H Q->t v σ H Q):nJ X ts t':=λpins s σ H v u Q I r d=>h pins s σ H v u Q I r (i _ _ _ _ d)
def zO (i:Nat):FG:=λd ρ=>some (ρ.set i (.fr d))
def zX (i) (m:X.N.Nodup) (hi:X.N[i]? = some x:=by rfl) (j:Loc X.env.scope x:=by first | exact Aw rfl | exact Ab rfl) (l:X.fn x=true\/X.env.scope.names.lookup x=some .local:=by first | exact .inl rfl | exact .inr rfl | assumption):DG X (.Name x pos) (zO i) :=
 GI (HZ m hi j l) λv σ H Q ⟨H₀,aa,ρ,Hf,d,ρ',R,h,q,k⟩=>by
  cases q
  exact k _ _ _ (R.set i h) zD
def kh:mF:=λds ρ=>match ds with
 | []=>some ρ
 | _=>none
def yh (γ:FG) (δ:mF):mF:=λds ρ=>match ds with
 | d :: r=>(γ d ρ).bind λρ'=>δ r ρ'
 | _=>none
def xi:DGs X [] kh:=U6 HY λv σ H Q ⟨H₀,aa,ρ,Hf,ds,ρ',R,h,q,k⟩=>by
 cases ds with
 | nil=>cases q; exact ⟨zB.nil_iff.mp h,k _ _ _ R zD⟩
 | cons _ _=>cases q
def zL (h1:DG X e γ) (h2:DGs X es δ) (m:(An (e :: es) X.env).map (·.2)=assign e X.env :: (An es X.env).map (·.2):=by rfl):DGs X (e :: es) (yh γ δ) :=
 U6 (Kf h1 h2 m) λv σ H Q ⟨H₀,aa,ρ,Hf,ds,ρ',R,h,q,k⟩=>by
  cases ds with
  | nil=>cases q
  | cons d r =>
   obtain ⟨x,j,rfl,l,n⟩:=sD.mp h
   have q:(γ d ρ).bind (λρ'=>δ r ρ')=some ρ':=q
   cases e1:γ d ρ with
   | none=>rw [e1] at q; cases q
   | some i =>
    rw [e1] at q
    exact ⟨x,j,rfl,H₀,aa,ρ,Hf,d,i,R,l,e1,λu H1 o p s1=>⟨H₀,aa,i,o,r,ρ',p,n.mono s1,q,λs H2 aP R2 s2=>k _ _ _ R2 (s1.trans s2)⟩⟩
def jj (n:Nat) (δ:mF):FG:=λd ρ=>match d with
 | .tup ds=>if ds.length=n then δ ds ρ else none
 | _=>none
set_option tactic.hygienic true in
def wD (o:X.calm=true) (h:DGs X es δ) (l:(An es X.env).length=n:=by rfl) (p:(An es X.env).findIdx? (·.1)=none:=by rfl):DG X (.Tuple es kx pos) (jj n δ) :=
 GI (Dj o h l p) λv σ H Q ⟨H₀,aa,ρ,Hf,d,ρ',R,h,q,k⟩=>by
  unfold jj at q
  split at q
  .split at q
   .rename_i ds m
    obtain ⟨a,xs,rfl,j,i⟩:=sQ.mp h
    exact ⟨a,xs,rfl,Z1 R.sf j,by rw [i.length]; exact m,H₀,aa,ρ,Hf,ds,ρ',R,i,q,k⟩
   .cases q
  .cases q
def Mv (γ:FG) (f:FE):FS:=λρ=>(f ρ).bind λd=>(γ d ρ).bind λρ'=>some (.nx ρ')
def WI (m:DG X tg γ) (n:DE X e f) (l:swapsWithSole [tg] e pos.line X.env=pure false:=by rfl) (j:swappedStores [tg] e X.env=pure none:=by rfl)
  (h1:(An [tg] X.env).map (·.2)=[assign tg X.env]:=by rfl):DS X (.Assign [tg] e pos) (Mv γ f) :=
 y8 (GF n m l j h1) λD' σ H ⟨H₀,aa,ρ,Hf,o,R,q,k⟩=>by
  obtain ⟨d,e1,e2⟩:=zM q
  cases i:γ d ρ with
  | none=>rw [i] at e2; cases e2
  | some p =>
   rw [i] at e2
   cases e2
   exact ⟨H₀,aa,ρ,Hf,d,R,e1,λv H1 r s s1 t1 h1=>⟨H₀,aa,ρ,r,d,p,s,h1,i,λu H2 aP R2 s2=>k _ _ _ R2 (t1.trans s2)⟩⟩
end
def ym (γ:FG) (B:FS):List D->aI->Option Out
 | [],ρ=>some (.nx ρ)
 | d :: ds,ρ=>(γ d ρ).bind λb=>(B b).bind λo=>match o with
  | .nx a=>ym γ B ds a
  | .ct a=>ym γ B ds a
  | .bk a=>some (.nx a)
  | .rt d=>some (.rt d)
def JB (fi:FA) (γ:FG) (B:FS):FS:=λρ=>(fi ρ).bind λds=>ym γ B ds ρ
structure Grows (H Hf H' ao:Hp):Prop where
 h:zV H H'
 f:zV Hf ao
 fh:zV ao H'
 new:∀ b o,ao b=some o->Hf b=some o\/H b=none\/Tp o
def Rep.grows {K:sx} (R:Rep K H₀ aa σ ρ H Hf) (g:Grows H Hf H' ao):Rep K H₀ aa σ ρ H' ao:=R.grow g.h g.f g.fh g.new
def Grows.refl (h:zV Hf H):Grows H Hf H Hf:=⟨zD,zD,h,λ_ _ e=>.inl e⟩
def Walks (K:sx) (Hf:Hp) (J:It) (ds:List D):Prop :=
 ∀ (H' ao:Hp),zV Hf ao->zV ao H'->∀ i:Nat,(∀ d,ds[i]? = some d->J.go i H'/\∀ x H2,J.yld i H' x H2->∃ aP,Grows H' ao H2 aP/\af K aP d x)/\(ds.length<=i->J.stop i H')
inductive tI (K:sx) (fi:FA) (σ:St) (H:Hp) (R':It->Hp->Prop):Prop
 |mk (H₀ aa ρ Hf ds) (a0:Rep K H₀ aa σ ρ H Hf) (a1:fi ρ=some ds) (a2:∀ J H' ao,Rep K H₀ aa σ ρ H' ao->zV H H'->zV Hf ao->Walks K ao J ds->R' J H')
def DI (X:Cx) (tg iter:Expr) (fi:FA):Prop:=PI X tg iter (tI X.K fi)
section
variable {X:Cx} {e a b c tg iter:Expr} {es:List Expr} {f g h:FE} {fa ga fi:FA} {ft gt:FT} {pos:Pos} {t t':TE} {kk:Nat} {st:Stmt} {iD wo body:List Stmt} {F G B:FS} {γ:FG}
def U5 {t t':TI} (h:PI X tg iter t) (i:∀ σ H R,t' σ H R->t σ H R):PI X tg iter t':=λpins s σ H R I d=>h pins s σ H R I (i _ _ _ d)
def wC (Y:PassesOwn (sL X.prog X.w) X.A X.env X.xe) (hc:X.calm=true) (hi:DI X tg iter fi) (Z:DG X tg γ) (hb:gz X body B)
  (W:∀ x,Ax iter X.env x=pure x:=by intro _; rfl):DS X (.For tg iter body [] pos) (JB fi γ B) :=
 y8 (GD Y hc hi Z hb W) λD' σ H ⟨H₀,aa,ρ,Hf,o,R,q,k⟩=>by
  obtain ⟨ds,e1,e2⟩:=z8 q
  refine ⟨H₀,aa,ρ,Hf,ds,R,e1,λJ H1 y R1 _ t1 O=>?_⟩
  have k1:=k.mono t1
  refine ⟨λi m σ H=>m=ds.length - i/\i<=ds.length/\∃ ρ ao,Rep X.K H₀ aa σ ρ H ao/\zV y ao/\ym γ B (ds.drop i) ρ=some o,⟨ds.length,by simp,fo _,ρ,y,R1,zD,by simpa using e2⟩,?_⟩
  rintro i m gf H2 ⟨rfl,hi,M,aP,R2,t2,j⟩
  obtain ⟨Q,P⟩:=O H2 aP t2 R2.sf i
  by_cases A:i < ds.length
  .right
   have hd:ds[i]? = some ds[i]:=fq A
   obtain ⟨go,yld⟩:=Q _ hd
   refine ⟨go,?_⟩
   rw [List.drop_eq_getElem_cons A] at j
   unfold ym at j
   cases C:γ ds[i] M with
   | none=>rw [C] at j; cases j
   | some p =>
    rw [C] at j
    simp only [ak] at j
    obtain ⟨I,eb,w⟩:=qT j
    refine ⟨λaB H'=>∃ ρ' ao,Rep X.K H₀ aa aB ρ' H' ao/\zV y ao/\ym γ B (ds.drop (i+1)) ρ'=some o,?_,?_⟩
    .rintro aB H' ⟨ρ',ao,R',t',e'⟩
     exact ⟨ds.length - (i+1),by omega,rfl,A,ρ',ao,R',t',e'⟩
    .intro x H3 T
     obtain ⟨gx,L,U⟩:=yld x H3 T
     refine ⟨H₀,aa,M,gx,ds[i],p,R2.grows L,U,C,λN H4 u R4 S=>?_⟩
     refine ⟨H₀,aa,p,u,I,R4,eb,?_⟩
     have tt:zV y u:=(t2.trans L.f).trans S
     cases I with
     | nx r=>exact λz E s n l=>⟨r,s,n,tt.trans l,w⟩
     | ct r=>exact λz E s n l=>⟨r,s,n,tt.trans l,w⟩
     | bk r=>cases w; exact λz E s n l=>k1 _ _ _ n (tt.trans l)
     | rt d=>cases w; exact λv z r E s n l h5=>k1 _ _ _ _ _ n (tt.trans l) h5
  .left
   have:ds.drop i=[]:=List.drop_eq_nil_of_le (by omega)
   rw [this] at j
   cases j
   exact ⟨P (by omega),k1 _ _ _ R2 t2⟩
def yt (lo hi:Int):List D:=(aV (hi - lo).toNat).map λ(k:Nat)=>D.int (lo+(k:Int))
noncomputable def q9:List D->Option (List D)
 | [.int j]=>@ite _ (-(2 ^ 62)<=j/\j < 2 ^ 62) (AL _) (some (yt 0 j)) none
 | _=>none
noncomputable def j6:List D->Option (List D)
 | [.int i,.int j]=>@ite _ (-(2 ^ 62)<=i/\i < 2 ^ 62 /\ -(2 ^ 62)<=j/\j < 2 ^ 62) (AL _) (some (yt i j)) none
 | _=>none
noncomputable def MV (fa:FA):FA:=λρ=>(fa ρ).bind q9
noncomputable def Dc (fa:FA):FA:=λρ=>(fa ρ).bind j6
def jG {K:sx} {lo:Int}:Walks K Hf (so lo n) ((aV n).map λ(k:Nat)=>D.int (lo+(k:Int))):=λH2 aP t2 m i=>by
 refine ⟨λd hd=>?_,λhle=>?_⟩
 .rw [dX] at hd
  cases e:(aV n)[i]? with
  | none=>rw [e] at hd; cases hd
  | some j =>
   rw [e] at hd
   cases hd
   obtain ⟨h1,h2⟩:=gE.mp e
   simp at h1 h2
   subst h2
   refine ⟨h1,λx o l=>?_⟩
   obtain ⟨rfl,rfl⟩:=l
   exact ⟨aP,Grows.refl m,sA.mpr rfl⟩
 .show n<=i
  simpa using hle
set_option tactic.hygienic true in
def vX (r:Gl X "range") (o:X.mg "range"=none) (s:fN X [a] fa) (m:sC [a] X.env=[(false,eval a X.env)]:=by rfl):DI X tg (.Call (.Name "range" p) [a] [] pos) (MV fa) :=
 U5 (U3 r o s m) λσ H R' ⟨H₀,aa,ρ,Hf,ds,R,q,k⟩=>by
  obtain ⟨l,e1,e2⟩:=z8 q
  unfold q9 at e2
  split at e2
  .split at e2
   .cases e2
    rename_i j d
    refine ⟨H₀,aa,ρ,Hf,_,R,e1,λvs H1 u w s1 t1 h1=>?_⟩
    obtain ⟨v,rfl,i⟩:=h1.one
    refine ⟨j,by rw [i.int],d.1,d.2,k _ _ _ w s1 t1 ?_⟩
    have:=jG (K:=X.K) (Hf:=u) (lo:=0) (n:=j.toNat)
    unfold yt
    rw [Int.sub_zero]
    exact this
   .cases e2
  .cases e2
def qk {p pos:Pos} (s:Gl X "range") (o:X.mg "range"=none) (u:fN X [a,b] fa) (n:sC [a,b] X.env=[(false,eval a X.env),(false,eval b X.env)]:=by rfl) (w:sC [b] X.env=[(false,eval b X.env)]:=by rfl) :
  DI X tg (.Call (.Name "range" p) [a,b] [] pos) (Dc fa) :=
 U5 (U2 s o u n w) λσ H R' ⟨H₀,aa,ρ,Hf,ds,R,q,k⟩=>by
  obtain ⟨l,e1,e2⟩:=z8 q
  unfold j6 at e2
  split at e2
  .split at e2
   .cases e2
    rename_i i j r
    refine ⟨H₀,aa,ρ,Hf,_,R,e1,λvs H1 z x s1 t1 h1=>?_⟩
    obtain ⟨v,y,rfl,m,d⟩:=h1.two
    exact ⟨i,j,by rw [m.int,d.int],r,k _ _ _ x s1 t1 jG⟩
   .cases e2
  .cases e2
def yS (c:FT) (B:FS):Nat->aI->Option Out
 | 0,_=>none
 | n+1,ρ=>(c ρ).bind λb=>if b=true then (B ρ).bind λo=>match o with
   | .nx i=>yS c B n i
   | .ct i=>yS c B n i
   | .bk i=>some (.nx i)
   | .rt d=>some (.rt d)
  else some (.nx ρ)
def Yw (n) (C:PassesOwn (sL X.prog X.w) X.A X.env X.xe) (E:DT X c ft) (I:gz X body B):DS X (.While c body [] pos) (yS ft B n) :=
 y8 (J9 C E I) λD' σ H ⟨H₀,aa,ρ,Hf,o,R,q,k⟩=>by
  refine ⟨λm σ H=>∃ ρ ao,Rep X.K H₀ aa σ ρ H ao/\zV Hf ao/\yS ft B m ρ=some o,⟨n,ρ,Hf,R,zD,q⟩,?_⟩
  rintro m P H2 ⟨x,aP,R2,t2,e2⟩
  cases m with
  | zero=>cases e2
  | succ m =>
   unfold yS at e2
   obtain ⟨b,N,y⟩:=vj e2
   refine ⟨H₀,aa,x,aP,b,R2,N,λQ L z O A=>?_⟩
   have tt:=t2.trans A
   cases b with
   | false=>cases y; exact BN (k _ _ _ z tt)
   | true =>
    obtain ⟨w,M,r⟩:=qT y
    refine BM ⟨λaB H'=>∃ ρ' ao,Rep X.K H₀ aa aB ρ' H' ao/\zV Hf ao/\yS ft B m ρ'=some o,λaB H' h=>⟨m,EA _,h⟩,H₀,aa,x,L,w,z,M,?_⟩
    cases w with
    | nx l=>exact λs u p j i=>⟨l,p,j,tt.trans i,r⟩
    | ct l=>exact λs u p j i=>⟨l,p,j,tt.trans i,r⟩
    | bk l=>cases r; exact λs u p j i=>k _ _ _ j (tt.trans i)
    | rt d=>cases r; exact λv s l u p j i J=>k _ _ _ _ _ j (tt.trans i) J
def xy (i:Nat) (f:FE):FS:=λρ=>(f ρ).bind λd=>match ρ[i]? with
 | some (.ol ds)=>if ds.length < sizeLine then some (.nx (ρ.set i (.ol (ds++[d])))) else none
 | _=>none
def xV (i) (C:DE X e f) (E:X.N[i]? = some x:=by rfl) (z:iu X.env.scope x:=by first | exact Aw rfl | exact Ab (Aw rfl) | exact Ab (Ab rfl))
  (hd:(x==("__debug__":Str))=false:=by decide) (p:(x==("__classdict__":Str))=false:=by decide)
  (m:Ad (.Name x j) "append" X.env (eval (.Name x j) X.env)=eval (.Name x j) X.env:=by rfl)
  (n:((tV aA (sC [e] X.env)).all (λx => !x.1)&&(backToKw aA (A9 [] X.env)).all (λx=>x.1.isSome)
   && decide (([e]:List Expr).length+([]:List A7).length+(if ([]:List A7).isEmpty then 0 else 1) < 30))=true:=by rfl)
  (l:(apos.endLine==aA.line)=true:=by rfl) (u:sC [e] X.env=(false,eval e X.env) :: sC [] X.env:=by rfl) (I:(tV aA (sC [] X.env)).any (·.1)=false:=by rfl)
  (A:As (.Call (.Attribute (.Name x j) "append" apos) [e] [] aA) none pos.line X.env=pure false:=by rfl) :
  DS X (.Expr (.Call (.Attribute (.Name x j) "append" apos) [e] [] aA) pos) (xy i f) :=
 y8 (qI (U8 Al Ei Ej qc (u4 E z hd p) (zN C yE u) m n l u I) A) λD' σ H ⟨H₀,aa,ρ,Hf,o,R,q,k⟩=>by
  obtain ⟨d,e1,e2⟩:=zM q
  split at e2
  .split at e2
   .cases e2
    rename_i ds r hz
    obtain ⟨a,j,⟨xs,p2,O⟩,N,M⟩:=R.ow i _ r rfl
    refine ⟨_,j,.inl ⟨rfl,xs,aZ.of p2⟩,H₀,aa,ρ,Hf,d,R,e1,λv H1 P w s1 t1 h1=>?_⟩
    obtain ⟨Q,s,⟨ys,y,r3⟩,L,J⟩:=w.ow i _ r rfl
    rw [j] at s; cases s
    refine ⟨a,ys,v,rfl,rfl,y,by rw [r3.length]; exact hz,?_⟩
    exact k _ _ _ (w.updOwn r rfl j rfl ⟨_,zq,r3.append (.cons h1 .nil)⟩) t1
   .cases e2
  .cases e2
end
inductive spF (K:sx) (n:Nat) (g:List D->Option D) (vs:List V) (H:Hp) (Q:VK) (E:XK):Prop
 |mk (Hf ds d) (a0:zV Hf H) (a1:zB K Hf ds vs) (a2:ds.length=n) (a3:g ds=some d) (a4:∀ v H' ao,Grows H Hf H' ao->af K ao d v->Q v H')
def wX (n:Nat) (ds:List D):aI:=ds.map Slot.fr++aL (n - ds.length) Slot.no
def Zr (o:Option Out):Option D:=match o with
 | some (.rt d)=>some d
 | some (.nx _)=>some .non
 | _=>none
def vE (m:Nat) (F:FS):List D->Option D:=λds=>Zr (F (wX m ds))
def uY {K:sx} {N:List Str} {H Hf:Hp} {ds:List D} {vs:List V} (sf:zV Hf H) (h:zB K Hf ds vs):Rep K H Hf (L2.start N vs) (wX N.length ds) H Hf where
 s0:=zD
 sf:=sf
 nf:=λb o e=>.inl e
 f0:=zD
 len:=by unfold wX L2.start; simp [h.length]
 fr:=λi d e=>by
  unfold wX at e
  unfold L2.start
  by_cases hi:i < ds.length
  .rw [lQ (by simpa using hi)] at e
   rw [dX] at e
   cases e1:ds[i]? with
   | none=>rw [e1] at e; cases e
   | some d' =>
    rw [e1] at e; cases e
    obtain ⟨v,e2,c⟩:=h.get e1
    refine ⟨v,?_,c⟩
    have f:=h.length
    rw [lQ (by simp; omega),dX,e2]
    rfl
  .rw [mv (by simpa using hi),nz] at e
   split at e <;> cases e
 ow:=λi sl e o=>by
  unfold wX at e
  by_cases hi:i < ds.length
  .rw [lQ (by simpa using hi),dX] at e
   cases e1:ds[i]? with
   | none=>rw [e1] at e; cases e
   | some d'=>rw [e1] at e; cases e; cases o
  .rw [mv (by simpa using hi),nz] at e
   split at e
   .cases e; cases o
   .cases e
 inj:=λi j sl cX a e o g o' _ _=>by
  unfold wX at e
  by_cases hi:i < ds.length
  .rw [lQ (by simpa using hi),dX] at e
   cases e1:ds[i]? with
   | none=>rw [e1] at e; cases e
   | some d'=>rw [e1] at e; cases e; cases o
  .rw [mv (by simpa using hi),nz] at e
   split at e
   .cases e; cases o
   .cases e
section
variable {P:sH} {w:sU} {K:sx} {mg:Str->Option Value} {base:Heap}
set_option tactic.hygienic true in
def yo  {st:Stmt} (i:N.length=m) (g:ps.length=n) (j:Fun K x qual st f fd) (S:FnScope N ps (zi st))
  (body:∀ (aq:Value) (A:Around) (outer:List Env) (s:Shared) (H:Hp) (E:XK),Room k (A.deeper (envOfC qual (zi st) s.heap.objs.size f aq)) →
   gz (xA bF P w K mg base N qual (zi st) f aq A outer s H E).nox (yw st) F) :
  FnOk P w K mg base bF (k+1) f fd ps (spF K n (vE m F)):=by
 subst i g
 refine j.ok S (λvs H Q E h=>?_) (λaq A outer s H vs Q E c h=>?_)
 .obtain ⟨Hf,ds,d,_,h1,h2,_⟩:=h
  rw [h1.length]; exact h2
 .obtain ⟨Hf,ds,d,sf,h1,h2,a,q⟩:=h
  refine ⟨_,body aq A outer s H E c,?_⟩
  unfold vE Zr at a
  have R:=uY (N:=N) sf h1
  have fin:∀ (v:V) (aB:St) (ρ':aI) (H' ao:Hp),Rep K H Hf aB ρ' H' ao->af K ao d v->Q v H':=λv aB ρ' H' ao R' b=>q v H' ao ⟨R'.s0,R'.f0,R'.sf,R'.nf⟩ b
  split at a
  .cases a
   rename_i d e
   exact ⟨H,Hf,_,Hf,_,R,e,λv aB ρ' H' ao R' _ b=>fin v aB ρ' H' ao R' b⟩
  .cases a
   rename_i ρ' e
   exact ⟨H,Hf,_,Hf,_,R,e,λaB H' ao R' _=>fin _ aB ρ' H' ao R' (tL.mpr rfl)⟩
  .cases a
end
section
variable {X:Cx} {e:Expr} {es:List Expr} {fa:FA} {pos:Pos}
def F9 (z:FnOk X.prog X.w X.K X.mg X.base CX k f fd ps (spF X.K n g)) (l:Room k X.A) (s:Gl X x) (o:X.mg x=some (.ref f))
  (r:AI X.K (.ref f)=true) (u:qB X.K fd ps []) (i:ZJ CX X E) (w:DA X (e :: es) fa) (m:∀ ρ ds,fa ρ=some ds->ds.length=n)
  (b:(x==("__debug__":Str))=false:=by decide) (t:sC (e :: es) X.env=(false,eval e X.env) :: sC es X.env:=by rfl) (a:(tV pos (sC es X.env)).any (·.1)=false:=by rfl) :
  DE X (.Call (.Name x p) (e :: es) [] pos) (ya g fa) :=
 yi (vO z l s o r u .nil i w b t a) λσ H Q ⟨H₀,aa,ρ,Hf,d,R,q,k⟩=>by
  obtain ⟨ds,e1,e2⟩:=z8 q
  refine ⟨H₀,aa,ρ,Hf,ds,R,e1,λvs H1 y h s1 t1 h1=>?_⟩
  show spF X.K n g (vs++[]) H1 Q E
  rw [cO]
  exact ⟨y,ds,d,h.sf,h1,m ρ ds e1,e2,λv H2 aP c j=>k _ _ _ (h.grows c) (s1.trans c.h) (t1.trans c.f) j⟩
end
def V8:∀ ρ ds,zp ρ=some ds->ds.length=0:=λρ ds h=>by cases h; rfl
def jr (h:∀ (ρ:aI) (ds:List D),g ρ=some ds->ds.length=n):∀ ρ ds,zb f g ρ=some ds->ds.length=n+1:=λρ ds q=>by
 obtain ⟨x,xs,_,e2,rfl⟩:=qQ q
 simp [h ρ xs e2]
def law_sp {K:sx} {ns:List Int} (c:aZ K H a (ns.map V.int)) (d:g [.lst (ns.map D.int)]=some (.bl true)):spF K 1 g [.ref a] H (λv _=>v=.bl true) λ_ _ _=>False :=
 ⟨H,[.lst (ns.map D.int)],.bl true,zD,.cons (sO.mpr ⟨a,_,rfl,c,zB.ints ns⟩) .nil,rfl,d,λv H' ao _ b=>sP.mp b⟩
def gP:D->String
 | .non=>"NoneType"
 | .bl _=>"bool"
 | .int _=>"int"
 | .str _=>"str"
 | .tup _=>"tuple"
 | .lst _=>"list"
def ZM (t T:String):Bool:=t==T||(t=="bool"&&T=="int")
def Pa (T:String) (d:D):Option D:=some (.bl (ZM (gP d) T))
def CG (T:String):Prop:=∀ (K:sx) (d:D),v_ K (.type (gP d)) (.type T)=some (ZM (gP d) T)
def CS:CG "int":=λK d=>by cases d <;> kernel_rfl
def Hk:CG "bool":=λK d=>by cases d <;> kernel_rfl
def JH:CG "tuple":=λK d=>by cases d <;> kernel_rfl
def Hj:CG "list":=λK d=>by cases d <;> kernel_rfl
section
variable {X:Cx} {pins:List (Addr×Obj)} {σ:St} {H:Hp} {s:Shared} {A:Around} {E:Value->Shared->Prop} {Q:Value->Shared->Prop} {c:Value} {b:Bool}
def KS (I:Inv X pins σ H s) (hd:af X.K H d v) (f:yJ v u) (e:v_ X.K (.type (gP d)) c=some b) (h:∀ tk,Q (.bool b) { s with toks:=tk }) :
  sG (sL X.prog X.w) A (call (.builtin "isinstance") [u,c]) Q E s:=by
 cases d with
 | non=>rw [tL] at hd; subst hd; cases f; exact Ah PySem.W.kitx_none I.kIn AF e (λz=>nomatch z) h
 | bl y=>rw [sP] at hd; subst hd; cases f; exact Ah PySem.W.kitx_bool I.kIn AF e (λz=>nomatch z) h
 | int y=>rw [sA] at hd; subst hd; obtain ⟨t,rfl⟩:=f; exact Ah PySem.W.kitx_int I.kIn AF e (λz=>nomatch z) h
 | str y=>rw [sR] at hd; subst hd; obtain ⟨t,rfl⟩:=f; exact Ah PySem.W.kitx_str I.kIn AF e (λz=>nomatch z) h
 | tup ds =>
  obtain ⟨a,xs,rfl,q,_⟩:=sQ.mp hd
  cases f
  obtain ⟨ah,_,⟨o,h1,h2,_⟩,_⟩:=I.tuple q
  exact Ah PySem.W.kitx_tuple I.kIn ⟨o,h1,h2⟩ e (λz=>nomatch z) h
 | lst ds =>
  obtain ⟨a,xs,rfl,q,_⟩:=sO.mp hd
  cases f
  obtain ⟨ah,_,⟨o,n,h1,h2,_⟩,_⟩:=I.list q
  exact Ah PySem.W.kitx_list I.kIn ⟨o,h1,h2⟩ e (λz=>nomatch z) h
end
section
variable {X:Cx} {e a b c:Expr} {es:List Expr} {f g h:FE} {fa ga:FA} {pos:Pos}
def Jl (l:CG T):xm X (.builtin "isinstance") (λxs H Q=>∃ v d,xs=[v,.ty T]/\af X.K H d v/\Q (.bl (ZM (gP d) T)) H):=by
 intro pins s σ H xs us Q I r h
 obtain ⟨v,d,rfl,hd,q⟩:=h
 obtain ⟨u,m,rfl,j,i⟩:=JF r
 cases i
 exact KS I hd j (l X.K d) λtk=>⟨.bl _,H,I.tok _,rfl,q⟩
def VA (E:CG T) (C:DR X a f) (B:Gl X x) (A:X.mg x=none) (u:Gl X y) (t:X.mg y=none) (w:u_ x=some (.builtin "isinstance"):=by rfl) (j:u_ y=some (.type T):=by rfl)
  (z:x≠"__name__":=by decide) (n:(x==("__debug__":Str))=false:=by decide) (s:y≠"__name__":=by decide) (i:(y==("__debug__":Str))=false:=by decide)
  (o:sC [a,.Name y p2] X.env=(false,eval a X.env) :: sC [.Name y p2] X.env:=by rfl) (m:sC [.Name y p2] X.env=(false,eval (.Name y p2) X.env) :: sC [] X.env:=by rfl) (l:(tV pos (sC [.Name y p2] X.env)).any (·.1)=false:=by rfl) :
  DE X (.Call (.Name x p) [a,.Name y p2] [] pos) (WO (Pa T) f) :=
 yi (wL (Jl E) B A w (zN C (zN (U9 (v:=.ty T) u t j rfl s i) yE m) o) z n o l) λσ H Q ⟨H₀,aa,ρ,Hf,d,R,q,k⟩=>by
  obtain ⟨x,e1,e2⟩:=zM q
  cases e2
  exact ⟨H₀,aa,ρ,Hf,x,R,e1,λv H1 F r s1 t1 h1=>⟨v,x,rfl,h1.full r,k _ _ _ r s1 t1 (sP.mpr rfl)⟩⟩
def Xz (i:Gl X x) (d:∃ t,X.mg x=some (.str z t)) (hd:(x==("__debug__":Str))=false:=by decide):DE X (.Name x pos) (cF (.str z)):=by
 obtain ⟨t,d⟩:=d
 exact G8 i d rfl ⟨t,rfl⟩ hd
def XA (i:Gl X x) (d:∃ t,X.mg x=some (.int z t)) (hd:(x==("__debug__":Str))=false:=by decide):DE X (.Name x pos) (cF (.int z)):=by
 obtain ⟨t,d⟩:=d
 exact G8 i d rfl ⟨t,rfl⟩ hd
end
structure HasFn (P:sH) (w:sU) (K:sx) (mg:Str->Option Value) (base:Heap) (k:Nat) (x:Str) (n:Nat) (g:List D->Option D):Prop where
 ex:∃ (f:Addr) (fd:tU) (ps:List Str),FnOk P w K mg base bF k f fd ps (spF K n g)/\mg x=some (.ref f)/\AI K (.ref f)=true/\qB K fd ps []
def Cf (o:HasFn X.prog X.w X.K X.mg X.base k x n g) (c:Room k X.A) (h:Gl X x) (j:DA X (e :: es) fa) (d:∀ ρ ds,fa ρ=some ds->ds.length=n)
  (b:(x==("__debug__":Str))=false:=by decide) (i:sC (e :: es) X.env=(false,eval e X.env) :: sC es X.env:=by rfl) (a:(tV pos (sC es X.env)).any (·.1)=false:=by rfl) :
  DE X (.Call (.Name x p) (e :: es) [] pos) (ya g fa):=by
 obtain ⟨f,fd,ps,h1,h2,m,l⟩:=o.ex
 exact F9 h1 c h h2 m l Dp j d b i a
def qK (h1 : -(2 ^ 64) < i) (h2:i < 2 ^ 64):WT i j:=.inl (by omega)
def Bx (h1 : -(2 ^ 64) < j) (h2:j < 2 ^ 64):WT i j:=.inr (.inl (by omega))
def uF (h:WT i j):YI (.int i) (.int j)=some (.int (i * j)):=by
 show (if WT i j then _ else _)=_
 rw [if_pos h]
def xg (h:0 < j):Zc (.int i) (.int j)=some (.int (i % j)):=by
 show (if 0 < j then _ else _)=_
 rw [if_pos h]
def uh (h:0 < j) (h2:j < 2 ^ 64):vT (.int i) (.int j)=some (.int (i / j)):=by
 show (if CK j then _ else _)=_
 rw [if_pos ⟨h,h2⟩]
def B3  : bt (.int i) (.int j)=some (.bl (decide (i=j))):=by unfold bt; simp [dep,bT]; rfl
def Bw  : fk (.int i) (.int j)=some (.bl (!decide (i=j))):=by unfold fk; simp [dep,bT]; rfl
def vY (env:Env):List (Str×NameKind)->List (Str×Addr)->Option (List (Str×Addr))
 | [],cs=>some cs
 | (n,k) :: r,cs=>if k==.free then match env.cells.lookup n with
   | some c=>vY env r ((n,c) :: cs)
   | none=>none
  else vY env r cs
def vZ (env:Env):(Str×NameKind)->List (Str×Addr)->Sem (ForInStep (List (Str×Addr))):=λx c=>match x with
 | (name,kind)=>if (kind==sZ)=true then do let a ← cellOf env name; pure (AM ((name,a) :: c)) else pure (AM c)
def Zh (a:(k==sZ)=true) (b:env.cells.lookup n=some c):vZ env (n,k) cs=pure (.yield ((n,c) :: cs)):=by
 unfold vZ cellOf
 simp only [a,if_true,b]
 rfl
def XE (a:(k==sZ)=false):vZ env (n,k) cs=pure (.yield cs):=by
 unfold vZ
 simp only [a,cM,if_false]
theorem qS  : ∀ l b cl,vY env l b=some cl->(forIn l b (vZ env):Sem (List (Str×Addr)))=pure cl
 | [],b,cl,h=>by cases h; rfl
 | (n,k) :: r,b,cl,h=>by
  rw [List.forIn_cons]
  unfold vY at h
  cases a:k==sZ with
  | true =>
   rw [a] at h
   cases d:env.cells.lookup n with
   | none=>rw [d] at h; cases h
   | some c =>
    rw [d] at h
    rw [Zh a d]
    exact qS r _ cl h
  | false =>
   rw [a] at h
   rw [XE a]
   exact qS r _ cl h
def YA (h:vY env scope.names []=some cl):closureFor scope env=pure cl:=by
 have e:=qS (env:=env) scope.names [] cl h
 unfold closureFor
 simp only [bind_pure]
 exact e
theorem qR  : ∀ l a,(∀ n,(n,sZ)∈l->∃ c,env.cells.lookup n=some c)->(∀ x c,a.lookup x=some c->env.cells.lookup x=some c) →
    ∃ cl,vY env l a=some cl/\(∀ x c,cl.lookup x=some c->env.cells.lookup x=some c)/\(∀ x c,a.lookup x=some c->∃ s,cl.lookup x=some s)/\∀ n,(n,sZ)∈l->∃ c,cl.lookup n=some c
  | [],a,_,h2=>⟨a,rfl,h2,λx c e=>⟨c,e⟩,λn p=>by cases p⟩
  | (n,k) :: r,a,h1,h2=>by
    cases h:k==sZ with
    | true =>
      have i:k=.free:=by simpa using h
      subst i
      obtain ⟨c,o⟩:=h1 n ba
      obtain ⟨cl,e1,e2,g,j⟩:=qR r ((n,c) :: a) (λm b=>h1 m (br _ b)) (λx d e=>by
        rw [gu] at e
        cases f:x==n with
        | true => rw [f] at e; cases e; have:x=n:=(by simpa using f); rw [this]; exact o
        | false=>rw [f] at e; exact h2 x d e)
      refine ⟨cl,by unfold vY; rw [h,o]; exact e1,e2,λx d e=>?_,λm b=>?_⟩
      · cases f:x==n with
        | true=>exact g x c (by rw [gu,f])
        | false=>exact g x d (by rw [gu,f]; exact e)
      · rcases aQ.mp b with q | q
        · cases q; exact g n c (by rw [gu]; simp)
        · exact j m q
    | false =>
      obtain ⟨cl,e1,e2,g,j⟩:=qR r a (λm b=>h1 m (br _ b)) h2
      refine ⟨cl,by unfold vY; rw [h]; exact e1,e2,g,λm b=>?_⟩
      rcases aQ.mp b with q | q
      · cases q; simp at h
      · exact j m q
structure CompScope (gW:Scope) (scope:Scope) (own frees:List Str):Prop where
 kind:scope.kind=.function
 nocell:∀ y∈scope.names,y.2≠.cell
 loc:∀ y∈scope.names,y.2=.local->scope.names.lookup y.1=some .local
 free:∀ y∈scope.names,y.2=.free->gW.names.lookup y.1=some .cell\/gW.names.lookup y.1=some .free
 capt:∀ x∈frees,(gW.names.lookup x=some .cell\/gW.names.lookup x=some .free)/\scope.names.lookup x=some .free
theorem Zt  : ∀ {l:List (Str×α)} {x:Str} {k:α},l.lookup x=some k->(x,k)∈l
  | [],_,_,h=>by simp at h
  | (n,k) :: r,x,b,h=>by
    rw [gu] at h
    cases a:x==n with
    | true => rw [a] at h; cases h; have:x=n:=(by simpa using a); subst this; exact ba
    | false=>rw [a] at h; exact br _ (Zt h)
theorem Zo {env:Env} {x:Str}:∀ {l:List (Str×NameKind)},(∀ y∈l,y.2≠.cell) →
    ((l.map λ(n,k)=>if (k==sZ&&env.scope.kind==.function&&env.kindOf n==some .cell) then (n,NameKind.cell) else (n,k)).lookup x=some .cell ∨
     (l.map λ(n,k)=>if (k==sZ&&env.scope.kind==.function&&env.kindOf n==some .cell) then (n,NameKind.cell) else (n,k)).lookup x=some .free)->(x,sZ)∈l
  | [],_,h=>by simp at h
  | (n,k) :: r,d,h=>by
    have c:=@Zo env x r (λy e=>d y (br _ e))
    have f:k≠.cell:=d (n,k) ba
    rw [aH] at h
    by_cases b:(k==sZ&&env.scope.kind==.function&&env.kindOf n==some .cell)=true
    · simp only [b,if_true,gu] at h
      cases a:x==n with
      | true =>
        have e1:x=n:=by simpa using a
        have e2:k=.free:=by simp at b; exact b.1.1
        subst e1 e2; exact ba
      | false=>rw [a] at h; exact br _ (c h)
    · simp only [b,cM,if_false,gu] at h
      cases a:x==n with
      | true =>
        rw [a] at h
        have e1:x=n:=by simpa using a
        subst e1
        rcases h with h | h
        · cases h; exact absurd rfl f
        · cases h; exact ba
      | false=>rw [a] at h; exact br _ (c h)
theorem qZ {env:Env} {x:Str}:∀ {l:List (Str×NameKind)},l.lookup x=some .free →
    ((l.map λ(n,k)=>if (k==sZ&&env.scope.kind==.function&&env.kindOf n==some .cell) then (n,NameKind.cell) else (n,k)).lookup x=some .cell ∨
     (l.map λ(n,k)=>if (k==sZ&&env.scope.kind==.function&&env.kindOf n==some .cell) then (n,NameKind.cell) else (n,k)).lookup x=some .free)
  | [],h=>by simp at h
  | (n,k) :: r,h=>by
    have b:=@qZ env x r
    rw [aH]
    rw [gu] at h
    by_cases c:(k==sZ&&env.scope.kind==.function&&env.kindOf n==some .cell)=true
    · simp only [c,if_true,gu]
      cases a:x==n with
      | true=>exact .inl rfl
      | false=>rw [a] at h; exact b h
    · simp only [c,cM,if_false,gu]
      cases a:x==n with
      | true=>rw [a] at h; exact .inr h
      | false=>rw [a] at h; exact b h
def XD (I:Nat->Shared->Prop)
  (b:∀ n s,I n s->sG (sL prog w) A (pyNext it) (λr a=>match r with
   | none=>R (.ok .next) a
   | some v=>sG (sL prog w) A (A6 target it v) (λ_ e=>sG (sL prog w) A (assign target env v) (λ_ j =>
     sG (sL prog w) A (forIn ifs true λc r=>if r=true then do let ok ← isTrue c env (eval c env); pure (AM ok) else pure (AM r)) (λok d =>
      if ok=true then sG (sL prog w) A (eval elt env) (λx g =>
       sG (sL prog w) A (call (.builtin "list.append") [acc,x]) (λ_ f=>∃ m,m < n/\I m f) (λ_ _=>False) g) (λ_ _=>False) d
      else ∃ m,m < n/\I m d) (λ_ _=>False) j) (λ_ _=>False) e) (λ_ _=>False) a) (λ_ _=>False) s)
  (n:Nat) (h:I n s) :
  codeAny (sL prog w) A (.compLoop (.ListComp elt [⟨target,iter,ifs,0⟩] scope pos) 0 it acc env) R s:=by
 refine codeAny_loop rfl I (λn s o=>?_) n h
 show sG _ A ((compTurn (.ListComp elt [⟨target,iter,ifs,0⟩] scope pos) 0 it acc env).onRaise (λx=>do noteFrame x env; theTreesLotGoes x)) _ _ s
 refine wpAny_noted ?_
 rw [compTurn_list]
 refine ls (Ep (ls (sN (b n s o) (λr a h₁=>?_) λ_ _ h'=>h'.elim)))
 cases r with
 | none=>exact su h₁
 | some v =>
  refine ls (sN h₁ (λ_ e l=>?_) λ_ _ h'=>h'.elim)
  refine ls (sN l (λ_ j q=>ls (sN q (λok d i=>?_) λ_ _ h'=>h'.elim)) λ_ _ h'=>h'.elim)
  cases ok with
  | false=>exact su ⟨rfl,i⟩
  | true =>
   exact ls (ls (sN i (λx g t=>ls (sN t (λ_ f p=>su (su ⟨rfl,p⟩)) λ_ _ h'=>h'.elim)) λ_ _ h'=>h'.elim))
def dZ (X:Cx) (scope:Scope) (cl:List (Str×Addr)) (C:Addr) (N:List Str) (s:Shared) (H:Hp) (fp:List Addr):Cx :=
 { X with N:=N,s₀:=s,H₀:=H,env:=compEnvC scope cl C X.env,outer:=X.stack,stack:=X.stack,ex:=fp,fn:=λ_=>false,pn:=[],xe:=λ_ _=>False }
def Mc (ρ:aI) (j:Nat):Slot:=match ρ[j]? with
 | some (.fr d)=>.fr d
 | _=>.no
def yT (γ:FG) (ft:FT) (f:FE):List D->aI->Option (List D)
 | [],_=>some []
 | d :: ds,ρ=>(γ d ρ).bind λa=>(ft a).bind λb=>if b=true then (f a).bind λy=>(yT γ ft f ds a).bind λys=>some (y :: ys) else yT γ ft f ds a
def qq (n:Nat) (caps:List Nat) (ρ:aI):aI:=aL n .no++caps.map (Mc ρ)
def vD (n:Nat) (caps:List Nat) (fi:FA) (γ:FG) (ft:FT) (f:FE):FA:=λρ=>(fi ρ).bind λds=>if ds.length<=sizeLine then yT γ ft f ds (qq n caps ρ) else none
def DQ (X:Cx) (a:List Expr) (ft:FT):Prop :=
 ∀ (pins:List (Addr×Obj)) (s:Shared) (σ:St) (H:Hp) (Q:Bool->Hp->Prop),Inv X pins σ H s->tT X.K ft σ H Q →
  sG (sL X.prog X.w) X.A (forIn a true λc r=>if r=true then do let ok ← isTrue c X.env (eval c X.env); pure (AM ok) else pure (AM r)) (TP X pins σ Q) X.xe s
def eG:FT:=λ_=>some true
def wa  : DQ X [] eG:=λpins s σ H Q I h=>by
 obtain ⟨H₀,aa,ρ,Hf,b,R,q,k⟩:=h
 cases q
 exact wpAny_tests_nil ⟨H,I,k _ _ R zD zD⟩
def ji (h:DT X c ft):DQ X [c] ft:=λpins s σ H Q I a=>wpAny_tests_one (h pins s σ H Q I a)
def Yz (n:Nat) (caps:List Nat) (σ:St):St:=aL n none++caps.map (λj=>σ.getD j none)
section
variable {X:Cx} {scope:Scope} {own frees:List Str} {caps:List Nat} {cl:List (Str×Addr)}
def Ma {pins:List (Addr×Obj)} {s:Shared} {σ:St} {H:Hp} {fp:List Addr} {C:Addr} {N:List Str} (I:Inv X pins σ H s) (S:CompScope X.env.scope scope own frees) (d:∀ b∈fp,uM X pins H b) (i:∀ b∈fp,b < s.heap.objs.size)
  (f:∀ x c,cl.lookup x=some c->X.env.cells.lookup x=some c) (l:∀ n,(n,sZ)∈scope.names->∃ c,cl.lookup n=some c) (g:s.heap.objs.size<=C):(dZ X scope cl C N s H fp).Ok where
 mod:=I.ok.mod
 kind:=S.kind
 glob:=I.ok.glob
 blt:=I.ok.blt
 above:=g
 inj:=λx y c e1 e2=>I.ok.inj x y c (f x c e1) (f y c e2)
 has:=λx j=>l x (Zo S.nocell j)
 cab:=λx c h=>by cases h
 hd:=I.ok.hd
 frames:=I.ok.frames
 stk:=.inl rfl
 exf:=λb a=>⟨cb (dY (i b a) g),λx c e=>(d b a).2.2.2.2.1 x c (f x c e)⟩
 bs:=I.bs
 bsz:=gq I.ok.bsz I.sz
 noex:=λb o e a=>by
  rcases (d b a).2.2.2.1 with z | z
  .exact I.ok.noex b o e z
  .exact absurd (dY (sE e) (gq I.ok.bsz z)) (ml _)
 exfs:=λb a z=>by
  rcases aQ.mp (I.stkSub b z) with q | q
  .exact (d b a).2.1 q
  .exact (d b a).2.2.1 q
 funs:=I.stack
 frf:=I.stkFree
def By  {N:List Str} (h:caps.map (λj=>N[j]?)=frees.map some) {k:Nat} (e:frees[k]? = some x):∃ j,caps[k]? = some j/\N[j]? = some x:=by
 have:=congrArg (λl=>l[k]?) h
 simp only [dX,e,bg] at this
 cases a:caps[k]? with
 | none=>rw [a] at this; cases this
 | some j=>rw [a] at this; exact ⟨j,rfl,by simpa using this⟩
def Cg   {σ:St} (I:Inv X pins σ H s) (S:CompScope X.env.scope scope own frees) (t:caps.map (λj=>X.N[j]?)=frees.map some) (T:∀ b∈fp,uM X pins H b) (N:∀ b∈fp,b < s.heap.objs.size)
  (h:∀ x c,cl.lookup x=some c->X.env.cells.lookup x=some c) (E:∀ n,(n,sZ)∈scope.names->∃ c,cl.lookup n=some c) {C:Addr} (g:C=s.heap.objs.size+1) (M:h'.Ns C λ_=>none)
  (d:Heap.SameBut C ((s.heap.push { cls:=.type "list",dict:=none,data:=.seq #[] }).push { cls:=.type "dict",data:=.dict #[] }) h') :
  Inv (dZ X scope cl C (own++frees) s H fp) [] (Yz own.length caps σ) (upd H s.heap.objs.size (.lst [])) { s with heap:=h',toks:=t' }:=by
 have l:∀ b u,s.heap.get? b=some u->h'.get? b=some u:=λb u e=>(d.2 b (by rw [g]; exact cb (rO (sE e)))).trans (mo _ (mo _ e))
 have R:h'.get? s.heap.objs.size=some { cls:=.type "list",dict:=none,data:=.seq #[] }:=(d.2 _ (by rw [g]; exact cb (EA _))).trans (mo _ (sF _ rfl))
 have Q:H s.heap.objs.size=none:=I.hok.fresh (aU _)
 have F:H C=none:=I.hok.fresh (by rw [g]; exact il _)
 have q:C≠s.heap.objs.size:=by rw [g]; exact Nat.succ_ne_self _
 have new:y7 X.prog X.w (upd H s.heap.objs.size (.lst [])) h' s.heap.objs.size (.lst []):=⟨by decide,[],0,.nil,R⟩
 refine ⟨Ma I S T N h E (by rw [g]; exact il _),rfl,I.bare,Un.laid l (aU _) Q,⟨λ_=>none,M,?_⟩,?_,?_,?_,?_,I.hok.laid l (aU _) new,?_⟩
 .intro i x v e1 e2 W
  have e1:(own++frees)[i]? = some x:=e1
  unfold Yz at e2
  by_cases h1:i < own.length
  .rw [lQ (by simpa using h1),nz,if_pos h1] at e2
   cases e2
  .rw [mv (by simpa using h1)] at e2
   rw [mv (by omega)] at e1
   have B:caps.length=frees.length:=by have:=congrArg List.length t; simpa using this
   simp only [g2x] at e2
   .rw [dX] at e2
    obtain ⟨j,L,J⟩:=By t e1
    rw [L] at e2
    have e2:σ.getD j none=some v:=by simpa using e2
    have G:σ[j]? = some (some v):=by
     rw [fL] at e2
     cases z:σ[j]? with
     | none=>rw [z] at e2; cases e2
     | some w=>rw [z] at e2; simp at e2; rw [e2]
    obtain ⟨y,a⟩:=S.capt x (g3d e1)
    obtain ⟨m,Y,P⟩:=I.loc
    obtain ⟨u,r,lk⟩:=P j x v J G (.inr y)
    refine ⟨u,r,?_⟩
    rcases lk with ⟨k1,_⟩ | ⟨k1,c,k2,k3⟩
    .have k1:X.env.scope.names.lookup x=some .local:=k1
     rcases y with z | z <;> rw [z] at k1 <;> cases k1
    .obtain ⟨U,A⟩:=E x (Zt a)
     have z:=h x U A
     rw [k2] at z; cases z
     obtain ⟨o,f,hd⟩:=k3
     exact .inr ⟨qZ a,c,A,o,l _ _ f,hd⟩
 .intro x c e
  obtain ⟨v,o,f,hd⟩:=I.cell x c (h x c e)
  exact ⟨v,o,l _ _ f,hd⟩
 .show (upd H s.heap.objs.size (.lst [])) C=none
  rw [zu q]; exact F
 .intro x c e
  have z:=I.freeC x c (h x c e)
  obtain ⟨v,o,f,hd⟩:=I.cell x c (h x c e)
  show (upd H s.heap.objs.size (.lst [])) c=none
  rw [zu (cb (sE f))]; exact z
 .intro p O; cases O
 .show (Yz own.length caps σ).length=(own++frees).length
  have B:caps.length=frees.length:=by have:=congrArg List.length t; simpa using this
  simp [Yz,B]
def qy (ρ:aI):Prop:=∀ (i:Nat) (sl:Slot),ρ[i]? = some sl->sl.own=false
def Rep.rebase {K:sx} {H₀ aa:Hp} {σ:St} {ρ:aI} {H Hf H':Hp} (R:Rep K H₀ aa σ ρ H Hf) (b:qy ρ) (c:zV Hf H'):Rep K H' Hf σ ρ H' Hf where
 s0:=zD
 sf:=c
 nf:=λ_ _ e=>.inl e
 f0:=zD
 len:=R.len
 fr:=R.fr
 ow:=λi sl e o=>by rw [b i sl e] at o; cases o
 inj:=λi j sl cX a e o=>by rw [b i sl e] at o; cases o
def uL (γ:FG):Prop:=∀ d ρ ρ',γ d ρ=some ρ'->qy ρ->qy ρ'
def qy.set (h:qy ρ) (i) (d:D):qy (ρ.set i (.fr d)):=λj sl e=>by
 rw [f_] at e
 split at e
 .split at e
  .cases e; rfl
  .cases e
 .exact h j sl e
def z6  : uL (zO i):=λd ρ ρ' e h=>by cases e; exact h.set i d
def jE (δ:mF):Prop:=∀ ds ρ ρ',δ ds ρ=some ρ'->qy ρ->qy ρ'
def km:jE kh:=λds ρ ρ' e h=>by
 cases ds with
 | nil=>cases e; exact h
 | cons _ _=>cases e
def xb (h1:uL γ) (h2:jE δ):jE (yh γ δ):=λds ρ ρ' e h=>by
 cases ds with
 | nil=>cases e
 | cons d r =>
  have e:(γ d ρ).bind (λρ'=>δ r ρ')=some ρ':=e
  cases e1:γ d ρ with
  | none=>rw [e1] at e; cases e
  | some a=>rw [e1] at e; exact h2 r a ρ' e (h1 d ρ a e1 h)
def Xl (h:jE δ):uL (jj n δ):=λd ρ ρ' e a=>by
 unfold jj at e
 split at e
 .split at e
  .exact h _ ρ ρ' e a
  .cases e
 .cases e
def qy.comp    : qy (qq n caps ρ):=λi sl e=>by
 unfold qq at e
 by_cases h:i < n
 .rw [lQ (by simpa using h),nz,if_pos h] at e
  cases e; rfl
 .rw [mv (by simpa using h),dX] at e
  cases q:caps[i - (aL n Slot.no).length]? with
  | none=>rw [q] at e; cases e
  | some j =>
   rw [q] at e
   cases e
   unfold Mc
   split <;> rfl
def J5 {K:sx} {H₀ aa:Hp} {σ:St} {ρ:aI} {H Hf H':Hp} {n:Nat} {caps:List Nat} (R:Rep K H₀ aa σ ρ H Hf) (f:zV Hf H'):Rep K H' Hf (Yz n caps σ) (qq n caps ρ) H' Hf where
 s0:=zD
 sf:=f
 nf:=λ_ _ e=>.inl e
 f0:=zD
 len:=by simp [qq,Yz]
 fr:=λi d e=>by
  unfold qq at e
  unfold Yz
  by_cases h:i < n
  .rw [lQ (by simpa using h),nz,if_pos h] at e
   cases e
  .rw [mv (by simpa using h),dX] at e ⊢
   simp only [g2x] at e ⊢
   cases q:caps[i - n]? with
   | none=>rw [q] at e; cases e
   | some j =>
    rw [q] at e
    simp only [bg,g2j.injEq] at e ⊢
    unfold Mc at e
    split at e
    .cases e
     rename_i e
     obtain ⟨v,c,b⟩:=R.fr j d e
     exact ⟨v,by rw [fL,c]; rfl,b⟩
    .cases e
 ow:=λi sl e o=>by rw [qy.comp i sl e] at o; cases o
 inj:=λi j sl cX a e o=>by rw [qy.comp i sl e] at o; cases o
def Grows.trans (a:Grows H Hf H1 d) (b:Grows H1 d H2 aP):Grows H Hf H2 aP :=
 ⟨a.h.trans b.h,a.f.trans b.f,b.fh,λc o e=>by
  rcases b.new c o e with q | q | q
  .exact a.new c o q
  .exact .inr (.inl (a.h.free q))
  .exact .inr (.inr q)⟩
def Rep.toGrows {K:sx} (R:Rep K H Hf σ ρ H' ao):Grows H Hf H' ao:=⟨R.s0,R.f0,R.sf,R.nf⟩
def WL (h:yT γ ft f (d :: ds) ρ=some ys) :
  ∃ a b,γ d ρ=some a/\ft a=some b/\((b=true/\∃ y r,f a=some y/\yT γ ft f ds a=some r/\ys=y :: r)\/(b=false/\yT γ ft f ds a=some ys)):=by
 unfold yT at h
 cases e1:γ d ρ with
 | none=>rw [e1] at h; cases h
 | some a =>
  rw [e1] at h
  simp only [ak] at h
  cases e2:ft a with
  | none=>rw [e2] at h; cases h
  | some b =>
   rw [e2] at h
   simp only [ak] at h
   refine ⟨a,b,rfl,e2,?_⟩
   cases b with
   | false=>exact .inr ⟨rfl,by simpa using h⟩
   | true =>
    simp only [if_true] at h
    cases e:f a with
    | none=>rw [e] at h; cases h
    | some y =>
     rw [e] at h
     simp only [ak] at h
     cases c:yT γ ft f ds a with
     | none=>rw [c] at h; cases h
     | some r=>rw [c] at h; cases h; exact .inl ⟨rfl,y,r,rfl,rfl,rfl⟩
def XC         {σ:St}
  (hc:X.calm=true) (S:CompScope X.env.scope scope own frees) (c7:caps.map (λj=>X.N[j]?)=frees.map some) (kn:uL γ)
  (body:∀ cl C s H fp,DG (dZ X scope cl C (own++frees) s H fp) tg γ/\DQ (dZ X scope cl C (own++frees) s H fp) ifs ft/\DE (dZ X scope cl C (own++frees) s H fp) elt f)
  (c1:∀ x c,cl.lookup x=some c->X.env.cells.lookup x=some c) (c2:∀ n,(n,sZ)∈scope.names->∃ c,cl.lookup n=some c)
  (I:Inv X pins σ h a) (T:Turn X.prog X.w X.K tg J fp it tn) (st:tn 0 a.heap) (L:∀ b∈fp,uM X pins h b) (R:Rep X.K H₀ aa σ ρ h W) (wk:Walks X.K W J ds) (hz:ds.length<=sizeLine)
  (hgo:yT γ ft f ds (qq own.length caps ρ)=some ys) {RR:Value->Addr->Result->Shared->Prop}
  (hRR:∀ D C s' H' ao xs,Inv X pins σ H' s'->(∃ m,s'.heap.Ns C m)->uM X pins H' C->Grows h W H' ao->zB X.K ao ys xs->H' D=some (.lst xs)->ao D=none->h D=none->RR (.ref D) C (.ok .next) s') :
  sG (sL X.prog X.w) X.A (newList []) (λacc bY=>sG (sL X.prog X.w) X.A (newFunctionEnv scope X.env.globals cl [] X.env.qual none .none (some X.env)) (λsd gg =>
   codeAny (sL X.prog X.w) X.A (.compStart (.ListComp elt [⟨tg,iter,ifs,0⟩] scope pos) 0 (.ref it) acc { sd with scope:=relabel scope X.env }) (RR acc sd.locals) gg) E bY) E a:=by
 have m7:∀ b∈fp,b < a.heap.objs.size:=λb g=>by
  obtain ⟨o,ho,_⟩:=T.obj 0 _ st b g
  exact sE ho
 refine tX (wpAny_newFunctionEnv S.nocell (by intro y hy; simp at hy) (λh₁ fC eK=>?_) S.kind)
 dsimp only at fC eK ⊢
 have hC:(a.heap.push { cls:=.type "list",dict:=none,data:=.seq ([]:List Value).toArray }).objs.size=a.heap.objs.size+1:=by rw [AW]
 generalize hCe:(a.heap.push { cls:=.type "list",dict:=none,data:=.seq ([]:List Value).toArray }).objs.size=C at hC fC eK ⊢
 obtain ⟨b1,b2,b3⟩:=body cl C a h fp
 have hX:h a.heap.objs.size=none:=I.hok.fresh (aU _)
 have IC:Inv (dZ X scope cl C (own++frees) a h fp) [] (Yz own.length caps σ) (upd h a.heap.objs.size (.lst [])) { a with heap:=h₁,toks:=a.toks+([]:List (Str×Value)).length } :=
  Cg I S c7 L m7 c1 c2 hC fC eK
 have DfD:W a.heap.objs.size=none:=R.sf.free hX
 have R1:Rep X.K (upd h a.heap.objs.size (.lst [])) W (Yz own.length caps σ) (qq own.length caps ρ) (upd h a.heap.objs.size (.lst [])) W:=J5 R (R.sf.trans (zA hX))
 have pU:∀ b o,a.heap.get? b=some o->h₁.get? b=some o:=λb u e=>(eK.2 b (by rw [hC]; exact cb (rO (sE e)))).trans (mo _ (mo _ e))
 have pb:tn 0 h₁:=T.keep 0 _ _ st λb _ o e=>pU b o e
 have fw:∀ {H':Hp},(∀ b∈fp,H' b=none)->∀ b∈fp,uM (dZ X scope cl C (own++frees) a h fp) [] H' b:=λ{H'} hn b g=>by
  refine ⟨hn b g,cb (dY (m7 b g) (by rw [hC]; exact il _)),λz=>?_,.inl g,λx c e=>(L b g).2.2.2.2.1 x c (c1 x c e),λp hp=>by cases hp⟩
  rcases aQ.mp (I.stkSub b z) with q | q
  .exact (L b g).2.1 q
  .exact (L b g).2.2.1 q
 have dz:∀ b∈fp,(upd h a.heap.objs.size (.lst [])) b=none:=λb g=>by
  rw [zu (cb (m7 b g))]; exact (L b g).1
 have loop:∀ bY:Shared,bY={ a with heap:=h₁,toks:=a.toks+([]:List (Str×Value)).length } →
   codeAny (sL X.prog X.w) X.A (.compLoop (.ListComp elt [⟨tg,iter,ifs,0⟩] scope pos) 0 (.ref it) (.ref a.heap.objs.size) (compEnvC scope cl C X.env)) (RR (.ref a.heap.objs.size) C) bY:=by
  rintro bY rfl
  refine XD (λn s'=>∃ i ρ' aB H' ao zs xs r,n=ds.length - i/\i<=ds.length/\Inv (dZ X scope cl C (own++frees) a h fp) [] aB H' s'/\tn i s'.heap/\(∀ b∈fp,H' b=none)/\Rep X.K H' ao aB ρ' H' ao/\qy ρ' ∧
   yT γ ft f (ds.drop i) ρ'=some r/\zs++r=ys/\zB X.K ao zs xs/\zs.length<=i/\H' a.heap.objs.size=some (.lst xs)/\ao a.heap.objs.size=none/\Grows h W H' ao) ?_ ds.length
   ⟨0,_,_,_,_,[],[],ys,by simp,fo _,IC,pb,dz,R1,qy.comp,by simpa using hgo,rfl,.nil,by simp,zq,DfD,⟨zA hX,zD,R1.sf,λb o e=>.inl e⟩⟩
  rintro n s' ⟨i,ρ',aB,H',ao,zs,xs,r,rfl,hi,I',dm,fr',R',no',F,A,ma,hzl,Q,m8,B⟩
  obtain ⟨w1,w2⟩:=wk H' ao B.f R'.sf i
  by_cases fE:i < ds.length
  .have hd:ds[i]? = some ds[i]:=fq fE
   obtain ⟨go,yld⟩:=w1 _ hd
   rw [List.drop_eq_getElem_cons fE] at F
   obtain ⟨N,b,eg,et,g⟩:=WL F
   refine sN (T.item (dZ X scope cl C (own++frees) a h fp) rfl rfl rfl hc i [] s' aB H' (λ_ _=>False) I' (fw fr') dm go) (λrv s4 ⟨u,hr,h4⟩=>?_) λ_ _ z=>z
   subst hr
   refine sN h4 (λ_ s5 ⟨x,H5,I5,r5,y5,gQ,rT⟩=>?_) λ_ _ z=>z
   obtain ⟨eE,mi,hx5⟩:=yld x H5 y5
   have R5:Rep X.K H' ao aB ρ' H5 eE:=R'.grows mi
   have I5':=I5.pinned (fw rT) (T.obj _ _ gQ)
   refine sN (b1 _ s5 aB H5 x u _ I5' r5 ⟨H',ao,ρ',eE,ds[i],N,R5,hx5,eg,λG H6 U R6 t6=>(⟨U,R6,t6⟩:∃ U,Rep X.K H' ao G N H6 U/\zV eE U)⟩) (λ_ s6 h6=>?_) λ_ _ z=>z
   obtain ⟨G,H6,I6,U,R6,t6⟩:=h6
   refine sN (b2 _ s6 G H6 (λb' H7=>b'=b/\∃ O,Rep X.K H' ao G N H7 O) I6 ⟨H',ao,N,U,b,R6,et,λH7 O l s7 t7=>⟨rfl,O,l⟩⟩) (λok s7 h7=>?_) λ_ _ z=>z
   obtain ⟨H7,I7,rfl,O,l⟩:=h7
   have t:=kn _ _ _ eg no'
   have hm:ds.length - (i+1) < ds.length - i:=by omega
   rcases g with ⟨rfl,y,r',ef,er,rfl⟩ | ⟨rfl,er⟩
   .rw [if_pos rfl]
    refine sN (b3 _ s7 G H7 (λv P=>∃ w,Rep X.K H' ao G N P w/\af X.K w y v) I7 ⟨H',ao,N,O,y,l,ef,λv P w M s8 t8 h8=>⟨w,M,h8⟩⟩) (λu' s8 h8=>?_) λ_ _ z=>z
    obtain ⟨v,P,I8,r8,w,M,h8⟩:=h8
    have hD8:P a.heap.objs.size=some (.lst xs):=M.s0 _ _ Q
    have rC:w a.heap.objs.size=none:=by
     cases z:w a.heap.objs.size with
     | none=>rfl
     | some o =>
      rcases M.nf _ _ z with q | q | ⟨ks,rfl⟩
      .rw [m8] at q; cases q
      .rw [Q] at q; cases q
      .have:=hD8.symm.trans (M.sf _ _ z); cases this
    have Z:zV w (upd P a.heap.objs.size (.lst (xs++[v]))):=λb o e=>by rw [zu (zy e rC)]; exact M.sf b o e
    refine sN (qc (X:=dZ X scope cl C (own++frees) a h fp) _ s8 G P (.ref a.heap.objs.size) [v] _ [u'] (λ_ H9=>H9=upd P a.heap.objs.size (.lst (xs++[v]))) I8 rfl (.cons r8 .nil) ⟨_,xs,v,rfl,rfl,hD8,by have:=ma.length; omega,rfl⟩) (λu9 s9 h9=>?_) λ_ _ z=>z
    obtain ⟨v9,H9,I9,_,rfl⟩:=h9
    refine ⟨_,hm,i+1,N,G,_,w,zs++[y],xs++[v],r',rfl,fE,I9.unpinned,T.keep _ _ _ gQ λb g o e=>(I9.pin (b,o) (dD _ (dD _ (xk g e)))).1,λb g=>?_,M.rebase t Z,t,er,by rw [mn]; exact A,(ma.mono M.f0).append (.cons h8 .nil),by simp; omega,zq,rC,?_⟩
    .obtain ⟨o,e,d⟩:=T.obj _ _ gQ b g
     exact (I9.pin (b,o) (dD _ (dD _ (xk g e)))).2.1
    .have g8:=B.trans M.toGrows
     exact ⟨λb o e=>by rw [zu (zy e hX)]; exact g8.h b o e,g8.f,Z,g8.new⟩
   .rw [if_neg ny]
    refine ⟨_,hm,i+1,N,G,_,O,zs,xs,r,rfl,fE,I7.unpinned,T.keep _ _ _ gQ λb g o e=>(I7.pin (b,o) (dD _ (dD _ (xk g e)))).1,λb g=>?_,l.rebase t l.sf,t,er,A,ma.mono l.f0,by omega,l.s0 _ _ Q,?_,B.trans l.toGrows⟩
    .obtain ⟨o,e,d⟩:=T.obj _ _ gQ b g
     exact (I7.pin (b,o) (dD _ (dD _ (xk g e)))).2.1
    .cases z:O a.heap.objs.size with
     | none=>rfl
     | some o =>
      rcases l.nf _ _ z with q | q | ⟨ks,rfl⟩
      .rw [m8] at q; cases q
      .rw [Q] at q; cases q
      .have:=(l.s0 _ _ Q).symm.trans (l.sf _ _ z); cases this
  .have:ds.drop i=[]:=List.drop_eq_nil_of_le (by omega)
   rw [this] at F
   cases F
   rw [cO] at A
   subst A
   refine sN (T.done (dZ X scope cl C (own++frees) a h fp) rfl rfl rfl hc i [] s' aB H' (λ_ _=>False) I' (fw fr') dm (w2 (by omega))) (λrv s4 ⟨hr,Y⟩=>?_) λ_ _ z=>z
   subst hr
   obtain ⟨m,hn,_⟩:=Y.loc
   have hch:∀ b∈fp,(b∈X.ex\/X.s₀.heap.objs.size<=b)/\b≠X.env.locals/\(∀ x c,X.env.cells.lookup x=some c->c≠b)/\∀ p∈X.pn++pins,p.1≠b:=λb g=>⟨(L b g).2.2.2.1,(L b g).2.1,(L b g).2.2.2.2.1,(L b g).2.2.2.2.2⟩
   exact hRR _ C s4 H' ao xs (I.call' (s':=s4) Y.os Y.base Y.hok Y.bare hch) ⟨m,hn⟩ (I.fpOk (by rw [hC]; exact il _) Y.free) B ma Q m8 hX
 exact codeAny_compStart_list (loop _ rfl) (T.self _ 0 _ _ _ pb (loop _ rfl))
def Zy (h:vD n caps fi γ ft f ρ=some ys):∃ ds,fi ρ=some ds/\ds.length<=sizeLine/\yT γ ft f ds (qq n caps ρ)=some ys:=by
 obtain ⟨ds,e1,e2⟩:=z8 h
 split at e2
 .exact ⟨ds,e1,by assumption,e2⟩
 .cases e2
def Ja (I:Inv X pins σ H s) (S:CompScope X.env.scope scope own frees):∃ cl,closureFor scope X.env=pure cl/\(∀ x c,cl.lookup x=some c->X.env.cells.lookup x=some c)/\∀ n,(n,sZ)∈scope.names->∃ c,cl.lookup n=some c:=by
 obtain ⟨cl,e1,e2,_,b⟩:=qR (env:=X.env) scope.names [] (λn a=>I.ok.has n (S.free (n,.free) a rfl)) (λx c e=>by simp at e)
 exact ⟨cl,YA e1,e2,b⟩
def yF (A:X.calm=true) (S:CompScope X.env.scope scope own frees) (O:caps.map (λj=>X.N[j]?)=frees.map some) (u:uL γ) (hi:DI X tg iter fi)
  (body:∀ cl C s H fp,DG (dZ X scope cl C (own++frees) s H fp) tg γ/\DQ (dZ X scope cl C (own++frees) s H fp) ifs ft/\DE (dZ X scope cl C (own++frees) s H fp) elt f)
  (y:∀ x,Ax iter X.env x=pure x:=by intro _; rfl):DN X (.ListComp elt [⟨tg,iter,ifs,0⟩] scope pos) (vD own.length caps fi γ ft f):=by
 intro pins s σ H Q I h
 obtain ⟨H₀,aa,ρ,Hf,ys,R,q,k⟩:=h
 obtain ⟨ds,e1,hz,e2⟩:=Zy q
 obtain ⟨cl,G,U,P⟩:=Ja I S
 rw [eval_ListComp]
 refine wpAny_comprehension_free (use:=none) rfl y G S.kind S.loc (thn (hi pins s σ H (λJ H'=>∃ ao,Rep X.K H₀ aa σ ρ H' ao/\zV H H'/\zV Hf ao/\Walks X.K ao J ds) I ⟨H₀,aa,ρ,Hf,ds,R,e1,λJ H' ao R' s' t' a=>⟨ao,R',s',t',a⟩⟩) λv s1 h1=>thn h1 λw s2 h2=>?_)
 obtain ⟨it,fp,tn,J,H2,rfl,W,T,p,f2,aP,R2,l,c,a⟩:=h2
 refine XC (RR:=compPost (sL X.prog X.w) X.A X.xe none (EP X pins σ Q)) A S O u body U P W T p f2 R2 a hz e2 ?_
 intro D C s' H' ao xs Y r n i t F E g
 obtain ⟨m,z⟩:=r
 refine ⟨m,z,λh' d=>⟨.ref D,H',?_,rfl,?_⟩⟩
 .obtain ⟨f0,f1,f2,N,M,L⟩:=n
  exact Y.turned (t':=s'.toks) (λb o B e=>(d.2 b B).trans e) f0 f1 N M L
 .exact k D xs H' ao (R2.grows i) (l.trans i.h) (c.trans i.f) t F E (l.free g)
def VL (hc:X.calm=true) (S:CompScope X.env.scope scope own frees) (c7:caps.map (λj=>X.N[j]?)=frees.map some) (P:uL γ) (hi:DI X tg iter fi)
  (body:∀ cl C s H fp,DG (dZ X scope cl C (own++frees) s H fp) tg γ/\DQ (dZ X scope cl C (own++frees) s H fp) ifs ft/\DE (dZ X scope cl C (own++frees) s H fp) elt f)
  (p:As (.ListComp elt [⟨tg,iter,ifs,0⟩] scope pos) (some (.Name y py)) d.line X.env=pure true) (i) (hN:X.N.Nodup) (r:X.N[i]? = some y) (B:X.env.scope.names.lookup y=some .local)
  (W:∀ x,Ax iter X.env x=pure x):PS X (.Assign [.Name y py] (.ListComp elt [⟨tg,iter,ifs,0⟩] scope pos) d) (λD' σ H=>∃ H₀ aa ρ Hf ys,Rep X.K H₀ aa σ ρ H Hf/\vD own.length caps fi γ ft f ρ=some ys ∧
   ∀ a xs H' ao,Rep X.K H₀ aa σ ρ H' ao->zV H H'->zV Hf ao->zB X.K ao ys xs->H' a=some (.lst xs)->ao a=none->H a=none->D'.nx (σ.set i (some (.ref a))) H'):=by
 intro pins s σ H D' I h
 obtain ⟨H₀,aa,ρ,Hf,ys,R,q,k⟩:=h
 obtain ⟨ds,e1,hz,e2⟩:=Zy q
 obtain ⟨cl,fX,c1,c2⟩:=Ja I S
 rw [exec_Assign_Name_used _ _ _ _ p]
 refine ls (Ep (ls ?_))
 show sG _ X.A (do let _ ← comprehension (.ListComp elt [⟨tg,iter,ifs,0⟩] scope pos) scope X.env _ (newList []) false (eval iter X.env) (some (assign (.Name y py) X.env))) _ _ s
 refine ls (sN (wpAny_comprehension_free (use:=some (assign (.Name y py) X.env)) (Q:=λ_ s'=>SP X pins D' .next s') rfl W fX S.kind S.loc
  (thn (hi pins s σ H (λJ H'=>∃ ao,Rep X.K H₀ aa σ ρ H' ao/\zV H H'/\zV Hf ao/\Walks X.K ao J ds) I ⟨H₀,aa,ρ,Hf,ds,R,e1,λJ H' ao R' s' t' l=>⟨ao,R',s',t',l⟩⟩) λv s1 h1=>thn h1 λU s2 h2=>?_)) (λ_ s' Y=>su (su Y)) λ_ _ e=>e)
 obtain ⟨it,fp,tn,J,H2,rfl,I2,T,L,f2,aP,R2,F,n,l⟩:=h2
 refine XC (RR:=compPost (sL X.prog X.w) X.A X.xe (some (assign (.Name y py) X.env)) (λ_ s'=>SP X pins D' .next s')) hc S c7 P body c1 c2 I2 T L f2 R2 l hz e2 ?_
 intro D C s' H' ao xs I' M G w N hD hX u
 obtain ⟨m,Z⟩:=M
 show sG _ X.A (assign (.Name y py) X.env (.ref D)) _ _ _
 refine wpAny_assign_Name (YU I' hN r (.inl B) (show yJ (.ref D) (.ref D) from rfl) (λO A c=>?_) (.inr B))
 obtain ⟨a,c,ha⟩:=c
 obtain ⟨f0,f1,f2',f3,E,f5⟩:=G
 have t:a≠C:=by
  rcases ha with z | z
  .rw [z]; exact tZ f1
  .exact E _ _ z
 refine ⟨m,Z.sameBut c (tZ t),λh' g=>?_⟩
 exact ⟨_,H',A.turned (t':=O.toks) (λb o hb e=>(g.2 b hb).trans e) f0 f1 f3 E f5,k D xs H' ao (R2.grows w) (F.trans w.h) (n.trans w.f) N hD hX (F.free u)⟩
end
structure Draw (P:sH) (w:sU) (K:sx) (J:It) (fp:List Addr) (it:Addr) (tn:Nat->Heap->Prop):Prop where
 mem:it∈fp
 obj:∀ i h,tn i h->∀ b∈fp,∃ o,h.get? b=some o/\∀ v,o.data≠.cell v
 keep:∀ i h h',tn i h->(∀ b∈fp,∀ o,h.get? b=some o->h'.get? b=some o)->tn i h'
 item:∀ (A:Around) (X:Cx),X.prog=P->X.w=w->X.K=K->∀ (i:Nat) (pins:List (Addr×Obj)) (s:Shared) (σ:St) (H:Hp) (E:Value->Shared->Prop),Inv X pins σ H s->(∀ b∈fp,uM X pins H b)->tn i s.heap->J.go i H →
  sG (sL P w) A (sW (.ref it)) (λu s2=>∃ x H',Inv X pins σ H' s2/\yJ x u/\J.yld i H x H'/\tn (i+1) s2.heap/\∀ b∈fp,H' b=none) E s
 fin:∀ (A:Around) (X:Cx),X.prog=P->X.w=w->X.K=K->A.handled=none->∀ (i:Nat) (pins:List (Addr×Obj)) (s:Shared) (σ:St) (H:Hp) (Q:Value->Shared->Prop),Inv X pins σ H s->(∀ b∈fp,uM X pins H b)->tn i s.heap->J.stop i H →
  sG (sL P w) A (sW (.ref it)) Q (λe s2=>Inv X pins σ H s2/\∃ a o,e=.ref a/\s2.heap.get? a=some o/\o.cls=.type "StopIteration") s
section
variable {prog:sH} {w:sU} {A:Around} {E:Value->Shared->Prop} {s:Shared}
def qJ (a:s.heap.IsTupleIter it l i) (f:s.heap.IsTuple l items) (e:items[i]? = some x)
  (h:∀ h',h'.IsTupleIter it l (i+1)->Heap.SameBut it s.heap h'->Q x { s with heap:=h' }):sG (sL prog w) A (sW (.ref it)) Q E s:=by
 obtain ⟨o,b,g,hd⟩:=id a
 obtain ⟨ol,c,_,j,d⟩:=f
 unfold sW
 refine ls (tE (name:=sX "__next__") a.typeIs AA
  (tM AA a.typeIs F.entry_tuple_iterator_next ?_ (F.args_tuple_iterator_next_1 _)))
 show sG _ _ (field (.ref it) 0 >>= _) _ _ s
 refine ls (sS b hd (x:=.ref l) rfl ?_)
 show sG _ _ (if (sT l==tj)=true then _ else _) _ _ s
 rw [if_neg (show ¬ ((sT l==tj)=true) from ny)]
 show sG _ _ (field (.ref it) 1 >>= _) _ _ s
 refine ls (sS b hd (x:=.int i 0) rfl ?_)
 show sG _ _ (seqItems? (.ref l) >>= _) _ _ s
 refine ls (Ao c d ?_)
 simp only [Int.toNat_natCast,e]
 refine ls (Ap b hd (by simp) (su ⟨x,rfl,su (h _ ?_ (Heap.SameBut.update ..))⟩))
 exact ⟨_,tw _ b (AX (AN hd _)),(Obj.cls_mapFields ..).trans g,by rw [AN hd]; simp [Aj]⟩
def jq (hh:A.handled=none) (hit:s.heap.IsTupleIter it l i) (hl:s.heap.IsTuple l items) (hx:items[i]? = none)
  (hE:∀ h' e,Heap.ExtBut it s.heap h'->(∃ o,h'.get? e=some o/\o.cls=.type "StopIteration")->E (.ref e) { s with heap:=h' }):sG (sL prog w) A (sW (.ref it)) Q E s:=by
 obtain ⟨o,ho,hc,hd⟩:=id hit
 obtain ⟨ol,hol,_,nl,hdl⟩:=hl
 unfold sW
 refine ls (tE (name:=sX "__next__") hit.typeIs AA
  (tM AA hit.typeIs F.entry_tuple_iterator_next ?_ (F.args_tuple_iterator_next_1 _)))
 show sG _ _ (field (.ref it) 0 >>= _) _ _ s
 refine ls (sS ho hd (x:=.ref l) rfl ?_)
 show sG _ _ (if (sT l==tj)=true then _ else _) _ _ s
 rw [if_neg (show ¬ ((sT l==tj)=true) from ny)]
 show sG _ _ (field (.ref it) 1 >>= _) _ _ s
 refine ls (sS ho hd (x:=.int i 0) rfl ?_)
 show sG _ _ (seqItems? (.ref l) >>= _) _ _ s
 refine ls (Ao hol hdl ?_)
 simp only [Int.toNat_natCast,hx]
 refine ls (Eh (ls (Ap ho hd (by simp) ?_)))
 show sG _ _ (newExc (.type "StopIteration") [] >>= _) _ _ _
 refine ls ?_
 simp only [newExc,newTuple]
 refine ls (tX ?_ (by size_fits))
 refine ls (m:=firstArgMember _ _) (wpAny_of_eq (a:=tj) (by first | rfl | (simp only [firstArgMember]; rfl)) ?_)
 refine tX ?_ (by size_fits)
 simp only [raiseNew]
 refine ls (wpAny_handled ?_)
 first | rw [show A.in1.handled=none from hh] | rw [hh]
 refine ls (su (wpAny_throw ?_))
 exact hE _ _ (((Heap.SameBut.update ..).extBut.push _).push _) ⟨_,sF _ rfl,rfl⟩
end
def QX {P:sH} {w:sU} {K:sx} (a it:Addr):Draw P w K (Itl K a) [it] it (λi h=>h.IsListIter it a i) where
 mem:=by simp
 obj:=λi h st b f=>by
  have e:b=it:=by simpa using f
  subst e
  obtain ⟨o,e,c,d⟩:=st
  exact ⟨o,e,λv z=>by rw [d] at z; cases z⟩
 keep:=λi h h' st k=>st.at λo e=>k it (by simp) o e
 item:=by
  intro A X r n t i pins s σ H E I j st q
  subst r n t
  obtain ⟨xs,x,g,m⟩:=q
  obtain ⟨ah,l,p,hz⟩:=I.list g
  obtain ⟨u,L,G⟩:=l.get m
  obtain ⟨f0,f1,f2,C,B,y⟩:=j it (by simp)
  refine wpAny_nextOf_list_item st p.isList (x:=u) (by simpa using L) λh' R F=>?_
  have S:Inv X pins σ H { s with heap:=h' }:=I.turned (t':=s.toks) (λb o f e=>(F.2 b f).trans e) f0 f1 C B y
  exact ⟨x,H,S,G,⟨rfl,λys J=>by rw [I.list_inj J g]; exact m⟩,R,λb f=>(j b f).1⟩
 fin:=by
  intro A X r n t hh i pins s σ H Q I j st q
  subst r n t
  obtain ⟨xs,g,m⟩:=q
  obtain ⟨ah,l,p,hz⟩:=I.list g
  obtain ⟨f0,f1,f2,C,B,y⟩:=j it (by simp)
  have T:=l.length
  refine wpAny_nextOf_list_end hh st p.isList (by simp; omega) λh' e O ⟨o,M,N⟩=>⟨I.turned (t':=s.toks) (λb o f e=>O b o f e) f0 f1 C B y,e,o,rfl,M,N⟩
def Uj {P:sH} {w:sU} {K:sx} (a it:Addr):Draw P w K (Itt K a) [it] it (λi h=>h.IsTupleIter it a i) where
 mem:=by simp
 obj:=λi h st b f=>by
  have e:b=it:=by simpa using f
  subst e
  obtain ⟨o,e,c,d⟩:=st
  exact ⟨o,e,λv z=>by rw [d] at z; cases z⟩
 keep:=λi h h' st k=>st.at λo e=>k it (by simp) o e
 item:=by
  intro A X r n t i pins s σ H E I j st q
  subst r n t
  obtain ⟨xs,x,g,m⟩:=q
  obtain ⟨ah,l,p,hz⟩:=I.tuple g
  obtain ⟨u,L,G⟩:=l.get m
  obtain ⟨f0,f1,f2,C,B,y⟩:=j it (by simp)
  refine qJ st (show s.heap.IsTuple a ah.toArray from p) (x:=u) (by simpa using L) λh' R F=>?_
  have S:Inv X pins σ H { s with heap:=h' }:=I.turned (t':=s.toks) (λb o f e=>(F.2 b f).trans e) f0 f1 C B y
  exact ⟨x,H,S,G,⟨rfl,λys J=>by rw [I.tuple_inj J g]; exact m⟩,R,λb f=>(j b f).1⟩
 fin:=by
  intro A X r n t hh i pins s σ H Q I j st q
  subst r n t
  obtain ⟨xs,g,m⟩:=q
  obtain ⟨ah,l,p,hz⟩:=I.tuple g
  obtain ⟨f0,f1,f2,C,B,y⟩:=j it (by simp)
  have T:=l.length
  exact jq hh st (show s.heap.IsTuple a ah.toArray from p) (by simp; omega) λh' e O ⟨o,M,N⟩=>⟨I.turned (t':=s.toks) (λb o f e=>O b o f e) f0 f1 C B y,e,o,rfl,M,N⟩
def ItE (J:It):It:=⟨J.go,λi H x H'=>∃ y H1 p,J.yld i H y H1/\H1 p=none/\x=.ref p/\H'=upd H1 p (.tup [.int i,y]),J.stop⟩
def uM.more (f:uM X pins H b) (j:b≠c):uM X (pins++jc [c] h) H b:=by
 obtain ⟨f0,f1,f2,i,g,a⟩:=f
 refine ⟨f0,f1,f2,i,g,λp d z=>?_⟩
 rcases gs.mp d with q | q
 .exact a p (rR _ q) z
 .rcases gs.mp q with q | q
  .exact a p (dD _ q) z
  .have:=(kf q).1
   have e:p.1=c:=by simpa using this
   exact j (z ▸ e)
def UA {P:sH} {w:sU} {K:sx} {elts:List Expr} {kx:Nat} {tp:Pos} {J:It} {fp:List Addr} {it e:Addr} {tn:Nat->Heap->Prop} (T:Draw P w K J fp it tn) (n:∀ b∈fp,b≠e) :
    Turn P w K (.Tuple elts kx tp) (ItE J) (e :: fp) e (λi h=>tn i h/\∃ f,IsEnum h e it i f) where
  mem:=ba
  obj:=λi h st b c=>by
    rcases aQ.mp c with rfl | c
    · obtain ⟨_,f,he⟩:=st
      exact ⟨_,he,λv z=>by cases z⟩
    · exact T.obj i h st.1 b c
  keep:=λi h h' st k=>⟨T.keep i h h' st.1 λb c o e=>k b (br _ c) o e,by obtain ⟨_,f,he⟩:=st; exact ⟨f,k e ba _ he⟩⟩
  item:=by
    intro X hP Y hK hc i pins s σ H E I C st Z
    subst hP Y hK
    obtain ⟨st,f,he⟩:=st
    have l:s.TypeIs (.ref e) "enumerate":=⟨_,he,rfl⟩
    have fe:=C e ba
    obtain ⟨f0,f1,f2,f3,f4,f5⟩:=id fe
    unfold pyNext
    refine ls (A1 (tE (name:=sX "__next__") l Ae
      (tM Ae l F.entry_enumerate_next ?_ (F.args_enumerate_next_1 _))))
    show sG _ _ (field (.ref e) 2 >>= _) _ _ _
    refine ls (sS he rfl (x:=.ref it) rfl ?_)
    have I0 := I.pinned (fp := [e]) (λb c => by have z:b=e:=(by simpa using c); subst z; exact fe) (λb c => by have z:b=e:=(by simpa using c); subst z; exact ⟨_,he,λv z=>by cases z⟩)
    refine ls (sN (T.item _ X rfl rfl rfl i _ s σ H _ I0 (λb c=>uM.more (C b (br _ c)) (n b c)) st Z) (λu s1 h1=>?_) λ_ _ z=>z)
    obtain ⟨x,H1,p,rx,yl,pb,fr1⟩:=h1
    obtain ⟨y,m,_⟩:=p.pin _ (dD _ (dD _ (xk (fp:=[e]) (by simp) he)))
    have y:IsEnum s1.heap e it i f:=y
    have m:H1 e=none:=m
    have p:=p.unpinned
    obtain ⟨hp,g,d,tk,os⟩:=s1
    show sG _ _ (field (.ref e) 3 >>= _) _ _ _
    refine ls (sS y rfl (x:=Aj i) rfl ?_)
    show sG _ _ (field (.ref e) 4 >>= _) _ _ _
    refine ls (sS y rfl (x:=.none) rfl ?_)
    show sG _ _ (mkInt i >>= _) _ _ _
    refine ls (wpAny_mkInt ?_)
    show sG _ _ (setField (.ref e) 3 (Aj ((i:Int)+1)) >>= _) _ _ _
    refine ls (tf y (by simp) λO U B=>?_)
    replace B:Heap.SameBut e hp O:=B
    replace U:IsEnum O e it ((i:Int)+1) f:=U
    show sG _ _ (setField (.ref e) 4 .none >>= _) _ _ ⟨O,g,d,tk+1,os⟩
    refine ls (tf U (by simp) λj L t=>?_)
    replace t:Heap.SameBut e O j:=t
    replace L:IsEnum j e it ((i:Int)+1) f:=L
    have I3:Inv X pins σ H1 ⟨j,g,d,tk+1,os⟩:=p.turned (t':=tk+1) (λb o c q=>(t.2 b c).trans ((B.2 b c).trans q)) m f1 f3 f4 f5
    show sG _ _ (newTuple [.int i tk,u] >>= _) _ _ ⟨j,g,d,tk+1,os⟩
    refine ls (wpAny_newTuple ?_)
    have M:IsEnum (j.push { cls:=.type "tuple",data:=.seq #[.int i tk,u] }) e it ((i:Int)+1) f:=mo _ L
    have hf4:H1 j.objs.size=none:=I3.hok.fresh (aU _)
    have I4:Inv X pins σ (upd H1 j.objs.size (.tup [.int i,x])) ⟨j.push { cls:=.type "tuple",data:=.seq #[.int i tk,u] },g,d,tk+1,os⟩ :=
      I3.laid (t':=tk+1) (λb u e=>mo _ e) (aU _) ⟨by show 2<=sizeLine; decide,[.int i tk,u],.cons ⟨tk,rfl⟩ (.cons rx .nil),⟨_,sF _ rfl,rfl,_,rfl⟩⟩
    have hel:e < j.objs.size:=sE L
    have r:(upd H1 j.objs.size (.tup [.int i,x])) e=none:=by rw [zu (cb hel)]; exact m
    generalize rB:j.push { cls:=.type "tuple",data:=.seq #[.int i tk,u] }=R at M I4
    have o8:tn (i+1) R:=T.keep _ _ _ pb λb c o q=>by rw [<- rB]; exact mo _ ((t.2 b (n b c)).trans ((B.2 b (n b c)).trans q))
    show sG _ _ (tm (.ref e) >>= _) _ _ ⟨R,g,d,tk+1,os⟩
    refine ls ?_
    unfold tm
    refine ls (sS M rfl (x:=.none) rfl (su ?_))
    simp only [if_true]
    refine ls (Eh ?_)
    refine ls (sS M rfl (x:=f) rfl ?_)
    refine ls (tf M (by simp) λG W g_=>?_)
    replace g_:Heap.SameBut e R G:=g_
    replace W:IsEnum G e it ((i:Int)+1) u:=W
    show sG _ _ (w_ (.ref e) (.ref j.objs.size) >>= _) _ _ ⟨G,g,d,tk+1,os⟩
    refine ls ?_
    unfold w_
    refine ls (tf W (by simp) λbb h_ bO=>?_)
    replace bO:Heap.SameBut e G bb:=bO
    replace h_:IsEnumOut bb e it ((i:Int)+1) u j.objs.size:=h_
    refine tf h_ (by simp) λS N g9=>?_
    replace g9:Heap.SameBut e bb S:=g9
    replace N:IsEnumOut S e it ((i:Int)+1) u j.objs.size:=N
    refine ls (wpAny_letGo (su ⟨_,rfl,su ⟨_,rfl,?_⟩⟩))
    unfold A6
    refine ls (wpAny_load N ?_)
    show sG _ _ (if (["enumerate","zip","dict_itemiterator","dict_reverseitemiterator","odict_iterator","itertools.zip_longest","itertools.pairwise"].contains "enumerate" &&
      (#[Aj j.objs.size,.bool false,.ref it,Aj ((i:Int)+1),.none,u]:Array Value)[0]? == some (Aj j.objs.size))=true then _ else _) _ _ _
    rw [if_pos (by simp)]
    refine ls (Eh ?_)
    show sG _ _ (setField (.ref e) 0 .none) _ _ _
    refine tf N (by simp) λgY hZ dM=>?_
    replace dM:Heap.SameBut e S gY:=dM
    replace hZ:IsEnum gY e it ((i:Int)+1) u:=hZ
    have k8:∀ b o,b≠e->R.get? b=some o->gY.get? b=some o:=λb o c q=>(dM.2 b c).trans ((g9.2 b c).trans ((bO.2 b c).trans ((g_.2 b c).trans q)))
    refine ⟨.ref j.objs.size,_,I4.turned (t':=tk+1) (λb o c q=>k8 b o c q) r f1 f3 f4 f5,rfl,⟨x,H1,j.objs.size,yl,hf4,rfl,rfl⟩,⟨T.keep _ _ _ o8 λb c o q=>k8 b o (n b c) q,u,hZ⟩,λb c=>?_⟩
    rcases aQ.mp c with rfl | c
    · exact r
    · obtain ⟨o,q,_⟩:=T.obj _ _ pb b c
      have q3:j.get? b=some o:=(t.2 b (n b c)).trans ((B.2 b (n b c)).trans q)
      rw [zu (cb (sE q3))]
      exact fr1 b c
  done:=by
    intro X hP Y hK hc i pins s σ H E I C st Z
    subst hP Y hK
    obtain ⟨st,f,he⟩:=st
    have l:s.TypeIs (.ref e) "enumerate":=⟨_,he,rfl⟩
    unfold pyNext
    refine ls (A1 (tE (name:=sX "__next__") l Ae
      (tM Ae l F.entry_enumerate_next ?_ (F.args_enumerate_next_1 _))))
    show sG _ _ (field (.ref e) 2 >>= _) _ _ _
    refine ls (sS he rfl (x:=.ref it) rfl ?_)
    refine ls (sN (T.fin X.A.in1 X rfl rfl rfl (I.ok.hd hc) i pins s σ H _ I (λb c=>C b (br _ c)) st Z) (λu s1 z=>z) λe' s1 h1=>?_)
    obtain ⟨p,a,o,rfl,ho,fX⟩:=h1
    refine ls (wpAny_isInstance (T:="StopIteration") (b:=true) ⟨o,ho,fX⟩ isSubtype_stop ?_)
    exact su ⟨rfl,p⟩
  self:=λA i s Q E st h=>by
    obtain ⟨_,f,he⟩:=st
    have l:s.TypeIs (.ref e) "enumerate":=⟨_,he,rfl⟩
    refine wpAny_pyIter_slot l AY (tM AY l F.entry_enumerate_iter ?_ (F.args_enumerate_iter_1 _))
    show sG _ _ (ret (.ref e)) _ _ s
    exact su ⟨_,rfl,"enumerate",_,l,Ae.lookup,h⟩
def ItZ (J1 J2:It):It:=⟨λi H=>J1.go i H/\∀ x H1,J1.yld i H x H1->J2.go i H1,λi H x H'=>∃ b a H1 H2 p,J1.yld i H b H1/\J2.yld i H1 a H2/\H2 p=none/\x=.ref p/\H'=upd H2 p (.tup [b,a]),
 λi H=>J1.stop i H\/(J1.go i H/\∀ x H1,J1.yld i H x H1->H1=H/\J2.stop i H)⟩
def Eo (f:uM X pins H b) (g:b∉L):uM X (pins++jc L h) H b:=by
 obtain ⟨f0,f1,f2,e,d,a⟩:=f
 refine ⟨f0,f1,f2,e,d,λp c z=>?_⟩
 rcases gs.mp c with q | q
 .exact a p (rR _ q) z
 .rcases gs.mp q with q | q
  .exact a p (dD _ q) z
  .have:=(kf q).1
   exact g (z ▸ this)
def x8 (I:Inv X (pins++jc L h) σ H s) (d:b∈L) (e:h.get? b=some o):s.heap.get? b=some o/\H b=none:=by
 obtain ⟨c,a,_⟩:=I.pin _ (dD _ (dD _ (xk d e)))
 exact ⟨c,a⟩
def uB (I:Inv X pins σ H s) (a:Heap.SameBut b s.heap h') (f:uM X pins H b):Inv X pins σ H { s with heap:=h',toks:=t' }:=by
 obtain ⟨f0,f1,f2,h,g,e⟩:=f
 exact I.turned (t':=t') (λc o d q=>(a.2 c d).trans q) f0 f1 h g e
structure ZApart (z TI TO:Addr) (dz dE:List Addr):Prop where
 a1:z≠TI
 a2:z≠TO
 a3:TI≠TO
 z1:∀ b∈dz++dE,b≠z
 z2:∀ b∈dz++dE,b≠TI
 z3:∀ b∈dz++dE,b≠TO
 d:∀ b∈dz,b∉dE
section
variable {P:sH} {w:sU} {K:sx} {J1 J2:It} {dz dE:List Addr} {i1 i2 z TI TO:Addr} {iC gB:Nat->Heap->Prop}
def tnZ (iC gB:Nat->Heap->Prop) (z TI TO i1 i2:Addr) (i:Nat) (h:Heap):Prop:=iC i h/\gB i h/\IsZip h z TI TO .none/\AZ h TI (.ref i1) (.ref i2)/\∃ a b,AZ h TO a b
def JI {elts:List Expr} {kx:Nat} {tp:Pos} (m:Draw P w K J1 dz i1 iC) (j:Draw P w K J2 dE i2 gB) (Z:ZApart z TI TO dz dE) :
  Turn P w K (.Tuple elts kx tp) (ItZ J1 J2) (z :: TI :: TO :: (dz++dE)) z (tnZ iC gB z TI TO i1 i2) where
 mem:=ba
 obj:=λi h st b d=>by
  obtain ⟨s1,s2,hz,O,a,M,lL⟩:=st
  rcases aQ.mp d with rfl | d
  .exact ⟨_,hz,λv z=>by cases z⟩
  rcases aQ.mp d with rfl | d
  .exact ⟨_,O,λv z=>by cases z⟩
  rcases aQ.mp d with rfl | d
  .exact ⟨_,lL,λv z=>by cases z⟩
  rcases gs.mp d with d | d
  .exact m.obj i h s1 b d
  .exact j.obj i h s2 b d
 keep:=λi h h' st k=>by
  obtain ⟨s1,s2,hz,O,a,M,lL⟩:=st
  refine ⟨m.keep i h h' s1 λb d o e=>k b (by simp [d]) o e,j.keep i h h' s2 λb d o e=>k b (by simp [d]) o e,k z (by simp) _ hz,k TI (by simp) _ O,a,M,k TO (by simp) _ lL⟩
 item:=by
  intro X hP hw hK hc i pins s σ H E I B st hg
  subst hP hw hK
  obtain ⟨s1,s2,hz,O,a,M,lL⟩:=st
  obtain ⟨g1,g2⟩:=hg
  have hT:s.TypeIs (.ref z) "zip":=⟨_,hz,rfl⟩
  have n:=B z (by simp)
  have S:=B TI (by simp)
  have nE:=B TO (by simp)
  have R:∀ b∈dz,uM X pins H b:=λb d=>B b (by simp [d])
  have rW:∀ b∈dE,uM X pins H b:=λb d=>B b (by simp [d])
  have oJ:∀ b∈dz,b≠z:=λb d=>Z.z1 b (by simp [d])
  have oI:∀ b∈dE,b≠z:=λb d=>Z.z1 b (by simp [d])
  have n1I:∀ b∈dz,b≠TI:=λb d=>Z.z2 b (by simp [d])
  have n2I:∀ b∈dE,b≠TI:=λb d=>Z.z2 b (by simp [d])
  have pQ:∀ b∈dz,b≠TO:=λb d=>Z.z3 b (by simp [d])
  have pP:∀ b∈dE,b≠TO:=λb d=>Z.z3 b (by simp [d])
  unfold pyNext
  refine ls (A1 (tE (name:=sX "__next__") hT F.slot_zip_next (tM F.slot_zip_next hT F.entry_zip_next ?_ (F.args_zip_next_1 _))))
  show sG _ _ (field (.ref z) 2 >>= _) _ _ _
  refine ls (sS hz rfl (x:=.bool false) rfl ?_)
  show sG _ _ (field (.ref z) 3 >>= _) _ _ _
  refine ls (sS hz rfl (x:=.ref TI) rfl ?_)
  refine ls (Ao O rfl ?_)
  show sG _ _ (tm (.ref z) >>= _) _ _ _
  refine ls ?_
  unfold tm
  refine ls (sS hz rfl (x:=.none) rfl (su ?_))
  simp only [if_true]
  refine ls (Eh ?_)
  refine ls (sS hz rfl (x:=.ref TO) rfl ?_)
  refine ls (tf hz (by simp) λh₁ L C=>?_)
  replace L:IsZip h₁ z TI TO .ellipsis:=L
  have I1:Inv X pins σ H { s with heap:=h₁ }:=uB (t':=s.toks) I C n
  have dh:AZ h₁ TI (.ref i1) (.ref i2):=(C.2 TI (tZ Z.a1)).trans O
  have df:AZ h₁ TO a M:=(C.2 TO (tZ Z.a2)).trans lL
  have fP:iC i h₁:=m.keep _ _ _ s1 λb d o e=>(C.2 b (oJ b d)).trans e
  have dH:gB i h₁:=j.keep _ _ _ s2 λb d o e=>(C.2 b (oI b d)).trans e
  refine ls ?_
  simp only [List.zipIdx_cons,List.zipIdx_nil,List.forIn_cons,List.forIn_nil]
  refine ls (ls (Et ?_))
  show sG _ _ (sW (.ref i1) >>= _) _ _ _
  have W:=I1.pinned (fp:=z :: TI :: TO :: dE) (λb d=>by
   rcases aQ.mp d with rfl | d
   .exact n
   rcases aQ.mp d with rfl | d
   .exact S
   rcases aQ.mp d with rfl | d
   .exact nE
   .exact rW b d) (λb d=>by
   rcases aQ.mp d with rfl | d
   .exact ⟨_,L,λv z=>by cases z⟩
   rcases aQ.mp d with rfl | d
   .exact ⟨_,dh,λv z=>by cases z⟩
   rcases aQ.mp d with rfl | d
   .exact ⟨_,df,λv z=>by cases z⟩
   .exact j.obj _ _ dH b d)
  refine ls (sN (m.item _ X rfl rfl rfl i _ _ σ H _ W (λb d=>Eo (R b d) (by
   intro hm
   rcases aQ.mp hm with e | hm
   .exact oJ b d e
   rcases aQ.mp hm with e | hm
   .exact n1I b d e
   rcases aQ.mp hm with e | hm
   .exact pQ b d e
   .exact Z.d b d hm)) fP g1) (λu1 l h3=>su ?_) λ_ _ z=>z)
  obtain ⟨x1,H3,g,r3,y3,o9,rV⟩:=h3
  obtain ⟨r,rS⟩:=x8 g (b:=z) (by simp) L
  obtain ⟨eQ,rZ⟩:=x8 g (b:=TI) (by simp) dh
  obtain ⟨U,lR⟩:=x8 g (b:=TO) (by simp) df
  have r:IsZip l.heap z TI TO .ellipsis:=r
  have eQ:AZ l.heap TI (.ref i1) (.ref i2):=eQ
  have U:AZ l.heap TO a M:=U
  have gU:gB i l.heap:=j.keep _ _ _ dH λb d o e=>(x8 g (by simp [d]) e).1
  have nA:∀ b∈dE,H3 b=none:=λb d=>by
   obtain ⟨o,e,_⟩:=j.obj _ _ dH b d
   exact (x8 g (by simp [d]) e).2
  have g:=g.unpinned
  refine ls (Ao U rfl ?_)
  refine ls (wpAny_updateSeq_pair U λG dc p=>?_)
  replace dc:AZ G TO u1 M:=dc
  refine ls (wpAny_letGo (su ?_))
  have I4:Inv X pins σ H3 { l with heap:=G }:=uB (t':=l.toks) g p ⟨lR,nE.2⟩
  have dJ:IsZip G z TI TO .ellipsis:=(p.2 z Z.a2).trans r
  have ij:AZ G TI (.ref i1) (.ref i2):=(p.2 TI Z.a3).trans eQ
  have o8:iC (i+1) G:=m.keep _ _ _ o9 λb d o e=>(p.2 b (pQ b d)).trans e
  have gR:gB i G:=j.keep _ _ _ gU λb d o e=>(p.2 b (pP b d)).trans e
  refine ls (ls (Et ?_))
  show sG _ _ (sW (.ref i2) >>= _) _ _ _
  have I4p:=I4.pinned (fp:=z :: TI :: TO :: dz) (λb d=>by
   rcases aQ.mp d with rfl | d
   .exact ⟨rS,n.2⟩
   rcases aQ.mp d with rfl | d
   .exact ⟨rZ,S.2⟩
   rcases aQ.mp d with rfl | d
   .exact ⟨lR,nE.2⟩
   .exact ⟨rV b d,(R b d).2⟩) (λb d=>by
   rcases aQ.mp d with rfl | d
   .exact ⟨_,dJ,λv z=>by cases z⟩
   rcases aQ.mp d with rfl | d
   .exact ⟨_,ij,λv z=>by cases z⟩
   rcases aQ.mp d with rfl | d
   .exact ⟨_,dc,λv z=>by cases z⟩
   .exact m.obj _ _ o8 b d)
  refine ls (sN (j.item _ X rfl rfl rfl i _ _ σ H3 _ I4p (λb d=>Eo ⟨nA b d,(rW b d).2⟩ (by
   intro hm
   rcases aQ.mp hm with e | hm
   .exact oI b d e
   rcases aQ.mp hm with e | hm
   .exact n2I b d e
   rcases aQ.mp hm with e | hm
   .exact pP b d e
   .exact Z.d b hm d)) gR (g2 _ _ y3)) (λu2 s5 h5=>su ?_) λ_ _ z=>z)
  obtain ⟨x2,H5,J,r5,y5,gQ,rT⟩:=h5
  obtain ⟨Y,fz5⟩:=x8 J (b:=z) (by simp) dJ
  obtain ⟨fJ,fTI5⟩:=x8 J (b:=TI) (by simp) ij
  obtain ⟨eP,rY⟩:=x8 J (b:=TO) (by simp) dc
  have Y:IsZip s5.heap z TI TO .ellipsis:=Y
  have fJ:AZ s5.heap TI (.ref i1) (.ref i2):=fJ
  have eP:AZ s5.heap TO u1 M:=eP
  have st5':iC (i+1) s5.heap:=m.keep _ _ _ o8 λb d o e=>(x8 J (by simp [d]) e).1
  have nB:∀ b∈dz,H5 b=none:=λb d=>by
   obtain ⟨o,e,_⟩:=m.obj _ _ o8 b d
   exact (x8 J (by simp [d]) e).2
  have J:=J.unpinned
  refine ls (Ao eP rfl ?_)
  refine ls (wpAny_updateSeq_pair eP λf c_ bO=>?_)
  replace c_:AZ f TO u1 u2:=c_
  refine ls (wpAny_letGo (su (su ?_)))
  have I6:Inv X pins σ H5 { s5 with heap:=f }:=uB (t':=s5.toks) J bO ⟨rY,nE.2⟩
  have g7:IsZip f z TI TO .ellipsis:=(bO.2 z Z.a2).trans Y
  have ig:AZ f TI (.ref i1) (.ref i2):=(bO.2 TI Z.a3).trans fJ
  have st6:iC (i+1) f:=m.keep _ _ _ st5' λb d o e=>(bO.2 b (pQ b d)).trans e
  have o7:gB (i+1) f:=j.keep _ _ _ gQ λb d o e=>(bO.2 b (pP b d)).trans e
  refine ls (Ao c_ rfl ?_)
  refine ls (wpAny_newTuple ?_)
  have hf7:H5 f.objs.size=none:=I6.hok.fresh (aU _)
  have I7:Inv X pins σ (upd H5 f.objs.size (.tup [x1,x2])) { s5 with heap:=f.push { cls:=.type "tuple",data:=.seq #[u1,u2] } } :=
   I6.laid (t':=s5.toks) (λb u e=>mo _ e) (aU _) ⟨by show 2<=sizeLine; decide,[u1,u2],.cons r3 (.cons r5 .nil),⟨_,sF _ rfl,rfl,_,rfl⟩⟩
  have lz:z < f.objs.size:=sE g7
  have lTI:TI < f.objs.size:=sE ig
  have lTO:TO < f.objs.size:=sE c_
  show sG _ _ (w_ (.ref z) (.ref f.objs.size) >>= _) _ _ _
  refine ls ?_
  unfold w_
  have pZ:IsZip (f.push { cls:=.type "tuple",data:=.seq #[u1,u2] }) z TI TO .ellipsis:=mo _ g7
  refine ls (tf pZ (by simp) λgY g6 dM=>?_)
  replace g6:IsZip gY z TI TO (Aj f.objs.size):=g6
  refine tf g6 (by simp) λh₉ gZ t=>?_
  replace gZ:IsZip h₉ z TI TO (Aj f.objs.size):=gZ
  refine su ⟨_,rfl,su ⟨_,rfl,?_⟩⟩
  refine wpAny_letOwnedTupleGo_zip gZ λh₀ p6 y=>?_
  have up:∀ c o,c≠z->f.get? c=some o->h₀.get? c=some o:=λc o hc e=>(y.2 c hc).trans ((t.2 c hc).trans ((dM.2 c hc).trans (mo _ e)))
  have fz7:(upd H5 f.objs.size (.tup [x1,x2])) z=none:=by rw [zu (cb lz)]; exact fz5
  refine ⟨.ref f.objs.size,_,I7.turned (t':=s5.toks) (λb o d q=>(y.2 b d).trans ((t.2 b d).trans ((dM.2 b d).trans q))) fz7 n.2.1 n.2.2.2.1 n.2.2.2.2.1 n.2.2.2.2.2,rfl,⟨x1,x2,H3,H5,_,y3,y5,hf7,rfl,rfl⟩,
   ⟨m.keep _ _ _ st6 λb d o e=>up b o (oJ b d) e,j.keep _ _ _ o7 λb d o e=>up b o (oI b d) e,p6,up _ _ (tZ Z.a1) ig,_,_,up _ _ (tZ Z.a2) c_⟩,λb d=>?_⟩
  have N:∀ b,b < f.objs.size->H5 b=none->(upd H5 f.objs.size (.tup [x1,x2])) b=none:=λb hl hn=>by rw [zu (cb hl)]; exact hn
  rcases aQ.mp d with rfl | d
  .exact fz7
  rcases aQ.mp d with rfl | d
  .exact N _ lTI fTI5
  rcases aQ.mp d with rfl | d
  .exact N _ lTO rY
  rcases gs.mp d with d | d
  .obtain ⟨o,q,_⟩:=m.obj _ _ st6 b d
   exact N b (sE q) (nB b d)
  .obtain ⟨o,q,_⟩:=j.obj _ _ o7 b d
   exact N b (sE q) (rT b d)
 done:=by
  intro X hP hw hK hc i pins s σ H E I B st hg
  subst hP hw hK
  obtain ⟨s1,s2,hz,O,a,M,lL⟩:=st
  have hT:s.TypeIs (.ref z) "zip":=⟨_,hz,rfl⟩
  have n:=B z (by simp)
  have S:=B TI (by simp)
  have nE:=B TO (by simp)
  have R:∀ b∈dz,uM X pins H b:=λb d=>B b (by simp [d])
  have rW:∀ b∈dE,uM X pins H b:=λb d=>B b (by simp [d])
  have oJ:∀ b∈dz,b≠z:=λb d=>Z.z1 b (by simp [d])
  have oI:∀ b∈dE,b≠z:=λb d=>Z.z1 b (by simp [d])
  have n1I:∀ b∈dz,b≠TI:=λb d=>Z.z2 b (by simp [d])
  have n2I:∀ b∈dE,b≠TI:=λb d=>Z.z2 b (by simp [d])
  have pQ:∀ b∈dz,b≠TO:=λb d=>Z.z3 b (by simp [d])
  have pP:∀ b∈dE,b≠TO:=λb d=>Z.z3 b (by simp [d])
  unfold pyNext
  refine ls (A1 (tE (name:=sX "__next__") hT F.slot_zip_next (tM F.slot_zip_next hT F.entry_zip_next ?_ (F.args_zip_next_1 _))))
  show sG _ _ (field (.ref z) 2 >>= _) _ _ _
  refine ls (sS hz rfl (x:=.bool false) rfl ?_)
  show sG _ _ (field (.ref z) 3 >>= _) _ _ _
  refine ls (sS hz rfl (x:=.ref TI) rfl ?_)
  refine ls (Ao O rfl ?_)
  show sG _ _ (tm (.ref z) >>= _) _ _ _
  refine ls ?_
  unfold tm
  refine ls (sS hz rfl (x:=.none) rfl (su ?_))
  simp only [if_true]
  refine ls (Eh ?_)
  refine ls (sS hz rfl (x:=.ref TO) rfl ?_)
  refine ls (tf hz (by simp) λh₁ L C=>?_)
  replace L:IsZip h₁ z TI TO .ellipsis:=L
  have I1:Inv X pins σ H { s with heap:=h₁ }:=uB (t':=s.toks) I C n
  have dh:AZ h₁ TI (.ref i1) (.ref i2):=(C.2 TI (tZ Z.a1)).trans O
  have df:AZ h₁ TO a M:=(C.2 TO (tZ Z.a2)).trans lL
  have fP:iC i h₁:=m.keep _ _ _ s1 λb d o e=>(C.2 b (oJ b d)).trans e
  have dH:gB i h₁:=j.keep _ _ _ s2 λb d o e=>(C.2 b (oI b d)).trans e
  have W:=I1.pinned (fp:=z :: TI :: TO :: dE) (λb d=>by
   rcases aQ.mp d with rfl | d
   .exact n
   rcases aQ.mp d with rfl | d
   .exact S
   rcases aQ.mp d with rfl | d
   .exact nE
   .exact rW b d) (λb d=>by
   rcases aQ.mp d with rfl | d
   .exact ⟨_,L,λv z=>by cases z⟩
   rcases aQ.mp d with rfl | d
   .exact ⟨_,dh,λv z=>by cases z⟩
   rcases aQ.mp d with rfl | d
   .exact ⟨_,df,λv z=>by cases z⟩
   .exact j.obj _ _ dH b d)
  have pq:∀ b∈dz,uM X (pins++jc (z :: TI :: TO :: dE) h₁) H b:=λb d=>Eo (R b d) (by
   intro hm
   rcases aQ.mp hm with e | hm
   .exact oJ b d e
   rcases aQ.mp hm with e | hm
   .exact n1I b d e
   rcases aQ.mp hm with e | hm
   .exact pQ b d e
   .exact Z.d b d hm)
  refine ls ?_
  simp only [List.zipIdx_cons,List.zipIdx_nil,List.forIn_cons,List.forIn_nil]
  refine ls (ls (Et ?_))
  show sG _ _ (sW (.ref i1) >>= _) _ _ _
  rcases hg with hg | ⟨g1,hg⟩
  .refine ls (sN (m.fin X.A.in1 X rfl rfl rfl (I.ok.hd hc) i _ _ σ H _ W pq fP hg) (λ_ _ z=>z) λe l h3=>?_)
   obtain ⟨g,c,o,rfl,ho,fX⟩:=h3
   obtain ⟨r,rS⟩:=x8 g (b:=z) (by simp) L
   have r:IsZip l.heap z TI TO .ellipsis:=r
   have hcz:c≠z:=λx=>by subst x; rw [r] at ho; cases ho; simp at fX
   refine tf r (by simp) λG dJ p=>?_
   refine ls (wpAny_isInstance (T:="StopIteration") (b:=true) ⟨o,(p.2 c hcz).trans ho,fX⟩ isSubtype_stop ?_)
   exact su ⟨rfl,uB (t':=l.toks) g.unpinned p ⟨rS,n.2⟩⟩
  .refine ls (sN (m.item _ X rfl rfl rfl i _ _ σ H _ W pq fP g1) (λu1 l h3=>su ?_) λ_ _ z=>z)
   obtain ⟨x1,H3,g,r3,y3,o9,rV⟩:=h3
   obtain ⟨rfl,eV⟩:=hg _ _ y3
   obtain ⟨r,rS⟩:=x8 g (b:=z) (by simp) L
   obtain ⟨eQ,rZ⟩:=x8 g (b:=TI) (by simp) dh
   obtain ⟨U,lR⟩:=x8 g (b:=TO) (by simp) df
   have r:IsZip l.heap z TI TO .ellipsis:=r
   have U:AZ l.heap TO a M:=U
   have gU:gB i l.heap:=j.keep _ _ _ dH λb d o e=>(x8 g (by simp [d]) e).1
   have g:=g.unpinned
   refine ls (Ao U rfl ?_)
   refine ls (wpAny_updateSeq_pair U λG dc p=>?_)
   refine ls (wpAny_letGo (su ?_))
   have I4:Inv X pins σ H3 { l with heap:=G }:=uB (t':=l.toks) g p ⟨lR,nE.2⟩
   have dJ:IsZip G z TI TO .ellipsis:=(p.2 z Z.a2).trans r
   have gR:gB i G:=j.keep _ _ _ gU λb d o e=>(p.2 b (pP b d)).trans e
   refine ls (ls (Et ?_))
   show sG _ _ (sW (.ref i2) >>= _) _ _ _
   have I4p:=I4.pinned (fp:=[z]) (λb d=>by
    have e:b=z:=by simpa using d
    subst e; exact ⟨rS,n.2⟩) (λb d=>by
    have e:b=z:=by simpa using d
    subst e; exact ⟨_,dJ,λv z=>by cases z⟩)
   refine ls (sN (j.fin X.A.in1 X rfl rfl rfl (I.ok.hd hc) i _ _ σ H3 _ I4p (λb d=>Eo (rW b d) (by
    intro hm
    exact oI b d (by simpa using hm))) gR eV) (λ_ _ z=>z) λe s5 h5=>?_)
   obtain ⟨J,c,o,rfl,ho,fX⟩:=h5
   obtain ⟨Y,fz5⟩:=x8 J (b:=z) (by simp) dJ
   have Y:IsZip s5.heap z TI TO .ellipsis:=Y
   have hcz:c≠z:=λx=>by subst x; rw [Y] at ho; cases ho; simp at fX
   refine tf Y (by simp) λf g7 bO=>?_
   refine ls (wpAny_isInstance (T:="StopIteration") (b:=true) ⟨o,(bO.2 c hcz).trans ho,fX⟩ isSubtype_stop ?_)
   exact su ⟨rfl,uB (t':=s5.toks) J.unpinned bO ⟨fz5,n.2⟩⟩
 self:=λA i s Q E st h=>wpAny_pyIter_zip st.2.2.1 h
end
def fM (b:Bool) (h:Heap) (a:Addr) (ah:Array Value):Prop:=if b=true then h.IsList a ah else h.IsTuple a ah
def xS (b:Bool) (a:Addr):Obj:={ cls:=.type (if b=true then "list_iterator" else "tuple_iterator"),data:=.fields #[.ref a,.int 0 0] }
def fM.push (q:fM b h a ah) (o):fM b (h.push o) a ah:=by
 cases b with
 | true=>exact Heap.IsList.push q o
 | false=>exact Heap.IsTuple.push q o
section
variable {prog:sH} {w:sU} {A:Around} {E:Value->Shared->Prop} {s:Shared}
def w6 (q:fM b s.heap a ah) (h:Q (.ref s.heap.objs.size) { s with heap:=s.heap.push (xS b a) }):sG (sL prog w) A (pyIter (.ref a)) Q E s:=by
 cases b with
 | true=>exact Ed q h
 | false=>exact wpAny_pyIter_tuple q h
set_option tactic.hygienic true in
def V3 (b) (a:Addr) (ah:Array Value) :
  Meets (Builtin.«enumerate.__new__» ⟨[.type "enumerate",.ref a],[]⟩) (λ_ R s=>fM b s.heap a ah ∧
   R (.ok (.ret (.ref (s.heap.push (xS b a)).objs.size))) { s with heap:=(s.heap.push (xS b a)).push { cls:=.type "enumerate",data:=.fields #[.none,.bool false,.ref s.heap.objs.size,Aj 0,.none,.none] } }) :=
 .of_wp λprog w A R s h=>by
  obtain ⟨f,g,d,tk,os⟩:=s; obtain ⟨i,h⟩:=h
  have j:=sub_enumerate
  have e:fM b (Shared.heap ⟨f,g,d,tk,os⟩) a ah:=i
  wp_walk using w6 e
  refine wpAny_stack_any λst=>su ?_
  split
  .rename_i c _ _ _ _ _
   cases (c==Value.type "enumerate")
   .wp_walk using w6 e
    exact ⟨_,rfl,h⟩
   .wp_walk using w6 e
    exact ⟨_,rfl,h⟩
  .wp_walk using w6 e
   exact ⟨_,rfl,h⟩
def Jo (d:fM b s.heap a ah)
  (h:∀ h',IsEnum h' (s.heap.objs.size+1) s.heap.objs.size 0 .none->h'.get? s.heap.objs.size=some (xS b a)->(∀ b o,s.heap.get? b=some o->h'.get? b=some o)->Q (.ref (s.heap.objs.size+1)) { s with heap:=h' }) :
  sG (sL prog w) A (call (.type "enumerate") [.ref a]) Q E s:=by
 refine callType_new F.called_enumerate (by decide) (F.typeCall_enumerate_1 _) (F.newCall_enumerate_1 _) (λobj=>F.args_object_init_2 obj _) F.entry_enumerate_new (V3 b a ah) ⟨d,?_⟩
 have hz:(s.heap.push (xS b a)).objs.size=s.heap.objs.size+1:=AW ..
 show _/\_
 rw [hz]
 have c:IsEnum ((s.heap.push (xS b a)).push { cls:=.type "enumerate",data:=.fields #[.none,.bool false,.ref s.heap.objs.size,Aj 0,.none,.none] }) (s.heap.objs.size+1) s.heap.objs.size 0 .none:=by
  have:=sF (s.heap.push (xS b a)) (o:={ cls:=.type "enumerate",data:=.fields #[.none,.bool false,.ref s.heap.objs.size,Aj 0,.none,.none] }) rfl
  rw [hz] at this; exact this
 exact ⟨⟨_,c,rfl⟩,h _ c (mo _ (sF _ rfl)) λb o x=>mo _ (mo _ x)⟩
def Qr (b e) (a c:Addr) (xs ys:Array Value) :
  Meets (Builtin.«zip.__new__» ⟨[.type "zip",.ref a,.ref c],[]⟩) (λ_ R s=>fM b s.heap a xs/\fM e s.heap c ys ∧
   R (.ok (.ret (.ref ((((s.heap.push (xS b a)).push (xS e c)).push { cls:=.type "tuple",data:=.seq #[.ref s.heap.objs.size,.ref (s.heap.push (xS b a)).objs.size] }).push { cls:=.type "tuple",data:=.seq #[.none,.none] }).objs.size)))
    { s with heap:=((((s.heap.push (xS b a)).push (xS e c)).push { cls:=.type "tuple",data:=.seq #[.ref s.heap.objs.size,.ref (s.heap.push (xS b a)).objs.size] }).push { cls:=.type "tuple",data:=.seq #[.none,.none] }).push ({ cls:=.type "zip",data:=.fields #[.none,.bool false,.bool false,.ref ((s.heap.push (xS b a)).push (xS e c)).objs.size,.ref (((s.heap.push (xS b a)).push (xS e c)).push { cls:=.type "tuple",data:=.seq #[.ref s.heap.objs.size,.ref (s.heap.push (xS b a)).objs.size] }).objs.size] }:Obj) }) :=
 .of_wp λprog w A R s h=>by
  obtain ⟨j,g,d,tk,os⟩:=s; obtain ⟨l,m,h⟩:=h
  have n:=sub_zip
  have i:fM b (Shared.heap ⟨j,g,d,tk,os⟩) a xs:=l
  have f:fM e (Shared.heap ⟨j.push (xS b a),g,d,tk,os⟩) c ys:=fM.push m _
  wp_walk using w6 i,w6 f
  exact ⟨_,rfl,h⟩
def Gi (r:fM i s.heap e xs) (t:fM g s.heap d ys)
  (h:∀ h',IsZip h' (s.heap.objs.size+4) (s.heap.objs.size+2) (s.heap.objs.size+3) .none->AZ h' (s.heap.objs.size+2) (.ref s.heap.objs.size) (.ref (s.heap.objs.size+1)) →
   AZ h' (s.heap.objs.size+3) .none .none->h'.get? s.heap.objs.size=some (xS i e)->h'.get? (s.heap.objs.size+1)=some (xS g d)->(∀ c o,s.heap.get? c=some o->h'.get? c=some o)->Q (.ref (s.heap.objs.size+4)) { s with heap:=h' }) :
  sG (sL prog w) A (call (.type "zip") [.ref e,.ref d]) Q E s:=by
 refine callType_new F.called_zip (by decide) (F.typeCall_zip_2 _ _) (F.newCall_zip_2 _ _) (λobj=>F.args_object_init_3 obj _ _) F.entry_zip_new (Qr i g e d xs ys) ⟨r,t,?_⟩
 generalize e1:s.heap.push (xS i e)=h1
 generalize e2:h1.push (xS g d)=h2
 generalize l:h2.push { cls:=.type "tuple",data:=.seq #[.ref s.heap.objs.size,.ref h1.objs.size] }=a
 generalize j:a.push { cls:=.type "tuple",data:=.seq #[.none,.none] }=b
 have z1:h1.objs.size=s.heap.objs.size+1:=by rw [<- e1]; exact AW ..
 have z2:h2.objs.size=s.heap.objs.size+2:=by rw [<- e2,AW,z1]
 have z3:a.objs.size=s.heap.objs.size+3:=by rw [<- l,AW,z2]
 have m:b.objs.size=s.heap.objs.size+4:=by rw [<- j,AW,z3]
 have k1:∀ c o,s.heap.get? c=some o->h1.get? c=some o:=λc o x=>by rw [<- e1]; exact mo _ x
 have k2:∀ c o,h1.get? c=some o->h2.get? c=some o:=λc o x=>by rw [<- e2]; exact mo _ x
 have k3:∀ c o,h2.get? c=some o->a.get? c=some o:=λc o x=>by rw [<- l]; exact mo _ x
 have f:∀ c o,a.get? c=some o->b.get? c=some o:=λc o x=>by rw [<- j]; exact mo _ x
 have u:h1.get? s.heap.objs.size=some (xS i e):=by rw [<- e1]; exact sF _ rfl
 have g2:h2.get? h1.objs.size=some (xS g d):=by rw [<- e2]; exact sF _ rfl
 have q:AZ a h2.objs.size (.ref s.heap.objs.size) (.ref h1.objs.size):=by show a.get? h2.objs.size=_; rw [<- l]; exact sF _ rfl
 have p:AZ b a.objs.size .none .none:=by show b.get? a.objs.size=_; rw [<- j]; exact sF _ rfl
 show _/\_
 rw [z2,z3,m]
 rw [z1] at g2
 rw [z1,z2] at q
 rw [z3] at p
 have n:IsZip (b.push { cls:=.type "zip",data:=.fields #[.none,.bool false,.bool false,.ref (s.heap.objs.size+2),.ref (s.heap.objs.size+3)] }) (s.heap.objs.size+4) (s.heap.objs.size+2) (s.heap.objs.size+3) .none:=by
  have:=sF b (o:={ cls:=.type "zip",data:=.fields #[.none,.bool false,.bool false,.ref (s.heap.objs.size+2),.ref (s.heap.objs.size+3)] }) rfl
  rw [m] at this; exact this
 exact ⟨⟨_,n,rfl⟩,h _ n (mo _ (f _ _ q)) (mo _ p) (mo _ (f _ _ (k3 _ _ (k2 _ _ u)))) (mo _ (f _ _ (k3 _ _ g2))) λc o x=>mo _ (f _ _ (k3 _ _ (k2 _ _ (k1 _ _ x))))⟩
def Wd (b:IsEnum s.heap e it i old) (h:Q (.ref e) s):sG (sL prog w) A (pyIter (.ref e)) Q E s:=by
 have a:s.TypeIs (.ref e) "enumerate":=⟨_,b,rfl⟩
 refine wpAny_pyIter_slot a AY (tM AY a F.entry_enumerate_iter ?_ (F.args_enumerate_iter_1 _))
 show sG _ _ (ret (.ref e)) _ _ s
 exact su ⟨_,rfl,"enumerate",_,a,Ae.lookup,h⟩
end
def qE {K:sx} (g:aZ K Hf a xs) (h:zB K Hf ds xs):Walks K Hf (Itl K a) ds:=λH2 aP t2 e i=>by
 refine ⟨λd hd=>?_,λc=>⟨xs,e.seq (t2.seq g),by rw [h.length]; exact c⟩⟩
 obtain ⟨v,j,l⟩:=h.get hd
 have f:aZ K H2 a xs:=e.seq (t2.seq g)
 refine ⟨⟨xs,v,f,j⟩,λx m b=>?_⟩
 obtain ⟨rfl,b⟩:=b
 have:=b xs f
 rw [j] at this
 cases this
 exact ⟨aP,Grows.refl e,l.mono t2⟩
def YM {K:sx} (g:bJ K Hf a xs) (h:zB K Hf ds xs):Walks K Hf (Itt K a) ds:=λH2 aP t2 e i=>by
 refine ⟨λd hd=>?_,λc=>⟨xs,Z1 e (Z1 t2 g),by rw [h.length]; exact c⟩⟩
 obtain ⟨v,j,l⟩:=h.get hd
 have f:bJ K H2 a xs:=Z1 e (Z1 t2 g)
 refine ⟨⟨xs,v,f,j⟩,λx m b=>?_⟩
 obtain ⟨rfl,b⟩:=b
 have:=b xs f
 rw [j] at this
 cases this
 exact ⟨aP,Grows.refl e,l.mono t2⟩
def Grows.lay (s:zV Hf H) (c:H p=none):Grows H Hf (upd H p o) (upd Hf p o):=by
 have d:Hf p=none:=s.free c
 refine ⟨zA c,zA d,λb u e=>?_,λb u e=>?_⟩
 .by_cases a:b=p
  .subst a; rw [zq] at e ⊢; exact e
  .rw [zu a] at e ⊢; exact s b u e
 .by_cases a:b=p
  .subst a; exact .inr (.inl c)
  .rw [zu a] at e; exact .inl e
def Yr (ds:List D):List D:=ds.zipIdx.map λp=>.tup [.int (p.2:Int),p.1]
def QU  {i:Nat} (h:(Yr ds)[i]? = some d):∃ x,ds[i]? = some x/\d=.tup [.int i,x]:=by
 unfold Yr at h
 rw [dX,List.getElem?_zipIdx] at h
 cases e:ds[i]? with
 | none=>rw [e] at h; cases h
 | some x=>rw [e] at h; simp at h; exact ⟨x,rfl,h.symm⟩
def Xu (ds):(Yr ds).length=ds.length:=by simp [Yr]
def VM {K:sx} (f:Walks K Hf J ds):Walks K Hf (ItE J) (Yr ds):=λH2 aP t2 m i=>by
 obtain ⟨h,g⟩:=f H2 aP t2 m i
 refine ⟨λd hd=>?_,λa=>g (by rw [Xu] at a; exact a)⟩
 obtain ⟨x,j,rfl⟩:=QU hd
 obtain ⟨go,e⟩:=h x j
 refine ⟨go,λv q b=>?_⟩
 obtain ⟨y,H1,p,b,l,rfl,rfl⟩:=b
 obtain ⟨n,c,hh⟩:=e y H1 b
 have g2:=Grows.lay (o:=.tup [.int i,y]) c.fh l
 exact ⟨_,c.trans g2,sQ.mpr ⟨p,_,rfl,bJ.of zq,.cons (sA.mpr rfl) (.cons (hh.mono g2.f) .nil)⟩⟩
def Jz (xs ys:List D):List D:=(xs.zip ys).map λp=>.tup [p.1,p.2]
def JE  {i:Nat} (h:(Jz xs ys)[i]? = some d):∃ x y,xs[i]? = some x/\ys[i]? = some y/\d=.tup [x,y]:=by
 unfold Jz at h
 rw [dX] at h
 cases e:(xs.zip ys)[i]? with
 | none=>rw [e] at h; cases h
 | some p =>
  rw [e] at h
  simp at h
  obtain ⟨h1,h2⟩:=List.getElem?_zip_eq_some.mp e
  exact ⟨p.1,p.2,h1,h2,h.symm⟩
def X0 (xs ys):(Jz xs ys).length=min xs.length ys.length:=by simp [Jz]
def Uv {K:sx} (f:∀ i H x H',J1.yld i H x H'->H'=H) (z:Walks K Hf J1 xs) (r:Walks K Hf J2 ys):Walks K Hf (ItZ J1 J2) (Jz xs ys):=λH2 aP t2 u i=>by
 obtain ⟨a1,a2⟩:=z H2 aP t2 u i
 obtain ⟨F,E⟩:=r H2 aP t2 u i
 refine ⟨λd hd=>?_,λg=>?_⟩
 .obtain ⟨x,y,e,t,rfl⟩:=JE hd
  obtain ⟨l,a⟩:=a1 x e
  obtain ⟨j,w⟩:=F y t
  refine ⟨⟨l,λv H1 q=>by rw [f _ _ _ _ q]; exact j⟩,λv L q=>?_⟩
  obtain ⟨n,m,H1,I,p,s,A,B,rfl,rfl⟩:=q
  have e1:=f _ _ _ _ s
  subst e1
  obtain ⟨G,c,h1⟩:=a n _ s
  obtain ⟨J,b,C⟩:=(r H1 G (t2.trans c.f) c.fh i).1 y t |>.2 m _ A
  have g2:=Grows.lay (o:=.tup [n,m]) b.fh B
  exact ⟨_,(c.trans b).trans g2,sQ.mpr ⟨p,_,rfl,bJ.of zq,.cons ((h1.mono b.f).mono g2.f) (.cons (C.mono g2.f) .nil)⟩⟩
 .rw [X0] at g
  by_cases h:xs.length<=i
  .exact .inl (a2 h)
  .have e:xs[i]? = some xs[i]:=fq (by omega)
   exact .inr ⟨(a1 _ e).1,λv H1 q=>⟨f _ _ _ _ q,E (by omega)⟩⟩
section
variable {X:Cx} {e e1 e2:Expr} {f f1 f2:FE} {pos:Pos} {elts:List Expr} {kx:Nat} {tp:Pos}
def QQ  {σ:St} (I:Inv X pins σ H s) {b:Addr} (a:s.heap.objs.size<=b):uM X pins H b:=I.fpOk a (I.hok.fresh a)
def UJ:D->Option (List D)
 | .lst ds=>some ds
 | .tup ds=>some ds
 | _=>none
def yz (f:FE):FA:=λρ=>(f ρ).bind UJ
def GV (f:FE):FA:=λρ=>(yz f ρ).bind λds=>some (Yr ds)
def GU (f g:FE):FA:=λρ=>(yz f ρ).bind λxs=>(yz g ρ).bind λys=>some (Jz xs ys)
def UH (I:Inv X pins σ H s) (sf:zV Hf H) (h:af X.K Hf d v) (hd:UJ d=some ds) (r:yJ v u):
  ∃ (b:Bool) (a:Addr) (ah:Array Value) (J:It),u=.ref a/\fM b s.heap a ah/\Walks X.K Hf J ds/\(∀ i H x H',J.yld i H x H'->H'=H) ∧
   ∀ it,∃ tn,Draw X.prog X.w X.K J [it] it tn/\∀ h,h.get? it=some (xS b a)->tn 0 h:=by
 cases d with
 | lst j =>
  cases hd
  obtain ⟨a,xs,rfl,c,g⟩:=sO.mp h
  cases r
  obtain ⟨ah,_,p,_⟩:=I.list (sf.seq c)
  exact ⟨true,a,_,_,rfl,p.isList,qE c g,λ_ _ _ _ q=>q.1,λit=>⟨_,QX a it,λh e=>⟨_,e,rfl,rfl⟩⟩⟩
 | tup j =>
  cases hd
  obtain ⟨a,xs,rfl,c,g⟩:=sQ.mp h
  cases r
  obtain ⟨ah,_,p,_⟩:=I.tuple (Z1 sf c)
  exact ⟨false,a,_,_,rfl,p,YM c g,λ_ _ _ _ q=>q.1,λit=>⟨_,Uj a it,λh e=>⟨_,e,rfl,rfl⟩⟩⟩
 | _=>cases hd
def Cb (C:Gl X "enumerate") (A:X.mg "enumerate"=none) (E:DE X e f) (n:sC [e] X.env=[(false,eval e X.env)]:=by rfl):DI X (.Tuple elts kx tp) (.Call (.Name "enumerate" p) [e] [] pos) (GV f):=by
 intro pins s σ H R I h
 obtain ⟨H₀,aa,ρ,Hf,O,M,q,k⟩:=h
 obtain ⟨ds,m,z⟩:=z8 q
 cases z
 obtain ⟨d,y,x⟩:=zM m
 refine Call_ (kj I C A boot_enumerate (Aa (thn ((zN E yE n) pos pins s σ H (λvs H1=>∃ v c,vs=[v]/\Rep X.K H₀ aa σ ρ H1 c/\zV H H1/\zV Hf c/\af X.K c d v) I ⟨H₀,aa,ρ,Hf,d,M,y,λv H1 c j s1 t1 h1=>⟨v,c,rfl,j,s1,t1,h1⟩⟩) λus s1 ⟨vs,H1,l,w,m⟩=>?_) n rfl))
 obtain ⟨v,c,rfl,j,F,t1,h1⟩:=m
 cases w with
 | cons r u =>
  cases u
  obtain ⟨b,a,ah,J,rfl,t,o,_,G⟩:=UH l j.sf h1 x r
  refine Jo t λh' g L B=>?_
  have N:Inv X pins σ H1 { s1 with heap:=h' }:=l.kept (t':=s1.toks) B
  obtain ⟨tn,D,st⟩:=G s1.heap.objs.size
  refine Wd g ⟨s1.heap.objs.size+1,[s1.heap.objs.size+1,s1.heap.objs.size],_,_,H1,rfl,N,UA (elts:=elts) (kx:=kx) (tp:=tp) (e:=s1.heap.objs.size+1) D (λb i=>by
   have e:b=s1.heap.objs.size:=by simpa using i
   rw [e]; exact cb (EA _)),⟨st _ L,_,g⟩,λb i=>?_,k _ _ _ j F t1 (VM o)⟩
  rcases aQ.mp i with rfl | i
  .exact QQ l (il _)
  .have e:b=s1.heap.objs.size:=by simpa using i
   rw [e]; exact QQ l (aU _)
def FW (hg:Gl X "zip") (hm:X.mg "zip"=none) (h1:DE X e1 f1) (h2:DE X e2 f2) (y:sC [e1,e2] X.env=[(false,eval e1 X.env),(false,eval e2 X.env)]:=by rfl) (j:sC [e2] X.env=[(false,eval e2 X.env)]:=by rfl) :
  DI X (.Tuple elts kx tp) (.Call (.Name "zip" p) [e1,e2] [] pos) (GU f1 f2):=by
 intro pins s σ H R I h
 obtain ⟨H₀,aa,ρ,Hf,dF,R0,q,k⟩:=h
 obtain ⟨xs,t,S⟩:=z8 q
 obtain ⟨ys,O,N⟩:=z8 S
 cases N
 obtain ⟨A,Q,P⟩:=zM t
 obtain ⟨z,M,L⟩:=zM O
 refine Call_ (kj I hg hm boot_zip (Aa (thn ((zN h1 (zN h2 yE j) (by rw [y,j])) pos pins s σ H (λvs H1=>∃ v g d,vs=[v,g]/\Rep X.K H₀ aa σ ρ H1 d/\zV H H1/\zV Hf d/\af X.K d A v/\af X.K d z g) I
  ⟨H₀,aa,ρ,Hf,A,R0,Q,λv H1 d i s1 t1 h1=>⟨H₀,aa,ρ,d,z,i,M,λg H2 aP R2 s2 t2 h2=>⟨v,g,aP,rfl,R2,s1.trans s2,t1.trans t2,h1.mono t2,h2⟩⟩⟩) λus s1 ⟨vs,H1,l,F,t⟩=>?_) (by rw [y,j]) (by rw [j]; rfl)))
 obtain ⟨v,g,d,rfl,i,fy,t1,Y,W⟩:=t
 cases F with
 | cons r o =>
  cases o with
  | cons G o =>
   cases o
   obtain ⟨b,a,ah,J,rfl,E,B,hq,dr⟩:=UH l i.sf Y P r
   obtain ⟨b',a',its',J',rfl,n,m,oP,x⟩:=UH l i.sf W L G
   refine Gi E n λh' hz U T hi cH hk=>?_
   have I2:Inv X pins σ H1 { s1 with heap:=h' }:=l.kept (t':=s1.toks) hk
   obtain ⟨tn,D,st⟩:=dr s1.heap.objs.size
   obtain ⟨C,D',dm⟩:=x (s1.heap.objs.size+1)
   have mem:∀ b:Addr,b∈[s1.heap.objs.size]++[s1.heap.objs.size+1]->b=s1.heap.objs.size\/b=s1.heap.objs.size+1:=λb c=>by simpa using c
   have Z:ZApart (s1.heap.objs.size+4) (s1.heap.objs.size+2) (s1.heap.objs.size+3) [s1.heap.objs.size] [s1.heap.objs.size+1] :=
    ⟨by show (_:Nat)≠_; omega,by show (_:Nat)≠_; omega,by show (_:Nat)≠_; omega,λb c=>by rcases mem b c with e | e <;> (rw [e]; show (_:Nat)≠_; omega),λb c=>by rcases mem b c with e | e <;> (rw [e]; show (_:Nat)≠_; omega),
     λb c=>by rcases mem b c with e | e <;> (rw [e]; show (_:Nat)≠_; omega),λb c w=>by
      have e1:b=s1.heap.objs.size:=by simpa using c
      have e2:b=s1.heap.objs.size+1:=by simpa using w
      rw [e1] at e2
      exact absurd e2 (cb (EA _))⟩
   refine wpAny_pyIter_zip hz ⟨_,_,_,_,H1,rfl,I2,JI (elts:=elts) (kx:=kx) (tp:=tp) D D' Z,⟨st _ hi,dm _ cH,hz,U,_,_,T⟩,λb c=>?_,k _ _ _ i fy t1 (Uv hq B m)⟩
   have u:s1.heap.objs.size<=b:=by
    have:b=s1.heap.objs.size+4\/b=s1.heap.objs.size+2\/b=s1.heap.objs.size+3\/b=s1.heap.objs.size\/b=s1.heap.objs.size+1:=by simpa using c
    rcases this with e | e | e | e | e <;> (rw [e]; show (_:Nat)<=_; omega)
   exact QQ l u
end
section
variable {prog:sH} {w:sU} {A:Around} {E:Value->Shared->Prop} {s:Shared}
def qN    {lo hi:Option Int} (ht:IsTup s.heap t items) (d:s.heap.IsSliceOf sl f e .none) (pl:IsPart f lo) (g:IsPart e hi)
  (c:HT.sIx items.size 0 lo=0/\HT.sIx items.size items.size hi=items.size) (h:Q (.ref t) s):sG (sL prog w) A (getItem (.ref t) (.ref sl)) Q E s:=by
 obtain ⟨os,i,a,j⟩:=id d
 have b:s.TypeIs (.ref sl) "slice":=⟨os,i,a⟩
 unfold getItem
 try with_reducible refine tQ ?_
 first | refine ls (su ?_) | skip
 refine ls (wpAny_sequenceKey ht.typeIs (by decide) ?_)
 refine ls (tE (name:=sX "__getitem__") ht.typeIs tH
  (tM tH ht.typeIs entry_tuple_getitem ?_ (args_tuple_getitem _ _)))
 show sG _ _ (Builtin.Tuple.tupleItemsOf (.ref t) >>= _) _ _ s
 refine ls (tupleItemsOf_ ht ?_)
 refine ls (wpAny_typeOf b ?_)
 rw [if_pos (by decide)]
 refine ls (HT.sliceApplied_gen d pl g ?_)
 rw [c.1,c.2]
 show sG _ _ (if (((0:Nat):Int)==0&&(1:Int)==1&&(items.size - 0)==items.size)=true then _ else _) _ _ s
 rw [if_pos (by simp)]
 show sG _ _ (Builtin.Tuple.tupleIsExact (.ref t) >>= _) _ _ s
 unfold Builtin.Tuple.tupleIsExact
 refine ls (ls (wpAny_typeOf ht.typeIs (su ?_)))
 rw [if_pos (by decide)]
 refine ls (Eh ?_)
 exact su ⟨_,rfl,su h⟩
open PySem.AutoSeq1 (wpAny_loadPart') in
def X2 (l b) (j:Array Value) (n a:Nat) (dd c:Option Addr) (sl i:Array (Option Value)) :
  Meets (Builtin.«tuple.__add__» ⟨[.ref l,.ref b],[]⟩) (λ_ R s=>s.heap.get? l=some { cls:=.type "tuple",dict:=dd,data:=.seq #[] n,slots:=sl }/\s.heap.get? b=some { cls:=.type "tuple",dict:=c,data:=.seq j a,slots:=i }/\R (.ok (.ret (.ref b))) s) :=
 .of_wp λprog w A R s h=>by
  obtain ⟨m,g,d,tk,os⟩:=s; obtain ⟨e,f,h⟩:=h
  have f2:=AutoSeq1.sub_tuple_tuple
  wp_walk using s_ e,s_ f
  exact ⟨_,rfl,h⟩
def Gh  {c:List Value} (ht:IsTup s.heap t #[]) (l:IsTup s.heap b c.toArray) (h:Q (.ref b) s):sG (sL prog w) A (Ay .Add (.ref t) (.ref b)) Q E s:=by
 obtain ⟨⟨cls,dd,data,sl⟩,f,g,n,hd⟩:=id ht
 obtain ⟨⟨o,j,data2,m⟩,e,d,i,a⟩:=id l
 simp only at g hd d a
 subst g hd d a
 exact concat_meets ⟨_,f,rfl⟩ ⟨_,e,rfl⟩ noFill_tuple_add seq_tuple_add EE Es (Ef _ _) (X2 t b c.toArray n i dd j sl m) ⟨f,e,h⟩
end
section
variable {X:Cx}
def Gz (K:sx):R2:=λx y H Q=>∃ a b xs ys,x=.ref a/\y=.ref b/\bJ K H a xs/\bJ K H b ys/\xs.length+ys.length<=sizeLine ∧
 (xs=[]->Q (.ref b) H)/\(xs≠[]->ys=[]->Q (.ref a) H)/\(xs≠[]->ys≠[]->∀ p,H p=none->Q (.ref p) (upd H p (.tup (xs++ys))))
def Km:cf X (Ay .Add) (Gz X.K):=by
 intro pins s σ H x y v u Q I e d h
 obtain ⟨a,b,xs,ys,rfl,rfl,g,f,hz,m,l,j⟩:=h
 by_cases c:xs=[]
 .subst c
  cases e
  cases d
  obtain ⟨ah,i,n,_⟩:=I.tuple g
  obtain ⟨p,o,p2,_⟩:=I.tuple f
  cases i
  exact Gh n p2 ⟨.ref b,H,I,rfl,m rfl⟩
 .exact Bn pins s σ H _ _ v u Q I e d ⟨a,b,xs,ys,rfl,rfl,g,f,c,hz,l c,j c⟩
def GA (K:sx):R2:=λx y H Q=>∃ a b xs ys,x=.ref a/\y=.ref b/\aZ K H a xs/\aZ K H b ys/\xs.length+ys.length<=sizeLine/\∀ p,H p=none->Q (.ref p) (upd H p (.lst (xs++ys)))
def Vf:cf X (Ay .Add) (GA X.K):=by
 intro pins s σ H x y v u Q I r p h
 obtain ⟨a,b,xs,ys,rfl,rfl,B,A,hz,q⟩:=h
 cases r
 cases p
 obtain ⟨ah,i,t,_⟩:=I.list B
 obtain ⟨d,g,p2,_⟩:=I.list A
 obtain ⟨⟨cls,dd,data,sl⟩,m,o,n,hd⟩:=id t.isList
 obtain ⟨⟨E,z,data2,C⟩,l,j,w,c⟩:=id p2.isList
 simp only at o hd j c
 subst o hd j c
 have e:ah.toArray++d.toArray=(ah++d).toArray:=by simp
 have f:ah.toArray.size+d.toArray.size<=sizeLine:=by
  rw [cx,cx,<- i.length,<- g.length]; exact hz
 refine concat_meets ⟨_,m,rfl⟩ ⟨_,l,rfl⟩ noFill_list_add seq_list_add PySem.F.slot_list_add PySem.F.entry_list_add (PySem.F.args_list_add_2 _ _) (list_addW a b ah.toArray d.toArray n w dd z sl C f) ⟨m,l,?_⟩
 rw [e]
 exact ⟨.ref _,_,I.lnew (t':=s.toks) (i.append g) (by rw [bX]; exact hz),rfl,q _ I.fresh⟩
def Dh (K:sx):R2:=λx y H Q=>gk (λi j=>.int (i+j)) x y H Q\/(∃ i j,x=.str i/\y=.str j/\i.length+j.length<=sizeLine/\Q (.str (i++j)) H)\/Gz K x y H Q\/GA K x y H Q
def Bo:cf X (Ay .Add) (Dh X.K):=Dw.or (VZ.or (Km.or Vf))
def yI:D->D->Option D
 | .int i,.int j=>some (.int (i+j))
 | .str x,.str y=>if x.length+y.length<=sizeLine then some (.str (x++y)) else none
 | .tup xs,.tup ys=>if xs.length+ys.length<=sizeLine then some (.tup (xs++ys)) else none
 | .lst xs,.lst ys=>if xs.length+ys.length<=sizeLine then some (.lst (xs++ys)) else none
 | _,_=>none
def zB.nil_of {K:sx} (h:zB K H ds xs):xs=[]↔ds=[]:=by
 have:=h.length
 constructor
 .intro e; subst e; exact g2g this.symm
 .intro e; subst e; exact g2g this
def uA.tupF {K:sx} (h:uA K Hf σ ρ (.tup ds) v):af K Hf (.tup ds) v:=by
 rcases h with h | ⟨_,_,e,_⟩
 .exact h
 .cases e
set_option tactic.hygienic true in
def Ko:d_ X (Dh X.K) yI:=by
 intro σ ρ H₀ aa H Hf x y dx r d Q R m l c k
 unfold yI at c
 split at c
 .cases c
  exact .inl ⟨_,_,m.int,l.int,k _ _ _ R zD zD (sA.mpr rfl)⟩
 .split at c
  .cases c
   exact .inr (.inl ⟨_,_,m.str,l.str,by assumption,k _ _ _ R zD zD (sR.mpr rfl)⟩)
  .cases c
 .split at c
  .cases c
   rename_i xs ys hz
   obtain ⟨a,vs,rfl,q,h⟩:=m.tup R
   obtain ⟨b,i,rfl,n,g⟩:=l.tup R
   refine .inr (.inr (.inl ⟨a,b,vs,i,rfl,rfl,q,n,by rw [h.length,g.length]; exact hz,λe=>?_,λ_ e=>?_,λ_ _ p f=>?_⟩))
   .cases h.nil_of.mp e
    exact k _ _ _ R zD zD (by rw [bu]; exact l.tupF)
   .cases g.nil_of.mp e
    exact k _ _ _ R zD zD (by rw [cO]; exact m.tupF)
   .have j:=zA (o:=.tup (vs++i)) (R.sf.free f)
    exact k _ _ _ (R.lay f) (zA f) j (sQ.mpr ⟨p,_,rfl,bJ.of zq,(h.append g).mono j⟩)
  .cases c
 .split at c
  .cases c
   rename_i xs ys hz
   obtain ⟨a,vs,rfl,q,h⟩:=m.lst R
   obtain ⟨b,i,rfl,n,g⟩:=l.lst R
   refine .inr (.inr (.inr ⟨a,b,vs,i,rfl,rfl,q,n,by rw [h.length,g.length]; exact hz,λp f=>?_⟩))
   have j:=zA (o:=.lst (vs++i)) (R.sf.free f)
   exact k _ _ _ (R.lay f) (zA f) j (sO.mpr ⟨p,_,rfl,aZ.of zq,(h.append g).mono j⟩)
  .cases c
 .cases c
variable {a b c e:Expr} {f g h:FE} {pos p2:Pos}
def zS (i:DR X a f) (d:DR X b g):DE X (.BinOp a .Add b pos) (zd yI f g):=F6 Bo Ko i d
abbrev FP:=aI->Option (Option Int)
def pL:FP:=λ_=>some none
def ir (f:FE):FP:=λρ=>(f ρ).bind fun | .int i=>some (some i) | _=>none
inductive tP (K:sx) (f:FP) (σ:St) (H:Hp) (Q:Option Int->Hp->Prop):Prop
 |mk (H₀ aa ρ Hf o) (a0:Rep K H₀ aa σ ρ H Hf) (a1:f ρ=some o) (a2:∀ H' ao,Rep K H₀ aa σ ρ H' ao->zV H H'->zV Hf ao->Q o H')
def DP (X:Cx) (e:Option Expr) (f:FP):Prop:=PO X e (tP X.K f)
def GG {e:Option Expr} (h:PO X e t) (i:∀ σ H Q,t' σ H Q->t σ H Q):PO X e t':=λpins s σ H Q I d=>h pins s σ H Q I (i _ _ _ d)
def B9:DP X none pL:=GG HX λσ H Q ⟨H₀,aa,ρ,Hf,d,R,q,k⟩=>by cases q; exact k _ _ R zD zD
def Yx (h:DR X e f):DP X (some e) (ir f):=GG (HW h) λσ H Q ⟨H₀,aa,ρ,Hf,d,R,q,k⟩=>by
 obtain ⟨x,e1,e2⟩:=zM q
 cases x <;> try cases e2
 exact ⟨H₀,aa,ρ,Hf,_,R,e1,λv H1 j i s1 t1 h1=>⟨_,h1.int,k _ _ i s1 t1⟩⟩
def YJ {α:Type} (xs:List α) (lo hi:Option Int):List α:=(xs.drop (HT.sIx xs.length 0 lo)).take (HT.sIx xs.length xs.length hi - HT.sIx xs.length 0 lo)
def zB.cut {K:sx} (h:zB K H ds xs) (lo hi):zB K H (YJ ds lo hi) (Q9 xs lo hi):=by
 unfold YJ Q9
 rw [h.length]
 exact (h.drop _).take _
def MX (K:sx):V->Option Int->Option Int->Hp->VK->Prop:=λx lo hi H Q=>∃ a xs,x=.ref a/\bJ K H a xs ∧
 ((HT.sIx xs.length 0 lo=0/\HT.sIx xs.length xs.length hi=xs.length)->Q (.ref a) H)/\(¬ (HT.sIx xs.length 0 lo=0/\HT.sIx xs.length xs.length hi=xs.length)->∀ p,H p=none->Q (.ref p) (upd H p (.tup (Q9 xs lo hi))))
def Hv:mB X (MX X.K):=by
 intro pins s σ H x v o n lo hi sl Q I i m pl j h
 obtain ⟨a,xs,rfl,l,q,p⟩:=h
 by_cases hw:HT.sIx xs.length 0 lo=0/\HT.sIx xs.length xs.length hi=xs.length
 .cases i
  obtain ⟨ah,r,ht,hz⟩:=I.tuple l
  have d:ah.toArray.size=xs.length:=by rw [cx]; exact r.length.symm
  refine ⟨"tuple",_,tH.lookup,ht.typeIs,?_⟩
  exact qN ht m pl j (by rw [d]; exact hw) ⟨.ref a,H,I,rfl,q hw⟩
 .exact C4 pins s σ H _ v o n lo hi sl Q I i m pl j ⟨a,xs,rfl,l,hw,p hw⟩
def qV (f:FE) (l u:FP):FE:=λρ=>(f ρ).bind λx=>(l ρ).bind λlo=>(u ρ).bind λhi=>match x with
 | .tup ds=>some (.tup (YJ ds lo hi))
 | .lst ds=>some (.lst (YJ ds lo hi))
 | _=>none
def Q7  {lo hi:Option Int} (h:HT.sIx ds.length 0 lo=0/\HT.sIx ds.length ds.length hi=ds.length):YJ ds lo hi=ds:=by
 unfold YJ
 rw [h.1,h.2]
 simp
def qP {lo hi:Option Expr} (F:DR X e f) (E:DP X lo l) (C:DP X hi u):DE X (.Subscript e (.Slice lo hi none p2) pos) (qV f l u) :=
 yi (Kh (Hv.or Hw) F E C) λσ H Q ⟨H₀,aa,ρ,Hf,d,R,q,k⟩=>by
  obtain ⟨x,e1,e2⟩:=zM q
  cases z:l ρ with
  | none=>rw [z] at e2; cases e2
  | some lo =>
   rw [z] at e2
   cases y:u ρ with
   | none=>rw [y] at e2; cases e2
   | some hi =>
    rw [y] at e2
    simp only [ak] at e2
    refine ⟨H₀,aa,ρ,Hf,x,R,e1,λv H1 G I s1 t1 h1=>⟨H₀,aa,ρ,G,lo,I,z,λH2 aP R2 s2 t2=>⟨H₀,aa,ρ,aP,hi,R2,y,λL J j B A=>?_⟩⟩⟩
    have w:=(h1.mono t2).mono A
    have r:=(s1.trans s2).trans B
    have tt:=(t1.trans t2).trans A
    split at e2
    .cases e2
     obtain ⟨a,xs,rfl,s,n⟩:=w.tup j
     refine .inl ⟨a,xs,rfl,s,λt=>?_,λt p i=>?_⟩
     .rw [n.length] at t
      exact k _ _ _ j r tt (by rw [Q7 t]; exact w.tupF)
     .have m:=zA (o:=.tup (Q9 xs lo hi)) (j.sf.free i)
      exact k _ _ _ (j.lay i) (r.trans (zA i)) (tt.trans m) (sQ.mpr ⟨p,_,rfl,bJ.of zq,(n.cut lo hi).mono m⟩)
    .cases e2
     obtain ⟨a,xs,rfl,s,n⟩:=w.lst j
     refine .inr ⟨a,xs,rfl,s,λp i=>?_⟩
     have m:=zA (o:=.lst (Q9 xs lo hi)) (j.sf.free i)
     exact k _ _ _ (j.lay i) (r.trans (zA i)) (tt.trans m) (sO.mpr ⟨p,_,rfl,aZ.of zq,(n.cut lo hi).mono m⟩)
    .cases e2
section
variable {X:Cx} {a b c e st:Expr} {f g h fs:FE} {pos p2:Pos}
def uo   {k:D->D->Option α} {r:α} (h:((f ρ).bind λx=>(g ρ).bind λy=>k x y)=some r):∃ x y,f ρ=some x/\g ρ=some y/\k x y=some r:=by
 obtain ⟨x,e1,e2⟩:=zM h
 obtain ⟨y,i,d⟩:=zM e2
 exact ⟨x,y,e1,i,d⟩
def uO:List D->Option D
 | [.lst ds]=>some (.tup ds)
 | [.tup ds]=>some (.tup ds)
 | _=>none
def kH:iw X (λxs H Q=>∃ p ys,xs=[.ref p]/\((aZ X.K H p ys/\∀ l,H l=none->Q (.ref l) (upd H l (.tup ys)))\/(bJ X.K H p ys/\Q (.ref p) H))) uO:=by
 intro σ ρ H₀ aa H Hf xs ds d Q R r i k
 unfold uO at i
 split at i
 .cases i
  obtain ⟨v,rfl,j⟩:=r.one
  obtain ⟨a,ys,rfl,q,l⟩:=j.lst R
  refine ⟨a,ys,rfl,.inl ⟨q,λp m=>?_⟩⟩
  have n:=zA (o:=.tup ys) (R.sf.free m)
  exact k _ _ _ (R.lay m) (zA m) n (sQ.mpr ⟨p,_,rfl,bJ.of zq,l.mono n⟩)
 .cases i
  obtain ⟨v,rfl,j⟩:=r.one
  obtain ⟨a,ys,rfl,q,l⟩:=j.tup R
  exact ⟨a,ys,rfl,.inr ⟨q,k _ _ _ R zD zD j.tupF⟩⟩
 .cases i
def D3 (fa:FA):FA:=λρ=>(fa ρ).bind λl=>match l with
 | [.lst ds]=>some ds
 | [.tup ds]=>some ds
 | _=>none
def Yy (r:Gl X "list") (o:X.mg "list"=none) (t:fN X (e :: es) fa)
  (s:sC (e :: es) X.env=(false,eval e X.env) :: sC es X.env:=by rfl) (n:(tV pos (sC es X.env)).any (·.1)=false:=by rfl):DN X (.Call (.Name "list" p) (e :: es) [] pos) (D3 fa) :=
 yi (xQ (T:="list") XI r o (by rfl) t (by decide) (by decide) s n) λσ H Q ⟨H₀,aa,ρ,Hf,d,R,q,k⟩=>by
  obtain ⟨l,e1,e2⟩:=z8 q
  refine ⟨H₀,aa,ρ,Hf,l,R,e1,λvs H1 u j s1 t1 h1=>?_⟩
  split at e2
  .cases e2
   obtain ⟨v,rfl,m⟩:=uw.one h1
   obtain ⟨a,ys,rfl,q,l⟩:=m.lst j
   exact ⟨a,ys,rfl,.inl q,λp i=>k _ _ _ _ (j.layN i) (s1.trans (zA i)) t1 l zq (j.sf.free i) (s1.free i)⟩
  .cases e2
   obtain ⟨v,rfl,m⟩:=uw.one h1
   obtain ⟨a,ys,rfl,q,l⟩:=m.tup j
   exact ⟨a,ys,rfl,.inr q,λp i=>k _ _ _ _ (j.layN i) (s1.trans (zA i)) t1 l zq (j.sf.free i) (s1.free i)⟩
  .cases e2
end
end
def J6   {K:sx} (h:af K H d y) (h':af K H d' f) (r:yJ y u) (c:yJ f u):y=f:=by
 cases d with
 | non =>
  cases tL.mp h
  cases r
  cases d' with
  | non=>cases tL.mp h'; rfl
  | bl _=>cases sP.mp h'; cases c
  | int _=>cases sA.mp h'; obtain ⟨t,e⟩:=c; cases e
  | str _=>cases sR.mp h'; obtain ⟨t,e⟩:=c; cases e
  | tup _=>obtain ⟨_,_,rfl,_⟩:=sQ.mp h'; cases c
  | lst _=>obtain ⟨_,_,rfl,_⟩:=sO.mp h'; cases c
 | bl b =>
  cases sP.mp h
  cases r
  cases d' with
  | non=>cases tL.mp h'; cases c
  | bl _=>cases sP.mp h'; cases c; rfl
  | int _=>cases sA.mp h'; obtain ⟨t,e⟩:=c; cases e
  | str _=>cases sR.mp h'; obtain ⟨t,e⟩:=c; cases e
  | tup _=>obtain ⟨_,_,rfl,_⟩:=sQ.mp h'; cases c
  | lst _=>obtain ⟨_,_,rfl,_⟩:=sO.mp h'; cases c
 | int b =>
  cases sA.mp h
  obtain ⟨g,rfl⟩:=r
  cases d' with
  | non=>cases tL.mp h'; cases c
  | bl _=>cases sP.mp h'; cases c
  | int _=>cases sA.mp h'; obtain ⟨t,e⟩:=c; cases e; rfl
  | str _=>cases sR.mp h'; obtain ⟨t,e⟩:=c; cases e
  | tup _=>obtain ⟨_,_,rfl,_⟩:=sQ.mp h'; cases c
  | lst _=>obtain ⟨_,_,rfl,_⟩:=sO.mp h'; cases c
 | str b =>
  cases sR.mp h
  obtain ⟨g,rfl⟩:=r
  cases d' with
  | non=>cases tL.mp h'; cases c
  | bl _=>cases sP.mp h'; cases c
  | int _=>cases sA.mp h'; obtain ⟨t,e⟩:=c; cases e
  | str _=>cases sR.mp h'; obtain ⟨t,e⟩:=c; cases e; rfl
  | tup _=>obtain ⟨_,_,rfl,_⟩:=sQ.mp h'; cases c
  | lst _=>obtain ⟨_,_,rfl,_⟩:=sO.mp h'; cases c
 | tup ds =>
  obtain ⟨a,_,rfl,_⟩:=sQ.mp h
  cases r
  cases d' with
  | non=>cases tL.mp h'; cases c
  | bl _=>cases sP.mp h'; cases c
  | int _=>cases sA.mp h'; obtain ⟨t,e⟩:=c; cases e
  | str _=>cases sR.mp h'; obtain ⟨t,e⟩:=c; cases e
  | tup _=>obtain ⟨_,_,rfl,_⟩:=sQ.mp h'; cases c; rfl
  | lst _=>obtain ⟨_,_,rfl,_⟩:=sO.mp h'; cases c; rfl
 | lst ds =>
  obtain ⟨a,_,rfl,_⟩:=sO.mp h
  cases r
  cases d' with
  | non=>cases tL.mp h'; cases c
  | bl _=>cases sP.mp h'; cases c
  | int _=>cases sA.mp h'; obtain ⟨t,e⟩:=c; cases e
  | str _=>cases sR.mp h'; obtain ⟨t,e⟩:=c; cases e
  | tup _=>obtain ⟨_,_,rfl,_⟩:=sQ.mp h'; cases c; rfl
  | lst _=>obtain ⟨_,_,rfl,_⟩:=sO.mp h'; cases c; rfl
open Classical in
noncomputable def XZ (K:sx) (H:Hp) (dx:D) (u:Value):Bool:=decide (∃ d y,yJ y u/\af K H d y/\bT d dx=true)
section
variable {X:Cx} {pins:List (Addr×Obj)} {σ:St} {H:Hp} {s:Shared}
open Classical in
def Jv (I:Inv X pins σ H s) (r:yJ y u) (h:af X.K H d y):XZ X.K H dx u=bT d dx:=by
 unfold XZ
 cases a:bT d dx with
 | true=>exact decide_eq_true ⟨d,y,r,h,a⟩
 | false =>
  refine decide_eq_false ?_
  rintro ⟨d',e,c,h',b⟩
  cases J6 h' h c r
  cases af.inj I h' h
  rw [a] at b; cases b
theorem qw (I:Inv X pins σ H s):∀ {ds:List D} {xs:List V} {us:List Value},zB X.K H ds xs->yx xs us->us.any (XZ X.K H dx)=ds.any λd=>bT d dx
 | [],_,_,h,r=>by rw [zB.nil_iff] at h; subst h; cases r; rfl
 | d :: ds,_,_,h,r=>by
  obtain ⟨x,b,rfl,h1,h2⟩:=sD.mp h
  cases r with
  | cons r a=>rw [List.any_cons,List.any_cons,Jv I r h1,qw I h2 a]
theorem qe (I:Inv X pins σ H s) (e:af X.K H dx x) (c:yJ x v):∀ {ds:List D} {xs:List V} {us:List Value},zB X.K H ds xs->yx xs us->A.units+qD ds < A0->∀ u∈us,SeqAt.EqAt A s u v (XZ X.K H dx u)
 | [],_,_,h,r,_=>by rw [zB.nil_iff] at h; subst h; cases r; intro u b; cases b
 | d :: ds,_,_,h,r,b=>by
  obtain ⟨y,i,rfl,h1,h2⟩:=sD.mp h
  unfold qD at b
  cases r with
  | cons r g =>
   intro f a
   rcases aQ.mp a with rfl | hm
   .rw [Jv I r h1]
    exact WE I d A dx y x _ v h1 e r c (by have:=Nat.le_max_left (dep d) (qD ds); omega)
   .exact qe I e c h2 g (by have:=Nat.le_max_right (dep d) (qD ds); omega) f hm
end
section
variable {X:Cx} {e a b c:Expr} {f g h:FE} {pos p2:Pos} {kk:Nat}
def inS (x z:Str):Bool := !(Er z x 0 z.length 1).isEmpty
def M0 (K:sx) (neg:Bool):R2:=λx y H Q=>(∃ p ds xs dx,y=.ref p/\(aZ K H p xs\/bJ K H p xs)/\zB K H ds xs/\af K H dx x/\qD ds<=100/\Q (.bl (xor neg (ds.any λd=>bT d dx))) H) ∨
 (∃ i j,x=.str i/\y=.str j/\Q (.bl (xor neg (inS i j))) H)
def Dv (z:Room kk X.A):cf X (z_ .In) (M0 X.K false):=by
 intro pins s σ H x y v u Q I m n h
 rcases h with ⟨p,ds,xs,dx,rfl,d,l,o,hd,q⟩ | h
 .cases n
  have t:X.A.in1.units+qD ds < A0:=by show X.A.units+1+qD ds < A0; have:=z.un; omega
  simp only [Bool.false_xor] at q
  rcases d with d | d
  .obtain ⟨ah,r,pl,hz⟩:=I.list d
   refine SeqAt.in_listAt (XZ X.K H dx) pl.isList (λw hw=>qe I o m l r t w (by simpa using hw)) ⟨.bl _,H,I,rfl,?_⟩
   rw [show ah.toArray.any (XZ X.K H dx)=ah.any (XZ X.K H dx) by simp,qw I l r]
   exact q
  .obtain ⟨ah,r,pl,hz⟩:=I.tuple d
   refine SeqAt.in_tupleAt (XZ X.K H dx) pl (λw hw=>qe I o m l r t w (by simpa using hw)) ⟨.bl _,H,I,rfl,?_⟩
   rw [show ah.toArray.any (XZ X.K H dx)=ah.any (XZ X.K H dx) by simp,qw I l r]
   exact q
 .obtain ⟨i,j,e1,e2,q⟩:=h
  exact Qe pins s σ H x y v u Q I m n ⟨i,j,e1,e2,by simpa [inS] using q⟩
def Xb (z:Room kk X.A):cf X (z_ .NotIn) (M0 X.K true):=by
 intro pins s σ H x y v u Q I m n h
 rcases h with ⟨p,ds,xs,dx,rfl,d,l,o,hd,q⟩ | h
 .cases n
  have t:X.A.in1.units+qD ds < A0:=by show X.A.units+1+qD ds < A0; have:=z.un; omega
  simp only [Bool.true_xor] at q
  rcases d with d | d
  .obtain ⟨ah,r,pl,hz⟩:=I.list d
   refine SeqAt.notIn_listAt (XZ X.K H dx) pl.isList (λw hw=>qe I o m l r t w (by simpa using hw)) ⟨.bl _,H,I,rfl,?_⟩
   rw [show ah.toArray.any (XZ X.K H dx)=ah.any (XZ X.K H dx) by simp,qw I l r]
   exact q
  .obtain ⟨ah,r,pl,hz⟩:=I.tuple d
   refine SeqAt.notIn_tupleAt (XZ X.K H dx) pl (λw hw=>qe I o m l r t w (by simpa using hw)) ⟨.bl _,H,I,rfl,?_⟩
   rw [show ah.toArray.any (XZ X.K H dx)=ah.any (XZ X.K H dx) by simp,qw I l r]
   exact q
 .obtain ⟨i,j,e1,e2,q⟩:=h
  exact Xa pins s σ H x y v u Q I m n ⟨i,j,e1,e2,by simpa [inS] using q⟩
def inD (neg:Bool):D->D->Option D
 | x,.lst ds=>if qD ds<=100 then some (.bl (xor neg (ds.any λd=>bT d x))) else none
 | x,.tup ds=>if qD ds<=100 then some (.bl (xor neg (ds.any λd=>bT d x))) else none
 | .str x,.str z=>some (.bl (xor neg (inS x z)))
 | _,_=>none
def Qg  : d_ X (M0 X.K neg) (inD neg):=by
 intro σ ρ H₀ aa H Hf x y dx o d Q R n m i k
 unfold inD at i
 split at i
 .split at i
  .cases i
   rename_i hd
   obtain ⟨a,xs,rfl,j,l⟩:=m.lst R
   exact .inl ⟨a,_,xs,dx,rfl,.inl j,l.mono R.sf,n.full R,hd,k _ _ _ R zD zD (sP.mpr rfl)⟩
  .cases i
 .split at i
  .cases i
   rename_i hd
   obtain ⟨a,xs,rfl,j,l⟩:=m.tup R
   exact .inl ⟨a,_,xs,dx,rfl,.inr j,l.mono R.sf,n.full R,hd,k _ _ _ R zD zD (sP.mpr rfl)⟩
  .cases i
 .cases i
  exact .inr ⟨_,_,n.str,m.str,k _ _ _ R zD zD (sP.mpr rfl)⟩
 .cases i
def Ce (d:Room kk X.A) (l:DR X a f) (j:DR X b g) (i:tO .NotIn b=false:=by rfl):DE X (.Compare a [.NotIn] [b] pos) (zd (inD true) f g):=F8 (Xb d) Qg l j i
def Nv (d:Room kk X.A) (l:DR X a f) (j:DR X b g) (i:tO .In b=false:=by rfl):DT X (.Compare a [.In] [b] pos) (aO (zd (inD false) f g)):=xP (Dv d) Qg l j i
def K5 (d:Room kk X.A) (l:DR X a f) (j:DR X b g) (i:tO .NotIn b=false:=by rfl):DT X (.Compare a [.NotIn] [b] pos) (aO (zd (inD true) f g)):=xP (Xb d) Qg l j i
def Y1  : zV (λ_=>none) H:=λ_ _ e=>by cases e
end
section
variable {prog:sH} {w:sU} {A:Around} {E:Value->Shared->Prop} {s:Shared}
end
section
variable {X:Cx} {e:Expr} {f:FE} {pos:Pos} {tg:Expr}
end
section
variable {X:Cx} {e:Expr} {f:FE} {pos:Pos} {tg:Expr}
def yG (y:DE X e f):DI X tg e (yz f):=by
 intro pins s σ H R I h
 obtain ⟨H₀,aa,ρ,Hf,ds,A,q,k⟩:=h
 obtain ⟨d,x,l⟩:=zM q
 refine thn (y pins s σ H (λv H1=>∃ g,Rep X.K H₀ aa σ ρ H1 g/\zV H H1/\zV Hf g/\af X.K g d v) I ⟨H₀,aa,ρ,Hf,d,A,x,λv H1 g i s1 t1 h1=>⟨g,i,s1,t1,h1⟩⟩) λu s1 ⟨v,H1,c,r,g,i,t,t1,h1⟩=>?_
 cases d with
 | lst z =>
  cases l
  obtain ⟨a,xs,rfl,j,m⟩:=sO.mp h1
  cases r
  obtain ⟨ah,w,p,hz⟩:=c.list (i.sf.seq j)
  refine Ed p.isList ?_
  refine ⟨s1.heap.objs.size,[s1.heap.objs.size],_,_,H1,rfl,c.kept (t':=s1.toks) λb o e=>mo _ e,YQ a _,⟨_,sF _ rfl,rfl,rfl⟩,λb n=>?_,k _ _ _ i t t1 (qE j m)⟩
  have e:b=s1.heap.objs.size:=by simpa using n
  subst e
  exact c.fpOk (aU _) (c.hok.fresh (aU _))
 | tup z =>
  cases l
  obtain ⟨a,xs,rfl,j,m⟩:=sQ.mp h1
  cases r
  obtain ⟨ah,w,p,hz⟩:=c.tuple (Z1 i.sf j)
  refine wpAny_pyIter_tuple (show s1.heap.IsTuple a ah.toArray from p) ?_
  refine ⟨s1.heap.objs.size,[s1.heap.objs.size],_,_,H1,rfl,c.kept (t':=s1.toks) λb o e=>mo _ e,VO a _,⟨_,sF _ rfl,rfl,rfl⟩,λb n=>?_,k _ _ _ i t t1 (YM j m)⟩
  have e:b=s1.heap.objs.size:=by simpa using n
  subst e
  exact c.fpOk (aU _) (c.hok.fresh (aU _))
 | _=>cases l
end
def jg (k:NameKind):Option NameKind->Bool
 | some a=>a==k
 | none=>false
def G9 (gW scope:Scope) (frees:List Str):Bool :=
 scope.kind==.function&&scope.names.all (λy => !(y.2==.cell))&&scope.names.all (λy => !(y.2==.local)||jg .local (scope.names.lookup y.1)) &&
 scope.names.all (λy => !(y.2==.free)||(jg .cell (gW.names.lookup y.1)||jg .free (gW.names.lookup y.1))) &&
 frees.all (λx=>(jg .cell (gW.names.lookup x)||jg .free (gW.names.lookup x))&&jg .free (scope.names.lookup x))
def va (h:jg k o=true):o=some k:=by
 unfold jg at h
 split at h
 .rw [eq_of_beq h]
 .cases h
def CompScope.of (h:G9 gW scope frees=true):CompScope gW scope own frees:=by
 unfold G9 at h
 simp only [du,cw] at h
 obtain ⟨⟨⟨⟨h1,h2⟩,e⟩,d⟩,c⟩:=h
 refine ⟨eq_of_beq h1,λy a z=>?_,λy a z=>?_,λy a z=>?_,λx b=>?_⟩
 .have:=h2 y a
  rw [z] at this
  simp at this
 .have:=e y a
  rw [z] at this
  simp at this
  exact va this
 .have:=d y a
  rw [z] at this
  simp at this
  exact this.imp va va
 .have:=c x b
  exact ⟨(by simpa using this.1:_\/_).imp va va,va this.2⟩
section
variable {X:Cx} {scope:Scope} {own frees:List Str} {caps:List Nat}
def Rep.lstFrz {K:sx} (R:Rep K H₀ aa σ ρ H Hf) (R':Rep K H₀ aa σ ρ H' ao) (n:H' a=some (.lst xs)) (m:ao a=none) (hh:H a=none):Rep K H₀ aa σ ρ H' (upd ao a (.lst xs)):=by
 have f:zV ao (upd ao a (.lst xs)):=zA m
 refine ⟨R'.s0,λb u z=>?_,λb u z=>?_,R'.f0.trans f,R'.len,λi d z=>?_,λi sl z o=>?_,R'.inj⟩
 .by_cases c:b=a
  .subst c; rw [zq] at z; cases z; exact n
  .rw [zu c] at z; exact R'.sf b u z
 .by_cases c:b=a
  .subst c; exact .inr (.inl (R.s0.free hh))
  .rw [zu c] at z; exact R'.nf b u z
 .obtain ⟨v,e,p2⟩:=R'.fr i d z
  exact ⟨v,e,p2.mono f⟩
 .obtain ⟨b,e,p2,r,p⟩:=R.ow i sl z o
  obtain ⟨s,g,j,r3,h⟩:=R'.ow i sl z o
  rw [e] at g; cases g
  refine ⟨b,e,j.mono (λu q=>q) f,?_,h⟩
  rw [zu]
  .exact r3
  .rintro rfl
   obtain ⟨o',l⟩:=p2.there o
   rw [l] at hh; cases hh
def ui (i) (v:X.N.Nodup) (t:X.calm=true) (S:CompScope X.env.scope scope own frees) (w:caps.map (λj=>X.N[j]?)=frees.map some) (n:uL γ) (hi:DI X tg iter fi)
  (body:∀ cl C s H fp,DG (dZ X scope cl C (own++frees) s H fp) tg γ/\DQ (dZ X scope cl C (own++frees) s H fp) ifs ft/\DE (dZ X scope cl C (own++frees) s H fp) elt f)
  (c:As (.ListComp elt [⟨tg,iter,ifs,0⟩] scope pos) (some (.Name y py)) b.line X.env=pure true:=by rfl) (e:X.N[i]? = some y:=by rfl) (p:X.env.scope.names.lookup y=some .local:=by rfl)
  (r:∀ x,Ax iter X.env x=pure x:=by intro _; rfl):DS X (.Assign [.Name y py] (.ListComp elt [⟨tg,iter,ifs,0⟩] scope pos) b) (vk i (zg (vD own.length caps fi γ ft f))) :=
 y8 (VL t S w n hi body c i v e p r) λD' σ H ⟨H₀,aa,ρ,Hf,o,R,q,k⟩=>by
  obtain ⟨d,e1,e2⟩:=zM q
  cases e2
  unfold zg at e1
  cases g:vD own.length caps fi γ ft f ρ with
  | none=>rw [g] at e1; cases e1
  | some ds =>
   rw [g] at e1
   cases e1
   refine ⟨H₀,aa,ρ,Hf,ds,R,g,λa xs H1 m z s1 t1 h1 u l hh=>?_⟩
   have h:zV m (upd m a (.lst xs)):=zA l
   exact k _ _ _ ((R.lstFrz z u l hh).set i (sO.mpr ⟨a,xs,rfl,aZ.of zq,h1.mono h⟩)) (t1.trans h)
end
def ug {K:sx} (h2:K.lookup a=some ⟨.type "tuple",od,.seq ah n,eU⟩) (hz:ah.size<=sizeLine) (b:yx xs ah.toList) (c:zB K (λ_=>none) ds xs):af K (λ_=>none) (.tup ds) (.ref a) :=
 sQ.mpr ⟨a,xs,rfl,.inr ⟨_,ah,n,h2,rfl,rfl,hz,b⟩,c⟩
section
variable {ρ:aI} {i j k:Nat} {f g h:FE} {fa ga:FA} {ft gt ht:FT} {F G B:FS} {γ:FG} {δ:mF} {d x y:D} {ds:List D}
@[simp] theorem zT:vF i ρ=(match ρ[i]? with | some (.fr d)=>some d | _=>none):=rfl
@[simp] theorem UL:vR i ρ=(match ρ[i]? with | some (.fr d)=>some d | some (.ol ds)=>some (.lst ds) | _=>none):=rfl
@[simp] theorem yC:cF d ρ=some d:=rfl
@[simp] theorem Z5  : WO φ f ρ=(f ρ).bind φ:=rfl
@[simp] theorem zk  : zd φ f g ρ=(f ρ).bind λx=>(g ρ).bind λy=>φ x y:=rfl
@[simp] theorem zm:zp ρ=some []:=rfl
@[simp] theorem zh:zb f ga ρ=(f ρ).bind λx=>(ga ρ).bind λxs=>some (x :: xs):=rfl
@[simp] theorem wt:tupF ga ρ=(ga ρ).bind λxs=>if xs.length<=sizeLine then some (.tup xs) else none:=rfl
@[simp] theorem y6:zY ga ρ=(ga ρ).bind λxs=>if xs.length<=sizeLine then some xs else none:=rfl
@[simp] theorem zr:zg fa ρ=(fa ρ).map D.lst:=rfl
@[simp] theorem yB:aO f ρ=(f ρ).bind fun | .bl b=>some b | _=>none:=rfl
@[simp] theorem Zn:Us ft gt ρ=(ft ρ).bind λb=>if b=true then gt ρ else some false:=rfl
@[simp] theorem JV:orT ft gt ρ=(ft ρ).bind λb=>if b=true then some true else gt ρ:=rfl
@[simp] theorem qX:DO ft ρ=(ft ρ).bind λb=>some (!b):=rfl
@[simp] theorem Pw:eG ρ=some true:=rfl
@[simp] theorem Gx:Pc f g ρ=(f ρ).bind fun | .bl b=>(if b=true then g ρ else some (.bl false)) | _=>none:=rfl
@[simp] theorem NT:N6 f ρ=(f ρ).bind fun | .bl b=>some (.bl (!b)) | _=>none:=rfl
@[simp] theorem zG  : ya φ fa ρ=(fa ρ).bind φ:=rfl
@[simp] theorem zt:xB F G ρ=(F ρ).bind λo=>match o with | .nx ρ'=>G ρ' | o=>some o:=rfl
@[simp] theorem xD:cK ρ=some (.nx ρ):=rfl
@[simp] theorem ye:qH f ρ=(f ρ).bind λd=>some (.rt d):=rfl
@[simp] theorem yD:cn ft F G ρ=(ft ρ).bind λb=>if b=true then F ρ else G ρ:=rfl
@[simp] theorem zQ:vk i f ρ=(f ρ).bind λd=>some (.nx (ρ.set i (.fr d))):=rfl
@[simp] theorem w5:Ur i fa ρ=(fa ρ).bind λds=>some (.nx (ρ.set i (.ol ds))):=rfl
@[simp] theorem W7:Mv γ f ρ=(f ρ).bind λd=>(γ d ρ).bind λρ'=>some (.nx ρ'):=rfl
@[simp] theorem UP:BX i F ρ=(frz i ρ).bind F:=rfl
@[simp] theorem HG:frz i ρ=(match ρ[i]? with | some (.ol ds)=>some (ρ.set i (.fr (.lst ds))) | some (.fr _)=>some ρ | _=>none):=rfl
@[simp] theorem xf:zO i d ρ=some (ρ.set i (.fr d)):=rfl
@[simp] theorem uV:kh [] ρ=some ρ:=rfl
@[simp] theorem vn  : yh γ δ (d :: r) ρ=(γ d ρ).bind λρ'=>δ r ρ':=rfl
@[simp] theorem uU:jj k δ (.tup ds) ρ=if ds.length=k then δ ds ρ else none:=rfl
@[simp] theorem wy:xy i f ρ=(f ρ).bind λd=>match ρ[i]? with | some (.ol ds)=>if ds.length < sizeLine then some (.nx (ρ.set i (.ol (ds++[d])))) else none | _=>none:=rfl
@[simp] theorem wK:JB fa γ B ρ=(fa ρ).bind λds=>ym γ B ds ρ:=rfl
@[simp] theorem JX:GV f ρ=(yz f ρ).bind λds=>some (Yr ds):=rfl
@[simp] theorem JW:GU f g ρ=(yz f ρ).bind λxs=>(yz g ρ).bind λys=>some (Jz xs ys):=rfl
@[simp] theorem zE:yz f ρ=(f ρ).bind UJ:=rfl
@[simp] theorem yA:UJ (.lst ds)=some ds:=rfl
@[simp] theorem NR:UJ (.tup ds)=some ds:=rfl
@[simp] theorem MQ:pL ρ=some none:=rfl
@[simp] theorem JY:ir f ρ=(f ρ).bind fun | .int i=>some (some i) | _=>none:=rfl
@[simp] theorem jw  : qV f l u ρ=(f ρ).bind λx=>(l ρ).bind λlo=>(u ρ).bind λhi=>match x with | .tup ds=>some (.tup (YJ ds lo hi)) | .lst ds=>some (.lst (YJ ds lo hi)) | _=>none:=rfl
@[simp] theorem X4:D3 fa ρ=(fa ρ).bind λl=>match l with | [.lst ds]=>some ds | [.tup ds]=>some ds | _=>none:=rfl
@[simp] theorem yv    : vD n caps fi γ ft f ρ=(fi ρ).bind λds=>if ds.length<=sizeLine then yT γ ft f ds (qq n caps ρ) else none:=rfl
@[simp] theorem yK   : qq n caps ρ=aL n .no++caps.map (Mc ρ):=rfl
@[simp] theorem wZ:Mc ρ j=(match ρ[j]? with | some (.fr d)=>.fr d | _=>.no):=rfl
@[simp] theorem Y2:MV fa ρ=(fa ρ).bind q9:=rfl
@[simp] theorem UN:Dc fa ρ=(fa ρ).bind j6:=rfl
def j7 {j:Int} (h1 : -1000000<=j) (h2:j<=1000000):q9 [.int j]=some (yt 0 j):=by
 show @ite _ (-(2 ^ 62)<=j/\j < 2 ^ 62) (AL _) (some (yt 0 j)) none=_
 rw [if_pos (by omega)]
def j5 {i j:Int} (h1 : -1000000<=i) (h2:i<=1000000) (b : -1000000<=j) (a:j<=1000000):j6 [.int i,.int j]=some (yt i j):=by
 show @ite _ (-(2 ^ 62)<=i/\i < 2 ^ 62 /\ -(2 ^ 62)<=j/\j < 2 ^ 62) (AL _) (some (yt i j)) none=_
 rw [if_pos (by omega)]
@[simp] theorem yu:vE k F ds=Zr (F (wX k ds)):=rfl
@[simp] theorem y4:Zr (some (.rt d))=some d:=rfl
@[simp] theorem NS:Zr (some (.nx ρ))=some .non:=rfl
@[simp] theorem zP:wX k ds=ds.map Slot.fr++aL (k - ds.length) Slot.no:=rfl
variable {a b:Int}
@[simp] theorem VW:wg (.int a) (.int b)=some (.int (a - b)):=rfl
@[simp] theorem uu:yI (.int a) (.int b)=some (.int (a+b)):=rfl
@[simp] theorem NV:pT (.int a) (.int b)=some (.bl (decide (a < b))):=rfl
@[simp] theorem HF:dW (.int a) (.int b)=some (.bl (decide (b < a))):=rfl
@[simp] theorem P7:rL (.int a) (.int b)=some (.bl (decide (b<=a))):=rfl
@[simp] theorem MR:Mo (.int a)=some (.int (-a)):=rfl
@[simp] theorem jo:bt (.int a) (.int b)=some (.bl (decide (a=b))):=B3
@[simp] theorem C5:fk (.int a) (.int b)=some (.bl (!decide (a=b))):=Bw
@[simp] theorem Px:l9 c .non .non=some (.bl (!c)):=rfl
@[simp] theorem MS:D0 [.int a,.int b]=some (.int (if b < a then b else a)):=rfl
@[simp] theorem HC:JA [.int a,.int b]=some (.int (if b > a then b else a)):=rfl
@[simp] theorem vL:jA [.lst ds]=some (.int ds.length):=rfl
@[simp] theorem NW:jA [.tup ds]=some (.int ds.length):=rfl
@[simp] theorem MO:uO [.lst ds]=some (.tup ds):=rfl
@[simp] theorem Pv:uO [.tup ds]=some (.tup ds):=rfl
@[simp] theorem Gw  : Pa T d=some (.bl (ZM (gP d) T)):=rfl
end
section
variable {X:Cx}
theorem zB.rep {K:sx} (h:zB K H ds xs):∀ k,zB K H (aL k ds).flatten (aL k xs).flatten
 | 0=>.nil
 | k+1=>by
  rw [mr,mr,nu,nu]
  exact h.append (zB.rep h k)
end
theorem XO:∀ {bs:List Bool} {us:List Value},yx (bs.map V.bl) us->LSm.BoolsAre us bs
 | [],_,r=>by cases r; exact .nil
 | b :: bs,_,r=>by
  rw [aH] at r
  cases r with
  | cons c a=>cases c; exact .cons b (XO a)
theorem Yl:∀ {ns:List Int} {us:List Value},yx (ns.map V.int) us->IntsAre us ns
 | [],_,r=>by cases r; exact .nil
 | n :: ns,_,r=>by
  rw [aH] at r
  cases r with
  | cons b a=>obtain ⟨t,rfl⟩:=b; exact .cons n t (Yl a)
variable {X:Cx}
def Gk (m:X.calm=true):xm X (.builtin "all") (λxs H Q=>∃ (p:Addr) (bs:List Bool),xs=[.ref p]/\aZ X.K H p (bs.map V.bl)/\Q (.bl (bs.all id)) H):=by
 intro pins s σ H xs us Q I r h
 obtain ⟨p,bs,rfl,j,q⟩:=h
 obtain ⟨u,rfl,f⟩:=ur r
 cases f
 obtain ⟨ah,g,pl,hz⟩:=I.list j
 have c:=XO g
 have a:=pl.isList
 have o:p < s.heap.objs.size:=by obtain ⟨_,e,_⟩:=a; exact sE e
 refine call_all_walk (Ed a ?_)
 refine ⟨s.heap.objs.size,[s.heap.objs.size,p],[s.heap.objs.size],ah.toArray.size,_,_,λi=>(bs[i]?).getD true,rfl,PySem.Walks.list (A:=X.A.in1) (I.ok.hd m) _ p (cb o) ah.toArray,
  ⟨⟨_,sF _ rfl,rfl,rfl⟩,a.push _⟩,λi v s' t w n d=>?_,λh' tk l=>?_⟩
 .obtain ⟨b,e,rfl⟩:=c.get i v (by simpa using n)
  simp only [e,Option.getD_some] at d
  exact y_ d
 .have e:((aV ah.toArray.size).all λi=>(bs[i]?).getD true)=bs.all id:=by
   rw [cx,c.length]; exact LSm.range_all bs
  rw [e]
  exact ⟨.bl (bs.all id),H,I.kept (LSm.kept_iter l),rfl,q⟩
def YC (g:X.calm=true):xm X (.builtin "sum") (λxs H Q=>∃ (p:Addr) (ns:List Int),xs=[.ref p]/\aZ X.K H p (ns.map V.int)/\Q (.int ns.sum) H):=by
 intro pins s σ H xs us Q I r h
 obtain ⟨p,ns,rfl,d,q⟩:=h
 obtain ⟨u,rfl,b⟩:=ur r
 cases b
 obtain ⟨ah,c,pl,hz⟩:=I.list d
 have hi:=Yl c
 have e:=pl.isList
 obtain ⟨xs,a⟩:=hi.allInts.items
 have i:s.heap.IsList p (intItems xs):=a ▸ e
 refine sum_intListG (I.ok.hd g) i λh' tk t' f=>?_
 have e1:ns=xs.toList.map (·.1):=by
  rw [<- nums_intItems,<- a]
  exact (show numsOf ah.toArray.toList=ns from hi.numsOf).symm
 have e2:preSum (numAt xs) xs.size=ns.sum:=by
  rw [preSum_eq,g2v (by simp),e1]
 rw [e2]
 exact ⟨.int ns.sum,H,I.kept f,⟨t',rfl⟩,q⟩
def wG:List D->Option (List Bool)
 | []=>some []
 | .bl b :: ds=>(wG ds).map (b :: ·)
 | _ :: _=>none
def x9:List D->Option (List Int)
 | []=>some []
 | .int b :: ds=>(x9 ds).map (b :: ·)
 | _ :: _=>none
theorem zB.bools {K:sx}:∀ {ds:List D} {xs:List V} {bs:List Bool},zB K H ds xs->wG ds=some bs->xs=bs.map V.bl
 | [],[],bs,h,e=>by cases e; rfl
 | [],_ :: _,bs,h,e=>by have:=h.length; cases this
 | _ :: _,[],bs,h,e=>by have:=h.length; cases this
 | .bl b :: ds,x :: xs,bs,h,e=>by
  unfold wG at e
  cases a:wG ds with
  | none=>rw [a] at e; cases e
  | some cs =>
   rw [a] at e
   cases e
   obtain ⟨_,_,c,h1,h2⟩:=sD.mp h
   cases c
   rw [sP.mp h1,zB.bools h2 a]
   rfl
 | .non :: _,_ :: _,_,_,e=>by cases e
 | .int _ :: _,_ :: _,_,_,e=>by cases e
 | .str _ :: _,_ :: _,_,_,e=>by cases e
 | .tup _ :: _,_ :: _,_,_,e=>by cases e
 | .lst _ :: _,_ :: _,_,_,e=>by cases e
theorem zB.intsV {K:sx}:∀ {ds:List D} {xs:List V} {bs:List Int},zB K H ds xs->x9 ds=some bs->xs=bs.map V.int
 | [],[],bs,h,e=>by cases e; rfl
 | [],_ :: _,bs,h,e=>by have:=h.length; cases this
 | _ :: _,[],bs,h,e=>by have:=h.length; cases this
 | .int b :: ds,x :: xs,bs,h,e=>by
  unfold x9 at e
  cases a:x9 ds with
  | none=>rw [a] at e; cases e
  | some cs =>
   rw [a] at e
   cases e
   obtain ⟨_,_,c,h1,h2⟩:=sD.mp h
   cases c
   rw [sA.mp h1,zB.intsV h2 a]
   rfl
 | .non :: _,_ :: _,_,_,e=>by cases e
 | .bl _ :: _,_ :: _,_,_,e=>by cases e
 | .str _ :: _,_ :: _,_,_,e=>by cases e
 | .tup _ :: _,_ :: _,_,_,e=>by cases e
 | .lst _ :: _,_ :: _,_,_,e=>by cases e
def NK:List D->Option D
 | [.lst ds]=>(wG ds).map λbs=>.bl (bs.all id)
 | _=>none
def Cw:List D->Option D
 | [.lst ds]=>(x9 ds).map λbs=>.int bs.sum
 | _=>none
def BZ:iw X (λxs H Q=>∃ (p:Addr) (bs:List Bool),xs=[.ref p]/\aZ X.K H p (bs.map V.bl)/\Q (.bl (bs.all id)) H) NK:=by
 intro σ ρ H₀ aa H Hf xs ds d Q R c b k
 unfold NK at b
 split at b
 .obtain ⟨bs,e1,rfl⟩:=fb.mp b
  obtain ⟨v,rfl,e⟩:=c.one
  obtain ⟨a,ys,rfl,q,l⟩:=e.lst R
  have:=l.bools e1
  subst this
  exact ⟨a,bs,rfl,q,k _ _ _ R zD zD (sP.mpr rfl)⟩
 .cases b
def Wz:iw X (λxs H Q=>∃ (p:Addr) (ns:List Int),xs=[.ref p]/\aZ X.K H p (ns.map V.int)/\Q (.int ns.sum) H) Cw:=by
 intro σ ρ H₀ aa H Hf xs ds d Q R c b k
 unfold Cw at b
 split at b
 .obtain ⟨bs,e1,rfl⟩:=fb.mp b
  obtain ⟨v,rfl,e⟩:=c.one
  obtain ⟨a,ys,rfl,q,l⟩:=e.lst R
  have:=l.intsV e1
  subst this
  exact ⟨a,bs,rfl,q,k _ _ _ R zD zD (sA.mpr rfl)⟩
 .cases b
theorem kR:∀ bs,wG (bs.map D.bl)=some bs
 | []=>rfl
 | b :: bs=>by rw [aH,wG,kR bs]; rfl
theorem vc:∀ bs,x9 (bs.map D.int)=some bs
 | []=>rfl
 | b :: bs=>by rw [aH,x9,vc bs]; rfl
@[simp] theorem Py (bs:List Bool):NK [.lst (bs.map D.bl)]=some (.bl (bs.all id)):=by show (wG (bs.map D.bl)).map _=_; rw [kR]; rfl
@[simp] theorem HA (bs:List Int):Cw [.lst (bs.map D.int)]=some (.int bs.sum):=by show (x9 (bs.map D.int)).map _=_; rw [vc]; rfl
section
variable {prog:sH} {w:sU} {A:Around} {E:Value->Shared->Prop} {s:Shared}
end
variable {X:Cx} {e:Expr} {f:FE} {pos:Pos}
section
variable {X:Cx} {pins:List (Addr×Obj)} {σ:St} {H:Hp} {s:Shared}
end
section
variable {X:Cx} {o e:Expr} {f g:FE} {kk:Nat}
end
section
variable {X:Cx} {tg:Expr}
end
section
variable {X:Cx} {a b c dd:Expr} {f g h i4:FE} {pos p2:Pos}
def XQ {α d:Type} {o:Option α} {k:α->Option d} {r:d} (h:o.bind k=some r):∃ x,o=some x/\k x=some r:=by
 cases o with
 | none=>cases h
 | some x=>exact ⟨x,rfl,h⟩
end
section
variable {X:Cx} {e:Expr} {f:FE} {pos:Pos}
def Mt (i:Nat) (a:Int->Int->Int) (f:FE):FS:=λρ=>(f ρ).bind λy=>match ρ[i]?,y with
 | some (.fr (.int m)),.int k=>some (.nx (ρ.set i (.fr (.int (a m k)))))
 | _,_=>none
set_option tactic.hygienic true in
def B8 (i) (h:X.N.Nodup) (c:PIp X op (ipI φ)) (g:DE X e f) (hi:X.N[i]? = some x:=by rfl) (b:Loc X.env.scope x:=by first | exact Aw rfl | exact Ab rfl)
  (d:X.fn x=true\/X.env.scope.names.lookup x=some .local:=by first | exact .inl rfl | exact .inr rfl | assumption):DS X (.AugAssign (.Name x pos') op e pos) (Mt i φ f) :=
 y8 (GE h hi b g c d) λD' σ H ⟨H₀,aa,ρ,Hf,o,R,q,k⟩=>by
  obtain ⟨y,e1,e2⟩:=zM q
  split at e2
  .cases e2
   rename_i m kk j
   obtain ⟨v,a,p2⟩:=R.fr i _ j
   have pv:=sA.mp p2
   subst pv
   refine ⟨.int m,a,H₀,aa,ρ,Hf,.int kk,R,e1,λv H1 n l s1 t1 h1=>?_⟩
   exact ⟨m,kk,rfl,sA.mp h1,k _ _ _ (l.set i (sA.mpr rfl)) t1⟩
  .cases e2
@[simp] theorem NZ {i:Nat} {a:Int->Int->Int} {ρ:aI}:Mt i a f ρ=(f ρ).bind λy=>match ρ[i]?,y with
 | some (.fr (.int m)),.int k=>some (.nx (ρ.set i (.fr (.int (a m k)))))
 | _,_=>none:=rfl
end
section
variable {X:Cx} {e:Expr} {f:FE}
end
section
variable {prog:sH} {w:sU} {A:Around} {E:Value->Shared->Prop} {s:Shared}
end
section
variable {P:sH} {w:sU} {K:sx} {J1 J2:It} {dz dE:List Addr} {i1 i2 z TI TO:Addr} {iC gB:Nat->Heap->Prop}
end
section
variable {prog:sH} {w:sU} {A:Around} {E:Value->Shared->Prop} {s:Shared}
end
section
variable {X:Cx} {e1 e2:Expr} {f1 f2:FE} {pos:Pos} {elts:List Expr} {kx:Nat} {tp:Pos}
end
theorem Wf:∀ {a b:List Int},a.Perm b->a.Pairwise (· <= ·)->b.Pairwise (· <= ·)->a=b
 | [],b,h,_,_=>(List.nil_perm.mp h).symm
 | x :: a,[],h,_,_=>by have:=h.length_eq; simp at this
 | x :: a,y :: b,h,d,c=>by
  rw [lN] at d c
  have e:x=y:=by
   have h1:x∈y :: b:=h.subset ba
   have h2:y∈x :: a:=h.symm.subset ba
   rcases aQ.mp h1 with h1 | h1
   .exact h1
   .rcases aQ.mp h2 with h2 | h2
    .exact h2.symm
    .have:=c.1 x h1
     have:=d.1 y h2
     omega
  subst e
  rw [Wf h.cons_inv d.2 c.2]
def Cz (x:Int):List Int->List Int
 | []=>[x]
 | y :: l=>if x<=y then x :: y :: l else y :: Cz x l
def yd:List Int->List Int
 | []=>[]
 | x :: l=>Cz x (yd l)
theorem ky (x):∀ l,(Cz x l).Perm (x :: l)
 | []=>.refl _
 | y :: l=>by
  unfold Cz
  split
  .exact .refl _
  .exact ((ky x l).cons y).trans (.swap x y l)
theorem z9:∀ l,(yd l).Perm l
 | []=>.refl _
 | x :: l=>(ky x (yd l)).trans ((z9 l).cons x)
theorem ku (x):∀ {l:List Int},l.Pairwise (· <= ·)->(Cz x l).Pairwise (· <= ·)
 | [],_=>List.pairwise_singleton _ _
 | y :: l,h=>by
  have h':=lN.mp h
  unfold Cz
  split
  .rename_i c
   refine lN.mpr ⟨λz hz=>?_,h⟩
   rcases aQ.mp hz with rfl | hz
   .exact c
   .exact Int.le_trans c (h'.1 z hz)
  .rename_i c
   refine lN.mpr ⟨λz hz=>?_,ku x h'.2⟩
   rcases aQ.mp ((ky x l).subset hz) with rfl | hz
   .omega
   .exact h'.1 z hz
theorem wJ:∀ l,(yd l).Pairwise (· <= ·)
 | []=>.nil
 | x :: l=>ku x (wJ l)
def JO (h:a.Perm b) (c:a.Pairwise (· <= ·)):yd b=a:=Wf ((z9 b).trans h.symm) (wJ b) c
section
variable {X:Cx} {e:Expr} {pos:Pos}
def b9 (h:IntsAre us ns):yx (ns.map V.int) us:=by
 induction h with
 | nil=>exact .nil
 | cons _ _ _ a=>exact .cons ⟨_,rfl⟩ a
def WN:xm X (.builtin "sorted") (λxs H Q=>∃ (p:Addr) (ns:List Int),xs=[.ref p]/\aZ X.K H p (ns.map V.int)/\ns.length < 64/\∀ l,H l=none->Q (.ref l) (upd H l (.lst ((yd ns).map V.int)))):=by
 intro pins s σ H xs us Q I r h
 obtain ⟨p,ns,rfl,j,n,q⟩:=h
 obtain ⟨u,rfl,i⟩:=ur r
 cases i
 obtain ⟨ah,d,pl,hz⟩:=I.list j
 have hi:=Yl d
 have c:=d.length
 rw [aC] at c hz
 refine sorted_ints (vs:=ah) pl.isList hi (by omega) λout a a1 a2 a3=>?_
 obtain ⟨e,he⟩:=sortedAll_at s.heap ah out
 have es:yd ns=a:=JO a2 a3
 have m:H (s.heap.objs.size+1)=none:=I.hok.fresh (il _)
 have g:=q _ m
 rw [es] at g
 exact ⟨.ref (s.heap.objs.size+1),_,I.laid (t':=s.toks) (λb o x=>sortedAll_old x) (il _) (show y7 X.prog X.w _ (sortedAll s.heap ah out) _ (.lst (a.map V.int)) from ⟨by rw [aC,a2.length_eq]; exact hz,out.toList,e,b9 a1,by simpa using he⟩),rfl,g⟩
def VR (fa:FA):FA:=λρ=>(fa ρ).bind λl=>match l with
 | [.lst ds]=>(x9 ds).bind λns=>if ns.length < 64 then some ((yd ns).map D.int) else none
 | _=>none
@[simp] theorem HB {fa:FA} {ρ:aI}:VR fa ρ=(fa ρ).bind λl=>match l with
 | [.lst ds]=>(x9 ds).bind λns=>if ns.length < 64 then some ((yd ns).map D.int) else none
 | _=>none:=rfl
theorem hasL_ints {K:sx}:∀ ns:List Int,zB K H (ns.map D.int) (ns.map V.int)
 | []=>.nil
 | n :: ns=>.cons (sA.mpr rfl) (hasL_ints ns)
def kQ:u_ "sorted"=some (.builtin "sorted"):=by kernel_rfl
def vW (n:Gl X "sorted") (m:X.mg "sorted"=none) (r:fN X (e :: es) fa)
  (o:sC (e :: es) X.env=(false,eval e X.env) :: sC es X.env:=by rfl) (c:(tV pos (sC es X.env)).any (·.1)=false:=by rfl):DN X (.Call (.Name "sorted" p) (e :: es) [] pos) (VR fa) :=
 yi (wL (id:="sorted") WN n m kQ r (by decide) (by decide) o c) λσ H Q ⟨H₀,aa,ρ,Hf,d,R,q,k⟩=>by
  obtain ⟨l,e1,e2⟩:=z8 q
  refine ⟨H₀,aa,ρ,Hf,l,R,e1,λvs H1 u h s1 t1 h1=>?_⟩
  split at e2
  .rename_i ds
   obtain ⟨ns,t,g⟩:=iq.mp e2
   split at g
   .rename_i j
    cases g
    obtain ⟨v,rfl,i⟩:=uw.one h1
    obtain ⟨a,ys,rfl,q,l⟩:=i.lst h
    have s:=zB.intsV l t
    subst s
    exact ⟨a,ns,rfl,q,j,λp b=>k _ _ _ _ (h.layN b) (s1.trans (zA b)) t1 (hasL_ints _) zq (h.sf.free b) (s1.free b)⟩
   .cases g
  .cases e2
end
section
variable {X:Cx}
end
section
variable {prog:sH} {w:sU} {A:Around} {E:Value->Shared->Prop} {s:Shared}
end
section
variable {X:Cx} {e st:Expr} {f fs:FE} {pos p2:Pos}
end
section
variable {O:KeyOrd} {n:Nat} {key:Nat->O.α}
def Run (O:KeyOrd) (n:Nat) (key:Nat->O.α) {α:Type}:DX α->(α->Prop)->Prop
 | .ret a,Q=>Q a
 | .ask i j k,Q=>i < n/\j < n/\Run O n key (k (O.blt (key i) (key j))) Q
theorem xK {α:Type} {Q c:α->Prop} (b:∀ a,Q a->c a):∀ {t:DX α},Run O n key t Q->Run O n key t c
 | .ret a,h=>b a h
 | .ask i j k,h=>⟨h.1,h.2.1,xK b h.2.2⟩
theorem uf {α b:Type} {Q:b->Prop} {f:α->DX b}:∀ {t:DX α},Run O n key t (λa=>Run O n key (f a) Q)->Run O n key (t.bind f) Q
 | .ret a,h=>h
 | .ask i j k,h=>⟨h.1,h.2.1,uf h.2.2⟩
theorem Gy {α:Type} {b:Nat->Nat->(Bool->Shared->Prop)->Shared->Prop} {s:Shared} (c:∀ i j (C:Bool->Shared->Prop),i < n->j < n->C (O.blt (key i) (key j)) s->b i j C s) {Q:α->Prop} {G:α->Shared->Prop} (d:∀ a,Q a->G a s) :
  ∀ {t:DX α},Run O n key t Q->t.kasWp b G s
 | .ret a,h=>d a h
 | .ask i j k,h=>c i j _ h.1 h.2.1 (Gy c d h.2.2)
def KP (key:Nat->O.α) (p:Array Nat) (i:Nat):O.α:=key (p[i]?.getD 0)
def Qv (p:Array Nat) (i:Nat):key (p.getD i 0)=KP key p i:=by unfold KP; rw [Array.getD_eq_getD_getElem?]
def qg (h:p[i]? = a[j]?):KP key p i=KP key a j:=by unfold KP; rw [h]
def kl (a:j<=p.size) (k:Nat):KP key (mirror p i j ((j - i) / 2)) k=if i<=k/\k < j then KP key p (i+j - 1 - k) else KP key p k:=by
 have e:=getElem?_mirror_all (i:=i) a k
 by_cases h1:i<=k/\k < j
 .rw [if_pos h1] at e ⊢; exact qg e
 .rw [if_neg h1] at e ⊢; exact qg e
def Xk (b:a < p.size) (hd:d<=a) (k:Nat):
  KP key (bubble p a d) k=if k=a - d then KP key p a else if a - d < k/\k<=a then KP key p (k - 1) else KP key p k:=by
 have e:=getElem?_bubble b d hd k
 by_cases h1:k=a - d
 .rw [if_pos h1] at e ⊢; exact qg e
 .rw [if_neg h1] at e ⊢
  by_cases h2:a - d < k/\k<=a
  .rw [if_pos h2] at e ⊢; exact qg e
  .rw [if_neg h2] at e ⊢; exact qg e
def yU (b:j<=p.size) (a:∀ k,i<=k->k < j->KP key p k=KP key p (j - 1)) (k:Nat):KP key (mirror p i j ((j - i) / 2)) k=KP key p k:=by
 rw [kl b]
 split
 .rw [a _ (by omega) (by omega),a k (by omega) (by omega)]
 .rfl
def VI (key:Nat->O.α) (p:Array Nat) (k:Nat):Prop:=∀ i j,i<=j->j < k->O.kle (KP key p i) (KP key p j)
def Ml (key:Nat->O.α) (p:Array Nat) (k:Nat):Prop:=∀ i j,i<=j->j < k->O.kle (KP key p j) (KP key p i)
structure Bs (n:Nat) (p:Array Nat):Prop where
 perm:p.Perm (nj (aV n))
def Bs.size (b:Bs n p):p.size=n:=by rw [b.perm.size_eq]; simp
def Bs.lt (b:Bs n p) (c:0 < n) (i:Nat):p.getD i 0 < n:=by
 rw [Array.getD_eq_getD_getElem?]
 cases h:p[i]? with
 | none=>exact c
 | some a =>
  have hm:a∈p:=Array.mem_of_getElem? h
  have:a∈aV n:=by simpa using b.perm.mem_iff.mp hm
  simpa using this
def Bs.rev (b:Bs n p) (i j:Nat):Bs n (PySem.W.kas_rev p i j):=⟨(mirror_perm _ _ _ _).trans b.perm⟩
def Bs.bub (b:Bs n p) (i j:Nat):Bs n (bubble p i j):=⟨(bubble_perm _ _ _).trans b.perm⟩
def jY {α:Type} {p:Array Nat} (b:Bs n p) (a:0 < n) {i j:Nat} {k:Bool->DX α} {Q:α->Prop} (h:Run O n key (k (O.blt (KP key p i) (KP key p j))) Q):Run O n key (.ask (p.getD i 0) (p.getD j 0) k) Q :=
 ⟨b.lt a i,b.lt a j,by rw [Qv (key:=key) p i,Qv (key:=key) p j]; exact h⟩
open KeyOrd
theorem X8 (b:Bs n p):∀ (f a:Nat),1<=a->a+f<=n->VI key p a->Run O n key (PySem.W.kas_asc p f a) λm=>a<=m/\m<=a+f/\VI key p m/\(m=a+f\/O.klt (KP key p m) (KP key p (m - 1)))
 | 0,a,_,_,c=>⟨aU _,aU _,c,.inl rfl⟩
 | f+1,a,h1,hf,c=>by
  refine jY b (by omega) ?_
  cases d:O.blt (KP key p a) (KP key p (a - 1)) with
  | true =>
   rw [if_pos rfl]
   exact ⟨aU _,by omega,c,.inr d⟩
  | false =>
   rw [if_neg (by simp)]
   refine xK ?_ (X8 b f (a+1) (by omega) (by omega) ?_)
   .rintro m ⟨u,t,l,g⟩
    exact ⟨by omega,by omega,l,g.imp (λh=>by omega) id⟩
   .intro i j r v
    by_cases o:j < a
    .exact c i j r o
    .have q:j=a:=by omega
     subst q
     by_cases s:i=j
     .subst s; exact kle_refl _
     .exact kle_trans (c i (j - 1) (by omega) (by omega)) d
def Y3 (b:Bs n p) (h1:1<=m) (h:m<=n) (g:Ml key p m):Run O n key (PySem.W.kas_tail3 m n p) λr=>1<=r.1/\r.1<=n/\Bs n r.2/\VI key r.2 r.1:=by
 unfold PySem.W.kas_tail3
 have c:m<=p.size:=by rw [b.size]; exact h
 refine uf (xK ?_ (X8 (b.rev 0 m) (n - m) m h1 (by omega) ?_))
 .rintro a ⟨o,l,d,_⟩
  exact ⟨by show 1<=a; omega,by show a<=n; omega,b.rev 0 m,d⟩
 .intro i j s q
  show O.kle (KP key (mirror p 0 m ((m - 0) / 2)) i) (KP key (mirror p 0 m ((m - 0) / 2)) j)
  rw [kl c,kl c,if_pos (by omega),if_pos (by omega)]
  exact g _ _ (by omega) (by omega)
theorem jy:∀ (f:Nat) (p:Array Nat) (x q:Nat),Bs n p->1<=x->x+f<=n->Ml key p x->q+1<=x->(∀ i,x - (q+1)<=i->i < x->KP key p i=KP key p (x - 1)) →
  Run O n key (PySem.W.kas_desc f p x q) λr=>Bs n r.1/\x<=r.2.1/\r.2.1<=x+f/\Ml key r.1 r.2.1/\r.2.2+1<=r.2.1/\∀ i,r.2.1 - (r.2.2+1)<=i->i < r.2.1->KP key r.1 i=KP key r.1 (r.2.1 - 1)
 | 0,p,x,q,b,_,_,a,o,he=>⟨b,aU _,aU _,a,o,he⟩
 | f+1,p,x,q,b,h1,hf,a,o,he=>by
  have m:x<=p.size:=by rw [b.size]; omega
  refine jY b (by omega) ?_
  cases C:O.blt (KP key p x) (KP key p (x - 1)) with
  | true =>
   rw [if_pos rfl]
   have A:∀ l:Array Nat,(∀ k,KP key l k=KP key p k)->Ml key l (x+1):=by
    intro l B i j u F
    rw [B,B]
    by_cases h:j < x
    .exact a i j u h
    .have t:j=x:=by omega
     subst t
     by_cases v:i=j
     .subst v; exact kle_refl _
     .exact kle_trans (kle_of_klt C) (a i (j - 1) (by omega) (by omega))
   by_cases g:q > 0
   .rw [if_pos g]
    refine xK ?_ (jy f _ (x+1) 0 (b.rev _ _) (by omega) (by omega) (A _ (yU m he)) (by omega) λi h1 h2=>by congr 1; omega)
    rintro r ⟨d,y,w,c⟩
    exact ⟨d,by omega,by omega,c⟩
   .rw [if_neg g]
    refine xK ?_ (jy f _ (x+1) 0 b (by omega) (by omega) (A _ λ_=>rfl) (by omega) λi h1 h2=>by congr 1; omega)
    rintro r ⟨d,y,w,c⟩
    exact ⟨d,by omega,by omega,c⟩
  | false =>
   rw [if_neg (by simp)]
   refine jY b (by omega) ?_
   cases E:O.blt (KP key p (x - 1)) (KP key p x) with
   | true =>
    rw [if_pos rfl]
    exact ⟨b,aU _,by show x<=_; omega,a,o,he⟩
   | false =>
    rw [if_neg (by simp)]
    have z:KP key p x=KP key p (x - 1):=kle_antisymm E C
    refine xK ?_ (jy f p (x+1) (q+1) b (by omega) (by omega) (λi j u F=>?_) (by omega) λi h1 h2=>?_)
    .rintro r ⟨d,y,w,c⟩
     exact ⟨d,by omega,by omega,c⟩
    .by_cases h:j < x
     .exact a i j u h
     .have t:j=x:=by omega
      subst t
      by_cases v:i=j
      .subst v; exact kle_refl _
      .rw [z]; exact a i (j - 1) (by omega) (by omega)
    .rw [show x+1 - 1=x by omega]
     by_cases s:i=x
     .subst s; rfl
     .rw [z]; exact he i (by omega) (by omega)
def qY (b:Bs n p) (y:m+1<=n) (u:Ml key p (m+1)):Run O n key (PySem.W.kas_descPart m n p) λr=>1<=r.1/\r.1<=n/\Bs n r.2/\VI key r.2 r.1:=by
 unfold PySem.W.kas_descPart
 refine uf (xK ?_ (jy (n - (m+1)) p (m+1) 0 b (by omega) (by omega) u (by omega) λi h1 h2=>by congr 1; omega))
 rintro ⟨h,x,q⟩ ⟨c,t,s,g,o,d⟩
 dsimp only at c t s g o d ⊢
 have a:x<=h.size:=by rw [c.size]; omega
 by_cases l:q > 0
 .rw [if_pos l]
  refine Y3 (c.rev _ _) (by omega) (by omega) ?_
  intro i j w v
  show O.kle (KP key (mirror h _ _ _) j) (KP key (mirror h _ _ _) i)
  rw [yU a d,yU a d]
  exact g i j w v
 .rw [if_neg l]
  exact Y3 c (by omega) (by omega) g
def UR (b:Bs n p) (F:1<=n):Run O n key (PySem.W.kas_count n p) λr=>1<=r.1/\r.1<=n/\Bs n r.2/\VI key r.2 r.1:=by
 unfold PySem.W.kas_count
 refine uf (xK ?_ (X8 b (n - 1) 1 (aU _) (by omega) λi j x w=>by have:i=j:=(by omega); subst this; exact kle_refl _))
 rintro m ⟨u,E,h,z⟩
 have v:m<=n:=by omega
 by_cases c:m=n
 .rw [if_pos (by simpa using c)]
  exact ⟨u,v,b,h⟩
 .rw [if_neg (by simpa using c)]
  have y:O.klt (KP key p m) (KP key p (m - 1)):=z.resolve_left (by omega)
  by_cases d:m > 1
  .rw [if_pos d]
   refine jY b (by omega) ?_
   cases A:O.blt (KP key p 0) (KP key p (m - 1)) with
   | true =>
    rw [if_pos rfl]
    exact ⟨u,v,b,h⟩
   | false =>
    rw [if_neg (by simp)]
    have a:m<=p.size:=by rw [b.size]; omega
    have g:∀ k,0<=k->k < m->KP key p k=KP key p (m - 1):=by
     intro k _ B
     have a1:=h 0 k (by omega) B
     have a2:=h k (m - 1) (by omega) (by omega)
     exact kle_antisymm a2 (kle_trans A a1)
    refine qY (b.rev _ _) (by omega) ?_
    intro i j x w
    show O.kle (KP key (mirror p _ _ _) j) (KP key (mirror p _ _ _) i)
    rw [yU a g,yU a g]
    by_cases o:j < m
    .rw [g i (by omega) (by omega),g j (by omega) o]; exact kle_refl _
    .have C:j=m:=by omega
     subst C
     by_cases t:i=j
     .subst t; exact kle_refl _
     .rw [g i (by omega) (by omega)]; exact kle_of_klt y
  .rw [if_neg d]
   have l:m=1:=by omega
   subst l
   refine qY b (by omega) ?_
   intro i j x w
   by_cases t:i=j
   .subst t; exact kle_refl _
   .have s:i=0:=by omega
    have q:j=1:=by omega
    subst s; subst q
    exact kle_of_klt y
theorem jX (b:Bs n p) (o:k < n) (h:VI key p k):∀ (f l r:Nat),l<=r->r<=k->r - l<=f->(∀ i,i < l->O.kle (KP key p i) (KP key p k))->(∀ i,r<=i->i < k->O.klt (KP key p k) (KP key p i)) →
  Run O n key (PySem.W.kas_place p k f l r) λj=>j<=k/\(∀ i,i < j->O.kle (KP key p i) (KP key p k))/\∀ i,j<=i->i < k->O.klt (KP key p k) (KP key p i)
 | 0,l,r,m,a,hf,g,d=>by
  have:l=r:=by omega
  subst this
  exact ⟨a,g,d⟩
 | f+1,l,r,m,a,hf,g,d=>by
  unfold PySem.W.kas_place
  by_cases c:l ≥ r
  .rw [if_pos c]
   have:l=r:=by omega
   subst this
   exact ⟨a,g,d⟩
  .rw [if_neg c]
   refine jY b (by omega) ?_
   cases q:O.blt (KP key p k) (KP key p ((l+r) / 2)) with
   | true =>
    rw [if_pos rfl]
    exact jX b o h f l ((l+r) / 2) (by omega) (by omega) (by omega) g λi h1 h2=>klt_of_klt_of_kle q (h _ _ h1 h2)
   | false =>
    rw [if_neg (by simp)]
    exact jX b o h f ((l+r) / 2+1) r (by omega) (by omega) (by omega) (λi h1=>kle_trans (h i ((l+r) / 2) (by omega) (by omega)) (show O.kle _ _ from q)) d
theorem US:∀ (f:Nat) (p:Array Nat) (k:Nat),Bs n p->k+f=n->VI key p k->Run O n key (PySem.W.kas_bin f p k) λd=>Bs n d/\VI key d n
 | 0,p,k,b,g,c=>⟨b,by rw [<- g]; exact c⟩
 | f+1,p,k,b,g,c=>by
  unfold PySem.W.kas_bin
  refine uf (xK ?_ (jX b (by omega) c k 0 k (by omega) (aU _) (by omega) (λi hi=>by omega) λi h1 h2=>by omega))
  rintro l ⟨o,m,h⟩
  refine US f _ (k+1) (b.bub _ _) (by omega) ?_
  have a:k < p.size:=by rw [b.size]; omega
  intro i j r q
  rw [Xk a (by omega),Xk a (by omega),show k - (k - l)=l by omega]
  repeat' split
  all_goals first
   | (exfalso; omega)
   | exact kle_refl _
   | exact m _ (by omega)
   | exact kle_of_klt (h _ (by omega) (by omega))
   | exact c _ _ (by omega) (by omega)
def JZ (g:1<=n):Run O n key (PySem.W.kas_sort n) λp=>Bs n p/\VI key p n:=by
 unfold PySem.W.kas_sort
 refine uf (xK ?_ (UR ⟨.refl _⟩ g))
 rintro ⟨m,p⟩ ⟨d,c,b,a⟩
 dsimp only at d c b a ⊢
 by_cases h:m < n
 .rw [if_pos h,show max m 1=m by omega]
  exact US (n - m) p m b (by omega) a
 .rw [if_neg h]
  exact ⟨b,by rw [show n=m by omega]; exact a⟩
end
open PySem.AutoSeq1 (wpAny_loadPart')
open PySem.MeetsSeq PySem.MeetsSeq2 PySem.MeetsSeq3
def KI (vs:List Value):(vs.toArray.zip vs.toArray).toList=vs.zip vs:=by simp
section
variable {prog:sH} {w:sU} {A:Around} {E:Value->Shared->Prop} {s:Shared}
def Zf (vs:List Value):(aV vs.length).map (λi=>vs.getD i tj)=vs:=by
 apply EC
 .simp
 .intro i h1 h2
  simp [h2]
def Wn {O:KeyOrd} {key:Nat->O.α} {κ:SortKind} {a:Addr} {vs:List Value} {n:Nat} {P:Fin->Shared->Prop} (q:s.heap.get? a=some (AO "list" vs.toArray n)) (u:vs.length < 64)
  (F:2<=vs.length->∀ h',(∀ b o,b≠a->s.heap.get? b=some o->h'.get? b=some o) →
   (∀ (Q:SortKind->Shared->Prop) (E:Value->Shared->Prop),Q κ { s with heap:=h' }->sG (sL prog w) A (keyKind' vs.toArray) Q E { s with heap:=h' }) ∧
   ∀ i j (Q:Bool->Shared->Prop),i < vs.length->j < vs.length->Q (O.blt (key i) (key j)) { s with heap:=h' }->sG (sL prog w) A (keyLt' κ (vs.getD i .none) (vs.getD j .none)) Q (λ_ _=>False) { s with heap:=h' })
  (h:∀ p:Array Nat,Bs vs.length p->VI key p vs.length->P (.done (.ret .none)) { s with heap:=sortedHeap s.heap a vs (nj (p.toList.map λi=>vs.getD i .none)) }) :
  sG (sL prog w) A (Builtin.«list.sort» ⟨[.ref a],[]⟩) P E s:=by
 rw [list_sort_plain]
 have y:a < s.heap.objs.size:=sE q
 refine ls (listItems_at q rfl ?_)
 refine ls (listUpdate_at q rfl ?_)
 obtain ⟨e1,l⟩:∃ e1,(s.heap.update a (t_ λ_ => #[])).get? a=some (AO "list" #[] e1):=⟨_,get?_update_seq q (λ_ => #[])⟩
 refine ls (seqEpoch_at l rfl ?_)
 refine ls (wpAny_newTuple ?_)
 refine ls (wpAny_newList ?_)
 refine tQ ?_
 have c:(((s.heap.update a (t_ λ_ => #[])).push (AO "tuple" vs.toArray 0)).push (AO "list" #[] 0)).get? a=some (AO "list" #[] e1):=by
  rw [Ek _ _ _ (by rw [size_push',Heap.size_update]; exact cb (rO y)),Ek _ _ _ (by rw [Heap.size_update]; exact cb y)]
  exact l
 have z:∀ b o,b≠a->s.heap.get? b=some o->(((s.heap.update a (t_ λ_ => #[])).push (AO "tuple" vs.toArray 0)).push (AO "list" #[] 0)).get? b=some o:=λb o I x =>
  mo _ (mo _ (by rw [Heap.get?_update_ne _ _ _ _ I]; exact x))
 show sG (sL prog w) A _ P E { s with heap:=((s.heap.update a (t_ λ_ => #[])).push (AO "tuple" vs.toArray 0)).push (AO "list" #[] 0) }
 dsimp only
 have B:vs.toArray.size=vs.length:=by simp
 by_cases h2:vs.toArray.size < 2
 .rw [if_pos h2,if_pos h2]
  refine ls (su ?_)
  rw [StateT.run_pure]
  refine ls (su ?_)
  dsimp only
  refine ls (seqEpoch_at c rfl ?_)
  refine ls (listUpdate_at c rfl ?_ (hsz2:=by rw [Array.size_map]; show (pairsOf vs).size<=_; rw [pairsOf_size,Av]; omega))
  simp only [bne_self_eq_false,cM,if_false]
  have fin:=h (nj (aV vs.length)) ⟨.refl _⟩ (λi j M v=>by
   have:i=j:=by omega
   subst this; exact KeyOrd.kle_refl _)
  have L:(vs.toArray.zip vs.toArray).map (·.2)=nj ((nj (aV vs.length)).toList.map λi=>vs.getD i .none):=by
   apply Array.toList_inj.mp
   rw [Array.toList_map,KI]
   have e1:(vs.zip vs).map (·.2)=vs:=List.map_snd_zip (aU _)
   rw [e1]
   exact (Zf vs).symm
  rw [<- L] at fin
  exact su fin
 .rw [if_neg h2,if_neg h2]
  have m:2<=vs.length:=by omega
  obtain ⟨k1,k2⟩:=F m _ z
  refine ls (k1 _ _ ?_)
  refine ls (sN (PySem.W.kat_run (vs:=vs) (ks:=vs) (κ:=κ) (Q:=λr s'=>∃ p:Array Nat,arrOf r=p.map (PySem.W.kas_item (vs.toArray.zip vs.toArray))/\failedOf r=none/\(Bs vs.length p/\VI key p vs.length)/\s'={ s with heap:=((s.heap.update a (t_ λ_ => #[])).push (AO "tuple" vs.toArray 0)).push (AO "list" #[] 0) })
   (G:=λp s'=>(Bs vs.length p/\VI key p vs.length)/\s'={ s with heap:=((s.heap.update a (t_ λ_ => #[])).push (AO "tuple" vs.toArray 0)).push (AO "list" #[] 0) })
   rfl m u (λp r s' a1 a2 a3 a4=>⟨p,a2,a3,a4⟩) (Gy (λi j C hi v J=>k2 i j C hi v J) (λp d=>⟨d,rfl⟩) (JZ (by omega)))) ?_ λ_ _ e=>e)
  rintro ⟨⟨⟩,r⟩ s' ⟨p,t,H,d,rfl⟩
  have g:=PySem.W.kat_snds rfl t
  dsimp only
  rw [g]
  refine ls (seqEpoch_at c rfl ?_)
  refine ls (listUpdate_at c rfl ?_ (hsz2:=by rw [cx,aC,Ak,d.1.size,Av]; omega))
  rw [H]
  simp only [bne_self_eq_false,cM,if_false]
  exact su (h p d.1 d.2)
def JL {O:KeyOrd} {key:Nat->O.α} {κ:SortKind} {l:Addr} {vs:List Value} {Q:Value->Shared->Prop} (q:s.heap.IsList l vs.toArray) (g:vs.length < 64)
  (r:2<=vs.length->∀ h',(∀ b o,s.heap.get? b=some o->h'.get? b=some o) →
   (∀ (Q:SortKind->Shared->Prop) (E:Value->Shared->Prop),Q κ { s with heap:=h' }->sG (sL prog w) A.in1.in1 (keyKind' vs.toArray) Q E { s with heap:=h' }) ∧
   ∀ i j (Q:Bool->Shared->Prop),i < vs.length->j < vs.length->Q (O.blt (key i) (key j)) { s with heap:=h' }->sG (sL prog w) A.in1.in1 (keyLt' κ (vs.getD i .none) (vs.getD j .none)) Q (λ_ _=>False) { s with heap:=h' })
  (h:∀ p:Array Nat,Bs vs.length p->VI key p vs.length->Q (.ref (s.heap.objs.size+1)) { s with heap:=sortedAll s.heap vs (nj (p.toList.map λi=>vs.getD i .none)) }) :
  sG (sL prog w) A (call (.builtin "sorted") [.ref l]) Q E s:=by
 refine Calls.call_function_entry kind_sorted plain_sorted entry_sorted (args_sorted1 _) ?_
 unfold Builtin.«sorted»
 refine ls (m:=checkCount "sorted" 1 1 _) (su ?_)
 refine ls (collect_list q ?_)
 refine ls (wpAny_newList ?_)
 have a:((s.heap.push (AO "list" #[] 0)).update s.heap.objs.size (t_ (· ++ vs.toArray))).objs.size=s.heap.objs.size+1:=by
  rw [Heap.size_update,size_push']
 have n:(((s.heap.push (AO "list" #[] 0)).update s.heap.objs.size (t_ (· ++ vs.toArray))).push (AO "list" vs.toArray 0)).get? (s.heap.objs.size+1)=some (AO "list" vs.toArray 0):=by
  rw [<- a]; exact sF _ rfl
 show sG _ _ _ _ _ { s with heap:=((s.heap.push (AO "list" #[] 0)).update s.heap.objs.size (t_ (· ++ vs.toArray))).push (AO "list" vs.toArray 0) }
 rw [a]
 have c:∀ b o,s.heap.get? b=some o->b≠s.heap.objs.size+1/\(((s.heap.push (AO "list" #[] 0)).update s.heap.objs.size (t_ (· ++ vs.toArray))).push (AO "list" vs.toArray 0)).get? b=some o:=λb o x=>by
  have d:b < s.heap.objs.size:=sE x
  refine ⟨cb (rO d),?_⟩
  rw [Ek _ _ _ (by rw [a]; exact cb (rO d)),Heap.get?_update_ne _ _ _ _ (cb d),Ek _ _ _ (cb d)]
  exact x
 refine ls (tQ (tM slot_list_sort ⟨_,n,rfl⟩ entry_list_sort (Wn (key:=key) n g (λh2 h' hh=>r h2 h' λb o x=>hh b o (c b o x).1 (c b o x).2) λp a1 a2=>⟨_,rfl,?_⟩) (args_list_sort _)))
 exact su ⟨_,rfl,h p a1 a2⟩
end
section
variable {X:Cx} {pins:List (Addr×Obj)} {σ:St} {H:Hp} {s:Shared} {A:Around}
end
section
variable {X:Cx} {pins:List (Addr×Obj)} {σ:St} {H:Hp} {s:Shared}
end
section
variable {X:Cx} {e:Expr} {pos:Pos} {kk:Nat}
end
section
variable {α:Type} {P:List α->Prop}
def P3 (k:P []):∀ us,us.length=0->P us
 | [],_=>k
def YK (k:∀ a,P [a]):∀ us,us.length=1->P us
 | a :: us,h=>P3 (P:=λus=>P (a :: us)) (k a) us (Nat.succ.inj h)
def YE (k:∀ a b,P [a,b]):∀ us,us.length=2->P us
 | a :: us,h=>YK (P:=λus=>P (a :: us)) (k a) us (Nat.succ.inj h)
def Mw (k:∀ a b c,P [a,b,c]):∀ us,us.length=3->P us
 | a :: us,h=>YE (P:=λus=>P (a :: us)) (k a) us (Nat.succ.inj h)
end
section
variable {X:Cx} {pos:Pos} {kk:Nat}
end
section
variable {prog:sH} {w:sU} {A:Around} {E:Value->Shared->Prop} {s:Shared}
end
section
variable {K:sx} {H₀ aa:Hp} {σ:St} {ρ:aI} {H Hf:Hp}
end
section
variable {X:Cx} {pos:Pos} {body:List Stmt} {γ:FG} {B:FS}
end
section
variable {X:Cx} {pos:Pos} {kk:Nat}
end
section
variable {X:Cx}
variable {a b c e:Expr} {f g h:FE} {pos p2:Pos}
end
section
variable {X:Cx} {e:Expr} {f:FE} {pos:Pos} {tg:Expr}
end
section
variable {X:Cx} {o e:Expr} {f g:FE} {kk:Nat}
end
section
variable {X:Cx}
def De:List V->Hp->VK->Prop:=λxs H Q=>((∃ i,xs=[.int i]/\Q (.int i) H)\/∃ k,xs=[.bl k]/\Q (.int (if k then 1 else 0)) H)\/∃ z n,xs=[.str z]/\z.length<=640/\PySem.intText? z=some n/\Q (.int n) H
def Jm:xm X (.type "int") De:=by
 intro pins s σ H xs us Q I r h
 rcases h with h | ⟨z,n,rfl,b,a,q⟩
 .exact Jn pins s σ H xs us Q I r h
 .obtain ⟨u,rfl,t,rfl⟩:=ur r
  exact PySem.W.KIN.call_text a b ⟨.int n,H,I.tok _,⟨_,rfl⟩,q⟩
def Nk:List D->Option D
 | [.int i]=>some (.int i)
 | [.bl b]=>some (.int (if b then 1 else 0))
 | [.str z]=>if z.length<=640 then (PySem.intText? z).map D.int else none
 | _=>none
def K0:iw X De Nk:=by
 intro σ ρ H₀ aa H Hf xs ds d Q R c a k
 unfold Nk at a
 split at a
 .cases a
  obtain ⟨v,rfl,b⟩:=c.one
  exact .inl (.inl ⟨_,by rw [b.int],k _ _ _ R zD zD (sA.mpr rfl)⟩)
 .cases a
  obtain ⟨v,rfl,b⟩:=c.one
  exact .inl (.inr ⟨_,by rw [b.bl],k _ _ _ R zD zD (sA.mpr rfl)⟩)
 .split at a
  .rename_i z h
   cases g:PySem.intText? z with
   | none=>rw [g] at a; cases a
   | some n =>
    rw [g] at a
    cases a
    obtain ⟨v,rfl,b⟩:=c.one
    exact .inr ⟨z,n,by rw [b.str],h,g,k _ _ _ R zD zD (sA.mpr rfl)⟩
  .cases a
 .cases a
end
def jn (out:Str):List Str->Str
 | []=>out
 | z :: zs=>jn (out++z) zs
theorem QD:∀ zs out,out.length<=(jn out zs).length
 | [],_=>aU _
 | z :: zs,out=>by
  have h:=QD zs (out++z)
  rw [strLen_append] at h
  show _<=(jn (out++z) zs).length
  omega
abbrev FJ:=aI->Option (List Str)
inductive tJ (K:sx) (fj:FJ) (out:Str) (σ:St) (H:Hp) (Q:VK):Prop
 |mk (H₀ aa ρ Hf zs) (a0:Rep K H₀ aa σ ρ H Hf) (a1:fj ρ=some zs) (a2:(jn out zs).length<=sizeLine) (a3:∀ H' ao,Rep K H₀ aa σ ρ H' ao->zV H H'->zV Hf ao->Q (.str (jn out zs)) H')
def DJ (X:Cx) (es:List Expr) (fj:FJ):Prop :=
 ∀ (out:Str) (pins:List (Addr×Obj)) (s:Shared) (σ:St) (H:Hp) (Q:VK),Inv X pins σ H s->tJ X.K fj out σ H Q->sG (sL X.prog X.w) X.A (joinParts out (evalEach es X.env)) (EP X pins σ Q) X.xe s
section
variable {X:Cx} {e:Expr} {es:List Expr} {f:FE} {fj:FJ} {pos p2:Pos}
def Bv:FJ:=λ_=>some []
def Gf (z:Str) (fj:FJ):FJ:=λρ=>(fj ρ).bind λzs=>some (z :: zs)
def Ms:D->Option Str
 | .int i=>if i.natAbs.log2 < 1920 then some (toString i) else none
 | .str z=>if z.length<=sizeLine then some z else none
 | _=>none
def B0 (f:FE) (fj:FJ):FJ:=λρ=>(f ρ).bind λd=>(Ms d).bind λz=>(fj ρ).bind λzs=>some (z :: zs)
def QY:DJ X [] Bv:=by
 intro out pins s σ H Q I h
 obtain ⟨H₀,aa,ρ,Hf,zs,R,q,hz,k⟩:=h
 cases q
 exact joinParts_nilE (joinParts_nil ⟨.str out,H,I.tok _,⟨_,rfl⟩,k _ _ R zD zD⟩ hz)
def Q0 (h:DJ X es fj):DJ X (.Constant (.str z) j p2 :: es) (Gf z fj):=by
 intro out pins s σ H Q I hh
 obtain ⟨H₀,aa,ρ,Hf,zs,R,q,hz,k⟩:=hh
 cases e:fj ρ with
 | none=>unfold Gf at q; rw [e] at q; cases q
 | some a =>
  unfold Gf at q
  rw [e] at q
  cases q
  have b:(jn (out++z) a).length<=sizeLine:=hz
  refine joinParts_consE (joinParts_cons (Calls.Constant_str ?_))
  exact ⟨gq (QD _ _) b,h (out++z) pins _ σ H Q (I.tok _) ⟨H₀,aa,ρ,Hf,a,R,e,b,k⟩⟩
def QZ (l:DR X e f) (h:DJ X es fj):DJ X (.FormattedValue e (-1) none p2 :: es) (B0 f fj):=by
 intro out pins s σ H Q I hh
 obtain ⟨H₀,aa,ρ,Hf,zs,R,q,hz,k⟩:=hh
 obtain ⟨d,e1,e2⟩:=zM q
 cases a:Ms d with
 | none=>rw [a] at e2; cases e2
 | some z =>
  rw [a] at e2
  cases c:fj ρ with
  | none=>rw [c] at e2; cases e2
  | some i =>
   rw [c] at e2
   cases e2
   have j:(jn (out++z) i).length<=sizeLine:=hz
   refine joinParts_consE (joinParts_cons (FormattedValue_plain (thn (l pins s σ H (λv H1=>∃ b,Rep X.K H₀ aa σ ρ H1 b/\zV H H1/\zV Hf b/\uA X.K b σ ρ d v) I ⟨H₀,aa,ρ,Hf,d,R,e1,λv H1 b g s1 t1 h1=>⟨b,g,s1,t1,h1⟩⟩) λu s1 ⟨v,H1,n,r,b,g,m,t1,h1⟩=>?_)))
   have fin:∀ (t':Tok) (tk:Nat),(out++z).length<=sizeLine/\sG (sL X.prog X.w) X.A (joinParts (out++z) (evalEach es X.env)) (EP X pins σ Q) X.xe { s1 with toks:=tk }:=λt' tk =>
    ⟨gq (QD _ _) j,h (out++z) pins _ σ H1 Q (n.tok _) ⟨H₀,aa,ρ,b,i,g,c,j,λH2 aP R2 s2 t2=>k _ _ R2 (m.trans s2) (t1.trans t2)⟩⟩
   unfold Ms at a
   split at a
   .split at a
    .cases a
     cases h1.int
     obtain ⟨t,rfl⟩:=r
     exact formatField_int_small (by assumption) (fin (s1.toks+1) _)
    .cases a
   .split at a
    .cases a
     cases h1.str
     obtain ⟨t,rfl⟩:=r
     exact formatField_str fin (by assumption)
    .cases a
   .cases a
def Yj (fj:FJ):FE:=λρ=>(fj ρ).bind λzs=>if (jn Ac zs).length<=sizeLine then some (.str (jn Ac zs)) else none
def Q5 (h:DJ X (a :: b :: es) fj) (c:evalEach (a :: b :: es) X.env=eval a X.env :: eval b X.env :: evalEach es X.env:=by rfl):DE X (.JoinedStr (a :: b :: es) pos) (Yj fj):=by
 intro pins s σ H Q I hh
 obtain ⟨H₀,aa,ρ,Hf,d,R,q,k⟩:=hh
 cases e:fj ρ with
 | none=>unfold Yj at q; rw [e] at q; cases q
 | some zs =>
  unfold Yj at q
  rw [e] at q
  have q:(if (jn Ac zs).length<=sizeLine then some (D.str (jn Ac zs)) else none)=some d:=q
  split at q
  .cases q
   refine JoinedStr_many ?_
   rw [<- c]
   exact h Ac pins s σ H Q I ⟨H₀,aa,ρ,Hf,zs,R,e,by assumption,λH' ao R' s' t'=>k _ _ _ R' s' t' (sR.mpr rfl)⟩
  .cases q
def jm (i:Nat) (g f:FE):FS:=λρ=>(f ρ).bind λy=>(g ρ).bind λx=>match ρ[i]?,x with
 | some (.ol ds),.int k=>(dI ds.length k).bind λj=>some (.nx (ρ.set i (.ol (ds.set j y))))
 | _,_=>none
set_option tactic.hygienic true in
def WH {c:Expr} {g:FE} {x:Str} {b eI:Pos} (i:Nat) (E:DE X e f) (C:DE X c g) (G:X.N[i]? = some x:=by rfl) (A:iu X.env.scope x:=by first | exact Aw rfl | exact Ab (Aw rfl) | exact Ab (Ab rfl))
  (hd:(x==("__debug__":Str))=false:=by decide) (n:(x==("__classdict__":Str))=false:=by decide)
  (F:∀ v,assign (.Subscript (.Name x b) c eI) X.env v=(do
   let h ← holding [v] (eval (.Name x b) X.env)
   let l ← holding [v,h] (eval c X.env)
   standAt eI
   holding [v,h,l] (setItem h l v)
   release [v,h,l] []):=by intro _; rfl)
  (B:swapsWithSole [.Subscript (.Name x b) c eI] e pos.line X.env=pure false:=by rfl) (u:swappedStores [.Subscript (.Name x b) c eI] e X.env=pure none:=by rfl)
  (h1:(An [.Subscript (.Name x b) c eI] X.env).map (·.2)=[assign (.Subscript (.Name x b) c eI) X.env]:=by rfl) :
  DS X (.Assign [.Subscript (.Name x b) c eI] e pos) (jm i g f) :=
 y8 (GF E (Dk (u4 G A hd n) C JR F) B u h1) λD' σ H ⟨H₀,aa,ρ,Hf,o,R,q,k⟩=>by
  obtain ⟨y,e1,e2⟩:=zM q
  obtain ⟨z,I,d⟩:=zM e2
  split at d
  .rename_i ds kk p
   cases m:dI ds.length kk with
   | none=>rw [m] at d; cases d
   | some j =>
    rw [m] at d
    cases d
    refine ⟨H₀,aa,ρ,Hf,y,R,e1,λv H1 J s s1 t1 h1=>?_⟩
    obtain ⟨a,b,⟨xs,p2,P⟩,O,N⟩:=s.ow i _ p rfl
    refine ⟨_,b,H₀,aa,ρ,J,_,s,I,λw H2 aP R2 s2 t2 h2=>?_⟩
    cases sA.mp h2
    obtain ⟨Q,r,⟨ys,t,r3⟩,M,L⟩:=R2.ow i _ p rfl
    rw [b] at r; cases r
    exact ⟨a,ys,kk,j,rfl,rfl,t,by rw [r3.length]; exact m,k _ _ _ (R2.updOwn p rfl b rfl ⟨_,zq,r3.set (h1.mono t2) j⟩) (t1.trans t2)⟩
  .cases d
end
@[simp] theorem MT   : Yj fj ρ=(fj ρ).bind λzs=>if (jn Ac zs).length<=sizeLine then some (.str (jn Ac zs)) else none:=rfl
@[simp] theorem NU  : Bv ρ=some []:=rfl
@[simp] theorem NY    : Gf z fj ρ=(fj ρ).bind λzs=>some (z :: zs):=rfl
@[simp] theorem NX    : B0 f fj ρ=(f ρ).bind λd=>(Ms d).bind λz=>(fj ρ).bind λzs=>some (z :: zs):=rfl
@[simp] theorem MP {i:Nat} {g f:FE} {ρ:aI}:jm i g f ρ=(f ρ).bind λy=>(g ρ).bind λx=>match ρ[i]?,x with
 | some (.ol ds),.int k=>(dI ds.length k).bind λj=>some (.nx (ρ.set i (.ol (ds.set j y))))
 | _,_=>none:=rfl
section
variable {K:sx} {C p dx l:Addr} {H Hf H' ao H2 aP:Hp} {hd wd:D} {ms:List D}
end
section
variable (gA gT gI gS:List D->Option D)
variable (gL:List D->Option D)
end
def Kr (x:y7 P w H h a o):∃ u,h.get? a=some u:=by
 cases o with
 | lst xs=>obtain ⟨_,_,_,_,e⟩:=x; exact ⟨_,e⟩
 | tup xs=>obtain ⟨_,_,_,⟨_,e,_⟩⟩:=x; exact ⟨_,e⟩
 | dK ar=>obtain ⟨_,_,_,_,o,_,_,e,_⟩:=x; exact ⟨_,e⟩
 | dT ar=>obtain ⟨_,_,_,_,o,_,_,e,_⟩:=x; exact ⟨_,e⟩
 | set S n=>obtain ⟨o,_,_,_,e,_⟩:=x; exact ⟨_,e⟩
 | ins C dx fs=>obtain ⟨_,_,_,e,_⟩:=x; exact ⟨_,e⟩
 | own y=>exact x
 | xd fs=>obtain ⟨_,⟨_,_,_,e,_⟩,_⟩:=x; exact ⟨_,e⟩
 | rng lo hi=>obtain ⟨_,_,_,e⟩:=x; exact ⟨_,e⟩
 | frz ob u=>obtain ⟨e,_⟩:=x; exact ⟨_,e⟩
 | tbl ps=>exact ⟨_,x⟩
 | met f y=>exact ⟨_,x⟩
 | ext φ=>obtain ⟨_,e,_⟩:=x; exact e
def Uy   {h h1 h2 B:Heap} (u:Un fs [] H H' h h1) (fr:∀ b∈fs,H b=none/\∀ o,h.get? b=some o->∀ vs,o.data≠.fields vs)
  (d:∀ b o,h.get? b=some o->b∉fs->∃ ob,B.get? b=some ob) (k1:B.StaysIn h1) (k2:B.StaysIn h2) (up:h1.UpToSlots h2):Un fs [] H H' h h2:=by
 have same:∀ b o o',h.get? b=some o'->b∉fs->h1.get? b=some o->h2.get? b=some o:=λb o o' q n e=>by
  obtain ⟨ob,z⟩:=d b o' q n
  have:=k1 b ob z
  rw [e] at this
  cases this
  exact k2 b _ z
 have c:∀ b o,h.get? b=some o->b∈fs->∃ sl,h2.get? b=some { o with slots:=sl }:=λb o q a=>by
  obtain ⟨n,nf⟩:=fr b a
  obtain ⟨s1,e1⟩:=u.slot b o q n a (by simp)
  obtain ⟨s2,e2⟩:=up b _ e1 λvs=>nf o q vs
  exact ⟨s2,e2⟩
 refine ⟨λb o q n a _=>same b o o q a (u.keep b o q n a (by simp)),λb o q _ a _=>c b o q a,λb o q n _=>u.free b o q n (by simp),λb o q _=>?_,u.tups,u.frzs,u.tbls⟩
 by_cases a:b∈fs
 .obtain ⟨sl,e⟩:=c b o q a
  exact ⟨_,e⟩
 .obtain ⟨o',e⟩:=u.there b o q (by simp)
  exact ⟨o',same b o' o q a e⟩
def Wu    {h1 h2 B:Heap} (k:cj P w H h1) (g:∀ b o,H b=some o->∃ ob,B.get? b=some ob) (k1:B.StaysIn h1) (k2:B.StaysIn h2):cj P w H h2:=λb o q=>by
 refine (k b o q).stay (λc u a e=>?_) (λ_ z=>z) λ_ _ z=>z
 have:∃ oc,H c=some oc:=by
  rcases a with z | z
  .subst z; exact ⟨_,q⟩
  .exact ⟨_,z⟩
 obtain ⟨oc,d⟩:=this
 obtain ⟨ob,z⟩:=g c oc d
 have:=k1 c ob z
 rw [e] at this
 cases this
 exact k2 c _ z
def Cv (a C:Addr) (h:Heap):Prop:=∃ o,h.get? a=some o/\o.cls=.ref C
abbrev pR (X:Cx) (e:Value):Cx:={ X with A:=X.A.mark (some e),calm:=false }
section
variable {X:Cx} {pins:List (Addr×Obj)} {σ:St} {H:Hp} {s:Shared} {e:Value}
def QI (I:Inv X pins σ H s):Inv (pR X e) pins σ H s :=
 ⟨⟨I.ok.mod,I.ok.kind,I.ok.glob,I.ok.blt,I.ok.above,I.ok.inj,I.ok.has,I.ok.cab,(λz=>by cases z),I.ok.frames,I.ok.stk,I.ok.exf,I.ok.bs,I.ok.bsz,I.ok.noex,I.ok.exfs,I.ok.funs,I.ok.frf⟩,I.os,I.bare,I.base,I.loc,I.cell,I.free,I.freeC,I.pin,I.hok,I.len⟩
def QF (hd:X.calm=true->X.A.handled=none) (I:Inv (pR X e) pins σ H s):Inv X pins σ H s :=
 ⟨⟨I.ok.mod,I.ok.kind,I.ok.glob,I.ok.blt,I.ok.above,I.ok.inj,I.ok.has,I.ok.cab,hd,I.ok.frames,I.ok.stk,I.ok.exf,I.ok.bs,I.ok.bsz,I.ok.noex,I.ok.exfs,I.ok.funs,I.ok.frf⟩,I.os,I.bare,I.base,I.loc,I.cell,I.free,I.freeC,I.pin,I.hok,I.len⟩
end
structure Catches (K:sx) (D C:Addr):Prop where
 ty:Ec K (.ref D)=some (.type "type")
 cls:AU K D=true
 exc:PySem.W.subIn K (.ref D) (.type "BaseException")=some true
 sub:PySem.W.subIn K (.ref C) (.ref D)=some true
def K2 {K:sx} {D C a:Addr} (c:Catches K D C) (X:K.In s.heap) (x:Cv a C s.heap) (h:Q true s) :
  sG M A (excMatches (.ref a) (.ref D)) Q E s:=by
 obtain ⟨hh,g,d,t,os⟩:=s
 obtain ⟨o,e,i⟩:=x
 have u:=PySem.W.looks_typeIn (M:=M) X c.ty
 have r:PySem.W.Looks M hh (isSubtype (.type "type") (.type "tuple")) false:=PySem.W.Looks.of_pure (by rw [isSubtype_type]; kernel_rfl)
 have p:=PySem.W.looks_subIn (M:=M) X c.exc
 have n:PySem.W.Looks M hh (typeOf (.ref a)) (.ref C):=i ▸ (PySem.W.Looks.ld e).andThen .now
 have m:=PySem.W.looks_subIn (M:=M) X c.sub
 have l:PySem.W.Looks M hh (isInstance (.ref D) (.type "tuple")) false:=u.andThen r
 have j:PySem.W.Looks M hh (isType (.ref D)) true:=by
  obtain ⟨cd,z,_⟩:=PySem.W.any_some c.cls
  unfold PySem.W.clsIn at z
  split at z
  .rename_i b
   intro y v w s' k q
   unfold isType loadHead
   exact ls (wpAny_loadPart (k _ _ (X _ _ b)) (su q))
  .cases z
 unfold excMatches isExcClass
 refine ls (l.at ?_)
 simp only [cM,if_false]
 refine ls (su ?_)
 simp only [List.forIn_cons,List.forIn_nil]
 refine ls (ls (ls (ls (j.at ?_))))
 rw [if_pos rfl]
 refine p.at ?_
 simp only [lM,cM,if_false]
 refine su (su (ls (n.at ?_)))
 refine ls (ls (ls (m.at ?_)))
 rw [if_pos rfl]
 refine su (su ?_)
 exact su h
def kC       {K:sx} {e D C:Addr} (c:Catches K D C) {wo:List ExceptHandler}
  (h:sG (sL prog w) (A.mark (some (.ref e))) (eval t env) (λc a=>c=.ref D/\K.In a.heap/\Cv e C a.heap ∧
   sG (sL prog w) (A.mark (some (.ref e))) (setFlight (.ref e) none) (λ_ d =>
     sG (sL prog w) (A.mark (some (.ref e))) (storeName env n (.ref e)) (λ_ b =>
      sG (sL prog w) (A.mark (some (.ref e))) (execs (g :: m) env)
       (λf l=>sG (sL prog w) A (do bindName env n .none; unbindBehindTheSuite env n pos) (λ_ i=>Q f i) E l)
       (λ_ _=>False) b) (λ_ _=>False) d) (λ_ _=>False) a) (λ_ _=>False) s) :
  sG (sL prog w) A (handleBy (.ref e) env (.ExceptHandler (some t) (some n) (g :: m) pos :: wo)) Q E s:=by
 refine wpAny_handleBy_cons (codeAny_handlers_test (sN h (λc a h₁=>?_) λ_ _ y=>y.elim)) (by intro q; cases q)
 obtain ⟨rfl,o,x,j⟩:=h₁
 refine K2 ‹_› o x (codeAny_handlers_suite_as ?_)
 refine sN j (λ_ d k2=>?_) λ_ _ y=>y.elim
 refine sN k2 (λ_ b k3=>?_) λ_ _ y=>y.elim
 exact sN k3 (λ_ _ z=>z) λ_ _ y=>y.elim
section
variable {X:Cx} {pins:List (Addr×Obj)} {σ:St} {H:Hp} {s:Shared}
def KU (I:Inv X pins σ H s) (L:X.N.Nodup) (hi:X.N[i]? = some n) (w:s.heap.Ns X.env.locals m) (B:h'.Ns X.env.locals (λy=>if y=n then u else m y))
  (a:Heap.SameBut X.env.locals s.heap h'):Inv X pins (σ.set i none) H { s with heap:=h',toks:=t' }:=by
 have M:i < σ.length:=by rw [I.len]; exact (gE.mp hi).1
 obtain ⟨F,E,J⟩:=id I.loc
 obtain ⟨P,_,_,O,_⟩:=id w
 have em:∀ y,F y=m y:=λy=>by rw [E.eq_nsMap,<- w.eq_nsMap]
 refine ⟨I.ok,I.os,I.bare,⟨λb o e n r g=>?_,λb o e n r g=>?_,I.base.free,λb o e g=>?_,I.base.tups,I.base.frzs,I.base.tbls⟩,⟨_,B,λj y x e1 e2 N=>?_⟩,λy c e=>?_,I.free,I.freeC,λp G=>?_,λb ob e=>?_,by simpa using I.len⟩
 .exact (a.2 b (cb (dY (sE e) I.ok.above))).trans (I.base.keep b o e n r g)
 .obtain ⟨sl,e1⟩:=I.base.slot b o e n r g
  exact ⟨sl,(a.2 b (cb (dY (sE e) I.ok.above))).trans e1⟩
 .obtain ⟨o',e1⟩:=I.base.there b o e g
  exact ⟨o',(a.2 b (cb (dY (sE e) I.ok.above))).trans e1⟩
 .by_cases l:j=i
  .subst l
   rw [oZ M] at e2
   cases e2
  .rw [lP (tZ l)] at e2
   obtain ⟨A,C,q⟩:=J j y x e1 e2 N
   refine ⟨A,C,?_⟩
   rcases q with ⟨k,e⟩ | ⟨k,c,e,z⟩
   .refine .inl ⟨k,?_⟩
    have:y≠n:=λe=>l (Yb L e1 (e ▸ hi))
    rw [em] at e
    simp [this,e]
   .exact .inr ⟨k,c,e,z.sameBut a (I.cne y c e)⟩
 .obtain ⟨t,z⟩:=I.cell y c e
  exact ⟨t,z.sameBut a (I.cne y c e)⟩
 .obtain ⟨e,n,v,nf,d⟩:=I.pin p G
  exact ⟨(a.2 p.1 v).trans e,n,v,nf,d⟩
 .refine (I.hok b ob e).stay (λc t h q=>(a.2 c ?_).trans q) (λ_ q=>q) λ_ _ q=>q
  intro z
  subst z
  have f:=I.free
  rcases h with h | h
  .rw [h,e] at f; cases f
  .rw [h] at f; cases f
def Qo (I:Inv X pins σ H s) (d:X.N.Nodup) (hi:X.N[i]? = some n) (a:X.env.scope.names.lookup n=some .local)
  (h:∀ s',Inv X pins (σ.set i none) H s'->Q () s'):sG M A (do bindName X.env n .none; unbindBehindTheSuite X.env n pos) Q E s:=by
 have o:(X.env.scope.kind==.class||(X.env.scope.kind==.module&&X.env.locals != X.env.globals))=false:=by rw [I.ok.kind]; rfl
 refine ls (wpAny_bindName (uP (v:=.non) I d hi (.inl a) rfl (λs1 g=>?_) (.inr a)))
 obtain ⟨m,c,l⟩:=id g.loc
 have q:i < σ.length:=by rw [I.len]; exact (gE.mp hi).1
 obtain ⟨u,r,lk⟩:=l i n .non hi (oZ q) (.inl a)
 have p:m n=some u:=by
  rcases lk with z | ⟨z,_⟩
  .exact z.2
  .have:X.env.kindOf n=some .local:=a
   rcases z with z | z <;> (rw [this] at z; cases z)
 unfold unbindBehindTheSuite
 refine Et (wpAny_unbindName_local a c p o λh' t j b=>?_)
 have J:=KU (t':=s1.toks) g d hi c j b
 rw [List.set_set] at J
 exact h _ J
end
end FL
namespace FL
open PySem PySem.Spec PySem.Calls PyProof.Rows L2
structure ExcCls (K:sx) (C:Addr):Prop where
 ga:Aq K (.ref C) "__getattribute__"=some (some (.builtin "BaseException.__getattribute__"))
 gh:Aq K (.ref C) "__getattr__"=some none
 ca:Aq K (.ref C) "__class__"=some (some (.builtin "object.__class__"))
 gt:El K (.builtin "object.__class__") "__get__"=some (some (.builtin "getset_descriptor.__get__"))
 tk:PySem.W.takesIn K (.builtin "object.__class__")=some true
 ob:Eu K C (.type "object")=some true
 be:Eu K C (.type "BaseException")=some true
 cl:AU K C=true
section
variable {prog:sH} {w:sU} {A:Around} {E:Value->Shared->Prop} {s:Shared} {K:sx} {a C:Addr}
def WB (x:Cv a C h):PySem.W.Looks M h (typeOf (.ref a)) (.ref C):=by
 obtain ⟨o,e,c⟩:=x
 exact c ▸ (PySem.W.Looks.ld e).andThen .now
open PySem.W PySem.Builtin PySem.Builtin.ObjectAttr PySem.Builtin.Getset_descriptor in
def FN (c:ExcCls K C) (X:K.In s.heap) (x:Cv a C s.heap) (h:R (.ok (.ret (.ref C))) s) :
  codeAny (sL prog w) A (.call (.builtin "getset_descriptor.__get__") ⟨[.builtin "object.__class__",.ref a,tp],[]⟩) R s:=by
 obtain ⟨hh,g,b,t,os⟩:=s
 have e:=WB (M:=sL prog w) x
 have d:=PySem.W.looks_mroIn (M:=sL prog w) X c.ob
 refine AB KF.slot_gs.plain KF.entry_gs (KF.slot_gs.check _ _ _ _ _ _ _ _ KF.type_class (KF.args_gs _ _ _) ?_)
 unfold Builtin.«getset_descriptor.__get__» descrGet
 rw [dga_obj]
 refine ls (su ?_)
 unfold descrGetter descrCheckInstance descrNameAndClass isInstance
 simp only [KF.owner_class]
 repeat lk
 refine ⟨Code.quiet_builtin _ (by decide +kernel),codeAny_builtin KF.entry_class ?_⟩
 unfold Builtin.«object.__class__» shownTypeOf
 repeat lk
 exact h
open PySem.W PySem.Builtin PySem.Builtin.ObjectAttr PySem.Builtin.Getset_descriptor in
def B2 (c:ExcCls K C) (X:K.In h):Looks M h (find (.ref a) (.ref C) "__class__") (.bind (.builtin "getset_descriptor.__get__") (.builtin "object.__class__")):=by
 have e:=D_ (M:=M) X c.ca
 have d:=looks_specialIn (M:=M) X c.gt
 have b:=looks_takesIn (M:=M) X c.tk
 unfold find
 refine e.andThen (d.andThen ?_)
 refine Looks.andThen (a:=some (.builtin "getset_descriptor.__get__",.builtin "object.__class__")) (b.andThen .now) ?_
 exact Looks.tag .now
open PySem.W PySem.Builtin PySem.Builtin.ObjectAttr PySem.Builtin.Getset_descriptor in
def FO (c:ExcCls K C) (X:K.In s.heap) (x:Cv a C s.heap) (h:Q (some (.ref C)) { s with toks:=s.toks+1 }):sG (sL prog w) A (getAttr? (.ref a) "__class__") Q E s:=by
 obtain ⟨hh,g,d,t,os⟩:=s
 have e:=WB (M:=sL prog w) x
 have o:=D_ (M:=sL prog w) X c.ga
 have n:=D_ (M:=sL prog w) X c.gh
 unfold getAttr? getAttrBy? getAttrBy
 refine ls (wpAny_mkText (ls (A1 (tQ (ls (e.at (ls (o.at ?_))))))))
 show sG _ _ (getAttrByItsOwn (.ref a) _ (.ref C) (.builtin "BaseException.__getattribute__") false false) _ _ _
 unfold getAttrByItsOwn
 refine ls ?_
 refine n.at ?_
 refine ls (A1 (tQ ?_))
 show sG _ _ (boundAndCalled (.builtin "BaseException.__getattribute__") (.ref a) _) _ _ _
 unfold boundAndCalled
 rw [F.excAttr_ValueError.ga.bind]
 refine ls (su ?_)
 have l:=B2 (a:=a) (M:=sL prog w) c X
 have m:=looks_mroIn (M:=sL prog w) X c.be
 refine Ee (AB F.excAttr_ValueError.ga.plain F.entry_bexc_ga ?_)
 have i:builtinKind "BaseException.__getattribute__"=some .slot:=by decide +kernel
 have f:splitId "BaseException.__getattribute__"=some ("BaseException","__getattribute__"):=by decide +kernel
 have j:=F.args_bexc_ga (.ref a) (Value.str (sX "__class__") t)
 simp only [checkBuiltinCall,i,f]
 refine ls ((e.andThen m).at ?_)
 rw [if_neg (by decide)]
 have b:=j
 unfold argsOk at b
 refine (congrArg (λz=>sG (sL prog w) A.in1 z _ _ _) b).mpr ?_
 refine su ?_
 unfold Builtin.«object.__getattribute__»
 refine ls (su (ls (su (ls (e.at (ls (l.at ?_)))))))
 show sG _ _ (holding [.builtin "object.__class__"] (call (.builtin "getset_descriptor.__get__") [.builtin "object.__class__",.ref a,.ref C]) >>= ret) _ _ _
 refine ls (tQ (Ee (FN (s:=⟨hh,g,d,t+1,os⟩) c X x ?_)))
 exact su (handed_on rfl (su h))
open PySem.W in
def Yf (c:ExcCls K C):KitX K (.ref a) (.ref C) (Cv a C) where
 ty:=λ_ _ _ x=>WB x
 it:=λ_ _ X _=>by
  obtain ⟨g,b,_⟩:=any_some c.cl
  unfold clsIn at b
  split at b
  .rename_i f
   intro l i j s' k q
   unfold isType loadHead
   exact ls (wpAny_loadPart (k _ _ (X _ _ f)) (su q))
  .cases b
 ne:=λh tp dd ah n sl X d=>by
  obtain ⟨g,b,_⟩:=any_some c.cl
  refine Bool.eq_false_iff.mpr λq=>?_
  have e:C=tp:=sT.inj (beq_iff_eq.mp q)
  subst e
  unfold clsIn at b
  split at b
  .rename_i f
   have z:=(X _ _ f).symm.trans d
   cases z
  .cases b
 ca:=λX x k=>FO c X x k
end
theorem YN:∀ {a:List Addr} {us:List Value},yx (a.map V.ref) us->us=a.map sT
 | [],_,.nil=>rfl
 | c :: r,_,.cons h t=>by rw [YN t]; cases h; rfl
end FL
namespace FL
open PySem PySem.Spec PyProof.Rows L2
inductive OutX where
 | o (x:Out)
 | ex (n:Str)
abbrev FSX:=aI->Option OutX
section
variable {X:Cx} {E:XK} {c tg iter:Expr} {fi:FA} {ft:FT} {pos:Pos} {st:Stmt} {iD wo body:List Stmt} {F:FS} {G G1 G2 B:FSX} {γ:FG}
end
abbrev NN:List Value:=[.type "ValueError",.type "Exception",.type "BaseException",.type "object"]
inductive RX where
 | v (d:D)
 | ex (n:Str)
section
variable {mg:Str->Option Value} {K:sx} {n:Nat} {g:List D->Option RX} {vs:List V} {H Hf:Hp} {Q:VK} {E:XK} {ds:List D}
end
section
variable {X:Cx} {o e:Expr} {f g:FE} {kk:Nat}
end
section
variable {X:Cx} {o e:Expr} {f g:FE} {kk:Nat}
end
section
variable {prog:sH} {w:sU} {A:Around} {E:Value->Shared->Prop} {s:Shared} {l:Addr} {xs:Array (Int×Tok)}
end
section
variable {X:Cx}
end
section
variable {X:Cx} {kk:Nat}
end
def Rep.dropAt {K:sx} (R:Rep K H₀ aa σ ρ H Hf) (i) (x:Option V):Rep K H₀ aa (σ.set i x) (ρ.set i .no) H Hf:=by
 have no:∀ (j:Nat) (sl:Slot),(ρ.set i .no)[j]? = some sl->sl≠.no->i≠j/\ρ[j]? = some sl:=λj sl e l=>by
  by_cases c:i=j
  .subst c
   rw [f_] at e
   rw [if_pos rfl] at e
   split at e
   .cases e; exact absurd rfl l
   .cases e
  .rw [lP c] at e
   exact ⟨c,e⟩
 have b:∀ sl:Slot,sl.own=true->sl≠.no:=λsl o z=>by subst z; cases o
 refine ⟨R.s0,R.sf,R.nf,R.f0,by simp [R.len],λj d e=>?_,λj sl e o=>?_,λj h sl cX a e o f o' q g=>?_⟩
 .obtain ⟨c,e⟩:=no j _ e (by simp)
  rw [lP c]
  exact R.fr j d e
 .obtain ⟨c,e⟩:=no j _ e (b sl o)
  rw [lP c]
  exact R.ow j sl e o
 .obtain ⟨c,e⟩:=no j _ e (b sl o)
  obtain ⟨m,f⟩:=no h _ f (b cX o')
  rw [lP c] at q
  rw [lP m] at g
  exact R.inj j h sl cX a e o f o' q g
section
variable {X:Cx} {pins:List (Addr×Obj)} {σ:St} {H:Hp} {s:Shared} {A:Around}
end
theorem kq:∀ {ds:List D} {r:List Int},x9 ds=some r->ds=r.map D.int
 | [],r,h=>by cases h; rfl
 | d :: ds,r,h=>by
  cases d with
  | int b =>
   obtain ⟨a,e,rfl⟩:=fb.mp (show (x9 ds).map (b :: ·)=some r from h)
   rw [kq e]
   rfl
  | _=>cases h
section
variable {X:Cx} {e:Expr} {pos:Pos}
end
def Qs (o:Obj):Bool:=match o.cls with
 | .type t=>t=="list"
 | _=>false
def Kv (K:sx):Bool:=K.all λp => !Qs p.2
def Qk {K:sx} (h:Kv K=true) (e:K.lookup a=some o):o.cls≠.type "list":=by
 have:∀ l:List (Addr×Obj),(l.all λp => !Qs p.2)=true->l.lookup a=some o->o.cls≠.type "list":=by
  intro l
  induction l with
  | nil=>intro _ e; cases e
  | cons p l d =>
   intro c e
   rw [List.all_cons,du] at c
   obtain ⟨b,q⟩:=p
   rw [gu] at e
   split at e
   .cases e
    intro z
    have:=c.1
    unfold Qs at this
    rw [z] at this
    cases this
   .exact d c.2 e
 exact this K h e
open PySem.AutoSeq1 (wpAny_loadPart')
def ki (l) (items:Array Value) (n:Nat) (b:Addr) (a:Array Value) (f:Nat) (p:Array (Option Value)) (j:¬(!items.isEmpty&&Ag (items.size+a.size))=true) (c:items.size<=sizeLine) (o:items.size+a.size<=sizeLine+1) :
  Meets (Builtin.«list.extend» ⟨[.ref l,.ref b],[]⟩) (λ_ R s=>s.heap.get? l=some { cls:=.type "list",dict:=none,data:=.seq items n,slots := #[] }/\s.heap.get? b=some { cls:=.type "list",dict:=none,data:=.seq a f,slots:=p }/\R (.ok (.ret tj)) { s with heap:=s.heap.update l (t_ λx=>x++a),toks:=s.toks }) :=
 .of_wp λprog w A R s h=>by
  obtain ⟨q,g,d,tk,os⟩:=s; obtain ⟨e,m,h⟩:=h
  have f2:=AutoSeq1.sub_tuple_tuple
  have u:=AutoSeq1.sub_list_list
  have t:=AutoSeq1.sub_tuple_list
  have r:=AutoSeq1.sub_list_tuple
  have i:(items++a).size<=sizeLine+1:=by rw [Array.size_append]; exact o
  wp_walk using (wpAny_updateSeq e rfl (hz:=c) (_hz':=i)),s_ e,s_ m
  exact ⟨_,rfl,h⟩
section
variable {X:Cx} {e:Expr} {f g:FE} {pos:Pos}
def J8 (K:sx):V->List V->Hp->VK->Prop:=λx vs H Q=>∃ l b xs zs,x=.ref l/\vs=[.ref b]/\H l=some (.lst xs)/\aZ K H b zs/\xs.length+zs.length<=sizeLine/\Q .non (upd H l (.lst (xs++zs)))
def V2:MtM X "list.extend" (J8 X.K):=by
 intro pins s σ H x vs v us Q I p t h
 obtain ⟨l,b,xs,zs,rfl,rfl,j,C,hz,q⟩:=h
 cases p
 obtain ⟨u,rfl,w⟩:=t.one
 cases w
 obtain ⟨z,ah,n,r,J,e⟩:=I.lstM j
 obtain ⟨a,i,⟨A,B,e2,o,m,s2⟩,z2⟩:=I.list C
 have L:=i.length
 obtain ⟨G,d,data2,E⟩:=A
 dsimp only at o m s2
 subst o m s2
 have c:ah.toArray.size+a.toArray.size<=sizeLine:=by rw [cx,cx]; omega
 have y:¬ (!ah.toArray.isEmpty&&Ag (ah.toArray.size+a.toArray.size))=true:=by
  rw [Kt c,Bool.and_false]
  exact ny
 refine call_meets F.slot_list_extend ⟨_,e,rfl⟩ F.entry_list_extend (F.args_list_extend_2 _ _)
  (ki l ah.toArray n b a.toArray B E y (by rw [cx]; omega) (by omega)) ⟨e,e2,?_⟩
 refine ⟨.non,_,I.lset (its':=ah++a) j e (by simp) (r.append i) ?_,rfl,q⟩
 rw [bX]
 omega
def vU (i:Nat) (f:FE):FS:=λρ=>(f ρ).bind λd=>match d,ρ[i]? with
 | .lst zs,some (.ol ds)=>if ds.length+zs.length<=sizeLine then some (.nx (ρ.set i (.ol (ds++zs)))) else none
 | _,_=>none
@[simp] theorem uW {i:Nat} {ρ:aI}:vU i f ρ=(f ρ).bind λd=>match d,ρ[i]? with
 | .lst zs,some (.ol ds)=>if ds.length+zs.length<=sizeLine then some (.nx (ρ.set i (.ol (ds++zs)))) else none
 | _,_=>none:=rfl
set_option tactic.hygienic true in
def vV (i) (C:DE X e f) (E:X.N[i]? = some x:=by rfl) (A:iu X.env.scope x:=by first | exact Aw rfl | exact Ab (Aw rfl) | exact Ab (Ab rfl))
  (hd:(x==("__debug__":Str))=false:=by decide) (m:(x==("__classdict__":Str))=false:=by decide)
  (j:Ad (.Name x c) "extend" X.env (eval (.Name x c) X.env)=eval (.Name x c) X.env:=by rfl)
  (l:((tV aA (sC [e] X.env)).all (λx => !x.1)&&(backToKw aA (A9 [] X.env)).all (λx=>x.1.isSome)
   && decide (([e]:List Expr).length+([]:List A7).length+(if ([]:List A7).isEmpty then 0 else 1) < 30))=true:=by rfl)
  (h:(apos.endLine==aA.line)=true:=by rfl) (t:sC [e] X.env=(false,eval e X.env) :: sC [] X.env:=by rfl) (F:(tV aA (sC [] X.env)).any (·.1)=false:=by rfl)
  (B:As (.Call (.Attribute (.Name x c) "extend" apos) [e] [] aA) none pos.line X.env=pure false:=by rfl) :
  DS X (.Expr (.Call (.Attribute (.Name x c) "extend" apos) [e] [] aA) pos) (vU i f) :=
 y8 (qI (U8 Al PySem.F.slot_list_extend PySem.F.type_list_extend V2 (u4 E A hd m) (zN C yE t) j l h t F) B) λD' σ H u=>by
  obtain ⟨H₀,aa,ρ,Hf,o,R,q,k⟩:=u
  obtain ⟨d,e1,e2⟩:=zM q
  split at e2
  .rename_i N zs ds n
   split at e2
   .rename_i hz
    cases e2
    obtain ⟨a,c,⟨xs,p2,M⟩,L,J⟩:=R.ow i _ n rfl
    refine ⟨_,c,.inl ⟨rfl,xs,aZ.of p2⟩,H₀,aa,ρ,Hf,_,R,e1,λv H1 O p s1 t1 h1=>?_⟩
    obtain ⟨P,r,⟨ys,y,r3⟩,I,G⟩:=p.ow i _ n rfl
    rw [c] at r; cases r
    obtain ⟨b,w,rfl,z,s⟩:=sO.mp h1
    refine ⟨a,b,ys,w,rfl,rfl,y,p.sf.seq z,by rw [r3.length,s.length]; exact hz,?_⟩
    exact k _ _ _ (p.updOwn n rfl c rfl ⟨_,zq,r3.append s⟩) t1
   .cases e2
  .cases e2
def Mg (f g:FE):FA:=λρ=>(f ρ).bind λx=>(g ρ).bind λy=>match x,y with
 | .lst xs,.lst ys=>if xs.length+ys.length<=sizeLine then some (xs++ys) else none
 | _,_=>none
@[simp] theorem C7 {ρ:aI}:Mg f g ρ=(f ρ).bind λx=>(g ρ).bind λy=>match x,y with
 | .lst xs,.lst ys=>if xs.length+ys.length<=sizeLine then some (xs++ys) else none
 | _,_=>none:=rfl
def Ca (r:DR X a f) (o:DR X b g):DN X (.BinOp a .Add b pos) (Mg f g) :=
 yi (Ba Vf r o) λσ H Q l=>by
  obtain ⟨H₀,aa,ρ,Hf,d,R,q,k⟩:=l
  obtain ⟨x,y,e1,e2,c⟩:=uo q
  refine ⟨H₀,aa,ρ,Hf,x,R,e1,λv H1 t u s1 t1 h1=>⟨H₀,aa,ρ,t,y,u,e2,λw H2 aP R2 s2 t2 h2=>?_⟩⟩
  have s:=h1.mono t2
  split at c
  .split at c
   .rename_i hz
    cases c
    obtain ⟨a,xs,rfl,n,j⟩:=s.lst R2
    obtain ⟨b,ys,rfl,m,i⟩:=h2.lst R2
    refine ⟨a,b,xs,ys,rfl,rfl,n,m,by rw [j.length,i.length]; exact hz,λp h=>?_⟩
    exact k _ _ _ _ (R2.layN h) ((s1.trans s2).trans (zA h)) (t1.trans t2) (j.append i) zq (R2.sf.free h) ((s1.trans s2).free h)
   .cases c
  .cases c
def Jk:xm X (.type "range") (λxs H Q=>∃ j,xs=[.int j]/\∀ p,H p=none->Q (.ref p) (upd H p (.rng 0 j))):=by
 intro pins s σ H xs us Q I r h
 obtain ⟨j,rfl,q⟩:=h
 obtain ⟨u,rfl,t,rfl⟩:=ur r
 refine call_range_1 ⟨.ref s.heap.objs.size,_,I.laid (t':=s.toks+1+1) (o:=.rng 0 j) (λb ob q=>mo _ q) (aU _) ⟨_,_,_,sF _ rfl⟩,rfl,q _ (I.hok.fresh (aU _))⟩
def Jj:xm X (.type "range") (λxs H Q=>∃ i j,xs=[.int i,.int j]/\∀ p,H p=none->Q (.ref p) (upd H p (.rng i j))):=by
 intro pins s σ H xs us Q I r h
 obtain ⟨i,j,rfl,q⟩:=h
 obtain ⟨u,a,rfl,⟨t,rfl⟩,⟨t',rfl⟩⟩:=JF r
 refine call_range_2 ⟨.ref s.heap.objs.size,_,I.laid (t':=s.toks+1) (o:=.rng i j) (λb ob q=>mo _ q) (aU _) ⟨_,_,_,sF _ rfl⟩,rfl,q _ (I.hok.fresh (aU _))⟩
def ZK {lo:Int}:∀ n ah,ah.length=n->(∀ (j:Nat) v,ah[j]? = some v->∃ t,v=.int (lo+(j:Int)) t)->yx ((aV n).map λ(k:Nat)=>V.int (lo+(k:Int))) ah:=by
 intro n
 induction n generalizing lo with
 | zero =>
  intro ah a _
  rw [g2g a]
  exact .nil
 | succ n b =>
  intro ah a h
  cases ah with
  | nil=>simp at a
  | cons v ah =>
   rw [EG,aH,cN]
   obtain ⟨t,rfl⟩:=h 0 v rfl
   refine .cons ⟨t,rfl⟩ ?_
   have:=b (lo:=lo+1) ah (by simpa using a) λj w e=>by
    obtain ⟨t,rfl⟩:=h (j+1) w (by simpa using e)
    exact ⟨t,by congr 1; omega⟩
   have e:((λk:Nat=>V.int (lo+(k:Int))) ∘ Nat.succ)=λk:Nat=>V.int (lo+1+(k:Int)):=by
    funext k
    simp only [Function.comp]
    congr 1
    omega
   rw [e]
   exact this
def qu (x:X.calm=true):xm X (.type "list") (λxs H Q=>∃ (p:Addr) (lo hi:Int),xs=[.ref p]/\H p=some (.rng lo hi)/\(-(2 ^ 62)<=lo/\lo < 2 ^ 62 /\ -(2 ^ 62)<=hi/\hi < 2 ^ 62)/\(hi - lo).toNat<=1000000 ∧
  ∀ l,H l=none->Q (.ref l) (upd H l (.lst ((aV (hi - lo).toNat).map λ(k:Nat)=>V.int (lo+(k:Int)))))):=by
 intro pins s σ H xs us Q I r h
 obtain ⟨p,lo,hi,rfl,m,⟨h1,h2,z,y⟩,F,q⟩:=h
 obtain ⟨u,rfl,c⟩:=ur r
 cases c
 obtain ⟨t,u,v,e⟩:=I.hok p _ m
 have E:sizeLine=16777216:=Av
 refine call_list_range (n:=(hi - lo).toNat) (I.ok.hd x) (show IsRange s.heap p lo hi 1 t u v from e) (small_one h1 h2 z y) (by rw [rangeSize_one]; split <;> omega) (by omega) λh' tk a C kp es B=>?_
 obtain ⟨i,d⟩:=B
 have b:yx ((aV (hi - lo).toNat).map λ(k:Nat)=>V.int (lo+(k:Int))) a.toList:=ZK _ _ (by simpa using i) λj w A=>by
  obtain ⟨t,rfl⟩:=d j w (by simpa using A)
  exact ⟨t,by congr 1; omega⟩
 refine ⟨.ref s.heap.objs.size,_,I.laid (t':=tk) (o:=.lst _) kp (aU _) ⟨by rw [aC,gD]; omega,a.toList,C,b,by simpa using es⟩,rfl,q _ (I.hok.fresh (aU _))⟩
def Vs {K:sx} (lo hi):zB K H (yt lo hi) ((aV (hi - lo).toNat).map λ(k:Nat)=>V.int (lo+(k:Int))):=by
 unfold yt
 induction (aV (hi - lo).toNat) with
 | nil=>exact .nil
 | cons k l a=>exact .cons (sA.mpr rfl) a
def uJ:u_ "range"=some (.type "range"):=boot_range
noncomputable def J0 (fa:FA):FA:=λρ=>(fa ρ).bind λl=>match l with
 | [.int j]=>if -(2 ^ 62)<=j/\j<=1000000 then some (yt 0 j) else none
 | _=>none
noncomputable def Z6 (fa:FA):FA:=λρ=>(fa ρ).bind λl=>match l with
 | [.int i,.int j]=>if (-(2 ^ 62)<=i/\i < 2 ^ 62 /\ -(2 ^ 62)<=j/\j < 2 ^ 62)/\(j - i).toNat<=1000000 then some (yt i j) else none
 | _=>none
set_option tactic.hygienic true in
def Xy (y:X.calm=true) (x:Gl X "list") (w:X.mg "list"=none) (t:Gl X "range") (s:X.mg "range"=none) (z:fN X [a] fa)
  (n:sC [.Call (.Name "range" p2) [a] [] i] X.env=(false,eval (.Call (.Name "range" p2) [a] [] i) X.env) :: sC [] X.env:=by rfl) (c:(tV pos (sC [] X.env)).any (·.1)=false:=by rfl)
  (h:sC [a] X.env=(false,eval a X.env) :: sC [] X.env:=by rfl) (A:(tV i (sC [] X.env)).any (·.1)=false:=by rfl) :
  DN X (.Call (.Name "list" p) [.Call (.Name "range" p2) [a] [] i] [] pos) (J0 fa) :=
 yi (xQ (T:="list") (qu y) x w (by rfl) (zN (xQ (T:="range") Jk t s uJ z (by decide) (by decide) h A) yE n) (by decide) (by decide) n c) λσ H Q r=>by
  obtain ⟨H₀,aa,ρ,Hf,d,R,q,k⟩:=r
  obtain ⟨l,e1,e2⟩:=z8 q
  refine ⟨H₀,aa,ρ,Hf,l,R,e1,λvs H1 F B s1 t1 h1=>?_⟩
  split at e2
  .rename_i j
   split at e2
   .rename_i E
    cases e2
    obtain ⟨v,rfl,u⟩:=uw.one h1
    refine ⟨j,by rw [u.int],λp m=>?_⟩
    refine ⟨p,0,j,rfl,zq,⟨by omega,by omega,by omega,by omega⟩,by omega,λC b=>?_⟩
    have s2:zV H1 (upd H1 p (.rng 0 j)):=zA m
    have R2:=B.layN (o:=.rng 0 j) m
    exact k _ _ _ _ (R2.layN b) ((s1.trans s2).trans (zA b)) t1 (Vs 0 j) zq (R2.sf.free b) ((s1.trans s2).free b)
   .cases e2
  .cases e2
set_option tactic.hygienic true in
def kL (C:X.calm=true) (B:Gl X "list") (A:X.mg "list"=none) (x:Gl X "range") (w:X.mg "range"=none) (E:fN X [a,b] fa)
  (t:sC [.Call (.Name "range" p2) [a,b] [] n] X.env=(false,eval (.Call (.Name "range" p2) [a,b] [] n) X.env) :: sC [] X.env:=by rfl) (h:(tV pos (sC [] X.env)).any (·.1)=false:=by rfl)
  (m:sC [a,b] X.env=(false,eval a X.env) :: sC [b] X.env:=by rfl) (F:(tV n (sC [b] X.env)).any (·.1)=false:=by rfl) :
  DN X (.Call (.Name "list" p) [.Call (.Name "range" p2) [a,b] [] n] [] pos) (Z6 fa) :=
 yi (xQ (T:="list") (qu C) B A (by rfl) (zN (xQ (T:="range") Jj x w uJ E (by decide) (by decide) m F) yE t) (by decide) (by decide) t h) λσ H Q u=>by
  obtain ⟨H₀,aa,ρ,Hf,d,R,q,k⟩:=u
  obtain ⟨l,e1,e2⟩:=z8 q
  refine ⟨H₀,aa,ρ,Hf,l,R,e1,λvs H1 L G s1 t1 h1=>?_⟩
  split at e2
  .rename_i i j
   split at e2
   .rename_i s
    cases e2
    obtain ⟨v,I,rfl,z,y⟩:=uw.two h1
    refine ⟨i,j,by rw [z.int,y.int],λp r=>?_⟩
    refine ⟨p,i,j,rfl,zq,s.1,s.2,λJ c=>?_⟩
    have s2:zV H1 (upd H1 p (.rng i j)):=zA r
    have R2:=G.layN (o:=.rng i j) r
    exact k _ _ _ _ (R2.layN c) ((s1.trans s2).trans (zA c)) t1 (Vs i j) zq (R2.sf.free c) ((s1.trans s2).free c)
   .cases e2
  .cases e2
end
theorem kr   : ∀ {ks:List Int} {ah:List Value},yx (ks.map V.int) ah->ItemsAre (intKind P w) ks ah
 | [],_,h=>by cases h; exact .nil
 | k :: ks,_,h=>by
  cases h with
  | cons h1 h2 =>
   obtain ⟨t,rfl⟩:=h1
   exact .cons (by show Value.isInt k (.int k t)=true; simp [Value.isInt]) (kr h2)
structure GDictT (K:sx) (mg:Str->Option Value) (x:Str) (ar:List (List Int×D)):Prop where
 ex:∃ (a:Addr) (o:Obj) (es:Array Eg) (ep:Nat) (xs:List (List Int×Addr×Value)),mg x=some (.ref a)/\K.lookup a=some o/\o.ExactDict/\o.data=.dict es ep/\(a==x_)=false/\(∀ P w,es.toList=xs.map (entryOfKey (A3 (intKind P w)))) ∧
  (∀ p∈xs,∃ (o:Obj) (ah:Array Value) (n:Nat),K.lookup p.2.1=some o/\o.cls=.type "tuple"/\o.data=.seq ah n/\yx (p.1.map V.int) ah.toList)/\(xs.map (·.1)).Nodup ∧
  ∀ ns,(∃ d u v,ar.lookup ns=some d/\(atKey xs ns).map (·.2)=some u/\yJ v u/\af K (λ_=>none) d v)\/(ar.lookup ns=none/\(atKey xs ns).map (·.2)=none)
def FC (ar:List (List Int×D)):D->D->Option D
 | .tup ds,d=>(x9 ds).map λns=>(ar.lookup ns).getD d
 | _,_=>none
section
variable {X:Cx} {e e2:Expr} {f g:FE} {kk:Nat}
def F7 (hr:Room kk X.A) (hg:Gl X x) (hm:GDictT X.K X.mg x ar) (he:DE X e f) (hf:DE X e2 g) (m:M2 X (.Name x p) "get" apos e e2 aA:=by exact ⟨rfl,rfl,rfl,rfl⟩) (hd:(x==("__debug__":Str))=false:=by decide) :
  DE X (.Call (.Attribute (.Name x p) "get" apos) [e,e2] [] aA) (zd (FC ar) f g):=by
 obtain ⟨a,o,es,ep,xs,h1,h2,A,h4,h5,h6,h7,h8,h9⟩:=hm.ex
 intro pins s σ H Q I h
 obtain ⟨H₀,aa,ρ,Hf,d,R,q,k⟩:=h
 obtain ⟨dx,dy,e1,e2,C⟩:=uo q
 unfold FC at C
 split at C
 .rename_i ds
  obtain ⟨ns,en,rfl⟩:=fb.mp C
  refine wpAny_Call_method m.base m.few m.line PySem.F.plainAttrs_dict PySem.F.slot_dict_get PySem.F.type_dict_get (thn (wU (v:=.ref a) hg h1 rfl hd pins s σ H (λx H1=>x=.ref a/\H1=H) I ⟨rfl,rfl⟩) λu0 s1 i=>?_)
  obtain ⟨x,H1,W,rx,ex,eH⟩:=i
  subst ex eH
  cases rx
  have T:=W.kIn a o h2
  refine ⟨⟨o,T,A.1⟩,λb q=>by cases q; exact ⟨o,T,A.2.1⟩,?_⟩
  rw [m.trees]
  refine AR rfl (Calls.evalArgs_plain (AH (thn (he pins s1 σ H1 (λy H2=>∃ aP,Rep X.K H₀ aa σ ρ H2 aP/\zV H1 H2/\zV Hf aP/\af X.K aP (.tup ds) y) W ⟨H₀,aa,ρ,Hf,_,R,e1,λv H1 N O s1 t1 h1=>⟨N,O,s1,t1,h1⟩⟩) λiv s2 i=>?_)))
  obtain ⟨y,H2,I2,Z,aP,R2,U,t2,hy⟩:=i
  refine AH (thn (hf pins s2 σ H2 (λz c=>∃ B,Rep X.K H₀ aa σ ρ c B/\zV H2 c/\zV aP B/\af X.K B dy z) I2 ⟨H₀,aa,ρ,aP,_,R2,e2,λv H1 N O s1 t1 h1=>⟨N,O,s1,t1,h1⟩⟩) λfv P i=>Calls.spliced_nil ?_)
  obtain ⟨z,c,t,Y,B,E,S,F,hz⟩:=i
  obtain ⟨b,vs,rfl,qb,lb⟩:=sQ.mp (hy.mono F)
  have ev:=lb.intsV en
  subst ev
  cases Z
  have G:bJ X.K c b (ns.map V.int):=by
   rcases qb with (w | ⟨o',w⟩) | w
   .exact .inl (.inl (E.sf _ _ w))
   .exact .inl (.inr ⟨o',E.sf _ _ w⟩)
   .exact .inr w
  obtain ⟨ah,rv,⟨ob,ho,hc,n,M⟩,_⟩:=t.tuple G
  have r:=t.kIn a o h2
  have key:(A3 (intKind X.prog X.w)).is P.heap ns b:=⟨ob,ah.toArray,n,ho,hc,M,by simpa using kr rv⟩
  have dict:P.heap.DictOfH (A3 (intKind X.prog X.w)) a xs:=⟨o,es,ep,r,A,h4,h6 _ _,λp hp=>by
   obtain ⟨o',its',n',l,j,L,J⟩:=h7 p hp
   exact ⟨o',its',n',t.kIn _ _ l,j,L,kr J⟩,h8⟩
  refine call_meetsIn PySem.F.slot_dict_get ⟨o,r,A.1⟩ PySem.F.entry_dict_get (PySem.F.args_dict_get_3 _ _ _) (meetsH_dict_get_default (A3 (intKind X.prog X.w)) a b h5 fv) ⟨tupleKind_room_in1 (by have:=hr.un; omega),ns,xs,key,dict,?_⟩
  rcases h9 ns with ⟨d,u,v,l,j,L,J⟩ | ⟨l,j⟩
  .rw [j]
   rw [l] at k
   exact ⟨v,c,t.tok _,L,k _ _ _ E (U.trans S) (t2.trans F) (J.mono Y1)⟩
  .rw [j]
   rw [l] at k
   exact ⟨z,c,t.tok _,Y,k _ _ _ E (U.trans S) (t2.trans F) hz⟩
 .cases C
end
section
variable {X:Cx}
def MZ (K:sx):R2:=λx y H Q=>∃ a k xs,x=.ref a/\y=.int k/\aZ K H a xs/\xs≠[] /\ -1000000<=k/\xs.length * k.toNat<=1000000/\∀ p,H p=none->Q (.ref p) (upd H p (.lst (aL k.toNat xs).flatten))
def Bl:cf X (Ay .Mult) (MZ X.K):=by
 intro pins s σ H x y v u Q I z w h
 obtain ⟨a,k,xs,rfl,rfl,C,j,L,hz,q⟩:=h
 cases z
 obtain ⟨t,rfl⟩:=w
 obtain ⟨ah,r,p,J⟩:=I.list C
 have c:=r.length
 obtain ⟨⟨cls,dd,data,sl⟩,d,i,n,hd⟩:=p.isList
 simp only at i hd
 subst i hd
 have f:ah.toArray.isEmpty=false:=by
  cases ah with
  | nil=>cases r; exact absurd rfl j
  | cons _ _=>rfl
 have A:1<=xs.length:=by
  cases xs with
  | nil=>exact absurd rfl j
  | cons _ _=>simp
 have G:k.toNat<=xs.length * k.toNat:=Nat.le_mul_of_pos_left _ A
 have B:ah.toArray.size * k.toNat<=1000000:=by rw [cx,<- c]; exact hz
 have E:sizeLine=16777216:=Av
 have e:List.foldl (λm l=>m++l) #[] (aL (if ah.toArray.isEmpty=true then 0 else k.toNat) ah.toArray)=(aL k.toNat ah).flatten.toArray:=by
  rw [f,if_neg ny]
  have:=Xt ah k.toNat []
  rw [bu] at this
  exact this
 refine wpAny_binaryOp_repeat_ref (T:="list") (U:="int") (by decide) ⟨_,d,rfl⟩ (λs'=>typeIs_int s' k t) noFill_list_mul F.fills_int_mul F.slot_int_rmul repeat_list F.slot_int_index.lookup
  (call_meets F.slot_int_rmul (typeIs_int s k t) F.entry_int_rmul (F.args_int_rmul_2 _ _) (lm_int_rmul_list_any k t a ah.toArray n dd sl)
   ⟨d,rfl,⟨_,d,rfl⟩,call_meets F.slot_list_mul ⟨_,d,rfl⟩ F.entry_list_mul (F.args_list_mul_2 _ _) (lm_list_mul_any a ah.toArray n dd sl k t (by
    unfold Builtin.List.listFitsIndex
    simp
    omega) (by omega) (by
    have g:ah.length * k.toNat<=1000000:=by rw [<- c]; exact hz
    unfold Ag
    simp
    omega)) ⟨d,?_⟩⟩)
 rw [e]
 refine ⟨.ref s.heap.objs.size,_,I.laid (t':=s.toks) (o:=.lst (aL k.toNat xs).flatten) (λb ob q=>mo _ q) (aU _) ?_,rfl,q _ (I.hok.fresh (aU _))⟩
 exact ⟨by rw [BB,Nat.mul_comm]; omega,_,_,r.rep k.toNat,sF _ rfl⟩
def je (f g:FE):FA:=λρ=>(f ρ).bind λx=>(g ρ).bind λy=>match x,y with
 | .lst (d :: ds),.int k=>if -1000000<=k/\(ds.length+1) * k.toNat<=1000000 then some (aL k.toNat (d :: ds)).flatten else none
 | _,_=>none
@[simp] theorem C6 {f g:FE} {ρ:aI}:je f g ρ=(f ρ).bind λx=>(g ρ).bind λy=>match x,y with
 | .lst (d :: ds),.int k=>if -1000000<=k/\(ds.length+1) * k.toNat<=1000000 then some (aL k.toNat (d :: ds)).flatten else none
 | _,_=>none:=rfl
set_option tactic.hygienic true in
def xI (o:DR X a f) (n:DR X b g):DN X (.BinOp a .Mult b pos) (je f g) :=
 yi (Ba Bl o n) λσ H Q ⟨H₀,aa,ρ,Hf,d,R,q,k⟩=>by
  obtain ⟨x,y,e1,e2,c⟩:=uo q
  refine ⟨H₀,aa,ρ,Hf,x,R,e1,λv H1 s t s1 t1 h1=>⟨H₀,aa,ρ,s,y,t,e2,λu H2 aP R2 s2 t2 h2=>?_⟩⟩
  have r:=h1.mono t2
  split at c
  .rename_i e ds j
   split at c
   .rename_i hz
    cases c
    obtain ⟨a,xs,rfl,m,l⟩:=r.lst R2
    have i:=l.length
    refine ⟨a,j,xs,rfl,h2.int,m,λz=>?_,hz.1,by rw [i]; exact hz.2,λp h=>?_⟩
    .rw [z] at i; simp at i
    .exact k _ _ _ _ (R2.layN h) ((s1.trans s2).trans (zA h)) (t1.trans t2) (zB.rep l j.toNat) zq (R2.sf.free h) ((s1.trans s2).free h)
   .cases c
  .cases c
end
def Ud (ks:List Int):Int:=reduceHash (Builtin.Tuple.tupleHashOf (ks.map hashInt))
inductive GEntT (K:sx):List (List Int×D)->List Eg->List (List Int×Addr×Value)->Prop
 | nil:GEntT K [] [] []
 | cons {ks:List Int} {d:D} {ar:List (List Int×D)} {h:Int} {ta:Addr} {od:Option Addr} {ah:Array Value} {n:Nat} {eU:Array (Option Value)} {v:V} {u:Value} {es:List Eg} {xs:List (List Int×Addr×Value)}
   (hz:Ud ks=h) (lk:K.lookup ta=some ⟨.type "tuple",od,.seq ah n,eU⟩) (vals:yx (ks.map V.int) ah.toList) (rel:yJ v u) (has:af K (λ_=>none) d v) (wo:GEntT K ar es xs):GEntT K ((ks,d) :: ar) (⟨h,.ref ta,u⟩ :: es) ((ks,ta,u) :: xs)
def GEntT.keys {K:sx} (g:GEntT K ar es xs):xs.map (·.1)=ar.map (·.1):=by
 induction g with
 | nil=>rfl
 | cons _ _ _ _ _ _ a=>simp [a]
def GEntT.ents {K:sx} (g:GEntT K ar es xs) (P) (w:sU):es=xs.map (entryOfKey (A3 (intKind P w))):=by
 induction g with
 | nil=>rfl
 | cons hz _ _ _ _ _ a =>
  subst hz
  rw [aH,<- a]
  rfl
def GEntT.tups {K:sx} (g:GEntT K ar es xs):∀ p∈xs,∃ (o:Obj) (ah:Array Value) (n:Nat),K.lookup p.2.1=some o/\o.cls=.type "tuple"/\o.data=.seq ah n/\yx (p.1.map V.int) ah.toList:=by
 induction g with
 | nil=>intro p a; cases a
 | cons _ lk vals _ _ _ b =>
  intro p a
  rcases aQ.mp a with rfl | a
  .exact ⟨_,_,_,lk,rfl,rfl,vals⟩
  .exact b p a
def GEntT.look {K:sx} (g:GEntT K ar es xs) (ns) :
  (∃ d u v,ar.lookup ns=some d/\(atKey xs ns).map (·.2)=some u/\yJ v u/\af K (λ_=>none) d v)\/(ar.lookup ns=none/\(atKey xs ns).map (·.2)=none):=by
 induction g with
 | nil=>exact .inr ⟨rfl,rfl⟩
 | @cons ks d ar h ta od ah n eU v u es xs hz lk vals rel has wo a =>
  by_cases c:ks=ns
  .subst c
   refine .inl ⟨d,u,v,by simp [List.lookup],?_,rel,has⟩
   simp [atKey]
  .have e1:((ks,d) :: ar).lookup ns=ar.lookup ns:=by
    rw [gu]
    have:(ns==ks)=false:=by simpa using λz=>c z.symm
    rw [this]
   have e2:atKey ((ks,ta,u) :: xs) ns=atKey xs ns:=by
    unfold atKey
    rw [List.find?_cons_of_neg (by simpa using c)]
   rw [e1,e2]
   exact a
def QN {K:sx} (h1:mg x=some (.ref a)) (h2:K.lookup a=some ⟨.type "dict",none,.dict es ep,#[]⟩)
  (b:(a==x_)=false) (g:GEntT K ar es.toList xs) (nd:(ar.map (·.1)).Nodup):GDictT K mg x ar :=
 ⟨a,_,es,ep,xs,h1,h2,⟨rfl,rfl,rfl⟩,rfl,b,λP w=>g.ents P w,g.tups,by rw [g.keys]; exact nd,g.look⟩
open PySem.AutoSeq1 (wpAny_loadPart')
open PySem.MeetsSeq PySem.MeetsSeq2 PySem.MeetsSeq3
def Xf (l b:Addr) (c a:Int) (i f:Tok) (items e:Array Value) (n o:Nat) (dd p:Option Addr) (sl q:Array (Option Value)) (r:c≠a) (e1:items[0]? = some (.int c i)) (e2:e[0]? = some (.int a f)) :
  Meets (Builtin.«list.__lt__» ⟨[.ref l,.ref b],[]⟩)
   (λA R s=>s.heap.get? l=some { cls:=.type "list",dict:=dd,data:=.seq items n,slots:=sl }/\s.heap.get? b=some { cls:=.type "list",dict:=p,data:=.seq e o,slots:=q } ∧
    R (.ok (.ret (.bool (decide (c < a))))) s):=by
 intro prog w A R s h
 obtain ⟨t,g,d,tk,os⟩:=s; obtain ⟨j,m,h⟩:=h
 have u:=AutoSeq1.sub_list_list
 wp_walk using s_ j,s_ m
 refine ⟨plainId_quiet plain_eq_loop _,codeAny_builtin entry_eq_loop ?_⟩
 rw [Around.under_plainId plain_eq_loop _]
 wp_walk using s_ j,s_ m
 rw [show items[(0:Int).toNat]? = some (.int c i) from e1,show e[(0:Int).toNat]? = some (.int a f) from e2]
 refine ls (wpAny_eqBool_int ?_)
 rw [show (c==a)=false by simpa using r]
 wp_walk using s_ j,s_ m
 rw [show items[(0:Int).toNat]? = some (.int c i) from e1,show e[(0:Int).toNat]? = some (.int a f) from e2]
 refine ls (wpAny_lt_int (su ?_))
 exact h
abbrev HR:=(Int×List Int)×Str
def cG (r:HR):D:=.tup [.lst ((r.1.1 :: r.1.2).map D.int),.str r.2]
def CA (x:HR):List HR->List HR
 | []=>[x]
 | y :: l=>if y.1.1 < x.1.1 then y :: CA x l else x :: y :: l
def jk:List HR->List HR
 | []=>[]
 | x :: l=>CA x (jk l)
theorem kA (x:HR):∀ l,(CA x l).Perm (x :: l)
 | []=>.refl _
 | y :: l=>by
  unfold CA
  split
  .exact ((kA x l).cons y).trans (.swap x y l)
  .exact .refl _
theorem wj:∀ l,(jk l).Perm l
 | []=>.refl _
 | x :: l=>(kA x (jk l)).trans ((wj l).cons x)
theorem kz (x:HR):∀ {l:List HR},l.Pairwise (λa b=>a.1.1<=b.1.1)->(CA x l).Pairwise (λa b=>a.1.1<=b.1.1)
 | [],_=>List.pairwise_singleton _ _
 | y :: l,h=>by
  have h':=lN.mp h
  unfold CA
  split
  .rename_i c
   refine lN.mpr ⟨λz hz=>?_,kz x h'.2⟩
   rcases aQ.mp ((kA x l).subset hz) with rfl | hz
   .omega
   .exact h'.1 z hz
  .rename_i c
   refine lN.mpr ⟨λz hz=>?_,h⟩
   rcases aQ.mp hz with rfl | hz
   .omega
   .have:=h'.1 z hz
    omega
theorem vG:∀ l,(jk l).Pairwise (λa b=>a.1.1<=b.1.1)
 | []=>.nil
 | x :: l=>kz x (vG l)
theorem Ju:∀ {a b:List HR},a.Perm b->(a.map (·.1.1)).Nodup->a.Pairwise (λx y=>x.1.1<=y.1.1)->b.Pairwise (λx y=>x.1.1<=y.1.1)->a=b
 | [],b,h,_,_,_=>(List.nil_perm.mp h).symm
 | x :: a,[],h,_,_,_=>by have:=h.length_eq; simp at this
 | x :: a,y :: b,h,c,f,d=>by
  rw [lN] at f d
  rw [aH,nq] at c
  have e:x=y:=by
   have h1:x∈y :: b:=h.subset ba
   have h2:y∈x :: a:=h.symm.subset ba
   rcases aQ.mp h1 with h1 | h1
   .exact h1
   .rcases aQ.mp h2 with h2 | h2
    .exact h2.symm
    .have j:=f.1 y h2
     have i:=d.1 x h1
     have g:y.1.1=x.1.1:=by omega
     exact absurd (g ▸ rP h2) c.1
  subst e
  rw [Ju h.cons_inv c.2 f.2 d.2]
def Vo:KeyOrd where
 α:=Int
 blt:=λa b=>decide (a < b)
 irrefl:=λa=>by simp
 trans:=λa b c h h'=>by simp at *; omega
 negTrans:=λa b c h=>by simp at *; omega
 total:=λa b h h'=>by simp at *; omega
def dj (rs:List HR) (i:Nat):HR:=rs.getD i ((0,[]),"")
section
variable {X:Cx} {pins:List (Addr×Obj)} {σ:St} {H:Hp} {s:Shared} {A:Around}
theorem GX (I:Inv X pins σ H s):∀ {rs:List HR} {ys:List V} {us:List Value},zB X.K H (rs.map cG) ys->yx ys us →
  ∃ fs,PySem.W.KatTups s.heap us fs/\fs.length=rs.length/\∀ v∈fs,∃ b o,v=.ref b/\s.heap.get? b=some o/\o.cls=.type "list"
 | [],ys,us,h,r=>by
  rw [bq,zB.nil_iff] at h
  subst h
  cases r
  exact ⟨[],.nil,rfl,λv c=>nomatch c⟩
 | x :: rs,ys,us,h,r=>by
  obtain ⟨v,B,rfl,u,l⟩:=sD.mp h
  cases r with
  | cons e r =>
   obtain ⟨fs,t,j,ht⟩:=GX I l r
   obtain ⟨a,xs,rfl,q,g⟩:=sQ.mp u
   cases e
   obtain ⟨ah,d,⟨o,i,m,n,hd⟩,_⟩:=I.tuple q
   obtain ⟨w,z,rfl,f0,E⟩:=sD.mp g
   cases d with
   | cons k0 d =>
    obtain ⟨b,bs,rfl,f,F⟩:=sO.mp f0
    cases k0
    obtain ⟨its',C,⟨o',_,y,p,_⟩,_⟩:=I.list f
    refine ⟨.ref b :: fs,.cons i m hd (by simp) t,by simp [j],λv c=>?_⟩
    rcases aQ.mp c with rfl | c
    .exact ⟨b,o',rfl,y,p⟩
    .exact ht v c
def Nq {K:sx} {rs:List HR} {ys:List V} {us:List Value} (h:zB K H (rs.map cG) ys) (r:yx ys us) {i:Nat} (hi:i < us.length) :
  af K H (cG (dj rs i)) (ys.getD i .non)/\yJ (ys.getD i .non) (us.getD i .none):=by
 have g:=r.length
 have f:=h.length
 rw [aC] at f
 have e:(rs.map cG)[i]? = some (cG (dj rs i)):=by
  unfold dj
  rw [dX,fL,fq (by omega)]
  rfl
 obtain ⟨v,a,hh⟩:=h.get e
 have b:ys.getD i .non=v:=by rw [fL,a]; rfl
 refine ⟨by rw [b]; exact hh,?_⟩
 obtain ⟨u,c,d⟩:=r.get a
 rw [b,fL,c]
 exact d
theorem GY {K:sx} {rs:List HR} {ys:List V} {us:List Value} (h:zB K H (rs.map cG) ys) (r:yx ys us):∀ (l:List Nat),(∀ i∈l,i < us.length) →
  zB K H ((l.map λi=>dj rs i).map cG) (l.map λi=>ys.getD i .non)/\yx (l.map λi=>ys.getD i .non) (l.map λi=>us.getD i .none)
 | [],_=>⟨.nil,.nil⟩
 | i :: l,c=>by
  have a:=Nq h r (c i ba)
  have b:=GY h r l λj d=>c j (br _ d)
  exact ⟨.cons a.1 b.1,.cons a.2 b.2⟩
def Wl (rs:List HR):(aV rs.length).map (λi=>dj rs i)=rs:=by
 unfold dj
 apply EC
 .simp
 .intro i h1 h2
  simp [h2]
def JG {rs:List HR} {p:Array Nat} (hn:(rs.map (·.1.1)).Nodup) (b:Bs rs.length p) (u:VI (O:=Vo) (λi=>(dj rs i).1.1) p rs.length):jk rs=p.toList.map λi=>dj rs i:=by
 have hp:p.toList.Perm (aV rs.length):=by simpa using Array.perm_iff_toList_perm.mp b.perm
 have h1:(p.toList.map λi=>dj rs i).Perm rs:=by
  have:=hp.map λi=>dj rs i
  rwa [Wl] at this
 refine Ju ((wj rs).trans h1.symm) (((wj rs).map _).nodup_iff.mpr hn) (vG rs) ?_
 rw [List.pairwise_iff_getElem]
 intro i j hi hj fT
 have hs:=b.size
 simp only [aC,Ak] at hi hj
 have q:@decide (@LT.lt Int _ (KP (O:=Vo) (λi=>(dj rs i).1.1) p j) (KP (O:=Vo) (λi=>(dj rs i).1.1) p i)) (Int.decLt _ _)=false:=u i j (by omega) (by omega)
 unfold KP at q
 rw [Array.getElem?_eq_getElem hi,Array.getElem?_eq_getElem hj] at q
 simpa using q
def Q2 (l:List Int):dep (.lst (l.map D.int))<=1:=by
 unfold dep
 have:qD (l.map D.int)<=0:=kM λd hd=>by
  obtain ⟨x,_,rfl⟩:=eW.mp hd
  exact aU _
 omega
def BR (b:(rs.map (·.1.1)).Nodup) (hi:i < rs.length) (a:j < rs.length) (e:(dj rs i).1.1=(dj rs j).1.1):i=j:=by
 have d:i < (rs.map λr:HR=>r.1.1).length:=by simpa using hi
 have c:j < (rs.map λr:HR=>r.1.1).length:=by simpa using a
 refine (List.getElem_inj (h₀:=d) (h₁:=c) b).mp ?_
 unfold dj at e
 simpa [hi,a] using e
def Nh (I:Inv X pins σ H s) (hu:A.units+50 < A0) {Q:Bool->Shared->Prop} {x y:HR} (j:x.1.1=y.1.1->x=y) {vs p:List V} {us i:List Value} (h:zB X.K H [.lst ((x.1.1 :: x.1.2).map D.int),.str x.2] vs) (h':zB X.K H [.lst ((y.1.1 :: y.1.2).map D.int),.str y.2] p) (r:yx vs us) (e:yx p i)
  (w:Q (decide (x.1.1 < y.1.1)) s):PySem.W.KatLex X.prog X.w A true (decide (us.length < i.length)) Q (us.zip i) 0 s:=by
 obtain ⟨P,N,rfl,G,l⟩:=sD.mp h
 obtain ⟨M,J,rfl,f0,f⟩:=sD.mp h'
 obtain ⟨O,N,rfl,e1,l⟩:=sD.mp l
 obtain ⟨L,J,rfl,f1,f⟩:=sD.mp f
 rw [zB.nil_iff] at l f
 subst l f
 cases r with
 | cons u r =>
 cases r with
 | cons S r =>
 cases r
 cases e with
 | cons d e =>
 cases e with
 | cons g e =>
 cases e
 have d1:=Q2 (x.1.1 :: x.1.2)
 refine PySem.W.kat_cons (WE I (.lst ((x.1.1 :: x.1.2).map D.int)) A (.lst ((y.1.1 :: y.1.2).map D.int)) P M _ _ G f0 u d (by omega) _ _ _ _ ?_)
 by_cases c:x.1.1=y.1.1
 .have:=j c
  subst this
  rw [wM]
  refine PySem.W.kat_yes (PySem.W.kat_cons (WE I (.str x.2) A (.str x.2) O L _ _ e1 f1 S g (by show A.units+0 < A0; omega) _ _ _ _ ?_))
  rw [wM]
  refine PySem.W.kat_yes (PySem.W.kat_nil ?_)
  simpa using w
 .have ee:bT (.lst ((x.1.1 :: x.1.2).map D.int)) (.lst ((y.1.1 :: y.1.2).map D.int))=false:=by
   simp [bT,WD,c]
  rw [ee]
  refine PySem.W.kat_no ?_
  show sG _ _ (oneLt' true _ _) _ _ _
  obtain ⟨a,xs,rfl,U,Z⟩:=sO.mp G
  obtain ⟨b,ys,rfl,T,Y⟩:=sO.mp f0
  cases u
  cases d
  obtain ⟨ia,t,⟨o,n,m,z,_,hd⟩,_⟩:=I.list U
  obtain ⟨ib,q,⟨o',n',cR,B,_,v⟩,_⟩:=I.list T
  obtain ⟨p0,pr,rfl,E,_⟩:=sD.mp Z
  obtain ⟨p1,W,rfl,C,_⟩:=sD.mp Y
  rw [sA] at E C
  subst E C
  cases t with
  | cons k0 t =>
  cases q with
  | cons k1 q =>
  obtain ⟨R,rfl⟩:=k0
  obtain ⟨t1,rfl⟩:=k1
  obtain ⟨cl,dd,da,sl⟩:=o
  obtain ⟨cl',dd',da',cX⟩:=o'
  dsimp only at z B hd v
  subst z B hd v
  rw [oneLt'_eq]
  simp only [if_true]
  refine ls (wpAny_cRoomFor (by omega) ?_)
  refine ls (wpAny_callSpecialIfBound?_slot ⟨_,m,rfl⟩ F.slot_list_lt (call_meets F.slot_list_lt ⟨_,m,rfl⟩ F.entry_list_lt (F.args_list_lt_2 _ _) (Xf a b x.1.1 y.1.1 R t1 _ _ _ _ _ _ _ _ c (by simp) (by simp)) ⟨m,cR,?_⟩))
  exact y_ w
def XG (hr:Room kk X.A):xm X (.builtin "sorted") (λxs H Q=>∃ (p:Addr) (rs:List HR) (ys:List V),xs=[.ref p]/\aZ X.K H p ys/\zB X.K H (rs.map cG) ys/\rs.length < 64/\(rs.map λr:HR=>r.1.1).Nodup ∧
  ∀ l (L:List Nat),H l=none->(∀ i∈L,i < ys.length)->jk rs=L.map (λi=>dj rs i)->Q (.ref l) (upd H l (.lst (L.map λi=>ys.getD i .non)))):=by
 intro pins s σ H xs us Q I r h
 obtain ⟨p,rs,ys,rfl,d,hh,hn,G,q⟩:=h
 obtain ⟨u,rfl,N⟩:=ur r
 cases N
 obtain ⟨ah,c,pl,hz⟩:=I.list d
 have f:=c.length
 have P:=hh.length
 rw [aC] at P
 have hu:X.A.in1.in1.units+100 < A0:=by show X.A.units+1+1+100 < A0; have:=hr.un; omega
 refine JL (O:=Vo) (key:=λi=>(dj rs i).1.1) (κ:=tuples' true) (vs:=ah) pl.isList (by omega) (λh2 h' hk=>?_) λg a1 a2=>?_
 .have m:Inv X pins σ H { s with heap:=h' }:=I.kept (t':=s.toks) hk
  refine ⟨λQ E d=>?_,λi j Q hi hj d=>?_⟩
  .obtain ⟨fs,t,hl,ht⟩:=GX m hh c
   refine PySem.W.kat_kind (T:=.type "list") t (by omega) (λv hv=>?_) (by rfl) d
   obtain ⟨b,o,rfl,w,F⟩:=ht v hv
   have:PySem.W.Looks (sL X.prog X.w) h' (typeOf (.ref b)) o.cls:=(PySem.W.Looks.ld w).andThen .now
   rw [F] at this
   exact this
  .obtain ⟨M,B⟩:=Nq hh c hi
   obtain ⟨J,z⟩:=Nq hh c hj
   obtain ⟨a,xs,e,W,la⟩:=sQ.mp M
   obtain ⟨b,zs,e',U,lb⟩:=sQ.mp J
   rw [e] at B
   rw [e'] at z
   have k1:ah.getD i .none=.ref a:=B
   have k2:ah.getD j .none=.ref b:=z
   obtain ⟨ia,S,⟨o,w,F,n,hd⟩,_⟩:=m.tuple W
   obtain ⟨ib,R,⟨o',cR,gp,n',Z⟩,_⟩:=m.tuple U
   rw [k1,k2]
   refine PySem.W.kat_lt w hd cR Z ?_
   have:=Nh (A:=X.A.in1.in1) m (by omega) (x:=dj rs i) (y:=dj rs j) (λe=>by rw [BR G (by omega) (by omega) e]) la lb S R (Q:=Q) d
   simpa using this
 .have C:∀ i∈g.toList,i < ah.length:=λi hi=>by
   have:i∈aV ah.length:=by simpa using (Array.perm_iff_toList_perm.mp a1.perm).mem_iff.mp hi
   simpa using this
  have b:=GY hh c g.toList C
  have el:ah.length=rs.length:=by omega
  rw [el] at a1 a2
  have hf:H (s.heap.objs.size+1)=none:=I.hok.fresh (il _)
  have Y:=q _ g.toList hf (by rw [f]; exact C) (JG G a1 a2)
  obtain ⟨e,he⟩:=sortedAll_at s.heap ah (nj (g.toList.map λi=>ah.getD i .none))
  exact ⟨.ref (s.heap.objs.size+1),_,I.laid (t':=s.toks) (λb o x=>sortedAll_old x) (il _) (show y7 X.prog X.w _ (sortedAll s.heap ah _) _ (.lst _) from ⟨by rw [aC,Ak,a1.size]; omega,_,e,b.2,he⟩),rfl,Y⟩
theorem Fz {K:sx} {rs:List HR} {ys:List V} (h:zB K H (rs.map cG) ys):∀ (l:List Nat),(∀ i∈l,i < ys.length)->zB K H ((l.map λi=>dj rs i).map cG) (l.map λi=>ys.getD i .non)
 | [],_=>.nil
 | i :: l,a=>by
  have hi:=a i ba
  have f:=h.length
  rw [aC] at f
  have e:(rs.map cG)[i]? = some (cG (dj rs i)):=by
   unfold dj
   rw [dX,fL,fq (by omega)]
   rfl
  obtain ⟨v,b,hh⟩:=h.get e
  have d:ys.getD i .non=v:=by rw [fL,b]; rfl
  exact .cons (show af K H (cG (dj rs i)) (ys.getD i .non) by rw [d]; exact hh) (Fz h l λj c=>a j (br _ c))
end
def Mr:D->Option HR
 | .tup [.lst (.int h :: ds),.str t]=>(x9 ds).map λr=>((h,r),t)
 | _=>none
def Ws:List D->Option (List HR)
 | []=>some []
 | d :: ds=>(Mr d).bind λx=>(Ws ds).bind λr=>some (x :: r)
def QK (h:Mr d=some x):d=cG x:=by
 unfold Mr at h
 split at h
 .obtain ⟨r,e,rfl⟩:=fb.mp h
  rw [kq e]
  rfl
 .cases h
theorem Zv:∀ {ds:List D} {rs:List HR},Ws ds=some rs->ds=rs.map cG
 | [],r,h=>by cases h; rfl
 | d :: ds,r,h=>by
  obtain ⟨x,h1,h⟩:=iq.mp (show (Mr d).bind (λx=>(Ws ds).bind λr=>some (x :: r))=some r from h)
  obtain ⟨a,h2,h⟩:=iq.mp h
  cases h
  rw [QK h1,Zv h2]
  rfl
theorem Xr:∀ rs:List HR,Ws (rs.map cG)=some rs
 | []=>rfl
 | r :: rs=>by
  show ((x9 (r.1.2.map D.int)).map λz=>((r.1.1,z),r.2)).bind (λx=>(Ws (rs.map cG)).bind λr=>some (x :: r))=_
  rw [Xr rs,vc]
  rfl
def UI (fa:FA):FA:=λρ=>(fa ρ).bind λl=>match l with
 | [.lst ds]=>(Ws ds).bind λrs=>if rs.length < 64/\(rs.map λr:HR=>r.1.1).Nodup then some ((jk rs).map cG) else none
 | _=>none
def JU (h:fa ρ=some [.lst (rs.map cG)]) (h1:rs.length < 64) (h2:(rs.map λr:HR=>r.1.1).Nodup):UI fa ρ=some ((jk rs).map cG):=by
 unfold UI
 rw [h]
 show (Ws (rs.map cG)).bind _=_
 rw [Xr]
 exact if_pos ⟨h1,h2⟩
section
variable {X:Cx} {e:Expr} {pos:Pos} {kk:Nat}
def Uk (j:Room kk X.A) (n:Gl X "sorted") (m:X.mg "sorted"=none) (r:fN X (e :: es) fa)
  (o:sC (e :: es) X.env=(false,eval e X.env) :: sC es X.env:=by rfl) (f:(tV pos (sC es X.env)).any (·.1)=false:=by rfl):DN X (.Call (.Name "sorted" p) (e :: es) [] pos) (UI fa) :=
 yi (wL (id:="sorted") (XG j) n m kQ r (by decide) (by decide) o f) λσ H Q ⟨H₀,aa,ρ,Hf,d,R,q,k⟩=>by
  obtain ⟨l,e1,e2⟩:=z8 q
  refine ⟨H₀,aa,ρ,Hf,l,R,e1,λvs H1 w c s1 t1 h1=>?_⟩
  split at e2
  .rename_i ds
   obtain ⟨rs,u,g⟩:=iq.mp e2
   split at g
   .rename_i h
    cases g
    obtain ⟨v,rfl,i⟩:=uw.one h1
    obtain ⟨a,ys,rfl,q,l⟩:=i.lst c
    rw [Zv u] at l
    refine ⟨a,rs,ys,rfl,q,l.mono c.sf,h.1,h.2,λp L b s t=>?_⟩
    rw [t] at k
    exact k _ _ _ _ (c.layN b) (s1.trans (zA b)) t1 (Fz l L s) zq (c.sf.free b) (s1.free b)
   .cases g
  .cases e2
end
section
variable {prog:sH} {w:sU} {A:Around} {E:Value->Shared->Prop} {s:Shared}
end
section
variable {X:Cx} {e f:Expr} {pos:Pos} {kk:Nat}
end
instance KTy.dec:(n:Nat)->DecidableEq (KTy n)
 | 0=>inferInstanceAs (DecidableEq Int)
 | n+1=>have:=KTy.dec n; inferInstanceAs (DecidableEq (List (KTy n)))
section
variable {prog:sH} {w:sU} {A:Around} {E:Value->Shared->Prop} {s:Shared}
end
section
variable {X:Cx} {e:Expr} {f g:FE} {pos:Pos} {kk:Nat}
end
structure GDictS (w:sU) (K:sx) (mg:Str->Option Value) (x:Str) (ar:List (Str×D)):Prop where
 ex:∃ (a:Addr) (o:Obj) (es:Array Eg) (ep:Nat) (vs:List (Str×Value)),mg x=some (.ref a)/\K.lookup a=some o/\o.ExactDict/\o.data=.dict es ep/\(a==x_)=false/\(∀ P,KeysOf (Am P w) es/\Pairs (Am P w) es.toList vs)/\(vs.map (·.1)).Nodup ∧
  ∀ k,(∃ d u v,ar.lookup k=some d/\AK vs k=some u/\yJ v u/\af K (λ_=>none) d v)\/(ar.lookup k=none/\AK vs k=none)
inductive GEntS (w:sU) (K:sx):List Eg->List (Str×D)->Prop
 | nil:GEntS w K [] []
 | cons {k:Str} {t:Tok} {hh:Int} {u:Value} {v:V} {d:D} {es:List Eg} {ar:List (Str×D)}:hashStr w k=hh->yJ v u->af K (λ_=>none) d v->GEntS w K es ar->GEntS w K (⟨hh,.str k t,u⟩ :: es) ((k,d) :: ar)
def vP (k) (t:Tok):Value.isStrOf k (.str k t)=true:=by simp [Value.isStrOf]
def GEntS.vals  {K:sx}:∀ {es:List Eg} {ar:List (Str×D)},GEntS w K es ar->∃ vs,(∀ P,(∀ e∈es,∃ k,(Am P w).is k e.key=true/\e.hash=(Am P w).hash k)/\Pairs (Am P w) es vs)/\vs.map (·.1)=ar.map (·.1) ∧
  ∀ k,(∃ d u v,ar.lookup k=some d/\AK vs k=some u/\yJ v u/\af K (λ_=>none) d v)\/(ar.lookup k=none/\AK vs k=none)
 | _,_,.nil=>⟨[],λP=>⟨λe he=>(by cases he),Pairs.nil⟩,rfl,λk=>.inr ⟨rfl,rfl⟩⟩
 | _,_,@GEntS.cons _ _ k t hh u v d es ar i r h g=>by
  obtain ⟨vs,c,p2,f⟩:=g.vals
  have hi:=vP k t
  refine ⟨(k,u) :: vs,λP=>⟨λe he=>?_,Pairs.cons hi rfl (c P).2⟩,(by simp [p2]),λb=>?_⟩
  .rcases aQ.mp he with rfl | he
   .exact ⟨k,hi,i.symm⟩
   .exact (c P).1 e he
  .rw [gu]
   by_cases a:b=k
   .subst a
    exact .inl ⟨d,u,v,by simp,by simp [AK],r,h⟩
   .have e1:(b==k)=false:=by simpa using a
    have e2:AK ((k,u) :: vs) b=AK vs b:=by
     unfold AK
     rw [List.find?_cons_of_neg (by simpa using λz:k=b=>a z.symm)]
    rw [e1,e2]
    exact f b
def QO  {K:sx} (h1:mg x=some (.ref a)) (h2:K.lookup a=some ⟨.type "dict",none,.dict es.toArray ep,#[]⟩) (d:(a==x_)=false) (g:GEntS w K es ar) (nd:(ar.map (·.1)).Nodup):GDictS w K mg x ar:=by
 obtain ⟨vs,b,p2,c⟩:=g.vals
 exact ⟨a,_,es.toArray,ep,vs,h1,h2,⟨rfl,rfl,rfl⟩,rfl,d,λP=>⟨λe he=>(b P).1 e (by simpa using he),(b P).2⟩,by rw [p2]; exact nd,c⟩
section
variable {X:Cx} {o e a b:Expr} {f g:FE} {pos:Pos} {kk:Nat}
def BA (ar:List (Str×D)):D->Option D
 | .str k=>ar.lookup k
 | _=>none
@[simp] theorem HD   : BA ar (.str k)=ar.lookup k:=rfl
set_option tactic.hygienic true in
def Gc (L:Gl X x) (J:GDictS X.w X.K X.mg x ar) (hi:DR X i f) (G:NL i:=by intro _ _; rfl) (hd:(x==("__debug__":Str))=false:=by decide):DE X (.Subscript (.Name x p) i pos) (WO (BA ar) f):=by
 obtain ⟨a,o,es,ep,vs,h1,h2,r,O,F,m,N,M⟩:=J.ex
 intro pins s σ H Q I h
 obtain ⟨H₀,aa,ρ,Hf,d,R,q,k⟩:=h
 obtain ⟨y,e1,e2⟩:=zM q
 unfold BA at e2
 split at e2
 .rename_i n
  rcases M n with ⟨d',u,v,c,E,C,B⟩ | ⟨c,_⟩
  .rw [c] at e2
   cases e2
   refine UF PySem.F.slot_dict_getitem.lookup G (thn (wU (v:=.ref a) L h1 rfl hd pins s σ H (λx H1=>x=.ref a/\H1=H) I ⟨rfl,rfl⟩) λZ s1 ⟨x,H1,Y,A,ex,S⟩=>?_)
   subst ex S
   cases A
   refine thn (hi pins s1 σ H1 (λy H2=>y=.str n/\∃ aP,Rep X.K H₀ aa σ ρ H2 aP/\zV H1 H2/\zV Hf aP) Y ⟨H₀,aa,ρ,Hf,_,R,e1,λv H1 U W s1 t1 h1=>⟨h1.str,U,W,s1,t1⟩⟩) λiv s2 ⟨y,H2,w,z,P,aP,R2,T,t2⟩=>?_
   subst P
   obtain ⟨t,rfl⟩:=z
   have l:=w.kIn a o h2
   have j:s2.heap.DictOf (Am X.prog X.w) a vs:=⟨o,es,ep,l,r,O,(m _).1,(m _).2,N⟩
   refine ⟨⟨o,l,r.1⟩,wpAny_getItem_of (knd:=Am X.prog X.w) (k:=n) (vP n t) j.mapOf E ⟨v,H2,w.tok _,C,?_⟩⟩
   exact k _ _ _ R2 T t2 (B.mono Y1)
  .rw [c] at e2
   cases e2
 .cases e2
def Nr (ar:List (Str×D)) (f:FE):FT:=λρ=>(f ρ).bind λd=>match d with
 | .str k=>some (ar.lookup k).isSome
 | _=>none
@[simp] theorem W6 {ar:List (Str×D)} {ρ:aI}:Nr ar f ρ=(f ρ).bind λd=>match d with
 | .str k=>some (ar.lookup k).isSome
 | _=>none:=rfl
def MG (K:sx) (w:sU) (mg:Str->Option Value) (x:Str) (ar:List (Str×D)) (ty:TE):TE:=λσ H Q=>ty σ H λy H1=>∃ k,y=.str k/\Q (.bl (ar.lookup k).isSome) H1
def Bf (A:Gl X x) (z:GDictS X.w X.K X.mg x ar) (hi:PE X e ty) (hd:(x==("__debug__":Str))=false):PC X .In e (.Name x p) (MG X.K X.w X.mg x ar ty):=by
 obtain ⟨a,o,es,ep,vs,h1,h2,G,F,c,l,E,C⟩:=z.ex
 intro pins s σ H Q I h
 refine thn (hi pins s σ H _ I h) λO s1 ⟨y,H1,M,r,n,J,q⟩=>?_
 subst J
 obtain ⟨t,rfl⟩:=r
 refine thn (wU (v:=.ref a) A h1 rfl hd pins s1 σ H1 (λx H2=>x=.ref a/\H2=H1) M ⟨rfl,rfl⟩) λN s2 ⟨x,H2,m,w,ex,L⟩=>?_
 subst ex L
 cases w
 have B:=m.kIn a o h2
 have d:s2.heap.DictOf (Am X.prog X.w) a vs:=⟨o,es,ep,B,G,F,(l _).1,(l _).2,E⟩
 refine wpAny_in_of (knd:=Am X.prog X.w) (k:=n) (vP n t) c d.mapOf ?_
 have e:(AK vs n).isSome=(ar.lookup n).isSome:=by
  rcases C n with ⟨d',u,v,j,i,_⟩ | ⟨j,i⟩ <;> rw [j,i] <;> rfl
 rw [e]
 exact ⟨.bl (ar.lookup n).isSome,H2,m.tok _,rfl,q⟩
def B7 (h:Gl X x) (c:GDictS X.w X.K X.mg x ar) (hi:DE X e f) (hd:(x==("__debug__":Str))=false:=by decide) (i:tO .In (.Name x p)=false:=by rfl):DT X (.Compare e [.In] [.Name x p] pos) (Nr ar f) :=
 Vb (Vc (Bf h c hi hd) i) λσ H Q ⟨H₀,aa,ρ,Hf,b,R,q,k⟩=>by
  unfold Nr at q
  obtain ⟨d,e2,q⟩:=iq.mp q
  split at q
  .cases q
   exact ⟨H₀,aa,ρ,Hf,_,R,e2,λv H2 aP R2 s2 t2 h2=>⟨_,sR.mp h2,_,rfl,k _ _ R2 s2 t2⟩⟩
  .cases q
def rTB (φ:Str->Str->Bool):V->List V->Hp->VK->Prop:=λx vs H Q=>∃ z y,x=.str z/\vs=[.str y]/\Q (.bl (φ z y)) H
def Qp:MtR X "str.startswith" (rTB Txt.startswith):=by
 intro pins s σ H x vs v us Q I c d h
 obtain ⟨z,y,rfl,rfl,q⟩:=h
 obtain ⟨t,rfl⟩:=c
 obtain ⟨u,rfl,t',rfl⟩:=ur d
 exact SC.startswith ⟨.bl _,H,I,rfl,q⟩
def tbD (φ:Str->Str->Bool):D->D->Option D
 | .str z,.str y=>some (.bl (φ z y))
 | _,_=>none
@[simp] theorem Hz   : tbD φ (.str z) (.str y)=some (.bl (φ z y)):=rfl
def Vz (m:DE X o f) (n:DE X e g)
  (h:Ad o "startswith" X.env (eval o X.env)=eval o X.env:=by rfl)
  (i:((tV aA (sC [e] X.env)).all (λx => !x.1)&&(backToKw aA (A9 [] X.env)).all (λx=>x.1.isSome)
   && decide (([e]:List Expr).length+([]:List A7).length+(if ([]:List A7).isEmpty then 0 else 1) < 30))=true:=by rfl)
  (c:(apos.endLine==aA.line)=true:=by rfl) (l:sC [e] X.env=(false,eval e X.env) :: sC [] X.env:=by rfl) (p:(tV aA (sC [] X.env)).any (·.1)=false:=by rfl) :
  DE X (.Call (.Attribute o "startswith" apos) [e] [] aA) (zd (tbD Txt.startswith) f g) :=
 yi (U8 PySem.F.plainAttrs_str PySem.F.slot_str_startswith PySem.F.type_str_startswith Qp m (zN n yE l) h i c l p) λσ H Q ⟨H₀,aa,ρ,Hf,d,R,q,k⟩=>by
  obtain ⟨x,y,e1,e2,j⟩:=uo q
  refine ⟨H₀,aa,ρ,Hf,x,R,e1,λv H1 r s s1 t1 h1=>?_⟩
  unfold tbD at j
  split at j
  .cases j
   cases sR.mp h1
   refine ⟨rfl,H₀,aa,ρ,r,_,s,e2,λt H2 aP R2 s2 t2 h2=>?_⟩
   cases sR.mp h2
   exact ⟨_,_,rfl,rfl,k _ _ _ R2 (s1.trans s2) (t1.trans t2) (sP.mpr rfl)⟩
  .cases j
def CI (i j c:Int) (p:Addr) (h:Heap):Prop:=∃ t u v,h.get? p=some { cls:=.type "range",data:=.fields #[.int i t,.int j u,.int c v] }
def Ji:xm X (.type "range") (λxs H Q=>∃ i j c,xs=[.int i,.int j,.int c]/\c≠0/\Builtin.divisionGoesByPylong (j - i) c=false/\∀ p,H p=none->Q (.ref p) (upd H p (.ext (CI i j c p)))):=by
 intro pins s σ H xs us Q I r h
 obtain ⟨i,j,c,rfl,n,m,q⟩:=h
 cases r with
 | cons l r =>
  cases r with
  | cons d r =>
   cases r with
   | cons r3 r =>
    cases r
    obtain ⟨t1,rfl⟩:=l
    obtain ⟨t2,rfl⟩:=d
    obtain ⟨x,rfl⟩:=r3
    refine call_range_3 n ⟨.ref s.heap.objs.size,_,I.laid (t':=s.toks) (o:=.ext (CI i j c s.heap.objs.size)) (λb ob q=>mo _ q) (aU _) ?_,rfl,q _ (I.hok.fresh (aU _))⟩ (.inl m)
    refine ⟨⟨_,_,_,sF _ rfl⟩,⟨_,sF _ rfl⟩,λh1 h2 w k=>?_⟩
    obtain ⟨t,u,v,e⟩:=w
    exact ⟨t,u,v,k _ e⟩
def Zi (M:X.calm=true):xm X (.type "list") (λxs H Q=>∃ (p:Addr) (i j c:Int) (n:Nat),xs=[.ref p]/\H p=some (.ext (CI i j c p))/\Builtin.Range.small i j c=true/\sV i j c=(n:Int)/\n<=1000000 ∧
  ∀ l,H l=none->Q (.ref l) (upd H l (.lst ((aV n).map λ(k:Nat)=>V.int (i+(k:Int) * c))))):=by
 intro pins s σ H xs us Q I r h
 obtain ⟨p,i,j,c,n,rfl,L,z,y,S,q⟩:=h
 obtain ⟨u,rfl,E⟩:=ur r
 cases E
 obtain ⟨⟨t,u,v,e⟩,_⟩:=(show y7 X.prog X.w H s.heap p (.ext (CI i j c p)) from I.hok p _ L)
 have R:sizeLine=16777216:=Av
 refine call_list_range (n:=n) (I.ok.hd M) (show IsRange s.heap p i j c t u v from e) z y (by omega) λh' tk A P kp es O=>?_
 obtain ⟨J,G⟩:=O
 have C:∀ (m:Nat) (ah:List Value) (lo:Nat),ah.length=m->(∀ (k:Nat) w,ah[k]? = some w->∃ t,w=.int (i+((lo+k:Nat):Int) * c) t)->yx ((aV m).map λ(k:Nat)=>V.int (i+((lo+k:Nat):Int) * c)) ah:=by
  intro m
  induction m with
  | zero =>
   intro ah lo d _
   rw [g2g d]
   exact .nil
  | succ m F =>
   intro ah lo d B
   cases ah with
   | nil=>simp at d
   | cons w ah =>
    rw [EG,aH,cN]
    obtain ⟨t,rfl⟩:=B 0 w rfl
    refine .cons ⟨t,rfl⟩ ?_
    have:=F ah (lo+1) (by simpa using d) λk w e=>by
     obtain ⟨t,rfl⟩:=B (k+1) w (by simpa using e)
     exact ⟨t,by rw [show lo+(k+1)=lo+1+k by omega]⟩
    have e:((λk:Nat=>V.int (i+((lo+k:Nat):Int) * c)) ∘ Nat.succ)=λk:Nat=>V.int (i+((lo+1+k:Nat):Int) * c):=by
     funext k
     simp only [Function.comp]
     rw [show lo+k.succ=lo+1+k by omega]
    rw [e]
    exact this
 have x:yx ((aV n).map λ(k:Nat)=>V.int (i+(k:Int) * c)) A.toList:=by
  have:=C n A.toList 0 (by simpa using J) λk w N=>by
   obtain ⟨t,rfl⟩:=G k w (by simpa using N)
   exact ⟨t,by rw [cW]⟩
  simpa only [cW] using this
 refine ⟨.ref s.heap.objs.size,_,I.laid (t':=tk) (o:=.lst _) kp (aU _) ⟨by rw [aC,gD]; omega,A.toList,P,x,by simpa using es⟩,rfl,q _ (I.hok.fresh (aU _))⟩
def ZN (i c:Int) (n:Nat):List D:=(aV n).map λ(k:Nat)=>D.int (i+(k:Int) * c)
def QM {K:sx} (i c) (n:Nat):zB K H (ZN i c n) ((aV n).map λ(k:Nat)=>V.int (i+(k:Int) * c)):=by
 unfold ZN
 induction (aV n) with
 | nil=>exact .nil
 | cons k l d=>exact .cons (sA.mpr rfl) d
def Bt (i j c:Int):Bool:=decide (c≠0) && !Builtin.divisionGoesByPylong (j - i) c&&Builtin.Range.small i j c&&decide (0<=sV i j c)&&decide (sV i j c<=1000000)
def Da (fa:FA):FA:=λρ=>(fa ρ).bind λl=>match l with
 | [.int i,.int j,.int c]=>if Bt i j c=true then some (ZN i c (sV i j c).toNat) else none
 | _=>none
@[simp] theorem UM {fa:FA} {ρ:aI}:Da fa ρ=(fa ρ).bind λl=>match l with
 | [.int i,.int j,.int c]=>if Bt i j c=true then some (ZN i c (sV i j c).toNat) else none
 | _=>none:=rfl
def uw.three {K:sx} {a b c:D} (h:uw K Hf σ ρ [a,b,c] vs):∃ x y z,vs=[x,y,z]/\uA K Hf σ ρ a x/\uA K Hf σ ρ b y/\uA K Hf σ ρ c z:=by
 cases h with
 | cons h1 h =>
  cases h with
  | cons h2 h =>
   cases h with
   | cons d h =>
    cases h
    exact ⟨_,_,_,rfl,h1,h2,d⟩
set_option tactic.hygienic true in
def Xx (F:X.calm=true) (E:Gl X "list") (C:X.mg "list"=none) (w:Gl X "range") (v:X.mg "range"=none) (G:fN X [a,b,c] fa)
  (t:sC [.Call (.Name "range" p2) [a,b,c] [] r] X.env=(false,eval (.Call (.Name "range" p2) [a,b,c] [] r) X.env) :: sC [] X.env:=by rfl) (m:(tV pos (sC [] X.env)).any (·.1)=false:=by rfl)
  (n:sC [a,b,c] X.env=(false,eval a X.env) :: sC [b,c] X.env:=by rfl) (I:(tV r (sC [b,c] X.env)).any (·.1)=false:=by rfl) :
  DN X (.Call (.Name "list" p) [.Call (.Name "range" p2) [a,b,c] [] r] [] pos) (Da fa) :=
 yi (xQ (T:="list") (Zi F) E C (by rfl) (zN (xQ (T:="range") Ji w v uJ G (by decide) (by decide) n I) yE t) (by decide) (by decide) t m) λσ H Q u=>by
  obtain ⟨H₀,aa,ρ,Hf,d,R,q,k⟩:=u
  obtain ⟨l,e1,e2⟩:=z8 q
  refine ⟨H₀,aa,ρ,Hf,l,R,e1,λvs H1 N J s1 t1 h1=>?_⟩
  split at e2
  .rename_i i j c
   split at e2
   .rename_i hok
    cases e2
    unfold Bt at hok
    simp only [du,decide_eq_true_eq,Bool.not_eq_true'] at hok
    obtain ⟨⟨⟨⟨k1,k2⟩,k3⟩,M⟩,k5⟩:=hok
    obtain ⟨x,y,z,rfl,B,A,hz⟩:=uw.three h1
    refine ⟨i,j,c,by rw [B.int,A.int,hz.int],k1,k2,λp s=>?_⟩
    refine ⟨p,i,j,c,(sV i j c).toNat,rfl,zq,k3,by omega,by omega,λL h=>?_⟩
    have s2:zV H1 (upd H1 p (.ext (CI i j c p))):=zA s
    have R2:=J.layN (o:=.ext (CI i j c p)) s
    exact k _ _ _ _ (R2.layN h) ((s1.trans s2).trans (zA h)) t1 (QM i c _) zq (R2.sf.free h) ((s1.trans s2).free h)
   .cases e2
  .cases e2
end
section
variable {X:Cx} {pos:Pos} {kk:Nat}
end
section
variable {X:Cx} {e:Expr} {f:FE} {pos:Pos} {kk:Nat}
def ipM:TIp:=λx y H Q=>∃ i j,x=.int i/\y=.int j/\WT i j/\Q (.int (i * j)) H
def BO:PIp X .Mult ipM:=by
 intro pins s σ H x y v u Q I b a h
 obtain ⟨i,j,e1,e2,c,q⟩:=h
 subst e1; subst e2
 obtain ⟨t,rfl⟩:=b
 obtain ⟨t',rfl⟩:=a
 exact imul_int ⟨.int _,H,I.tok _,⟨_,rfl⟩,q⟩ c.ok
def Co (i:Nat) (f:FE):FS:=λρ=>(f ρ).bind λy=>match ρ[i]?,y with
 | some (.fr (.int m)),.int k=>if WT m k then some (.nx (ρ.set i (.fr (.int (m * k))))) else none
 | _,_=>none
set_option tactic.hygienic true in
def QV (i) (h:X.N.Nodup) (d:DE X e f) (hi:X.N[i]? = some x:=by rfl) (b:Loc X.env.scope x:=by first | exact Aw rfl | exact Ab rfl)
  (c:X.fn x=true\/X.env.scope.names.lookup x=some .local:=by first | exact .inl rfl | exact .inr rfl | assumption):DS X (.AugAssign (.Name x pos') .Mult e pos) (Co i f) :=
 y8 (GE h hi b d BO c) λD' σ H ⟨H₀,aa,ρ,Hf,o,R,q,k⟩=>by
  obtain ⟨y,e1,e2⟩:=zM q
  split at e2
  .split at e2
   .rename_i g
    cases e2
    rename_i m kk j
    obtain ⟨v,a,p2⟩:=R.fr i _ j
    have pv:=sA.mp p2
    subst pv
    refine ⟨.int m,a,H₀,aa,ρ,Hf,.int kk,R,e1,λv H1 n l s1 t1 h1=>?_⟩
    exact ⟨m,kk,rfl,sA.mp h1,g,k _ _ _ (l.set i (sA.mpr rfl)) t1⟩
   .cases e2
  .cases e2
@[simp] theorem HH {i:Nat} {ρ:aI}:Co i f ρ=(f ρ).bind λy=>match ρ[i]?,y with
 | some (.fr (.int m)),.int k=>if WT m k then some (.nx (ρ.set i (.fr (.int (m * k))))) else none
 | _,_=>none:=rfl
end
section
variable {X:Cx} {e a b:Expr} {f g:FE} {pos:Pos} {kk:Nat} {pins:List (Addr×Obj)} {σ:St} {H:Hp} {s:Shared}
end
def Df (K:sx) (x:Str) (st:Stmt):Prop:=∃ (f:Addr) (oc:Value) (od an:Option Addr) (eU:Array (Option Value)) (kV doc pm aq ct:Value),Ai K sI x=some (some (.ref f)) ∧
 K.lookup f=some ⟨oc,od,.func (W.fnOf x x (wF st) (yw st) (zi st) .none kV doc pm an aq ct),eU⟩/\W.codeIn K aq x=true/\AI K (.ref f)=true
section
variable {P:sH} {w:sU} {K:sx} {mg:Str->Option Value} {base h:Heap} {x:Str} {st:Stmt} {k n:Nat} {ps:List Str}
def lK (X:K.In h) (G:h.Ns sI mg) (d:Df K x st) (ok:∀ {f:Addr} {fd:tU},Fun K x x st f fd->FnOk P w K mg base bF k f fd ps (spF K n g))
  (b:∀ (kV doc pm:Value) (an:Option Addr) (aq ct:Value) (us:List Value),us.length=ps.length->bindArgs (W.fnOf x x (wF st) (yw st) (zi st) .none kV doc pm an aq ct) ⟨us,[]⟩=pure (ps.zip us)):HasFn P w K mg base k x n g:=by
 obtain ⟨f,oc,od,an,eU,kV,doc,pm,aq,ct,a,l,c,q⟩:=d
 have F:=Xs l c q
 exact ⟨⟨_,_,_,ok F,AV X G a,q,F.binds b⟩⟩
end
def cz (i) (c:decide X.N.Nodup=true:=by kernel_rfl) (hi:X.N[i]? = some x:=by rfl) (a:Loc X.env.scope x:=by first | exact Aw rfl | exact Ab rfl) (b:X.fn x=true\/X.env.scope.names.lookup x=some .local:=by first | exact .inl rfl | exact .inr rfl | assumption):DG X (.Name x pos) (zO i):=zX i (of_decide_eq_true c) hi a b
def aR (j:HasFn X.prog X.w X.K X.mg X.base k x n g) (i:DA X (e :: es) fa) (c:Room k X.A:=by first | assumption | exact Room.mono (by assumption) (by decide)) (f:Gl X x:=by rfl)
  (d:∀ ρ ds,fa ρ=some ds->ds.length=n:=by first | exact jr V8 | exact jr (jr V8) | exact jr (jr (jr V8)) | exact jr (jr (jr (jr V8))))
  (b:(x==("__debug__":Str))=false:=by decide) (h:sC (e :: es) X.env=(false,eval e X.env) :: sC es X.env:=by rfl) (a:(tV pos (sC es X.env)).any (·.1)=false:=by rfl) :
  DE X (.Call (.Name x p) (e :: es) [] pos) (ya g fa):=Cf j c f i d b h a
section
variable {w:sU} {prog:sH} {A:Around} {h:Heap} {E:Value->Shared->Prop} {g:Array GenState} {d:Drawn} {t:Nat} {os:OsState}
variable {C N:Addr} {nm q:Str} {bs bm gF:List Value} {eM:Bool} {sn:List Str} {sub:List Value} {ab:Bool} {col:Option Bool} {dd:Option Addr} {k0 k1 k2 k3 k5:Option Value} {B newId bL:String}
abbrev js (h:Heap) (C:Addr) (wo:List Value):Heap:=(h.push { cls:=.type "tuple",data:=.seq wo.toArray }).push { cls:=.ref C,data:=.fields #[.ref h.objs.size,.none,.none,.none,.bool false,.none] }
def UD (F:AG B newId bL gF) (T:OwnTail h gF bm) {mN:Str->Option Value} {wo:List Value} {fI:Addr} {Q:Fin->Shared->Prop}
  (a:h.get? C=some (excClassObj nm q C N bs bm eM sn sub ab col dd k0 k1 k2 k3 k5 newId)) (j:h.Ns N mN) (m:mN "__init__"=some (.ref fI))
  (s:PySem.W.Looks (sL prog w) (js h C wo) (bindSpecial (.ref fI) (.ref (h.objs.size+1))) (.ref fI,[.ref (h.objs.size+1)]))
  (n:sG (sL prog w) A (call (.ref fI) (.ref (h.objs.size+1) :: wo)) (λr s'=>r=.none/\Q (.done (.ret (.ref (h.objs.size+1)))) s') E ⟨js h C wo,g,d,t,os⟩)
  (c:wo.length<=sizeLine):sG (sL prog w) A (Builtin.«type.__call__» ⟨.ref C :: wo,[]⟩) Q E ⟨h,g,d,t,os⟩:=by
 repeat (first | with_reducible refine Em a ?_ | with_reducible refine wpAny_madeBy_exc a ?_ | wp_step)
 refine codeAny_call_builtin_code (Code.quiet_builtin _ F.quiet) (wpAny_check_new_subT F T a (codeAny_exc_new_subT F T a ?_ c))
 show sG _ _ _ _ _ _
 have kp:∀ b o,h.get? b=some o->(js h C wo).get? b=some o:=λb o e=>mo _ (mo _ e)
 have l:(js h C wo).Ns N mN:=let ⟨o,es,ep,e,r⟩:=j; ⟨o,es,ep,kp _ _ e,r⟩
 have p:(js h C wo).get? (h.objs.size+1)=some { cls:=.ref C,data:=.fields #[.ref h.objs.size,.none,.none,.none,.bool false,.none] }:=by heap_get
 have f:(sT C :: bm).contains (.ref C)=true:=by simp
 have u:=T.keeps (h':=js h C wo) kp
 have i:=kp _ _ a
 unfold isInstance
 repeat (first | with_reducible refine Em p ?_ | (with_reducible refine wpAny_isSubtype_exc i ?_; rw [f]) | wp_step)
 show sG _ _ (typeLookup (.ref C) _) _ _ _
 refine wpAny_typeLookup_tail i l u F.mroIs F.init.lookup ?_
 rw [m]
 refine tQ (ls (s.at (ls (sN n (λr s' k=>?_) λ_ _ x=>x))))
 obtain ⟨rfl,k⟩:=k
 exact su (su k)
def Gj (F:AG B newId bL gF) (T:OwnTail h gF bm) {mN:Str->Option Value} {wo:List Value} {fI:Addr} {Q:Value->Shared->Prop}
  (b:h.get? C=some (excClassObj nm q C N bs bm eM sn sub ab col dd k0 k1 k2 k3 k5 newId)) (c:h.Ns N mN) (e:mN "__init__"=some (.ref fI))
  (i:PySem.W.Looks (sL prog w) (js h C wo) (bindSpecial (.ref fI) (.ref (h.objs.size+1))) (.ref fI,[.ref (h.objs.size+1)]))
  (f:sG (sL prog w) (A.under (.builtin "type.__call__" ⟨.ref C :: wo,[]⟩)) (call (.ref fI) (.ref (h.objs.size+1) :: wo)) (λr s'=>r=.none/\Q (.ref (h.objs.size+1)) s') E ⟨js h C wo,g,d,t,os⟩)
  (a:wo.length<=sizeLine):sG (sL prog w) A (call (.ref C) wo) Q E ⟨h,g,d,t,os⟩:=by
 have f1:=tc_lookup
 have f2:=tc_bind (.ref C)
 have j:(⟨h,g,d,t,os⟩:Shared).TypeIs (.ref C) "type":=⟨_,b,rfl⟩
 refine Ee (codeAny_of_tree ?_)
 show sG _ _ (callAny (.ref C) _) _ _ _
 repeat (any_goals (first | assumption | with_reducible refine Em b ?_ | wp_step))
 refine ⟨rfl,?_⟩
 refine codeAny_call_builtin_at (Code.quiet_builtin _ (by decide +kernel)) entry_typeCall (wpAny_check_type_call_sub b ?_)
 exact UD F T b c e i f a
end
end FL
namespace FL
open PySem PySem.Spec PyProof.Rows L2 PySem.W
section
variable {prog:sH} {w:sU} {A:Around} {K:sx} {E:Value->Shared->Prop} {x C Dz:Addr} {s:Shared} {R:Result->Shared->Prop}
def Qd (X:K.In s.heap) (g:s.heap.get? x=some ⟨.ref C,none,.fields vs,sl⟩)
  (d:clsIn K C=some cd) (m:cd.mro=[.ref C,.ref Dz,.type "ValueError",.type "Exception",.type "BaseException",.type "object"]) (l:cd.hasDict=true) (i:mroIn K C (.type "object")=some true)
  (p:findIn K (.ref C) name=some none)
  (h:∀ h':Heap,(∀ b o,b≠x->s.heap.get? b=some o->h'.get? b=some o)->h'.get? x=some ⟨.ref C,some s.heap.objs.size,.fields vs,sl⟩ →
   h'.get? s.heap.objs.size=some (Ew name (PyData.keyHash w.params name) (.str name s.toks) v { cls:=.type "dict",data:=.dict #[] })->R (.ok (.ret .none)) { s with heap:=h',toks:=s.toks+1 }):
  codeAny (sL prog w) A (.call (.builtin "object.__setattr__") ⟨[.ref x,.str name tk,v],[]⟩) R s:=by
 have I:PySem.W.InstAt s.heap x ⟨.ref C,none,.fields vs,sl⟩ C none:=⟨g,rfl,rfl,trivial⟩
 have c:=PySem.F.store_object
 have sub:PySem.W.Looks (sL prog w) s.heap (isInstance (.ref x) (.type "object")) true:=I.type.andThen (looks_mroIn X i)
 refine AB c.slot.plain c.entry (@check_slot (sL prog w) _ _ s "object.__setattr__" "object" "__setattr__" (.ref x) [.str name tk,v] [] _ c.kind c.split sub (c.args (.ref x) (.str name tk) v) ?_)
 have j:PySem.W.Looks (sL prog w) s.heap (mroOf (.ref C)) cd.mro:=(looks_clsIn X d).andThen .now
 rw [osa_eq,refuse_eq]
 refine ls (ls (I.type.here (ls (j.here ?_))))
 rw [m]
 rw [refuseLoop_ref,refuseLoop_ref,show refuseLoop (.ref x) "__setattr__" [.type "ValueError",.type "Exception",.type "BaseException",.type "object"]=pure () by kernel_rfl]
 refine su (ls (I.type.here (ls ((D_ X p).here (ls (su ?_))))))
 dsimp only
 refine ls (su (ls (ls (wpAny_loadPart g (ls ((looks_clsIn X d).here ?_))))))
 rw [l]
 have f:=mo { cls:=.type "dict",data:=.dict #[] } g
 have lt:x < s.heap.objs.size:=sE g
 refine ls (wpAny_alloc (ls (wpAny_update f ?_)))
 refine su (a:=some s.heap.objs.size) (ls (su (ls ?_)))
 have Dz:((s.heap.push { cls:=.type "dict",data:=.dict #[] }).update x λo=>{ o with dict:=some s.heap.objs.size }).get? s.heap.objs.size=some { cls:=.type "dict",data:=.dict #[] }:=by
  rw [sM _ _ (cb lt)]; exact sF _ rfl
 unfold nsSet
 refine ls (ls (wpAny_askSetting (su (ls (wpAny_mkText (ls (wpAny_loadPart Dz ?_)))))))
 dsimp only
 rw [aRefKeyMayBeTheName_at]
 rw [if_neg (by simp)]
 refine wpAny_updatePart (o:={ cls:=.type "dict",data:=.dict #[] }) Dz ?_
 have D':=tw (Ew name (PyData.keyHash w.params name) (.str name s.toks) v) Dz rfl
 have q:(((s.heap.push { cls:=.type "dict",data:=.dict #[] }).update x λo=>{ o with dict:=some s.heap.objs.size }).update s.heap.objs.size (Ew name (PyData.keyHash w.params name) (.str name s.toks) v)).get? x=some ⟨.ref C,some s.heap.objs.size,.fields vs,sl⟩:=by
  rw [sM _ _ (mj lt)]; exact tw _ f rfl
 refine ls (wpAny_lookBehind D' (pastItsLine_dict (by rw [Av]; simp)) (su (h _ (λb o n e=>?_) q D')))
 rw [sM _ _ (mj (sE e)),sM _ _ (tZ n)]
 exact mo _ e
def V7 (name:Str) (n:Int) (tk:Tok) (v:Value):PySem.W.lookIn name (Ew name n (.str name tk) v { cls:=.type "dict",data:=.dict #[] })=some (some v):=by
 simp [PySem.W.lookIn,Ew,nsPutIn,Value.isStr]
def K1 (X:K.In s.heap) (f:s.heap.get? x=some ⟨.ref C,none,.fields vs,sl⟩)
  (a:findIn K (.ref C) "__setattr__"=some (some (.builtin "object.__setattr__")))
  (e:clsIn K C=some cd) (g:cd.mro=[.ref C,.ref Dz,.type "ValueError",.type "Exception",.type "BaseException",.type "object"]) (d:cd.hasDict=true) (c:mroIn K C (.type "object")=some true)
  (i:findIn K (.ref C) name=some none)
  (h:∀ h':Heap,(∀ b o,b≠x->s.heap.get? b=some o->h'.get? b=some o)->h'.get? x=some ⟨.ref C,some s.heap.objs.size,.fields vs,sl⟩ →
   h'.get? s.heap.objs.size=some (Ew name (PyData.keyHash w.params name) (.str name (s.toks+1)) v { cls:=.type "dict",data:=.dict #[] })->Q () { s with heap:=h',toks:=s.toks+2 }):
  sG (sL prog w) A (setAttr (.ref x) name v) Q E s :=
 set_plain X (⟨f,rfl,rfl,trivial⟩:PySem.W.InstAt s.heap x ⟨.ref C,none,.fields vs,sl⟩ C none) a (Qd (s:={ s with toks:=s.toks+1 }) X f e g d c i h)
end
section
variable {prog:sH} {w:sU} {A:Around} {K:sx} {E:Value->Shared->Prop} {x C:Addr} {s:Shared} {ox od:Obj} {name:Str} {v:Value} {expr:Bool} {Q:Value->Shared->Prop}
def B1 (X:K.In s.heap) (I:PySem.W.InstAt s.heap x ox C (some od)) (e:findIn K (.ref C) "__getattribute__"=some (some (.builtin "BaseException.__getattribute__"))) (q:findIn K (.ref C) "__getattr__"=some none)
  (r:mroIn K C (.type "BaseException")=some true) (p:ExcAttrFacts "ValueError") (l:findObj K C (some od) name=some (.value v)) (j:handedIn v=true) (h:Q v { s with toks:=s.toks+1 }) :
  sG (sL prog w) A (getAttr (.ref x) name expr) Q E s:=by
 obtain ⟨o,g,d,t,os⟩:=s
 have a:=I.type (M:=sL prog w)
 have m:=D_ (M:=sL prog w) X e
 have z:=D_ (M:=sL prog w) X q
 have y:=looks_find (M:=sL prog w) X I l
 have u:=looks_mroIn (M:=sL prog w) X r
 unfold getAttr getAttrBy
 refine ls (wpAny_mkText (tQ (ls (a.at (ls (m.at ?_))))))
 have b:(Ex "BaseException.__getattribute__"==Ex "object.__getattribute__")=false:=by decide +kernel
 have c:(onTheHeap (sT C)&&Ex "BaseException.__getattribute__"==Ex "object.__getattribute__")=false:=by rw [b]; rfl
 have n:(expr&&onTheHeap (Ex "BaseException.__getattribute__"))=false:=by cases expr <;> rfl
 have B:=p.ga.bind (.ref x)
 dsimp only
 rw [if_neg (by rw [c]; decide)]
 unfold getAttrByItsOwn
 repeat (any_goals (first | assumption | with_reducible refine z.at ?_ | wp_step))
 have sub:PySem.W.Looks (sL prog w) o (isInstance (.ref x) (.type "BaseException")) true:=a.andThen u
 have i:builtinKind "BaseException.__getattribute__"=some .slot:=by decide +kernel
 have f:splitId "BaseException.__getattribute__"=some ("BaseException","__getattribute__"):=by decide +kernel
 refine AB p.ga.plain PySem.F.entry_bexc_ga (@check_slot (sL prog w) _ _ ⟨o,g,d,t+1,os⟩ "BaseException.__getattribute__" "BaseException" "__getattribute__" (.ref x) [.str name t] [] _ i f sub (PySem.F.args_bexc_ga _ _) ?_)
 unfold Builtin.«object.__getattribute__»
 refine ls (wpAny_of_eq (show slotArgs "__getattribute__" 1 ⟨[.ref x]++[.str name t],[]⟩=pure (.ref x,[.str name t]) by kernel_rfl) ?_)
 dsimp only
 refine ls (su (ls (a.at (ls (y.at (su ?_))))))
 show sG _ _ (handedOut v) _ _ _
 rw [handedOut_of j]
 exact su h
end
end FL
namespace FL
open PySem PySem.Spec PyProof.Rows L2
section
variable {w:sU} {prog:sH} {A:Around} {h:Heap} {E:Value->Shared->Prop} {g:Array GenState} {d:Drawn} {t:Nat} {os:OsState}
variable {C N:Addr} {nm q:Str} {bs bm gF:List Value} {eM:Bool} {sn:List Str} {sub:List Value} {ab:Bool} {col:Option Bool} {dd:Option Addr} {k0 k1 k2 k3 k5:Option Value} {B newId bL:String}
def Jt (F:AG B newId bL gF) (T:OwnTail h gF bm)
  (p:h.get? C=some (excClassObj nm q C N bs bm eM sn sub ab col dd k0 k1 k2 k3 k5 newId)) (l:h.get? e=some ⟨.ref C,none,.fields #[.ref a0,j,i,f,c,a],sl⟩)
  (k:∀ h':Heap,(∀ b o,b≠e->h.get? b=some o->h'.get? b=some o)->h'.get? e=some ⟨.ref C,none,.fields #[.ref h.objs.size,j,i,f,c,a],sl⟩->Q .none ⟨h',g,d,t,os⟩):
  sG (sL prog w) A (call (.builtin bL) [.ref e,v]) Q E ⟨h,g,d,t,os⟩:=by
 refine Ee (AB F.init.plain F.initEntry (wpAny_check_init_subT F T p l rfl ?_))
 wp_walk
 refine k _ (λb o n m=>?_) ?_
 .rw [sM _ _ (tZ n)]; exact mo _ m
 .rw [tw _ (mo _ l) rfl]; rfl
end
end FL
namespace FL
open PySem PySem.Spec PyProof.Rows L2 PySem.W
def lW (e C:Addr) (h:Heap):Prop:=∃ a0 sl,h.get? e=some ⟨.ref C,none,.fields #[.ref a0,.none,.none,.none,.bool false,.none],sl⟩
def iM (e C dx:Addr) (h:Heap):Prop:=∃ a0 sl,h.get? e=some ⟨.ref C,some dx,.fields #[.ref a0,.none,.none,.none,.bool false,.none],sl⟩
def iA (e C dx:Addr) (h:Heap):Prop:=∃ vs sl,h.get? e=some ⟨.ref C,some dx,.fields vs,sl⟩
def gG (dx:Addr) (name:Str) (v:Value) (h:Heap):Prop:=∃ od,h.get? dx=some od/\PySem.W.lookIn name od=some (some v)
def GZ (x:lW e C h):y7 P w H h e (.ext (lW e C)) :=
 ⟨x,let ⟨_,_,q⟩:=x; ⟨_,q⟩,λh1 h2 ⟨a,b,q⟩ k=>⟨a,b,k _ q⟩⟩
def FQ (x:iM e C dx h):y7 P w H h e (.ext (iM e C dx)) :=
 ⟨x,let ⟨_,_,q⟩:=x; ⟨_,q⟩,λh1 h2 ⟨a,b,q⟩ k=>⟨a,b,k _ q⟩⟩
def QT (x:iM e C dx h):iA e C dx h:=let ⟨_,_,q⟩:=x; ⟨_,_,q⟩
def FR (x:iA e C dx h):y7 P w H h e (.ext (iA e C dx)) :=
 ⟨x,let ⟨_,_,q⟩:=x; ⟨_,q⟩,λh1 h2 ⟨a,b,q⟩ k=>⟨a,b,k _ q⟩⟩
def CL (x:gG dx name v h):y7 P w H h dx (.ext (gG dx name v)) :=
 ⟨x,let ⟨_,q,_⟩:=x; ⟨_,q⟩,λh1 h2 ⟨a,q,b⟩ k=>⟨a,k _ q,b⟩⟩
structure OwnCI (C fI:Addr) (gF:List Value) (newId:String) (h:Heap):Prop where
 obj:∃ bm N nm q bs eM sn sub ab col dd k0 k1 k2 k3 k5 mN,h.get? C=some (excClassObj nm q C N bs bm eM sn sub ab col dd k0 k1 k2 k3 k5 newId)/\h.Ns N mN/\mN "__init__"=some (.ref fI)/\OwnTail h gF bm
def CP (e:H a=some o):upd H a o=H:=by
 funext b
 unfold upd
 split
 .rename_i q; subst q; exact e.symm
 .rfl
section
variable {X:Cx} {x:Str} {np apos aA:Pos} {e1 e2:Expr} {t1 t2:TE} {C D:Addr}
def tBI (t1 t2:TE) (C:Addr):TE:=λσ H Q=>t1 σ H λa H1=>t2 σ H1 λb H2=>∃ e,a=.ref e/\H2 e=some (.ext (lW e C))/\Q .non H2
def Ki {bm:List Value} {newId:String} {fI:Addr} {pl:Sem Bool} (O:OwnCI C fI bm newId X.base) (FB:AG "ValueError" newId "ValueError.__init__" bm)
  (hg:Gl X x) (hm:X.mg x=some (.ref D)) (hsp:specialIn X.K (.ref D) "__getattribute__"=some (some (.builtin "type.__getattribute__"))) (hr:readsIn X.K D (.type "type")=true)
  (hf:findCls X.K (.ref D) (.type "type") "__init__"=some (.val (.builtin "ValueError.__init__"))) (h1:PE X e1 t1) (h2:PE X e2 t2)
  (ht:eval (.Call (.Attribute (.Name x np) "__init__" apos) [e1,e2] [] aA) X.env=(do
   let ov ← eval (.Name x np) X.env
   standAt apos.atName
   let (f,first) ← holding [ov] (getMethod ov "__init__" pl)
   callWith aA f first (tV aA (sC [e1,e2] X.env)) (backToKw aA (A9 [] X.env))))
  (tr:tV aA (sC [e1,e2] X.env)=[(false,eval e1 X.env),(false,eval e2 X.env)]) (hd:(x==("__debug__":Str))=false:=by decide) :
  PE X (.Call (.Attribute (.Name x np) "__init__" apos) [e1,e2] [] aA) (tBI t1 t2 C):=by
 intro pins s σ H Q I h
 refine PySem.W.methodCall_KW (pl:=pl) (qL I hg hm ?_ hd) ht
 refine method_cls I.kIn hsp (cls_value I.kIn hr hf rfl ?_)
 rw [tr]
 have I0:=I.tok (s.toks+1)
 refine AR rfl (Calls.evalArgs_plain (AH (thn (h1 pins _ σ H _ I0 h) λu s2 ⟨y,H1,I1,ry,q1⟩ =>
  AH (thn (h2 pins s2 σ H1 _ I1 q1) λfv s3 ⟨z,H2,I2,rz,e,ey,he,q⟩=>Calls.spliced_nil ?_))))
 obtain ⟨tl,N',nm,q',bs,eM,sn,sub,ab,col,dd,k0,k1,k2,k3,k5,mN,hC,hN,hni,T⟩:=O.obj
 have hk:∀ b o,X.base.get? b=some o->s3.heap.get? b=some o:=I2.bk
 subst ey
 obtain rfl:u=sT e:=ry
 obtain ⟨⟨a0,sl,eo⟩,_,_⟩:=I2.hok e _ he
 obtain ⟨hp,g,d,t,os⟩:=s3
 refine Jt FB (T.keeps hk) (hk _ _ hC) eo λh' kp en=>⟨.non,H2,?_,rfl,q⟩
 have:=I2.write (x:=e) (e:=e) (o:=.ext (lW e C)) (t':=t) (by rw [he]; exact AF) (.inl rfl) kp ⟨_,en⟩ (GZ ⟨_,_,en⟩)
 rwa [CP he] at this
end
def Ux (u:Un fs ex H H' h h1) (i:h.get? a=none) (g:H' a=none):Un fs ex H (upd H' a o) h h1:=by
 have d:∀ b ob,h.get? b=some ob->b≠a:=λb ob q z=>by subst z; rw [i] at q; cases q
 have c:∀ b ob,H' b=some ob->b≠a:=λb ob q z=>by subst z; rw [g] at q; cases q
 refine ⟨u.keep,u.slot,λb ob q n f=>(zu (d b ob q)).trans (u.free b ob q n f),u.there,λb xs q=>(zu (c b _ (u.tups b xs q))).trans (u.tups b xs q),
  λb ob x q=>(zu (c b _ (u.frzs b ob x q))).trans (u.frzs b ob x q),λb ps q=>let ⟨m,e⟩:=u.tbls b ps q; ⟨m,(zu (c b _ e)).trans e⟩⟩
def Vq (k:cj P w H h) (d:H a=none) (new:y7 P w (upd H a o) h a o):cj P w (upd H a o) h:=λb u q=>by
 by_cases z:b=a
 .subst z
  rw [zq] at q
  cases q
  exact new
 .rw [zu z] at q
  exact (k b u q).stay (λ_ _ _ e=>e) (λc e=>(zu (zy e d)).trans e) λc xs e=>(zu (zy e d)).trans e
structure XCls (K:sx) (C D:Addr) (f:Str):Prop where
 set:findIn K (.ref C) "__setattr__"=some (some (.builtin "object.__setattr__"))
 cls:∃ cd,clsIn K C=some cd/\cd.mro=[.ref C,.ref D,.type "ValueError",.type "Exception",.type "BaseException",.type "object"]/\cd.hasDict=true
 obj:mroIn K C (.type "object")=some true
 bas:mroIn K C (.type "BaseException")=some true
 no:findIn K (.ref C) f=some none
 ga:findIn K (.ref C) "__getattribute__"=some (some (.builtin "BaseException.__getattribute__"))
 g2:findIn K (.ref C) "__getattr__"=some none
section
variable {X:Cx} {o value:Expr} {f:Str} {pos pos':Pos} {ta tv:TE} {C D:Addr}
def sXf (ta tv:TE) (C:Addr) (f:Str):TS:=λD σ H=>tv σ H λy H1=>ta σ H1 λx H2=>∃ e l,x=.ref e/\y=.ref l/\H2 e=some (.ext (lW e C)) ∧
 ∀ dx,H2 dx=none->D.nx σ (upd (upd H2 e (.ext (iM e C dx))) dx (.ext (gG dx f (.ref l))))
def HS (Z:XCls X.K C D f) (v:PE X o ta) (r:PE X value tv) (t:As value (some (.Attribute o f pos')) pos.line X.env=pure false):PS X (.Assign [.Attribute o f pos'] value pos) (sXf ta tv C f):=by
 intro pins s σ H D I h
 refine plainObj_wpAny_Assign_Attribute (thn (r pins s σ H _ I h) λu s1 ⟨y,H1,E,i,q⟩=>thn (v pins s1 σ H1 _ E q) λn s2 ⟨x,H2,a,j,e,l,ex,w,d,m⟩=>?_) t
 subst ex w
 obtain rfl:n=sT e:=j
 obtain rfl:u=sT l:=i
 obtain ⟨⟨a0,sl,g⟩,_,_⟩:=a.hok e _ d
 obtain ⟨cd,B,A,z⟩:=Z.cls
 have p:s2.heap.objs.size≠e:=mj (sE g)
 have fr:=a.hok.fresh (aU _)
 refine K1 a.kIn g Z.set B A z Z.obj Z.no λh' kp e1 e2=>⟨σ,_,?_,m _ fr⟩
 have c:o4 (H2 e):=by rw [d]; exact AF
 have b:upd H2 e (.ext (iM e C s2.heap.objs.size)) s2.heap.objs.size=none:=(zu p).trans fr
 exact a.un (Ux (Un.write c (.inl rfl) kp ⟨_,e1⟩) (Heap.get?_none_of_le (aU _)) b)
  (Vq (a.hok.write c (.inl rfl) kp ⟨_,e1⟩ (FQ ⟨_,_,e1⟩)) b (CL ⟨_,e2,V7 _ _ _ _⟩))
def tXf (ta:TE) (C:Addr) (f:Str):TE:=λσ H Q=>ta σ H λx H1=>∃ e dx l φ,x=.ref e/\H1 e=some (.ext φ)/\(∀ h,φ h->iA e C dx h)/\H1 dx=some (.ext (gG dx f (.ref l)))/\Q (.ref l) H1
def Z8 (Z:XCls X.K C D f) (d:hasDictIn X.K C=true) (c:noGet X.K none=true) (r:ExcAttrFacts "ValueError") (j:PE X o ta) (i:Ad o f X.env (eval o X.env)=eval o X.env):PE X (.Attribute o f pos) (tXf ta C f):=by
 intro pins s σ H Q I h
 refine Cp i (thn (j pins s σ H _ I h) λu s1 ⟨x,H1,a,b,e,dx,l,φ,ex,g,p,hd,q⟩=>?_)
 subst ex
 obtain rfl:u=sT e:=b
 obtain ⟨vs,sl,m⟩:=p _ (a.hok e _ g).1
 obtain ⟨⟨od,n,lk⟩,_,_⟩:=a.hok dx _ hd
 refine B1 a.kIn ⟨m,rfl,rfl,n⟩ Z.ga Z.g2 Z.bas r (findObj_own d Z.no c lk) rfl ⟨.ref l,H1,a.tok _,rfl,q⟩
end
section
variable {X:Cx} {CX:iB} {k:Nat} {fI C:Addr} {fd:tU} {ps:List Str} {sp:Sp} {E:XK} {x:Str} {p pos:Pos} {e:Expr} {es:List Expr} {t:TA} {bm:List Value} {B newId bL:String}
def UQ (O:OwnCI C fI bm newId X.base) (Y:AG B newId bL bm) (lK:typeIn X.K (.ref fI)=some (.type "function"))
  (F:FnOk X.prog X.w X.K X.mg X.base CX k fI fd ps sp) (L:Room (k+1) X.A) (P:qB X.K fd ps []) (J:ZJ CX X E) (I:Inv X pins σ H s) (r:yx vs us) (hz:us.length<=sizeLine) (hex:∀ b,b∉X.ex)
  (h:∀ e,H e=none->X.s₀.heap.get? e=none->sp (.ref e :: vs) (upd H e (.ext (lW e C))) (λv H2=>v=.non/\Q (.ref e) H2) E):
  sG (sL X.prog X.w) X.A (call (.ref C) us) (EP X pins σ Q) X.xe s:=by
 obtain ⟨tl,N',nm,Z,bs,eM,sn,sub,ab,col,dd,k0,k1,k2,k3,k5,mN,S,R,i,T⟩:=O.obj
 have j:∀ b o,X.base.get? b=some o->s.heap.get? b=some o:=I.bk
 obtain ⟨a,g,d,t,os⟩:=s
 have kp:∀ b u,a.get? b=some u->(js a C us).get? b=some u:=λb u q=>mo _ (mo _ q)
 have N:(js a C us).get? (a.objs.size+1)=some ⟨.ref C,none,.fields #[.ref a.objs.size,.none,.none,.none,.bool false,.none],#[]⟩:=by heap_get
 have l:X.s₀.heap.get? (a.objs.size+1)=none:=by
  cases z:X.s₀.heap.get? (a.objs.size+1) with
  | none=>rfl
  | some o =>
   obtain ⟨o',y⟩:=I.base.there _ o z (hex _)
   exact absurd (sE y) (by show ¬ a.objs.size+1 < a.objs.size; omega)
 have w:=h (a.objs.size+1) (I.hok.fresh (il _)) l
 have f:Inv X pins σ (upd H (a.objs.size+1) (.ext (lW (a.objs.size+1) C))) ⟨js a C us,g,d,t,os⟩:=I.laid (h':=js a C us) (t':=t) kp (il _) (GZ ⟨_,_,N⟩)
 have n:yx (V.ref (a.objs.size+1) :: vs) (sT (a.objs.size+1) :: us):=.cons rfl r
 have M:(sT (a.objs.size+1) :: us++[]).length=ps.length:=by
  have e:=n.length
  rw [F.len _ _ _ _ w] at e
  rw [cO]
  exact e.symm
 have m:=P _ (sT (a.objs.size+1) :: us) f.kIn M
 rw [cO] at m
 refine Gj Y (T.keeps j) (j _ _ S) (R.keeps j) i (bind_fn f.kIn _ lK) (Ee (codeAny_mono (F.run _ X.stack _ _ ⟨sT (a.objs.size+1) :: us,[]⟩ (sT (a.objs.size+1) :: us) _ _ E (L.make C us [])
  (f.env0.make C us []) m n w) λr s' c=>?_)) hz
 cases r with
 | error e=>exact J pins σ _ _ e s' f c
 | ok fl =>
  cases fl with
  | ret u =>
   obtain ⟨v,H',W,A,U,G⟩:=f.after c
   subst U
   exact ⟨A,⟨V.ref (a.objs.size+1),H',W,rfl,G⟩⟩
  | next=>exact tu c
  | brk=>exact tu c
  | cont=>exact tu c
end
end FL
namespace Pk63
open PySem PySem.Spec PyProof.Rows L2 FL
theorem hasL_ints {K:sx} {H:Hp}:∀ {ns:List Int} {xs:List V},zB K H (ns.map D.int) xs->xs=ns.map V.int
 | [],xs,h=>zB.nil_iff.mp h
 | n :: ns,xs,h=>by
  obtain ⟨x,r,rfl,h1,h2⟩:=sD.mp h
  rw [sA.mp h1,hasL_ints h2]; rfl
def Gv (K:sx) (C:Addr):Sp:=λvs H Q _=>∃ (Hf:Hp) (e:Addr) (a:V) (d:D) (ns:List Int),vs=[.ref e,a]/\zV Hf H/\af K Hf d a/\(d=.lst (ns.map D.int)\/d=.tup (ns.map D.int))/\H e=some (.ext (lW e C)) ∧
 ∀ (H':Hp) (l dx:Addr),zV H H'->H' l=some (.lst (ns.map V.int))->H l=none->H' dx=none->dx≠l →
  Q .non (upd (upd H' e (.ext (iM e C dx))) dx (.ext (gG dx "mirrors" (.ref l))))
section
variable {X:Cx} {k:Nat} {fI C:Addr} {fd:tU} {x:Str} {p pos:Pos} {e1:Expr} {fa:FA} {bm:List Value} {B newId bL:String}
def Pp (h₀:Heap) (K:sx) (C:Addr) (fa:FA):TE:=λσ H Q=>∃ (H₀ aa:Hp) (ρ:aI) (Hf:Hp) (d:D) (ns:List Int),Rep K H₀ aa σ ρ H Hf/\fa ρ=some [d]/\(d=.lst (ns.map D.int)\/d=.tup (ns.map D.int)) ∧
 ∀ (e dx l:Addr) (H' ao:Hp),Rep K H₀ aa σ ρ H' ao->zV H H'->zV Hf ao->H' e=some (.ext (iM e C dx))->H' dx=some (.ext (gG dx "mirrors" (.ref l)))->H' l=some (.lst (ns.map V.int))->ao l=none->ao e=none->ao dx=none->H l=none->H e=none->H dx=none->dx≠e->l≠e->dx≠l->h₀.get? e=none->Q (.ref e) H'
def U7 (O:OwnCI C fI bm newId X.base) (FB:AG B newId bL bm) (lK:Ec X.K (.ref fI)=some (.type "function")) (F:FnOk X.prog X.w X.K X.mg X.base bF k fI fd ["self","mirrors"] (Gv X.K C))
  (hr:Room (k+1) X.A) (hb:qB X.K fd ["self","mirrors"] []) (kc:AI X.K (.ref C)=true) (hg:Gl X x) (hm:X.mg x=some (.ref C)) (ha:fN X [e1] fa) (hex:∀ b,b∉X.ex)
  (A:(x==("__debug__":Str))=false:=by decide) (he:sC [e1] X.env=(false,eval e1 X.env) :: sC [] X.env:=by rfl) (u:(tV pos (sC [] X.env)).any (·.1)=false:=by rfl) :
  PE X (.Call (.Name x p) [e1] [] pos) (Pp X.s₀.heap X.K C fa):=by
 intro pins s σ H Q I ⟨H₀,aa,ρ,Hf,d,ns,R,q,hd,kk⟩
 refine AJ (qL I hg hm ?_ A)
 refine PySem.W.callWith_K (h₀:=X.base) I.ok.mod.kin kc (thn (ha pos pins s σ H (λvs H1=>∃ g,Rep X.K H₀ aa σ ρ H1 g/\zV H H1/\zV Hf g/\uw X.K g σ ρ [d] vs) I
  ⟨H₀,aa,ρ,Hf,[d],R,q,λvs H' ao a b c r=>⟨ao,a,b,c,r⟩⟩) λus s1 ⟨vs,H1,I1,r,g,j,Y,cJ,hv⟩=>⟨I1.kIn,?_⟩) he u
 obtain ⟨a,rfl,J⟩:∃ a,vs=[a]/\uA X.K g σ ρ d a:=by
  cases hv with
  | cons h1 h2=>cases h2; exact ⟨_,rfl,h1⟩
 have fz:∃ aP,zV aP H1/\af X.K aP d a:=by
  rcases J with z | ⟨i,ds,rfl,z1,z2⟩
  .exact ⟨g,j.sf,z⟩
  .obtain ⟨aP,_,R2⟩:=j.freeze z1
   have hi:i < ρ.length:=(gE.mp z1).1
   obtain ⟨v,T,w2⟩:=R2.fr i (.lst ds) (by rw [oZ hi])
   rw [z2] at T
   cases T
   exact ⟨aP,R2.sf,w2⟩
 obtain ⟨aP,fg,G⟩:=fz
 refine UQ (E:=λ_ _ _=>False) O FB lK F hr hb (λ_ _ _ _ _ _ _ z=>z.elim) I1 r (by show us.length<=sizeLine; rw [<- r.length]; show 1<=sizeLine; decide) hex λe w M=>?_
 have t:zV H1 (upd H1 e (.ext (lW e C))):=λb o z=>(zu (zy z w)).trans z
 refine ⟨aP,e,a,d,ns,rfl,fg.trans t,G,hd,zq ..,λH' l dx L N m f U=>⟨rfl,?_⟩⟩
 have le:l≠e:=λz=>by subst z; rw [zq] at m; cases m
 have W:H1 l=none:=by rwa [zu le] at m
 have h:dx≠e:=λz=>by subst z; rw [L _ _ (zq ..)] at f; cases f
 have P:zV H1 (upd (upd H' e (.ext (iM e C dx))) dx (.ext (gG dx "mirrors" (.ref l)))):=λb o z=>by
  have b1:b≠e:=zy z w
  have S:=L _ _ (t _ _ z)
  rw [zu (zy S f),zu b1]; exact S
 have Z:H1 e=none:=w
 have d0:H1 dx=none:=by
  cases z:H1 dx with
  | none=>rfl
  | some o=>have:=L _ _ (t _ _ z); rw [f] at this; cases this
 have nf:∀ b,H1 b=none->g b=none:=λb z=>by
  cases y:g b with
  | none=>rfl
  | some o=>have:=j.sf _ _ y; rw [z] at this; cases this
 have n:∀ b,H1 b=none->H b=none:=λb z=>by
  cases y:H b with
  | none=>rfl
  | some o=>have:=Y _ _ y; rw [z] at this; cases this
 refine kk e dx l _ g (j.grow P (zV.refl _) (j.sf.trans P) λb o z=>.inl z) (Y.trans P) cJ ?_ (zq ..) ?_ (nf l W) (nf e Z) (nf dx d0) (n l W) (n e Z) (n dx d0) h le U M
 .rw [zu h.symm,zq]
 .rw [zu U.symm,zu le]; exact N
end
end Pk63
namespace FL
open PySem PySem.Spec PyProof.Rows L2
def PV (K:sx) (xs:List V) (H:Hp) (Q:VK):Prop:=∃ a C dx b φ,ExcCls K C/\H a=some (.ext φ)/\(∀ h,φ h->iA a C dx h)/\Q (.bl b) H ∧
 ((∃ T,xs=[.ref a,.ty T]/\v_ K (.ref C) (.type T)=some b)\/(∃ D,xs=[.ref a,.ref D]/\v_ K (.ref C) (.ref D)=some b) ∨
  ∃ (tp:Addr) (c:List Addr),xs=[.ref a,.ref tp]/\H tp=some (.tup (c.map V.ref))/\PySem.W.kitAny K (.ref C) (c.map sT)=some b)
def qv:xm X (.builtin "isinstance") (PV X.K):=by
 intro pins s σ H xs us Q I r ⟨a,C,dx,b,φ,c,p,q,o,h⟩
 have x:Cv a C s.heap:=let ⟨_,_,d⟩:=q _ (I.hok a _ p).1; ⟨_,d,rfl⟩
 have fin:∀ tk,EP X pins σ Q (.bool b) { s with toks:=tk }:=λtk=>⟨.bl b,H,I.tok tk,rfl,o⟩
 rcases h with ⟨T,e,k⟩ | ⟨D,e,k⟩ | ⟨tp,t,e,ht,k⟩ <;> subst e <;> obtain _ | ⟨l,_ | ⟨j,_ | _⟩⟩:=r <;> cases l <;> cases j
 .exact Ah (Yf c) I.kIn x k nofun fin
 .exact Ah (Yf c) I.kIn x k nofun fin
 .obtain ⟨_,ah,i,⟨oc,od,m,eU⟩,d,g,n,f⟩:=I.hok tp _ ht
  cases YN i
  dsimp only at g f
  subst g f
  exact PySem.W.kia_tup (Yf c) I.kIn x d k nofun fin
end FL
namespace Pk63
open PySem PySem.Spec PyProof.Rows L2 FL
structure EndT (K:sx) (mg:Str->Option Value) (base:Heap) (C D fI:Addr) (fd:tU) (bm:List Value) (newId:String):Prop where
 own:OwnCI C fI bm newId base
 bas:AG "ValueError" newId "ValueError.__init__" bm
 cls:XCls K C D "mirrors"
 ex:ExcCls K C
 fn:Ec K (.ref fI)=some (.type "function")
 bi:qB K fd ["self","mirrors"] []
 kp:AI K (.ref C)=true
 mE:mg "Endless"=some (.ref C)
 mD:mg "HouseError"=some (.ref D)
 sub:v_ K (.ref C) (.ref D)=some true
 hd:AU K C=true
 ng:PySem.W.noGet K none=true
 fx:ExcAttrFacts "ValueError"
def numsOf:List FL.D->Option (List Int)
 | []=>some []
 | .int n :: r=>(numsOf r).map (n :: ·)
 | _=>none
theorem numsOf_some:∀ {l:List FL.D} {ns:List Int},numsOf l=some ns->l=ns.map FL.D.int
 | [],_,h=>by cases h; rfl
 | .int n :: r,ns,h=>by
  obtain ⟨ms,e,rfl⟩:=fb.mp h
  rw [numsOf_some e]; rfl
theorem ints_hasL {K:sx} {H:Hp}:∀ (ns:List Int),zB K H (ns.map FL.D.int) (ns.map V.int)
 | []=>zB.nil_iff.mpr rfl
 | n :: ns=>sD.mpr ⟨_,_,rfl,sA.mpr rfl,ints_hasL ns⟩
def Kz (g:List FL.D->Option FL.D):List FL.D->Option FL.D:=λds=>match ds with
 | [.lst l]=>(if l.length < 1000 then numsOf l else none).bind λ_=>g [.lst l,.lst l]
 | _=>none
end Pk63
namespace FL
open PySem PySem.Spec PyProof.Rows L2 PySem.W
section
variable {prog:sH} {w:sU} {A:Around} {K:sx} {E:Value->Shared->Prop} {C:Addr} {env:Env}
def UU (m:mroIn K C (.type "BaseException")=some true) (c:A.handled=none)
  (h:sG (sL prog w) A x (λv a=>∃ e dd a0 sl b,v=.ref e/\K.In a.heap/\a.heap.get? C=some b/\b.cls=.type "type"/\a.heap.get? e=some ⟨.ref C,dd,.fields #[.ref a0,.none,.none,.none,.bool false,.none],sl⟩/\E (.ref e) a) E s):
  sG (sL prog w) A (raiseStmt env (some x) none) Q E s:=by
 unfold raiseStmt
 refine ls (sN h (λv a j=>?_) λ_ _ x=>x)
 obtain ⟨e,dd,a0,sl,b,rfl,X,n,o,f,i⟩:=j
 obtain ⟨l,g,d,tk,os⟩:=a
 have q:=looks_mroIn (M:=sL prog w) X m
 have p:Looks (sL prog w) l (isSubtype (.ref C) (.type "BaseException")) true:=q
 repeat (first | with_reducible refine Em f ?_ | with_reducible refine p.at ?_ | wp_step)
 exact wpAny_raiseNew_none c i
end
end FL
namespace FL
open PySem PySem.Spec PyProof.Rows L2
def o3 (base:Heap) (e:Addr) (cls:Value) (dd:Option Addr) (fl:Value) (h:Heap):Prop:=∃ a vs T oT ts,h.get? e=some a/\a.cls=cls/\a.dict=dd/\a.data=.fields vs/\vs[1]? = some (.ref T) ∧
 base.get? T=none/\T≠e/\h.get? T=some oT/\oT.data=.fields ts/\ts[3]? = some fl
structure LvD (base:Heap) (l:List Env) (e:Addr) (cls:Value) (dd:Option Addr) (fl:Value) (h h':Heap):Prop where
 stays:base.StaysIn h'
 frames:h'.FunFrames base l
 tr:o3 base e cls dd fl h'
 up:h.UpToSlots h'
section
variable {M:Model} {A:Around} {E:Value->Shared->Prop} {s:Shared} {base:Heap} {env:Env} {outer:List Env} {L e:Addr}
def G0 (I:A.frames=some (env :: outer)) (l:s.heap.FunFrames base (env :: outer)) (G:env.frame=some L)
  (n:s.heap.get? e=some i) (C:base.StaysIn s.heap) (B:base.get? e=none) (g:i.data=.fields vs) (c:1 < vs.size)
  (h:∀ h',LvD base (env :: outer) e i.cls i.dict .none s.heap h'->Q () { s with heap:=h' }):
  sG M A (do let a ← frameOf env; let pl ← entryPlaceOf L p; let b ← A_ head a .none (Aj L) .none pl; setField (.ref e) 1 b) (λ_ s'=>sG M A (setFlight (.ref e) none) Q E s') E s:=by
 have J:e∉(env :: outer).filterMap (·.frame):=λr=>by
  obtain ⟨_,o,F,d⟩:=l.mem r
  cases n.symm.trans F
  exact d vs g
 refine ls (wpAny_frameOf_fun I l G λh1 j=>ls (wpAny_entryPlaceOf λpl q=>?_))
 unfold A_; unfold newFields; refine ls (tX ?_ (q.sizeOk5 _ _ _ _ _))
 have m:3 < ([head,.ref L,.none,Aj L,.none]++(if pl.isEmpty then aL 6 tj else pl)).toArray.size:=by simp only [cx,bX,aM,aN]; omega
 generalize ([head,.ref L,.none,Aj L,.none]++(if pl.isEmpty then aL 6 tj else pl)).toArray=ts at m ⊢
 have e1:h1.get? e=some i:=(j.2.1 e J).trans n
 have k1:base.StaysIn h1:=λb o z=>(j.2.1 b λr=>by rw [(l.mem r).1] at z; cases z).trans (C b o z)
 have e2:=mo { cls:=.type "traceback",data:=.fields ts } e1
 have u:h1.objs.size≠e:=mj (sE e1)
 refine Ap e2 g c ?_
 have t:=AN g (·.setIfInBounds 1 (sT h1.objs.size))
 have w:=tw (Az (·.setIfInBounds 1 (sT h1.objs.size))) e2 (AX t)
 have T3:((h1.push { cls:=.type "traceback",data:=.fields ts }).update e (Az (·.setIfInBounds 1 (sT h1.objs.size)))).get? h1.objs.size=some { cls:=.type "traceback",data:=.fields ts } :=
  (sM _ _ (tZ u)).trans (sF h1 rfl)
 unfold setFlight
 refine ls (sS w t (x:=.ref h1.objs.size) (by simp [c]) ?_)
 rw [if_pos (show (sT h1.objs.size != tj)=true by simp)]
 refine Ap T3 rfl m (h _ ?_)
 have keep:∀ b o,b≠e->h1.get? b=some o->(((h1.push { cls:=.type "traceback",data:=.fields ts }).update e (Az (·.setIfInBounds 1 (sT h1.objs.size)))).update h1.objs.size
   (Az (·.setIfInBounds 3 ((none:Option Addr).elim tj λf=>Aj f)))).get? b=some o:=λb o H z=>by
  rw [sM _ _ (mj (sE z)),sM _ _ (tZ H)]
  exact mo _ z
 have v:∀ b o,s.heap.get? b=some o->(∀ vs,o.data≠.fields vs)->b≠e:=λb o z d y=>by
  subst y; cases n.symm.trans z; exact d vs g
 refine ⟨λb o z=>keep b o (λy=>by subst y; rw [B] at z; cases z) (k1 b o z),l.of_keeps λb o z d=>?_,?_,λb o z d=>?_⟩
 .obtain ⟨sl,y⟩:=j.2.2 b o z
  exact ⟨_,keep b _ (v b o z d) y,rfl⟩
 .refine ⟨_,_,h1.objs.size,_,_,(sM _ _ u).trans w,Obj.cls_mapFields _ _,?_,t,by simp [c],k1.fresh,u,tw _ T3 rfl,rfl,by simp [m]⟩
  cases i; simp only at g; subst g; rfl
 .obtain ⟨sl,y⟩:=j.2.2 b o z
  exact ⟨sl,keep b _ (v b o z d) y⟩
def Xi (j:A.frames=some (env :: outer)) (i:s.heap.FunFrames base (env :: outer)) (d:env.frame=some L)
  (c:s.heap.get? e=some a) (g:base.StaysIn s.heap) (f:base.get? e=none) (b:a.data=.fields vs) (h1:vs[1]? = some .none)
  (h:∀ h',LvD base (env :: outer) e a.cls a.dict .none s.heap h'->Q () { s with heap:=h' }):sG M A (leaving env (.ref e)) Q E s:=by
 unfold leaving noteFrame
 simp only [d]
 refine ls (ls (sS c b h1 ?_))
 rw [if_neg (by decide)]
 exact G0 j i d c g f b (tW.mp h1).1 h
def Wp (r:A.frames=some (env :: outer)) (q:s.heap.FunFrames base (env :: outer)) (j:env.frame=some L) (ht:o3 base e cls dd .none s.heap)
  (p:base.StaysIn s.heap) (n:base.get? e=none) (h:∀ h',LvD base (env :: outer) e cls dd .none s.heap h'->Q () { s with heap:=h' }):sG M A (leaving env (.ref e)) Q E s:=by
 obtain ⟨u,vs,T,oT,ts,g,rfl,rfl,f,h1,m,t,d,dT,l⟩:=ht
 unfold leaving noteFrame
 simp only [j]
 refine ls (ls (sS g f h1 ?_))
 rw [if_pos (show (sT T != tj)=true by simp)]
 refine ls (sS d dT l ?_)
 rw [if_neg (show ¬ ((tj==Aj L)=true) by simp [Aj])]
 refine ls (Ap d dT (tW.mp l).1 ?_)
 have c:∀ b,b≠T->(s.heap.update T (Az (·.setIfInBounds 3 tj))).get? b=s.heap.get? b:=λb z=>sM _ _ (tZ z)
 have i:∀ b o,s.heap.get? b=some o->(∀ vs,o.data≠.fields vs)->b≠T:=λb o z a y=>by
  subst y; cases d.symm.trans z; exact a ts dT
 refine G0 r (q.of_keeps λb o z a=>⟨o,(c b (i b o z a)).trans z,rfl⟩) j ((c e (tZ t)).trans g) (λb o z=>(c b λy=>by subst y; rw [m] at z; cases z).trans (p b o z)) n f (tW.mp h1).1
  λh' x=>h h' ⟨x.stays,x.frames,x.tr,λb o z a=>x.up b o ((c b (i b o z a)).trans z) a⟩
end
section
variable {M:Model} {A:Around} {E:Value->Shared->Prop} {s:Shared} {base:Heap} {env:Env} {outer:List Env} {L e:Addr}
def FU (F:A.frames=some (env :: outer)) (j:s.heap.FunFrames base (env :: outer)) (B:env.frame=some L)
  (l:s.heap.get? e=some f) (w:base.StaysIn s.heap) (v:base.get? e=none) (d:f.data=.fields vs) (g:1 < vs.size)
  (h:∀ h',LvD base (env :: outer) e f.cls f.dict (Aj L) s.heap h'->Q () { s with heap:=h' }):
  sG M A (do let a ← frameOf env; let pl ← entryPlaceOf L m; let b ← A_ head a .none (Aj L) .none pl; setField (.ref e) 1 b) Q E s:=by
 have G:e∉(env :: outer).filterMap (·.frame):=λp=>by
  obtain ⟨_,o,x,c⟩:=j.mem p
  cases l.symm.trans x
  exact c vs d
 refine ls (wpAny_frameOf_fun F j B λh1 i=>ls (wpAny_entryPlaceOf λpl n=>?_))
 unfold A_; unfold newFields; refine ls (tX ?_ (n.sizeOk5 _ _ _ _ _))
 have q:([head,.ref L,.none,Aj L,.none]++(if pl.isEmpty then aL 6 tj else pl)).toArray[3]? = some (Aj L):=by simp
 generalize ([head,.ref L,.none,Aj L,.none]++(if pl.isEmpty then aL 6 tj else pl)).toArray=ts at q ⊢
 have e1:h1.get? e=some f:=(i.2.1 e G).trans l
 have k1:base.StaysIn h1:=λb o z=>(i.2.1 b λp=>by rw [(j.mem p).1] at z; cases z).trans (w b o z)
 have e2:=mo { cls:=.type "traceback",data:=.fields ts } e1
 have u:h1.objs.size≠e:=mj (sE e1)
 refine Ap e2 d g (h _ ?_)
 have t:=AN d (·.setIfInBounds 1 (sT h1.objs.size))
 have keep:∀ b o,b≠e->h1.get? b=some o->((h1.push { cls:=.type "traceback",data:=.fields ts }).update e (Az (·.setIfInBounds 1 (sT h1.objs.size)))).get? b=some o:=λb o C z=>by
  rw [sM _ _ (tZ C)]
  exact mo _ z
 have r:∀ b o,s.heap.get? b=some o->(∀ vs,o.data≠.fields vs)->b≠e:=λb o z c y=>by
  subst y; cases l.symm.trans z; exact c vs d
 refine ⟨λb o z=>keep b o (λy=>by subst y; rw [v] at z; cases z) (k1 b o z),j.of_keeps λb o z c=>?_,?_,λb o z c=>?_⟩
 .obtain ⟨sl,y⟩:=i.2.2 b o z
  exact ⟨_,keep b _ (r b o z c) y,rfl⟩
 .refine ⟨_,_,h1.objs.size,_,_,tw _ e2 (AX t),Obj.cls_mapFields _ _,?_,t,by simp [g],k1.fresh,u,(sM _ _ (tZ u)).trans (sF h1 rfl),rfl,q⟩
  cases f; simp only at d; subst d; rfl
 .obtain ⟨sl,y⟩:=i.2.2 b o z
  exact ⟨sl,keep b _ (r b o z c) y⟩
def Nd (r:A.frames=some (env :: outer)) (q:s.heap.FunFrames base (env :: outer)) (j:env.frame=some L) (ht:o3 base e cls dd .none s.heap)
  (p:base.StaysIn s.heap) (n:base.get? e=none) (h:∀ h',LvD base (env :: outer) e cls dd (Aj L) s.heap h'->Q () { s with heap:=h' }):sG M A (noteFrame (.ref e) env) Q E s:=by
 obtain ⟨u,vs,T,oT,ts,g,rfl,rfl,f,h1,m,t,d,dT,l⟩:=ht
 unfold noteFrame
 simp only [j]
 refine ls (sS g f h1 ?_)
 rw [if_pos (show (sT T != tj)=true by simp)]
 refine ls (sS d dT l ?_)
 rw [if_neg (show ¬ ((tj==Aj L)=true) by simp [Aj])]
 refine ls (Ap d dT (tW.mp l).1 ?_)
 have c:∀ b,b≠T->(s.heap.update T (Az (·.setIfInBounds 3 tj))).get? b=s.heap.get? b:=λb z=>sM _ _ (tZ z)
 have i:∀ b o,s.heap.get? b=some o->(∀ vs,o.data≠.fields vs)->b≠T:=λb o z a y=>by
  subst y; cases d.symm.trans z; exact a ts dT
 refine FU r (q.of_keeps λb o z a=>⟨o,(c b (i b o z a)).trans z,rfl⟩) j ((c e (tZ t)).trans g) (λb o z=>(c b λy=>by subst y; rw [m] at z; cases z).trans (p b o z)) n f (tW.mp h1).1
  λh' x=>h h' ⟨x.stays,x.frames,x.tr,λb o z a=>x.up b o ((c b (i b o z a)).trans z) a⟩
def D8 (t:s.heap.FunFrames base l) (ht:o3 base e cls dd fl s.heap) (r:base.StaysIn s.heap)
  (h:∀ h',LvD base l e cls dd .none s.heap h'->Q () { s with heap:=h' }):sG M A (setFlight (.ref e) none) Q E s:=by
 obtain ⟨q,vs,T,oT,ts,i,rfl,rfl,g,h1,m,p,d,dT,u⟩:=ht
 unfold setFlight
 refine ls (sS i g h1 ?_)
 rw [if_pos (show (sT T != tj)=true by simp)]
 have z3:=(tW.mp u).1
 refine Ap d dT z3 (h _ ?_)
 have c:∀ b,b≠T->(s.heap.update T (Az (·.setIfInBounds 3 ((none:Option Addr).elim tj λf=>Aj f)))).get? b=s.heap.get? b:=λb z=>sM _ _ (tZ z)
 have j:∀ b o,s.heap.get? b=some o->(∀ vs,o.data≠.fields vs)->b≠T:=λb o z a y=>by
  subst y; cases d.symm.trans z; exact a ts dT
 have n:=AN dT (·.setIfInBounds 3 ((none:Option Addr).elim tj λf=>Aj f))
 refine ⟨λb o z=>(c b λy=>by subst y; rw [m] at z; cases z).trans (r b o z),t.of_keeps λb o z a=>⟨o,(c b (j b o z a)).trans z,rfl⟩,
  ⟨q,vs,T,_,_,(c e (tZ p)).trans i,rfl,rfl,g,h1,m,p,tw _ d (AX n),n,by simp [z3]⟩,λb o z a=>⟨o.slots,(c b (j b o z a)).trans z⟩⟩
end
def Mj (outer:List Env) (h₀:Heap) (H:Hp) (a C dx:Addr) (h:Heap):Prop :=
 H a=none/\h₀.get? a=none/\∃ B:Heap,B.StaysIn h/\B.get? a=none/\h.FunFrames B outer/\o3 B a (.ref C) (some dx) .none h/\(∀ b o,H b=some o->∃ ob,B.get? b=some ob)/\∀ b o,h₀.get? b=some o->b∉cg outer->∃ ob,B.get? b=some ob
def bw (P:sH) (w:sU):iB:=λouter H s E e s'=>∃ (a C dx:Addr) (H':Hp),e=.ref a/\s'.os=s.os/\AllBare s'.gens/\Un (cg outer) [] H H' s.heap s'.heap/\cj P w H' s'.heap/\Mj outer s.heap H' a C dx s'.heap/\E (.ref C) (some dx) H'
def GS (H:Hp) (a:Addr):Hp:=λb=>if b=a then none else H b
def Xh:GS H a a=none:=if_pos rfl
def xY (h:b≠a):GS H a b=H b:=if_neg h
def Xg {H:Hp} {a b:Addr} {o:HO} (h:GS H a b=some o):b≠a/\H b=some o:=by
 by_cases e:b=a
 .subst e; rw [Xh] at h; cases h
 .exact ⟨e,by rwa [xY e] at h⟩
def D5 {P:sH} {w:sU} {K:sx} {mg:Str->Option Value} {base:Heap} {N:List Str} {qual:Str} {scope:Scope} {f:Addr} {aq:Value} {A:Around} {outer:List Env} {s₀:Shared} {H₀:Hp} {E:XK}
  {pins:List (Addr×Obj)} {σ:St} {H:Hp} {s:Shared} (I:Inv (xA (bw P w) P w K mg base N qual scope f aq A outer s₀ H₀ E) pins σ H s) {e C dx:Addr} (i:H e=some (.ext (iM e C dx))) (J:s₀.heap.get? e=none)
  (W:E (.ref C) (some dx) (GS H e)):(xA (bw P w) P w K mg base N qual scope f aq A outer s₀ H₀ E).xe (.ref e) s:=by
 obtain ⟨⟨a0,R,Z⟩,_,_⟩:=I.hok e _ i
 have Y:(A.deeper (envOfC qual scope s₀.heap.objs.size f aq)).frames=some (envOfC qual scope s₀.heap.objs.size f aq :: outer):=I.ok.frames
 have stk:s.heap.FunFrames base (envOfC qual scope s₀.heap.objs.size f aq :: outer):=I.stack
 have free:∀ b∈cg (envOfC qual scope s₀.heap.objs.size f aq :: outer),H b=none:=I.stkFree
 have G:∀ env∈(envOfC qual scope s₀.heap.objs.size f aq :: outer),∀ b,env.frame=some b->b∈e :: cg (envOfC qual scope s₀.heap.objs.size f aq :: outer):=λenv d b a=>br _ (lO.mpr ⟨env,d,a⟩)
 have j:cg (envOfC qual scope s₀.heap.objs.size f aq :: outer)=s₀.heap.objs.size :: cg outer:=rfl
 have enf:e∉cg (envOfC qual scope s₀.heap.objs.size f aq :: outer):=λd=>by have:=free e d; rw [i] at this; cases this
 have l:(A4 s.heap (e :: cg (envOfC qual scope s₀.heap.objs.size f aq :: outer))).get? e=none:=by
  cases z:(A4 s.heap (e :: cg (envOfC qual scope s₀.heap.objs.size f aq :: outer))).get? e with
  | none=>rfl
  | some o =>
   have:=PySem.W.of_hideAll _ (show (A4 (s.heap.hide e) (cg (envOfC qual scope s₀.heap.objs.size f aq :: outer))).get? e=some o from z)
   rw [PySem.Heap.hide_self] at this; cases this
 refine Xi (base:=A4 s.heap (e :: cg (envOfC qual scope s₀.heap.objs.size f aq :: outer))) Y (PySem.W.funFrames_hide stk G) rfl Z (λb o q=>PySem.W.of_hideAll _ q) l rfl rfl λh2 T=>?_
 obtain ⟨lst,⟨_,_,B⟩,v,t⟩:=T
 have stay:∀ b o,s.heap.get? b=some o->b≠e->b∉cg (envOfC qual scope s₀.heap.objs.size f aq :: outer)->h2.get? b=some o:=λb o q a d=>lst b o (A5 _ q λz=>(aQ.mp z).elim a d)
 have h:∀ b o,s₀.heap.get? b=some o->b∉cg outer->b∉cg (envOfC qual scope s₀.heap.objs.size f aq :: outer):=λb o q a d=>by
  rw [j] at d
  rcases aQ.mp d with z | z
  .subst z; exact absurd (sE q) (ml _)
  .exact a z
 have g:∀ b o,s₀.heap.get? b=some o->b≠e:=λb o q z=>by subst z; rw [J] at q; cases q
 have noex:∀ b:Addr,b∉(xA (bw P w) P w K mg base N qual scope f aq A outer s₀ H₀ E).ex:=λb z=>absurd (show b∈([]:List Addr) from z) (by simp)
 have F:∀ b∈cg outer,∀ o,s₀.heap.get? b=some o->∀ vs,o.data≠.fields vs:=λb a o r vs hd=>by
  obtain ⟨_,o',O,U⟩:=I.ok.funs.mem a
  rw [show (xA (bw P w) P w K mg base N qual scope f aq A outer s₀ H₀ E).s₀=s₀ from rfl] at O
  cases r.symm.trans O
  exact U vs hd
 have sl:∀ b∈cg outer,∀ o,s₀.heap.get? b=some o->∃ sl,h2.get? b=some { o with slots:=sl }:=λb a o r=>by
  obtain ⟨Q,e1⟩:=I.base.slot b o r (I.ok.frf b a) a (noex b)
  obtain ⟨X,e2⟩:=t b _ e1 λvs hd=>F b a o r vs hd
  exact ⟨X,e2⟩
 refine ⟨e,C,dx,GS H e,rfl,I.os,I.bare,⟨λb o q n a _=>stay b o (I.base.keep b o q n a (noex b)) (g b o q) (h b o q a),λb o q n a _=>sl b a o q,λb o q n _=>(xY (g b o q)).trans (I.base.free b o q n (noex b)),λb o q _=>?_,
  λb xs q=>?_,λb ob x q=>?_,λb ps q=>?_⟩,λb o q=>?_,⟨Xh,J,_,lst,l,B,v,λb o q=>?_,λb o q a=>?_⟩,W⟩
 .by_cases a:b∈cg outer
  .obtain ⟨s1,e1⟩:=sl b a o q; exact ⟨_,e1⟩
  .obtain ⟨p,e1⟩:=I.base.there b o q (noex b)
   exact ⟨p,stay b p e1 (g b o q) (h b o q a)⟩
 .exact (xY (λz=>by subst z; have:=I.base.tups _ xs q; rw [i] at this; cases this)).trans (I.base.tups b xs q)
 .exact (xY (λz=>by subst z; have:=I.base.frzs _ ob x q; rw [i] at this; cases this)).trans (I.base.frzs b ob x q)
 .obtain ⟨m,z⟩:=I.base.tbls b ps q
  exact ⟨m,(xY (λy=>by subst y; rw [i] at z; cases z)).trans z⟩
 .obtain ⟨a,q⟩:=Xg q
  have M:∀ c y,H c=some (.own y)->c≠e:=λc y z x=>by subst x; rw [i] at z; cases z
  have S:∀ c xs,H c=some (.tup xs)->c≠e:=λc xs z x=>by subst x; rw [i] at z; cases z
  refine (I.hok b o q).stay (λc u L e1=>stay c u e1 ?_ λd=>?_) (λc z=>(xY (M c _ z)).trans z) λc xs z=>(xY (S c xs z)).trans z
  .rcases L with z | z
   .rw [z]; exact a
   .exact M c _ z
  .have:=free c d
   rcases L with z | z
   .subst z; rw [q] at this; cases this
   .rw [z] at this; cases this
 .obtain ⟨a,q⟩:=Xg q
  obtain ⟨ob,e1⟩:=Kr (I.hok b o q)
  exact ⟨ob,A5 _ e1 λd=>(aQ.mp d).elim a λd=>by have:=free b d; rw [q] at this; cases this⟩
 .obtain ⟨p,e1⟩:=I.base.there b o q (noex b)
  exact ⟨p,A5 _ e1 λd=>(aQ.mp d).elim (g b o q) (h b o q a)⟩
def UX {P:sH} {w:sU} {K:sx} {mg:Str->Option Value} {base:Heap} {N:List Str} {qual:Str} {scope:Scope} {f:Addr} {aq:Value} {A:Around} {outer:List Env} {s₀:Shared} {H₀:Hp} {E:XK}
  {ex:Expr} {te:TE} {pos:Pos} {C fI:Addr} {bm:List Value} {newId:String} (O:OwnCI C fI bm newId base) (g:Eu K C (.type "BaseException")=some true)
  (i:PE (xA (bw P w) P w K mg base N qual scope f aq A outer s₀ H₀ E) ex te) :
  PS (xA (bw P w) P w K mg base N qual scope f aq A outer s₀ H₀ E) (.Raise (some ex) none pos) (λ_ σ H=>te σ H λv H1=>∃ e dx,v=.ref e/\H1 e=some (.ext (iM e C dx))/\s₀.heap.get? e=none/\E (.ref C) (some dx) (GS H1 e)):=by
 intro pins s σ H D' I h
 obtain ⟨tl,q,nm,o,bs,eM,sn,sub,ab,col,dd,k0,k1,k2,k3,k5,mN,l,p,d,T⟩:=O.obj
 rw [arm_exec_Raise]
 refine ls (Ep (UU (K:=K) g (I.ok.hd rfl) ?_))
 refine ls (thn (i pins s σ H _ I h) λu s1 ⟨v,H1,a,b,e,dx,m,h1,c,j⟩=>ls (Ep (su ?_)))
 subst m
 obtain rfl:u=sT e:=b
 obtain ⟨⟨a0,sl,n⟩,_,_⟩:=a.hok e _ h1
 exact ⟨e,some dx,a0,sl,_,rfl,a.kIn,a.bk _ _ l,rfl,n,D5 a h1 c j⟩
def M7 {P:sH} {w:sU} {K:sx} {mg:Str->Option Value} {base:Heap} {N:List Str} {qual:Str} {scope:Scope} {f:Addr} {aq:Value} {A:Around} {outer:List Env} {s₀:Shared} {H₀:Hp} {E:XK} :
  ZJ (bw P w) (xA (bw P w) P w K mg base N qual scope f aq A outer s₀ H₀ E) E:=by
 intro pins σ H s e s' I ⟨a,C,dx,H1,L,os,bare,un,hok,⟨p,g,B,f1,f2,G,F,j,i⟩,t⟩
 subst L
 have y:(A.deeper (envOfC qual scope s₀.heap.objs.size f aq)).frames=some (envOfC qual scope s₀.heap.objs.size f aq :: outer):=I.ok.frames
 have fr:∀ b∈cg (envOfC qual scope s₀.heap.objs.size f aq :: outer),H b=none/\∀ o,s.heap.get? b=some o->∀ vs,o.data≠.fields vs:=λb c=>by
  refine ⟨I.stkFree b c,λo q vs hd=>?_⟩
  obtain ⟨_,o',M,nf⟩:=I.stack.mem c
  cases q.symm.trans M
  exact nf vs hd
 have noex:∀ b:Addr,b∉(xA (bw P w) P w K mg base N qual scope f aq A outer s₀ H₀ E).ex:=λb z=>absurd (show b∈([]:List Addr) from z) (by simp)
 have d:∀ b o,s₀.heap.get? b=some o->b∉cg outer->b∉cg (envOfC qual scope s₀.heap.objs.size f aq :: outer):=λb o q c r=>by
  rcases aQ.mp (show b∈s₀.heap.objs.size :: cg outer from r) with z | z
  .subst z; exact absurd (sE q) (ml _)
  .exact c z
 refine Wp y G rfl F f1 f2 λh2 n=>?_
 obtain ⟨h,⟨_,_,x⟩,v,up⟩:=n
 have J:Inv (xA (bw P w) P w K mg base N qual scope f aq A outer s₀ H₀ E) pins σ H1 { s' with heap:=h2 }:=I.call' (ch:=[]) os (Uy un fr i f1 h up) (Wu hok j f1 h) bare (λb z=>absurd z (by simp))
 refine ⟨a,C,dx,H1,rfl,J.os,J.bare,J.base,J.hok,⟨p,?_,B,h,f2,x,v,j,λb o q c=>?_⟩,t⟩
 .cases z:s₀.heap.get? a with
  | none=>rfl
  | some o=>obtain ⟨u,l⟩:=I.base.there a o z (noex a); rw [g] at l; cases l
 .obtain ⟨m,e1⟩:=I.base.there b o q (noex b)
  exact i b m e1 (d b o q c)
def UB (x:o3 B a (.ref C) (some dx) fl h):iA a C dx h:=by
 obtain ⟨⟨oc,od,d,eU⟩,vs,_,_,_,e,c,hd,b,_⟩:=x
 dsimp only at c hd b
 subst c hd b
 exact ⟨_,_,e⟩
def Mh (X:Cx) (body:List Stmt) (t:XK->TS):Prop :=
 ∀ (pins:List (Addr×Obj)) (s:Shared) (σ:St) (H:Hp) (D:Ends) (E:XK),Inv X pins σ H s->t E D σ H->sG (sL X.prog X.w) X.A (execs body X.env) (SP X pins D) (λe s'=>∃ a s0,Inv X pins σ a s0/\bw X.prog X.w X.stack a s0 E e s') s
def j8 (F:FnOk X.prog X.w X.K X.mg X.base (bw X.prog X.w) k f fd ps sp) (l:Room k X.A) (w:Gl X x) (m:X.mg x=some (.ref f))
  (o:AI X.K (.ref f)=true) (z:qB X.K fd ps []) (A:∀ E,PA (X.wish E) (e :: es) t) (j:As (.Call (.Name x p) (e :: es) [] pos) none ep.line X.env=pure false:=by rfl) (c:(x==("__debug__":Str))=false:=by decide)
  (y:sC (e :: es) X.env=(false,eval e X.env) :: sC es X.env:=by rfl) (b:(tV pos (sC es X.env)).any (·.1)=false:=by rfl):
  Mh X [.Expr (.Call (.Name x p) (e :: es) [] pos) ep] (λE D σ H=>t σ H λvs H1=>sp vs H1 (λ_ H2=>D.nx σ H2) E):=by
 intro pins s σ H D E I h
 refine Ez (wpAny_Expr_any (AJ (qL I w m ?_ c)) I.quiet j)
 refine PySem.W.callWith_K (h₀:=X.base) I.ok.mod.kin o (thn (A (λe s'=>∃ g s0,Inv X pins σ g s0/\bw X.prog X.w X.stack g s0 E e s') pos pins s σ H _ (I.wish _) h) λus s1 ⟨vs,H1,d,r,q⟩=>⟨d.kIn,?_⟩) y b
 have J:=d.unwish
 have n:(us++([]:List Value)).length=ps.length:=by rw [cO,<- r.length]; exact F.len _ _ _ _ q
 refine Ee (codeAny_mono (F.run X.A X.stack s1 H1 ⟨us,[]⟩ (us++[]) vs _ E l J.env0 (z s1 us J.kIn n) (by rw [cO]; exact r) q) λr s' a=>?_)
 cases r with
 | error e=>exact ⟨H1,s1,J,a⟩
 | ok fl=>cases fl with
  | ret u =>
   obtain ⟨v,H2,B,C,i⟩:=J.after a
   exact Ar ⟨σ,H2,B,i⟩
  | next=>exact tu a
  | brk=>exact tu a
  | cont=>exact tu a
def HU {X:Cx} {body:List Stmt} {tb:XK->TS} (l:Mh X body tb) (y:X.stack=X.env :: X.outer/\X.env.frame=some X.env.locals) {D:Addr} {m n:Str} {i:Nat} {G:Stmt} {N:List Stmt} {ts:TS} {dp T pos:Pos} (U:Gl X m) (W:X.mg m=some (.ref D)) (L:X.N.Nodup) (hi:X.N[i]? = some n)
  (t:X.env.scope.names.lookup n=some .local) (R:∀ a,eX ((pR X (.ref a)).wish λ_ _=>False) (G :: N) ts) (w:(m==("__debug__":Str))=false:=by decide) :
  PS X (.Try body [.ExceptHandler (some (.Name m dp)) (some n) (G :: N) T] [] [] pos)
   (λF σ H=>tb (λcl od H'=>∃ C dx,cl=.ref C/\od=some dx/\Catches X.K D C/\∀ a,H' a=none->ts { nx:=λaB H2=>F.nx (aB.set i none) H2,rt:=λ_ _=>False } (σ.set i (some (.ref a))) (upd H' a (.ext (iA a C dx)))) F σ H):=by
 intro pins s σ H F I h
 refine wpAny_Try_except (sN (l pins s σ H F _ I h) (λf s1 q=>?_) λe s1 ⟨H0,s0,p,a,C,dx,H1,ea,os,bare,un,hok,⟨r,x,B,f1,f2,O,f4,E,A⟩,C',dx',eC,eD,ct,S⟩=>?_)
 .cases f with
  | next=>exact Ar q
  | ret u=>exact q
  | brk=>exact q
  | cont=>exact q
 subst ea
 cases eC
 cases eD
 have fr:∀ b∈cg X.stack,H0 b=none/\∀ o,s0.heap.get? b=some o->∀ vs,o.data≠.fields vs:=λb l=>by
  refine ⟨p.stkFree b l,λo q vs hd=>?_⟩
  obtain ⟨_,o',cR,nf⟩:=p.stack.mem l
  cases q.symm.trans cR
  exact nf vs hd
 have g:∀ h2:Heap,B.StaysIn h2->s1.heap.UpToSlots h2->Inv X pins σ H1 { s1 with heap:=h2 }:=λh2 k up =>
  p.call' (ch:=[]) os (Uy un fr A f1 k up) (Wu hok E f1 k) bare (λb z=>absurd z (by simp))
 have Z:X.A.frames=some (X.env :: X.outer):=by rw [I.ok.frames,y.1]
 rw [y.1] at O
 refine Nd Z O y.2 f4 f1 f2 λh2 d=>?_
 refine D8 d.frames d.tr d.stays λM c=>?_
 refine kC ct (qL (X:=pR X (.ref a)) (QI (g M c.stays (d.up.trans c.up))) U W ⟨rfl,(g M c.stays (d.up.trans c.up)).kIn,(let ⟨_,_,z⟩:=UB c.tr; ⟨_,z,rfl⟩),?_⟩ w)
 refine D8 c.frames c.tr c.stays λY j=>?_
 have up:=(d.up.trans c.up).trans j.up
 have J:Inv X pins σ (upd H1 a (.ext (iA a C dx))) { s1 with heap:=Y } :=
  p.call' (ch:=[]) os (Ux (Uy un fr A f1 j.stays up) x r) (Vq (Wu hok E f1 j.stays) r (FR (UB j.tr))) bare (λb z=>absurd z (by simp))
 refine uP (X:=pR X (.ref a)) (v:=.ref a) (QI J) L hi (.inl t) rfl (λP I5=>?_) (.inr t)
 refine sN (R a pins P _ _ _ (I5.wish _) (S a r)) (λf s6 q=>?_) λ_ _ z=>z
 cases f with
 | next =>
  obtain ⟨aB,H2,I6,Q⟩:=q
  exact Qo (QF I.ok.hd I6.unwish) L hi t λs7 I7=>⟨_,_,I7,Q⟩
 | ret u=>obtain ⟨_,_,_,_,_,z⟩:=q; exact z.elim
 | brk=>obtain ⟨_,_,_,z⟩:=q; exact z.elim
 | cont=>obtain ⟨_,_,_,z⟩:=q; exact z.elim
def UW (l:PT X.nox c tc) (n:Mh X a ta) (m:Mh X b tb):
  Mh X [.If c a b pos] (λE D σ H=>tc σ H λd H1=>if d=true then ta E D σ H1 else tb E D σ H1):=by
 intro pins s σ H D E I h
 refine Ez (wpAny_If (sN (l pins s σ H _ (I.wish _) h) (λd s1 ⟨H1,i,g⟩=>?_) λ_ _ z=>tu z))
 have fin:∀ f s',SP X pins D f s'->(match f with | .next=>sG (sL X.prog X.w) X.A (execs [] X.env) (SP X pins D) (λe s'=>∃ j s0,Inv X pins σ j s0/\bw X.prog X.w X.stack j s0 E e s') s' | f=>SP X pins D f s'):=λf s' z=>by
  cases f with
  | next=>exact Ar z
  | ret u=>exact z
  | brk=>exact z
  | cont=>exact z
 cases d with
 | true=>exact sN (n pins s1 σ H1 D E i.unwish g) fin λ_ _ z=>z
 | false=>exact sN (m pins s1 σ H1 D E i.unwish g) fin λ_ _ z=>z
inductive RE
 | v (d:D) | en (ns:List Int)
def P6 (K:sx) (C:Addr) (H Hf:Hp) (Q:VK) (E:XK):RE->Prop
 | .v d=>∀ v H' ao,Grows H Hf H' ao->af K ao d v->Q v H'
 | .en ns=>∀ dx l H' ao,Grows H Hf H' ao->H' dx=some (.ext (gG dx "mirrors" (.ref l)))->H' l=some (.lst (ns.map V.int))->ao dx=none->ao l=none->H dx=none->H l=none->dx≠l->E (.ref C) (some dx) H'
def spE (K:sx) (C:Addr) (n:Nat) (g:List D->Option RE):Sp:=λvs H Q E=>∃ Hf ds r,zV Hf H/\zB K Hf ds vs/\ds.length=n/\g ds=some r/\P6 K C H Hf Q E r
structure HasFnE (P:sH) (w:sU) (K:sx) (mg:Str->Option Value) (base:Heap) (C:Addr) (k:Nat) (x:Str) (n:Nat) (g:List D->Option RE):Prop where
 ex:∃ (f:Addr) (fd:tU) (ps:List Str),FnOk P w K mg base (bw P w) k f fd ps (spE K C n g)/\mg x=some (.ref f)/\AI K (.ref f)=true/\qB K fd ps []
end FL
namespace Pk63
open PySem PySem.Spec PyProof.Rows L2 FL
def Gu (K:sx) (C:Addr) (c b g2:List FL.D->Option RE):Sp:=λvs H Q _=>∃ Hf k d ns,zV Hf H/\zB K Hf [.int k,d] vs/\(if k=0 then c [d] else if k=1 then b [d] else g2 [d])=some (.en ns) ∧
 ∀ a dx l H' ao,Grows H Hf H' ao->H' a=some (.ext (iA a C dx))->H' dx=some (.ext (gG dx "mirrors" (.ref l)))->H' l=some (.lst (ns.map V.int))->ao a=none->ao dx=none->ao l=none->H a=none->H dx=none->H l=none->dx≠l->dx≠a->l≠a->Q (.ref a) H'
structure FourT (K:sx) (mg:Str->Option Value) (C CH CT CW CM:Addr):Prop where
 mH:mg "NoHouse"=some (.ref CH)
 mT:mg "NoText"=some (.ref CT)
 mW:mg "NoWord"=some (.ref CW)
 mM:mg "TooMany"=some (.ref CM)
 own:v_ K (.ref C) (.ref C)=some true
 not:PySem.W.kitAny K (.ref C) [.ref CH,.ref CT,.ref CW,.ref CM]=some false
 val:v_ K (.ref C) (.type "ValueError")=some true
def none_same (s:zV A B) (z:B b=none):A b=none:=by
 cases y:A b with
 | none=>rfl
 | some o=>have:=s _ _ y; rw [z] at this; cases this
def Mn (b a g2:List FL.D->Option RE) (g:List FL.D->Option FL.D):List FL.D->Option FL.D:=λds=>match ds with | [.int i,d,p]=>(match (if i=0 then b [d] else if i=1 then a [d] else g2 [d]) with | some (.en ns)=>(match g [.lst (ns.map FL.D.int),p] with | some (.bl true)=>if ns.length < 1000 then some (.bl true) else none | _=>none) | _=>none) | _=>none
end Pk63
namespace FL
open PySem PySem.Spec PyProof.Rows L2
inductive OutY where
 | o (x:Out) | en (ns:List Int)
abbrev fc:=aI->Option OutY
def Mz (K:sx) (C:Addr) (H₀ aa Hf:Hp) (D':Ends) (E:XK):OutY->Prop
 | .o x=>CJ K H₀ aa Hf D' x
 | .en ns=>∀ dx l aB ρ' H' ao,Rep K H₀ aa aB ρ' H' ao->zV Hf ao->H' dx=some (.ext (gG dx "mirrors" (.ref l)))->H' l=some (.lst (ns.map V.int))->ao dx=none->ao l=none->H₀ dx=none->H₀ l=none->dx≠l->E (.ref C) (some dx) H'
def Mz.mono {K:sx} {C:Addr} {H₀ aa Hf a:Hp} {D':Ends} {E:XK} {o:OutY} (k:Mz K C H₀ aa Hf D' E o) (t:zV Hf a):Mz K C H₀ aa a D' E o:=by
 cases o with
 | o x=>exact CJ.mono k t
 | en ns=>exact λdx l aB ρ' H' ao R s=>k dx l aB ρ' H' ao R (t.trans s)
def tY (K:sx) (C:Addr) (E:XK) (G:fc):TS:=λD' σ H=>∃ H₀ aa ρ Hf o,Rep K H₀ aa σ ρ H Hf/\G ρ=some o/\Mz K C H₀ aa Hf D' E o
def DY (X:Cx) (C:Addr) (E:XK) (st:Stmt) (G:fc):Prop:=PS X st (tY X.K C E G)
def nL (X:Cx) (C:Addr) (E:XK) (iD:List Stmt) (G:fc):Prop:=eX X iD (tY X.K C E G)
section
variable {X:Cx} {C:Addr} {E:XK} {c:Expr} {ft:FT} {pos:Pos} {st:Stmt} {wo:List Stmt} {F:FS} {G G1 G2:fc}
def KC (F:FS):fc:=λρ=>(F ρ).map OutY.o
def Xw (h:DS X st F):DY X C E st (KC F):=y8 h λD' σ H ⟨H₀,aa,ρ,Hf,o,R,q,k⟩=>by
 obtain ⟨o',e,rfl⟩:=fb.mp q
 exact ⟨H₀,aa,ρ,Hf,o',R,e,k⟩
def nxY:fc:=λρ=>some (.o (.nx ρ))
def B4:nL X C E [] nxY:=ka j9 λD' σ H ⟨H₀,aa,ρ,Hf,o,R,q,k⟩=>by cases q; exact k _ _ _ R zD
def mL (F G:fc):fc:=λρ=>(F ρ).bind λo=>match o with
 | .o (.nx ρ')=>G ρ'
 | o=>some o
def wN (h1:DY X C E st G1) (h2:nL X C E wo G2):nL X C E (st :: wo) (mL G1 G2):=ka (yL h1 h2) λD' σ H ⟨H₀,aa,ρ,Hf,o,R,q,k⟩=>by
 obtain ⟨a,e1,e2⟩:=iq.mp q
 refine ⟨H₀,aa,ρ,Hf,a,R,e1,?_⟩
 cases a with
 | en ns=>cases e2; exact k
 | o x=>cases x with
  | nx ρ'=>exact λaB H' ao R' s'=>⟨H₀,aa,ρ',ao,o,R',e2,k.mono s'⟩
  | bk _=>cases e2; exact k
  | ct _=>cases e2; exact k
  | rt _=>cases e2; exact k
def Yu (h1:DY X C E st G):nL X C E [st] G:=wR h1
def ifY (c:FT) (F G:fc):fc:=λρ=>(c ρ).bind λb=>if b=true then F ρ else G ρ
def Nu (f:DT X c ft) (h:nL X C E a G1) (g:nL X C E b G2):DY X C E (.If c a b pos) (ifY ft G1 G2):=y8 (UY f h g) λD' σ H ⟨H₀,aa,ρ,Hf,o,R,q,k⟩=>by
 obtain ⟨x,e1,e2⟩:=iq.mp q
 refine ⟨H₀,aa,ρ,Hf,x,R,e1,λH1 d e s1 t1=>?_⟩
 cases x with
 | true=>exact BM ⟨H₀,aa,ρ,d,o,e,e2,k.mono t1⟩
 | false=>exact BN ⟨H₀,aa,ρ,d,o,e,e2,k.mono t1⟩
end
end FL
namespace Pk63
open PySem PySem.Spec PyProof.Rows L2 FL
def J4 {K:sx} {H₀ aa H Hf:Hp} {σ:L2.St} {ρ:aI} {e:Addr} (R:Rep K H₀ aa σ ρ H Hf) (l:H₀ e=none) (j:Hf e=none) (h:∀ (i:Nat) (sl:Slot) (a:Addr),ρ[i]? = some sl->sl.own=true->σ[i]? = some (some (.ref a))->a≠e) :
  Rep K H₀ aa σ ρ (GS H e) Hf:=by
 refine ⟨λb o z=>(xY (zy z l)).trans (R.s0 _ _ z),λb o z=>(xY (zy z j)).trans (R.sf _ _ z),R.nf,R.f0,R.len,R.fr,λi sl z ow=>?_,R.inj⟩
 obtain ⟨a,c,g,f,d⟩:=R.ow i sl z ow
 exact ⟨a,c,g.mono (λo y=>(xY (h i sl a z ow c)).trans y) (zV.refl _),f,d⟩
def enY (fa:FA):fc:=λρ=>(fa ρ).bind λl=>match l with
 | [.lst ds]=>(numsOf ds).map .en
 | [.tup ds]=>(numsOf ds).map .en
 | _=>none
def K4 {P:sH} {w:sU} {K:sx} {mg:Str->Option Value} {base:Heap} {N:List Str} {qual:Str} {scope:Scope} {f:Addr} {aq:Value} {A:Around} {outer:List Env} {s₀:Shared} {H₀:Hp} {E:XK}
  {e1:Expr} {fa:FA} {np aA pos:Pos} {C D fI:Addr} {h:tU} {bm:List Value} {newId:String} {k:Nat} (Z:EndT K mg base C D fI h bm newId) (F:FnOk P w K mg base bF k fI h ["self","mirrors"] (Gv K C))
  (v:Room (k+1) (xA (bw P w) P w K mg base N qual scope f aq A outer s₀ H₀ E).A) (x:Gl (xA (bw P w) P w K mg base N qual scope f aq A outer s₀ H₀ E) "Endless") (G:fN (xA (bw P w) P w K mg base N qual scope f aq A outer s₀ H₀ E) [e1] fa)
  (B:sC [e1] (xA (bw P w) P w K mg base N qual scope f aq A outer s₀ H₀ E).env=(false,eval e1 (xA (bw P w) P w K mg base N qual scope f aq A outer s₀ H₀ E).env) :: sC [] (xA (bw P w) P w K mg base N qual scope f aq A outer s₀ H₀ E).env:=by rfl)
  (c:(tV aA (sC [] (xA (bw P w) P w K mg base N qual scope f aq A outer s₀ H₀ E).env)).any (·.1)=false:=by rfl) :
  DY (xA (bw P w) P w K mg base N qual scope f aq A outer s₀ H₀ E) C E (.Raise (some (.Call (.Name "Endless" np) [e1] [] aA)) none pos) (enY fa) :=
 y8 (UX Z.own Z.cls.bas (U7 Z.own Z.bas Z.fn F v Z.bi Z.kp x Z.mE G (λ_=>ED) (by decide) B c)) λD' σ H ⟨T,aa,ρ,Hf,o,R,q,kk⟩=>by
  obtain ⟨t,n,b⟩:=iq.mp q
  obtain ⟨d,ns,rfl,hd,rfl⟩:∃ d ns,t=[d]/\(d=.lst (ns.map FL.D.int)\/d=.tup (ns.map FL.D.int))/\o=.en ns:=by
   split at b
   .obtain ⟨ns,y,rfl⟩:=fb.mp b; exact ⟨_,ns,rfl,.inl (by rw [numsOf_some y]),rfl⟩
   .obtain ⟨ns,y,rfl⟩:=fb.mp b; exact ⟨_,ns,rfl,.inr (by rw [numsOf_some y]),rfl⟩
   .cases b
  refine ⟨T,aa,ρ,Hf,d,ns,R,n,hd,λe dx l H' ao R' s1 s2 f1 f2 S Q O M L j J s r p I=>⟨e,dx,rfl,f1,I,?_⟩⟩
  refine kk dx l σ ρ (GS H' e) ao (J4 R' (none_same R.s0 j) O λi sl a z ow y=>?_) s2 ((xY s).trans f2) ((xY r).trans S) M Q (none_same R.s0 J) (none_same R.s0 L) p
  obtain ⟨U,g,m,_⟩:=R.ow i sl z ow
  rw [y] at g; cases g
  obtain ⟨o',u⟩:=m.there ow
  exact zy u j
end Pk63
namespace FL
open PySem PySem.Spec PyProof.Rows L2
def Dr (o:Option OutY):Option RE:=match o with
 | some (.o (.rt d))=>some (.v d)
 | some (.o (.nx _))=>some (.v .non)
 | some (.en ns)=>some (.en ns)
 | _=>none
def G7 (m:Nat) (G:fc):List D->Option RE:=λds=>Dr (G (wX m ds))
def Wy {P:sH} {w:sU} {K:sx} {mg:Str->Option Value} {base:Heap} {C:Addr} {x qual:Str} {st:Stmt} {f:Addr} {fd:tU} {N ps:List Str} {k m n:Nat} {G:fc} (u:N.length=m) (t:ps.length=n) (y:Fun K x qual st f fd) (S:FnScope N ps (zi st))
  (body:∀ (aq:Value) (A:Around) (outer:List Env) (s:Shared) (H:Hp) (E:XK),Room k (A.deeper (envOfC qual (zi st) s.heap.objs.size f aq)) →
   nL (xA (bw P w) P w K mg base N qual (zi st) f aq A outer s H E) C E (yw st) G) :
  FnOk P w K mg base (bw P w) (k+1) f fd ps (spE K C n (G7 m G)):=by
 subst u t
 obtain ⟨oc,od,kV,doc,pm,an,aq,ct,eU,rfl,lk,i⟩:=y.ex
 refine FH lk i S (λvs H Q E h=>?_) (λA outer s H vs Q E p h=>?_)
 .obtain ⟨Hf,ds,d,_,h1,h2,_⟩:=h
  rw [h1.length]; exact h2
 obtain ⟨Hf,ds,r,sf,h1,h2,j,q⟩:=h
 refine ⟨_,body aq A outer s H E p,?_⟩
 unfold G7 Dr at j
 have R:=uY (N:=N) sf h1
 split at j <;> cases j <;> rename_i e <;> refine ⟨H,Hf,_,Hf,_,R,e,?_⟩
 .exact λv aB ρ' H' ao R' _ o=>q v H' ao ⟨R'.s0,R'.f0,R'.sf,R'.nf⟩ o
 .exact λaB H' ao R' _=>q _ H' ao ⟨R'.s0,R'.f0,R'.sf,R'.nf⟩ (tL.mpr rfl)
 .exact λdx l aB ρ' H' ao R' _ a b c d e f g=>q dx l H' ao ⟨R'.s0,R'.f0,R'.sf,R'.nf⟩ a b c d e f g
def itY (g:List D->Option RE) (fa:FA):FA:=λρ=>(fa ρ).bind λds=>match g ds with
 | some (.v (.lst xs))=>some xs
 | _=>none
def FF (g:List D->Option RE) (fa:FA) (γ:FG) (B:FS):fc:=λρ=>(fa ρ).bind λds=>match g ds with
 | some (.v (.lst xs))=>(ym γ B xs ρ).map .o
 | some (.en ns)=>some (.en ns)
 | _=>none
set_option tactic.hygienic true in
def G5 {P:sH} {w:sU} {K:sx} {mg:Str->Option Value} {base:Heap} {N:List Str} {qual:Str} {scope:Scope} {f:Addr} {aq:Value} {A:Around} {outer:List Env} {s₀:Shared} {H₀:Hp} {E:XK}
  {C:Addr} {tg e:Expr} {es:List Expr} {fa:FA} {pos t p:Pos} {k n:Nat} {g:List D->Option RE} {x:Str} {body:List Stmt} {B:FS} {γ:FG} (Q:PassesOwn (sL P w) (xA (bw P w) P w K mg base N qual scope f aq A outer s₀ H₀ E).A (xA (bw P w) P w K mg base N qual scope f aq A outer s₀ H₀ E).env (xA (bw P w) P w K mg base N qual scope f aq A outer s₀ H₀ E).xe)
  (T:(xA (bw P w) P w K mg base N qual scope f aq A outer s₀ H₀ E).calm=true) (Fn:HasFnE P w K mg base C k x n g) (Y:Room k (xA (bw P w) P w K mg base N qual scope f aq A outer s₀ H₀ E).A) (Z:Gl (xA (bw P w) P w K mg base N qual scope f aq A outer s₀ H₀ E) x)
  (ha:DA (xA (bw P w) P w K mg base N qual scope f aq A outer s₀ H₀ E) (e :: es) fa) (S:∀ ρ ds,fa ρ=some ds->ds.length=n) (m:DG (xA (bw P w) P w K mg base N qual scope f aq A outer s₀ H₀ E) tg γ) (U:gz (xA (bw P w) P w K mg base N qual scope f aq A outer s₀ H₀ E) body B)
  (O:∀ y,Ax (.Call (.Name x p) (e :: es) [] t) (xA (bw P w) P w K mg base N qual scope f aq A outer s₀ H₀ E).env y=pure y:=by intro _; rfl) (G:(x==("__debug__":Str))=false:=by decide)
  (he:sC (e :: es) (xA (bw P w) P w K mg base N qual scope f aq A outer s₀ H₀ E).env=(false,eval e (xA (bw P w) P w K mg base N qual scope f aq A outer s₀ H₀ E).env) :: sC es (xA (bw P w) P w K mg base N qual scope f aq A outer s₀ H₀ E).env:=by rfl)
  (z:(tV t (sC es (xA (bw P w) P w K mg base N qual scope f aq A outer s₀ H₀ E).env)).any (·.1)=false:=by rfl) :
  DY (xA (bw P w) P w K mg base N qual scope f aq A outer s₀ H₀ E) C E (.For tg (.Call (.Name x p) (e :: es) [] t) body [] pos) (FF g fa γ B):=by
 obtain ⟨f',fd,ps,h1,h2,h3,h4⟩:=Fn.ex
 have M:=vO (pos:=t) (p:=p) h1 Y Z h2 h3 h4 .nil M7 ha G he z
 have di:DI (xA (bw P w) P w K mg base N qual scope f aq A outer s₀ H₀ E) tg (.Call (.Name x p) (e :: es) [] t) (itY g fa):=U5 (U4 M) λσ H R' ⟨u,aa,ρ,Hf,ds,R,q,kk⟩=>by
  obtain ⟨h,e1,e2⟩:=iq.mp q
  split at e2
  .rename_i xs r
   cases e2
   refine ⟨u,aa,ρ,Hf,h,R,e1,λvs H1 J i s1 t1 F=>?_⟩
   show spE K C n g (vs++[]) H1 _ E
   rw [cO]
   refine ⟨J,h,_,i.sf,F,S ρ h e1,r,λv H2 aP j X=>?_⟩
   obtain ⟨a,ys,rfl,L,W⟩:=sO.mp X
   have R2:=i.grows j
   exact ⟨a,rfl,⟨ys,R2.sf.seq L⟩,kk _ _ _ R2 (s1.trans j.h) (t1.trans j.f) (qE L W)⟩
  .cases e2
 intro pins s σ H D' I ⟨u,aa,ρ,Hf,o,R,q,kk⟩
 obtain ⟨h,e1,e2⟩:=iq.mp q
 split at e2
 .rename_i xs r
  obtain ⟨o',e4,rfl⟩:=fb.mp e2
  refine wC Q T di m U O pins s σ H D' I ⟨u,aa,ρ,Hf,o',R,?_,kk⟩
  show (itY g fa ρ).bind (λds=>ym γ B ds ρ)=_
  unfold itY
  rw [e1]; simp only [ak]; rw [r]; exact e4
 .rename_i ns r
  cases e2
  refine GD Q T (U4 M) m U O pins s σ H D' I ?_
  refine ⟨u,aa,ρ,Hf,h,R,e1,λvs H1 J i s1 t1 F=>?_⟩
  show spE K C n g (vs++[]) H1 _ E
  rw [cO]
  exact ⟨J,h,_,i.sf,F,S ρ h e1,r,λdx l H2 aP j b c d e' f1 f2 f3=>kk dx l _ _ _ _ (i.grows j) (t1.trans j.f) b c d e' (Pk63.none_same i.s0 f1) (Pk63.none_same i.s0 f2) f3⟩
 .cases e2
section
variable {X:Cx} {e:Expr} {f:FE} {pos:Pos} {st:Stmt} {t:TS}
def blO:D->Option D
 | .bl b=>some (.bl b)
 | _=>none
def D4 (i:Nat) (f:FE):FE:=λρ=>(frz i ρ).bind λρ'=>(f ρ').bind blO
set_option tactic.hygienic true in
def Q4 (i:Nat) (l:DE X e f):DE X e (D4 i f):=yi l λσ H Q ⟨H₀,aa,ρ,Hf,d,R,q,k⟩=>by
 obtain ⟨ρ',a,h⟩:=XQ q
 obtain ⟨d',c,g⟩:=zM h
 cases d' <;> try cases g
 rename_i m
 have back:∀ v H1,zV H H1->af X.K Hf (.bl m) v->Q v H1:=λv H1 s1 j=>k v H1 Hf (R.grow s1 zD (R.sf.trans s1) (λb o e=>.inl e)) s1 zD j
 unfold frz at a
 split at a
 .rename_i ds n
  obtain ⟨ao,s,R'⟩:=R.freeze n
  cases a
  exact ⟨H₀,aa,_,ao,_,R',c,λv H1 p r s1 t1 h1=>back v H1 s1 (sP.mpr (sP.mp h1))⟩
 .cases a
  exact ⟨H₀,aa,_,Hf,_,R,c,λv H1 p r s1 t1 h1=>back v H1 s1 (sP.mpr (sP.mp h1))⟩
 .cases a
@[simp] theorem HE:D4 i f ρ=(frz i ρ).bind λρ'=>(f ρ').bind blO:=rfl
@[simp] theorem MU:blO (.bl b)=some (.bl b):=rfl
def Hb (i:Nat):FS:=λρ=>match ρ[i]? with
 | some (.ol _)=>some (.nx (ρ.set i (.ol [])))
 | _=>none
def K7 (i:Nat) (m:X.N[i]? = some x:=by rfl) (j:iu X.env.scope x:=by first | exact Aw rfl | exact Ab (Aw rfl) | exact Ab (Ab rfl))
  (hd:(x==("__debug__":Str))=false:=by decide) (g:(x==("__classdict__":Str))=false:=by decide)
  (d:Ad (.Name x b) "clear" X.env (eval (.Name x b) X.env)=eval (.Name x b) X.env:=by rfl) (c:(apos.endLine==aA.line)=true:=by rfl)
  (l:As (.Call (.Attribute (.Name x b) "clear" apos) [] [] aA) none pos.line X.env=pure false:=by rfl):
  DS X (.Expr (.Call (.Attribute (.Name x b) "clear" apos) [] [] aA) pos) (Hb i) :=
 y8 (qI (Dm Al PySem.F.slot_list_clear PySem.F.type_list_clear Kw (u4 m j hd g) d c) l) λD' σ H ⟨H₀,aa,ρ,Hf,o,R,q,k⟩=>by
  unfold Hb at q
  split at q
  .cases q
   rename_i ds h
   obtain ⟨a,b,⟨xs,p2,r⟩,p,n⟩:=R.ow i _ h rfl
   exact ⟨_,b,.inl ⟨rfl,xs,aZ.of p2⟩,a,xs,rfl,rfl,p2,k _ _ _ (R.updOwn h rfl b rfl ⟨[],zq,.nil⟩) zD⟩
  .cases q
def QG (I:Inv X pins σ H s) (h:H l=some (.frz o (.lst xs))) (i:∀ o x,X.H₀ l≠some (.frz o x)):Inv X pins σ (upd H l (.lst xs)) s:=by
 have a:∀ b,H b=none->b≠l:=λb e z=>by subst z; rw [h] at e; cases e
 refine ⟨I.ok,I.os,I.bare,⟨I.base.keep,I.base.slot,λb ob q n d=>?_,I.base.there,λb ys q=>?_,λb ob u q=>?_,λb ps q=>?_⟩,I.loc,I.cell,?_,λx c e=>?_,λp g=>?_,λb ob q=>?_,I.len⟩
 .have z:=I.base.free b ob q n d
  rw [zu (a b z)]; exact z
 .have z:=I.base.tups b ys q
  rw [zu (λy=>by subst y; rw [h] at z; cases z)]; exact z
 .rw [zu (λy=>by subst y; exact i _ _ q)]; exact I.base.frzs b ob u q
 .obtain ⟨m,z⟩:=I.base.tbls b ps q
  exact ⟨m,by rw [zu (λy=>by subst y; rw [h] at z; cases z)]; exact z⟩
 .rw [zu (a _ I.free)]; exact I.free
 .rw [zu (a _ (I.freeC x c e))]; exact I.freeC x c e
 .obtain ⟨e,n,r⟩:=I.pin p g
  exact ⟨e,by rw [zu (a _ n)]; exact n,r⟩
 .have st:∀ u,y7 X.prog X.w H s.heap b u->y7 X.prog X.w (upd H l (.lst xs)) s.heap b u:=λu x=>by
   refine x.stay (λ_ _ _ e=>e) (λc e=>?_) λc ys e=>?_
   .rw [zu (λz=>by subst z; rw [h] at e; cases e)]; exact e
   .rw [zu (λz=>by subst z; rw [h] at e; cases e)]; exact e
  by_cases z:b=l
  .subst z
   rw [zq] at q
   cases q
   obtain ⟨_,x⟩:=I.hok b _ h
   exact st _ x
  .rw [zu z] at q
   exact st _ (I.hok b ob q)
def Ka (h:PS X st t):PS X st (λD σ H=>t { D with nx:=λaB H'=>D.nx aB H'\/∃ l o xs,H' l=some (.frz o (.lst xs))/\H l=none/\D.nx aB (upd H' l (.lst xs)) } σ H):=by
 intro pins s σ H D I b
 refine sN (h pins s σ H _ I b) (λf s' z=>?_) λ_ _ z=>z
 cases f with
 | next =>
  obtain ⟨aB,H',a,q⟩:=z
  rcases q with q | ⟨l,o,xs,e,c,q⟩
  .exact ⟨aB,H',a,q⟩
  .exact ⟨aB,_,QG a e (λo' x y=>by have:=I.base.frzs l o' x y; rw [c] at this; cases this),q⟩
 | ret u=>exact z
 | brk=>exact z
 | cont=>exact z
end
def GW (zs:List V) (o:HO):Prop:=o=.lst zs\/∃ o',o=.frz o' (.lst zs)
def V1 (o:HO):Prop:=∀ n ns,¬ GW (V.int n :: ns) o
open Classical in
noncomputable def Yh (H:Hp):Hp:=λb=>match H b with
 | some o=>if V1 o then some o else none
 | none=>none
def w9:Yh H b=some o↔H b=some o/\V1 o:=by
 unfold Yh
 cases e:H b with
 | none=>simp
 | some u =>
  dsimp only
  by_cases c:V1 u
  .rw [if_pos c]
   exact ⟨λh=>by cases h; exact ⟨rfl,c⟩,λh=>h.1⟩
  .rw [if_neg c]
   exact Iff.intro (λh=>nomatch h) (λh=>absurd (g2j.inj h.1 ▸ h.2) c)
def Uc:zV (Yh H) H:=λb o e=>(w9.mp e).1
def Xe:V1 (.tup xs):=λn ns h=>by rcases h with h | ⟨_,h⟩ <;> cases h
def V0:V1 (.frz o (.tup xs)):=λn ns h=>by rcases h with h | ⟨_,h⟩ <;> cases h
def QB {K:sx} {H:Hp} {p:Addr} {xs:List V} (h:bJ K H p xs):bJ K (Yh H) p xs:=by
 rcases h with (z | ⟨o,z⟩) | z
 .exact .inl (.inl (w9.mpr ⟨z,Xe⟩))
 .exact .inl (.inr ⟨o,w9.mpr ⟨z,V0⟩⟩)
 .exact .inr z
def Ft:D->Bool
 | .tup [.int _,.int _,.int _]=>true
 | _=>false
def Yk:D->Bool
 | .tup [.int _,.lst ts]=>ts.all Ft
 | _=>false
def KM {K:sx} {H:Hp} {d:D} {v:V} (c:Ft d=true) (h:af K H d v):af K (Yh H) d v/\∃ a,v=.ref a:=by
 unfold Ft at c
 split at c
 .obtain ⟨p,xs,rfl,q,b⟩:=sQ.mp h
  obtain ⟨i,l,rfl,h1,b⟩:=sD.mp b
  obtain ⟨g,j,rfl,h2,b⟩:=sD.mp b
  obtain ⟨f,r3,rfl,e,b⟩:=sD.mp b
  rw [zB.nil_iff] at b
  subst b
  exact ⟨sQ.mpr ⟨p,_,rfl,QB q,sD.mpr ⟨_,_,rfl,sA.mpr (sA.mp h1),sD.mpr ⟨_,_,rfl,sA.mpr (sA.mp h2),sD.mpr ⟨_,_,rfl,sA.mpr (sA.mp e),zB.nil_iff.mpr rfl⟩⟩⟩⟩,p,rfl⟩
 .cases c
theorem Xo {K:sx} {H:Hp}:∀ {ts:List D} {vs:List V},ts.all Ft=true->zB K H ts vs->zB K (Yh H) ts vs/\∀ n ns,vs≠V.int n :: ns
 | [],vs,_,h=>by
  rw [zB.nil_iff] at h
  subst h
  exact ⟨zB.nil_iff.mpr rfl,λ_ _ z=>by cases z⟩
 | t :: ts,vs,c,h=>by
  rw [List.all_cons,du] at c
  obtain ⟨x,r,rfl,h1,h2⟩:=sD.mp h
  obtain ⟨k1,a,rfl⟩:=KM c.1 h1
  exact ⟨sD.mpr ⟨_,r,rfl,k1,(Xo c.2 h2).1⟩,λ_ _ z=>by cases z⟩
def Wq {K:sx} {H:Hp} {d:D} {v:V} (c:Yk d=true) (h:af K H d v):af K (Yh H) d v:=by
 unfold Yk at c
 split at c
 .obtain ⟨p,xs,rfl,q,a⟩:=sQ.mp h
  obtain ⟨j,r,rfl,h1,a⟩:=sD.mp a
  obtain ⟨i,m,rfl,h2,a⟩:=sD.mp a
  rw [zB.nil_iff] at a
  subst a
  obtain ⟨l,zs,rfl,e,f⟩:=sO.mp h2
  obtain ⟨k1,k2⟩:=Xo c f
  have b:∀ o,o=HO.lst zs\/(∃ o',o=.frz o' (.lst zs))->V1 o:=λo g n ns h=>by
   rcases g with rfl | ⟨_,rfl⟩ <;> rcases h with h | ⟨_,h⟩ <;> cases h <;> exact k2 _ _ rfl
  refine sQ.mpr ⟨p,_,rfl,QB q,sD.mpr ⟨_,_,rfl,sA.mpr (sA.mp h1),sD.mpr ⟨_,_,rfl,sO.mpr ⟨l,zs,rfl,?_,k1⟩,zB.nil_iff.mpr rfl⟩⟩⟩
  rcases e with (z | ⟨o,z⟩) | z
  .exact .inl (.inl (w9.mpr ⟨z,b _ (.inl rfl)⟩))
  .exact .inl (.inr ⟨o,w9.mpr ⟨z,b _ (.inr ⟨o,rfl⟩)⟩⟩)
  .exact .inr z
 .cases c
def Xp (b:Grows H (Yh Hf) H' ao) (e:ao r=some o) (a:GW (V.int n :: ns) o):H r=none:=by
 rcases b.new r o e with z | z | ⟨ks,z⟩
 .exact absurd a ((w9.mp z).2 _ _)
 .exact z
 .subst z; exact absurd a (Xe _ _)
def NJ (i:Nat) (g:List D->Option D) (fa:FA):FS:=λρ=>(fa ρ).bind λl=>match l with
 | [h]=>if Yk h=true then (match g [h] with
  | some (.lst ds)=>(match Pk63.numsOf ds with
   | some (n :: ns)=>some (.nx (ρ.set i (.ol ds)))
   | _=>none)
  | _=>none) else none
 | _=>none
set_option tactic.hygienic true in
def QW {X:Cx} {x y:Str} {e:Expr} {fa:FA} {pos pos' w p:Pos} {k:Nat} {g:List D->Option D} (i:Nat) (L:Kv X.K=true) (hN:X.N.Nodup) (Fn:HasFn X.prog X.w X.K X.mg X.base k y 1 g) (ha:DA X [e] fa) (S:Room k X.A:=by first | assumption | exact Room.mono (by assumption) (by decide)) (U:Gl X y:=by rfl)
  (hi:X.N[i]? = some x:=by rfl) (N:Loc X.env.scope x:=by first | exact Aw rfl | exact Ab rfl) (Q:As (.Call (.Name y p) [e] [] w) (some (.Name x pos')) pos.line X.env=pure false:=by rfl)
  (W:X.fn x=true\/X.env.scope.names.lookup x=some .local:=by first | exact .inl rfl | exact .inr rfl | assumption)
  (t:(y==("__debug__":Str))=false:=by decide) (Y:sC [e] X.env=(false,eval e X.env) :: sC [] X.env:=by rfl) (s:(tV w (sC [] X.env)).any (·.1)=false:=by rfl) :
  DS X (.Assign [.Name x pos'] (.Call (.Name y p) [e] [] w) pos) (NJ i g fa):=by
 obtain ⟨f,fd,ps,h1,h2,h3,h4⟩:=Fn.ex
 refine y8 (Ka (u3 hN hi N (vO (p:=p) h1 S U h2 h3 h4 .nil Dp ha t Y s) Q W)) λD' σ H ⟨H₀,aa,ρ,Hf,o,R,q,kk⟩=>?_
 obtain ⟨as,e1,e2⟩:=z8 q
 split at e2
 .rename_i hd
  split at e2
  .rename_i hh
   split at e2
   .rename_i ds eg
    split at e2
    .rename_i n ns en
     cases e2
     cases Pk63.numsOf_some en
     refine ⟨H₀,aa,ρ,Hf,[hd],R,e1,λvs H1 E c s1 t1 T=>?_⟩
     show spF X.K 1 g (vs++[]) H1 _ _
     rw [cO]
     obtain ⟨v,r0,rfl,O,C⟩:=sD.mp T
     rw [zB.nil_iff] at C
     subst C
     refine ⟨Yh E,[hd],.lst ((n :: ns).map D.int),Uc.trans c.sf,sD.mpr ⟨v,[],rfl,Wq hh O,zB.nil_iff.mpr rfl⟩,rfl,eg,λu H2 aP d P=>?_⟩
     obtain ⟨r,xs,rfl,J,M⟩:=sO.mp P
     cases Pk63.hasL_ints M
     have fin:∀ h:Hp,zV H1 h->H1 r=none->h r=some (.lst ((n :: ns).map V.int))->D'.nx (σ.set i (some (.ref r))) h:=λh B z1 z3=>by
      have R3:Rep X.K H₀ aa σ ρ h E:=c.grow B zD (c.sf.trans B) λb o e=>.inl e
      refine kk _ _ _ (R3.setOwn i rfl ⟨_,z3,Pk63.ints_hasL _⟩ (c.sf.free z1) (c.s0.free z1) λj sl z ow y=>?_) t1
      obtain ⟨a,A,G,_⟩:=c.ow j sl z ow
      rw [y] at A
      cases A
      obtain ⟨o',u⟩:=G.there ow
      rw [z1] at u
      cases u
     have up:zV H1 H2:=d.h
     rcases J with (z | ⟨ob,z⟩) | ⟨ob,ah,m,lk,Z,_⟩
     .have z1:=Xp d z (.inl rfl)
      exact .inl (fin H2 up z1 (d.fh _ _ z))
     .have z1:=Xp d z (.inr ⟨ob,rfl⟩)
      have F:H r=none:=s1.free z1
      exact .inr ⟨r,ob,_,d.fh _ _ z,F,fin _ (λb I l=>(zu (λy=>by subst y; rw [z1] at l; cases l)).trans (up b I l)) z1 zq⟩
     .exact absurd Z (Qk L lk)
    .cases e2
   .cases e2
  .cases e2
 .cases e2
end FL
namespace FL
open PySem PySem.Spec PyProof.Rows L2 PySem.W
def Ks {K:Frag} {h:Heap} {N:Addr} {m:Str->Option Value} {x:Str} {v:Value} (X:K.In h) (G:h.Ns N m) (e:nsIn K N x=some (some v)):m x=some v:=by
 obtain ⟨ob,cells,b,d,c,_,a⟩:=G
 unfold nsIn at e
 split at e <;> try cases e
 rename_i lk
 have same:=d.symm.trans (X _ _ lk)
 cases same
 cases c
 split at e
 .rename_i cell found
  cases e
  rw [<- a]
  unfold nsFind findBy
  rw [<- Array.find?_toList,found]
  rfl
 .split at e <;> cases e
def Dq {K:Frag} {h:Heap} {C fI ns:Addr} {dd:Option Addr} {nm a:Str} {bs bm gF:List Value} {hd:Bool} {sn} {sub} {ab} {col} {k0 k1 k2 k3 k5:Option Value} {n:String} (X:K.In h)
  (lk:K.lookup C=some ⟨.type "type",dd,.cls ⟨nm,bs,.ref C :: bm,ns,a,hd,sn,sub,ab,col,false⟩,#[k0,k1,k2,k3,some (.builtin n),k5]⟩) (hok:nsOkIn K ns=true) (hi:nsIn K ns "__init__"=some (some (.ref fI))) (ht:tailIn K gF bm=true):OwnCI C fI gF n h :=
 ⟨bm,ns,nm,a,bs,hd,sn,sub,ab,col,dd,k0,k1,k2,k3,k5,_,X _ _ lk,.of_isNs (isNs_of_in X hok),Ks X (.of_isNs (isNs_of_in X hok)) hi,tail_of_in X ht⟩
def Mb {K:Frag} {C:Addr} {oc:Value} {dd:Option Addr} {cd:ClassData} {sl:Array (Option Value)} (lk:K.lookup C=some ⟨oc,dd,.cls cd,sl⟩):clsIn K C=some cd:=by unfold clsIn; rw [lk]
section
variable {P:sH} {w:sU} {K:Frag} {mg:Str->Option Value} {base h:Heap} {x:Str} {st:Stmt} {k n:Nat} {ps:List Str}
def Np (X:K.In h) (G:h.Ns sI mg) (d:Df K x st) (ok:∀ {f:Addr} {fd:tU},Fun K x x st f fd->FnOk P w K mg base (bw P w) k f fd ps (spE K C n g))
  (b:∀ (kV doc pm:Value) (an:Option Addr) (aq ct:Value) (us:List Value),us.length=ps.length->bindArgs (fnOf x x (wF st) (yw st) (zi st) .none kV doc pm an aq ct) ⟨us,[]⟩=pure (ps.zip us)):HasFnE P w K mg base C k x n g:=by
 obtain ⟨f,oc,od,an,eU,kV,doc,pm,aq,ct,a,l,c,q⟩:=d
 have F:=Xs l c q
 exact ⟨⟨_,_,_,ok F,mg_of X G a,q,F.binds b⟩⟩
def HasFnE.mono (F:HasFnE P w K mg base C j x n g) (h:j<=k):HasFnE P w K mg base C k x n g:=by
 obtain ⟨f,fd,ps,a,b,c,d⟩:=F.ex
 exact ⟨⟨f,fd,ps,a.mono h,b,c,d⟩⟩
def HasFn.mono (F:HasFn P w K mg base j x n g) (h:j<=k):HasFn P w K mg base k x n g:=by
 obtain ⟨f,fd,ps,a,b,c,d⟩:=F.ex
 exact ⟨⟨f,fd,ps,a.mono h,b,c,d⟩⟩
def PX (X:K.In h) (G:h.Ns sI mg) (d:Df K x st) (ok:∀ {f:Addr} {fd:tU},Fun K x x st f fd->FnOk P w K mg base bF k f fd ps sp)
  (b:∀ (kV doc pm:Value) (an:Option Addr) (aq ct:Value) (us:List Value),us.length=ps.length->bindArgs (fnOf x x (wF st) (yw st) (zi st) .none kV doc pm an aq ct) ⟨us,[]⟩=pure (ps.zip us)):
  ∃ (f:Addr) (fd:tU),FnOk P w K mg base bF k f fd ps sp/\mg x=some (.ref f)/\keepIn K (.ref f)=true/\qB K fd ps []:=by
 obtain ⟨f,oc,od,an,eU,kV,doc,pm,aq,ct,a,l,c,q⟩:=d
 have F:=Xs l c q
 exact ⟨_,_,ok F,mg_of X G a,q,F.binds b⟩
end
end FL
namespace FL
open PySem PySem.Spec PyProof.Rows L2
inductive IsInts:List Expr->List Int->Prop
 | nil:IsInts [] []
 | cons {n:Int} {j:Nat} {p:Pos} {es:List Expr} {ns:List Int} (h:IsInts es ns):IsInts (.Constant (.int n) j p :: es) (n :: ns)
def Bg (h:IsInts es ns):PA X es (λ_ H Q=>Q (ns.map V.int) H):=by
 induction h with
 | nil=>exact yE
 | cons h a=>exact zN Zq a
def Z9 (h:IsInts es ns) (hz:ns.length<=sizeLine):PE X (.List es pos) (λ_ H Q=>∀ p,H p=none->Q (.ref p) (upd H p (.lst (ns.map V.int)))) :=
 yi (GM (Bg h)) λσ H Q k=>⟨by rw [aC]; exact hz,k⟩
def Kc {X:Cx} {i:Nat} {x:Str} {s1 s2 y w:Str} {R Q P O:Nat} {N p2 M L I G F E J pos pos':Pos} {t s r q:List Expr} {f d c a:List Int} {st:Stmt} (e:st=.Assign [.Name x pos'] (.Dict [some (.Constant (.str s1) R N),some (.Constant (.str s2) Q p2),some (.Constant (.str y) P M),some (.Constant (.str w) O L)] [.List t I,.List s G,.List r F,.List q E] J) pos) (h1:IsInts t f) (h2:IsInts s d) (h3:IsInts r c) (h4:IsInts q a)
  (z1:f.length<=sizeLine) (z2:d.length<=sizeLine) (z3:c.length<=sizeLine) (S:a.length<=sizeLine) (hN:X.N.Nodup) (hi:X.N[i]? = some x) (hx:Loc X.env.scope x)
  (hs:As (.Dict [some (.Constant (.str s1) R N),some (.Constant (.str s2) Q p2),some (.Constant (.str y) P M),some (.Constant (.str w) O L)] [.List t I,.List s G,.List r F,.List q E] J) (some (.Name x pos')) pos.line X.env=pure false) (hf:X.fn x=true\/X.env.scope.names.lookup x=some .local) :
  PS X st
   (λD σ H=>∀ p l j h g H',zV H H'->H p=none->H l=none->H j=none->H h=none->H g=none->H' p=some (.dK (jf [] [(.inr s1,.ref l),(.inr s2,.ref j),(.inr y,.ref h),(.inr w,.ref g)])) →
    H' l=some (.lst (f.map V.int))->H' j=some (.lst (d.map V.int))->H' h=some (.lst (c.map V.int))->H' g=some (.lst (a.map V.int))->D.nx (σ.set i (some (.ref p))) H'):=by
 subst e
 refine y8 (u3 hN hi hx (Bb (jz Zp (Z9 h1 z1) (jz Zp (Z9 h2 z2) (jz Zp (Z9 h3 z3) (jz Zp (Z9 h4 S) HV)))) rfl rfl (by intro z; cases z) (by simp)) hs hf) λD' σ H k=>?_
 intro p A
 intro l B j C h n g m
 have sp:zV H (upd H p (.dK [])):=zA A
 have t1:=zA (o:=.lst (f.map V.int)) B
 have t2:=zA (o:=.lst (d.map V.int)) C
 have u:=zA (o:=.lst (c.map V.int)) n
 have v:=zA (o:=.lst (a.map V.int)) m
 have Y:=Pk63.none_same (sp.trans (t1.trans (t2.trans u))) m
 have Z:=Pk63.none_same (sp.trans (t1.trans t2)) n
 have n2:=Pk63.none_same (sp.trans t1) C
 have n1:=Pk63.none_same sp B
 have W:p≠l:=zy zq B
 have U:p≠j:=zy (t1 _ _ zq) C
 have r3:p≠h:=zy (t2 _ _ (t1 _ _ zq)) n
 have T:p≠g:=zy (u _ _ (t2 _ _ (t1 _ _ zq))) m
 refine ⟨v _ _ (u _ _ (t2 _ _ (t1 _ _ zq))),[(.inr s1,.ref l),(.inr s2,.ref j),(.inr y,.ref h),(.inr w,.ref g)],rfl,(show 4<=15 from by decide),?_⟩
 refine k p l j h g _ (λb o z=>(zu (zy z A)).trans ((sp.trans (t1.trans (t2.trans (u.trans v)))) b o z)) A n1 n2 Z Y zq ?_ ?_ ?_ ?_
 .exact (zu W.symm).trans (v _ _ (u _ _ (t2 _ _ zq)))
 .exact (zu U.symm).trans (v _ _ (u _ _ zq))
 .exact (zu r3.symm).trans (v _ _ zq)
 .exact (zu T.symm).trans zq
end FL
namespace GH
open FL L2
abbrev T3:=Int×Int×Int
def tD (t:T3):D:=.tup [.int t.1,.int t.2.1,.int t.2.2]
def zc (n:Nat) (ts:List T3):D:=.tup [.int n,.lst (ts.map tD)]
def cL (i j:Int):Int:=if j < i then j else i
def c5 (i j:Int):Int:=if j > i then j else i
def Kx (i j):cL i j=cL j i:=by unfold cL; split <;> split <;> omega
def Ky (i j):c5 i j=c5 j i:=by unfold c5; split <;> split <;> omega
def zw:List T3->Int->Int->Int
 | [],_,_=>2
 | t :: ts,i,j=>if t.1=cL i j/\t.2.1=c5 i j then t.2.2 else zw ts i j
def VQ (ts) (i j:Int):zw ts i j=zw ts j i:=by
 induction ts with
 | nil=>rfl
 | cons t ts a=>unfold zw; rw [Kx,Ky,a]
end GH
namespace GH
def bo (t:Int->Int->Int) (x:Int) (os:List Int):List Int:=os.filter λo=>decide (o≠x)&&decide (t x o≠2)
def a_ (os:List Int) (x:Int):List Int:=os.filter λo=>decide (o≠x)
def chG (t:Int->Int->Int):Nat->Int->List Int->Option (List Int)
 | 0,_,_=>some []
 | n+1,x,left=>if left=[] then some [] else match bo t x left with
  | [y]=>(chG t n y (a_ left y)).map (y :: ·)
  | _=>none
def vB (t:Int->Int->Int) (ms:List Int) (f:Int):Option (List Int):=(chG t ms.length f (a_ ms f)).map (f :: ·)
def yH (t:Int->Int->Int) (ms:List Int):List (List Int):=ms.filterMap (vB t ms)
def v7 (t:Int->Int->Int) (o:List Int):List Int:=List.zipWith t o (o.drop 1)
abbrev Kd:=Nat×Nat
def Mp (ts:List Int):Kd :=
 if ts=aL ts.length 3 then (1,ts.length+1)
 else if ts=aL (ts.length - 1) 3++[4] then (2,ts.length+1)
 else if ts=[3,4,3] then (6,4) else if ts=[3,5] then (8,3) else if ts=[3,3,5] then (8,4)
 else if ts=[5] then (9,5) else if ts=[6] then (9,6) else (0,0)
def qM (o:List Int) (y:Int):Kd :=
 if 4<=o.length+1/\o[1]? = some y then (4,o.length+1) else if o.length+1=6/\o[2]? = some y then (5,6) else (0,0)
def GT (t:Int->Int->Int) (ms:List Int):List Kd:=(yH t ms).map λo=>Mp (v7 t o)
def BG (t:Int->Int->Int) (ms:List Int):List Kd:=ms.flatMap λe=>match bo t e ms with
 | [y]=>(yH t (a_ ms e)).map λo=>qM o y
 | _=>[]
def Yg (l:List Kd):Kd:=match l.find? (λk=>decide (k≠(0,0))) with
 | some k=>k
 | none=>(0,0)
def xZ (t:Int->Int->Int) (three:Bool) (ms:List Int):List Kd:=GT t ms++if three then BG t ms else []
structure Rlb (t t':Int->Int->Int) (φ:Int->Int) (S:List Int):Prop where
 tt:∀ i∈S,∀ j∈S,t' (φ i) (φ j)=t i j
 inj:∀ i∈S,∀ j∈S,φ i=φ j->i=j
section
variable {t t':Int->Int->Int} {φ:Int->Int} {S:List Int}
def Qn (R:Rlb t t' φ S) (b:x∈S) (c:∀ y∈l,y∈S) (f:d.Perm (l.map φ)):(bo t' (φ x) d).Perm ((bo t x l).map φ):=by
 unfold bo
 refine (f.filter _).trans ?_
 rw [List.filter_map]
 refine List.Perm.of_eq (congrArg _ (En λy a=>?_))
 show (decide (φ y≠φ x)&&decide (t' (φ x) (φ y)≠2))=_
 rw [R.tt x b y (c y a)]
 have:(φ y≠φ x)↔(y≠x):=⟨λh e=>h (by rw [e]),λh e=>h (R.inj y (c y a) x b e)⟩
 rw [decide_eq_decide.mpr this]
def X1 (R:Rlb t t' φ S) (c:x∈S) (f:∀ y∈l,y∈S) (d:a.Perm (l.map φ)):(a_ a (φ x)).Perm ((a_ l x).map φ):=by
 unfold a_
 refine (d.filter _).trans ?_
 rw [List.filter_map]
 refine List.Perm.of_eq (congrArg _ (En λy b=>?_))
 have:(φ y≠φ x)↔(y≠x):=⟨λh e=>h (by rw [e]),λh e=>h (R.inj y (f y b) x c e)⟩
 exact decide_eq_decide.mpr this
def Yd (h:y∈bo t x l):y∈l:=(e_.mp h).1
def jF (h:y∈a_ l x):y∈l:=(e_.mp h).1
theorem Jg (R:Rlb t t' φ S):∀ n x l d,x∈S->(∀ y∈l,y∈S)->d.Perm (l.map φ)->chG t' n (φ x) d=(chG t n x l).map (List.map φ)
 | 0,_,_,_,_,_,_=>rfl
 | n+1,x,l,d,o,g,i=>by
  have f:=Qn R o g i
  unfold chG
  by_cases e:l=[]
  .subst e
   have:d=[]:=List.perm_nil.mp i
   subst this
   rfl
  .have p:d≠[]:=λz=>by
    subst z
    have:=i.length_eq
    rw [aC] at this
    exact e (List.length_eq_zero_iff.mp this.symm)
   rw [if_neg e,if_neg p]
   cases h:bo t x l with
   | nil =>
    rw [h] at f
    rw [List.perm_nil.mp f]
    rfl
   | cons y r =>
    rw [h] at f
    cases r with
    | nil =>
     rw [List.perm_singleton.mp f]
     have m:y∈l:=Yd (t:=t) (x:=x) (by rw [h]; exact ba)
     show A2 (φ y :: ·) (chG t' n (φ y) (a_ d (φ y)))=A2 (List.map φ) (A2 (y :: ·) (chG t n y (a_ l y)))
     rw [Jg R n y _ _ (g y m) (λz hz=>g z (jF hz)) (X1 R (g y m) g i)]
     cases chG t n y (a_ l y) <;> rfl
    | cons z r =>
     have c:=f.length_eq
     cases h':bo t' (φ x) d with
     | nil=>rfl
     | cons a j =>
      cases j with
      | nil=>rw [h'] at c; simp at c
      | cons b j=>rfl
theorem Jf:∀ {n:Nat} {x:Int} {l o:List Int},chG t n x l=some o->∀ y∈o,y∈l
 | 0,x,l,o,h,y,a=>by cases h; cases a
 | n+1,x,l,o,h,y,a=>by
  unfold chG at h
  split at h
  .cases h; cases a
  .split at h
   .rename_i z e
    obtain ⟨o',b,rfl⟩:=fb.mp h
    rcases aQ.mp a with rfl | a
    .exact Yd (t:=t) (x:=x) (by rw [e]; exact ba)
    .exact jF (Jf b y a)
   .cases h
def ZF (R:Rlb t t' φ S) (c:f∈S) (b:∀ y∈ms,y∈S) (a:d.Perm (ms.map φ)):vB t' d (φ f)=(vB t ms f).map (List.map φ):=by
 unfold vB
 have e:d.length=ms.length:=by rw [a.length_eq,aC]
 rw [e,Jg R ms.length f (a_ ms f) _ c (λy g=>b y (jF g)) (X1 R c b a)]
 cases chG t ms.length f (a_ ms f) <;> rfl
def Uo (b:f∈ms) (h:vB t ms f=some o):∀ y∈o,y∈ms:=by
 obtain ⟨o',e,rfl⟩:=fb.mp h
 intro y a
 rcases aQ.mp a with rfl | a
 .exact b
 .exact jF (Jf e y a)
def uk (R:Rlb t t' φ S) (c:∀ y∈ms,y∈S) (b:h.Perm (ms.map φ)):o'∈yH t' h↔∃ o∈yH t ms,o'=o.map φ:=by
 unfold yH
 rw [lO]
 constructor
 .rintro ⟨i,d,e⟩
  obtain ⟨f,a,rfl⟩:=eW.mp (b.subset d)
  rw [ZF R (c f a) c b] at e
  obtain ⟨o,e2,rfl⟩:=fb.mp e
  exact ⟨o,lO.mpr ⟨f,a,e2⟩,rfl⟩
 .rintro ⟨o,g,rfl⟩
  obtain ⟨f,a,e⟩:=lO.mp g
  refine ⟨φ f,b.symm.subset (rP a),?_⟩
  rw [ZF R (c f a) c b,e]
  rfl
def uj (h:o∈yH t ms):∀ y∈o,y∈ms:=by
 obtain ⟨f,a,e⟩:=lO.mp h
 exact Uo a e
def XY (R:Rlb t t' φ S) (c:∀ y∈o,y∈S):v7 t' (o.map φ)=v7 t o:=by
 unfold v7
 rw [<- Ey,List.zipWith_map]
 have:∀ (a b:List Int),(∀ y∈a,y∈S)->(∀ y∈b,y∈S)->List.zipWith (λx y=>t' (φ x) (φ y)) a b=List.zipWith t a b:=by
  intro a
  induction a with
  | nil=>intro b _ _; simp
  | cons x a f =>
   intro b e d
   cases b with
   | nil=>simp
   | cons y b =>
    rw [List.zipWith_cons_cons,List.zipWith_cons_cons,R.tt x (e x ba) y (d y ba),f b (λz hz=>e z (br _ hz)) (λz hz=>d z (br _ hz))]
 exact this o (o.drop 1) c λy g=>c y (List.mem_of_mem_drop g)
def Vm (R:Rlb t t' φ S) (b:∀ y∈o,y∈S) (a:y∈S):qM (o.map φ) (φ y)=qM o y:=by
 have q:∀ i:Nat,((o.map φ)[i]? = some (φ y))↔(o[i]? = some y):=λi=>by
  rw [dX]
  constructor
  .intro h
   obtain ⟨z,e,h⟩:=fb.mp h
   rw [e,R.inj z (b z (g3d e)) y a h]
  .intro h; rw [h]; rfl
 unfold qM
 rw [aC]
 simp only [q]
def BJ (R:Rlb t t' φ S) (b:∀ y∈ms,y∈S) (d:e.Perm (ms.map φ)):k∈GT t' e↔k∈GT t ms:=by
 unfold GT
 rw [eW,eW]
 constructor
 .rintro ⟨o',f,rfl⟩
  obtain ⟨o,a,rfl⟩:=(uk R b d).mp f
  exact ⟨o,a,by rw [XY R λy c=>b y (uj a y c)]⟩
 .rintro ⟨o,a,rfl⟩
  exact ⟨o.map φ,(uk R b d).mpr ⟨o,a,rfl⟩,by rw [XY R λy c=>b y (uj a y c)]⟩
def QA (R:Rlb t t' φ S) (d:∀ y∈ms,y∈S) (p:l.Perm (ms.map φ)) (q:e∈ms) :
  (k∈(match bo t' (φ e) l with | [y]=>(yH t' (a_ l (φ e))).map (λo=>qM o y) | _=>[]))↔(k∈(match bo t e ms with | [y]=>(yH t (a_ ms e)).map (λo=>qM o y) | _=>[])):=by
 have i:=Qn R (d e q) d p
 cases h:bo t e ms with
 | nil =>
  rw [h] at i
  rw [List.perm_nil.mp i]
 | cons y r =>
  rw [h] at i
  cases r with
  | nil =>
   rw [List.perm_singleton.mp i]
   have n:y∈ms:=Yd (t:=t) (x:=e) (by rw [h]; exact ba)
   have j:∀ z∈a_ ms e,z∈S:=λz hz=>d z (jF hz)
   have f:=X1 R (d e q) d p
   show k∈(yH t' (a_ l (φ e))).map (λo=>qM o (φ y))↔k∈(yH t (a_ ms e)).map (λo=>qM o y)
   rw [eW,eW]
   constructor
   .rintro ⟨o',s,rfl⟩
    obtain ⟨o,g,rfl⟩:=(uk R j f).mp s
    exact ⟨o,g,by rw [Vm R (λz hz=>j z (uj g z hz)) (d y n)]⟩
   .rintro ⟨o,g,rfl⟩
    exact ⟨o.map φ,(uk R j f).mpr ⟨o,g,rfl⟩,by rw [Vm R (λz hz=>j z (uj g z hz)) (d y n)]⟩
  | cons z r =>
   have c:=i.length_eq
   cases h':bo t' (φ e) l with
   | nil=>exact Iff.rfl
   | cons a m =>
    cases m with
    | nil=>rw [h'] at c; simp at c
    | cons b m=>exact Iff.rfl
def BF (R:Rlb t t' φ S) (d:∀ y∈ms,y∈S) (b:f.Perm (ms.map φ)):k∈BG t' f↔k∈BG t ms:=by
 unfold BG
 rw [List.mem_flatMap,List.mem_flatMap]
 constructor
 .rintro ⟨g,c,h⟩
  obtain ⟨e,a,rfl⟩:=eW.mp (b.subset c)
  exact ⟨e,a,(QA R d b a).mp h⟩
 .rintro ⟨e,a,h⟩
  exact ⟨φ e,b.symm.subset (rP a),(QA R d b a).mpr h⟩
def Vn (R:Rlb t t' φ S) (c:∀ y∈ms,y∈S) (a:d.Perm (ms.map φ)):k∈xZ t' b d↔k∈xZ t b ms:=by
 unfold xZ
 rw [gs,gs,BJ R c a]
 cases b with
 | false=>exact Iff.rfl
 | true=>exact or_congr Iff.rfl (BF R c a)
end
set_option tactic.hygienic true in
def KL {l:List Kd} {c:Kd} (h:∀ k∈l,k=(0,0)\/k=c) (h':c=(0,0)\/c∈l):Yg l=c:=by
 unfold Yg
 split
 .rename_i k e
  have h1:=List.find?_some e
  rcases h k (List.mem_of_find?_eq_some e) with z | z
  .subst z; simp at h1
  .exact z
 .rename_i e
  rcases h' with z | z
  .exact z.symm
  .have:=List.find?_eq_none.mp e c z
   exact Af λw=>this (decide_eq_true λv=>w v.symm)
def yp (ts:List Int):List T3:=(List.zip (aV ts.length) ts).map λp=>((p.1:Int),(p.1:Int)+1,p.2)
def YV (n:Nat):List T3:=(aV n).map λ(k:Nat)=>(0,(k:Int)+1,3)
def r3 (n:Nat):List Int:=aL n 3
abbrev Bk:=Kd×List T3
def um:Nat->List Bk
 | 1=>[((1,1),yp [])]
 | 2=>[((1,2),yp [3]),((2,2),yp [4]),((9,5),yp [5]),((9,6),yp [6]),((0,0),yp [0])]
 | 3=>[((1,3),yp [3,3]),((2,3),yp [3,4]),((8,3),yp [3,5]),((0,0),yp [3,0]),((0,0),yp [5,4]),((0,0),yp [4,4]),((0,0),yp [3,6]),((0,0),yp [3,3]++[(0,2,3)]),((0,0),yp [5,5])]
 | 4=>[((1,4),yp [3,3,3]),((2,4),yp [3,3,4]),((4,4),yp [3,3]++[(1,3,3)]),((8,4),yp [3,3,5]),((6,4),yp [3,4,3]),((0,0),yp [3,3,0]),((0,0),yp [5,3,4]),((0,0),yp [4,3,4]),((0,0),yp [3,3,6]),((0,0),yp [3,3,3]++[(0,3,3)]),
   ((0,0),yp [3,3]++[(1,3,4)]),((0,0),yp [3,5,3]),((0,0),YV 3++[(1,2,3)])]
 | 5=>[((1,5),yp [3,3,3,3]),((2,5),yp [3,3,3,4]),((4,5),yp [3,3,3]++[(2,4,3)]),((0,0),yp [3,3,3,0]),((0,0),yp [5,3,3,4]),((0,0),yp [4,3,3,4]),((0,0),yp [3,3,3,6]),((0,0),yp [3,3,3,3]++[(0,4,3)]),((0,0),yp [3,3,3,5]),
   ((0,0),yp [3,3,3]++[(2,4,4)]),((0,0),yp [3,5,3,3]),((0,0),YV 4++[(1,2,3)]),((0,0),YV 4)]
 | 6=>[((1,6),yp [3,3,3,3,3]),((2,6),yp [3,3,3,3,4]),((4,6),yp [3,3,3,3]++[(3,5,3)]),((5,6),yp [3,3,3,3]++[(2,5,3)]),((0,0),yp [3,3,3,3,0]),((0,0),yp [5,3,3,3,4]),((0,0),yp [4,3,3,3,4]),((0,0),yp [3,3,3,3,6]),((0,0),yp [3,3,3,3,3]++[(0,5,3)]),((0,0),yp [3,3,3,3,5]),
   ((0,0),yp [3,3,3,3]++[(3,5,4)]),((0,0),yp [3,5,3,3,3]),((0,0),YV 5++[(1,2,3)]),((0,0),YV 5)]
 | _=>[]
def idx (n:Nat):List Int:=(aV n).map λ(i:Nat)=>(i:Int)
def JJ (ts:List T3):Bool:=ts.all λu=>decide (u.2.2=3)
def iE (k:Nat) (B:Bk):Bool :=
 (B.2.all λu=>decide (0<=u.1)&&decide (u.1 < u.2.1)&&decide (u.2.1 < k)) &&
 ((aV k).all λv=>decide (v=0)||(aV v).any λu=>decide (zw B.2 u v≠2)) &&
 ((xZ (zw B.2) (JJ B.2) (idx k)).all λc=>decide (c=(0,0))||decide (c=B.1)) &&
 (decide (B.1=(0,0))||(xZ (zw B.2) (JJ B.2) (idx k)).any λc=>decide (c=B.1))
def PN:((um 1).all (iE 1))=true:=by decide +kernel
def PL:((um 2).all (iE 2))=true:=by decide +kernel
def PJ:((um 3).all (iE 3))=true:=by decide +kernel
def PH:((um 4).all (iE 4))=true:=by decide +kernel
def PF:((um 5).all (iE 5))=true:=by decide +kernel
def PD:((um 6).all (iE 6))=true:=by decide +kernel
def Wh (h:B∈um k):iE k B=true:=by
 match k,h with
 | 0,h=>cases h
 | 1,h=>exact cw.mp PN B h
 | 2,h=>exact cw.mp PL B h
 | 3,h=>exact cw.mp PJ B h
 | 4,h=>exact cw.mp PH B h
 | 5,h=>exact cw.mp PF B h
 | 6,h=>exact cw.mp PD B h
 | n+7,h=>cases h
abbrev bA:=Nat×Bk
def dq (b:Int) (u:T3):T3:=(b+u.1,b+u.2.1,u.2.2)
def cV:Int->List bA->List T3
 | _,[]=>[]
 | b,B :: bs=>B.2.2.map (dq b)++cV (b+B.1) bs
def xW:Int->List bA->List (Int×bA)
 | _,[]=>[]
 | b,B :: bs=>(b,B) :: xW (b+B.1) bs
def yZ:List bA->Nat
 | []=>0
 | B :: bs=>B.1+yZ bs
def Gn (k:Nat) (ts:List T3):Prop:=∀ u∈ts,0<=u.1/\u.1 < u.2.1/\u.2.1 < k
abbrev gH (i j:Int) (u:T3):Prop:=u.1=cL i j/\u.2.1=c5 i j
theorem ZL  : ∀ {ts:List T3},(∀ u∈ts,¬ gH i j u)->zw ts i j=2
 | [],_=>rfl
 | u :: ts,h=>by
  unfold zw
  rw [if_neg (h u ba),ZL λv a=>h v (br _ a)]
theorem jJ (c:∀ u∈b,¬ gH i j u):∀ {a:List T3},zw (a++b) i j=zw a i j
 | []=>ZL c
 | u :: a=>by
  rw [bD]
  unfold zw
  rw [jJ c]
theorem jI   : ∀ {a:List T3},(∀ u∈a,¬ gH i j u)->zw (a++b) i j=zw b i j
 | [],_=>rfl
 | u :: a,h=>by
  rw [bD]
  unfold zw
  rw [if_neg (h u ba),jI λv c=>h v (br _ c)]
  cases b <;> simp [zw]
theorem jH   : ∀ {ts:List T3},(∀ u∈ts,(f u).2.2=u.2.2/\(gH b a (f u)↔gH i j u))->zw (ts.map f) b a=zw ts i j
 | [],_=>rfl
 | u :: ts,h=>by
  rw [aH]
  unfold zw
  obtain ⟨h1,h2⟩:=h u ba
  rw [jH λv d=>h v (br _ d),h1]
  by_cases c:gH i j u
  .rw [if_pos (h2.mpr c),if_pos c]
  .rw [if_neg (λz=>c (h2.mp z)),if_neg c]
def In (p:Int×bA) (x:Int):Prop:=p.1<=x/\x < p.1+p.2.1
theorem xp:∀ {bs:List bA} {b:Int} {p:Int×bA},p∈xW b bs->b<=p.1/\p.1+p.2.1<=b+yZ bs
 | [],b,p,h=>by cases h
 | B :: bs,b,p,h=>by
  unfold yZ
  rcases aQ.mp h with rfl | h
  .dsimp only; omega
  .have:=xp h; omega
theorem U0:∀ {bs:List bA} {b x:Int},b<=x->x < b+yZ bs->∃ p∈xW b bs,In p x
 | [],b,x,h1,h2=>by unfold yZ at h2; omega
 | B :: bs,b,x,h1,h2=>by
  unfold yZ at h2
  by_cases c:x < b+B.1
  .exact ⟨(b,B),ba,h1,c⟩
  .obtain ⟨p,a,h⟩:=U0 (bs:=bs) (b:=b+B.1) (x:=x) (by omega) (by omega)
   exact ⟨p,br _ a,h⟩
theorem ke:∀ {bs:List bA} {b x:Int} {p q:Int×bA},p∈xW b bs->q∈xW b bs->In p x->In q x->p=q
 | [],b,x,p,q,h,_,_,_=>by cases h
 | B :: bs,b,x,p,q,c,a,h1,h2=>by
  unfold In at h1 h2
  rcases aQ.mp c with rfl | c <;> rcases aQ.mp a with rfl | a
  .rfl
  .have:=xp a; dsimp only at h1; omega
  .have:=xp c; dsimp only at h2; omega
  .exact ke c a h1 h2
theorem xX:∀ {bs:List bA} {b:Int} {p:Int×bA},p∈xW b bs->p.2∈bs
 | [],b,p,h=>by cases h
 | B :: bs,b,p,h=>by
  rcases aQ.mp h with rfl | h
  .exact ba
  .exact br _ (xX h)
theorem XN:∀ {bs:List bA} {b:Int} {u:T3},u∈cV b bs↔∃ p∈xW b bs,∃ v∈p.2.2.2,u=dq p.1 v
 | [],b,u=>by simp [cV,xW]
 | B :: bs,b,u=>by
  unfold cV xW
  rw [gs,XN,eW]
  constructor
  .rintro (⟨v,c,rfl⟩ | ⟨p,a,h⟩)
   .exact ⟨(b,B),ba,v,c,rfl⟩
   .exact ⟨p,br _ a,h⟩
  .rintro ⟨p,a,v,c,rfl⟩
   rcases aQ.mp a with rfl | a
   .exact .inl ⟨v,c,rfl⟩
   .exact .inr ⟨p,a,v,c,rfl⟩
def Fx   : gH (b+i) (b+j) (dq b u)↔gH i j u:=by
 have c:cL (b+i) (b+j)=b+cL i j:=by unfold cL; split <;> split <;> omega
 have a:c5 (b+i) (b+j)=b+c5 i j:=by unfold c5; split <;> split <;> omega
 show b+u.1=cL (b+i) (b+j)/\b+u.2.1=c5 (b+i) (b+j)↔_
 rw [c,a]
 exact and_congr ⟨λh=>by omega,λh=>by omega⟩ ⟨λh=>by omega,λh=>by omega⟩
def Uw:(cL a c=cL d e/\c5 a c=c5 d e)↔((a=d/\c=e)\/(a=e/\c=d)):=by
 unfold cL c5
 split <;> split <;> split <;> split <;> omega
theorem turn_in:∀ {bs:List bA} {b:Int} {p:Int×bA} {i j:Int},(∀ B∈bs,Gn B.1 B.2.2)->p∈xW b bs->0<=i->i < p.2.1->0<=j->j < p.2.1->zw (cV b bs) (p.1+i) (p.1+j)=zw p.2.2.2 i j
 | [],b,p,i,j,_,h,_,_,_,_=>by cases h
 | B :: bs,b,p,i,j,d,h,h1,h2,m,l=>by
  unfold cV
  rcases aQ.mp h with rfl | h
  .dsimp only at *
   rw [jJ]
   .exact jH λu _=>⟨rfl,Fx⟩
   .intro u c
    obtain ⟨q,e,v,a,rfl⟩:=XN.mp c
    have:=xp e
    have f:=d q.2 (br _ (xX e)) v a
    unfold gH dq cL c5
    dsimp only
    split <;> split <;> omega
  .rw [jI,turn_in (λC g=>d C (br _ g)) h h1 h2 m l]
   intro u c
   obtain ⟨v,a,rfl⟩:=eW.mp c
   have:=xp h
   have f:=d B ba v a
   unfold gH dq cL c5
   dsimp only
   split <;> split <;> omega
def Md (d:∀ B∈bs,Gn B.1 B.2.2) (h:u∈cV b bs):∃ p∈xW b bs,In p u.1/\In p u.2.1/\u.1 < u.2.1:=by
 obtain ⟨p,a,v,c,rfl⟩:=XN.mp h
 have f:=d p.2 (xX a) v c
 exact ⟨p,a,⟨by unfold dq; dsimp only; omega,by unfold dq; dsimp only; omega⟩,⟨by unfold dq; dsimp only; omega,by unfold dq; dsimp only; omega⟩,by unfold dq; dsimp only; omega⟩
def turn_out   {p:Int×bA} (j:∀ B∈bs,Gn B.1 B.2.2) (g:p∈xW b bs) (e:In p x) (d:¬ In p y):zw (cV b bs) x y=2:=by
 refine ZL λu i h=>?_
 obtain ⟨q,f,c,a,l⟩:=Md j i
 unfold gH cL c5 at h
 have:x=u.1/\y=u.2.1\/x=u.2.1/\y=u.1:=by
  split at h <;> split at h <;> omega
 rcases this with ⟨e1,e2⟩ | ⟨e1,e2⟩
 .subst e1 e2
  exact d (ke g f e c ▸ a)
 .subst e1 e2
  exact d (ke g f e a ▸ c)
structure Rl (n:Nat) (σ:Int->Int):Prop where
 inj:∀ i j:Int,0<=i->i < n->0<=j->j < n->σ i=σ j->i=j
 rg:∀ i:Int,0<=i->i < n->0<=σ i/\σ i < n
 sur:∀ y:Int,0<=y->y < n->∃ i:Int,0<=i/\i < n/\σ i=y
def i9 (σ:Int->Int) (u:T3):T3:=(cL (σ u.1) (σ u.2.1),c5 (σ u.1) (σ u.2.1),u.2.2)
def Uz {n:Nat} {σ:Int->Int} {ts:List T3} {i j:Int} (R:Rl n σ) (h:Gn n ts) (hi:0<=i) (p:i < n) (l:0<=j) (m:j < n):zw (ts.map (i9 σ)) (σ i) (σ j)=zw ts i j:=by
 refine jH λu d=>⟨rfl,?_⟩
 obtain ⟨f1,f2,o⟩:=h u d
 have e1:σ u.1=σ i↔u.1=i:=⟨R.inj _ _ (by omega) (by omega) (by omega) (by omega),λe=>by rw [e]⟩
 have e2:σ u.1=σ j↔u.1=j:=⟨R.inj _ _ (by omega) (by omega) (by omega) (by omega),λe=>by rw [e]⟩
 have g:σ u.2.1=σ i↔u.2.1=i:=⟨R.inj _ _ (by omega) (by omega) (by omega) (by omega),λe=>by rw [e]⟩
 have f:σ u.2.1=σ j↔u.2.1=j:=⟨R.inj _ _ (by omega) (by omega) (by omega) (by omega),λe=>by rw [e]⟩
 have c:cL u.1 u.2.1=u.1:=by unfold cL; exact if_neg (by omega)
 have b:c5 u.1 u.2.1=u.2.1:=by unfold c5; exact if_pos f2
 have a:gH i j u↔(cL u.1 u.2.1=cL i j/\c5 u.1 u.2.1=c5 i j):=by rw [c,b]
 rw [a,Uw,<- e1,<- e2,<- g,<- f]
 exact Uw
def WA (c:∀ B∈bs,Gn B.1 B.2.2):Gn (yZ bs) (cV 0 bs):=λu a=>by
 obtain ⟨p,b,h1,h2,d⟩:=Md c a
 have:=xp b
 unfold In at h1 h2
 omega
structure Hs (bs:List bA) (σ:Int->Int):Prop where
 gb:∀ B∈bs,B.2∈um B.1
 rl:Rl (yZ bs) σ
def bU (bs:List bA) (σ:Int->Int):List T3:=(cV 0 bs).map (i9 σ)
def vC (σ:Int->Int) (p:Int×bA):List Int:=(idx p.2.1).map λi=>σ (p.1+i)
def xh   : i∈idx n↔0<=i/\i < n:=by
 unfold idx
 rw [eW]
 constructor
 .rintro ⟨k,a,rfl⟩
  have:=ip.mp a
  omega
 .rintro ⟨h1,h2⟩
  exact ⟨i.toNat,ip.mpr (by omega),by omega⟩
def w8 (n):(idx n).Nodup:=by
 unfold idx List.Nodup
 rw [oY]
 exact List.nodup_range.imp λh e=>h (by omega)
def Kq (h:B∈um k):Gn k B.2:=λu a=>by
 have h:=Wh h
 unfold iE at h
 rw [du,du,du] at h
 have:=cw.mp h.1.1.1 u a
 simpa [and_assoc] using this
def Vh (h:B∈um k) (a:v < k) (c:v≠0):∃ u:Nat,u < v/\zw B.2 u v≠2:=by
 have h:=Wh h
 unfold iE at h
 rw [du,du,du] at h
 have:=cw.mp h.1.1.2 v (ip.mpr a)
 rw [rM] at this
 rcases this with z | z
 .exact absurd (of_decide_eq_true z) c
 .obtain ⟨u,b,z⟩:=rN.mp z
  exact ⟨u,ip.mp b,of_decide_eq_true z⟩
def Vg (h:B∈um k):(∀ c∈xZ (zw B.2) (JJ B.2) (idx k),c=(0,0)\/c=B.1)/\(B.1=(0,0)\/B.1∈xZ (zw B.2) (JJ B.2) (idx k)):=by
 have h:=Wh h
 unfold iE at h
 rw [du,du,du] at h
 refine ⟨λc a=>?_,?_⟩
 .have:=cw.mp h.1.2 c a
  rw [rM] at this
  exact this.imp of_decide_eq_true of_decide_eq_true
 .have:=h.2
  rw [rM] at this
  refine this.imp of_decide_eq_true λz=>?_
  obtain ⟨c,a,e⟩:=rN.mp z
  rw [<- of_decide_eq_true e]
  exact a
section
variable {bs:List bA} {σ:Int->Int} {p:Int×bA}
def Hs.fits (h:Hs bs σ):∀ B∈bs,Gn B.1 B.2.2:=λB a=>Kq (h.gb B a)
def Hs.turn_in (h:Hs bs σ) (a:p∈xW 0 bs) {i j:Int} (h1:0<=i) (h2:i < p.2.1) (c:0<=j) (b:j < p.2.1):zw (bU bs σ) (σ (p.1+i)) (σ (p.1+j))=zw p.2.2.2 i j:=by
 have:=xp a
 unfold bU
 rw [Uz h.rl (WA h.fits) (by omega) (by omega) (by omega) (by omega),GH.turn_in h.fits a h1 h2 c b]
def xt:y∈vC σ p↔∃ x,In p x/\σ x=y:=by
 unfold vC
 rw [eW]
 constructor
 .rintro ⟨i,hi,rfl⟩
  rw [xh] at hi
  exact ⟨_,⟨by omega,by omega⟩,rfl⟩
 .rintro ⟨x,a,rfl⟩
  unfold In at a
  exact ⟨x - p.1,xh.mpr ⟨by omega,by omega⟩,by congr 1; omega⟩
def Hs.turn_out (h:Hs bs σ) (a:p∈xW 0 bs) (c:x∈vC σ p) (b:y∉vC σ p) (h1:0<=y) (h2:y < yZ bs):zw (bU bs σ) x y=2:=by
 obtain ⟨i,hi,rfl⟩:=xt.mp c
 obtain ⟨j,d,e,rfl⟩:=h.rl.sur y h1 h2
 have:=xp a
 unfold bU
 unfold In at hi
 rw [Uz h.rl (WA h.fits) (by omega) (by omega) (by omega) (by omega),GH.turn_out h.fits a hi]
 exact λz=>b (xt.mpr ⟨j,z,rfl⟩)
def Hs.rlb (h:Hs bs σ) (b:p∈xW 0 bs):Rlb (zw p.2.2.2) (zw (bU bs σ)) (λi=>σ (p.1+i)) (idx p.2.1) where
 tt:=λi hi j a=>by
  rw [xh] at hi a
  exact h.turn_in b hi.1 hi.2 a.1 a.2
 inj:=λi hi j a e=>by
  rw [xh] at hi a
  have:=xp b
  have:=h.rl.inj _ _ (by omega) (by omega) (by omega) (by omega) e
  omega
def Uq (h:Hs bs σ) (a:p∈xW 0 bs):(vC σ p).Nodup:=by
 unfold vC List.Nodup
 rw [oY]
 exact (w8 p.2.1).imp_of_mem λc b z e=>z ((h.rlb a).inj _ c _ b e)
def Hs.kind (h:Hs bs σ) (a:p∈xW 0 bs) (d:ms.Perm (vC σ p)):Yg (xZ (zw (bU bs σ)) (JJ p.2.2.2) ms)=p.2.2.1:=by
 obtain ⟨k1,k2⟩:=Vg (h.gb p.2 (xX a))
 have r:=λk=>Vn (h.rlb a) (λy c=>c) d (b:=JJ p.2.2.2) (k:=k)
 refine KL (λk e=>k1 k ((r k).mp e)) ?_
 exact k2.imp id λz=>(r _).mpr z
def Zd (ts:List T3) (ms:List Int):Bool:=(ts.filter λu=>decide (u.1∈ms)).all λu=>decide (u.2.2=3)
def GR (a b):cL a b=a\/cL a b=b:=by unfold cL; split <;> simp
def Hs.thr (h:Hs bs σ) (b:p∈xW 0 bs) (i:ms.Perm (vC σ p)):Zd (bU bs σ) ms=JJ p.2.2.2:=by
 have n:=xp b
 unfold Zd JJ
 rw [Bool.eq_iff_iff,cw,cw]
 constructor
 .intro q v a
  have f:=h.fits p.2 (xX b) v a
  refine q (i9 σ (dq p.1 v)) (e_.mpr ⟨rP (XN.mpr ⟨p,b,v,a,rfl⟩),decide_eq_true (i.mem_iff.mpr (xt.mpr ?_))⟩)
  show ∃ x,In p x/\σ x=cL (σ (p.1+v.1)) (σ (p.1+v.2.1))
  rcases GR (σ (p.1+v.1)) (σ (p.1+v.2.1)) with e | e <;> rw [e]
  .exact ⟨_,⟨by omega,by omega⟩,rfl⟩
  .exact ⟨_,⟨by omega,by omega⟩,rfl⟩
 .intro q u g
  obtain ⟨g,hd⟩:=e_.mp g
  obtain ⟨w,l,rfl⟩:=eW.mp g
  obtain ⟨r,c,v,a,rfl⟩:=XN.mp l
  have f:=h.fits r.2 (xX c) v a
  have m:=xp c
  obtain ⟨x,d,ex⟩:=xt.mp (i.mem_iff.mp (of_decide_eq_true hd))
  have ex:σ x=cL (σ (r.1+v.1)) (σ (r.1+v.2.1)):=ex
  have j:=d
  unfold In at j
  have e:r=p:=by
   rcases GR (σ (r.1+v.1)) (σ (r.1+v.2.1)) with e | e <;> rw [e] at ex
   .have:=h.rl.inj _ _ (by omega) (by omega) (by omega) (by omega) ex
    subst this
    exact ke c b ⟨by omega,by omega⟩ d
   .have:=h.rl.inj _ _ (by omega) (by omega) (by omega) (by omega) ex
    subst this
    exact ke c b ⟨by omega,by omega⟩ d
  subst e
  exact q v a
end
def kS (t:Int->Int->Int):Nat->List Int->List Int->Nat->List Int
 | 0,part,_,_=>part
 | n+1,part,left,p=>match part[p]? with
  | none=>part
  | some x=>kS t n (part++bo t x left) (left.filter λo=>decide (o∉bo t x left)) (p+1)
theorem VF  {R S:List Int} (s:R.Nodup) (r:∀ x∈S,∀ y∈R,y∉S->t x y=2) :
  ∀ n part left p,(part++left).Perm R->(∀ x∈part,x∈S)->(∀ q,q < p->∀ x,part[q]? = some x->∀ y∈left,t x y=2)->R.length<=n+p →
   (∀ x∈part,x∈kS t n part left p)/\(kS t n part left p).Nodup/\(∀ x∈kS t n part left p,x∈S)/\∀ x∈kS t n part left p,∀ y∈R,y∉kS t n part left p->t x y=2
 | n,part,left,p,h1,h2,u,F=>by
  have l:(part++left).Nodup:=h1.nodup_iff.mpr s
  have B:=h1.length_eq
  rw [bX] at B
  have stop:part.length<=p->(∀ x∈part,x∈part)/\part.Nodup/\(∀ x∈part,x∈S)/\∀ x∈part,∀ y∈R,y∉part->t x y=2:=λE=>by
   refine ⟨λ_ h=>h,(List.nodup_append.mp l).1,h2,λx d y a g=>?_⟩
   obtain ⟨q,j,e⟩:=List.mem_iff_getElem.mp d
   refine u q (by omega) x (by rw [fq j,e]) y ?_
   rcases gs.mp (h1.mem_iff.mpr a) with z | z
   .exact absurd z g
   .exact z
  cases n with
  | zero=>exact stop (by omega)
  | succ n =>
   unfold kS
   cases e:part[p]? with
   | none=>exact stop (List.getElem?_eq_none_iff.mp e)
   | some x =>
    have d:x∈part:=g3d e
    have m:∀ o∈left,(decide (o∉bo t x left)) = !(decide (o≠x)&&decide (t x o≠2)):=λo A=>by
     have:o∈bo t x left↔(decide (o≠x)&&decide (t x o≠2))=true:=by
      unfold bo; rw [e_]; exact ⟨λz=>z.2,λz=>⟨A,z⟩⟩
     cases c:(decide (o≠x)&&decide (t x o≠2)) with
     | true=>rw [c] at this; simpa using this
     | false=>rw [c] at this; simpa using this
    have i:((part++bo t x left)++left.filter λo=>decide (o∉bo t x left)).Perm R:=by
     rw [mn]
     refine (List.Perm.append_left part ?_).trans h1
     rw [En m]
     exact List.filter_append_perm _ _
    have v:∀ y∈bo t x left,y∈S:=λy a=>by
     unfold bo at a
     obtain ⟨a,hd⟩:=e_.mp a
     rw [du] at hd
     refine Af λz=>of_decide_eq_true hd.2 (r x (h2 x d) y (h1.mem_iff.mp (dD _ a)) z)
    obtain ⟨a1,a2,a3,a4⟩:=VF s r n (part++bo t x left) (left.filter λo=>decide (o∉bo t x left)) (p+1) i (λy a=>(gs.mp a).elim (h2 y) (v y)) (λq j z f y a=>by
      obtain ⟨b,hd⟩:=e_.mp a
      have w:p < part.length:=(gE.mp e).1
      rw [lQ (by omega)] at f
      by_cases c:q=p
      .subst c
       rw [e] at f
       cases f
       rw [m y b] at hd
       have C:y≠x:=λz=>by
        subst z
        exact (List.nodup_append.mp l).2.2 y d y b rfl
       simpa [C] using hd
      .exact u q (by omega) z f y b) (by omega)
    exact ⟨λy a=>a1 y (rR _ a),a2,a3,a4⟩
def uE {a b:List Int} (d:a.Nodup) (c:b.Nodup) (h:∀ x,x∈a↔x∈b):a.Perm b:=(List.perm_ext_iff_of_nodup d c).mpr h
def uv (t:Int->Int->Int) (n:Nat) (x:Int):List Int:=kS t n [x] (a_ (idx n) x) 0
def Qc {bs:List bA} {σ:Int->Int} {p:Int×bA} (h:Hs bs σ) (hp:p∈xW 0 bs) {x:Int} (hx:x∈vC σ p):(uv (zw (bU bs σ)) (yZ bs) x).Perm (vC σ p):=by
 have hl:=xp hp
 obtain ⟨i,hi,ei⟩:=xt.mp hx
 unfold In at hi
 have hR:x∈idx (yZ bs):=by
  rw [xh,<- ei]
  exact h.rl.rg i (by omega) (by omega)
 have hwo:([x]++a_ (idx (yZ bs)) x).Perm (idx (yZ bs)):=by
  refine uE ?_ (w8 _) λy=>?_
  .rw [g2z,nq]
   refine ⟨λz=>?_,(w8 _).filter _⟩
   unfold a_ at z
   simpa using (e_.mp z).2
  .rw [g2z,aQ]
   unfold a_
   rw [e_]
   constructor
   .rintro (rfl | z)
    .exact hR
    .exact z.1
   .intro z
    by_cases c:y=x
    .exact .inl c
    .exact .inr ⟨z,decide_eq_true c⟩
 obtain ⟨a1,a2,a3,a4⟩:=VF (t:=zw (bU bs σ)) (S:=vC σ p) (w8 (yZ bs)) (λy hy z hz iG=>h.turn_out hp hy iG (xh.mp hz).1 (xh.mp hz).2) (yZ bs) [x] (a_ (idx (yZ bs)) x) 0 hwo (λy hy=>by rw [List.mem_singleton.mp hy]; exact hx) (λq hq=>by omega) (by unfold idx; simp)
 unfold uv
 refine uE a2 (Uq h hp) λy=>⟨a3 y,λhy=>?_⟩
 have step:∀ u v:Nat,u < p.2.1->v < p.2.1->zw p.2.2.2 u v≠2->σ (p.1+u)∈kS (zw (bU bs σ)) (yZ bs) [x] (a_ (idx (yZ bs)) x) 0->σ (p.1+v)∈kS (zw (bU bs σ)) (yZ bs) [x] (a_ (idx (yZ bs)) x) 0:=λu v hu hv ht hm=>by
  refine Af λz=>ht ?_
  rw [<- h.turn_in hp (i:=u) (j:=v) (by omega) (by omega) (by omega) (by omega)]
  refine a4 _ hm _ ?_ z
  rw [xh]
  exact h.rl.rg _ (by omega) (by omega)
 have down:∀ v:Nat,v < p.2.1->σ (p.1+v)∈kS (zw (bU bs σ)) (yZ bs) [x] (a_ (idx (yZ bs)) x) 0->σ (p.1+(0:Nat))∈kS (zw (bU bs σ)) (yZ bs) [x] (a_ (idx (yZ bs)) x) 0:=by
  intro v
  induction v using Nat.strongRecOn with
  | _ v ih =>
   intro hv hm
   by_cases c:v=0
   .subst c; exact hm
   .obtain ⟨u,hu,ht⟩:=Vh (h.gb p.2 (xX hp)) hv c
    exact ih u hu (by omega) (step v u hv (by omega) (by rw [VQ]; exact ht) hm)
 have up:∀ v:Nat,v < p.2.1->σ (p.1+v)∈kS (zw (bU bs σ)) (yZ bs) [x] (a_ (idx (yZ bs)) x) 0:=by
  intro v
  induction v using Nat.strongRecOn with
  | _ v ih =>
   intro hv
   by_cases c:v=0
   .subst c
    refine down (i - p.1).toNat (by omega) ?_
    have:p.1+(((i - p.1).toNat:Nat):Int)=i:=by omega
    rw [this,ei]
    exact a1 x ba
   .obtain ⟨u,hu,ht⟩:=Vh (h.gb p.2 (xX hp)) hv c
    exact step u v (by omega) hv ht (ih u hu (by omega))
 obtain ⟨j,hj,rfl⟩:=xt.mp hy
 unfold In at hj
 have:=up (j - p.1).toNat (by omega)
 have e:p.1+(((j - p.1).toNat:Nat):Int)=j:=by omega
 rwa [e] at this
end GH
namespace GH
open FL
def JM (h:a.Perm b):yd a=yd b:=Wf ((z9 a).trans (h.trans (z9 b).symm)) (wJ a) (wJ b)
def Mm (P:List Int) (s:PySem.Str):HR:=((P.headD 0,P.tail),s)
def Cs {a b:List HR} (c:a.Pairwise λx y=>x.1.1 < y.1.1) (d:b.Pairwise λx y=>x.1.1 < y.1.1) (h:∀ r,r∈a↔r∈b):a=b:=by
 have g:a.Nodup:=c.imp λz e=>by rw [e] at z; omega
 have f:b.Nodup:=d.imp λz e=>by rw [e] at z; omega
 refine Ju ((List.perm_ext_iff_of_nodup g f).mpr h) ?_ (c.imp λz=>by omega) (d.imp λz=>by omega)
 unfold List.Nodup
 rw [oY]
 exact c.imp λz e=>by omega
def BQ (n:Nat):(idx n).Pairwise (· < ·):=by
 unfold idx
 rw [oY]
 exact List.pairwise_lt_range.imp λh=>by omega
theorem U1:∀ (bs:List bA) (b:Int),(xW b bs).Pairwise λ(p q:Int×bA)=>p.1+(p.2.1:Int)<=q.1
 | [],_=>.nil
 | B :: bs,b=>lN.mpr ⟨λq a=>(xp a).1,U1 bs _⟩
section
variable {bs:List bA} {σ:Int->Int} {p:Int×bA} (kT:Kd->PySem.Str)
def X9 (σ:Int->Int) (p:Int×bA):HR:=Mm (yd (vC σ p)) (kT p.2.2.1)
def Vl (n:Nat) (ts:List T3):List HR:=(idx n).filterMap λx=>if (yd (uv (zw ts) n x)).headD 0=x then some (Mm (yd (uv (zw ts) n x)) (kT (Yg (xZ (zw ts) (Zd ts (yd (uv (zw ts) n x))) (yd (uv (zw ts) n x)))))) else none
def Hs.pos (h:Hs bs σ) (a:p∈xW 0 bs):0 < p.2.1:=by
 have:=h.gb p.2 (xX a)
 cases e:p.2.1 with
 | zero=>rw [e] at this; cases this
 | succ n=>omega
def Hs.head (h:Hs bs σ) (a:p∈xW 0 bs):∃ x r,yd (vC σ p)=x :: r/\x∈vC σ p:=by
 have h1:(yd (vC σ p)).length=p.2.1:=by
  rw [(z9 _).length_eq]
  unfold vC idx
  simp
 have h2:=h.pos a
 cases e:yd (vC σ p) with
 | nil=>rw [e] at h1; simp at h1; omega
 | cons x r=>exact ⟨x,r,rfl,(z9 _).subset (by rw [e]; exact ba)⟩
def Hs.due_asc (h:Hs bs σ):(((xW 0 bs).map (X9 kT σ)).map λr:HR=>r.1.1).Nodup:=by
 unfold List.Nodup
 rw [cN,oY]
 refine (U1 bs 0).imp_of_mem λ{p q} b a z e=>?_
 obtain ⟨x,r,e1,d⟩:=h.head b
 obtain ⟨y,m,e2,c⟩:=h.head a
 have e:(yd (vC σ p)).headD 0=(yd (vC σ q)).headD 0:=e
 rw [e1,e2] at e
 have e:x=y:=e
 subst e
 obtain ⟨i,hi,l⟩:=xt.mp d
 obtain ⟨j,f,g⟩:=xt.mp c
 unfold In at hi f
 have o:=xp b
 have n:=xp a
 have:=h.rl.inj i j (by omega) (by omega) (by omega) (by omega) (by rw [l,g])
 omega
def Hs.row (h:Hs bs σ) (a:p∈xW 0 bs) (b:x∈vC σ p):yd (uv (zw (bU bs σ)) (yZ bs) x)=yd (vC σ p) ∧
  Yg (xZ (zw (bU bs σ)) (Zd (bU bs σ) (yd (vC σ p))) (yd (vC σ p)))=p.2.2.1:=by
 refine ⟨JM (Qc h a b),?_⟩
 rw [h.thr a (z9 _),h.kind a (z9 _)]
def Qw (h:Hs bs σ):Vl kT (yZ bs) (bU bs σ)=jk ((xW 0 bs).map (X9 kT σ)):=by
 have q:=h.due_asc kT
 refine Cs ?_ ?_ λr=>?_
 .unfold Vl
  refine (BQ (yZ bs)).filterMap _ λx y l r m u j=>?_
  split at m
  .rename_i e
   split at j
   .rename_i t
    cases m
    cases j
    show (yd _).headD 0 < (yd _).headD 0
    rw [e,t]
    exact l
   .cases j
  .cases m
 .have h1:=vG ((xW 0 bs).map (X9 kT σ))
  have h2:((jk ((xW 0 bs).map (X9 kT σ))).map λr:HR=>r.1.1).Nodup:=((wj _).map _).nodup_iff.mpr q
  unfold List.Nodup at h2
  rw [oY] at h2
  refine (h1.and h2).imp λ{a b} z=>?_
  have:=z.1
  have:=z.2
  omega
 .rw [(wj _).mem_iff,eW]
  unfold Vl
  rw [lO]
  constructor
  .rintro ⟨x,c,e⟩
   rw [xh] at c
   obtain ⟨i,hi,w,rfl⟩:=h.rl.sur x c.1 c.2
   obtain ⟨p,d,n⟩:=U0 (bs:=bs) (b:=0) (x:=i) (by omega) (by omega)
   have o:σ i∈vC σ p:=xt.mpr ⟨i,n,rfl⟩
   obtain ⟨g,f⟩:=h.row d o
   rw [g,f] at e
   split at e
   .cases e
    exact ⟨p,d,rfl⟩
   .cases e
  .rintro ⟨p,d,rfl⟩
   obtain ⟨x,r,e,c⟩:=h.head d
   obtain ⟨g,f⟩:=h.row d c
   have v:=xp d
   obtain ⟨i,hi,s⟩:=xt.mp c
   unfold In at hi
   refine ⟨x,?_,?_⟩
   .rw [xh,<- s]
    exact h.rl.rg i (by omega) (by omega)
   .rw [g,f,if_pos (by rw [e]; rfl)]
    rfl
end
end GH
namespace Pk63
open PySem PySem.Spec PyProof.Rows L2 FL
def top (i:Nat):Stmt:=PySem.Challenge.pw_mirrorhouse_k63_degrees_and_counts.main.body.getD i (.Pass ⟨0,0,0,0⟩)
abbrev jO:Stmt:=top 9
abbrev vK:Stmt:=top 15
abbrev jN:Stmt:=top 16
abbrev jP:Stmt:=top 17
abbrev X3:Stmt:=top 18
abbrev vM:Stmt:=top 19
abbrev Z4:Stmt:=top 20
abbrev vm:Stmt:=top 21
abbrev wx:Stmt:=top 22
abbrev yQ:Stmt:=top 23
abbrev xE:Stmt:=top 24
abbrev wQ:Stmt:=top 25
abbrev wu:Stmt:=top 26
abbrev jV:Stmt:=top 27
abbrev X7:Stmt:=top 28
abbrev jW:Stmt:=top 29
abbrev xF:Stmt:=top 30
abbrev uX:Stmt:=top 31
abbrev W5:Stmt:=top 32
abbrev vJ:Stmt:=top 33
abbrev jx:Stmt:=top 34
abbrev UO:Stmt:=top 36
abbrev X6:Stmt:=top 37
abbrev jQ:Stmt:=top 38
abbrev jT:Stmt:=top 39
abbrev zJ:Stmt:=top 40
abbrev jR:Stmt:=top 41
abbrev jU:Stmt:=top 42
abbrev jS:Stmt:=top 43
abbrev zW:Stmt:=top 44
abbrev X5:Stmt:=top 45
abbrev uD:Stmt:=top 46
abbrev uC:Stmt:=top 48
abbrev Z2:Stmt:=top 49
abbrev VX:Stmt:=top 50
structure Txt (w:sU) (K:sx) (mg:Str->Option Value):Prop where
 base:True
 ValueError_b:mg "ValueError"=none
 all_b:mg "all"=none
 bool_b:mg "bool"=none
 enumerate_b:mg "enumerate"=none
 int_b:mg "int"=none
 isinstance_b:mg "isinstance"=none
 len_b:mg "len"=none
 list_b:mg "list"=none
 max_b:mg "max"=none
 min_b:mg "min"=none
 range_b:mg "range"=none
 sorted_b:mg "sorted"=none
 str_b:mg "str"=none
 sum_b:mg "sum"=none
 tuple_b:mg "tuple"=none
 zip_b:mg "zip"=none
 COMMON_TURN_c:∃ t,mg "COMMON_TURN"=some (Value.int 3 t)
 NOT_TOLD_c:∃ t,mg "NOT_TOLD"=some (Value.int 2 t)
 NO_KIND_c:∃ t,mg "NO_KIND"=some (Value.str "-" t)
 RARE_CHAINS_c:GDictT K mg "RARE_CHAINS" [([3,4,3],(.str "f4")),([3,5],(.str "h3")),([3,3,5],(.str "h4")),([5],(.str "i5")),([6],(.str "i6"))]
 RARE_DEGREES_c:GDictS w K mg "RARE_DEGREES" [("e6",(.tup [(.int 2),(.int 5),(.int 6),(.int 8),(.int 9),(.int 12)])),("f4",(.tup [(.int 2),(.int 6),(.int 8),(.int 12)])),("h3",(.tup [(.int 2),(.int 6),(.int 10)])),("h4",(.tup [(.int 2),(.int 12),(.int 20),(.int 30)])),("i5",(.tup [(.int 2),(.int 5)])),("i6",(.tup [(.int 2),(.int 6)]))]
abbrev Z3:Stmt:=top 47
abbrev oE:Stmt:=BP (top 6) 0
def MN:FnScope ["self","mirrors"] ["self","mirrors"] (zi oE):=⟨rfl,rfl,rfl,by decide +kernel,rfl,by decide +kernel,by decide +kernel⟩
section
variable {P:sH} {w:sU} {K:sx} {mg:Str->Option Value} {base:Heap} {f:Addr} {fd:tU}
def Nc {C D fI:Addr} {bm:List Value} {newId:String} (F:Fun K "__init__" "Endless.__init__" oE f fd)
  (O:OwnCI C fI bm newId base) (G:AG "ValueError" newId "ValueError.__init__" bm) (Z:XCls K C D "mirrors") (y:mg "HouseError"=some (.ref D)) (v:mg "list"=none)
  (g:El K (.ref D) "__getattribute__"=some (some (.builtin "type.__getattribute__"))) (p:PySem.W.readsIn K D (.type "type")=true)
  (t:PySem.W.findCls K (.ref D) (.type "type") "__init__"=some (.val (.builtin "ValueError.__init__"))) :
  FnOk P w K mg base bF 1 f fd ["self","mirrors"] (Gv K C):=by
 refine F.ok (k:=0) MN (λvs H Q E h=>?_) (λaq A outer s H vs Q E I h=>?_)
 .obtain ⟨_,_,_,_,_,rfl,_⟩:=h; rfl
 .obtain ⟨Hf,e,a,d,ns,rfl,sf,u,hd,n,q⟩:=h
  refine ⟨_,yL (qI (Ki (x:="HouseError") (C:=C) (D:=D) O G rfl y g p t (u4 (i:=0) rfl (.inl rfl)) Zp rfl rfl))
   (wR (HS Z (u4 (i:=0) rfl (.inl rfl)) (Yy rfl v (zj (dw 1) zx)) rfl)),?_⟩
  have R:Rep K H Hf (L2.start ["self","mirrors"] [.ref e,a]) [.no,.fr d] H Hf:=by
   refine ⟨zD,sf,λb o z=>.inl z,zD,rfl,λi d' z=>?_,λi sl z ow=>?_,λi j sl cX c z ow=>?_⟩
   .match i,z with
    | 1,z=>cases z; exact ⟨a,rfl,u⟩
   .match i,z with
    | 0,z=>cases z; cases ow
    | 1,z=>cases z; cases ow
   .match i,z with
    | 0,z=>cases z; cases ow
    | 1,z=>cases z; cases ow
  refine ⟨.ref e,rfl,e,rfl,n,?_⟩
  refine ⟨H,Hf,_,Hf,ns.map FL.D.int,R,?_,λl xs H' ao R' s1 s2 r e1 e2 B=>⟨.ref e,rfl,e,l,rfl,rfl,s1 _ _ n,λdx m=>q H' l dx s1 (by rw [e1,hasL_ints r]) B m (λz=>by rw [z,e1] at m; cases m)⟩⟩
  rcases hd with rfl | rfl <;> rfl
abbrev cA (x:Str) (st:Stmt) (L n m:Nat) (ps:List Str) (F:FS) (P:sH) (w:sU) (K:sx) (mg:Str->Option Value) (base:Heap):Prop:=∀ {f fd},Fun K x x st f fd->Txt w K mg->FnOk P w K mg base bF L f fd ps (spF K n (vE m F))
def wm:FnScope ["house","i","j","lesser","greater","first","second","m"] ["house","i","j"] (zi jO):=ck
noncomputable def kX:{F:FS // ∀ {P w K m b} ,cA "turn_of" jO 1 3 8 ["house","i","j"] F P w K m b} :=
 ⟨_,λc T=>yo (k:=0) rfl rfl c wm λaq A outer s H E a=>(ze (zR 3 wm.nd (yc (XH rfl) QR rfl T.min_b (by rfl) (zj (dw 1) (zj (dw 2) zx)))) (ze (zR 4 wm.nd (yc (qt rfl) Yo rfl T.max_b (by rfl) (zj (dw 1) (zj (dw 2) zx)))) (ze (wC sY rfl (yG (vi (dw 0) ay)) (wD (n:=3) rfl (zL (zX 5 wm.nd) (zL (zX 6 wm.nd) (zL (zX 7 wm.nd) xi)))) (zo (xa (Ea (Zx (vt a (dw 5) (dw 3)) (qO (vt a (dw 6) (dw 4))))) (zo (zK (dv 7))) z5))) (zo (zK (XA rfl T.NOT_TOLD_c))))))⟩
noncomputable def ve:=vE 8 kX.1
def Z0:FnScope ["house","mirror","others"] ["house","mirror","others"] (zi vK):=ck
noncomputable def ua:{F:FS // ∀ {P w K m b} (c:HasFn P w K m b 1 "turn_of" 3 ve),cA "neighbours" vK 2 3 3 ["house","mirror","others"] F P w K m b} :=
 ⟨_,λc=>λd T=>yo (k:=1) rfl rfl d Z0 λaq A outer s H E a=>(zo (zK (sJ (yF (own:=["other"]) (frees:=["mirror","house"]) (caps:=[1,0]) rfl (.of (by kernel_rfl)) rfl z6 (yG (dv 2)) (λcl C s H fp=>⟨(cz 0),(ji (Ea (Zx (Yv a (dw 0) (dw 1)) (qO (Yv a (sy (aR c (za (dv 2) (za (dv 1) (za (dv 0) zf))))) (sy (XA rfl T.NOT_TOLD_c))))))),(dv 0)⟩)))))⟩
noncomputable def yn:=vE 3 ua.1
def VS:FnScope ["mirrors","mirror"] ["mirrors","mirror"] (zi jN):=ck
noncomputable def kW:{F:FS // ∀ {P w K m b} ,cA "without" jN 1 2 2 ["mirrors","mirror"] F P w K m b} :=
 ⟨_,λc T=>yo (k:=0) rfl rfl c VS λaq A outer s H E a=>(zo (zK (sJ (yF (own:=["other"]) (frees:=["mirror"]) (caps:=[1]) rfl (.of (by kernel_rfl)) rfl z6 (yG (dv 0)) (λcl C s H fp=>⟨(cz 0),(ji (Yv a (dw 0) (dw 1))),(dv 0)⟩)))))⟩
noncomputable def wz:=vE 2 kW.1
def xC:FnScope ["house","mirror","part","left","place","near"] ["house","mirror"] (zi jP):=ck
noncomputable def kY:{F:FS // ∀ {P w K m b} (c:HasFn P w K m b 2 "neighbours" 3 yn) (a:HasFn P w K m b 1 "without" 2 wz),cA "part_of" jP 3 2 6 ["house","mirror"] F P w K m b} :=
 ⟨_,λc a=>λe T=>yo (k:=2) rfl rfl e xC λaq A outer s H E d=>(ze (xx 2 xC.nd (zF (za (dv 1) zf))) (ze (zR 3 xC.nd (aR a (za (sJ (Xy rfl rfl T.list_b rfl T.range_b (zj (sy (vi (dw 0) ay)) zx))) (za (dv 1) zf)))) (ze (zR 4 xC.nd zU) (ze (Yw 100000 sY (B6 (dw 4) (sy (yc yg yY rfl T.len_b (by rfl) (zj (dk 2) zx)))) (ze (zR 5 xC.nd (aR c (za (dv 0) (za (vi (dk 2) (dw 4)) (za (dv 3) zf))))) (ze (vV 2 (dv 5)) (ze (ui 3 xC.nd (own:=["other"]) (frees:=["near"]) (caps:=[5]) rfl (.of (by kernel_rfl)) rfl z6 (yG (dv 3)) (λcl C s H fp=>⟨(cz 0),(ji (K5 d (dw 0) (dw 1))),(dv 0)⟩)) (zo (B8 4 xC.nd Fu zU)))))) (zo (zK (sJ (vW rfl T.sorted_b (zj (dk 2) zx)))))))))⟩
noncomputable def qh:=vE 6 kY.1
def W3:FnScope ["house","reached"] ["house"] (zi X3):=ck
noncomputable def WU:{F:FS // ∀ {P w K m b} (a:HasFn P w K m b 3 "part_of" 2 qh),cA "parts" X3 4 1 2 ["house"] F P w K m b} :=
 ⟨_,λa=>λd T=>yo (k:=3) rfl rfl d W3 λaq A outer s H E c=>(ze (ui 1 W3.nd (own:=["mirror"]) (frees:=["house"]) (caps:=[0]) rfl (.of (by kernel_rfl)) rfl z6 (vX rfl T.range_b (zj (sy (vi (dw 0) ay)) zx)) (λcl C s H fp=>⟨(cz 0),wa,(aR a (za (dv 1) (za (dv 0) zf)))⟩)) (zo (zK (sJ (yF (own:=["mirror","part"]) (frees:=[]) (caps:=[]) rfl (.of (by kernel_rfl)) rfl (Xl (xb z6 (xb z6 km))) (Cb rfl T.enumerate_b (dv 1)) (λcl C s H fp=>⟨(wD (n:=2) rfl (zL (cz 0) (zL (cz 1) xi))),(ji (vt c (sy (vi (dw 1) ay)) (dw 0))),(dv 1)⟩))))))⟩
noncomputable def Ww:=vE 2 WU.1
def xo:FnScope ["house","mirrors","first","order","left","near"] ["house","mirrors","first"] (zi vM):=ck
noncomputable def uc:{F:FS // ∀ {P w K m b} (c:HasFn P w K m b 2 "neighbours" 3 yn) (a:HasFn P w K m b 1 "without" 2 wz),cA "chain_from" vM 3 3 6 ["house","mirrors","first"] F P w K m b} :=
 ⟨_,λc a=>λe T=>yo (k:=2) rfl rfl e xo λaq A outer s H E d=>(ze (xx 3 xo.nd (zF (za (dv 2) zf))) (ze (zR 4 xo.nd (aR a (za (dv 1) (za (dv 2) zf)))) (ze (Yw 100000 sY (WG (sy (yc yg yY rfl T.len_b (by rfl) (zj (dw 4) zx))) ay) (ze (zR 5 xo.nd (aR c (za (dv 0) (za (vi (dk 3) (sy (ND ay))) (za (dv 4) zf))))) (ze (xa (Yv d (sy (yc yg yY rfl T.len_b (by rfl) (zj (dw 5) zx))) ay) (zo (zK Ul)) z5) (ze (xV 3 (vi (dw 5) ay)) (zo (zR 4 xo.nd (aR a (za (dv 4) (za (vi (dw 5) ay) zf))))))))) (uH 3 (zo (zK (dv 3)))))))⟩
noncomputable def xU:=vE 6 uc.1
def Y0:FnScope ["house","mirrors","orders"] ["house","mirrors"] (zi Z4):=ck
noncomputable def YH:{F:FS // ∀ {P w K m b} (a:HasFn P w K m b 3 "chain_from" 3 xU),cA "chains" Z4 4 2 3 ["house","mirrors"] F P w K m b} :=
 ⟨_,λa=>λc T=>yo (k:=3) rfl rfl c Y0 λaq A outer s H E d=>(ze (ui 2 Y0.nd (own:=["first"]) (frees:=["house","mirrors"]) (caps:=[0,1]) rfl (.of (by kernel_rfl)) rfl z6 (yG (dv 1)) (λcl C s H fp=>⟨(cz 0),wa,(aR a (za (dv 1) (za (dv 2) (za (dv 0) zf))))⟩)) (zo (zK (sJ (yF (own:=["order"]) (frees:=[]) (caps:=[]) rfl (.of (by kernel_rfl)) rfl z6 (yG (dv 2)) (λcl C s H fp=>⟨(cz 0),(ji (jC (dw 0) (sy Ul))),(dv 0)⟩))))))⟩
noncomputable def qi:=vE 3 YH.1
def Ze:FnScope ["house","order"] ["house","order"] (zi vm):=ck
noncomputable def vy:{F:FS // ∀ {P w K m b} (a:HasFn P w K m b 1 "turn_of" 3 ve),cA "turns_along" vm 2 2 2 ["house","order"] F P w K m b} :=
 ⟨_,λa=>λc T=>yo (k:=1) rfl rfl c Ze λaq A outer s H E d=>(zo (zK (sJ (yF (own:=["i","j"]) (frees:=["house"]) (caps:=[0]) rfl (.of (by kernel_rfl)) rfl (Xl (xb z6 (xb z6 km))) (FW rfl T.zip_b (dv 1) (qP (dw 1) (Yx ay) B9)) (λcl C s H fp=>⟨(wD (n:=2) rfl (zL (cz 0) (zL (cz 1) xi))),wa,(aR a (za (dv 2) (za (dv 0) (za (dv 1) zf))))⟩)))))⟩
noncomputable def wb:=vE 2 vy.1
def vz:FnScope ["turns","mirrors"] ["turns"] (zi wx):=ck
noncomputable def wI:{F:FS // ∀ {P w K m b} ,cA "kind_of_chain" wx 1 1 2 ["turns"] F P w K m b} :=
 ⟨_,λc T=>yo (k:=0) rfl rfl c vz λaq A outer s H E a=>(ze (zR 1 vz.nd (zS (sy (yc yg yY rfl T.len_b (by rfl) (zj (dw 0) zx))) ay)) (ze (xa (vt a (dw 0) (sy (sJ (xI (sy (sJ (zF (za (XA rfl T.COMMON_TURN_c) zf)))) (sy (we (dw 1) ay)))))) (zo (zK (Q5 (Q0 (QZ (dw 1) QY))))) z5) (ze (xa (vt a (dw 0) (sy (zS (sy (sJ (xI (sy (sJ (zF (za (XA rfl T.COMMON_TURN_c) zf)))) (sy (we (dw 1) ay))))) (sy (sJ (zF (za zU zf))))))) (zo (zK (Q5 (Q0 (QZ (dw 1) QY))))) z5) (zo (zK (F7 a rfl T.RARE_CHAINS_c (qp vx kH rfl T.tuple_b (by rfl) (zj (dw 0) zx)) (Xz rfl T.NO_KIND_c)))))))⟩
noncomputable def yW:=vE 2 wI.1
def xn:FnScope ["order","mirror","mirrors"] ["order","mirror"] (zi yQ):=ck
noncomputable def yR:{F:FS // ∀ {P w K m b} ,cA "kind_with_one_beside" yQ 1 2 3 ["order","mirror"] F P w K m b} :=
 ⟨_,λc T=>yo (k:=0) rfl rfl c xn λaq A outer s H E a=>(ze (zR 2 xn.nd (zS (sy (yc yg yY rfl T.len_b (by rfl) (zj (dw 0) zx))) ay)) (ze (xa (Ea (Zx (Nw (dw 2) ay) (qO (vt a (sy (vi (dw 0) ay)) (dw 1))))) (zo (zK (Q5 (Q0 (QZ (dw 2) QY))))) z5) (ze (xa (Ea (Zx (vt a (dw 2) ay) (qO (vt a (sy (vi (dw 0) ay)) (dw 1))))) (zo (zK vg)) z5) (zo (zK (Xz rfl T.NO_KIND_c))))))⟩
noncomputable def zZ:=vE 3 yR.1
def uS:FnScope ["house","part"] ["house","part"] (zi xE):=ck
noncomputable def xJ:{F:FS // ∀ {P w K m b} (d:HasFn P w K m b 4 "chains" 2 qi) (c:HasFn P w K m b 1 "kind_of_chain" 1 yW) (a:HasFn P w K m b 2 "turns_along" 2 wb),cA "kinds_by_chains" xE 5 2 2 ["house","part"] F P w K m b} :=
 ⟨_,λd c a=>λe T=>yo (k:=4) rfl rfl e uS λaq A outer s H E g=>(zo (zK (sJ (yF (own:=["order"]) (frees:=["house"]) (caps:=[0]) rfl (.of (by kernel_rfl)) rfl z6 (yG (aR d (za (dv 0) (za (dv 1) zf)))) (λcl C s H fp=>⟨(cz 0),wa,(aR c (za (aR a (za (dv 1) (za (dv 0) zf))) zf))⟩)))))⟩
noncomputable def xG:=vE 2 xJ.1
def jM:FnScope ["house","part"] ["house","part"] (zi wQ):=ck
noncomputable def wW:{F:FS // ∀ {P w K m b} ,cA "all_by_three" wQ 1 2 2 ["house","part"] F P w K m b} :=
 ⟨_,λc T=>yo (k:=0) rfl rfl c jM λaq A outer s H E a=>(zo (zK (yc (Gk rfl) BZ rfl T.all_b (by rfl) (zj (sy (sJ (yF (own:=["i","j","m"]) (frees:=["part"]) (caps:=[1]) rfl (.of (by kernel_rfl)) rfl (Xl (xb z6 (xb z6 (xb z6 km)))) (yG (vi (dw 0) ay)) (λcl C s H fp=>⟨(wD (n:=3) rfl (zL (cz 0) (zL (cz 1) (zL (cz 2) xi)))),(ji (Nv a (dw 0) (dw 3))),(CD a (dw 2) (sy (XA rfl T.COMMON_TURN_c)))⟩)))) zx))))⟩
noncomputable def y9:=vE 2 wW.1
def yN:FnScope ["house","part","told","end","near","orders"] ["house","part"] (zi wu):=ck
noncomputable def wH:{F:FS // ∀ {P w K m b} (a:HasFn P w K m b 1 "all_by_three" 2 y9) (c:HasFn P w K m b 4 "chains" 2 qi) (d:HasFn P w K m b 1 "kind_with_one_beside" 2 zZ) (g:HasFn P w K m b 2 "neighbours" 3 yn) (e:HasFn P w K m b 1 "without" 2 wz),cA "kinds_by_ends" wu 5 2 6 ["house","part"] F P w K m b} :=
 ⟨_,λa c d g e=>λi T=>yo (k:=4) rfl rfl i yN λaq A outer s H E h=>(ze (xx 2 yN.nd (zF zf)) (ze (xa (jh (uz (sy (aR a (za (dv 0) (za (dv 1) zf)))))) (uH 2 (zo (zK (dv 2)))) z5) (ze (wC sY rfl (yG (dv 1)) (zX 3 yN.nd) (ze (zR 4 yN.nd (aR g (za (dv 0) (za (dv 3) (za (dv 1) zf))))) (zo (xa (vt h (sy (yc yg yY rfl T.len_b (by rfl) (zj (dw 4) zx))) ay) (ze (zR 5 yN.nd (aR c (za (dv 0) (za (aR e (za (dv 1) (za (dv 3) zf))) zf)))) (zo (vV 2 (sJ (yF (own:=["order"]) (frees:=["near"]) (caps:=[4]) rfl (.of (by kernel_rfl)) rfl z6 (yG (dv 5)) (λcl C s H fp=>⟨(cz 0),wa,(aR d (za (dv 0) (za (vi (dw 1) ay) zf)))⟩)))))) z5)))) (uH 2 (zo (zK (dv 2)))))))⟩
noncomputable def xv:=vE 6 wH.1
def Zm:FnScope ["house","part","kind"] ["house","part"] (zi jV):=ck
noncomputable def k9:{F:FS // ∀ {P w K m b} (a:HasFn P w K m b 5 "kinds_by_chains" 2 xG) (c:HasFn P w K m b 5 "kinds_by_ends" 2 xv),cA "kind_of" jV 6 2 3 ["house","part"] F P w K m b} :=
 ⟨_,λa c=>λe T=>yo (k:=5) rfl rfl e Zm λaq A outer s H E d=>(ze (wC sY rfl (yG (zS (sy (aR a (za (dv 0) (za (dv 1) zf)))) (sy (aR c (za (dv 0) (za (dv 1) zf)))))) (zX 2 Zm.nd) (zo (xa (Yv d (dw 2) (sy (Xz rfl T.NO_KIND_c))) (zo (zK (dv 2))) z5))) (zo (zK (Xz rfl T.NO_KIND_c))))⟩
noncomputable def wB:=vE 3 k9.1
def JT:FnScope ["house"] ["house"] (zi X7):=ck
noncomputable def WX:{F:FS // ∀ {P w K m b} (c:HasFn P w K m b 6 "kind_of" 2 wB) (a:HasFn P w K m b 4 "parts" 1 Ww),cA "kinds" X7 7 1 1 ["house"] F P w K m b} :=
 ⟨_,λc a=>λd T=>yo (k:=6) rfl rfl d JT λaq A outer s H E e=>(zo (zK (sJ (yF (own:=["part"]) (frees:=["house"]) (caps:=[0]) rfl (.of (by kernel_rfl)) rfl z6 (yG (aR a (za (dv 0) zf))) (λcl C s H fp=>⟨(cz 0),wa,(xj (za (dv 0) (za (aR c (za (dv 1) (za (dv 0) zf))) zf)))⟩)))))⟩
noncomputable def xH:=vE 1 WX.1
def qF:FnScope ["house","part","kind"] ["house"] (zi jW):=ck
noncomputable def ub:{F:FS // ∀ {P w K m b} (a:HasFn P w K m b 7 "kinds" 1 xH),cA "endless" jW 8 1 3 ["house"] F P w K m b} :=
 ⟨_,λa=>λd T=>yo (k:=7) rfl rfl d qF λaq A outer s H E c=>(ze (wC sY rfl (yG (aR a (za (dv 0) zf))) (wD (n:=2) rfl (zL (zX 1 qF.nd) (zL (zX 2 qF.nd) xi))) (zo (xa (vt c (dw 2) (sy (Xz rfl T.NO_KIND_c))) (zo (zK (qp vx kH rfl T.tuple_b (by rfl) (zj (dw 1) zx)))) z5))) (zo (zK Ul)))⟩
noncomputable def yX:=vE 3 ub.1
def uT:FnScope ["kind","mirrors"] ["kind","mirrors"] (zi xF):=ck
noncomputable def yq:{F:FS // ∀ {P w K m b} ,cA "degrees_of_kind" xF 1 2 2 ["kind","mirrors"] F P w K m b} :=
 ⟨_,λa T=>yo (k:=0) rfl rfl a uT λaq A outer s H E c=>(ze (xa (B7 rfl T.RARE_DEGREES_c (dv 0)) (zo (zK (sJ (Yy rfl T.list_b (zj (sy (Gc rfl T.RARE_DEGREES_c (dw 0))) zx))))) z5) (ze (xa (uz (sy (Vz (dv 0) vg))) (zo (zK (sJ (kL rfl rfl T.list_b rfl T.range_b (zj ay (zj (sy (zS (dw 1) ay)) zx)))))) z5) (ze (xa (uz (sy (Vz (dv 0) vg))) (zo (zK (sJ (Xx rfl rfl T.list_b rfl T.range_b (zj ay (zj (sy (zS (sy (Zg ay (dw 1))) ay)) (zj ay zx))))))) z5) (zo (zK (zS (sy (sJ (Xx rfl rfl T.list_b rfl T.range_b (zj ay (zj (sy (Zg ay (dw 1))) (zj ay zx)))))) (sy (sJ (zF (za (dv 1) zf))))))))))⟩
noncomputable def zI:=vE 2 yq.1
def yO:FnScope ["house","word","told","part","kind"] ["house"] (zi uX):=ck
noncomputable def Za:{F:FS // ∀ {P w K m b} (d:HasFn P w K m b 1 "degrees_of_kind" 2 zI) (c:HasFn P w K m b 8 "endless" 1 yX) (a:HasFn P w K m b 7 "kinds" 1 xH),cA "degrees" uX 9 1 5 ["house"] F P w K m b} :=
 ⟨_,λd c a=>λe T=>yo (k:=8) rfl rfl e yO λaq A outer s H E g=>(ze (zR 1 yO.nd (aR c (za (dv 0) zf))) (ze (xa (jC (dw 1) (sy Ul)) (zo K6) z5) (ze (xx 2 yO.nd (zF zf)) (ze (wC sY rfl (yG (aR a (za (dv 0) zf))) (wD (n:=2) rfl (zL (zX 3 yO.nd) (zL (zX 4 yO.nd) xi))) (zo (vV 2 (aR d (za (dv 4) (za (yc yg yY rfl T.len_b (by rfl) (zj (dw 3) zx)) zf)))))) (zo (zK (sJ (vW rfl T.sorted_b (zj (dk 2) zx)))))))))⟩
noncomputable def xw:=vE 5 Za.1
noncomputable def qx:{G:fc // ∀ {P w K mg base f fd C D fI a bm newId} (g:Fun K "degrees" "degrees" uX f fd) (T:Txt w K mg) (e:EndT K mg base C D fI a bm newId) (h:FnOk P w K mg base bF 1 fI a ["self","mirrors"] (Gv K C)) (d:HasFn P w K mg base 1 "degrees_of_kind" 2 zI) (c:HasFn P w K mg base 8 "endless" 1 yX) (b:HasFn P w K mg base 7 "kinds" 1 xH) ,FnOk P w K mg base (bw P w) 9 f fd ["house"] (spE K C 1 (G7 5 G))} :=
 ⟨_,λg T e h d c b  => Wy (k:=8) rfl rfl g yO λaq A outer s H E i=>(wN (Xw (zR 1 yO.nd (aR c (za (dv 0) zf)))) (wN (Nu (jC (dw 1) (sy Ul)) (Yu (K4 e h (i.mono (by decide)) rfl (zj (dw 1) zx))) B4) (wN (Xw (xx 2 yO.nd (zF zf))) (wN (Xw (wC PassesOwn.leaving rfl (yG (aR b (za (dv 0) zf))) (wD (n:=2) rfl (zL (zX 3 yO.nd) (zL (zX 4 yO.nd) xi))) (zo (vV 2 (aR d (za (dv 4) (za (yc yg yY rfl T.len_b (by rfl) (zj (dw 3) zx)) zf))))))) (Yu (Xw (zK (sJ (vW rfl T.sorted_b (zj (dk 2) zx))))))))))⟩
noncomputable def yP:List FL.D->Option RE:=G7 5 qx.1
def vH:FnScope ["house","product","degree"] ["house"] (zi W5):=ck
noncomputable def Jy:{F:FS // ∀ {P w K m b} (a:HasFn P w K m b 9 "degrees" 1 xw),cA "size" W5 10 1 3 ["house"] F P w K m b} :=
 ⟨_,λa=>λc T=>yo (k:=9) rfl rfl c vH λaq A outer s H E d=>(ze (zR 1 vH.nd zU) (ze (wC sY rfl (yG (aR a (za (dv 0) zf))) (zX 2 vH.nd) (zo (QV 1 vH.nd (dv 2)))) (zo (zK (dv 1)))))⟩
noncomputable def QP:=vE 3 Jy.1
noncomputable def VH:{G:fc // ∀ {P w K mg base f fd C D fI a bm newId} (c:Fun K "size" "size" W5 f fd) (T:Txt w K mg) (g:EndT K mg base C D fI a bm newId) (h:FnOk P w K mg base bF 1 fI a ["self","mirrors"] (Gv K C)) (e:HasFn P w K mg base 9 "degrees" 1 xw) (b:HasFnE P w K mg base C 9 "degrees" 1 yP),FnOk P w K mg base (bw P w) 10 f fd ["house"] (spE K C 1 (G7 3 G))} :=
 ⟨_,λc T g h e b=>Wy (k:=9) rfl rfl c vH λaq A outer s H E d=>(wN (Xw (zR 1 vH.nd zU)) (wN (G5 PassesOwn.leaving rfl b (d.mono (by decide)) rfl (za (dv 0) zf) (jr V8) (zX 2 vH.nd) (zo (QV 1 vH.nd (dv 2)))) (Yu (Xw (zK (dv 1))))))⟩
noncomputable def Wv:List FL.D->Option RE:=G7 3 VH.1
def uQ:FnScope ["numbers","ones","places"] ["numbers","ones"] (zi vJ):=ck
noncomputable def v8:{F:FS // ∀ {P w K m b} ,cA "times_ones" vJ 1 2 3 ["numbers","ones"] F P w K m b} :=
 ⟨_,λa T=>yo (k:=0) rfl rfl a uQ λaq A outer s H E c=>(ze (zR 2 uQ.nd (we (sy (zS (sy (yc yg yY rfl T.len_b (by rfl) (zj (dw 0) zx))) (dw 1))) ay)) (zo (zK (sJ (yF (own:=["place"]) (frees:=["numbers","ones"]) (caps:=[0,1]) rfl (.of (by kernel_rfl)) rfl z6 (vX rfl T.range_b (zj (dw 2) zx)) (λcl C s H fp=>⟨(cz 0),wa,(yc (YC rfl) Wz rfl T.sum_b (by rfl) (zj (sy (qP (dw 1) (Yx (sy (yc (qt rfl) Yo rfl T.max_b (by rfl) (zj ay (zj (sy (zS (sy (we (dw 0) (dw 2))) ay)) zx))))) (Yx (sy (zS (dw 0) ay))))) zx))⟩))))))⟩
noncomputable def xT:=vE 3 v8.1
def xO:FnScope ["house","numbers","degree"] ["house"] (zi jx):=ck
noncomputable def YG:{F:FS // ∀ {P w K m b} (c:HasFn P w K m b 9 "degrees" 1 xw) (a:HasFn P w K m b 1 "times_ones" 2 xT),cA "counts" jx 10 1 3 ["house"] F P w K m b} :=
 ⟨_,λc a=>λd T=>yo (k:=9) rfl rfl d xO λaq A outer s H E e=>(ze (zR 1 xO.nd (sJ (zF (za zU zf)))) (ze (wC sY rfl (yG (aR c (za (dv 0) zf))) (zX 2 xO.nd) (zo (zR 1 xO.nd (aR a (za (dv 1) (za (dv 2) zf)))))) (zo (zK (dv 1)))))⟩
noncomputable def Yn:=vE 3 YG.1
noncomputable def jD:{G:fc // ∀ {P w K mg base f fd C D fI a bm newId} (d:Fun K "counts" "counts" jx f fd) (T:Txt w K mg) (h:EndT K mg base C D fI a bm newId) (i:FnOk P w K mg base bF 1 fI a ["self","mirrors"] (Gv K C)) (g:HasFn P w K mg base 9 "degrees" 1 xw) (c:HasFn P w K mg base 1 "times_ones" 2 xT) (b:HasFnE P w K mg base C 9 "degrees" 1 yP),FnOk P w K mg base (bw P w) 10 f fd ["house"] (spE K C 1 (G7 3 G))} :=
 ⟨_,λd T h i g c b=>Wy (k:=9) rfl rfl d xO λaq A outer s H E e=>(wN (Xw (zR 1 xO.nd (sJ (zF (za zU zf))))) (wN (G5 PassesOwn.leaving rfl b (e.mono (by decide)) rfl (za (dv 0) zf) (jr V8) (zX 2 xO.nd) (zo (zR 1 xO.nd (aR c (za (dv 1) (za (dv 2) zf)))))) (Yu (Xw (zK (dv 1))))))⟩
noncomputable def kE:List FL.D->Option RE:=G7 3 jD.1
def Hy:FnScope ["_law_script","_law_k"] ["_law_script","_law_k"] (zi UO):=ck
noncomputable def VJ:{F:FS // ∀ {P w K m b} ,cA "_law_at" UO 1 2 2 ["_law_script","_law_k"] F P w K m b} :=
 ⟨_,λa T=>yo (k:=0) rfl rfl a Hy λaq A outer s H E c=>(ze (xa (B6 (dw 1) (sy (yc yg yY rfl T.len_b (by rfl) (zj (dw 0) zx)))) (zo (zK (vi (dw 0) (dw 1)))) z5) (zo (zK (zS (sy (Zg ay (dw 1))) ay))))⟩
noncomputable def kG:=vE 2 VJ.1
def W4:FnScope ["_law_number","_law_place","_law_part"] ["_law_number","_law_place"] (zi X6):=ck
noncomputable def WW:{F:FS // ∀ {P w K m b} ,cA "_law_mix" X6 1 2 3 ["_law_number","_law_place"] F P w K m b} :=
 ⟨_,λa T=>yo (k:=0) rfl rfl a W4 λaq A outer s H E c=>(ze (zR 2 W4.nd (uI (sy (Zg (sy (zS (sy (zS (sy (uI (dw 0) ay)) (dw 1))) ay)) (sy (zS (sy (Zg (sy (Zg ay (dw 1))) (dw 1))) ay)))) ay)) (zo (zK (uI (sy (Zg (dw 2) (dw 2))) ay))))⟩
noncomputable def wV:=vE 3 WW.1
def VT:FnScope ["_law_found"] ["_law_found"] (zi jQ):=ck
noncomputable def kZ:{F:FS // ∀ {P w K m b} ,cA "_law_whole" jQ 1 1 1 ["_law_found"] F P w K m b} :=
 ⟨_,λa T=>yo (k:=0) rfl rfl a VT λaq A outer s H E c=>(zo (zK (Gd (VA CS (dw 0) rfl T.isinstance_b rfl T.int_b) (Cd (NC (VA Hk (dw 0) rfl T.isinstance_b rfl T.bool_b))))))⟩
noncomputable def vQ:=vE 1 kZ.1
def VU:FnScope ["_law_turns"] ["_law_turns"] (zi jT):=ck
noncomputable def k6:{F:FS // ∀ {P w K m b} ,cA "_law_chain" jT 1 1 1 ["_law_turns"] F P w K m b} :=
 ⟨_,λa T=>yo (k:=0) rfl rfl a VU λaq A outer s H E c=>(zo (zK (sJ (yF (own:=["_law_k"]) (frees:=["_law_turns"]) (caps:=[0]) rfl (.of (by kernel_rfl)) rfl z6 (vX rfl T.range_b (zj (sy (yc yg yY rfl T.len_b (by rfl) (zj (dw 0) zx))) zx)) (λcl C s H fp=>⟨(cz 0),wa,(xj (za (dv 0) (za (zS (dw 0) ay) (za (vi (dw 1) (dw 0)) zf))))⟩)))))⟩
noncomputable def zl:=vE 1 k6.1
noncomputable def uq:FS:=(xB (Ur 2 (zY (zb (tupF (zb (cF (.str "a")) (zb (ya zl (zb (zg (je (zg (zY (zb (cF (.int 3)) zp))) (zd wg (vF 0) (cF (.int 1))))) zp)) zp))) zp))) (xB (cn (aO (zd dW (vF 0) (cF (.int 1)))) (xy 2 (tupF (zb (cF (.str "b")) (zb (ya zl (zb (zd yI (zg (je (zg (zY (zb (cF (.int 3)) zp))) (zd wg (vF 0) (cF (.int 2))))) (zg (zY (zb (cF (.int 4)) zp)))) zp)) zp)))) cK) (xB (cn (aO (zd dW (vF 0) (cF (.int 3)))) (xy 2 (tupF (zb (cF (.str "d")) (zb (zd yI (ya zl (zb (zg (je (zg (zY (zb (cF (.int 3)) zp))) (zd wg (vF 0) (cF (.int 2))))) zp)) (zg (zY (zb (tupF (zb (zd wg (vF 0) (cF (.int 3))) (zb (zd wg (vF 0) (cF (.int 1))) (zb (cF (.int 3)) zp)))) zp)))) zp)))) cK) (xB (Mv (jj 2 (yh (zO 3) (yh (zO 4) kh))) (zd aE (vR 2) (zd Zc (vF 1) (ya jA (zb (vR 2) zp))))) (xB (vk 3 (zd yI (vF 3) (ya Cy (zb (vF 0) zp)))) (xB (Ur 5 (zY (zb (zg (zY zp)) (zb (zg (zY zp)) (zb (zg (zY zp)) (zb (zg (zY (zb (tupF (zb (cF (.str "h3")) (zb (ya zl (zb (zg (zY (zb (cF (.int 3)) (zb (cF (.int 5)) zp)))) zp)) zp))) zp))) (zb (zg (zY (zb (tupF (zb (cF (.str "h4")) (zb (ya zl (zb (zg (zY (zb (cF (.int 3)) (zb (cF (.int 3)) (zb (cF (.int 5)) zp))))) zp)) zp))) (zb (tupF (zb (cF (.str "f4")) (zb (ya zl (zb (zg (zY (zb (cF (.int 3)) (zb (cF (.int 4)) (zb (cF (.int 3)) zp))))) zp)) zp))) zp)))) zp))))))) (xB (Ur 5 (Mg (vR 5) (zg (zY (zb (zg (zY zp)) (zb (zg (zY (zb (tupF (zb (cF (.str "e6")) (zb (zd yI (ya zl (zb (zg (zY (zb (cF (.int 3)) (zb (cF (.int 3)) (zb (cF (.int 3)) (zb (cF (.int 3)) zp)))))) zp)) (zg (zY (zb (tupF (zb (cF (.int 2)) (zb (cF (.int 5)) (zb (cF (.int 3)) zp)))) zp)))) zp))) zp))) zp)))))) (xB (jm 5 (cF (.int 2)) (zg (zY (zb (tupF (zb (cF (.str "i5")) (zb (ya zl (zb (zg (zY (zb (cF (.int 5)) zp))) zp)) zp))) (zb (tupF (zb (cF (.str "i6")) (zb (ya zl (zb (zg (zY (zb (cF (.int 6)) zp))) zp)) zp))) zp))))) (xB (cn (Us (aO (zd bt (zd Zc (zd vT (vF 1) (cF (.int 8))) (cF (.int 2))) (cF (.int 0)))) (aO (zd dW (ya jA (zb (zd aE (vR 5) (vF 0)) zp)) (cF (.int 0))))) (qH (zd aE (zd aE (vR 5) (vF 0)) (zd Zc (zd vT (vF 1) (cF (.int 16))) (ya jA (zb (zd aE (vR 5) (vF 0)) zp))))) cK) (qH (tupF (zb (vF 3) (zb (vF 4) zp)))))))))))))
noncomputable def wq:List D->Option D:=vE 6 uq
def xc:FnScope ["_law_many","_law_number","_law_some","_law_kind","_law_turns","_law_rare"] ["_law_many","_law_number"] (zi zJ):=ck
@[irreducible] def bf (k:Nat):Stmt:=(yw zJ).getD k (.Pass ⟨0,0,0,0⟩)
def Zj (k:Nat):bf k=(yw zJ).getD k (.Pass ⟨0,0,0,0⟩):=by unfold bf; rfl
def YD:yw zJ=[bf 0,bf 1,bf 2,bf 3,bf 4,bf 5,bf 6,bf 7,bf 8,bf 9]:=by kernel_rfl
def ZX (T:Txt w K mg) (a:HasFn P w K mg base 1 "_law_chain" 1 zl) (aq:Value) (A:Around) (outer:List Env) (s:Shared) (H:Hp) (E:XK) (b:Room 1 (A.deeper (envOfC "_law_finite" (zi zJ) s.heap.objs.size f aq))):
  DS (xA bF P w K mg base ["_law_many","_law_number","_law_some","_law_kind","_law_turns","_law_rare"] "_law_finite" (zi zJ) f aq A outer s H E).nox (bf 0) (Ur 2 (zY (zb (tupF (zb (cF (.str "a")) (zb (ya zl (zb (zg (je (zg (zY (zb (cF (.int 3)) zp))) (zd wg (vF 0) (cF (.int 1))))) zp)) zp))) zp))):=by
 rw [Zj 0]
 exact (xx 2 xc.nd (zF (za (xj (za vg (za (aR a (za (sJ (xI (sy (sJ (zF (za zU zf)))) (sy (we (dw 0) ay)))) zf)) zf))) zf)))
def ZW (T:Txt w K mg) (a:HasFn P w K mg base 1 "_law_chain" 1 zl) (aq:Value) (A:Around) (outer:List Env) (s:Shared) (H:Hp) (E:XK) (b:Room 1 (A.deeper (envOfC "_law_finite" (zi zJ) s.heap.objs.size f aq))):
  DS (xA bF P w K mg base ["_law_many","_law_number","_law_some","_law_kind","_law_turns","_law_rare"] "_law_finite" (zi zJ) f aq A outer s H E).nox (bf 1) (cn (aO (zd dW (vF 0) (cF (.int 1)))) (xy 2 (tupF (zb (cF (.str "b")) (zb (ya zl (zb (zd yI (zg (je (zg (zY (zb (cF (.int 3)) zp))) (zd wg (vF 0) (cF (.int 2))))) (zg (zY (zb (cF (.int 4)) zp)))) zp)) zp)))) cK):=by
 rw [Zj 1]
 exact (xa (WG (dw 0) ay) (zo (xV 2 (xj (za vg (za (aR a (za (zS (sy (sJ (xI (sy (sJ (zF (za zU zf)))) (sy (we (dw 0) ay))))) (sy (sJ (zF (za zU zf))))) zf)) zf))))) z5)
def ZV (T:Txt w K mg) (a:HasFn P w K mg base 1 "_law_chain" 1 zl) (aq:Value) (A:Around) (outer:List Env) (s:Shared) (H:Hp) (E:XK) (b:Room 1 (A.deeper (envOfC "_law_finite" (zi zJ) s.heap.objs.size f aq))):
  DS (xA bF P w K mg base ["_law_many","_law_number","_law_some","_law_kind","_law_turns","_law_rare"] "_law_finite" (zi zJ) f aq A outer s H E).nox (bf 2) (cn (aO (zd dW (vF 0) (cF (.int 3)))) (xy 2 (tupF (zb (cF (.str "d")) (zb (zd yI (ya zl (zb (zg (je (zg (zY (zb (cF (.int 3)) zp))) (zd wg (vF 0) (cF (.int 2))))) zp)) (zg (zY (zb (tupF (zb (zd wg (vF 0) (cF (.int 3))) (zb (zd wg (vF 0) (cF (.int 1))) (zb (cF (.int 3)) zp)))) zp)))) zp)))) cK):=by
 rw [Zj 2]
 exact (xa (WG (dw 0) ay) (zo (xV 2 (xj (za vg (za (zS (sy (aR a (za (sJ (xI (sy (sJ (zF (za zU zf)))) (sy (we (dw 0) ay)))) zf))) (sy (sJ (zF (za (xj (za (we (dw 0) ay) (za (we (dw 0) ay) (za zU zf)))) zf))))) zf))))) z5)
def ZU (T:Txt w K mg) (b:HasFn P w K mg base 1 "_law_chain" 1 zl) (aq:Value) (A:Around) (outer:List Env) (s:Shared) (H:Hp) (E:XK) (a:Room 1 (A.deeper (envOfC "_law_finite" (zi zJ) s.heap.objs.size f aq))):
  DS (xA bF P w K mg base ["_law_many","_law_number","_law_some","_law_kind","_law_turns","_law_rare"] "_law_finite" (zi zJ) f aq A outer s H E).nox (bf 3) (Mv (jj 2 (yh (zO 3) (yh (zO 4) kh))) (zd aE (vR 2) (zd Zc (vF 1) (ya jA (zb (vR 2) zp))))):=by
 rw [Zj 3]
 exact (WI (wD (n:=2) rfl (zL (zX 3 xc.nd) (zL (zX 4 xc.nd) xi))) (vi (dk 2) (sy (uI (dw 1) (sy (yc yg yY rfl T.len_b (by rfl) (zj (dk 2) zx)))))))
def ZT (T:Txt w K mg) (b:HasFn P w K mg base 1 "_law_chain" 1 zl) (aq:Value) (A:Around) (outer:List Env) (s:Shared) (H:Hp) (E:XK) (a:Room 1 (A.deeper (envOfC "_law_finite" (zi zJ) s.heap.objs.size f aq))):
  DS (xA bF P w K mg base ["_law_many","_law_number","_law_some","_law_kind","_law_turns","_law_rare"] "_law_finite" (zi zJ) f aq A outer s H E).nox (bf 4) (vk 3 (zd yI (vF 3) (ya Cy (zb (vF 0) zp)))):=by
 rw [Zj 4]
 exact (zR 3 xc.nd (zS (dw 3) (sy (qp XF BY rfl T.str_b (by rfl) (zj (dw 0) zx)))))
def ZS (T:Txt w K mg) (e:HasFn P w K mg base 1 "_law_chain" 1 zl) (aq:Value) (A:Around) (outer:List Env) (s:Shared) (H:Hp) (E:XK) (p:Room 1 (A.deeper (envOfC "_law_finite" (zi zJ) s.heap.objs.size f aq))):
  DS (xA bF P w K mg base ["_law_many","_law_number","_law_some","_law_kind","_law_turns","_law_rare"] "_law_finite" (zi zJ) f aq A outer s H E).nox (bf 5) (Ur 5 (zY (zb (zg (zY zp)) (zb (zg (zY zp)) (zb (zg (zY zp)) (zb (zg (zY (zb (tupF (zb (cF (.str "h3")) (zb (ya zl (zb (zg (zY (zb (cF (.int 3)) (zb (cF (.int 5)) zp)))) zp)) zp))) zp))) (zb (zg (zY (zb (tupF (zb (cF (.str "h4")) (zb (ya zl (zb (zg (zY (zb (cF (.int 3)) (zb (cF (.int 3)) (zb (cF (.int 5)) zp))))) zp)) zp))) (zb (tupF (zb (cF (.str "f4")) (zb (ya zl (zb (zg (zY (zb (cF (.int 3)) (zb (cF (.int 4)) (zb (cF (.int 3)) zp))))) zp)) zp))) zp)))) zp))))))):=by
 rw [Zj 5]
 exact (by refine xx 5 ?m ?he ?hi ?j ?l ?hf; (case m=>exact xc.nd); (case hi=>rfl); (case j=>first | exact Aw rfl | exact Ab rfl); (case hf=>first | exact .inl rfl | exact .inr rfl); (case l=>rfl); (case he=>exact (by refine zF ?c; (case c=>refine za ?d ?b; (case d=>exact (sJ (zF zf))); (case b=>refine za ?e1 ?a; (case e1=>exact (sJ (zF zf))); (case a=>refine za ?e2 ?i; (case e2=>exact (sJ (zF zf))); (case i=>refine za ?o ?h; (case o=>exact (sJ (zF (za (xj (za vg (za (aR e (za (sJ (zF (za zU (za zU zf)))) zf)) zf))) zf)))); (case h=>refine za ?n ?g; (case n=>exact (sJ (by refine zF ?c; (case c=>refine za ?d ?b; (case d=>exact (xj (za vg (za (aR e (za (sJ (zF (za zU (za zU (za zU zf))))) zf)) zf)))); (case b=>refine za ?e1 ?a; (case e1=>exact (xj (za vg (za (aR e (za (sJ (zF (za zU (za zU (za zU zf))))) zf)) zf)))); (case a=>exact zf)))))); (case g=>exact zf)))))))))
def ZR (T:Txt w K mg) (n:HasFn P w K mg base 1 "_law_chain" 1 zl) (aq:Value) (A:Around) (outer:List Env) (s:Shared) (H:Hp) (E:XK) (o:Room 1 (A.deeper (envOfC "_law_finite" (zi zJ) s.heap.objs.size f aq))):
  DS (xA bF P w K mg base ["_law_many","_law_number","_law_some","_law_kind","_law_turns","_law_rare"] "_law_finite" (zi zJ) f aq A outer s H E).nox (bf 6) (Ur 5 (Mg (vR 5) (zg (zY (zb (zg (zY zp)) (zb (zg (zY (zb (tupF (zb (cF (.str "e6")) (zb (zd yI (ya zl (zb (zg (zY (zb (cF (.int 3)) (zb (cF (.int 3)) (zb (cF (.int 3)) (zb (cF (.int 3)) zp)))))) zp)) (zg (zY (zb (tupF (zb (cF (.int 2)) (zb (cF (.int 5)) (zb (cF (.int 3)) zp)))) zp)))) zp))) zp))) zp)))))):=by
 rw [Zj 6]
 exact (by refine xx 5 ?l ?he ?hi ?i ?j ?hf; (case l=>exact xc.nd); (case hi=>rfl); (case i=>first | exact Aw rfl | exact Ab rfl); (case hf=>first | exact .inl rfl | exact .inr rfl); (case j=>rfl); (case he=>refine Ca ?a ?b; (case a=>exact (dk 5)); (case b=>refine sy ?c; (case c=>refine sJ ?d; (case d=>exact (by refine zF ?h; (case h=>refine za ?m ?g; (case m=>exact (sJ (zF zf))); (case g=>refine za ?e1 ?e; (case e1=>exact (sJ (zF (za (xj (za vg (za (zS (sy (aR n (za (sJ (zF (za zU (za zU (za zU (za zU zf)))))) zf))) (sy (sJ (zF (za (xj (za zU (za zU (za zU zf)))) zf))))) zf))) zf)))); (case e=>exact zf)))))))))
def ZQ (T:Txt w K mg) (a:HasFn P w K mg base 1 "_law_chain" 1 zl) (aq:Value) (A:Around) (outer:List Env) (s:Shared) (H:Hp) (E:XK) (g:Room 1 (A.deeper (envOfC "_law_finite" (zi zJ) s.heap.objs.size f aq))):
  DS (xA bF P w K mg base ["_law_many","_law_number","_law_some","_law_kind","_law_turns","_law_rare"] "_law_finite" (zi zJ) f aq A outer s H E).nox (bf 7) (jm 5 (cF (.int 2)) (zg (zY (zb (tupF (zb (cF (.str "i5")) (zb (ya zl (zb (zg (zY (zb (cF (.int 5)) zp))) zp)) zp))) (zb (tupF (zb (cF (.str "i6")) (zb (ya zl (zb (zg (zY (zb (cF (.int 6)) zp))) zp)) zp))) zp))))):=by
 rw [Zj 7]
 exact (WH 5 (sJ (by refine zF ?d; (case d=>refine za ?e ?c; (case e=>exact (xj (za vg (za (aR a (za (sJ (zF (za zU zf))) zf)) zf)))); (case c=>refine za ?e1 ?b; (case e1=>exact (xj (za vg (za (aR a (za (sJ (zF (za zU zf))) zf)) zf)))); (case b=>exact zf))))) zU)
def ZP (T:Txt w K mg) (b:HasFn P w K mg base 1 "_law_chain" 1 zl) (aq:Value) (A:Around) (outer:List Env) (s:Shared) (H:Hp) (E:XK) (a:Room 1 (A.deeper (envOfC "_law_finite" (zi zJ) s.heap.objs.size f aq))):
  DS (xA bF P w K mg base ["_law_many","_law_number","_law_some","_law_kind","_law_turns","_law_rare"] "_law_finite" (zi zJ) f aq A outer s H E).nox (bf 8) (cn (Us (aO (zd bt (zd Zc (zd vT (vF 1) (cF (.int 8))) (cF (.int 2))) (cF (.int 0)))) (aO (zd dW (ya jA (zb (zd aE (vR 5) (vF 0)) zp)) (cF (.int 0))))) (qH (zd aE (zd aE (vR 5) (vF 0)) (zd Zc (zd vT (vF 1) (cF (.int 16))) (ya jA (zb (zd aE (vR 5) (vF 0)) zp))))) cK):=by
 rw [Zj 8]
 exact (xa (Ea (Zx (vt a (sy (uI (sy (kN (dw 1) ay)) ay)) ay) (qO (WG (sy (yc yg yY rfl T.len_b (by rfl) (zj (sy (vi (dk 5) (dw 0))) zx))) ay)))) (zo (zK (vi (sy (vi (dk 5) (dw 0))) (sy (uI (sy (kN (dw 1) ay)) (sy (yc yg yY rfl T.len_b (by rfl) (zj (sy (vi (dk 5) (dw 0))) zx)))))))) z5)
def ZO (T:Txt w K mg) (b:HasFn P w K mg base 1 "_law_chain" 1 zl) (aq:Value) (A:Around) (outer:List Env) (s:Shared) (H:Hp) (E:XK) (a:Room 1 (A.deeper (envOfC "_law_finite" (zi zJ) s.heap.objs.size f aq))):
  DS (xA bF P w K mg base ["_law_many","_law_number","_law_some","_law_kind","_law_turns","_law_rare"] "_law_finite" (zi zJ) f aq A outer s H E).nox (bf 9) (qH (tupF (zb (vF 3) (zb (vF 4) zp)))):=by
 rw [Zj 9]
 exact (zK (xj (za (dv 3) (za (dv 4) zf))))
def Wg (c:Fun K "_law_finite" "_law_finite" zJ f fd) (T:Txt w K mg) (b:HasFn P w K mg base 1 "_law_chain" 1 zl) :
  FnOk P w K mg base bF 2 f fd ["_law_many","_law_number"] (spF K 2 wq) :=
 yo (k:=1) (m:=6) (F:=uq) rfl rfl c xc λaq A outer s H E a=>(by rw [YD]; exact (ze (ZX T b aq A outer s H E a) (ze (ZW T b aq A outer s H E a) (ze (ZV T b aq A outer s H E a) (ze (ZU T b aq A outer s H E a) (ze (ZT T b aq A outer s H E a) (ze (ZS T b aq A outer s H E a) (ze (ZR T b aq A outer s H E a) (ze (ZQ T b aq A outer s H E a) (ze (ZP T b aq A outer s H E a) (zo (ZO T b aq A outer s H E a))))))))))))
def wY:FnScope ["_law_many","_law_number","_law_some","_law_more"] ["_law_many","_law_number"] (zi jR):=ck
noncomputable def qz:{F:FS // ∀ {P w K m b} (a:HasFn P w K m b 1 "_law_chain" 1 zl),cA "_law_never" jR 2 2 4 ["_law_many","_law_number"] F P w K m b} :=
 ⟨_,λa=>λd T=>yo (k:=1) rfl rfl d wY λaq A outer s H E c=>(ze (zR 2 wY.nd (sJ (zF (za (aR a (za (zS (sy (sJ (xI (sy (sJ (zF (za zU zf)))) (sy (we (dw 0) ay))))) (sy (sJ (zF (za zU zf))))) zf)) (za (aR a (za (zS (sy (zS (sy (sJ (zF (za zU zf)))) (sy (sJ (xI (sy (sJ (zF (za zU zf)))) (sy (we (dw 0) ay))))))) (sy (sJ (zF (za zU zf))))) zf)) zf))))) (ze (zR 2 wY.nd (zS (dw 2) (sy (sJ (zF (za (aR a (za (zS (sy (zS (sy (sJ (zF (za zU zf)))) (sy (sJ (xI (sy (sJ (zF (za zU zf)))) (sy (we (dw 0) ay))))))) (sy (sJ (zF (za zU zf))))) zf)) (za (aR a (za (zS (sy (sJ (xI (sy (sJ (zF (za zU zf)))) (sy (we (dw 0) ay))))) (sy (sJ (zF (za zU zf))))) zf)) zf))))))) (ze (zR 2 wY.nd (zS (dw 2) (sy (sJ (zF (za (zS (sy (aR a (za (sJ (xI (sy (sJ (zF (za zU zf)))) (sy (we (dw 0) ay)))) zf))) (sy (sJ (zF (za (xj (za zU (za (we (dw 0) ay) (za zU zf)))) zf))))) (za (aR a (za (zS (sy (sJ (xI (sy (sJ (zF (za zU zf)))) (sy (we (dw 0) ay))))) (sy (sJ (zF (za zU zf))))) zf)) zf))))))) (ze (xa (vt c (dw 0) ay) (zo (zK (xj (za vg (za (aR a (za (sJ (zF (za zU zf))) zf)) zf))))) z5) (ze (xa (vt c (dw 0) ay) (zo (zK (xj (za vg (za (vi (sy (zS (sy (qP (dw 2) B9 (Yx ay))) (sy (sJ (zF (za (aR a (za (sJ (zF (za zU (za zU zf)))) zf)) zf)))))) (sy (uI (dw 1) ay))) zf))))) z5) (ze (xx 3 wY.nd (zF (za (zS (sy (aR a (za (sJ (xI (sy (sJ (zF (za zU zf)))) (sy (we (dw 0) ay)))) zf))) (sy (sJ (zF (za (xj (za (we (dw 0) ay) (za (we (dw 0) ay) (za zU zf)))) zf))))) (za (aR a (za (zS (sy (sJ (zF (za zU (za zU zf))))) (sy (sJ (xI (sy (sJ (zF (za zU zf)))) (sy (we (dw 0) ay)))))) zf)) zf)))) (ze (xV 3 (zS (sy (sJ (yF (own:=["_law_k"]) (frees:=[]) (caps:=[]) rfl (.of (by kernel_rfl)) rfl z6 (qk rfl T.range_b (zj ay (zj (dw 0) zx))) (λcl C s H fp=>⟨(cz 0),wa,(xj (za zU (za (dv 0) (za zU zf))))⟩)))) (sy (sJ (zF (za (xj (za zU (za zU (za zU zf)))) zf)))))) (ze (xa (WG (dw 0) ay) (zo (zK (xj (za vg (za (vi (sy (zS (sy (zS (dw 2) (dk 3))) (sy (sJ (zF (za (sJ (yF (own:=["_law_k"]) (frees:=[]) (caps:=[]) rfl (.of (by kernel_rfl)) rfl z6 (qk rfl T.range_b (zj ay (zj (dw 0) zx))) (λcl C s H fp=>⟨(cz 0),wa,(xj (za zU (za (dv 0) (za zU zf))))⟩))) zf)))))) (sy (uI (dw 1) ay))) zf))))) z5) (zo (zK (xj (za vg (za (vi (sy (zS (sy (qP (dw 2) B9 (Yx ay))) (dk 3))) (sy (uI (dw 1) ay))) zf)))))))))))))⟩
noncomputable def vS:=vE 4 qz.1
def yy:FnScope ["_law_script","_law_number","_law_mirrors","_law_turns","_law_due","_law_begin","_law_drawn","_law_many","_law_made_here"] ["_law_script"] (zi jU):=ck
noncomputable def k7:{F:FS // ∀ {P w K m b} (a:HasFn P w K m b 1 "_law_at" 2 kG) (g:HasFn P w K m b 2 "_law_finite" 2 wq) (c:HasFn P w K m b 1 "_law_mix" 2 wV) (e:HasFn P w K m b 2 "_law_never" 2 vS),cA "_law_built" jU 3 1 9 ["_law_script"] F P w K m b} :=
 ⟨_,λa g c e=>λh T=>yo (k:=2) rfl rfl h yy λaq A outer s H E d=>(ze (zR 1 yy.nd (aR c (za (aR a (za (dv 0) (za zU zf))) (za zU zf)))) (ze (zR 2 yy.nd (zS ay (sy (uI (dw 1) ay)))) (ze (xx 3 yy.nd (zF zf)) (ze (xx 4 yy.nd (zF zf)) (ze (zR 5 yy.nd zU) (ze (Yw 100000 sY (B6 (dw 5) (dw 2)) (ze (zR 6 yy.nd (aR c (za (aR a (za (dv 0) (za (zS ay (dw 5)) zf))) (za zU zf)))) (ze (zR 7 yy.nd (zS ay (sy (uI (dw 6) (sy (we (dw 2) (dw 5))))))) (ze (xa (vt d (sy (uI (sy (kN (dw 6) ay)) ay)) ay) (zo (zR 7 yy.nd (we (dw 2) (dw 5)))) z5) (ze (zR 8 yy.nd (aR g (za (dv 7) (za (kN (dw 6) ay) zf)))) (ze (xa (Ea (Zx (WG (dw 7) ay) (qO (vt d (sy (uI (sy (kN (dw 6) ay)) ay)) ay)))) (zo (zR 8 yy.nd (aR e (za (dv 7) (za (kN (dw 6) ay) zf))))) z5) (ze (vV 3 (sJ (yF (own:=["_law_i","_law_j","_law_often"]) (frees:=["_law_begin"]) (caps:=[5]) rfl (.of (by kernel_rfl)) rfl (Xl (xb z6 (xb z6 (xb z6 km)))) (yG (vi (dw 8) ay)) (λcl C s H fp=>⟨(wD (n:=3) rfl (zL (cz 0) (zL (cz 1) (zL (cz 2) xi)))),wa,(xj (za (zS (dw 3) (dw 0)) (za (zS (dw 3) (dw 1)) (za (dv 2) zf))))⟩)))) (ze (xV 4 (xj (za (sJ (kL rfl rfl T.list_b rfl T.range_b (zj (dw 5) (zj (sy (zS (dw 5) (dw 7))) zx)))) (za (vi (dw 8) ay) zf)))) (zo (zR 5 yy.nd (zS (dw 5) (dw 7)))))))))))) (uH 4 (uH 3 (zo (zK (xj (za (dv 2) (za (dv 3) (za (dv 4) zf))))))))))))))⟩
noncomputable def kF:=vE 9 k7.1
def z7:FnScope ["_law_script","_law_mirrors","_law_turns","_law_due","_law_order","_law_cell","_law_drawn","_law_i","_law_j","_law_kept_here","_law_pairs","_law_often","_law_found","_law_mirrors_told","_law_kind"] ["_law_script"] (zi jS):=ck
noncomputable def qA:{F:FS // ∀ {P w K m b} (a:HasFn P w K m b 3 "_law_built" 1 kF) (c:HasFn P w K m b 1 "_law_mix" 2 wV),cA "_law_mixed" jS 4 1 15 ["_law_script"] F P w K m b} :=
 ⟨_,λa c=>λe T=>yo (k:=3) rfl rfl e z7 λaq A outer s H E d=>(ze (WI (wD (n:=3) rfl (zL (zX 1 z7.nd) (zL (zX 2 z7.nd) (zL (zX 3 z7.nd) xi)))) (aR a (za (dv 0) zf))) (ze (xx 4 z7.nd (Xy rfl rfl T.list_b rfl T.range_b (zj (dw 1) zx))) (ze (wC sY rfl (yG (qP (dw 0) (Yx ay) (Yx ay))) (zX 5 z7.nd) (ze (zR 6 z7.nd (aR c (za (dv 5) (za zU zf)))) (ze (zR 7 z7.nd (uI (dw 6) (dw 1))) (ze (zR 8 z7.nd (uI (sy (kN (dw 6) ay)) (dw 1))) (ze (zR 9 z7.nd (vi (dk 4) (dw 7))) (ze (WH 4 (vi (dk 4) (dw 8)) (dv 7)) (zo (WH 4 (dv 9) (dv 8))))))))) (ze (xx 10 z7.nd (zF zf)) (ze (wC sY rfl (yG (dv 2)) (wD (n:=3) rfl (zL (zX 7 z7.nd) (zL (zX 8 z7.nd) (zL (zX 11 z7.nd) xi)))) (zo (xV 10 (xj (za (yc (XH rfl) QR rfl T.min_b (by rfl) (zj (sy (vi (dk 4) (dw 7))) (zj (sy (vi (dk 4) (dw 8))) zx))) (za (yc (qt rfl) Yo rfl T.max_b (by rfl) (zj (sy (vi (dk 4) (dw 7))) (zj (sy (vi (dk 4) (dw 8))) zx))) (za (dv 11) zf))))))) (ze (xx 12 z7.nd (zF zf)) (ze (wC sY rfl (yG (dv 3)) (wD (n:=2) rfl (zL (zX 13 z7.nd) (zL (zX 14 z7.nd) xi))) (uH 4 (zo (xV 12 (xj (za (sJ (vW rfl T.sorted_b (zj (sy (sJ (yF (own:=["_law_i"]) (frees:=["_law_order"]) (caps:=[4]) rfl (.of (by kernel_rfl)) rfl z6 (yG (dv 13)) (λcl C s H fp=>⟨(cz 0),wa,(vi (dw 1) (dw 0))⟩)))) zx))) (za (dv 14) zf))))))) (uH 10 (zo (zK (xj (za (xj (za (dv 1) (za (dv 10) zf))) (za (sJ (Uk d rfl T.sorted_b (zj (dk 12) zx))) zf)))))))))))))⟩
noncomputable def vf:=vE 15 qA.1
noncomputable def Gp:FS:=(vk 1 (ya Nk (zb (zd aE (vF 0) (cF (.int 1))) zp)))
noncomputable def YF:FS:=(xB (cn (aO (zd bt (zd aE (vF 0) (cF (.int 0))) (cF (.str "a")))) (qH (zg (Z6 (zb (cF (.int 2)) (zb (zd yI (vF 1) (cF (.int 2))) zp))))) cK) (xB (cn (aO (zd bt (zd aE (vF 0) (cF (.int 0))) (cF (.str "b")))) (qH (zg (vD 1 [] (Dc (zb (cF (.int 1)) (zb (zd yI (vF 1) (cF (.int 1))) zp))) (zO 0) eG (zd YI (cF (.int 2)) (vF 0))))) cK) (xB (cn (aO (zd bt (zd aE (vF 0) (cF (.int 0))) (cF (.str "d")))) (qH (zd yI (zg (vD 1 [] (Dc (zb (cF (.int 1)) (zb (vF 1) zp))) (zO 0) eG (zd YI (cF (.int 2)) (vF 0)))) (zg (zY (zb (vF 1) zp))))) cK) (qH (zg (zY (zb (cF (.int 2)) (zb (vF 1) zp))))))))
def Wc (s:Str):Option (List Int):=if ("h3":Str)=s then some [2,6,10] else if ("h4":Str)=s then some [2,12,20,30] else if ("f4":Str)=s then some [2,6,8,12] else if ("e6":Str)=s then some [2,5,6,8,9,12] else none
noncomputable def yV:List FL.D->Option FL.D:=λds=>match Gp (wX 3 ds) with
 | some (.nx [.fr (.str s),.fr (.int m),.no])=>(match Wc s with
  | some ns=>some (.lst (ns.map FL.D.int))
  | none=>(match YF [.fr (.str s),.fr (.int m),.no] with
   | some (.rt d)=>some d
   | _=>none))
 | _=>none
def vI:FnScope ["_law_kind","_law_many","_law_rare"] ["_law_kind"] (zi zW):=⟨rfl,rfl,rfl,by decide +kernel,rfl,by decide +kernel,by decide +kernel⟩
def PP:jf [] [((.inr "h3":Key),a),(.inr "h4",b),(.inr "f4",c),(.inr "e6",d)]=[(.inr "h3",a),(.inr "h4",b),(.inr "f4",c),(.inr "e6",d)]:=by rfl
@[irreducible] def bd (k:Nat):Stmt:=(yw zW).getD k (.Pass ⟨0,0,0,0⟩)
def Cn (k:Nat):bd k=(yw zW).getD k (.Pass ⟨0,0,0,0⟩):=by unfold bd; rfl
def Cj:yw zW=bd 0 :: bd 1 :: bd 2 :: (yw zW).drop 3:=by kernel_rfl
def MC (D:Ends) (σ:L2.St) (H:Hp):Prop:=∀ p d c b a H',zV H H'->H p=none->H d=none->H c=none->H b=none->H a=none->H' p=some (.dK (jf [] [((.inr "h3":Key),.ref d),(.inr "h4",.ref c),(.inr "f4",.ref b),(.inr "e6",.ref a)])) →
 H' d=some (.lst ([2,6,10].map V.int))->H' c=some (.lst ([2,12,20,30].map V.int))->H' b=some (.lst ([2,6,8,12].map V.int))->H' a=some (.lst ([2,5,6,8,9,12].map V.int))->D.nx (σ.set 2 (some (.ref p))) H'
def C2 (aq:Value) (A:Around) (outer:List Env) (s:Shared) (H:Hp) (E:XK):PS (xA bF P w K mg base ["_law_kind","_law_many","_law_rare"] "_law_degrees" (zi zW) f aq A outer s H E).nox (bd 1) MC:=by
 exact (Kc (i:=2) ((Cn 1).trans rfl) (.cons (.cons (.cons .nil))) (.cons (.cons (.cons (.cons .nil)))) (.cons (.cons (.cons (.cons .nil)))) (.cons (.cons (.cons (.cons (.cons (.cons .nil)))))) (by decide) (by decide) (by decide) (by decide) vI.nd rfl (.inl rfl) (by kernel_rfl) (.inr rfl))
def CZ (D:Ends) (σ:L2.St) (H:Hp):Prop:=∃ s0 p o,σ[0]? = some (some (.str s0))/\σ[2]? = some (some (.ref p))/\JD H p (.str s0) o/\(match o with | some v=>D.rt v H | none=>D.nx σ H)
def C1 (aq:Value) (A:Around) (outer:List Env) (s:Shared) (H:Hp) (E:XK) (c:Room 0 (A.deeper (envOfC "_law_degrees" (zi zW) s.heap.objs.size f aq))):PS (xA bF P w K mg base ["_law_kind","_law_many","_law_rare"] "_law_degrees" (zi zW) f aq A outer s H E).nox (bd 2) CZ:=by
 have a:(xA bF P w K mg base ["_law_kind","_law_many","_law_rare"] "_law_degrees" (zi zW) f aq A outer s H E).nox.A.units+1 < A0:=by have:=c.un; show (A.deeper _).units+1 < A0; omega
 rw [Cn 2]
 refine y8 (UY (Vc (Do a (pv 0) (pv 2))) (wR (kd (Bc a (pv 2) (pv 0) (λ_ _=>rfl)))) j9) λD' σ H ⟨s0,p,o,k0,k2,b,q⟩=>?_
 refine ⟨.str s0,k0,.ref p,k2,p,o,rfl,b,o.isSome,rfl,?_⟩
 cases o with
 | none=>exact BN q
 | some v=>exact BM ⟨.ref p,k2,.str s0,k0,p,v,rfl,b,q⟩
def C0 (aq:Value) (A:Around) (outer:List Env) (s:Shared) (H:Hp) (E:XK) (a:Room 0 (A.deeper (envOfC "_law_degrees" (zi zW) s.heap.objs.size f aq))) (T:Txt w K mg):gz (xA bF P w K mg base ["_law_kind","_law_many","_law_rare"] "_law_degrees" (zi zW) f aq A outer s H E).nox ((yw zW).drop 3) YF:=(ze (xa (vt a (sy (vi (dw 0) ay)) (sy vg)) (zo (zK (sJ (kL rfl rfl T.list_b rfl T.range_b (zj ay (zj (sy (zS (dw 1) ay)) zx)))))) z5) (ze (xa (vt a (sy (vi (dw 0) ay)) (sy vg)) (zo (zK (sJ (yF (own:=["_law_k"]) (frees:=[]) (caps:=[]) rfl (.of (by kernel_rfl)) rfl z6 (qk rfl T.range_b (zj ay (zj (sy (zS (dw 1) ay)) zx))) (λcl C s H fp=>⟨(cz 0),wa,(Zg ay (dw 0))⟩))))) z5) (ze (xa (vt a (sy (vi (dw 0) ay)) (sy vg)) (zo (zK (zS (sy (sJ (yF (own:=["_law_k"]) (frees:=[]) (caps:=[]) rfl (.of (by kernel_rfl)) rfl z6 (qk rfl T.range_b (zj ay (zj (dw 1) zx))) (λcl C s H fp=>⟨(cz 0),wa,(Zg ay (dw 0))⟩)))) (sy (sJ (zF (za (dv 1) zf))))))) z5) (zo (zK (sJ (zF (za zU (za (dv 1) zf)))))))))
def C3 (aq:Value) (A:Around) (outer:List Env) (s:Shared) (H:Hp) (E:XK) (a:Room 0 (A.deeper (envOfC "_law_degrees" (zi zW) s.heap.objs.size f aq))) (T:Txt w K mg):DS (xA bF P w K mg base ["_law_kind","_law_many","_law_rare"] "_law_degrees" (zi zW) f aq A outer s H E).nox (bd 0) Gp:=by
 rw [Cn 0]
 exact (zR 1 vI.nd (qp Jm K0 rfl T.int_b (by rfl) (zj (sy (vi (dw 0) ay)) zx)))
set_option tactic.hygienic true in
def Xd (Fn:Fun K "_law_degrees" "_law_degrees" zW f fd) (T:Txt w K mg) :
  FnOk P w K mg base bF 1 f fd ["_law_kind"] (spF K 1 yV):=by
 refine Fn.ok (k:=0) vI (λvs H Q E h=>?_) (λaq A outer s H vs Q E J h=>?_)
 .obtain ⟨Hf,ds,d,_,h1,h2,_⟩:=h
  rw [h1.length]; exact h2
 obtain ⟨Hf,ds,d,sf,hl,hn,e,q⟩:=h
 refine ⟨_,(by rw [Cj]; exact yL (C3 aq A outer s H E J T) (yL (C2 aq A outer s H E) (yL (C1 aq A outer s H E J) (C0 aq A outer s H E J T)))),?_⟩
 obtain ⟨s0,m,S,Y⟩:∃ s0 m,Gp (wX 3 ds)=some (.nx [.fr (.str s0),.fr (.int m),.no])/\((∃ ns,Wc s0=some ns/\d=.lst (ns.map FL.D.int))\/(Wc s0=none/\YF [.fr (.str s0),.fr (.int m),.no]=some (.rt d))):=by
  unfold yV at e
  split at e
  .rename_i s0 m S
   refine ⟨s0,m,S,?_⟩
   split at e
   .rename_i ns g
    cases e
    exact .inl ⟨ns,g,rfl⟩
   .rename_i g
    split at e
    .rename_i R; cases e; exact .inr ⟨g,R⟩
    .cases e
  .cases e
 have R0:=uY (N:=["_law_kind","_law_many","_law_rare"]) sf hl
 refine ⟨H,Hf,_,Hf,.nx [.fr (.str s0),.fr (.int m),.no],R0,S,λL H1 U c t1=>?_⟩
 have i:L.length=3:=c.len.symm
 obtain ⟨v0,M,I⟩:=c.fr 0 (.str s0) rfl
 cases sR.mp I
 intro p t r n j W G hp n1 n2 n3 Z ep a1 a2 a3 a4
 rw [PP] at ep
 have look:(∃ ns l,Wc s0=some ns/\VN [((.inr "h3":Key),V.ref t),(.inr "h4",.ref r),(.inr "f4",.ref n),(.inr "e6",.ref j)] (.inr s0)=some (.ref l)/\W l=some (.lst (ns.map V.int))/\H1 l=none) ∨
   (Wc s0=none/\VN [((.inr "h3":Key),V.ref t),(.inr "h4",.ref r),(.inr "f4",.ref n),(.inr "e6",.ref j)] (.inr s0)=none):=by
  have inj:∀ {a b:Str},¬ a=b->¬ (AS a:Key)=AS b:=λh z=>h (AS.inj z)
  unfold Wc
  by_cases F:("h3":Str)=s0
  .rw [if_pos F,ud (congrArg AS F)]; exact .inl ⟨_,t,rfl,rfl,a1,n1⟩
  rw [if_neg F,ue (inj F)]
  by_cases C:("h4":Str)=s0
  .rw [if_pos C,ud (congrArg AS C)]; exact .inl ⟨_,r,rfl,rfl,a2,n2⟩
  rw [if_neg C,ue (inj C)]
  by_cases B:("f4":Str)=s0
  .rw [if_pos B,ud (congrArg AS B)]; exact .inl ⟨_,n,rfl,rfl,a3,n3⟩
  rw [if_neg B,ue (inj B)]
  by_cases x:("e6":Str)=s0
  .rw [if_pos x,ud (congrArg AS x)]; exact .inl ⟨_,j,rfl,rfl,a4,Z⟩
  rw [if_neg x,ue (inj x)]
  exact .inr ⟨rfl,rfl⟩
 generalize [((.inr "h3":Key),V.ref t),(.inr "h4",.ref r),(.inr "f4",.ref n),(.inr "e6",.ref j)]=ar at *
 have k0:(L.set 2 (some (.ref p)))[0]? = some (some (V.str s0)):=by rw [lP (by decide)]; exact M
 have k2:(L.set 2 (some (.ref p)))[2]? = some (some (V.ref p)):=oZ (by rw [i]; decide)
 have u:JD W p (.str s0) (VN ar (.inr s0)):=JD.k (k:=.inr s0) ep
 rcases look with ⟨ns,l,g,O,el,X⟩ | ⟨g,O⟩
 .obtain rfl:d=.lst (ns.map FL.D.int):=by
   rcases Y with ⟨ms,e1,e2⟩ | ⟨e1,_⟩
   .rw [g] at e1; cases e1; exact e2
   .rw [g] at e1; cases e1
  rw [O] at u
  refine ⟨s0,p,_,k0,k2,u,?_⟩
  show Q (.ref l) W
  have fl:U l=none:=none_same c.sf X
  refine q (.ref l) _ (upd U l (.lst (ns.map V.int))) ⟨c.s0.trans G,c.f0.trans (zA fl),λb o z=>?_,λb o z=>?_⟩ (sO.mpr ⟨l,_,rfl,aZ.of zq,ints_hasL ns⟩)
  .by_cases y:b=l
   .subst y; rw [zq] at z; cases z; exact el
   .rw [zu y] at z; exact G _ _ (c.sf _ _ z)
  .by_cases y:b=l
   .subst y; exact .inr (.inl (none_same c.s0 X))
   .rw [zu y] at z; exact c.nf b o z
 .obtain R:YF [.fr (.str s0),.fr (.int m),.no]=some (.rt d):=by
   rcases Y with ⟨ms,e1,e2⟩ | ⟨_,e2⟩
   .rw [g] at e1; cases e1
   .exact e2
  rw [O] at u
  refine ⟨s0,p,_,k0,k2,u,?_⟩
  have R2:=(c.grow G zD (c.sf.trans G) (λb o z=>.inl z)).dropAt 2 (some (.ref p))
  exact ⟨H,Hf,_,U,_,R2,R,λv aB ρ' H' ao R' _ hv=>q v H' ao ⟨R'.s0,R'.f0,R'.sf,R'.nf⟩ hv⟩
def jv:FnScope ["_law_some","_law_row_here","_law_degree"] ["_law_some"] (zi X5):=ck
noncomputable def WV:{F:FS // ∀ {P w K m b} ,cA "_law_row" X5 1 1 3 ["_law_some"] F P w K m b} :=
 ⟨_,λa T=>yo (k:=0) rfl rfl a jv λaq A outer s H E c=>(ze (zR 1 jv.nd (sJ (zF (za zU zf)))) (ze (wC sY rfl (yG (dv 0)) (zX 2 jv.nd) (zo (zR 1 jv.nd (sJ (yF (own:=["_law_k"]) (frees:=["_law_row_here","_law_degree"]) (caps:=[1,2]) rfl (.of (by kernel_rfl)) rfl z6 (vX rfl T.range_b (zj (sy (we (sy (zS (sy (yc yg yY rfl T.len_b (by rfl) (zj (dw 1) zx))) (dw 2))) ay)) zx)) (λcl C s H fp=>⟨(cz 0),wa,(yc (YC rfl) Wz rfl T.sum_b (by rfl) (zj (sy (qP (dw 1) (Yx (sy (yc (qt rfl) Yo rfl T.max_b (by rfl) (zj ay (zj (sy (zS (sy (we (dw 0) (dw 2))) ay)) zx))))) (Yx (sy (zS (dw 0) ay))))) zx))⟩)))))) (zo (zK (dv 1)))))⟩
noncomputable def Wx:=vE 3 WV.1
def YZ:FnScope ["_law_found","_law_due"] ["_law_found","_law_due"] (zi uD):=ck
noncomputable def uN:{F:FS // ∀ {P w K m b} (c:HasFn P w K m b 1 "_law_whole" 1 vQ),cA "_law_numbers" uD 2 2 2 ["_law_found","_law_due"] F P w K m b} :=
 ⟨_,λc=>λd T=>yo (k:=1) rfl rfl d YZ λaq A outer s H E a=>(ze (xa (Ea (Uh (jh (uz (sy (VA Hj (dw 0) rfl T.isinstance_b rfl T.list_b)))) (Vx (Yv a (dw 0) (dw 1))))) (zo (zK CF)) z5) (zo (zK (CD a (sy (yc yg yY rfl T.len_b (by rfl) (zj (sy (sJ (yF (own:=["_law_number"]) (frees:=[]) (caps:=[]) rfl (.of (by kernel_rfl)) rfl z6 (yG (dv 0)) (λcl C s H fp=>⟨(cz 0),(ji (jh (uz (sy (aR c (za (dv 0) zf)))))),(dv 0)⟩)))) zx))) ay))))⟩
noncomputable def wA:=vE 2 uN.1
def uR:FnScope ["_law_ask","_law_house","_law_kept_here","e"] ["_law_ask","_law_house"] (zi Z3):=⟨rfl,rfl,rfl,by decide +kernel,rfl,by decide +kernel,by decide +kernel⟩
def Qj {C D:Addr} {k:Nat} {N M g2:List FL.D->Option RE} (Fn:Fun K "_law_kept" "_law_kept" Z3 f fd)
  (mD:mg "HouseError"=some (.ref D)) (ca:Catches K D C) (h0:HasFnE P w K mg base C k "degrees" 1 N) (h1:HasFnE P w K mg base C k "counts" 1 M) (h2:HasFnE P w K mg base C k "size" 1 g2) :
  FnOk P w K mg base bF (k+1) f fd ["_law_ask","_law_house"] (Gu K C N M g2):=by
 obtain ⟨f0,fd0,W,F0,Z,k0,b0⟩:=h0.ex
 obtain ⟨f1,fd1,U,F1,Y,k1,b1⟩:=h1.ex
 obtain ⟨f2,fd2,T,F2,X,k2,b2⟩:=h2.ex
 refine Fn.ok (k:=k) uR (λvs H Q E h=>?_) (λaq A outer s H vs Q E J h=>?_)
 .obtain ⟨Hf,kk,d,ns,_,h1,_⟩:=h
  exact h1.length
 obtain ⟨Hf,kk,d,ns,sf,hl,p,q⟩:=h
 refine ⟨_,yL (u3 (i:=2) uR.nd (by rfl) (.inl rfl) GL) (yL (HU (UW (Vc (GO (pv 0) Zq)) (j8 F0 J (by rfl) Z k0 b0 (λE=>zN (pv 1) yE))
  (UW (Vc (GO (pv 0) Zq)) (j8 F1 J (by rfl) Y k1 b1 (λE=>zN (pv 1) yE)) (j8 F2 J (by rfl) X k2 b2 (λE=>zN (pv 1) yE))))
  ⟨(by rfl),(by rfl)⟩ (by rfl) mD uR.nd (i:=3) (by rfl) (by rfl) (λa=>wR (u3 (i:=2) uR.nd (by rfl) (.inl rfl) (pv 3)))) (wR (kd (pv 2)))),?_⟩
 obtain ⟨x0,r0,rfl,G,iH⟩:=sD.mp hl
 obtain ⟨F,r1,rfl,I,R⟩:=sD.mp iH
 rw [zB.nil_iff] at R; subst R
 cases sA.mp G
 have fin:∀ g:List FL.D->Option RE,g [d]=some (.en ns)->∀ (S:VK) (O:XK),(∀ dx l H' ao,Grows H Hf H' ao->H' dx=some (.ext (gG dx "mirrors" (.ref l)))->H' l=some (.lst (ns.map V.int))->ao dx=none->ao l=none->H dx=none->H l=none->dx≠l->O (.ref C) (some dx) H') →
   spE K C 1 g [F] H S O:=λg L S O z=>⟨Hf,[d],.en ns,sf,sD.mpr ⟨_,_,rfl,I,zB.nil_iff.mpr rfl⟩,rfl,L,z⟩
 have c:∀ {A B:Hp} {b:Addr},zV A B->B b=none->A b=none:=λ{A B b} s z=>by
  cases y:A b with
  | none=>rfl
  | some o=>have:=s _ _ y; rw [z] at this; cases this
 have j:∀ a dx l H' ao,Grows H Hf H' ao->H' dx=some (.ext (gG dx "mirrors" (.ref l)))->H' l=some (.lst (ns.map V.int))->ao dx=none->ao l=none->H dx=none->H l=none->dx≠l->H' a=none->Q (.ref a) (upd H' a (.ext (iA a C dx))):=λa dx l H' ao e e1 e2 v u t r n m=>by
  have s1:zV H' (upd H' a (.ext (iA a C dx))):=zA m
  exact q a dx l _ ao ⟨e.h.trans s1,e.f,e.fh.trans s1,e.new⟩ zq (s1 _ _ e1) (s1 _ _ e2) (c e.fh m) v u (c e.h m) t r n (zy e1 m) (zy e2 m)
 refine ⟨.int kk,rfl,kk,0,rfl,rfl,_,rfl,?_⟩
 dsimp only
 by_cases x:kk=0
 .rw [if_pos x] at p
  rw [if_pos (by simpa using x)]
  refine ⟨F,rfl,fin N p _ _ λdx l H' ao e e1 e2 v u t r n=>⟨C,dx,rfl,rfl,ca,λa m=>⟨.ref a,rfl,.ref a,rfl,j a dx l H' ao e e1 e2 v u t r n m⟩⟩⟩
 .rw [if_neg x] at p
  rw [if_neg (by simpa using x)]
  refine ⟨.int kk,rfl,kk,1,rfl,rfl,_,rfl,?_⟩
  dsimp only
  by_cases z1:kk=1
  .rw [if_pos z1] at p
   rw [if_pos (by simpa using z1)]
   refine ⟨F,rfl,fin M p _ _ λdx l H' ao e e1 e2 v u t r n=>⟨C,dx,rfl,rfl,ca,λa m=>⟨.ref a,rfl,.ref a,rfl,j a dx l H' ao e e1 e2 v u t r n m⟩⟩⟩
  .rw [if_neg z1] at p
   rw [if_neg (by simpa using z1)]
   refine ⟨F,rfl,fin g2 p _ _ λdx l H' ao e e1 e2 v u t r n=>⟨C,dx,rfl,rfl,ca,λa m=>⟨.ref a,rfl,.ref a,rfl,j a dx l H' ao e e1 e2 v u t r n m⟩⟩⟩
def qW:FnScope ["_law_ask","_law_house","_law_part","_law_kept_here"] ["_law_ask","_law_house","_law_part"] (zi uC):=⟨rfl,rfl,rfl,by decide +kernel,rfl,by decide +kernel,by decide +kernel⟩
def Xc {C D fI CH CT CW CM fK:Addr} {fu G:tU} {bm:List Value} {newId:String} {k:Nat} {g0 g1 g2:List FL.D->Option RE} {g:List FL.D->Option FL.D}
  (Fn:Fun K "_law_refused" "_law_refused" uC f fd) (Z:EndT K mg base C D fI fu bm newId) (Y:FourT K mg C CH CT CW CM) (bI:mg "isinstance"=none) (bV:mg "ValueError"=none)
  (FK:FnOk P w K mg base bF k fK G ["_law_ask","_law_house"] (Gu K C g0 g1 g2)) (mK:mg "_law_kept"=some (.ref fK)) (kK:AI K (.ref fK)=true) (bK:qB K G ["_law_ask","_law_house"] []) (hN:HasFn P w K mg base k "_law_numbers" 2 g) :
  FnOk P w K mg base bF (k+1) f fd ["_law_ask","_law_house","_law_part"] (spF K 3 (Mn g0 g1 g2 g)):=by
 obtain ⟨f1,fd1,ps1,F1,m1,k1,b1⟩:=hN.ex
 refine Fn.ok (k:=k) qW (λvs H Q E h=>?_) (λaq A outer s H vs Q E L h=>?_)
 .obtain ⟨Hf,ds,d,_,h1,h2,_⟩:=h
  rw [h1.length]; exact h2
 obtain ⟨Hf,ds,dr,sf,hl,hn,c,q⟩:=h
 refine ⟨_,yL (u3 (i:=3) qW.nd (by rfl) (.inl rfl) (vO (E:=λ_ _ _=>False) FK L (by rfl) mK kK bK .nil (λ_ _ _ _ _ _ _ z=>tu z) (zN (pv 0) (zN (pv 1) yE))))
  (yL (UY (HN (Va (Y5 (wL qv (by rfl) bI (by rfl) (zN (pv 3) (zN (wU (v:=.ref C) (by rfl) Z.mE (by rfl)) yE)))))
   (UV (Y5 (wL qv (by rfl) bI (by rfl) (zN (pv 3) (zN (GJ (zN (wU (v:=.ref CH) (by rfl) Y.mH (by rfl)) (zN (wU (v:=.ref CT) (by rfl) Y.mT (by rfl)) (zN (wU (v:=.ref CW) (by rfl) Y.mW (by rfl)) (zN (wU (v:=.ref CM) (by rfl) Y.mM (by rfl)) yE))))) yE)))))).pt (wR (kd Be)) j9)
  (yL (UY (HN (Va (Y5 (wL qv (by rfl) bI (by rfl) (zN (pv 3) (zN (U9 (v:=.ty "ValueError") (by rfl) bV (by rfl) (by rfl)) yE)))))
   (UV (Va (Y5 (vO (E:=λ_ _ _=>False) F1 L (by rfl) m1 k1 b1 .nil (λ_ _ _ _ _ _ _ z=>tu z) (zN (Z8 Z.cls Z.hd Z.ng Z.fx (pv 3) (by rfl)) (zN (pv 2) yE))))))).pt (wR (kd Be)) j9)
  (yL (qI (U8 Al Ei Ej qc (Z8 Z.cls Z.hd Z.ng Z.fx (pv 3) (by rfl)) (zN Zq yE) (by rfl) (by rfl) (by rfl) (by rfl) (by rfl)))
  (wR (kd (vO (E:=λ_ _ _=>False) F1 L (by rfl) m1 k1 b1 .nil (λ_ _ _ _ _ _ _ z=>tu z)
   (zN (Z8 Z.cls Z.hd Z.ng Z.fx (vO (E:=λ_ _ _=>False) FK L (by rfl) mK kK bK .nil (λ_ _ _ _ _ _ _ z=>tu z) (zN (pv 0) (zN (pv 1) yE))) (by rfl)) (zN (pv 2) yE)))))))),?_⟩
 obtain ⟨i,d,p,ns,rfl,hs,F,hz,rfl⟩:∃ i d p ns,ds=[.int i,d,p]/\(if i=0 then g0 [d] else if i=1 then g1 [d] else g2 [d])=some (.en ns)/\g [.lst (ns.map FL.D.int),p]=some (.bl true)/\ns.length < 1000/\dr=.bl true:=by
  unfold Mn at c
  split at c
  .split at c
   .rename_i e1
    split at c
    .rename_i e2
     split at c
     .rename_i e3; cases c; exact ⟨_,_,_,_,rfl,e1,e2,e3,rfl⟩
     .cases c
    .cases c
   .cases c
  .cases c
 obtain ⟨x0,r0,rfl,r,iH⟩:=sD.mp hl
 obtain ⟨X,r1,rfl,hvd,oN⟩:=sD.mp iH
 obtain ⟨vp,r2,rfl,t,B⟩:=sD.mp oN
 rw [zB.nil_iff] at B; subst B
 cases sA.mp r
 have args:zB K Hf [.int i,d] [.int i,X]:=sD.mpr ⟨_,_,rfl,r,sD.mpr ⟨_,_,rfl,hvd,zB.nil_iff.mpr rfl⟩⟩
 have dC:(ns.map V.int).length < sizeLine:=by rw [aC,Av]; omega
 refine ⟨.int i,rfl,X,rfl,Hf,i,d,ns,sf,args,hs,λa dx l H1 N nc n x2 T y1 y2 y3 z1 z2 z3 n1 n2 n3=>?_⟩
 refine ⟨.ref a,rfl,a,C,dx,true,_,Z.ex,n,λ_ x=>x,⟨true,rfl,?_⟩,.inr (.inl ⟨C,rfl,Y.own⟩)⟩
 refine ⟨.ref a,rfl,by show 4<=sizeLine; decide,λtp htp=>?_⟩
 have s2:zV H1 (upd H1 tp (.tup [.ref CH,.ref CT,.ref CW,.ref CM])):=zA htp
 refine ⟨a,C,dx,false,_,Z.ex,s2 _ _ n,λ_ x=>x,⟨false,rfl,?_⟩,.inr (.inr ⟨tp,[CH,CT,CW,CM],rfl,zq,Y.not⟩)⟩
 refine ⟨.ref a,rfl,a,C,dx,true,_,Z.ex,s2 _ _ n,λ_ x=>x,⟨true,rfl,?_⟩,.inl ⟨"ValueError",rfl,Y.val⟩⟩
 have S1:zV N (upd N l (.lst (ns.map V.int))):=zA y3
 have F2:zV (upd N l (.lst (ns.map V.int))) (upd H1 tp (.tup [.ref CH,.ref CT,.ref CW,.ref CM])):=λb o z=>by
  by_cases y:b=l
  .subst y; rw [zq] at z; cases z; exact s2 _ _ T
  .rw [zu y] at z; exact s2 _ _ (nc.fh _ _ z)
 refine ⟨.ref a,rfl,a,dx,l,_,rfl,s2 _ _ n,λ_ x=>x,s2 _ _ x2,vp,rfl,upd N l (.lst (ns.map V.int)),[.lst (ns.map FL.D.int),p],.bl true,F2,?_,rfl,F,λv H3 gx rK hv=>?_⟩
 .exact sD.mpr ⟨_,_,rfl,sO.mpr ⟨l,_,rfl,aZ.of zq,ints_hasL ns⟩,sD.mpr ⟨_,_,rfl,af.mono (nc.f.trans S1) t,zB.nil_iff.mpr rfl⟩⟩
 cases sP.mp hv
 refine ⟨true,rfl,?_⟩
 have J:zV H1 H3:=s2.trans rK.h
 refine ⟨.ref a,rfl,a,dx,l,_,rfl,J _ _ n,λ_ x=>x,J _ _ x2,.inl ⟨rfl,_,aZ.of (J _ _ T)⟩,l,_,.int 9,rfl,rfl,J _ _ T,dC,?_⟩
 have I:zV H (upd H3 l (.lst (ns.map V.int++[.int 9]))):=λb o z=>(zu (zy z z3)).trans (J _ _ (nc.h _ _ z))
 refine ⟨.int i,rfl,X,rfl,Hf,i,d,ns,sf.trans I,args,hs,λa' dx' j H5 M m W U S y1' y2' R z1' z2' O n1' n2' n3'=>?_⟩
 have S5:zV M (upd M j (.lst (ns.map V.int))):=zA R
 have F5:zV (upd M j (.lst (ns.map V.int))) H5:=λb o z=>by
  by_cases y:b=j
  .subst y; rw [zq] at z; cases z; exact S
  .rw [zu y] at z; exact m.fh _ _ z
 refine ⟨a',dx',j,_,rfl,W,λ_ x=>x,U,vp,rfl,upd M j (.lst (ns.map V.int)),[.lst (ns.map FL.D.int),p],.bl true,F5,?_,rfl,F,λv H6 mC e hv=>q v H6 mC ⟨I.trans (m.h.trans e.h),(m.f.trans S5).trans e.f,e.fh,λb o z=>?_⟩ hv⟩
 .exact sD.mpr ⟨_,_,rfl,sO.mpr ⟨j,_,rfl,aZ.of zq,ints_hasL ns⟩,sD.mpr ⟨_,_,rfl,af.mono (m.f.trans S5) t,zB.nil_iff.mpr rfl⟩⟩
 rcases e.new b o z with y | y | y
 .by_cases x:b=j
  .subst x; exact .inr (.inl (none_same I O))
  .rw [zu x] at y
   rcases m.new b o y with u | u | u
   .exact .inl u
   .exact .inr (.inl (none_same I u))
   .exact .inr (.inr u)
 .exact .inr (.inl (none_same (I.trans m.h) y))
 .exact .inr (.inr y)
noncomputable def vq:List FL.D->Option FL.D:=Mn yP kE Wv wA
def jL:FnScope ["_law_some","_law_handed","_law_made_here"] ["_law_some"] (zi Z2):=⟨rfl,rfl,rfl,by decide +kernel,rfl,by decide +kernel,by decide +kernel⟩
def Qi {C D fI:Addr} {R:tU} {bm:List Value} {newId:String} {g:List FL.D->Option FL.D} (Fn:Fun K "_law_made" "_law_made" Z2 f fd)
  (Z:EndT K mg base C D fI R bm newId) (bl:mg "list"=none) (bI:mg "isinstance"=none) (F:FnOk P w K mg base bF 1 fI R ["self","mirrors"] (Gv K C)) (hN:HasFn P w K mg base 2 "_law_numbers" 2 g) :
  FnOk P w K mg base bF 3 f fd ["_law_some"] (spF K 1 (Kz g)):=by
 obtain ⟨f1,fd1,ps1,F1,m1,k1,b1⟩:=hN.ex
 refine Fn.ok (k:=2) jL (λvs H Q E h=>?_) (λaq A outer s H vs Q E L h=>?_)
 .obtain ⟨Hf,ds,d,_,h1,h2,_⟩:=h
  rw [h1.length]; exact h2
 obtain ⟨Hf,ds,d,sf,M,hn,n,q⟩:=h
 refine ⟨_,yL (u3 (i:=1) jL.nd (by rfl) (.inl rfl) (Yy (by rfl) bl (zj (dw 0) zx)))
  (yL (u3 (i:=2) jL.nd (by rfl) (.inl rfl) (U7 Z.own Z.bas Z.fn F L Z.bi Z.kp (by rfl) Z.mE (zj (dk 1) zx) (λ_=>ED)))
  (yL (qI (U8 Al Ei Ej qc (pv 1) (zN Zq yE) (by rfl) (by rfl) (by rfl) (by rfl) (by rfl)))
  (wR (kd (GN (wL qv (by rfl) bI (by rfl) (zN (pv 2) (zN (wU (v:=.ref D) (by rfl) Z.mD (by rfl)) yE)))
   (GK (vO (E:=λ_ _ _=>False) F1 L (by rfl) m1 k1 b1 .nil (λ_ _ _ _ _ _ _ z=>tu z) (zN (Z8 Z.cls Z.hd Z.ng Z.fx (pv 2) (by rfl)) (zN (pv 0) yE))))))))),?_⟩
 obtain ⟨m,ns,rfl,r,hi,n⟩:∃ m ns,ds=[.lst m]/\m.length < 1000/\numsOf m=some ns/\g [.lst m,.lst m]=some d:=by
  unfold Kz at n
  split at n
  .obtain ⟨ns,e1,e2⟩:=iq.mp n
   split at e1
   .rename_i z; exact ⟨_,ns,rfl,z,e1,e2⟩
   .cases e1
  .cases n
 cases numsOf_some hi
 obtain ⟨v0,r0,rfl,B,J⟩:=sD.mp M
 rw [zB.nil_iff] at J; subst J
 have R0:=uY (N:=["_law_some","_law_handed","_law_made_here"]) sf M
 have c:∀ (j:Nat) (sl:Slot),(wX 3 [FL.D.lst (ns.map FL.D.int)])[j]? = some sl->sl.own=true->False:=λj sl z ow=>by
  match j,z with
  | 0,z=>cases z; cases ow
  | 1,z=>cases z; cases ow
  | 2,z=>cases z; cases ow
 refine ⟨H,Hf,_,Hf,ns.map FL.D.int,R0,rfl,λa xs H1 av R1 s1 t1 O e1 e2 U=>?_⟩
 cases hasL_ints O
 have I:=R1.setOwn (i:=1) (sl:=.ol (ns.map FL.D.int)) (a:=a) rfl ⟨_,e1,O⟩ e2 U λj sl z ow=>(c j sl z ow).elim
 refine ⟨H,Hf,_,av,.lst (ns.map FL.D.int),ns,I,rfl,.inl rfl,λe dx l H2 aP R2 s2 t2 f1 f2 f3 f4 f5 f6 G T S n1 n2 n3 _=>?_⟩
 have W:a≠e:=λz=>by subst z; rw [e1] at T; cases T
 have al:a≠l:=λz=>by subst z; rw [e1] at G; cases G
 have ad:a≠dx:=λz=>by subst z; rw [e1] at S; cases S
 have t:H2 a=some (.lst (ns.map V.int)):=s2 _ _ e1
 refine ⟨.ref a,rfl,.inl ⟨rfl,_,aZ.of t⟩,a,_,.int 9,rfl,rfl,t,by rw [aC] at r ⊢; rw [Av]; omega,?_⟩
 have un:∀ b,b≠a->upd H2 a (.lst (ns.map V.int++[.int 9])) b=H2 b:=λb z=>zu z
 refine ⟨.ref e,rfl,e,C,dx,true,_,Z.ex,(un _ W.symm).trans f1,λ_ x=>QT x,⟨true,rfl,?_⟩,.inr (.inl ⟨D,rfl,Z.sub⟩)⟩
 rw [if_pos rfl]
 refine ⟨.ref e,rfl,e,dx,l,_,rfl,(un _ W.symm).trans f1,λ_ x=>QT x,(un _ ad.symm).trans f2,v0,rfl,?_⟩
 obtain ⟨_,w1,_,w3,_⟩:=R2.ow 1 (.ol (ns.map FL.D.int)) rfl rfl
 cases w1
 have X:zV aP (upd aP l (.lst (ns.map V.int))):=λb o z=>(zu (zy z f4)).trans z
 have F3:zV (upd aP l (.lst (ns.map V.int))) (upd H2 a (.lst (ns.map V.int++[.int 9]))):=λb o z=>by
  by_cases y:b=l
  .subst y; rw [zq] at z; cases z; exact (un _ al.symm).trans f3
  .rw [zu y] at z
   exact (un _ (zy z w3)).trans (R2.sf _ _ z)
 have Y:zV H (upd H2 a (.lst (ns.map V.int++[.int 9]))):=λb o z=>(un _ (zy z U)).trans (s2 _ _ (s1 _ _ z))
 refine ⟨upd aP l (.lst (ns.map V.int)),[.lst (ns.map FL.D.int),.lst (ns.map FL.D.int)],d,F3,?_,rfl,n,λv H' ao u hv=>q v H' ao ⟨Y.trans u.h,(t1.trans (t2.trans X)).trans u.f,u.fh,λb o z=>?_⟩ hv⟩
 .exact sD.mpr ⟨_,_,rfl,sO.mpr ⟨l,_,rfl,aZ.of zq,ints_hasL ns⟩,sD.mpr ⟨_,_,rfl,af.mono (t1.trans (t2.trans X)) B,zB.nil_iff.mpr rfl⟩⟩
 .rcases u.new b o z with y | y | y
  .by_cases x:b=l
   .subst x
    refine .inr (.inl ?_)
    cases p:H b with
    | none=>rfl
    | some o'=>have:=s1 _ _ p; rw [G] at this; cases this
   .rw [zu x] at y; exact R2.nf b o y
  .refine .inr (.inl ?_)
   cases p:H b with
   | none=>rfl
   | some o'=>have:=Y _ _ p; rw [y] at this; cases this
  .exact .inr (.inr y)
noncomputable def Ym:List FL.D->Option FL.D:=Kz wA
def xN:FnScope ["_law_script","_law_house","_law_due","_law_handed","_law_never_here","_law_word","_law_good","_law_some","_law_part","_law_kind","_law_told","_law_row_here","_law_many","_law_degree"] ["_law_script"] (zi VX):=ck
noncomputable def Gq:{F:FS // ∀ {P w K m b} (c:Kv K=true) (o:HasFn P w K m b 1 "_law_degrees" 1 yV) (j:HasFn P w K m b 3 "_law_made" 1 Ym) (l:HasFn P w K m b 4 "_law_mixed" 1 vf) (h:HasFn P w K m b 2 "_law_numbers" 2 wA) (p:HasFn P w K m b 12 "_law_refused" 3 vq) (e:HasFn P w K m b 1 "_law_row" 1 Wx) (q:HasFn P w K m b 1 "_law_whole" 1 vQ) (g:HasFn P w K m b 10 "counts" 1 Yn) (i:HasFn P w K m b 9 "degrees" 1 xw) (r:HasFn P w K m b 8 "endless" 1 yX) (d:HasFn P w K m b 10 "size" 1 QP),cA "law" VX 13 1 14 ["_law_script"] F P w K m b} :=
 ⟨_,λc o j l h p e q g i r d=>λt T=>yo (k:=12) rfl rfl t xN λaq A outer s H E a=>(ze (WI (wD (n:=2) rfl (zL (zX 1 xN.nd) (zL (zX 2 xN.nd) xi))) (aR l (za (dv 0) zf))) (ze (zR 3 xN.nd (xj (za (vi (dw 1) ay) (za (sJ (Yy rfl T.list_b (zj (sy (vi (dw 1) ay)) zx))) zf)))) (ze (zR 4 xN.nd (sJ (yF (own:=["_law_part","_law_kind"]) (frees:=[]) (caps:=[]) rfl (.of (by kernel_rfl)) rfl (Xl (xb z6 (xb z6 km))) (yG (dv 2)) (λcl C s H fp=>⟨(wD (n:=2) rfl (zL (cz 0) (zL (cz 1) xi))),(ji (vt a (dw 1) (sy vg))),(dv 0)⟩)))) (ze (zR 5 xN.nd (aR r (za (dv 3) zf))) (ze (xa (jh (uz (sy (aR j (za (vi (sy (vi (dw 2) ay)) ay) zf))))) (zo (zK CF)) z5) (ze (xa (WG (sy (yc yg yY rfl T.len_b (by rfl) (zj (dw 4) zx))) ay) (ze (xa (Ea (Uh (jh (uz (sy (VA JH (dw 5) rfl T.isinstance_b rfl T.tuple_b)))) (Vx (Yv a (dw 5) (sy (qp vx kH rfl T.tuple_b (by rfl) (zj (sy (vi (dw 4) ay)) zx))))))) (zo (zK CF)) z5) (ze (ui 6 xN.nd (own:=["_law_ask"]) (frees:=["_law_handed","_law_never_here"]) (caps:=[3,4]) rfl (.of (by kernel_rfl)) rfl z6 (vX rfl T.range_b (zj ay zx)) (λcl C s H fp=>⟨(cz 0),wa,(aR p (za (dv 0) (za (dv 1) (za (vi (dw 2) ay) zf))))⟩)) (zo (zK (Gd (Ce a (sy CF) (dw 6)) (Cd (CD a (dw 3) (dw 1)))))))) z5) (ze (zR 7 xN.nd (sJ (zF zf))) (ze (wC sY rfl (yG (dv 2)) (wD (n:=2) rfl (zL (zX 8 xN.nd) (zL (zX 9 xN.nd) xi))) (zo (zR 7 xN.nd (zS (dw 7) (sy (aR o (za (dv 9) zf))))))) (ze (zR 7 xN.nd (sJ (vW rfl T.sorted_b (zj (dw 7) zx)))) (ze (QW 10 c xN.nd i (za (dv 3) zf)) (ze (QW 11 c xN.nd g (za (dv 3) zf)) (ze (xa (Ea (Uh (jC (dw 5) (sy Ul)) (Uh (jh (uz (sy (Q4 10 (aR h (za (dv 10) (za (dv 7) zf))))))) (Vx (jh (uz (sy (Q4 11 (aR h (za (dv 11) (za (aR e (za (dv 7) zf)) zf))))))))))) (zo (zK CF)) z5) (ze (zR 12 xN.nd zU) (ze (wC sY rfl (yG (dv 7)) (zX 13 xN.nd) (zo (zR 12 xN.nd (Zg (dw 12) (dw 13))))) (ze (xa (Ea (Uh (jh (uz (sy (aR q (za (aR d (za (dv 3) zf)) zf))))) (Uh (Yv a (sy (aR d (za (dv 3) zf))) (dw 12)) (Vx (Yv a (sy (yc (YC rfl) Wz rfl T.sum_b (by rfl) (zj (dk 11) zx))) (dw 12)))))) (zo (zK CF)) z5) (ze (K7 10) (ze (xV 11 zU) (zo (zK (Gd (CD a (sy (aR i (za (dv 3) zf))) (dw 7)) (Gd (CD a (sy (aR g (za (dv 3) zf))) (sy (aR e (za (dv 7) zf)))) (Cd (CD a (dw 3) (dw 1))))))))))))))))))))))))⟩
noncomputable def g_law:=vE 14 Gq.1
end
theorem all_mk {l:W.OpenLaw} {w:sU} {K:sx} {h:Heap} {mg:Str->Option Value} {fa:Addr} (X:K.In h) (G:h.Ns sI mg) (hfa:mg "law"=some (.ref fa))
  (d0:Df K "turn_of" jO)
  (d1:Df K "neighbours" vK)
  (d2:Df K "without" jN)
  (d3:Df K "part_of" jP)
  (d4:Df K "parts" X3)
  (d5:Df K "chain_from" vM)
  (d6:Df K "chains" Z4)
  (d7:Df K "turns_along" vm)
  (d8:Df K "kind_of_chain" wx)
  (d9:Df K "kind_with_one_beside" yQ)
  (d10:Df K "kinds_by_chains" xE)
  (d11:Df K "all_by_three" wQ)
  (d12:Df K "kinds_by_ends" wu)
  (d13:Df K "kind_of" jV)
  (d14:Df K "kinds" X7)
  (d15:Df K "endless" jW)
  (d16:Df K "degrees_of_kind" xF)
  (d17:Df K "degrees" uX)
  (d18:Df K "size" W5)
  (d19:Df K "times_ones" vJ)
  (d20:Df K "counts" jx)
  (d21:Df K "_law_at" UO)
  (d22:Df K "_law_mix" X6)
  (d23:Df K "_law_whole" jQ)
  (d24:Df K "_law_chain" jT)
  (d25:Df K "_law_finite" zJ)
  (d26:Df K "_law_never" jR)
  (d27:Df K "_law_built" jU)
  (d28:Df K "_law_mixed" jS)
  (d29:Df K "_law_degrees" zW)
  (d30:Df K "_law_row" X5)
  (d31:Df K "_law_numbers" uD)
  (d32:Df K "_law_refused" uC)
  (d33:Df K "_law_made" Z2)
  (d34:Df K "law" VX)
  (b_ValueError:Ai K sI "ValueError"=some none)
  (b_all:Ai K sI "all"=some none)
  (b_bool:Ai K sI "bool"=some none)
  (b_enumerate:Ai K sI "enumerate"=some none)
  (b_int:Ai K sI "int"=some none)
  (b_isinstance:Ai K sI "isinstance"=some none)
  (b_len:Ai K sI "len"=some none)
  (b_list:Ai K sI "list"=some none)
  (b_max:Ai K sI "max"=some none)
  (b_min:Ai K sI "min"=some none)
  (b_range:Ai K sI "range"=some none)
  (b_sorted:Ai K sI "sorted"=some none)
  (b_str:Ai K sI "str"=some none)
  (b_sum:Ai K sI "sum"=some none)
  (b_tuple:Ai K sI "tuple"=some none)
  (b_zip:Ai K sI "zip"=some none)
  (q_0c:Ai K sI "COMMON_TURN"=some (some (.int 3 t_0c)))
  (q_1c:Ai K sI "NOT_TOLD"=some (some (.int 2 t_1c)))
  (q_2c:Ai K sI "NO_KIND"=some (some (.str "-" t_2c)))
  (q_3c:Ai K sI "RARE_CHAINS"=some (some (.ref mz)))
  (r_3c:K.lookup mz=some ⟨.type "dict",none,.dict #[⟨lI,.ref iY,.str "f4" vt_3c_0⟩,⟨lH,.ref iX,.str "h3" vt_3c_1⟩,⟨lG,.ref iW,.str "h4" vt_3c_2⟩,⟨lF,.ref iV,.str "i5" vt_3c_3⟩,⟨lE,.ref iU,.str "i6" vt_3c_4⟩] ep_3c,#[]⟩)
  (r_3c_0:K.lookup iY=some ⟨.type "tuple",od_3c_0,.seq #[.int 3 oD,.int 4 oA,.int 3 oy] n_3c_0,pK⟩)
  (r_3c_1:K.lookup iX=some ⟨.type "tuple",od_3c_1,.seq #[.int 3 ou,.int 5 oq] n_3c_1,pJ⟩)
  (r_3c_2:K.lookup iW=some ⟨.type "tuple",od_3c_2,.seq #[.int 3 oo,.int 3 om,.int 5 oj] n_3c_2,pI⟩)
  (r_3c_3:K.lookup iV=some ⟨.type "tuple",od_3c_3,.seq #[.int 5 oi] n_3c_3,pH⟩)
  (r_3c_4:K.lookup iU=some ⟨.type "tuple",od_3c_4,.seq #[.int 6 oh] n_3c_4,pG⟩)
  (kr_y_3c:(mz==x_)=false)
  (kr_z_3c_0:Ud [3,4,3]=lI)
  (kr_z_3c_1:Ud [3,5]=lH)
  (kr_z_3c_2:Ud [3,3,5]=lG)
  (kr_z_3c_3:Ud [5]=lF)
  (kr_z_3c_4:Ud [6]=lE)
  (q_4c:Ai K sI "RARE_DEGREES"=some (some (.ref mx)))
  (r_4c:K.lookup mx=some ⟨.type "dict",none,.dict #[⟨lC,.str "e6" kk_4c_0,.ref iT⟩,⟨lB,.str "f4" kk_4c_1,.ref iS⟩,⟨lA,.str "h3" kk_4c_2,.ref iR⟩,⟨ly,.str "h4" kk_4c_3,.ref iQ⟩,⟨lq,.str "i5" kk_4c_4,.ref iP⟩,⟨lj,.str "i6" kk_4c_5,.ref iO⟩] ep_4c,#[]⟩)
  (r_4c_0:K.lookup iT=some ⟨.type "tuple",od_4c_0,.seq #[.int 2 og,.int 5 oa,.int 6 n_,.int 8 n9,.int 9 n8,.int 12 n6] n_4c_0,pE⟩)
  (r_4c_1:K.lookup iS=some ⟨.type "tuple",od_4c_1,.seq #[.int 2 n5,.int 6 n0,.int 8 nZ,.int 12 nY] n_4c_1,pD⟩)
  (r_4c_2:K.lookup iR=some ⟨.type "tuple",od_4c_2,.seq #[.int 2 nX,.int 6 nW,.int 10 nV] n_4c_2,pA⟩)
  (r_4c_3:K.lookup iQ=some ⟨.type "tuple",od_4c_3,.seq #[.int 2 nU,.int 12 nS,.int 20 nR,.int 30 nQ] n_4c_3,pz⟩)
  (r_4c_4:K.lookup iP=some ⟨.type "tuple",od_4c_4,.seq #[.int 2 nP,.int 5 nO] n_4c_4,px⟩)
  (r_4c_5:K.lookup iO=some ⟨.type "tuple",od_4c_5,.seq #[.int 2 nN,.int 6 nM] n_4c_5,pw⟩)
  (kr_y_4c:(mx==x_)=false)
  (kr_z_4c_0:hashStr w "e6"=lC)
  (kr_z_4c_1:hashStr w "f4"=lB)
  (kr_z_4c_2:hashStr w "h3"=lA)
  (kr_z_4c_3:hashStr w "h4"=ly)
  (kr_z_4c_4:hashStr w "i5"=lq)
  (kr_z_4c_5:hashStr w "i6"=lj)
  (enN:Ai K sI "NoHouse"=some (some (.ref CN)))
  (enH:Ai K sI "HouseError"=some (some (.ref CH)))
  (enE:Ai K sI "Endless"=some (some (.ref bh)))
  (enT:Ai K sI "NoText"=some (some (.ref CT)))
  (enW:Ai K sI "NoWord"=some (some (.ref CW)))
  (enM:Ai K sI "TooMany"=some (some (.ref CM)))
  (elk:K.lookup bh=some ⟨.type "type",edd,.cls ⟨enm,ebs,.ref bh :: [.ref CH,.type "ValueError",.type "Exception",.type "BaseException",.type "object"],ens,eqn,true,esn,esub,eab,ecol,false⟩,#[ek0,ek1,ek2,ek3,some (.builtin "ValueError.__new__"),ek5]⟩)
  (eni:Ai K ens "__init__"=some (some (.ref fI)))
  (kr_eno:PySem.W.nsOkIn K ens=true)
  (kr_etl:PySem.W.tailIn K NN [.ref CH,.type "ValueError",.type "Exception",.type "BaseException",.type "object"]=true)
  (wl:K.lookup fI=some ⟨woc,wod,.func (W.fnOf "__init__" "Endless.__init__" (wF oE) (yw oE) (zi oE) .none wkV wdoc wpm wan wcdv wct),wosl⟩)
  (wc:W.codeIn K wcdv "Endless.__init__"=true)
  (wk:AI K (.ref fI)=true)
  (etf:Ec K (.ref fI)=some (.type "function"))
  (exs:Aq K (.ref bh) "__setattr__"=some (some (.builtin "object.__setattr__")))
  (exn:Aq K (.ref bh) "mirrors"=some none)
  (eg1E:Aq K (.ref bh) "__getattribute__"=some (some (.builtin "BaseException.__getattribute__")))
  (eg2E:Aq K (.ref bh) "__getattr__"=some none)
  (eg3E:Aq K (.ref bh) "__class__"=some (some (.builtin "object.__class__")))
  (eg4E:El K (.builtin "object.__class__") "__get__"=some (some (.builtin "getset_descriptor.__get__")))
  (eg5E:PySem.W.takesIn K (.builtin "object.__class__")=some true)
  (eg6E:Eu K bh (.type "object")=some true)
  (eg7E:Eu K bh (.type "BaseException")=some true)
  (eg8E:AU K bh=true)
  (kpE:AI K (.ref bh)=true)
  (eng:PySem.W.noGet K none=true)
  (ekt1:v_ K (.ref bh) (.ref CH)=some true)
  (ekt2:v_ K (.ref bh) (.ref bh)=some true)
  (ekt3:PySem.W.kitAny K (.ref bh) [.ref CN,.ref CT,.ref CW,.ref CM]=some false)
  (ekt4:v_ K (.ref bh) (.type "ValueError")=some true)
  (ec1:Ec K (.ref CH)=some (.type "type"))
  (ec2:AU K CH=true)
  (ec3:PySem.W.subIn K (.ref CH) (.type "BaseException")=some true)
  (ec4:PySem.W.subIn K (.ref bh) (.ref CH)=some true)
  (esp:El K (.ref CH) "__getattribute__"=some (some (.builtin "type.__getattribute__")))
  (erd:PySem.W.readsIn K CH (.type "type")=true)
  (efc:PySem.W.findCls K (.ref CH) (.type "type") "__init__"=some (.val (.builtin "ValueError.__init__")))
  (d99:Df K "_law_kept" Z3)
  (knl:Kv K=true)
  : ∃ fd:tU,(∀ (s:Shared) (v:Value),BindsTo s fd ⟨[v],[]⟩ [("_law_script",v)])/\∀ base:Heap,K.In base->base.Ns sI mg->FnOk l.prog w K mg base bF 13 fa fd ["_law_script"] (spF K 1 g_law):=by
 obtain ⟨f34,oc34,od34,an34,osl34,kV34,r9,pm34,se,ct34,a34,l34,c34,k34⟩:=d34
 have F34:=Xs l34 c34 k34
 have e:=hfa.symm.trans (AV X G a34)
 cases e
 have T:Txt w K mg:=⟨trivial,tK X G b_ValueError,tK X G b_all,tK X G b_bool,tK X G b_enumerate,tK X G b_int,tK X G b_isinstance,tK X G b_len,tK X G b_list,tK X G b_max,tK X G b_min,tK X G b_range,tK X G b_sorted,tK X G b_str,tK X G b_sum,tK X G b_tuple,tK X G b_zip,⟨_,AV X G q_0c⟩,⟨_,AV X G q_1c⟩,⟨_,AV X G q_2c⟩,QN (AV X G q_3c) r_3c kr_y_3c (.cons (ks:=[3,4,3]) (v:=.str "f4") kr_z_3c_0 r_3c_0 (.cons ⟨_,rfl⟩ (.cons ⟨_,rfl⟩ (.cons ⟨_,rfl⟩ .nil))) ⟨_,rfl⟩ (sR.mpr rfl) (.cons (ks:=[3,5]) (v:=.str "h3") kr_z_3c_1 r_3c_1 (.cons ⟨_,rfl⟩ (.cons ⟨_,rfl⟩ .nil)) ⟨_,rfl⟩ (sR.mpr rfl) (.cons (ks:=[3,3,5]) (v:=.str "h4") kr_z_3c_2 r_3c_2 (.cons ⟨_,rfl⟩ (.cons ⟨_,rfl⟩ (.cons ⟨_,rfl⟩ .nil))) ⟨_,rfl⟩ (sR.mpr rfl) (.cons (ks:=[5]) (v:=.str "i5") kr_z_3c_3 r_3c_3 (.cons ⟨_,rfl⟩ .nil) ⟨_,rfl⟩ (sR.mpr rfl) (.cons (ks:=[6]) (v:=.str "i6") kr_z_3c_4 r_3c_4 (.cons ⟨_,rfl⟩ .nil) ⟨_,rfl⟩ (sR.mpr rfl) .nil))))) (by decide),QO (AV X G q_4c) r_4c kr_y_4c (.cons (v:=.ref _) kr_z_4c_0 rfl (ug (xs:=[.int 2,.int 5,.int 6,.int 8,.int 9,.int 12]) r_4c_0 (show 6<=sizeLine from by decide) (.cons ⟨_,rfl⟩ (.cons ⟨_,rfl⟩ (.cons ⟨_,rfl⟩ (.cons ⟨_,rfl⟩ (.cons ⟨_,rfl⟩ (.cons ⟨_,rfl⟩ .nil)))))) (.cons (sA.mpr rfl) (.cons (sA.mpr rfl) (.cons (sA.mpr rfl) (.cons (sA.mpr rfl) (.cons (sA.mpr rfl) (.cons (sA.mpr rfl) .nil))))))) (.cons (v:=.ref _) kr_z_4c_1 rfl (ug (xs:=[.int 2,.int 6,.int 8,.int 12]) r_4c_1 (show 4<=sizeLine from by decide) (.cons ⟨_,rfl⟩ (.cons ⟨_,rfl⟩ (.cons ⟨_,rfl⟩ (.cons ⟨_,rfl⟩ .nil)))) (.cons (sA.mpr rfl) (.cons (sA.mpr rfl) (.cons (sA.mpr rfl) (.cons (sA.mpr rfl) .nil))))) (.cons (v:=.ref _) kr_z_4c_2 rfl (ug (xs:=[.int 2,.int 6,.int 10]) r_4c_2 (show 3<=sizeLine from by decide) (.cons ⟨_,rfl⟩ (.cons ⟨_,rfl⟩ (.cons ⟨_,rfl⟩ .nil))) (.cons (sA.mpr rfl) (.cons (sA.mpr rfl) (.cons (sA.mpr rfl) .nil)))) (.cons (v:=.ref _) kr_z_4c_3 rfl (ug (xs:=[.int 2,.int 12,.int 20,.int 30]) r_4c_3 (show 4<=sizeLine from by decide) (.cons ⟨_,rfl⟩ (.cons ⟨_,rfl⟩ (.cons ⟨_,rfl⟩ (.cons ⟨_,rfl⟩ .nil)))) (.cons (sA.mpr rfl) (.cons (sA.mpr rfl) (.cons (sA.mpr rfl) (.cons (sA.mpr rfl) .nil))))) (.cons (v:=.ref _) kr_z_4c_4 rfl (ug (xs:=[.int 2,.int 5]) r_4c_4 (show 2<=sizeLine from by decide) (.cons ⟨_,rfl⟩ (.cons ⟨_,rfl⟩ .nil)) (.cons (sA.mpr rfl) (.cons (sA.mpr rfl) .nil))) (.cons (v:=.ref _) kr_z_4c_5 rfl (ug (xs:=[.int 2,.int 6]) r_4c_5 (show 2<=sizeLine from by decide) (.cons ⟨_,rfl⟩ (.cons ⟨_,rfl⟩ .nil)) (.cons (sA.mpr rfl) (.cons (sA.mpr rfl) .nil))) .nil)))))) (by decide +kernel)⟩
 refine ⟨W.fnOf "law" "law" (wF VX) (yw VX) (zi VX) .none kV34 r9 pm34 an34 se ct34,λs v=>.of_eq rfl,λbase XB _=>?_⟩
 have EW:=Xs (st:=oE) wl wc wk
 have EB:=EW.binds (ps:=["self","mirrors"]) λ_ _ _ _ _ _=>YE (λ_ _=>rfl)
 have EO:=Dq XB elk kr_eno eni kr_etl
 have EX:XCls K bh CH "mirrors":=⟨exs,⟨_,Mb elk,rfl,rfl⟩,eg6E,eg7E,exn,eg1E,eg2E⟩
 have EZ:EndT K mg base bh CH fI _ NN "ValueError.__new__":=⟨EO,PySem.F.excBase_ValueError,EX,⟨eg1E,eg2E,eg3E,eg4E,eg5E,eg6E,eg7E,eg8E⟩,etf,EB,kpE,AV X G enE,AV X G enH,ekt1,eg8E,eng,PySem.F.attr_ValueError⟩
 have EF:FnOk l.prog w K mg base bF 1 fI _ ["self","mirrors"] (Gv K bh):=Nc EW EO PySem.F.excBase_ValueError EX (AV X G enH) T.list_b esp erd efc
 have EU:FourT K mg bh CN CT CW CM:=⟨AV X G enN,AV X G enT,AV X G enW,AV X G enM,ekt2,ekt3,ekt4⟩
 have q:∀ {x:Str} {st:Stmt} {k n:Nat} {ps:List Str} {g:List D->Option D},Df K x st->(∀ {f:Addr} {fd:tU},Fun K x x st f fd->FnOk l.prog w K mg base bF k f fd ps (spF K n g))->(∀ (kV doc pm:Value) (an:Option Addr) (aq ct:Value) (us:List Value),us.length=ps.length->bindArgs (W.fnOf x x (wF st) (yw st) (zi st) .none kV doc pm an aq ct) ⟨us,[]⟩=pure (ps.zip us))->HasFn l.prog w K mg base k x n g:=λd o b=>lK X G d o b
 have H0:=q d0 (λF=>kX.2  F T) (λ_ _ _ _ _ _=>Mw (λ_ _ _=>rfl))
 have H1:=q d1 (λF=>ua.2 H0 F T) (λ_ _ _ _ _ _=>Mw (λ_ _ _=>rfl))
 have H2:=q d2 (λF=>kW.2  F T) (λ_ _ _ _ _ _=>YE (λ_ _=>rfl))
 have H3:=q d3 (λF=>kY.2 H1 H2 F T) (λ_ _ _ _ _ _=>YE (λ_ _=>rfl))
 have H4:=q d4 (λF=>WU.2 H3 F T) (λ_ _ _ _ _ _=>YK (λ_=>rfl))
 have H5:=q d5 (λF=>uc.2 H1 H2 F T) (λ_ _ _ _ _ _=>Mw (λ_ _ _=>rfl))
 have H6:=q d6 (λF=>YH.2 H5 F T) (λ_ _ _ _ _ _=>YE (λ_ _=>rfl))
 have H7:=q d7 (λF=>vy.2 H0 F T) (λ_ _ _ _ _ _=>YE (λ_ _=>rfl))
 have H8:=q d8 (λF=>wI.2  F T) (λ_ _ _ _ _ _=>YK (λ_=>rfl))
 have H9:=q d9 (λF=>yR.2  F T) (λ_ _ _ _ _ _=>YE (λ_ _=>rfl))
 have H10:=q d10 (λF=>xJ.2 H6 H8 H7 F T) (λ_ _ _ _ _ _=>YE (λ_ _=>rfl))
 have H11:=q d11 (λF=>wW.2  F T) (λ_ _ _ _ _ _=>YE (λ_ _=>rfl))
 have H12:=q d12 (λF=>wH.2 H11 H6 H9 H1 H2 F T) (λ_ _ _ _ _ _=>YE (λ_ _=>rfl))
 have H13:=q d13 (λF=>k9.2 H10 H12 F T) (λ_ _ _ _ _ _=>YE (λ_ _=>rfl))
 have H14:=q d14 (λF=>WX.2 H13 H4 F T) (λ_ _ _ _ _ _=>YK (λ_=>rfl))
 have H15:=q d15 (λF=>ub.2 H14 F T) (λ_ _ _ _ _ _=>YK (λ_=>rfl))
 have H16:=q d16 (λF=>yq.2  F T) (λ_ _ _ _ _ _=>YE (λ_ _=>rfl))
 have sr:=q d17 (λF=>Za.2 H16 H15 H14 F T) (λ_ _ _ _ _ _=>YK (λ_=>rfl))
 have cE:=Np (C:=bh) X G d17 (λF=>qx.2 F T EZ EF H16 H15 H14 ) (λ_ _ _ _ _ _=>YK (λ_=>rfl))
 have H18:=q d18 (λF=>Jy.2 sr F T) (λ_ _ _ _ _ _=>YK (λ_=>rfl))
 have lV:=Np (C:=bh) X G d18 (λF=>VH.2 F T EZ EF sr cE) (λ_ _ _ _ _ _=>YK (λ_=>rfl))
 have H19:=q d19 (λF=>v8.2  F T) (λ_ _ _ _ _ _=>YE (λ_ _=>rfl))
 have H20:=q d20 (λF=>YG.2 sr H19 F T) (λ_ _ _ _ _ _=>YK (λ_=>rfl))
 have gy:=Np (C:=bh) X G d20 (λF=>jD.2 F T EZ EF sr H19 cE) (λ_ _ _ _ _ _=>YK (λ_=>rfl))
 have H21:=q d21 (λF=>VJ.2  F T) (λ_ _ _ _ _ _=>YE (λ_ _=>rfl))
 have H22:=q d22 (λF=>WW.2  F T) (λ_ _ _ _ _ _=>YE (λ_ _=>rfl))
 have H23:=q d23 (λF=>kZ.2  F T) (λ_ _ _ _ _ _=>YK (λ_=>rfl))
 have H24:=q d24 (λF=>k6.2  F T) (λ_ _ _ _ _ _=>YK (λ_=>rfl))
 have H25:=q d25 (λF=>Wg F T H24) (λ_ _ _ _ _ _=>YE (λ_ _=>rfl))
 have H26:=q d26 (λF=>qz.2 H24 F T) (λ_ _ _ _ _ _=>YE (λ_ _=>rfl))
 have H27:=q d27 (λF=>k7.2 H21 H25 H22 H26 F T) (λ_ _ _ _ _ _=>YK (λ_=>rfl))
 have H28:=q d28 (λF=>qA.2 H27 H22 F T) (λ_ _ _ _ _ _=>YK (λ_=>rfl))
 have H29:=q d29 (λF=>Xd F T ) (λ_ _ _ _ _ _=>YK (λ_=>rfl))
 have H30:=q d30 (λF=>WV.2  F T) (λ_ _ _ _ _ _=>YK (λ_=>rfl))
 have H31:=q d31 (λF=>uN.2 H23 F T) (λ_ _ _ _ _ _=>YE (λ_ _=>rfl))
 obtain ⟨fK,fdK,FK,mK,kK,bK⟩:=PX X G d99 (λF=>Qj F (AV X G enH) ⟨ec1,ec2,ec3,ec4⟩ (cE.mono (k:=10) (by decide)) (gy.mono (k:=10) (by decide)) (lV.mono (k:=10) (by decide))) (λ_ _ _ _ _ _=>YE (λ_ _=>rfl))
 have H32:=q d32 (λF=>Xc F EZ EU T.isinstance_b T.ValueError_b FK mK kK bK (H31.mono (by decide))) (λ_ _ _ _ _ _=>Mw (λ_ _ _=>rfl))
 have H33:=q d33 (λF=>Qi F EZ T.list_b T.isinstance_b EF H31) (λ_ _ _ _ _ _=>YK (λ_=>rfl))
 exact Gq.2 knl H29 H33 H28 H31 H32 H30 H23 H20 sr H15 H18 F34 T
open GH
def mQ   : aE (.tup (x :: l)) (.int 0)=some x:=by simp [aE,atI,dI]
def pV   : aE (.tup (x :: y :: l)) (.int 1)=some y:=by
 have h:=uK (xs:=x :: y :: l) (j:=1) (v:=y) rfl
 exact h
def He (ns:List Int) (k:Nat) (a:k<=100):∃ c,kG [.lst (ns.map D.int),.int k]=some (.int c):=by
 by_cases h:k < ns.length
 .have e:aE (.lst (ns.map D.int)) (.int (k:Int))=some (.int (ns.getD k 0)):=uK (by simp [fL,h])
  have h':(k:Int) < (ns.length:Int):=by omega
  exact ⟨ns.getD k 0,by simp [kG,VJ,h',e]⟩
 .have h':¬ ((k:Int) < (ns.length:Int)):=by omega
  have m:YI (.int 17) (.int (k:Int))=some (.int (17 * k)):=uF (qK (by decide) (by decide))
  exact ⟨17 * k+9,by simp [kG,VJ,h',m]⟩
def Wi (c:Int) (k:Nat) (j:k<=1000):∃ z:Int,0<=z/\z < 2147483648/\wV [.int c,.int k]=some (.int z):=by
 have l:(0:Int)<=(k:Int) * k:=Int.mul_nonneg (by omega) (by omega)
 have h1:(k:Int) * k<=1000 * 1000:=Int.mul_le_mul (by omega) (by omega) (by omega) (by omega)
 have f:YI (.int 8) (.int (k:Int))=_:=uF (qK (by omega) (by omega))
 have e:YI (.int (8 * (k:Int))) (.int (k:Int))=_:=uF (qK (by omega) (by omega))
 have h:=xg (i:=c) (show (0:Int) < 2147483629 by decide)
 have a:YI (.int (c % 2147483629+k+1)) (.int (8 * (k:Int) * k+48271))=_:=uF (qK (by omega) (by omega))
 have b:=xg (i:=(c % 2147483629+k+1) * (8 * (k:Int) * k+48271)) (show (0:Int) < 2147483647 by decide)
 generalize ex:(c % 2147483629+k+1) * (8 * (k:Int) * k+48271)=x at a b
 have d:YI (.int (x % 2147483647)) (.int (x % 2147483647))=_:=uF (qK (by omega) (by omega))
 have g:=xg (i:=(x % 2147483647) * (x % 2147483647)) (show (0:Int) < 2147483587 by decide)
 refine ⟨(x % 2147483647) * (x % 2147483647) % 2147483587,by omega,by omega,?_⟩
 simp only [wV,WW,yu,zP,aH,bq,aM,aN,Nat.reduceAdd,Nat.reduceSub,aL,bD,bu,zt,zQ,zk,zT,yC,au,aw,ak,h,uu,f,e,a,b,aK,aJ,ye,d,g,y4]
theorem YO (h) (i j a b:Int):∀ ts s1 s2 e,∃ o,ym (jj 3 (yh (zO 5) (yh (zO 6) (yh (zO 7) kh)))) (cn (Us (aO (zd bt (vF 5) (vF 3))) (aO (zd bt (vF 6) (vF 4)))) (qH (vF 7)) cK) (ts.map tD)
  [.fr h,.fr (.int i),.fr (.int j),.fr (.int (cL i j)),.fr (.int (c5 i j)),s1,s2,e]=some o/\Zr ((some o).bind λo=>match o with | .nx ρ'=>qH (cF (.int 2)) ρ' | o=>some o)=some (.int (zw ts i j))
 | [],s1,s2,e=>⟨_,rfl,rfl⟩
 | t :: ts,s1,s2,e=>by
  obtain ⟨o,h1,h2⟩:=YO h i j a b ts (.fr (.int t.1)) (.fr (.int t.2.1)) (.fr (.int t.2.2))
  rw [aH]
  unfold ym zw
  by_cases c:t.1=cL i j
  .by_cases d:t.2.1=c5 i j
   .exact ⟨.rt (.int t.2.2),by simp [tD,c,d],by simp [c,d]⟩
   .refine ⟨o,?_,by simpa [d] using h2⟩
    simp [tD,c,d] at h1 ⊢
    exact h1
  .refine ⟨o,?_,by simpa [c] using h2⟩
   simp [tD,c] at h1 ⊢
   exact h1
def WZ (n) (ts:List T3) (i j:Int):ve [zc n ts,.int i,.int j]=some (.int (zw ts i j)):=by
 obtain ⟨o,h1,h2⟩:=YO (zc n ts) i j 0 0 ts .no .no .no
 have e:aE (zc n ts) (.int 1)=some (.lst (ts.map tD)):=by unfold zc; exact pV
 simp [ve,kX,e,aL] at h2 ⊢
 unfold cL c5 at h1
 simp at h1
 rw [h1]
 exact h2
def aT (h:n<=100):n<=sizeLine:=Nat.le_of_lt (xM (by omega))
theorem Gg      {ι:α->D} {nm:α->List Slot} {q:α->Bool} {φ:α->D}
  (d:∀ a (pre:List Slot),pre.length=k->γ (ι a) (pre++C)=some (nm a++C)) (g:∀ a,(nm a).length=k):∀ (l:List α),(∀ a∈l,ft (nm a++C)=some (q a))->(∀ a∈l,q a=true->f (nm a++C)=some (φ a))->∀ pre:List Slot,pre.length=k →
  yT γ ft f (l.map ι) (pre++C)=some ((l.filter q).map φ)
 | [],_,_,_,_=>rfl
 | a :: l,ht,hf,pre,i=>by
  have h:=Gg d g l (λb e=>ht b (br _ e)) (λb e=>hf b (br _ e)) (nm a) (g a)
  rw [aH]
  unfold yT
  rw [d a pre i,ak,ht a ba,ak,h]
  cases c:q a with
  | true=>rw [if_pos rfl,hf a ba c,g2t c]; rfl
  | false=>rw [if_neg (by simp),g2u (by simp [c])]
def Zz     {ι:α->D} {q:α->Bool} {φ:α->D} (l:List α) (s:Slot) (ht:∀ a∈l,ft (.fr (ι a) :: C)=some (q a)) (c:∀ a∈l,q a=true->f (.fr (ι a) :: C)=some (φ a)) :
  yT (zO 0) ft f (l.map ι) (s :: C)=some ((l.filter q).map φ) :=
 Gg (nm:=λa=>[.fr (ι a)]) (k:=1) (λa pre b=>by
  match pre,b with
  | [x],_=>rfl) (λ_=>rfl) l ht c [s] rfl
def vA    {ι:α->D} {φ:α->D} (l:List α) (s:Slot) (hf:∀ a∈l,f (.fr (ι a) :: C)=some (φ a)) :
  yT (zO 0) eG f (l.map ι) (s :: C)=some (l.map φ):=by
 have:=Zz (ft:=eG) (q:=λ_=>true) l s (λ_ _=>rfl) (λa ha _=>hf a ha)
 rwa [List.filter_eq_self.mpr (λ_ _=>rfl)] at this
def VB     {ι κ:α->D} {q:α->Bool} {φ:α->D} (l:List α) (s s':Slot) (ht:∀ a∈l,ft (.fr (ι a) :: .fr (κ a) :: C)=some (q a)) (c:∀ a∈l,q a=true->f (.fr (ι a) :: .fr (κ a) :: C)=some (φ a)) :
  yT (jj 2 (yh (zO 0) (yh (zO 1) kh))) ft f (l.map λa=>.tup [ι a,κ a]) (s :: s' :: C)=some ((l.filter q).map φ) :=
 Gg (nm:=λa=>[.fr (ι a),.fr (κ a)]) (k:=2) (λa pre b=>by
  match pre,b with
  | [x,y],_=>rfl) (λ_=>rfl) l ht c [s,s'] rfl
def Ha     {ι κ μ:α->D} {q:α->Bool} {φ:α->D} (l:List α) (s s' b:Slot) (ht:∀ a∈l,ft (.fr (ι a) :: .fr (κ a) :: .fr (μ a) :: C)=some (q a)) (d:∀ a∈l,q a=true->f (.fr (ι a) :: .fr (κ a) :: .fr (μ a) :: C)=some (φ a)) :
  yT (jj 3 (yh (zO 0) (yh (zO 1) (yh (zO 2) kh)))) ft f (l.map λa=>.tup [ι a,κ a,μ a]) (s :: s' :: b :: C)=some ((l.filter q).map φ) :=
 Gg (nm:=λa=>[.fr (ι a),.fr (κ a),.fr (μ a)]) (k:=3) (λa pre c=>by
  match pre,c with
  | [x,y,z],_=>rfl) (λ_=>rfl) l ht d [s,s',b] rfl
abbrev lD (l:List Int):D:=.lst (l.map D.int)
def Qm (n) (ts:List T3) (x:Int) (l:List Int) (a:l.length<=100):yn [zc n ts,.int x,lD l]=some (lD (bo (zw ts) x l)):=by
 have e:=Zz (ft:=Us (aO (zd fk (vF 0) (vF 1))) (aO (zd fk (ya ve (zb (vF 2) (zb (vF 1) (zb (vF 0) zp)))) (cF (.int 2))))) (f:=vF 0) (C:=[.fr (.int x),.fr (zc n ts)]) (ι:=D.int) (q:=λo=>decide (o≠x)&&decide (zw ts x o≠2)) (φ:=D.int) l .no
  (λo _=>by
   by_cases c:o=x
   .simp [c]
   .by_cases b:zw ts x o=2 <;> simp [c,b,WZ]) (λo _ _=>rfl)
 have hz:(l.map D.int).length<=sizeLine:=by rw [aC]; exact aT a
 simp only [yn,ua,yu,zP,ye,zr,yv,zE,zT,aH,bq,aM,aN,Nat.reduceAdd,Nat.reduceSub,aL,cO,au,aw,ak,yA,if_pos hz,yK,wZ,bD,bu,e,bg,y4]
 rfl
def WY (l) (x:Int) (a:l.length<=100):wz [lD l,.int x]=some (lD (a_ l x)):=by
 have e:=Zz (ft:=aO (zd fk (vF 0) (vF 1))) (f:=vF 0) (C:=[.fr (.int x)]) (ι:=D.int) (q:=λo=>decide (o≠x)) (φ:=D.int) l .no
  (λo _=>by
   by_cases c:o=x <;> simp [c]) (λo _ _=>rfl)
 have hz:(l.map D.int).length<=sizeLine:=by rw [aC]; exact aT a
 simp only [wz,kW,yu,zP,ye,zr,yv,zE,zT,aH,bq,aM,aN,Nat.reduceAdd,Nat.reduceSub,aL,cO,au,aw,ak,yA,if_pos hz,yK,wZ,bD,bu,e,bg,y4]
 rfl
def Yc (t) (x:Int) (left:List Int):(bo t x left).length+(left.filter λo=>decide (o∉bo t x left)).length=left.length:=by
 have b:∀ o∈left,(decide (o∉bo t x left)) = !(decide (o≠x)&&decide (t x o≠2)):=λo a=>by
  have:o∈bo t x left↔(decide (o≠x)&&decide (t x o≠2))=true:=by
   unfold bo; rw [e_]; exact ⟨λz=>z.2,λz=>⟨a,z⟩⟩
  cases c:(decide (o≠x)&&decide (t x o≠2)) with
  | true=>rw [c] at this; simpa using this
  | false=>rw [c] at this; simpa using this
 rw [En b,<- bX]
 exact (List.filter_append_perm _ _).length_eq
def Ct (l:List Int) (x:Int):((l.map D.int).any λd=>bT d (.int x))=decide (x∈l):=by
 rw [Bool.eq_iff_iff,rN,decide_eq_true_iff]
 constructor
 .rintro ⟨d,hd,e⟩
  obtain ⟨y,a,rfl⟩:=eW.mp hd
  have:y=x:=by simpa [bT] using e
  exact this ▸ a
 .intro h
  exact ⟨.int x,rP h,wM _⟩
def Q3 (l:List Int):qD (l.map D.int)<=100:=kM λd hd=>by
 obtain ⟨x,_,rfl⟩:=eW.mp hd
 exact fo _
def QJ (b) (l:List Int) (x:Int):inD b (.int x) (lD l)=some (.bl (xor b (decide (x∈l)))):=by
 show (if qD (l.map D.int)<=100 then some (D.bl (xor b ((l.map D.int).any λd=>bT d (.int x)))) else none)=_
 rw [if_pos (Q3 l),Ct]
def KD (near left:List Int) (a:left.length<=100) (s:Slot):(if (left.map D.int).length<=sizeLine then yT (zO 0) (aO (zd (inD true) (vF 0) (vF 1))) (vF 0) (left.map D.int) [s,.fr (lD near)] else none)=some ((left.filter λo=>decide (o∉near)).map D.int):=by
 rw [if_pos (by rw [aC]; exact aT a)]
 exact Zz (C:=[.fr (lD near)]) (ι:=D.int) (q:=λo=>decide (o∉near)) (φ:=D.int) left s (λo _=>by
  by_cases c:o∈near <;> simp [QJ,c]) (λo _ _=>rfl)
abbrev pC:FT:=aO (zd pT (vF 4) (ya jA (zb (vR 2) zp)))
noncomputable abbrev pB:FS:=xB (vk 5 (ya yn (zb (vF 0) (zb (zd aE (vR 2) (vF 4)) (zb (vF 3) zp))))) (xB (vU 2 (vF 5)) (xB (vk 3 (zg (vD 1 [5] (yz (vF 3)) (zO 0) (aO (zd (inD true) (vF 0) (vF 1))) (vF 0)))) (Mt 4 (λi j=>i+j) (cF (.int 1)))))
def Qb (n) (ts:List T3) (x:Int) (part left:List Int) (p:Nat) (a:Slot) (y:Int) (h:part[p]? = some y) (hz:part.length+left.length<=50) :
  pB [.fr (zc n ts),.fr (.int x),.ol (part.map D.int),.fr (lD left),.fr (.int p),a]=some (.nx [.fr (zc n ts),.fr (.int x),.ol ((part++bo (zw ts) y left).map D.int),.fr (lD (left.filter λo=>decide (o∉bo (zw ts) y left))),.fr (.int ((p+1:Nat):Int)),.fr (lD (bo (zw ts) y left))]):=by
 have h1:aE (.lst (part.map D.int)) (.int (p:Int))=some (.int y):=uK (by rw [dX,h]; rfl)
 have h2:=Qm n ts y left (by omega)
 have c:=KD (bo (zw ts) y left) left (by omega) .no
 have d:=Yc (zw ts) y left
 have b:(part.map D.int).length+((bo (zw ts) y left).map D.int).length<=sizeLine:=by rw [aC,aC]; exact aT (by omega)
 simp only [pB,zt,zQ,zG,zh,zm,zT,UL,zk,au,aw,ak,h1,h2,aK,aJ,uW,if_pos b,zr,yv,zE,yA,yK,aH,bq,wZ,aL,bD,bu,c,bg,Mt,yC,gC]
 rfl
theorem Y8 (n) (ts:List T3) (x:Int):∀ (k N) (part left) (p:Nat) (s5),part.length+left.length<=k+p->k < N->part.length+left.length<=50 →
  ∃ b a c,yS pC pB N [.fr (zc n ts),.fr (.int x),.ol (part.map D.int),.fr (lD left),.fr (.int p),s5]=some (.nx [.fr (zc n ts),.fr (.int x),.ol ((kS (zw ts) k part left p).map D.int),b,a,c])
 | k,0,part,left,p,s5,h1,h2,f=>by omega
 | k,N+1,part,left,p,s5,h1,h2,f=>by
  have d:pC [.fr (zc n ts),.fr (.int x),.ol (part.map D.int),.fr (lD left),.fr (.int p),s5]=some (decide ((p:Int) < (part.length:Int))):=by
   simp only [pC,yB,zk,zT,zG,zh,zm,UL,au,aw,ak,vL,NV,aC]
  have stop:part.length<=p->yS pC pB (N+1) [.fr (zc n ts),.fr (.int x),.ol (part.map D.int),.fr (lD left),.fr (.int p),s5]=some (.nx [.fr (zc n ts),.fr (.int x),.ol (part.map D.int),.fr (lD left),.fr (.int p),s5]):=λh=>by
   unfold yS
   rw [d,decide_eq_false (by omega)]
   rfl
  match k with
  | 0=>exact ⟨_,_,_,stop (by omega)⟩
  | k+1 =>
   cases e:part[p]? with
   | none =>
    have:=List.getElem?_eq_none_iff.mp e
    unfold kS
    rw [e]
    exact ⟨_,_,_,stop this⟩
   | some y =>
    have h:p < part.length:=(gE.mp e).1
    have i:=Yc (zw ts) y left
    obtain ⟨b,a,c,g⟩:=Y8 n ts x k N (part++bo (zw ts) y left) (left.filter λo=>decide (o∉bo (zw ts) y left)) (p+1) (.fr (lD (bo (zw ts) y left))) (by rw [bX]; omega) (by omega) (by rw [bX]; omega)
    refine ⟨b,a,c,?_⟩
    unfold kS yS
    rw [d,decide_eq_true (by omega),e]
    show (pB _).bind _=_
    rw [Qb n ts x part left p s5 y e f]
    exact g
def vN (n:Nat):yt 0 (n:Int)=(idx n).map D.int:=by
 unfold yt idx
 rw [cN,show ((n:Int) - 0).toNat=n by omega]
 exact mq λk _=>by simp
def xu (n):(idx n).length=n:=by simp [idx]
set_option tactic.hygienic true in
theorem Js (t):∀ k part left p,(kS t k part left p).length<=part.length+left.length
 | 0,part,left,p=>by unfold kS; omega
 | k+1,part,left,p=>by
  unfold kS
  split
  .omega
  .rename_i x _
   have:=Js t k (part++bo t x left) (left.filter λo=>decide (o∉bo t x left)) (p+1)
   have a:=Yc t x left
   rw [bX] at this
   omega
def CO (a:x∈idx n):(a_ (idx n) x).length+1=n:=by
 have h:=(w8 n)
 have:(([x]:List Int)++a_ (idx n) x).Perm (idx n):=by
  refine uE ?_ h λy=>?_
  .rw [g2z,nq]
   refine ⟨λz=>?_,h.filter _⟩
   unfold a_ at z
   simpa using (e_.mp z).2
  .rw [g2z,aQ]
   unfold a_
   rw [e_]
   constructor
   .rintro (rfl | z)
    .exact a
    .exact z.1
   .intro z
    by_cases c:y=x
    .exact .inl c
    .exact .inr ⟨z,decide_eq_true c⟩
 have:=this.length_eq
 rw [bX,xu,iJ] at this
 omega
def ju (h:fa ρ=some [lD l]) (a:l.length < 64):VR fa ρ=some ((yd l).map D.int):=by
 rw [HB,h]
 show (x9 (l.map D.int)).bind _=_
 rw [vc,ak,if_pos a]
def Kj (n) (ts:List T3) (x:Int) (j:n<=40) (d:x∈idx n):qh [zc n ts,.int x]=some (lD (yd (uv (zw ts) n x))):=by
 have i:=CO d
 obtain ⟨c,b,a,h⟩:=Y8 n ts x n 100000 [x] (a_ (idx n) x) 0 .no (by simp; omega) (by omega) (by simp; omega)
 have g:aE (zc n ts) (.int 0)=some (.int n):=by unfold zc; exact mQ
 have h1:(if -(2 ^ 62)<=(n:Int)/\(n:Int)<=1000000 then some (yt 0 (n:Int)) else none)=some ((idx n).map D.int):=by rw [if_pos (by omega),vN]
 have h2:=WY (idx n) x (by rw [xu]; omega)
 have e:=Js (zw ts) n [x] (a_ (idx n) x) 0
 have f:=ju (fa:=zb (vR 2) zp) (ρ:=[.fr (zc n ts),.fr (.int x),.ol ((kS (zw ts) n [x] (a_ (idx n) x) 0).map D.int),c,b,a]) (l:=kS (zw ts) n [x] (a_ (idx n) x) 0) rfl (by simp at e; omega)
 have hz:1<=sizeLine:=aT (by omega)
 simp only [qh,kY,yu,zP,aH,bq,aM,aN,Nat.reduceAdd,Nat.reduceSub,aL,bD,bu,zt,w5,y6,zh,zm,zT,au,aw,ak,if_pos hz,aK,aJ,zQ,zG,zr,J0,zk,yC,g,h1,h2,bg]
 have h:yS pC pB 100000 [.fr (zc n ts),.fr (.int x),.ol [.int x],.fr (lD (a_ (idx n) x)),.fr (.int 0),.no]=_:=h
 rw [h]
 simp only [ak,ye,zr,f,bg,y4]
 rfl
abbrev cC:FT:=aO (zd dW (ya jA (zb (vF 4) zp)) (cF (.int 0)))
noncomputable abbrev cB:FS:=xB (vk 5 (ya yn (zb (vF 0) (zb (zd aE (vR 3) (WO Mo (cF (.int 1)))) (zb (vF 4) zp))))) (xB (cn (aO (zd fk (ya jA (zb (vF 5) zp)) (cF (.int 1)))) (qH (cF .non)) cK) (xB (xy 3 (zd aE (vF 5) (cF (.int 0)))) (vk 4 (ya wz (zb (vF 4) (zb (zd aE (vF 5) (cF (.int 0))) zp))))))
def Cr (pre) (x:Int):aE (.lst ((pre++[x]).map D.int)) (.int (-1))=some (.int x):=by
 have e:aE (.lst ((pre++[x]).map D.int)) (.int (-1))=atI ((pre++[x]).map D.int) (-1):=rfl
 rw [e]
 unfold atI dI
 simp
 rw [if_pos (by omega)]
 have e2:(-1+((pre.length:Int)+1)).toNat=pre.length:=by omega
 rw [ak,e2]
 simp
def Hh (h:y∈l):(a_ l y).length < l.length:=by
 unfold a_
 have:=List.length_filter_lt_length_iff_exists (p:=λo=>decide (o≠y)) (l:=l)
 exact this.mpr ⟨y,h,by simp⟩
def Bi:Option (List Int)->Option D
 | some o=>some (lD o)
 | none=>some .non
theorem ZD (n) (ts:List T3) (ms:D) (f:D):∀ k N pre x left a,left.length<=k->k < N->pre.length+left.length<=50 →
  (∃ c g,∃ o,chG (zw ts) k x left=some o/\yS cC cB N [.fr (zc n ts),.fr ms,.fr f,.ol ((pre++[x]).map D.int),.fr (lD left),a]=some (.nx [.fr (zc n ts),.fr ms,.fr f,.ol ((pre++x :: o).map D.int),c,g])) ∨
  (chG (zw ts) k x left=none/\yS cC cB N [.fr (zc n ts),.fr ms,.fr f,.ol ((pre++[x]).map D.int),.fr (lD left),a]=some (.rt .non))
 | k,0,pre,x,left,a,h1,h2,v=>by omega
 | k,N+1,pre,x,left,a,h1,h2,v=>by
  have d:cC [.fr (zc n ts),.fr ms,.fr f,.ol ((pre++[x]).map D.int),.fr (lD left),a]=some (decide ((0:Int) < (left.length:Int))):=by
   simp only [cC,yB,zk,zT,zG,zh,zm,au,aw,ak,vL,HF,aC,yC]
  by_cases e:left=[]
  .subst e
   refine .inl ⟨.fr (lD []),a,[],by cases k <;> rfl,?_⟩
   unfold yS
   rw [d]
   rfl
  .have w:0 < left.length:=g3f.mpr e
   match k with
   | 0=>omega
   | k+1 =>
    have q:=Qm n ts x left (by omega)
    have s:=Cr pre x
    have a1:vk 5 (ya yn (zb (vF 0) (zb (zd aE (vR 3) (WO Mo (cF (.int 1)))) (zb (vF 4) zp)))) [.fr (zc n ts),.fr ms,.fr f,.ol ((pre++[x]).map D.int),.fr (lD left),a]=some (.nx [.fr (zc n ts),.fr ms,.fr f,.ol ((pre++[x]).map D.int),.fr (lD left),.fr (lD (bo (zw ts) x left))]):=by
     simp only [zQ,zG,zh,zm,zT,UL,zk,Z5,yC,MR,au,aw,ak,s,q,aK,aJ]
    have a2:∀ l:List Int,aO (zd fk (ya jA (zb (vF 5) zp)) (cF (.int 1))) [.fr (zc n ts),.fr ms,.fr f,.ol ((pre++[x]).map D.int),.fr (lD left),.fr (lD l)]=some (!decide ((l.length:Int)=1)):=λl=>by
     simp only [yB,zk,zG,zh,zm,zT,yC,au,aw,ak,vL,aC,C5]
    have b:(bo (zw ts) x left).length≠1->yS cC cB (N+1) [.fr (zc n ts),.fr ms,.fr f,.ol ((pre++[x]).map D.int),.fr (lD left),a]=some (.rt .non):=λB=>by
     unfold yS
     rw [d,decide_eq_true (by omega)]
     show (cB _).bind _=_
     unfold cB
     rw [zt,a1]
     show (xB _ _ _).bind _=_
     rw [zt,yD,a2,decide_eq_false (by omega)]
     rfl
    unfold chG
    rw [if_neg e]
    cases h:bo (zw ts) x left with
    | nil=>exact .inr ⟨rfl,b (by rw [h]; simp)⟩
    | cons y r =>
     cases r with
     | cons z r=>exact .inr ⟨rfl,b (by rw [h]; simp)⟩
     | nil =>
      have m:y∈left:=Yd (t:=zw ts) (x:=x) (by rw [h]; exact ba)
      have p:=WY left y (by omega)
      have A:=Hh m
      have hz:((pre++[x]).map D.int).length < sizeLine:=by
       rw [aC,bX,iJ]; exact xM (by omega)
      have j:aE (lD [y]) (.int 0)=some (.int y):=by simp [aE,atI,dI]
      have st:cB [.fr (zc n ts),.fr ms,.fr f,.ol ((pre++[x]).map D.int),.fr (lD left),a]=some (.nx [.fr (zc n ts),.fr ms,.fr f,.ol (((pre++[x])++[y]).map D.int),.fr (lD (a_ left y)),.fr (lD [y])]):=by
       unfold cB
       rw [zt,a1,h,ak]
       dsimp only
       rw [zt,yD,a2]
       simp only [iJ,decide_true,lM,ak,cM,if_false,xD,zt,wy,zk,zT,yC,au,aw,j,if_pos hz,aK,aJ,zQ,zG,zh,zm,p,Int.ofNat_one]
       rw [gC (l₁:=pre++[x])]
       rfl
      have i:∀ R,yS cC cB N [.fr (zc n ts),.fr ms,.fr f,.ol (((pre++[x])++[y]).map D.int),.fr (lD (a_ left y)),.fr (lD [y])]=R->yS cC cB (N+1) [.fr (zc n ts),.fr ms,.fr f,.ol ((pre++[x]).map D.int),.fr (lD left),a]=R:=λR u=>by
       unfold yS
       rw [d,decide_eq_true (by omega)]
       show (cB _).bind _=_
       rw [st]
       exact u
      rcases ZD n ts ms f k N (pre++[x]) y (a_ left y) (.fr (lD [y])) (by omega) (by omega) (by rw [bX,iJ]; omega) with ⟨c,g,o,e1,e2⟩ | ⟨e1,e2⟩
      .refine .inl ⟨c,g,y :: o,by show A2 (y :: ·) (chG (zw ts) k y (a_ left y))=_; rw [e1]; rfl,i _ ?_⟩
       rw [e2]
       simp
      .exact .inr ⟨by show A2 (y :: ·) (chG (zw ts) k y (a_ left y))=_; rw [e1]; rfl,i _ e2⟩
def Je (n) (ts:List T3) (ms:List Int) (f:Int) (c:ms.length<=40):xU [zc n ts,lD ms,.int f]=Bi (vB (zw ts) ms f):=by
 have a:=WY ms f (by omega)
 have b:(a_ ms f).length<=ms.length:=g3a _ _
 have hz:1<=sizeLine:=aT (by omega)
 have pre:xU [zc n ts,lD ms,.int f]=Zr ((yS cC cB 100000 [.fr (zc n ts),.fr (lD ms),.fr (.int f),.ol (([]++[f]).map D.int),.fr (lD (a_ ms f)),.no]).bind λo=>match o with | .nx ρ'=>BX 3 (qH (vF 3)) ρ' | o=>some o):=by
  simp only [xU,uc,yu,zP,aH,bq,aM,aN,Nat.reduceAdd,Nat.reduceSub,aL,bD,bu,zt,w5,y6,zh,zm,zT,au,aw,ak,if_pos hz,aK,aJ,zQ,zG,a]
  try rfl
 rw [pre]
 unfold vB
 rcases ZD n ts (lD ms) (.int f) ms.length 100000 [] f (a_ ms f) .no b (by omega) (by simp; omega) with ⟨s4,s5,o,e1,e2⟩ | ⟨e1,e2⟩
 .rw [e1,e2]
  rfl
 .rw [e1,e2]
  rfl
theorem uG:∀ (l:List (Option (List Int))),(l.filter (·.isSome)).map (λo=>(Bi o).getD .non)=(l.filterMap id).map lD
 | []=>rfl
 | none :: l=>by
  rw [g2u (by simp),List.filterMap_cons_none rfl]
  exact uG l
 | some o :: l=>by
  rw [g2t rfl,aH,uG l]
  rfl
def ZA (n) (ts:List T3) (ms:List Int) (a:ms.length<=40):qi [zc n ts,lD ms]=some (.lst ((yH (zw ts) ms).map lD)):=by
 have e1:=vA (f:=ya xU (zb (vF 1) (zb (vF 2) (zb (vF 0) zp)))) (C:=[.fr (zc n ts),.fr (lD ms)]) (ι:=D.int) (φ:=λf=>(Bi (vB (zw ts) ms f)).getD .non) ms .no (λf _=>by
  have:=Je n ts ms f a
  simp only [zG,zh,zm,zT,au,aw,ak,this]
  cases vB (zw ts) ms f <;> rfl)
 have e2:=Zz (ft:=aO (zd (l9 true) (vF 0) (cF .non))) (f:=vF 0) (C:=[]) (ι:=λo=>(Bi o).getD .non) (q:=λo=>o.isSome) (φ:=λo=>(Bi o).getD .non) (ms.map (vB (zw ts) ms)) .no (λo _=>by
  cases o <;> rfl) (λo _ _=>rfl)
 rw [uG,cN,List.filterMap_map] at e2
 have hz:(ms.map D.int).length<=sizeLine:=by rw [aC]; exact aT (by omega)
 have b:(ms.map ((λo=>(Bi o).getD D.non) ∘ vB (zw ts) ms)).length<=sizeLine:=by rw [aC]; exact aT (by omega)
 have e1:_=some (ms.map ((λo=>(Bi o).getD D.non) ∘ vB (zw ts) ms)):=e1
 simp only [qi,YH,yu,zP,aH,bq,aM,aN,Nat.reduceAdd,Nat.reduceSub,aL,bD,bu,zt,zQ,zr,yv,zE,zT,au,aw,ak,yA,if_pos hz,yK,wZ,e1,bg,aK,aJ,ye,if_pos b,e2,y4]
 rfl
def Uu (t) (o:List Int):(List.zip o (o.drop 1)).map (λp=>t p.1 p.2)=v7 t o:=by
 unfold v7
 rw [List.zip,List.map_zipWith]
def P2 (l:List D):YJ l (some 1) none=l.drop 1:=by
 unfold YJ HT.sIx
 simp
 cases l with
 | nil=>rfl
 | cons a l=>simp
def Jw (n) (ts:List T3) (o:List Int) (b:o.length<=40):wb [zc n ts,lD o]=some (lD (v7 (zw ts) o)):=by
 have e1:=VB (ft:=eG) (f:=ya ve (zb (vF 2) (zb (vF 0) (zb (vF 1) zp)))) (C:=[.fr (zc n ts)]) (ι:=λp:Int×Int=>.int p.1) (κ:=λp:Int×Int=>.int p.2) (q:=λ_=>true) (φ:=λp=>.int (zw ts p.1 p.2)) (List.zip o (o.drop 1)) .no .no (λ_ _=>rfl) (λp _ _=>by
  simp only [zG,zh,zm,zT,au,aw,ak,WZ])
 rw [List.filter_eq_self.mpr (λ_ _=>rfl)] at e1
 have a:Jz (o.map D.int) ((o.map D.int).drop 1)=(List.zip o (o.drop 1)).map λp:Int×Int=>.tup [.int p.1,.int p.2]:=by
  unfold Jz
  rw [<- Ey,List.zip_map,cN]
  rfl
 have hz:(Jz (o.map D.int) ((o.map D.int).drop 1)).length<=sizeLine:=by
  rw [a,aC,List.length_zip]
  exact aT (by omega)
 simp only [wb,vy,yu,zP,aH,bq,aM,aN,Nat.reduceAdd,Nat.reduceSub,aL,cO,bD,bu,ye,zr,yv,JW,zE,zT,jw,JY,MQ,yC,au,aw,ak,yA,P2,if_pos hz,yK,wZ]
 rw [a,e1]
 simp only [bg,ak,y4]
 rw [<- Uu]
 show _=some (D.lst ((List.map _ _).map D.int))
 rw [cN]
 rfl
def PR:Nat->Str
 | 1=>"a" | 2=>"b" | 4=>"d" | 5=>"e" | 6=>"f" | 8=>"h" | 9=>"i" | _=>"-"
def kT (k:Kd):Str:=if k.1=0 then "-" else jn Ac [PR k.1,toString (k.2:Int)]
abbrev kD (k:Kd):D:=.str (kT k)
def Fh:kT (6,4)="f4":=by decide +kernel
def Fg:kT (8,3)="h3":=by decide +kernel
def Ff:kT (8,4)="h4":=by decide +kernel
def Fe:kT (9,5)="i5":=by decide +kernel
def Fd:kT (9,6)="i6":=by decide +kernel
def Fi:kT (5,6)="e6":=by decide +kernel
def KR:(aV 50).all (λn=>decide ((jn Ac ["a",toString (n:Int)]).length<=100)&&decide ((jn Ac ["b",toString (n:Int)]).length<=100)&&decide ((jn Ac ["d",toString (n:Int)]).length<=100))=true:=by decide +kernel
def Fo {n:Nat} (h:n < 50):(jn Ac ["a",toString (n:Int)]).length<=100/\(jn Ac ["b",toString (n:Int)]).length<=100/\(jn Ac ["d",toString (n:Int)]).length<=100:=by
 have:=cw.mp KR n (ip.mpr h)
 rw [du,du] at this
 exact ⟨of_decide_eq_true this.1.1,of_decide_eq_true this.1.2,of_decide_eq_true this.2⟩
def Yi    {n:Nat} (h:f ρ=some (.int n)) (d:n < 50) (a:(jn Ac [c,toString (n:Int)]).length<=100):Yj (Gf c (B0 f Bv)) ρ=some (.str (jn Ac [c,toString (n:Int)])):=by
 have b:((n:Int).natAbs).log2 < 1920:=g3h (Nat.log2_le_self _) (by omega)
 unfold Yj Gf B0 Bv
 rw [h]
 show ((((if ((n:Int).natAbs).log2 < 1920 then some (toString (n:Int)) else none:Option Str).bind λz=>some [z]).bind (λzs=>some (c :: zs))).bind _)=_
 rw [if_pos b]
 show (if (jn Ac [c,toString (n:Int)]).length<=sizeLine then _ else none)=_
 rw [if_pos (aT a)]
theorem Vv:∀ a b:List Int,WD (a.map D.int) (b.map D.int)=decide (a=b)
 | [],[]=>rfl
 | [],_ :: _=>rfl
 | _ :: _,[]=>rfl
 | x :: a,y :: b=>by
  rw [aH,aH]
  unfold WD
  rw [Vv a b]
  by_cases c:x=y <;> by_cases d:a=b <;> simp [bT,c,d]
def Ga (l):dep (lD l)<=100:=by
 have:=Q2 l
 show dep (.lst (l.map D.int))<=100
 omega
def Vw (a b):bt (lD a) (lD b)=some (.bl (decide (a=b))):=by
 unfold bt
 rw [if_pos (Ga a)]
 show some (D.bl (WD (a.map D.int) (b.map D.int)))=_
 rw [Vv]
def Ye (h:f ρ=some (.int k)) (h1 : -100<=k) (h2:k<=100):je (zg (zY (zb (cF (.int 3)) zp))) f ρ=some ((aL k.toNat (3:Int)).map D.int):=by
 have hz:1<=sizeLine:=aT (by omega)
 simp only [C6,zr,y6,zh,yC,zm,ak,aM,aN,cW,if_pos hz,bg,h]
 rw [if_pos (by omega),List.map_replicate]
 congr 1
 generalize k.toNat=m
 induction m with
 | zero=>rfl
 | succ m a=>rw [mr,nu,a]; rfl
def BK (l) (v:l.length<=40):yW [lD l]=some (kD (Mp l)):=by
 obtain ⟨s,r,_⟩:=Fo (n:=l.length+1) (by omega)
 have hz:1<=sizeLine:=aT (by omega)
 have o:=Ye (f:=zd wg (vF 1) (cF (.int 1))) (ρ:=[.fr (lD l),.fr (.int ((l.length:Int)+1))]) (k:=(l.length:Int)) (by simp) (by omega) (by omega)
 have m:=Ye (f:=zd wg (vF 1) (cF (.int 2))) (ρ:=[.fr (lD l),.fr (.int ((l.length:Int)+1))]) (k:=(l.length:Int) - 1) (by simp; omega) (by omega) (by omega)
 have t1:((l.length:Int)).toNat=l.length:=by omega
 have t2:((l.length:Int) - 1).toNat=l.length - 1:=by omega
 rw [t1] at o
 rw [t2] at m
 have u:=Yi (c:="a") (f:=vF 1) (ρ:=[.fr (lD l),.fr (.int ((l.length:Int)+1))]) (n:=l.length+1) rfl (by omega) s
 have t:=Yi (c:="b") (f:=vF 1) (ρ:=[.fr (lD l),.fr (.int ((l.length:Int)+1))]) (n:=l.length+1) rfl (by omega) r
 have q:=Vw l (aL l.length 3)
 have p:=Vw l (aL (l.length - 1) 3++[4])
 have ad:yI (.lst ((aL (l.length - 1) (3:Int)).map D.int)) (.lst [.int 4])=some (lD (aL (l.length - 1) 3++[4])):=by
  unfold yI
  dsimp only
  rw [if_pos (by simp; exact aT (by omega))]
  simp
 have gt:FC [([3,4,3],(.str "f4")),([3,5],(.str "h3")),([3,3,5],(.str "h4")),([5],(.str "i5")),([6],(.str "i6"))] (.tup (l.map D.int)) (.str "-")=some ((List.lookup l [([3,4,3],(D.str "f4")),([3,5],(.str "h3")),([3,3,5],(.str "h4")),([5],(.str "i5")),([6],(.str "i6"))]).getD (.str "-")):=by
  unfold FC
  dsimp only
  rw [vc]
  rfl
 have start:yW [lD l]=Zr (xB (cn (aO (zd bt (vF 0) (zg (je (zg (zY (zb (cF (.int 3)) zp))) (zd wg (vF 1) (cF (.int 1))))))) (qH (Yj (Gf "a" (B0 (vF 1) Bv)))) cK) (xB (cn (aO (zd bt (vF 0) (zd yI (zg (je (zg (zY (zb (cF (.int 3)) zp))) (zd wg (vF 1) (cF (.int 2))))) (zg (zY (zb (cF (.int 4)) zp)))))) (qH (Yj (Gf "b" (B0 (vF 1) Bv)))) cK) (qH (zd (FC [([3,4,3],(.str "f4")),([3,5],(.str "h3")),([3,3,5],(.str "h4")),([5],(.str "i5")),([6],(.str "i6"))]) (ya uO (zb (vF 0) zp)) (cF (.str "-"))))) [.fr (lD l),.fr (.int ((l.length:Int)+1))]):=by
  simp [yW,wI,aL]
 rw [start,zt,yD,yB,zk,zr,o]
 simp only [zT,au,ak,bg,q]
 unfold Mp
 by_cases b:l=aL l.length 3
 .rw [if_pos b,if_pos (decide_eq_true b),ye,u]
  rfl
 .rw [if_neg b,if_neg (by simpa using b)]
  simp only [xD,ak]
  rw [zt,yD,yB,zk,zk,zr,m]
  simp only [zT,au,ak,bg,zr,y6,zh,yC,zm,aM,aN,cW,if_pos hz,ad,p]
  by_cases a:l=aL (l.length - 1) 3++[4]
  .rw [if_pos a,if_pos (decide_eq_true a),ye,t]
   rfl
  .rw [if_neg a,if_neg (by simpa using a)]
   simp only [xD,ak,ye,zk,zG,zh,zm,zT,au,MO,yC,gt,y4]
   by_cases j:l=[3,4,3]
   .subst j; rw [if_pos rfl]; show _=some (D.str (kT (6,4))); rw [Fh]; rfl
   .rw [if_neg j]
    by_cases i:l=[3,5]
    .subst i; rw [if_pos rfl]; show _=some (D.str (kT (8,3))); rw [Fg]; rfl
    .rw [if_neg i]
     by_cases h:l=[3,3,5]
     .subst h; rw [if_pos rfl]; show _=some (D.str (kT (8,4))); rw [Ff]; rfl
     .rw [if_neg h]
      by_cases g:l=[5]
      .subst g; rw [if_pos rfl]; show _=some (D.str (kT (9,5))); rw [Fe]; rfl
      .rw [if_neg g]
       by_cases d:l=[6]
       .subst d; rw [if_pos rfl]; show _=some (D.str (kT (9,6))); rw [Fd]; rfl
       .rw [if_neg d]
        have e:List.lookup l [([3,4,3],(D.str "f4")),([3,5],(.str "h3")),([3,3,5],(.str "h4")),([5],(.str "i5")),([6],(.str "i6"))]=none:=by
         simp [List.lookup,beq_false_of_ne,j,i,h,g,d]
        rw [e]
        rfl
def Mu (o) (i:Nat) (y:Int) (h:o[i]? = some y):aE (lD o) (.int (i:Int))=some (.int y):=uK (by rw [dX,h]; rfl)
def KN (o) (y:Int) (i:o.length<=40):zZ [lD o,.int y]=some (kD (qM o y)):=by
 obtain ⟨_,_,g⟩:=Fo (n:=o.length+1) (by omega)
 have h:=Yi (c:="d") (f:=vF 2) (ρ:=[.fr (lD o),.fr (.int y),.fr (.int ((o.length:Int)+1))]) (n:=o.length+1) rfl (by omega) g
 have start:zZ [lD o,.int y]=Zr (xB (cn (Us (aO (zd rL (vF 2) (cF (.int 4)))) (aO (zd bt (zd aE (vF 0) (cF (.int 1))) (vF 1)))) (qH (Yj (Gf "d" (B0 (vF 2) Bv)))) cK) (xB (cn (Us (aO (zd bt (vF 2) (cF (.int 6)))) (aO (zd bt (zd aE (vF 0) (cF (.int 2))) (vF 1)))) (qH (cF (.str "e6"))) cK) (qH (cF (.str "-")))) [.fr (lD o),.fr (.int y),.fr (.int ((o.length:Int)+1))]):=by
  simp [zZ,yR,aL]
 have a1:Us (aO (zd rL (vF 2) (cF (.int 4)))) (aO (zd bt (zd aE (vF 0) (cF (.int 1))) (vF 1))) [.fr (lD o),.fr (.int y),.fr (.int ((o.length:Int)+1))]=some (decide (4<=o.length+1/\o[1]? = some y)):=by
  by_cases c:4<=o.length+1
  .have b:o[1]? = some o[1]:=fq (by omega)
   have a:(4:Int)<=(o.length:Int)+1:=by omega
   have:=Mu o 1 o[1] b
   have this:aE (lD o) (.int 1)=some (.int o[1]):=this
   simp [c,a,this,b]
  .have a:¬ (4:Int)<=(o.length:Int)+1:=by omega
   simp [c,a]
 have a2:Us (aO (zd bt (vF 2) (cF (.int 6)))) (aO (zd bt (zd aE (vF 0) (cF (.int 2))) (vF 1))) [.fr (lD o),.fr (.int y),.fr (.int ((o.length:Int)+1))]=some (decide (o.length+1=6/\o[2]? = some y)):=by
  by_cases c:o.length+1=6
  .have b:o[2]? = some o[2]:=fq (by omega)
   have a:(o.length:Int)+1=6:=by omega
   have:=Mu o 2 o[2] b
   have this:aE (lD o) (.int 2)=some (.int o[2]):=this
   simp [c,a,this,b]
  .have a:¬ (o.length:Int)+1=6:=by omega
   simp [c,a]
 rw [start,zt,yD,a1,ak]
 unfold qM
 by_cases e:4<=o.length+1/\o[1]? = some y
 .rw [if_pos e,if_pos (decide_eq_true e),ye,h]
  rfl
 .rw [if_neg e,if_neg (by simpa using e),xD,ak]
  dsimp only
  rw [zt,yD,a2,ak]
  by_cases d:o.length+1=6/\o[2]? = some y
  .rw [if_pos d,if_pos (decide_eq_true d)]
   show _=some (D.str (kT (5,6)))
   rw [Fi]
   rfl
  .rw [if_neg d,if_neg (by simpa using d)]
   rfl
theorem Jh  : ∀ {n:Nat} {x:Int} {l o:List Int},chG t n x l=some o->o.length<=n
 | 0,x,l,o,h=>by cases h; exact aU _
 | n+1,x,l,o,h=>by
  unfold chG at h
  split at h
  .cases h; exact fo _
  .split at h
   .obtain ⟨o',a,rfl⟩:=fb.mp h
    have:=Jh a
    rw [aM]
    omega
   .cases h
def ZC (h:o∈yH t ms):o.length<=ms.length+1:=by
 obtain ⟨f,_,e⟩:=lO.mp h
 obtain ⟨o',a,rfl⟩:=fb.mp e
 have:=Jh a
 rw [aM]
 omega
def vw (t) (ms:List Int):(yH t ms).length<=ms.length:=List.length_filterMap_le _ _
def Jx (t) (o:List Int):(v7 t o).length<=o.length:=by
 unfold v7
 rw [List.length_zipWith]
 omega
def BI (n) (ts:List T3) (ms:List Int) (c:ms.length<=9):xG [zc n ts,lD ms]=some (.lst ((GT (zw ts) ms).map kD)):=by
 have b:=ZA n ts ms (by omega)
 have e1:=vA (f:=ya yW (zb (ya wb (zb (vF 1) (zb (vF 0) zp))) zp)) (C:=[.fr (zc n ts)]) (ι:=lD) (φ:=λo=>kD (Mp (v7 (zw ts) o))) (yH (zw ts) ms) .no (λo a=>by
  have h1:=ZC a
  have h2:=Jx (zw ts) o
  simp only [zG,zh,zm,zT,au,aw,ak,Jw n ts o (by omega),BK (v7 (zw ts) o) (by omega)])
 have hz:((yH (zw ts) ms).map lD).length<=sizeLine:=by
  have:=vw (zw ts) ms
  rw [aC]; exact aT (by omega)
 simp only [xG,xJ,yu,zP,aH,bq,aM,aN,Nat.reduceAdd,Nat.reduceSub,aL,cO,bD,bu,ye,zr,yv,zE,zG,zh,zm,zT,au,aw,ak,b,yA,if_pos hz,yK,wZ,e1,bg,y4]
 unfold GT
 rw [cN]
 rfl
def Jq (l:List α) (p:α->Bool):wG (l.map λa=>D.bl (p a))=some (l.map p):=by
 induction l with
 | nil=>rfl
 | cons a l b =>
  rw [aH,aH]
  unfold wG
  rw [b]
  rfl
def Hn (n) (ts:List T3) (ms:List Int) (ht:ts.length<=90):y9 [zc n ts,lD ms]=some (.bl (Zd ts ms)):=by
 have a:aE (zc n ts) (.int 1)=some (.lst (ts.map tD)):=by unfold zc; exact pV
 have e1:=Ha (ft:=aO (zd (inD false) (vF 0) (vF 3))) (f:=zd bt (vF 2) (cF (.int 3))) (C:=[.fr (lD ms)]) (ι:=λu:T3=>.int u.1) (κ:=λu:T3=>.int u.2.1) (μ:=λu:T3=>.int u.2.2) (q:=λu=>decide (u.1∈ms)) (φ:=λu=>.bl (decide (u.2.2=3))) ts .no .no .no (λu _=>by
  by_cases c:u.1∈ms <;> simp [QJ,c]) (λu _ _=>by simp)
 have hz:(ts.map tD).length<=sizeLine:=by rw [aC]; exact aT (by omega)
 have e1:yT (jj 3 (yh (zO 0) (yh (zO 1) (yh (zO 2) kh)))) (aO (zd (inD false) (vF 0) (vF 3))) (zd bt (vF 2) (cF (.int 3))) (ts.map tD) [.no,.no,.no,.fr (lD ms)]=_:=e1
 simp only [y9,wW,yu,zP,aH,bq,aM,aN,Nat.reduceAdd,Nat.reduceSub,aL,cO,bD,bu,ye,zr,yv,zE,zG,zh,zm,zk,yC,zT,au,aw,ak,a,yA,if_pos hz,yK,wZ,e1,bg]
 show Zr (((wG (List.map (λu:T3=>D.bl (decide (u.2.2=3))) (List.filter (λu:T3=>decide (u.1∈ms)) ts))).map λbs=>D.bl (bs.all id)).bind λd=>some (Out.rt d))=_
 rw [Jq]
 show some (D.bl _)=_
 unfold Zd
 rw [List.all_map]
 rfl
noncomputable abbrev eB:FS:=xB (vk 4 (ya yn (zb (vF 0) (zb (vF 3) (zb (vF 1) zp))))) (cn (aO (zd bt (ya jA (zb (vF 4) zp)) (cF (.int 1)))) (xB (vk 5 (ya qi (zb (vF 0) (zb (ya wz (zb (vF 1) (zb (vF 3) zp))) zp)))) (vU 2 (zg (vD 1 [4] (yz (vF 5)) (zO 0) eG (ya zZ (zb (vF 0) (zb (zd aE (vF 1) (cF (.int 0))) zp))))))) cK)
def l8 (t:Int->Int->Int) (ms:List Int) (e:Int):List Kd:=match bo t e ms with
 | [y]=>(yH t (a_ ms e)).map λo=>qM o y
 | _=>[]
def BH (n) (ts:List T3) (ms:List Int) (u:ms.length<=9) (a:List Kd) (ht:a.length<=90) (e:Int) (d b:Slot) :
  ∃ i q,eB [.fr (zc n ts),.fr (lD ms),.ol (a.map kD),.fr (.int e),d,b]=some (.nx [.fr (zc n ts),.fr (lD ms),.ol ((a++l8 (zw ts) ms e).map kD),.fr (.int e),i,q])/\(l8 (zw ts) ms e).length<=9:=by
 have h1:=Qm n ts e ms (by omega)
 have j:=WY ms e (by omega)
 have t:(a_ ms e).length<=ms.length:=g3a _ _
 have h2:=ZA n ts (a_ ms e) (by omega)
 have p:=vw (zw ts) (a_ ms e)
 have a1:vk 4 (ya yn (zb (vF 0) (zb (vF 3) (zb (vF 1) zp)))) [.fr (zc n ts),.fr (lD ms),.ol (a.map kD),.fr (.int e),d,b]=some (.nx [.fr (zc n ts),.fr (lD ms),.ol (a.map kD),.fr (.int e),.fr (lD (bo (zw ts) e ms)),b]):=by
  simp only [zQ,zG,zh,zm,zT,au,aw,ak,h1,aK,aJ]
 have a2:∀ l:List Int,aO (zd bt (ya jA (zb (vF 4) zp)) (cF (.int 1))) [.fr (zc n ts),.fr (lD ms),.ol (a.map kD),.fr (.int e),.fr (lD l),b]=some (decide ((l.length:Int)=1)):=λl=>by
  simp only [yB,zk,zG,zh,zm,zT,yC,au,aw,ak,vL,aC,jo]
 have c:(bo (zw ts) e ms).length≠1->eB [.fr (zc n ts),.fr (lD ms),.ol (a.map kD),.fr (.int e),d,b]=some (.nx [.fr (zc n ts),.fr (lD ms),.ol ((a++[]).map kD),.fr (.int e),.fr (lD (bo (zw ts) e ms)),b]):=λv=>by
  unfold eB
  rw [zt,a1,ak]
  dsimp only
  rw [yD,a2,decide_eq_false (by omega),cO]
  rfl
 unfold l8
 cases h:bo (zw ts) e ms with
 | nil=>exact ⟨_,_,c (by rw [h]; simp),by simp⟩
 | cons y r =>
  cases r with
  | cons z r=>exact ⟨_,_,c (by rw [h]; simp),by simp⟩
  | nil =>
   have g:aE (lD [y]) (.int 0)=some (.int y):=by simp [aE,atI,dI]
   have e1:=vA (f:=ya zZ (zb (vF 0) (zb (zd aE (vF 1) (cF (.int 0))) zp))) (C:=[.fr (lD [y])]) (ι:=lD) (φ:=λo=>kD (qM o y)) (yH (zw ts) (a_ ms e)) .no (λo m=>by
    have h1:=ZC m
    simp only [zG,zh,zm,zT,zk,yC,au,aw,ak,g,KN o y (by omega)])
   have hz:((yH (zw ts) (a_ ms e)).map lD).length<=sizeLine:=by rw [aC]; exact aT (by omega)
   have s:(a.map kD).length+((yH (zw ts) (a_ ms e)).map λo=>kD (qM o y)).length<=sizeLine:=by rw [aC,aC]; exact aT (by omega)
   refine ⟨.fr (lD [y]),.fr (.lst ((yH (zw ts) (a_ ms e)).map lD)),?_,by simp; omega⟩
   unfold eB
   rw [zt,a1,h,ak]
   dsimp only
   rw [yD,a2]
   simp only [iJ,Int.ofNat_one,decide_true,ak,if_true,zt,zQ,zG,zh,zm,zT,au,aw,j,h2,aK,aJ,uW,zr,yv,zE,yA,if_pos hz,yK,wZ,aH,bq,aL,bD,bu,e1,bg,if_pos s]
   rw [gC,cN]
   rfl
theorem QC (n) (ts:List T3) (ms:List Int) (c:ms.length<=9):∀ (es:List Int) (told) (s3 s4 s5),told.length+9 * es.length<=90 →
  ∃ i a b,ym (zO 3) eB (es.map D.int) [.fr (zc n ts),.fr (lD ms),.ol (told.map kD),s3,s4,s5]=some (.nx [.fr (zc n ts),.fr (lD ms),.ol ((told++es.flatMap (l8 (zw ts) ms)).map kD),i,a,b])
 | [],told,s3,s4,s5,h=>⟨_,_,_,by rw [List.flatMap_nil,cO]; rfl⟩
 | e :: es,told,s3,s4,s5,h=>by
  rw [aM] at h
  obtain ⟨a,b,h1,h2⟩:=BH n ts ms c told (by omega) e s4 s5
  obtain ⟨g,f,d,j⟩:=QC n ts ms c es (told++l8 (zw ts) ms e) (.fr (.int e)) a b (by rw [bX]; omega)
  refine ⟨g,f,d,?_⟩
  rw [aH]
  unfold ym
  simp only [xf,ak,aK,aJ]
  rw [h1]
  show ym _ _ _ _=_
  rw [j,nt,mn]
def BE (n) (ts:List T3) (ms:List Int) (a:ms.length<=9) (ht:ts.length<=90):xv [zc n ts,lD ms]=some (.lst ((if Zd ts ms=true then BG (zw ts) ms else []).map kD)):=by
 have b:=Hn n ts ms ht
 obtain ⟨f,e,d,h1⟩:=QC n ts ms a ms [] .no .no .no (by simp; omega)
 have hz:0<=sizeLine:=fo _
 have start:xv [zc n ts,lD ms]=Zr (xB (cn (DO (aO (ya y9 (zb (vF 0) (zb (vF 1) zp))))) (BX 2 (qH (vF 2))) cK) (xB (JB (yz (vF 1)) (zO 3) eB) (BX 2 (qH (vF 2)))) [.fr (zc n ts),.fr (lD ms),.ol [],.no,.no,.no]):=by
  simp only [xv,wH,yu,zP,aH,bq,aM,aN,Nat.reduceAdd,Nat.reduceSub,aL,bD,bu]
  rw [zt (F:=Ur 2 _),w5]
  simp only [y6,zm,ak,aN,if_pos hz,aK,aJ]
 have a1:DO (aO (ya y9 (zb (vF 0) (zb (vF 1) zp)))) [.fr (zc n ts),.fr (lD ms),.ol [],.no,.no,.no]=some (!Zd ts ms):=by
  simp only [qX,yB,zG,zh,zm,zT,au,aw,ak,b]
 rw [start,zt,yD,a1,ak]
 cases c:Zd ts ms with
 | false=>rfl
 | true =>
  rw [if_neg (by simp),if_pos rfl,xD,ak]
  dsimp only
  rw [zt,wK]
  simp only [zE,zT,au,aw,ak,yA]
  have h1:ym (zO 3) eB (ms.map D.int) [.fr (zc n ts),.fr (lD ms),.ol [],.no,.no,.no]=_:=h1
  rw [h1]
  rfl
def Ck:(aV 7).all (λk=>(um k).all λB=>decide (B.1=(0,0))||decide (kT B.1≠"-"))=true:=by decide +kernel
def Me (h:B∈um k):B.1=(0,0)\/kT B.1≠"-":=by
 have a:k < 7:=by
  match k,h with
  | 0,h=>omega
  | 1,h=>omega
  | 2,h=>omega
  | 3,h=>omega
  | 4,h=>omega
  | 5,h=>omega
  | 6,h=>omega
  | n+7,h=>cases h
 have:=cw.mp (cw.mp Ck k (ip.mpr a)) B h
 rw [rM] at this
 exact this.imp of_decide_eq_true of_decide_eq_true
abbrev kB:FS:=cn (aO (zd fk (vF 2) (cF (.str "-")))) (qH (vF 2)) cK
def DZ (a b):fk (.str a) (.str b)=some (.bl (!decide (a=b))):=by
 unfold fk
 rw [if_pos (show dep (.str a)<=100 from fo _)]
 by_cases c:a=b <;> simp [bT,c]
theorem Xn (g:c=(0,0)\/kT c≠"-") (a b):∀ (L:List Kd) (s),(∀ k∈L,k=(0,0)\/k=c) →
  ((c=(0,0)\/c∉L)/\∃ s',ym (zO 2) kB (L.map kD) [a,b,s]=some (.nx [a,b,s']))\/ym (zO 2) kB (L.map kD) [a,b,s]=some (.rt (kD c))
 | [],s,_=>.inl ⟨.inr (by simp),s,rfl⟩
 | k :: L,s,h=>by
  rw [aH]
  by_cases z:k=(0,0)
  .subst z
   have st:ym (zO 2) kB (kD (0,0) :: L.map kD) [a,b,s]=ym (zO 2) kB (L.map kD) [a,b,.fr (kD (0,0))]:=by
    rw [ym]
    rfl
   rw [st]
   rcases Xn g a b L (.fr (kD (0,0))) (λk d=>h k (br _ d)) with ⟨h1,h2⟩ | h1
   .refine .inl ⟨?_,h2⟩
    by_cases f:c=(0,0)
    .exact .inl f
    .exact .inr λm=>(aQ.mp m).elim f (h1.resolve_left f)
   .exact .inr h1
  .have e:k=c:=(h k ba).resolve_left z
   subst e
   have d:=g.resolve_left z
   refine .inr ?_
   unfold ym
   simp [DZ,d]
def KJ (n) (ts:List T3) (ms:List Int) (c:Kd) (b:ms.length<=9) (ht:ts.length<=90) (h1:∀ k∈xZ (zw ts) (Zd ts ms) ms,k=(0,0)\/k=c) (h2:c=(0,0)\/c∈xZ (zw ts) (Zd ts ms) ms) (d:c=(0,0)\/kT c≠"-")
  (hz:(xZ (zw ts) (Zd ts ms) ms).length<=100):wB [zc n ts,lD ms]=some (kD c):=by
 have e1:=BI n ts ms b
 have e2:=BE n ts ms b ht
 have ad:yI (.lst ((GT (zw ts) ms).map kD)) (.lst ((if Zd ts ms=true then BG (zw ts) ms else []).map kD))=some (.lst ((xZ (zw ts) (Zd ts ms) ms).map kD)):=by
  unfold yI xZ
  dsimp only
  unfold xZ at hz
  rw [bX] at hz
  rw [if_pos (by rw [aC,aC]; exact aT hz),gC]
 have start:wB [zc n ts,lD ms]=Zr ((ym (zO 2) kB ((xZ (zw ts) (Zd ts ms) ms).map kD) [.fr (zc n ts),.fr (lD ms),.no]).bind λo=>match o with | .nx ρ'=>qH (cF (.str "-")) ρ' | o=>some o):=by
  simp only [wB,k9,yu,zP,aH,bq,aM,aN,Nat.reduceAdd,Nat.reduceSub,aL,bD,bu,zt,wK,zE,zk,zG,zh,zm,zT,au,aw,ak,e1,e2,ad,yA]
  try rfl
 rw [start]
 rcases Xn d (.fr (zc n ts)) (.fr (lD ms)) _ .no h1 with ⟨a,s',e⟩ | a
 .rw [e]
  have:c=(0,0):=by
   rcases a with z | z
   .exact z
   .exact h2.resolve_right z
  subst this
  rfl
 .rw [a]
  rfl
theorem Hd (t):∀ k part left p,part≠[]->kS t k part left p≠[]
 | 0,part,left,p,h=>h
 | k+1,part,left,p,h=>by
  unfold kS
  split
  .exact h
  .exact Hd t k _ _ _ (by simp [h])
def JN (h:l≠[]):yd l≠[]:=λz=>h (by
 have:=(z9 l).length_eq
 rw [z] at this
 exact List.length_eq_zero_iff.mp this.symm)
abbrev PM (n:Nat) (ts:List T3) (x:Int):List Int:=yd (uv (zw ts) n x)
def Mi (n) (ts:List T3) (x:Int):PM n ts x≠[]:=JN (Hd _ _ _ _ _ (by simp))
def K3 (n) (f:Int->D):Yr ((idx n).map f)=(idx n).map λx=>.tup [.int x,f x]:=by
 unfold Yr
 apply EC
 .simp
 .intro i h1 h2
  simp [idx]
def Qa (n) (ts:List T3) (d:n<=40):Ww [zc n ts]=some (.lst (((idx n).filter λx=>decide ((PM n ts x).headD 0=x)).map λx=>lD (PM n ts x))):=by
 have g:aE (zc n ts) (.int 0)=some (.int n):=by unfold zc; exact mQ
 have c:q9 [.int (n:Int)]=some ((idx n).map D.int):=by rw [j7 (by omega) (by omega),vN]
 have e1:=vA (f:=ya qh (zb (vF 1) (zb (vF 0) zp))) (C:=[.fr (zc n ts)]) (ι:=D.int) (φ:=λx=>lD (PM n ts x)) (idx n) .no (λx b=>by
  simp only [zG,zh,zm,zT,au,aw,ak,Kj n ts x d b])
 have e2:=VB (ft:=aO (zd bt (zd aE (vF 1) (cF (.int 0))) (vF 0))) (f:=vF 1) (C:=[]) (ι:=D.int) (κ:=λx=>lD (PM n ts x)) (q:=λx=>decide ((PM n ts x).headD 0=x)) (φ:=λx=>lD (PM n ts x)) (idx n) .no .no (λx _=>by
  have i:=Mi n ts x
  cases e:PM n ts x with
  | nil=>exact absurd e i
  | cons y r =>
   have a:aE (lD (y :: r)) (.int 0)=some (.int y):=by simp [aE,atI,dI]
   simp only [yB,zk,zT,yC,au,aw,ak,a,jo]
   rfl) (λx _ _=>rfl)
 have hz:((idx n).map D.int).length<=sizeLine:=by rw [aC,xu]; exact aT (by omega)
 have h:((idx n).map λx=>D.tup [.int x,lD (PM n ts x)]).length<=sizeLine:=by rw [aC,xu]; exact aT (by omega)
 simp only [Ww,WU,yu,zP,aH,bq,aM,aN,Nat.reduceAdd,Nat.reduceSub,aL,bD,bu,zt,zQ,zr,yv,Y2,zh,zm,zk,yC,zT,au,aw,ak,g,c,if_pos hz,yK,wZ,e1,bg,aK,aJ,ye,JX,zE,yA,K3,if_pos h,e2,y4]
def V9 (n) (ts:List T3) (c:Int->Kd) (b:n<=40) (d:∀ x∈idx n,wB [zc n ts,lD (PM n ts x)]=some (kD (c x))):xH [zc n ts]=some (.lst (((idx n).filter λx=>decide ((PM n ts x).headD 0=x)).map λx=>.tup [lD (PM n ts x),kD (c x)])):=by
 have e:=Qa n ts b
 have e1:=vA (f:=tupF (zb (vF 0) (zb (ya wB (zb (vF 1) (zb (vF 0) zp))) zp))) (C:=[.fr (zc n ts)]) (ι:=λx=>lD (PM n ts x)) (φ:=λx=>.tup [lD (PM n ts x),kD (c x)]) ((idx n).filter λx=>decide ((PM n ts x).headD 0=x)) .no (λx a=>by
  have:=d x (e_.mp a).1
  simp only [wt,zG,zh,zm,zT,au,aw,ak,this,aM,aN]
  rw [if_pos (aT (by omega))])
 have hz:(((idx n).filter λx=>decide ((PM n ts x).headD 0=x)).map λx=>lD (PM n ts x)).length<=sizeLine:=by
  rw [aC]
  have:=g3a (λx=>decide ((PM n ts x).headD 0=x)) (idx n)
  rw [xu] at this
  exact aT (by omega)
 simp only [xH,WX,yu,zP,aH,bq,aM,aN,Nat.reduceAdd,Nat.reduceSub,aL,cO,bD,bu,ye,zr,yv,zE,zG,zh,zm,zT,au,aw,ak,e,yA,if_pos hz,yK,wZ,e1,bg,y4]
def Wt (h:P≠[]) (s:Str):cG (Mm P s)=.tup [lD P,.str s]:=by
 cases P with
 | nil=>exact absurd rfl h
 | cons x P=>rfl
theorem kI (n:Nat) (ts:List T3):∀ l:List Int,((l.filter λx=>decide ((PM n ts x).headD 0=x)).map λx=>D.tup [lD (PM n ts x),kD (Yg (xZ (zw ts) (Zd ts (PM n ts x)) (PM n ts x)))]) =
  (l.filterMap λx=>if (yd (uv (zw ts) n x)).headD 0=x then some (Mm (yd (uv (zw ts) n x)) (kT (Yg (xZ (zw ts) (Zd ts (yd (uv (zw ts) n x))) (yd (uv (zw ts) n x)))))) else none).map cG
 | []=>rfl
 | x :: l=>by
  by_cases c:(PM n ts x).headD 0=x
  .have e1:(x :: l).filter (λx=>decide ((PM n ts x).headD 0=x))=x :: l.filter (λx=>decide ((PM n ts x).headD 0=x)):=g2t (decide_eq_true c)
   rw [e1,aH,kI n ts l,rQ,if_pos c,aH,Wt (Mi n ts x)]
  .have e1:(x :: l).filter (λx=>decide ((PM n ts x).headD 0=x))=l.filter (λx=>decide ((PM n ts x).headD 0=x)):=g2u (by simpa using c)
   rw [e1,kI n ts l,rQ,if_neg c]
def KO (t) (b:Bool) (ms:List Int) (d:ms.length<=9):(xZ t b ms).length<=100:=by
 have h1:=vw t ms
 have h2:∀ es:List Int,(es.flatMap (l8 t ms)).length<=9 * es.length:=λes=>by
  induction es with
  | nil=>simp
  | cons e es c =>
   rw [nt,bX,aM]
   have:(l8 t ms e).length<=9:=by
    unfold l8
    split
    .have:=vw t (a_ ms e)
     have a:(a_ ms e).length<=ms.length:=g3a _ _
     rw [aC]
     omega
    .simp
   omega
 unfold xZ GT
 rw [bX,aC]
 have f:(BG t ms).length<=9 * ms.length:=h2 ms
 split
 .omega
 .simp; omega
def Hs.kall {bs:List bA} {σ:Int->Int} {p:Int×bA} (h:Hs bs σ) (a:p∈xW 0 bs) {ms:List Int} (c:ms.Perm (vC σ p)) :
  (∀ k∈xZ (zw (bU bs σ)) (Zd (bU bs σ) ms) ms,k=(0,0)\/k=p.2.2.1)/\(p.2.2.1=(0,0)\/p.2.2.1∈xZ (zw (bU bs σ)) (Zd (bU bs σ) ms) ms):=by
 rw [h.thr a c]
 obtain ⟨k1,k2⟩:=Vg (h.gb p.2 (xX a))
 have r:=λk=>Vn (h.rlb a) (λy d=>d) c (b:=JJ p.2.2.2) (k:=k)
 exact ⟨λk e=>k1 k ((r k).mp e),k2.imp id λz=>(r _).mpr z⟩
def Xm (h:Hs bs σ) (l:yZ bs<=9) (ht:(bU bs σ).length<=90):xH [zc (yZ bs) (bU bs σ)]=some (.lst ((jk ((xW 0 bs).map (X9 kT σ))).map cG)):=by
 rw [<- Qw kT h]
 unfold Vl
 rw [<- kI]
 refine V9 (yZ bs) (bU bs σ) (λx=>Yg (xZ (zw (bU bs σ)) (Zd (bU bs σ) (PM (yZ bs) (bU bs σ) x)) (PM (yZ bs) (bU bs σ) x))) (by omega) λx d=>?_
 rw [xh] at d
 obtain ⟨i,hi,n,rfl⟩:=h.rl.sur x d.1 d.2
 obtain ⟨p,c,e⟩:=U0 (bs:=bs) (b:=0) (x:=i) (by omega) (by omega)
 have j:σ i∈vC σ p:=xt.mpr ⟨i,e,rfl⟩
 obtain ⟨g,f⟩:=h.row c j
 show wB [_,lD (yd (uv (zw (bU bs σ)) (yZ bs) (σ i)))]=some (kD (Yg (xZ _ (Zd _ (yd (uv (zw (bU bs σ)) (yZ bs) (σ i)))) (yd (uv (zw (bU bs σ)) (yZ bs) (σ i))))))
 rw [g,f]
 obtain ⟨k1,k2⟩:=Hs.kall h c (z9 (vC σ p))
 have m:=xp c
 have a:(yd (vC σ p)).length<=9:=by
  rw [(z9 _).length_eq]
  unfold vC
  rw [aC,xu]
  omega
 exact KJ _ _ _ _ a ht k1 k2 (Me (h.gb p.2 (xX c))) (KO _ _ _ a)
def WM (ts:List Int) (h:ts.length<=40):zl [lD ts]=some (.lst ((yp ts).map tD)):=by
 have a:q9 [.int (ts.length:Int)]=some ((idx ts.length).map D.int):=by rw [j7 (by omega) (by omega),vN]
 have e1:=vA (f:=tupF (zb (vF 0) (zb (zd yI (vF 0) (cF (.int 1))) (zb (zd aE (vF 1) (vF 0)) zp)))) (C:=[.fr (lD ts)]) (ι:=D.int) (φ:=λk=>.tup [.int k,.int (k+1),.int (ts.getD k.toNat 0)]) (idx ts.length) .no (λk b=>by
  rw [xh] at b
  have:=Mu ts k.toNat (ts.getD k.toNat 0) (by simp [fL,show k.toNat < ts.length by omega])
  rw [show ((k.toNat:Nat):Int)=k by omega] at this
  have hz:3<=sizeLine:=aT (by omega)
  simp only [wt,zh,zm,zT,zk,yC,au,aw,ak,uu,this,aM,aN,Nat.reduceAdd,if_pos hz])
 have hz:((idx ts.length).map D.int).length<=sizeLine:=by rw [aC,xu]; exact aT (by omega)
 simp only [zl,k6,yu,zP,aH,bq,aM,aN,Nat.reduceAdd,Nat.reduceSub,aL,cO,bD,bu,ye,zr,yv,Y2,zh,zm,zG,vL,aC,zT,au,aw,ak,a]
 rw [aC] at hz
 rw [if_pos hz]
 simp only [yK,wZ,aH,bq,aL,bD,bu,au,aw,e1,bg,ak,y4]
 congr 2
 unfold yp idx
 rw [cN,cN]
 apply EC
 .simp
 .intro i h1 h2
  simp at h1
  simp [tD,fL,h1]
abbrev cD (ts:List T3):D:=.lst (ts.map tD)
def Gm (a b:List Int) (h:a.length+b.length<=100):yI (lD a) (lD b)=some (lD (a++b)):=by
 unfold yI
 dsimp only
 rw [if_pos (by rw [aC,aC]; exact aT h),<- gC]
def Mf (a b:List T3) (h:a.length+b.length<=100):yI (cD a) (cD b)=some (cD (a++b)):=by
 unfold yI
 dsimp only
 rw [if_pos (by rw [aC,aC]; exact aT h),<- gC]
def YB (ts:List Int):(yp ts).length=ts.length:=by unfold yp; simp
def Bz:zg (zY (zb (cF (.int x)) zp)) ρ=some (lD [x]):=by
 have hz:1<=sizeLine:=aT (by omega)
 simp only [zr,y6,zh,yC,zm,ak,aM,aN,cW,if_pos hz,bg]
 rfl
def Ng:zg (zY (zb (cF (.int x)) (zb (cF (.int y)) zp))) ρ=some (lD [x,y]):=by
 have hz:2<=sizeLine:=aT (by omega)
 simp only [zr,y6,zh,yC,zm,ak,aM,aN,cW,Nat.reduceAdd,if_pos hz,bg]
 rfl
def N8:zg (zY (zb (cF (.int x)) (zb (cF (.int y)) (zb (cF (.int z)) zp)))) ρ=some (lD [x,y,z]):=by
 have hz:3<=sizeLine:=aT (by omega)
 simp only [zr,y6,zh,yC,zm,ak,aM,aN,cW,Nat.reduceAdd,if_pos hz,bg]
 rfl
def PQ:zg (zY (zb (cF (.int x)) (zb (cF (.int y)) (zb (cF (.int z)) (zb (cF (.int u)) zp))))) ρ=some (lD [x,y,z,u]):=by
 have hz:4<=sizeLine:=aT (by omega)
 simp only [zr,y6,zh,yC,zm,ak,aM,aN,cW,Nat.reduceAdd,if_pos hz,bg]
 rfl
def CU (h1:f ρ=some (.int x)) (h2:g ρ=some (.int y)) (b:h ρ=some (.int z)):zg (zY (zb (tupF (zb f (zb g (zb h zp)))) zp)) ρ=some (cD [(x,y,z)]):=by
 have hz:1<=sizeLine:=aT (by omega)
 have a:3<=sizeLine:=aT (by omega)
 simp only [zr,y6,zh,wt,h1,h2,b,zm,ak,aM,aN,cW,Nat.reduceAdd,if_pos hz,if_pos a,bg]
 rfl
def yk (h:f ρ=some (lD l)) (a:l.length<=40):ya zl (zb f zp) ρ=some (cD (yp l)):=by
 simp only [zG,zh,h,zm,ak,WM l a]
def Zs (h:ρ[0]? = some (.fr (.int m))) (a:m<=6) (k:Nat) (b:k<=3):zg (je (zg (zY (zb (cF (.int 3)) zp))) (zd wg (vF 0) (cF (.int (k:Int))))) ρ=some (lD (r3 (m - k))):=by
 have:=Ye (f:=zd wg (vF 0) (cF (.int (k:Int)))) (ρ:=ρ) (k:=(m:Int) - k) (by simp [h]) (by omega) (by omega)
 rw [zr,this]
 have e:((m:Int) - k).toNat=m - k:=by omega
 rw [e]
 rfl
def Y4 (n:Nat):(r3 n).length=n:=g2x
def XW (h1:f ρ=some (lD a)) (h2:g ρ=some (lD b)) (h:a.length+b.length<=100):zd yI f g ρ=some (lD (a++b)):=by
 rw [zk,h1,h2]
 exact Gm a b h
def kU (h1:f ρ=some (cD a)) (h2:g ρ=some (cD b)) (h:a.length+b.length<=100):zd yI f g ρ=some (cD (a++b)):=by
 rw [zk,h1,h2]
 exact Mf a b h
abbrev Kp:=Str×List T3
def fR (p:Kp):D:=.tup [.str p.1,cD p.2]
def jl (m:Nat):List Kp:=("a",yp (r3 (m - 1))) :: ((if 1 < m then ([("b",yp (r3 (m - 2)++[4]))]:List Kp) else [])++(if 3 < m then ([("d",yp (r3 (m - 2))++[((m:Int) - 3,(m:Int) - 1,3)])]:List Kp) else []))
def uZ:List (List Kp):=[[],[],[("i5",yp [5]),("i6",yp [6])],[("h3",yp [3,5])],[("h4",yp [3,3,5]),("f4",yp [3,4,3])],[],[("e6",yp [3,3,3,3]++[(2,5,3)])]]
def ux (h:f ρ=some (cD ts)):tupF (zb (cF (.str s)) (zb f zp)) ρ=some (fR (s,ts)):=by
 have hz:2<=sizeLine:=aT (by omega)
 simp only [wt,zh,yC,h,zm,ak,aM,aN,cW,Nat.reduceAdd,if_pos hz]
 rfl
def KA (h:f ρ=some ds) (a:ds.length<=100):zY f ρ=some ds:=by
 rw [y6,h,ak,if_pos (aT a)]
def yj (h1:f ρ=some d) (h2:g ρ=some ds):zb f g ρ=some (d :: ds):=by
 rw [zh,h1,h2]
 rfl
def JP (m:Nat) (z:D) (h1:1<=m) (l:m<=6) (e b a:Slot) (R:FS):xB (Ur 2 (zY (zb (tupF (zb (cF (.str "a")) (zb (ya zl (zb (zg (je (zg (zY (zb (cF (.int 3)) zp))) (zd wg (vF 0) (cF (.int 1))))) zp)) zp))) zp)))
  (xB (cn (aO (zd dW (vF 0) (cF (.int 1)))) (xy 2 (tupF (zb (cF (.str "b")) (zb (ya zl (zb (zd yI (zg (je (zg (zY (zb (cF (.int 3)) zp))) (zd wg (vF 0) (cF (.int 2))))) (zg (zY (zb (cF (.int 4)) zp)))) zp)) zp)))) cK)
  (xB (cn (aO (zd dW (vF 0) (cF (.int 3)))) (xy 2 (tupF (zb (cF (.str "d")) (zb (zd yI (ya zl (zb (zg (je (zg (zY (zb (cF (.int 3)) zp))) (zd wg (vF 0) (cF (.int 2))))) zp)) (zg (zY (zb (tupF (zb (zd wg (vF 0) (cF (.int 3))) (zb (zd wg (vF 0) (cF (.int 1))) (zb (cF (.int 3)) zp)))) zp)))) zp)))) cK) R)) [.fr (.int m),.fr z,.no,e,b,a] =
  R [.fr (.int m),.fr z,.ol ((jl m).map fR),e,b,a]:=by
 have r:=Y4 (m - 1)
 have j:=Y4 (m - 2)
 have a1:zY (zb (tupF (zb (cF (.str "a")) (zb (ya zl (zb (zg (je (zg (zY (zb (cF (.int 3)) zp))) (zd wg (vF 0) (cF (.int 1))))) zp)) zp))) zp) [.fr (.int m),.fr z,.no,e,b,a]=some [fR ("a",yp (r3 (m - 1)))] :=
  KA (yj (ux (yk (Zs rfl l 1 (by omega)) (by omega))) rfl) (by simp)
 have q:∀ s2,aO (zd dW (vF 0) (cF (.int 1))) [.fr (.int m),.fr z,s2,e,b,a]=some (decide (1 < m)):=λs2=>by
  by_cases c:1 < m
  .have h:(1:Int) < m:=by omega
   simp [h,c]; try omega
  .have h:¬ (1:Int) < m:=by omega
   simp [h,c]; try omega
 have n:∀ s2,aO (zd dW (vF 0) (cF (.int 3))) [.fr (.int m),.fr z,s2,e,b,a]=some (decide (3 < m)):=λs2=>by
  by_cases c:3 < m
  .have h:(3:Int) < m:=by omega
   simp [h,c]; try omega
  .have h:¬ (3:Int) < m:=by omega
   simp [h,c]; try omega
 have a2:∀ s2,tupF (zb (cF (.str "b")) (zb (ya zl (zb (zd yI (zg (je (zg (zY (zb (cF (.int 3)) zp))) (zd wg (vF 0) (cF (.int 2))))) (zg (zY (zb (cF (.int 4)) zp)))) zp)) zp)) [.fr (.int m),.fr z,s2,e,b,a]=some (fR ("b",yp (r3 (m - 2)++[4]))):=λs2 =>
  ux (yk (XW (Zs rfl l 2 (by omega)) Bz (by rw [j]; simp; omega)) (by rw [bX,j]; simp; omega))
 have a3:∀ s2,tupF (zb (cF (.str "d")) (zb (zd yI (ya zl (zb (zg (je (zg (zY (zb (cF (.int 3)) zp))) (zd wg (vF 0) (cF (.int 2))))) zp)) (zg (zY (zb (tupF (zb (zd wg (vF 0) (cF (.int 3))) (zb (zd wg (vF 0) (cF (.int 1))) (zb (cF (.int 3)) zp)))) zp)))) zp)) [.fr (.int m),.fr z,s2,e,b,a]=some (fR ("d",yp (r3 (m - 2))++[((m:Int) - 3,(m:Int) - 1,3)])):=λs2 =>
  ux (kU (yk (Zs rfl l 2 (by omega)) (by omega)) (CU rfl rfl rfl) (by rw [YB,j]; simp; omega))
 have o:∀ (f:FE) (ds:List D) (d:D),(∀ s2,f [.fr (.int m),.fr z,s2,e,b,a]=some d)->ds.length<=50->xy 2 f [.fr (.int m),.fr z,.ol ds,e,b,a]=some (.nx [.fr (.int m),.fr z,.ol (ds++[d]),e,b,a]):=λf ds d p hd=>by
  rw [wy,p]
  simp only [ak,au,aw,if_pos (show ds.length < sizeLine from xM (by omega)),aK,aJ]
 rw [zt,w5,a1]
 simp only [ak,aK,aJ]
 rw [zt,yD,q,ak]
 unfold jl
 by_cases i:1 < m
 .rw [if_pos (decide_eq_true i),if_pos i,o _ _ _ a2 (by simp),ak]
  dsimp only
  rw [zt,yD,n,ak]
  by_cases g:3 < m
  .rw [if_pos (decide_eq_true g),if_pos g,o _ _ _ a3 (by simp),ak]
   rfl
  .rw [if_neg (by simpa using g),if_neg g]
   rfl
 .have g:¬ 3 < m:=by omega
  rw [if_neg (by simpa using i),if_neg i,xD,ak]
  dsimp only
  rw [zt,yD,n,ak,if_neg (by simpa using g),if_neg g]
  rfl
def Ht:([1,2,3,4,5,6]:List Nat).all (λm=>(jl m).all λp=>(um m).any λB=>decide (kT B.1=p.1++sX (toString (m:Int)))&&decide (B.2=p.2)&&decide ((p.1++sX (toString (m:Int))).length<=100)&&decide (p.1.length+(sX (toString (m:Int))).length<=100))=true:=by decide +kernel
def HK:(aV 7).all (λm=>(uZ.getD m []).all λp=>(um m).any λB=>decide (kT B.1=p.1)&&decide (B.2=p.2))=true:=by decide +kernel
def My (m:Nat) (r:Option D):Prop:=∃ B:Bk,B∈um m/\r=some (.tup [.str (kT B.1),cD B.2])
def Hu (h1:1<=m) (d:m<=6) (a:p∈jl m):(∃ B:Bk,B∈um m/\kT B.1=p.1++sX (toString (m:Int))/\B.2=p.2)/\p.1.length+(sX (toString (m:Int))).length<=100:=by
 have b:m∈([1,2,3,4,5,6]:List Nat):=by
  have:m=1\/m=2\/m=3\/m=4\/m=5\/m=6:=by omega
  simpa using this
 obtain ⟨B,c,e⟩:=rN.mp (cw.mp (cw.mp Ht m b) p a)
 rw [du,du,du] at e
 exact ⟨⟨B,c,of_decide_eq_true e.1.1.1,of_decide_eq_true e.1.1.2⟩,of_decide_eq_true e.2⟩
def HL (c:m<=6) (a:p∈uZ.getD m []):∃ B:Bk,B∈um m/\kT B.1=p.1/\B.2=p.2:=by
 obtain ⟨B,b,e⟩:=rN.mp (cw.mp (cw.mp HK m (ip.mpr (by omega))) p a)
 rw [du] at e
 exact ⟨B,b,of_decide_eq_true e.1,of_decide_eq_true e.2⟩
abbrev eT (l:List Kp):D:=.lst (l.map fR)
def KH:zg (zY zp) ρ=some (eT []):=by
 rw [zr,KA rfl (by simp)]
 rfl
def Fc (h:f ρ=some (fR p)):zg (zY (zb f zp)) ρ=some (eT [p]):=by
 rw [zr,KA (yj h rfl) (by simp)]
 rfl
def Fb (h:f ρ=some (fR p)) (h':g ρ=some (fR q)):zg (zY (zb f (zb g zp))) ρ=some (eT [p,q]):=by
 rw [zr,KA (yj h (yj h' rfl)) (by simp)]
 rfl
def J7 (a b s2 d c e:Slot) (R:FS):xB (Ur 5 (zY (zb (zg (zY zp)) (zb (zg (zY zp)) (zb (zg (zY zp)) (zb (zg (zY (zb (tupF (zb (cF (.str "h3")) (zb (ya zl (zb (zg (zY (zb (cF (.int 3)) (zb (cF (.int 5)) zp)))) zp)) zp))) zp))) (zb (zg (zY (zb (tupF (zb (cF (.str "h4")) (zb (ya zl (zb (zg (zY (zb (cF (.int 3)) (zb (cF (.int 3)) (zb (cF (.int 5)) zp))))) zp)) zp))) (zb (tupF (zb (cF (.str "f4")) (zb (ya zl (zb (zg (zY (zb (cF (.int 3)) (zb (cF (.int 4)) (zb (cF (.int 3)) zp))))) zp)) zp))) zp)))) zp)))))))
  (xB (Ur 5 (Mg (vR 5) (zg (zY (zb (zg (zY zp)) (zb (zg (zY (zb (tupF (zb (cF (.str "e6")) (zb (zd yI (ya zl (zb (zg (zY (zb (cF (.int 3)) (zb (cF (.int 3)) (zb (cF (.int 3)) (zb (cF (.int 3)) zp)))))) zp)) (zg (zY (zb (tupF (zb (cF (.int 2)) (zb (cF (.int 5)) (zb (cF (.int 3)) zp)))) zp)))) zp))) zp))) zp))))))
  (xB (jm 5 (cF (.int 2)) (zg (zY (zb (tupF (zb (cF (.str "i5")) (zb (ya zl (zb (zg (zY (zb (cF (.int 5)) zp))) zp)) zp))) (zb (tupF (zb (cF (.str "i6")) (zb (ya zl (zb (zg (zY (zb (cF (.int 6)) zp))) zp)) zp))) zp))))) R)) [a,b,s2,d,c,e]=R [a,b,s2,d,c,.ol (uZ.map eT)]:=by
 have e1:∀ ρ:aI,zY (zb (zg (zY zp)) (zb (zg (zY zp)) (zb (zg (zY zp)) (zb (zg (zY (zb (tupF (zb (cF (.str "h3")) (zb (ya zl (zb (zg (zY (zb (cF (.int 3)) (zb (cF (.int 5)) zp)))) zp)) zp))) zp))) (zb (zg (zY (zb (tupF (zb (cF (.str "h4")) (zb (ya zl (zb (zg (zY (zb (cF (.int 3)) (zb (cF (.int 3)) (zb (cF (.int 5)) zp))))) zp)) zp))) (zb (tupF (zb (cF (.str "f4")) (zb (ya zl (zb (zg (zY (zb (cF (.int 3)) (zb (cF (.int 4)) (zb (cF (.int 3)) zp))))) zp)) zp))) zp)))) zp))))) ρ=some [eT [],eT [],eT [],eT [("h3",yp [3,5])],eT [("h4",yp [3,3,5]),("f4",yp [3,4,3])]]:=λρ =>
  KA (yj KH (yj KH (yj KH (yj (Fc (ux (yk Ng (by simp)))) (yj (Fb (ux (yk N8 (by simp))) (ux (yk N8 (by simp)))) rfl))))) (by simp)
 have e2:∀ ρ:aI,zg (zY (zb (zg (zY zp)) (zb (zg (zY (zb (tupF (zb (cF (.str "e6")) (zb (zd yI (ya zl (zb (zg (zY (zb (cF (.int 3)) (zb (cF (.int 3)) (zb (cF (.int 3)) (zb (cF (.int 3)) zp)))))) zp)) (zg (zY (zb (tupF (zb (cF (.int 2)) (zb (cF (.int 5)) (zb (cF (.int 3)) zp)))) zp)))) zp))) zp))) zp))) ρ=some (.lst [eT [],eT [("e6",yp [3,3,3,3]++[(2,5,3)])]]):=λρ=>by
  rw [zr,KA (yj KH (yj (Fc (ux (kU (yk PQ (by simp)) (CU rfl rfl rfl) (by rw [YB]; simp)))) rfl)) (by simp)]
  rfl
 have f:∀ ρ:aI,zg (zY (zb (tupF (zb (cF (.str "i5")) (zb (ya zl (zb (zg (zY (zb (cF (.int 5)) zp))) zp)) zp))) (zb (tupF (zb (cF (.str "i6")) (zb (ya zl (zb (zg (zY (zb (cF (.int 6)) zp))) zp)) zp))) zp))) ρ=some (eT [("i5",yp [5]),("i6",yp [6])]):=λρ =>
  Fb (ux (yk Bz (by simp))) (ux (yk Bz (by simp)))
 rw [zt,w5,e1]
 simp only [ak,aK,aJ]
 rw [zt,w5,C7,e2]
 have hz:7<=sizeLine:=aT (by omega)
 simp only [UL,aw,au,ak,aM,aN,cW,Nat.reduceAdd,if_pos hz,aK,aJ]
 rw [zt]
 unfold jm
 rw [f]
 rfl
def NI (l:List Kp) (i:Nat) (p:Kp) (h:l[i]? = some p):aE (eT l) (.int (i:Int))=some (fR p):=uK (by rw [dX,h]; rfl)
def Hg {l:List Kp} (hl:l≠[]) (z:Int) (k:Nat) (hk:k=l.length):∃ p∈l,aE (eT l) (.int (z % (k:Int)))=some (fR p):=by
 subst hk
 have p_:0 < l.length:=g3f.mpr hl
 have h0:0<=z % (l.length:Int):=B_ _ (by omega)
 have h1:z % (l.length:Int) < l.length:=AQ _ (by omega)
 have e:((z % (l.length:Int)).toNat:Int)=z % (l.length:Int):=by omega
 have fD:(z % (l.length:Int)).toNat < l.length:=by omega
 refine ⟨l[(z % (l.length:Int)).toNat],List.getElem_mem fD,?_⟩
 have:=NI l _ _ (fq fD)
 rwa [e] at this
def Hr (m:Nat) (a:m<=6):Cy [.int m]=some (.str (sX (toString (m:Int)))):=by
 unfold Cy
 exact if_pos (g3h (Nat.log2_le_self _) (by omega))
def Ue (m:Nat) (z:Int) (h1:1<=m) (f:m<=6):My m (wq [.int m,.int z]):=by
 have v:jl m≠[]:=by unfold jl; simp
 obtain ⟨p,A,ep⟩:=Hg v z (jl m).length rfl
 have I:0 < (jl m).length:=g3f.mpr v
 have x:=xg (i:=z) (show (0:Int) < (jl m).length by omega)
 obtain ⟨⟨B,F,s,r⟩,d⟩:=Hu h1 f A
 have start:wq [.int m,.int z]=Zr (uq [.fr (.int m),.fr (.int z),.no,.no,.no,.no]):=rfl
 have ad:yI (.str p.1) (.str (sX (toString (m:Int))))=some (.str (p.1++sX (toString (m:Int)))):=by
  unfold yI
  exact if_pos (aT d)
 rw [start]
 unfold uq
 rw [JP m (.int z) h1 f]
 have e1:zd aE (vR 2) (zd Zc (vF 1) (ya jA (zb (vR 2) zp))) [.fr (.int m),.fr (.int z),.ol ((jl m).map fR),.no,.no,.no]=some (.tup [.str p.1,cD p.2]):=by
  simp only [zk,UL,zT,zG,zh,zm,au,aw,ak,vL,aC,x]
  exact ep
 rw [zt,W7,e1]
 simp only [ak,uU,aM,aN,cW,Nat.reduceAdd,if_true,vn,xf,uV,aK,aJ]
 rw [zt,zQ]
 simp only [zk,zT,zG,zh,zm,au,aw,ak,Hr m f,ad,aK,aJ]
 rw [J7]
 have u:aE (.lst (uZ.map eT)) (.int (m:Int))=some (eT (uZ.getD m [])):=uK (by
  have:m < uZ.length:=by show m < 7; omega
  rw [dX,fL,fq this]
  rfl)
 have a:=uh (i:=z) (show (0:Int) < 8 by decide) (by decide)
 have e:=uh (i:=z) (show (0:Int) < 16 by decide) (by decide)
 have g:=xg (i:=z / 8) (show (0:Int) < 2 by decide)
 have fin:My m (some (.tup [.str (p.1++sX (toString (m:Int))),cD p.2])):=⟨B,F,by rw [s,r]⟩
 have G:2<=sizeLine:=aT (by omega)
 have b:Zr (qH (tupF (zb (vF 3) (zb (vF 4) zp))) [.fr (.int m),.fr (.int z),.ol ((jl m).map fR),.fr (.str (p.1++sX (toString (m:Int)))),.fr (cD p.2),.ol (uZ.map eT)])=some (.tup [.str (p.1++sX (toString (m:Int))),cD p.2]):=by
  simp only [ye,wt,zh,zm,zT,au,aw,ak,aM,aN,cW,Nat.reduceAdd,if_pos G,y4]
 rw [zt,yD]
 by_cases c:z / 8 % 2=0/\uZ.getD m []≠[]
 .have j:0 < (uZ.getD m []).length:=g3f.mpr c.2
  obtain ⟨q,y,eq⟩:=Hg c.2 (z / 16) (uZ.getD m []).length rfl
  have h:=xg (i:=z / 16) (show (0:Int) < (uZ.getD m []).length by omega)
  obtain ⟨C,E,o,n⟩:=HL f y
  have l:(0:Int) < (uZ.getD m []).length:=by omega
  simp only [Zn,yB,zk,zT,UL,yC,zG,zh,zm,au,aw,ak,a,g,c.1,jo,decide_true,if_true,u,vL,aC,HF,decide_eq_true l,ye,e,h,eq,y4]
  refine ⟨C,E,?_⟩
  rw [o,n]
  rfl
 .have e2:Us (aO (zd bt (zd Zc (zd vT (vF 1) (cF (.int 8))) (cF (.int 2))) (cF (.int 0)))) (aO (zd dW (ya jA (zb (zd aE (vR 5) (vF 0)) zp)) (cF (.int 0)))) [.fr (.int m),.fr (.int z),.ol ((jl m).map fR),.fr (.str (p.1++sX (toString (m:Int)))),.fr (cD p.2),.ol (uZ.map eT)]=some false:=by
   by_cases t:z / 8 % 2=0
   .have H:uZ.getD m []=[]:=Af λw=>c ⟨t,w⟩
    simp only [Zn,yB,zk,zT,UL,yC,zG,zh,zm,au,aw,ak,a,g,t,jo,decide_true,if_true,u,vL,aC,HF,H,aN]
    rfl
   .simp only [Zn,yB,zk,zT,yC,au,aw,ak,a,g,jo,decide_eq_false t,cM,if_false]
  rw [e2,ak,if_neg (by simp),xD,ak]
  dsimp only
  rw [b]
  exact fin
def jK (m:Nat):List T3:=YV (m - 1)
def dA (m:Nat):List (List T3):=[yp (r3 (m - 2)++[0]),yp ([5]++r3 (m - 3)++[4]),yp ([4]++r3 (m - 3)++[4]),yp (r3 (m - 2)++[6]),yp (r3 (m - 1))++[(0,(m:Int) - 1,3)],yp (r3 (m - 2)++[5])]
def fQ (m:Nat):List (List T3):=[yp (r3 (m - 2))++[((m:Int) - 3,(m:Int) - 1,4)],yp ([3,5]++r3 (m - 3)),jK m++[(1,2,3)]]
def DM:((0,0),yp [0])∈um 2:=by decide +kernel
def DL:((dA 3).take 5++[yp [5,5]]).all (λt=>decide (((0,0),t)∈um 3))=true:=by decide +kernel
def DK:((dA 4).take 5++fQ 4).all (λt=>decide (((0,0),t)∈um 4))=true:=by decide +kernel
def DH:(dA 5++fQ 5++[jK 5]).all (λt=>decide (((0,0),t)∈um 5))=true:=by decide +kernel
def DF:(dA 6++fQ 6++[jK 6]).all (λt=>decide (((0,0),t)∈um 6))=true:=by decide +kernel
abbrev eY (l:List (List T3)):D:=.lst (l.map cD)
def ZI (a b:List (List T3)) (h:a.length+b.length<=100):yI (eY a) (eY b)=some (eY (a++b)):=by
 unfold yI
 dsimp only
 rw [if_pos (by rw [aC,aC]; exact aT h),<- gC]
def D9 (h:f ρ=some (cD a)):zg (zY (zb f zp)) ρ=some (eY [a]):=by
 rw [zr,KA (yj h rfl) (by simp)]
 rfl
def BD (h:f ρ=some (cD a)) (h':g ρ=some (cD b)):zg (zY (zb f (zb g zp))) ρ=some (eY [a,b]):=by
 rw [zr,KA (yj h (yj h' rfl)) (by simp)]
 rfl
def Cq {l:List (List T3)} (z:Int) (k:Nat) (hk:k=l.length) (hl:0 < k):∃ p∈l,aE (eY l) (.int (z % (k:Int)))=some (cD p):=by
 subst hk
 have h0:0<=z % (l.length:Int):=B_ _ (by omega)
 have h1:z % (l.length:Int) < l.length:=AQ _ (by omega)
 have e:((z % (l.length:Int)).toNat:Int)=z % (l.length:Int):=by omega
 have fD:(z % (l.length:Int)).toNat < l.length:=by omega
 refine ⟨l[(z % (l.length:Int)).toNat],List.getElem_mem fD,?_⟩
 have:aE (eY l) (.int ((z % (l.length:Int)).toNat:Int))=some (cD (l[(z % (l.length:Int)).toNat])):=uK (by rw [dX,fq fD]; rfl)
 rwa [e] at this
noncomputable abbrev UG:FE:=zg (vD 1 [] (Dc (zb (cF (.int 1)) (zb (vF 0) zp))) (zO 0) eG (tupF (zb (cF (.int 0)) (zb (vF 0) (zb (cF (.int 3)) zp)))))
def JK (h:ρ[0]? = some (.fr (.int m))) (b:1<=m) (d:m<=6):UG ρ=some (cD (jK m)):=by
 have a:j6 [.int 1,.int (m:Int)]=some ((idx (m - 1)).map λk=>.int (k+1)):=by
  rw [j5 (by omega) (by omega) (by omega) (by omega)]
  unfold yt idx
  rw [cN,show ((m:Int) - 1).toNat=m - 1 by omega]
  congr 1
  exact mq λk _=>by simp; omega
 have e1:=vA (f:=tupF (zb (cF (.int 0)) (zb (vF 0) (zb (cF (.int 3)) zp)))) (C:=[]) (ι:=λk:Int=>D.int (k+1)) (φ:=λk=>.tup [.int 0,.int (k+1),.int 3]) (idx (m - 1)) .no (λk c=>by
  have hz:3<=sizeLine:=aT (by omega)
  simp only [wt,zh,zm,zT,yC,au,aw,ak,aM,aN,cW,Nat.reduceAdd,if_pos hz])
 have hz:((idx (m - 1)).map λk:Int=>D.int (k+1)).length<=sizeLine:=by rw [aC,xu]; exact aT (by omega)
 simp only [UG,zr,yv,UN,zh,zm,yC,zT,h,ak,a,if_pos hz,yK,bq,cO,aL,e1,bg]
 congr 2
 unfold jK YV idx
 rw [cN,cN]
 exact mq λk _=>rfl
def Pb (m:Nat) (k:Nat):decide ((m:Int)=(k:Int))=decide (m=k):=by
 by_cases c:m=k
 .subst c; simp
 .have:¬ (m:Int)=(k:Int):=by omega
  simp [c,this]
def Ql (m:Nat) (z:Int) (h1:2<=m) (g:m<=6):My m (vS [.int m,.int z]):=by
 have w:=Y4 (m - 1)
 have j:=Y4 (m - 2)
 have b:=Y4 (m - 3)
 have start:vS [.int m,.int z]=Zr (qz.1 [.fr (.int m),.fr (.int z),.no,.no]):=rfl
 rw [start]
 unfold qz
 dsimp only [aM,aN,cW,Nat.reduceAdd]
 have M1:∀ (s2 a:Slot),zg (je (zg (zY (zb (cF (.int 3)) zp))) (zd wg (vF 0) (cF (.int 1)))) [.fr (.int m),.fr (.int z),s2,a]=some (lD (r3 (m - 1))):=λs2 a=>Zs rfl g 1 (by omega)
 have M2:∀ (s2 a:Slot),zg (je (zg (zY (zb (cF (.int 3)) zp))) (zd wg (vF 0) (cF (.int 2)))) [.fr (.int m),.fr (.int z),s2,a]=some (lD (r3 (m - 2))):=λs2 a=>Zs rfl g 2 (by omega)
 have u:∀ (s2 a:Slot),zg (je (zg (zY (zb (cF (.int 3)) zp))) (zd wg (vF 0) (cF (.int 3)))) [.fr (.int m),.fr (.int z),s2,a]=some (lD (r3 (m - 3))):=λs2 a=>Zs rfl g 3 (by omega)
 have n:∀ (k:Int) (s2 a:Slot),ya zl (zb (zd yI (zg (je (zg (zY (zb (cF (.int 3)) zp))) (zd wg (vF 0) (cF (.int 2))))) (zg (zY (zb (cF (.int k)) zp)))) zp) [.fr (.int m),.fr (.int z),s2,a]=some (cD (yp (r3 (m - 2)++[k]))):=λk s2 a =>
  yk (XW (M2 s2 a) Bz (by rw [j]; simp; omega)) (by rw [bX,j]; simp; omega)
 have s:∀ (k:Int) (s2 a:Slot),ya zl (zb (zd yI (zd yI (zg (zY (zb (cF (.int k)) zp))) (zg (je (zg (zY (zb (cF (.int 3)) zp))) (zd wg (vF 0) (cF (.int 3)))))) (zg (zY (zb (cF (.int 4)) zp)))) zp) [.fr (.int m),.fr (.int z),s2,a]=some (cD (yp ([k]++r3 (m - 3)++[4]))):=λk s2 a =>
  yk (XW (XW Bz (u s2 a) (by rw [b]; simp; omega)) Bz (by rw [bX,b]; simp; omega)) (by rw [bX,bX,b]; simp; omega)
 have s1:=λ(s2 a:Slot)=>BD (n 0 s2 a) (s 5 s2 a)
 have s2:=λ(s2 a:Slot)=>BD (s 4 s2 a) (n 6 s2 a)
 have v:∀ (s2 a:Slot),zd yI (ya zl (zb (zg (je (zg (zY (zb (cF (.int 3)) zp))) (zd wg (vF 0) (cF (.int 1))))) zp)) (zg (zY (zb (tupF (zb (cF (.int 0)) (zb (zd wg (vF 0) (cF (.int 1))) (zb (cF (.int 3)) zp)))) zp))) [.fr (.int m),.fr (.int z),s2,a]=some (cD (yp (r3 (m - 1))++[(0,(m:Int) - 1,3)])):=λs2 a =>
  kU (yk (M1 s2 a) (by omega)) (CU rfl rfl rfl) (by rw [YB,w]; simp; omega)
 have a:=λ(s2 a:Slot)=>BD (v s2 a) (n 5 s2 a)
 rw [zt,zQ,s1]
 simp only [ak,aK,aJ]
 rw [zt,zQ,zk,s2]
 simp only [zT,au,aw,ak]
 rw [ZI _ _ (by simp)]
 simp only [ak,aK,aJ]
 rw [zt,zQ,zk,a]
 simp only [zT,au,aw,ak]
 rw [ZI _ _ (by simp)]
 simp only [ak,aK,aJ]
 have B:([yp (r3 (m - 2)++[0]),yp ([5]++r3 (m - 3)++[4])]++[yp ([4]++r3 (m - 3)++[4]),yp (r3 (m - 2)++[6])]++[yp (r3 (m - 1))++[(0,(m:Int) - 1,3)],yp (r3 (m - 2)++[5])]:List (List T3))=dA m:=rfl
 rw [B]
 have mk:∀ t:List T3,((0,0),t)∈um m->My m (some (.tup [.str "-",cD t])):=λt ht=>⟨_,ht,rfl⟩
 have tp:∀ {f:FE} {ρ:aI} {t:List T3},f ρ=some (cD t)->tupF (zb (cF (.str "-")) (zb f zp)) ρ=some (.tup [.str "-",cD t]):=λh=>ux h
 have A:aO (zd bt (vF 0) (cF (.int 2))) [.fr (.int m),.fr (.int z),.fr (eY (dA m)),.no]=some (decide (m=2)):=by
  simp only [yB,zk,zT,yC,au,ak,jo]
  exact congrArg some (Pb m 2)
 have y:aO (zd bt (vF 0) (cF (.int 3))) [.fr (.int m),.fr (.int z),.fr (eY (dA m)),.no]=some (decide (m=3)):=by
  simp only [yB,zk,zT,yC,au,ak,jo]
  exact congrArg some (Pb m 3)
 rw [zt,yD,A,ak]
 by_cases r:m=2
 .subst r
  rw [if_pos (decide_eq_true rfl),ye,tp (yk Bz (by simp))]
  exact mk _ DM
 rw [if_neg (by simpa using r),xD,ak]
 dsimp only
 have sl:∀ a:Slot,qV (vF 2) pL (ir (cF (.int 5))) [.fr (.int m),.fr (.int z),.fr (eY (dA m)),a]=some (eY ((dA m).take 5)):=λa=>rfl
 rw [zt,yD,y,ak]
 by_cases q:m=3
 .subst q
  obtain ⟨t,ht,e⟩:=Cq (l:=(dA 3).take 5++[yp [5,5]]) z 6 rfl (by omega)
  have d:=xg (i:=z) (show (0:Int) < 6 by decide)
  have e1:zd aE (zd yI (qV (vF 2) pL (ir (cF (.int 5)))) (zg (zY (zb (ya zl (zb (zg (zY (zb (cF (.int 5)) (zb (cF (.int 5)) zp)))) zp)) zp)))) (zd Zc (vF 1) (cF (.int 6))) [.fr (.int ((3:Nat):Int)),.fr (.int z),.fr (eY (dA 3)),.no]=some (cD t):=by
   rw [zk,zk,sl,D9 (yk Ng (by simp))]
   simp only [ak]
   rw [ZI _ _ (by simp [dA])]
   simp only [zk,zT,yC,au,aw,ak,d]
   exact e
  rw [if_pos (decide_eq_true rfl),ye,tp e1]
  exact mk _ (of_decide_eq_true (cw.mp DL t ht))
 rw [if_neg (by simpa using q),xD,ak]
 dsimp only
 have H:∀ (s2 a:Slot),zd yI (ya zl (zb (zg (je (zg (zY (zb (cF (.int 3)) zp))) (zd wg (vF 0) (cF (.int 2))))) zp)) (zg (zY (zb (tupF (zb (zd wg (vF 0) (cF (.int 3))) (zb (zd wg (vF 0) (cF (.int 1))) (zb (cF (.int 4)) zp)))) zp))) [.fr (.int m),.fr (.int z),s2,a]=some (cD (yp (r3 (m - 2))++[((m:Int) - 3,(m:Int) - 1,4)])):=λs2 a =>
  kU (yk (M2 s2 a) (by omega)) (CU rfl rfl rfl) (by rw [YB,j]; simp; omega)
 have G:∀ (s2 a:Slot),ya zl (zb (zd yI (zg (zY (zb (cF (.int 3)) (zb (cF (.int 5)) zp)))) (zg (je (zg (zY (zb (cF (.int 3)) zp))) (zd wg (vF 0) (cF (.int 3)))))) zp) [.fr (.int m),.fr (.int z),s2,a]=some (cD (yp ([3,5]++r3 (m - 3)))):=λs2 a =>
  yk (XW Ng (u s2 a) (by rw [b]; simp; omega)) (by rw [bX,b]; simp; omega)
 have st:∀ (s2 a:Slot),UG [.fr (.int m),.fr (.int z),s2,a]=some (cD (jK m)):=λs2 a=>JK rfl (by omega) g
 have I:(jK m).length<=10:=by unfold jK YV; simp; omega
 have F:∀ (s2 a:Slot),zd yI UG (zg (zY (zb (tupF (zb (cF (.int 1)) (zb (cF (.int 2)) (zb (cF (.int 3)) zp)))) zp))) [.fr (.int m),.fr (.int z),s2,a]=some (cD (jK m++[(1,2,3)])):=λs2 a =>
  kU (st s2 a) (CU rfl rfl rfl) (by simp; omega)
 rw [zt,w5,KA (yj (H _ _) (yj (G _ _) rfl)) (by simp)]
 simp only [ak,aK,aJ]
 rw [zt,wy,F]
 have C:2 < sizeLine:=xM (by omega)
 simp only [ak,au,aw,aM,aN,cW,Nat.reduceAdd,if_pos C,aK,aJ]
 have eB:([cD (yp (r3 (m - 2))++[((m:Int) - 3,(m:Int) - 1,4)]),cD (yp ([3,5]++r3 (m - 3)))]++[cD (jK m++[(1,2,3)])]:List D)=(fQ m).map cD:=rfl
 rw [eB]
 have x:aO (zd dW (vF 0) (cF (.int 4))) [.fr (.int m),.fr (.int z),.fr (eY (dA m)),.ol ((fQ m).map cD)]=some (decide (4 < m)):=by
  by_cases c:4 < m
  .have o:(4:Int) < m:=by omega
   simp [c,o]
  .have o:¬ (4:Int) < m:=by omega
   simp [c,o]
 rw [zt,yD,x,ak]
 have p:vR 3 [.fr (.int m),.fr (.int z),.fr (eY (dA m)),.ol ((fQ m).map cD)]=some (eY (fQ m)):=rfl
 by_cases E:4 < m
 .rw [if_pos (decide_eq_true E)]
  obtain ⟨t,ht,e⟩:=Cq (l:=dA m++fQ m++[jK m]) z 10 rfl (by omega)
  have d:=xg (i:=z) (show (0:Int) < 10 by decide)
  have e1:zd aE (zd yI (zd yI (vF 2) (vR 3)) (zg (zY (zb UG zp)))) (zd Zc (vF 1) (cF (.int 10))) [.fr (.int m),.fr (.int z),.fr (eY (dA m)),.ol ((fQ m).map cD)]=some (cD t):=by
   rw [zk,zk,zk,p,D9 (st _ _)]
   simp only [zT,au,aw,ak]
   rw [ZI _ _ (by simp [dA,fQ])]
   simp only [ak]
   rw [ZI _ _ (by simp [dA,fQ])]
   simp only [zk,zT,yC,au,aw,ak,d]
   exact e
  rw [ye,tp e1]
  refine mk _ ?_
  rcases (show m=5\/m=6 by omega) with rfl | rfl
  .exact of_decide_eq_true (cw.mp DH t ht)
  .exact of_decide_eq_true (cw.mp DF t ht)
 .have:m=4:=by omega
  subst this
  rw [if_neg (by simp),xD,ak]
  dsimp only
  obtain ⟨t,ht,e⟩:=Cq (l:=(dA 4).take 5++fQ 4) z 8 rfl (by omega)
  have d:=xg (i:=z) (show (0:Int) < 8 by decide)
  have e1:zd aE (zd yI (qV (vF 2) pL (ir (cF (.int 5)))) (vR 3)) (zd Zc (vF 1) (cF (.int 8))) [.fr (.int ((4:Nat):Int)),.fr (.int z),.fr (eY (dA 4)),.ol ((fQ 4).map cD)]=some (cD t):=by
   rw [zk,zk,sl,p]
   simp only [ak]
   rw [ZI _ _ (by simp [dA,fQ])]
   simp only [zk,zT,yC,au,aw,ak,d]
   exact e
  rw [ye,tp e1]
  exact mk _ (of_decide_eq_true (cw.mp DK t ht))
def Ui (p:Int×bA):D:=.tup [.lst ((idx p.2.1).map λi=>.int (p.1+i)),.str (kT p.2.2.1)]
def Cm:(aV 7).all (λk=>(um k).all λB=>decide (B.2.length<=7))=true:=by decide +kernel
def Jr (h:B∈um k):B.2.length<=7/\k<=6:=by
 have a:k < 7:=by
  match k,h with
  | 0,h=>omega
  | 1,h=>omega
  | 2,h=>omega
  | 3,h=>omega
  | 4,h=>omega
  | 5,h=>omega
  | 6,h=>omega
  | n+7,h=>cases h
 exact ⟨of_decide_eq_true (cw.mp (cw.mp Cm k (ip.mpr a)) B h),by omega⟩
def J3 (h:fa ρ=some [.int i,.int j]) (h1 : -1000<=i) (h2:i<=1000) (b : -1000<=j) (a:j<=1000):Z6 fa ρ=some (yt i j):=by
 have c:(-(2 ^ 62)<=i/\i < 2 ^ 62 /\ -(2 ^ 62)<=j/\j < 2 ^ 62)/\(j - i).toNat<=1000000:=⟨⟨by omega,by omega,by omega,by omega⟩,by omega⟩
 unfold Z6
 rw [h]
 exact if_pos c
noncomputable abbrev bC:FT:=aO (zd pT (vF 5) (vF 2))
noncomputable abbrev bB:FS:=xB (vk 6 (ya wV (zb (ya kG (zb (vF 0) (zb (zd yI (cF (.int 1)) (vF 5)) zp))) (zb (cF (.int 2)) zp)))) (xB (vk 7 (zd yI (cF (.int 1)) (zd Zc (vF 6) (zd wg (vF 2) (vF 5))))) (xB (cn (aO (zd bt (zd Zc (zd vT (vF 6) (cF (.int 6))) (cF (.int 3))) (cF (.int 0)))) (vk 7 (zd wg (vF 2) (vF 5))) cK) (xB (vk 8 (ya wq (zb (vF 7) (zb (zd vT (vF 6) (cF (.int 32))) zp)))) (xB (cn (Us (aO (zd dW (vF 7) (cF (.int 1)))) (aO (zd bt (zd Zc (zd vT (vF 6) (cF (.int 18))) (cF (.int 4))) (cF (.int 0))))) (vk 8 (ya vS (zb (vF 7) (zb (zd vT (vF 6) (cF (.int 32))) zp)))) cK) (xB (vU 3 (zg (vD 3 [5] (yz (zd aE (vF 8) (cF (.int 1)))) (jj 3 (yh (zO 0) (yh (zO 1) (yh (zO 2) kh)))) eG (tupF (zb (zd yI (vF 3) (vF 0)) (zb (zd yI (vF 3) (vF 1)) (zb (vF 2) zp))))))) (xB (xy 4 (tupF (zb (zg (Z6 (zb (vF 5) (zb (zd yI (vF 5) (vF 7)) zp)))) (zb (zd aE (vF 8) (cF (.int 0))) zp)))) (vk 5 (zd yI (vF 5) (vF 7)))))))))
def Up (ns:List Int) (d:Slot) (n b:Nat) (hn:n<=6) (hb:b < n) (a e:List D) (h3:a.length<=50) (h4:e.length<=10) (H r g:Slot) :
  ∃ (m:Nat) (B:Bk) (v j T:Slot),1<=m/\m<=n - b/\B∈um m/\bB [.fr (lD ns),d,.fr (.int n),.ol a,.ol e,.fr (.int b),H,r,g] =
   some (.nx [.fr (lD ns),d,.fr (.int n),.ol (a++(B.2.map (dq b)).map tD),.ol (e++[Ui ((b:Int),(m,B))]),.fr (.int ((b+m:Nat):Int)),v,j,T]):=by
 obtain ⟨c,hc⟩:=He ns (1+b) (by omega)
 have G:(1:Int)+(b:Int)=((1+b:Nat):Int):=by omega
 obtain ⟨z,z0,z1,hz⟩:=Wi c 2 (by omega)
 have hz:wV [.int c,.int 2]=some (.int z):=hz
 have J:=xg (i:=z) (show (0:Int) < (n:Int) - b by omega)
 have p:=uh (i:=z) (show (0:Int) < 6 by decide) (by decide)
 have o:=xg (i:=z / 6) (show (0:Int) < 3 by decide)
 have x:=uh (i:=z) (show (0:Int) < 32 by decide) (by decide)
 have I:=uh (i:=z) (show (0:Int) < 18 by decide) (by decide)
 have l:=xg (i:=z / 18) (show (0:Int) < 4 by decide)
 have Y:0<=z % ((n:Int) - b):=B_ _ (by omega)
 have X:z % ((n:Int) - b) < (n:Int) - b:=AQ _ (by omega)
 have Z:∃ (m:Nat) (j:Slot),1<=m/\m<=n - b/\∀ R:FS,xB (vk 7 (zd yI (cF (.int 1)) (zd Zc (vF 6) (zd wg (vF 2) (vF 5))))) (xB (cn (aO (zd bt (zd Zc (zd vT (vF 6) (cF (.int 6))) (cF (.int 3))) (cF (.int 0)))) (vk 7 (zd wg (vF 2) (vF 5))) cK) R) [.fr (lD ns),d,.fr (.int n),.ol a,.ol e,.fr (.int b),.fr (.int z),r,g]=R [.fr (lD ns),d,.fr (.int n),.ol a,.ol e,.fr (.int b),.fr (.int z),.fr (.int m),g]:=by
  by_cases q:z / 6 % 3=0
  .refine ⟨n - b,.no,by omega,by omega,λR=>?_⟩
   simp only [zt,zQ,yD,yB,zk,yC,zT,au,aw,ak,VW,J,uu,aK,aJ,p,o,q,jo,decide_true,if_true]
   rw [show (n:Int) - b=((n - b:Nat):Int) by omega]
  .refine ⟨(1+z % ((n:Int) - b)).toNat,.no,by omega,by omega,λR=>?_⟩
   simp only [zt,zQ,yD,yB,zk,yC,zT,au,aw,ak,VW,J,uu,aK,aJ,p,o,jo,decide_eq_false q,cM,if_false,xD]
   rw [show (((1+z % ((n:Int) - b)).toNat:Nat):Int)=1+z % ((n:Int) - b) by omega]
 obtain ⟨m,_,L,U,em⟩:=Z
 have h:∃ B:Bk,B∈um m/\∀ R:FS,xB (vk 8 (ya wq (zb (vF 7) (zb (zd vT (vF 6) (cF (.int 32))) zp)))) (xB (cn (Us (aO (zd dW (vF 7) (cF (.int 1)))) (aO (zd bt (zd Zc (zd vT (vF 6) (cF (.int 18))) (cF (.int 4))) (cF (.int 0))))) (vk 8 (ya vS (zb (vF 7) (zb (zd vT (vF 6) (cF (.int 32))) zp)))) cK) R) [.fr (lD ns),d,.fr (.int n),.ol a,.ol e,.fr (.int b),.fr (.int z),.fr (.int m),g]=R [.fr (lD ns),d,.fr (.int n),.ol a,.ol e,.fr (.int b),.fr (.int z),.fr (.int m),.fr (.tup [.str (kT B.1),cD B.2])]:=by
  obtain ⟨B,h,eB⟩:=Ue m (z / 32) L (by omega)
  by_cases q:1 < m/\z / 18 % 4=0
  .obtain ⟨C,hC,eC⟩:=Ql m (z / 32) (by omega) (by omega)
   refine ⟨C,hC,λR=>?_⟩
   have s:(1:Int) < m:=by omega
   simp only [zt,zQ,yD,Zn,yB,zk,yC,zT,zG,zh,zm,au,aw,ak,x,eB,aK,aJ,HF,decide_eq_true s,if_true,I,l,q.2,jo,decide_true,eC]
  .refine ⟨B,h,λR=>?_⟩
   by_cases s:(1:Int) < m
   .have Q:¬ z / 18 % 4=0:=λw=>q ⟨by omega,w⟩
    simp only [zt,zQ,yD,Zn,yB,zk,yC,zT,zG,zh,zm,au,aw,ak,x,eB,aK,aJ,HF,decide_eq_true s,if_true,I,l,jo,decide_eq_false Q,cM,if_false,xD]
   .simp only [zt,zQ,yD,Zn,yB,zk,yC,zT,zG,zh,zm,au,aw,ak,x,eB,aK,aJ,HF,decide_eq_false s,cM,if_false,xD]
 obtain ⟨B,h,eB⟩:=h
 obtain ⟨bl,_⟩:=Jr h
 have e1:=Ha (ft:=eG) (f:=tupF (zb (zd yI (vF 3) (vF 0)) (zb (zd yI (vF 3) (vF 1)) (zb (vF 2) zp)))) (C:=[.fr (.int b)]) (ι:=λu:T3=>.int u.1) (κ:=λu:T3=>.int u.2.1) (μ:=λu:T3=>.int u.2.2) (q:=λ_=>true) (φ:=λu=>tD (dq b u)) B.2 .no .no .no (λ_ _=>rfl) (λu _ _=>by
  have W:3<=sizeLine:=aT (by omega)
  simp only [wt,zh,zm,zT,zk,au,aw,ak,uu,aM,aN,cW,Nat.reduceAdd,if_pos W]
  rfl)
 rw [List.filter_eq_self.mpr (λ_ _=>rfl)] at e1
 have e1:yT (jj 3 (yh (zO 0) (yh (zO 1) (yh (zO 2) kh)))) eG (tupF (zb (zd yI (vF 3) (vF 0)) (zb (zd yI (vF 3) (vF 1)) (zb (vF 2) zp)))) (B.2.map tD) [.no,.no,.no,.fr (.int b)]=some (B.2.map λu=>tD (dq b u)):=e1
 have E:(B.2.map tD).length<=sizeLine:=by rw [aC]; exact aT (by omega)
 have y:a.length+(B.2.map λu=>tD (dq b u)).length<=sizeLine:=by rw [aC]; exact aT (by omega)
 have A:e.length < sizeLine:=xM (by omega)
 have dC:2<=sizeLine:=aT (by omega)
 have F:some (yt (b:Int) ((b:Int)+m))=some ((idx m).map λi=>.int ((b:Int)+i)):=by
  unfold yt idx
  rw [cN,show ((b:Int)+m - b).toNat=m by omega]
  rfl
 have S:∀ (t:List D) (g:Slot),Z6 (zb (vF 5) (zb (zd yI (vF 5) (vF 7)) zp)) [.fr (lD ns),d,.fr (.int n),.ol t,.ol e,.fr (.int b),.fr (.int z),.fr (.int m),g]=some ((idx m).map λi=>.int ((b:Int)+i)):=λt g=>by
  have ea:zb (vF 5) (zb (zd yI (vF 5) (vF 7)) zp) [.fr (lD ns),d,.fr (.int n),.ol t,.ol e,.fr (.int b),.fr (.int z),.fr (.int m),g]=some [.int (b:Int),.int ((b:Int)+m)]:=by
   simp only [zh,zm,zT,zk,au,aw,ak,uu]
  rw [J3 ea (by omega) (by omega) (by omega) (by omega)]
  exact F
 refine ⟨m,B,.fr (.int z),.fr (.int m),.fr (.tup [.str (kT B.1),cD B.2]),L,U,h,?_⟩
 have e0:vk 6 (ya wV (zb (ya kG (zb (vF 0) (zb (zd yI (cF (.int 1)) (vF 5)) zp))) (zb (cF (.int 2)) zp))) [.fr (lD ns),d,.fr (.int n),.ol a,.ol e,.fr (.int b),H,r,g]=some (.nx [.fr (lD ns),d,.fr (.int n),.ol a,.ol e,.fr (.int b),.fr (.int z),r,g]):=by
  simp only [zQ,zG,zh,zm,zT,zk,yC,au,aw,ak,uu,G,hc,hz,aK,aJ]
 unfold bB
 rw [zt,e0,ak]
 dsimp only
 rw [em,eB]
 have P:zg (vD 3 [5] (yz (zd aE (vF 8) (cF (.int 1)))) (jj 3 (yh (zO 0) (yh (zO 1) (yh (zO 2) kh)))) eG (tupF (zb (zd yI (vF 3) (vF 0)) (zb (zd yI (vF 3) (vF 1)) (zb (vF 2) zp))))) [.fr (lD ns),d,.fr (.int n),.ol a,.ol e,.fr (.int b),.fr (.int z),.fr (.int m),.fr (.tup [.str (kT B.1),cD B.2])]=some (.lst (B.2.map λu=>tD (dq b u))):=by
  simp only [zr,yv,zE,zk,zT,yC,au,aw,ak,pV,yA,if_pos E,yK,wZ,aH,bq,aL,bD,bu,e1,bg]
 have O:vU 3 (zg (vD 3 [5] (yz (zd aE (vF 8) (cF (.int 1)))) (jj 3 (yh (zO 0) (yh (zO 1) (yh (zO 2) kh)))) eG (tupF (zb (zd yI (vF 3) (vF 0)) (zb (zd yI (vF 3) (vF 1)) (zb (vF 2) zp)))))) [.fr (lD ns),d,.fr (.int n),.ol a,.ol e,.fr (.int b),.fr (.int z),.fr (.int m),.fr (.tup [.str (kT B.1),cD B.2])]=some (.nx [.fr (lD ns),d,.fr (.int n),.ol (a++B.2.map λu=>tD (dq b u)),.ol e,.fr (.int b),.fr (.int z),.fr (.int m),.fr (.tup [.str (kT B.1),cD B.2])]):=by
  rw [uW,P,ak]
  exact if_pos y
 have N:tupF (zb (zg (Z6 (zb (vF 5) (zb (zd yI (vF 5) (vF 7)) zp)))) (zb (zd aE (vF 8) (cF (.int 0))) zp)) [.fr (lD ns),d,.fr (.int n),.ol (a++B.2.map λu=>tD (dq b u)),.ol e,.fr (.int b),.fr (.int z),.fr (.int m),.fr (.tup [.str (kT B.1),cD B.2])]=some (Ui ((b:Int),(m,B))):=by
  rw [wt,zh,zr,S]
  simp only [bg,ak,zh,zm,zk,zT,yC,au,aw,mQ]
  exact if_pos dC
 have M:xy 4 (tupF (zb (zg (Z6 (zb (vF 5) (zb (zd yI (vF 5) (vF 7)) zp)))) (zb (zd aE (vF 8) (cF (.int 0))) zp))) [.fr (lD ns),d,.fr (.int n),.ol (a++B.2.map λu=>tD (dq b u)),.ol e,.fr (.int b),.fr (.int z),.fr (.int m),.fr (.tup [.str (kT B.1),cD B.2])]=some (.nx [.fr (lD ns),d,.fr (.int n),.ol (a++B.2.map λu=>tD (dq b u)),.ol (e++[Ui ((b:Int),(m,B))]),.fr (.int b),.fr (.int z),.fr (.int m),.fr (.tup [.str (kT B.1),cD B.2])]):=by
  rw [wy,N,ak]
  exact if_pos A
 rw [zt,O,ak]
 dsimp only
 rw [zt,M,ak]
 dsimp only
 rw [zQ]
 simp only [zk,zT,au,aw,ak,uu,aK,aJ]
 rw [cN,show (b:Int)+m=((b+m:Nat):Int) by omega]
 rfl
theorem ZH (ns:List Int) (c:Slot) (n:Nat) (o:n<=6):∀ (N r b:Nat) (a d:List D) (h g f:Slot),b+r=n->r < N->a.length<=7 * b->d.length<=b →
  ∃ (bs:List bA) (l j y:Slot),yZ bs=r/\(∀ B∈bs,B.2∈um B.1)/\yS bC bB N [.fr (lD ns),c,.fr (.int n),.ol a,.ol d,.fr (.int b),h,g,f] =
   some (.nx [.fr (lD ns),c,.fr (.int n),.ol (a++(cV b bs).map tD),.ol (d++(xW b bs).map Ui),.fr (.int n),l,j,y])
 | 0,r,b,a,d,h,g,f,h1,h2,G,F=>by omega
 | N+1,r,b,a,d,h,g,f,h1,h2,G,F=>by
  have p:bC [.fr (lD ns),c,.fr (.int n),.ol a,.ol d,.fr (.int b),h,g,f]=some (decide ((b:Int) < (n:Int))):=by
   simp only [bC,yB,zk,zT,au,aw,ak,NV]
  by_cases e:r=0
  .subst e
   have:b=n:=by omega
   subst this
   refine ⟨[],h,g,f,rfl,(λB i=>nomatch i),?_⟩
   unfold yS
   rw [p,decide_eq_false (by omega)]
   simp [cV,xW]
  .obtain ⟨m,B,w,v,u,J,I,i,es⟩:=Up ns c n b o (by omega) a d (by omega) (by omega) h g f
   obtain ⟨bl,_⟩:=Jr i
   obtain ⟨bs,t,s,q,L,A,z⟩:=ZH ns c n o N (r - m) (b+m) (a++(B.2.map (dq b)).map tD) (d++[Ui ((b:Int),(m,B))]) w v u (by omega) (by omega) (by rw [bX,aC,aC]; omega) (by rw [bX]; simp; omega)
   refine ⟨(m,B) :: bs,t,s,q,by unfold yZ; omega,λC E=>(aQ.mp E).elim (λe=>by rw [e]; exact i) (A C),?_⟩
   unfold yS
   rw [p,decide_eq_true (by omega),ak,if_pos rfl,es,ak]
   dsimp only
   rw [z]
   have H:cV b ((m,B) :: bs)=B.2.map (dq b)++cV ((b:Int)+(m:Int)) bs:=rfl
   have x:xW b ((m,B) :: bs)=((b:Int),(m,B)) :: xW ((b:Int)+(m:Int)) bs:=rfl
   rw [H,x,gC,mn,aH,mn,show ((b+m:Nat):Int)=(b:Int)+(m:Int) by omega]
   rfl
def Jp (ns:List Int):∃ bs:List bA,1<=yZ bs/\yZ bs<=6/\(∀ B∈bs,B.2∈um B.1)/\kF [lD ns]=some (.tup [.int (yZ bs),cD (cV 0 bs),.lst ((xW 0 bs).map Ui)]):=by
 obtain ⟨c,b⟩:=He ns 0 (by omega)
 obtain ⟨z,l,z1,hz⟩:=Wi c 1 (by omega)
 have b:kG [lD ns,.int 0]=some (.int c):=b
 have hz:wV [.int c,.int 1]=some (.int z):=hz
 have e:=xg (i:=z) (show (0:Int) < 6 by decide)
 obtain ⟨n,g⟩:∃ n:Nat,(n:Int)=1+z % 6:=⟨(1+z % 6).toNat,by omega⟩
 obtain ⟨bs,p,o,m,j,h,a⟩:=ZH ns (.fr (.int z)) n (by omega) 100000 n 0 [] [] .no .no .no (by omega) (by omega) (by simp) (by simp)
 have d:0<=sizeLine:=fo _
 have f:3<=sizeLine:=aT (by omega)
 subst j
 refine ⟨bs,by omega,by omega,h,?_⟩
 simp only [kF,k7,yu,zP,aH,bq,aM,aN,Nat.reduceAdd,Nat.reduceSub,aL,bD,bu]
 rw [zt,zQ]
 simp only [zG,zh,zm,zT,yC,au,aw,ak,b,hz,aK,aJ]
 rw [zt,zQ]
 simp only [zk,zT,yC,au,aw,ak,e,uu,aK,aJ]
 rw [zt,w5]
 simp only [y6,zm,ak,aN,if_pos d,aK,aJ]
 rw [zt,w5]
 simp only [y6,zm,ak,aN,if_pos d,aK,aJ]
 rw [zt,zQ]
 simp only [yC,ak,aK,aJ]
 rw [<- g,zt]
 have a:yS bC bB 100000 [.fr (lD ns),.fr (.int z),.fr (.int (yZ bs)),.ol [],.ol [],.fr (.int 0),.no,.no,.no]=_:=a
 rw [a,ak]
 dsimp only
 simp only [UP,HG,au,aw,ak,aK,aJ,ye,wt,zh,zm,zT,aM,aN,cW,Nat.reduceAdd,if_pos f,bu,y4]
 rfl
def sg (ord:List Int) (i:Int):Int:=ord.getD i.toNat 0
def MW (h:ord.Perm (idx n)):Rl n (sg ord):=by
 have p:ord.length=n:=by rw [h.length_eq,xu]
 have l:ord.Nodup:=h.nodup_iff.mpr (w8 n)
 have a:∀ i:Int,0<=i->i < n->∃ hi:i.toNat < ord.length,sg ord i=ord[i.toNat]:=λi r h1=>by
  have hi:i.toNat < ord.length:=by omega
  exact ⟨hi,by unfold sg; rw [fL,fq hi]; rfl⟩
 refine ⟨λi j hi d m o e=>?_,λi hi d=>?_,λy g c=>?_⟩
 .obtain ⟨b,e1⟩:=a i hi d
  obtain ⟨f,e2⟩:=a j m o
  rw [e1,e2] at e
  have:=(List.getElem_inj (h₀:=b) (h₁:=f) l).mp e
  omega
 .obtain ⟨b,e1⟩:=a i hi d
  rw [e1]
  exact xh.mp (h.subset (List.getElem_mem b))
 .have:y∈ord:=h.symm.subset (xh.mpr ⟨g,c⟩)
  obtain ⟨k,q,e⟩:=List.mem_iff_getElem.mp this
  obtain ⟨b,e1⟩:=a (k:Int) (by omega) (by omega)
  refine ⟨k,by omega,by omega,?_⟩
  rw [e1,<- e]
  rfl
def XX {n:Nat} {ord:List Int} (h:ord.Perm (idx n)) {i:Int} (b:0<=i) (h1:i < n):aE (lD ord) (.int i)=some (.int (sg ord i)):=by
 have a:ord.length=n:=by rw [h.length_eq,xu]
 have hi:i.toNat < ord.length:=by omega
 have:=Mu ord i.toNat (ord[i.toNat]) (fq hi)
 rw [show ((i.toNat:Nat):Int)=i by omega] at this
 rw [this]
 unfold sg
 rw [fL,fq hi]
 rfl
def W2 (h1:f ρ=some y) (h2:g ρ=some (.int k)) (b:ρ[i]? = some (.ol ds)) (c:0<=k) (a:k < ds.length):jm i g f ρ=some (.nx (ρ.set i (.ol (ds.set k.toNat y)))):=by
 have e:dI ds.length k=some k.toNat:=by
  unfold dI
  rw [if_pos (by omega)]
  simp [a]
  try omega
 unfold jm
 rw [h1,h2,b]
 show (dI ds.length k).bind _=_
 rw [e]
 rfl
noncomputable abbrev oB:FS:=xB (vk 6 (ya wV (zb (vF 5) (zb (cF (.int 3)) zp)))) (xB (vk 7 (zd Zc (vF 6) (vF 1))) (xB (vk 8 (zd Zc (zd vT (vF 6) (cF (.int 8))) (vF 1))) (xB (vk 9 (zd aE (vR 4) (vF 7))) (xB (jm 4 (vF 7) (zd aE (vR 4) (vF 8))) (jm 4 (vF 8) (vF 9))))))
def Kk (n:Nat) (M:1<=n) (a0 a2 a3 e d b r3 a:Slot) (c:Int) (ord:List Int) (h:ord.Perm (idx n)) (G F E C:Slot) :
  ∃ (p:List Int) (x w v u:Slot),p.Perm (idx n)/\oB [a0,.fr (.int n),a2,a3,.ol (ord.map D.int),.fr (.int c),G,F,E,C,e,d,b,r3,a]=some (.nx [a0,.fr (.int n),a2,a3,.ol (p.map D.int),.fr (.int c),x,w,v,u,e,d,b,r3,a]):=by
 obtain ⟨z,L,z1,hz⟩:=Wi c 3 (by omega)
 have hz:wV [.int c,.int 3]=some (.int z):=hz
 have N:ord.length=n:=by rw [h.length_eq,xu]
 have f:=xg (i:=z) (show (0:Int) < (n:Int) by omega)
 have fd:=uh (i:=z) (show (0:Int) < 8 by decide) (by decide)
 have l:=xg (i:=z / 8) (show (0:Int) < (n:Int) by omega)
 obtain ⟨i,hi⟩:∃ i,i=z % (n:Int):=⟨_,rfl⟩
 obtain ⟨j,g⟩:∃ j,j=z / 8 % (n:Int):=⟨_,rfl⟩
 have o:0<=i:=by rw [hi]; exact B_ _ (by omega)
 have i1:i < n:=by rw [hi]; exact AQ _ (by omega)
 have m:0<=j:=by rw [g]; exact B_ _ (by omega)
 have H:j < n:=by rw [g]; exact AQ _ (by omega)
 rw [<- hi] at f
 rw [<- g] at l
 have J:=XX h o i1
 have I:=XX h m H
 have r:i.toNat < ord.length:=by omega
 have q:j.toNat < ord.length:=by omega
 have B:sg ord i=ord[i.toNat]:=by unfold sg; rw [fL,fq r]; rfl
 have A:sg ord j=ord[j.toNat]:=by unfold sg; rw [fL,fq q]; rfl
 refine ⟨(ord.set i.toNat (sg ord j)).set j.toNat (sg ord i),.fr (.int z),.fr (.int i),.fr (.int j),.fr (.int (sg ord i)),?_,?_⟩
 .rw [B,A]
  exact (List.set_set_perm r q).trans h
 have t:jm 4 (vF 7) (zd aE (vR 4) (vF 8)) [a0,.fr (.int n),a2,a3,.ol (ord.map D.int),.fr (.int c),.fr (.int z),.fr (.int i),.fr (.int j),.fr (.int (sg ord i)),e,d,b,r3,a]=some (.nx [a0,.fr (.int n),a2,a3,.ol ((ord.map D.int).set i.toNat (.int (sg ord j))),.fr (.int c),.fr (.int z),.fr (.int i),.fr (.int j),.fr (.int (sg ord i)),e,d,b,r3,a]) :=
  W2 (y:=.int (sg ord j)) (ds:=ord.map D.int) (k:=i) (by simp only [zk,UL,zT,au,aw,ak]; exact I) rfl rfl o (by rw [aC]; omega)
 have s:jm 4 (vF 8) (vF 9) [a0,.fr (.int n),a2,a3,.ol ((ord.map D.int).set i.toNat (.int (sg ord j))),.fr (.int c),.fr (.int z),.fr (.int i),.fr (.int j),.fr (.int (sg ord i)),e,d,b,r3,a]=some (.nx [a0,.fr (.int n),a2,a3,.ol (((ord.map D.int).set i.toNat (.int (sg ord j))).set j.toNat (.int (sg ord i))),.fr (.int c),.fr (.int z),.fr (.int i),.fr (.int j),.fr (.int (sg ord i)),e,d,b,r3,a]) :=
  W2 (y:=.int (sg ord i)) (k:=j) rfl rfl rfl m (by rw [List.length_set,aC]; omega)
 unfold oB
 rw [zt,zQ]
 simp only [zG,zh,zm,zT,yC,au,aw,ak,hz,aK,aJ]
 rw [zt,zQ]
 simp only [zk,zT,au,aw,ak,f,aK,aJ]
 rw [zt,zQ]
 simp only [zk,zT,yC,au,aw,ak,fd,l,aK,aJ]
 rw [zt,zQ]
 simp only [zk,zT,UL,au,aw,ak,J,aK,aJ]
 rw [zt,t,ak]
 dsimp only
 rw [s,List.map_set,List.map_set]
theorem Ve (n:Nat) (s:1<=n) (a0 a2 a3 j i g r3 f:Slot):∀ (r:List Int) (ord:List Int) (l e d b a:Slot),ord.Perm (idx n) →
  ∃ (t:List Int) (z q p o m:Slot),t.Perm (idx n)/\ym (zO 5) oB (r.map D.int) [a0,.fr (.int n),a2,a3,.ol (ord.map D.int),l,e,d,b,a,j,i,g,r3,f]=some (.nx [a0,.fr (.int n),a2,a3,.ol (t.map D.int),z,q,p,o,m,j,i,g,r3,f])
 | [],ord,l,e,d,b,a,h=>⟨ord,l,e,d,b,a,h,rfl⟩
 | c :: r,ord,l,e,d,b,a,h=>by
  obtain ⟨C,q,p,o,m,A,e1⟩:=Kk n s a0 a2 a3 j i g r3 f c ord h e d b a
  obtain ⟨B,y,x,w,v,u,p2,e2⟩:=Ve n s a0 a2 a3 j i g r3 f r C (.fr (.int c)) q p o m A
  refine ⟨B,y,x,w,v,u,p2,?_⟩
  rw [aH]
  unfold ym
  rw [xf,ak]
  show (oB [a0,.fr (.int n),a2,a3,.ol (ord.map D.int),.fr (.int c),e,d,b,a,j,i,g,r3,f]).bind _=_
  rw [e1]
  exact e2
abbrev pF:FS:=xy 10 (tupF (zb (ya D0 (zb (zd aE (vR 4) (vF 7)) (zb (zd aE (vR 4) (vF 8)) zp))) (zb (ya JA (zb (zd aE (vR 4) (vF 7)) (zb (zd aE (vR 4) (vF 8)) zp))) (zb (vF 11) zp))))
theorem Y9 (n:Nat) (ord:List Int) (h:ord.Perm (idx n)) (a0 a1 a2 a3 d c b f r3 e:Slot):∀ (us:List T3) (a:List D) (l j m:Slot),Gn n us->a.length+us.length<=60 →
  ∃ p o g,ym (jj 3 (yh (zO 7) (yh (zO 8) (yh (zO 11) kh)))) pF (us.map tD) [a0,a1,a2,a3,.ol (ord.map D.int),d,c,l,j,b,.ol a,m,f,r3,e] =
   some (.nx [a0,a1,a2,a3,.ol (ord.map D.int),d,c,p,o,b,.ol (a++(us.map (i9 (sg ord))).map tD),g,f,r3,e])
 | [],a,l,j,m,_,_=>⟨l,j,m,by simp [ym]⟩
 | u :: us,a,l,j,m,hf,x=>by
  rw [aM] at x
  obtain ⟨f1,f2,y⟩:=hf u ba
  have r:=XX h f1 (by omega)
  have q:=XX h (i:=u.2.1) (by omega) y
  have s:3<=sizeLine:=aT (by omega)
  have hz:a.length < sizeLine:=xM (by omega)
  obtain ⟨p,o,g,t⟩:=Y9 n ord h a0 a1 a2 a3 d c b f r3 e us (a++[tD (i9 (sg ord) u)]) (.fr (.int u.1)) (.fr (.int u.2.1)) (.fr (.int u.2.2)) (λv w=>hf v (br _ w)) (by rw [bX]; simp; omega)
  refine ⟨p,o,g,?_⟩
  rw [aH]
  unfold ym
  have z:jj 3 (yh (zO 7) (yh (zO 8) (yh (zO 11) kh))) (tD u) [a0,a1,a2,a3,.ol (ord.map D.int),d,c,l,j,b,.ol a,m,f,r3,e]=some [a0,a1,a2,a3,.ol (ord.map D.int),d,c,.fr (.int u.1),.fr (.int u.2.1),b,.ol a,.fr (.int u.2.2),f,r3,e]:=rfl
  have e1:tupF (zb (ya D0 (zb (zd aE (vR 4) (vF 7)) (zb (zd aE (vR 4) (vF 8)) zp))) (zb (ya JA (zb (zd aE (vR 4) (vF 7)) (zb (zd aE (vR 4) (vF 8)) zp))) (zb (vF 11) zp))) [a0,a1,a2,a3,.ol (ord.map D.int),d,c,.fr (.int u.1),.fr (.int u.2.1),b,.ol a,.fr (.int u.2.2),f,r3,e]=some (tD (i9 (sg ord) u)):=by
   simp only [wt,zh,zm,zG,zk,UL,zT,au,aw,ak,r,q,MS,HC,aM,aN,cW,Nat.reduceAdd,if_pos s]
   rfl
  have e2:pF [a0,a1,a2,a3,.ol (ord.map D.int),d,c,.fr (.int u.1),.fr (.int u.2.1),b,.ol a,.fr (.int u.2.2),f,r3,e]=some (.nx [a0,a1,a2,a3,.ol (ord.map D.int),d,c,.fr (.int u.1),.fr (.int u.2.1),b,.ol (a++[tD (i9 (sg ord) u)]),.fr (.int u.2.2),f,r3,e]):=by
   unfold pF
   rw [wy,e1,ak]
   exact if_pos hz
  rw [z,ak,e2,ak]
  dsimp only
  rw [t]
  simp
noncomputable abbrev fB:FS:=BX 4 (xy 12 (tupF (zb (zg (VR (zb (zg (vD 1 [4] (yz (vF 13)) (zO 0) eG (zd aE (vF 1) (vF 0)))) zp))) (zb (vF 14) zp))))
theorem Zw (bs:List bA) (ord:List Int) (z:Hs bs (sg ord)) (h:ord.Perm (idx (yZ bs))) (G:yZ bs<=9) (a0 a1 a2 a3 g e d c b l j:Slot):∀ (ps:List (Int×bA)) (a:List D) (m o s:Slot),(∀ p∈ps,p∈xW 0 bs)->a.length+ps.length<=60->(m=.ol (ord.map D.int)\/m=.fr (lD ord)) →
  ∃ u v n,ym (jj 2 (yh (zO 13) (yh (zO 14) kh))) fB (ps.map Ui) [a0,a1,a2,a3,m,g,e,d,c,b,l,j,.ol a,o,s] =
   some (.nx [a0,a1,a2,a3,u,g,e,d,c,b,l,j,.ol (a++(ps.map (X9 kT (sg ord))).map cG),v,n])
 | [],a,m,o,s,_,_,_=>⟨m,o,s,by simp [ym]⟩
 | p :: ps,a,m,o,s,A,F,H=>by
  rw [aM] at F
  have t:=A p ba
  have P:=xp t
  obtain ⟨u,v,n,B⟩:=Zw bs ord z h G a0 a1 a2 a3 g e d c b l j ps (a++[cG (X9 kT (sg ord) p)]) (.fr (lD ord)) (.fr (.lst ((idx p.2.1).map λi=>.int (p.1+i)))) (.fr (.str (kT p.2.2.1))) (λq E=>A q (br _ E)) (by rw [bX]; simp; omega) (.inr rfl)
  refine ⟨u,v,n,?_⟩
  rw [aH]
  unfold ym
  have N:jj 2 (yh (zO 13) (yh (zO 14) kh)) (Ui p) [a0,a1,a2,a3,m,g,e,d,c,b,l,j,.ol a,o,s]=some [a0,a1,a2,a3,m,g,e,d,c,b,l,j,.ol a,.fr (.lst ((idx p.2.1).map λi=>.int (p.1+i))),.fr (.str (kT p.2.2.1))]:=rfl
  have e1:=vA (f:=zd aE (vF 1) (vF 0)) (C:=[.fr (lD ord)]) (ι:=λi:Int=>D.int (p.1+i)) (φ:=λi=>.int (sg ord (p.1+i))) (idx p.2.1) .no (λi hi=>by
   rw [xh] at hi
   have:=XX h (i:=p.1+i) (by omega) (by omega)
   simp only [zk,zT,au,aw,ak]
   exact this)
  have hz:((idx p.2.1).map λi:Int=>D.int (p.1+i)).length<=sizeLine:=by rw [aC,xu]; exact aT (by omega)
  have w:a.length < sizeLine:=xM (by omega)
  have O:2<=sizeLine:=aT (by omega)
  have y:(vC (sg ord) p).length < 64:=by unfold vC; rw [aC,xu]; omega
  have e2:VR (zb (zg (vD 1 [4] (yz (vF 13)) (zO 0) eG (zd aE (vF 1) (vF 0)))) zp) [a0,a1,a2,a3,.fr (lD ord),g,e,d,c,b,l,j,.ol a,.fr (.lst ((idx p.2.1).map λi=>.int (p.1+i))),.fr (.str (kT p.2.2.1))]=some ((yd (vC (sg ord) p)).map D.int):=by
   refine ju ?_ y
   simp only [zh,zm,zr,yv,zE,zT,au,aw,ak,yA,if_pos hz,yK,wZ,aH,bq,aL,bD,bu,e1,bg]
   unfold vC
   show _=some [D.lst ((List.map _ _).map D.int)]
   rw [cN]
   rfl
  obtain ⟨x,r,I,_⟩:=z.head t
  have M:tupF (zb (zg (VR (zb (zg (vD 1 [4] (yz (vF 13)) (zO 0) eG (zd aE (vF 1) (vF 0)))) zp))) (zb (vF 14) zp)) [a0,a1,a2,a3,.fr (lD ord),g,e,d,c,b,l,j,.ol a,.fr (.lst ((idx p.2.1).map λi=>.int (p.1+i))),.fr (.str (kT p.2.2.1))]=some (cG (X9 kT (sg ord) p)):=by
   unfold X9
   rw [Wt (by rw [I]; simp),wt,zh,zr,e2]
   simp only [bg,ak,zh,zm,zT,au,aw]
   exact if_pos O
  have L:fB [a0,a1,a2,a3,m,g,e,d,c,b,l,j,.ol a,.fr (.lst ((idx p.2.1).map λi=>.int (p.1+i))),.fr (.str (kT p.2.2.1))]=some (.nx [a0,a1,a2,a3,.fr (lD ord),g,e,d,c,b,l,j,.ol (a++[cG (X9 kT (sg ord) p)]),.fr (.lst ((idx p.2.1).map λi=>.int (p.1+i))),.fr (.str (kT p.2.2.1))]):=by
   have J:frz 4 [a0,a1,a2,a3,m,g,e,d,c,b,l,j,.ol a,.fr (.lst ((idx p.2.1).map λi=>.int (p.1+i))),.fr (.str (kT p.2.2.1))]=some [a0,a1,a2,a3,.fr (lD ord),g,e,d,c,b,l,j,.ol a,.fr (.lst ((idx p.2.1).map λi=>.int (p.1+i))),.fr (.str (kT p.2.2.1))]:=by
    rcases H with rfl | rfl <;> rfl
   unfold fB
   rw [UP,J,ak,wy,M,ak]
   exact if_pos w
  rw [N,ak,L,ak]
  dsimp only
  rw [B]
  simp
theorem Hc:∀ {bs:List bA} {b:Int},(∀ B∈bs,B.2∈um B.1)->(cV b bs).length<=7 * yZ bs/\(xW b bs).length<=yZ bs
 | [],b,_=>⟨aU _,aU _⟩
 | B :: bs,b,h=>by
  obtain ⟨h1,h2⟩:=Hc (bs:=bs) (b:=b+B.1) λC c=>h C (br _ c)
  have a:=h B ba
  obtain ⟨bl,_⟩:=Jr a
  have:0 < B.1:=by
   cases e:B.1 with
   | zero=>rw [e] at a; cases a
   | succ n=>omega
  unfold cV xW yZ
  rw [bX,aC,aM]
  omega
def Ge (ns:List Int) (a b:Option Int):YJ (ns.map D.int) a b=(YJ ns a b).map D.int:=by
 unfold YJ
 rw [aC,List.map_take,Ey]
def Qq (ns:List Int):∃ (bs:List bA) (ord:List Int),1<=yZ bs/\yZ bs<=6/\Hs bs (sg ord)/\(bU bs (sg ord)).length<=42/\((xW 0 bs).map (X9 kT (sg ord))).length<=6 ∧
  vf [lD ns]=some (.tup [zc (yZ bs) (bU bs (sg ord)),.lst ((jk ((xW 0 bs).map (X9 kT (sg ord)))).map cG)]):=by
 obtain ⟨bs,h1,u,n,t⟩:=Jp ns
 obtain ⟨z,A⟩:=Hc (b:=0) n
 have s:(if -(2 ^ 62)<=(yZ bs:Int)/\(yZ bs:Int)<=1000000 then some (yt 0 (yZ bs:Int)) else none)=some ((idx (yZ bs)).map D.int):=by rw [if_pos (by omega),vN]
 obtain ⟨ord,i,h,r,q,g,c,e1⟩:=Ve (yZ bs) h1 (.fr (lD ns)) (.fr (cD (cV 0 bs))) (.fr (.lst ((xW 0 bs).map Ui))) .no .no .no .no .no (YJ ns (some 7) (some 64)) (idx (yZ bs)) .no .no .no .no .no (.refl _)
 have d:Hs bs (sg ord):=⟨n,MW c⟩
 obtain ⟨l,j,a,e2⟩:=Y9 (yZ bs) ord c (.fr (lD ns)) (.fr (.int (yZ bs))) (.fr (cD (cV 0 bs))) (.fr (.lst ((xW 0 bs).map Ui))) i h g .no .no .no (cV 0 bs) [] r q .no (WA d.fits) (by simp; omega)
 obtain ⟨o,f,e,w⟩:=Zw bs ord d c (by omega) (.fr (lD ns)) (.fr (.int (yZ bs))) (.fr (cD (cV 0 bs))) (.fr (.lst ((xW 0 bs).map Ui))) i h l j g (.ol ([]++((cV 0 bs).map (i9 (sg ord))).map tD)) a (xW 0 bs) [] (.ol (ord.map D.int)) .no .no (λp c=>c) (by simp; omega) (.inl rfl)
 refine ⟨bs,ord,h1,u,d,by unfold bU; rw [aC]; omega,by rw [aC]; omega,?_⟩
 have m:0<=sizeLine:=fo _
 have x:2<=sizeLine:=aT (by omega)
 have y:3=3:=rfl
 have start:vf [lD ns]=Zr (qA.1 [.fr (lD ns),.no,.no,.no,.no,.no,.no,.no,.no,.no,.no,.no,.no,.no,.no]):=rfl
 rw [start]
 unfold qA
 dsimp only [aM,aN,cW,Nat.reduceAdd]
 rw [zt,W7]
 simp only [zG,zh,zm,zT,au,aw,ak,t,uU,aM,aN,cW,Nat.reduceAdd,if_true,vn,xf,uV,aK,aJ]
 have a1:J0 (zb (vF 1) zp) [.fr (lD ns),.fr (.int (yZ bs)),.fr (cD (cV 0 bs)),.fr (.lst ((xW 0 bs).map Ui)),.no,.no,.no,.no,.no,.no,.no,.no,.no,.no,.no]=some ((idx (yZ bs)).map D.int):=by
  simp only [J0,zh,zm,zT,au,aw,ak,s]
 rw [zt,w5,a1]
 simp only [ak,aK,aJ]
 rw [zt,wK]
 simp only [zE,jw,zT,JY,yC,au,aw,ak,yA]
 rw [Ge,e1,ak]
 dsimp only
 rw [zt,w5]
 simp only [y6,zm,ak,aN,if_pos m,aK,aJ]
 rw [zt,wK]
 simp only [zE,zT,au,aw,ak,yA]
 rw [e2,ak]
 dsimp only
 rw [zt,w5]
 simp only [y6,zm,ak,aN,if_pos m,aK,aJ]
 rw [zt,wK]
 simp only [zE,zT,au,aw,ak,yA]
 rw [w,ak]
 dsimp only
 rw [UP,HG]
 simp only [au,aw,ak,aK,aJ,bu]
 have v:=JU (fa:=zb (vR 12) zp) (ρ:=[.fr (lD ns),.fr (.int (yZ bs)),.fr (cD (cV 0 bs)),.fr (.lst ((xW 0 bs).map Ui)),o,i,h,l,j,g,.fr (.lst (((cV 0 bs).map (i9 (sg ord))).map tD)),a,.ol (((xW 0 bs).map (X9 kT (sg ord))).map cG),f,e]) (rs:=(xW 0 bs).map (X9 kT (sg ord))) rfl (by rw [aC]; omega) (d.due_asc kT)
 rw [ye,wt,zh,wt]
 simp only [zh,zm,zT,au,aw,ak,aM,aN,cW,Nat.reduceAdd,if_pos x,zr,v,bg,y4]
 rfl
def Nf (h1 : -3<=a) (h2:a<=3):YI (.int a) (.int b)=some (.int (a * b)):=uF (qK (by omega) (by omega))
abbrev jZ:List (Str×D):=[("e6",(.tup [(.int 2),(.int 5),(.int 6),(.int 8),(.int 9),(.int 12)])),("f4",(.tup [(.int 2),(.int 6),(.int 8),(.int 12)])),("h3",(.tup [(.int 2),(.int 6),(.int 10)])),("h4",(.tup [(.int 2),(.int 12),(.int 20),(.int 30)])),("i5",(.tup [(.int 2),(.int 5)])),("i6",(.tup [(.int 2),(.int 6)]))]
def Gb (m) (h:jZ.lookup k=some (.tup (l.map D.int))):zI [.str k,.int m]=some (lD l):=by
 simp only [zI,yq,yu,zP,aH,bq,aM,aN,Nat.reduceAdd,Nat.reduceSub,aL,cO,bD,bu,zt,yD,W6,zT,au,ak,h,Option.isSome_some,if_true,ye,zr,X4,zh,zm,Z5,HD,bg,y4]
def NB (h:jZ.lookup k=none) (h1:Txt.startswith k "a"=true) (b:0<=m) (h2:m<=9) (a:yt 2 (m+2)=l.map D.int):zI [.str k,.int m]=some (lD l):=by
 have c:(-(2 ^ 62)<=(2:Int)/\(2:Int) < 2 ^ 62 /\ -(2 ^ 62)<=m+2/\m+2 < 2 ^ 62)/\(m+2 - 2).toNat<=1000000:=by
  refine ⟨⟨by decide,by decide,?_,?_⟩,?_⟩ <;> omega
 simp only [zI,yq,yu,zP,aH,bq,aM,aN,Nat.reduceAdd,Nat.reduceSub,aL,cO,bD,bu,zt,yD,W6,zT,au,aw,ak,h,Option.isSome_none,cM,if_false,xD,yB,zk,yC,Hz,h1,if_true,ye,zr,Z6,zh,zm,uu,if_pos c,a,bg,y4]
def NA (h:jZ.lookup k=none) (h1:Txt.startswith k "a"=false) (h2:Txt.startswith k "b"=true) (e:0<=m) (d:m<=9) (c:Bt 2 (2 * m+1) 2=true) (b:ZN 2 2 (sV 2 (2 * m+1) 2).toNat=l.map D.int):zI [.str k,.int m]=some (lD l):=by
 have a:YI (.int 2) (.int m)=some (.int (2 * m)):=Nf (by decide) (by decide)
 simp only [zI,yq,yu,zP,aH,bq,aM,aN,Nat.reduceAdd,Nat.reduceSub,aL,cO,bD,bu,zt,yD,W6,zT,au,aw,ak,h,Option.isSome_none,cM,if_false,xD,yB,zk,yC,Hz,h1,h2,if_true,ye,zr,UM,zh,zm,a,uu,if_pos c,b,bg,y4]
def Nz (h:jZ.lookup k=none) (h1:Txt.startswith k "a"=false) (h2:Txt.startswith k "b"=false) (f:0<=m) (e:m<=9) (c:Bt 2 (2 * m) 2=true) (b:ZN 2 2 (sV 2 (2 * m) 2).toNat=l.map D.int) (d:l.length<=9):zI [.str k,.int m]=some (lD (l++[m])):=by
 have a:YI (.int 2) (.int m)=some (.int (2 * m)):=Nf (by decide) (by decide)
 have z1:0+1<=sizeLine:=aT (by decide)
 have ad:yI (.lst (l.map D.int)) (.lst [.int m])=some (lD (l++[m])):=by
  unfold yI
  dsimp only
  rw [if_pos (by rw [aC,iJ]; exact aT (by omega))]
  simp
 simp only [zI,yq,yu,zP,aH,bq,aM,aN,Nat.reduceAdd,Nat.reduceSub,aL,cO,bD,bu,zt,yD,W6,zT,au,aw,ak,h,Option.isSome_none,cM,if_false,xD,yB,zk,yC,Hz,h1,h2,if_true,ye,zr,UM,zh,zm,a,if_pos c,b,y6,if_pos z1,bg,ad,y4]
def bE:Kd->List Int
 | (1,m)=>(aV m).map λ(i:Nat)=>(i:Int)+2
 | (2,m)=>(aV m).map λ(i:Nat)=>2 * (i:Int)+2
 | (4,m)=>((aV (m - 1)).map λ(i:Nat)=>2 * (i:Int)+2)++[(m:Int)]
 | (5,6)=>[2,5,6,8,9,12]
 | (6,4)=>[2,6,8,12]
 | (8,3)=>[2,6,10]
 | (8,4)=>[2,12,20,30]
 | (9,5)=>[2,5]
 | (9,6)=>[2,6]
 | _=>[]
structure DgOk (k:Nat) (c:Kd):Prop where
 val:zI [kD c,.int (k:Int)]=some (lD (bE c))
 len:(bE c).length<=6
 txt:kT c≠"-"
def Wm (h:(jZ.lookup k).isSome=false):jZ.lookup k=none:=by
 cases e:jZ.lookup k with
 | none=>rfl
 | some d=>rw [e] at h; cases h
def CC (m) (a:m<=6) (h:(jZ.lookup (kT (1,m))).isSome=false) (h1:Txt.startswith (kT (1,m)) "a"=true) (h2:kT (1,m)≠"-"):DgOk m (1,m) :=
 ⟨NB (Wm h) h1 (by omega) (by omega) (by
  show yt 2 ((m:Int)+2)=((aV m).map λ(i:Nat)=>(i:Int)+2).map D.int
  unfold yt
  rw [cN,show ((m:Int)+2 - 2).toNat=m by omega]
  exact mq λi _=>congrArg D.int (show 2+(i:Int)=(i:Int)+2 by omega)),by show ((aV m).map _).length<=6; rw [aC,gD]; exact a,h2⟩
def FY (m) (c:m<=6) (h:(jZ.lookup (kT (2,m))).isSome=false) (h1:Txt.startswith (kT (2,m)) "a"=false) (d:Txt.startswith (kT (2,m)) "b"=true) (b:Bt 2 (2 * (m:Int)+1) 2=true) (a:(sV 2 (2 * (m:Int)+1) 2).toNat=m) (h2:kT (2,m)≠"-"):DgOk m (2,m) :=
 ⟨NA (Wm h) h1 d (by omega) (by omega) b (by
  show ZN 2 2 _=((aV m).map λ(i:Nat)=>2 * (i:Int)+2).map D.int
  unfold ZN
  rw [cN,a]
  exact mq λi _=>congrArg D.int (show 2+(i:Int) * 2=2 * (i:Int)+2 by omega)),by show ((aV m).map _).length<=6; rw [aC,gD]; exact c,h2⟩
def Ny (m) (e:1<=m) (d:m<=6) (h:(jZ.lookup (kT (4,m))).isSome=false) (h1:Txt.startswith (kT (4,m)) "a"=false) (c:Txt.startswith (kT (4,m)) "b"=false) (b:Bt 2 (2 * (m:Int)) 2=true) (a:(sV 2 (2 * (m:Int)) 2).toNat=m - 1) (h2:kT (4,m)≠"-"):DgOk m (4,m) :=
 ⟨Nz (l:=(aV (m - 1)).map λ(i:Nat)=>2 * (i:Int)+2) (Wm h) h1 c (by omega) (by omega) b (by
  unfold ZN
  rw [cN,a]
  exact mq λi _=>congrArg D.int (show 2+(i:Int) * 2=2 * (i:Int)+2 by omega)) (by rw [aC,gD]; omega),by show (((aV (m - 1)).map _)++[(m:Int)]).length<=6; rw [bX,aC,gD,iJ]; omega,h2⟩
def CB (e:kT c=t) (h:jZ.lookup t=some (.tup ((bE c).map D.int))) (h1:(bE c).length<=6) (h2:kT c≠"-"):DgOk k c:=⟨Gb _ (e ▸ h),h1,h2⟩
def qm:List (Nat×Kd):=[(1,1,1),(2,1,2),(3,1,3),(4,1,4),(5,1,5),(6,1,6),(2,2,2),(3,2,3),(4,2,4),(5,2,5),(6,2,6),(4,4,4),(5,4,5),(6,4,6),(2,9,5),(2,9,6),(3,8,3),(4,8,4),(4,6,4),(6,5,6)]
def FZ (h:(k,c)∈qm):DgOk k c:=by
 unfold qm at h
 simp only [aQ,ED,or_false] at h
 rcases h with h | h | h | h | h | h | h | h | h | h | h | h | h | h | h | h | h | h | h | h <;> cases h
 .exact CC _ (by decide) (by decide +kernel) (by decide +kernel) (by decide +kernel)
 .exact CC _ (by decide) (by decide +kernel) (by decide +kernel) (by decide +kernel)
 .exact CC _ (by decide) (by decide +kernel) (by decide +kernel) (by decide +kernel)
 .exact CC _ (by decide) (by decide +kernel) (by decide +kernel) (by decide +kernel)
 .exact CC _ (by decide) (by decide +kernel) (by decide +kernel) (by decide +kernel)
 .exact CC _ (by decide) (by decide +kernel) (by decide +kernel) (by decide +kernel)
 .exact FY _ (by decide) (by decide +kernel) (by decide +kernel) (by decide +kernel) (by decide +kernel) (by decide +kernel) (by decide +kernel)
 .exact FY _ (by decide) (by decide +kernel) (by decide +kernel) (by decide +kernel) (by decide +kernel) (by decide +kernel) (by decide +kernel)
 .exact FY _ (by decide) (by decide +kernel) (by decide +kernel) (by decide +kernel) (by decide +kernel) (by decide +kernel) (by decide +kernel)
 .exact FY _ (by decide) (by decide +kernel) (by decide +kernel) (by decide +kernel) (by decide +kernel) (by decide +kernel) (by decide +kernel)
 .exact FY _ (by decide) (by decide +kernel) (by decide +kernel) (by decide +kernel) (by decide +kernel) (by decide +kernel) (by decide +kernel)
 .exact Ny _ (by decide) (by decide) (by decide +kernel) (by decide +kernel) (by decide +kernel) (by decide +kernel) (by decide +kernel) (by decide +kernel)
 .exact Ny _ (by decide) (by decide) (by decide +kernel) (by decide +kernel) (by decide +kernel) (by decide +kernel) (by decide +kernel) (by decide +kernel)
 .exact Ny _ (by decide) (by decide) (by decide +kernel) (by decide +kernel) (by decide +kernel) (by decide +kernel) (by decide +kernel) (by decide +kernel)
 .exact CB Fe rfl (by decide) (by decide +kernel)
 .exact CB Fd rfl (by decide) (by decide +kernel)
 .exact CB Fg rfl (by decide) (by decide +kernel)
 .exact CB Ff rfl (by decide) (by decide +kernel)
 .exact CB Fh rfl (by decide) (by decide +kernel)
 .exact CB Fi rfl (by decide) (by decide +kernel)
def Zb (f:Nat->Int):Nat->Int
 | 0=>0
 | n+1=>Zb f n+f n
theorem UT (f:Nat->Int):∀ n:Nat,((aV n).map f).sum=Zb f n
 | 0=>rfl
 | n+1=>by rw [List.range_succ,gC,List.sum_append,UT f n]; simp [Zb]
theorem YR (f:Nat->Int) (h:f 0=0):∀ n:Nat,Zb (λp=>f (p+1)) n=Zb f (n+1)
 | 0=>by simp [Zb,h]
 | n+1=>by rw [Zb,YR f h n,Zb]; rfl
theorem YT (f:Nat->Int) (h:f 0=0) (d:Nat) (hd:1<=d):∀ n:Nat,Zb (λp=>f (p+1 - d)) n=Zb f (n+1 - d)
 | 0=>by
  rw [show 0+1 - d=0 by omega]; rfl
 | n+1=>by
  rw [Zb,YT f h d hd n]
  by_cases c:d<=n+1
  .rw [show n+1+1 - d=(n+1 - d)+1 by omega,Zb]
  .rw [show n+1+1 - d=0 by omega,show n+1 - d=0 by omega,h]; simp [Zb]
theorem YS (f:Nat->Int) (t:Int) (L:Nat) (h:∀ q,L<=q->f q=t):∀ k:Nat,Zb f (L+k)=Zb f L+k * t
 | 0=>by simp
 | k+1=>by
  rw [<- Nat.add_assoc,Zb,YS f t L h k,h _ (by omega),Int.add_assoc]
  congr 1
  rw [show ((k+1:Nat):Int)=(k:Int)+1 by omega,Int.add_mul,Int.one_mul]
theorem W1 (f g:Nat->Int):∀ n:Nat,Zb (λp=>f p - g p) n=Zb f n - Zb g n
 | 0=>rfl
 | n+1=>by rw [Zb,Zb,Zb,W1 f g n]; omega
def qU (xs:List Int) (d:Int):List Int:=(aV (xs.length+d.toNat - 1)).map λp=>((xs.take (p+1)).drop (p+1 - d.toNat)).foldl (λa x=>a+x) 0
def kP (l:List Int):List Int:=l.foldl qU [1]
def Y7 (l:List Int):Int:=l.foldl (λa d=>a * d) 1
theorem jt:∀ (l:List Int) (m:Int),l.foldl (λa x=>a+x) m=m+l.sum
 | [],m=>by simp
 | x :: l,m=>by rw [mm,jt l,nk,Int.add_assoc]
def Hq (l:List Int) (k:Nat):(l.drop k).sum=l.sum - (l.take k).sum:=by
 have:=congrArg List.sum (List.take_append_drop k l)
 rw [List.sum_append] at this
 omega
def Hm (xs:List Int) (d:Int) (hd:1<=d):(qU xs d).sum=xs.sum * d:=by
 have e:(λp:Nat=>((xs.take (p+1)).drop (p+1 - d.toNat)).foldl (λa x=>a+x) 0)=λp:Nat=>(λq=>(xs.take (q+1)).sum) p - (λq=>(xs.take (q+1 - d.toNat)).sum) p:=by
  funext p
  rw [jt,Int.zero_add,Hq,List.take_take,Nat.min_eq_left (by omega)]
 unfold qU
 rw [UT,e,W1]
 rw [YR (λq=>(xs.take q).sum) rfl,YT (λq=>(xs.take q).sum) rfl d.toNat (by omega)]
 rw [show xs.length+d.toNat - 1+1=xs.length+d.toNat by omega,show xs.length+d.toNat - d.toNat=xs.length by omega]
 rw [YS (λq=>(xs.take q).sum) xs.sum xs.length λq b=>by show (xs.take q).sum=_; rw [g2v b]]
 rw [show (d.toNat:Int)=d by omega,Int.mul_comm]
 omega
theorem Vt:∀ (l xs:List Int),(∀ d∈l,2<=d)->(l.foldl qU xs).sum=l.foldl (λa d=>a * d) xs.sum
 | [],xs,_=>rfl
 | d :: l,xs,h=>by
  have:=h d ba
  rw [mm,mm,Vt l _ λe b=>h e (br _ b),Hm xs d (by omega)]
def Ci (l:List Int) (h:∀ d∈l,2<=d):(kP l).sum=Y7 l:=by
 unfold kP Y7
 rw [Vt l [1] h]; rfl
def wO (xs:List Int) (d:Int):(qU xs d).length=xs.length+d.toNat - 1:=by unfold qU; rw [aC,gD]
theorem qj:∀ (l:List Int) (xs:List Int),1<=xs.length->(∀ d∈l,2<=d)->xs.length<=(l.foldl qU xs).length
 | [],xs,_,_=>aU _
 | d :: l,xs,h,hd=>by
  have:=hd d ba
  have a:=qj l (qU xs d) (by rw [wO]; omega) λe b=>hd e (br _ b)
  rw [wO] at a
  rw [mm]
  omega
theorem Jc:∀ (l xs:List Int),1<=xs.length->(∀ d∈l,2<=d)->((l.foldl qU xs).length:Int)=xs.length+(l.map λd=>d - 1).sum
 | [],xs,_,_=>by simp
 | d :: l,xs,h,hd=>by
  have:=hd d ba
  rw [mm,Jc l _ (by rw [wO]; omega) λe a=>hd e (br _ a),wO,aH,nk]
  omega
def uy (a b):bt (.str a) (.str b)=some (.bl (decide (a=b))):=by
 unfold bt
 rw [if_pos (show dep (.str a)<=100 from fo _)]
 by_cases c:a=b <;> simp [bT,c]
section
abbrev RK:=List Int×Kd
variable {n:Nat} {ts:List T3} {R:List RK}
abbrev yf (l:List RK):List D:=l.map λx=>.tup [lD x.1,kD x.2]
theorem Yt (a0:Slot):∀ (l:List RK) (s1 s2:Slot),(∀ x∈l,kT x.2≠"-")->∃ a b,ym (jj 2 (yh (zO 1) (yh (zO 2) kh))) (cn (aO (zd bt (vF 2) (cF (.str "-")))) (qH (ya uO (zb (vF 1) zp))) cK) (yf l) [a0,s1,s2]=some (.nx [a0,a,b])
 | [],s1,s2,_=>⟨s1,s2,rfl⟩
 | x :: l,s1,s2,h=>by
  obtain ⟨a,b,e⟩:=Yt a0 l (.fr (lD x.1)) (.fr (kD x.2)) (λy c=>h y (br _ c))
  refine ⟨a,b,?_⟩
  have d:=h x ba
  unfold yf
  rw [aH,ym]
  simp only [uU,vn,xf,uV,aM,aN,Nat.reduceAdd,if_true,aK,aJ,ak,yD,yB,zk,zT,yC,au,aw,uy,decide_eq_false d,cM,if_false,xD]
  exact e
theorem Vy (a0 a1:Slot):∀ (l:List RK) (a:List Int) (c b:Slot),(∀ x∈l,DgOk x.1.length x.2)->a.length+6 * l.length<=60->∃ d f,ym (jj 2 (yh (zO 3) (yh (zO 4) kh))) (vU 2 (ya zI (zb (vF 4) (zb (ya jA (zb (vF 3) zp)) zp)))) (yf l) [a0,a1,.ol (a.map D.int),c,b]=some (.nx [a0,a1,.ol ((a++l.flatMap λx=>bE x.2).map D.int),d,f])
 | [],a,c,b,_,_=>⟨c,b,by rw [List.flatMap_nil,cO]; rfl⟩
 | x :: l,a,c,b,h,o=>by
  rw [aM] at o
  have g:=h x ba
  have m:=g.len
  obtain ⟨d,f,e⟩:=Vy a0 a1 l (a++bE x.2) (.fr (lD x.1)) (.fr (kD x.2)) (λy j=>h y (br _ j)) (by rw [bX]; omega)
  refine ⟨d,f,?_⟩
  have hz:(a.map D.int).length+((bE x.2).map D.int).length<=sizeLine:=by rw [aC,aC]; exact aT (by omega)
  have i:jA [lD x.1]=some (.int (x.1.length:Int)):=by simp
  have ex:vU 2 (ya zI (zb (vF 4) (zb (ya jA (zb (vF 3) zp)) zp))) [a0,a1,.ol (a.map D.int),.fr (lD x.1),.fr (kD x.2)]=some (.nx [a0,a1,.ol ((a++bE x.2).map D.int),.fr (lD x.1),.fr (kD x.2)]):=by
   simp only [uW,zG,zh,zm,zT,au,aw,ak,i,g.val,if_pos hz,aK,aJ,gC]
  unfold yf
  rw [aH,ym]
  simp only [uU,vn,xf,uV,aM,aN,Nat.reduceAdd,if_true,aK,aJ,ak]
  rw [ex]
  rw [mn] at e
  rw [nt]
  exact e
theorem Yp:∀ l:List RK,(∀ x∈l,(bE x.2).length<=6)->(l.flatMap λx=>bE x.2).length<=6 * l.length
 | [],_=>by simp
 | x :: l,h=>by
  have:=Yp l λy a=>h y (br _ a)
  have:=h x ba
  rw [nt,bX,aM]
  omega
def WK (i:R.length<=6) (b:xH [zc n ts]=some (.lst (yf R))) (hd:∀ x∈R,DgOk x.1.length x.2):xw [zc n ts]=some (lD (yd ((R).flatMap λx=>bE x.2))):=by
 have fl:=Yp R λx a=>(hd x a).len
 obtain ⟨t1,t2,e1⟩:=Yt (.fr (zc n ts)) R .no .no λx a=>(hd x a).txt
 obtain ⟨e,d,e2⟩:=Vy (.fr (zc n ts)) (.fr .non) R [] .no .no hd (by simp; omega)
 rw [bq,bu] at e2
 have c:0<=sizeLine:=fo _
 have h:yX [zc n ts]=some .non:=by
  simp only [yX,ub,yu,zP,aH,bq,aM,aN,Nat.reduceAdd,Nat.reduceSub,aL,bD,bu]
  rw [zt (F:=JB _ _ _),wK]
  simp only [zE,zG,zh,zm,zT,au,ak,b,yA]
  rw [e1]
  rfl
 have f:=ju (fa:=zb (vR 2) zp) (ρ:=[.fr (zc n ts),.fr .non,.ol (((R).flatMap λx=>bE x.2).map D.int),e,d]) (l:=(R).flatMap λx=>bE x.2) rfl (by omega)
 have g:l9 true .non .non=some (.bl false):=rfl
 simp only [xw,Za,yu,zP,aH,bq,aM,aN,Nat.reduceAdd,Nat.reduceSub,aL,bD,bu]
 rw [zt (F:=vk 1 _),zQ]
 simp only [zG,zh,zm,zT,au,ak,h,aK,aJ]
 rw [zt (F:=cn _ _ _),yD]
 simp only [yB,zk,zT,yC,au,aw,ak,g,cM,if_false,xD]
 rw [zt (F:=Ur 2 _),w5]
 simp only [y6,zm,ak,aN,if_pos c,aK,aJ]
 rw [zt (F:=JB _ _ _),wK]
 simp only [zE,zG,zh,zm,zT,au,ak,b,yA]
 rw [e2]
 simp only [ak,ye,zr,f,bg,y4]
theorem YY (a0):∀ (l:List Int) (m) (s2),(∀ d∈l,d.natAbs<=30)->∃ b,ym (zO 2) (Co 1 (vF 2)) (l.map D.int) [a0,.fr (.int m),s2]=some (.nx [a0,.fr (.int (l.foldl (λa d=>a * d) m)),b])
 | [],m,s2,_=>⟨s2,rfl⟩
 | d :: l,m,s2,h=>by
  obtain ⟨b,e⟩:=YY a0 l (m * d) (.fr (.int d)) λx c=>h x (br _ c)
  refine ⟨b,?_⟩
  have hd:=h d ba
  have mb:WT m d:=.inr (.inl (g3h hd (by decide)))
  rw [aH,ym,mm]
  simp only [xf,ak,aK,aJ,HH,zT,au,aw,if_pos mb]
  exact e
def Ug (a:xH [zc n ts]=some (.lst (yf R))) (h:∀ x∈R,kT x.2≠"-"):yX [zc n ts]=some .non:=by
 obtain ⟨t1,t2,e1⟩:=Yt (.fr (zc n ts)) R .no .no h
 simp only [yX,ub,yu,zP,aH,bq,aM,aN,Nat.reduceAdd,Nat.reduceSub,aL,bD,bu]
 rw [zt (F:=JB _ _ _),wK]
 simp only [zE,zG,zh,zm,zT,au,ak,a,yA]
 rw [e1]
 rfl
def JQ (hd:xw [zc n ts]=some (lD l)) (a:∀ d∈l,d.natAbs<=30):QP [zc n ts]=some (.int (Y7 l)):=by
 obtain ⟨s2,e⟩:=YY (.fr (zc n ts)) l 1 .no a
 simp only [QP,Jy,yu,zP,aH,bq,aM,aN,Nat.reduceAdd,Nat.reduceSub,aL,bD,bu]
 rw [zt (F:=vk 1 _),zQ]
 simp only [yC,ak,aK,aJ]
 rw [zt (F:=JB _ _ _),wK]
 simp only [zE,zG,zh,zm,zT,au,ak,hd,yA]
 rw [e]
 rfl
end
def We {α g:Type} {f:α->g} {m k:List g} (h:m.Perm k):∀ l:List α,k=l.map f->∃ c:List α,c.Perm l/\c.map f=m:=by
 induction h with
 | nil =>
  intro l e
  cases l with
  | nil=>exact ⟨[],.refl _,rfl⟩
  | cons _ _=>cases e
 | cons x _ n =>
  intro l e
  cases l with
  | nil=>cases e
  | cons a l =>
   rw [aH] at e
   injection e with e1 e2
   obtain ⟨c,p,q⟩:=n l e2
   exact ⟨a :: c,p.cons a,by rw [aH,q,e1]⟩
 | swap x y r =>
  intro l e
  match l,e with
  | [],e=>cases e
  | [_],e=>cases e
  | a :: b :: l,e =>
   simp only [aH] at e
   injection e with e1 e2
   injection e2 with e2 o
   exact ⟨b :: a :: l,.swap a b l,by simp only [aH]; rw [e1,e2,o]⟩
 | trans _ _ h1 h2 =>
  intro l e
  obtain ⟨c,p,q⟩:=h2 l e
  obtain ⟨d,j,i⟩:=h1 c q.symm
  exact ⟨d,j.trans p,i⟩
def Ua (h:Hs bs σ) (c:yZ bs<=9) (ht:(bU bs σ).length<=90):∃ ps:List (Int×bA),ps.Perm (xW 0 bs)/\xH [zc (yZ bs) (bU bs σ)]=some (.lst (yf (ps.map λp=>(yd (vC σ p),p.2.2.1)))):=by
 obtain ⟨ps,b,p2⟩:=We (wj ((xW 0 bs).map (X9 kT σ))) (xW 0 bs) rfl
 refine ⟨ps,b,?_⟩
 rw [Xm h c ht,<- p2]
 congr 2
 show _=(ps.map λp=>(yd (vC σ p),p.2.2.1)).map λx=>D.tup [lD x.1,kD x.2]
 rw [cN,cN]
 refine mq λp a=>?_
 have a:=b.mem_iff.mp a
 obtain ⟨x,r,e,_⟩:=h.head a
 exact Wt (by rw [e]; exact List.cons_ne_nil _ _) _
def FM:((aV 7).all λk=>(um k).all λB=>decide (B.1=(0,0))||decide ((k,B.1)∈qm))=true:=by decide +kernel
def NG (h:B∈um k) (b:B.1≠(0,0)):(k,B.1)∈qm:=by
 have a:k < 7:=by
  apply Af
  intro z
  unfold um at h
  split at h <;> first | omega | cases h
 have:=cw.mp (cw.mp FM k (ip.mpr a)) B h
 rw [rM] at this
 exact this.elim (λz=>absurd (of_decide_eq_true z) b) of_decide_eq_true
def Q8 (xs:List α) (a b:Nat) (h:a<=b):YJ xs (some (a:Int)) (some (b:Int))=(xs.drop a).take (b - a):=by
 unfold YJ
 rw [HT.sIx_nat,HT.sIx_nat]
 by_cases h1:a<=xs.length
 .by_cases h2:b<=xs.length
  .rw [Nat.min_eq_left h1,Nat.min_eq_left h2]
  .rw [Nat.min_eq_left h1,Nat.min_eq_right (by omega),g2v (by simp),g2v (by simp; omega)]
 .rw [Nat.min_eq_right (by omega),Nat.min_eq_right (by omega),List.drop_of_length_le (aU _),List.drop_of_length_le (by omega)]
  simp
def Wa (m:Nat) (h:m<=1000):q9 [.int (m:Int)]=some ((aV m).map λ(k:Nat)=>D.int (k:Int)):=by
 rw [j7 (by omega) (by omega),vN]
 unfold idx
 rw [cN]
 rfl
def UC (h2:1<=d) (m:xs.length+d.toNat - 1<=100):xT [lD xs,.int d]=some (lD (qU xs d)):=by
 have g:((xs.length:Int)+d - 1)=((xs.length+d.toNat - 1:Nat):Int):=by omega
 have c:=Wa (xs.length+d.toNat - 1) (by omega)
 have e:jA [lD xs]=some (.int (xs.length:Int)):=by
  show some (D.int ((xs.map D.int).length:Int))=_
  rw [aC]
 have l:=vA (f:=ya Cw (zb (qV (vF 1) (ir (ya JA (zb (cF (.int 0)) (zb (zd yI (zd wg (vF 0) (vF 2)) (cF (.int 1))) zp)))) (ir (zd yI (vF 0) (cF (.int 1))))) zp)) (C:=[.fr (lD xs),.fr (.int d)]) (ι:=λ(k:Nat)=>D.int (k:Int)) (φ:=λp=>D.int (((xs.take (p+1)).drop (p+1 - d.toNat)).foldl (λa x=>a+x) 0)) (aV (xs.length+d.toNat - 1)) .no (λp _=>by
  have b:JA [.int 0,.int ((p:Int) - d+1)]=some (.int ((p+1 - d.toNat:Nat):Int)):=by
   rw [HC]
   congr 2
   split <;> omega
  have h:((p:Int)+1)=((p+1:Nat):Int):=by omega
  have i:YJ (xs.map D.int) (some ((p+1 - d.toNat:Nat):Int)) (some ((p+1:Nat):Int))=((xs.take (p+1)).drop (p+1 - d.toNat)).map D.int:=by
   rw [Q8 _ _ _ (by omega),<- Ey,<- List.map_take,List.drop_take]
  simp only [zG,zh,zm,jw,JY,yC,zT,zk,au,aw,ak,VW,uu,b,h,i,HA]
  rw [jt,Int.zero_add])
 have hz:((aV (xs.length+d.toNat - 1)).map λ(k:Nat)=>D.int (k:Int)).length<=sizeLine:=by rw [aC,gD]; exact aT (by omega)
 simp only [xT,v8,yu,zP,aH,bq,aM,aN,Nat.reduceAdd,Nat.reduceSub,aL,bD,bu]
 rw [zt,zQ]
 simp only [zG,zh,zm,zk,zT,yC,au,aw,ak,e,uu,VW,aK,aJ,g]
 have j:qq 1 [0,1] [.fr (lD xs),.fr (.int d),.fr (.int ((xs.length+d.toNat - 1:Nat):Int))]=[.no,.fr (lD xs),.fr (.int d)]:=rfl
 rw [ye,zr,yv]
 simp only [Y2,zh,zm,zT,au,aw,ak,c,if_pos hz]
 rw [j,l]
 show Zr (some (.rt (.lst ((aV (xs.length+d.toNat - 1)).map _))))=_
 show some (D.lst _)=some (D.lst ((qU xs d).map D.int))
 unfold qU
 rw [cN]
 rfl
theorem Jb (a0:Slot):∀ (l xs:List Int) (s2:Slot),1<=xs.length->(∀ d∈l,2<=d/\d<=30)->(l.foldl qU xs).length<=100->∃ b,ym (zO 2) (vk 1 (ya xT (zb (vF 1) (zb (vF 2) zp)))) (l.map D.int) [a0,.fr (lD xs),s2]=some (.nx [a0,.fr (lD (l.foldl qU xs)),b])
 | [],xs,s2,_,_,_=>⟨s2,rfl⟩
 | d :: l,xs,s2,h,hd,c=>by
  have i:=hd d ba
  have fl:=qj (d :: l) xs h λe a=>(hd e a).1
  obtain ⟨b,e⟩:=Jb a0 l (qU xs d) (.fr (.int d)) (by rw [wO]; omega) (λe a=>hd e (br _ a)) c
  refine ⟨b,?_⟩
  have f:=qj l (qU xs d) (by rw [wO]; omega) λe a=>(hd e (br _ a)).1
  have g:(l.foldl qU (qU xs d)).length<=100:=c
  have tl:=wO xs d
  have tv:=UC (xs:=xs) (d:=d) (by omega) (by omega)
  rw [aH,ym]
  simp only [xf,ak,aK,aJ,zQ,zG,zh,zm,zT,au,aw,tv]
  exact e
def Um (hd:xw [zc n ts]=some (lD l)) (a:∀ d∈l,2<=d/\d<=30) (b:(kP l).length<=100):Yn [zc n ts]=some (lD (kP l)):=by
 obtain ⟨s2,e⟩:=Jb (.fr (zc n ts)) l [1] .no (by simp) a b
 have z1:0+1<=sizeLine:=aT (by decide)
 simp only [Yn,YG,yu,zP,aH,bq,aM,aN,Nat.reduceAdd,Nat.reduceSub,aL,bD,bu]
 rw [zt (F:=vk 1 _),zQ]
 simp only [zr,y6,zh,zm,yC,ak,aM,aN,if_pos z1,bg,aK,aJ]
 rw [zt (F:=JB _ _ _),wK]
 simp only [zE,zG,zh,zm,zT,au,ak,hd,yA]
 have e:ym _ _ (l.map D.int) [.fr (zc n ts),.fr (.lst [.int 1]),.no]=_:=e
 rw [e]
 rfl
def Q1 (a:List Int):dep (lD a)<=100:=gq (Q2 a) (by decide)
def F4 (a:List Int):dep (.tup (a.map D.int))<=100:=by
 have:qD (a.map D.int)<=0:=kM λd hd=>by
  obtain ⟨i,_,rfl⟩:=eW.mp hd
  exact fo _
 unfold dep
 omega
def Vi (h:dep d<=100):fk d d=some (.bl false):=by
 unfold fk; rw [if_pos h,wM]; rfl
def jB (h:dep d<=100):bt d d=some (.bl true):=by
 unfold bt; rw [if_pos h,wM]
def G6 (n:Nat) (ts:List T3):dep (zc n ts)<=100:=by
 have h1:qD (ts.map tD)<=1:=kM λd hd=>by
  obtain ⟨u,_,rfl⟩:=eW.mp hd
  simp [tD,dep,qD]
 have h2:dep (.lst (ts.map tD))<=2:=by unfold dep; omega
 have a:qD [.int (n:Int),.lst (ts.map tD)]<=2:=kM λd hd=>by
  rcases aQ.mp hd with rfl | hd
  .exact fo _
  .rcases aQ.mp hd with rfl | hd
   .exact h2
   .cases hd
 unfold zc dep
 omega
def YL (i):vQ [.int i]=some (.bl true):=by simp [vQ,kZ,ZM,gP]
def MA (a:List Int):ZM (gP (lD a)) "list"=true:=by simp [ZM,gP]
def vo (a:List Int) (h:a.length<=100):wA [lD a,lD a]=some (.bl true):=by
 have b:=Zz (ft:=DO (aO (ya vQ (zb (vF 0) zp)))) (f:=vF 0) (C:=[]) (ι:=D.int) (q:=λ_=>false) (φ:=D.int) a .no (λx _=>by
  simp only [qX,yB,zG,zh,zm,zT,au,ak,YL,lM]) (λ_ _ h=>by cases h)
 rw [List.filter_eq_nil_iff.mpr (λ_ _ h=>by cases h),bq] at b
 have hz:(a.map D.int).length<=sizeLine:=by rw [aC]; exact aT h
 have c:=Vi (Q1 a)
 have z:bt (.int (([]:List D).length:Int)) (.int 0)=some (.bl true):=by rw [jo]; rfl
 simp only [wA,uN,yu,zP,aH,bq,aM,aN,Nat.reduceAdd,Nat.reduceSub,aL,bD,bu]
 rw [zt (F:=cn _ _ _),yD]
 simp only [JV,qX,yB,Z5,zk,zT,au,aw,ak,Gw,MA,lM,cM,if_false,c,xD]
 rw [ye,zk,zG,zh,zr,yv]
 simp only [zE,zT,au,ak,yA,if_pos hz,yK,bq,aL,bD,bu,b,bg,zm,vL,yC,z,y4]
def Wr (a:List Int):numsOf (a.map D.int)=some a:=by
 induction a with
 | nil=>rfl
 | cons x l b=>rw [aH,numsOf,b]; rfl
def Vj (a:List Int) (h:a.length<=100):Ym [lD a]=some (.bl true):=by
 unfold Ym Kz
 dsimp only
 rw [if_pos (by rw [aC]; omega),Wr]
 exact vo a h
abbrev nv (x:RK):Bool:=decide (kT x.2="-")
section
variable {n:Nat} {ts:List T3} {R f:List RK} {x:RK}
theorem Xv (a0:Slot):∀ (l:List RK) (s1 s2:Slot),l.filter nv=x :: f->ym (jj 2 (yh (zO 1) (yh (zO 2) kh))) (cn (aO (zd bt (vF 2) (cF (.str "-")))) (qH (ya uO (zb (vF 1) zp))) cK) (yf l) [a0,s1,s2]=some (.rt (.tup (x.1.map D.int)))
 | [],s1,s2,h=>by cases h
 | y :: l,s1,s2,h=>by
  unfold yf
  rw [aH,ym]
  have td:∀ ds:List D,uO [.lst ds]=some (.tup ds):=λ_=>rfl
  by_cases c:kT y.2="-"
  .rw [g2t (p:=nv) (show nv y=true from decide_eq_true c)] at h
   cases h
   simp only [uU,vn,xf,uV,aM,aN,Nat.reduceAdd,if_true,aK,aJ,ak,yD,yB,zk,zT,yC,au,aw,uy,decide_eq_true c,ye,zG,zh,zm,td]
  .rw [g2u (p:=nv) (show ¬ nv y=true by simpa using c)] at h
   have e:=Xv a0 l (.fr (lD y.1)) (.fr (kD y.2)) h
   simp only [uU,vn,xf,uV,aM,aN,Nat.reduceAdd,if_true,aK,aJ,ak,yD,yB,zk,zT,yC,au,aw,uy,decide_eq_false c,cM,if_false,xD]
   exact e
def Ys (a:xH [zc n ts]=some (.lst (yf R))) (h:R.filter nv=x :: f):yX [zc n ts]=some (.tup (x.1.map D.int)):=by
 have e1:=Xv (.fr (zc n ts)) R .no .no h
 simp only [yX,ub,yu,zP,aH,bq,aM,aN,Nat.reduceAdd,Nat.reduceSub,aL,bD,bu]
 rw [zt (F:=JB _ _ _),wK]
 simp only [zE,zG,zh,zm,zT,au,ak,a,yA]
 rw [e1]
 rfl
def BU (h:yX [zc n ts]=some (.tup (ns.map D.int))):yP [zc n ts]=some (.en ns):=by
 have a:l9 true (.tup (ns.map D.int)) .non=some (.bl true):=rfl
 have e1:KC (vk 1 (ya yX (zb (vF 0) zp))) [.fr (zc n ts),.no,.no,.no,.no]=some (.o (.nx [.fr (zc n ts),.fr (.tup (ns.map D.int)),.no,.no,.no])):=by
  show A2 OutY.o _=_
  simp only [zQ,zG,zh,zm,zT,au,ak,h,aK,aJ,bg]
 have e2:∀ b,ifY (aO (zd (l9 true) (vF 1) (cF .non))) (enY (zb (vF 1) zp)) b [.fr (zc n ts),.fr (.tup (ns.map D.int)),.no,.no,.no]=some (.en ns):=λb=>by
  unfold ifY enY
  simp only [yB,zk,zT,yC,au,aw,ak,a,if_true,zh,zm,Wr,bg]
 show Dr (qx.1 [.fr (zc n ts),.no,.no,.no,.no])=_
 unfold qx
 dsimp only
 rw [mL,e1]
 dsimp only [ak]
 rw [mL,e2]
 rfl
def BS (h:yP [zc n ts]=some (.en ns)):Wv [zc n ts]=some (.en ns):=by
 have e2:∀ γ B s,FF yP (zb (vF 0) zp) γ B [.fr (zc n ts),s,.no]=some (.en ns):=λγ B s=>by
  unfold FF
  simp only [zh,zm,zT,au,ak,h]
 have e1:KC (vk 1 (cF (.int 1))) [.fr (zc n ts),.no,.no]=some (.o (.nx [.fr (zc n ts),.fr (.int 1),.no])):=by
  show A2 OutY.o _=_
  simp only [zQ,yC,ak,aK,aJ,bg]
 show Dr (VH.1 [.fr (zc n ts),.no,.no])=_
 unfold VH
 dsimp only
 rw [mL,e1]
 dsimp only [ak]
 rw [mL,e2]
 rfl
def BV (h:yP [zc n ts]=some (.en ns)):kE [zc n ts]=some (.en ns):=by
 have e2:∀ γ B s,FF yP (zb (vF 0) zp) γ B [.fr (zc n ts),s,.no]=some (.en ns):=λγ B s=>by
  unfold FF
  simp only [zh,zm,zT,au,ak,h]
 have z1:0+1<=sizeLine:=aT (by decide)
 have e1:KC (vk 1 (zg (zY (zb (cF (.int 1)) zp)))) [.fr (zc n ts),.no,.no]=some (.o (.nx [.fr (zc n ts),.fr (.lst [.int 1]),.no])):=by
  show A2 OutY.o _=_
  simp only [zQ,zr,y6,zh,zm,yC,ak,aM,aN,if_pos z1,aK,aJ,bg]
 show Dr (jD.1 [.fr (zc n ts),.no,.no])=_
 unfold jD
 dsimp only
 rw [mL,e1]
 dsimp only [ak]
 rw [mL,e2]
 rfl
def Wb (h:yP [zc n ts]=some (.en ns)) (b:ns.length<=100) (hi:0<=i/\i < 3):vq [.int i,zc n ts,lD ns]=some (.bl true):=by
 have a:=vo ns b
 have e:(if i=0 then yP [zc n ts] else if i=1 then kE [zc n ts] else Wv [zc n ts])=some (.en ns):=by
  rw [BV h,BS h,h]
  split
  .rfl
  .split <;> rfl
 unfold vq Mn
 dsimp only
 rw [e]
 dsimp only
 rw [a]
 dsimp only
 rw [if_pos (by omega)]
end
def Vk (m:Nat) (c:m<=9):yT (zO 0) eG (zd YI (cF (.int 2)) (vF 0)) (yt 1 ((m:Int)+1)) [.no]=some (((aV m).map λ(i:Nat)=>2 * (i:Int)+2).map D.int):=by
 have b:=vA (f:=zd YI (cF (.int 2)) (vF 0)) (C:=[]) (ι:=λ(k:Nat)=>D.int (1+(k:Int))) (φ:=λ(k:Nat)=>D.int (2 * (k:Int)+2)) (aV m) .no (λk d=>by
  have a:YI (.int 2) (.int (1+(k:Int)))=some (.int (2 * (1+(k:Int)))):=Nf (by decide) (by decide)
  simp only [zk,yC,zT,au,ak,a]
  congr 2
  omega)
 have e:yt 1 ((m:Int)+1)=(aV m).map λ(k:Nat)=>D.int (1+(k:Int)):=by
  unfold yt
  rw [show ((m:Int)+1 - 1).toNat=m by omega]
 rw [e,b,cN]
 rfl
def Qu {z:Str} {m:Nat} (b:m<=9) (h:aE (.str z) (.int 0)=some (.str "b")):YF [.fr (.str z),.fr (.int (m:Int)),.no]=some (.rt (lD ((aV m).map λ(i:Nat)=>2 * (i:Int)+2))):=by
 have a:j6 [.int 1,.int ((m:Int)+1)]=some (yt 1 ((m:Int)+1)):=j5 (by omega) (by omega) (by omega) (by omega)
 have hz:(yt 1 ((m:Int)+1)).length<=sizeLine:=by unfold yt; rw [aC,gD]; exact aT (by omega)
 have c:(decide (("b":Str)="a"))=false:=by decide
 unfold YF
 rw [zt,yD]
 simp only [yB,zk,zT,yC,au,aw,ak,h,uy,c,cM,if_false,xD]
 rw [zt,yD]
 simp only [yB,zk,zT,yC,au,aw,ak,h,uy,decide_true,if_true,ye,zr,yv,UN,zh,zm,uu,a,if_pos hz,yK,bq,aL,bD,bu,Vk m b,bg]
def BC {z:Str} {m:Nat} (h1:1<=m) (d:m<=9) (h:aE (.str z) (.int 0)=some (.str "d")):YF [.fr (.str z),.fr (.int (m:Int)),.no]=some (.rt (lD (((aV (m - 1)).map λ(i:Nat)=>2 * (i:Int)+2)++[(m:Int)]))):=by
 have a:j6 [.int 1,.int (m:Int)]=some (yt 1 (m:Int)):=j5 (by omega) (by omega) (by omega) (by omega)
 have em:=Vk (m - 1) (by omega)
 rw [show ((m - 1:Nat):Int)+1=(m:Int) by omega] at em
 have hz:(yt 1 (m:Int)).length<=sizeLine:=by unfold yt; rw [aC,gD]; exact aT (by omega)
 have z1:0+1<=sizeLine:=aT (by decide)
 have ad:yI (.lst (((aV (m - 1)).map λ(i:Nat)=>2 * (i:Int)+2).map D.int)) (.lst [.int (m:Int)])=some (lD (((aV (m - 1)).map λ(i:Nat)=>2 * (i:Int)+2)++[(m:Int)])):=by
  unfold yI
  dsimp only
  rw [if_pos (by rw [aC,aC,gD,iJ]; exact aT (by omega))]
  simp
 have c:(decide (("d":Str)="a"))=false:=by decide
 have b:(decide (("d":Str)="b"))=false:=by decide
 unfold YF
 rw [zt,yD]
 simp only [yB,zk,zT,yC,au,aw,ak,h,uy,c,cM,if_false,xD]
 rw [zt,yD]
 simp only [yB,zk,zT,yC,au,aw,ak,h,uy,b,cM,if_false,xD]
 rw [zt,yD]
 simp only [yB,zk,zT,yC,au,aw,ak,h,uy,decide_true,if_true,ye,zr,yv,UN,zh,zm,a,if_pos hz,yK,bq,aL,bD,bu,em,bg,y6,aM,aN,if_pos z1,ad]
def Xj {c:Kd} {m:Nat} (b:Gp (wX 3 [kD c])=some (.nx [.fr (kD c),.fr (.int (m:Int)),.no])) (a:Wc (kT c)=none) (ht:YF [.fr (kD c),.fr (.int (m:Int)),.no]=some (.rt (lD (bE c)))):yV [kD c]=some (lD (bE c)):=by
 unfold yV
 rw [b]
 dsimp only
 rw [a]
 dsimp only
 rw [ht]
def D6:∀ p∈qm,yV [kD p.2]=some (lD (bE p.2)):=by
 intro p h
 unfold qm at h
 simp only [aQ,ED,or_false] at h
 rcases h with h | h | h | h | h | h | h | h | h | h | h | h | h | h | h | h | h | h | h | h <;> subst h
 .kernel_rfl
 .kernel_rfl
 .kernel_rfl
 .kernel_rfl
 .kernel_rfl
 .kernel_rfl
 .exact Xj (m:=2) (by kernel_rfl) (by kernel_rfl) (Qu (by decide) (by kernel_rfl))
 .exact Xj (m:=3) (by kernel_rfl) (by kernel_rfl) (Qu (by decide) (by kernel_rfl))
 .exact Xj (m:=4) (by kernel_rfl) (by kernel_rfl) (Qu (by decide) (by kernel_rfl))
 .exact Xj (m:=5) (by kernel_rfl) (by kernel_rfl) (Qu (by decide) (by kernel_rfl))
 .exact Xj (m:=6) (by kernel_rfl) (by kernel_rfl) (Qu (by decide) (by kernel_rfl))
 .exact Xj (m:=4) (by kernel_rfl) (by kernel_rfl) (BC (by decide) (by decide) (by kernel_rfl))
 .exact Xj (m:=5) (by kernel_rfl) (by kernel_rfl) (BC (by decide) (by decide) (by kernel_rfl))
 .exact Xj (m:=6) (by kernel_rfl) (by kernel_rfl) (BC (by decide) (by decide) (by kernel_rfl))
 all_goals kernel_rfl
theorem Qt (a0:Slot):∀ (l xs:List Int) (s2:Slot),1<=xs.length->(∀ d∈l,2<=d/\d<=30)->(l.foldl qU xs).length<=100->∃ g,ym (zO 2) (vk 1 (zg (vD 1 [1,2] (MV (zb (zd wg (zd yI (ya jA (zb (vF 1) zp)) (vF 2)) (cF (.int 1))) zp)) (zO 0) eG (ya Cw (zb (qV (vF 1) (ir (ya JA (zb (cF (.int 0)) (zb (zd yI (zd wg (vF 0) (vF 2)) (cF (.int 1))) zp)))) (ir (zd yI (vF 0) (cF (.int 1))))) zp))))) (l.map D.int) [a0,.fr (lD xs),s2]=some (.nx [a0,.fr (lD (l.foldl qU xs)),g])
 | [],xs,s2,_,_,_=>⟨s2,rfl⟩
 | d :: l,xs,s2,h,hd,i=>by
  have y:=hd d ba
  have n:=qj l (qU xs d) (by rw [wO]; omega) λe b=>(hd e (br _ b)).1
  have w:(l.foldl qU (qU xs d)).length<=100:=i
  have tl:=wO xs d
  obtain ⟨g,e⟩:=Qt a0 l (qU xs d) (.fr (.int d)) (by rw [wO]; omega) (λe b=>hd e (br _ b)) i
  refine ⟨g,?_⟩
  have q:((xs.length:Int)+d - 1)=((xs.length+d.toNat - 1:Nat):Int):=by omega
  have j:=Wa (xs.length+d.toNat - 1) (by omega)
  have m:jA [lD xs]=some (.int (xs.length:Int)):=by
   show some (D.int ((xs.map D.int).length:Int))=_
   rw [aC]
  have u:=vA (f:=ya Cw (zb (qV (vF 1) (ir (ya JA (zb (cF (.int 0)) (zb (zd yI (zd wg (vF 0) (vF 2)) (cF (.int 1))) zp)))) (ir (zd yI (vF 0) (cF (.int 1))))) zp)) (C:=[.fr (lD xs),.fr (.int d)]) (ι:=λ(k:Nat)=>D.int (k:Int)) (φ:=λp=>D.int (((xs.take (p+1)).drop (p+1 - d.toNat)).foldl (λa x=>a+x) 0)) (aV (xs.length+d.toNat - 1)) .no (λp v=>by
   have c:JA [.int 0,.int ((p:Int) - d+1)]=some (.int ((p+1 - d.toNat:Nat):Int)):=by
    rw [HC]
    congr 2
    split <;> omega
   have r:((p:Int)+1)=((p+1:Nat):Int):=by omega
   have s:YJ (xs.map D.int) (some ((p+1 - d.toNat:Nat):Int)) (some ((p+1:Nat):Int))=((xs.take (p+1)).drop (p+1 - d.toNat)).map D.int:=by
    rw [Q8 _ _ _ (by omega),<- Ey,<- List.map_take,List.drop_take]
   simp only [zG,zh,zm,jw,JY,yC,zT,zk,au,aw,ak,VW,uu,c,r,s,HA]
   rw [jt,Int.zero_add])
  have hz:((aV (xs.length+d.toNat - 1)).map λ(k:Nat)=>D.int (k:Int)).length<=sizeLine:=by rw [aC,gD]; exact aT (by omega)
  have t:qq 1 [1,2] [a0,.fr (lD xs),.fr (.int d)]=[.no,.fr (lD xs),.fr (.int d)]:=rfl
  rw [aH,ym]
  simp only [xf,ak,aK,aJ]
  rw [zQ,zr,yv]
  simp only [Y2,zh,zm,zG,zk,zT,yC,au,aw,ak,m,uu,VW,q,j,if_pos hz]
  rw [t,u]
  simp only [bg,ak,aK,aJ]
  have o:(aV (xs.length+d.toNat - 1)).map (λp=>D.int (((xs.take (p+1)).drop (p+1 - d.toNat)).foldl (λa x=>a+x) 0))=(qU xs d).map D.int:=by
   unfold qU
   rw [cN]
   rfl
  rw [o]
  exact e
def KB (a:∀ d∈l,2<=d/\d<=30) (b:(kP l).length<=100):Wx [lD l]=some (lD (kP l)):=by
 obtain ⟨s2,e⟩:=Qt (.fr (lD l)) l [1] .no (by simp) a b
 have z1:0+1<=sizeLine:=aT (by decide)
 simp only [Wx,WV,yu,zP,aH,bq,aM,aN,Nat.reduceAdd,Nat.reduceSub,aL,bD,bu]
 rw [zt (F:=vk 1 _),zQ]
 simp only [zr,y6,zh,zm,yC,ak,aM,aN,if_pos z1,bg,aK,aJ]
 rw [zt (F:=JB _ _ _),wK]
 simp only [zE,zT,au,ak,yA]
 have e:ym _ _ (l.map D.int) [.fr (lD l),.fr (.lst [.int 1]),.no]=_:=e
 rw [e]
 rfl
def Mq:aE (.lst (x :: l)) (.int 0)=some x:=by simp [aE,atI,dI]
def isH (n:Nat) (ts:List T3):Yk (zc n ts)=true:=by
 show (ts.map tD).all Ft=true
 rw [List.all_map]
 exact cw.mpr λ_ _=>rfl
def VG (b:fa ρ=some [zc n ts]) (a:g [zc n ts]=some (lD G)) (c:G≠[]):NJ i g fa ρ=some (.nx (ρ.set i (.ol (G.map D.int)))):=by
 unfold NJ
 rw [b]
 dsimp only [ak]
 rw [if_pos (isH n ts),a]
 dsimp only
 rw [Wr]
 cases G with
 | nil=>exact absurd rfl c
 | cons x l=>rfl
theorem YW (a0 a1 a2 a3 a4 o n m j i g:Slot):∀ (l:List RK) (a:List Int) (d c:Slot),(∀ x∈l,yV [kD x.2]=some (lD (bE x.2))/\(bE x.2).length<=6)->a.length+6 * l.length<=100 →
  ∃ f b,ym (jj 2 (yh (zO 8) (yh (zO 9) kh))) (vk 7 (zd yI (vF 7) (ya yV (zb (vF 9) zp)))) (yf l) [a0,a1,a2,a3,a4,o,n,.fr (lD a),d,c,m,j,i,g]=some (.nx [a0,a1,a2,a3,a4,o,n,.fr (lD (a++l.flatMap λx=>bE x.2)),f,b,m,j,i,g])
 | [],a,d,c,_,_=>⟨d,c,by rw [List.flatMap_nil,cO]; rfl⟩
 | x :: l,a,d,c,h,s=>by
  rw [aM] at s
  obtain ⟨r,q⟩:=h x ba
  obtain ⟨f,b,e⟩:=YW a0 a1 a2 a3 a4 o n m j i g l (a++bE x.2) (.fr (lD x.1)) (.fr (kD x.2)) (λy p=>h y (br _ p)) (by rw [bX]; omega)
  refine ⟨f,b,?_⟩
  have ad:yI (lD a) (lD (bE x.2))=some (lD (a++bE x.2)):=by
   unfold yI
   dsimp only
   rw [if_pos (by rw [aC,aC]; exact aT (by omega))]
   show some (D.lst _)=some (D.lst ((a++bE x.2).map D.int))
   rw [gC]
  unfold yf
  rw [aH,ym]
  simp only [uU,vn,xf,uV,aM,aN,Nat.reduceAdd,if_true,aK,aJ,ak,zQ,zk,zG,zh,zm,zT,au,aw,r,ad]
  rw [mn] at e
  rw [nt]
  exact e
theorem Y6 (a0 a1 a2 a3 a4 n j i g f c b:Slot):∀ (l:List Int) (m:Int) (s:Slot),(∀ d∈l,2<=d/\d<=30)->∃ s',ym (zO 13) (vk 12 (zd YI (vF 12) (vF 13))) (l.map D.int) [a0,a1,a2,a3,a4,n,j,i,g,f,c,b,.fr (.int m),s]=some (.nx [a0,a1,a2,a3,a4,n,j,i,g,f,c,b,.fr (.int (l.foldl (λa d=>a * d) m)),s'])
 | [],m,s,_=>⟨s,rfl⟩
 | d :: l,m,s,h=>by
  have hd:=h d ba
  obtain ⟨s',e⟩:=Y6 a0 a1 a2 a3 a4 n j i g f c b l (m * d) (.fr (.int d)) λx o=>h x (br _ o)
  refine ⟨s',?_⟩
  have mb:YI (.int m) (.int d)=some (.int (m * d)):=uF (Bx (by omega) (by omega))
  rw [aH,ym,mm]
  simp only [xf,ak,aK,aJ,zQ,zk,zT,au,aw,mb]
  exact e
def Kg {l m:List Int} (h:l.Perm m):l.sum=m.sum:=by
 induction h with
 | nil=>rfl
 | cons x _ a=>rw [nk,nk,a]
 | swap x y l=>simp only [nk]; omega
 | trans _ _ h1 h2=>exact h1.trans h2
def DU:inD true (.bl false) (.lst ((aV 3).map λ_=>D.bl true))=some (.bl true):=by rfl
def ZZ (h:F ρ=some (.nx ρ')):xB F G ρ=G ρ':=by rw [zt,h]; rfl
def Hx (h:F ρ=some (.rt d)):xB F G ρ=some (.rt d):=by rw [zt,h]; rfl
def Fv (h:c ρ=some true):cn c F G ρ=F ρ:=by rw [yD,h]; rfl
def Fw (h:c ρ=some false):cn c F G ρ=G ρ:=by rw [yD,h]; rfl
def yb (h:F ρ=some (.nx ρ')) (k:Zr (G ρ')=o):Zr (xB F G ρ)=o:=by rw [ZZ h]; exact k
def Bh (h:F ρ=some (.rt d)):Zr (xB F G ρ)=some d:=by rw [Hx h]; rfl
def Nj (A:vf [s]=some (.tup [zc n ts,.lst (yf R)])) (B:xH [zc n ts]=some (.lst (yf R))) (M:R.length<=6) (I:R≠[])
  (e:∀ x∈R,x.1.length<=6/\(kT x.2="-"\/(x.1.length,x.2)∈qm)) (L:(R.map λx=>x.1.length).sum<=6) (c:R.filter nv=x :: f):g_law [s]=some (.bl true):=by
 have F:0+1+1<=sizeLine:=aT (by omega)
 have v:aE (zc n ts) (.int 0)=some (.int n):=by unfold zc; exact mQ
 have i1:aE (zc n ts) (.int 1)=some (.lst (ts.map tD)):=by unfold zc; exact pV
 have fold:D.tup [.int (n:Int),.lst (ts.map tD)]=zc n ts:=rfl
 have w:=jB (G6 n ts)
 have b:(yf R).length<=sizeLine:=by rw [aC]; exact aT (by omega)
 have d:=VB (ft:=aO (zd bt (vF 1) (cF (.str "-")))) (f:=vF 0) (C:=[]) (ι:=λx:RK=>lD x.1) (κ:=λx=>kD x.2) (q:=nv) (φ:=λx=>lD x.1) R .no .no (λx _=>by
  simp only [yB,zk,zT,yC,au,aw,ak,uy]) (λ_ _ _=>rfl)
 have d:yT (jj 2 (yh (zO 0) (yh (zO 1) kh))) (aO (zd bt (vF 1) (cF (.str "-")))) (vF 0) (yf R) [.no,.no]=some ((R.filter nv).map λx=>lD x.1):=d
 obtain ⟨y,R',h⟩:∃ y R',R=y :: R':=by
  cases R with
  | nil=>exact absurd rfl I
  | cons y R'=>exact ⟨y,R',rfl⟩
 have u:aE (.lst (yf R)) (.int 0)=some (.tup [lD y.1,kD y.2]):=by rw [h]; exact Mq
 have t:aE (.tup [lD y.1,kD y.2]) (.int 0)=some (lD y.1):=mQ
 have r:=Vj y.1 (by have:=(e y (by rw [h]; exact ba)).1; omega)
 have j:x∈R:=(e_.mp (c ▸ ba:x∈R.filter nv)).1
 have J:=(e x j).1
 have g:=Ys B c
 have E:=BU g
 have o:=Vi (F4 x.1)
 have ty:ZM (gP (.tup (x.1.map D.int))) "tuple"=true:=by simp [ZM,gP]
 have td:uO [lD x.1]=some (.tup (x.1.map D.int)):=rfl
 have gt:dW (.int (((lD x.1) :: f.map λx=>lD x.1).length:Int)) (.int 0)=some (.bl true):=by
  rw [HF,decide_eq_true (by rw [aM]; omega)]
 have a:=Wa 3 (by omega)
 have a:q9 [.int 3]=_:=a
 have H:=vA (f:=ya vq (zb (vF 0) (zb (vF 1) (zb (zd aE (vF 2) (cF (.int 0))) zp)))) (C:=[.fr (zc n ts),.fr (.lst (lD x.1 :: f.map λx=>lD x.1))]) (ι:=λ(k:Nat)=>D.int (k:Int)) (φ:=λ_=>D.bl true) (aV 3) .no (λp z=>by
  have:=ip.mp z
  have l:=Wb E (by omega:x.1.length<=100) (i:=(p:Int)) (by omega)
  simp only [zG,zh,zm,zk,zT,yC,au,aw,ak,Mq,l])
 have z3:((aV 3).map λ(k:Nat)=>D.int (k:Int)).length<=sizeLine:=aT (by decide)
 have m:=DU
 simp only [g_law,Gq,yu,zP,aH,bq,aM,aN,Nat.reduceAdd,Nat.reduceSub,aL,bD,bu]
 refine yb (ρ':=[.fr s,.fr (zc n ts),.fr (.lst (yf R)),.no,.no,.no,.no,.no,.no,.no,.no,.no,.no,.no]) ?_ ?_
 .simp only [W7,zG,zh,zm,zT,au,aw,ak,A,uU,aM,aN,cW,Nat.reduceAdd,if_true,vn,xf,uV,aK,aJ]
 refine yb (ρ':=[.fr s,.fr (zc n ts),.fr (.lst (yf R)),.fr (zc n ts),.no,.no,.no,.no,.no,.no,.no,.no,.no,.no]) ?_ ?_
 .simp only [zQ,wt,zh,zm,zk,zT,yC,au,aw,ak,v,zr,X4,i1,bg,aM,aN,if_pos F,aK,aJ,fold]
 refine yb (ρ':=[.fr s,.fr (zc n ts),.fr (.lst (yf R)),.fr (zc n ts),.fr (.lst (lD x.1 :: f.map λx=>lD x.1)),.no,.no,.no,.no,.no,.no,.no,.no,.no]) ?_ ?_
 .simp only [zQ,zr,yv,zE,zT,au,aw,ak,yA,if_pos b,yK,bq,aL,bD,bu,d,c,bg,aH,aK,aJ]
 refine yb (ρ':=[.fr s,.fr (zc n ts),.fr (.lst (yf R)),.fr (zc n ts),.fr (.lst (lD x.1 :: f.map λx=>lD x.1)),.fr (.tup (x.1.map D.int)),.no,.no,.no,.no,.no,.no,.no,.no]) ?_ ?_
 .simp only [zQ,zG,zh,zm,zT,au,aw,ak,g,aK,aJ]
 refine yb (ρ':=[.fr s,.fr (zc n ts),.fr (.lst (yf R)),.fr (zc n ts),.fr (.lst (lD x.1 :: f.map λx=>lD x.1)),.fr (.tup (x.1.map D.int)),.no,.no,.no,.no,.no,.no,.no,.no]) ?_ ?_
 .simp only [yD,qX,yB,zG,zh,zm,zk,zT,yC,au,aw,ak,u,t,r,lM,cM,if_false,xD]
 refine Bh ?_
 refine (Fv ?_).trans ?_
 .simp only [yB,zk,zG,zh,zm,zT,yC,au,aw,ak,vL,gt]
 refine (ZZ (ρ':=[.fr s,.fr (zc n ts),.fr (.lst (yf R)),.fr (zc n ts),.fr (.lst (lD x.1 :: f.map λx=>lD x.1)),.fr (.tup (x.1.map D.int)),.no,.no,.no,.no,.no,.no,.no,.no]) ?_).trans ?_
 .simp only [yD,JV,qX,yB,Z5,zk,zG,zh,zm,zT,yC,au,aw,ak,Gw,ty,lM,cM,if_false,Mq,td,o,xD]
 refine (ZZ (ρ':=[.fr s,.fr (zc n ts),.fr (.lst (yf R)),.fr (zc n ts),.fr (.lst (lD x.1 :: f.map λx=>lD x.1)),.fr (.tup (x.1.map D.int)),.fr (.lst ((aV 3).map λ_=>D.bl true)),.no,.no,.no,.no,.no,.no,.no]) ?_).trans ?_
 .have G:qq 1 [3,4] [.fr s,.fr (zc n ts),.fr (.lst (yf R)),.fr (zc n ts),.fr (.lst (lD x.1 :: f.map λx=>lD x.1)),.fr (.tup (x.1.map D.int)),.no,.no,.no,.no,.no,.no,.no,.no]=[.no,.fr (zc n ts),.fr (.lst (lD x.1 :: f.map λx=>lD x.1))]:=rfl
  rw [zQ,zr,yv,G]
  simp only [Y2,zh,zm,yC,ak,a,if_pos z3,H,bg,aK,aJ]
 .simp only [ye,Gx,zk,yC,zT,au,aw,ak,m,w,if_true]
def Ni (hm:vf [s]=some (.tup [zc n ts,.lst (yf R)])) (E:xH [zc n ts]=some (.lst (yf R))) (hR:R.length<=6) (bQ:R≠[])
  (B:∀ x∈R,x.1.length<=6/\(kT x.2="-"\/(x.1.length,x.2)∈qm)) (j_:(R.map λx=>x.1.length).sum<=6) (F:R.filter nv=[]):g_law [s]=some (.bl true):=by
 have dC:0+1+1<=sizeLine:=aT (by omega)
 have Z:aE (zc n ts) (.int 0)=some (.int n):=by unfold zc; exact mQ
 have i1:aE (zc n ts) (.int 1)=some (.lst (ts.map tD)):=by unfold zc; exact pV
 have fold:D.tup [.int (n:Int),.lst (ts.map tD)]=zc n ts:=rfl
 have hq:=jB (G6 n ts)
 have u:(yf R).length<=sizeLine:=by rw [aC]; exact aT (by omega)
 have v:=VB (ft:=aO (zd bt (vF 1) (cF (.str "-")))) (f:=vF 0) (C:=[]) (ι:=λx:RK=>lD x.1) (κ:=λx=>kD x.2) (q:=nv) (φ:=λx=>lD x.1) R .no .no (λx _=>by
  simp only [yB,zk,zT,yC,au,aw,ak,uy]) (λ_ _ _=>rfl)
 have v:yT (jj 2 (yh (zO 0) (yh (zO 1) kh))) (aO (zd bt (vF 1) (cF (.str "-")))) (vF 0) (yf R) [.no,.no]=some ((R.filter nv).map λx=>lD x.1):=v
 obtain ⟨y,R',r⟩:∃ y R',R=y :: R':=by
  cases R with
  | nil=>exact absurd rfl bQ
  | cons y R'=>exact ⟨y,R',rfl⟩
 have X:aE (.lst (yf R)) (.int 0)=some (.tup [lD y.1,kD y.2]):=by rw [r]; exact Mq
 have W:aE (.tup [lD y.1,kD y.2]) (.int 0)=some (lD y.1):=mQ
 have S:=Vj y.1 (by have:=(B y (by rw [r]; exact ba)).1; omega)
 have hd:∀ x∈R,(x.1.length,x.2)∈qm:=λx a=>(B x a).2.resolve_left λc=>by
  have:x∈R.filter nv:=e_.mpr ⟨a,decide_eq_true c⟩
  rw [F] at this; cases this
 have ok:∀ x∈R,DgOk x.1.length x.2:=λx a=>FZ (hd x a)
 have he:=Ug E λx a=>(ok x a).txt
 have dv:=WK hR E ok
 have fl:=Yp R λx a=>(ok x a).len
 have rg:∀ d∈yd (R.flatMap λx=>bE x.2),2<=d/\d<=30:=λd h=>by
  have all:(qm.all λp=>(bE p.2).all λd=>decide (2<=d/\d<=30))=true:=by decide +kernel
  obtain ⟨x,a,xd⟩:=List.mem_flatMap.mp ((z9 _).subset h)
  exact of_decide_eq_true (cw.mp (cw.mp all _ (hd x a)) d xd)
 have o:(kP (yd (R.flatMap λx=>bE x.2))).length<=100:=by
  have e:=Jc (yd (R.flatMap λx=>bE x.2)) [1] (by simp) λd h=>(rg d h).1
  have p:((yd (R.flatMap λx=>bE x.2)).map λd=>d - 1).sum=((R.flatMap λx=>bE x.2).map λd=>d - 1).sum:=Kg ((z9 _).map _)
  have b:∀ l:List RK,(∀ x∈l,(x.1.length,x.2)∈qm)->((l.flatMap λx=>bE x.2).map λ(d:Int)=>d - 1).sum<=(15:Int) * (((l.map λx=>x.1.length).sum:Nat):Int):=by
   have all:(qm.all λp=>decide (((bE p.2).map λd=>d - 1).sum<=15 * (p.1:Int)))=true:=by decide +kernel
   intro l
   induction l with
   | nil=>intro _; simp
   | cons x l Y =>
    intro h
    have h1:=Y λz hz=>h z (br _ hz)
    have h2:=of_decide_eq_true (cw.mp all _ (h x ba))
    rw [nt,gC,List.sum_append,aH,nk]
    dsimp only at h2
    omega
  have b1:=b R hd
  rw [p] at e
  have e:((kP (yd (R.flatMap λx=>bE x.2))).length:Int)=(([1]:List Int).length:Int)+((R.flatMap λx=>bE x.2).map λd=>d - 1).sum:=e
  rw [iJ] at e
  omega
 have j:yd (R.flatMap λx=>bE x.2)≠[]:=λz=>by
  have all:(qm.all λp=>decide (0 < (bE p.2).length))=true:=by decide +kernel
  have h0:=of_decide_eq_true (cw.mp all _ (hd y (by rw [r]; exact ba)))
  have:=(z9 (R.flatMap λx=>bE x.2)).length_eq
  rw [z,r,nt,bX,aN] at this
  dsimp only at h0
  omega
 have U:(yd (R.flatMap λx=>bE x.2)).length<=36:=by rw [(z9 _).length_eq]; omega
 have T:(R.flatMap λx=>bE x.2).length < 64:=by omega
 obtain ⟨i,g,es⟩:=YW (.fr s) (.fr (zc n ts)) (.fr (.lst (yf R))) (.fr (zc n ts)) (.fr (.lst [])) (.fr .non) .no .no .no .no .no R [] .no .no (λx a=>⟨D6 _ (hd x a),(ok x a).len⟩) (by rw [aN]; omega)
 rw [bu] at es
 have w:=ju (fa:=zb (vF 7) zp) (ρ:=[.fr s,.fr (zc n ts),.fr (.lst (yf R)),.fr (zc n ts),.fr (.lst []),.fr .non,.no,.fr (lD (R.flatMap λx=>bE x.2)),i,g,.no,.no,.no,.no]) (l:=R.flatMap λx=>bE x.2) rfl T
 generalize yd (R.flatMap λx=>bE x.2)=G at dv rg o j U w
 have H:=Um dv rg o
 have t:=JQ dv λd h=>by have:=rg d h; omega
 have A:=KB rg o
 have cs:=Ci G λd h=>(rg d h).1
 have O:kP G≠[]:=λz=>by
  have:=qj G [1] (by simp) λd h=>(rg d h).1
  have:([1]:List Int).length<=(kP G).length:=this
  rw [z] at this; simp at this
 have P:=vo G (by omega)
 have Q:=vo (kP G) o
 have L:=jB (Q1 G)
 have M:=jB (Q1 (kP G))
 obtain ⟨m,ep⟩:=Y6 (.fr s) (.fr (zc n ts)) (.fr (.lst (yf R))) (.fr (zc n ts)) (.fr (.lst [])) (.fr .non) .no (.fr (lD G)) i g (.ol (G.map D.int)) (.ol ((kP G).map D.int)) G 1 .no rg
 have ep:ym _ _ (G.map D.int) _=some (.nx [.fr s,.fr (zc n ts),.fr (.lst (yf R)),.fr (zc n ts),.fr (.lst []),.fr .non,.no,.fr (lD G),i,g,.ol (G.map D.int),.ol ((kP G).map D.int),.fr (.int (Y7 G)),m]):=ep
 have J:0<=sizeLine:=fo _
 have gt:dW (.int (([]:List D).length:Int)) (.int 0)=some (.bl false):=rfl
 have N:l9 true .non .non=some (.bl false):=rfl
 have I:((kP G).map D.int).length < sizeLine:=by rw [aC]; exact xM (by omega)
 simp only [g_law,Gq,yu,zP,aH,bq,aM,aN,Nat.reduceAdd,Nat.reduceSub,aL,bD,bu]
 refine yb (ρ':=[.fr s,.fr (zc n ts),.fr (.lst (yf R)),.no,.no,.no,.no,.no,.no,.no,.no,.no,.no,.no]) ?_ ?_
 .simp only [W7,zG,zh,zm,zT,au,aw,ak,hm,uU,aM,aN,cW,Nat.reduceAdd,if_true,vn,xf,uV,aK,aJ]
 refine yb (ρ':=[.fr s,.fr (zc n ts),.fr (.lst (yf R)),.fr (zc n ts),.no,.no,.no,.no,.no,.no,.no,.no,.no,.no]) ?_ ?_
 .simp only [zQ,wt,zh,zm,zk,zT,yC,au,aw,ak,Z,zr,X4,i1,bg,aM,aN,if_pos dC,aK,aJ,fold]
 refine yb (ρ':=[.fr s,.fr (zc n ts),.fr (.lst (yf R)),.fr (zc n ts),.fr (.lst []),.no,.no,.no,.no,.no,.no,.no,.no,.no]) ?_ ?_
 .simp only [zQ,zr,yv,zE,zT,au,aw,ak,yA,if_pos u,yK,bq,aL,bD,bu,v,F,bg,aH,aK,aJ]
 refine yb (ρ':=[.fr s,.fr (zc n ts),.fr (.lst (yf R)),.fr (zc n ts),.fr (.lst []),.fr .non,.no,.no,.no,.no,.no,.no,.no,.no]) ?_ ?_
 .simp only [zQ,zG,zh,zm,zT,au,aw,ak,he,aK,aJ]
 refine yb (ρ':=[.fr s,.fr (zc n ts),.fr (.lst (yf R)),.fr (zc n ts),.fr (.lst []),.fr .non,.no,.no,.no,.no,.no,.no,.no,.no]) ?_ ?_
 .simp only [yD,qX,yB,zG,zh,zm,zk,zT,yC,au,aw,ak,X,W,S,lM,cM,if_false,xD]
 refine yb (ρ':=[.fr s,.fr (zc n ts),.fr (.lst (yf R)),.fr (zc n ts),.fr (.lst []),.fr .non,.no,.no,.no,.no,.no,.no,.no,.no]) ?_ ?_
 .simp only [yD,yB,zk,zG,zh,zm,zT,yC,au,aw,ak,vL,gt,cM,if_false,xD]
 refine yb (ρ':=[.fr s,.fr (zc n ts),.fr (.lst (yf R)),.fr (zc n ts),.fr (.lst []),.fr .non,.no,.fr (.lst []),.no,.no,.no,.no,.no,.no]) ?_ ?_
 .simp only [zQ,zr,y6,zm,ak,aN,if_pos J,bg,aK,aJ]
 refine yb (ρ':=[.fr s,.fr (zc n ts),.fr (.lst (yf R)),.fr (zc n ts),.fr (.lst []),.fr .non,.no,.fr (lD (R.flatMap λx=>bE x.2)),i,g,.no,.no,.no,.no]) ?_ ?_
 .rw [wK]
  simp only [zE,zT,au,aw,ak,yA]
  exact es
 refine yb (ρ':=[.fr s,.fr (zc n ts),.fr (.lst (yf R)),.fr (zc n ts),.fr (.lst []),.fr .non,.no,.fr (lD G),i,g,.no,.no,.no,.no]) ?_ ?_
 .rw [zQ,zr,w]
  simp only [bg,ak,aK,aJ]
 refine yb (ρ':=[.fr s,.fr (zc n ts),.fr (.lst (yf R)),.fr (zc n ts),.fr (.lst []),.fr .non,.no,.fr (lD G),i,g,.ol (G.map D.int),.no,.no,.no]) ?_ ?_
 .rw [VG (n:=n) (ts:=ts) (G:=G) (by simp only [zh,zm,zT,au,aw,ak]) dv j]
  simp only [aK,aJ]
 refine yb (ρ':=[.fr s,.fr (zc n ts),.fr (.lst (yf R)),.fr (zc n ts),.fr (.lst []),.fr .non,.no,.fr (lD G),i,g,.ol (G.map D.int),.ol ((kP G).map D.int),.no,.no]) ?_ ?_
 .rw [VG (n:=n) (ts:=ts) (G:=kP G) (by simp only [zh,zm,zT,au,aw,ak]) H O]
  simp only [aK,aJ]
 refine yb (ρ':=[.fr s,.fr (zc n ts),.fr (.lst (yf R)),.fr (zc n ts),.fr (.lst []),.fr .non,.no,.fr (lD G),i,g,.ol (G.map D.int),.ol ((kP G).map D.int),.no,.no]) ?_ ?_
 .refine (Fw ?_).trans rfl
  simp only [JV,qX,yB,zk,HE,HG,zG,zh,zm,zT,yC,au,aw,ak,aK,aJ,N,P,A,Q,MU,lM,cM,if_false]
 refine yb (ρ':=[.fr s,.fr (zc n ts),.fr (.lst (yf R)),.fr (zc n ts),.fr (.lst []),.fr .non,.no,.fr (lD G),i,g,.ol (G.map D.int),.ol ((kP G).map D.int),.fr (.int 1),.no]) ?_ ?_
 .simp only [zQ,yC,ak,aK,aJ]
 refine yb (ρ':=[.fr s,.fr (zc n ts),.fr (.lst (yf R)),.fr (zc n ts),.fr (.lst []),.fr .non,.no,.fr (lD G),i,g,.ol (G.map D.int),.ol ((kP G).map D.int),.fr (.int (Y7 G)),m]) ?_ ?_
 .rw [wK]
  simp only [zE,zT,au,aw,ak,yA]
  exact ep
 refine yb (ρ':=[.fr s,.fr (zc n ts),.fr (.lst (yf R)),.fr (zc n ts),.fr (.lst []),.fr .non,.no,.fr (lD G),i,g,.ol (G.map D.int),.ol ((kP G).map D.int),.fr (.int (Y7 G)),m]) ?_ ?_
 .refine (Fw ?_).trans rfl
  simp only [JV,qX,yB,zk,zG,zh,zm,zT,UL,yC,au,aw,ak,t,YL,lM,cM,if_false,C5,decide_true,HA,cs]
 refine yb (ρ':=[.fr s,.fr (zc n ts),.fr (.lst (yf R)),.fr (zc n ts),.fr (.lst []),.fr .non,.no,.fr (lD G),i,g,.ol [],.ol ((kP G).map D.int),.fr (.int (Y7 G)),m]) rfl ?_
 refine yb (ρ':=[.fr s,.fr (zc n ts),.fr (.lst (yf R)),.fr (zc n ts),.fr (.lst []),.fr .non,.no,.fr (lD G),i,g,.ol [],.ol ((kP G).map D.int++[.int 0]),.fr (.int (Y7 G)),m]) ?_ ?_
 .simp only [wy,yC,au,aw,ak,if_pos I,aK,aJ]
 simp only [ye,Gx,zk,zG,zh,zm,zT,au,aw,ak,dv,H,A,L,M,hq,if_true,y4]
def D7 (c:vf [s]=some (.tup [zc n ts,.lst (yf R)])) (d:xH [zc n ts]=some (.lst (yf R))) (e:R.length<=6) (h:R≠[])
  (b:∀ x∈R,x.1.length<=6/\(kT x.2="-"\/(x.1.length,x.2)∈qm)) (a:(R.map λx=>x.1.length).sum<=6):g_law [s]=some (.bl true):=by
 cases g:R.filter nv with
 | cons x f=>exact Nj c d e h b a g
 | nil=>exact Ni c d e h b a g
def law_true (ns:List Int) (r:ns.length<=63):g_law [.lst (ns.map D.int)]=some (.bl true):=by
 obtain ⟨bs,ord,h1,o,e,ht,g,i⟩:=Qq ns
 obtain ⟨ps,pm,j⟩:=Ua e (by omega) (by omega)
 have f:=Xm e (by omega) (by omega)
 rw [<- g2j.inj (j.symm.trans f)] at i
 have l:=pm.length_eq
 have a:∀ (bs:List bA) (b:Int),((xW b bs).map λp=>p.2.1).sum=yZ bs:=by
  intro bs
  induction bs with
  | nil=>intro b; rfl
  | cons B bs m=>intro b; rw [xW,aH,nk,m,yZ]
 have len:∀ p:Int×bA,(yd (vC (sg ord) p)).length=p.2.1:=λp=>by rw [(z9 _).length_eq]; unfold vC; rw [aC,xu]
 have d:(ps.map λp=>p.2.1).sum=yZ bs:=by rw [(pm.map λp=>p.2.1).sum_nat,a]
 refine D7 i j (by rw [aC,l]; rw [aC] at g; exact g) (λz=>?_) (λx n=>?_) ?_
 .have:ps=[]:=List.map_eq_nil_iff.mp z
  rw [this] at d
  simp at d
  omega
 .obtain ⟨p,h,rfl⟩:=eW.mp n
  have q:=xp (pm.mem_iff.mp h)
  refine ⟨by rw [len]; omega,?_⟩
  by_cases c:p.2.2.1=(0,0)
  .refine .inl ?_
   show kT p.2.2.1="-"
   rw [c]; rfl
  .refine .inr ?_
   rw [len]
   exact NG (e.gb _ (xX (pm.mem_iff.mp h))) c
 .rw [cN]
  have:(ps.map ((λx:RK=>x.1.length) ∘ λp=>(yd (vC (sg ord) p),p.2.2.1)))=ps.map λp=>p.2.1:=mq λp _=>len p
  rw [this,d]
  exact o
end Pk63
namespace PySem.W.Fast
def tw8261263100827651278:=0
def tw10194631893450772244:=0
def tw11909801084015143096:=0
def tw495672243680142470:=0
def tw10831950833937870089:=0
def tw18162238413951783609:=0
def tw11495763302637229182:=0
end PySem.W.Fast
open PySem PySem.W PyProof.Rows FL L2 in
set_option maxRecDepth 100000 in
set_option maxHeartbeats 0 in
theorem PySem.Challenge.cw_mirrorhouse_k63_degrees_and_counts_holds : PySem.Challenge.rw_mirrorhouse_k63_degrees_and_counts.Holds := by
 w_on; refine holds_law (by kernel_rfl) λsaid=>?_; k_head; (case hw=>w_witness2)
 k_fill
 refine L2.walk_ofK (l:=PySem.Challenge.rw_mirrorhouse_k63_degrees_and_counts) (n:=63) (k:=13) (x:="_law_script") (CX:=bF) (sp:=λK=>FL.spF K 1 Pk63.g_law) rfl (by decide) rfl ⟨rfl,by decide,by decide⟩ (λw h Y=>PySem.W.kIn_of Y) ?F (λK H a ns hl _ hS=>FL.law_sp hS (Pk63.law_true ns hl)) (λ_ _ _ _ z=>z)
 case F =>
  intro w mg fa h KX G rh
  refine' Pk63.all_mk KX G rh ?d0 ?d1 ?d2 ?d3 ?d4 ?d5 ?d6 ?d7 ?d8 ?d9 ?d10 ?d11 ?d12 ?d13 ?d14 ?d15 ?d16 ?d17 ?d18 ?d19 ?d20 ?d21 ?d22 ?d23 ?d24 ?d25 ?d26 ?d27 ?d28 ?d29 ?d30 ?d31 ?d32 ?d33 ?d34 ?b_ValueError ?b_all ?b_bool ?b_enumerate ?b_int ?b_isinstance ?b_len ?b_list ?b_max ?b_min ?b_range ?b_sorted ?b_str ?b_sum ?b_tuple ?b_zip ?q_0c ?q_1c ?q_2c ?q_3c ?r_3c ?r_3c_0 ?r_3c_1 ?r_3c_2 ?r_3c_3 ?r_3c_4 ?kr_y_3c ?kr_z_3c_0 ?kr_z_3c_1 ?kr_z_3c_2 ?kr_z_3c_3 ?kr_z_3c_4 ?q_4c ?r_4c ?r_4c_0 ?r_4c_1 ?r_4c_2 ?r_4c_3 ?r_4c_4 ?r_4c_5 ?kr_y_4c ?kr_z_4c_0 ?kr_z_4c_1 ?kr_z_4c_2 ?kr_z_4c_3 ?kr_z_4c_4 ?kr_z_4c_5 ?enN ?enH ?enE ?enT ?enW ?enM ?elk ?eni ?kr_eno ?kr_etl ?wl ?wc ?wk ?etf ?exs ?exn ?eg1E ?eg2E ?eg3E ?eg4E ?eg5E ?eg6E ?eg7E ?eg8E ?kpE ?eng ?ekt1 ?ekt2 ?ekt3 ?ekt4 ?ec1 ?ec2 ?ec3 ?ec4 ?esp ?erd ?efc ?d99 ?knl
  any_goals first | exact ⟨_,_,_,_,_,_,_,_,_,_,by k_is,by k_is,by k_is,by k_is⟩ | skip
  (case b_ValueError=>k_is)
  (case b_all=>k_is)
  (case b_bool=>k_is)
  (case b_enumerate=>k_is)
  (case b_int=>k_is)
  (case b_isinstance=>k_is)
  (case b_len=>k_is)
  (case b_list=>k_is)
  (case b_max=>k_is)
  (case b_min=>k_is)
  (case b_range=>k_is)
  (case b_sorted=>k_is)
  (case b_str=>k_is)
  (case b_sum=>k_is)
  (case b_tuple=>k_is)
  (case b_zip=>k_is)
  (case q_0c=>k_is)
  (case q_1c=>k_is)
  (case q_2c=>k_is)
  (case q_3c=>k_is)
  (case r_3c=>k_is)
  (case r_3c_0=>k_is)
  (case r_3c_1=>k_is)
  (case r_3c_2=>k_is)
  (case r_3c_3=>k_is)
  (case r_3c_4=>k_is)
  (case kr_y_3c=>kernel_rfl)
  (case kr_z_3c_0=>kernel_rfl)
  (case kr_z_3c_1=>kernel_rfl)
  (case kr_z_3c_2=>kernel_rfl)
  (case kr_z_3c_3=>kernel_rfl)
  (case kr_z_3c_4=>kernel_rfl)
  (case q_4c=>k_is)
  (case r_4c=>k_is)
  (case r_4c_0=>k_is)
  (case r_4c_1=>k_is)
  (case r_4c_2=>k_is)
  (case r_4c_3=>k_is)
  (case r_4c_4=>k_is)
  (case r_4c_5=>k_is)
  (case kr_y_4c=>kernel_rfl)
  (case kr_z_4c_0=>kernel_rfl)
  (case kr_z_4c_1=>kernel_rfl)
  (case kr_z_4c_2=>kernel_rfl)
  (case kr_z_4c_3=>kernel_rfl)
  (case kr_z_4c_4=>kernel_rfl)
  (case kr_z_4c_5=>kernel_rfl)
  (case enN=>k_is)
  (case enH=>k_is)
  (case enE=>k_is)
  (case enT=>k_is)
  (case enW=>k_is)
  (case enM=>k_is)
  (case elk=>k_is)
  (case eni=>k_is)
  (case kr_eno=>kernel_rfl)
  (case kr_etl=>kernel_rfl)
  (case wl=>k_is)
  (case wc=>k_is)
  (case wk=>k_is)
  (case etf=>k_is)
  (case exs=>k_is)
  (case exn=>k_is)
  (case eg1E=>k_is)
  (case eg2E=>k_is)
  (case eg3E=>k_is)
  (case eg4E=>k_is)
  (case eg5E=>k_is)
  (case eg6E=>k_is)
  (case eg7E=>k_is)
  (case eg8E=>k_is)
  (case kpE=>k_is)
  (case eng=>k_is)
  (case ekt1=>kit_is)
  (case ekt2=>kit_is)
  (case ekt3=>kit_is)
  (case ekt4=>kit_is)
  (case ec1=>k_is)
  (case ec2=>k_is)
  (case ec3=>k_is)
  (case ec4=>k_is)
  (case esp=>k_is)
  (case erd=>k_is)
  (case efc=>k_is)
  (case knl=>kernel_rfl)

