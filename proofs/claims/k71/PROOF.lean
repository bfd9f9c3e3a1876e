import PyProof.Rows.All
import Wide.All
import OpenK.AllK
import Wide.FinOn
import PyProof.EqAt
import PyProof.EqKinds
import PyProof.TupleCall
import PyProof.ListMulAny
import KE.KIsAll
import Lean
import PySem.Challenge.RW_mirrorhouse_k71_places
set_option tactic.hygienic false
set_option bootstrap.genMatcherCode false
set_option compiler.extract_closed false
set_option linter.all false
set_option Elab.async false
open PySem renaming wpAny_bind→ls,wpAny_pure→u0,starEach→A7,wpAny→A_,mainGlobals→Bs,wpAny_setField_rec→C_,model→Ec,wpAny_call_entry→Ed,wpAny_field→Ee,wpAny_mono→Ef,wpAny_callSpecial?_slot→Eg,Program→Ej,sizeLine_eq→Eo,wpAny_newObj_type→Ep,behindInMarks→Ew,World→Ey,wpAny_truthy_bool→EB,sysModules→EE,wpAny_holding→EK,wpAny_attempt→EL,bootBuiltins→EM,wpAny_loadPart'→ER,wpAny_isInstance→ET,backTo→EU,compareOp→EV,swapsWith→EW,wpAny_seqItems→EZ,wpAny_typeNameOfWhole_itemiter→E5,strKind→E8,wpAny_passesOwn→G_,rawInt→HR,wpAny_specialOf→H_,DictEntry→Ia,foldedSetIterable→Ie,binaryOp→Ig,FuncData→Ih,wpAny_typeNameOf_itemiter→Io,mem_of_lookup→Ip,assignEach→Iq,wpAny_rule→Iv,tupleKind→Iw,intKind→Iy,wpAny_execs_nil→Iz,cLine→IE,firstArgMember→IG,isSubtype_type→IH,IsPair→IK,builtinLookup_eq_fast→IL,attributeBase→IR,Spec→IT,IsItemIter→IU,letOwnedTupleGo→IY,sliceBounds→I_,wpAny_of_eq→J_,valueAt→KP,wpAny_Call_Name_kw→Ld,isSubtype_stop→Lj,atKey→Lm,wpAny_pyIter_slot→Lo,Keyword→Lz,wpAny_onRaise→LC,wpAny_isOneOf_itemiter→LJ
open PySem.Heap renaming get?_push_of_some→tz,get?_push_size→AC,lt_size→A9,size_push→IF
open PySem.W renaming Frag→A6,mg_none_of→EC,nsIn→E1,kia_one→E4,kitOne→E_,mg_of→Il,findIn→II,hideAll_get→IW,hasDictIn→Lp
open PySem.PassesOwn renaming never→Ea
open Classical renaming byContradiction→Eh,propDecidable→E7
open PySem.Builtin.Range renaming rangeSize→Ek
open PySem.Builtin.SmallTypes renaming nextOf→El,ownedTupleIsFree→Et,ownedTupleHandOut→EN
open PyProof.Rows renaming slot_tuple_getitem→Em,callWith_type1→EO
open Prod.mk renaming injEq→Er
open PySem.NameKind renaming free→Es
open Int renaming toNat→Eu,toNat_natCast→Ii,mul_assoc→Ij,mul_comm→IM,mul_nonneg→Lk
open Function renaming comp→Ez
open PySem.Value renaming ref→EA,none→EH,isInt→E6,bool→Ic
open Ne renaming symm→EF
open PySem.Str renaming ofString→EG,empty→ES
open Or renaming inr→EI,inl→E9
open PySem.F renaming slot_dict_itemiterator_next→EJ,slot_enumerate_next→EX,slot_tuple_iterator_next→Ik,slot_enumerate_iter→IJ,args_tuple_add_2→Ll,slot_tuple_hash→Lq,entry_tuple_add→LA,plainAttrs_list→LB,slot_tuple_add→LH
open PySem.Builtin.Tuple renaming tupleHashOf→EY,tupleExact→Ir,tupleItemsOf→Lc
open False renaming elim→E2
open PySem.Builtin.List renaming listTooLong→E3
open Prod renaming mk→Ib,ext→IA,fst→Lg
open PySem.Builtin.Slice renaming slicePlaces→Im,sliceAdjust→Li
open True renaming intro→Iu
open ForInStep renaming yield→IB
open Nat renaming strongRecOn→ID,not_lt→IV,lt_succ_of_lt→Ln,lt_trichotomy→Ls,lt_succ_self→LG
open PySem.Builtin.Dict_items renaming ownsTuple→IS
open Array renaming length_toList→IX
open List renaming length→IZ,ext_getElem?→Lr,filter_congr→Lu,map_id→LD,length_drop→LF,find?_cons_of_neg→LK,getElem_cons_drop→LL
open PySem.Heap.SameBut renaming extBut→K_
open Sum renaming inl→Lh
open PySem.Paired renaming length→Lx
open PySem.Builtin.Str renaming occurrences→Ly
open PySem.Calls renaming callWith_builtin→LI
open List renaming getElem?_cons_zero → aq,getElem?_cons_succ → aB,length_cons → ao,getD_eq_getElem?_getD → aW,length_append → aH,length_map → az,map_cons → au,mem_cons_self → aN,length_nil → aE,mem_cons_of_mem → aX,set_cons_zero → aT,set_cons_succ → aV,replicate → aF,mem_cons → aI,range → aw,nil_append → a_,length_singleton → bX,cons_append → bz,map_nil → aP,mem_map → aR,all_eq_true → bB,append_nil → bx,mem_append → bE,getElem?_eq_some_iff → dw,getElem?_eq_getElem → dq,map_append → bN,append_assoc → b9,size_toArray → cD,mem_range → bT,getElem?_map → cP,mem_append_right → eh,getElem?_append_left → fE,getElem?_append_right → fX,map_map → bM,getElem?_set → du,mem_filter → df,map_congr_left → fx,nodup_iff_pairwise_ne → iy,mem_append_left → gq,mem_of_getElem? → gN,length_range → fW,getElem?_set_ne → hU,getElem?_eq_none → ir,mem_singleton → hJ,lookup_cons → gM,getElem?_replicate → nI,length_reverse → lA,nodup_cons → hG,reverse_reverse → mG,getElem?_set_self → nH,mem_filterMap → ly,singleton_append → nG,reverse_cons → lx,length_eq_zero_iff → oP,flatMap_cons → lu,range_succ_eq_map → oO,replicate_succ → nF,take_append_drop → oN,map → dC,mem_iff_getElem → oM,zipWith → g_,drop_of_length_le → rQ,lookup → gK,pairwise_map → nE,drop_eq_getElem_cons → AL,length_filter_le → rP,eq_nil_of_length_eq_zero → g3e,any_eq_true → nD,getElem_mem → nC,mem_flatMap → nB,mem_of_mem_drop → rO,flatten_cons → oK,nodup_append → oJ,length_pos_iff → rN,take_of_length_le → AK,length_take → oI,getElem?_eq_none_iff → g3p,drop_eq_nil_of_le → g3r,zipWith_cons_cons → g3s,pairwise_cons → AI,dropLast_concat_getLast → g3v,length_set → rL,foldl_cons → rK,any_cons → oF,pairwise_iff_getElem → g4a,getD_cons_succ → g4d,reverse_append → g4e,getElem?_range → g4f,filter_eq_self → g4g,getElem?_take_of_lt → g4i,find?_cons → AG,forIn_cons → AF
open Option renaming bind_some → ai,map_some → b8,bind_eq_some_iff → fy,map_eq_some_iff → iu,getD_some → mF,some → g3d
open Nat renaming le_refl → aM,lt_of_lt_of_le → eK,ne_of_lt → cR,zero_le → dm,le_trans → fV,zero_add → fU,min_eq_left → oH,lt_of_le_of_lt → AJ,lt_irrefl → oG,min_eq_right → AH,le_succ → nA,le_of_lt → oE
open Bool renaming false_eq_true → cS,and_eq_true → cO,false_ne_true → gp,not_true → mD,or_eq_true → AE
set_option autoImplicit true
set_option relaxedAutoImplicit true
set_option maxRecDepth 100000
namespace L2
open PySem PySem.Spec PyProof.Rows
abbrev Key:=Sum Int Str
def JL:Key->Value->Bool
 | .inl k,v=>E6 k v
 | .inr x,v=>Value.isStrOf x v
def zdv (w:Ey):Key->Int
 | .inl k=>hashInt k
 | .inr x=>hashStr w x
def yW:∀ {k:Key} {v:Value},JL k v=true->(∃ i t,k=Lh i/\v=Value.int i t)\/(∃ x t,k=Sum.inr x/\v=Value.str x t)
 | .inl i,v,h=>by
  obtain ⟨t,e⟩:=Value.isInt_shape (k:=i) (v:=v) h
  exact .inl ⟨i,t,rfl,e⟩
 | .inr x,v,h=>by
  obtain ⟨t,e⟩:=Value.isStrOf_shape (x:=x) (v:=v) h
  exact .inr ⟨x,t,rfl,e⟩
def GO (i) (t:Tok):JL (.inl i) (.int i t)=true:=by simp [JL,E6]
def GN (x) (t:Tok):JL (.inr x) (.str x t)=true:=by simp [JL,Value.isStrOf]
def SR (a b):decide ((Lh a:Key)=Lh b)=(a==b):=by
 by_cases e:a=b
 .subst e; simp
 .have h:¬ (Lh a:Key)=Lh b:=λq=>e (Lh.inj q)
  rw [decide_eq_false h]
  exact (beq_eq_false_iff_ne.mpr e).symm
def SN (a b):decide ((Sum.inr a:Key)=Sum.inr b)=decide (a=b):=by
 by_cases e:a=b
 .subst e; simp
 .have h:¬ (Sum.inr a:Key)=Sum.inr b:=λq=>e (Sum.inr.inj q)
  rw [decide_eq_false h,decide_eq_false e]
def SQ (a) (b:Str):decide ((Lh a:Key)=Sum.inr b)=false:=decide_eq_false (λq=>nomatch q)
def SO (a) (b:Int):decide ((Sum.inr a:Key)=Lh b)=false:=decide_eq_false (λq=>nomatch q)
def x9 (prog:Ej) (w:Ey):PySem.KeyKind prog w Key where
 is:=JL
 hash:=zdv w
 inj:=λv a b g d=>by
  rcases yW g with ⟨i,t,rfl,rfl⟩ | ⟨x,t,rfl,rfl⟩
  .rcases yW d with ⟨j,u,rfl,e⟩ | ⟨y,u,rfl,e⟩
   .injection e with e1 _; rw [e1]
   .exact nomatch e
  .rcases yW d with ⟨j,u,rfl,e⟩ | ⟨y,u,rfl,e⟩
   .exact nomatch e
   .injection e with e1 _; rw [e1]
 byValue:=λk v h=>by
  rcases yW h with ⟨i,t,rfl,rfl⟩ | ⟨x,t,rfl,rfl⟩ <;> rfl
 pyHash:=λc h=>by
  rcases yW c with ⟨i,t,rfl,rfl⟩ | ⟨x,t,rfl,rfl⟩
  .exact wpAny_pyHash_int h
  .exact wpAny_pyHash_str h
 eqBool:=λf c h=>by
  rcases yW f with ⟨i,t,rfl,rfl⟩ | ⟨x,t,rfl,rfl⟩
  .rcases yW c with ⟨j,u,rfl,rfl⟩ | ⟨y,u,rfl,rfl⟩
   .rw [SR] at h; exact wpAny_eqBool_int h
   .rw [SQ] at h; exact SeqAt.EqAt.int_str i t y u _ _ _ _ h
  .rcases yW c with ⟨j,u,rfl,rfl⟩ | ⟨y,u,rfl,rfl⟩
   .rw [SO] at h; exact SeqAt.EqAt.str_int x t j u _ _ _ _ h
   .rw [SN] at h; exact wpAny_eqBool_str h
 «strs» := λk x t v h=>by
  rcases yW h with ⟨i,u,rfl,e⟩ | ⟨y,u,rfl,e⟩
  .exact nomatch e
  .injection e with e1 _
   subst e1
   cases v <;> rfl
def Ug (prog) (w:Ey) (i:Int) (t:Tok):(x9 prog w).is (.inl i) (.int i t)=true:=GO i t
def Ue (prog) (w:Ey) (x:Str) (t:Tok):(x9 prog w).is (.inr x) (.str x t)=true:=GN x t
inductive V where
 | non | bl (b:Bool) | int (i:Int) | str (x:Str) | byt (b:Array UInt8) | flt (b:UInt64) | ref (a:Addr) | ty (n:String)
 deriving DecidableEq
def yO:V->Value->Prop
 | .non,u=>u=EH
 | .bl b,u=>u=Ic b
 | .int i,u=>∃ t,u=Value.int i t
 | .str x,u=>∃ t,u=Value.str x t
 | .byt b,u=>∃ t,u=Value.bytes b t
 | .flt b,u=>∃ t,u=Value.float b t
 | .ref a,u=>u=EA a
 | .ty n,u=>u=Value.type n
abbrev yS:List V->List Value->Prop:=Paired yO
def yS.length (r:yS xs us):xs.length=us.length:=Lx r
theorem yS.get:∀ {xs:List V} {us:List Value} {i:Nat} {x:V},yS xs us->xs[i]? = some x->∃ u,us[i]? = some u/\yO x u
 | _,_,_,_,.nil,e=>by simp at e
 | _,_,0,_,.cons r _,e=>by simp at e; subst e; exact ⟨_,rfl,r⟩
 | _,_,i+1,x,.cons _ t,e=>by
  obtain ⟨u,h1,h2⟩:=yS.get (i:=i) (x:=x) t (by simpa using e)
  exact ⟨u,by simpa using h1,h2⟩
theorem yS.set (r:yO x u):∀ {xs:List V} {us:List Value} (i:Nat),yS xs us->yS (xs.set i x) (us.set i u)
 | _,_,_,.nil=>.nil
 | _,_,0,.cons _ t=>.cons r t
 | _,_,i+1,.cons q t=>.cons q (yS.set r i t)
theorem yS.append:∀ {xs ys:List V} {us ws:List Value},yS xs us->yS ys ws->yS (xs++ys) (us++ws)
 | _,_,_,_,.nil,s=>s
 | _,_,_,_,.cons r t,s=>.cons r (yS.append t s)
theorem yS.take:∀ {xs:List V} {us:List Value} (n:Nat),yS xs us->yS (xs.take n) (us.take n)
 | _,_,0,_=>.nil
 | _,_,_+1,.nil=>.nil
 | _,_,n+1,.cons r t=>.cons r (yS.take n t)
theorem yS.drop:∀ {xs:List V} {us:List Value} (n:Nat),yS xs us->yS (xs.drop n) (us.drop n)
 | _,_,0,r=>r
 | _,_,_+1,.nil=>.nil
 | _,_,n+1,.cons _ t=>yS.drop n t
def TU:Option V->Option Value->Prop
 | some v,some u=>yO v u
 | none,none=>True
 | _,_=>False
def KV {κ:Type}:List (κ×V)->List (κ×Value)->Prop:=Paired λ(p:κ×V) (q:κ×Value)=>p.1=q.1/\yO p.2 q.2
def kV:Key->V
 | .inl i=>.int i
 | .inr x=>.str x
inductive HO where
  | lst (xs:List V)
  | tup (xs:List V)
  | dK (ag:List (Key×V)) | dT (ag:List (List Key×V))
  | set (S:Int->Bool) (n:Nat)
  | ins (C dx:Addr) (fs:List (Str×V))
  | own (x:Addr)
  | xd (fs:List (Str×V))
  | met (f x:Addr)
  | rng (lo hi:Int)
  | frz (o:Obj) (u:HO)
  | tbl (ps:Array Value)
  | ext (φ:Heap->Prop)
abbrev Hp:=Addr->Option HO
def upd (H:Hp) (a:Addr) (o:HO):Hp:=λb=>if b=a then some o else H b
def zq    : upd H a o a=some o:=by unfold upd; rw [if_pos rfl]
def zw (h:b≠a):upd H a o b=H b:=by unfold upd; rw [if_neg h]
def Sw {H:Hp} (h:H a=some o) (h':H b=some u) (d:o≠u):a≠b:=by
 intro e; subst e; rw [h] at h'; exact d (g3d.inj h')
def zU {H:Hp} (h:H a=some o) (h':H b=none):a≠b:=by
 intro e; subst e; rw [h] at h'; cases h'
section
variable (P:Ej) (w:Ey)
def xH (H:Hp) (h:Heap) (a:Addr):HO->Prop
 | .lst xs=>xs.length<=sizeLine/\∃ (af:List Value) (n:Nat),yS xs af/\h.get? a=some { cls:=.type "list",data:=.seq af.toArray n }
 | .tup xs=>xs.length<=sizeLine/\∃ af:List Value,yS xs af/\IsTup h a af.toArray
 | .dK ag=>ag.length<=sizeLine/\(a==EE)=false/\∃ vs,KV ag vs/\h.DictOf (x9 P w) a vs
 | .dT ag=>ag.length<=sizeLine/\(a==EE)=false/\∃ xs:List (List Key×Addr×Value),
   Paired (λ(p:List Key×V) (q:List Key×Addr×Value)=>p.1=q.1/\H q.2.1=some (.tup (p.1.map kV))/\yO p.2 q.2.2) ag xs ∧
   ∃ o es ep,h.get? a=some o/\o.ExactDict/\o.data=.dict es ep/\es.toList=xs.map (entryOfKey (Iw (x9 P w)))/\(xs.map (·.1)).Nodup
 | .set S n=>h.SetOf (Iy P w) a S n
 | .ins C dx fs=>H dx=some (.own a)/\fs.length<=1000/\dx≠a/\h.get? a=some (PySem.W.instObj C dx) ∧
   ∃ mA,h.Ns1 dx mA/\(∀ f,TU (fs.lookup f) (mA f))/\PySem.Within mA (fs.map (·.1))
 | .own _=>∃ o,h.get? a=some o
 | .xd fs=>∃ mA,h.Ns1 a mA/\∀ f,TU (fs.lookup f) (mA f)
 | .rng lo hi=>∃ t u v,h.get? a=some { cls:=.type "range",data:=.fields #[.int lo t,.int hi u,.int 1 v] }
 | .frz o u=>h.get? a=some o/\xH H h a u
 | .tbl ps=>h.get? a=some { cls:=.none,data:=.fields ps }
 | .met f x=>h.get? a=some (PySem.W.methodObj (.ref f) (.ref x))
 | .ext φ=>φ h/\(∃ o,h.get? a=some o)/\∀ h1 h2:Heap,φ h1->(∀ o,h1.get? a=some o->h2.get? a=some o)->φ h2
def cz (H:Hp) (h:Heap):Prop:=∀ a o,H a=some o->xH P w H h a o
end
section
variable {P:Ej} {w:Ey} {H H':Hp} {h h':Heap} {a:Addr} {o:HO}
def xH.lt (x:xH P w H h a o):a < h.objs.size:=by
 cases o with
 | lst xs=>obtain ⟨_,_,_,_,e⟩:=x; exact A9 e
 | tup xs=>obtain ⟨_,_,_,p⟩:=x; exact p.lt
 | dK ag=>obtain ⟨_,_,_,_,o,_,_,e,_⟩:=x; exact A9 e
 | dT ag=>obtain ⟨_,_,_,_,o,_,_,e,_⟩:=x; exact A9 e
 | set S n=>obtain ⟨o,_,_,_,e,_⟩:=x; exact A9 e
 | ins C dx fs=>obtain ⟨_,_,_,e,_⟩:=x; exact A9 e
 | own y=>obtain ⟨_,e⟩:=x; exact A9 e
 | xd fs=>obtain ⟨_,⟨_,_,_,e,_⟩,_⟩:=x; exact A9 e
 | rng lo hi=>obtain ⟨_,_,_,e⟩:=x; exact A9 e
 | frz ob u=>obtain ⟨e,_⟩:=x; exact A9 e
 | tbl ps=>exact A9 (show h.get? a=some _ from x)
 | met f y=>exact A9 (show h.get? a=some _ from x)
 | ext φ=>obtain ⟨_,⟨_,e⟩,_⟩:=x; exact A9 e
theorem F_  {F G:α->β->Prop}:∀ {l₁:List α} {l₂:List β},Paired F l₁ l₂->(∀ a b,F a b->G a b)->Paired G l₁ l₂
 | _,_,.nil,_=>.nil
 | _,_,.cons r t,f=>.cons (f _ _ r) (F_ t f)
def xH.stay (x:xH P w H h a o) (k:∀ b u,(b=a\/H b=some (.own a))->h.get? b=some u->h'.get? b=some u)
  (j:∀ b,H b=some (.own a)->H' b=some (.own a)) (ht:∀ b xs,H b=some (.tup xs)->H' b=some (.tup xs)):xH P w H' h' a o:=by
 induction o with
 | lst xs=>obtain ⟨z,af,n,r,e⟩:=x; exact ⟨z,af,n,r,k _ _ (.inl rfl) e⟩
 | tup xs=>obtain ⟨z,af,r,ob,e,c⟩:=x; exact ⟨z,af,r,ob,k _ _ (.inl rfl) e,c⟩
 | dK ag=>obtain ⟨z,y,vs,r,ob,es,ep,e,c⟩:=x; exact ⟨z,y,vs,r,ob,es,ep,k _ _ (.inl rfl) e,c⟩
 | dT ag =>
  obtain ⟨z,y,xs,r,ob,es,ep,e,c⟩:=x
  exact ⟨z,y,xs,F_ r λp q z=>⟨z.1,ht _ _ z.2.1,z.2.2⟩,ob,es,ep,k _ _ (.inl rfl) e,c⟩
 | set S n=>obtain ⟨ob,es,ep,t,e,c⟩:=x; exact ⟨ob,es,ep,t,k _ _ (.inl rfl) e,c⟩
 | ins C dx fs =>
  obtain ⟨d,z,g,e,mA,⟨od,es,ep,e2,c⟩,r⟩:=x
  exact ⟨j _ d,z,g,k _ _ (.inl rfl) e,mA,⟨od,es,ep,k _ _ (.inr d) e2,c⟩,r⟩
 | own y=>obtain ⟨ob,e⟩:=x; exact ⟨ob,k _ _ (.inl rfl) e⟩
 | xd fs=>obtain ⟨mA,⟨od,es,ep,e,c⟩,r⟩:=x; exact ⟨mA,⟨od,es,ep,k _ _ (.inl rfl) e,c⟩,r⟩
 | rng lo hi=>obtain ⟨t,u,v,e⟩:=x; exact ⟨t,u,v,k _ _ (.inl rfl) e⟩
 | frz ob u i=>obtain ⟨e,q⟩:=x; exact ⟨k _ _ (.inl rfl) e,i q⟩
 | tbl ps =>
  have e:h.get? a=some { cls:=.none,data:=.fields ps }:=x
  show h'.get? a=some { cls:=.none,data:=.fields ps }
  exact k a _ (.inl rfl) e
 | met f y =>
  have e:h.get? a=some (PySem.W.methodObj (.ref f) (.ref y)):=x
  show h'.get? a=some (PySem.W.methodObj (.ref f) (.ref y))
  exact k a _ (.inl rfl) e
 | ext φ=>obtain ⟨p,⟨o,e⟩,st⟩:=x; exact ⟨st _ _ p λo q=>k _ _ (.inl rfl) q,⟨o,k _ _ (.inl rfl) e⟩,st⟩
def cz.lt (x:cz P w H h) (e:H a=some o):a < h.objs.size:=(x a o e).lt
def cz.fresh (x:cz P w H h) (e:h.objs.size<=a):H a=none:=by
 cases q:H a with
 | none=>rfl
 | some u=>exact absurd (eK (x.lt q) e) (oG _)
def cz.kept (x:cz P w H h) (k:∀ b u,h.get? b=some u->h'.get? b=some u):cz P w H h':=λa o e =>
 (x a o e).stay (λb u _ q=>k b u q) (λ_ q=>q) λ_ _ q=>q
def cz.laid (x:cz P w H h) (k:∀ b u,h.get? b=some u->h'.get? b=some u) (g:h.objs.size<=a) (new:xH P w (upd H a o) h' a o):cz P w (upd H a o) h':=λb u e=>by
 have d:=x.fresh g
 by_cases f:b=a
 .subst f; rw [zq] at e; cases e; exact new
 .rw [zw f] at e
  exact (x b u e).stay (λc v _ q=>k c v q) (λc q=>by rw [zw (zU q d)]; exact q) λc xs q=>by rw [zw (zU q d)]; exact q
end
def Rd (H:Hp) (a:Addr) (u:HO):Prop:=H a=some u\/∃ o,H a=some (.frz o u)
def Rd.ok (r:Rd H a u) (x:cz P w H h):xH P w H h a u:=by
 rcases r with r | ⟨o,r⟩
 .exact x a u r
 .obtain ⟨_,q⟩:=x a _ r
  exact q
def A5:Option HO->Prop
 | some (.lst _)=>True
 | some (.dK _)=>True
 | some (.dT _)=>True
 | some (.set _ _)=>True
 | some (.ins _ _ _)=>True
 | some (.ext _)=>True
 | _=>False
section
variable {P:Ej} {w:Ey} {H:Hp} {h h':Heap} {x e:Addr} {o':HO}
def cz.write (ok:cz P w H h) (f:A5 (H x)) (l:e=x\/H e=some (.own x)) (k:∀ b u,b≠e->h.get? b=some u->h'.get? b=some u) (n:∃ u,h'.get? e=some u)
  (new:xH P w (upd H x o') h' x o'):cz P w (upd H x o') h':=λb u q=>by
 have m:∀ c y,H c=some (.own y)->c≠x:=λc y r z=>by subst z; rw [r] at f; exact f
 have a:∀ c xs,H c=some (.tup xs)->c≠x:=λc xs r z=>by subst z; rw [r] at f; exact f
 by_cases i:b=x
 .subst i; rw [zq] at q; cases q; exact new
 .rw [zw i] at q
  by_cases d:b=e
  .have j:H b=some (.own x):=by
    rcases l with z | z
    .exact absurd (d.trans z) i
    .rw [d]; exact z
   rw [q] at j; cases j
   obtain ⟨v,o⟩:=n
   exact ⟨v,by rw [d]; exact o⟩
  .refine (ok b u q).stay (λc v g r=>k c v ?_ r) (λc r=>by rw [zw (m c b r)]; exact r) λc xs r=>by rw [zw (a c xs r)]; exact r
   rcases g with rfl | g
   .exact d
   .rintro rfl
    rcases l with z | z
    .exact m c b g z
    .rw [g] at z; cases z; exact i rfl
end
structure Un (fs ex:List Addr) (H H':Hp) (h h':Heap):Prop where
 keep:∀ b o,h.get? b=some o->H b=none->b∉fs->b∉ex->h'.get? b=some o
 slot:∀ b o,h.get? b=some o->H b=none->b∈fs->b∉ex->∃ sl,h'.get? b=some { o with slots:=sl }
 free:∀ b o,h.get? b=some o->H b=none->b∉ex->H' b=none
 there:∀ b o,h.get? b=some o->b∉ex->∃ o',h'.get? b=some o'
 tups:∀ b xs,H b=some (.tup xs)->H' b=some (.tup xs)
 frzs:∀ b o u,H b=some (.frz o u)->H' b=some (.frz o u)
 tbls:∀ b ps,H b=some (.tbl ps)->∃ more,H' b=some (.tbl (ps++more))
section
variable {fs fs' ex ex':List Addr} {H H1 H2:Hp} {h h1 h2 h':Heap} {a x e:Addr} {o:HO}
def Un.any (u:Un fs ex H H1 h h1) (q:h.get? b=some ob) (n:H b=none) (c:b∉ex):∃ sl,h1.get? b=some { ob with slots:=sl }:=by
 by_cases d:b∈fs
 .exact u.slot b ob q n d c
 .exact ⟨ob.slots,u.keep b ob q n d c⟩
def Un.kept (k:∀ b u,h.get? b=some u->h'.get? b=some u):Un fs ex H H h h' :=
 ⟨λb ob q _ _ _=>k b ob q,λb ob q _ _ _=>⟨ob.slots,k b ob q⟩,λ_ _ _ n _=>n,λb ob q _=>⟨ob,k b ob q⟩,λ_ _ q=>q,λ_ _ _ q=>q,λ_ ps q=>⟨#[],by rw [q]; simp⟩⟩
def Un.refl:Un fs ex H H h h:=Un.kept λ_ _ q=>q
def Un.laid (k:∀ b u,h.get? b=some u->h'.get? b=some u) (d:h.objs.size<=a) (c:H a=none):Un fs ex H (upd H a o) h h' where
 keep:=λb u q _ _ _=>k b u q
 slot:=λb u q _ _ _=>⟨u.slots,k b u q⟩
 free:=λb u q n _=>by rw [zw (cR (eK (A9 q) d))]; exact n
 there:=λb u q _=>⟨u,k b u q⟩
 tups:=λb xs q=>by rw [zw (zU q c)]; exact q
 frzs:=λb u xs q=>by rw [zw (zU q c)]; exact q
 tbls:=λb ps q=>⟨#[],by rw [zw (zU q c),q]; simp⟩
def Un.write (c:A5 (H x)) (l:e=x\/H e=some (.own x)) (k:∀ b u,b≠e->h.get? b=some u->h'.get? b=some u) (j:∃ u,h'.get? e=some u):Un fs ex H (upd H x o) h h':=by
 have g:∀ b,H b=none->b≠x:=λb n z=>by subst z; rw [n] at c; exact c
 have i:∀ b,H b=none->b≠e:=λb n z=>by
  subst z
  rcases l with r | r
  .exact g b n r
  .rw [n] at r; cases r
 have d:∀ b u,H b=some u->¬ A5 (some u)->b≠x:=λb u q nm z=>by subst z; rw [q] at c; exact nm c
 refine ⟨λb u q n _ _=>k b u (i b n) q,λb u q n _ _=>⟨u.slots,k b u (i b n) q⟩,λb u q n _=>by rw [zw (g b n)]; exact n,λb u q _=>?_,
  λb xs q=>by rw [zw (d b _ q λz=>z)]; exact q,λb u xs q=>by rw [zw (d b _ q λz=>z)]; exact q,λb ps q=>⟨#[],by rw [zw (d b _ q λz=>z),q]; simp⟩⟩
 by_cases f:b=e
 .subst f; exact j
 .exact ⟨u,k b u f q⟩
end
def trk (h:Heap) (H:Hp):List Addr:=(aw h.objs.size).filter λa=>(H a).isSome
def Do (h:Heap) (H:Hp):Heap:=PySem.W.hideAll h (trk h H)
def G5 (h) (H:Hp):(Do h H).objs.size=h.objs.size:=PySem.W.hideAll_size _ _
def Dm (e:h.get? b=some o) (n:H b=none):(Do h H).get? b=some o :=
 IW _ e λa=>by
  have q:(H b).isSome=true:=(df.mp a).2
  rw [n] at q; simp at q
def Nt (e:(Do h H).get? b=some o):h.get? b=some o/\H b=none:=by
 have a:h.get? b=some o:=PySem.W.of_hideAll (trk h H) e
 refine ⟨a,?_⟩
 cases q:H b with
 | none=>rfl
 | some x =>
  have c:b∈trk h H:=df.mpr ⟨bT.mpr (A9 a),by simp [q]⟩
  have z:(Do h H).get? b=none:=PySem.W.hideAll_none (trk h H) c
  rw [z] at e; cases e
def PN (g h:Heap) (L:Addr):List (Addr×Obj):=(aw h.objs.size).filterMap λa=>if a=L\/(g.get? a).isSome=true then none else (h.get? a).map λo=>(a,o)
def vT (g h:Heap) (L d:Addr):List (Addr×Obj):=(PN g h L).filter λp=>decide (p.1≠d)
structure Mod (K:A6) (mg:Str->Option Value) (base:Heap):Prop where
 kin:K.In base
 glob:base.Ns Bs mg
 blt:∃ mb,base.Ns builtinsNs mb/\∀ x:Str,x≠"__name__"->mb x=EM x
 nolimit:base.NoLimit
structure Cx where
 prog:Ej
 w:Ey
 K:A6
 mg:Str->Option Value
 base:Heap
 A:Around
 N:List Str
 s₀:Shared
 H₀:Hp
 env:Env
 outer:List Env
 stack:List Env
 ex:List Addr
 fn:Str->Bool
 calm:Bool
 pn:List (Addr×Obj)
 xe:Value->Shared->Prop
def dz (l:List Env):List Addr:=l.filterMap (·.frame)
abbrev Cx.fs (X:Cx):List Addr:=dz X.outer
def iz (sc:Scope) (x:Str):Prop:=sc.names.lookup x=some .local\/sc.names.lookup x=some .cell\/sc.names.lookup x=some .free
def Loc (sc:Scope) (x:Str):Prop:=sc.names.lookup x=some .local\/sc.names.lookup x=some .cell
def zeb (env:Env) (h:Heap) (m:Str->Option Value) (x:Str) (u:Value):Prop :=
 (env.kindOf x=some .local/\m x=some u)\/((env.kindOf x=some .cell\/env.kindOf x=some .free)/\∃ c,env.cells.lookup x=some c/\h.IsCell c (some u))
structure Cx.Ok (X:Cx):Prop where
 mod:Mod X.K X.mg X.base
 kind:X.env.scope.kind=.function
 glob:X.env.globals=Bs
 blt:X.env.builtins=builtinsNs
 above:X.s₀.heap.objs.size<=X.env.locals
 inj:∀ x y c,X.env.cells.lookup x=some c->X.env.cells.lookup y=some c->x=y
 has:∀ x,(X.env.kindOf x=some .cell\/X.env.kindOf x=some .free)->∃ c,X.env.cells.lookup x=some c
 cab:∀ x c,X.fn x=true->X.env.cells.lookup x=some c->X.s₀.heap.objs.size<=c
 hd:X.calm=true->X.A.handled=none
 frames:X.A.frames=some X.stack
 stk:X.stack=X.outer\/(X.stack=X.env :: X.outer/\X.env.frame=some X.env.locals)
 exf:∀ b∈X.ex,b≠X.env.locals/\∀ x c,X.env.cells.lookup x=some c->c≠b
 bs:∀ b o,X.base.get? b=some o->X.s₀.heap.get? b=some o/\X.H₀ b=none
 bsz:X.base.objs.size<=X.s₀.heap.objs.size
 noex:∀ b o,X.base.get? b=some o->b∉X.ex
 exfs:∀ b∈X.ex,b∉X.fs
 funs:X.s₀.heap.FunFrames X.base X.outer
 frf:∀ b∈X.fs,X.H₀ b=none
structure Inv (X:Cx) (pins:List (Addr×Obj)) (σ:List (Option V)) (H:Hp) (s:Shared):Prop where
 ok:X.Ok
 os:s.os=X.s₀.os
 bare:AllBare s.gens
 base:Un X.fs X.ex X.H₀ H X.s₀.heap s.heap
 loc:∃ m,s.heap.Ns X.env.locals m/\∀ (i:Nat) (x:Str) (v:V),X.N[i]? = some x->σ[i]? = some (some v)->iz X.env.scope x->∃ u,yO v u/\zeb X.env s.heap m x u
 cell:∀ x c,X.env.cells.lookup x=some c->∃ v,s.heap.IsCell c v
 free:H X.env.locals=none
 freeC:∀ x c,X.env.cells.lookup x=some c->H c=none
 pin:∀ p∈X.pn++pins,s.heap.get? p.1=some p.2/\H p.1=none/\p.1≠X.env.locals/\p.1∉X.fs/\∀ v,p.2.data≠.cell v
 hok:cz X.prog X.w H s.heap
 len:σ.length=X.N.length
section
variable {X:Cx} {pins:List (Addr×Obj)} {σ:List (Option V)} {H H':Hp} {s:Shared} {h':Heap}
def Cx.Ok.nofr (ok:X.Ok) (e:X.base.get? b=some o):b∉X.fs:=λa=>by
 have:=(ok.funs.mem a).1
 rw [e] at this; cases this
def Inv.bs (I:Inv X pins σ H s):∀ b o,X.base.get? b=some o->s.heap.get? b=some o/\H b=none:=λb o e =>
 ⟨I.base.keep b o (I.ok.bs b o e).1 (I.ok.bs b o e).2 (I.ok.nofr e) (I.ok.noex b o e),I.base.free b o (I.ok.bs b o e).1 (I.ok.bs b o e).2 (I.ok.noex b o e)⟩
def Inv.bk (I:Inv X pins σ H s):∀ b o,X.base.get? b=some o->s.heap.get? b=some o:=λb o e=>(I.bs b o e).1
def Inv.mod (I:Inv X pins σ H s):Mod X.K X.mg X.base:=I.ok.mod
def Inv.kIn (I:Inv X pins σ H s):X.K.In s.heap:=I.ok.mod.kin.keeps I.bk
def Inv.lt (I:Inv X pins σ H s):X.env.locals < s.heap.objs.size:=let ⟨_,a,_⟩:=I.loc; a.lt
def Inv.sz (I:Inv X pins σ H s):X.s₀.heap.objs.size<=s.heap.objs.size:=fV I.ok.above (oE I.lt)
def Inv.nofs (I:Inv X pins σ H s) {a:Addr} (h:s.heap.objs.size<=a):a∉X.fs:=λc=>by
 obtain ⟨_,o,b,_⟩:=I.ok.funs.mem c
 exact absurd (eK (A9 b) (fV I.sz h)) (oG _)
def Inv.cne (I:Inv X pins σ H s):∀ x c,X.env.cells.lookup x=some c->c≠X.env.locals:=λx c e z=>by
 obtain ⟨v,o,a,hd⟩:=I.cell x c e
 obtain ⟨m,⟨o',es,ep,d,b,_⟩,_⟩:=I.loc
 rw [z,d] at a; cases a; rw [b] at hd; cases hd
def Inv.funs (I:Inv X pins σ H s):s.heap.FunFrames X.base X.outer:=by
 have all:∀ (l:List Env),(∀ b∈dz l,b∈X.fs)->X.s₀.heap.FunFrames X.base l->s.heap.FunFrames X.base l:=by
  intro l
  induction l with
  | nil=>intro _ _; trivial
  | cons env r g =>
   intro f k
   obtain ⟨m,⟨L,o,a,j,i,hd⟩,h⟩:=k
   have d:L∈X.fs:=f L (by unfold dz; rw [List.filterMap_cons,a]; exact aN)
   obtain ⟨sl,e⟩:=I.base.slot L o i (I.ok.frf L d) d λz=>I.ok.exfs L z d
   exact ⟨m,⟨L,_,a,j,e,hd⟩,g (λb c=>f b (by unfold dz; rw [List.filterMap_cons,a]; exact aX _ c)) h⟩
 exact all X.outer (λ_ c=>c) I.ok.funs
def Inv.stack (I:Inv X pins σ H s):s.heap.FunFrames X.base X.stack:=by
 rcases I.ok.stk with e | ⟨e,b⟩
 .rw [e]; exact I.funs
 .rw [e]
  obtain ⟨m,a,_⟩:=I.loc
  refine .cons (by rw [I.ok.kind]; decide) b a ?_ I.funs
  exact Heap.get?_none_of_le (fV I.ok.bsz I.ok.above)
def Inv.stkSub (I:Inv X pins σ H s):∀ b∈dz X.stack,b∈X.env.locals :: X.fs:=λb a=>by
 rcases I.ok.stk with e | ⟨e,c⟩
 .rw [e] at a; exact aX _ a
 .rw [e] at a
  unfold dz at a
  rw [List.filterMap_cons,c] at a
  exact a
def Inv.stkFree (I:Inv X pins σ H s):∀ b∈dz X.stack,H b=none:=λb a=>by
 rcases aI.mp (I.stkSub b a) with e | a
 .rw [e]; exact I.free
 .obtain ⟨_,o,c,_⟩:=I.ok.funs.mem a
  exact I.base.free b o c (I.ok.frf b a) λz=>I.ok.exfs b z a
def Inv.step    {ch:List Addr} (I:Inv X pins σ H s)
  (f:∀ b∈ch,(b∈X.ex\/X.s₀.heap.objs.size<=b)/\b≠X.env.locals/\(∀ x c,X.env.cells.lookup x=some c->c≠b)/\∀ p∈X.pn++pins,p.1≠b)
  (keep:∀ b o,b≠X.env.locals->b∉X.fs->b∉ch->s.heap.get? b=some o->H b=none->h'.get? b=some o)
  (slot:∀ b o,b≠X.env.locals->b∈X.fs->b∉ch->s.heap.get? b=some o->H b=none->∃ sl,h'.get? b=some { o with slots:=sl }) (free:∀ b o,b∉ch->s.heap.get? b=some o->H b=none->H' b=none)
  (there:∀ b o,b∉ch->s.heap.get? b=some o->∃ o',h'.get? b=some o')
  (tups:∀ b xs,H b=some (.tup xs)->H' b=some (.tup xs)) (frzs:∀ b o u,H b=some (.frz o u)->H' b=some (.frz o u)) (tbls:∀ b ps,H b=some (.tbl ps)->∃ more,H' b=some (.tbl (ps++more)))
  (ns:∀ m,s.heap.Ns X.env.locals m->h'.Ns X.env.locals m) (hok:cz X.prog X.w H' h') (hg:AllBare g') :
  Inv X pins σ H' { s with heap:=h',gens:=g',drawn:=d',toks:=t' }:=by
 have A:∀ b o,X.s₀.heap.get? b=some o->b≠X.env.locals:=λb o e=>cR (eK (A9 e) I.ok.above)
 have h:∀ b o,X.s₀.heap.get? b=some o->b∉X.ex->b∉ch:=λb o e a j=>by
  rcases (f b j).1 with z | z
  .exact a z
  .exact absurd (eK (A9 e) z) (oG _)
 have g:∀ x c,X.env.cells.lookup x=some c->∀ v,s.heap.IsCell c v->h'.IsCell c v:=λx c e v ⟨o,w,hd⟩=>by
  have y:c∉ch:=λz=>(f c z).2.2.1 x c e rfl
  by_cases E:c∈X.fs
  .obtain ⟨sl,q⟩:=slot c o (I.cne x c e) E y w (I.freeC x c e)
   exact ⟨_,q,hd⟩
  .exact ⟨o,keep c o (I.cne x c e) E y w (I.freeC x c e),hd⟩
 refine ⟨I.ok,I.os,hg,⟨λb o e n j a=>?_,λb o e n j a=>?_,λb o e n a=>?_,λb o e a=>?_,λb xs e=>tups b xs (I.base.tups b xs e),λb o xs e=>frzs b o xs (I.base.frzs b o xs e),λb ps e=>?_⟩,?_,λx c e=>?_,?_,λx c e=>?_,λp C=>?_,hok,I.len⟩
 .exact keep b o (A b o e) j (h b o e a) (I.base.keep b o e n j a) (I.base.free b o e n a)
 .obtain ⟨sl,e1⟩:=I.base.slot b o e n j a
  obtain ⟨cG,e2⟩:=slot b _ (A b o e) j (h b o e a) e1 (I.base.free b o e n a)
  exact ⟨cG,e2⟩
 .obtain ⟨o',e1⟩:=I.base.there b o e a
  exact free b o' (h b o e a) e1 (I.base.free b o e n a)
 .obtain ⟨o',e1⟩:=I.base.there b o e a
  exact there b o' (h b o e a) e1
 .obtain ⟨G,e1⟩:=I.base.tbls b ps e
  obtain ⟨F,e2⟩:=tbls b _ e1
  exact ⟨G++F,by rw [e2,Array.append_assoc]⟩
 .obtain ⟨m,J,L⟩:=I.loc
  refine ⟨m,ns m J,λi x v e1 e2 M=>?_⟩
  obtain ⟨u,r,l⟩:=L i x v e1 e2 M
  refine ⟨u,r,?_⟩
  rcases l with l | ⟨k,c,e,z⟩
  .exact .inl l
  .exact .inr ⟨k,c,e,g x c e _ z⟩
 .obtain ⟨v,z⟩:=I.cell x c e
  exact ⟨v,g x c e v z⟩
 .obtain ⟨m,⟨o,_,_,w,_⟩,_⟩:=I.loc
  exact free _ o (λz=>(f _ z).2.1 rfl) w I.free
 .obtain ⟨v,o,w,hd⟩:=I.cell x c e
  exact free c o (λz=>(f c z).2.2.1 x c e rfl) w (I.freeC x c e)
 .obtain ⟨e,n,B,nf,d⟩:=I.pin p C
  have y:p.1∉ch:=λz=>(f p.1 z).2.2.2 p C rfl
  exact ⟨keep p.1 p.2 B nf y e n,free p.1 p.2 y e n,B,nf,d⟩
def Inv.un (I:Inv X pins σ H s) (u:Un X.fs [] H H' s.heap h') (hok:cz X.prog X.w H' h'):Inv X pins σ H' { s with heap:=h',toks:=t' }:=by
 obtain ⟨m,⟨o,es,ep,f,r⟩,_⟩:=id I.loc
 obtain ⟨sl,j⟩:=u.any f I.free (by simp)
 exact I.step (g':=s.gens) (d':=s.drawn) (ch:=[]) (λ_ z=>nomatch z) (λb o _ a _ e n=>u.keep b o e n a (by simp)) (λb o _ a _ e n=>u.slot b o e n a (by simp)) (λb o _ e n=>u.free b o e n (by simp)) (λb o _ e=>u.there b o e (by simp)) u.tups u.frzs u.tbls (λk i=>by
  obtain ⟨o',c,d,g,h⟩:=i
  rw [f] at g; cases g
  exact ⟨_,c,d,j,h⟩) hok I.bare
def Inv.call (I:Inv X pins σ H s) (u:Un (dz X.stack) ch H H' s.heap h') (hok:cz X.prog X.w H' h') (hg:AllBare g')
  (d:∀ b∈ch,(b∈X.ex\/X.s₀.heap.objs.size<=b)/\b≠X.env.locals/\(∀ x c,X.env.cells.lookup x=some c->c≠b)/\∀ p∈X.pn++pins,p.1≠b) :
  Inv X pins σ H' { s with heap:=h',gens:=g',drawn:=d',toks:=t' }:=by
 obtain ⟨m,⟨o,es,ep,i,r⟩,_⟩:=id I.loc
 obtain ⟨sl,f⟩:=u.any i I.free λz=>(d _ z).2.1 rfl
 exact I.step (ch:=ch) d (λb o f q a e n=>u.keep b o e n (λz=>(aI.mp (I.stkSub b z)).elim f q) a) (λb o _ _ a e n=>u.any e n a) (λb o a e n=>u.free b o e n a) (λb o a e=>u.there b o e a) u.tups u.frzs u.tbls (λv l=>by
  obtain ⟨o',g,h,j,k⟩:=l
  rw [i] at j; cases j
  exact ⟨_,g,h,f,k⟩) hok hg
def Inv.turned (I:Inv X pins σ H s) (k:∀ b o,b≠it->s.heap.get? b=some o->h'.get? b=some o) (h:H it=none) (f:it≠X.env.locals)
  (h1:it∈X.ex\/X.s₀.heap.objs.size<=it) (h2:∀ x c,X.env.cells.lookup x=some c->c≠it) (l:∀ p∈X.pn++pins,p.1≠it):Inv X pins σ H { s with heap:=h',toks:=t' }:=by
 have d:∀ b u,H b=some u->b≠it:=λb u e z=>by rw [z,h] at e; cases e
 refine I.step (g':=s.gens) (d':=s.drawn) (ch:=[it]) (λb j=>?_) (λb o _ _ a e _=>k b o (λz=>a (by simp [z])) e) (λb o _ _ a e _=>⟨o.slots,k b o (λz=>a (by simp [z])) e⟩) (λ_ _ _ _ n=>n)
  (λb o a e=>⟨o,k b o (λz=>a (by simp [z])) e⟩) (λ_ _ e=>e) (λ_ _ _ e=>e) (λb ps e=>⟨#[],by rw [e]; simp⟩) (λm i=>?_) (λb u e=>?_) I.bare
 .have e:b=it:=by simpa using j
  subst e
  exact ⟨h1,f,h2,l⟩
 .obtain ⟨o,es,ep,g,r⟩:=i
  exact ⟨o,es,ep,k _ o (EF f) g,r⟩
 .refine (I.hok b u e).stay (λc v a q=>k c v ?_ q) (λ_ q=>q) λ_ _ q=>q
  rcases a with z | z
  .rw [z]; exact d b u e
  .exact d c _ z
def Inv.tok (I:Inv X pins σ H s) (t):Inv X pins σ H { s with toks:=t }:=I.un (h':=s.heap) (t':=t) Un.refl I.hok
def Inv.kept (I:Inv X pins σ H s) (k:∀ b u,s.heap.get? b=some u->h'.get? b=some u):Inv X pins σ H { s with heap:=h',toks:=t' }:=I.un (Un.kept k) (I.hok.kept k)
def Inv.laid {a:Addr} (I:Inv X pins σ H s) (k:∀ b u,s.heap.get? b=some u->h'.get? b=some u) (c:s.heap.objs.size<=a) (new:xH X.prog X.w (upd H a o) h' a o) :
  Inv X pins σ (upd H a o) { s with heap:=h',toks:=t' }:=I.un (Un.laid k c (I.hok.fresh c)) (I.hok.laid k c new)
def Inv.write (I:Inv X pins σ H s) (c:A5 (H x)) (d:e=x\/H e=some (.own x)) (k:∀ b u,b≠e->s.heap.get? b=some u->h'.get? b=some u) (a:∃ u,h'.get? e=some u)
  (new:xH X.prog X.w (upd H x o) h' x o):Inv X pins σ (upd H x o) { s with heap:=h',toks:=t' }:=I.un (Un.write c d k a) (I.hok.write c d k a new)
def Inv.pins_of (I:Inv X pins σ H s) (h:∀ p∈a,s.heap.get? p.1=some p.2/\H p.1=none/\p.1≠X.env.locals/\p.1∉X.fs/\∀ v,p.2.data≠.cell v):Inv X a σ H s :=
 ⟨I.ok,I.os,I.bare,I.base,I.loc,I.cell,I.free,I.freeC,λp b=>(bE.mp b).elim (λz=>I.pin p (gq _ z)) (h p),I.hok,I.len⟩
def XG {N:List Str} (c:N.Nodup) {i j:Nat} (a:N[i]? = some x) (b:N[j]? = some x):i=j:=by
 obtain ⟨h1,e1⟩:=dw.mp a
 obtain ⟨h2,e2⟩:=dw.mp b
 exact (List.getElem_inj c).mp (e1.trans e2.symm)
def Wr (I:Inv X pins σ H s) (hN:X.N.Nodup) (hi:X.N[i]? = some x) (w:Loc X.env.scope x) (r:yO v u)
  (h:∀ s',Inv X pins (σ.set i (some v)) H s'->(∃ a,Heap.SameBut a s.heap s'.heap/\(a=X.env.locals\/X.env.cells.lookup x=some a))->Q () s') (hf:X.fn x=true\/X.env.scope.names.lookup x=some .local:=by first | exact .inl rfl | exact .inr rfl | assumption):A_ M A (storeName X.env x u) Q E s:=by
 obtain ⟨m,Z,hl⟩:=id I.loc
 have iU:(X.env.scope.kind==.class||(X.env.scope.kind==.module&&X.env.locals != X.env.globals))=false:=by rw [I.ok.kind]; rfl
 have gZ:i < σ.length:=by rw [I.len]; exact (dw.mp hi).1
 have cne:=I.cne
 have g:∀ {a:Addr} {h':Heap},(∃ o,s.heap.get? a=some o/\H a=none)->Heap.SameBut a s.heap h'->cz X.prog X.w H h':=λ{a h'} ha f b ob e=>by
  obtain ⟨_,_,nq⟩:=ha
  refine (I.hok b ob e).stay (λc O l q=>(f.2 c ?_).trans q) (λ_ q=>q) λ_ _ q=>q
  rintro rfl
  rcases l with rfl | l
  .rw [nq] at e; cases e
  .rw [nq] at l; cases l
 rcases w with B | B
 .refine wpAny_storeName_local B Z (λh' Ab f=>?_) iU
  obtain ⟨oL,_,_,Y,_⟩:=id Z
  refine h _ ⟨I.ok,I.os,I.bare,⟨λb o e n F w=>?_,λb o e n F w=>?_,I.base.free,λb o e w=>?_,I.base.tups,I.base.frzs,I.base.tbls⟩,⟨_,Ab,λj y S e1 e2 e3=>?_⟩,λy c e=>?_,I.free,I.freeC,λp W=>?_,g ⟨oL,Y,I.free⟩ f,by simpa using I.len⟩ ⟨_,f,.inl rfl⟩
  .exact (f.2 b (cR (eK (A9 e) I.ok.above))).trans (I.base.keep b o e n F w)
  .obtain ⟨sl,e1⟩:=I.base.slot b o e n F w
   exact ⟨sl,(f.2 b (cR (eK (A9 e) I.ok.above))).trans e1⟩
  .obtain ⟨o',e1⟩:=I.base.there b o e w
   exact ⟨o',(f.2 b (cR (eK (A9 e) I.ok.above))).trans e1⟩
  .by_cases C:j=i
   .subst C
    rw [hi] at e1; cases e1
    rw [nH gZ] at e2
    cases e2
    exact ⟨u,r,.inl ⟨B,by simp⟩⟩
   .rw [hU (EF C)] at e2
    obtain ⟨T,U,q⟩:=hl j y S e1 e2 e3
    refine ⟨T,U,?_⟩
    rcases q with ⟨k,e⟩ | ⟨k,c,e,z⟩
    .refine .inl ⟨k,?_⟩
     have:y≠x:=λe=>C (XG hN e1 (e ▸ hi))
     simp [this,e]
    .exact .inr ⟨k,c,e,z.sameBut f (cne y c e)⟩
  .obtain ⟨O,z⟩:=I.cell y c e
   exact ⟨O,z.sameBut f (cne y c e)⟩
  .obtain ⟨e,n,P,nf,d⟩:=I.pin p W
   exact ⟨(f.2 p.1 P).trans e,n,P,nf,d⟩
 .have Al:X.fn x=true:=by
   rcases hf with z | z
   .exact z
   .rw [z] at B; cases B
  obtain ⟨c,l⟩:=I.ok.has x (.inl B)
  obtain ⟨O,z⟩:=I.cell x c l
  refine wpAny_storeName_cell I.ok.kind B l z (λh' g7 f=>?_)
  obtain ⟨oc,J,G⟩:=id z
  refine h { s with heap:=h' } ⟨I.ok,I.os,I.bare,⟨λb o e n F w=>?_,λb o e n F w=>?_,I.base.free,λb o e w=>?_,I.base.tups,I.base.frzs,I.base.tbls⟩,⟨m,Z.sameBut f (EF (cne x c l)),λj y S e1 e2 e3=>?_⟩,λy R e=>?_,I.free,I.freeC,λp W=>?_,g ⟨oc,J,I.freeC x c l⟩ f,by simpa using I.len⟩ ⟨c,f,.inr l⟩
  .exact (f.2 b (cR (eK (A9 e) (I.ok.cab x c Al l)))).trans (I.base.keep b o e n F w)
  .obtain ⟨sl,e1⟩:=I.base.slot b o e n F w
   exact ⟨sl,(f.2 b (cR (eK (A9 e) (I.ok.cab x c Al l)))).trans e1⟩
  .obtain ⟨o',e1⟩:=I.base.there b o e w
   exact ⟨o',(f.2 b (cR (eK (A9 e) (I.ok.cab x c Al l)))).trans e1⟩
  .by_cases C:j=i
   .subst C
    rw [hi] at e1; cases e1
    rw [nH gZ] at e2
    cases e2
    exact ⟨u,r,.inr ⟨.inl B,c,l,g7⟩⟩
   .rw [hU (EF C)] at e2
    obtain ⟨T,U,q⟩:=hl j y S e1 e2 e3
    refine ⟨T,U,?_⟩
    rcases q with q | ⟨k,R,e,z'⟩
    .exact .inl q
    .refine .inr ⟨k,R,e,z'.sameBut f ?_⟩
     rintro rfl
     exact C (XG hN e1 (I.ok.inj _ _ _ e l ▸ hi))
  .by_cases L:R=c
   .subst L; exact ⟨_,g7⟩
   .obtain ⟨w2,z2⟩:=I.cell y R e
    exact ⟨w2,z2.sameBut f L⟩
  .obtain ⟨e,n,P,nf,d⟩:=I.pin p W
   refine ⟨(f.2 p.1 ?_).trans e,n,P,nf,d⟩
   intro q
   rw [q,J] at e
   have q':oc=p.2:=g3d.inj e
   exact d O (by rw [<- q']; exact G)
def uY (I:Inv X pins σ H s) (c:X.N.Nodup) (hi:X.N[i]? = some x) (a:Loc X.env.scope x) (r:yO v u)
  (h:∀ s',Inv X pins (σ.set i (some v)) H s'->Q () s') (b:X.fn x=true\/X.env.scope.names.lookup x=some .local:=by first | exact .inl rfl | exact .inr rfl | assumption):A_ M A (storeName X.env x u) Q E s :=
 Wr I c hi a r (λs' d _=>h s' d) b
def Inv.call' (I:Inv X pins σ H s) (d:s'.os=s.os) (u:Un (dz X.stack) ch H H' s.heap s'.heap) (hok:cz X.prog X.w H' s'.heap) (hg:AllBare s'.gens)
  (a:∀ b∈ch,(b∈X.ex\/X.s₀.heap.objs.size<=b)/\b≠X.env.locals/\(∀ x c,X.env.cells.lookup x=some c->c≠b)/\∀ p∈X.pn++pins,p.1≠b):Inv X pins σ H' s':=by
 obtain ⟨h',g',d',t',o'⟩:=s'
 have e:o'=s.os:=d
 subst e
 exact I.call (g':=g') (t':=t') (d':=d') u hok hg a
end
abbrev XK:=Value->Option Addr->Hp->Prop
abbrev St:=List (Option V)
abbrev VK:=V->Hp->Prop
abbrev TE:=St->Hp->VK->Prop
abbrev TT:=St->Hp->(Bool->Hp->Prop)->Prop
abbrev TA:=St->Hp->(List V->Hp->Prop)->Prop
structure Ends where
 nx:St->Hp->Prop
 rt:VK
 bk:St->Hp->Prop:=λ_ _=>False
 ct:St->Hp->Prop:=λ_ _=>False
abbrev TS:=Ends->St->Hp->Prop
inductive EP (X:Cx) (pins:List (Addr×Obj)) (σ:St) (Q:VK) (u:Value) (s':Shared):Prop
 |mk (v H') (a0:Inv X pins σ H' s') (a1:yO v u) (a2:Q v H')
def TP (X:Cx) (pins:List (Addr×Obj)) (σ:St) (Q:Bool->Hp->Prop) (b:Bool) (s':Shared):Prop:=∃ H',Inv X pins σ H' s'/\Q b H'
inductive AP (X:Cx) (pins:List (Addr×Obj)) (σ:St) (Q:List V->Hp->Prop) (us:List Value) (s':Shared):Prop
 |mk (vs H') (a0:Inv X pins σ H' s') (a1:yS vs us) (a2:Q vs H')
def SP (X:Cx) (pins:List (Addr×Obj)) (D:Ends) (f:Flow) (s':Shared):Prop :=
 match f with
 | .next=>∃ aC H',Inv X pins aC H' s'/\D.nx aC H'
 | .brk=>∃ aC H',Inv X pins aC H' s'/\D.bk aC H'
 | .cont=>∃ aC H',Inv X pins aC H' s'/\D.ct aC H'
 | .ret u=>∃ v aC H',Inv X pins aC H' s'/\yO v u/\D.rt v H'
def PE (X:Cx) (e:Expr) (t:TE):Prop :=
 ∀ (pins:List (Addr×Obj)) (s:Shared) (σ:St) (H:Hp) (Q:VK),Inv X pins σ H s->t σ H Q->A_ (Ec X.prog X.w) X.A (eval e X.env) (EP X pins σ Q) X.xe s
def PT (X:Cx) (e:Expr) (t:TT):Prop :=
 ∀ (pins:List (Addr×Obj)) (s:Shared) (σ:St) (H:Hp) (Q:Bool->Hp->Prop),Inv X pins σ H s->t σ H Q->A_ (Ec X.prog X.w) X.A (isTrue e X.env (eval e X.env)) (TP X pins σ Q) X.xe s
def PW (X:Cx) (e:Expr) (t:TT):Prop :=
 ∀ (a:Sem Value) (pins:List (Addr×Obj)) (s:Shared) (σ:St) (H:Hp) (Q:Bool->Hp->Prop),Inv X pins σ H s->t σ H Q->A_ (Ec X.prog X.w) X.A (isTrue e X.env a) (TP X pins σ Q) X.xe s
def PW.pt (h:PW X e t):PT X e t:=h _
def PA (X:Cx) (es:List Expr) (t:TA):Prop :=
 ∀ (pos:Pos) (pins:List (Addr×Obj)) (s:Shared) (σ:St) (H:Hp) (Q:List V->Hp->Prop),Inv X pins σ H s->t σ H Q->A_ (Ec X.prog X.w) X.A (spliced (EU pos (A7 es X.env))) (AP X pins σ Q) X.xe s
def PS (X:Cx) (st:Stmt) (t:TS):Prop :=
 ∀ (pins:List (Addr×Obj)) (s:Shared) (σ:St) (H:Hp) (D:Ends),Inv X pins σ H s->t D σ H->A_ (Ec X.prog X.w) X.A (exec st X.env) (SP X pins D) X.xe s
def fG (X:Cx) (st:List Stmt) (t:TS):Prop :=
 ∀ (pins:List (Addr×Obj)) (s:Shared) (σ:St) (H:Hp) (D:Ends),Inv X pins σ H s->t D σ H->A_ (Ec X.prog X.w) X.A (execs st X.env) (SP X pins D) X.xe s
def thn   {Q b:α->Shared->Prop} (h:A_ M A t Q E s) (c:∀ a s,Q a s->b a s):A_ M A t b E s:=Ef h c λ_ _ x=>x
section
variable {X:Cx}
def bin (l:PE X a ta) (k:PE X b tb) {σ:St} {R:V->V->Hp->Prop} (I:Inv X pins σ H s) (h:ta σ H λx H1=>tb σ H1 λy H2=>R x y H2)
     {Q:α->Shared->Prop} {f:Value->Value->Sem α}
    (j:∀ v u s2 x y H2,Inv X pins σ H2 s2->yO x v->yO y u->R x y H2->A_ (Ec X.prog X.w) X.A (f v u) Q X.xe s2) :
    A_ (Ec X.prog X.w) X.A (eval a X.env) (λv c=>A_ (Ec X.prog X.w) X.A (eval b X.env) (λu m=>A_ (Ec X.prog X.w) X.A (f v u) Q X.xe m) X.xe c) X.xe s:=by
  refine thn (l pins s σ H _ I h) λv s1 ⟨x,H1,o,e,i⟩=>?_
  refine thn (k pins s1 σ H1 _ o i) λu s2 ⟨y,H2,n,d,g⟩=>?_
  exact j v u s2 x y H2 n e d g
def zb5 (i:Nat):TE:=λσ H Q=>∃ v,σ[i]? = some (some v)/\Q v H
def tC (v:V):TE:=λ_ H Q=>Q v H
def jh (o:X.N[i]? = some x) (g:iz X.env.scope x) (hd:(x==("__debug__":Str))=false:=by decide) (b:(x==("__classdict__":Str))=false:=by decide):PE X (.Name x pos) (zb5 i):=by
 intro pins s σ H Q I h
 obtain ⟨v,e,h⟩:=h
 obtain ⟨m,j,n⟩:=I.loc
 obtain ⟨u,r,l⟩:=n i x v o e g
 have fin:EP X pins σ Q u s:=⟨v,H,I,r,h⟩
 rcases l with ⟨a,k⟩ | ⟨a,c,d,f⟩
 .exact wpAny_Name (wpAny_loadName_local I.ok.kind a j k fin) hd
 .rcases a with a | a
  .exact wpAny_Name (wpAny_loadName_cell I.ok.kind a d f fin) hd
  .exact wpAny_Name (wpAny_loadName_free I.ok.kind a d f fin b) hd
def K9 {i j pos}:PE X (.Constant (.int i) j pos) (tC (.int i)):=λ_ _ _ H _ I h=>wpAny_Constant_int ⟨.int i,H,I.tok _,⟨_,rfl⟩,h⟩
def RV {b j pos}:PE X (.Constant (.bool b) j pos) (tC (.bl b)):=λ_ _ _ H _ I h=>Constant_bool ⟨.bl b,H,I,rfl,h⟩
def RT {j pos}:PE X (.Constant .none j pos) (tC .non):=λ_ _ _ H _ I h=>Constant_none ⟨.non,H,I,rfl,h⟩
def FO {x j pos}:PE X (.Constant (.str x) j pos) (tC (.str x)):=λ_ _ _ H _ I h=>Calls.Constant_str ⟨.str x,H,I.tok _,⟨_,rfl⟩,h⟩
def Gl (X:Cx) (x:Str):Prop:=X.env.kindOf x=some .globalImplicit
def ZW    {σ:St} (I:Inv X pins σ H s) (hg:Gl X x) (a:X.mg x=some u) (h:Q u s)
  (hd:(x==("__debug__":Str))=false:=by decide):A_ (Ec X.prog X.w) X.A (eval (.Name x pos) X.env) Q E s :=
 Calls.Name_function_global I.ok.kind hg (Calls.loadGlobal_global (by rw [I.ok.glob]; exact I.mod.glob.keeps I.bk) a h) hd
def ZX    {σ:St} (I:Inv X pins σ H s) (hg:Gl X x) (c:X.mg x=none) (a:EM x=some u) (h:Q u s)
  (b:x≠"__name__":=by decide) (hd:(x==("__debug__":Str))=false:=by decide):A_ (Ec X.prog X.w) X.A (eval (.Name x pos) X.env) Q E s:=by
 obtain ⟨mb,h1,h2⟩:=I.mod.blt
 exact Calls.Name_function_global I.ok.kind hg (Calls.loadGlobal_builtin (by rw [I.ok.glob]; exact I.mod.glob.keeps I.bk) c (by rw [I.ok.blt]; exact h1.keeps I.bk) ((h2 x b).trans a) h) hd
def vi (hg:Gl X x) (a:X.mg x=some u) (r:yO v u) (hd:(x==("__debug__":Str))=false:=by decide):PE X (.Name x pos) (tC v) :=
 λ_ _ _ H _ I h=>ZW I hg a ⟨v,H,I,r,h⟩ hd
def Gc (hg:Gl X x) (c:X.mg x=none) (a:EM x=some u) (r:yO v u) (b:x≠"__name__":=by decide) (hd:(x==("__debug__":Str))=false:=by decide):PE X (.Name x pos) (tC v) :=
 λ_ _ _ H _ I h=>ZX I hg c a ⟨v,H,I,r,h⟩ b hd
variable {a b:Expr} {ta tb:TE} {pos:Pos}
def PC (X:Cx) (op:CmpOp) (a b:Expr) (t:TE):Prop :=
 ∀ (pins:List (Addr×Obj)) (s:Shared) (σ:St) (H:Hp) (Q:VK),Inv X pins σ H s->t σ H Q →
  A_ (Ec X.prog X.w) X.A (eval a X.env) (λv c=>A_ (Ec X.prog X.w) X.A (eval b X.env) (λu d=>A_ (Ec X.prog X.w) X.A (EV op v u) (EP X pins σ Q) X.xe d) X.xe c) X.xe s
def CU (b) (h:op≠.In) (h2:op≠.NotIn):Ew op b=false:=by
 have e1:(op==CmpOp.In)=false:=by cases op <;> first | rfl | exact absurd rfl h
 have e2:(op==CmpOp.NotIn)=false:=by cases op <;> first | rfl | exact absurd rfl h2
 cases b <;> simp [Ew,e1,e2]
def zaj (ta:TE):TE:=λσ H Q=>ta σ H λx H1=>Q (.bl (!decide (x=.non))) H1
def yO.none_iff (r:yO x v):(v==EH)=decide (x=.non):=by
 cases x with
 | non=>cases r; rfl
 | bl _=>cases r; rfl
 | int _=>obtain ⟨t,rfl⟩:=r; rfl
 | str _=>obtain ⟨t,rfl⟩:=r; rfl
 | byt _=>obtain ⟨t,rfl⟩:=r; rfl
 | flt _=>obtain ⟨t,rfl⟩:=r; rfl
 | ref _=>cases r; rfl
 | ty _=>cases r; rfl
def Na {j pos'} (e:PE X a ta):PC X .IsNot a (.Constant .none j pos') (zaj ta):=by
 intro pins s σ H Q I h
 refine thn (e pins s σ H _ I h) λv s1 ⟨x,H1,f,c,d⟩=>?_
 exact Constant_none (isnot_none_gen ⟨.bl _,H1,f,by rw [c.none_iff]; rfl,d⟩)
def tB (t:TE):TT:=λσ H Q=>t σ H λx H1=>∃ c,x=.bl c/\Q c H1
def K2 (h:PC X op a b t) (h1:Ew op b=false:=by first | exact CU _ (by decide) (by decide) | rfl):PT X (.Compare a [op] [b] pos) (tB t):=by
 intro pins s σ H Q I g
 refine wpAny_isTrue_Compare1 (thn (h pins s σ H _ I g) λv s1 h1=>thn h1 λu s2 h2=>thn h2 λc s3 ⟨x,H1,i,e,f⟩=>?_) h1
 obtain ⟨d,rfl,q⟩:=f
 cases e
 exact EB ⟨H1,i,q⟩
def FC (h:PE X e t) (j:∀ c,isTrue e X.env c=(do let v ← c; standAt e.pos; holding [v] (truthy v)):=by intro _; rfl):PT X e (tB t):=by
 intro pins s σ H Q I i
 refine isTrue_plain (thn (h pins s σ H _ I i) λv s1 ⟨x,H1,k,f,g⟩=>?_) (j _)
 obtain ⟨d,rfl,q⟩:=g
 cases f
 exact EB ⟨H1,k,q⟩
variable {tA tB':TT} {vT:List Expr}
def zdc (t u:TT):TT:=λσ H Q=>t σ H λc H1=>if c=true then u σ H1 Q else Q false H1
def tOr (t u:TT):TT:=λσ H Q=>t σ H λc H1=>if c=true then Q true H1 else u σ H1 Q
def zc7 (t:TT):TT:=λσ H Q=>t σ H λc H1=>Q (!c) H1
def MV (d:PT X a tA):PW X (.BoolOp .And [a] pos) tA:=by
 intro f pins s σ H Q I h
 refine isTrue_and (thn (d pins s σ H Q I h) λc s1 e=>?_)
 cases c with
 | true=>exact isTrue_and_nil e
 | false=>exact e
def Fy (d:PT X a tA):PW X (.BoolOp .Or [a] pos) tA:=by
 intro f pins s σ H Q I h
 refine isTrue_or (thn (d pins s σ H Q I h) λc s1 e=>?_)
 cases c with
 | false=>exact isTrue_or_nil e
 | true=>exact e
def RK (i:PT X a tA) (g:PW X (.BoolOp .And (b :: vT) pos) tB'):PW X (.BoolOp .And (a :: b :: vT) pos) (zdc tA tB'):=by
 intro f pins s σ H Q I h
 refine isTrue_and (thn (i pins s σ H _ I h) λc s1 ⟨H1,e,d⟩=>?_)
 cases c with
 | true=>exact g f pins s1 σ H1 Q e d
 | false=>exact ⟨H1,e,d⟩
def RJ (i:PT X a tA) (g:PW X (.BoolOp .Or (b :: vT) pos) tB'):PW X (.BoolOp .Or (a :: b :: vT) pos) (tOr tA tB'):=by
 intro f pins s σ H Q I h
 refine isTrue_or (thn (i pins s σ H _ I h) λc s1 ⟨H1,e,d⟩=>?_)
 cases c with
 | true=>exact ⟨H1,e,d⟩
 | false=>exact g f pins s1 σ H1 Q e d
def FD (d:PT X a tA):PT X (.UnaryOp .Not a pos) (zc7 tA):=by
 intro pins s σ H Q I h
 exact isTrue_not (d pins s σ H (λc H1=>Q (!c) H1) I h)
def zaq (ta tb:TE):TE:=λσ H Q=>ta σ H λx H1=>∃ c,x=.bl c/\if c=true then tb σ H1 Q else Q (.bl false) H1
def zc6 (ta tb:TE):TE:=λσ H Q=>ta σ H λx H1=>∃ c,x=.bl c/\if c=true then Q (.bl true) H1 else tb σ H1 Q
def zai (ta:TE):TE:=λσ H Q=>ta σ H λx H1=>∃ c,x=.bl c/\Q (.bl (!c)) H1
def FQ {op} (h:PE X a t):PE X (.BoolOp op [a] pos) t:=λpins s σ H Q I c=>BoolOp_one (h pins s σ H Q I c)
def Qi (i:PE X a ta) (g:PE X (.BoolOp .And (b :: vT) pos) tb):PE X (.BoolOp .And (a :: b :: vT) pos) (zaq ta tb):=by
 intro pins s σ H Q I h
 refine BoolOp_and (thn (i pins s σ H _ I h) λv s1 ⟨x,H1,e,f,d⟩=>?_)
 obtain ⟨c,rfl,d⟩:=d
 cases f
 refine EB ?_
 cases c with
 | true=>exact g pins s1 σ H1 Q e d
 | false=>exact ⟨.bl false,H1,e,rfl,d⟩
def za7 (i:PE X a ta) (g:PE X (.BoolOp .Or (b :: vT) pos) tb):PE X (.BoolOp .Or (a :: b :: vT) pos) (zc6 ta tb):=by
 intro pins s σ H Q I h
 refine BoolOp_or (thn (i pins s σ H _ I h) λv s1 ⟨x,H1,e,f,d⟩=>?_)
 obtain ⟨c,rfl,d⟩:=d
 cases f
 refine EB ?_
 cases c with
 | false=>exact g pins s1 σ H1 Q e d
 | true=>exact ⟨.bl true,H1,e,rfl,d⟩
def FR (f:PE X a ta):PE X (.UnaryOp .Not a pos) (zai ta):=by
 intro pins s σ H Q I h
 refine UnaryOp_ (thn (f pins s σ H _ I h) λv s1 ⟨x,H1,g,e,d⟩=>?_)
 obtain ⟨c,rfl,d⟩:=d
 cases e
 exact not_of (EB ⟨.bl (!c),H1,g,rfl,d⟩)
def tIf (t:TT) (ta tb:TE):TE:=λσ H Q=>t σ H λc H1=>if c=true then ta σ H1 Q else tb σ H1 Q
def Cw (g:PT X c tA) (j:PE X a ta) (i:PE X b tb):PE X (.IfExp c a b pos) (tIf tA ta tb):=by
 intro pins s σ H Q I h
 refine wpAny_IfExp (thn (g pins s σ H _ I h) λd s1 ⟨H1,f,e⟩=>?_)
 cases d with
 | true=>exact j pins s1 σ H1 Q f e
 | false=>exact i pins s1 σ H1 Q f e
end
def bC (K:A6) (H:Hp) (a:Addr) (xs:List V):Prop :=
 Rd H a (.lst xs) ∨
  ∃ (o:Obj) (af:Array Value) (n:Nat),K.lookup a=some o/\o.cls=.type "list"/\o.dict=none/\o.data=.seq af n/\af.size<=sizeLine/\yS xs af.toList
def bF (K:A6) (H:Hp) (a:Addr) (xs:List V):Prop :=
 Rd H a (.tup xs) ∨
  ∃ (o:Obj) (af:Array Value) (n:Nat),K.lookup a=some o/\o.cls=.type "tuple"/\o.data=.seq af n/\af.size<=sizeLine/\yS xs af.toList
def zea:Value->Option V
 | .none=>some .non
 | .bool b=>some (.bl b)
 | .int i _=>some (.int i)
 | .str x _=>some (.str x)
 | .bytes b _=>some (.byt b)
 | .float b _=>some (.flt b)
 | .ref a=>some (.ref a)
 | .type n=>some (.ty n)
 | _=>none
def yO.abs (r:yO x u):zea u=some x:=by
 cases x with
 | non=>cases r; rfl
 | bl _=>cases r; rfl
 | int _=>obtain ⟨t,rfl⟩:=r; rfl
 | str _=>obtain ⟨t,rfl⟩:=r; rfl
 | byt _=>obtain ⟨t,rfl⟩:=r; rfl
 | flt _=>obtain ⟨t,rfl⟩:=r; rfl
 | ref _=>cases r; rfl
 | ty _=>cases r; rfl
def yO.inj (r:yO x u) (q:yO y u):x=y:=g3d.inj (r.abs.symm.trans q.abs)
theorem yS.inj:∀ {xs ys:List V} {us:List Value},yS xs us->yS ys us->xs=ys
 | _,_,_,.nil,.nil=>rfl
 | _,_,_,.cons r t,.cons a t'=>by rw [r.inj a,yS.inj t t']
section
variable {X:Cx} {pins:List (Addr×Obj)} {σ:St} {H:Hp} {s:Shared} {a:Addr} {xs ys:List V}
def bC.of {K:A6} (h:H a=some (.lst xs)):bC K H a xs:=.inl (.inl h)
def bF.of {K:A6} (h:H a=some (.tup xs)):bF K H a xs:=.inl (.inl h)
def Inv.list (I:Inv X pins σ H s) (h:bC X.K H a xs):∃ af,yS xs af/\PlainL s.heap a af.toArray/\xs.length<=sizeLine:=by
 rcases h with h | ⟨o,af,n,c,d,hd,b,hz,r⟩
 .obtain ⟨z,af,n,r,e⟩:=h.ok I.hok
  exact ⟨af,r,⟨_,n,e,rfl,rfl,rfl⟩,z⟩
 .refine ⟨af.toList,r,⟨o,n,I.kIn a o c,d,hd,by simpa using b⟩,?_⟩
  have e:=r.length
  simp only [IX] at e
  omega
def Inv.tuple (I:Inv X pins σ H s) (h:bF X.K H a xs):∃ af,yS xs af/\IsTup s.heap a af.toArray/\xs.length<=sizeLine:=by
 rcases h with h | ⟨o,af,n,c,d,b,hz,r⟩
 .obtain ⟨z,af,r,p⟩:=h.ok I.hok
  exact ⟨af,r,p,z⟩
 .refine ⟨af.toList,r,⟨o,I.kIn a o c,d,n,by simpa using b⟩,?_⟩
  have e:=r.length
  simp only [IX] at e
  omega
def Inv.list_inj (I:Inv X pins σ H s) (h:bC X.K H a xs) (h':bC X.K H a ys):xs=ys:=by
 obtain ⟨af,r,⟨o,n,e,_,_,d⟩,_⟩:=I.list h
 obtain ⟨its',c,⟨o',n',b,_,_,d'⟩,_⟩:=I.list h'
 rw [e] at b; cases b
 rw [d] at d'
 injection d' with f _
 have:af=its':=by simpa using congrArg Array.toList f
 subst this
 exact r.inj c
def Inv.tuple_inj (I:Inv X pins σ H s) (h:bF X.K H a xs) (h':bF X.K H a ys):xs=ys:=by
 obtain ⟨af,r,⟨o,e,_,n,d⟩,_⟩:=I.tuple h
 obtain ⟨its',c,⟨o',b,_,n',d'⟩,_⟩:=I.tuple h'
 rw [e] at b; cases b
 rw [d] at d'
 injection d' with f _
 have:af=its':=by simpa using congrArg Array.toList f
 subst this
 exact r.inj c
end
abbrev Cx.wish (X:Cx) (E:Value->Shared->Prop):Cx:={ X with xe:=E }
abbrev Cx.nox (X:Cx):Cx:=X.wish λ_ _=>False
def Cx.Ok.wish {X:Cx} (ok:X.Ok) (E):(X.wish E).Ok :=
 ⟨ok.mod,ok.kind,ok.glob,ok.blt,ok.above,ok.inj,ok.has,ok.cab,ok.hd,ok.frames,ok.stk,ok.exf,ok.bs,ok.bsz,ok.noex,ok.exfs,ok.funs,ok.frf⟩
def Cx.Ok.unwish {X:Cx} (ok:(X.wish E).Ok):X.Ok :=
 ⟨ok.mod,ok.kind,ok.glob,ok.blt,ok.above,ok.inj,ok.has,ok.cab,ok.hd,ok.frames,ok.stk,ok.exf,ok.bs,ok.bsz,ok.noex,ok.exfs,ok.funs,ok.frf⟩
section
variable {X:Cx} {pins:List (Addr×Obj)} {σ:St} {H:Hp} {s:Shared} {E:Value->Shared->Prop}
def Inv.wish (I:Inv X pins σ H s) (E):Inv (X.wish E) pins σ H s:=⟨I.ok.wish E,I.os,I.bare,I.base,I.loc,I.cell,I.free,I.freeC,I.pin,I.hok,I.len⟩
def Inv.unwish (I:Inv (X.wish E) pins σ H s):Inv X pins σ H s:=⟨I.ok.unwish,I.os,I.bare,I.base,I.loc,I.cell,I.free,I.freeC,I.pin,I.hok,I.len⟩
def SP.unwish (h:SP (X.wish E) pins D f s'):SP X pins D f s':=by
 cases f with
 | next=>obtain ⟨aC,H',I,q⟩:=h; exact ⟨aC,H',I.unwish,q⟩
 | brk=>obtain ⟨aC,H',I,q⟩:=h; exact ⟨aC,H',I.unwish,q⟩
 | cont=>obtain ⟨aC,H',I,q⟩:=h; exact ⟨aC,H',I.unwish,q⟩
 | ret u=>obtain ⟨v,aC,H',I,r,q⟩:=h; exact ⟨v,aC,H',I.unwish,r,q⟩
def fG.nox {st:List Stmt} (h:fG X.nox st t):fG X st t:=λpins s σ H D I a =>
 Ef (h pins s σ H D (I.wish _) a) (λ_ _ q=>q.unwish) λ_ _ z=>E2 z
end
section
variable {X:Cx} {st:Stmt} {vT:List Stmt} {t u:TS} {e:Expr} {te:TE} {pos:Pos}
def zal:TS:=λD σ H=>D.nx σ H
def zc4 (t u:TS):TS:=λD σ H=>t { D with nx:=u D } σ H
def XD:fG X [] zal:=λ_ _ σ H _ I h=>Iz ⟨σ,H,I,h⟩
def xi (h1:PS X st t) (h2:fG X vT u):fG X (st :: vT) (zc4 t u):=by
 intro pins s σ H D I h
 refine wpAny_execs_cons (thn (h1 pins s σ H { D with nx:=u D } I h) λf s1 q=>?_)
 cases f with
 | next =>
  obtain ⟨aC,H',a,q⟩:=q
  exact h2 pins s1 aC H' D a q
 | ret v=>exact q
 | brk=>exact q
 | cont=>exact q
def ZG (h1:PS X st t):fG X [st] t:=by
 intro pins s σ H D I h
 refine wpAny_execs_cons (thn (h1 pins s σ H D I h) λf s1 q=>?_)
 cases f with
 | next=>exact Iz q
 | ret v=>exact q
 | brk=>exact q
 | cont=>exact q
def Inv.quiet  {σ:St} (I:Inv X pins σ H s):interactive X.env=false:=by simp [interactive,I.ok.kind]
def zan (te:TE):TS:=λD σ H=>te σ H λ_ H1=>D.nx σ H1
def V2 (c:PE X e te) (b:EW e none pos.line X.env=pure false:=by rfl):PS X (.Expr e pos) (zan te):=by
 intro pins s σ H D I h
 exact wpAny_Expr_any (thn (c pins s σ H _ I h) λv s1 ⟨x,H1,d,f,a⟩=>⟨σ,H1,d,a⟩) I.quiet b
def zc5 (te:TE):TS:=λD σ H=>te σ H D.rt
def K3 (c:PE X e te):PS X (.Return (some e) pos) (zc5 te):=by
 intro pins s σ H D I h
 exact wpAny_Return_some (thn (c pins s σ H _ I h) λv s1 ⟨x,H1,d,a,b⟩=>⟨x,σ,H1,d,a,b⟩)
def zc9 (c:TT) (t u:TS):TS:=λD σ H=>c σ H λb H1=>if b=true then t D σ H1 else u D σ H1
def Co (i:PT X c tc) (k:fG X a t) (j:fG X b u):PS X (.If c a b pos) (zc9 tc t u):=by
 intro pins s σ H D I h
 refine wpAny_If (thn (i pins s σ H _ I h) λd s1 ⟨H1,g,f⟩=>?_)
 cases d with
 | true=>exact k pins s1 σ H1 D g f
 | false=>exact j pins s1 σ H1 D g f
def Rh:TS:=λ_ _ _=>False
def Cn:PS X st Rh:=λ_ _ _ _ _ _ h=>h.elim
end
abbrev TG:=V->St->Hp->(St->Hp->Prop)->Prop
abbrev oY:=List V->St->Hp->(St->Hp->Prop)->Prop
def PG (X:Cx) (a:Expr) (t:TG):Prop :=
 ∀ (pins:List (Addr×Obj)) (s:Shared) (σ:St) (H:Hp) (v:V) (u:Value) (Q:St->Hp->Prop),Inv X pins σ H s->yO v u->t v σ H Q →
  A_ (Ec X.prog X.w) X.A (assign a X.env u) (λ_ s'=>∃ aC H',Inv X pins aC H' s'/\Q aC H') X.xe s
def oZ (X:Cx) (ts:List Expr) (t:oY):Prop :=
 ∀ (pins:List (Addr×Obj)) (s:Shared) (σ:St) (H:Hp) (vs:List V) (us:List Value) (Q:St->Hp->Prop),Inv X pins σ H s->yS vs us->t vs σ H Q →
  A_ (Ec X.prog X.w) X.A (assignInOrder ((Iq ts X.env).map (·.2)) us) (λ_ s'=>∃ aC H',Inv X pins aC H' s'/\Q aC H') X.xe s
abbrev zcy:=V->V->V->Hp->(Hp->Prop)->Prop
def zc0 (X:Cx) (t:zcy):Prop :=
 ∀ (pins:List (Addr×Obj)) (s:Shared) (σ:St) (H:Hp) (o i v:V) (a b u:Value) (Q:Hp->Prop),Inv X pins σ H s->yO o a->yO i b->yO v u->t o i v H Q →
  A_ (Ec X.prog X.w) X.A (setItem a b u) (λ_ s'=>∃ H',Inv X pins σ H' s'/\Q H') X.xe s
abbrev TIp:=V->V->Hp->VK->Prop
def PIp (X:Cx) (op:Operator) (t:TIp):Prop :=
 ∀ (pins:List (Addr×Obj)) (s:Shared) (σ:St) (H:Hp) (x y:V) (v u:Value) (Q:VK),Inv X pins σ H s->yO x v->yO y u->t x y H Q →
  A_ (Ec X.prog X.w) X.A (inplaceOp op v u) (EP X pins σ Q) X.xe s
section
variable {X:Cx} {pos:Pos}
def Tb (i:Nat):TG:=λv σ H Q=>Q (σ.set i (some v)) H
def M8 (c:X.N.Nodup) (hi:X.N[i]? = some x) (a:Loc X.env.scope x) (b:X.fn x=true\/X.env.scope.names.lookup x=some .local:=by first | exact .inl rfl | exact .inr rfl | assumption):PG X (.Name x pos) (Tb i):=by
 intro pins s σ H v u Q I r h
 exact wpAny_assign_Name (uY I c hi a r (λs' d=>⟨_,H,d,h⟩) b)
def zd1:oY:=λvs σ H Q=>vs=[]/\Q σ H
def zbi (t:TG) (u:oY):oY:=λvs σ H Q=>∃ v r,vs=v :: r/\t v σ H λaC H'=>u r aC H' Q
def M7:oZ X [] zd1:=by
 intro pins s σ H vs us Q I r h
 obtain ⟨e,h⟩:=h
 subst e
 cases r
 exact assignInOrder_nil ⟨σ,H,I,h⟩
def Cu (h1:PG X e t) (h2:oZ X es u)
  (d:(Iq (e :: es) X.env).map (·.2)=assign e X.env :: (Iq es X.env).map (·.2):=by rfl):oZ X (e :: es) (zbi t u):=by
 intro pins s σ H vs us Q I r h
 obtain ⟨v,g,e1,h⟩:=h
 subst e1
 cases r with
 | cons r a =>
  rw [d]
  refine assignInOrder_cons (thn (h1 pins s σ H _ _ _ I r h) λ_ s1 ⟨c,H1,f,b⟩=>?_)
  exact h2 pins s1 c H1 _ _ Q f a b
def zdz (K:A6) (n:Nat) (t:oY):TG:=λv σ H Q=>∃ a xs,v=.ref a/\bF K H a xs/\xs.length=n/\t xs σ H Q
def RP (j:X.calm=true) (h:oZ X es t)
  (g:(Iq es X.env).length=n:=by rfl) (bp:(Iq es X.env).findIdx? (·.1)=none:=by rfl):PG X (.Tuple es k pos) (zdz X.K n t):=by
 intro pins s σ H v u Q I r hw
 obtain ⟨a,xs,e1,f,i,hw⟩:=hw
 subst e1
 cases r
 obtain ⟨af,c,ht,hz⟩:=I.tuple f
 refine assign_Tuple_tuple (I.ok.hd j) ht (by simp [g,<- i,c.length]) bp λh' d=>?_
 have l:Inv X pins σ H { s with heap:=h' }:=I.kept (t':=s.toks) λb o e=>d b o (cR (A9 e)) e
 exact h pins _ σ H xs _ Q l (by simpa using c) hw
def zd0 (to a:TE) (t:zcy):TG:=λv σ H Q=>to σ H λo H1=>a σ H1 λi H2=>t o i v H2 λb=>Q σ b
def RQ (l:PE X o to) (hi:PE X i c) (k:zc0 X t)
  (m:∀ v,assign (.Subscript o i pos) X.env v=(do
   let a ← holding [v] (eval o X.env)
   let b ← holding [v,a] (eval i X.env)
   standAt pos
   holding [v,a,b] (setItem a b v)
   release [v,a,b] []):=by intro _; rfl):PG X (.Subscript o i pos) (zd0 to c t):=by
 intro pins s σ H v u Q I r h
 rw [m]
 refine ls (EK (thn (l pins s σ H _ I h) λa s1 ⟨x,H1,q,e,j⟩=>?_))
 refine ls (EK (thn (hi pins s1 σ H1 _ q j) λb s2 ⟨y,H2,p,d,g⟩=>?_))
 refine ls (wpAny_standAt (ls (EK (thn (k pins s2 σ H2 x y v a b u _ p e d r g) λ_ s3 ⟨w,n,f⟩=>?_))))
 exact wpAny_release ⟨σ,w,n,f⟩
def zb7 (te:TE) (g:TG):TS:=λD σ H=>te σ H λx H1=>g x σ H1 D.nx
def RN (f:PE X e te) (hg:PG X tg g) (d:swapsWithSole [tg] e pos.line X.env=pure false:=by rfl) (c:swappedStores [tg] e X.env=pure none:=by rfl)
  (h1:(Iq [tg] X.env).map (·.2)=[assign tg X.env]:=by rfl):PS X (.Assign [tg] e pos) (zb7 te g):=by
 intro pins s σ H D I h
 refine wpAny_Assign_stores (thn (f pins s σ H _ I h) λv s1 ⟨x,H1,i,a,b⟩=>?_) d c
 rw [h1]
 exact thn (hg pins s1 σ H1 x v _ i a b) λ_ s2 q=>q
def ZH (j:X.N.Nodup) (hi:X.N[i]? = some x) (c:Loc X.env.scope x) (g:PE X e te) (d:EW e (some (.Name x pos')) pos.line X.env=pure false:=by rfl) (f:X.fn x=true\/X.env.scope.names.lookup x=some .local:=by first | exact .inl rfl | exact .inr rfl | assumption) :
  PS X (.Assign [.Name x pos'] e pos) (zb7 te (Tb i)):=by
 intro pins s σ H D I h
 refine wpAny_Assign_Name (thn (g pins s σ H _ I h) λv s1 ⟨y,H1,l,a,b⟩=>?_) d
 exact uY l j hi c a (λs2 k=>⟨_,H1,k,b⟩) f
def zdb (i:Nat) (te:TE) (a:TIp):TS:=λD σ H=>∃ x,σ[i]? = some (some x)/\te σ H λy H1=>a x y H1 λz H2=>D.nx (σ.set i (some z)) H2
def FH (G:X.N.Nodup) (hi:X.N[i]? = some x) (d:Loc X.env.scope x) (E:PE X e te) (p:PIp X op f) (C:X.fn x=true\/X.env.scope.names.lookup x=some .local:=by first | exact .inl rfl | exact .inr rfl | assumption) :
  PS X (.AugAssign (.Name x pos') op e pos) (zdb i te f):=by
 intro pins s σ H D I h
 obtain ⟨v,e1,h⟩:=h
 obtain ⟨m,q,B⟩:=I.loc
 have b:iz X.env.scope x:=by rcases d with k | k; exact .inl k; exact .inr (.inl k)
 obtain ⟨u,r,l⟩:=B i x v hi e1 b
 refine wpAny_AugAssign_Name ?_
 have go:A_ (Ec X.prog X.w) X.A (eval e X.env) (λw M=>A_ (Ec X.prog X.w) X.A (inplaceOp op u w) (λr L=>A_ (Ec X.prog X.w) X.A (storeName X.env x r) (λ_=>SP X pins D .next) X.xe L) X.xe M) X.xe s:=by
  refine thn (E pins s σ H _ I h) λw s1 ⟨y,H1,Q,j,o⟩=>?_
  refine thn (p pins s1 σ H1 v y u w _ Q r j o) λz s2 ⟨R,H2,P,g,n⟩=>?_
  exact uY P G hi d g (λS O=>⟨_,H2,O,n⟩) C
 rcases l with ⟨a,A⟩ | ⟨a,c,F,J⟩
 .exact wpAny_loadName_local I.ok.kind a q A go
 .rcases a with a | a
  .exact wpAny_loadName_cell I.ok.kind a F J go
  .rcases d with k | k
   .have:X.env.scope.names.lookup x=some .free:=a
    rw [k] at this; cases this
   .have:X.env.scope.names.lookup x=some .free:=a
    rw [k] at this; cases this
def ipI (f:Int->Int->Int):TIp:=λx y H Q=>∃ i j,x=.int i/\y=.int j/\Q (.int (f i j)) H
def S5:PIp X .Add (ipI λi j=>i+j):=by
 intro pins s σ H x y v u Q I b a h
 obtain ⟨i,j,e1,e2,q⟩:=h
 subst e1; subst e2
 obtain ⟨t,rfl⟩:=b
 obtain ⟨t',rfl⟩:=a
 exact iadd_int ⟨.int _,H,I.tok _,⟨_,rfl⟩,q⟩
end
section
variable {X:Cx} {pos:Pos}
def Rg (c:TT) (tb:TS):TS:=λD σ H=>∃ W:Nat->St->Hp->Prop,(∃ m,W m σ H)/\∀ m σ H,W m σ H →
 c σ H λb H1=>if b=true then ∃ N:St->Hp->Prop,(∀ aC H',N aC H'->∃ a,a < m/\W a aC H')/\tb { D with nx:=N,ct:=N,bk:=D.nx } σ H1 else D.nx σ H1
def Ck (q:PassesOwn (Ec X.prog X.w) X.A X.env X.xe) (z:PT X c tc) (A:fG X body tb):PS X (.While c body [] pos) (Rg tc tb):=by
 intro pins s σ H D I h
 obtain ⟨W,⟨y,x⟩,a⟩:=h
 refine wpAny_While (codeAny_whileLoop (λn s'=>∃ aC H',Inv X pins aC H' s'/\W n aC H') ?_ y ⟨σ,H,I,x⟩)
 rintro n s1 ⟨j,H1,B,w⟩
 refine G_ q (thn (z pins s1 j H1 _ B (a n j H1 w)) λb s2 ⟨H2,u,i⟩=>?_)
 cases b with
 | true =>
  obtain ⟨N,r,i⟩:=i
  rw [if_pos rfl]
  refine G_ q (thn (A pins s2 j H2 _ u i) λf C g=>?_)
  cases f with
  | next =>
   obtain ⟨d,e,p,l⟩:=g
   obtain ⟨m,o,k⟩:=r d e l
   exact ⟨m,o,d,e,p,k⟩
  | cont =>
   obtain ⟨d,e,p,l⟩:=g
   obtain ⟨m,o,k⟩:=r d e l
   exact ⟨m,o,d,e,p,k⟩
  | brk=>exact g
  | ret v=>exact g
 | false =>
  rw [if_neg gp]
  exact Iz ⟨j,H2,u,i⟩
end
structure It where
 go:Nat->Hp->Prop
 yld:Nat->Hp->V->Hp->Prop
 stop:Nat->Hp->Prop
def uU (X:Cx) (pins:List (Addr×Obj)) (H:Hp) (b:Addr):Prop :=
 H b=none/\b≠X.env.locals/\b∉X.fs/\(b∈X.ex\/X.s₀.heap.objs.size<=b)/\(∀ x c,X.env.cells.lookup x=some c->c≠b)/\∀ p∈X.pn++pins,p.1≠b
def Inv.fpOk   {σ:St} {b:Addr} (I:Inv X pins σ H s) (a:s.heap.objs.size<=b) (f:H' b=none):uU X pins H' b:=by
 refine ⟨f,Nat.ne_of_gt (eK I.lt a),I.nofs a,.inr (fV I.sz a),λx c e z=>?_,λp d z=>?_⟩
 .obtain ⟨v,q⟩:=I.cell x c e
  exact absurd (eK q.lt (by rw [z]; exact a)) (oG _)
 .exact absurd (eK (A9 (I.pin p d).1) (by rw [z]; exact a)) (oG _)
structure Turn (P:Ej) (w:Ey) (K:A6) (tg:Expr) (J:It) (fp:List Addr) (it:Addr) (tn:Nat->Heap->Prop):Prop where
 mem:it∈fp
 obj:∀ i h,tn i h->∀ b∈fp,∃ o,h.get? b=some o/\∀ v,o.data≠.cell v
 keep:∀ i h h',tn i h->(∀ b∈fp,∀ o,h.get? b=some o->h'.get? b=some o)->tn i h'
 item:∀ (X:Cx),X.prog=P->X.w=w->X.K=K->X.calm=true->∀ (i:Nat) (pins:List (Addr×Obj)) (s:Shared) (σ:St) (H:Hp) (E:Value->Shared->Prop),Inv X pins σ H s->(∀ b∈fp,uU X pins H b)->tn i s.heap->J.go i H →
  A_ (Ec P w) X.A (pyNext (.ref it)) (λr s1=>∃ u,r=some u ∧
   A_ (Ec P w) X.A (IY tg (.ref it) u) (λ_ s2=>∃ x H',Inv X pins σ H' s2/\yO x u/\J.yld i H x H'/\tn (i+1) s2.heap/\∀ b∈fp,H' b=none) E s1) E s
 done:∀ (X:Cx),X.prog=P->X.w=w->X.K=K->X.calm=true->∀ (i:Nat) (pins:List (Addr×Obj)) (s:Shared) (σ:St) (H:Hp) (E:Value->Shared->Prop),Inv X pins σ H s->(∀ b∈fp,uU X pins H b)->tn i s.heap->J.stop i H →
  A_ (Ec P w) X.A (pyNext (.ref it)) (λr s1=>r=none/\Inv X pins σ H s1) E s
 self:∀ (A:Around) (i:Nat) (s:Shared) (Q:Value->Shared->Prop) (E:Value->Shared->Prop),tn i s.heap->Q (.ref it) s->A_ (Ec P w) A (pyIter (.ref it)) Q E s
abbrev TI:=St->Hp->(It->Hp->Prop)->Prop
def PIE (X:Cx) (pins:List (Addr×Obj)) (σ:St) (tg:Expr) (R:It->Hp->Prop) (a:Value) (s2:Shared):Prop :=
 ∃ (it:Addr) (fp:List Addr) (tn:Nat->Heap->Prop) (J:It) (H':Hp),a=.ref it/\Inv X pins σ H' s2/\Turn X.prog X.w X.K tg J fp it tn/\tn 0 s2.heap/\(∀ b∈fp,uU X pins H' b)/\R J H'
def PI (X:Cx) (tg iter:Expr) (a:TI):Prop :=
 ∀ (pins:List (Addr×Obj)) (s:Shared) (σ:St) (H:Hp) (R:It->Hp->Prop),Inv X pins σ H s->a σ H R →
  A_ (Ec X.prog X.w) X.A (eval iter X.env) (λv s1=>A_ (Ec X.prog X.w) X.A (pyIter v) (PIE X pins σ tg R) X.xe s1) X.xe s
def Dq (b:s.heap.get? it=some o) (d:o.cls=.type n) (hd:o.data=.fields vs)
    (c:["enumerate","zip","dict_itemiterator","dict_reverseitemiterator","odict_iterator","itertools.zip_longest","itertools.pairwise"].contains n=false) (a:Q () s):A_ M A (IY tg (.ref it) u) Q E s:=by
  unfold IY
  cases tg <;> first
    | exact u0 a
    | (cases u <;> first
        | exact u0 a
        | (refine ls (wpAny_load b ?_)
           rw [d,hd]
           show A_ M A (if (["enumerate","zip","dict_itemiterator","dict_reverseitemiterator","odict_iterator","itertools.zip_longest","itertools.pairwise"].contains n&&vs[0]? == some (HR _))=true then _ else _) Q E s
           rw [if_neg (by intro h; rw [c,Bool.false_and] at h; cases h)]
           exact u0 a))
def Itl (K:A6) (a:Addr):It :=
 ⟨λi H=>∃ xs x,bC K H a xs/\xs[i]? = some x,λi H x H'=>H'=H/\∀ xs,bC K H a xs->xs[i]? = some x,λi H=>∃ xs,bC K H a xs/\xs.length<=i⟩
def Itt (K:A6) (a:Addr):It :=
 ⟨λi H=>∃ xs x,bF K H a xs/\xs[i]? = some x,λi H x H'=>H'=H/\∀ xs,bF K H a xs->xs[i]? = some x,λi H=>∃ xs,bF K H a xs/\xs.length<=i⟩
def Itr (lo:Int) (n:Nat):It:=⟨λi _=>i < n,λi H x H'=>H'=H/\x=.int (lo+i),λi _=>n<=i⟩
def Kn {P:Ej} {w:Ey} {K:A6} {tg:Expr} (a it:Addr):Turn P w K tg (Itl K a) [it] it (λi h=>h.IsListIter it a i) where
 mem:=by simp
 obj:=λi h st b f=>by
  have e:b=it:=by simpa using f
  subst e
  obtain ⟨o,e,c,d⟩:=st
  exact ⟨o,e,λv z=>by rw [d] at z; cases z⟩
 keep:=λi h h' st k=>st.at λo e=>k it (by simp) o e
 item:=by
  intro X q n r C i pins s σ H E I j st hg
  subst q n r
  obtain ⟨xs,x,g,m⟩:=hg
  obtain ⟨af,l,p,hz⟩:=I.list g
  obtain ⟨u,M,J⟩:=l.get m
  obtain ⟨f0,f1,f2,B,A,y⟩:=j it (by simp)
  refine wpAny_pyNext_list_item st p.isList (x:=u) (by simpa using M) λh' F G=>?_
  have Q:Inv X pins σ H { s with heap:=h' }:=I.turned (t':=s.toks) (λb o f e=>(G.2 b f).trans e) f0 f1 B A y
  obtain ⟨o,e,c,d⟩:=id F
  exact ⟨u,rfl,Dq (s:={ s with heap:=h' }) e c d (by decide) ⟨x,H,Q,J,⟨rfl,λys L=>by rw [I.list_inj L g]; exact m⟩,F,λb f=>(j b f).1⟩⟩
 done:=by
  intro X q n r C i pins s σ H E I j st hg
  subst q n r
  obtain ⟨xs,g,m⟩:=hg
  obtain ⟨af,l,p,hz⟩:=I.list g
  obtain ⟨f0,f1,f2,B,A,y⟩:=j it (by simp)
  have R:=l.length
  exact wpAny_pyNext_list_end (I.ok.hd C) st p.isList (by simp; omega) λh' O=>⟨rfl,I.turned (t':=s.toks) (λb o f e=>O b o f e) f0 f1 B A y⟩
 self:=λ_ _ _ _ _ st h=>wpAny_pyIter_listiter st h
def Jj {P:Ej} {w:Ey} {K:A6} {tg:Expr} (a it:Addr):Turn P w K tg (Itt K a) [it] it (λi h=>h.IsTupleIter it a i) where
 mem:=by simp
 obj:=λi h st b f=>by
  have e:b=it:=by simpa using f
  subst e
  obtain ⟨o,e,c,d⟩:=st
  exact ⟨o,e,λv z=>by rw [d] at z; cases z⟩
 keep:=λi h h' st k=>st.at λo e=>k it (by simp) o e
 item:=by
  intro X q n r C i pins s σ H E I j st hg
  subst q n r
  obtain ⟨xs,x,g,m⟩:=hg
  obtain ⟨af,l,p,hz⟩:=I.tuple g
  obtain ⟨u,M,J⟩:=l.get m
  obtain ⟨f0,f1,f2,B,A,y⟩:=j it (by simp)
  refine wpAny_pyNext_tuple_item st (show s.heap.IsTuple a af.toArray from p) (x:=u) (by simpa using M) λh' F G=>?_
  have Q:Inv X pins σ H { s with heap:=h' }:=I.turned (t':=s.toks) (λb o f e=>(G.2 b f).trans e) f0 f1 B A y
  obtain ⟨o,e,c,d⟩:=id F
  exact ⟨u,rfl,Dq (s:={ s with heap:=h' }) e c d (by decide) ⟨x,H,Q,J,⟨rfl,λys L=>by rw [I.tuple_inj L g]; exact m⟩,F,λb f=>(j b f).1⟩⟩
 done:=by
  intro X q n r C i pins s σ H E I j st hg
  subst q n r
  obtain ⟨xs,g,m⟩:=hg
  obtain ⟨af,l,p,hz⟩:=I.tuple g
  obtain ⟨f0,f1,f2,B,A,y⟩:=j it (by simp)
  have R:=l.length
  exact wpAny_pyNext_tuple_end (I.ok.hd C) st (show s.heap.IsTuple a af.toArray from p) (by simp; omega) λh' O=>⟨rfl,I.turned (t':=s.toks) (λb o f e=>O b o f e) f0 f1 B A y⟩
 self:=λ_ _ _ _ _ st h=>wpAny_pyIter_tupleiter st h
def Jk {P:Ej} {w:Ey} {K:A6} {tg:Expr} (it:Addr) (lo:Int) (n:Nat):Turn P w K tg (Itr lo n) [it] it (λi h=>IsRangeIter h it (lo+(i:Nat) * 1) ((n:Int) - (i:Nat)) 1) where
 mem:=by simp
 obj:=λi h st b a=>by
  have e:b=it:=by simpa using a
  subst e
  exact ⟨_,st,λv z=>by
   have q:Data.fields _=Data.cell v:=z
   cases q⟩
 keep:=λi h h' st k=>k it (by simp) _ st
 item:=by
  intro X g d j f i pins s σ H E I c st hg
  subst g d j
  obtain ⟨f0,f1,f2,m,f4,l⟩:=c it (by simp)
  have W:=Walks.range (prog:=X.prog) (w:=X.w) (I.ok.hd f) it lo 1 n
  refine W.item i s _ _ hg st λv h' tk r p kk=>?_
  obtain ⟨t,rfl⟩:=r
  have x:Inv X pins σ H { s with heap:=h',toks:=tk }:=I.turned (λb o a e=>kk b o (by simpa using a) e) f0 f1 m f4 l
  refine ⟨_,rfl,Dq (s:={ s with heap:=h',toks:=tk }) (n:="range_iterator") p rfl rfl (by decide) ⟨.int (lo+i),H,x,⟨t,?_⟩,⟨rfl,rfl⟩,p,λb a=>(c b a).1⟩⟩
  rw [Int.mul_one]
 done:=by
  intro X g d j f i pins s σ H E I c st hg
  subst g d j
  obtain ⟨f0,f1,f2,m,f4,l⟩:=c it (by simp)
  exact wpAny_pyNext_range_end (I.ok.hd f) st (by have:n<=i:=hg; omega) λh' u=>⟨rfl,I.turned (t':=s.toks) (λb o a e=>u b o a e) f0 f1 m f4 l⟩
 self:=λ_ _ _ _ _ st h=>wpAny_pyIter_rangeiter st h
section
variable {X:Cx} {tg:Expr}
def Cg  {σ:St} {lo hi:Int} (I:Inv X pins σ H s) (h1 : -(2 ^ 62)<=lo) (h2:lo < 2 ^ 62) (f : -(2 ^ 62)<=hi) (d:hi < 2 ^ 62)
  (q:R (Itr lo (hi - lo).toNat) H):A_ (Ec X.prog X.w) X.A (pyIter (.ref s.heap.objs.size)) (PIE X pins σ tg R) E { s with heap:=s.heap.push { cls:=.type "range",data:=.fields #[.int lo t,.int hi u,.int 1 v] },toks:=tk }:=by
 refine wpAny_pyIter_range (IsRange.new ..) (small_one h1 h2 f d) ?_
 have a:Inv X pins σ H { s with heap:=s.heap.push { cls:=.type "range",data:=.fields #[.int lo t,.int hi u,.int 1 v] },toks:=tk }:=I.kept λb o e=>tz _ e
 refine ⟨(s.heap.push { cls:=.type "range",data:=.fields #[.int lo t,.int hi u,.int 1 v] }).objs.size,[(s.heap.push { cls:=.type "range",data:=.fields #[.int lo t,.int hi u,.int 1 v] }).objs.size],_,_,H,rfl,
  a.kept (t':=tk) λb o e=>tz _ e,Jk _ lo (hi - lo).toNat,?_,λb c=>?_,q⟩
 .have e1:lo+((0:Nat):Int) * 1=lo:=by simp
  have e2:(((hi - lo).toNat:Nat):Int) - ((0:Nat):Int)=Ek lo hi 1:=by rw [rangeSize_one]; split <;> omega
  show IsRangeIter _ _ (lo+((0:Nat):Int) * 1) ((((hi - lo).toNat:Nat):Int) - ((0:Nat):Int)) 1
  rw [e1,e2]
  exact AC _ rfl
 .have e:b=(s.heap.push { cls:=.type "range",data:=.fields #[.int lo t,.int hi u,.int 1 v] }).objs.size:=by simpa using c
  subst e
  exact a.fpOk (aM _) (a.hok.fresh (aM _))
def zbg (ta:TA):TI:=λσ H R=>ta σ H λvs H1=>∃ j:Int,vs=[.int j] /\ -(2 ^ 62)<=j/\j < 2 ^ 62/\R (Itr 0 j.toNat) H1
def K7 (hg:Gl X "range") (i:X.mg "range"=none) (k:PA X [a] ta) (g:A7 [a] X.env=[(false,eval a X.env)]:=by rfl):PI X tg (.Call (.Name "range" p) [a] [] pos) (zbg ta):=by
 intro pins s σ H R I h
 refine Call_ (ZX I hg i boot_range (EO (thn (k pos pins s σ H _ I h) λus s1 ⟨vs,H1,l,d,b⟩=>?_) g rfl))
 obtain ⟨j,e,b,f,q⟩:=b
 subst e
 cases d with
 | cons r c =>
  cases c
  obtain ⟨t,rfl⟩:=r
  exact call_range_1 (Cg l (by omega) (by omega) b f (by simpa using q))
def zda (b:TI) (g:TG) (tb:TS):TS:=λD σ H=>b σ H λJ H1=>∃ W:Nat->Nat->St->Hp->Prop,(∃ m,W 0 m σ H1)/\∀ i m σ H,W i m σ H →
 (J.stop i H/\D.nx σ H)\/(J.go i H/\∃ N:St->Hp->Prop,(∀ aC H',N aC H'->∃ a,a < m/\W (i+1) a aC H')/\∀ x H',J.yld i H x H'->g x σ H' λc H2=>tb { D with nx:=N,ct:=N,bk:=D.nx } c H2)
def kr (fp:List Addr) (h:Heap):List (Addr×Obj):=fp.filterMap λb=>(h.get? b).map λo=>(b,o)
def xP (a:b∈fp) (e:h.get? b=some o):(b,o)∈kr fp h:=ly.mpr ⟨b,a,by rw [e]; rfl⟩
def ZL   {p:Addr×Obj} (a:p∈kr fp h):p.1∈fp/\h.get? p.1=some p.2:=by
 obtain ⟨b,c,e⟩:=ly.mp a
 cases q:h.get? b with
 | none=>rw [q] at e; cases e
 | some o =>
  rw [q] at e
  have d:(b,o)=p:=g3d.inj e
  subst d
  exact ⟨c,q⟩
def Inv.pinned  {σ:St} (I:Inv X pins σ H s) (h:∀ b∈fp,uU X pins H b) (g:∀ b∈fp,∃ o,s.heap.get? b=some o/\∀ v,o.data≠.cell v):Inv X (pins++kr fp s.heap) σ H s :=
 I.pins_of λp f=>(bE.mp f).elim (λz=>I.pin p (eh _ z)) λz=>by
  obtain ⟨a,e⟩:=ZL z
  obtain ⟨f0,f1,f2,_⟩:=h p.1 a
  obtain ⟨o,c,d⟩:=g p.1 a
  rw [e] at c; cases c
  exact ⟨e,f0,f1,f2,d⟩
def Inv.unpinned  {σ:St} (I:Inv X (pins++b) σ H s):Inv X pins σ H s:=I.pins_of λp a=>I.pin p (eh _ (gq _ a))
def FF (y:PassesOwn (Ec X.prog X.w) X.A X.env X.xe) (M:X.calm=true) (hi:PI X tg iter U) (hg:PG X tg g) (c:fG X body tb)
  (hs:∀ x,Ie iter X.env x=pure x:=by intro _; rfl):PS X (.For tg iter body [] pos) (zda U g tb):=by
 intro pins s σ H D I h
 refine wpAny_For (thn (hi pins s σ H _ I h) λv s1 h1=>thn h1 λitv s2 h2=>?_) hs
 obtain ⟨it,fp,tn,J,H2,e,I2,T,si,f2,W,⟨m0,w0⟩,p⟩:=h2
 subst e
 have E:∀ {H':Hp},(∀ b∈fp,H' b=none)->∀ b∈fp,uU X pins H' b:=λhn b c=>⟨hn b c,(f2 b c).2⟩
 refine codeAny_forLoop_any (λn s'=>∃ i aC H',Inv X pins aC H' s'/\tn i s'.heap/\(∀ b∈fp,H' b=none)/\W i n aC H') ?_ m0 ⟨0,σ,H2,I2,si,λb c=>(f2 b c).1,w0⟩
 rintro n L ⟨i,w,z,O,G,Q,Z⟩
 rcases p i n w z Z with ⟨stop,qn⟩ | ⟨go,N,hN,step⟩
 .refine G_ y (thn (T.done X rfl rfl rfl M i pins L w z X.xe O (E Q) G stop) λr s4 ⟨C,I4⟩=>?_)
  subst C
  exact Iz ⟨w,z,I4,qn⟩
 .refine G_ y (thn (T.item X rfl rfl rfl M i pins L w z X.xe O (E Q) G go) λr s4 ⟨u,C,h4⟩=>?_)
  subst C
  refine G_ y (thn h4 λ_ s5 ⟨x,P,I5,r5,R,B,AO⟩=>?_)
  have F:=I5.pinned (E AO) (T.obj _ _ B)
  refine G_ y (thn (hg _ s5 w P x u _ F r5 (step x P R)) λ_ s6 ⟨ee,H6,I6,q6⟩=>?_)
  refine G_ y (thn (c _ s6 ee H6 _ I6 q6) λf A l=>?_)
  have again:∀ {a:St} {k:Hp},Inv X (pins++kr fp s5.heap) a k A->N a k->∃ m,m < n/\∃ i aC H',Inv X pins aC H' A/\tn i A.heap/\(∀ b∈fp,H' b=none)/\W i m aC H':=λ{a k} j q=>by
   obtain ⟨m',hm,Y⟩:=hN a k q
   refine ⟨m',hm,i+1,a,k,j.unpinned,T.keep _ _ _ B λb c o e=>(j.pin (b,o) (eh _ (eh _ (xP c e)))).1,λb c=>?_,Y⟩
   obtain ⟨o,e,d⟩:=T.obj _ _ B b c
   exact (j.pin (b,o) (eh _ (eh _ (xP c e)))).2.1
  cases f with
  | next=>obtain ⟨a,k,j,q⟩:=l; exact again j q
  | cont=>obtain ⟨a,k,j,q⟩:=l; exact again j q
  | brk=>obtain ⟨a,k,j,l⟩:=l; exact ⟨a,k,j.unpinned,l⟩
  | ret v=>obtain ⟨S,a,k,j,r7,l⟩:=l; exact ⟨S,a,k,j.unpinned,r7,l⟩
end
abbrev R2:=V->V->Hp->VK->Prop
def cu (X:Cx) (f:Value->Value->Sem Value) (r:R2):Prop :=
 ∀ (pins:List (Addr×Obj)) (s:Shared) (σ:St) (H:Hp) (x y:V) (v u:Value) (Q:VK),Inv X pins σ H s->yO x v->yO y u->r x y H Q →
  A_ (Ec X.prog X.w) X.A (f v u) (EP X pins σ Q) X.xe s
def UnR (X:Cx) (f:Value->Sem Value) (r:V->Hp->VK->Prop):Prop :=
 ∀ (pins:List (Addr×Obj)) (s:Shared) (σ:St) (H:Hp) (x:V) (v:Value) (Q:VK),Inv X pins σ H s->yO x v->r x H Q →
  A_ (Ec X.prog X.w) X.A (f v) (EP X pins σ Q) X.xe s
def wU (X:Cx) (f:Value) (r:List V->Hp->VK->Prop):Prop :=
 ∀ (pins:List (Addr×Obj)) (s:Shared) (σ:St) (H:Hp) (xs:List V) (us:List Value) (Q:VK),Inv X pins σ H s->yS xs us->r xs H Q →
  A_ (Ec X.prog X.w) X.A (call f us) (EP X pins σ Q) X.xe s
def r0 (r:R2) (ta tb:TE):TE:=λσ H Q=>ta σ H λx H1=>tb σ H1 λy H2=>r x y H2 Q
def tUn (r:V->Hp->VK->Prop) (ta:TE):TE:=λσ H Q=>ta σ H λx H1=>r x H1 Q
def rI (C:Int->Int->Prop) (g:Int->Int->V):R2:=λx y H Q=>∃ i j,x=.int i/\y=.int j/\C i j/\Q (g i j) H
def gb (g:Int->Int->V):R2:=λx y H Q=>∃ i j,x=.int i/\y=.int j/\Q (g i j) H
def rU (g:Int->V):V->Hp->VK->Prop:=λx H Q=>∃ i,x=.int i/\Q (g i) H
section
variable {X:Cx} {a b c:Expr} {ta tb tc:TE} {pos:Pos}
def zby (m:PE X a ta) (l:PE X b tb) {σ:St} {R:V->V->Hp->Prop} (I:Inv X pins σ H s)
  (h:ta σ H λx H1=>tb σ H1 λy H2=>R x y H2) {f:Value->Value->Sem Value}
  (k:∀ v u s2 x y H2,Inv X pins σ H2 s2->yO x v->yO y u->R x y H2->A_ (Ec X.prog X.w) X.A (f v u) Q X.xe s2) :
  A_ (Ec X.prog X.w) X.A (eval a X.env) (λv d=>A_ (Ec X.prog X.w) X.A (eval b X.env) (λu n=>A_ (Ec X.prog X.w) X.A (f v u) Q X.xe n) X.xe d) X.xe s:=by
 refine thn (m pins s σ H _ I h) λv s1 ⟨x,H1,p,g,j⟩=>?_
 refine thn (l pins s1 σ H1 _ p j) λu s2 ⟨y,H2,o,e,i⟩=>?_
 exact k v u s2 x y H2 o g e i
def RS (f:cu X (Ig op) r) (i:PE X a ta) (g:PE X b tb):PE X (.BinOp a op b pos) (r0 r ta tb):=by
 intro pins s σ H Q I h
 exact wpAny_BinOp (zby i g I h λv u s2 x y H2 j e d q=>f pins s2 σ H2 x y v u Q j e d q)
def za6 (f:UnR X (unaryOp op) r) (g:PE X a ta):PE X (.UnaryOp op a pos) (tUn r ta):=by
 intro pins s σ H Q I h
 exact UnaryOp_ (thn (g pins s σ H _ I h) λv s1 ⟨x,H1,i,d,e⟩=>f pins s1 σ H1 x v Q i d e)
def opI   {g:Int->Int->Int}
  (rule:∀ (i j:Int) (t u:Tok) (s:Shared) (Q:Value->Shared->Prop) (E:Value->Shared->Prop),C i j->Q (.int (g i j) s.toks) { s with toks:=s.toks+1 }->A_ (Ec X.prog X.w) X.A (f (.int i t) (.int j u)) Q E s) :
  cu X f (rI C λi j=>.int (g i j)):=by
 intro pins s σ H x y v u Q I e d h
 obtain ⟨i,j,rfl,rfl,k,q⟩:=h
 obtain ⟨t,rfl⟩:=e
 obtain ⟨t',rfl⟩:=d
 exact rule i j t t' s _ _ k ⟨.int (g i j),H,I.tok _,⟨_,rfl⟩,q⟩
def zco  {g:Int->Int->Int}
  (rule:∀ (i j:Int) (t u:Tok) (s:Shared) (Q:Value->Shared->Prop) (E:Value->Shared->Prop),Q (.int (g i j) s.toks) { s with toks:=s.toks+1 }->A_ (Ec X.prog X.w) X.A (f (.int i t) (.int j u)) Q E s) :
  cu X f (gb λi j=>.int (g i j)):=by
 intro pins s σ H x y v u Q I e d h
 obtain ⟨i,j,rfl,rfl,q⟩:=h
 obtain ⟨t,rfl⟩:=e
 obtain ⟨t',rfl⟩:=d
 exact rule i j t t' s _ _ ⟨.int (g i j),H,I.tok _,⟨_,rfl⟩,q⟩
def T5  {g:Int->Int->Bool}
  (rule:∀ (i j:Int) (t u:Tok) (s:Shared) (Q:Value->Shared->Prop) (E:Value->Shared->Prop),Q (.bool (g i j)) s->A_ (Ec X.prog X.w) X.A (f (.int i t) (.int j u)) Q E s) :
  cu X f (gb λi j=>.bl (g i j)):=by
 intro pins s σ H x y v u Q I e d h
 obtain ⟨i,j,rfl,rfl,q⟩:=h
 obtain ⟨t,rfl⟩:=e
 obtain ⟨t',rfl⟩:=d
 exact rule i j t t' s _ _ ⟨.bl (g i j),H,I,rfl,q⟩
def Sb:cu X (Ig .Add) (gb λi j=>.int (i+j)):=zco λ_ _ _ _ _ _ _ q=>add_int q
def RY:cu X (Ig .Sub) (gb λi j=>.int (i - j)):=zco λ_ _ _ _ _ _ _ q=>sub_int q
def RZ:cu X (Ig .Mod) (rI (λ_ j=>0 < j) λi j=>.int (i % j)):=opI λi j _ _ _ _ _ d q=>by
 have h1:(0:Int) < j:=d
 exact mod_int' (by omega) (by rw [Int.fmod_eq_emod_of_nonneg i (by omega)]; exact q)
def unI  {g:Int->Int}
  (rule:∀ (i:Int) (t:Tok) (s:Shared) (Q:Value->Shared->Prop) (E:Value->Shared->Prop),Q (.int (g i) s.toks) { s with toks:=s.toks+1 }->A_ (Ec X.prog X.w) X.A (f (.int i t)) Q E s) :
  UnR X f (rU λi=>.int (g i)):=by
 intro pins s σ H x v Q I d h
 obtain ⟨i,rfl,q⟩:=h
 obtain ⟨t,rfl⟩:=d
 exact rule i t s _ _ ⟨.int (g i),H,I.tok _,⟨_,rfl⟩,q⟩
def Rc:UnR X (unaryOp .USub) (rU λi=>.int (-i)):=unI λ_ _ _ _ _ q=>neg_int q
end
section
variable {X:Cx} {a b c:Expr} {ta tb tc:TE} {pos:Pos}
def Hn  {σ:St} (I:Inv X pins σ H s) (q:Q (.bl k) H) (e:k=d):EP X pins σ Q (.bool d) s:=by
 subst e
 exact ⟨.bl k,H,I,rfl,q⟩
def za9:cu X (EV .Lt) (gb λi j=>.bl (decide (i < j))):=T5 λ_ _ _ _ _ _ _ q=>lt_int q
def zba:cu X (EV .LtE) (gb λi j=>.bl (decide (i<=j))):=T5 λ_ _ _ _ _ _ _ q=>le_int q
def Sa:cu X (EV .Gt) (gb λi j=>.bl (decide (j < i))):=T5 λ_ _ _ _ _ _ _ q=>gt_int q
def zbb:cu X (EV .GtE) (gb λi j=>.bl (decide (j<=i))):=T5 λ_ _ _ _ _ _ _ q=>ge_int q
def Gm:cu X (EV .In) (λx y H Q=>∃ i j,x=.str i/\y=.str j/\Q (.bl (!(Ly j i 0 j.length 1).isEmpty)) H):=by
 intro pins s σ H x y v u Q I e d h
 obtain ⟨i,j,rfl,rfl,q⟩:=h
 obtain ⟨t,rfl⟩:=e
 obtain ⟨t',rfl⟩:=d
 exact in_str (Hn I q rfl)
def Gk:cu X (EV .IsNot) (λx y H Q=>y=.non/\Q (.bl (!decide (x=.non))) H):=by
 intro pins s σ H x y v u Q I d e h
 obtain ⟨rfl,q⟩:=h
 cases e
 refine isnot_none_gen (Hn I q ?_)
 cases x <;> first
  | (cases d; rfl)
  | (obtain ⟨t,rfl⟩:=d; rfl)
def WQ:cu X (EV .NotIn) (λx y H Q=>∃ i j,x=.str i/\y=.str j/\Q (.bl (!(!(Ly j i 0 j.length 1).isEmpty))) H):=by
 intro pins s σ H x y v u Q I e d h
 obtain ⟨i,j,rfl,rfl,q⟩:=h
 obtain ⟨t,rfl⟩:=e
 obtain ⟨t',rfl⟩:=d
 exact notIn_str (Hn I q rfl)
def cu.or (h:cu X f r) (h':cu X f g):cu X f (λx y H Q=>r x y H Q\/g x y H Q):=by
 intro pins s σ H x y v u Q I e d q
 rcases q with q | q
 .exact h pins s σ H x y v u Q I e d q
 .exact h' pins s σ H x y v u Q I e d q
def uJ (b) (h:op≠.In:=by decide) (h2:op≠.NotIn:=by decide):Ew op b=false:=by
 have e1:(op==CmpOp.In)=false:=by cases op <;> first | rfl | exact absurd rfl h
 have e2:(op==CmpOp.NotIn)=false:=by cases op <;> first | rfl | exact absurd rfl h2
 cases b <;> simp [Ew,e1,e2]
def M9 (f:cu X (EV op) r) (j:PE X a ta) (i:PE X b tb) (g:Ew op b=false):PE X (.Compare a [op] [b] pos) (r0 r ta tb):=by
 intro pins s σ H Q I h
 exact wpAny_Compare1 (zby j i I h λv u s2 x y H2 k e d q=>f pins s2 σ H2 x y v u Q k e d q) g
def zag (t:TE):TT:=λσ H Q=>t σ H λx H'=>∃ k,x=.bl k/\Q k H'
def MX (l:cu X (EV op) r) (o:PE X a ta) (n:PE X b tb) (m:Ew op b=false):PT X (.Compare a [op] [b] pos) (zag (r0 r ta tb)):=by
 intro pins s σ H Q I h
 refine wpAny_isTrue_Compare1 (thn (o pins s σ H _ I h) λv s1 ⟨x,H1,w,f,j⟩=>thn (n pins s1 σ H1 _ w j) λu s2 ⟨y,H2,q,d,i⟩ =>
  thn (l pins s2 σ H2 x y v u _ q f d i) λc s3 ⟨z,A,p,r3,k,e,g⟩=>?_) m
 subst e
 cases r3
 exact EB ⟨A,p,g⟩
def ku:(sizeLine:Nat) < 2 ^ 63:=by rw [Eo]; decide
def JB:cu X (Ig .Add) (λx y H Q=>∃ i j,x=.str i/\y=.str j/\i.length+j.length<=sizeLine/\Q (.str (i++j)) H):=by
 intro pins s σ H x y v u Q I e d h
 obtain ⟨i,j,rfl,rfl,hz,q⟩:=h
 obtain ⟨t,rfl⟩:=e
 obtain ⟨t',rfl⟩:=d
 exact add_str (λt' tk=>⟨.str (i++j),H,I.tok _,⟨_,rfl⟩,q⟩) hz
def kF (r:yS [x] us):∃ u,us=[u]/\yO x u:=by
 cases r with
 | cons e d=>cases d; exact ⟨_,rfl,e⟩
def BO (r:yS [x,y] us):∃ u d,us=[u,d]/\yO x u/\yO y d:=by
 cases r with
 | cons g f =>
  cases f with
  | cons r3 e=>cases e; exact ⟨_,_,rfl,g,r3⟩
def jJ (e:X.calm=true):wU X (.builtin "max") (λxs H Q=>∃ i j,xs=[.int i,.int j]/\Q (.int (if j > i then j else i)) H):=by
 intro pins s σ H xs us Q I r h
 obtain ⟨i,j,rfl,q⟩:=h
 obtain ⟨u,f,rfl,⟨t,rfl⟩,⟨t',rfl⟩⟩:=BO r
 refine max_two_ints (I.ok.hd e) λh' tk k=>⟨_,H,I.kept k,?_,q⟩
 by_cases d:j > i
 .rw [if_pos d,if_pos d]; exact ⟨_,rfl⟩
 .rw [if_neg d,if_neg d]; exact ⟨_,rfl⟩
def Yg (e:X.calm=true):wU X (.builtin "min") (λxs H Q=>∃ i j,xs=[.int i,.int j]/\Q (.int (if j < i then j else i)) H):=by
 intro pins s σ H xs us Q I r h
 obtain ⟨i,j,rfl,q⟩:=h
 obtain ⟨u,f,rfl,⟨t,rfl⟩,⟨t',rfl⟩⟩:=BO r
 refine min_two_ints (I.ok.hd e) λh' tk k=>⟨_,H,I.kept k,?_,q⟩
 by_cases d:j < i
 .rw [if_pos d,if_pos d]; exact ⟨_,rfl⟩
 .rw [if_neg d,if_neg d]; exact ⟨_,rfl⟩
def Vx:wU X (.type "int") (λxs H Q=>(∃ i,xs=[.int i]/\Q (.int i) H)\/∃ k,xs=[.bl k]/\Q (.int (if k then 1 else 0)) H):=by
 intro pins s σ H xs us Q I r h
 rcases h with ⟨i,rfl,q⟩ | ⟨k,rfl,q⟩
 .obtain ⟨u,rfl,t,rfl⟩:=kF r
  exact call_int_int ⟨.int i,H,I,⟨_,rfl⟩,q⟩
 .obtain ⟨u,rfl,d⟩:=kF r
  cases d
  exact call_int_bool ⟨.int (if k then 1 else 0),H,I.tok _,⟨_,rfl⟩,q⟩
end
section
variable {prog:Ej} {w:Ey} {A:Around} {E:Value->Shared->Prop} {s:Shared} {K:A6} {x dx C f:Addr} {mA:Str->Option Value} {name:Str} {v:Value}
end
section
variable {P:Ej} {w:Ey} {H H':Hp} {h h':Heap} {a C dx:Addr} {fs fs':List (Str×V)}
end
section
variable {X:Cx} {pins:List (Addr×Obj)} {σ:St} {H:Hp} {s:Shared} {a C dx:Addr} {fs:List (Str×V)} {f:Str} {v:V} {A:Around} {E:Value->Shared->Prop}
end
section
variable {X:Cx} {o e value:Expr} {f:Str} {pos pos' tpos:Pos} {ta tv:TE}
end
section
variable {X:Cx} {pins:List (Addr×Obj)} {σ:St} {H:Hp} {s:Shared} {A:Around} {E:Value->Shared->Prop} {Q:Value->Shared->Prop} {c:Value} {b:Bool}
end
structure Room (k:Nat) (A:Around):Prop where
 hd:A.handled=none
 dp:A.depth+3 * k+5 < recursionLimit
 un:A.units+16 * k+200 < IE
def Room.mono (r:Room k A) (h:j<=k):Room j A:=⟨r.hd,by have:=r.dp; omega,by have:=r.un; omega⟩
def Room.deeper (r:Room (k+1) A) (env):Room k (A.deeper env) :=
 ⟨r.hd,by have:=r.dp; show A.depth+1+3 * k+5 < _; omega,by have:=r.un; show A.units+3+16 * k+200 < _; omega⟩
def Room.depth (r:Room k A):A.depth < recursionLimit:=by have:=r.dp; omega
def zb6:TA:=λ_ H Q=>Q [] H
def zao (ta:TE) (a:TA):TA:=λσ H Q=>ta σ H λx H1=>a σ H1 λxs H2=>Q (x :: xs) H2
section
variable {X:Cx} {e:Expr} {es:List Expr} {te:TE} {t:TA} {pos:Pos}
def xx:PA X [] zb6:=λ_ _ _ _ H Q I h=>Calls.spliced_nil ⟨[],H,I,.nil,h⟩
def z8 (i:PE X e te) (g:PA X es t) (f:A7 (e :: es) X.env=(false,eval e X.env) :: A7 es X.env:=by rfl):PA X (e :: es) (zao te t):=by
 intro pos pins s σ H Q I h
 rw [f]
 show A_ _ _ (spliced ((false,eval e X.env) :: EU pos (A7 es X.env))) _ _ s
 refine Calls.spliced_cons (thn (i pins s σ H _ I h) λu s1 ⟨x,H1,k,b,d⟩=>?_)
 exact thn (g pos pins s1 σ H1 _ k d) λus s2 ⟨xs,H2,j,a,c⟩=>⟨x :: xs,H2,j,.cons b a,c⟩
def zc3 (t:TA):TE:=λσ H Q=>t σ H λxs H1=>xs.length<=sizeLine/\∀ p,H1 p=none->Q (.ref p) (upd H1 p (.tup xs))
def zc8 (t:TA):TE:=λσ H Q=>t σ H λxs H1=>xs.length<=sizeLine/\∀ p,H1 p=none->Q (.ref p) (upd H1 p (.lst xs))
def WM {c} (h:PA X es t):PE X (.Tuple es c pos) (zc3 t):=by
 intro pins s σ H Q I d
 refine wpAny_Tuple_spliced (thn (h pos pins s σ H _ I d) λus s1 ⟨xs,H1,a,r,z,q⟩=>⟨by rw [<- r.length]; exact z,?_⟩)
 have f:H1 s1.heap.objs.size=none:=a.hok.fresh (aM _)
 refine ⟨.ref s1.heap.objs.size,upd H1 s1.heap.objs.size (.tup xs),a.laid (t':=s1.toks) (λb u e=>tz _ e) (aM _) ?_,rfl,q _ f⟩
 exact ⟨z,us,r,⟨_,AC _ rfl,rfl,_,rfl⟩⟩
def RU (h:PA X es t):PE X (.List es pos) (zc8 t):=by
 intro pins s σ H Q I c
 refine wpAny_List_spliced (thn (h pos pins s σ H _ I c) λus s1 ⟨xs,H1,a,r,z,q⟩=>⟨by rw [<- r.length]; exact z,?_⟩)
 have d:H1 s1.heap.objs.size=none:=a.hok.fresh (aM _)
 refine ⟨.ref s1.heap.objs.size,upd H1 s1.heap.objs.size (.lst xs),a.laid (t':=s1.toks) (λb u e=>tz _ e) (aM _) ?_,rfl,q _ d⟩
 exact ⟨z,us,0,r,AC _ rfl⟩
end
abbrev Sp:=List V->Hp->VK->XK->Prop
abbrev mO:=List Env->Hp->Shared->XK->Value->Shared->Prop
structure Env0 (P:Ej) (w:Ey) (K:A6) (mg:Str->Option Value) (base:Heap) (A:Around) (outer:List Env) (s:Shared) (H:Hp):Prop where
 frames:A.frames=some outer
 mod:Mod K mg base
 bs:∀ b o,base.get? b=some o->s.heap.get? b=some o/\H b=none
 bsz:base.objs.size<=s.heap.objs.size
 funs:s.heap.FunFrames base outer
 frf:∀ b∈dz outer,H b=none
 hok:cz P w H s.heap
 bare:AllBare s.gens
def CE (outer:List Env) (P:Ej) (w:Ey) (H:Hp) (s:Shared) (Q:VK) (u:Value) (s':Shared):Prop :=
 ∃ v H',s'.os=s.os/\AllBare s'.gens/\Un (dz outer) [] H H' s.heap s'.heap/\cz P w H' s'.heap/\yO v u/\Q v H'
def CR (CX:mO) (outer:List Env) (P:Ej) (w:Ey) (H:Hp) (s:Shared) (Q:VK) (E:XK) (r:Result) (s':Shared):Prop :=
 match r with
 | .ok (.ret u)=>CE outer P w H s Q u s'
 | .ok _=>False
 | .error e=>CX outer H s E e s'
structure FnOk (P:Ej) (w:Ey) (K:A6) (mg:Str->Option Value) (base:Heap) (CX:mO) (k:Nat) (f:Addr) (fd:Ih) (ps:List Str) (sp:Sp):Prop where
 len:∀ vs H Q E,sp vs H Q E->vs.length=ps.length
 run:∀ (A:Around) (outer:List Env) (s:Shared) (H:Hp) (args:Args) (us:List Value) (vs:List V) (Q:VK) (E:XK),Room k A->Env0 P w K mg base A outer s H->BindsTo s fd args (ps.zip us)->yS vs us->sp vs H Q E →
  codeAny (Ec P w) A (.call (.ref f) args) (CR CX outer P w H s Q E) s
section
variable {X:Cx} {pins:List (Addr×Obj)} {σ:St} {H:Hp} {s s':Shared}
def Inv.env0 (I:Inv X pins σ H s):Env0 X.prog X.w X.K X.mg X.base X.A X.stack s H :=
 ⟨I.ok.frames,I.ok.mod,I.bs,fV I.ok.bsz I.sz,I.stack,I.stkFree,I.hok,I.bare⟩
def Inv.after (I:Inv X pins σ H s) (h:CE X.stack X.prog X.w H s Q u s'):EP X pins σ Q u s':=by
 obtain ⟨v,H',os,bare,un,hok,r,q⟩:=h
 obtain ⟨hh,g,d,t,a⟩:=s'
 obtain rfl:a=s.os:=os
 exact ⟨v,H',I.call (h':=hh) (g':=g) (d':=d) (t':=t) (ch:=[]) un hok bare (λb z=>absurd z (by simp)),r,q⟩
end
def zap (sp:Sp) (nJ:List V) (E:XK) (t:TA):TE:=λσ H Q=>t σ H λvs H1=>sp (vs++nJ) H1 Q E
def Wg (K:A6) (fd:Ih) (ps:List Str) (ds:List Value):Prop :=
 ∀ (s:Shared) (us:List Value),K.In s.heap->(us++ds).length=ps.length->BindsTo s fd ⟨us,[]⟩ (ps.zip (us++ds))
def Wg.all {K:A6} (h:∀ us:List Value,us.length=ps.length->bindArgs fd ⟨us,[]⟩=pure (ps.zip us)):Wg K fd ps []:=λs us _ a=>by
 rw [bx] at a ⊢
 exact .of_eq (h us a)
def Je (CX:mO) (X:Cx) (E:XK):Prop:=∀ (pins:List (Addr×Obj)) (σ:St) (H:Hp) (s:Shared) (e:Value) (s':Shared),Inv X pins σ H s->CX X.stack H s E e s'->X.xe e s'
section
variable {X:Cx} {CX:mO} {k:Nat} {f C:Addr} {fd:Ih} {ps:List Str} {sp:Sp} {nJ:List V} {ds:List Value} {E:XK} {x m:Str} {p pos apos:Pos} {e o:Expr} {es:List Expr} {ta:TE} {t:TA}
def RA  {σ:St} (F:FnOk X.prog X.w X.K X.mg X.base CX k f fd ps sp) (d:Room k X.A) (i:Wg X.K fd ps ds) (hd:yS nJ ds) (c:Je CX X E)
  (I:Inv X pins σ H s) (r:yS vs us) (h:sp (vs++nJ) H Q E):A_ (Ec X.prog X.w) X.A (call (.ref f) us) (EP X pins σ Q) X.xe s:=by
 have b:yS (vs++nJ) (us++ds):=r.append hd
 have g:(us++ds).length=ps.length:=by rw [<- b.length]; exact F.len _ _ _ _ h
 refine wpAny_call (codeAny_mono (F.run X.A X.stack s H ⟨us,[]⟩ (us++ds) (vs++nJ) Q E d I.env0 (i s us I.kIn g) b h) λr s' a=>?_)
 cases r with
 | error e=>exact c pins σ H s e s' I a
 | ok j =>
  cases j with
  | ret u=>exact I.after a
  | next=>exact E2 a
  | brk=>exact E2 a
  | cont=>exact E2 a
def Gb (F:FnOk X.prog X.w X.K X.mg X.base CX k f fd ps sp) (d:Room k X.A) (hg:Gl X x) (g:X.mg x=some (.ref f)) (i:W.keepIn X.K (.ref f)=true) (l:Wg X.K fd ps ds) (hd:yS nJ ds) (c:Je CX X E)
  (n:PA X (e :: es) t) (a:(x==("__debug__":Str))=false:=by decide) (j:A7 (e :: es) X.env=(false,eval e X.env) :: A7 es X.env:=by rfl) (u:(EU pos (A7 es X.env)).any (·.1)=false:=by rfl) :
  PE X (.Call (.Name x p) (e :: es) [] pos) (zap sp nJ E t):=by
 intro pins s σ H Q I h
 refine Ld (ZW I hg g ?_ a)
 refine PySem.W.callWith_K (h₀:=X.base) I.ok.mod.kin i (thn (n pos pins s σ H _ I h) λus s1 ⟨vs,H1,b,r,q⟩=>⟨b.kIn,?_⟩) j u
 exact RA F d l hd c b r q
end
section
variable {X:Cx} {CX:mO} {k:Nat} {f C:Addr} {fd:Ih} {ps ks:List Str} {sp:Sp} {E:XK} {x m:Str} {p pos apos kpos:Pos} {e o:Expr} {es:List Expr} {kws:List Lz} {te ta:TE} {t tk:TA} {nm:Option Str}
variable {g:List Value->List Value->List Value} {gV:List V->List V->List V}
end
structure FnScope (N P:List Str) (sc:Scope):Prop where
 kind:sc.kind=.function
 co:sc.isCoroutine=false
 gen:sc.isGenerator=false
 nd:N.Nodup
 pre:N.take P.length=P
 par:∀ x∈P,sc.names.lookup x=some .local\/sc.names.lookup x=some .cell
 nofree:∀ y∈sc.names,y.2≠.free
theorem VB {kindOf:Str->Option NameKind}:∀ {binds:List (Str×Value)} {m:Str->Option Value},(∀ v,(x,v)∉binds)->bindL kindOf binds m x=m x
 | [],_,_=>rfl
 | (n,v) :: r,m,h=>by
  unfold bindL
  rw [VB λw a=>h w (aX _ a)]
  split
  .have:x≠n:=by rintro rfl; exact h v aN
   simp [this]
  .rfl
theorem VD {kindOf:Str->Option NameKind}:∀ {binds:List (Str×Value)} {m:Str->Option Value},(∀ v,(x,v)∉binds)->bindC kindOf binds m x=m x
 | [],_,_=>rfl
 | (n,v) :: r,m,h=>by
  unfold bindC
  rw [VD λw a=>h w (aX _ a)]
  split
  .rfl
  .have:x≠n:=by rintro rfl; exact h v aN
   simp [this]
theorem VC {kindOf:Str->Option NameKind}:∀ {P:List Str} {vs:List Value} {i:Nat} {m:Str->Option Value},P.Nodup->P[i]? = some x->vs[i]? = some v->kindOf x=some .local →
  bindL kindOf (P.zip vs) m x=some v
 | [],_,_,_,_,h,_,_=>by simp at h
 | _ :: _,[],_,_,_,_,h,_=>by simp at h
 | p :: P,w :: vs,0,m,nd,h1,h2,a=>by
  simp at h1 h2; subst h1; subst h2
  show bindL kindOf ((p,w) :: P.zip vs) m p=_
  unfold bindL
  rw [VB λv b=>(hG.mp nd).1 (List.of_mem_zip b).1,if_pos a]
  simp
 | p :: P,w :: vs,i+1,m,nd,h1,h2,a=>by
  show bindL kindOf ((p,w) :: P.zip vs) m x=_
  unfold bindL
  exact VC (i:=i) (hG.mp nd).2 (by simpa using h1) (by simpa using h2) a
theorem VE {kindOf:Str->Option NameKind}:∀ {P:List Str} {vs:List Value} {i:Nat} {m:Str->Option Value},P.Nodup->P[i]? = some x->vs[i]? = some v->kindOf x≠some .local →
  bindC kindOf (P.zip vs) m x=some v
 | [],_,_,_,_,h,_,_=>by simp at h
 | _ :: _,[],_,_,_,_,h,_=>by simp at h
 | p :: P,w :: vs,0,m,nd,h1,h2,a=>by
  simp at h1 h2; subst h1; subst h2
  show bindC kindOf ((p,w) :: P.zip vs) m p=_
  unfold bindC
  rw [VD λv b=>(hG.mp nd).1 (List.of_mem_zip b).1,if_neg a]
  simp
 | p :: P,w :: vs,i+1,m,nd,h1,h2,a=>by
  show bindC kindOf ((p,w) :: P.zip vs) m x=_
  unfold bindC
  exact VE (i:=i) (hG.mp nd).2 (by simpa using h1) (by simpa using h2) a
def start (N:List Str) (vs:List V):St:=vs.map some++aF (N.length - vs.length) none
def Wh (CX:mO) (P:Ej) (w:Ey) (K:A6) (mg:Str->Option Value) (base:Heap) (N:List Str) (qual:Str) (scope:Scope) (f:Addr) (a:Value) (A:Around) (outer:List Env) (s:Shared) (H:Hp) (E:XK):Cx where
 prog:=P
 w:=w
 K:=K
 mg:=mg
 base:=base
 A:=A.deeper (envOfC qual scope s.heap.objs.size f a)
 N:=N
 s₀:=s
 H₀:=H
 env:=envOfC qual scope s.heap.objs.size f a
 outer:=outer
 stack:=envOfC qual scope s.heap.objs.size f a :: outer
 ex:=[]
 calm:=true
 fn:=λ_=>true
 pn:=[]
 xe:=λe s'=>A_ (Ec P w) (A.deeper (envOfC qual scope s.heap.objs.size f a)) (leaving (envOfC qual scope s.heap.objs.size f a) e) (λ_ b=>CX outer H s E e b) (λc b=>CX outer H s E c b) s'
def Q5 {sc:Scope} (h:sc.names.lookup x=some .cell):∃ c,(cellsFrom n sc.names []).lookup x=some c:=by
 have q:=PySem.W.cellsFrom_some sc.names n [] (.inl h)
 exact Option.isSome_iff_exists.mp q
def GW    {K:A6}
  (S:FnScope N ps scope) (hd:A.handled=none) (d:Env0 P w K mg base A outer s H) (G:vs.length=ps.length) (r:yS vs us)
  (x:InCallC s s.heap.objs.size (bindL (envOfC qual scope s.heap.objs.size f cd).kindOf (ps.zip us) λ_=>none) (cellsFrom (s.heap.objs.size+1) scope.names []) (bindC (envOfC qual scope s.heap.objs.size f cd).kindOf (ps.zip us) λ_=>none) s1) :
  Inv (Wh CX P w K mg base N qual scope f cd A outer s H E) [] (start N vs) H s1:=by
 have J:ps.length<=N.length:=by have:=congrArg IZ S.pre; rw [oI] at this; omega
 obtain ⟨h1,tk,rfl,B⟩:=x.done
 have m:∀ b:Addr,b∉(Wh CX P w K mg base N qual scope f cd A outer s H E).ex:=λb z=>absurd (show b∈([]:List Addr) from z) (by simp)
 refine ⟨⟨d.mod,S.kind,rfl,rfl,aM _,λy z c h1 h2=>?_,λy g=>?_,λy c _ h=>?_,λ_=>hd,Around.frames_deeper d.frames,.inr ⟨rfl,rfl⟩,λb z=>absurd z (m b),d.bs,d.bsz,λb _ _=>m b,λb z=>absurd z (m b),d.funs,d.frf⟩,
  rfl,d.bare,Un.kept B,⟨_,x.toInCall.ns,λi y v h1 h2 I=>?_⟩,λy c h=>⟨_,x.cell y c h⟩,d.hok.fresh (aM _),λy c h=>?_,λp l=>absurd (show p∈([]:List (Addr×Obj)) from l) (by simp),d.hok.kept B,?_⟩
 .exact name_of_addr x.apart (Ip h1) (Ip h2)
 .have g:scope.names.lookup y=some .cell\/scope.names.lookup y=some .free:=g
  rcases g with g | g
  .exact Q5 g
  .exact absurd rfl (S.nofree _ (Ip g))
 .exact oE (x.above y c (Ip h))
 .have hi:i < vs.length:=by
   unfold start at h2
   by_cases hi:i < vs.length
   .exact hi
   .rw [fX (by simpa using hi)] at h2
    rw [nI] at h2
    split at h2 <;> cases h2
  have F:vs[i]? = some v:=by
   unfold start at h2
   rw [fE (by simpa using hi),cP] at h2
   cases e:vs[i]? with
   | none=>rw [e] at h2; cases h2
   | some a=>rw [e] at h2; cases h2; rfl
  obtain ⟨u,o,C⟩:=r.get F
  have l:ps[i]? = some y:=by
   rw [<- S.pre,g4i (by omega)]; exact h1
  have j:ps.Nodup:=by rw [<- S.pre]; exact S.nd.sublist (List.take_sublist _ _)
  refine ⟨u,C,?_⟩
  rcases S.par y (gN l) with k | k
  .exact .inl ⟨k,VC j l o k⟩
  .obtain ⟨c,e⟩:=Q5 (n:=s.heap.objs.size+1) k
   refine .inr ⟨.inl k,c,e,?_⟩
   have q:=x.cell y c e
   rw [VE j l o (by show scope.names.lookup y≠_; rw [k]; decide)] at q
   exact q
 .exact d.hok.fresh (oE (x.above y c (Ip h)))
 .unfold start
  show _=N.length
  rw [aH,az,List.length_replicate]
  omega
def Tc    {K:A6} {m kV doc pm ar ct oc:Value}
       (lk:K.lookup f=some ⟨oc,od,.func (W.fnOf name qual params body scope m kV doc pm an ar ct),fK⟩) (l:W.codeIn K ar qual=true) (S:FnScope N ps scope)
    (len:∀ vs H Q E,sp vs H Q E->vs.length=ps.length)
    (a:∀ (A:Around) (outer:List Env) (s:Shared) (H:Hp) (vs:List V) (Q:VK) (E:XK),Room k (A.deeper (envOfC qual scope s.heap.objs.size f ar))->sp vs H Q E →
      ∃ t,fG (Wh CX P w K mg base N qual scope f ar A outer s H E) body t/\t { nx:=λ_ H'=>Q .non H',rt:=Q } (start N vs) H) :
    FnOk P w K mg base CX (k+1) f (W.fnOf name qual params body scope m kV doc pm an ar ct) ps sp:=by
  refine ⟨len,λA outer s H args us vs Q E j g G r d=>?_⟩
  have C:=len _ _ _ _ d
  have p:K.In s.heap:=g.mod.kin.keeps λb o e=>(g.bs b o e).1
  have i:s.heap.NoLimit:=g.mod.nolimit.keeps λb o e=>(g.bs b o e).1
  have M:∀ y∈ps.zip us,scope.names.lookup y.1=some .local\/(scope.names.lookup y.1=some .cell/\((cellsFrom (s.heap.objs.size+1) scope.names []).lookup y.1).isSome=true):=λ⟨n,v⟩ z=>by
    rcases S.par n (List.of_mem_zip z).1 with q | q
    · exact .inl q
    · exact .inr ⟨q,PySem.W.cellsFrom_some _ _ _ (.inl q)⟩
  refine codeAny_call_function j.depth (p _ _ lk) rfl S.co S.gen rfl (PySem.W.codeRec_of p l) (G _ _ _ _ ?_)
  refine wpAny_newFunctionEnv_cells S.kind M λenv F s1 x=>?_
  subst F
  refine ⟨i.keeps x.toInCall.keep,codeAny_func ?_⟩
  obtain ⟨t,ht,B⟩:=a A outer s H vs Q E (j.deeper _) d
  have I:Inv (Wh CX P w K mg base N qual scope f ar A outer s H E) [] (start N vs) H s1:=GW S j.hd g C r x
  refine Ef (ht [] s1 (start N vs) H _ I B) (λL s' c=>?_) λe s' c=>c
  have fin:∀ {aC:St} {H':Hp} {v:V} {u:Value},Inv (Wh CX P w K mg base N qual scope f ar A outer s H E) [] aC H' s'->yO v u->Q v H'->CE outer P w H s Q u s' :=
    λ{aC H' v u} J h q=>⟨v,H',J.os,J.bare,J.base,J.hok,h,q⟩
  cases L with
  | ret u =>
    obtain ⟨v,aC,H',J,h,q⟩:=c
    exact fin J h q
  | next =>
    obtain ⟨aC,H',J,q⟩:=c
    exact fin (v:=V.non) (u:=EH) J rfl q
  | brk =>
    obtain ⟨_,_,_,q⟩:=c
    exact E2 q
  | cont =>
    obtain ⟨_,_,_,q⟩:=c
    exact E2 q
section
variable {X:Cx} {x:Str} {p pos:Pos} {e:Expr} {es:List Expr} {t:TA} {id T:String} {r:List V->Hp->VK->Prop}
def tCB (r:List V->Hp->VK->Prop) (t:TA):TE:=λσ H Q=>t σ H λvs H1=>r vs H1 Q
def qc (j:wU X (.builtin id) r) (hg:Gl X x) (g:X.mg x=none) (d:EM x=some (.builtin id)) (k:PA X (e :: es) t) (f:x≠"__name__":=by decide) (a:(x==("__debug__":Str))=false:=by decide)
  (i:A7 (e :: es) X.env=(false,eval e X.env) :: A7 es X.env:=by rfl) (l:(EU pos (A7 es X.env)).any (·.1)=false:=by rfl):PE X (.Call (.Name x p) (e :: es) [] pos) (tCB r t):=by
 intro pins s σ H Q I h
 refine Ld (ZX I hg g d ?_ f a)
 exact PyProof.Rows.callWith_builtin1 (thn (k pos pins s σ H _ I h) λus s1 ⟨vs,H1,m,b,c⟩=>j pins s1 σ H1 vs us Q m b c) i l
def wI (j:wU X (.type T) r) (hg:Gl X x) (g:X.mg x=none) (d:EM x=some (.type T)) (k:PA X (e :: es) t) (f:x≠"__name__":=by decide) (a:(x==("__debug__":Str))=false:=by decide)
  (i:A7 (e :: es) X.env=(false,eval e X.env) :: A7 es X.env:=by rfl) (l:(EU pos (A7 es X.env)).any (·.1)=false:=by rfl):PE X (.Call (.Name x p) (e :: es) [] pos) (tCB r t):=by
 intro pins s σ H Q I h
 refine Ld (ZX I hg g d ?_ f a)
 exact EO (thn (k pos pins s σ H _ I h) λus s1 ⟨vs,H1,m,b,c⟩=>j pins s1 σ H1 vs us Q m b c) i l
end
end L2
namespace HT
open PySem PyProof.Rows
section
open PySem.SeqAt
open PySem.AutoSeq1 (wpAny_loadPart')
open PySem.MeetsSeq PySem.MeetsSeq2 PySem.MeetsSeq3
end
section
variable {prog:Ej} {w:Ey} {A:Around} {E:Value->Shared->Prop} {s:Shared}
def cat_tup (ht:IsTup s.heap t vs.toArray) (l:IsTup s.heap b ws.toArray) (i:vs≠[])
  (h1:ws=[]->Q (.ref t) s) (h2:ws≠[]->Q (.ref s.heap.objs.size) { s with heap:=s.heap.push { cls:=.type "tuple",data:=.seq (vs++ws).toArray } })
  (hsz:vs.length+ws.length<=sizeLine):A_ (Ec prog w) A (Ig .Add (.ref t) (.ref b)) Q E s:=by
 obtain ⟨⟨cls,dd,data,sl⟩,d,j,n,hd⟩:=id ht
 obtain ⟨⟨m,g,data2,k⟩,c,f,h,a⟩:=id l
 simp only at j hd f a
 subst j hd f a
 have e:vs.toArray++ws.toArray=(vs++ws).toArray:=by simp
 by_cases hw:ws=[]
 .exact concat_meets ⟨_,d,rfl⟩ ⟨_,c,rfl⟩ noFill_tuple_add seq_tuple_add LH LA (Ll _ _)
   (tuple_addW1 t b vs.toArray ws.toArray n h dd g sl k (by simpa using i) (by simp [hw])) ⟨d,c,h1 hw⟩
 .refine concat_meets ⟨_,d,rfl⟩ ⟨_,c,rfl⟩ noFill_tuple_add seq_tuple_add LH LA (Ll _ _)
   (tuple_addW2 t b vs.toArray ws.toArray n h dd g sl k (by simpa using i) (by simpa using hw) (by rw [cD,cD]; exact hsz)) ⟨d,c,?_⟩
  rw [e]
  exact h2 hw
def sIx (n d:Nat):Option Int->Nat
 | none=>d
 | some v=>if v < 0 then (v+(n:Int)).toNat else min v.toNat n
def sIx_none (n d):sIx n d none=d:=rfl
def sIx_nat (n d k:Nat):sIx n d (some (k:Int))=min k n:=by
 show (if (k:Int) < 0 then ((k:Int)+(n:Int)).toNat else min (k:Int).toNat n)=min k n
 rw [if_neg (by omega),Ii]
def Rz (n d) (hd:d<=n) (o:Option Int):sIx n d o<=n:=by
 cases o with
 | none=>exact hd
 | some v =>
  show (if v < 0 then (v+(n:Int)).toNat else min v.toNat n)<=n
  by_cases a:v < 0
  .rw [if_pos a]; omega
  .rw [if_neg a]; exact Nat.min_le_right _ _
def Bc (v) (n d:Nat):(if v < 0 then max (v+(n:Int)) 0 else min v (n:Int))=((sIx n d (some v):Nat):Int):=by
 show (if v < 0 then max (v+(n:Int)) 0 else min v (n:Int))=(((if v < 0 then (v+(n:Int)).toNat else min v.toNat n):Nat):Int)
 by_cases a:v < 0
 .simp only [if_pos a]; omega
 .simp only [if_neg a]; omega
def J7 (lo hi) (n:Nat):Li lo hi 1 (n:Int)=(((sIx n 0 lo:Nat):Int),((sIx n n hi:Nat):Int)):=by
 have h1:¬ ((1:Int) < 0):=by omega
 unfold Li
 simp only [h1,if_false]
 refine IA ?_ ?_
 .cases lo with
  | none=>rfl
  | some v=>exact Bc v n 0
 .cases hi with
  | none=>rfl
  | some v=>exact Bc v n n
def Jz (i j:Nat):Im (i:Int) (j:Int) 1=j - i:=by
 unfold Im
 have h1:(1:Int) > 0:=by omega
 simp only [h1,if_true,Int.ediv_one]
 split <;> omega
def YL (p:IsPart v o) (h:Q o s):A_ (Ec prog w) A (Builtin.Slice.slicePartIndex v) Q E s:=by
 cases p with
 | none=>exact slicePart_none h
 | int i t=>exact slicePart_int h
def sliceApplied_gen   {lo hi:Option Int} {Q:Int×Int×Nat->Shared->Prop} (g:s.heap.IsSliceOf sl d c .none) (f:IsPart d lo) (e:IsPart c hi)
  (h:Q (((sIx n 0 lo:Nat):Int),1,sIx n n hi - sIx n 0 lo) s):A_ (Ec prog w) A (Builtin.Slice.sliceApplied (.ref sl) (pure (n:Int))) Q E s:=by
 obtain ⟨os,a,i,b⟩:=id g
 unfold Builtin.Slice.sliceApplied Builtin.Slice.sliceFields
 refine ls (ls (Ee a b (x:=d) rfl (ls (Ee a b (x:=c) rfl (ls (Ee a b (x:=.none) rfl (u0 ?_)))))))
 refine ls (slicePart_none ?_)
 show A_ _ _ (if ((1:Int)==0)=true then _ else _) _ _ s
 rw [if_neg (by decide)]
 refine ls (YL f (ls (YL e (ls (u0 ?_)))))
 show A_ _ _ (match Li lo hi 1 (n:Int) with | (lo,hi)=>pure (lo,(1:Int),Im lo hi 1)) _ _ s
 rw [J7 lo hi n]
 show A_ _ _ (pure (((sIx n 0 lo:Nat):Int),(1:Int),Im ((sIx n 0 lo:Nat):Int) ((sIx n n hi:Nat):Int) 1)) _ _ s
 rw [Jz]
 exact u0 h
def Cs (xs:Array Value) (i k:Nat):((aw k).filterMap λ(m:Nat)=>xs[((i:Int)+(m:Int) * 1).toNat]?).toArray=((xs.toList.drop i).take k).toArray:=by
 have e:(λ(m:Nat)=>xs[((i:Int)+(m:Int) * 1).toNat]?)=λm=>xs[i+m]? := by
  funext m
  have:((i:Int)+(m:Int) * 1).toNat=i+m:=by omega
  rw [this]
 rw [e]
 have:=pick_run xs i k
 rw [List.filterMap_map] at this
 have e2:((λx=>xs[x]?) ∘ λx=>i+x)=λm=>xs[i+m]? := rfl
 rw [e2] at this
 rw [this]
def getItem_tuple_cut    {lo hi:Option Int} (ht:IsTup s.heap t items) (e:s.heap.IsSliceOf sl g f .none) (j:IsPart g lo) (i:IsPart f hi)
  (l:¬ (sIx items.size 0 lo=0/\sIx items.size items.size hi=items.size))
  (h:Q (.ref s.heap.objs.size) { s with heap:=s.heap.push { cls:=.type "tuple",data:=.seq ((items.toList.drop (sIx items.size 0 lo)).take (sIx items.size items.size hi - sIx items.size 0 lo)).toArray } })
  (hsz:items.size<=sizeLine):A_ (Ec prog w) A (getItem (.ref t) (.ref sl)) Q E s:=by
 have a:sizeOk (.seq ((items.toList.drop (sIx items.size 0 lo)).take (sIx items.size items.size hi - sIx items.size 0 lo)).toArray):=by
  show ((items.toList.drop (sIx items.size 0 lo)).take (sIx items.size items.size hi - sIx items.size 0 lo)).toArray.size<=sizeLine
  rw [cD,oI,LF,IX]
  omega
 have p:sIx items.size items.size hi<=items.size:=Rz _ _ (aM _) hi
 obtain ⟨os,k,c,r⟩:=id e
 have d:s.TypeIs (.ref sl) "slice":=⟨os,k,c⟩
 unfold getItem
 try with_reducible refine EK ?_
 first | refine ls (u0 ?_) | skip
 refine ls (wpAny_sequenceKey ht.typeIs (by decide) ?_)
 refine ls (Eg (name:=EG "__getitem__") ht.typeIs Em
  (Ed Em ht.typeIs entry_tuple_getitem ?_ (args_tuple_getitem _ _)))
 show A_ _ _ (Lc (.ref t) >>= _) _ _ s
 refine ls (tupleItemsOf_ ht ?_)
 refine ls (wpAny_typeOf d ?_)
 rw [if_pos (by decide)]
 refine ls (sliceApplied_gen e j i ?_)
 have b:¬ ((((sIx items.size 0 lo:Nat):Int)==0&&(1:Int)==1&&(sIx items.size items.size hi - sIx items.size 0 lo)==items.size)=true):=by
  intro q
  rw [cO,cO] at q
  have o:((sIx items.size 0 lo:Nat):Int)=0:=eq_of_beq q.1.1
  have n:sIx items.size items.size hi - sIx items.size 0 lo=items.size:=eq_of_beq q.2
  exact l ⟨by omega,by omega⟩
 show A_ _ _ (if (((sIx items.size 0 lo:Nat):Int)==0&&(1:Int)==1&&(sIx items.size items.size hi - sIx items.size 0 lo)==items.size)=true then _ else _) _ _ s
 rw [if_neg b,Cs]
 first
  | exact ls (m:=Ir _) (Ep (u0 ⟨_,rfl,u0 h⟩) a)
  | exact ls (m:=Ir _) (Ep (ls (u0 (u0 ⟨_,rfl,u0 h⟩))) a)
  | exact ls (ls (m:=Ir _) (Ep (u0 (u0 ⟨_,rfl,u0 h⟩)) a))
  | exact ls (ls (m:=Ir _) (Ep (u0 ⟨_,rfl,u0 h⟩) a))
end
end HT
namespace L2
open PySem PySem.Spec PyProof.Rows
abbrev TO:=St->Hp->(Option Int->Hp->Prop)->Prop
def PO (X:Cx) (e:Option Expr) (t:TO):Prop :=
 ∀ (pins:List (Addr×Obj)) (s:Shared) (σ:St) (H:Hp) (Q:Option Int->Hp->Prop),Inv X pins σ H s->t σ H Q →
  A_ (Ec X.prog X.w) X.A (evalPart e X.env) (λu s'=>∃ o H',Inv X pins σ H' s'/\IsPart u o/\Q o H') X.xe s
def Mw:TO:=λ_ H Q=>Q none H
def zah (t:TE):TO:=λσ H Q=>t σ H λx H1=>∃ i,x=.int i/\Q (some i) H1
section
variable {X:Cx} {e:Expr} {te:TE} {lo hi:Option Expr} {tl th:TO} {pos p2:Pos}
def M6:PO X none Mw:=by
 intro pins s σ H Q I h
 rw [evalPart_none]
 exact u0 ⟨none,H,I,.none,h⟩
def M5 (h:PE X e te):PO X (some e) (zah te):=by
 intro pins s σ H Q I c
 rw [evalPart_some]
 refine thn (h pins s σ H _ I c) λu s1 ⟨x,H1,d,a,b⟩=>?_
 obtain ⟨i,rfl,q⟩:=b
 obtain ⟨t,rfl⟩:=a
 exact ⟨some i,H1,d,.int i t,q⟩
def nP (X:Cx) (r:V->Option Int->Option Int->Hp->VK->Prop):Prop :=
 ∀ (pins:List (Addr×Obj)) (s:Shared) (σ:St) (H:Hp) (x:V) (v b a:Value) (lo hi:Option Int) (sl:Addr) (Q:VK),Inv X pins σ H s->yO x v->s.heap.IsSliceOf sl b a .none->IsPart b lo->IsPart a hi->r x lo hi H Q →
  ∃ T id,typeLookup (.type T) "__getitem__"=pure (some (.builtin id))/\s.TypeIs v T/\A_ (Ec X.prog X.w) X.A (getItem v (.ref sl)) (EP X pins σ Q) X.xe s
def nP.or (h:nP X r) (h':nP X i):nP X (λx lo hi H Q=>r x lo hi H Q\/i x lo hi H Q):=by
 intro pins s σ H x v b a lo hi sl Q I c g f d q
 rcases q with q | q
 .exact h pins s σ H x v b a lo hi sl Q I c g f d q
 .exact h' pins s σ H x v b a lo hi sl Q I c g f d q
def tSl (r:V->Option Int->Option Int->Hp->VK->Prop) (te:TE) (tl th:TO):TE:=λσ H Q=>te σ H λx H1=>tl σ H1 λl H2=>th σ H2 λu a=>r x l u a Q
def Cv (o:nP X r) (w:PE X e te) (p:PO X lo tl) (n:PO X hi th):PE X (.Subscript e (.Slice lo hi none p2) pos) (tSl r te tl th):=by
 intro pins s σ H Q I h
 refine Subscript_ (thn (w pins s σ H _ I h) λv s1 ⟨x,H1,C,f,j⟩=>?_)
 refine wpAny_Slice (thn (p pins s1 σ H1 _ C j) λc s2 ⟨l,H2,B,m,i⟩=>thn (n pins s2 σ H2 _ B i) λa s3 ⟨u,d,A,k,g⟩=>?_)
 rw [evalPart_none]
 refine u0 ?_
 have z:Inv X pins σ d { s3 with heap:=s3.heap.push { cls:=.type "slice",data:=.fields #[c,a,.none] } }:=A.kept (t':=s3.toks) λb ob q=>tz _ q
 obtain ⟨T,id,y,ht,hg⟩:=o pins { s3 with heap:=s3.heap.push { cls:=.type "slice",data:=.fields #[c,a,.none] } } σ d x v c a l u s3.heap.objs.size Q z f (Heap.IsSliceOf.new ..) m k g
 show A_ (Ec X.prog X.w) X.A (subscriptTail e (.Slice lo hi none p2) v (.ref s3.heap.objs.size)) (EP X pins σ Q) X.xe { s3 with heap:=s3.heap.push { cls:=.type "slice",data:=.fields #[c,a,.none] } }
 exact tail_any (ops:=[.ref s3.heap.objs.size,v]) ht y hg (by with_unfolding_all rfl)
def HZ (xs:List V) (lo hi:Option Int):List V:=(xs.drop (HT.sIx xs.length 0 lo)).take (HT.sIx xs.length xs.length hi - HT.sIx xs.length 0 lo)
def Yd (xs) (lo hi:Option Int):(HZ xs lo hi).length<=xs.length:=by
 unfold HZ
 rw [oI,LF]
 omega
def zdl (K:A6):V->Option Int->Option Int->Hp->VK->Prop:=λx lo hi H Q=>∃ a xs,x=.ref a/\bF K H a xs ∧
 ¬ (HT.sIx xs.length 0 lo=0/\HT.sIx xs.length xs.length hi=xs.length)/\∀ p,H p=none->Q (.ref p) (upd H p (.tup (HZ xs lo hi)))
def Rn:nP X (zdl X.K):=by
 intro pins s σ H x v m l lo hi sl Q I d k g f h
 obtain ⟨a,xs,rfl,i,j,q⟩:=h
 cases d
 obtain ⟨af,r,ht,hz⟩:=I.tuple i
 have c:af.toArray.size=xs.length:=by rw [cD]; exact r.length.symm
 refine ⟨"tuple",_,Em.lookup,ht.typeIs,?_⟩
 refine HT.getItem_tuple_cut ht k g f (by rw [c]; exact j) ?_ (by rw [c]; exact hz)
 rw [c]
 refine ⟨.ref s.heap.objs.size,_,I.laid (t':=s.toks) (o:=.tup (HZ xs lo hi)) (λb ob q=>tz _ q) (aM _) ?_,rfl,q _ (I.hok.fresh (aM _))⟩
 exact ⟨fV (Yd xs lo hi) hz,_,(r.drop (HT.sIx xs.length 0 lo)).take (HT.sIx xs.length xs.length hi - HT.sIx xs.length 0 lo),IsTup.new _ _⟩
def za3 (K:A6):R2:=λx y H Q=>∃ a b xs ys,x=.ref a/\y=.ref b/\bF K H a xs/\bF K H b ys/\xs≠[]/\xs.length+ys.length<=sizeLine ∧
 (ys=[]->Q (.ref a) H)/\(ys≠[]->∀ p,H p=none->Q (.ref p) (upd H p (.tup (xs++ys))))
def yS.nil_iff (r:yS xs us):us=[]↔xs=[]:=by
 cases r with
 | nil=>simp
 | cons _ _=>simp
def Nh:cu X (Ig .Add) (za3 X.K):=by
 intro pins s σ H x y v u Q I g f h
 obtain ⟨a,b,xs,ys,rfl,rfl,n,m,l,hz,j,i⟩:=h
 cases g
 cases f
 obtain ⟨af,d,k,_⟩:=I.tuple n
 obtain ⟨p,c,p2,_⟩:=I.tuple m
 refine HT.cat_tup k p2 (λz=>l (d.nil_iff.mp z)) (λz=>⟨.ref a,H,I,rfl,j (c.nil_iff.mp z)⟩) (λz=>?_) (by rw [<- d.length,<- c.length]; exact hz)
 refine ⟨.ref s.heap.objs.size,_,I.laid (t':=s.toks) (o:=.tup (xs++ys)) (λb ob q=>tz _ q) (aM _) ?_,rfl,i (λw=>z (c.nil_iff.mpr w)) _ (I.hok.fresh (aM _))⟩
 exact ⟨by rw [aH]; exact hz,_,d.append c,IsTup.new _ _⟩
end
def dF (n:Nat) (i:Int):Option Nat:=if 0<=i then (if i < n then some i.toNat else none) else if -(n:Int)<=i then some (i+n).toNat else none
def atI {α:Type} (xs:List α) (i:Int):Option α:=(dF xs.length i).bind λj=>xs[j]?
def GS (h:dF n i=some j):seqIndex? i n=some j/\j < n /\ -(n:Int)<=i/\i < n:=by
 unfold dF at h
 by_cases h0:0<=i
 .rw [if_pos h0] at h
  by_cases h1:i < n
  .rw [if_pos h1] at h
   have e:i.toNat=j:=g3d.inj h
   exact ⟨by rw [seqIndex_of h0 h1,e],by omega,by omega,h1⟩
  .rw [if_neg h1] at h; cases h
 .rw [if_neg h0] at h
  by_cases h1 : -(n:Int)<=i
  .rw [if_pos h1] at h
   have e:(i+n).toNat=j:=g3d.inj h
   exact ⟨by rw [seqIndex_neg (by omega) h1,e],by omega,h1,by omega⟩
  .rw [if_neg h1] at h; cases h
def UM    {v:α} (h:atI xs i=some v):∃ j,seqIndex? i xs.length=some j/\xs[j]? = some v/\j < xs.length /\ -(xs.length:Int)<=i/\i < xs.length:=by
 unfold atI at h
 cases e:dF xs.length i with
 | none=>rw [e] at h; cases h
 | some j =>
  rw [e] at h
  obtain ⟨h1,h2,b,a⟩:=GS e
  exact ⟨j,h1,h,h2,b,a⟩
def vy   {j:Nat} {v:α} (h:xs[j]? = some v):atI xs (j:Int)=some v:=by
 have a:j < xs.length:=(dw.mp h).1
 have e:dF xs.length (j:Int)=some j:=by
  unfold dF
  rw [if_pos (by omega),if_pos (by omega)]; simp
 unfold atI; rw [e]; exact h
def UO (b:Expr):Prop:=∀ o i,subscripted b false o i=operate [o,i] (getItem o i)
def lC (X:Cx) (r:R2):Prop :=
 ∀ (value a:Expr) (pins:List (Addr×Obj)) (s:Shared) (σ:St) (H:Hp) (x y:V) (v u:Value) (Q:VK),Inv X pins σ H s->yO x v->yO y u->r x y H Q →
  subscripted a false v u=operate [v,u] (getItem v u)->A_ (Ec X.prog X.w) X.A (subscriptTail value a v u) (EP X pins σ Q) X.xe s
def MtR (X:Cx) (id:String) (r:V->List V->Hp->VK->Prop):Prop :=
 ∀ (pins:List (Addr×Obj)) (s:Shared) (σ:St) (H:Hp) (x:V) (xs:List V) (v:Value) (us:List Value) (Q:VK),Inv X pins σ H s->yO x v->yS xs us->r x xs H Q →
  A_ (Ec X.prog X.w) X.A (call (.builtin id) (v :: us)) (EP X pins σ Q) X.xe s
section
variable {X:Cx} {a b:Expr} {ta tb:TE} {pos:Pos}
def lC.or (h:lC X r) (h':lC X g):lC X (λx y H Q=>r x y H Q\/g x y H Q):=by
 intro value c pins s σ H x y v u Q I e d q f
 rcases q with q | q
 .exact h value c pins s σ H x y v u Q I e d q f
 .exact h' value c pins s σ H x y v u Q I e d q f
def za8 (f:lC X r) (i:PE X a ta) (g:PE X b tb) (e:UO b):PE X (.Subscript a b pos) (r0 r ta tb):=by
 intro pins s σ H Q I h
 exact Subscript_ (zby i g I h λv u s2 x y H2 j d c q=>f a b pins s2 σ H2 x y v u Q j d c q (e _ _))
def zck (K:A6):R2:=λx y H Q=>∃ p xs i v,x=.ref p/\y=.int i/\bC K H p xs/\atI xs i=some v/\Q v H
def zci (K:A6):R2:=λx y H Q=>∃ p xs i v,x=.ref p/\y=.int i/\bF K H p xs/\atI xs i=some v/\Q v H
def zcj:R2:=λx y H Q=>∃ z i c,x=.str z/\y=.int i/\z.length<=sizeLine/\atI z.cps.toList i=some c/\Q (.str ⟨#[c]⟩) H
def NZ:lC X (zck X.K):=by
 intro value c pins s σ H x y v u Q I m l h g
 obtain ⟨p,xs,i,z,rfl,rfl,n,A,q⟩:=h
 cases m
 obtain ⟨t,rfl⟩:=l
 obtain ⟨af,r,e,hz⟩:=I.list n
 obtain ⟨j,h1,h2,F,C,B⟩:=UM A
 obtain ⟨w,k,d⟩:=r.get h2
 have o:=r.length
 have E:=ku
 have fin:EP X pins σ Q w s:=⟨z,H,I,d,q⟩
 by_cases h0:0<=i
 .have f:i.toNat=j:=by
   rw [seqIndex_of h0 B] at h1
   exact g3d.inj h1
  exact item_listR e.isList h0 (by omega) (by rw [f]; simpa using k) fin g
 .have f:(i+(af.toArray.size:Int)).toNat=j:=by
   rw [seqIndex_neg (by omega) C] at h1
   rw [cD,<- o]
   exact g3d.inj h1
  exact subscriptTail_builtinR (x:=w) e.isList.typeIs slot_list_getitem.lookup
   (wpAny_getItem_list_neg (Q:=λr s'=>r=w/\EP X pins σ Q r s') e.isList (by omega) (by rw [cD] <;> omega) (by omega) (by rw [f]; simpa using k) ⟨rfl,fin⟩) g
def SZ:lC X (zci X.K):=by
 intro value c pins s σ H x y v u Q I g f h k
 obtain ⟨p,xs,i,z,rfl,rfl,l,n,q⟩:=h
 cases g
 obtain ⟨t,rfl⟩:=f
 obtain ⟨af,r,e,hz⟩:=I.tuple l
 obtain ⟨j,h1,h2,E,C,B⟩:=UM n
 obtain ⟨w,o,d⟩:=r.get h2
 have m:=r.length
 have A:=ku
 have fin:EP X pins σ Q w s:=⟨z,H,I,d,q⟩
 exact subscriptTail_builtinR (x:=w) e.typeIs slot_tuple_getitem.lookup
  (getItem_tuple (j:=j) (Q:=λr s'=>r=w/\EP X pins σ Q r s') e (by omega) (by omega) (by rw [cD,<- m]; exact h1) (by simpa using o) ⟨rfl,fin⟩) k
def S0:lC X zcj:=by
 intro value d pins s σ H x y v u Q I f e h g
 obtain ⟨z,i,c,rfl,rfl,hz,l,q⟩:=h
 obtain ⟨t,rfl⟩:=f
 obtain ⟨t',rfl⟩:=e
 obtain ⟨j,h1,h2,p,n,m⟩:=UM l
 have k:z.cps.toList.length=z.length:=by simp [Str.length]
 rw [k] at h1 n m
 have o:=ku
 exact tail_any (typeIs_str s z t) slot_str_getitem.lookup (getItem_str (c:=c) (by
  have e1:decide (i < -(2 ^ 63:Int))=false:=decide_eq_false (by omega)
  have e2:decide (i ≥ 2 ^ 63)=false:=decide_eq_false (by omega)
  rw [e1,e2,Bool.or_false]) (by rw [h1]; simpa using h2) ⟨.str ⟨#[c]⟩,H,I.tok _,⟨_,rfl⟩,q⟩) g
def rIx (K:A6):R2:=λx y H Q=>zck K x y H Q\/zci K x y H Q\/zcj x y H Q
def S1:lC X (rIx X.K):=NZ.or (SZ.or S0)
def JG (af:List Value) (n j:Nat) (u:Value):Obj.mapSeq (·.setIfInBounds j u) { cls:=.type "list",data:=.seq af.toArray n }={ cls:=.type "list",data:=.seq (af.set j u).toArray n }:=by
 simp [Obj.mapSeq]
def Inv.lst  {σ:St} (I:Inv X pins σ H s) (h:H p=some (.lst xs)) :
  ∃ (af:List Value) (n:Nat),yS xs af/\s.heap.get? p=some { cls:=.type "list",data:=.seq af.toArray n }/\xs.length<=sizeLine:=by
 obtain ⟨z,af,n,r,e⟩:=I.hok p _ h
 exact ⟨af,n,r,e,z⟩
def Inv.lstUpd  {σ:St} {af its':List Value} (I:Inv X pins σ H s) (h:H p=some (.lst xs))
  (d:s.heap.get? p=some { cls:=.type "list",data:=.seq af.toArray n }) (c:f { cls:=.type "list",data:=.seq af.toArray n }={ cls:=.type "list",data:=.seq its'.toArray n' }) (r:yS ys its') (hz:ys.length<=sizeLine) (t) :
  Inv X pins σ (upd H p (.lst ys)) { s with heap:=s.heap.update p f,toks:=t }:=by
 have e:(s.heap.update p f).get? p=some { cls:=.type "list",data:=.seq its'.toArray n' }:=by
  rw [Heap.get?_update_self f d (by rw [c] <;> rfl),c]
 refine I.write (x:=p) (e:=p) (by rw [h]; trivial) (.inl rfl) (λb u g q=>(Heap.get?_update_other _ _ (EF g)).trans q) ⟨_,e⟩ ?_
 exact ⟨hz,its',n',r,e⟩
def za0:V->V->V->Hp->(Hp->Prop)->Prop:=λo i v H Q=>∃ p xs k j,o=.ref p/\i=.int k/\H p=some (.lst xs)/\dF xs.length k=some j/\Q (upd H p (.lst (xs.set j v)))
def B4:zc0 X za0:=by
 intro pins s σ H o i v A B u Q I x y w h
 obtain ⟨p,xs,k,j,rfl,rfl,f,z,q⟩:=h
 cases x
 obtain ⟨t,rfl⟩:=y
 obtain ⟨af,n,r,c,hz⟩:=I.lst f
 obtain ⟨h1,h2,l,g⟩:=GS z
 have d:=r.length
 have C:=ku
 have m:Inv X pins σ (upd H p (.lst (xs.set j v))) { s with heap:=s.heap.update p (Obj.mapSeq (·.setIfInBounds j u)) } :=
  I.lstUpd f c (JG af n j u) (r.set w j) (by rw [rL]; exact hz) s.toks
 by_cases h0:0<=k
 .have e:k.toNat=j:=by
   rw [seqIndex_of h0 g] at h1
   exact g3d.inj h1
  exact PySem.W.ki_setAt c h0 (by omega) (by rw [cD,<- d]; exact g) (by rw [e]; exact ⟨_,m,q⟩)
 .have e:(k+(af.toArray.size:Int)).toNat=j:=by
   rw [seqIndex_neg (by omega) l] at h1
   rw [cD,<- d]
   exact g3d.inj h1
  exact PySem.W.ki_setBack c (by omega) (by rw [cD,<- d]; exact l) (by omega) (by rw [e]; exact ⟨_,m,q⟩)
def Wv (lo hi) (n:Nat):(I_ lo hi none n).1=((HT.sIx n 0 lo:Nat):Int)/\(I_ lo hi none n).2.1=((HT.sIx n n hi:Nat):Int)/\(I_ lo hi none n).2.2=1:=by
 refine ⟨?_,?_,rfl⟩
 .cases lo with
  | none=>simp [I_,HT.sIx]
  | some i =>
   simp only [I_,HT.sIx,Option.getD_none,show (1:Int) > 0 by decide,if_true]
   by_cases h:i < 0
   .simp only [h,if_true] <;> omega
   .simp only [h,if_false] <;> omega
 .cases hi with
  | none=>simp [I_,HT.sIx]
  | some i =>
   simp only [I_,HT.sIx,Option.getD_none,show (1:Int) > 0 by decide,if_true]
   by_cases h:i < 0
   .simp only [h,if_true] <;> omega
   .simp only [h,if_false] <;> omega
def Xo (af:List Value) (lo hi:Option Int):slicePick af.toArray lo hi none=((af.drop (HT.sIx af.length 0 lo)).take (HT.sIx af.length af.length hi - HT.sIx af.length 0 lo)).toArray:=by
 obtain ⟨h1,h2,c⟩:=Wv lo hi af.toArray.size
 unfold slicePick
 rw [h1,h2,c]
 simp only [sliceRange_one,pick_run,cD] <;> rfl
def zdm (K:A6):V->Option Int->Option Int->Hp->VK->Prop:=λx lo hi H Q=>∃ a xs,x=.ref a/\bC K H a xs/\∀ p,H p=none->Q (.ref p) (upd H p (.lst (HZ xs lo hi)))
def MA:nP X (zdm X.K):=by
 intro pins s σ H x v k j lo hi sl Q I d i f e h
 obtain ⟨a,xs,rfl,g,q⟩:=h
 cases d
 obtain ⟨af,r,ht,hz⟩:=I.list g
 have c:=r.length
 refine ⟨"list",_,slot_list_getitem.lookup,ht.isList.typeIs,?_⟩
 refine wpAny_getItem_list_slice ht.isList i f e .none (by simp) ?_ (by rw [cD] <;> omega)
 rw [Xo,<- c]
 refine ⟨.ref s.heap.objs.size,_,I.laid (t':=s.toks) (o:=.lst (HZ xs lo hi)) (λb ob q=>tz _ q) (aM _) ?_,rfl,q _ (I.hok.fresh (aM _))⟩
 exact ⟨fV (Yd xs lo hi) hz,_,0,(r.drop (HT.sIx xs.length 0 lo)).take (HT.sIx xs.length xs.length hi - HT.sIx xs.length 0 lo),AC _ rfl⟩
def Vw:wU X (.builtin "len") (λxs H Q=>∃ p ys,xs=[.ref p]/\(bC X.K H p ys\/bF X.K H p ys)/\Q (.int ys.length) H):=by
 intro pins s σ H xs us Q I r h
 obtain ⟨p,ys,rfl,d,q⟩:=h
 obtain ⟨u,rfl,g⟩:=kF r
 cases g
 have i:=ku
 rcases d with d | d
 .obtain ⟨af,e,f,hz⟩:=I.list d
  have c:=e.length
  exact Calls.call_len_list f.isList (by simp only [cD] <;> omega) ⟨.int ys.length,H,I.tok _,⟨s.toks+1,by rw [cD,c]⟩,q⟩
 .obtain ⟨af,e,f,hz⟩:=I.tuple d
  have c:=e.length
  exact len_tuple f (by simp only [cD] <;> omega) ⟨.int ys.length,H,I.tok _,⟨s.toks+1,by rw [cD,c]⟩,q⟩
def Vv:wU X (.builtin "len") (λxs H Q=>∃ z,xs=[.str z]/\z.length<=sizeLine/\Q (.int z.length) H):=by
 intro pins s σ H xs us Q I r h
 obtain ⟨z,rfl,hz,q⟩:=h
 obtain ⟨u,rfl,t,rfl⟩:=kF r
 have c:=ku
 exact len_str (by omega) ⟨.int z.length,H,I.tok _,⟨_,rfl⟩,q⟩
def wU.or (h:wU X f r) (h':wU X f d):wU X f (λxs H Q=>r xs H Q\/d xs H Q):=by
 intro pins s σ H xs us Q I c q
 rcases q with q | q
 .exact h pins s σ H xs us Q I c q
 .exact h' pins s σ H xs us Q I c q
def Vu:wU X (.type "list") (λxs H Q=>∃ p ys,xs=[.ref p]/\(bC X.K H p ys\/bF X.K H p ys)/\∀ l,H l=none->Q (.ref l) (upd H l (.lst ys))):=by
 intro pins s σ H xs us Q I r h
 obtain ⟨p,ys,rfl,f,q⟩:=h
 obtain ⟨u,rfl,m⟩:=kF r
 cases m
 have fin:∀ (af:List Value),yS ys af->ys.length<=sizeLine->∀ (h':Heap) (d:Nat),(∀ b o',s.heap.get? b=some o'->h'.get? b=some o') →
   h'.get? s.heap.objs.size=some { cls:=.type "list",dict:=none,data:=.seq af.toArray d,slots := #[] }->EP X pins σ Q (.ref s.heap.objs.size) { s with heap:=h' }:=λaf c hz h' d kp e =>
  ⟨.ref s.heap.objs.size,_,I.laid (t':=s.toks) kp (aM _) (show xH X.prog X.w _ h' _ (.lst ys) from ⟨hz,af,d,c,e⟩),rfl,q _ (I.hok.fresh (aM _))⟩
 rcases f with f | f
 .obtain ⟨af,c,i,hz⟩:=I.list f
  have g:=c.length
  obtain ⟨o,j,k,n,hd⟩:=i.isList
  exact call_list_seq p (.inl rfl) j k hd (λh' d kp e=>fin af c hz h' d kp e) (by simp only [cD] <;> omega)
 .obtain ⟨af,c,i,hz⟩:=I.tuple f
  have g:=c.length
  obtain ⟨o,j,k,n,hd⟩:=i
  exact call_list_seq p (.inr rfl) j k hd (λh' d kp e=>fin af c hz h' d kp e) (by simp only [cD] <;> omega)
def ye:wU X (.type "tuple") (λxs H Q=>∃ p ys,xs=[.ref p]/\((bC X.K H p ys/\∀ l,H l=none->Q (.ref l) (upd H l (.tup ys)))\/(bF X.K H p ys/\Q (.ref p) H))):=by
 intro pins s σ H xs us Q I r h
 obtain ⟨p,ys,rfl,h⟩:=h
 obtain ⟨u,rfl,j⟩:=kF r
 cases j
 rcases h with ⟨f,q⟩ | ⟨f,q⟩
 .obtain ⟨af,c,d,hz⟩:=I.list f
  have g:=c.length
  refine call_tuple_list d.isList (λh' kp=>?_) (by simp only [cD] <;> omega)
  have i:Inv X pins σ H { s with heap:=h' }:=I.kept (t':=s.toks) kp
  have k:Inv X pins σ (upd H h'.objs.size (.tup ys)) { s with heap:=h'.push { cls:=.type "tuple",data:=.seq af.toArray } } :=
   i.laid (t':=s.toks) (λb o e=>tz _ e) (aM _) (show xH X.prog X.w _ _ _ (.tup ys) from ⟨hz,af,c,IsTup.new _ _⟩)
  exact ⟨.ref h'.objs.size,_,k,rfl,q _ (i.hok.fresh (aM _))⟩
 .obtain ⟨af,c,d,hz⟩:=I.tuple f
  exact call_tuple_same d ⟨.ref p,H,I,rfl,q⟩
def tyV (K:A6) (T:String) (x:V) (H:Hp):Prop:=match x with
 | .str _=>T="str"
 | .int _=>T="int"
 | .ref p=>(T="list"/\∃ xs,bC K H p xs)\/(T="tuple"/\∃ o,K.lookup p=some o/\o.cls=.type "tuple"/\o.dict=none) ∨
   (T="dict"/\((∃ ag,H p=some (.dK ag))\/∃ ag,H p=some (.dT ag)))\/(T="set"/\∃ S n,H p=some (.set S n))
 | _=>False
def Rf  {σ:St} (I:Inv X pins σ H s) (r:yO x v) (ty:tyV X.K T x H) :
  s.TypeIs v T/\∀ a,v=.ref a->∃ ob,s.heap.get? a=some ob/\ob.dict=none:=by
 cases x with
 | str z =>
  obtain ⟨t,rfl⟩:=r
  cases (show T="str" from ty)
  exact ⟨typeIs_str s z t,λ_ e=>nomatch e⟩
 | int i =>
  obtain ⟨t,rfl⟩:=r
  cases (show T="int" from ty)
  exact ⟨typeIs_int s i t,λ_ e=>nomatch e⟩
 | ref p =>
  cases r
  rcases ty with ⟨rfl,xs,g⟩ | ⟨rfl,o,d,h,hd⟩ | ⟨rfl,d⟩ | ⟨rfl,S,n,d⟩
  .obtain ⟨af,_,f,_⟩:=I.list g
   refine ⟨f.isList.typeIs,λa e=>?_⟩
   cases e
   obtain ⟨o,n,e,c,hd,_⟩:=f
   exact ⟨o,e,hd⟩
  .refine ⟨⟨o,I.kIn p o d,h⟩,λa e=>?_⟩
   cases e
   exact ⟨o,I.kIn _ o d,hd⟩
  .have z:∃ o,s.heap.get? p=some o/\o.ExactDict:=by
    rcases d with ⟨ag,d⟩ | ⟨ag,d⟩
    .obtain ⟨_,_,_,_,o,_,_,e,ex,_⟩:=I.hok p _ d
     exact ⟨o,e,ex⟩
    .obtain ⟨_,_,_,_,o,_,_,e,ex,_⟩:=I.hok p _ d
     exact ⟨o,e,ex⟩
   obtain ⟨o,e,ex⟩:=z
   refine ⟨⟨o,e,ex.1⟩,λa e2=>?_⟩
   cases e2
   exact ⟨o,e,ex.2.1⟩
  .obtain ⟨o,_,_,_,e,ex,_⟩:=I.hok p _ d
   refine ⟨⟨o,e,ex.1⟩,λa e2=>?_⟩
   cases e2
   exact ⟨o,e,ex.2.1⟩
 | _=>exact E2 ty
def tBM (K:A6) (T:String) (r:V->List V->Hp->VK->Prop) (to:TE) (t:TA):TE:=λσ H Q=>to σ H λx H1=>tyV K T x H1/\t σ H1 λxs H2=>r x xs H2 Q
variable {o e:Expr} {es:List Expr} {to:TE} {t:TA} {name:Str} {apos aO:Pos} {T id:String} {r:V->List V->Hp->VK->Prop}
def CA (p:PlainAttrs T) (slot:Slot T name id) (g:typeOf (.builtin id)=pure (.type "method_descriptor")) (w:MtR X id r) (u:PE X o to) (y:PA X (e :: es) t)
  (d:IR o name X.env (eval o X.env)=eval o X.env:=by rfl)
  (f:((EU aO (A7 (e :: es) X.env)).all (λx => !x.1)&&(backToKw aO (keywordEach [] X.env)).all (λx=>x.1.isSome)
   && decide ((e :: es).length+([]:List Lz).length+(if ([]:List Lz).isEmpty then 0 else 1) < 30))=true:=by rfl)
  (c:(apos.endLine==aO.line)=true:=by rfl) (q:A7 (e :: es) X.env=(false,eval e X.env) :: A7 es X.env:=by rfl) (z:(EU aO (A7 es X.env)).any (·.1)=false:=by rfl) :
  PE X (.Call (.Attribute o name apos) (e :: es) [] aO) (tBM X.K T r to t):=by
 intro pins s σ H Q I h
 refine wpAny_Call_method_late d f c rfl (thn (u pins s σ H _ I h) λv s1 ⟨x,H1,k,i,ty,n⟩=>?_)
 obtain ⟨h1,h2⟩:=Rf k i ty
 refine ⟨T,id,p,slot,g,h1,h2,?_⟩
 have j:=y aO pins s1 σ H1 _ k n
 rw [q] at j ⊢
 refine LI (by show (false||(EU aO (A7 es X.env)).any (·.1))=false; rw [z] <;> rfl) (Calls.evalArgs_plain ?_)
 exact thn j λus s2 ⟨vs,H2,A,l,m⟩=>w pins s2 σ H2 x vs v us Q A i l m
end
def MtM (X:Cx) (id:String) (r:V->List V->Hp->VK->Prop):Prop :=
 ∀ (pins:List (Addr×Obj)) (s:Shared) (σ:St) (H:Hp) (x:V) (xs:List V) (v:Value) (us:List Value) (Q:VK),Inv X pins σ H s->yO x v->yS xs us->r x xs H Q →
  A_ (Ec X.prog X.w) X.A (call (.builtin id) (v :: us)) (EP X pins σ Q) X.xe s
def yS.one:∀ {x:V} {us:List Value},yS [x] us->∃ u,us=[u]/\yO x u
 | _,_,.cons r .nil=>⟨_,rfl,r⟩
theorem yS.rep (h:yS xs us):∀ k,yS (aF k xs).flatten (aF k us).flatten
 | 0=>.nil
 | k+1=>by
  rw [nF,nF,oK,oK]
  exact yS.append h (yS.rep h k)
theorem Vg (af):∀ (k) (a:List Value),
  List.foldl (λc b=>c++b) a.toArray (aF k af.toArray)=(a++(aF k af).flatten).toArray
 | 0,a=>by simp
 | k+1,a=>by
  have e:a.toArray++af.toArray=(a++af).toArray:=by simp
  have e2:(a++af)++(aF k af).flatten=a++(aF (k+1) af).flatten:=by
   rw [nF,oK,b9]
  rw [<- e2,<- Vg af k (a++af),<- e,nF,rK]
section
variable {X:Cx} {pins:List (Addr×Obj)} {σ:St} {H:Hp} {s:Shared} {l b:Addr} {xs ys zs:List V}
def Inv.lset {af its':List Value} (I:Inv X pins σ H s) (h:H l=some (.lst xs))
  (e:s.heap.get? l=some { cls:=.type "list",data:=.seq af.toArray n }) (d:f af.toArray=its'.toArray) (a:yS ys its') (hz:ys.length<=sizeLine) :
  Inv X pins σ (upd H l (.lst ys)) { s with heap:=s.heap.update l (Obj.mapSeq f),toks:=t' }:=by
 have q:=PySem.IsL.update e f
 rw [d] at q
 refine I.write (x:=l) (e:=l) (by rw [h]; exact trivial) (.inl rfl) (λi u g c=>(Heap.get?_update_other s.heap (Obj.mapSeq f) (EF g)).trans c) ⟨_,q⟩ ?_
 exact ⟨hz,its',_,a,q⟩
def Inv.lnew (I:Inv X pins σ H s) (a:yS ys af) (hz:ys.length<=sizeLine) :
  Inv X pins σ (upd H s.heap.objs.size (.lst ys)) { s with heap:=s.heap.push { cls:=.type "list",data:=.seq af.toArray },toks:=t' } :=
 I.laid (λ_ _ q=>tz _ q) (aM _) ⟨hz,af,0,a,AC _ rfl⟩
def Inv.fresh (I:Inv X pins σ H s):H s.heap.objs.size=none:=I.hok.fresh (aM _)
def Inv.lstM (I:Inv X pins σ H s) (a:H l=some (.lst xs)):xs.length<=sizeLine/\∃ (af:List Value) (n:Nat),yS xs af/\xs.length=af.length/\s.heap.get? l=some { cls:=.type "list",data:=.seq af.toArray n }:=by
 obtain ⟨z,af,n,r,e⟩:=I.hok l _ a
 exact ⟨z,af,n,r,r.length,e⟩
def CS (h:n<=sizeLine):E3 n=false:=by
 unfold E3
 exact decide_eq_false (by omega)
end
section
variable {X:Cx}
def MU:V->List V->Hp->VK->Prop:=λx vs H Q=>∃ l xs y,x=.ref l/\vs=[y]/\H l=some (.lst xs)/\xs.length < sizeLine/\Q .non (upd H l (.lst (xs++[y])))
def ZR:MtM X "list.append" MU:=by
 intro pins s σ H x vs v us Q I b c h
 obtain ⟨l,xs,y,rfl,rfl,a,hz,q⟩:=h
 cases b
 obtain ⟨u,rfl,d⟩:=c.one
 obtain ⟨z,af,n,r,f,e⟩:=I.lstM a
 refine call_meets F.slot_list_append ⟨_,e,rfl⟩ F.entry_list_append (F.args_list_append_2 _ _) (PySem.list_append l af.toArray n u (by rw [cD]; omega)) ⟨e,?_⟩
 refine ⟨.non,_,I.lset (its':=af++[u]) a e (by simp) (r.append (.cons d .nil)) ?_,rfl,q⟩
 rw [aH,bX]
 omega
def NJ (xs:List α) (k:Nat):(aF k xs).flatten.length=k * xs.length:=by
 induction k with
 | zero=>simp
 | succ k a=>rw [nF,oK,aH,a,Nat.succ_mul,Nat.add_comm]
end
section
variable {prog:Ej} {w:Ey} {A:Around} {E:Value->Shared->Prop} {s:Shared}
end
section
variable {X:Cx}
end
section
variable {κ:Type} [DecidableEq κ]
def Mr (ag:List (κ×V)) (k:κ):Option V:=(ag.find? λa=>decide (a.1=k)).map (·.2)
def Jx (ag:List (κ×V)) (k:κ) (v:V):List (κ×V) :=
 if (ag.any λa=>decide (a.1=k))=true then ag.map (λa=>if a.1=k then (a.1,v) else a) else ag++[(k,v)]
def UZ {p:κ×V} {k:κ} (e:p.1=k):Mr (p :: r) k=some p.2:=by simp [Mr,AG,e]
def U0 {p:κ×V} {k:κ} (e:¬ p.1=k):Mr (p :: r) k=Mr r k:=by simp [Mr,AG,e]
theorem U1 (k:κ):∀ ag,(ag.any λa=>decide (a.1=k))=(Mr ag k).isSome
 | []=>rfl
 | p :: r=>by
  rw [oF]
  by_cases e:p.1=k
  .simp only [UZ e,decide_eq_true e,Bool.true_or,Option.isSome_some]
  .rw [U0 e,decide_eq_false e,Bool.false_or]; exact U1 k r
def ZV (ag) (k:κ) (v:V):(Jx ag k v).length<=ag.length+1:=by
 unfold Jx
 split
 .rw [az]; omega
 .rw [aH,ao,aE]; omega
def TU.isSome_eq (r:TU o u):o.isSome=u.isSome:=by
 cases o with
 | none=>cases u with
  | none=>rfl
  | some _=>exact (show False from r).elim
 | some _=>cases u with
  | none=>exact (show False from r).elim
  | some _=>rfl
def KV.any (r:KV ag vs) (k:κ):(ag.any λa=>decide (a.1=k))=vs.any λa=>decide (a.1=k):=by
 unfold KV at r
 induction r with
 | nil=>rfl
 | cons h t b=>rw [oF,oF,b,h.1]
def KV.repl (r:KV ag vs) (k:κ) (b:yO y u) :
  KV (ag.map λa=>if a.1=k then (a.1,y) else a) (vs.map λa=>if a.1=k then (a.1,u) else a):=by
 unfold KV at r ⊢
 induction r with
 | nil=>exact .nil
 | @cons p q ps d h t c =>
  rw [au,au]
  refine .cons ?_ c
  obtain ⟨h1,h2⟩:=h
  by_cases e:p.1=k
  .rw [if_pos e,if_pos (h1.symm.trans e)]; exact ⟨h1,b⟩
  .rw [if_neg e,if_neg (λz=>e (h1.trans z))]; exact ⟨h1,h2⟩
def KV.put (r:KV ag vs) (k:κ) (a:yO y u):KV (Jx ag k y) (stored vs k u):=by
 unfold Jx stored
 rw [r.any k]
 by_cases e:(vs.any λb=>decide (b.1=k))=true
 .rw [if_pos e,if_pos e]; exact r.repl k a
 .rw [if_neg e,if_neg e]; exact Paired.snoc r ⟨rfl,a⟩
def KV.length (r:KV ag vs):ag.length=vs.length:=Lx r
end
def SV (r:yO (kV k) u):(x9 P w).is k u=true:=by
 cases k with
 | inl i=>obtain ⟨t,e⟩:=(show ∃ t,u=Value.int i t from r); subst e; exact Ug P w i t
 | inr x=>obtain ⟨t,e⟩:=(show ∃ t,u=Value.str x t from r); subst e; exact Ue P w x t
theorem W6   : ∀ {ks:List Key} {us:List Value},yS (ks.map kV) us->ItemsAre (x9 P w) ks us
 | [],_,r=>by rw [aP] at r; cases r; exact .nil
 | k :: ks,_,r=>by
  rw [au] at r
  cases r with
  | cons h t=>exact .cons (SV h) (W6 t)
abbrev KT (H:Hp):List (List Key×V)->List (List Key×Addr×Value)->Prop:=Paired λp q=>p.1=q.1/\H q.2.1=some (.tup (p.1.map kV))/\yO p.2 q.2.2
def KT.val (r:KT H ag xs) (k):TU (Mr ag k) ((Lm xs k).map (·.2)):=by
 induction r with
 | nil=>exact Iu
 | @cons p q ps a h t d =>
  obtain ⟨h1,_,h2⟩:=h
  by_cases e:p.1=k
  .have c:q.1=k:=h1.symm.trans e
   have b:Lm (q :: a) k=some q.2:=by simp [Lm,AG,c]
   rw [UZ e,b]; exact h2
  .have c:¬ q.1=k:=λz=>e (h1.trans z)
   have b:Lm (q :: a) k=Lm a k:=by simp [Lm,AG,c]
   rw [U0 e,b]; exact d
def KT.repl (r:KT H ag xs) (k) (b:yO y u) :
  KT H (ag.map λa=>if a.1=k then (a.1,y) else a) (xs.map (putAt k u)):=by
 induction r with
 | nil=>exact .nil
 | @cons p q ps f h t c =>
  rw [au,au]
  refine .cons ?_ c
  obtain ⟨h1,h2,d⟩:=h
  unfold putAt
  by_cases e:p.1=k
  .rw [if_pos e,if_pos (h1.symm.trans e)]; exact ⟨h1,h2,b⟩
  .rw [if_neg e,if_neg (λz=>e (h1.trans z))]; exact ⟨h1,h2,d⟩
def KT.put (r:KT H ag xs) (k) (d:H b=some (.tup (k.map kV))) (a:yO y u) :
  KT H (Jx ag k y) (storedH xs k b u):=by
 have e:(ag.any λc=>decide (c.1=k))=(Lm xs k).isSome:=by
  rw [U1,(r.val k).isSome_eq,Option.isSome_map]
 unfold Jx storedH
 rw [e]
 by_cases q:(Lm xs k).isSome=true
 .rw [if_pos q,if_pos q]; exact r.repl k a
 .rw [if_neg q,if_neg q]; exact Paired.snoc r ⟨rfl,d,a⟩
def KT.keeps (r:KT H ag xs) (ht:∀ b ys,H b=some (.tup ys)->H' b=some (.tup ys)):KT H' ag xs :=
 F_ r λ_ _ z=>⟨z.1,ht _ _ z.2.1,z.2.2⟩
section
variable {P:Ej} {w:Ey} {H:Hp} {h:Heap} {a:Addr}
def RG (ok:cz P w H h) (e:Rd H a u):xH P w H h a u:=e.ok ok
def zbo (ok:cz P w H h) (e:Rd H a (.dK ag)):ag.length<=sizeLine/\(a==EE)=false/\∃ vs,KV ag vs/\h.DictOf (x9 P w) a vs :=
 show xH P w H h a (.dK ag) from RG ok e
def zbp (ok:cz P w H h) (e:H a=some (.dK ag)):ag.length<=sizeLine/\(a==EE)=false/\∃ vs,KV ag vs/\h.DictOf (x9 P w) a vs:=zbo ok (.inl e)
def Ma (ok:cz P w H h) (e:H a=some (.tup (ks.map kV))):(Iw (x9 P w)).is h ks a:=by
 obtain ⟨_,af,r,o,h1,h2,n,b⟩:=(show xH P w H h a (.tup (ks.map kV)) from ok a _ e)
 exact ⟨o,af.toArray,n,h1,h2,b,by simpa using W6 r⟩
def zbl (ok:cz P w H h) (e:Rd H a (.dT ag)):ag.length<=sizeLine/\(a==EE)=false ∧
  ∃ xs,KT H ag xs/\h.DictOfH (Iw (x9 P w)) a xs:=by
 obtain ⟨z,y,xs,r,o,es,ep,h1,h2,i,g,f⟩:=(show xH P w H h a (.dT ag) from RG ok e)
 refine ⟨z,y,xs,r,o,es,ep,h1,h2,i,g,λx b=>?_,f⟩
 have all:∀ {l:List (List Key×V)} {m:List (List Key×Addr×Value)},KT H l m->∀ x∈m,(Iw (x9 P w)).is h x.1 x.2.1:=by
  intro l m q
  induction q with
  | nil=>intro x b; exact nomatch b
  | @cons p q ps j c t d =>
   intro x b
   rcases aI.mp b with e | b
   .subst e
    exact Ma ok (by rw [<- c.1]; exact c.2.1)
   .exact d x b
 exact all r x b
def zbm (ok:cz P w H h) (e:H a=some (.dT ag)):ag.length<=sizeLine/\(a==EE)=false ∧
  ∃ xs,KT H ag xs/\h.DictOfH (Iw (x9 P w)) a xs:=zbl ok (.inl e)
end
def T1 (H:Hp) (a:Addr) (y v:V) (H':Hp):Prop :=
 (∃ ag k,H a=some (.dK ag)/\y=kV k/\ag.length < sizeLine/\H'=upd H a (.dK (Jx ag k v))) ∨
 ∃ ag k b,H a=some (.dT ag)/\y=.ref b/\H b=some (.tup (k.map kV))/\ag.length < sizeLine/\H'=upd H a (.dT (Jx ag k v))
def T1.t (e:H a=some (.dT ag)) (d:H b=some (.tup (k.map kV))) (c:ag.length < sizeLine) :
  T1 H a (.ref b) v (upd H a (.dT (Jx ag k v))):=.inr ⟨ag,k,b,e,rfl,d,c,rfl⟩
section
variable {X:Cx} {pins:List (Addr×Obj)} {σ:St} {H:Hp} {s:Shared} {a:Addr} {y v:V} {u r:Value} {o:Option V} {A:Around} {E:Value->Shared->Prop}
def Inv.big (I:Inv X pins σ H s):EE < s.heap.objs.size:=by
 have h:Bs < s.heap.objs.size:=(I.mod.glob.keeps I.bk).lt
 exact Nat.lt_trans (by decide) h
def Yc (I:Inv X pins σ H s) (c:A5 (H a)) (d:Heap.SameBut a s.heap h') (f:∃ q,h'.get? a=some q) (new:xH X.prog X.w (upd H a ob) h' a ob) :
  Inv X pins σ (upd H a ob) { s with heap:=h',toks:=t' } :=
 I.write (x:=a) (e:=a) c (.inl rfl) (λb q g z=>(d.2 b g).trans z) f new
def Tr (z:ag.length<=sizeLine) (hd:(a==EE)=false) (rel:KV ag vs) (dd:h'.DictOf (x9 P w) a vs) :
  xH P w H' h' a (.dK ag):=⟨z,hd,vs,rel,dd⟩
def HU (C:A.units+1 < IE) (I:Inv X pins σ H s) (g:T1 H a y v H') (p:yO y u) (w:yO v r) (h:∀ s',Inv X pins σ H' s'->Q () s') :
  A_ (Ec X.prog X.w) A (setItem (.ref a) u r) Q E s:=by
 rcases g with ⟨ag,k,e,m,l,n⟩ | ⟨ag,k,b,e,m,B,l,n⟩
 .subst m n
  obtain ⟨z,hd,vs,rel,dd⟩:=zbp I.hok e
  have hz:vs.length<=sizeLine:=by rw [<- rel.length]; exact z
  have j:(Jx ag k v).length<=sizeLine:=by have:=ZV ag k v; omega
  refine wpAny_setItem_pairs (hsz:=hz) (SV p) dd λh' d i=>h _ ?_
  have F:∃ q,h'.get? a=some q:=let ⟨q,_,_,f,_⟩:=d; ⟨q,f⟩
  exact Yc I (by rw [e]; exact Iu) i F (Tr j hd (rel.put k w) d)
 .subst m n
  cases (show u=EA b from p)
  obtain ⟨z,hd,xs,rel,dd⟩:=zbm I.hok e
  have hz:xs.length<=sizeLine:=by rw [<- Lx rel]; exact z
  have j:(Jx ag k v).length<=sizeLine:=by have:=ZV ag k v; omega
  refine wpAny_setItem_heap (hsz:=hz) (tupleKind_room_in1 C) (Ma I.hok B) dd λh' d i=>h _ ?_
  obtain ⟨q,es,ep,f,h2,L,J,_,G⟩:=d
  refine Yc I (by rw [e]; exact Iu) i ⟨q,f⟩ ⟨j,hd,_,(rel.put k B w).keeps λc ys x=>?_,q,es,ep,f,h2,L,J,G⟩
  rw [zw (Sw x e (λz=>nomatch z))]
  exact x
end
section
variable {X:Cx} {pins:List (Addr×Obj)} {σ:St} {H:Hp} {s:Shared} {a:Addr} {ag:List (Key×V)} {k:Key} {u:Value} {A:Around} {E:Value->Shared->Prop}
end
def zb2 (i:Expr):Prop:=∀ a b,subscripted i false a b=operate [a,b] (getItem a b)
def Ku         {T id:String}
  (g:typeLookup (.type T) "__getitem__"=pure (some (.builtin id))) (f:zb2 slice)
  (h:A_ (Ec prog w) A (eval value env) (λo a=>A_ (Ec prog w) A (eval slice env) (λi b=>b.TypeIs o T/\A_ (Ec prog w) A (getItem o i) Q E b) E a) E s) :
  A_ (Ec prog w) A (eval (.Subscript value slice pos) env) Q E s:=by
 refine Subscript_ (Ef h (λo a k=>Ef k (λi b c=>?_) λ_ _ x=>x) λ_ _ x=>x)
 obtain ⟨d,c⟩:=c
 unfold subscriptTail
 refine ls ?_
 rw [getitemInPython_of_ne d.not_modules]
 refine ls (H_ d g ?_)
 have fin:A_ (Ec prog w) A (subscripted slice false o i) (λr e=>A_ (Ec prog w) A (letTemporaryGo value o r >>= λ_=>pure r) Q E e) E b:=by
  rw [f o i]
  exact wpAny_operating (Ef c (λr e j=>ls (wpAny_letTemporaryGo (u0 j))) λ_ _ x=>x)
 first
  | exact u0 (ls fin)
  | exact ls (u0 (ls fin))
  | exact ls fin
def zax (td ty tv:TE):TS:=λD σ H=>tv σ H λv H1=>td σ H1 λx H2=>ty σ H2 λy c=>∃ a b,x=.ref a/\T1 c a y v b/\D.nx σ b
section
variable {X:Cx} {o i e value:Expr} {pos pos' tpos:Pos} {td ty tv:TE}
def M0 (m:X.A.units+1 < IE) (p:PE X o td) (hi:PE X i ty) (l:PE X value tv) (n:EW value (some (.Subscript o i pos')) pos.line X.env=pure false) :
  PS X (.Assign [.Subscript o i pos'] value pos) (zax td ty tv):=by
 intro pins s σ H D I h
 refine wpAny_Assign_Subscript (thn (l pins s σ H _ I h) λr s1 ⟨v,H1,A,d,k⟩=>thn (p pins s1 σ H1 _ A k) λu s2 ⟨x,H2,z,c,j⟩=>thn (hi pins s2 σ H2 _ z j) λE s3 ⟨y,F,w,b,a,B,ex,g,f⟩=>?_) n
 subst ex
 obtain rfl:u=EA a:=c
 exact HU m w g b d λC q=>⟨σ,B,q,f⟩
end
def DO (h:Heap) (a:EE < h.objs.size):xH P w H (h.push { cls:=.type "dict",data:=.dict #[] }) h.objs.size (.dT []) :=
 ⟨dm _,beq_eq_false_iff_ne.mpr (EF (cR a)),[],.nil,_,#[],0,AC _ rfl,⟨rfl,rfl,rfl⟩,rfl,rfl,List.nodup_nil⟩
def Rj:TE:=λ_ H Q=>∀ p,H p=none->Q (.ref p) (upd H p (.dT []))
section
variable {X:Cx} {pos:Pos}
def Cz:PE X (.Dict [] [] pos) Rj:=λpins s σ H Q I h =>
 wpAny_Dict_empty ⟨.ref s.heap.objs.size,_,I.laid (a:=s.heap.objs.size) (o:=.dT []) (t':=s.toks) (λ_ _ q=>tz _ q) (aM _) (DO s.heap I.big),rfl,h _ (I.hok.fresh (aM _))⟩
end
def Kq:List (TE×TE)->St->Hp->(List (V×V)->Hp->Prop)->Prop
 | [],_,H,Q=>Q [] H
 | (tk,tv) :: r,σ,H,Q=>tk σ H λx H1=>tv σ H1 λy H2=>Kq r σ H2 λps a=>Q ((x,y) :: ps) a
abbrev VV:List (V×V)->List (Value×Value)->Prop:=Paired λp q=>yO p.1 q.1/\yO p.2 q.2
def PPs (X:Cx) (pos:Pos) (keys:List (Option Expr)) (values:List Expr) (a:List (TE×TE)):Prop :=
 ∀ (pins:List (Addr×Obj)) (s:Shared) (σ:St) (H:Hp) (Q:List (V×V)->Hp->Prop),Inv X pins σ H s->Kq a σ H Q →
  A_ (Ec X.prog X.w) X.A (evalPairs (pairTrees keys values X.env pos)) (λvs s'=>∃ ps H',Inv X pins σ H' s'/\VV ps vs/\Q ps H') X.xe s
def M3   : PPs X pos [] [] []:=λpins s σ H Q I h=>pairTrees_nil_walk ⟨[],H,I,.nil,h⟩
def Cq (j:PE X k tk) (g:PE X v tv) (i:PPs X pos ks vs a) :
  PPs X pos (some k :: ks) (v :: vs) ((tk,tv) :: a):=λpins s σ H Q I h =>
 pairTrees_cons_walk (thn (j pins s σ H _ I h) λu s1 ⟨x,H1,n,c,f⟩=>thn (g pins s1 σ H1 _ n f) λp s2 ⟨y,H2,m,b,e⟩ =>
  thn (i pins s2 σ H2 _ m e) λws s3 ⟨ps,o,l,rel,d⟩=>⟨(x,y) :: ps,o,l,.cons ⟨c,b⟩ rel,d⟩)
structure M2 (X:Cx) (o:Expr) (m:Str) (apos:Pos) (e f:Expr) (aO:Pos):Prop where
 base:IR o m X.env (eval o X.env)=eval o X.env
 few:((EU aO (A7 [e,f] X.env)).all (λx => !x.1)&&(backToKw aO (keywordEach [] X.env)).all (λx=>x.1.isSome)
  && decide (([e,f]:List Expr).length+([]:List Lz).length+(if ([]:List Lz).isEmpty then 0 else 1) < 30))=true
 line:(apos.endLine==aO.line)=true
 trees:EU aO (A7 [e,f] X.env)=[(false,eval e X.env),(false,eval f X.env)]
section
variable {X:Cx} {pins:List (Addr×Obj)} {σ:St} {H:Hp} {s:Shared} {a:Addr} {y d:V} {u r:Value} {o:Option V} {A:Around} {E:Value->Shared->Prop}
end
section
variable {X:Cx} {o e f:Expr} {apos aO:Pos} {td ty tx:TE}
end
section
variable {X:Cx} {pins:List (Addr×Obj)} {σ:St} {H:Hp} {s:Shared} {a:Addr} {ag:List (Key×V)} {A:Around} {E:Value->Shared->Prop}
end
section
variable {X:Cx} {pins:List (Addr×Obj)} {σ:St} {H:Hp} {s:Shared} {a:Addr} {y:V} {u:Value} {A:Around} {E:Value->Shared->Prop}
end
end L2
namespace Att
open PySem PySem.W PySem.Calls PyProof.Rows
def ZZ   : ∀ ns vs,WellAll P h vs (ns.map WData.int)->IntsAre vs ns:=by
 intro ns
 induction ns with
 | nil =>
  intro vs w
  rw [aP] at w
  cases w
  exact .nil
 | cons n ns c =>
  intro vs w
  rw [au] at w
  cases w with
  | cons a b =>
   cases a
   exact .cons _ _ (c _ b)
def KA {l:OpenLaw} (u:l.most=some n)
  (b:l.row.toRowW.claim.pre args=true) (p:WellAll P h vals args) :
  ∃ a vs ns,vals=[EA a]/\args=[WData.list (ns.map WData.int)]/\h.get? a=some { cls:=.type "list",data:=.seq vs.toArray }/\IntsAre vs ns/\ns.length<=n:=by
 have o:WShape.hasAll [] args [.list .int]=true:=(pre_splitW b).1
 have i:l.pre.holds [] { args:=args }=true:=(pre_splitW b).2
 obtain ⟨d,r,rfl,h1,h2⟩:=hasAllW_cons o
 obtain rfl:=hasAllW_nil h2
 obtain ⟨xs,rfl,v⟩:=hasW_list h1
 obtain ⟨ns,rfl⟩:=items_int v
 have c:ns.length<=n:=by
  unfold OpenLaw.pre at i
  have g:(WTm.not (.lt (.lit (.int (n:Int))) (.len (.arg 0)))).holds [] { args:=[.list (ns.map .int)] }=true:=by
   have g:=(holds_andW i).1
   rw [u] at g
   exact g
  have f:=condW_of g (w_not (w_lt w_lit (w_len_list (w_arg rfl))))
  rw [az] at f
  refine Nat.le_of_not_lt λq=>?_
  have m:(n:Int) < ((ns.length:Nat):Int):=by omega
  first
   | (rw [decide_eq_true m] at f; exact absurd f (by decide))
   | (simp at f; omega)
 cases p with
 | cons k j =>
  cases j
  cases k with
  | list s e=>exact ⟨_,_,ns,rfl,rfl,s,ZZ ns _ e,c⟩
def K5 (l:OpenLaw) (args):l.row.toRowW.claim.post args (.bool true) args=true :=
 postW_of (r:=l.row.toRowW) (X:=(true==true))
  (show WShape.has [] (.bool true) .bool=true by first | rfl | decide | simp [WShape.has,WShape.arms,WShape.armsAll])
  (show (WTm.eq .res (.lit (.bool true))).value [] { args:=args,res:=some (.bool true),after:=args }=some (.bool (true==true)) from w_eq_bool (w_res rfl) w_lit) rfl
def attach_call {l:OpenLaw} {m:(Str->Option Value)->Heap->Prop}
  (y:l.most=some n) (H:d.params.defaults=[])
  (call:∀ (w:Ey) (s₀ b:Shared) (mg mb:Str->Option Value) (fa:Addr) (o:Obj) (pm h doc:Value) (a:Addr) (vs:List Value) (ns:List Int),
   Ground q loose [] m w s₀ mg mb b.heap->F w b.heap →
   b.heap.get? fa=some o->o.data=.func (docDef d.name d.params d.body d.scope pm h doc)->b.heap.CodeRec h d.name->mg d.name=some (.ref fa) →
   b.heap.get? a=some { cls:=.type "list",data:=.seq vs.toArray }->IntsAre vs ns->ns.length<=n->b.gens = #[] →
   codeAny (Ec l.prog w) callerA (.call (.ref fa) ⟨[.ref a],[]⟩) (λr s'=>r=.ok (.ret (.bool true))/\OldK b.heap s'.heap/\s'.os=b.os/\AllBare s'.gens) b) :
  WalkO q loose m F l.row.toRowW d [] (λf vs=>PySem.call f vs):=by
 intro w s₀ b mg mb G Y fa o pm h doc E kV x hd i k I hg args vals J e j u s A
 obtain rfl:E=.none:=Dflts.none k H
 obtain rfl:kV=.none:=Dflts.noKw k
 obtain ⟨a,vs,ns,rfl,rfl,p,c,g⟩:=KA y e s
 refine enter_call (codeAny_mono (call w s₀ b mg mb fa o pm h doc a vs ns G Y x (fd_plain hd) i I p c g hg) λr s' v=>?_)
 obtain ⟨rfl,h2,C,B⟩:=v
 exact ⟨.inl ⟨.bool true,.bool true,[],rfl,λ_=>rfl,.bool true,K5 l _,λ_=>⟨List.Pairwise.nil,λ_ z=>(nomatch z)⟩⟩,h2,C,B⟩
section
variable {prog:Ej} {w:Ey} {A:Around} {E:Value->Shared->Prop} {s:Shared} {K:Frag}
def zcs (h:Heap) (L d:Addr):List (Addr×Obj):=(aw h.objs.size).filterMap λa=>if a=L\/a=d then none else (h.get? a).map λo=>(a,o)
end
end Att
namespace L2
open PySem PySem.Spec PyProof.Rows
theorem cx:∀ {vs:List Value} {ns:List Int},IntsAre vs ns->yS (ns.map V.int) vs
 | _,_,.nil=>.nil
 | _,_,.cons n t h=>.cons ⟨t,rfl⟩ (cx h)
def zad (H:Hp):Prop:=∀ b,H b=none\/∃ o xs,H b=some (.frz o (.lst xs))
def C6   {K:A6}
  (T:K.In c.heap) (M:c.heap.Ns Bs mg) (f:c.heap.Ns builtinsNs mb) (G:∀ x:Str,x≠"__name__"->mb x=EM x) (y:c.heap.NoLimit) (hg:c.gens = #[])
  (B:c.heap.get? a=some { cls:=.type "list",data:=.seq vs.toArray }) (hi:IntsAre vs ns) (O:ns.length<=sizeLine) (Z:Room k callerA)
  (F:∀ base:Heap,K.In base->base.Ns Bs mg->FnOk P w K mg base CX k fa fd [x] sp) (Ax:∀ (s:Shared) (u:Value),BindsTo s fd ⟨[u],[]⟩ [(x,u)])
  (C:∀ H:Hp,zad H->bC K H a (ns.map V.int)->sp [.ref a] H (λv _=>v=.bl true) λ_ _ _=>False)
  (I:∀ H e s',CX [] H c (λ_ _ _=>False) e s'->False) :
  codeAny (Ec P w) callerA (.call (.ref fa) ⟨[.ref a],[]⟩) (λr s'=>r=.ok (.ret (.bool true))/\OldK c.heap s'.heap/\s'.os=c.os/\AllBare s'.gens) c:=by
 have L:=cx hi
 have l:=hi.length
 have i:∀ H:Hp,zad H->bC K H a (ns.map V.int)->cz P w H c.heap->(∀ b,H b≠none->b=a)->(H a≠none->K.lookup a=none) →
   codeAny (Ec P w) callerA (.call (.ref fa) ⟨[.ref a],[]⟩) (λr s'=>r=.ok (.ret (.bool true))/\OldK c.heap s'.heap/\s'.os=c.os/\AllBare s'.gens) c:=by
  intro H Q hS hok R hK
  have S:∀ {b:Addr} {o:Obj},c.heap.get? b=some o->H b=none->(Do c.heap H).get? b=some o:=λe n=>Dm e n
  have U:∀ {b:Addr} {o:Obj} {es:Array Ia} {ep:Nat},c.heap.get? b=some o->o.data=.dict es ep->H b=none:=λ{b o es ep} e d=>by
   cases q:H b with
   | none=>rfl
   | some u =>
    have J:b=a:=R b (by rw [q]; simp)
    subst J
    rw [B] at e; cases e
    have d':Data.seq vs.toArray _=Data.dict es ep:=d
    cases d'
  have g:∀ {b:Addr} {m:Str->Option Value},c.heap.Ns b m->(Do c.heap H).Ns b m:=λ{b m} ⟨o,es,ep,e,d,r⟩=>⟨o,es,ep,S e (U e d),d,r⟩
  have A:K.In (Do c.heap H):=λb o e=>S (T b o e) (by
   cases q:H b with
   | none=>rfl
   | some u =>
    have J:b=a:=R b (by rw [q]; simp)
    subst J
    rw [hK (by rw [q]; simp)] at e; cases e)
  have hM:Mod K mg (Do c.heap H):=⟨A,g M,⟨mb,g f,G⟩,let ⟨Y,h1,h2⟩:=y; ⟨Y,g h1,h2⟩⟩
  have e0:Env0 P w K mg (Do c.heap H) callerA [] c H:=⟨rfl,hM,λb o e=>Nt e,Nat.le_of_eq (G5 _ _),trivial,λb f=>absurd (show b∈([]:List Addr) from f) (by simp),hok,.of_eq hg⟩
  refine codeAny_mono ((F _ A (g M)).run callerA [] c H ⟨[.ref a],[]⟩ [.ref a] [.ref a] _ _ Z e0 (Ax c (.ref a)) (.cons rfl .nil) (C H Q hS)) λr s' h=>?_
  cases r with
  | error e=>exact (I H e s' h).elim
  | ok fl =>
   cases fl with
   | next=>exact E2 h
   | brk=>exact E2 h
   | cont=>exact E2 h
   | ret u =>
    obtain ⟨v,H',os,bare,un,p,W,q⟩:=h
    have X:v=.bl true:=q
    subst X
    obtain rfl:u=Ic true:=W
    refine ⟨rfl,OldK.of_keep λb o e=>?_,os,bare⟩
    cases q:H b with
    | none=>exact un.keep b o e q (by intro z; exact absurd (show b∈([]:List Addr) from z) (by simp)) (by simp)
    | some u =>
     rcases Q b with z | ⟨ob,xs,z⟩
     .rw [q] at z; cases z
     .have z2:=un.frzs b ob _ z
      obtain ⟨e1,_⟩:=hok b _ z
      obtain ⟨e2,_⟩:=p b _ z2
      rw [e] at e1; cases e1
      exact e2
 cases E:K.lookup a with
 | some o =>
  have e:=T a o E
  rw [B] at e
  cases e
  refine i (λ_=>none) (λ_=>.inl rfl) (.inr ⟨_,vs.toArray,_,E,rfl,rfl,rfl,by rw [cD,l]; exact O,by simpa using L⟩) (λb u z=>by have j:(none:Option HO)=some u:=z; cases j) (λb z=>absurd rfl z) λz=>absurd rfl z
 | none =>
  refine i (λb=>if b=a then some (.frz { cls:=.type "list",data:=.seq vs.toArray } (.lst (ns.map V.int))) else none) (λb=>?_) (.inl (.inr ⟨{ cls:=.type "list",data:=.seq vs.toArray },if_pos rfl⟩)) (λb u z=>?_) (λb z=>?_) λ_=>E
  .by_cases f:b=a
   .exact .inr ⟨_,_,if_pos f⟩
   .exact .inl (if_neg f)
  .by_cases f:b=a
   .have j:=(if_pos f).symm.trans z
    cases j
    subst f
    exact ⟨B,by rw [az]; exact O,vs,_,L,B⟩
   .have j:=(if_neg f).symm.trans z
    cases j
  .by_cases f:b=a
   .exact f
   .exact absurd (if_neg f) z
def Mq {l:W.OpenLaw} {L:(Str->Option Value)->Heap->Prop} {K:Params->A6} {CX:Ey->mO} {sp:Ey->Sp}
  (y:l.most=some n) (P:n<=sizeLine) (M:d.params.defaults=[]) (r:Room k callerA)
  (B:∀ (w:Ey) (h:Heap),J w h->(K w.params).In h)
  (F:∀ (w:Ey) (mg:Str->Option Value) (fa:Addr) (h:Heap),(K w.params).In h->h.Ns Bs mg->mg d.name=some (.ref fa) →
   ∃ fd:Ih,(∀ (s:Shared) (u:Value),BindsTo s fd ⟨[u],[]⟩ [(x,u)]) ∧
    ∀ base:Heap,(K w.params).In base->base.Ns Bs mg->FnOk l.prog w (K w.params) mg base (CX w) k fa fd [x] (sp w))
  (i:∀ (w:Ey) (H:Hp) (a:Addr) (ns:List Int),ns.length<=n->zad H->bC (K w.params) H a (ns.map V.int)->sp w [.ref a] H (λv _=>v=.bl true) λ_ _ _=>False)
  (j:∀ (w:Ey) (H:Hp) (s:Shared) (e:Value) (s':Shared),CX w [] H s (λ_ _ _=>False) e s'->False) :
  PySem.W.WalkO q loose L J l.row.toRowW d [] (λf vs=>PySem.call f vs):=by
 refine Att.attach_call y M λw s₀ g mg mb fa o pm R doc a vs ns G Y Q hd z O p c b hg=>?_
 have m:=B w _ Y
 obtain ⟨fd,A,I⟩:=F w mg fa _ m G.T.g O
 exact C6 m G.T.g G.T.b G.T.builtins G.T.nolimit hg p c (fV b P) r I A (λH E C=>i w H a ns b E C) λH e s'=>j w H g e s'
def walk_ofK {l:W.OpenLaw} {p:(Str->Option Value)->Heap->Prop} {K:Params->A6} {sp:A6->Sp}
  (i:l.most=some n) (y:n<=sizeLine) (r:d.params.defaults=[]) (g:Room k callerA)
  (j:∀ (w:Ey) (h:Heap),o w h->(K w.params).In h)
  (F:∀ (w:Ey) (mg:Str->Option Value) (fa:Addr) (h:Heap),(K w.params).In h->h.Ns Bs mg->mg d.name=some (.ref fa) →
   ∃ fd:Ih,(∀ (s:Shared) (u:Value),BindsTo s fd ⟨[u],[]⟩ [(x,u)]) ∧
    ∀ base:Heap,(K w.params).In base->base.Ns Bs mg->FnOk l.prog w (K w.params) mg base CX k fa fd [x] (sp (K w.params)))
  (b:∀ (K:A6) (H:Hp) (a:Addr) (ns:List Int),ns.length<=n->zad H->bC K H a (ns.map V.int)->sp K [.ref a] H (λv _=>v=.bl true) λ_ _ _=>False)
  (c:∀ (H:Hp) (s:Shared) (e:Value) (s':Shared),CX [] H s (λ_ _ _=>False) e s'->False) :
  PySem.W.WalkO q loose p o l.row.toRowW d [] (λf vs=>PySem.call f vs) :=
 Mq (K:=K) (CX:=λ_=>CX) (sp:=λw=>sp (K w.params)) i y r g j F (λw H a ns h1 h2 m=>b (K w.params) H a ns h1 h2 m) λ_ H s e s'=>c H s e s'
def vO (s:Stmt):Arguments:=match s with
 | .FunctionDef _ a _ _ _ _ _ _ _ _=>a
 | _=>{ posonlyargs:=[],args:=[],vararg:=none,kwonlyargs:=[],kw_defaults:=[],kwarg:=none,defaults:=[] }
def wo (s:Stmt):List Stmt:=match s with
 | .FunctionDef _ _ b _ _ _ _ _ _ _=>b
 | _=>[]
def zl (s:Stmt):Scope:=match s with
 | .FunctionDef _ _ _ _ _ _ sc _ _ _=>sc
 | _=>{ kind:=.function,names:=[],isGenerator:=false,isCoroutine:=false }
abbrev bg:mO:=λ_ _ _ _ _ _=>False
abbrev E0:XK:=λ_ _ _=>False
def RW  : Je bg X E0:=λ_ _ _ _ _ _ _ h=>h.elim
structure Fun (K:A6) (x qual:Str) (st:Stmt) (f:Addr) (fd:Ih):Prop where
 ex:∃ (oc:Value) (od:Option Addr) (kV doc pm:Value) (an:Option Addr) (ar ct:Value) (fK:Array (Option Value)),
  fd=W.fnOf x qual (vO st) (wo st) (zl st) .none kV doc pm an ar ct/\K.lookup f=some ⟨oc,od,.func fd,fK⟩/\W.codeIn K ar qual=true
 kp:W.keepIn K (.ref f)=true
section
variable {P:Ej} {w:Ey} {K:A6} {mg:Str->Option Value} {base:Heap}
def Fun.ok  {st:Stmt} (F:Fun K x qual st f fd) (S:FnScope N ps (zl st)) (len:∀ vs H Q E,sp vs H Q E->vs.length=ps.length)
  (a:∀ (ar:Value) (A:Around) (outer:List Env) (s:Shared) (H:Hp) (vs:List V) (Q:VK) (E:XK),Room k (A.deeper (envOfC qual (zl st) s.heap.objs.size f ar))->sp vs H Q E →
   ∃ t,fG (Wh bg P w K mg base N qual (zl st) f ar A outer s H E).nox (wo st) t/\t { nx:=λ_ H'=>Q .non H',rt:=Q } (start N vs) H):FnOk P w K mg base bg (k+1) f fd ps sp:=by
 obtain ⟨oc,od,kV,doc,pm,an,ar,ct,fK,rfl,lk,c⟩:=F.ex
 refine Tc lk c S len λA outer s H vs Q E d b=>?_
 obtain ⟨t,h,q⟩:=a ar A outer s H vs Q E d b
 exact ⟨t,h.nox,q⟩
def Fun.binds  {st:Stmt} (F:Fun K x qual st f fd)
  (h:∀ (kV doc pm:Value) (an:Option Addr) (ar ct:Value) (us:List Value),us.length=ps.length->bindArgs (W.fnOf x qual (vO st) (wo st) (zl st) .none kV doc pm an ar ct) ⟨us,[]⟩=pure (ps.zip us)):Wg K fd ps []:=by
 obtain ⟨oc,od,kV,doc,pm,an,ar,ct,fK,rfl,lk,a⟩:=F.ex
 exact .all (h kV doc pm an ar ct)
def Hj  {st:Stmt} {kV doc pm ar ct:Value} (l:K.lookup f=some ⟨oc,od,.func (W.fnOf x qual (vO st) (wo st) (zl st) .none kV doc pm an ar ct),fK⟩)
  (c:W.codeIn K ar qual=true) (k:W.keepIn K (.ref f)=true):Fun K x qual st f (W.fnOf x qual (vO st) (wo st) (zl st) .none kV doc pm an ar ct):=⟨⟨oc,od,kV,doc,pm,an,ar,ct,fK,rfl,l,c⟩,k⟩
end
def yQ (h:n<=1000):n < sizeLine:=AJ h (by decide)
section
variable {X:Cx}
def pv (i) (c:X.N[i]? = some x:=by rfl) (b:iz X.env.scope x:=by first | exact E9 rfl | exact EI (E9 rfl) | exact EI (EI rfl)) (hd:(x==("__debug__":Str))=false:=by decide)
  (a:(x==("__classdict__":Str))=false:=by decide):PE X (.Name x pos) (zb5 i):=jh c b hd a
end
def GT {A B:Prop} (h:B):if false=true then A else B:=by
 rw [if_neg gp]
 exact h
def Kb {A B:Prop} (h:A):if true=true then A else B:=by
 rw [if_pos rfl]
 exact h
def z7 (H H':Hp):Prop:=∀ b o,H b=some o->H' b=some o
def z7.trans (a:z7 H H1) (b:z7 H1 H2):z7 H H2:=λc o h=>b c o (a c o h)
def z7.free (e:z7 H H') (h:H' l=Option.none):H l=Option.none:=by
 cases q:H l with
 | none=>rfl
 | some o =>
  rw [e l o q] at h
  cases h
def z7.seq {K:A6} (e:z7 H H') (h:bC K H a xs):bC K H' a xs:=by
 rcases h with (h | ⟨o,h⟩) | h
 .exact .inl (.inl (e _ _ h))
 .exact .inl (.inr ⟨o,e _ _ h⟩)
 .exact .inr h
section
variable {κ:Type} [DecidableEq κ]
end
end L2
set_option maxHeartbeats 4000000
namespace FL
open PySem PySem.Spec PyProof.Rows L2
abbrev St:=L2.St
inductive D where
 | non
 | bl (b:Bool)
 | int (i:Int)
 | str (x:Str)
 | tup (ds:List D)
 | lst (ds:List D)
 deriving Inhabited
mutual
def ae (K:A6) (H:Hp):D->V->Prop
 | .non,v=>v=.non
 | .bl b,v=>v=.bl b
 | .int i,v=>v=.int i
 | .str x,v=>v=.str x
 | .tup ds,v=>∃ a xs,v=.ref a/\bF K H a xs/\zP K H ds xs
 | .lst ds,v=>∃ a xs,v=.ref a/\bC K H a xs/\zP K H ds xs
def zP (K:A6) (H:Hp):List D->List V->Prop
 | [],xs=>xs=[]
 | d :: ds,xs=>∃ x r,xs=x :: r/\ae K H d x/\zP K H ds r
end
def zE  : z7 H H:=λ_ _ e=>e
def je {K:A6} (e:z7 H H') (h:bF K H a xs):bF K H' a xs:=by
 rcases h with (h | ⟨o,h⟩) | h
 .exact .inl (.inl (e _ _ h))
 .exact .inl (.inr ⟨o,e _ _ h⟩)
 .exact .inr h
section
variable {K:A6} {H H':Hp}
mutual
theorem ae.mono (s:z7 H H'):∀ {d:D} {v:V},ae K H d v->ae K H' d v
 | .non,_,h=>by unfold ae at h ⊢; exact h
 | .bl _,_,h=>by unfold ae at h ⊢; exact h
 | .int _,_,h=>by unfold ae at h ⊢; exact h
 | .str _,_,h=>by unfold ae at h ⊢; exact h
 | .tup ds,v,h=>by
  unfold ae at h ⊢
  obtain ⟨a,xs,e,q,l⟩:=h
  exact ⟨a,xs,e,je s q,zP.mono s l⟩
 | .lst ds,v,h=>by
  unfold ae at h ⊢
  obtain ⟨a,xs,e,q,l⟩:=h
  exact ⟨a,xs,e,s.seq q,zP.mono s l⟩
theorem zP.mono (s:z7 H H'):∀ {ds:List D} {xs:List V},zP K H ds xs->zP K H' ds xs
 | [],_,h=>by unfold zP at h ⊢; exact h
 | d :: ds,xs,h=>by
  unfold zP at h ⊢
  obtain ⟨x,r,e,h1,h2⟩:=h
  exact ⟨x,r,e,ae.mono s h1,zP.mono s h2⟩
end
def Ex  : ae K H .non v↔v=.non:=by unfold ae; rfl
def Eb   : ae K H (.bl b) v↔v=.bl b:=by unfold ae; rfl
def u9   : ae K H (.int i) v↔v=.int i:=by unfold ae; rfl
def Ei   : ae K H (.str x) v↔v=.str x:=by unfold ae; rfl
def D_   : ae K H (.tup ds) v↔∃ a xs,v=.ref a/\bF K H a xs/\zP K H ds xs:=by
 constructor
 .intro h; unfold ae at h; exact h
 .intro h; unfold ae; exact h
def En   : ae K H (.lst ds) v↔∃ a xs,v=.ref a/\bC K H a xs/\zP K H ds xs:=by
 constructor
 .intro h; unfold ae at h; exact h
 .intro h; unfold ae; exact h
def zP.nil_iff  : zP K H [] xs↔xs=[]:=by unfold zP; rfl
def B_    : zP K H (d :: ds) xs↔∃ x r,xs=x :: r/\ae K H d x/\zP K H ds r:=by
 constructor
 .intro h; unfold zP at h; exact h
 .intro h; unfold zP; exact h
def zP.nil:zP K H [] []:=zP.nil_iff.mpr rfl
def zP.cons (h:ae K H d x) (t:zP K H ds xs):zP K H (d :: ds) (x :: xs):=B_.mpr ⟨x,xs,rfl,h,t⟩
theorem zP.length:∀ {ds:List D} {xs:List V},zP K H ds xs->xs.length=ds.length
 | [],_,h=>by rw [zP.nil_iff] at h; subst h; rfl
 | d :: ds,xs,h=>by
  obtain ⟨x,r,e,_,h2⟩:=B_.mp h
  subst e
  simp [zP.length h2]
theorem zP.get:∀ {ds:List D} {xs:List V} {i:Nat} {d:D},zP K H ds xs->ds[i]? = some d->∃ v,xs[i]? = some v/\ae K H d v
 | [],_,_,_,_,e=>by simp at e
 | d :: ds,xs,i,d',h,e=>by
  obtain ⟨x,r,c,h1,h2⟩:=B_.mp h
  subst c
  cases i with
  | zero=>simp at e; subst e; exact ⟨x,rfl,h1⟩
  | succ i =>
   obtain ⟨v,b,a⟩:=zP.get (i:=i) (d:=d') h2 (by simpa using e)
   exact ⟨v,by simpa using b,a⟩
theorem zP.append:∀ {ds es:List D} {xs ys:List V},zP K H ds xs->zP K H es ys->zP K H (ds++es) (xs++ys)
 | [],_,_,_,h,h'=>by rw [zP.nil_iff] at h; subst h; exact h'
 | d :: ds,es,xs,ys,h,h'=>by
  obtain ⟨x,r,e,h1,h2⟩:=B_.mp h
  subst e
  exact .cons h1 (zP.append h2 h')
theorem zP.drop:∀ {ds:List D} {xs:List V} (n:Nat),zP K H ds xs->zP K H (ds.drop n) (xs.drop n)
 | _,_,0,h=>by simpa using h
 | [],_,n+1,h=>by rw [zP.nil_iff] at h; subst h; simpa using zP.nil
 | d :: ds,xs,n+1,h=>by
  obtain ⟨x,r,e,h1,h2⟩:=B_.mp h
  subst e
  exact zP.drop n h2
theorem zP.take:∀ {ds:List D} {xs:List V} (n:Nat),zP K H ds xs->zP K H (ds.take n) (xs.take n)
 | _,_,0,h=>by simpa using zP.nil
 | [],_,n+1,h=>by rw [zP.nil_iff] at h; subst h; simpa using zP.nil
 | d :: ds,xs,n+1,h=>by
  obtain ⟨x,r,e,h1,h2⟩:=B_.mp h
  subst e
  exact .cons h1 (zP.take n h2)
def zP.reverse (h:zP K H ds xs):zP K H ds.reverse xs.reverse:=by
 induction ds generalizing xs with
 | nil=>rw [zP.nil_iff] at h; subst h; exact zP.nil
 | cons d ds a =>
  obtain ⟨x,r,e,h1,h2⟩:=B_.mp h
  subst e
  rw [lx,lx]
  exact (a h2).append (.cons h1 .nil)
theorem zP.ints:∀ (ns:List Int),zP K H (ns.map D.int) (ns.map V.int)
 | []=>.nil
 | n :: ns=>.cons (u9.mpr rfl) (zP.ints ns)
end
def KTy:Nat->Type
 | 0=>Int
 | n+1=>List (KTy n)
def fF:(n:Nat)->KTy n->D
 | 0,i=>.int i
 | n+1,l=>.tup (dC (fF n) l)
def YC:(n:Nat)->KTy n->Int
 | 0,i=>hashInt i
 | n+1,l=>reduceHash (EY (dC (YC n) l))
def qA (n:Nat) (xs:List (KTy n×Addr)) (a:Addr) (h:Heap):Prop :=
 (a==EE)=false/\∃ o es ep,h.get? a=some o/\o.ExactDict/\o.data=.dict es ep/\(es.toList=xs.map λx=>⟨YC n x.1,.ref x.2,.bool true⟩)/\(xs.map (·.1)).Nodup/\xs.length<=sizeLine
inductive Slot where
 | no
 | fr (d:D)
 | ol (ds:List D)
 | oT (ag:List (List Key×D))
 | oX (n:Nat) (ks:List (KTy n))
 deriving Inhabited
def Slot.own:Slot->Bool
 | .ol _=>true
 | .oT _=>true
 | .oX _ _=>true
 | _=>false
abbrev bj:=List Slot
def fg (K:A6) (H:Hp) {κ:Type}:List (κ×D)->List (κ×V)->Prop:=Paired λp q=>p.1=q.1/\ae K H p.2 q.2
def fg.mono {K:A6} (s:z7 H H') {m:List (κ×V)} (h:fg K H l m):fg K H' l m:=F_ h λ_ _ z=>⟨z.1,ae.mono s z.2⟩
def YI (K:A6) (H Hf:Hp) (a:Addr):Slot->Prop
 | .ol ds=>∃ xs,H a=some (.lst xs)/\zP K Hf ds xs
 | .oT ag=>∃ ws,H a=some (.dT ws)/\fg K Hf ag ws
 | .oX n ks=>∃ xs:List (KTy n×Addr),H a=some (.ext (qA n xs a))/\xs.map (·.1)=ks/\∀ x∈xs,ae K Hf (fF n x.1) (.ref x.2)
 | _=>True
def YI.mono {K:A6} (h:YI K H Hf a sl) (k:∀ o,H a=some o->H' a=some o) (s:z7 Hf ah):YI K H' ah a sl:=by
 cases sl with
 | no=>trivial
 | fr d=>trivial
 | ol ds=>obtain ⟨xs,e,q⟩:=h; exact ⟨xs,k _ e,q.mono s⟩
 | oT ag=>obtain ⟨xs,e,q⟩:=h; exact ⟨xs,k _ e,fg.mono s q⟩
 | oX n ks=>obtain ⟨xs,e,c,b⟩:=h; exact ⟨xs,k _ e,c,λx f=>(b x f).mono s⟩
def YI.there {K:A6} (h:YI K H Hf a sl) (ow:sl.own=true):∃ o,H a=some o:=by
 cases sl with
 | no=>cases ow
 | fr d=>cases ow
 | ol ds=>obtain ⟨xs,e,q⟩:=h; exact ⟨_,e⟩
 | oT ag=>obtain ⟨xs,e,q⟩:=h; exact ⟨_,e⟩
 | oX n ks=>obtain ⟨xs,e,q⟩:=h; exact ⟨_,e⟩
def Tp (o:HO):Prop:=∃ ks:List Key,o=.tup (ks.map kV)
structure Rep (K:A6) (H₀ aa:Hp) (σ:St) (ρ:bj) (H Hf:Hp):Prop where
 s0:z7 H₀ H
 sf:z7 Hf H
 nf:∀ b o,Hf b=some o->aa b=some o\/H₀ b=none\/Tp o
 f0:z7 aa Hf
 len:ρ.length=σ.length
 fr:∀ (i:Nat) (d:D),ρ[i]? = some (.fr d)->∃ v,σ[i]? = some (some v)/\ae K Hf d v
 ow:∀ (i:Nat) (sl:Slot),ρ[i]? = some sl->sl.own=true->∃ a,σ[i]? = some (some (.ref a))/\YI K H Hf a sl/\Hf a=none/\H₀ a=none
 inj:∀ (i j:Nat) (sl cG:Slot) (a:Addr),ρ[i]? = some sl->sl.own=true->ρ[j]? = some cG->cG.own=true->σ[i]? = some (some (.ref a))->σ[j]? = some (some (.ref a))->i=j
def YI.notTp {K:A6} {H Hf H':Hp} (h:YI K H Hf a sl) (ow:sl.own=true) (k:∀ o,H a=some o->H' a=some o) (z:H' a=some u) (t:Tp u):False:=by
 obtain ⟨ks,rfl⟩:=t
 cases sl with
 | no=>cases ow
 | fr d=>cases ow
 | ol ds=>obtain ⟨xs,e,q⟩:=h; have:=(k _ e).symm.trans z; cases this
 | oT ag=>obtain ⟨xs,e,q⟩:=h; have:=(k _ e).symm.trans z; cases this
 | oX n ks=>obtain ⟨xs,e,q⟩:=h; have:=(k _ e).symm.trans z; cases this
section
variable {K:A6} {H₀ aa:Hp} {σ:St} {ρ:bj} {H Hf H' ah:Hp}
def Rep.grow (R:Rep K H₀ aa σ ρ H Hf) (h1:z7 H H') (h2:z7 Hf ah) (h:z7 ah H') (g:∀ b o,ah b=some o->Hf b=some o\/H b=none\/Tp o):Rep K H₀ aa σ ρ H' ah where
 s0:=R.s0.trans h1
 sf:=h
 nf:=λb o e=>by
  rcases g b o e with q | q | q
  .exact R.nf b o q
  .exact .inr (.inl (R.s0.free q))
  .exact .inr (.inr q)
 f0:=R.f0.trans h2
 len:=R.len
 fr:=λi d e=>by
  obtain ⟨v,f,c⟩:=R.fr i d e
  exact ⟨v,f,c.mono h2⟩
 ow:=λi sl e o=>by
  obtain ⟨a,f,c,l,k⟩:=R.ow i sl e o
  refine ⟨a,f,c.mono (λo e=>h1 _ _ e) h2,?_,k⟩
  obtain ⟨ob,j⟩:=c.there o
  cases z:ah a with
  | none=>rfl
  | some u =>
   rcases g a u z with y | y | y
   .rw [l] at y; cases y
   .rw [j] at y; cases y
   .exact (c.notTp o (λo=>h1 a o) (h _ _ z) y).elim
 inj:=R.inj
def Rep.lay (R:Rep K H₀ aa σ ρ H Hf) (c:H p=none):Rep K H₀ aa σ ρ (upd H p o) (upd Hf p o):=by
 have d:Hf p=none:=R.sf.free c
 refine R.grow (λb u e=>?_) (λb u e=>?_) (λb u e=>?_) (λb u e=>?_)
 .rw [zw (zU e c)]; exact e
 .rw [zw (zU e d)]; exact e
 .by_cases a:b=p
  .subst a; rw [zq] at e ⊢; exact e
  .rw [zw a] at e ⊢; exact R.sf b u e
 .by_cases a:b=p
  .subst a; exact .inr (.inl c)
  .rw [zw a] at e; exact .inl e
def Rep.layN (R:Rep K H₀ aa σ ρ H Hf) (a:H p=none):Rep K H₀ aa σ ρ (upd H p o) Hf:=by
 refine R.grow (λb u e=>?_) zE (λb u e=>?_) (λb u e=>.inl e)
 .rw [zw (zU e a)]; exact e
 .rw [zw (zU (R.sf b u e) a)]; exact R.sf b u e
def zG (a:H p=none):z7 H (upd H p o):=λb u e=>by rw [zw (zU e a)]; exact e
def Rep.set (R:Rep K H₀ aa σ ρ H Hf) {d:D} {v:V} (i:Nat) (h:ae K Hf d v):Rep K H₀ aa (σ.set i (some v)) (ρ.set i (.fr d)) H Hf where
 s0:=R.s0
 sf:=R.sf
 nf:=R.nf
 f0:=R.f0
 len:=by simp [R.len]
 fr:=λj d' e=>by
  rw [du] at e ⊢
  by_cases b:i=j
  .rw [if_pos b] at e ⊢
   split at e
   .cases e
    rename_i g
    rw [R.len] at g
    rw [if_pos g]
    exact ⟨v,rfl,h⟩
   .cases e
  .rw [if_neg b] at e ⊢
   exact R.fr j d' e
 ow:=λj sl e o=>by
  rw [du] at e ⊢
  by_cases b:i=j
  .rw [if_pos b] at e
   split at e
   .cases e; cases o
   .cases e
  .rw [if_neg b] at e ⊢
   exact R.ow j sl e o
 inj:=λj k sl cG a e o c o' z f=>by
  rw [du] at e c z f
  by_cases b:i=j
  .rw [if_pos b] at e
   split at e
   .cases e; cases o
   .cases e
  .by_cases l:i=k
   .rw [if_pos l] at c
    split at c
    .cases c; cases o'
    .cases c
   .rw [if_neg b] at e z
    rw [if_neg l] at c f
    exact R.inj j k sl cG a e o c o' z f
def Rep.setOwn (R:Rep K H₀ aa σ ρ H Hf) {sl:Slot} {a:Addr} (i:Nat) (m:sl.own=true) (h:YI K H Hf a sl) (n:Hf a=none) (p:H₀ a=none)
  (fresh:∀ (j:Nat) (cG:Slot),ρ[j]? = some cG->cG.own=true->σ[j]? ≠ some (some (.ref a))):Rep K H₀ aa (σ.set i (some (.ref a))) (ρ.set i sl) H Hf where
 s0:=R.s0
 sf:=R.sf
 nf:=R.nf
 f0:=R.f0
 len:=by simp [R.len]
 fr:=λj d' e=>by
  rw [du] at e ⊢
  by_cases d:i=j
  .rw [if_pos d] at e
   split at e
   .cases e; cases m
   .cases e
  .rw [if_neg d] at e ⊢
   exact R.fr j d' e
 ow:=λj cG e o=>by
  rw [du] at e ⊢
  by_cases d:i=j
  .rw [if_pos d] at e ⊢
   split at e
   .cases e
    rename_i l
    rw [R.len] at l
    rw [if_pos l]
    exact ⟨a,rfl,h,n,p⟩
   .cases e
  .rw [if_neg d] at e ⊢
   exact R.ow j cG e o
 inj:=λj k s1 s2 b e o f o' z c=>by
  rw [du] at e f z c
  by_cases d:i=j
  .by_cases g:i=k
   .omega
   .rw [if_pos d] at z
    rw [if_neg g] at f c
    split at z
    .cases z
     exact absurd c (fresh k s2 f o')
    .cases z
  .by_cases g:i=k
   .rw [if_pos g] at c
    rw [if_neg d] at e z
    split at c
    .cases c
     exact absurd z (fresh j s1 e o)
    .cases c
   .rw [if_neg d] at e z
    rw [if_neg g] at f c
    exact R.inj j k s1 s2 b e o f o' z c
def Rep.updOwn (R:Rep K H₀ aa σ ρ H Hf) (e:ρ[i]? = some sl) (g:sl.own=true) (l:σ[i]? = some (some (.ref a))) (M:cG.own=true) (h:YI K (upd H a o) Hf a cG) :
  Rep K H₀ aa σ (ρ.set i cG) (upd H a o) Hf:=by
 obtain ⟨P,p,O,n,m⟩:=R.ow i sl e g
 rw [l] at p; cases p
 have s:i < ρ.length:=(dw.mp e).1
 refine ⟨λb u z=>?_,λb u z=>?_,R.nf,R.f0,by simp [R.len],λj d z=>?_,λj s1 z f=>?_,λj k s1 s2 b z f w L y x=>?_⟩
 .rw [zw (zU z m)]; exact R.s0 b u z
 .rw [zw (zU z n)]; exact R.sf b u z
 .rw [du] at z
  by_cases c:i=j
  .rw [if_pos c,if_pos s] at z
   cases z; cases M
  .rw [if_neg c] at z
   exact R.fr j d z
 .rw [du] at z
  by_cases c:i=j
  .rw [if_pos c,if_pos s] at z
   cases z
   subst c
   exact ⟨a,l,h,n,m⟩
  .rw [if_neg c] at z
   obtain ⟨b,r,p2,J,I⟩:=R.ow j s1 z f
   refine ⟨b,r,p2.mono (λu q=>?_) zE,J,I⟩
   rw [zw]
   .exact q
   .rintro rfl
    exact c (R.inj i j sl s1 b e g z f l r)
 .have v:∀ (j:Nat) (s1:Slot),(ρ.set i cG)[j]? = some s1->s1.own=true->∃ s2,ρ[j]? = some s2/\s2.own=true:=λj s1 z f=>by
   rw [du] at z
   by_cases c:i=j
   .subst c; exact ⟨sl,e,g⟩
   .rw [if_neg c] at z; exact ⟨s1,z,f⟩
  obtain ⟨G,E,B⟩:=v j s1 z f
  obtain ⟨F,C,A⟩:=v k s2 w L
  exact R.inj j k G F b E B C A y x
def Rep.freeze (R:Rep K H₀ aa σ ρ H Hf) (e:ρ[i]? = some (.ol ds)):∃ ah,z7 Hf ah/\Rep K H₀ aa σ (ρ.set i (.fr (.lst ds))) H ah:=by
 obtain ⟨a,o,⟨xs,B,m⟩,A,x⟩:=R.ow i _ e rfl
 have n:i < ρ.length:=(dw.mp e).1
 have g:z7 Hf (upd Hf a (.lst xs)):=zG A
 refine ⟨upd Hf a (.lst xs),g,R.s0,λb u z=>?_,λb u z=>?_,R.f0.trans g,by simp [R.len],λj d z=>?_,λj s1 z f=>?_,λj k s1 s2 b z f s p y w=>?_⟩
 .by_cases h:b=a
  .subst h; rw [zq] at z; cases z; exact B
  .rw [zw h] at z; exact R.sf b u z
 .by_cases h:b=a
  .subst h; exact .inr (.inl x)
  .rw [zw h] at z; exact R.nf b u z
 .rw [du] at z
  by_cases c:i=j
  .rw [if_pos c,if_pos n] at z
   cases z
   subst c
   exact ⟨_,o,En.mpr ⟨a,xs,rfl,bC.of zq,m.mono g⟩⟩
  .rw [if_neg c] at z
   obtain ⟨v,l,p2⟩:=R.fr j d z
   exact ⟨v,l,p2.mono g⟩
 .rw [du] at z
  by_cases c:i=j
  .rw [if_pos c,if_pos n] at z
   cases z; cases f
  .rw [if_neg c] at z
   obtain ⟨b,l,p2,E,C⟩:=R.ow j s1 z f
   refine ⟨b,l,p2.mono (λu q=>q) g,?_,C⟩
   rw [zw]
   .exact E
   .rintro rfl
    exact c (R.inj i j _ s1 b e rfl z f o l)
 .have r:∀ (j:Nat) (s1:Slot),(ρ.set i (.fr (.lst ds)))[j]? = some s1->s1.own=true->ρ[j]? = some s1:=λj s1 z f=>by
   rw [du] at z
   by_cases c:i=j
   .rw [if_pos c,if_pos n] at z
    cases z; cases f
   .rw [if_neg c] at z; exact z
  exact R.inj j k s1 s2 b (r j s1 z f) f (r k s2 s p) p y w
end
end FL
namespace FL
open PySem PySem.Spec PyProof.Rows L2
abbrev FE:=bj->Option D
abbrev FT:=bj->Option Bool
abbrev FA:=bj->Option (List D)
inductive Out where
 | nx (ρ:bj)
 | rt (d:D)
 | bk (ρ:bj)
 | ct (ρ:bj)
abbrev FS:=bj->Option Out
def qP (K:A6) (Hf:Hp) (σ:St) (ρ:bj) (d:D) (v:V):Prop:=ae K Hf d v\/∃ (i:Nat) (ds:List D),d=.lst ds/\ρ[i]? = some (.ol ds)/\σ[i]? = some (some v)
def qP.mono {K:A6} (h:qP K Hf σ ρ d v) (s:z7 Hf ah):qP K ah σ ρ d v:=h.imp (ae.mono s) id
inductive tF (K:A6) (f:FE) (σ:St) (H:Hp) (Q:VK):Prop
 |mk (H₀ aa ρ Hf d) (a0:Rep K H₀ aa σ ρ H Hf) (a1:f ρ=some d) (a2:∀ v H' ah,Rep K H₀ aa σ ρ H' ah->z7 H H'->z7 Hf ah->ae K ah d v->Q v H')
inductive tR (K:A6) (f:FE) (σ:St) (H:Hp) (Q:VK):Prop
 |mk (H₀ aa ρ Hf d) (a0:Rep K H₀ aa σ ρ H Hf) (a1:f ρ=some d) (a2:∀ v H' ah,Rep K H₀ aa σ ρ H' ah->z7 H H'->z7 Hf ah->qP K ah σ ρ d v->Q v H')
inductive tN (K:A6) (f:FA) (σ:St) (H:Hp) (Q:VK):Prop
 |mk (H₀ aa ρ Hf ds) (a0:Rep K H₀ aa σ ρ H Hf) (a1:f ρ=some ds) (a2:∀ a xs H' ah,Rep K H₀ aa σ ρ H' ah->z7 H H'->z7 Hf ah->zP K ah ds xs->H' a=some (.lst xs)->ah a=none->H a=none->Q (.ref a) H')
inductive tT (K:A6) (f:FT) (σ:St) (H:Hp) (Q:Bool->Hp->Prop):Prop
 |mk (H₀ aa ρ Hf b) (a0:Rep K H₀ aa σ ρ H Hf) (a1:f ρ=some b) (a2:∀ H' ah,Rep K H₀ aa σ ρ H' ah->z7 H H'->z7 Hf ah->Q b H')
inductive tAF (K:A6) (f:FA) (σ:St) (H:Hp) (Q:List V->Hp->Prop):Prop
 |mk (H₀ aa ρ Hf ds) (a0:Rep K H₀ aa σ ρ H Hf) (a1:f ρ=some ds) (a2:∀ vs H' ah,Rep K H₀ aa σ ρ H' ah->z7 H H'->z7 Hf ah->zP K ah ds vs->Q vs H')
def jS (K:A6) (Hf:Hp) (σ:St) (ρ:bj):List D->List V->Prop:=Paired (qP K Hf σ ρ)
inductive tAR (K:A6) (f:FA) (σ:St) (H:Hp) (Q:List V->Hp->Prop):Prop
 |mk (H₀ aa ρ Hf ds) (a0:Rep K H₀ aa σ ρ H Hf) (a1:f ρ=some ds) (a2:∀ vs H' ah,Rep K H₀ aa σ ρ H' ah->z7 H H'->z7 Hf ah->jS K ah σ ρ ds vs->Q vs H')
def P8 (K:A6) (H₀ aa Hf:Hp) (D':Ends):Out->Prop
 | .nx aD=>∀ aC H' ah,Rep K H₀ aa aC aD H' ah->z7 Hf ah->D'.nx aC H'
 | .bk aD=>∀ aC H' ah,Rep K H₀ aa aC aD H' ah->z7 Hf ah->D'.bk aC H'
 | .ct aD=>∀ aC H' ah,Rep K H₀ aa aC aD H' ah->z7 Hf ah->D'.ct aC H'
 | .rt d=>∀ v aC aD H' ah,Rep K H₀ aa aC aD H' ah->z7 Hf ah->ae K ah d v->D'.rt v H'
inductive tS (K:A6) (F:FS) (D':Ends) (σ:St) (H:Hp):Prop
 |mk (H₀ aa ρ Hf o) (a0:Rep K H₀ aa σ ρ H Hf) (a1:F ρ=some o) (a2:P8 K H₀ aa Hf D' o)
def DE (X:Cx) (e:Expr) (f:FE):Prop:=PE X e (tF X.K f)
def DR (X:Cx) (e:Expr) (f:FE):Prop:=PE X e (tR X.K f)
def DN (X:Cx) (e:Expr) (f:FA):Prop:=PE X e (tN X.K f)
def DT (X:Cx) (e:Expr) (f:FT):Prop:=PT X e (tT X.K f)
def DW (X:Cx) (e:Expr) (f:FT):Prop:=PW X e (tT X.K f)
def DA (X:Cx) (es:List Expr) (f:FA):Prop:=PA X es (tAF X.K f)
def i_ (X:Cx) (es:List Expr) (f:FA):Prop:=PA X es (tAR X.K f)
def DS (X:Cx) (st:Stmt) (F:FS):Prop:=PS X st (tS X.K F)
def gQ (X:Cx) (il:List Stmt) (F:FS):Prop:=fG X il (tS X.K F)
section
variable {X:Cx} {e a b c:Expr} {es:List Expr} {f g h:FE} {fa ga:FA} {ft gt:FT} {pos:Pos} {t t':TE}
def yu (h:PE X e t) (i:∀ σ H Q,t' σ H Q->t σ H Q):PE X e t':=λpins s σ H Q I d=>h pins s σ H Q I (i _ _ _ d)
def WJ {t t':TT} (h:PT X e t) (i:∀ σ H Q,t' σ H Q->t σ H Q):PT X e t':=λpins s σ H Q I d=>h pins s σ H Q I (i _ _ _ d)
def Fz {t t':TT} (h:PW X e t) (i:∀ σ H Q,t' σ H Q->t σ H Q):PW X e t':=λd pins s σ H Q I j=>h d pins s σ H Q I (i _ _ _ j)
def Ql {t t':TA} (h:PA X es t) (i:∀ σ H Q,t' σ H Q->t σ H Q):PA X es t':=λp pins s σ H Q I d=>h p pins s σ H Q I (i _ _ _ d)
def x8 {st:Stmt} {t t':TS} (h:PS X st t) (i:∀ D σ H,t' D σ H->t D σ H):PS X st t':=λpins s σ H D I d=>h pins s σ H D I (i _ _ _ d)
def j6  {t t':TS} (h:fG X il t) (i:∀ D σ H,t' D σ H->t D σ H):fG X il t':=λpins s σ H D I d=>h pins s σ H D I (i _ _ _ d)
def mo (j:DE X e f):DR X e f:=yu j λσ H Q ⟨H₀,aa,ρ,Hf,d,R,q,k⟩=>⟨H₀,aa,ρ,Hf,d,R,q,λv H' ah R' s1 s2 i=>k v H' ah R' s1 s2 (.inl i)⟩
def xD (fa:FA):FE:=λρ=>(fa ρ).map D.lst
def ED (A:DN X e fa):DE X e (xD fa):=yu A λσ H Q ⟨H₀,aa,ρ,Hf,d,R,q,k⟩=>by
 unfold xD at q
 cases n:fa ρ with
 | none=>rw [n] at q; cases q
 | some ds =>
  rw [n] at q; cases q
  refine ⟨H₀,aa,ρ,Hf,ds,R,n,λa xs H' ah R' s1 s2 y B x hh=>?_⟩
  have j:z7 ah (upd ah a (.lst xs)):=zG x
  have C:H₀ a=none:=R.s0.free hh
  refine k (.ref a) H' (upd ah a (.lst xs)) ?_ s1 (s2.trans j) (En.mpr ⟨a,xs,rfl,bC.of zq,y.mono j⟩)
  refine ⟨R'.s0,λb u z=>?_,λb u z=>?_,R'.f0.trans j,R'.len,λi d z=>?_,λi sl z o=>?_,R'.inj⟩
  .by_cases l:b=a
   .subst l; rw [zq] at z; cases z; exact B
   .rw [zw l] at z; exact R'.sf b u z
  .by_cases l:b=a
   .subst l; exact .inr (.inl C)
   .rw [zw l] at z; exact R'.nf b u z
  .obtain ⟨v,m,p2⟩:=R'.fr i d z
   exact ⟨v,m,p2.mono j⟩
  .obtain ⟨b,m,p2,F,E⟩:=R.ow i sl z o
   obtain ⟨G,p,s,r3,r⟩:=R'.ow i sl z o
   rw [m] at p; cases p
   refine ⟨b,m,s.mono (λu q=>q) j,?_,r⟩
   rw [zw]
   .exact r3
   .rintro rfl
    obtain ⟨o',w⟩:=p2.there o
    rw [w] at hh; cases hh
def vF (i:Nat):FE:=λρ=>match ρ[i]? with
 | some (.fr d)=>some d
 | _=>none
def vR (i:Nat):FE:=λρ=>match ρ[i]? with
 | some (.fr d)=>some d
 | some (.ol ds)=>some (.lst ds)
 | _=>none
def dv (i) (m:X.N[i]? = some x:=by rfl) (l:iz X.env.scope x:=by first | exact E9 rfl | exact EI (E9 rfl) | exact EI (EI rfl)) (hd:(x==("__debug__":Str))=false:=by decide)
  (j:(x==("__classdict__":Str))=false:=by decide):DE X (.Name x pos) (vF i) :=
 yu (jh m l hd j) λσ H Q ⟨H₀,aa,ρ,Hf,d,R,q,k⟩=>by
  unfold vF at q
  split at q
  .cases q
   rename_i e
   obtain ⟨v,e1,e2⟩:=R.fr i d e
   exact ⟨v,e1,k v H Hf R zE zE e2⟩
  .cases q
def hV (i) (m:X.N[i]? = some x:=by rfl) (l:iz X.env.scope x:=by first | exact E9 rfl | exact EI (E9 rfl) | exact EI (EI rfl)) (hd:(x==("__debug__":Str))=false:=by decide)
  (j:(x==("__classdict__":Str))=false:=by decide):DR X (.Name x pos) (vR i) :=
 yu (jh m l hd j) λσ H Q ⟨H₀,aa,ρ,Hf,d,R,q,k⟩=>by
  unfold vR at q
  split at q
  .cases q
   rename_i e
   obtain ⟨v,e1,e2⟩:=R.fr i d e
   exact ⟨v,e1,k v H Hf R zE zE (.inl e2)⟩
  .cases q
   rename_i ds e
   obtain ⟨a,e1,e2,_⟩:=R.ow i _ e rfl
   exact ⟨.ref a,e1,k _ H Hf R zE zE (.inr ⟨i,ds,rfl,e,e1⟩)⟩
  .cases q
def cF (d:D):FE:=λ_=>some d
def zm  {j pos}:DE X (.Constant (.int i) j pos) (cF (.int i)):=yu K9 λσ H Q ⟨H₀,aa,ρ,Hf,d,R,q,k⟩=>by cases q; exact k _ _ _ R zE zE (u9.mpr rfl)
def P4  {j pos}:DE X (.Constant (.bool i) j pos) (cF (.bl i)):=yu RV λσ H Q ⟨H₀,aa,ρ,Hf,d,R,q,k⟩=>by cases q; exact k _ _ _ R zE zE (Eb.mpr rfl)
def UG {j pos}:DE X (.Constant .none j pos) (cF .non):=yu RT λσ H Q ⟨H₀,aa,ρ,Hf,d,R,q,k⟩=>by cases q; exact k _ _ _ R zE zE (Ex.mpr rfl)
def Pp  {j pos}:DE X (.Constant (.str x) j pos) (cF (.str x)):=yu FO λσ H Q ⟨H₀,aa,ρ,Hf,d,R,q,k⟩=>by cases q; exact k _ _ _ R zE zE (Ei.mpr rfl)
def B6:D->Option V
 | .non=>some .non
 | .bl b=>some (.bl b)
 | .int i=>some (.int i)
 | .str x=>some (.str x)
 | _=>none
def Mg (hg:Gl X x) (j:X.mg x=some u) (i:B6 d=some v) (r:yO v u) (hd:(x==("__debug__":Str))=false:=by decide):DE X (.Name x pos) (cF d) :=
 yu (vi hg j r hd) λσ H Q ⟨H₀,aa,ρ,Hf,d',R,q,k⟩=>by
  cases q
  refine k _ _ _ R zE zE ?_
  cases d <;> cases i
  .exact Ex.mpr rfl
  .exact Eb.mpr rfl
  .exact u9.mpr rfl
  .exact Ei.mpr rfl
def zt (φ:D->D->Option D) (f g:FE):FE:=λρ=>(f ρ).bind λx=>(g ρ).bind λy=>φ x y
def eN (X:Cx) (r:R2) (φ:D->D->Option D):Prop :=
 ∀ (σ:St) (ρ:bj) (H₀ aa H Hf:Hp) (x y:V) (dx i d:D) (Q:VK),Rep X.K H₀ aa σ ρ H Hf->qP X.K Hf σ ρ dx x->qP X.K Hf σ ρ i y->φ dx i=some d →
  (∀ v H' ah,Rep X.K H₀ aa σ ρ H' ah->z7 H H'->z7 Hf ah->ae X.K ah d v->Q v H')->r x y H Q
def U5 (x:eN X r φ) (σ:St) (H:Hp) (Q:VK) (hh:tF X.K (zt φ f g) σ H Q):r0 r (tR X.K f) (tR X.K g) σ H Q:=by
 obtain ⟨H₀,aa,ρ,Hf,d,R,q,k⟩:=hh
 unfold zt at q
 cases hf:f ρ with
 | none=>rw [hf] at q; cases q
 | some dx =>
  cases hg:g ρ with
  | none=>rw [hf,hg] at q; cases q
  | some j =>
   rw [hf,hg] at q
   refine ⟨H₀,aa,ρ,Hf,dx,R,hf,λv H1 w z s1 n h1=>⟨H₀,aa,ρ,w,j,z,hg,λu H2 aK R2 s2 i h2=>?_⟩⟩
   exact x σ ρ H₀ aa H2 aK v u dx j d Q R2 (h1.mono i) h2 q λl A s y o m p=>k l A s y ((s1.trans s2).trans o) ((n.trans i).trans m) p
def Tv (d:cu X (Ig op) r) (k:eN X r φ) (j:DR X a f) (i:DR X b g):DE X (.BinOp a op b pos) (zt φ f g) :=
 yu (RS d j i) (U5 k)
def J3 (d:cu X (EV op) r) (l:eN X r φ) (k:DR X a f) (j:DR X b g) (i:Ew op b=false):DE X (.Compare a [op] [b] pos) (zt φ f g) :=
 yu (M9 d k j i) (U5 l)
def zbw (i:lC X r) (l:eN X r φ) (k:DR X a f) (j:DR X b g) (d:UO b):DE X (.Subscript a b pos) (zt φ f g) :=
 yu (za8 i k j d) (U5 l)
section
variable {K:A6} {H₀ aa:Hp} {σ:St} {ρ:bj} {H Hf:Hp} {v:V}
def qP.int (h:qP K Hf σ ρ (.int i) v):v=.int i:=by
 rcases h with h | ⟨_,_,e,_⟩
 .exact u9.mp h
 .cases e
def qP.bl (h:qP K Hf σ ρ (.bl i) v):v=.bl i:=by
 rcases h with h | ⟨_,_,e,_⟩
 .exact Eb.mp h
 .cases e
def qP.str (h:qP K Hf σ ρ (.str i) v):v=.str i:=by
 rcases h with h | ⟨_,_,e,_⟩
 .exact Ei.mp h
 .cases e
def qP.non (h:qP K Hf σ ρ .non v):v=.non:=by
 rcases h with h | ⟨_,_,e,_⟩
 .exact Ex.mp h
 .cases e
def qP.tup (h:qP K Hf σ ρ (.tup ds) v) (R:Rep K H₀ aa σ ρ H Hf):∃ a xs,v=.ref a/\bF K H a xs/\zP K Hf ds xs:=by
 rcases h with h | ⟨_,_,e,_⟩
 .obtain ⟨a,xs,e,q,l⟩:=D_.mp h
  exact ⟨a,xs,e,je R.sf q,l⟩
 .cases e
def qP.lst (h:qP K Hf σ ρ (.lst ds) v) (R:Rep K H₀ aa σ ρ H Hf):∃ a xs,v=.ref a/\bC K H a xs/\zP K Hf ds xs:=by
 rcases h with h | ⟨i,k,e,e1,e2⟩
 .obtain ⟨a,xs,e,q,l⟩:=En.mp h
  exact ⟨a,xs,e,R.sf.seq q,l⟩
 .cases e
  obtain ⟨a,d,⟨xs,p2,j⟩,_⟩:=R.ow i _ e1 rfl
  rw [e2] at d; cases d
  exact ⟨a,xs,rfl,bC.of p2,j⟩
end
def iI (φ:Int->Int->Option D):D->D->Option D
 | .int i,.int j=>φ i j
 | _,_=>none
def QH (h:iI φ x y=some d):∃ i j,x=.int i/\y=.int j/\φ i j=some d:=by
 cases x <;> cases y <;> first | cases h | exact ⟨_,_,rfl,rfl,h⟩
def QI {K:A6} (h:B6 d=some v):ae K H d v:=by
 cases d <;> cases h
 .exact Ex.mpr rfl
 .exact Eb.mpr rfl
 .exact u9.mpr rfl
 .exact Ei.mpr rfl
def Gn (h:∀ i j d,φ i j=some d->C i j/\B6 d=some (n i j)):eN X (rI C n) (iI φ):=by
 intro σ ρ H₀ aa H Hf x y dx p d Q R m l o k
 obtain ⟨i,j,rfl,rfl,hd⟩:=QH o
 obtain ⟨c,s⟩:=h i j d hd
 exact ⟨i,j,m.int,l.int,c,k _ _ _ R zE zE (QI s)⟩
def ZK (h:∀ i j d,φ i j=some d->B6 d=some (n i j)):eN X (gb n) (iI φ):=by
 intro σ ρ H₀ aa H Hf x y dx p d Q R m l o k
 obtain ⟨i,j,rfl,rfl,hd⟩:=QH o
 exact ⟨i,j,m.int,l.int,k _ _ _ R zE zE (QI (h i j d hd))⟩
end
def big:Nat:=2 ^ 8000
def Q7 (h:i.natAbs < big):Builtin.Int.intBits i<=8001:=by
 unfold Builtin.Int.intBits
 split
 .exact dm _
 .have:i.natAbs.log2 < 8000:=by
   rcases Nat.eq_zero_or_pos i.natAbs with h0 | a
   .rw [h0]; decide
   .exact (Nat.log2_lt (Nat.ne_of_gt a)).mpr h
  omega
def UQ (i j:Int):Prop:=i.natAbs < 2 ^ 64\/j.natAbs < 2 ^ 64\/(i.natAbs < big/\j.natAbs < big)
instance (i j:Int):Decidable (UQ i j):=by unfold UQ; exact inferInstance
def UQ.ok (h:UQ i j):IntMulOk i j:=by
 rcases h with h | h | ⟨h1,h2⟩
 .exact .of_left (intBits_le_64 (by omega) (by omega))
 .exact .of_right (intBits_le_64 (by omega) (by omega))
 .exact IntMulOk.of_le (Q7 h1) (Q7 h2) (by decide)
def P9 (j:Int):Prop:=0 < j/\j < 2 ^ 64
instance (j:Int):Decidable (P9 j):=by unfold P9; exact inferInstance
def zcz (i j:Int):Prop:=0<=j/\j<=1000/\i.natAbs < big
instance (i j:Int):Decidable (zcz i j):=by unfold zcz; exact inferInstance
section
variable {X:Cx} {e a b c:Expr} {es:List Expr} {f g h:FE} {fa ga:FA} {ft gt:FT} {pos:Pos} {t t':TE}
def Ng:cu X (Ig .Mult) (rI UQ λi j=>.int (i * j)):=opI λ_ _ _ _ _ _ _ d q=>mul_int q d.ok
def CC:cu X (Ig .FloorDiv) (rI (λ_ j=>P9 j) λi j=>.int (i / j)):=opI λi j _ _ _ _ _ d q=>by
 have h1:(0:Int) < j:=d.1
 have h2:j < 2 ^ 64:=d.2
 refine floordiv_int (by omega) (by rw [Int.fdiv_eq_ediv_of_nonneg i (by omega)]; exact q) (.inl (PyProof.noPylong_of_log2 ?_))
 have k:j.natAbs < 2 ^ 64:=by omega
 have:j.natAbs.log2 < 64:=(Nat.log2_lt (by omega)).mpr k
 omega
def JD:D->D->Option D:=iI λi j=>if UQ i j then some (.int (i * j)) else none
def BY:D->D->Option D:=iI λi j=>some (.int (i - j))
def F5:D->D->Option D:=iI λi j=>if 0 < j then some (.int (i % j)) else none
def Uy:D->D->Option D:=iI λi j=>if P9 j then some (.int (i / j)) else none
def Nk:eN X (rI UQ λi j=>.int (i * j)) JD:=Gn λi j d q=>by
 split at q
 .cases q; exact ⟨by assumption,rfl⟩
 .cases q
def Nj:eN X (gb λi j=>.int (i - j)) BY:=ZK λi j d q=>by cases q; rfl
def Nl:eN X (rI (λ_ j=>0 < j) λi j=>.int (i % j)) F5:=Gn λi j d q=>by
 split at q
 .cases q; exact ⟨by assumption,rfl⟩
 .cases q
def CG:eN X (rI (λ_ j=>P9 j) λi j=>.int (i / j)) Uy:=Gn λi j d q=>by
 split at q
 .cases q; exact ⟨by assumption,rfl⟩
 .cases q
def YE (i:DR X a f) (d:DR X b g):DE X (.BinOp a .Sub b pos) (zt BY f g):=Tv RY Nj i d
def vP (i:DR X a f) (d:DR X b g):DE X (.BinOp a .Mult b pos) (zt JD f g):=Tv Ng Nk i d
def kL (i:DR X a f) (d:DR X b g):DE X (.BinOp a .Mod b pos) (zt F5 f g):=Tv RZ Nl i d
def Y3 (i:DR X a f) (d:DR X b g):DE X (.BinOp a .FloorDiv b pos) (zt Uy f g):=Tv CC CG i d
def zed:D->D->Option D
 | .int i,.int j=>some (.int (i+j))
 | .str x,.str y=>if x.length+y.length<=sizeLine then some (.str (x++y)) else none
 | .lst xs,.lst ys=>if xs.length+ys.length<=sizeLine then some (.lst (xs++ys)) else none
 | .tup (x :: xs),.tup ys=>if xs.length+1+ys.length<=sizeLine then some (.tup (x :: xs++ys)) else none
 | _,_=>none
def YH (φ:D->Option D) (f:FE):FE:=λρ=>(f ρ).bind φ
def T6:D->Option D
 | .int i=>some (.int (-i))
 | _=>none
def J0 (j:DR X a f):DE X (.UnaryOp .USub a pos) (YH T6 f) :=
 yu (za6 Rc j) λσ H Q ⟨H₀,aa,ρ,Hf,d,R,q,k⟩=>by
  unfold YH at q
  cases hf:f ρ with
  | none=>rw [hf] at q; cases q
  | some x =>
   rw [hf] at q
   cases x <;> try cases q
   exact ⟨H₀,aa,ρ,Hf,_,R,hf,λv H1 m l s1 i h1=>⟨_,h1.int,k _ _ _ l s1 i (u9.mpr rfl)⟩⟩
def tu:D->D->Option D:=iI λi j=>some (.bl (decide (i < j)))
def leD:D->D->Option D:=iI λi j=>some (.bl (decide (i<=j)))
def lh:D->D->Option D:=iI λi j=>some (.bl (decide (j < i)))
def AD:D->D->Option D:=iI λi j=>some (.bl (decide (j<=i)))
def Sd:eN X (gb λi j=>.bl (decide (i < j))) tu:=ZK λi j d q=>by cases q; rfl
def Se:eN X (gb λi j=>.bl (decide (i<=j))) leD:=ZK λi j d q=>by cases q; rfl
def FY:eN X (gb λi j=>.bl (decide (j < i))) lh:=ZK λi j d q=>by cases q; rfl
def Sg:eN X (gb λi j=>.bl (decide (j<=i))) AD:=ZK λi j d q=>by cases q; rfl
def zd7 (i:DR X a f) (d:DR X b g):DE X (.Compare a [.Gt] [b] pos) (zt lh f g):=J3 Sa FY i d (uJ _)
def m7 (neg:Bool):D->D->Option D:=λx y=>match y with
 | .non=>match x with
  | .non=>some (.bl (!neg))
  | _=>some (.bl neg)
 | _=>none
def Dp {K:A6} (h:qP K Hf σ ρ x v) (R:∃ H₀ aa H,Rep K H₀ aa σ ρ H Hf):decide (v=V.non)=(match x with | .non=>true | _=>false):=by
 obtain ⟨H₀,aa,H,R⟩:=R
 cases x with
 | non=>cases h.non; rfl
 | bl b=>cases h.bl; rfl
 | int b=>cases h.int; rfl
 | str b=>cases h.str; rfl
 | tup ds=>obtain ⟨a,xs,rfl,_⟩:=h.tup R; rfl
 | lst ds=>obtain ⟨a,xs,rfl,_⟩:=h.lst R; rfl
def WT:eN X (λx y H Q=>y=.non/\Q (.bl (!decide (x=.non))) H) (m7 true):=by
 intro σ ρ H₀ aa H Hf x y dx m d Q R l j i k
 cases m <;> try cases i
 have e:=Dp l ⟨_,_,_,R⟩
 refine ⟨j.non,?_⟩
 rw [e]
 cases dx <;> cases i <;> exact k _ _ _ R zE zE (Eb.mpr rfl)
def Pr (i:DR X a f) (d:DR X b g):DE X (.Compare a [.IsNot] [b] pos) (zt (m7 true) f g):=J3 Gk WT i d (uJ _)
def ay:D->D->Option D
 | .tup ds,.int i=>atI ds i
 | .lst ds,.int i=>atI ds i
 | .str z,.int i=>if z.length<=sizeLine then (atI z.cps.toList i).map λc=>.str ⟨#[c]⟩ else none
 | _,_=>none
def zP.atI {K:A6} (h:zP K H ds xs) (e:L2.atI ds i=some d):∃ v,L2.atI xs i=some v/\ae K H d v:=by
 unfold L2.atI at e ⊢
 rw [h.length]
 cases k:dF ds.length i with
 | none=>rw [k] at e; cases e
 | some j =>
  rw [k] at e
  exact h.get e
set_option tactic.hygienic true in
def Sf:eN X (rIx X.K) ay:=by
 intro σ ρ H₀ aa H Hf x y dx p d Q R o n j k
 unfold ay at j
 split at j
 .obtain ⟨a,xs,rfl,l,m⟩:=o.tup R
  obtain ⟨v,e1,e2⟩:=m.atI j
  exact .inr (.inl ⟨a,xs,_,v,rfl,n.int,l,e1,k _ _ _ R zE zE e2⟩)
 .obtain ⟨a,xs,rfl,l,m⟩:=o.lst R
  obtain ⟨v,e1,e2⟩:=m.atI j
  exact .inl ⟨a,xs,_,v,rfl,n.int,l,e1,k _ _ _ R zE zE e2⟩
 .split at j
  .rename_i z i hz
   cases e:atI z.cps.toList i with
   | none=>rw [e] at j; cases j
   | some c =>
    rw [e] at j
    cases j
    exact .inr (.inr ⟨z,i,c,o.str,n.int,hz,e,k _ _ _ R zE zE (Ei.mpr rfl)⟩)
  .cases j
 .cases j
def xc (j:DR X a f) (i:DR X b g) (d:UO b:=by intro _ _; rfl):DE X (.Subscript a b pos) (zt ay f g):=zbw S1 Sf j i d
def yb:FA:=λ_=>some []
def zf (f:FE) (g:FA):FA:=λρ=>(f ρ).bind λx=>(g ρ).bind λxs=>some (x :: xs)
def ke  {g:FA} (h:zf f g ρ=some l):∃ x xs,f ρ=some x/\g ρ=some xs/\l=x :: xs:=by
 unfold zf at h
 cases hf:f ρ with
 | none=>rw [hf] at h; cases h
 | some x =>
  cases hg:g ρ with
  | none=>rw [hf,hg] at h; cases h
  | some xs=>rw [hf,hg] at h; cases h; exact ⟨x,xs,rfl,rfl,rfl⟩
def zi:DA X [] yb:=Ql xx λσ H Q ⟨H₀,aa,ρ,Hf,d,R,q,k⟩=>by cases q; exact k _ _ _ R zE zE .nil
def za (n:DE X e f) (m:DA X es fa) (l:A7 (e :: es) X.env=(false,eval e X.env) :: A7 es X.env:=by rfl):DA X (e :: es) (zf f fa) :=
 Ql (z8 n m l) λσ H Q ⟨H₀,aa,ρ,Hf,d,R,q,k⟩=>by
  obtain ⟨x,xs,e1,e2,rfl⟩:=ke q
  exact ⟨H₀,aa,ρ,Hf,x,R,e1,λv H1 o p s1 j h1=>⟨H₀,aa,ρ,o,xs,p,e2,λvs H2 aK R2 s2 i h2=>k _ _ _ R2 (s1.trans s2) (j.trans i) (.cons (h1.mono i) h2)⟩⟩
def zA:i_ X [] yb:=Ql xx λσ H Q ⟨H₀,aa,ρ,Hf,d,R,q,k⟩=>by cases q; exact k _ _ _ R zE zE .nil
def zk (n:DR X e f) (m:i_ X es fa) (l:A7 (e :: es) X.env=(false,eval e X.env) :: A7 es X.env:=by rfl):i_ X (e :: es) (zf f fa) :=
 Ql (z8 n m l) λσ H Q ⟨H₀,aa,ρ,Hf,d,R,q,k⟩=>by
  obtain ⟨x,xs,e1,e2,rfl⟩:=ke q
  exact ⟨H₀,aa,ρ,Hf,x,R,e1,λv H1 o p s1 j h1=>⟨H₀,aa,ρ,o,xs,p,e2,λvs H2 aK R2 s2 i h2=>k _ _ _ R2 (s1.trans s2) (j.trans i) (.cons (h1.mono i) h2)⟩⟩
def tupF (g:FA):FE:=λρ=>(g ρ).bind λxs=>if xs.length<=sizeLine then some (.tup xs) else none
def xN {m} (h:DA X es fa):DE X (.Tuple es m pos) (tupF fa) :=
 yu (WM h) λσ H Q ⟨H₀,aa,ρ,Hf,d,R,q,k⟩=>by
  unfold tupF at q
  cases hg:fa ρ with
  | none=>rw [hg] at q; cases q
  | some xs =>
   rw [hg] at q
   simp only [ai] at q
   split at q
   .cases q
    rename_i r
    refine ⟨H₀,aa,ρ,Hf,xs,R,hg,λvs H1 s l s1 n h1=>⟨by rw [h1.length]; exact r,λp i=>?_⟩⟩
    have j:=zG (o:=.tup vs) (l.sf.free i)
    exact k _ _ _ (l.lay i) (s1.trans (zG i)) (n.trans j) (D_.mpr ⟨p,vs,rfl,bF.of zq,h1.mono j⟩)
   .cases q
def BI (g:FA):FA:=λρ=>(g ρ).bind λxs=>if xs.length<=sizeLine then some xs else none
def xF (h:DA X es fa):DN X (.List es pos) (BI fa) :=
 yu (RU h) λσ H Q ⟨H₀,aa,ρ,Hf,d,R,q,k⟩=>by
  unfold BI at q
  cases hg:fa ρ with
  | none=>rw [hg] at q; cases q
  | some xs =>
   rw [hg] at q
   simp only [ai] at q
   split at q
   .cases q
    rename_i m
    refine ⟨H₀,aa,ρ,Hf,_,R,hg,λvs H1 n j s1 l h1=>⟨by rw [h1.length]; exact m,λp i=>?_⟩⟩
    exact k _ _ _ _ (j.layN i) (s1.trans (zG i)) l h1 zq (j.sf.free i) (s1.free i)
   .cases q
def aU (f:FE):FT:=λρ=>(f ρ).bind fun | .bl b=>some b | _=>none
def Q6   {b:Bool} (h:aU f ρ=some b):f ρ=some (.bl b):=by
 unfold aU at h
 cases hf:f ρ with
 | none=>rw [hf] at h; cases h
 | some x=>rw [hf] at h; cases x <;> cases h; rfl
def jF (h:DR X e f) (l:∀ i,isTrue e X.env i=(do let v ← i; standAt e.pos; holding [v] (truthy v)):=by intro _; rfl):DT X e (aU f) :=
 WJ (FC h l) λσ H Q ⟨H₀,aa,ρ,Hf,d,R,q,k⟩=>⟨H₀,aa,ρ,Hf,_,R,Q6 q,λv H1 n m s1 j h1=>⟨d,h1.bl,k _ _ m s1 j⟩⟩
def x6 (j:cu X (EV op) r) (o:eN X r φ) (n:DR X a f) (m:DR X b g) (l:Ew op b=false):DT X (.Compare a [op] [b] pos) (aU (zt φ f g)) :=
 WJ (MX j n m l) λσ H Q ⟨H₀,aa,ρ,Hf,d,R,q,k⟩=>U5 o σ H _ ⟨H₀,aa,ρ,Hf,_,R,Q6 q,λv H1 s p s1 i h1=>⟨d,Eb.mp h1,k _ _ p s1 i⟩⟩
def JY (i:DR X a f) (d:DR X b g):DT X (.Compare a [.Lt] [b] pos) (aU (zt tu f g)):=x6 za9 Sd i d (uJ _)
def zbn (i:DR X a f) (d:DR X b g):DT X (.Compare a [.LtE] [b] pos) (aU (zt leD f g)):=x6 zba Se i d (uJ _)
def Vk (i:DR X a f) (d:DR X b g):DT X (.Compare a [.Gt] [b] pos) (aU (zt lh f g)):=x6 Sa FY i d (uJ _)
def To (i:DR X a f) (d:DR X b g):DT X (.Compare a [.GtE] [b] pos) (aU (zt AD f g)):=x6 zbb Sg i d (uJ _)
def QV (i:DR X a f) (d:DR X b g):DT X (.Compare a [.IsNot] [b] pos) (aU (zt (m7 true) f g)):=x6 Gk WT i d (uJ _)
def BM (f g:FT):FT:=λρ=>(f ρ).bind λb=>if b=true then g ρ else some false
def orT (f g:FT):FT:=λρ=>(f ρ).bind λb=>if b=true then some true else g ρ
def CQ (f:FT):FT:=λρ=>(f ρ).bind λb=>some (!b)
variable {vT:List Expr}
def vc  {f:bj->Option Bool} {r:α} (h:(f ρ).bind k=some r):∃ b,f ρ=some b/\k b=some r:=by
 cases hf:f ρ with
 | none=>rw [hf] at h; cases h
 | some x=>rw [hf] at h; exact ⟨x,rfl,h⟩
def uo (d:DT X a ft):DW X (.BoolOp .And [a] pos) ft:=MV d
def QT (d:DT X a ft):DW X (.BoolOp .Or [a] pos) ft:=Fy d
def jE (n:DT X a ft) (m:DW X (.BoolOp .And (b :: vT) pos) gt):DW X (.BoolOp .And (a :: b :: vT) pos) (BM ft gt) :=
 Fz (RK n m) λσ H Q ⟨H₀,aa,ρ,Hf,d,R,q,k⟩=>by
  obtain ⟨b,e1,e2⟩:=vc q
  refine ⟨H₀,aa,ρ,Hf,b,R,e1,λH1 o j s1 i=>?_⟩
  cases b with
  | true=>exact Kb ⟨H₀,aa,ρ,o,d,j,e2,λH2 aK R2 s2 l=>k _ _ R2 (s1.trans s2) (i.trans l)⟩
  | false=>cases e2; exact GT (k _ _ j s1 i)
def HA (n:DT X a ft) (m:DW X (.BoolOp .Or (b :: vT) pos) gt):DW X (.BoolOp .Or (a :: b :: vT) pos) (orT ft gt) :=
 Fz (RJ n m) λσ H Q ⟨H₀,aa,ρ,Hf,d,R,q,k⟩=>by
  obtain ⟨b,e1,e2⟩:=vc q
  refine ⟨H₀,aa,ρ,Hf,b,R,e1,λH1 o j s1 i=>?_⟩
  cases b with
  | false=>exact GT ⟨H₀,aa,ρ,o,d,j,e2,λH2 aK R2 s2 l=>k _ _ R2 (s1.trans s2) (i.trans l)⟩
  | true=>cases e2; exact Kb (k _ _ j s1 i)
def IP (h:DW X e ft):DT X e ft:=PW.pt h
def QU (j:DT X a ft):DT X (.UnaryOp .Not a pos) (CQ ft) :=
 WJ (FD j) λσ H Q ⟨H₀,aa,ρ,Hf,d,R,q,k⟩=>by
  obtain ⟨b,e1,e2⟩:=vc q
  cases e2
  exact ⟨H₀,aa,ρ,Hf,b,R,e1,λH1 m l s1 i=>k _ _ l s1 i⟩
def zbz (f g:FE):FE:=λρ=>(f ρ).bind fun | .bl b=>(if b=true then g ρ else some (.bl false)) | _=>none
def orV (f g:FE):FE:=λρ=>(f ρ).bind fun | .bl b=>(if b=true then some (.bl true) else g ρ) | _=>none
def zcp (f:FE):FE:=λρ=>(f ρ).bind fun | .bl b=>some (.bl (!b)) | _=>none
def zQ     {r:α} (h:(f ρ).bind k=some r):∃ b,f ρ=some b/\k b=some r:=by
 cases hf:f ρ with
 | none=>rw [hf] at h; cases h
 | some x=>rw [hf] at h; exact ⟨x,rfl,h⟩
def D3 {op} (h:DE X a f):DE X (.BoolOp op [a] pos) f:=FQ h
set_option tactic.hygienic true in
def Pw (n:DE X a f) (m:DE X (.BoolOp .And (b :: vT) pos) g):DE X (.BoolOp .And (a :: b :: vT) pos) (zbz f g) :=
 yu (Qi n m) λσ H Q ⟨H₀,aa,ρ,Hf,d,R,q,k⟩=>by
  obtain ⟨x,e1,e2⟩:=zQ q
  cases x <;> try cases e2
  rename_i b
  refine ⟨H₀,aa,ρ,Hf,_,R,e1,λv H1 o j s1 i h1=>⟨b,Eb.mp h1,?_⟩⟩
  cases b with
  | true=>exact Kb ⟨H₀,aa,ρ,o,d,j,e2,λv H2 aK R2 s2 l h2=>k _ _ _ R2 (s1.trans s2) (i.trans l) h2⟩
  | false=>cases e2; exact GT (k _ _ _ j s1 i (Eb.mpr rfl))
set_option tactic.hygienic true in
def zd4 (n:DE X a f) (m:DE X (.BoolOp .Or (b :: vT) pos) g):DE X (.BoolOp .Or (a :: b :: vT) pos) (orV f g) :=
 yu (za7 n m) λσ H Q ⟨H₀,aa,ρ,Hf,d,R,q,k⟩=>by
  obtain ⟨x,e1,e2⟩:=zQ q
  cases x <;> try cases e2
  rename_i b
  refine ⟨H₀,aa,ρ,Hf,_,R,e1,λv H1 o j s1 i h1=>⟨b,Eb.mp h1,?_⟩⟩
  cases b with
  | false=>exact GT ⟨H₀,aa,ρ,o,d,j,e2,λv H2 aK R2 s2 l h2=>k _ _ _ R2 (s1.trans s2) (i.trans l) h2⟩
  | true=>cases e2; exact Kb (k _ _ _ j s1 i (Eb.mpr rfl))
set_option tactic.hygienic true in
def zbv (j:DE X a f):DE X (.UnaryOp .Not a pos) (zcp f) :=
 yu (FR j) λσ H Q ⟨H₀,aa,ρ,Hf,d,R,q,k⟩=>by
  obtain ⟨x,e1,e2⟩:=zQ q
  cases x <;> try cases e2
  rename_i b
  exact ⟨H₀,aa,ρ,Hf,_,R,e1,λv H1 m l s1 i h1=>⟨b,Eb.mp h1,k _ _ _ l s1 i (Eb.mpr rfl)⟩⟩
def ifF (c:FT) (f g:FE):FE:=λρ=>(c ρ).bind λb=>if b=true then f ρ else g ρ
def Pt (n:DT X c ft) (p:DE X a f) (o:DE X b g):DE X (.IfExp c a b pos) (ifF ft f g) :=
 yu (Cw n p o) λσ H Q ⟨H₀,aa,ρ,Hf,d,R,q,k⟩=>by
  obtain ⟨x,e1,e2⟩:=vc q
  refine ⟨H₀,aa,ρ,Hf,x,R,e1,λH1 l m s1 j=>?_⟩
  cases x with
  | true=>exact Kb ⟨H₀,aa,ρ,l,d,m,e2,λv H2 aK R2 s2 i h2=>k _ _ _ R2 (s1.trans s2) (j.trans i) h2⟩
  | false=>exact GT ⟨H₀,aa,ρ,l,d,m,e2,λv H2 aK R2 s2 i h2=>k _ _ _ R2 (s1.trans s2) (j.trans i) h2⟩
end
mutual
def b6:D->D->Bool
 | .non,.non=>true
 | .bl a,.bl b=>a==b
 | .bl a,.int b=>(if a then 1 else 0)==b
 | .int a,.bl b=>a==(if b then 1 else 0)
 | .int a,.int b=>a==b
 | .str a,.str b=>a==b
 | .tup a,.tup b=>QS a b
 | .lst a,.lst b=>QS a b
 | _,_=>false
def QS:List D->List D->Bool
 | [],[]=>true
 | x :: xs,y :: ys=>b6 x y&&QS xs ys
 | _,_=>false
end
mutual
def dep:D->Nat
 | .tup a=>qG a+1
 | .lst a=>qG a+1
 | _=>0
def qG:List D->Nat
 | []=>0
 | x :: xs=>max (dep x) (qG xs)
end
def X1 (h:∀ d∈l,dep d<=k):qG l<=k:=by
 induction l with
 | nil=>simp [qG]
 | cons x xs a =>
  unfold qG
  exact Nat.max_le.mpr ⟨h x aN,a λd hd=>h d (aX _ hd)⟩
mutual
theorem qj:∀ d:D,b6 d d=true
 | .non=>by simp [b6]
 | .bl b=>by simp [b6]
 | .int i=>by simp [b6]
 | .str x=>by simp [b6]
 | .tup ds=>by unfold b6; exact Z9 ds
 | .lst ds=>by unfold b6; exact Z9 ds
theorem Z9:∀ ds:List D,QS ds ds=true
 | []=>by simp [QS]
 | d :: ds=>by unfold QS; rw [qj d,Z9 ds]; rfl
end
theorem UB:∀ xs ys,QS xs ys=((aw (min xs.length ys.length)).all (λj=>b6 (xs.getD j .non) (ys.getD j .non))&&xs.length==ys.length)
 | [],[]=>by simp [QS]
 | [],y :: ys=>by simp [QS]
 | x :: xs,[]=>by simp [QS]
 | x :: xs,y :: ys=>by
  unfold QS
  rw [UB xs ys]
  have e:min (x :: xs).length (y :: ys).length=min xs.length ys.length+1:=by simp only [ao]; omega
  rw [e,oO,List.all_cons,List.all_map]
  simp [Function.comp_def,Bool.and_assoc]
section
variable {X:Cx} {pins:List (Addr×Obj)} {σ:St} {H Hf:Hp} {s:Shared}
inductive SvD (K:A6) (H:Hp):D->V->Prop
 | non:SvD K H .non .non
 | bl (b:Bool):SvD K H (.bl b) (.bl b)
 | int (b:Int):SvD K H (.int b) (.int b)
 | str (b:Str):SvD K H (.str b) (.str b)
 | tup {b:List D} {a:Addr} {xs:List V} (q:bF K H a xs) (l:zP K H b xs):SvD K H (.tup b) (.ref a)
 | lst {b:List D} {a:Addr} {xs:List V} (q:bC K H a xs) (l:zP K H b xs):SvD K H (.lst b) (.ref a)
def gU {K:A6} {d:D} {v:V} (h:ae K H d v):SvD K H d v:=by
 cases d <;> unfold ae at h
 .subst h; exact .non
 .subst h; exact .bl _
 .subst h; exact .int _
 .subst h; exact .str _
 .obtain ⟨a,xs,rfl,q,l⟩:=h; exact .tup q l
 .obtain ⟨a,xs,rfl,q,l⟩:=h; exact .lst q l
def zcq (I:Inv X pins σ H s) (h:bF X.K H a xs) (h':bC X.K H a ys):False:=by
 obtain ⟨af,_,b,_⟩:=I.tuple h
 obtain ⟨its',_,p2,_⟩:=I.list h'
 exact absurd rfl (SeqAt.ne_of_list_tuple p2.isList b)
mutual
theorem ae.inj (I:Inv X pins σ H s):∀ {d d':D} {v:V},ae X.K H d v->ae X.K H d' v->d=d'
 | .non,d',v,h,h'=>by cases gU h; cases gU h'; rfl
 | .bl x,d',v,h,h'=>by cases gU h; cases gU h'; rfl
 | .int x,d',v,h,h'=>by cases gU h; cases gU h'; rfl
 | .str x,d',v,h,h'=>by cases gU h; cases gU h'; rfl
 | .tup x,d',v,h,h'=>by
  cases gU h with
  | tup q l=>cases gU h' with
   | tup a c=>cases I.tuple_inj q a; rw [zP.inj I l c]
   | lst a c=>cases zcq I q a
 | .lst x,d',v,h,h'=>by
  cases gU h with
  | lst q l=>cases gU h' with
   | lst a c=>cases I.list_inj q a; rw [zP.inj I l c]
   | tup a c=>cases zcq I a q
theorem zP.inj (I:Inv X pins σ H s):∀ {ds b:List D} {xs:List V},zP X.K H ds xs->zP X.K H b xs->ds=b
 | [],b,xs,h,h'=>by
  rw [zP.nil_iff] at h; subst h
  cases b with
  | nil=>rfl
  | cons d r=>obtain ⟨_,_,e,_⟩:=B_.mp h'; cases e
 | d :: ds,b,xs,h,h'=>by
  obtain ⟨x,r,rfl,h1,h2⟩:=B_.mp h
  cases b with
  | nil=>rw [zP.nil_iff] at h'; cases h'
  | cons d' k =>
   obtain ⟨j,g,e,f,i⟩:=B_.mp h'
   cases e
   rw [ae.inj I h1 f,zP.inj I h2 i]
end
inductive ShV (K:A6) (H:Hp) (s:Shared):D->Value->Prop
 | non:ShV K H s .non .none
 | bl (b:Bool):ShV K H s (.bl b) (.bool b)
 | int (b:Int) (t:Tok):ShV K H s (.int b) (.int b t)
 | str (b:Str) (t:Tok):ShV K H s (.str b) (.str b t)
 | tup {b:List D} {a:Addr} {xs:List V} {af:List Value} (l:zP K H b xs) (r:yS xs af) (p:IsTup s.heap a af.toArray):ShV K H s (.tup b) (.ref a)
 | lst {b:List D} {a:Addr} {xs:List V} {af:List Value} (l:zP K H b xs) (r:yS xs af) (p:s.heap.IsList a af.toArray):ShV K H s (.lst b) (.ref a)
def fB {d:D} {v:V} {u:Value} (I:Inv X pins σ H s) (h:ae X.K H d v) (r:yO v u):ShV X.K H s d u:=by
 cases gU h with
 | non=>cases r; exact .non
 | bl=>cases r; exact .bl _
 | int=>obtain ⟨t,rfl⟩:=r; exact .int _ _
 | str=>obtain ⟨t,rfl⟩:=r; exact .str _ _
 | tup q l=>cases r; obtain ⟨af,r,p,_⟩:=I.tuple q; exact .tup l r p
 | lst q l=>cases r; obtain ⟨af,r,p,_⟩:=I.list q; exact .lst l r p.isList
def unV:Value->V
 | .bool b=>.bl b
 | .int b _=>.int b
 | .str b _=>.str b
 | .bytes b _=>.byt b
 | .float b _=>.flt b
 | .ref b=>.ref b
 | .type b=>.ty b
 | _=>.non
def XB (r:yO v u):v=unV u:=by
 cases v <;> first | (cases r; rfl) | (obtain ⟨t,rfl⟩:=r; rfl)
open SeqAt in
def QP {K:A6} {d:D} {A:Around} {y x:Value} {b:Bool} (S:ShV K H s d y) (h:RcAt A s y x b) (e:y=x->b=true):EqAt A s y x b:=λprog w E Q a=>by
 unfold eqBool
 cases S <;> (
  refine EK (wpAny_ite_split (λc=>?_) (λ_=>ls (h prog w E _ (EB a))))
  cases e (eq_of_beq c)
  exact ls (Iv (u0 a)))
open SeqAt in
abbrev RcG (A:Around) (s:Shared) (u a:Value) (b:Bool):Prop:=RcAt A s u a b/\RcNeAt A s u a (!b)
abbrev Mu (d d':D):Prop:=(∃ x y,d=.tup x/\d'=.tup y)\/∃ x y,d=.lst x/\d'=.lst y
open SeqAt in
def q_ {K:A6} {A:Around} {d d':D} {u c:Value} (S:ShV K H s d u) (b:ShV K H s d' c) (a:A.units < IE):RcG A s u c (b6 d d')\/Mu d d':=by
 cases S with
 | non=>cases b with
  | non=>exact .inl ⟨.none_none,.none_none⟩
  | bl=>exact .inl ⟨.none_bool _,.none_bool _⟩
  | int=>exact .inl ⟨.none_int _ _,.none_int _ _⟩
  | str=>exact .inl ⟨.none_str _ _,.none_str _ _⟩
  | tup _ _ q=>exact .inl ⟨.none_tuple q a,.none_tuple q a⟩
  | lst _ _ q=>exact .inl ⟨.none_list q a,.none_list q a⟩
 | bl=>cases b with
  | non=>exact .inl ⟨.bool_none _,.bool_none _⟩
  | bl=>exact .inl ⟨.bool_bool _ _,.bool_bool _ _⟩
  | int=>exact .inl ⟨.bool_int _ _ _,.bool_int _ _ _⟩
  | str=>exact .inl ⟨.bool_str _ _ _,.bool_str _ _ _⟩
  | tup _ _ q=>exact .inl ⟨.bool_tuple _ q a,.bool_tuple _ q a⟩
  | lst _ _ q=>exact .inl ⟨.bool_list _ q a,.bool_list _ q a⟩
 | int=>cases b with
  | non=>exact .inl ⟨.int_none _ _,.int_none _ _⟩
  | bl=>exact .inl ⟨.int_bool _ _ _,.int_bool _ _ _⟩
  | int=>exact .inl ⟨.int_int _ _ _ _,.int_int _ _ _ _⟩
  | str=>exact .inl ⟨.int_str _ _ _ _,.int_str _ _ _ _⟩
  | tup _ _ q=>exact .inl ⟨.int_tuple _ _ q a,.int_tuple _ _ q a⟩
  | lst _ _ q=>exact .inl ⟨.int_list _ _ q a,.int_list _ _ q a⟩
 | str=>cases b with
  | non=>exact .inl ⟨.str_none _ _,.str_none _ _⟩
  | bl=>exact .inl ⟨.str_bool _ _ _,.str_bool _ _ _⟩
  | int=>exact .inl ⟨.str_int _ _ _ _,.str_int _ _ _ _⟩
  | str=>exact .inl ⟨.str_str _ _ _ _,.str_str _ _ _ _⟩
  | tup _ _ q=>exact .inl ⟨.str_tuple _ _ q a,.str_tuple _ _ q a⟩
  | lst _ _ q=>exact .inl ⟨.str_list _ _ q a,.str_list _ _ q a⟩
 | tup _ _ p=>cases b with
  | non=>exact .inl ⟨.tuple_none p a,.tuple_none p a⟩
  | bl=>exact .inl ⟨.tuple_bool _ p a,.tuple_bool _ p a⟩
  | int=>exact .inl ⟨.tuple_int _ _ p a,.tuple_int _ _ p a⟩
  | str=>exact .inl ⟨.tuple_str _ _ p a,.tuple_str _ _ p a⟩
  | tup _ _ q=>exact .inr (.inl ⟨_,_,rfl,rfl⟩)
  | lst _ _ q=>exact .inl ⟨.tuple_list p q a,.tuple_list p q a⟩
 | lst _ _ p=>cases b with
  | non=>exact .inl ⟨.list_none p a,.list_none p a⟩
  | bl=>exact .inl ⟨.list_bool _ p a,.list_bool _ p a⟩
  | int=>exact .inl ⟨.list_int _ _ p a,.list_int _ _ p a⟩
  | str=>exact .inl ⟨.list_str _ _ p a,.list_str _ _ p a⟩
  | tup _ _ q=>exact .inl ⟨.list_tuple p q a,.list_tuple p q a⟩
  | lst _ _ q=>exact .inr (.inr ⟨_,_,rfl,rfl⟩)
open SeqAt in
mutual
theorem Qg (I:Inv X pins σ H s):∀ (d:D) {A:Around} {d':D} {v C:V} {u E:Value},ae X.K H d v->ae X.K H d' C->yO v u->yO C E->A.units+dep d < IE->RcG A s u E (b6 d d')
 | .non,_,_,_,_,_,_,h,h',r,a,c=>(q_ (fB I h r) (fB I h' a) (by omega)).elim id (by simp [Mu])
 | .bl _,_,_,_,_,_,_,h,h',r,a,c=>(q_ (fB I h r) (fB I h' a) (by omega)).elim id (by simp [Mu])
 | .int _,_,_,_,_,_,_,h,h',r,a,c=>(q_ (fB I h r) (fB I h' a) (by omega)).elim id (by simp [Mu])
 | .str _,_,_,_,_,_,_,h,h',r,a,c=>(q_ (fB I h r) (fB I h' a) (by omega)).elim id (by simp [Mu])
 | .tup x,A,_,_,_,_,_,h,h',r,a,c=>(q_ (fB I h r) (fB I h' a) (by omega)).elim id λe=>by
   simp [Mu] at e; obtain ⟨y,rfl⟩:=e
   cases fB I h r with
   | tup l o p=>cases fB I h' a with
    | tup b n i =>
     have g:=λj (h1:j < _) (h2:j < _)=>XY I x (A:=A.in1) l b o n (by show A.units+1+_ < IE; unfold dep at c; omega) j h1 h2
     have k:A.units < IE:=by omega
     unfold b6
     rw [UB,<- l.length,<- b.length,o.length,n.length]
     exact ⟨by simpa using RcAt.tuples p i k (λj h1 h2=>g j (by simpa using h1) (by simpa using h2)),by simpa using RcNeAt.tuples p i k (λj h1 h2=>g j (by simpa using h1) (by simpa using h2))⟩
 | .lst x,A,_,_,_,_,_,h,h',r,a,c=>(q_ (fB I h r) (fB I h' a) (by omega)).elim id λe=>by
   simp [Mu] at e; obtain ⟨y,rfl⟩:=e
   cases fB I h r with
   | @lst _ _ _ af l o p=>cases fB I h' a with
    | @lst _ _ _ its' b n i =>
     have g:=λj (h1:j < _) (h2:j < _)=>XY I x (A:=A.in1) l b o n (by show A.units+1+_ < IE; unfold dep at c; omega) j h1 h2
     have k:A.units < IE:=by omega
     unfold b6
     rw [UB,<- l.length,<- b.length,o.length,n.length]
     by_cases f:af.length=its'.length
     .rw [f,Nat.min_self]
      exact ⟨by simpa [f] using RcAt.lists p i (by simpa using f) k (λj h1 h2=>g j (by simpa using h1) (by simpa using h2)),by simpa [f] using RcNeAt.lists p i (by simpa using f) k (λj h1 h2=>g j (by simpa using h1) (by simpa using h2))⟩
     .rw [beq_eq_false_iff_ne.mpr f,Bool.and_false]
      exact ⟨RcAt.lists_lengths p i (by simpa using f) k,RcNeAt.lists_lengths p i (by simpa using f) k⟩
theorem XY (I:Inv X pins σ H s):∀ (ds:List D) {A:Around} {m:List D} {xs ys:List V} {us q:List Value},zP X.K H ds xs->zP X.K H m ys->yS xs us->yS ys q->A.units+qG ds < IE →
  ∀ (j:Nat) (h1:j < us.length) (h2:j < q.length),EqAt A s us[j] q[j] (b6 (ds.getD j .non) (m.getD j .non))
 | [],A,m,xs,ys,us,q,l,b,r,a,c,j,h1,h2=>by
  rw [zP.nil_iff] at l; subst l
  cases r
  simp at h1
 | d :: ds,A,m,xs,ys,us,q,l,b,r,a,c,j,h1,h2=>by
  obtain ⟨x,M,rfl,B,J⟩:=B_.mp l
  cases m with
  | nil =>
   rw [zP.nil_iff] at b; subst b
   cases a
   simp at h2
  | cons d' m =>
   obtain ⟨y,L,rfl,F,z⟩:=B_.mp b
   cases r with
   | cons r G =>
    cases a with
    | cons a w =>
     unfold qG at c
     cases j with
     | zero=>exact QP (fB I B r) (Qg I d B F r a (by have:=Nat.le_max_left (dep d) (qG ds); omega)).1 (λe=>by
       have e:_=_:=e
       subst e; cases (XB r).trans (XB a).symm; cases ae.inj I B F; exact qj _)
     | succ j=>exact XY I ds J z G w (by have:=Nat.le_max_right (dep d) (qG ds); omega) j (by simpa using h1) (by simpa using h2)
end
def Pc (I:Inv X pins σ H s) (d:D) (A:Around) (d':D) (v a:V) (u b:Value) (h:ae X.K H d v) (h':ae X.K H d' a) (r:yO v u) (c:yO a b) (f:A.units+dep d < IE):SeqAt.EqAt A s u b (b6 d d') :=
 QP (fB I h r) (Qg I d h h' r c f).1 λe=>by subst e; cases (XB r).trans (XB c).symm; cases ae.inj I h h'; exact qj _
def MT (I:Inv X pins σ H s) (d:D) (A:Around) (d':D) (v a:V) (u b:Value) (h:ae X.K H d v) (h':ae X.K H d' a) (r:yO v u) (c:yO a b) (e:A.units+dep d < IE):SeqAt.RcAt A s u b (b6 d d'):=(Qg I d h h' r c e).1
def MS (I:Inv X pins σ H s) (d:D) (A:Around) (d':D) (v a:V) (u b:Value) (h:ae X.K H d v) (h':ae X.K H d' a) (r:yO v u) (c:yO a b) (e:A.units+dep d < IE):SeqAt.RcNeAt A s u b (!b6 d d'):=(Qg I d h h' r c e).2
end
def qP.full {K:A6} (h:qP K Hf σ ρ d v) (R:Rep K H₀ aa σ ρ H Hf):ae K H d v:=by
 rcases h with h | ⟨i,ds,rfl,e1,e2⟩
 .exact h.mono R.sf
 .obtain ⟨a,b,⟨xs,p2,c⟩,_⟩:=R.ow i _ e1 rfl
  rw [e2] at b; cases b
  exact En.mpr ⟨a,xs,rfl,bC.of p2,c.mono R.sf⟩
section
variable {X:Cx} {e a b c:Expr} {es:List Expr} {f g h:FE} {fa ga:FA} {ft gt:FT} {pos:Pos} {t t':TE} {kk:Nat}
def zcl (K:A6):R2:=λx y H Q=>∃ d d',ae K H d x/\ae K H d' y/\dep d<=100/\Q (.bl (b6 d d')) H
def zch (K:A6):R2:=λx y H Q=>∃ d d',ae K H d x/\ae K H d' y/\dep d<=100/\Q (.bl (!b6 d d')) H
def FW (k:Room kk X.A):cu X (EV .Eq) (zcl X.K):=by
 intro pins s σ H x y v u Q I j i h
 obtain ⟨d,d',h1,h2,l,q⟩:=h
 exact MT I d X.A d' x y v u h1 h2 j i (by have:=k.un; omega) X.prog X.w X.xe _ ⟨.bl _,H,I,rfl,q⟩
def FU (k:Room kk X.A):cu X (EV .NotEq) (zch X.K):=by
 intro pins s σ H x y v u Q I j i h
 obtain ⟨d,d',h1,h2,l,q⟩:=h
 exact MS I d X.A d' x y v u h1 h2 j i (by have:=k.un; omega) X.prog X.w X.xe _ ⟨.bl _,H,I,rfl,q⟩
def bY:D->D->Option D:=λx y=>if dep x<=100 then some (.bl (b6 x y)) else none
def c_:D->D->Option D:=λx y=>if dep x<=100 then some (.bl (!b6 x y)) else none
def FZ:eN X (zcl X.K) bY:=by
 intro σ ρ H₀ aa H Hf x y dx m d Q R l j i k
 unfold bY at i
 split at i
 .cases i
  exact ⟨dx,m,l.full R,j.full R,by assumption,k _ _ _ R zE zE (Eb.mpr rfl)⟩
 .cases i
def FX:eN X (zch X.K) c_:=by
 intro σ ρ H₀ aa H Hf x y dx m d Q R l j i k
 unfold c_ at i
 split at i
 .cases i
  exact ⟨dx,m,l.full R,j.full R,by assumption,k _ _ _ R zE zE (Eb.mpr rfl)⟩
 .cases i
def zab (d:Room kk X.A) (j:DR X a f) (i:DR X b g):DE X (.Compare a [.Eq] [b] pos) (zt bY f g):=J3 (FW d) FZ j i (uJ _)
def zd5 (d:Room kk X.A) (j:DR X a f) (i:DR X b g):DE X (.Compare a [.NotEq] [b] pos) (zt c_ f g):=J3 (FU d) FX j i (uJ _)
def vN (d:Room kk X.A) (j:DR X a f) (i:DR X b g):DT X (.Compare a [.Eq] [b] pos) (aU (zt bY f g)):=x6 (FW d) FZ j i (uJ _)
def X0 (d:Room kk X.A) (j:DR X a f) (i:DR X b g):DT X (.Compare a [.NotEq] [b] pos) (aU (zt c_ f g)):=x6 (FU d) FX j i (uJ _)
def mL (X:Cx) (r:List V->Hp->VK->Prop) (φ:List D->Option D):Prop :=
 ∀ (σ:St) (ρ:bj) (H₀ aa H Hf:Hp) (xs:List V) (ds:List D) (d:D) (Q:VK),Rep X.K H₀ aa σ ρ H Hf->jS X.K Hf σ ρ ds xs->φ ds=some d →
  (∀ v H' ah,Rep X.K H₀ aa σ ρ H' ah->z7 H H'->z7 Hf ah->ae X.K ah d v->Q v H')->r xs H Q
def yo (φ:List D->Option D) (fa:FA):FE:=λρ=>(fa ρ).bind φ
def ym  {f:FA} {r:α} (h:(f ρ).bind k=some r):∃ b,f ρ=some b/\k b=some r:=by
 cases hf:f ρ with
 | none=>rw [hf] at h; cases h
 | some x=>rw [hf] at h; exact ⟨x,rfl,h⟩
def Fp (m:mL X r φ) (σ:St) (H:Hp) (Q:VK) (hh:tF X.K (yo φ fa) σ H Q):tCB r (tAR X.K fa) σ H Q:=by
 obtain ⟨H₀,aa,ρ,Hf,d,R,q,k⟩:=hh
 obtain ⟨ds,e1,e2⟩:=ym q
 exact ⟨H₀,aa,ρ,Hf,ds,R,e1,λvs H1 l n s1 j h1=>m σ ρ H₀ aa H1 l vs ds d Q n h1 e2 λv H2 aK R2 s2 i h2=>k _ _ _ R2 (s1.trans s2) (j.trans i) h2⟩
def yj {id:String} (m:wU X (.builtin id) r) (q:mL X r φ) (hg:Gl X x) (k:X.mg x=none) (i:EM x=some (.builtin id)) (n:i_ X (e :: es) fa)
  (j:x≠"__name__":=by decide) (d:(x==("__debug__":Str))=false:=by decide)
  (l:A7 (e :: es) X.env=(false,eval e X.env) :: A7 es X.env:=by rfl) (o:(EU pos (A7 es X.env)).any (·.1)=false:=by rfl):DE X (.Call (.Name x p) (e :: es) [] pos) (yo φ fa) :=
 yu (qc m hg k i n j d l o) (Fp q)
def xw (m:wU X (.type T) r) (q:mL X r φ) (hg:Gl X x) (k:X.mg x=none) (i:EM x=some (.type T)) (n:i_ X (e :: es) fa)
  (j:x≠"__name__":=by decide) (d:(x==("__debug__":Str))=false:=by decide)
  (l:A7 (e :: es) X.env=(false,eval e X.env) :: A7 es X.env:=by rfl) (o:(EU pos (A7 es X.env)).any (·.1)=false:=by rfl):DE X (.Call (.Name x p) (e :: es) [] pos) (yo φ fa) :=
 yu (wI m hg k i n j d l o) (Fp q)
def jS.one {K:A6} (h:jS K Hf σ ρ [d] xs):∃ v,xs=[v]/\qP K Hf σ ρ d v:=by
 cases h with
 | cons h1 h2=>cases h2; exact ⟨_,rfl,h1⟩
def jS.two {K:A6} (h:jS K Hf σ ρ [d,d'] xs):∃ v i,xs=[v,i]/\qP K Hf σ ρ d v/\qP K Hf σ ρ d' i:=by
 cases h with
 | cons h1 h2 =>
  cases h2 with
  | cons h2 j=>cases j; exact ⟨_,_,rfl,h1,h2⟩
def kX:List D->Option D
 | [.lst ds]=>some (.int ds.length)
 | [.tup ds]=>some (.int ds.length)
 | [.str x]=>if x.length<=sizeLine then some (.int x.length) else none
 | _=>none
def yf:wU X (.builtin "len") (λxs H Q=>(∃ p ys,xs=[.ref p]/\(bC X.K H p ys\/bF X.K H p ys)/\Q (.int ys.length) H)\/(∃ z,xs=[.str z]/\z.length<=sizeLine/\Q (.int z.length) H)):=wU.or Vw Vv
def yX:mL X (λxs H Q=>(∃ p ys,xs=[.ref p]/\(bC X.K H p ys\/bF X.K H p ys)/\Q (.int ys.length) H)\/(∃ z,xs=[.str z]/\z.length<=sizeLine/\Q (.int z.length) H)) kX:=by
 intro σ ρ H₀ aa H Hf xs ds d Q R m i k
 unfold kX at i
 split at i
 .cases i
  obtain ⟨v,rfl,j⟩:=m.one
  obtain ⟨a,ys,rfl,q,l⟩:=j.lst R
  exact .inl ⟨a,ys,rfl,.inl q,k _ _ _ R zE zE (by rw [<- l.length]; exact u9.mpr rfl)⟩
 .cases i
  obtain ⟨v,rfl,j⟩:=m.one
  obtain ⟨a,ys,rfl,q,l⟩:=j.tup R
  exact .inl ⟨a,ys,rfl,.inr q,k _ _ _ R zE zE (by rw [<- l.length]; exact u9.mpr rfl)⟩
 .split at i
  .cases i
   obtain ⟨v,rfl,j⟩:=m.one
   exact .inr ⟨_,by rw [j.str],by assumption,k _ _ _ R zE zE (u9.mpr rfl)⟩
  .cases i
 .cases i
def zee:List D->Option D
 | [.int i]=>some (.int (if i < 0 then -i else i))
 | _=>none
def F6:List D->Option D
 | [.int i,.int j]=>some (.int (if j > i then j else i))
 | _=>none
def NF:List D->Option D
 | [.int i,.int j]=>some (.int (if j < i then j else i))
 | _=>none
def XU:mL X (λxs H Q=>∃ i j,xs=[.int i,.int j]/\Q (.int (if j > i then j else i)) H) F6:=by
 intro σ ρ H₀ aa H Hf xs ds d Q R n l k
 unfold F6 at l
 split at l
 .cases l
  obtain ⟨v,p,rfl,o,m⟩:=n.two
  exact ⟨_,_,by rw [o.int,m.int],k _ _ _ R zE zE (u9.mpr rfl)⟩
 .cases l
def Uw:mL X (λxs H Q=>∃ i j,xs=[.int i,.int j]/\Q (.int (if j < i then j else i)) H) NF:=by
 intro σ ρ H₀ aa H Hf xs ds d Q R n l k
 unfold NF at l
 split at l
 .cases l
  obtain ⟨v,p,rfl,o,m⟩:=n.two
  exact ⟨_,_,by rw [o.int,m.int],k _ _ _ R zE zE (u9.mpr rfl)⟩
 .cases l
def PX:List D->Option D
 | [.int i]=>some (.int i)
 | [.bl b]=>some (.int (if b then 1 else 0))
 | _=>none
def Hk:mL X (λxs H Q=>(∃ i,xs=[.int i]/\Q (.int i) H)\/∃ k,xs=[.bl k]/\Q (.int (if k then 1 else 0)) H) PX:=by
 intro σ ρ H₀ aa H Hf xs ds d Q R m j k
 unfold PX at j
 split at j
 .cases j
  obtain ⟨v,rfl,l⟩:=m.one
  exact .inl ⟨_,by rw [l.int],k _ _ _ R zE zE (u9.mpr rfl)⟩
 .cases j
  obtain ⟨v,rfl,l⟩:=m.one
  exact .inr ⟨_,by rw [l.bl],k _ _ _ R zE zE (u9.mpr rfl)⟩
 .cases j
def ud (F G:FS):FS:=λρ=>(F ρ).bind λo=>match o with
 | .nx aD=>G aD
 | o=>some o
def eF:FS:=λρ=>some (.nx ρ)
variable {st:Stmt} {il vT:List Stmt} {F G:FS}
def qt     {r:α} (h:(F ρ).bind k=some r):∃ b,F ρ=some b/\k b=some r:=by
 cases hf:F ρ with
 | none=>rw [hf] at h; cases h
 | some x=>rw [hf] at h; exact ⟨x,rfl,h⟩
def zW:gQ X [] eF:=j6 XD λD' σ H ⟨H₀,aa,ρ,Hf,o,R,q,k⟩=>by cases q; exact k _ _ _ R zE
def zd (h1:DS X st F) (h2:gQ X vT G):gQ X (st :: vT) (ud F G):=j6 (xi h1 h2) λD' σ H ⟨H₀,aa,ρ,Hf,o,R,q,k⟩=>by
 obtain ⟨i,e1,e2⟩:=qt q
 refine ⟨H₀,aa,ρ,Hf,i,R,e1,?_⟩
 cases i with
 | nx aD =>
  intro aC H' ah R' s'
  refine ⟨H₀,aa,aD,ah,o,R',e2,?_⟩
  cases o with
  | nx _=>exact λd H2 aK R2 s2=>k _ _ _ R2 (s'.trans s2)
  | bk _=>exact λd H2 aK R2 s2=>k _ _ _ R2 (s'.trans s2)
  | ct _=>exact λd H2 aK R2 s2=>k _ _ _ R2 (s'.trans s2)
  | rt _=>exact λv d j H2 aK R2 s2 h2=>k _ _ _ _ _ R2 (s'.trans s2) h2
 | bk _=>cases e2; exact k
 | ct _=>cases e2; exact k
 | rt _=>cases e2; exact k
def zg (h1:DS X st F):gQ X [st] F:=ZG h1
def Su:FS:=λ_=>none
def QW:DS X st Su:=x8 Cn λD' σ H ⟨H₀,aa,ρ,Hf,o,R,q,k⟩=>by cases q
def Yv (f:FE):FS:=λρ=>(f ρ).bind λd=>some (.rt d)
def zC (j:DE X e f):DS X (.Return (some e) pos) (Yv f):=x8 (K3 j) λD' σ H ⟨H₀,aa,ρ,Hf,o,R,q,k⟩=>by
 obtain ⟨d,e1,e2⟩:=zQ q
 cases e2
 exact ⟨H₀,aa,ρ,Hf,d,R,e1,λv H1 l m s1 i h1=>k v σ ρ H1 l m i h1⟩
def dh (c:FT) (F G:FS):FS:=λρ=>(c ρ).bind λb=>if b=true then F ρ else G ρ
def P8.mono {K:A6} (k:P8 K H₀ aa Hf D' o) (t:z7 Hf i):P8 K H₀ aa i D' o:=by
 cases o with
 | nx _=>exact λd H2 aK R2 s2=>k _ _ _ R2 (t.trans s2)
 | bk _=>exact λd H2 aK R2 s2=>k _ _ _ R2 (t.trans s2)
 | ct _=>exact λd H2 aK R2 s2=>k _ _ _ R2 (t.trans s2)
 | rt _=>exact λv d j H2 aK R2 s2 h2=>k _ _ _ _ _ R2 (t.trans s2) h2
def xo {a b:List Stmt} (l:DT X c ft) (n:gQ X a F) (m:gQ X b G):DS X (.If c a b pos) (dh ft F G):=x8 (Co l n m) λD' σ H ⟨H₀,aa,ρ,Hf,o,R,q,k⟩=>by
 obtain ⟨x,e1,e2⟩:=vc q
 refine ⟨H₀,aa,ρ,Hf,x,R,e1,λH1 i j s1 d=>?_⟩
 cases x with
 | true=>exact Kb ⟨H₀,aa,ρ,i,o,j,e2,k.mono d⟩
 | false=>exact GT ⟨H₀,aa,ρ,i,o,j,e2,k.mono d⟩
def qu (i:Nat) (f:FE):FS:=λρ=>(f ρ).bind λd=>some (.nx (ρ.set i (.fr d)))
def zX (i) (r:X.N.Nodup) (p:DE X e f) (hi:X.N[i]? = some x:=by rfl) (l:Loc X.env.scope x:=by first | exact E9 rfl | exact EI rfl) (m:EW e (some (.Name x pos')) pos.line X.env=pure false:=by rfl)
  (n:X.fn x=true\/X.env.scope.names.lookup x=some .local:=by first | exact .inl rfl | exact .inr rfl | assumption):DS X (.Assign [.Name x pos'] e pos) (qu i f) :=
 x8 (ZH r hi l p m n) λD' σ H ⟨H₀,aa,ρ,Hf,o,R,q,k⟩=>by
  obtain ⟨d,e1,e2⟩:=zQ q
  cases e2
  exact ⟨H₀,aa,ρ,Hf,d,R,e1,λv H1 u s s1 j h1=>k _ _ _ (s.set i h1) j⟩
def Kf (i:Nat) (f:FA):FS:=λρ=>(f ρ).bind λds=>some (.nx (ρ.set i (.ol ds)))
def wB (i) (A:X.N.Nodup) (w:DN X e fa) (hi:X.N[i]? = some x:=by rfl) (r:Loc X.env.scope x:=by first | exact E9 rfl | exact EI rfl) (s:EW e (some (.Name x pos')) pos.line X.env=pure false:=by rfl)
  (v:X.fn x=true\/X.env.scope.names.lookup x=some .local:=by first | exact .inl rfl | exact .inr rfl | assumption):DS X (.Assign [.Name x pos'] e pos) (Kf i fa) :=
 x8 (ZH A hi r w s v) λD' σ H ⟨H₀,aa,ρ,Hf,o,R,q,k⟩=>by
  obtain ⟨d,e1,e2⟩:=ym q
  cases e2
  refine ⟨H₀,aa,ρ,Hf,d,R,e1,λa xs H1 C B s1 m h1 y u hh=>k _ _ _ (B.setOwn i rfl ⟨xs,y,h1⟩ u (R.s0.free hh) ?_) m⟩
  intro j sl z o l
  obtain ⟨b,p,p2,_⟩:=R.ow j sl z o
  rw [p] at l; cases l
  obtain ⟨ob,n⟩:=p2.there o
  rw [n] at hh; cases hh
def frz (i:Nat) (ρ:bj):Option bj:=match ρ[i]? with
 | some (.ol ds)=>some (ρ.set i (.fr (.lst ds)))
 | some (.fr _)=>some ρ
 | _=>none
def PZ (i:Nat) (F:FS):FS:=λρ=>(frz i ρ).bind F
def uq (i) (h:gQ X il F):gQ X il (PZ i F):=j6 h λD' σ H ⟨H₀,aa,ρ,Hf,o,R,q,k⟩=>by
 unfold PZ frz at q
 split at q
 .rename_i ds e
  obtain ⟨ah,d,R'⟩:=R.freeze e
  exact ⟨H₀,aa,_,ah,o,R',q,k.mono d⟩
 .exact ⟨H₀,aa,_,Hf,o,R,q,k⟩
 .cases q
abbrev FG:=D->bj->Option bj
inductive tG (K:A6) (γ:FG) (v:V) (σ:St) (H:Hp) (Q:St->Hp->Prop):Prop
 |mk (H₀ aa ρ Hf d aD) (a0:Rep K H₀ aa σ ρ H Hf) (a1:ae K Hf d v) (a2:γ d ρ=some aD) (a3:∀ aC H' ah,Rep K H₀ aa aC aD H' ah->z7 Hf ah->Q aC H')
abbrev nQ:=List D->bj->Option bj
inductive tGs (K:A6) (γ:nQ) (vs:List V) (σ:St) (H:Hp) (Q:St->Hp->Prop):Prop
 |mk (H₀ aa ρ Hf ds aD) (a0:Rep K H₀ aa σ ρ H Hf) (a1:zP K Hf ds vs) (a2:γ ds ρ=some aD) (a3:∀ aC H' ah,Rep K H₀ aa aC aD H' ah->z7 Hf ah->Q aC H')
def DG (X:Cx) (tg:Expr) (γ:FG):Prop:=PG X tg (tG X.K γ)
def DGs (X:Cx) (ts:List Expr) (γ:nQ):Prop:=oZ X ts (tGs X.K γ)
def FN  {t t':TG} (h:PG X tg t) (i:∀ v σ H Q,t' v σ H Q->t v σ H Q):PG X tg t':=λpins s σ H v u Q I r d=>h pins s σ H v u Q I r (i _ _ _ _ d)
def K8  {t t':oY} (h:oZ X ts t) (i:∀ v σ H Q,t' v σ H Q->t v σ H Q):oZ X ts t':=λpins s σ H v u Q I r d=>h pins s σ H v u Q I r (i _ _ _ _ d)
def zS (i:Nat):FG:=λd ρ=>some (ρ.set i (.fr d))
def ya (i) (m:X.N.Nodup) (hi:X.N[i]? = some x:=by rfl) (j:Loc X.env.scope x:=by first | exact E9 rfl | exact EI rfl) (l:X.fn x=true\/X.env.scope.names.lookup x=some .local:=by first | exact .inl rfl | exact .inr rfl | assumption):DG X (.Name x pos) (zS i) :=
 FN (M8 m hi j l) λv σ H Q ⟨H₀,aa,ρ,Hf,d,aD,R,h,q,k⟩=>by
  cases q
  exact k _ _ _ (R.set i h) zE
def ZO:nQ:=λds ρ=>match ds with
 | []=>some ρ
 | _=>none
def yB (γ:FG) (δ:nQ):nQ:=λds ρ=>match ds with
 | d :: r=>(γ d ρ).bind λaD=>δ r aD
 | _=>none
def xq:DGs X [] ZO:=K8 M7 λv σ H Q ⟨H₀,aa,ρ,Hf,ds,aD,R,h,q,k⟩=>by
 cases ds with
 | nil=>cases q; exact ⟨zP.nil_iff.mp h,k _ _ _ R zE⟩
 | cons _ _=>cases q
def zH (h1:DG X e γ) (h2:DGs X es δ) (m:(Iq (e :: es) X.env).map (·.2)=assign e X.env :: (Iq es X.env).map (·.2):=by rfl):DGs X (e :: es) (yB γ δ) :=
 K8 (Cu h1 h2 m) λv σ H Q ⟨H₀,aa,ρ,Hf,ds,aD,R,h,q,k⟩=>by
  cases ds with
  | nil=>cases q
  | cons d r =>
   obtain ⟨x,j,rfl,l,n⟩:=B_.mp h
   have q:(γ d ρ).bind (λaD=>δ r aD)=some aD:=q
   cases e1:γ d ρ with
   | none=>rw [e1] at q; cases q
   | some i =>
    rw [e1] at q
    exact ⟨x,j,rfl,H₀,aa,ρ,Hf,d,i,R,l,e1,λs H1 o p s1=>⟨H₀,aa,i,o,r,aD,p,n.mono s1,q,λu H2 aK R2 s2=>k _ _ _ R2 (s1.trans s2)⟩⟩
def kH (n:Nat) (δ:nQ):FG:=λd ρ=>match d with
 | .tup ds=>if ds.length=n then δ ds ρ else none
 | _=>none
set_option tactic.hygienic true in
def wQ (o:X.calm=true) (h:DGs X es δ) (l:(Iq es X.env).length=n:=by rfl) (bp:(Iq es X.env).findIdx? (·.1)=none:=by rfl):DG X (.Tuple es kx pos) (kH n δ) :=
 FN (RP o h l bp) λv σ H Q ⟨H₀,aa,ρ,Hf,d,aD,R,h,q,k⟩=>by
  unfold kH at q
  split at q
  .split at q
   .rename_i ds m
    obtain ⟨a,xs,rfl,j,i⟩:=D_.mp h
    exact ⟨a,xs,rfl,je R.sf j,by rw [i.length]; exact m,H₀,aa,ρ,Hf,ds,aD,R,i,q,k⟩
   .cases q
  .cases q
end
def z9 (γ:FG) (B:FS):List D->bj->Option Out
 | [],ρ=>some (.nx ρ)
 | d :: ds,ρ=>(γ d ρ).bind λb=>(B b).bind λo=>match o with
  | .nx a=>z9 γ B ds a
  | .ct a=>z9 γ B ds a
  | .bk a=>some (.nx a)
  | .rt d=>some (.rt d)
def Vf (fi:FA) (γ:FG) (B:FS):FS:=λρ=>(fi ρ).bind λds=>z9 γ B ds ρ
structure Grows (H Hf H' ah:Hp):Prop where
 h:z7 H H'
 f:z7 Hf ah
 fh:z7 ah H'
 new:∀ b o,ah b=some o->Hf b=some o\/H b=none\/Tp o
def Rep.grows {K:A6} (R:Rep K H₀ aa σ ρ H Hf) (g:Grows H Hf H' ah):Rep K H₀ aa σ ρ H' ah:=R.grow g.h g.f g.fh g.new
def Grows.refl (h:z7 Hf H):Grows H Hf H Hf:=⟨zE,zE,h,λ_ _ e=>.inl e⟩
def Walks (K:A6) (Hf:Hp) (J:It) (ds:List D):Prop :=
 ∀ (H' ah:Hp),z7 Hf ah->z7 ah H'->∀ i:Nat,(∀ d,ds[i]? = some d->J.go i H'/\∀ x H2,J.yld i H' x H2->∃ aK,Grows H' ah H2 aK/\ae K aK d x)/\(ds.length<=i->J.stop i H')
inductive tI (K:A6) (fi:FA) (σ:St) (H:Hp) (R':It->Hp->Prop):Prop
 |mk (H₀ aa ρ Hf ds) (a0:Rep K H₀ aa σ ρ H Hf) (a1:fi ρ=some ds) (a2:∀ J H' ah,Rep K H₀ aa σ ρ H' ah->z7 H H'->z7 Hf ah->Walks K ah J ds->R' J H')
def DI (X:Cx) (tg iter:Expr) (fi:FA):Prop:=PI X tg iter (tI X.K fi)
section
variable {X:Cx} {e a b c tg iter:Expr} {es:List Expr} {f g h:FE} {fa ga fi:FA} {ft gt:FT} {pos:Pos} {t t':TE} {kk:Nat} {st:Stmt} {il vT body:List Stmt} {F G B:FS} {γ:FG}
def RO {t t':TI} (h:PI X tg iter t) (i:∀ σ H R,t' σ H R->t σ H R):PI X tg iter t':=λpins s σ H R I d=>h pins s σ H R I (i _ _ _ d)
def wt (hp:PassesOwn (Ec X.prog X.w) X.A X.env X.xe) (hc:X.calm=true) (hi:DI X tg iter fi) (hg:DG X tg γ) (hb:gQ X body B)
  (hs:∀ x,Ie iter X.env x=pure x:=by intro _; rfl):DS X (.For tg iter body [] pos) (Vf fi γ B) :=
 x8 (FF hp hc hi hg hb hs) λD' σ H ⟨H₀,aa,ρ,Hf,o,R,q,k⟩=>by
  obtain ⟨ds,e1,e2⟩:=ym q
  refine ⟨H₀,aa,ρ,Hf,ds,R,e1,λJ H1 u R1 _ W Q=>?_⟩
  have k1:=k.mono W
  refine ⟨λi m σ H=>m=ds.length - i/\i<=ds.length/\∃ ρ ah,Rep X.K H₀ aa σ ρ H ah/\z7 u ah/\z9 γ B (ds.drop i) ρ=some o,⟨ds.length,by simp,dm _,ρ,u,R1,zE,by simpa using e2⟩,?_⟩
  rintro i m gx H2 ⟨rfl,hi,O,aK,R2,w,j⟩
  obtain ⟨T,S⟩:=Q H2 aK w R2.sf i
  by_cases A:i < ds.length
  .right
   have hd:ds[i]? = some ds[i]:=dq A
   obtain ⟨go,yld⟩:=T _ hd
   refine ⟨go,?_⟩
   rw [AL A] at j
   unfold z9 at j
   cases z:γ ds[i] O with
   | none=>rw [z] at j; cases j
   | some L =>
    rw [z] at j
    simp only [ai] at j
    obtain ⟨I,eb,s⟩:=qt j
    refine ⟨λaC H'=>∃ aD ah,Rep X.K H₀ aa aC aD H' ah/\z7 u ah/\z9 γ B (ds.drop (i+1)) aD=some o,?_,?_⟩
    .rintro aC H' ⟨aD,ah,R',t',e'⟩
     exact ⟨ds.length - (i+1),by omega,rfl,A,aD,ah,R',t',e'⟩
    .intro x H3 Y
     obtain ⟨f7,M,Z⟩:=yld x H3 Y
     refine ⟨H₀,aa,O,f7,ds[i],L,R2.grows M,Z,z,λP H4 E R4 U=>?_⟩
     refine ⟨H₀,aa,L,E,I,R4,eb,?_⟩
     have tt:z7 u E:=(w.trans M.f).trans U
     cases I with
     | nx p=>exact λy C r n l=>⟨p,r,n,tt.trans l,s⟩
     | ct p=>exact λy C r n l=>⟨p,r,n,tt.trans l,s⟩
     | bk p=>cases s; exact λy C r n l=>k1 _ _ _ n (tt.trans l)
     | rt d=>cases s; exact λv y p C r n l h5=>k1 _ _ _ _ _ n (tt.trans l) h5
  .left
   have:ds.drop i=[]:=g3r (by omega)
   rw [this] at j
   cases j
   exact ⟨S (by omega),k1 _ _ _ R2 w⟩
def y7 (lo hi:Int):List D:=(aw (hi - lo).toNat).map λ(k:Nat)=>D.int (lo+(k:Int))
noncomputable def vG:List D->Option (List D)
 | [.int j]=>@ite _ (-(2 ^ 62)<=j/\j < 2 ^ 62) (E7 _) (some (y7 0 j)) none
 | _=>none
noncomputable def MR (fa:FA):FA:=λρ=>(fa ρ).bind vG
def VN {K:A6} {lo:Int}:Walks K Hf (Itr lo n) ((aw n).map λ(k:Nat)=>D.int (lo+(k:Int))):=λH2 aK o m i=>by
 refine ⟨λd hd=>?_,λhle=>?_⟩
 .rw [cP] at hd
  cases e:(aw n)[i]? with
  | none=>rw [e] at hd; cases hd
  | some j =>
   rw [e] at hd
   cases hd
   obtain ⟨h1,h2⟩:=dw.mp e
   simp at h1 h2
   subst h2
   refine ⟨h1,λx p l=>?_⟩
   obtain ⟨rfl,rfl⟩:=l
   exact ⟨aK,Grows.refl m,u9.mpr rfl⟩
 .show n<=i
  simpa using hle
set_option tactic.hygienic true in
def xG (hg:Gl X "range") (r:X.mg "range"=none) (s:i_ X [a] fa) (o:A7 [a] X.env=[(false,eval a X.env)]:=by rfl):DI X tg (.Call (.Name "range" p) [a] [] pos) (MR fa) :=
 RO (K7 hg r s o) λσ H R' ⟨H₀,aa,ρ,Hf,ds,R,q,k⟩=>by
  obtain ⟨l,e1,e2⟩:=ym q
  unfold vG at e2
  split at e2
  .split at e2
   .cases e2
    rename_i j d
    refine ⟨H₀,aa,ρ,Hf,_,R,e1,λvs H1 u w s1 i h1=>?_⟩
    obtain ⟨v,rfl,m⟩:=h1.one
    refine ⟨j,by rw [m.int],d.1,d.2,k _ _ _ w s1 i ?_⟩
    have:=VN (K:=X.K) (Hf:=u) (lo:=0) (n:=j.toNat)
    unfold y7
    rw [Int.sub_zero]
    exact this
   .cases e2
  .cases e2
def yF (c:FT) (B:FS):Nat->bj->Option Out
 | 0,_=>none
 | n+1,ρ=>(c ρ).bind λb=>if b=true then (B ρ).bind λo=>match o with
   | .nx i=>yF c B n i
   | .ct i=>yF c B n i
   | .bk i=>some (.nx i)
   | .rt d=>some (.rt d)
  else some (.nx ρ)
def jG (n) (E:PassesOwn (Ec X.prog X.w) X.A X.env X.xe) (I:DT X c ft) (J:gQ X body B):DS X (.While c body [] pos) (yF ft B n) :=
 x8 (Ck E I J) λD' σ H ⟨H₀,aa,ρ,Hf,o,R,q,k⟩=>by
  refine ⟨λm σ H=>∃ ρ ah,Rep X.K H₀ aa σ ρ H ah/\z7 Hf ah/\yF ft B m ρ=some o,⟨n,ρ,Hf,R,zE,q⟩,?_⟩
  rintro m S H2 ⟨y,aK,R2,C,e2⟩
  cases m with
  | zero=>cases e2
  | succ m =>
   unfold yF at e2
   obtain ⟨b,P,x⟩:=vc e2
   refine ⟨H₀,aa,y,aK,b,R2,P,λT M z Q A=>?_⟩
   have tt:=C.trans A
   cases b with
   | false=>cases x; exact GT (k _ _ _ z tt)
   | true =>
    obtain ⟨w,O,r⟩:=qt x
    refine Kb ⟨λaC H'=>∃ aD ah,Rep X.K H₀ aa aC aD H' ah/\z7 Hf ah/\yF ft B m aD=some o,λaC H' h=>⟨m,LG _,h⟩,H₀,aa,y,M,w,z,O,?_⟩
    cases w with
    | nx l=>exact λs u p j i=>⟨l,p,j,tt.trans i,r⟩
    | ct l=>exact λs u p j i=>⟨l,p,j,tt.trans i,r⟩
    | bk l=>cases r; exact λs u p j i=>k _ _ _ j (tt.trans i)
    | rt d=>cases r; exact λv s l u p j i L=>k _ _ _ _ _ j (tt.trans i) L
def vQ (i:Nat) (f:FE):FS:=λρ=>(f ρ).bind λd=>match ρ[i]? with
 | some (.ol ds)=>if ds.length < sizeLine then some (.nx (ρ.set i (.ol (ds++[d])))) else none
 | _=>none
def wO (i) (C:DE X e f) (E:X.N[i]? = some x:=by rfl) (z:iz X.env.scope x:=by first | exact E9 rfl | exact EI (E9 rfl) | exact EI (EI rfl))
  (hd:(x==("__debug__":Str))=false:=by decide) (p:(x==("__classdict__":Str))=false:=by decide)
  (m:IR (.Name x j) "append" X.env (eval (.Name x j) X.env)=eval (.Name x j) X.env:=by rfl)
  (n:((EU aO (A7 [e] X.env)).all (λx => !x.1)&&(backToKw aO (keywordEach [] X.env)).all (λx=>x.1.isSome)
   && decide (([e]:List Expr).length+([]:List Lz).length+(if ([]:List Lz).isEmpty then 0 else 1) < 30))=true:=by rfl)
  (l:(apos.endLine==aO.line)=true:=by rfl) (bp:A7 [e] X.env=(false,eval e X.env) :: A7 [] X.env:=by rfl) (I:(EU aO (A7 [] X.env)).any (·.1)=false:=by rfl)
  (A:EW (.Call (.Attribute (.Name x j) "append" apos) [e] [] aO) none pos.line X.env=pure false:=by rfl) :
  DS X (.Expr (.Call (.Attribute (.Name x j) "append" apos) [e] [] aO) pos) (vQ i f) :=
 x8 (V2 (CA LB PySem.F.slot_list_append PySem.F.type_list_append ZR (jh E z hd p) (z8 C xx bp) m n l bp I) A) λD' σ H ⟨H₀,aa,ρ,Hf,o,R,q,k⟩=>by
  obtain ⟨d,e1,e2⟩:=zQ q
  split at e2
  .split at e2
   .cases e2
    rename_i ds r hz
    obtain ⟨a,j,⟨xs,p2,P⟩,O,M⟩:=R.ow i _ r rfl
    refine ⟨_,j,.inl ⟨rfl,xs,bC.of p2⟩,H₀,aa,ρ,Hf,d,R,e1,λv H1 Q u s1 w h1=>?_⟩
    obtain ⟨S,s,⟨ys,y,r3⟩,L,J⟩:=u.ow i _ r rfl
    rw [j] at s; cases s
    refine ⟨a,ys,v,rfl,rfl,y,by rw [r3.length]; exact hz,?_⟩
    exact k _ _ _ (u.updOwn r rfl j rfl ⟨_,zq,r3.append (.cons h1 .nil)⟩) w
   .cases e2
  .cases e2
def zdn (i j:Nat) (fa:FA):FS:=λρ=>(fa ρ).bind λl=>match l with
 | [d,d']=>some (.nx ((ρ.set i (.fr d)).set j (.fr d')))
 | _=>none
end
inductive spF (K:A6) (n:Nat) (g:List D->Option D) (vs:List V) (H:Hp) (Q:VK) (E:XK):Prop
 |mk (Hf ds d) (a0:z7 Hf H) (a1:zP K Hf ds vs) (a2:ds.length=n) (a3:g ds=some d) (a4:∀ v H' ah,Grows H Hf H' ah->ae K ah d v->Q v H')
def qW (n:Nat) (ds:List D):bj:=ds.map Slot.fr++aF (n - ds.length) Slot.no
def V8 (o:Option Out):Option D:=match o with
 | some (.rt d)=>some d
 | some (.nx _)=>some .non
 | _=>none
def yx (m:Nat) (F:FS):List D->Option D:=λds=>V8 (F (qW m ds))
def ZE {K:A6} {N:List Str} {H Hf:Hp} {ds:List D} {vs:List V} (sf:z7 Hf H) (h:zP K Hf ds vs):Rep K H Hf (L2.start N vs) (qW N.length ds) H Hf where
 s0:=zE
 sf:=sf
 nf:=λb o e=>.inl e
 f0:=zE
 len:=by unfold qW L2.start; simp [h.length]
 fr:=λi d e=>by
  unfold qW at e
  unfold L2.start
  by_cases hi:i < ds.length
  .rw [fE (by simpa using hi)] at e
   rw [cP] at e
   cases e1:ds[i]? with
   | none=>rw [e1] at e; cases e
   | some d' =>
    rw [e1] at e; cases e
    obtain ⟨v,e2,c⟩:=h.get e1
    refine ⟨v,?_,c⟩
    have f:=h.length
    rw [fE (by simp; omega),cP,e2]
    rfl
  .rw [fX (by simpa using hi),nI] at e
   split at e <;> cases e
 ow:=λi sl e o=>by
  unfold qW at e
  by_cases hi:i < ds.length
  .rw [fE (by simpa using hi),cP] at e
   cases e1:ds[i]? with
   | none=>rw [e1] at e; cases e
   | some d'=>rw [e1] at e; cases e; cases o
  .rw [fX (by simpa using hi),nI] at e
   split at e
   .cases e; cases o
   .cases e
 inj:=λi j sl cG a e o g o' _ _=>by
  unfold qW at e
  by_cases hi:i < ds.length
  .rw [fE (by simpa using hi),cP] at e
   cases e1:ds[i]? with
   | none=>rw [e1] at e; cases e
   | some d'=>rw [e1] at e; cases e; cases o
  .rw [fX (by simpa using hi),nI] at e
   split at e
   .cases e; cases o
   .cases e
section
variable {P:Ej} {w:Ey} {K:A6} {mg:Str->Option Value} {base:Heap}
set_option tactic.hygienic true in
def zV  {st:Stmt} (i:N.length=m) (g:ps.length=n) (j:Fun K x qual st f fd) (S:FnScope N ps (zl st))
  (body:∀ (ar:Value) (A:Around) (outer:List Env) (s:Shared) (H:Hp) (E:XK),Room k (A.deeper (envOfC qual (zl st) s.heap.objs.size f ar)) →
   gQ (Wh bg P w K mg base N qual (zl st) f ar A outer s H E).nox (wo st) F) :
  FnOk P w K mg base bg (k+1) f fd ps (spF K n (yx m F)):=by
 subst i g
 refine j.ok S (λvs H Q E h=>?_) (λar A outer s H vs Q E c h=>?_)
 .obtain ⟨Hf,ds,d,_,h1,h2,_⟩:=h
  rw [h1.length]; exact h2
 .obtain ⟨Hf,ds,d,sf,h1,h2,a,q⟩:=h
  refine ⟨_,body ar A outer s H E c,?_⟩
  unfold yx V8 at a
  have R:=ZE (N:=N) sf h1
  have fin:∀ (v:V) (aC:St) (aD:bj) (H' ah:Hp),Rep K H Hf aC aD H' ah->ae K ah d v->Q v H':=λv aC aD H' ah R' b=>q v H' ah ⟨R'.s0,R'.f0,R'.sf,R'.nf⟩ b
  split at a
  .cases a
   rename_i d e
   exact ⟨H,Hf,_,Hf,_,R,e,λv aC aD H' ah R' _ b=>fin v aC aD H' ah R' b⟩
  .cases a
   rename_i aD e
   exact ⟨H,Hf,_,Hf,_,R,e,λaC H' ah R' _=>fin _ aC aD H' ah R' (Ex.mpr rfl)⟩
  .cases a
end
section
variable {X:Cx} {e:Expr} {es:List Expr} {fa:FA} {pos:Pos}
def Tx (A:FnOk X.prog X.w X.K X.mg X.base CX k f fd ps (spF X.K n g)) (l:Room k X.A) (hg:Gl X x) (o:X.mg x=some (.ref f))
  (r:W.keepIn X.K (.ref f)=true) (u:Wg X.K fd ps []) (i:Je CX X E) (w:DA X (e :: es) fa) (m:∀ ρ ds,fa ρ=some ds->ds.length=n)
  (a:(x==("__debug__":Str))=false:=by decide) (s:A7 (e :: es) X.env=(false,eval e X.env) :: A7 es X.env:=by rfl) (y:(EU pos (A7 es X.env)).any (·.1)=false:=by rfl) :
  DE X (.Call (.Name x p) (e :: es) [] pos) (yo g fa) :=
 yu (Gb A l hg o r u .nil i w a s y) λσ H Q ⟨H₀,aa,ρ,Hf,d,R,q,k⟩=>by
  obtain ⟨ds,e1,e2⟩:=ym q
  refine ⟨H₀,aa,ρ,Hf,ds,R,e1,λvs H1 z c s1 h h1=>?_⟩
  show spF X.K n g (vs++[]) H1 Q E
  rw [bx]
  exact ⟨z,ds,d,c.sf,h1,m ρ ds e1,e2,λv H2 aK b j=>k _ _ _ (c.grows b) (s1.trans b.h) (h.trans b.f) j⟩
end
def C4:∀ ρ ds,yb ρ=some ds->ds.length=0:=λρ ds h=>by cases h; rfl
def YB (h:∀ (ρ:bj) (ds:List D),g ρ=some ds->ds.length=n):∀ ρ ds,zf f g ρ=some ds->ds.length=n+1:=λρ ds q=>by
 obtain ⟨x,xs,_,e2,rfl⟩:=ke q
 simp [h ρ xs e2]
def law_sp {K:A6} {ns:List Int} (c:bC K H a (ns.map V.int)) (hg:g [.lst (ns.map D.int)]=some (.bl true)):spF K 1 g [.ref a] H (λv _=>v=.bl true) λ_ _ _=>False :=
 ⟨H,[.lst (ns.map D.int)],.bl true,zE,.cons (En.mpr ⟨a,_,rfl,c,zP.ints ns⟩) .nil,rfl,hg,λv H' ah _ b=>Eb.mp b⟩
def lE:D->String
 | .non=>"NoneType"
 | .bl _=>"bool"
 | .int _=>"int"
 | .str _=>"str"
 | .tup _=>"tuple"
 | .lst _=>"list"
def VR (t T:String):Bool:=t==T||(t=="bool"&&T=="int")
def T9 (T:String) (d:D):Option D:=some (.bl (VR (lE d) T))
def P6 (T:String):Prop:=∀ (K:A6) (d:D),E_ K (.type (lE d)) (.type T)=some (VR (lE d) T)
def Re:P6 "int":=λK d=>by cases d <;> kernel_rfl
def Mt:P6 "bool":=λK d=>by cases d <;> kernel_rfl
def BP:P6 "tuple":=λK d=>by cases d <;> kernel_rfl
def Ms:P6 "list":=λK d=>by cases d <;> kernel_rfl
section
variable {X:Cx} {pins:List (Addr×Obj)} {σ:St} {H:Hp} {s:Shared} {A:Around} {E:Value->Shared->Prop} {Q:Value->Shared->Prop} {c:Value} {b:Bool}
def De (I:Inv X pins σ H s) (hd:ae X.K H d v) (f:yO v u) (e:E_ X.K (.type (lE d)) c=some b) (h:∀ tk,Q (.bool b) { s with toks:=tk }) :
  A_ (Ec X.prog X.w) A (call (.builtin "isinstance") [u,c]) Q E s:=by
 cases d with
 | non=>rw [Ex] at hd; subst hd; cases f; exact E4 PySem.W.kitx_none I.kIn Iu e (λz=>nomatch z) h
 | bl y=>rw [Eb] at hd; subst hd; cases f; exact E4 PySem.W.kitx_bool I.kIn Iu e (λz=>nomatch z) h
 | int y=>rw [u9] at hd; subst hd; obtain ⟨t,rfl⟩:=f; exact E4 PySem.W.kitx_int I.kIn Iu e (λz=>nomatch z) h
 | str y=>rw [Ei] at hd; subst hd; obtain ⟨t,rfl⟩:=f; exact E4 PySem.W.kitx_str I.kIn Iu e (λz=>nomatch z) h
 | tup ds =>
  obtain ⟨a,xs,rfl,q,_⟩:=D_.mp hd
  cases f
  obtain ⟨af,_,⟨o,h1,h2,_⟩,_⟩:=I.tuple q
  exact E4 PySem.W.kitx_tuple I.kIn ⟨o,h1,h2⟩ e (λz=>nomatch z) h
 | lst ds =>
  obtain ⟨a,xs,rfl,q,_⟩:=En.mp hd
  cases f
  obtain ⟨af,_,⟨o,n,h1,h2,_⟩,_⟩:=I.list q
  exact E4 PySem.W.kitx_list I.kIn ⟨o,h1,h2⟩ e (λz=>nomatch z) h
end
section
variable {X:Cx} {e a b c:Expr} {es:List Expr} {f g h:FE} {fa ga:FA} {pos:Pos}
def Bm (k:P6 T):wU X (.builtin "isinstance") (λxs H Q=>∃ v d,xs=[v,.ty T]/\ae X.K H d v/\Q (.bl (VR (lE d) T)) H):=by
 intro pins s σ H xs us Q I r h
 obtain ⟨v,d,rfl,hd,q⟩:=h
 obtain ⟨u,l,rfl,j,i⟩:=BO r
 cases i
 exact De I hd j (k X.K d) λtk=>⟨.bl _,H,I.tok _,rfl,q⟩
def Q0 (C:P6 T) (B:DR X a f) (hg:Gl X x) (A:X.mg x=none) (s:Gl X y) (u:X.mg y=none) (w:EM x=some (.builtin "isinstance"):=by rfl) (j:EM y=some (.type T):=by rfl)
  (z:x≠"__name__":=by decide) (m:(x==("__debug__":Str))=false:=by decide) (F:y≠"__name__":=by decide) (i:(y==("__debug__":Str))=false:=by decide)
  (n:A7 [a,.Name y p2] X.env=(false,eval a X.env) :: A7 [.Name y p2] X.env:=by rfl) (l:A7 [.Name y p2] X.env=(false,eval (.Name y p2) X.env) :: A7 [] X.env:=by rfl) (E:(EU pos (A7 [.Name y p2] X.env)).any (·.1)=false:=by rfl) :
  DE X (.Call (.Name x p) [a,.Name y p2] [] pos) (YH (T9 T) f) :=
 yu (qc (Bm C) hg A w (z8 B (z8 (Gc (v:=.ty T) s u j rfl F i) xx l) n) z m n E) λσ H Q ⟨H₀,aa,ρ,Hf,d,R,q,k⟩=>by
  obtain ⟨x,e1,e2⟩:=zQ q
  cases e2
  exact ⟨H₀,aa,ρ,Hf,x,R,e1,λv H1 G o s1 r h1=>⟨v,x,rfl,h1.full o,k _ _ _ o s1 r (Eb.mpr rfl)⟩⟩
def Vp (hg:Gl X x) (d:∃ t,X.mg x=some (.str z t)) (hd:(x==("__debug__":Str))=false:=by decide):DE X (.Name x pos) (cF (.str z)):=by
 obtain ⟨t,d⟩:=d
 exact Mg hg d rfl ⟨t,rfl⟩ hd
def Vq (hg:Gl X x) (d:∃ t,X.mg x=some (.int z t)) (hd:(x==("__debug__":Str))=false:=by decide):DE X (.Name x pos) (cF (.int z)):=by
 obtain ⟨t,d⟩:=d
 exact Mg hg d rfl ⟨t,rfl⟩ hd
end
structure HasFn (P:Ej) (w:Ey) (K:A6) (mg:Str->Option Value) (base:Heap) (k:Nat) (x:Str) (n:Nat) (g:List D->Option D):Prop where
 ex:∃ (f:Addr) (fd:Ih) (ps:List Str),FnOk P w K mg base bg k f fd ps (spF K n g)/\mg x=some (.ref f)/\W.keepIn K (.ref f)=true/\Wg K fd ps []
def Pv (m:HasFn X.prog X.w X.K X.mg X.base k x n g) (b:Room k X.A) (hg:Gl X x) (h:DA X (e :: es) fa) (c:∀ ρ ds,fa ρ=some ds->ds.length=n)
  (a:(x==("__debug__":Str))=false:=by decide) (d:A7 (e :: es) X.env=(false,eval e X.env) :: A7 es X.env:=by rfl) (l:(EU pos (A7 es X.env)).any (·.1)=false:=by rfl) :
  DE X (.Call (.Name x p) (e :: es) [] pos) (yo g fa):=by
 obtain ⟨f,fd,ps,h1,h2,j,i⟩:=m.ex
 exact Tx h1 b hg h2 j i RW h c a d l
def F7 (h:n < 2 ^ k) (a:k<=8000):n < big:=eK h (Nat.pow_le_pow_right (by decide) a)
def ZP (h1:i.natAbs < big) (h2:j.natAbs < big):UQ i j:=.inr (.inr ⟨h1,h2⟩)
def uK (h1 : -(2 ^ 64) < i) (h2:i < 2 ^ 64):UQ i j:=.inl (by omega)
def vj (h:UQ i j):JD (.int i) (.int j)=some (.int (i * j)):=by
 show (if UQ i j then _ else _)=_
 rw [if_pos h]
def vk (h:0 < j):F5 (.int i) (.int j)=some (.int (i % j)):=by
 show (if 0 < j then _ else _)=_
 rw [if_pos h]
def jC (h:0 < j) (h2:j < 2 ^ 64):Uy (.int i) (.int j)=some (.int (i / j)):=by
 show (if P9 j then _ else _)=_
 rw [if_pos ⟨h,h2⟩]
def XX  : bY (.int i) (.int j)=some (.bl (decide (i=j))):=by unfold bY; simp [dep,b6]; rfl
def j9  : c_ (.int i) (.int j)=some (.bl (!decide (i=j))):=by unfold c_; simp [dep,b6]; rfl
def YQ {lo hi:Int} {i:Nat} (h:(y7 lo hi)[i]? = some d):d=.int (lo+i)/\(i:Int) < hi - lo:=by
 unfold y7 at h
 rw [cP] at h
 cases e:(aw (hi - lo).toNat)[i]? with
 | none=>rw [e] at h; cases h
 | some j =>
  rw [e] at h
  cases h
  obtain ⟨h1,h2⟩:=dw.mp e
  simp at h1 h2
  subst h2
  exact ⟨rfl,by omega⟩
def jg (lo hi):(y7 lo hi).length=(hi - lo).toNat:=by simp [y7]
def uR (env:Env):List (Str×NameKind)->List (Str×Addr)->Option (List (Str×Addr))
 | [],cs=>some cs
 | (n,k) :: r,cs=>if k==.free then match env.cells.lookup n with
   | some c=>uR env r ((n,c) :: cs)
   | none=>none
  else uR env r cs
def uS (env:Env):(Str×NameKind)->List (Str×Addr)->Sem (ForInStep (List (Str×Addr))):=λx c=>match x with
 | (name,kind)=>if (kind==Es)=true then do let a ← cellOf env name; pure (IB ((name,a) :: c)) else pure (IB c)
def YF (a:(k==Es)=true) (b:env.cells.lookup n=some c):uS env (n,k) cs=pure (.yield ((n,c) :: cs)):=by
 unfold uS cellOf
 simp only [a,if_true,b]
 rfl
def Vt (a:(k==Es)=false):uS env (n,k) cs=pure (.yield cs):=by
 unfold uS
 simp only [a,cS,if_false]
theorem kg  : ∀ l b cl,uR env l b=some cl->(forIn l b (uS env):Sem (List (Str×Addr)))=pure cl
 | [],b,cl,h=>by cases h; rfl
 | (n,k) :: r,b,cl,h=>by
  rw [AF]
  unfold uR at h
  cases a:k==Es with
  | true =>
   rw [a] at h
   cases d:env.cells.lookup n with
   | none=>rw [d] at h; cases h
   | some c =>
    rw [d] at h
    rw [YF a d]
    exact kg r _ cl h
  | false =>
   rw [a] at h
   rw [Vt a]
   exact kg r _ cl h
def X4 (h:uR env scope.names []=some cl):closureFor scope env=pure cl:=by
 have e:=kg (env:=env) scope.names [] cl h
 unfold closureFor
 simp only [bind_pure]
 exact e
theorem kf  : ∀ l a,(∀ n,(n,Es)∈l->∃ c,env.cells.lookup n=some c)->(∀ x c,a.lookup x=some c->env.cells.lookup x=some c) →
    ∃ cl,uR env l a=some cl/\(∀ x c,cl.lookup x=some c->env.cells.lookup x=some c)/\(∀ x c,a.lookup x=some c->∃ s,cl.lookup x=some s)/\∀ n,(n,Es)∈l->∃ c,cl.lookup n=some c
  | [],a,_,h2=>⟨a,rfl,h2,λx c e=>⟨c,e⟩,λn p=>by cases p⟩
  | (n,k) :: r,a,h1,h2=>by
    cases h:k==Es with
    | true =>
      have i:k=.free:=by simpa using h
      subst i
      obtain ⟨c,o⟩:=h1 n aN
      obtain ⟨cl,e1,e2,g,j⟩:=kf r ((n,c) :: a) (λm b=>h1 m (aX _ b)) (λx d e=>by
        rw [gM] at e
        cases f:x==n with
        | true => rw [f] at e; cases e; have:x=n:=(by simpa using f); rw [this]; exact o
        | false=>rw [f] at e; exact h2 x d e)
      refine ⟨cl,by unfold uR; rw [h,o]; exact e1,e2,λx d e=>?_,λm b=>?_⟩
      · cases f:x==n with
        | true=>exact g x c (by rw [gM,f])
        | false=>exact g x d (by rw [gM,f]; exact e)
      · rcases aI.mp b with q | q
        · cases q; exact g n c (by rw [gM]; simp)
        · exact j m q
    | false =>
      obtain ⟨cl,e1,e2,g,j⟩:=kf r a (λm b=>h1 m (aX _ b)) h2
      refine ⟨cl,by unfold uR; rw [h]; exact e1,e2,g,λm b=>?_⟩
      rcases aI.mp b with q | q
      · cases q; simp at h
      · exact j m q
structure CompScope (iH:Scope) (scope:Scope) (own frees:List Str):Prop where
 kind:scope.kind=.function
 nocell:∀ y∈scope.names,y.2≠.cell
 loc:∀ y∈scope.names,y.2=.local->scope.names.lookup y.1=some .local
 free:∀ y∈scope.names,y.2=.free->iH.names.lookup y.1=some .cell\/iH.names.lookup y.1=some .free
 capt:∀ x∈frees,(iH.names.lookup x=some .cell\/iH.names.lookup x=some .free)/\scope.names.lookup x=some .free
theorem YW  : ∀ {l:List (Str×α)} {x:Str} {k:α},l.lookup x=some k->(x,k)∈l
  | [],_,_,h=>by simp at h
  | (n,k) :: r,x,b,h=>by
    rw [gM] at h
    cases a:x==n with
    | true => rw [a] at h; cases h; have:x=n:=(by simpa using a); subst this; exact aN
    | false=>rw [a] at h; exact aX _ (YW h)
theorem YO {env:Env} {x:Str}:∀ {l:List (Str×NameKind)},(∀ y∈l,y.2≠.cell) →
    ((l.map λ(n,k)=>if (k==Es&&env.scope.kind==.function&&env.kindOf n==some .cell) then (n,NameKind.cell) else (n,k)).lookup x=some .cell ∨
     (l.map λ(n,k)=>if (k==Es&&env.scope.kind==.function&&env.kindOf n==some .cell) then (n,NameKind.cell) else (n,k)).lookup x=some .free)->(x,Es)∈l
  | [],_,h=>by simp at h
  | (n,k) :: r,d,h=>by
    have c:=@YO env x r (λy e=>d y (aX _ e))
    have f:k≠.cell:=d (n,k) aN
    rw [au] at h
    by_cases b:(k==Es&&env.scope.kind==.function&&env.kindOf n==some .cell)=true
    · simp only [b,if_true,gM] at h
      cases a:x==n with
      | true =>
        have e1:x=n:=by simpa using a
        have e2:k=.free:=by simp at b; exact b.1.1
        subst e1 e2; exact aN
      | false=>rw [a] at h; exact aX _ (c h)
    · simp only [b,cS,if_false,gM] at h
      cases a:x==n with
      | true =>
        rw [a] at h
        have e1:x=n:=by simpa using a
        subst e1
        rcases h with h | h
        · cases h; exact absurd rfl f
        · cases h; exact aN
      | false=>rw [a] at h; exact aX _ (c h)
theorem kq {env:Env} {x:Str}:∀ {l:List (Str×NameKind)},l.lookup x=some .free →
    ((l.map λ(n,k)=>if (k==Es&&env.scope.kind==.function&&env.kindOf n==some .cell) then (n,NameKind.cell) else (n,k)).lookup x=some .cell ∨
     (l.map λ(n,k)=>if (k==Es&&env.scope.kind==.function&&env.kindOf n==some .cell) then (n,NameKind.cell) else (n,k)).lookup x=some .free)
  | [],h=>by simp at h
  | (n,k) :: r,h=>by
    have b:=@kq env x r
    rw [au]
    rw [gM] at h
    by_cases c:(k==Es&&env.scope.kind==.function&&env.kindOf n==some .cell)=true
    · simp only [c,if_true,gM]
      cases a:x==n with
      | true=>exact .inl rfl
      | false=>rw [a] at h; exact b h
    · simp only [c,cS,if_false,gM]
      cases a:x==n with
      | true=>rw [a] at h; exact .inr h
      | false=>rw [a] at h; exact b h
def Vs (I:Nat->Shared->Prop)
  (b:∀ n s,I n s->A_ (Ec prog w) A (pyNext it) (λr a=>match r with
   | none=>R (.ok .next) a
   | some v=>A_ (Ec prog w) A (IY target it v) (λ_ e=>A_ (Ec prog w) A (assign target env v) (λ_ j =>
     A_ (Ec prog w) A (forIn ifs true λc r=>if r=true then do let ok ← isTrue c env (eval c env); pure (IB ok) else pure (IB r)) (λok d =>
      if ok=true then A_ (Ec prog w) A (eval elt env) (λx g =>
       A_ (Ec prog w) A (call (.builtin "list.append") [acc,x]) (λ_ f=>∃ m,m < n/\I m f) (λ_ _=>False) g) (λ_ _=>False) d
      else ∃ m,m < n/\I m d) (λ_ _=>False) j) (λ_ _=>False) e) (λ_ _=>False) a) (λ_ _=>False) s)
  (n:Nat) (h:I n s) :
  codeAny (Ec prog w) A (.compLoop (.ListComp elt [⟨target,iter,ifs,0⟩] scope pos) 0 it acc env) R s:=by
 refine codeAny_loop rfl I (λn s o=>?_) n h
 show A_ _ A ((compTurn (.ListComp elt [⟨target,iter,ifs,0⟩] scope pos) 0 it acc env).onRaise (λx=>do noteFrame x env; theTreesLotGoes x)) _ _ s
 refine wpAny_noted ?_
 rw [compTurn_list]
 refine ls (wpAny_standAt (ls (Ef (b n s o) (λr a k=>?_) λ_ _ h'=>h'.elim)))
 cases r with
 | none=>exact u0 k
 | some v =>
  refine ls (Ef k (λ_ e l=>?_) λ_ _ h'=>h'.elim)
  refine ls (Ef l (λ_ j q=>ls (Ef q (λok d i=>?_) λ_ _ h'=>h'.elim)) λ_ _ h'=>h'.elim)
  cases ok with
  | false=>exact u0 ⟨rfl,i⟩
  | true =>
   exact ls (ls (Ef i (λx g u=>ls (Ef u (λ_ f p=>u0 (u0 ⟨rfl,p⟩)) λ_ _ h'=>h'.elim)) λ_ _ h'=>h'.elim))
def ff (X:Cx) (scope:Scope) (cl:List (Str×Addr)) (C:Addr) (N:List Str) (s:Shared) (H:Hp) (fp:List Addr):Cx :=
 { X with N:=N,s₀:=s,H₀:=H,env:=compEnvC scope cl C X.env,outer:=X.stack,stack:=X.stack,ex:=fp,fn:=λ_=>false,pn:=[],xe:=λ_ _=>False }
def TL (ρ:bj) (j:Nat):Slot:=match ρ[j]? with
 | some (.fr d)=>.fr d
 | _=>.no
def yN (γ:FG) (ft:FT) (f:FE):List D->bj->Option (List D)
 | [],_=>some []
 | d :: ds,ρ=>(γ d ρ).bind λa=>(ft a).bind λb=>if b=true then (f a).bind λy=>(yN γ ft f ds a).bind λys=>some (y :: ys) else yN γ ft f ds a
def qz (n:Nat) (caps:List Nat) (ρ:bj):bj:=aF n .no++caps.map (TL ρ)
def jI (n:Nat) (caps:List Nat) (fi:FA) (γ:FG) (ft:FT) (f:FE):FA:=λρ=>(fi ρ).bind λds=>if ds.length<=sizeLine then yN γ ft f ds (qz n caps ρ) else none
def DQ (X:Cx) (a:List Expr) (ft:FT):Prop :=
 ∀ (pins:List (Addr×Obj)) (s:Shared) (σ:St) (H:Hp) (Q:Bool->Hp->Prop),Inv X pins σ H s->tT X.K ft σ H Q →
  A_ (Ec X.prog X.w) X.A (forIn a true λc r=>if r=true then do let ok ← isTrue c X.env (eval c X.env); pure (IB ok) else pure (IB r)) (TP X pins σ Q) X.xe s
def eQ:FT:=λ_=>some true
def w5  : DQ X [] eQ:=λpins s σ H Q I h=>by
 obtain ⟨H₀,aa,ρ,Hf,b,R,q,k⟩:=h
 cases q
 exact wpAny_tests_nil ⟨H,I,k _ _ R zE zE⟩
def Ya (h:DT X c ft):DQ X [c] ft:=λpins s σ H Q I a=>wpAny_tests_one (h pins s σ H Q I a)
def X3 (n:Nat) (caps:List Nat) (σ:St):St:=aF n none++caps.map (λj=>σ.getD j none)
section
variable {X:Cx} {scope:Scope} {own frees:List Str} {caps:List Nat} {cl:List (Str×Addr)}
def Tz {pins:List (Addr×Obj)} {s:Shared} {σ:St} {H:Hp} {fp:List Addr} {C:Addr} {N:List Str} (I:Inv X pins σ H s) (S:CompScope X.env.scope scope own frees) (d:∀ b∈fp,uU X pins H b) (i:∀ b∈fp,b < s.heap.objs.size)
  (f:∀ x c,cl.lookup x=some c->X.env.cells.lookup x=some c) (k:∀ n,(n,Es)∈scope.names->∃ c,cl.lookup n=some c) (g:s.heap.objs.size<=C):(ff X scope cl C N s H fp).Ok where
 mod:=I.ok.mod
 kind:=S.kind
 glob:=I.ok.glob
 blt:=I.ok.blt
 above:=g
 inj:=λx y c e1 e2=>I.ok.inj x y c (f x c e1) (f y c e2)
 has:=λx j=>k x (YO S.nocell j)
 cab:=λx c h=>by cases h
 hd:=I.ok.hd
 frames:=I.ok.frames
 stk:=.inl rfl
 exf:=λb a=>⟨cR (eK (i b a) g),λx c e=>(d b a).2.2.2.2.1 x c (f x c e)⟩
 bs:=I.bs
 bsz:=fV I.ok.bsz I.sz
 noex:=λb o e a=>by
  rcases (d b a).2.2.2.1 with z | z
  .exact I.ok.noex b o e z
  .exact absurd (eK (A9 e) (fV I.ok.bsz z)) (oG _)
 exfs:=λb a z=>by
  rcases aI.mp (I.stkSub b z) with q | q
  .exact (d b a).2.1 q
  .exact (d b a).2.2.1 q
 funs:=I.stack
 frf:=I.stkFree
def NG  {N:List Str} (h:caps.map (λj=>N[j]?)=frees.map some) {k:Nat} (e:frees[k]? = some x):∃ j,caps[k]? = some j/\N[j]? = some x:=by
 have:=congrArg (λl=>l[k]?) h
 simp only [cP,e,b8] at this
 cases a:caps[k]? with
 | none=>rw [a] at this; cases this
 | some j=>rw [a] at this; exact ⟨j,rfl,by simpa using this⟩
def Px   {σ:St} (I:Inv X pins σ H s) (S:CompScope X.env.scope scope own frees) (y:caps.map (λj=>X.N[j]?)=frees.map some) (T:∀ b∈fp,uU X pins H b) (L:∀ b∈fp,b < s.heap.objs.size)
  (h:∀ x c,cl.lookup x=some c->X.env.cells.lookup x=some c) (F:∀ n,(n,Es)∈scope.names->∃ c,cl.lookup n=some c) {C:Addr} (g:C=s.heap.objs.size+1) (M:h'.Ns C λ_=>none)
  (d:Heap.SameBut C ((s.heap.push { cls:=.type "list",dict:=none,data:=.seq #[] }).push { cls:=.type "dict",data:=.dict #[] }) h') :
  Inv (ff X scope cl C (own++frees) s H fp) [] (X3 own.length caps σ) (upd H s.heap.objs.size (.lst [])) { s with heap:=h',toks:=t' }:=by
 have k:∀ b u,s.heap.get? b=some u->h'.get? b=some u:=λb u e=>(d.2 b (by rw [g]; exact cR (Ln (A9 e)))).trans (tz _ (tz _ e))
 have R:h'.get? s.heap.objs.size=some { cls:=.type "list",dict:=none,data:=.seq #[] }:=(d.2 _ (by rw [g]; exact cR (LG _))).trans (tz _ (AC _ rfl))
 have O:H s.heap.objs.size=none:=I.hok.fresh (aM _)
 have W:H C=none:=I.hok.fresh (by rw [g]; exact nA _)
 have l:C≠s.heap.objs.size:=by rw [g]; exact Nat.succ_ne_self _
 have new:xH X.prog X.w (upd H s.heap.objs.size (.lst [])) h' s.heap.objs.size (.lst []):=⟨by decide,[],0,.nil,R⟩
 refine ⟨Tz I S T L h F (by rw [g]; exact nA _),rfl,I.bare,Un.laid k (aM _) O,⟨λ_=>none,M,?_⟩,?_,?_,?_,?_,I.hok.laid k (aM _) new,?_⟩
 .intro i x v e1 e2 Y
  have e1:(own++frees)[i]? = some x:=e1
  unfold X3 at e2
  by_cases h1:i < own.length
  .rw [fE (by simpa using h1),nI,if_pos h1] at e2
   cases e2
  .rw [fX (by simpa using h1)] at e2
   rw [fX (by omega)] at e1
   have E:caps.length=frees.length:=by have:=congrArg IZ y; simpa using this
   simp only [List.length_replicate] at e2
   .rw [cP] at e2
    obtain ⟨j,J,G⟩:=NG y e1
    rw [J] at e2
    have e2:σ.getD j none=some v:=by simpa using e2
    have q:σ[j]? = some (some v):=by
     rw [aW] at e2
     cases z:σ[j]? with
     | none=>rw [z] at e2; cases e2
     | some w=>rw [z] at e2; simp at e2; rw [e2]
    obtain ⟨A,a⟩:=S.capt x (gN e1)
    obtain ⟨m,Z,Q⟩:=I.loc
    obtain ⟨u,r,lk⟩:=Q j x v G q (.inr A)
    refine ⟨u,r,?_⟩
    rcases lk with ⟨k1,_⟩ | ⟨k1,c,k2,k3⟩
    .have k1:X.env.scope.names.lookup x=some .local:=k1
     rcases A with z | z <;> rw [z] at k1 <;> cases k1
    .obtain ⟨U,B⟩:=F x (YW a)
     have z:=h x U B
     rw [k2] at z; cases z
     obtain ⟨o,f,hd⟩:=k3
     exact .inr ⟨kq a,c,B,o,k _ _ f,hd⟩
 .intro x c e
  obtain ⟨v,o,f,hd⟩:=I.cell x c (h x c e)
  exact ⟨v,o,k _ _ f,hd⟩
 .show (upd H s.heap.objs.size (.lst [])) C=none
  rw [zw l]; exact W
 .intro x c e
  have z:=I.freeC x c (h x c e)
  obtain ⟨v,o,f,hd⟩:=I.cell x c (h x c e)
  show (upd H s.heap.objs.size (.lst [])) c=none
  rw [zw (cR (A9 f))]; exact z
 .intro p P; cases P
 .show (X3 own.length caps σ).length=(own++frees).length
  have E:caps.length=frees.length:=by have:=congrArg IZ y; simpa using this
  simp [X3,E]
def jR (ρ:bj):Prop:=∀ (i:Nat) (sl:Slot),ρ[i]? = some sl->sl.own=false
def Rep.rebase {K:A6} {H₀ aa:Hp} {σ:St} {ρ:bj} {H Hf H':Hp} (R:Rep K H₀ aa σ ρ H Hf) (b:jR ρ) (c:z7 Hf H'):Rep K H' Hf σ ρ H' Hf where
 s0:=zE
 sf:=c
 nf:=λ_ _ e=>.inl e
 f0:=zE
 len:=R.len
 fr:=R.fr
 ow:=λi sl e o=>by rw [b i sl e] at o; cases o
 inj:=λi j sl cG a e o=>by rw [b i sl e] at o; cases o
def qO (γ:FG):Prop:=∀ d ρ aD,γ d ρ=some aD->jR ρ->jR aD
def jR.set (h:jR ρ) (i) (d:D):jR (ρ.set i (.fr d)):=λj sl e=>by
 rw [du] at e
 split at e
 .split at e
  .cases e; rfl
  .cases e
 .exact h j sl e
def z6  : qO (zS i):=λd ρ aD e h=>by cases e; exact h.set i d
def Ze (δ:nQ):Prop:=∀ ds ρ aD,δ ds ρ=some aD->jR ρ->jR aD
def uM:Ze ZO:=λds ρ aD e h=>by
 cases ds with
 | nil=>cases e; exact h
 | cons _ _=>cases e
def yI (h1:qO γ) (h2:Ze δ):Ze (yB γ δ):=λds ρ aD e h=>by
 cases ds with
 | nil=>cases e
 | cons d r =>
  have e:(γ d ρ).bind (λaD=>δ r aD)=some aD:=e
  cases e1:γ d ρ with
  | none=>rw [e1] at e; cases e
  | some a=>rw [e1] at e; exact h2 r a aD e (h1 d ρ a e1 h)
def ky (h:Ze δ):qO (kH n δ):=λd ρ aD e a=>by
 unfold kH at e
 split at e
 .split at e
  .exact h _ ρ aD e a
  .cases e
 .cases e
def jR.comp    : jR (qz n caps ρ):=λi sl e=>by
 unfold qz at e
 by_cases h:i < n
 .rw [fE (by simpa using h),nI,if_pos h] at e
  cases e; rfl
 .rw [fX (by simpa using h),cP] at e
  cases q:caps[i - (aF n Slot.no).length]? with
  | none=>rw [q] at e; cases e
  | some j =>
   rw [q] at e
   cases e
   unfold TL
   split <;> rfl
def Ce {K:A6} {H₀ aa:Hp} {σ:St} {ρ:bj} {H Hf H':Hp} {n:Nat} {caps:List Nat} (R:Rep K H₀ aa σ ρ H Hf) (f:z7 Hf H'):Rep K H' Hf (X3 n caps σ) (qz n caps ρ) H' Hf where
 s0:=zE
 sf:=f
 nf:=λ_ _ e=>.inl e
 f0:=zE
 len:=by simp [qz,X3]
 fr:=λi d e=>by
  unfold qz at e
  unfold X3
  by_cases h:i < n
  .rw [fE (by simpa using h),nI,if_pos h] at e
   cases e
  .rw [fX (by simpa using h),cP] at e ⊢
   simp only [List.length_replicate] at e ⊢
   cases q:caps[i - n]? with
   | none=>rw [q] at e; cases e
   | some j =>
    rw [q] at e
    simp only [b8,g3d.injEq] at e ⊢
    unfold TL at e
    split at e
    .cases e
     rename_i e
     obtain ⟨v,c,b⟩:=R.fr j d e
     exact ⟨v,by rw [aW,c]; rfl,b⟩
    .cases e
 ow:=λi sl e o=>by rw [jR.comp i sl e] at o; cases o
 inj:=λi j sl cG a e o=>by rw [jR.comp i sl e] at o; cases o
def Grows.trans (a:Grows H Hf H1 d) (b:Grows H1 d H2 aK):Grows H Hf H2 aK :=
 ⟨a.h.trans b.h,a.f.trans b.f,b.fh,λc o e=>by
  rcases b.new c o e with q | q | q
  .exact a.new c o q
  .exact .inr (.inl (a.h.free q))
  .exact .inr (.inr q)⟩
def Rep.toGrows {K:A6} (R:Rep K H Hf σ ρ H' ah):Grows H Hf H' ah:=⟨R.s0,R.f0,R.sf,R.nf⟩
def UI (h:yN γ ft f (d :: ds) ρ=some ys) :
  ∃ a b,γ d ρ=some a/\ft a=some b/\((b=true/\∃ y r,f a=some y/\yN γ ft f ds a=some r/\ys=y :: r)\/(b=false/\yN γ ft f ds a=some ys)):=by
 unfold yN at h
 cases e1:γ d ρ with
 | none=>rw [e1] at h; cases h
 | some a =>
  rw [e1] at h
  simp only [ai] at h
  cases e2:ft a with
  | none=>rw [e2] at h; cases h
  | some b =>
   rw [e2] at h
   simp only [ai] at h
   refine ⟨a,b,rfl,e2,?_⟩
   cases b with
   | false=>exact .inr ⟨rfl,by simpa using h⟩
   | true =>
    simp only [if_true] at h
    cases e:f a with
    | none=>rw [e] at h; cases h
    | some y =>
     rw [e] at h
     simp only [ai] at h
     cases c:yN γ ft f ds a with
     | none=>rw [c] at h; cases h
     | some r=>rw [c] at h; cases h; exact .inl ⟨rfl,y,r,rfl,rfl,rfl⟩
def Vr         {σ:St}
  (hc:X.calm=true) (S:CompScope X.env.scope scope own frees) (dO:caps.map (λj=>X.N[j]?)=frees.map some) (kn:qO γ)
  (body:∀ cl C s H fp,DG (ff X scope cl C (own++frees) s H fp) tg γ/\DQ (ff X scope cl C (own++frees) s H fp) ifs ft/\DE (ff X scope cl C (own++frees) s H fp) elt f)
  (c1:∀ x c,cl.lookup x=some c->X.env.cells.lookup x=some c) (c2:∀ n,(n,Es)∈scope.names->∃ c,cl.lookup n=some c)
  (I:Inv X pins σ h a) (T:Turn X.prog X.w X.K tg J fp it tn) (st:tn 0 a.heap) (L:∀ b∈fp,uU X pins h b) (R:Rep X.K H₀ aa σ ρ h Y) (wk:Walks X.K Y J ds) (hz:ds.length<=sizeLine)
  (hgo:yN γ ft f ds (qz own.length caps ρ)=some ys) {RR:Value->Addr->Result->Shared->Prop}
  (hRR:∀ D C s' H' ah xs,Inv X pins σ H' s'->(∃ m,s'.heap.Ns C m)->uU X pins H' C->Grows h Y H' ah->zP X.K ah ys xs->H' D=some (.lst xs)->ah D=none->h D=none->RR (.ref D) C (.ok .next) s') :
  A_ (Ec X.prog X.w) X.A (newList []) (λacc b_=>A_ (Ec X.prog X.w) X.A (newFunctionEnv scope X.env.globals cl [] X.env.qual none .none (some X.env)) (λA1 gR =>
   codeAny (Ec X.prog X.w) X.A (.compStart (.ListComp elt [⟨tg,iter,ifs,0⟩] scope pos) 0 (.ref it) acc { A1 with scope:=relabel scope X.env }) (RR acc A1.locals) gR) E b_) E a:=by
 have oy:∀ b∈fp,b < a.heap.objs.size:=λb g=>by
  obtain ⟨o,ho,_⟩:=T.obj 0 _ st b g
  exact A9 ho
 refine Ep (wpAny_newFunctionEnv S.nocell (by intro y hy; simp at hy) (λaJ gi fo=>?_) S.kind)
 dsimp only at gi fo ⊢
 have hC:(a.heap.push { cls:=.type "list",dict:=none,data:=.seq ([]:List Value).toArray }).objs.size=a.heap.objs.size+1:=by rw [IF]
 generalize hCe:(a.heap.push { cls:=.type "list",dict:=none,data:=.seq ([]:List Value).toArray }).objs.size=C at hC gi fo ⊢
 obtain ⟨b1,b2,b3⟩:=body cl C a h fp
 have iS:h a.heap.objs.size=none:=I.hok.fresh (aM _)
 have IC:Inv (ff X scope cl C (own++frees) a h fp) [] (X3 own.length caps σ) (upd h a.heap.objs.size (.lst [])) { a with heap:=aJ,toks:=a.toks+([]:List (Str×Value)).length } :=
  Px I S dO L oy c1 c2 hC gi fo
 have DfD:Y a.heap.objs.size=none:=R.sf.free iS
 have R1:Rep X.K (upd h a.heap.objs.size (.lst [])) Y (X3 own.length caps σ) (qz own.length caps ρ) (upd h a.heap.objs.size (.lst [])) Y:=Ce R (R.sf.trans (zG iS))
 have tH:∀ b o,a.heap.get? b=some o->aJ.get? b=some o:=λb u e=>(fo.2 b (by rw [hC]; exact cR (Ln (A9 e)))).trans (tz _ (tz _ e))
 have sj:tn 0 aJ:=T.keep 0 _ _ st λb _ o e=>tH b o e
 have f9:∀ {H':Hp},(∀ b∈fp,H' b=none)->∀ b∈fp,uU (ff X scope cl C (own++frees) a h fp) [] H' b:=λ{H'} hn b g=>by
  refine ⟨hn b g,cR (eK (oy b g) (by rw [hC]; exact nA _)),λz=>?_,.inl g,λx c e=>(L b g).2.2.2.2.1 x c (c1 x c e),λp hp=>by cases hp⟩
  rcases aI.mp (I.stkSub b z) with q | q
  .exact (L b g).2.1 q
  .exact (L b g).2.2.1 q
 have eA:∀ b∈fp,(upd h a.heap.objs.size (.lst [])) b=none:=λb g=>by
  rw [zw (cR (oy b g))]; exact (L b g).1
 have loop:∀ b_:Shared,b_={ a with heap:=aJ,toks:=a.toks+([]:List (Str×Value)).length } →
   codeAny (Ec X.prog X.w) X.A (.compLoop (.ListComp elt [⟨tg,iter,ifs,0⟩] scope pos) 0 (.ref it) (.ref a.heap.objs.size) (compEnvC scope cl C X.env)) (RR (.ref a.heap.objs.size) C) b_:=by
  rintro b_ rfl
  refine Vs (λn s'=>∃ i aD aC H' ah zs xs r,n=ds.length - i/\i<=ds.length/\Inv (ff X scope cl C (own++frees) a h fp) [] aC H' s'/\tn i s'.heap/\(∀ b∈fp,H' b=none)/\Rep X.K H' ah aC aD H' ah/\jR aD ∧
   yN γ ft f (ds.drop i) aD=some r/\zs++r=ys/\zP X.K ah zs xs/\zs.length<=i/\H' a.heap.objs.size=some (.lst xs)/\ah a.heap.objs.size=none/\Grows h Y H' ah) ?_ ds.length
   ⟨0,_,_,_,_,[],[],ys,by simp,dm _,IC,sj,eA,R1,jR.comp,by simpa using hgo,rfl,.nil,by simp,zq,DfD,⟨zG iS,zE,R1.sf,λb o e=>.inl e⟩⟩
  rintro n s' ⟨i,aD,aC,H',ah,zs,xs,r,rfl,hi,I',eR,fr',R',no',F,A,m9,hzl,U,oA,B⟩
  obtain ⟨w1,w2⟩:=wk H' ah B.f R'.sf i
  by_cases da:i < ds.length
  .have hd:ds[i]? = some ds[i]:=dq da
   obtain ⟨go,yld⟩:=w1 _ hd
   rw [AL da] at F
   obtain ⟨O,b,eg,et,g⟩:=UI F
   refine Ef (T.item (ff X scope cl C (own++frees) a h fp) rfl rfl rfl hc i [] s' aC H' (λ_ _=>False) I' (f9 fr') eR go) (λrv s4 ⟨u,hr,h4⟩=>?_) λ_ _ z=>z
   subst hr
   refine Ef h4 (λ_ s5 ⟨x,H5,I5,r5,y5,iD,AO⟩=>?_) λ_ _ z=>z
   obtain ⟨d_,gr5,hx5⟩:=yld x H5 y5
   have R5:Rep X.K H' ah aC aD H5 d_:=R'.grows gr5
   have I5':=I5.pinned (f9 AO) (T.obj _ _ iD)
   refine Ef (b1 _ s5 aC H5 x u _ I5' r5 ⟨H',ah,aD,d_,ds[i],O,R5,hx5,eg,λG H6 W R6 t6=>(⟨W,R6,t6⟩:∃ W,Rep X.K H' ah G O H6 W/\z7 d_ W)⟩) (λ_ s6 h6=>?_) λ_ _ z=>z
   obtain ⟨G,H6,I6,W,R6,t6⟩:=h6
   refine Ef (b2 _ s6 G H6 (λb' H7=>b'=b/\∃ P,Rep X.K H' ah G O H7 P) I6 ⟨H',ah,O,W,b,R6,et,λH7 P k s7 t7=>⟨rfl,P,k⟩⟩) (λok s7 h7=>?_) λ_ _ z=>z
   obtain ⟨H7,I7,rfl,P,k⟩:=h7
   have l:=kn _ _ _ eg no'
   have hm:ds.length - (i+1) < ds.length - i:=by omega
   rcases g with ⟨rfl,y,r',ef,er,rfl⟩ | ⟨rfl,er⟩
   .rw [if_pos rfl]
    refine Ef (b3 _ s7 G H7 (λv Q=>∃ w,Rep X.K H' ah G O Q w/\ae X.K w y v) I7 ⟨H',ah,O,P,y,k,ef,λv Q w M s8 t8 h8=>⟨w,M,h8⟩⟩) (λu' s8 h8=>?_) λ_ _ z=>z
    obtain ⟨v,Q,I8,r8,w,M,h8⟩:=h8
    have hD8:Q a.heap.objs.size=some (.lst xs):=M.s0 _ _ U
    have An:w a.heap.objs.size=none:=by
     cases z:w a.heap.objs.size with
     | none=>rfl
     | some o =>
      rcases M.nf _ _ z with q | q | ⟨ks,rfl⟩
      .rw [oA] at q; cases q
      .rw [U] at q; cases q
      .have:=hD8.symm.trans (M.sf _ _ z); cases this
    have hsd:z7 w (upd Q a.heap.objs.size (.lst (xs++[v]))):=λb o e=>by rw [zw (zU e An)]; exact M.sf b o e
    refine Ef (ZR (X:=ff X scope cl C (own++frees) a h fp) _ s8 G Q (.ref a.heap.objs.size) [v] _ [u'] (λ_ H9=>H9=upd Q a.heap.objs.size (.lst (xs++[v]))) I8 rfl (.cons r8 .nil) ⟨_,xs,v,rfl,rfl,hD8,by have:=m9.length; omega,rfl⟩) (λu9 s9 h9=>?_) λ_ _ z=>z
    obtain ⟨v9,H9,I9,_,rfl⟩:=h9
    refine ⟨_,hm,i+1,O,G,_,w,zs++[y],xs++[v],r',rfl,da,I9.unpinned,T.keep _ _ _ iD λb g o e=>(I9.pin (b,o) (eh _ (eh _ (xP g e)))).1,λb g=>?_,M.rebase l hsd,l,er,by rw [b9]; exact A,(m9.mono M.f0).append (.cons h8 .nil),by simp; omega,zq,An,?_⟩
    .obtain ⟨o,e,d⟩:=T.obj _ _ iD b g
     exact (I9.pin (b,o) (eh _ (eh _ (xP g e)))).2.1
    .have g8:=B.trans M.toGrows
     exact ⟨λb o e=>by rw [zw (zU e iS)]; exact g8.h b o e,g8.f,hsd,g8.new⟩
   .rw [if_neg gp]
    refine ⟨_,hm,i+1,O,G,_,P,zs,xs,r,rfl,da,I7.unpinned,T.keep _ _ _ iD λb g o e=>(I7.pin (b,o) (eh _ (eh _ (xP g e)))).1,λb g=>?_,k.rebase l k.sf,l,er,A,m9.mono k.f0,by omega,k.s0 _ _ U,?_,B.trans k.toGrows⟩
    .obtain ⟨o,e,d⟩:=T.obj _ _ iD b g
     exact (I7.pin (b,o) (eh _ (eh _ (xP g e)))).2.1
    .cases z:P a.heap.objs.size with
     | none=>rfl
     | some o =>
      rcases k.nf _ _ z with q | q | ⟨ks,rfl⟩
      .rw [oA] at q; cases q
      .rw [U] at q; cases q
      .have:=(k.s0 _ _ U).symm.trans (k.sf _ _ z); cases this
  .have:ds.drop i=[]:=g3r (by omega)
   rw [this] at F
   cases F
   rw [bx] at A
   subst A
   refine Ef (T.done (ff X scope cl C (own++frees) a h fp) rfl rfl rfl hc i [] s' aC H' (λ_ _=>False) I' (f9 fr') eR (w2 (by omega))) (λrv s4 ⟨hr,Z⟩=>?_) λ_ _ z=>z
   subst hr
   obtain ⟨m,hn,_⟩:=Z.loc
   have hch:∀ b∈fp,(b∈X.ex\/X.s₀.heap.objs.size<=b)/\b≠X.env.locals/\(∀ x c,X.env.cells.lookup x=some c->c≠b)/\∀ p∈X.pn++pins,p.1≠b:=λb g=>⟨(L b g).2.2.2.1,(L b g).2.1,(L b g).2.2.2.2.1,(L b g).2.2.2.2.2⟩
   exact hRR _ C s4 H' ah xs (I.call' (s':=s4) Z.os Z.base Z.hok Z.bare hch) ⟨m,hn⟩ (I.fpOk (by rw [hC]; exact nA _) Z.free) B m9 U oA iS
 exact codeAny_compStart_list (loop _ rfl) (T.self _ 0 _ _ _ sj (loop _ rfl))
def Y4 (h:jI n caps fi γ ft f ρ=some ys):∃ ds,fi ρ=some ds/\ds.length<=sizeLine/\yN γ ft f ds (qz n caps ρ)=some ys:=by
 obtain ⟨ds,e1,e2⟩:=ym h
 split at e2
 .exact ⟨ds,e1,by assumption,e2⟩
 .cases e2
def Ba  {σ:St} (I:Inv X pins σ H s) (S:CompScope X.env.scope scope own frees):∃ cl,closureFor scope X.env=pure cl/\(∀ x c,cl.lookup x=some c->X.env.cells.lookup x=some c)/\∀ n,(n,Es)∈scope.names->∃ c,cl.lookup n=some c:=by
 obtain ⟨cl,e1,e2,_,b⟩:=kf (env:=X.env) scope.names [] (λn a=>I.ok.has n (S.free (n,.free) a rfl)) (λx c e=>by simp at e)
 exact ⟨cl,X4 e1,e2,b⟩
def yY (B:X.calm=true) (S:CompScope X.env.scope scope own frees) (P:caps.map (λj=>X.N[j]?)=frees.map some) (u:qO γ) (hi:DI X tg iter fi)
  (body:∀ cl C s H fp,DG (ff X scope cl C (own++frees) s H fp) tg γ/\DQ (ff X scope cl C (own++frees) s H fp) ifs ft/\DE (ff X scope cl C (own++frees) s H fp) elt f)
  (z:∀ x,Ie iter X.env x=pure x:=by intro _; rfl):DN X (.ListComp elt [⟨tg,iter,ifs,0⟩] scope pos) (jI own.length caps fi γ ft f):=by
 intro pins s σ H Q I h
 obtain ⟨H₀,aa,ρ,Hf,ys,R,q,k⟩:=h
 obtain ⟨ds,e1,hz,e2⟩:=Y4 q
 obtain ⟨cl,O,W,U⟩:=Ba I S
 rw [eval_ListComp]
 refine wpAny_comprehension_free (use:=none) rfl z O S.kind S.loc (thn (hi pins s σ H (λJ H'=>∃ ah,Rep X.K H₀ aa σ ρ H' ah/\z7 H H'/\z7 Hf ah/\Walks X.K ah J ds) I ⟨H₀,aa,ρ,Hf,ds,R,e1,λJ H' ah R' s' t' a=>⟨ah,R',s',t',a⟩⟩) λv s1 h1=>thn h1 λw s2 h2=>?_)
 obtain ⟨it,fp,tn,J,H2,rfl,Y,T,n,f2,aK,R2,l,c,a⟩:=h2
 refine Vr (RR:=compPost (Ec X.prog X.w) X.A X.xe none (EP X pins σ Q)) B S P u body W U Y T n f2 R2 a hz e2 ?_
 intro D C s' H' ah xs Z p Ao i r F y g
 obtain ⟨m,A⟩:=p
 refine ⟨m,A,λh' d=>⟨.ref D,H',?_,rfl,?_⟩⟩
 .obtain ⟨f0,f1,f2,M,L,G⟩:=Ao
  exact Z.turned (t':=s'.toks) (λb o E e=>(d.2 b E).trans e) f0 f1 M L G
 .exact k D xs H' ah (R2.grows i) (l.trans i.h) (c.trans i.f) r F y (l.free g)
def Jh (hc:X.calm=true) (S:CompScope X.env.scope scope own frees) (dO:caps.map (λj=>X.N[j]?)=frees.map some) (U:qO γ) (hi:DI X tg iter fi)
  (body:∀ cl C s H fp,DG (ff X scope cl C (own++frees) s H fp) tg γ/\DQ (ff X scope cl C (own++frees) s H fp) ifs ft/\DE (ff X scope cl C (own++frees) s H fp) elt f)
  (p:EW (.ListComp elt [⟨tg,iter,ifs,0⟩] scope pos) (some (.Name y py)) d.line X.env=pure true) (i) (hN:X.N.Nodup) (r:X.N[i]? = some y) (E:X.env.scope.names.lookup y=some .local)
  (Z:∀ x,Ie iter X.env x=pure x):PS X (.Assign [.Name y py] (.ListComp elt [⟨tg,iter,ifs,0⟩] scope pos) d) (λD' σ H=>∃ H₀ aa ρ Hf ys,Rep X.K H₀ aa σ ρ H Hf/\jI own.length caps fi γ ft f ρ=some ys ∧
   ∀ a xs H' ah,Rep X.K H₀ aa σ ρ H' ah->z7 H H'->z7 Hf ah->zP X.K ah ys xs->H' a=some (.lst xs)->ah a=none->H a=none->D'.nx (σ.set i (some (.ref a))) H'):=by
 intro pins s σ H D' I h
 obtain ⟨H₀,aa,ρ,Hf,ys,R,q,k⟩:=h
 obtain ⟨ds,e1,hz,e2⟩:=Y4 q
 obtain ⟨cl,eJ,c1,c2⟩:=Ba I S
 rw [exec_Assign_Name_used _ _ _ _ p]
 refine ls (wpAny_standAt (ls ?_))
 show A_ _ X.A (do let _ ← comprehension (.ListComp elt [⟨tg,iter,ifs,0⟩] scope pos) scope X.env _ (newList []) false (eval iter X.env) (some (assign (.Name y py) X.env))) _ _ s
 refine ls (Ef (wpAny_comprehension_free (use:=some (assign (.Name y py) X.env)) (Q:=λ_ s'=>SP X pins D' .next s') rfl Z eJ S.kind S.loc
  (thn (hi pins s σ H (λJ H'=>∃ ah,Rep X.K H₀ aa σ ρ H' ah/\z7 H H'/\z7 Hf ah/\Walks X.K ah J ds) I ⟨H₀,aa,ρ,Hf,ds,R,e1,λJ H' ah R' s' t' l=>⟨ah,R',s',t',l⟩⟩) λv s1 h1=>thn h1 λW s2 h2=>?_)) (λ_ s' hq=>u0 (u0 hq)) λ_ _ e=>e)
 obtain ⟨it,fp,tn,J,H2,rfl,I2,T,L,f2,aK,R2,G,n,l⟩:=h2
 refine Vr (RR:=compPost (Ec X.prog X.w) X.A X.xe (some (assign (.Name y py) X.env)) (λ_ s'=>SP X pins D' .next s')) hc S dO U body c1 c2 I2 T L f2 R2 l hz e2 ?_
 intro D C s' H' ah xs I' M Ao A P hD Y w
 obtain ⟨m,hn⟩:=M
 show A_ _ X.A (assign (.Name y py) X.env (.ref D)) _ _ _
 refine wpAny_assign_Name (Wr I' hN r (.inl E) (show yO (.ref D) (.ref D) from rfl) (λO B c=>?_) (.inr E))
 obtain ⟨a,c,ha⟩:=c
 obtain ⟨f0,f1,f2',f3,F,f5⟩:=Ao
 have u:a≠C:=by
  rcases ha with z | z
  .rw [z]; exact EF f1
  .exact F _ _ z
 refine ⟨m,hn.sameBut c (EF u),λh' g=>?_⟩
 exact ⟨_,H',B.turned (t':=O.toks) (λb o hb e=>(g.2 b hb).trans e) f0 f1 f3 F f5,k D xs H' ah (R2.grows A) (G.trans A.h) (n.trans A.f) P hD Y (G.free w)⟩
end
structure Draw (P:Ej) (w:Ey) (K:A6) (J:It) (fp:List Addr) (it:Addr) (tn:Nat->Heap->Prop):Prop where
 mem:it∈fp
 obj:∀ i h,tn i h->∀ b∈fp,∃ o,h.get? b=some o/\∀ v,o.data≠.cell v
 keep:∀ i h h',tn i h->(∀ b∈fp,∀ o,h.get? b=some o->h'.get? b=some o)->tn i h'
 item:∀ (A:Around) (X:Cx),X.prog=P->X.w=w->X.K=K->∀ (i:Nat) (pins:List (Addr×Obj)) (s:Shared) (σ:St) (H:Hp) (E:Value->Shared->Prop),Inv X pins σ H s->(∀ b∈fp,uU X pins H b)->tn i s.heap->J.go i H →
  A_ (Ec P w) A (El (.ref it)) (λu s2=>∃ x H',Inv X pins σ H' s2/\yO x u/\J.yld i H x H'/\tn (i+1) s2.heap/\∀ b∈fp,H' b=none) E s
 fin:∀ (A:Around) (X:Cx),X.prog=P->X.w=w->X.K=K->A.handled=none->∀ (i:Nat) (pins:List (Addr×Obj)) (s:Shared) (σ:St) (H:Hp) (Q:Value->Shared->Prop),Inv X pins σ H s->(∀ b∈fp,uU X pins H b)->tn i s.heap->J.stop i H →
  A_ (Ec P w) A (El (.ref it)) Q (λe s2=>Inv X pins σ H s2/\∃ a o,e=.ref a/\s2.heap.get? a=some o/\o.cls=.type "StopIteration") s
section
variable {prog:Ej} {w:Ey} {A:Around} {E:Value->Shared->Prop} {s:Shared}
def j8 (a:s.heap.IsTupleIter it l i) (f:s.heap.IsTuple l items) (e:items[i]? = some x)
  (h:∀ h',h'.IsTupleIter it l (i+1)->Heap.SameBut it s.heap h'->Q x { s with heap:=h' }):A_ (Ec prog w) A (El (.ref it)) Q E s:=by
 obtain ⟨o,b,g,hd⟩:=id a
 obtain ⟨ol,c,_,j,d⟩:=f
 unfold El
 refine ls (Eg (name:=EG "__next__") a.typeIs Ik
  (Ed Ik a.typeIs F.entry_tuple_iterator_next ?_ (F.args_tuple_iterator_next_1 _)))
 show A_ _ _ (field (.ref it) 0 >>= _) _ _ s
 refine ls (Ee b hd (x:=.ref l) rfl ?_)
 show A_ _ _ (if (EA l==EH)=true then _ else _) _ _ s
 rw [if_neg (show ¬ ((EA l==EH)=true) from gp)]
 show A_ _ _ (field (.ref it) 1 >>= _) _ _ s
 refine ls (Ee b hd (x:=.int i 0) rfl ?_)
 show A_ _ _ (seqItems? (.ref l) >>= _) _ _ s
 refine ls (EZ c d ?_)
 simp only [Ii,e]
 refine ls (wpAny_setField b hd (by simp) (u0 ⟨x,rfl,u0 (h _ ?_ (Heap.SameBut.update ..))⟩))
 exact ⟨_,Heap.get?_update_self _ b (Obj.isFreed_of_fields (Obj.data_mapFields hd _)),(Obj.cls_mapFields ..).trans g,by rw [Obj.data_mapFields hd]; simp [HR]⟩
def kI (hh:A.handled=none) (hit:s.heap.IsTupleIter it l i) (hl:s.heap.IsTuple l items) (hx:items[i]? = none)
  (hE:∀ h' e,Heap.ExtBut it s.heap h'->(∃ o,h'.get? e=some o/\o.cls=.type "StopIteration")->E (.ref e) { s with heap:=h' }):A_ (Ec prog w) A (El (.ref it)) Q E s:=by
 obtain ⟨o,ho,hc,hd⟩:=id hit
 obtain ⟨ol,hol,_,nl,hdl⟩:=hl
 unfold El
 refine ls (Eg (name:=EG "__next__") hit.typeIs Ik
  (Ed Ik hit.typeIs F.entry_tuple_iterator_next ?_ (F.args_tuple_iterator_next_1 _)))
 show A_ _ _ (field (.ref it) 0 >>= _) _ _ s
 refine ls (Ee ho hd (x:=.ref l) rfl ?_)
 show A_ _ _ (if (EA l==EH)=true then _ else _) _ _ s
 rw [if_neg (show ¬ ((EA l==EH)=true) from gp)]
 show A_ _ _ (field (.ref it) 1 >>= _) _ _ s
 refine ls (Ee ho hd (x:=.int i 0) rfl ?_)
 show A_ _ _ (seqItems? (.ref l) >>= _) _ _ s
 refine ls (EZ hol hdl ?_)
 simp only [Ii,hx]
 refine ls (Iv (ls (wpAny_setField ho hd (by simp) ?_)))
 show A_ _ _ (newExc (.type "StopIteration") [] >>= _) _ _ _
 refine ls ?_
 simp only [newExc,newTuple]
 refine ls (Ep ?_ (by size_fits))
 refine ls (m:=IG _ _) (J_ (a:=EH) (by first | rfl | (simp only [IG]; rfl)) ?_)
 refine Ep ?_ (by size_fits)
 simp only [raiseNew]
 refine ls (wpAny_handled ?_)
 first | rw [show A.in1.handled=none from hh] | rw [hh]
 refine ls (u0 (wpAny_throw ?_))
 exact hE _ _ (((Heap.SameBut.update ..).extBut.push _).push _) ⟨_,AC _ rfl,rfl⟩
end
def HE {P:Ej} {w:Ey} {K:A6} (a it:Addr):Draw P w K (Itl K a) [it] it (λi h=>h.IsListIter it a i) where
 mem:=by simp
 obj:=λi h st b f=>by
  have e:b=it:=by simpa using f
  subst e
  obtain ⟨o,e,c,d⟩:=st
  exact ⟨o,e,λv z=>by rw [d] at z; cases z⟩
 keep:=λi h h' st k=>st.at λo e=>k it (by simp) o e
 item:=by
  intro A X q n r i pins s σ H E I j st hg
  subst q n r
  obtain ⟨xs,x,g,m⟩:=hg
  obtain ⟨af,l,p,hz⟩:=I.list g
  obtain ⟨u,L,G⟩:=l.get m
  obtain ⟨f0,f1,f2,C,B,y⟩:=j it (by simp)
  refine wpAny_nextOf_list_item st p.isList (x:=u) (by simpa using L) λh' S F=>?_
  have T:Inv X pins σ H { s with heap:=h' }:=I.turned (t':=s.toks) (λb o f e=>(F.2 b f).trans e) f0 f1 C B y
  exact ⟨x,H,T,G,⟨rfl,λys J=>by rw [I.list_inj J g]; exact m⟩,S,λb f=>(j b f).1⟩
 fin:=by
  intro A X q n r hh i pins s σ H Q I j st hg
  subst q n r
  obtain ⟨xs,g,m⟩:=hg
  obtain ⟨af,l,p,hz⟩:=I.list g
  obtain ⟨f0,f1,f2,C,B,y⟩:=j it (by simp)
  have U:=l.length
  refine wpAny_nextOf_list_end hh st p.isList (by simp; omega) λh' e R ⟨o,M,O⟩=>⟨I.turned (t':=s.toks) (λb o f e=>R b o f e) f0 f1 C B y,e,o,rfl,M,O⟩
def JZ {P:Ej} {w:Ey} {K:A6} (a it:Addr):Draw P w K (Itt K a) [it] it (λi h=>h.IsTupleIter it a i) where
 mem:=by simp
 obj:=λi h st b f=>by
  have e:b=it:=by simpa using f
  subst e
  obtain ⟨o,e,c,d⟩:=st
  exact ⟨o,e,λv z=>by rw [d] at z; cases z⟩
 keep:=λi h h' st k=>st.at λo e=>k it (by simp) o e
 item:=by
  intro A X q n r i pins s σ H E I j st hg
  subst q n r
  obtain ⟨xs,x,g,m⟩:=hg
  obtain ⟨af,l,p,hz⟩:=I.tuple g
  obtain ⟨u,L,G⟩:=l.get m
  obtain ⟨f0,f1,f2,C,B,y⟩:=j it (by simp)
  refine j8 st (show s.heap.IsTuple a af.toArray from p) (x:=u) (by simpa using L) λh' S F=>?_
  have T:Inv X pins σ H { s with heap:=h' }:=I.turned (t':=s.toks) (λb o f e=>(F.2 b f).trans e) f0 f1 C B y
  exact ⟨x,H,T,G,⟨rfl,λys J=>by rw [I.tuple_inj J g]; exact m⟩,S,λb f=>(j b f).1⟩
 fin:=by
  intro A X q n r hh i pins s σ H Q I j st hg
  subst q n r
  obtain ⟨xs,g,m⟩:=hg
  obtain ⟨af,l,p,hz⟩:=I.tuple g
  obtain ⟨f0,f1,f2,C,B,y⟩:=j it (by simp)
  have U:=l.length
  exact kI hh st (show s.heap.IsTuple a af.toArray from p) (by simp; omega) λh' e R ⟨o,M,O⟩=>⟨I.turned (t':=s.toks) (λb o f e=>R b o f e) f0 f1 C B y,e,o,rfl,M,O⟩
def ItE (J:It):It:=⟨J.go,λi H x H'=>∃ y H1 p,J.yld i H y H1/\H1 p=none/\x=.ref p/\H'=upd H1 p (.tup [.int i,y]),J.stop⟩
def uU.more (f:uU X pins H b) (j:b≠c):uU X (pins++kr [c] h) H b:=by
 obtain ⟨f0,f1,f2,i,g,a⟩:=f
 refine ⟨f0,f1,f2,i,g,λp d z=>?_⟩
 rcases bE.mp d with q | q
 .exact a p (gq _ q) z
 .rcases bE.mp q with q | q
  .exact a p (eh _ q) z
  .have:=(ZL q).1
   have e:p.1=c:=by simpa using this
   exact j (z ▸ e)
def uU.none' (f:uU X pins H b) (h:H' b=none):uU X pins H' b:=⟨h,f.2⟩
def Kp {P:Ej} {w:Ey} {K:A6} {elts:List Expr} {kx:Nat} {tp:Pos} {J:It} {fp:List Addr} {it e:Addr} {tn:Nat->Heap->Prop} (T:Draw P w K J fp it tn) (n:∀ b∈fp,b≠e) :
    Turn P w K (.Tuple elts kx tp) (ItE J) (e :: fp) e (λi h=>tn i h/\∃ f,IsEnum h e it i f) where
  mem:=aN
  obj:=λi h st b c=>by
    rcases aI.mp c with rfl | c
    · obtain ⟨_,f,he⟩:=st
      exact ⟨_,he,λv z=>by cases z⟩
    · exact T.obj i h st.1 b c
  keep:=λi h h' st k=>⟨T.keep i h h' st.1 λb c o e=>k b (aX _ c) o e,by obtain ⟨_,f,he⟩:=st; exact ⟨f,k e aN _ he⟩⟩
  item:=by
    intro X hP hw hK hc i pins s σ H E I G st hg
    subst hP hw hK
    obtain ⟨st,f,he⟩:=st
    have l:s.TypeIs (.ref e) "enumerate":=⟨_,he,rfl⟩
    have fe:=G e aN
    obtain ⟨f0,f1,f2,f3,f4,f5⟩:=id fe
    unfold pyNext
    refine ls (EL (Eg (name:=EG "__next__") l EX
      (Ed EX l F.entry_enumerate_next ?_ (F.args_enumerate_next_1 _))))
    show A_ _ _ (field (.ref e) 2 >>= _) _ _ _
    refine ls (Ee he rfl (x:=.ref it) rfl ?_)
    have I0 := I.pinned (fp := [e]) (λb c => by have z:b=e:=(by simpa using c); subst z; exact fe) (λb c => by have z:b=e:=(by simpa using c); subst z; exact ⟨_,he,λv z=>by cases z⟩)
    refine ls (Ef (T.item _ X rfl rfl rfl i _ s σ H _ I0 (λb c=>uU.more (G b (aX _ c)) (n b c)) st hg) (λu s1 h1=>?_) λ_ _ z=>z)
    obtain ⟨x,H1,p,rx,yl,sj,fr1⟩:=h1
    obtain ⟨C,m,_⟩:=p.pin _ (eh _ (eh _ (xP (fp:=[e]) (by simp) he)))
    have C:IsEnum s1.heap e it i f:=C
    have m:H1 e=none:=m
    have p:=p.unpinned
    obtain ⟨hp,g,d,tk,os⟩:=s1
    show A_ _ _ (field (.ref e) 3 >>= _) _ _ _
    refine ls (Ee C rfl (x:=HR i) rfl ?_)
    show A_ _ _ (field (.ref e) 4 >>= _) _ _ _
    refine ls (Ee C rfl (x:=.none) rfl ?_)
    show A_ _ _ (mkInt i >>= _) _ _ _
    refine ls (wpAny_mkInt ?_)
    show A_ _ _ (setField (.ref e) 3 (HR ((i:Int)+1)) >>= _) _ _ _
    refine ls (C_ C (by simp) λS cV y=>?_)
    replace y:Heap.SameBut e hp S:=y
    replace cV:IsEnum S e it ((i:Int)+1) f:=cV
    show A_ _ _ (setField (.ref e) 4 .none >>= _) _ _ ⟨S,g,d,tk+1,os⟩
    refine ls (C_ cV (by simp) λj O B=>?_)
    replace B:Heap.SameBut e S j:=B
    replace O:IsEnum j e it ((i:Int)+1) f:=O
    have I3:Inv X pins σ H1 ⟨j,g,d,tk+1,os⟩:=p.turned (t':=tk+1) (λb o c q=>(B.2 b c).trans ((y.2 b c).trans q)) m f1 f3 f4 f5
    show A_ _ _ (newTuple [.int i tk,u] >>= _) _ _ ⟨j,g,d,tk+1,os⟩
    refine ls (wpAny_newTuple ?_)
    have R:IsEnum (j.push { cls:=.type "tuple",data:=.seq #[.int i tk,u] }) e it ((i:Int)+1) f:=tz _ O
    have hf4:H1 j.objs.size=none:=I3.hok.fresh (aM _)
    have I4:Inv X pins σ (upd H1 j.objs.size (.tup [.int i,x])) ⟨j.push { cls:=.type "tuple",data:=.seq #[.int i tk,u] },g,d,tk+1,os⟩ :=
      I3.laid (t':=tk+1) (λb u e=>tz _ e) (aM _) ⟨by show 2<=sizeLine; decide,[.int i tk,u],.cons ⟨tk,rfl⟩ (.cons rx .nil),⟨_,AC _ rfl,rfl,_,rfl⟩⟩
    have hel:e < j.objs.size:=A9 O
    have r:(upd H1 j.objs.size (.tup [.int i,x])) e=none:=by rw [zw (cR hel)]; exact m
    generalize Ak:j.push { cls:=.type "tuple",data:=.seq #[.int i tk,u] }=U at R I4
    have se:tn (i+1) U:=T.keep _ _ _ sj λb c o q=>by rw [<- Ak]; exact tz _ ((B.2 b (n b c)).trans ((y.2 b (n b c)).trans q))
    show A_ _ _ (Et (.ref e) >>= _) _ _ ⟨U,g,d,tk+1,os⟩
    refine ls ?_
    unfold Et
    refine ls (Ee R rfl (x:=.none) rfl (u0 ?_))
    simp only [if_true]
    refine ls (Iv ?_)
    refine ls (Ee R rfl (x:=f) rfl ?_)
    refine ls (C_ R (by simp) λM dN fO=>?_)
    replace fO:Heap.SameBut e U M:=fO
    replace dN:IsEnum M e it ((i:Int)+1) u:=dN
    show A_ _ _ (EN (.ref e) (.ref j.objs.size) >>= _) _ _ ⟨M,g,d,tk+1,os⟩
    refine ls ?_
    unfold EN
    refine ls (C_ dN (by simp) λba dM bH=>?_)
    replace bH:Heap.SameBut e M ba:=bH
    replace dM:IsEnumOut ba e it ((i:Int)+1) u j.objs.size:=dM
    refine C_ dM (by simp) λW L Z=>?_
    replace Z:Heap.SameBut e ba W:=Z
    replace L:IsEnumOut W e it ((i:Int)+1) u j.objs.size:=L
    refine ls (wpAny_letGo (u0 ⟨_,rfl,u0 ⟨_,rfl,?_⟩⟩))
    unfold IY
    refine ls (wpAny_load L ?_)
    show A_ _ _ (if (["enumerate","zip","dict_itemiterator","dict_reverseitemiterator","odict_iterator","itertools.zip_longest","itertools.pairwise"].contains "enumerate" &&
      (#[HR j.objs.size,.bool false,.ref it,HR ((i:Int)+1),.none,u]:Array Value)[0]? == some (HR j.objs.size))=true then _ else _) _ _ _
    rw [if_pos (by simp)]
    refine ls (Iv ?_)
    show A_ _ _ (setField (.ref e) 0 .none) _ _ _
    refine C_ L (by simp) λiJ Y eV=>?_
    replace eV:Heap.SameBut e W iJ:=eV
    replace Y:IsEnum iJ e it ((i:Int)+1) u:=Y
    have k8:∀ b o,b≠e->U.get? b=some o->iJ.get? b=some o:=λb o c q=>(eV.2 b c).trans ((Z.2 b c).trans ((bH.2 b c).trans ((fO.2 b c).trans q)))
    refine ⟨.ref j.objs.size,_,I4.turned (t':=tk+1) (λb o c q=>k8 b o c q) r f1 f3 f4 f5,rfl,⟨x,H1,j.objs.size,yl,hf4,rfl,rfl⟩,⟨T.keep _ _ _ se λb c o q=>k8 b o (n b c) q,u,Y⟩,λb c=>?_⟩
    rcases aI.mp c with rfl | c
    · exact r
    · obtain ⟨o,q,_⟩:=T.obj _ _ sj b c
      have q3:j.get? b=some o:=(B.2 b (n b c)).trans ((y.2 b (n b c)).trans q)
      rw [zw (cR (A9 q3))]
      exact fr1 b c
  done:=by
    intro X hP hw hK hc i pins s σ H E I G st hg
    subst hP hw hK
    obtain ⟨st,f,he⟩:=st
    have l:s.TypeIs (.ref e) "enumerate":=⟨_,he,rfl⟩
    unfold pyNext
    refine ls (EL (Eg (name:=EG "__next__") l EX
      (Ed EX l F.entry_enumerate_next ?_ (F.args_enumerate_next_1 _))))
    show A_ _ _ (field (.ref e) 2 >>= _) _ _ _
    refine ls (Ee he rfl (x:=.ref it) rfl ?_)
    refine ls (Ef (T.fin X.A.in1 X rfl rfl rfl (I.ok.hd hc) i pins s σ H _ I (λb c=>G b (aX _ c)) st hg) (λu s1 z=>z) λe' s1 h1=>?_)
    obtain ⟨p,a,o,rfl,ho,eJ⟩:=h1
    refine ls (ET (T:="StopIteration") (b:=true) ⟨o,ho,eJ⟩ Lj ?_)
    exact u0 ⟨rfl,p⟩
  self:=λA i s Q E st h=>by
    obtain ⟨_,f,he⟩:=st
    have l:s.TypeIs (.ref e) "enumerate":=⟨_,he,rfl⟩
    refine Lo l IJ (Ed IJ l F.entry_enumerate_iter ?_ (F.args_enumerate_iter_1 _))
    show A_ _ _ (ret (.ref e)) _ _ s
    exact u0 ⟨_,rfl,"enumerate",_,l,EX.lookup,h⟩
def ItZ (J1 J2:It):It:=⟨λi H=>J1.go i H/\∀ x H1,J1.yld i H x H1->J2.go i H1,λi H x H'=>∃ b a H1 H2 p,J1.yld i H b H1/\J2.yld i H1 a H2/\H2 p=none/\x=.ref p/\H'=upd H2 p (.tup [b,a]),
 λi H=>J1.stop i H\/(J1.go i H/\∀ x H1,J1.yld i H x H1->H1=H/\J2.stop i H)⟩
def Lw (f:uU X pins H b) (g:b∉L):uU X (pins++kr L h) H b:=by
 obtain ⟨f0,f1,f2,e,d,a⟩:=f
 refine ⟨f0,f1,f2,e,d,λp c z=>?_⟩
 rcases bE.mp c with q | q
 .exact a p (gq _ q) z
 .rcases bE.mp q with q | q
  .exact a p (eh _ q) z
  .have:=(ZL q).1
   exact g (z ▸ this)
def wZ     {σ:St} (I:Inv X (pins++kr L h) σ H s) (d:b∈L) (e:h.get? b=some o):s.heap.get? b=some o/\H b=none:=by
 obtain ⟨c,a,_⟩:=I.pin _ (eh _ (eh _ (xP d e)))
 exact ⟨c,a⟩
def uC   {σ:St} (I:Inv X pins σ H s) (a:Heap.SameBut b s.heap h') (f:uU X pins H b):Inv X pins σ H { s with heap:=h',toks:=t' }:=by
 obtain ⟨f0,f1,f2,h,g,e⟩:=f
 exact I.turned (t':=t') (λc o d q=>(a.2 c d).trans q) f0 f1 h g e
structure ZApart (z TI TO:Addr) (eA eL:List Addr):Prop where
 a1:z≠TI
 a2:z≠TO
 a3:TI≠TO
 z1:∀ b∈eA++eL,b≠z
 z2:∀ b∈eA++eL,b≠TI
 z3:∀ b∈eA++eL,b≠TO
 d:∀ b∈eA,b∉eL
section
variable {P:Ej} {w:Ey} {K:A6} {J1 J2:It} {eA eL:List Addr} {i1 i2 z TI TO:Addr} {j_ ij:Nat->Heap->Prop}
def tnZ (j_ ij:Nat->Heap->Prop) (z TI TO i1 i2:Addr) (i:Nat) (h:Heap):Prop:=j_ i h/\ij i h/\IsZip h z TI TO .none/\IK h TI (.ref i1) (.ref i2)/\∃ a b,IK h TO a b
def BS {elts:List Expr} {kx:Nat} {tp:Pos} (n:Draw P w K J1 eA i1 j_) (j:Draw P w K J2 eL i2 ij) (Z:ZApart z TI TO eA eL) :
  Turn P w K (.Tuple elts kx tp) (ItZ J1 J2) (z :: TI :: TO :: (eA++eL)) z (tnZ j_ ij z TI TO i1 i2) where
 mem:=aN
 obj:=λi h st b d=>by
  obtain ⟨s1,s2,hz,U,a,R,mz⟩:=st
  rcases aI.mp d with rfl | d
  .exact ⟨_,hz,λv z=>by cases z⟩
  rcases aI.mp d with rfl | d
  .exact ⟨_,U,λv z=>by cases z⟩
  rcases aI.mp d with rfl | d
  .exact ⟨_,mz,λv z=>by cases z⟩
  rcases bE.mp d with d | d
  .exact n.obj i h s1 b d
  .exact j.obj i h s2 b d
 keep:=λi h h' st k=>by
  obtain ⟨s1,s2,hz,U,a,R,mz⟩:=st
  refine ⟨n.keep i h h' s1 λb d o e=>k b (by simp [d]) o e,j.keep i h h' s2 λb d o e=>k b (by simp [d]) o e,k z (by simp) _ hz,k TI (by simp) _ U,a,R,k TO (by simp) _ mz⟩
 item:=by
  intro X hP hw hK hc i pins s σ H E I G st hg
  subst hP hw hK
  obtain ⟨s1,s2,hz,U,a,R,mz⟩:=st
  obtain ⟨g1,g2⟩:=hg
  have hT:s.TypeIs (.ref z) "zip":=⟨_,hz,rfl⟩
  have p:=G z (by simp)
  have Y:=G TI (by simp)
  have oS:=G TO (by simp)
  have W:∀ b∈eA,uU X pins H b:=λb d=>G b (by simp [d])
  have AS:∀ b∈eL,uU X pins H b:=λb d=>G b (by simp [d])
  have rh:∀ b∈eA,b≠z:=λb d=>Z.z1 b (by simp [d])
  have rg:∀ b∈eL,b≠z:=λb d=>Z.z1 b (by simp [d])
  have n1I:∀ b∈eA,b≠TI:=λb d=>Z.z2 b (by simp [d])
  have n2I:∀ b∈eL,b≠TI:=λb d=>Z.z2 b (by simp [d])
  have tm:∀ b∈eA,b≠TO:=λb d=>Z.z3 b (by simp [d])
  have tj:∀ b∈eL,b≠TO:=λb d=>Z.z3 b (by simp [d])
  unfold pyNext
  refine ls (EL (Eg (name:=EG "__next__") hT F.slot_zip_next (Ed F.slot_zip_next hT F.entry_zip_next ?_ (F.args_zip_next_1 _))))
  show A_ _ _ (field (.ref z) 2 >>= _) _ _ _
  refine ls (Ee hz rfl (x:=.bool false) rfl ?_)
  show A_ _ _ (field (.ref z) 3 >>= _) _ _ _
  refine ls (Ee hz rfl (x:=.ref TI) rfl ?_)
  refine ls (EZ U rfl ?_)
  show A_ _ _ (Et (.ref z) >>= _) _ _ _
  refine ls ?_
  unfold Et
  refine ls (Ee hz rfl (x:=.none) rfl (u0 ?_))
  simp only [if_true]
  refine ls (Iv ?_)
  refine ls (Ee hz rfl (x:=.ref TO) rfl ?_)
  refine ls (C_ hz (by simp) λm O L=>?_)
  replace O:IsZip m z TI TO .ellipsis:=O
  have I1:Inv X pins σ H { s with heap:=m }:=uC (t':=s.toks) I L p
  have dY:IK m TI (.ref i1) (.ref i2):=(L.2 TI (EF Z.a1)).trans U
  have dX:IK m TO a R:=(L.2 TO (EF Z.a2)).trans mz
  have gB:j_ i m:=n.keep _ _ _ s1 λb d o e=>(L.2 b (rh b d)).trans e
  have eS:ij i m:=j.keep _ _ _ s2 λb d o e=>(L.2 b (rg b d)).trans e
  refine ls ?_
  simp only [List.zipIdx_cons,List.zipIdx_nil,AF,List.forIn_nil]
  refine ls (ls (LC ?_))
  show A_ _ _ (El (.ref i1) >>= _) _ _ _
  have I1p:=I1.pinned (fp:=z :: TI :: TO :: eL) (λb d=>by
   rcases aI.mp d with rfl | d
   .exact p
   rcases aI.mp d with rfl | d
   .exact Y
   rcases aI.mp d with rfl | d
   .exact oS
   .exact AS b d) (λb d=>by
   rcases aI.mp d with rfl | d
   .exact ⟨_,O,λv z=>by cases z⟩
   rcases aI.mp d with rfl | d
   .exact ⟨_,dY,λv z=>by cases z⟩
   rcases aI.mp d with rfl | d
   .exact ⟨_,dX,λv z=>by cases z⟩
   .exact j.obj _ _ eS b d)
  refine ls (Ef (n.item _ X rfl rfl rfl i _ _ σ H _ I1p (λb d=>Lw (W b d) (by
   intro hm
   rcases aI.mp hm with e | hm
   .exact rh b d e
   rcases aI.mp hm with e | hm
   .exact n1I b d e
   rcases aI.mp hm with e | hm
   .exact tm b d e
   .exact Z.d b d hm)) gB g1) (λu1 l h3=>u0 ?_) λ_ _ z=>z)
  obtain ⟨x1,H3,g,r3,y3,sg,AQ⟩:=h3
  obtain ⟨r,AN⟩:=wZ g (b:=z) (by simp) O
  obtain ⟨fw,AV⟩:=wZ g (b:=TI) (by simp) dY
  obtain ⟨bW,mI⟩:=wZ g (b:=TO) (by simp) dX
  have r:IsZip l.heap z TI TO .ellipsis:=r
  have fw:IK l.heap TI (.ref i1) (.ref i2):=fw
  have bW:IK l.heap TO a R:=bW
  have iG:ij i l.heap:=j.keep _ _ _ eS λb d o e=>(wZ g (by simp [d]) e).1
  have oQ:∀ b∈eL,H3 b=none:=λb d=>by
   obtain ⟨o,e,_⟩:=j.obj _ _ eS b d
   exact (wZ g (by simp [d]) e).2
  have g:=g.unpinned
  refine ls (EZ bW rfl ?_)
  refine ls (wpAny_updateSeq_pair bW λJ dW y=>?_)
  replace dW:IK J TO u1 R:=dW
  refine ls (wpAny_letGo (u0 ?_))
  have I4:Inv X pins σ H3 { l with heap:=J }:=uC (t':=l.toks) g y ⟨mI,oS.2⟩
  have eU:IsZip J z TI TO .ellipsis:=(y.2 z Z.a2).trans r
  have i7:IK J TI (.ref i1) (.ref i2):=(y.2 TI Z.a3).trans fw
  have se:j_ (i+1) J:=n.keep _ _ _ sg λb d o e=>(y.2 b (tm b d)).trans e
  have iF:ij i J:=j.keep _ _ _ iG λb d o e=>(y.2 b (tj b d)).trans e
  refine ls (ls (LC ?_))
  show A_ _ _ (El (.ref i2) >>= _) _ _ _
  have I4p:=I4.pinned (fp:=z :: TI :: TO :: eA) (λb d=>by
   rcases aI.mp d with rfl | d
   .exact ⟨AN,p.2⟩
   rcases aI.mp d with rfl | d
   .exact ⟨AV,Y.2⟩
   rcases aI.mp d with rfl | d
   .exact ⟨mI,oS.2⟩
   .exact ⟨AQ b d,(W b d).2⟩) (λb d=>by
   rcases aI.mp d with rfl | d
   .exact ⟨_,eU,λv z=>by cases z⟩
   rcases aI.mp d with rfl | d
   .exact ⟨_,i7,λv z=>by cases z⟩
   rcases aI.mp d with rfl | d
   .exact ⟨_,dW,λv z=>by cases z⟩
   .exact n.obj _ _ se b d)
  refine ls (Ef (j.item _ X rfl rfl rfl i _ _ σ H3 _ I4p (λb d=>Lw ⟨oQ b d,(AS b d).2⟩ (by
   intro hm
   rcases aI.mp hm with e | hm
   .exact rg b d e
   rcases aI.mp hm with e | hm
   .exact n2I b d e
   rcases aI.mp hm with e | hm
   .exact tj b d e
   .exact Z.d b hm d)) iF (g2 _ _ y3)) (λu2 s5 h5=>u0 ?_) λ_ _ z=>z)
  obtain ⟨x2,H5,M,r5,y5,iD,AO⟩:=h5
  obtain ⟨di,fz5⟩:=wZ M (b:=z) (by simp) eU
  obtain ⟨gk,fTI5⟩:=wZ M (b:=TI) (by simp) i7
  obtain ⟨fu,AU⟩:=wZ M (b:=TO) (by simp) dW
  have di:IsZip s5.heap z TI TO .ellipsis:=di
  have gk:IK s5.heap TI (.ref i1) (.ref i2):=gk
  have fu:IK s5.heap TO u1 R:=fu
  have st5':j_ (i+1) s5.heap:=n.keep _ _ _ se λb d o e=>(wZ M (by simp [d]) e).1
  have oR:∀ b∈eA,H5 b=none:=λb d=>by
   obtain ⟨o,e,_⟩:=n.obj _ _ se b d
   exact (wZ M (by simp [d]) e).2
  have M:=M.unpinned
  refine ls (EZ fu rfl ?_)
  refine ls (wpAny_updateSeq_pair fu λf dU bH=>?_)
  replace dU:IK f TO u1 u2:=dU
  refine ls (wpAny_letGo (u0 (u0 ?_)))
  have I6:Inv X pins σ H5 { s5 with heap:=f }:=uC (t':=s5.toks) M bH ⟨AU,oS.2⟩
  have iM:IsZip f z TI TO .ellipsis:=(bH.2 z Z.a2).trans di
  have iZ:IK f TI (.ref i1) (.ref i2):=(bH.2 TI Z.a3).trans gk
  have st6:j_ (i+1) f:=n.keep _ _ _ st5' λb d o e=>(bH.2 b (tm b d)).trans e
  have sd:ij (i+1) f:=j.keep _ _ _ iD λb d o e=>(bH.2 b (tj b d)).trans e
  refine ls (EZ dU rfl ?_)
  refine ls (wpAny_newTuple ?_)
  have hf7:H5 f.objs.size=none:=I6.hok.fresh (aM _)
  have I7:Inv X pins σ (upd H5 f.objs.size (.tup [x1,x2])) { s5 with heap:=f.push { cls:=.type "tuple",data:=.seq #[u1,u2] } } :=
   I6.laid (t':=s5.toks) (λb u e=>tz _ e) (aM _) ⟨by show 2<=sizeLine; decide,[u1,u2],.cons r3 (.cons r5 .nil),⟨_,AC _ rfl,rfl,_,rfl⟩⟩
  have lz:z < f.objs.size:=A9 iM
  have lTI:TI < f.objs.size:=A9 iZ
  have lTO:TO < f.objs.size:=A9 dU
  show A_ _ _ (EN (.ref z) (.ref f.objs.size) >>= _) _ _ _
  refine ls ?_
  unfold EN
  have tM:IsZip (f.push { cls:=.type "tuple",data:=.seq #[u1,u2] }) z TI TO .ellipsis:=tz _ iM
  refine ls (C_ tM (by simp) λiJ iL eV=>?_)
  replace iL:IsZip iJ z TI TO (HR f.objs.size):=iL
  refine C_ iL (by simp) λh₉ iK B=>?_
  replace iK:IsZip h₉ z TI TO (HR f.objs.size):=iK
  refine u0 ⟨_,rfl,u0 ⟨_,rfl,?_⟩⟩
  refine wpAny_letOwnedTupleGo_zip iK λh₀ tO C=>?_
  have up:∀ c o,c≠z->f.get? c=some o->h₀.get? c=some o:=λc o hc e=>(C.2 c hc).trans ((B.2 c hc).trans ((eV.2 c hc).trans (tz _ e)))
  have fz7:(upd H5 f.objs.size (.tup [x1,x2])) z=none:=by rw [zw (cR lz)]; exact fz5
  refine ⟨.ref f.objs.size,_,I7.turned (t':=s5.toks) (λb o d q=>(C.2 b d).trans ((B.2 b d).trans ((eV.2 b d).trans q))) fz7 p.2.1 p.2.2.2.1 p.2.2.2.2.1 p.2.2.2.2.2,rfl,⟨x1,x2,H3,H5,_,y3,y5,hf7,rfl,rfl⟩,
   ⟨n.keep _ _ _ st6 λb d o e=>up b o (rh b d) e,j.keep _ _ _ sd λb d o e=>up b o (rg b d) e,tO,up _ _ (EF Z.a1) iZ,_,_,up _ _ (EF Z.a2) dU⟩,λb d=>?_⟩
  have S:∀ b,b < f.objs.size->H5 b=none->(upd H5 f.objs.size (.tup [x1,x2])) b=none:=λb hl hn=>by rw [zw (cR hl)]; exact hn
  rcases aI.mp d with rfl | d
  .exact fz7
  rcases aI.mp d with rfl | d
  .exact S _ lTI fTI5
  rcases aI.mp d with rfl | d
  .exact S _ lTO AU
  rcases bE.mp d with d | d
  .obtain ⟨o,q,_⟩:=n.obj _ _ st6 b d
   exact S b (A9 q) (oR b d)
  .obtain ⟨o,q,_⟩:=j.obj _ _ sd b d
   exact S b (A9 q) (AO b d)
 done:=by
  intro X hP hw hK hc i pins s σ H E I G st hg
  subst hP hw hK
  obtain ⟨s1,s2,hz,U,a,R,mz⟩:=st
  have hT:s.TypeIs (.ref z) "zip":=⟨_,hz,rfl⟩
  have p:=G z (by simp)
  have Y:=G TI (by simp)
  have oS:=G TO (by simp)
  have W:∀ b∈eA,uU X pins H b:=λb d=>G b (by simp [d])
  have AS:∀ b∈eL,uU X pins H b:=λb d=>G b (by simp [d])
  have rh:∀ b∈eA,b≠z:=λb d=>Z.z1 b (by simp [d])
  have rg:∀ b∈eL,b≠z:=λb d=>Z.z1 b (by simp [d])
  have n1I:∀ b∈eA,b≠TI:=λb d=>Z.z2 b (by simp [d])
  have n2I:∀ b∈eL,b≠TI:=λb d=>Z.z2 b (by simp [d])
  have tm:∀ b∈eA,b≠TO:=λb d=>Z.z3 b (by simp [d])
  have tj:∀ b∈eL,b≠TO:=λb d=>Z.z3 b (by simp [d])
  unfold pyNext
  refine ls (EL (Eg (name:=EG "__next__") hT F.slot_zip_next (Ed F.slot_zip_next hT F.entry_zip_next ?_ (F.args_zip_next_1 _))))
  show A_ _ _ (field (.ref z) 2 >>= _) _ _ _
  refine ls (Ee hz rfl (x:=.bool false) rfl ?_)
  show A_ _ _ (field (.ref z) 3 >>= _) _ _ _
  refine ls (Ee hz rfl (x:=.ref TI) rfl ?_)
  refine ls (EZ U rfl ?_)
  show A_ _ _ (Et (.ref z) >>= _) _ _ _
  refine ls ?_
  unfold Et
  refine ls (Ee hz rfl (x:=.none) rfl (u0 ?_))
  simp only [if_true]
  refine ls (Iv ?_)
  refine ls (Ee hz rfl (x:=.ref TO) rfl ?_)
  refine ls (C_ hz (by simp) λm O L=>?_)
  replace O:IsZip m z TI TO .ellipsis:=O
  have I1:Inv X pins σ H { s with heap:=m }:=uC (t':=s.toks) I L p
  have dY:IK m TI (.ref i1) (.ref i2):=(L.2 TI (EF Z.a1)).trans U
  have dX:IK m TO a R:=(L.2 TO (EF Z.a2)).trans mz
  have gB:j_ i m:=n.keep _ _ _ s1 λb d o e=>(L.2 b (rh b d)).trans e
  have eS:ij i m:=j.keep _ _ _ s2 λb d o e=>(L.2 b (rg b d)).trans e
  have I1p:=I1.pinned (fp:=z :: TI :: TO :: eL) (λb d=>by
   rcases aI.mp d with rfl | d
   .exact p
   rcases aI.mp d with rfl | d
   .exact Y
   rcases aI.mp d with rfl | d
   .exact oS
   .exact AS b d) (λb d=>by
   rcases aI.mp d with rfl | d
   .exact ⟨_,O,λv z=>by cases z⟩
   rcases aI.mp d with rfl | d
   .exact ⟨_,dY,λv z=>by cases z⟩
   rcases aI.mp d with rfl | d
   .exact ⟨_,dX,λv z=>by cases z⟩
   .exact j.obj _ _ eS b d)
  have sE:∀ b∈eA,uU X (pins++kr (z :: TI :: TO :: eL) m) H b:=λb d=>Lw (W b d) (by
   intro hm
   rcases aI.mp hm with e | hm
   .exact rh b d e
   rcases aI.mp hm with e | hm
   .exact n1I b d e
   rcases aI.mp hm with e | hm
   .exact tm b d e
   .exact Z.d b d hm)
  refine ls ?_
  simp only [List.zipIdx_cons,List.zipIdx_nil,AF,List.forIn_nil]
  refine ls (ls (LC ?_))
  show A_ _ _ (El (.ref i1) >>= _) _ _ _
  rcases hg with hg | ⟨g1,hg⟩
  .refine ls (Ef (n.fin X.A.in1 X rfl rfl rfl (I.ok.hd hc) i _ _ σ H _ I1p sE gB hg) (λ_ _ z=>z) λe l h3=>?_)
   obtain ⟨g,c,o,rfl,ho,eJ⟩:=h3
   obtain ⟨r,AN⟩:=wZ g (b:=z) (by simp) O
   have r:IsZip l.heap z TI TO .ellipsis:=r
   have hcz:c≠z:=λx=>by subst x; rw [r] at ho; cases ho; simp at eJ
   refine C_ r (by simp) λJ eU y=>?_
   refine ls (ET (T:="StopIteration") (b:=true) ⟨o,(y.2 c hcz).trans ho,eJ⟩ Lj ?_)
   exact u0 ⟨rfl,uC (t':=l.toks) g.unpinned y ⟨AN,p.2⟩⟩
  .refine ls (Ef (n.item _ X rfl rfl rfl i _ _ σ H _ I1p sE gB g1) (λu1 l h3=>u0 ?_) λ_ _ z=>z)
   obtain ⟨x1,H3,g,r3,y3,sg,AQ⟩:=h3
   obtain ⟨rfl,bp⟩:=hg _ _ y3
   obtain ⟨r,AN⟩:=wZ g (b:=z) (by simp) O
   obtain ⟨fw,AV⟩:=wZ g (b:=TI) (by simp) dY
   obtain ⟨bW,mI⟩:=wZ g (b:=TO) (by simp) dX
   have r:IsZip l.heap z TI TO .ellipsis:=r
   have bW:IK l.heap TO a R:=bW
   have iG:ij i l.heap:=j.keep _ _ _ eS λb d o e=>(wZ g (by simp [d]) e).1
   have g:=g.unpinned
   refine ls (EZ bW rfl ?_)
   refine ls (wpAny_updateSeq_pair bW λJ dW y=>?_)
   refine ls (wpAny_letGo (u0 ?_))
   have I4:Inv X pins σ H3 { l with heap:=J }:=uC (t':=l.toks) g y ⟨mI,oS.2⟩
   have eU:IsZip J z TI TO .ellipsis:=(y.2 z Z.a2).trans r
   have iF:ij i J:=j.keep _ _ _ iG λb d o e=>(y.2 b (tj b d)).trans e
   refine ls (ls (LC ?_))
   show A_ _ _ (El (.ref i2) >>= _) _ _ _
   have I4p:=I4.pinned (fp:=[z]) (λb d=>by
    have e:b=z:=by simpa using d
    subst e; exact ⟨AN,p.2⟩) (λb d=>by
    have e:b=z:=by simpa using d
    subst e; exact ⟨_,eU,λv z=>by cases z⟩)
   refine ls (Ef (j.fin X.A.in1 X rfl rfl rfl (I.ok.hd hc) i _ _ σ H3 _ I4p (λb d=>Lw (AS b d) (by
    intro hm
    exact rg b d (by simpa using hm))) iF bp) (λ_ _ z=>z) λe s5 h5=>?_)
   obtain ⟨M,c,o,rfl,ho,eJ⟩:=h5
   obtain ⟨di,fz5⟩:=wZ M (b:=z) (by simp) eU
   have di:IsZip s5.heap z TI TO .ellipsis:=di
   have hcz:c≠z:=λx=>by subst x; rw [di] at ho; cases ho; simp at eJ
   refine C_ di (by simp) λf iM bH=>?_
   refine ls (ET (T:="StopIteration") (b:=true) ⟨o,(bH.2 c hcz).trans ho,eJ⟩ Lj ?_)
   exact u0 ⟨rfl,uC (t':=s5.toks) M.unpinned bH ⟨fz5,p.2⟩⟩
 self:=λA i s Q E st h=>wpAny_pyIter_zip st.2.2.1 h
end
def gu (b:Bool) (h:Heap) (a:Addr) (af:Array Value):Prop:=if b=true then h.IsList a af else h.IsTuple a af
def wK (b:Bool) (a:Addr):Obj:={ cls:=.type (if b=true then "list_iterator" else "tuple_iterator"),data:=.fields #[.ref a,.int 0 0] }
def gu.push (q:gu b h a af) (o):gu b (h.push o) a af:=by
 cases b with
 | true=>exact Heap.IsList.push q o
 | false=>exact Heap.IsTuple.push q o
section
variable {prog:Ej} {w:Ey} {A:Around} {E:Value->Shared->Prop} {s:Shared}
def vW (q:gu b s.heap a af) (h:Q (.ref s.heap.objs.size) { s with heap:=s.heap.push (wK b a) }):A_ (Ec prog w) A (pyIter (.ref a)) Q E s:=by
 cases b with
 | true=>exact wpAny_pyIter_list q h
 | false=>exact wpAny_pyIter_tuple q h
set_option tactic.hygienic true in
def JF (b) (a:Addr) (af:Array Value) :
  Meets (Builtin.«enumerate.__new__» ⟨[.type "enumerate",.ref a],[]⟩) (λ_ R s=>gu b s.heap a af ∧
   R (.ok (.ret (.ref (s.heap.push (wK b a)).objs.size))) { s with heap:=(s.heap.push (wK b a)).push { cls:=.type "enumerate",data:=.fields #[.none,.bool false,.ref s.heap.objs.size,HR 0,.none,.none] } }) :=
 .of_wp λprog w A R s h=>by
  obtain ⟨f,g,d,tk,os⟩:=s; obtain ⟨i,h⟩:=h
  have j:=sub_enumerate
  have e:gu b (Shared.heap ⟨f,g,d,tk,os⟩) a af:=i
  wp_walk using vW e
  refine wpAny_stack_any λst=>u0 ?_
  split
  .rename_i c _ _ _ _ _
   cases (c==Value.type "enumerate")
   .wp_walk using vW e
    exact ⟨_,rfl,h⟩
   .wp_walk using vW e
    exact ⟨_,rfl,h⟩
  .wp_walk using vW e
   exact ⟨_,rfl,h⟩
def Bn (d:gu b s.heap a af)
  (h:∀ h',IsEnum h' (s.heap.objs.size+1) s.heap.objs.size 0 .none->h'.get? s.heap.objs.size=some (wK b a)->(∀ b o,s.heap.get? b=some o->h'.get? b=some o)->Q (.ref (s.heap.objs.size+1)) { s with heap:=h' }) :
  A_ (Ec prog w) A (call (.type "enumerate") [.ref a]) Q E s:=by
 refine callType_new F.called_enumerate (by decide) (F.typeCall_enumerate_1 _) (F.newCall_enumerate_1 _) (λobj=>F.args_object_init_2 obj _) F.entry_enumerate_new (JF b a af) ⟨d,?_⟩
 have hz:(s.heap.push (wK b a)).objs.size=s.heap.objs.size+1:=IF ..
 show _/\_
 rw [hz]
 have c:IsEnum ((s.heap.push (wK b a)).push { cls:=.type "enumerate",data:=.fields #[.none,.bool false,.ref s.heap.objs.size,HR 0,.none,.none] }) (s.heap.objs.size+1) s.heap.objs.size 0 .none:=by
  have:=AC (s.heap.push (wK b a)) (o:={ cls:=.type "enumerate",data:=.fields #[.none,.bool false,.ref s.heap.objs.size,HR 0,.none,.none] }) rfl
  rw [hz] at this; exact this
 exact ⟨⟨_,c,rfl⟩,h _ c (tz _ (AC _ rfl)) λb o x=>tz _ (tz _ x)⟩
def GB (b e) (a c:Addr) (xs ys:Array Value) :
  Meets (Builtin.«zip.__new__» ⟨[.type "zip",.ref a,.ref c],[]⟩) (λ_ R s=>gu b s.heap a xs/\gu e s.heap c ys ∧
   R (.ok (.ret (.ref ((((s.heap.push (wK b a)).push (wK e c)).push { cls:=.type "tuple",data:=.seq #[.ref s.heap.objs.size,.ref (s.heap.push (wK b a)).objs.size] }).push { cls:=.type "tuple",data:=.seq #[.none,.none] }).objs.size)))
    { s with heap:=((((s.heap.push (wK b a)).push (wK e c)).push { cls:=.type "tuple",data:=.seq #[.ref s.heap.objs.size,.ref (s.heap.push (wK b a)).objs.size] }).push { cls:=.type "tuple",data:=.seq #[.none,.none] }).push ({ cls:=.type "zip",data:=.fields #[.none,.bool false,.bool false,.ref ((s.heap.push (wK b a)).push (wK e c)).objs.size,.ref (((s.heap.push (wK b a)).push (wK e c)).push { cls:=.type "tuple",data:=.seq #[.ref s.heap.objs.size,.ref (s.heap.push (wK b a)).objs.size] }).objs.size] }:Obj) }) :=
 .of_wp λprog w A R s h=>by
  obtain ⟨j,g,d,tk,os⟩:=s; obtain ⟨l,k,h⟩:=h
  have m:=sub_zip
  have i:gu b (Shared.heap ⟨j,g,d,tk,os⟩) a xs:=l
  have f:gu e (Shared.heap ⟨j.push (wK b a),g,d,tk,os⟩) c ys:=gu.push k _
  wp_walk using vW i,vW f
  exact ⟨_,rfl,h⟩
def Fd (v:gu i s.heap e xs) (r:gu g s.heap d ys)
  (h:∀ h',IsZip h' (s.heap.objs.size+4) (s.heap.objs.size+2) (s.heap.objs.size+3) .none->IK h' (s.heap.objs.size+2) (.ref s.heap.objs.size) (.ref (s.heap.objs.size+1)) →
   IK h' (s.heap.objs.size+3) .none .none->h'.get? s.heap.objs.size=some (wK i e)->h'.get? (s.heap.objs.size+1)=some (wK g d)->(∀ c o,s.heap.get? c=some o->h'.get? c=some o)->Q (.ref (s.heap.objs.size+4)) { s with heap:=h' }) :
  A_ (Ec prog w) A (call (.type "zip") [.ref e,.ref d]) Q E s:=by
 refine callType_new F.called_zip (by decide) (F.typeCall_zip_2 _ _) (F.newCall_zip_2 _ _) (λobj=>F.args_object_init_3 obj _ _) F.entry_zip_new (GB i g e d xs ys) ⟨v,r,?_⟩
 generalize e1:s.heap.push (wK i e)=h1
 generalize e2:h1.push (wK g d)=h2
 generalize k:h2.push { cls:=.type "tuple",data:=.seq #[.ref s.heap.objs.size,.ref h1.objs.size] }=a
 generalize j:a.push { cls:=.type "tuple",data:=.seq #[.none,.none] }=b
 have z1:h1.objs.size=s.heap.objs.size+1:=by rw [<- e1]; exact IF ..
 have z2:h2.objs.size=s.heap.objs.size+2:=by rw [<- e2,IF,z1]
 have z3:a.objs.size=s.heap.objs.size+3:=by rw [<- k,IF,z2]
 have l:b.objs.size=s.heap.objs.size+4:=by rw [<- j,IF,z3]
 have k1:∀ c o,s.heap.get? c=some o->h1.get? c=some o:=λc o x=>by rw [<- e1]; exact tz _ x
 have k2:∀ c o,h1.get? c=some o->h2.get? c=some o:=λc o x=>by rw [<- e2]; exact tz _ x
 have k3:∀ c o,h2.get? c=some o->a.get? c=some o:=λc o x=>by rw [<- k]; exact tz _ x
 have f:∀ c o,a.get? c=some o->b.get? c=some o:=λc o x=>by rw [<- j]; exact tz _ x
 have u:h1.get? s.heap.objs.size=some (wK i e):=by rw [<- e1]; exact AC _ rfl
 have q:h2.get? h1.objs.size=some (wK g d):=by rw [<- e2]; exact AC _ rfl
 have p:IK a h2.objs.size (.ref s.heap.objs.size) (.ref h1.objs.size):=by show a.get? h2.objs.size=_; rw [<- k]; exact AC _ rfl
 have n:IK b a.objs.size .none .none:=by show b.get? a.objs.size=_; rw [<- j]; exact AC _ rfl
 show _/\_
 rw [z2,z3,l]
 rw [z1] at q
 rw [z1,z2] at p
 rw [z3] at n
 have m:IsZip (b.push { cls:=.type "zip",data:=.fields #[.none,.bool false,.bool false,.ref (s.heap.objs.size+2),.ref (s.heap.objs.size+3)] }) (s.heap.objs.size+4) (s.heap.objs.size+2) (s.heap.objs.size+3) .none:=by
  have:=AC b (o:={ cls:=.type "zip",data:=.fields #[.none,.bool false,.bool false,.ref (s.heap.objs.size+2),.ref (s.heap.objs.size+3)] }) rfl
  rw [l] at this; exact this
 exact ⟨⟨_,m,rfl⟩,h _ m (tz _ (f _ _ p)) (tz _ n) (tz _ (f _ _ (k3 _ _ (k2 _ _ u)))) (tz _ (f _ _ (k3 _ _ q))) λc o x=>tz _ (f _ _ (k3 _ _ (k2 _ _ (k1 _ _ x))))⟩
def V0 (b:IsEnum s.heap e it i old) (h:Q (.ref e) s):A_ (Ec prog w) A (pyIter (.ref e)) Q E s:=by
 have a:s.TypeIs (.ref e) "enumerate":=⟨_,b,rfl⟩
 refine Lo a IJ (Ed IJ a F.entry_enumerate_iter ?_ (F.args_enumerate_iter_1 _))
 show A_ _ _ (ret (.ref e)) _ _ s
 exact u0 ⟨_,rfl,"enumerate",_,a,EX.lookup,h⟩
end
def YJ {K:A6} (h:bC K Hf a xs) (j:zP K Hf ds xs):Walks K Hf (Itl K a) ds:=λH2 aK b f i=>by
 refine ⟨λd hd=>?_,λe=>⟨xs,f.seq (b.seq h),by rw [j.length]; exact e⟩⟩
 obtain ⟨v,k,l⟩:=j.get hd
 have g:bC K H2 a xs:=f.seq (b.seq h)
 refine ⟨⟨xs,v,g,k⟩,λx m c=>?_⟩
 obtain ⟨rfl,c⟩:=c
 have:=c xs g
 rw [k] at this
 cases this
 exact ⟨aK,Grows.refl f,l.mono b⟩
def Wl {K:A6} (h:bF K Hf a xs) (j:zP K Hf ds xs):Walks K Hf (Itt K a) ds:=λH2 aK b f i=>by
 refine ⟨λd hd=>?_,λe=>⟨xs,je f (je b h),by rw [j.length]; exact e⟩⟩
 obtain ⟨v,k,l⟩:=j.get hd
 have g:bF K H2 a xs:=je f (je b h)
 refine ⟨⟨xs,v,g,k⟩,λx m c=>?_⟩
 obtain ⟨rfl,c⟩:=c
 have:=c xs g
 rw [k] at this
 cases this
 exact ⟨aK,Grows.refl f,l.mono b⟩
def Grows.lay (s:z7 Hf H) (c:H p=none):Grows H Hf (upd H p o) (upd Hf p o):=by
 have d:Hf p=none:=s.free c
 refine ⟨zG c,zG d,λb u e=>?_,λb u e=>?_⟩
 .by_cases a:b=p
  .subst a; rw [zq] at e ⊢; exact e
  .rw [zw a] at e ⊢; exact s b u e
 .by_cases a:b=p
  .subst a; exact .inr (.inl c)
  .rw [zw a] at e; exact .inl e
def um (ds:List D):List D:=ds.zipIdx.map λp=>.tup [.int (p.2:Int),p.1]
def Hz  {i:Nat} (h:(um ds)[i]? = some d):∃ x,ds[i]? = some x/\d=.tup [.int i,x]:=by
 unfold um at h
 rw [cP,List.getElem?_zipIdx] at h
 cases e:ds[i]? with
 | none=>rw [e] at h; cases h
 | some x=>rw [e] at h; simp at h; exact ⟨x,rfl,h.symm⟩
def Vj (ds):(um ds).length=ds.length:=by simp [um]
def Ji {K:A6} (g:Walks K Hf J ds):Walks K Hf (ItE J) (um ds):=λH2 aK k n i=>by
 obtain ⟨j,h⟩:=g H2 aK k n i
 refine ⟨λd hd=>?_,λa=>h (by rw [Vj] at a; exact a)⟩
 obtain ⟨x,l,rfl⟩:=Hz hd
 obtain ⟨go,f⟩:=j x l
 refine ⟨go,λv r b=>?_⟩
 obtain ⟨y,H1,p,b,m,rfl,rfl⟩:=b
 obtain ⟨q,c,hh⟩:=f y H1 b
 have e:=Grows.lay (o:=.tup [.int i,y]) c.fh m
 exact ⟨_,c.trans e,D_.mpr ⟨p,_,rfl,bF.of zq,.cons (u9.mpr rfl) (.cons (hh.mono e.f) .nil)⟩⟩
def Yu (xs ys:List D):List D:=(xs.zip ys).map λp=>.tup [p.1,p.2]
def UX  {i:Nat} (h:(Yu xs ys)[i]? = some d):∃ x y,xs[i]? = some x/\ys[i]? = some y/\d=.tup [x,y]:=by
 unfold Yu at h
 rw [cP] at h
 cases e:(xs.zip ys)[i]? with
 | none=>rw [e] at h; cases h
 | some p =>
  rw [e] at h
  simp at h
  obtain ⟨h1,h2⟩:=List.getElem?_zip_eq_some.mp e
  exact ⟨p.1,p.2,h1,h2,h.symm⟩
def Zh (xs ys):(Yu xs ys).length=min xs.length ys.length:=by simp [Yu]
def Kj {K:A6} (g:∀ i H x H',J1.yld i H x H'->H'=H) (B:Walks K Hf J1 xs) (s:Walks K Hf J2 ys):Walks K Hf (ItZ J1 J2) (Yu xs ys):=λH2 aK e z i=>by
 obtain ⟨a1,a2⟩:=B H2 aK e z i
 obtain ⟨I,G⟩:=s H2 aK e z i
 refine ⟨λd hd=>?_,λj=>?_⟩
 .obtain ⟨x,y,f,w,rfl⟩:=UX hd
  obtain ⟨l,c⟩:=a1 x f
  obtain ⟨k,A⟩:=I y w
  refine ⟨⟨l,λv H1 q=>by rw [g _ _ _ _ q]; exact k⟩,λv O q=>?_⟩
  obtain ⟨r,n,H1,L,p,u,C,E,rfl,rfl⟩:=q
  have e1:=g _ _ _ _ u
  subst e1
  obtain ⟨J,b,h1⟩:=c r _ u
  obtain ⟨M,a,F⟩:=(s H1 J (e.trans b.f) b.fh i).1 y w |>.2 n _ C
  have m:=Grows.lay (o:=.tup [r,n]) a.fh E
  exact ⟨_,(b.trans a).trans m,D_.mpr ⟨p,_,rfl,bF.of zq,.cons ((h1.mono a.f).mono m.f) (.cons (F.mono m.f) .nil)⟩⟩
 .rw [Zh] at j
  by_cases h:xs.length<=i
  .exact .inl (a2 h)
  .have f:xs[i]? = some xs[i]:=dq (by omega)
   exact .inr ⟨(a1 _ f).1,λv H1 q=>⟨g _ _ _ _ q,G (by omega)⟩⟩
section
variable {X:Cx} {e e1 e2:Expr} {f f1 f2:FE} {pos:Pos} {elts:List Expr} {kx:Nat} {tp:Pos}
def Ve  {σ:St} (I:Inv X pins σ H s) {b:Addr} (a:s.heap.objs.size<=b):uU X pins H b:=I.fpOk a (I.hok.fresh a)
def Ky:D->Option (List D)
 | .lst ds=>some ds
 | .tup ds=>some ds
 | _=>none
def yU (f:FE):FA:=λρ=>(f ρ).bind Ky
def QC (f:FE):FA:=λρ=>(yU f ρ).bind λds=>some (um ds)
def W7 (f g:FE):FA:=λρ=>(yU f ρ).bind λxs=>(yU g ρ).bind λys=>some (Yu xs ys)
def Kv  {σ:St} (I:Inv X pins σ H s) (sf:z7 Hf H) (h:ae X.K Hf d v) (hd:Ky d=some ds) (r:yO v u) :
  ∃ (b:Bool) (a:Addr) (af:Array Value) (J:It),u=.ref a/\gu b s.heap a af/\Walks X.K Hf J ds/\(∀ i H x H',J.yld i H x H'->H'=H) ∧
   ∀ it,∃ tn,Draw X.prog X.w X.K J [it] it tn/\∀ h,h.get? it=some (wK b a)->tn 0 h:=by
 cases d with
 | lst j =>
  cases hd
  obtain ⟨a,xs,rfl,c,g⟩:=En.mp h
  cases r
  obtain ⟨af,_,p,_⟩:=I.list (sf.seq c)
  exact ⟨true,a,_,_,rfl,p.isList,YJ c g,λ_ _ _ _ q=>q.1,λit=>⟨_,HE a it,λh e=>⟨_,e,rfl,rfl⟩⟩⟩
 | tup j =>
  cases hd
  obtain ⟨a,xs,rfl,c,g⟩:=D_.mp h
  cases r
  obtain ⟨af,_,p,_⟩:=I.tuple (je sf c)
  exact ⟨false,a,_,_,rfl,p,Wl c g,λ_ _ _ _ q=>q.1,λit=>⟨_,JZ a it,λh e=>⟨_,e,rfl,rfl⟩⟩⟩
 | _=>cases hd
def UE (hg:Gl X "enumerate") (C:X.mg "enumerate"=none) (F:DE X e f) (o:A7 [e] X.env=[(false,eval e X.env)]:=by rfl):DI X (.Tuple elts kx tp) (.Call (.Name "enumerate" p) [e] [] pos) (QC f):=by
 intro pins s σ H R I h
 obtain ⟨H₀,aa,ρ,Hf,Q,O,q,k⟩:=h
 obtain ⟨ds,m,B⟩:=ym q
 cases B
 obtain ⟨d,A,z⟩:=zQ m
 refine Call_ (ZX I hg C boot_enumerate (EO (thn ((z8 F xx o) pos pins s σ H (λvs H1=>∃ v c,vs=[v]/\Rep X.K H₀ aa σ ρ H1 c/\z7 H H1/\z7 Hf c/\ae X.K c d v) I ⟨H₀,aa,ρ,Hf,d,O,A,λv H1 c i s1 l h1=>⟨v,c,rfl,i,s1,l,h1⟩⟩) λus s1 ⟨vs,H1,j,y,m⟩=>?_) o rfl))
 obtain ⟨v,c,rfl,i,G,l,h1⟩:=m
 cases y with
 | cons r x =>
  cases x
  obtain ⟨b,a,af,J,rfl,w,u,_,M⟩:=Kv j i.sf h1 z r
  refine Bn w λh' n L E=>?_
  have P:Inv X pins σ H1 { s1 with heap:=h' }:=j.kept (t':=s1.toks) E
  obtain ⟨tn,D,st⟩:=M s1.heap.objs.size
  refine V0 n ⟨s1.heap.objs.size+1,[s1.heap.objs.size+1,s1.heap.objs.size],_,_,H1,rfl,P,Kp (elts:=elts) (kx:=kx) (tp:=tp) (e:=s1.heap.objs.size+1) D (λb g=>by
   have e:b=s1.heap.objs.size:=by simpa using g
   rw [e]; exact cR (LG _)),⟨st _ L,_,n⟩,λb g=>?_,k _ _ _ i G l (Ji u)⟩
  rcases aI.mp g with rfl | g
  .exact Ve j (nA _)
  .have e:b=s1.heap.objs.size:=by simpa using g
   rw [e]; exact Ve j (aM _)
def QX (hg:Gl X "zip") (hm:X.mg "zip"=none) (h1:DE X e1 f1) (h2:DE X e2 f2) (A:A7 [e1,e2] X.env=[(false,eval e1 X.env),(false,eval e2 X.env)]:=by rfl) (fY:A7 [e2] X.env=[(false,eval e2 X.env)]:=by rfl) :
  DI X (.Tuple elts kx tp) (.Call (.Name "zip" p) [e1,e2] [] pos) (W7 f1 f2):=by
 intro pins s σ H R I h
 obtain ⟨H₀,aa,ρ,Hf,eD,R0,q,k⟩:=h
 obtain ⟨xs,u,W⟩:=ym q
 obtain ⟨ys,S,Q⟩:=ym W
 cases Q
 obtain ⟨C,U,T⟩:=zQ u
 obtain ⟨B,P,O⟩:=zQ S
 refine Call_ (ZX I hg hm boot_zip (EO (thn ((z8 h1 (z8 h2 xx fY) (by rw [A,fY])) pos pins s σ H (λvs H1=>∃ v g d,vs=[v,g]/\Rep X.K H₀ aa σ ρ H1 d/\z7 H H1/\z7 Hf d/\ae X.K d C v/\ae X.K d B g) I
  ⟨H₀,aa,ρ,Hf,C,R0,U,λv H1 d i s1 m h1=>⟨H₀,aa,ρ,d,B,i,P,λg H2 aK R2 s2 z h2=>⟨v,g,aK,rfl,R2,s1.trans s2,m.trans z,h1.mono z,h2⟩⟩⟩) λus s1 ⟨vs,H1,j,L,u⟩=>?_) (by rw [A,fY]) (by rw [fY]; rfl)))
 obtain ⟨v,g,d,rfl,i,gC,m,hv,Y⟩:=u
 cases L with
 | cons r o =>
  cases o with
  | cons M o =>
   cases o
   obtain ⟨b,a,af,J,rfl,G,E,hq,dr⟩:=Kv j i.sf hv T r
   obtain ⟨b',a',its',J',rfl,n,l,ng,y⟩:=Kv j i.sf Y O M
   refine Fd G n λh' hz i8 mz hi fZ hk=>?_
   have I2:Inv X pins σ H1 { s1 with heap:=h' }:=j.kept (t':=s1.toks) hk
   obtain ⟨tn,D,st⟩:=dr s1.heap.objs.size
   obtain ⟨F,D',eR⟩:=y (s1.heap.objs.size+1)
   have mem:∀ b:Addr,b∈[s1.heap.objs.size]++[s1.heap.objs.size+1]->b=s1.heap.objs.size\/b=s1.heap.objs.size+1:=λb c=>by simpa using c
   have Z:ZApart (s1.heap.objs.size+4) (s1.heap.objs.size+2) (s1.heap.objs.size+3) [s1.heap.objs.size] [s1.heap.objs.size+1] :=
    ⟨by show (_:Nat)≠_; omega,by show (_:Nat)≠_; omega,by show (_:Nat)≠_; omega,λb c=>by rcases mem b c with e | e <;> (rw [e]; show (_:Nat)≠_; omega),λb c=>by rcases mem b c with e | e <;> (rw [e]; show (_:Nat)≠_; omega),
     λb c=>by rcases mem b c with e | e <;> (rw [e]; show (_:Nat)≠_; omega),λb c x=>by
      have e1:b=s1.heap.objs.size:=by simpa using c
      have e2:b=s1.heap.objs.size+1:=by simpa using x
      rw [e1] at e2
      exact absurd e2 (cR (LG _))⟩
   refine wpAny_pyIter_zip hz ⟨_,_,_,_,H1,rfl,I2,BS (elts:=elts) (kx:=kx) (tp:=tp) D D' Z,⟨st _ hi,eR _ fZ,hz,i8,_,_,mz⟩,λb c=>?_,k _ _ _ i gC m (Kj hq E l)⟩
   have w:s1.heap.objs.size<=b:=by
    have:b=s1.heap.objs.size+4\/b=s1.heap.objs.size+2\/b=s1.heap.objs.size+3\/b=s1.heap.objs.size\/b=s1.heap.objs.size+1:=by simpa using c
    rcases this with e | e | e | e | e <;> (rw [e]; show (_:Nat)<=_; omega)
   exact Ve j w
end
section
variable {prog:Ej} {w:Ey} {A:Around} {E:Value->Shared->Prop} {s:Shared}
def kd    {lo hi:Option Int} (ht:IsTup s.heap t items) (d:s.heap.IsSliceOf sl f e .none) (i:IsPart f lo) (g:IsPart e hi)
  (c:HT.sIx items.size 0 lo=0/\HT.sIx items.size items.size hi=items.size) (h:Q (.ref t) s):A_ (Ec prog w) A (getItem (.ref t) (.ref sl)) Q E s:=by
 obtain ⟨os,j,a,k⟩:=id d
 have b:s.TypeIs (.ref sl) "slice":=⟨os,j,a⟩
 unfold getItem
 try with_reducible refine EK ?_
 first | refine ls (u0 ?_) | skip
 refine ls (wpAny_sequenceKey ht.typeIs (by decide) ?_)
 refine ls (Eg (name:=EG "__getitem__") ht.typeIs Em
  (Ed Em ht.typeIs entry_tuple_getitem ?_ (args_tuple_getitem _ _)))
 show A_ _ _ (Lc (.ref t) >>= _) _ _ s
 refine ls (tupleItemsOf_ ht ?_)
 refine ls (wpAny_typeOf b ?_)
 rw [if_pos (by decide)]
 refine ls (HT.sliceApplied_gen d i g ?_)
 rw [c.1,c.2]
 show A_ _ _ (if (((0:Nat):Int)==0&&(1:Int)==1&&(items.size - 0)==items.size)=true then _ else _) _ _ s
 rw [if_pos (by simp)]
 show A_ _ _ (Builtin.Tuple.tupleIsExact (.ref t) >>= _) _ _ s
 unfold Builtin.Tuple.tupleIsExact
 refine ls (ls (wpAny_typeOf ht.typeIs (u0 ?_)))
 rw [if_pos (by decide)]
 refine ls (Iv ?_)
 exact u0 ⟨_,rfl,u0 h⟩
open PySem.AutoSeq1 (wpAny_loadPart') in
def VP (l b) (j:Array Value) (n c:Nat) (dd a:Option Addr) (sl i:Array (Option Value)) :
  Meets (Builtin.«tuple.__add__» ⟨[.ref l,.ref b],[]⟩) (λ_ R s=>s.heap.get? l=some { cls:=.type "tuple",dict:=dd,data:=.seq #[] n,slots:=sl }/\s.heap.get? b=some { cls:=.type "tuple",dict:=a,data:=.seq j c,slots:=i }/\R (.ok (.ret (.ref b))) s) :=
 .of_wp λprog w A R s h=>by
  obtain ⟨k,g,d,tk,os⟩:=s; obtain ⟨e,f,h⟩:=h
  have f2:=AutoSeq1.sub_tuple_tuple
  wp_walk using ER e,ER f
  exact ⟨_,rfl,h⟩
def Fc  {ws:List Value} (ht:IsTup s.heap t #[]) (j:IsTup s.heap b ws.toArray) (h:Q (.ref b) s):A_ (Ec prog w) A (Ig .Add (.ref t) (.ref b)) Q E s:=by
 obtain ⟨⟨cls,dd,data,sl⟩,e,f,n,hd⟩:=id ht
 obtain ⟨⟨l,g,data2,k⟩,d,c,i,a⟩:=id j
 simp only at f hd c a
 subst f hd c a
 exact concat_meets ⟨_,e,rfl⟩ ⟨_,d,rfl⟩ noFill_tuple_add seq_tuple_add LH LA (Ll _ _) (VP t b ws.toArray n i dd g sl k) ⟨e,d,h⟩
end
section
variable {X:Cx}
def Fw (K:A6):R2:=λx y H Q=>∃ a b xs ys,x=.ref a/\y=.ref b/\bF K H a xs/\bF K H b ys/\xs.length+ys.length<=sizeLine ∧
 (xs=[]->Q (.ref b) H)/\(xs≠[]->ys=[]->Q (.ref a) H)/\(xs≠[]->ys≠[]->∀ p,H p=none->Q (.ref p) (upd H p (.tup (xs++ys))))
def CD:cu X (Ig .Add) (Fw X.K):=by
 intro pins s σ H x y v u Q I e d h
 obtain ⟨a,b,xs,ys,rfl,rfl,g,f,hz,l,k,j⟩:=h
 by_cases c:xs=[]
 .subst c
  cases e
  cases d
  obtain ⟨af,i,m,_⟩:=I.tuple g
  obtain ⟨o,n,p2,_⟩:=I.tuple f
  cases i
  exact Fc m p2 ⟨.ref b,H,I,rfl,l rfl⟩
 .exact Nh pins s σ H _ _ v u Q I e d ⟨a,b,xs,ys,rfl,rfl,g,f,c,hz,k c,j c⟩
def Fx (K:A6):R2:=λx y H Q=>∃ a b xs ys,x=.ref a/\y=.ref b/\bC K H a xs/\bC K H b ys/\xs.length+ys.length<=sizeLine/\∀ p,H p=none->Q (.ref p) (upd H p (.lst (xs++ys)))
def CF:cu X (Ig .Add) (Fx X.K):=by
 intro pins s σ H x y v u Q I o m h
 obtain ⟨a,b,xs,ys,rfl,rfl,A,z,hz,q⟩:=h
 cases o
 cases m
 obtain ⟨af,g,p,_⟩:=I.list A
 obtain ⟨d,f,p2,_⟩:=I.list z
 obtain ⟨⟨cls,dd,data,sl⟩,k,l,n,hd⟩:=id p.isList
 obtain ⟨⟨C,r,data2,B⟩,j,i,w,c⟩:=id p2.isList
 simp only at l hd i c
 subst l hd i c
 have e:af.toArray++d.toArray=(af++d).toArray:=by simp
 have hsz:af.toArray.size+d.toArray.size<=sizeLine:=by
  rw [cD,cD,<- g.length,<- f.length]; exact hz
 refine concat_meets ⟨_,k,rfl⟩ ⟨_,j,rfl⟩ noFill_list_add seq_list_add PySem.F.slot_list_add PySem.F.entry_list_add (PySem.F.args_list_add_2 _ _) (list_addW a b af.toArray d.toArray n w dd r sl B hsz) ⟨k,j,?_⟩
 rw [e]
 exact ⟨.ref _,_,I.lnew (t':=s.toks) (g.append f) (by rw [aH]; exact hz),rfl,q _ I.fresh⟩
def RH (K:A6):R2:=λx y H Q=>gb (λi j=>.int (i+j)) x y H Q\/(∃ i j,x=.str i/\y=.str j/\i.length+j.length<=sizeLine/\Q (.str (i++j)) H)\/Fw K x y H Q\/Fx K x y H Q
def Ni:cu X (Ig .Add) (RH X.K):=Sb.or (JB.or (CD.or CF))
def X9:D->D->Option D
 | .int i,.int j=>some (.int (i+j))
 | .str x,.str y=>if x.length+y.length<=sizeLine then some (.str (x++y)) else none
 | .tup xs,.tup ys=>if xs.length+ys.length<=sizeLine then some (.tup (xs++ys)) else none
 | .lst xs,.lst ys=>if xs.length+ys.length<=sizeLine then some (.lst (xs++ys)) else none
 | _,_=>none
def zP.nil_of {K:A6} (h:zP K H ds xs):xs=[]↔ds=[]:=by
 have:=h.length
 constructor
 .intro e; subst e; exact g3e this.symm
 .intro e; subst e; exact g3e this
def qP.tupF {K:A6} (h:qP K Hf σ ρ (.tup ds) v):ae K Hf (.tup ds) v:=by
 rcases h with h | ⟨_,_,e,_⟩
 .exact h
 .cases e
set_option tactic.hygienic true in
def CI:eN X (RH X.K) X9:=by
 intro σ ρ H₀ aa H Hf x y dx q d Q R l j c k
 unfold X9 at c
 split at c
 .cases c
  exact .inl ⟨_,_,l.int,j.int,k _ _ _ R zE zE (u9.mpr rfl)⟩
 .split at c
  .cases c
   exact .inr (.inl ⟨_,_,l.str,j.str,by assumption,k _ _ _ R zE zE (Ei.mpr rfl)⟩)
  .cases c
 .split at c
  .cases c
   rename_i xs ys hz
   obtain ⟨a,vs,rfl,n,h⟩:=l.tup R
   obtain ⟨b,ws,rfl,m,g⟩:=j.tup R
   refine .inr (.inr (.inl ⟨a,b,vs,ws,rfl,rfl,n,m,by rw [h.length,g.length]; exact hz,λe=>?_,λ_ e=>?_,λ_ _ p f=>?_⟩))
   .cases h.nil_of.mp e
    exact k _ _ _ R zE zE (by rw [a_]; exact j.tupF)
   .cases g.nil_of.mp e
    exact k _ _ _ R zE zE (by rw [bx]; exact l.tupF)
   .have i:=zG (o:=.tup (vs++ws)) (R.sf.free f)
    exact k _ _ _ (R.lay f) (zG f) i (D_.mpr ⟨p,_,rfl,bF.of zq,(h.append g).mono i⟩)
  .cases c
 .split at c
  .cases c
   rename_i xs ys hz
   obtain ⟨a,vs,rfl,n,h⟩:=l.lst R
   obtain ⟨b,ws,rfl,m,g⟩:=j.lst R
   refine .inr (.inr (.inr ⟨a,b,vs,ws,rfl,rfl,n,m,by rw [h.length,g.length]; exact hz,λp f=>?_⟩))
   have i:=zG (o:=.lst (vs++ws)) (R.sf.free f)
   exact k _ _ _ (R.lay f) (zG f) i (En.mpr ⟨p,_,rfl,bC.of zq,(h.append g).mono i⟩)
  .cases c
 .cases c
variable {a b c e:Expr} {f g h:FE} {pos p2:Pos}
def yJ (i:DR X a f) (d:DR X b g):DE X (.BinOp a .Add b pos) (zt X9 f g):=Tv Ni CI i d
abbrev FP:=bj->Option (Option Int)
def noP:FP:=λ_=>some none
def exP (f:FE):FP:=λρ=>(f ρ).bind fun | .int i=>some (some i) | _=>none
inductive tP (K:A6) (f:FP) (σ:St) (H:Hp) (Q:Option Int->Hp->Prop):Prop
 |mk (H₀ aa ρ Hf o) (a0:Rep K H₀ aa σ ρ H Hf) (a1:f ρ=some o) (a2:∀ H' ah,Rep K H₀ aa σ ρ H' ah->z7 H H'->z7 Hf ah->Q o H')
def DP (X:Cx) (e:Option Expr) (f:FP):Prop:=PO X e (tP X.K f)
def FM {e:Option Expr} (h:PO X e t) (i:∀ σ H Q,t' σ H Q->t σ H Q):PO X e t':=λpins s σ H Q I d=>h pins s σ H Q I (i _ _ _ d)
def Pn:DP X none noP:=FM M6 λσ H Q ⟨H₀,aa,ρ,Hf,d,R,q,k⟩=>by cases q; exact k _ _ R zE zE
def HF (h:DR X e f):DP X (some e) (exP f):=FM (M5 h) λσ H Q ⟨H₀,aa,ρ,Hf,d,R,q,k⟩=>by
 obtain ⟨x,e1,e2⟩:=zQ q
 cases x <;> try cases e2
 exact ⟨H₀,aa,ρ,Hf,_,R,e1,λv H1 l j s1 i h1=>⟨_,h1.int,k _ _ j s1 i⟩⟩
def Yw {α:Type} (xs:List α) (lo hi:Option Int):List α:=(xs.drop (HT.sIx xs.length 0 lo)).take (HT.sIx xs.length xs.length hi - HT.sIx xs.length 0 lo)
def zP.cut {K:A6} (h:zP K H ds xs) (lo hi):zP K H (Yw ds lo hi) (HZ xs lo hi):=by
 unfold Yw HZ
 rw [h.length]
 exact (h.drop _).take _
def zaz (K:A6):V->Option Int->Option Int->Hp->VK->Prop:=λx lo hi H Q=>∃ a xs,x=.ref a/\bF K H a xs ∧
 ((HT.sIx xs.length 0 lo=0/\HT.sIx xs.length xs.length hi=xs.length)->Q (.ref a) H)/\(¬ (HT.sIx xs.length 0 lo=0/\HT.sIx xs.length xs.length hi=xs.length)->∀ p,H p=none->Q (.ref p) (upd H p (.tup (HZ xs lo hi))))
def Mz:nP X (zaz X.K):=by
 intro pins s σ H x v o n lo hi sl Q I i m k j h
 obtain ⟨a,xs,rfl,l,q,p⟩:=h
 by_cases hw:HT.sIx xs.length 0 lo=0/\HT.sIx xs.length xs.length hi=xs.length
 .cases i
  obtain ⟨af,r,ht,hz⟩:=I.tuple l
  have d:af.toArray.size=xs.length:=by rw [cD]; exact r.length.symm
  refine ⟨"tuple",_,Em.lookup,ht.typeIs,?_⟩
  exact kd ht m k j (by rw [d]; exact hw) ⟨.ref a,H,I,rfl,q hw⟩
 .exact Rn pins s σ H _ v o n lo hi sl Q I i m k j ⟨a,xs,rfl,l,hw,p hw⟩
def U7 (f:FE) (l u:FP):FE:=λρ=>(f ρ).bind λx=>(l ρ).bind λlo=>(u ρ).bind λhi=>match x with
 | .tup ds=>some (.tup (Yw ds lo hi))
 | .lst ds=>some (.lst (Yw ds lo hi))
 | _=>none
def HX  {lo hi:Option Int} (h:HT.sIx ds.length 0 lo=0/\HT.sIx ds.length ds.length hi=ds.length):Yw ds lo hi=ds:=by
 unfold Yw
 rw [h.1,h.2]
 simp
def X2 {lo hi:Option Expr} (J:DR X e f) (I:DP X lo l) (G:DP X hi u):DE X (.Subscript e (.Slice lo hi none p2) pos) (U7 f l u) :=
 yu (Cv (Mz.or MA) J I G) λσ H Q ⟨H₀,aa,ρ,Hf,d,R,q,k⟩=>by
  obtain ⟨x,e1,e2⟩:=zQ q
  cases A:l ρ with
  | none=>rw [A] at e2; cases e2
  | some lo =>
   rw [A] at e2
   cases z:u ρ with
   | none=>rw [z] at e2; cases e2
   | some hi =>
    rw [z] at e2
    simp only [ai] at e2
    refine ⟨H₀,aa,ρ,Hf,x,R,e1,λv H1 L M s1 E h1=>⟨H₀,aa,ρ,L,lo,M,A,λH2 aK R2 s2 C=>⟨H₀,aa,ρ,aK,hi,R2,z,λP O j F B=>?_⟩⟩⟩
    have y:=(h1.mono C).mono B
    have r:=(s1.trans s2).trans F
    have tt:=(E.trans C).trans B
    split at e2
    .cases e2
     obtain ⟨a,xs,rfl,s,n⟩:=y.tup j
     refine .inl ⟨a,xs,rfl,s,λw=>?_,λw p i=>?_⟩
     .rw [n.length] at w
      exact k _ _ _ j r tt (by rw [HX w]; exact y.tupF)
     .have m:=zG (o:=.tup (HZ xs lo hi)) (j.sf.free i)
      exact k _ _ _ (j.lay i) (r.trans (zG i)) (tt.trans m) (D_.mpr ⟨p,_,rfl,bF.of zq,(n.cut lo hi).mono m⟩)
    .cases e2
     obtain ⟨a,xs,rfl,s,n⟩:=y.lst j
     refine .inr ⟨a,xs,rfl,s,λp i=>?_⟩
     have m:=zG (o:=.lst (HZ xs lo hi)) (j.sf.free i)
     exact k _ _ _ (j.lay i) (r.trans (zG i)) (tt.trans m) (En.mpr ⟨p,_,rfl,bC.of zq,(n.cut lo hi).mono m⟩)
    .cases e2
section
variable {X:Cx} {a b c e st:Expr} {f g h fs:FE} {pos p2:Pos}
def kh   {k:D->D->Option α} {r:α} (h:((f ρ).bind λx=>(g ρ).bind λy=>k x y)=some r):∃ x y,f ρ=some x/\g ρ=some y/\k x y=some r:=by
 obtain ⟨x,e1,e2⟩:=zQ h
 obtain ⟨y,i,d⟩:=zQ e2
 exact ⟨x,y,e1,i,d⟩
def xO:List D->Option D
 | [.lst ds]=>some (.tup ds)
 | [.tup ds]=>some (.tup ds)
 | _=>none
def xn:mL X (λxs H Q=>∃ p ys,xs=[.ref p]/\((bC X.K H p ys/\∀ l,H l=none->Q (.ref l) (upd H l (.tup ys)))\/(bF X.K H p ys/\Q (.ref p) H))) xO:=by
 intro σ ρ H₀ aa H Hf xs ds d Q R r i k
 unfold xO at i
 split at i
 .cases i
  obtain ⟨v,rfl,j⟩:=r.one
  obtain ⟨a,ys,rfl,q,l⟩:=j.lst R
  refine ⟨a,ys,rfl,.inl ⟨q,λp m=>?_⟩⟩
  have n:=zG (o:=.tup ys) (R.sf.free m)
  exact k _ _ _ (R.lay m) (zG m) n (D_.mpr ⟨p,_,rfl,bF.of zq,l.mono n⟩)
 .cases i
  obtain ⟨v,rfl,j⟩:=r.one
  obtain ⟨a,ys,rfl,q,l⟩:=j.tup R
  exact ⟨a,ys,rfl,.inr ⟨q,k _ _ _ R zE zE j.tupF⟩⟩
 .cases i
def NI (fa:FA):FA:=λρ=>(fa ρ).bind λl=>match l with
 | [.lst ds]=>some ds
 | [.tup ds]=>some ds
 | _=>none
def HK (hg:Gl X "list") (o:X.mg "list"=none) (s:i_ X (e :: es) fa)
  (r:A7 (e :: es) X.env=(false,eval e X.env) :: A7 es X.env:=by rfl) (u:(EU pos (A7 es X.env)).any (·.1)=false:=by rfl):DN X (.Call (.Name "list" p) (e :: es) [] pos) (NI fa) :=
 yu (wI (T:="list") Vu hg o (by rfl) s (by decide) (by decide) r u) λσ H Q ⟨H₀,aa,ρ,Hf,d,R,q,k⟩=>by
  obtain ⟨l,e1,e2⟩:=ym q
  refine ⟨H₀,aa,ρ,Hf,l,R,e1,λvs H1 w j s1 n h1=>?_⟩
  split at e2
  .cases e2
   obtain ⟨v,rfl,m⟩:=jS.one h1
   obtain ⟨a,ys,rfl,q,l⟩:=m.lst j
   exact ⟨a,ys,rfl,.inl q,λp i=>k _ _ _ _ (j.layN i) (s1.trans (zG i)) n l zq (j.sf.free i) (s1.free i)⟩
  .cases e2
   obtain ⟨v,rfl,m⟩:=jS.one h1
   obtain ⟨a,ys,rfl,q,l⟩:=m.tup j
   exact ⟨a,ys,rfl,.inr q,λp i=>k _ _ _ _ (j.layN i) (s1.trans (zG i)) n l zq (j.sf.free i) (s1.free i)⟩
  .cases e2
end
end
def Cf   {K:A6} (h:ae K H d y) (h':ae K H d' f) (r:yO y u) (c:yO f u):y=f:=by
 cases d with
 | non =>
  cases Ex.mp h
  cases r
  cases d' with
  | non=>cases Ex.mp h'; rfl
  | bl _=>cases Eb.mp h'; cases c
  | int _=>cases u9.mp h'; obtain ⟨t,e⟩:=c; cases e
  | str _=>cases Ei.mp h'; obtain ⟨t,e⟩:=c; cases e
  | tup _=>obtain ⟨_,_,rfl,_⟩:=D_.mp h'; cases c
  | lst _=>obtain ⟨_,_,rfl,_⟩:=En.mp h'; cases c
 | bl b =>
  cases Eb.mp h
  cases r
  cases d' with
  | non=>cases Ex.mp h'; cases c
  | bl _=>cases Eb.mp h'; cases c; rfl
  | int _=>cases u9.mp h'; obtain ⟨t,e⟩:=c; cases e
  | str _=>cases Ei.mp h'; obtain ⟨t,e⟩:=c; cases e
  | tup _=>obtain ⟨_,_,rfl,_⟩:=D_.mp h'; cases c
  | lst _=>obtain ⟨_,_,rfl,_⟩:=En.mp h'; cases c
 | int b =>
  cases u9.mp h
  obtain ⟨g,rfl⟩:=r
  cases d' with
  | non=>cases Ex.mp h'; cases c
  | bl _=>cases Eb.mp h'; cases c
  | int _=>cases u9.mp h'; obtain ⟨t,e⟩:=c; cases e; rfl
  | str _=>cases Ei.mp h'; obtain ⟨t,e⟩:=c; cases e
  | tup _=>obtain ⟨_,_,rfl,_⟩:=D_.mp h'; cases c
  | lst _=>obtain ⟨_,_,rfl,_⟩:=En.mp h'; cases c
 | str b =>
  cases Ei.mp h
  obtain ⟨g,rfl⟩:=r
  cases d' with
  | non=>cases Ex.mp h'; cases c
  | bl _=>cases Eb.mp h'; cases c
  | int _=>cases u9.mp h'; obtain ⟨t,e⟩:=c; cases e
  | str _=>cases Ei.mp h'; obtain ⟨t,e⟩:=c; cases e; rfl
  | tup _=>obtain ⟨_,_,rfl,_⟩:=D_.mp h'; cases c
  | lst _=>obtain ⟨_,_,rfl,_⟩:=En.mp h'; cases c
 | tup ds =>
  obtain ⟨a,_,rfl,_⟩:=D_.mp h
  cases r
  cases d' with
  | non=>cases Ex.mp h'; cases c
  | bl _=>cases Eb.mp h'; cases c
  | int _=>cases u9.mp h'; obtain ⟨t,e⟩:=c; cases e
  | str _=>cases Ei.mp h'; obtain ⟨t,e⟩:=c; cases e
  | tup _=>obtain ⟨_,_,rfl,_⟩:=D_.mp h'; cases c; rfl
  | lst _=>obtain ⟨_,_,rfl,_⟩:=En.mp h'; cases c; rfl
 | lst ds =>
  obtain ⟨a,_,rfl,_⟩:=En.mp h
  cases r
  cases d' with
  | non=>cases Ex.mp h'; cases c
  | bl _=>cases Eb.mp h'; cases c
  | int _=>cases u9.mp h'; obtain ⟨t,e⟩:=c; cases e
  | str _=>cases Ei.mp h'; obtain ⟨t,e⟩:=c; cases e
  | tup _=>obtain ⟨_,_,rfl,_⟩:=D_.mp h'; cases c; rfl
  | lst _=>obtain ⟨_,_,rfl,_⟩:=En.mp h'; cases c; rfl
open Classical in
noncomputable def VL (K:A6) (H:Hp) (dx:D) (u:Value):Bool:=decide (∃ d y,yO y u/\ae K H d y/\b6 d dx=true)
section
variable {X:Cx} {pins:List (Addr×Obj)} {σ:St} {H:Hp} {s:Shared}
open Classical in
def Bv (I:Inv X pins σ H s) (r:yO y u) (h:ae X.K H d y):VL X.K H dx u=b6 d dx:=by
 unfold VL
 cases a:b6 d dx with
 | true=>exact decide_eq_true ⟨d,y,r,h,a⟩
 | false =>
  refine decide_eq_false ?_
  rintro ⟨d',e,c,h',b⟩
  cases Cf h' h c r
  cases ae.inj I h' h
  rw [a] at b; cases b
theorem jP (I:Inv X pins σ H s):∀ {ds:List D} {xs:List V} {us:List Value},zP X.K H ds xs->yS xs us->us.any (VL X.K H dx)=ds.any λd=>b6 d dx
 | [],_,_,h,r=>by rw [zP.nil_iff] at h; subst h; cases r; rfl
 | d :: ds,_,_,h,r=>by
  obtain ⟨x,b,rfl,h1,h2⟩:=B_.mp h
  cases r with
  | cons r a=>rw [oF,oF,Bv I r h1,jP I h2 a]
theorem jj (I:Inv X pins σ H s) {A:Around} {dx:D} {x:V} {v:Value} (e:ae X.K H dx x) (c:yO x v):∀ {ds:List D} {xs:List V} {us:List Value},zP X.K H ds xs->yS xs us->A.units+qG ds < IE->∀ u∈us,SeqAt.EqAt A s u v (VL X.K H dx u)
 | [],_,_,h,r,_=>by rw [zP.nil_iff] at h; subst h; cases r; intro u b; cases b
 | d :: ds,_,_,h,r,b=>by
  obtain ⟨y,i,rfl,h1,h2⟩:=B_.mp h
  unfold qG at b
  cases r with
  | cons r g =>
   intro f a
   rcases aI.mp a with rfl | hm
   .rw [Bv I r h1]
    exact Pc I d A dx y x _ v h1 e r c (by have:=Nat.le_max_left (dep d) (qG ds); omega)
   .exact jj I e c h2 g (by have:=Nat.le_max_right (dep d) (qG ds); omega) f hm
end
section
variable {X:Cx} {e a b c:Expr} {f g h:FE} {pos p2:Pos} {kk:Nat}
def inS (x z:Str):Bool := !(Ly z x 0 z.length 1).isEmpty
def za2 (K:A6) (neg:Bool):R2:=λx y H Q=>(∃ p ds xs dx,y=.ref p/\(bC K H p xs\/bF K H p xs)/\zP K H ds xs/\ae K H dx x/\qG ds<=100/\Q (.bl (xor neg (ds.any λd=>b6 d dx))) H) ∨
 (∃ i j,x=.str i/\y=.str j/\Q (.bl (xor neg (inS i j))) H)
def FV (A:Room kk X.A):cu X (EV .In) (za2 X.K false):=by
 intro pins s σ H x y v u Q I l n h
 rcases h with ⟨p,ds,xs,dx,rfl,d,k,o,hd,q⟩ | h
 .cases n
  have z:X.A.in1.units+qG ds < IE:=by show X.A.units+1+qG ds < IE; have:=A.un; omega
  simp only [Bool.false_xor] at q
  rcases d with d | d
  .obtain ⟨af,r,m,hz⟩:=I.list d
   refine SeqAt.in_listAt (VL X.K H dx) m.isList (λw hw=>jj I o l k r z w (by simpa using hw)) ⟨.bl _,H,I,rfl,?_⟩
   rw [show af.toArray.any (VL X.K H dx)=af.any (VL X.K H dx) by simp,jP I k r]
   exact q
  .obtain ⟨af,r,m,hz⟩:=I.tuple d
   refine SeqAt.in_tupleAt (VL X.K H dx) m (λw hw=>jj I o l k r z w (by simpa using hw)) ⟨.bl _,H,I,rfl,?_⟩
   rw [show af.toArray.any (VL X.K H dx)=af.any (VL X.K H dx) by simp,jP I k r]
   exact q
 .obtain ⟨i,j,e1,e2,q⟩:=h
  exact Gm pins s σ H x y v u Q I l n ⟨i,j,e1,e2,by simpa [inS] using q⟩
def WR (A:Room kk X.A):cu X (EV .NotIn) (za2 X.K true):=by
 intro pins s σ H x y v u Q I l n h
 rcases h with ⟨p,ds,xs,dx,rfl,d,k,o,hd,q⟩ | h
 .cases n
  have z:X.A.in1.units+qG ds < IE:=by show X.A.units+1+qG ds < IE; have:=A.un; omega
  simp only [Bool.true_xor] at q
  rcases d with d | d
  .obtain ⟨af,r,m,hz⟩:=I.list d
   refine SeqAt.notIn_listAt (VL X.K H dx) m.isList (λw hw=>jj I o l k r z w (by simpa using hw)) ⟨.bl _,H,I,rfl,?_⟩
   rw [show af.toArray.any (VL X.K H dx)=af.any (VL X.K H dx) by simp,jP I k r]
   exact q
  .obtain ⟨af,r,m,hz⟩:=I.tuple d
   refine SeqAt.notIn_tupleAt (VL X.K H dx) m (λw hw=>jj I o l k r z w (by simpa using hw)) ⟨.bl _,H,I,rfl,?_⟩
   rw [show af.toArray.any (VL X.K H dx)=af.any (VL X.K H dx) by simp,jP I k r]
   exact q
 .obtain ⟨i,j,e1,e2,q⟩:=h
  exact WQ pins s σ H x y v u Q I l n ⟨i,j,e1,e2,by simpa [inS] using q⟩
def inD (neg:Bool):D->D->Option D
 | x,.lst ds=>if qG ds<=100 then some (.bl (xor neg (ds.any λd=>b6 d x))) else none
 | x,.tup ds=>if qG ds<=100 then some (.bl (xor neg (ds.any λd=>b6 d x))) else none
 | .str x,.str z=>some (.bl (xor neg (inS x z)))
 | _,_=>none
def Qm  : eN X (za2 X.K neg) (inD neg):=by
 intro σ ρ H₀ aa H Hf x y dx o d Q R n m i k
 unfold inD at i
 split at i
 .split at i
  .cases i
   rename_i hd
   obtain ⟨a,xs,rfl,j,l⟩:=m.lst R
   exact .inl ⟨a,_,xs,dx,rfl,.inl j,l.mono R.sf,n.full R,hd,k _ _ _ R zE zE (Eb.mpr rfl)⟩
  .cases i
 .split at i
  .cases i
   rename_i hd
   obtain ⟨a,xs,rfl,j,l⟩:=m.tup R
   exact .inl ⟨a,_,xs,dx,rfl,.inr j,l.mono R.sf,n.full R,hd,k _ _ _ R zE zE (Eb.mpr rfl)⟩
  .cases i
 .cases i
  exact .inr ⟨_,_,n.str,m.str,k _ _ _ R zE zE (Eb.mpr rfl)⟩
 .cases i
def zd6 (d:Room kk X.A) (k:DR X a f) (j:DR X b g) (i:Ew .In b=false:=by rfl):DE X (.Compare a [.In] [b] pos) (zt (inD false) f g):=J3 (FV d) Qm k j i
def Pq (d:Room kk X.A) (k:DR X a f) (j:DR X b g) (i:Ew .NotIn b=false:=by rfl):DE X (.Compare a [.NotIn] [b] pos) (zt (inD true) f g):=J3 (WR d) Qm k j i
def Tj (d:Room kk X.A) (k:DR X a f) (j:DR X b g) (i:Ew .In b=false:=by rfl):DT X (.Compare a [.In] [b] pos) (aU (zt (inD false) f g)):=x6 (FV d) Qm k j i
def DM (d:Room kk X.A) (k:DR X a f) (j:DR X b g) (i:Ew .NotIn b=false:=by rfl):DT X (.Compare a [.NotIn] [b] pos) (aU (zt (inD true) f g)):=x6 (WR d) Qm k j i
structure GTup (K:A6) (mg:Str->Option Value) (x:Str) (ds:List D):Prop where
 ex:∃ a,mg x=some (.ref a)/\ae K (λ_=>none) (.tup ds) (.ref a)
def jc  : z7 (λ_=>none) H:=λ_ _ e=>by cases e
def HW (hg:Gl X x) (d:GTup X.K X.mg x ds) (hd:(x==("__debug__":Str))=false:=by decide):DE X (.Name x pos) (cF (.tup ds)):=by
 obtain ⟨a,h1,h2⟩:=d.ex
 exact yu (vi (v:=.ref a) hg h1 rfl hd) λσ H Q ⟨H₀,aa,ρ,Hf,d',R,q,k⟩=>by
  cases q
  exact k _ _ _ R zE zE (h2.mono jc)
def G9 {K:A6} {a:Addr} (h1:mg x=some (.ref a)) (h2:K.lookup a=some ⟨.type "tuple",od,.seq af n,fK⟩) (hz:af.size<=sizeLine) (d:yS xs af.toList) (i:zP K (λ_=>none) ds xs):GTup K mg x ds :=
 ⟨a,h1,D_.mpr ⟨a,xs,rfl,.inr ⟨_,af,n,h2,rfl,rfl,hz,d⟩,i⟩⟩
structure GDict (K:A6) (mg:Str->Option Value) (x:Str) (ag:List (Int×D)):Prop where
 ex:∃ (a:Addr) (o:Obj) (es:Array Ia) (ep:Nat) (vs:List (Int×Value)),mg x=some (.ref a)/\K.lookup a=some o/\o.ExactDict/\o.data=.dict es ep/\(∀ P w,KeysOf (Iy P w) es/\Pairs (Iy P w) es.toList vs)/\(vs.map (·.1)).Nodup ∧
  ∀ k d,ag.lookup k=some d->∃ u v,KP vs k=some u/\yO v u/\ae K (λ_=>none) d v
def kJ (ag:List (Int×D)):D->Option D
 | .int k=>ag.lookup k
 | _=>none
set_option tactic.hygienic true in
def Pu (hg:Gl X x) (J:GDict X.K X.mg x ag) (hi:DR X i f) (G:zb2 i:=by intro _ _; rfl) (hd:(x==("__debug__":Str))=false:=by decide):DE X (.Subscript (.Name x p) i pos) (YH (kJ ag) f):=by
 obtain ⟨a,o,es,ep,vs,h1,h2,m,O,l,M,L⟩:=J.ex
 intro pins s σ H Q I h
 obtain ⟨H₀,aa,ρ,Hf,d,R,q,k⟩:=h
 obtain ⟨y,e1,e2⟩:=zQ q
 unfold kJ at e2
 split at e2
 .rename_i n
  obtain ⟨u,v,F,E,C⟩:=L n d e2
  refine Ku PySem.F.slot_dict_getitem.lookup G (thn (vi (v:=.ref a) hg h1 rfl hd pins s σ H (λx H1=>x=.ref a/\H1=H) I ⟨rfl,rfl⟩) λu0 s1 ⟨x,H1,Y,B,ex,S⟩=>?_)
  subst ex S
  cases B
  refine thn (hi pins s1 σ H1 (λy H2=>y=.int n/\∃ aK,Rep X.K H₀ aa σ ρ H2 aK/\z7 H1 H2/\z7 Hf aK) Y ⟨H₀,aa,ρ,Hf,_,R,e1,λv H1 U W s1 z h1=>⟨h1.int,U,W,s1,z⟩⟩) λiv s2 ⟨y,H2,r,A,P,aK,R2,T,w⟩=>?_
  subst P
  obtain ⟨t,rfl⟩:=A
  have j:=r.kIn a o h2
  have Z:s2.heap.DictOf (Iy X.prog X.w) a vs:=⟨o,es,ep,j,m,O,(l _ _).1,(l _ _).2,M⟩
  refine ⟨⟨o,j,m.1⟩,wpAny_getItem_of (knd:=Iy X.prog X.w) (k:=n) (by show E6 n (.int n t)=true; simp [E6]) Z.mapOf F ⟨v,H2,r.tok _,E,?_⟩⟩
  exact k _ _ _ R2 T w (C.mono jc)
 .cases e2
end
def WO:Manifest.owners.lookup (String.ofList ['d','e','s','r','e','v','e','r'].reverse)=some Manifest.sig_reversed:=by kernel_rfl
def xU:PySem.Slot "reversed" "__next__" "reversed.__next__" :=
 .of (owner:="reversed") (n:="__next__") (by rw [typeLookup_type,IL]; kernel_rfl) (by decide +kernel) (by decide +kernel) (by decide +kernel)
  (by first | exact .inl (by decide +kernel) | exact .inr (by decide +kernel)) (by rw [IH]; kernel_rfl)
def qF:entryFor table "reversed.__next__"=some Builtin.«reversed.__next__» := entryFor_of_tree (by kernel_rfl)
def jO (a):argsOk "reversed.__next__" ⟨[a],[]⟩:=by
 unfold argsOk; rw [signature?_of (id:="reversed.__next__") (n:=['_','_','t','x','e','n','_','_']) (o:=['d','e','s','r','e','v','e','r']) (by kernel_rfl) WO]; kernel_rfl
def qX:PySem.Slot "reversed" "__iter__" "reversed.__iter__" :=
 .of (owner:="reversed") (n:="__iter__") (by rw [typeLookup_type,IL]; kernel_rfl) (by decide +kernel) (by decide +kernel) (by decide +kernel)
  (by first | exact .inl (by decide +kernel) | exact .inr (by decide +kernel)) (by rw [IH]; kernel_rfl)
def X6 (a):argsOk "reversed.__iter__" ⟨[a],[]⟩:=by
 unfold argsOk; rw [signature?_of (id:="reversed.__iter__") (n:=['_','_','r','e','t','i','_','_']) (o:=['d','e','s','r','e','v','e','r']) (by kernel_rfl) WO]; kernel_rfl
def YD:entryFor table "reversed.__iter__"=some Builtin.«dict_keyiterator.__iter__» :=
 entryFor_alias (id':="dict_keyiterator.__iter__") (by kernel_rfl) (by first | rfl | decide +kernel | (unfold String.splitOn; simp +decide [String.splitOnAux])) (by decide +kernel) (by kernel_rfl)
def Xn:PySem.Slot "reversed" "__init__" "object.__init__" :=
 .of (owner:="object") (n:="__init__") (by rw [typeLookup_type,IL]; kernel_rfl) (by decide +kernel) (by decide +kernel) (by decide +kernel)
  (by first | exact .inl (by decide +kernel) | exact .inr (by decide +kernel)) (by rw [IH]; kernel_rfl)
def J5:TypeCalled "reversed" "reversed.__new__" "object.__init__" :=
 ⟨by decide +kernel,by decide +kernel,⟨_,_,F.mro_reversed⟩,F.made_reversed,by decide +kernel,by rw [IH]; kernel_rfl,Xn⟩
def jV:typeLookup (.type "tuple") "__reversed__"=pure none:=by rw [typeLookup_type,IL]; kernel_rfl
def Yy:isSubtype (.type "tuple") (.type "dict")=pure false:=by rw [IH]; kernel_rfl
abbrev UR (h:Heap) (r t:Addr) (i:Int):Prop:=h.get? r=some { cls:=.type "reversed",dict:=none,data:=.fields #[.ref t,HR i],slots := #[] }
section
variable {prog:Ej} {w:Ey} {A:Around} {E:Value->Shared->Prop} {s:Shared}
def XH  {i:Nat} {Q:Value->Shared->Prop} (a:UR s.heap r t (i:Int)) (ht:IsTup s.heap t items) (b:items[i]? = some x) (hz:items.size<=sizeLine)
  (d:∀ h',UR h' r t ((i:Int) - 1)->Heap.SameBut r s.heap h'->Q x { s with heap:=h',toks:=s.toks+1 }):A_ (Ec prog w) A (Builtin.«reversed.__next__» ⟨[.ref r],[]⟩) (λfin s'=>∃ v,fin=.done (.ret v)/\Q v s') E s:=by
 have hi:i < items.size:=(Array.getElem?_eq_some_iff.mp b).1
 have g:=ku
 show A_ _ _ (field (.ref r) 0 >>= _) _ _ _
 refine ls (Ee a rfl (x:=.ref t) rfl ?_)
 show A_ _ _ (field (.ref r) 1 >>= _) _ _ _
 refine ls (Ee a rfl (x:=HR (i:Int)) rfl ?_)
 show A_ _ _ (if ((i:Int) < 0) then _ else _) _ _ _
 rw [if_neg (by omega)]
 refine ls (H_ ht.typeIs Em.lookup ?_)
 show A_ _ _ (if (false=true) then _ else _) _ _ _
 rw [if_neg gp]
 show A_ _ _ (mkInt (i:Int) >>= _) _ _ _
 refine ls (wpAny_mkInt ?_)
 refine ls (EL ?_)
 refine getItem_tuple (j:=i) ht (by omega) (by omega) (seqIndex_of (by omega) (by omega)) b ?_
 show A_ _ _ (field (.ref r) 1 >>= _) _ _ _
 refine ls (Ee (s:={ s with toks:=s.toks+1 }) a rfl (x:=HR (i:Int)) rfl ?_)
 refine ls (C_ (s:={ s with toks:=s.toks+1 }) a (by simp) λf c e=>?_)
 exact u0 ⟨_,rfl,d f c e⟩
def WW (hh:A.handled=none) (hr:UR s.heap r t i) (hi:i < 0)
  (hE:∀ h' e,Heap.ExtBut r s.heap h'->(∃ o,h'.get? e=some o/\o.cls=.type "StopIteration")->E (.ref e) { s with heap:=h' }):A_ (Ec prog w) A (Builtin.«reversed.__next__» ⟨[.ref r],[]⟩) Q E s:=by
 show A_ _ _ (field (.ref r) 0 >>= _) _ _ _
 refine ls (Ee hr rfl (x:=.ref t) rfl ?_)
 show A_ _ _ (field (.ref r) 1 >>= _) _ _ _
 refine ls (Ee hr rfl (x:=HR i) rfl ?_)
 show A_ _ _ (if (i < 0) then _ else _) _ _ _
 rw [if_pos hi]
 refine ls (Iv ?_)
 refine ls ?_
 show A_ _ _ (setField (.ref r) 1 (HR (-1)) >>= λ_=>setField (.ref r) 0 .none) _ _ _
 refine ls (C_ hr (by simp) λaJ iP aY=>?_)
 refine C_ iP (by simp) λcT hr₂ dI=>?_
 refine ls ?_
 show A_ _ _ (newExc (.type "StopIteration") [] >>= _) _ _ _
 refine ls ?_
 simp only [newExc,newTuple]
 refine ls (Ep ?_ (by size_fits))
 refine ls (m:=IG _ _) (J_ (a:=EH) (by first | rfl | (simp only [IG]; rfl)) ?_)
 refine Ep ?_ (by size_fits)
 simp only [raiseNew]
 refine ls (wpAny_handled ?_)
 first | rw [show A.in1.handled=none from hh] | rw [hh]
 refine ls (u0 (wpAny_throw ?_))
 exact hE _ _ (λb o hb e=>tz _ (tz _ ((dI.2 b hb).trans ((aY.2 b hb).trans e)))) ⟨_,AC _ rfl,rfl⟩
def GC (t) (b:Array Value) (c:(b.size:Int) < 2 ^ 63):Meets (Builtin.«reversed.__new__» ⟨[.type "reversed",.ref t],[]⟩) (λ_ R s=>IsTup s.heap t b ∧
  R (.ok (.ret (.ref s.heap.objs.size))) { s with heap:=s.heap.push { cls:=.type "reversed",data:=.fields #[.ref t,HR ((b.size:Int) - 1)] },toks:=s.toks+1+1 }) :=
 .of_wp λprog w A R s h=>by
  obtain ⟨ht,h⟩:=h
  unfold Builtin.«reversed.__new__»
  refine ls (J_ (newClass_reversed _) ?_)
  try dsimp only
  refine ls (J_ (a:=()) (by first | rfl | kernel_rfl) ?_)
  refine ls (J_ (a:=()) (by first | rfl | kernel_rfl) ?_)
  try dsimp only
  refine ls (H_ ht.typeIs jV ?_)
  try dsimp only
  refine ls ?_
  show A_ _ _ (isInstance (.ref t) (.type "dict") >>= _) _ _ _
  refine ls (ET ht.typeIs Yy ?_)
  show A_ _ _ (if (false=true) then _ else _) _ _ _
  rw [if_neg gp]
  refine ls (H_ ht.typeIs Em.lookup ?_)
  try dsimp only
  rw [if_pos (by decide)]
  refine u0 ?_
  show A_ _ _ (if (false=true) then _ else _) _ _ _
  rw [if_neg gp]
  refine ls (len_tuple ht c ?_)
  refine ls (J_ (a:=some (b.size:Int)) rfl ?_)
  try dsimp only
  refine ls ?_
  show A_ _ _ (newObj (.type "reversed") (.fields #[.ref t,HR ((b.size:Int) - 1)])) _ _ _
  exact Ep (u0 ⟨_,rfl,h⟩)
def Fe (ht:IsTup s.heap t items) (a:(items.size:Int) < 2 ^ 63)
  (h:Q (.ref s.heap.objs.size) { s with heap:=s.heap.push { cls:=.type "reversed",data:=.fields #[.ref t,HR ((items.size:Int) - 1)] },toks:=s.toks+1+1 }):A_ (Ec prog w) A (call (.type "reversed") [.ref t]) Q E s :=
 callType_new J5 (by decide) (F.typeCall_reversed_1 _) (F.newCall_reversed_1 _) (λobj=>F.args_object_init_2 obj _) F.entry_reversed_new (GC t items a) ⟨ht,⟨_,AC _ rfl,rfl⟩,h⟩
def YT (b:UR s.heap r t i) (h:Q (.ref r) s):A_ (Ec prog w) A (pyIter (.ref r)) Q E s:=by
 have a:s.TypeIs (.ref r) "reversed":=⟨_,b,rfl⟩
 refine Lo a qX (Ed qX a YD ?_ (X6 _))
 show A_ _ _ (ret (.ref r)) _ _ s
 exact u0 ⟨_,rfl,"reversed",_,a,xU.lookup,h⟩
end
def ItB (K:A6) (a:Addr) (n:Nat):It :=
 ⟨λi H=>∃ xs x,bF K H a xs/\xs.length=n/\xs.reverse[i]? = some x,λi H x H'=>H'=H/\∀ xs,bF K H a xs->xs.reverse[i]? = some x,λi H=>∃ xs,bF K H a xs/\xs.length=n/\n<=i⟩
def BU {P:Ej} {w:Ey} {K:A6} {tg:Expr} (a r:Addr) (n:Nat):Turn P w K tg (ItB K a n) [r] r (λi h=>UR h r a ((n:Int) - 1 - i)) where
 mem:=by simp
 obj:=λi h st b d=>by
  have e:b=r:=by simpa using d
  subst e
  exact ⟨_,st,λv z=>by cases z⟩
 keep:=λi h h' st k=>k r (by simp) _ st
 item:=by
  intro X m j q B i pins s σ H E I g st hg
  subst m j q
  obtain ⟨xs,x,l,R,c⟩:=hg
  obtain ⟨af,y,p,hz⟩:=I.tuple l
  have S:=y.length
  have hi:i < xs.length:=by have:=(dw.mp c).1; simpa using this
  have F:xs[xs.length - 1 - i]? = some x:=by rw [List.getElem?_reverse hi] at c; exact c
  obtain ⟨u,M,J⟩:=y.get F
  have fr:=g r (by simp)
  have f:s.TypeIs (.ref r) "reversed":=⟨_,st,rfl⟩
  have U:((n:Int) - 1 - i)=((xs.length - 1 - i:Nat):Int):=by omega
  rw [U] at st
  unfold pyNext
  refine ls (EL (Eg (name:=EG "__next__") f xU (Ed xU f qF
   (XH st p (x:=u) (by simpa using M) (by rw [cD,<- S]; exact hz) λh' C G=>u0 ?_) (jO _))))
  have I1:Inv X pins σ H { s with heap:=h',toks:=s.toks+1 }:=uC (t':=s.toks+1) I G fr
  refine ⟨u,rfl,Dq (s:={ s with heap:=h',toks:=s.toks+1 }) C rfl rfl (by decide) ⟨x,H,I1,J,⟨rfl,λys L=>by rw [I.tuple_inj L l]; exact c⟩,?_,λb d=>(g b d).1⟩⟩
  have e:((n:Int) - 1 - ((i+1:Nat):Int))=((xs.length - 1 - i:Nat):Int) - 1:=by omega
  show UR h' r a ((n:Int) - 1 - ((i+1:Nat):Int))
  rw [e]
  exact C
 done:=by
  intro X m j q B i pins s σ H E I g st hg
  subst m j q
  obtain ⟨xs,l,R,c⟩:=hg
  have fr:=g r (by simp)
  have f:s.TypeIs (.ref r) "reversed":=⟨_,st,rfl⟩
  unfold pyNext
  refine ls (EL (Eg (name:=EG "__next__") f xU (Ed xU f qF
   (WW (show X.A.in1.handled=none from I.ok.hd B) st (by omega) λh' e eb ⟨o,O,eJ⟩=>?_) (jO _))))
  refine ls (ET (T:="StopIteration") (b:=true) ⟨o,O,eJ⟩ Lj ?_)
  obtain ⟨f0,f1,f2,Z,Y,W⟩:=fr
  exact u0 ⟨rfl,I.turned (t':=s.toks) (λb o d e=>eb b o d e) f0 f1 Z Y W⟩
 self:=λA i s Q E st h=>YT st h
section
variable {X:Cx} {e:Expr} {f:FE} {pos:Pos} {tg:Expr}
def Mb (f:FE):FA:=λρ=>(f ρ).bind fun | .tup ds=>some ds.reverse | _=>none
def Kk {K:A6} (j:bF K Hf a xs) (k:zP K Hf ds xs):Walks K Hf (ItB K a xs.length) ds.reverse:=λH2 aK b g i=>by
 refine ⟨λd hd=>?_,λhle=>⟨xs,je g (je b j),rfl,by rw [k.length]; simpa using hle⟩⟩
 obtain ⟨v,l,m⟩:=k.reverse.get hd
 have h:bF K H2 a xs:=je g (je b j)
 refine ⟨⟨xs,v,h,rfl,l⟩,λx n c=>?_⟩
 obtain ⟨rfl,c⟩:=c
 have:=c xs h
 rw [l] at this
 cases this
 exact ⟨aK,Grows.refl g,m.mono b⟩
def Ts (hg:Gl X "reversed") (E:X.mg "reversed"=none) (F:DE X e f) (m:A7 [e] X.env=[(false,eval e X.env)]:=by rfl):DI X tg (.Call (.Name "reversed" p) [e] [] pos) (Mb f):=by
 intro pins s σ H R I h
 obtain ⟨H₀,aa,ρ,Hf,Q,M,q,k⟩:=h
 obtain ⟨d,A,z⟩:=zQ q
 refine Call_ (ZX I hg E boot_reversed (EO (thn ((z8 F xx m) pos pins s σ H (λvs H1=>∃ v c,vs=[v]/\Rep X.K H₀ aa σ ρ H1 c/\z7 H H1/\z7 Hf c/\ae X.K c d v) I ⟨H₀,aa,ρ,Hf,d,M,A,λv H1 c g s1 i h1=>⟨v,c,rfl,g,s1,i,h1⟩⟩) λus s1 ⟨vs,H1,j,y,B⟩=>?_) m rfl))
 obtain ⟨v,c,rfl,g,J,i,h1⟩:=B
 cases y with
 | cons r x =>
  cases x
  cases d <;> try cases z
  obtain ⟨a,xs,rfl,l,C⟩:=D_.mp h1
  cases r
  obtain ⟨af,w,p,hz⟩:=j.tuple (je g.sf l)
  have u:=w.length
  have P:=ku
  refine Fe p (by rw [cD,<- u]; omega) ?_
  have L:((af.toArray.size:Nat):Int) - 1=(xs.length:Int) - 1 - ((0:Nat):Int):=by rw [cD,<- u]; simp
  have n:UR (s1.heap.push { cls:=.type "reversed",data:=.fields #[.ref a,HR (((af.toArray.size:Nat):Int) - 1)] }) s1.heap.objs.size a ((xs.length:Int) - 1 - ((0:Nat):Int)):=by
   rw [<- L]; exact AC _ rfl
  have O:Inv X pins σ H1 { s1 with heap:=s1.heap.push { cls:=.type "reversed",data:=.fields #[.ref a,HR (((af.toArray.size:Nat):Int) - 1)] },toks:=s1.toks+1+1 }:=j.kept λb o e=>tz _ e
  refine YT n ⟨s1.heap.objs.size,[s1.heap.objs.size],_,_,H1,rfl,O,BU a s1.heap.objs.size xs.length,n,λb G=>?_,k _ _ _ g J i (Kk l C)⟩
  have e:b=s1.heap.objs.size:=by simpa using G
  rw [e]; exact Ve j (aM _)
end
section
variable {X:Cx} {e:Expr} {f:FE} {pos:Pos} {tg:Expr}
def xp (A:DE X e f):DI X tg e (yU f):=by
 intro pins s σ H R I h
 obtain ⟨H₀,aa,ρ,Hf,ds,C,q,k⟩:=h
 obtain ⟨d,z,m⟩:=zQ q
 refine thn (A pins s σ H (λv H1=>∃ g,Rep X.K H₀ aa σ ρ H1 g/\z7 H H1/\z7 Hf g/\ae X.K g d v) I ⟨H₀,aa,ρ,Hf,d,C,z,λv H1 g i s1 l h1=>⟨g,i,s1,l,h1⟩⟩) λu s1 ⟨v,H1,c,r,g,i,x,l,h1⟩=>?_
 cases d with
 | lst B =>
  cases m
  obtain ⟨a,xs,rfl,j,n⟩:=En.mp h1
  cases r
  obtain ⟨af,y,p,hz⟩:=c.list (i.sf.seq j)
  refine wpAny_pyIter_list p.isList ?_
  refine ⟨s1.heap.objs.size,[s1.heap.objs.size],_,_,H1,rfl,c.kept (t':=s1.toks) λb o e=>tz _ e,Kn a _,⟨_,AC _ rfl,rfl,rfl⟩,λb w=>?_,k _ _ _ i x l (YJ j n)⟩
  have e:b=s1.heap.objs.size:=by simpa using w
  subst e
  exact c.fpOk (aM _) (c.hok.fresh (aM _))
 | tup B =>
  cases m
  obtain ⟨a,xs,rfl,j,n⟩:=D_.mp h1
  cases r
  obtain ⟨af,y,p,hz⟩:=c.tuple (je i.sf j)
  refine wpAny_pyIter_tuple (show s1.heap.IsTuple a af.toArray from p) ?_
  refine ⟨s1.heap.objs.size,[s1.heap.objs.size],_,_,H1,rfl,c.kept (t':=s1.toks) λb o e=>tz _ e,Jj a _,⟨_,AC _ rfl,rfl,rfl⟩,λb w=>?_,k _ _ _ i x l (Wl j n)⟩
  have e:b=s1.heap.objs.size:=by simpa using w
  subst e
  exact c.fpOk (aM _) (c.hok.fresh (aM _))
 | _=>cases m
end
def kz (k:NameKind):Option NameKind->Bool
 | some a=>a==k
 | none=>false
def Mh (iH scope:Scope) (frees:List Str):Bool :=
 scope.kind==.function&&scope.names.all (λy => !(y.2==.cell))&&scope.names.all (λy => !(y.2==.local)||kz .local (scope.names.lookup y.1)) &&
 scope.names.all (λy => !(y.2==.free)||(kz .cell (iH.names.lookup y.1)||kz .free (iH.names.lookup y.1))) &&
 frees.all (λx=>(kz .cell (iH.names.lookup x)||kz .free (iH.names.lookup x))&&kz .free (scope.names.lookup x))
def vZ (h:kz k o=true):o=some k:=by
 unfold kz at h
 split at h
 .rw [eq_of_beq h]
 .cases h
def CompScope.of (h:Mh iH scope frees=true):CompScope iH scope own frees:=by
 unfold Mh at h
 simp only [cO,bB] at h
 obtain ⟨⟨⟨⟨h1,h2⟩,e⟩,d⟩,c⟩:=h
 refine ⟨eq_of_beq h1,λy a z=>?_,λy a z=>?_,λy a z=>?_,λx b=>?_⟩
 .have:=h2 y a
  rw [z] at this
  simp at this
 .have:=e y a
  rw [z] at this
  simp at this
  exact vZ this
 .have:=d y a
  rw [z] at this
  simp at this
  exact this.imp vZ vZ
 .have:=c x b
  exact ⟨(by simpa using this.1:_\/_).imp vZ vZ,vZ this.2⟩
section
variable {X:Cx} {scope:Scope} {own frees:List Str} {caps:List Nat}
def Rep.lstFrz {K:A6} (R:Rep K H₀ aa σ ρ H Hf) (R':Rep K H₀ aa σ ρ H' ah) (m:H' a=some (.lst xs)) (l:ah a=none) (hh:H a=none):Rep K H₀ aa σ ρ H' (upd ah a (.lst xs)):=by
 have f:z7 ah (upd ah a (.lst xs)):=zG l
 refine ⟨R'.s0,λb u z=>?_,λb u z=>?_,R'.f0.trans f,R'.len,λi d z=>?_,λi sl z o=>?_,R'.inj⟩
 .by_cases c:b=a
  .subst c; rw [zq] at z; cases z; exact m
  .rw [zw c] at z; exact R'.sf b u z
 .by_cases c:b=a
  .subst c; exact .inr (.inl (R.s0.free hh))
  .rw [zw c] at z; exact R'.nf b u z
 .obtain ⟨v,e,p2⟩:=R'.fr i d z
  exact ⟨v,e,p2.mono f⟩
 .obtain ⟨b,e,p2,p,n⟩:=R.ow i sl z o
  obtain ⟨r,g,j,r3,h⟩:=R'.ow i sl z o
  rw [e] at g; cases g
  refine ⟨b,e,j.mono (λu q=>q) f,?_,h⟩
  rw [zw]
  .exact r3
  .rintro rfl
   obtain ⟨o',k⟩:=p2.there o
   rw [k] at hh; cases hh
def qk (i) (z:X.N.Nodup) (v:X.calm=true) (S:CompScope X.env.scope scope own frees) (A:caps.map (λj=>X.N[j]?)=frees.map some) (p:qO γ) (hi:DI X tg iter fi)
  (body:∀ cl C s H fp,DG (ff X scope cl C (own++frees) s H fp) tg γ/\DQ (ff X scope cl C (own++frees) s H fp) ifs ft/\DE (ff X scope cl C (own++frees) s H fp) elt f)
  (c:EW (.ListComp elt [⟨tg,iter,ifs,0⟩] scope pos) (some (.Name y py)) b.line X.env=pure true:=by rfl) (e:X.N[i]? = some y:=by rfl) (r:X.env.scope.names.lookup y=some .local:=by rfl)
  (u:∀ x,Ie iter X.env x=pure x:=by intro _; rfl):DS X (.Assign [.Name y py] (.ListComp elt [⟨tg,iter,ifs,0⟩] scope pos) b) (qu i (xD (jI own.length caps fi γ ft f))) :=
 x8 (Jh v S A p hi body c i z e r u) λD' σ H ⟨H₀,aa,ρ,Hf,o,R,q,k⟩=>by
  obtain ⟨d,e1,e2⟩:=zQ q
  cases e2
  unfold xD at e1
  cases g:jI own.length caps fi γ ft f ρ with
  | none=>rw [g] at e1; cases e1
  | some ds =>
   rw [g] at e1
   cases e1
   refine ⟨H₀,aa,ρ,Hf,ds,R,g,λa xs H1 m B s1 n h1 w l hh=>?_⟩
   have h:z7 m (upd m a (.lst xs)):=zG l
   exact k _ _ _ ((R.lstFrz B w l hh).set i (En.mpr ⟨a,xs,rfl,bC.of zq,h1.mono h⟩)) (n.trans h)
end
inductive GEnt (K:A6):List Ia->List (Int×D)->Prop
 | nil:GEnt K [] []
 | cons {k:Int} {t:Tok} {u:Value} {v:V} {d:D} {es:List Ia} {ag:List (Int×D)}:hashInt k=k->yO v u->ae K (λ_=>none) d v->GEnt K es ag->GEnt K (⟨k,.int k t,u⟩ :: es) ((k,d) :: ag)
def GEnt.vals {K:A6}:∀ {es:List Ia} {ag:List (Int×D)},GEnt K es ag->∃ vs,(∀ P w,(∀ e∈es,∃ k,(Iy P w).is k e.key=true/\e.hash=(Iy P w).hash k)/\Pairs (Iy P w) es vs)/\vs.map (·.1)=ag.map (·.1) ∧
  ∀ k d,ag.lookup k=some d->∃ u v,KP vs k=some u/\yO v u/\ae K (λ_=>none) d v
 | _,_,.nil=>⟨[],λP w=>⟨λe he=>(by cases he),Pairs.nil⟩,rfl,λk d e=>(by simp at e)⟩
 | _,_,@GEnt.cons _ k t u v d es ag o r h g=>by
  obtain ⟨vs,f,p2,n⟩:=g.vals
  have hi:E6 k (.int k t)=true:=by simp [E6]
  refine ⟨(k,u) :: vs,λP w=>⟨λe he=>?_,Pairs.cons hi rfl (f P w).2⟩,(by simp [p2]),λa d' e=>?_⟩
  .rcases aI.mp he with rfl | he
   .exact ⟨k,hi,o.symm⟩
   .exact (f P w).1 e he
  .rw [gM] at e
   by_cases b:a=k
   .subst b
    simp at e
    subst e
    exact ⟨u,v,by simp [KP],r,h⟩
   .have:(a==k)=false:=by simpa using b
    rw [this] at e
    obtain ⟨j,i,c,m,l⟩:=n a d' e
    refine ⟨j,i,?_,m,l⟩
    unfold KP at c ⊢
    rw [AG]
    have:decide (k=a)=false:=by simpa using λz:k=a=>b z.symm
    simp only [this]
    exact c
def Dv {K:A6} (h1:mg x=some (.ref a)) (h2:K.lookup a=some ⟨.type "dict",none,.dict es.toArray ep,#[]⟩) (g:GEnt K es ag) (nd:(ag.map (·.1)).Nodup):GDict K mg x ag:=by
 obtain ⟨vs,b,p2,c⟩:=g.vals
 exact ⟨a,_,es.toArray,ep,vs,h1,h2,⟨rfl,rfl,rfl⟩,rfl,λP w=>⟨λe he=>(b P w).1 e (by simpa using he),(b P w).2⟩,by rw [p2]; exact nd,c⟩
def xK {K:A6} (h2:K.lookup a=some ⟨.type "tuple",od,.seq af n,fK⟩) (hz:af.size<=sizeLine) (b:yS xs af.toList) (c:zP K (λ_=>none) ds xs):ae K (λ_=>none) (.tup ds) (.ref a) :=
 D_.mpr ⟨a,xs,rfl,.inr ⟨_,af,n,h2,rfl,rfl,hz,b⟩,c⟩
section
variable {ρ:bj} {i j k:Nat} {f g h:FE} {fa ga:FA} {ft gt ht:FT} {F G B:FS} {γ:FG} {δ:nQ} {d x y:D} {ds:List D}
@[simp] theorem yh:vF i ρ=(match ρ[i]? with | some (.fr d)=>some d | _=>none):=rfl
@[simp] theorem Ca:vR i ρ=(match ρ[i]? with | some (.fr d)=>some d | some (.ol ds)=>some (.lst ds) | _=>none):=rfl
@[simp] theorem xR:cF d ρ=some d:=rfl
@[simp] theorem ZC  : YH φ f ρ=(f ρ).bind φ:=rfl
@[simp] theorem zx  : zt φ f g ρ=(f ρ).bind λx=>(g ρ).bind λy=>φ x y:=rfl
@[simp] theorem zr:yb ρ=some []:=rfl
@[simp] theorem zj:zf f ga ρ=(f ρ).bind λx=>(ga ρ).bind λxs=>some (x :: xs):=rfl
@[simp] theorem ux:tupF ga ρ=(ga ρ).bind λxs=>if xs.length<=sizeLine then some (.tup xs) else none:=rfl
@[simp] theorem wq:BI ga ρ=(ga ρ).bind λxs=>if xs.length<=sizeLine then some xs else none:=rfl
@[simp] theorem zM:xD fa ρ=(fa ρ).map D.lst:=rfl
@[simp] theorem xb:aU f ρ=(f ρ).bind fun | .bl b=>some b | _=>none:=rfl
@[simp] theorem Ry:BM ft gt ρ=(ft ρ).bind λb=>if b=true then gt ρ else some false:=rfl
@[simp] theorem Jv:orT ft gt ρ=(ft ρ).bind λb=>if b=true then some true else gt ρ:=rfl
@[simp] theorem Qc:CQ ft ρ=(ft ρ).bind λb=>some (!b):=rfl
@[simp] theorem Rp:eQ ρ=some true:=rfl
@[simp] theorem Fv:zbz f g ρ=(f ρ).bind fun | .bl b=>(if b=true then g ρ else some (.bl false)) | _=>none:=rfl
@[simp] theorem Rt:orV f g ρ=(f ρ).bind fun | .bl b=>(if b=true then some (.bl true) else g ρ) | _=>none:=rfl
@[simp] theorem zca:zcp f ρ=(f ρ).bind fun | .bl b=>some (.bl (!b)) | _=>none:=rfl
@[simp] theorem zdj:ifF ft f g ρ=(ft ρ).bind λb=>if b=true then f ρ else g ρ:=rfl
@[simp] theorem zD  : yo φ fa ρ=(fa ρ).bind φ:=rfl
@[simp] theorem zy:ud F G ρ=(F ρ).bind λo=>match o with | .nx aD=>G aD | o=>some o:=rfl
@[simp] theorem uB:eF ρ=some (.nx ρ):=rfl
@[simp] theorem yc:Yv f ρ=(f ρ).bind λd=>some (.rt d):=rfl
@[simp] theorem y6:dh ft F G ρ=(ft ρ).bind λb=>if b=true then F ρ else G ρ:=rfl
@[simp] theorem yH:qu i f ρ=(f ρ).bind λd=>some (.nx (ρ.set i (.fr d))):=rfl
@[simp] theorem uy:Kf i fa ρ=(fa ρ).bind λds=>some (.nx (ρ.set i (.ol ds))):=rfl
@[simp] theorem WB:PZ i F ρ=(frz i ρ).bind F:=rfl
@[simp] theorem KU:frz i ρ=(match ρ[i]? with | some (.ol ds)=>some (ρ.set i (.fr (.lst ds))) | some (.fr _)=>some ρ | _=>none):=rfl
@[simp] theorem yL:zS i d ρ=some (ρ.set i (.fr d)):=rfl
@[simp] theorem qD:ZO [] ρ=some ρ:=rfl
@[simp] theorem vJ  : yB γ δ (d :: r) ρ=(γ d ρ).bind λaD=>δ r aD:=rfl
@[simp] theorem qB:kH k δ (.tup ds) ρ=if ds.length=k then δ ds ρ else none:=rfl
@[simp] theorem zb8:zdn i j fa ρ=(fa ρ).bind λl=>match l with | [d,d']=>some (.nx ((ρ.set i (.fr d)).set j (.fr d'))) | _=>none:=rfl
@[simp] theorem wH:vQ i f ρ=(f ρ).bind λd=>match ρ[i]? with | some (.ol ds)=>if ds.length < sizeLine then some (.nx (ρ.set i (.ol (ds++[d])))) else none | _=>none:=rfl
@[simp] theorem xY:Vf fa γ B ρ=(fa ρ).bind λds=>z9 γ B ds ρ:=rfl
@[simp] theorem Qd:QC f ρ=(yU f ρ).bind λds=>some (um ds):=rfl
@[simp] theorem kP:W7 f g ρ=(yU f ρ).bind λxs=>(yU g ρ).bind λys=>some (Yu xs ys):=rfl
@[simp] theorem Cc:Mb f ρ=(f ρ).bind fun | .tup ds=>some ds.reverse | _=>none:=rfl
@[simp] theorem zF:yU f ρ=(f ρ).bind Ky:=rfl
@[simp] theorem xh:Ky (.lst ds)=some ds:=rfl
@[simp] theorem KM:Ky (.tup ds)=some ds:=rfl
@[simp] theorem zas:noP ρ=some none:=rfl
@[simp] theorem MN:exP f ρ=(f ρ).bind fun | .int i=>some (some i) | _=>none:=rfl
@[simp] theorem Qb  : U7 f l u ρ=(f ρ).bind λx=>(l ρ).bind λlo=>(u ρ).bind λhi=>match x with | .tup ds=>some (.tup (Yw ds lo hi)) | .lst ds=>some (.lst (Yw ds lo hi)) | _=>none:=rfl
@[simp] theorem KR:NI fa ρ=(fa ρ).bind λl=>match l with | [.lst ds]=>some ds | [.tup ds]=>some ds | _=>none:=rfl
@[simp] theorem xj    : jI n caps fi γ ft f ρ=(fi ρ).bind λds=>if ds.length<=sizeLine then yN γ ft f ds (qz n caps ρ) else none:=rfl
@[simp] theorem xA   : qz n caps ρ=aF n .no++caps.map (TL ρ):=rfl
@[simp] theorem vV:TL ρ j=(match ρ[j]? with | some (.fr d)=>.fr d | _=>.no):=rfl
@[simp] theorem qC:MR fa ρ=(fa ρ).bind vG:=rfl
def xC {j:Int} (h1 : -1000000<=j) (h2:j<=1000000):vG [.int j]=some (y7 0 j):=by
 show @ite _ (-(2 ^ 62)<=j/\j < 2 ^ 62) (E7 _) (some (y7 0 j)) none=_
 rw [if_pos (by omega)]
@[simp] theorem z5:yx k F ds=V8 (F (qW k ds)):=rfl
@[simp] theorem yq:V8 (some (.rt d))=some d:=rfl
@[simp] theorem zb9:V8 (some (.nx ρ))=some .non:=rfl
@[simp] theorem zB:qW k ds=ds.map Slot.fr++aF (k - ds.length) Slot.no:=rfl
variable {a b:Int}
@[simp] theorem Rq:BY (.int a) (.int b)=some (.int (a - b)):=rfl
@[simp] theorem WD:X9 (.int a) (.int b)=some (.int (a+b)):=rfl
@[simp] theorem zcc:tu (.int a) (.int b)=some (.bl (decide (a < b))):=rfl
@[simp] theorem zdg:leD (.int a) (.int b)=some (.bl (decide (a<=b))):=rfl
@[simp] theorem ML:lh (.int a) (.int b)=some (.bl (decide (b < a))):=rfl
@[simp] theorem zec:AD (.int a) (.int b)=some (.bl (decide (b<=a))):=rfl
@[simp] theorem Ru:T6 (.int a)=some (.int (-a)):=rfl
@[simp] theorem WC:bY (.int a) (.int b)=some (.bl (decide (a=b))):=XX
@[simp] theorem zat:c_ (.int a) (.int b)=some (.bl (!decide (a=b))):=j9
@[simp] theorem zdh:m7 c .non .non=some (.bl (!c)):=rfl
@[simp] theorem zau:NF [.int a,.int b]=some (.int (if b < a then b else a)):=rfl
@[simp] theorem Rw:F6 [.int a,.int b]=some (.int (if b > a then b else a)):=rfl
@[simp] theorem zdi:PX [.int a]=some (.int a):=rfl
@[simp] theorem Rx {b:Bool}:PX [.bl b]=some (.int (if b then 1 else 0)):=rfl
@[simp] theorem YN:kX [.lst ds]=some (.int ds.length):=rfl
@[simp] theorem zcd:kX [.tup ds]=some (.int ds.length):=rfl
@[simp] theorem ME:xO [.lst ds]=some (.tup ds):=rfl
@[simp] theorem zdf:xO [.tup ds]=some (.tup ds):=rfl
@[simp] theorem Fu  : T9 T d=some (.bl (VR (lE d) T)):=rfl
end
def Zb (h:fi ρ=some ds) (hz:ds.length<=sizeLine):jI n caps fi γ ft f ρ=yN γ ft f ds (qz n caps ρ):=by
 rw [xj,h,ai,if_pos hz]
theorem Fb   {φ:Nat->D}:∀ ds n s,(∀ k d,ds[k]? = some d->f (.fr d :: C)=some (φ (n+k)))->yN (zS 0) eQ f ds (s :: C)=some ((aw ds.length).map λk=>φ (n+k))
 | [],_,_,_=>rfl
 | d :: ds,n,s,h=>by
  have b:=h 0 d rfl
  have a:=Fb (f:=f) (C:=C) (φ:=φ) ds (n+1) (.fr d) (λk d' e=>by rw [h (k+1) d' (by simpa using e)]; congr 2; omega)
  unfold yN
  simp only [yL,aT,ai,Rp,if_true,b,a,Nat.add_zero]
  rw [ao,oO,au,bM]
  congr 3
  funext k
  simp only [Ez]
  congr 1
  omega
theorem Pz   {φ:Nat->D}:∀ ds n s s',(∀ k d,ds[k]? = some d->∃ x y,d=.tup [x,y]/\f (.fr x :: .fr y :: C)=some (φ (n+k))) →
  yN (kH 2 (yB (zS 0) (yB (zS 1) ZO))) eQ f ds (s :: s' :: C)=some ((aw ds.length).map λk=>φ (n+k))
 | [],_,_,_,_=>rfl
 | d :: ds,n,s,s',h=>by
  obtain ⟨x,y,rfl,g⟩:=h 0 d rfl
  have c:=Pz (f:=f) (C:=C) (φ:=φ) ds (n+1) (.fr x) (.fr y) (λk d' e=>by
   obtain ⟨b,a,e1,e2⟩:=h (k+1) d' (by simpa using e)
   exact ⟨b,a,e1,by rw [e2]; congr 2; omega⟩)
  unfold yN
  simp only [qB,vJ,yL,qD,ao,aE,if_true,aT,aV,ai,Rp,g,c,Nat.add_zero]
  rw [oO,au,bM]
  congr 3
  funext k
  simp only [Ez]
  congr 1
  omega
section
variable {X:Cx}
theorem zP.rep {K:A6} (h:zP K H ds xs):∀ k,zP K H (aF k ds).flatten (aF k xs).flatten
 | 0=>.nil
 | k+1=>by
  rw [nF,nF,oK,oK]
  exact h.append (zP.rep h k)
end
theorem Vz:∀ {bs:List Bool} {us:List Value},yS (bs.map V.bl) us->LSm.BoolsAre us bs
 | [],_,r=>by cases r; exact .nil
 | b :: bs,_,r=>by
  rw [au] at r
  cases r with
  | cons c a=>cases c; exact .cons b (Vz a)
theorem QE:∀ {ns:List Int} {us:List Value},yS (ns.map V.int) us->IntsAre us ns
 | [],_,r=>by cases r; exact .nil
 | n :: ns,_,r=>by
  rw [au] at r
  cases r with
  | cons b a=>obtain ⟨t,rfl⟩:=b; exact .cons n t (QE a)
variable {X:Cx}
def Ff (m:X.calm=true):wU X (.builtin "all") (λxs H Q=>∃ (p:Addr) (bs:List Bool),xs=[.ref p]/\bC X.K H p (bs.map V.bl)/\Q (.bl (bs.all id)) H):=by
 intro pins s σ H xs us Q I r h
 obtain ⟨p,bs,rfl,k,q⟩:=h
 obtain ⟨u,rfl,f⟩:=kF r
 cases f
 obtain ⟨af,g,j,hz⟩:=I.list k
 have c:=Vz g
 have a:=j.isList
 have o:p < s.heap.objs.size:=by obtain ⟨_,e,_⟩:=a; exact A9 e
 refine call_all_walk (wpAny_pyIter_list a ?_)
 refine ⟨s.heap.objs.size,[s.heap.objs.size,p],[s.heap.objs.size],af.toArray.size,_,_,λi=>(bs[i]?).getD true,rfl,PySem.Walks.list (A:=X.A.in1) (I.ok.hd m) _ p (cR o) af.toArray,
  ⟨⟨_,AC _ rfl,rfl,rfl⟩,a.push _⟩,λi v s' w x n d=>?_,λh' tk l=>?_⟩
 .obtain ⟨b,e,rfl⟩:=c.get i v (by simpa using n)
  simp only [e,mF] at d
  exact EB d
 .have e:((aw af.toArray.size).all λi=>(bs[i]?).getD true)=bs.all id:=by
   rw [cD,c.length]; exact LSm.range_all bs
  rw [e]
  exact ⟨.bl (bs.all id),H,I.kept (LSm.kept_iter l),rfl,q⟩
def vx:List D->Option (List Bool)
 | []=>some []
 | .bl b :: ds=>(vx ds).map (b :: ·)
 | _ :: _=>none
def qE:List D->Option (List Int)
 | []=>some []
 | .int b :: ds=>(qE ds).map (b :: ·)
 | _ :: _=>none
theorem zP.bools {K:A6}:∀ {ds:List D} {xs:List V} {bs:List Bool},zP K H ds xs->vx ds=some bs->xs=bs.map V.bl
 | [],[],bs,h,e=>by cases e; rfl
 | [],_ :: _,bs,h,e=>by have:=h.length; cases this
 | _ :: _,[],bs,h,e=>by have:=h.length; cases this
 | .bl b :: ds,x :: xs,bs,h,e=>by
  unfold vx at e
  cases a:vx ds with
  | none=>rw [a] at e; cases e
  | some cs =>
   rw [a] at e
   cases e
   obtain ⟨_,_,c,h1,h2⟩:=B_.mp h
   cases c
   rw [Eb.mp h1,zP.bools h2 a]
   rfl
 | .non :: _,_ :: _,_,_,e=>by cases e
 | .int _ :: _,_ :: _,_,_,e=>by cases e
 | .str _ :: _,_ :: _,_,_,e=>by cases e
 | .tup _ :: _,_ :: _,_,_,e=>by cases e
 | .lst _ :: _,_ :: _,_,_,e=>by cases e
theorem zP.intsV {K:A6}:∀ {ds:List D} {xs:List V} {bs:List Int},zP K H ds xs->qE ds=some bs->xs=bs.map V.int
 | [],[],bs,h,e=>by cases e; rfl
 | [],_ :: _,bs,h,e=>by have:=h.length; cases this
 | _ :: _,[],bs,h,e=>by have:=h.length; cases this
 | .int b :: ds,x :: xs,bs,h,e=>by
  unfold qE at e
  cases a:qE ds with
  | none=>rw [a] at e; cases e
  | some cs =>
   rw [a] at e
   cases e
   obtain ⟨_,_,c,h1,h2⟩:=B_.mp h
   cases c
   rw [u9.mp h1,zP.intsV h2 a]
   rfl
 | .non :: _,_ :: _,_,_,e=>by cases e
 | .bl _ :: _,_ :: _,_,_,e=>by cases e
 | .str _ :: _,_ :: _,_,_,e=>by cases e
 | .tup _ :: _,_ :: _,_,_,e=>by cases e
 | .lst _ :: _,_ :: _,_,_,e=>by cases e
def zb0:List D->Option D
 | [.lst ds]=>(vx ds).map λbs=>.bl (bs.all id)
 | _=>none
def N8:mL X (λxs H Q=>∃ (p:Addr) (bs:List Bool),xs=[.ref p]/\bC X.K H p (bs.map V.bl)/\Q (.bl (bs.all id)) H) zb0:=by
 intro σ ρ H₀ aa H Hf xs ds d Q R c b k
 unfold zb0 at b
 split at b
 .obtain ⟨bs,e1,rfl⟩:=iu.mp b
  obtain ⟨v,rfl,e⟩:=c.one
  obtain ⟨a,ys,rfl,q,l⟩:=e.lst R
  have:=l.bools e1
  subst this
  exact ⟨a,bs,rfl,q,k _ _ _ R zE zE (Eb.mpr rfl)⟩
 .cases b
theorem Yi:∀ bs,vx (bs.map D.bl)=some bs
 | []=>rfl
 | b :: bs=>by rw [au,vx,Yi bs]; rfl
theorem kc:∀ bs,qE (bs.map D.int)=some bs
 | []=>rfl
 | b :: bs=>by rw [au,qE,kc bs]; rfl
@[simp] theorem zdk (bs:List Bool):zb0 [.lst (bs.map D.bl)]=some (.bl (bs.all id)):=by show (vx (bs.map D.bl)).map _=_; rw [Yi]; rfl
section
variable {prog:Ej} {w:Ey} {A:Around} {E:Value->Shared->Prop} {s:Shared}
end
variable {X:Cx} {e:Expr} {f:FE} {pos:Pos}
section
variable {X:Cx} {pins:List (Addr×Obj)} {σ:St} {H:Hp} {s:Shared}
end
section
variable {X:Cx} {o e:Expr} {f g:FE} {kk:Nat}
end
section
variable {X:Cx} {tg:Expr}
end
section
variable {X:Cx} {a b c dd:Expr} {f g h i4:FE} {pos p2:Pos}
end
section
variable {X:Cx} {e:Expr} {f:FE} {pos:Pos}
def zac (i:Nat) (op:Int->Int->Int) (f:FE):FS:=λρ=>(f ρ).bind λy=>match ρ[i]?,y with
 | some (.fr (.int m)),.int k=>some (.nx (ρ.set i (.fr (.int (op m k)))))
 | _,_=>none
set_option tactic.hygienic true in
def Pm (i) (j:X.N.Nodup) (d:PIp X op (ipI φ)) (h:DE X e f) (hi:X.N[i]? = some x:=by rfl) (c:Loc X.env.scope x:=by first | exact E9 rfl | exact EI rfl)
  (g:X.fn x=true\/X.env.scope.names.lookup x=some .local:=by first | exact .inl rfl | exact .inr rfl | assumption):DS X (.AugAssign (.Name x pos') op e pos) (zac i φ f) :=
 x8 (FH j hi c h d g) λD' σ H ⟨H₀,aa,ρ,Hf,o,R,q,k⟩=>by
  obtain ⟨y,e1,e2⟩:=zQ q
  split at e2
  .cases e2
   rename_i m kk l
   obtain ⟨v,b,p2⟩:=R.fr i _ l
   have pv:=u9.mp p2
   subst pv
   refine ⟨.int m,b,H₀,aa,ρ,Hf,.int kk,R,e1,λv H1 p n s1 a h1=>?_⟩
   exact ⟨m,kk,rfl,u9.mp h1,k _ _ _ (n.set i (u9.mpr rfl)) a⟩
  .cases e2
@[simp] theorem zcg {i:Nat} {op:Int->Int->Int} {ρ:bj}:zac i op f ρ=(f ρ).bind λy=>match ρ[i]?,y with
 | some (.fr (.int m)),.int k=>some (.nx (ρ.set i (.fr (.int (op m k)))))
 | _,_=>none:=rfl
end
section
variable {X:Cx} {e:Expr} {f:FE}
end
section
variable {prog:Ej} {w:Ey} {A:Around} {E:Value->Shared->Prop} {s:Shared}
end
section
variable {P:Ej} {w:Ey} {K:A6} {J1 J2:It} {eA eL:List Addr} {i1 i2 z TI TO:Addr} {j_ ij:Nat->Heap->Prop}
end
section
variable {prog:Ej} {w:Ey} {A:Around} {E:Value->Shared->Prop} {s:Shared}
end
section
variable {X:Cx} {e1 e2:Expr} {f1 f2:FE} {pos:Pos} {elts:List Expr} {kx:Nat} {tp:Pos}
end
theorem perm_eq:∀ {a b:List Int},a.Perm b->a.Pairwise (· <= ·)->b.Pairwise (· <= ·)->a=b
 | [],b,h,_,_=>(List.nil_perm.mp h).symm
 | x :: a,[],h,_,_=>by have:=h.length_eq; simp at this
 | x :: a,y :: b,h,d,c=>by
  rw [AI] at d c
  have e:x=y:=by
   have h1:x∈y :: b:=h.subset aN
   have h2:y∈x :: a:=h.symm.subset aN
   rcases aI.mp h1 with h1 | h1
   .exact h1
   .rcases aI.mp h2 with h2 | h2
    .exact h2.symm
    .have:=c.1 x h1
     have:=d.1 y h2
     omega
  subst e
  rw [perm_eq h.cons_inv d.2 c.2]
def PY (x:Int):List Int->List Int
 | []=>[x]
 | y :: l=>if x<=y then x :: y :: l else y :: PY x l
def sortI:List Int->List Int
 | []=>[]
 | x :: l=>PY x (sortI l)
theorem Z2 (x):∀ l,(PY x l).Perm (x :: l)
 | []=>.refl _
 | y :: l=>by
  unfold PY
  split
  .exact .refl _
  .exact ((Z2 x l).cons y).trans (.swap x y l)
theorem sortI_perm:∀ l,(sortI l).Perm l
 | []=>.refl _
 | x :: l=>(Z2 x (sortI l)).trans ((sortI_perm l).cons x)
theorem Z1 (x):∀ {l:List Int},l.Pairwise (· <= ·)->(PY x l).Pairwise (· <= ·)
 | [],_=>List.pairwise_singleton _ _
 | y :: l,h=>by
  have h':=AI.mp h
  unfold PY
  split
  .rename_i c
   refine AI.mpr ⟨λz hz=>?_,h⟩
   rcases aI.mp hz with rfl | hz
   .exact c
   .exact Int.le_trans c (h'.1 z hz)
  .rename_i c
   refine AI.mpr ⟨λz hz=>?_,Z1 x h'.2⟩
   rcases aI.mp ((Z2 x l).subset hz) with rfl | hz
   .omega
   .exact h'.1 z hz
theorem sortI_sorted:∀ l,(sortI l).Pairwise (· <= ·)
 | []=>.nil
 | x :: l=>Z1 x (sortI_sorted l)
def B1 (h:a.Perm b) (c:a.Pairwise (· <= ·)):sortI b=a:=perm_eq ((sortI_perm b).trans h.symm) (sortI_sorted b) c
section
variable {X:Cx} {e:Expr} {pos:Pos}
def cx (h:IntsAre us ns):yS (ns.map V.int) us:=by
 induction h with
 | nil=>exact .nil
 | cons _ _ _ a=>exact .cons ⟨_,rfl⟩ a
def UK:wU X (.builtin "sorted") (λxs H Q=>∃ (p:Addr) (ns:List Int),xs=[.ref p]/\bC X.K H p (ns.map V.int)/\ns.length < 64/\∀ l,H l=none->Q (.ref l) (upd H l (.lst ((sortI ns).map V.int)))):=by
 intro pins s σ H xs us Q I r h
 obtain ⟨p,ns,rfl,k,n,q⟩:=h
 obtain ⟨u,rfl,i⟩:=kF r
 cases i
 obtain ⟨af,d,j,hz⟩:=I.list k
 have hi:=QE d
 have c:=d.length
 rw [az] at c hz
 refine sorted_ints (vs:=af) j.isList hi (by omega) λout a a1 a2 a3=>?_
 obtain ⟨e,he⟩:=sortedAll_at s.heap af out
 have es:sortI ns=a:=B1 a2 a3
 have m:H (s.heap.objs.size+1)=none:=I.hok.fresh (nA _)
 have g:=q _ m
 rw [es] at g
 exact ⟨.ref (s.heap.objs.size+1),_,I.laid (t':=s.toks) (λb o x=>sortedAll_old x) (nA _) (show xH X.prog X.w _ (sortedAll s.heap af out) _ (.lst (a.map V.int)) from ⟨by rw [az,a2.length_eq]; exact hz,out.toList,e,cx a1,by simpa using he⟩),rfl,g⟩
def My (fa:FA):FA:=λρ=>(fa ρ).bind λl=>match l with
 | [.lst ds]=>(qE ds).bind λns=>if ns.length < 64 then some ((sortI ns).map D.int) else none
 | _=>none
@[simp] theorem MG {fa:FA} {ρ:bj}:My fa ρ=(fa ρ).bind λl=>match l with
 | [.lst ds]=>(qE ds).bind λns=>if ns.length < 64 then some ((sortI ns).map D.int) else none
 | _=>none:=rfl
theorem Vb {K:A6}:∀ ns:List Int,zP K H (ns.map D.int) (ns.map V.int)
 | []=>.nil
 | n :: ns=>.cons (u9.mpr rfl) (Vb ns)
def UL:EM "sorted"=some (.builtin "sorted"):=by kernel_rfl
def Vl (hg:Gl X "sorted") (m:X.mg "sorted"=none) (o:i_ X (e :: es) fa)
  (n:A7 (e :: es) X.env=(false,eval e X.env) :: A7 es X.env:=by rfl) (u:(EU pos (A7 es X.env)).any (·.1)=false:=by rfl):DN X (.Call (.Name "sorted" p) (e :: es) [] pos) (My fa) :=
 yu (qc (id:="sorted") UK hg m UL o (by decide) (by decide) n u) λσ H Q ⟨H₀,aa,ρ,Hf,d,R,q,k⟩=>by
  obtain ⟨l,e1,e2⟩:=ym q
  refine ⟨H₀,aa,ρ,Hf,l,R,e1,λvs H1 w g s1 h h1=>?_⟩
  split at e2
  .rename_i ds
   obtain ⟨ns,s,c⟩:=fy.mp e2
   split at c
   .rename_i j
    cases c
    obtain ⟨v,rfl,i⟩:=jS.one h1
    obtain ⟨a,ys,rfl,q,l⟩:=i.lst g
    have r:=zP.intsV l s
    subst r
    exact ⟨a,ns,rfl,q,j,λp b=>k _ _ _ _ (g.layN b) (s1.trans (zG b)) h (Vb _) zq (g.sf.free b) (s1.free b)⟩
   .cases c
  .cases e2
end
section
variable {X:Cx}
end
section
variable {prog:Ej} {w:Ey} {A:Around} {E:Value->Shared->Prop} {s:Shared}
end
section
variable {X:Cx} {e st:Expr} {f fs:FE} {pos p2:Pos}
end
section
variable {O:KeyOrd} {n:Nat} {key:Nat->O.α}
open KeyOrd
end
open PySem.AutoSeq1 (wpAny_loadPart')
open PySem.MeetsSeq PySem.MeetsSeq2 PySem.MeetsSeq3
section
variable {prog:Ej} {w:Ey} {A:Around} {E:Value->Shared->Prop} {s:Shared}
end
section
variable {X:Cx} {pins:List (Addr×Obj)} {σ:St} {H:Hp} {s:Shared} {A:Around}
end
section
variable {X:Cx} {pins:List (Addr×Obj)} {σ:St} {H:Hp} {s:Shared}
end
section
variable {X:Cx} {e:Expr} {pos:Pos} {kk:Nat}
end
section
variable {α:Type} {P:List α->Prop}
def zd9 (k:P []):∀ us,us.length=0->P us
 | [],_=>k
def UN (k:∀ a,P [a]):∀ us,us.length=1->P us
 | a :: us,h=>zd9 (P:=λus=>P (a :: us)) (k a) us (Nat.succ.inj h)
def Zd (k:∀ a b,P [a,b]):∀ us,us.length=2->P us
 | a :: us,h=>UN (P:=λus=>P (a :: us)) (k a) us (Nat.succ.inj h)
def BA (k:∀ a b c,P [a,b,c]):∀ us,us.length=3->P us
 | a :: us,h=>Zd (P:=λus=>P (a :: us)) (k a) us (Nat.succ.inj h)
end
def SS:D->Option Key
 | .int i=>some (.inl i)
 | .str x=>some (.inr x)
 | _=>none
def YX:List D->Option (List Key)
 | []=>some []
 | d :: ds=>(SS d).bind λk=>(YX ds).bind λks=>some (k :: ks)
def SU:Key->D
 | .inl i=>.int i
 | .inr x=>.str x
theorem ZY:∀ {ds:List D} {ks:List Key},YX ds=some ks->ds=ks.map SU
 | [],ks,h=>by cases h; rfl
 | d :: ds,ks,h=>by
  unfold YX at h
  obtain ⟨k,h1,h⟩:=fy.mp h
  obtain ⟨r,h2,h⟩:=fy.mp h
  cases h
  rw [ZY h2,au]
  congr 1
  unfold SS at h1
  split at h1 <;> cases h1 <;> rfl
theorem Va {K:A6}:∀ {ks:List Key} {xs:List V},zP K H (ks.map SU) xs->xs=ks.map kV
 | [],xs,h=>zP.nil_iff.mp h
 | k :: ks,xs,h=>by
  obtain ⟨x,r,rfl,h1,h2⟩:=B_.mp h
  rw [Va h2,au]
  congr 1
  cases k with
  | inl i=>exact u9.mp h1
  | inr z=>exact Ei.mp h1
theorem W4 {K:A6}:∀ (ks:List Key),zP K H (ks.map SU) (ks.map kV)
 | []=>.nil
 | k :: ks=>.cons (by cases k with
  | inl i=>exact u9.mpr rfl
  | inr z=>exact Ei.mpr rfl) (W4 ks)
def BH {κ:Type} [DecidableEq κ] (ag:List (κ×D)) (k:κ) (v:D):List (κ×D) :=
 if (ag.any λa=>decide (a.1=k))=true then ag.map (λa=>if a.1=k then (a.1,v) else a) else ag++[(k,v)]
def fg.any {K:A6} [DecidableEq κ] (r:fg K H ag ws) (k:κ):(ag.any λa=>decide (a.1=k))=ws.any λa=>decide (a.1=k):=by
 induction r with
 | nil=>rfl
 | cons h t b=>rw [oF,oF,b,h.1]
def fg.putAll {K:A6} [DecidableEq κ] (r:fg K H ag ws) (k:κ) (c:ae K H d v) :
  fg K H (ag.map (λa=>if a.1=k then (a.1,d) else a)) (ws.map (λa=>if a.1=k then (a.1,v) else a)):=by
 induction r with
 | nil=>exact .nil
 | @cons p q ps g h t b =>
  rw [au,au]
  refine .cons ?_ b
  by_cases e:p.1=k
  .rw [if_pos e,if_pos (h.1.symm.trans e)]; exact ⟨h.1,c⟩
  .rw [if_neg e,if_neg (λz=>e (h.1.trans z))]; exact h
def fg.snoc {K:A6} {ws:List (κ×V)} (r:fg K H ag ws) {k:κ} (b:ae K H d v):fg K H (ag++[(k,d)]) (ws++[(k,v)]):=by
 induction r with
 | nil=>exact .cons ⟨rfl,b⟩ .nil
 | cons h t a=>exact .cons h a
def fg.put {K:A6} [DecidableEq κ] (r:fg K H ag ws) (k:κ) (a:ae K H d v):fg K H (BH ag k d) (Jx ws k v):=by
 unfold BH Jx
 rw [r.any k]
 split
 .exact r.putAll k a
 .exact r.snoc a
def fg.length {K:A6} {ws:List (κ×V)} (r:fg K H ag ws):ag.length=ws.length:=Lx r
section
variable {X:Cx} {pos:Pos} {kk:Nat}
def Tq (i:Nat):FS:=λρ=>some (.nx (ρ.set i (.oT [])))
def Pk (i) (n:X.N.Nodup) (hi:X.N[i]? = some x:=by rfl) (h:Loc X.env.scope x:=by first | exact E9 rfl | exact EI rfl) (l:EW (.Dict [] [] dpos) (some (.Name x pos')) pos.line X.env=pure false:=by rfl)
  (m:X.fn x=true\/X.env.scope.names.lookup x=some .local:=by first | exact .inl rfl | exact .inr rfl | assumption):DS X (.Assign [.Name x pos'] (.Dict [] [] dpos) pos) (Tq i) :=
 x8 (ZH n hi h (Cz (pos:=dpos)) l m) λD' σ H ⟨H₀,aa,ρ,Hf,o,R,q,k⟩=>by
  cases q
  intro p a
  refine k _ _ _ ((R.layN a).setOwn i rfl ⟨[],zq,.nil⟩ (R.sf.free a) (R.s0.free a) ?_) zE
  intro j sl z o c
  obtain ⟨b,g,p2,_⟩:=R.ow j sl z o
  rw [g] at c; cases c
  obtain ⟨ob,d⟩:=p2.there o
  rw [d] at a; cases a
def DV (i:Nat) (fa:FA) (g:FE):FS:=λρ=>(g ρ).bind λv=>(fa ρ).bind λks=>match ρ[i]? with
 | some (.oT ag)=>(YX ks).bind λk=>if ag.length < sizeLine/\ks.length<=sizeLine then some (.nx (ρ.set i (.oT (BH ag k v)))) else none
 | _=>none
def Pj   {j} (i) (B:Room kk X.A) (z:DE X value g) (C:DA X es fa) (E:X.N[i]? = some x:=by rfl) (F:iz X.env.scope x:=by first | exact E9 rfl | exact EI (E9 rfl) | exact EI (EI rfl))
  (hd:(x==("__debug__":Str))=false:=by decide) (d:(x==("__classdict__":Str))=false:=by decide)
  (A:EW value (some (.Subscript (.Name x b) (.Tuple es j tp) sp)) pos.line X.env=pure false:=by rfl) :
  DS X (.Assign [.Subscript (.Name x b) (.Tuple es j tp) sp] value pos) (DV i fa g) :=
 x8 (M0 (by have:=B.un; omega) (jh E F hd d) (WM C) z A) λD' σ H ⟨H₀,aa,ρ,Hf,o,R,q,k⟩=>by
  unfold DV at q
  obtain ⟨v,e1,q⟩:=fy.mp q
  obtain ⟨ks,e2,q⟩:=fy.mp q
  split at q
  .rename_i ag h
   obtain ⟨kk,G,q⟩:=fy.mp q
   split at q
   .rename_i hz
    cases q
    obtain ⟨a,b,_⟩:=R.ow i _ h rfl
    refine ⟨H₀,aa,ρ,Hf,v,R,e1,λJ H1 r I s1 w h1=>⟨_,b,H₀,aa,ρ,r,ks,I,e2,λvs H2 aK R2 s2 u h2=>⟨by rw [h2.length]; exact hz.2,λp n=>?_⟩⟩⟩
    have s:=R2.lay (o:=.tup vs) n
    obtain ⟨O,m,⟨ws,y,r3⟩,M,L⟩:=s.ow i _ h rfl
    rw [b] at m; cases m
    rw [ZY G] at h2
    have ev:=Va h2
    have c:ws.length < sizeLine:=by rw [<- r3.length]; exact hz.1
    refine ⟨a,_,rfl,T1.t y (by rw [zq,ev]) c,?_⟩
    have l:z7 r (upd aK p (.tup vs)):=u.trans (zG (R2.sf.free n))
    exact k _ _ _ (s.updOwn h rfl b rfl ⟨_,zq,r3.put kk (h1.mono l)⟩) (w.trans l)
   .cases q
  .cases q
end
section
variable {prog:Ej} {w:Ey} {A:Around} {E:Value->Shared->Prop} {s:Shared}
def JO (hd:(d==EE)=false) (a:s.TypeIs (.ref d) "dict")
  (b:Q (.ref s.heap.objs.size) { s with heap:=s.heap.push { cls:=.type "dict_items",data:=.fields #[.ref d] } }):A_ (Ec prog w) A (call (.builtin "dict.items") [.ref d]) Q E s:=by
 refine Ed PySem.F.slot_dict_items a PySem.F.entry_dict_items ?_ (PySem.F.args_dict_items_1 _)
 unfold Builtin.«dict.items»
 refine ls ?_
 unfold Builtin.Dict.noArgs
 refine ls (wpAny_notOrdered_dict a ?_)
 show A_ _ _ (pure d) _ _ s
 refine u0 ?_
 show A_ _ _ (Builtin.Dict.showsAll d >>= _) _ _ s
 unfold Builtin.Dict.showsAll
 rw [if_neg (by rw [hd]; exact gp)]
 refine ls (u0 ?_)
 exact ls (Ep (u0 ⟨_,rfl,b⟩))
def JR (a:s.heap.IsItemsView v d) (g:s.heap.get? d=some o) (h:o.data=.dict es ep)
  (k:Q (.ref s.heap.objs.size) { s with heap:=s.heap.push { cls:=.type "dict_itemiterator",data:=.fields #[.none,.bool false,.ref d,.int 0 0,.int es.size 0,.int ep 0,.none,.none] } }) :
  A_ (Ec prog w) A (pyIter (.ref v)) Q E s:=by
 obtain ⟨l,b,j,c⟩:=id a
 refine Lo a.typeIs F.slot_dict_items_iter (Ed F.slot_dict_items_iter a.typeIs F.entry_dict_items_iter ?_ (F.args_dict_items_iter_1 _))
 unfold Builtin.«dict_items.__iter__»
 refine ls (u0 (ls ?_))
 unfold Builtin.Dict_items.dictOf
 refine ls (Ee b c (x:=.ref d) rfl (u0 (ls ?_)))
 unfold Builtin.Dict_items.newIterator
 refine ls (wpAny_dictEntries g h (ls (wpAny_dictEpoch g h ?_)))
 have i:IS "dict_itemiterator"=true:=by decide
 simp only [i,if_true]
 refine Ep (u0 ⟨_,rfl,"dict_itemiterator",_,⟨_,AC _ rfl,rfl⟩,EJ.lookup,?_⟩)
  (by simp only [sizeOk,Builtin.Dict_items.ownedTupleFields,cD,aH,ao,aE,Eo]; omega)
 simpa [HR,Builtin.Dict_items.ownedTupleFields] using k
def JQ (c:IU s.heap it d i es.size ep ok n) (H:s.heap.get? d=some od) (L:od.data=.dict es ep) (P:i < es.size)
  (O:∀ h',IsItemIterOut h' it d (i+1) es.size ep es[i].key es[i].val s.heap.objs.size->h'.get? s.heap.objs.size=some { cls:=.type "tuple",data:=.seq #[es[i].key,es[i].val] } →
   (∀ b o,b≠it->s.heap.get? b=some o->h'.get? b=some o)->Q (some (.ref s.heap.objs.size)) { s with heap:=h' }):A_ (Ec prog w) A (pyNext (.ref it)) Q E s:=by
 obtain ⟨a,g,l,tk,os⟩:=s
 have k:Shared.TypeIs ⟨a,g,l,tk,os⟩ (.ref it) "dict_itemiterator":=⟨_,c,rfl⟩
 have M:IS "dict_itemiterator"=true:=by decide
 have T:it < a.objs.size:=A9 c
 unfold pyNext
 refine ls (EL (Eg (name:=EG "__next__") k EJ
  (Ed EJ k F.entry_dict_itemiterator_next ?_ (F.args_dict_itemiterator_next_1 _))))
 refine ls (u0 (ls (ls ?_)))
 first | refine ls (E5 k (u0 ?_)) | refine ls (Io k (u0 ?_))
 refine ls (wpAny_fieldsOf c rfl ?_)
 simp only [M,if_true]
 show A_ _ _ (if (EA d==EH)=true then _ else _) _ _ _
 rw [if_neg (show ¬ ((EA d==EH)=true) from gp)]
 refine ls (u0 (ls (wpAny_dictEntries H L ?_)))
 rw [if_neg (by simp)]
 refine ls (u0 (ls (wpAny_dictEpoch H L ?_)))
 rw [if_neg (by simp)]
 refine u0 ?_
 simp only [show ¬ ((i:Int) < 0) from by omega,if_false,Ii,Array.getElem?_eq_getElem P]
 refine ls ?_
 first | refine ls (E5 k (u0 ?_)) | refine ls (Io k (u0 ?_))
 refine ls (LJ k ?_)
 show A_ _ _ (setField (.ref it) 3 (HR ((i:Int)+1)) >>= _) _ _ ⟨a,g,l,tk,os⟩
 refine ls (C_ c (by simp) λj p q=>?_)
 replace q:Heap.SameBut it a j:=q
 replace p:IU j it d (i+1) es.size ep ok n:=by
  have e:((i+1:Nat):Int)=(i:Int)+1:=by omega
  unfold IU
  rw [e]
  simpa [HR] using p
 have B:Shared.TypeIs ⟨j,g,l,tk,os⟩ (.ref it) "dict_itemiterator":=⟨_,p,rfl⟩
 refine ls (EK (ls (LJ B (ls (LJ B ?_)))))
 show A_ _ _ (Builtin.Dict_items.pairFromOwner (.ref it) 6 es[i].key es[i].val) _ _ ⟨j,g,l,tk,os⟩
 unfold Builtin.Dict_items.pairFromOwner
 refine ls (wpAny_newTuple ?_)
 have m:IU (j.push { cls:=.type "tuple",data:=.seq #[es[i].key,es[i].val] }) it d (i+1) es.size ep ok n:=tz _ p
 have J:j.objs.size=a.objs.size:=q.1
 have G:(j.push { cls:=.type "tuple",data:=.seq #[es[i].key,es[i].val] }).get? a.objs.size=some { cls:=.type "tuple",data:=.seq #[es[i].key,es[i].val] }:=by rw [<- J]; exact AC _ rfl
 have C:∀ b o,b≠it->a.get? b=some o->(j.push { cls:=.type "tuple",data:=.seq #[es[i].key,es[i].val] }).get? b=some o:=λb o h e=>tz _ (q.extBut b o h e)
 generalize j.push { cls:=.type "tuple",data:=.seq #[es[i].key,es[i].val] }=I at m G C
 show A_ _ _ (Builtin.Dict_items.ownedTupleIsFree (.ref it) >>= _) _ _ ⟨I,g,l,tk,os⟩
 rw [J]
 refine ls ?_
 unfold Builtin.Dict_items.ownedTupleIsFree
 refine ls (Ee m rfl (x:=.none) rfl (u0 ?_))
 simp only [if_true]
 refine ls (Ee m rfl (x:=ok) rfl (ls (Ee m rfl (x:=n) rfl ?_)))
 refine ls (C_ m (by simp) λW r U=>?_)
 replace r:IU W it d (i+1) es.size ep es[i].key n:=r
 refine ls (C_ r (by simp) λY u Z=>?_)
 replace u:IU Y it d (i+1) es.size ep es[i].key es[i].val:=u
 refine ls (C_ u (by simp) λS v R=>?_)
 replace v:IsItemIterOut S it d (i+1) es.size ep es[i].key es[i].val a.objs.size:=v
 refine ls (C_ v (by simp) λz y bH=>?_)
 replace y:IsItemIterOut z it d (i+1) es.size ep es[i].key es[i].val a.objs.size:=y
 have all:∀ b o,b≠it->I.get? b=some o->z.get? b=some o:=λb o h e=>K_ bH b o h (K_ R b o h (K_ Z b o h (K_ U b o h e)))
 exact ls (wpAny_letGo (u0 (u0 ⟨_,rfl,u0 (O z y (all _ _ (Nat.ne_of_gt T) G) λb o h e=>all b o h (C b o h e))⟩)))
def JP (hh:A.handled=none) (hit:IU s.heap it d i es.size ep ok ov) (l9:s.heap.get? d=some od) (Av:od.data=.dict es ep) (hge:es.size<=i)
  (hQ:∀ h',Heap.ExtBut it s.heap h'->Q none { s with heap:=h' }):A_ (Ec prog w) A (pyNext (.ref it)) Q E s:=by
 have hT:s.TypeIs (.ref it) "dict_itemiterator":=⟨_,hit,rfl⟩
 have iR:IS "dict_itemiterator"=true:=by decide
 unfold pyNext
 refine ls (EL (Eg (name:=EG "__next__") hT EJ
  (Ed EJ hT F.entry_dict_itemiterator_next ?_ (F.args_dict_itemiterator_next_1 _))))
 refine ls (u0 (ls (ls ?_)))
 first | refine ls (E5 hT (u0 ?_)) | refine ls (Io hT (u0 ?_))
 refine ls (wpAny_fieldsOf hit rfl ?_)
 simp only [iR,if_true]
 show A_ _ _ (if (EA d==EH)=true then _ else _) _ _ s
 rw [if_neg (show ¬ ((EA d==EH)=true) from gp)]
 refine ls (u0 (ls (wpAny_dictEntries l9 Av ?_)))
 rw [if_neg (by simp)]
 refine ls (u0 (ls (wpAny_dictEpoch l9 Av ?_)))
 rw [if_neg (by simp)]
 refine u0 ?_
 simp only [show ¬ ((i:Int) < 0) from by omega,if_false,Ii,Array.getElem?_eq_none hge]
 refine ls ?_
 first | refine ls (E5 hT (u0 ?_)) | refine ls (Io hT (u0 ?_))
 show A_ _ _ (setField (.ref it) 2 .none >>= _) _ _ s
 refine ls (wpAny_setField hit rfl (by simp) ?_)
 show A_ _ _ (newExc (.type "StopIteration") [] >>= _) _ _ _
 refine ls ?_
 simp only [newExc,newTuple]
 refine ls (Ep ?_ (by size_fits))
 refine ls (m:=IG _ _) (J_ (a:=EH) (by first | rfl | (simp only [IG]; rfl)) ?_)
 refine Ep ?_ (by size_fits)
 simp only [raiseNew]
 refine ls (wpAny_handled ?_)
 rw [show A.in1.handled=none from hh]
 refine ls (u0 (wpAny_throw ?_))
 refine ls (ET (T:="StopIteration") (b:=true) ⟨_,AC _ rfl,rfl⟩ Lj ?_)
 exact u0 (hQ _ (((Heap.SameBut.update ..).extBut.push _).push _))
end
def ItD (a:Addr) (o:Obj) (ws:List (List Key×V)):It :=
  ⟨λi H=>i < ws.length/\H a=some (.frz o (.dT ws)),
   λi H x H'=>∃ p b k v,ws[i]? = some (k,v)/\H b=some (.tup (k.map kV))/\H p=none/\x=.ref p/\H'=upd H p (.tup [.ref b,v]),
   λi H=>ws.length<=i/\H a=some (.frz o (.dT ws))⟩
theorem La  {F:α->β->Prop}:∀ {l:List α} {m:List β} {i:Nat} {x:α},Paired F l m->l[i]? = some x->∃ y,m[i]? = some y/\F x y
 | _,_,0,x,.cons h t,e=>by
  rw [aq] at e
  cases e
  exact ⟨_,aq,h⟩
 | _,_,i+1,x,.cons h t,e=>by
  rw [aB] at e
  obtain ⟨y,h1,h2⟩:=La t e
  exact ⟨y,by rw [aB]; exact h1,h2⟩
def Jl {P:Ej} {w:Ey} {K:A6} {elts:List Expr} {kx:Nat} {tp:Pos} {a it:Addr} {o:Obj} {es:Array Ia} {ep:Nat} {ws:List (List Key×V)} (x:o.data=.dict es ep) (hsz:es.size=ws.length) :
  Turn P w K (.Tuple elts kx tp) (ItD a o ws) [it] it (λi h=>∃ ok j,IU h it a i es.size ep ok j) where
 mem:=aN
 obj:=λi h st b g=>by
  have e:b=it:=by simpa using g
  subst e
  obtain ⟨ok,j,d⟩:=st
  exact ⟨_,d,λv z=>by cases z⟩
 keep:=λi h h' st k=>by
  obtain ⟨ok,j,d⟩:=st
  exact ⟨ok,j,k it aN _ d⟩
 item:=by
  intro X G y J U i pins s σ H E I C st hg
  subst G y J
  obtain ⟨ok,j,d⟩:=st
  obtain ⟨f0,f1,f2,S,R,O⟩:=C it aN
  obtain ⟨M,F⟩:=hg
  obtain ⟨r,hz,hd,xs,rel,o',es',ep',h1,h2,W,h4,h5⟩:=(show s.heap.get? a=some o/\xH X.prog X.w H s.heap a (.dT ws) from I.hok a _ F)
  rw [r] at h1
  cases h1
  rw [x] at W
  cases W
  have hi:i < es.size:=by rw [hsz]; exact M
  obtain ⟨q,hq,r1,Z,r3⟩:=La rel (dq M)
  have n:es[i]=entryOfKey (Iw (x9 X.prog X.w)) q:=by
   have e1:es.toList[i]? = some es[i]:=by simp [hi]
   rw [h4,cP,hq] at e1
   exact (g3d.inj e1).symm
  have ek:es[i].key=.ref q.2.1:=by rw [n]; rfl
  have ev:es[i].val=q.2.2:=by rw [n]; rfl
  refine JQ d r x hi λh' m T Ah=>⟨_,rfl,?_⟩
  rw [ek,ev] at T
  refine wpAny_letOwnedTupleGo_items m λL p l=>?_
  have da:it < s.heap.objs.size:=A9 d
  have cU:H s.heap.objs.size=none:=I.hok.fresh (aM _)
  have I1:Inv X pins σ (upd H s.heap.objs.size (.tup [.ref q.2.1,ws[i].2])) { s with heap:=s.heap.push { cls:=.type "tuple",data:=.seq #[.ref q.2.1,q.2.2] },toks:=s.toks } :=
   I.laid (t':=s.toks) (λb u e=>tz _ e) (aM _) ⟨by show 2<=sizeLine; decide,[.ref q.2.1,q.2.2],.cons rfl (.cons r3 .nil),⟨_,AC _ rfl,rfl,_,rfl⟩⟩
  have Y:(upd H s.heap.objs.size (.tup [.ref q.2.1,ws[i].2])) it=none:=by rw [zw (cR da)]; exact f0
  have I2:Inv X pins σ (upd H s.heap.objs.size (.tup [.ref q.2.1,ws[i].2])) { s with heap:=L }:=I1.turned (t':=s.toks) (λb ob g e=>by
   refine (l.2 b g).trans ?_
   by_cases c:b=s.heap.objs.size
   .subst c
    rw [AC _ rfl] at e
    cases e
    exact T
   .rw [Heap.get?_push_ne _ _ _ c] at e
    exact Ah b ob g e) Y f1 S R O
  refine ⟨.ref s.heap.objs.size,_,I2,rfl,⟨s.heap.objs.size,q.2.1,ws[i].1,ws[i].2,dq M,Z,cU,rfl,rfl⟩,⟨_,_,p⟩,λb g=>?_⟩
  have e:b=it:=by simpa using g
  subst e
  exact Y
 done:=by
  intro X G y J U i pins s σ H E I C st hg
  subst G y J
  obtain ⟨ok,j,d⟩:=st
  obtain ⟨f0,f1,f2,S,R,O⟩:=C it aN
  obtain ⟨B,F⟩:=hg
  have r:s.heap.get? a=some o:=(show s.heap.get? a=some o/\xH X.prog X.w H s.heap a (.dT ws) from I.hok a _ F).1
  exact JP (I.ok.hd U) d r x (by rw [hsz]; exact B) λh' hx=>⟨rfl,I.turned (t':=s.toks) (λb ob g e=>hx b ob g e) f0 f1 S R O⟩
 self:=λA i s Q E st h=>by
  obtain ⟨ok,j,d⟩:=st
  exact PySem.W.kcp_self d h
def we (ag:List (List Key×D)):List D:=ag.map λa=>.tup [.tup (a.1.map SU),a.2]
def VO {K:A6} (G:Hf a=some (.frz o (.dT ws))) (r:fg K Hf ag ws):Walks K Hf (ItD a o ws) (we ag):=λH' ah t sf i=>by
 have B:H' a=some (.frz o (.dT ws)):=sf _ _ (t _ _ G)
 have E:=r.length
 refine ⟨λd hd=>?_,λl=>⟨by unfold we at l; rw [az] at l; omega,B⟩⟩
 unfold we at hd
 rw [cP] at hd
 cases A:ag[i]? with
 | none=>rw [A] at hd; cases hd
 | some y =>
  rw [A] at hd
  cases hd
  obtain ⟨⟨k0,w⟩,C,h1,h2⟩:=La r A
  have hi:i < ws.length:=(dw.mp C).1
  refine ⟨⟨hi,B⟩,λx H2 F=>?_⟩
  obtain ⟨p,b,k,v,e1,e2,s,rfl,rfl⟩:=F
  rw [C] at e1
  cases e1
  have H:ah p=none:=sf.free s
  have n:b≠p:=zU e2 s
  have z:∀ u,ah b=some u->u=.tup (k0.map kV):=λu e=>by
   have:=sf _ _ e
   rw [e2] at this
   exact (g3d.inj this).symm
  have j:z7 ah (upd ah b (.tup (k0.map kV))):=λc u e=>by
   by_cases g:c=b
   .subst g; rw [zq,z u e]
   .rw [zw g]; exact e
  have m:(upd ah b (.tup (k0.map kV))) p=none:=by rw [zw (EF n)]; exact H
  have h:=zG (o:=.tup [.ref b,w]) m
  refine ⟨upd (upd ah b (.tup (k0.map kV))) p (.tup [.ref b,w]),⟨zG s,j.trans h,λc u e=>?_,λc u e=>?_⟩,?_⟩
  .by_cases g:c=p
   .subst g; rw [zq] at e ⊢; exact e
   .rw [zw g] at e ⊢
    by_cases q:c=b
    .subst q; rw [zq] at e; cases e; exact e2
    .rw [zw q] at e; exact sf _ _ e
  .by_cases g:c=p
   .subst g; exact .inr (.inl s)
   .rw [zw g] at e
    by_cases q:c=b
    .subst q; rw [zq] at e; cases e; exact .inr (.inr ⟨k0,rfl⟩)
    .rw [zw q] at e; exact .inl e
  .have e1:y.1=k0:=h1
   show ae K _ (.tup [.tup (y.1.map SU),y.2]) (.ref p)
   rw [e1]
   refine D_.mpr ⟨p,[.ref b,w],rfl,bF.of zq,.cons (D_.mpr ⟨b,k0.map kV,rfl,bF.of (by rw [zw n,zq]),W4 k0⟩) (.cons (h2.mono ((t.trans j).trans h)) .nil)⟩
section
variable {K:A6} {H₀ aa:Hp} {σ:St} {ρ:bj} {H Hf:Hp}
def Rep.letGo (R:Rep K H₀ aa σ ρ H Hf) (e:ρ[i]? = some (.oT ag)) (x:σ[i]? = some (some (.ref a))) (u:HO):z7 Hf (upd Hf a u)/\Rep K H₀ aa σ (ρ.set i .no) (upd H a u) (upd Hf a u):=by
 obtain ⟨L,s,⟨ws,J,F⟩,E,r⟩:=R.ow i _ e rfl
 rw [x] at s; cases s
 have p:i < ρ.length:=(dw.mp e).1
 have m:z7 Hf (upd Hf a u):=zG E
 refine ⟨m,λb v z=>?_,λb v z=>?_,λb v z=>?_,R.f0.trans m,by simp [R.len],λj d z=>?_,λj s1 z g=>?_,λj k s1 s2 b z g B w y C=>?_⟩
 .rw [zw (zU z r)]; exact R.s0 b v z
 .by_cases l:b=a
  .subst l; rw [zq] at z ⊢; exact z
  .rw [zw l] at z ⊢; exact R.sf b v z
 .by_cases l:b=a
  .subst l; exact .inr (.inl r)
  .rw [zw l] at z; exact R.nf b v z
 .rw [du] at z
  by_cases c:i=j
  .rw [if_pos c,if_pos p] at z; cases z
  .rw [if_neg c] at z
   obtain ⟨v,n,p2⟩:=R.fr j d z
   exact ⟨v,n,p2.mono m⟩
 .rw [du] at z
  by_cases c:i=j
  .rw [if_pos c,if_pos p] at z
   cases z; cases g
  .rw [if_neg c] at z
   obtain ⟨b,n,p2,I,G⟩:=R.ow j s1 z g
   have h:b≠a:=by
    rintro rfl
    exact c (R.inj i j _ s1 b e rfl z g x n)
   refine ⟨b,n,p2.mono (λo q=>by rw [zw h]; exact q) m,?_,G⟩
   rw [zw h]
   exact I
 .have A:∀ (j:Nat) (s1:Slot),(ρ.set i .no)[j]? = some s1->s1.own=true->ρ[j]? = some s1:=λj s1 z g=>by
   rw [du] at z
   by_cases c:i=j
   .rw [if_pos c,if_pos p] at z; cases z; cases g
   .rw [if_neg c] at z; exact z
  exact R.inj j k s1 s2 b (A j s1 z g) g (A k s2 B w) w y C
end
inductive tID (K:A6) (i:Nat) (σ:St) (H:Hp) (R':It->Hp->Prop):Prop
 |mk (H₀ aa ρ Hf ag) (a0:Rep K H₀ aa σ ρ H Hf) (a1:ρ[i]? = some (.oT ag)) (a2:∀ J H' ah,Rep K H₀ aa σ (ρ.set i .no) H' ah->z7 Hf ah->Walks K ah J (we ag)->R' J H')
section
variable {X:Cx} {pos:Pos} {body:List Stmt} {γ:FG} {B:FS}
def kG:typeOf (.builtin "dict.items")=pure (.type "method_descriptor"):=by show builtinType _=_; rw [builtinType_eq_fast]; kernel_rfl
def Ct (i) (hN:X.N[i]? = some x:=by rfl) (gg:iz X.env.scope x:=by first | exact E9 rfl | exact EI (E9 rfl) | exact EI (EI rfl))
  (hd:(x==("__debug__":Str))=false:=by decide) (F:(x==("__classdict__":Str))=false:=by decide)
  (j:IR (.Name x A) "items" X.env (eval (.Name x A) X.env)=eval (.Name x A) X.env:=by rfl) (g:(apos.endLine==aO.line)=true:=by rfl) :
  PI X (.Tuple elts kx tp) (.Call (.Attribute (.Name x A) "items" apos) [] [] aO) (tID X.K i):=by
 intro pins s σ H R' I h
 obtain ⟨H₀,aa,ρ,Hf,ag,R,e,k⟩:=h
 obtain ⟨a,P,⟨ws,w,r⟩,q3,q4⟩:=R.ow i _ e rfl
 refine wpAny_Call_method0_late j g (thn (jh hN gg hd F pins s σ H (λv H1=>v=.ref a/\H1=H) I ⟨_,P,rfl,rfl⟩) λv s1 ⟨y,H1,n,U,ey,eH⟩=>?_)
 subst ey eH
 cases U
 obtain ⟨hz,O,xs,rel,o,es,ep,l,J,G,S,g5⟩:=(show xH X.prog X.w H1 s1.heap a (.dT ws) from n.hok a _ w)
 have Q:s1.TypeIs (.ref a) "dict":=⟨o,l,J.1⟩
 refine ⟨"dict","dict.items",PySem.F.plainAttrs_dict,PySem.F.slot_dict_items,kG,Q,?_,?_⟩
 .intro a' ea
  cases ea
  exact ⟨o,l,J.2.1⟩
 .refine LI rfl (PySem.evalArgs_none (JO O Q ?_))
  have Y:a < s1.heap.objs.size:=A9 l
  have C:xs.length=es.size:=by
   have:=congrArg IZ S
   rw [az,IX] at this
   exact this.symm
  refine JR (d:=a) ⟨_,AC _ rfl,rfl,rfl⟩ (tz _ l) G ?_
  obtain ⟨M,R2⟩:=R.letGo e P (.frz o (.dT ws))
  have L:(s1.heap.push { cls:=.type "dict_items",data:=.fields #[.ref a] }).objs.size=s1.heap.objs.size+1:=size_push' _ _
  have kp:∀ b u,s1.heap.get? b=some u->((s1.heap.push { cls:=.type "dict_items",data:=.fields #[.ref a] }).push { cls:=.type "dict_itemiterator",data:=.fields #[.none,.bool false,.ref a,.int 0 0,.int es.size 0,.int ep 0,.none,.none] }).get? b=some u:=λb u z=>tz _ (tz _ z)
  have I2:=n.kept (t':=s1.toks) kp
  have W:∀ c ks,H1 c=some (.tup ks)->c≠a:=λc ks z=>Sw z w (λz=>nomatch z)
  have I3:=Yc (ob:=.frz o (.dT ws)) (t':=s1.toks) I2 (by rw [w]; exact Iu) (Heap.SameBut.refl _ _) ⟨o,kp _ _ l⟩
   ⟨kp _ _ l,hz,O,xs,F_ rel λp q z=>⟨z.1,by rw [zw (W _ _ z.2.1)]; exact z.2.1,z.2.2⟩,o,es,ep,kp _ _ l,J,G,S,g5⟩
  have E:(s1.heap.push { cls:=.type "dict_items",data:=.fields #[.ref a] }).objs.size≠a:=by rw [L]; exact Nat.ne_of_gt (Ln Y)
  refine ⟨_,[(s1.heap.push { cls:=.type "dict_items",data:=.fields #[.ref a] }).objs.size],_,_,_,rfl,I3,Jl (a:=a) (ws:=ws) (elts:=elts) (kx:=kx) (tp:=tp) G (by rw [<- C]; exact (Lx rel).symm),⟨_,_,AC _ rfl⟩,λb Z=>?_,k _ _ _ R2 M (VO zq (fg.mono M r))⟩
  have T:b=(s1.heap.push { cls:=.type "dict_items",data:=.fields #[.ref a] }).objs.size:=by simpa using Z
  have m:s1.heap.objs.size<=b:=by rw [T,L]; exact nA _
  exact uU.none' (Ve n m) (by rw [zw (by rw [T]; exact E)]; exact n.hok.fresh m)
def N6 (i:Nat) (γ:FG) (B:FS):FS:=λρ=>match ρ[i]? with
 | some (.oT ag)=>z9 γ B (we ag) (ρ.set i .no)
 | _=>none
@[simp] theorem MM {i:Nat} {γ:FG} {B:FS} {ρ:bj}:N6 i γ B ρ=match ρ[i]? with
 | some (.oT ag)=>z9 γ B (we ag) (ρ.set i .no)
 | _=>none:=rfl
@[simp] theorem MO   : Tq i ρ=some (.nx (ρ.set i (.oT []))):=rfl
@[simp] theorem KW {i:Nat} {fa:FA} {g:FE} {ρ:bj}:DV i fa g ρ=(g ρ).bind λv=>(fa ρ).bind λks=>match ρ[i]? with
 | some (.oT ag)=>(YX ks).bind λk=>if ag.length < sizeLine/\ks.length<=sizeLine then some (.nx (ρ.set i (.oT (BH ag k v)))) else none
 | _=>none:=rfl
def Pi (U:PassesOwn (Ec X.prog X.w) X.A X.env X.xe) (W:X.calm=true) (hi:PI X tg iter (tID X.K P)) (hg:DG X tg γ) (Y:gQ X body B)
  (T:∀ x,Ie iter X.env x=pure x:=by intro _; rfl):DS X (.For tg iter body [] pos) (N6 P γ B) :=
 x8 (FF U W hi hg Y T) λD' σ H ⟨H₀,aa,ρ,Hf,o,R,q,k⟩=>by
  unfold N6 at q
  split at q
  .rename_i ag r
   refine ⟨H₀,aa,ρ,Hf,ag,R,r,λJ H1 l R1 O G=>?_⟩
   have k1:=k.mono O
   refine ⟨λi m σ H=>m=(we ag).length - i/\i<=(we ag).length/\∃ ρ ah,Rep X.K H₀ aa σ ρ H ah/\z7 l ah/\z9 γ B ((we ag).drop i) ρ=some o,⟨(we ag).length,by simp,dm _,_,l,R1,zE,by simpa using q⟩,?_⟩
   rintro i m gx H2 ⟨rfl,hi,E,aK,R2,n,a⟩
   obtain ⟨L,I⟩:=G H2 aK n R2.sf i
   by_cases u:i < (we ag).length
   .right
    obtain ⟨go,yld⟩:=L _ (dq u)
    refine ⟨go,?_⟩
    rw [AL u] at a
    unfold z9 at a
    cases s:γ (we ag)[i] E with
    | none=>rw [s] at a; cases a
    | some A =>
     rw [s] at a
     simp only [ai] at a
     obtain ⟨z,eb,j⟩:=qt a
     refine ⟨λaC H'=>∃ aD ah,Rep X.K H₀ aa aC aD H' ah/\z7 l ah/\z9 γ B ((we ag).drop (i+1)) aD=some o,?_,?_⟩
     .rintro aC H' ⟨aD,ah,R',t',e'⟩
      exact ⟨(we ag).length - (i+1),by omega,rfl,u,aD,ah,R',t',e'⟩
     .intro x H3 Q
      obtain ⟨f7,C,S⟩:=yld x H3 Q
      refine ⟨H₀,aa,E,f7,(we ag)[i],A,R2.grows C,S,s,λF H4 y R4 M=>?_⟩
      refine ⟨H₀,aa,A,y,z,R4,eb,?_⟩
      have tt:z7 l y:=(n.trans C.f).trans M
      cases z with
      | nx g=>exact λp w h c b=>⟨g,h,c,tt.trans b,j⟩
      | ct g=>exact λp w h c b=>⟨g,h,c,tt.trans b,j⟩
      | bk g=>cases j; exact λp w h c b=>k1 _ _ _ c (tt.trans b)
      | rt d=>cases j; exact λv p g w h c b Z=>k1 _ _ _ _ _ c (tt.trans b) Z
   .left
    have:(we ag).drop i=[]:=g3r (by omega)
    rw [this] at a
    cases a
    exact ⟨I (by omega),k1 _ _ _ R2 n⟩
  .cases q
end
section
variable {X:Cx} {pos:Pos} {kk:Nat}
end
def zcu (z:Str) (lo hi:Option Int):Str:=⟨(Yw z.cps.toList lo hi).toArray⟩
section
variable {X:Cx}
def Rl (f:FE) (l u:FP):FE:=λρ=>(f ρ).bind λx=>(l ρ).bind λlo=>(u ρ).bind λhi=>match x with
 | .tup ds=>some (.tup (Yw ds lo hi))
 | .lst ds=>some (.lst (Yw ds lo hi))
 | .str z=>if z.length<=sizeLine then some (.str (zcu z lo hi)) else none
 | _=>none
variable {a b c e:Expr} {f g h:FE} {pos p2:Pos}
end
def zdd (z:Str):List D:=z.cps.toList.map λc=>D.str ⟨#[c]⟩
section
variable {X:Cx} {e:Expr} {f:FE} {pos:Pos} {tg:Expr}
def Kx:D->Option (List D)
 | .lst ds=>some ds
 | .tup ds=>some ds
 | .str z=>some (zdd z)
 | _=>none
def zde (f:FE):FA:=λρ=>(f ρ).bind Kx
end
section
variable {X:Cx} {o e:Expr} {f g:FE} {kk:Nat}
end
section
variable {X:Cx}
end
def jn (out:Str):List Str->Str
 | []=>out
 | z :: zs=>jn (out++z) zs
theorem GR:∀ zs out,out.length<=(jn out zs).length
 | [],_=>aM _
 | z :: zs,out=>by
  have h:=GR zs (out++z)
  rw [strLen_append] at h
  show _<=(jn (out++z) zs).length
  omega
abbrev FJ:=bj->Option (List Str)
inductive tJ (K:A6) (fj:FJ) (out:Str) (σ:St) (H:Hp) (Q:VK):Prop
 |mk (H₀ aa ρ Hf zs) (a0:Rep K H₀ aa σ ρ H Hf) (a1:fj ρ=some zs) (a2:(jn out zs).length<=sizeLine) (a3:∀ H' ah,Rep K H₀ aa σ ρ H' ah->z7 H H'->z7 Hf ah->Q (.str (jn out zs)) H')
def DJ (X:Cx) (es:List Expr) (fj:FJ):Prop :=
 ∀ (out:Str) (pins:List (Addr×Obj)) (s:Shared) (σ:St) (H:Hp) (Q:VK),Inv X pins σ H s->tJ X.K fj out σ H Q->A_ (Ec X.prog X.w) X.A (joinParts out (evalEach es X.env)) (EP X pins σ Q) X.xe s
section
variable {X:Cx} {e:Expr} {es:List Expr} {f:FE} {fj:FJ} {pos p2:Pos}
def Nx:FJ:=λ_=>some []
def D8 (z:Str) (fj:FJ):FJ:=λρ=>(fj ρ).bind λzs=>some (z :: zs)
def zaa:D->Option Str
 | .int i=>if i.natAbs.log2 < 1920 then some (toString i) else none
 | .str z=>if z.length<=sizeLine then some z else none
 | _=>none
def N9 (f:FE) (fj:FJ):FJ:=λρ=>(f ρ).bind λd=>(zaa d).bind λz=>(fj ρ).bind λzs=>some (z :: zs)
def HL:DJ X [] Nx:=by
 intro out pins s σ H Q I h
 obtain ⟨H₀,aa,ρ,Hf,zs,R,q,hz,k⟩:=h
 cases q
 exact joinParts_nilE (joinParts_nil ⟨.str out,H,I.tok _,⟨_,rfl⟩,k _ _ R zE zE⟩ hz)
def HN (h:DJ X es fj):DJ X (.Constant (.str z) j p2 :: es) (D8 z fj):=by
 intro out pins s σ H Q I hh
 obtain ⟨H₀,aa,ρ,Hf,zs,R,q,hz,k⟩:=hh
 cases e:fj ρ with
 | none=>unfold D8 at q; rw [e] at q; cases q
 | some a =>
  unfold D8 at q
  rw [e] at q
  cases q
  have b:(jn (out++z) a).length<=sizeLine:=hz
  refine joinParts_consE (joinParts_cons (Calls.Constant_str ?_))
  exact ⟨fV (GR _ _) b,h (out++z) pins _ σ H Q (I.tok _) ⟨H₀,aa,ρ,Hf,a,R,e,b,k⟩⟩
def HM (n:DR X e f) (h:DJ X es fj):DJ X (.FormattedValue e (-1) none p2 :: es) (N9 f fj):=by
 intro out pins s σ H Q I hh
 obtain ⟨H₀,aa,ρ,Hf,zs,R,q,hz,k⟩:=hh
 obtain ⟨d,e1,e2⟩:=zQ q
 cases a:zaa d with
 | none=>rw [a] at e2; cases e2
 | some z =>
  rw [a] at e2
  cases g:fj ρ with
  | none=>rw [g] at e2; cases e2
  | some j =>
   rw [g] at e2
   cases e2
   have l:(jn (out++z) j).length<=sizeLine:=hz
   refine joinParts_consE (joinParts_cons (FormattedValue_plain (thn (n pins s σ H (λv H1=>∃ b,Rep X.K H₀ aa σ ρ H1 b/\z7 H H1/\z7 Hf b/\qP X.K b σ ρ d v) I ⟨H₀,aa,ρ,Hf,d,R,e1,λv H1 b i s1 c h1=>⟨b,i,s1,c,h1⟩⟩) λu s1 ⟨v,H1,p,r,b,i,o,c,h1⟩=>?_)))
   have fin:∀ (t':Tok) (tk:Nat),(out++z).length<=sizeLine/\A_ (Ec X.prog X.w) X.A (joinParts (out++z) (evalEach es X.env)) (EP X pins σ Q) X.xe { s1 with toks:=tk }:=λt' tk =>
    ⟨fV (GR _ _) l,h (out++z) pins _ σ H1 Q (p.tok _) ⟨H₀,aa,ρ,b,j,i,g,l,λH2 aK R2 s2 m=>k _ _ R2 (o.trans s2) (c.trans m)⟩⟩
   unfold zaa at a
   split at a
   .split at a
    .cases a
     cases h1.int
     obtain ⟨t,rfl⟩:=r
     exact formatField_int_small (by assumption) (fin (s1.toks+1) _)
    .cases a
   .split at a
    .cases a
     cases h1.str
     obtain ⟨t,rfl⟩:=r
     exact formatField_str fin (by assumption)
    .cases a
   .cases a
def XR (fj:FJ):FE:=λρ=>(fj ρ).bind λzs=>if (jn ES zs).length<=sizeLine then some (.str (jn ES zs)) else none
def HV (h:DJ X (a :: b :: es) fj) (c:evalEach (a :: b :: es) X.env=eval a X.env :: eval b X.env :: evalEach es X.env:=by rfl):DE X (.JoinedStr (a :: b :: es) pos) (XR fj):=by
 intro pins s σ H Q I hh
 obtain ⟨H₀,aa,ρ,Hf,d,R,q,k⟩:=hh
 cases e:fj ρ with
 | none=>unfold XR at q; rw [e] at q; cases q
 | some zs =>
  unfold XR at q
  rw [e] at q
  have q:(if (jn ES zs).length<=sizeLine then some (D.str (jn ES zs)) else none)=some d:=q
  split at q
  .cases q
   refine JoinedStr_many ?_
   rw [<- c]
   exact h ES pins s σ H Q I ⟨H₀,aa,ρ,Hf,zs,R,e,by assumption,λH' ah R' s' t'=>k _ _ _ R' s' t' (Ei.mpr rfl)⟩
  .cases q
end
@[simp] theorem Cb {f:FE} {l u:FP} {ρ:bj}:Rl f l u ρ=(f ρ).bind λx=>(l ρ).bind λlo=>(u ρ).bind λhi=>match x with
 | .tup ds=>some (.tup (Yw ds lo hi))
 | .lst ds=>some (.lst (Yw ds lo hi))
 | .str z=>if z.length<=sizeLine then some (.str (zcu z lo hi)) else none
 | _=>none:=rfl
@[simp] theorem Rr   : zde f ρ=(f ρ).bind Kx:=rfl
@[simp] theorem zav   : XR fj ρ=(fj ρ).bind λzs=>if (jn ES zs).length<=sizeLine then some (.str (jn ES zs)) else none:=rfl
@[simp] theorem zcb  : Nx ρ=some []:=rfl
@[simp] theorem zcf    : D8 z fj ρ=(fj ρ).bind λzs=>some (z :: zs):=rfl
@[simp] theorem zce    : N9 f fj ρ=(f ρ).bind λd=>(zaa d).bind λz=>(fj ρ).bind λzs=>some (z :: zs):=rfl
section
variable {K:A6} {C p dx l:Addr} {H Hf H' ah H2 aK:Hp} {hd wd:D} {ms:List D}
end
section
variable (gA gT gI gS:List D->Option D)
variable (gL:List D->Option D)
end
def Qn (x:xH P w H h a o):∃ u,h.get? a=some u:=by
 cases o with
 | lst xs=>obtain ⟨_,_,_,_,e⟩:=x; exact ⟨_,e⟩
 | tup xs=>obtain ⟨_,_,_,⟨_,e,_⟩⟩:=x; exact ⟨_,e⟩
 | dK ag=>obtain ⟨_,_,_,_,o,_,_,e,_⟩:=x; exact ⟨_,e⟩
 | dT ag=>obtain ⟨_,_,_,_,o,_,_,e,_⟩:=x; exact ⟨_,e⟩
 | set S n=>obtain ⟨o,_,_,_,e,_⟩:=x; exact ⟨_,e⟩
 | ins C dx fs=>obtain ⟨_,_,_,e,_⟩:=x; exact ⟨_,e⟩
 | own y=>exact x
 | xd fs=>obtain ⟨_,⟨_,_,_,e,_⟩,_⟩:=x; exact ⟨_,e⟩
 | rng lo hi=>obtain ⟨_,_,_,e⟩:=x; exact ⟨_,e⟩
 | frz ob u=>obtain ⟨e,_⟩:=x; exact ⟨_,e⟩
 | tbl ps=>exact ⟨_,x⟩
 | met f y=>exact ⟨_,x⟩
 | ext φ=>obtain ⟨_,e,_⟩:=x; exact e
def zb3 (outer:List Env) (h₀:Heap) (H:Hp) (a C:Addr) (h:Heap):Prop :=
 H a=none/\h₀.get? a=none/\∃ (B:Heap) (t:Addr),Heap.FlyingW B outer a (.ref C) (.ref t) h/\(∀ b o,H b=some o->∃ ob,B.get? b=some ob)/\∀ b o,h₀.get? b=some o->b∉dz outer->∃ ob,B.get? b=some ob
def fH (P:Ej) (w:Ey):mO:=λouter H s E e s'=>∃ (a C:Addr) (H':Hp),e=.ref a/\s'.os=s.os/\AllBare s'.gens/\Un (dz outer) [] H H' s.heap s'.heap/\cz P w H' s'.heap/\zb3 outer s.heap H' a C s'.heap/\E (.ref C) none H'
def SF {P:Ej} {w:Ey} {K:A6} {mg:Str->Option Value} {base:Heap} {N:List Str} {qual:Str} {scope:Scope} {f:Addr} {ar:Value} {A:Around} {outer:List Env} {s₀:Shared} {H₀:Hp} {E:XK}
  {pins:List (Addr×Obj)} {σ:St} {H:Hp} {s:Shared} (I:Inv (Wh (fH P w) P w K mg base N qual scope f ar A outer s₀ H₀ E) pins σ H s) {h':Heap} {e C:Addr} {vs:List Value} (k:Heap.MadeExcOf s.heap h' e (.ref C) vs) (J:E (.ref C) none H) :
  (Wh (fH P w) P w K mg base N qual scope f ar A outer s₀ H₀ E).xe (.ref e) { s with heap:=h' }:=by
 have p:(A.deeper (envOfC qual scope s₀.heap.objs.size f ar)).frames=some (envOfC qual scope s₀.heap.objs.size f ar :: outer):=I.ok.frames
 have stk:s.heap.FunFrames base (envOfC qual scope s₀.heap.objs.size f ar :: outer):=I.stack
 have free:∀ b∈dz (envOfC qual scope s₀.heap.objs.size f ar :: outer),H b=none:=I.stkFree
 have y:∀ env∈(envOfC qual scope s₀.heap.objs.size f ar :: outer),∀ b,env.frame=some b->b∈dz (envOfC qual scope s₀.heap.objs.size f ar :: outer):=λenv F b a=>ly.mpr ⟨env,F,a⟩
 have i:dz (envOfC qual scope s₀.heap.objs.size f ar :: outer)=s₀.heap.objs.size :: dz outer:=rfl
 have m:∀ b∈dz outer,∀ o,s₀.heap.get? b=some o->∀ vs,o.data≠.fields vs:=λb a o l vs hd=>by
  obtain ⟨_,o',r,B⟩:=I.ok.funs.mem a
  rw [show (Wh (fH P w) P w K mg base N qual scope f ar A outer s₀ H₀ E).s₀=s₀ from rfl] at r
  rw [l] at r
  cases r
  exact B vs hd
 refine wpAny_leaves_madeW (base:=PySem.W.hideAll s.heap (dz (envOfC qual scope s₀.heap.objs.size f ar :: outer))) p rfl (λb o q=>PySem.W.of_hideAll _ q) (PySem.W.funFrames_hide stk y) k λh2 t v tup M up=>?_
 have stay:∀ b o,s.heap.get? b=some o->b∉dz (envOfC qual scope s₀.heap.objs.size f ar :: outer)->h2.get? b=some o:=λb o q a=>v.1 b o (IW _ q a)
 have d:∀ b o,s₀.heap.get? b=some o->b∉dz outer->b∉dz (envOfC qual scope s₀.heap.objs.size f ar :: outer):=λb o q a g=>by
  rw [i] at g
  rcases aI.mp g with z | z
  .subst z
   exact absurd (A9 q) (oG _)
  .exact a z
 have noex:∀ b:Addr,b∉(Wh (fH P w) P w K mg base N qual scope f ar A outer s₀ H₀ E).ex:=λb z=>absurd (show b∈([]:List Addr) from z) (by simp)
 have sl:∀ b∈dz outer,∀ o,s₀.heap.get? b=some o->∃ sl,h2.get? b=some { o with slots:=sl }:=λb a o l=>by
  obtain ⟨x,e1⟩:=I.base.slot b o l (I.ok.frf b a) a (noex b)
  obtain ⟨L,e2⟩:=up b _ (k.keeps b _ e1) λvs hd=>m b a o l vs hd
  exact ⟨L,e2⟩
 refine ⟨e,C,H,rfl,I.os,I.bare,⟨λb o q n a _=>?_,λb o q n a _=>sl b a o q,λb o q n _=>I.base.free b o q n (noex b),λb o q _=>?_,I.base.tups,I.base.frzs,I.base.tbls⟩,?_,⟨?_,?_,_,t,v,λb o q=>?_,λb o q a=>?_⟩,J⟩
 .exact stay b o (I.base.keep b o q n a (noex b)) (d b o q a)
 .by_cases a:b∈dz outer
  .obtain ⟨s1,e1⟩:=sl b a o q
   exact ⟨_,e1⟩
  .obtain ⟨j,e1⟩:=I.base.there b o q (noex b)
   exact ⟨j,stay b j e1 (d b o q a)⟩
 .intro b o q
  refine (I.hok b o q).stay (λc u G e1=>stay c u e1 λg=>?_) (λ_ z=>z) λ_ _ z=>z
  have:=free c g
  rcases G with z | z
  .subst z; rw [q] at this; cases this
  .rw [z] at this; cases this
 .cases z:H e with
  | none=>rfl
  | some o =>
   obtain ⟨u,h⟩:=Qn (I.hok e o z)
   rw [k.new] at h
   cases h
 .cases z:s₀.heap.get? e with
  | none=>rfl
  | some o =>
   obtain ⟨u,h⟩:=I.base.there e o z (noex e)
   rw [k.new] at h
   cases h
 .obtain ⟨ob,e1⟩:=Qn (I.hok b o q)
  exact ⟨ob,IW _ e1 λg=>by have:=free b g; rw [q] at this; cases this⟩
 .obtain ⟨j,e1⟩:=I.base.there b o q (noex b)
  exact ⟨j,IW _ e1 (d b o q a)⟩
def Cm {P:Ej} {w:Ey} {K:A6} {mg:Str->Option Value} {base:Heap} {N:List Str} {qual:Str} {scope:Scope} {f:Addr} {ar:Value} {A:Around} {outer:List Env} {s₀:Shared} {H₀:Hp} {E:XK}
  {x z:Str} {j:Nat} {np p2 aO pos:Pos} {C:Addr} {bm:List Value} {B a n:String} (O:OwnCls x C bm a mg base) (h:ExcBaseFacts B a n bm) (hg:Gl (Wh (fH P w) P w K mg base N qual scope f ar A outer s₀ H₀ E) x) (hd:(x==("__debug__":Str))=false:=by decide) :
  PS (Wh (fH P w) P w K mg base N qual scope f ar A outer s₀ H₀ E) (.Raise (some (.Call (.Name x np) [.Constant (.str z) j p2] [] aO)) none pos) (λ_ _ H=>E (.ref C) none H):=by
 intro pins s σ H D' I u
 obtain ⟨tl,y,nm,q,bs,hdct,sn,sub,ab,col,dd,k0,k1,k2,k3,k5,mN,v,r,c,T⟩:=O.obj
 refine wpAny_Raise_call_subT (C:=C) (nm:=nm) (q:=q) (N:=y) (bs:=bs) (bm:=tl) (hdct:=hdct) (sn:=sn) (sub:=sub) (ab:=ab) (col:=col) (dd:=dd) (k0:=k0) (k1:=k1) (k2:=k2) (k3:=k3) (k5:=k5)
  h (mN:=mN) (T.hasType h.hasBase) (I.ok.hd rfl) rfl c (ZW I hg O.bound ⟨rfl,?_⟩ hd)
 have m:=z8 (X:=Wh (fH P w) P w K mg base N qual scope f ar A outer s₀ H₀ E) (FO (x:=z) (j:=j) (pos:=p2)) xx
 refine Calls.evalArgs_plain (thn (m aO pins s σ H (λvs H1=>vs=[V.str z]/\H1=H) I ⟨rfl,rfl⟩) λus s2 ⟨vs,H1,g,i,l,k⟩=>?_)
 subst k
 have d:∀ b o,base.get? b=some o->s2.heap.get? b=some o:=g.bk
 refine ⟨rfl,?_,d _ _ v,r.keeps d,T.keeps d,λh' e p=>SF g p u⟩
 show us.length<=sizeLine
 rw [<- i.length,l]
 show 1<=sizeLine
 decide
def Fl   {h h1 h2 B:Heap} (u:Un fs [] H H' h h1) (fr:∀ b∈fs,H b=none/\∀ o,h.get? b=some o->∀ vs,o.data≠.fields vs)
  (d:∀ b o,h.get? b=some o->b∉fs->∃ ob,B.get? b=some ob) (k1:B.StaysIn h1) (k2:B.StaysIn h2) (up:h1.UpToSlots h2):Un fs [] H H' h h2:=by
 have same:∀ b o o',h.get? b=some o'->b∉fs->h1.get? b=some o->h2.get? b=some o:=λb o o' q n e=>by
  obtain ⟨ob,z⟩:=d b o' q n
  have:=k1 b ob z
  rw [e] at this
  cases this
  exact k2 b _ z
 have c:∀ b o,h.get? b=some o->b∈fs->∃ sl,h2.get? b=some { o with slots:=sl }:=λb o q a=>by
  obtain ⟨n,nf⟩:=fr b a
  obtain ⟨s1,e1⟩:=u.slot b o q n a (by simp)
  obtain ⟨s2,e2⟩:=up b _ e1 λvs=>nf o q vs
  exact ⟨s2,e2⟩
 refine ⟨λb o q n a _=>same b o o q a (u.keep b o q n a (by simp)),λb o q _ a _=>c b o q a,λb o q n _=>u.free b o q n (by simp),λb o q _=>?_,u.tups,u.frzs,u.tbls⟩
 by_cases a:b∈fs
 .obtain ⟨sl,e⟩:=c b o q a
  exact ⟨_,e⟩
 .obtain ⟨o',e⟩:=u.there b o q (by simp)
  exact ⟨o',same b o' o q a e⟩
def G4    {h1 h2 B:Heap} (k:cz P w H h1) (g:∀ b o,H b=some o->∃ ob,B.get? b=some ob) (k1:B.StaysIn h1) (k2:B.StaysIn h2):cz P w H h2:=λb o q=>by
 refine (k b o q).stay (λc u a e=>?_) (λ_ z=>z) λ_ _ z=>z
 have:∃ oc,H c=some oc:=by
  rcases a with z | z
  .subst z; exact ⟨_,q⟩
  .exact ⟨_,z⟩
 obtain ⟨oc,d⟩:=this
 obtain ⟨ob,z⟩:=g c oc d
 have:=k1 c ob z
 rw [e] at this
 cases this
 exact k2 c _ z
def Fk (a C:Addr) (h:Heap):Prop:=∃ o,h.get? a=some o/\o.cls=.ref C
def oU (a C:Addr):HO:=.ext (Fk a C)
def Rb (u:Un fs [] H H' h h1) (j:h.get? a=none) (i:H' a=none):Un fs [] H (upd H' a o) h h1:=by
 have d:∀ b ob,h.get? b=some ob->b≠a:=λb ob q z=>by subst z; rw [j] at q; cases q
 have c:∀ b ob,H' b=some ob->b≠a:=λb ob q z=>by subst z; rw [i] at q; cases q
 refine ⟨u.keep,u.slot,λb ob q n g=>by rw [zw (d b ob q)]; exact u.free b ob q n g,u.there,λb xs q=>by rw [zw (c b _ (u.tups b xs q))]; exact u.tups b xs q,
  λb ob x q=>by rw [zw (c b _ (u.frzs b ob x q))]; exact u.frzs b ob x q,λb ps q=>?_⟩
 obtain ⟨m,e⟩:=u.tbls b ps q
 exact ⟨m,by rw [zw (c b _ e)]; exact e⟩
def N1 (k:cz P w H h) (d:H a=none) (x:Fk a C h):cz P w (upd H a (oU a C)) h:=λb o q=>by
 by_cases z:b=a
 .subst z
  rw [zq] at q
  cases q
  obtain ⟨ob,e,c⟩:=x
  exact ⟨⟨ob,e,c⟩,⟨ob,e⟩,λh1 h2 ⟨g,e1,i⟩ kk=>⟨g,kk _ e1,i⟩⟩
 .rw [zw z] at q
  exact (k b o q).stay (λ_ _ _ e=>e) (λc e=>by rw [zw (zU e d)]; exact e) λc xs e=>by rw [zw (zU e d)]; exact e
abbrev tq (X:Cx) (e:Value):Cx:={ X with A:=X.A.mark (some e),calm:=false }
section
variable {X:Cx} {pins:List (Addr×Obj)} {σ:St} {H:Hp} {s:Shared} {e:Value}
def GX (I:Inv X pins σ H s):Inv (tq X e) pins σ H s :=
 ⟨⟨I.ok.mod,I.ok.kind,I.ok.glob,I.ok.blt,I.ok.above,I.ok.inj,I.ok.has,I.ok.cab,(λz=>by cases z),I.ok.frames,I.ok.stk,I.ok.exf,I.ok.bs,I.ok.bsz,I.ok.noex,I.ok.exfs,I.ok.funs,I.ok.frf⟩,I.os,I.bare,I.base,I.loc,I.cell,I.free,I.freeC,I.pin,I.hok,I.len⟩
def GV (hd:X.calm=true->X.A.handled=none) (I:Inv (tq X e) pins σ H s):Inv X pins σ H s :=
 ⟨⟨I.ok.mod,I.ok.kind,I.ok.glob,I.ok.blt,I.ok.above,I.ok.inj,I.ok.has,I.ok.cab,hd,I.ok.frames,I.ok.stk,I.ok.exf,I.ok.bs,I.ok.bsz,I.ok.noex,I.ok.exfs,I.ok.funs,I.ok.frf⟩,I.os,I.bare,I.base,I.loc,I.cell,I.free,I.freeC,I.pin,I.hok,I.len⟩
end
structure Catches (K:A6) (D C:Addr):Prop where
 ty:PySem.W.typeIn K (.ref D)=some (.type "type")
 cls:Lp K D=true
 exc:PySem.W.subIn K (.ref D) (.type "BaseException")=some true
 sub:PySem.W.subIn K (.ref C) (.ref D)=some true
def DD {K:A6} {D C a:Addr} (c:Catches K D C) (X:K.In s.heap) (x:Fk a C s.heap) (h:Q true s) :
  A_ M A (excMatches (.ref a) (.ref D)) Q E s:=by
 obtain ⟨hh,g,d,t,os⟩:=s
 obtain ⟨o,e,i⟩:=x
 have u:=PySem.W.looks_typeIn (M:=M) X c.ty
 have r:PySem.W.Looks M hh (isSubtype (.type "type") (.type "tuple")) false:=PySem.W.Looks.of_pure (by rw [IH]; kernel_rfl)
 have p:=PySem.W.looks_subIn (M:=M) X c.exc
 have n:PySem.W.Looks M hh (typeOf (.ref a)) (.ref C):=i ▸ (PySem.W.Looks.ld e).andThen .now
 have m:=PySem.W.looks_subIn (M:=M) X c.sub
 have l:PySem.W.Looks M hh (isInstance (.ref D) (.type "tuple")) false:=u.andThen r
 have j:PySem.W.Looks M hh (isType (.ref D)) true:=by
  obtain ⟨v,z,_⟩:=PySem.W.any_some c.cls
  unfold PySem.W.clsIn at z
  split at z
  .rename_i b
   intro B w y s' k q
   unfold isType loadHead
   exact ls (wpAny_loadPart (k _ _ (X _ _ b)) (u0 q))
  .cases z
 unfold excMatches isExcClass
 refine ls (l.at ?_)
 simp only [cS,if_false]
 refine ls (u0 ?_)
 simp only [AF,List.forIn_nil]
 refine ls (ls (ls (ls (j.at ?_))))
 rw [if_pos rfl]
 refine p.at ?_
 simp only [mD,cS,if_false]
 refine u0 (u0 (ls (n.at ?_)))
 refine ls (ls (ls (m.at ?_)))
 rw [if_pos rfl]
 refine u0 (u0 ?_)
 exact u0 h
def Z4       {K:A6} {e D C:Addr} (c:Catches K D C) {vT:List ExceptHandler}
  (h:A_ (Ec prog w) (A.mark (some (.ref e))) (eval t env) (λc a=>c=.ref D/\K.In a.heap/\Fk e C a.heap ∧
   A_ (Ec prog w) (A.mark (some (.ref e))) (setFlight (.ref e) none) (λ_ d =>
     A_ (Ec prog w) (A.mark (some (.ref e))) (storeName env n (.ref e)) (λ_ b =>
      A_ (Ec prog w) (A.mark (some (.ref e))) (execs (g :: j) env)
       (λf l=>A_ (Ec prog w) A (do bindName env n .none; unbindBehindTheSuite env n pos) (λ_ i=>Q f i) E l)
       (λ_ _=>False) b) (λ_ _=>False) d) (λ_ _=>False) a) (λ_ _=>False) s) :
  A_ (Ec prog w) A (handleBy (.ref e) env (.ExceptHandler (some t) (some n) (g :: j) pos :: vT)) Q E s:=by
 refine wpAny_handleBy_cons (codeAny_handlers_test (Ef h (λc a m=>?_) λ_ _ y=>y.elim)) (by intro q; cases q)
 obtain ⟨rfl,o,x,k⟩:=m
 refine DD ‹_› o x (codeAny_handlers_suite_as ?_)
 refine Ef k (λ_ d k2=>?_) λ_ _ y=>y.elim
 refine Ef k2 (λ_ b k3=>?_) λ_ _ y=>y.elim
 exact Ef k3 (λ_ _ z=>z) λ_ _ y=>y.elim
section
variable {X:Cx} {pins:List (Addr×Obj)} {σ:St} {H:Hp} {s:Shared}
def Dh (I:Inv X pins σ H s) (M:X.N.Nodup) (hi:X.N[i]? = some n) (A:s.heap.Ns X.env.locals m) (Q:h'.Ns X.env.locals (λy=>if y=n then u else m y))
  (a:Heap.SameBut X.env.locals s.heap h'):Inv X pins (σ.set i none) H { s with heap:=h',toks:=t' }:=by
 have O:i < σ.length:=by rw [I.len]; exact (dw.mp hi).1
 obtain ⟨F,l,L⟩:=id I.loc
 obtain ⟨R,_,_,J,_⟩:=id A
 have em:∀ y,F y=m y:=λy=>by rw [l.eq_nsMap,<- A.eq_nsMap]
 refine ⟨I.ok,I.os,I.bare,⟨λb o e n v g=>?_,λb o e n v g=>?_,I.base.free,λb o e g=>?_,I.base.tups,I.base.frzs,I.base.tbls⟩,⟨_,Q,λj y B e1 e2 P=>?_⟩,λy c e=>?_,I.free,I.freeC,λp G=>?_,λb ob e=>?_,by simpa using I.len⟩
 .exact (a.2 b (cR (eK (A9 e) I.ok.above))).trans (I.base.keep b o e n v g)
 .obtain ⟨sl,e1⟩:=I.base.slot b o e n v g
  exact ⟨sl,(a.2 b (cR (eK (A9 e) I.ok.above))).trans e1⟩
 .obtain ⟨o',e1⟩:=I.base.there b o e g
  exact ⟨o',(a.2 b (cR (eK (A9 e) I.ok.above))).trans e1⟩
 .by_cases r:j=i
  .subst r
   rw [nH O] at e2
   cases e2
  .rw [hU (EF r)] at e2
   obtain ⟨C,E,q⟩:=L j y B e1 e2 P
   refine ⟨C,E,?_⟩
   rcases q with ⟨k,e⟩ | ⟨k,c,e,z⟩
   .refine .inl ⟨k,?_⟩
    have:y≠n:=λe=>r (XG M e1 (e ▸ hi))
    rw [em] at e
    simp [this,e]
   .exact .inr ⟨k,c,e,z.sameBut a (I.cne y c e)⟩
 .obtain ⟨w,z⟩:=I.cell y c e
  exact ⟨w,z.sameBut a (I.cne y c e)⟩
 .obtain ⟨e,n,x,nf,d⟩:=I.pin p G
  exact ⟨(a.2 p.1 x).trans e,n,x,nf,d⟩
 .refine (I.hok b ob e).stay (λc w h q=>(a.2 c ?_).trans q) (λ_ q=>q) λ_ _ q=>q
  intro z
  subst z
  have f:=I.free
  rcases h with h | h
  .rw [h,e] at f; cases f
  .rw [h] at f; cases f
def Gz (I:Inv X pins σ H s) (c:X.N.Nodup) (hi:X.N[i]? = some n) (a:X.env.scope.names.lookup n=some .local)
  (h:∀ s',Inv X pins (σ.set i none) H s'->Q () s'):A_ M A (do bindName X.env n .none; unbindBehindTheSuite X.env n pos) Q E s:=by
 have j:(X.env.scope.kind==.class||(X.env.scope.kind==.module&&X.env.locals != X.env.globals))=false:=by rw [I.ok.kind]; rfl
 refine ls (wpAny_bindName (uY (v:=.non) I c hi (.inl a) rfl (λs1 d=>?_) (.inr a)))
 obtain ⟨m,b,g⟩:=id d.loc
 have l:i < σ.length:=by rw [I.len]; exact (dw.mp hi).1
 obtain ⟨u,r,lk⟩:=g i n .non hi (nH l) (.inl a)
 have k:m n=some u:=by
  rcases lk with z | ⟨z,_⟩
  .exact z.2
  .have:X.env.kindOf n=some .local:=a
   rcases z with z | z <;> (rw [this] at z; cases z)
 unfold unbindBehindTheSuite
 refine LC (wpAny_unbindName_local a b k j λh' q p o=>?_)
 have J:=Dh (t':=s1.toks) d c hi b p o
 rw [List.set_set] at J
 exact h _ J
end
def PTr (X:Cx) (body:List Stmt) (t:XK->TS):Prop :=
 ∀ (pins:List (Addr×Obj)) (s:Shared) (σ:St) (H:Hp) (D:Ends) (E:XK),Inv X pins σ H s->t E D σ H->A_ (Ec X.prog X.w) X.A (execs body X.env) (SP X pins D) (λe s'=>∃ a s0,Inv X pins σ a s0/\fH X.prog X.w X.stack a s0 E e s') s
def RM (x:PTr X body tb) (bp:X.stack=X.env :: X.outer/\X.env.frame=some X.env.locals) {D:Addr} (hg:Gl X P) (hD:X.mg P=some (.ref D)) (Q:X.N.Nodup) (hi:X.N[i]? = some n)
  (G:X.env.scope.names.lookup n=some .local) (Z:∀ a,fG ((tq X (.ref a)).wish λ_ _=>False) (W :: Y) ts) (M:(P==("__debug__":Str))=false:=by decide) :
  PS X (.Try body [.ExceptHandler (some (.Name P dp)) (some n) (W :: Y) hp] [] [] pos)
   (λF σ H=>tb (λcl _ H'=>∃ C,cl=.ref C/\Catches X.K D C/\∀ a,H' a=none->ts { nx:=λaC H2=>F.nx (aC.set i none) H2,rt:=λ_ _=>False } (σ.set i (some (.ref a))) (upd H' a (oU a C))) F σ H):=by
 intro pins s σ H F I h
 refine wpAny_Try_except (Ef (x pins s σ H F _ I h) (λf s1 q=>?_) λe s1 ⟨H0,s0,y,a,C,H1,ea,os,bare,un,hok,⟨E,O,B,t,l,r,w⟩,C',eC,ct,hq⟩=>?_)
 .cases f with
  | next=>exact Iz q
  | ret u=>exact q
  | brk=>exact q
  | cont=>exact q
 subst ea
 cases eC
 have fr:∀ b∈dz X.stack,H0 b=none/\∀ o,s0.heap.get? b=some o->∀ vs,o.data≠.fields vs:=λb x=>by
  refine ⟨y.stkFree b x,λo q vs hd=>?_⟩
  obtain ⟨_,o',S,nf⟩:=y.stack.mem x
  rw [q] at S
  cases S
  exact nf vs hd
 have m:∀ h2:Heap,B.StaysIn h2->s1.heap.UpToSlots h2->Inv X pins σ H1 { s1 with heap:=h2 }:=λh2 k up =>
  y.call' (ch:=[]) os (Fl un fr w l.1 k up) (G4 hok r l.1 k) bare (λb z=>absurd z (by simp))
 have L:X.A.frames=some (X.env :: X.outer):=by rw [I.ok.frames,bp.1]
 rw [bp.1] at l
 refine wpAny_looks_onW L bp.2 l λh2 p g=>?_
 refine wpAny_landsW p λR c d=>?_
 refine Z4 ct (ZW (X:=tq X (.ref a)) (GX (m R c.1 (g.trans d))) hg hD ⟨rfl,(m R c.1 (g.trans d)).kIn,c.there,?_⟩ M)
 refine lands_againW c λh4 j A=>?_
 have J:Inv X pins σ (upd H1 a (oU a C)) { s1 with heap:=h4 } :=
  y.call' (ch:=[]) os (Rb (Fl un fr w l.1 j.1 ((g.trans d).trans A)) O E) (N1 (G4 hok r l.1 j.1) E j.there) bare (λb z=>absurd z (by simp))
 refine uY (X:=tq X (.ref a)) (v:=.ref a) (GX J) Q hi (.inl G) rfl (λT I5=>?_) (.inr G)
 refine Ef (Z a pins T _ _ _ (I5.wish _) (hq a E)) (λf s6 q=>?_) λ_ _ z=>z
 cases f with
 | next =>
  obtain ⟨aC,H2,I6,U⟩:=q
  exact Gz (GV I.ok.hd I6.unwish) Q hi G λs7 I7=>⟨_,_,I7,U⟩
 | ret u=>obtain ⟨_,_,_,_,_,z⟩:=q; exact z.elim
 | brk=>obtain ⟨_,_,_,z⟩:=q; exact z.elim
 | cont=>obtain ⟨_,_,_,z⟩:=q; exact z.elim
end FL
namespace FL
open PySem PySem.Spec PySem.Calls PyProof.Rows L2
structure ExcCls (K:A6) (C:Addr):Prop where
 ga:II K (.ref C) "__getattribute__"=some (some (.builtin "BaseException.__getattribute__"))
 gh:II K (.ref C) "__getattr__"=some none
 ca:II K (.ref C) "__class__"=some (some (.builtin "object.__class__"))
 gt:PySem.W.specialIn K (.builtin "object.__class__") "__get__"=some (some (.builtin "getset_descriptor.__get__"))
 tk:PySem.W.takesIn K (.builtin "object.__class__")=some true
 ob:PySem.W.mroIn K C (.type "object")=some true
 be:PySem.W.mroIn K C (.type "BaseException")=some true
 cl:Lp K C=true
section
variable {prog:Ej} {w:Ey} {A:Around} {E:Value->Shared->Prop} {s:Shared} {K:A6} {a C:Addr}
def Uz (x:Fk a C h):PySem.W.Looks M h (typeOf (.ref a)) (.ref C):=by
 obtain ⟨o,e,c⟩:=x
 exact c ▸ (PySem.W.Looks.ld e).andThen .now
open PySem.W PySem.Builtin PySem.Builtin.ObjectAttr PySem.Builtin.Getset_descriptor in
def Tg (c:ExcCls K C) (X:K.In s.heap) (x:Fk a C s.heap) (h:R (.ok (.ret (.ref C))) s) :
  codeAny (Ec prog w) A (.call (.builtin "getset_descriptor.__get__") ⟨[.builtin "object.__class__",.ref a,tp],[]⟩) R s:=by
 obtain ⟨hh,g,b,t,os⟩:=s
 have e:=Uz (M:=Ec prog w) x
 have d:=PySem.W.looks_mroIn (M:=Ec prog w) X c.ob
 refine codeAny_call_builtin KF.slot_gs.plain KF.entry_gs (KF.slot_gs.check _ _ _ _ _ _ _ _ KF.type_class (KF.args_gs _ _ _) ?_)
 unfold Builtin.«getset_descriptor.__get__» descrGet
 rw [dga_obj]
 refine ls (u0 ?_)
 unfold descrGetter descrCheckInstance descrNameAndClass isInstance
 simp only [KF.owner_class]
 repeat lk
 refine ⟨Code.quiet_builtin _ (by decide +kernel),codeAny_builtin KF.entry_class ?_⟩
 unfold Builtin.«object.__class__» shownTypeOf
 repeat lk
 exact h
open PySem.W PySem.Builtin PySem.Builtin.ObjectAttr PySem.Builtin.Getset_descriptor in
def Pb (c:ExcCls K C) (X:K.In h):Looks M h (find (.ref a) (.ref C) "__class__") (.bind (.builtin "getset_descriptor.__get__") (.builtin "object.__class__")):=by
 have e:=looks_findIn (M:=M) X c.ca
 have d:=looks_specialIn (M:=M) X c.gt
 have b:=looks_takesIn (M:=M) X c.tk
 unfold find
 refine e.andThen (d.andThen ?_)
 refine Looks.andThen (a:=some (.builtin "getset_descriptor.__get__",.builtin "object.__class__")) (b.andThen .now) ?_
 exact Looks.tag .now
open PySem.W PySem.Builtin PySem.Builtin.ObjectAttr PySem.Builtin.Getset_descriptor in
def Th (c:ExcCls K C) (X:K.In s.heap) (x:Fk a C s.heap) (h:Q (some (.ref C)) { s with toks:=s.toks+1 }):A_ (Ec prog w) A (getAttr? (.ref a) "__class__") Q E s:=by
 obtain ⟨hh,g,d,t,os⟩:=s
 have b:=Uz (M:=Ec prog w) x
 have n:=looks_findIn (M:=Ec prog w) X c.ga
 have m:=looks_findIn (M:=Ec prog w) X c.gh
 unfold getAttr? getAttrBy? getAttrBy
 refine ls (wpAny_mkText (ls (EL (EK (ls (b.at (ls (n.at ?_))))))))
 show A_ _ _ (getAttrByItsOwn (.ref a) _ (.ref C) (.builtin "BaseException.__getattribute__") false false) _ _ _
 unfold getAttrByItsOwn
 refine ls ?_
 refine m.at ?_
 refine ls (EL (EK ?_))
 show A_ _ _ (boundAndCalled (.builtin "BaseException.__getattribute__") (.ref a) _) _ _ _
 unfold boundAndCalled
 rw [F.excAttr_ValueError.ga.bind]
 refine ls (u0 ?_)
 have k:=Pb (a:=a) (M:=Ec prog w) c X
 have l:=looks_mroIn (M:=Ec prog w) X c.be
 refine wpAny_call (codeAny_call_builtin F.excAttr_ValueError.ga.plain F.entry_bexc_ga ?_)
 have i:builtinKind "BaseException.__getattribute__"=some .slot:=by decide +kernel
 have f:splitId "BaseException.__getattribute__"=some ("BaseException","__getattribute__"):=by decide +kernel
 have j:=F.args_bexc_ga (.ref a) (Value.str (EG "__class__") t)
 simp only [checkBuiltinCall,i,f]
 refine ls ((b.andThen l).at ?_)
 rw [if_neg (by decide)]
 have e:=j
 unfold argsOk at e
 refine (congrArg (λz=>A_ (Ec prog w) A.in1 z _ _ _) e).mpr ?_
 refine u0 ?_
 unfold Builtin.«object.__getattribute__»
 refine ls (u0 (ls (u0 (ls (b.at (ls (k.at ?_)))))))
 show A_ _ _ (holding [.builtin "object.__class__"] (call (.builtin "getset_descriptor.__get__") [.builtin "object.__class__",.ref a,.ref C]) >>= ret) _ _ _
 refine ls (EK (wpAny_call (Tg (s:=⟨hh,g,d,t+1,os⟩) c X x ?_)))
 exact u0 (handed_on rfl (u0 h))
open PySem.W in
def XO (c:ExcCls K C):KitX K (.ref a) (.ref C) (Fk a C) where
 ty:=λ_ _ _ x=>Uz x
 it:=λ_ _ X _=>by
  obtain ⟨g,b,_⟩:=any_some c.cl
  unfold clsIn at b
  split at b
  .rename_i f
   intro l i j s' k q
   unfold isType loadHead
   exact ls (wpAny_loadPart (k _ _ (X _ _ f)) (u0 q))
  .cases b
 ne:=λh tp dd af n sl X d=>by
  obtain ⟨g,b,_⟩:=any_some c.cl
  refine Bool.eq_false_iff.mpr λq=>?_
  have e:C=tp:=EA.inj (beq_iff_eq.mp q)
  subst e
  unfold clsIn at b
  split at b
  .rename_i f
   have z:=(X _ _ f).symm.trans d
   cases z
  .cases b
 ca:=λX x k=>Th c X x k
end
def zdx (K:A6) (xs:List V) (H:Hp) (Q:VK):Prop:=∃ a C b,ExcCls K C/\H a=some (oU a C)/\Q (.bl b) H ∧
 ((∃ T,xs=[.ref a,.ty T]/\E_ K (.ref C) (.type T)=some b)\/(∃ D,xs=[.ref a,.ref D]/\E_ K (.ref C) (.ref D)=some b) ∨
  ∃ (tp:Addr) (c:List Addr),xs=[.ref a,.ref tp]/\H tp=some (.tup (c.map V.ref))/\PySem.W.kitAny K (.ref C) (c.map EA)=some b)
theorem Wm:∀ {a:List Addr} {us:List Value},yS (a.map V.ref) us->us=a.map EA
 | [],_,.nil=>rfl
 | c :: r,_,.cons h t=>by rw [Wm t]; cases h; rfl
def X5  : wU X (.builtin "isinstance") (zdx X.K):=by
 intro pins s σ H xs us Q I r ⟨a,C,b,c,o,m,h⟩
 have x:Fk a C s.heap:=(I.hok a _ o).1
 have fin:∀ tk,EP X pins σ Q (.bool b) { s with toks:=tk }:=λtk=>⟨.bl b,H,I.tok tk,rfl,m⟩
 rcases h with ⟨T,e,k⟩ | ⟨D,e,k⟩ | ⟨tp,q,e,ht,k⟩
 .subst e
  obtain _ | ⟨f,_ | ⟨d,_ | _⟩⟩:=r
  cases f
  cases d
  exact E4 (XO c) I.kIn x k (by intro z; cases z) fin
 .subst e
  obtain _ | ⟨f,_ | ⟨d,_ | _⟩⟩:=r
  cases f
  cases d
  exact E4 (XO c) I.kIn x k (by intro z; cases z) fin
 .subst e
  obtain _ | ⟨f,_ | ⟨d,_ | _⟩⟩:=r
  cases f
  cases d
  obtain ⟨_,af,j,ob,p,i,n,g⟩:=I.hok tp _ ht
  have e2:=Wm j
  subst e2
  obtain ⟨oc,od,l,fK⟩:=ob
  dsimp only at i g
  subst i g
  exact PySem.W.kia_tup (XO c) I.kIn x p k (by intro z; cases z) fin
end FL
namespace FL
open PySem PySem.Spec PyProof.Rows L2
inductive OutX where
 | o (x:Out)
 | ex (n:Str)
abbrev h_:=bj->Option OutX
def zae (mg:Str->Option Value) (K:A6) (H₀ aa Hf:Hp) (D':Ends) (E:XK):OutX->Prop
 | .o x=>P8 K H₀ aa Hf D' x
 | .ex n=>∀ C aC aD H' ah,mg n=some (.ref C)->Rep K H₀ aa aC aD H' ah->z7 Hf ah->E (.ref C) none H'
def zae.mono  {K:A6} (k:zae mg K H₀ aa Hf D' E o) (t:z7 Hf a):zae mg K H₀ aa a D' E o:=by
 cases o with
 | o x=>exact P8.mono k t
 | ex n=>exact λC aC aD H' ah m R s=>k C aC aD H' ah m R (t.trans s)
inductive tX (mg:Str->Option Value) (K:A6) (E:XK) (G:h_) (D':Ends) (σ:St) (H:Hp):Prop
 |mk (H₀ aa ρ Hf o) (a0:Rep K H₀ aa σ ρ H Hf) (a1:G ρ=some o) (a2:zae mg K H₀ aa Hf D' E o)
def DX (X:Cx) (E:XK) (st:Stmt) (G:h_):Prop:=PS X st (tX X.mg X.K E G)
def nR (X:Cx) (E:XK) (il:List Stmt) (G:h_):Prop:=fG X il (tX X.mg X.K E G)
section
variable {X:Cx} {E:XK} {c tg iter:Expr} {fi:FA} {ft:FT} {pos:Pos} {st:Stmt} {il vT body:List Stmt} {F:FS} {G G1 G2 B:h_} {γ:FG}
def SA (F:FS):h_:=λρ=>(F ρ).map OutX.o
def nxX:h_:=λρ=>some (.o (.nx ρ))
def Pf:nR X E [] nxX:=j6 XD λD' σ H ⟨H₀,aa,ρ,Hf,o,R,q,k⟩=>by cases q; exact k _ _ _ R zE
def sqX (F G:h_):h_:=λρ=>(F ρ).bind λo=>match o with
 | .o (.nx aD)=>G aD
 | o=>some o
def DK (h1:DX X E st G1) (h2:nR X E vT G2):nR X E (st :: vT) (sqX G1 G2):=j6 (xi h1 h2) λD' σ H ⟨H₀,aa,ρ,Hf,o,R,q,k⟩=>by
 obtain ⟨a,e1,e2⟩:=fy.mp q
 refine ⟨H₀,aa,ρ,Hf,a,R,e1,?_⟩
 cases a with
 | ex n=>cases e2; exact k
 | o x =>
  cases x with
  | nx aD=>exact λaC H' ah R' s'=>⟨H₀,aa,aD,ah,o,R',e2,k.mono s'⟩
  | bk _=>cases e2; exact k
  | ct _=>cases e2; exact k
  | rt _=>cases e2; exact k
def Pe (h1:DX X E st G):nR X E [st] G:=ZG h1
def ifX (c:FT) (F G:h_):h_:=λρ=>(c ρ).bind λb=>if b=true then F ρ else G ρ
def zbk (g:DT X c ft) (i:nR X E a G1) (h:nR X E b G2):DX X E (.If c a b pos) (ifX ft G1 G2):=x8 (Co g i h) λD' σ H ⟨H₀,aa,ρ,Hf,o,R,q,k⟩=>by
 obtain ⟨x,e1,e2⟩:=fy.mp q
 refine ⟨H₀,aa,ρ,Hf,x,R,e1,λH1 e f s1 d=>?_⟩
 cases x with
 | true=>exact Kb ⟨H₀,aa,ρ,e,o,f,e2,k.mono d⟩
 | false=>exact GT ⟨H₀,aa,ρ,e,o,f,e2,k.mono d⟩
end
abbrev zaf:List Value:=[.type "ValueError",.type "Exception",.type "BaseException",.type "object"]
structure ExT (K:A6) (mg:Str->Option Value) (x:Str) (C:Addr):Prop where
 at_:mg x=some (.ref C)
 ok:PySem.W.excIn K C zaf "ValueError.__new__"=true
set_option tactic.hygienic true in
open PySem.W in
def ExT.own {K:Frag} (e:ExT K mg x C) (X:K.In h):OwnCls x C zaf "ValueError.__new__" mg h:=by
 refine ⟨e.at_,?_⟩
 have q:=e.ok
 unfold excIn at q
 split at q
 .rename_i dd cd sl f
  split at q
  .rename_i i bm k0 k1 k2 k3 n k5 hm b
   simp only [cO,beq_iff_eq,Bool.not_eq_true'] at q
   obtain ⟨⟨⟨⟨⟨rfl,rfl⟩,c⟩,ht⟩,hok⟩,a⟩:=q
   obtain ⟨nm,bs,mro,ns,d,hd,sn,sub,ab,col,g⟩:=cd
   dsimp only at hm c hok a
   subst hm c
   obtain ⟨l⟩:=sl
   dsimp only at b
   subst b
   exact ⟨bm,ns,nm,d,bs,hd,sn,sub,ab,col,dd,k0,k1,k2,k3,k5,_,X _ _ f,.of_isNs (isNs_of_in X hok),nsMap_none_of_in X hok a,tail_of_in X ht⟩
  .cases q
 .cases q
def exX (n:Str):h_:=λ_=>some (.ex n)
def DL   {K:A6}
        (O:ExT K mg x C) (hg:Gl (Wh (fH P w) P w K mg base N qual scope f ar A outer s₀ H₀ E) x) (hd:(x==("__debug__":Str))=false:=by decide) :
    DX (Wh (fH P w) P w K mg base N qual scope f ar A outer s₀ H₀ E) E (.Raise (some (.Call (.Name x np) [.Constant (.str z) j p2] [] aO)) none pos) (exX x):=λpins s σ H D' I ⟨a,aa,ρ,Hf,o,R,q,k⟩=>by
  cases q
  exact Cm (O.own I.mod.kin) PySem.F.excBase_ValueError hg hd pins s σ H D' I (k C σ ρ H Hf O.at_ R zE)
inductive RX where
 | v (d:D)
 | ex (n:Str)
def nW (mg:Str->Option Value) (K:A6) (n:Nat) (g:List D->Option RX):Sp:=λvs H Q E=>∃ Hf ds r,z7 Hf H/\zP K Hf ds vs/\ds.length=n/\g ds=some r/\match r with
 | .v d=>∀ v H' ah,Grows H Hf H' ah->ae K ah d v->Q v H'
 | .ex x=>∀ C H' ah,mg x=some (.ref C)->Grows H Hf H' ah->E (.ref C) none H'
def T4 (o:Option OutX):Option RX:=match o with
 | some (.o (.rt d))=>some (.v d)
 | some (.o (.nx _))=>some (.v .non)
 | some (.ex n)=>some (.ex n)
 | _=>none
def P3 (m:Nat) (G:h_):List D->Option RX:=λds=>T4 (G (qW m ds))
set_option tactic.hygienic true in
def N7   {K:A6} {st:Stmt} (j:N.length=m) (i:ps.length=n) (l:Fun K x qual st f fd) (S:FnScope N ps (zl st))
  (body:∀ (ar:Value) (A:Around) (outer:List Env) (s:Shared) (H:Hp) (E:XK),Room k (A.deeper (envOfC qual (zl st) s.heap.objs.size f ar)) →
   nR (Wh (fH P w) P w K mg base N qual (zl st) f ar A outer s H E) E (wo st) G) :
  FnOk P w K mg base (fH P w) (k+1) f fd ps (nW mg K n (P3 m G)):=by
 subst j i
 obtain ⟨oc,od,kV,doc,pm,an,ar,ct,fK,rfl,lk,b⟩:=l.ex
 refine Tc lk b S (λvs H Q E h=>?_) (λA outer s H vs Q E g h=>?_)
 .obtain ⟨Hf,ds,d,_,h1,h2,_⟩:=h
  rw [h1.length]; exact h2
 .obtain ⟨Hf,ds,r,sf,h1,h2,a,q⟩:=h
  refine ⟨_,body ar A outer s H E g,?_⟩
  unfold P3 T4 at a
  have R:=ZE (N:=N) sf h1
  split at a
  .cases a
   rename_i d e
   exact ⟨H,Hf,_,Hf,_,R,e,λv aC aD H' ah R' _ c=>q v H' ah ⟨R'.s0,R'.f0,R'.sf,R'.nf⟩ c⟩
  .cases a
   rename_i aD e
   exact ⟨H,Hf,_,Hf,_,R,e,λaC H' ah R' _=>q _ H' ah ⟨R'.s0,R'.f0,R'.sf,R'.nf⟩ (Ex.mpr rfl)⟩
  .cases a
   rename_i n e
   exact ⟨H,Hf,_,Hf,_,R,e,λC aC aD H' ah m R' _=>q C H' ah m ⟨R'.s0,R'.f0,R'.sf,R'.nf⟩⟩
  .cases a
structure HasFnX (P:Ej) (w:Ey) (K:A6) (mg:Str->Option Value) (base:Heap) (k:Nat) (x:Str) (n:Nat) (g:List D->Option RX):Prop where
 ex:∃ (f:Addr) (fd:Ih) (ps:List Str),FnOk P w K mg base (fH P w) k f fd ps (nW mg K n g)/\mg x=some (.ref f)/\W.keepIn K (.ref f)=true/\Wg K fd ps []
section
variable {mg:Str->Option Value} {K:A6} {n:Nat} {g:List D->Option RX} {vs:List V} {H Hf:Hp} {Q:VK} {E:XK} {ds:List D}
def zar (sf:z7 Hf H) (b:zP K Hf ds vs) (a:ds.length=n) (e:g ds=some (.v d)) (k:∀ v H' ah,Grows H Hf H' ah->ae K ah d v->Q v H'):nW mg K n g vs H Q E:=⟨Hf,ds,_,sf,b,a,e,k⟩
def Rk (sf:z7 Hf H) (b:zP K Hf ds vs) (a:ds.length=n) (e:g ds=some (.ex x)) (k:∀ C H' ah,mg x=some (.ref C)->Grows H Hf H' ah->E (.ref C) none H'):nW mg K n g vs H Q E:=⟨Hf,ds,_,sf,b,a,e,k⟩
end
section
variable {X:Cx} {o e:Expr} {f g:FE} {kk:Nat}
end
section
variable {X:Cx} {o e:Expr} {f g:FE} {kk:Nat}
end
section
variable {prog:Ej} {w:Ey} {A:Around} {E:Value->Shared->Prop} {s:Shared} {l:Addr} {xs:Array (Int×Tok)}
end
section
variable {X:Cx}
end
section
variable {X:Cx} {kk:Nat}
end
def MW (F:FnOk X.prog X.w X.K X.mg X.base (fH X.prog X.w) k f fd ps sp) (o:Room k X.A) (hg:Gl X x) (w:X.mg x=some (.ref f))
  (A:W.keepIn X.K (.ref f)=true) (G:Wg X.K fd ps []) (L:∀ E,PA (X.wish E) (e :: es) t) (M:X.N.Nodup) (hi:X.N[i]? = some y) (m:Loc X.env.scope y)
  (n:EW (.Call (.Name x p) (e :: es) [] pos) (some (.Name y g)) ep.line X.env=pure false:=by rfl) (B:X.fn y=true\/X.env.scope.names.lookup y=some .local:=by first | exact .inl rfl | exact .inr rfl | assumption) (b:(x==("__debug__":Str))=false:=by decide)
  (C:A7 (e :: es) X.env=(false,eval e X.env) :: A7 es X.env:=by rfl) (P:(EU pos (A7 es X.env)).any (·.1)=false:=by rfl) :
  PTr X [.Assign [.Name y g] (.Call (.Name x p) (e :: es) [] pos) ep] (λE D σ H=>t σ H λvs H1=>sp vs H1 (λv H2=>D.nx (σ.set i (some v)) H2) E):=by
 intro pins s σ H D E I h
 refine wpAny_execs_cons (wpAny_Assign_Name ?_ n)
 refine Ld (ZW I hg w ?_ b)
 refine PySem.W.callWith_K (h₀:=X.base) I.ok.mod.kin A (thn (L (λe s'=>∃ d s0,Inv X pins σ d s0/\fH X.prog X.w X.stack d s0 E e s') pos pins s σ H _ (I.wish _) h) λus s1 ⟨vs,H1,c,r,q⟩=>⟨c.kIn,?_⟩) C P
 have J:=c.unwish
 have z:(us++([]:List Value)).length=ps.length:=by rw [bx,<- r.length]; exact F.len _ _ _ _ q
 refine wpAny_call (codeAny_mono (F.run X.A X.stack s1 H1 ⟨us,[]⟩ (us++[]) vs _ E o J.env0 (G s1 us J.kIn z) (by rw [bx]; exact r) q) λr s' a=>?_)
 cases r with
 | error e=>exact ⟨H1,s1,J,a⟩
 | ok O =>
  cases O with
  | ret u =>
   obtain ⟨v,H2,R,j,l⟩:=J.after a
   exact uY R M hi m j (λS Q=>Iz ⟨_,H2,Q,l⟩) B
  | next=>exact E2 a
  | brk=>exact E2 a
  | cont=>exact E2 a
def Rep.dropAt {K:A6} (R:Rep K H₀ aa σ ρ H Hf) (i) (x:Option V):Rep K H₀ aa (σ.set i x) (ρ.set i .no) H Hf:=by
 have no:∀ (j:Nat) (sl:Slot),(ρ.set i .no)[j]? = some sl->sl≠.no->i≠j/\ρ[j]? = some sl:=λj sl e k=>by
  by_cases c:i=j
  .subst c
   rw [du] at e
   rw [if_pos rfl] at e
   split at e
   .cases e; exact absurd rfl k
   .cases e
  .rw [hU c] at e
   exact ⟨c,e⟩
 have b:∀ sl:Slot,sl.own=true->sl≠.no:=λsl o z=>by subst z; cases o
 refine ⟨R.s0,R.sf,R.nf,R.f0,by simp [R.len],λj d e=>?_,λj sl e o=>?_,λj h sl cG a e o f o' q g=>?_⟩
 .obtain ⟨c,e⟩:=no j _ e (by simp)
  rw [hU c]
  exact R.fr j d e
 .obtain ⟨c,e⟩:=no j _ e (b sl o)
  rw [hU c]
  exact R.ow j sl e o
 .obtain ⟨c,e⟩:=no j _ e (b sl o)
  obtain ⟨l,f⟩:=no h _ f (b cG o')
  rw [hU c] at q
  rw [hU l] at g
  exact R.inj j h sl cG a e o f o' q g
def Rep.hide {K:A6} (R:Rep K H₀ aa σ ρ H Hf) (i):Rep K H₀ aa σ (ρ.set i .no) H Hf:=by
 have no:∀ (j:Nat) (sl:Slot),(ρ.set i .no)[j]? = some sl->sl≠.no->ρ[j]? = some sl:=λj sl e h=>by
  by_cases c:i=j
  .subst c
   rw [du] at e
   rw [if_pos rfl] at e
   split at e
   .cases e; exact absurd rfl h
   .cases e
  .rw [hU c] at e
   exact e
 have b:∀ sl:Slot,sl.own=true->sl≠.no:=λsl o z=>by subst z; cases o
 exact ⟨R.s0,R.sf,R.nf,R.f0,by simp [R.len],λj d e=>R.fr j d (no j _ e (by simp)),λj sl e o=>R.ow j sl (no j _ e (b sl o)) o,λj f sl cG a e o k o' q g=>R.inj j f sl cG a (no j _ e (b sl o)) o (no f _ k (b cG o')) o' q g⟩
def eP (r:List Int):List (Int×Int):=r.map λx=>(x,0)
section
variable {X:Cx} {pins:List (Addr×Obj)} {σ:St} {H:Hp} {s:Shared} {A:Around}
end
section
variable {X:Cx} {e:Expr} {pos:Pos}
end
def Dg   {σ:St} (I:Inv X pins σ H s) (h:H l=some (.frz o (.lst xs))) (i:X.H₀ l=none):Inv X pins σ (upd H l (.lst xs)) s:=by
 have d:∀ b,H b=none->b≠l:=λb e z=>by subst z; rw [h] at e; cases e
 have a:∀ b u,X.H₀ b=some u->b≠l:=λb u e z=>by subst z; rw [i] at e; cases e
 refine ⟨I.ok,I.os,I.bare,⟨I.base.keep,I.base.slot,λb ob q n f=>?_,I.base.there,λb ys q=>?_,λb ob u q=>?_,λb ps q=>?_⟩,I.loc,I.cell,?_,λx c e=>?_,λp g=>?_,λb ob q=>?_,I.len⟩
 .have z:=I.base.free b ob q n f
  rw [zw (d b z)]; exact z
 .rw [zw (a b _ q)]; exact I.base.tups b ys q
 .rw [zw (a b _ q)]; exact I.base.frzs b ob u q
 .obtain ⟨m,e⟩:=I.base.tbls b ps q
  exact ⟨m,by rw [zw (a b _ q)]; exact e⟩
 .rw [zw (d _ I.free)]; exact I.free
 .rw [zw (d _ (I.freeC x c e))]; exact I.freeC x c e
 .obtain ⟨e,n,r⟩:=I.pin p g
  exact ⟨e,by rw [zw (d _ n)]; exact n,r⟩
 .have st:∀ u,xH X.prog X.w H s.heap b u->xH X.prog X.w (upd H l (.lst xs)) s.heap b u:=λu x=>by
   refine x.stay (λ_ _ _ e=>e) (λc e=>?_) λc ys e=>?_
   .rw [zw (λz=>by subst z; rw [h] at e; cases e)]; exact e
   .rw [zw (λz=>by subst z; rw [h] at e; cases e)]; exact e
  by_cases z:b=l
  .subst z
   rw [zq] at q
   cases q
   obtain ⟨_,x⟩:=I.hok b _ h
   exact st _ x
  .rw [zw z] at q
   exact st _ (I.hok b ob q)
def MY  {st:Stmt} (h:PS X st t):PS X st (λD σ H=>t D σ H\/∃ l o xs,H l=some (.frz o (.lst xs))/\X.H₀ l=none/\t D σ (upd H l (.lst xs))):=by
 intro pins s σ H D I a
 rcases a with q | ⟨l,o,xs,e,b,q⟩
 .exact h pins s σ H D I q
 .exact h pins s σ _ D (Dg I e b) q
def GF (o:Obj):Bool:=match o.cls with
 | .type t=>t=="list"
 | _=>false
def Nw (K:A6):Bool:=K.all λp => !GF p.2
def Gq {K:A6} (h:Nw K=true) (e:K.lookup a=some o):o.cls≠.type "list":=by
 have:∀ l:List (Addr×Obj),(l.all λp => !GF p.2)=true->l.lookup a=some o->o.cls≠.type "list":=by
  intro l
  induction l with
  | nil=>intro _ e; cases e
  | cons p l d =>
   intro c e
   rw [List.all_cons,cO] at c
   obtain ⟨b,q⟩:=p
   rw [gM] at e
   split at e
   .cases e
    intro z
    have:=c.1
    unfold GF at this
    rw [z] at this
    cases this
   .exact d c.2 e
 exact this K h e
def Zm (h:ud F G ρ=some (.nx aD)):∃ a,F ρ=some (.nx a)/\G a=some (.nx aD):=by
 rw [zy] at h
 obtain ⟨o,e,h⟩:=fy.mp h
 cases o with
 | nx a=>exact ⟨a,e,h⟩
 | rt d=>cases h
 | bk _=>cases h
 | ct _=>cases h
open PySem.AutoSeq1 (wpAny_loadPart')
def ZU (l) (a:Array Value) (n:Nat) (b:Addr) (c:Array Value) (i:Nat) (o:Array (Option Value)) (k:¬(!a.isEmpty&&E3 (a.size+c.size))=true) (e:a.size<=sizeLine) (fY:a.size+c.size<=sizeLine+1) :
  Meets (Builtin.«list.extend» ⟨[.ref l,.ref b],[]⟩) (λ_ R s=>s.heap.get? l=some { cls:=.type "list",dict:=none,data:=.seq a n,slots := #[] }/\s.heap.get? b=some { cls:=.type "list",dict:=none,data:=.seq c i,slots:=o }/\R (.ok (.ret EH)) { s with heap:=s.heap.update l (Obj.mapSeq λx=>x++c),toks:=s.toks }) :=
 .of_wp λprog w A R s h=>by
  obtain ⟨p,g,d,tk,os⟩:=s; obtain ⟨f,m,h⟩:=h
  have f2:=AutoSeq1.sub_tuple_tuple
  have u:=AutoSeq1.sub_list_list
  have r:=AutoSeq1.sub_tuple_list
  have q:=AutoSeq1.sub_list_tuple
  have j:(a++c).size<=sizeLine+1:=by rw [Array.size_append]; exact fY
  wp_walk using (wpAny_updateSeq f rfl (hz:=e) (_hz':=j)),ER f,ER m
  exact ⟨_,rfl,h⟩
section
variable {X:Cx} {e:Expr} {f g:FE} {pos:Pos}
def Ci (K:A6):V->List V->Hp->VK->Prop:=λx vs H Q=>∃ l b xs zs,x=.ref l/\vs=[.ref b]/\H l=some (.lst xs)/\bC K H b zs/\xs.length+zs.length<=sizeLine/\Q .non (upd H l (.lst (xs++zs)))
def JE:MtM X "list.extend" (Ci X.K):=by
 intro pins s σ H x vs v us Q I m o h
 obtain ⟨l,b,xs,zs,rfl,rfl,i,A,hz,q⟩:=h
 cases m
 obtain ⟨u,rfl,p⟩:=o.one
 cases p
 obtain ⟨z,af,n,r,J,e⟩:=I.lstM i
 obtain ⟨a,d,⟨w,y,e2,k,j,s2⟩,z2⟩:=I.list A
 have E:=d.length
 obtain ⟨G,c,data2,B⟩:=w
 dsimp only at k j s2
 subst k j s2
 have hsz:af.toArray.size+a.toArray.size<=sizeLine:=by rw [cD,cD]; omega
 have C:¬ (!af.toArray.isEmpty&&E3 (af.toArray.size+a.toArray.size))=true:=by
  rw [CS hsz,Bool.and_false]
  exact gp
 refine call_meets F.slot_list_extend ⟨_,e,rfl⟩ F.entry_list_extend (F.args_list_extend_2 _ _)
  (ZU l af.toArray n b a.toArray y B C (by rw [cD]; omega) (by omega)) ⟨e,e2,?_⟩
 refine ⟨.non,_,I.lset (its':=af++a) i e (by simp) (r.append d) ?_,rfl,q⟩
 rw [aH]
 omega
def qM (i:Nat) (f:FE):FS:=λρ=>(f ρ).bind λd=>match d,ρ[i]? with
 | .lst zs,some (.ol ds)=>if ds.length+zs.length<=sizeLine then some (.nx (ρ.set i (.ol (ds++zs)))) else none
 | _,_=>none
@[simp] theorem jf {i:Nat} {ρ:bj}:qM i f ρ=(f ρ).bind λd=>match d,ρ[i]? with
 | .lst zs,some (.ol ds)=>if ds.length+zs.length<=sizeLine then some (.nx (ρ.set i (.ol (ds++zs)))) else none
 | _,_=>none:=rfl
set_option tactic.hygienic true in
def uQ (i) (C:DE X e f) (E:X.N[i]? = some x:=by rfl) (A:iz X.env.scope x:=by first | exact E9 rfl | exact EI (E9 rfl) | exact EI (EI rfl))
  (hd:(x==("__debug__":Str))=false:=by decide) (m:(x==("__classdict__":Str))=false:=by decide)
  (j:IR (.Name x c) "extend" X.env (eval (.Name x c) X.env)=eval (.Name x c) X.env:=by rfl)
  (l:((EU aO (A7 [e] X.env)).all (λx => !x.1)&&(backToKw aO (keywordEach [] X.env)).all (λx=>x.1.isSome)
   && decide (([e]:List Expr).length+([]:List Lz).length+(if ([]:List Lz).isEmpty then 0 else 1) < 30))=true:=by rfl)
  (h:(apos.endLine==aO.line)=true:=by rfl) (bp:A7 [e] X.env=(false,eval e X.env) :: A7 [] X.env:=by rfl) (F:(EU aO (A7 [] X.env)).any (·.1)=false:=by rfl)
  (B:EW (.Call (.Attribute (.Name x c) "extend" apos) [e] [] aO) none pos.line X.env=pure false:=by rfl) :
  DS X (.Expr (.Call (.Attribute (.Name x c) "extend" apos) [e] [] aO) pos) (qM i f) :=
 x8 (V2 (CA LB PySem.F.slot_list_extend PySem.F.type_list_extend JE (jh E A hd m) (z8 C xx bp) j l h bp F) B) λD' σ H u=>by
  obtain ⟨H₀,aa,ρ,Hf,o,R,q,k⟩:=u
  obtain ⟨d,e1,e2⟩:=zQ q
  split at e2
  .rename_i O zs ds n
   split at e2
   .rename_i hz
    cases e2
    obtain ⟨a,c,⟨xs,p2,M⟩,L,J⟩:=R.ow i _ n rfl
    refine ⟨_,c,.inl ⟨rfl,xs,bC.of p2⟩,H₀,aa,ρ,Hf,_,R,e1,λv H1 P p s1 w h1=>?_⟩
    obtain ⟨Q,r,⟨ys,y,r3⟩,I,G⟩:=p.ow i _ n rfl
    rw [c] at r; cases r
    obtain ⟨b,ws,rfl,z,s⟩:=En.mp h1
    refine ⟨a,b,ys,ws,rfl,rfl,y,p.sf.seq z,by rw [r3.length,s.length]; exact hz,?_⟩
    exact k _ _ _ (p.updOwn n rfl c rfl ⟨_,zq,r3.append s⟩) w
   .cases e2
  .cases e2
def Bl:wU X (.type "range") (λxs H Q=>∃ j,xs=[.int j]/\∀ p,H p=none->Q (.ref p) (upd H p (.rng 0 j))):=by
 intro pins s σ H xs us Q I r h
 obtain ⟨j,rfl,q⟩:=h
 obtain ⟨u,rfl,t,rfl⟩:=kF r
 refine call_range_1 ⟨.ref s.heap.objs.size,_,I.laid (t':=s.toks+1+1) (o:=.rng 0 j) (λb ob q=>tz _ q) (aM _) ⟨_,_,_,AC _ rfl⟩,rfl,q _ (I.hok.fresh (aM _))⟩
def Bj:wU X (.type "range") (λxs H Q=>∃ i j,xs=[.int i,.int j]/\∀ p,H p=none->Q (.ref p) (upd H p (.rng i j))):=by
 intro pins s σ H xs us Q I r h
 obtain ⟨i,j,rfl,q⟩:=h
 obtain ⟨u,a,rfl,⟨t,rfl⟩,⟨t',rfl⟩⟩:=BO r
 refine call_range_2 ⟨.ref s.heap.objs.size,_,I.laid (t':=s.toks+1) (o:=.rng i j) (λb ob q=>tz _ q) (aM _) ⟨_,_,_,AC _ rfl⟩,rfl,q _ (I.hok.fresh (aM _))⟩
def Xd {lo:Int}:∀ n af,af.length=n->(∀ (j:Nat) v,af[j]? = some v->∃ t,v=.int (lo+(j:Int)) t)->yS ((aw n).map λ(k:Nat)=>V.int (lo+(k:Int))) af:=by
 intro n
 induction n generalizing lo with
 | zero =>
  intro af a _
  rw [g3e a]
  exact .nil
 | succ n b =>
  intro af a h
  cases af with
  | nil=>simp at a
  | cons v af =>
   rw [oO,au,bM]
   obtain ⟨t,rfl⟩:=h 0 v rfl
   refine .cons ⟨t,rfl⟩ ?_
   have:=b (lo:=lo+1) af (by simpa using a) λj w e=>by
    obtain ⟨t,rfl⟩:=h (j+1) w (by simpa using e)
    exact ⟨t,by congr 1; omega⟩
   have e:((λk:Nat=>V.int (lo+(k:Int))) ∘ Nat.succ)=λk:Nat=>V.int (lo+1+(k:Int)):=by
    funext k
    simp only [Ez]
    congr 1
    omega
   rw [e]
   exact this
def jK (x:X.calm=true):wU X (.type "list") (λxs H Q=>∃ (p:Addr) (lo hi:Int),xs=[.ref p]/\H p=some (.rng lo hi)/\(-(2 ^ 62)<=lo/\lo < 2 ^ 62 /\ -(2 ^ 62)<=hi/\hi < 2 ^ 62)/\(hi - lo).toNat<=1000000 ∧
  ∀ l,H l=none->Q (.ref l) (upd H l (.lst ((aw (hi - lo).toNat).map λ(k:Nat)=>V.int (lo+(k:Int)))))):=by
 intro pins s σ H xs us Q I r h
 obtain ⟨p,lo,hi,rfl,m,⟨h1,h2,z,y⟩,E,q⟩:=h
 obtain ⟨u,rfl,c⟩:=kF r
 cases c
 obtain ⟨t,u,v,e⟩:=I.hok p _ m
 have F:sizeLine=16777216:=Eo
 refine call_list_range (n:=(hi - lo).toNat) (I.ok.hd x) (show IsRange s.heap p lo hi 1 t u v from e) (small_one h1 h2 z y) (by rw [rangeSize_one]; split <;> omega) (by omega) λh' tk a C kp es A=>?_
 obtain ⟨i,d⟩:=A
 have b:yS ((aw (hi - lo).toNat).map λ(k:Nat)=>V.int (lo+(k:Int))) a.toList:=Xd _ _ (by simpa using i) λj w B=>by
  obtain ⟨t,rfl⟩:=d j w (by simpa using B)
  exact ⟨t,by congr 1; omega⟩
 refine ⟨.ref s.heap.objs.size,_,I.laid (t':=tk) (o:=.lst _) kp (aM _) ⟨by rw [az,fW]; omega,a.toList,C,b,by simpa using es⟩,rfl,q _ (I.hok.fresh (aM _))⟩
def QJ {K:A6} (lo hi):zP K H (y7 lo hi) ((aw (hi - lo).toNat).map λ(k:Nat)=>V.int (lo+(k:Int))):=by
 unfold y7
 induction (aw (hi - lo).toNat) with
 | nil=>exact .nil
 | cons k l a=>exact .cons (u9.mpr rfl) a
def qN:EM "range"=some (.type "range"):=boot_range
noncomputable def RE (fa:FA):FA:=λρ=>(fa ρ).bind λl=>match l with
 | [.int j]=>if -(2 ^ 62)<=j/\j<=1000000 then some (y7 0 j) else none
 | _=>none
noncomputable def RD (fa:FA):FA:=λρ=>(fa ρ).bind λl=>match l with
 | [.int i,.int j]=>if (-(2 ^ 62)<=i/\i < 2 ^ 62 /\ -(2 ^ 62)<=j/\j < 2 ^ 62)/\(j - i).toNat<=1000000 then some (y7 i j) else none
 | _=>none
set_option tactic.hygienic true in
def HJ (z:X.calm=true) (hg:Gl X "list") (y:X.mg "list"=none) (s:Gl X "range") (u:X.mg "range"=none) (A:i_ X [a] fa)
  (m:A7 [.Call (.Name "range" p2) [a] [] h] X.env=(false,eval (.Call (.Name "range" p2) [a] [] h) X.env) :: A7 [] X.env:=by rfl) (B:(EU pos (A7 [] X.env)).any (·.1)=false:=by rfl)
  (c:A7 [a] X.env=(false,eval a X.env) :: A7 [] X.env:=by rfl) (w:(EU h (A7 [] X.env)).any (·.1)=false:=by rfl) :
  DN X (.Call (.Name "list" p) [.Call (.Name "range" p2) [a] [] h] [] pos) (RE fa) :=
 yu (wI (T:="list") (jK z) hg y (by rfl) (z8 (wI (T:="range") Bl s u qN A (by decide) (by decide) c w) xx m) (by decide) (by decide) m B) λσ H Q n=>by
  obtain ⟨H₀,aa,ρ,Hf,d,R,q,k⟩:=n
  obtain ⟨l,e1,e2⟩:=ym q
  refine ⟨H₀,aa,ρ,Hf,l,R,e1,λvs H1 G C s1 r h1=>?_⟩
  split at e2
  .rename_i j
   split at e2
   .rename_i F
    cases e2
    obtain ⟨v,rfl,x⟩:=jS.one h1
    refine ⟨j,by rw [x.int],λp i=>?_⟩
    refine ⟨p,0,j,rfl,zq,⟨by omega,by omega,by omega,by omega⟩,by omega,λE b=>?_⟩
    have s2:z7 H1 (upd H1 p (.rng 0 j)):=zG i
    have R2:=C.layN (o:=.rng 0 j) i
    exact k _ _ _ _ (R2.layN b) ((s1.trans s2).trans (zG b)) r (QJ 0 j) zq (R2.sf.free b) ((s1.trans s2).free b)
   .cases e2
  .cases e2
set_option tactic.hygienic true in
def HI (E:X.calm=true) (hg:Gl X "list") (C:X.mg "list"=none) (x:Gl X "range") (z:X.mg "range"=none) (F:i_ X [a,b] fa)
  (s:A7 [.Call (.Name "range" p2) [a,b] [] m] X.env=(false,eval (.Call (.Name "range" p2) [a,b] [] m) X.env) :: A7 [] X.env:=by rfl) (G:(EU pos (A7 [] X.env)).any (·.1)=false:=by rfl)
  (h:A7 [a,b] X.env=(false,eval a X.env) :: A7 [b] X.env:=by rfl) (A:(EU m (A7 [b] X.env)).any (·.1)=false:=by rfl) :
  DN X (.Call (.Name "list" p) [.Call (.Name "range" p2) [a,b] [] m] [] pos) (RD fa) :=
 yu (wI (T:="list") (jK E) hg C (by rfl) (z8 (wI (T:="range") Bj x z qN F (by decide) (by decide) h A) xx s) (by decide) (by decide) s G) λσ H Q u=>by
  obtain ⟨H₀,aa,ρ,Hf,d,R,q,k⟩:=u
  obtain ⟨l,e1,e2⟩:=ym q
  refine ⟨H₀,aa,ρ,Hf,l,R,e1,λvs H1 M I s1 w h1=>?_⟩
  split at e2
  .rename_i i j
   split at e2
   .rename_i r
    cases e2
    obtain ⟨v,J,rfl,B,y⟩:=jS.two h1
    refine ⟨i,j,by rw [B.int,y.int],λp n=>?_⟩
    refine ⟨p,i,j,rfl,zq,r.1,r.2,λL c=>?_⟩
    have s2:z7 H1 (upd H1 p (.rng i j)):=zG n
    have R2:=I.layN (o:=.rng i j) n
    exact k _ _ _ _ (R2.layN c) ((s1.trans s2).trans (zG c)) w (QJ i j) zq (R2.sf.free c) ((s1.trans s2).free c)
   .cases e2
  .cases e2
end
theorem Z0   : ∀ {ks:List Int} {af:List Value},yS (ks.map V.int) af->ItemsAre (Iy P w) ks af
 | [],_,h=>by cases h; exact .nil
 | k :: ks,_,h=>by
  cases h with
  | cons h1 h2 =>
   obtain ⟨t,rfl⟩:=h1
   exact .cons (by show E6 k (.int k t)=true; simp [E6]) (Z0 h2)
structure GDictT (K:A6) (mg:Str->Option Value) (x:Str) (ag:List (List Int×D)):Prop where
 ex:∃ (a:Addr) (o:Obj) (es:Array Ia) (ep:Nat) (xs:List (List Int×Addr×Value)),mg x=some (.ref a)/\K.lookup a=some o/\o.ExactDict/\o.data=.dict es ep/\(a==EE)=false/\(∀ P w,es.toList=xs.map (entryOfKey (Iw (Iy P w)))) ∧
  (∀ p∈xs,∃ (o:Obj) (af:Array Value) (n:Nat),K.lookup p.2.1=some o/\o.cls=.type "tuple"/\o.data=.seq af n/\yS (p.1.map V.int) af.toList)/\(xs.map (·.1)).Nodup ∧
  ∀ ns,(∃ d u v,ag.lookup ns=some d/\(Lm xs ns).map (·.2)=some u/\yO v u/\ae K (λ_=>none) d v)\/(ag.lookup ns=none/\(Lm xs ns).map (·.2)=none)
def Ta (ag:List (List Int×D)):D->D->Option D
 | .tup ds,d=>(qE ds).map λns=>(ag.lookup ns).getD d
 | _,_=>none
section
variable {X:Cx} {e e2:Expr} {f g:FE} {kk:Nat}
def Tw (hr:Room kk X.A) (hg:Gl X x) (hm:GDictT X.K X.mg x ag) (he:DE X e f) (hf:DE X e2 g) (m:M2 X (.Name x p) "get" apos e e2 aO:=by exact ⟨rfl,rfl,rfl,rfl⟩) (hd:(x==("__debug__":Str))=false:=by decide) :
  DE X (.Call (.Attribute (.Name x p) "get" apos) [e,e2] [] aO) (zt (Ta ag) f g):=by
 obtain ⟨a,o,es,ep,xs,h1,h2,B,h4,h5,h6,h7,h8,h9⟩:=hm.ex
 intro pins s σ H Q I h
 obtain ⟨H₀,aa,ρ,Hf,d,R,q,k⟩:=h
 obtain ⟨dx,dy,e1,e2,E⟩:=kh q
 unfold Ta at E
 split at E
 .rename_i ds
  obtain ⟨ns,en,rfl⟩:=iu.mp E
  refine wpAny_Call_method m.base m.few m.line PySem.F.plainAttrs_dict PySem.F.slot_dict_get PySem.F.type_dict_get (thn (vi (v:=.ref a) hg h1 rfl hd pins s σ H (λx H1=>x=.ref a/\H1=H) I ⟨rfl,rfl⟩) λu0 s1 i=>?_)
  obtain ⟨x,H1,I1,rx,ex,eH⟩:=i
  subst ex eH
  cases rx
  have Y:=I1.kIn a o h2
  refine ⟨⟨o,Y,B.1⟩,λb q=>by cases q; exact ⟨o,Y,B.2.1⟩,?_⟩
  rw [m.trees]
  refine LI rfl (Calls.evalArgs_plain (Calls.spliced_cons (thn (he pins s1 σ H1 (λy H2=>∃ aK,Rep X.K H₀ aa σ ρ H2 aK/\z7 H1 H2/\z7 Hf aK/\ae X.K aK (.tup ds) y) I1 ⟨H₀,aa,ρ,Hf,_,R,e1,λv H1 S T s1 J h1=>⟨S,T,s1,J,h1⟩⟩) λiv s2 i=>?_)))
  obtain ⟨y,H2,I2,ry,aK,R2,c9,U,hy⟩:=i
  refine Calls.spliced_cons (thn (hf pins s2 σ H2 (λz c=>∃ C,Rep X.K H₀ aa σ ρ c C/\z7 H2 c/\z7 aK C/\ae X.K C dy z) I2 ⟨H₀,aa,ρ,aK,_,R2,e2,λv H1 S T s1 J h1=>⟨S,T,s1,J,h1⟩⟩) λfv W i=>Calls.spliced_nil ?_)
  obtain ⟨z,c,A,rz,C,F,Z,G,hz⟩:=i
  obtain ⟨b,vs,rfl,qb,lb⟩:=D_.mp (hy.mono G)
  have ev:=lb.intsV en
  subst ev
  cases ry
  have L:bF X.K c b (ns.map V.int):=by
   rcases qb with (w | ⟨o',w⟩) | w
   .exact .inl (.inl (F.sf _ _ w))
   .exact .inl (.inr ⟨o',F.sf _ _ w⟩)
   .exact .inr w
  obtain ⟨af,rv,⟨ob,ho,hc,n,P⟩,_⟩:=A.tuple L
  have r:=A.kIn a o h2
  have key:(Iw (Iy X.prog X.w)).is W.heap ns b:=⟨ob,af.toArray,n,ho,hc,P,by simpa using Z0 rv⟩
  have dict:W.heap.DictOfH (Iw (Iy X.prog X.w)) a xs:=⟨o,es,ep,r,B,h4,h6 _ _,λp hp=>by
   obtain ⟨o',its',n',l,j,O,M⟩:=h7 p hp
   exact ⟨o',its',n',A.kIn _ _ l,j,O,Z0 M⟩,h8⟩
  refine call_meetsIn PySem.F.slot_dict_get ⟨o,r,B.1⟩ PySem.F.entry_dict_get (PySem.F.args_dict_get_3 _ _ _) (meetsH_dict_get_default (Iw (Iy X.prog X.w)) a b h5 fv) ⟨tupleKind_room_in1 (by have:=hr.un; omega),ns,xs,key,dict,?_⟩
  rcases h9 ns with ⟨d,u,v,l,j,O,M⟩ | ⟨l,j⟩
  .rw [j]
   rw [l] at k
   exact ⟨v,c,A.tok _,O,k _ _ _ F (c9.trans Z) (U.trans G) (M.mono jc)⟩
  .rw [j]
   rw [l] at k
   exact ⟨z,c,A.tok _,rz,k _ _ _ F (c9.trans Z) (U.trans G) hz⟩
 .cases E
end
section
variable {X:Cx}
def za1 (K:A6):R2:=λx y H Q=>∃ a k xs,x=.ref a/\y=.int k/\bC K H a xs/\xs≠[] /\ -1000000<=k/\xs.length * k.toNat<=1000000/\∀ p,H p=none->Q (.ref p) (upd H p (.lst (aF k.toNat xs).flatten))
def Nf:cu X (Ig .Mult) (za1 X.K):=by
 intro pins s σ H x y v u Q I z w h
 obtain ⟨a,k,xs,rfl,rfl,B,j,G,hz,q⟩:=h
 cases z
 obtain ⟨t,rfl⟩:=w
 obtain ⟨af,r,p,E⟩:=I.list B
 have c:=r.length
 obtain ⟨⟨cls,dd,data,sl⟩,d,i,n,hd⟩:=p.isList
 simp only at i hd
 subst i hd
 have f:af.toArray.isEmpty=false:=by
  cases af with
  | nil=>cases r; exact absurd rfl j
  | cons _ _=>rfl
 have A:1<=xs.length:=by
  cases xs with
  | nil=>exact absurd rfl j
  | cons _ _=>simp
 have C:k.toNat<=xs.length * k.toNat:=Nat.le_mul_of_pos_left _ A
 have hsz:af.toArray.size * k.toNat<=1000000:=by rw [cD,<- c]; exact hz
 have J:sizeLine=16777216:=Eo
 have e:List.foldl (λm l=>m++l) #[] (aF (if af.toArray.isEmpty=true then 0 else k.toNat) af.toArray)=(aF k.toNat af).flatten.toArray:=by
  rw [f,if_neg gp]
  have:=Vg af k.toNat []
  rw [a_] at this
  exact this
 refine wpAny_binaryOp_repeat_ref (T:="list") (U:="int") (by decide) ⟨_,d,rfl⟩ (λs'=>typeIs_int s' k t) noFill_list_mul F.fills_int_mul F.slot_int_rmul repeat_list F.slot_int_index.lookup
  (call_meets F.slot_int_rmul (typeIs_int s k t) F.entry_int_rmul (F.args_int_rmul_2 _ _) (lm_int_rmul_list_any k t a af.toArray n dd sl)
   ⟨d,rfl,⟨_,d,rfl⟩,call_meets F.slot_list_mul ⟨_,d,rfl⟩ F.entry_list_mul (F.args_list_mul_2 _ _) (lm_list_mul_any a af.toArray n dd sl k t (by
    unfold Builtin.List.listFitsIndex
    simp
    omega) (by omega) (by
    have g:af.length * k.toNat<=1000000:=by rw [<- c]; exact hz
    unfold E3
    simp
    omega)) ⟨d,?_⟩⟩)
 rw [e]
 refine ⟨.ref s.heap.objs.size,_,I.laid (t':=s.toks) (o:=.lst (aF k.toNat xs).flatten) (λb ob q=>tz _ q) (aM _) ?_,rfl,q _ (I.hok.fresh (aM _))⟩
 exact ⟨by rw [NJ,Nat.mul_comm]; omega,_,_,r.rep k.toNat,AC _ rfl⟩
def Sx (f g:FE):FA:=λρ=>(f ρ).bind λx=>(g ρ).bind λy=>match x,y with
 | .lst (d :: ds),.int k=>if -1000000<=k/\(ds.length+1) * k.toNat<=1000000 then some (aF k.toNat (d :: ds)).flatten else none
 | _,_=>none
@[simp] theorem Rv {f g:FE} {ρ:bj}:Sx f g ρ=(f ρ).bind λx=>(g ρ).bind λy=>match x,y with
 | .lst (d :: ds),.int k=>if -1000000<=k/\(ds.length+1) * k.toNat<=1000000 then some (aF k.toNat (d :: ds)).flatten else none
 | _,_=>none:=rfl
set_option tactic.hygienic true in
def HH (s:DR X a f) (r:DR X b g):DN X (.BinOp a .Mult b pos) (Sx f g) :=
 yu (RS Nf s r) λσ H Q ⟨H₀,aa,ρ,Hf,d,R,q,k⟩=>by
  obtain ⟨x,y,e1,e2,c⟩:=kh q
  refine ⟨H₀,aa,ρ,Hf,x,R,e1,λv H1 w A s1 n h1=>⟨H₀,aa,ρ,w,y,A,e2,λB H2 aK R2 s2 l h2=>?_⟩⟩
  have u:=h1.mono l
  split at c
  .rename_i e ds j
   split at c
   .rename_i hz
    cases c
    obtain ⟨a,xs,rfl,o,m⟩:=u.lst R2
    have i:=m.length
    refine ⟨a,j,xs,rfl,h2.int,o,λz=>?_,hz.1,by rw [i]; exact hz.2,λp h=>?_⟩
    .rw [z] at i; simp at i
    .exact k _ _ _ _ (R2.layN h) ((s1.trans s2).trans (zG h)) (n.trans l) (zP.rep m j.toNat) zq (R2.sf.free h) ((s1.trans s2).free h)
   .cases c
  .cases c
end
def JT (ks:List Int):Int:=reduceHash (EY (ks.map hashInt))
inductive GEntT (K:A6):List (List Int×D)->List Ia->List (List Int×Addr×Value)->Prop
 | nil:GEntT K [] [] []
 | cons {ks:List Int} {d:D} {ag:List (List Int×D)} {h:Int} {ta:Addr} {od:Option Addr} {af:Array Value} {n:Nat} {fK:Array (Option Value)} {v:V} {u:Value} {es:List Ia} {xs:List (List Int×Addr×Value)}
   (hz:JT ks=h) (lk:K.lookup ta=some ⟨.type "tuple",od,.seq af n,fK⟩) (vals:yS (ks.map V.int) af.toList) (rel:yO v u) (has:ae K (λ_=>none) d v) (vT:GEntT K ag es xs):GEntT K ((ks,d) :: ag) (⟨h,.ref ta,u⟩ :: es) ((ks,ta,u) :: xs)
def GEntT.keys {K:A6} (g:GEntT K ag es xs):xs.map (·.1)=ag.map (·.1):=by
 induction g with
 | nil=>rfl
 | cons _ _ _ _ _ _ a=>simp [a]
def GEntT.ents {K:A6} (g:GEntT K ag es xs) (P) (w:Ey):es=xs.map (entryOfKey (Iw (Iy P w))):=by
 induction g with
 | nil=>rfl
 | cons hz _ _ _ _ _ a =>
  subst hz
  rw [au,<- a]
  rfl
def GEntT.tups {K:A6} (g:GEntT K ag es xs):∀ p∈xs,∃ (o:Obj) (af:Array Value) (n:Nat),K.lookup p.2.1=some o/\o.cls=.type "tuple"/\o.data=.seq af n/\yS (p.1.map V.int) af.toList:=by
 induction g with
 | nil=>intro p a; cases a
 | cons _ lk vals _ _ _ b =>
  intro p a
  rcases aI.mp a with rfl | a
  .exact ⟨_,_,_,lk,rfl,rfl,vals⟩
  .exact b p a
def GEntT.look {K:A6} (g:GEntT K ag es xs) (ns) :
  (∃ d u v,ag.lookup ns=some d/\(Lm xs ns).map (·.2)=some u/\yO v u/\ae K (λ_=>none) d v)\/(ag.lookup ns=none/\(Lm xs ns).map (·.2)=none):=by
 induction g with
 | nil=>exact .inr ⟨rfl,rfl⟩
 | @cons ks d ag h ta od af n fK v u es xs hz lk vals rel has vT a =>
  by_cases c:ks=ns
  .subst c
   refine .inl ⟨d,u,v,by simp [gK],?_,rel,has⟩
   simp [Lm]
  .have e1:((ks,d) :: ag).lookup ns=ag.lookup ns:=by
    rw [gM]
    have:(ns==ks)=false:=by simpa using λz=>c z.symm
    rw [this]
   have e2:Lm ((ks,ta,u) :: xs) ns=Lm xs ns:=by
    unfold Lm
    rw [LK (by simpa using c)]
   rw [e1,e2]
   exact a
def Hd {K:A6} (h1:mg x=some (.ref a)) (h2:K.lookup a=some ⟨.type "dict",none,.dict es ep,#[]⟩)
  (b:(a==EE)=false) (g:GEntT K ag es.toList xs) (nd:(ag.map (·.1)).Nodup):GDictT K mg x ag :=
 ⟨a,_,es,ep,xs,h1,h2,⟨rfl,rfl,rfl⟩,rfl,b,λP w=>g.ents P w,g.tups,by rw [g.keys]; exact nd,g.look⟩
open PySem.AutoSeq1 (wpAny_loadPart')
open PySem.MeetsSeq PySem.MeetsSeq2 PySem.MeetsSeq3
section
variable {X:Cx} {pins:List (Addr×Obj)} {σ:St} {H:Hp} {s:Shared} {A:Around}
def Tu (l:List Int):dep (.lst (l.map D.int))<=1:=by
 unfold dep
 have:qG (l.map D.int)<=0:=X1 λd hd=>by
  obtain ⟨x,_,rfl⟩:=aR.mp hd
  exact aM _
 omega
end
section
variable {X:Cx} {e:Expr} {pos:Pos} {kk:Nat}
end
section
variable {prog:Ej} {w:Ey} {A:Around} {E:Value->Shared->Prop} {s:Shared}
end
section
variable {X:Cx} {e f:Expr} {pos:Pos} {kk:Nat}
end
instance KTy.dec:(n:Nat)->DecidableEq (KTy n)
 | 0=>inferInstanceAs (DecidableEq Int)
 | n+1=>have:=KTy.dec n; inferInstanceAs (DecidableEq (List (KTy n)))
def fM:(n:Nat)->Heap->KTy n->Value->Prop
 | 0,_,i,v=>∃ t,v=.int i t
 | n+1,h,l,v=>∃ (a:Addr) (o:Obj) (af:Array Value) (m:Nat),v=.ref a/\h.get? a=some o/\o.cls=.type "tuple"/\o.data=.seq af m/\Paired (fM n h) l af.toList
theorem Paired.same  {F:α->β->Prop} (inj:∀ x y v,F x v->F y v->x=y):∀ {l m:List α} {vs:List β},Paired F l vs->Paired F m vs->l=m
 | _,_,_,.nil,.nil=>rfl
 | _,_,_,.cons r t,.cons a t'=>by rw [inj _ _ _ r a,Paired.same inj t t']
theorem Uq:∀ (n) {h:Heap} (x y:KTy n) (v:Value),fM n h x v->fM n h y v->x=y
 | 0,h,x,y,v,⟨t,e⟩,⟨t',b⟩=>by
  rw [e] at b
  injection b
 | n+1,h,x,y,v,⟨a,o,af,m,e1,e2,j,f,d⟩,⟨k,o',its',g,f1,f2,i,f4,c⟩=>by
  subst e1
  cases f1
  rw [e2] at f2
  cases f2
  rw [f] at f4
  injection f4 with g1 g2
  subst g1
  exact Paired.same (Uq n) d c
theorem W8:∀ (n) {h h':Heap},(∀ b (o:Obj) af m,h.get? b=some o->o.data=.seq af m->h'.get? b=some o)->∀ (x:KTy n) (v),fM n h x v->fM n h' x v
 | 0,_,_,_,x,v,e=>e
 | n+1,h,h',k,x,v,⟨a,o,af,m,e1,e2,f,c,d⟩=>⟨a,o,af,m,e1,k a o af m e2 c,f,c,F_ d (W8 n k)⟩
def jH:(n:Nat)->KTy n->Nat
 | 0,_=>1
 | n+1,l=>(dC (jH n) l).sum+1
def zbf       [Decidable c] {Q:α->Shared->Prop} (h:¬ c) (k:A_ M A y Q E s):A_ M A (if c then x else y) Q E s:=by rw [if_neg h]; exact k
def zct       [Decidable c] {Q:α->Shared->Prop} (h:c) (k:A_ M A x Q E s):A_ M A (if c then x else y) Q E s:=by rw [if_pos h]; exact k
section
variable {prog:Ej} {w:Ey} {A:Around} {E:Value->Shared->Prop} {s:Shared}
theorem W9:∀ (n) {A:Around} {E:Value->Shared->Prop} {s:Shared} {k:KTy n} {v:Value} {Q:Int->Shared->Prop},A.units+n < IE->fM n s.heap k v->Q (YC n k) { s with toks:=s.toks+jH n k }->A_ (Ec prog w) A (pyHash v) Q E s
 | 0,A,E,s,k,v,Q,I,⟨t,e⟩,h=>by
  subst e
  exact (Iy prog w).pyHash (show E6 k (.int k t)=true from beq_self_eq_true (α:=Int) k) h
 | n+1,A,E,s,k,v,Q,I,⟨a,o,af,m,e1,C,H,J,u⟩,h=>by
  subst e1
  have i:s.TypeIs (.ref a) "tuple":=⟨o,C,H⟩
  unfold pyHash
  (first | unfold pyHashByItsType | skip)
  (first | refine ls (wpAny_cRoomFor_or (.inr (show A.units < IE by omega)) ?_) | skip)
  refine ls (H_ i Lq.lookup ?_)
  have G:¬ ((some (Value.builtin "tuple.__hash__")==some EH)=true):=λz=>by rw [beq_builtin_none] at z; cases z
  refine zbf G ?_
  refine ls (H_ i Lq.lookup ?_)
  refine ls (wpAny_callSpecialIfBoundUnlessNone?_slot i Lq (Ed Lq i F.entry_tuple_hash ?_ (F.args_tuple_hash_1 _)))
  refine ls (m:=Lc (.ref a)) (wpAny_tupleItemsOf C J (ls ?_))
  rw [<- Array.forIn_toList]
  refine wpAny_forIn_list _ (λvT (b:Array Int) s'=>∃ c j:List (KTy n),k=c++j/\Paired (fM n s.heap) j vT/\b.toList=dC (YC n) c/\s'={ s with toks:=s.toks+(dC (jH n) c).sum }) _ ?_ ?_ _ _ ⟨[],k,rfl,u,rfl,rfl⟩
  .rintro x vT b s' ⟨c,j,d,r,y,rfl⟩
   cases r with
   | @cons q _ p _ h1 L =>
    refine ls (W9 n (by show A.units+1+n < IE; omega) h1 ?_)
    have fin:∃ f B:List (KTy n),k=f++B/\Paired (fM n s.heap) B vT/\(b.push (YC n q)).toList=dC (YC n) f/\({ s with toks:=s.toks+(dC (jH n) c).sum+jH n q }:Shared)={ s with toks:=s.toks+(dC (jH n) f).sum }:=⟨c++[q],p,by rw [d,b9,nG],L,by simp [y],by simp [Nat.add_assoc]⟩
    first
     | exact u0 fin
     | exact ls (u0 (u0 fin))
  .rintro b s' ⟨c,j,d,r,y,rfl⟩
   cases r
   have g:k=c:=d.trans (bx c)
   subst g
   show A_ _ _ (retInt (EY b.toList)) _ _ _
   rw [y]
   refine wpAny_ret_mkInt ?_
   have hd:jH (n+1) k=(dC (jH n) k).sum+1:=rfl
   rw [hd,<- Nat.add_assoc] at h
   have hh:YC (n+1) k=reduceHash (EY (dC (YC n) k)):=rfl
   rw [hh] at h
   generalize EY (dC (YC n) k)=z at h ⊢
   unfold reduceHash at h
   by_cases l:(decide (-(2:Int) ^ 63<=z)&&decide (z < 2 ^ 63))=true
   .rw [if_pos l] at h
    refine zct l ?_
    exact u0 h
   .rw [if_neg l] at h
    refine zbf l ?_
    exact ls (Iv (u0 h))
theorem Hv:∀ (n) {A:Around} {E:Value->Shared->Prop} {s:Shared} {x y:KTy n} {u v:Value} {Q:Bool->Shared->Prop},A.units+n < IE->fM n s.heap x u->fM n s.heap y v->Q (decide (x=y)) s->A_ (Ec prog w) A (eqBool u v) Q E s
 | 0,A,E,s,x,y,u,v,Q,hu,⟨t,e⟩,⟨t',e'⟩,h=>by
  subst e e'
  exact (Iy prog w).eqBool (a:=x) (b:=y) (show E6 x (.int x t)=true from beq_self_eq_true (α:=Int) x) (show E6 y (.int y t')=true from beq_self_eq_true (α:=Int) y) h
 | n+1,A,E,s,x,y,u,v,Q,hu,hx,Z,h=>by
  have L:=hx
  have J:=Z
  obtain ⟨a,oa,xs,na,rfl,Y,W,T,R⟩:=hx
  obtain ⟨b,ob,ys,nb,rfl,o,U,S,P⟩:=Z
  have tA:s.TypeIs (.ref a) "tuple":=⟨oa,Y,W⟩
  have tB:s.TypeIs (.ref b) "tuple":=⟨ob,o,U⟩
  unfold eqBool
  (try with_reducible refine EK ?_)
  by_cases X:(EA a==EA b)=true
  .refine zct X ?_
   have e:a=b:=by have:=eq_of_beq X; injection this
   subst e
   have:=Uq (n+1) x y _ L J
   subst this
   exact ls (Iv (u0 (by simpa using h)))
  .refine zbf X ?_
   refine ls (wpAny_richCompare_same_room (op:=.Eq) tA tB F.slot_tuple_eq (Ed F.slot_tuple_eq tA F.entry_tuple_eq ?_ (F.args_tuple_eq_2 _ _)) (by omega))
   refine ls (m:=isInstance (.ref b) (.type "tuple")) (ET tB isSubtype_tuple_tuple ?_)
   simp only [mD,cS,if_false]
   refine ls (wpAny_tupleItemsOf Y T (ls (wpAny_tupleItemsOf o S (ls ?_))))
   refine wpAny_forIn_list _ (λvT r s'=>r.1=none/\s'=s/\∃ C B i j,vT=List.zip i j/\Paired (fM n s.heap) C i/\Paired (fM n s.heap) B j/\decide (C=B)=decide (x=y)/\(i.length==j.length)=(xs.size==ys.size)) _ ?_ ?_ _ _ ⟨rfl,rfl,x,y,xs.toList,ys.toList,rfl,R,P,rfl,by simp⟩
   .rintro ⟨p,q⟩ vT r s' ⟨M,rfl,C,B,i,j,hz,I,H,G,hlen⟩
    cases I with
    | nil=>simp at hz
    | @cons k1 p' g f h1 l =>
     cases H with
     | nil=>simp at hz
     | @cons k2 q' d c h2 k =>
      rw [List.zip_cons_cons] at hz
      obtain ⟨z1,rfl⟩:=List.cons.inj hz
      cases z1
      refine ls (Hv n (x:=k1) (y:=k2) (by show A.units+1+n < IE; omega) h1 h2 ?_)
      by_cases O:k1=k2
      .subst O
       rw [decide_eq_true rfl]
       simp only [mD,cS,if_false]
       refine u0 ⟨rfl,rfl,g,d,f,c,rfl,l,k,?_,by simpa using hlen⟩
       rw [<- G]
       by_cases tU:g=d <;> simp [tU]
      .rw [decide_eq_false O]
       simp only [Bool.not_false,if_true]
       have hf:decide (x=y)=false:=by rw [<- G]; simp [O]
       rw [hf] at h
       exact ls (u0 (u0 (u0 ⟨_,rfl,(λe=>nomatch e),EB h⟩)))
   .rintro ⟨r1,r2⟩ s' ⟨M,rfl,C,B,i,j,hz,I,H,G,hlen⟩
    dsimp only at M
    subst M
    refine u0 ?_
    have z:(xs.size==ys.size)=decide (x=y):=by
     rw [<- G,<- hlen]
     cases I with
     | nil=>cases H <;> simp
     | cons _ _ =>
      cases H with
      | nil=>simp
      | cons _ _=>simp at hz
    refine ⟨_,rfl,(λe=>nomatch e),?_⟩
    show A_ _ A (truthOfDropped (.bool (xs.size==ys.size))) Q E s'
    rw [z]
    exact EB h
theorem YS:∀ (n m) {A:Around} {E:Value->Shared->Prop} {s:Shared} {k:KTy n} {v:Value} {Q:Bool->Shared->Prop},n<=m->fM n s.heap k v->Q true s->A_ (Ec prog w) A (eqIsQuiet m v) Q E s
 | 0,m,A,E,s,k,v,Q,_,⟨t,e⟩,h=>by
  subst e
  rw [eqIsQuiet_byValue m (v:=.int k t) rfl]
  exact u0 h
 | n+1,0,A,E,s,k,v,Q,hm,_,_=>absurd hm (by omega)
 | n+1,m+1,A,E,s,k,v,Q,hm,⟨a,o,af,z,e1,i,j,p,d⟩,h=>by
  subst e1
  have f:s.TypeIs (.ref a) "tuple":=⟨o,i,j⟩
  unfold eqIsQuiet
  refine ls (H_ f F.slot_tuple_eq.lookup ?_)
  refine ls (m:=isInstance (.ref a) (.type "tuple")) (ET f isSubtype_tuple_tuple ?_)
  simp only [mD,cS,if_false]
  refine ls (EZ i p (ls ?_))
  show A_ _ _ (forIn af _ _) _ _ _
  rw [<- Array.forIn_toList]
  refine wpAny_forIn_list _ (λvT r s'=>r.1=none/\s'=s/\∃ g,Paired (fM n s.heap) g vT) _ ?_ ?_ _ _ ⟨rfl,rfl,k,d⟩
  .rintro q vT r s' ⟨c,rfl,g,l⟩
   cases l with
   | @cons k1 _ b _ h1 u =>
    refine ls (YS n m (by omega) h1 ?_)
    simp only [mD,cS,if_false]
    exact u0 ⟨rfl,rfl,b,u⟩
  .rintro ⟨y,x⟩ s' ⟨c,rfl,_⟩
   dsimp only at c
   subst c
   exact u0 h
def C7 (n:Nat) (p:n+1<=8):HeapKind prog w (KTy (n+1)) where
 is:=λh k a=>fM (n+1) h k (.ref a)
 hash:=YC (n+1)
 draws:=jH (n+1)
 room:=λA=>A.units+(n+1) < IE
 inj:=λf c=>Uq (n+1) _ _ _ f c
 keeps:=λ{h h' k a d o es ep} x l hd j=>W8 (n+1) (λb ob af m e z=>(j.2 b (λq=>by
  subst q
  rw [l] at e
  cases e
  rw [hd] at z
  cases z)).trans e) _ _ x
 pyHash:=λg i h=>W9 (n+1) g i h
 eqBool:=λg f c h=>Hv (n+1) g f c h
 quiet:=λi h=>YS (n+1) 8 p i h
end
def P5 {κ:Type} (f:D->Option κ):List D->Option (List κ)
 | []=>some []
 | d :: ds=>(f d).bind λk=>(P5 f ds).bind λks=>some (k :: ks)
def hW:(n:Nat)->D->Option (KTy n)
 | 0,.int i=>some i
 | n+1,.tup ds=>P5 (hW n) ds
 | _,_=>none
theorem VF   {g:κ->D} (a:∀ d k,f d=some k->d=g k):∀ {ds:List D} {ks:List κ},P5 f ds=some ks->ds=ks.map g
 | [],ks,h=>by cases h; rfl
 | d :: ds,ks,h=>by
  unfold P5 at h
  obtain ⟨k,h1,h⟩:=fy.mp h
  obtain ⟨r,h2,h⟩:=fy.mp h
  cases h
  rw [VF a h2,a d k h1]
  rfl
theorem Zc:∀ (n) (d) (k:KTy n),hW n d=some k->d=fF n k
 | 0,d,k,h=>by cases d <;> cases h <;> rfl
 | n+1,d,k,h=>by
  cases d with
  | tup ds=>exact congrArg D.tup (VF (Zc n) h)
  | _=>cases h
theorem Bu   {g:κ->D} (a:∀ k,f (g k)=some k):∀ ks,P5 f (ks.map g)=some ks
 | []=>rfl
 | k :: ks=>by
  rw [au]
  unfold P5
  rw [a k,Bu a ks]
  rfl
theorem Mn:∀ (n) (k:KTy n),hW n (fF n k)=some k
 | 0,_=>rfl
 | n+1,k=>Bu (Mn n) k
section
variable {X:Cx} {e:Expr} {f g:FE} {pos:Pos} {kk:Nat}
theorem Z3:∀ (n) {pins:List (Addr×Obj)} {σ:St} {H:Hp} {s:Shared} (I:Inv X pins σ H s) {k:KTy n} {v:V} {u:Value},ae X.K H (fF n k) v->yO v u->fM n s.heap k u
 | 0,pins,σ,H,s,I,k,v,u,h,r=>by
  have e:v=.int k:=u9.mp h
  subst e
  exact r
 | n+1,pins,σ,H,s,I,k,v,u,h,r=>by
  obtain ⟨a,xs,rfl,q,l⟩:=D_.mp h
  cases r
  obtain ⟨af,b,⟨o,h1,h2,m,j⟩,_⟩:=I.tuple q
  refine ⟨a,o,af.toArray,m,rfl,h1,h2,j,?_⟩
  have all:∀ (k:List (KTy n)) (xs:List V) (af:List Value),zP X.K H (k.map (fF n)) xs->yS xs af->Paired (fM n s.heap) k af:=by
   intro k
   induction k with
   | nil =>
    intro xs af l b
    rw [zP.nil_iff.mp l] at b
    cases b
    exact .nil
   | cons x k i =>
    intro xs af l b
    obtain ⟨y,r,rfl,h1,h2⟩:=B_.mp l
    cases b with
    | cons d c=>exact .cons (Z3 n I h1 d) (i _ _ h2 c)
  exact all k xs af l b
def Za (d:qA n xs a h):xH X.prog X.w H h a (.ext (qA n xs a)):=by
 refine ⟨d,?_,λh1 h2 b k=>?_⟩
 .obtain ⟨_,o,_,_,e,_⟩:=d
  exact ⟨o,e⟩
 .obtain ⟨z,o,es,ep,e,r⟩:=b
  exact ⟨z,o,es,ep,k o e,r⟩
def UD (d:n+1<=8) {σ:St} (I:Inv X pins σ H s) (e:H a=some (.ext (qA (n+1) xs a))) (h:∀ x∈xs,ae X.K H (fF (n+1) x.1) (.ref x.2)) :
  (a==EE)=false/\xs.length<=sizeLine/\Heap.DictOfH (C7 (prog:=X.prog) (w:=X.w) n d) s.heap a (xs.map λx=>(x.1,x.2,.bool true)):=by
 obtain ⟨⟨z,o,es,ep,h1,h2,l,k,j,i⟩,_⟩:=(show xH X.prog X.w H s.heap a (.ext (qA (n+1) xs a)) from I.hok a _ e)
 refine ⟨z,i,o,es,ep,h1,h2,l,?_,λx c=>?_,?_⟩
 .rw [k,bM]
  rfl
 .obtain ⟨y,b,rfl⟩:=aR.mp c
  exact Z3 (n+1) I (h y b) rfl
 .rw [bM]
  exact j
theorem jN  [DecidableEq κ] (k:κ):∀ xs:List (κ×Addr),(Lm (xs.map λx=>(x.1,x.2,Ic true)) k).isSome=decide (k∈xs.map (·.1))
 | []=>by simp [Lm]
 | x :: xs=>by
  rw [au,au]
  by_cases c:x.1=k
  .simp [Lm,c]
  .have:Lm ((x.1,x.2,Ic true) :: xs.map λx=>(x.1,x.2,Ic true)) k=Lm (xs.map λx=>(x.1,x.2,Ic true)) k:=by
    unfold Lm
    rw [LK (by simpa using c)]
   rw [this,jN k xs]
   simp [EF c]
def Ri (n:Nat):TE:=λ_ H Q=>∀ p,H p=none->Q (.ref p) (upd H p (.ext (qA n [] p)))
def Cy (n):PE X (.Dict [] [] dpos) (Ri n):=λpins s σ H Q I h =>
 wpAny_Dict_empty ⟨.ref s.heap.objs.size,_,I.laid (a:=s.heap.objs.size) (o:=.ext (qA n [] s.heap.objs.size)) (t':=s.toks) (λ_ _ q=>tz _ q) (aM _)
  (Za ⟨beq_eq_false_iff_ne.mpr (EF (cR I.big)),_,#[],0,AC _ rfl,⟨rfl,rfl,rfl⟩,rfl,rfl,List.nodup_nil,dm _⟩),rfl,h _ (I.hok.fresh (aM _))⟩
def HG (i n:Nat):FS:=λρ=>some (.nx (ρ.set i (.oX n [])))
@[simp] theorem Cd   : HG i n ρ=some (.nx (ρ.set i (.oX n []))):=rfl
def DU (i n) (s:X.N.Nodup) (hi:X.N[i]? = some x:=by rfl) (c:Loc X.env.scope x:=by first | exact E9 rfl | exact EI rfl) (m:EW (.Dict [] [] dpos) (some (.Name x pos')) pos.line X.env=pure false:=by rfl)
  (r:X.fn x=true\/X.env.scope.names.lookup x=some .local:=by first | exact .inl rfl | exact .inr rfl | assumption):DS X (.Assign [.Name x pos'] (.Dict [] [] dpos) pos) (HG i n) :=
 x8 (ZH s hi c (Cy n (dpos:=dpos)) m r) λD' σ H ⟨H₀,aa,ρ,Hf,o,R,q,k⟩=>by
  cases q
  intro p a
  refine k _ _ _ ((R.layN a).setOwn i rfl ⟨[],zq,rfl,λx c=>by cases c⟩ (R.sf.free a) (R.s0.free a) ?_) zE
  intro j sl z o d
  obtain ⟨b,l,p2,_⟩:=R.ow j sl z o
  rw [l] at d; cases d
  obtain ⟨ob,h⟩:=p2.there o
  rw [h] at a; cases a
def zak (K:A6) (ty td:TE):TE:=λσ H Q=>ty σ H λy H1=>td σ H1 λx H2=>∃ (a b:Addr) (n:Nat) (xs:List (KTy (n+1)×Addr)) (k:KTy (n+1)),n<=3/\x=.ref a/\y=.ref b/\H2 a=some (.ext (qA (n+1) xs a)) ∧
 (∀ x∈xs,ae K H2 (fF (n+1) x.1) (.ref x.2))/\ae K H2 (fF (n+1) k) (.ref b)/\Q (.bl (!decide (k∈xs.map (·.1)))) H2
def Nb (C:X.A.units+6 < IE) (hi:PE X i ty) (q:PE X o td):PC X .NotIn i o (zak X.K ty td):=by
 intro pins s σ H Q I h
 refine thn (hi pins s σ H _ I h) λp s1 ⟨y,H1,B,d,m⟩=>thn (q pins s1 σ H1 _ B m) λu s2 ⟨x,H2,c,j,a,b,n,xs,k,E,ex,A,e,r,v,l⟩=>?_
 subst ex A
 obtain rfl:u=EA a:=j
 obtain rfl:p=EA b:=d
 obtain ⟨z,hz,dd⟩:=UD (n:=n) (by omega) c e r
 refine wpAny_notIn_heap (knd:=C7 (prog:=X.prog) (w:=X.w) n (by omega)) (by show X.A.units+1+(n+1) < IE; omega) (Z3 (n+1) c v rfl) z dd ?_
 rw [jN]
 exact ⟨.bl (!decide (k∈xs.map (λx:KTy (n+1)×Addr=>x.1))),H2,c.tok _,rfl,l⟩
def JC (i:Nat) (a:FE):FT:=λρ=>(a ρ).bind λd=>match ρ[i]? with
 | some (.oX (n+1) ks)=>if n<=3 then (hW (n+1) d).bind λk=>some (!decide (k∈ks)) else none
 | _=>none
@[simp] theorem MI {i:Nat} {a:FE} {ρ:bj}:JC i a ρ=(a ρ).bind λd=>match ρ[i]? with
 | some (.oX (n+1) ks)=>if n<=3 then (hW (n+1) d).bind λk=>some (!decide (k∈ks)) else none
 | _=>none:=rfl
def HB (i) (u:Room kk X.A) (z:DE X e C) (A:X.N[i]? = some x:=by rfl) (B:iz X.env.scope x:=by first | exact E9 rfl | exact EI (E9 rfl) | exact EI (EI rfl))
  (hd:(x==("__debug__":Str))=false:=by decide) (h:(x==("__classdict__":Str))=false:=by decide) (y:Ew .NotIn (.Name x c)=false:=by rfl) :
  DT X (.Compare e [.NotIn] [.Name x c] pos) (JC i C) :=
 WJ (K2 (Nb (by have:=u.un; omega) z (jh A B hd h)) y) λσ H Q ⟨H₀,aa,ρ,Hf,b,R,q,k⟩=>by
  unfold JC at q
  obtain ⟨d,e2,q⟩:=fy.mp q
  split at q
  .rename_i n ks m
   split at q
   .rename_i w
    obtain ⟨l,E,q⟩:=fy.mp q
    cases q
    obtain ⟨a,c,_⟩:=R.ow i _ m rfl
    refine ⟨H₀,aa,ρ,Hf,d,R,e2,λv H2 aK R2 s2 o h2=>⟨_,c,?_⟩⟩
    obtain ⟨F,j,⟨xs,r,r3,p⟩,_⟩:=R2.ow i _ m rfl
    rw [c] at j; cases j
    rw [Zc (n+1) d l E] at h2
    obtain ⟨b,ys,rfl,_⟩:=D_.mp h2
    refine ⟨a,b,n,xs,l,w,rfl,rfl,r,λx s=>(p x s).mono R2.sf,h2.mono R2.sf,?_⟩
    rw [r3]
    exact ⟨_,rfl,k _ _ R2 s2 o⟩
   .cases q
  .cases q
def zaw (K:A6) (td ty tv:TE):TS:=λD' σ H=>tv σ H λv H1=>td σ H1 λx H2=>ty σ H2 λy c=>∃ (a b:Addr) (n:Nat) (xs:List (KTy (n+1)×Addr)) (k:KTy (n+1)),n<=3/\v=.bl true/\x=.ref a/\y=.ref b/\c a=some (.ext (qA (n+1) xs a)) ∧
 (∀ x∈xs,ae K c (fF (n+1) x.1) (.ref x.2))/\ae K c (fF (n+1) k) (.ref b)/\xs.length < sizeLine/\D'.nx σ (upd c a (.ext (qA (n+1) (if k∈xs.map (·.1) then xs else xs++[(k,b)]) a)))
def MZ (Y:X.A.units+6 < IE) (O:PE X o td) (hi:PE X i ty) (L:PE X value tv) (M:EW value (some (.Subscript o i sp)) pos.line X.env=pure false) :
  PS X (.Assign [.Subscript o i sp] value pos) (zaw X.K td ty tv):=by
 intro pins s σ H D I h
 refine wpAny_Assign_Subscript (thn (L pins s σ H _ I h) λr s1 ⟨v,H1,W,B,F⟩=>thn (O pins s1 σ H1 _ W F) λu s2 ⟨x,H2,U,A,E⟩=>thn (hi pins s2 σ H2 _ U E) λJ s3 ⟨y,H3,l,p,a,b,n,xs,k,Z,ev,ex,T,e,P,Q,hl,C⟩=>?_) M
 subst ev ex T
 obtain rfl:u=EA a:=A
 obtain rfl:J=EA b:=p
 obtain rfl:r=Ic true:=B
 obtain ⟨z,hz,dd⟩:=UD (n:=n) (by omega) l e P
 refine wpAny_setItem_heap (knd:=C7 (prog:=X.prog) (w:=X.w) n (by omega)) (hsz:=by rw [az]; exact hz) (by show X.A.units+1+(n+1) < IE; omega) (Z3 (n+1) l Q rfl) dd λh' G S=>⟨σ,_,?_,C⟩
 obtain ⟨q,es,ep,m,h2,R,j,_,d⟩:=G
 refine Yc l (by rw [e]; exact Iu) S ⟨q,m⟩ (Za ⟨z,q,es,ep,m,h2,R,?_⟩)
 unfold storedH at j d
 rw [jN] at j d
 by_cases c:k∈xs.map (·.1)
 .rw [decide_eq_true c,if_pos rfl] at j d
  rw [if_pos c]
  have e1:(xs.map λx=>(x.1,x.2,Ic true)).map (putAt k (Ic true))=xs.map λx=>(x.1,x.2,Ic true):=by
   rw [bM]
   apply fx
   intro x _
   simp only [Ez,putAt]
   split <;> rfl
  rw [e1,bM] at j d
  exact ⟨j,d,hz⟩
 .rw [decide_eq_false c,if_neg gp] at j d
  rw [if_neg c]
  rw [bN,bM] at j d
  refine ⟨?_,?_,?_⟩
  .rw [j,bN]
   rfl
  .rw [bN]
   exact d
  .rw [aH,bX]
   omega
def WI (i:Nat) (b a:FE):FS:=λρ=>(a ρ).bind λv=>(b ρ).bind λd=>match ρ[i]?,v with
 | some (.oX (n+1) ks),.bl true=>if n<=3/\ks.length < sizeLine then (hW (n+1) d).bind λk=>some (.nx (ρ.set i (.oX (n+1) (if k∈ks then ks else ks++[k])))) else none
 | _,_=>none
@[simp] theorem MH {i:Nat} {b a:FE} {ρ:bj}:WI i b a ρ=(a ρ).bind λv=>(b ρ).bind λd=>match ρ[i]?,v with
 | some (.oX (n+1) ks),.bl true=>if n<=3/\ks.length < sizeLine then (hW (n+1) d).bind λk=>some (.nx (ρ.set i (.oX (n+1) (if k∈ks then ks else ks++[k])))) else none
 | _,_=>none:=rfl
set_option tactic.hygienic true in
def HC (i) (B:Room kk X.A) (z:DE X value G) (E:DE X key J) (F:X.N[i]? = some x:=by rfl) (I:iz X.env.scope x:=by first | exact E9 rfl | exact EI (E9 rfl) | exact EI (EI rfl))
  (hd:(x==("__debug__":Str))=false:=by decide) (m:(x==("__classdict__":Str))=false:=by decide)
  (A:EW value (some (.Subscript (.Name x h) key sp)) pos.line X.env=pure false:=by rfl) :
  DS X (.Assign [.Subscript (.Name x h) key sp] value pos) (WI i J G) :=
 x8 (MZ (by have:=B.un; omega) (jh F I hd m) E z A) λD' σ H ⟨H₀,aa,ρ,Hf,o,R,q,k⟩=>by
  unfold WI at q
  obtain ⟨v,e1,q⟩:=fy.mp q
  obtain ⟨d,e2,q⟩:=fy.mp q
  generalize p:ρ[i]? = sl at q
  split at q
  .rename_i n ks _
   split at q
   .rename_i C
    obtain ⟨l,L,q⟩:=fy.mp q
    cases q
    obtain ⟨a,h,_⟩:=R.ow i _ p rfl
    refine ⟨H₀,aa,ρ,Hf,_,R,e1,λQ H1 M O s1 w h1=>⟨_,h,H₀,aa,ρ,M,d,O,e2,λP H2 aK R2 s2 u h2=>?_⟩⟩
    obtain ⟨S,r,⟨xs,y,r3,j⟩,_⟩:=R2.ow i _ p rfl
    rw [h] at r; cases r
    rw [Zc (n+1) d l L] at h2
    obtain ⟨b,ys,rfl,_⟩:=D_.mp h2
    have s:xs.length=ks.length:=by rw [<- r3,az]
    refine ⟨a,b,n,xs,l,C.1,Eb.mp h1,rfl,rfl,y,λx c=>(j x c).mono R2.sf,h2.mono R2.sf,by omega,?_⟩
    refine k _ _ _ (R2.updOwn p rfl h rfl ⟨_,zq,?_,?_⟩) (w.trans u)
    .rw [r3]
     split
     .exact r3
     .rw [bN,r3]
      rfl
    .intro x c
     split at c
     .exact j x c
     .rcases bE.mp c with c | c
      .exact j x c
      .have ex:x=(l,b):=by simpa using c
       subst ex
       exact h2
   .cases q
  .cases q
end
structure GDictS (w:Ey) (K:A6) (mg:Str->Option Value) (x:Str) (ag:List (Str×D)):Prop where
 ex:∃ (a:Addr) (o:Obj) (es:Array Ia) (ep:Nat) (vs:List (Str×Value)),mg x=some (.ref a)/\K.lookup a=some o/\o.ExactDict/\o.data=.dict es ep/\(a==EE)=false/\(∀ P,KeysOf (E8 P w) es/\Pairs (E8 P w) es.toList vs)/\(vs.map (·.1)).Nodup ∧
  ∀ k,(∃ d u v,ag.lookup k=some d/\KP vs k=some u/\yO v u/\ae K (λ_=>none) d v)\/(ag.lookup k=none/\KP vs k=none)
inductive GEntS (w:Ey) (K:A6):List Ia->List (Str×D)->Prop
 | nil:GEntS w K [] []
 | cons {k:Str} {t:Tok} {hh:Int} {u:Value} {v:V} {d:D} {es:List Ia} {ag:List (Str×D)}:hashStr w k=hh->yO v u->ae K (λ_=>none) d v->GEntS w K es ag->GEntS w K (⟨hh,.str k t,u⟩ :: es) ((k,d) :: ag)
def uN (k) (t:Tok):Value.isStrOf k (.str k t)=true:=by simp [Value.isStrOf]
def GEntS.vals  {K:A6}:∀ {es:List Ia} {ag:List (Str×D)},GEntS w K es ag->∃ vs,(∀ P,(∀ e∈es,∃ k,(E8 P w).is k e.key=true/\e.hash=(E8 P w).hash k)/\Pairs (E8 P w) es vs)/\vs.map (·.1)=ag.map (·.1) ∧
  ∀ k,(∃ d u v,ag.lookup k=some d/\KP vs k=some u/\yO v u/\ae K (λ_=>none) d v)\/(ag.lookup k=none/\KP vs k=none)
 | _,_,.nil=>⟨[],λP=>⟨λe he=>(by cases he),Pairs.nil⟩,rfl,λk=>.inr ⟨rfl,rfl⟩⟩
 | _,_,@GEntS.cons _ _ k t hh u v d es ag i r h g=>by
  obtain ⟨vs,c,p2,f⟩:=g.vals
  have hi:=uN k t
  refine ⟨(k,u) :: vs,λP=>⟨λe he=>?_,Pairs.cons hi rfl (c P).2⟩,(by simp [p2]),λa=>?_⟩
  .rcases aI.mp he with rfl | he
   .exact ⟨k,hi,i.symm⟩
   .exact (c P).1 e he
  .rw [gM]
   by_cases b:a=k
   .subst b
    exact .inl ⟨d,u,v,by simp,by simp [KP],r,h⟩
   .have e1:(a==k)=false:=by simpa using b
    have e2:KP ((k,u) :: vs) a=KP vs a:=by
     unfold KP
     rw [LK (by simpa using λz:k=a=>b z.symm)]
    rw [e1,e2]
    exact f a
def He  {K:A6} (h1:mg x=some (.ref a)) (h2:K.lookup a=some ⟨.type "dict",none,.dict es.toArray ep,#[]⟩) (d:(a==EE)=false) (g:GEntS w K es ag) (nd:(ag.map (·.1)).Nodup):GDictS w K mg x ag:=by
 obtain ⟨vs,b,p2,c⟩:=g.vals
 exact ⟨a,_,es.toArray,ep,vs,h1,h2,⟨rfl,rfl,rfl⟩,rfl,d,λP=>⟨λe he=>(b P).1 e (by simpa using he),(b P).2⟩,by rw [p2]; exact nd,c⟩
section
variable {X:Cx} {o e a b:Expr} {f g:FE} {pos:Pos} {kk:Nat}
def NH (ag:List (Str×D)):D->Option D
 | .str k=>ag.lookup k
 | _=>none
@[simp] theorem MJ   : NH ag (.str k)=ag.lookup k:=rfl
set_option tactic.hygienic true in
def D4 (hg:Gl X x) (L:GDictS X.w X.K X.mg x ag) (hi:DR X i f) (J:zb2 i:=by intro _ _; rfl) (hd:(x==("__debug__":Str))=false:=by decide):DE X (.Subscript (.Name x p) i pos) (YH (NH ag) f):=by
 obtain ⟨a,o,es,ep,vs,h1,h2,m,P,G,l,O,M⟩:=L.ex
 intro pins s σ H Q I h
 obtain ⟨H₀,aa,ρ,Hf,d,R,q,k⟩:=h
 obtain ⟨y,e1,e2⟩:=zQ q
 unfold NH at e2
 split at e2
 .rename_i n
  rcases M n with ⟨d',u,v,c,F,E,C⟩ | ⟨c,_⟩
  .rw [c] at e2
   cases e2
   refine Ku PySem.F.slot_dict_getitem.lookup J (thn (vi (v:=.ref a) hg h1 rfl hd pins s σ H (λx H1=>x=.ref a/\H1=H) I ⟨rfl,rfl⟩) λu0 s1 ⟨x,H1,Z,B,ex,T⟩=>?_)
   subst ex T
   cases B
   refine thn (hi pins s1 σ H1 (λy H2=>y=.str n/\∃ aK,Rep X.K H₀ aa σ ρ H2 aK/\z7 H1 H2/\z7 Hf aK) Z ⟨H₀,aa,ρ,Hf,_,R,e1,λv H1 W Y s1 z h1=>⟨h1.str,W,Y,s1,z⟩⟩) λiv s2 ⟨y,H2,r,A,S,aK,R2,U,w⟩=>?_
   subst S
   obtain ⟨t,rfl⟩:=A
   have j:=r.kIn a o h2
   have Ar:s2.heap.DictOf (E8 X.prog X.w) a vs:=⟨o,es,ep,j,m,P,(l _).1,(l _).2,O⟩
   refine ⟨⟨o,j,m.1⟩,wpAny_getItem_of (knd:=E8 X.prog X.w) (k:=n) (uN n t) Ar.mapOf F ⟨v,H2,r.tok _,E,?_⟩⟩
   exact k _ _ _ R2 U w (C.mono jc)
  .rw [c] at e2
   cases e2
 .cases e2
def zbh (ag:List (Str×D)) (f:FE):FT:=λρ=>(f ρ).bind λd=>match d with
 | .str k=>some (ag.lookup k).isSome
 | _=>none
@[simp] theorem Qe {ag:List (Str×D)} {ρ:bj}:zbh ag f ρ=(f ρ).bind λd=>match d with
 | .str k=>some (ag.lookup k).isSome
 | _=>none:=rfl
def zam (K:A6) (w:Ey) (mg:Str->Option Value) (x:Str) (ag:List (Str×D)) (ty:TE):TE:=λσ H Q=>ty σ H λy H1=>∃ k,y=.str k/\Q (.bl (ag.lookup k).isSome) H1
def Nc (hg:Gl X x) (w:GDictS X.w X.K X.mg x ag) (hi:PE X e ty) (hd:(x==("__debug__":Str))=false):PC X .In e (.Name x p) (zam X.K X.w X.mg x ag ty):=by
 obtain ⟨a,o,es,ep,vs,h1,h2,E,C,c,j,B,A⟩:=w.ex
 intro pins s σ H Q I h
 refine thn (hi pins s σ H _ I h) λM s1 ⟨y,H1,J,m,n,F,q⟩=>?_
 subst F
 obtain ⟨t,rfl⟩:=m
 refine thn (vi (v:=.ref a) hg h1 rfl hd pins s1 σ H1 (λx H2=>x=.ref a/\H2=H1) J ⟨rfl,rfl⟩) λu0 s2 ⟨x,H2,l,r,ex,G⟩=>?_
 subst ex G
 cases r
 have z:=l.kIn a o h2
 have L:s2.heap.DictOf (E8 X.prog X.w) a vs:=⟨o,es,ep,z,E,C,(j _).1,(j _).2,B⟩
 refine wpAny_in_of (knd:=E8 X.prog X.w) (k:=n) (uN n t) c L.mapOf ?_
 have e:(KP vs n).isSome=(ag.lookup n).isSome:=by
  rcases A n with ⟨d',u,v,i,d,_⟩ | ⟨i,d⟩ <;> rw [i,d] <;> rfl
 rw [e]
 exact ⟨.bl (ag.lookup n).isSome,H2,l.tok _,rfl,q⟩
def Ph (hg:Gl X x) (h:GDictS X.w X.K X.mg x ag) (hi:DE X e f) (hd:(x==("__debug__":Str))=false:=by decide) (i:Ew .In (.Name x p)=false:=by rfl):DT X (.Compare e [.In] [.Name x p] pos) (zbh ag f) :=
 WJ (K2 (Nc hg h hi hd) i) λσ H Q ⟨H₀,aa,ρ,Hf,b,R,q,k⟩=>by
  unfold zbh at q
  obtain ⟨d,e2,q⟩:=fy.mp q
  split at q
  .cases q
   exact ⟨H₀,aa,ρ,Hf,_,R,e2,λv H2 aK R2 s2 c h2=>⟨_,Ei.mp h2,_,rfl,k _ _ R2 s2 c⟩⟩
  .cases q
def rTB (φ:Str->Str->Bool):V->List V->Hp->VK->Prop:=λx vs H Q=>∃ z y,x=.str z/\vs=[.str y]/\Q (.bl (φ z y)) H
def GA:MtR X "str.startswith" (rTB Txt.startswith):=by
 intro pins s σ H x vs v us Q I c d h
 obtain ⟨z,y,rfl,rfl,q⟩:=h
 obtain ⟨t,rfl⟩:=c
 obtain ⟨u,rfl,t',rfl⟩:=kF d
 exact SC.startswith ⟨.bl _,H,I,rfl,q⟩
def tbD (φ:Str->Str->Bool):D->D->Option D
 | .str z,.str y=>some (.bl (φ z y))
 | _,_=>none
@[simp] theorem MF   : tbD φ (.str z) (.str y)=some (.bl (φ z y)):=rfl
def QZ (n:DE X o f) (p:DE X e g)
  (h:IR o "startswith" X.env (eval o X.env)=eval o X.env:=by rfl)
  (i:((EU aO (A7 [e] X.env)).all (λx => !x.1)&&(backToKw aO (keywordEach [] X.env)).all (λx=>x.1.isSome)
   && decide (([e]:List Expr).length+([]:List Lz).length+(if ([]:List Lz).isEmpty then 0 else 1) < 30))=true:=by rfl)
  (c:(apos.endLine==aO.line)=true:=by rfl) (bp:A7 [e] X.env=(false,eval e X.env) :: A7 [] X.env:=by rfl) (r:(EU aO (A7 [] X.env)).any (·.1)=false:=by rfl) :
  DE X (.Call (.Attribute o "startswith" apos) [e] [] aO) (zt (tbD Txt.startswith) f g) :=
 yu (CA PySem.F.plainAttrs_str PySem.F.slot_str_startswith PySem.F.type_str_startswith GA n (z8 p xx bp) h i c bp r) λσ H Q ⟨H₀,aa,ρ,Hf,d,R,q,k⟩=>by
  obtain ⟨x,y,e1,e2,j⟩:=kh q
  refine ⟨H₀,aa,ρ,Hf,x,R,e1,λv H1 s u s1 m h1=>?_⟩
  unfold tbD at j
  split at j
  .cases j
   cases Ei.mp h1
   refine ⟨rfl,H₀,aa,ρ,s,_,u,e2,λw H2 aK R2 s2 l h2=>?_⟩
   cases Ei.mp h2
   exact ⟨_,_,rfl,rfl,k _ _ _ R2 (s1.trans s2) (m.trans l) (Eb.mpr rfl)⟩
  .cases j
def P7 (i j c:Int) (p:Addr) (h:Heap):Prop:=∃ t u v,h.get? p=some { cls:=.type "range",data:=.fields #[.int i t,.int j u,.int c v] }
def Bi:wU X (.type "range") (λxs H Q=>∃ i j c,xs=[.int i,.int j,.int c]/\c≠0/\Builtin.divisionGoesByPylong (j - i) c=false/\∀ p,H p=none->Q (.ref p) (upd H p (.ext (P7 i j c p)))):=by
 intro pins s σ H xs us Q I r h
 obtain ⟨i,j,c,rfl,n,m,q⟩:=h
 cases r with
 | cons l r =>
  cases r with
  | cons d r =>
   cases r with
   | cons r3 r =>
    cases r
    obtain ⟨z,rfl⟩:=l
    obtain ⟨y,rfl⟩:=d
    obtain ⟨x,rfl⟩:=r3
    refine call_range_3 n ⟨.ref s.heap.objs.size,_,I.laid (t':=s.toks) (o:=.ext (P7 i j c s.heap.objs.size)) (λb ob q=>tz _ q) (aM _) ?_,rfl,q _ (I.hok.fresh (aM _))⟩ (.inl m)
    refine ⟨⟨_,_,_,AC _ rfl⟩,⟨_,AC _ rfl⟩,λh1 h2 w k=>?_⟩
    obtain ⟨t,u,v,e⟩:=w
    exact ⟨t,u,v,k _ e⟩
def YG (L:X.calm=true):wU X (.type "list") (λxs H Q=>∃ (p:Addr) (i j c:Int) (n:Nat),xs=[.ref p]/\H p=some (.ext (P7 i j c p))/\Builtin.Range.small i j c=true/\Ek i j c=(n:Int)/\n<=1000000 ∧
  ∀ l,H l=none->Q (.ref l) (upd H l (.lst ((aw n).map λ(k:Nat)=>V.int (i+(k:Int) * c))))):=by
 intro pins s σ H xs us Q I r h
 obtain ⟨p,i,j,c,n,rfl,J,y,hsz,R,q⟩:=h
 obtain ⟨u,rfl,C⟩:=kF r
 cases C
 obtain ⟨⟨t,u,v,e⟩,_⟩:=(show xH X.prog X.w H s.heap p (.ext (P7 i j c p)) from I.hok p _ J)
 have S:sizeLine=16777216:=Eo
 refine call_list_range (n:=n) (I.ok.hd L) (show IsRange s.heap p i j c t u v from e) y hsz (by omega) λh' tk z P kp es M=>?_
 obtain ⟨G,F⟩:=M
 have B:∀ (m:Nat) (af:List Value) (lo:Nat),af.length=m->(∀ (k:Nat) w,af[k]? = some w->∃ t,w=.int (i+((lo+k:Nat):Int) * c) t)->yS ((aw m).map λ(k:Nat)=>V.int (i+((lo+k:Nat):Int) * c)) af:=by
  intro m
  induction m with
  | zero =>
   intro af lo d _
   rw [g3e d]
   exact .nil
  | succ m E =>
   intro af lo d A
   cases af with
   | nil=>simp at d
   | cons w af =>
    rw [oO,au,bM]
    obtain ⟨t,rfl⟩:=A 0 w rfl
    refine .cons ⟨t,rfl⟩ ?_
    have:=E af (lo+1) (by simpa using d) λk w e=>by
     obtain ⟨t,rfl⟩:=A (k+1) w (by simpa using e)
     exact ⟨t,by rw [show lo+(k+1)=lo+1+k by omega]⟩
    have e:((λk:Nat=>V.int (i+((lo+k:Nat):Int) * c)) ∘ Nat.succ)=λk:Nat=>V.int (i+((lo+1+k:Nat):Int) * c):=by
     funext k
     simp only [Ez]
     rw [show lo+k.succ=lo+1+k by omega]
    rw [e]
    exact this
 have x:yS ((aw n).map λ(k:Nat)=>V.int (i+(k:Int) * c)) z.toList:=by
  have:=B n z.toList 0 (by simpa using G) λk w O=>by
   obtain ⟨t,rfl⟩:=F k w (by simpa using O)
   exact ⟨t,by rw [fU]⟩
  simpa only [fU] using this
 refine ⟨.ref s.heap.objs.size,_,I.laid (t':=tk) (o:=.lst _) kp (aM _) ⟨by rw [az,fW]; omega,z.toList,P,x,by simpa using es⟩,rfl,q _ (I.hok.fresh (aM _))⟩
def Xm (i c:Int) (n:Nat):List D:=(aw n).map λ(k:Nat)=>D.int (i+(k:Int) * c)
def G8 {K:A6} (i c) (n:Nat):zP K H (Xm i c n) ((aw n).map λ(k:Nat)=>V.int (i+(k:Int) * c)):=by
 unfold Xm
 induction (aw n) with
 | nil=>exact .nil
 | cons k l d=>exact .cons (u9.mpr rfl) d
def Nn (i j c:Int):Bool:=decide (c≠0) && !Builtin.divisionGoesByPylong (j - i) c&&Builtin.Range.small i j c&&decide (0<=Ek i j c)&&decide (Ek i j c<=1000000)
def RC (fa:FA):FA:=λρ=>(fa ρ).bind λl=>match l with
 | [.int i,.int j,.int c]=>if Nn i j c=true then some (Xm i c (Ek i j c).toNat) else none
 | _=>none
@[simp] theorem KN {fa:FA} {ρ:bj}:RC fa ρ=(fa ρ).bind λl=>match l with
 | [.int i,.int j,.int c]=>if Nn i j c=true then some (Xm i c (Ek i j c).toNat) else none
 | _=>none:=rfl
def jS.three {K:A6} {a b c:D} (h:jS K Hf σ ρ [a,b,c] vs):∃ x y z,vs=[x,y,z]/\qP K Hf σ ρ a x/\qP K Hf σ ρ b y/\qP K Hf σ ρ c z:=by
 cases h with
 | cons h1 h =>
  cases h with
  | cons h2 h =>
   cases h with
   | cons d h =>
    cases h
    exact ⟨_,_,_,rfl,h1,h2,d⟩
set_option tactic.hygienic true in
def Vm (G:X.calm=true) (hg:Gl X "list") (F:X.mg "list"=none) (w:Gl X "range") (A:X.mg "range"=none) (I:i_ X [a,b,c] fa)
  (s:A7 [.Call (.Name "range" p2) [a,b,c] [] n] X.env=(false,eval (.Call (.Name "range" p2) [a,b,c] [] n) X.env) :: A7 [] X.env:=by rfl) (J:(EU pos (A7 [] X.env)).any (·.1)=false:=by rfl)
  (m:A7 [a,b,c] X.env=(false,eval a X.env) :: A7 [b,c] X.env:=by rfl) (B:(EU n (A7 [b,c] X.env)).any (·.1)=false:=by rfl) :
  DN X (.Call (.Name "list" p) [.Call (.Name "range" p2) [a,b,c] [] n] [] pos) (RC fa) :=
 yu (wI (T:="list") (YG G) hg F (by rfl) (z8 (wI (T:="range") Bi w A qN I (by decide) (by decide) m B) xx s) (by decide) (by decide) s J) λσ H Q u=>by
  obtain ⟨H₀,aa,ρ,Hf,d,R,q,k⟩:=u
  obtain ⟨l,e1,e2⟩:=ym q
  refine ⟨H₀,aa,ρ,Hf,l,R,e1,λvs H1 P L s1 v h1=>?_⟩
  split at e2
  .rename_i i j c
   split at e2
   .rename_i hok
    cases e2
    unfold Nn at hok
    simp only [cO,decide_eq_true_eq,Bool.not_eq_true'] at hok
    obtain ⟨⟨⟨⟨k1,k2⟩,k3⟩,O⟩,k5⟩:=hok
    obtain ⟨x,y,z,rfl,E,C,hz⟩:=jS.three h1
    refine ⟨i,j,c,by rw [E.int,C.int,hz.int],k1,k2,λp r=>?_⟩
    refine ⟨p,i,j,c,(Ek i j c).toNat,rfl,zq,k3,by omega,by omega,λM h=>?_⟩
    have s2:z7 H1 (upd H1 p (.ext (P7 i j c p))):=zG r
    have R2:=L.layN (o:=.ext (P7 i j c p)) r
    exact k _ _ _ _ (R2.layN h) ((s1.trans s2).trans (zG h)) v (G8 i c _) zq (R2.sf.free h) ((s1.trans s2).free h)
   .cases e2
  .cases e2
end
section
variable {X:Cx} {pos:Pos} {kk:Nat}
end
section
variable {X:Cx} {e:Expr} {f:FE} {pos:Pos} {kk:Nat}
def ipM:TIp:=λx y H Q=>∃ i j,x=.int i/\y=.int j/\UQ i j/\Q (.int (i * j)) H
def N0:PIp X .Mult ipM:=by
 intro pins s σ H x y v u Q I b a h
 obtain ⟨i,j,e1,e2,c,q⟩:=h
 subst e1; subst e2
 obtain ⟨t,rfl⟩:=b
 obtain ⟨t',rfl⟩:=a
 exact imul_int ⟨.int _,H,I.tok _,⟨_,rfl⟩,q⟩ c.ok
def PB (i:Nat) (f:FE):FS:=λρ=>(f ρ).bind λy=>match ρ[i]?,y with
 | some (.fr (.int m)),.int k=>if UQ m k then some (.nx (ρ.set i (.fr (.int (m * k))))) else none
 | _,_=>none
set_option tactic.hygienic true in
def Pl (i) (j:X.N.Nodup) (g:DE X e f) (hi:X.N[i]? = some x:=by rfl) (c:Loc X.env.scope x:=by first | exact E9 rfl | exact EI rfl)
  (d:X.fn x=true\/X.env.scope.names.lookup x=some .local:=by first | exact .inl rfl | exact .inr rfl | assumption):DS X (.AugAssign (.Name x pos') .Mult e pos) (PB i f) :=
 x8 (FH j hi c g N0 d) λD' σ H ⟨H₀,aa,ρ,Hf,o,R,q,k⟩=>by
  obtain ⟨y,e1,e2⟩:=zQ q
  split at e2
  .split at e2
   .rename_i h
    cases e2
    rename_i m kk l
    obtain ⟨v,b,p2⟩:=R.fr i _ l
    have pv:=u9.mp p2
    subst pv
    refine ⟨.int m,b,H₀,aa,ρ,Hf,.int kk,R,e1,λv H1 p n s1 a h1=>?_⟩
    exact ⟨m,kk,rfl,u9.mp h1,h,k _ _ _ (n.set i (u9.mpr rfl)) a⟩
   .cases e2
  .cases e2
@[simp] theorem MP {i:Nat} {ρ:bj}:PB i f ρ=(f ρ).bind λy=>match ρ[i]?,y with
 | some (.fr (.int m)),.int k=>if UQ m k then some (.nx (ρ.set i (.fr (.int (m * k))))) else none
 | _,_=>none:=rfl
def Rep.hold {K:A6} (R:Rep K H₀ aa σ ρ H Hf) (d:H p=none):Rep K (upd H₀ p o) aa σ ρ (upd H p o) Hf:=by
 have R':=R.layN (o:=o) d
 refine ⟨λb u e=>?_,R'.sf,λb u e=>?_,R'.f0,R'.len,R'.fr,λi sl e ow=>?_,R'.inj⟩
 .by_cases c:b=p
  .subst c; rw [zq] at e ⊢; exact e
  .rw [zw c] at e ⊢; exact R.s0 b u e
 .rcases R.nf b u e with z | z | z
  .exact .inl z
  .refine .inr (.inl ?_)
   have c:b≠p:=λq=>by
    have:=R.sf b u e
    rw [q,d] at this
    cases this
   rw [zw c]; exact z
  .exact .inr (.inr z)
 .obtain ⟨a,g,l,k,j⟩:=R'.ow i sl e ow
  refine ⟨a,g,l,k,?_⟩
  obtain ⟨m,z1,z2,_,_⟩:=R.ow i sl e ow
  rw [g] at z1
  cases z1
  obtain ⟨ob,h⟩:=z2.there ow
  rw [zw (zU h d)]
  exact j
def Rep.back {K:A6} (R:Rep K (upd H₀ p o) aa σ ρ H Hf) (v:H₀ p=none) (h:aa p=none) (s:¬ Tp o) (r:H p=some o):Rep K H₀ aa σ ρ (upd H p o') Hf/\Hf p=none/\∀ (j:Nat) (cG),ρ[j]? = some cG->cG.own=true->σ[j]? ≠ some (some (.ref p)):=by
 have l:Hf p=none:=by
  cases z:Hf p with
  | none=>rfl
  | some u =>
   have e:=R.sf p u z
   rw [r] at e
   cases e
   rcases R.nf p _ z with y | y | y
   .rw [h] at y; cases y
   .rw [zq] at y; cases y
   .exact absurd y s
 have own:∀ (j:Nat) (cG:Slot),ρ[j]? = some cG->cG.own=true->σ[j]? ≠ some (some (.ref p)):=λj cG e ow z=>by
  obtain ⟨a,g,_,_,d⟩:=R.ow j cG e ow
  rw [g] at z
  cases z
  rw [zq] at d
  cases d
 refine ⟨⟨λb u e=>?_,λb u e=>?_,λb u e=>?_,R.f0,R.len,R.fr,λi sl e ow=>?_,R.inj⟩,l,own⟩
 .have c:b≠p:=λq=>by rw [q,v] at e; cases e
  rw [zw c]
  exact R.s0 b u (by rw [zw c]; exact e)
 .have c:b≠p:=λq=>by rw [q,l] at e; cases e
  rw [zw c]
  exact R.sf b u e
 .rcases R.nf b u e with z | z | z
  .exact .inl z
  .by_cases c:b=p
   .subst c; rw [zq] at z; cases z
   .rw [zw c] at z; exact .inr (.inl z)
  .exact .inr (.inr z)
 .obtain ⟨a,g,n,m,d⟩:=R.ow i sl e ow
  have k:a≠p:=λq=>own i sl e ow (by rw [g,q])
  refine ⟨a,g,n.mono (λo e=>by rw [zw k]; exact e) zE,m,?_⟩
  rw [zw k] at d
  exact d
def Mx (K:A6) (n:Nat) (tk tv:TE):TE:=λσ H Q=>∀ p,H p=none->Kq [(tk,tv)] σ (upd H p (.ext (qA (n+1) [] p))) λps H2=>∃ (b:Addr) (k:KTy (n+1)),n<=3/\ps=[(.ref b,.bl true)]/\H2 p=some (.ext (qA (n+1) [] p))/\ae K H2 (fF (n+1) k) (.ref b)/\Q (.ref p) (upd H2 p (.ext (qA (n+1) [(k,b)] p)))
def Ga (n) (P:X.A.units+6 < IE) (J:PE X key tk) (E:PE X value tv):PE X (.Dict [some key] [value] dpos) (Mx X.K n tk tv):=by
 intro pins s σ H Q I q
 have G:=I.hok.fresh (aM s.heap.objs.size)
 have O:=I.laid (a:=s.heap.objs.size) (o:=.ext (qA (n+1) [] s.heap.objs.size)) (h':=s.heap.push { cls:=.type "dict",data:=.dict #[] }) (t':=s.toks) (λ_ _ q=>tz _ q) (aM _)
  (Za ⟨beq_eq_false_iff_ne.mpr (EF (cR I.big)),_,#[],0,AC _ rfl,⟨rfl,rfl,rfl⟩,rfl,rfl,List.nodup_nil,dm _⟩)
 refine wpAny_Dict_any rfl rfl (by simp) (show 1<=15 by decide) (thn (Cq J E M3 pins _ σ _ _ O (q _ G)) λws s2 ⟨ps,H2,i,rel,b,k,R,ep,e,L,A⟩=>?_)
 subst ep
 cases rel with
 | @cons _ p _ m F ht =>
  cases ht
  obtain ⟨u,r⟩:=p
  obtain ⟨y,v⟩:=F
  obtain rfl:u=EA b:=y
  obtain rfl:r=Ic true:=v
  obtain ⟨z,hz,dd⟩:=UD (n:=n) (by omega) i e (λx C=>by cases C)
  unfold storeAll
  rw [AF]
  refine ls (ls (wpAny_dictSet_heap (knd:=C7 (prog:=X.prog) (w:=X.w) n (by omega)) (hsz:=by rw [az]; exact hz) (by show X.A.units+(n+1) < IE; omega) (Z3 (n+1) i L rfl) dd λh' B M=>u0 ?_))
  show A_ _ _ (forIn ([]:List (Value×Value)) PUnit.unit _) _ _ _
  rw [List.forIn_nil]
  refine u0 ⟨.ref s.heap.objs.size,_,?_,rfl,A⟩
  obtain ⟨j,es,ep,l,h2,h,d,_,g⟩:=B
  refine Yc i (by rw [e]; exact Iu) M ⟨j,l⟩ (Za ⟨z,j,es,ep,l,h2,h,?_⟩)
  unfold storedH at d g
  rw [jN] at d g
  have c:k∉([]:List (KTy (n+1)×Addr)).map (·.1):=by simp
  rw [decide_eq_false c,if_neg gp] at d g
  refine ⟨?_,?_,?_⟩
  .rw [d]; rfl
  .simp
  .rw [bX,Eo]
   decide
def Yb (i n:Nat) (a:FE):FS:=λρ=>(a ρ).bind λd=>if n<=3 then (hW (n+1) d).bind λk=>some (.nx (ρ.set i (.oX (n+1) [k]))) else none
@[simp] theorem KY    : Yb i n a ρ=(a ρ).bind λd=>if n<=3 then (hW (n+1) d).bind λk=>some (.nx (ρ.set i (.oX (n+1) [k]))) else none:=rfl
def HD (i n) (v:Room kk X.A) (B:X.N.Nodup) (y:DE X key C) (s:DE X value (cF (.bl true))) (hi:X.N[i]? = some x:=by rfl) (h:Loc X.env.scope x:=by first | exact E9 rfl | exact EI rfl) (u:EW (.Dict [some key] [value] dpos) (some (.Name x pos')) pos.line X.env=pure false:=by rfl)
  (A:X.fn x=true\/X.env.scope.names.lookup x=some .local:=by first | exact .inl rfl | exact .inr rfl | assumption):DS X (.Assign [.Name x pos'] (.Dict [some key] [value] dpos) pos) (Yb i n C) :=
 x8 (ZH B hi h (Ga n (dpos:=dpos) (by have:=v.un; omega) y s) u A) λD' σ H ⟨H₀,aa,ρ,Hf,o,R,q,k⟩=>by
  unfold Yb at q
  obtain ⟨d,e1,q⟩:=fy.mp q
  split at q
  .rename_i w
   obtain ⟨c,e2,q⟩:=fy.mp q
   cases q
   intro p j
   have F:Hf p=none:=R.sf.free j
   refine ⟨_,aa,ρ,Hf,d,R.hold j,e1,λM H1 G J s1 r h1=>⟨_,aa,ρ,G,.bl true,J,rfl,λL H2 aK R2 s2 l h2=>?_⟩⟩
   have m:H2 p=some (.ext (qA (n+1) [] p)):=s2 _ _ (s1 _ _ zq)
   rw [Zc (n+1) d c e2] at h1
   obtain ⟨b,ys,rfl,_⟩:=D_.mp h1
   obtain ⟨I,E,a⟩:=R2.back (o':=.ext (qA (n+1) [(c,b)] p)) (R.s0.free j) (R.f0.free F) (λz=>by obtain ⟨ks,z⟩:=z; cases z) m
   have g:ae X.K aK (fF (n+1) c) (.ref b):=h1.mono l
   refine ⟨b,c,w,by rw [Eb.mp h2],m,g.mono R2.sf,?_⟩
   exact k _ _ _ (I.setOwn i rfl ⟨[(c,b)],zq,rfl,λx h=>by
    rw [hJ] at h
    subst h
    exact g⟩ E (R.s0.free j) a) (r.trans l)
  .cases q
def Pg (h:gQ X il F):nR X E il (SA F):=j6 h λD' σ H ⟨H₀,aa,ρ,Hf,o,R,q,k⟩=>by
 obtain ⟨o',e,rfl⟩:=iu.mp q
 exact ⟨H₀,aa,ρ,Hf,o',R,e,k⟩
end
section
variable {X:Cx} {e a b:Expr} {f g:FE} {pos:Pos} {kk:Nat} {pins:List (Addr×Obj)} {σ:St} {H:Hp} {s:Shared}
end
def Df (K:A6) (x:Str) (st:Stmt):Prop:=∃ (f:Addr) (oc:Value) (od an:Option Addr) (fK:Array (Option Value)) (kV doc pm ar ct:Value),E1 K Bs x=some (some (.ref f)) ∧
 K.lookup f=some ⟨oc,od,.func (W.fnOf x x (vO st) (wo st) (zl st) .none kV doc pm an ar ct),fK⟩/\W.codeIn K ar x=true/\W.keepIn K (.ref f)=true
section
variable {P:Ej} {w:Ey} {K:A6} {mg:Str->Option Value} {base h:Heap} {x:Str} {st:Stmt} {k n:Nat} {ps:List Str}
def Al (X:K.In h) (G:h.Ns Bs mg) (d:Df K x st) (ok:∀ {f:Addr} {fd:Ih},Fun K x x st f fd->FnOk P w K mg base bg k f fd ps (spF K n g))
  (b:∀ (kV doc pm:Value) (an:Option Addr) (ar ct:Value) (us:List Value),us.length=ps.length->bindArgs (W.fnOf x x (vO st) (wo st) (zl st) .none kV doc pm an ar ct) ⟨us,[]⟩=pure (ps.zip us)):HasFn P w K mg base k x n g:=by
 obtain ⟨f,oc,od,an,fK,kV,doc,pm,ar,ct,a,l,c,q⟩:=d
 have F:=Hj l c q
 exact ⟨⟨_,_,_,ok F,Il X G a,q,F.binds b⟩⟩
def zdy (X:K.In h) (G:h.Ns Bs mg) (d:Df K x st) (ok:∀ {f:Addr} {fd:Ih},Fun K x x st f fd->FnOk P w K mg base (fH P w) k f fd ps (nW mg K n g))
  (b:∀ (kV doc pm:Value) (an:Option Addr) (ar ct:Value) (us:List Value),us.length=ps.length->bindArgs (W.fnOf x x (vO st) (wo st) (zl st) .none kV doc pm an ar ct) ⟨us,[]⟩=pure (ps.zip us)):HasFnX P w K mg base k x n g:=by
 obtain ⟨f,oc,od,an,fK,kV,doc,pm,ar,ct,a,l,c,q⟩:=d
 have F:=Hj l c q
 exact ⟨⟨_,_,_,ok F,Il X G a,q,F.binds b⟩⟩
end
def cJ (i) (c:decide X.N.Nodup=true:=by kernel_rfl) (hi:X.N[i]? = some x:=by rfl) (a:Loc X.env.scope x:=by first | exact E9 rfl | exact EI rfl) (b:X.fn x=true\/X.env.scope.names.lookup x=some .local:=by first | exact .inl rfl | exact .inr rfl | assumption):DG X (.Name x pos) (zS i):=ya i (of_decide_eq_true c) hi a b
def aQ (i:HasFn X.prog X.w X.K X.mg X.base k x n g) (f:DA X (e :: es) fa) (b:Room k X.A:=by first | assumption | exact Room.mono (by assumption) (by decide)) (hg:Gl X x:=by rfl)
  (c:∀ ρ ds,fa ρ=some ds->ds.length=n:=by first | exact YB C4 | exact YB (YB C4) | exact YB (YB (YB C4)) | exact YB (YB (YB (YB C4))))
  (a:(x==("__debug__":Str))=false:=by decide) (d:A7 (e :: es) X.env=(false,eval e X.env) :: A7 es X.env:=by rfl) (h:(EU pos (A7 es X.env)).any (·.1)=false:=by rfl) :
  DE X (.Call (.Name x p) (e :: es) [] pos) (yo g fa):=Pv i b hg f c a d h
end FL
namespace M02
def wsgn (n:Int):Int:=if 0 < n then 1 else if n < 0 then -1 else 0
def N (a b:Int):Int:=a * a+a * b - b * b
def sgn (a b:Int):Int:=if 0<=wsgn a * wsgn b then wsgn (wsgn a+wsgn b) else wsgn a * wsgn (a * a+a * b - b * b)
def qR (h:0 < n):wsgn n=1:=by unfold wsgn; rw [if_pos h]
def qS (h:n < 0):wsgn n = -1:=by unfold wsgn; rw [if_neg (by omega),if_pos h]
def wsgn_cases (n):(0 < n/\wsgn n=1)\/(n < 0/\wsgn n = -1)\/(n=0/\wsgn n=0):=by
 rcases Int.lt_trichotomy n 0 with h | h | h
 .exact .inr (.inl ⟨h,qS h⟩)
 .subst h; exact .inr (.inr ⟨rfl,rfl⟩)
 .exact .inl ⟨h,qR h⟩
def TY (x y):N (2 * x) (2 * y)=4 * N x y:=by
 unfold N
 have e1:2 * x * (2 * x)=4 * (x * x):=by rw [Ij,Int.mul_left_comm x 2 x,<- Ij]; rfl
 have e2:2 * x * (2 * y)=4 * (x * y):=by rw [Ij,Int.mul_left_comm x 2 y,<- Ij]; rfl
 have a:2 * y * (2 * y)=4 * (y * y):=by rw [Ij,Int.mul_left_comm y 2 y,<- Ij]; rfl
 rw [e1,e2,a]
 omega
def WU {a b:Int} (d:a % 2=1) (c:b % 2=1):(a * b) % 2=1:=by rw [Int.mul_emod,d,c]; rfl
def Hr (b:Int) (c:a % 2=0):(a * b) % 2=0:=by rw [Int.mul_emod,c]; simp
def Ti (a:Int) (c:b % 2=0):(a * b) % 2=0:=by rw [Int.mul_emod,c]; simp
def J9:∀ n a b,a.natAbs+b.natAbs=n->N a b=0->a=0/\b=0:=by
 intro n
 induction n using ID with
 | ind n f =>
  intro a b i h
  have h':a * a+a * b - b * b=0:=h
  have d:a % 2=0\/a % 2=1:=by omega
  have c:b % 2=0\/b % 2=1:=by omega
  rcases d with d | d <;> rcases c with c | c
  .by_cases h0:a=0/\b=0
   .exact h0
   .obtain ⟨x,rfl⟩:∃ x,a=2 * x:=⟨a / 2,by omega⟩
    obtain ⟨y,rfl⟩:∃ y,b=2 * y:=⟨b / 2,by omega⟩
    have g:=TY x y
    rw [h] at g
    have:=f (x.natAbs+y.natAbs) (by omega) x y rfl (by omega)
    omega
  .have e1:=Hr a d
   have e2:=Hr b d
   have e:=WU c c
   omega
  .have e1:=WU d d
   have e2:=Ti a c
   have e:=Hr b c
   omega
  .have e1:=WU d d
   have e2:=WU d c
   have e:=WU c c
   omega
def TX (h:N a b=0):a=0/\b=0:=J9 _ a b rfl h
def Pos (a b:Int):Prop:=(0<=a/\0<=b/\(0 < a\/0 < b))\/(0 < a/\b < 0/\0 < N a b)\/(a < 0/\0 < b/\N a b < 0)
def Fi (a b):N (-a) (-b)=N a b:=by unfold N; rw [Int.neg_mul_neg,Int.neg_mul_neg,Int.neg_mul_neg]
def sgn_pos (h:Pos a b):sgn a b=1:=by
 unfold sgn
 rcases h with ⟨h1,h2,c⟩ | ⟨h1,h2,c⟩ | ⟨h1,h2,c⟩
 .rcases wsgn_cases a with ⟨p,e⟩ | ⟨p,e⟩ | ⟨p,e⟩ <;> rcases wsgn_cases b with ⟨f,d⟩ | ⟨f,d⟩ | ⟨f,d⟩ <;> rw [e,d] <;> first | rfl | omega
 .rw [qR h1,qS h2]
  have:a * a+a * b - b * b > 0:=c
  rw [if_neg (by decide),qR this]; rfl
 .rw [qS h1,qR h2]
  have:a * a+a * b - b * b < 0:=c
  rw [if_neg (by decide),qS this]; rfl
def Xb (n):wsgn (-n) = -wsgn n:=by
 rcases wsgn_cases n with ⟨p,e⟩ | ⟨p,e⟩ | ⟨p,e⟩
 .rw [e,qS (by omega)]
 .rw [e,qR (by omega)]; rfl
 .subst p; rfl
def sgn_opp (a b):sgn (-a) (-b) = -sgn a b:=by
 unfold sgn
 have e : -a * -a + -a * -b - -b * -b=a * a+a * b - b * b:=Fi a b
 rw [e,Xb a,Xb b]
 have e2 : -wsgn a * -wsgn b=wsgn a * wsgn b:=Int.neg_mul_neg _ _
 rw [e2]
 have c : -wsgn a + -wsgn b = -(wsgn a+wsgn b):=by omega
 rw [c,Xb]
 split
 .rfl
 .exact Int.neg_mul _ _
def pos_cases (a b):(a=0/\b=0)\/Pos a b\/Pos (-a) (-b):=by
 by_cases h0:a=0/\b=0
 .exact .inl h0
 .right
  have e:N a b≠0:=λh=>h0 (TX h)
  by_cases f:0<=a
  .by_cases d:0<=b
   .exact .inl (.inl ⟨f,d,by omega⟩)
   .by_cases a0:a=0
    .exact .inr (.inl ⟨by omega,by omega,.inr (by omega)⟩)
    .rcases Int.lt_or_lt_of_ne e with c | c
     .exact .inr (.inr (.inr ⟨by omega,by omega,by rw [Fi]; exact c⟩))
     .exact .inl (.inr (.inl ⟨by omega,by omega,c⟩))
  .by_cases d:0 < b
   .rcases Int.lt_or_lt_of_ne e with c | c
    .exact .inl (.inr (.inr ⟨by omega,d,c⟩))
    .exact .inr (.inr (.inl ⟨by omega,by omega,by rw [Fi]; exact c⟩))
   .exact .inr (.inl ⟨by omega,by omega,.inl (by omega)⟩)
def N_g (a b):N b (a+b) = -N a b:=by
 unfold N
 have e1:b * (a+b)=a * b+b * b:=by rw [Int.mul_add,IM b a]
 have e2:(a+b) * (a+b)=a * a+2 * (a * b)+b * b:=by rw [Int.add_mul,Int.mul_add,Int.mul_add,IM b a]; omega
 rw [e1,e2]; omega
def UP (h1:0 < a) (h2:a+b<=0):N a b < 0:=by
 unfold N
 have e:a * a+a * b=a * (a+b):=by rw [Int.mul_add]
 have d:a * (a+b)<=0:=Int.mul_nonpos_of_nonneg_of_nonpos (by omega) h2
 have c:0 < b * b:=Int.mul_pos_of_neg_of_neg (by omega) (by omega)
 omega
def Fh (h1:a < 0) (h2:0<=a+b) (h3:0 < b):N a b < 0:=by
 have:=UP (a := -a) (b := -b) (by omega) (by omega)
 rwa [Fi] at this
def za4  : Pos a b↔Pos b (a+b):=by
 unfold Pos
 rw [N_g]
 constructor
 .rintro (⟨h1,h2,c⟩ | ⟨h1,h2,c⟩ | ⟨h1,h2,c⟩)
  .exact .inl ⟨h2,by omega,by omega⟩
  .by_cases h:a+b<=0
   .have:=UP h1 h; omega
   .exact .inr (.inr ⟨h2,by omega,by omega⟩)
  .by_cases h:a+b < 0
   .exact .inr (.inl ⟨h2,h,by omega⟩)
   .exact .inl ⟨by omega,by omega,by omega⟩
 .rintro (⟨h1,h2,c⟩ | ⟨h1,h2,c⟩ | ⟨h1,h2,c⟩)
  .by_cases h:0<=a
   .exact .inl ⟨h,h1,by omega⟩
   .exact .inr (.inr ⟨by omega,by omega,Fh (by omega) h2 (by omega)⟩)
  .exact .inr (.inr ⟨by omega,h1,by omega⟩)
  .exact .inr (.inl ⟨by omega,h1,by omega⟩)
def gpow:Nat->Int×Int->Int×Int
 | 0,x=>x
 | n+1,x=>gpow n (x.2,x.1+x.2)
theorem pos_gpow:∀ n x,Pos x.1 x.2↔Pos (gpow n x).1 (gpow n x).2
 | 0,x=>Iff.rfl
 | n+1,x=>(za4 (a:=x.1) (b:=x.2)).trans (pos_gpow n (x.2,x.1+x.2))
def Cone (x:Int×Int):Prop:=0<=x.1/\0<=x.2/\(0 < x.1\/0 < x.2)
def cone_pos {x:Int×Int} (h:Cone x):Pos x.1 x.2:=.inl h
theorem gpow_add (m):∀ n x,gpow m (gpow n x)=gpow (n+m) x
 | 0,x=>by rw [fU]; rfl
 | n+1,x=>by rw [Nat.succ_add]; exact gpow_add m n _
def Zj:∀ k a b,a.natAbs<=k->0 < a->b < 0->0 < N a b->∃ n,Cone (gpow n (a,b)):=by
 intro k
 induction k with
 | zero=>intro a b h1 h2; omega
 | succ k d =>
  intro a b h1 h2 j i
  have c:0 < a+b:=by
   by_cases h:a+b<=0
   .have:=UP h2 h; omega
   .omega
  by_cases f:0<=a+2 * b
  .exact ⟨2,(show (0:Int)<=a+b by omega),(show (0:Int)<=b+(a+b) by omega),.inl c⟩
  .have g:N (a+b) (b+(a+b))=N a b:=by rw [N_g,N_g]; omega
   obtain ⟨n,e⟩:=d (a+b) (b+(a+b)) (by omega) c (by omega) (by omega)
   exact ⟨n+2,e⟩
def to_cone (h:Pos a b):∃ n,Cone (gpow n (a,b)):=by
 rcases h with h | ⟨h1,h2,c⟩ | ⟨h1,h2,c⟩
 .exact ⟨0,h⟩
 .exact Zj _ a b (aM _) h1 h2 c
 .by_cases h:0<=a+b
  .exact ⟨1,(show (0:Int)<=b by omega),h,.inl h2⟩
  .obtain ⟨n,d⟩:=Zj _ b (a+b) (aM _) h2 (by omega) (by rw [N_g]; omega)
   exact ⟨n+1,d⟩
def mulG (x y:Int×Int):Int×Int:=(x.1 * y.1+x.2 * y.2,x.1 * y.2+x.2 * y.1+x.2 * y.2)
def Sy (x y):mulG (x.2,x.1+x.2) y=((mulG x y).2,(mulG x y).1+(mulG x y).2):=by
 unfold mulG
 simp only [Int.add_mul,Er]
 omega
def WX (x y):mulG x y=mulG y x:=by
 unfold mulG
 have e1:=IM x.1 y.1
 have e2:=IM x.2 y.2
 have b:=IM x.1 y.2
 have a:=IM x.2 y.1
 simp only [Er]
 omega
theorem ZQ:∀ n x y,mulG (gpow n x) y=gpow n (mulG x y)
 | 0,_,_=>rfl
 | n+1,x,y=>by
  show mulG (gpow n (x.2,x.1+x.2)) y=gpow n ((mulG x y).2,(mulG x y).1+(mulG x y).2)
  rw [ZQ n,Sy]
def D7 {x y:Int×Int} (h:Cone x) (g:Cone y):Cone (mulG x y):=by
 obtain ⟨f,e,b⟩:=h
 obtain ⟨d,c,a⟩:=g
 have l:=Lk f d
 have k:=Lk e c
 have j:=Lk f c
 have i:=Lk e d
 refine ⟨show (0:Int)<=x.1 * y.1+x.2 * y.2 by omega,show (0:Int)<=x.1 * y.2+x.2 * y.1+x.2 * y.2 by omega,?_⟩
 show 0 < x.1 * y.1+x.2 * y.2\/0 < x.1 * y.2+x.2 * y.1+x.2 * y.2
 rcases b with b | b <;> rcases a with a | a
 .have:=Int.mul_pos b a; omega
 .have:=Int.mul_pos b a; omega
 .have:=Int.mul_pos b a; omega
 .have:=Int.mul_pos b a; omega
def pos_mul {x y:Int×Int} (b:Pos x.1 x.2) (a:Pos y.1 y.2):Pos (mulG x y).1 (mulG x y).2:=by
 obtain ⟨n,c⟩:=to_cone b
 obtain ⟨m,d⟩:=to_cone a
 have h:=cone_pos (D7 c d)
 have e:mulG (gpow n (x.1,x.2)) (gpow m (y.1,y.2))=gpow (m+n) (mulG x y):=by
  rw [ZQ,WX,ZQ,WX,gpow_add]
 rw [e] at h
 exact (pos_gpow (m+n) (mulG x y)).mpr h
end M02
namespace GH
open FL L2
abbrev Gd:=Int×Int
def yz (x y:Gd):Gd:=(x.1+y.1,x.2+y.2)
def yt (x:Gd):Gd:=(-x.1,-x.2)
def yd (x y:Gd):Gd:=(x.1 * y.1+x.2 * y.2,x.1 * y.2+x.2 * y.1+x.2 * y.2)
def gD (x:Gd):D:=.tup [.int x.1,.int x.2]
def yG (r:List Gd):D:=.tup (r.map gD)
abbrev T3:=Int×Int×Int
def tD (t:T3):D:=.tup [.int t.1,.int t.2.1,.int t.2.2]
def ze (n:Nat) (ts:List T3):D:=.tup [.int n,.lst (ts.map tD)]
def cy (i j:Int):Int:=if j < i then j else i
def cA (i j:Int):Int:=if j > i then j else i
def CZ (i j):cy i j=cy j i:=by unfold cy; split <;> split <;> omega
def C2 (i j):cA i j=cA j i:=by unfold cA; split <;> split <;> omega
def zh:List T3->Int->Int->Int
 | [],_,_=>2
 | t :: ts,i,j=>if t.1=cy i j/\t.2.1=cA i j then t.2.2 else zh ts i j
def yk (ts) (i j:Int):zh ts i j=zh ts j i:=by
 induction ts with
 | nil=>rfl
 | cons t ts a=>unfold zh; rw [CZ,C2,a]
def zT (ts:List T3):Prop:=∀ t∈ts,t.2.2=0\/(3<=t.2.2/\t.2.2<=6)
def w9 (h:zT ts) (i j):zh ts i j=0\/(2<=zh ts i j/\zh ts i j<=6):=by
 induction ts with
 | nil=>simp [zh]
 | cons t ts a =>
  unfold zh
  split
  .have:=h t aN; omega
  .exact a λt ht=>h t (aX _ ht)
def zN (m:Int) (less:Bool):Gd :=
 if m=0 then (-2,0) else if m=2 then (0,0) else if m=3 then (-1,0) else if m=4 then (if less then (-2,0) else (-1,0)) else if m=5 then (0,-1) else (if less then (-3,0) else (-1,0))
def uI (ts:List T3) (i j:Int):Gd:=if i=j then (2,0) else zN (zh ts i j) (decide (i < j))
def V1 (m) (b:Bool) : -3<=(zN m b).1/\(zN m b).1<=2 /\ -1<=(zN m b).2/\(zN m b).2<=0:=by
 unfold zN
 repeat' split
 all_goals decide
def ug (ts) (i j:Int) : -3<=(uI ts i j).1/\(uI ts i j).1<=2 /\ -1<=(uI ts i j).2/\(uI ts i j).2<=0:=by
 unfold uI
 split
 .decide
 .exact V1 _ _
def xg (A:Nat->Gd):Nat->List Gd->Gd->Gd
 | _,[],acc=>acc
 | k,x :: r,acc=>xg A (k+1) r (yz acc (yd (A k) x))
def w4 (A:Nat->Gd) (i:Nat) (r:List Gd):List Gd:=r.set i (yz (r.getD i (0,0)) (yt (xg A 0 r (0,0))))
def zY (A) (i:Nat) (r:List Gd):(w4 A i r).length=r.length:=by simp [w4]
def zO (A:Nat->Nat->Gd) (w:List Nat) (r:List Gd):List Gd:=w.foldr (λi r=>w4 (A i) i r) r
def zu (A) (w:List Nat) (r:List Gd):(zO A w r).length=r.length:=by
 induction w with
 | nil=>rfl
 | cons i w a=>show (w4 (A i) i (zO A w r)).length=_; rw [zY,a]
def yA (A) (u v:List Nat) (r:List Gd):zO A (u++v) r=zO A u (zO A v r):=by simp [zO]
def zL (n i:Nat):List Gd:=(aw n).map λj=>if j=i then (1,0) else (0,0)
def zc (n i):(zL n i).length=n:=by simp [zL]
def zb (ts:List T3):Nat->Nat->Gd:=λi j=>uI ts (i:Int) (j:Int)
def Hg (x y):yz x y=yz y x:=by simp [yz,Int.add_comm]
def v7 (x y z):yz (yz x y) z=yz x (yz y z):=by simp [yz,Int.add_assoc]
def wg (x):yz x (0,0)=x:=by simp [yz]
def xS (x):yz (0,0) x=x:=by simp [yz]
def Vc (x):yt (yt x)=x:=by simp [yt]
def Vd (x y):yt (yz x y)=yz (yt x) (yt y):=by simp [yz,yt]; omega
def Dt (x y z):yd x (yz y z)=yz (yd x y) (yd x z):=by simp only [yd,yz,Int.mul_add,Er]; omega
def Ds (x y):yd x (yt y)=yt (yd x y):=by simp only [yd,yt,Int.mul_neg,Er]; omega
def Dr (y):yd (2,0) y=yz y y:=by simp only [yd,yz,Int.zero_mul,Er]; omega
theorem xI (A):∀ r k a,xg A k r a=yz a (xg A k r (0,0))
 | [],k,a=>by simp [xg,wg]
 | x :: r,k,a=>by
  unfold xg
  rw [xI A r (k+1) (yz a _),xI A r (k+1) (yz (0,0) _),xS,v7]
theorem Xj (A):∀ r k i y,i < r.length->xg A k (r.set i (yz (r.getD i (0,0)) y)) (0,0)=yz (xg A k r (0,0)) (yd (A (k+i)) y)
 | [],_,_,_,h=>by simp at h
 | x :: r,k,0,y,h=>by
  simp only [aT,List.getD_cons_zero,xg,xS,Nat.add_zero]
  rw [xI A r (k+1) (yd (A k) x),xI A r (k+1) (yd (A k) (yz x y)),Dt,v7,Hg (yd (A k) y),<- v7]
 | x :: r,k,i+1,y,h=>by
  simp only [aV,g4d,xg,xS]
  rw [xI A r (k+1) (yd (A k) x),xI A _ (k+1) (yd (A k) x),Xj A r (k+1) i y (by simpa using h),v7]
  congr 4
  omega
def ZS (h:A i=(2,0)) (r) (hi:i < r.length):w4 A i (w4 A i r)=r:=by
 unfold w4
 have b:=Xj A r 0 i (yt (xg A 0 r (0,0))) hi
 rw [b,fU,h,Dr,List.set_set]
 have hg:(r.set i (yz (r.getD i (0,0)) (yt (xg A 0 r (0,0))))).getD i (0,0)=yz (r.getD i (0,0)) (yt (xg A 0 r (0,0))):=by simp [aW,hi]
 rw [hg]
 generalize xg A 0 r (0,0)=S
 have e:yz (yz (r.getD i (0,0)) (yt S)) (yt (yz S (yz (yt S) (yt S))))=r.getD i (0,0):=by
  simp only [yz,yt]
  refine IA ?_ ?_ <;> simp only [] <;> omega
 rw [e]
 apply Lr
 intro k
 rw [du]
 by_cases a:i=k
 .subst a
  simp [hi,aW]
 .rw [if_neg a]
theorem vn (h:∀ i,A i i=(2,0)):∀ w r,(∀ i∈w,i < r.length)->zO A w.reverse (zO A w r)=r
 | [],r,_=>rfl
 | i :: w,r,hw=>by
  rw [lx,yA]
  show zO A w.reverse (w4 (A i) i (w4 (A i) i (zO A w r)))=r
  rw [ZS (h i) _ (by rw [zu]; exact hw i aN)]
  exact vn h w r λj a=>hw j (aX _ a)
def zJ (ts) (i:Nat):zb ts i i=(2,0):=by simp [zb,uI]
def Wx (x:Gd):Int:=M02.sgn x.1 x.2
def nS (B:Nat) (r:List Gd):Prop:=∀ x∈r,x.1.natAbs<=B/\x.2.natAbs<=B
def Qq {p x:Int} (b:p.natAbs<=c) (a:x.natAbs<=B):(p * x).natAbs<=c * B:=by
 rw [Int.natAbs_mul]
 exact Nat.mul_le_mul b a
def N4 (g : -3<=p.1/\p.1<=2 /\ -1<=p.2/\p.2<=0) (e:x.1.natAbs<=B/\x.2.natAbs<=B):(yd p x).1.natAbs<=5 * B/\(yd p x).2.natAbs<=5 * B:=by
 have f:p.1.natAbs<=3:=by omega
 have p2:p.2.natAbs<=1:=by omega
 have a:=Qq f e.1
 have b:=Qq p2 e.2
 have c:=Qq f e.2
 have d:=Qq p2 e.1
 constructor
 .show (p.1 * x.1+p.2 * x.2).natAbs<=5 * B
  omega
 .show (p.1 * x.2+p.2 * x.1+p.2 * x.2).natAbs<=5 * B
  omega
theorem Kr (c:∀ k,-3<=(A k).1/\(A k).1<=2 /\ -1<=(A k).2/\(A k).2<=0):∀ r k,nS B r->(xg A k r (0,0)).1.natAbs<=5 * B * r.length/\(xg A k r (0,0)).2.natAbs<=5 * B * r.length
 | [],k,_=>by simp [xg]
 | x :: r,k,h=>by
  unfold xg
  rw [xI,xS]
  have a:=N4 (c k) (h x aN)
  have b:=Kr c r (k+1) λy d=>h y (aX _ d)
  have e:5 * B * (x :: r).length=5 * B * r.length+5 * B:=by rw [ao,Nat.mul_succ]
  rw [e]
  constructor
  .show ((yd (A k) x).1+(xg A (k+1) r (0,0)).1).natAbs<=_
   omega
  .show ((yd (A k) x).2+(xg A (k+1) r (0,0)).2).natAbs<=_
   omega
def N5 (h:nS B r) (i):(r.getD i (0,0)).1.natAbs<=B/\(r.getD i (0,0)).2.natAbs<=B:=by
 rw [aW]
 cases e:r[i]? with
 | none=>simp
 | some x=>exact h x (gN e)
def ND (f:∀ k,-3<=(A k).1/\(A k).1<=2 /\ -1<=(A k).2/\(A k).2<=0) (i) (h:nS B r) (e:r.length<=6):nS (B * 32) (w4 A i r):=λx d=>by
 unfold w4 at d
 rcases List.mem_or_eq_of_mem_set d with d | rfl
 .have:=h x d; omega
 .have a:=Kr f r 0 h
  have b:=N5 h i
  have c:5 * B * r.length<=5 * B * 6:=Nat.mul_le_mul_left _ e
  constructor
  .show ((r.getD i (0,0)).1 + -(xg A 0 r (0,0)).1).natAbs<=_
   omega
  .show ((r.getD i (0,0)).2 + -(xg A 0 r (0,0)).2).natAbs<=_
   omega
theorem GK (h:nS B r) (a:r.length<=6):∀ w,nS (B * 32 ^ w.length) (zO (zb ts) w r)
 | []=>by simpa [zO] using h
 | i :: w=>by
  have b:=GK (ts:=ts) h a w
  have:=ND (A:=zb ts i) (λk=>ug ts i k) i b (by rw [zu]; exact a)
  show nS _ (w4 (zb ts i) i (zO (zb ts) w r))
  rw [ao,Nat.pow_succ,<- Nat.mul_assoc]
  exact this
def MB (n i):nS 1 (zL n i):=λx a=>by
 unfold zL at a
 obtain ⟨j,_,rfl⟩:=aR.mp a
 split <;> decide
end GH
namespace GH
def Y0 (x y z):yd (yd x y) z=yd x (yd y z):=by simp only [yd,Er]; constructor <;> grind
def Hc (x y):yd x y=yd y x:=by simp only [yd,Er]; constructor <;> grind
def kM (i:Nat) (p:Gd) (r:List Gd):List Gd:=r.set i (yz (r.getD i (0,0)) p)
def xt (i) (p:Gd) (r:List Gd):(kM i p r).length=r.length:=by simp [kM]
def jM (p q) (h:i < r.length):kM i p (kM i q r)=kM i (yz q p) r:=by
 unfold kM
 have:(r.set i (yz (r.getD i (0,0)) q)).getD i (0,0)=yz (r.getD i (0,0)) q:=by simp [aW,h]
 rw [this,List.set_set,v7]
def Vy (a:i≠j) (p q) (r:List Gd):kM i p (kM j q r)=kM j q (kM i p r):=by
 unfold kM
 have e1:(r.set j (yz (r.getD j (0,0)) q)).getD i (0,0)=r.getD i (0,0):=by simp [aW,du,EF a]
 have e2:(r.set i (yz (r.getD i (0,0)) p)).getD j (0,0)=r.getD j (0,0):=by simp [aW,du,a]
 rw [e1,e2,List.set_comm _ _ a]
def vI (A) (p) (h:i < r.length):xg A 0 (kM i p r) (0,0)=yz (xg A 0 r (0,0)) (yd (A i) p):=by
 have:=Xj A r 0 i p h
 rw [fU] at this
 exact this
def ji (A) (i:Nat) (r:List Gd):w4 A i r=kM i (yt (xg A 0 r (0,0))) r:=rfl
def jL (h:i < r.length):kM i (0,0) r=r:=by
 unfold kM
 rw [wg]
 apply Lr
 intro k
 rw [du]
 split
 .next e=>subst e; simp [h,aW]
 .rfl
abbrev Fm:=Gd×Gd
def ev (f:Fm) (x y:Gd):Gd:=yz (yd f.1 x) (yd f.2 y)
def DC (f g:Fm):Fm:=(yz f.1 g.1,yz f.2 g.2)
def VJ (f:Fm):Fm:=(yt f.1,yt f.2)
def rR (c:Gd) (f:Fm):Fm:=(yd c f.1,yd c f.2)
def kC (f g:Fm) (x y):ev (DC f g) x y=yz (ev f x y) (ev g x y):=by simp only [ev,DC,yz,yd,Er]; constructor <;> grind
def uA (f:Fm) (x y):ev (VJ f) x y=yt (ev f x y):=by simp only [ev,VJ,yz,yt,yd,Er]; constructor <;> grind
def DF (c) (f:Fm) (x y:Gd):ev (rR c f) x y=yd c (ev f x y):=by simp only [ev,rR,yz,yd,Er]; constructor <;> grind
def Hs (x y):ev ((0,0),(0,0)) x y=(0,0):=by simp [ev,yz,yd]
structure Tn where
 p:Fm
 q:Fm
 x:Fm
 y:Fm
 deriving DecidableEq
def mR:Tn:=⟨((0,0),(0,0)),((0,0),(0,0)),((1,0),(0,0)),((0,0),(1,0))⟩
def tnJ (a:Gd) (s:Tn):Tn:=⟨s.p,DC s.q (VJ s.y),DC s.x (rR a (VJ s.y)),VJ s.y⟩
def tnI (b:Gd) (s:Tn):Tn:=⟨DC s.p (VJ s.x),s.q,VJ s.x,DC s.y (rR b (VJ s.x))⟩
def tn (a b:Gd):Nat->Tn
 | 0=>mR
 | k+1=>tnI b (tnJ a (tn a b k))
def JA (i j:Nat):Nat->List Nat
 | 0=>[]
 | k+1=>i :: j :: JA i j k
theorem Gi (hi:i < n) (a:j < n):∀ k,∀ t∈JA i j k,t < n
 | 0,t,h=>by cases h
 | k+1,t,h=>by
  simp only [JA,aI] at h
  rcases h with h | h | h
  .omega
  .omega
  .exact Gi hi a k t h
def Xe (z):yz z (yd (2,0) (yt z))=yt z:=by simp only [yz,yd,yt,Er]; constructor <;> grind
def SB (A:Nat->Nat->Gd) (n:i≠j) (w:A i i=(2,0)) (e:A j j=(2,0)) (hi:i < r.length) (g:j < r.length) :
  ∀ k,∃ R,zO A (JA i j k) r=R/\R=kM i (ev (tn (A i j) (A j i) k).p (xg (A i) 0 r (0,0)) (xg (A j) 0 r (0,0))) (kM j (ev (tn (A i j) (A j i) k).q (xg (A i) 0 r (0,0)) (xg (A j) 0 r (0,0))) r) ∧
   xg (A i) 0 R (0,0)=ev (tn (A i j) (A j i) k).x (xg (A i) 0 r (0,0)) (xg (A j) 0 r (0,0))/\xg (A j) 0 R (0,0)=ev (tn (A i j) (A j i) k).y (xg (A i) 0 r (0,0)) (xg (A j) 0 r (0,0)):=by
 generalize q:xg (A i) 0 r (0,0)=x
 generalize p:xg (A j) 0 r (0,0)=y
 intro k
 induction k with
 | zero =>
  refine ⟨r,rfl,?_,?_,?_⟩
  .simp only [tn,mR,Hs]
   rw [jL g,jL hi]
  .rw [q]; simp [tn,mR,ev,yz,yd]
  .rw [p]; simp [tn,mR,ev,yz,yd]
 | succ k o =>
  obtain ⟨R,h1,h2,l,c⟩:=o
  have m:tn (A i j) (A j i) (k+1)=tnI (A j i) (tnJ (A i j) (tn (A i j) (A j i) k)):=rfl
  rw [m]
  generalize tn (A i j) (A j i) k=s at h2 l c
  have v:R.length=r.length:=by rw [h2,xt,xt]
  have e1:w4 (A j) j R=kM j (ev (VJ s.y) x y) R:=by rw [ji,c,uA]
  have a:xg (A i) 0 (w4 (A j) j R) (0,0)=ev (DC s.x (rR (A i j) (VJ s.y))) x y:=by
   rw [e1,vI (A i) _ (by omega),l,kC,DF]
  have b:xg (A j) 0 (w4 (A j) j R) (0,0)=ev (VJ s.y) x y:=by
   rw [e1,vI (A j) _ (by omega),c,e,uA,Xe]
  have f:w4 (A j) j R=kM i (ev s.p x y) (kM j (ev (DC s.q (VJ s.y)) x y) r):=by
   rw [e1,h2,<- Vy n,jM _ _ g,kC]
  generalize w4 (A j) j R=d at a b f e1
  have h:d.length=r.length:=by rw [f,xt,xt]
  have u:zO A (JA i j (k+1)) r=w4 (A i) i (w4 (A j) j (zO A (JA i j k) r)):=rfl
  have e2:w4 (A i) i d=kM i (ev (VJ (DC s.x (rR (A i j) (VJ s.y)))) x y) d:=by rw [ji,a,uA]
  refine ⟨w4 (A i) i d,?_,?_,?_,?_⟩
  .rw [u,h1,ji (A j),c,<- uA,<- e1]
  .rw [e2,f,jM _ _ (by rw [xt]; exact hi),<- kC]
   rfl
  .rw [e2,vI (A i) _ (by omega),a,w,uA,Xe,<- uA]
   rfl
  .rw [e2,vI (A j) _ (by omega),b,<- DF,<- kC]
   rfl
def kN (A) (n i:Nat) (hi:i < n):xg A 0 (zL n i) (0,0)=A i:=by
 have gen:∀ (m k:Nat) (a:Gd),xg A k ((aw m).map λt=>if k+t=i then ((1,0):Gd) else (0,0)) a=if k<=i/\i < k+m then yz a (A i) else a:=by
  intro m
  induction m with
  | zero=>intro k a; simp [xg]; intro h h2; omega
  | succ m b =>
   intro k a
   rw [oO,au,bM]
   have e:((λt=>if k+t=i then ((1,0):Gd) else (0,0)) ∘ Nat.succ)=λt=>if (k+1)+t=i then ((1,0):Gd) else (0,0):=by
    funext t
    simp only [Ez]
    have:k+t.succ=k+1+t:=by omega
    rw [this]
   rw [e]
   unfold xg
   rw [b]
   by_cases h:k=i
   .subst h
    have z:yd (A k) (1,0)=A k:=by simp [yd]
    simp [z]
    omega
   .have z:yd (A k) (0,0)=(0,0):=by simp [yd]
    simp only [Nat.add_zero,h,if_false,z,wg]
    by_cases h2:k+1<=i/\i < k+1+m
    .rw [if_pos h2,if_pos (by omega)]
    .rw [if_neg h2,if_neg (by omega)]
 have:=gen n 0 (0,0)
 simp only [fU] at this
 unfold zL
 rw [this,if_pos ⟨dm _,hi⟩,xS]
theorem QL:∀ n x y,M02.gpow n (x.1+y.1,x.2+y.2)=((M02.gpow n x).1+(M02.gpow n y).1,(M02.gpow n x).2+(M02.gpow n y).2)
 | 0,x,y=>rfl
 | n+1,x,y=>by
  have:=QL n (x.2,x.1+x.2) (y.2,y.1+y.2)
  simp only at this
  unfold M02.gpow
  rw [<- this]
  congr 2
  simp only []
  omega
theorem Ye:∀ n x,M02.Cone x->M02.Cone (M02.gpow n x)
 | 0,x,h=>h
 | n+1,x,h=>Ye n _ ⟨h.2.1,by have:=h.1; have:=h.2.1; simp only []; omega,by have:=h.1; have:=h.2.1; have:=h.2.2; simp only []; omega⟩
def M4 (b:M02.Pos x.1 x.2) (a:M02.Pos y.1 y.2):M02.Pos (yz x y).1 (yz x y).2:=by
 obtain ⟨n,c⟩:=M02.to_cone b
 obtain ⟨m,d⟩:=M02.to_cone a
 have h1:M02.Cone (M02.gpow m (M02.gpow n x)):=Ye m _ c
 have h2:M02.Cone (M02.gpow n (M02.gpow m y)):=Ye n _ d
 rw [M02.gpow_add] at h1 h2
 rw [Nat.add_comm m n] at h2
 rw [M02.pos_gpow (n+m) (yz x y)]
 apply M02.cone_pos
 have e:=QL (n+m) x y
 unfold yz
 rw [e]
 obtain ⟨a1,a2,a3⟩:=h1
 obtain ⟨h,g,f⟩:=h2
 exact ⟨by simp only []; omega,by simp only []; omega,by simp only []; omega⟩
def nn (x:Gd):Prop:=x=(0,0)\/M02.Pos x.1 x.2
def Qo (b:nn x) (a:nn y):nn (yz x y):=by
 rcases b with rfl | b
 .rw [xS]; exact a
 .rcases a with rfl | a
  .rw [wg]; exact .inr b
  .exact .inr (M4 b a)
def YU (b:nn x) (a:nn y):nn (yd x y):=by
 rcases b with rfl | b
 .left; simp [yd]
 .rcases a with rfl | a
  .left; simp [yd]
  .exact .inr (M02.pos_mul b a)
def V4 (h:M02.Pos x.1 x.2):¬ M02.Pos (yt x).1 (yt x).2:=by
 intro h'
 have e1:=M02.sgn_pos h
 have e2:=M02.sgn_pos h'
 have:=M02.sgn_opp x.1 x.2
 simp only [yt] at e2
 omega
def ZN (h:nn x) (h':nn (yt x)):x=(0,0):=by
 rcases h with h | h
 .exact h
 .rcases h' with h' | h'
  .have:=congrArg yt h'
   rw [Vc] at this
   rw [this]; rfl
  .exact absurd h' (V4 h)
def nnb (x:Gd):Bool:=decide (0<=M02.sgn x.1 x.2)
def Gr (h:nnb x=true):nn x:=by
 unfold nnb at h
 rw [decide_eq_true_eq] at h
 rcases M02.pos_cases x.1 x.2 with ⟨h1,h2⟩ | a | a
 .exact .inl (IA h1 h2)
 .exact .inr a
 .have:=M02.sgn_pos a
  rw [M02.sgn_opp] at this
  omega
def ZM (k) (h:0<=k):nn (k,0):=by
 by_cases c:k=0
 .left; rw [c]
 .exact .inr (.inl ⟨h,Int.le_refl _,.inl (by omega)⟩)
def Fs (h:nn x):Wx x ≠ -1:=by
 rcases h with rfl | h
 .decide
 .unfold Wx; rw [M02.sgn_pos h]; decide
def Ro (h:nn (yt x)):Wx x≠1:=by
 have:=Fs h
 unfold Wx yt at *
 rw [M02.sgn_opp] at this
 omega
def YR (r s:List Gd):List Gd:=g_ yz r s
def bG (c:Gd) (r:List Gd):List Gd:=r.map (yd c)
def yV (h:r.length=s.length):(YR r s).length=r.length:=by simp [YR,h]
def zo (c) (r:List Gd):(bG c r).length=r.length:=by simp [bG]
def xk {r s:List Gd} (h:r.length=s.length) (e:∀ k,k < r.length->r.getD k (0,0)=s.getD k (0,0)):r=s:=by
 apply List.ext_getElem h
 intro k h1 h2
 have:=e k h1
 simpa [aW,h1,h2] using this
def xu (h:r.length=s.length) (k):(YR r s).getD k (0,0)=yz (r.getD k (0,0)) (s.getD k (0,0)):=by
 unfold YR
 simp only [aW,List.getElem?_zipWith]
 by_cases a:k < r.length
 .simp [a,h ▸ a]
 .have h2:¬ k < s.length:=by omega
  simp [ir (IV.mp a),ir (IV.mp h2),yz]
def yi (c) (r:List Gd) (k:Nat):(bG c r).getD k (0,0)=yd c (r.getD k (0,0)):=by
 unfold bG
 simp only [aW,cP]
 by_cases a:k < r.length
 .simp [a]
 .simp [ir (IV.mp a),yd]
def wc (A) (hi:i < r.length) (k):(w4 A i r).getD k (0,0)=if k=i then yz (r.getD i (0,0)) (yt (xg A 0 r (0,0))) else r.getD k (0,0):=by
 unfold w4
 simp only [aW,du]
 by_cases h:k=i
 .subst h; simp [hi]
 .have:¬ i=k:=λe=>h e.symm
  simp [h,this]
theorem Xl (A):∀ r s k,r.length=s.length->xg A k (YR r s) (0,0)=yz (xg A k r (0,0)) (xg A k s (0,0))
 | [],[],k,_=>rfl
 | [],_ :: _,_,h=>by cases h
 | _ :: _,[],_,h=>by cases h
 | x :: r,y :: s,k,h=>by
  have a:=Xl A r s (k+1) (by simpa using h)
  unfold YR at a ⊢
  simp only [g3s,xg,xS]
  rw [xI A (g_ yz r s),a,xI A r (k+1) (yd (A k) x),xI A s (k+1) (yd (A k) y)]
  generalize xg A (k+1) r (0,0)=p
  generalize xg A (k+1) s (0,0)=q
  simp only [yz,yd,Er]
  constructor <;> grind
theorem Xk (A) (c:Gd):∀ r k,xg A k (bG c r) (0,0)=yd c (xg A k r (0,0))
 | [],k=>by simp [bG,xg,yd]
 | x :: r,k=>by
  have a:=Xk A c r (k+1)
  unfold bG at a ⊢
  simp only [au,xg,xS]
  rw [xI A (dC (yd c) r),a,xI A r (k+1) (yd (A k) x)]
  generalize xg A (k+1) r (0,0)=p
  simp only [yz,yd,Er]
  constructor <;> grind
def C0 (A) (h:r.length=s.length) (hi:i < r.length):w4 A i (YR r s)=YR (w4 A i r) (w4 A i s):=by
 have a:(w4 A i r).length=(w4 A i s).length:=by rw [zY,zY,h]
 apply xk (by rw [zY,yV h,yV a,zY])
 intro k _
 rw [wc A (by rw [yV h]; exact hi),xu a,wc A hi,wc A (h ▸ hi),xu h,xu h,Xl A r s 0 h]
 split
 .simp only [yz,yt,Er]; constructor <;> omega
 .rfl
def NC (A) (c) (hi:i < r.length):w4 A i (bG c r)=bG c (w4 A i r):=by
 apply xk (by rw [zY,zo,zo,zY])
 intro k _
 rw [wc A (by rw [zo]; exact hi),Xk]
 simp only [yi]
 rw [wc A hi]
 split
 .simp only [yz,yt,yd,Er]; constructor <;> grind
 .rfl
def aj (n:Nat) (w:List Nat):Prop:=∀ i∈w,i < n
def aj.app (b:aj n u) (a:aj n v):aj n (u++v):=λi hi=>(bE.mp hi).elim (b i) (a i)
def aj.left (h:aj n (u++v)):aj n u:=λi hi=>h i (bE.mpr (.inl hi))
def aj.right (h:aj n (u++v)):aj n v:=λi hi=>h i (bE.mpr (.inr hi))
def aj.rev (h:aj n u):aj n u.reverse:=λi hi=>h i (by simpa using hi)
def aj.one (h:i < n):aj n [i]:=λk a=>by simp at a; omega
def aj.cons (h:i < n) (b:aj n u):aj n (i :: u):=λk a=>by
 rcases aI.mp a with rfl | a
 .exact h
 .exact b k a
section
variable (A:Nat->Nat->Gd)
def y8 (i) (w:List Nat) (r:List Gd):zO A (i :: w) r=w4 (A i) i (zO A w r):=rfl
theorem qd:∀ (w) {r s:List Gd},r.length=s.length->aj r.length w->zO A w (YR r s)=YR (zO A w r) (zO A w s)
 | [],r,s,h,hw=>rfl
 | i :: w,r,s,h,hw=>by
  rw [y8,y8,y8,qd w h (λk a=>hw k (aX _ a)),C0 (A i) (by rw [zu,zu,h]) (by rw [zu]; exact hw i aN)]
theorem wW (c):∀ (w) {r:List Gd},aj r.length w->zO A w (bG c r)=bG c (zO A w r)
 | [],r,hw=>rfl
 | i :: w,r,hw=>by
  rw [y8,y8,wW c w (λk a=>hw k (aX _ a)),NC (A i) c (by rw [zu]; exact hw i aN)]
def Eqv (n:Nat) (u v:List Nat):Prop:=∀ r:List Gd,r.length=n->zO A u r=zO A v r
variable {A} {n:Nat}
def A8 (u):Eqv A n u u:=λ_ _=>rfl
def Eqv.symm (h:Eqv A n u v):Eqv A n v u:=λr a=>(h r a).symm
def Eqv.trans (h:Eqv A n u v) (h':Eqv A n v w):Eqv A n u w:=λr a=>(h r a).trans (h' r a)
def Eqv.app (h:Eqv A n u c) (h':Eqv A n v b):Eqv A n (u++v) (c++b):=λr a=>by
 rw [yA,yA,h' r a,h _ (by rw [zu,a])]
variable (h2:∀ i,A i i=(2,0))
include h2
def IQ (a:s < n):Eqv A n [s,s] []:=λr b=>ZS (h2 s) r (by omega)
def XW (a:aj n w):Eqv A n (w.reverse++w) []:=λr b=>by
 rw [yA]
 exact vn h2 w r (λi hi=>by rw [b]; exact a i hi)
def Z8 (hw:aj n w):Eqv A n (w++w.reverse) []:=by
 have:=XW h2 hw.rev
 rwa [mG] at this
def Eqv.rev (b:aj n u) (a:aj n v) (h:Eqv A n u v):Eqv A n u.reverse v.reverse:=by
 have a1:Eqv A n (u.reverse++(v++v.reverse)) (u.reverse++[]):=(A8 _).app (Z8 h2 a)
 have a2:Eqv A n ((u.reverse++v)++v.reverse) ((u.reverse++u)++v.reverse):=((A8 _).app h.symm).app (A8 _)
 have a3:Eqv A n ((u.reverse++u)++v.reverse) ([]++v.reverse):=(XW h2 b).app (A8 _)
 rw [bx,<- b9] at a1
 exact a1.symm.trans (a2.trans a3)
def Vi (a:s < n):Eqv A n ((w++[s])++[s]) w:=by
 have:=(A8 (A:=A) (n:=n) w).app (IQ h2 a)
 rw [bx] at this
 simpa using this
end
def Y2 (P:α->Prop) (f:α->Nat) (h:∃ x,P x):∃ x,P x/\∀ y,P y->f x<=f y:=by
 obtain ⟨x,b⟩:=h
 have gen:∀ k x,P x->f x=k->∃ x,P x/\∀ y,P y->f x<=f y:=by
  intro k
  induction k using ID with
  | ind k e =>
   intro x b g
   by_cases c:∃ y,P y/\f y < f x
   .obtain ⟨y,a,d⟩:=c
    exact e (f y) (by omega) y a rfl
   .exact ⟨x,b,λy a=>IV.mp λd=>c ⟨y,a,d⟩⟩
 exact gen _ x b rfl
section
variable (A:Nat->Nat->Gd) (n:Nat)
def Red (w:List Nat):Prop:=aj n w/\∀ u,aj n u->Eqv A n u w->w.length<=u.length
def vz (w:List Nat) (s:Nat):Prop:=∀ u,aj n u->Eqv A n u (w++[s])->w.length<=u.length
def uZ (b:aj n w):∃ u,Red A n u/\Eqv A n u w:=by
 obtain ⟨u,⟨h1,a⟩,d⟩:=Y2 (λu=>aj n u/\Eqv A n u w) IZ ⟨w,b,A8 w⟩
 exact ⟨u,⟨h1,λv c e=>d v ⟨c,e.trans a⟩⟩,a⟩
end
def sel (s t:Nat):Bool->Nat:=λb=>if b=true then s else t
def bV (a b:Gd):List Bool->Tn
 | []=>mR
 | c :: l=>if c=true then tnI b (bV a b l) else tnJ a (bV a b l)
def alt:Nat->List Bool
 | 0=>[]
 | k+1=>decide (k % 2=1) :: alt k
theorem wC:∀ k,(alt k).length=k
 | 0=>rfl
 | k+1=>by rw [alt,ao,wC k]
theorem Yj  : ∀ {k:Nat},m<=k->∃ pre,alt k=pre++alt m
  | 0, h => ⟨[], by have:m=0:=(by omega); subst this; rfl⟩
  | k+1,h=>by
    by_cases c:m=k+1
    · exact ⟨[],by rw [c]; rfl⟩
    · obtain ⟨pre,e⟩:=Yj (m:=m) (k:=k) (by omega)
      exact ⟨decide (k % 2=1) :: pre,by rw [alt,e]; rfl⟩
theorem Jd:∀ k,∃ x,alt (k+1)=x++[false]/\x.length=k
 | 0=>⟨[],rfl,rfl⟩
 | k+1=>by
  obtain ⟨x,e,h⟩:=Jd k
  exact ⟨decide ((k+1) % 2=1) :: x,by rw [alt,e]; rfl,by simp [h]⟩
theorem Jc:∀ a,(∀ x b y,a≠x++b :: b :: y)->(∀ x,a≠x++[true])->a=alt a.length
 | [],_,_=>rfl
 | b :: a,h1,h2=>by
  have d:=Jc a (λx c y e=>h1 (b :: x) c y (by rw [e]; rfl)) (λx e=>h2 (b :: x) (by rw [e]; rfl))
  cases a with
  | nil =>
   cases b with
   | true=>exact absurd rfl (h2 [])
   | false=>rfl
  | cons c a =>
   rw [ao] at d ⊢
   have e1:c=decide (a.length % 2=1):=by
    rw [alt] at d
    exact (List.cons.inj d).1
   have e2:b≠c:=λe=>h1 [] b a (by rw [e]; rfl)
   rw [ao,alt,<- d]
   congr 1
   by_cases g:a.length % 2=1
   .have f:¬ ((a.length+1) % 2=1):=by omega
    simp only [g,f,decide_true,decide_false] at e1 ⊢
    cases b <;> simp_all
   .have f:(a.length+1) % 2=1:=by omega
    simp only [g,f,decide_true,decide_false] at e1 ⊢
    cases b <;> simp_all
section
variable {A:Nat->Nat->Gd} {s t n:Nat} (bp:s≠t) (fY:A s s=(2,0)) (l7:A t t=(2,0))
include bp fY l7
def W1 (e:s < r.length) (ht:t < r.length):∀ l,∃ R,zO A (l.map (sel s t)) r=R/\R=kM s (ev (bV (A s t) (A t s) l).p (xg (A s) 0 r (0,0)) (xg (A t) 0 r (0,0))) (kM t (ev (bV (A s t) (A t s) l).q (xg (A s) 0 r (0,0)) (xg (A t) 0 r (0,0))) r) ∧
      xg (A s) 0 R (0,0)=ev (bV (A s t) (A t s) l).x (xg (A s) 0 r (0,0)) (xg (A t) 0 r (0,0))/\xg (A t) 0 R (0,0)=ev (bV (A s t) (A t s) l).y (xg (A s) 0 r (0,0)) (xg (A t) 0 r (0,0)):=by
  generalize h:xg (A s) 0 r (0,0)=x
  generalize g:xg (A t) 0 r (0,0)=y
  intro l
  induction l with
  | nil =>
    refine ⟨r,rfl,?_,?_,?_⟩
    · simp only [bV,mR,Hs]
      rw [jL ht,jL e]
    · rw [h]; simp [bV,mR,ev,yz,yd]
    · rw [g]; simp [bV,mR,ev,yz,yd]
  | cons c l f =>
    obtain ⟨R,h1,h2,b,a⟩:=f
    have i:R.length=r.length:=by rw [h2,xt,xt]
    cases c with
    | false =>
      have d:bV (A s t) (A t s) (false :: l)=tnJ (A s t) (bV (A s t) (A t s) l):=rfl
      rw [d]
      generalize bV (A s t) (A t s) l=z at h2 b a
      have e1:w4 (A t) t R=kM t (ev (VJ z.y) x y) R:=by rw [ji,a,uA]
      refine ⟨w4 (A t) t R,?_,?_,?_,?_⟩
      · rw [au,y8,h1]; rfl
      · rw [e1,h2,<- Vy bp,jM _ _ ht,<- kC]; rfl
      · rw [e1,vI (A s) _ (by omega),b,<- DF,<- kC]; rfl
      · rw [e1,vI (A t) _ (by omega),a,l7,uA,Xe,<- uA]; rfl
    | true =>
      have d:bV (A s t) (A t s) (true :: l)=tnI (A t s) (bV (A s t) (A t s) l):=rfl
      rw [d]
      generalize bV (A s t) (A t s) l=z at h2 b a
      have e2:w4 (A s) s R=kM s (ev (VJ z.x) x y) R:=by rw [ji,b,uA]
      refine ⟨w4 (A s) s R,?_,?_,?_,?_⟩
      · rw [au,y8,h1]; rfl
      · rw [e2,h2,jM _ _ (by rw [xt]; exact e),<- kC]; rfl
      · rw [e2,vI (A s) _ (by omega),b,fY,uA,Xe,<- uA]; rfl
      · rw [e2,vI (A t) _ (by omega),a,<- DF,<- kC]; rfl
def jD (f:s < n) (ht:t < n) (e:(bV (A s t) (A t s) l).p=(bV (A s t) (A t s) a).p) (d:(bV (A s t) (A t s) l).q=(bV (A s t) (A t s) a).q):Eqv A n (l.map (sel s t)) (a.map (sel s t)):=λr g=>by
 obtain ⟨R,h1,h2,_⟩:=W1 bp fY l7 (r:=r) (by omega) (by omega) l
 obtain ⟨R',b,c,_⟩:=W1 bp fY l7 (r:=r) (by omega) (by omega) a
 rw [h1,b,h2,c,e,d]
end
def Yh (b) {m:Nat} (h:2<=m/\m<=6):(bV (zN (m:Int) b) (zN (m:Int) (!b)) (alt m)).p=(bV (zN (m:Int) b) (zN (m:Int) (!b)) ((alt m).map (!·))).p/\(bV (zN (m:Int) b) (zN (m:Int) (!b)) (alt m)).q=(bV (zN (m:Int) b) (zN (m:Int) (!b)) ((alt m).map (!·))).q:=by
 rcases (by omega:m=2\/m=3\/m=4\/m=5\/m=6) with e | e | e | e | e <;> subst e <;> cases b <;> decide +kernel
def yP (h:k < n):(zL n i).getD k (0,0)=if k=i then (1,0) else (0,0):=by
 unfold zL
 simp [aW,h]
def Ke (n s t:Nat) (p q:Gd):List Gd:=YR (bG p (zL n s)) (bG q (zL n t))
def yC (n s t) (p q:Gd):(Ke n s t p q).length=n:=by
 unfold Ke
 rw [yV (by rw [zo,zo,zc,zc]),zo,zc]
def kZ (c):yd c (1,0)=c:=by simp [yd]
def jo (c):yd c (0,0)=(0,0):=by simp [yd]
def w8 (p q) (a:k < n):(Ke n s t p q).getD k (0,0)=yz (if k=s then p else (0,0)) (if k=t then q else (0,0)):=by
 unfold Ke
 rw [xu (by rw [zo,zo,zc,zc]),yi,yi,yP a,yP a]
 by_cases h1:k=s <;> by_cases h2:k=t <;> simp only [h1,h2,if_true,if_false,kZ,jo] <;> split <;> simp [kZ,jo]
def Q2 (A) (p q) (a:s < n) (ht:t < n):xg A 0 (Ke n s t p q) (0,0)=yz (yd p (A s)) (yd q (A t)):=by
 unfold Ke
 rw [Xl A _ _ 0 (by rw [zo,zo,zc,zc]),Xk,Xk,kN A n s a,kN A n t ht]
def TF {A:Nat->Nat->Gd} (bp:s≠t) (fY:A s s=(2,0)) (p q) (a:s < n) (ht:t < n):w4 (A s) s (Ke n s t p q)=Ke n s t (yt (yz p (yd (A s t) q))) q:=by
 apply xk (by rw [zY,yC,yC])
 intro k b
 rw [zY,yC] at b
 rw [wc (A s) (by rw [yC]; exact a),Q2 (A s) p q a ht,w8 p q b,w8 _ q b,w8 p q a,fY]
 by_cases c:k=s
 .subst c
  simp only [if_true,bp,if_false,wg,yz,yt,yd,Er]
  constructor <;> grind
 .simp only [c,if_false]
def TC {A:Nat->Nat->Gd} (bp:s≠t) (l7:A t t=(2,0)) (p q) (b:s < n) (ht:t < n):w4 (A t) t (Ke n s t p q)=Ke n s t p (yt (yz q (yd (A t s) p))):=by
 apply xk (by rw [zY,yC,yC])
 intro k a
 rw [zY,yC] at a
 rw [wc (A t) (by rw [yC]; exact ht),Q2 (A t) p q b ht,w8 p q a,w8 p _ a,w8 p q ht,l7]
 by_cases c:k=t
 .subst c
  simp only [if_true,EF bp,if_false,xS,yz,yt,yd,Er]
  constructor <;> grind
 .simp only [c,if_false]
def cQ (a b:Gd):Nat->Gd×Gd
 | 0=>((1,0),(0,0))
 | k+1=>if k % 2=1 then (yt (yz (cQ a b k).1 (yd a (cQ a b k).2)),(cQ a b k).2) else ((cQ a b k).1,yt (yz (cQ a b k).2 (yd b (cQ a b k).1)))
theorem Um (bp:s≠t) (fY:A s s=(2,0)) (l7:A t t=(2,0)) (a:s < n) (ht:t < n):∀ k,zO A ((alt k).map (sel s t)) (zL n s)=Ke n s t (cQ (A s t) (A t s) k).1 (cQ (A s t) (A t s) k).2
 | 0=>by
  apply xk (by rw [zu,yC,zc])
  intro k b
  rw [zu,zc] at b
  rw [w8 _ _ b]
  show (zL n s).getD k (0,0)=_
  rw [yP b]
  by_cases c:k=s <;> simp [cQ,c,yz]
 | k+1=>by
  have d:=Um bp fY l7 a ht k
  rw [alt,au,y8,d,cQ]
  by_cases c:k % 2=1
  .have e:sel s t (decide (k % 2=1))=s:=by simp [sel,c]
   rw [e,if_pos c,TF bp fY _ _ a ht]
  .have e:sel s t (decide (k % 2=1))=t:=by simp [sel,c]
   rw [e,if_neg c,TC bp l7 _ _ a ht]
def PQ (x:Gd×Gd):Prop:=nn x.1/\nn x.2/\(x.2=(0,0)->x.1=(1,0))/\(x.1=(0,0)->x.2=(1,0))
def FK (b) (h:2<=m/\m<=6) {k:Nat} (a:k < m):PQ (cQ (zN (m:Int) b) (zN (m:Int) (!b)) k):=by
 have key:∀ m:Fin 7,2<=m.1->∀ b:Bool,∀ k:Fin 7,k.1 < m.1->nnb (cQ (zN (m.1:Int) b) (zN (m.1:Int) (!b)) k.1).1=true/\nnb (cQ (zN (m.1:Int) b) (zN (m.1:Int) (!b)) k.1).2=true ∧
   ((cQ (zN (m.1:Int) b) (zN (m.1:Int) (!b)) k.1).2=(0,0)->(cQ (zN (m.1:Int) b) (zN (m.1:Int) (!b)) k.1).1=(1,0))/\((cQ (zN (m.1:Int) b) (zN (m.1:Int) (!b)) k.1).1=(0,0)->(cQ (zN (m.1:Int) b) (zN (m.1:Int) (!b)) k.1).2=(1,0)):=by decide +kernel
 have:=key ⟨m,by omega⟩ h.1 b ⟨k,by omega⟩ a
 exact ⟨Gr this.1,Gr this.2.1,this.2.2.1,this.2.2.2⟩
theorem kS:∀ k,cQ (-2,0) (-2,0) k=if k % 2=1 then (((k:Int),0),((k:Int)+1,0)) else (((k:Int)+1,0),((k:Int),0))
 | 0=>rfl
 | k+1=>by
  rw [cQ,kS k]
  by_cases c:k % 2=1
  .have a:¬ ((k+1) % 2=1):=by omega
   rw [if_pos c,if_pos c,if_neg a]
   refine IA (IA ?_ ?_) (IA ?_ ?_) <;> simp only [yt,yz,yd] <;> grind
  .have a:(k+1) % 2=1:=by omega
   rw [if_neg c,if_neg c,if_pos a]
   refine IA (IA ?_ ?_) (IA ?_ ?_) <;> simp only [yt,yz,yd] <;> grind
def ZI (k):PQ (cQ (-2,0) (-2,0) k):=by
 rw [kS]
 split
 .refine ⟨ZM _ (by omega),ZM _ (by omega),λe=>?_,λe=>?_⟩
  .have:=congrArg Lg e; simp only at this; omega
  .have:=congrArg Lg e; simp only at this; omega
 .refine ⟨ZM _ (by omega),ZM _ (by omega),λe=>?_,λe=>?_⟩
  .have:=congrArg Lg e
   simp only at this ⊢
   rw [this]; rfl
  .have:=congrArg Lg e; simp only at this; omega
def BW (b) (h:2<=m/\m<=6) {k:Nat} (a:k < m) :
  ((cQ (zN (m:Int) b) (zN (m:Int) (!b)) k).2=(0,0)->(bV (zN (m:Int) b) (zN (m:Int) (!b)) (alt k++[true])).p=(bV (zN (m:Int) b) (zN (m:Int) (!b)) (true :: alt k)).p/\(bV (zN (m:Int) b) (zN (m:Int) (!b)) (alt k++[true])).q=(bV (zN (m:Int) b) (zN (m:Int) (!b)) (true :: alt k)).q) ∧
  ((cQ (zN (m:Int) b) (zN (m:Int) (!b)) k).1=(0,0)->(bV (zN (m:Int) b) (zN (m:Int) (!b)) (alt k++[true])).p=(bV (zN (m:Int) b) (zN (m:Int) (!b)) (false :: alt k)).p/\(bV (zN (m:Int) b) (zN (m:Int) (!b)) (alt k++[true])).q=(bV (zN (m:Int) b) (zN (m:Int) (!b)) (false :: alt k)).q):=by
 have key:∀ m:Fin 7,2<=m.1->∀ b:Bool,∀ k:Fin 7,k.1 < m.1 →
  ((cQ (zN (m.1:Int) b) (zN (m.1:Int) (!b)) k.1).2=(0,0)->(bV (zN (m.1:Int) b) (zN (m.1:Int) (!b)) (alt k.1++[true])).p=(bV (zN (m.1:Int) b) (zN (m.1:Int) (!b)) (true :: alt k.1)).p/\(bV (zN (m.1:Int) b) (zN (m.1:Int) (!b)) (alt k.1++[true])).q=(bV (zN (m.1:Int) b) (zN (m.1:Int) (!b)) (true :: alt k.1)).q) ∧
  ((cQ (zN (m.1:Int) b) (zN (m.1:Int) (!b)) k.1).1=(0,0)->(bV (zN (m.1:Int) b) (zN (m.1:Int) (!b)) (alt k.1++[true])).p=(bV (zN (m.1:Int) b) (zN (m.1:Int) (!b)) (false :: alt k.1)).p/\(bV (zN (m.1:Int) b) (zN (m.1:Int) (!b)) (alt k.1++[true])).q=(bV (zN (m.1:Int) b) (zN (m.1:Int) (!b)) (false :: alt k.1)).q):=by decide +kernel
 exact key ⟨m,by omega⟩ h.1 b ⟨k,by omega⟩ a
def XC (ts) (a:i≠j):zb ts i j=zN (zh ts i j) (decide (i < j))/\zb ts j i=zN (zh ts i j) (!decide (i < j)):=by
 unfold zb uI
 have h1:¬ ((i:Int)=(j:Int)):=by omega
 have h2:¬ ((j:Int)=(i:Int)):=by omega
 rw [if_neg h1,if_neg h2,yk ts j i]
 refine ⟨by congr 1; simp,?_⟩
 congr 1
 by_cases c:i < j
 .have:¬ ((j:Int) < (i:Int)):=by omega
  simp [c,this]
 .have:(j:Int) < (i:Int):=by omega
  simp [c,this]
def cE (r:List Gd):Prop:=∀ k,nn (r.getD k (0,0))
def Wu (hg:zT ts) (w) (s:Nat) (hs:s < n) (hw:Red (zb ts) n w) (hd:vz (zb ts) n w s) (eI:w≠[]):∃ (v:List Nat) (t:Nat) (x:Gd×Gd),v.length < w.length/\t < n/\t≠s/\Red (zb ts) n v/\vz (zb ts) n v s/\vz (zb ts) n v t/\PQ x ∧
    zO (zb ts) w (zL n s)=YR (bG x.1 (zO (zb ts) v (zL n s))) (bG x.2 (zO (zb ts) v (zL n t))) ∧
    ∃ b,aj n b/\Eqv (zb ts) n (v++b) w/\(x.2=(0,0)->Eqv (zb ts) n (b++[s]) (s :: b))/\(x.1=(0,0)->Eqv (zb ts) n (b++[s]) (t :: b)):=by
  have h2:=zJ ts
  obtain ⟨w',t,rfl⟩:∃ w' t,w=w'++[t]:=⟨w.dropLast,w.getLast eI,(g3v eI).symm⟩
  have ht:t < n:=hw.1 t (by simp)
  have m_:aj n w':=hw.1.left
  have bp:s≠t:=by
    intro e
    subst e
    have:=hd w' m_ (Vi h2 hs).symm
    simp at this
    omega
  have og:∀ b,sel s t b < n:=λb=>by cases b <;> simp [sel] <;> assumption
  have dJ:∀ l:List Bool,aj n (l.map (sel s t)):=λl i hi=>by
    obtain ⟨b,_,rfl⟩:=aR.mp hi
    exact og b
  obtain ⟨⟨v,a⟩,⟨hv,he,hl⟩,oq⟩:=Y2 (λp:List Nat×List Bool=>aj n p.1/\Eqv (zb ts) n (p.1++p.2.map (sel s t)) (w'++[t])/\p.1.length+p.2.length=(w'++[t]).length) (λp=>p.1.length) ⟨(w',[false]),m_,A8 _,by simp⟩
  simp only at hv he hl oq
  have hv1:v.length<=w'.length:=oq (w',[false]) ⟨m_,A8 _,by simp⟩
  have l6:(w'++[t]).length=w'.length+1:=by simp
  have vred:Red (zb ts) n v:=⟨hv,λu hu e=>by
    have:=hw.2 (u++a.map (sel s t)) (hu.app (dJ a)) ((e.app (A8 _)).trans he)
    simp only [aH,az,ao,aE] at this hl
    omega⟩
  have vnd:∀ b,vz (zb ts) n v (sel s t b):=λb u hu e=>by
    apply IV.mp
    intro gY
    have e2:Eqv (zb ts) n (u++(b :: a).map (sel s t)) (w'++[t]):=by
      have e3:Eqv (zb ts) n ((u++[sel s t b])++a.map (sel s t)) (((v++[sel s t b])++[sel s t b])++a.map (sel s t)):=(e.app (A8 _)).app (A8 _)
      have e4:Eqv (zb ts) n (((v++[sel s t b])++[sel s t b])++a.map (sel s t)) (v++a.map (sel s t)):=(Vi h2 (og b)).app (A8 _)
      have e5:=e3.trans (e4.trans he)
      have:(u++[sel s t b])++a.map (sel s t)=u++(b :: a).map (sel s t):=by simp
      rwa [this] at e5
    have l1:=hw.2 (u++(b :: a).map (sel s t)) (hu.app (dJ _)) e2
    simp only [aH,az,ao,aE] at l1 hl
    have:=oq (u,b :: a) ⟨hu,e2,by simp only [aH,ao,aE]; omega⟩
    simp only at this
    omega
  have gz:∀ u:List Nat,aj n u->Eqv (zb ts) n (u++[s]) (w'++[t])->(w'++[t]).length<=u.length:=λu hu e=>by
    apply hd u hu
    exact (Vi h2 hs).symm.trans (e.app (A8 _))
  have a1:∀ x b y,a≠x++b :: b :: y:=λx b y e=>by
    subst e
    have e1:Eqv (zb ts) n (v++(x++y).map (sel s t)) (v++(x++b :: b :: y).map (sel s t)):=by
      refine (A8 v).app ?_
      rw [bN,bN]
      refine (A8 _).app ?_
      have:=(IQ (n:=n) h2 (og b)).symm.app (A8 (A:=zb ts) (y.map (sel s t)))
      simpa using this
    have:=hw.2 (v++(x++y).map (sel s t)) (hv.app (dJ _)) (e1.trans he)
    simp only [aH,az,ao] at this hl
    omega
  have a2:∀ x,a≠x++[true]:=λx e=>by
    subst e
    have:=gz (v++x.map (sel s t)) (hv.app (dJ _)) (by simpa [sel] using he)
    simp only [aH,az,ao,aE] at this hl
    omega
  have ha:=Jc a a1 a2
  obtain ⟨p1,p2⟩:=XC ts bp
  have gt:=w9 hg (s:Int) (t:Int)
  have rp:PQ (cQ (zb ts s t) (zb ts t s) a.length)/\((cQ (zb ts s t) (zb ts t s) a.length).2=(0,0)->Eqv (zb ts) n (a.map (sel s t)++[s]) (s :: a.map (sel s t)))/\((cQ (zb ts s t) (zb ts t s) a.length).1=(0,0)->Eqv (zb ts) n (a.map (sel s t)++[s]) (t :: a.map (sel s t))):=by
    rcases gt with g0 | gt
    · rw [g0] at p1 p2
      have q1:zN 0 (decide (s < t))=(-2,0):=by cases decide (s < t) <;> rfl
      have q2:zN 0 (!decide (s < t))=(-2,0):=by cases decide (s < t) <;> rfl
      rw [p1,p2,q1,q2]
      refine ⟨ZI _,λe=>?_,λe=>?_⟩
      · rw [kS] at e
        have hk0:a.length=0:=by
          split at e
          · have:=congrArg Lg e; simp only at this; omega
          · have:=congrArg Lg e; simp only at this; omega
        have:a=[]:=oP.mp hk0
        rw [this]
        exact A8 _
      · rw [kS] at e
        exfalso
        split at e
        · have:=congrArg Lg e; simp only at this; omega
        · have:=congrArg Lg e; simp only at this; omega
    · obtain ⟨m,em⟩:∃ m:Nat,zh ts s t=(m:Int):=⟨(zh ts s t).toNat,by omega⟩
      rw [em] at p1 p2 gt
      have hm:2<=m/\m<=6:=by omega
      have hkm:a.length < m:=by
       apply Nat.not_le.mp
       intro hle
       obtain ⟨pre,AX⟩:=Yj hle
       obtain ⟨b1,b2⟩:=Yh (decide (s < t)) hm
       rw [<- p1,<- p2] at b1 b2
       have br:=jD (n:=n) bp (h2 s) (h2 t) hs ht b1 b2
       obtain ⟨y,ey,hy⟩:=Jd (m - 1)
       have em1:m - 1+1=m:=by omega
       rw [em1] at ey
       have ey2:(alt m).map (!·)=y.map (!·)++[true]:=by rw [ey]; simp
       rw [ey2,bN] at br
       have e1:Eqv (zb ts) n (v++(pre.map (sel s t)++((y.map (!·)).map (sel s t)++[s]))) (w'++[t]):=by
         have e2:a.map (sel s t)=pre.map (sel s t)++(alt m).map (sel s t):=by rw [ha,AX,bN]
         rw [e2] at he
         refine Eqv.trans ?_ he
         refine (A8 v).app ((A8 _).app ?_)
         exact br.symm
       have:=gz (v++(pre.map (sel s t)++(y.map (!·)).map (sel s t))) (hv.app ((dJ _).app (dJ _))) (by simpa using e1)
       have el:a.length=pre.length+m:=by
         have:=congrArg IZ AX
         rw [aH,wC,wC] at this
         exact this
       simp only [aH,az,ao,aE] at this hl
       omega
      obtain ⟨w1,w2⟩:=BW (decide (s < t)) hm hkm
      rw [p1,p2]
      refine ⟨FK _ hm hkm,λe=>?_,λe=>?_⟩
      · obtain ⟨f1,f2⟩:=w1 e
        rw [<- p1,<- p2,<- ha] at f1 f2
        have:=jD (n:=n) bp (h2 s) (h2 t) hs ht f1 f2
        simpa [sel] using this
      · obtain ⟨f1,f2⟩:=w2 e
        rw [<- p1,<- p2,<- ha] at f1 f2
        have:=jD (n:=n) bp (h2 s) (h2 t) hs ht f1 f2
        simpa [sel] using this
  have le:=Um bp (h2 s) (h2 t) hs ht a.length
  rw [<- ha] at le
  have e:=he (zL n s) (zc n s)
  rw [yA,le] at e
  have hlen:(bG (cQ (zb ts s t) (zb ts t s) a.length).1 (zL n s)).length=(bG (cQ (zb ts s t) (zb ts t s) a.length).2 (zL n t)).length:=by rw [zo,zo,zc,zc]
  unfold Ke at e
  rw [qd _ _ hlen (by rw [zo,zc]; exact hv),wW _ _ _ (by rw [zc]; exact hv),wW _ _ _ (by rw [zc]; exact hv)] at e
  refine ⟨v,t,_,by omega,ht,EF bp,vred,by have:=vnd true; simpa [sel] using this,by have:=vnd false; simpa [sel] using this,rp.1,e.symm,a.map (sel s t),dJ a,he,rp.2.1,rp.2.2⟩
def jQ (hg:zT ts):∀ k w s,w.length=k->s < n->Red (zb ts) n w->vz (zb ts) n w s->cE (zO (zb ts) w (zL n s)):=by
 intro k
 induction k using ID with
 | ind k b =>
  intro w s m d h hd
  by_cases f:w=[]
  .subst f
   intro j
   show nn ((zL n s).getD j (0,0))
   by_cases i:j < n
   .rw [yP i]
    split
    .exact ZM 1 (by decide)
    .exact .inl rfl
   .left
    simp [aW,ir (show (zL n s).length<=j by rw [zc]; omega)]
  .obtain ⟨v,t,x,l,ht,_,a,vs,g,c,e,_⟩:=Wu hg w s d h hd f
   have ps:=b v.length (by omega) v s rfl d a vs
   have pt:=b v.length (by omega) v t rfl ht a g
   intro j
   rw [e,xu (by rw [zo,zo,zu,zu,zc,zc]),yi,yi]
   exact Qo (YU c.1 (ps j)) (YU c.2.1 (pt j))
def b7 (r:List Gd):Prop:=∀ k,nn (yt (r.getD k (0,0)))
def JU (s:Int) (r:List Gd):Bool:=r.any λx=>decide (Wx x=s)
def QK (h:JU s r=true):∃ k,k < r.length/\Wx (r.getD k (0,0))=s:=by
 unfold JU at h
 rw [nD] at h
 obtain ⟨x,b,e⟩:=h
 obtain ⟨k,a,c⟩:=List.getElem_of_mem b
 refine ⟨k,a,?_⟩
 simp only [aW,dq a,mF,c]
 simpa using e
def Uu (a:k < r.length) (h:Wx (r.getD k (0,0))=s):JU s r=true:=by
 unfold JU
 rw [nD]
 refine ⟨r[k],nC a,?_⟩
 simp only [aW,dq a,mF] at h
 simpa using h
def cE.no (h:cE r):JU (-1) r=false:=by
 apply Bool.eq_false_iff.mpr
 intro e
 obtain ⟨k,_,a⟩:=QK e
 exact Fs (h k) a
def b7.no (h:b7 r):JU 1 r=false:=by
 apply Bool.eq_false_iff.mpr
 intro e
 obtain ⟨k,_,a⟩:=QK e
 exact Ro (h k) a
def Nz (r:List Gd):Prop:=∃ k,k < r.length/\r.getD k (0,0)≠(0,0)
def cE.yes (h:cE r) (hz:Nz r):JU 1 r=true:=by
 obtain ⟨k,a,e⟩:=hz
 refine Uu a ?_
 rcases h k with c | c
 .exact absurd c e
 .exact M02.sgn_pos c
def b7.yes (h:b7 r) (hz:Nz r):JU (-1) r=true:=by
 obtain ⟨k,hk,e⟩:=hz
 refine Uu hk ?_
 rcases h k with c | c
 .exact absurd (by have:=congrArg yt c; rwa [Vc] at this) e
 .have:=M02.sgn_pos c
  simp only [yt] at this
  rw [M02.sgn_opp] at this
  unfold Wx
  omega
def cE.notP (h:cE r) (hz:Nz r):¬ b7 r:=λh'=>by
 obtain ⟨k,_,e⟩:=hz
 exact e (ZN (h k) (h' k))
section
variable {ts:List T3} {n:Nat}
def kY (a:aj r.length w) (hz:∀ k,r.getD k (0,0)=(0,0)):∀ k,(zO (zb ts) w r).getD k (0,0)=(0,0):=by
 have e:r=bG (0,0) r:=xk (by rw [zo]) λk _=>by rw [yi,hz]; rfl
 intro k
 rw [e,wW _ _ _ a,yi]
 simp [yd]
def vm (a:aj n w) (c:s < n):Nz (zO (zb ts) w (zL n s)):=by
 apply Eh
 intro d
 have hz:∀ k,(zO (zb ts) w (zL n s)).getD k (0,0)=(0,0):=λk=>by
  by_cases b:k < (zO (zb ts) w (zL n s)).length
  .exact Eh λe=>d ⟨k,b,e⟩
  .simp [aW,ir (IV.mp b)]
 have h1:=kY (ts:=ts) (w:=w.reverse) (by rw [zu,zc]; exact a.rev) hz s
 rw [vn (zJ ts) w (zL n s) (λi hi=>by rw [zc]; exact a i hi),yP c,if_pos rfl] at h1
 cases h1
def Ul (d:aj n w) (a:s < n) (k):(zO (zb ts) (w++[s]) (zL n s)).getD k (0,0)=yt ((zO (zb ts) w (zL n s)).getD k (0,0)):=by
 have e:w4 (zb ts s) s (zL n s)=bG (-1,0) (zL n s):=by
  apply xk (by rw [zY,zo])
  intro j b
  rw [zY,zc] at b
  rw [wc _ (by rw [zc]; exact a),yi,kN _ n s a,zJ,yP a,yP b]
  by_cases c:j=s
  .simp [c,yz,yt,yd]
  .simp [c,yd]
 rw [yA,y8]
 show (zO (zb ts) w (w4 (zb ts s) s (zL n s))).getD k (0,0)=_
 rw [e,wW _ _ _ (by rw [zc]; exact d),yi]
 simp [yd,yt]
def bO (ts:List T3) (n:Nat) (w:List Nat) (l:Nat):Prop:=∃ u,Red (zb ts) n u/\Eqv (zb ts) n u w/\u.length=l
def bO.ex (a:aj n w):∃ l,bO ts n w l:=by
 obtain ⟨u,h1,h2⟩:=uZ (zb ts) n a
 exact ⟨_,u,h1,h2,rfl⟩
def bO.le (h:bO ts n w l) (a:aj n u) (e:Eqv (zb ts) n u w):l<=u.length:=by
 obtain ⟨v,h1,h2,rfl⟩:=h
 exact h1.2 u a (e.trans h2.symm)
def bO.cong (h:bO ts n w l) (e:Eqv (zb ts) n w a):bO ts n a l:=by
 obtain ⟨v,h1,h2,b⟩:=h
 exact ⟨v,h1,h2.trans e,b⟩
def bO.uniq (h:bO ts n w l) (h':bO ts n w f):l=f:=by
 obtain ⟨v,h1,h2,rfl⟩:=h
 obtain ⟨e,c,d,rfl⟩:=h'
 have a:=h1.2 e c.1 (d.trans h2.symm)
 have b:=c.2 v h1.1 (h2.trans d.symm)
 omega
def bO.nil:bO ts n [] 0:=⟨[],⟨(λi hi=>by cases hi),λu _ _=>dm _⟩,A8 _,rfl⟩
def bO.zero (h:bO ts n w 0):Eqv (zb ts) n w []:=by
 obtain ⟨v,h1,h2,a⟩:=h
 have:v=[]:=oP.mp a
 subst this
 exact h2.symm
def bO.rev (i:aj n w) (h:bO ts n w l):bO ts n w.reverse l:=by
 obtain ⟨g,h'⟩:=bO.ex (ts:=ts) i.rev
 obtain ⟨u,f,j,o⟩:=h
 obtain ⟨k,c,d,m⟩:=h'
 have a:g<=l:=by
  have:=c.2 u.reverse f.1.rev ((Eqv.rev (zJ ts) f.1 i j).trans d.symm)
  rw [lA] at this
  omega
 have b:l<=g:=by
  have e:=Eqv.rev (zJ ts) c.1 i.rev d
  rw [mG] at e
  have:=f.2 k.reverse c.1.rev (e.trans j.symm)
  rw [lA] at this
  omega
 have:g=l:=by omega
 subst this
 exact ⟨k,c,d,m⟩
variable (hg:zT ts)
include hg
def yR (v:aj n w) (a:s < n) (q:bO ts n w l) :
  (cE (zO (zb ts) w (zL n s))/\bO ts n (w++[s]) (l+1))\/(b7 (zO (zb ts) w (zL n s))/\1<=l/\bO ts n (w++[s]) (l - 1)):=by
 have h2:=zJ ts
 obtain ⟨u,d,m,rfl⟩:=q
 have r:=m (zL n s) (zc n s)
 obtain ⟨x,f,g⟩:=uZ (zb ts) n (d.1.app (aj.one a))
 have p:=f.2 (u++[s]) (d.1.app (aj.one a)) g.symm
 have xs:Eqv (zb ts) n (x++[s]) u:=(g.app (A8 _)).trans (Vi h2 a)
 have j:=d.2 (x++[s]) (f.1.app (aj.one a)) xs
 rw [aH,bX] at p j
 have ex:=g (zL n s) (zc n s)
 have neg:∀ k,(zO (zb ts) x (zL n s)).getD k (0,0)=yt ((zO (zb ts) u (zL n s)).getD k (0,0)):=λk=>by rw [ex,Ul d.1 a]
 have o:Eqv (zb ts) n x (w++[s]):=g.trans (m.app (A8 _))
 have b:x.length<=u.length->b7 (zO (zb ts) u (zL n s)):=λh=>by
  have nd:vz (zb ts) n x s:=λy i e=>by
   have:=d.2 y i (e.trans xs)
   omega
  have:=jQ hg x.length x s rfl a f nd
  intro k
  rw [<- neg k]
  exact this k
 have up:u.length<=x.length->cE (zO (zb ts) u (zL n s)):=λh=>by
  have nd:vz (zb ts) n u s:=λy i e=>by
   have:=f.2 y i (e.trans g.symm)
   omega
  exact jQ hg u.length u s rfl a d nd
 rw [<- r]
 rcases Ls x.length u.length with c | c | c
 .right
  refine ⟨b (by omega),by omega,x,f,o,by omega⟩
 .exact absurd (b (by omega)) ((up (by omega)).notP (vm d.1 a))
 .left
  exact ⟨up (by omega),x,f,o,by omega⟩
def kQ (a:aj n w) (b:s < n):cE (zO (zb ts) w (zL n s))\/b7 (zO (zb ts) w (zL n s)):=by
 obtain ⟨l,c⟩:=bO.ex (ts:=ts) a
 rcases yR hg a b c with h | h
 .exact .inl h.1
 .exact .inr h.1
def Kw (d:aj n w) (f:bO ts n w l) (h:1<=l):∃ s,s < n/\b7 (zO (zb ts) w (zL n s)):=by
 obtain ⟨u,a,b,rfl⟩:=f
 have c:u≠[]:=λe=>by subst e; simp at h
 obtain ⟨v,t,rfl⟩:∃ v t,u=v++[t]:=⟨u.dropLast,u.getLast c,(g3v c).symm⟩
 have ht:t < n:=a.1 t (by simp)
 refine ⟨t,ht,?_⟩
 rcases yR hg d ht ⟨v++[t],a,b,rfl⟩ with ⟨_,h'⟩ | h'
 .have e:Eqv (zb ts) n v (w++[t]):=(Vi (zJ ts) ht).symm.trans (b.app (A8 _))
  have:=h'.le a.1.left e
  simp only [aH,bX] at this
  omega
 .exact h'.1
end
def J8 (r:List Gd):Bool:=JU 1 r && !JU (-1) r
def VA (r:List Gd):Bool:=JU (-1) r && !JU 1 r
def cE.abv (h:cE r) (hz:Nz r):J8 r=true/\VA r=false:=by simp [J8,VA,h.no,h.yes hz]
def b7.blw (h:b7 r) (hz:Nz r):J8 r=false/\VA r=true:=by simp [J8,VA,h.no,h.yes hz]
def uv (ts:List T3) (n:Nat):List Nat->List Nat->List Bool
 | _,[]=>[]
 | pre,s :: w=>J8 (zO (zb ts) pre (zL n s)) :: uv ts n (pre++[s]) w
def Kt:List Bool->Int
 | []=>0
 | b :: l=>(if b=true then 1 else -1)+Kt l
theorem qT (ts) (n:Nat):∀ w pre,(uv ts n pre w).length=w.length
 | [],_=>rfl
 | s :: w,pre=>by rw [uv,ao,qT ts n w,ao]
theorem Ks:∀ l,Kt l<=l.length/\(Kt l=l.length↔l.all id=true)/\(Kt l - l.length) % 2=0
 | []=>by simp [Kt]
 | b :: l=>by
  obtain ⟨h1,h2,a⟩:=Ks l
  cases b
  .simp only [Kt,cS,if_false,ao,List.all_cons,id,Bool.false_and,iff_false]
   refine ⟨by omega,by omega,by omega⟩
  .simp only [Kt,if_true,ao,List.all_cons,id,Bool.true_and]
   refine ⟨by omega,?_,by omega⟩
   rw [<- h2]
   omega
theorem VQ (hg:zT ts):∀ (w pre) {l d:Nat},aj n pre->aj n w->bO ts n pre l->bO ts n (pre++w) d->(d:Int)=l+Kt (uv ts n pre w)
 | [],pre,l,d,e,hw,h1,h2=>by
  rw [bx] at h2
  have:=h1.uniq h2
  simp [uv,Kt,this]
 | s :: w,pre,l,d,e,hw,h1,h2=>by
  have f:s < n:=hw s aN
  have g:aj n w:=λi hi=>hw i (aX _ hi)
  have h:bO ts n ((pre++[s])++w) d:=by simpa using h2
  have nz:=vm (ts:=ts) e f
  rw [uv,Kt]
  rcases yR hg e f h1 with ⟨a,b⟩ | ⟨a,b,c⟩
  .have j:=VQ hg w (pre++[s]) (e.app (aj.one f)) g b h
   rw [(a.abv nz).1,if_pos rfl]
   omega
  .have j:=VQ hg w (pre++[s]) (e.app (aj.one f)) g c h
   rw [(a.blw nz).1]
   simp only [cS,if_false]
   omega
def BX (hg:zT ts) (a:aj n w) (h:bO ts n w l):Kt (uv ts n [] w)=l:=by
 have:=VQ hg w [] (λi hi=>by cases hi) a bO.nil (by rw [a_]; exact h)
 omega
section
variable (ts:List T3) (n:Nat)
def jA (u:List Nat):Option Nat:=(aw n).find? λi=>VA (zO (zb ts) u (zL n i))
inductive Lst:List Nat->List Nat->Prop
 | nil {u:List Nat} (h:jA ts n u=none):Lst u []
 | cons {u v:List Nat} {i:Nat} (h:jA ts n u=some i) (t:Lst (u++[i]) v):Lst u (i :: v)
end
variable {ts:List T3} {n:Nat}
def Z7 (h:jA ts n u=some i):i < n/\VA (zO (zb ts) u (zL n i))=true/\∀ j,j < i->VA (zO (zb ts) u (zL n j))=false:=by
 unfold jA at h
 have h1:=List.mem_of_find?_eq_some h
 have h2:=List.find?_some h
 refine ⟨bT.mp h1,h2,λj a=>?_⟩
 rw [List.find?_range_eq_some] at h
 have:=h.2.2 j a
 simpa using this
def Ux (h:jA ts n u=none) (hi:i < n):VA (zO (zb ts) u (zL n i))=false:=by
 unfold jA at h
 rw [List.find?_eq_none] at h
 have:=h i (bT.mpr hi)
 simpa using this
def Hm (hi:i < n) (h:VA (zO (zb ts) u (zL n i))=true):∃ j,jA ts n u=some j:=by
 cases e:jA ts n u with
 | some j=>exact ⟨j,rfl⟩
 | none=>rw [Ux e hi] at h; cases h
theorem F8 (hg:zT ts):∀ (l) {u:List Nat},aj n u->bO ts n u l->∃ v,Lst ts n u v/\v.length=l/\aj n v/\Eqv (zb ts) n (u++v) []
 | 0,u,d,e=>by
  refine ⟨[],.nil ?_,rfl,(λi hi=>by cases hi),by rw [bx]; exact e.zero⟩
  unfold jA
  rw [List.find?_eq_none]
  intro i hi
  have h:=bT.mp hi
  rcases yR hg d h e with ⟨a,_⟩ | ⟨_,b,_⟩
  .rw [(a.abv (vm d h)).2]; decide
  .omega
 | l+1,u,d,e=>by
  obtain ⟨s,g,o⟩:=Kw hg d e (by omega)
  obtain ⟨i,hi⟩:=Hm g (o.blw (vm d g)).2
  obtain ⟨h1,h2,_⟩:=Z7 hi
  have p:bO ts n (u++[i]) l:=by
   rcases yR hg d h1 e with ⟨a,_⟩ | ⟨_,_,c⟩
   .rw [(a.abv (vm d h1)).2] at h2; cases h2
   .exact c
  obtain ⟨v,m,k,j,f⟩:=F8 hg l (d.app (aj.one h1)) p
  refine ⟨i :: v,.cons hi m,by rw [ao,k],j.cons h1,?_⟩
  rw [b9] at f
  exact f
def Qv (hg:zT ts) (a:aj n w):∃ (v:List Nat) (l:Nat),Lst ts n w.reverse v/\aj n v/\Eqv (zb ts) n v w/\bO ts n v l/\v.length=l/\l<=w.length:=by
 obtain ⟨l,b⟩:=bO.ex (ts:=ts) a
 obtain ⟨v,g,f,d,c⟩:=F8 hg l a.rev (b.rev a)
 have e:Eqv (zb ts) n v w:=by
  have a1:Eqv (zb ts) n (w++(w.reverse++v)) (w++[]):=(A8 _).app c
  have a2:Eqv (zb ts) n ((w++w.reverse)++v) ([]++v):=(Z8 (zJ ts) a).app (A8 _)
  rw [bx] at a1
  rw [b9,a_] at a2
  exact a2.symm.trans a1
 exact ⟨v,l,g,d,e,b.cong e.symm,f,b.le a (A8 _)⟩
end GH
namespace GH
def Hb (b:nn x) (a:nn y) (h:yd x y=(0,0)):x=(0,0)\/y=(0,0):=by
 rcases b with b | b
 .exact .inl b
 .rcases a with a | a
  .exact .inr a
  .have:=M02.pos_mul b a
   have e:M02.mulG x y=yd x y:=rfl
   rw [e,h] at this
   have:=M02.sgn_pos this
   cases this
def Ub (b:nn x) (a:nn y) (h:yz x y=(0,0)):x=(0,0)/\y=(0,0):=by
 have e:y=yt x:=by
  have e1:=congrArg Lg h
  have e2:=congrArg Prod.snd h
  simp only [yz] at e1 e2
  exact IA (by simp only [yt]; omega) (by simp only [yt]; omega)
 rw [e] at a
 have:=ZN b a
 rw [this] at e
 exact ⟨this,e⟩
def vb (c) (a:k < n):(bG c (zL n i)).getD k (0,0)=if k=i then c else (0,0):=by
 rw [yi,yP a]
 split
 .exact kZ c
 .exact jo c
def ZD (b:r.length=n) (h:∀ k,k < n->k≠i->r.getD k (0,0)=(0,0)):r=bG (r.getD i (0,0)) (zL n i):=by
 apply xk (by rw [zo,zc,b])
 intro k a
 rw [b] at a
 rw [vb _ a]
 by_cases c:k=i
 .rw [if_pos c,c]
 .rw [if_neg c,h k a c]
section
variable {ts:List T3} {n:Nat}
def GJ (a:aj n w) (c:r.length=n) (b:s.length=n) (h:zO (zb ts) w r=zO (zb ts) w s):r=s:=by
 have h1:=vn (zJ ts) w r (λi hi=>by rw [c]; exact a i hi)
 have h2:=vn (zJ ts) w s (λi hi=>by rw [b]; exact a i hi)
 rw [<- h1,h,h2]
def Wt (hg:zT ts) (w) (s i:Nat) (c:Gd) (p:s < n) (hi:i < n) (J:Red (zb ts) n w) (hd:vz (zb ts) n w s) (M:zO (zb ts) w (zL n s)=bG c (zL n i)) (O:w≠[]) :
  ∃ (v:List Nat) (t:Nat) (b:List Nat),v.length < w.length/\t < n/\Red (zb ts) n v/\vz (zb ts) n v t/\zO (zb ts) v (zL n t)=bG c (zL n i)/\aj n b/\Eqv (zb ts) n (v++b) w/\Eqv (zb ts) n (b++[s]) (t :: b):=by
 obtain ⟨v,t,x,C,ht,z,d,vs,B,h,e,G,I,H,S,R⟩:=Wu hg w s p J hd O
 have ps:=jQ hg v.length v s rfl p d vs
 have pt:=jQ hg v.length v t rfl ht d B
 have m:(bG x.1 (zO (zb ts) v (zL n s))).length=(bG x.2 (zO (zb ts) v (zL n t))).length:=by rw [zo,zo,zu,zu,zc,zc]
 have f:(zO (zb ts) v (zL n s)).length=n:=by rw [zu,zc]
 have g:(zO (zb ts) v (zL n t)).length=n:=by rw [zu,zc]
 rw [M] at e
 have l:∀ j,j < n->j≠i->yd x.1 ((zO (zb ts) v (zL n s)).getD j (0,0))=(0,0)/\yd x.2 ((zO (zb ts) v (zL n t)).getD j (0,0))=(0,0):=λj k o=>by
  have e1:=congrArg (λr=>r.getD j (0,0)) e
  rw [vb c k,if_neg o,xu m,yi,yi] at e1
  exact Ub (YU h.1 (ps j)) (YU h.2.1 (pt j)) e1.symm
 have one:∀ r:List Gd,bG (1,0) r=r:=λr=>by
  apply xk (zo _ _)
  intro j _
  rw [yi]
  simp [yd]
 by_cases u:x.1=(0,0)
 .have y:=h.2.2.2 u
  refine ⟨v,t,G,C,ht,d,B,?_,I,H,R u⟩
  rw [e,u,y]
  apply xk (by rw [g,yV (by rw [zo,zo,f,g]),zo,f])
  intro j _
  rw [xu (by rw [zo,zo,f,g]),one,yi]
  simp [yd,yz]
 .by_cases q:x.2=(0,0)
  .have y:=h.2.2.1 q
   refine ⟨v,s,G,C,p,d,vs,?_,I,H,S q⟩
   rw [e,q,y]
   apply xk (by rw [f,yV (by rw [zo,zo,f,g]),zo,f])
   intro j _
   rw [xu (by rw [zo,zo,f,g]),one,yi]
   simp [yd,yz]
  .exfalso
   have A:=ZD f (i:=i) λj k o=>(Hb h.1 (ps j) (l j k o).1).resolve_left u
   have E:=ZD g (i:=i) λj k o=>(Hb h.2.1 (pt j) (l j k o).2).resolve_left q
   generalize (zO (zb ts) v (zL n s)).getD i (0,0)=a at A
   generalize (zO (zb ts) v (zL n t)).getD i (0,0)=b at E
   have Q:zO (zb ts) v (bG b (zL n s))=zO (zb ts) v (bG a (zL n t)):=by
    rw [wW _ _ _ (by rw [zc]; exact d.1),wW _ _ _ (by rw [zc]; exact d.1),A,E]
    apply xk (by simp only [zo,zc])
    intro j _
    rw [yi,yi,yi,yi,<- Y0,<- Y0,Hc b a]
   have P:=GJ d.1 (by rw [zo,zc]) (by rw [zo,zc]) Q
   have F:=congrArg (λr=>r.getD t (0,0)) P
   simp only [vb b ht,vb a ht,if_true,if_neg z] at F
   obtain ⟨j,k,L⟩:=vm (ts:=ts) d.1 p
   apply L
   rw [A,<- F,yi]
   simp [yd]
def CK (hg:zT ts):∀ k w s i c,w.length=k->s < n->i < n->Red (zb ts) n w->vz (zb ts) n w s->zO (zb ts) w (zL n s)=bG c (zL n i)->c=(1,0)/\Eqv (zb ts) n (w++[s]) (i :: w):=by
 intro k
 induction k using ID with
 | ind k m =>
  intro w s i c u d hi o hd a
  by_cases f:w=[]
  .subst f
   have a:zL n s=bG c (zL n i):=a
   have e1:=congrArg (λr=>r.getD s (0,0)) a
   simp only [yP d,vb c d,if_true] at e1
   by_cases e:s=i
   .rw [if_pos e] at e1
    subst e
    exact ⟨e1.symm,A8 _⟩
   .rw [if_neg e] at e1; cases e1
  .obtain ⟨v,t,b,q,ht,j,h,l,x,g,p⟩:=Wt hg w s i c d hi o hd a f
   obtain ⟨h1,h2⟩:=m v.length (by omega) v t i c rfl ht hi j h l
   refine ⟨h1,?_⟩
   have a1:Eqv (zb ts) n ((v++b)++[s]) (w++[s]):=g.app (A8 _)
   have a2:Eqv (zb ts) n (v++(b++[s])) (v++(t :: b)):=(A8 _).app p
   have a3:Eqv (zb ts) n ((v++[t])++b) ((i :: v)++b):=h2.app (A8 _)
   have a4:Eqv (zb ts) n ([i]++(v++b)) ([i]++w):=(A8 _).app g
   rw [b9] at a1
   rw [b9,nG] at a3
   exact a1.symm.trans (a2.trans (a3.trans a4))
def UH (hg:zT ts) (d:aj n u) (f:m < n) (hi:i < n) (h1:cE (zO (zb ts) u (zL n m))) (h2:b7 (zO (zb ts) (i :: u) (zL n m))):zO (zb ts) u (zL n m)=zL n i:=by
 have o:(zO (zb ts) u (zL n m)).length=n:=by rw [zu,zc]
 have b:∀ k,k < n->k≠i->(zO (zb ts) u (zL n m)).getD k (0,0)=(0,0):=λk B g=>by
  have:=h2 k
  rw [y8,wc _ (by rw [o]; exact hi),if_neg g] at this
  exact ZN (h1 k) this
 have a:=ZD o b
 generalize (zO (zb ts) u (zL n m)).getD i (0,0)=c at a
 obtain ⟨l,p⟩:=bO.ex (ts:=ts) d
 have z:=p
 obtain ⟨v,q,h,A⟩:=z
 have nd:vz (zb ts) n v m:=by
  rcases yR hg d f p with ⟨_,w⟩ | ⟨s,_⟩
  .intro y r e
   have:=w.le r (e.trans (h.app (A8 _)))
   omega
  .exact absurd s (h1.notP (vm d f))
 have ev:=h (zL n m) (zc n m)
 have x:=(CK hg v.length v m i c rfl f hi q nd (by rw [ev,a])).1
 rw [a,x]
 apply xk (zo _ _)
 intro j _
 rw [yi]
 simp [yd]
def Sh (ts:List T3) (n:Nat) (w:List Nat):Prop:=aj n w/\bO ts n w w.length
def Sh.cut (h:Sh ts n (a++b++c)):Sh ts n b:=by
 obtain ⟨h1,h2⟩:=h
 have f:aj n b:=h1.left.right
 obtain ⟨l,d⟩:=bO.ex (ts:=ts) f
 refine ⟨f,?_⟩
 have j:=d
 obtain ⟨v,i,g,k⟩:=j
 have e:Eqv (zb ts) n (a++v++c) (a++b++c):=((A8 _).app g).app (A8 _)
 have:=h2.le ((h1.left.left.app i.1).app h1.right) e
 simp only [aH] at this
 have m:=d.le f (A8 _)
 have:l=b.length:=by omega
 rw [<- this]
 exact d
def Sh.rev (h:Sh ts n a):Sh ts n a.reverse:=⟨h.1.rev,by rw [lA]; exact h.2.rev h.1⟩
def Sh.up (hg:zT ts) (h:Sh ts n (u++[s])):cE (zO (zb ts) u (zL n s)):=by
 have e:s < n:=h.1 s (by simp)
 have d:Sh ts n u:=Sh.cut (a:=[]) (c:=[s]) (by simpa using h)
 rcases yR hg d.1 e d.2 with ⟨a,_⟩ | ⟨_,b,c⟩
 .exact a
 .have:=c.uniq h.2
  simp only [aH,bX] at this
  omega
def uz (ts:List T3) (n:Nat) (v:List Nat) (a:Nat):List Gd:=zO (zb ts) (v.drop (a+1)).reverse (zL n (v.getD a 0))
def wY {v:List Nat} (h:a < v.length):v.getD a 0=v[a]:=by simp [aW,h]
def HY (h:a < v.length):v=v.take a++v.getD a 0 :: v.drop (a+1):=by
 rw [wY h,LL,oN]
def aj.at (b:aj n v) (h:a < v.length):v.getD a 0 < n:=by rw [wY h]; exact b _ (nC h)
def Jw (hg:zT ts) (b:Sh ts n v) (h:a < v.length):cE (uz ts n v a):=by
 have e:=HY h
 have h1:Sh ts n (v.getD a 0 :: v.drop (a+1)):=Sh.cut (a:=v.take a) (c:=[]) (by rw [bx,<- e]; exact b)
 have h2:=h1.rev
 rw [lx] at h2
 exact h2.up hg
def WG (hg:zT ts) (g:Sh ts n v) (z:a < b) (j:b < v.length):uz ts n v a≠uz ts n v b:=by
 intro e
 have l:a < v.length:=by omega
 have s:=g.1.at l
 have d:=g.1.at j
 have u:=HY j
 have h:aj n (v.drop (b+1)):=λx f=>g.1 x (rO f)
 obtain ⟨x,f⟩:∃ x,v.drop (a+1)=x++v.getD b 0 :: v.drop (b+1):=by
  refine ⟨(v.take b).drop (a+1),?_⟩
  conv=>lhs; rw [u]
  rw [List.drop_append_of_le_length (by simp; omega)]
 have m:=HY l
 rw [f] at m
 have q:Sh ts n (v.getD a 0 :: x):=Sh.cut (a:=v.take a) (c:=v.getD b 0 :: v.drop (b+1)) (by rw [b9,bz,<- m]; exact g)
 have r:aj n x:=λi hi=>q.1 i (aX _ hi)
 have h1:=q.rev
 rw [lx] at h1
 have pos:=h1.up hg
 unfold uz at e
 rw [f,g4e,lx,yA,yA] at e
 have e2:=GJ h.rev (by rw [zu,zu,zc]) (zc _ _) e
 have y:w4 (zb ts (v.getD b 0)) (v.getD b 0) (zO (zb ts) x.reverse (zL n (v.getD a 0)))=zL n (v.getD b 0):=e2
 have o:=congrArg (w4 (zb ts (v.getD b 0)) (v.getD b 0)) y
 rw [ZS (zJ ts _) _ (by rw [zu,zc]; exact d)] at o
 have neg:∀ k,(w4 (zb ts (v.getD b 0)) (v.getD b 0) (zL n (v.getD b 0))).getD k (0,0)=yt ((zL n (v.getD b 0)).getD k (0,0)):=λk=>Ul (ts:=ts) (w:=[]) (λi hi=>by cases hi) d k
 have p:=pos (v.getD b 0)
 rw [o,neg,yP d,if_pos rfl] at p
 have:=ZN (ZM 1 (by decide)) p
 cases this
def BG (hg:zT ts) (g:aj n v) (hi:i < n) (h:b7 (zO (zb ts) v (zL n i))):∃ a,a < v.length/\uz ts n v a=zL n i:=by
 have key:∀ (k a:Nat),a+k=v.length->b7 (zO (zb ts) (v.drop a) (zL n i))->∃ b,a<=b/\b < v.length/\uz ts n v b=zL n i:=by
  intro k
  induction k with
  | zero =>
   intro a q d
   have:v.drop a=[]:=rQ (by omega)
   rw [this] at d
   have p:=d i
   have p:nn (yt ((zL n i).getD i (0,0))):=p
   rw [yP hi,if_pos rfl] at p
   have:=ZN (ZM 1 (by decide)) p
   cases this
  | succ k l =>
   intro a q d
   have e:a < v.length:=by omega
   have hd:aj n (v.drop (a+1)):=λx m=>g x (rO m)
   have r:v.drop a=v.getD a 0 :: v.drop (a+1):=by rw [wY e,LL]
   rcases kQ hg hd hi with c | c
   .rw [r] at d
    have:=UH hg hd hi (g.at e) c d
    refine ⟨a,aM _,e,?_⟩
    unfold uz
    rw [<- this]
    exact vn (zJ ts) _ _ (λj o=>by rw [zc]; exact hd j o)
   .obtain ⟨b,h1,h2,f⟩:=l (a+1) (by omega) c
    exact ⟨b,by omega,h2,f⟩
 obtain ⟨b,_,h2,f⟩:=key v.length 0 (by omega) (by rw [List.drop_zero]; exact h)
 exact ⟨b,h2,f⟩
end
section
variable {ts:List T3} {n:Nat}
end
section
variable {ts:List T3} {n:Nat}
def vL (n m:Nat) (r:List Gd):List Gd:=(aw n).map λk=>if k < m then r.getD k (0,0) else (0,0)
def zI (n m) (r:List Gd):(vL n m r).length=n:=by simp [vL]
def vX (r) (a:k < n):(vL n m r).getD k (0,0)=if k < m then r.getD k (0,0) else (0,0):=by
 simp [vL,aW,a]
def j7 (e:m < n) (r):vL n (m+1) r=YR (vL n m r) (bG (r.getD m (0,0)) (zL n m)):=by
 have b:(vL n m r).length=(bG (r.getD m (0,0)) (zL n m)).length:=by rw [zo,zc,zI]
 apply xk (by rw [yV b,zI,zI])
 intro k a
 rw [zI] at a
 rw [xu b,vX r a,vX r a,vb _ a]
 by_cases c:k=m
 .subst c
  simp [yz]
 .by_cases d:k < m
  .rw [if_pos (by omega),if_pos d,if_neg c,wg]
  .rw [if_neg (by omega),if_neg d,if_neg c,wg]
def ZJ (h:r.length=n):vL n n r=r:=by
 apply xk (by rw [zI,h])
 intro k a
 rw [zI] at a
 rw [vX r a,if_pos a]
def Ha (x y):yt (yd x y)=yd (yt x) y:=by
 simp only [yt,yd,Er]; constructor <;> grind
def Ua:nn (0,0):=.inl rfl
def SD (hu:aj n u) (hr:r.length=n) (hp:b7 r) (h:∀ k,k < n->r.getD k (0,0)=(0,0)\/cE (zO (zb ts) u (zL n k))):b7 (zO (zb ts) u r):=by
 have main:∀ m,m<=n->b7 (zO (zb ts) u (vL n m r)):=by
  intro m
  induction m with
  | zero =>
   intro _ k
   have:=kY (ts:=ts) (w:=u) (r:=vL n 0 r) (by rw [zI]; exact hu) (λk=>by
    by_cases hk:k < n
    .rw [vX r hk,if_neg (by omega)]
    .rw [aW,ir (by rw [zI]; omega)]; rfl) k
   rw [this]
   exact .inl rfl
  | succ m ih =>
   intro hm k
   have hl:(vL n m r).length=(bG (r.getD m (0,0)) (zL n m)).length:=by rw [zo,zc,zI]
   rw [j7 (by omega) r,qd _ _ hl (by rw [zI]; exact hu),wW _ _ _ (by rw [zc]; exact hu),xu (by rw [zu,zo,zu,zc,zI]),yi,Vd]
   refine Qo (ih (by omega) k) ?_
   rw [Ha]
   rcases h m (by omega) with z | z
   .rw [z]
    have:yd (yt (0,0)) ((zO (zb ts) u (zL n m)).getD k (0,0))=(0,0):=by simp [yt,yd]
    rw [this]
    exact .inl rfl
   .exact YU (hp m) (z k)
 have:=main n (aM _)
 rwa [ZJ hr] at this
def SE (hu:aj n u) (hr:r.length=n) (hp:cE r) (h:∀ k,k < n->r.getD k (0,0)=(0,0)\/cE (zO (zb ts) u (zL n k))):cE (zO (zb ts) u r):=by
 have y_:∀ k,(bG (-1,0) r).getD k (0,0)=yt (r.getD k (0,0)):=λk=>by
  rw [yi]; simp [yd,yt]
 have h1:b7 (zO (zb ts) u (bG (-1,0) r)):=SD hu (by rw [zo,hr]) (λk=>by
  rw [y_]
  have:yt (yt (r.getD k (0,0)))=r.getD k (0,0):=by simp [yt]
  rw [this]
  exact hp k) λk hk=>by
   rcases h k hk with z | z
   .left
    rw [y_,z]
    rfl
   .exact .inr z
 rw [wW _ _ _ (by rw [hr]; exact hu)] at h1
 intro k
 have:=h1 k
 rw [yi] at this
 have e:yt (yd (-1,0) ((zO (zb ts) u r).getD k (0,0)))=(zO (zb ts) u r).getD k (0,0):=by simp [yd,yt]
 rwa [e] at this
theorem Uk  : ∀ {w:List Nat} {r:List Gd},aj r.length w->k∉w->(zO (zb ts) w r).getD k (0,0)=r.getD k (0,0)
 | [],r,_,_=>rfl
 | i :: w,r,hw,a=>by
  have b:aj r.length w:=λj d=>hw j (aX _ d)
  have hi:i < r.length:=hw i aN
  rw [y8,wc _ (by rw [zu]; exact hi),if_neg (λc=>a (by rw [c]; exact aN))]
  exact Uk b λc=>a (aX _ c)
def V9 (a:aj n w) (hi:i < n) (h:i∉w):VA (zO (zb ts) w (zL n i))=false:=by
 have e:=Uk (ts:=ts) (w:=w) (r:=zL n i) (by rw [zc]; exact a) h
 rw [yP hi,if_pos rfl] at e
 have:JU 1 (zO (zb ts) w (zL n i))=true:=Uu (k:=i) (by rw [zu,zc]; exact hi) (by rw [e]; decide)
 simp [VA,this]
def Lst.sub {P:Nat->Prop} (h:Lst ts n u v):aj n u->(∀ i∈u,P i)->∀ i∈v,P i:=by
 induction h with
 | nil _=>intro _ _ i hi; cases hi
 | @cons u v i h t l =>
  intro e b j d
  obtain ⟨hi,g,_⟩:=Z7 h
  have f:i∈u:=by
   apply Eh
   intro c
   rw [V9 e hi c] at g
   cases g
  rcases aI.mp d with rfl | d
  .exact b _ f
  .refine l (e.app (aj.one hi)) (λk a=>?_) j d
   rcases bE.mp a with a | a
   .exact b k a
   .rw [hJ.mp a]; exact b _ f
def JV (ts:List T3) (n:Nat) (part u:List Nat):List Nat:=part.filter λi=>VA (zO (zb ts) u (zL n i))
inductive Rm (ts:List T3) (n:Nat) (part:List Nat):List Nat->List Nat->Prop
 | nil {u:List Nat} (h:JV ts n part u=[]):Rm ts n part u []
 | cons {u s:List Nat} {i:Nat} {r:List Nat} (h:JV ts n part u=i :: r) (t:Rm ts n part (u++[i]) s):Rm ts n part u (i :: s)
def Vh   : i∈JV ts n part u↔i∈part/\VA (zO (zb ts) u (zL n i))=true:=by
 simp [JV]
variable (hg:zT ts)
include hg
def TM (a:aj n w) (b:s < n) (h:VA (zO (zb ts) w (zL n s))=true):b7 (zO (zb ts) w (zL n s)):=by
 rcases kQ hg a b with c | c
 .rw [(c.abv (vm a b)).2] at h; cases h
 .exact c
def NA (a:aj n w) (b:s < n) (h:VA (zO (zb ts) w (zL n s))=false):cE (zO (zb ts) w (zL n s)):=by
 rcases kQ hg a b with c | c
 .exact c
 .rw [(c.blw (vm a b)).2] at h; cases h
theorem RF (hp:aj n part):∀ (l) {u:List Nat},aj n u->bO ts n u l->∃ s k,Rm ts n part u s/\s.length+k=l/\(∀ i∈s,i∈part)/\bO ts n (u++s) k/\∀ i∈part,cE (zO (zb ts) (u++s) (zL n i))
 | l,u,hu,hl=>by
  cases e:JV ts n part u with
  | nil =>
   refine ⟨[],l,.nil e,by simp,(λi hi=>by cases hi),by rw [bx]; exact hl,λi hi=>?_⟩
   rw [bx]
   refine NA hg hu (hp i hi) ?_
   cases c:VA (zO (zb ts) u (zL n i)) with
   | false=>rfl
   | true =>
    have:=Vh.mpr ⟨hi,c⟩
    rw [e] at this
    cases this
  | cons i r =>
   have hm:i∈JV ts n part u:=by rw [e]; exact aN
   obtain ⟨h1,h2⟩:=Vh.mp hm
   have hi:=hp i h1
   have hn:=TM hg hu hi h2
   rcases yR hg hu hi hl with ⟨c,_⟩ | ⟨_,c2,c3⟩
   .exact absurd hn (c.notP (vm hu hi))
   .have gY:l - 1 < l:=by omega
    obtain ⟨s,k,a1,a2,a3,a4,a5⟩:=RF hp (l - 1) (hu.app (aj.one hi)) c3
    refine ⟨i :: s,k,.cons e a1,by rw [ao]; omega,λj hj=>?_,?_,?_⟩
    .rcases aI.mp hj with rfl | hj
     .exact h1
     .exact a3 j hj
    .rwa [b9,nG] at a4
    .rwa [b9,nG] at a5
def MQ (m:aj n part) (b:aj n w):∃ s o i,Rm ts n part w s/\s.length<=w.length/\(∀ x∈s,x∈part)/\Lst ts n (w++s).reverse o/\Lst ts n s.reverse.reverse i/\aj n o/\aj n i/\(∀ x∈i,x∈part) ∧
  Eqv (zb ts) n (o++i) w/\bO ts n (o++i) (o++i).length/\(∀ x∈part,cE (zO (zb ts) o (zL n x)))/\(o++i).length<=w.length/\Eqv (zb ts) n o (w++s)/\Eqv (zb ts) n i s.reverse/\(∀ x∈part,cE (zO (zb ts) (w++s) (zL n x))):=by
 have h2:=zJ ts
 obtain ⟨l,d⟩:=bO.ex (ts:=ts) b
 obtain ⟨s,k,a1,a2,a3,a4,p⟩:=RF hg m l b d
 have c:aj n s:=λx f=>m x (a3 x f)
 obtain ⟨o,lo,r,h,a,q,A,z⟩:=Qv hg (b.app c)
 obtain ⟨i,B,i1,i2,j,i4,C,u⟩:=Qv hg c.rev
 have e:Eqv (zb ts) n (o++i) w:=by
  have:=a.app j
  rw [b9] at this
  exact this.trans (((A8 w).app (Z8 h2 c)).trans (by rw [bx]; exact A8 _))
 have v:=d.le b (A8 _)
 have y:lo=k:=(q.cong a).uniq a4
 have g:=d.le (h.app i2) e
 rw [aH] at g
 rw [lA] at u
 have hi:∀ x∈i,x∈part:=i1.sub (by rw [mG]; exact c) (by rw [mG]; exact a3)
 refine ⟨s,o,i,a1,by omega,a3,r,i1,h,i2,hi,e,?_,λx f=>?_,by rw [aH]; omega,a,j,p⟩
 .have:(o++i).length=l:=by rw [aH]; omega
  rw [this]
  exact d.cong e.symm
 .rw [a _ (zc n x)]
  exact p x f
end
section
variable {ts:List T3} {n:Nat}
def JW (hu:aj n u) (hv:aj n v) (h:∀ k,k < n->zO (zb ts) u (zL n k)=zO (zb ts) v (zL n k)):Eqv (zb ts) n u v:=λr hr=>by
 have main:∀ m,m<=n->zO (zb ts) u (vL n m r)=zO (zb ts) v (vL n m r):=by
  intro m
  induction m with
  | zero =>
   intro _
   have z:∀ w:List Nat,aj n w->∀ k,(zO (zb ts) w (vL n 0 r)).getD k (0,0)=(0,0):=λw hw k=>kY (ts:=ts) (w:=w) (r:=vL n 0 r) (by rw [zI]; exact hw) (λk=>by
    by_cases hk:k < n
    .rw [vX r hk,if_neg (by omega)]
    .rw [aW,ir (by rw [zI]; omega)]; rfl) k
   apply xk (by rw [zu,zu])
   intro k _
   rw [z u hu k,z v hv k]
  | succ m ih =>
   intro hm
   have hl:(vL n m r).length=(bG (r.getD m (0,0)) (zL n m)).length:=by rw [zo,zc,zI]
   have st:∀ w:List Nat,aj n w->zO (zb ts) w (vL n (m+1) r)=YR (zO (zb ts) w (vL n m r)) (bG (r.getD m (0,0)) (zO (zb ts) w (zL n m))):=λw hw=>by
    rw [j7 (by omega) r,qd _ _ hl (by rw [zI]; exact hw),wW _ _ _ (by rw [zc]; exact hw)]
   rw [st u hu,st v hv,ih (by omega),h m (by omega)]
 have:=main n (aM _)
 rwa [ZJ hr] at this
end
section
variable {ts:List T3} {n:Nat}
def stP (ts:List T3) (n:Nat) (v:List Nat):Nat->List Nat->List Nat
 | 0,_=>[]
 | k+1,u=>if VA (zO (zb ts) u (zL n (v.getD k 0)))=true then k :: stP ts n v k (u++[v.getD k 0]) else stP ts n v k u
theorem Fq (v):∀ k u,∀ p∈stP ts n v k u,p < k
 | 0,_=>λp a=>by cases a
 | k+1,u=>λp a=>by
  unfold stP at a
  split at a
  .rcases aI.mp a with rfl | a
   .omega
   .have:=Fq v k _ p a; omega
  .have:=Fq v k _ p a; omega
variable (hg:zT ts)
include hg
theorem Nu (hu:aj n u) (hs:s < n) (h:cE (zO (zb ts) u (zL n s))):b7 (zO (zb ts) (u++[s]) (zL n s)):=λk=>by
 rw [Ul hu hs k]
 have:yt (yt ((zO (zb ts) u (zL n s)).getD k (0,0)))=(zO (zb ts) u (zL n s)).getD k (0,0):=by simp [yt]
 rw [this]
 exact h k
theorem Nv (e:Eqv (zb ts) n u v) (h:b7 (zO (zb ts) u (zL n s))):b7 (zO (zb ts) v (zL n s)):=by
 rw [<- e _ (zc n s)]; exact h
end
def B5 (s t) (b:Bool):sel t s b=sel s t (!b):=by cases b <;> rfl
def XM (s t) (l:List Bool):l.map (sel t s)=(l.map (!·)).map (sel s t):=by
 rw [bM]
 apply fx
 intro b _
 exact B5 s t b
section
variable {ts:List T3} {n:Nat}
def Ft (a:s < n) (ht:t < n) (l:List Bool):aj n (l.map (sel s t)):=λi hi=>by
 obtain ⟨b,_,rfl⟩:=aR.mp hi
 cases b <;> simp [sel] <;> assumption
def Qk (a:s < n) (ht:t < n) (x y) (b:Bool):Eqv (zb ts) n ((x++y).map (sel s t)) ((x++b :: b :: y).map (sel s t)):=by
 rw [bN,bN]
 refine (A8 _).app ?_
 have c:sel s t b < n:=Ft a ht [b] _ (by simp)
 have:=(IQ (n:=n) (zJ ts) c).symm.app (A8 (A:=zb ts) (y.map (sel s t)))
 simpa using this
def Fg (bp:s≠t) (d:s < n) (ht:t < n) {m:Nat} (em:zh ts s t=(m:Int)) (e:2<=m/\m<=6):Eqv (zb ts) n ((alt m).map (sel s t)) ((alt m).map (sel t s)):=by
 have h2:=zJ ts
 obtain ⟨a,p2⟩:=XC ts bp
 rw [em] at a p2
 obtain ⟨c,b⟩:=Yh (decide (s < t)) e
 rw [<- a,<- p2] at c b
 rw [XM s t]
 exact jD (n:=n) bp (h2 s) (h2 t) d ht c b
def Mo (bp:s≠t) (a:s < n) (ht:t < n) {m k:Nat} (em:zh ts s t=(m:Int)) (f:2<=m/\m<=6) (h:Sh ts n ((alt k).map (sel s t))):k<=m:=by
 apply IV.mp
 intro i
 obtain ⟨pre,e⟩:=Yj (m:=m+1) (k:=k) (by omega)
 obtain ⟨j,rfl⟩:∃ j,m=j+1:=⟨m - 1,by omega⟩
 have e1:(alt (j+1)).map (!·)=decide ((j+1) % 2=1) :: (alt j).map (!·):=by
  rw [alt,au]
  congr 1
  by_cases c:j % 2=1
  .have b:¬ ((j+1) % 2=1):=by omega
   simp [c,b]
  .have b:(j+1) % 2=1:=by omega
   simp [c,b]
 have d:=Fg (ts:=ts) (n:=n) bp a ht em f
 rw [XM s t,e1] at d
 have e2:Eqv (zb ts) n ((pre++(alt j).map (!·)).map (sel s t)) ((alt k).map (sel s t)):=by
  rw [e,alt]
  refine (Qk a ht pre ((alt j).map (!·)) (decide ((j+1) % 2=1))).trans ?_
  rw [bN,bN,au,au (l:=alt (j+1))]
  refine (A8 _).app ?_
  exact (A8 [sel s t (decide ((j+1) % 2=1))]).app d.symm
 have:=h.2.le (Ft a ht _) e2
 have g:=congrArg IZ e
 rw [aH,wC,wC] at g
 simp only [az,aH,wC] at this
 omega
variable (hg:zT ts)
include hg
def PJ (bp:s≠t) (f:s < n) (ht:t < n) (h:Sh ts n (o++(alt k).map (sel s t))) (h1:cE (zO (zb ts) o (zL n s))) (h2:cE (zO (zb ts) o (zL n t))) (hd:b7 (zO (zb ts) (o++(alt k).map (sel s t)) (zL n s))):∃ m:Nat,zh ts s t=(m:Int)/\(2<=m/\m<=6)/\k=m:=by
 have q:=zJ ts
 have x:aj n o:=h.1.left
 have e:Sh ts n ((alt k).map (sel s t)):=Sh.cut (a:=o) (b:=(alt k).map (sel s t)) (c:=[]) (by simpa using h)
 obtain ⟨d,p2⟩:=XC ts bp
 have no:¬ PQ (cQ (zb ts s t) (zb ts t s) k):=λp=>by
  have le:=Um bp (q s) (q t) f ht k
  have g:cE (zO (zb ts) (o++(alt k).map (sel s t)) (zL n s)):=by
   rw [yA,le]
   refine SE x (yC _ _ _ _ _) (λj=>?_) λj l=>?_
   .by_cases l:j < n
    .rw [w8 _ _ l]
     refine Qo ?_ ?_
     .split
      .exact p.1
      .exact Ua
     .split
      .exact p.2.1
      .exact Ua
    .rw [aW,ir (by rw [yC]; omega)]
     exact Ua
   .by_cases u:j=s
    .subst u; exact .inr h1
    .by_cases r:j=t
     .subst r; exact .inr h2
     .left
      rw [w8 _ _ l,if_neg u,if_neg r,wg]
  exact g.notP (vm h.1 f) hd
 rcases w9 hg (s:Int) (t:Int) with z | gt
 .rw [z] at d p2
  have w:zN 0 (decide (s < t))=(-2,0):=by cases decide (s < t) <;> rfl
  have v:zN 0 (!decide (s < t))=(-2,0):=by cases decide (s < t) <;> rfl
  rw [d,p2,w,v] at no
  exact absurd (ZI k) no
 .obtain ⟨m,em⟩:∃ m:Nat,zh ts s t=(m:Int):=⟨(zh ts s t).toNat,by omega⟩
  rw [em] at d p2 gt
  have i:2<=m/\m<=6:=by omega
  refine ⟨m,em,i,Nat.le_antisymm (Mo bp f ht em i e) (IV.mp λy=>?_)⟩
  rw [d,p2] at no
  exact no (FK _ i y)
def BR (I:Sh ts n v) (bp:s≠t) (d:s < n) (ht:t < n) (E:b7 (zO (zb ts) v (zL n s))) (O:b7 (zO (zb ts) v (zL n t))) :
  ∃ (c:List Nat) (m:Nat),zh ts s t=(m:Int)/\(2<=m/\m<=6)/\aj n c/\Sh ts n (c++(alt m).map (sel s t))/\Eqv (zb ts) n (c++(alt m).map (sel s t)) v/\Sh ts n (c++(alt m).map (sel t s))/\Eqv (zb ts) n (c++(alt m).map (sel t s)) v:=by
 have P:=zJ ts
 obtain ⟨_,o,i,_,_,_,_,_,q,H,G,p,u,g,_,_,_,_⟩:=MQ hg (part:=[s,t]) (λx j=>by
  have:x=s\/x=t:=by simpa using j
  rcases this with rfl | rfl <;> assumption) I.1
 have os:=g s (by simp)
 have r:=g t (by simp)
 have h:Sh ts n (o++i):=⟨q.app H,u⟩
 have hi:Sh ts n i:=Sh.cut (a:=o) (b:=i) (c:=[]) (by simpa using h)
 obtain ⟨a,J⟩:∃ a:List Bool,i=a.map (sel s t):=⟨i.map λx=>decide (x=s),by
  rw [bM]
  have:i.map (sel s t ∘ λx=>decide (x=s))=i.map id:=by
   apply fx
   intro x j
   have:x=s\/x=t:=by simpa using G x j
   rcases this with rfl | rfl
   .simp [sel]
   .simp [sel,EF bp]
  rw [this,LD]⟩
 subst J
 have a1:∀ x b y,a≠x++b :: b :: y:=λx b y e=>by
  have:=hi.2.le (Ft d ht (x++y)) (by rw [e]; exact Qk d ht x y b)
  rw [e] at this
  simp only [az,aH,ao] at this
  omega
 have fin:∀ {s t:Nat},s≠t->s < n->t < n->b7 (zO (zb ts) v (zL n s))->cE (zO (zb ts) o (zL n s))->cE (zO (zb ts) o (zL n t))->∀ k,Sh ts n (o++(alt k).map (sel s t))->Eqv (zb ts) n (o++(alt k).map (sel s t)) v →
   ∃ m:Nat,zh ts s t=(m:Int)/\(2<=m/\m<=6)/\Sh ts n (o++(alt m).map (sel s t))/\Eqv (zb ts) n (o++(alt m).map (sel s t)) v/\Sh ts n (o++(alt m).map (sel t s))/\Eqv (zb ts) n (o++(alt m).map (sel t s)) v:=by
  intro s t bp d ht E os r k h1 h2
  obtain ⟨m,em,f,rfl⟩:=PJ hg bp d ht h1 os r (by rw [h2 _ (zc n s)]; exact E)
  have F:=(A8 (A:=zb ts) (n:=n) o).app (Fg (ts:=ts) (n:=n) bp d ht em f)
  refine ⟨k,em,f,h1,h2,⟨q.app (Ft ht d _),?_⟩,F.symm.trans h2⟩
  have l:(o++(alt k).map (sel t s)).length=(o++(alt k).map (sel s t)).length:=by simp
  rw [l]
  exact h1.2.cong F
 by_cases c:∃ x,a=x++[true]
 .obtain ⟨x,j⟩:=c
  have e:a.map (!·)=alt (a.map (!·)).length:=Jc _ (λx b y e=>by
   have e2:=congrArg (dC (!·)) e
   rw [bM] at e2
   have M:(a.map ((!·) ∘ (!·)))=a:=by
    have:((λb:Bool => !b) ∘ λb => !b)=id:=by funext b; simp
    rw [this,LD]
   rw [M] at e2
   exact a1 (x.map (!·)) (!b) (y.map (!·)) (by simpa using e2)) (λy e=>by
   have e2:=congrArg List.getLast? e
   rw [j] at e2
   simp at e2)
  have L:a.map (sel s t)=(alt (a.map (!·)).length).map (sel t s):=by
   rw [<- e,XM t s,bM]
  rw [L] at h p
  obtain ⟨m,em,f,C,B,z,w⟩:=fin (EF bp) ht d O r os _ h p
  exact ⟨o,m,by rw [yk]; exact em,f,q,z,w,C,B⟩
 .have e:=Jc a a1 λx e=>c ⟨x,e⟩
  rw [e] at h p
  obtain ⟨m,em,f,C,B,z,w⟩:=fin bp d ht E os r _ h p
  exact ⟨o,m,em,f,q,C,B,z,w⟩
omit hg in
def Sh.init (h:Sh ts n (v++[s])):Sh ts n v:=by
 have:=Sh.cut (a:=[]) (b:=v) (c:=[s]) (by simpa using h)
 exact this
def GM (h:Sh ts n (a++[s])):b7 (zO (zb ts) (a++[s]) (zL n s)):=Nu hg h.1.left (h.1 s (by simp)) (Sh.up hg h)
end
def vE (i j m:Nat):List Nat:=(aw m).map λk=>if k % 2=0 then i else j
def wD (i j m):(vE i j m).length=m:=by simp [vE]
def Bx (i j) (h:k<=m):(vE i j m).take k=vE i j k:=by
 unfold vE
 rw [<- List.map_take,List.take_range,oH h]
theorem Bw:∀ m,(alt m).reverse=(aw m).map λk=>decide (k % 2=1)
 | 0=>rfl
 | m+1=>by
  rw [alt,lx,Bw m,List.range_succ,bN]
  rfl
def qv (s t m):((alt m).map (sel s t)).reverse=vE t s m:=by
 rw [<- List.map_reverse,Bw,bM]
 unfold vE
 apply fx
 intro k _
 simp only [Ez,sel]
 by_cases c:k % 2=1
 .have:¬ (k % 2=0):=by omega
  simp [c]
 .have a:k % 2=0:=by omega
  simp [a]
section
variable {ts:List T3} {n:Nat}
def Dn (ts:List T3) (n:Nat) (s:List Nat) (t:Nat):Prop:=∃ r,aj n r/\Eqv (zb ts) n (t :: r) s/\r.length+1=s.length
def Sh.of (h:Sh ts n s) (a:aj n u) (e:Eqv (zb ts) n u s) (b:u.length=s.length):Sh ts n u:=⟨a,by rw [b]; exact h.2.cong e.symm⟩
def QO (c:aj n x) (e:Eqv (zb ts) n (x++a) (x++b)):Eqv (zb ts) n a b:=by
 have h2:=zJ ts
 have k:∀ y:List Nat,Eqv (zb ts) n (x.reverse++(x++y)) y:=λy=>by
  have:=(XW h2 c).app (A8 (A:=zb ts) (n:=n) y)
  rw [b9] at this
  exact this
 exact (k a).symm.trans (((A8 x.reverse).app e).trans (k b))
def X8 (hi:i < n) (c:j < n) (m):aj n (vE i j m):=λk b=>by
 obtain ⟨a,_,rfl⟩:=aR.mp b
 split <;> assumption
variable (hg:zT ts)
include hg
def Dn.np (a:Sh ts n s) (ht:t < n) (h:Dn ts n s t):b7 (zO (zb ts) s.reverse (zL n t)):=by
 obtain ⟨r,h1,h2,e⟩:=h
 have b:Sh ts n (t :: r):=a.of (aj.cons ht h1) h2 (by simpa using e)
 have c:=b.rev
 rw [lx] at c
 have d:=GM hg c
 refine Nv hg ?_ d
 have:=Eqv.rev (zJ ts) b.1 a.1 h2
 rw [lx] at this
 exact this
def BQ (a:Sh ts n s) (e:f≠t) (b:f < n) (ht:t < n) (o:Dn ts n s f) (l:Dn ts n s t) :
  ∃ (c:List Nat) (m:Nat),zh ts f t=(m:Int)/\(2<=m/\m<=6)/\aj n c/\Eqv (zb ts) n (vE f t m++c) s/\Eqv (zb ts) n (vE f t m) (vE t f m)/\m+c.length=s.length:=by
 obtain ⟨c,m,em,g,k,i,h,r,q⟩:=BR hg a.rev (EF e) ht b (l.np hg a ht) (o.np hg a b)
 have d:zh ts f t=(m:Int):=by rw [yk]; exact em
 have e1:=Eqv.rev (zJ ts) i.1 a.1.rev h
 rw [g4e,qv,mG] at e1
 have p:=Fg (ts:=ts) (n:=n) (EF e) ht b em g
 have e2:=Eqv.rev (zJ ts) (Ft ht b _) (Ft b ht _) p
 rw [qv,qv] at e2
 refine ⟨c.reverse,m,d,g,k.rev,e1,e2,?_⟩
 have j:=i.2.uniq (a.rev.2.cong h.symm)
 simp only [aH,az,wC,lA] at j ⊢
 omega
omit hg in
def Dn.head (h:aj n (f :: r)):Dn ts n (f :: r) f:=⟨r,λx a=>h x (aX _ a),A8 _,rfl⟩
theorem C1 (hs:Sh ts n s) (hf:f < n) (ht:t < n) (hk:k < m) (hc:aj n c) (e:Eqv (zb ts) n (vE f t m++c) s) (hl:m+c.length=s.length) (hx:aj n x) (ex:Eqv (zb ts) n (vE f t k++x) s) (hxl:k+x.length=s.length) :
  Sh ts n x/\Dn ts n x (if k % 2=0 then f else t):=by
 have ha:=X8 hf ht (n:=n) k
 have h1:Sh ts n (vE f t k++x):=hs.of (ha.app hx) ex (by rw [aH,wD]; exact hxl)
 have h2:Sh ts n x:=Sh.cut (a:=vE f t k) (b:=x) (c:=[]) (by simpa using h1)
 refine ⟨h2,?_⟩
 have e1:vE f t m=vE f t k++(vE f t m).drop k:=by
  rw [<- Bx f t (oE hk),oN]
 have e2:(vE f t m).drop k=(if k % 2=0 then f else t) :: (vE f t m).drop (k+1):=by
  rw [AL (by rw [wD]; exact hk)]
  congr 1
  simp [vE]
 have e3:Eqv (zb ts) n (vE f t k++x) (vE f t k++((vE f t m).drop k++c)):=by
  rw [<- b9,<- e1]
  exact ex.trans e.symm
 have e4:=QO ha e3
 rw [e2] at e4
 refine ⟨(vE f t m).drop (k+1)++c,?_,e4.symm,?_⟩
 ·exact aj.app (λy hy=>X8 hf ht m y (rO hy)) hc
 ·rw [aH,LF,wD]
  omega
def Gp (b:Sh ts n s) (c:a < n) (h:¬ Sh ts n (a :: s)):Dn ts n s a:=by
 have h2:=zJ ts
 have i:=b.2.rev b.1
 rcases yR hg b.1.rev c i with ⟨_,k⟩ | ⟨_,k0,k⟩
 .exfalso
  apply h
  have d:aj n (s.reverse++[a]):=b.1.rev.app (aj.one c)
  have:=k.rev d
  rw [g4e,mG] at this
  exact ⟨aj.cons c b.1,this⟩
 .have d:aj n (s.reverse++[a]):=b.1.rev.app (aj.one c)
  have:=k.rev d
  rw [g4e,mG] at this
  obtain ⟨u,g,f,j⟩:=this
  refine ⟨u,g.1,?_,by omega⟩
  have e:Eqv (zb ts) n ([a]++u) ([a]++([a]++s)):=(A8 [a]).app f
  have e2:Eqv (zb ts) n ([a,a]++s) ([]++s):=(IQ h2 c).app (A8 s)
  exact e.trans e2
def Zl (a:aj n w):(uv ts n [] w).all id=true↔Sh ts n w:=by
 obtain ⟨l,b⟩:=bO.ex (ts:=ts) a
 have h1:=BX hg a b
 obtain ⟨h2,c,d⟩:=Ks (uv ts n [] w)
 rw [qT] at c
 rw [<- c,h1]
 constructor
 .intro e
  have:l=w.length:=by omega
  subst this
  exact ⟨a,b⟩
 .intro h
  have:=b.uniq h.2
  omega
end
def bo (t:Int->Int->Int) (x:Int) (os:List Int):List Int:=os.filter λo=>decide (o≠x)&&decide (t x o≠2)
def bh (os:List Int) (x:Int):List Int:=os.filter λo=>decide (o≠x)
def chG (t:Int->Int->Int):Nat->Int->List Int->Option (List Int)
 | 0,_,_=>some []
 | n+1,x,left=>if left=[] then some [] else match bo t x left with
  | [y]=>(chG t n y (bh left y)).map (y :: ·)
  | _=>none
def vH (t:Int->Int->Int) (ms:List Int) (f:Int):Option (List Int):=(chG t ms.length f (bh ms f)).map (f :: ·)
def yM (t:Int->Int->Int) (ms:List Int):List (List Int):=ms.filterMap (vH t ms)
def wu (t:Int->Int->Int) (o:List Int):List Int:=g_ t o (o.drop 1)
abbrev Kd:=Nat×Nat
def NX (ts:List Int):Kd :=
 if ts=aF ts.length 3 then (1,ts.length+1)
 else if ts=aF (ts.length - 1) 3++[4] then (2,ts.length+1)
 else if ts=[3,4,3] then (6,4) else if ts=[3,5] then (8,3) else if ts=[3,3,5] then (8,4)
 else if ts=[5] then (9,5) else if ts=[6] then (9,6) else (0,0)
def jm (o:List Int) (y:Int):Kd :=
 if 4<=o.length+1/\o[1]? = some y then (4,o.length+1) else if o.length+1=6/\o[2]? = some y then (5,6) else (0,0)
def BJ (t:Int->Int->Int) (ms:List Int):List Kd:=(yM t ms).map λo=>NX (wu t o)
def C8 (t:Int->Int->Int) (ms:List Int):List Kd:=ms.flatMap λe=>match bo t e ms with
 | [y]=>(yM t (bh ms e)).map λo=>jm o y
 | _=>[]
def vM (t:Int->Int->Int) (three:Bool) (ms:List Int):List Kd:=BJ t ms++if three then C8 t ms else []
structure Rlb (t t':Int->Int->Int) (φ:Int->Int) (S:List Int):Prop where
 tt:∀ i∈S,∀ j∈S,t' (φ i) (φ j)=t i j
 inj:∀ i∈S,∀ j∈S,φ i=φ j->i=j
section
variable {t t':Int->Int->Int} {φ:Int->Int} {S:List Int}
def Gx (R:Rlb t t' φ S) (b:x∈S) (c:∀ y∈l,y∈S) (f:d.Perm (l.map φ)):(bo t' (φ x) d).Perm ((bo t x l).map φ):=by
 unfold bo
 refine (f.filter _).trans ?_
 rw [List.filter_map]
 refine List.Perm.of_eq (congrArg _ (Lu λy a=>?_))
 show (decide (φ y≠φ x)&&decide (t' (φ x) (φ y)≠2))=_
 rw [R.tt x b y (c y a)]
 have:(φ y≠φ x)↔(y≠x):=⟨λh e=>h (by rw [e]),λh e=>h (R.inj y (c y a) x b e)⟩
 rw [decide_eq_decide.mpr this]
def VM (R:Rlb t t' φ S) (c:x∈S) (f:∀ y∈l,y∈S) (d:a.Perm (l.map φ)):(bh a (φ x)).Perm ((bh l x).map φ):=by
 unfold bh
 refine (d.filter _).trans ?_
 rw [List.filter_map]
 refine List.Perm.of_eq (congrArg _ (Lu λy b=>?_))
 have:(φ y≠φ x)↔(y≠x):=⟨λh e=>h (by rw [e]),λh e=>h (R.inj y (f y b) x c e)⟩
 exact decide_eq_decide.mpr this
def XJ (h:y∈bo t x l):y∈l:=(df.mp h).1
def jU (h:y∈bh l x):y∈l:=(df.mp h).1
theorem Bg (R:Rlb t t' φ S):∀ n x l d,x∈S->(∀ y∈l,y∈S)->d.Perm (l.map φ)->chG t' n (φ x) d=(chG t n x l).map (dC φ)
 | 0,_,_,_,_,_,_=>rfl
 | n+1,x,l,d,m,g,i=>by
  have f:=Gx R m g i
  unfold chG
  by_cases e:l=[]
  .subst e
   have:d=[]:=List.perm_nil.mp i
   subst this
   rfl
  .have o:d≠[]:=λz=>by
    subst z
    have:=i.length_eq
    rw [az] at this
    exact e (oP.mp this.symm)
   rw [if_neg e,if_neg o]
   cases h:bo t x l with
   | nil =>
    rw [h] at f
    rw [List.perm_nil.mp f]
    rfl
   | cons y r =>
    rw [h] at f
    cases r with
    | nil =>
     rw [List.perm_singleton.mp f]
     have k:y∈l:=XJ (t:=t) (x:=x) (by rw [h]; exact aN)
     show Option.map (φ y :: ·) (chG t' n (φ y) (bh d (φ y)))=Option.map (dC φ) (Option.map (y :: ·) (chG t n y (bh l y)))
     rw [Bg R n y _ _ (g y k) (λz hz=>g z (jU hz)) (VM R (g y k) g i)]
     cases chG t n y (bh l y) <;> rfl
    | cons z r =>
     have c:=f.length_eq
     cases h':bo t' (φ x) d with
     | nil=>rfl
     | cons a j =>
      cases j with
      | nil=>rw [h'] at c; simp at c
      | cons b j=>rfl
theorem Bf:∀ {n:Nat} {x:Int} {l o:List Int},chG t n x l=some o->∀ y∈o,y∈l
 | 0,x,l,o,h,y,a=>by cases h; cases a
 | n+1,x,l,o,h,y,a=>by
  unfold chG at h
  split at h
  .cases h; cases a
  .split at h
   .rename_i z e
    obtain ⟨o',b,rfl⟩:=iu.mp h
    rcases aI.mp a with rfl | a
    .exact XJ (t:=t) (x:=x) (by rw [e]; exact aN)
    .exact jU (Bf b y a)
   .cases h
def Y9 (R:Rlb t t' φ S) (c:f∈S) (b:∀ y∈ms,y∈S) (a:d.Perm (ms.map φ)):vH t' d (φ f)=(vH t ms f).map (dC φ):=by
 unfold vH
 have e:d.length=ms.length:=by rw [a.length_eq,az]
 rw [e,Bg R ms.length f (bh ms f) _ c (λy g=>b y (jU g)) (VM R c b a)]
 cases chG t ms.length f (bh ms f) <;> rfl
def J4 (b:f∈ms) (h:vH t ms f=some o):∀ y∈o,y∈ms:=by
 obtain ⟨o',e,rfl⟩:=iu.mp h
 intro y a
 rcases aI.mp a with rfl | a
 .exact b
 .exact jU (Bf e y a)
def qq (R:Rlb t t' φ S) (c:∀ y∈ms,y∈S) (b:g.Perm (ms.map φ)):o'∈yM t' g↔∃ o∈yM t ms,o'=o.map φ:=by
 unfold yM
 rw [ly]
 constructor
 .rintro ⟨i,h,e⟩
  obtain ⟨f,a,rfl⟩:=aR.mp (b.subset h)
  rw [Y9 R (c f a) c b] at e
  obtain ⟨o,e2,rfl⟩:=iu.mp e
  exact ⟨o,ly.mpr ⟨f,a,e2⟩,rfl⟩
 .rintro ⟨o,d,rfl⟩
  obtain ⟨f,a,e⟩:=ly.mp d
  refine ⟨φ f,b.symm.subset (List.mem_map_of_mem a),?_⟩
  rw [Y9 R (c f a) c b,e]
  rfl
def qm (h:o∈yM t ms):∀ y∈o,y∈ms:=by
 obtain ⟨f,a,e⟩:=ly.mp h
 exact J4 a e
def VI (R:Rlb t t' φ S) (c:∀ y∈o,y∈S):wu t' (o.map φ)=wu t o:=by
 unfold wu
 rw [<- List.map_drop,List.zipWith_map]
 have:∀ (a b:List Int),(∀ y∈a,y∈S)->(∀ y∈b,y∈S)->g_ (λx y=>t' (φ x) (φ y)) a b=g_ t a b:=by
  intro a
  induction a with
  | nil=>intro b _ _; simp
  | cons x a f =>
   intro b e d
   cases b with
   | nil=>simp
   | cons y b =>
    rw [g3s,g3s,R.tt x (e x aN) y (d y aN),f b (λz hz=>e z (aX _ hz)) (λz hz=>d z (aX _ hz))]
 exact this o (o.drop 1) c λy g=>c y (rO g)
def QB (R:Rlb t t' φ S) (b:∀ y∈o,y∈S) (a:y∈S):jm (o.map φ) (φ y)=jm o y:=by
 have q:∀ i:Nat,((o.map φ)[i]? = some (φ y))↔(o[i]? = some y):=λi=>by
  rw [cP]
  constructor
  .intro h
   obtain ⟨z,e,h⟩:=iu.mp h
   rw [e,R.inj z (b z (gN e)) y a h]
  .intro h; rw [h]; rfl
 unfold jm
 rw [az]
 simp only [q]
def NT (R:Rlb t t' φ S) (b:∀ y∈ms,y∈S) (d:e.Perm (ms.map φ)):k∈BJ t' e↔k∈BJ t ms:=by
 unfold BJ
 rw [aR,aR]
 constructor
 .rintro ⟨o',f,rfl⟩
  obtain ⟨o,a,rfl⟩:=(qq R b d).mp f
  exact ⟨o,a,by rw [VI R λy c=>b y (qm a y c)]⟩
 .rintro ⟨o,a,rfl⟩
  exact ⟨o.map φ,(qq R b d).mpr ⟨o,a,rfl⟩,by rw [VI R λy c=>b y (qm a y c)]⟩
def GP (R:Rlb t t' φ S) (d:∀ y∈ms,y∈S) (p:l.Perm (ms.map φ)) (q:e∈ms) :
  (k∈(match bo t' (φ e) l with | [y]=>(yM t' (bh l (φ e))).map (λo=>jm o y) | _=>[]))↔(k∈(match bo t e ms with | [y]=>(yM t (bh ms e)).map (λo=>jm o y) | _=>[])):=by
 have i:=Gx R (d e q) d p
 cases h:bo t e ms with
 | nil =>
  rw [h] at i
  rw [List.perm_nil.mp i]
 | cons y r =>
  rw [h] at i
  cases r with
  | nil =>
   rw [List.perm_singleton.mp i]
   have n:y∈ms:=XJ (t:=t) (x:=e) (by rw [h]; exact aN)
   have j:∀ z∈bh ms e,z∈S:=λz hz=>d z (jU hz)
   have f:=VM R (d e q) d p
   show k∈(yM t' (bh l (φ e))).map (λo=>jm o (φ y))↔k∈(yM t (bh ms e)).map (λo=>jm o y)
   rw [aR,aR]
   constructor
   .rintro ⟨o',s,rfl⟩
    obtain ⟨o,g,rfl⟩:=(qq R j f).mp s
    exact ⟨o,g,by rw [QB R (λz hz=>j z (qm g z hz)) (d y n)]⟩
   .rintro ⟨o,g,rfl⟩
    exact ⟨o.map φ,(qq R j f).mpr ⟨o,g,rfl⟩,by rw [QB R (λz hz=>j z (qm g z hz)) (d y n)]⟩
  | cons z r =>
   have c:=i.length_eq
   cases h':bo t' (φ e) l with
   | nil=>exact Iff.rfl
   | cons a m =>
    cases m with
    | nil=>rw [h'] at c; simp at c
    | cons b m=>exact Iff.rfl
def NO (R:Rlb t t' φ S) (c:∀ y∈ms,y∈S) (b:f.Perm (ms.map φ)):k∈C8 t' f↔k∈C8 t ms:=by
 unfold C8
 rw [nB,nB]
 constructor
 .rintro ⟨g,d,h⟩
  obtain ⟨e,a,rfl⟩:=aR.mp (b.subset d)
  exact ⟨e,a,(GP R c b a).mp h⟩
 .rintro ⟨e,a,h⟩
  exact ⟨φ e,b.symm.subset (List.mem_map_of_mem a),(GP R c b a).mpr h⟩
def Da (R:Rlb t t' φ S) (c:∀ y∈ms,y∈S) (a:d.Perm (ms.map φ)):k∈vM t' b d↔k∈vM t b ms:=by
 unfold vM
 rw [bE,bE,NT R c a]
 cases b with
 | false=>exact Iff.rfl
 | true=>exact or_congr Iff.rfl (NO R c a)
end
def y9 (ts:List Int):List T3:=(List.zip (aw ts.length) ts).map λp=>((p.1:Int),(p.1:Int)+1,p.2)
def Jm (n:Nat):List T3:=(aw n).map λ(k:Nat)=>(0,(k:Int)+1,3)
def r3 (n:Nat):List Int:=aF n 3
abbrev Bk:=Kd×List T3
def BL:Nat->List Bk
 | 1=>[((1,1),y9 [])]
 | 2=>[((1,2),y9 [3]),((2,2),y9 [4]),((9,5),y9 [5]),((9,6),y9 [6]),((0,0),y9 [0])]
 | 3=>[((1,3),y9 [3,3]),((2,3),y9 [3,4]),((8,3),y9 [3,5]),((0,0),y9 [3,0]),((0,0),y9 [5,4]),((0,0),y9 [4,4]),((0,0),y9 [3,6]),((0,0),y9 [3,3]++[(0,2,3)]),((0,0),y9 [5,5])]
 | 4=>[((1,4),y9 [3,3,3]),((2,4),y9 [3,3,4]),((4,4),y9 [3,3]++[(1,3,3)]),((8,4),y9 [3,3,5]),((6,4),y9 [3,4,3]),((0,0),y9 [3,3,0]),((0,0),y9 [5,3,4]),((0,0),y9 [4,3,4]),((0,0),y9 [3,3,6]),((0,0),y9 [3,3,3]++[(0,3,3)]),
   ((0,0),y9 [3,3]++[(1,3,4)]),((0,0),y9 [3,5,3]),((0,0),Jm 3++[(1,2,3)])]
 | 5=>[((1,5),y9 [3,3,3,3]),((2,5),y9 [3,3,3,4]),((4,5),y9 [3,3,3]++[(2,4,3)]),((0,0),y9 [3,3,3,0]),((0,0),y9 [5,3,3,4]),((0,0),y9 [4,3,3,4]),((0,0),y9 [3,3,3,6]),((0,0),y9 [3,3,3,3]++[(0,4,3)]),((0,0),y9 [3,3,3,5]),
   ((0,0),y9 [3,3,3]++[(2,4,4)]),((0,0),y9 [3,5,3,3]),((0,0),Jm 4++[(1,2,3)]),((0,0),Jm 4)]
 | 6=>[((1,6),y9 [3,3,3,3,3]),((2,6),y9 [3,3,3,3,4]),((4,6),y9 [3,3,3,3]++[(3,5,3)]),((5,6),y9 [3,3,3,3]++[(2,5,3)]),((0,0),y9 [3,3,3,3,0]),((0,0),y9 [5,3,3,3,4]),((0,0),y9 [4,3,3,3,4]),((0,0),y9 [3,3,3,3,6]),((0,0),y9 [3,3,3,3,3]++[(0,5,3)]),((0,0),y9 [3,3,3,3,5]),
   ((0,0),y9 [3,3,3,3]++[(3,5,4)]),((0,0),y9 [3,5,3,3,3]),((0,0),Jm 5++[(1,2,3)]),((0,0),Jm 5)]
 | _=>[]
def idx (n:Nat):List Int:=(aw n).map λ(i:Nat)=>(i:Int)
def Fo (ts:List T3):Bool:=ts.all λu=>decide (u.2.2=3)
def mZ (k:Nat) (B:Bk):Bool :=
 (B.2.all λu=>decide (0<=u.1)&&decide (u.1 < u.2.1)&&decide (u.2.1 < k)) &&
 ((aw k).all λv=>decide (v=0)||(aw v).any λu=>decide (zh B.2 u v≠2)) &&
 ((vM (zh B.2) (Fo B.2) (idx k)).all λc=>decide (c=(0,0))||decide (c=B.1)) &&
 (decide (B.1=(0,0))||(vM (zh B.2) (Fo B.2) (idx k)).any λc=>decide (c=B.1))
def zdt:((BL 1).all (mZ 1))=true:=by decide +kernel
def zds:((BL 2).all (mZ 2))=true:=by decide +kernel
def zdr:((BL 3).all (mZ 3))=true:=by decide +kernel
def zdq:((BL 4).all (mZ 4))=true:=by decide +kernel
def zdp:((BL 5).all (mZ 5))=true:=by decide +kernel
def zdo:((BL 6).all (mZ 6))=true:=by decide +kernel
def Nr (h:B∈BL k):mZ k B=true:=by
 match k,h with
 | 0,h=>cases h
 | 1,h=>exact bB.mp zdt B h
 | 2,h=>exact bB.mp zds B h
 | 3,h=>exact bB.mp zdr B h
 | 4,h=>exact bB.mp zdq B h
 | 5,h=>exact bB.mp zdp B h
 | 6,h=>exact bB.mp zdo B h
 | n+7,h=>cases h
abbrev eO:=Nat×Bk
def iE (b:Int) (u:T3):T3:=(b+u.1,b+u.2.1,u.2.2)
def dD:Int->List eO->List T3
 | _,[]=>[]
 | b,B :: bs=>B.2.2.map (iE b)++dD (b+B.1) bs
def Ka:Int->List eO->List (Int×eO)
 | _,[]=>[]
 | b,B :: bs=>(b,B) :: Ka (b+B.1) bs
def BF:List eO->Nat
 | []=>0
 | B :: bs=>B.1+BF bs
def Wi (k:Nat) (ts:List T3):Prop:=∀ u∈ts,0<=u.1/\u.1 < u.2.1/\u.2.1 < k
abbrev i9 (i j:Int) (u:T3):Prop:=u.1=cy i j/\u.2.1=cA i j
theorem qV  : ∀ {ts:List T3},(∀ u∈ts,¬ i9 i j u)->zh ts i j=2
 | [],_=>rfl
 | u :: ts,h=>by
  unfold zh
  rw [if_neg (h u aN),qV λv a=>h v (aX _ a)]
theorem qH (c:∀ u∈b,¬ i9 i j u):∀ {a:List T3},zh (a++b) i j=zh a i j
 | []=>qV c
 | u :: a=>by
  rw [bz]
  unfold zh
  rw [qH c]
theorem ue   : ∀ {a:List T3},(∀ u∈a,¬ i9 i j u)->zh (a++b) i j=zh b i j
 | [],_=>rfl
 | u :: a,h=>by
  rw [bz]
  unfold zh
  rw [if_neg (h u aN),ue λv c=>h v (aX _ c)]
  cases b <;> simp [zh]
theorem Wp   : ∀ {ts:List T3},(∀ u∈ts,(f u).2.2=u.2.2/\(i9 b a (f u)↔i9 i j u))->zh (ts.map f) b a=zh ts i j
 | [],_=>rfl
 | u :: ts,h=>by
  rw [au]
  unfold zh
  obtain ⟨h1,h2⟩:=h u aN
  rw [Wp λv d=>h v (aX _ d),h1]
  by_cases c:i9 i j u
  .rw [if_pos (h2.mpr c),if_pos c]
  .rw [if_neg (λz=>c (h2.mp z)),if_neg c]
def In (p:Int×eO) (x:Int):Prop:=p.1<=x/\x < p.1+p.2.1
theorem WK:∀ {bs:List eO} {b:Int} {p:Int×eO},p∈Ka b bs->b<=p.1/\p.1+p.2.1<=b+BF bs
 | [],b,p,h=>by cases h
 | B :: bs,b,p,h=>by
  unfold BF
  rcases aI.mp h with rfl | h
  .dsimp only; omega
  .have:=WK h; omega
theorem V3:∀ {bs:List eO} {b x:Int} {p q:Int×eO},p∈Ka b bs->q∈Ka b bs->In p x->In q x->p=q
 | [],b,x,p,q,h,_,_,_=>by cases h
 | B :: bs,b,x,p,q,c,a,h1,h2=>by
  unfold In at h1 h2
  rcases aI.mp c with rfl | c <;> rcases aI.mp a with rfl | a
  .rfl
  .have:=WK a; dsimp only at h1; omega
  .have:=WK c; dsimp only at h2; omega
  .exact V3 c a h1 h2
theorem V5:∀ {bs:List eO} {b:Int} {p:Int×eO},p∈Ka b bs->p.2∈bs
 | [],b,p,h=>by cases h
 | B :: bs,b,p,h=>by
  rcases aI.mp h with rfl | h
  .exact aN
  .exact aX _ (V5 h)
theorem Bo:∀ {bs:List eO} {b:Int} {u:T3},u∈dD b bs↔∃ p∈Ka b bs,∃ v∈p.2.2.2,u=iE p.1 v
 | [],b,u=>by simp [dD,Ka]
 | B :: bs,b,u=>by
  unfold dD Ka
  rw [bE,Bo,aR]
  constructor
  .rintro (⟨v,c,rfl⟩ | ⟨p,a,h⟩)
   .exact ⟨(b,B),aN,v,c,rfl⟩
   .exact ⟨p,aX _ a,h⟩
  .rintro ⟨p,a,v,c,rfl⟩
   rcases aI.mp a with rfl | a
   .exact .inl ⟨v,c,rfl⟩
   .exact .inr ⟨p,a,v,c,rfl⟩
def S8   : i9 (b+i) (b+j) (iE b u)↔i9 i j u:=by
 have c:cy (b+i) (b+j)=b+cy i j:=by unfold cy; split <;> split <;> omega
 have a:cA (b+i) (b+j)=b+cA i j:=by unfold cA; split <;> split <;> omega
 show b+u.1=cy (b+i) (b+j)/\b+u.2.1=cA (b+i) (b+j)↔_
 rw [c,a]
 exact and_congr ⟨λh=>by omega,λh=>by omega⟩ ⟨λh=>by omega,λh=>by omega⟩
theorem Ko:∀ {bs:List eO} {b:Int} {p:Int×eO} {i j:Int},(∀ B∈bs,Wi B.1 B.2.2)->p∈Ka b bs->0<=i->i < p.2.1->0<=j->j < p.2.1->zh (dD b bs) (p.1+i) (p.1+j)=zh p.2.2.2 i j
 | [],b,p,i,j,_,h,_,_,_,_=>by cases h
 | B :: bs,b,p,i,j,hg,h,h1,h2,k,g=>by
  unfold dD
  rcases aI.mp h with rfl | h
  .dsimp only at *
   rw [qH]
   .exact Wp λu _=>⟨rfl,S8⟩
   .intro u c
    obtain ⟨q,d,v,a,rfl⟩:=Bo.mp c
    have:=WK d
    have f:=hg q.2 (aX _ (V5 d)) v a
    unfold i9 iE cy cA
    dsimp only
    split <;> split <;> omega
  .rw [ue,Ko (λC e=>hg C (aX _ e)) h h1 h2 k g]
   intro u c
   obtain ⟨v,a,rfl⟩:=aR.mp c
   have:=WK h
   have f:=hg B aN v a
   unfold i9 iE cy cA
   dsimp only
   split <;> split <;> omega
def zbx (hg:∀ B∈bs,Wi B.1 B.2.2) (h:u∈dD b bs):∃ p∈Ka b bs,In p u.1/\In p u.2.1/\u.1 < u.2.1:=by
 obtain ⟨p,a,v,c,rfl⟩:=Bo.mp h
 have f:=hg p.2 (V5 a) v c
 exact ⟨p,a,⟨by unfold iE; dsimp only; omega,by unfold iE; dsimp only; omega⟩,⟨by unfold iE; dsimp only; omega,by unfold iE; dsimp only; omega⟩,by unfold iE; dsimp only; omega⟩
def BV   {p:Int×eO} (hg:∀ B∈bs,Wi B.1 B.2.2) (g:p∈Ka b bs) (e:In p x) (d:¬ In p y):zh (dD b bs) x y=2:=by
 refine qV λu i h=>?_
 obtain ⟨q,f,c,a,j⟩:=zbx hg i
 unfold i9 cy cA at h
 have:x=u.1/\y=u.2.1\/x=u.2.1/\y=u.1:=by
  split at h <;> split at h <;> omega
 rcases this with ⟨e1,e2⟩ | ⟨e1,e2⟩
 .subst e1 e2
  exact d (V3 g f e c ▸ a)
 .subst e1 e2
  exact d (V3 g f e a ▸ c)
def wV   : i∈idx n↔0<=i/\i < n:=by
 unfold idx
 rw [aR]
 constructor
 .rintro ⟨k,a,rfl⟩
  have:=bT.mp a
  omega
 .rintro ⟨h1,h2⟩
  exact ⟨i.toNat,bT.mpr (by omega),by omega⟩
def vY (n):(idx n).Nodup:=by
 unfold idx List.Nodup
 rw [nE]
 exact List.nodup_range.imp λh e=>h (by omega)
def CO (h:B∈BL k):(∀ c∈vM (zh B.2) (Fo B.2) (idx k),c=(0,0)\/c=B.1)/\(B.1=(0,0)\/B.1∈vM (zh B.2) (Fo B.2) (idx k)):=by
 have h:=Nr h
 unfold mZ at h
 rw [cO,cO,cO] at h
 refine ⟨λc a=>?_,?_⟩
 .have:=bB.mp h.1.2 c a
  rw [AE] at this
  exact this.imp of_decide_eq_true of_decide_eq_true
 .have:=h.2
  rw [AE] at this
  refine this.imp of_decide_eq_true λz=>?_
  obtain ⟨c,a,e⟩:=nD.mp z
  rw [<- of_decide_eq_true e]
  exact a
section
variable {bs:List eO} {σ:Int->Int} {p:Int×eO}
def YK (ts:List T3) (ms:List Int):Bool:=(ts.filter λu=>decide (u.1∈ms)).all λu=>decide (u.2.2=3)
def Sz (a b):cy a b=a\/cy a b=b:=by unfold cy; split <;> simp
end
def Yx (t:Int->Int->Int):Nat->List Int->List Int->Nat->List Int
 | 0,part,_,_=>part
 | n+1,part,left,p=>match part[p]? with
  | none=>part
  | some x=>Yx t n (part++bo t x left) (left.filter λo=>decide (o∉bo t x left)) (p+1)
theorem Q8  {R S:List Int} (l:R.Nodup) (k:∀ x∈S,∀ y∈R,y∉S->t x y=2) :
  ∀ n part left p,(part++left).Perm R->(∀ x∈part,x∈S)->(∀ q,q < p->∀ x,part[q]? = some x->∀ y∈left,t x y=2)->R.length<=n+p →
   (∀ x∈part,x∈Yx t n part left p)/\(Yx t n part left p).Nodup/\(∀ x∈Yx t n part left p,x∈S)/\∀ x∈Yx t n part left p,∀ y∈R,y∉Yx t n part left p->t x y=2
 | n,part,left,p,h1,h2,m,C=>by
  have i:(part++left).Nodup:=h1.nodup_iff.mpr l
  have w:=h1.length_eq
  rw [aH] at w
  have stop:part.length<=p->(∀ x∈part,x∈part)/\part.Nodup/\(∀ x∈part,x∈S)/\∀ x∈part,∀ y∈R,y∉part->t x y=2:=λB=>by
   refine ⟨λ_ h=>h,(oJ.mp i).1,h2,λx d y a u=>?_⟩
   obtain ⟨q,g,e⟩:=oM.mp d
   refine m q (by omega) x (by rw [dq g,e]) y ?_
   rcases bE.mp (h1.mem_iff.mpr a) with z | z
   .exact absurd z u
   .exact z
  cases n with
  | zero=>exact stop (by omega)
  | succ n =>
   unfold Yx
   cases e:part[p]? with
   | none=>exact stop (g3p.mp e)
   | some x =>
    have d:x∈part:=gN e
    have j:∀ o∈left,(decide (o∉bo t x left)) = !(decide (o≠x)&&decide (t x o≠2)):=λo v=>by
     have:o∈bo t x left↔(decide (o≠x)&&decide (t x o≠2))=true:=by
      unfold bo; rw [df]; exact ⟨λz=>z.2,λz=>⟨v,z⟩⟩
     cases c:(decide (o≠x)&&decide (t x o≠2)) with
     | true=>rw [c] at this; simpa using this
     | false=>rw [c] at this; simpa using this
    have r:((part++bo t x left)++left.filter λo=>decide (o∉bo t x left)).Perm R:=by
     rw [b9]
     refine (List.Perm.append_left part ?_).trans h1
     rw [Lu j]
     exact List.filter_append_perm _ _
    have s:∀ y∈bo t x left,y∈S:=λy a=>by
     unfold bo at a
     obtain ⟨a,hd⟩:=df.mp a
     rw [cO] at hd
     refine Eh λz=>of_decide_eq_true hd.2 (k x (h2 x d) y (h1.mem_iff.mp (eh _ a)) z)
    obtain ⟨a1,a2,a3,a4⟩:=Q8 l k n (part++bo t x left) (left.filter λo=>decide (o∉bo t x left)) (p+1) r (λy a=>(bE.mp a).elim (h2 y) (s y)) (λq g z f y a=>by
      obtain ⟨b,hd⟩:=df.mp a
      have E:p < part.length:=(dw.mp e).1
      rw [fE (by omega)] at f
      by_cases c:q=p
      .subst c
       rw [e] at f
       cases f
       rw [j y b] at hd
       have A:y≠x:=λz=>by
        subst z
        exact (oJ.mp i).2.2 y d y b rfl
       simpa [A] using hd
      .exact m q (by omega) z f y b) (by omega)
    exact ⟨λy a=>a1 y (gq _ a),a2,a3,a4⟩
def uh {a b:List Int} (d:a.Nodup) (c:b.Nodup) (h:∀ x,x∈a↔x∈b):a.Perm b:=(List.perm_ext_iff_of_nodup d c).mpr h
def xQ (t:Int->Int->Int) (n:Nat) (x:Int):List Int:=Yx t n [x] (bh (idx n) x) 0
def PP (ts:List T3) (n:Nat) (r:List Gd):Prop:=∃ u i,aj n u/\i < n/\r=zO (zb ts) u (zL n i)
section
variable {ts:List T3} {n:Nat}
def PP.nz (h:PP ts n r):Nz r:=by
 obtain ⟨u,i,a,hi,rfl⟩:=h
 exact vm a hi
def PP.not (h:PP ts n r) (h1:cE r):¬ b7 r:=h1.notP h.nz
def WH (hg:zT ts) (o:aj n v) (g:PP ts n r) (y:cE r) (h:b7 (zO (zb ts) v r)):∃ a,a < v.length/\uz ts n v a=r:=by
 obtain ⟨u,i,f,hi,m⟩:=g
 have key:∀ (k a:Nat),a+k=v.length->b7 (zO (zb ts) (v.drop a) r)->∃ b,a<=b/\b < v.length/\uz ts n v b=r:=by
  intro k
  induction k with
  | zero =>
   intro a w d
   have:v.drop a=[]:=rQ (by omega)
   rw [this] at d
   have g:PP ts n r:=⟨u,i,f,hi,m⟩
   exact absurd d (g.not y)
  | succ k p =>
   intro a w d
   have e:a < v.length:=by omega
   have hd:aj n (v.drop (a+1)):=λx q=>o x (rO q)
   have z:v.drop a=v.getD a 0 :: v.drop (a+1):=by rw [wY e,LL]
   have e1:zO (zb ts) (v.drop (a+1)) r=zO (zb ts) (v.drop (a+1)++u) (zL n i):=by rw [yA,m]
   rcases kQ hg (hd.app f) hi with c | c
   .rw [z,y8,e1] at d
    have:=UH hg (hd.app f) hi (o.at e) c d
    refine ⟨a,aM _,e,?_⟩
    unfold uz
    rw [<- this,<- e1]
    exact vn (zJ ts) _ _ (λj s=>by rw [m,zu,zc]; exact hd j s)
   .rw [<- e1] at c
    obtain ⟨b,h1,h2,l⟩:=p (a+1) (by omega) c
    exact ⟨b,by omega,h2,l⟩
 obtain ⟨b,_,h2,l⟩:=key v.length 0 (by omega) (by rw [List.drop_zero]; exact h)
 exact ⟨b,h2,l⟩
end
def Le (a b:Int):Prop:=b=0\/(a≠0/\a<=b)
def VG (i j k):vE i j (k+1)=vE i j k++[if k % 2=0 then i else j]:=by
 unfold vE
 rw [List.range_succ,bN]
 rfl
def VH (i j k):vE i j (k+1)=i :: vE j i k:=by
 unfold vE
 rw [oO,au,bM]
 congr 1
 apply fx
 intro m _
 simp only [Ez]
 by_cases c:m % 2=0
 .rw [if_pos c,if_neg (by omega)]
 .rw [if_neg c,if_pos (by omega)]
def X7 (φ) (i j k:Nat):(vE i j k).map φ=vE (φ i) (φ j) k:=by
 unfold vE
 rw [bM]
 apply fx
 intro m _
 simp only [Ez]
 split <;> rfl
section
variable {ts us:List T3} {n n':Nat}
def Mj {f t m:Nat} (b:f≠t) (a:f < n) (ht:t < n) (em:zh ts f t=(m:Int)) (c:2<=m/\m<=6):Eqv (zb ts) n (vE f t m) (vE t f m):=by
 have d:=Fg (ts:=ts) (n:=n) b a ht em c
 have e2:=Eqv.rev (zJ ts) (Ft a ht _) (Ft ht a _) d
 rw [qv,qv] at e2
 exact e2.symm
def PL {f t m k:Nat} (a:f≠t) (c:f < n) (ht:t < n) (em:zh ts f t=(m:Int)) (b:2<=m/\m<=6) (h:Sh ts n (vE f t k)):k<=m:=by
 have h2:=h.rev
 rw [<- qv,mG] at h2
 exact Mo (EF a) ht c (by rw [yk]; exact em) b h2
structure Rel (ts us:List T3) (n n':Nat) (P:Nat->Prop) (φ:Nat->Nat):Prop where
 g:zT ts
 g':zT us
 lt:∀ i,P i->i < n
 lt':∀ i,P i->φ i < n'
 inj:∀ i j,P i->P j->φ i=φ j->i=j
 le:∀ i j,P i->P j->i≠j->Le (zh ts i j) (zh us (φ i) (φ j))
variable {P:Nat->Prop} {φ:Nat->Nat}
def Xa (R:Rel ts us n n' P φ):∀ L s a,s.length=L->(∀ i∈s,P i)->Sh ts n s->Sh us n' (s.map φ)->P a->Dn us n' (s.map φ) (φ a)->∃ r,(∀ i∈r,P i)/\r.length+1=s.length/\Eqv (zb ts) n (a :: r) s/\Eqv (zb us) n' ((a :: r).map φ) (s.map φ):=by
 intro L
 induction L using ID with
 | _ L ih =>
  intro s a hL X W T F hd
  cases s with
  | nil =>
   obtain ⟨r,_,_,z⟩:=hd
   simp at z
  | cons f s =>
   have g:P f:=X f aN
   have E:=R.lt f g
   have d:=R.lt a F
   have Z:∀ i∈s,P i:=λx M=>X x (aX _ M)
   by_cases c:f=a
   .subst c
    exact ⟨s,Z,rfl,A8 _,A8 _⟩
   .have Y:φ f≠φ a:=λz=>c (R.inj f a g F z)
    have U:=R.lt' f g
    have H:=R.lt' a F
    obtain ⟨cc,m,em,hm,hc,e1,e2,hl⟩:=BQ R.g' T Y U H (Dn.head T.1) hd
    have wk:∀ k,1<=k->k<=m->∃ x,(∀ i∈x,P i)/\k+x.length=(f :: s).length/\Eqv (zb ts) n (vE f a k++x) (f :: s)/\Eqv (zb us) n' ((vE f a k++x).map φ) ((f :: s).map φ):=by
     intro k
     induction k with
     | zero=>intro h; omega
     | succ k I =>
      intro _ hk
      by_cases k0:k=0
      .subst k0
       exact ⟨s,Z,by simp; omega,A8 _,A8 _⟩
      .obtain ⟨x,p,C,v,o⟩:=I (by omega) (by omega)
       have u:=o
       rw [bN,X7] at u
       have w:aj n' (x.map φ):=λi hi=>by
        obtain ⟨j,hj,rfl⟩:=aR.mp hi
        exact R.lt' j (p j hj)
       obtain ⟨y1,y2⟩:=C1 R.g' T (f:=φ f) (t:=φ a) (m:=m) (k:=k) U H (by omega) hc e1 hl w u (by rw [az,az]; exact C)
       have S:=X8 E d (n:=n) k
       have M:Sh ts n x:=by
        have:Sh ts n (vE f a k++x):=W.of (S.app λi hi=>R.lt i (p i hi)) v (by rw [aH,wD]; exact C)
        exact Sh.cut (a:=vE f a k) (b:=x) (c:=[]) (by simpa using this)
       have O:P (if k % 2=0 then f else a):=by split <;> assumption
       have G:Dn us n' (x.map φ) (φ (if k % 2=0 then f else a)):=by
        have e:φ (if k % 2=0 then f else a)=if k % 2=0 then φ f else φ a:=by split <;> rfl
        rw [e]; exact y2
       obtain ⟨r,r1,r2,r3,r4⟩:=ih x.length (by omega) x _ rfl p M y1 O G
       refine ⟨r,r1,by omega,?_,?_⟩
       .rw [VG,b9]
        exact ((A8 _).app r3).trans v
       .rw [VG,b9,bN]
        rw [bN] at o
        exact ((A8 _).app r4).trans o
    obtain ⟨x,p,C,v,o⟩:=wk m (by omega) (aM _)
    have J:aj n x:=λi hi=>R.lt i (p i hi)
    have Q:Sh ts n (vE f a m):=by
     have:Sh ts n (vE f a m++x):=W.of ((X8 E d m).app J) v (by rw [aH,wD]; exact C)
     exact Sh.cut (a:=[]) (b:=vE f a m) (c:=x) (by simpa using this)
    have A:=R.le f a g F c
    rw [em] at A
    have Af:zh ts f a≠0/\zh ts f a<=m:=by
     rcases A with z | z
     .omega
     .exact z
    have hgd:=w9 R.g (f:Int) (a:Int)
    obtain ⟨l,B⟩:∃ l:Nat,zh ts f a=(l:Int):=⟨(zh ts f a).toNat,by omega⟩
    have y:2<=l/\l<=6:=by omega
    have:=PL c E d B y Q
    have:l=m:=by omega
    subst this
    have b1:=Mj c E d B y
    have b2:=Mj Y U H em hm
    obtain ⟨k,rfl⟩:∃ k,l=k+1:=⟨l - 1,by omega⟩
    refine ⟨vE f a k++x,λi hi=>?_,?_,?_,?_⟩
    .rcases bE.mp hi with hi | hi
     .obtain ⟨q,_,rfl⟩:=aR.mp hi
      split <;> assumption
     .exact p i hi
    .rw [aH,wD]
     omega
    .have:=(b1.symm.app (A8 x)).trans v
     rw [VH a f] at this
     exact this
    .rw [bN,X7] at o
     have:=(b2.symm.app (A8 (x.map φ))).trans o
     rw [VH (φ a) (φ f)] at this
     rw [au,bN,X7]
     exact this
theorem xV (R:Rel ts us n n' P φ):∀ w,(∀ i∈w,P i)->Sh ts n w->Sh us n' (w.map φ)
 | [],f,h=>⟨(λi hi=>by cases hi),bO.nil⟩
 | a :: s,f,h=>by
  have g:Sh ts n s:=Sh.cut (a:=[a]) (b:=s) (c:=[]) (by simpa using h)
  have k:∀ i∈s,P i:=λx m=>f x (aX _ m)
  have j:=xV R s k g
  have d:P a:=f a aN
  have p:=R.lt a d
  apply Eh
  intro o
  obtain ⟨r,l,q,r3,_⟩:=Xa R s.length s a rfl k g j d (Gp R.g' j (R.lt' a d) o)
  have e:Eqv (zb ts) n r (a :: s):=by
   have e1:Eqv (zb ts) n ([a]++(a :: r)) ([a]++s):=(A8 [a]).app r3
   have e2:Eqv (zb ts) n ([a,a]++r) ([]++r):=(IQ (zJ ts) p).app (A8 r)
   exact e2.symm.trans e1
  have:=h.2.le (λi hi=>R.lt i (l i hi)) e
  simp only [ao] at this
  omega
end
section
variable {ts:List T3} {n:Nat}
def PRt (ts:List T3) (n:Nat) (S:List Nat) (r:List Gd):Prop:=cE r/\∃ w s,(∀ i∈w,i∈S)/\s∈S/\r=zO (zb ts) w (zL n s)
def PRt.root (a:∀ i∈S,i < n) (h:PRt ts n S r):PP ts n r:=by
 obtain ⟨_,w,s,b,c,rfl⟩:=h
 exact ⟨w,s,λi hi=>a i (b i hi),a s c,rfl⟩
theorem kb  [DecidableEq α]:∀ {l m:List α},l.Nodup->(∀ x∈l,x∈m)->l.length<=m.length
 | [],m,_,_=>dm _
 | x :: l,m,a,h=>by
  rw [hG] at a
  have c:x∈m:=h x aN
  have:=kb (l:=l) (m:=m.erase x) a.2 λy b=>by
   have d:y≠x:=λz=>a.1 (z ▸ b)
   exact (List.mem_erase_of_ne d).mpr (h y (aX _ b))
  rw [List.length_erase_of_mem c] at this
  have e:=List.length_pos_of_mem c
  rw [ao]
  omega
def NK (hu:aj n u) (hr:r.length=n) (hp:cE r) (h:∀ k,k < n->r.getD k (0,0)=(0,0)\/b7 (zO (zb ts) u (zL n k))):b7 (zO (zb ts) u r):=by
 have step:∀ m,m<=n->b7 (zO (zb ts) u (vL n m r)):=by
  intro m
  induction m with
  | zero =>
   intro _ k
   have e:∀ k,(vL n 0 r).getD k (0,0)=(0,0):=λk=>by
    by_cases hk:k < n
    .rw [vX r hk,if_neg (by omega)]
    .rw [aW,ir (by rw [zI]; omega)]; rfl
   rw [kY (ts:=ts) (by rw [zI]; exact hu) e k]
   exact .inl rfl
  | succ m ih =>
   intro hm k
   have hmn:m < n:=by omega
   have hl:(vL n m r).length=(bG (r.getD m (0,0)) (zL n m)).length:=by rw [zo,zc,zI]
   rw [j7 hmn r,qd _ _ hl (by rw [zI]; exact hu),wW _ _ _ (by rw [zc]; exact hu),xu (by rw [zu,zo,zu,zc,zI]),yi,Vd]
   refine Qo (ih (by omega) k) ?_
   rcases h m hmn with z | z
   .rw [z]
    have:yd (0,0) ((zO (zb ts) u (zL n m)).getD k (0,0))=(0,0):=by simp [yd]
    rw [this]
    exact .inl rfl
   .rw [<- Ds]
    exact YU (hp m) (z k)
 have:=step n (aM _)
 rwa [ZJ hr] at this
def Ho (hg:zT ts) (j:∀ i∈S,i < n) (g:Sh ts n v) (hd:∀ s∈S,b7 (zO (zb ts) v (zL n s))) {C:List (List Gd)} (y:C.Nodup) (h:∀ r∈C,PRt ts n S r):C.length<=v.length:=by
 have key:=kb (l:=C) (m:=(aw v.length).map (uz ts n v)) y λr q=>by
  have d:=h r q
  have rt:=d.root j
  obtain ⟨p,w,s,f,o,rfl⟩:=d
  have b:aj n w:=λi hi=>j i (f i hi)
  obtain ⟨a,x,e⟩:=WH hg g.1 rt p (NK g.1 (by rw [zu,zc]) p λk u=>by
   by_cases c:k∈S
   .exact .inr (hd k c)
   .left
    rw [Uk (by rw [zc]; exact b) (λz=>c (f k z)),yP u,if_neg (λz:k=s=>c (by rw [z]; exact o))])
  exact aR.mpr ⟨a,bT.mpr x,e⟩
 rw [az,fW] at key
 exact key
def Po (hg:zT ts) (a:Sh ts n v) (b:s < n) (h:¬ Sh ts n (v++[s])):b7 (zO (zb ts) v (zL n s)):=by
 rcases yR hg a.1 b a.2 with ⟨_,k⟩ | ⟨z,_⟩
 .exact absurd ⟨a.1.app (aj.one b),by rw [aH,bX]; exact k⟩ h
 .exact z
end
def qQ (k:Nat):List Bk:=(BL k).filter λB=>decide (B.1≠(0,0))
def Me:List (Nat×List T3):=[(2,[(0,1,0)]),(3,y9 [3,3]++[(0,2,3)]),(4,y9 [3,3,3]++[(0,3,3)]),(5,y9 [3,3,3,3]++[(0,4,3)]),(6,y9 [3,3,3,3,3]++[(0,5,3)]),(3,y9 [4,4]),(4,y9 [4,3,4]),(5,y9 [4,3,3,4]),(6,y9 [4,3,3,3,4]),(3,y9 [3,6]),(4,y9 [3,5,3]),(5,y9 [3,3,3,5]),(5,y9 [3,4,3,3]),
 (5,Jm 4),(6,y9 [3,3,3]++[(1,4,3),(2,5,3)]),(4,[(0,1,3),(0,2,3),(0,3,4)]),(5,y9 [3,3,4]++[(1,4,3)]),(6,y9 [3,3,3,4]++[(1,5,3)])]
def Tf:Nat->List (List Nat)
 | 1=>[[0]]
 | 2=>[[0,1,0],[0,1,0,1],[0,1,0,1,0],[0,1,0,1,0,1]]
 | 3=>[[0,1,0,2,1,0],[0,1,0,2,1,0,2,1,2],[0,1,0,2,1,0,2,1,0,2,1,0,2,1,2]]
 | 4=>[[0,1,0,2,1,0,3,2,1,0],[0,1,0,2,1,0,3,2,1,0,3,2,1,3,2,3],[0,1,0,2,1,0,3,1,0,2,1,3],[0,1,0,2,1,0,3,2,1,0,3,2,1,0,3,2,1,0,3,2,1,0,3,2,1,0,3,2,1,0,3,2,1,0,3,2,1,0,3,2,1,0,3,2,1,0,3,2,1,0,3,2,1,0,3,2,1,3,2,3],[0,1,0,2,1,0,2,1,2,3,2,1,0,2,1,2,3,2,1,0,2,1,2,3]]
 | 5=>[[0,1,0,2,1,0,3,2,1,0,4,3,2,1,0],[0,1,0,2,1,0,3,2,1,0,4,3,2,1,0,4,3,2,1,4,3,2,4,3,4],[0,1,0,2,1,0,3,2,1,0,4,2,1,0,3,2,1,4,2,3]]
 | 6=>[[0,1,0,2,1,0,3,2,1,0,4,3,2,1,0,5,4,3,2,1,0],[0,1,0,2,1,0,3,2,1,0,4,3,2,1,0,5,4,3,2,1,0,5,4,3,2,1,5,4,3,2,5,4,3,5,4,5],[0,1,0,2,1,0,3,2,1,0,4,3,2,1,0,5,3,2,1,0,4,3,2,1,5,3,2,4,3,5],[0,1,0,2,1,0,3,2,1,0,4,3,2,1,0,5,2,1,0,3,2,1,4,3,2,5,2,1,0,3,2,1,4,3,2,5]]
 | _=>[]
def zc2:List (Nat×Nat×Nat×Nat×Bool×Nat×List Nat):=[(1,0,0,3,true,0,[0,1]),(1,0,0,4,true,1,[0,1]),(1,0,0,5,true,2,[0,1]),(1,0,0,6,true,3,[0,1]),(2,0,0,3,true,0,[1,0,2]),(2,0,0,4,true,1,[1,0,2]),(2,0,0,5,true,2,[1,0,2]),(2,0,0,6,false,9,[1,0,2]),(2,0,1,3,true,0,[0,1,2]),(2,0,1,4,true,1,[0,1,2]),(2,0,1,5,true,2,[0,1,2]),(2,0,1,6,false,9,[0,1,2]),(2,1,0,3,true,1,[2,0,1]),(2,1,0,4,false,5,[1,0,2]),(2,1,0,5,false,5,[1,0,2]),(2,1,0,6,false,5,[1,0,2]),(2,1,1,3,true,1,[2,1,0]),(2,1,1,4,false,5,[0,1,2]),(2,1,1,5,false,5,[0,1,2]),(2,1,1,6,false,5,[0,1,2]),(2,2,0,3,true,2,[2,0,1]),(2,2,0,4,false,5,[1,0,2]),(2,2,0,5,false,5,[1,0,2]),(2,2,0,6,false,5,[1,0,2]),(2,2,1,3,true,2,[2,1,0]),(2,2,1,4,false,5,[0,1,2]),(2,2,1,5,false,5,[0,1,2]),(2,2,1,6,false,5,[0,1,2]),(2,3,0,3,false,9,[2,0,1]),(2,3,0,4,false,5,[1,0,2]),(2,3,0,5,false,5,[1,0,2]),(2,3,0,6,false,5,[1,0,2]),(2,3,1,3,false,9,[2,1,0]),(2,3,1,4,false,5,[0,1,2]),(2,3,1,5,false,5,[0,1,2]),(2,3,1,6,false,5,[0,1,2]),(3,0,0,3,true,0,[2,1,0,3]),(3,0,0,4,true,1,[2,1,0,3]),(3,0,0,5,true,3,[2,1,0,3]),(3,0,0,6,false,9,[1,0,3]),(3,0,1,3,true,2,[0,1,2,3]),(3,0,1,4,false,15,[1,0,2,3]),(3,0,1,5,false,15,[1,0,2,3]),(3,0,1,6,false,9,[0,1,3]),(3,0,2,3,true,0,[0,1,2,3]),(3,0,2,4,true,1,[0,1,2,3]),(3,0,2,5,true,3,[0,1,2,3]),(3,0,2,6,false,9,[1,2,3]),(3,1,0,3,true,1,[3,0,1,2]),(3,1,0,4,false,6,[2,1,0,3]),(3,1,0,5,false,6,[2,1,0,3]),(3,1,0,6,false,6,[2,1,0,3]),(3,1,1,3,false,15,[1,0,3,2]),(3,1,1,4,false,5,[2,1,3]),(3,1,1,5,false,5,[2,1,3]),(3,1,1,6,false,5,[2,1,3]),(3,1,2,3,true,4,[0,1,2,3]),(3,1,2,4,false,5,[1,2,3]),(3,1,2,5,false,5,[1,2,3]),(3,1,2,6,false,5,[1,2,3]),(3,2,0,3,true,3,[3,0,1,2]),(3,2,0,4,false,6,[2,1,0,3]),(3,2,0,5,false,6,[2,1,0,3]),(3,2,0,6,false,6,[2,1,0,3]),(3,2,1,3,false,15,[1,0,3,2]),(3,2,1,4,false,5,[2,1,3]),(3,2,1,5,false,5,[2,1,3]),(3,2,1,6,false,5,[2,1,3]),(3,2,2,3,false,10,[0,1,2,3]),(3,2,2,4,false,5,[1,2,3]),(3,2,2,5,false,5,[1,2,3]),(3,2,2,6,false,5,[1,2,3]),(4,0,0,3,true,0,[3,2,1,0,4]),(4,0,0,4,true,1,[3,2,1,0,4]),(4,0,0,5,false,11,[3,2,1,0,4]),(4,0,0,6,false,9,[1,0,4]),(4,0,1,3,true,2,[3,2,1,0,4]),(4,0,1,4,false,15,[1,0,2,4]),(4,0,1,5,false,15,[1,0,2,4]),(4,0,1,6,false,9,[0,1,4]),(4,0,2,3,true,2,[0,1,2,3,4]),(4,0,2,4,false,15,[2,1,3,4]),(4,0,2,5,false,15,[2,1,3,4]),(4,0,2,6,false,9,[1,2,4]),(4,0,3,3,true,0,[0,1,2,3,4]),(4,0,3,4,true,1,[0,1,2,3,4]),(4,0,3,5,false,11,[0,1,2,3,4]),(4,0,3,6,false,9,[2,3,4]),(4,1,0,3,true,1,[4,0,1,2,3]),(4,1,0,4,false,7,[3,2,1,0,4]),(4,1,0,5,false,7,[3,2,1,0,4]),(4,1,0,6,false,7,[3,2,1,0,4]),(4,1,1,3,false,16,[0,1,2,3,4]),(4,1,1,4,false,6,[3,2,1,4]),(4,1,1,5,false,6,[3,2,1,4]),(4,1,1,6,false,6,[3,2,1,4]),(4,1,2,3,false,15,[2,1,4,3]),(4,1,2,4,false,5,[3,2,4]),(4,1,2,5,false,5,[3,2,4]),(4,1,2,6,false,5,[3,2,4]),(4,1,3,3,false,12,[4,3,2,1,0]),(4,1,3,4,false,5,[2,3,4]),(4,1,3,5,false,5,[2,3,4]),(4,1,3,6,false,5,[2,3,4]),(4,2,0,3,true,2,[4,0,1,2,3]),(4,2,0,4,false,16,[2,1,0,4,3]),(4,2,0,5,false,16,[2,1,0,4,3]),(4,2,0,6,false,9,[1,0,4]),(4,2,1,3,false,13,[1,0,2,3,4]),(4,2,1,4,false,13,[1,0,2,3,4]),(4,2,1,5,false,13,[1,0,2,3,4]),(4,2,1,6,false,9,[0,1,4]),(4,2,2,3,true,2,[4,2,1,0,3]),(4,2,2,4,false,16,[0,1,2,4,3]),(4,2,2,5,false,16,[0,1,2,4,3]),(4,2,2,6,false,9,[1,2,4]),(4,2,3,3,true,2,[4,3,1,0,2]),(4,2,3,4,false,16,[0,1,3,4,2]),(4,2,3,5,false,16,[0,1,3,4,2]),(4,2,3,6,false,9,[1,3,4]),(4,3,0,3,false,11,[4,0,1,2,3]),(4,3,0,4,false,7,[3,2,1,0,4]),(4,3,0,5,false,7,[3,2,1,0,4]),(4,3,0,6,false,7,[3,2,1,0,4]),(4,3,1,3,false,16,[0,1,2,3,4]),(4,3,1,4,false,6,[3,2,1,4]),(4,3,1,5,false,6,[3,2,1,4]),(4,3,1,6,false,6,[3,2,1,4]),(4,3,2,3,false,15,[2,1,4,3]),(4,3,2,4,false,5,[3,2,4]),(4,3,2,5,false,5,[3,2,4]),(4,3,2,6,false,5,[3,2,4]),(4,3,3,3,false,10,[1,2,3,4]),(4,3,3,4,false,5,[2,3,4]),(4,3,3,5,false,5,[2,3,4]),(4,3,3,6,false,5,[2,3,4]),(4,4,0,3,false,12,[3,2,1,0,4]),(4,4,0,4,false,6,[2,1,0,4]),(4,4,0,5,false,6,[2,1,0,4]),(4,4,0,6,false,6,[2,1,0,4]),(4,4,1,3,false,15,[1,0,4,2]),(4,4,1,4,false,5,[2,1,4]),(4,4,1,5,false,5,[2,1,4]),(4,4,1,6,false,5,[2,1,4]),(4,4,2,3,false,15,[2,3,4,1]),(4,4,2,4,false,5,[1,2,4]),(4,4,2,5,false,5,[1,2,4]),(4,4,2,6,false,5,[1,2,4]),(4,4,3,3,false,12,[0,1,2,3,4]),(4,4,3,4,false,6,[1,2,3,4]),(4,4,3,5,false,6,[1,2,3,4]),(4,4,3,6,false,6,[1,2,3,4]),(5,0,0,3,true,0,[4,3,2,1,0,5]),(5,0,0,4,true,1,[4,3,2,1,0,5]),(5,0,0,5,false,11,[3,2,1,0,5]),(5,0,0,6,false,9,[1,0,5]),(5,0,1,3,true,2,[4,3,2,1,0,5]),(5,0,1,4,false,15,[1,0,2,5]),(5,0,1,5,false,11,[4,3,2,1,5]),(5,0,1,6,false,9,[0,1,5]),(5,0,2,3,true,3,[0,1,2,3,4,5]),(5,0,2,4,false,15,[2,1,3,5]),(5,0,2,5,false,15,[2,1,3,5]),(5,0,2,6,false,9,[1,2,5]),(5,0,3,3,true,2,[0,1,2,3,4,5]),(5,0,3,4,false,15,[3,2,4,5]),(5,0,3,5,false,11,[0,1,2,3,5]),(5,0,3,6,false,9,[2,3,5]),(5,0,4,3,true,0,[0,1,2,3,4,5]),(5,0,4,4,true,1,[0,1,2,3,4,5]),(5,0,4,5,false,11,[1,2,3,4,5]),(5,0,4,6,false,9,[3,4,5]),(5,1,0,3,true,1,[5,0,1,2,3,4]),(5,1,0,4,false,8,[4,3,2,1,0,5]),(5,1,0,5,false,8,[4,3,2,1,0,5]),(5,1,0,6,false,8,[4,3,2,1,0,5]),(5,1,1,3,false,17,[0,1,2,3,4,5]),(5,1,1,4,false,7,[4,3,2,1,5]),(5,1,1,5,false,7,[4,3,2,1,5]),(5,1,1,6,false,7,[4,3,2,1,5]),(5,1,2,3,false,16,[1,2,3,4,5]),(5,1,2,4,false,6,[4,3,2,5]),(5,1,2,5,false,6,[4,3,2,5]),(5,1,2,6,false,6,[4,3,2,5]),(5,1,3,3,false,15,[3,2,5,4]),(5,1,3,4,false,5,[4,3,5]),(5,1,3,5,false,5,[4,3,5]),(5,1,3,6,false,5,[4,3,5]),(5,1,4,3,false,12,[5,4,3,2,1]),(5,1,4,4,false,5,[3,4,5]),(5,1,4,5,false,5,[3,4,5]),(5,1,4,6,false,5,[3,4,5]),(5,2,0,3,true,2,[5,0,1,2,3,4]),(5,2,0,4,false,17,[3,2,1,0,5,4]),(5,2,0,5,false,11,[3,2,1,0,5]),(5,2,0,6,false,9,[1,0,5]),(5,2,1,3,false,14,[0,1,2,3,5,4]),(5,2,1,4,false,14,[0,1,2,3,5,4]),(5,2,1,5,false,14,[0,1,2,3,5,4]),(5,2,1,6,false,9,[0,1,5]),(5,2,2,3,false,13,[2,1,3,4,5]),(5,2,2,4,false,13,[2,1,3,4,5]),(5,2,2,5,false,13,[2,1,3,4,5]),(5,2,2,6,false,9,[1,2,5]),(5,2,3,3,true,3,[0,1,2,3,5,4]),(5,2,3,4,false,16,[1,2,3,5,4]),(5,2,3,5,false,11,[0,1,2,3,5]),(5,2,3,6,false,9,[2,3,5]),(5,2,4,3,true,3,[0,1,2,4,5,3]),(5,2,4,4,false,16,[1,2,4,5,3]),(5,2,4,5,false,11,[0,1,2,4,5]),(5,2,4,6,false,9,[2,4,5])]
def zc1:List (Nat×Nat×Nat×Nat×Nat×List Nat):=[(2,0,0,1,1,[0,1,2]),(2,1,0,1,1,[0,1,2]),(2,2,0,1,1,[0,1,2]),(2,3,0,1,1,[0,1,2]),(3,0,0,1,1,[0,1,3]),(3,0,0,2,2,[0,1,2,3]),(3,0,1,2,1,[1,2,3]),(3,1,0,1,1,[0,1,3]),(3,1,0,2,2,[0,1,2,3]),(3,1,1,2,1,[1,2,3]),(3,2,0,1,1,[0,1,3]),(3,2,0,2,2,[0,1,2,3]),(3,2,1,2,1,[1,2,3]),(4,0,0,1,1,[0,1,4]),(4,0,0,2,2,[0,1,2,4]),(4,0,1,2,1,[1,2,4]),(4,0,0,3,3,[0,1,2,3,4]),(4,0,1,3,2,[1,2,3,4]),(4,0,2,3,1,[2,3,4]),(4,1,0,1,1,[0,1,4]),(4,1,0,2,2,[0,1,2,4]),(4,1,1,2,1,[1,2,4]),(4,1,0,3,3,[0,1,2,3,4]),(4,1,1,3,2,[1,2,3,4]),(4,1,2,3,1,[2,3,4]),(4,2,0,1,1,[0,1,4]),(4,2,0,2,2,[0,1,2,4]),(4,2,1,2,1,[1,2,4]),(4,2,0,3,2,[0,1,3,4]),(4,2,1,3,1,[1,3,4]),(4,2,2,3,2,[1,2,4,3]),(4,3,0,1,1,[0,1,4]),(4,3,0,2,2,[0,1,2,4]),(4,3,1,2,1,[1,2,4]),(4,3,0,3,3,[0,1,2,3,4]),(4,3,1,3,2,[1,2,3,4]),(4,3,2,3,1,[2,3,4]),(4,4,0,1,1,[0,1,4]),(4,4,0,2,2,[0,1,2,4]),(4,4,1,2,1,[1,2,4]),(4,4,0,3,3,[0,1,2,3,4]),(4,4,1,3,2,[1,2,3,4]),(4,4,2,3,1,[2,3,4]),(5,0,0,1,1,[0,1,5]),(5,0,0,2,2,[0,1,2,5]),(5,0,1,2,1,[1,2,5]),(5,0,0,3,3,[0,1,2,3,5]),(5,0,1,3,2,[1,2,3,5]),(5,0,2,3,1,[2,3,5]),(5,0,0,4,4,[0,1,2,3,4,5]),(5,0,1,4,3,[1,2,3,4,5]),(5,0,2,4,2,[2,3,4,5]),(5,0,3,4,1,[3,4,5]),(5,1,0,1,1,[0,1,5]),(5,1,0,2,2,[0,1,2,5]),(5,1,1,2,1,[1,2,5]),(5,1,0,3,3,[0,1,2,3,5]),(5,1,1,3,2,[1,2,3,5]),(5,1,2,3,1,[2,3,5]),(5,1,0,4,4,[0,1,2,3,4,5]),(5,1,1,4,3,[1,2,3,4,5]),(5,1,2,4,2,[2,3,4,5]),(5,1,3,4,1,[3,4,5]),(5,2,0,1,1,[0,1,5]),(5,2,0,2,2,[0,1,2,5]),(5,2,1,2,1,[1,2,5]),(5,2,0,3,3,[0,1,2,3,5]),(5,2,1,3,2,[1,2,3,5]),(5,2,2,3,1,[2,3,5]),(5,2,0,4,3,[0,1,2,4,5]),(5,2,1,4,2,[1,2,4,5]),(5,2,2,4,1,[2,4,5]),(5,2,3,4,2,[2,3,5,4])]
def leB (a b:Int):Bool:=decide (b=0)||(decide (a≠0)&&decide (a<=b))
def SG (h:leB a b=true):Le a b:=by
 unfold leB at h
 rw [AE,cO,decide_eq_true_eq,decide_eq_true_eq,decide_eq_true_eq] at h
 exact h
def Le.trans (h:Le a b) (h':Le b c):Le a c:=by unfold Le at *; omega
def prB (m:Nat) (p:Nat->Nat->Bool):Bool:=(aw m).all λa=>(aw m).all λb=>decide (a=b)||p a b
def FI (h:prB m p=true) (e:a < m) (d:b < m) (c:a≠b):p a b=true:=by
 have:=bB.mp (bB.mp h a (bT.mpr e)) b (bT.mpr d)
 rw [AE] at this
 exact this.resolve_left (by simpa using c)
def T2 (m k:Nat) (q:List Nat):Bool:=decide (q.length=k)&&decide q.Nodup&&q.all λx=>decide (x < m)
def T8 (m:Nat) (T B:List T3) (q:List Nat):Bool:=T2 m m q&&prB m λa b=>decide (zh T (q.getD a 0:Nat) (q.getD b 0:Nat)=zh B a b)
def P0 (m:Nat) (T:List T3) (k:Nat) (B:List T3) (q:List Nat):Bool:=T2 m k q&&prB k λa b=>leB (zh B a b) (zh T (q.getD a 0:Nat) (q.getD b 0:Nat))
def zbj (k:Nat) (ts:List T3):Bool:=ts.all λu=>decide (0<=u.1)&&decide (u.1 < u.2.1)&&decide (u.2.1 < k)&&(decide (u.2.2=0)||(decide (3<=u.2.2)&&decide (u.2.2<=6)))
def Uc (i k:Nat) (l:Int):T3:=((i:Int),(k:Int),l)
def okP (k q i:Nat) (l:Int):Bool:=match (qQ k)[q]? with
  | none=>false
  | some B=>zc2.any λe=>decide (e.1=k)&&decide (e.2.1=q)&&decide (e.2.2.1=i)&&decide ((e.2.2.2.1:Int)=l) &&
    (if e.2.2.2.2.1 then (match (qQ (k+1))[e.2.2.2.2.2.1]? with | some a=>T8 (k+1) (B.2++[Uc i k l]) a.2 e.2.2.2.2.2.2 | none=>false)
     else (match Me[e.2.2.2.2.2.1]? with | some b=>P0 (k+1) (B.2++[Uc i k l]) b.1 b.2 e.2.2.2.2.2.2 | none=>false))
def okR (k q i j:Nat):Bool:=match (qQ k)[q]? with
 | none=>false
 | some B=>zc1.any λe=>decide (e.1=k)&&decide (e.2.1=q)&&decide (e.2.2.1=i)&&decide (e.2.2.2.1=j) &&
  (match Me[e.2.2.2.2.1]? with | some b=>P0 (k+1) (B.2++[Uc i k 3,Uc j k 3]) b.1 b.2 e.2.2.2.2.2 | none=>false)
def Np:([1,2,3,4,5].all λk=>(aw (qQ k).length).all λq=>(aw k).all λi=>[3,4,5,6].all λl=>okP k q i l)=true:=by decide +kernel
def Nm:([1,2,3,4,5].all λk=>(aw (qQ k).length).all λq=>(aw k).all λj=>(aw j).all λi=>okR k q i j)=true:=by decide +kernel
def F9 (B:Nat×List T3):List Nat:=(aF (60 / B.1+1) (aw B.1)).flatten
def S6:(Me.all λb=>zbj b.1 b.2&&decide (60 < (F9 b).length)&&(F9 b).all (λx=>decide (x < b.1))&&(uv b.2 b.1 [] (F9 b)).all id)=true:=by decide +kernel
def okF (k q:Nat):Bool:=match (qQ k)[q]?,(Tf k)[q]? with
 | some B,some w=>zbj k B.2&&w.all (λx=>decide (x < k))&&(uv B.2 k [] w).all id&&(aw k).all (λs => !(uv B.2 k [] (w++[s])).all id)&&decide (w.length<=60)
 | _,_=>false
def Td:([1,2,3,4,5,6].all λk=>(aw (qQ k).length).all λq=>okF k q)=true:=by decide +kernel
def Hl (h:zbj k ts=true):Wi k ts/\zT ts:=by
 have key:∀ u∈ts,0<=u.1/\u.1 < u.2.1/\u.2.1 < (k:Int)/\(u.2.2=0\/(3<=u.2.2/\u.2.2<=6)):=λu a=>by
  have:=bB.mp h u a
  simp only [cO,AE,decide_eq_true_eq] at this
  obtain ⟨⟨⟨h1,h2⟩,c⟩,b⟩:=this
  exact ⟨h1,h2,c,b⟩
 exact ⟨λu a=>⟨(key u a).1,(key u a).2.1,(key u a).2.2.1⟩,λu a=>(key u a).2.2.2⟩
structure FinD (k:Nat) (B:List T3) (w:List Nat):Prop where
 fit:Wi k B
 good:zT B
 inw:∀ i∈w,i < k
 sh:Sh B k w
 top:∀ s,s < k->¬ Sh B k (w++[s])
 len:w.length<=60
def jB {k q:Nat} (h1:1<=k) (l:k<=6) (g:(qQ k)[q]? = some B):∃ w,(Tf k)[q]? = some w/\FinD k B.2 w:=by
 have j:k∈[1,2,3,4,5,6]:=by
  have:k=1\/k=2\/k=3\/k=4\/k=5\/k=6:=by omega
  simpa using this
 have h:q < (qQ k).length:=(dw.mp g).1
 have:=bB.mp (bB.mp Td k j) q (bT.mpr h)
 unfold okF at this
 rw [g] at this
 cases hw:(Tf k)[q]? with
 | none=>rw [hw] at this; cases this
 | some w =>
  rw [hw] at this
  simp only [cO] at this
  obtain ⟨⟨⟨⟨f,a⟩,b⟩,c⟩,d⟩:=this
  obtain ⟨f1,f2⟩:=Hl f
  have inw:aj k w:=λi hi=>of_decide_eq_true (bB.mp a i hi)
  refine ⟨w,rfl,f1,f2,inw,(Zl f2 inw).mp b,λs e z=>?_,of_decide_eq_true d⟩
  have:=bB.mp c s (bT.mpr e)
  rw [(Zl f2 (inw.app (aj.one e))).mpr z] at this
  cases this
def Dk {b:Nat×List T3} (h:b∈Me):zT b.2/\Sh b.2 b.1 (F9 b)/\60 < (F9 b).length/\∀ i∈F9 b,i < b.1:=by
 have:=bB.mp S6 b h
 simp only [cO] at this
 obtain ⟨⟨⟨f,a⟩,c⟩,d⟩:=this
 obtain ⟨_,f2⟩:=Hl f
 have inw:aj b.1 (F9 b):=λi hi=>of_decide_eq_true (bB.mp c i hi)
 exact ⟨f2,(Zl f2 inw).mp d,of_decide_eq_true a,inw⟩
section
variable {us:List T3}
structure IsoT (B us:List T3) (u:List Nat):Prop where
 nd:u.Nodup
 eq:∀ a b:Nat,a < u.length->b < u.length->a≠b->zh us ((u.getD a 0:Nat):Int) ((u.getD b 0:Nat):Int)=zh B a b
structure EmbT (b:Nat×List T3) (us:List T3) (S u:List Nat):Prop where
 len:u.length=b.1
 nd:u.Nodup
 sub:∀ x∈u,x∈S
 le:∀ a c:Nat,a < b.1->c < b.1->a≠c->Le (zh b.2 a c) (zh us ((u.getD a 0:Nat):Int) ((u.getD c 0:Nat):Int))
def Fj (us:List T3) (v:List Nat):Prop:=∃ (q:Nat) (B:Bk) (u:List Nat),(qQ v.length)[q]? = some B/\u.Perm v/\IsoT B.2 us u
def BN (us:List T3) (v:List Nat):Prop:=∃ b∈Me,∃ u,EmbT b us v u
def yD {u:List Nat} (h:a < u.length):u.getD a 0∈u:=by rw [wY h]; exact nC h
def qe {u:List Nat} (g:u.Nodup) (f:a < u.length) (d:b < u.length) (e:u.getD a 0=u.getD b 0):a=b:=by
 rw [wY f,wY d] at e
 have h:=g4a.mp (iy.mp g)
 rcases Ls a b with c | c | c
 .exact absurd e (h a b f d c)
 .exact c
 .exact absurd e.symm (h b a d f c)
def Dw {q:List Nat} (d:q.Nodup) (e:q.length=m) (h:∀ x∈q,x < m) (b:x < m):x∈q:=by
 apply Eh
 intro c
 have:=kb (l:=x :: q) (m:=aw m) (hG.mpr ⟨c,d⟩) λy a=>by
  rcases aI.mp a with rfl | a
  .exact bT.mpr b
  .exact bT.mpr (h y a)
 rw [ao,fW] at this
 omega
def Le.self (a):Le a a:=by unfold Le; omega
def XA {n k:Nat} {B:List T3} {u:List Nat} (hg:zT us) (d:zT B) (f:u.length=k) (a:∀ x∈u,x < n) (I:IsoT B us u):Rel B us k n (· < k) (λi=>u.getD i 0) where
 g:=d
 g':=hg
 lt:=λ_ h=>h
 lt':=λi h=>a _ (yD (by omega))
 inj:=λi j hi b e=>qe I.nd (by omega) (by omega) e
 le:=λi j hi b c=>by rw [I.eq i j (by omega) (by omega) c]; exact Le.self _
def wX {u:List Nat} (h:x∈u):u.idxOf x < u.length/\u.getD (u.idxOf x) 0=x:=by
 have h1:=List.idxOf_lt_length_iff.mpr h
 exact ⟨h1,by rw [wY h1]; exact List.getElem_idxOf h1⟩
def Qf {n k:Nat} {B:List T3} {u:List Nat} (hg:zT us) (f:zT B) (d:u.length=k) (b:∀ x∈u,x < n) (I:IsoT B us u):Rel us B n k (· ∈ u) (λx=>u.idxOf x) where
 g:=hg
 g':=f
 lt:=b
 lt':=λi h=>by rw [<- d]; exact (wX h).1
 inj:=λi j hi a e=>by
  have:=(wX hi).2
  rw [show u.idxOf i=u.idxOf j from e,(wX a).2] at this
  exact this.symm
 le:=λi j hi a c=>by
  have:=I.eq (u.idxOf i) (u.idxOf j) (wX hi).1 (wX a).1 (λe=>c (by
   have:=(wX hi).2
   rw [e,(wX a).2] at this
   exact this.symm))
  rw [(wX hi).2,(wX a).2] at this
  rw [this]
  exact Le.self _
def Dy (hg:zT us) (F:FinD k B w) (b:u.length=k) (c:u.Perm S) (g:∀ x∈S,x < n) (I:IsoT B us u) :
  ∃ v,v.length=w.length/\Sh us n v/\(∀ i∈v,i∈S)/\∀ s∈S,b7 (zO (zb us) v (zL n s)):=by
 have d:∀ x∈u,x < n:=λx l=>g x (c.mem_iff.mp l)
 have sh:=xV (XA hg F.good b d I) w F.inw F.sh
 have sub:∀ i∈w.map (λi=>u.getD i 0),i∈u:=λi hi=>by
  obtain ⟨j,m,rfl⟩:=aR.mp hi
  exact yD (by rw [b]; exact F.inw j m)
 refine ⟨w.map λi=>u.getD i 0,az _,sh,λi hi=>c.mem_iff.mp (sub i hi),λs f=>?_⟩
 have a:=c.mem_iff.mpr f
 refine Po hg sh (g s f) λz=>?_
 have:=xV (Qf hg F.good b d I) _ (λi hi=>by
  rcases bE.mp hi with hi | hi
  .exact sub i hi
  .have e:i=s:=by simpa using hi
   rw [e]; exact a) z
 refine F.top (u.idxOf s) (by rw [<- b]; exact (wX a).1) ?_
 have e:(w.map (λi=>u.getD i 0)++[s]).map (λx=>u.idxOf x)=w++[u.idxOf s]:=by
  rw [bN,bM]
  congr 1
  have:w.map ((λx=>u.idxOf x) ∘ λi=>u.getD i 0)=w.map id:=fx λi hi=>by
   have h:i < u.length:=by rw [b]; exact F.inw i hi
   simp only [Ez]
   rw [wY h]
   exact List.Nodup.idxOf_getElem I.nd i h
  rw [this,LD]
 rw [e] at this
 exact this
def QF   {b:Nat×List T3} (hg:zT us) (d:b∈Me) (f:∀ x∈S,x < n) (E:EmbT b us S u):∃ v,60 < v.length/\Sh us n v/\∀ i∈v,i∈S:=by
 obtain ⟨g,sh,c,inw⟩:=Dk d
 have R:Rel b.2 us b.1 n (· < b.1) (λi=>u.getD i 0):=⟨g,hg,λ_ h=>h,λi h=>f _ (E.sub _ (yD (by rw [E.len]; exact h))),λi j hi a e=>qe E.nd (by rw [E.len]; exact hi) (by rw [E.len]; exact a) e,E.le⟩
 refine ⟨(F9 b).map λi=>u.getD i 0,by rw [az]; exact c,xV R _ inw sh,λi hi=>?_⟩
 obtain ⟨j,a,rfl⟩:=aR.mp hi
 exact E.sub _ (yD (by rw [E.len]; exact inw j a))
def Pa (hg:zT us) (F:FinD k B w) (m:u.length=k) (l:u.Perm S) (h:∀ x∈S,x < n) (I:IsoT B us u) (f:Sh us n v) (c:∀ i∈v,i∈S):v.length<=w.length:=by
 obtain ⟨z,s,q,p,d⟩:=Dy hg F m l h I
 have:=Ho hg h q d (C:=(aw v.length).map (uz us n v)) (by
  rw [iy,nE]
  exact List.pairwise_lt_range.imp_of_mem λ{a b} g o y=>WG hg f y (bT.mp o)) λr j=>by
  obtain ⟨a,g,rfl⟩:=aR.mp j
  have e:=bT.mp g
  refine ⟨Jw hg f e,_,_,λi hi=>c i ?_,c _ ?_,rfl⟩
  .rw [List.mem_reverse] at hi
   exact rO hi
  .exact yD e
 rw [az,fW,s] at this
 exact this
def CP (hg:zT us) (c:∀ x∈S,x < n) (h1:1<=S.length) (i:S.length<=6) (g:Fj us S) (hi:BN us S):False:=by
 obtain ⟨q,B,u,f,a,I⟩:=g
 obtain ⟨w,_,F⟩:=jB h1 i f
 obtain ⟨b,h,k,E⟩:=hi
 obtain ⟨v,j,e,d⟩:=QF hg h c E
 have:=Pa hg F a.length_eq a c I e d
 have:=F.len
 omega
def Xg {k:Nat} (b:∀ e∈E,e.2.1=(k:Int)) (c:x < k) (hz:z < k):zh (B++E) x z=zh B x z :=
 qH λe a hh=>by
  have h1:e.2.1=cA x z:=hh.2
  rw [b e a] at h1
  unfold cA at h1
  split at h1 <;> omega
def Xh (b:Wi k B) (c:x < k):zh (B++E) x k=zh E x k :=
 ue λe a hh=>by
  have h1:e.2.1=cA x k:=hh.2
  have:=(b e a).2.2
  unfold cA at h1
  split at h1 <;> omega
def qU (d:x < k) (l) (E:List T3):zh (Uc i k l :: E) x k=if i=x then l else zh E x k:=by
 have b:cy (x:Int) k=x:=by unfold cy; rw [if_neg (by omega)]
 have a:cA (x:Int) k=k:=by unfold cA; rw [if_pos (by omega)]
 show (if (i:Int)=cy x k/\(k:Int)=cA x k then l else zh E x k)=_
 rw [b,a]
 by_cases c:i=x
 .rw [if_pos c,if_pos ⟨by omega,rfl⟩]
 .rw [if_neg c,if_neg (λz=>c (by omega))]
def k7 (h:a < u.length):(u++[y]).getD a 0=u.getD a 0:=by
 rw [aW,aW,fE h]
def QM   : (u++[y]).getD u.length 0=y:=by
 rw [aW,fX (aM _)]
 simp
def Hq  {y:Nat} {p:Int->Int->Prop} (h1:∀ a b:Nat,a < u.length->b < u.length->a≠b->p (zh T a b) (zh us ((u.getD a 0:Nat):Int) ((u.getD b 0:Nat):Int))) (h2:∀ a:Nat,a < u.length->p (zh T a u.length) (zh us ((u.getD a 0:Nat):Int) (y:Int))) :
  ∀ a b:Nat,a < u.length+1->b < u.length+1->a≠b->p (zh T a b) (zh us (((u++[y]).getD a 0:Nat):Int) (((u++[y]).getD b 0:Nat):Int)):=λa b f e c=>by
 by_cases ca:a=u.length
 .subst ca
  rw [yk T,yk us,QM,k7 (by omega)]
  exact h2 b (by omega)
 .by_cases d:b=u.length
  .subst d
   rw [QM,k7 (by omega)]
   exact h2 a (by omega)
  .rw [k7 (by omega),k7 (by omega)]
   exact h1 a b (by omega) (by omega) c
def Kz (h:T2 m k q=true):q.length=k/\q.Nodup/\∀ x∈q,x < m:=by
 unfold T2 at h
 rw [cO,cO,decide_eq_true_eq,decide_eq_true_eq] at h
 exact ⟨h.1.1,h.1.2,λx a=>of_decide_eq_true (bB.mp h.2 x a)⟩
def k9 {q b:List Nat} (c:a < q.length):(q.map λx=>b.getD x 0).getD a 0=b.getD (q.getD a 0) 0:=by
 rw [aW,cP,dq c,wY c]
 rfl
def WV {q c:List Nat} (d:q.Nodup) (f:∀ x∈q,x < c.length) (g:c.Nodup):(q.map λx=>c.getD x 0).Nodup:=by
 rw [iy] at d ⊢
 rw [nE]
 exact d.imp_of_mem λ{a b} i h j e=>j (qe g (f a i) (f b h) e)
def Mf {d S q:List Nat} {b:Nat×List T3} (h:P0 d.length T b.1 b.2 q=true) (l:d.Nodup) (p:∀ x∈d,x∈S) (o:∀ a c:Nat,a < d.length->c < d.length->a≠c->Le (zh T a c) (zh us ((d.getD a 0:Nat):Int) ((d.getD c 0:Nat):Int))):EmbT b us S (q.map λx=>d.getD x 0):=by
 unfold P0 at h
 rw [cO] at h
 obtain ⟨j,g,f⟩:=Kz h.1
 refine ⟨by rw [az,j],WV g f l,λx k=>?_,λa c n m i=>?_⟩
 .obtain ⟨z,hz,rfl⟩:=aR.mp k
  exact p _ (yD (f z hz))
 .rw [k9 (by omega),k9 (by omega)]
  refine (SG (FI h.2 n m i)).trans (o _ _ (f _ (yD (by omega))) (f _ (yD (by omega))) λe=>i (qe g (by omega) (by omega) e))
def S2 (h:T8 b.length T B q=true) (k:b.Nodup) (n:∀ a c:Nat,a < b.length->c < b.length->a≠c->zh us ((b.getD a 0:Nat):Int) ((b.getD c 0:Nat):Int)=zh T a c):(q.map λx=>b.getD x 0).Perm b/\IsoT B us (q.map λx=>b.getD x 0):=by
 unfold T8 at h
 rw [cO] at h
 obtain ⟨m,i,d⟩:=Kz h.1
 have nd:=WV i d k
 constructor
 .refine (List.perm_ext_iff_of_nodup nd k).mpr λx=>⟨λj=>?_,λj=>?_⟩
  .obtain ⟨z,hz,rfl⟩:=aR.mp j
   exact yD (d z hz)
  .obtain ⟨h1,h2⟩:=wX j
   exact aR.mpr ⟨b.idxOf x,Dw i m d h1,h2⟩
 .refine ⟨nd,λa c g f l=>?_⟩
  rw [az] at g f
  rw [k9 g,k9 f]
  have:=of_decide_eq_true (FI h.2 (by omega:a < b.length) (by omega:c < b.length) l)
  rw [<- this]
  exact n _ _ (d _ (yD g)) (d _ (yD f)) λe=>l (qe i g f e)
set_option tactic.hygienic true in
def Sr {k q i:Nat} (h1:1<=k) (r:k<=5) (h:(qQ k)[q]? = some B) (hi:i < k) (p:3<=l/\l<=6) :
  (∃ (m:Nat) (c:Bk) (d:List Nat),(qQ (k+1))[m]? = some c/\T8 (k+1) (B.2++[Uc i k l]) c.2 d=true)\/∃ b∈Me,∃ d,P0 (k+1) (B.2++[Uc i k l]) b.1 b.2 d=true:=by
 have n:k∈[1,2,3,4,5]:=by
  have:k=1\/k=2\/k=3\/k=4\/k=5:=by omega
  simpa using this
 have f:l∈([3,4,5,6]:List Int):=by
  have:l=3\/l=4\/l=5\/l=6:=by omega
  simpa using this
 have j:q < (qQ k).length:=(dw.mp h).1
 have:=bB.mp (bB.mp (bB.mp (bB.mp Np k n) q (bT.mpr j)) i (bT.mpr hi)) l f
 unfold okP at this
 rw [h] at this
 obtain ⟨e,_,a⟩:=nD.mp this
 rw [cO] at a
 have a:=a.2
 split at a
 .split at a
  .rename_i c g
   exact .inl ⟨_,c,_,g,a⟩
  .cases a
 .split at a
  .rename_i b o
   exact .inr ⟨b,gN o,_,a⟩
  .cases a
def Sq {k q i j:Nat} (h1:1<=k) (n:k<=5) (c:(qQ k)[q]? = some B) (g:i < j) (l:j < k):∃ b∈Me,∃ d,P0 (k+1) (B.2++[Uc i k 3,Uc j k 3]) b.1 b.2 d=true:=by
 have h:k∈[1,2,3,4,5]:=by
  have:k=1\/k=2\/k=3\/k=4\/k=5:=by omega
  simpa using this
 have f:q < (qQ k).length:=(dw.mp c).1
 have:=bB.mp (bB.mp (bB.mp (bB.mp Nm k h) q (bT.mpr f)) j (bT.mpr l)) i (bT.mpr g)
 unfold okR at this
 rw [c] at this
 obtain ⟨e,_,a⟩:=nD.mp this
 rw [cO] at a
 have a:=a.2
 split at a
 .rename_i b m
  exact ⟨b,gN m,_,a⟩
 .cases a
def CJ (hg:zT us) {y:Nat} (h1:1<=v.length) (Z:v.length<=5) (nd:(v++[y]).Nodup) (U:∃ x∈v,zh us (x:Int) (y:Int)≠2) (ih:Fj us v\/BN us v):Fj us (v++[y])\/BN us (v++[y]):=by
 rcases ih with ⟨q,B,u,O,P,I⟩ | ⟨b,r,u,E⟩
 .have o:u.length=v.length:=P.length_eq
  obtain ⟨w,_,F⟩:=jB h1 (by omega) O
  have L:(u++[y]).Perm (v++[y]):=P.append_right [y]
  have G:(u++[y]).Nodup:=L.nodup_iff.mpr nd
  have H:∀ x∈u++[y],x∈v++[y]:=λx n=>L.mem_iff.mp n
  have C:(u++[y]).length=v.length+1:=by rw [aH,bX,o]
  have gd:∀ a:Nat,zh us ((u.getD a 0:Nat):Int) (y:Int)=0\/(2<=zh us ((u.getD a 0:Nat):Int) (y:Int)/\zh us ((u.getD a 0:Nat):Int) (y:Int)<=6):=λa=>w9 hg _ _
  obtain ⟨x,n,tU⟩:=U
  obtain ⟨i1,i2⟩:=wX (P.mem_iff.mpr n)
  by_cases S:∃ i,i < u.length/\zh us ((u.getD i 0:Nat):Int) (y:Int)=0
  .obtain ⟨i,hi,e0⟩:=S
   refine .inr ⟨(2,[(0,1,0)]),aN,[u.getD i 0,y],rfl,?_,λz hz=>?_,λa c f h m=>?_⟩
   .refine hG.mpr ⟨λz=>?_,by simp⟩
    have e:u.getD i 0=y:=by simpa using z
    have:=(oJ.mp G).2.2 _ (yD hi) y (by simp)
    exact this e
   .rcases aI.mp hz with rfl | hz
    .exact H _ (gq _ (yD hi))
    .have e:z=y:=by simpa using hz
     rw [e]; exact H y (by simp)
   .have A:(a=0/\c=1)\/(a=1/\c=0):=by
     have f:a < 2:=f
     have h:c < 2:=h
     omega
    rcases A with ⟨rfl,rfl⟩ | ⟨rfl,rfl⟩
    .exact .inl e0
    .exact .inl (by rw [yk]; exact e0)
  .by_cases R:∃ i j,i < j/\j < u.length/\zh us ((u.getD i 0:Nat):Int) (y:Int)≠2/\zh us ((u.getD j 0:Nat):Int) (y:Int)≠2
   .obtain ⟨i,j,ip,hj,li,lj⟩:=R
    obtain ⟨b,r,W,he⟩:=Sq h1 Z O ip (by omega)
    rw [<- C] at he
    refine .inr ⟨b,r,_,Mf he G H ?_⟩
    rw [C,<- o]
    refine Hq (p:=Le) (λa c f h m=>?_) λa f=>?_
    .rw [Xg (k:=u.length) (λe he=>by
      simp only [aI,List.not_mem_nil,or_false] at he
      rcases he with rfl | rfl <;> rfl) f h,I.eq a c f h m]
     exact Le.self _
    .have Q:Wi u.length B.2:=by rw [o]; exact F.fit
     have g:=gd a
     have X:¬ (zh us ((u.getD a 0:Nat):Int) (y:Int)=0):=λz=>S ⟨a,f,z⟩
     rw [Xh Q f,qU f,qU f]
     have t0:zh ([]:List T3) a u.length=2:=rfl
     rw [t0]
     unfold Le
     by_cases ci:i=a
     .subst ci
      rw [if_pos rfl]
      omega
     .rw [if_neg ci]
      by_cases cj:j=a
      .subst cj
       rw [if_pos rfl]
       omega
      .rw [if_neg cj]
       omega
   .have J:zh us ((u.getD (u.idxOf x) 0:Nat):Int) (y:Int)≠2:=by rw [i2]; exact tU
    generalize u.idxOf x=i at i1 J
    have g:=gd i
    have X:¬ (zh us ((u.getD i 0:Nat):Int) (y:Int)=0):=λz=>S ⟨i,i1,z⟩
    have M:∀ a,a < u.length->a≠i->zh us ((u.getD a 0:Nat):Int) (y:Int)=2:=λa f c=>by
     apply Eh
     intro z
     rcases Nat.lt_or_ge a i with d | d
     .exact R ⟨a,i,d,i1,z,J⟩
     .exact R ⟨i,a,by omega,f,J,z⟩
    generalize hl:zh us ((u.getD i 0:Nat):Int) (y:Int)=l at g X J
    have Y:∀ a c:Nat,a < (u++[y]).length->c < (u++[y]).length->a≠c->zh us (((u++[y]).getD a 0:Nat):Int) (((u++[y]).getD c 0:Nat):Int)=zh (B.2++[Uc i v.length l]) a c:=by
     rw [C,<- o]
     have:=Hq (us:=us) (u:=u) (y:=y) (T:=B.2++[Uc i u.length l]) (p:=λs t=>t=s) (λa c f h m=>by
      rw [Xg (k:=u.length) (λe he=>by
       have:e=Uc i u.length l:=by simpa using he
       subst this
       rfl) f h]
      exact I.eq a c f h m) λa f=>by
      have Q:Wi u.length B.2:=by rw [o]; exact F.fit
      rw [Xh Q f,qU f]
      by_cases c:i=a
      .subst c
       rw [if_pos rfl]
       exact hl
      .rw [if_neg c]
       exact M a f (EF c)
     exact this
    rcases Sr h1 Z O (i:=i) (l:=l) (by omega) (by omega) with ⟨q',B',W,ng,he⟩ | ⟨b,r,W,he⟩
    .rw [<- C] at he
     obtain ⟨p1,p2⟩:=S2 he G Y
     exact .inl ⟨q',B',_,by rw [aH,bX]; exact ng,p1.trans L,p2⟩
    .rw [<- C] at he
     refine .inr ⟨b,r,_,Mf he G H λa c f h m=>?_⟩
     rw [Y a c f h m]
     exact Le.self _
 .exact .inr ⟨b,r,u,E.len,E.nd,λx n=>gq _ (E.sub x n),E.le⟩
theorem Q3 (hg:zT us):∀ m v,v.length=m+1->m<=5->v.Nodup->(∀ i,0 < i->i < v.length->∃ j,j < i/\zh us ((v.getD j 0:Nat):Int) ((v.getD i 0:Nat):Int)≠2)->Fj us v\/BN us v
 | 0,v,f,_,nd,_=>by
  refine .inl ⟨0,((1,1),y9 []),v,?_,.refl _,nd,λa b n l o=>by omega⟩
  rw [f]
  rfl
 | m+1,v,f,hm,nd,c=>by
  have e:v=v.take (m+1)++[v.getD (m+1) 0]:=by
   have h:=oN (m+1) v
   rw [AL (by omega),g3r (by omega)] at h
   rw [wY (by omega)]
   exact h.symm
  have tl:(v.take (m+1)).length=m+1:=by rw [oI]; omega
  have tg:∀ i,i < m+1->(v.take (m+1)).getD i 0=v.getD i 0:=λi hi=>by
   rw [aW,aW,g4i hi]
  have g:=Q3 hg m (v.take (m+1)) tl (by omega) (nd.sublist (List.take_sublist _ _)) λi k hi=>by
   rw [tl] at hi
   obtain ⟨j,d,h⟩:=c i k (by omega)
   exact ⟨j,d,by rw [tg j (by omega),tg i hi]; exact h⟩
  obtain ⟨j,d,h⟩:=c (m+1) (by omega) (by omega)
  rw [e] at nd ⊢
  exact CJ hg (by omega) (by omega) nd ⟨v.getD j 0,by rw [<- tg j d]; exact yD (by omega),h⟩ g
end
section
variable {t:Int->Int->Int}
def Ch (t:Int->Int->Int):List Int->Prop
 | x :: y :: r=>t x y≠2/\(∀ z∈r,t x z=2)/\Ch t (y :: r)
 | _=>True
def Xc (a:l.Nodup) (b:y∈l):(y :: bh l y).Perm l:=by
 refine uh ?_ a λz=>?_
 .rw [hG]
  refine ⟨λz=>?_,a.filter _⟩
  unfold bh at z
  simpa using (df.mp z).2
 .rw [aI]
  unfold bh
  rw [df]
  constructor
  .rintro (rfl | z)
   .exact b
   .exact z.1
  .intro h
   by_cases c:z=y
   .exact .inl c
   .exact .inr ⟨h,decide_eq_true c⟩
def Gw   : y∈bo t x l↔y∈l/\y≠x/\t x y≠2:=by
 unfold bo
 rw [df,cO,decide_eq_true_eq,decide_eq_true_eq]
def F4 (h:bo t x l=[y]):y∈l/\y≠x/\t x y≠2/\∀ z∈l,z≠x->z≠y->t x z=2:=by
 have:=Gw.mp (show y∈bo t x l by rw [h]; exact aN)
 refine ⟨this.1,this.2.1,this.2.2,λz hz b a=>?_⟩
 apply Eh
 intro c
 have:z∈bo t x l:=Gw.mpr ⟨hz,b,c⟩
 rw [h] at this
 exact a (by simpa using this)
theorem Mi:∀ n x l o,l.Nodup->x∉l->l.length<=n->chG t n x l=some o->o.Perm l/\Ch t (x :: o)
 | 0,x,l,o,_,_,i,h=>by
  cases h
  rw [oP.mp (Nat.le_zero.mp i)]
  exact ⟨.refl _,trivial⟩
 | n+1,x,l,o,d,u,i,h=>by
  unfold chG at h
  split at h
  .rename_i e
   cases h
   rw [e]
   exact ⟨.refl _,trivial⟩
  .split at h
   .rename_i y e
    obtain ⟨o',v,rfl⟩:=iu.mp h
    obtain ⟨m,w,k,j⟩:=F4 e
    have b:=Xc d m
    have r:(bh l y).Nodup:=d.filter _
    have g:y∉bh l y:=(hG.mp (b.nodup_iff.mpr d)).1
    have s:=b.length_eq
    rw [ao] at s
    obtain ⟨p,c⟩:=Mi n y (bh l y) o' r g (by omega) v
    refine ⟨(p.cons y).trans b,k,λz hz=>?_,c⟩
    have f:=p.mem_iff.mp hz
    have a:z∈l:=jU f
    exact j z a (λq=>u (q ▸ a)) λq=>g (q ▸ f)
   .cases h
def Q4 (a:ms.Nodup) (h:o∈yM t ms):o.Perm ms/\Ch t o:=by
 obtain ⟨f,d,e⟩:=ly.mp h
 unfold vH at e
 obtain ⟨o',g,rfl⟩:=iu.mp e
 have b:=Xc a d
 obtain ⟨p,c⟩:=Mi ms.length f (bh ms f) o' (a.filter _) (hG.mp (b.nodup_iff.mpr a)).1 (rP _ _) g
 exact ⟨(p.cons f).trans b,c⟩
theorem Be:∀ {o:List Int},Ch t o->∀ a b,a < b->b < o.length->t (o.getD a 0) (o.getD b 0)=if b=a+1 then (wu t o).getD a 0 else 2
 | [],_,a,b,_,d=>by simp at d
 | [_],_,a,b,h,d=>by
  rw [bX] at d
  omega
 | x :: y :: r,⟨h1,h2,g⟩,a,b,i,d=>by
  have f:wu t (x :: y :: r)=t x y :: wu t (y :: r):=rfl
  cases b with
  | zero=>omega
  | succ b =>
   cases a with
   | zero =>
    rw [f]
    cases b with
    | zero=>rfl
    | succ b =>
     rw [if_neg (by omega)]
     have e:b < r.length:=by simp only [ao] at d; omega
     refine h2 _ ?_
     simp only [g4d]
     rw [aW,dq e]
     exact nC e
   | succ a =>
    have:=Be g a b (by omega) (by simp only [ao] at d ⊢; omega)
    rw [f]
    simp only [g4d]
    rw [this]
    by_cases c:b=a+1
    .rw [if_pos c,if_pos (by omega)]
    .rw [if_neg c,if_neg (by omega)]
end
def Zi (a:(ts.map λu=>(u.1,u.2.1)).Nodup) (he:e∈ts) (f:e.1 < e.2.1):zh ts e.1 e.2.1=e.2.2:=by
 have c:cy e.1 e.2.1=e.1:=by unfold cy; rw [if_neg (by omega)]
 have b:cA e.1 e.2.1=e.2.1:=by unfold cA; rw [if_pos (by omega)]
 induction ts with
 | nil=>cases he
 | cons u ts d =>
  rw [au,hG] at a
  unfold zh
  rw [c,b]
  rcases aI.mp he with rfl | he
  .rw [if_pos ⟨rfl,rfl⟩]
  .rw [if_neg (λz=>a.1 (aR.mpr ⟨e,he,by rw [z.1,z.2]⟩))]
   exact d a.2 he
def UJ   : e∈y9 row↔∃ k,k < row.length/\e=((k:Int),(k:Int)+1,row.getD k 0):=by
 unfold y9
 rw [aR]
 constructor
 .rintro ⟨p,c,rfl⟩
  obtain ⟨k,a,e⟩:=oM.mp c
  have b:k < row.length:=by simp at a; exact a
  refine ⟨k,b,?_⟩
  rw [<- e]
  simp [aW,b]
 .rintro ⟨k,a,rfl⟩
  refine ⟨(k,row.getD k 0),?_,rfl⟩
  refine oM.mpr ⟨k,by simpa using a,?_⟩
  simp [aW,a]
def TH (row):((y9 row).map λu=>(u.1,u.2.1)).Nodup:=by
 unfold y9
 rw [bM,iy,nE]
 have:(List.zip (aw row.length) row).Pairwise λp q=>p.1 < q.1:=by
  rw [g4a]
  intro i j hi b a
  simp
  exact a
 exact this.imp λ{p q} h e=>by
  have:=congrArg Lg e
  simp only [Ez] at this
  omega
def U3 (row:List Int) (m:a < b) (l:b < row.length+1):zh (y9 row) a b=if b=a+1 then row.getD a 0 else 2:=by
 by_cases c:b=a+1
 .subst c
  rw [if_pos rfl]
  have:=Zi (TH row) (e:=((a:Int),(a:Int)+1,row.getD a 0)) (UJ.mpr ⟨a,by omega,rfl⟩) (by show (a:Int) < a+1; omega)
  exact this
 .rw [if_neg c]
  refine qV λe g hh=>?_
  obtain ⟨k,j,rfl⟩:=UJ.mp g
  obtain ⟨z1,z2⟩:=hh
  have i:cy (a:Int) b=a:=by unfold cy; rw [if_neg (by omega)]
  have h:cA (a:Int) b=b:=by unfold cA; rw [if_pos (by omega)]
  have f:(k:Int)=cy (a:Int) b:=z1
  have d:(k:Int)+1=cA (a:Int) b:=z2
  omega
section
variable {us:List T3}
def uT (t) (o:List Int):(wu t o).length=o.length - 1:=by
 unfold wu
 rw [List.length_zipWith,LF]
 omega
def ka {o:List Int} (c:∀ x∈o,0<=x) (b:a < o.length):(((o.map Eu).getD a 0:Nat):Int)=o.getD a 0:=by
 rw [aW,cP,dq b,aW,dq b]
 have:=c o[a] (nC b)
 simp
 omega
def Gy {o:List Int} (d:∀ x∈o,0<=x) (c:o.Nodup):(o.map Eu).Nodup:=by
 rw [iy] at c ⊢
 rw [nE]
 exact c.imp_of_mem λ{a b} g f h e=>h (by
  have:=d a g
  have:=d b f
  omega)
def GU (e:u.Nodup) (h:∀ a b:Nat,a < b->b < u.length->zh us ((u.getD a 0:Nat):Int) ((u.getD b 0:Nat):Int)=zh B a b):IsoT B us u :=
 ⟨e,λa b g f c=>by
  rcases Nat.lt_or_ge a b with d | d
  .exact h a b d f
  .rw [yk us,yk B]
   exact h b a (by omega) g⟩
def S3 (d:∀ x∈o,0<=x) (f:o.Nodup) (h:o≠[]) (g:Ch (zh us) o):IsoT (y9 (wu (zh us) o)) us (o.map Eu) :=
 GU (Gy d f) λa b e c=>by
  rw [az] at c
  have i:1<=o.length:=rN.mpr h
  rw [ka d (by omega),ka d c,Be g a b e c,U3 _ e (by rw [uT]; omega)]
def NW (d:row.length<=5) (h:NX row≠(0,0)):∃ q:Nat,(qQ (row.length+1))[q]? = some (NX row,y9 row):=by
 unfold NX at h
 by_cases b:row=aF row.length 3
 .generalize c:row.length=n at b d
  subst b
  have:n=0\/n=1\/n=2\/n=3\/n=4\/n=5:=by omega
  rcases this with rfl | rfl | rfl | rfl | rfl | rfl <;> exact ⟨0,by decide +kernel⟩
 .rw [if_neg b] at h
  by_cases a:row=aF (row.length - 1) 3++[4]
  .generalize c:row.length=n at a d
   have h1:1<=n:=by
    rw [<- c,a]
    simp
   subst a
   have:n=1\/n=2\/n=3\/n=4\/n=5:=by omega
   rcases this with rfl | rfl | rfl | rfl | rfl <;> exact ⟨1,by decide +kernel⟩
  .rw [if_neg a] at h
   by_cases j:row=[3,4,3]
   .subst j; exact ⟨4,by decide +kernel⟩
   .rw [if_neg j] at h
    by_cases i:row=[3,5]
    .subst i; exact ⟨2,by decide +kernel⟩
    .rw [if_neg i] at h
     by_cases g:row=[3,3,5]
     .subst g; exact ⟨3,by decide +kernel⟩
     .rw [if_neg g] at h
      by_cases f:row=[5]
      .subst f; exact ⟨2,by decide +kernel⟩
      .rw [if_neg f] at h
       by_cases e:row=[6]
       .subst e; exact ⟨3,by decide +kernel⟩
       .rw [if_neg e] at h
        exact absurd rfl h
def NU (k:∀ x∈ms,0<=x) (d:ms.Nodup) (l:ms.length<=6) (g:c∈BJ (zh us) ms) (hz:c≠(0,0)):Fj us (ms.map Eu):=by
 unfold BJ at g
 obtain ⟨o,b,rfl⟩:=aR.mp g
 obtain ⟨p,ch⟩:=Q4 d b
 have j:=p.length_eq
 have h:o≠[]:=by
  obtain ⟨f,m,e⟩:=ly.mp b
  unfold vH at e
  obtain ⟨o',_,rfl⟩:=iu.mp e
  simp
 have n:1<=o.length:=rN.mpr h
 obtain ⟨q,a⟩:=NW (row:=wu (zh us) o) (by rw [uT]; omega) hz
 rw [uT,show o.length - 1+1=ms.length by omega] at a
 exact ⟨q,_,o.map Eu,by rw [az]; exact a,p.map _,S3 (λx i=>k x (p.mem_iff.mp i)) (p.nodup_iff.mpr d) h ch⟩
end
section
variable {us:List T3}
theorem TJ  : ∀ {o:List Int},Ch t o->∀ a,a+1 < o.length->t (o.getD a 0) (o.getD (a+1) 0)≠2
 | [],_,a,h=>by simp at h
 | [_],_,a,h=>by
  rw [bX] at h
  omega
 | x :: y :: r,⟨h1,_,b⟩,0,_=>h1
 | x :: y :: r,⟨_,_,b⟩,a+1,h=>by
  have:=TJ b a (by simp only [ao] at h ⊢; omega)
  simpa only [g4d] using this
def RI (h:a < m):(r3 m).getD a 0=3:=by
 unfold r3
 rw [aW,nI,if_pos h]
 rfl
def QD (h:∀ x∈o++[e],0<=x) (m:(o++[e]).Nodup) (h2:2<=o.length) (y:p < o.length) (s:∀ a b:Nat,a < b->b < o.length->zh us (o.getD a 0) (o.getD b 0)=if b=a+1 then 3 else 2) (r:∀ a:Nat,a < o.length->zh us (o.getD a 0) e=if p=a then 3 else 2) :
  IsoT (y9 (r3 (o.length - 1))++[Uc p o.length 3]) us ((o++[e]).map Eu) :=
 GU (Gy h m) λa b j v=>by
  rw [az,aH,bX] at v
  have i:(r3 (o.length - 1)).length=o.length - 1:=by simp [r3]
  have f:∀ a,a < o.length->(o++[e]).getD a 0=o.getD a 0:=λa w=>by
   rw [aW,aW,fE w]
  rw [ka h (by rw [aH,bX]; omega),ka h (by rw [aH,bX]; omega),f a (by omega)]
  by_cases c:b=o.length
  .subst c
   have l:(o++[e]).getD o.length 0=e:=by
    rw [aW,fX (aM _)]
    simp
   have q:Wi o.length (y9 (r3 (o.length - 1))):=λu g=>by
    obtain ⟨k,n,rfl⟩:=UJ.mp g
    rw [i] at n
    refine ⟨?_,?_,?_⟩
    .show (0:Int)<=k; omega
    .show (k:Int) < k+1; omega
    .show (k:Int)+1 < o.length; omega
   rw [l,r a (by omega),Xh q (by omega),qU (by omega)]
   rfl
  .rw [f b (by omega),s a b j (by omega),Xg (k:=o.length) (λu g=>by
    have:u=Uc p o.length 3:=by simpa using g
    subst this
    rfl) (by omega) (by omega),U3 _ j (by rw [i]; omega)]
   by_cases d:b=a+1
   .rw [if_pos d,if_pos d,RI (by omega)]
   .rw [if_neg d,if_neg d]
def VZ {o:List Int} (h:a < o.length):o.reverse.getD a 0=o.getD (o.length - 1 - a) 0:=by
 rw [aW,aW,List.getElem?_reverse h]
set_option tactic.hygienic true in
def NP (Y:∀ x∈ms,0<=x) (u:ms.Nodup) (Z:ms.length<=6) (E:∀ x∈ms,∀ y∈ms,x≠y->zh us x y=2\/zh us x y=3) (n:c∈C8 (zh us) ms) (hz:c≠(0,0)):Fj us (ms.map Eu):=by
 unfold C8 at n
 obtain ⟨e,C,n⟩:=nB.mp n
 split at n
 .rename_i y T
  obtain ⟨o,W,rfl⟩:=aR.mp n
  obtain ⟨R,Q,P,O⟩:=F4 T
  obtain ⟨p,ch⟩:=Q4 (u.filter _) W
  have S:=Xc u C
  have m:(o++[e]).Perm ms:=(List.perm_append_singleton e o).trans ((p.cons e).trans S)
  have nd:=m.nodup_iff.mpr u
  have F:∀ x∈o++[e],0<=x:=λx g=>Y x (m.mem_iff.mp g)
  have i:=m.length_eq
  rw [aH,bX] at i
  have r:∀ a,a < o.length->o.getD a 0∈o:=λa f=>by
   rw [aW,dq f]
   exact nC f
  have l:∀ x∈o,x∈ms:=λx g=>m.mem_iff.mp (gq _ g)
  have one:∀ x∈o,x≠e:=λx g=>(oJ.mp nd).2.2 x g e (by simp)
  have s:o.Nodup:=(oJ.mp nd).1
  have w:∀ a b,a < o.length->b < o.length->o.getD a 0=o.getD b 0->a=b:=λa b f j z=>by
   rw [aW,dq f,aW,dq j] at z
   have z:o[a]=o[b]:=z
   have h:=g4a.mp (iy.mp s)
   rcases Ls a b with d | d | d
   .exact absurd z (h a b f j d)
   .exact d
   .exact absurd z.symm (h b a j f d)
  have M:∀ a b:Nat,a < b->b < o.length->zh us (o.getD a 0) (o.getD b 0)=if b=a+1 then 3 else 2:=λa b L j=>by
   by_cases d:b=a+1
   .subst d
    rw [if_pos rfl]
    rcases E _ (l _ (r a (by omega))) _ (l _ (r (a+1) j)) (λz=>by have:=w a (a+1) (by omega) j z; omega) with z | z
    .exact absurd z (TJ ch a j)
    .exact z
   .rw [if_neg d]
    have:=Be ch a b L j
    rw [if_neg d] at this
    exact this
  have eP:∀ k a,o[k]? = some y->a < o.length->zh us (o.getD a 0) e=if k=a then 3 else 2:=λk a A f=>by
   obtain ⟨v,ek⟩:=dw.mp A
   have G:o.getD k 0=y:=by rw [aW,A]; rfl
   rw [yk]
   by_cases d:k=a
   .subst d
    rw [if_pos rfl,G]
    rcases E e C y R (EF Q) with z | z
    .exact absurd z P
    .exact z
   .rw [if_neg d]
    exact O _ (l _ (r a f)) (one _ (r a f)) λz=>d (w k a v f (by rw [G,z]))
  unfold jm at hz
  by_cases J:4<=o.length+1/\o[1]? = some y
  .have I:=QD (us:=us) (o:=o.reverse) (e:=e) (p:=o.length - 2) (λx g=>F x (by
    rcases bE.mp g with g | g
    .exact gq _ (List.mem_reverse.mp g)
    .exact eh _ g)) ((List.Perm.append_right [e] (List.reverse_perm o)).nodup_iff.mpr nd) (by rw [lA]; omega) (by rw [lA]; omega) (λa b L j=>by
    rw [lA] at j
    rw [VZ (by omega),VZ j,yk,M _ _ (by omega) (by omega)]
    by_cases d:b=a+1
    .rw [if_pos (by omega),if_pos d]
    .rw [if_neg (by omega),if_neg d]) λa f=>by
    rw [lA] at f
    rw [VZ f,eP 1 _ J.2 (by omega)]
    by_cases d:o.length - 2=a
    .rw [if_pos (by omega),if_pos d]
    .rw [if_neg (by omega),if_neg d]
   rw [lA] at I
   have X:∃ (q:Nat) (B:Kd),(qQ (o.length+1))[q]? = some (B,y9 (r3 (o.length - 1))++[Uc (o.length - 2) o.length 3]):=by
    have:o.length=3\/o.length=4\/o.length=5:=by omega
    rcases this with z | z | z <;> rw [z]
    .exact ⟨2,(4,4),by decide +kernel⟩
    .exact ⟨2,(4,5),by decide +kernel⟩
    .exact ⟨2,(4,6),by decide +kernel⟩
   obtain ⟨q,B,U⟩:=X
   exact ⟨q,_,_,by rw [az,<- i]; exact U,((List.Perm.append_right [e] (List.reverse_perm o)).trans m).map _,I⟩
  .rw [if_neg J] at hz
   by_cases H:o.length+1=6/\o[2]? = some y
   .have I:=QD (us:=us) (o:=o) (e:=e) (p:=2) F nd (by omega) (by omega) M (λa f=>eP 2 a H.2 f)
    have z:o.length=5:=by omega
    rw [z] at I
    exact ⟨3,((5,6),_),_,by rw [az,<- i,z]; decide +kernel,m.map _,I⟩
   .rw [if_neg H] at hz
    exact absurd rfl hz
 .cases n
theorem Xi:∀ {us:List T3} {i j:Int},zh us i j≠2->∃ u∈us,u.1=cy i j/\u.2.2=zh us i j
 | [],i,j,h=>absurd rfl h
 | u :: us,i,j,h=>by
  unfold zh at h ⊢
  by_cases c:u.1=cy i j/\u.2.1=cA i j
  .rw [if_pos c]
   exact ⟨u,aN,c.1,rfl⟩
  .rw [if_neg c] at h ⊢
   obtain ⟨v,a,e⟩:=Xi h
   exact ⟨v,aX _ a,e⟩
def zb4 (h:YK us ms=true):∀ x∈ms,∀ y∈ms,x≠y->zh us x y=2\/zh us x y=3:=λx d y b _=>by
 by_cases c:zh us x y=2
 .exact .inl c
 .obtain ⟨u,a,e1,e2⟩:=Xi c
  right
  unfold YK at h
  have:=bB.mp h u (df.mpr ⟨a,decide_eq_true (by
   rw [e1]
   rcases Sz x y with z | z <;> rw [z] <;> assumption)⟩)
  rw [<- e2]
  exact of_decide_eq_true this
def Dj {n:Nat} (hg:zT us) {ms:List Int} (g:∀ x∈ms,0<=x/\x < n) (f:ms.Nodup) (h1:1<=ms.length) (e:ms.length<=6) (hi:BN us (ms.map Eu)) (a:c∈vM (zh us) (YK us ms) ms):c=(0,0):=by
 apply Eh
 intro hz
 have i:∀ x∈ms.map Eu,x < n:=λx d=>by
  obtain ⟨y,h,rfl⟩:=aR.mp d
  have:=g y h
  omega
 have b:∀ x∈ms,0<=x:=λx d=>(g x d).1
 refine CP hg i (by rw [az]; exact h1) (by rw [az]; exact e) ?_ hi
 unfold vM at a
 rcases bE.mp a with a | a
 .exact NU b f e a hz
 .split at a
  .rename_i ht
   exact NP b f e (zb4 ht) a hz
  .cases a
def Te:([1,2,3,4,5,6].all λk=>(qQ k).all λB=>decide ((B.2.map λu=>(u.1,u.2.1)).Nodup))=true:=by decide +kernel
def DB {n k q:Nat} (hg:zT us) (eX:(us.map λu=>(u.1,u.2.1)).Nodup) (L:Wi n us) {ms:List Int} (J:∀ x∈ms,0<=x/\x < n) (eJ:∀ x∈ms,∀ y:Int,0<=y->y < n->y∉ms->zh us x y=2) (h1:1<=k) (Y:k<=6) (E:(qQ k)[q]? = some B) (T:u.length=k) (G:u.Perm (ms.map Eu)) (I:IsoT B.2 us u) :
  (∀ c∈vM (zh us) (YK us ms) ms,c=(0,0)\/c=B.1)/\(B.1=(0,0)\/B.1∈vM (zh us) (YK us ms) ms):=by
 obtain ⟨w,_,F⟩:=jB h1 Y E
 have U:k∈[1,2,3,4,5,6]:=by
  have:k=1\/k=2\/k=3\/k=4\/k=5\/k=6:=by omega
  simpa using this
 have H:B∈qQ k:=gN E
 have s:B∈BL k:=(df.mp H).1
 have A:(B.2.map λu=>(u.1,u.2.1)).Nodup:=of_decide_eq_true (bB.mp (bB.mp Te k U) B H)
 have mem:∀ a,a < k->((u.getD a 0:Nat):Int)∈ms:=λa ha=>by
  obtain ⟨x,g,e⟩:=aR.mp (G.mem_iff.mp (yD (u:=u) (a:=a) (by omega)))
  have:=(J x g).1
  rw [<- e,show ((x.toNat:Nat):Int)=x by omega]
  exact g
 have C:∀ (ts:List T3) (m:Nat),Wi m ts->∀ x:Int,zh ts x x=2:=λts m W x=>qV λe d hh=>by
  have h2:=(W e d).2.1
  obtain ⟨z1,z2⟩:=hh
  have z1:e.1=cy x x:=z1
  have z2:e.2.1=cA x x:=z2
  unfold cy at z1
  unfold cA at z2
  simp at z1 z2
  omega
 have R:Rlb (zh B.2) (zh us) (λi=>((u.getD i.toNat 0:Nat):Int)) (idx k):=⟨λi hi j f=>by
  rw [wV] at hi f
  by_cases c:i=j
  .subst c
   rw [C us n L,C B.2 k F.fit]
  .have:=I.eq i.toNat j.toNat (by omega) (by omega) (by omega)
   rw [show ((i.toNat:Nat):Int)=i by omega,show ((j.toNat:Nat):Int)=j by omega] at this
   exact this,λi hi j f e=>by
  rw [wV] at hi f
  have:=qe I.nd (a:=i.toNat) (b:=j.toNat) (by omega) (by omega) (by omega)
  omega⟩
 have pm:ms.Perm ((idx k).map λi=>((u.getD i.toNat 0:Nat):Int)):=by
  have e1:(idx k).map (λi=>((u.getD i.toNat 0:Nat):Int))=u.map λ(x:Nat)=>(x:Int):=by
   unfold idx
   rw [bM,<- T]
   apply List.ext_getElem
   .simp
   .intro i a b
    simp at a
    simp [aW,a]
  have e2:ms=(ms.map Eu).map λ(x:Nat)=>(x:Int):=by
   rw [bM]
   have:ms.map ((λ(x:Nat)=>(x:Int)) ∘ Eu)=ms.map id:=fx λx g=>by
    have:=(J x g).1
    simp only [Ez,id]
    omega
   rw [this,LD]
  rw [e1,e2]
  exact (G.map _).symm
 have p:YK us ms=Fo B.2:=by
  rw [Bool.eq_iff_iff]
  constructor
  .intro h
   unfold Fo
   rw [bB]
   intro e d
   obtain ⟨f1,f2,o⟩:=F.fit e d
   have ts:=Zi A d f2
   have eq:=R.tt e.1 (wV.mpr ⟨f1,by omega⟩) e.2.1 (wV.mpr ⟨by omega,o⟩)
   have O:=mem e.1.toNat (by omega)
   have M:=mem e.2.1.toNat (by omega)
   have Z:=F.good e d
   have:=zb4 h _ O _ M (λz=>by
    have:=R.inj e.1 (wV.mpr ⟨f1,by omega⟩) e.2.1 (wV.mpr ⟨by omega,o⟩) z
    omega)
   rw [eq,ts] at this
   exact decide_eq_true (by omega)
  .intro h
   unfold YK
   rw [bB]
   intro e d
   obtain ⟨d,l⟩:=df.mp d
   have l:=of_decide_eq_true l
   obtain ⟨f1,f2,o⟩:=L e d
   have ts:=Zi eX d f2
   have Z:=hg e d
   have P:e.2.1∈ms:=Eh λz=>by
    have:=eJ e.1 l e.2.1 (by omega) o z
    omega
   obtain ⟨i,hi,ei⟩:=aR.mp (pm.mem_iff.mp l)
   obtain ⟨j,f,ej⟩:=aR.mp (pm.mem_iff.mp P)
   have eq:=R.tt i hi j f
   rw [ei,ej,ts] at eq
   obtain ⟨v,S,_,v2⟩:=Xi (us:=B.2) (i:=i) (j:=j) (by omega)
   unfold Fo at h
   have:=of_decide_eq_true (bB.mp h v S)
   exact decide_eq_true (by omega)
 rw [p]
 obtain ⟨k1,k2⟩:=CO s
 have r:=λc=>Da R (λy Q=>Q) pm (b:=Fo B.2) (k:=c)
 exact ⟨λc X=>k1 c ((r c).mp X),k2.imp id λz=>(r _).mpr z⟩
end
section
variable {t:Int->Int->Int} {n:Nat}
def Adj (t:Int->Int->Int) (v:List Int):Prop:=∀ i:Nat,0 < i->i < v.length->∃ j:Nat,j < i/\t (v.getD j 0) (v.getD i 0)≠2
def jq {a b:List Int} (h:i < a.length):(a++b).getD i 0=a.getD i 0:=by
 rw [aW,fE h,aW]
theorem Bt (t):∀ k part left p,Adj t part->Adj t (Yx t k part left p)
 | 0,part,left,p,h=>h
 | k+1,part,left,p,h=>by
  unfold Yx
  cases e:part[p]? with
  | none=>exact h
  | some x =>
   have b:p < part.length:=(dw.mp e).1
   refine Bt t k _ _ _ λi d hi=>?_
   by_cases c:i < part.length
   .obtain ⟨j,h1,h2⟩:=h i d c
    exact ⟨j,h1,by rw [jq c,jq (by omega)]; exact h2⟩
   .refine ⟨p,by omega,?_⟩
    rw [jq b,aW,e,mF]
    rw [aH] at hi
    have a:(part++bo t x left).getD i 0∈bo t x left:=by
     rw [aW,fX (by omega),dq (by omega),mF]
     exact nC _
    exact (Gw.mp a).2.2
def V7  {S:List Int} (d:x∈idx n) (a:x∈S) (e:∀ x∈S,∀ y∈idx n,y∉S->t x y=2) :
  x∈xQ t n x/\(xQ t n x).Nodup/\(∀ y∈xQ t n x,y∈S)/\∀ y∈xQ t n x,∀ z∈idx n,z∉xQ t n x->t y z=2:=by
 have b:([x]++bh (idx n) x).Perm (idx n):=Xc (vY n) d
 obtain ⟨a1,a2,a3,a4⟩:=Q8 (vY n) e n [x] (bh (idx n) x) 0 b (λy c=>by simp at c; exact c ▸ a) (λq f=>by omega) (by simp [idx])
 exact ⟨a1 x aN,a2,a3,a4⟩
def XF (a:x∈idx n):x∈xQ t n x/\(xQ t n x).Nodup/\(∀ y∈xQ t n x,y∈idx n)/\∀ y∈xQ t n x,∀ z∈idx n,z∉xQ t n x->t y z=2 :=
 V7 a a λ_ _ y c b=>absurd c b
def Qj (t) (n:Nat) (x:Int):Adj t (xQ t n x):=Bt t n [x] _ 0 λi a hi=>by
 rw [bX] at hi
 omega
theorem Q9 (t):∀ k part left p,part≠[]->(Yx t k part left p).getD 0 0=part.getD 0 0
 | 0,part,left,p,h=>rfl
 | k+1,part,left,p,h=>by
  unfold Yx
  split
  .rfl
  .rw [Q9 t k _ _ _ (by simp [h]),jq (rN.mpr h)]
def Gg (ht:∀ i j,t i j=t j i) (h:x∈idx n) (b:y∈xQ t n x):(xQ t n y).Perm (xQ t n x):=by
 obtain ⟨w,p,g,o⟩:=XF (t:=t) h
 have a:=g y b
 obtain ⟨m,l,k,f⟩:=V7 (t:=t) (S:=xQ t n x) a b o
 refine uh l p λz=>⟨k z,λhz=>?_⟩
 have q:x∈xQ t n y:=Eh λs=>by
  have all:∀ i,i < (xQ t n x).length->(xQ t n x).getD i 0∉xQ t n y:=by
   intro i
   induction i using ID with
   | ind i r =>
    intro hi
    by_cases c:i=0
    .subst c
     unfold xQ
     rw [Q9 t n [x] _ 0 (by simp)]
     exact s
    .obtain ⟨j,h1,h2⟩:=Qj t n x i (by omega) hi
     intro u
     have v:=r j h1 (by omega)
     have d:(xQ t n x).getD j 0∈idx n:=g _ (by rw [aW,dq (by omega),mF]; exact nC _)
     exact h2 (by rw [ht]; exact f _ u _ d v)
  obtain ⟨i,hi,e⟩:=oM.mp b
  refine all i hi ?_
  rw [aW,dq hi,mF,e]
  exact m
 exact (V7 (t:=t) (S:=xQ t n y) h q f).2.2.1 z hz
end
section
variable {ts:List T3} {n:Nat}
abbrev SP (n:Nat) (ts:List T3) (x:Int):List Int:=FL.sortI (xQ (zh ts) n x)
def jW (x):(SP n ts x).Perm (xQ (zh ts) n x):=FL.sortI_perm _
def Zk (ht:∀ i j,zh ts i j=zh ts j i) (b:x∈idx n) (a:y∈SP n ts x):SP n ts y=SP n ts x :=
 FL.perm_eq ((jW y).trans ((Gg ht b ((jW x).mem_iff.mp a)).trans (jW x).symm)) (FL.sortI_sorted _) (FL.sortI_sorted _)
def xT (d:x∈idx n):x∈SP n ts x/\(SP n ts x).Nodup/\(∀ y∈SP n ts x,y∈idx n)/\(SP n ts x).length<=n/\1<=(SP n ts x).length/\∀ y∈SP n ts x,∀ z:Int,0<=z->z < n->z∉SP n ts x->zh ts y z=2:=by
 obtain ⟨h1,h2,f,e⟩:=XF (t:=zh ts) d
 have p:=jW (n:=n) (ts:=ts) x
 have b:=p.mem_iff.mpr h1
 have nd:=p.nodup_iff.mpr h2
 have sub:∀ y∈SP n ts x,y∈idx n:=λy a=>f y (p.mem_iff.mp a)
 refine ⟨b,nd,sub,?_,List.length_pos_of_mem b,λy a z c z1 hz=>e y (p.mem_iff.mp a) z (wV.mpr ⟨c,z1⟩) λq=>hz (p.mem_iff.mpr q)⟩
 have:=kb nd sub
 simpa [idx] using this
def yE (n:Nat) (ts:List T3):List Int:=(idx n).filter λx=>decide ((SP n ts x).headD 0=x)
def G7 {l:List Int} (h:1<=l.length):l.headD 0∈l:=by
 cases l with
 | nil=>simp at h
 | cons x l=>exact aN
def JS (ht:∀ i j,zh ts i j=zh ts j i):((yE n ts).flatMap (SP n ts)).Perm (idx n):=by
 refine uh ?_ (vY n) λy=>?_
 .rw [iy,List.pairwise_flatMap]
  refine ⟨λx f=>iy.mp (xT (df.mp f).1).2.1,?_⟩
  have nd:(yE n ts).Nodup:=(vY n).filter _
  refine (iy.mp nd).imp_of_mem λ{a b} q p u=>?_
  obtain ⟨l,k⟩:=df.mp q
  obtain ⟨h,g⟩:=df.mp p
  intro z o v d hz
  subst hz
  have e:=(Zk ht l o).symm.trans (Zk ht h d)
  refine u ?_
  rw [<- of_decide_eq_true k,<- of_decide_eq_true g,e]
 .rw [nB]
  constructor
  .rintro ⟨x,f,c⟩
   exact (xT (df.mp f).1).2.2.1 y c
  .intro c
   obtain ⟨f1,_,s,_,r,_⟩:=xT (ts:=ts) c
   have m:=G7 r
   have e:=Zk ht c m
   refine ⟨(SP n ts y).headD 0,df.mpr ⟨s _ m,?_⟩,by rw [e]; exact f1⟩
   rw [e]
   exact decide_eq_true rfl
def Dz (h:v.Perm a) (b:Fj us v):Fj us a:=by
 obtain ⟨q,B,u,h1,h2,c⟩:=b
 exact ⟨q,B,u,by rw [<- h.length_eq]; exact h1,h2.trans h,c⟩
def Di (h:v.Perm a) (d:BN us v):BN us a:=by
 obtain ⟨b,e,u,E⟩:=d
 exact ⟨b,e,u,E.len,E.nd,λx c=>h.mem_iff.mp (E.sub x c),E.le⟩
def BZ (hg:zT ts) (q:n<=6) (d:x∈idx n):Fj ts ((SP n ts x).map Eu)\/BN ts ((SP n ts x).map Eu):=by
 obtain ⟨h1,h2,k,r⟩:=XF (t:=zh ts) d
 have p:=(jW (n:=n) (ts:=ts) x).symm.map Eu
 have b:∀ y∈xQ (zh ts) n x,0<=y:=λy f=>(wV.mp (k y f)).1
 obtain ⟨_,_,_,o,l,_⟩:=xT (ts:=ts) d
 rw [(jW (n:=n) (ts:=ts) x).length_eq] at o l
 obtain ⟨m,g⟩:∃ m,(xQ (zh ts) n x).length=m+1:=⟨(xQ (zh ts) n x).length - 1,by omega⟩
 rcases Q3 hg m ((xQ (zh ts) n x).map Eu) (by rw [az]; exact g) (by omega) (Gy b h2) (λi a c=>by
  rw [az] at c
  obtain ⟨j,h,e⟩:=Qj (zh ts) n x i a c
  exact ⟨j,h,by rw [ka b (by omega),ka b c]; exact e⟩) with z | z
 .exact .inl (Dz p z)
 .exact .inr (Di p z)
end
section
variable {ts us:List T3} {n n':Nat} {P:Nat->Prop} {φ:Nat->Nat}
def Sh.same_len (b:Sh ts n u) (a:Sh ts n v) (e:Eqv (zb ts) n u v):u.length=v.length:=(b.2.cong e).uniq a.2
theorem UA (R:Rel ts us n n' P φ):∀ h w,(∀ i∈h,P i)->(∀ i∈w,P i)->Sh ts n h->Sh ts n w->Eqv (zb us) n' (w.map φ) (h.map φ)->Eqv (zb ts) n w h
 | [],w,g,k,l,f,e=>by
  have:=(xV R w k f).same_len (xV R [] g l) e
  rw [az,aP,aE] at this
  rw [oP.mp this]
  exact A8 _
 | a :: d,w,g,k,l,f,e=>by
  have s:=xV R w k f
  have A:=xV R (a :: d) g l
  have len:=s.same_len A e
  rw [az,az,ao] at len
  have q:P a:=g a aN
  have y:∀ i∈d,P i:=λi hi=>g i (aX _ hi)
  have o:Sh ts n d:=Sh.cut (a:=[a]) (b:=d) (c:=[]) (by simpa using l)
  obtain ⟨r,v,p2,u,B⟩:=Xa R w.length w a rfl k f s q ⟨d.map φ,λi hi=>by
   obtain ⟨j,F,rfl⟩:=aR.mp hi
   exact R.lt' j (y j F),e.symm,by rw [az,az]; omega⟩
  have m:aj n (a :: r):=λi hi=>(aI.mp hi).elim (λz=>z ▸ R.lt a q) λz=>R.lt i (v i z)
  have p:Sh ts n (a :: r):=f.of m u (by rw [ao]; exact p2)
  have E:Sh ts n r:=Sh.cut (a:=[a]) (b:=r) (c:=[]) (by simpa using p)
  have e2:Eqv (zb us) n' (r.map φ) (d.map φ):=QO (x:=[φ a]) (aj.one (R.lt' a q)) (B.trans e)
  have C:=UA R d r y v o E e2
  exact u.symm.trans ((A8 [a]).app C)
def zp (ts:List T3) (n:Nat) (w:List Nat):List (List Gd):=(aw n).map λk=>zO (zb ts) w (zL n k)
def xJ (b:aj n u) (a:aj n v):zp ts n u=zp ts n v↔Eqv (zb ts) n u v:=by
 unfold zp
 constructor
 .intro h
  refine JW b a λk c=>?_
  exact List.map_inj_left.mp h k (bT.mpr c)
 .intro h
  exact fx λk _=>h _ (zc n k)
structure Full (ts:List T3) (n:Nat) (L:List (List Nat)):Prop where
 inw:∀ w∈L,aj n w
 nd:(L.map (zp ts n)).Nodup
 all:∀ w,aj n w->zp ts n w∈L.map (zp ts n)
def Full.most {L M:List (List Nat)} (h:Full ts n L) (c:∀ w∈M,aj n w) (nd:(M.map (zp ts n)).Nodup):M.length<=L.length:=by
 have:=kb nd λr b=>by
  obtain ⟨w,a,rfl⟩:=aR.mp b
  exact h.all w (c w a)
 simpa using this
def Full.same (h:Full ts n L) (h':Full ts n M):L.length=M.length:=Nat.le_antisymm (h'.most h.inw h.nd) (h.most h'.inw h'.nd)
def Qp  {f:α->β} {l:List α}:(l.map f).Nodup↔l.Pairwise λa b=>f a≠f b:=by
 rw [iy,nE]
section
variable {B:List T3} {u:List Nat} {k:Nat}
def F0 (hg:zT us) (m:zT B) (h:u.length=k) (g:∀ x∈u,x < n) (I:IsoT B us u) {L:List (List Nat)} (f:∀ w∈L,Sh B k w) (nd:(L.map (zp B k)).Nodup):((L.map λw=>w.map λi=>u.getD i 0).map (zp us n)).Nodup:=by
 have R:=XA hg m h g I
 rw [bM,Qp]
 rw [Qp] at nd
 refine nd.imp_of_mem λ{a b} l j o z=>o ?_
 have d:=f a l
 have c:=f b j
 have e:=(xJ (xV R a d.1 d).1 (xV R b c.1 c).1).mp z
 exact (xJ d.1 c.1).mpr (UA R b a c.1 d.1 c d e)
def Dx (hg:zT us) (o:zT B) (f:u.length=k) (r:u.Perm (aw n)) (I:IsoT B us u) (h:∀ w∈L,Sh B k w) (s:Full B k L):Full us n (L.map λw=>w.map λi=>u.getD i 0):=by
 have m:∀ x∈u,x < n:=λx A=>bT.mp (r.mem_iff.mp A)
 have R:=XA hg o f m I
 have R':=Qf hg o f m I
 refine ⟨λw g=>?_,F0 hg o f m I h s.nd,λw g=>?_⟩
 .obtain ⟨v,a,rfl⟩:=aR.mp g
  exact (xV R v (h v a).1 (h v a)).1
 .obtain ⟨v,a,ev⟩:=uZ (zb us) n g
  have p:Sh us n v:=⟨a.1,v,a,A8 _,rfl⟩
  have d:∀ i∈v,i∈u:=λi hi=>r.mem_iff.mpr (bT.mpr (a.1 i hi))
  have q:=xV R' v d p
  obtain ⟨l,z,e⟩:=aR.mp (s.all _ q.1)
  have sl:=h l z
  have back:(l.map λi=>u.getD i 0).map (λx=>u.idxOf x)=l:=by
   rw [bM]
   have:l.map ((λx=>u.idxOf x) ∘ λi=>u.getD i 0)=l.map id:=fx λi hi=>by
    have y:i < u.length:=by rw [f]; exact sl.1 i hi
    simp only [Ez]
    rw [wY y]
    exact List.Nodup.idxOf_getElem I.nd i y
   rw [this,LD]
  have b:=xV R l sl.1 sl
  have c:∀ i∈l.map (λi=>u.getD i 0),i∈u:=λi hi=>by
   obtain ⟨j,C,rfl⟩:=aR.mp hi
   exact yD (by rw [f]; exact sl.1 j C)
  have e1:Eqv (zb B) k ((l.map λi=>u.getD i 0).map λx=>u.idxOf x) (v.map λx=>u.idxOf x):=by
   rw [back]
   exact (xJ sl.1 q.1).mp e
  have e2:=UA R' v _ d c p b e1
  refine aR.mpr ⟨_,aR.mpr ⟨l,z,rfl⟩,?_⟩
  exact (xJ b.1 g).mpr (e2.trans ev)
end
abbrev gO (U:List (Bk×List Nat)):List eO:=U.map λp=>(p.2.length,p.1)
theorem Mc:∀ U b,(∀ p∈U,IsoT p.1.2 us p.2/\Wi p.2.length p.1.2)->U.Pairwise (λp q=>∀ (x:Nat),x∈p.2->∀ (y:Nat),y∈q.2->zh us (x:Int) (y:Int)=2) →
  ∀ a c,a < (U.flatMap (·.2)).length->c < (U.flatMap (·.2)).length->a≠c->zh us (((U.flatMap (·.2)).getD a 0:Nat):Int) (((U.flatMap (·.2)).getD c 0:Nat):Int)=zh (dD b (gO U)) (b+a) (b+c)
 | [],b,_,_,a,c,f,_,_=>by simp at f
 | p :: U,b,l,G,a,c,f,h,Q=>by
  obtain ⟨g,w⟩:=AI.mp G
  have k:∀ q∈U,IsoT q.1.2 us q.2/\Wi q.2.length q.1.2:=λq d=>l q (aX _ d)
  obtain ⟨I,F⟩:=l p aN
  have u:∀ B∈gO (p :: U),Wi B.1 B.2.2:=λB O=>by
   obtain ⟨q,d,rfl⟩:=aR.mp O
   exact (l q d).2
  have s:(b,(p.2.length,p.1))∈Ka b (gO (p :: U)):=aN
  rw [lu] at f h ⊢
  rw [aH] at f h
  have o:∀ i,i < p.2.length->(p.2++U.flatMap (·.2)).getD i 0=p.2.getD i 0:=λi hi=>by
   rw [aW,fE hi,aW]
  have m:∀ i,p.2.length<=i->(p.2++U.flatMap (·.2)).getD i 0=(U.flatMap (·.2)).getD (i - p.2.length) 0:=λi hi=>by
   rw [aW,fX hi,aW]
  have UH:∀ i j,i < p.2.length->p.2.length<=j->j < p.2.length+(U.flatMap (·.2)).length->zh us (((p.2++U.flatMap (·.2)).getD i 0:Nat):Int) (((p.2++U.flatMap (·.2)).getD j 0:Nat):Int)=zh (dD b (gO (p :: U))) (b+i) (b+j):=λi j hi L J=>by
   rw [o i hi,m j L]
   have H:(U.flatMap (·.2)).getD (j - p.2.length) 0∈U.flatMap (·.2):=yD (by omega)
   obtain ⟨q,d,C⟩:=nB.mp H
   rw [g q d _ (yD hi) _ C]
   refine (BV u s ⟨?_,?_⟩ λz=>?_).symm
   .show b<=b+(i:Int); omega
   .show b+(i:Int) < b+(p.2.length:Int); omega
   .have z2:b+(j:Int) < b+(p.2.length:Int):=z.2
    omega
  by_cases ca:a < p.2.length <;> by_cases r:c < p.2.length
  .rw [o a ca,o c r,I.eq a c ca r Q]
   exact (Ko u s (by omega) (by show (a:Int) < (p.2.length:Int); omega) (by omega) (by show (c:Int) < (p.2.length:Int); omega)).symm
  .exact UH a c ca (by omega) h
  .rw [yk us,yk (dD b (gO (p :: U)))]
   exact UH c a r (by omega) f
  .have A:=Mc U (b+p.2.length) k w (a - p.2.length) (c - p.2.length) (by omega) (by omega) (by omega)
   rw [m a (by omega),m c (by omega),A]
   have S:b+(p.2.length:Int)+((a - p.2.length:Nat):Int)=b+a:=by omega
   have R:b+(p.2.length:Int)+((c - p.2.length:Nat):Int)=b+c:=by omega
   rw [S,R]
   show _=zh (p.1.2.map (iE b)++dD (b+p.2.length) (gO U)) (b+a) (b+c)
   rw [ue]
   intro e M hh
   obtain ⟨v,E,rfl⟩:=aR.mp M
   have T:=F v E
   obtain ⟨h1,h2⟩:=hh
   have h1:b+v.1=cy (b+a) (b+c):=h1
   have h2:b+v.2.1=cA (b+a) (b+c):=h2
   unfold cy at h1
   split at h1 <;> omega
end
def zd3 (x:Gd):Nat:=(x.1+2000).toNat * 4000+(x.2+2000).toNat
def zd2 (r:List Gd):Nat:=r.foldl (λa x=>a * 16000000+zd3 x) 1
def BK (T:List T3) (n:Nat) (w:List Nat):Nat:=zd2 (zO (zb T) w (([(1,0),(3,0),(8,1),(19,0)]:List Gd).take n))
def zcv (T:List T3) (n:Nat):Nat->List (List Nat)->List (List Nat)->List Nat->List (List Nat)
 | 0,done,_,_=>done
 | _+1,done,[],_=>done
 | k+1,done,w :: todo,seen =>
  let r:=(aw n).foldl (λ(a:List (List Nat)×List Nat) i=>if a.2.any (λd=>Nat.beq (BK T n (i :: w)) d) then a else (a.1++[i :: w],BK T n (i :: w) :: a.2)) (todo,seen)
  zcv T n k (done++[w]) r.1 r.2
def dZ:Nat->Nat->List (List eO)
 | 0,_=>[[]]
 | _+1,0=>[[]]
 | f+1,n+1=>((aw (n+1)).flatMap λj=>(qQ (j+1)).flatMap λB=>(dZ f (n - j)).map λr=>(j+1,B) :: r)
def dgQ:Kd->List Int
 | (1,m)=>(aw m).map λ(i:Nat)=>(i:Int)+2
 | (2,m)=>(aw m).map λ(i:Nat)=>2 * (i:Int)+2
 | (4,m)=>((aw (m - 1)).map λ(i:Nat)=>2 * (i:Int)+2)++[(m:Int)]
 | (5,6)=>[2,5,6,8,9,12]
 | (6,4)=>[2,6,8,12]
 | (8,3)=>[2,6,10]
 | (8,4)=>[2,12,20,30]
 | (9,5)=>[2,5]
 | (9,6)=>[2,6]
 | _=>[]
def Cp (l:List Int):Int:=l.foldl (λa d=>a * d) 1
def lZ (bs:List eO):Int:=Cp (bs.flatMap λb=>dgQ b.2.1)
def zcn (T:List T3) (n:Nat):List (List Nat):=zcv T n 62 [] [[]] [BK T n []]
def ndB:List Nat->Bool
 | []=>true
 | x :: l => !(l.any λy=>Nat.beq x y)&&ndB l
def k_ (n:Nat) (bs:List eO):Bool :=
 let T:=dD 0 bs
 let L:=zcn T n
 (L.all λw=>w.all (λi=>Nat.blt i n))&&ndB (L.map (BK T n))&&decide (BF bs=n) &&
 (if 61 < L.length then decide (60 < lZ bs) else decide (lZ bs=(L.length:Int))&&L.contains []&&decide (L.length<=60/\2 ^ n<=L.length) &&
  L.all λw=>(aw n).all λi=>match L.find? (λv=>Nat.beq (BK T n v) (BK T n (i :: w))) with
   | some v=>decide (zp T n v=zp T n (i :: w))
   | none=>false)
def zbe:((dZ 4 1).all λbs=>k_ 1 bs)=true:=by decide +kernel
def zbd:((dZ 4 2).all λbs=>k_ 2 bs)=true:=by decide +kernel
def zbc:((dZ 4 3).all λbs=>k_ 3 bs)=true:=by decide +kernel
def So:(((dZ 4 4).take 10).all λbs=>k_ 4 bs)=true:=by decide +kernel
def Sn:((((dZ 4 4).drop 10).take 10).all λbs=>k_ 4 bs)=true:=by decide +kernel
def Sm:((((dZ 4 4).drop 20).take 10).all λbs=>k_ 4 bs)=true:=by decide +kernel
def Sk:(((dZ 4 4).drop 30).all λbs=>k_ 4 bs)=true:=by decide +kernel
def Sj (h1:1<=n) (f:n<=4) (a:bs∈dZ 4 n):k_ n bs=true:=by
 have b:n=1\/n=2\/n=3\/n=4:=by omega
 rcases b with rfl | rfl | rfl | rfl
 .exact bB.mp zbe bs a
 .exact bB.mp zbd bs a
 .exact bB.mp zbc bs a
 .have e:dZ 4 4=(dZ 4 4).take 10++(((dZ 4 4).drop 10).take 10++(((dZ 4 4).drop 20).take 10++(dZ 4 4).drop 30)):=by
   have d:(dZ 4 4).drop 20=((dZ 4 4).drop 10).drop 10:=by rw [List.drop_drop]
   have c:(dZ 4 4).drop 30=((dZ 4 4).drop 20).drop 10:=by rw [List.drop_drop]
   rw [c,oN,d,oN,oN]
  rw [e] at a
  rcases bE.mp a with z | z
  .exact bB.mp So bs z
  .rcases bE.mp z with z | z
   .exact bB.mp Sn bs z
   .rcases bE.mp z with z | z
    .exact bB.mp Sm bs z
    .exact bB.mp Sk bs z
theorem F3:∀ {l:List Nat},ndB l=true->l.Nodup
 | [],_=>List.nodup_nil
 | x :: l,h=>by
  unfold ndB at h
  rw [cO] at h
  refine hG.mpr ⟨λz=>?_,F3 h.2⟩
  have:(l.any λy=>Nat.beq x y)=true:=nD.mpr ⟨x,z,Nat.beq_refl x⟩
  rw [this] at h
  exact absurd h.1 (by decide)
section
variable {T:List T3} {n:Nat}
def K0 (i) (h:zp T n u=zp T n v):zp T n (i :: u)=zp T n (i :: v):=by
 have e:∀ w,zp T n (i :: w)=(zp T n w).map (w4 (zb T i) i):=λw=>by
  unfold zp
  rw [bM]
  rfl
 rw [e,e,h]
def Dl (c:n<=4) (b:aj n u) (a:aj n v) (h:zp T n u=zp T n v):BK T n u=BK T n v:=by
 unfold BK
 rw [(xJ b a).mp h _ (by rw [oI]; simp only [ao,aE]; omega)]
def Gu (f:n<=4) {L:List (List Nat)} (c:∀ w∈L,aj n w) (h:(L.map (BK T n)).Nodup):(L.map (zp T n)).Nodup:=by
 rw [Qp] at h ⊢
 exact h.imp_of_mem λ{a b} e d g z=>g (Dl f (c a e) (c b d) z)
def Jp {L:List (List Nat)} (b:∀ w∈L,aj n w):∃ M:List (List Nat),M.length=L.length/\(∀ w∈M,Sh T n w)/\M.map (zp T n)=L.map (zp T n):=by
 induction L with
 | nil=>exact ⟨[],rfl,λw h=>(by cases h),rfl⟩
 | cons w L c =>
  obtain ⟨M,h1,h2,e⟩:=c λv a=>b v (aX _ a)
  obtain ⟨v,a,ev⟩:=uZ (zb T) n (b w aN)
  refine ⟨v :: M,by rw [ao,ao,h1],λx d=>?_,?_⟩
  .rcases aI.mp d with z | z
   .subst z
    exact ⟨a.1,x,a,A8 _,rfl⟩
   .exact h2 x z
  .rw [au,au,e,(xJ a.1 (b w aN)).mpr ev]
set_option tactic.hygienic true in
def CL (r:n<=4) (h:k_ n bs=true):BF bs=n ∧
  ((∃ M,Full (dD 0 bs) n M/\(∀ w∈M,Sh (dD 0 bs) n w)/\lZ bs=(M.length:Int)/\M.length<=60/\2 ^ n<=M.length) ∨
   (60 < lZ bs/\∃ M:List (List Nat),61 < M.length/\(∀ w∈M,Sh (dD 0 bs) n w)/\(M.map (zp (dD 0 bs) n)).Nodup)):=by
 unfold k_ at h
 dsimp only at h
 rw [cO,cO,cO] at h
 obtain ⟨⟨⟨k1,k2⟩,k3⟩,a⟩:=h
 generalize zcn (dD 0 bs) n=L at *
 have b:∀ w∈L,aj n w:=λw b i hi=>by
  have:=bB.mp (bB.mp k1 w b) i hi
  simpa using this
 have nd:=Gu r b (F3 k2)
 obtain ⟨M,g,f,d⟩:=Jp (T:=dD 0 bs) b
 refine ⟨of_decide_eq_true k3,?_⟩
 split at a
 .rename_i c
  exact .inr ⟨of_decide_eq_true a,M,by omega,f,by rw [d]; exact nd⟩
 .rw [cO,cO,cO] at a
  obtain ⟨⟨⟨s1,s2⟩,l⟩,k⟩:=a
  have all:∀ w,aj n w->zp (dD 0 bs) n w∈L.map (zp (dD 0 bs) n):=by
   intro w
   induction w with
   | nil=>exact λ_=>aR.mpr ⟨[],by simpa using s2,rfl⟩
   | cons i w m =>
    intro hi
    obtain ⟨v,p,e⟩:=aR.mp (m λj q=>hi j (aX _ q))
    have:=bB.mp (bB.mp k v p) i (bT.mpr (hi i aN))
    split at this
    .rename_i x o
     exact aR.mpr ⟨x,List.mem_of_find?_eq_some o,(of_decide_eq_true this).trans (K0 i e)⟩
    .cases this
  refine .inl ⟨M,⟨λw h=>(f w h).1,by rw [d]; exact nd,λw h=>by rw [d]; exact all w h⟩,f,by rw [g]; exact of_decide_eq_true s1,by rw [g]; exact of_decide_eq_true l⟩
end
theorem Bb:∀ f bs n,n<=f->BF bs=n->(∀ b∈bs,1<=b.1/\b.2∈qQ b.1)->bs∈dZ f n
 | 0,bs,n,d,ht,a=>by
  cases bs with
  | nil=>unfold dZ; simp
  | cons b bs =>
   have:=(a b aN).1
   unfold BF at ht
   omega
 | f+1,[],n,d,ht,a=>by
  unfold BF at ht
  subst ht
  unfold dZ
  simp
 | f+1,b :: bs,n,d,ht,a=>by
  obtain ⟨h1,h2⟩:=a b aN
  have i:b.1+BF bs=n:=ht
  obtain ⟨m,rfl⟩:∃ m,n=m+1:=⟨n - 1,by omega⟩
  obtain ⟨j,e⟩:∃ j,b.1=j+1:=⟨b.1 - 1,by omega⟩
  have g:=Bb f bs (m - j) (by omega) (by omega) λc h=>a c (aX _ h)
  unfold dZ
  rw [nB]
  refine ⟨j,bT.mpr (by omega),nB.mpr ⟨b.2,by rw [<- e]; exact h2,aR.mpr ⟨bs,g,?_⟩⟩⟩
  rw [<- e]
section
variable {us:List T3} {n:Nat}
theorem Bp:∀ bs b,(∀ B∈bs,zT B.2.2)->zT (dD b bs)
 | [],b,_=>λu a=>by cases a
 | B :: bs,b,h=>λu a=>by
  rcases bE.mp a with z | z
  .obtain ⟨v,c,rfl⟩:=aR.mp z
   exact h B aN v c
  .exact Bp bs _ (λC d=>h C (aX _ d)) u z
theorem U4:∀ U,BF (gO U)=(U.flatMap (·.2)).length
 | []=>rfl
 | p :: U=>by
  rw [lu,aH,<- U4 U]
  rfl
def Us (hg:zT us) (h1:1<=n) (O:n<=4) (f) (m:∀ x∈yE n us,(f x).1∈qQ (SP n us x).length/\(f x).2.Perm ((SP n us x).map Eu)/\IsoT (f x).1.2 us (f x).2) :
  (∃ M,Full us n M/\lZ (gO ((yE n us).map f))=(M.length:Int)/\M.length<=60/\2 ^ n<=M.length)\/(60 < lZ (gO ((yE n us).map f))/\∃ M:List (List Nat),61 < M.length/\(∀ w∈M,aj n w)/\(M.map (zp us n)).Nodup):=by
 have ht:=yk us
 have k:=JS (n:=n) ht
 have d:∀ x∈yE n us,x∈idx n:=λx d=>(df.mp d).1
 have U:∀ x∈yE n us,(f x).2.length=(SP n us x).length:=λx d=>by rw [(m x d).2.1.length_eq,az]
 have up:(((yE n us).map f).flatMap (·.2)).Perm (aw n):=by
  have e1:(((yE n us).map f).flatMap (·.2))=(yE n us).flatMap λx=>(f x).2:=by rw [List.flatMap_map]
  have e2:∀ l:List Int,(∀ x∈l,(f x).2.Perm ((SP n us x).map Eu))->(l.flatMap λx=>(f x).2).Perm ((l.flatMap (SP n us)).map Eu):=λl=>by
   induction l with
   | nil=>exact λ_=>List.Perm.refl _
   | cons x l W =>
    intro h
    rw [lu,lu,bN]
    exact (h x aN).append (W λy X=>h y (aX _ X))
  rw [e1]
  refine (e2 _ λx d=>(m x d).2.1).trans ((k.map Eu).trans ?_)
  have:(idx n).map Eu=aw n:=by
   unfold idx
   rw [bM]
   exact (fx λi _=>Ii i).trans (LD _)
  rw [this]
 have C:∀ x∈yE n us,∃ w,FinD (SP n us x).length (f x).1.2 w:=λx h=>by
  obtain ⟨q,Z,e⟩:=oM.mp (m x h).1
  have sp:=xT (ts:=us) (d x h)
  obtain ⟨w,_,F⟩:=jB (q:=q) sp.2.2.2.2.1 (by have:=sp.2.2.2.1; omega) (by rw [dq Z,e])
  exact ⟨w,F⟩
 have A0:∀ p∈(yE n us).map f,IsoT p.1.2 us p.2/\Wi p.2.length p.1.2:=λp k=>by
  obtain ⟨x,h,rfl⟩:=aR.mp k
  obtain ⟨w,F⟩:=C x h
  exact ⟨(m x h).2.2,by rw [U x h]; exact F.fit⟩
 have UH:((yE n us).map f).Pairwise (λp q=>∀ (x:Nat),x∈p.2->∀ (y:Nat),y∈q.2->zh us (x:Int) (y:Int)=2):=by
  rw [nE]
  have nd:(yE n us).Nodup:=(vY n).filter _
  refine (iy.mp nd).imp_of_mem λ{a b} o g P x L y J=>?_
  have r:∀ c∈yE n us,∀ z:Nat,z∈(f c).2->(z:Int)∈SP n us c:=λc T z hz=>by
   obtain ⟨t,Q,e⟩:=aR.mp ((m c T).2.1.mem_iff.mp hz)
   have:=(wV.mp ((xT (ts:=us) (d c T)).2.2.1 t Q)).1
   rw [<- e,show ((t.toNat:Nat):Int)=t by omega]
   exact Q
  have u:=r b g y J
  have A:=wV.mp ((xT (ts:=us) (d b g)).2.2.1 _ u)
  refine (xT (ts:=us) (d a o)).2.2.2.2.2 _ (r a o x L) _ A.1 A.2 λz=>?_
  have e:=(Zk ht (d a o) z).symm.trans (Zk ht (d b g) u)
  refine P ?_
  rw [<- of_decide_eq_true (df.mp o).2,<- of_decide_eq_true (df.mp g).2,e]
 have j:IsoT (dD 0 (gO ((yE n us).map f))) us (((yE n us).map f).flatMap (·.2)):=⟨up.nodup_iff.mpr List.nodup_range,λa b o g P=>by
  have:=Mc ((yE n us).map f) 0 A0 UH a b o g P
  rw [Int.zero_add,Int.zero_add] at this
  exact this⟩
 have good:zT (dD 0 (gO ((yE n us).map f))):=Bp _ _ λB hB=>by
  obtain ⟨p,k,rfl⟩:=aR.mp hB
  obtain ⟨x,h,rfl⟩:=aR.mp k
  obtain ⟨w,F⟩:=C x h
  exact F.good
 have E:(((yE n us).map f).flatMap (·.2)).length=n:=by rw [up.length_eq,fW]
 have mem:gO ((yE n us).map f)∈dZ 4 n:=Bb 4 _ n O (by rw [U4,E]) λb g=>by
  obtain ⟨p,k,rfl⟩:=aR.mp g
  obtain ⟨x,h,rfl⟩:=aR.mp k
  have:=(xT (ts:=us) (d x h)).2.2.2.2.1
  show 1<=(f x).2.length/\(f x).1∈qQ (f x).2.length
  rw [U x h]
  exact ⟨this,(m x h).1⟩
 obtain ⟨_,q⟩:=CL O (Sj h1 O mem)
 rcases q with ⟨M,I,H,s,G⟩ | ⟨I,M,H,s,G⟩
 .exact .inl ⟨_,Dx hg good E up j H I,by rw [az]; exact s,by rw [az]; exact G⟩
 .have S:∀ x∈((yE n us).map f).flatMap (·.2),x < n:=λx d=>bT.mp (up.mem_iff.mp d)
  refine .inr ⟨I,M.map λw=>w.map λi=>(((yE n us).map f).flatMap (·.2)).getD i 0,by rw [az]; exact H,λw Y=>?_,F0 hg good E S j s G⟩
  obtain ⟨v,R,rfl⟩:=aR.mp Y
  exact (xV (XA hg good E S j) v (s v R).1 (s v R)).1
end
def BB (ts:List T3) (n:Nat) (w:List Nat):List (List Nat)->List Nat->List (List Nat)
 | C,[]=>C
 | C,i :: l=>BB ts n w (if zp ts n (w++[i])∈C.map (zp ts n) then C else C++[w++[i]]) l
def uL (ts:List T3) (n:Nat):Nat->List (List Nat)->Nat->List (List Nat)
 | 0,C,_=>C
 | k+1,C,p=>match C[p]? with
  | none=>C
  | some w=>if C.length<=61 then uL ts n k (BB ts n w C (aw n)) (p+1) else C
def eE (ts:List T3) (n:Nat) (w:List Nat):List (List Nat)->List Nat->List (List Nat)
 | C,[]=>C
 | C,i :: l=>eE ts n w (if J8 (zO (zb ts) w (zL n i))=true then (if zp ts n (w++[i])∈C.map (zp ts n) then C else C++[w++[i]]) else C) l
def ui (ts:List T3) (n:Nat):List (List Nat)->List (List Nat)->List (List Nat)
 | C,[]=>C
 | C,w :: L=>ui ts n (eE ts n w C (aw n)) L
def rb (ts:List T3) (n:Nat):Nat->List (List Nat)->List (List Nat)
 | 0,_=>[]
 | k+1,L=>if L=[] then [] else L++rb ts n k (ui ts n [] L)
section
variable {ts:List T3} {n:Nat}
def Ny (h:(C.map (zp ts n)).Nodup) (d:zp ts n w∉C.map (zp ts n)):((C++[w]).map (zp ts n)).Nodup:=by
 rw [bN,oJ]
 exact ⟨h,by simp,λa f b c e=>d (by simp at c; rw [<- c,<- e]; exact f)⟩
theorem qw (b:aj n w):∀ l C,(∀ i∈l,i < n)->(∀ v∈C,aj n v)->(C.map (zp ts n)).Nodup →
  ∃ X,BB ts n w C l=C++X/\X.length<=l.length/\(∀ v∈X,aj n v)/\((C++X).map (zp ts n)).Nodup/\∀ i∈l,zp ts n (w++[i])∈(C++X).map (zp ts n)
 | [],C,_,_,nd=>⟨[],by rw [bx]; rfl,aM _,λv h=>(by cases h),by rw [bx]; exact nd,λi h=>(by cases h)⟩
 | i :: l,C,m,o,nd=>by
  have hi:=m i aN
  have p:∀ j∈l,j < n:=λj a=>m j (aX _ a)
  unfold BB
  by_cases c:zp ts n (w++[i])∈C.map (zp ts n)
  .rw [if_pos c]
   obtain ⟨X,g,q,f,e,d⟩:=qw b l C p o nd
   refine ⟨X,g,by rw [ao]; omega,f,e,λj a=>?_⟩
   rcases aI.mp a with z | z
   .subst z
    rw [bN]
    exact gq _ c
   .exact d j z
  .rw [if_neg c]
   obtain ⟨X,g,q,f,e,d⟩:=qw b l (C++[w++[i]]) p (λv k=>(bE.mp k).elim (o v) λz=>by
    rw [hJ] at z
    subst z
    exact b.app (aj.one hi)) (Ny nd c)
   refine ⟨[w++[i]]++X,by rw [g,b9],by simp only [aH,ao,aE]; omega,λv k=>?_,by rw [<- b9]; exact e,λj a=>?_⟩
   .rcases bE.mp k with z | z
    .rw [hJ] at z
     subst z
     exact b.app (aj.one hi)
    .exact f v z
   .rw [<- b9]
    rcases aI.mp a with z | z
    .subst z
     exact aR.mpr ⟨w++[j],by simp,rfl⟩
    .exact d j z
def WE (i) (b:aj n u) (a:aj n v) (hi:i < n) (h:zp ts n u=zp ts n v):zp ts n (u++[i])=zp ts n (v++[i]) :=
 (xJ (b.app (aj.one hi)) (a.app (aj.one hi))).mpr (((xJ b a).mp h).app (A8 _))
theorem jl:∀ k C p,(∀ v∈C,aj n v)->(C.map (zp ts n)).Nodup->[]∈C->(∀ q w,q < p->C[q]? = some w->∀ i,i < n->zp ts n (w++[i])∈C.map (zp ts n))->62<=k+p->C.length<=61+n →
  (∀ v∈uL ts n k C p,aj n v)/\((uL ts n k C p).map (zp ts n)).Nodup/\(uL ts n k C p).length<=61+n/\(61 < (uL ts n k C p).length\/Full ts n (uL ts n k C p))
 | k,C,p,a,nd,l,m,B,hlen=>by
  have stop:C.length<=p->Full ts n C:=λj=>⟨a,nd,λw d=>by
   have key:∀ w:List Nat,aj n w->zp ts n w∈C.map (zp ts n):=by
    intro w
    rw [<- mG w]
    induction w.reverse with
    | nil=>exact λ_=>aR.mpr ⟨[],l,rfl⟩
    | cons i v A =>
     intro hi
     rw [lx] at hi ⊢
     obtain ⟨x,g,e⟩:=aR.mp (A hi.left)
     have f:i < n:=hi i (by simp)
     obtain ⟨q,h,eq⟩:=oM.mp g
     rw [<- WE i (a x g) hi.left f e]
     exact m q x (by omega) (by rw [dq h,eq]) i f
   exact key w d⟩
  cases k with
  | zero =>
   unfold uL
   by_cases c:61 < C.length
   .exact ⟨a,nd,hlen,.inl c⟩
   .exact ⟨a,nd,hlen,.inr (stop (by omega))⟩
  | succ k =>
   unfold uL
   cases e:C[p]? with
   | none=>exact ⟨a,nd,hlen,.inr (stop (g3p.mp e))⟩
   | some w =>
    dsimp only
    by_cases c:C.length<=61
    .rw [if_pos c]
     have d:=a w (gN e)
     obtain ⟨X,y,u,s,r,o⟩:=qw (ts:=ts) d (aw n) C (λi hi=>bT.mp hi) a nd
     rw [fW] at u
     rw [y]
     have j:p < C.length:=(dw.mp e).1
     exact jl k (C++X) (p+1) (λv b=>(bE.mp b).elim (a v) (s v)) r (gq _ l) (λq v h b i hi=>by
      by_cases z:q=p
      .subst z
       rw [fE j,e] at b
       cases b
       exact o i (bT.mpr hi)
      .rw [fE (by omega)] at b
       rw [bN]
       exact gq _ (m q v (by omega) b i hi)) (by omega) (by rw [aH]; omega)
    .rw [if_neg c]
     exact ⟨a,nd,hlen,.inl (by omega)⟩
structure Lv (ts:List T3) (n k:Nat) (C L:List (List Nat)):Prop where
 sh:∀ w∈L,Sh ts n w/\w.length=k
 shC:∀ w∈C,Sh ts n w/\w.length < k
 nd:((C++L).map (zp ts n)).Nodup
 prev:∀ v,Sh ts n v->v.length < k->zp ts n v∈C.map (zp ts n)
 cur:∀ v,Sh ts n v->v.length=k->zp ts n v∈L.map (zp ts n)
theorem Wn (hg:zT ts) (h:Lv ts n k C L) (f:w∈L):∀ l a,(∀ i∈l,i < n)->BB ts n w (C++L++a) l=C++L++eE ts n w a l
 | [],a,_=>rfl
 | i :: l,a,s=>by
  have hi:=s i aN
  have q:∀ j∈l,j < n:=λj F=>s j (aX _ F)
  obtain ⟨d,I⟩:=h.sh w f
  have nz:=vm (ts:=ts) d.1 hi
  have p:aj n (w++[i]):=d.1.app (aj.one hi)
  unfold BB eE
  rcases yR hg d.1 hi d.2 with ⟨o,r⟩ | ⟨o,r,r3⟩
  .rw [if_pos (o.abv nz).1]
   have B:Sh ts n (w++[i]):=⟨p,by rw [aH,bX]; exact r⟩
   have A:zp ts n (w++[i])∉(C++L).map (zp ts n):=λz=>by
    obtain ⟨v,E,e⟩:=aR.mp z
    have m:Sh ts n v/\v.length<=k:=(bE.mp E).elim (λz=>⟨(h.shC v z).1,oE (h.shC v z).2⟩) λz=>⟨(h.sh v z).1,Nat.le_of_eq (h.sh v z).2⟩
    have:=m.1.same_len B ((xJ m.1.1 p).mp e)
    rw [aH,bX] at this
    have:=m.2
    omega
   have mem:zp ts n (w++[i])∈(C++L++a).map (zp ts n)↔zp ts n (w++[i])∈a.map (zp ts n):=by
    rw [bN,bE]
    exact ⟨λz=>z.resolve_left A,.inr⟩
   by_cases c:zp ts n (w++[i])∈a.map (zp ts n)
   .rw [if_pos (mem.mpr c),if_pos c]
    exact Wn hg h f l a q
   .rw [if_neg (λz=>c (mem.mp z)),if_neg c,b9 (C++L)]
    exact Wn hg h f l (a++[w++[i]]) q
  .have G:¬ J8 (zO (zb ts) w (zL n i))=true:=by rw [(o.blw nz).1]; decide
   rw [if_neg G]
   obtain ⟨u,g,x,H⟩:=r3
   have y:Sh ts n u:=⟨g.1,u,g,A8 _,rfl⟩
   have b:=h.prev u y (by omega)
   rw [(xJ g.1 p).mpr x] at b
   rw [if_pos (by rw [bN,bN]; exact gq _ (gq _ b))]
   exact Wn hg h f l a q
def Du    {b:List (List Nat)} (h:L=a++w :: b):(C++L++acc)[C.length+a.length]? = some w:=by
 subst h
 rw [b9,fX (by omega),b9,fX (by omega)]
 rw [show C.length+a.length - C.length - a.length=0 by omega]
 rfl
def TQ (b:Full ts n M) {X:List (List Nat)} (a:∀ v∈X,aj n v) (nd:(X.map (zp ts n)).Nodup) (c:M.length<=60):X.length<=61:=by
 have:=b.most a nd
 omega
theorem W2 (hg:zT ts) (p:Full ts n M) (q:M.length<=60) (h:Lv ts n k C L):∀ b d a f,L=d++b->(∀ v∈a,aj n v)->((C++L++a).map (zp ts n)).Nodup →
  uL ts n (f+b.length) (C++L++a) (C.length+d.length)=uL ts n f (C++L++ui ts n a b) (C.length+L.length)
 | [],d,a,f,c,_,_=>by
  rw [bx] at c
  subst c
  rfl
 | w :: b,d,a,f,c,o,nd=>by
  have inw:∀ v∈C++L++a,aj n v:=λv e=>by
   rcases bE.mp e with z | z
   .rcases bE.mp z with z | z
    .exact (h.shC v z).1.1
    .exact (h.sh v z).1.1
   .exact o v z
  have le:=TQ p inw nd q
  have m:w∈L:=by rw [c]; simp
  obtain ⟨X,u,y,s,r,x⟩:=qw (ts:=ts) (h.sh w m).1.1 (aw n) (C++L++a) (λi hi=>bT.mp hi) inw nd
  have g:=Wn hg h m (aw n) a (λi hi=>bT.mp hi)
  have same:C++L++eE ts n w a (aw n)=C++L++(a++X):=by rw [<- g,u,b9]
  have j:eE ts n w a (aw n)=a++X:=List.append_cancel_left same
  rw [ao,<- Nat.add_assoc,show f+b.length+1=(f+b.length)+1 from rfl]
  rw [uL,Du c]
  dsimp only
  rw [if_pos le,g]
  have l:=W2 hg p q h b (d++[w]) (eE ts n w a (aw n)) f (by rw [c,b9]; rfl) (by
   rw [j]
   exact λv e=>(bE.mp e).elim (o v) (s v)) (by rw [j,<- b9]; exact r)
  rw [aH,bX,<- Nat.add_assoc] at l
  exact l
theorem U2 (hg:zT ts) (g:Sh ts n w) (q:w.length=k):∀ l f,(∀ i∈l,i < n)->(∀ v∈f,Sh ts n v/\v.length=k+1)->(∀ v∈eE ts n w f l,Sh ts n v/\v.length=k+1)/\(∀ x∈f.map (zp ts n),x∈(eE ts n w f l).map (zp ts n))/\∀ i∈l,J8 (zO (zb ts) w (zL n i))=true->zp ts n (w++[i])∈(eE ts n w f l).map (zp ts n)
 | [],f,_,p=>⟨p,λ_ h=>h,λi h=>(by cases h)⟩
 | i :: l,f,y,p=>by
  have hi:=y i aN
  have r:∀ j∈l,j < n:=λj m=>y j (aX _ m)
  have nz:=vm (ts:=ts) g.1 hi
  unfold eE
  by_cases c:J8 (zO (zb ts) w (zL n i))=true
  .rw [if_pos c]
   have A:Sh ts n (w++[i]):=by
    rcases yR hg g.1 hi g.2 with ⟨u,s⟩ | ⟨u,s,r3⟩
    .exact ⟨g.1.app (aj.one hi),by rw [aH,bX]; exact s⟩
    .rw [(u.blw nz).1] at c
     cases c
   by_cases d:zp ts n (w++[i])∈f.map (zp ts n)
   .rw [if_pos d]
    obtain ⟨a,b,e⟩:=U2 hg g q l f r p
    exact ⟨a,b,λj m o=>(aI.mp m).elim (λz=>by rw [z]; exact b _ d) λz=>e j z o⟩
   .rw [if_neg d]
    obtain ⟨a,b,e⟩:=U2 hg g q l (f++[w++[i]]) r λv E=>(bE.mp E).elim (p v) λz=>by
     rw [hJ] at z
     subst z
     exact ⟨A,by rw [aH,bX,q]⟩
    have B:zp ts n (w++[i])∈(f++[w++[i]]).map (zp ts n):=aR.mpr ⟨w++[i],by simp,rfl⟩
    exact ⟨a,λx C=>b x (by rw [bN]; exact gq _ C),λj m o=>(aI.mp m).elim (λz=>by rw [z]; exact b _ B) λz=>e j z o⟩
  .rw [if_neg c]
   obtain ⟨a,b,e⟩:=U2 hg g q l f r p
   exact ⟨a,b,λj m o=>(aI.mp m).elim (λz=>absurd (z ▸ o) c) λz=>e j z o⟩
theorem W0 (hg:zT ts) (h:Lv ts n k C L):∀ f e,(∀ w∈f,w∈L)->(∀ v∈e,Sh ts n v/\v.length=k+1)->((C++L++e).map (zp ts n)).Nodup →
  (∀ v∈ui ts n e f,Sh ts n v/\v.length=k+1)/\((C++L++ui ts n e f).map (zp ts n)).Nodup/\(∀ x∈e.map (zp ts n),x∈(ui ts n e f).map (zp ts n))/\∀ w∈f,∀ i,i < n->J8 (zO (zb ts) w (zL n i))=true->zp ts n (w++[i])∈(ui ts n e f).map (zp ts n)
 | [],e,_,l,nd=>⟨l,nd,λ_ h=>h,λw j=>(by cases j)⟩
 | w :: f,e,q,l,nd=>by
  have j:=q w aN
  obtain ⟨o,F⟩:=h.sh w j
  have m:∀ i∈aw n,i < n:=λi hi=>bT.mp hi
  obtain ⟨B,A,y⟩:=U2 hg o F (aw n) e m l
  have inw:∀ v∈C++L++e,aj n v:=λv g=>by
   rcases bE.mp g with z | z
   .rcases bE.mp z with z | z
    .exact (h.shC v z).1.1
    .exact (h.sh v z).1.1
   .exact (l v z).1.1
  obtain ⟨X,s,J,I,r,H⟩:=qw (ts:=ts) o.1 (aw n) (C++L++e) m inw nd
  have u:=Wn hg h j (aw n) e m
  have E:((C++L++eE ts n w e (aw n)).map (zp ts n)).Nodup:=by rw [<- u,s]; exact r
  obtain ⟨a,b,c,d⟩:=W0 hg h f (eE ts n w e (aw n)) (λv g=>q v (aX _ g)) B E
  unfold ui
  refine ⟨a,b,λx G=>c x (A x G),λv g i hi p=>?_⟩
  rcases aI.mp g with z | z
  .subst z
   exact c _ (y i (bT.mpr hi) p)
  .exact d v z i hi p
def GD (hg:zT ts) (h:Lv ts n k C L):Lv ts n (k+1) (C++L) (ui ts n [] L):=by
 obtain ⟨a,b,_,d⟩:=W0 hg h L [] (λ_ h=>h) (λv r=>(by cases r)) (by rw [bx]; exact h.nd)
 refine ⟨a,λw l=>?_,b,λv f j=>?_,λv f j=>?_⟩
 .rcases bE.mp l with z | z
  .exact ⟨(h.shC w z).1,Ln (h.shC w z).2⟩
  .exact ⟨(h.sh w z).1,by rw [(h.sh w z).2]; omega⟩
 .rw [bN,bE]
  by_cases c:v.length < k
  .exact .inl (h.prev v f c)
  .exact .inr (h.cur v f (by omega))
 .obtain ⟨u,i,rfl⟩:∃ u i,v=u++[i]:=by
   have p:v≠[]:=λz=>by rw [z] at j; simp at j
   exact ⟨v.dropLast,v.getLast p,(g3v p).symm⟩
  rw [aH,bX] at j
  have m:=Sh.init f
  have hi:i < n:=f.1 i (by simp)
  obtain ⟨w,l,e⟩:=aR.mp (h.cur u m (by omega))
  obtain ⟨g,x⟩:=h.sh w l
  have o:=WE i g.1 m.1 hi e
  have nz:=vm (ts:=ts) g.1 hi
  have ab:J8 (zO (zb ts) w (zL n i))=true:=by
   rcases yR hg g.1 hi g.2 with ⟨q,_⟩ | ⟨_,s,r3⟩
   .exact (q.abv nz).1
   .exfalso
    have:=(r3.cong ((xJ (g.1.app (aj.one hi)) f.1).mp o)).uniq f.2
    rw [aH,bX] at this
    omega
  rw [<- o]
  exact d w l i hi ab
theorem Qw (hg:zT ts) (d:Full ts n M) (g:M.length<=60):∀ j F k C L,Lv ts n k C L->M.length < C.length+j->M.length<=C.length+F->uL ts n F (C++L) C.length=C++rb ts n j L
 | j,F,k,C,L,h,h1,h2=>by
  have inw:∀ v∈C++L,aj n v:=λv b=>(bE.mp b).elim (λz=>(h.shC v z).1.1) λz=>(h.sh v z).1.1
  have le:=d.most inw h.nd
  rw [aH] at le
  obtain ⟨j,rfl⟩:∃ i,j=i+1:=⟨j - 1,by omega⟩
  unfold rb
  by_cases c:L=[]
  .subst c
   rw [if_pos rfl,bx]
   cases F with
   | zero=>rfl
   | succ F =>
    unfold uL
    rw [ir (aM _)]
  .rw [if_neg c]
   have l:0 < L.length:=rN.mpr c
   obtain ⟨f,rfl⟩:∃ f,F=f+L.length:=⟨F - L.length,by omega⟩
   have a:=W2 hg d g h L [] [] f rfl (λv b=>(by cases b)) (by rw [bx]; exact h.nd)
   rw [bx,aE,Nat.add_zero] at a
   have e:=Qw hg d g j f (k+1) (C++L) (ui ts n [] L) (GD hg h) (by rw [aH]; omega) (by rw [aH]; omega)
   rw [aH] at e
   rw [a,e,b9]
def kU:Lv ts n 0 [] [[]]:=⟨λw a=>by
  rw [hJ] at a
  subst a
  exact ⟨⟨λi h=>(by cases h),bO.nil⟩,rfl⟩,λw a=>(by cases a),by simp,λv _ h=>by omega,λv _ h=>by
  rw [oP.mp h]
  simp⟩
def Up (hg:zT ts) (a:Full ts n M) (b:M.length<=60) (m:60<=F) (l:61<=j):uL ts n F [[]] 0=rb ts n j [[]]/\(uL ts n F [[]] 0).length=M.length:=by
 have e:=Qw hg a b j F 0 [] [[]] kU (by simp; omega) (by simp; omega)
 rw [a_,a_,aE] at e
 refine ⟨e,?_⟩
 have e2:=Qw hg a b 61 100 0 [] [[]] kU (by simp; omega) (by simp; omega)
 have f:=Qw hg a b 61 F 0 [] [[]] kU (by simp; omega) (by simp; omega)
 rw [a_,a_,aE] at e2 f
 obtain ⟨s1,s2,g,c⟩:=jl (ts:=ts) (n:=n) 100 [[]] 0 (λv d=>by rw [hJ] at d; subst d; exact λi h=>(by cases h)) (by simp) (by simp) (λq w k=>by omega) (by omega) (by simp; omega)
 rw [e2] at s1 s2 g c
 rw [f]
 rcases c with z | z
 .have:=a.most s1 s2
  omega
 .exact z.same a
def Qx {M:List (List Nat)} (d:∀ w∈M,aj n w) (nd:(M.map (zp ts n)).Nodup) (e:61 < M.length) (g:62<=F):61 < (uL ts n F [[]] 0).length/\(uL ts n F [[]] 0).length<=61+n:=by
 obtain ⟨s1,s2,c,b⟩:=jl (ts:=ts) (n:=n) F [[]] 0 (λv a=>by rw [hJ] at a; subst a; exact λi h=>(by cases h)) (by simp) (by simp) (λq w f=>by omega) (by omega) (by simp; omega)
 refine ⟨?_,c⟩
 rcases b with z | z
 .exact z
 .have:=z.most d nd
  omega
def WZ (d:Sh ts n v) (h:61<=v.length):∃ M:List (List Nat),61 < M.length/\(∀ w∈M,aj n w)/\(M.map (zp ts n)).Nodup:=by
 refine ⟨(aw 62).map λk=>v.take k,by simp,λw e=>?_,?_⟩
 .obtain ⟨k,_,rfl⟩:=aR.mp e
  exact λi hi=>d.1 i (List.mem_of_mem_take hi)
 .rw [bM,Qp]
  have sh:∀ k,Sh ts n (v.take k):=λk=>Sh.cut (a:=[]) (b:=v.take k) (c:=v.drop k) (by rw [a_,oN]; exact d)
  refine List.pairwise_lt_range.imp_of_mem λ{a b} g f j z=>?_
  have:=(sh a).same_len (sh b) ((xJ (sh a).1 (sh b).1).mp z)
  rw [bT] at g f
  rw [oI,oI] at this
  omega
end
end GH
namespace Pk71
open PySem PySem.Spec PyProof.Rows L2 FL
def top (i:Nat):Stmt:=PySem.Challenge.pw_mirrorhouse_k71_places.main.body.getD i (.Pass ⟨0,0,0,0⟩)
abbrev KQ:Stmt:=top 8
abbrev VT:Stmt:=top 9
abbrev VW:Stmt:=top 10
abbrev uF:Stmt:=top 11
abbrev KL:Stmt:=top 12
abbrev Zr:Stmt:=top 16
abbrev KO:Stmt:=top 17
abbrev uG:Stmt:=top 23
abbrev Zq:Stmt:=top 24
abbrev Zs:Stmt:=top 25
abbrev VU:Stmt:=top 26
abbrev uH:Stmt:=top 27
abbrev Xz:Stmt:=top 28
abbrev uf:Stmt:=top 29
abbrev vg:Stmt:=top 30
abbrev xa:Stmt:=top 31
abbrev wy:Stmt:=top 32
abbrev vK:Stmt:=top 33
abbrev vf:Stmt:=top 34
abbrev Zy:Stmt:=top 35
abbrev VY:Stmt:=top 36
abbrev Zz:Stmt:=top 37
abbrev wz:Stmt:=top 38
abbrev ZA:Stmt:=top 39
abbrev KJ:Stmt:=top 40
abbrev Xt:Stmt:=top 44
abbrev jZ:Stmt:=top 45
abbrev MK:Stmt:=top 46
abbrev Xy:Stmt:=top 47
abbrev Zt:Stmt:=top 48
abbrev xy:Stmt:=top 49
abbrev j4:Stmt:=top 50
abbrev j5:Stmt:=top 52
abbrev ve:Stmt:=top 53
abbrev kO:Stmt:=top 54
abbrev KS:Stmt:=top 56
abbrev VX:Stmt:=top 57
abbrev Zu:Stmt:=top 58
abbrev Xu:Stmt:=top 59
abbrev Xw:Stmt:=top 60
abbrev Zw:Stmt:=top 61
abbrev Zv:Stmt:=top 62
abbrev Zx:Stmt:=top 64
abbrev j3:Stmt:=top 65
abbrev j0:Stmt:=top 66
abbrev Xx:Stmt:=top 67
abbrev Xv:Stmt:=top 68
abbrev WA:Stmt:=top 69
structure Txt (w:Ey) (K:A6) (mg:Str->Option Value):Prop where
 base:True
 ValueError_b:mg "ValueError"=none
 all_b:mg "all"=none
 bool_b:mg "bool"=none
 enumerate_b:mg "enumerate"=none
 int_b:mg "int"=none
 isinstance_b:mg "isinstance"=none
 len_b:mg "len"=none
 list_b:mg "list"=none
 max_b:mg "max"=none
 min_b:mg "min"=none
 range_b:mg "range"=none
 reversed_b:mg "reversed"=none
 sorted_b:mg "sorted"=none
 tuple_b:mg "tuple"=none
 zip_b:mg "zip"=none
 COMMON_TURN_c:∃ t,mg "COMMON_TURN"=some (Value.int 3 t)
 NOT_TOLD_c:∃ t,mg "NOT_TOLD"=some (Value.int 2 t)
 NOUGHT_c:GTup K mg "NOUGHT" [(.int 0),(.int 0)]
 NO_KIND_c:∃ t,mg "NO_KIND"=some (Value.str "-" t)
 ONE_c:GTup K mg "ONE" [(.int 1),(.int 0)]
 PULLS_BELOW_NOUGHT_c:GDict K mg "PULLS_BELOW_NOUGHT" [(0,(.tup [(.int 2),(.int 0)])),(2,(.tup [(.int 0),(.int 0)])),(3,(.tup [(.int 1),(.int 0)])),(4,(.tup [(.int 2),(.int 0)])),(5,(.tup [(.int 0),(.int 1)])),(6,(.tup [(.int 3),(.int 0)]))]
 RARE_CHAINS_c:GDictT K mg "RARE_CHAINS" [([3,4,3],(.str "f4")),([3,5],(.str "h3")),([3,3,5],(.str "h4")),([5],(.str "i5")),([6],(.str "i6"))]
 RARE_DEGREES_c:GDictS w K mg "RARE_DEGREES" [("e6",(.tup [(.int 2),(.int 5),(.int 6),(.int 8),(.int 9),(.int 12)])),("f4",(.tup [(.int 2),(.int 6),(.int 8),(.int 12)])),("h3",(.tup [(.int 2),(.int 6),(.int 10)])),("h4",(.tup [(.int 2),(.int 12),(.int 20),(.int 30)])),("i5",(.tup [(.int 2),(.int 5)])),("i6",(.tup [(.int 2),(.int 6)]))]
def MC:FnScope ["x","y"] ["x","y"] (zl KQ):=⟨rfl,rfl,rfl,by decide +kernel,rfl,by decide +kernel,by decide +kernel⟩
noncomputable def BE:{F:FS // ∀ {P w K mg base f fd} (a:Fun K "plus" "plus" KQ f fd) (T:Txt w K mg) ,FnOk P w K mg base bg 1 f fd ["x","y"] (spF K 2 (yx 2 F))} :=
 ⟨_,λa T  => zV (k:=0) rfl rfl a MC λar A outer s H E b=>(zg (zC (xN (za (yJ (mo (xc (mo (dv 0)) (mo zm))) (mo (xc (mo (dv 1)) (mo zm)))) (za (yJ (mo (xc (mo (dv 0)) (mo zm))) (mo (xc (mo (dv 1)) (mo zm)))) zi)))))⟩
noncomputable def Z5:List D->Option D:=yx 2 BE.1
def U8:FnScope ["x","y","both"] ["x","y"] (zl VT):=⟨rfl,rfl,rfl,by decide +kernel,rfl,by decide +kernel,by decide +kernel⟩
noncomputable def US:{F:FS // ∀ {P w K mg base f fd} (a:Fun K "times" "times" VT f fd) (T:Txt w K mg) ,FnOk P w K mg base bg 1 f fd ["x","y"] (spF K 2 (yx 3 F))} :=
 ⟨_,λa T  => zV (k:=0) rfl rfl a U8 λar A outer s H E b=>(zd (zX 2 U8.nd (vP (mo (xc (mo (dv 0)) (mo zm))) (mo (xc (mo (dv 1)) (mo zm))))) (zg (zC (xN (za (yJ (mo (vP (mo (xc (mo (dv 0)) (mo zm))) (mo (xc (mo (dv 1)) (mo zm))))) (mo (dv 2))) (za (yJ (mo (yJ (mo (vP (mo (xc (mo (dv 0)) (mo zm))) (mo (xc (mo (dv 1)) (mo zm))))) (mo (vP (mo (xc (mo (dv 0)) (mo zm))) (mo (xc (mo (dv 1)) (mo zm))))))) (mo (dv 2))) zi))))))⟩
noncomputable def qJ:List D->Option D:=yx 3 US.1
def B7:FnScope ["x"] ["x"] (zl VW):=⟨rfl,rfl,rfl,by decide +kernel,rfl,by decide +kernel,by decide +kernel⟩
noncomputable def UU:{F:FS // ∀ {P w K mg base f fd} (a:Fun K "minus" "minus" VW f fd) (T:Txt w K mg) ,FnOk P w K mg base bg 1 f fd ["x"] (spF K 1 (yx 1 F))} :=
 ⟨_,λa T  => zV (k:=0) rfl rfl a B7 λar A outer s H E b=>(zg (zC (xN (za (J0 (mo (xc (mo (dv 0)) (mo zm)))) (za (J0 (mo (xc (mo (dv 0)) (mo zm)))) zi)))))⟩
noncomputable def qK:List D->Option D:=yx 1 UU.1
def Xp:FnScope ["number"] ["number"] (zl uF):=⟨rfl,rfl,rfl,by decide +kernel,rfl,by decide +kernel,by decide +kernel⟩
noncomputable def wR:{F:FS // ∀ {P w K mg base f fd} (a:Fun K "whole_sign" "whole_sign" uF f fd) (T:Txt w K mg) ,FnOk P w K mg base bg 1 f fd ["number"] (spF K 1 (yx 1 F))} :=
 ⟨_,λa T  => zV (k:=0) rfl rfl a Xp λar A outer s H E b=>(zd (xo (Vk (mo (dv 0)) (mo zm)) (zg (zC zm)) zW) (zd (xo (JY (mo (dv 0)) (mo zm)) (zg (zC (J0 (mo zm)))) zW) (zg (zC zm))))⟩
noncomputable def wL:List D->Option D:=yx 1 wR.1
def Xr:FnScope ["x","whole","golden","product"] ["x"] (zl KL):=⟨rfl,rfl,rfl,by decide +kernel,rfl,by decide +kernel,by decide +kernel⟩
noncomputable def Jf:{F:FS // ∀ {P w K mg base f fd} (b:Fun K "sign" "sign" KL f fd) (T:Txt w K mg) (a:HasFn P w K mg base 1 "whole_sign" 1 wL),FnOk P w K mg base bg 2 f fd ["x"] (spF K 1 (yx 4 F))} :=
 ⟨_,λb T a=>zV (k:=1) rfl rfl b Xr λar A outer s H E c=>(zd (zX 1 Xr.nd (aQ a (za (xc (mo (dv 0)) (mo zm)) zi))) (zd (zX 2 Xr.nd (aQ a (za (xc (mo (dv 0)) (mo zm)) zi))) (zd (xo (To (mo (vP (mo (dv 1)) (mo (dv 2)))) (mo zm)) (zg (zC (aQ a (za (yJ (mo (dv 1)) (mo (dv 2))) zi)))) zW) (zd (zX 3 Xr.nd (YE (mo (yJ (mo (vP (mo (xc (mo (dv 0)) (mo zm))) (mo (xc (mo (dv 0)) (mo zm))))) (mo (vP (mo (xc (mo (dv 0)) (mo zm))) (mo (xc (mo (dv 0)) (mo zm))))))) (mo (vP (mo (xc (mo (dv 0)) (mo zm))) (mo (xc (mo (dv 0)) (mo zm))))))) (zg (zC (vP (mo (dv 1)) (mo (aQ a (za (dv 3) zi))))))))))⟩
noncomputable def Y1:List D->Option D:=yx 4 Jf.1
def va:FnScope ["house","i","j","lesser","greater","first","second","m"] ["house","i","j"] (zl Zr):=⟨rfl,rfl,rfl,by decide +kernel,rfl,by decide +kernel,by decide +kernel⟩
noncomputable def Yl:{F:FS // ∀ {P w K mg base f fd} (b:Fun K "turn_of" "turn_of" Zr f fd) (T:Txt w K mg) ,FnOk P w K mg base bg 1 f fd ["house","i","j"] (spF K 3 (yx 8 F))} :=
 ⟨_,λb T  => zV (k:=0) rfl rfl b va λar A outer s H E a=>(zd (zX 3 va.nd (yj (Yg rfl) Uw rfl T.min_b (by rfl) (zk (mo (dv 1)) (zk (mo (dv 2)) zA)))) (zd (zX 4 va.nd (yj (jJ rfl) XU rfl T.max_b (by rfl) (zk (mo (dv 1)) (zk (mo (dv 2)) zA)))) (zd (wt Ea rfl (xp (xc (mo (dv 0)) (mo zm))) (wQ (n:=3) rfl (zH (ya 5 va.nd) (zH (ya 6 va.nd) (zH (ya 7 va.nd) xq)))) (zg (xo (IP (jE (vN a (mo (dv 5)) (mo (dv 3))) (uo (vN a (mo (dv 6)) (mo (dv 4)))))) (zg (zC (dv 7))) zW))) (zg (zC (Vq rfl T.NOT_TOLD_c))))))⟩
noncomputable def vq:List D->Option D:=yx 8 Yl.1
def KC:FnScope ["house","i","j","turn"] ["house","i","j"] (zl KO):=⟨rfl,rfl,rfl,by decide +kernel,rfl,by decide +kernel,by decide +kernel⟩
noncomputable def vA:{F:FS // ∀ {P w K mg base f fd} (d:Fun K "pull" "pull" KO f fd) (T:Txt w K mg) (b:HasFn P w K mg base 1 "minus" 1 qK) (c:HasFn P w K mg base 1 "turn_of" 3 vq),FnOk P w K mg base bg 2 f fd ["house","i","j"] (spF K 3 (yx 4 F))} :=
 ⟨_,λd T b c=>zV (k:=1) rfl rfl d KC λar A outer s H E a=>(zd (xo (vN a (mo (dv 1)) (mo (dv 2))) (zg (zC (xN (za zm (za zm zi))))) zW) (zd (zX 3 KC.nd (aQ c (za (dv 0) (za (dv 1) (za (dv 2) zi))))) (zd (xo (IP (jE (Vk (mo (dv 1)) (mo (dv 2))) (uo (Tj a (mo (dv 3)) (mo (xN (za zm (za zm zi)))))))) (zg (zC (xN (za (J0 (mo zm)) (za zm zi))))) zW) (zg (zC (aQ b (za (Pu rfl T.PULLS_BELOW_NOUGHT_c (mo (dv 3))) zi)))))))⟩
noncomputable def wj:List D->Option D:=yx 4 vA.1
def Xs:FnScope ["house","mirror","others"] ["house","mirror","others"] (zl uG):=⟨rfl,rfl,rfl,by decide +kernel,rfl,by decide +kernel,by decide +kernel⟩
noncomputable def uV:{F:FS // ∀ {P w K mg base f fd} (c:Fun K "neighbours" "neighbours" uG f fd) (T:Txt w K mg) (b:HasFn P w K mg base 1 "turn_of" 3 vq),FnOk P w K mg base bg 2 f fd ["house","mirror","others"] (spF K 3 (yx 3 F))} :=
 ⟨_,λc T b=>zV (k:=1) rfl rfl c Xs λar A outer s H E a=>(zg (zC (ED (yY (own:=["other"]) (frees:=["mirror","house"]) (caps:=[1,0]) rfl (.of (by kernel_rfl)) rfl z6 (xp (dv 2)) (λcl C s H fp=>⟨(cJ 0),(Ya (IP (jE (X0 a (mo (dv 0)) (mo (dv 1))) (uo (X0 a (mo (aQ b (za (dv 2) (za (dv 1) (za (dv 0) zi))))) (mo (Vq rfl T.NOT_TOLD_c))))))),(dv 0)⟩)))))⟩
noncomputable def yv:List D->Option D:=yx 3 uV.1
def Jr:FnScope ["mirrors","mirror"] ["mirrors","mirror"] (zl Zq):=⟨rfl,rfl,rfl,by decide +kernel,rfl,by decide +kernel,by decide +kernel⟩
noncomputable def Yk:{F:FS // ∀ {P w K mg base f fd} (a:Fun K "without" "without" Zq f fd) (T:Txt w K mg) ,FnOk P w K mg base bg 1 f fd ["mirrors","mirror"] (spF K 2 (yx 2 F))} :=
 ⟨_,λa T  => zV (k:=0) rfl rfl a Jr λar A outer s H E b=>(zg (zC (ED (yY (own:=["other"]) (frees:=["mirror"]) (caps:=[1]) rfl (.of (by kernel_rfl)) rfl z6 (xp (dv 0)) (λcl C s H fp=>⟨(cJ 0),(Ya (X0 b (mo (dv 0)) (mo (dv 1)))),(dv 0)⟩)))))⟩
noncomputable def vp:List D->Option D:=yx 2 Yk.1
def wx:FnScope ["house","mirror","part","left","place","near"] ["house","mirror"] (zl Zs):=⟨rfl,rfl,rfl,by decide +kernel,rfl,by decide +kernel,by decide +kernel⟩
noncomputable def Ym:{F:FS // ∀ {P w K mg base f fd} (c:Fun K "part_of" "part_of" Zs f fd) (T:Txt w K mg) (b:HasFn P w K mg base 2 "neighbours" 3 yv) (a:HasFn P w K mg base 1 "without" 2 vp),FnOk P w K mg base bg 3 f fd ["house","mirror"] (spF K 2 (yx 6 F))} :=
 ⟨_,λc T b a=>zV (k:=2) rfl rfl c wx λar A outer s H E d=>(zd (wB 2 wx.nd (xF (za (dv 1) zi))) (zd (zX 3 wx.nd (aQ a (za (ED (HJ rfl rfl T.list_b rfl T.range_b (zk (mo (xc (mo (dv 0)) (mo zm))) zA))) (za (dv 1) zi)))) (zd (zX 4 wx.nd zm) (zd (jG 100000 Ea (JY (mo (dv 4)) (mo (yj yf yX rfl T.len_b (by rfl) (zk (hV 2) zA)))) (zd (zX 5 wx.nd (aQ b (za (dv 0) (za (xc (hV 2) (mo (dv 4))) (za (dv 3) zi))))) (zd (uQ 2 (dv 5)) (zd (qk 3 wx.nd (own:=["other"]) (frees:=["near"]) (caps:=[5]) rfl (.of (by kernel_rfl)) rfl z6 (xp (dv 3)) (λcl C s H fp=>⟨(cJ 0),(Ya (DM d (mo (dv 0)) (mo (dv 1)))),(dv 0)⟩)) (zg (Pm 4 wx.nd S5 zm)))))) (zg (zC (ED (Vl rfl T.sorted_b (zk (hV 2) zA)))))))))⟩
noncomputable def jt:List D->Option D:=yx 6 Ym.1
def U9:FnScope ["house","reached"] ["house"] (zl VU):=⟨rfl,rfl,rfl,by decide +kernel,rfl,by decide +kernel,by decide +kernel⟩
noncomputable def UT:{F:FS // ∀ {P w K mg base f fd} (b:Fun K "parts" "parts" VU f fd) (T:Txt w K mg) (a:HasFn P w K mg base 3 "part_of" 2 jt),FnOk P w K mg base bg 4 f fd ["house"] (spF K 1 (yx 2 F))} :=
 ⟨_,λb T a=>zV (k:=3) rfl rfl b U9 λar A outer s H E c=>(zd (qk 1 U9.nd (own:=["mirror"]) (frees:=["house"]) (caps:=[0]) rfl (.of (by kernel_rfl)) rfl z6 (xG rfl T.range_b (zk (mo (xc (mo (dv 0)) (mo zm))) zA)) (λcl C s H fp=>⟨(cJ 0),w5,(aQ a (za (dv 1) (za (dv 0) zi)))⟩)) (zg (zC (ED (yY (own:=["mirror","part"]) (frees:=[]) (caps:=[]) rfl (.of (by kernel_rfl)) rfl (ky (yI z6 (yI z6 uM))) (UE rfl T.enumerate_b (dv 1)) (λcl C s H fp=>⟨(wQ (n:=2) rfl (zH (cJ 0) (zH (cJ 1) xq))),(Ya (vN c (mo (xc (mo (dv 1)) (mo zm))) (mo (dv 0)))),(dv 1)⟩))))))⟩
noncomputable def Uv:List D->Option D:=yx 2 UT.1
def xX:FnScope ["house","mirrors","first","order","left","near"] ["house","mirrors","first"] (zl uH):=⟨rfl,rfl,rfl,by decide +kernel,rfl,by decide +kernel,by decide +kernel⟩
noncomputable def uX:{F:FS // ∀ {P w K mg base f fd} (c:Fun K "chain_from" "chain_from" uH f fd) (T:Txt w K mg) (b:HasFn P w K mg base 2 "neighbours" 3 yv) (a:HasFn P w K mg base 1 "without" 2 vp),FnOk P w K mg base bg 3 f fd ["house","mirrors","first"] (spF K 3 (yx 6 F))} :=
 ⟨_,λc T b a=>zV (k:=2) rfl rfl c xX λar A outer s H E d=>(zd (wB 3 xX.nd (xF (za (dv 2) zi))) (zd (zX 4 xX.nd (aQ a (za (dv 1) (za (dv 2) zi)))) (zd (jG 100000 Ea (Vk (mo (yj yf yX rfl T.len_b (by rfl) (zk (mo (dv 4)) zA))) (mo zm)) (zd (zX 5 xX.nd (aQ b (za (dv 0) (za (xc (hV 3) (mo (J0 (mo zm)))) (za (dv 4) zi))))) (zd (xo (X0 d (mo (yj yf yX rfl T.len_b (by rfl) (zk (mo (dv 5)) zA))) (mo zm)) (zg (zC UG)) zW) (zd (wO 3 (xc (mo (dv 5)) (mo zm))) (zg (zX 4 xX.nd (aQ a (za (dv 4) (za (xc (mo (dv 5)) (mo zm)) zi))))))))) (uq 3 (zg (zC (dv 3)))))))⟩
noncomputable def wN:List D->Option D:=yx 6 uX.1
def Wz:FnScope ["house","mirrors","orders"] ["house","mirrors"] (zl Xz):=⟨rfl,rfl,rfl,by decide +kernel,rfl,by decide +kernel,by decide +kernel⟩
noncomputable def Wf:{F:FS // ∀ {P w K mg base f fd} (b:Fun K "chains" "chains" Xz f fd) (T:Txt w K mg) (a:HasFn P w K mg base 3 "chain_from" 3 wN),FnOk P w K mg base bg 4 f fd ["house","mirrors"] (spF K 2 (yx 3 F))} :=
 ⟨_,λb T a=>zV (k:=3) rfl rfl b Wz λar A outer s H E c=>(zd (qk 2 Wz.nd (own:=["first"]) (frees:=["house","mirrors"]) (caps:=[0,1]) rfl (.of (by kernel_rfl)) rfl z6 (xp (dv 1)) (λcl C s H fp=>⟨(cJ 0),w5,(aQ a (za (dv 1) (za (dv 2) (za (dv 0) zi))))⟩)) (zg (zC (ED (yY (own:=["order"]) (frees:=[]) (caps:=[]) rfl (.of (by kernel_rfl)) rfl z6 (xp (dv 2)) (λcl C s H fp=>⟨(cJ 0),(Ya (QV (mo (dv 0)) (mo UG))),(dv 0)⟩))))))⟩
noncomputable def jz:List D->Option D:=yx 3 Wf.1
def Yz:FnScope ["house","order"] ["house","order"] (zl uf):=⟨rfl,rfl,rfl,by decide +kernel,rfl,by decide +kernel,by decide +kernel⟩
noncomputable def uu:{F:FS // ∀ {P w K mg base f fd} (b:Fun K "turns_along" "turns_along" uf f fd) (T:Txt w K mg) (a:HasFn P w K mg base 1 "turn_of" 3 vq),FnOk P w K mg base bg 2 f fd ["house","order"] (spF K 2 (yx 2 F))} :=
 ⟨_,λb T a=>zV (k:=1) rfl rfl b Yz λar A outer s H E c=>(zg (zC (ED (yY (own:=["i","j"]) (frees:=["house"]) (caps:=[0]) rfl (.of (by kernel_rfl)) rfl (ky (yI z6 (yI z6 uM))) (QX rfl T.zip_b (dv 1) (X2 (mo (dv 1)) (HF (mo zm)) Pn)) (λcl C s H fp=>⟨(wQ (n:=2) rfl (zH (cJ 0) (zH (cJ 1) xq))),w5,(aQ a (za (dv 2) (za (dv 0) (za (dv 1) zi))))⟩)))))⟩
noncomputable def w6:List D->Option D:=yx 2 uu.1
def uw:FnScope ["turns","mirrors"] ["turns"] (zl vg):=⟨rfl,rfl,rfl,by decide +kernel,rfl,by decide +kernel,by decide +kernel⟩
noncomputable def vD:{F:FS // ∀ {P w K mg base f fd} (b:Fun K "kind_of_chain" "kind_of_chain" vg f fd) (T:Txt w K mg) ,FnOk P w K mg base bg 1 f fd ["turns"] (spF K 1 (yx 2 F))} :=
 ⟨_,λb T  => zV (k:=0) rfl rfl b uw λar A outer s H E a=>(zd (zX 1 uw.nd (yJ (mo (yj yf yX rfl T.len_b (by rfl) (zk (mo (dv 0)) zA))) (mo zm))) (zd (xo (vN a (mo (dv 0)) (mo (ED (HH (mo (ED (xF (za (Vq rfl T.COMMON_TURN_c) zi)))) (mo (YE (mo (dv 1)) (mo zm))))))) (zg (zC (HV (HN (HM (mo (dv 1)) HL))))) zW) (zd (xo (vN a (mo (dv 0)) (mo (yJ (mo (ED (HH (mo (ED (xF (za (Vq rfl T.COMMON_TURN_c) zi)))) (mo (YE (mo (dv 1)) (mo zm)))))) (mo (ED (xF (za zm zi))))))) (zg (zC (HV (HN (HM (mo (dv 1)) HL))))) zW) (zg (zC (Tw a rfl T.RARE_CHAINS_c (xw ye xn rfl T.tuple_b (by rfl) (zk (mo (dv 0)) zA)) (Vp rfl T.NO_KIND_c)))))))⟩
noncomputable def xm:List D->Option D:=yx 2 vD.1
def xW:FnScope ["order","mirror","mirrors"] ["order","mirror"] (zl xa):=⟨rfl,rfl,rfl,by decide +kernel,rfl,by decide +kernel,by decide +kernel⟩
noncomputable def xf:{F:FS // ∀ {P w K mg base f fd} (b:Fun K "kind_with_one_beside" "kind_with_one_beside" xa f fd) (T:Txt w K mg) ,FnOk P w K mg base bg 1 f fd ["order","mirror"] (spF K 2 (yx 3 F))} :=
 ⟨_,λb T  => zV (k:=0) rfl rfl b xW λar A outer s H E a=>(zd (zX 2 xW.nd (yJ (mo (yj yf yX rfl T.len_b (by rfl) (zk (mo (dv 0)) zA))) (mo zm))) (zd (xo (IP (jE (To (mo (dv 2)) (mo zm)) (uo (vN a (mo (xc (mo (dv 0)) (mo zm))) (mo (dv 1)))))) (zg (zC (HV (HN (HM (mo (dv 2)) HL))))) zW) (zd (xo (IP (jE (vN a (mo (dv 2)) (mo zm)) (uo (vN a (mo (xc (mo (dv 0)) (mo zm))) (mo (dv 1)))))) (zg (zC Pp)) zW) (zg (zC (Vp rfl T.NO_KIND_c))))))⟩
noncomputable def zZ:List D->Option D:=yx 3 xf.1
def qZ:FnScope ["house","part"] ["house","part"] (zl wy):=⟨rfl,rfl,rfl,by decide +kernel,rfl,by decide +kernel,by decide +kernel⟩
noncomputable def wF:{F:FS // ∀ {P w K mg base f fd} (d:Fun K "kinds_by_chains" "kinds_by_chains" wy f fd) (T:Txt w K mg) (a:HasFn P w K mg base 4 "chains" 2 jz) (c:HasFn P w K mg base 1 "kind_of_chain" 1 xm) (b:HasFn P w K mg base 2 "turns_along" 2 w6),FnOk P w K mg base bg 5 f fd ["house","part"] (spF K 2 (yx 2 F))} :=
 ⟨_,λd T a c b=>zV (k:=4) rfl rfl d qZ λar A outer s H E e=>(zg (zC (ED (yY (own:=["order"]) (frees:=["house"]) (caps:=[0]) rfl (.of (by kernel_rfl)) rfl z6 (xp (aQ a (za (dv 0) (za (dv 1) zi)))) (λcl C s H fp=>⟨(cJ 0),w5,(aQ c (za (aQ b (za (dv 1) (za (dv 0) zi))) zi))⟩)))))⟩
noncomputable def wA:List D->Option D:=yx 2 wF.1
def Zp:FnScope ["house","part"] ["house","part"] (zl vK):=⟨rfl,rfl,rfl,by decide +kernel,rfl,by decide +kernel,by decide +kernel⟩
noncomputable def vS:{F:FS // ∀ {P w K mg base f fd} (b:Fun K "all_by_three" "all_by_three" vK f fd) (T:Txt w K mg) ,FnOk P w K mg base bg 1 f fd ["house","part"] (spF K 2 (yx 2 F))} :=
 ⟨_,λb T  => zV (k:=0) rfl rfl b Zp λar A outer s H E a=>(zg (zC (yj (Ff rfl) N8 rfl T.all_b (by rfl) (zk (mo (ED (yY (own:=["i","j","m"]) (frees:=["part"]) (caps:=[1]) rfl (.of (by kernel_rfl)) rfl (ky (yI z6 (yI z6 (yI z6 uM)))) (xp (xc (mo (dv 0)) (mo zm))) (λcl C s H fp=>⟨(wQ (n:=3) rfl (zH (cJ 0) (zH (cJ 1) (zH (cJ 2) xq)))),(Ya (Tj a (mo (dv 0)) (mo (dv 3)))),(zab a (mo (dv 2)) (mo (Vq rfl T.COMMON_TURN_c)))⟩)))) zA))))⟩
noncomputable def xE:List D->Option D:=yx 2 vS.1
def yZ:FnScope ["house","part","told","end","near","orders"] ["house","part"] (zl vf):=⟨rfl,rfl,rfl,by decide +kernel,rfl,by decide +kernel,by decide +kernel⟩
noncomputable def vC:{F:FS // ∀ {P w K mg base f fd} (g:Fun K "kinds_by_ends" "kinds_by_ends" vf f fd) (T:Txt w K mg) (a:HasFn P w K mg base 1 "all_by_three" 2 xE) (b:HasFn P w K mg base 4 "chains" 2 jz) (c:HasFn P w K mg base 1 "kind_with_one_beside" 2 zZ) (e:HasFn P w K mg base 2 "neighbours" 3 yv) (d:HasFn P w K mg base 1 "without" 2 vp),FnOk P w K mg base bg 5 f fd ["house","part"] (spF K 2 (yx 6 F))} :=
 ⟨_,λg T a b c e d=>zV (k:=4) rfl rfl g yZ λar A outer s H E h=>(zd (wB 2 yZ.nd (xF zi)) (zd (xo (QU (jF (mo (aQ a (za (dv 0) (za (dv 1) zi)))))) (uq 2 (zg (zC (dv 2)))) zW) (zd (wt Ea rfl (xp (dv 1)) (ya 3 yZ.nd) (zd (zX 4 yZ.nd (aQ e (za (dv 0) (za (dv 3) (za (dv 1) zi))))) (zg (xo (vN h (mo (yj yf yX rfl T.len_b (by rfl) (zk (mo (dv 4)) zA))) (mo zm)) (zd (zX 5 yZ.nd (aQ b (za (dv 0) (za (aQ d (za (dv 1) (za (dv 3) zi))) zi)))) (zg (uQ 2 (ED (yY (own:=["order"]) (frees:=["near"]) (caps:=[4]) rfl (.of (by kernel_rfl)) rfl z6 (xp (dv 5)) (λcl C s H fp=>⟨(cJ 0),w5,(aQ c (za (dv 0) (za (xc (mo (dv 1)) (mo zm)) zi)))⟩)))))) zW)))) (uq 2 (zg (zC (dv 2)))))))⟩
noncomputable def wm:List D->Option D:=yx 6 vC.1
def YM:FnScope ["house","part","kind"] ["house","part"] (zl Zy):=⟨rfl,rfl,rfl,by decide +kernel,rfl,by decide +kernel,by decide +kernel⟩
noncomputable def Ys:{F:FS // ∀ {P w K mg base f fd} (c:Fun K "kind_of" "kind_of" Zy f fd) (T:Txt w K mg) (a:HasFn P w K mg base 5 "kinds_by_chains" 2 wA) (b:HasFn P w K mg base 5 "kinds_by_ends" 2 wm),FnOk P w K mg base bg 6 f fd ["house","part"] (spF K 2 (yx 3 F))} :=
 ⟨_,λc T a b=>zV (k:=5) rfl rfl c YM λar A outer s H E d=>(zd (wt Ea rfl (xp (yJ (mo (aQ a (za (dv 0) (za (dv 1) zi)))) (mo (aQ b (za (dv 0) (za (dv 1) zi)))))) (ya 2 YM.nd) (zg (xo (X0 d (mo (dv 2)) (mo (Vp rfl T.NO_KIND_c))) (zg (zC (dv 2))) zW))) (zg (zC (Vp rfl T.NO_KIND_c))))⟩
noncomputable def vw:List D->Option D:=yx 3 Ys.1
def B8:FnScope ["house"] ["house"] (zl VY):=⟨rfl,rfl,rfl,by decide +kernel,rfl,by decide +kernel,by decide +kernel⟩
noncomputable def UW:{F:FS // ∀ {P w K mg base f fd} (c:Fun K "kinds" "kinds" VY f fd) (T:Txt w K mg) (b:HasFn P w K mg base 6 "kind_of" 2 vw) (a:HasFn P w K mg base 4 "parts" 1 Uv),FnOk P w K mg base bg 7 f fd ["house"] (spF K 1 (yx 1 F))} :=
 ⟨_,λc T b a=>zV (k:=6) rfl rfl c B8 λar A outer s H E d=>(zg (zC (ED (yY (own:=["part"]) (frees:=["house"]) (caps:=[0]) rfl (.of (by kernel_rfl)) rfl z6 (xp (aQ a (za (dv 0) zi))) (λcl C s H fp=>⟨(cJ 0),w5,(xN (za (dv 0) (za (aQ b (za (dv 1) (za (dv 0) zi))) zi)))⟩)))))⟩
noncomputable def uP:List D->Option D:=yx 1 UW.1
def jY:FnScope ["house","part","kind"] ["house"] (zl Zz):=⟨rfl,rfl,rfl,by decide +kernel,rfl,by decide +kernel,by decide +kernel⟩
noncomputable def uW:{F:FS // ∀ {P w K mg base f fd} (b:Fun K "endless" "endless" Zz f fd) (T:Txt w K mg) (a:HasFn P w K mg base 7 "kinds" 1 uP),FnOk P w K mg base bg 8 f fd ["house"] (spF K 1 (yx 3 F))} :=
 ⟨_,λb T a=>zV (k:=7) rfl rfl b jY λar A outer s H E c=>(zd (wt Ea rfl (xp (aQ a (za (dv 0) zi))) (wQ (n:=2) rfl (zH (ya 1 jY.nd) (zH (ya 2 jY.nd) xq))) (zg (xo (vN c (mo (dv 2)) (mo (Vp rfl T.NO_KIND_c))) (zg (zC (xw ye xn rfl T.tuple_b (by rfl) (zk (mo (dv 1)) zA)))) zW))) (zg (zC UG)))⟩
noncomputable def wM:List D->Option D:=yx 3 uW.1
def q9:FnScope ["kind","mirrors"] ["kind","mirrors"] (zl wz):=⟨rfl,rfl,rfl,by decide +kernel,rfl,by decide +kernel,by decide +kernel⟩
noncomputable def yy:{F:FS // ∀ {P w K mg base f fd} (a:Fun K "degrees_of_kind" "degrees_of_kind" wz f fd) (T:Txt w K mg) ,FnOk P w K mg base bg 1 f fd ["kind","mirrors"] (spF K 2 (yx 2 F))} :=
 ⟨_,λa T  => zV (k:=0) rfl rfl a q9 λar A outer s H E b=>(zd (xo (Ph rfl T.RARE_DEGREES_c (dv 0)) (zg (zC (ED (HK rfl T.list_b (zk (mo (D4 rfl T.RARE_DEGREES_c (mo (dv 0)))) zA))))) zW) (zd (xo (jF (mo (QZ (dv 0) Pp))) (zg (zC (ED (HI rfl rfl T.list_b rfl T.range_b (zk (mo zm) (zk (mo (yJ (mo (dv 1)) (mo zm))) zA)))))) zW) (zd (xo (jF (mo (QZ (dv 0) Pp))) (zg (zC (ED (Vm rfl rfl T.list_b rfl T.range_b (zk (mo zm) (zk (mo (yJ (mo (vP (mo zm) (mo (dv 1)))) (mo zm))) (zk (mo zm) zA))))))) zW) (zg (zC (yJ (mo (ED (Vm rfl rfl T.list_b rfl T.range_b (zk (mo zm) (zk (mo (vP (mo zm) (mo (dv 1)))) (zk (mo zm) zA)))))) (mo (ED (xF (za (dv 1) zi))))))))))⟩
noncomputable def zK:List D->Option D:=yx 2 yy.1
def vU:FnScope ["house","word","told","part","kind"] ["house"] (zl ZA):=⟨rfl,rfl,rfl,by decide +kernel,rfl,by decide +kernel,by decide +kernel⟩
noncomputable def Yt:{F:FS // ∀ {P w K mg base f fd} (d:Fun K "degrees" "degrees" ZA f fd) (T:Txt w K mg) (c:HasFn P w K mg base 1 "degrees_of_kind" 2 zK) (b:HasFn P w K mg base 8 "endless" 1 wM) (a:HasFn P w K mg base 7 "kinds" 1 uP),FnOk P w K mg base bg 9 f fd ["house"] (spF K 1 (yx 5 F))} :=
 ⟨_,λd T c b a=>zV (k:=8) rfl rfl d vU λar A outer s H E e=>(zd (zX 1 vU.nd (aQ b (za (dv 0) zi))) (zd (xo (QV (mo (dv 1)) (mo UG)) (zg QW) zW) (zd (wB 2 vU.nd (xF zi)) (zd (wt Ea rfl (xp (aQ a (za (dv 0) zi))) (wQ (n:=2) rfl (zH (ya 3 vU.nd) (zH (ya 4 vU.nd) xq))) (zg (uQ 2 (aQ c (za (dv 4) (za (yj yf yX rfl T.len_b (by rfl) (zk (mo (dv 3)) zA)) zi)))))) (zg (zC (ED (Vl rfl T.sorted_b (zk (hV 2) zA)))))))))⟩
noncomputable def jy:List D->Option D:=yx 5 Yt.1
def Xq:FnScope ["house","product","degree"] ["house"] (zl KJ):=⟨rfl,rfl,rfl,by decide +kernel,rfl,by decide +kernel,by decide +kernel⟩
noncomputable def BD:{F:FS // ∀ {P w K mg base f fd} (b:Fun K "size" "size" KJ f fd) (T:Txt w K mg) (a:HasFn P w K mg base 9 "degrees" 1 jy),FnOk P w K mg base bg 10 f fd ["house"] (spF K 1 (yx 3 F))} :=
 ⟨_,λb T a=>zV (k:=9) rfl rfl b Xq λar A outer s H E c=>(zd (zX 1 Xq.nd zm) (zd (wt Ea rfl (xp (aQ a (za (dv 0) zi))) (ya 2 Xq.nd) (zg (Pl 1 Xq.nd (dv 2)))) (zg (zC (dv 1)))))⟩
noncomputable def Hh:List D->Option D:=yx 3 BD.1
def KB:FnScope ["house","i"] ["house","i"] (zl Xt):=⟨rfl,rfl,rfl,by decide +kernel,rfl,by decide +kernel,by decide +kernel⟩
noncomputable def Wa:{F:FS // ∀ {P w K mg base f fd} (a:Fun K "simple" "simple" Xt f fd) (T:Txt w K mg) ,FnOk P w K mg base bg 1 f fd ["house","i"] (spF K 2 (yx 2 F))} :=
 ⟨_,λa T  => zV (k:=0) rfl rfl a KB λar A outer s H E b=>(zg (zC (xw ye xn rfl T.tuple_b (by rfl) (zk (mo (ED (yY (own:=["j"]) (frees:=["i"]) (caps:=[1]) rfl (.of (by kernel_rfl)) rfl z6 (xG rfl T.range_b (zk (mo (xc (mo (dv 0)) (mo zm))) zA)) (λcl C s H fp=>⟨(cJ 0),w5,(Pt (vN b (mo (dv 0)) (mo (dv 1))) (HW rfl T.ONE_c) (HW rfl T.NOUGHT_c))⟩)))) zA))))⟩
noncomputable def jr:List D->Option D:=yx 2 Wa.1
def vd:FnScope ["house","i","row","less","j","number"] ["house","i","row"] (zl jZ):=⟨rfl,rfl,rfl,by decide +kernel,rfl,by decide +kernel,by decide +kernel⟩
noncomputable def ki:{F:FS // ∀ {P w K mg base f fd} (e:Fun K "mirrored" "mirrored" jZ f fd) (T:Txt w K mg) (d:HasFn P w K mg base 1 "minus" 1 qK) (a:HasFn P w K mg base 1 "plus" 2 Z5) (b:HasFn P w K mg base 2 "pull" 3 wj) (c:HasFn P w K mg base 1 "times" 2 qJ),FnOk P w K mg base bg 3 f fd ["house","i","row"] (spF K 3 (yx 6 F))} :=
 ⟨_,λe T d a b c=>zV (k:=2) rfl rfl e vd λar A outer s H E g=>(zd (zX 3 vd.nd (HW rfl T.NOUGHT_c)) (zd (wt Ea rfl (UE rfl T.enumerate_b (dv 2)) (wQ (n:=2) rfl (zH (ya 4 vd.nd) (zH (ya 5 vd.nd) xq))) (zg (zX 3 vd.nd (aQ a (za (dv 3) (za (aQ c (za (aQ b (za (dv 0) (za (dv 1) (za (dv 4) zi)))) (za (dv 5) zi))) zi)))))) (zg (zC (yJ (mo (yJ (mo (X2 (mo (dv 2)) Pn (HF (mo (dv 1))))) (mo (xN (za (aQ a (za (xc (mo (dv 2)) (mo (dv 1))) (za (aQ d (za (dv 3) zi)) zi))) zi))))) (mo (X2 (mo (dv 2)) (HF (mo (yJ (mo (dv 1)) (mo zm)))) Pn)))))))⟩
noncomputable def qf:List D->Option D:=yx 6 ki.1
def KD:FnScope ["house","word","row","mirror"] ["house","word","row"] (zl MK):=⟨rfl,rfl,rfl,by decide +kernel,rfl,by decide +kernel,by decide +kernel⟩
noncomputable def PU:{F:FS // ∀ {P w K mg base f fd} (b:Fun K "led" "led" MK f fd) (T:Txt w K mg) (a:HasFn P w K mg base 3 "mirrored" 3 qf),FnOk P w K mg base bg 4 f fd ["house","word","row"] (spF K 3 (yx 4 F))} :=
 ⟨_,λb T a=>zV (k:=3) rfl rfl b KD λar A outer s H E c=>(zd (wt Ea rfl (Ts rfl T.reversed_b (dv 1)) (ya 3 KD.nd) (zg (zX 2 KD.nd (aQ a (za (dv 0) (za (dv 3) (za (dv 2) zi))))))) (zg (zC (dv 2))))⟩
noncomputable def Hi:List D->Option D:=yx 4 PU.1
def KH:FnScope ["house","word"] ["house","word"] (zl Xy):=⟨rfl,rfl,rfl,by decide +kernel,rfl,by decide +kernel,by decide +kernel⟩
noncomputable def We:{F:FS // ∀ {P w K mg base f fd} (c:Fun K "images" "images" Xy f fd) (T:Txt w K mg) (a:HasFn P w K mg base 4 "led" 3 Hi) (b:HasFn P w K mg base 1 "simple" 2 jr),FnOk P w K mg base bg 5 f fd ["house","word"] (spF K 2 (yx 2 F))} :=
 ⟨_,λc T a b=>zV (k:=4) rfl rfl c KH λar A outer s H E d=>(zg (zC (ED (yY (own:=["i"]) (frees:=["house","word"]) (caps:=[0,1]) rfl (.of (by kernel_rfl)) rfl z6 (xG rfl T.range_b (zk (mo (xc (mo (dv 0)) (mo zm))) zA)) (λcl C s H fp=>⟨(cJ 0),w5,(aQ a (za (dv 1) (za (dv 2) (za (aQ b (za (dv 1) (za (dv 0) zi))) zi))))⟩)))))⟩
noncomputable def jx:List D->Option D:=yx 2 We.1
def Js:FnScope ["row","factor","other"] ["row","factor","other"] (zl Zt):=⟨rfl,rfl,rfl,by decide +kernel,rfl,by decide +kernel,by decide +kernel⟩
noncomputable def Yn:{F:FS // ∀ {P w K mg base f fd} (d:Fun K "less_by" "less_by" Zt f fd) (T:Txt w K mg) (c:HasFn P w K mg base 1 "minus" 1 qK) (a:HasFn P w K mg base 1 "plus" 2 Z5) (b:HasFn P w K mg base 1 "times" 2 qJ),FnOk P w K mg base bg 2 f fd ["row","factor","other"] (spF K 3 (yx 3 F))} :=
 ⟨_,λd T c a b=>zV (k:=1) rfl rfl d Js λar A outer s H E e=>(zg (zC (xw ye xn rfl T.tuple_b (by rfl) (zk (mo (ED (yY (own:=["x","y"]) (frees:=["factor"]) (caps:=[1]) rfl (.of (by kernel_rfl)) rfl (ky (yI z6 (yI z6 uM))) (QX rfl T.zip_b (dv 0) (dv 2)) (λcl C s H fp=>⟨(wQ (n:=2) rfl (zH (cJ 0) (zH (cJ 1) xq))),w5,(aQ a (za (dv 0) (za (aQ c (za (aQ b (za (dv 2) (za (dv 1) zi))) zi)) zi)))⟩)))) zA))))⟩
noncomputable def uO:List D->Option D:=yx 3 Yn.1
def uE:FnScope ["house","rows","i"] ["house","rows","i"] (zl xy):=⟨rfl,rfl,rfl,by decide +kernel,rfl,by decide +kernel,by decide +kernel⟩
noncomputable def xB:{F:FS // ∀ {P w K mg base f fd} (c:Fun K "images_with_behind" "images_with_behind" xy f fd) (T:Txt w K mg) (a:HasFn P w K mg base 2 "less_by" 3 uO) (b:HasFn P w K mg base 2 "pull" 3 wj),FnOk P w K mg base bg 3 f fd ["house","rows","i"] (spF K 3 (yx 3 F))} :=
 ⟨_,λc T a b=>zV (k:=2) rfl rfl c uE λar A outer s H E d=>(zg (zC (ED (yY (own:=["j","row"]) (frees:=["house","i","rows"]) (caps:=[0,2,1]) rfl (.of (by kernel_rfl)) rfl (ky (yI z6 (yI z6 uM))) (UE rfl T.enumerate_b (dv 1)) (λcl C s H fp=>⟨(wQ (n:=2) rfl (zH (cJ 0) (zH (cJ 1) xq))),w5,(aQ a (za (dv 1) (za (aQ b (za (dv 2) (za (dv 3) (za (dv 0) zi)))) (za (xc (mo (dv 4)) (mo (dv 3))) zi))))⟩)))))⟩
noncomputable def yg:List D->Option D:=yx 3 xB.1
def Zo:FnScope ["row","signs"] ["row"] (zl j4):=⟨rfl,rfl,rfl,by decide +kernel,rfl,by decide +kernel,by decide +kernel⟩
noncomputable def km:{F:FS // ∀ {P w K mg base f fd} (c:Fun K "is_above" "is_above" j4 f fd) (T:Txt w K mg) (a:HasFn P w K mg base 2 "sign" 1 Y1),FnOk P w K mg base bg 3 f fd ["row"] (spF K 1 (yx 2 F))} :=
 ⟨_,λc T a=>zV (k:=2) rfl rfl c Zo λar A outer s H E b=>(zd (qk 1 Zo.nd (own:=["x"]) (frees:=[]) (caps:=[]) rfl (.of (by kernel_rfl)) rfl z6 (xp (dv 0)) (λcl C s H fp=>⟨(cJ 0),w5,(aQ a (za (dv 0) zi))⟩)) (zg (zC (Pw (zd6 b (mo zm) (mo (dv 1))) (D3 (Pq b (mo (J0 (mo zm))) (mo (dv 1))))))))⟩
noncomputable def uc:List D->Option D:=yx 2 km.1
def VS:FnScope ["house","most"] ["house","most"] (zl j5):=⟨rfl,rfl,rfl,by decide +kernel,rfl,by decide +kernel,by decide +kernel⟩
noncomputable def qy:{F:FS // ∀ {P w K mg base f fd} (c:Fun K "has_more" "has_more" j5 f fd) (T:Txt w K mg) (b:HasFn P w K mg base 8 "endless" 1 wM) (a:HasFn P w K mg base 10 "size" 1 Hh),FnOk P w K mg base bg 11 f fd ["house","most"] (spF K 2 (yx 2 F))} :=
 ⟨_,λc T b a=>zV (k:=10) rfl rfl c VS λar A outer s H E d=>(zg (zC (zd4 (Pr (mo (aQ b (za (dv 0) zi))) (mo UG)) (D3 (zd7 (mo (aQ a (za (dv 0) zi))) (mo (dv 1)))))))⟩
noncomputable def xv:List D->Option D:=yx 2 qy.1
def yn:FnScope ["house","reached","seen","longer","word","rows","mirror","rows_behind"] ["house","reached"] (zl ve):=⟨rfl,rfl,rfl,by decide +kernel,rfl,by decide +kernel,by decide +kernel⟩
noncomputable def vB:{F:FS // ∀ {P w K mg base f fd} (d:Fun K "longer_places" "longer_places" ve f fd) (T:Txt w K mg) (c:HasFn P w K mg base 3 "images_with_behind" 3 yg) (b:HasFn P w K mg base 3 "is_above" 1 uc),FnOk P w K mg base bg 4 f fd ["house","reached"] (spF K 2 (yx 8 F))} :=
 ⟨_,λd T c b=>zV (k:=3) rfl rfl d yn λar A outer s H E a=>(zd (DU 2 3 yn.nd) (zd (wB 3 yn.nd (xF zi)) (zd (wt Ea rfl (xp (dv 1)) (wQ (n:=2) rfl (zH (ya 4 yn.nd) (zH (ya 5 yn.nd) xq))) (zg (wt Ea rfl (xG rfl T.range_b (zk (mo (xc (mo (dv 0)) (mo zm))) zA)) (ya 6 yn.nd) (zg (xo (jF (mo (aQ b (za (xc (mo (dv 5)) (mo (dv 6))) zi)))) (zd (zX 7 yn.nd (aQ c (za (dv 0) (za (dv 5) (za (dv 6) zi))))) (zg (xo (HB 2 a (xw ye xn rfl T.tuple_b (by rfl) (zk (mo (dv 7)) zA))) (zd (HC 2 a P4 (xw ye xn rfl T.tuple_b (by rfl) (zk (mo (dv 7)) zA))) (zg (wO 3 (xN (za (yJ (mo (dv 4)) (mo (xN (za (dv 6) zi)))) (za (dv 7) zi)))))) zW))) zW))))) (uq 3 (zg (zC (dv 3)))))))⟩
noncomputable def xl:List D->Option D:=yx 8 vB.1
def wG:FnScope ["house","most","told","reached"] ["house","most"] (zl kO):=⟨rfl,rfl,rfl,by decide +kernel,rfl,by decide +kernel,by decide +kernel⟩
noncomputable def Wb:{F:FS // ∀ {P w K mg base f fd} (d:Fun K "places" "places" kO f fd) (T:Txt w K mg) (b:HasFn P w K mg base 11 "has_more" 2 xv) (a:HasFn P w K mg base 5 "images" 2 jx) (c:HasFn P w K mg base 4 "longer_places" 2 xl),FnOk P w K mg base bg 12 f fd ["house","most"] (spF K 2 (yx 4 F))} :=
 ⟨_,λd T b a c=>zV (k:=11) rfl rfl d wG λar A outer s H E e=>(zd (xo (jF (mo (aQ b (za (dv 0) (za (dv 1) zi))))) (zg QW) zW) (zd (wB 2 wG.nd (xF zi)) (zd (zX 3 wG.nd (ED (xF (za (xN (za (xN zi) (za (aQ a (za (dv 0) (za (xN zi) zi))) zi))) zi)))) (zd (jG 100000 Ea (Vk (mo (yj yf yX rfl T.len_b (by rfl) (zk (mo (dv 3)) zA))) (mo zm)) (zd (uQ 2 (ED (yY (own:=["word","rows"]) (frees:=[]) (caps:=[]) rfl (.of (by kernel_rfl)) rfl (ky (yI z6 (yI z6 uM))) (xp (dv 3)) (λcl C s H fp=>⟨(wQ (n:=2) rfl (zH (cJ 0) (zH (cJ 1) xq))),w5,(dv 0)⟩)))) (zg (zX 3 wG.nd (aQ c (za (dv 0) (za (dv 3) zi))))))) (uq 2 (zg (zC (dv 2))))))))⟩
noncomputable def js:List D->Option D:=yx 4 Wb.1
noncomputable def Zf:{G:h_ // ∀ {P w K mg base f fd g} (e:Fun K "places" "places" kO f fd) (T:Txt w K mg) (a:ExT K mg "TooMany" g) (c:HasFn P w K mg base 11 "has_more" 2 xv) (b:HasFn P w K mg base 5 "images" 2 jx) (d:HasFn P w K mg base 4 "longer_places" 2 xl) ,FnOk P w K mg base (fH P w) 12 f fd ["house","most"] (nW mg K 2 (P3 4 G))} :=
 ⟨_,λe T a c b d  => N7 (k:=11) rfl rfl e wG λar A outer s H E h=>(DK (zbk (jF (mo (aQ c (za (dv 0) (za (dv 1) zi))))) (Pe (DL a rfl)) Pf) (Pg (zd (wB 2 wG.nd (xF zi)) (zd (zX 3 wG.nd (ED (xF (za (xN (za (xN zi) (za (aQ b (za (dv 0) (za (xN zi) zi))) zi))) zi)))) (zd (jG 100000 PassesOwn.leaving (Vk (mo (yj yf yX rfl T.len_b (by rfl) (zk (mo (dv 3)) zA))) (mo zm)) (zd (uQ 2 (ED (yY (own:=["word","rows"]) (frees:=[]) (caps:=[]) rfl (.of (by kernel_rfl)) rfl (ky (yI z6 (yI z6 uM))) (xp (dv 3)) (λcl C s H fp=>⟨(wQ (n:=2) rfl (zH (cJ 0) (zH (cJ 1) xq))),w5,(dv 0)⟩)))) (zg (zX 3 wG.nd (aQ d (za (dv 0) (za (dv 3) zi))))))) (uq 2 (zg (zC (dv 2)))))))))⟩
noncomputable def vo:List D->Option RX:=P3 4 Zf.1
def MD:FnScope ["_law_script","_law_k"] ["_law_script","_law_k"] (zl KS):=⟨rfl,rfl,rfl,by decide +kernel,rfl,by decide +kernel,by decide +kernel⟩
noncomputable def Jg:{F:FS // ∀ {P w K mg base f fd} (a:Fun K "_law_at" "_law_at" KS f fd) (T:Txt w K mg) ,FnOk P w K mg base bg 1 f fd ["_law_script","_law_k"] (spF K 2 (yx 2 F))} :=
 ⟨_,λa T  => zV (k:=0) rfl rfl a MD λar A outer s H E b=>(zd (xo (JY (mo (dv 1)) (mo (yj yf yX rfl T.len_b (by rfl) (zk (mo (dv 0)) zA)))) (zg (zC (xc (mo (dv 0)) (mo (dv 1))))) zW) (zg (zC (yJ (mo (vP (mo zm) (mo (dv 1)))) (mo zm)))))⟩
noncomputable def kA:List D->Option D:=yx 2 Jg.1
def Qa:FnScope ["_law_number","_law_place","_law_part"] ["_law_number","_law_place"] (zl VX):=⟨rfl,rfl,rfl,by decide +kernel,rfl,by decide +kernel,by decide +kernel⟩
noncomputable def UV:{F:FS // ∀ {P w K mg base f fd} (a:Fun K "_law_mix" "_law_mix" VX f fd) (T:Txt w K mg) ,FnOk P w K mg base bg 1 f fd ["_law_number","_law_place"] (spF K 2 (yx 3 F))} :=
 ⟨_,λa T  => zV (k:=0) rfl rfl a Qa λar A outer s H E b=>(zd (zX 2 Qa.nd (kL (mo (vP (mo (yJ (mo (yJ (mo (kL (mo (dv 0)) (mo zm))) (mo (dv 1)))) (mo zm))) (mo (yJ (mo (vP (mo (vP (mo zm) (mo (dv 1)))) (mo (dv 1)))) (mo zm))))) (mo zm))) (zg (zC (kL (mo (vP (mo (dv 2)) (mo (dv 2)))) (mo zm)))))⟩
noncomputable def uk:List D->Option D:=yx 3 UV.1
def Jt:FnScope ["_law_found"] ["_law_found"] (zl Zu):=⟨rfl,rfl,rfl,by decide +kernel,rfl,by decide +kernel,by decide +kernel⟩
noncomputable def Yo:{F:FS // ∀ {P w K mg base f fd} (a:Fun K "_law_whole" "_law_whole" Zu f fd) (T:Txt w K mg) ,FnOk P w K mg base bg 1 f fd ["_law_found"] (spF K 1 (yx 1 F))} :=
 ⟨_,λa T  => zV (k:=0) rfl rfl a Jt λar A outer s H E b=>(zg (zC (Pw (Q0 Re (mo (dv 0)) rfl T.isinstance_b rfl T.int_b) (D3 (zbv (Q0 Mt (mo (dv 0)) rfl T.isinstance_b rfl T.bool_b))))))⟩
noncomputable def v8:List D->Option D:=yx 1 Yo.1
def qY:FnScope ["_law_house_here","_law_i","_law_j","_law_one","_law_other","_law_many"] ["_law_house_here","_law_i","_law_j"] (zl Xu):=⟨rfl,rfl,rfl,by decide +kernel,rfl,by decide +kernel,by decide +kernel⟩
noncomputable def Wc:{F:FS // ∀ {P w K mg base f fd} (b:Fun K "_law_turn" "_law_turn" Xu f fd) (T:Txt w K mg) ,FnOk P w K mg base bg 1 f fd ["_law_house_here","_law_i","_law_j"] (spF K 3 (yx 6 F))} :=
 ⟨_,λb T  => zV (k:=0) rfl rfl b qY λar A outer s H E a=>(zd (wt Ea rfl (xp (xc (mo (dv 0)) (mo zm))) (wQ (n:=3) rfl (zH (ya 3 qY.nd) (zH (ya 4 qY.nd) (zH (ya 5 qY.nd) xq)))) (zg (xo (IP (jE (vN a (mo (dv 3)) (mo (yj (Yg rfl) Uw rfl T.min_b (by rfl) (zk (mo (dv 1)) (zk (mo (dv 2)) zA))))) (uo (vN a (mo (dv 4)) (mo (yj (jJ rfl) XU rfl T.max_b (by rfl) (zk (mo (dv 1)) (zk (mo (dv 2)) zA)))))))) (zg (zC (dv 5))) zW))) (zg (zC zm)))⟩
noncomputable def XT:List D->Option D:=yx 6 Wc.1
def Wy:FnScope ["_law_house_here","_law_i","_law_j","_law_many"] ["_law_house_here","_law_i","_law_j"] (zl Xw):=⟨rfl,rfl,rfl,by decide +kernel,rfl,by decide +kernel,by decide +kernel⟩
noncomputable def Zg:{F:FS // ∀ {P w K mg base f fd} (c:Fun K "_law_pull" "_law_pull" Xw f fd) (T:Txt w K mg) (b:HasFn P w K mg base 1 "_law_turn" 3 XT),FnOk P w K mg base bg 2 f fd ["_law_house_here","_law_i","_law_j"] (spF K 3 (yx 4 F))} :=
 ⟨_,λc T b=>zV (k:=1) rfl rfl c Wy λar A outer s H E a=>(zd (xo (vN a (mo (dv 1)) (mo (dv 2))) (zg (zC (xN (za zm (za zm zi))))) zW) (zd (zX 3 Wy.nd (aQ b (za (dv 0) (za (dv 1) (za (dv 2) zi))))) (zd (xo (IP (HA (IP (jE (vN a (mo (dv 3)) (mo zm)) (uo (JY (mo (dv 1)) (mo (dv 2)))))) (QT (vN a (mo (dv 3)) (mo zm))))) (zg (zC (xN (za (YE (mo zm) (mo zm)) (za zm zi))))) zW) (zd (xo (IP (jE (vN a (mo (dv 3)) (mo zm)) (uo (JY (mo (dv 1)) (mo (dv 2)))))) (zg (zC (xN (za (YE (mo zm) (mo zm)) (za zm zi))))) zW) (zd (xo (vN a (mo (dv 3)) (mo zm)) (zg (zC (xN (za zm (za (YE (mo zm) (mo zm)) zi))))) zW) (zg (zC (xN (za (YE (mo zm) (mo (xw Vx Hk rfl T.int_b (by rfl) (zk (mo (zd5 a (mo (dv 3)) (mo zm))) zA)))) (za zm zi))))))))))⟩
noncomputable def qg:List D->Option D:=yx 4 Zg.1
def jX:FnScope ["_law_house_here","_law_found","_law_i"] ["_law_house_here"] (zl Zw):=⟨rfl,rfl,rfl,by decide +kernel,rfl,by decide +kernel,by decide +kernel⟩
noncomputable def Yq:{F:FS // ∀ {P w K mg base f fd} (b:Fun K "_law_pulls" "_law_pulls" Zw f fd) (T:Txt w K mg) (a:HasFn P w K mg base 2 "_law_pull" 3 qg),FnOk P w K mg base bg 3 f fd ["_law_house_here"] (spF K 1 (yx 3 F))} :=
 ⟨_,λb T a=>zV (k:=2) rfl rfl b jX λar A outer s H E c=>(zd (wB 1 jX.nd (xF zi)) (zd (wt Ea rfl (xG rfl T.range_b (zk (mo (xc (mo (dv 0)) (mo zm))) zA)) (ya 2 jX.nd) (zg (wO 1 (ED (yY (own:=["_law_j"]) (frees:=["_law_house_here","_law_i"]) (caps:=[0,2]) rfl (.of (by kernel_rfl)) rfl z6 (xG rfl T.range_b (zk (mo (xc (mo (dv 0)) (mo zm))) zA)) (λcl C s H fp=>⟨(cJ 0),w5,(aQ a (za (dv 1) (za (dv 2) (za (dv 0) zi))))⟩)))))) (uq 1 (zg (zC (dv 1))))))⟩
noncomputable def Z6:List D->Option D:=yx 3 Yq.1
def Ju:FnScope ["_law_x","_law_y"] ["_law_x","_law_y"] (zl Zv):=⟨rfl,rfl,rfl,by decide +kernel,rfl,by decide +kernel,by decide +kernel⟩
noncomputable def Yp:{F:FS // ∀ {P w K mg base f fd} (a:Fun K "_law_times" "_law_times" Zv f fd) (T:Txt w K mg) ,FnOk P w K mg base bg 1 f fd ["_law_x","_law_y"] (spF K 2 (yx 2 F))} :=
 ⟨_,λa T  => zV (k:=0) rfl rfl a Ju λar A outer s H E b=>(zg (zC (xN (za (yJ (mo (vP (mo (xc (mo (dv 0)) (mo zm))) (mo (xc (mo (dv 1)) (mo zm))))) (mo (vP (mo (xc (mo (dv 0)) (mo zm))) (mo (xc (mo (dv 1)) (mo zm)))))) (za (yJ (mo (yJ (mo (vP (mo (xc (mo (dv 0)) (mo zm))) (mo (xc (mo (dv 1)) (mo zm))))) (mo (vP (mo (xc (mo (dv 0)) (mo zm))) (mo (xc (mo (dv 1)) (mo zm))))))) (mo (vP (mo (xc (mo (dv 0)) (mo zm))) (mo (xc (mo (dv 1)) (mo zm)))))) zi)))))⟩
noncomputable def ju:List D->Option D:=yx 2 Yp.1
def yw:FnScope ["_law_script","_law_number","_law_mirrors","_law_told","_law_cell","_law_drawn","_law_i","_law_j","_law_many","_law_turns","_law_pair"] ["_law_script"] (zl Zx):=⟨rfl,rfl,rfl,by decide +kernel,rfl,by decide +kernel,by decide +kernel⟩
noncomputable def Yr:{F:FS // ∀ {P w K mg base f fd} (d:Fun K "_law_house" "_law_house" Zx f fd) (T:Txt w K mg) (c:HasFn P w K mg base 1 "_law_at" 2 kA) (b:HasFn P w K mg base 1 "_law_mix" 2 uk),FnOk P w K mg base bg 2 f fd ["_law_script"] (spF K 1 (yx 11 F))} :=
 ⟨_,λd T c b=>zV (k:=1) rfl rfl d yw λar A outer s H E a=>(zd (zX 1 yw.nd (aQ b (za (aQ c (za (dv 0) (za zm zi))) (za zm zi)))) (zd (zX 2 yw.nd (yJ (mo zm) (mo (kL (mo (dv 1)) (mo zm))))) (zd (Pk 3 yw.nd) (zd (wt Ea rfl (xp (X2 (mo (dv 0)) (HF (mo zm)) (HF (mo zm)))) (ya 4 yw.nd) (zd (zX 5 yw.nd (aQ b (za (dv 4) (za zm zi)))) (zd (zX 6 yw.nd (kL (mo (dv 5)) (mo (dv 2)))) (zd (zX 7 yw.nd (kL (mo (Y3 (mo (dv 5)) (mo zm))) (mo (dv 2)))) (zg (xo (X0 a (mo (dv 6)) (mo (dv 7))) (zd (zX 8 yw.nd (xc (mo (ED (xF (za zm (za zm (za zm (za zm zi))))))) (mo (kL (mo (Y3 (mo (dv 5)) (mo zm))) (mo zm))))) (zd (xo (vN a (mo (kL (mo (Y3 (mo (dv 5)) (mo zm))) (mo zm))) (mo zm)) (zg (zX 8 yw.nd (xc (mo (ED (xF (za zm (za zm (za zm (za zm zi))))))) (mo (kL (mo (Y3 (mo (dv 5)) (mo zm))) (mo zm)))))) zW) (zg (Pj 3 a (dv 8) (za (yj (Yg rfl) Uw rfl T.min_b (by rfl) (zk (mo (dv 6)) (zk (mo (dv 7)) zA))) (za (yj (jJ rfl) XU rfl T.max_b (by rfl) (zk (mo (dv 6)) (zk (mo (dv 7)) zA))) zi)))))) zW)))))) (zd (wB 9 yw.nd (xF zi)) (zd (Pi Ea rfl (Ct 3) (wQ (n:=2) rfl (zH (ya 10 yw.nd) (zH (ya 8 yw.nd) xq))) (zg (xo (X0 a (mo (dv 8)) (mo zm)) (zg (wO 9 (xN (za (xc (mo (dv 10)) (mo zm)) (za (xc (mo (dv 10)) (mo zm)) (za (dv 8) zi)))))) zW))) (uq 9 (zg (zC (xN (za (dv 2) (za (dv 9) zi))))))))))))⟩
noncomputable def jw:List D->Option D:=yx 11 Yr.1
def xM:FnScope ["_law_pulls_here","_law_rows","_law_mirror","_law_found","_law_i","_law_row","_law_x","_law_y","_law_taken"] ["_law_pulls_here","_law_rows","_law_mirror"] (zl j3):=⟨rfl,rfl,rfl,by decide +kernel,rfl,by decide +kernel,by decide +kernel⟩
noncomputable def kl:{F:FS // ∀ {P w K mg base f fd} (b:Fun K "_law_behind" "_law_behind" j3 f fd) (T:Txt w K mg) (a:HasFn P w K mg base 1 "_law_times" 2 ju),FnOk P w K mg base bg 2 f fd ["_law_pulls_here","_law_rows","_law_mirror"] (spF K 3 (yx 9 F))} :=
 ⟨_,λb T a=>zV (k:=1) rfl rfl b xM λar A outer s H E c=>(zd (wB 3 xM.nd (xF zi)) (zd (wt Ea rfl (xG rfl T.range_b (zk (mo (yj yf yX rfl T.len_b (by rfl) (zk (mo (dv 1)) zA))) zA)) (ya 4 xM.nd) (zd (wB 5 xM.nd (xF zi)) (zd (wt Ea rfl (QX rfl T.zip_b (xc (mo (dv 1)) (mo (dv 4))) (xc (mo (dv 1)) (mo (dv 2)))) (wQ (n:=2) rfl (zH (ya 6 xM.nd) (zH (ya 7 xM.nd) xq))) (zd (zX 8 xM.nd (aQ a (za (xc (mo (xc (mo (dv 0)) (mo (dv 2)))) (mo (dv 4))) (za (dv 7) zi)))) (zg (wO 5 (xN (za (YE (mo (xc (mo (dv 6)) (mo zm))) (mo (xc (mo (dv 8)) (mo zm)))) (za (YE (mo (xc (mo (dv 6)) (mo zm))) (mo (xc (mo (dv 8)) (mo zm)))) zi))))))) (zg (wO 3 (xw ye xn rfl T.tuple_b (by rfl) (zk (hV 5) zA))))))) (zg (zC (xw ye xn rfl T.tuple_b (by rfl) (zk (hV 3) zA))))))⟩
noncomputable def ub:List D->Option D:=yx 9 kl.1
def yK:FnScope ["_law_house_here","_law_pulls_here","_law_rows","_law_i","_law_come","_law_seen","_law_at_here","_law_mirror","_law_other"] ["_law_house_here"] (zl j0):=⟨rfl,rfl,rfl,by decide +kernel,rfl,by decide +kernel,by decide +kernel⟩
noncomputable def kj:{F:FS // ∀ {P w K mg base f fd} (d:Fun K "_law_places" "_law_places" j0 f fd) (T:Txt w K mg) (c:HasFn P w K mg base 2 "_law_behind" 3 ub) (b:HasFn P w K mg base 3 "_law_pulls" 1 Z6),FnOk P w K mg base bg 4 f fd ["_law_house_here"] (spF K 1 (yx 9 F))} :=
 ⟨_,λd T c b=>zV (k:=3) rfl rfl d yK λar A outer s H E a=>(zd (zX 1 yK.nd (aQ b (za (dv 0) zi))) (zd (wB 2 yK.nd (xF zi)) (zd (wt Ea rfl (xG rfl T.range_b (zk (mo (xc (mo (dv 0)) (mo zm))) zA)) (ya 3 yK.nd) (zg (wO 2 (xw ye xn rfl T.tuple_b (by rfl) (zk (mo (ED (yY (own:=["_law_j"]) (frees:=["_law_i"]) (caps:=[3]) rfl (.of (by kernel_rfl)) rfl z6 (xG rfl T.range_b (zk (mo (xc (mo (dv 0)) (mo zm))) zA)) (λcl C s H fp=>⟨(cJ 0),w5,(xN (za (xw Vx Hk rfl T.int_b (by rfl) (zk (mo (zab a (mo (dv 1)) (mo (dv 0)))) zA)) (za zm zi)))⟩)))) zA))))) (zd (wB 4 yK.nd (xF (za (xN (za (xN zi) (za (xw ye xn rfl T.tuple_b (by rfl) (zk (hV 2) zA)) zi))) zi))) (zd (HD 5 2 a yK.nd (xw ye xn rfl T.tuple_b (by rfl) (zk (hV 2) zA)) P4) (zd (zX 6 yK.nd zm) (zd (jG 100000 Ea (IP (jE (JY (mo (dv 6)) (mo (yj yf yX rfl T.len_b (by rfl) (zk (hV 4) zA)))) (uo (zbn (mo (yj yf yX rfl T.len_b (by rfl) (zk (hV 4) zA))) (mo zm))))) (zd (wt Ea rfl (xG rfl T.range_b (zk (mo (xc (mo (dv 0)) (mo zm))) zA)) (ya 7 yK.nd) (zd (zX 8 yK.nd (aQ c (za (dv 1) (za (xc (mo (xc (hV 4) (mo (dv 6)))) (mo zm)) (za (dv 7) zi))))) (zg (xo (HB 5 a (dv 8)) (zd (HC 5 a P4 (dv 8)) (zg (wO 4 (xN (za (yJ (mo (xc (mo (xc (hV 4) (mo (dv 6)))) (mo zm))) (mo (xN (za (dv 7) zi)))) (za (dv 8) zi)))))) zW)))) (zg (zX 6 yK.nd (yJ (mo (dv 6)) (mo zm)))))) (uq 4 (zg (zC (ED (yY (own:=["_law_word","_law_row"]) (frees:=[]) (caps:=[]) rfl (.of (by kernel_rfl)) rfl (ky (yI z6 (yI z6 uM))) (xp (dv 4)) (λcl C s H fp=>⟨(wQ (n:=2) rfl (zH (cJ 0) (zH (cJ 1) xq))),w5,(dv 0)⟩)))))))))))))⟩
noncomputable def qh:List D->Option D:=yx 9 kj.1
def KG:FnScope ["_law_due","_law_number"] ["_law_due","_law_number"] (zl Xx):=⟨rfl,rfl,rfl,by decide +kernel,rfl,by decide +kernel,by decide +kernel⟩
noncomputable def jT:{F:FS // ∀ {P w K mg base f fd} (a:Fun K "_law_most" "_law_most" Xx f fd) (T:Txt w K mg) ,FnOk P w K mg base bg 1 f fd ["_law_due","_law_number"] (spF K 2 (yx 2 F))} :=
 ⟨_,λa T  => zV (k:=0) rfl rfl a KG λar A outer s H E b=>(zd (xo (IP (HA (Vk (mo (yj yf yX rfl T.len_b (by rfl) (zk (mo (dv 0)) zA))) (mo zm)) (QT (vN b (mo (kL (mo (dv 1)) (mo zm))) (mo zm))))) (zg (zC (yJ (mo zm) (mo (kL (mo (Y3 (mo (dv 1)) (mo zm))) (mo zm)))))) zW) (zg (zC (yj (jJ rfl) XU rfl T.max_b (by rfl) (zk (mo zm) (zk (mo (YE (mo (yj yf yX rfl T.len_b (by rfl) (zk (mo (dv 0)) zA))) (mo (kL (mo (Y3 (mo (dv 1)) (mo zm))) (mo zm))))) zA))))))⟩
noncomputable def qi:List D->Option D:=yx 2 jT.1
def Zn:FnScope ["_law_found","_law_due","_law_one","_law_other"] ["_law_found","_law_due"] (zl Xv):=⟨rfl,rfl,rfl,by decide +kernel,rfl,by decide +kernel,by decide +kernel⟩
noncomputable def Wd:{F:FS // ∀ {P w K mg base f fd} (c:Fun K "_law_same" "_law_same" Xv f fd) (T:Txt w K mg) (b:HasFn P w K mg base 1 "_law_whole" 1 v8),FnOk P w K mg base bg 2 f fd ["_law_found","_law_due"] (spF K 2 (yx 4 F))} :=
 ⟨_,λc T b=>zV (k:=1) rfl rfl c Zn λar A outer s H E a=>(zd (xo (IP (HA (QU (jF (mo (Q0 Ms (mo (dv 0)) rfl T.isinstance_b rfl T.list_b)))) (QT (X0 a (mo (yj yf yX rfl T.len_b (by rfl) (zk (mo (dv 0)) zA))) (mo (yj yf yX rfl T.len_b (by rfl) (zk (mo (dv 1)) zA))))))) (zg (zC P4)) zW) (zd (wt Ea rfl (QX rfl T.zip_b (dv 0) (dv 1)) (wQ (n:=2) rfl (zH (ya 2 Zn.nd) (zH (ya 3 Zn.nd) xq))) (zg (xo (IP (HA (QU (jF (mo (Q0 BP (mo (dv 2)) rfl T.isinstance_b rfl T.tuple_b)))) (HA (X0 a (mo (dv 2)) (mo (dv 3))) (QT (Vk (mo (yj yf yX rfl T.len_b (by rfl) (zk (mo (ED (yY (own:=["_law_part"]) (frees:=[]) (caps:=[]) rfl (.of (by kernel_rfl)) rfl z6 (xp (dv 2)) (λcl C s H fp=>⟨(cJ 0),(Ya (QU (jF (mo (aQ b (za (dv 0) zi)))))),(dv 0)⟩)))) zA))) (mo zm)))))) (zg (zC P4)) zW))) (zg (zC P4))))⟩
noncomputable def jv:List D->Option D:=yx 4 Wd.1
def TV (o:HO):Prop:=Tp o\/∃ o' u,o=.frz o' u/\Tp u
def S4 (o:HO):Prop:=(∃ xs,o=.tup xs)\/∃ o' xs,o=.frz o' (.tup xs)
def Md (zs:List V) (o:HO):Prop:=o=.lst zs\/∃ o',o=.frz o' (.lst zs)
def GZ (p l:Addr) (zs:List V) (b:Addr) (o:HO):Prop:=TV o\/(b=p/\S4 o)\/(b=l/\Md zs o)
open Classical in
noncomputable def W5 (H:Hp) (p l:Addr) (zs:List V):Hp:=λb=>match H b with
 | some o=>if GZ p l zs b o then some o else none
 | none=>none
def wJ     : W5 H p l zs b=some o↔H b=some o/\GZ p l zs b o:=by
 unfold W5
 cases e:H b with
 | none=>simp
 | some u =>
  dsimp only
  by_cases c:GZ p l zs b u
  .rw [if_pos c]
   constructor
   .intro h; cases h; exact ⟨rfl,c⟩
   .rintro ⟨h,_⟩; exact h
  .rw [if_neg c]
   constructor
   .intro h; cases h
   .rintro ⟨h,k⟩; cases h; exact absurd k c
def JN    : z7 (W5 H p l zs) H:=λb o e=>(wJ.mp e).1
def NQ {K:A6} (h:ae K H (GH.tD u) v):ae K (W5 H p l zs) (GH.tD u) v:=by
 unfold GH.tD at h ⊢
 obtain ⟨a,xs,rfl,q,b⟩:=D_.mp h
 obtain ⟨g,j,rfl,h1,b⟩:=B_.mp b
 obtain ⟨f,i,rfl,h2,b⟩:=B_.mp b
 obtain ⟨e,r3,rfl,c,b⟩:=B_.mp b
 rw [zP.nil_iff] at b
 subst b
 have e1:=u9.mp h1
 have e2:=u9.mp h2
 have d:=u9.mp c
 subst e1 e2 d
 have tp:Tp (.tup [.int u.1,.int u.2.1,.int u.2.2]):=⟨[.inl u.1,.inl u.2.1,.inl u.2.2],rfl⟩
 refine D_.mpr ⟨a,_,rfl,?_,B_.mpr ⟨_,_,rfl,u9.mpr rfl,B_.mpr ⟨_,_,rfl,u9.mpr rfl,B_.mpr ⟨_,_,rfl,u9.mpr rfl,zP.nil_iff.mpr rfl⟩⟩⟩⟩
 rcases q with (z | ⟨o,z⟩) | z
 .exact .inl (.inl (wJ.mpr ⟨z,.inl (.inl tp)⟩))
 .exact .inl (.inr ⟨o,wJ.mpr ⟨z,.inl (.inr ⟨o,_,rfl,tp⟩)⟩⟩)
 .exact .inr z
theorem Qz {K:A6}:∀ {us:List GH.T3} {vs:List V},zP K H (us.map GH.tD) vs->zP K (W5 H p l zs) (us.map GH.tD) vs
 | [],vs,h=>by rw [aP,zP.nil_iff] at h ⊢; exact h
 | u :: us,vs,h=>by
  rw [au] at h ⊢
  obtain ⟨x,r,rfl,h1,h2⟩:=B_.mp h
  exact B_.mpr ⟨x,r,rfl,NQ h1,Qz h2⟩
def JM {K:A6} {us:List GH.T3} (h:ae K H (.tup [.int nn,.lst (us.map GH.tD)]) v):∃ p l zs,zP K H (us.map GH.tD) zs/\ae K (W5 H p l zs) (.tup [.int nn,.lst (us.map GH.tD)]) v:=by
 obtain ⟨p,xs,rfl,c,a⟩:=D_.mp h
 obtain ⟨f,i,rfl,h1,a⟩:=B_.mp a
 obtain ⟨e,g,rfl,h2,a⟩:=B_.mp a
 rw [zP.nil_iff] at a
 subst a
 obtain ⟨l,zs,rfl,d,b⟩:=En.mp h2
 refine ⟨p,l,zs,b,D_.mpr ⟨p,_,rfl,?_,B_.mpr ⟨_,_,rfl,u9.mpr (u9.mp h1),B_.mpr ⟨_,_,rfl,En.mpr ⟨l,zs,rfl,?_,Qz b⟩,zP.nil_iff.mpr rfl⟩⟩⟩⟩
 .rcases c with (z | ⟨o,z⟩) | z
  .exact .inl (.inl (wJ.mpr ⟨z,.inr (.inl ⟨rfl,.inl ⟨_,rfl⟩⟩)⟩))
  .exact .inl (.inr ⟨o,wJ.mpr ⟨z,.inr (.inl ⟨rfl,.inr ⟨_,_,rfl⟩⟩)⟩⟩)
  .exact .inr z
 .rcases d with (z | ⟨o,z⟩) | z
  .exact .inl (.inl (wJ.mpr ⟨z,.inr (.inr ⟨rfl,.inl rfl⟩)⟩))
  .exact .inl (.inr ⟨o,wJ.mpr ⟨z,.inr (.inr ⟨rfl,.inr ⟨_,rfl⟩⟩)⟩⟩)
  .exact .inr z
def QA (c:Grows H (W5 Hf p l zs) H' ah) (e:ah r=some o) (a:Md xs o) (d:xs.length≠zs.length):H r=none:=by
 have b:¬ TV o:=by
  rintro (⟨ks,z⟩ | ⟨o',u,z,ks,y⟩)
  .rcases a with y | ⟨_,y⟩ <;> (subst y; cases z)
  .subst y
   rcases a with y | ⟨_,y⟩ <;> (subst y; cases z)
 rcases c.new r o e with z | z | z
 .obtain ⟨_,k | ⟨_,k⟩ | ⟨_,k⟩⟩:=wJ.mp z
  .exact absurd k b
  .exfalso
   rcases k with ⟨_,y⟩ | ⟨_,_,y⟩ <;> rcases a with x | ⟨_,x⟩ <;> (subst x; cases y)
  .exfalso
   rcases k with y | ⟨_,y⟩ <;> rcases a with x | ⟨_,x⟩ <;> first | (subst x; cases y; exact d rfl) | (subst x; cases y)
 .exact z
 .exact absurd (.inl z) b
noncomputable def F_0:FS:=(qu 1 (yo jw (zf (vF 0) yb)))
noncomputable def F_1:FS:=(qu 2 (yo qh (zf (vF 1) yb)))
noncomputable def F_2:FS:=(qu 3 (yo qi (zf (vF 2) (zf (yo uk (zf (yo kA (zf (vF 0) (zf (cF (.int 0)) yb))) (zf (cF (.int 4)) yb))) yb))))
noncomputable def F_3:FS:=(qu 4 (tupF (zf (zt ay (vF 1) (cF (.int 0))) (zf (xD (NI (zf (zt ay (vF 1) (cF (.int 1))) yb))) yb))))
noncomputable def F_t:FS:=(Yv (zbz (yo jv (zf (yo js (zf (vF 4) (zf (vF 3) yb))) (zf (vF 2) yb))) (zt bY (vF 4) (vF 1))))
abbrev zay (s h a hd:D) (m:Int):bj:=[.fr s,.fr h,.fr a,.fr (.int m),.fr hd,.no,.no,.no,.no]
def GL (s:D):Prop:=∃ (h:D) (nn:Int) (us:List GH.T3) (ds:List D) (m:Int),ud F_0 (ud F_1 (ud F_2 F_3)) [.fr s,.no,.no,.no,.no,.no,.no,.no,.no]=some (.nx (zay s h (.lst ds) (.tup [.int nn,.lst (us.map GH.tD)]) m)) ∧
 ((vo [.tup [.int nn,.lst (us.map GH.tD)],.int m]=some (.ex "TooMany")/\m < (ds.length:Int)/\bY (.tup [.int nn,.lst (us.map GH.tD)]) h=some (.bl true)) ∨
  ∃ ys:List D,us.length < ys.length/\vo [.tup [.int nn,.lst (us.map GH.tD)],.int m]=some (.v (.lst ys))/\¬ m < (ds.length:Int)/\0 < ys.length/\ys.length < sizeLine/\jv [.lst ys,.lst ds]=some (.bl true)/\F_t (zay s h (.lst ds) (.tup [.int nn,.lst (us.map GH.tD)]) m)=some (.rt (.bl true)))
noncomputable def g_law:List D->Option D
 | [s]=>@ite _ (GL s) (E7 _) (some (.bl true)) none
 | _=>none
def uD:FnScope ["_law_script","_law_house_here","_law_due","_law_most_here","_law_handed","_law_kept","_law_found","e","_law_others"] ["_law_script"] (zl WA):=⟨rfl,rfl,rfl,by decide +kernel,rfl,by decide +kernel,by decide +kernel⟩
section
variable {P:Ej} {w:Ey} {K:A6} {mg:Str->Option Value} {base:Heap} {f:Addr} {fd:Ih}
def Si {g CH CE CN CT CW:Addr} (Fn:Fun K "law" "law" WA f fd) (T:Txt w K mg) (noL:Nw K=true)
  (mM:mg "TooMany"=some (.ref g)) (mH:mg "HouseError"=some (.ref CH)) (mE:mg "Endless"=some (.ref CE)) (mN:mg "NoHouse"=some (.ref CN)) (mT:mg "NoText"=some (.ref CT)) (mW:mg "NoWord"=some (.ref CW))
  (cM:Catches K CH g) (rM:ExcCls K g) (k1:E_ K (.ref g) (.ref g)=some true) (k2:PySem.W.kitAny K (.ref g) [.ref CE,.ref CN,.ref CT,.ref CW]=some false) (k3:E_ K (.ref g) (.type "ValueError")=some true)
  (j:HasFnX P w K mg base 12 "places" 2 vo) (fq:HasFn P w K mg base 1 "_law_at" 2 kA) (g9:HasFn P w K mg base 2 "_law_house" 1 jw) (cX:HasFn P w K mg base 1 "_law_mix" 2 uk) (iY:HasFn P w K mg base 1 "_law_most" 2 qi) (gj:HasFn P w K mg base 4 "_law_places" 1 qh) (fS:HasFn P w K mg base 2 "_law_same" 2 jv) (iX:HasFn P w K mg base 12 "places" 2 js) :
  FnOk P w K mg base bg 13 f fd ["_law_script"] (spF K 1 g_law):=by
 obtain ⟨f1,fd1,ps1,F1,m1,kk1,b1⟩:=j.ex
 obtain ⟨f2,fd2,ps2,F2,m2,kk2,b2⟩:=fS.ex
 have bi:=T.isinstance_b
 have bv:=T.ValueError_b
 refine Fn.ok (k:=12) uD (λvs H Q E h=>?_) (λar A outer s H vs Q E G h=>?_)
 .obtain ⟨Hf,ds,d,_,h1,h2,_⟩:=h
  rw [h1.length]; exact h2
 obtain ⟨Hf,ds,d,sf,hl,hn,hg,q⟩:=h
 have tl:gQ (Wh bg P w K mg base ["_law_script","_law_house_here","_law_due","_law_most_here","_law_handed","_law_kept","_law_found","e","_law_others"] "law" (zl WA) f ar A outer s H E).nox ((wo WA).drop 11) F_t:=(zg (zC (Pw (aQ fS (za (aQ iX (za (dv 4) (za (dv 3) zi))) (za (dv 2) zi))) (D3 (zab G (mo (dv 4)) (mo (dv 1)))))))
 refine ⟨_,xi (zX 1 uD.nd (aQ g9 (za (dv 0) zi))) (xi (zX 2 uD.nd (aQ gj (za (dv 1) zi))) (xi (zX 3 uD.nd (aQ iY (za (dv 2) (za (aQ cX (za (aQ fq (za (dv 0) (za zm zi))) (za zm zi))) zi)))) (xi (zX 4 uD.nd (xN (za (xc (mo (dv 1)) (mo zm)) (za (ED (HK rfl T.list_b (zk (mo (xc (mo (dv 1)) (mo zm))) zA))) zi)))) (xi (zX 5 uD.nd UG) (xi (zX 6 uD.nd UG)
  (xi (RM (i:=7) (MW (i:=6) F1 (G.mono (by decide)) (by rfl) m1 kk1 b1 (λE=>z8 (pv 4) (z8 (pv 3) xx)) uD.nd (by rfl) (.inl rfl)) ⟨(by rfl),(by rfl)⟩ (by rfl) mH uD.nd (by rfl) (by rfl) (λa=>ZG (ZH (i:=5) uD.nd (by rfl) (.inl rfl) (pv 7))))
  (xi (Co (Vk (mo (yj yf yX rfl T.len_b (by rfl) (zk (mo (dv 2)) zA))) (mo (dv 3)))
   (xi (ZH (i:=8) uD.nd (by rfl) (.inl rfl) (qc X5 (by rfl) bi (by rfl) (z8 (pv 5) (z8 (WM (z8 (vi (v:=.ref CE) (by rfl) mE (by rfl)) (z8 (vi (v:=.ref CN) (by rfl) mN (by rfl)) (z8 (vi (v:=.ref CT) (by rfl) mT (by rfl)) (z8 (vi (v:=.ref CW) (by rfl) mW (by rfl)) xx))))) xx))))
    (ZG (K3 (Qi (qc X5 (by rfl) bi (by rfl) (z8 (pv 5) (z8 (vi (v:=.ref g) (by rfl) mM (by rfl)) xx))) (Qi (FR (pv 8)) (Qi (qc X5 (by rfl) bi (by rfl) (z8 (pv 5) (z8 (Gc (v:=.ty "ValueError") (by rfl) bv (by rfl) (by rfl)) xx))) (FQ (zab G (mo (dv 4)) (mo (dv 1)))))))))) XD)
  (xi (Co (RJ (K2 (Na (pv 5))) (Fy (FD (FC (Gb F2 (G.mono (by decide)) (by rfl) m2 kk2 b2 .nil RW (z8 (pv 6) (z8 (pv 2) xx))))))).pt (ZG (K3 RV)) XD)
  (xi (MY (RN (WM (z8 K9 xx)) (RQ (pv 6) K9 B4 (by intro _; rfl)) (by rfl) (by rfl) (by rfl)))
  (xi (V2 (CA LB PySem.F.slot_list_append PySem.F.type_list_append ZR (pv 6) (z8 (WM xx) xx))) tl)))))))))),?_⟩
 obtain ⟨B,rfl⟩:∃ B,ds=[B]:=by
  match ds,hn with
  | [a],_=>exact ⟨a,rfl⟩
 have hg:@ite _ (GL B) (E7 _) (some (D.bl true)) none=some d:=hg
 by_cases gl:GL B
 case neg=>rw [if_neg gl] at hg; cases hg
 rw [if_pos gl] at hg
 cases hg
 obtain ⟨hh,nn,us,dl,m,e,cs⟩:=gl
 generalize ehd:D.tup [.int nn,.lst (us.map GH.tD)]=hd at e cs
 obtain ⟨bU,e0,e⟩:=Zm e
 obtain ⟨dA,e1,e⟩:=Zm e
 obtain ⟨nT,e2,e3⟩:=Zm e
 have R0:=ZE (N:=["_law_script","_law_house_here","_law_due","_law_most_here","_law_handed","_law_kept","_law_found","e","_law_others"]) sf hl
 refine ⟨H,Hf,_,Hf,.nx bU,R0,e0,λmP H1 ak R1 t1=>?_⟩
 refine ⟨H,Hf,_,ak,.nx dA,R1,e1,λgx H2 aK R2 t2=>?_⟩
 refine ⟨H,Hf,_,aK,.nx nT,R2,e2,λig H3 f7 R3 t3=>?_⟩
 refine ⟨H,Hf,_,f7,.nx (zay B hh (.lst dl) hd m),R3,e3,λσ4 H4 o7 R4 t4=>?_⟩
 refine ⟨H,Hf,_,o7,.nx [.fr B,.fr hh,.fr (.lst dl),.fr (.int m),.fr hd,.fr .non,.no,.no,.no],R4,rfl,λie H5 d_ R5 t5=>?_⟩
 refine ⟨H,Hf,_,d_,.nx [.fr B,.fr hh,.fr (.lst dl),.fr (.int m),.fr hd,.fr .non,.fr .non,.no,.no],R5,rfl,λI F iA y t6=>?_⟩
 have l:I.length=9:=y.len.symm
 obtain ⟨v4,ev4,Y⟩:=y.fr 4 hd rfl
 obtain ⟨v3,ev3,hv3⟩:=y.fr 3 (.int m) rfl
 obtain ⟨v2,ev2,hv2⟩:=y.fr 2 (.lst dl) rfl
 obtain ⟨v5,ev5,hv5⟩:=y.fr 5 .non rfl
 have fin:∀ (σ:L2.St) (ρ:bj) (H' ah:Hp),Rep K H Hf σ ρ H' ah->Q (.bl true) H':=λσ ρ H' ah R'=>q _ H' ah ⟨R'.s0,R'.f0,R'.sf,R'.nf⟩ (Eb.mpr rfl)
 have rB:zP K iA [hd,.int m] [v4,v3]:=⟨_,_,rfl,Y,_,_,rfl,hv3,rfl⟩
 refine ⟨v4,ev4,v3,ev3,?_⟩
 unfold zb6
 have a7:∀ a:Addr,(I.set 7 (some (.ref a)))[7]? = some (some (V.ref a)):=λa=>nH (by rw [l]; decide)
 rcases cs with ⟨c1,c2,c3⟩ | ⟨ys,c0,c1,c2,c4,c5,c6,c7⟩
 .refine Rk (mg:=mg) (n:=2) y.sf rB rfl c1 λC H' ah mC O=>?_
  have eC:=mM.symm.trans mC
  cases eC
  refine ⟨g,rfl,cM,λa ha=>⟨.ref a,a7 a,?_⟩⟩
  have s1:z7 H' (upd H' a (oU a g)):=zG ha
  have R7:=(y.grows O).grow s1 zE ((y.grows O).sf.trans s1) (λb o e=>.inl e)
  have R8:=((R7.dropAt 7 (some (.ref a))).dropAt 5 (some (.ref a))).dropAt 7 none
  have k5:(((I.set 7 (some (.ref a))).set 5 (some (.ref a))).set 7 none)[5]? = some (some (.ref a)):=by rw [hU (by decide),nH (by rw [rL,l]; decide)]
  have U:(aU (zt lh (yo kX (zf (vF 2) yb)) (vF 3))) [.fr B,.fr hh,.fr (.lst dl),.fr (.int m),.fr hd,.no,.fr .non,.no,.no]=some true:=by
   simp [c2]
  refine ⟨H,Hf,_,ah,true,R8,U,λH9 Hf9 R9 s9 t9=>Kb ?_⟩
  have ha9:H9 a=some (oU a g):=s9 _ _ zq
  refine ⟨.ref a,k5,(show 4<=sizeLine from by decide),λp hp=>?_⟩
  have Z:upd H9 p (.tup [.ref CE,.ref CN,.ref CT,.ref CW]) a=some (oU a g):=by rw [zw (zU ha9 hp)]; exact ha9
  refine ⟨a,g,false,rM,Z,?_,.inr (.inr ⟨p,[CE,CN,CT,CW],rfl,zq,k2⟩)⟩
  have sp:z7 H9 (upd H9 p (.tup [.ref CE,.ref CN,.ref CT,.ref CW])):=zG hp
  have R10:=(R9.grow sp zE (R9.sf.trans sp) (λb o e=>.inl e)).dropAt 8 (some (.bl false))
  have k5':((((I.set 7 (some (.ref a))).set 5 (some (.ref a))).set 7 none).set 8 (some (.bl false)))[5]? = some (some (.ref a)):=by rw [hU (by decide)]; exact k5
  have k8:((((I.set 7 (some (.ref a))).set 5 (some (.ref a))).set 7 none).set 8 (some (.bl false)))[8]? = some (some (V.bl false)):=nH (by rw [rL,rL,rL,l]; decide)
  refine ⟨.ref a,k5',a,g,true,rM,Z,⟨true,rfl,Kb ?_⟩,.inr (.inl ⟨g,rfl,k1⟩)⟩
  refine ⟨.bl false,k8,false,rfl,true,rfl,Kb ?_⟩
  refine ⟨.ref a,k5',a,g,true,rM,Z,⟨true,rfl,Kb ?_⟩,.inl ⟨"ValueError",rfl,k3⟩⟩
  refine ⟨H,Hf,_,Hf9,.bl true,R10,?_,λv H' Hf'' R' s' t' h'=>?_⟩
  .show zt bY (vF 4) (vF 1) [.fr B,.fr hh,.fr (.lst dl),.fr (.int m),.fr hd,.no,.fr .non,.no,.no]=_
   simp [c3]
  .have ev:=Eb.mp h'
   subst ev
   exact fin _ _ _ _ R'
 .rw [<- ehd] at Y
  obtain ⟨p,l',zs,hzs,hk4⟩:=JM Y
  rw [ehd] at hk4
  have hl3:zP K (W5 iA p l' zs) [hd,.int m] [v4,v3]:=⟨_,_,rfl,hk4,_,_,rfl,u9.mpr (u9.mp hv3),rfl⟩
  refine zar (mg:=mg) (n:=2) (JN.trans y.sf) hl3 rfl c1 λv H7 mK O hv=>?_
  have W:z7 F H7:=O.h
  have k5:(I.set 6 (some v))[5]? = some (some V.non):=by rw [hU (by decide),ev5,Ex.mp hv5]
  have k6:(I.set 6 (some v))[6]? = some (some v):=nH (by rw [l]; decide)
  have k2':(I.set 6 (some v))[2]? = some (some v2):=by rw [hU (by decide)]; exact ev2
  have R7:∀ S,z7 F S->Rep K H Hf (I.set 6 (some v)) [.fr B,.fr hh,.fr (.lst dl),.fr (.int m),.fr hd,.fr .non,.no,.no,.no] S iA:=λS s8=>(y.dropAt 6 (some v)).grow s8 zE (y.sf.trans s8) (λb o e=>.inl e)
  have U:(aU (zt lh (yo kX (zf (vF 2) yb)) (vF 3))) [.fr B,.fr hh,.fr (.lst dl),.fr (.int m),.fr hd,.fr .non,.no,.no,.no]=some false:=by
   simp [c2]
  refine ⟨H,Hf,_,iA,false,R7 H7 W,U,λH9 Hf9 R9 s9 t9=>GT ?_⟩
  refine ⟨.non,k5,false,rfl,GT ?_⟩
  have hv9:ae K H9 (.lst ys) v:=(hv.mono O.fh).mono s9
  refine ⟨v,k6,v2,k2',?_⟩
  refine ⟨H9,[.lst ys,.lst dl],.bl true,zE,⟨_,_,rfl,hv9,_,_,rfl,((hv2.mono y.sf).mono W).mono s9,rfl⟩,rfl,c6,λb rS Hf10 AB L=>?_⟩
  have eb:=Eb.mp L
  subst eb
  refine ⟨true,rfl,GT ?_⟩
  obtain ⟨r,xs,rfl,qr,lr⟩:=En.mp hv
  have lenx:xs.length=ys.length:=lr.length
  have lenz:zs.length=us.length:=by have:=hzs.length; simpa using this
  have bS:xs.length≠zs.length:=by omega
  have sk:z7 mK rS:=O.fh.trans (s9.trans AB.h)
  have so:z7 F rS:=W.trans (s9.trans AB.h)
  have R:∀ S:Hp,z7 F S->tS K F_t { nx:=λ_ H'=>Q .non H',rt:=Q } (I.set 6 (some (.ref r))) S:=λS s8 =>
   ⟨H,Hf,_,iA,_,(R7 S s8).hide 5,c7,λv aC aD H' ah R' _ hv=>q v H' ah ⟨R'.s0,R'.f0,R'.sf,R'.nf⟩ hv⟩
  have done:∀ Hx:Hp,z7 F Hx->F r=none->Hx r=some (.lst xs)->∀ b,Hx b=none->z7 F (upd (upd Hx b (.tup [.int 9])) r (.lst (xs.set 0 (.ref b))))/\upd Hx b (.tup [.int 9]) r=some (.lst xs):=λHx sx hn G b L=>by
   have nb:r≠b:=λz=>by subst z; rw [G] at L; cases L
   refine ⟨λc o M=>?_,by rw [zw nb]; exact G⟩
   have n1:c≠r:=λz=>by subst z; rw [hn] at M; cases M
   have n2:c≠b:=λz=>by subst z; have:=sx _ _ M; rw [L] at this; cases this
   rw [zw n1,zw n2]
   exact sx c o M
  have ix:dF xs.length 0=some 0:=by
   have:0 < xs.length:=by omega
   simp [dF,this]
  have app:∀ (Hy:Hp) (b:Addr),z7 F Hy->F r=none->Hy r=some (.lst (xs.set 0 (.ref b)))->∀ c,Hy c=none->z7 F (upd (upd Hy c (.tup [])) r (.lst (xs.set 0 (.ref b)++[.ref c])))/\upd Hy c (.tup []) r=some (.lst (xs.set 0 (.ref b))):=λHy b sy hn G c J=>by
   have nb:r≠c:=λz=>by subst z; rw [G] at J; cases J
   refine ⟨λx o M=>?_,by rw [zw nb]; exact G⟩
   have n1:x≠r:=λz=>by subst z; rw [hn] at M; cases M
   have n2:x≠c:=λz=>by subst z; have:=sy _ _ M; rw [J] at this; cases this
   rw [zw n1,zw n2]
   exact sy x o M
  have lz:∀ b:Addr,(xs.set 0 (V.ref b)).length < sizeLine:=λb=>by rw [rL,lenx]; exact c5
  rcases qr with (q1 | ⟨o,q1⟩) | ⟨o,af,n,lk,J,_⟩
  .have X:=QA O q1 (.inl rfl) bS
   refine .inl ⟨(show 1<=sizeLine from by decide),λb L=>?_⟩
   obtain ⟨d1,d2⟩:=done rS so X (sk _ _ q1) b L
   refine ⟨.ref r,k6,r,xs,0,0,rfl,rfl,d2,ix,?_⟩
   refine ⟨.ref r,k6,.inl ⟨rfl,xs.set 0 (.ref b),.inl (.inl zq)⟩,(show 0<=sizeLine from dm _),λc J=>?_⟩
   obtain ⟨a1,a2⟩:=app _ b d1 X zq c J
   exact ⟨r,xs.set 0 (.ref b),_,rfl,rfl,a2,lz b,R _ a1⟩
  .have X:=QA O q1 (.inr ⟨o,rfl⟩) bS
   have n0:H r=none:=by
    cases z:H r with
    | none=>rfl
    | some u=>have:=y.s0 _ _ z; rw [X] at this; cases this
   have sx:z7 F (upd rS r (.lst xs)):=λb u e=>by
    rw [zw (λz=>by subst z; rw [X] at e; cases e)]; exact so b u e
   refine .inr ⟨r,o,xs,sk _ _ q1,n0,(show 1<=sizeLine from by decide),λb L=>?_⟩
   obtain ⟨d1,d2⟩:=done _ sx X zq b L
   refine ⟨.ref r,k6,r,xs,0,0,rfl,rfl,d2,ix,?_⟩
   refine ⟨.ref r,k6,.inl ⟨rfl,xs.set 0 (.ref b),.inl (.inl zq)⟩,(show 0<=sizeLine from dm _),λc J=>?_⟩
   obtain ⟨a1,a2⟩:=app _ b d1 X zq c J
   exact ⟨r,xs.set 0 (.ref b),_,rfl,rfl,a2,lz b,R _ a1⟩
  .exact absurd J (Gq noL lk)
end
def all_mk {l:W.OpenLaw} {w:Ey} {K:A6} {h:Heap} {mg:Str->Option Value} {fa:Addr} (X:K.In h) (G:h.Ns Bs mg) (hfa:mg "law"=some (.ref fa))
  (d0:Df K "plus" KQ)
  (d1:Df K "times" VT)
  (d2:Df K "minus" VW)
  (d3:Df K "whole_sign" uF)
  (d4:Df K "sign" KL)
  (d5:Df K "turn_of" Zr)
  (d6:Df K "pull" KO)
  (d7:Df K "neighbours" uG)
  (d8:Df K "without" Zq)
  (d9:Df K "part_of" Zs)
  (d10:Df K "parts" VU)
  (d11:Df K "chain_from" uH)
  (d12:Df K "chains" Xz)
  (d13:Df K "turns_along" uf)
  (d14:Df K "kind_of_chain" vg)
  (d15:Df K "kind_with_one_beside" xa)
  (d16:Df K "kinds_by_chains" wy)
  (d17:Df K "all_by_three" vK)
  (d18:Df K "kinds_by_ends" vf)
  (d19:Df K "kind_of" Zy)
  (d20:Df K "kinds" VY)
  (d21:Df K "endless" Zz)
  (d22:Df K "degrees_of_kind" wz)
  (d23:Df K "degrees" ZA)
  (d24:Df K "size" KJ)
  (d25:Df K "simple" Xt)
  (d26:Df K "mirrored" jZ)
  (d27:Df K "led" MK)
  (d28:Df K "images" Xy)
  (d29:Df K "less_by" Zt)
  (d30:Df K "images_with_behind" xy)
  (d31:Df K "is_above" j4)
  (d32:Df K "has_more" j5)
  (d33:Df K "longer_places" ve)
  (d34:Df K "places" kO)
  (d35:Df K "_law_at" KS)
  (d36:Df K "_law_mix" VX)
  (d37:Df K "_law_whole" Zu)
  (d38:Df K "_law_turn" Xu)
  (d39:Df K "_law_pull" Xw)
  (d40:Df K "_law_pulls" Zw)
  (d41:Df K "_law_times" Zv)
  (d42:Df K "_law_house" Zx)
  (d43:Df K "_law_behind" j3)
  (d44:Df K "_law_places" j0)
  (d45:Df K "_law_most" Xx)
  (d46:Df K "_law_same" Xv)
  (d47:Df K "law" WA)
  (b_ValueError:E1 K Bs "ValueError"=some none)
  (b_all:E1 K Bs "all"=some none)
  (b_bool:E1 K Bs "bool"=some none)
  (b_enumerate:E1 K Bs "enumerate"=some none)
  (b_int:E1 K Bs "int"=some none)
  (b_isinstance:E1 K Bs "isinstance"=some none)
  (b_len:E1 K Bs "len"=some none)
  (b_list:E1 K Bs "list"=some none)
  (b_max:E1 K Bs "max"=some none)
  (b_min:E1 K Bs "min"=some none)
  (b_range:E1 K Bs "range"=some none)
  (b_reversed:E1 K Bs "reversed"=some none)
  (b_sorted:E1 K Bs "sorted"=some none)
  (b_tuple:E1 K Bs "tuple"=some none)
  (b_zip:E1 K Bs "zip"=some none)
  (q_0c:E1 K Bs "COMMON_TURN"=some (some (.int 3 t_0c)))
  (q_1c:E1 K Bs "NOT_TOLD"=some (some (.int 2 t_1c)))
  (q_2c:E1 K Bs "NOUGHT"=some (some (.ref rZ)))
  (r_2c:K.lookup rZ=some ⟨.type "tuple",od_2c,.seq #[.int 0 tk_2c_0,.int 0 tk_2c_1] n_2c,osl_2c⟩)
  (q_3c:E1 K Bs "NO_KIND"=some (some (.str "-" t_3c)))
  (q_4c:E1 K Bs "ONE"=some (some (.ref rY)))
  (r_4c:K.lookup rY=some ⟨.type "tuple",od_4c,.seq #[.int 1 tk_4c_0,.int 0 tk_4c_1] n_4c,osl_4c⟩)
  (q_5c:E1 K Bs "PULLS_BELOW_NOUGHT"=some (some (.ref AZ)))
  (r_5c:K.lookup AZ=some ⟨.type "dict",none,.dict #[⟨0,.int 0 kk_5c_0,.ref lX⟩,⟨2,.int 2 kk_5c_1,.ref lW⟩,⟨3,.int 3 kk_5c_2,.ref lV⟩,⟨4,.int 4 kk_5c_3,.ref lU⟩,⟨5,.int 5 kk_5c_4,.ref lT⟩,⟨6,.int 6 kk_5c_5,.ref lS⟩] ep_5c,#[]⟩)
  (r_5c_0:K.lookup lX=some ⟨.type "tuple",od_5c_0,.seq #[.int 2 p_,.int 0 p9] n_5c_0,sW⟩)
  (r_5c_1:K.lookup lW=some ⟨.type "tuple",od_5c_1,.seq #[.int 0 p8,.int 0 p7] n_5c_1,sV⟩)
  (r_5c_2:K.lookup lV=some ⟨.type "tuple",od_5c_2,.seq #[.int 1 p6,.int 0 p0] n_5c_2,sU⟩)
  (r_5c_3:K.lookup lU=some ⟨.type "tuple",od_5c_3,.seq #[.int 2 pZ,.int 0 pY] n_5c_3,sT⟩)
  (r_5c_4:K.lookup lT=some ⟨.type "tuple",od_5c_4,.seq #[.int 0 pX,.int 1 pW] n_5c_4,sS⟩)
  (r_5c_5:K.lookup lS=some ⟨.type "tuple",od_5c_5,.seq #[.int 3 pV,.int 0 pU] n_5c_5,sR⟩)
  (q_6c:E1 K Bs "RARE_CHAINS"=some (some (.ref nN)))
  (r_6c:K.lookup nN=some ⟨.type "dict",none,.dict #[⟨mr,.ref lR,.str "f4" vt_6c_0⟩,⟨mq,.ref lO,.str "h3" vt_6c_1⟩,⟨mn,.ref lN,.str "h4" vt_6c_2⟩,⟨mm,.ref lM,.str "i5" vt_6c_3⟩,⟨ml,.ref lL,.str "i6" vt_6c_4⟩] ep_6c,#[]⟩)
  (r_6c_0:K.lookup lR=some ⟨.type "tuple",od_6c_0,.seq #[.int 3 pT,.int 4 pS,.int 3 pR] n_6c_0,sQ⟩)
  (r_6c_1:K.lookup lO=some ⟨.type "tuple",od_6c_1,.seq #[.int 3 pQ,.int 5 pP] n_6c_1,sP⟩)
  (r_6c_2:K.lookup lN=some ⟨.type "tuple",od_6c_2,.seq #[.int 3 pO,.int 3 pN,.int 5 pM] n_6c_2,sO⟩)
  (r_6c_3:K.lookup lM=some ⟨.type "tuple",od_6c_3,.seq #[.int 5 pL] n_6c_3,sN⟩)
  (r_6c_4:K.lookup lL=some ⟨.type "tuple",od_6c_4,.seq #[.int 6 pK] n_6c_4,sM⟩)
  (kr_y_6c:(nN==EE)=false)
  (kr_z_6c_0:JT [3,4,3]=mr)
  (kr_z_6c_1:JT [3,5]=mq)
  (kr_z_6c_2:JT [3,3,5]=mn)
  (kr_z_6c_3:JT [5]=mm)
  (kr_z_6c_4:JT [6]=ml)
  (q_7c:E1 K Bs "RARE_DEGREES"=some (some (.ref nM)))
  (r_7c:K.lookup nM=some ⟨.type "dict",none,.dict #[⟨mj,.str "e6" kk_7c_0,.ref lK⟩,⟨mh,.str "f4" kk_7c_1,.ref lJ⟩,⟨mf,.str "h3" kk_7c_2,.ref lI⟩,⟨me,.str "h4" kk_7c_3,.ref lH⟩,⟨md,.str "i5" kk_7c_4,.ref lG⟩,⟨ma,.str "i6" kk_7c_5,.ref lF⟩] ep_7c,#[]⟩)
  (r_7c_0:K.lookup lK=some ⟨.type "tuple",od_7c_0,.seq #[.int 2 pJ,.int 5 pI,.int 6 pH,.int 8 pG,.int 9 pF,.int 12 pE] n_7c_0,sL⟩)
  (r_7c_1:K.lookup lJ=some ⟨.type "tuple",od_7c_1,.seq #[.int 2 pD,.int 6 pA,.int 8 pz,.int 12 px] n_7c_1,sJ⟩)
  (r_7c_2:K.lookup lI=some ⟨.type "tuple",od_7c_2,.seq #[.int 2 pw,.int 6 pq,.int 10 pk] n_7c_2,sI⟩)
  (r_7c_3:K.lookup lH=some ⟨.type "tuple",od_7c_3,.seq #[.int 2 pj,.int 12 ph,.int 20 pg,.int 30 pf] n_7c_3,sH⟩)
  (r_7c_4:K.lookup lG=some ⟨.type "tuple",od_7c_4,.seq #[.int 2 pd,.int 5 o_] n_7c_4,sG⟩)
  (r_7c_5:K.lookup lF=some ⟨.type "tuple",od_7c_5,.seq #[.int 2 o9,.int 6 o8] n_7c_5,sF⟩)
  (kr_y_7c:(nM==EE)=false)
  (kr_z_7c_0:hashStr w "e6"=mj)
  (kr_z_7c_1:hashStr w "f4"=mh)
  (kr_z_7c_2:hashStr w "h3"=mf)
  (kr_z_7c_3:hashStr w "h4"=me)
  (kr_z_7c_4:hashStr w "i5"=md)
  (kr_z_7c_5:hashStr w "i6"=ma)
  (enN:E1 K Bs "NoHouse"=some (some (.ref CN)))
  (enH:E1 K Bs "HouseError"=some (some (.ref CH)))
  (enE:E1 K Bs "Endless"=some (some (.ref qqE)))
  (enT:E1 K Bs "NoText"=some (some (.ref CT)))
  (enW:E1 K Bs "NoWord"=some (some (.ref CW)))
  (enM:E1 K Bs "TooMany"=some (some (.ref CM)))
  (ec1:PySem.W.typeIn K (.ref CH)=some (.type "type"))
  (ec2:Lp K CH=true)
  (ec3:PySem.W.subIn K (.ref CH) (.type "BaseException")=some true)
  (eokM:PySem.W.excIn K CM zaf "ValueError.__new__"=true)
  (ec4M:PySem.W.subIn K (.ref CM) (.ref CH)=some true)
  (eg1M:II K (.ref CM) "__getattribute__"=some (some (.builtin "BaseException.__getattribute__")))
  (eg2M:II K (.ref CM) "__getattr__"=some none)
  (eg3M:II K (.ref CM) "__class__"=some (some (.builtin "object.__class__")))
  (eg4M:PySem.W.specialIn K (.builtin "object.__class__") "__get__"=some (some (.builtin "getset_descriptor.__get__")))
  (eg5M:PySem.W.takesIn K (.builtin "object.__class__")=some true)
  (eg6M:PySem.W.mroIn K CM (.type "object")=some true)
  (eg7M:PySem.W.mroIn K CM (.type "BaseException")=some true)
  (eg8M:Lp K CM=true)
  (ek1M:E_ K (.ref CM) (.ref CM)=some true)
  (ek2M:PySem.W.kitAny K (.ref CM) [.ref qqE,.ref CN,.ref CT,.ref CW]=some false)
  (ek3M:E_ K (.ref CM) (.type "ValueError")=some true)
  (knl:Nw K=true)
  : ∃ fd:Ih,(∀ (s:Shared) (v:Value),BindsTo s fd ⟨[v],[]⟩ [("_law_script",v)])/\∀ base:Heap,K.In base->base.Ns Bs mg->FnOk l.prog w K mg base bg 13 fa fd ["_law_script"] (spF K 1 g_law):=by
 obtain ⟨f47,oc47,od47,an47,osl47,kV47,AY,pm47,A2,ct47,a47,l47,c47,k47⟩:=d47
 have F47:=Hj l47 c47 k47
 have e:=hfa.symm.trans (Il X G a47)
 cases e
 have T:Txt w K mg:=⟨trivial,EC X G b_ValueError,EC X G b_all,EC X G b_bool,EC X G b_enumerate,EC X G b_int,EC X G b_isinstance,EC X G b_len,EC X G b_list,EC X G b_max,EC X G b_min,EC X G b_range,EC X G b_reversed,EC X G b_sorted,EC X G b_tuple,EC X G b_zip,⟨_,Il X G q_0c⟩,⟨_,Il X G q_1c⟩,G9 (xs:=[.int 0,.int 0]) (Il X G q_2c) r_2c (show 2<=sizeLine from by decide) (.cons ⟨_,rfl⟩ (.cons ⟨_,rfl⟩ .nil)) (.cons (u9.mpr rfl) (.cons (u9.mpr rfl) .nil)),⟨_,Il X G q_3c⟩,G9 (xs:=[.int 1,.int 0]) (Il X G q_4c) r_4c (show 2<=sizeLine from by decide) (.cons ⟨_,rfl⟩ (.cons ⟨_,rfl⟩ .nil)) (.cons (u9.mpr rfl) (.cons (u9.mpr rfl) .nil)),Dv (Il X G q_5c) r_5c (.cons (v:=.ref _) (by rfl) rfl (xK (xs:=[.int 2,.int 0]) r_5c_0 (show 2<=sizeLine from by decide) (.cons ⟨_,rfl⟩ (.cons ⟨_,rfl⟩ .nil)) (.cons (u9.mpr rfl) (.cons (u9.mpr rfl) .nil))) (.cons (v:=.ref _) (by rfl) rfl (xK (xs:=[.int 0,.int 0]) r_5c_1 (show 2<=sizeLine from by decide) (.cons ⟨_,rfl⟩ (.cons ⟨_,rfl⟩ .nil)) (.cons (u9.mpr rfl) (.cons (u9.mpr rfl) .nil))) (.cons (v:=.ref _) (by rfl) rfl (xK (xs:=[.int 1,.int 0]) r_5c_2 (show 2<=sizeLine from by decide) (.cons ⟨_,rfl⟩ (.cons ⟨_,rfl⟩ .nil)) (.cons (u9.mpr rfl) (.cons (u9.mpr rfl) .nil))) (.cons (v:=.ref _) (by rfl) rfl (xK (xs:=[.int 2,.int 0]) r_5c_3 (show 2<=sizeLine from by decide) (.cons ⟨_,rfl⟩ (.cons ⟨_,rfl⟩ .nil)) (.cons (u9.mpr rfl) (.cons (u9.mpr rfl) .nil))) (.cons (v:=.ref _) (by rfl) rfl (xK (xs:=[.int 0,.int 1]) r_5c_4 (show 2<=sizeLine from by decide) (.cons ⟨_,rfl⟩ (.cons ⟨_,rfl⟩ .nil)) (.cons (u9.mpr rfl) (.cons (u9.mpr rfl) .nil))) (.cons (v:=.ref _) (by rfl) rfl (xK (xs:=[.int 3,.int 0]) r_5c_5 (show 2<=sizeLine from by decide) (.cons ⟨_,rfl⟩ (.cons ⟨_,rfl⟩ .nil)) (.cons (u9.mpr rfl) (.cons (u9.mpr rfl) .nil))) .nil)))))) (by decide),Hd (Il X G q_6c) r_6c kr_y_6c (.cons (ks:=[3,4,3]) (v:=.str "f4") kr_z_6c_0 r_6c_0 (.cons ⟨_,rfl⟩ (.cons ⟨_,rfl⟩ (.cons ⟨_,rfl⟩ .nil))) ⟨_,rfl⟩ (Ei.mpr rfl) (.cons (ks:=[3,5]) (v:=.str "h3") kr_z_6c_1 r_6c_1 (.cons ⟨_,rfl⟩ (.cons ⟨_,rfl⟩ .nil)) ⟨_,rfl⟩ (Ei.mpr rfl) (.cons (ks:=[3,3,5]) (v:=.str "h4") kr_z_6c_2 r_6c_2 (.cons ⟨_,rfl⟩ (.cons ⟨_,rfl⟩ (.cons ⟨_,rfl⟩ .nil))) ⟨_,rfl⟩ (Ei.mpr rfl) (.cons (ks:=[5]) (v:=.str "i5") kr_z_6c_3 r_6c_3 (.cons ⟨_,rfl⟩ .nil) ⟨_,rfl⟩ (Ei.mpr rfl) (.cons (ks:=[6]) (v:=.str "i6") kr_z_6c_4 r_6c_4 (.cons ⟨_,rfl⟩ .nil) ⟨_,rfl⟩ (Ei.mpr rfl) .nil))))) (by decide),He (Il X G q_7c) r_7c kr_y_7c (.cons (v:=.ref _) kr_z_7c_0 rfl (xK (xs:=[.int 2,.int 5,.int 6,.int 8,.int 9,.int 12]) r_7c_0 (show 6<=sizeLine from by decide) (.cons ⟨_,rfl⟩ (.cons ⟨_,rfl⟩ (.cons ⟨_,rfl⟩ (.cons ⟨_,rfl⟩ (.cons ⟨_,rfl⟩ (.cons ⟨_,rfl⟩ .nil)))))) (.cons (u9.mpr rfl) (.cons (u9.mpr rfl) (.cons (u9.mpr rfl) (.cons (u9.mpr rfl) (.cons (u9.mpr rfl) (.cons (u9.mpr rfl) .nil))))))) (.cons (v:=.ref _) kr_z_7c_1 rfl (xK (xs:=[.int 2,.int 6,.int 8,.int 12]) r_7c_1 (show 4<=sizeLine from by decide) (.cons ⟨_,rfl⟩ (.cons ⟨_,rfl⟩ (.cons ⟨_,rfl⟩ (.cons ⟨_,rfl⟩ .nil)))) (.cons (u9.mpr rfl) (.cons (u9.mpr rfl) (.cons (u9.mpr rfl) (.cons (u9.mpr rfl) .nil))))) (.cons (v:=.ref _) kr_z_7c_2 rfl (xK (xs:=[.int 2,.int 6,.int 10]) r_7c_2 (show 3<=sizeLine from by decide) (.cons ⟨_,rfl⟩ (.cons ⟨_,rfl⟩ (.cons ⟨_,rfl⟩ .nil))) (.cons (u9.mpr rfl) (.cons (u9.mpr rfl) (.cons (u9.mpr rfl) .nil)))) (.cons (v:=.ref _) kr_z_7c_3 rfl (xK (xs:=[.int 2,.int 12,.int 20,.int 30]) r_7c_3 (show 4<=sizeLine from by decide) (.cons ⟨_,rfl⟩ (.cons ⟨_,rfl⟩ (.cons ⟨_,rfl⟩ (.cons ⟨_,rfl⟩ .nil)))) (.cons (u9.mpr rfl) (.cons (u9.mpr rfl) (.cons (u9.mpr rfl) (.cons (u9.mpr rfl) .nil))))) (.cons (v:=.ref _) kr_z_7c_4 rfl (xK (xs:=[.int 2,.int 5]) r_7c_4 (show 2<=sizeLine from by decide) (.cons ⟨_,rfl⟩ (.cons ⟨_,rfl⟩ .nil)) (.cons (u9.mpr rfl) (.cons (u9.mpr rfl) .nil))) (.cons (v:=.ref _) kr_z_7c_5 rfl (xK (xs:=[.int 2,.int 6]) r_7c_5 (show 2<=sizeLine from by decide) (.cons ⟨_,rfl⟩ (.cons ⟨_,rfl⟩ .nil)) (.cons (u9.mpr rfl) (.cons (u9.mpr rfl) .nil))) .nil)))))) (by decide +kernel)⟩
 have gw:ExT K mg "TooMany" CM:=⟨Il X G enM,eokM⟩
 have ECM:Catches K CH CM:=⟨ec1,ec2,ec3,ec4M⟩
 have ERM:ExcCls K CM:=⟨eg1M,eg2M,eg3M,eg4M,eg5M,eg6M,eg7M,eg8M⟩
 refine ⟨W.fnOf "law" "law" (vO WA) (wo WA) (zl WA) .none kV47 AY pm47 an47 A2 ct47,λs v=>.of_eq rfl,λbase _ _=>?_⟩
 have q:∀ {x:Str} {st:Stmt} {k n:Nat} {ps:List Str} {g:List D->Option D},Df K x st->(∀ {f:Addr} {fd:Ih},Fun K x x st f fd->FnOk l.prog w K mg base bg k f fd ps (spF K n g))->(∀ (kV doc pm:Value) (an:Option Addr) (ar ct:Value) (us:List Value),us.length=ps.length->bindArgs (W.fnOf x x (vO st) (wo st) (zl st) .none kV doc pm an ar ct) ⟨us,[]⟩=pure (ps.zip us))->HasFn l.prog w K mg base k x n g:=λd o b=>Al X G d o b
 have qx:∀ {x:Str} {st:Stmt} {k n:Nat} {ps:List Str} {g:List D->Option RX},Df K x st->(∀ {f:Addr} {fd:Ih},Fun K x x st f fd->FnOk l.prog w K mg base (fH l.prog w) k f fd ps (nW mg K n g))->(∀ (kV doc pm:Value) (an:Option Addr) (ar ct:Value) (us:List Value),us.length=ps.length->bindArgs (W.fnOf x x (vO st) (wo st) (zl st) .none kV doc pm an ar ct) ⟨us,[]⟩=pure (ps.zip us))->HasFnX l.prog w K mg base k x n g:=λd o b=>zdy X G d o b
 have H0:=q d0 (λF=>BE.2 F T ) (λ_ _ _ _ _ _=>Zd (λ_ _=>rfl))
 have H1:=q d1 (λF=>US.2 F T ) (λ_ _ _ _ _ _=>Zd (λ_ _=>rfl))
 have H2:=q d2 (λF=>UU.2 F T ) (λ_ _ _ _ _ _=>UN (λ_=>rfl))
 have H3:=q d3 (λF=>wR.2 F T ) (λ_ _ _ _ _ _=>UN (λ_=>rfl))
 have H4:=q d4 (λF=>Jf.2 F T H3) (λ_ _ _ _ _ _=>UN (λ_=>rfl))
 have H5:=q d5 (λF=>Yl.2 F T ) (λ_ _ _ _ _ _=>BA (λ_ _ _=>rfl))
 have H6:=q d6 (λF=>vA.2 F T H2 H5) (λ_ _ _ _ _ _=>BA (λ_ _ _=>rfl))
 have H7:=q d7 (λF=>uV.2 F T H5) (λ_ _ _ _ _ _=>BA (λ_ _ _=>rfl))
 have H8:=q d8 (λF=>Yk.2 F T ) (λ_ _ _ _ _ _=>Zd (λ_ _=>rfl))
 have H9:=q d9 (λF=>Ym.2 F T H7 H8) (λ_ _ _ _ _ _=>Zd (λ_ _=>rfl))
 have rS:=q d10 (λF=>UT.2 F T H9) (λ_ _ _ _ _ _=>UN (λ_=>rfl))
 have H11:=q d11 (λF=>uX.2 F T H7 H8) (λ_ _ _ _ _ _=>BA (λ_ _ _=>rfl))
 have H12:=q d12 (λF=>Wf.2 F T H11) (λ_ _ _ _ _ _=>Zd (λ_ _=>rfl))
 have H13:=q d13 (λF=>uu.2 F T H5) (λ_ _ _ _ _ _=>Zd (λ_ _=>rfl))
 have H14:=q d14 (λF=>vD.2 F T ) (λ_ _ _ _ _ _=>UN (λ_=>rfl))
 have H15:=q d15 (λF=>xf.2 F T ) (λ_ _ _ _ _ _=>Zd (λ_ _=>rfl))
 have H16:=q d16 (λF=>wF.2 F T H12 H14 H13) (λ_ _ _ _ _ _=>Zd (λ_ _=>rfl))
 have H17:=q d17 (λF=>vS.2 F T ) (λ_ _ _ _ _ _=>Zd (λ_ _=>rfl))
 have H18:=q d18 (λF=>vC.2 F T H17 H12 H15 H7 H8) (λ_ _ _ _ _ _=>Zd (λ_ _=>rfl))
 have H19:=q d19 (λF=>Ys.2 F T H16 H18) (λ_ _ _ _ _ _=>Zd (λ_ _=>rfl))
 have H20:=q d20 (λF=>UW.2 F T H19 rS) (λ_ _ _ _ _ _=>UN (λ_=>rfl))
 have H21:=q d21 (λF=>uW.2 F T H20) (λ_ _ _ _ _ _=>UN (λ_=>rfl))
 have H22:=q d22 (λF=>yy.2 F T ) (λ_ _ _ _ _ _=>Zd (λ_ _=>rfl))
 have H23:=q d23 (λF=>Yt.2 F T H22 H21 H20) (λ_ _ _ _ _ _=>UN (λ_=>rfl))
 have H24:=q d24 (λF=>BD.2 F T H23) (λ_ _ _ _ _ _=>UN (λ_=>rfl))
 have H25:=q d25 (λF=>Wa.2 F T ) (λ_ _ _ _ _ _=>Zd (λ_ _=>rfl))
 have H26:=q d26 (λF=>ki.2 F T H2 H0 H6 H1) (λ_ _ _ _ _ _=>BA (λ_ _ _=>rfl))
 have H27:=q d27 (λF=>PU.2 F T H26) (λ_ _ _ _ _ _=>BA (λ_ _ _=>rfl))
 have H28:=q d28 (λF=>We.2 F T H27 H25) (λ_ _ _ _ _ _=>Zd (λ_ _=>rfl))
 have H29:=q d29 (λF=>Yn.2 F T H2 H0 H1) (λ_ _ _ _ _ _=>BA (λ_ _ _=>rfl))
 have H30:=q d30 (λF=>xB.2 F T H29 H6) (λ_ _ _ _ _ _=>BA (λ_ _ _=>rfl))
 have H31:=q d31 (λF=>km.2 F T H4) (λ_ _ _ _ _ _=>UN (λ_=>rfl))
 have H32:=q d32 (λF=>qy.2 F T H21 H24) (λ_ _ _ _ _ _=>Zd (λ_ _=>rfl))
 have H33:=q d33 (λF=>vB.2 F T H30 H31) (λ_ _ _ _ _ _=>Zd (λ_ _=>rfl))
 have H34:=q d34 (λF=>Wb.2 F T H32 H28 H33) (λ_ _ _ _ _ _=>Zd (λ_ _=>rfl))
 have HX34:=qx d34 (λF=>Zf.2 F T gw H32 H28 H33 ) (λ_ _ _ _ _ _=>Zd (λ_ _=>rfl))
 have H35:=q d35 (λF=>Jg.2 F T ) (λ_ _ _ _ _ _=>Zd (λ_ _=>rfl))
 have H36:=q d36 (λF=>UV.2 F T ) (λ_ _ _ _ _ _=>Zd (λ_ _=>rfl))
 have H37:=q d37 (λF=>Yo.2 F T ) (λ_ _ _ _ _ _=>UN (λ_=>rfl))
 have H38:=q d38 (λF=>Wc.2 F T ) (λ_ _ _ _ _ _=>BA (λ_ _ _=>rfl))
 have H39:=q d39 (λF=>Zg.2 F T H38) (λ_ _ _ _ _ _=>BA (λ_ _ _=>rfl))
 have H40:=q d40 (λF=>Yq.2 F T H39) (λ_ _ _ _ _ _=>UN (λ_=>rfl))
 have H41:=q d41 (λF=>Yp.2 F T ) (λ_ _ _ _ _ _=>Zd (λ_ _=>rfl))
 have H42:=q d42 (λF=>Yr.2 F T H35 H36) (λ_ _ _ _ _ _=>UN (λ_=>rfl))
 have H43:=q d43 (λF=>kl.2 F T H41) (λ_ _ _ _ _ _=>BA (λ_ _ _=>rfl))
 have H44:=q d44 (λF=>kj.2 F T H43 H40) (λ_ _ _ _ _ _=>UN (λ_=>rfl))
 have H45:=q d45 (λF=>jT.2 F T ) (λ_ _ _ _ _ _=>Zd (λ_ _=>rfl))
 have H46:=q d46 (λF=>Wd.2 F T H37) (λ_ _ _ _ _ _=>Zd (λ_ _=>rfl))
 exact Si F47 T knl (Il X G enM) (Il X G enH) (Il X G enE) (Il X G enN) (Il X G enT) (Il X G enW) ECM ERM ek1M ek2M ek3M HX34 H35 H42 H36 H45 H44 H46 H34
open GH
def PV (h1 : -3<=a) (h2:a<=3):JD (.int a) (.int b)=some (.int (a * b)):=vj (uK (by omega) (by omega))
def bb (h:n<=100):n<=sizeLine:=oE (yQ (by omega))
def eT   : ay (.tup (x :: l)) (.int 0)=some x:=by simp [ay,atI,dF]
def gX   : ay (.tup (x :: y :: l)) (.int 1)=some y:=by
 have h:=vy (xs:=x :: y :: l) (j:=1) (v:=y) rfl
 exact h
def XE (x y):Z5 [gD x,gD y]=some (gD (yz x y)):=by simp [Z5,BE,gD,eT,gX,yz,Eo]
def ZT (x):qK [gD x]=some (gD (yt x)):=by simp [qK,UU,gD,eT,gX,yt,Eo]
def Wq (y) (h : -3<=x.1/\x.1<=2 /\ -1<=x.2/\x.2<=0):qJ [gD x,gD y]=some (gD (yd x y)):=by
 have c:=λb=>@PV x.1 b (by omega) (by omega)
 have a:=λb=>@PV x.2 b (by omega) (by omega)
 simp [qJ,US,gD,eT,gX,yd,c,a,Eo]
theorem Wo (h) (i j a b:Int):∀ ts s1 s2 e,∃ o,z9 (kH 3 (yB (zS 5) (yB (zS 6) (yB (zS 7) ZO)))) (dh (BM (aU (zt bY (vF 5) (vF 3))) (aU (zt bY (vF 6) (vF 4)))) (Yv (vF 7)) eF) (ts.map tD)
  [.fr h,.fr (.int i),.fr (.int j),.fr (.int (cy i j)),.fr (.int (cA i j)),s1,s2,e]=some o/\V8 ((some o).bind λo=>match o with | .nx aD=>Yv (cF (.int 2)) aD | o=>some o)=some (.int (zh ts i j))
 | [],s1,s2,e=>⟨_,rfl,rfl⟩
 | t :: ts,s1,s2,e=>by
  obtain ⟨o,h1,h2⟩:=Wo h i j a b ts (.fr (.int t.1)) (.fr (.int t.2.1)) (.fr (.int t.2.2))
  rw [au]
  unfold z9 zh
  by_cases c:t.1=cy i j
  .by_cases d:t.2.1=cA i j
   .exact ⟨.rt (.int t.2.2),by simp [tD,c,d],by simp [c,d]⟩
   .refine ⟨o,?_,by simpa [d] using h2⟩
    simp [tD,c,d] at h1 ⊢
    exact h1
  .refine ⟨o,?_,by simpa [c] using h2⟩
   simp [tD,c] at h1 ⊢
   exact h1
def Xf (n) (ts:List T3) (i j:Int):vq [ze n ts,.int i,.int j]=some (.int (zh ts i j)):=by
 obtain ⟨o,h1,h2⟩:=Wo (ze n ts) i j 0 0 ts .no .no .no
 have e:ay (ze n ts) (.int 1)=some (.lst (ts.map tD)):=by unfold ze; exact gX
 simp [vq,Yl,e,aF] at h2 ⊢
 unfold cy cA at h1
 simp at h1
 rw [h1]
 exact h2
def Kc (m):inD false (.int m) (.tup [.int 4,.int 6])=some (.bl (decide (m=4\/m=6))):=by
 simp [inD,qG,dep,b6]
 by_cases h:m=4
 .subst h; rfl
 .by_cases h':m=6
  .subst h'; rfl
  .have a:(4==m)=false:=by simpa using λz:(4:Int)=m=>h z.symm
   have b:(6==m)=false:=by simpa using λz:(6:Int)=m=>h' z.symm
   simp [a,b,h,h']
def Qh (n) (hg:zT ts) (i j):wj [ze n ts,.int i,.int j]=some (gD (uI ts i j)):=by
 have t:=Xf n ts i j
 have gt:=w9 hg i j
 unfold uI
 by_cases h:i=j
 .simp [wj,vA,h,Eo,gD]
 .generalize zh ts i j=m at t gt
  have b:=ZT
  have c:m=0\/m=2\/m=3\/m=4\/m=5\/m=6:=by omega
  by_cases h2:j < i
  .have a:¬ i < j:=by omega
   rcases c with e | e | e | e | e | e <;> subst e
   .have:=b (2,0); simp [gD,yt] at this; simp [wj,vA,h,h2,a,t,Kc,Eo,kJ,gK,zN,this,gD]
   .have:=b (0,0); simp [gD,yt] at this; simp [wj,vA,h,h2,a,t,Kc,Eo,kJ,gK,zN,this,gD]
   .have:=b (1,0); simp [gD,yt] at this; simp [wj,vA,h,h2,a,t,Kc,Eo,kJ,gK,zN,this,gD]
   .simp [wj,vA,h,h2,a,t,Kc,Eo,zN,gD]
   .have:=b (0,1); simp [gD,yt] at this; simp [wj,vA,h,h2,a,t,Kc,Eo,kJ,gK,zN,this,gD]
   .simp [wj,vA,h,h2,a,t,Kc,Eo,zN,gD]
  .have a:i < j:=by omega
   rcases c with e | e | e | e | e | e <;> subst e
   .have:=b (2,0); simp [gD,yt] at this; simp [wj,vA,h,h2,a,t,Kc,Eo,kJ,gK,zN,this,gD]
   .have:=b (0,0); simp [gD,yt] at this; simp [wj,vA,h,h2,a,t,Kc,Eo,kJ,gK,zN,this,gD]
   .have:=b (1,0); simp [gD,yt] at this; simp [wj,vA,h,h2,a,t,Kc,Eo,kJ,gK,zN,this,gD]
   .have:=b (2,0); simp [gD,yt] at this; simp [wj,vA,h,h2,a,t,Kc,Eo,kJ,gK,zN,this,gD]
   .have:=b (0,1); simp [gD,yt] at this; simp [wj,vA,h,h2,a,t,Kc,Eo,kJ,gK,zN,this,gD]
   .have:=b (3,0); simp [gD,yt] at this; simp [wj,vA,h,h2,a,t,Kc,Eo,kJ,gK,zN,this,gD]
def D5 (xs:List α) (k:Nat):Yw xs none (some (k:Int))=xs.take k:=by
 unfold Yw
 rw [HT.sIx_none,HT.sIx_nat,List.drop_zero,Nat.sub_zero]
 by_cases h:k<=xs.length
 .rw [oH h]
 .rw [AH (by omega),AK (aM _),AK (by omega)]
def D6 (xs:List α) (k:Nat):Yw xs (some (k:Int)) none=xs.drop k:=by
 unfold Yw
 rw [HT.sIx_none,HT.sIx_nat]
 by_cases h:k<=xs.length
 .rw [oH h,AK (by simp)]
 .rw [AH (by omega),rQ (aM _),rQ (by omega)]; simp
def Hw:Nat->List D->List D
 | _,[]=>[]
 | k,d :: ds=>.tup [.int (k:Int),d] :: Hw (k+1) ds
def Pd (ds):um ds=Hw 0 ds:=by
 have gen:∀ (ds:List D) (k:Nat),(ds.zipIdx k).map (λp=>D.tup [.int (p.2:Int),p.1])=Hw k ds:=by
  intro ds
  induction ds with
  | nil=>intro k; rfl
  | cons d ds a=>intro k; rw [List.zipIdx_cons,au,a]; rfl
 exact gen ds 0
def TN  {i:Nat} (h:ds[i]? = some d):ay (.tup ds) (.int (i:Int))=some d:=vy h
def PD  {i:Nat} (h:ds[i]? = some d):ay (.lst ds) (.int (i:Int))=some d:=vy h
def RB  {i:Nat} (h:i < r.length):ay (yG r) (.int (i:Int))=some (gD (r.getD i (0,0))):=by
 unfold yG
 apply TN
 simp [aW,h]
def Jq {r:List Gd} (x) (h:i < r.length):(r.map gD).take i++gD x :: (r.map gD).drop (i+1)=(r.set i x).map gD:=by
 rw [List.map_set]
 apply Lr
 intro k
 rcases Ls k i with a | a | a
 .rw [fE (by simp; omega),du,if_neg (by omega),g4i a]
 .subst a
  rw [fX (by simp; omega)]
  simp [h,oH (oE h)]
 .rw [fX (by simp; omega),du,if_neg (by omega)]
  have:k - (List.take i (dC gD r)).length=(k - i - 1)+1:=by simp; omega
  rw [this,aB,List.getElem?_drop]
  congr 1
  omega
noncomputable def T7:FS:=qu 3 (yo Z5 (zf (vF 3) (zf (yo qJ (zf (yo wj (zf (vF 0) (zf (vF 1) (zf (vF 4) yb)))) (zf (vF 5) yb))) yb)))
theorem Qs (n) (hg:zT ts) (i:Nat) (R:D):∀ r k b d c,∃ f g,z9 (kH 2 (yB (zS 4) (yB (zS 5) ZO))) T7 (Hw k (r.map gD)) [.fr (ze n ts),.fr (.int i),.fr R,.fr (gD b),d,c] =
  some (.nx [.fr (ze n ts),.fr (.int i),.fr R,.fr (gD (xg (zb ts i) k r b)),f,g])
 | [],k,b,d,c=>⟨d,c,rfl⟩
 | x :: r,k,b,d,c=>by
  obtain ⟨f,g,e⟩:=Qs n hg i R r (k+1) (yz b (yd (zb ts i k) x)) (.fr (.int k)) (.fr (gD x))
  refine ⟨f,g,?_⟩
  have p:=Qh n hg (i:Int) (k:Int)
  have m:=Wq x (ug ts i k)
  have a:=XE b (yd (uI ts i k) x)
  rw [au]
  unfold Hw z9
  simp [T7,p,m,a]
  unfold T7 at e
  exact e
def WY (n) (hg:zT ts) {r:List Gd} (hi:i < r.length) (h:r.length<=100):qf [ze n ts,.int i,yG r]=some (yG (w4 (zb ts i) i r)):=by
 obtain ⟨a,b,e⟩:=Qs n hg i (yG r) r 0 (0,0) .no .no
 have f:=ZT (xg (zb ts i) 0 r (0,0))
 have d:=XE (r.getD i (0,0)) (yt (xg (zb ts i) 0 r (0,0)))
 have c:=RB hi
 have z1:i<=sizeLine:=bb (by omega)
 have g:gD (0,0)=.tup [.int 0,.int 0]:=rfl
 rw [g,<- Pd] at e
 have sl:=Jq (yz (r.getD i (0,0)) (yt (xg (zb ts i) 0 r (0,0)))) hi
 have s1:U7 (vF 2) noP (exP (vF 1)) [.fr (ze n ts),.fr (.int i),.fr (yG r),.fr (gD (xg (zb ts i) 0 r (0,0))),a,b]=some (.tup ((r.map gD).take i)):=by
  simp [yG,D5]
 have s2:U7 (vF 2) (exP (zt X9 (vF 1) (cF (.int 1)))) noP [.fr (ze n ts),.fr (.int i),.fr (yG r),.fr (gD (xg (zb ts i) 0 r (0,0))),a,b]=some (.tup ((r.map gD).drop (i+1))):=by
  have:=D6 (r.map gD) (i+1)
  simp [yG] at this ⊢
  exact this
 have it:QC (vF 2) [.fr (ze n ts),.fr (.int i),.fr (yG r),.fr (.tup [.int 0,.int 0]),.no,.no]=some (um (r.map gD)):=by simp [yG]
 have a1:∀ x,X9 (.tup ((r.map gD).take i)) (.tup [x])=some (.tup ((r.map gD).take i++[x])):=λx=>by
  show (if _ then _ else _)=_
  rw [if_pos (bb (by simp; omega))]
 have a2:∀ x,X9 (.tup ((r.map gD).take i++[x])) (.tup ((r.map gD).drop (i+1)))=some (.tup ((r.map gD).take i++[x]++(r.map gD).drop (i+1))):=λx=>by
  show (if _ then _ else _)=_
  rw [if_pos (bb (by simp; omega))]
 unfold qf ki
 simp only [z5,zB,au,aP,ao,aE,aF,bz,a_,zy,yH,xR,ai,aV,aT,xY,it]
 unfold T7 at e
 rw [e]
 simp only [ai,yc,zx,s1,s2,ux,zj,zr,zD,yh,aq,aB,c,f,d,ao,aE]
 rw [if_pos (bb (by decide))]
 simp only [ai,a1,a2,yq]
 unfold yG w4
 rw [<- sl,b9]
 rfl
def Jn (n) (ts:List T3) (i:Nat) (l:n<=100):jr [ze n ts,.int i]=some (yG (zL n i)):=by
 have e:ay (ze n ts) (.int 0)=some (.int n):=by unfold ze; exact eT
 have b:vG [.int (n:Int)]=some (y7 0 n):=xC (by omega) (by omega)
 have c:=Fb (f:=ifF (aU (zt bY (vF 0) (vF 1))) (cF (.tup [(.int 1),(.int 0)])) (cF (.tup [(.int 0),(.int 0)]))) (C:=[.fr (.int (i:Int))]) (φ:=λj=>gD (if j=i then (1,0) else (0,0))) (y7 0 n) 0 .no (λk d g=>by
  obtain ⟨rfl,_⟩:=YQ g
  by_cases h:k=i
  .simp [h,gD]
  .have:¬ (k:Int)=(i:Int):=by omega
   simp [h,this,gD])
 have hz:n<=sizeLine:=bb (by omega)
 have a:(y7 0 (n:Int)).length=n:=by rw [jg]; omega
 simp only [a,fU] at c
 unfold jr Wa
 simp only [z5,zB,au,aP,ao,aE,aF,bz,a_,yc,zD,zj,zM,xj,qC,zx,yh,xR,aq,aB,ai,e,zr,b,a,if_pos hz,xA,vV,c,b8,ME,yq]
 simp only [yG,zL,bM]
 rfl
def zR (w:List Nat):D:=.tup (w.map λ(i:Nat)=>.int (i:Int))
def Ki (i):v8 [.int i]=some (.bl true):=by simp [v8,Yo,VR,lE]
def Hu (h:dep d<=100):bY d d=some (.bl true):=by
 unfold bY
 rw [if_pos h,qj]
def Gs (h:dep d<=100):c_ d d=some (.bl false):=by
 unfold c_
 rw [if_pos h,qj]
 rfl
def Vo (n) (ts:List T3):dep (ze n ts)<=100:=by
 have:qG (ts.map tD)<=1:=X1 λd hd=>by
  obtain ⟨x,_,rfl⟩:=aR.mp hd
  simp [tD,dep,qG]
 simp [ze,dep,qG]
 omega
theorem WL (n) (hg:zT ts) (W) (d:n<=100):∀ (l:List Nat) (r) (s3),r.length=n->(∀ i∈l,i < n)->∃ f,z9 (zS 3) (qu 2 (yo qf (zf (vF 0) (zf (vF 3) (zf (vF 2) yb))))) (l.map λ(i:Nat)=>.int (i:Int)) [.fr (ze n ts),.fr W,.fr (yG r),s3] =
  some (.nx [.fr (ze n ts),.fr W,.fr (yG (l.foldl (λr i=>w4 (zb ts i) i r) r)),f])
 | [],r,s3,b,a=>⟨s3,rfl⟩
 | i :: l,r,s3,b,a=>by
  have hi:=a i aN
  have m:=WY n hg (i:=i) (r:=r) (by omega) (by omega)
  obtain ⟨c,g⟩:=WL n hg W d l (w4 (zb ts i) i r) (.fr (.int i)) (by rw [zY,b]) (λj e=>a j (aX _ e))
  refine ⟨c,?_⟩
  rw [au]
  unfold z9
  simp only [yL,ai,aV,aT,yH,zD,zj,zr,yh,aq,aB,m]
  exact g
def Cr (n) (hg:zT ts) (c:n<=100) (b:r.length=n) (a:∀ i∈w,i < n):Hi [ze n ts,zR w,yG r]=some (yG (zO (zb ts) w r)):=by
 obtain ⟨f,e⟩:=WL n hg (zR w) c w.reverse r .no b (λi hi=>a i (by simpa using hi))
 have d:(w.map λ(i:Nat)=>D.int (i:Int)).reverse=w.reverse.map λ(i:Nat)=>D.int (i:Int):=by simp
 unfold Hi PU
 simp only [z5,zB,au,aP,ao,aE,Nat.reduceAdd,Nat.reduceSub,aF,bz,a_,zy,xY,Cc,yh,aq,aB,ai,zR,d]
 unfold zR at e
 rw [e]
 simp only [ai,yc,yh,aq,aB,yq,zO,List.foldl_reverse]
def XS (ts:List T3) (n:Nat) (w:List Nat):List (List Gd):=(aw n).map λi=>zO (zb ts) w (zL n i)
def yT (a:List (List Gd)):D:=.lst (a.map yG)
def V6 (n) (hg:zT ts) (a:n<=100) (m:∀ i∈w,i < n):jx [ze n ts,zR w]=some (yT (XS ts n w)):=by
 have e:ay (ze n ts) (.int 0)=some (.int n):=by unfold ze; exact eT
 have j:vG [.int (n:Int)]=some (y7 ((0:Nat):Int) n):=xC (by omega) (by omega)
 have c:=Fb (f:=yo Hi (zf (vF 1) (zf (vF 2) (zf (yo jr (zf (vF 1) (zf (vF 0) yb))) yb)))) (C:=[.fr (ze n ts),.fr (zR w)]) (φ:=λi=>yG (zO (zb ts) w (zL n i))) (y7 ((0:Nat):Int) n) 0 .no (λk d o=>by
  obtain ⟨rfl,_⟩:=YQ o
  have h:=Jn n ts k a
  have l:=Cr n hg a (zc n k) m
  have e2:((0:Nat):Int)+(k:Int)=(k:Int):=by omega
  simp only [zD,zj,zr,yh,aB,aq,ai,e2,h,l,fU])
 have b:(y7 ((0:Nat):Int) (n:Int)).length=n:=by rw [jg]; omega
 have hi:MR (zf (zt ay (vF 0) (cF (.int 0))) yb) [.fr (ze n ts),.fr (zR w)]=some (y7 ((0:Nat):Int) n):=by
  simp only [qC,zj,zx,yh,aq,xR,ai,e,zr,j]
 have g:=Zb (n:=1) (caps:=[0,1]) (γ:=zS 0) (ft:=eQ) (f:=yo Hi (zf (vF 1) (zf (vF 2) (zf (yo jr (zf (vF 1) (zf (vF 0) yb))) yb)))) hi (by rw [b]; exact bb (by omega))
 have p:qz 1 [0,1] [.fr (ze n ts),.fr (zR w)]=[.no,.fr (ze n ts),.fr (zR w)]:=rfl
 rw [p,c,b] at g
 simp only [jx,We,z5,zB,au,aP,ao,aE,Nat.reduceAdd,Nat.reduceSub,aF,bx,yc,zM,g,ai,b8,yq,fU]
 simp only [yT,XS,bM,Function.comp_def]
def Wj (n):wL [.int n]=some (.int (M02.wsgn n)):=by
 unfold M02.wsgn
 by_cases h:0 < n
 .simp [wL,wR,h]
 .by_cases h2:n < 0
  .simp [wL,wR,h,h2]
  .simp [wL,wR,h,h2]
def Kh (n) : -1<=M02.wsgn n/\M02.wsgn n<=1:=by rcases M02.wsgn_cases n with ⟨_,e⟩ | ⟨_,e⟩ | ⟨_,e⟩ <;> rw [e] <;> decide
def B3 (d:x.1.natAbs < big) (c:x.2.natAbs < big):Y1 [gD x]=some (.int (Wx x)):=by
 obtain ⟨a,b⟩:=x
 simp only at d c
 have j:=vj (ZP d d)
 have i:=vj (ZP d c)
 have g:=vj (ZP c c)
 have l:=Kh a
 have k:=Kh b
 have e:JD (.int (M02.wsgn a)) (.int (M02.wsgn b))=_:=vj (uK (by omega) (by omega))
 have f:∀ z,JD (.int (M02.wsgn a)) (.int z)=_:=λz=>vj (uK (by omega) (by omega))
 unfold Wx M02.sgn
 by_cases h:0<=M02.wsgn a * M02.wsgn b
 .simp [Y1,Jf,gD,eT,gX,Wj,h,e]
 .simp [Y1,Jf,gD,eT,gX,Wj,h,e,f,j,i,g]
def Fit (r:List Gd):Prop:=∀ x∈r,x.1.natAbs < big/\x.2.natAbs < big
def S9 (s:Int) (r:List Gd):Bool:=r.any λx=>decide (Wx x=s)
def QG (neg) (s:Int) (r:List Gd):inD neg (.int s) (.lst ((r.map Wx).map D.int))=some (.bl (xor neg (S9 s r))):=by
 have hd:qG ((r.map Wx).map D.int)<=100:=fV (X1 (k:=0) λd hd=>by
  obtain ⟨x,_,rfl⟩:=aR.mp hd
  simp [dep]) (by decide)
 show (if _ then _ else _)=_
 rw [if_pos hd]
 congr 3
 unfold S9
 rw [bM,List.any_map]
 rfl
def jk (f:α->β) (l:List α) (z:α):(aw l.length).map (λk=>f (l.getD k z))=l.map f:=by
 apply Lr
 intro k
 rw [cP,cP]
 by_cases h:k < l.length
 .rw [g4f h]
  simp [aW,h]
 .rw [ir (by simpa using h),ir (by omega)]
  rfl
def Jo {r:List Gd} (b:r.length<=100) (hg:∀ x∈r,g [gD x]=some (.int (Wx x))):yN (zS 0) eQ (yo g (zf (vF 0) yb)) (r.map gD) [.no]=some ((r.map Wx).map D.int):=by
 have c:=Fb (f:=yo g (zf (vF 0) yb)) (C:=[]) (φ:=λk=>D.int (Wx (r.getD k (0,0)))) (r.map gD) 0 .no (λk d a=>by
  rw [cP] at a
  cases e:r[k]? with
  | none=>rw [e] at a; cases a
  | some x =>
   rw [e] at a
   cases a
   have:=hg x (gN e)
   simp only [zD,zj,zr,yh,aq,ai,this,fU,aW,e,mF])
 rw [c]
 have:=jk (λx=>D.int (Wx x)) r (0,0)
 simp only [az,fU,bM] at this ⊢
 rw [this]
 rfl
def zcx (r:List Gd):Bool:=S9 1 r && !S9 (-1) r
def BC (b:r.length<=100) (d:Fit r):uc [yG r]=some (.bl (zcx r)):=by
 have c:=Jo b (g:=Y1) λx a=>B3 (d x a).1 (d x a).2
 have i1:=QG false 1 r
 have i2:=QG true (-1) r
 have hi:yU (vF 0) [.fr (yG r),.no]=some (r.map gD):=rfl
 have e:=Zb (n:=1) (caps:=[]) (γ:=zS 0) (ft:=eQ) (f:=yo Y1 (zf (vF 0) yb)) hi (bb (by simpa using b))
 have h:qz 1 [] [.fr (yG r),.no]=[.no]:=rfl
 rw [h,c] at e
 simp only [uc,km,z5,zB,au,aP,ao,aE,Nat.reduceAdd,Nat.reduceSub,aF,bz,a_,zy,yH,zM,e,b8,ai,aV,aT,yc,Fv,zx,xR,yh,aq,aB,i1,i2,ZC,Ru,Bool.false_xor,Bool.true_xor]
 unfold zcx
 cases S9 1 r <;> rfl
def C3 (u : -3<=c.1/\c.1<=2 /\ -1<=c.2/\c.2<=0) (i:r.length=s.length) (p:r.length<=100):uO [yG r,gD c,yG s]=some (yG (YR r (bG (yt c) s))):=by
 have hz:Yu (r.map gD) (s.map gD)=Yu (r.map gD) (s.map gD):=rfl
 have h:(Yu (r.map gD) (s.map gD)).length=r.length:=by rw [Zh]; simp; omega
 have z:=Pz (f:=yo Z5 (zf (vF 0) (zf (yo qK (zf (yo qJ (zf (vF 2) (zf (vF 1) yb))) yb)) yb))) (C:=[.fr (gD c)]) (φ:=λk=>gD (yz (r.getD k (0,0)) (yt (yd c (s.getD k (0,0)))))) (Yu (r.map gD) (s.map gD)) 0 .no .no (λk d q=>by
  obtain ⟨x,y,e1,e2,rfl⟩:=UX q
  rw [cP] at e1 e2
  cases g:r[k]? with
  | none=>rw [g] at e1; cases e1
  | some a =>
   cases e:s[k]? with
   | none=>rw [e] at e2; cases e2
   | some b =>
    rw [g] at e1
    rw [e] at e2
    cases e1
    cases e2
    have m:=Wq b u
    have o:=ZT (yd c b)
    have l:=XE a (yt (yd c b))
    refine ⟨_,_,rfl,?_⟩
    simp only [zD,zj,zr,yh,aB,aq,ai,m,o,l,fU,aW,g,e,mF])
 have hi:W7 (vF 0) (vF 2) [.fr (yG r),.fr (gD c),.fr (yG s)]=some (Yu (r.map gD) (s.map gD)):=by
  simp only [kP,zF,yh,aq,aB,ai,yG,KM]
 have j:=Zb (n:=2) (caps:=[1]) (γ:=kH 2 (yB (zS 0) (yB (zS 1) ZO))) (ft:=eQ) (f:=yo Z5 (zf (vF 0) (zf (yo qK (zf (yo qJ (zf (vF 2) (zf (vF 1) yb))) yb)) yb))) hi (by rw [h]; exact bb p)
 have w:qz 2 [1] [.fr (yG r),.fr (gD c),.fr (yG s)]=[.no,.no,.fr (gD c)]:=rfl
 rw [w,z,h] at j
 simp only [uO,Yn,z5,zB,au,aP,ao,aE,Nat.reduceAdd,Nat.reduceSub,aF,bx,yc,zD,zj,zM,j,zr,ai,b8,ME,yq,fU]
 have v:(aw r.length).map (λk=>gD (yz (r.getD k (0,0)) (yt (yd c (s.getD k (0,0))))))=(YR r (bG (yt c) s)).map gD:=by
  have h1:=jk gD (YR r (bG (yt c) s)) (0,0)
  rw [yV (by rw [zo,i])] at h1
  rw [<- h1]
  apply fx
  intro k _
  rw [xu (by rw [zo,i]),yi]
  congr 2
  simp only [yt,yd,Er]
  constructor <;> grind
 rw [v]
 rfl
def NB (ts) (hi:i < n) (d:j < n):w4 (zb ts i) i (zL n j)=YR (zL n j) (bG (yt (zb ts i j)) (zL n i)):=by
 have b:(zL n j).length=(bG (yt (zb ts i j)) (zL n i)).length:=by rw [zo,zc,zc]
 apply xk (by rw [zY,yV b])
 intro k a
 rw [zY,zc] at a
 rw [wc _ (by rw [zc]; exact hi),kN _ n j d,xu b,yi,yP hi,yP a,yP a]
 by_cases c:k=i
 .subst c
  simp only [if_true,kZ]
 .simp only [c,if_false,jo,wg]
def YZ (ts) (a:aj n w) (hi:i < n) (b:j < n):zO (zb ts) (w++[i]) (zL n j)=YR (zO (zb ts) w (zL n j)) (bG (yt (zb ts i j)) (zO (zb ts) w (zL n i))):=by
 rw [yA]
 show zO (zb ts) w (w4 (zb ts i) i (zL n j))=_
 rw [NB ts hi b,qd _ _ (by rw [zo,zc,zc]) (by rw [zc]; exact a),wW _ _ _ (by rw [zc]; exact a)]
def G0 (ts) (w) (hi:i < n):ay (yT (XS ts n w)) (.int i)=some (yG (zO (zb ts) w (zL n i))):=by
 unfold yT
 apply PD
 simp [XS,hi]
def J6 (n) (hg:zT ts) (hn:n<=100) (hw:aj n w) (hi:i < n):yg [ze n ts,yT (XS ts n w),.int i]=some (yT (XS ts n (w++[i]))):=by
 have ei:um ((XS ts n w).map yG)=um ((XS ts n w).map yG):=rfl
 have le:(um ((XS ts n w).map yG)).length=n:=by rw [um]; simp [XS]
 have cm:=Pz (f:=yo uO (zf (vF 1) (zf (yo wj (zf (vF 2) (zf (vF 3) (zf (vF 0) yb)))) (zf (zt ay (vF 4) (vF 3)) yb)))) (C:=[.fr (ze n ts),.fr (.int i),.fr (yT (XS ts n w))]) (φ:=λj=>yG (zO (zb ts) (w++[i]) (zL n j))) (um ((XS ts n w).map yG)) 0 .no .no (λk d hk=>by
  have nk:k < n:=by
   have:=(dw.mp hk).1
   rwa [le] at this
  have e1:(um ((XS ts n w).map yG))[k]? = some (.tup [.int (k:Int),yG (zO (zb ts) w (zL n k))]):=by
   simp [um,XS,nk,List.getElem?_zipIdx]
  rw [e1] at hk
  cases hk
  have pv:=Qh n hg (i:Int) (k:Int)
  have ia:=G0 ts w hi
  have lv:=C3 (c:=uI ts i k) (ug ts i k) (r:=zO (zb ts) w (zL n k)) (s:=zO (zb ts) w (zL n i)) (by rw [zu,zu,zc,zc]) (by rw [zu,zc]; exact hn)
  have ib:=YZ ts hw hi nk
  unfold zb at ib lv
  rw [<- ib] at lv
  refine ⟨_,_,rfl,?_⟩
  unfold zb at ia
  simp only [zD,zj,zr,zx,yh,aB,aq,ai,pv,fU]
  unfold zb
  rw [ia]
  simp only [ai]
  exact lv)
 have hit:QC (vF 1) [.fr (ze n ts),.fr (yT (XS ts n w)),.fr (.int i)]=some (um ((XS ts n w).map yG)):=by
  simp only [Qd,zF,yh,aq,aB,ai,yT,xh]
 have Aw:=Zb (n:=2) (caps:=[0,2,1]) (γ:=kH 2 (yB (zS 0) (yB (zS 1) ZO))) (ft:=eQ) (f:=yo uO (zf (vF 1) (zf (yo wj (zf (vF 2) (zf (vF 3) (zf (vF 0) yb)))) (zf (zt ay (vF 4) (vF 3)) yb)))) hit (by rw [le]; exact bb hn)
 have cs:qz 2 [0,2,1] [.fr (ze n ts),.fr (yT (XS ts n w)),.fr (.int i)]=[.no,.no,.fr (ze n ts),.fr (.int i),.fr (yT (XS ts n w))]:=rfl
 rw [cs,cm,le] at Aw
 simp only [yg,xB,z5,zB,au,aP,ao,aE,Nat.reduceAdd,Nat.reduceSub,aF,bx,yc,zM,Aw,ai,b8,yq,fU]
 simp only [yT,XS,bM,Function.comp_def]
def NL (ts) (c:n<=6) (d:w.length<=100) (i):∀ x∈zO (zb ts) w (zL n i),x.1.natAbs<=2 ^ 700/\x.2.natAbs<=2 ^ 700:=by
 have h:=GK (ts:=ts) (MB n i) (by rw [zc]; exact c) w
 have e:1 * 32 ^ w.length<=2 ^ 700:=by
  have a:(32:Nat)=2 ^ 5:=by decide
  rw [Nat.one_mul,a,<- Nat.pow_mul]
  exact Nat.pow_le_pow_right (by decide) (by omega)
 intro x b
 exact ⟨fV (h x b).1 e,fV (h x b).2 e⟩
def NM (ts) (c:n<=6) (b:w.length<=100) (i):Fit (zO (zb ts) w (zL n i)):=λx a=>by
 have h:=NL ts c b i x a
 exact ⟨F7 (k:=701) (AJ h.1 (Nat.pow_lt_pow_right (by decide) (by decide))) (by decide),F7 (k:=701) (AJ h.2 (Nat.pow_lt_pow_right (by decide) (by decide))) (by decide)⟩
theorem D9      {ι:α->D} {nm:α->List Slot} {q:α->Bool} {φ:α->D}
  (d:∀ a (pre:List Slot),pre.length=k->γ (ι a) (pre++C)=some (nm a++C)) (g:∀ a,(nm a).length=k):∀ (l:List α),(∀ a∈l,ft (nm a++C)=some (q a))->(∀ a∈l,q a=true->f (nm a++C)=some (φ a))->∀ pre:List Slot,pre.length=k →
  yN γ ft f (l.map ι) (pre++C)=some ((l.filter q).map φ)
 | [],_,_,_,_=>rfl
 | a :: l,ht,hf,pre,i=>by
  have h:=D9 d g l (λb e=>ht b (aX _ e)) (λb e=>hf b (aX _ e)) (nm a) (g a)
  rw [au]
  unfold yN
  rw [d a pre i,ai,ht a aN,ai,h]
  cases c:q a with
  | true=>rw [if_pos rfl,hf a aN c,List.filter_cons_of_pos c]; rfl
  | false=>rw [if_neg (by simp),List.filter_cons_of_neg (by simp [c])]
def Y5     {ι:α->D} {q:α->Bool} {φ:α->D} (l:List α) (s:Slot) (ht:∀ a∈l,ft (.fr (ι a) :: C)=some (q a)) (c:∀ a∈l,q a=true->f (.fr (ι a) :: C)=some (φ a)) :
  yN (zS 0) ft f (l.map ι) (s :: C)=some ((l.filter q).map φ) :=
 D9 (nm:=λa=>[.fr (ι a)]) (k:=1) (λa pre b=>by
  match pre,b with
  | [x],_=>rfl) (λ_=>rfl) l ht c [s] rfl
def Yf    {ι:α->D} {φ:α->D} (l:List α) (s:Slot) (hf:∀ a∈l,f (.fr (ι a) :: C)=some (φ a)) :
  yN (zS 0) eQ f (l.map ι) (s :: C)=some (l.map φ):=by
 have:=Y5 (ft:=eQ) (q:=λ_=>true) l s (λ_ _=>rfl) (λa ha _=>hf a ha)
 rwa [g4g.mpr (λ_ _=>rfl)] at this
def Q1     {ι κ:α->D} {q:α->Bool} {φ:α->D} (l:List α) (s s':Slot) (ht:∀ a∈l,ft (.fr (ι a) :: .fr (κ a) :: C)=some (q a)) (c:∀ a∈l,q a=true->f (.fr (ι a) :: .fr (κ a) :: C)=some (φ a)) :
  yN (kH 2 (yB (zS 0) (yB (zS 1) ZO))) ft f (l.map λa=>.tup [ι a,κ a]) (s :: s' :: C)=some ((l.filter q).map φ) :=
 D9 (nm:=λa=>[.fr (ι a),.fr (κ a)]) (k:=2) (λa pre b=>by
  match pre,b with
  | [x,y],_=>rfl) (λ_=>rfl) l ht c [s,s'] rfl
def TB     {ι κ μ:α->D} {q:α->Bool} {φ:α->D} (l:List α) (s s' b:Slot) (ht:∀ a∈l,ft (.fr (ι a) :: .fr (κ a) :: .fr (μ a) :: C)=some (q a)) (d:∀ a∈l,q a=true->f (.fr (ι a) :: .fr (κ a) :: .fr (μ a) :: C)=some (φ a)) :
  yN (kH 3 (yB (zS 0) (yB (zS 1) (yB (zS 2) ZO)))) ft f (l.map λa=>.tup [ι a,κ a,μ a]) (s :: s' :: b :: C)=some ((l.filter q).map φ) :=
 D9 (nm:=λa=>[.fr (ι a),.fr (κ a),.fr (μ a)]) (k:=3) (λa pre c=>by
  match pre,c with
  | [x,y,z],_=>rfl) (λ_=>rfl) l ht d [s,s',b] rfl
abbrev lD (l:List Int):D:=.lst (l.map D.int)
def Gv (n) (ts:List T3) (x:Int) (l:List Int) (a:l.length<=100):yv [ze n ts,.int x,lD l]=some (lD (bo (zh ts) x l)):=by
 have e:=Y5 (ft:=BM (aU (zt c_ (vF 0) (vF 1))) (aU (zt c_ (yo vq (zf (vF 2) (zf (vF 1) (zf (vF 0) yb)))) (cF (.int 2))))) (f:=vF 0) (C:=[.fr (.int x),.fr (ze n ts)]) (ι:=D.int) (q:=λo=>decide (o≠x)&&decide (zh ts x o≠2)) (φ:=D.int) l .no
  (λo _=>by
   by_cases c:o=x
   .simp [c]
   .by_cases b:zh ts x o=2 <;> simp [c,b,Xf]) (λo _ _=>rfl)
 have hz:(l.map D.int).length<=sizeLine:=by rw [az]; exact bb a
 simp only [yv,uV,z5,zB,yc,zM,xj,zF,yh,au,aP,ao,aE,Nat.reduceAdd,Nat.reduceSub,aF,bx,aq,aB,ai,xh,if_pos hz,xA,vV,bz,a_,e,b8,yq]
 rfl
def UY (l) (x:Int) (a:l.length<=100):vp [lD l,.int x]=some (lD (bh l x)):=by
 have e:=Y5 (ft:=aU (zt c_ (vF 0) (vF 1))) (f:=vF 0) (C:=[.fr (.int x)]) (ι:=D.int) (q:=λo=>decide (o≠x)) (φ:=D.int) l .no
  (λo _=>by
   by_cases c:o=x <;> simp [c]) (λo _ _=>rfl)
 have hz:(l.map D.int).length<=sizeLine:=by rw [az]; exact bb a
 simp only [vp,Yk,z5,zB,yc,zM,xj,zF,yh,au,aP,ao,aE,Nat.reduceAdd,Nat.reduceSub,aF,bx,aq,aB,ai,xh,if_pos hz,xA,vV,bz,a_,e,b8,yq]
 rfl
def XI (t) (x:Int) (left:List Int):(bo t x left).length+(left.filter λo=>decide (o∉bo t x left)).length=left.length:=by
 have b:∀ o∈left,(decide (o∉bo t x left)) = !(decide (o≠x)&&decide (t x o≠2)):=λo a=>by
  have:o∈bo t x left↔(decide (o≠x)&&decide (t x o≠2))=true:=by
   unfold bo; rw [df]; exact ⟨λz=>z.2,λz=>⟨a,z⟩⟩
  cases c:(decide (o≠x)&&decide (t x o≠2)) with
  | true=>rw [c] at this; simpa using this
  | false=>rw [c] at this; simpa using this
 rw [Lu b,<- aH]
 exact (List.filter_append_perm _ _).length_eq
def PH (l:List Int) (x:Int):((l.map D.int).any λd=>b6 d (.int x))=decide (x∈l):=by
 rw [Bool.eq_iff_iff,nD,decide_eq_true_iff]
 constructor
 .rintro ⟨d,hd,e⟩
  obtain ⟨y,a,rfl⟩:=aR.mp hd
  have:y=x:=by simpa [b6] using e
  exact this ▸ a
 .intro h
  exact ⟨.int x,List.mem_map_of_mem h,qj _⟩
def HS (l:List Int):qG (l.map D.int)<=100:=X1 λd hd=>by
 obtain ⟨x,_,rfl⟩:=aR.mp hd
 exact dm _
def GY (b) (l:List Int) (x:Int):inD b (.int x) (lD l)=some (.bl (xor b (decide (x∈l)))):=by
 show (if qG (l.map D.int)<=100 then some (D.bl (xor b ((l.map D.int).any λd=>b6 d (.int x)))) else none)=_
 rw [if_pos (HS l),PH]
def C5 (near left:List Int) (a:left.length<=100) (s:Slot):(if (left.map D.int).length<=sizeLine then yN (zS 0) (aU (zt (inD true) (vF 0) (vF 1))) (vF 0) (left.map D.int) [s,.fr (lD near)] else none)=some ((left.filter λo=>decide (o∉near)).map D.int):=by
 rw [if_pos (by rw [az]; exact bb a)]
 exact Y5 (C:=[.fr (lD near)]) (ι:=D.int) (q:=λo=>decide (o∉near)) (φ:=D.int) left s (λo _=>by
  by_cases c:o∈near <;> simp [GY,c]) (λo _ _=>rfl)
abbrev pC:FT:=aU (zt tu (vF 4) (yo kX (zf (vR 2) yb)))
noncomputable abbrev pB:FS:=ud (qu 5 (yo yv (zf (vF 0) (zf (zt ay (vR 2) (vF 4)) (zf (vF 3) yb))))) (ud (qM 2 (vF 5)) (ud (qu 3 (xD (jI 1 [5] (yU (vF 3)) (zS 0) (aU (zt (inD true) (vF 0) (vF 1))) (vF 0)))) (zac 4 (λi j=>i+j) (cF (.int 1)))))
def Gf (n) (ts:List T3) (x:Int) (part left:List Int) (p:Nat) (a:Slot) (y:Int) (h:part[p]? = some y) (hz:part.length+left.length<=50) :
  pB [.fr (ze n ts),.fr (.int x),.ol (part.map D.int),.fr (lD left),.fr (.int p),a]=some (.nx [.fr (ze n ts),.fr (.int x),.ol ((part++bo (zh ts) y left).map D.int),.fr (lD (left.filter λo=>decide (o∉bo (zh ts) y left))),.fr (.int ((p+1:Nat):Int)),.fr (lD (bo (zh ts) y left))]):=by
 have h1:ay (.lst (part.map D.int)) (.int (p:Int))=some (.int y):=vy (by rw [cP,h]; rfl)
 have h2:=Gv n ts y left (by omega)
 have c:=C5 (bo (zh ts) y left) left (by omega) .no
 have d:=XI (zh ts) y left
 have b:(part.map D.int).length+((bo (zh ts) y left).map D.int).length<=sizeLine:=by rw [az,az]; exact bb (by omega)
 simp only [pB,zy,yH,zD,zj,zr,yh,Ca,zx,aq,aB,ai,h1,h2,aV,aT,jf,if_pos b,zM,xj,zF,xh,xA,au,aP,vV,aF,bz,a_,c,b8,zac,xR,bN]
 rfl
theorem WN (n) (ts:List T3) (x:Int):∀ (k N) (part left) (p:Nat) (s5),part.length+left.length<=k+p->k < N->part.length+left.length<=50 →
  ∃ b a c,yF pC pB N [.fr (ze n ts),.fr (.int x),.ol (part.map D.int),.fr (lD left),.fr (.int p),s5]=some (.nx [.fr (ze n ts),.fr (.int x),.ol ((Yx (zh ts) k part left p).map D.int),b,a,c])
 | k,0,part,left,p,s5,h1,h2,f=>by omega
 | k,N+1,part,left,p,s5,h1,h2,f=>by
  have d:pC [.fr (ze n ts),.fr (.int x),.ol (part.map D.int),.fr (lD left),.fr (.int p),s5]=some (decide ((p:Int) < (part.length:Int))):=by
   simp only [pC,xb,zx,yh,zD,zj,zr,Ca,aq,aB,ai,YN,zcc,az]
  have stop:part.length<=p->yF pC pB (N+1) [.fr (ze n ts),.fr (.int x),.ol (part.map D.int),.fr (lD left),.fr (.int p),s5]=some (.nx [.fr (ze n ts),.fr (.int x),.ol (part.map D.int),.fr (lD left),.fr (.int p),s5]):=λh=>by
   unfold yF
   rw [d,decide_eq_false (by omega)]
   rfl
  match k with
  | 0=>exact ⟨_,_,_,stop (by omega)⟩
  | k+1 =>
   cases e:part[p]? with
   | none =>
    have:=g3p.mp e
    unfold Yx
    rw [e]
    exact ⟨_,_,_,stop this⟩
   | some y =>
    have h:p < part.length:=(dw.mp e).1
    have i:=XI (zh ts) y left
    obtain ⟨b,a,c,g⟩:=WN n ts x k N (part++bo (zh ts) y left) (left.filter λo=>decide (o∉bo (zh ts) y left)) (p+1) (.fr (lD (bo (zh ts) y left))) (by rw [aH]; omega) (by omega) (by rw [aH]; omega)
    refine ⟨b,a,c,?_⟩
    unfold Yx yF
    rw [d,decide_eq_true (by omega),e]
    show (pB _).bind _=_
    rw [Gf n ts x part left p s5 y e f]
    exact g
def xZ (n:Nat):y7 0 (n:Int)=(idx n).map D.int:=by
 unfold y7 idx
 rw [bM,show ((n:Int) - 0).toNat=n by omega]
 exact fx λk _=>by simp
def uj (n):(idx n).length=n:=by simp [idx]
set_option tactic.hygienic true in
theorem Br (t):∀ k part left p,(Yx t k part left p).length<=part.length+left.length
 | 0,part,left,p=>by unfold Yx; omega
 | k+1,part,left,p=>by
  unfold Yx
  split
  .omega
  .rename_i x _
   have:=Br t k (part++bo t x left) (left.filter λo=>decide (o∉bo t x left)) (p+1)
   have a:=XI t x left
   rw [aH] at this
   omega
def Ra (a:x∈idx n):(bh (idx n) x).length+1=n:=by
 have h:=(vY n)
 have:(([x]:List Int)++bh (idx n) x).Perm (idx n):=by
  refine uh ?_ h λy=>?_
  .rw [nG,hG]
   refine ⟨λz=>?_,h.filter _⟩
   unfold bh at z
   simpa using (df.mp z).2
  .rw [nG,aI]
   unfold bh
   rw [df]
   constructor
   .rintro (rfl | z)
    .exact a
    .exact z.1
   .intro z
    by_cases c:y=x
    .exact .inl c
    .exact .inr ⟨z,decide_eq_true c⟩
 have:=this.length_eq
 rw [aH,uj,bX] at this
 omega
def U6 (h:fa ρ=some [lD l]) (a:l.length < 64):My fa ρ=some ((sortI l).map D.int):=by
 rw [MG,h]
 show (qE (l.map D.int)).bind _=_
 rw [kc,ai,if_pos a]
def CB (n) (ts:List T3) (x:Int) (j:n<=40) (d:x∈idx n):jt [ze n ts,.int x]=some (lD (sortI (xQ (zh ts) n x))):=by
 have i:=Ra d
 obtain ⟨c,b,a,h⟩:=WN n ts x n 100000 [x] (bh (idx n) x) 0 .no (by simp; omega) (by omega) (by simp; omega)
 have g:ay (ze n ts) (.int 0)=some (.int n):=by unfold ze; exact eT
 have h1:(if -(2 ^ 62)<=(n:Int)/\(n:Int)<=1000000 then some (y7 0 (n:Int)) else none)=some ((idx n).map D.int):=by rw [if_pos (by omega),xZ]
 have h2:=UY (idx n) x (by rw [uj]; omega)
 have e:=Br (zh ts) n [x] (bh (idx n) x) 0
 have f:=U6 (fa:=zf (vR 2) yb) (ρ:=[.fr (ze n ts),.fr (.int x),.ol ((Yx (zh ts) n [x] (bh (idx n) x) 0).map D.int),c,b,a]) (l:=Yx (zh ts) n [x] (bh (idx n) x) 0) rfl (by simp at e; omega)
 have hz:1<=sizeLine:=bb (by omega)
 simp only [jt,Ym,z5,zB,au,aP,ao,aE,Nat.reduceAdd,Nat.reduceSub,aF,bz,a_,zy,uy,wq,zj,zr,yh,aq,aB,ai,if_pos hz,aV,aT,yH,zD,zM,RE,zx,xR,g,h1,h2,b8]
 have h:yF pC pB 100000 [.fr (ze n ts),.fr (.int x),.ol [.int x],.fr (lD (bh (idx n) x)),.fr (.int 0),.no]=_:=h
 rw [h]
 simp only [ai,yc,zM,f,b8,yq]
 rfl
abbrev cC:FT:=aU (zt lh (yo kX (zf (vF 4) yb)) (cF (.int 0)))
noncomputable abbrev cB:FS:=ud (qu 5 (yo yv (zf (vF 0) (zf (zt ay (vR 3) (YH T6 (cF (.int 1)))) (zf (vF 4) yb))))) (ud (dh (aU (zt c_ (yo kX (zf (vF 5) yb)) (cF (.int 1)))) (Yv (cF .non)) eF) (ud (vQ 3 (zt ay (vF 5) (cF (.int 0)))) (qu 4 (yo vp (zf (vF 4) (zf (zt ay (vF 5) (cF (.int 0))) yb))))))
def PF (pre) (x:Int):ay (.lst ((pre++[x]).map D.int)) (.int (-1))=some (.int x):=by
 have e:ay (.lst ((pre++[x]).map D.int)) (.int (-1))=atI ((pre++[x]).map D.int) (-1):=rfl
 rw [e]
 unfold atI dF
 simp
 rw [if_pos (by omega)]
 have e2:(-1+((pre.length:Int)+1)).toNat=pre.length:=by omega
 rw [ai,e2]
 simp
def Mp (h:y∈l):(bh l y).length < l.length:=by
 unfold bh
 have:=List.length_filter_lt_length_iff_exists (p:=λo=>decide (o≠y)) (l:=l)
 exact this.mpr ⟨y,h,by simp⟩
def Nd:Option (List Int)->Option D
 | some o=>some (lD o)
 | none=>some .non
theorem Y8 (n) (ts:List T3) (ms:D) (f:D):∀ k N pre x left a,left.length<=k->k < N->pre.length+left.length<=50 →
  (∃ c g,∃ o,chG (zh ts) k x left=some o/\yF cC cB N [.fr (ze n ts),.fr ms,.fr f,.ol ((pre++[x]).map D.int),.fr (lD left),a]=some (.nx [.fr (ze n ts),.fr ms,.fr f,.ol ((pre++x :: o).map D.int),c,g])) ∨
  (chG (zh ts) k x left=none/\yF cC cB N [.fr (ze n ts),.fr ms,.fr f,.ol ((pre++[x]).map D.int),.fr (lD left),a]=some (.rt .non))
 | k,0,pre,x,left,a,h1,h2,v=>by omega
 | k,N+1,pre,x,left,a,h1,h2,v=>by
  have d:cC [.fr (ze n ts),.fr ms,.fr f,.ol ((pre++[x]).map D.int),.fr (lD left),a]=some (decide ((0:Int) < (left.length:Int))):=by
   simp only [cC,xb,zx,yh,zD,zj,zr,aq,aB,ai,YN,ML,az,xR]
  by_cases e:left=[]
  .subst e
   refine .inl ⟨.fr (lD []),a,[],by cases k <;> rfl,?_⟩
   unfold yF
   rw [d]
   rfl
  .have w:0 < left.length:=rN.mpr e
   match k with
   | 0=>omega
   | k+1 =>
    have q:=Gv n ts x left (by omega)
    have s:=PF pre x
    have a1:qu 5 (yo yv (zf (vF 0) (zf (zt ay (vR 3) (YH T6 (cF (.int 1)))) (zf (vF 4) yb)))) [.fr (ze n ts),.fr ms,.fr f,.ol ((pre++[x]).map D.int),.fr (lD left),a]=some (.nx [.fr (ze n ts),.fr ms,.fr f,.ol ((pre++[x]).map D.int),.fr (lD left),.fr (lD (bo (zh ts) x left))]):=by
     simp only [yH,zD,zj,zr,yh,Ca,zx,ZC,xR,Ru,aq,aB,ai,s,q,aV,aT]
    have a2:∀ l:List Int,aU (zt c_ (yo kX (zf (vF 5) yb)) (cF (.int 1))) [.fr (ze n ts),.fr ms,.fr f,.ol ((pre++[x]).map D.int),.fr (lD left),.fr (lD l)]=some (!decide ((l.length:Int)=1)):=λl=>by
     simp only [xb,zx,zD,zj,zr,yh,xR,aq,aB,ai,YN,az,zat]
    have b:(bo (zh ts) x left).length≠1->yF cC cB (N+1) [.fr (ze n ts),.fr ms,.fr f,.ol ((pre++[x]).map D.int),.fr (lD left),a]=some (.rt .non):=λB=>by
     unfold yF
     rw [d,decide_eq_true (by omega)]
     show (cB _).bind _=_
     unfold cB
     rw [zy,a1]
     show (ud _ _ _).bind _=_
     rw [zy,y6,a2,decide_eq_false (by omega)]
     rfl
    unfold chG
    rw [if_neg e]
    cases h:bo (zh ts) x left with
    | nil=>exact .inr ⟨rfl,b (by rw [h]; simp)⟩
    | cons y r =>
     cases r with
     | cons z r=>exact .inr ⟨rfl,b (by rw [h]; simp)⟩
     | nil =>
      have m:y∈left:=XJ (t:=zh ts) (x:=x) (by rw [h]; exact aN)
      have p:=UY left y (by omega)
      have A:=Mp m
      have hz:((pre++[x]).map D.int).length < sizeLine:=by
       rw [az,aH,bX]; exact yQ (by omega)
      have j:ay (lD [y]) (.int 0)=some (.int y):=by simp [ay,atI,dF]
      have st:cB [.fr (ze n ts),.fr ms,.fr f,.ol ((pre++[x]).map D.int),.fr (lD left),a]=some (.nx [.fr (ze n ts),.fr ms,.fr f,.ol (((pre++[x])++[y]).map D.int),.fr (lD (bh left y)),.fr (lD [y])]):=by
       unfold cB
       rw [zy,a1,h,ai]
       dsimp only
       rw [zy,y6,a2]
       simp only [bX,decide_true,mD,ai,cS,if_false,uB,zy,wH,zx,yh,xR,aq,aB,j,if_pos hz,aV,aT,yH,zD,zj,zr,p,Int.ofNat_one]
       rw [bN (l₁:=pre++[x])]
       rfl
      have i:∀ R,yF cC cB N [.fr (ze n ts),.fr ms,.fr f,.ol (((pre++[x])++[y]).map D.int),.fr (lD (bh left y)),.fr (lD [y])]=R->yF cC cB (N+1) [.fr (ze n ts),.fr ms,.fr f,.ol ((pre++[x]).map D.int),.fr (lD left),a]=R:=λR u=>by
       unfold yF
       rw [d,decide_eq_true (by omega)]
       show (cB _).bind _=_
       rw [st]
       exact u
      rcases Y8 n ts ms f k N (pre++[x]) y (bh left y) (.fr (lD [y])) (by omega) (by omega) (by rw [aH,bX]; omega) with ⟨c,g,o,e1,e2⟩ | ⟨e1,e2⟩
      .refine .inl ⟨c,g,y :: o,by show Option.map (y :: ·) (chG (zh ts) k y (bh left y))=_; rw [e1]; rfl,i _ ?_⟩
       rw [e2]
       simp
      .exact .inr ⟨by show Option.map (y :: ·) (chG (zh ts) k y (bh left y))=_; rw [e1]; rfl,i _ e2⟩
def Bd (n) (ts:List T3) (ms:List Int) (f:Int) (c:ms.length<=40):wN [ze n ts,lD ms,.int f]=Nd (vH (zh ts) ms f):=by
 have a:=UY ms f (by omega)
 have b:(bh ms f).length<=ms.length:=rP _ _
 have hz:1<=sizeLine:=bb (by omega)
 have pre:wN [ze n ts,lD ms,.int f]=V8 ((yF cC cB 100000 [.fr (ze n ts),.fr (lD ms),.fr (.int f),.ol (([]++[f]).map D.int),.fr (lD (bh ms f)),.no]).bind λo=>match o with | .nx aD=>PZ 3 (Yv (vF 3)) aD | o=>some o):=by
  simp only [wN,uX,z5,zB,au,aP,ao,aE,Nat.reduceAdd,Nat.reduceSub,aF,bz,a_,zy,uy,wq,zj,zr,yh,aq,aB,ai,if_pos hz,aV,aT,yH,zD,a]
  try rfl
 rw [pre]
 unfold vH
 rcases Y8 n ts (lD ms) (.int f) ms.length 100000 [] f (bh ms f) .no b (by omega) (by simp; omega) with ⟨s4,s5,o,e1,e2⟩ | ⟨e1,e2⟩
 .rw [e1,e2]
  rfl
 .rw [e1,e2]
  rfl
theorem qL:∀ (l:List (Option (List Int))),(l.filter (·.isSome)).map (λo=>(Nd o).getD .non)=(l.filterMap id).map lD
 | []=>rfl
 | none :: l=>by
  rw [List.filter_cons_of_neg (by simp),List.filterMap_cons_none rfl]
  exact qL l
 | some o :: l=>by
  rw [List.filter_cons_of_pos rfl,au,qL l]
  rfl
def Y6 (n) (ts:List T3) (ms:List Int) (b:ms.length<=40):jz [ze n ts,lD ms]=some (.lst ((yM (zh ts) ms).map lD)):=by
 have e1:=Yf (f:=yo wN (zf (vF 1) (zf (vF 2) (zf (vF 0) yb)))) (C:=[.fr (ze n ts),.fr (lD ms)]) (ι:=D.int) (φ:=λf=>(Nd (vH (zh ts) ms f)).getD .non) ms .no (λf _=>by
  have:=Bd n ts ms f b
  simp only [zD,zj,zr,yh,aq,aB,ai,this]
  cases vH (zh ts) ms f <;> rfl)
 have e2:=Y5 (ft:=aU (zt (m7 true) (vF 0) (cF .non))) (f:=vF 0) (C:=[]) (ι:=λo=>(Nd o).getD .non) (q:=λo=>o.isSome) (φ:=λo=>(Nd o).getD .non) (ms.map (vH (zh ts) ms)) .no (λo _=>by
  cases o <;> rfl) (λo _ _=>rfl)
 rw [qL,bM,List.filterMap_map] at e2
 have hz:(ms.map D.int).length<=sizeLine:=by rw [az]; exact bb (by omega)
 have a:(ms.map ((λo=>(Nd o).getD D.non) ∘ vH (zh ts) ms)).length<=sizeLine:=by rw [az]; exact bb (by omega)
 have e1:_=some (ms.map ((λo=>(Nd o).getD D.non) ∘ vH (zh ts) ms)):=e1
 simp only [jz,Wf,z5,zB,au,aP,ao,aE,Nat.reduceAdd,Nat.reduceSub,aF,bz,a_,zy,yH,zM,xj,zF,yh,aq,aB,ai,xh,if_pos hz,xA,vV,e1,b8,aV,aT,yc,if_pos a,e2,yq]
 rfl
def Kg (t) (o:List Int):(List.zip o (o.drop 1)).map (λp=>t p.1 p.2)=wu t o:=by
 unfold wu
 rw [List.zip,List.map_zipWith]
def zd8 (l:List D):Yw l (some 1) none=l.drop 1:=by
 unfold Yw HT.sIx
 simp
 cases l with
 | nil=>rfl
 | cons a l=>simp
def By (n) (ts:List T3) (o:List Int) (b:o.length<=40):w6 [ze n ts,lD o]=some (lD (wu (zh ts) o)):=by
 have e1:=Q1 (ft:=eQ) (f:=yo vq (zf (vF 2) (zf (vF 0) (zf (vF 1) yb)))) (C:=[.fr (ze n ts)]) (ι:=λp:Int×Int=>.int p.1) (κ:=λp:Int×Int=>.int p.2) (q:=λ_=>true) (φ:=λp=>.int (zh ts p.1 p.2)) (List.zip o (o.drop 1)) .no .no (λ_ _=>rfl) (λp _ _=>by
  simp only [zD,zj,zr,yh,aq,aB,ai,Xf])
 rw [g4g.mpr (λ_ _=>rfl)] at e1
 have a:Yu (o.map D.int) ((o.map D.int).drop 1)=(List.zip o (o.drop 1)).map λp:Int×Int=>.tup [.int p.1,.int p.2]:=by
  unfold Yu
  rw [<- List.map_drop,List.zip_map,bM]
  rfl
 have hz:(Yu (o.map D.int) ((o.map D.int).drop 1)).length<=sizeLine:=by
  rw [a,az,List.length_zip]
  exact bb (by omega)
 simp only [w6,uu,z5,zB,au,aP,ao,aE,Nat.reduceAdd,Nat.reduceSub,aF,bx,bz,a_,yc,zM,xj,kP,zF,yh,Qb,MN,zas,xR,aq,aB,ai,xh,zd8,if_pos hz,xA,vV]
 rw [a,e1]
 simp only [b8,ai,yq]
 rw [<- Kg]
 show _=some (D.lst ((dC _ _).map D.int))
 rw [bM]
 rfl
def zdu:Nat->Str
 | 1=>"a" | 2=>"b" | 4=>"d" | 5=>"e" | 6=>"f" | 8=>"h" | 9=>"i" | _=>"-"
def kT (k:Kd):Str:=if k.1=0 then "-" else jn ES [zdu k.1,toString (k.2:Int)]
abbrev kD (k:Kd):D:=.str (kT k)
def SL:kT (6,4)="f4":=by decide +kernel
def SK:kT (8,3)="h3":=by decide +kernel
def SJ:kT (8,4)="h4":=by decide +kernel
def SI:kT (9,5)="i5":=by decide +kernel
def SH:kT (9,6)="i6":=by decide +kernel
def SM:kT (5,6)="e6":=by decide +kernel
def Dd:(aw 50).all (λn=>decide ((jn ES ["a",toString (n:Int)]).length<=100)&&decide ((jn ES ["b",toString (n:Int)]).length<=100)&&decide ((jn ES ["d",toString (n:Int)]).length<=100))=true:=by decide +kernel
def SY {n:Nat} (h:n < 50):(jn ES ["a",toString (n:Int)]).length<=100/\(jn ES ["b",toString (n:Int)]).length<=100/\(jn ES ["d",toString (n:Int)]).length<=100:=by
 have:=bB.mp Dd n (bT.mpr h)
 rw [cO,cO] at this
 exact ⟨of_decide_eq_true this.1.1,of_decide_eq_true this.1.2,of_decide_eq_true this.2⟩
def XQ    {n:Nat} (h:f ρ=some (.int n)) (b:n < 50) (a:(jn ES [c,toString (n:Int)]).length<=100):XR (D8 c (N9 f Nx)) ρ=some (.str (jn ES [c,toString (n:Int)])):=by
 have hg:((n:Int).natAbs).log2 < 1920:=AJ (Nat.log2_le_self _) (by omega)
 unfold XR D8 N9 Nx
 rw [h]
 show ((((if ((n:Int).natAbs).log2 < 1920 then some (toString (n:Int)) else none:Option Str).bind λz=>some [z]).bind (λzs=>some (c :: zs))).bind _)=_
 rw [if_pos hg]
 show (if (jn ES [c,toString (n:Int)]).length<=sizeLine then _ else none)=_
 rw [if_pos (bb a)]
theorem QQ:∀ a b:List Int,QS (a.map D.int) (b.map D.int)=decide (a=b)
 | [],[]=>rfl
 | [],_ :: _=>rfl
 | _ :: _,[]=>rfl
 | x :: a,y :: b=>by
  rw [au,au]
  unfold QS
  rw [QQ a b]
  by_cases c:x=y <;> by_cases d:a=b <;> simp [b6,c,d]
def DZ (l):dep (lD l)<=100:=by
 have:=Tu l
 show dep (.lst (l.map D.int))<=100
 omega
def QR (a b):bY (lD a) (lD b)=some (.bl (decide (a=b))):=by
 unfold bY
 rw [if_pos (DZ a)]
 show some (D.bl (QS (a.map D.int) (b.map D.int)))=_
 rw [QQ]
def Qr (h:f ρ=some (.int k)) (h1 : -100<=k) (h2:k<=100):Sx (xD (BI (zf (cF (.int 3)) yb))) f ρ=some ((aF k.toNat (3:Int)).map D.int):=by
 have hz:1<=sizeLine:=bb (by omega)
 simp only [Rv,zM,wq,zj,xR,zr,ai,ao,aE,fU,if_pos hz,b8,h]
 rw [if_pos (by omega),List.map_replicate]
 congr 1
 generalize k.toNat=m
 induction m with
 | zero=>rfl
 | succ m a=>rw [nF,oK,a]; rfl
def NV (l) (y:l.length<=40):xm [lD l]=some (kD (NX l)):=by
 obtain ⟨v,u,_⟩:=SY (n:=l.length+1) (by omega)
 have hz:1<=sizeLine:=bb (by omega)
 have o:=Qr (f:=zt BY (vF 1) (cF (.int 1))) (ρ:=[.fr (lD l),.fr (.int ((l.length:Int)+1))]) (k:=(l.length:Int)) (by simp) (by omega) (by omega)
 have m:=Qr (f:=zt BY (vF 1) (cF (.int 2))) (ρ:=[.fr (lD l),.fr (.int ((l.length:Int)+1))]) (k:=(l.length:Int) - 1) (by simp; omega) (by omega) (by omega)
 have q:((l.length:Int)).toNat=l.length:=by omega
 have p:((l.length:Int) - 1).toNat=l.length - 1:=by omega
 rw [q] at o
 rw [p] at m
 have x:=XQ (c:="a") (f:=vF 1) (ρ:=[.fr (lD l),.fr (.int ((l.length:Int)+1))]) (n:=l.length+1) rfl (by omega) v
 have w:=XQ (c:="b") (f:=vF 1) (ρ:=[.fr (lD l),.fr (.int ((l.length:Int)+1))]) (n:=l.length+1) rfl (by omega) u
 have s:=QR l (aF l.length 3)
 have r:=QR l (aF (l.length - 1) 3++[4])
 have ad:X9 (.lst ((aF (l.length - 1) (3:Int)).map D.int)) (.lst [.int 4])=some (lD (aF (l.length - 1) 3++[4])):=by
  unfold X9
  dsimp only
  rw [if_pos (by simp; exact bb (by omega))]
  simp
 have gt:Ta [([3,4,3],(.str "f4")),([3,5],(.str "h3")),([3,3,5],(.str "h4")),([5],(.str "i5")),([6],(.str "i6"))] (.tup (l.map D.int)) (.str "-")=some ((gK l [([3,4,3],(D.str "f4")),([3,5],(.str "h3")),([3,3,5],(.str "h4")),([5],(.str "i5")),([6],(.str "i6"))]).getD (.str "-")):=by
  unfold Ta
  dsimp only
  rw [kc]
  rfl
 have start:xm [lD l]=V8 (ud (dh (aU (zt bY (vF 0) (xD (Sx (xD (BI (zf (cF (.int 3)) yb))) (zt BY (vF 1) (cF (.int 1))))))) (Yv (XR (D8 "a" (N9 (vF 1) Nx)))) eF) (ud (dh (aU (zt bY (vF 0) (zt X9 (xD (Sx (xD (BI (zf (cF (.int 3)) yb))) (zt BY (vF 1) (cF (.int 2))))) (xD (BI (zf (cF (.int 4)) yb)))))) (Yv (XR (D8 "b" (N9 (vF 1) Nx)))) eF) (Yv (zt (Ta [([3,4,3],(.str "f4")),([3,5],(.str "h3")),([3,3,5],(.str "h4")),([5],(.str "i5")),([6],(.str "i6"))]) (yo xO (zf (vF 0) yb)) (cF (.str "-"))))) [.fr (lD l),.fr (.int ((l.length:Int)+1))]):=by
  simp [xm,vD,aF]
 rw [start,zy,y6,xb,zx,zM,o]
 simp only [yh,aq,ai,b8,s]
 unfold NX
 by_cases b:l=aF l.length 3
 .rw [if_pos b,if_pos (decide_eq_true b),yc,x]
  rfl
 .rw [if_neg b,if_neg (by simpa using b)]
  simp only [uB,ai]
  rw [zy,y6,xb,zx,zx,zM,m]
  simp only [yh,aq,ai,b8,zM,wq,zj,xR,zr,ao,aE,fU,if_pos hz,ad,r]
  by_cases a:l=aF (l.length - 1) 3++[4]
  .rw [if_pos a,if_pos (decide_eq_true a),yc,w]
   rfl
  .rw [if_neg a,if_neg (by simpa using a)]
   simp only [uB,ai,yc,zx,zD,zj,zr,yh,aq,ME,xR,gt,yq]
   by_cases j:l=[3,4,3]
   .subst j; rw [if_pos rfl]; show _=some (D.str (kT (6,4))); rw [SL]; rfl
   .rw [if_neg j]
    by_cases i:l=[3,5]
    .subst i; rw [if_pos rfl]; show _=some (D.str (kT (8,3))); rw [SK]; rfl
    .rw [if_neg i]
     by_cases h:l=[3,3,5]
     .subst h; rw [if_pos rfl]; show _=some (D.str (kT (8,4))); rw [SJ]; rfl
     .rw [if_neg h]
      by_cases g:l=[5]
      .subst g; rw [if_pos rfl]; show _=some (D.str (kT (9,5))); rw [SI]; rfl
      .rw [if_neg g]
       by_cases d:l=[6]
       .subst d; rw [if_pos rfl]; show _=some (D.str (kT (9,6))); rw [SH]; rfl
       .rw [if_neg d]
        have e:gK l [([3,4,3],(D.str "f4")),([3,5],(.str "h3")),([3,3,5],(.str "h4")),([5],(.str "i5")),([6],(.str "i6"))]=none:=by
         simp [gK,beq_false_of_ne,j,i,h,g,d]
        rw [e]
        rfl
def zcw (o) (i:Nat) (y:Int) (h:o[i]? = some y):ay (lD o) (.int (i:Int))=some (.int y):=vy (by rw [cP,h]; rfl)
def C9 (o) (y:Int) (i:o.length<=40):zZ [lD o,.int y]=some (kD (jm o y)):=by
 obtain ⟨_,_,g⟩:=SY (n:=o.length+1) (by omega)
 have h:=XQ (c:="d") (f:=vF 2) (ρ:=[.fr (lD o),.fr (.int y),.fr (.int ((o.length:Int)+1))]) (n:=o.length+1) rfl (by omega) g
 have start:zZ [lD o,.int y]=V8 (ud (dh (BM (aU (zt AD (vF 2) (cF (.int 4)))) (aU (zt bY (zt ay (vF 0) (cF (.int 1))) (vF 1)))) (Yv (XR (D8 "d" (N9 (vF 2) Nx)))) eF) (ud (dh (BM (aU (zt bY (vF 2) (cF (.int 6)))) (aU (zt bY (zt ay (vF 0) (cF (.int 2))) (vF 1)))) (Yv (cF (.str "e6"))) eF) (Yv (cF (.str "-")))) [.fr (lD o),.fr (.int y),.fr (.int ((o.length:Int)+1))]):=by
  simp [zZ,xf,aF]
 have a1:BM (aU (zt AD (vF 2) (cF (.int 4)))) (aU (zt bY (zt ay (vF 0) (cF (.int 1))) (vF 1))) [.fr (lD o),.fr (.int y),.fr (.int ((o.length:Int)+1))]=some (decide (4<=o.length+1/\o[1]? = some y)):=by
  by_cases c:4<=o.length+1
  .have b:o[1]? = some o[1]:=dq (by omega)
   have a:(4:Int)<=(o.length:Int)+1:=by omega
   have:=zcw o 1 o[1] b
   have this:ay (lD o) (.int 1)=some (.int o[1]):=this
   simp [c,a,this,b]
  .have a:¬ (4:Int)<=(o.length:Int)+1:=by omega
   simp [c,a]
 have a2:BM (aU (zt bY (vF 2) (cF (.int 6)))) (aU (zt bY (zt ay (vF 0) (cF (.int 2))) (vF 1))) [.fr (lD o),.fr (.int y),.fr (.int ((o.length:Int)+1))]=some (decide (o.length+1=6/\o[2]? = some y)):=by
  by_cases c:o.length+1=6
  .have b:o[2]? = some o[2]:=dq (by omega)
   have a:(o.length:Int)+1=6:=by omega
   have:=zcw o 2 o[2] b
   have this:ay (lD o) (.int 2)=some (.int o[2]):=this
   simp [c,a,this,b]
  .have a:¬ (o.length:Int)+1=6:=by omega
   simp [c,a]
 rw [start,zy,y6,a1,ai]
 unfold jm
 by_cases e:4<=o.length+1/\o[1]? = some y
 .rw [if_pos e,if_pos (decide_eq_true e),yc,h]
  rfl
 .rw [if_neg e,if_neg (by simpa using e),uB,ai]
  dsimp only
  rw [zy,y6,a2,ai]
  by_cases d:o.length+1=6/\o[2]? = some y
  .rw [if_pos d,if_pos (decide_eq_true d)]
   show _=some (D.str (kT (5,6)))
   rw [SM]
   rfl
  .rw [if_neg d,if_neg (by simpa using d)]
   rfl
theorem Bh  : ∀ {n:Nat} {x:Int} {l o:List Int},chG t n x l=some o->o.length<=n
 | 0,x,l,o,h=>by cases h; exact aM _
 | n+1,x,l,o,h=>by
  unfold chG at h
  split at h
  .cases h; exact dm _
  .split at h
   .obtain ⟨o',a,rfl⟩:=iu.mp h
    have:=Bh a
    rw [ao]
    omega
   .cases h
def Y7 (h:o∈yM t ms):o.length<=ms.length+1:=by
 obtain ⟨f,_,e⟩:=ly.mp h
 obtain ⟨o',a,rfl⟩:=iu.mp e
 have:=Bh a
 rw [ao]
 omega
def ur (t) (ms:List Int):(yM t ms).length<=ms.length:=List.length_filterMap_le _ _
def Bz (t) (o:List Int):(wu t o).length<=o.length:=by
 unfold wu
 rw [List.length_zipWith]
 omega
def NS (n) (ts:List T3) (ms:List Int) (c:ms.length<=9):wA [ze n ts,lD ms]=some (.lst ((BJ (zh ts) ms).map kD)):=by
 have b:=Y6 n ts ms (by omega)
 have e1:=Yf (f:=yo xm (zf (yo w6 (zf (vF 1) (zf (vF 0) yb))) yb)) (C:=[.fr (ze n ts)]) (ι:=lD) (φ:=λo=>kD (NX (wu (zh ts) o))) (yM (zh ts) ms) .no (λo a=>by
  have h1:=Y7 a
  have h2:=Bz (zh ts) o
  simp only [zD,zj,zr,yh,aq,aB,ai,By n ts o (by omega),NV (wu (zh ts) o) (by omega)])
 have hz:((yM (zh ts) ms).map lD).length<=sizeLine:=by
  have:=ur (zh ts) ms
  rw [az]; exact bb (by omega)
 simp only [wA,wF,z5,zB,au,aP,ao,aE,Nat.reduceAdd,Nat.reduceSub,aF,bx,bz,a_,yc,zM,xj,zF,zD,zj,zr,yh,aq,aB,ai,b,xh,if_pos hz,xA,vV,e1,b8,yq]
 unfold BJ
 rw [bM]
 rfl
def Bq (l:List α) (p:α->Bool):vx (l.map λa=>D.bl (p a))=some (l.map p):=by
 induction l with
 | nil=>rfl
 | cons a l b =>
  rw [au,au]
  unfold vx
  rw [b]
  rfl
def Mv (n) (ts:List T3) (ms:List Int) (ht:ts.length<=90):xE [ze n ts,lD ms]=some (.bl (YK ts ms)):=by
 have a:ay (ze n ts) (.int 1)=some (.lst (ts.map tD)):=by unfold ze; exact gX
 have e1:=TB (ft:=aU (zt (inD false) (vF 0) (vF 3))) (f:=zt bY (vF 2) (cF (.int 3))) (C:=[.fr (lD ms)]) (ι:=λu:T3=>.int u.1) (κ:=λu:T3=>.int u.2.1) (μ:=λu:T3=>.int u.2.2) (q:=λu=>decide (u.1∈ms)) (φ:=λu=>.bl (decide (u.2.2=3))) ts .no .no .no (λu _=>by
  by_cases c:u.1∈ms <;> simp [GY,c]) (λu _ _=>by simp)
 have hz:(ts.map tD).length<=sizeLine:=by rw [az]; exact bb (by omega)
 have e1:yN (kH 3 (yB (zS 0) (yB (zS 1) (yB (zS 2) ZO)))) (aU (zt (inD false) (vF 0) (vF 3))) (zt bY (vF 2) (cF (.int 3))) (ts.map tD) [.no,.no,.no,.fr (lD ms)]=_:=e1
 simp only [xE,vS,z5,zB,au,aP,ao,aE,Nat.reduceAdd,Nat.reduceSub,aF,bx,bz,a_,yc,zM,xj,zF,zD,zj,zr,zx,xR,yh,aq,aB,ai,a,xh,if_pos hz,xA,vV,e1,b8]
 show V8 (((vx (dC (λu:T3=>D.bl (decide (u.2.2=3))) (List.filter (λu:T3=>decide (u.1∈ms)) ts))).map λbs=>D.bl (bs.all id)).bind λd=>some (Out.rt d))=_
 rw [Bq]
 show some (D.bl _)=_
 unfold YK
 rw [List.all_map]
 rfl
noncomputable abbrev eB:FS:=ud (qu 4 (yo yv (zf (vF 0) (zf (vF 3) (zf (vF 1) yb))))) (dh (aU (zt bY (yo kX (zf (vF 4) yb)) (cF (.int 1)))) (ud (qu 5 (yo jz (zf (vF 0) (zf (yo vp (zf (vF 1) (zf (vF 3) yb))) yb)))) (qM 2 (xD (jI 1 [4] (yU (vF 5)) (zS 0) eQ (yo zZ (zf (vF 0) (zf (zt ay (vF 1) (cF (.int 0))) yb))))))) eF)
def m6 (t:Int->Int->Int) (ms:List Int) (e:Int):List Kd:=match bo t e ms with
 | [y]=>(yM t (bh ms e)).map λo=>jm o y
 | _=>[]
def NR (n) (ts:List T3) (ms:List Int) (u:ms.length<=9) (a:List Kd) (ht:a.length<=90) (e:Int) (d b:Slot) :
  ∃ p q,eB [.fr (ze n ts),.fr (lD ms),.ol (a.map kD),.fr (.int e),d,b]=some (.nx [.fr (ze n ts),.fr (lD ms),.ol ((a++m6 (zh ts) ms e).map kD),.fr (.int e),p,q])/\(m6 (zh ts) ms e).length<=9:=by
 have h1:=Gv n ts e ms (by omega)
 have j:=UY ms e (by omega)
 have s:(bh ms e).length<=ms.length:=rP _ _
 have h2:=Y6 n ts (bh ms e) (by omega)
 have m:=ur (zh ts) (bh ms e)
 have a1:qu 4 (yo yv (zf (vF 0) (zf (vF 3) (zf (vF 1) yb)))) [.fr (ze n ts),.fr (lD ms),.ol (a.map kD),.fr (.int e),d,b]=some (.nx [.fr (ze n ts),.fr (lD ms),.ol (a.map kD),.fr (.int e),.fr (lD (bo (zh ts) e ms)),b]):=by
  simp only [yH,zD,zj,zr,yh,aq,aB,ai,h1,aV,aT]
 have a2:∀ l:List Int,aU (zt bY (yo kX (zf (vF 4) yb)) (cF (.int 1))) [.fr (ze n ts),.fr (lD ms),.ol (a.map kD),.fr (.int e),.fr (lD l),b]=some (decide ((l.length:Int)=1)):=λl=>by
  simp only [xb,zx,zD,zj,zr,yh,xR,aq,aB,ai,YN,az,WC]
 have c:(bo (zh ts) e ms).length≠1->eB [.fr (ze n ts),.fr (lD ms),.ol (a.map kD),.fr (.int e),d,b]=some (.nx [.fr (ze n ts),.fr (lD ms),.ol ((a++[]).map kD),.fr (.int e),.fr (lD (bo (zh ts) e ms)),b]):=λv=>by
  unfold eB
  rw [zy,a1,ai]
  dsimp only
  rw [y6,a2,decide_eq_false (by omega),bx]
  rfl
 unfold m6
 cases h:bo (zh ts) e ms with
 | nil=>exact ⟨_,_,c (by rw [h]; simp),by simp⟩
 | cons y r =>
  cases r with
  | cons z r=>exact ⟨_,_,c (by rw [h]; simp),by simp⟩
  | nil =>
   have g:ay (lD [y]) (.int 0)=some (.int y):=by simp [ay,atI,dF]
   have e1:=Yf (f:=yo zZ (zf (vF 0) (zf (zt ay (vF 1) (cF (.int 0))) yb))) (C:=[.fr (lD [y])]) (ι:=lD) (φ:=λo=>kD (jm o y)) (yM (zh ts) (bh ms e)) .no (λo k=>by
    have h1:=Y7 k
    simp only [zD,zj,zr,yh,zx,xR,aq,aB,ai,g,C9 o y (by omega)])
   have hz:((yM (zh ts) (bh ms e)).map lD).length<=sizeLine:=by rw [az]; exact bb (by omega)
   have i:(a.map kD).length+((yM (zh ts) (bh ms e)).map λo=>kD (jm o y)).length<=sizeLine:=by rw [az,az]; exact bb (by omega)
   refine ⟨.fr (lD [y]),.fr (.lst ((yM (zh ts) (bh ms e)).map lD)),?_,by simp; omega⟩
   unfold eB
   rw [zy,a1,h,ai]
   dsimp only
   rw [y6,a2]
   simp only [bX,Int.ofNat_one,decide_true,ai,if_true,zy,yH,zD,zj,zr,yh,aq,aB,j,h2,aV,aT,jf,zM,xj,zF,xh,if_pos hz,xA,vV,au,aP,aF,bz,a_,e1,b8,if_pos i]
   rw [bN,bM]
   rfl
theorem GQ (n) (ts:List T3) (ms:List Int) (c:ms.length<=9):∀ (es:List Int) (told) (s3 s4 s5),told.length+9 * es.length<=90 →
  ∃ j a b,z9 (zS 3) eB (es.map D.int) [.fr (ze n ts),.fr (lD ms),.ol (told.map kD),s3,s4,s5]=some (.nx [.fr (ze n ts),.fr (lD ms),.ol ((told++es.flatMap (m6 (zh ts) ms)).map kD),j,a,b])
 | [],told,s3,s4,s5,h=>⟨_,_,_,by rw [List.flatMap_nil,bx]; rfl⟩
 | e :: es,told,s3,s4,s5,h=>by
  rw [ao] at h
  obtain ⟨a,b,h1,h2⟩:=NR n ts ms c told (by omega) e s4 s5
  obtain ⟨g,f,d,i⟩:=GQ n ts ms c es (told++m6 (zh ts) ms e) (.fr (.int e)) a b (by rw [aH]; omega)
  refine ⟨g,f,d,?_⟩
  rw [au]
  unfold z9
  simp only [yL,ai,aV,aT]
  rw [h1]
  show z9 _ _ _ _=_
  rw [i,lu,b9]
def NN (n) (ts:List T3) (ms:List Int) (a:ms.length<=9) (ht:ts.length<=90):wm [ze n ts,lD ms]=some (.lst ((if YK ts ms=true then C8 (zh ts) ms else []).map kD)):=by
 have b:=Mv n ts ms ht
 obtain ⟨f,e,d,h1⟩:=GQ n ts ms a ms [] .no .no .no (by simp; omega)
 have hz:0<=sizeLine:=dm _
 have start:wm [ze n ts,lD ms]=V8 (ud (dh (CQ (aU (yo xE (zf (vF 0) (zf (vF 1) yb))))) (PZ 2 (Yv (vF 2))) eF) (ud (Vf (yU (vF 1)) (zS 3) eB) (PZ 2 (Yv (vF 2)))) [.fr (ze n ts),.fr (lD ms),.ol [],.no,.no,.no]):=by
  simp only [wm,vC,z5,zB,au,aP,ao,aE,Nat.reduceAdd,Nat.reduceSub,aF,bz,a_]
  rw [zy (F:=Kf 2 _),uy]
  simp only [wq,zr,ai,aE,if_pos hz,aV,aT]
 have a1:CQ (aU (yo xE (zf (vF 0) (zf (vF 1) yb)))) [.fr (ze n ts),.fr (lD ms),.ol [],.no,.no,.no]=some (!YK ts ms):=by
  simp only [Qc,xb,zD,zj,zr,yh,aq,aB,ai,b]
 rw [start,zy,y6,a1,ai]
 cases c:YK ts ms with
 | false=>rfl
 | true =>
  rw [if_neg (by simp),if_pos rfl,uB,ai]
  dsimp only
  rw [zy,xY]
  simp only [zF,yh,aq,aB,ai,xh]
  have h1:z9 (zS 3) eB (ms.map D.int) [.fr (ze n ts),.fr (lD ms),.ol [],.no,.no,.no]=_:=h1
  rw [h1]
  rfl
abbrev kB:FS:=dh (aU (zt c_ (vF 2) (cF (.str "-")))) (Yv (vF 2)) eF
def Sv (a b):c_ (.str a) (.str b)=some (.bl (!decide (a=b))):=by
 unfold c_
 rw [if_pos (show dep (.str a)<=100 from dm _)]
 by_cases c:a=b <;> simp [b6,c]
theorem W3 {c:Kd} (g:c=(0,0)\/kT c≠"-") (a b):∀ (L:List Kd) (s),(∀ k∈L,k=(0,0)\/k=c) →
  ((c=(0,0)\/c∉L)/\∃ s',z9 (zS 2) kB (L.map kD) [a,b,s]=some (.nx [a,b,s']))\/z9 (zS 2) kB (L.map kD) [a,b,s]=some (.rt (kD c))
 | [],s,_=>.inl ⟨.inr (by simp),s,rfl⟩
 | k :: L,s,h=>by
  rw [au]
  by_cases z:k=(0,0)
  .subst z
   have st:z9 (zS 2) kB (kD (0,0) :: L.map kD) [a,b,s]=z9 (zS 2) kB (L.map kD) [a,b,.fr (kD (0,0))]:=by
    rw [z9]
    rfl
   rw [st]
   rcases W3 g a b L (.fr (kD (0,0))) (λk d=>h k (aX _ d)) with ⟨h1,h2⟩ | h1
   .refine .inl ⟨?_,h2⟩
    by_cases f:c=(0,0)
    .exact .inl f
    .exact .inr λm=>(aI.mp m).elim f (h1.resolve_left f)
   .exact .inr h1
  .have e:k=c:=(h k aN).resolve_left z
   subst e
   have d:=g.resolve_left z
   refine .inr ?_
   unfold z9
   simp [Sv,d]
def Qy (n) (ts:List T3) (ms:List Int) (c:Kd) (b:ms.length<=9) (ht:ts.length<=90) (h1:∀ k∈vM (zh ts) (YK ts ms) ms,k=(0,0)\/k=c) (h2:c=(0,0)\/c∈vM (zh ts) (YK ts ms) ms) (d:c=(0,0)\/kT c≠"-")
  (hz:(vM (zh ts) (YK ts ms) ms).length<=100):vw [ze n ts,lD ms]=some (kD c):=by
 have e1:=NS n ts ms b
 have e2:=NN n ts ms b ht
 have ad:X9 (.lst ((BJ (zh ts) ms).map kD)) (.lst ((if YK ts ms=true then C8 (zh ts) ms else []).map kD))=some (.lst ((vM (zh ts) (YK ts ms) ms).map kD)):=by
  unfold X9 vM
  dsimp only
  unfold vM at hz
  rw [aH] at hz
  rw [if_pos (by rw [az,az]; exact bb hz),bN]
 have start:vw [ze n ts,lD ms]=V8 ((z9 (zS 2) kB ((vM (zh ts) (YK ts ms) ms).map kD) [.fr (ze n ts),.fr (lD ms),.no]).bind λo=>match o with | .nx aD=>Yv (cF (.str "-")) aD | o=>some o):=by
  simp only [vw,Ys,z5,zB,au,aP,ao,aE,Nat.reduceAdd,Nat.reduceSub,aF,bz,a_,zy,xY,zF,zx,zD,zj,zr,yh,aq,aB,ai,e1,e2,ad,xh]
  try rfl
 rw [start]
 rcases W3 d (.fr (ze n ts)) (.fr (lD ms)) _ .no h1 with ⟨a,s',e⟩ | a
 .rw [e]
  have:c=(0,0):=by
   rcases a with z | z
   .exact z
   .exact h2.resolve_right z
  subst this
  rfl
 .rw [a]
  rfl
theorem Ml (t):∀ k part left p,part≠[]->Yx t k part left p≠[]
 | 0,part,left,p,h=>h
 | k+1,part,left,p,h=>by
  unfold Yx
  split
  .exact h
  .exact Ml t k _ _ _ (by simp [h])
def B0 (h:l≠[]):sortI l≠[]:=λz=>h (by
 have:=(sortI_perm l).length_eq
 rw [z] at this
 exact oP.mp this.symm)
abbrev PM (n:Nat) (ts:List T3) (x:Int):List Int:=sortI (xQ (zh ts) n x)
def zb1 (n) (ts:List T3) (x:Int):PM n ts x≠[]:=B0 (Ml _ _ _ _ _ (by simp))
def DH (n) (f:Int->D):um ((idx n).map f)=(idx n).map λx=>.tup [.int x,f x]:=by
 unfold um
 apply List.ext_getElem
 .simp
 .intro i h1 h2
  simp [idx]
def Ge (n) (ts:List T3) (g:n<=40):Uv [ze n ts]=some (.lst (((idx n).filter λx=>decide ((PM n ts x).headD 0=x)).map λx=>lD (PM n ts x))):=by
 have h:ay (ze n ts) (.int 0)=some (.int n):=by unfold ze; exact eT
 have d:vG [.int (n:Int)]=some ((idx n).map D.int):=by rw [xC (by omega) (by omega),xZ]
 have e1:=Yf (f:=yo jt (zf (vF 1) (zf (vF 0) yb))) (C:=[.fr (ze n ts)]) (ι:=D.int) (φ:=λx=>lD (PM n ts x)) (idx n) .no (λx c=>by
  simp only [zD,zj,zr,yh,aq,aB,ai,CB n ts x g c])
 have e2:=Q1 (ft:=aU (zt bY (zt ay (vF 1) (cF (.int 0))) (vF 0))) (f:=vF 1) (C:=[]) (ι:=D.int) (κ:=λx=>lD (PM n ts x)) (q:=λx=>decide ((PM n ts x).headD 0=x)) (φ:=λx=>lD (PM n ts x)) (idx n) .no .no (λx _=>by
  have i:=zb1 n ts x
  cases e:PM n ts x with
  | nil=>exact absurd e i
  | cons y r =>
   have a:ay (lD (y :: r)) (.int 0)=some (.int y):=by simp [ay,atI,dF]
   simp only [xb,zx,yh,xR,aq,aB,ai,a,WC]
   rfl) (λx _ _=>rfl)
 have hz:((idx n).map D.int).length<=sizeLine:=by rw [az,uj]; exact bb (by omega)
 have b:((idx n).map λx=>D.tup [.int x,lD (PM n ts x)]).length<=sizeLine:=by rw [az,uj]; exact bb (by omega)
 simp only [Uv,UT,z5,zB,au,aP,ao,aE,Nat.reduceAdd,Nat.reduceSub,aF,bz,a_,zy,yH,zM,xj,qC,zj,zr,zx,xR,yh,aq,aB,ai,h,d,if_pos hz,xA,vV,e1,b8,aV,aT,yc,Qd,zF,xh,DH,if_pos b,e2,yq]
def JK (n) (ts:List T3) (c:Int->Kd) (b:n<=40) (d:∀ x∈idx n,vw [ze n ts,lD (PM n ts x)]=some (kD (c x))):uP [ze n ts]=some (.lst (((idx n).filter λx=>decide ((PM n ts x).headD 0=x)).map λx=>.tup [lD (PM n ts x),kD (c x)])):=by
 have e:=Ge n ts b
 have e1:=Yf (f:=tupF (zf (vF 0) (zf (yo vw (zf (vF 1) (zf (vF 0) yb))) yb))) (C:=[.fr (ze n ts)]) (ι:=λx=>lD (PM n ts x)) (φ:=λx=>.tup [lD (PM n ts x),kD (c x)]) ((idx n).filter λx=>decide ((PM n ts x).headD 0=x)) .no (λx a=>by
  have:=d x (df.mp a).1
  simp only [ux,zD,zj,zr,yh,aq,aB,ai,this,ao,aE]
  rw [if_pos (bb (by omega))])
 have hz:(((idx n).filter λx=>decide ((PM n ts x).headD 0=x)).map λx=>lD (PM n ts x)).length<=sizeLine:=by
  rw [az]
  have:=rP (λx=>decide ((PM n ts x).headD 0=x)) (idx n)
  rw [uj] at this
  exact bb (by omega)
 simp only [uP,UW,z5,zB,au,aP,ao,aE,Nat.reduceAdd,Nat.reduceSub,aF,bx,bz,a_,yc,zM,xj,zF,zD,zj,zr,yh,aq,aB,ai,e,xh,if_pos hz,xA,vV,e1,b8,yq]
def Dc (t) (b:Bool) (ms:List Int) (d:ms.length<=9):(vM t b ms).length<=100:=by
 have h1:=ur t ms
 have h2:∀ es:List Int,(es.flatMap (m6 t ms)).length<=9 * es.length:=λes=>by
  induction es with
  | nil=>simp
  | cons e es c =>
   rw [lu,aH,ao]
   have:(m6 t ms e).length<=9:=by
    unfold m6
    split
    .have:=ur t (bh ms e)
     have a:(bh ms e).length<=ms.length:=rP _ _
     rw [az]
     omega
    .simp
   omega
 unfold vM BJ
 rw [aH,az]
 have f:(C8 t ms).length<=9 * ms.length:=h2 ms
 split
 .omega
 .simp; omega
def JH (y) (h : -3<=x.1/\x.1<=2 /\ -1<=x.2/\x.2<=0):ju [gD x,gD y]=some (gD (yd x y)):=by
 have c:=λb=>@PV x.1 b (by omega) (by omega)
 have a:=λb=>@PV x.2 b (by omega) (by omega)
 simp [ju,Yp,gD,eT,gX,yd,c,a,Eo]
theorem YV (h) (i j:Int):∀ ts s1 s2 e,∃ o,z9 (kH 3 (yB (zS 3) (yB (zS 4) (yB (zS 5) ZO)))) (dh (BM (aU (zt bY (vF 3) (yo NF (zf (vF 1) (zf (vF 2) yb))))) (aU (zt bY (vF 4) (yo F6 (zf (vF 1) (zf (vF 2) yb)))))) (Yv (vF 5)) eF) (ts.map tD)
  [.fr h,.fr (.int i),.fr (.int j),s1,s2,e]=some o/\V8 ((some o).bind λo=>match o with | .nx aD=>Yv (cF (.int 2)) aD | o=>some o)=some (.int (zh ts i j))
 | [],s1,s2,e=>⟨_,rfl,rfl⟩
 | t :: ts,s1,s2,e=>by
  obtain ⟨o,h1,h2⟩:=YV h i j ts (.fr (.int t.1)) (.fr (.int t.2.1)) (.fr (.int t.2.2))
  rw [au]
  unfold z9 zh
  have a:(if j < i then j else i)=cy i j:=rfl
  have b:(if j > i then j else i)=cA i j:=rfl
  by_cases c:t.1=cy i j
  .by_cases d:t.2.1=cA i j
   .exact ⟨.rt (.int t.2.2),by simp [tD,a,b,c,d,XX],by simp [c,d]⟩
   .refine ⟨o,?_,by simpa [d] using h2⟩
    simp [tD,a,b,c,d,XX] at h1 ⊢
    exact h1
  .refine ⟨o,?_,by simpa [c] using h2⟩
   simp [tD,a,b,c,XX] at h1 ⊢
   exact h1
def GE (n) (ts:List T3) (i j:Int):XT [ze n ts,.int i,.int j]=some (.int (zh ts i j)):=by
 obtain ⟨o,h1,h2⟩:=YV (ze n ts) i j ts .no .no .no
 have e:ay (ze n ts) (.int 1)=some (.lst (ts.map tD)):=by unfold ze; exact gX
 unfold XT Wc
 simp only [z5,zB,au,aP,ao,aE,Nat.reduceAdd,Nat.reduceSub,aF,bz,a_,zy,xY,zF,zx,yh,xR,aq,aB,ai,e,xh]
 rw [h1]
 exact h2
def kR (r:List Gd):KTy 2:=dC (λx:Gd=>([x.1,x.2]:List Int)) r
def zdw (r):fF 2 (kR r)=yG r:=by
 have:∀ l:List Gd,dC (fF 1) (kR l)=l.map gD:=λl=>by
  induction l with
  | nil=>rfl
  | cons x l a=>exact congrArg (gD x :: ·) a
 exact congrArg D.tup (this r)
def SW (h:kR r=kR a):r=a:=by
 unfold kR at h
 refine (List.map_inj_right λx y e=>?_).mp h
 have e:([x.1,x.2]:List Int)=[y.1,y.2]:=e
 injection e with e1 e2
 injection e2 with e2 b
 exact IA e1 e2
def GG (n) (hg:zT ts) (i j):qg [ze n ts,.int i,.int j]=some (gD (uI ts i j)):=by
 have lt:=GE n ts i j
 have z2:0+1+1<=sizeLine:=bb (by decide)
 unfold uI
 by_cases c:i=j
 .subst c
  simp only [qg,Zg,z5,zB,au,aP,ao,aE,Nat.reduceAdd,Nat.reduceSub,aF,bz,a_,zy,y6,xb,zx,yh,aq,aB,ai,WC,decide_true,if_true,yc,ux,zj,xR,zr,if_pos z2,yq]
  rfl
 .rw [if_neg c]
  have b:=w9 hg i j
  generalize zh ts i j=m at lt b
  have a:m=0\/m=2\/m=3\/m=4\/m=5\/m=6:=by omega
  by_cases d:i < j <;> rcases a with rfl | rfl | rfl | rfl | rfl | rfl <;> simp [qg,Zg,aF,c,lt,d,Eo,zN,gD,j9]
def vh (ts:List T3) (n:Nat):D:=.lst ((aw n).map λi=>.lst ((aw n).map λj=>gD (zb ts i j)))
def qI (n) (f:Int->β):(idx n).map f=(aw n).map λ(i:Nat)=>f (i:Int):=by
 unfold idx
 rw [bM]
 rfl
noncomputable def puB:FS:=vQ 1 (xD (jI 1 [0,2] (MR (zf (zt ay (vF 0) (cF (.int 0))) yb)) (zS 0) eQ (yo qg (zf (vF 1) (zf (vF 2) (zf (vF 0) yb))))))
theorem K1 (n) (hg:zT ts) (d:n<=40):∀ (l:List Int) (acc) (s2),acc.length+l.length<=90->∃ a,z9 (zS 2) puB (l.map D.int) [.fr (ze n ts),.ol acc,s2]=some (.nx [.fr (ze n ts),.ol (acc++l.map λi=>.lst ((idx n).map λj=>gD (uI ts i j))),a])
 | [],acc,s2,_=>⟨s2,by rw [aP,aP,bx]; rfl⟩
 | i :: l,acc,s2,hlen=>by
  rw [ao] at hlen
  obtain ⟨a,e⟩:=K1 n hg d l (acc++[.lst ((idx n).map λj=>gD (uI ts i j))]) (.fr (.int i)) (by rw [aH,bX]; omega)
  refine ⟨a,?_⟩
  have g:ay (ze n ts) (.int 0)=some (.int n):=by unfold ze; exact eT
  have c:vG [.int (n:Int)]=some ((idx n).map D.int):=by rw [xC (by omega) (by omega),xZ]
  have hz:((idx n).map D.int).length<=sizeLine:=by rw [az,uj]; exact bb (by omega)
  have b:acc.length < sizeLine:=yQ (by omega)
  have h:=Yf (f:=yo qg (zf (vF 1) (zf (vF 2) (zf (vF 0) yb)))) (C:=[.fr (ze n ts),.fr (.int i)]) (ι:=D.int) (φ:=λj=>gD (uI ts i j)) (idx n) .no (λj _=>by
   simp only [zD,zj,zr,yh,aq,aB,ai,GG n hg])
  rw [au]
  unfold z9
  simp only [puB,yL,ai,aV,aT,wH,zM,xj,qC,zj,zr,zx,yh,xR,aq,aB,g,c,if_pos hz,xA,vV,au,aP,aF,bz,a_,h,b8,if_pos b]
  unfold puB at e
  rw [e,b9]
  rfl
def JI (n) (hg:zT ts) (c:n<=40):Z6 [ze n ts]=some (vh ts n):=by
 obtain ⟨s2,e⟩:=K1 n hg c (idx n) [] .no (by rw [uj]; simp; omega)
 have d:ay (ze n ts) (.int 0)=some (.int n):=by unfold ze; exact eT
 have b:vG [.int (n:Int)]=some ((idx n).map D.int):=by rw [xC (by omega) (by omega),xZ]
 have a:0<=sizeLine:=dm _
 unfold puB at e
 simp only [Z6,Yq,z5,zB,au,aP,ao,aE,Nat.reduceAdd,Nat.reduceSub,aF,bz,a_]
 rw [zy (F:=Kf 1 _),uy]
 simp only [wq,zr,ai,aE,if_pos a,aV,aT]
 rw [zy (F:=Vf _ _ _),xY]
 simp only [qC,zj,zr,zx,yh,xR,aq,ai,d,b]
 rw [e]
 simp only [ai,WB,KU,aq,aB,aV,aT,yc,yh,yq,a_]
 unfold vh
 rw [qI]
 congr 3
 funext i
 rw [qI]
 rfl
def Cj (ts) (hi:i < n) (a:j < n):zt ay (zt ay (vF 0) (vF 1)) (vF 4)=zt ay (zt ay (vF 0) (vF 1)) (vF 4)/\ay (vh ts n) (.int (i:Int))=some (.lst ((aw n).map λj=>gD (zb ts i j)))/\ay (.lst ((aw n).map λj=>gD (zb ts i j))) (.int (j:Int))=some (gD (zb ts i j)):=by
 refine ⟨rfl,?_,?_⟩
 .unfold vh
  exact vy (by rw [cP,g4f hi]; rfl)
 .exact vy (by rw [cP,g4f a]; rfl)
noncomputable def A4:FS:=(ud (qu 8 (yo ju (zf (zt ay (zt ay (vF 0) (vF 2)) (vF 4)) (zf (vF 7) yb)))) (vQ 5 (tupF (zf (zt BY (zt ay (vF 6) (cF (.int 0))) (zt ay (vF 8) (cF (.int 0)))) (zf (zt BY (zt ay (vF 6) (cF (.int 1))) (zt ay (vF 8) (cF (.int 1)))) yb)))))
def kK (p x y:Gd):Gd:=(x.1 - (yd p y).1,x.2 - (yd p y).2)
theorem Jb (j:m < n) (hi:i < n) (a1 a3):∀ r s a d c b,a.length+r.length<=90 →
  ∃ f h g,z9 (kH 2 (yB (zS 6) (yB (zS 7) ZO))) A4 (Yu (r.map gD) (s.map gD)) [.fr (vh ts n),a1,.fr (.int (m:Int)),a3,.fr (.int (i:Int)),.ol (a.map gD),d,c,b] =
   some (.nx [.fr (vh ts n),a1,.fr (.int (m:Int)),a3,.fr (.int (i:Int)),.ol ((a++g_ (kK (zb ts m i)) r s).map gD),f,h,g])
 | [],s,a,d,c,b,_=>⟨d,c,b,by rw [List.zipWith_nil_left,bx]; rfl⟩
 | x :: r,[],a,d,c,b,_=>⟨d,c,b,by rw [List.zipWith_nil_right,bx]; rfl⟩
 | x :: r,y :: s,a,d,c,b,l=>by
  rw [ao] at l
  obtain ⟨f,h,g,e⟩:=Jb (ts:=ts) j hi a1 a3 r s (a++[kK (zb ts m i) x y]) (.fr (gD x)) (.fr (gD y)) (.fr (gD (yd (zb ts m i) y))) (by rw [aH,bX]; omega)
  refine ⟨f,h,g,?_⟩
  obtain ⟨_,k,p2⟩:=Cj ts j hi
  have lt:=JH (x:=zb ts m i) y (ug ts (m:Int) (i:Int))
  have q:∀ x:Gd,ay (gD x) (.int 0)=some (.int x.1):=λx=>eT
  have p:∀ x:Gd,ay (gD x) (.int 1)=some (.int x.2):=λx=>gX
  have z2:0+1+1<=sizeLine:=bb (by decide)
  have hz:(a.map gD).length < sizeLine:=by rw [az]; exact yQ (by omega)
  have o:D.tup [.int (x.1 - (yd (zb ts m i) y).1),.int (x.2 - (yd (zb ts m i) y).2)]=gD (kK (zb ts m i) x y):=rfl
  have u:Yu ((x :: r).map gD) ((y :: s).map gD)=.tup [gD x,gD y] :: Yu (r.map gD) (s.map gD):=rfl
  rw [u,z9]
  simp only [A4,qB,vJ,yL,qD,ao,aE,Nat.reduceAdd,if_true,aV,aT,ai,zy,yH,zD,zj,zr,zx,yh,xR,aq,aB,k,p2,lt,wH,ux,q,p,Rq,if_pos z2,o,if_pos hz]
  rw [g3s]
  unfold A4 at e
  rw [b9,bN (l₁:=a) (l₂:=[kK (zb ts m i) x y])] at e
  exact e
noncomputable def A3:FS:=(ud (Kf 5 (BI yb)) (ud (Vf (W7 (zt ay (vF 1) (vF 4)) (zt ay (vF 1) (vF 2))) (kH 2 (yB (zS 6) (yB (zS 7) ZO))) A4) (vQ 3 (yo xO (zf (vR 5) yb)))))
theorem Ja (H:n<=40) (z:m < n) {R:List (List Gd)} (L:R.length=n) (x:∀ r∈R,r.length=n):∀ (l:List Nat) (acc) (f d c b a),(∀ k∈l,k < n)->acc.length+l.length<=90 →
  ∃ o p g i h,z9 (zS 4) A3 (l.map λ(k:Nat)=>D.int (k:Int)) [.fr (vh ts n),.fr (.tup (R.map yG)),.fr (.int (m:Int)),.ol (acc.map yG),f,d,c,b,a] =
   some (.nx [.fr (vh ts n),.fr (.tup (R.map yG)),.fr (.int (m:Int)),.ol ((acc++l.map λk=>g_ (kK (zb ts m k)) (R.getD k []) (R.getD m [])).map yG),o,p,g,i,h])
 | [],acc,f,d,c,b,a,_,_=>⟨f,d,c,b,a,by rw [aP,aP,bx]; rfl⟩
 | k :: l,acc,f,d,c,b,a,A,hlen=>by
  rw [ao] at hlen
  have I:=A k aN
  have v:R[k]? = some (R.getD k []):=by rw [aW,dq (by omega)]; rfl
  have C:R[m]? = some (R.getD m []):=by rw [aW,dq (by omega)]; rfl
  have lk:=x _ (gN v)
  have G:ay (.tup (R.map yG)) (.int (k:Int))=some (yG (R.getD k [])):=vy (by rw [cP,v]; rfl)
  have E:ay (.tup (R.map yG)) (.int (m:Int))=some (yG (R.getD m [])):=vy (by rw [cP,C]; rfl)
  obtain ⟨u,s,q,e⟩:=Jb (ts:=ts) z I (.fr (.tup (R.map yG))) (.ol (acc.map yG)) (R.getD k []) (R.getD m []) [] c b a (by rw [lk]; simp; omega)
  rw [aP,a_] at e
  obtain ⟨o,p,g,i,h,y⟩:=Ja (ts:=ts) H z L x l (acc++[g_ (kK (zb ts m k)) (R.getD k []) (R.getD m [])]) (.fr (.int (k:Int))) (.ol ((g_ (kK (zb ts m k)) (R.getD k []) (R.getD m [])).map gD)) u s q (λj J=>A j (aX _ J)) (by rw [aH,bX]; omega)
  refine ⟨o,p,g,i,h,?_⟩
  have B:0<=sizeLine:=dm _
  have hz:(acc.map yG).length < sizeLine:=by rw [az]; exact yQ (by omega)
  have w:∀ r:List Gd,yG r=.tup (r.map gD):=λ_=>rfl
  rw [au,z9]
  simp only [yL,ai,aV,aT]
  have body:A3 [.fr (vh ts n),.fr (.tup (R.map yG)),.fr (.int (m:Int)),.ol (acc.map yG),.fr (.int (k:Int)),d,c,b,a]=some (.nx [.fr (vh ts n),.fr (.tup (R.map yG)),.fr (.int (m:Int)),.ol ((acc++[g_ (kK (zb ts m k)) (R.getD k []) (R.getD m [])]).map yG),.fr (.int (k:Int)),.ol ((g_ (kK (zb ts m k)) (R.getD k []) (R.getD m [])).map gD),u,s,q]):=by
   unfold A3
   rw [zy (F:=Kf 5 _),uy]
   simp only [wq,zr,ai,aE,if_pos B,aV,aT]
   rw [zy (F:=Vf _ _ _),xY]
   have it:W7 (zt ay (vF 1) (vF 4)) (zt ay (vF 1) (vF 2)) [.fr (vh ts n),.fr (.tup (R.map yG)),.fr (.int (m:Int)),.ol (acc.map yG),.fr (.int (k:Int)),.ol [],c,b,a]=some (Yu ((R.getD k []).map gD) ((R.getD m []).map gD)):=by
    simp only [kP,zF,zx,yh,aq,aB,ai,G,E,w,KM]
   rw [it,ai,e]
   have td:∀ ds:List D,xO [.lst ds]=some (.tup ds):=λ_=>rfl
   simp only [ai,wH,zD,zj,zr,Ca,aq,aB,td,if_pos hz,aV,aT,bN,au,aP,w]
  rw [body]
  show z9 (zS 4) A3 _ _=_
  rw [b9,nG] at y
  exact y
def GI (ts) (a:aj n w) (b:m < n) (c:k < n):g_ (kK (zb ts m k)) (zO (zb ts) w (zL n k)) (zO (zb ts) w (zL n m))=zO (zb ts) (w++[m]) (zL n k):=by
 rw [YZ ts a b c]
 unfold YR bG
 rw [List.zipWith_map_right]
 congr 1
 funext x y
 have:yd (yt (zb ts m k)) y=yt (yd (zb ts m k) y):=by
  unfold yd yt
  refine IA ?_ ?_ <;> dsimp only <;> grind
 rw [this]
 unfold kK yz yt
 refine IA ?_ ?_ <;> dsimp only <;> omega
def Uo (o:n<=40) (j:aj n w) (b:m < n):ub [vh ts n,.tup ((zp ts n w).map yG),.int (m:Int)]=some (.tup ((zp ts n (w++[m])).map yG)):=by
 have c:(zp ts n w).length=n:=by unfold zp; rw [az,fW]
 have i:∀ r∈zp ts n w,r.length=n:=λr l=>by
  obtain ⟨k,_,rfl⟩:=aR.mp l
  rw [zu,zc]
 obtain ⟨x,v,u,s,q,e⟩:=Ja (ts:=ts) o b c i (aw n) [] .no .no .no .no .no (λk a=>bT.mp a) (by rw [fW]; simp; omega)
 rw [aP,a_] at e
 have p:(aw n).map (λk=>g_ (kK (zb ts m k)) ((zp ts n w).getD k []) ((zp ts n w).getD m []))=zp ts n (w++[m]):=by
  have d:∀ k,k < n->(zp ts n w).getD k []=zO (zb ts) w (zL n k):=λk a=>by
   unfold zp
   rw [aW,cP,g4f a]
   rfl
  show _=(aw n).map λk=>zO (zb ts) (w++[m]) (zL n k)
  refine fx λk a=>?_
  rw [d k (bT.mp a),d m b]
  exact GI ts j b (bT.mp a)
 rw [p] at e
 have f:0<=sizeLine:=dm _
 have h:kX [.tup ((zp ts n w).map yG)]=some (.int (n:Int)):=by rw [<- c]; simp [c]
 have g:vG [.int (n:Int)]=some ((aw n).map λ(k:Nat)=>D.int (k:Int)):=by
  rw [xC (by omega) (by omega),xZ,qI]
 have td:∀ ds:List D,xO [.lst ds]=some (.tup ds):=λ_=>rfl
 unfold A3 A4 at e
 simp only [ub,kl,z5,zB,au,aP,ao,aE,Nat.reduceAdd,Nat.reduceSub,aF,bz,a_]
 rw [zy (F:=Kf 3 _),uy]
 simp only [wq,zr,ai,aE,if_pos f,aV,aT]
 rw [zy (F:=Vf _ _ _),xY]
 simp only [qC,zD,zj,zr,yh,aq,aB,ai,h,g]
 rw [e]
 simp only [ai,yc,zD,zj,zr,Ca,aq,aB,td,yq]
def k3 (R:List (List Gd)):KTy 3:=dC kR R
def NY (R):hW 3 (.tup (R.map yG))=some (k3 R):=by
 have:∀ l:List (List Gd),dC (fF 2) (k3 l)=l.map yG:=λl=>by
  induction l with
  | nil=>rfl
  | cons x l a=>exact (congrArg (· :: dC (fF 2) (k3 l)) (zdw x)).trans (congrArg (yG x :: ·) a)
 have e:D.tup (R.map yG)=fF 3 (k3 R):=congrArg D.tup (this R).symm
 rw [e]
 exact Mn 3 (k3 R)
def SX (h:k3 R=k3 R'):R=R':=by
 unfold k3 at h
 exact (List.map_inj_right λx y e=>SW e).mp h
section
variable {ts:List T3} {n:Nat}
def YY  {C:List (List Nat)}:k3 (zp ts n w)∈C.map (λv=>k3 (zp ts n v))↔zp ts n w∈C.map (zp ts n):=by
 rw [aR,aR]
 exact ⟨λ⟨x,a,e⟩=>⟨x,a,SX e⟩,λ⟨x,a,e⟩=>⟨x,a,by rw [e]⟩⟩
def zcr {i j:Nat} (b:ρ[i]? = some (.oX 3 ks)) (a:f ρ=some (.tup (R.map yG))):JC i f ρ=some (!decide (k3 R∈ks)):=by
 rw [MI,a,ai,b]
 show (if 2<=3 then (hW 3 (.tup (R.map yG))).bind λk=>some (!decide (k∈ks)) else none)=_
 rw [NY]
 rfl
def zcm (c:ρ[i]? = some (.oX 3 ks)) (b:f ρ=some (.tup (R.map yG))) (hz:ks.length < sizeLine) (a:k3 R∉ks):WI i f (cF (.bl true)) ρ=some (.nx (ρ.set i (.oX 3 (ks++[k3 R])))):=by
 rw [MH,xR,ai,b,ai,c]
 show (if 2<=3/\ks.length < sizeLine then (hW 3 (.tup (R.map yG))).bind λk=>some (Out.nx (ρ.set i (.oX 3 (if k∈ks then ks else ks++[k])))) else none)=_
 rw [NY,if_pos ⟨by decide,hz⟩,ai,if_neg a]
def mY (ts:List T3) (n:Nat) (w:List Nat):D:=.tup [zR w,.tup ((zp ts n w).map yG)]
noncomputable def nY:FS:=(ud (qu 8 (yo ub (zf (vF 1) (zf (zt ay (zt ay (vR 4) (vF 6)) (cF (.int 1))) (zf (vF 7) yb))))) (dh (JC 5 (vF 8)) (ud (WI 5 (vF 8) (cF (.bl true))) (vQ 4 (tupF (zf (zt X9 (zt ay (zt ay (vR 4) (vF 6)) (cF (.int 0))) (tupF (zf (vF 7) yb))) (zf (vF 8) yb))))) eF))
abbrev fA (ts:List T3) (n:Nat) (a2 a3:Slot) (C:List (List Nat)) (p:Nat) (b a:Slot):bj:=[.fr (ze n ts),.fr (vh ts n),a2,a3,.ol (C.map (mY ts n)),.oX 3 (C.map λv=>k3 (zp ts n v)),.fr (.int (p:Int)),b,a]
def Wk (a:w.length<=90) (i:Nat):X9 (zR w) (.tup [.int (i:Int)])=some (zR (w++[i])):=by
 unfold X9 zR
 dsimp only
 rw [if_pos (by rw [az,bX]; exact bb (by omega)),bN]
 rfl
def TZ (C:List (List Nat)):Prop:=∀ (q:Nat) (w:List Nat),C[q]? = some w->w.length<=q
theorem XN (G:n<=4):∀ l C h b,(∀ i∈l,i < n)->(∀ v∈C,aj n v)->TZ C->C[p]? = some w->C.length+l.length<=80 →
  TZ (BB ts n w C l)/\∃ P O,z9 (zS 7) nY (l.map λ(i:Nat)=>D.int (i:Int)) (fA ts n a2 a3 C p h b)=some (.nx (fA ts n a2 a3 (BB ts n w C l) p P O))
 | [],C,h,b,_,_,g,_,_=>⟨g,h,b,rfl⟩
 | i :: l,C,h,b,H,y,g,d,hlen=>by
  rw [ao] at hlen
  have hi:=H i aN
  have I:∀ j∈l,j < n:=λj M=>H j (aX _ M)
  have E:=y w (gN d)
  have Q:p < C.length:=(dw.mp d).1
  have T:=g p w d
  have S:=Uo (ts:=ts) (by omega:n<=40) E hi
  have B:ay (.lst (C.map (mY ts n))) (.int (p:Int))=some (mY ts n w):=vy (by rw [cP,d]; rfl)
  have L:ay (mY ts n w) (.int 0)=some (zR w):=eT
  have i1:ay (mY ts n w) (.int 1)=some (.tup ((zp ts n w).map yG)):=gX
  have st:∀ F:FS,ud (qu 8 (yo ub (zf (vF 1) (zf (zt ay (zt ay (vR 4) (vF 6)) (cF (.int 1))) (zf (vF 7) yb))))) F (fA ts n a2 a3 C p (.fr (.int (i:Int))) b)=F (fA ts n a2 a3 C p (.fr (.int (i:Int))) (.fr (.tup ((zp ts n (w++[i])).map yG)))):=λF=>by
   rw [zy,yH]
   simp only [zD,zj,zr,zx,yh,Ca,xR,aq,aB,ai,B,i1,S,aV,aT]
  have A:=zcr (i:=5) (j:=8) (ρ:=fA ts n a2 a3 C p (.fr (.int (i:Int))) (.fr (.tup ((zp ts n (w++[i])).map yG)))) (R:=zp ts n (w++[i])) (f:=vF 8) rfl rfl
  unfold BB
  rw [au,z9]
  simp only [yL,ai,aV,aT]
  by_cases c:zp ts n (w++[i])∈C.map (zp ts n)
  .rw [if_pos c]
   obtain ⟨r,o,m,e⟩:=XN G l C (.fr (.int (i:Int))) (.fr (.tup ((zp ts n (w++[i])).map yG))) I y g d (by omega)
   refine ⟨r,o,m,?_⟩
   have body:nY (fA ts n a2 a3 C p (.fr (.int (i:Int))) b)=some (.nx (fA ts n a2 a3 C p (.fr (.int (i:Int))) (.fr (.tup ((zp ts n (w++[i])).map yG))))):=by
    unfold nY
    rw [st,y6,A,decide_eq_true (YY.mpr c)]
    rfl
   rw [body]
   exact e
  .rw [if_neg c]
   have x:∀ v∈C++[w++[i]],aj n v:=λv a=>(bE.mp a).elim (y v) λz=>by
    rw [hJ] at z
    subst z
    exact E.app (aj.one hi)
   have u:TZ (C++[w++[i]]):=λq v a=>by
    by_cases z:q < C.length
    .rw [fE z] at a
     exact g q v a
    .rw [fX (by omega)] at a
     have:q - C.length=0:=by
      cases hd:q - C.length with
      | zero=>rfl
      | succ k=>rw [hd] at a; cases a
     rw [this] at a
     cases a
     rw [aH,bX]
     omega
   obtain ⟨r,o,m,e⟩:=XN G l (C++[w++[i]]) (.fr (.int (i:Int))) (.fr (.tup ((zp ts n (w++[i])).map yG))) I x u (by rw [fE Q]; exact d) (by rw [aH,bX]; omega)
   refine ⟨r,o,m,?_⟩
   have hz:(C.map (mY ts n)).length < sizeLine:=by rw [az]; exact yQ (by omega)
   have s:(C.map λv=>k3 (zp ts n v)).length < sizeLine:=by rw [az]; exact yQ (by omega)
   have J:=zcm (i:=5) (ρ:=fA ts n a2 a3 C p (.fr (.int (i:Int))) (.fr (.tup ((zp ts n (w++[i])).map yG)))) (R:=zp ts n (w++[i])) (f:=vF 8) rfl rfl s (λz=>c (YY.mp z))
   have ws:=Wk (w:=w) (by omega) i
   have z1:0+1<=sizeLine:=bb (by decide)
   have z2:0+1+1<=sizeLine:=bb (by decide)
   have body:nY (fA ts n a2 a3 C p (.fr (.int (i:Int))) b)=some (.nx (fA ts n a2 a3 (C++[w++[i]]) p (.fr (.int (i:Int))) (.fr (.tup ((zp ts n (w++[i])).map yG))))):=by
    unfold nY
    rw [st,y6,A,decide_eq_false (λz=>c (YY.mp z))]
    show (ud (WI 5 (vF 8) (cF (.bl true))) _) _=_
    rw [zy,J]
    simp only [aV,aT,ai,wH,ux,zj,zr,zx,yh,Ca,xR,aq,aB,B,L,ao,aE,if_pos z1,ws,if_pos z2,if_pos hz,fA,bN,au,aP]
    rfl
   rw [body]
   exact e
abbrev tw:FT:=(BM (aU (zt tu (vF 6) (yo kX (zf (vR 4) yb)))) (aU (zt leD (yo kX (zf (vR 4) yb)) (cF (.int 61)))))
noncomputable def rn:FS:=(ud (Vf (MR (zf (zt ay (vF 0) (cF (.int 0))) yb)) (zS 7) nY) (qu 6 (zt X9 (vF 6) (cF (.int 1)))))
theorem Ui (r:n<=4) (a2 a3):∀ k N C p b a,(∀ v∈C,aj n v)->(C.map (zp ts n)).Nodup->TZ C->C.length<=65->62<=k+p->k < N →
  TZ (uL ts n k C p)/\∃ j L J,yF tw rn N (fA ts n a2 a3 C p b a)=some (.nx (fA ts n a2 a3 (uL ts n k C p) j L J))
 | k,0,C,p,b,a,_,_,_,_,_,h=>by omega
 | k,N+1,C,p,b,a,f,nd,d,hlen,R,S=>by
  have s:tw (fA ts n a2 a3 C p b a)=some (decide (p < C.length)&&decide (C.length<=61)):=by
   have P:decide ((p:Int) < (C.length:Int))=decide (p < C.length):=by simp
   have O:decide ((C.length:Int)<=61)=decide (C.length<=61):=by rw [decide_eq_decide]; omega
   simp only [tw,Ry,xb,zx,yh,zD,zj,zr,Ca,xR,aq,aB,ai,YN,zcc,zdg,az,P,O]
   cases decide (p < C.length) <;> rfl
  have stop:(decide (p < C.length)&&decide (C.length<=61))=false->yF tw rn (N+1) (fA ts n a2 a3 C p b a)=some (.nx (fA ts n a2 a3 C p b a)):=λz=>by
   unfold yF
   rw [s,z]
   rfl
  cases k with
  | zero =>
   unfold uL
   refine ⟨d,p,b,a,stop ?_⟩
   by_cases c:p < C.length
   .rw [decide_eq_false (show ¬ C.length<=61 by omega),Bool.and_false]
   .rw [decide_eq_false c,Bool.false_and]
  | succ k =>
   unfold uL
   cases e:C[p]? with
   | none =>
    have:=g3p.mp e
    exact ⟨d,p,b,a,stop (by rw [decide_eq_false (by omega),Bool.false_and])⟩
   | some w =>
    have Q:p < C.length:=(dw.mp e).1
    dsimp only
    by_cases c:C.length<=61
    .rw [if_pos c]
     have q:∀ i∈aw n,i < n:=λi hi=>bT.mp hi
     obtain ⟨X,g,y,x,u,_⟩:=qw (ts:=ts) (f w (gN e)) (aw n) C q f nd
     rw [fW] at y
     obtain ⟨F,o,m,M⟩:=XN (ts:=ts) r (a2:=a2) (a3:=a3) (aw n) C b a q f d e (by rw [fW]; omega)
     have body:rn (fA ts n a2 a3 C p b a)=some (.nx (fA ts n a2 a3 (BB ts n w C (aw n)) (p+1) o m)):=by
      have I:ay (ze n ts) (.int 0)=some (.int n):=by unfold ze; exact eT
      have E:vG [.int (n:Int)]=some ((aw n).map λ(k:Nat)=>D.int (k:Int)):=by
       rw [xC (by omega) (by omega),xZ,qI]
      unfold rn
      rw [zy,xY]
      simp only [qC,zj,zr,zx,yh,xR,aq,ai,I,E]
      rw [M]
      simp only [ai,yH,zx,yh,xR,aq,aB,WD,aV,aT]
      rfl
     obtain ⟨l,j,B,A,G⟩:=Ui r a2 a3 k N (BB ts n w C (aw n)) (p+1) o m (by rw [g]; exact λv H=>(bE.mp H).elim (f v) (x v)) (by rw [g]; exact u) F (by rw [g,aH]; omega) (by omega) (by omega)
     refine ⟨l,j,B,A,?_⟩
     unfold yF
     rw [s,decide_eq_true Q,decide_eq_true c]
     show (rn _).bind _=_
     rw [body]
     exact G
    .rw [if_neg c]
     exact ⟨d,p,b,a,stop (by rw [decide_eq_false c,Bool.and_false])⟩
end
section
variable {ts:List T3} {n:Nat}
noncomputable def s7B:FS:=(vQ 2 (yo xO (zf (xD (jI 1 [3] (MR (zf (zt ay (vF 0) (cF (.int 0))) yb)) (zS 0) eQ (tupF (zf (yo PX (zf (zt bY (vF 1) (vF 0)) yb)) (zf (cF (.int 0)) yb))))) yb)))
theorem KZ (n) (ts:List T3) (r:n<=6) (a1 a4 m h g d:Slot):∀ (l:List Nat) (C) (a),C.length+l.length<=90->∃ b,z9 (zS 3) s7B (l.map λ(i:Nat)=>D.int (i:Int)) [.fr (ze n ts),a1,.ol (C.map yG),a,a4,m,h,g,d]=some (.nx [.fr (ze n ts),a1,.ol ((C++l.map (zL n)).map yG),b,a4,m,h,g,d])
 | [],C,a,_=>⟨a,by rw [aP,aP,bx]; rfl⟩
 | i :: l,C,a,s=>by
  rw [ao] at s
  obtain ⟨b,e⟩:=KZ n ts r a1 a4 m h g d l (C++[zL n i]) (.fr (.int (i:Int))) (by rw [aH,bX]; omega)
  refine ⟨b,?_⟩
  have u:ay (ze n ts) (.int 0)=some (.int n):=by unfold ze; exact eT
  have q:vG [.int (n:Int)]=some ((idx n).map D.int):=by rw [xC (by omega) (by omega),xZ]
  have hz:((idx n).map D.int).length<=sizeLine:=by rw [az,uj]; exact bb (by omega)
  have p:(C.map yG).length < sizeLine:=by rw [az]; exact yQ (by omega)
  have z2:0+1+1<=sizeLine:=bb (by decide)
  have o:=Yf (f:=tupF (zf (yo PX (zf (zt bY (vF 1) (vF 0)) yb)) (zf (cF (.int 0)) yb))) (C:=[.fr (.int (i:Int))]) (ι:=D.int) (φ:=λj=>gD (if j=(i:Int) then (1,0) else (0,0))) (idx n) .no (λj _=>by
   simp only [ux,zD,zj,zr,zx,yh,xR,aq,aB,ai,WC,Rx,ao,aE,if_pos z2]
   by_cases c:j=(i:Int)
   .rw [if_pos c,decide_eq_true c.symm]; rfl
   .rw [if_neg c,decide_eq_false (λz=>c z.symm)]; rfl)
  have es:((idx n).map λj=>gD (if j=(i:Int) then (1,0) else (0,0)))=(zL n i).map gD:=by
   rw [qI]
   unfold zL
   rw [bM]
   refine fx λk _=>?_
   show gD _=gD _
   congr 1
   by_cases c:k=i
   .rw [if_pos (by omega)]
    exact (if_pos c).symm
   .rw [if_neg (by omega)]
    exact (if_neg c).symm
  rw [es] at o
  have tp:xO [.lst ((zL n i).map gD)]=some (yG (zL n i)):=rfl
  rw [au,z9]
  simp only [yL,ai,aV,aT,s7B,wH,zD,zj,zr,zM,xj,qC,zx,yh,xR,aq,aB,u,q,if_pos hz,xA,vV,au,aP,aF,bz,a_,o,b8,tp,if_pos p]
  unfold s7B at e
  rw [b9,nG,bN (l₁:=C) (l₂:=[zL n i])] at e
  exact e
def Uh (hg:zT ts) (j:n<=4):qh [ze n ts]=some (.lst ((uL ts n 100 [[]] 0).map zR)):=by
 obtain ⟨d,e1⟩:=KZ n ts (by omega) (.fr (vh ts n)) .no .no .no .no .no (aw n) [] .no (by rw [fW]; simp; omega)
 have m:(aw n).map (zL n)=zp ts n []:=rfl
 rw [aP,a_,m] at e1
 obtain ⟨_,p,s,r,e2⟩:=Ui (ts:=ts) j (.ol ((zp ts n []).map yG)) d 100 100000 [[]] 0 .no .no (λv a=>by rw [hJ] at a; subst a; exact λi h=>(by cases h)) (by simp) (λq w h=>by
  cases q with
  | zero=>cases h; simp
  | succ q=>cases h) (by simp) (by omega) (by omega)
 have g:=JI n hg (by omega)
 have c:0<=sizeLine:=dm _
 have z1:0+1<=sizeLine:=bb (by decide)
 have z2:0+1+1<=sizeLine:=bb (by decide)
 have l:ay (ze n ts) (.int 0)=some (.int n):=by unfold ze; exact eT
 have e:vG [.int (n:Int)]=some ((aw n).map λ(k:Nat)=>D.int (k:Int)):=by
  rw [xC (by omega) (by omega),xZ,qI]
 have td:∀ ds:List D,xO [.lst ds]=some (.tup ds):=λ_=>rfl
 obtain ⟨_,nd,len,_⟩:=jl (ts:=ts) (n:=n) 100 [[]] 0 (λv a=>by rw [hJ] at a; subst a; exact λi h=>(by cases h)) (by simp) (by simp) (λq w u=>by omega) (by omega) (by simp; omega)
 have hz:((uL ts n 100 [[]] 0).map (mY ts n)).length<=sizeLine:=by rw [az]; exact bb (by omega)
 have b:=Q1 (ft:=eQ) (f:=vF 0) (C:=[]) (ι:=zR) (κ:=λw=>.tup ((zp ts n w).map yG)) (q:=λ_=>true) (φ:=zR) (uL ts n 100 [[]] 0) .no .no (λ_ _=>rfl) (λ_ _ _=>rfl)
 rw [g4g.mpr (λ_ _=>rfl)] at b
 have b:yN (kH 2 (yB (zS 0) (yB (zS 1) ZO))) eQ (vF 0) ((uL ts n 100 [[]] 0).map (mY ts n)) [.no,.no]=some ((uL ts n 100 [[]] 0).map zR):=b
 unfold s7B at e1
 unfold rn nY tw at e2
 simp only [qh,kj,z5,zB,au,aP,ao,aE,Nat.reduceAdd,Nat.reduceSub,aF,bz,a_]
 rw [zy (F:=qu 1 _),yH]
 simp only [zD,zj,zr,yh,aq,ai,g,aV,aT]
 rw [zy (F:=Kf 2 _),uy]
 simp only [wq,zr,ai,aE,if_pos c,aV,aT]
 rw [zy (F:=Vf _ _ _),xY]
 simp only [qC,zj,zr,zx,yh,xR,aq,aB,ai,l,e]
 rw [e1]
 simp only [ai]
 rw [zy (F:=Kf 4 _),uy]
 simp only [wq,ux,zD,zj,zr,Ca,aq,aB,ai,td,ao,aE,if_pos c,if_pos z1,if_pos z2,aV,aT]
 have o:∀ ρ:bj,yo xO (zf (vR 2) yb) ρ=some (.tup ((zp ts n []).map yG))->Yb 5 2 (yo xO (zf (vR 2) yb)) ρ=some (.nx (ρ.set 5 (.oX 3 [k3 (zp ts n [])]))):=λρ h=>by
  rw [KY,h,ai,if_pos (by decide)]
  show ((hW 3 (.tup ((zp ts n []).map yG))).bind λk=>some (Out.nx (ρ.set 5 (.oX 3 [k]))))=_
  rw [NY]
  rfl
 rw [zy (F:=Yb 5 2 _),o _ rfl]
 simp only [ai,aV,aT]
 rw [zy (F:=qu 6 _),yH]
 simp only [xR,ai,aV,aT]
 rw [zy (F:=yF _ _ _)]
 have e2:yF _ _ 100000 [.fr (ze n ts),.fr (vh ts n),.ol ((zp ts n []).map yG),d,.ol [.tup [.tup [],.tup ((zp ts n []).map yG)]],.oX 3 [k3 (zp ts n [])],.fr (.int 0),.no,.no]=_:=e2
 rw [e2]
 simp only [ai,WB,KU,aq,aB,aV,aT,yc,zM,xj,zF,yh,xh,if_pos hz,xA,aP,aF,bz,a_,b,b8,yq]
end
section
variable {ts:List T3} {n:Nat}
def gc (ts:List T3) (n:Nat) (w:List Nat):D:=.tup [zR w,yT (zp ts n w)]
noncomputable def l5:FS:=(dh (aU (yo uc (zf (zt ay (vF 5) (vF 6)) yb))) (ud (qu 7 (yo yg (zf (vF 0) (zf (vF 5) (zf (vF 6) yb))))) (dh (JC 2 (yo xO (zf (vF 7) yb))) (ud (WI 2 (yo xO (zf (vF 7) yb)) (cF (.bl true))) (vQ 3 (tupF (zf (zt X9 (vF 4) (tupF (zf (vF 6) yb))) (zf (vF 7) yb))))) eF)) eF)
abbrev Ws (ts:List T3) (n:Nat) (a1:Slot) (C:List (List Nat)) (d c b a:Slot):bj:=[.fr (ze n ts),a1,.oX 3 (C.map λv=>k3 (zp ts n v)),.ol (C.map (gc ts n)),d,c,b,a]
theorem kW (hg:zT ts) (m:n<=4) (h:aj n w) (g:w.length<=90):∀ l C f a,(∀ i∈l,i < n)->C.length+l.length<=80 →
  ∃ y A,z9 (zS 6) l5 (l.map λ(i:Nat)=>D.int (i:Int)) (Ws ts n a1 C (.fr (zR w)) (.fr (yT (zp ts n w))) f a)=some (.nx (Ws ts n a1 (eE ts n w C l) (.fr (zR w)) (.fr (yT (zp ts n w))) y A))
 | [],C,f,a,_,_=>⟨f,a,rfl⟩
 | i :: l,C,f,a,q,hlen=>by
  rw [ao] at hlen
  have hi:=q i aN
  have o:∀ j∈l,j < n:=λj x=>q j (aX _ x)
  have u:ay (yT (zp ts n w)) (.int (i:Int))=some (yG (zO (zb ts) w (zL n i))):=G0 ts w hi
  have E:=BC (r:=zO (zb ts) w (zL n i)) (by rw [zu,zc]; omega) (NM ts (by omega) (by omega) i)
  have B:yg [ze n ts,yT (zp ts n w),.int (i:Int)]=some (yT (zp ts n (w++[i]))):=J6 n hg (by omega) h hi
  have tb:aU (yo uc (zf (zt ay (vF 5) (vF 6)) yb)) (Ws ts n a1 C (.fr (zR w)) (.fr (yT (zp ts n w))) (.fr (.int (i:Int))) a)=some (J8 (zO (zb ts) w (zL n i))):=by
   simp only [xb,zD,zj,zr,zx,yh,aq,aB,ai,u,E]
   rfl
  unfold eE
  rw [au,z9]
  simp only [yL,ai,aV,aT]
  by_cases ab:J8 (zO (zb ts) w (zL n i))=true
  .rw [if_pos ab]
   have st:∀ F:FS,ud (qu 7 (yo yg (zf (vF 0) (zf (vF 5) (zf (vF 6) yb))))) F (Ws ts n a1 C (.fr (zR w)) (.fr (yT (zp ts n w))) (.fr (.int (i:Int))) a)=F (Ws ts n a1 C (.fr (zR w)) (.fr (yT (zp ts n w))) (.fr (.int (i:Int))) (.fr (yT (zp ts n (w++[i]))))):=λF=>by
    rw [zy,yH]
    simp only [zD,zj,zr,yh,aq,aB,ai,B,aV,aT]
   have tv:yo xO (zf (vF 7) yb) (Ws ts n a1 C (.fr (zR w)) (.fr (yT (zp ts n w))) (.fr (.int (i:Int))) (.fr (yT (zp ts n (w++[i])))))=some (.tup ((zp ts n (w++[i])).map yG)):=rfl
   have p:=zcr (i:=2) (j:=7) (ks:=C.map λv=>k3 (zp ts n v)) rfl tv
   by_cases c:zp ts n (w++[i])∈C.map (zp ts n)
   .rw [if_pos c]
    obtain ⟨d,b,e⟩:=kW hg m (a1:=a1) h g l C (.fr (.int (i:Int))) (.fr (yT (zp ts n (w++[i])))) o (by omega)
    refine ⟨d,b,?_⟩
    have body:l5 (Ws ts n a1 C (.fr (zR w)) (.fr (yT (zp ts n w))) (.fr (.int (i:Int))) a)=some (.nx (Ws ts n a1 C (.fr (zR w)) (.fr (yT (zp ts n w))) (.fr (.int (i:Int))) (.fr (yT (zp ts n (w++[i])))))):=by
     unfold l5
     rw [y6,tb,ab,ai,if_pos rfl,st,y6,p,decide_eq_true (YY.mpr c)]
     rfl
    rw [body]
    exact e
   .rw [if_neg c]
    obtain ⟨d,b,e⟩:=kW hg m (a1:=a1) h g l (C++[w++[i]]) (.fr (.int (i:Int))) (.fr (yT (zp ts n (w++[i])))) o (by rw [aH,bX]; omega)
    refine ⟨d,b,?_⟩
    have hz:(C.map (gc ts n)).length < sizeLine:=by rw [az]; exact yQ (by omega)
    have k:(C.map λv=>k3 (zp ts n v)).length < sizeLine:=by rw [az]; exact yQ (by omega)
    have s:=zcm (i:=2) (ks:=C.map λv=>k3 (zp ts n v)) rfl tv k (λz=>c (YY.mp z))
    have ws:=Wk g i
    have z1:0+1<=sizeLine:=bb (by decide)
    have z2:0+1+1<=sizeLine:=bb (by decide)
    have body:l5 (Ws ts n a1 C (.fr (zR w)) (.fr (yT (zp ts n w))) (.fr (.int (i:Int))) a)=some (.nx (Ws ts n a1 (C++[w++[i]]) (.fr (zR w)) (.fr (yT (zp ts n w))) (.fr (.int (i:Int))) (.fr (yT (zp ts n (w++[i])))))):=by
     unfold l5
     rw [y6,tb,ab,ai,if_pos rfl,st,y6,p,decide_eq_false (λz=>c (YY.mp z))]
     show (ud (WI 2 (yo xO (zf (vF 7) yb)) (cF (.bl true))) _) _=_
     rw [zy,s]
     simp only [aV,aT,ai,wH,ux,zj,zr,zx,yh,aq,aB,ao,aE,if_pos z1,ws,if_pos z2,if_pos hz,Ws,bN,au,aP]
     rfl
    rw [body]
    exact e
  .rw [if_neg ab]
   obtain ⟨d,b,e⟩:=kW hg m (a1:=a1) h g l C (.fr (.int (i:Int))) a o (by omega)
   refine ⟨d,b,?_⟩
   have body:l5 (Ws ts n a1 C (.fr (zR w)) (.fr (yT (zp ts n w))) (.fr (.int (i:Int))) a)=some (.nx (Ws ts n a1 C (.fr (zR w)) (.fr (yT (zp ts n w))) (.fr (.int (i:Int))) a)):=by
    unfold l5
    rw [y6,tb,ai,if_neg ab]
    rfl
   rw [body]
   exact e
theorem Kl (w):∀ l C,C.length<=(eE ts n w C l).length
 | [],C=>aM _
 | i :: l,C=>by
  unfold eE
  refine fV ?_ (Kl w l _)
  split
  .split
   .exact aM _
   .rw [aH]; omega
  .exact aM _
theorem Qt:∀ L C,C.length<=(ui ts n C L).length
 | [],C=>aM _
 | w :: L,C=>fV (Kl w (aw n) C) (Qt L _)
noncomputable def loO:FS:=(Vf (MR (zf (zt ay (vF 0) (cF (.int 0))) yb)) (zS 6) l5)
theorem Qu (hg:zT ts) (j:n<=4):∀ L C f d c b,(∀ w∈L,aj n w/\w.length<=90)->(ui ts n C L).length<=60 →
  ∃ E F A B,z9 (kH 2 (yB (zS 4) (yB (zS 5) ZO))) loO (L.map (gc ts n)) (Ws ts n a1 C f d c b)=some (.nx (Ws ts n a1 (ui ts n C L) E F A B))
 | [],C,f,d,c,b,_,_=>⟨f,d,c,b,rfl⟩
 | w :: L,C,f,d,c,b,l,a=>by
  obtain ⟨x,s⟩:=l w aN
  have a:(ui ts n (eE ts n w C (aw n)) L).length<=60:=a
  have H:=Qt (ts:=ts) (n:=n) L (eE ts n w C (aw n))
  have G:=Kl (ts:=ts) (n:=n) w (aw n) C
  obtain ⟨h,g,e⟩:=kW hg j (a1:=a1) x s (aw n) C c b (λi hi=>bT.mp hi) (by rw [fW]; omega)
  obtain ⟨q,p,o,m,u⟩:=Qu hg j (a1:=a1) L (eE ts n w C (aw n)) (.fr (zR w)) (.fr (yT (zp ts n w))) h g (λv y=>l v (aX _ y)) a
  refine ⟨q,p,o,m,?_⟩
  have z:ay (ze n ts) (.int 0)=some (.int n):=by unfold ze; exact eT
  have r:vG [.int (n:Int)]=some ((aw n).map λ(k:Nat)=>D.int (k:Int)):=by
   rw [xC (by omega) (by omega),xZ,qI]
  have body:loO (Ws ts n a1 C (.fr (zR w)) (.fr (yT (zp ts n w))) c b)=some (.nx (Ws ts n a1 (eE ts n w C (aw n)) (.fr (zR w)) (.fr (yT (zp ts n w))) h g)):=by
   unfold loO
   rw [xY]
   simp only [qC,zj,zr,zx,yh,xR,aq,ai,z,r]
   exact e
  rw [au,z9]
  simp only [gc,qB,vJ,yL,qD,ao,aE,Nat.reduceAdd,if_true,aV,aT,ai]
  rw [body]
  exact u
def JJ (hg:zT ts) (c:n<=4) (d:∀ w∈L,aj n w/\w.length<=90) (a:(ui ts n [] L).length<=60):xl [ze n ts,.lst (L.map (gc ts n))]=some (.lst ((ui ts n [] L).map (gc ts n))):=by
 obtain ⟨i,h,g,f,e⟩:=Qu hg c (a1:=.fr (.lst (L.map (gc ts n)))) L [] .no .no .no .no d a
 have b:0<=sizeLine:=dm _
 unfold loO l5 at e
 simp only [xl,vB,z5,zB,au,aP,ao,aE,Nat.reduceAdd,Nat.reduceSub,aF,bz,a_]
 rw [zy (F:=HG 2 3),Cd]
 simp only [ai,aV,aT]
 rw [zy (F:=Kf 3 _),uy]
 simp only [wq,zr,ai,aE,if_pos b,aV,aT]
 rw [zy (F:=Vf _ _ _),xY]
 simp only [zF,yh,aq,aB,ai,xh]
 have e:z9 _ _ (L.map (gc ts n)) [.fr (ze n ts),.fr (.lst (L.map (gc ts n))),.oX 3 [],.ol [],.no,.no,.no,.no]=_:=e
 rw [e]
 simp only [ai,WB,KU,aq,aB,aV,aT,yc,yh,yq]
end
abbrev ZF:List (Str×D):=[("e6",(.tup [(.int 2),(.int 5),(.int 6),(.int 8),(.int 9),(.int 12)])),("f4",(.tup [(.int 2),(.int 6),(.int 8),(.int 12)])),("h3",(.tup [(.int 2),(.int 6),(.int 10)])),("h4",(.tup [(.int 2),(.int 12),(.int 20),(.int 30)])),("i5",(.tup [(.int 2),(.int 5)])),("i6",(.tup [(.int 2),(.int 6)]))]
def D0 (m) (h:ZF.lookup k=some (.tup (l.map D.int))):zK [.str k,.int m]=some (lD l):=by
 simp only [zK,yy,z5,zB,au,aP,ao,aE,Nat.reduceAdd,Nat.reduceSub,aF,bx,bz,a_,zy,y6,Qe,yh,aq,ai,h,Option.isSome_some,if_true,yc,zM,KR,zj,zr,ZC,MJ,b8,yq]
def zbu (h:ZF.lookup k=none) (h1:Txt.startswith k "a"=true) (b:0<=m) (h2:m<=9) (a:y7 2 (m+2)=l.map D.int):zK [.str k,.int m]=some (lD l):=by
 have c:(-(2 ^ 62)<=(2:Int)/\(2:Int) < 2 ^ 62 /\ -(2 ^ 62)<=m+2/\m+2 < 2 ^ 62)/\(m+2 - 2).toNat<=1000000:=by
  refine ⟨⟨by decide,by decide,?_,?_⟩,?_⟩ <;> omega
 simp only [zK,yy,z5,zB,au,aP,ao,aE,Nat.reduceAdd,Nat.reduceSub,aF,bx,bz,a_,zy,y6,Qe,yh,aq,aB,ai,h,Option.isSome_none,cS,if_false,uB,xb,zx,xR,MF,h1,if_true,yc,zM,RD,zj,zr,WD,if_pos c,a,b8,yq]
def zbt (h:ZF.lookup k=none) (h1:Txt.startswith k "a"=false) (h2:Txt.startswith k "b"=true) (e:0<=m) (d:m<=9) (c:Nn 2 (2 * m+1) 2=true) (b:Xm 2 2 (Ek 2 (2 * m+1) 2).toNat=l.map D.int):zK [.str k,.int m]=some (lD l):=by
 have a:JD (.int 2) (.int m)=some (.int (2 * m)):=PV (by decide) (by decide)
 simp only [zK,yy,z5,zB,au,aP,ao,aE,Nat.reduceAdd,Nat.reduceSub,aF,bx,bz,a_,zy,y6,Qe,yh,aq,aB,ai,h,Option.isSome_none,cS,if_false,uB,xb,zx,xR,MF,h1,h2,if_true,yc,zM,KN,zj,zr,a,WD,if_pos c,b,b8,yq]
def zbs (h:ZF.lookup k=none) (h1:Txt.startswith k "a"=false) (h2:Txt.startswith k "b"=false) (f:0<=m) (e:m<=9) (c:Nn 2 (2 * m) 2=true) (b:Xm 2 2 (Ek 2 (2 * m) 2).toNat=l.map D.int) (d:l.length<=9):zK [.str k,.int m]=some (lD (l++[m])):=by
 have a:JD (.int 2) (.int m)=some (.int (2 * m)):=PV (by decide) (by decide)
 have z1:0+1<=sizeLine:=bb (by decide)
 have ad:X9 (.lst (l.map D.int)) (.lst [.int m])=some (lD (l++[m])):=by
  unfold X9
  dsimp only
  rw [if_pos (by rw [az,bX]; exact bb (by omega))]
  simp
 simp only [zK,yy,z5,zB,au,aP,ao,aE,Nat.reduceAdd,Nat.reduceSub,aF,bx,bz,a_,zy,y6,Qe,yh,aq,aB,ai,h,Option.isSome_none,cS,if_false,uB,xb,zx,xR,MF,h1,h2,if_true,yc,zM,KN,zj,zr,a,if_pos c,b,wq,if_pos z1,b8,ad,yq]
def eM:Kd->List Int
 | (1,m)=>(aw m).map λ(i:Nat)=>(i:Int)+2
 | (2,m)=>(aw m).map λ(i:Nat)=>2 * (i:Int)+2
 | (4,m)=>((aw (m - 1)).map λ(i:Nat)=>2 * (i:Int)+2)++[(m:Int)]
 | (5,6)=>[2,5,6,8,9,12]
 | (6,4)=>[2,6,8,12]
 | (8,3)=>[2,6,10]
 | (8,4)=>[2,12,20,30]
 | (9,5)=>[2,5]
 | (9,6)=>[2,6]
 | _=>[]
def dgS (l:List Int):Int:=(l.map λd=>d - 1).sum
structure DgOk (k:Nat) (c:Kd):Prop where
 val:zK [kD c,.int (k:Int)]=some (lD (eM c))
 len:(eM c).length<=6
 txt:kT c≠"-"
def Uj (h:(ZF.lookup k).isSome=false):ZF.lookup k=none:=by
 cases e:ZF.lookup k with
 | none=>rfl
 | some d=>rw [e] at h; cases h
def P2 (m) (a:m<=6) (h:(ZF.lookup (kT (1,m))).isSome=false) (h1:Txt.startswith (kT (1,m)) "a"=true) (h2:kT (1,m)≠"-"):DgOk m (1,m) :=
 ⟨zbu (Uj h) h1 (by omega) (by omega) (by
  show y7 2 ((m:Int)+2)=((aw m).map λ(i:Nat)=>(i:Int)+2).map D.int
  unfold y7
  rw [bM,show ((m:Int)+2 - 2).toNat=m by omega]
  exact fx λi _=>congrArg D.int (show 2+(i:Int)=(i:Int)+2 by omega)),by show ((aw m).map _).length<=6; rw [az,fW]; exact a,h2⟩
def Tt (m) (c:m<=6) (h:(ZF.lookup (kT (2,m))).isSome=false) (h1:Txt.startswith (kT (2,m)) "a"=false) (d:Txt.startswith (kT (2,m)) "b"=true) (b:Nn 2 (2 * (m:Int)+1) 2=true) (a:(Ek 2 (2 * (m:Int)+1) 2).toNat=m) (h2:kT (2,m)≠"-"):DgOk m (2,m) :=
 ⟨zbt (Uj h) h1 d (by omega) (by omega) b (by
  show Xm 2 2 _=((aw m).map λ(i:Nat)=>2 * (i:Int)+2).map D.int
  unfold Xm
  rw [bM,a]
  exact fx λi _=>congrArg D.int (show 2+(i:Int) * 2=2 * (i:Int)+2 by omega)),by show ((aw m).map _).length<=6; rw [az,fW]; exact c,h2⟩
def zbr (m) (e:1<=m) (d:m<=6) (h:(ZF.lookup (kT (4,m))).isSome=false) (h1:Txt.startswith (kT (4,m)) "a"=false) (c:Txt.startswith (kT (4,m)) "b"=false) (b:Nn 2 (2 * (m:Int)) 2=true) (a:(Ek 2 (2 * (m:Int)) 2).toNat=m - 1) (h2:kT (4,m)≠"-"):DgOk m (4,m) :=
 ⟨zbs (l:=(aw (m - 1)).map λ(i:Nat)=>2 * (i:Int)+2) (Uj h) h1 c (by omega) (by omega) b (by
  unfold Xm
  rw [bM,a]
  exact fx λi _=>congrArg D.int (show 2+(i:Int) * 2=2 * (i:Int)+2 by omega)) (by rw [az,fW]; omega),by show (((aw (m - 1)).map _)++[(m:Int)]).length<=6; rw [aH,az,fW,bX]; omega,h2⟩
def P1 (e:kT c=t) (h:ZF.lookup t=some (.tup ((eM c).map D.int))) (h1:(eM c).length<=6) (h2:kT c≠"-"):DgOk k c:=⟨D0 _ (e ▸ h),h1,h2⟩
def Vn:List (Nat×Kd):=[(1,1,1),(2,1,2),(3,1,3),(4,1,4),(5,1,5),(6,1,6),(2,2,2),(3,2,3),(4,2,4),(5,2,5),(6,2,6),(4,4,4),(5,4,5),(6,4,6),(2,9,5),(2,9,6),(3,8,3),(4,8,4),(4,6,4),(6,5,6)]
def HP (h:(k,c)∈Vn):DgOk k c:=by
 unfold Vn at h
 simp only [aI,List.not_mem_nil,or_false] at h
 rcases h with h | h | h | h | h | h | h | h | h | h | h | h | h | h | h | h | h | h | h | h <;> cases h
 .exact P2 _ (by decide) (by decide +kernel) (by decide +kernel) (by decide +kernel)
 .exact P2 _ (by decide) (by decide +kernel) (by decide +kernel) (by decide +kernel)
 .exact P2 _ (by decide) (by decide +kernel) (by decide +kernel) (by decide +kernel)
 .exact P2 _ (by decide) (by decide +kernel) (by decide +kernel) (by decide +kernel)
 .exact P2 _ (by decide) (by decide +kernel) (by decide +kernel) (by decide +kernel)
 .exact P2 _ (by decide) (by decide +kernel) (by decide +kernel) (by decide +kernel)
 .exact Tt _ (by decide) (by decide +kernel) (by decide +kernel) (by decide +kernel) (by decide +kernel) (by decide +kernel) (by decide +kernel)
 .exact Tt _ (by decide) (by decide +kernel) (by decide +kernel) (by decide +kernel) (by decide +kernel) (by decide +kernel) (by decide +kernel)
 .exact Tt _ (by decide) (by decide +kernel) (by decide +kernel) (by decide +kernel) (by decide +kernel) (by decide +kernel) (by decide +kernel)
 .exact Tt _ (by decide) (by decide +kernel) (by decide +kernel) (by decide +kernel) (by decide +kernel) (by decide +kernel) (by decide +kernel)
 .exact Tt _ (by decide) (by decide +kernel) (by decide +kernel) (by decide +kernel) (by decide +kernel) (by decide +kernel) (by decide +kernel)
 .exact zbr _ (by decide) (by decide) (by decide +kernel) (by decide +kernel) (by decide +kernel) (by decide +kernel) (by decide +kernel) (by decide +kernel)
 .exact zbr _ (by decide) (by decide) (by decide +kernel) (by decide +kernel) (by decide +kernel) (by decide +kernel) (by decide +kernel) (by decide +kernel)
 .exact zbr _ (by decide) (by decide) (by decide +kernel) (by decide +kernel) (by decide +kernel) (by decide +kernel) (by decide +kernel) (by decide +kernel)
 .exact P1 SI rfl (by decide) (by decide +kernel)
 .exact P1 SH rfl (by decide) (by decide +kernel)
 .exact P1 SK rfl (by decide) (by decide +kernel)
 .exact P1 SJ rfl (by decide) (by decide +kernel)
 .exact P1 SL rfl (by decide) (by decide +kernel)
 .exact P1 SM rfl (by decide) (by decide +kernel)
def okD (k q:Nat):Bool:=match (qQ k)[q]?,(Tf k)[q]? with
 | some B,some w=>decide ((k,B.1)∈Vn)&&decide (dgS (eM B.1)=(w.length:Int))
 | _,_=>false
def Nq:([1,2,3,4,5,6].all λk=>(aw (qQ k).length).all λq=>okD k q)=true:=by decide +kernel
def Ht (a b):bY (.str a) (.str b)=some (.bl (decide (a=b))):=by
 unfold bY
 rw [if_pos (show dep (.str a)<=100 from dm _)]
 by_cases c:a=b <;> simp [b6,c]
section
variable {n:Nat} {ts:List T3} {f:Int->Kd×Nat}
abbrev YA (n:Nat) (ts:List T3) (f:Int->Kd×Nat) (l:List Int):List D:=l.map λx=>.tup [lD (PM n ts x),kD (f x).1]
theorem XZ (a0):∀ l s1 s2,(∀ x∈l,kT (f x).1≠"-")->∃ a b,z9 (kH 2 (yB (zS 1) (yB (zS 2) ZO))) (dh (aU (zt bY (vF 2) (cF (.str "-")))) (Yv (yo xO (zf (vF 1) yb))) eF) (YA n ts f l) [a0,s1,s2]=some (.nx [a0,a,b])
 | [],s1,s2,_=>⟨s1,s2,rfl⟩
 | x :: l,s1,s2,h=>by
  obtain ⟨a,b,e⟩:=XZ a0 l (.fr (lD (PM n ts x))) (.fr (kD (f x).1)) (λy c=>h y (aX _ c))
  refine ⟨a,b,?_⟩
  have d:=h x aN
  unfold YA
  rw [au,z9]
  simp only [qB,vJ,yL,qD,ao,aE,Nat.reduceAdd,if_true,aV,aT,ai,y6,xb,zx,yh,xR,aq,aB,Ht,decide_eq_false d,cS,if_false,uB]
  exact e
theorem QY (a0 a1):∀ l a c b,(∀ x∈l,DgOk (PM n ts x).length (f x).1)->a.length+6 * l.length<=60->∃ d g,z9 (kH 2 (yB (zS 3) (yB (zS 4) ZO))) (qM 2 (yo zK (zf (vF 4) (zf (yo kX (zf (vF 3) yb)) yb)))) (YA n ts f l) [a0,a1,.ol (a.map D.int),c,b]=some (.nx [a0,a1,.ol ((a++l.flatMap λx=>eM (f x).1).map D.int),d,g])
 | [],a,c,b,_,_=>⟨c,b,by rw [List.flatMap_nil,bx]; rfl⟩
 | x :: l,a,c,b,h,o=>by
  rw [ao] at o
  have i:=h x aN
  have m:=i.len
  obtain ⟨d,g,e⟩:=QY a0 a1 l (a++eM (f x).1) (.fr (lD (PM n ts x))) (.fr (kD (f x).1)) (λy k=>h y (aX _ k)) (by rw [aH]; omega)
  refine ⟨d,g,?_⟩
  have hz:(a.map D.int).length+((eM (f x).1).map D.int).length<=sizeLine:=by rw [az,az]; exact bb (by omega)
  have j:kX [lD (PM n ts x)]=some (.int ((PM n ts x).length:Int)):=by simp
  have ex:qM 2 (yo zK (zf (vF 4) (zf (yo kX (zf (vF 3) yb)) yb))) [a0,a1,.ol (a.map D.int),.fr (lD (PM n ts x)),.fr (kD (f x).1)]=some (.nx [a0,a1,.ol ((a++eM (f x).1).map D.int),.fr (lD (PM n ts x)),.fr (kD (f x).1)]):=by
   simp only [jf,zD,zj,zr,yh,aq,aB,ai,j,i.val,if_pos hz,aV,aT,bN]
  unfold YA
  rw [au,z9]
  simp only [qB,vJ,yL,qD,ao,aE,Nat.reduceAdd,if_true,aV,aT,ai]
  rw [ex]
  rw [b9] at e
  rw [lu]
  exact e
def G6 (n) (ts:List T3):(yE n ts).length<=n:=by
 have:=rP (λx=>decide ((SP n ts x).headD 0=x)) (idx n)
 rw [uj] at this
 exact this
theorem QN:∀ l:List Int,(∀ x∈l,(eM (f x).1).length<=6)->(l.flatMap λx=>eM (f x).1).length<=6 * l.length
 | [],_=>by simp
 | x :: l,h=>by
  have:=QN l λy a=>h y (aX _ a)
  have:=h x aN
  rw [lu,aH,ao]
  omega
def UF (k:n<=6) (b:uP [ze n ts]=some (.lst (YA n ts f (yE n ts)))) (hd:∀ x∈yE n ts,DgOk (PM n ts x).length (f x).1):jy [ze n ts]=some (lD (sortI ((yE n ts).flatMap λx=>eM (f x).1))):=by
 have m:=G6 n ts
 have o:=QN (f:=f) (yE n ts) λx a=>(hd x a).len
 obtain ⟨j,i,e1⟩:=XZ (n:=n) (ts:=ts) (f:=f) (.fr (ze n ts)) (yE n ts) .no .no λx a=>(hd x a).txt
 obtain ⟨g,e,e2⟩:=QY (n:=n) (ts:=ts) (f:=f) (.fr (ze n ts)) (.fr .non) (yE n ts) [] .no .no hd (by simp; omega)
 rw [aP,a_] at e2
 have c:0<=sizeLine:=dm _
 have ev:wM [ze n ts]=some .non:=by
  simp only [wM,uW,z5,zB,au,aP,ao,aE,Nat.reduceAdd,Nat.reduceSub,aF,bz,a_]
  rw [zy (F:=Vf _ _ _),xY]
  simp only [zF,zD,zj,zr,yh,aq,ai,b,xh]
  rw [e1]
  rfl
 have h:=U6 (fa:=zf (vR 2) yb) (ρ:=[.fr (ze n ts),.fr .non,.ol (((yE n ts).flatMap λx=>eM (f x).1).map D.int),g,e]) (l:=(yE n ts).flatMap λx=>eM (f x).1) rfl (by omega)
 have d:m7 true .non .non=some (.bl false):=rfl
 simp only [jy,Yt,z5,zB,au,aP,ao,aE,Nat.reduceAdd,Nat.reduceSub,aF,bz,a_]
 rw [zy (F:=qu 1 _),yH]
 simp only [zD,zj,zr,yh,aq,ai,ev,aV,aT]
 rw [zy (F:=dh _ _ _),y6]
 simp only [xb,zx,yh,xR,aq,aB,ai,d,cS,if_false,uB]
 rw [zy (F:=Kf 2 _),uy]
 simp only [wq,zr,ai,aE,if_pos c,aV,aT]
 rw [zy (F:=Vf _ _ _),xY]
 simp only [zF,zD,zj,zr,yh,aq,ai,b,xh]
 rw [e2]
 simp only [ai,yc,zM,h,b8,yq]
end
structure TK (n:Nat) (ts:List T3) (x:Int) (p:Kd×(Bk×List Nat)):Prop where
 kind:vw [ze n ts,lD (PM n ts x)]=some (kD p.1)
 two:(p.1=(0,0)/\BN ts ((PM n ts x).map Eu))\/((((PM n ts x).length,p.1)∈Vn)/\p.1=p.2.1.1/\p.2.1∈qQ (PM n ts x).length/\p.2.2.Perm ((PM n ts x).map Eu)/\IsoT p.2.1.2 ts p.2.2)
def Ss {k q:Nat} (h1:1<=k) (d:k<=6) (a:(qQ k)[q]? = some B) (b:(Tf k)[q]? = some w):(k,B.1)∈Vn:=by
 have c:k∈[1,2,3,4,5,6]:=by
  have:k=1\/k=2\/k=3\/k=4\/k=5\/k=6:=by omega
  simpa using this
 have:=bB.mp (bB.mp Nq k c) q (bT.mpr (dw.mp a).1)
 unfold okD at this
 rw [a,b] at this
 dsimp only at this
 rw [cO] at this
 exact of_decide_eq_true this.1
def DY (h:(k,c)∈Vn):∀ d∈eM c,d.natAbs<=30:=by
 have all:(Vn.all λp=>(eM p.2).all λd=>decide (d.natAbs<=30))=true:=by decide +kernel
 intro d hd
 exact of_decide_eq_true (bB.mp (bB.mp all (k,c) h) d hd)
def Gh (hg:zT ts) (z:(ts.map λu=>(u.1,u.2.1)).Nodup) (A:Wi n ts) (r:n<=6) (h:ts.length<=90) (i:x∈idx n):∃ p:Kd×(Bk×List Nat),TK n ts x p:=by
 obtain ⟨f1,f2,v,k,b,s⟩:=xT (ts:=ts) i
 have j:∀ y∈PM n ts x,0<=y/\y < n:=λy m=>wV.mp (v y m)
 have d:((PM n ts x).map Eu).length=(PM n ts x).length:=az _
 have k:(PM n ts x).length<=n:=k
 have b:1<=(PM n ts x).length:=b
 have hz:=Dc (zh ts) (YK ts (PM n ts x)) (PM n ts x) (by omega)
 rcases BZ hg r i with hf | hi
 .obtain ⟨q,B,u,a,f,I⟩:=hf
  have a:(qQ ((PM n ts x).map Eu).length)[q]? = some B:=a
  rw [d] at a
  obtain ⟨w,o,F⟩:=jB b (by omega) a
  have e:u.length=(PM n ts x).length:=by rw [f.length_eq]; exact d
  have l:=Ss b (by omega) a o
  obtain ⟨k1,k2⟩:=DB hg z A j s b (by omega) a e f I
  exact ⟨(B.1,(B,u)),Qy n ts (PM n ts x) B.1 (by omega) h k1 k2 (.inr (HP l).txt) hz,.inr ⟨l,rfl,gN a,f,I⟩⟩
 .have k1:∀ c∈vM (zh ts) (YK ts (PM n ts x)) (PM n ts x),c=(0,0):=λc g=>Dj hg j f2 b (by omega) hi g
  exact ⟨((0,0),(((0,0),[]),[])),Qy n ts (PM n ts x) (0,0) (by omega) h (λc g=>.inl (k1 c g)) (.inl rfl) (.inl rfl) hz,.inl ⟨rfl,hi⟩⟩
theorem kE (a0):∀ l s1 s2,(∃ x∈l,kT (f x).1="-")->∃ ds,z9 (kH 2 (yB (zS 1) (yB (zS 2) ZO))) (dh (aU (zt bY (vF 2) (cF (.str "-")))) (Yv (yo xO (zf (vF 1) yb))) eF) (YA n ts f l) [a0,s1,s2]=some (.rt (.tup ds))
 | [],s1,s2,h=>by obtain ⟨x,b,_⟩:=h; cases b
 | x :: l,s1,s2,h=>by
  unfold YA
  rw [au,z9]
  have td:∀ ds:List D,xO [.lst ds]=some (.tup ds):=λ_=>rfl
  by_cases c:kT (f x).1="-"
  .refine ⟨(PM n ts x).map D.int,?_⟩
   simp only [qB,vJ,yL,qD,ao,aE,Nat.reduceAdd,if_true,aV,aT,ai,y6,xb,zx,yh,xR,aq,aB,Ht,decide_eq_true c,yc,zD,zj,zr,td]
  .obtain ⟨ds,e⟩:=kE (n:=n) (ts:=ts) (f:=f) a0 l (.fr (lD (PM n ts x))) (.fr (kD (f x).1)) (by
    obtain ⟨y,a,e⟩:=h
    rcases aI.mp a with z | z
    .exact absurd (z ▸ e) c
    .exact ⟨y,z,e⟩)
   refine ⟨ds,?_⟩
   simp only [qB,vJ,yL,qD,ao,aE,Nat.reduceAdd,if_true,aV,aT,ai,y6,xb,zx,yh,xR,aq,aB,Ht,decide_eq_false c,cS,if_false,uB]
   exact e
theorem Ww (a0):∀ (l:List Int) (m) (s2),(∀ d∈l,d.natAbs<=30)->∃ b,z9 (zS 2) (PB 1 (vF 2)) (l.map D.int) [a0,.fr (.int m),s2]=some (.nx [a0,.fr (.int (l.foldl (λa d=>a * d) m)),b])
 | [],m,s2,_=>⟨s2,rfl⟩
 | d :: l,m,s2,h=>by
  obtain ⟨b,e⟩:=Ww a0 l (m * d) (.fr (.int d)) λx c=>h x (aX _ c)
  refine ⟨b,?_⟩
  have hd:=h d aN
  have mb:UQ m d:=.inr (.inl (AJ hd (by decide)))
  rw [au,z9,rK]
  simp only [yL,ai,aV,aT,MP,yh,aq,aB,if_pos mb]
  exact e
def K4 {a b:List Int} (h:a.Perm b):∀ m,a.foldl (λx d=>x * d) m=b.foldl (λx d=>x * d) m:=by
 induction h with
 | nil=>exact λ_=>rfl
 | cons x _ c=>exact λm=>c (m * x)
 | swap x y l=>exact λm=>by rw [rK,rK,rK,rK,Ij,IM y x,<- Ij]
 | trans _ _ h1 h2=>exact λm=>(h1 m).trans (h2 m)
def zbq (c:Kd):eM c=dgQ c:=by unfold eM dgQ; rfl
section
variable {n:Nat} {ts:List T3}
def JX (a:uP [ze n ts]=some (.lst (YA n ts f (yE n ts)))) (h:∀ x∈yE n ts,kT (f x).1≠"-"):wM [ze n ts]=some .non:=by
 obtain ⟨c,b,e1⟩:=XZ (n:=n) (ts:=ts) (f:=f) (.fr (ze n ts)) (yE n ts) .no .no h
 simp only [wM,uW,z5,zB,au,aP,ao,aE,Nat.reduceAdd,Nat.reduceSub,aF,bz,a_]
 rw [zy (F:=Vf _ _ _),xY]
 simp only [zF,zD,zj,zr,yh,aq,ai,a,xh]
 rw [e1]
 rfl
def UC (a:uP [ze n ts]=some (.lst (YA n ts f (yE n ts)))) (h:∃ x∈yE n ts,kT (f x).1="-"):∃ ds,wM [ze n ts]=some (.tup ds):=by
 obtain ⟨ds,e1⟩:=kE (n:=n) (ts:=ts) (f:=f) (.fr (ze n ts)) (yE n ts) .no .no h
 refine ⟨ds,?_⟩
 simp only [wM,uW,z5,zB,au,aP,ao,aE,Nat.reduceAdd,Nat.reduceSub,aF,bz,a_]
 rw [zy (F:=Vf _ _ _),xY]
 simp only [zF,zD,zj,zr,yh,aq,ai,a,xh]
 rw [e1]
 rfl
def B2 (hd:jy [ze n ts]=some (lD l)) (a:∀ d∈l,d.natAbs<=30):Hh [ze n ts]=some (.int (Cp l)):=by
 obtain ⟨s2,e⟩:=Ww (.fr (ze n ts)) l 1 .no a
 simp only [Hh,BD,z5,zB,au,aP,ao,aE,Nat.reduceAdd,Nat.reduceSub,aF,bz,a_]
 rw [zy (F:=qu 1 _),yH]
 simp only [xR,ai,aV,aT]
 rw [zy (F:=Vf _ _ _),xY]
 simp only [zF,zD,zj,zr,yh,aq,ai,hd,xh]
 rw [e]
 rfl
def CY (hg:zT ts) (Y:(ts.map λu=>(u.1,u.2.1)).Nodup) (Z:Wi n ts) (h1:1<=n) (W:n<=4) (H:ts.length<=90) (hm:most<=60) :
  xv [ze n ts,.int most]=some (.bl (decide (most < ((uL ts n 100 [[]] 0).length:Int))))/\(¬ most < ((uL ts n 100 [[]] 0).length:Int)->∃ M,Full ts n M/\M.length<=60/\2 ^ n<=M.length):=by
 have key:∀ x:Int,∃ p:Kd×(Bk×List Nat),x∈idx n->TK n ts x p:=λx=>by
  by_cases c:x∈idx n
  .obtain ⟨p,U⟩:=Gh hg Y Z (by omega) H c
   exact ⟨p,λ_=>U⟩
  .exact ⟨((0,0),(((0,0),[]),[])),λz=>absurd z c⟩
 obtain ⟨f,B⟩:=Classical.axiomOfChoice key
 have hh:∀ x∈yE n ts,TK n ts x (f x):=λx a=>B x (df.mp a).1
 have q:uP [ze n ts]=some (.lst (YA n ts (λx=>((f x).1,0)) (yE n ts))):=JK n ts (λx=>(f x).1) (by omega) λx a=>(B x a).kind
 by_cases inf:∃ x∈yE n ts,kT (f x).1="-"
 .obtain ⟨ds,ev⟩:=UC (f:=λx=>((f x).1,0)) q inf
  obtain ⟨x,a,ex⟩:=inf
  have o:=(df.mp a).1
  have r:BN ts ((PM n ts x).map Eu):=by
   rcases (hh x a).two with z | z
   .exact z.2
   .exact absurd ex (HP z.1).txt
  obtain ⟨b,X,u,E⟩:=r
  obtain ⟨v,v1,G,_⟩:=QF (n:=n) hg X (λi hi=>by
   obtain ⟨y,m,rfl⟩:=aR.mp hi
   have:=wV.mp ((xT (ts:=ts) o).2.2.1 y m)
   omega) E
  obtain ⟨M,Q,P,O⟩:=WZ G (by omega)
  have R:=(Qx P O Q (F:=100) (by omega)).1
  have g:m7 true (.tup ds) .non=some (.bl true):=rfl
  refine ⟨?_,λz=>absurd (by omega) z⟩
  rw [decide_eq_true (by omega)]
  simp only [xv,qy,z5,zB,au,aP,ao,aE,Nat.reduceAdd,Nat.reduceSub,aF,bx,yc,Rt,zx,zD,zj,zr,yh,xR,aq,ai,ev,g,if_true,yq]
 .have fin:∀ x∈yE n ts,(((PM n ts x).length,(f x).1)∈Vn)/\(f x).1=(f x).2.1.1/\(f x).2.1∈qQ (PM n ts x).length/\(f x).2.2.Perm ((PM n ts x).map Eu)/\IsoT (f x).2.1.2 ts (f x).2.2:=λx a=>by
   rcases (hh x a).two with z | z
   .exact absurd ⟨x,a,by rw [z.1]; rfl⟩ inf
   .exact z
  have ev:=JX (f:=λx=>((f x).1,0)) q λx a z=>inf ⟨x,a,z⟩
  have dv:=UF (f:=λx=>((f x).1,0)) (by omega) q λx a=>HP (fin x a).1
  have I:∀ d∈sortI ((yE n ts).flatMap λx=>eM (f x).1),d.natAbs<=30:=λd hd=>by
   obtain ⟨x,a,J⟩:=nB.mp ((sortI_perm _).subset hd)
   exact DY (fin x a).1 d J
  have k:=B2 dv I
  have L:Cp (sortI ((yE n ts).flatMap λx=>eM (f x).1))=lZ (gO ((yE n ts).map λx=>(f x).2)):=by
   unfold lZ Cp
   rw [K4 (sortI_perm _) 1]
   congr 1
   rw [List.flatMap_map,List.flatMap_map]
   have:∀ l:List Int,(∀ x∈l,(f x).1=(f x).2.1.1)->(l.flatMap λx=>eM (f x).1)=l.flatMap λx=>dgQ (f x).2.1.1:=λl=>by
    induction l with
    | nil=>exact λ_=>rfl
    | cons x l T =>
     intro h
     rw [lu,lu,T λy m=>h y (aX _ m),zbq,h x aN]
   exact this _ λx a=>(fin x a).2.1
  rw [L] at k
  have C:=Us hg h1 W (λx=>(f x).2) λx a=>⟨(fin x a).2.2.1,(fin x a).2.2.2.1,(fin x a).2.2.2.2⟩
  generalize lZ (gO ((yE n ts).map λx=>(f x).2))=sz at k C
  have g:m7 true .non .non=some (.bl false):=rfl
  have A:xv [ze n ts,.int most]=some (.bl (decide (most < sz))):=by
   simp only [xv,qy,z5,zB,au,aP,ao,aE,Nat.reduceAdd,Nat.reduceSub,aF,bx,yc,Rt,zx,zD,zj,zr,yh,xR,aq,aB,ai,ev,g,cS,if_false,k,ML,yq]
  rcases C with ⟨M,w,s,e⟩ | ⟨w,M,s,e,c4⟩
  .have S:=(Up hg w e.1 (F:=100) (j:=61) (by omega) (by omega)).2
   refine ⟨?_,λ_=>⟨M,w,e.1,e.2⟩⟩
   rw [A,s,S]
  .have R:=(Qx e c4 s (F:=100) (by omega)).1
   refine ⟨?_,λz=>absurd (by omega) z⟩
   rw [A,decide_eq_true (by omega),decide_eq_true (by omega)]
end
section
variable {ts:List T3} {n:Nat}
abbrev plC:FT:=(aU (zt lh (yo kX (zf (vF 3) yb)) (cF (.int 0))))
noncomputable def sC:FS:=(ud (qM 2 (xD (jI 2 [] (yU (vF 3)) (kH 2 (yB (zS 0) (yB (zS 1) ZO))) eQ (vF 0)))) (qu 3 (yo xl (zf (vF 0) (zf (vF 3) yb)))))
theorem K6 (hg:zT ts) (p:n<=4) (m:Full ts n M) (A:M.length<=60) (a1):∀ j N k C L,Lv ts n k C L->k<=C.length->M.length < C.length+j->j < N →
  ∃ e,yF plC sC N [.fr (ze n ts),a1,.ol (C.map zR),.fr (.lst (L.map (gc ts n)))]=some (.nx [.fr (ze n ts),a1,.ol ((C++rb ts n j L).map zR),e])
 | j,0,k,C,L,h,x,h1,h2=>by omega
 | j,N+1,k,C,L,h,x,h1,h2=>by
  have inw:∀ v∈C++L,aj n v:=λv l=>(bE.mp l).elim (λz=>(h.shC v z).1.1) λz=>(h.sh v z).1.1
  have le:=m.most inw h.nd
  rw [aH] at le
  obtain ⟨j,rfl⟩:∃ i,j=i+1:=⟨j - 1,by omega⟩
  have y:plC [.fr (ze n ts),a1,.ol (C.map zR),.fr (.lst (L.map (gc ts n)))]=some (decide ((0:Int) < (L.length:Int))):=by
   simp only [plC,xb,zx,yh,zD,zj,zr,xR,aq,aB,ai,YN,ML,az]
  unfold rb yF
  rw [y]
  by_cases c:L=[]
  .subst c
   rw [if_pos rfl,bx]
   exact ⟨_,rfl⟩
  .rw [if_neg c]
   have B:0 < L.length:=rN.mpr c
   have a:=GD hg h
   have b:∀ v∈C++L++ui ts n [] L,aj n v:=λv l=>(bE.mp l).elim (inw v) λz=>(a.sh v z).1.1
   have g:=m.most b a.nd
   rw [aH,aH] at g
   have s:=JJ hg p (L:=L) (λw o=>⟨(h.sh w o).1.1,by rw [(h.sh w o).2]; omega⟩) (by omega)
   have d:=Q1 (ft:=eQ) (f:=vF 0) (C:=[]) (ι:=zR) (κ:=λw=>yT (zp ts n w)) (q:=λ_=>true) (φ:=zR) L .no .no (λ_ _=>rfl) (λ_ _ _=>rfl)
   rw [g4g.mpr (λ_ _=>rfl)] at d
   have d:yN (kH 2 (yB (zS 0) (yB (zS 1) ZO))) eQ (vF 0) (L.map (gc ts n)) [.no,.no]=some (L.map zR):=d
   have hz:(L.map (gc ts n)).length<=sizeLine:=by rw [az]; exact bb (by omega)
   have r:(C.map zR).length+(L.map zR).length<=sizeLine:=by rw [az,az]; exact bb (by omega)
   obtain ⟨e,u⟩:=K6 hg p m A a1 j N (k+1) (C++L) (ui ts n [] L) a (by rw [aH]; omega) (by rw [aH]; omega) (by omega)
   refine ⟨e,?_⟩
   rw [decide_eq_true (by omega)]
   have body:sC [.fr (ze n ts),a1,.ol (C.map zR),.fr (.lst (L.map (gc ts n)))]=some (.nx [.fr (ze n ts),a1,.ol ((C++L).map zR),.fr (.lst ((ui ts n [] L).map (gc ts n)))]):=by
    unfold sC
    simp only [zy,jf,zM,xj,zF,yh,aq,aB,ai,xh,if_pos hz,xA,aP,aF,bz,a_,d,b8,if_pos r,aV,aT,yH,zD,zj,zr,s,bN]
   show (sC _).bind _=_
   rw [body,<- b9]
   exact u
def Jy (hg:zT ts) (g:n<=4) (b:Full ts n M) (c:M.length<=60) (k:xv [ze n ts,.int most]=some (.bl false)):js [ze n ts,.int most]=some (.lst ((uL ts n 100 [[]] 0).map zR)):=by
 obtain ⟨l,e⟩:=K6 hg g b c (.fr (.int most)) 61 100000 0 [] [[]] kU (by simp) (by simp; omega) (by omega)
 have d:=(Up hg b c (F:=100) (j:=61) (by omega) (by omega)).1
 have f:jx [ze n ts,.tup []]=some (yT (zp ts n [])):=V6 n hg (w:=[]) (by omega) (λi h=>(by cases h))
 have a:0<=sizeLine:=dm _
 have z1:0+1<=sizeLine:=bb (by decide)
 have z2:0+1+1<=sizeLine:=bb (by decide)
 rw [aP,a_] at e
 unfold sC plC at e
 simp only [js,Wb,z5,zB,au,aP,ao,aE,Nat.reduceAdd,Nat.reduceSub,aF,bz,a_]
 rw [zy (F:=dh _ _ _),y6]
 simp only [xb,zD,zj,zr,yh,aq,aB,ai,k,cS,if_false,uB]
 rw [zy (F:=Kf 2 _),uy]
 simp only [wq,zr,ai,aE,if_pos a,aV,aT]
 rw [zy (F:=qu 3 _),yH]
 simp only [zM,wq,ux,zD,zj,zr,yh,aq,ai,ao,aE,if_pos a,if_pos z1,if_pos z2,f,b8,aV,aT]
 rw [zy (F:=yF _ _ _)]
 have e:yF _ _ 100000 [.fr (ze n ts),.fr (.int most),.ol [],.fr (.lst [.tup [.tup [],yT (zp ts n [])]])]=_:=e
 rw [e,d]
 simp only [ai,WB,KU,aq,aB,aV,aT,yc,yh,yq]
end
def Mm (ns:List Int) (k:Nat) (a:k<=100):∃ c,kA [.lst (ns.map D.int),.int k]=some (.int c):=by
 by_cases h:k < ns.length
 .have e:ay (.lst (ns.map D.int)) (.int (k:Int))=some (.int (ns.getD k 0)):=vy (by simp [aW,h])
  have h':(k:Int) < (ns.length:Int):=by omega
  exact ⟨ns.getD k 0,by simp [kA,Jg,h',e]⟩
 .have h':¬ ((k:Int) < (ns.length:Int)):=by omega
  have m:JD (.int 17) (.int (k:Int))=some (.int (17 * k)):=vj (uK (by decide) (by decide))
  exact ⟨17 * k+9,by simp [kA,Jg,h',m]⟩
def Ud (c) (k:Nat) (f:k<=4):∃ z,0<=z/\uk [.int c,.int k]=some (.int z):=by
 have g:(0:Int)<=8 * (k:Int) * k:=Lk (by omega) (by omega)
 have e:JD (.int 8) (.int (k:Int))=_:=vj (uK (by decide) (by decide))
 have d:JD (.int (8 * (k:Int))) (.int (k:Int))=_:=vj (uK (by omega) (by omega))
 have b:∀ y,JD (.int (c % 2147483629+(k:Int)+1)) (.int y)=_:=λy=>vj (uK (by omega) (by omega))
 have a:∀ x:Int,JD (.int (x % 2147483647)) (.int (x % 2147483647))=_:=λx=>vj (uK (by omega) (by omega))
 refine ⟨_,?_,by simp only [uk,UV,z5,zB,au,aP,ao,aE,Nat.reduceAdd,Nat.reduceSub,aF,bz,a_,zy,zx,yh,xR,aq,aB,ai,yH,vk (show (0:Int) < 2147483629 by decide),WD,e,d,b,vk (show (0:Int) < 2147483647 by decide),aV,aT,yc,a,vk (show (0:Int) < 2147483587 by decide),yq]; rfl⟩
 omega
abbrev kyT (t:T3):List Key:=[.inl t.1,.inl t.2.1]
def Py (xs:List α) (a b:Nat) (h:a<=b):Yw xs (some (a:Int)) (some (b:Int))=(xs.drop a).take (b - a):=by
 unfold Yw
 rw [HT.sIx_nat,HT.sIx_nat]
 by_cases h1:a<=xs.length
 .by_cases h2:b<=xs.length
  .rw [oH h1,oH h2]
  .rw [oH h1,AH (by omega),AK (by simp),AK (by simp; omega)]
 .rw [AH (by omega),AH (by omega),rQ (aM _),rQ (by omega)]
  simp
def PR (n:Nat) (ag:List (List Key×D)):Prop:=∀ p∈ag,∃ a b m:Int,p=([.inl a,.inl b],.int m)/\0<=a/\a < b/\b < n/\(m=0\/(2<=m/\m<=6))
def TR (n:Nat) (ts:List T3):Prop:=∀ t∈ts,(t.2.2=0\/(3<=t.2.2/\t.2.2<=6))/\0<=t.1/\t.1 < t.2.1/\t.2.1 < n
def PR.put (h:PR n ag) {a b m:Int} (h1:0<=a) (h2:a < b) (f:b < n) (d:m=0\/(2<=m/\m<=6)):PR n (BH ag [.inl a,.inl b] (.int m))/\(BH ag [.inl a,.inl b] (.int m)).length<=ag.length+1:=by
 unfold BH
 split
 .refine ⟨λp c=>?_,by simp⟩
  obtain ⟨q,g,rfl⟩:=aR.mp c
  split
  .rename_i e
   exact ⟨a,b,m,by rw [e],h1,h2,f,d⟩
  .exact h q g
 .refine ⟨λp c=>?_,by simp⟩
  rcases bE.mp c with c | c
  .exact h p c
  .exact ⟨a,b,m,by simpa using c,h1,h2,f,d⟩
def RL  {k:List Key} (h:(ag.map (·.1)).Nodup):((BH ag k v).map (·.1)).Nodup:=by
 unfold BH
 split
 .have:(ag.map λc=>if c.1=k then (c.1,v) else c).map (·.1)=ag.map (·.1):=by
   rw [bM]
   apply fx
   intro a _
   simp only [Ez]
   split <;> rfl
  rw [this]; exact h
 .rename_i f
  rw [bN,oJ]
  refine ⟨h,by simp,λa i b g=>?_⟩
  have j:b=k:=by simpa using g
  subst j
  rintro rfl
  obtain ⟨q,d,e⟩:=aR.mp i
  exact f (nD.mpr ⟨q,d,by simp [e]⟩)
noncomputable def x_:FS:=(ud (qu 8 (zt ay (xD (BI (zf (cF (.int 2)) (zf (cF (.int 2)) (zf (cF (.int 3)) (zf (cF (.int 4)) yb)))))) (zt F5 (zt Uy (vF 5) (cF (.int 64))) (cF (.int 4))))) (ud (dh (aU (zt bY (zt F5 (zt Uy (vF 5) (cF (.int 256))) (cF (.int 4))) (cF (.int 0)))) (qu 8 (zt ay (xD (BI (zf (cF (.int 5)) (zf (cF (.int 6)) (zf (cF (.int 0)) (zf (cF (.int 2)) yb)))))) (zt F5 (zt Uy (vF 5) (cF (.int 64))) (cF (.int 4))))) eF) (DV 3 (zf (yo NF (zf (vF 6) (zf (vF 7) yb))) (zf (yo F6 (zf (vF 6) (zf (vF 7) yb))) yb)) (vF 8))))
noncomputable def rA:FS:=(ud (qu 5 (yo uk (zf (vF 4) (zf (cF (.int 2)) yb)))) (ud (qu 6 (zt F5 (vF 5) (vF 2))) (ud (qu 7 (zt F5 (zt Uy (vF 5) (cF (.int 8))) (vF 2))) (dh (aU (zt c_ (vF 6) (vF 7))) x_ eF))))
def za5 (h1:0<=x) (h2:x < 4):(∃ m,(m=0\/(2<=m/\m<=6))/\ay (.lst [.int 2,.int 2,.int 3,.int 4]) (.int x)=some (.int m))/\∃ m,(m=0\/(2<=m/\m<=6))/\ay (.lst [.int 5,.int 6,.int 0,.int 2]) (.int x)=some (.int m):=by
 have:x=0\/x=1\/x=2\/x=3:=by omega
 rcases this with e | e | e | e <;> subst e
 .exact ⟨⟨2,by omega,by simp [ay,atI,dF]⟩,5,by omega,by simp [ay,atI,dF]⟩
 .exact ⟨⟨2,by omega,by simp [ay,atI,dF]⟩,6,by omega,by simp [ay,atI,dF]⟩
 .exact ⟨⟨3,by omega,by simp [ay,atI,dF]⟩,0,by omega,by simp [ay,atI,dF]⟩
 .exact ⟨⟨4,by omega,by simp [ay,atI,dF]⟩,2,by omega,by simp [ay,atI,dF]⟩
def S7 (a0 a1 a2 s4 v s l) (h:ag.length < sizeLine) (p:NF [.int i,.int j]=some (.int a)) (o:F6 [.int i,.int j]=some (.int b)) :
  ∃ m,(m=0\/(2<=m/\m<=6))/\x_ [a0,a1,a2,.oT ag,s4,.fr (.int z),.fr (.int i),.fr (.int j),v,s,l]=some (.nx [a0,a1,a2,.oT (BH ag [.inl a,.inl b] (.int m)),s4,.fr (.int z),.fr (.int i),.fr (.int j),.fr (.int m),s,l]):=by
 have d:=jC (i:=z) (show (0:Int) < 64 by decide) (by decide)
 have r:=vk (i:=z / 64) (show (0:Int) < 4 by decide)
 have u:=jC (i:=z) (show (0:Int) < 256 by decide) (by decide)
 have q:=vk (i:=z / 256) (show (0:Int) < 4 by decide)
 obtain ⟨⟨m,y,pm⟩,w,g,f⟩:=za5 (x:=z / 64 % 4) (by omega) (by omega)
 have k:0+1+1+1+1<=sizeLine:=bb (by decide)
 have z2:0+1+1<=sizeLine:=bb (by decide)
 have n:YX [.int a,.int b]=some [.inl a,.inl b]:=rfl
 have e:ag.length < sizeLine/\0+1+1<=sizeLine:=⟨h,z2⟩
 by_cases c:z / 256 % 4=0
 .refine ⟨w,g,?_⟩
  simp only [x_,zy,yH,zx,zM,wq,zj,zr,xR,yh,aB,aq,ai,ao,aE,if_pos k,b8,d,r,pm,f,aV,aT,y6,xb,u,q,WC,decide_eq_true c,if_true,KW,zD,p,o,n,if_pos e]
 .refine ⟨m,y,?_⟩
  simp only [x_,zy,yH,zx,zM,wq,zj,zr,xR,yh,aB,aq,ai,ao,aE,if_pos k,b8,d,r,pm,aV,aT,y6,xb,u,q,WC,decide_eq_false c,cS,if_false,uB,KW,zD,p,o,n,if_pos e]
theorem Ut (C:1<=n) (a0 a1 j h):∀ (l:List Int) (ag) (s4 s5 o k g),PR n ag->(ag.map (·.1)).Nodup->ag.length+l.length<=63->∃ f X Y P T S,PR n f/\(f.map (·.1)).Nodup/\f.length<=63 ∧
  z9 (zS 4) rA (l.map D.int) [a0,a1,.fr (.int n),.oT ag,s4,s5,o,k,g,j,h]=some (.nx [a0,a1,.fr (.int n),.oT f,X,Y,P,T,S,j,h])
 | [],ag,s4,s5,o,k,g,p,q,hlen=>⟨ag,s4,s5,o,k,g,p,q,by simp at hlen; omega,rfl⟩
 | c :: l,ag,s4,s5,o,k,g,p,q,hlen=>by
  rw [ao] at hlen
  obtain ⟨z,hz,L⟩:=Ud c 2 (by omega)
  have B:uk [.int c,.int 2]=some (.int z):=L
  have d:(0:Int) < n:=by omega
  have G:=vk (i:=z) d
  have E:=jC (i:=z) (show (0:Int) < 8 by decide) (by decide)
  have F:=vk (i:=z / 8) d
  have b1:0<=z % n:=Int.emod_nonneg _ (by omega)
  have b2:z % n < n:=Int.emod_lt_of_pos _ d
  have b3:0<=z / 8 % n:=Int.emod_nonneg _ (by omega)
  have b4:z / 8 % n < n:=Int.emod_lt_of_pos _ d
  have y:ag.length < sizeLine:=yQ (by omega)
  rw [au]
  by_cases H:z % n=z / 8 % n
  .obtain ⟨f,w,v,u,s,r,h1,A,h2,e⟩:=Ut C a0 a1 j h l ag (.fr (.int c)) (.fr (.int z)) (.fr (.int (z % n))) (.fr (.int (z / 8 % n))) g p q (by omega)
   refine ⟨f,w,v,u,s,r,h1,A,h2,?_⟩
   have x:c_ (.int (z % n)) (.int (z / 8 % n))=some (.bl false):=by rw [j9,decide_eq_true H]; rfl
   unfold z9
   simp only [rA,yL,ai,aV,aT,zy,yH,zD,zj,zr,yh,xR,aB,aq,B,zx,G,E,F,y6,xb,x,cS,if_false,uB]
   unfold rA at e
   exact e
  .have x:c_ (.int (z % n)) (.int (z / 8 % n))=some (.bl true):=by rw [j9,decide_eq_false H]; rfl
   obtain ⟨a,b,h1,h2,O,W,U⟩:∃ a b:Int,0<=a/\a < b/\b < n/\NF [.int (z % n),.int (z / 8 % n)]=some (.int a)/\F6 [.int (z % n),.int (z / 8 % n)]=some (.int b):=by
    refine ⟨_,_,?_,?_,?_,zau,Rw⟩
    .split <;> omega
    .split <;> split <;> omega
    .split <;> omega
   obtain ⟨m,M,I⟩:=S7 (z:=z) a0 a1 (.fr (.int n)) (.fr (.int c)) g j h y W U
   obtain ⟨J,p2⟩:=p.put h1 h2 O M
   obtain ⟨f,w,v,u,s,r,R,Z,Q,e⟩:=Ut C a0 a1 j h l _ (.fr (.int c)) (.fr (.int z)) (.fr (.int (z % n))) (.fr (.int (z / 8 % n))) (.fr (.int m)) J (RL q) (by omega)
   refine ⟨f,w,v,u,s,r,R,Z,Q,?_⟩
   unfold z9
   simp only [rA,yL,ai,aV,aT,zy,yH,zD,zj,zr,yh,xR,aB,aq,B,zx,G,E,F,y6,xb,x,if_true]
   rw [I]
   unfold rA at e
   exact e
noncomputable def rq:FS:=(dh (aU (zt c_ (vF 8) (cF (.int 2)))) (vQ 9 (tupF (zf (zt ay (vF 10) (cF (.int 0))) (zf (zt ay (vF 10) (cF (.int 1))) (zf (vF 8) yb))))) eF)
theorem Ur (a0 a1 a2 a3 a4 o l k):∀ ag ts h i,PR n ag->TR n ts->(ts.map kyT++ag.map (·.1)).Nodup->ts.length+ag.length<=63->∃ d g G,TR n d/\(d.map kyT).Nodup/\d.length<=63 ∧
  z9 (kH 2 (yB (zS 10) (yB (zS 8) ZO))) rq (we ag) [a0,a1,a2,a3,a4,o,l,k,i,.ol (ts.map tD),h]=some (.nx [a0,a1,a2,a3,a4,o,l,k,G,.ol (d.map tD),g])
 | [],ts,h,i,w,ht,j,hlen=>⟨ts,h,i,ht,by simpa using j,by simp at hlen; omega,rfl⟩
 | p :: ag,ts,h,i,w,ht,j,hlen=>by
  rw [ao] at hlen
  obtain ⟨a,b,m,rfl,h1,h2,F,I⟩:=w p aN
  have B:PR n ag:=λq v=>w q (aX _ v)
  have H:we (([.inl a,.inl b],.int m) :: ag)=.tup [.tup [.int a,.int b],.int m] :: we ag:=rfl
  have z:(ts.map tD).length < sizeLine:=yQ (by simp; omega)
  have z3:0+1+1+1<=sizeLine:=bb (by decide)
  have r:3<=sizeLine:=bb (by decide)
  have E:ay (.tup [.int a,.int b]) (.int 0)=some (.int a):=eT
  have i1:ay (.tup [.int a,.int b]) (.int 1)=some (.int b):=gX
  rw [H]
  by_cases c:m=2
  .obtain ⟨d,f,s,y,A,x,e⟩:=Ur (n:=n) a0 a1 a2 a3 a4 o l k ag ts (.fr (.tup [.int a,.int b])) (.fr (.int m)) B ht (j.sublist (List.Sublist.append_left (by simp) _)) (by omega)
   refine ⟨d,f,s,y,A,x,?_⟩
   have u:c_ (.int m) (.int 2)=some (.bl false):=by rw [j9,decide_eq_true c]; rfl
   unfold z9
   simp only [rq,qB,vJ,yL,qD,ao,aE,Nat.reduceAdd,if_true,aV,aT,ai,y6,xb,zx,yh,xR,aB,aq,u,cS,if_false,uB]
   unfold rq at e
   exact e
  .have C:TR n (ts++[(a,b,m)]):=λt v=>by
    rcases bE.mp v with q | q
    .exact ht t q
    .have e:t=(a,b,m):=by simpa using q
     subst e
     exact ⟨by show m=0\/(3<=m/\m<=6); omega,h1,h2,F⟩
   obtain ⟨d,f,s,y,A,x,e⟩:=Ur (n:=n) a0 a1 a2 a3 a4 o l k ag (ts++[(a,b,m)]) (.fr (.tup [.int a,.int b])) (.fr (.int m)) B C (by rw [bN,b9]; exact j) (by rw [aH,bX]; omega)
   refine ⟨d,f,s,y,A,x,?_⟩
   have u:c_ (.int m) (.int 2)=some (.bl true):=by rw [j9,decide_eq_false c]; rfl
   have em:(ts++[(a,b,m)]).map tD=ts.map tD++[.tup [.int a,.int b,.int m]]:=by simp [tD]
   rw [em] at e
   unfold z9
   simp only [rq,qB,vJ,yL,qD,ao,aE,Nat.reduceAdd,if_true,aV,aT,ai,y6,xb,zx,yh,xR,aB,aq,u,wH,ux,zj,zr,E,i1,if_pos z3,if_pos r,if_pos z]
   unfold rq at e
   exact e
def G3 (ns:List Int) (H:ns.length<=63):∃ (n:Nat) (ts:List T3),1<=n/\n<=4/\TR n ts/\(ts.map kyT).Nodup/\ts.length<=63/\jw [.lst (ns.map D.int)]=some (ze n ts):=by
 obtain ⟨d,j⟩:=Mm ns 0 (by omega)
 have E:kA [.lst (ns.map D.int),.int 0]=some (.int d):=j
 obtain ⟨z,hz,y⟩:=Ud d 1 (by omega)
 have x:uk [.int d,.int 1]=some (.int z):=y
 have C:=vk (i:=z) (show (0:Int) < 4 by decide)
 obtain ⟨n,B,a,h⟩:∃ n:Nat,1+z % 4=(n:Int)/\1<=n/\n<=4:=⟨(1+z % 4).toNat,by omega,by omega,by omega⟩
 have c:0<=sizeLine:=dm _
 have z2:0+1+1<=sizeLine:=bb (by decide)
 have b:2<=sizeLine:=bb (by decide)
 obtain ⟨l,G,k⟩:∃ l:List Int,l.length<=63/\Yw (ns.map D.int) (some 1) (some 64)=l.map D.int:=by
  refine ⟨(ns.drop 1).take 63,by simp; omega,?_⟩
  have:=Py (ns.map D.int) 1 64 (by decide)
  rw [<- List.map_drop,<- List.map_take] at this
  exact this
 obtain ⟨ag,w,v,u,s,r,k1,g,k2,e1⟩:=Ut a (.fr (.lst (ns.map D.int))) (.fr (.int z)) .no .no l [] .no .no .no .no .no (λp A=>by cases A) (by simp) (by simp; omega)
 obtain ⟨ts,F,q,o,e,m,e2⟩:=Ur (n:=n) (.fr (.lst (ns.map D.int))) (.fr (.int z)) (.fr (.int n)) .no w v u s ag [] .no r k1 (λt ht=>by cases ht) (by simpa using g) (by simp; omega)
 refine ⟨n,ts,a,h,o,e,m,?_⟩
 have f:∀ l:List D,Kx (.lst l)=some l:=λ_=>rfl
 unfold rA x_ at e1
 unfold rq at e2
 unfold jw Yr
 simp only [z5,zB,au,aP,ao,aE,Nat.reduceAdd,Nat.reduceSub,aF,bz,a_,zy,yH,zD,zj,yh,zr,xR,aB,aq,ai,E,x,zx,C,WD,B,aV,aT,MO,xY,Rr,Cb,MN,Int.zero_add,k,f]
 simp only [zF,Qb,MN,zx,yh,xR,aq,aB,ai,WD,Int.zero_add,k,xh]
 rw [e1]
 simp only [ai,zy,uy,wq,zr,aE,if_pos c,aV,aT,MM,aB,aq]
 rw [aP] at e2
 rw [e2]
 simp only [ai,WB,KU,yc,ux,zj,zr,yh,aB,aq,aV,aT,ao,aE,if_pos z2,if_pos b,yq]
 rfl
def HQ (w):dep (zR w)<=100:=by
 have:∀ l:List Nat,qG (l.map λ(i:Nat)=>D.int (i:Int))=0:=λl=>by
  induction l with
  | nil=>rfl
  | cons x l a=>rw [au]; simp [qG,dep,a]
 show qG (w.map λ(i:Nat)=>D.int (i:Int))+1<=100
 rw [this]
 decide
def CV (W:List (List Nat)) (z:Int):∃ m,m<=60/\qi [.lst (W.map zR),.int z]=some (.int m):=by
 have f:=vk (i:=z) (show (0:Int) < 2 by decide)
 have e:=jC (i:=z) (show (0:Int) < 4 by decide) (by decide)
 have a:=vk (i:=z / 4) (show (0:Int) < 60 by decide)
 have f2:=jC (i:=z) (show (0:Int) < 2 by decide) (by decide)
 have c:=vk (i:=z / 2) (show (0:Int) < 2 by decide)
 have b:kX [.lst (W.map zR)]=some (.int (W.length:Int)):=by simp
 by_cases d:(60:Int) < (W.length:Int)
 .refine ⟨1+z / 4 % 60,by omega,?_⟩
  simp only [qi,jT,z5,zB,au,aP,ao,aE,Nat.reduceAdd,Nat.reduceSub,aF,bx,bz,a_,zy,y6,Jv,xb,zx,zD,zj,zr,yh,xR,aq,aB,ai,b,ML,decide_eq_true d,if_true,yc,e,a,WD,yq]
 .by_cases g:z % 2=1
  .refine ⟨1+z / 4 % 60,by omega,?_⟩
   simp only [qi,jT,z5,zB,au,aP,ao,aE,Nat.reduceAdd,Nat.reduceSub,aF,bx,bz,a_,zy,y6,Jv,xb,zx,zD,zj,zr,yh,xR,aq,aB,ai,b,ML,decide_eq_false d,cS,if_false,f,WC,decide_eq_true g,if_true,yc,e,a,WD,yq]
  .refine ⟨if (W.length:Int) - z / 2 % 2<=1 then 1 else (W.length:Int) - z / 2 % 2,by split <;> omega,?_⟩
   have h:F6 [.int 1,.int ((W.length:Int) - z / 2 % 2)]=some (.int (if (W.length:Int) - z / 2 % 2<=1 then 1 else (W.length:Int) - z / 2 % 2)):=by
    rw [Rw]
    congr 2
    split <;> split <;> omega
   simp only [qi,jT,z5,zB,au,aP,ao,aE,Nat.reduceAdd,Nat.reduceSub,aF,bx,bz,a_,zy,y6,Jv,xb,zx,zD,zj,zr,yh,xR,aq,aB,ai,b,ML,decide_eq_false d,cS,if_false,f,WC,decide_eq_false g,uB,yc,f2,c,Rq,h,yq]
noncomputable def saB:FS:=(dh (orT (CQ (aU (YH (T9 "tuple") (vF 2)))) (orT (aU (zt c_ (vF 2) (vF 3))) (aU (zt lh (yo kX (zf (xD (jI 1 [] (yU (vF 2)) (zS 0) (CQ (aU (yo v8 (zf (vF 0) yb)))) (vF 0))) yb)) (cF (.int 0)))))) (Yv (cF (.bl false))) eF)
theorem KI (a0 a1):∀ (W:List (List Nat)) (s2 s3),(∀ w∈W,w.length<=90)->∃ b a,z9 (kH 2 (yB (zS 2) (yB (zS 3) ZO))) saB (Yu (W.map zR) (W.map zR)) [a0,a1,s2,s3]=some (.nx [a0,a1,b,a])
 | [],s2,s3,_=>⟨s2,s3,rfl⟩
 | w :: W,s2,s3,h=>by
  obtain ⟨b,a,e⟩:=KI a0 a1 W (.fr (zR w)) (.fr (zR w)) λv m=>h v (aX _ m)
  refine ⟨b,a,?_⟩
  have o:=h w aN
  have ty:VR (lE (zR w)) "tuple"=true:=rfl
  have k:c_ (zR w) (zR w)=some (.bl false):=Gs (HQ w)
  have c:=Y5 (ft:=CQ (aU (yo v8 (zf (vF 0) yb)))) (f:=vF 0) (C:=[]) (ι:=λ(i:Nat)=>D.int (i:Int)) (q:=λ_=>false) (φ:=λ(i:Nat)=>D.int (i:Int)) w .no (λi _=>by
   simp only [Qc,xb,zD,zj,zr,yh,aq,ai,Ki,mD]) (λi _ _=>rfl)
  rw [List.filter_eq_nil_iff.mpr (λ_ _=>by simp),aP] at c
  have hz:(w.map λ(i:Nat)=>D.int (i:Int)).length<=sizeLine:=by rw [az]; exact bb (by omega)
  have wd:zR w=.tup (w.map λ(i:Nat)=>D.int (i:Int)):=rfl
  have l:kX [.lst []]=some (.int 0):=rfl
  have n:Yu ((w :: W).map zR) ((w :: W).map zR)=.tup [zR w,zR w] :: Yu (W.map zR) (W.map zR):=rfl
  have body:saB [a0,a1,.fr (zR w),.fr (zR w)]=some (.nx [a0,a1,.fr (zR w),.fr (zR w)]):=by
   unfold saB
   rw [y6,Jv]
   have j:CQ (aU (YH (T9 "tuple") (vF 2))) [a0,a1,.fr (zR w),.fr (zR w)]=some false:=by
    simp only [Qc,xb,ZC,yh,aq,aB,ai,Fu,ty,mD]
   have g:aU (zt c_ (vF 2) (vF 3)) [a0,a1,.fr (zR w),.fr (zR w)]=some false:=by
    simp only [xb,zx,yh,aq,aB,ai,k]
   have d:aU (zt lh (yo kX (zf (xD (jI 1 [] (yU (vF 2)) (zS 0) (CQ (aU (yo v8 (zf (vF 0) yb)))) (vF 0))) yb)) (cF (.int 0))) [a0,a1,.fr (zR w),.fr (zR w)]=some false:=by
    simp only [xb,zx,zD,zj,zr,zM,xj,zF,yh,xR,aq,aB,ai,wd,KM,if_pos hz,xA,aP,aF,bz,a_,c,b8,l,ML]
    rfl
   rw [j,ai]
   simp only [cS,if_false]
   rw [Jv,g,ai]
   simp only [cS,if_false]
   rw [d]
   rfl
  rw [n,z9]
  simp only [qB,vJ,yL,qD,ao,aE,Nat.reduceAdd,if_true,aV,aT,ai]
  rw [body]
  exact e
def B9 (W:List (List Nat)) (h:∀ w∈W,w.length<=90):jv [.lst (W.map zR),.lst (W.map zR)]=some (.bl true):=by
 obtain ⟨s2,c,e⟩:=KI (.fr (.lst (W.map zR))) (.fr (.lst (W.map zR))) W .no .no h
 have ty:VR (lE (.lst (W.map zR))) "list"=true:=rfl
 have b:kX [.lst (W.map zR)]=some (.int (W.length:Int)):=by simp
 have a:c_ (.int (W.length:Int)) (.int (W.length:Int))=some (.bl false):=Gs (dm _)
 unfold saB at e
 simp only [jv,Wd,z5,zB,au,aP,ao,aE,Nat.reduceAdd,Nat.reduceSub,aF,bz,a_]
 rw [zy (F:=dh _ _ _),y6]
 simp only [Jv,Qc,xb,ZC,zx,zD,zj,zr,yh,aq,aB,ai,Fu,ty,mD,cS,if_false,b,a,uB]
 rw [zy (F:=Vf _ _ _),xY]
 simp only [kP,zF,yh,aq,aB,ai,xh]
 rw [e]
 rfl
section
variable {ts:List T3} {n:Nat}
def N2 (a:xv [ze n ts,.int most]=some (.bl true)):vo [ze n ts,.int most]=some (.ex "TooMany"):=by
 simp only [vo,P3,Zf,zB,au,aP,ao,aE,Nat.reduceAdd,Nat.reduceSub,aF,bz,a_,sqX,ifX,exX,xb,zD,zj,zr,yh,aq,aB,ai,a,if_true,T4]
def Gj (o):T4 (o.map OutX.o)=(V8 o).map RX.v:=by
 cases o with
 | none=>rfl
 | some o=>cases o <;> rfl
def N3 (b:xv [ze n ts,.int most]=some (.bl false)) (a:js [ze n ts,.int most]=some d):vo [ze n ts,.int most]=some (.v d):=by
 have a:V8 (ud (dh _ _ _) _ [.fr (ze n ts),.fr (.int most),.no,.no])=some d:=a
 rw [zy (F:=dh _ _ _),y6] at a
 simp only [xb,zD,zj,zr,yh,aq,aB,ai,b,cS,if_false,uB] at a
 simp only [vo,P3,Zf,zB,au,aP,ao,aE,Nat.reduceAdd,Nat.reduceSub,aF,bz,a_,sqX,ifX,nxX,xb,zD,zj,zr,yh,aq,aB,ai,b,cS,if_false,SA]
 rw [Gj]
 exact congrArg (Option.map RX.v) a
end
def Km (h1:1<=n) (e:n<=4) (a:TR n ts) (d:(ts.map λu=>(u.1,u.2.1)).Nodup):ts.length < 2 ^ n:=by
 have key:∀ L:List (Int×Int),(∀ t∈ts,(t.1,t.2.1)∈L)->ts.length<=L.length:=λL h=>by
  have:=kb d λx b=>by
   obtain ⟨t,ht,rfl⟩:=aR.mp b
   exact h t ht
  simpa using this
 have c:n=1\/n=2\/n=3\/n=4:=by omega
 rcases c with rfl | rfl | rfl | rfl
 .have:=key [] λt ht=>by have:=(a t ht).2; omega
  simp only [ao,aE] at this
  show ts.length < 2
  omega
 .have:=key [(0,1)] λt ht=>by have:=(a t ht).2; simp; omega
  simp only [ao,aE] at this
  show ts.length < 4
  omega
 .have:=key [(0,1),(0,2),(1,2)] λt ht=>by have:=(a t ht).2; simp; omega
  simp only [ao,aE] at this
  show ts.length < 8
  omega
 .have:=key [(0,1),(0,2),(1,2),(0,3),(1,3),(2,3)] λt ht=>by have:=(a t ht).2; simp; omega
  simp only [ao,aE] at this
  show ts.length < 16
  omega
def law_true (ns:List Int) (O:ns.length<=63):g_law [.lst (ns.map D.int)]=some (.bl true):=by
 obtain ⟨n,ts,h1,g,o,B,U,hh⟩:=G3 ns O
 have hg:zT ts:=λt ht=>(o t ht).1
 have R:Wi n ts:=λt ht=>(o t ht).2
 have r:(ts.map λu=>(u.1,u.2.1)).Nodup:=by
  rw [iy,nE] at B ⊢
  exact B.imp λ{a b} h z=>h (by
   injection z with z1 z2
   show [Lh a.1,Lh a.2.1]=[Lh b.1,Lh b.2.1]
   rw [z1,z2])
 have pv:=Uh hg g
 obtain ⟨k,p⟩:=Mm ns 0 (by omega)
 have S:kA [.lst (ns.map D.int),.int 0]=some (.int k):=p
 obtain ⟨z,_,H⟩:=Ud k 4 (by omega)
 have E:uk [.int k,.int 4]=some (.int z):=H
 obtain ⟨m,L,G⟩:=CV (uL ts n 100 [[]] 0) z
 obtain ⟨more,few⟩:=CY hg r R h1 g (by omega) L
 obtain ⟨_,nd,len,_⟩:=jl (ts:=ts) (n:=n) 100 [[]] 0 (λv f=>by rw [hJ] at f; subst f; exact λi h=>(by cases h)) (by simp) (by simp) (λq w A=>by omega) (by omega) (by simp; omega)
 obtain ⟨I,_⟩:=Ui (ts:=ts) g .no .no 100 100000 [[]] 0 .no .no (λv f=>by rw [hJ] at f; subst f; exact λi h=>(by cases h)) (by simp) (λq w h=>by
  cases q with
  | zero=>cases h; simp
  | succ q=>cases h) (by simp) (by omega) (by omega)
 have C:∀ w∈uL ts n 100 [[]] 0,w.length<=90:=λw J=>by
  obtain ⟨q,A,e⟩:=oM.mp J
  have:=I q w (by rw [dq A,e])
  omega
 have P:ay (ze n ts) (.int 0)=some (.int n):=by unfold ze; exact eT
 have l:ay (ze n ts) (.int 1)=some (.lst (ts.map tD)):=by unfold ze; exact gX
 have hd:D.tup [.int n,.lst (ts.map tD)]=ze n ts:=rfl
 have z2:0+1+1<=sizeLine:=bb (by decide)
 have s:=B9 (uL ts n 100 [[]] 0) C
 have Q:GL (.lst (ns.map D.int)):=by
  refine ⟨ze n ts,n,ts,(uL ts n 100 [[]] 0).map zR,m,?_,?_⟩
  .simp only [F_0,F_1,F_2,F_3,zy,yH,zD,zj,zr,yh,xR,aq,aB,ai,hh,aV,aT,pv,S,E,G,ux,zx,P,l,zM,KR,b8,ao,aE,if_pos z2]
  .rw [hd,az]
   by_cases c:m < ((uL ts n 100 [[]] 0).length:Int)
   .rw [decide_eq_true c] at more
    exact .inl ⟨N2 more,c,Hu (Vo n ts)⟩
   .obtain ⟨M,y,x,W⟩:=few c
    rw [decide_eq_false c] at more
    have d:=Jy hg g y x more
    have X:=(Up hg y x (F:=100) (j:=61) (by omega) (by omega)).2
    have T:=Km h1 g o r
    have p2:0 < 2 ^ n:=Nat.pow_pos (by decide)
    refine .inr ⟨(uL ts n 100 [[]] 0).map zR,by rw [az]; omega,N3 more d,c,by rw [az]; omega,by rw [az]; exact yQ (by omega),s,?_⟩
    have es:=Hu (Vo n ts)
    simp only [F_t,yc,Fv,zD,zj,zr,zx,yh,aq,aB,ai,d,s,if_true,es]
 show @ite _ (GL (.lst (ns.map D.int))) (E7 _) (some (D.bl true)) none=_
 rw [if_pos Q]
end Pk71
def PySem.W.Fast.tw5414340104604668058:=0
def PySem.W.Fast.tw6399882991428738971:=0
def PySem.W.Fast.tw17735257065262100518:=0
def PySem.W.Fast.tw690679248473690933:=0
def PySem.W.Fast.tw9919619641574710503:=0
def PySem.W.Fast.tw9215684634231630377:=0
def PySem.W.Fast.tw1576271132894753087:=0
def PySem.W.Fast.tw16071158772956010996:=0
def PySem.W.Fast.tw7610432295744052106:=0
def PySem.W.Fast.tw1237858983629424657:=0
def PySem.W.Fast.tw5948599294890715757:=0
def PySem.W.Fast.tw12612823272906225495:=0
def PySem.W.Fast.tw5677099589368930374:=0
def PySem.W.Fast.tw10417860451194438367:=0
def PySem.W.Fast.tw7237613444895832559:=0
def PySem.W.Fast.tw14453828734090554317:=0
def PySem.W.Fast.tw14840060792315992549:=0
def PySem.W.Fast.tw5011621159325928498:=0
def PySem.W.Fast.tw4842744407383790114:=0
def PySem.W.Fast.tw8792963243085714952:=0
def PySem.W.Fast.tw12699204500859411033:=0
def PySem.W.Fast.tw557860237458596190:=0
def PySem.W.Fast.tw6215008754537910855:=0
def PySem.W.Fast.tw6113599323709361258:=0
def PySem.W.Fast.tw15550280199063834540:=0
def PySem.W.Fast.tw767899451900743036:=0
def PySem.W.Fast.tw2800574681398378978:=0
def PySem.W.Fast.tw14498352916743839762:=0
def PySem.W.Fast.tw14266361771577079169:=0
def PySem.W.Fast.tw9011918877343070767:=0
def PySem.W.Fast.tw14809015307724131815:=0
def PySem.W.Fast.tw18087727580329656170:=0
def PySem.W.Fast.tw14020699297844327398:=0
def PySem.W.Fast.tw5854323759932791936:=0
def PySem.W.Fast.tw5112489267628229241:=0
def PySem.W.Fast.tw156508325707515383:=0
def PySem.W.Fast.tw15898214957765245039:=0
def PySem.W.Fast.tw7187706487766456541:=0
def PySem.W.Fast.tw2593629447078196922:=0
def PySem.W.Fast.tw7224419004532972062:=0
def PySem.W.Fast.tw16326463495047510010:=0
def PySem.W.Fast.tw13151921468658643797:=0
def PySem.W.Fast.tw11866499634385828105:=0
def PySem.W.Fast.tw9154729382352648715:=0
def PySem.W.Fast.tw13757437848140060134:=0
def PySem.W.Fast.tw16558497514522473076:=0
def PySem.W.Fast.tw13145324786895544130:=0
def PySem.W.Fast.tw3839554391304325705:=0
def PySem.W.Fast.tw5585876731046894189:=0
def PySem.W.Fast.tw6499850693707439859:=0
def PySem.W.Fast.tw6954251642603594377:=0
def PySem.W.Fast.tw11560723277512601135:=0
def PySem.W.Fast.tw14755251377377476382:=0
def PySem.W.Fast.tw7438600763165494439:=0
def PySem.W.Fast.tw15997921664006152219:=0
def PySem.W.Fast.tw7601182445394714603:=0
def PySem.W.Fast.tw229255878571414138:=0
def PySem.W.Fast.tw1471915559919255812:=0
def PySem.W.Fast.tw4050441845714945116:=0
def PySem.W.Fast.tw13787341456406859959:=0
def PySem.W.Fast.tw6828315998096677813:=0
def PySem.W.Fast.tw4185849585977815204:=0
def PySem.W.Fast.tw14494795746829508687:=0
def PySem.W.Fast.tw5177584141930284675:=0
def PySem.W.Fast.tw17967871753627114178:=0
def PySem.W.Fast.tw1611490621362244042:=0
def PySem.W.Fast.tw7965313019392120192:=0
def PySem.W.Fast.tw1061303950426965736:=0
def PySem.W.Fast.tw3540959699479661466:=0
def PySem.W.Fast.tw401032038447274000:=0
def PySem.W.Fast.tw11806249136063987590:=0
def PySem.W.Fast.tw8154498035862658190:=0
def PySem.W.Fast.tw15303594335673335030:=0
def PySem.W.Fast.tw8906624439474659650:=0
def PySem.W.Fast.tw15806660293285659525:=0
def PySem.W.Fast.tw1731940340509815936:=0
def PySem.W.Fast.tw13420775638930499974:=0
def PySem.W.Fast.tw17789276275760200246:=0
def PySem.W.Fast.tw2499197579785039216:=0
def PySem.W.Fast.tw3491079409855616485:=0
def PySem.W.Fast.tw12717226681826516675:=0
def PySem.W.Fast.tw18319674260286043101:=0
def PySem.W.Fast.tw308146694486791064:=0
def PySem.W.Fast.tw6214141488176791142:=0
def PySem.W.Fast.tw13370322453122809881:=0
def PySem.W.Fast.tw11482349547777425392:=0
def PySem.W.Fast.tw6165241788850417089:=0
def PySem.W.Fast.tw14696024044833154102:=0
def PySem.W.Fast.tw9308539202990972347:=0
def PySem.W.Fast.tw13004578494996942822:=0
def PySem.W.Fast.tw18295584547364141623:=0
def PySem.W.Fast.tw12508933696227576363:=0
def PySem.W.Fast.tw5738872404226925321:=0
def PySem.W.Fast.tw7142770117758142329:=0
def PySem.W.Fast.tw5014184947548083208:=0
def PySem.W.Fast.tw17284262926823720836:=0
def PySem.W.Fast.tw6845006949527369521:=0
def PySem.W.Fast.tw11572082978534388043:=0
def PySem.W.Fast.tw13850114318870131128:=0
def PySem.W.Fast.tw7727261615179882511:=0
def PySem.W.Fast.tw17261581678809018069:=0
def PySem.W.Fast.tw3929281842968244878:=0
def PySem.W.Fast.tw15665097206218394956:=0
def PySem.W.Fast.tw4394566036187827733:=0
def PySem.W.Fast.tw2943115321998069910:=0
def PySem.W.Fast.tw14255680596146824940:=0
def PySem.W.Fast.tw4751957293406256745:=0
def PySem.W.Fast.tw8320728354802574863:=0
def PySem.W.Fast.tw18415273653376537205:=0
def PySem.W.Fast.tw14913925920169623023:=0
def PySem.W.Fast.tw5789565141429630573:=0
def PySem.W.Fast.tw15851445687650553220:=0
def PySem.W.Fast.tw9239741885980002979:=0
def PySem.W.Fast.tw359741857004773327:=0
def PySem.W.Fast.tw17595426855963344329:=0
def PySem.W.Fast.tw8903847376617694532:=0
def PySem.W.Fast.tw8064204892630473312:=0
def PySem.W.Fast.tw8907361055610017352:=0
def PySem.W.Fast.tw18401608917876589098:=0
def PySem.W.Fast.tw6443734776407557338:=0
def PySem.W.Fast.tw6266591671145057382:=0
def PySem.W.Fast.tw16260759669556540054:=0
def PySem.W.Fast.tw7588499732108965577:=0
def PySem.W.Fast.tw15444044849234753273:=0
def PySem.W.Fast.tw8975618359966710614:=0
def PySem.W.Fast.tw9681332028887681239:=0
def PySem.W.Fast.tw15440501042835438823:=0
def PySem.W.Fast.tw5448512661708490946:=0
def PySem.W.Fast.tw18236459275811737262:=0
def PySem.W.Fast.tw135448842495669382:=0
open PySem PySem.W PyProof.Rows FL L2 in
set_option maxRecDepth 100000 in
set_option maxHeartbeats 0 in
theorem PySem.Challenge.cw_mirrorhouse_k71_places_holds : PySem.Challenge.rw_mirrorhouse_k71_places.Holds := by
 w_on; refine holds_law (by kernel_rfl) λsaid=>?_; k_head; (case hw=>w_witness2)
 k_fill
 refine L2.walk_ofK (l:=PySem.Challenge.rw_mirrorhouse_k71_places) (n:=63) (k:=13) (x:="_law_script") (CX:=bg) (sp:=λK=>FL.spF K 1 Pk71.g_law) rfl (by decide) rfl ⟨rfl,by decide,by decide⟩ (λw h Y=>PySem.W.kIn_of Y) ?F (λK H a ns hl _ hS=>FL.law_sp hS (Pk71.law_true ns hl)) (λ_ _ _ _ z=>z)
 case F =>
  intro w mg fa h KX G Ac
  refine' Pk71.all_mk KX G Ac ?d0 ?d1 ?d2 ?d3 ?d4 ?d5 ?d6 ?d7 ?d8 ?d9 ?d10 ?d11 ?d12 ?d13 ?d14 ?d15 ?d16 ?d17 ?d18 ?d19 ?d20 ?d21 ?d22 ?d23 ?d24 ?d25 ?d26 ?d27 ?d28 ?d29 ?d30 ?d31 ?d32 ?d33 ?d34 ?d35 ?d36 ?d37 ?d38 ?d39 ?d40 ?d41 ?d42 ?d43 ?d44 ?d45 ?d46 ?d47 ?b_ValueError ?b_all ?b_bool ?b_enumerate ?b_int ?b_isinstance ?b_len ?b_list ?b_max ?b_min ?b_range ?b_reversed ?b_sorted ?b_tuple ?b_zip ?q_0c ?q_1c ?q_2c ?r_2c ?q_3c ?q_4c ?r_4c ?q_5c ?r_5c ?r_5c_0 ?r_5c_1 ?r_5c_2 ?r_5c_3 ?r_5c_4 ?r_5c_5 ?q_6c ?r_6c ?r_6c_0 ?r_6c_1 ?r_6c_2 ?r_6c_3 ?r_6c_4 ?kr_y_6c ?kr_z_6c_0 ?kr_z_6c_1 ?kr_z_6c_2 ?kr_z_6c_3 ?kr_z_6c_4 ?q_7c ?r_7c ?r_7c_0 ?r_7c_1 ?r_7c_2 ?r_7c_3 ?r_7c_4 ?r_7c_5 ?kr_y_7c ?kr_z_7c_0 ?kr_z_7c_1 ?kr_z_7c_2 ?kr_z_7c_3 ?kr_z_7c_4 ?kr_z_7c_5 ?enN ?enH ?enE ?enT ?enW ?enM ?ec1 ?ec2 ?ec3 ?eokM ?ec4M ?eg1M ?eg2M ?eg3M ?eg4M ?eg5M ?eg6M ?eg7M ?eg8M ?ek1M ?ek2M ?ek3M ?knl
  any_goals first | exact ⟨_,_,_,_,_,_,_,_,_,_,by k_is,by k_is,by k_is,by k_is⟩ | skip
  (case b_ValueError=>k_is)
  (case b_all=>k_is)
  (case b_bool=>k_is)
  (case b_enumerate=>k_is)
  (case b_int=>k_is)
  (case b_isinstance=>k_is)
  (case b_len=>k_is)
  (case b_list=>k_is)
  (case b_max=>k_is)
  (case b_min=>k_is)
  (case b_range=>k_is)
  (case b_reversed=>k_is)
  (case b_sorted=>k_is)
  (case b_tuple=>k_is)
  (case b_zip=>k_is)
  (case q_0c=>k_is)
  (case q_1c=>k_is)
  (case q_2c=>k_is)
  (case r_2c=>k_is)
  (case q_3c=>k_is)
  (case q_4c=>k_is)
  (case r_4c=>k_is)
  (case q_5c=>k_is)
  (case r_5c=>k_is)
  (case r_5c_0=>k_is)
  (case r_5c_1=>k_is)
  (case r_5c_2=>k_is)
  (case r_5c_3=>k_is)
  (case r_5c_4=>k_is)
  (case r_5c_5=>k_is)
  (case q_6c=>k_is)
  (case r_6c=>k_is)
  (case r_6c_0=>k_is)
  (case r_6c_1=>k_is)
  (case r_6c_2=>k_is)
  (case r_6c_3=>k_is)
  (case r_6c_4=>k_is)
  (case kr_y_6c=>kernel_rfl)
  (case kr_z_6c_0=>kernel_rfl)
  (case kr_z_6c_1=>kernel_rfl)
  (case kr_z_6c_2=>kernel_rfl)
  (case kr_z_6c_3=>kernel_rfl)
  (case kr_z_6c_4=>kernel_rfl)
  (case q_7c=>k_is)
  (case r_7c=>k_is)
  (case r_7c_0=>k_is)
  (case r_7c_1=>k_is)
  (case r_7c_2=>k_is)
  (case r_7c_3=>k_is)
  (case r_7c_4=>k_is)
  (case r_7c_5=>k_is)
  (case kr_y_7c=>kernel_rfl)
  (case kr_z_7c_0=>kernel_rfl)
  (case kr_z_7c_1=>kernel_rfl)
  (case kr_z_7c_2=>kernel_rfl)
  (case kr_z_7c_3=>kernel_rfl)
  (case kr_z_7c_4=>kernel_rfl)
  (case kr_z_7c_5=>kernel_rfl)
  (case enN=>k_is)
  (case enH=>k_is)
  (case enE=>k_is)
  (case enT=>k_is)
  (case enW=>k_is)
  (case enM=>k_is)
  (case ec1=>k_is)
  (case ec2=>k_is)
  (case ec3=>k_is)
  (case eokM=>k_exc)
  (case ec4M=>k_is)
  (case eg1M=>k_is)
  (case eg2M=>k_is)
  (case eg3M=>k_is)
  (case eg4M=>k_is)
  (case eg5M=>k_is)
  (case eg6M=>k_is)
  (case eg7M=>k_is)
  (case eg8M=>k_is)
  (case ek1M=>kit_is)
  (case ek2M=>kit_is)
  (case ek3M=>kit_is)
  (case knl=>kernel_rfl)
