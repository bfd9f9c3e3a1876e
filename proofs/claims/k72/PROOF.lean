import PyProof.Rows.All
import Wide.All
import OpenK.AllK
import Wide.FinOn
import PyProof.EqAt
import PyProof.EqKinds
import PyProof.TupleCall
import PyProof.ListMulAny
import KE.KIsAll
import Lean
import PySem.Challenge.RW_mirrorhouse_k72_whole_places
set_option tactic.hygienic false
set_option bootstrap.genMatcherCode false
set_option compiler.extract_closed false
set_option linter.all false
set_option Elab.async false
open Nat renaming reduceAdd->q0,reduceSub->q4
open PySem renaming wpAny_bind->be,wpAny_pure->mo,starEach->Ei,wpAny->Ek,mainGlobals->Er,wpAny_call_entry->Eu,Program->Ex,wpAny_callSpecial?_slot->Ey,model->EA,wpAny_mono->EB,wpAny_field->EC,wpAny_setField_rec->EF,sizeLine_eq->EK,wpAny_loadPart'->EN,World->ER,wpAny_newObj_type->ES,behindInMarks->EU,wpAny_truthy_bool->EX,wpAny_isInstance->EZ,bootBuiltins->E4,wpAny_holding->E8,backTo->F_,compareOp->G_,wpAny_specialOf->Ia,wpAny_attempt->Ic,builtinLookup_eq_fast->Ig,wpAny_seqItems->Ii,wpAny_rule->Io,strKind->Ir,assignEach->Iu,isSubtype_type->Iv,binaryOp->Iw,FuncData->Iy,wpAny_Call_Name_kw->Iz,wpAny_passesOwn->IB,sysModules->ID,rawInt->IF,swapsWith->II,DictEntry->IK,cLine->IM,mem_of_lookup->IP,wpAny_of_eq->IQ,intKind->IS,wpAny_execs_nil->IT,typeLookup_type->IX,wpAny_tupleItemsOf->IZ,Spec->Lb,foldedSetIterable->Lc,IsPair->Lh,letOwnedTupleGo->Ln,sliceBounds->Lo,valueAt->Lp,isSubtype_stop->Ly,Keyword->LJ,attributeBase->LL,plainId_quiet->LM,wpAny_forIn_list->LP
open PySem.Heap renaming get?_push_of_some->ls,get?_push_size->Ej,lt_size->El,get?_update_other->K_,size_push->Ld,get?_update_self->Lf,get?_push_ne->LC
open PySem.W renaming Frag->Eh,mg_none_of->E1,nsIn->IH,kia_one->IV,hideAll_get->Lm,KasT->Lw,mg_of->Lz
open PySem.PassesOwn renaming never->Ep
open Classical renaming byContradiction->Et,propDecidable->IU
open PySem.Str renaming ofString->Ez,empty->Ib
open PySem.Builtin.Range renaming rangeSize->EG
open PySem.Builtin.SmallTypes renaming nextOf->EH,ownedTupleIsFree->EO,ownedTupleHandOut->E9
open PyProof.Rows renaming slot_tuple_getitem->EI,callWith_type1->EM,seqObj->IY
open PySem.NameKind renaming free->EL
open Prod.mk renaming injEq->ET
open PySem.Obj renaming mapSeq->EV
open PySem.Builtin.List renaming listTooLong->EY,listFitsIndex->Lr
open Or renaming inr->E2,inl->Im
open PySem.Value renaming bool->E3,none->E_,ref->Ij,isInt->IA
open PySem.Builtin.Tuple renaming tupleExact->E5,tupleHashOf->Ih,tupleItemsOf->Lq
open Int renaming emod_lt_of_pos->E6,toNat_natCast->Il,emod_nonneg->Ip,mul_assoc->IE,toNat->IL,mul_comm->Li,mul_nonneg->LA
open Ne renaming symm->E7
open Array renaming length_toList->H_
open PySem.F renaming slot_enumerate_next->Ie,slot_tuple_iterator_next->IG,slot_enumerate_iter->Lg,args_tuple_add_2->LB,slot_tuple_hash->LD,entry_tuple_add->LK,slot_tuple_add->LR
open False renaming elim->Ik
open Function renaming comp->Iq
open PySem.Builtin.Slice renaming slicePlaces->IJ,sliceAdjust->Lx
open ForInStep renaming yield->IW
open Nat renaming strongRecOn->I_,not_lt->Ll,lt_trichotomy->LF
open Prod renaming mk->J_,ext->Lu
open PySem.Around renaming under_plainId->Lk
open PySem.Calls renaming spliced_cons->Ls
open List renaming filter_congr->LG,map_drop->LN,range'->LO,zipWith_cons_cons->LS
open PySem.Builtin.Str renaming occurrences->LI
open Option renaming bind_some->af,map_some->bL,bind_eq_some_iff->ie,map_eq_some_iff->iB,some->ml,getD_some->AX
open List renaming getElem?_cons_zero->ao,getElem?_cons_succ->ay,length_cons->aB,length_map->aD,set_cons_zero->aM,set_cons_succ->aN,mem_cons_of_mem->aZ,mem_cons_self->aV,map_cons->aC,length_append->aW,length_nil->aI,getD_eq_getElem?_getD->bR,replicate->aP,mem_cons->aS,range->aK,nil_append->bw,cons_append->bJ,all_eq_true->bS,map_append->bK,map_nil->bg,append_nil->bX,length_singleton->di,size_toArray->cx,mem_map->bu,map_map->bz,getElem?_map->cK,getElem?_eq_getElem->fg,mem_append->cQ,append_assoc->dh,mem_append_right->e9,map_congr_left->fH,getElem?_append_right->iC,mem_range->dA,getElem?_set->ff,getElem?_eq_none->gQ,getElem?_eq_some_iff->iS,getElem?_append_left->lZ,pairwise_cons->ic,mem_filter->gp,mem_append_left->lY,lookup_cons->iA,length_range->iQ,pairwise_map->iP,singleton_append->nF,length_eq_zero_iff->n8,range_succ_eq_map->n6,replicate_succ->nE,getElem?_replicate->pj,reverse_cons->mn,nodup_iff_pairwise_ne->sr,reverse_reverse->n5,mem_filterMap->nD,map->dI,length_reverse->n4,flatMap_cons->nC,dropLast_concat_getLast->A3,mem_singleton->n1,take_of_length_le->so,flatten_cons->n0,lookup->h_,foldl_cons->nB,eq_nil_of_length_eq_zero->g2x,any_eq_true->nZ,mem_of_getElem?->sk,ext_getElem?->ph,nodup_append->pg,nodup_cons->nY,getElem?_range->sd,length_pos_iff->r_,filterMap_cons->A2,mem_map_of_mem->A1,filter_eq_self->A0,getElem_mem->rX,mem_flatMap->rW,find?_cons_of_neg->g3r,drop_of_length_le->g3s,length->ny,length_replicate->g3u,length_filter_le->g3w,perm_ext_iff_of_nodup->g3x,mem_iff_getElem->g3y,drop_eq_getElem_cons->g3z,pairwise_iff_getElem->g4a,length_take->AZ,ext_getElem->AW,toArray->pd,filter_cons_of_pos->g4i,filter_cons_of_neg->g4j
open Nat renaming le_refl->aT,zero_add->b_,ne_of_lt->cZ,lt_of_lt_of_le->fZ,zero_le->dJ,le_trans->fc,lt_irrefl->mm,lt_of_le_of_lt->rZ,lt_succ_of_lt->rY,min_eq_left->pf,le_of_lt->nA,le_succ->mj,ble_eq_true_of_le->g3v,lt_succ_self->AY,min_eq_right->AV
open Bool renaming false_eq_true->b5,and_eq_true->dR,false_ne_true->iR,not_true->iz,or_eq_true->AU
set_option autoImplicit true
set_option relaxedAutoImplicit true
set_option maxRecDepth 100000
namespace L2
open PySem PySem.Spec PyProof.Rows
abbrev Key:=Sum Int Str
def TH:Key->Value->Bool
 | .inl k,v=>IA k v
 | .inr x,v=>Value.isStrOf x v
def ze2 (w:ER):Key->Int
 | .inl k=>hashInt k
 | .inr x=>hashStr w x
def xk:∀ {k:Key} {v:Value},TH k v=true->(∃ i t,k=Sum.inl i/\v=Value.int i t)\/(∃ x t,k=Sum.inr x/\v=Value.str x t)
 | .inl i,v,h=>by
  obtain ⟨t,e⟩:=Value.isInt_shape (k:=i) (v:=v) h
  exact .inl ⟨i,t,rfl,e⟩
 | .inr x,v,h=>by
  obtain ⟨t,e⟩:=Value.isStrOf_shape (x:=x) (v:=v) h
  exact .inr ⟨x,t,rfl,e⟩
def TF (a b):decide ((Sum.inl a:Key)=Sum.inl b)=(a==b):=by
 by_cases e:a=b
 .subst e; simp
 .have h:¬ (Sum.inl a:Key)=Sum.inl b:=λq=>e (Sum.inl.inj q)
  rw [decide_eq_false h]
  exact (beq_eq_false_iff_ne.mpr e).symm
def Tz (a b):decide ((Sum.inr a:Key)=Sum.inr b)=decide (a=b):=by
 by_cases e:a=b
 .subst e; simp
 .have h:¬ (Sum.inr a:Key)=Sum.inr b:=λq=>e (Sum.inr.inj q)
  rw [decide_eq_false h,decide_eq_false e]
def TC (a) (b:Str):decide ((Sum.inl a:Key)=Sum.inr b)=false:=decide_eq_false (λq=>nomatch q)
def TB (a) (b:Int):decide ((Sum.inr a:Key)=Sum.inl b)=false:=decide_eq_false (λq=>nomatch q)
def HH (prog:Ex) (w:ER):PySem.KeyKind prog w Key where
 is:=TH
 hash:=ze2 w
 inj:=λv a b g d=>by
  rcases xk g with ⟨i,t,rfl,rfl⟩ | ⟨x,t,rfl,rfl⟩
  .rcases xk d with ⟨j,u,rfl,e⟩ | ⟨y,u,rfl,e⟩
   .injection e with e1 _; rw [e1]
   .exact nomatch e
  .rcases xk d with ⟨j,u,rfl,e⟩ | ⟨y,u,rfl,e⟩
   .exact nomatch e
   .injection e with e1 _; rw [e1]
 byValue:=λk v h=>by
  rcases xk h with ⟨i,t,rfl,rfl⟩ | ⟨x,t,rfl,rfl⟩ <;> rfl
 pyHash:=λc h=>by
  rcases xk c with ⟨i,t,rfl,rfl⟩ | ⟨x,t,rfl,rfl⟩
  .exact wpAny_pyHash_int h
  .exact wpAny_pyHash_str h
 eqBool:=λf c h=>by
  rcases xk f with ⟨i,t,rfl,rfl⟩ | ⟨x,t,rfl,rfl⟩
  .rcases xk c with ⟨j,u,rfl,rfl⟩ | ⟨y,u,rfl,rfl⟩
   .rw [TF] at h; exact wpAny_eqBool_int h
   .rw [TC] at h; exact SeqAt.EqAt.int_str i t y u _ _ _ _ h
  .rcases xk c with ⟨j,u,rfl,rfl⟩ | ⟨y,u,rfl,rfl⟩
   .rw [TB] at h; exact SeqAt.EqAt.str_int x t j u _ _ _ _ h
   .rw [Tz] at h; exact wpAny_eqBool_str h
 «strs» := λk x t v h=>by
  rcases xk h with ⟨i,u,rfl,e⟩ | ⟨y,u,rfl,e⟩
  .exact nomatch e
  .injection e with e1 _
   subst e1
   cases v <;> rfl
inductive V where
 | non | bl (b:Bool) | int (i:Int) | str (x:Str) | byt (b:Array UInt8) | flt (b:UInt64) | ref (a:Addr) | ty (n:String)
 deriving DecidableEq
def xv:V->Value->Prop
 | .non,u=>u=E_
 | .bl b,u=>u=E3 b
 | .int i,u=>∃ t,u=Value.int i t
 | .str x,u=>∃ t,u=Value.str x t
 | .byt b,u=>∃ t,u=Value.bytes b t
 | .flt b,u=>∃ t,u=Value.float b t
 | .ref a,u=>u=Ij a
 | .ty n,u=>u=Value.type n
abbrev yR:List V->List Value->Prop:=Paired xv
def yR.length (r:yR xs us):xs.length=us.length:=Paired.length r
theorem yR.get:∀ {xs:List V} {us:List Value} {i:Nat} {x:V},yR xs us->xs[i]? = some x->∃ u,us[i]? = some u/\xv x u
 | _,_,_,_,.nil,e=>by simp at e
 | _,_,0,_,.cons r _,e=>by simp at e; subst e; exact ⟨_,rfl,r⟩
 | _,_,i+1,x,.cons _ t,e=>by
  obtain ⟨u,h1,h2⟩:=yR.get (i:=i) (x:=x) t (by simpa using e)
  exact ⟨u,by simpa using h1,h2⟩
theorem yR.set (r:xv x u):∀ {xs:List V} {us:List Value} (i:Nat),yR xs us->yR (xs.set i x) (us.set i u)
 | _,_,_,.nil=>.nil
 | _,_,0,.cons _ t=>.cons r t
 | _,_,i+1,.cons q t=>.cons q (yR.set r i t)
theorem yR.append:∀ {xs ys:List V} {us a:List Value},yR xs us->yR ys a->yR (xs++ys) (us++a)
 | _,_,_,_,.nil,s=>s
 | _,_,_,_,.cons r t,s=>.cons r (yR.append t s)
theorem yR.take:∀ {xs:List V} {us:List Value} (n:Nat),yR xs us->yR (xs.take n) (us.take n)
 | _,_,0,_=>.nil
 | _,_,_+1,.nil=>.nil
 | _,_,n+1,.cons r t=>.cons r (yR.take n t)
theorem yR.drop:∀ {xs:List V} {us:List Value} (n:Nat),yR xs us->yR (xs.drop n) (us.drop n)
 | _,_,0,r=>r
 | _,_,_+1,.nil=>.nil
 | _,_,n+1,.cons _ t=>yR.drop n t
def zeb:Option V->Option Value->Prop
 | some v,some u=>xv v u
 | none,none=>True
 | _,_=>False
def KV {κ:Type}:List (κ×V)->List (κ×Value)->Prop:=Paired λ(p:κ×V) (q:κ×Value)=>p.1=q.1/\xv p.2 q.2
def kV:Key->V
 | .inl i=>.int i
 | .inr x=>.str x
inductive HO where
  | lst (xs:List V)
  | tup (xs:List V)
  | dK (aJ:List (Key×V)) | dT (aJ:List (List Key×V))
  | set (S:Int->Bool) (n:Nat)
  | ins (C dx:Addr) (fs:List (Str×V))
  | own (x:Addr)
  | xd (fs:List (Str×V))
  | met (f x:Addr)
  | rng (lo hi:Int)
  | frz (o:Obj) (u:HO)
  | tbl (ps:Array Value)
  | ext (φ:Heap->Prop)
abbrev Hp:=Addr->Option HO
def upd (H:Hp) (a:Addr) (o:HO):Hp:=λb=>if b=a then some o else H b
def zI    : upd H a o a=some o:=by unfold upd; rw [if_pos rfl]
def z6 (h:b≠a):upd H a o b=H b:=by unfold upd; rw [if_neg h]
def yq {H:Hp} (h:H a=some o) (h':H b=none):a≠b:=by
 intro e; subst e; rw [h] at h'; cases h'
section
variable (P:Ex) (w:ER)
def vD (H:Hp) (h:Heap) (a:Addr):HO->Prop
 | .lst xs=>xs.length<=sizeLine/\∃ (ah:List Value) (n:Nat),yR xs ah/\h.get? a=some { cls:=.type "list",data:=.seq ah.toArray n }
 | .tup xs=>xs.length<=sizeLine/\∃ ah:List Value,yR xs ah/\IsTup h a ah.toArray
 | .dK aJ=>aJ.length<=sizeLine/\(a==ID)=false/\∃ vs,KV aJ vs/\h.DictOf (HH P w) a vs
 | .dT aJ=>aJ.length<=sizeLine/\(a==ID)=false/\∃ xs:List (List Key×Addr×Value),
   Paired (λ(p:List Key×V) (q:List Key×Addr×Value)=>p.1=q.1/\H q.2.1=some (.tup (p.1.map kV))/\xv p.2 q.2.2) aJ xs ∧
   ∃ o es ep,h.get? a=some o/\o.ExactDict/\o.data=.dict es ep/\es.toList=xs.map (entryOfKey (tupleKind (HH P w)))/\(xs.map (·.1)).Nodup
 | .set S n=>h.SetOf (IS P w) a S n
 | .ins C dx fs=>H dx=some (.own a)/\fs.length<=1000/\dx≠a/\h.get? a=some (PySem.W.instObj C dx) ∧
   ∃ mA,h.Ns1 dx mA/\(∀ f,zeb (fs.lookup f) (mA f))/\PySem.Within mA (fs.map (·.1))
 | .own _=>∃ o,h.get? a=some o
 | .xd fs=>∃ mA,h.Ns1 a mA/\∀ f,zeb (fs.lookup f) (mA f)
 | .rng lo hi=>∃ t u v,h.get? a=some { cls:=.type "range",data:=.fields #[.int lo t,.int hi u,.int 1 v] }
 | .frz o u=>h.get? a=some o/\vD H h a u
 | .tbl ps=>h.get? a=some { cls:=.none,data:=.fields ps }
 | .met f x=>h.get? a=some (PySem.W.methodObj (.ref f) (.ref x))
 | .ext φ=>φ h/\(∃ o,h.get? a=some o)/\∀ h1 h2:Heap,φ h1->(∀ o,h1.get? a=some o->h2.get? a=some o)->φ h2
def dj (H:Hp) (h:Heap):Prop:=∀ a o,H a=some o->vD P w H h a o
end
section
variable {P:Ex} {w:ER} {H H':Hp} {h h':Heap} {a:Addr} {o:HO}
def vD.lt (x:vD P w H h a o):a < h.objs.size:=by
 cases o with
 | lst xs=>obtain ⟨_,_,_,_,e⟩:=x; exact El e
 | tup xs=>obtain ⟨_,_,_,p⟩:=x; exact p.lt
 | dK aJ=>obtain ⟨_,_,_,_,o,_,_,e,_⟩:=x; exact El e
 | dT aJ=>obtain ⟨_,_,_,_,o,_,_,e,_⟩:=x; exact El e
 | set S n=>obtain ⟨o,_,_,_,e,_⟩:=x; exact El e
 | ins C dx fs=>obtain ⟨_,_,_,e,_⟩:=x; exact El e
 | own y=>obtain ⟨_,e⟩:=x; exact El e
 | xd fs=>obtain ⟨_,⟨_,_,_,e,_⟩,_⟩:=x; exact El e
 | rng lo hi=>obtain ⟨_,_,_,e⟩:=x; exact El e
 | frz b u=>obtain ⟨e,_⟩:=x; exact El e
 | tbl ps=>exact El (show h.get? a=some _ from x)
 | met f y=>exact El (show h.get? a=some _ from x)
 | ext φ=>obtain ⟨_,⟨_,e⟩,_⟩:=x; exact El e
theorem La  {F G:α->β->Prop}:∀ {l₁:List α} {c:List β},Paired F l₁ c->(∀ a b,F a b->G a b)->Paired G l₁ c
 | _,_,.nil,_=>.nil
 | _,_,.cons r t,f=>.cons (f _ _ r) (La t f)
def vD.stay (x:vD P w H h a o) (k:∀ b u,(b=a\/H b=some (.own a))->h.get? b=some u->h'.get? b=some u)
  (l:∀ b,H b=some (.own a)->H' b=some (.own a)) (ht:∀ b xs,H b=some (.tup xs)->H' b=some (.tup xs)):vD P w H' h' a o:=by
 induction o with
 | lst xs=>obtain ⟨z,ah,n,r,e⟩:=x; exact ⟨z,ah,n,r,k _ _ (.inl rfl) e⟩
 | tup xs=>obtain ⟨z,ah,r,g,e,c⟩:=x; exact ⟨z,ah,r,g,k _ _ (.inl rfl) e,c⟩
 | dK aJ=>obtain ⟨z,y,vs,r,g,es,ep,e,c⟩:=x; exact ⟨z,y,vs,r,g,es,ep,k _ _ (.inl rfl) e,c⟩
 | dT aJ =>
  obtain ⟨z,y,xs,r,g,es,ep,e,c⟩:=x
  exact ⟨z,y,xs,La r λp q z=>⟨z.1,ht _ _ z.2.1,z.2.2⟩,g,es,ep,k _ _ (.inl rfl) e,c⟩
 | set S n=>obtain ⟨g,es,ep,t,e,c⟩:=x; exact ⟨g,es,ep,t,k _ _ (.inl rfl) e,c⟩
 | ins C dx fs =>
  obtain ⟨d,z,i,e,mA,⟨od,es,ep,e2,c⟩,r⟩:=x
  exact ⟨l _ d,z,i,k _ _ (.inl rfl) e,mA,⟨od,es,ep,k _ _ (.inr d) e2,c⟩,r⟩
 | own y=>obtain ⟨g,e⟩:=x; exact ⟨g,k _ _ (.inl rfl) e⟩
 | xd fs=>obtain ⟨mA,⟨od,es,ep,e,c⟩,r⟩:=x; exact ⟨mA,⟨od,es,ep,k _ _ (.inl rfl) e,c⟩,r⟩
 | rng lo hi=>obtain ⟨t,u,v,e⟩:=x; exact ⟨t,u,v,k _ _ (.inl rfl) e⟩
 | frz g u j=>obtain ⟨e,q⟩:=x; exact ⟨k _ _ (.inl rfl) e,j q⟩
 | tbl ps =>
  have e:h.get? a=some { cls:=.none,data:=.fields ps }:=x
  show h'.get? a=some { cls:=.none,data:=.fields ps }
  exact k a _ (.inl rfl) e
 | met f y =>
  have e:h.get? a=some (PySem.W.methodObj (.ref f) (.ref y)):=x
  show h'.get? a=some (PySem.W.methodObj (.ref f) (.ref y))
  exact k a _ (.inl rfl) e
 | ext φ=>obtain ⟨p,⟨o,e⟩,st⟩:=x; exact ⟨st _ _ p λo q=>k _ _ (.inl rfl) q,⟨o,k _ _ (.inl rfl) e⟩,st⟩
def dj.lt (x:dj P w H h) (e:H a=some o):a < h.objs.size:=(x a o e).lt
def dj.fresh (x:dj P w H h) (e:h.objs.size<=a):H a=none:=by
 cases q:H a with
 | none=>rfl
 | some u=>exact absurd (fZ (x.lt q) e) (mm _)
def dj.kept (x:dj P w H h) (k:∀ b u,h.get? b=some u->h'.get? b=some u):dj P w H h':=λa o e =>
 (x a o e).stay (λb u _ q=>k b u q) (λ_ q=>q) λ_ _ q=>q
def dj.laid (x:dj P w H h) (k:∀ b u,h.get? b=some u->h'.get? b=some u) (g:h.objs.size<=a) (new:vD P w (upd H a o) h' a o):dj P w (upd H a o) h':=λb u e=>by
 have d:=x.fresh g
 by_cases f:b=a
 .subst f; rw [zI] at e; cases e; exact new
 .rw [z6 f] at e
  exact (x b u e).stay (λc v _ q=>k c v q) (λc q=>by rw [z6 (yq q d)]; exact q) λc xs q=>by rw [z6 (yq q d)]; exact q
end
def Rd (H:Hp) (a:Addr) (u:HO):Prop:=H a=some u\/∃ o,H a=some (.frz o u)
def Rd.ok (r:Rd H a u) (x:dj P w H h):vD P w H h a u:=by
 rcases r with r | ⟨o,r⟩
 .exact x a u r
 .obtain ⟨_,q⟩:=x a _ r
  exact q
def Ed:Option HO->Prop
 | some (.lst _)=>True
 | some (.dK _)=>True
 | some (.dT _)=>True
 | some (.set _ _)=>True
 | some (.ins _ _ _)=>True
 | some (.ext _)=>True
 | _=>False
section
variable {P:Ex} {w:ER} {H:Hp} {h h':Heap} {x e:Addr} {o':HO}
def dj.write (ok:dj P w H h) (f:Ed (H x)) (m:e=x\/H e=some (.own x)) (k:∀ b u,b≠e->h.get? b=some u->h'.get? b=some u) (n:∃ u,h'.get? e=some u)
  (new:vD P w (upd H x o') h' x o'):dj P w (upd H x o') h':=λb u q=>by
 have j:∀ c y,H c=some (.own y)->c≠x:=λc y r z=>by subst z; rw [r] at f; exact f
 have a:∀ c xs,H c=some (.tup xs)->c≠x:=λc xs r z=>by subst z; rw [r] at f; exact f
 by_cases i:b=x
 .subst i; rw [zI] at q; cases q; exact new
 .rw [z6 i] at q
  by_cases d:b=e
  .have l:H b=some (.own x):=by
    rcases m with z | z
    .exact absurd (d.trans z) i
    .rw [d]; exact z
   rw [q] at l; cases l
   obtain ⟨v,o⟩:=n
   exact ⟨v,by rw [d]; exact o⟩
  .refine (ok b u q).stay (λc v g r=>k c v ?_ r) (λc r=>by rw [z6 (j c b r)]; exact r) λc xs r=>by rw [z6 (a c xs r)]; exact r
   rcases g with rfl | g
   .exact d
   .rintro rfl
    rcases m with z | z
    .exact j c b g z
    .rw [g] at z; cases z; exact i rfl
end
structure Un (fs ex:List Addr) (H H':Hp) (h h':Heap):Prop where
 keep:∀ b o,h.get? b=some o->H b=none->b∉fs->b∉ex->h'.get? b=some o
 slot:∀ b o,h.get? b=some o->H b=none->b∈fs->b∉ex->∃ sl,h'.get? b=some { o with slots:=sl }
 free:∀ b o,h.get? b=some o->H b=none->b∉ex->H' b=none
 there:∀ b o,h.get? b=some o->b∉ex->∃ o',h'.get? b=some o'
 tups:∀ b xs,H b=some (.tup xs)->H' b=some (.tup xs)
 frzs:∀ b o u,H b=some (.frz o u)->H' b=some (.frz o u)
 tbls:∀ b ps,H b=some (.tbl ps)->∃ more,H' b=some (.tbl (ps++more))
section
variable {fs fs' ex ex':List Addr} {H H1 H2:Hp} {h h1 h2 h':Heap} {a x e:Addr} {o:HO}
def Un.any (u:Un fs ex H H1 h h1) (q:h.get? b=some c) (n:H b=none) (d:b∉ex):∃ sl,h1.get? b=some { c with slots:=sl }:=by
 by_cases f:b∈fs
 .exact u.slot b c q n f d
 .exact ⟨c.slots,u.keep b c q n f d⟩
def Un.kept (k:∀ b u,h.get? b=some u->h'.get? b=some u):Un fs ex H H h h' :=
 ⟨λb c q _ _ _=>k b c q,λb c q _ _ _=>⟨c.slots,k b c q⟩,λ_ _ _ n _=>n,λb c q _=>⟨c,k b c q⟩,λ_ _ q=>q,λ_ _ _ q=>q,λ_ ps q=>⟨#[],by rw [q]; simp⟩⟩
def Un.refl:Un fs ex H H h h:=Un.kept λ_ _ q=>q
def Un.laid (k:∀ b u,h.get? b=some u->h'.get? b=some u) (d:h.objs.size<=a) (c:H a=none):Un fs ex H (upd H a o) h h' where
 keep:=λb u q _ _ _=>k b u q
 slot:=λb u q _ _ _=>⟨u.slots,k b u q⟩
 free:=λb u q n _=>by rw [z6 (cZ (fZ (El q) d))]; exact n
 there:=λb u q _=>⟨u,k b u q⟩
 tups:=λb xs q=>by rw [z6 (yq q c)]; exact q
 frzs:=λb u xs q=>by rw [z6 (yq q c)]; exact q
 tbls:=λb ps q=>⟨#[],by rw [z6 (yq q c),q]; simp⟩
def Un.write (c:Ed (H x)) (l:e=x\/H e=some (.own x)) (k:∀ b u,b≠e->h.get? b=some u->h'.get? b=some u) (j:∃ u,h'.get? e=some u):Un fs ex H (upd H x o) h h':=by
 have g:∀ b,H b=none->b≠x:=λb n z=>by subst z; rw [n] at c; exact c
 have i:∀ b,H b=none->b≠e:=λb n z=>by
  subst z
  rcases l with r | r
  .exact g b n r
  .rw [n] at r; cases r
 have d:∀ b u,H b=some u->¬ Ed (some u)->b≠x:=λb u q nm z=>by subst z; rw [q] at c; exact nm c
 refine ⟨λb u q n _ _=>k b u (i b n) q,λb u q n _ _=>⟨u.slots,k b u (i b n) q⟩,λb u q n _=>by rw [z6 (g b n)]; exact n,λb u q _=>?_,
  λb xs q=>by rw [z6 (d b _ q λz=>z)]; exact q,λb u xs q=>by rw [z6 (d b _ q λz=>z)]; exact q,λb ps q=>⟨#[],by rw [z6 (d b _ q λz=>z),q]; simp⟩⟩
 by_cases f:b=e
 .subst f; exact j
 .exact ⟨u,k b u f q⟩
end
def trk (h:Heap) (H:Hp):List Addr:=(aK h.objs.size).filter λa=>(H a).isSome
def Fo (h:Heap) (H:Hp):Heap:=PySem.W.hideAll h (trk h H)
def Bn (h) (H:Hp):(Fo h H).objs.size=h.objs.size:=PySem.W.hideAll_size _ _
def Fl (e:h.get? b=some o) (n:H b=none):(Fo h H).get? b=some o :=
 Lm _ e λa=>by
  have q:(H b).isSome=true:=(gp.mp a).2
  rw [n] at q; simp at q
def N7 (e:(Fo h H).get? b=some o):h.get? b=some o/\H b=none:=by
 have a:h.get? b=some o:=PySem.W.of_hideAll (trk h H) e
 refine ⟨a,?_⟩
 cases q:H b with
 | none=>rfl
 | some x =>
  have c:b∈trk h H:=gp.mpr ⟨dA.mpr (El a),by simp [q]⟩
  have z:(Fo h H).get? b=none:=PySem.W.hideAll_none (trk h H) c
  rw [z] at e; cases e
structure Mod (K:Eh) (mg:Str->Option Value) (base:Heap):Prop where
 kin:K.In base
 glob:base.Ns Er mg
 blt:∃ mb,base.Ns builtinsNs mb/\∀ x:Str,x≠"__name__"->mb x=E4 x
 nolimit:base.NoLimit
structure Cx where
 prog:Ex
 w:ER
 K:Eh
 mg:Str->Option Value
 base:Heap
 A:Around
 N:List Str
 s₀:Shared
 H₀:Hp
 env:Env
 outer:List Env
 stack:List Env
 ex:List Addr
 fn:Str->Bool
 calm:Bool
 pn:List (Addr×Obj)
 xe:Value->Shared->Prop
def dM (l:List Env):List Addr:=l.filterMap (·.frame)
abbrev Cx.fs (X:Cx):List Addr:=dM X.outer
def iE (sc:Scope) (x:Str):Prop:=sc.names.lookup x=some .local\/sc.names.lookup x=some .cell\/sc.names.lookup x=some .free
def Loc (sc:Scope) (x:Str):Prop:=sc.names.lookup x=some .local\/sc.names.lookup x=some .cell
def zfd (env:Env) (h:Heap) (m:Str->Option Value) (x:Str) (u:Value):Prop :=
 (env.kindOf x=some .local/\m x=some u)\/((env.kindOf x=some .cell\/env.kindOf x=some .free)/\∃ c,env.cells.lookup x=some c/\h.IsCell c (some u))
structure Cx.Ok (X:Cx):Prop where
 mod:Mod X.K X.mg X.base
 kind:X.env.scope.kind=.function
 glob:X.env.globals=Er
 blt:X.env.builtins=builtinsNs
 above:X.s₀.heap.objs.size<=X.env.locals
 inj:∀ x y c,X.env.cells.lookup x=some c->X.env.cells.lookup y=some c->x=y
 has:∀ x,(X.env.kindOf x=some .cell\/X.env.kindOf x=some .free)->∃ c,X.env.cells.lookup x=some c
 cab:∀ x c,X.fn x=true->X.env.cells.lookup x=some c->X.s₀.heap.objs.size<=c
 hd:X.calm=true->X.A.handled=none
 frames:X.A.frames=some X.stack
 stk:X.stack=X.outer\/(X.stack=X.env :: X.outer/\X.env.frame=some X.env.locals)
 exf:∀ b∈X.ex,b≠X.env.locals/\∀ x c,X.env.cells.lookup x=some c->c≠b
 bs:∀ b o,X.base.get? b=some o->X.s₀.heap.get? b=some o/\X.H₀ b=none
 bsz:X.base.objs.size<=X.s₀.heap.objs.size
 noex:∀ b o,X.base.get? b=some o->b∉X.ex
 exfs:∀ b∈X.ex,b∉X.fs
 funs:X.s₀.heap.FunFrames X.base X.outer
 frf:∀ b∈X.fs,X.H₀ b=none
structure Inv (X:Cx) (pins:List (Addr×Obj)) (σ:List (Option V)) (H:Hp) (s:Shared):Prop where
 ok:X.Ok
 os:s.os=X.s₀.os
 bare:AllBare s.gens
 base:Un X.fs X.ex X.H₀ H X.s₀.heap s.heap
 loc:∃ m,s.heap.Ns X.env.locals m/\∀ (i:Nat) (x:Str) (v:V),X.N[i]? = some x->σ[i]? = some (some v)->iE X.env.scope x->∃ u,xv v u/\zfd X.env s.heap m x u
 cell:∀ x c,X.env.cells.lookup x=some c->∃ v,s.heap.IsCell c v
 free:H X.env.locals=none
 freeC:∀ x c,X.env.cells.lookup x=some c->H c=none
 pin:∀ p∈X.pn++pins,s.heap.get? p.1=some p.2/\H p.1=none/\p.1≠X.env.locals/\p.1∉X.fs/\∀ v,p.2.data≠.cell v
 hok:dj X.prog X.w H s.heap
 len:σ.length=X.N.length
section
variable {X:Cx} {pins:List (Addr×Obj)} {σ:List (Option V)} {H H':Hp} {s:Shared} {h':Heap}
def Cx.Ok.nofr (ok:X.Ok) (e:X.base.get? b=some o):b∉X.fs:=λa=>by
 have:=(ok.funs.mem a).1
 rw [e] at this; cases this
def Inv.bs (I:Inv X pins σ H s):∀ b o,X.base.get? b=some o->s.heap.get? b=some o/\H b=none:=λb o e =>
 ⟨I.base.keep b o (I.ok.bs b o e).1 (I.ok.bs b o e).2 (I.ok.nofr e) (I.ok.noex b o e),I.base.free b o (I.ok.bs b o e).1 (I.ok.bs b o e).2 (I.ok.noex b o e)⟩
def Inv.bk (I:Inv X pins σ H s):∀ b o,X.base.get? b=some o->s.heap.get? b=some o:=λb o e=>(I.bs b o e).1
def Inv.mod (I:Inv X pins σ H s):Mod X.K X.mg X.base:=I.ok.mod
def Inv.kIn (I:Inv X pins σ H s):X.K.In s.heap:=I.ok.mod.kin.keeps I.bk
def Inv.lt (I:Inv X pins σ H s):X.env.locals < s.heap.objs.size:=let ⟨_,a,_⟩:=I.loc; a.lt
def Inv.sz (I:Inv X pins σ H s):X.s₀.heap.objs.size<=s.heap.objs.size:=fc I.ok.above (nA I.lt)
def Inv.nofs (I:Inv X pins σ H s) {a:Addr} (h:s.heap.objs.size<=a):a∉X.fs:=λc=>by
 obtain ⟨_,o,b,_⟩:=I.ok.funs.mem c
 exact absurd (fZ (El b) (fc I.sz h)) (mm _)
def Inv.cne (I:Inv X pins σ H s):∀ x c,X.env.cells.lookup x=some c->c≠X.env.locals:=λx c e z=>by
 obtain ⟨v,o,a,hd⟩:=I.cell x c e
 obtain ⟨m,⟨o',es,ep,d,b,_⟩,_⟩:=I.loc
 rw [z,d] at a; cases a; rw [b] at hd; cases hd
def Inv.funs (I:Inv X pins σ H s):s.heap.FunFrames X.base X.outer:=by
 have all:∀ (l:List Env),(∀ b∈dM l,b∈X.fs)->X.s₀.heap.FunFrames X.base l->s.heap.FunFrames X.base l:=by
  intro l
  induction l with
  | nil=>intro _ _; trivial
  | cons env r g =>
   intro f k
   obtain ⟨m,⟨L,o,a,j,i,hd⟩,h⟩:=k
   have d:L∈X.fs:=f L (by unfold dM; rw [A2,a]; exact aV)
   obtain ⟨sl,e⟩:=I.base.slot L o i (I.ok.frf L d) d λz=>I.ok.exfs L z d
   exact ⟨m,⟨L,_,a,j,e,hd⟩,g (λb c=>f b (by unfold dM; rw [A2,a]; exact aZ _ c)) h⟩
 exact all X.outer (λ_ c=>c) I.ok.funs
def Inv.stack (I:Inv X pins σ H s):s.heap.FunFrames X.base X.stack:=by
 rcases I.ok.stk with e | ⟨e,b⟩
 .rw [e]; exact I.funs
 .rw [e]
  obtain ⟨m,a,_⟩:=I.loc
  refine .cons (by rw [I.ok.kind]; decide) b a ?_ I.funs
  exact Heap.get?_none_of_le (fc I.ok.bsz I.ok.above)
def Inv.stkSub (I:Inv X pins σ H s):∀ b∈dM X.stack,b∈X.env.locals :: X.fs:=λb a=>by
 rcases I.ok.stk with e | ⟨e,c⟩
 .rw [e] at a; exact aZ _ a
 .rw [e] at a
  unfold dM at a
  rw [A2,c] at a
  exact a
def Inv.stkFree (I:Inv X pins σ H s):∀ b∈dM X.stack,H b=none:=λb a=>by
 rcases aS.mp (I.stkSub b a) with e | a
 .rw [e]; exact I.free
 .obtain ⟨_,o,c,_⟩:=I.ok.funs.mem a
  exact I.base.free b o c (I.ok.frf b a) λz=>I.ok.exfs b z a
def Inv.step    {ch:List Addr} (I:Inv X pins σ H s)
  (f:∀ b∈ch,(b∈X.ex\/X.s₀.heap.objs.size<=b)/\b≠X.env.locals/\(∀ x c,X.env.cells.lookup x=some c->c≠b)/\∀ p∈X.pn++pins,p.1≠b)
  (keep:∀ b o,b≠X.env.locals->b∉X.fs->b∉ch->s.heap.get? b=some o->H b=none->h'.get? b=some o)
  (slot:∀ b o,b≠X.env.locals->b∈X.fs->b∉ch->s.heap.get? b=some o->H b=none->∃ sl,h'.get? b=some { o with slots:=sl }) (free:∀ b o,b∉ch->s.heap.get? b=some o->H b=none->H' b=none)
  (there:∀ b o,b∉ch->s.heap.get? b=some o->∃ o',h'.get? b=some o')
  (tups:∀ b xs,H b=some (.tup xs)->H' b=some (.tup xs)) (frzs:∀ b o u,H b=some (.frz o u)->H' b=some (.frz o u)) (tbls:∀ b ps,H b=some (.tbl ps)->∃ more,H' b=some (.tbl (ps++more)))
  (ns:∀ m,s.heap.Ns X.env.locals m->h'.Ns X.env.locals m) (hok:dj X.prog X.w H' h') (hg:AllBare g') :
  Inv X pins σ H' { s with heap:=h',gens:=g',drawn:=d',toks:=t' }:=by
 have y:∀ b o,X.s₀.heap.get? b=some o->b≠X.env.locals:=λb o e=>cZ (fZ (El e) I.ok.above)
 have h:∀ b o,X.s₀.heap.get? b=some o->b∉X.ex->b∉ch:=λb o e a j=>by
  rcases (f b j).1 with z | z
  .exact a z
  .exact absurd (fZ (El e) z) (mm _)
 have g:∀ x c,X.env.cells.lookup x=some c->∀ v,s.heap.IsCell c v->h'.IsCell c v:=λx c e v ⟨o,t,hd⟩=>by
  have w:c∉ch:=λz=>(f c z).2.2.1 x c e rfl
  by_cases C:c∈X.fs
  .obtain ⟨sl,q⟩:=slot c o (I.cne x c e) C w t (I.freeC x c e)
   exact ⟨_,q,hd⟩
  .exact ⟨o,keep c o (I.cne x c e) C w t (I.freeC x c e),hd⟩
 refine ⟨I.ok,I.os,hg,⟨λb o e n j a=>?_,λb o e n j a=>?_,λb o e n a=>?_,λb o e a=>?_,λb xs e=>tups b xs (I.base.tups b xs e),λb o xs e=>frzs b o xs (I.base.frzs b o xs e),λb ps e=>?_⟩,?_,λx c e=>?_,?_,λx c e=>?_,λp B=>?_,hok,I.len⟩
 .exact keep b o (y b o e) j (h b o e a) (I.base.keep b o e n j a) (I.base.free b o e n a)
 .obtain ⟨sl,e1⟩:=I.base.slot b o e n j a
  obtain ⟨fN,e2⟩:=slot b _ (y b o e) j (h b o e a) e1 (I.base.free b o e n a)
  exact ⟨fN,e2⟩
 .obtain ⟨o',e1⟩:=I.base.there b o e a
  exact free b o' (h b o e a) e1 (I.base.free b o e n a)
 .obtain ⟨o',e1⟩:=I.base.there b o e a
  exact there b o' (h b o e a) e1
 .obtain ⟨F,e1⟩:=I.base.tbls b ps e
  obtain ⟨E,e2⟩:=tbls b _ e1
  exact ⟨F++E,by rw [e2,Array.append_assoc]⟩
 .obtain ⟨m,G,J⟩:=I.loc
  refine ⟨m,ns m G,λi x v e1 e2 L=>?_⟩
  obtain ⟨u,r,l⟩:=J i x v e1 e2 L
  refine ⟨u,r,?_⟩
  rcases l with l | ⟨k,c,e,z⟩
  .exact .inl l
  .exact .inr ⟨k,c,e,g x c e _ z⟩
 .obtain ⟨v,z⟩:=I.cell x c e
  exact ⟨v,g x c e v z⟩
 .obtain ⟨m,⟨o,_,_,t,_⟩,_⟩:=I.loc
  exact free _ o (λz=>(f _ z).2.1 rfl) t I.free
 .obtain ⟨v,o,t,hd⟩:=I.cell x c e
  exact free c o (λz=>(f c z).2.2.1 x c e rfl) t (I.freeC x c e)
 .obtain ⟨e,n,A,nf,d⟩:=I.pin p B
  have w:p.1∉ch:=λz=>(f p.1 z).2.2.2 p B rfl
  exact ⟨keep p.1 p.2 A nf w e n,free p.1 p.2 w e n,A,nf,d⟩
def Inv.un (I:Inv X pins σ H s) (u:Un X.fs [] H H' s.heap h') (hok:dj X.prog X.w H' h'):Inv X pins σ H' { s with heap:=h',toks:=t' }:=by
 obtain ⟨m,⟨o,es,ep,f,r⟩,_⟩:=id I.loc
 obtain ⟨sl,j⟩:=u.any f I.free (by simp)
 exact I.step (g':=s.gens) (d':=s.drawn) (ch:=[]) (λ_ z=>nomatch z) (λb o _ a _ e n=>u.keep b o e n a (by simp)) (λb o _ a _ e n=>u.slot b o e n a (by simp)) (λb o _ e n=>u.free b o e n (by simp)) (λb o _ e=>u.there b o e (by simp)) u.tups u.frzs u.tbls (λk i=>by
  obtain ⟨o',c,d,g,h⟩:=i
  rw [f] at g; cases g
  exact ⟨_,c,d,j,h⟩) hok I.bare
def Inv.call (I:Inv X pins σ H s) (u:Un (dM X.stack) ch H H' s.heap h') (hok:dj X.prog X.w H' h') (hg:AllBare g')
  (d:∀ b∈ch,(b∈X.ex\/X.s₀.heap.objs.size<=b)/\b≠X.env.locals/\(∀ x c,X.env.cells.lookup x=some c->c≠b)/\∀ p∈X.pn++pins,p.1≠b) :
  Inv X pins σ H' { s with heap:=h',gens:=g',drawn:=d',toks:=t' }:=by
 obtain ⟨m,⟨o,es,ep,i,r⟩,_⟩:=id I.loc
 obtain ⟨sl,f⟩:=u.any i I.free λz=>(d _ z).2.1 rfl
 exact I.step (ch:=ch) d (λb o f q a e n=>u.keep b o e n (λz=>(aS.mp (I.stkSub b z)).elim f q) a) (λb o _ _ a e n=>u.any e n a) (λb o a e n=>u.free b o e n a) (λb o a e=>u.there b o e a) u.tups u.frzs u.tbls (λt l=>by
  obtain ⟨o',g,h,j,k⟩:=l
  rw [i] at j; cases j
  exact ⟨_,g,h,f,k⟩) hok hg
def Inv.turned (I:Inv X pins σ H s) (k:∀ b o,b≠it->s.heap.get? b=some o->h'.get? b=some o) (h:H it=none) (f:it≠X.env.locals)
  (h1:it∈X.ex\/X.s₀.heap.objs.size<=it) (h2:∀ x c,X.env.cells.lookup x=some c->c≠it) (l:∀ p∈X.pn++pins,p.1≠it):Inv X pins σ H { s with heap:=h',toks:=t' }:=by
 have d:∀ b u,H b=some u->b≠it:=λb u e z=>by rw [z,h] at e; cases e
 refine I.step (g':=s.gens) (d':=s.drawn) (ch:=[it]) (λb j=>?_) (λb o _ _ a e _=>k b o (λz=>a (by simp [z])) e) (λb o _ _ a e _=>⟨o.slots,k b o (λz=>a (by simp [z])) e⟩) (λ_ _ _ _ n=>n)
  (λb o a e=>⟨o,k b o (λz=>a (by simp [z])) e⟩) (λ_ _ e=>e) (λ_ _ _ e=>e) (λb ps e=>⟨#[],by rw [e]; simp⟩) (λm i=>?_) (λb u e=>?_) I.bare
 .have e:b=it:=by simpa using j
  subst e
  exact ⟨h1,f,h2,l⟩
 .obtain ⟨o,es,ep,g,r⟩:=i
  exact ⟨o,es,ep,k _ o (E7 f) g,r⟩
 .refine (I.hok b u e).stay (λc v a q=>k c v ?_ q) (λ_ q=>q) λ_ _ q=>q
  rcases a with z | z
  .rw [z]; exact d b u e
  .exact d c _ z
def Inv.tok (I:Inv X pins σ H s) (t):Inv X pins σ H { s with toks:=t }:=I.un (h':=s.heap) (t':=t) Un.refl I.hok
def Inv.kept (I:Inv X pins σ H s) (k:∀ b u,s.heap.get? b=some u->h'.get? b=some u):Inv X pins σ H { s with heap:=h',toks:=t' }:=I.un (Un.kept k) (I.hok.kept k)
def Inv.laid {a:Addr} (I:Inv X pins σ H s) (k:∀ b u,s.heap.get? b=some u->h'.get? b=some u) (c:s.heap.objs.size<=a) (new:vD X.prog X.w (upd H a o) h' a o) :
  Inv X pins σ (upd H a o) { s with heap:=h',toks:=t' }:=I.un (Un.laid k c (I.hok.fresh c)) (I.hok.laid k c new)
def Inv.write (I:Inv X pins σ H s) (c:Ed (H x)) (d:e=x\/H e=some (.own x)) (k:∀ b u,b≠e->s.heap.get? b=some u->h'.get? b=some u) (a:∃ u,h'.get? e=some u)
  (new:vD X.prog X.w (upd H x o) h' x o):Inv X pins σ (upd H x o) { s with heap:=h',toks:=t' }:=I.un (Un.write c d k a) (I.hok.write c d k a new)
def Inv.pins_of (I:Inv X pins σ H s) (h:∀ p∈a,s.heap.get? p.1=some p.2/\H p.1=none/\p.1≠X.env.locals/\p.1∉X.fs/\∀ v,p.2.data≠.cell v):Inv X a σ H s :=
 ⟨I.ok,I.os,I.bare,I.base,I.loc,I.cell,I.free,I.freeC,λp b=>(cQ.mp b).elim (λz=>I.pin p (lY _ z)) (h p),I.hok,I.len⟩
def JB {N:List Str} (c:N.Nodup) {i j:Nat} (a:N[i]? = some x) (b:N[j]? = some x):i=j:=by
 obtain ⟨h1,e1⟩:=iS.mp a
 obtain ⟨h2,e2⟩:=iS.mp b
 exact (List.getElem_inj c).mp (e1.trans e2.symm)
def Vv (I:Inv X pins σ H s) (hN:X.N.Nodup) (hi:X.N[i]? = some x) (t:Loc X.env.scope x) (r:xv v u)
  (h:∀ s',Inv X pins (σ.set i (some v)) H s'->(∃ a,Heap.SameBut a s.heap s'.heap/\(a=X.env.locals\/X.env.cells.lookup x=some a))->Q () s') (hf:X.fn x=true\/X.env.scope.names.lookup x=some .local:=by first | exact .inl rfl | exact .inr rfl | assumption):Ek M A (storeName X.env x u) Q E s:=by
 obtain ⟨m,Z,hl⟩:=id I.loc
 have lR:(X.env.scope.kind==.class||(X.env.scope.kind==.module&&X.env.locals != X.env.globals))=false:=by rw [I.ok.kind]; rfl
 have AA:i < σ.length:=by rw [I.len]; exact (iS.mp hi).1
 have cne:=I.cne
 have g:∀ {a:Addr} {h':Heap},(∃ o,s.heap.get? a=some o/\H a=none)->Heap.SameBut a s.heap h'->dj X.prog X.w H h':=λ{a h'} ha f b ob e=>by
  obtain ⟨_,_,fx⟩:=ha
  refine (I.hok b ob e).stay (λc L l q=>(f.2 c ?_).trans q) (λ_ q=>q) λ_ _ q=>q
  rintro rfl
  rcases l with rfl | l
  .rw [fx] at e; cases e
  .rw [fx] at l; cases l
 rcases t with w | w
 .refine wpAny_storeName_local w Z (λh' Y f=>?_) lR
  obtain ⟨oL,_,_,W,_⟩:=id Z
  refine h _ ⟨I.ok,I.os,I.bare,⟨λb o e n C t=>?_,λb o e n C t=>?_,I.base.free,λb o e t=>?_,I.base.tups,I.base.frzs,I.base.tbls⟩,⟨_,Y,λj y R e1 e2 e3=>?_⟩,λy c e=>?_,I.free,I.freeC,λp U=>?_,g ⟨oL,W,I.free⟩ f,by simpa using I.len⟩ ⟨_,f,.inl rfl⟩
  .exact (f.2 b (cZ (fZ (El e) I.ok.above))).trans (I.base.keep b o e n C t)
  .obtain ⟨sl,e1⟩:=I.base.slot b o e n C t
   exact ⟨sl,(f.2 b (cZ (fZ (El e) I.ok.above))).trans e1⟩
  .obtain ⟨o',e1⟩:=I.base.there b o e t
   exact ⟨o',(f.2 b (cZ (fZ (El e) I.ok.above))).trans e1⟩
  .by_cases B:j=i
   .subst B
    rw [hi] at e1; cases e1
    rw [List.getElem?_set_self AA] at e2
    cases e2
    exact ⟨u,r,.inl ⟨w,by simp⟩⟩
   .rw [List.getElem?_set_ne (E7 B)] at e2
    obtain ⟨S,T,q⟩:=hl j y R e1 e2 e3
    refine ⟨S,T,?_⟩
    rcases q with ⟨k,e⟩ | ⟨k,c,e,z⟩
    .refine .inl ⟨k,?_⟩
     have:y≠x:=λe=>B (JB hN e1 (e ▸ hi))
     simp [this,e]
    .exact .inr ⟨k,c,e,z.sameBut f (cne y c e)⟩
  .obtain ⟨L,z⟩:=I.cell y c e
   exact ⟨L,z.sameBut f (cne y c e)⟩
  .obtain ⟨e,n,O,nf,d⟩:=I.pin p U
   exact ⟨(f.2 p.1 O).trans e,n,O,nf,d⟩
 .have AD:X.fn x=true:=by
   rcases hf with z | z
   .exact z
   .rw [z] at w; cases w
  obtain ⟨c,l⟩:=I.ok.has x (.inl w)
  obtain ⟨L,z⟩:=I.cell x c l
  refine wpAny_storeName_cell I.ok.kind w l z (λh' iu f=>?_)
  obtain ⟨oc,G,F⟩:=id z
  refine h { s with heap:=h' } ⟨I.ok,I.os,I.bare,⟨λb o e n C t=>?_,λb o e n C t=>?_,I.base.free,λb o e t=>?_,I.base.tups,I.base.frzs,I.base.tbls⟩,⟨m,Z.sameBut f (E7 (cne x c l)),λj y R e1 e2 e3=>?_⟩,λy P e=>?_,I.free,I.freeC,λp U=>?_,g ⟨oc,G,I.freeC x c l⟩ f,by simpa using I.len⟩ ⟨c,f,.inr l⟩
  .exact (f.2 b (cZ (fZ (El e) (I.ok.cab x c AD l)))).trans (I.base.keep b o e n C t)
  .obtain ⟨sl,e1⟩:=I.base.slot b o e n C t
   exact ⟨sl,(f.2 b (cZ (fZ (El e) (I.ok.cab x c AD l)))).trans e1⟩
  .obtain ⟨o',e1⟩:=I.base.there b o e t
   exact ⟨o',(f.2 b (cZ (fZ (El e) (I.ok.cab x c AD l)))).trans e1⟩
  .by_cases B:j=i
   .subst B
    rw [hi] at e1; cases e1
    rw [List.getElem?_set_self AA] at e2
    cases e2
    exact ⟨u,r,.inr ⟨.inl w,c,l,iu⟩⟩
   .rw [List.getElem?_set_ne (E7 B)] at e2
    obtain ⟨S,T,q⟩:=hl j y R e1 e2 e3
    refine ⟨S,T,?_⟩
    rcases q with q | ⟨k,P,e,z'⟩
    .exact .inl q
    .refine .inr ⟨k,P,e,z'.sameBut f ?_⟩
     rintro rfl
     exact B (JB hN e1 (I.ok.inj _ _ _ e l ▸ hi))
  .by_cases J:P=c
   .subst J; exact ⟨_,iu⟩
   .obtain ⟨w2,z2⟩:=I.cell y P e
    exact ⟨w2,z2.sameBut f J⟩
  .obtain ⟨e,n,O,nf,d⟩:=I.pin p U
   refine ⟨(f.2 p.1 ?_).trans e,n,O,nf,d⟩
   intro q
   rw [q,G] at e
   have q':oc=p.2:=ml.inj e
   exact d L (by rw [<- q']; exact F)
def X1 (I:Inv X pins σ H s) (c:X.N.Nodup) (hi:X.N[i]? = some x) (a:Loc X.env.scope x) (r:xv v u)
  (h:∀ s',Inv X pins (σ.set i (some v)) H s'->Q () s') (b:X.fn x=true\/X.env.scope.names.lookup x=some .local:=by first | exact .inl rfl | exact .inr rfl | assumption):Ek M A (storeName X.env x u) Q E s :=
 Vv I c hi a r (λs' d _=>h s' d) b
def Inv.call' (I:Inv X pins σ H s) (d:s'.os=s.os) (u:Un (dM X.stack) ch H H' s.heap s'.heap) (hok:dj X.prog X.w H' s'.heap) (hg:AllBare s'.gens)
  (a:∀ b∈ch,(b∈X.ex\/X.s₀.heap.objs.size<=b)/\b≠X.env.locals/\(∀ x c,X.env.cells.lookup x=some c->c≠b)/\∀ p∈X.pn++pins,p.1≠b):Inv X pins σ H' s':=by
 obtain ⟨h',g',d',t',o'⟩:=s'
 have e:o'=s.os:=d
 subst e
 exact I.call (g':=g') (t':=t') (d':=d') u hok hg a
end
abbrev XK:=Value->Option Addr->Hp->Prop
abbrev St:=List (Option V)
abbrev VK:=V->Hp->Prop
abbrev TE:=St->Hp->VK->Prop
abbrev TT:=St->Hp->(Bool->Hp->Prop)->Prop
abbrev TA:=St->Hp->(List V->Hp->Prop)->Prop
structure Ends where
 nx:St->Hp->Prop
 rt:VK
 bk:St->Hp->Prop:=λ_ _=>False
 ct:St->Hp->Prop:=λ_ _=>False
abbrev TS:=Ends->St->Hp->Prop
inductive EP (X:Cx) (pins:List (Addr×Obj)) (σ:St) (Q:VK) (u:Value) (s':Shared):Prop
 |mk (v H') (a0:Inv X pins σ H' s') (a1:xv v u) (a2:Q v H')
def TP (X:Cx) (pins:List (Addr×Obj)) (σ:St) (Q:Bool->Hp->Prop) (b:Bool) (s':Shared):Prop:=∃ H',Inv X pins σ H' s'/\Q b H'
inductive AP (X:Cx) (pins:List (Addr×Obj)) (σ:St) (Q:List V->Hp->Prop) (us:List Value) (s':Shared):Prop
 |mk (vs H') (a0:Inv X pins σ H' s') (a1:yR vs us) (a2:Q vs H')
def SP (X:Cx) (pins:List (Addr×Obj)) (D:Ends) (f:Flow) (s':Shared):Prop :=
 match f with
 | .next=>∃ aL H',Inv X pins aL H' s'/\D.nx aL H'
 | .brk=>∃ aL H',Inv X pins aL H' s'/\D.bk aL H'
 | .cont=>∃ aL H',Inv X pins aL H' s'/\D.ct aL H'
 | .ret u=>∃ v aL H',Inv X pins aL H' s'/\xv v u/\D.rt v H'
def PE (X:Cx) (e:Expr) (t:TE):Prop :=
 ∀ (pins:List (Addr×Obj)) (s:Shared) (σ:St) (H:Hp) (Q:VK),Inv X pins σ H s->t σ H Q->Ek (EA X.prog X.w) X.A (eval e X.env) (EP X pins σ Q) X.xe s
def PT (X:Cx) (e:Expr) (t:TT):Prop :=
 ∀ (pins:List (Addr×Obj)) (s:Shared) (σ:St) (H:Hp) (Q:Bool->Hp->Prop),Inv X pins σ H s->t σ H Q->Ek (EA X.prog X.w) X.A (isTrue e X.env (eval e X.env)) (TP X pins σ Q) X.xe s
def PW (X:Cx) (e:Expr) (t:TT):Prop :=
 ∀ (a:Sem Value) (pins:List (Addr×Obj)) (s:Shared) (σ:St) (H:Hp) (Q:Bool->Hp->Prop),Inv X pins σ H s->t σ H Q->Ek (EA X.prog X.w) X.A (isTrue e X.env a) (TP X pins σ Q) X.xe s
def PW.pt (h:PW X e t):PT X e t:=h _
def PA (X:Cx) (es:List Expr) (t:TA):Prop :=
 ∀ (pos:Pos) (pins:List (Addr×Obj)) (s:Shared) (σ:St) (H:Hp) (Q:List V->Hp->Prop),Inv X pins σ H s->t σ H Q->Ek (EA X.prog X.w) X.A (spliced (F_ pos (Ei es X.env))) (AP X pins σ Q) X.xe s
def PS (X:Cx) (st:Stmt) (t:TS):Prop :=
 ∀ (pins:List (Addr×Obj)) (s:Shared) (σ:St) (H:Hp) (D:Ends),Inv X pins σ H s->t D σ H->Ek (EA X.prog X.w) X.A (exec st X.env) (SP X pins D) X.xe s
def f6 (X:Cx) (st:List Stmt) (t:TS):Prop :=
 ∀ (pins:List (Addr×Obj)) (s:Shared) (σ:St) (H:Hp) (D:Ends),Inv X pins σ H s->t D σ H->Ek (EA X.prog X.w) X.A (execs st X.env) (SP X pins D) X.xe s
def thn   {Q b:α->Shared->Prop} (h:Ek M A t Q E s) (c:∀ a s,Q a s->b a s):Ek M A t b E s:=EB h c λ_ _ x=>x
section
variable {X:Cx}
def zdk (i:Nat):TE:=λσ H Q=>∃ v,σ[i]? = some (some v)/\Q v H
def tC (v:V):TE:=λ_ H Q=>Q v H
def j9 (o:X.N[i]? = some x) (g:iE X.env.scope x) (hd:(x==("__debug__":Str))=false:=by decide) (b:(x==("__classdict__":Str))=false:=by decide):PE X (.Name x pos) (zdk i):=by
 intro pins s σ H Q I h
 obtain ⟨v,e,h⟩:=h
 obtain ⟨m,j,n⟩:=I.loc
 obtain ⟨u,r,l⟩:=n i x v o e g
 have fin:EP X pins σ Q u s:=⟨v,H,I,r,h⟩
 rcases l with ⟨a,k⟩ | ⟨a,c,d,f⟩
 .exact wpAny_Name (wpAny_loadName_local I.ok.kind a j k fin) hd
 .rcases a with a | a
  .exact wpAny_Name (wpAny_loadName_cell I.ok.kind a d f fin) hd
  .exact wpAny_Name (wpAny_loadName_free I.ok.kind a d f fin b) hd
def SK {i j pos}:PE X (.Constant (.int i) j pos) (tC (.int i)):=λ_ _ _ H _ I h=>wpAny_Constant_int ⟨.int i,H,I.tok _,⟨_,rfl⟩,h⟩
def NQ {b j pos}:PE X (.Constant (.bool b) j pos) (tC (.bl b)):=λ_ _ _ H _ I h=>Constant_bool ⟨.bl b,H,I,rfl,h⟩
def SI {j pos}:PE X (.Constant .none j pos) (tC .non):=λ_ _ _ H _ I h=>Constant_none ⟨.non,H,I,rfl,h⟩
def Mq {x j pos}:PE X (.Constant (.str x) j pos) (tC (.str x)):=λ_ _ _ H _ I h=>Calls.Constant_str ⟨.str x,H,I.tok _,⟨_,rfl⟩,h⟩
def Gl (X:Cx) (x:Str):Prop:=X.env.kindOf x=some .globalImplicit
def Yr (I:Inv X pins σ H s) (hg:Gl X x) (a:X.mg x=some u) (h:Q u s)
  (hd:(x==("__debug__":Str))=false:=by decide):Ek (EA X.prog X.w) X.A (eval (.Name x pos) X.env) Q E s :=
 Calls.Name_function_global I.ok.kind hg (Calls.loadGlobal_global (by rw [I.ok.glob]; exact I.mod.glob.keeps I.bk) a h) hd
def jl (I:Inv X pins σ H s) (hg:Gl X x) (c:X.mg x=none) (a:E4 x=some u) (h:Q u s)
  (b:x≠"__name__":=by decide) (hd:(x==("__debug__":Str))=false:=by decide):Ek (EA X.prog X.w) X.A (eval (.Name x pos) X.env) Q E s:=by
 obtain ⟨mb,h1,h2⟩:=I.mod.blt
 exact Calls.Name_function_global I.ok.kind hg (Calls.loadGlobal_builtin (by rw [I.ok.glob]; exact I.mod.glob.keeps I.bk) c (by rw [I.ok.blt]; exact h1.keeps I.bk) ((h2 x b).trans a) h) hd
def kW (hg:Gl X x) (a:X.mg x=some u) (r:xv v u) (hd:(x==("__debug__":Str))=false:=by decide):PE X (.Name x pos) (tC v) :=
 λ_ _ _ H _ I h=>Yr I hg a ⟨v,H,I,r,h⟩ hd
def NP (hg:Gl X x) (c:X.mg x=none) (a:E4 x=some u) (r:xv v u) (b:x≠"__name__":=by decide) (hd:(x==("__debug__":Str))=false:=by decide):PE X (.Name x pos) (tC v) :=
 λ_ _ _ H _ I h=>jl I hg c a ⟨v,H,I,r,h⟩ b hd
variable {a b:Expr} {ta tb:TE} {pos:Pos}
def PC (X:Cx) (op:CmpOp) (a b:Expr) (t:TE):Prop :=
 ∀ (pins:List (Addr×Obj)) (s:Shared) (σ:St) (H:Hp) (Q:VK),Inv X pins σ H s->t σ H Q →
  Ek (EA X.prog X.w) X.A (eval a X.env) (λv c=>Ek (EA X.prog X.w) X.A (eval b X.env) (λu d=>Ek (EA X.prog X.w) X.A (G_ op v u) (EP X pins σ Q) X.xe d) X.xe c) X.xe s
def DK (b) (h:op≠.In) (h2:op≠.NotIn):EU op b=false:=by
 have e1:(op==CmpOp.In)=false:=by cases op <;> first | rfl | exact absurd rfl h
 have e2:(op==CmpOp.NotIn)=false:=by cases op <;> first | rfl | exact absurd rfl h2
 cases b <;> simp [EU,e1,e2]
def tB (t:TE):TT:=λσ H Q=>t σ H λx H1=>∃ c,x=.bl c/\Q c H1
def Mh (h:PC X op a b t) (h1:EU op b=false:=by first | exact DK _ (by decide) (by decide) | rfl):PT X (.Compare a [op] [b] pos) (tB t):=by
 intro pins s σ H Q I g
 refine wpAny_isTrue_Compare1 (thn (h pins s σ H _ I g) λv s1 h1=>thn h1 λu s2 h2=>thn h2 λc s3 ⟨x,H1,i,e,f⟩=>?_) h1
 obtain ⟨d,rfl,q⟩:=f
 cases e
 exact EX ⟨H1,i,q⟩
def Sy (h:PE X e t) (j:∀ c,isTrue e X.env c=(do let v ← c; standAt e.pos; holding [v] (truthy v)):=by intro _; rfl):PT X e (tB t):=by
 intro pins s σ H Q I i
 refine isTrue_plain (thn (h pins s σ H _ I i) λv s1 ⟨x,H1,k,f,g⟩=>?_) (j _)
 obtain ⟨d,rfl,q⟩:=g
 cases f
 exact EX ⟨H1,k,q⟩
variable {tA tB':TT} {rest:List Expr}
def zem (t u:TT):TT:=λσ H Q=>t σ H λc H1=>if c=true then u σ H1 Q else Q false H1
def tOr (t u:TT):TT:=λσ H Q=>t σ H λc H1=>if c=true then Q true H1 else u σ H1 Q
def zeh (t:TT):TT:=λσ H Q=>t σ H λc H1=>Q (!c) H1
def Ny (d:PT X a tA):PW X (.BoolOp .And [a] pos) tA:=by
 intro f pins s σ H Q I h
 refine isTrue_and (thn (d pins s σ H Q I h) λc s1 e=>?_)
 cases c with
 | true=>exact isTrue_and_nil e
 | false=>exact e
def Sw (d:PT X a tA):PW X (.BoolOp .Or [a] pos) tA:=by
 intro f pins s σ H Q I h
 refine isTrue_or (thn (d pins s σ H Q I h) λc s1 e=>?_)
 cases c with
 | false=>exact isTrue_or_nil e
 | true=>exact e
def Sx (i:PT X a tA) (g:PW X (.BoolOp .And (b :: rest) pos) tB'):PW X (.BoolOp .And (a :: b :: rest) pos) (zem tA tB'):=by
 intro f pins s σ H Q I h
 refine isTrue_and (thn (i pins s σ H _ I h) λc s1 ⟨H1,e,d⟩=>?_)
 cases c with
 | true=>exact g f pins s1 σ H1 Q e d
 | false=>exact ⟨H1,e,d⟩
def zcf (i:PT X a tA) (g:PW X (.BoolOp .Or (b :: rest) pos) tB'):PW X (.BoolOp .Or (a :: b :: rest) pos) (tOr tA tB'):=by
 intro f pins s σ H Q I h
 refine isTrue_or (thn (i pins s σ H _ I h) λc s1 ⟨H1,e,d⟩=>?_)
 cases c with
 | true=>exact ⟨H1,e,d⟩
 | false=>exact g f pins s1 σ H1 Q e d
def Sz (d:PT X a tA):PT X (.UnaryOp .Not a pos) (zeh tA):=by
 intro pins s σ H Q I h
 exact isTrue_not (d pins s σ H (λc H1=>Q (!c) H1) I h)
def zbw (ta tb:TE):TE:=λσ H Q=>ta σ H λx H1=>∃ c,x=.bl c/\if c=true then tb σ H1 Q else Q (.bl false) H1
def zeg (ta tb:TE):TE:=λσ H Q=>ta σ H λx H1=>∃ c,x=.bl c/\if c=true then Q (.bl true) H1 else tb σ H1 Q
def SH {op} (h:PE X a t):PE X (.BoolOp op [a] pos) t:=λpins s σ H Q I c=>BoolOp_one (h pins s σ H Q I c)
def SL (i:PE X a ta) (g:PE X (.BoolOp .And (b :: rest) pos) tb):PE X (.BoolOp .And (a :: b :: rest) pos) (zbw ta tb):=by
 intro pins s σ H Q I h
 refine BoolOp_and (thn (i pins s σ H _ I h) λv s1 ⟨x,H1,e,f,d⟩=>?_)
 obtain ⟨c,rfl,d⟩:=d
 cases f
 refine EX ?_
 cases c with
 | true=>exact g pins s1 σ H1 Q e d
 | false=>exact ⟨.bl false,H1,e,rfl,d⟩
def zci (i:PE X a ta) (g:PE X (.BoolOp .Or (b :: rest) pos) tb):PE X (.BoolOp .Or (a :: b :: rest) pos) (zeg ta tb):=by
 intro pins s σ H Q I h
 refine BoolOp_or (thn (i pins s σ H _ I h) λv s1 ⟨x,H1,e,f,d⟩=>?_)
 obtain ⟨c,rfl,d⟩:=d
 cases f
 refine EX ?_
 cases c with
 | false=>exact g pins s1 σ H1 Q e d
 | true=>exact ⟨.bl true,H1,e,rfl,d⟩
def tIf (t:TT) (ta tb:TE):TE:=λσ H Q=>t σ H λc H1=>if c=true then ta σ H1 Q else tb σ H1 Q
def Dt (g:PT X c tA) (j:PE X a ta) (i:PE X b tb):PE X (.IfExp c a b pos) (tIf tA ta tb):=by
 intro pins s σ H Q I h
 refine wpAny_IfExp (thn (g pins s σ H _ I h) λd s1 ⟨H1,f,e⟩=>?_)
 cases d with
 | true=>exact j pins s1 σ H1 Q f e
 | false=>exact i pins s1 σ H1 Q f e
end
def bG (K:Eh) (H:Hp) (a:Addr) (xs:List V):Prop :=
 Rd H a (.lst xs) ∨
  ∃ (o:Obj) (ah:Array Value) (n:Nat),K.lookup a=some o/\o.cls=.type "list"/\o.dict=none/\o.data=.seq ah n/\ah.size<=sizeLine/\yR xs ah.toList
def bT (K:Eh) (H:Hp) (a:Addr) (xs:List V):Prop :=
 Rd H a (.tup xs) ∨
  ∃ (o:Obj) (ah:Array Value) (n:Nat),K.lookup a=some o/\o.cls=.type "tuple"/\o.data=.seq ah n/\ah.size<=sizeLine/\yR xs ah.toList
def zfc:Value->Option V
 | .none=>some .non
 | .bool b=>some (.bl b)
 | .int i _=>some (.int i)
 | .str x _=>some (.str x)
 | .bytes b _=>some (.byt b)
 | .float b _=>some (.flt b)
 | .ref a=>some (.ref a)
 | .type n=>some (.ty n)
 | _=>none
def xv.abs (r:xv x u):zfc u=some x:=by
 cases x with
 | non=>cases r; rfl
 | bl _=>cases r; rfl
 | int _=>obtain ⟨t,rfl⟩:=r; rfl
 | str _=>obtain ⟨t,rfl⟩:=r; rfl
 | byt _=>obtain ⟨t,rfl⟩:=r; rfl
 | flt _=>obtain ⟨t,rfl⟩:=r; rfl
 | ref _=>cases r; rfl
 | ty _=>cases r; rfl
def xv.inj (r:xv x u) (q:xv y u):x=y:=ml.inj (r.abs.symm.trans q.abs)
theorem yR.inj:∀ {xs ys:List V} {us:List Value},yR xs us->yR ys us->xs=ys
 | _,_,_,.nil,.nil=>rfl
 | _,_,_,.cons r t,.cons a t'=>by rw [r.inj a,yR.inj t t']
section
variable {X:Cx} {pins:List (Addr×Obj)} {σ:St} {H:Hp} {s:Shared} {a:Addr} {xs ys:List V}
def bG.of {K:Eh} (h:H a=some (.lst xs)):bG K H a xs:=.inl (.inl h)
def bT.of {K:Eh} (h:H a=some (.tup xs)):bT K H a xs:=.inl (.inl h)
def Inv.list (I:Inv X pins σ H s) (h:bG X.K H a xs):∃ ah,yR xs ah/\PlainL s.heap a ah.toArray/\xs.length<=sizeLine:=by
 rcases h with h | ⟨o,ah,n,c,d,hd,b,hz,r⟩
 .obtain ⟨z,ah,n,r,e⟩:=h.ok I.hok
  exact ⟨ah,r,⟨_,n,e,rfl,rfl,rfl⟩,z⟩
 .refine ⟨ah.toList,r,⟨o,n,I.kIn a o c,d,hd,by simpa using b⟩,?_⟩
  have e:=r.length
  simp only [H_] at e
  omega
def Inv.tuple (I:Inv X pins σ H s) (h:bT X.K H a xs):∃ ah,yR xs ah/\IsTup s.heap a ah.toArray/\xs.length<=sizeLine:=by
 rcases h with h | ⟨o,ah,n,c,d,b,hz,r⟩
 .obtain ⟨z,ah,r,p⟩:=h.ok I.hok
  exact ⟨ah,r,p,z⟩
 .refine ⟨ah.toList,r,⟨o,I.kIn a o c,d,n,by simpa using b⟩,?_⟩
  have e:=r.length
  simp only [H_] at e
  omega
def Inv.list_inj (I:Inv X pins σ H s) (h:bG X.K H a xs) (h':bG X.K H a ys):xs=ys:=by
 obtain ⟨ah,r,⟨o,n,e,_,_,d⟩,_⟩:=I.list h
 obtain ⟨its',c,⟨o',n',b,_,_,d'⟩,_⟩:=I.list h'
 rw [e] at b; cases b
 rw [d] at d'
 injection d' with f _
 have:ah=its':=by simpa using congrArg Array.toList f
 subst this
 exact r.inj c
def Inv.tuple_inj (I:Inv X pins σ H s) (h:bT X.K H a xs) (h':bT X.K H a ys):xs=ys:=by
 obtain ⟨ah,r,⟨o,e,_,n,d⟩,_⟩:=I.tuple h
 obtain ⟨its',c,⟨o',b,_,n',d'⟩,_⟩:=I.tuple h'
 rw [e] at b; cases b
 rw [d] at d'
 injection d' with f _
 have:ah=its':=by simpa using congrArg Array.toList f
 subst this
 exact r.inj c
end
abbrev Cx.wish (X:Cx) (E:Value->Shared->Prop):Cx:={ X with xe:=E }
abbrev Cx.nox (X:Cx):Cx:=X.wish λ_ _=>False
def Cx.Ok.wish {X:Cx} (ok:X.Ok) (E):(X.wish E).Ok :=
 ⟨ok.mod,ok.kind,ok.glob,ok.blt,ok.above,ok.inj,ok.has,ok.cab,ok.hd,ok.frames,ok.stk,ok.exf,ok.bs,ok.bsz,ok.noex,ok.exfs,ok.funs,ok.frf⟩
def Cx.Ok.unwish {X:Cx} (ok:(X.wish E).Ok):X.Ok :=
 ⟨ok.mod,ok.kind,ok.glob,ok.blt,ok.above,ok.inj,ok.has,ok.cab,ok.hd,ok.frames,ok.stk,ok.exf,ok.bs,ok.bsz,ok.noex,ok.exfs,ok.funs,ok.frf⟩
section
variable {X:Cx} {pins:List (Addr×Obj)} {σ:St} {H:Hp} {s:Shared} {E:Value->Shared->Prop}
def Inv.wish (I:Inv X pins σ H s) (E):Inv (X.wish E) pins σ H s:=⟨I.ok.wish E,I.os,I.bare,I.base,I.loc,I.cell,I.free,I.freeC,I.pin,I.hok,I.len⟩
def Inv.unwish (I:Inv (X.wish E) pins σ H s):Inv X pins σ H s:=⟨I.ok.unwish,I.os,I.bare,I.base,I.loc,I.cell,I.free,I.freeC,I.pin,I.hok,I.len⟩
def SP.unwish (h:SP (X.wish E) pins D f s'):SP X pins D f s':=by
 cases f with
 | next=>obtain ⟨aL,H',I,q⟩:=h; exact ⟨aL,H',I.unwish,q⟩
 | brk=>obtain ⟨aL,H',I,q⟩:=h; exact ⟨aL,H',I.unwish,q⟩
 | cont=>obtain ⟨aL,H',I,q⟩:=h; exact ⟨aL,H',I.unwish,q⟩
 | ret u=>obtain ⟨v,aL,H',I,r,q⟩:=h; exact ⟨v,aL,H',I.unwish,r,q⟩
def f6.nox {st:List Stmt} (h:f6 X.nox st t):f6 X st t:=λpins s σ H D I a =>
 EB (h pins s σ H D (I.wish _) a) (λ_ _ q=>q.unwish) λ_ _ z=>Ik z
end
section
variable {X:Cx} {st:Stmt} {rest:List Stmt} {t u:TS} {e:Expr} {te:TE} {pos:Pos}
def zbr:TS:=λD σ H=>D.nx σ H
def zee (t u:TS):TS:=λD σ H=>t { D with nx:=u D } σ H
def Hd:f6 X [] zbr:=λ_ _ σ H _ I h=>IT ⟨σ,H,I,h⟩
def ZG (h1:PS X st t) (h2:f6 X rest u):f6 X (st :: rest) (zee t u):=by
 intro pins s σ H D I h
 refine wpAny_execs_cons (thn (h1 pins s σ H { D with nx:=u D } I h) λf s1 q=>?_)
 cases f with
 | next =>
  obtain ⟨aL,H',a,q⟩:=q
  exact h2 pins s1 aL H' D a q
 | ret v=>exact q
 | brk=>exact q
 | cont=>exact q
def Wu (h1:PS X st t):f6 X [st] t:=by
 intro pins s σ H D I h
 refine wpAny_execs_cons (thn (h1 pins s σ H D I h) λf s1 q=>?_)
 cases f with
 | next=>exact IT q
 | ret v=>exact q
 | brk=>exact q
 | cont=>exact q
def Inv.quiet (I:Inv X pins σ H s):interactive X.env=false:=by simp [interactive,I.ok.kind]
def zbt (te:TE):TS:=λD σ H=>te σ H λ_ H1=>D.nx σ H1
def He (c:PE X e te) (b:II e none pos.line X.env=pure false:=by rfl):PS X (.Expr e pos) (zbt te):=by
 intro pins s σ H D I h
 exact wpAny_Expr_any (thn (c pins s σ H _ I h) λv s1 ⟨x,H1,d,f,a⟩=>⟨σ,H1,d,a⟩) I.quiet b
def zef (te:TE):TS:=λD σ H=>te σ H D.rt
def Mi (c:PE X e te):PS X (.Return (some e) pos) (zef te):=by
 intro pins s σ H D I h
 exact wpAny_Return_some (thn (c pins s σ H _ I h) λv s1 ⟨x,H1,d,a,b⟩=>⟨x,σ,H1,d,a,b⟩)
def zej (c:TT) (t u:TS):TS:=λD σ H=>c σ H λb H1=>if b=true then t D σ H1 else u D σ H1
def SA (i:PT X c tc) (k:f6 X a t) (j:f6 X b u):PS X (.If c a b pos) (zej tc t u):=by
 intro pins s σ H D I h
 refine wpAny_If (thn (i pins s σ H _ I h) λd s1 ⟨H1,g,f⟩=>?_)
 cases d with
 | true=>exact k pins s1 σ H1 D g f
 | false=>exact j pins s1 σ H1 D g f
def RZ:TS:=λ_ _ _=>False
def Do:PS X st RZ:=λ_ _ _ _ _ _ h=>h.elim
end
abbrev TG:=V->St->Hp->(St->Hp->Prop)->Prop
abbrev pE:=List V->St->Hp->(St->Hp->Prop)->Prop
def PG (X:Cx) (a:Expr) (t:TG):Prop :=
 ∀ (pins:List (Addr×Obj)) (s:Shared) (σ:St) (H:Hp) (v:V) (u:Value) (Q:St->Hp->Prop),Inv X pins σ H s->xv v u->t v σ H Q →
  Ek (EA X.prog X.w) X.A (assign a X.env u) (λ_ s'=>∃ aL H',Inv X pins aL H' s'/\Q aL H') X.xe s
def pG (X:Cx) (ts:List Expr) (t:pE):Prop :=
 ∀ (pins:List (Addr×Obj)) (s:Shared) (σ:St) (H:Hp) (vs:List V) (us:List Value) (Q:St->Hp->Prop),Inv X pins σ H s->yR vs us->t vs σ H Q →
  Ek (EA X.prog X.w) X.A (assignInOrder ((Iu ts X.env).map (·.2)) us) (λ_ s'=>∃ aL H',Inv X pins aL H' s'/\Q aL H') X.xe s
abbrev zea:=V->V->V->Hp->(Hp->Prop)->Prop
def zec (X:Cx) (t:zea):Prop :=
 ∀ (pins:List (Addr×Obj)) (s:Shared) (σ:St) (H:Hp) (o i v:V) (a b u:Value) (Q:Hp->Prop),Inv X pins σ H s->xv o a->xv i b->xv v u->t o i v H Q →
  Ek (EA X.prog X.w) X.A (setItem a b u) (λ_ s'=>∃ H',Inv X pins σ H' s'/\Q H') X.xe s
abbrev TIp:=V->V->Hp->VK->Prop
def PIp (X:Cx) (op:Operator) (t:TIp):Prop :=
 ∀ (pins:List (Addr×Obj)) (s:Shared) (σ:St) (H:Hp) (x y:V) (v u:Value) (Q:VK),Inv X pins σ H s->xv x v->xv y u->t x y H Q →
  Ek (EA X.prog X.w) X.A (inplaceOp op v u) (EP X pins σ Q) X.xe s
section
variable {X:Cx} {pos:Pos}
def T4 (i:Nat):TG:=λv σ H Q=>Q (σ.set i (some v)) H
def NK (c:X.N.Nodup) (hi:X.N[i]? = some x) (a:Loc X.env.scope x) (b:X.fn x=true\/X.env.scope.names.lookup x=some .local:=by first | exact .inl rfl | exact .inr rfl | assumption):PG X (.Name x pos) (T4 i):=by
 intro pins s σ H v u Q I r h
 exact wpAny_assign_Name (X1 I c hi a r (λs' d=>⟨_,H,d,h⟩) b)
def ze7:pE:=λvs σ H Q=>vs=[]/\Q σ H
def zc1 (t:TG) (u:pE):pE:=λvs σ H Q=>∃ v r,vs=v :: r/\t v σ H λaL H'=>u r aL H' Q
def NJ:pG X [] ze7:=by
 intro pins s σ H vs us Q I r h
 obtain ⟨e,h⟩:=h
 subst e
 cases r
 exact assignInOrder_nil ⟨σ,H,I,h⟩
def Dr (h1:PG X e t) (h2:pG X es u)
  (d:(Iu (e :: es) X.env).map (·.2)=assign e X.env :: (Iu es X.env).map (·.2):=by rfl):pG X (e :: es) (zc1 t u):=by
 intro pins s σ H vs us Q I r h
 obtain ⟨v,g,e1,h⟩:=h
 subst e1
 cases r with
 | cons r a =>
  rw [d]
  refine assignInOrder_cons (thn (h1 pins s σ H _ _ _ I r h) λ_ s1 ⟨c,H1,f,b⟩=>?_)
  exact h2 pins s1 c H1 _ _ Q f a b
def ze5 (K:Eh) (n:Nat) (t:pE):TG:=λv σ H Q=>∃ a xs,v=.ref a/\bT K H a xs/\xs.length=n/\t xs σ H Q
def SE (j:X.calm=true) (h:pG X es t)
  (g:(Iu es X.env).length=n:=by rfl) (bq:(Iu es X.env).findIdx? (·.1)=none:=by rfl):PG X (.Tuple es k pos) (ze5 X.K n t):=by
 intro pins s σ H v u Q I r hw
 obtain ⟨a,xs,e1,f,i,hw⟩:=hw
 subst e1
 cases r
 obtain ⟨ah,c,ht,hz⟩:=I.tuple f
 refine assign_Tuple_tuple (I.ok.hd j) ht (by simp [g,<- i,c.length]) bq λh' d=>?_
 have l:Inv X pins σ H { s with heap:=h' }:=I.kept (t':=s.toks) λb o e=>d b o (cZ (El e)) e
 exact h pins _ σ H xs _ Q l (by simpa using c) hw
def ze6 (to a:TE) (t:zea):TG:=λv σ H Q=>to σ H λo H1=>a σ H1 λi H2=>t o i v H2 λb=>Q σ b
def SF (l:PE X o to) (hi:PE X i c) (k:zec X t)
  (m:∀ v,assign (.Subscript o i pos) X.env v=(do
   let a ← holding [v] (eval o X.env)
   let b ← holding [v,a] (eval i X.env)
   standAt pos
   holding [v,a,b] (setItem a b v)
   release [v,a,b] []):=by intro _; rfl):PG X (.Subscript o i pos) (ze6 to c t):=by
 intro pins s σ H v u Q I r h
 rw [m]
 refine be (E8 (thn (l pins s σ H _ I h) λa s1 ⟨x,H1,q,e,j⟩=>?_))
 refine be (E8 (thn (hi pins s1 σ H1 _ q j) λb s2 ⟨y,H2,p,d,g⟩=>?_))
 refine be (wpAny_standAt (be (E8 (thn (k pins s2 σ H2 x y v a b u _ p e d r g) λ_ s3 ⟨w,n,f⟩=>?_))))
 exact wpAny_release ⟨σ,w,n,f⟩
def zdm (te:TE) (g:TG):TS:=λD σ H=>te σ H λx H1=>g x σ H1 D.nx
def Ml (f:PE X e te) (hg:PG X tg g) (d:swapsWithSole [tg] e pos.line X.env=pure false:=by rfl) (c:swappedStores [tg] e X.env=pure none:=by rfl)
  (h1:(Iu [tg] X.env).map (·.2)=[assign tg X.env]:=by rfl):PS X (.Assign [tg] e pos) (zdm te g):=by
 intro pins s σ H D I h
 refine wpAny_Assign_stores (thn (f pins s σ H _ I h) λv s1 ⟨x,H1,i,a,b⟩=>?_) d c
 rw [h1]
 exact thn (hg pins s1 σ H1 x v _ i a b) λ_ s2 q=>q
def VJ (j:X.N.Nodup) (hi:X.N[i]? = some x) (c:Loc X.env.scope x) (g:PE X e te) (d:II e (some (.Name x pos')) pos.line X.env=pure false:=by rfl) (f:X.fn x=true\/X.env.scope.names.lookup x=some .local:=by first | exact .inl rfl | exact .inr rfl | assumption) :
  PS X (.Assign [.Name x pos'] e pos) (zdm te (T4 i)):=by
 intro pins s σ H D I h
 refine wpAny_Assign_Name (thn (g pins s σ H _ I h) λv s1 ⟨y,H1,l,a,b⟩=>?_) d
 exact X1 l j hi c a (λs2 k=>⟨_,H1,k,b⟩) f
def zel (i:Nat) (te:TE) (a:TIp):TS:=λD σ H=>∃ x,σ[i]? = some (some x)/\te σ H λy H1=>a x y H1 λz H2=>D.nx (σ.set i (some z)) H2
def Mj (G:X.N.Nodup) (hi:X.N[i]? = some x) (d:Loc X.env.scope x) (C:PE X e te) (p:PIp X op f) (B:X.fn x=true\/X.env.scope.names.lookup x=some .local:=by first | exact .inl rfl | exact .inr rfl | assumption) :
  PS X (.AugAssign (.Name x pos') op e pos) (zel i te f):=by
 intro pins s σ H D I h
 obtain ⟨v,e1,h⟩:=h
 obtain ⟨m,q,A⟩:=I.loc
 have b:iE X.env.scope x:=by rcases d with k | k; exact .inl k; exact .inr (.inl k)
 obtain ⟨u,r,l⟩:=A i x v hi e1 b
 refine wpAny_AugAssign_Name ?_
 have go:Ek (EA X.prog X.w) X.A (eval e X.env) (λw L=>Ek (EA X.prog X.w) X.A (inplaceOp op u w) (λr J=>Ek (EA X.prog X.w) X.A (storeName X.env x r) (λ_=>SP X pins D .next) X.xe J) X.xe L) X.xe s:=by
  refine thn (C pins s σ H _ I h) λw s1 ⟨y,H1,P,j,o⟩=>?_
  refine thn (p pins s1 σ H1 v y u w _ P r j o) λz s2 ⟨Q,H2,O,g,n⟩=>?_
  exact X1 O G hi d g (λR M=>⟨_,H2,M,n⟩) B
 rcases l with ⟨a,t⟩ | ⟨a,c,E,F⟩
 .exact wpAny_loadName_local I.ok.kind a q t go
 .rcases a with a | a
  .exact wpAny_loadName_cell I.ok.kind a E F go
  .rcases d with k | k
   .have:X.env.scope.names.lookup x=some .free:=a
    rw [k] at this; cases this
   .have:X.env.scope.names.lookup x=some .free:=a
    rw [k] at this; cases this
def ipI (f:Int->Int->Int):TIp:=λx y H Q=>∃ i j,x=.int i/\y=.int j/\Q (.int (f i j)) H
def TU:PIp X .Add (ipI λi j=>i+j):=by
 intro pins s σ H x y v u Q I b a h
 obtain ⟨i,j,e1,e2,q⟩:=h
 subst e1; subst e2
 obtain ⟨t,rfl⟩:=b
 obtain ⟨t',rfl⟩:=a
 exact iadd_int ⟨.int _,H,I.tok _,⟨_,rfl⟩,q⟩
end
section
variable {X:Cx} {pos:Pos}
def RY (c:TT) (tb:TS):TS:=λD σ H=>∃ W:Nat->St->Hp->Prop,(∃ m,W m σ H)/\∀ m σ H,W m σ H →
 c σ H λb H1=>if b=true then ∃ N:St->Hp->Prop,(∀ aL H',N aL H'->∃ a,a < m/\W a aL H')/\tb { D with nx:=N,ct:=N,bk:=D.nx } σ H1 else D.nx σ H1
def Dl (q:PassesOwn (EA X.prog X.w) X.A X.env X.xe) (y:PT X c tc) (z:f6 X body tb):PS X (.While c body [] pos) (RY tc tb):=by
 intro pins s σ H D I h
 obtain ⟨W,⟨x,w⟩,a⟩:=h
 refine wpAny_While (codeAny_whileLoop (λn s'=>∃ aL H',Inv X pins aL H' s'/\W n aL H') ?_ x ⟨σ,H,I,w⟩)
 rintro n s1 ⟨j,H1,A,u⟩
 refine IB q (thn (y pins s1 j H1 _ A (a n j H1 u)) λb s2 ⟨H2,t,i⟩=>?_)
 cases b with
 | true =>
  obtain ⟨N,r,i⟩:=i
  rw [if_pos rfl]
  refine IB q (thn (z pins s2 j H2 _ t i) λf B g=>?_)
  cases f with
  | next =>
   obtain ⟨d,e,p,l⟩:=g
   obtain ⟨m,o,k⟩:=r d e l
   exact ⟨m,o,d,e,p,k⟩
  | cont =>
   obtain ⟨d,e,p,l⟩:=g
   obtain ⟨m,o,k⟩:=r d e l
   exact ⟨m,o,d,e,p,k⟩
  | brk=>exact g
  | ret v=>exact g
 | false =>
  rw [if_neg iR]
  exact IT ⟨j,H2,t,i⟩
end
structure It where
 go:Nat->Hp->Prop
 yld:Nat->Hp->V->Hp->Prop
 stop:Nat->Hp->Prop
def jK (X:Cx) (pins:List (Addr×Obj)) (H:Hp) (b:Addr):Prop :=
 H b=none/\b≠X.env.locals/\b∉X.fs/\(b∈X.ex\/X.s₀.heap.objs.size<=b)/\(∀ x c,X.env.cells.lookup x=some c->c≠b)/\∀ p∈X.pn++pins,p.1≠b
def Inv.fpOk   {σ:St} {b:Addr} (I:Inv X pins σ H s) (a:s.heap.objs.size<=b) (f:H' b=none):jK X pins H' b:=by
 refine ⟨f,Nat.ne_of_gt (fZ I.lt a),I.nofs a,.inr (fc I.sz a),λx c e z=>?_,λp d z=>?_⟩
 .obtain ⟨v,q⟩:=I.cell x c e
  exact absurd (fZ q.lt (by rw [z]; exact a)) (mm _)
 .exact absurd (fZ (El (I.pin p d).1) (by rw [z]; exact a)) (mm _)
structure Turn (P:Ex) (w:ER) (K:Eh) (tg:Expr) (J:It) (fp:List Addr) (it:Addr) (tn:Nat->Heap->Prop):Prop where
 mem:it∈fp
 obj:∀ i h,tn i h->∀ b∈fp,∃ o,h.get? b=some o/\∀ v,o.data≠.cell v
 keep:∀ i h h',tn i h->(∀ b∈fp,∀ o,h.get? b=some o->h'.get? b=some o)->tn i h'
 item:∀ (X:Cx),X.prog=P->X.w=w->X.K=K->X.calm=true->∀ (i:Nat) (pins:List (Addr×Obj)) (s:Shared) (σ:St) (H:Hp) (E:Value->Shared->Prop),Inv X pins σ H s->(∀ b∈fp,jK X pins H b)->tn i s.heap->J.go i H →
  Ek (EA P w) X.A (pyNext (.ref it)) (λr s1=>∃ u,r=some u ∧
   Ek (EA P w) X.A (Ln tg (.ref it) u) (λ_ s2=>∃ x H',Inv X pins σ H' s2/\xv x u/\J.yld i H x H'/\tn (i+1) s2.heap/\∀ b∈fp,H' b=none) E s1) E s
 done:∀ (X:Cx),X.prog=P->X.w=w->X.K=K->X.calm=true->∀ (i:Nat) (pins:List (Addr×Obj)) (s:Shared) (σ:St) (H:Hp) (E:Value->Shared->Prop),Inv X pins σ H s->(∀ b∈fp,jK X pins H b)->tn i s.heap->J.stop i H →
  Ek (EA P w) X.A (pyNext (.ref it)) (λr s1=>r=none/\Inv X pins σ H s1) E s
 self:∀ (A:Around) (i:Nat) (s:Shared) (Q:Value->Shared->Prop) (E:Value->Shared->Prop),tn i s.heap->Q (.ref it) s->Ek (EA P w) A (pyIter (.ref it)) Q E s
abbrev TI:=St->Hp->(It->Hp->Prop)->Prop
def PIE (X:Cx) (pins:List (Addr×Obj)) (σ:St) (tg:Expr) (R:It->Hp->Prop) (a:Value) (s2:Shared):Prop :=
 ∃ (it:Addr) (fp:List Addr) (tn:Nat->Heap->Prop) (J:It) (H':Hp),a=.ref it/\Inv X pins σ H' s2/\Turn X.prog X.w X.K tg J fp it tn/\tn 0 s2.heap/\(∀ b∈fp,jK X pins H' b)/\R J H'
def PI (X:Cx) (tg iter:Expr) (a:TI):Prop :=
 ∀ (pins:List (Addr×Obj)) (s:Shared) (σ:St) (H:Hp) (R:It->Hp->Prop),Inv X pins σ H s->a σ H R →
  Ek (EA X.prog X.w) X.A (eval iter X.env) (λv s1=>Ek (EA X.prog X.w) X.A (pyIter v) (PIE X pins σ tg R) X.xe s1) X.xe s
def Fq (b:s.heap.get? it=some o) (d:o.cls=.type n) (hd:o.data=.fields vs)
    (c:["enumerate","zip","dict_itemiterator","dict_reverseitemiterator","odict_iterator","itertools.zip_longest","itertools.pairwise"].contains n=false) (a:Q () s):Ek M A (Ln tg (.ref it) u) Q E s:=by
  unfold Ln
  cases tg <;> first
    | exact mo a
    | (cases u <;> first
        | exact mo a
        | (refine be (wpAny_load b ?_)
           rw [d,hd]
           show Ek M A (if (["enumerate","zip","dict_itemiterator","dict_reverseitemiterator","odict_iterator","itertools.zip_longest","itertools.pairwise"].contains n&&vs[0]? == some (IF _))=true then _ else _) Q E s
           rw [if_neg (by intro h; rw [c,Bool.false_and] at h; cases h)]
           exact mo a))
def Itl (K:Eh) (a:Addr):It :=
 ⟨λi H=>∃ xs x,bG K H a xs/\xs[i]? = some x,λi H x H'=>H'=H/\∀ xs,bG K H a xs->xs[i]? = some x,λi H=>∃ xs,bG K H a xs/\xs.length<=i⟩
def Itt (K:Eh) (a:Addr):It :=
 ⟨λi H=>∃ xs x,bT K H a xs/\xs[i]? = some x,λi H x H'=>H'=H/\∀ xs,bT K H a xs->xs[i]? = some x,λi H=>∃ xs,bT K H a xs/\xs.length<=i⟩
def Ef (lo:Int) (n:Nat):It:=⟨λi _=>i < n,λi H x H'=>H'=H/\x=.int (lo+i),λi _=>n<=i⟩
def GC {P:Ex} {w:ER} {K:Eh} {tg:Expr} (a it:Addr):Turn P w K tg (Itl K a) [it] it (λi h=>h.IsListIter it a i) where
 mem:=by simp
 obj:=λi h st b f=>by
  have e:b=it:=by simpa using f
  subst e
  obtain ⟨o,e,c,d⟩:=st
  exact ⟨o,e,λv z=>by rw [d] at z; cases z⟩
 keep:=λi h h' st k=>st.at λo e=>k it (by simp) o e
 item:=by
  intro X q n r B i pins s σ H E I j st hg
  subst q n r
  obtain ⟨xs,x,g,m⟩:=hg
  obtain ⟨ah,l,p,hz⟩:=I.list g
  obtain ⟨u,L,G⟩:=l.get m
  obtain ⟨f0,f1,f2,A,y,t⟩:=j it (by simp)
  refine wpAny_pyNext_list_item st p.isList (x:=u) (by simpa using L) λh' C F=>?_
  have O:Inv X pins σ H { s with heap:=h' }:=I.turned (t':=s.toks) (λb o f e=>(F.2 b f).trans e) f0 f1 A y t
  obtain ⟨o,e,c,d⟩:=id C
  exact ⟨u,rfl,Fq (s:={ s with heap:=h' }) e c d (by decide) ⟨x,H,O,G,⟨rfl,λys J=>by rw [I.list_inj J g]; exact m⟩,C,λb f=>(j b f).1⟩⟩
 done:=by
  intro X q n r B i pins s σ H E I j st hg
  subst q n r
  obtain ⟨xs,g,m⟩:=hg
  obtain ⟨ah,l,p,hz⟩:=I.list g
  obtain ⟨f0,f1,f2,A,y,t⟩:=j it (by simp)
  have Q:=l.length
  exact wpAny_pyNext_list_end (I.ok.hd B) st p.isList (by simp; omega) λh' M=>⟨rfl,I.turned (t':=s.toks) (λb o f e=>M b o f e) f0 f1 A y t⟩
 self:=λ_ _ _ _ _ st h=>wpAny_pyIter_listiter st h
def Kz {P:Ex} {w:ER} {K:Eh} {tg:Expr} (a it:Addr):Turn P w K tg (Itt K a) [it] it (λi h=>h.IsTupleIter it a i) where
 mem:=by simp
 obj:=λi h st b f=>by
  have e:b=it:=by simpa using f
  subst e
  obtain ⟨o,e,c,d⟩:=st
  exact ⟨o,e,λv z=>by rw [d] at z; cases z⟩
 keep:=λi h h' st k=>st.at λo e=>k it (by simp) o e
 item:=by
  intro X q n r B i pins s σ H E I j st hg
  subst q n r
  obtain ⟨xs,x,g,m⟩:=hg
  obtain ⟨ah,l,p,hz⟩:=I.tuple g
  obtain ⟨u,L,G⟩:=l.get m
  obtain ⟨f0,f1,f2,A,y,t⟩:=j it (by simp)
  refine wpAny_pyNext_tuple_item st (show s.heap.IsTuple a ah.toArray from p) (x:=u) (by simpa using L) λh' C F=>?_
  have O:Inv X pins σ H { s with heap:=h' }:=I.turned (t':=s.toks) (λb o f e=>(F.2 b f).trans e) f0 f1 A y t
  obtain ⟨o,e,c,d⟩:=id C
  exact ⟨u,rfl,Fq (s:={ s with heap:=h' }) e c d (by decide) ⟨x,H,O,G,⟨rfl,λys J=>by rw [I.tuple_inj J g]; exact m⟩,C,λb f=>(j b f).1⟩⟩
 done:=by
  intro X q n r B i pins s σ H E I j st hg
  subst q n r
  obtain ⟨xs,g,m⟩:=hg
  obtain ⟨ah,l,p,hz⟩:=I.tuple g
  obtain ⟨f0,f1,f2,A,y,t⟩:=j it (by simp)
  have Q:=l.length
  exact wpAny_pyNext_tuple_end (I.ok.hd B) st (show s.heap.IsTuple a ah.toArray from p) (by simp; omega) λh' M=>⟨rfl,I.turned (t':=s.toks) (λb o f e=>M b o f e) f0 f1 A y t⟩
 self:=λ_ _ _ _ _ st h=>wpAny_pyIter_tupleiter st h
def KA {P:Ex} {w:ER} {K:Eh} {tg:Expr} (it:Addr) (lo:Int) (n:Nat):Turn P w K tg (Ef lo n) [it] it (λi h=>IsRangeIter h it (lo+(i:Nat) * 1) ((n:Int) - (i:Nat)) 1) where
 mem:=by simp
 obj:=λi h st b a=>by
  have e:b=it:=by simpa using a
  subst e
  exact ⟨_,st,λv z=>by
   have q:Data.fields _=Data.cell v:=z
   cases q⟩
 keep:=λi h h' st k=>k it (by simp) _ st
 item:=by
  intro X g d j f i pins s σ H E I c st hg
  subst g d j
  obtain ⟨f0,f1,f2,m,f4,l⟩:=c it (by simp)
  have W:=Walks.range (prog:=X.prog) (w:=X.w) (I.ok.hd f) it lo 1 n
  refine W.item i s _ _ hg st λv h' tk r p kk=>?_
  obtain ⟨t,rfl⟩:=r
  have x:Inv X pins σ H { s with heap:=h',toks:=tk }:=I.turned (λb o a e=>kk b o (by simpa using a) e) f0 f1 m f4 l
  refine ⟨_,rfl,Fq (s:={ s with heap:=h',toks:=tk }) (n:="range_iterator") p rfl rfl (by decide) ⟨.int (lo+i),H,x,⟨t,?_⟩,⟨rfl,rfl⟩,p,λb a=>(c b a).1⟩⟩
  rw [Int.mul_one]
 done:=by
  intro X g d j f i pins s σ H E I c st hg
  subst g d j
  obtain ⟨f0,f1,f2,m,f4,l⟩:=c it (by simp)
  exact wpAny_pyNext_range_end (I.ok.hd f) st (by have:n<=i:=hg; omega) λh' u=>⟨rfl,I.turned (t':=s.toks) (λb o a e=>u b o a e) f0 f1 m f4 l⟩
 self:=λ_ _ _ _ _ st h=>wpAny_pyIter_rangeiter st h
section
variable {X:Cx} {tg:Expr}
def Jp  {σ:St} {lo hi:Int} (I:Inv X pins σ H s) (h1 : -(2 ^ 62)<=lo) (h2:lo < 2 ^ 62) (f : -(2 ^ 62)<=hi) (d:hi < 2 ^ 62)
  (q:R (Ef lo (hi - lo).toNat) H):Ek (EA X.prog X.w) X.A (pyIter (.ref s.heap.objs.size)) (PIE X pins σ tg R) E { s with heap:=s.heap.push { cls:=.type "range",data:=.fields #[.int lo t,.int hi u,.int 1 v] },toks:=tk }:=by
 refine wpAny_pyIter_range (IsRange.new ..) (small_one h1 h2 f d) ?_
 have a:Inv X pins σ H { s with heap:=s.heap.push { cls:=.type "range",data:=.fields #[.int lo t,.int hi u,.int 1 v] },toks:=tk }:=I.kept λb o e=>ls _ e
 refine ⟨(s.heap.push { cls:=.type "range",data:=.fields #[.int lo t,.int hi u,.int 1 v] }).objs.size,[(s.heap.push { cls:=.type "range",data:=.fields #[.int lo t,.int hi u,.int 1 v] }).objs.size],_,_,H,rfl,
  a.kept (t':=tk) λb o e=>ls _ e,KA _ lo (hi - lo).toNat,?_,λb c=>?_,q⟩
 .have e1:lo+((0:Nat):Int) * 1=lo:=by simp
  have e2:(((hi - lo).toNat:Nat):Int) - ((0:Nat):Int)=EG lo hi 1:=by rw [rangeSize_one]; split <;> omega
  show IsRangeIter _ _ (lo+((0:Nat):Int) * 1) ((((hi - lo).toNat:Nat):Int) - ((0:Nat):Int)) 1
  rw [e1,e2]
  exact Ej _ rfl
 .have e:b=(s.heap.push { cls:=.type "range",data:=.fields #[.int lo t,.int hi u,.int 1 v] }).objs.size:=by simpa using c
  subst e
  exact a.fpOk (aT _) (a.hok.fresh (aT _))
def zcy (ta:TA):TI:=λσ H R=>ta σ H λvs H1=>∃ j:Int,vs=[.int j] /\ -(2 ^ 62)<=j/\j < 2 ^ 62/\R (Ef 0 j.toNat) H1
def zcx (ta:TA):TI:=λσ H R=>ta σ H λvs H1=>∃ i j:Int,vs=[.int i,.int j]/\(-(2 ^ 62)<=i/\i < 2 ^ 62 /\ -(2 ^ 62)<=j/\j < 2 ^ 62)/\R (Ef i (j - i).toNat) H1
def Hk (hg:Gl X "range") (i:X.mg "range"=none) (k:PA X [a] ta) (g:Ei [a] X.env=[(false,eval a X.env)]:=by rfl):PI X tg (.Call (.Name "range" p) [a] [] pos) (zcy ta):=by
 intro pins s σ H R I h
 refine Call_ (jl I hg i boot_range (EM (thn (k pos pins s σ H _ I h) λus s1 ⟨vs,H1,l,d,b⟩=>?_) g rfl))
 obtain ⟨j,e,b,f,q⟩:=b
 subst e
 cases d with
 | cons r c =>
  cases c
  obtain ⟨t,rfl⟩:=r
  exact call_range_1 (Jp l (by omega) (by omega) b f (by simpa using q))
def Hj (hg:Gl X "range") (o:X.mg "range"=none) (u:PA X [a,b] ta) (n:Ei [a,b] X.env=[(false,eval a X.env),(false,eval b X.env)]:=by rfl) (hs2:Ei [b] X.env=[(false,eval b X.env)]:=by rfl):
  PI X tg (.Call (.Name "range" p) [a,b] [] pos) (zcx ta):=by
 intro pins s σ H R I h
 refine Call_ (jl I hg o boot_range (EM (thn (u pos pins s σ H _ I h) λus s1 ⟨vs,H1,v,f,d⟩=>?_) (by rw [n,hs2]) (by rw [hs2]; rfl)))
 obtain ⟨i,j,e,⟨d,m,l,k⟩,q⟩:=d
 subst e
 cases f with
 | cons r c =>
  cases c with
  | cons g c =>
   cases c
   obtain ⟨t,rfl⟩:=r
   obtain ⟨t',rfl⟩:=g
   exact call_range_2 (Jp v d m l k q)
def zek (b:TI) (g:TG) (tb:TS):TS:=λD σ H=>b σ H λJ H1=>∃ W:Nat->Nat->St->Hp->Prop,(∃ m,W 0 m σ H1)/\∀ i m σ H,W i m σ H →
 (J.stop i H/\D.nx σ H)\/(J.go i H/\∃ N:St->Hp->Prop,(∀ aL H',N aL H'->∃ a,a < m/\W (i+1) a aL H')/\∀ x H',J.yld i H x H'->g x σ H' λc H2=>tb { D with nx:=N,ct:=N,bk:=D.nx } c H2)
def Zo (fp:List Addr) (h:Heap):List (Addr×Obj):=fp.filterMap λb=>(h.get? b).map λo=>(b,o)
def we (a:b∈fp) (e:h.get? b=some o):(b,o)∈Zo fp h:=nD.mpr ⟨b,a,by rw [e]; rfl⟩
def Yh   {p:Addr×Obj} (a:p∈Zo fp h):p.1∈fp/\h.get? p.1=some p.2:=by
 obtain ⟨b,c,e⟩:=nD.mp a
 cases q:h.get? b with
 | none=>rw [q] at e; cases e
 | some o =>
  rw [q] at e
  have d:(b,o)=p:=ml.inj e
  subst d
  exact ⟨c,q⟩
def Inv.pinned (I:Inv X pins σ H s) (h:∀ b∈fp,jK X pins H b) (g:∀ b∈fp,∃ o,s.heap.get? b=some o/\∀ v,o.data≠.cell v):Inv X (pins++Zo fp s.heap) σ H s :=
 I.pins_of λp f=>(cQ.mp f).elim (λz=>I.pin p (e9 _ z)) λz=>by
  obtain ⟨a,e⟩:=Yh z
  obtain ⟨f0,f1,f2,_⟩:=h p.1 a
  obtain ⟨o,c,d⟩:=g p.1 a
  rw [e] at c; cases c
  exact ⟨e,f0,f1,f2,d⟩
def Inv.unpinned (I:Inv X (pins++b) σ H s):Inv X pins σ H s:=I.pins_of λp a=>I.pin p (e9 _ (lY _ a))
def SB (w:PassesOwn (EA X.prog X.w) X.A X.env X.xe) (L:X.calm=true) (hi:PI X tg iter S) (hg:PG X tg g) (c:f6 X body tb)
  (hs:∀ x,Lc iter X.env x=pure x:=by intro _; rfl):PS X (.For tg iter body [] pos) (zek S g tb):=by
 intro pins s σ H D I h
 refine wpAny_For (thn (hi pins s σ H _ I h) λv s1 h1=>thn h1 λitv s2 h2=>?_) hs
 obtain ⟨it,fp,tn,J,H2,e,I2,T,sU,f2,W,⟨m0,Z⟩,p⟩:=h2
 subst e
 have C:∀ {H':Hp},(∀ b∈fp,H' b=none)->∀ b∈fp,jK X pins H' b:=λhn b c=>⟨hn b c,(f2 b c).2⟩
 refine codeAny_forLoop_any (λn s'=>∃ i aL H',Inv X pins aL H' s'/\tn i s'.heap/\(∀ b∈fp,H' b=none)/\W i n aL H') ?_ m0 ⟨0,σ,H2,I2,sU,λb c=>(f2 b c).1,Z⟩
 rintro n G ⟨i,t,y,M,F,P,Y⟩
 rcases p i n t y Y with ⟨stop,qn⟩ | ⟨go,N,hN,step⟩
 .refine IB w (thn (T.done X rfl rfl rfl L i pins G t y X.xe M (C P) F stop) λr s4 ⟨B,I4⟩=>?_)
  subst B
  exact IT ⟨t,y,I4,qn⟩
 .refine IB w (thn (T.item X rfl rfl rfl L i pins G t y X.xe M (C P) F go) λr s4 ⟨u,B,h4⟩=>?_)
  subst B
  refine IB w (thn h4 λ_ s5 ⟨x,O,I5,r5,Q,A,A5⟩=>?_)
  have E:=I5.pinned (C A5) (T.obj _ _ A)
  refine IB w (thn (hg _ s5 t O x u _ E r5 (step x O Q)) λ_ s6 ⟨iX,H6,I6,q6⟩=>?_)
  refine IB w (thn (c _ s6 iX H6 _ I6 q6) λf z l=>?_)
  have again:∀ {a:St} {k:Hp},Inv X (pins++Zo fp s5.heap) a k z->N a k->∃ m,m < n/\∃ i aL H',Inv X pins aL H' z/\tn i z.heap/\(∀ b∈fp,H' b=none)/\W i m aL H':=λ{a k} j q=>by
   obtain ⟨m',hm,U⟩:=hN a k q
   refine ⟨m',hm,i+1,a,k,j.unpinned,T.keep _ _ _ A λb c o e=>(j.pin (b,o) (e9 _ (e9 _ (we c e)))).1,λb c=>?_,U⟩
   obtain ⟨o,e,d⟩:=T.obj _ _ A b c
   exact (j.pin (b,o) (e9 _ (e9 _ (we c e)))).2.1
  cases f with
  | next=>obtain ⟨a,k,j,q⟩:=l; exact again j q
  | cont=>obtain ⟨a,k,j,q⟩:=l; exact again j q
  | brk=>obtain ⟨a,k,j,l⟩:=l; exact ⟨a,k,j.unpinned,l⟩
  | ret v=>obtain ⟨R,a,k,j,r7,l⟩:=l; exact ⟨R,a,k,j.unpinned,r7,l⟩
end
abbrev R2:=V->V->Hp->VK->Prop
def cA (X:Cx) (f:Value->Value->Sem Value) (r:R2):Prop :=
 ∀ (pins:List (Addr×Obj)) (s:Shared) (σ:St) (H:Hp) (x y:V) (v u:Value) (Q:VK),Inv X pins σ H s->xv x v->xv y u->r x y H Q →
  Ek (EA X.prog X.w) X.A (f v u) (EP X pins σ Q) X.xe s
def UnR (X:Cx) (f:Value->Sem Value) (r:V->Hp->VK->Prop):Prop :=
 ∀ (pins:List (Addr×Obj)) (s:Shared) (σ:St) (H:Hp) (x:V) (v:Value) (Q:VK),Inv X pins σ H s->xv x v->r x H Q →
  Ek (EA X.prog X.w) X.A (f v) (EP X pins σ Q) X.xe s
def wI (X:Cx) (f:Value) (r:List V->Hp->VK->Prop):Prop :=
 ∀ (pins:List (Addr×Obj)) (s:Shared) (σ:St) (H:Hp) (xs:List V) (us:List Value) (Q:VK),Inv X pins σ H s->yR xs us->r xs H Q →
  Ek (EA X.prog X.w) X.A (call f us) (EP X pins σ Q) X.xe s
def sO (r:R2) (ta tb:TE):TE:=λσ H Q=>ta σ H λx H1=>tb σ H1 λy H2=>r x y H2 Q
def tUn (r:V->Hp->VK->Prop) (ta:TE):TE:=λσ H Q=>ta σ H λx H1=>r x H1 Q
def rI (C:Int->Int->Prop) (g:Int->Int->V):R2:=λx y H Q=>∃ i j,x=.int i/\y=.int j/\C i j/\Q (g i j) H
def ip (g:Int->Int->V):R2:=λx y H Q=>∃ i j,x=.int i/\y=.int j/\Q (g i j) H
def rU (g:Int->V):V->Hp->VK->Prop:=λx H Q=>∃ i,x=.int i/\Q (g i) H
section
variable {X:Cx} {a b c:Expr} {ta tb tc:TE} {pos:Pos}
def zdc (m:PE X a ta) (l:PE X b tb) {σ:St} {R:V->V->Hp->Prop} (I:Inv X pins σ H s)
  (h:ta σ H λx H1=>tb σ H1 λy H2=>R x y H2) {f:Value->Value->Sem Value}
  (k:∀ v u s2 x y H2,Inv X pins σ H2 s2->xv x v->xv y u->R x y H2->Ek (EA X.prog X.w) X.A (f v u) Q X.xe s2) :
  Ek (EA X.prog X.w) X.A (eval a X.env) (λv d=>Ek (EA X.prog X.w) X.A (eval b X.env) (λu n=>Ek (EA X.prog X.w) X.A (f v u) Q X.xe n) X.xe d) X.xe s:=by
 refine thn (m pins s σ H _ I h) λv s1 ⟨x,H1,p,g,j⟩=>?_
 refine thn (l pins s1 σ H1 _ p j) λu s2 ⟨y,H2,o,e,i⟩=>?_
 exact k v u s2 x y H2 o g e i
def NL (f:cA X (Iw op) r) (i:PE X a ta) (g:PE X b tb):PE X (.BinOp a op b pos) (sO r ta tb):=by
 intro pins s σ H Q I h
 exact wpAny_BinOp (zdc i g I h λv u s2 x y H2 j e d q=>f pins s2 σ H2 x y v u Q j e d q)
def zch (f:UnR X (unaryOp op) r) (g:PE X a ta):PE X (.UnaryOp op a pos) (tUn r ta):=by
 intro pins s σ H Q I h
 exact UnaryOp_ (thn (g pins s σ H _ I h) λv s1 ⟨x,H1,i,d,e⟩=>f pins s1 σ H1 x v Q i d e)
def opI   {g:Int->Int->Int}
  (rule:∀ (i j:Int) (t u:Tok) (s:Shared) (Q:Value->Shared->Prop) (E:Value->Shared->Prop),C i j->Q (.int (g i j) s.toks) { s with toks:=s.toks+1 }->Ek (EA X.prog X.w) X.A (f (.int i t) (.int j u)) Q E s) :
  cA X f (rI C λi j=>.int (g i j)):=by
 intro pins s σ H x y v u Q I e d h
 obtain ⟨i,j,rfl,rfl,k,q⟩:=h
 obtain ⟨t,rfl⟩:=e
 obtain ⟨t',rfl⟩:=d
 exact rule i j t t' s _ _ k ⟨.int (g i j),H,I.tok _,⟨_,rfl⟩,q⟩
def zd1  {g:Int->Int->Int}
  (rule:∀ (i j:Int) (t u:Tok) (s:Shared) (Q:Value->Shared->Prop) (E:Value->Shared->Prop),Q (.int (g i j) s.toks) { s with toks:=s.toks+1 }->Ek (EA X.prog X.w) X.A (f (.int i t) (.int j u)) Q E s) :
  cA X f (ip λi j=>.int (g i j)):=by
 intro pins s σ H x y v u Q I e d h
 obtain ⟨i,j,rfl,rfl,q⟩:=h
 obtain ⟨t,rfl⟩:=e
 obtain ⟨t',rfl⟩:=d
 exact rule i j t t' s _ _ ⟨.int (g i j),H,I.tok _,⟨_,rfl⟩,q⟩
def zco  {g:Int->Int->Bool}
  (rule:∀ (i j:Int) (t u:Tok) (s:Shared) (Q:Value->Shared->Prop) (E:Value->Shared->Prop),Q (.bool (g i j)) s->Ek (EA X.prog X.w) X.A (f (.int i t) (.int j u)) Q E s) :
  cA X f (ip λi j=>.bl (g i j)):=by
 intro pins s σ H x y v u Q I e d h
 obtain ⟨i,j,rfl,rfl,q⟩:=h
 obtain ⟨t,rfl⟩:=e
 obtain ⟨t',rfl⟩:=d
 exact rule i j t t' s _ _ ⟨.bl (g i j),H,I,rfl,q⟩
def SU:cA X (Iw .Add) (ip λi j=>.int (i+j)):=zd1 λ_ _ _ _ _ _ _ q=>add_int q
def SN:cA X (Iw .Sub) (ip λi j=>.int (i - j)):=zd1 λ_ _ _ _ _ _ _ q=>sub_int q
def SQ:cA X (Iw .Mod) (rI (λ_ j=>0 < j) λi j=>.int (i % j)):=opI λi j _ _ _ _ _ d q=>by
 have h1:(0:Int) < j:=d
 exact mod_int' (by omega) (by rw [Int.fmod_eq_emod_of_nonneg i (by omega)]; exact q)
def unI  {g:Int->Int}
  (rule:∀ (i:Int) (t:Tok) (s:Shared) (Q:Value->Shared->Prop) (E:Value->Shared->Prop),Q (.int (g i) s.toks) { s with toks:=s.toks+1 }->Ek (EA X.prog X.w) X.A (f (.int i t)) Q E s) :
  UnR X f (rU λi=>.int (g i)):=by
 intro pins s σ H x v Q I d h
 obtain ⟨i,rfl,q⟩:=h
 obtain ⟨t,rfl⟩:=d
 exact rule i t s _ _ ⟨.int (g i),H,I.tok _,⟨_,rfl⟩,q⟩
def RU:UnR X (unaryOp .USub) (rU λi=>.int (-i)):=unI λ_ _ _ _ _ q=>neg_int q
end
section
variable {X:Cx} {a b c:Expr} {ta tb tc:TE} {pos:Pos}
def JY (I:Inv X pins σ H s) (q:Q (.bl k) H) (e:k=d):EP X pins σ Q (.bool d) s:=by
 subst e
 exact ⟨.bl k,H,I,rfl,q⟩
def zcm:cA X (G_ .Lt) (ip λi j=>.bl (decide (i < j))):=zco λ_ _ _ _ _ _ _ q=>lt_int q
def SR:cA X (G_ .Gt) (ip λi j=>.bl (decide (j < i))):=zco λ_ _ _ _ _ _ _ q=>gt_int q
def zcn:cA X (G_ .GtE) (ip λi j=>.bl (decide (j<=i))):=zco λ_ _ _ _ _ _ _ q=>ge_int q
def Hr:cA X (G_ .In) (λx y H Q=>∃ i j,x=.str i/\y=.str j/\Q (.bl (!(LI j i 0 j.length 1).isEmpty)) H):=by
 intro pins s σ H x y v u Q I e d h
 obtain ⟨i,j,rfl,rfl,q⟩:=h
 obtain ⟨t,rfl⟩:=e
 obtain ⟨t',rfl⟩:=d
 exact in_str (JY I q rfl)
def Hq:cA X (G_ .IsNot) (λx y H Q=>y=.non/\Q (.bl (!decide (x=.non))) H):=by
 intro pins s σ H x y v u Q I d e h
 obtain ⟨rfl,q⟩:=h
 cases e
 refine isnot_none_gen (JY I q ?_)
 cases x <;> first
  | (cases d; rfl)
  | (obtain ⟨t,rfl⟩:=d; rfl)
def VQ:cA X (G_ .NotIn) (λx y H Q=>∃ i j,x=.str i/\y=.str j/\Q (.bl (!(!(LI j i 0 j.length 1).isEmpty))) H):=by
 intro pins s σ H x y v u Q I e d h
 obtain ⟨i,j,rfl,rfl,q⟩:=h
 obtain ⟨t,rfl⟩:=e
 obtain ⟨t',rfl⟩:=d
 exact notIn_str (JY I q rfl)
def cA.or (h:cA X f r) (h':cA X f g):cA X f (λx y H Q=>r x y H Q\/g x y H Q):=by
 intro pins s σ H x y v u Q I e d q
 rcases q with q | q
 .exact h pins s σ H x y v u Q I e d q
 .exact h' pins s σ H x y v u Q I e d q
def qv (b) (h:op≠.In:=by decide) (h2:op≠.NotIn:=by decide):EU op b=false:=by
 have e1:(op==CmpOp.In)=false:=by cases op <;> first | rfl | exact absurd rfl h
 have e2:(op==CmpOp.NotIn)=false:=by cases op <;> first | rfl | exact absurd rfl h2
 cases b <;> simp [EU,e1,e2]
def NM (f:cA X (G_ op) r) (j:PE X a ta) (i:PE X b tb) (g:EU op b=false):PE X (.Compare a [op] [b] pos) (sO r ta tb):=by
 intro pins s σ H Q I h
 exact wpAny_Compare1 (zdc j i I h λv u s2 x y H2 k e d q=>f pins s2 σ H2 x y v u Q k e d q) g
def zbo (t:TE):TT:=λσ H Q=>t σ H λx H'=>∃ k,x=.bl k/\Q k H'
def NA (l:cA X (G_ op) r) (o:PE X a ta) (n:PE X b tb) (m:EU op b=false):PT X (.Compare a [op] [b] pos) (zbo (sO r ta tb)):=by
 intro pins s σ H Q I h
 refine wpAny_isTrue_Compare1 (thn (o pins s σ H _ I h) λv s1 ⟨x,H1,t,f,j⟩=>thn (n pins s1 σ H1 _ t j) λu s2 ⟨y,H2,q,d,i⟩ =>
  thn (l pins s2 σ H2 x y v u _ q f d i) λc s3 ⟨z,w,p,r3,k,e,g⟩=>?_) m
 subst e
 cases r3
 exact EX ⟨w,p,g⟩
def qw:(sizeLine:Nat) < 2 ^ 63:=by rw [EK]; decide
def KR:cA X (Iw .Add) (λx y H Q=>∃ i j,x=.str i/\y=.str j/\i.length+j.length<=sizeLine/\Q (.str (i++j)) H):=by
 intro pins s σ H x y v u Q I e d h
 obtain ⟨i,j,rfl,rfl,hz,q⟩:=h
 obtain ⟨t,rfl⟩:=e
 obtain ⟨t',rfl⟩:=d
 exact add_str (λt' tk=>⟨.str (i++j),H,I.tok _,⟨_,rfl⟩,q⟩) hz
def kH (r:yR [x] us):∃ u,us=[u]/\xv x u:=by
 cases r with
 | cons e d=>cases d; exact ⟨_,rfl,e⟩
def CJ (r:yR [x,y] us):∃ u d,us=[u,d]/\xv x u/\xv y d:=by
 cases r with
 | cons g f =>
  cases f with
  | cons r3 e=>cases e; exact ⟨_,_,rfl,g,r3⟩
def YL (e:X.calm=true):wI X (.builtin "max") (λxs H Q=>∃ i j,xs=[.int i,.int j]/\Q (.int (if j > i then j else i)) H):=by
 intro pins s σ H xs us Q I r h
 obtain ⟨i,j,rfl,q⟩:=h
 obtain ⟨u,f,rfl,⟨t,rfl⟩,⟨t',rfl⟩⟩:=CJ r
 refine max_two_ints (I.ok.hd e) λh' tk k=>⟨_,H,I.kept k,?_,q⟩
 by_cases d:j > i
 .rw [if_pos d,if_pos d]; exact ⟨_,rfl⟩
 .rw [if_neg d,if_neg d]; exact ⟨_,rfl⟩
def Uz (e:X.calm=true):wI X (.builtin "min") (λxs H Q=>∃ i j,xs=[.int i,.int j]/\Q (.int (if j < i then j else i)) H):=by
 intro pins s σ H xs us Q I r h
 obtain ⟨i,j,rfl,q⟩:=h
 obtain ⟨u,f,rfl,⟨t,rfl⟩,⟨t',rfl⟩⟩:=CJ r
 refine min_two_ints (I.ok.hd e) λh' tk k=>⟨_,H,I.kept k,?_,q⟩
 by_cases d:j < i
 .rw [if_pos d,if_pos d]; exact ⟨_,rfl⟩
 .rw [if_neg d,if_neg d]; exact ⟨_,rfl⟩
def Ux:wI X (.type "str") (λxs H Q=>∃ i,xs=[.int i]/\i.natAbs.log2 < 1920/\Q (.str (toString i)) H):=by
 intro pins s σ H xs us Q I r h
 obtain ⟨i,rfl,hz,q⟩:=h
 obtain ⟨u,rfl,t,rfl⟩:=kH r
 exact PySem.P.str_of_int hz ⟨.str _,H,I.tok _,⟨_,rfl⟩,q⟩
end
section
variable {prog:Ex} {w:ER} {A:Around} {E:Value->Shared->Prop} {s:Shared} {K:Eh} {x dx C f:Addr} {mA:Str->Option Value} {name:Str} {v:Value}
end
section
variable {P:Ex} {w:ER} {H H':Hp} {h h':Heap} {a C dx:Addr} {fs fs':List (Str×V)}
end
section
variable {X:Cx} {pins:List (Addr×Obj)} {σ:St} {H:Hp} {s:Shared} {a C dx:Addr} {fs:List (Str×V)} {f:Str} {v:V} {A:Around} {E:Value->Shared->Prop}
end
section
variable {X:Cx} {o e value:Expr} {f:Str} {pos pos' fM:Pos} {ta tv:TE}
end
section
variable {X:Cx} {pins:List (Addr×Obj)} {σ:St} {H:Hp} {s:Shared} {A:Around} {E:Value->Shared->Prop} {Q:Value->Shared->Prop} {c:Value} {b:Bool}
end
structure Room (k:Nat) (A:Around):Prop where
 hd:A.handled=none
 dp:A.depth+3 * k+5 < recursionLimit
 un:A.units+16 * k+200 < IM
def Room.mono (r:Room k A) (h:j<=k):Room j A:=⟨r.hd,by have:=r.dp; omega,by have:=r.un; omega⟩
def Room.deeper (r:Room (k+1) A) (env):Room k (A.deeper env) :=
 ⟨r.hd,by have:=r.dp; show A.depth+1+3 * k+5 < _; omega,by have:=r.un; show A.units+3+16 * k+200 < _; omega⟩
def Room.depth (r:Room k A):A.depth < recursionLimit:=by have:=r.dp; omega
def zdl:TA:=λ_ H Q=>Q [] H
def zbu (ta:TE) (a:TA):TA:=λσ H Q=>ta σ H λx H1=>a σ H1 λxs H2=>Q (x :: xs) H2
section
variable {X:Cx} {e:Expr} {es:List Expr} {te:TE} {t:TA} {pos:Pos}
def vw:PA X [] zdl:=λ_ _ _ _ H Q I h=>Calls.spliced_nil ⟨[],H,I,.nil,h⟩
def xi (i:PE X e te) (g:PA X es t) (f:Ei (e :: es) X.env=(false,eval e X.env) :: Ei es X.env:=by rfl):PA X (e :: es) (zbu te t):=by
 intro pos pins s σ H Q I h
 rw [f]
 show Ek _ _ (spliced ((false,eval e X.env) :: F_ pos (Ei es X.env))) _ _ s
 refine Ls (thn (i pins s σ H _ I h) λu s1 ⟨x,H1,k,b,d⟩=>?_)
 exact thn (g pos pins s1 σ H1 _ k d) λus s2 ⟨xs,H2,j,a,c⟩=>⟨x :: xs,H2,j,.cons b a,c⟩
def zed (t:TA):TE:=λσ H Q=>t σ H λxs H1=>xs.length<=sizeLine/\∀ p,H1 p=none->Q (.ref p) (upd H1 p (.tup xs))
def zei (t:TA):TE:=λσ H Q=>t σ H λxs H1=>xs.length<=sizeLine/\∀ p,H1 p=none->Q (.ref p) (upd H1 p (.lst xs))
def SG {c} (h:PA X es t):PE X (.Tuple es c pos) (zed t):=by
 intro pins s σ H Q I d
 refine wpAny_Tuple_spliced (thn (h pos pins s σ H _ I d) λus s1 ⟨xs,H1,a,r,z,q⟩=>⟨by rw [<- r.length]; exact z,?_⟩)
 have f:H1 s1.heap.objs.size=none:=a.hok.fresh (aT _)
 refine ⟨.ref s1.heap.objs.size,upd H1 s1.heap.objs.size (.tup xs),a.laid (t':=s1.toks) (λb u e=>ls _ e) (aT _) ?_,rfl,q _ f⟩
 exact ⟨z,us,r,⟨_,Ej _ rfl,rfl,_,rfl⟩⟩
def SJ (h:PA X es t):PE X (.List es pos) (zei t):=by
 intro pins s σ H Q I c
 refine wpAny_List_spliced (thn (h pos pins s σ H _ I c) λus s1 ⟨xs,H1,a,r,z,q⟩=>⟨by rw [<- r.length]; exact z,?_⟩)
 have d:H1 s1.heap.objs.size=none:=a.hok.fresh (aT _)
 refine ⟨.ref s1.heap.objs.size,upd H1 s1.heap.objs.size (.lst xs),a.laid (t':=s1.toks) (λb u e=>ls _ e) (aT _) ?_,rfl,q _ d⟩
 exact ⟨z,us,0,r,Ej _ rfl⟩
end
abbrev Sp:=List V->Hp->VK->XK->Prop
abbrev nI:=List Env->Hp->Shared->XK->Value->Shared->Prop
structure Env0 (P:Ex) (w:ER) (K:Eh) (mg:Str->Option Value) (base:Heap) (A:Around) (outer:List Env) (s:Shared) (H:Hp):Prop where
 frames:A.frames=some outer
 mod:Mod K mg base
 bs:∀ b o,base.get? b=some o->s.heap.get? b=some o/\H b=none
 bsz:base.objs.size<=s.heap.objs.size
 funs:s.heap.FunFrames base outer
 frf:∀ b∈dM outer,H b=none
 hok:dj P w H s.heap
 bare:AllBare s.gens
def CE (outer:List Env) (P:Ex) (w:ER) (H:Hp) (s:Shared) (Q:VK) (u:Value) (s':Shared):Prop :=
 ∃ v H',s'.os=s.os/\AllBare s'.gens/\Un (dM outer) [] H H' s.heap s'.heap/\dj P w H' s'.heap/\xv v u/\Q v H'
def CR (CX:nI) (outer:List Env) (P:Ex) (w:ER) (H:Hp) (s:Shared) (Q:VK) (E:XK) (r:Result) (s':Shared):Prop :=
 match r with
 | .ok (.ret u)=>CE outer P w H s Q u s'
 | .ok _=>False
 | .error e=>CX outer H s E e s'
structure FnOk (P:Ex) (w:ER) (K:Eh) (mg:Str->Option Value) (base:Heap) (CX:nI) (k:Nat) (f:Addr) (fd:Iy) (ps:List Str) (sp:Sp):Prop where
 len:∀ vs H Q E,sp vs H Q E->vs.length=ps.length
 run:∀ (A:Around) (outer:List Env) (s:Shared) (H:Hp) (args:Args) (us:List Value) (vs:List V) (Q:VK) (E:XK),Room k A->Env0 P w K mg base A outer s H->BindsTo s fd args (ps.zip us)->yR vs us->sp vs H Q E →
  codeAny (EA P w) A (.call (.ref f) args) (CR CX outer P w H s Q E) s
section
variable {X:Cx} {pins:List (Addr×Obj)} {σ:St} {H:Hp} {s s':Shared}
def Inv.env0 (I:Inv X pins σ H s):Env0 X.prog X.w X.K X.mg X.base X.A X.stack s H :=
 ⟨I.ok.frames,I.ok.mod,I.bs,fc I.ok.bsz I.sz,I.stack,I.stkFree,I.hok,I.bare⟩
def Inv.after (I:Inv X pins σ H s) (h:CE X.stack X.prog X.w H s Q u s'):EP X pins σ Q u s':=by
 obtain ⟨v,H',os,bare,un,hok,r,q⟩:=h
 obtain ⟨hh,g,d,t,a⟩:=s'
 obtain rfl:a=s.os:=os
 exact ⟨v,H',I.call (h':=hh) (g':=g) (d':=d) (t':=t) (ch:=[]) un hok bare (λb z=>absurd z (by simp)),r,q⟩
end
def zbv (sp:Sp) (n9:List V) (E:XK) (t:TA):TE:=λσ H Q=>t σ H λvs H1=>sp (vs++n9) H1 Q E
def Vo (K:Eh) (fd:Iy) (ps:List Str) (ds:List Value):Prop :=
 ∀ (s:Shared) (us:List Value),K.In s.heap->(us++ds).length=ps.length->BindsTo s fd ⟨us,[]⟩ (ps.zip (us++ds))
def Vo.all {K:Eh} (h:∀ us:List Value,us.length=ps.length->bindArgs fd ⟨us,[]⟩=pure (ps.zip us)):Vo K fd ps []:=λs us _ a=>by
 rw [bX] at a ⊢
 exact .of_eq (h us a)
def Kt (CX:nI) (X:Cx) (E:XK):Prop:=∀ (pins:List (Addr×Obj)) (σ:St) (H:Hp) (s:Shared) (e:Value) (s':Shared),Inv X pins σ H s->CX X.stack H s E e s'->X.xe e s'
section
variable {X:Cx} {CX:nI} {k:Nat} {f C:Addr} {fd:Iy} {ps:List Str} {sp:Sp} {n9:List V} {ds:List Value} {E:XK} {x m:Str} {p pos apos:Pos} {e o:Expr} {es:List Expr} {ta:TE} {t:TA}
def Sq (F:FnOk X.prog X.w X.K X.mg X.base CX k f fd ps sp) (d:Room k X.A) (i:Vo X.K fd ps ds) (hd:yR n9 ds) (c:Kt CX X E)
  (I:Inv X pins σ H s) (r:yR vs us) (h:sp (vs++n9) H Q E):Ek (EA X.prog X.w) X.A (call (.ref f) us) (EP X pins σ Q) X.xe s:=by
 have b:yR (vs++n9) (us++ds):=r.append hd
 have g:(us++ds).length=ps.length:=by rw [<- b.length]; exact F.len _ _ _ _ h
 refine wpAny_call (codeAny_mono (F.run X.A X.stack s H ⟨us,[]⟩ (us++ds) (vs++n9) Q E d I.env0 (i s us I.kIn g) b h) λr s' a=>?_)
 cases r with
 | error e=>exact c pins σ H s e s' I a
 | ok j =>
  cases j with
  | ret u=>exact I.after a
  | next=>exact Ik a
  | brk=>exact Ik a
  | cont=>exact Ik a
def NN (F:FnOk X.prog X.w X.K X.mg X.base CX k f fd ps sp) (d:Room k X.A) (hg:Gl X x) (g:X.mg x=some (.ref f)) (i:W.keepIn X.K (.ref f)=true) (l:Vo X.K fd ps ds) (hd:yR n9 ds) (c:Kt CX X E)
  (n:PA X (e :: es) t) (a:(x==("__debug__":Str))=false:=by decide) (j:Ei (e :: es) X.env=(false,eval e X.env) :: Ei es X.env:=by rfl) (u:(F_ pos (Ei es X.env)).any (·.1)=false:=by rfl) :
  PE X (.Call (.Name x p) (e :: es) [] pos) (zbv sp n9 E t):=by
 intro pins s σ H Q I h
 refine Iz (Yr I hg g ?_ a)
 refine PySem.W.callWith_K (h₀:=X.base) I.ok.mod.kin i (thn (n pos pins s σ H _ I h) λus s1 ⟨vs,H1,b,r,q⟩=>⟨b.kIn,?_⟩) j u
 exact Sq F d l hd c b r q
end
section
variable {X:Cx} {CX:nI} {k:Nat} {f C:Addr} {fd:Iy} {ps ks:List Str} {sp:Sp} {E:XK} {x m:Str} {p pos apos kpos:Pos} {e o:Expr} {es:List Expr} {kws:List LJ} {te ta:TE} {t tk:TA} {nm:Option Str}
variable {g:List Value->List Value->List Value} {gV:List V->List V->List V}
end
structure FnScope (N P:List Str) (sc:Scope):Prop where
 kind:sc.kind=.function
 co:sc.isCoroutine=false
 gen:sc.isGenerator=false
 nd:N.Nodup
 pre:N.take P.length=P
 par:∀ x∈P,sc.names.lookup x=some .local\/sc.names.lookup x=some .cell
 nofree:∀ y∈sc.names,y.2≠.free
theorem UH {kindOf:Str->Option NameKind}:∀ {binds:List (Str×Value)} {m:Str->Option Value},(∀ v,(x,v)∉binds)->bindL kindOf binds m x=m x
 | [],_,_=>rfl
 | (n,v) :: r,m,h=>by
  unfold bindL
  rw [UH λw a=>h w (aZ _ a)]
  split
  .have:x≠n:=by rintro rfl; exact h v aV
   simp [this]
  .rfl
theorem UJ {kindOf:Str->Option NameKind}:∀ {binds:List (Str×Value)} {m:Str->Option Value},(∀ v,(x,v)∉binds)->bindC kindOf binds m x=m x
 | [],_,_=>rfl
 | (n,v) :: r,m,h=>by
  unfold bindC
  rw [UJ λw a=>h w (aZ _ a)]
  split
  .rfl
  .have:x≠n:=by rintro rfl; exact h v aV
   simp [this]
theorem UI {kindOf:Str->Option NameKind}:∀ {P:List Str} {vs:List Value} {i:Nat} {m:Str->Option Value},P.Nodup->P[i]? = some x->vs[i]? = some v->kindOf x=some .local →
  bindL kindOf (P.zip vs) m x=some v
 | [],_,_,_,_,h,_,_=>by simp at h
 | _ :: _,[],_,_,_,_,h,_=>by simp at h
 | p :: P,w :: vs,0,m,nd,h1,h2,a=>by
  simp at h1 h2; subst h1; subst h2
  show bindL kindOf ((p,w) :: P.zip vs) m p=_
  unfold bindL
  rw [UH λv b=>(nY.mp nd).1 (List.of_mem_zip b).1,if_pos a]
  simp
 | p :: P,w :: vs,i+1,m,nd,h1,h2,a=>by
  show bindL kindOf ((p,w) :: P.zip vs) m x=_
  unfold bindL
  exact UI (i:=i) (nY.mp nd).2 (by simpa using h1) (by simpa using h2) a
theorem UK {kindOf:Str->Option NameKind}:∀ {P:List Str} {vs:List Value} {i:Nat} {m:Str->Option Value},P.Nodup->P[i]? = some x->vs[i]? = some v->kindOf x≠some .local →
  bindC kindOf (P.zip vs) m x=some v
 | [],_,_,_,_,h,_,_=>by simp at h
 | _ :: _,[],_,_,_,_,h,_=>by simp at h
 | p :: P,w :: vs,0,m,nd,h1,h2,a=>by
  simp at h1 h2; subst h1; subst h2
  show bindC kindOf ((p,w) :: P.zip vs) m p=_
  unfold bindC
  rw [UJ λv b=>(nY.mp nd).1 (List.of_mem_zip b).1,if_neg a]
  simp
 | p :: P,w :: vs,i+1,m,nd,h1,h2,a=>by
  show bindC kindOf ((p,w) :: P.zip vs) m x=_
  unfold bindC
  exact UK (i:=i) (nY.mp nd).2 (by simpa using h1) (by simpa using h2) a
def start (N:List Str) (vs:List V):St:=vs.map some++aP (N.length - vs.length) none
def Zb (CX:nI) (P:Ex) (w:ER) (K:Eh) (mg:Str->Option Value) (base:Heap) (N:List Str) (qual:Str) (scope:Scope) (f:Addr) (a:Value) (A:Around) (outer:List Env) (s:Shared) (H:Hp) (E:XK):Cx where
 prog:=P
 w:=w
 K:=K
 mg:=mg
 base:=base
 A:=A.deeper (envOfC qual scope s.heap.objs.size f a)
 N:=N
 s₀:=s
 H₀:=H
 env:=envOfC qual scope s.heap.objs.size f a
 outer:=outer
 stack:=envOfC qual scope s.heap.objs.size f a :: outer
 ex:=[]
 calm:=true
 fn:=λ_=>true
 pn:=[]
 xe:=λe s'=>Ek (EA P w) (A.deeper (envOfC qual scope s.heap.objs.size f a)) (leaving (envOfC qual scope s.heap.objs.size f a) e) (λ_ b=>CX outer H s E e b) (λc b=>CX outer H s E c b) s'
def Kj {sc:Scope} (h:sc.names.lookup x=some .cell):∃ c,(cellsFrom n sc.names []).lookup x=some c:=by
 have q:=PySem.W.cellsFrom_some sc.names n [] (.inl h)
 exact Option.isSome_iff_exists.mp q
def Bf    {K:Eh}
  (S:FnScope N ps scope) (hd:A.handled=none) (d:Env0 P w K mg base A outer s H) (F:vs.length=ps.length) (r:yR vs us)
  (x:InCallC s s.heap.objs.size (bindL (envOfC qual scope s.heap.objs.size f cd).kindOf (ps.zip us) λ_=>none) (cellsFrom (s.heap.objs.size+1) scope.names []) (bindC (envOfC qual scope s.heap.objs.size f cd).kindOf (ps.zip us) λ_=>none) s1) :
  Inv (Zb CX P w K mg base N qual scope f cd A outer s H E) [] (start N vs) H s1:=by
 have I:ps.length<=N.length:=by have:=congrArg ny S.pre; rw [AZ] at this; omega
 obtain ⟨h1,tk,rfl,t⟩:=x.done
 have m:∀ b:Addr,b∉(Zb CX P w K mg base N qual scope f cd A outer s H E).ex:=λb z=>absurd (show b∈([]:List Addr) from z) (by simp)
 refine ⟨⟨d.mod,S.kind,rfl,rfl,aT _,λy z c h1 h2=>?_,λy g=>?_,λy c _ h=>?_,λ_=>hd,Around.frames_deeper d.frames,.inr ⟨rfl,rfl⟩,λb z=>absurd z (m b),d.bs,d.bsz,λb _ _=>m b,λb z=>absurd z (m b),d.funs,d.frf⟩,
  rfl,d.bare,Un.kept t,⟨_,x.toInCall.ns,λi y v h1 h2 G=>?_⟩,λy c h=>⟨_,x.cell y c h⟩,d.hok.fresh (aT _),λy c h=>?_,λp l=>absurd (show p∈([]:List (Addr×Obj)) from l) (by simp),d.hok.kept t,?_⟩
 .exact name_of_addr x.apart (IP h1) (IP h2)
 .have g:scope.names.lookup y=some .cell\/scope.names.lookup y=some .free:=g
  rcases g with g | g
  .exact Kj g
  .exact absurd rfl (S.nofree _ (IP g))
 .exact nA (x.above y c (IP h))
 .have hi:i < vs.length:=by
   unfold start at h2
   by_cases hi:i < vs.length
   .exact hi
   .rw [iC (by simpa using hi)] at h2
    rw [pj] at h2
    split at h2 <;> cases h2
  have C:vs[i]? = some v:=by
   unfold start at h2
   rw [lZ (by simpa using hi),cK] at h2
   cases e:vs[i]? with
   | none=>rw [e] at h2; cases h2
   | some a=>rw [e] at h2; cases h2; rfl
  obtain ⟨u,o,B⟩:=r.get C
  have l:ps[i]? = some y:=by
   rw [<- S.pre,List.getElem?_take_of_lt (by omega)]; exact h1
  have j:ps.Nodup:=by rw [<- S.pre]; exact S.nd.sublist (List.take_sublist _ _)
  refine ⟨u,B,?_⟩
  rcases S.par y (sk l) with k | k
  .exact .inl ⟨k,UI j l o k⟩
  .obtain ⟨c,e⟩:=Kj (n:=s.heap.objs.size+1) k
   refine .inr ⟨.inl k,c,e,?_⟩
   have q:=x.cell y c e
   rw [UK j l o (by show scope.names.lookup y≠_; rw [k]; decide)] at q
   exact q
 .exact d.hok.fresh (nA (x.above y c (IP h)))
 .unfold start
  show _=N.length
  rw [aW,aD,g3u]
  omega
def T5    {K:Eh} {m kV doc pm aq ct oc:Value}
       (lk:K.lookup f=some ⟨oc,od,.func (W.fnOf name qual params body scope m kV doc pm an aq ct),gy⟩) (l:W.codeIn K aq qual=true) (S:FnScope N ps scope)
    (len:∀ vs H Q E,sp vs H Q E->vs.length=ps.length)
    (a:∀ (A:Around) (outer:List Env) (s:Shared) (H:Hp) (vs:List V) (Q:VK) (E:XK),Room k (A.deeper (envOfC qual scope s.heap.objs.size f aq))->sp vs H Q E →
      ∃ t,f6 (Zb CX P w K mg base N qual scope f aq A outer s H E) body t/\t { nx:=λ_ H'=>Q .non H',rt:=Q } (start N vs) H) :
    FnOk P w K mg base CX (k+1) f (W.fnOf name qual params body scope m kV doc pm an aq ct) ps sp:=by
  refine ⟨len,λA outer s H args us vs Q E j g G r d=>?_⟩
  have C:=len _ _ _ _ d
  have p:K.In s.heap:=g.mod.kin.keeps λb o e=>(g.bs b o e).1
  have i:s.heap.NoLimit:=g.mod.nolimit.keeps λb o e=>(g.bs b o e).1
  have M:∀ y∈ps.zip us,scope.names.lookup y.1=some .local\/(scope.names.lookup y.1=some .cell/\((cellsFrom (s.heap.objs.size+1) scope.names []).lookup y.1).isSome=true):=λ⟨n,v⟩ z=>by
    rcases S.par n (List.of_mem_zip z).1 with q | q
    · exact .inl q
    · exact .inr ⟨q,PySem.W.cellsFrom_some _ _ _ (.inl q)⟩
  refine codeAny_call_function j.depth (p _ _ lk) rfl S.co S.gen rfl (PySem.W.codeRec_of p l) (G _ _ _ _ ?_)
  refine wpAny_newFunctionEnv_cells S.kind M λenv F s1 x=>?_
  subst F
  refine ⟨i.keeps x.toInCall.keep,codeAny_func ?_⟩
  obtain ⟨t,ht,B⟩:=a A outer s H vs Q E (j.deeper _) d
  have I:Inv (Zb CX P w K mg base N qual scope f aq A outer s H E) [] (start N vs) H s1:=Bf S j.hd g C r x
  refine EB (ht [] s1 (start N vs) H _ I B) (λL s' c=>?_) λe s' c=>c
  have fin:∀ {aL:St} {H':Hp} {v:V} {u:Value},Inv (Zb CX P w K mg base N qual scope f aq A outer s H E) [] aL H' s'->xv v u->Q v H'->CE outer P w H s Q u s' :=
    λ{aL H' v u} J h q=>⟨v,H',J.os,J.bare,J.base,J.hok,h,q⟩
  cases L with
  | ret u =>
    obtain ⟨v,aL,H',J,h,q⟩:=c
    exact fin J h q
  | next =>
    obtain ⟨aL,H',J,q⟩:=c
    exact fin (v:=V.non) (u:=E_) J rfl q
  | brk =>
    obtain ⟨_,_,_,q⟩:=c
    exact Ik q
  | cont =>
    obtain ⟨_,_,_,q⟩:=c
    exact Ik q
section
variable {X:Cx} {x:Str} {p pos:Pos} {e:Expr} {es:List Expr} {t:TA} {id T:String} {r:List V->Hp->VK->Prop}
def tCB (r:List V->Hp->VK->Prop) (t:TA):TE:=λσ H Q=>t σ H λvs H1=>r vs H1 Q
def ka (j:wI X (.builtin id) r) (hg:Gl X x) (g:X.mg x=none) (d:E4 x=some (.builtin id)) (k:PA X (e :: es) t) (f:x≠"__name__":=by decide) (a:(x==("__debug__":Str))=false:=by decide)
  (i:Ei (e :: es) X.env=(false,eval e X.env) :: Ei es X.env:=by rfl) (l:(F_ pos (Ei es X.env)).any (·.1)=false:=by rfl):PE X (.Call (.Name x p) (e :: es) [] pos) (tCB r t):=by
 intro pins s σ H Q I h
 refine Iz (jl I hg g d ?_ f a)
 exact PyProof.Rows.callWith_builtin1 (thn (k pos pins s σ H _ I h) λus s1 ⟨vs,H1,m,b,c⟩=>j pins s1 σ H1 vs us Q m b c) i l
def vd (j:wI X (.type T) r) (hg:Gl X x) (g:X.mg x=none) (d:E4 x=some (.type T)) (k:PA X (e :: es) t) (f:x≠"__name__":=by decide) (a:(x==("__debug__":Str))=false:=by decide)
  (i:Ei (e :: es) X.env=(false,eval e X.env) :: Ei es X.env:=by rfl) (l:(F_ pos (Ei es X.env)).any (·.1)=false:=by rfl):PE X (.Call (.Name x p) (e :: es) [] pos) (tCB r t):=by
 intro pins s σ H Q I h
 refine Iz (jl I hg g d ?_ f a)
 exact EM (thn (k pos pins s σ H _ I h) λus s1 ⟨vs,H1,m,b,c⟩=>j pins s1 σ H1 vs us Q m b c) i l
end
end L2
namespace HT
open PySem PyProof.Rows
section
open PySem.SeqAt
open PySem.AutoSeq1 (wpAny_loadPart')
open PySem.MeetsSeq PySem.MeetsSeq2 PySem.MeetsSeq3
end
section
variable {prog:Ex} {w:ER} {A:Around} {E:Value->Shared->Prop} {s:Shared}
def cat_tup (ht:IsTup s.heap t vs.toArray) (l:IsTup s.heap b ws.toArray) (i:vs≠[])
  (h1:ws=[]->Q (.ref t) s) (h2:ws≠[]->Q (.ref s.heap.objs.size) { s with heap:=s.heap.push { cls:=.type "tuple",data:=.seq (vs++ws).toArray } })
  (hsz:vs.length+ws.length<=sizeLine):Ek (EA prog w) A (Iw .Add (.ref t) (.ref b)) Q E s:=by
 obtain ⟨⟨cls,dd,data,sl⟩,d,j,n,hd⟩:=id ht
 obtain ⟨⟨m,h,data2,k⟩,c,f,g,a⟩:=id l
 simp only at j hd f a
 subst j hd f a
 have e:vs.toArray++ws.toArray=(vs++ws).toArray:=by simp
 by_cases hw:ws=[]
 .exact concat_meets ⟨_,d,rfl⟩ ⟨_,c,rfl⟩ noFill_tuple_add seq_tuple_add LR LK (LB _ _)
   (tuple_addW1 t b vs.toArray ws.toArray n g dd h sl k (by simpa using i) (by simp [hw])) ⟨d,c,h1 hw⟩
 .refine concat_meets ⟨_,d,rfl⟩ ⟨_,c,rfl⟩ noFill_tuple_add seq_tuple_add LR LK (LB _ _)
   (tuple_addW2 t b vs.toArray ws.toArray n g dd h sl k (by simpa using i) (by simpa using hw) (by rw [cx,cx]; exact hsz)) ⟨d,c,?_⟩
  rw [e]
  exact h2 hw
def sIx (n d:Nat):Option Int->Nat
 | none=>d
 | some v=>if v < 0 then (v+(n:Int)).toNat else min v.toNat n
def sIx_none (n d):sIx n d none=d:=rfl
def sIx_nat (n d k:Nat):sIx n d (some (k:Int))=min k n:=by
 show (if (k:Int) < 0 then ((k:Int)+(n:Int)).toNat else min (k:Int).toNat n)=min k n
 rw [if_neg (by omega),Il]
def So (n d) (hd:d<=n) (o:Option Int):sIx n d o<=n:=by
 cases o with
 | none=>exact hd
 | some v =>
  show (if v < 0 then (v+(n:Int)).toNat else min v.toNat n)<=n
  by_cases a:v < 0
  .rw [if_pos a]; omega
  .rw [if_neg a]; exact Nat.min_le_right _ _
def B9 (v) (n d:Nat):(if v < 0 then max (v+(n:Int)) 0 else min v (n:Int))=((sIx n d (some v):Nat):Int):=by
 show (if v < 0 then max (v+(n:Int)) 0 else min v (n:Int))=(((if v < 0 then (v+(n:Int)).toNat else min v.toNat n):Nat):Int)
 by_cases a:v < 0
 .simp only [if_pos a]; omega
 .simp only [if_neg a]; omega
def Gj (lo hi) (n:Nat):Lx lo hi 1 (n:Int)=(((sIx n 0 lo:Nat):Int),((sIx n n hi:Nat):Int)):=by
 have h1:¬ ((1:Int) < 0):=by omega
 unfold Lx
 simp only [h1,if_false]
 refine Lu ?_ ?_
 .cases lo with
  | none=>rfl
  | some v=>exact B9 v n 0
 .cases hi with
  | none=>rfl
  | some v=>exact B9 v n n
def KQ (i j:Nat):IJ (i:Int) (j:Int) 1=j - i:=by
 unfold IJ
 have h1:(1:Int) > 0:=by omega
 simp only [h1,if_true,Int.ediv_one]
 split <;> omega
def Xn (p:IsPart v o) (h:Q o s):Ek (EA prog w) A (Builtin.Slice.slicePartIndex v) Q E s:=by
 cases p with
 | none=>exact slicePart_none h
 | int i t=>exact slicePart_int h
def sliceApplied_gen   {lo hi:Option Int} {Q:Int×Int×Nat->Shared->Prop} (g:s.heap.IsSliceOf sl d c .none) (f:IsPart d lo) (e:IsPart c hi)
  (h:Q (((sIx n 0 lo:Nat):Int),1,sIx n n hi - sIx n 0 lo) s):Ek (EA prog w) A (Builtin.Slice.sliceApplied (.ref sl) (pure (n:Int))) Q E s:=by
 obtain ⟨os,a,i,b⟩:=id g
 unfold Builtin.Slice.sliceApplied Builtin.Slice.sliceFields
 refine be (be (EC a b (x:=d) rfl (be (EC a b (x:=c) rfl (be (EC a b (x:=.none) rfl (mo ?_)))))))
 refine be (slicePart_none ?_)
 show Ek _ _ (if ((1:Int)==0)=true then _ else _) _ _ s
 rw [if_neg (by decide)]
 refine be (Xn f (be (Xn e (be (mo ?_)))))
 show Ek _ _ (match Lx lo hi 1 (n:Int) with | (lo,hi)=>pure (lo,(1:Int),IJ lo hi 1)) _ _ s
 rw [Gj lo hi n]
 show Ek _ _ (pure (((sIx n 0 lo:Nat):Int),(1:Int),IJ ((sIx n 0 lo:Nat):Int) ((sIx n n hi:Nat):Int) 1)) _ _ s
 rw [KQ]
 exact mo h
def Dq (xs:Array Value) (i k:Nat):((aK k).filterMap λ(m:Nat)=>xs[((i:Int)+(m:Int) * 1).toNat]?).toArray=((xs.toList.drop i).take k).toArray:=by
 have e:(λ(m:Nat)=>xs[((i:Int)+(m:Int) * 1).toNat]?)=λm=>xs[i+m]? := by
  funext m
  have:((i:Int)+(m:Int) * 1).toNat=i+m:=by omega
  rw [this]
 rw [e]
 have:=pick_run xs i k
 rw [List.filterMap_map] at this
 have e2:((λx=>xs[x]?) ∘ λx=>i+x)=λm=>xs[i+m]? := rfl
 rw [e2] at this
 rw [this]
def getItem_tuple_cut    {lo hi:Option Int} (ht:IsTup s.heap t items) (e:s.heap.IsSliceOf sl g f .none) (j:IsPart g lo) (i:IsPart f hi)
  (l:¬ (sIx items.size 0 lo=0/\sIx items.size items.size hi=items.size))
  (h:Q (.ref s.heap.objs.size) { s with heap:=s.heap.push { cls:=.type "tuple",data:=.seq ((items.toList.drop (sIx items.size 0 lo)).take (sIx items.size items.size hi - sIx items.size 0 lo)).toArray } })
  (hsz:items.size<=sizeLine):Ek (EA prog w) A (getItem (.ref t) (.ref sl)) Q E s:=by
 have a:sizeOk (.seq ((items.toList.drop (sIx items.size 0 lo)).take (sIx items.size items.size hi - sIx items.size 0 lo)).toArray):=by
  show ((items.toList.drop (sIx items.size 0 lo)).take (sIx items.size items.size hi - sIx items.size 0 lo)).toArray.size<=sizeLine
  rw [cx,AZ,List.length_drop,H_]
  omega
 have p:sIx items.size items.size hi<=items.size:=So _ _ (aT _) hi
 obtain ⟨os,k,c,r⟩:=id e
 have d:s.TypeIs (.ref sl) "slice":=⟨os,k,c⟩
 unfold getItem
 try with_reducible refine E8 ?_
 first | refine be (mo ?_) | skip
 refine be (wpAny_sequenceKey ht.typeIs (by decide) ?_)
 refine be (Ey (name:=Ez "__getitem__") ht.typeIs EI
  (Eu EI ht.typeIs entry_tuple_getitem ?_ (args_tuple_getitem _ _)))
 show Ek _ _ (Lq (.ref t) >>= _) _ _ s
 refine be (tupleItemsOf_ ht ?_)
 refine be (wpAny_typeOf d ?_)
 rw [if_pos (by decide)]
 refine be (sliceApplied_gen e j i ?_)
 have b:¬ ((((sIx items.size 0 lo:Nat):Int)==0&&(1:Int)==1&&(sIx items.size items.size hi - sIx items.size 0 lo)==items.size)=true):=by
  intro q
  rw [dR,dR] at q
  have o:((sIx items.size 0 lo:Nat):Int)=0:=eq_of_beq q.1.1
  have n:sIx items.size items.size hi - sIx items.size 0 lo=items.size:=eq_of_beq q.2
  exact l ⟨by omega,by omega⟩
 show Ek _ _ (if (((sIx items.size 0 lo:Nat):Int)==0&&(1:Int)==1&&(sIx items.size items.size hi - sIx items.size 0 lo)==items.size)=true then _ else _) _ _ s
 rw [if_neg b,Dq]
 first
  | exact be (m:=E5 _) (ES (mo ⟨_,rfl,mo h⟩) a)
  | exact be (m:=E5 _) (ES (be (mo (mo ⟨_,rfl,mo h⟩))) a)
  | exact be (be (m:=E5 _) (ES (mo (mo ⟨_,rfl,mo h⟩)) a))
  | exact be (be (m:=E5 _) (ES (mo ⟨_,rfl,mo h⟩) a))
end
end HT
namespace L2
open PySem PySem.Spec PyProof.Rows
abbrev TO:=St->Hp->(Option Int->Hp->Prop)->Prop
def PO (X:Cx) (e:Option Expr) (t:TO):Prop :=
 ∀ (pins:List (Addr×Obj)) (s:Shared) (σ:St) (H:Hp) (Q:Option Int->Hp->Prop),Inv X pins σ H s->t σ H Q →
  Ek (EA X.prog X.w) X.A (evalPart e X.env) (λu s'=>∃ o H',Inv X pins σ H' s'/\IsPart u o/\Q o H') X.xe s
def M4:TO:=λ_ H Q=>Q none H
def zbp (t:TE):TO:=λσ H Q=>t σ H λx H1=>∃ i,x=.int i/\Q (some i) H1
section
variable {X:Cx} {e:Expr} {te:TE} {lo hi:Option Expr} {tl th:TO} {pos p2:Pos}
def NI:PO X none M4:=by
 intro pins s σ H Q I h
 rw [evalPart_none]
 exact mo ⟨none,H,I,.none,h⟩
def NH (h:PE X e te):PO X (some e) (zbp te):=by
 intro pins s σ H Q I c
 rw [evalPart_some]
 refine thn (h pins s σ H _ I c) λu s1 ⟨x,H1,d,a,b⟩=>?_
 obtain ⟨i,rfl,q⟩:=b
 obtain ⟨t,rfl⟩:=a
 exact ⟨some i,H1,d,.int i t,q⟩
def oi (X:Cx) (r:V->Option Int->Option Int->Hp->VK->Prop):Prop :=
 ∀ (pins:List (Addr×Obj)) (s:Shared) (σ:St) (H:Hp) (x:V) (v b a:Value) (lo hi:Option Int) (sl:Addr) (Q:VK),Inv X pins σ H s->xv x v->s.heap.IsSliceOf sl b a .none->IsPart b lo->IsPart a hi->r x lo hi H Q →
  ∃ T id,typeLookup (.type T) "__getitem__"=pure (some (.builtin id))/\s.TypeIs v T/\Ek (EA X.prog X.w) X.A (getItem v (.ref sl)) (EP X pins σ Q) X.xe s
def oi.or (h:oi X r) (h':oi X i):oi X (λx lo hi H Q=>r x lo hi H Q\/i x lo hi H Q):=by
 intro pins s σ H x v b a lo hi sl Q I c g f d q
 rcases q with q | q
 .exact h pins s σ H x v b a lo hi sl Q I c g f d q
 .exact h' pins s σ H x v b a lo hi sl Q I c g f d q
def tSl (r:V->Option Int->Option Int->Hp->VK->Prop) (te:TE) (tl th:TO):TE:=λσ H Q=>te σ H λx H1=>tl σ H1 λl H2=>th σ H2 λu a=>r x l u a Q
def Ds (o:oi X r) (t:PE X e te) (p:PO X lo tl) (n:PO X hi th):PE X (.Subscript e (.Slice lo hi none p2) pos) (tSl r te tl th):=by
 intro pins s σ H Q I h
 refine Subscript_ (thn (t pins s σ H _ I h) λv s1 ⟨x,H1,B,f,j⟩=>?_)
 refine wpAny_Slice (thn (p pins s1 σ H1 _ B j) λc s2 ⟨l,H2,A,m,i⟩=>thn (n pins s2 σ H2 _ A i) λa s3 ⟨u,d,z,k,g⟩=>?_)
 rw [evalPart_none]
 refine mo ?_
 have y:Inv X pins σ d { s3 with heap:=s3.heap.push { cls:=.type "slice",data:=.fields #[c,a,.none] } }:=z.kept (t':=s3.toks) λb C q=>ls _ q
 obtain ⟨T,id,w,ht,hg⟩:=o pins { s3 with heap:=s3.heap.push { cls:=.type "slice",data:=.fields #[c,a,.none] } } σ d x v c a l u s3.heap.objs.size Q y f (Heap.IsSliceOf.new ..) m k g
 show Ek (EA X.prog X.w) X.A (subscriptTail e (.Slice lo hi none p2) v (.ref s3.heap.objs.size)) (EP X pins σ Q) X.xe { s3 with heap:=s3.heap.push { cls:=.type "slice",data:=.fields #[c,a,.none] } }
 exact tail_any (ops:=[.ref s3.heap.objs.size,v]) ht w hg (by with_unfolding_all rfl)
def B4 (xs:List V) (lo hi:Option Int):List V:=(xs.drop (HT.sIx xs.length 0 lo)).take (HT.sIx xs.length xs.length hi - HT.sIx xs.length 0 lo)
def YJ (xs) (lo hi:Option Int):(B4 xs lo hi).length<=xs.length:=by
 unfold B4
 rw [AZ,List.length_drop]
 omega
def zeq (K:Eh):V->Option Int->Option Int->Hp->VK->Prop:=λx lo hi H Q=>∃ a xs,x=.ref a/\bT K H a xs ∧
 ¬ (HT.sIx xs.length 0 lo=0/\HT.sIx xs.length xs.length hi=xs.length)/\∀ p,H p=none->Q (.ref p) (upd H p (.tup (B4 xs lo hi)))
def Sb:oi X (zeq X.K):=by
 intro pins s σ H x v m l lo hi sl Q I d k g f h
 obtain ⟨a,xs,rfl,i,j,q⟩:=h
 cases d
 obtain ⟨ah,r,ht,hz⟩:=I.tuple i
 have c:ah.toArray.size=xs.length:=by rw [cx]; exact r.length.symm
 refine ⟨"tuple",_,EI.lookup,ht.typeIs,?_⟩
 refine HT.getItem_tuple_cut ht k g f (by rw [c]; exact j) ?_ (by rw [c]; exact hz)
 rw [c]
 refine ⟨.ref s.heap.objs.size,_,I.laid (t':=s.toks) (o:=.tup (B4 xs lo hi)) (λb n q=>ls _ q) (aT _) ?_,rfl,q _ (I.hok.fresh (aT _))⟩
 exact ⟨fc (YJ xs lo hi) hz,_,(r.drop (HT.sIx xs.length 0 lo)).take (HT.sIx xs.length xs.length hi - HT.sIx xs.length 0 lo),IsTup.new _ _⟩
def zce (K:Eh):R2:=λx y H Q=>∃ a b xs ys,x=.ref a/\y=.ref b/\bT K H a xs/\bT K H b ys/\xs≠[]/\xs.length+ys.length<=sizeLine ∧
 (ys=[]->Q (.ref a) H)/\(ys≠[]->∀ p,H p=none->Q (.ref p) (upd H p (.tup (xs++ys))))
def yR.nil_iff (r:yR xs us):us=[]↔xs=[]:=by
 cases r with
 | nil=>simp
 | cons _ _=>simp
def NY:cA X (Iw .Add) (zce X.K):=by
 intro pins s σ H x y v u Q I g f h
 obtain ⟨a,b,xs,ys,rfl,rfl,n,m,l,hz,j,i⟩:=h
 cases g
 cases f
 obtain ⟨ah,d,k,_⟩:=I.tuple n
 obtain ⟨r,c,p2,_⟩:=I.tuple m
 refine HT.cat_tup k p2 (λz=>l (d.nil_iff.mp z)) (λz=>⟨.ref a,H,I,rfl,j (c.nil_iff.mp z)⟩) (λz=>?_) (by rw [<- d.length,<- c.length]; exact hz)
 refine ⟨.ref s.heap.objs.size,_,I.laid (t':=s.toks) (o:=.tup (xs++ys)) (λb p q=>ls _ q) (aT _) ?_,rfl,i (λw=>z (c.nil_iff.mpr w)) _ (I.hok.fresh (aT _))⟩
 exact ⟨by rw [aW]; exact hz,_,d.append c,IsTup.new _ _⟩
end
def fO (n:Nat) (i:Int):Option Nat:=if 0<=i then (if i < n then some i.toNat else none) else if -(n:Int)<=i then some (i+n).toNat else none
def atI {α:Type} (xs:List α) (i:Int):Option α:=(fO xs.length i).bind λj=>xs[j]?
def Bc (h:fO n i=some j):seqIndex? i n=some j/\j < n /\ -(n:Int)<=i/\i < n:=by
 unfold fO at h
 by_cases h0:0<=i
 .rw [if_pos h0] at h
  by_cases h1:i < n
  .rw [if_pos h1] at h
   have e:i.toNat=j:=ml.inj h
   exact ⟨by rw [seqIndex_of h0 h1,e],by omega,by omega,h1⟩
  .rw [if_neg h1] at h; cases h
 .rw [if_neg h0] at h
  by_cases h1 : -(n:Int)<=i
  .rw [if_pos h1] at h
   have e:(i+n).toNat=j:=ml.inj h
   exact ⟨by rw [seqIndex_neg (by omega) h1,e],by omega,h1,by omega⟩
  .rw [if_neg h1] at h; cases h
def QV    {v:α} (h:atI xs i=some v):∃ j,seqIndex? i xs.length=some j/\xs[j]? = some v/\j < xs.length /\ -(xs.length:Int)<=i/\i < xs.length:=by
 unfold atI at h
 cases e:fO xs.length i with
 | none=>rw [e] at h; cases h
 | some j =>
  rw [e] at h
  obtain ⟨h1,h2,b,a⟩:=Bc e
  exact ⟨j,h1,h,h2,b,a⟩
def uU   {j:Nat} {v:α} (h:xs[j]? = some v):atI xs (j:Int)=some v:=by
 have a:j < xs.length:=(iS.mp h).1
 have e:fO xs.length (j:Int)=some j:=by
  unfold fO
  rw [if_pos (by omega),if_pos (by omega)]; simp
 unfold atI; rw [e]; exact h
def QW (b:Expr):Prop:=∀ o i,subscripted b false o i=operate [o,i] (getItem o i)
def mw (X:Cx) (r:R2):Prop :=
 ∀ (value a:Expr) (pins:List (Addr×Obj)) (s:Shared) (σ:St) (H:Hp) (x y:V) (v u:Value) (Q:VK),Inv X pins σ H s->xv x v->xv y u->r x y H Q →
  subscripted a false v u=operate [v,u] (getItem v u)->Ek (EA X.prog X.w) X.A (subscriptTail value a v u) (EP X pins σ Q) X.xe s
def MtR (X:Cx) (id:String) (r:V->List V->Hp->VK->Prop):Prop :=
 ∀ (pins:List (Addr×Obj)) (s:Shared) (σ:St) (H:Hp) (x:V) (xs:List V) (v:Value) (us:List Value) (Q:VK),Inv X pins σ H s->xv x v->yR xs us->r x xs H Q →
  Ek (EA X.prog X.w) X.A (call (.builtin id) (v :: us)) (EP X pins σ Q) X.xe s
section
variable {X:Cx} {a b:Expr} {ta tb:TE} {pos:Pos}
def mw.or (h:mw X r) (h':mw X g):mw X (λx y H Q=>r x y H Q\/g x y H Q):=by
 intro value c pins s σ H x y v u Q I e d q f
 rcases q with q | q
 .exact h value c pins s σ H x y v u Q I e d q f
 .exact h' value c pins s σ H x y v u Q I e d q f
def zcj (f:mw X r) (i:PE X a ta) (g:PE X b tb) (e:QW b):PE X (.Subscript a b pos) (sO r ta tb):=by
 intro pins s σ H Q I h
 exact Subscript_ (zdc i g I h λv u s2 x y H2 j d c q=>f a b pins s2 σ H2 x y v u Q j d c q (e _ _))
def zdx (K:Eh):R2:=λx y H Q=>∃ p xs i v,x=.ref p/\y=.int i/\bG K H p xs/\atI xs i=some v/\Q v H
def zdv (K:Eh):R2:=λx y H Q=>∃ p xs i v,x=.ref p/\y=.int i/\bT K H p xs/\atI xs i=some v/\Q v H
def zdw:R2:=λx y H Q=>∃ z i c,x=.str z/\y=.int i/\z.length<=sizeLine/\atI z.cps.toList i=some c/\Q (.str ⟨#[c]⟩) H
def PD:mw X (zdx X.K):=by
 intro value c pins s σ H x y v u Q I m l h g
 obtain ⟨p,xs,i,z,rfl,rfl,n,A,q⟩:=h
 cases m
 obtain ⟨t,rfl⟩:=l
 obtain ⟨ah,r,e,hz⟩:=I.list n
 obtain ⟨j,h1,h2,F,C,B⟩:=QV A
 obtain ⟨w,k,d⟩:=r.get h2
 have o:=r.length
 have E:=qw
 have fin:EP X pins σ Q w s:=⟨z,H,I,d,q⟩
 by_cases h0:0<=i
 .have f:i.toNat=j:=by
   rw [seqIndex_of h0 B] at h1
   exact ml.inj h1
  exact item_listR e.isList h0 (by omega) (by rw [f]; simpa using k) fin g
 .have f:(i+(ah.toArray.size:Int)).toNat=j:=by
   rw [seqIndex_neg (by omega) C] at h1
   rw [cx,<- o]
   exact ml.inj h1
  exact subscriptTail_builtinR (x:=w) e.isList.typeIs slot_list_getitem.lookup
   (wpAny_getItem_list_neg (Q:=λr s'=>r=w/\EP X pins σ Q r s') e.isList (by omega) (by rw [cx] <;> omega) (by omega) (by rw [f]; simpa using k) ⟨rfl,fin⟩) g
def TN:mw X (zdv X.K):=by
 intro value c pins s σ H x y v u Q I g f h k
 obtain ⟨p,xs,i,z,rfl,rfl,l,n,q⟩:=h
 cases g
 obtain ⟨t,rfl⟩:=f
 obtain ⟨ah,r,e,hz⟩:=I.tuple l
 obtain ⟨j,h1,h2,E,C,B⟩:=QV n
 obtain ⟨w,o,d⟩:=r.get h2
 have m:=r.length
 have A:=qw
 have fin:EP X pins σ Q w s:=⟨z,H,I,d,q⟩
 exact subscriptTail_builtinR (x:=w) e.typeIs slot_tuple_getitem.lookup
  (getItem_tuple (j:=j) (Q:=λr s'=>r=w/\EP X pins σ Q r s') e (by omega) (by omega) (by rw [cx,<- m]; exact h1) (by simpa using o) ⟨rfl,fin⟩) k
def TQ:mw X zdw:=by
 intro value d pins s σ H x y v u Q I f e h g
 obtain ⟨z,i,c,rfl,rfl,hz,l,q⟩:=h
 obtain ⟨t,rfl⟩:=f
 obtain ⟨t',rfl⟩:=e
 obtain ⟨j,h1,h2,p,n,m⟩:=QV l
 have k:z.cps.toList.length=z.length:=by simp [Str.length]
 rw [k] at h1 n m
 have o:=qw
 exact tail_any (typeIs_str s z t) slot_str_getitem.lookup (getItem_str (c:=c) (by
  have e1:decide (i < -(2 ^ 63:Int))=false:=decide_eq_false (by omega)
  have e2:decide (i ≥ 2 ^ 63)=false:=decide_eq_false (by omega)
  rw [e1,e2,Bool.or_false]) (by rw [h1]; simpa using h2) ⟨.str ⟨#[c]⟩,H,I.tok _,⟨_,rfl⟩,q⟩) g
def rIx (K:Eh):R2:=λx y H Q=>zdx K x y H Q\/zdv K x y H Q\/zdw x y H Q
def TR:mw X (rIx X.K):=PD.or (TN.or TQ)
def KW (ah:List Value) (n j:Nat) (u:Value):EV (·.setIfInBounds j u) { cls:=.type "list",data:=.seq ah.toArray n }={ cls:=.type "list",data:=.seq (ah.set j u).toArray n }:=by
 simp [EV]
def Inv.lst (I:Inv X pins σ H s) (h:H p=some (.lst xs)):
  ∃ (ah:List Value) (n:Nat),yR xs ah/\s.heap.get? p=some { cls:=.type "list",data:=.seq ah.toArray n }/\xs.length<=sizeLine:=by
 obtain ⟨z,ah,n,r,e⟩:=I.hok p _ h
 exact ⟨ah,n,r,e,z⟩
def Inv.lstUpd  {σ:St} {ah its':List Value} (I:Inv X pins σ H s) (h:H p=some (.lst xs))
  (d:s.heap.get? p=some { cls:=.type "list",data:=.seq ah.toArray n }) (c:f { cls:=.type "list",data:=.seq ah.toArray n }={ cls:=.type "list",data:=.seq its'.toArray n' }) (r:yR ys its') (hz:ys.length<=sizeLine) (t) :
  Inv X pins σ (upd H p (.lst ys)) { s with heap:=s.heap.update p f,toks:=t }:=by
 have e:(s.heap.update p f).get? p=some { cls:=.type "list",data:=.seq its'.toArray n' }:=by
  rw [Lf f d (by rw [c] <;> rfl),c]
 refine I.write (x:=p) (e:=p) (by rw [h]; trivial) (.inl rfl) (λb u g q=>(K_ _ _ (E7 g)).trans q) ⟨_,e⟩ ?_
 exact ⟨hz,its',n',r,e⟩
def zcb:V->V->V->Hp->(Hp->Prop)->Prop:=λo i v H Q=>∃ p xs k j,o=.ref p/\i=.int k/\H p=some (.lst xs)/\fO xs.length k=some j/\Q (upd H p (.lst (xs.set j v)))
def C1:zec X zcb:=by
 intro pins s σ H o i v A B u Q I x y w h
 obtain ⟨p,xs,k,j,rfl,rfl,f,z,q⟩:=h
 cases x
 obtain ⟨t,rfl⟩:=y
 obtain ⟨ah,n,r,c,hz⟩:=I.lst f
 obtain ⟨h1,h2,l,g⟩:=Bc z
 have d:=r.length
 have C:=qw
 have m:Inv X pins σ (upd H p (.lst (xs.set j v))) { s with heap:=s.heap.update p (EV (·.setIfInBounds j u)) } :=
  I.lstUpd f c (KW ah n j u) (r.set w j) (by rw [List.length_set]; exact hz) s.toks
 by_cases h0:0<=k
 .have e:k.toNat=j:=by
   rw [seqIndex_of h0 g] at h1
   exact ml.inj h1
  exact PySem.W.ki_setAt c h0 (by omega) (by rw [cx,<- d]; exact g) (by rw [e]; exact ⟨_,m,q⟩)
 .have e:(k+(ah.toArray.size:Int)).toNat=j:=by
   rw [seqIndex_neg (by omega) l] at h1
   rw [cx,<- d]
   exact ml.inj h1
  exact PySem.W.ki_setBack c (by omega) (by rw [cx,<- d]; exact l) (by omega) (by rw [e]; exact ⟨_,m,q⟩)
def Vy (lo hi) (n:Nat):(Lo lo hi none n).1=((HT.sIx n 0 lo:Nat):Int)/\(Lo lo hi none n).2.1=((HT.sIx n n hi:Nat):Int)/\(Lo lo hi none n).2.2=1:=by
 refine ⟨?_,?_,rfl⟩
 .cases lo with
  | none=>simp [Lo,HT.sIx]
  | some i =>
   simp only [Lo,HT.sIx,Option.getD_none,show (1:Int) > 0 by decide,if_true]
   by_cases h:i < 0
   .simp only [h,if_true] <;> omega
   .simp only [h,if_false] <;> omega
 .cases hi with
  | none=>simp [Lo,HT.sIx]
  | some i =>
   simp only [Lo,HT.sIx,Option.getD_none,show (1:Int) > 0 by decide,if_true]
   by_cases h:i < 0
   .simp only [h,if_true] <;> omega
   .simp only [h,if_false] <;> omega
def Wg (ah:List Value) (lo hi:Option Int):slicePick ah.toArray lo hi none=((ah.drop (HT.sIx ah.length 0 lo)).take (HT.sIx ah.length ah.length hi - HT.sIx ah.length 0 lo)).toArray:=by
 obtain ⟨h1,h2,c⟩:=Vy lo hi ah.toArray.size
 unfold slicePick
 rw [h1,h2,c]
 simp only [sliceRange_one,pick_run,cx] <;> rfl
def zer (K:Eh):V->Option Int->Option Int->Hp->VK->Prop:=λx lo hi H Q=>∃ a xs,x=.ref a/\bG K H a xs/\∀ p,H p=none->Q (.ref p) (upd H p (.lst (B4 xs lo hi)))
def M9:oi X (zer X.K):=by
 intro pins s σ H x v k j lo hi sl Q I d i f e h
 obtain ⟨a,xs,rfl,g,q⟩:=h
 cases d
 obtain ⟨ah,r,ht,hz⟩:=I.list g
 have c:=r.length
 refine ⟨"list",_,slot_list_getitem.lookup,ht.isList.typeIs,?_⟩
 refine wpAny_getItem_list_slice ht.isList i f e .none (by simp) ?_ (by rw [cx] <;> omega)
 rw [Wg,<- c]
 refine ⟨.ref s.heap.objs.size,_,I.laid (t':=s.toks) (o:=.lst (B4 xs lo hi)) (λb l q=>ls _ q) (aT _) ?_,rfl,q _ (I.hok.fresh (aT _))⟩
 exact ⟨fc (YJ xs lo hi) hz,_,0,(r.drop (HT.sIx xs.length 0 lo)).take (HT.sIx xs.length xs.length hi - HT.sIx xs.length 0 lo),Ej _ rfl⟩
def UC:wI X (.builtin "len") (λxs H Q=>∃ p ys,xs=[.ref p]/\(bG X.K H p ys\/bT X.K H p ys)/\Q (.int ys.length) H):=by
 intro pins s σ H xs us Q I r h
 obtain ⟨p,ys,rfl,d,q⟩:=h
 obtain ⟨u,rfl,g⟩:=kH r
 cases g
 have i:=qw
 rcases d with d | d
 .obtain ⟨ah,e,f,hz⟩:=I.list d
  have c:=e.length
  exact Calls.call_len_list f.isList (by simp only [cx] <;> omega) ⟨.int ys.length,H,I.tok _,⟨s.toks+1,by rw [cx,c]⟩,q⟩
 .obtain ⟨ah,e,f,hz⟩:=I.tuple d
  have c:=e.length
  exact len_tuple f (by simp only [cx] <;> omega) ⟨.int ys.length,H,I.tok _,⟨s.toks+1,by rw [cx,c]⟩,q⟩
def UB:wI X (.builtin "len") (λxs H Q=>∃ z,xs=[.str z]/\z.length<=sizeLine/\Q (.int z.length) H):=by
 intro pins s σ H xs us Q I r h
 obtain ⟨z,rfl,hz,q⟩:=h
 obtain ⟨u,rfl,t,rfl⟩:=kH r
 have c:=qw
 exact len_str (by omega) ⟨.int z.length,H,I.tok _,⟨_,rfl⟩,q⟩
def wI.or (h:wI X f r) (h':wI X f c):wI X f (λxs H Q=>r xs H Q\/c xs H Q):=by
 intro pins s σ H xs us Q I rs q
 rcases q with q | q
 .exact h pins s σ H xs us Q I rs q
 .exact h' pins s σ H xs us Q I rs q
def UA:wI X (.type "list") (λxs H Q=>∃ p ys,xs=[.ref p]/\(bG X.K H p ys\/bT X.K H p ys)/\∀ l,H l=none->Q (.ref l) (upd H l (.lst ys))):=by
 intro pins s σ H xs us Q I r h
 obtain ⟨p,ys,rfl,f,q⟩:=h
 obtain ⟨u,rfl,m⟩:=kH r
 cases m
 have fin:∀ (ah:List Value),yR ys ah->ys.length<=sizeLine->∀ (h':Heap) (d:Nat),(∀ b o',s.heap.get? b=some o'->h'.get? b=some o') →
   h'.get? s.heap.objs.size=some { cls:=.type "list",dict:=none,data:=.seq ah.toArray d,slots := #[] }->EP X pins σ Q (.ref s.heap.objs.size) { s with heap:=h' }:=λah c hz h' d kp e =>
  ⟨.ref s.heap.objs.size,_,I.laid (t':=s.toks) kp (aT _) (show vD X.prog X.w _ h' _ (.lst ys) from ⟨hz,ah,d,c,e⟩),rfl,q _ (I.hok.fresh (aT _))⟩
 rcases f with f | f
 .obtain ⟨ah,c,i,hz⟩:=I.list f
  have g:=c.length
  obtain ⟨o,j,k,n,hd⟩:=i.isList
  exact call_list_seq p (.inl rfl) j k hd (λh' d kp e=>fin ah c hz h' d kp e) (by simp only [cx] <;> omega)
 .obtain ⟨ah,c,i,hz⟩:=I.tuple f
  have g:=c.length
  obtain ⟨o,j,k,n,hd⟩:=i
  exact call_list_seq p (.inr rfl) j k hd (λh' d kp e=>fin ah c hz h' d kp e) (by simp only [cx] <;> omega)
def yG:wI X (.type "tuple") (λxs H Q=>∃ p ys,xs=[.ref p]/\((bG X.K H p ys/\∀ l,H l=none->Q (.ref l) (upd H l (.tup ys)))\/(bT X.K H p ys/\Q (.ref p) H))):=by
 intro pins s σ H xs us Q I r h
 obtain ⟨p,ys,rfl,h⟩:=h
 obtain ⟨u,rfl,j⟩:=kH r
 cases j
 rcases h with ⟨f,q⟩ | ⟨f,q⟩
 .obtain ⟨ah,c,d,hz⟩:=I.list f
  have g:=c.length
  refine call_tuple_list d.isList (λh' kp=>?_) (by simp only [cx] <;> omega)
  have i:Inv X pins σ H { s with heap:=h' }:=I.kept (t':=s.toks) kp
  have k:Inv X pins σ (upd H h'.objs.size (.tup ys)) { s with heap:=h'.push { cls:=.type "tuple",data:=.seq ah.toArray } } :=
   i.laid (t':=s.toks) (λb o e=>ls _ e) (aT _) (show vD X.prog X.w _ _ _ (.tup ys) from ⟨hz,ah,c,IsTup.new _ _⟩)
  exact ⟨.ref h'.objs.size,_,k,rfl,q _ (i.hok.fresh (aT _))⟩
 .obtain ⟨ah,c,d,hz⟩:=I.tuple f
  exact call_tuple_same d ⟨.ref p,H,I,rfl,q⟩
def tyV (K:Eh) (T:String) (x:V) (H:Hp):Prop:=match x with
 | .str _=>T="str"
 | .int _=>T="int"
 | .ref p=>(T="list"/\∃ xs,bG K H p xs)\/(T="tuple"/\∃ o,K.lookup p=some o/\o.cls=.type "tuple"/\o.dict=none) ∨
   (T="dict"/\((∃ aJ,H p=some (.dK aJ))\/∃ aJ,H p=some (.dT aJ)))\/(T="set"/\∃ S n,H p=some (.set S n))
 | _=>False
def RV (I:Inv X pins σ H s) (r:xv x v) (ty:tyV X.K T x H):
  s.TypeIs v T/\∀ a,v=.ref a->∃ g,s.heap.get? a=some g/\g.dict=none:=by
 cases x with
 | str z =>
  obtain ⟨t,rfl⟩:=r
  cases (show T="str" from ty)
  exact ⟨typeIs_str s z t,λ_ e=>nomatch e⟩
 | int i =>
  obtain ⟨t,rfl⟩:=r
  cases (show T="int" from ty)
  exact ⟨typeIs_int s i t,λ_ e=>nomatch e⟩
 | ref p =>
  cases r
  rcases ty with ⟨rfl,xs,h⟩ | ⟨rfl,o,d,j,hd⟩ | ⟨rfl,d⟩ | ⟨rfl,S,n,d⟩
  .obtain ⟨ah,_,f,_⟩:=I.list h
   refine ⟨f.isList.typeIs,λa e=>?_⟩
   cases e
   obtain ⟨o,n,e,c,hd,_⟩:=f
   exact ⟨o,e,hd⟩
  .refine ⟨⟨o,I.kIn p o d,j⟩,λa e=>?_⟩
   cases e
   exact ⟨o,I.kIn _ o d,hd⟩
  .have z:∃ o,s.heap.get? p=some o/\o.ExactDict:=by
    rcases d with ⟨aJ,d⟩ | ⟨aJ,d⟩
    .obtain ⟨_,_,_,_,o,_,_,e,ex,_⟩:=I.hok p _ d
     exact ⟨o,e,ex⟩
    .obtain ⟨_,_,_,_,o,_,_,e,ex,_⟩:=I.hok p _ d
     exact ⟨o,e,ex⟩
   obtain ⟨o,e,ex⟩:=z
   refine ⟨⟨o,e,ex.1⟩,λa e2=>?_⟩
   cases e2
   exact ⟨o,e,ex.2.1⟩
  .obtain ⟨o,_,_,_,e,ex,_⟩:=I.hok p _ d
   refine ⟨⟨o,e,ex.1⟩,λa e2=>?_⟩
   cases e2
   exact ⟨o,e,ex.2.1⟩
 | _=>exact Ik ty
def tBM (K:Eh) (T:String) (r:V->List V->Hp->VK->Prop) (to:TE) (t:TA):TE:=λσ H Q=>to σ H λx H1=>tyV K T x H1/\t σ H1 λxs H2=>r x xs H2 Q
variable {o e:Expr} {es:List Expr} {to:TE} {t:TA} {name:Str} {apos a8:Pos} {T id:String} {r:V->List V->Hp->VK->Prop}
def NO (p:PlainAttrs T) (slot:Slot T name id) (g:typeOf (.builtin id)=pure (.type "method_descriptor")) (w:MtR X id r) (u:PE X o to) (y:PA X (e :: es) t)
  (d:LL o name X.env (eval o X.env)=eval o X.env:=by rfl)
  (f:((F_ a8 (Ei (e :: es) X.env)).all (λx => !x.1)&&(backToKw a8 (keywordEach [] X.env)).all (λx=>x.1.isSome)
   && decide ((e :: es).length+([]:List LJ).length+(if ([]:List LJ).isEmpty then 0 else 1) < 30))=true:=by rfl)
  (c:(apos.endLine==a8.line)=true:=by rfl) (q:Ei (e :: es) X.env=(false,eval e X.env) :: Ei es X.env:=by rfl) (z:(F_ a8 (Ei es X.env)).any (·.1)=false:=by rfl) :
  PE X (.Call (.Attribute o name apos) (e :: es) [] a8) (tBM X.K T r to t):=by
 intro pins s σ H Q I h
 refine wpAny_Call_method_late d f c rfl (thn (u pins s σ H _ I h) λv s1 ⟨x,H1,k,i,ty,n⟩=>?_)
 obtain ⟨h1,h2⟩:=RV k i ty
 refine ⟨T,id,p,slot,g,h1,h2,?_⟩
 have j:=y a8 pins s1 σ H1 _ k n
 rw [q] at j ⊢
 refine Calls.callWith_builtin (by show (false||(F_ a8 (Ei es X.env)).any (·.1))=false; rw [z] <;> rfl) (Calls.evalArgs_plain ?_)
 exact thn j λus s2 ⟨vs,H2,A,l,m⟩=>w pins s2 σ H2 x vs v us Q A i l m
end
def MtM (X:Cx) (id:String) (r:V->List V->Hp->VK->Prop):Prop :=
 ∀ (pins:List (Addr×Obj)) (s:Shared) (σ:St) (H:Hp) (x:V) (xs:List V) (v:Value) (us:List Value) (Q:VK),Inv X pins σ H s->xv x v->yR xs us->r x xs H Q →
  Ek (EA X.prog X.w) X.A (call (.builtin id) (v :: us)) (EP X pins σ Q) X.xe s
def yR.one:∀ {x:V} {us:List Value},yR [x] us->∃ u,us=[u]/\xv x u
 | _,_,.cons r .nil=>⟨_,rfl,r⟩
def yR.reverse (h:yR xs us):yR xs.reverse us.reverse:=by
 induction h with
 | nil=>exact .nil
 | cons r t a=>rw [mn,mn]; exact yR.append a (.cons r .nil)
theorem yR.rep (h:yR xs us):∀ k,yR (aP k xs).flatten (aP k us).flatten
 | 0=>.nil
 | k+1=>by
  rw [nE,nE,n0,n0]
  exact yR.append h (yR.rep h k)
theorem Ug (ah):∀ (k) (a:List Value),
  List.foldl (λc b=>c++b) a.toArray (aP k ah.toArray)=(a++(aP k ah).flatten).toArray
 | 0,a=>by simp
 | k+1,a=>by
  have e:a.toArray++ah.toArray=(a++ah).toArray:=by simp
  have e2:(a++ah)++(aP k ah).flatten=a++(aP (k+1) ah).flatten:=by
   rw [nE,n0,dh]
  rw [<- e2,<- Ug ah k (a++ah),<- e,nE,nB]
section
variable {X:Cx} {pins:List (Addr×Obj)} {σ:St} {H:Hp} {s:Shared} {l b:Addr} {xs ys zs:List V}
def Inv.lset {ah its':List Value} (I:Inv X pins σ H s) (h:H l=some (.lst xs))
  (e:s.heap.get? l=some { cls:=.type "list",data:=.seq ah.toArray n }) (d:f ah.toArray=its'.toArray) (a:yR ys its') (hz:ys.length<=sizeLine) :
  Inv X pins σ (upd H l (.lst ys)) { s with heap:=s.heap.update l (EV f),toks:=t' }:=by
 have q:=PySem.IsL.update e f
 rw [d] at q
 refine I.write (x:=l) (e:=l) (by rw [h]; exact trivial) (.inl rfl) (λi u g c=>(K_ s.heap (EV f) (E7 g)).trans c) ⟨_,q⟩ ?_
 exact ⟨hz,its',_,a,q⟩
def Inv.lnew (I:Inv X pins σ H s) (a:yR ys ah) (hz:ys.length<=sizeLine) :
  Inv X pins σ (upd H s.heap.objs.size (.lst ys)) { s with heap:=s.heap.push { cls:=.type "list",data:=.seq ah.toArray },toks:=t' } :=
 I.laid (λ_ _ q=>ls _ q) (aT _) ⟨hz,ah,0,a,Ej _ rfl⟩
def Inv.fresh (I:Inv X pins σ H s):H s.heap.objs.size=none:=I.hok.fresh (aT _)
def Inv.lstM (I:Inv X pins σ H s) (a:H l=some (.lst xs)):xs.length<=sizeLine/\∃ (ah:List Value) (n:Nat),yR xs ah/\xs.length=ah.length/\s.heap.get? l=some { cls:=.type "list",data:=.seq ah.toArray n }:=by
 obtain ⟨z,ah,n,r,e⟩:=I.hok l _ a
 exact ⟨z,ah,n,r,r.length,e⟩
def DF (h:n<=sizeLine):EY n=false:=by
 unfold EY
 exact decide_eq_false (by omega)
end
section
variable {X:Cx}
def Nx:V->List V->Hp->VK->Prop:=λx vs H Q=>∃ l xs y,x=.ref l/\vs=[y]/\H l=some (.lst xs)/\xs.length < sizeLine/\Q .non (upd H l (.lst (xs++[y])))
def VZ:MtM X "list.append" Nx:=by
 intro pins s σ H x vs v us Q I b c h
 obtain ⟨l,xs,y,rfl,rfl,a,hz,q⟩:=h
 cases b
 obtain ⟨u,rfl,d⟩:=c.one
 obtain ⟨z,ah,n,r,f,e⟩:=I.lstM a
 refine call_meets F.slot_list_append ⟨_,e,rfl⟩ F.entry_list_append (F.args_list_append_2 _ _) (PySem.list_append l ah.toArray n u (by rw [cx]; omega)) ⟨e,?_⟩
 refine ⟨.non,_,I.lset (its':=ah++[u]) a e (by simp) (r.append (.cons d .nil)) ?_,rfl,q⟩
 rw [aW,di]
 omega
def Po (xs:List α) (k:Nat):(aP k xs).flatten.length=k * xs.length:=by
 induction k with
 | zero=>simp
 | succ k a=>rw [nE,n0,aW,a,Nat.succ_mul,Nat.add_comm]
end
section
variable {prog:Ex} {w:ER} {A:Around} {E:Value->Shared->Prop} {s:Shared}
end
section
variable {X:Cx}
end
section
variable {κ:Type} [DecidableEq κ]
end
section
variable {P:Ex} {w:ER} {H:Hp} {h:Heap} {a:Addr}
end
section
variable {X:Cx} {pins:List (Addr×Obj)} {σ:St} {H:Hp} {s:Shared} {a:Addr} {y v:V} {u r:Value} {o:Option V} {A:Around} {E:Value->Shared->Prop}
def Inv.big (I:Inv X pins σ H s):ID < s.heap.objs.size:=by
 have h:Er < s.heap.objs.size:=(I.mod.glob.keeps I.bk).lt
 exact Nat.lt_trans (by decide) h
def Rg (I:Inv X pins σ H s) (d:Ed (H a)) (f:Heap.SameBut a s.heap h') (g:∃ q,h'.get? a=some q) (new:vD X.prog X.w (upd H a c) h' a c) :
  Inv X pins σ (upd H a c) { s with heap:=h',toks:=t' } :=
 I.write (x:=a) (e:=a) d (.inl rfl) (λb q h z=>(f.2 b h).trans z) g new
end
section
variable {X:Cx} {pins:List (Addr×Obj)} {σ:St} {H:Hp} {s:Shared} {a:Addr} {aJ:List (Key×V)} {k:Key} {u:Value} {A:Around} {E:Value->Shared->Prop}
end
def zdi (i:Expr):Prop:=∀ a b,subscripted i false a b=operate [a,b] (getItem a b)
def GL         {T id:String}
  (g:typeLookup (.type T) "__getitem__"=pure (some (.builtin id))) (f:zdi slice)
  (h:Ek (EA prog w) A (eval value env) (λo a=>Ek (EA prog w) A (eval slice env) (λi b=>b.TypeIs o T/\Ek (EA prog w) A (getItem o i) Q E b) E a) E s) :
  Ek (EA prog w) A (eval (.Subscript value slice pos) env) Q E s:=by
 refine Subscript_ (EB h (λo a h₁=>EB h₁ (λi b c=>?_) λ_ _ x=>x) λ_ _ x=>x)
 obtain ⟨d,c⟩:=c
 unfold subscriptTail
 refine be ?_
 rw [getitemInPython_of_ne d.not_modules]
 refine be (Ia d g ?_)
 have fin:Ek (EA prog w) A (subscripted slice false o i) (λr e=>Ek (EA prog w) A (letTemporaryGo value o r >>= λ_=>pure r) Q E e) E b:=by
  rw [f o i]
  exact wpAny_operating (EB c (λr e j=>be (wpAny_letTemporaryGo (mo j))) λ_ _ x=>x)
 first
  | exact mo (be fin)
  | exact be (mo (be fin))
  | exact be fin
section
variable {X:Cx} {o i e value:Expr} {pos pos' fM:Pos} {td ty tv:TE}
end
section
variable {X:Cx} {pos:Pos}
end
structure M2 (X:Cx) (o:Expr) (m:Str) (apos:Pos) (e f:Expr) (a8:Pos):Prop where
 base:LL o m X.env (eval o X.env)=eval o X.env
 few:((F_ a8 (Ei [e,f] X.env)).all (λx => !x.1)&&(backToKw a8 (keywordEach [] X.env)).all (λx=>x.1.isSome)
  && decide (([e,f]:List Expr).length+([]:List LJ).length+(if ([]:List LJ).isEmpty then 0 else 1) < 30))=true
 line:(apos.endLine==a8.line)=true
 trees:F_ a8 (Ei [e,f] X.env)=[(false,eval e X.env),(false,eval f X.env)]
section
variable {X:Cx} {pins:List (Addr×Obj)} {σ:St} {H:Hp} {s:Shared} {a:Addr} {y d:V} {u r:Value} {o:Option V} {A:Around} {E:Value->Shared->Prop}
end
section
variable {X:Cx} {o e f:Expr} {apos a8:Pos} {td ty tx:TE}
end
section
variable {X:Cx} {pins:List (Addr×Obj)} {σ:St} {H:Hp} {s:Shared} {a:Addr} {aJ:List (Key×V)} {A:Around} {E:Value->Shared->Prop}
end
section
variable {X:Cx} {pins:List (Addr×Obj)} {σ:St} {H:Hp} {s:Shared} {a:Addr} {y:V} {u:Value} {A:Around} {E:Value->Shared->Prop}
end
end L2
namespace Att
open PySem PySem.W PySem.Calls PyProof.Rows
def Yt   : ∀ ns vs,WellAll P h vs (ns.map WData.int)->IntsAre vs ns:=by
 intro ns
 induction ns with
 | nil =>
  intro vs w
  rw [bg] at w
  cases w
  exact .nil
 | cons n ns c =>
  intro vs w
  rw [aC] at w
  cases w with
  | cons a b =>
   cases a
   exact .cons _ _ (c _ b)
def GT {l:OpenLaw} (s:l.most=some n)
  (b:l.row.toRowW.claim.pre args=true) (o:WellAll P h vals args) :
  ∃ a vs ns,vals=[Ij a]/\args=[WData.list (ns.map WData.int)]/\h.get? a=some { cls:=.type "list",data:=.seq vs.toArray }/\IntsAre vs ns/\ns.length<=n:=by
 have m:WShape.hasAll [] args [.list .int]=true:=(pre_splitW b).1
 have g:l.pre.holds [] { args:=args }=true:=(pre_splitW b).2
 obtain ⟨d,r,rfl,h1,h2⟩:=hasAllW_cons m
 obtain rfl:=hasAllW_nil h2
 obtain ⟨xs,rfl,t⟩:=hasW_list h1
 obtain ⟨ns,rfl⟩:=items_int t
 have c:ns.length<=n:=by
  unfold OpenLaw.pre at g
  have f:(WTm.not (.lt (.lit (.int (n:Int))) (.len (.arg 0)))).holds [] { args:=[.list (ns.map .int)] }=true:=by
   have f:=(holds_andW g).1
   rw [s] at f
   exact f
  have e:=condW_of f (w_not (w_lt w_lit (w_len_list (w_arg rfl))))
  rw [aD] at e
  refine Nat.le_of_not_lt λq=>?_
  have k:(n:Int) < ((ns.length:Nat):Int):=by omega
  first
   | (rw [decide_eq_true k] at e; exact absurd e (by decide))
   | (simp at e; omega)
 cases o with
 | cons j i =>
  cases i
  cases j with
  | list p u=>exact ⟨_,_,ns,rfl,rfl,p,Yt ns _ u,c⟩
def Hg (l:OpenLaw) (args):l.row.toRowW.claim.post args (.bool true) args=true :=
 postW_of (r:=l.row.toRowW) (X:=(true==true))
  (show WShape.has [] (.bool true) .bool=true by first | rfl | decide | simp [WShape.has,WShape.arms,WShape.armsAll])
  (show (WTm.eq .res (.lit (.bool true))).value [] { args:=args,res:=some (.bool true),after:=args }=some (.bool (true==true)) from w_eq_bool (w_res rfl) w_lit) rfl
def attach_call {l:OpenLaw} {m:(Str->Option Value)->Heap->Prop}
  (x:l.most=some n) (F:d.params.defaults=[])
  (call:∀ (w:ER) (s₀ b:Shared) (mg mb:Str->Option Value) (fa:Addr) (o:Obj) (pm h doc:Value) (a:Addr) (vs:List Value) (ns:List Int),
   Ground q loose [] m w s₀ mg mb b.heap->C w b.heap →
   b.heap.get? fa=some o->o.data=.func (docDef d.name d.params d.body d.scope pm h doc)->b.heap.CodeRec h d.name->mg d.name=some (.ref fa) →
   b.heap.get? a=some { cls:=.type "list",data:=.seq vs.toArray }->IntsAre vs ns->ns.length<=n->b.gens = #[] →
   codeAny (EA l.prog w) callerA (.call (.ref fa) ⟨[.ref a],[]⟩) (λr s'=>r=.ok (.ret (.bool true))/\OldK b.heap s'.heap/\s'.os=b.os/\AllBare s'.gens) b) :
  WalkO q loose m C l.row.toRowW d [] (λf vs=>PySem.call f vs):=by
 intro w s₀ b mg mb G Y fa o pm h doc B kV v hd i k E hg args vals I e j t s H
 obtain rfl:B=.none:=Dflts.none k F
 obtain rfl:kV=.none:=Dflts.noKw k
 obtain ⟨a,vs,ns,rfl,rfl,p,c,g⟩:=GT x e s
 refine enter_call (codeAny_mono (call w s₀ b mg mb fa o pm h doc a vs ns G Y v (fd_plain hd) i E p c g hg) λr s' u=>?_)
 obtain ⟨rfl,h2,A,z⟩:=u
 exact ⟨.inl ⟨.bool true,.bool true,[],rfl,λ_=>rfl,.bool true,Hg l _,λ_=>⟨List.Pairwise.nil,λ_ y=>(nomatch y)⟩⟩,h2,A,z⟩
section
variable {prog:Ex} {w:ER} {A:Around} {E:Value->Shared->Prop} {s:Shared} {K:Frag}
def zd4 (h:Heap) (L d:Addr):List (Addr×Obj):=(aK h.objs.size).filterMap λa=>if a=L\/a=d then none else (h.get? a).map λo=>(a,o)
end
end Att
namespace L2
open PySem PySem.Spec PyProof.Rows
theorem cN:∀ {vs:List Value} {ns:List Int},IntsAre vs ns->yR (ns.map V.int) vs
 | _,_,.nil=>.nil
 | _,_,.cons n t h=>.cons ⟨t,rfl⟩ (cN h)
def zbj (H:Hp):Prop:=∀ b,H b=none\/∃ o xs,H b=some (.frz o (.lst xs))
def D9   {K:Eh}
  (S:K.In c.heap) (L:c.heap.Ns Er mg) (f:c.heap.Ns builtinsNs mb) (E:∀ x:Str,x≠"__name__"->mb x=E4 x) (t:c.heap.NoLimit) (hg:c.gens = #[])
  (A:c.heap.get? a=some { cls:=.type "list",data:=.seq vs.toArray }) (hi:IntsAre vs ns) (O:ns.length<=sizeLine) (Z:Room k callerA)
  (F:∀ base:Heap,K.In base->base.Ns Er mg->FnOk P w K mg base CX k fa fd [x] sp) (AN:∀ (s:Shared) (u:Value),BindsTo s fd ⟨[u],[]⟩ [(x,u)])
  (B:∀ H:Hp,zbj H->bG K H a (ns.map V.int)->sp [.ref a] H (λv _=>v=.bl true) λ_ _ _=>False)
  (G:∀ H e s',CX [] H c (λ_ _ _=>False) e s'->False) :
  codeAny (EA P w) callerA (.call (.ref fa) ⟨[.ref a],[]⟩) (λr s'=>r=.ok (.ret (.bool true))/\OldK c.heap s'.heap/\s'.os=c.os/\AllBare s'.gens) c:=by
 have J:=cN hi
 have l:=hi.length
 have i:∀ H:Hp,zbj H->bG K H a (ns.map V.int)->dj P w H c.heap->(∀ b,H b≠none->b=a)->(H a≠none->K.lookup a=none) →
   codeAny (EA P w) callerA (.call (.ref fa) ⟨[.ref a],[]⟩) (λr s'=>r=.ok (.ret (.bool true))/\OldK c.heap s'.heap/\s'.os=c.os/\AllBare s'.gens) c:=by
  intro H Q hS hok R hK
  have M:∀ {b:Addr} {o:Obj},c.heap.get? b=some o->H b=none->(Fo c.heap H).get? b=some o:=λe n=>Fl e n
  have T:∀ {b:Addr} {o:Obj} {es:Array IK} {ep:Nat},c.heap.get? b=some o->o.data=.dict es ep->H b=none:=λ{b o es ep} e d=>by
   cases q:H b with
   | none=>rfl
   | some u =>
    have I:b=a:=R b (by rw [q]; simp)
    subst I
    rw [A] at e; cases e
    have d':Data.seq vs.toArray _=Data.dict es ep:=d
    cases d'
  have g:∀ {b:Addr} {m:Str->Option Value},c.heap.Ns b m->(Fo c.heap H).Ns b m:=λ{b m} ⟨o,es,ep,e,d,r⟩=>⟨o,es,ep,M e (T e d),d,r⟩
  have y:K.In (Fo c.heap H):=λb o e=>M (S b o e) (by
   cases q:H b with
   | none=>rfl
   | some u =>
    have I:b=a:=R b (by rw [q]; simp)
    subst I
    rw [hK (by rw [q]; simp)] at e; cases e)
  have hM:Mod K mg (Fo c.heap H):=⟨y,g L,⟨mb,g f,E⟩,let ⟨Y,h1,h2⟩:=t; ⟨Y,g h1,h2⟩⟩
  have e0:Env0 P w K mg (Fo c.heap H) callerA [] c H:=⟨rfl,hM,λb o e=>N7 e,Nat.le_of_eq (Bn _ _),trivial,λb f=>absurd (show b∈([]:List Addr) from f) (by simp),hok,.of_eq hg⟩
  refine codeAny_mono ((F _ y (g L)).run callerA [] c H ⟨[.ref a],[]⟩ [.ref a] [.ref a] _ _ Z e0 (AN c (.ref a)) (.cons rfl .nil) (B H Q hS)) λr s' h=>?_
  cases r with
  | error e=>exact (G H e s' h).elim
  | ok fl =>
   cases fl with
   | next=>exact Ik h
   | brk=>exact Ik h
   | cont=>exact Ik h
   | ret u =>
    obtain ⟨v,H',os,bare,un,p,U,q⟩:=h
    have W:v=.bl true:=q
    subst W
    obtain rfl:u=E3 true:=U
    refine ⟨rfl,OldK.of_keep λb o e=>?_,os,bare⟩
    cases q:H b with
    | none=>exact un.keep b o e q (by intro z; exact absurd (show b∈([]:List Addr) from z) (by simp)) (by simp)
    | some u =>
     rcases Q b with z | ⟨X,xs,z⟩
     .rw [q] at z; cases z
     .have z2:=un.frzs b X _ z
      obtain ⟨e1,_⟩:=hok b _ z
      obtain ⟨e2,_⟩:=p b _ z2
      rw [e] at e1; cases e1
      exact e2
 cases C:K.lookup a with
 | some o =>
  have e:=S a o C
  rw [A] at e
  cases e
  refine i (λ_=>none) (λ_=>.inl rfl) (.inr ⟨_,vs.toArray,_,C,rfl,rfl,rfl,by rw [cx,l]; exact O,by simpa using J⟩) (λb u z=>by have j:(none:Option HO)=some u:=z; cases j) (λb z=>absurd rfl z) λz=>absurd rfl z
 | none =>
  refine i (λb=>if b=a then some (.frz { cls:=.type "list",data:=.seq vs.toArray } (.lst (ns.map V.int))) else none) (λb=>?_) (.inl (.inr ⟨{ cls:=.type "list",data:=.seq vs.toArray },if_pos rfl⟩)) (λb u z=>?_) (λb z=>?_) λ_=>C
  .by_cases f:b=a
   .exact .inr ⟨_,_,if_pos f⟩
   .exact .inl (if_neg f)
  .by_cases f:b=a
   .have j:=(if_pos f).symm.trans z
    cases j
    subst f
    exact ⟨A,by rw [aD]; exact O,vs,_,J,A⟩
   .have j:=(if_neg f).symm.trans z
    cases j
  .by_cases f:b=a
   .exact f
   .exact absurd (if_neg f) z
def MX {l:W.OpenLaw} {J:(Str->Option Value)->Heap->Prop} {K:Params->Eh} {CX:ER->nI} {sp:ER->Sp}
  (t:l.most=some n) (M:n<=sizeLine) (O:d.params.defaults=[]) (r:Room k callerA)
  (A:∀ (w:ER) (h:Heap),I w h->(K w.params).In h)
  (F:∀ (w:ER) (mg:Str->Option Value) (fa:Addr) (h:Heap),(K w.params).In h->h.Ns Er mg->mg d.name=some (.ref fa) →
   ∃ fd:Iy,(∀ (s:Shared) (u:Value),BindsTo s fd ⟨[u],[]⟩ [(x,u)]) ∧
    ∀ base:Heap,(K w.params).In base->base.Ns Er mg->FnOk l.prog w (K w.params) mg base (CX w) k fa fd [x] (sp w))
  (i:∀ (w:ER) (H:Hp) (a:Addr) (ns:List Int),ns.length<=n->zbj H->bG (K w.params) H a (ns.map V.int)->sp w [.ref a] H (λv _=>v=.bl true) λ_ _ _=>False)
  (j:∀ (w:ER) (H:Hp) (s:Shared) (e:Value) (s':Shared),CX w [] H s (λ_ _ _=>False) e s'->False) :
  PySem.W.WalkO q loose J I l.row.toRowW d [] (λf vs=>PySem.call f vs):=by
 refine Att.attach_call t O λw s₀ g mg mb fa o pm Q doc a vs ns G Y P hd y L p c b hg=>?_
 have m:=A w _ Y
 obtain ⟨fd,z,E⟩:=F w mg fa _ m G.T.g L
 exact D9 m G.T.g G.T.b G.T.builtins G.T.nolimit hg p c (fc b M) r E z (λH C B=>i w H a ns b C B) λH e s'=>j w H g e s'
def walk_ofK {l:W.OpenLaw} {p:(Str->Option Value)->Heap->Prop} {K:Params->Eh} {sp:Eh->Sp}
  (i:l.most=some n) (r:n<=sizeLine) (t:d.params.defaults=[]) (g:Room k callerA)
  (j:∀ (w:ER) (h:Heap),o w h->(K w.params).In h)
  (F:∀ (w:ER) (mg:Str->Option Value) (fa:Addr) (h:Heap),(K w.params).In h->h.Ns Er mg->mg d.name=some (.ref fa) →
   ∃ fd:Iy,(∀ (s:Shared) (u:Value),BindsTo s fd ⟨[u],[]⟩ [(x,u)]) ∧
    ∀ base:Heap,(K w.params).In base->base.Ns Er mg->FnOk l.prog w (K w.params) mg base CX k fa fd [x] (sp (K w.params)))
  (b:∀ (K:Eh) (H:Hp) (a:Addr) (ns:List Int),ns.length<=n->zbj H->bG K H a (ns.map V.int)->sp K [.ref a] H (λv _=>v=.bl true) λ_ _ _=>False)
  (c:∀ (H:Hp) (s:Shared) (e:Value) (s':Shared),CX [] H s (λ_ _ _=>False) e s'->False) :
  PySem.W.WalkO q loose p o l.row.toRowW d [] (λf vs=>PySem.call f vs) :=
 MX (K:=K) (CX:=λ_=>CX) (sp:=λw=>sp (K w.params)) i r t g j F (λw H a ns h1 h2 m=>b (K w.params) H a ns h1 h2 m) λ_ H s e s'=>c H s e s'
def ur (s:Stmt):Arguments:=match s with
 | .FunctionDef _ a _ _ _ _ _ _ _ _=>a
 | _=>{ posonlyargs:=[],args:=[],vararg:=none,kwonlyargs:=[],kw_defaults:=[],kwarg:=none,defaults:=[] }
def xM (s:Stmt):List Stmt:=match s with
 | .FunctionDef _ _ b _ _ _ _ _ _ _=>b
 | _=>[]
def zl (s:Stmt):Scope:=match s with
 | .FunctionDef _ _ _ _ _ _ sc _ _ _=>sc
 | _=>{ kind:=.function,names:=[],isGenerator:=false,isCoroutine:=false }
abbrev eY:nI:=λ_ _ _ _ _ _=>False
abbrev E0:XK:=λ_ _ _=>False
def zck  : Kt eY X E0:=λ_ _ _ _ _ _ _ h=>h.elim
structure Fun (K:Eh) (x qual:Str) (st:Stmt) (f:Addr) (fd:Iy):Prop where
 ex:∃ (oc:Value) (od:Option Addr) (kV doc pm:Value) (an:Option Addr) (aq ct:Value) (gy:Array (Option Value)),
  fd=W.fnOf x qual (ur st) (xM st) (zl st) .none kV doc pm an aq ct/\K.lookup f=some ⟨oc,od,.func fd,gy⟩/\W.codeIn K aq qual=true
 kp:W.keepIn K (.ref f)=true
section
variable {P:Ex} {w:ER} {K:Eh} {mg:Str->Option Value} {base:Heap}
def Fun.ok  {st:Stmt} (F:Fun K x qual st f fd) (S:FnScope N ps (zl st)) (len:∀ vs H Q E,sp vs H Q E->vs.length=ps.length)
  (a:∀ (aq:Value) (A:Around) (outer:List Env) (s:Shared) (H:Hp) (vs:List V) (Q:VK) (E:XK),Room k (A.deeper (envOfC qual (zl st) s.heap.objs.size f aq))->sp vs H Q E →
   ∃ t,f6 (Zb eY P w K mg base N qual (zl st) f aq A outer s H E).nox (xM st) t/\t { nx:=λ_ H'=>Q .non H',rt:=Q } (start N vs) H):FnOk P w K mg base eY (k+1) f fd ps sp:=by
 obtain ⟨oc,od,kV,doc,pm,an,aq,ct,gy,rfl,lk,c⟩:=F.ex
 refine T5 lk c S len λA outer s H vs Q E d b=>?_
 obtain ⟨t,h,q⟩:=a aq A outer s H vs Q E d b
 exact ⟨t,h.nox,q⟩
def Fun.binds  {st:Stmt} (F:Fun K x qual st f fd)
  (h:∀ (kV doc pm:Value) (an:Option Addr) (aq ct:Value) (us:List Value),us.length=ps.length->bindArgs (W.fnOf x qual (ur st) (xM st) (zl st) .none kV doc pm an aq ct) ⟨us,[]⟩=pure (ps.zip us)):Vo K fd ps []:=by
 obtain ⟨oc,od,kV,doc,pm,an,aq,ct,gy,rfl,lk,a⟩:=F.ex
 exact .all (h kV doc pm an aq ct)
def Bx  {st:Stmt} {kV doc pm aq ct:Value} (l:K.lookup f=some ⟨oc,od,.func (W.fnOf x qual (ur st) (xM st) (zl st) .none kV doc pm an aq ct),gy⟩)
  (c:W.codeIn K aq qual=true) (k:W.keepIn K (.ref f)=true):Fun K x qual st f (W.fnOf x qual (ur st) (xM st) (zl st) .none kV doc pm an aq ct):=⟨⟨oc,od,kV,doc,pm,an,aq,ct,gy,rfl,l,c⟩,k⟩
end
def yX (h:n<=1000):n < sizeLine:=rZ h (by decide)
section
variable {X:Cx}
def pv (i) (c:X.N[i]? = some x:=by rfl) (b:iE X.env.scope x:=by first | exact Im rfl | exact E2 (Im rfl) | exact E2 (E2 rfl)) (hd:(x==("__debug__":Str))=false:=by decide)
  (a:(x==("__classdict__":Str))=false:=by decide):PE X (.Name x pos) (zdk i):=j9 c b hd a
end
def MC {A B:Prop} (h:B):if false=true then A else B:=by
 rw [if_neg iR]
 exact h
def MB {A B:Prop} (h:A):if true=true then A else B:=by
 rw [if_pos rfl]
 exact h
def yw (H H':Hp):Prop:=∀ b o,H b=some o->H' b=some o
def yw.trans (a:yw H H1) (b:yw H1 H2):yw H H2:=λc o h=>b c o (a c o h)
def yw.free (e:yw H H') (h:H' l=Option.none):H l=Option.none:=by
 cases q:H l with
 | none=>rfl
 | some o =>
  rw [e l o q] at h
  cases h
def yw.seq {K:Eh} (e:yw H H') (h:bG K H a xs):bG K H' a xs:=by
 rcases h with (h | ⟨o,h⟩) | h
 .exact .inl (.inl (e _ _ h))
 .exact .inl (.inr ⟨o,e _ _ h⟩)
 .exact .inr h
section
variable {κ:Type} [DecidableEq κ]
end
end L2
set_option maxHeartbeats 4000000
namespace FL
open PySem PySem.Spec PyProof.Rows L2
abbrev St:=L2.St
inductive D where
 | non
 | bl (b:Bool)
 | int (i:Int)
 | str (x:Str)
 | tup (ds:List D)
 | lst (ds:List D)
 deriving Inhabited
mutual
def ae (K:Eh) (H:Hp):D->V->Prop
 | .non,v=>v=.non
 | .bl b,v=>v=.bl b
 | .int i,v=>v=.int i
 | .str x,v=>v=.str x
 | .tup ds,v=>∃ a xs,v=.ref a/\bT K H a xs/\zR K H ds xs
 | .lst ds,v=>∃ a xs,v=.ref a/\bG K H a xs/\zR K H ds xs
def zR (K:Eh) (H:Hp):List D->List V->Prop
 | [],xs=>xs=[]
 | d :: ds,xs=>∃ x r,xs=x :: r/\ae K H d x/\zR K H ds r
end
def zH  : yw H H:=λ_ _ e=>e
def jr {K:Eh} (e:yw H H') (h:bT K H a xs):bT K H' a xs:=by
 rcases h with (h | ⟨o,h⟩) | h
 .exact .inl (.inl (e _ _ h))
 .exact .inl (.inr ⟨o,e _ _ h⟩)
 .exact .inr h
section
variable {K:Eh} {H H':Hp}
mutual
theorem ae.mono (s:yw H H'):∀ {d:D} {v:V},ae K H d v->ae K H' d v
 | .non,_,h=>by unfold ae at h ⊢; exact h
 | .bl _,_,h=>by unfold ae at h ⊢; exact h
 | .int _,_,h=>by unfold ae at h ⊢; exact h
 | .str _,_,h=>by unfold ae at h ⊢; exact h
 | .tup ds,v,h=>by
  unfold ae at h ⊢
  obtain ⟨a,xs,e,q,l⟩:=h
  exact ⟨a,xs,e,jr s q,zR.mono s l⟩
 | .lst ds,v,h=>by
  unfold ae at h ⊢
  obtain ⟨a,xs,e,q,l⟩:=h
  exact ⟨a,xs,e,s.seq q,zR.mono s l⟩
theorem zR.mono (s:yw H H'):∀ {ds:List D} {xs:List V},zR K H ds xs->zR K H' ds xs
 | [],_,h=>by unfold zR at h ⊢; exact h
 | d :: ds,xs,h=>by
  unfold zR at h ⊢
  obtain ⟨x,r,e,h1,h2⟩:=h
  exact ⟨x,r,e,ae.mono s h1,zR.mono s h2⟩
end
def EW  : ae K H .non v↔v=.non:=by unfold ae; rfl
def Ew   : ae K H (.bl b) v↔v=.bl b:=by unfold ae; rfl
def AC   : ae K H (.int i) v↔v=.int i:=by unfold ae; rfl
def ED   : ae K H (.str x) v↔v=.str x:=by unfold ae; rfl
def Es   : ae K H (.tup ds) v↔∃ a xs,v=.ref a/\bT K H a xs/\zR K H ds xs:=by
 constructor
 .intro h; unfold ae at h; exact h
 .intro h; unfold ae; exact h
def EJ   : ae K H (.lst ds) v↔∃ a xs,v=.ref a/\bG K H a xs/\zR K H ds xs:=by
 constructor
 .intro h; unfold ae at h; exact h
 .intro h; unfold ae; exact h
def zR.nil_iff  : zR K H [] xs↔xs=[]:=by unfold zR; rfl
def Eo    : zR K H (d :: ds) xs↔∃ x r,xs=x :: r/\ae K H d x/\zR K H ds r:=by
 constructor
 .intro h; unfold zR at h; exact h
 .intro h; unfold zR; exact h
def zR.nil:zR K H [] []:=zR.nil_iff.mpr rfl
def zR.cons (h:ae K H d x) (t:zR K H ds xs):zR K H (d :: ds) (x :: xs):=Eo.mpr ⟨x,xs,rfl,h,t⟩
theorem zR.length:∀ {ds:List D} {xs:List V},zR K H ds xs->xs.length=ds.length
 | [],_,h=>by rw [zR.nil_iff] at h; subst h; rfl
 | d :: ds,xs,h=>by
  obtain ⟨x,r,e,_,h2⟩:=Eo.mp h
  subst e
  simp [zR.length h2]
theorem zR.get:∀ {ds:List D} {xs:List V} {i:Nat} {d:D},zR K H ds xs->ds[i]? = some d->∃ v,xs[i]? = some v/\ae K H d v
 | [],_,_,_,_,e=>by simp at e
 | d :: ds,xs,i,d',h,e=>by
  obtain ⟨x,r,c,h1,h2⟩:=Eo.mp h
  subst c
  cases i with
  | zero=>simp at e; subst e; exact ⟨x,rfl,h1⟩
  | succ i =>
   obtain ⟨v,b,a⟩:=zR.get (i:=i) (d:=d') h2 (by simpa using e)
   exact ⟨v,by simpa using b,a⟩
theorem zR.append:∀ {ds es:List D} {xs ys:List V},zR K H ds xs->zR K H es ys->zR K H (ds++es) (xs++ys)
 | [],_,_,_,h,h'=>by rw [zR.nil_iff] at h; subst h; exact h'
 | d :: ds,es,xs,ys,h,h'=>by
  obtain ⟨x,r,e,h1,h2⟩:=Eo.mp h
  subst e
  exact .cons h1 (zR.append h2 h')
theorem zR.drop:∀ {ds:List D} {xs:List V} (n:Nat),zR K H ds xs->zR K H (ds.drop n) (xs.drop n)
 | _,_,0,h=>by simpa using h
 | [],_,n+1,h=>by rw [zR.nil_iff] at h; subst h; simpa using zR.nil
 | d :: ds,xs,n+1,h=>by
  obtain ⟨x,r,e,h1,h2⟩:=Eo.mp h
  subst e
  exact zR.drop n h2
theorem zR.take:∀ {ds:List D} {xs:List V} (n:Nat),zR K H ds xs->zR K H (ds.take n) (xs.take n)
 | _,_,0,h=>by simpa using zR.nil
 | [],_,n+1,h=>by rw [zR.nil_iff] at h; subst h; simpa using zR.nil
 | d :: ds,xs,n+1,h=>by
  obtain ⟨x,r,e,h1,h2⟩:=Eo.mp h
  subst e
  exact .cons h1 (zR.take n h2)
theorem zR.set (a:ae K H d x):∀ {ds:List D} {xs:List V} (i:Nat),zR K H ds xs->zR K H (ds.set i d) (xs.set i x)
 | [],_,_,h=>by rw [zR.nil_iff] at h; subst h; exact zR.nil
 | e :: ds,xs,i,h=>by
  obtain ⟨y,r,e,h1,h2⟩:=Eo.mp h
  subst e
  cases i with
  | zero=>exact .cons a h2
  | succ i=>exact .cons h1 (zR.set a i h2)
def zR.reverse (h:zR K H ds xs):zR K H ds.reverse xs.reverse:=by
 induction ds generalizing xs with
 | nil=>rw [zR.nil_iff] at h; subst h; exact zR.nil
 | cons d ds a =>
  obtain ⟨x,r,e,h1,h2⟩:=Eo.mp h
  subst e
  rw [mn,mn]
  exact (a h2).append (.cons h1 .nil)
theorem zR.ints:∀ (ns:List Int),zR K H (ns.map D.int) (ns.map V.int)
 | []=>.nil
 | n :: ns=>.cons (AC.mpr rfl) (zR.ints ns)
end
def KTy:Nat->Type
 | 0=>Int
 | n+1=>List (KTy n)
def gz:(n:Nat)->KTy n->D
 | 0,i=>.int i
 | n+1,l=>.tup (dI (gz n) l)
def Xc:(n:Nat)->KTy n->Int
 | 0,i=>hashInt i
 | n+1,l=>reduceHash (Ih (dI (Xc n) l))
def ZC (n:Nat) (xs:List (KTy n×Addr)) (a:Addr) (h:Heap):Prop :=
 (a==ID)=false/\∃ o es ep,h.get? a=some o/\o.ExactDict/\o.data=.dict es ep/\(es.toList=xs.map λx=>⟨Xc n x.1,.ref x.2,.bool true⟩)/\(xs.map (·.1)).Nodup/\xs.length<=sizeLine
inductive Slot where
 | no
 | fr (d:D)
 | ol (ds:List D)
 | oT (aJ:List (List Key×D))
 | oX (n:Nat) (ks:List (KTy n))
 deriving Inhabited
def Slot.own:Slot->Bool
 | .ol _=>true
 | .oT _=>true
 | .oX _ _=>true
 | _=>false
abbrev aX:=List Slot
def Ee (K:Eh) (H:Hp) {κ:Type}:List (κ×D)->List (κ×V)->Prop:=Paired λp q=>p.1=q.1/\ae K H p.2 q.2
def Ee.mono {K:Eh} (s:yw H H') {m:List (κ×V)} (h:Ee K H l m):Ee K H' l m:=La h λ_ _ z=>⟨z.1,ae.mono s z.2⟩
def Xk (K:Eh) (H Hf:Hp) (a:Addr):Slot->Prop
 | .ol ds=>∃ xs,H a=some (.lst xs)/\zR K Hf ds xs
 | .oT aJ=>∃ b,H a=some (.dT b)/\Ee K Hf aJ b
 | .oX n ks=>∃ xs:List (KTy n×Addr),H a=some (.ext (ZC n xs a))/\xs.map (·.1)=ks/\∀ x∈xs,ae K Hf (gz n x.1) (.ref x.2)
 | _=>True
def Xk.mono {K:Eh} (h:Xk K H Hf a sl) (k:∀ o,H a=some o->H' a=some o) (s:yw Hf ak):Xk K H' ak a sl:=by
 cases sl with
 | no=>trivial
 | fr d=>trivial
 | ol ds=>obtain ⟨xs,e,q⟩:=h; exact ⟨xs,k _ e,q.mono s⟩
 | oT aJ=>obtain ⟨xs,e,q⟩:=h; exact ⟨xs,k _ e,Ee.mono s q⟩
 | oX n ks=>obtain ⟨xs,e,c,b⟩:=h; exact ⟨xs,k _ e,c,λx f=>(b x f).mono s⟩
def Xk.there {K:Eh} (h:Xk K H Hf a sl) (ow:sl.own=true):∃ o,H a=some o:=by
 cases sl with
 | no=>cases ow
 | fr d=>cases ow
 | ol ds=>obtain ⟨xs,e,q⟩:=h; exact ⟨_,e⟩
 | oT aJ=>obtain ⟨xs,e,q⟩:=h; exact ⟨_,e⟩
 | oX n ks=>obtain ⟨xs,e,q⟩:=h; exact ⟨_,e⟩
def Tp (o:HO):Prop:=∃ ks:List Key,o=.tup (ks.map kV)
structure Rep (K:Eh) (H₀ aa:Hp) (σ:St) (ρ:aX) (H Hf:Hp):Prop where
 s0:yw H₀ H
 sf:yw Hf H
 nf:∀ b o,Hf b=some o->aa b=some o\/H₀ b=none\/Tp o
 f0:yw aa Hf
 len:ρ.length=σ.length
 fr:∀ (i:Nat) (d:D),ρ[i]? = some (.fr d)->∃ v,σ[i]? = some (some v)/\ae K Hf d v
 ow:∀ (i:Nat) (sl:Slot),ρ[i]? = some sl->sl.own=true->∃ a,σ[i]? = some (some (.ref a))/\Xk K H Hf a sl/\Hf a=none/\H₀ a=none
 inj:∀ (i j:Nat) (sl fN:Slot) (a:Addr),ρ[i]? = some sl->sl.own=true->ρ[j]? = some fN->fN.own=true->σ[i]? = some (some (.ref a))->σ[j]? = some (some (.ref a))->i=j
def Xk.notTp {K:Eh} {H Hf H':Hp} (h:Xk K H Hf a sl) (ow:sl.own=true) (k:∀ o,H a=some o->H' a=some o) (z:H' a=some u) (t:Tp u):False:=by
 obtain ⟨ks,rfl⟩:=t
 cases sl with
 | no=>cases ow
 | fr d=>cases ow
 | ol ds=>obtain ⟨xs,e,q⟩:=h; have:=(k _ e).symm.trans z; cases this
 | oT aJ=>obtain ⟨xs,e,q⟩:=h; have:=(k _ e).symm.trans z; cases this
 | oX n ks=>obtain ⟨xs,e,q⟩:=h; have:=(k _ e).symm.trans z; cases this
section
variable {K:Eh} {H₀ aa:Hp} {σ:St} {ρ:aX} {H Hf H' ak:Hp}
def Rep.grow (R:Rep K H₀ aa σ ρ H Hf) (h1:yw H H') (h2:yw Hf ak) (h:yw ak H') (g:∀ b o,ak b=some o->Hf b=some o\/H b=none\/Tp o):Rep K H₀ aa σ ρ H' ak where
 s0:=R.s0.trans h1
 sf:=h
 nf:=λb o e=>by
  rcases g b o e with q | q | q
  .exact R.nf b o q
  .exact .inr (.inl (R.s0.free q))
  .exact .inr (.inr q)
 f0:=R.f0.trans h2
 len:=R.len
 fr:=λi d e=>by
  obtain ⟨v,f,c⟩:=R.fr i d e
  exact ⟨v,f,c.mono h2⟩
 ow:=λi sl e o=>by
  obtain ⟨a,f,c,l,k⟩:=R.ow i sl e o
  refine ⟨a,f,c.mono (λo e=>h1 _ _ e) h2,?_,k⟩
  obtain ⟨m,j⟩:=c.there o
  cases z:ak a with
  | none=>rfl
  | some u =>
   rcases g a u z with y | y | y
   .rw [l] at y; cases y
   .rw [j] at y; cases y
   .exact (c.notTp o (λo=>h1 a o) (h _ _ z) y).elim
 inj:=R.inj
def Rep.lay (R:Rep K H₀ aa σ ρ H Hf) (c:H p=none):Rep K H₀ aa σ ρ (upd H p o) (upd Hf p o):=by
 have d:Hf p=none:=R.sf.free c
 refine R.grow (λb u e=>?_) (λb u e=>?_) (λb u e=>?_) (λb u e=>?_)
 .rw [z6 (yq e c)]; exact e
 .rw [z6 (yq e d)]; exact e
 .by_cases a:b=p
  .subst a; rw [zI] at e ⊢; exact e
  .rw [z6 a] at e ⊢; exact R.sf b u e
 .by_cases a:b=p
  .subst a; exact .inr (.inl c)
  .rw [z6 a] at e; exact .inl e
def Rep.layN (R:Rep K H₀ aa σ ρ H Hf) (a:H p=none):Rep K H₀ aa σ ρ (upd H p o) Hf:=by
 refine R.grow (λb u e=>?_) zH (λb u e=>?_) (λb u e=>.inl e)
 .rw [z6 (yq e a)]; exact e
 .rw [z6 (yq (R.sf b u e) a)]; exact R.sf b u e
def zQ (a:H p=none):yw H (upd H p o):=λb u e=>by rw [z6 (yq e a)]; exact e
def Rep.set (R:Rep K H₀ aa σ ρ H Hf) {d:D} {v:V} (i:Nat) (h:ae K Hf d v):Rep K H₀ aa (σ.set i (some v)) (ρ.set i (.fr d)) H Hf where
 s0:=R.s0
 sf:=R.sf
 nf:=R.nf
 f0:=R.f0
 len:=by simp [R.len]
 fr:=λj d' e=>by
  rw [ff] at e ⊢
  by_cases b:i=j
  .rw [if_pos b] at e ⊢
   split at e
   .cases e
    rename_i g
    rw [R.len] at g
    rw [if_pos g]
    exact ⟨v,rfl,h⟩
   .cases e
  .rw [if_neg b] at e ⊢
   exact R.fr j d' e
 ow:=λj sl e o=>by
  rw [ff] at e ⊢
  by_cases b:i=j
  .rw [if_pos b] at e
   split at e
   .cases e; cases o
   .cases e
  .rw [if_neg b] at e ⊢
   exact R.ow j sl e o
 inj:=λj k sl fN a e o c o' z f=>by
  rw [ff] at e c z f
  by_cases b:i=j
  .rw [if_pos b] at e
   split at e
   .cases e; cases o
   .cases e
  .by_cases l:i=k
   .rw [if_pos l] at c
    split at c
    .cases c; cases o'
    .cases c
   .rw [if_neg b] at e z
    rw [if_neg l] at c f
    exact R.inj j k sl fN a e o c o' z f
def Rep.setOwn (R:Rep K H₀ aa σ ρ H Hf) {sl:Slot} {a:Addr} (i:Nat) (m:sl.own=true) (h:Xk K H Hf a sl) (n:Hf a=none) (p:H₀ a=none)
  (fresh:∀ (j:Nat) (fN:Slot),ρ[j]? = some fN->fN.own=true->σ[j]? ≠ some (some (.ref a))):Rep K H₀ aa (σ.set i (some (.ref a))) (ρ.set i sl) H Hf where
 s0:=R.s0
 sf:=R.sf
 nf:=R.nf
 f0:=R.f0
 len:=by simp [R.len]
 fr:=λj d' e=>by
  rw [ff] at e ⊢
  by_cases d:i=j
  .rw [if_pos d] at e
   split at e
   .cases e; cases m
   .cases e
  .rw [if_neg d] at e ⊢
   exact R.fr j d' e
 ow:=λj fN e o=>by
  rw [ff] at e ⊢
  by_cases d:i=j
  .rw [if_pos d] at e ⊢
   split at e
   .cases e
    rename_i l
    rw [R.len] at l
    rw [if_pos l]
    exact ⟨a,rfl,h,n,p⟩
   .cases e
  .rw [if_neg d] at e ⊢
   exact R.ow j fN e o
 inj:=λj k s1 s2 b e o f o' z c=>by
  rw [ff] at e f z c
  by_cases d:i=j
  .by_cases g:i=k
   .omega
   .rw [if_pos d] at z
    rw [if_neg g] at f c
    split at z
    .cases z
     exact absurd c (fresh k s2 f o')
    .cases z
  .by_cases g:i=k
   .rw [if_pos g] at c
    rw [if_neg d] at e z
    split at c
    .cases c
     exact absurd z (fresh j s1 e o)
    .cases c
   .rw [if_neg d] at e z
    rw [if_neg g] at f c
    exact R.inj j k s1 s2 b e o f o' z c
def Rep.updOwn (R:Rep K H₀ aa σ ρ H Hf) (e:ρ[i]? = some sl) (l:sl.own=true) (m:σ[i]? = some (some (.ref a))) (L:fN.own=true) (h:Xk K (upd H a o) Hf a fN) :
  Rep K H₀ aa σ (ρ.set i fN) (upd H a o) Hf:=by
 obtain ⟨O,r,M,p,n⟩:=R.ow i sl e l
 rw [m] at r; cases r
 have t:i < ρ.length:=(iS.mp e).1
 refine ⟨λb u z=>?_,λb u z=>?_,R.nf,R.f0,by simp [R.len],λj d z=>?_,λj s1 z f=>?_,λj k s1 s2 b z f w g y x=>?_⟩
 .rw [z6 (yq z n)]; exact R.s0 b u z
 .rw [z6 (yq z p)]; exact R.sf b u z
 .rw [ff] at z
  by_cases c:i=j
  .rw [if_pos c,if_pos t] at z
   cases z; cases L
  .rw [if_neg c] at z
   exact R.fr j d z
 .rw [ff] at z
  by_cases c:i=j
  .rw [if_pos c,if_pos t] at z
   cases z
   subst c
   exact ⟨a,m,h,p,n⟩
  .rw [if_neg c] at z
   obtain ⟨b,s,p2,J,I⟩:=R.ow j s1 z f
   refine ⟨b,s,p2.mono (λu q=>?_) zH,J,I⟩
   rw [z6]
   .exact q
   .rintro rfl
    exact c (R.inj i j sl s1 b e l z f m s)
 .have v:∀ (j:Nat) (s1:Slot),(ρ.set i fN)[j]? = some s1->s1.own=true->∃ s2,ρ[j]? = some s2/\s2.own=true:=λj s1 z f=>by
   rw [ff] at z
   by_cases c:i=j
   .subst c; exact ⟨sl,e,l⟩
   .rw [if_neg c] at z; exact ⟨s1,z,f⟩
  obtain ⟨G,E,B⟩:=v j s1 z f
  obtain ⟨F,C,A⟩:=v k s2 w g
  exact R.inj j k G F b E B C A y x
def Rep.freeze (R:Rep K H₀ aa σ ρ H Hf) (e:ρ[i]? = some (.ol ds)):∃ ak,yw Hf ak/\Rep K H₀ aa σ (ρ.set i (.fr (.lst ds))) H ak:=by
 obtain ⟨a,p,⟨xs,A,n⟩,x,w⟩:=R.ow i _ e rfl
 have o:i < ρ.length:=(iS.mp e).1
 have g:yw Hf (upd Hf a (.lst xs)):=zQ x
 refine ⟨upd Hf a (.lst xs),g,R.s0,λb u z=>?_,λb u z=>?_,R.f0.trans g,by simp [R.len],λj d z=>?_,λj s1 z f=>?_,λj k s1 s2 b z f s h y t=>?_⟩
 .by_cases l:b=a
  .subst l; rw [zI] at z; cases z; exact A
  .rw [z6 l] at z; exact R.sf b u z
 .by_cases l:b=a
  .subst l; exact .inr (.inl w)
  .rw [z6 l] at z; exact R.nf b u z
 .rw [ff] at z
  by_cases c:i=j
  .rw [if_pos c,if_pos o] at z
   cases z
   subst c
   exact ⟨_,p,EJ.mpr ⟨a,xs,rfl,bG.of zI,n.mono g⟩⟩
  .rw [if_neg c] at z
   obtain ⟨v,m,p2⟩:=R.fr j d z
   exact ⟨v,m,p2.mono g⟩
 .rw [ff] at z
  by_cases c:i=j
  .rw [if_pos c,if_pos o] at z
   cases z; cases f
  .rw [if_neg c] at z
   obtain ⟨b,m,p2,C,B⟩:=R.ow j s1 z f
   refine ⟨b,m,p2.mono (λu q=>q) g,?_,B⟩
   rw [z6]
   .exact C
   .rintro rfl
    exact c (R.inj i j _ s1 b e rfl z f p m)
 .have r:∀ (j:Nat) (s1:Slot),(ρ.set i (.fr (.lst ds)))[j]? = some s1->s1.own=true->ρ[j]? = some s1:=λj s1 z f=>by
   rw [ff] at z
   by_cases c:i=j
   .rw [if_pos c,if_pos o] at z
    cases z; cases f
   .rw [if_neg c] at z; exact z
  exact R.inj j k s1 s2 b (r j s1 z f) f (r k s2 s h) h y t
end
end FL
namespace FL
open PySem PySem.Spec PyProof.Rows L2
abbrev FE:=aX->Option D
abbrev FT:=aX->Option Bool
abbrev FA:=aX->Option (List D)
inductive Out where
 | nx (ρ:aX)
 | rt (d:D)
 | bk (ρ:aX)
 | ct (ρ:aX)
abbrev FS:=aX->Option Out
def jJ (K:Eh) (Hf:Hp) (σ:St) (ρ:aX) (d:D) (v:V):Prop:=ae K Hf d v\/∃ (i:Nat) (ds:List D),d=.lst ds/\ρ[i]? = some (.ol ds)/\σ[i]? = some (some v)
def jJ.mono {K:Eh} (h:jJ K Hf σ ρ d v) (s:yw Hf ak):jJ K ak σ ρ d v:=h.imp (ae.mono s) id
inductive tF (K:Eh) (f:FE) (σ:St) (H:Hp) (Q:VK):Prop
 |mk (H₀ aa ρ Hf d) (a0:Rep K H₀ aa σ ρ H Hf) (a1:f ρ=some d) (a2:∀ v H' ak,Rep K H₀ aa σ ρ H' ak->yw H H'->yw Hf ak->ae K ak d v->Q v H')
inductive tR (K:Eh) (f:FE) (σ:St) (H:Hp) (Q:VK):Prop
 |mk (H₀ aa ρ Hf d) (a0:Rep K H₀ aa σ ρ H Hf) (a1:f ρ=some d) (a2:∀ v H' ak,Rep K H₀ aa σ ρ H' ak->yw H H'->yw Hf ak->jJ K ak σ ρ d v->Q v H')
inductive tN (K:Eh) (f:FA) (σ:St) (H:Hp) (Q:VK):Prop
 |mk (H₀ aa ρ Hf ds) (a0:Rep K H₀ aa σ ρ H Hf) (a1:f ρ=some ds) (a2:∀ a xs H' ak,Rep K H₀ aa σ ρ H' ak->yw H H'->yw Hf ak->zR K ak ds xs->H' a=some (.lst xs)->ak a=none->H a=none->Q (.ref a) H')
inductive tT (K:Eh) (f:FT) (σ:St) (H:Hp) (Q:Bool->Hp->Prop):Prop
 |mk (H₀ aa ρ Hf b) (a0:Rep K H₀ aa σ ρ H Hf) (a1:f ρ=some b) (a2:∀ H' ak,Rep K H₀ aa σ ρ H' ak->yw H H'->yw Hf ak->Q b H')
inductive tAF (K:Eh) (f:FA) (σ:St) (H:Hp) (Q:List V->Hp->Prop):Prop
 |mk (H₀ aa ρ Hf ds) (a0:Rep K H₀ aa σ ρ H Hf) (a1:f ρ=some ds) (a2:∀ vs H' ak,Rep K H₀ aa σ ρ H' ak->yw H H'->yw Hf ak->zR K ak ds vs->Q vs H')
def jI (K:Eh) (Hf:Hp) (σ:St) (ρ:aX):List D->List V->Prop:=Paired (jJ K Hf σ ρ)
inductive tAR (K:Eh) (f:FA) (σ:St) (H:Hp) (Q:List V->Hp->Prop):Prop
 |mk (H₀ aa ρ Hf ds) (a0:Rep K H₀ aa σ ρ H Hf) (a1:f ρ=some ds) (a2:∀ vs H' ak,Rep K H₀ aa σ ρ H' ak->yw H H'->yw Hf ak->jI K ak σ ρ ds vs->Q vs H')
def RP (K:Eh) (H₀ aa Hf:Hp) (D':Ends):Out->Prop
 | .nx aO=>∀ aL H' ak,Rep K H₀ aa aL aO H' ak->yw Hf ak->D'.nx aL H'
 | .bk aO=>∀ aL H' ak,Rep K H₀ aa aL aO H' ak->yw Hf ak->D'.bk aL H'
 | .ct aO=>∀ aL H' ak,Rep K H₀ aa aL aO H' ak->yw Hf ak->D'.ct aL H'
 | .rt d=>∀ v aL aO H' ak,Rep K H₀ aa aL aO H' ak->yw Hf ak->ae K ak d v->D'.rt v H'
inductive tS (K:Eh) (F:FS) (D':Ends) (σ:St) (H:Hp):Prop
 |mk (H₀ aa ρ Hf o) (a0:Rep K H₀ aa σ ρ H Hf) (a1:F ρ=some o) (a2:RP K H₀ aa Hf D' o)
def DE (X:Cx) (e:Expr) (f:FE):Prop:=PE X e (tF X.K f)
def DR (X:Cx) (e:Expr) (f:FE):Prop:=PE X e (tR X.K f)
def DN (X:Cx) (e:Expr) (f:FA):Prop:=PE X e (tN X.K f)
def DT (X:Cx) (e:Expr) (f:FT):Prop:=PT X e (tT X.K f)
def DW (X:Cx) (e:Expr) (f:FT):Prop:=PW X e (tT X.K f)
def DA (X:Cx) (es:List Expr) (f:FA):Prop:=PA X es (tAF X.K f)
def iG (X:Cx) (es:List Expr) (f:FA):Prop:=PA X es (tAR X.K f)
def DS (X:Cx) (st:Stmt) (F:FS):Prop:=PS X st (tS X.K F)
def iV (X:Cx) (iJ:List Stmt) (F:FS):Prop:=f6 X iJ (tS X.K F)
section
variable {X:Cx} {e a b c:Expr} {es:List Expr} {f g h:FE} {fa ga:FA} {ft gt:FT} {pos:Pos} {t t':TE}
def yz (h:PE X e t) (i:∀ σ H Q,t' σ H Q->t σ H Q):PE X e t':=λpins s σ H Q I d=>h pins s σ H Q I (i _ _ _ d)
def VI {t t':TT} (h:PT X e t) (i:∀ σ H Q,t' σ H Q->t σ H Q):PT X e t':=λpins s σ H Q I d=>h pins s σ H Q I (i _ _ _ d)
def Mg {t t':TT} (h:PW X e t) (i:∀ σ H Q,t' σ H Q->t σ H Q):PW X e t':=λd pins s σ H Q I j=>h d pins s σ H Q I (i _ _ _ j)
def Js {t t':TA} (h:PA X es t) (i:∀ σ H Q,t' σ H Q->t σ H Q):PA X es t':=λp pins s σ H Q I d=>h p pins s σ H Q I (i _ _ _ d)
def vc {st:Stmt} {t t':TS} (h:PS X st t) (i:∀ D σ H,t' D σ H->t D σ H):PS X st t':=λpins s σ H D I d=>h pins s σ H D I (i _ _ _ d)
def kS  {t t':TS} (h:f6 X iJ t) (i:∀ D σ H,t' D σ H->t D σ H):f6 X iJ t':=λpins s σ H D I d=>h pins s σ H D I (i _ _ _ d)
def tz (j:DE X e f):DR X e f:=yz j λσ H Q ⟨H₀,aa,ρ,Hf,d,R,q,k⟩=>⟨H₀,aa,ρ,Hf,d,R,q,λv H' ak R' s1 s2 i=>k v H' ak R' s1 s2 (.inl i)⟩
def zk (fa:FA):FE:=λρ=>(fa ρ).map D.lst
def En (A:DN X e fa):DE X e (zk fa):=yz A λσ H Q ⟨H₀,aa,ρ,Hf,d,R,q,k⟩=>by
 unfold zk at q
 cases n:fa ρ with
 | none=>rw [n] at q; cases q
 | some ds =>
  rw [n] at q; cases q
  refine ⟨H₀,aa,ρ,Hf,ds,R,n,λa xs H' ak R' s1 s2 y B x hh=>?_⟩
  have j:yw ak (upd ak a (.lst xs)):=zQ x
  have C:H₀ a=none:=R.s0.free hh
  refine k (.ref a) H' (upd ak a (.lst xs)) ?_ s1 (s2.trans j) (EJ.mpr ⟨a,xs,rfl,bG.of zI,y.mono j⟩)
  refine ⟨R'.s0,λb u z=>?_,λb u z=>?_,R'.f0.trans j,R'.len,λi d z=>?_,λi sl z o=>?_,R'.inj⟩
  .by_cases l:b=a
   .subst l; rw [zI] at z; cases z; exact B
   .rw [z6 l] at z; exact R'.sf b u z
  .by_cases l:b=a
   .subst l; exact .inr (.inl C)
   .rw [z6 l] at z; exact R'.nf b u z
  .obtain ⟨v,m,p2⟩:=R'.fr i d z
   exact ⟨v,m,p2.mono j⟩
  .obtain ⟨b,m,p2,F,E⟩:=R.ow i sl z o
   obtain ⟨G,p,s,r3,r⟩:=R'.ow i sl z o
   rw [m] at p; cases p
   refine ⟨b,m,s.mono (λu q=>q) j,?_,r⟩
   rw [z6]
   .exact r3
   .rintro rfl
    obtain ⟨o',w⟩:=p2.there o
    rw [w] at hh; cases hh
def vF (i:Nat):FE:=λρ=>match ρ[i]? with
 | some (.fr d)=>some d
 | _=>none
def vR (i:Nat):FE:=λρ=>match ρ[i]? with
 | some (.fr d)=>some d
 | some (.ol ds)=>some (.lst ds)
 | _=>none
def dv (i) (m:X.N[i]? = some x:=by rfl) (l:iE X.env.scope x:=by first | exact Im rfl | exact E2 (Im rfl) | exact E2 (E2 rfl)) (hd:(x==("__debug__":Str))=false:=by decide)
  (j:(x==("__classdict__":Str))=false:=by decide):DE X (.Name x pos) (vF i) :=
 yz (j9 m l hd j) λσ H Q ⟨H₀,aa,ρ,Hf,d,R,q,k⟩=>by
  unfold vF at q
  split at q
  .cases q
   rename_i e
   obtain ⟨v,e1,e2⟩:=R.fr i d e
   exact ⟨v,e1,k v H Hf R zH zH e2⟩
  .cases q
def dw (i:Nat) (k:X.N[i]? = some x:=by rfl) (j:iE X.env.scope x:=by first | exact Im rfl | exact E2 (Im rfl) | exact E2 (E2 rfl)) (hd:(x==("__debug__":Str))=false:=by decide)
  (d:(x==("__classdict__":Str))=false:=by decide):DR X (.Name x pos) (vF i):=tz (dv i k j hd d)
def eV (i) (m:X.N[i]? = some x:=by rfl) (l:iE X.env.scope x:=by first | exact Im rfl | exact E2 (Im rfl) | exact E2 (E2 rfl)) (hd:(x==("__debug__":Str))=false:=by decide)
  (j:(x==("__classdict__":Str))=false:=by decide):DR X (.Name x pos) (vR i) :=
 yz (j9 m l hd j) λσ H Q ⟨H₀,aa,ρ,Hf,d,R,q,k⟩=>by
  unfold vR at q
  split at q
  .cases q
   rename_i e
   obtain ⟨v,e1,e2⟩:=R.fr i d e
   exact ⟨v,e1,k v H Hf R zH zH (.inl e2)⟩
  .cases q
   rename_i ds e
   obtain ⟨a,e1,e2,_⟩:=R.ow i _ e rfl
   exact ⟨.ref a,e1,k _ H Hf R zH zH (.inr ⟨i,ds,rfl,e,e1⟩)⟩
  .cases q
def cF (d:D):FE:=λ_=>some d
def zZ  {j pos}:DE X (.Constant (.int i) j pos) (cF (.int i)):=yz SK λσ H Q ⟨H₀,aa,ρ,Hf,d,R,q,k⟩=>by cases q; exact k _ _ _ R zH zH (AC.mpr rfl)
def ax {j pos}:DR X (.Constant (.int i) j pos) (cF (.int i)):=tz zZ
def bE (h1:sc.kind=.function:=by rfl) (h2:sc.isCoroutine=false:=by rfl) (j:sc.isGenerator=false:=by rfl) (i:N.take P.length=P:=by rfl)
  (d:N.Nodup/\(∀ x∈P,sc.names.lookup x=some .local\/sc.names.lookup x=some .cell)/\∀ y∈sc.names,y.2≠.free:=by decide +kernel):FnScope N P sc:=⟨h1,h2,j,d.1,i,d.2.1,d.2.2⟩
def B1  {j pos}:DE X (.Constant (.bool i) j pos) (cF (.bl i)):=yz NQ λσ H Q ⟨H₀,aa,ρ,Hf,d,R,q,k⟩=>by cases q; exact k _ _ _ R zH zH (Ew.mpr rfl)
def Uq {j pos}:DE X (.Constant .none j pos) (cF .non):=yz SI λσ H Q ⟨H₀,aa,ρ,Hf,d,R,q,k⟩=>by cases q; exact k _ _ _ R zH zH (EW.mpr rfl)
def jg  {j pos}:DE X (.Constant (.str x) j pos) (cF (.str x)):=yz Mq λσ H Q ⟨H₀,aa,ρ,Hf,d,R,q,k⟩=>by cases q; exact k _ _ _ R zH zH (ED.mpr rfl)
def C3:D->Option V
 | .non=>some .non
 | .bl b=>some (.bl b)
 | .int i=>some (.int i)
 | .str x=>some (.str x)
 | _=>none
def MN (hg:Gl X x) (j:X.mg x=some u) (i:C3 d=some v) (r:xv v u) (hd:(x==("__debug__":Str))=false:=by decide):DE X (.Name x pos) (cF d) :=
 yz (kW hg j r hd) λσ H Q ⟨H₀,aa,ρ,Hf,d',R,q,k⟩=>by
  cases q
  refine k _ _ _ R zH zH ?_
  cases d <;> cases i
  .exact EW.mpr rfl
  .exact Ew.mpr rfl
  .exact AC.mpr rfl
  .exact ED.mpr rfl
def ze (φ:D->D->Option D) (f g:FE):FE:=λρ=>(f ρ).bind λx=>(g ρ).bind λy=>φ x y
def eW (X:Cx) (r:R2) (φ:D->D->Option D):Prop :=
 ∀ (σ:St) (ρ:aX) (H₀ aa H Hf:Hp) (x y:V) (dx i d:D) (Q:VK),Rep X.K H₀ aa σ ρ H Hf->jJ X.K Hf σ ρ dx x->jJ X.K Hf σ ρ i y->φ dx i=some d →
  (∀ v H' ak,Rep X.K H₀ aa σ ρ H' ak->yw H H'->yw Hf ak->ae X.K ak d v->Q v H')->r x y H Q
def Jb (w:eW X r φ) (σ:St) (H:Hp) (Q:VK) (hh:tF X.K (ze φ f g) σ H Q):sO r (tR X.K f) (tR X.K g) σ H Q:=by
 obtain ⟨H₀,aa,ρ,Hf,d,R,q,k⟩:=hh
 unfold ze at q
 cases hf:f ρ with
 | none=>rw [hf] at q; cases q
 | some dx =>
  cases hg:g ρ with
  | none=>rw [hf,hg] at q; cases q
  | some j =>
   rw [hf,hg] at q
   refine ⟨H₀,aa,ρ,Hf,dx,R,hf,λv H1 x z s1 n h1=>⟨H₀,aa,ρ,x,j,z,hg,λu H2 a9 R2 s2 i h2=>?_⟩⟩
   exact w σ ρ H₀ aa H2 a9 v u dx j d Q R2 (h1.mono i) h2 q λl A p y o m s=>k l A p y ((s1.trans s2).trans o) ((n.trans i).trans m) s
def RM (d:cA X (Iw op) r) (k:eW X r φ) (j:DR X a f) (i:DR X b g):DE X (.BinOp a op b pos) (ze φ f g) :=
 yz (NL d j i) (Jb k)
def B0 (d:cA X (G_ op) r) (l:eW X r φ) (k:DR X a f) (j:DR X b g) (i:EU op b=false):DE X (.Compare a [op] [b] pos) (ze φ f g) :=
 yz (NM d k j i) (Jb l)
def zc8 (i:mw X r) (l:eW X r φ) (k:DR X a f) (j:DR X b g) (d:QW b):DE X (.Subscript a b pos) (ze φ f g) :=
 yz (zcj i k j d) (Jb l)
section
variable {K:Eh} {H₀ aa:Hp} {σ:St} {ρ:aX} {H Hf:Hp} {v:V}
def jJ.int (h:jJ K Hf σ ρ (.int i) v):v=.int i:=by
 rcases h with h | ⟨_,_,e,_⟩
 .exact AC.mp h
 .cases e
def jJ.bl (h:jJ K Hf σ ρ (.bl i) v):v=.bl i:=by
 rcases h with h | ⟨_,_,e,_⟩
 .exact Ew.mp h
 .cases e
def jJ.str (h:jJ K Hf σ ρ (.str i) v):v=.str i:=by
 rcases h with h | ⟨_,_,e,_⟩
 .exact ED.mp h
 .cases e
def jJ.non (h:jJ K Hf σ ρ .non v):v=.non:=by
 rcases h with h | ⟨_,_,e,_⟩
 .exact EW.mp h
 .cases e
def jJ.tup (h:jJ K Hf σ ρ (.tup ds) v) (R:Rep K H₀ aa σ ρ H Hf):∃ a xs,v=.ref a/\bT K H a xs/\zR K Hf ds xs:=by
 rcases h with h | ⟨_,_,e,_⟩
 .obtain ⟨a,xs,e,q,l⟩:=Es.mp h
  exact ⟨a,xs,e,jr R.sf q,l⟩
 .cases e
def jJ.lst (h:jJ K Hf σ ρ (.lst ds) v) (R:Rep K H₀ aa σ ρ H Hf):∃ a xs,v=.ref a/\bG K H a xs/\zR K Hf ds xs:=by
 rcases h with h | ⟨i,k,e,e1,e2⟩
 .obtain ⟨a,xs,e,q,l⟩:=EJ.mp h
  exact ⟨a,xs,e,R.sf.seq q,l⟩
 .cases e
  obtain ⟨a,d,⟨xs,p2,j⟩,_⟩:=R.ow i _ e1 rfl
  rw [e2] at d; cases d
  exact ⟨a,xs,rfl,bG.of p2,j⟩
end
def lh (φ:Int->Int->Option D):D->D->Option D
 | .int i,.int j=>φ i j
 | _,_=>none
def JR (h:lh φ x y=some d):∃ i j,x=.int i/\y=.int j/\φ i j=some d:=by
 cases x <;> cases y <;> first | cases h | exact ⟨_,_,rfl,rfl,h⟩
def JS {K:Eh} (h:C3 d=some v):ae K H d v:=by
 cases d <;> cases h
 .exact EW.mpr rfl
 .exact Ew.mpr rfl
 .exact AC.mpr rfl
 .exact ED.mpr rfl
def Jw (h:∀ i j d,φ i j=some d->C i j/\C3 d=some (n i j)):eW X (rI C n) (lh φ):=by
 intro σ ρ H₀ aa H Hf x y dx p d Q R m l o k
 obtain ⟨i,j,rfl,rfl,hd⟩:=JR o
 obtain ⟨c,s⟩:=h i j d hd
 exact ⟨i,j,m.int,l.int,c,k _ _ _ R zH zH (JS s)⟩
def Wy (h:∀ i j d,φ i j=some d->C3 d=some (n i j)):eW X (ip n) (lh φ):=by
 intro σ ρ H₀ aa H Hf x y dx p d Q R m l o k
 obtain ⟨i,j,rfl,rfl,hd⟩:=JR o
 exact ⟨i,j,m.int,l.int,k _ _ _ R zH zH (JS (h i j d hd))⟩
end
def big:Nat:=2 ^ 8000
def W8 (h:i.natAbs < big):Builtin.Int.intBits i<=8001:=by
 unfold Builtin.Int.intBits
 split
 .exact dJ _
 .have:i.natAbs.log2 < 8000:=by
   rcases Nat.eq_zero_or_pos i.natAbs with h0 | a
   .rw [h0]; decide
   .exact (Nat.log2_lt (Nat.ne_of_gt a)).mpr h
  omega
def QY (i j:Int):Prop:=i.natAbs < 2 ^ 64\/j.natAbs < 2 ^ 64\/(i.natAbs < big/\j.natAbs < big)
instance (i j:Int):Decidable (QY i j):=by unfold QY; exact inferInstance
def QY.ok (h:QY i j):IntMulOk i j:=by
 rcases h with h | h | ⟨h1,h2⟩
 .exact .of_left (intBits_le_64 (by omega) (by omega))
 .exact .of_right (intBits_le_64 (by omega) (by omega))
 .exact IntMulOk.of_le (W8 h1) (W8 h2) (by decide)
def RQ (j:Int):Prop:=0 < j/\j < 2 ^ 64
instance (j:Int):Decidable (RQ j):=by unfold RQ; exact inferInstance
def RB (i j:Int):Prop:=0<=j/\j<=1000/\i.natAbs < big
instance (i j:Int):Decidable (RB i j):=by unfold RB; exact inferInstance
section
variable {X:Cx} {e a b c:Expr} {es:List Expr} {f g h:FE} {fa ga:FA} {ft gt:FT} {pos:Pos} {t t':TE}
def NX:cA X (Iw .Mult) (rI QY λi j=>.int (i * j)):=opI λ_ _ _ _ _ _ _ d q=>mul_int q d.ok
def Dx:cA X (Iw .FloorDiv) (rI (λ_ j=>RQ j) λi j=>.int (i / j)):=opI λi j _ _ _ _ _ d q=>by
 have h1:(0:Int) < j:=d.1
 have h2:j < 2 ^ 64:=d.2
 refine floordiv_int (by omega) (by rw [Int.fdiv_eq_ediv_of_nonneg i (by omega)]; exact q) (.inl (PyProof.noPylong_of_log2 ?_))
 have k:j.natAbs < 2 ^ 64:=by omega
 have:j.natAbs.log2 < 64:=(Nat.log2_lt (by omega)).mpr k
 omega
def NU:cA X (Iw .Pow) (rI RB λi j=>.int (i ^ j.toNat)):=opI λi j _ _ _ _ _ d q=>by
 obtain ⟨h1,h2,k⟩:=d
 refine pow_int h1 ?_ q
 have l:=W8 k
 have:(Builtin.Int.intBits i:Int) * j<=8001 * 1000:=Int.mul_le_mul (by omega) h2 h1 (by decide)
 exact Int.le_trans this (by decide)
def JD:D->D->Option D:=lh λi j=>if QY i j then some (.int (i * j)) else none
def vp:D->D->Option D:=lh λi j=>some (.int (i - j))
def Zr:D->D->Option D:=lh λi j=>if 0 < j then some (.int (i % j)) else none
def qe:D->D->Option D:=lh λi j=>if RQ j then some (.int (i / j)) else none
def za7:D->D->Option D:=lh λi j=>if RB i j then some (.int (i ^ j.toNat)) else none
def N2:eW X (rI QY λi j=>.int (i * j)) JD:=Jw λi j d q=>by
 split at q
 .cases q; exact ⟨by assumption,rfl⟩
 .cases q
def N0:eW X (ip λi j=>.int (i - j)) vp:=Wy λi j d q=>by cases q; rfl
def N3:eW X (rI (λ_ j=>0 < j) λi j=>.int (i % j)) Zr:=Jw λi j d q=>by
 split at q
 .cases q; exact ⟨by assumption,rfl⟩
 .cases q
def DB:eW X (rI (λ_ j=>RQ j) λi j=>.int (i / j)) qe:=Jw λi j d q=>by
 split at q
 .cases q; exact ⟨by assumption,rfl⟩
 .cases q
def N1:eW X (rI RB λi j=>.int (i ^ j.toNat)) za7:=Jw λi j d q=>by
 split at q
 .cases q; exact ⟨by assumption,rfl⟩
 .cases q
def wX (i:DR X a f) (d:DR X b g):DE X (.BinOp a .Sub b pos) (ze vp f g):=RM SN N0 i d
def qH (i:DR X a f) (d:DR X b g):DE X (.BinOp a .Mult b pos) (ze JD f g):=RM NX N2 i d
def uu (i:DR X a f) (d:DR X b g):DE X (.BinOp a .Mod b pos) (ze Zr f g):=RM SQ N3 i d
def kr (i:DR X a f) (d:DR X b g):DE X (.BinOp a .FloorDiv b pos) (ze qe f g):=RM Dx DB i d
def zae (i:DR X a f) (d:DR X b g):DE X (.BinOp a .Pow b pos) (ze za7 f g):=RM NU N1 i d
def UL (φ:D->Option D) (f:FE):FE:=λρ=>(f ρ).bind φ
def za9:D->Option D
 | .int i=>some (.int (-i))
 | _=>none
def QO (j:DR X a f):DE X (.UnaryOp .USub a pos) (UL za9 f) :=
 yz (zch RU j) λσ H Q ⟨H₀,aa,ρ,Hf,d,R,q,k⟩=>by
  unfold UL at q
  cases hf:f ρ with
  | none=>rw [hf] at q; cases q
  | some x =>
   rw [hf] at q
   cases x <;> try cases q
   exact ⟨H₀,aa,ρ,Hf,_,R,hf,λv H1 m l s1 i h1=>⟨_,h1.int,k _ _ _ l s1 i (AC.mpr rfl)⟩⟩
def Ab:D->D->Option D:=lh λi j=>some (.bl (decide (i < j)))
def eU:D->D->Option D:=lh λi j=>some (.bl (decide (j < i)))
def o_:D->D->Option D:=lh λi j=>some (.bl (decide (j<=i)))
def SW:eW X (ip λi j=>.bl (decide (i < j))) Ab:=Wy λi j d q=>by cases q; rfl
def Mt:eW X (ip λi j=>.bl (decide (j < i))) eU:=Wy λi j d q=>by cases q; rfl
def SY:eW X (ip λi j=>.bl (decide (j<=i))) o_:=Wy λi j d q=>by cases q; rfl
def ze9 (i:DR X a f) (d:DR X b g):DE X (.Compare a [.Gt] [b] pos) (ze eU f g):=B0 SR Mt i d (qv _)
def iM (neg:Bool):D->D->Option D:=λx y=>match y with
 | .non=>match x with
  | .non=>some (.bl (!neg))
  | _=>some (.bl neg)
 | _=>none
def Fp {K:Eh} (h:jJ K Hf σ ρ x v) (R:∃ H₀ aa H,Rep K H₀ aa σ ρ H Hf):decide (v=V.non)=(match x with | .non=>true | _=>false):=by
 obtain ⟨H₀,aa,H,R⟩:=R
 cases x with
 | non=>cases h.non; rfl
 | bl b=>cases h.bl; rfl
 | int b=>cases h.int; rfl
 | str b=>cases h.str; rfl
 | tup ds=>obtain ⟨a,xs,rfl,_⟩:=h.tup R; rfl
 | lst ds=>obtain ⟨a,xs,rfl,_⟩:=h.lst R; rfl
def VS:eW X (λx y H Q=>y=.non/\Q (.bl (!decide (x=.non))) H) (iM true):=by
 intro σ ρ H₀ aa H Hf x y dx m d Q R l j i k
 cases m <;> try cases i
 have e:=Fp l ⟨_,_,_,R⟩
 refine ⟨j.non,?_⟩
 rw [e]
 cases dx <;> cases i <;> exact k _ _ _ R zH zH (Ew.mpr rfl)
def Ri (i:DR X a f) (d:DR X b g):DE X (.Compare a [.IsNot] [b] pos) (ze (iM true) f g):=B0 Hq VS i d (qv _)
def aE:D->D->Option D
 | .tup ds,.int i=>atI ds i
 | .lst ds,.int i=>atI ds i
 | .str z,.int i=>if z.length<=sizeLine then (atI z.cps.toList i).map λc=>.str ⟨#[c]⟩ else none
 | _,_=>none
def zR.atI {K:Eh} (h:zR K H ds xs) (e:L2.atI ds i=some d):∃ v,L2.atI xs i=some v/\ae K H d v:=by
 unfold L2.atI at e ⊢
 rw [h.length]
 cases k:fO ds.length i with
 | none=>rw [k] at e; cases e
 | some j =>
  rw [k] at e
  exact h.get e
set_option tactic.hygienic true in
def SX:eW X (rIx X.K) aE:=by
 intro σ ρ H₀ aa H Hf x y dx p d Q R o n j k
 unfold aE at j
 split at j
 .obtain ⟨a,xs,rfl,l,m⟩:=o.tup R
  obtain ⟨v,e1,e2⟩:=m.atI j
  exact .inr (.inl ⟨a,xs,_,v,rfl,n.int,l,e1,k _ _ _ R zH zH e2⟩)
 .obtain ⟨a,xs,rfl,l,m⟩:=o.lst R
  obtain ⟨v,e1,e2⟩:=m.atI j
  exact .inl ⟨a,xs,_,v,rfl,n.int,l,e1,k _ _ _ R zH zH e2⟩
 .split at j
  .rename_i z i hz
   cases e:atI z.cps.toList i with
   | none=>rw [e] at j; cases j
   | some c =>
    rw [e] at j
    cases j
    exact .inr (.inr ⟨z,i,c,o.str,n.int,hz,e,k _ _ _ R zH zH (ED.mpr rfl)⟩)
  .cases j
 .cases j
def xy (j:DR X a f) (i:DR X b g) (d:QW b:=by intro _ _; rfl):DE X (.Subscript a b pos) (ze aE f g):=zc8 TR SX j i d
def zq:FA:=λ_=>some []
def zb (f:FE) (g:FA):FA:=λρ=>(f ρ).bind λx=>(g ρ).bind λxs=>some (x :: xs)
def Zc  {g:FA} (h:zb f g ρ=some l):∃ x xs,f ρ=some x/\g ρ=some xs/\l=x :: xs:=by
 unfold zb at h
 cases hf:f ρ with
 | none=>rw [hf] at h; cases h
 | some x =>
  cases hg:g ρ with
  | none=>rw [hf,hg] at h; cases h
  | some xs=>rw [hf,hg] at h; cases h; exact ⟨x,xs,rfl,rfl,rfl⟩
def zd:DA X [] zq:=Js vw λσ H Q ⟨H₀,aa,ρ,Hf,d,R,q,k⟩=>by cases q; exact k _ _ _ R zH zH .nil
def za (n:DE X e f) (m:DA X es fa) (l:Ei (e :: es) X.env=(false,eval e X.env) :: Ei es X.env:=by rfl):DA X (e :: es) (zb f fa) :=
 Js (xi n m l) λσ H Q ⟨H₀,aa,ρ,Hf,d,R,q,k⟩=>by
  obtain ⟨x,xs,e1,e2,rfl⟩:=Zc q
  exact ⟨H₀,aa,ρ,Hf,x,R,e1,λv H1 o p s1 j h1=>⟨H₀,aa,ρ,o,xs,p,e2,λvs H2 a9 R2 s2 i h2=>k _ _ _ R2 (s1.trans s2) (j.trans i) (.cons (h1.mono i) h2)⟩⟩
def zA:iG X [] zq:=Js vw λσ H Q ⟨H₀,aa,ρ,Hf,d,R,q,k⟩=>by cases q; exact k _ _ _ R zH zH .nil
def zp (n:DR X e f) (m:iG X es fa) (l:Ei (e :: es) X.env=(false,eval e X.env) :: Ei es X.env:=by rfl):iG X (e :: es) (zb f fa) :=
 Js (xi n m l) λσ H Q ⟨H₀,aa,ρ,Hf,d,R,q,k⟩=>by
  obtain ⟨x,xs,e1,e2,rfl⟩:=Zc q
  exact ⟨H₀,aa,ρ,Hf,x,R,e1,λv H1 o p s1 j h1=>⟨H₀,aa,ρ,o,xs,p,e2,λvs H2 a9 R2 s2 i h2=>k _ _ _ R2 (s1.trans s2) (j.trans i) (.cons (h1.mono i) h2)⟩⟩
def tupF (g:FA):FE:=λρ=>(g ρ).bind λxs=>if xs.length<=sizeLine then some (.tup xs) else none
def yF {m} (h:DA X es fa):DE X (.Tuple es m pos) (tupF fa) :=
 yz (SG h) λσ H Q ⟨H₀,aa,ρ,Hf,d,R,q,k⟩=>by
  unfold tupF at q
  cases hg:fa ρ with
  | none=>rw [hg] at q; cases q
  | some xs =>
   rw [hg] at q
   simp only [af] at q
   split at q
   .cases q
    rename_i r
    refine ⟨H₀,aa,ρ,Hf,xs,R,hg,λvs H1 s l s1 n h1=>⟨by rw [h1.length]; exact r,λp i=>?_⟩⟩
    have j:=zQ (o:=.tup vs) (l.sf.free i)
    exact k _ _ _ (l.lay i) (s1.trans (zQ i)) (n.trans j) (Es.mpr ⟨p,vs,rfl,bT.of zI,h1.mono j⟩)
   .cases q
def ym (g:FA):FA:=λρ=>(g ρ).bind λxs=>if xs.length<=sizeLine then some xs else none
def zF (h:DA X es fa):DN X (.List es pos) (ym fa) :=
 yz (SJ h) λσ H Q ⟨H₀,aa,ρ,Hf,d,R,q,k⟩=>by
  unfold ym at q
  cases hg:fa ρ with
  | none=>rw [hg] at q; cases q
  | some xs =>
   rw [hg] at q
   simp only [af] at q
   split at q
   .cases q
    rename_i m
    refine ⟨H₀,aa,ρ,Hf,_,R,hg,λvs H1 n j s1 l h1=>⟨by rw [h1.length]; exact m,λp i=>?_⟩⟩
    exact k _ _ _ _ (j.layN i) (s1.trans (zQ i)) l h1 zI (j.sf.free i) (s1.free i)
   .cases q
def aU (f:FE):FT:=λρ=>(f ρ).bind fun | .bl b=>some b | _=>none
def Km   {b:Bool} (h:aU f ρ=some b):f ρ=some (.bl b):=by
 unfold aU at h
 cases hf:f ρ with
 | none=>rw [hf] at h; cases h
 | some x=>rw [hf] at h; cases x <;> cases h; rfl
def qE (h:DR X e f) (l:∀ i,isTrue e X.env i=(do let v ← i; standAt e.pos; holding [v] (truthy v)):=by intro _; rfl):DT X e (aU f) :=
 VI (Sy h l) λσ H Q ⟨H₀,aa,ρ,Hf,d,R,q,k⟩=>⟨H₀,aa,ρ,Hf,_,R,Km q,λv H1 n m s1 j h1=>⟨d,h1.bl,k _ _ m s1 j⟩⟩
def xO (j:cA X (G_ op) r) (o:eW X r φ) (n:DR X a f) (m:DR X b g) (l:EU op b=false):DT X (.Compare a [op] [b] pos) (aU (ze φ f g)) :=
 VI (NA j n m l) λσ H Q ⟨H₀,aa,ρ,Hf,d,R,q,k⟩=>Jb o σ H _ ⟨H₀,aa,ρ,Hf,_,R,Km q,λv H1 s p s1 i h1=>⟨d,Ew.mp h1,k _ _ p s1 i⟩⟩
def FC (i:DR X a f) (d:DR X b g):DT X (.Compare a [.Lt] [b] pos) (aU (ze Ab f g)):=xO zcm SW i d (qv _)
def Za (i:DR X a f) (d:DR X b g):DT X (.Compare a [.Gt] [b] pos) (aU (ze eU f g)):=xO SR Mt i d (qv _)
def FD (i:DR X a f) (d:DR X b g):DT X (.Compare a [.GtE] [b] pos) (aU (ze o_ f g)):=xO zcn SY i d (qv _)
def ZK (i:DR X a f) (d:DR X b g):DT X (.Compare a [.IsNot] [b] pos) (aU (ze (iM true) f g)):=xO Hq VS i d (qv _)
def UY (f g:FT):FT:=λρ=>(f ρ).bind λb=>if b=true then g ρ else some false
def orT (f g:FT):FT:=λρ=>(f ρ).bind λb=>if b=true then some true else g ρ
def RF (f:FT):FT:=λρ=>(f ρ).bind λb=>some (!b)
variable {rest:List Expr}
def vI  {f:aX->Option Bool} {r:α} (h:(f ρ).bind k=some r):∃ b,f ρ=some b/\k b=some r:=by
 cases hf:f ρ with
 | none=>rw [hf] at h; cases h
 | some x=>rw [hf] at h; exact ⟨x,rfl,h⟩
def uR (d:DT X a ft):DW X (.BoolOp .And [a] pos) ft:=Ny d
def J7 (d:DT X a ft):DW X (.BoolOp .Or [a] pos) ft:=Sw d
def ko (n:DT X a ft) (m:DW X (.BoolOp .And (b :: rest) pos) gt):DW X (.BoolOp .And (a :: b :: rest) pos) (UY ft gt) :=
 Mg (Sx n m) λσ H Q ⟨H₀,aa,ρ,Hf,d,R,q,k⟩=>by
  obtain ⟨b,e1,e2⟩:=vI q
  refine ⟨H₀,aa,ρ,Hf,b,R,e1,λH1 o j s1 i=>?_⟩
  cases b with
  | true=>exact MB ⟨H₀,aa,ρ,o,d,j,e2,λH2 a9 R2 s2 l=>k _ _ R2 (s1.trans s2) (i.trans l)⟩
  | false=>cases e2; exact MC (k _ _ j s1 i)
def BJ (n:DT X a ft) (m:DW X (.BoolOp .Or (b :: rest) pos) gt):DW X (.BoolOp .Or (a :: b :: rest) pos) (orT ft gt) :=
 Mg (zcf n m) λσ H Q ⟨H₀,aa,ρ,Hf,d,R,q,k⟩=>by
  obtain ⟨b,e1,e2⟩:=vI q
  refine ⟨H₀,aa,ρ,Hf,b,R,e1,λH1 o j s1 i=>?_⟩
  cases b with
  | false=>exact MC ⟨H₀,aa,ρ,o,d,j,e2,λH2 a9 R2 s2 l=>k _ _ R2 (s1.trans s2) (i.trans l)⟩
  | true=>cases e2; exact MB (k _ _ j s1 i)
def Lj (h:DW X e ft):DT X e ft:=PW.pt h
def Uj (j:DT X a ft):DT X (.UnaryOp .Not a pos) (RF ft) :=
 VI (Sz j) λσ H Q ⟨H₀,aa,ρ,Hf,d,R,q,k⟩=>by
  obtain ⟨b,e1,e2⟩:=vI q
  cases e2
  exact ⟨H₀,aa,ρ,Hf,b,R,e1,λH1 m l s1 i=>k _ _ l s1 i⟩
def zd9 (f g:FE):FE:=λρ=>(f ρ).bind fun | .bl b=>(if b=true then g ρ else some (.bl false)) | _=>none
def orV (f g:FE):FE:=λρ=>(f ρ).bind fun | .bl b=>(if b=true then some (.bl true) else g ρ) | _=>none
def zO     {r:α} (h:(f ρ).bind k=some r):∃ b,f ρ=some b/\k b=some r:=by
 cases hf:f ρ with
 | none=>rw [hf] at h; cases h
 | some x=>rw [hf] at h; exact ⟨x,rfl,h⟩
def Rh {op} (h:DE X a f):DE X (.BoolOp op [a] pos) f:=SH h
set_option tactic.hygienic true in
def zaj (n:DE X a f) (m:DE X (.BoolOp .And (b :: rest) pos) g):DE X (.BoolOp .And (a :: b :: rest) pos) (zd9 f g) :=
 yz (SL n m) λσ H Q ⟨H₀,aa,ρ,Hf,d,R,q,k⟩=>by
  obtain ⟨x,e1,e2⟩:=zO q
  cases x <;> try cases e2
  rename_i b
  refine ⟨H₀,aa,ρ,Hf,_,R,e1,λv H1 o j s1 i h1=>⟨b,Ew.mp h1,?_⟩⟩
  cases b with
  | true=>exact MB ⟨H₀,aa,ρ,o,d,j,e2,λv H2 a9 R2 s2 l h2=>k _ _ _ R2 (s1.trans s2) (i.trans l) h2⟩
  | false=>cases e2; exact MC (k _ _ _ j s1 i (Ew.mpr rfl))
set_option tactic.hygienic true in
def ze8 (n:DE X a f) (m:DE X (.BoolOp .Or (b :: rest) pos) g):DE X (.BoolOp .Or (a :: b :: rest) pos) (orV f g) :=
 yz (zci n m) λσ H Q ⟨H₀,aa,ρ,Hf,d,R,q,k⟩=>by
  obtain ⟨x,e1,e2⟩:=zO q
  cases x <;> try cases e2
  rename_i b
  refine ⟨H₀,aa,ρ,Hf,_,R,e1,λv H1 o j s1 i h1=>⟨b,Ew.mp h1,?_⟩⟩
  cases b with
  | false=>exact MC ⟨H₀,aa,ρ,o,d,j,e2,λv H2 a9 R2 s2 l h2=>k _ _ _ R2 (s1.trans s2) (i.trans l) h2⟩
  | true=>cases e2; exact MB (k _ _ _ j s1 i (Ew.mpr rfl))
def ifF (c:FT) (f g:FE):FE:=λρ=>(c ρ).bind λb=>if b=true then f ρ else g ρ
def Rj (n:DT X c ft) (p:DE X a f) (o:DE X b g):DE X (.IfExp c a b pos) (ifF ft f g) :=
 yz (Dt n p o) λσ H Q ⟨H₀,aa,ρ,Hf,d,R,q,k⟩=>by
  obtain ⟨x,e1,e2⟩:=vI q
  refine ⟨H₀,aa,ρ,Hf,x,R,e1,λH1 l m s1 j=>?_⟩
  cases x with
  | true=>exact MB ⟨H₀,aa,ρ,l,d,m,e2,λv H2 a9 R2 s2 i h2=>k _ _ _ R2 (s1.trans s2) (j.trans i) h2⟩
  | false=>exact MC ⟨H₀,aa,ρ,l,d,m,e2,λv H2 a9 R2 s2 i h2=>k _ _ _ R2 (s1.trans s2) (j.trans i) h2⟩
end
mutual
def bx:D->D->Bool
 | .non,.non=>true
 | .bl a,.bl b=>a==b
 | .bl a,.int b=>(if a then 1 else 0)==b
 | .int a,.bl b=>a==(if b then 1 else 0)
 | .int a,.int b=>a==b
 | .str a,.str b=>a==b
 | .tup a,.tup b=>WW a b
 | .lst a,.lst b=>WW a b
 | _,_=>false
def WW:List D->List D->Bool
 | [],[]=>true
 | x :: xs,y :: ys=>bx x y&&WW xs ys
 | _,_=>false
end
mutual
def dep:D->Nat
 | .tup a=>qg a+1
 | .lst a=>qg a+1
 | _=>0
def qg:List D->Nat
 | []=>0
 | x :: xs=>max (dep x) (qg xs)
end
def jB (h:∀ d∈l,dep d<=k):qg l<=k:=by
 induction l with
 | nil=>simp [qg]
 | cons x xs a =>
  unfold qg
  exact Nat.max_le.mpr ⟨h x aV,a λd hd=>h d (aZ _ hd)⟩
mutual
theorem ui:∀ d:D,bx d d=true
 | .non=>by simp [bx]
 | .bl b=>by simp [bx]
 | .int i=>by simp [bx]
 | .str x=>by simp [bx]
 | .tup ds=>by unfold bx; exact YG ds
 | .lst ds=>by unfold bx; exact YG ds
theorem YG:∀ ds:List D,WW ds ds=true
 | []=>by simp [WW]
 | d :: ds=>by unfold WW; rw [ui d,YG ds]; rfl
end
theorem QK:∀ xs ys,WW xs ys=((aK (min xs.length ys.length)).all (λj=>bx (xs.getD j .non) (ys.getD j .non))&&xs.length==ys.length)
 | [],[]=>by simp [WW]
 | [],y :: ys=>by simp [WW]
 | x :: xs,[]=>by simp [WW]
 | x :: xs,y :: ys=>by
  unfold WW
  rw [QK xs ys]
  have e:min (x :: xs).length (y :: ys).length=min xs.length ys.length+1:=by simp only [aB]; omega
  rw [e,n6,List.all_cons,List.all_map]
  simp [Function.comp_def,Bool.and_assoc]
section
variable {X:Cx} {pins:List (Addr×Obj)} {σ:St} {H Hf:Hp} {s:Shared}
inductive SvD (K:Eh) (H:Hp):D->V->Prop
 | non:SvD K H .non .non
 | bl (b:Bool):SvD K H (.bl b) (.bl b)
 | int (b:Int):SvD K H (.int b) (.int b)
 | str (b:Str):SvD K H (.str b) (.str b)
 | tup {b:List D} {a:Addr} {xs:List V} (q:bT K H a xs) (l:zR K H b xs):SvD K H (.tup b) (.ref a)
 | lst {b:List D} {a:Addr} {xs:List V} (q:bG K H a xs) (l:zR K H b xs):SvD K H (.lst b) (.ref a)
def il {K:Eh} {d:D} {v:V} (h:ae K H d v):SvD K H d v:=by
 cases d <;> unfold ae at h
 .subst h; exact .non
 .subst h; exact .bl _
 .subst h; exact .int _
 .subst h; exact .str _
 .obtain ⟨a,xs,rfl,q,l⟩:=h; exact .tup q l
 .obtain ⟨a,xs,rfl,q,l⟩:=h; exact .lst q l
def zd2 (I:Inv X pins σ H s) (h:bT X.K H a xs) (h':bG X.K H a ys):False:=by
 obtain ⟨ah,_,b,_⟩:=I.tuple h
 obtain ⟨its',_,p2,_⟩:=I.list h'
 exact absurd rfl (SeqAt.ne_of_list_tuple p2.isList b)
mutual
theorem ae.inj (I:Inv X pins σ H s):∀ {d d':D} {v:V},ae X.K H d v->ae X.K H d' v->d=d'
 | .non,d',v,h,h'=>by cases il h; cases il h'; rfl
 | .bl x,d',v,h,h'=>by cases il h; cases il h'; rfl
 | .int x,d',v,h,h'=>by cases il h; cases il h'; rfl
 | .str x,d',v,h,h'=>by cases il h; cases il h'; rfl
 | .tup x,d',v,h,h'=>by
  cases il h with
  | tup q l=>cases il h' with
   | tup a c=>cases I.tuple_inj q a; rw [zR.inj I l c]
   | lst a c=>cases zd2 I q a
 | .lst x,d',v,h,h'=>by
  cases il h with
  | lst q l=>cases il h' with
   | lst a c=>cases I.list_inj q a; rw [zR.inj I l c]
   | tup a c=>cases zd2 I a q
theorem zR.inj (I:Inv X pins σ H s):∀ {ds b:List D} {xs:List V},zR X.K H ds xs->zR X.K H b xs->ds=b
 | [],b,xs,h,h'=>by
  rw [zR.nil_iff] at h; subst h
  cases b with
  | nil=>rfl
  | cons d r=>obtain ⟨_,_,e,_⟩:=Eo.mp h'; cases e
 | d :: ds,b,xs,h,h'=>by
  obtain ⟨x,r,rfl,h1,h2⟩:=Eo.mp h
  cases b with
  | nil=>rw [zR.nil_iff] at h'; cases h'
  | cons d' k =>
   obtain ⟨j,g,e,f,i⟩:=Eo.mp h'
   cases e
   rw [ae.inj I h1 f,zR.inj I h2 i]
end
inductive ShV (K:Eh) (H:Hp) (s:Shared):D->Value->Prop
 | non:ShV K H s .non .none
 | bl (b:Bool):ShV K H s (.bl b) (.bool b)
 | int (b:Int) (t:Tok):ShV K H s (.int b) (.int b t)
 | str (b:Str) (t:Tok):ShV K H s (.str b) (.str b t)
 | tup {b:List D} {a:Addr} {xs:List V} {ah:List Value} (l:zR K H b xs) (r:yR xs ah) (p:IsTup s.heap a ah.toArray):ShV K H s (.tup b) (.ref a)
 | lst {b:List D} {a:Addr} {xs:List V} {ah:List Value} (l:zR K H b xs) (r:yR xs ah) (p:s.heap.IsList a ah.toArray):ShV K H s (.lst b) (.ref a)
def fT (I:Inv X pins σ H s) (h:ae X.K H d v) (r:xv v u):ShV X.K H s d u:=by
 cases il h with
 | non=>cases r; exact .non
 | bl=>cases r; exact .bl _
 | int=>obtain ⟨t,rfl⟩:=r; exact .int _ _
 | str=>obtain ⟨t,rfl⟩:=r; exact .str _ _
 | tup q l=>cases r; obtain ⟨ah,r,p,_⟩:=I.tuple q; exact .tup l r p
 | lst q l=>cases r; obtain ⟨ah,r,p,_⟩:=I.list q; exact .lst l r p.isList
def unV:Value->V
 | .bool b=>.bl b
 | .int b _=>.int b
 | .str b _=>.str b
 | .bytes b _=>.byt b
 | .float b _=>.flt b
 | .ref b=>.ref b
 | .type b=>.ty b
 | _=>.non
def Ws (r:xv v u):v=unV u:=by
 cases v <;> first | (cases r; rfl) | (obtain ⟨t,rfl⟩:=r; rfl)
open SeqAt in
def J3 {K:Eh} {d:D} {A:Around} {y x:Value} {b:Bool} (S:ShV K H s d y) (h:RcAt A s y x b) (e:y=x->b=true):EqAt A s y x b:=λprog w E Q a=>by
 unfold eqBool
 cases S <;> (
  refine E8 (wpAny_ite_split (λc=>?_) (λ_=>be (h prog w E _ (EX a))))
  cases e (eq_of_beq c)
  exact be (Io (mo a)))
open SeqAt in
abbrev RcG (A:Around) (s:Shared) (u a:Value) (b:Bool):Prop:=RcAt A s u a b/\RcNeAt A s u a (!b)
abbrev MZ (d d':D):Prop:=(∃ x y,d=.tup x/\d'=.tup y)\/∃ x y,d=.lst x/\d'=.lst y
open SeqAt in
def rN {K:Eh} {A:Around} {d d':D} {u c:Value} (S:ShV K H s d u) (b:ShV K H s d' c) (a:A.units < IM):RcG A s u c (bx d d')\/MZ d d':=by
 cases S with
 | non=>cases b with
  | non=>exact .inl ⟨.none_none,.none_none⟩
  | bl=>exact .inl ⟨.none_bool _,.none_bool _⟩
  | int=>exact .inl ⟨.none_int _ _,.none_int _ _⟩
  | str=>exact .inl ⟨.none_str _ _,.none_str _ _⟩
  | tup _ _ q=>exact .inl ⟨.none_tuple q a,.none_tuple q a⟩
  | lst _ _ q=>exact .inl ⟨.none_list q a,.none_list q a⟩
 | bl=>cases b with
  | non=>exact .inl ⟨.bool_none _,.bool_none _⟩
  | bl=>exact .inl ⟨.bool_bool _ _,.bool_bool _ _⟩
  | int=>exact .inl ⟨.bool_int _ _ _,.bool_int _ _ _⟩
  | str=>exact .inl ⟨.bool_str _ _ _,.bool_str _ _ _⟩
  | tup _ _ q=>exact .inl ⟨.bool_tuple _ q a,.bool_tuple _ q a⟩
  | lst _ _ q=>exact .inl ⟨.bool_list _ q a,.bool_list _ q a⟩
 | int=>cases b with
  | non=>exact .inl ⟨.int_none _ _,.int_none _ _⟩
  | bl=>exact .inl ⟨.int_bool _ _ _,.int_bool _ _ _⟩
  | int=>exact .inl ⟨.int_int _ _ _ _,.int_int _ _ _ _⟩
  | str=>exact .inl ⟨.int_str _ _ _ _,.int_str _ _ _ _⟩
  | tup _ _ q=>exact .inl ⟨.int_tuple _ _ q a,.int_tuple _ _ q a⟩
  | lst _ _ q=>exact .inl ⟨.int_list _ _ q a,.int_list _ _ q a⟩
 | str=>cases b with
  | non=>exact .inl ⟨.str_none _ _,.str_none _ _⟩
  | bl=>exact .inl ⟨.str_bool _ _ _,.str_bool _ _ _⟩
  | int=>exact .inl ⟨.str_int _ _ _ _,.str_int _ _ _ _⟩
  | str=>exact .inl ⟨.str_str _ _ _ _,.str_str _ _ _ _⟩
  | tup _ _ q=>exact .inl ⟨.str_tuple _ _ q a,.str_tuple _ _ q a⟩
  | lst _ _ q=>exact .inl ⟨.str_list _ _ q a,.str_list _ _ q a⟩
 | tup _ _ p=>cases b with
  | non=>exact .inl ⟨.tuple_none p a,.tuple_none p a⟩
  | bl=>exact .inl ⟨.tuple_bool _ p a,.tuple_bool _ p a⟩
  | int=>exact .inl ⟨.tuple_int _ _ p a,.tuple_int _ _ p a⟩
  | str=>exact .inl ⟨.tuple_str _ _ p a,.tuple_str _ _ p a⟩
  | tup _ _ q=>exact .inr (.inl ⟨_,_,rfl,rfl⟩)
  | lst _ _ q=>exact .inl ⟨.tuple_list p q a,.tuple_list p q a⟩
 | lst _ _ p=>cases b with
  | non=>exact .inl ⟨.list_none p a,.list_none p a⟩
  | bl=>exact .inl ⟨.list_bool _ p a,.list_bool _ p a⟩
  | int=>exact .inl ⟨.list_int _ _ p a,.list_int _ _ p a⟩
  | str=>exact .inl ⟨.list_str _ _ p a,.list_str _ _ p a⟩
  | tup _ _ q=>exact .inl ⟨.list_tuple p q a,.list_tuple p q a⟩
  | lst _ _ q=>exact .inr (.inr ⟨_,_,rfl,rfl⟩)
open SeqAt in
mutual
theorem Jo (I:Inv X pins σ H s):∀ (d:D) {A:Around} {d':D} {v B:V} {u C:Value},ae X.K H d v->ae X.K H d' B->xv v u->xv B C->A.units+dep d < IM->RcG A s u C (bx d d')
 | .non,_,_,_,_,_,_,h,h',r,a,c=>(rN (fT I h r) (fT I h' a) (by omega)).elim id (by simp [MZ])
 | .bl _,_,_,_,_,_,_,h,h',r,a,c=>(rN (fT I h r) (fT I h' a) (by omega)).elim id (by simp [MZ])
 | .int _,_,_,_,_,_,_,h,h',r,a,c=>(rN (fT I h r) (fT I h' a) (by omega)).elim id (by simp [MZ])
 | .str _,_,_,_,_,_,_,h,h',r,a,c=>(rN (fT I h r) (fT I h' a) (by omega)).elim id (by simp [MZ])
 | .tup x,A,_,_,_,_,_,h,h',r,a,c=>(rN (fT I h r) (fT I h' a) (by omega)).elim id λe=>by
   simp [MZ] at e; obtain ⟨y,rfl⟩:=e
   cases fT I h r with
   | tup l n p=>cases fT I h' a with
    | tup b q i =>
     have g:=λj (h1:j < _) (h2:j < _)=>WY I x (A:=A.in1) l b n q (by show A.units+1+_ < IM; unfold dep at c; omega) j h1 h2
     have k:A.units < IM:=by omega
     unfold bx
     rw [QK,<- l.length,<- b.length,n.length,q.length]
     exact ⟨by simpa using RcAt.tuples p i k (λj h1 h2=>g j (by simpa using h1) (by simpa using h2)),by simpa using RcNeAt.tuples p i k (λj h1 h2=>g j (by simpa using h1) (by simpa using h2))⟩
 | .lst x,A,_,_,_,_,_,h,h',r,a,c=>(rN (fT I h r) (fT I h' a) (by omega)).elim id λe=>by
   simp [MZ] at e; obtain ⟨y,rfl⟩:=e
   cases fT I h r with
   | @lst _ _ _ ah l n p=>cases fT I h' a with
    | @lst _ _ _ its' b q i =>
     have g:=λj (h1:j < _) (h2:j < _)=>WY I x (A:=A.in1) l b n q (by show A.units+1+_ < IM; unfold dep at c; omega) j h1 h2
     have k:A.units < IM:=by omega
     unfold bx
     rw [QK,<- l.length,<- b.length,n.length,q.length]
     by_cases f:ah.length=its'.length
     .rw [f,Nat.min_self]
      exact ⟨by simpa [f] using RcAt.lists p i (by simpa using f) k (λj h1 h2=>g j (by simpa using h1) (by simpa using h2)),by simpa [f] using RcNeAt.lists p i (by simpa using f) k (λj h1 h2=>g j (by simpa using h1) (by simpa using h2))⟩
     .rw [beq_eq_false_iff_ne.mpr f,Bool.and_false]
      exact ⟨RcAt.lists_lengths p i (by simpa using f) k,RcNeAt.lists_lengths p i (by simpa using f) k⟩
theorem WY (I:Inv X pins σ H s):∀ (ds:List D) {A:Around} {m:List D} {xs ys:List V} {us o:List Value},zR X.K H ds xs->zR X.K H m ys->yR xs us->yR ys o->A.units+qg ds < IM →
  ∀ (j:Nat) (h1:j < us.length) (h2:j < o.length),EqAt A s us[j] o[j] (bx (ds.getD j .non) (m.getD j .non))
 | [],A,m,xs,ys,us,o,l,b,r,a,c,j,h1,h2=>by
  rw [zR.nil_iff] at l; subst l
  cases r
  simp at h1
 | d :: ds,A,m,xs,ys,us,o,l,b,r,a,c,j,h1,h2=>by
  obtain ⟨x,L,rfl,z,G⟩:=Eo.mp l
  cases m with
  | nil =>
   rw [zR.nil_iff] at b; subst b
   cases a
   simp at h2
  | cons d' m =>
   obtain ⟨y,J,rfl,E,w⟩:=Eo.mp b
   cases r with
   | cons r F =>
    cases a with
    | cons a t =>
     unfold qg at c
     cases j with
     | zero=>exact J3 (fT I z r) (Jo I d z E r a (by have:=Nat.le_max_left (dep d) (qg ds); omega)).1 (λe=>by
       have e:_=_:=e
       subst e; cases (Ws r).trans (Ws a).symm; cases ae.inj I z E; exact ui _)
     | succ j=>exact WY I ds G w F t (by have:=Nat.le_max_right (dep d) (qg ds); omega) j (by simpa using h1) (by simpa using h2)
end
def WX (I:Inv X pins σ H s) (d:D) (A:Around) (d':D) (v a:V) (u b:Value) (h:ae X.K H d v) (h':ae X.K H d' a) (r:xv v u) (c:xv a b) (f:A.units+dep d < IM):SeqAt.EqAt A s u b (bx d d') :=
 J3 (fT I h r) (Jo I d h h' r c f).1 λe=>by subst e; cases (Ws r).trans (Ws c).symm; cases ae.inj I h h'; exact ui _
def Nu (I:Inv X pins σ H s) (d:D) (A:Around) (d':D) (v a:V) (u b:Value) (h:ae X.K H d v) (h':ae X.K H d' a) (r:xv v u) (c:xv a b) (e:A.units+dep d < IM):SeqAt.RcAt A s u b (bx d d'):=(Jo I d h h' r c e).1
def Nt (I:Inv X pins σ H s) (d:D) (A:Around) (d':D) (v a:V) (u b:Value) (h:ae X.K H d v) (h':ae X.K H d' a) (r:xv v u) (c:xv a b) (e:A.units+dep d < IM):SeqAt.RcNeAt A s u b (!bx d d'):=(Jo I d h h' r c e).2
end
def jJ.full {K:Eh} (h:jJ K Hf σ ρ d v) (R:Rep K H₀ aa σ ρ H Hf):ae K H d v:=by
 rcases h with h | ⟨i,ds,rfl,e1,e2⟩
 .exact h.mono R.sf
 .obtain ⟨a,b,⟨xs,p2,c⟩,_⟩:=R.ow i _ e1 rfl
  rw [e2] at b; cases b
  exact EJ.mpr ⟨a,xs,rfl,bG.of p2,c.mono R.sf⟩
section
variable {X:Cx} {e a b c:Expr} {es:List Expr} {f g h:FE} {fa ga:FA} {ft gt:FT} {pos:Pos} {t t':TE} {kk:Nat}
def zdz (K:Eh):R2:=λx y H Q=>∃ d d',ae K H d x/\ae K H d' y/\dep d<=100/\Q (.bl (bx d d')) H
def zdu (K:Eh):R2:=λx y H Q=>∃ d d',ae K H d x/\ae K H d' y/\dep d<=100/\Q (.bl (!bx d d')) H
def Ms (k:Room kk X.A):cA X (G_ .Eq) (zdz X.K):=by
 intro pins s σ H x y v u Q I j i h
 obtain ⟨d,d',h1,h2,l,q⟩:=h
 exact Nu I d X.A d' x y v u h1 h2 j i (by have:=k.un; omega) X.prog X.w X.xe _ ⟨.bl _,H,I,rfl,q⟩
def SO (k:Room kk X.A):cA X (G_ .NotEq) (zdu X.K):=by
 intro pins s σ H x y v u Q I j i h
 obtain ⟨d,d',h1,h2,l,q⟩:=h
 exact Nt I d X.A d' x y v u h1 h2 j i (by have:=k.un; omega) X.prog X.w X.xe _ ⟨.bl _,H,I,rfl,q⟩
def b9:D->D->Option D:=λx y=>if dep x<=100 then some (.bl (bx x y)) else none
def fY:D->D->Option D:=λx y=>if dep x<=100 then some (.bl (!bx x y)) else none
def Mu:eW X (zdz X.K) b9:=by
 intro σ ρ H₀ aa H Hf x y dx m d Q R l j i k
 unfold b9 at i
 split at i
 .cases i
  exact ⟨dx,m,l.full R,j.full R,by assumption,k _ _ _ R zH zH (Ew.mpr rfl)⟩
 .cases i
def SV:eW X (zdu X.K) fY:=by
 intro σ ρ H₀ aa H Hf x y dx m d Q R l j i k
 unfold fY at i
 split at i
 .cases i
  exact ⟨dx,m,l.full R,j.full R,by assumption,k _ _ _ R zH zH (Ew.mpr rfl)⟩
 .cases i
def zd8 (d:Room kk X.A) (j:DR X a f) (i:DR X b g):DE X (.Compare a [.Eq] [b] pos) (ze b9 f g):=B0 (Ms d) Mu j i (qv _)
def qF (d:Room kk X.A) (j:DR X a f) (i:DR X b g):DT X (.Compare a [.Eq] [b] pos) (aU (ze b9 f g)):=xO (Ms d) Mu j i (qv _)
def Uk (d:Room kk X.A) (j:DR X a f) (i:DR X b g):DT X (.Compare a [.NotEq] [b] pos) (aU (ze fY f g)):=xO (SO d) SV j i (qv _)
def mx (X:Cx) (r:List V->Hp->VK->Prop) (φ:List D->Option D):Prop :=
 ∀ (σ:St) (ρ:aX) (H₀ aa H Hf:Hp) (xs:List V) (ds:List D) (d:D) (Q:VK),Rep X.K H₀ aa σ ρ H Hf->jI X.K Hf σ ρ ds xs->φ ds=some d →
  (∀ v H' ak,Rep X.K H₀ aa σ ρ H' ak->yw H H'->yw Hf ak->ae X.K ak d v->Q v H')->r xs H Q
def zW (φ:List D->Option D) (fa:FA):FE:=λρ=>(fa ρ).bind φ
def yt  {f:FA} {r:α} (h:(f ρ).bind k=some r):∃ b,f ρ=some b/\k b=some r:=by
 cases hf:f ρ with
 | none=>rw [hf] at h; cases h
 | some x=>rw [hf] at h; exact ⟨x,rfl,h⟩
def F7 (l:mx X r φ) (σ:St) (H:Hp) (Q:VK) (hh:tF X.K (zW φ fa) σ H Q):tCB r (tAR X.K fa) σ H Q:=by
 obtain ⟨H₀,aa,ρ,Hf,d,R,q,k⟩:=hh
 obtain ⟨ds,e1,e2⟩:=yt q
 exact ⟨H₀,aa,ρ,Hf,ds,R,e1,λvs H1 m n s1 j h1=>l σ ρ H₀ aa H1 m vs ds d Q n h1 e2 λv H2 a9 R2 s2 i h2=>k _ _ _ R2 (s1.trans s2) (j.trans i) h2⟩
def yk {id:String} (m:wI X (.builtin id) r) (q:mx X r φ) (hg:Gl X x) (k:X.mg x=none) (i:E4 x=some (.builtin id)) (n:iG X (e :: es) fa)
  (j:x≠"__name__":=by decide) (d:(x==("__debug__":Str))=false:=by decide)
  (l:Ei (e :: es) X.env=(false,eval e X.env) :: Ei es X.env:=by rfl) (o:(F_ pos (Ei es X.env)).any (·.1)=false:=by rfl):DE X (.Call (.Name x p) (e :: es) [] pos) (zW φ fa) :=
 yz (ka m hg k i n j d l o) (F7 q)
def w9 (m:wI X (.type T) r) (q:mx X r φ) (hg:Gl X x) (k:X.mg x=none) (i:E4 x=some (.type T)) (n:iG X (e :: es) fa)
  (j:x≠"__name__":=by decide) (d:(x==("__debug__":Str))=false:=by decide)
  (l:Ei (e :: es) X.env=(false,eval e X.env) :: Ei es X.env:=by rfl) (o:(F_ pos (Ei es X.env)).any (·.1)=false:=by rfl):DE X (.Call (.Name x p) (e :: es) [] pos) (zW φ fa) :=
 yz (vd m hg k i n j d l o) (F7 q)
def jI.one {K:Eh} (h:jI K Hf σ ρ [d] xs):∃ v,xs=[v]/\jJ K Hf σ ρ d v:=by
 cases h with
 | cons h1 h2=>cases h2; exact ⟨_,rfl,h1⟩
def jI.two {K:Eh} (h:jI K Hf σ ρ [d,d'] xs):∃ v i,xs=[v,i]/\jJ K Hf σ ρ d v/\jJ K Hf σ ρ d' i:=by
 cases h with
 | cons h1 h2 =>
  cases h2 with
  | cons h2 j=>cases j; exact ⟨_,_,rfl,h1,h2⟩
def uo:List D->Option D
 | [.lst ds]=>some (.int ds.length)
 | [.tup ds]=>some (.int ds.length)
 | [.str x]=>if x.length<=sizeLine then some (.int x.length) else none
 | _=>none
def yd:wI X (.builtin "len") (λxs H Q=>(∃ p ys,xs=[.ref p]/\(bG X.K H p ys\/bT X.K H p ys)/\Q (.int ys.length) H)\/(∃ z,xs=[.str z]/\z.length<=sizeLine/\Q (.int z.length) H)):=wI.or UC UB
def yE:mx X (λxs H Q=>(∃ p ys,xs=[.ref p]/\(bG X.K H p ys\/bT X.K H p ys)/\Q (.int ys.length) H)\/(∃ z,xs=[.str z]/\z.length<=sizeLine/\Q (.int z.length) H)) uo:=by
 intro σ ρ H₀ aa H Hf xs ds d Q R m i k
 unfold uo at i
 split at i
 .cases i
  obtain ⟨v,rfl,j⟩:=m.one
  obtain ⟨a,ys,rfl,q,l⟩:=j.lst R
  exact .inl ⟨a,ys,rfl,.inl q,k _ _ _ R zH zH (by rw [<- l.length]; exact AC.mpr rfl)⟩
 .cases i
  obtain ⟨v,rfl,j⟩:=m.one
  obtain ⟨a,ys,rfl,q,l⟩:=j.tup R
  exact .inl ⟨a,ys,rfl,.inr q,k _ _ _ R zH zH (by rw [<- l.length]; exact AC.mpr rfl)⟩
 .split at i
  .cases i
   obtain ⟨v,rfl,j⟩:=m.one
   exact .inr ⟨_,by rw [j.str],by assumption,k _ _ _ R zH zH (AC.mpr rfl)⟩
  .cases i
 .cases i
def Pi:List D->Option D
 | [.int i,.int j]=>some (.int (if j > i then j else i))
 | _=>none
def Te:List D->Option D
 | [.int i,.int j]=>some (.int (if j < i then j else i))
 | _=>none
def QH:mx X (λxs H Q=>∃ i j,xs=[.int i,.int j]/\Q (.int (if j > i then j else i)) H) Pi:=by
 intro σ ρ H₀ aa H Hf xs ds d Q R n l k
 unfold Pi at l
 split at l
 .cases l
  obtain ⟨v,p,rfl,o,m⟩:=n.two
  exact ⟨_,_,by rw [o.int,m.int],k _ _ _ R zH zH (AC.mpr rfl)⟩
 .cases l
def By:mx X (λxs H Q=>∃ i j,xs=[.int i,.int j]/\Q (.int (if j < i then j else i)) H) Te:=by
 intro σ ρ H₀ aa H Hf xs ds d Q R n l k
 unfold Te at l
 split at l
 .cases l
  obtain ⟨v,p,rfl,o,m⟩:=n.two
  exact ⟨_,_,by rw [o.int,m.int],k _ _ _ R zH zH (AC.mpr rfl)⟩
 .cases l
def RE:List D->Option D
 | [.int i]=>if i.natAbs.log2 < 1920 then some (.str (toString i)) else none
 | _=>none
def PZ:mx X (λxs H Q=>∃ i,xs=[.int i]/\i.natAbs.log2 < 1920/\Q (.str (toString i)) H) RE:=by
 intro σ ρ H₀ aa H Hf xs ds d Q R l j k
 unfold RE at j
 split at j
 .split at j
  .cases j
   obtain ⟨v,rfl,m⟩:=l.one
   exact ⟨_,by rw [m.int],by assumption,k _ _ _ R zH zH (ED.mpr rfl)⟩
  .cases j
 .cases j
def wG (F G:FS):FS:=λρ=>(F ρ).bind λo=>match o with
 | .nx aO=>G aO
 | o=>some o
def cS:FS:=λρ=>some (.nx ρ)
variable {st:Stmt} {iJ rest:List Stmt} {F G:FS}
def Zf     {r:α} (h:(F ρ).bind k=some r):∃ b,F ρ=some b/\k b=some r:=by
 cases hf:F ρ with
 | none=>rw [hf] at h; cases h
 | some x=>rw [hf] at h; exact ⟨x,rfl,h⟩
def zY:iV X [] cS:=kS Hd λD' σ H ⟨H₀,aa,ρ,Hf,o,R,q,k⟩=>by cases q; exact k _ _ _ R zH
def zc (h1:DS X st F) (h2:iV X rest G):iV X (st :: rest) (wG F G):=kS (ZG h1 h2) λD' σ H ⟨H₀,aa,ρ,Hf,o,R,q,k⟩=>by
 obtain ⟨i,e1,e2⟩:=Zf q
 refine ⟨H₀,aa,ρ,Hf,i,R,e1,?_⟩
 cases i with
 | nx aO =>
  intro aL H' ak R' s'
  refine ⟨H₀,aa,aO,ak,o,R',e2,?_⟩
  cases o with
  | nx _=>exact λd H2 a9 R2 s2=>k _ _ _ R2 (s'.trans s2)
  | bk _=>exact λd H2 a9 R2 s2=>k _ _ _ R2 (s'.trans s2)
  | ct _=>exact λd H2 a9 R2 s2=>k _ _ _ R2 (s'.trans s2)
  | rt _=>exact λv d j H2 a9 R2 s2 h2=>k _ _ _ _ _ R2 (s'.trans s2) h2
 | bk _=>cases e2; exact k
 | ct _=>cases e2; exact k
 | rt _=>cases e2; exact k
def zj (h1:DS X st F):iV X [st] F:=Wu h1
def Tb:FS:=λ_=>none
def J9:DS X st Tb:=vc Do λD' σ H ⟨H₀,aa,ρ,Hf,o,R,q,k⟩=>by cases q
def j6 (f:FE):FS:=λρ=>(f ρ).bind λd=>some (.rt d)
def zB (j:DE X e f):DS X (.Return (some e) pos) (j6 f):=vc (Mi j) λD' σ H ⟨H₀,aa,ρ,Hf,o,R,q,k⟩=>by
 obtain ⟨d,e1,e2⟩:=zO q
 cases e2
 exact ⟨H₀,aa,ρ,Hf,d,R,e1,λv H1 l m s1 i h1=>k v σ ρ H1 l m i h1⟩
def cg (c:FT) (F G:FS):FS:=λρ=>(c ρ).bind λb=>if b=true then F ρ else G ρ
def RP.mono {K:Eh} (k:RP K H₀ aa Hf D' o) (t:yw Hf i):RP K H₀ aa i D' o:=by
 cases o with
 | nx _=>exact λd H2 a9 R2 s2=>k _ _ _ R2 (t.trans s2)
 | bk _=>exact λd H2 a9 R2 s2=>k _ _ _ R2 (t.trans s2)
 | ct _=>exact λd H2 a9 R2 s2=>k _ _ _ R2 (t.trans s2)
 | rt _=>exact λv d j H2 a9 R2 s2 h2=>k _ _ _ _ _ R2 (t.trans s2) h2
def xc {a b:List Stmt} (l:DT X c ft) (n:iV X a F) (m:iV X b G):DS X (.If c a b pos) (cg ft F G):=vc (SA l n m) λD' σ H ⟨H₀,aa,ρ,Hf,o,R,q,k⟩=>by
 obtain ⟨x,e1,e2⟩:=vI q
 refine ⟨H₀,aa,ρ,Hf,x,R,e1,λH1 i j s1 d=>?_⟩
 cases x with
 | true=>exact MB ⟨H₀,aa,ρ,i,o,j,e2,k.mono d⟩
 | false=>exact MC ⟨H₀,aa,ρ,i,o,j,e2,k.mono d⟩
def vX (i:Nat) (f:FE):FS:=λρ=>(f ρ).bind λd=>some (.nx (ρ.set i (.fr d)))
def zN (i) (r:X.N.Nodup) (p:DE X e f) (hi:X.N[i]? = some x:=by rfl) (l:Loc X.env.scope x:=by first | exact Im rfl | exact E2 rfl) (m:II e (some (.Name x pos')) pos.line X.env=pure false:=by rfl)
  (n:X.fn x=true\/X.env.scope.names.lookup x=some .local:=by first | exact .inl rfl | exact .inr rfl | assumption):DS X (.Assign [.Name x pos'] e pos) (vX i f) :=
 vc (VJ r hi l p m n) λD' σ H ⟨H₀,aa,ρ,Hf,o,R,q,k⟩=>by
  obtain ⟨d,e1,e2⟩:=zO q
  cases e2
  exact ⟨H₀,aa,ρ,Hf,d,R,e1,λv H1 u s s1 j h1=>k _ _ _ (s.set i h1) j⟩
def UW (i:Nat) (f:FA):FS:=λρ=>(f ρ).bind λds=>some (.nx (ρ.set i (.ol ds)))
def xm (i) (A:X.N.Nodup) (w:DN X e fa) (hi:X.N[i]? = some x:=by rfl) (r:Loc X.env.scope x:=by first | exact Im rfl | exact E2 rfl) (s:II e (some (.Name x pos')) pos.line X.env=pure false:=by rfl)
  (v:X.fn x=true\/X.env.scope.names.lookup x=some .local:=by first | exact .inl rfl | exact .inr rfl | assumption):DS X (.Assign [.Name x pos'] e pos) (UW i fa) :=
 vc (VJ A hi r w s v) λD' σ H ⟨H₀,aa,ρ,Hf,o,R,q,k⟩=>by
  obtain ⟨d,e1,e2⟩:=yt q
  cases e2
  refine ⟨H₀,aa,ρ,Hf,d,R,e1,λa xs H1 E B s1 m h1 y u hh=>k _ _ _ (B.setOwn i rfl ⟨xs,y,h1⟩ u (R.s0.free hh) ?_) m⟩
  intro j sl z o l
  obtain ⟨b,p,p2,_⟩:=R.ow j sl z o
  rw [p] at l; cases l
  obtain ⟨C,n⟩:=p2.there o
  rw [n] at hh; cases hh
def frz (i:Nat) (ρ:aX):Option aX:=match ρ[i]? with
 | some (.ol ds)=>some (ρ.set i (.fr (.lst ds)))
 | some (.fr _)=>some ρ
 | _=>none
def PV (i:Nat) (F:FS):FS:=λρ=>(frz i ρ).bind F
def vV (i) (h:iV X iJ F):iV X iJ (PV i F):=kS h λD' σ H ⟨H₀,aa,ρ,Hf,o,R,q,k⟩=>by
 unfold PV frz at q
 split at q
 .rename_i ds e
  obtain ⟨ak,d,R'⟩:=R.freeze e
  exact ⟨H₀,aa,_,ak,o,R',q,k.mono d⟩
 .exact ⟨H₀,aa,_,Hf,o,R,q,k⟩
 .cases q
abbrev FG:=D->aX->Option aX
inductive tG (K:Eh) (γ:FG) (v:V) (σ:St) (H:Hp) (Q:St->Hp->Prop):Prop
 |mk (H₀ aa ρ Hf d aO) (a0:Rep K H₀ aa σ ρ H Hf) (a1:ae K Hf d v) (a2:γ d ρ=some aO) (a3:∀ aL H' ak,Rep K H₀ aa aL aO H' ak->yw Hf ak->Q aL H')
abbrev oj:=List D->aX->Option aX
inductive tGs (K:Eh) (γ:oj) (vs:List V) (σ:St) (H:Hp) (Q:St->Hp->Prop):Prop
 |mk (H₀ aa ρ Hf ds aO) (a0:Rep K H₀ aa σ ρ H Hf) (a1:zR K Hf ds vs) (a2:γ ds ρ=some aO) (a3:∀ aL H' ak,Rep K H₀ aa aL aO H' ak->yw Hf ak->Q aL H')
def DG (X:Cx) (tg:Expr) (γ:FG):Prop:=PG X tg (tG X.K γ)
def DGs (X:Cx) (ts:List Expr) (γ:oj):Prop:=pG X ts (tGs X.K γ)
def Mp  {t t':TG} (h:PG X tg t) (i:∀ v σ H Q,t' v σ H Q->t v σ H Q):PG X tg t':=λpins s σ H v u Q I r d=>h pins s σ H v u Q I r (i _ _ _ _ d)
def Hl  {t t':pE} (h:pG X ts t) (i:∀ v σ H Q,t' v σ H Q->t v σ H Q):pG X ts t':=λpins s σ H v u Q I r d=>h pins s σ H v u Q I r (i _ _ _ _ d)
def zL (i:Nat):FG:=λd ρ=>some (ρ.set i (.fr d))
def yc (i) (m:X.N.Nodup) (hi:X.N[i]? = some x:=by rfl) (j:Loc X.env.scope x:=by first | exact Im rfl | exact E2 rfl) (l:X.fn x=true\/X.env.scope.names.lookup x=some .local:=by first | exact .inl rfl | exact .inr rfl | assumption):DG X (.Name x pos) (zL i) :=
 Mp (NK m hi j l) λv σ H Q ⟨H₀,aa,ρ,Hf,d,aO,R,h,q,k⟩=>by
  cases q
  exact k _ _ _ (R.set i h) zH
def kG:oj:=λds ρ=>match ds with
 | []=>some ρ
 | _=>none
def yp (γ:FG) (δ:oj):oj:=λds ρ=>match ds with
 | d :: r=>(γ d ρ).bind λaO=>δ r aO
 | _=>none
def xu:DGs X [] kG:=Hl NJ λv σ H Q ⟨H₀,aa,ρ,Hf,ds,aO,R,h,q,k⟩=>by
 cases ds with
 | nil=>cases q; exact ⟨zR.nil_iff.mp h,k _ _ _ R zH⟩
 | cons _ _=>cases q
def zG (h1:DG X e γ) (h2:DGs X es δ) (m:(Iu (e :: es) X.env).map (·.2)=assign e X.env :: (Iu es X.env).map (·.2):=by rfl):DGs X (e :: es) (yp γ δ) :=
 Hl (Dr h1 h2 m) λv σ H Q ⟨H₀,aa,ρ,Hf,ds,aO,R,h,q,k⟩=>by
  cases ds with
  | nil=>cases q
  | cons d r =>
   obtain ⟨x,j,rfl,l,n⟩:=Eo.mp h
   have q:(γ d ρ).bind (λaO=>δ r aO)=some aO:=q
   cases e1:γ d ρ with
   | none=>rw [e1] at q; cases q
   | some i =>
    rw [e1] at q
    exact ⟨x,j,rfl,H₀,aa,ρ,Hf,d,i,R,l,e1,λs H1 o p s1=>⟨H₀,aa,i,o,r,aO,p,n.mono s1,q,λu H2 a9 R2 s2=>k _ _ _ R2 (s1.trans s2)⟩⟩
def jM (n:Nat) (δ:oj):FG:=λd ρ=>match d with
 | .tup ds=>if ds.length=n then δ ds ρ else none
 | _=>none
set_option tactic.hygienic true in
def wK (o:X.calm=true) (h:DGs X es δ) (l:(Iu es X.env).length=n:=by rfl) (bq:(Iu es X.env).findIdx? (·.1)=none:=by rfl):DG X (.Tuple es kx pos) (jM n δ) :=
 Mp (SE o h l bq) λv σ H Q ⟨H₀,aa,ρ,Hf,d,aO,R,h,q,k⟩=>by
  unfold jM at q
  split at q
  .split at q
   .rename_i ds m
    obtain ⟨a,xs,rfl,j,i⟩:=Es.mp h
    exact ⟨a,xs,rfl,jr R.sf j,by rw [i.length]; exact m,H₀,aa,ρ,Hf,ds,aO,R,i,q,k⟩
   .cases q
  .cases q
def zbi (γ:FG) (f:FE):FS:=λρ=>(f ρ).bind λd=>(γ d ρ).bind λaO=>some (.nx aO)
def BM (hg:DG X tg γ) (n:DE X e f) (m:swapsWithSole [tg] e pos.line X.env=pure false:=by rfl) (l:swappedStores [tg] e X.env=pure none:=by rfl)
  (h1:(Iu [tg] X.env).map (·.2)=[assign tg X.env]:=by rfl):DS X (.Assign [tg] e pos) (zbi γ f) :=
 vc (Ml n hg m l h1) λD' σ H ⟨H₀,aa,ρ,Hf,o,R,q,k⟩=>by
  obtain ⟨d,e1,e2⟩:=zO q
  cases i:γ d ρ with
  | none=>rw [i] at e2; cases e2
  | some p =>
   rw [i] at e2
   cases e2
   exact ⟨H₀,aa,ρ,Hf,d,R,e1,λv H1 r s s1 j h1=>⟨H₀,aa,ρ,r,d,p,s,h1,i,λu H2 a9 R2 s2=>k _ _ _ R2 (j.trans s2)⟩⟩
end
def yo (γ:FG) (B:FS):List D->aX->Option Out
 | [],ρ=>some (.nx ρ)
 | d :: ds,ρ=>(γ d ρ).bind λb=>(B b).bind λo=>match o with
  | .nx a=>yo γ B ds a
  | .ct a=>yo γ B ds a
  | .bk a=>some (.nx a)
  | .rt d=>some (.rt d)
def QG (fi:FA) (γ:FG) (B:FS):FS:=λρ=>(fi ρ).bind λds=>yo γ B ds ρ
structure Grows (H Hf H' ak:Hp):Prop where
 h:yw H H'
 f:yw Hf ak
 fh:yw ak H'
 new:∀ b o,ak b=some o->Hf b=some o\/H b=none\/Tp o
def Rep.grows {K:Eh} (R:Rep K H₀ aa σ ρ H Hf) (g:Grows H Hf H' ak):Rep K H₀ aa σ ρ H' ak:=R.grow g.h g.f g.fh g.new
def Grows.refl (h:yw Hf H):Grows H Hf H Hf:=⟨zH,zH,h,λ_ _ e=>.inl e⟩
def Walks (K:Eh) (Hf:Hp) (J:It) (ds:List D):Prop :=
 ∀ (H' ak:Hp),yw Hf ak->yw ak H'->∀ i:Nat,(∀ d,ds[i]? = some d->J.go i H'/\∀ x H2,J.yld i H' x H2->∃ a9,Grows H' ak H2 a9/\ae K a9 d x)/\(ds.length<=i->J.stop i H')
inductive tI (K:Eh) (fi:FA) (σ:St) (H:Hp) (R':It->Hp->Prop):Prop
 |mk (H₀ aa ρ Hf ds) (a0:Rep K H₀ aa σ ρ H Hf) (a1:fi ρ=some ds) (a2:∀ J H' ak,Rep K H₀ aa σ ρ H' ak->yw H H'->yw Hf ak->Walks K ak J ds->R' J H')
def DI (X:Cx) (tg iter:Expr) (fi:FA):Prop:=PI X tg iter (tI X.K fi)
section
variable {X:Cx} {e a b c tg iter:Expr} {es:List Expr} {f g h:FE} {fa ga fi:FA} {ft gt:FT} {pos:Pos} {t t':TE} {kk:Nat} {st:Stmt} {iJ rest body:List Stmt} {F G B:FS} {γ:FG}
def Mo {t t':TI} (h:PI X tg iter t) (i:∀ σ H R,t' σ H R->t σ H R):PI X tg iter t':=λpins s σ H R I d=>h pins s σ H R I (i _ _ _ d)
def xT (hp:PassesOwn (EA X.prog X.w) X.A X.env X.xe) (hc:X.calm=true) (hi:DI X tg iter fi) (hg:DG X tg γ) (hb:iV X body B)
  (hs:∀ x,Lc iter X.env x=pure x:=by intro _; rfl):DS X (.For tg iter body [] pos) (QG fi γ B) :=
 vc (SB hp hc hi hg hb hs) λD' σ H ⟨H₀,aa,ρ,Hf,o,R,q,k⟩=>by
  obtain ⟨ds,e1,e2⟩:=yt q
  refine ⟨H₀,aa,ρ,Hf,ds,R,e1,λJ H1 y R1 _ W Q=>?_⟩
  have k1:=k.mono W
  refine ⟨λi m σ H=>m=ds.length - i/\i<=ds.length/\∃ ρ ak,Rep X.K H₀ aa σ ρ H ak/\yw y ak/\yo γ B (ds.drop i) ρ=some o,⟨ds.length,by simp,dJ _,ρ,y,R1,zH,by simpa using e2⟩,?_⟩
  rintro i m ij H2 ⟨rfl,hi,O,a9,R2,z,j⟩
  obtain ⟨T,S⟩:=Q H2 a9 z R2.sf i
  by_cases C:i < ds.length
  .right
   have hd:ds[i]? = some ds[i]:=fg C
   obtain ⟨go,yld⟩:=T _ hd
   refine ⟨go,?_⟩
   rw [g3z C] at j
   unfold yo at j
   cases E:γ ds[i] O with
   | none=>rw [E] at j; cases j
   | some p =>
    rw [E] at j
    simp only [af] at j
    obtain ⟨L,eb,w⟩:=Zf j
    refine ⟨λaL H'=>∃ aO ak,Rep X.K H₀ aa aL aO H' ak/\yw y ak/\yo γ B (ds.drop (i+1)) aO=some o,?_,?_⟩
    .rintro aL H' ⟨aO,ak,R',t',e'⟩
     exact ⟨ds.length - (i+1),by omega,rfl,C,aO,ak,R',t',e'⟩
    .intro x H3 Z
     obtain ⟨Y,M,hx⟩:=yld x H3 Z
     refine ⟨H₀,aa,O,Y,ds[i],p,R2.grows M,hx,E,λP H4 u R4 U=>?_⟩
     refine ⟨H₀,aa,p,u,L,R4,eb,?_⟩
     have tt:yw y u:=(z.trans M.f).trans U
     cases L with
     | nx r=>exact λA I s n l=>⟨r,s,n,tt.trans l,w⟩
     | ct r=>exact λA I s n l=>⟨r,s,n,tt.trans l,w⟩
     | bk r=>cases w; exact λA I s n l=>k1 _ _ _ n (tt.trans l)
     | rt d=>cases w; exact λv A r I s n l h5=>k1 _ _ _ _ _ n (tt.trans l) h5
  .left
   have:ds.drop i=[]:=List.drop_eq_nil_of_le (by omega)
   rw [this] at j
   cases j
   exact ⟨S (by omega),k1 _ _ _ R2 z⟩
def yy (lo hi:Int):List D:=(aK (hi - lo).toNat).map λ(k:Nat)=>D.int (lo+(k:Int))
noncomputable def uY:List D->Option (List D)
 | [.int j]=>@ite _ (-(2 ^ 62)<=j/\j < 2 ^ 62) (IU _) (some (yy 0 j)) none
 | _=>none
noncomputable def VG:List D->Option (List D)
 | [.int i,.int j]=>@ite _ (-(2 ^ 62)<=i/\i < 2 ^ 62 /\ -(2 ^ 62)<=j/\j < 2 ^ 62) (IU _) (some (yy i j)) none
 | _=>none
noncomputable def za6 (fa:FA):FA:=λρ=>(fa ρ).bind uY
noncomputable def zb7 (fa:FA):FA:=λρ=>(fa ρ).bind VG
def ZQ {K:Eh} {lo:Int}:Walks K Hf (Ef lo n) ((aK n).map λ(k:Nat)=>D.int (lo+(k:Int))):=λH2 a9 o m i=>by
 refine ⟨λd hd=>?_,λhle=>?_⟩
 .rw [cK] at hd
  cases e:(aK n)[i]? with
  | none=>rw [e] at hd; cases hd
  | some j =>
   rw [e] at hd
   cases hd
   obtain ⟨h1,h2⟩:=iS.mp e
   simp at h1 h2
   subst h2
   refine ⟨h1,λx p l=>?_⟩
   obtain ⟨rfl,rfl⟩:=l
   exact ⟨a9,Grows.refl m,AC.mpr rfl⟩
 .show n<=i
  simpa using hle
set_option tactic.hygienic true in
def xW (hg:Gl X "range") (r:X.mg "range"=none) (s:iG X [a] fa) (o:Ei [a] X.env=[(false,eval a X.env)]:=by rfl):DI X tg (.Call (.Name "range" p) [a] [] pos) (za6 fa) :=
 Mo (Hk hg r s o) λσ H R' ⟨H₀,aa,ρ,Hf,ds,R,q,k⟩=>by
  obtain ⟨l,e1,e2⟩:=yt q
  unfold uY at e2
  split at e2
  .split at e2
   .cases e2
    rename_i j d
    refine ⟨H₀,aa,ρ,Hf,_,R,e1,λvs H1 u w s1 i h1=>?_⟩
    obtain ⟨v,rfl,m⟩:=h1.one
    refine ⟨j,by rw [m.int],d.1,d.2,k _ _ _ w s1 i ?_⟩
    have:=ZQ (K:=X.K) (Hf:=u) (lo:=0) (n:=j.toNat)
    unfold yy
    rw [Int.sub_zero]
    exact this
   .cases e2
  .cases e2
def Up {p pos:Pos} (hg:Gl X "range") (r:X.mg "range"=none) (u:iG X [a,b] fa) (o:Ei [a,b] X.env=[(false,eval a X.env),(false,eval b X.env)]:=by rfl) (hs2:Ei [b] X.env=[(false,eval b X.env)]:=by rfl) :
  DI X tg (.Call (.Name "range" p) [a,b] [] pos) (zb7 fa) :=
 Mo (Hj hg r u o hs2) λσ H R' ⟨H₀,aa,ρ,Hf,ds,R,q,k⟩=>by
  obtain ⟨l,e1,e2⟩:=yt q
  unfold VG at e2
  split at e2
  .split at e2
   .cases e2
    rename_i i j s
    refine ⟨H₀,aa,ρ,Hf,_,R,e1,λvs H1 y w s1 d h1=>?_⟩
    obtain ⟨v,x,rfl,n,m⟩:=h1.two
    exact ⟨i,j,by rw [n.int,m.int],s,k _ _ _ w s1 d ZQ⟩
   .cases e2
  .cases e2
def yS (c:FT) (B:FS):Nat->aX->Option Out
 | 0,_=>none
 | n+1,ρ=>(c ρ).bind λb=>if b=true then (B ρ).bind λo=>match o with
   | .nx i=>yS c B n i
   | .ct i=>yS c B n i
   | .bk i=>some (.nx i)
   | .rt d=>some (.rt d)
  else some (.nx ρ)
def qW (n) (I:PassesOwn (EA X.prog X.w) X.A X.env X.xe) (J:DT X c ft) (L:iV X body B):DS X (.While c body [] pos) (yS ft B n) :=
 vc (Dl I J L) λD' σ H ⟨H₀,aa,ρ,Hf,o,R,q,k⟩=>by
  refine ⟨λm σ H=>∃ ρ ak,Rep X.K H₀ aa σ ρ H ak/\yw Hf ak/\yS ft B m ρ=some o,⟨n,ρ,Hf,R,zH,q⟩,?_⟩
  rintro m S H2 ⟨x,a9,R2,C,e2⟩
  cases m with
  | zero=>cases e2
  | succ m =>
   unfold yS at e2
   obtain ⟨b,P,y⟩:=vI e2
   refine ⟨H₀,aa,x,a9,b,R2,P,λT E z Q A=>?_⟩
   have tt:=C.trans A
   cases b with
   | false=>cases y; exact MC (k _ _ _ z tt)
   | true =>
    obtain ⟨w,O,r⟩:=Zf y
    refine MB ⟨λaL H'=>∃ aO ak,Rep X.K H₀ aa aL aO H' ak/\yw Hf ak/\yS ft B m aO=some o,λaL H' h=>⟨m,AY _,h⟩,H₀,aa,x,E,w,z,O,?_⟩
    cases w with
    | nx l=>exact λs u p j i=>⟨l,p,j,tt.trans i,r⟩
    | ct l=>exact λs u p j i=>⟨l,p,j,tt.trans i,r⟩
    | bk l=>cases r; exact λs u p j i=>k _ _ _ j (tt.trans i)
    | rt d=>cases r; exact λv s l u p j i M=>k _ _ _ _ _ j (tt.trans i) M
def xE (i:Nat) (f:FE):FS:=λρ=>(f ρ).bind λd=>match ρ[i]? with
 | some (.ol ds)=>if ds.length < sizeLine then some (.nx (ρ.set i (.ol (ds++[d])))) else none
 | _=>none
def xU (i) (C:DE X e f) (E:X.N[i]? = some x:=by rfl) (z:iE X.env.scope x:=by first | exact Im rfl | exact E2 (Im rfl) | exact E2 (E2 rfl))
  (hd:(x==("__debug__":Str))=false:=by decide) (p:(x==("__classdict__":Str))=false:=by decide)
  (m:LL (.Name x j) "append" X.env (eval (.Name x j) X.env)=eval (.Name x j) X.env:=by rfl)
  (n:((F_ a8 (Ei [e] X.env)).all (λx => !x.1)&&(backToKw a8 (keywordEach [] X.env)).all (λx=>x.1.isSome)
   && decide (([e]:List Expr).length+([]:List LJ).length+(if ([]:List LJ).isEmpty then 0 else 1) < 30))=true:=by rfl)
  (l:(apos.endLine==a8.line)=true:=by rfl) (bq:Ei [e] X.env=(false,eval e X.env) :: Ei [] X.env:=by rfl) (I:(F_ a8 (Ei [] X.env)).any (·.1)=false:=by rfl)
  (A:II (.Call (.Attribute (.Name x j) "append" apos) [e] [] a8) none pos.line X.env=pure false:=by rfl) :
  DS X (.Expr (.Call (.Attribute (.Name x j) "append" apos) [e] [] a8) pos) (xE i f) :=
 vc (He (NO PySem.F.plainAttrs_list PySem.F.slot_list_append PySem.F.type_list_append VZ (j9 E z hd p) (xi C vw bq) m n l bq I) A) λD' σ H ⟨H₀,aa,ρ,Hf,o,R,q,k⟩=>by
  obtain ⟨d,e1,e2⟩:=zO q
  split at e2
  .split at e2
   .cases e2
    rename_i ds r hz
    obtain ⟨a,j,⟨xs,p2,P⟩,O,M⟩:=R.ow i _ r rfl
    refine ⟨_,j,.inl ⟨rfl,xs,bG.of p2⟩,H₀,aa,ρ,Hf,d,R,e1,λv H1 Q u s1 w h1=>?_⟩
    obtain ⟨S,s,⟨ys,y,r3⟩,L,J⟩:=u.ow i _ r rfl
    rw [j] at s; cases s
    refine ⟨a,ys,v,rfl,rfl,y,by rw [r3.length]; exact hz,?_⟩
    exact k _ _ _ (u.updOwn r rfl j rfl ⟨_,zI,r3.append (.cons h1 .nil)⟩) w
   .cases e2
  .cases e2
end
inductive spF (K:Eh) (n:Nat) (g:List D->Option D) (vs:List V) (H:Hp) (Q:VK) (E:XK):Prop
 |mk (Hf ds d) (a0:yw Hf H) (a1:zR K Hf ds vs) (a2:ds.length=n) (a3:g ds=some d) (a4:∀ v H' ak,Grows H Hf H' ak->ae K ak d v->Q v H')
def jR (n:Nat) (ds:List D):aX:=ds.map Slot.fr++aP (n - ds.length) Slot.no
def Wx (o:Option Out):Option D:=match o with
 | some (.rt d)=>some d
 | some (.nx _)=>some .non
 | _=>none
def wL (m:Nat) (F:FS):List D->Option D:=λds=>Wx (F (jR m ds))
def VF {K:Eh} {N:List Str} {H Hf:Hp} {ds:List D} {vs:List V} (sf:yw Hf H) (h:zR K Hf ds vs):Rep K H Hf (L2.start N vs) (jR N.length ds) H Hf where
 s0:=zH
 sf:=sf
 nf:=λb o e=>.inl e
 f0:=zH
 len:=by unfold jR L2.start; simp [h.length]
 fr:=λi d e=>by
  unfold jR at e
  unfold L2.start
  by_cases hi:i < ds.length
  .rw [lZ (by simpa using hi)] at e
   rw [cK] at e
   cases e1:ds[i]? with
   | none=>rw [e1] at e; cases e
   | some d' =>
    rw [e1] at e; cases e
    obtain ⟨v,e2,c⟩:=h.get e1
    refine ⟨v,?_,c⟩
    have f:=h.length
    rw [lZ (by simp; omega),cK,e2]
    rfl
  .rw [iC (by simpa using hi),pj] at e
   split at e <;> cases e
 ow:=λi sl e o=>by
  unfold jR at e
  by_cases hi:i < ds.length
  .rw [lZ (by simpa using hi),cK] at e
   cases e1:ds[i]? with
   | none=>rw [e1] at e; cases e
   | some d'=>rw [e1] at e; cases e; cases o
  .rw [iC (by simpa using hi),pj] at e
   split at e
   .cases e; cases o
   .cases e
 inj:=λi j sl fN a e o g o' _ _=>by
  unfold jR at e
  by_cases hi:i < ds.length
  .rw [lZ (by simpa using hi),cK] at e
   cases e1:ds[i]? with
   | none=>rw [e1] at e; cases e
   | some d'=>rw [e1] at e; cases e; cases o
  .rw [iC (by simpa using hi),pj] at e
   split at e
   .cases e; cases o
   .cases e
section
variable {P:Ex} {w:ER} {K:Eh} {mg:Str->Option Value} {base:Heap}
set_option tactic.hygienic true in
def z5  {st:Stmt} (i:N.length=m) (g:ps.length=n) (j:Fun K x qual st f fd) (S:FnScope N ps (zl st))
  (body:∀ (aq:Value) (A:Around) (outer:List Env) (s:Shared) (H:Hp) (E:XK),Room k (A.deeper (envOfC qual (zl st) s.heap.objs.size f aq)) →
   iV (Zb eY P w K mg base N qual (zl st) f aq A outer s H E).nox (xM st) F) :
  FnOk P w K mg base eY (k+1) f fd ps (spF K n (wL m F)):=by
 subst i g
 refine j.ok S (λvs H Q E h=>?_) (λaq A outer s H vs Q E c h=>?_)
 .obtain ⟨Hf,ds,d,_,h1,h2,_⟩:=h
  rw [h1.length]; exact h2
 .obtain ⟨Hf,ds,d,sf,h1,h2,a,q⟩:=h
  refine ⟨_,body aq A outer s H E c,?_⟩
  unfold wL Wx at a
  have R:=VF (N:=N) sf h1
  have fin:∀ (v:V) (aL:St) (aO:aX) (H' ak:Hp),Rep K H Hf aL aO H' ak->ae K ak d v->Q v H':=λv aL aO H' ak R' b=>q v H' ak ⟨R'.s0,R'.f0,R'.sf,R'.nf⟩ b
  split at a
  .cases a
   rename_i d e
   exact ⟨H,Hf,_,Hf,_,R,e,λv aL aO H' ak R' _ b=>fin v aL aO H' ak R' b⟩
  .cases a
   rename_i aO e
   exact ⟨H,Hf,_,Hf,_,R,e,λaL H' ak R' _=>fin _ aL aO H' ak R' (EW.mpr rfl)⟩
  .cases a
end
section
variable {X:Cx} {e:Expr} {es:List Expr} {fa:FA} {pos:Pos}
def zai (z:FnOk X.prog X.w X.K X.mg X.base CX k f fd ps (spF X.K n g)) (l:Room k X.A) (hg:Gl X x) (o:X.mg x=some (.ref f))
  (r:W.keepIn X.K (.ref f)=true) (t:Vo X.K fd ps []) (i:Kt CX X E) (u:DA X (e :: es) fa) (m:∀ ρ ds,fa ρ=some ds->ds.length=n)
  (a:(x==("__debug__":Str))=false:=by decide) (s:Ei (e :: es) X.env=(false,eval e X.env) :: Ei es X.env:=by rfl) (w:(F_ pos (Ei es X.env)).any (·.1)=false:=by rfl) :
  DE X (.Call (.Name x p) (e :: es) [] pos) (zW g fa) :=
 yz (NN z l hg o r t .nil i u a s w) λσ H Q ⟨H₀,aa,ρ,Hf,d,R,q,k⟩=>by
  obtain ⟨ds,e1,e2⟩:=yt q
  refine ⟨H₀,aa,ρ,Hf,ds,R,e1,λvs H1 y c s1 h h1=>?_⟩
  show spF X.K n g (vs++[]) H1 Q E
  rw [bX]
  exact ⟨y,ds,d,c.sf,h1,m ρ ds e1,e2,λv H2 a9 b j=>k _ _ _ (c.grows b) (s1.trans b.h) (h.trans b.f) j⟩
end
def D7:∀ ρ ds,zq ρ=some ds->ds.length=0:=λρ ds h=>by cases h; rfl
def Xb (h:∀ (ρ:aX) (ds:List D),g ρ=some ds->ds.length=n):∀ ρ ds,zb f g ρ=some ds->ds.length=n+1:=λρ ds q=>by
 obtain ⟨x,xs,_,e2,rfl⟩:=Zc q
 simp [h ρ xs e2]
def law_sp {K:Eh} {ns:List Int} (c:bG K H a (ns.map V.int)) (hg:g [.lst (ns.map D.int)]=some (.bl true)):spF K 1 g [.ref a] H (λv _=>v=.bl true) λ_ _ _=>False :=
 ⟨H,[.lst (ns.map D.int)],.bl true,zH,.cons (EJ.mpr ⟨a,_,rfl,c,zR.ints ns⟩) .nil,rfl,hg,λv H' ak _ b=>Ew.mp b⟩
def oD:D->String
 | .non=>"NoneType"
 | .bl _=>"bool"
 | .int _=>"int"
 | .str _=>"str"
 | .tup _=>"tuple"
 | .lst _=>"list"
def GK (t T:String):Bool:=t==T||(t=="bool"&&T=="int")
def zd6 (T:String) (d:D):Option D:=some (.bl (GK (oD d) T))
def zdh (T:String):Prop:=∀ (K:Eh) (d:D),PySem.W.kitOne K (.type (oD d)) (.type T)=some (GK (oD d) T)
def MY:zdh "list":=λK d=>by cases d <;> kernel_rfl
section
variable {X:Cx} {pins:List (Addr×Obj)} {σ:St} {H:Hp} {s:Shared} {A:Around} {E:Value->Shared->Prop} {Q:Value->Shared->Prop} {c:Value} {b:Bool}
def Fi (I:Inv X pins σ H s) (hd:ae X.K H d v) (f:xv v u) (e:PySem.W.kitOne X.K (.type (oD d)) c=some b) (h:∀ tk,Q (.bool b) { s with toks:=tk }) :
  Ek (EA X.prog X.w) A (call (.builtin "isinstance") [u,c]) Q E s:=by
 cases d with
 | non=>rw [EW] at hd; subst hd; cases f; exact IV PySem.W.kitx_none I.kIn True.intro e (λz=>nomatch z) h
 | bl y=>rw [Ew] at hd; subst hd; cases f; exact IV PySem.W.kitx_bool I.kIn True.intro e (λz=>nomatch z) h
 | int y=>rw [AC] at hd; subst hd; obtain ⟨t,rfl⟩:=f; exact IV PySem.W.kitx_int I.kIn True.intro e (λz=>nomatch z) h
 | str y=>rw [ED] at hd; subst hd; obtain ⟨t,rfl⟩:=f; exact IV PySem.W.kitx_str I.kIn True.intro e (λz=>nomatch z) h
 | tup ds =>
  obtain ⟨a,xs,rfl,q,_⟩:=Es.mp hd
  cases f
  obtain ⟨ah,_,⟨o,h1,h2,_⟩,_⟩:=I.tuple q
  exact IV PySem.W.kitx_tuple I.kIn ⟨o,h1,h2⟩ e (λz=>nomatch z) h
 | lst ds =>
  obtain ⟨a,xs,rfl,q,_⟩:=EJ.mp hd
  cases f
  obtain ⟨ah,_,⟨o,n,h1,h2,_⟩,_⟩:=I.list q
  exact IV PySem.W.kitx_list I.kIn ⟨o,h1,h2⟩ e (λz=>nomatch z) h
end
section
variable {X:Cx} {e a b c:Expr} {es:List Expr} {f g h:FE} {fa ga:FA} {pos:Pos}
def Cj (k:zdh T):wI X (.builtin "isinstance") (λxs H Q=>∃ v d,xs=[v,.ty T]/\ae X.K H d v/\Q (.bl (GK (oD d) T)) H):=by
 intro pins s σ H xs us Q I r h
 obtain ⟨v,d,rfl,hd,q⟩:=h
 obtain ⟨u,l,rfl,j,i⟩:=CJ r
 cases i
 exact Fi I hd j (k X.K d) λtk=>⟨.bl _,H,I.tok _,rfl,q⟩
def zag (B:zdh T) (A:DR X a f) (hg:Gl X x) (z:X.mg x=none) (s:Gl X y) (t:X.mg y=none) (u:E4 x=some (.builtin "isinstance"):=by rfl) (j:E4 y=some (.type T):=by rfl)
  (w:x≠"__name__":=by decide) (m:(x==("__debug__":Str))=false:=by decide) (E:y≠"__name__":=by decide) (i:(y==("__debug__":Str))=false:=by decide)
  (n:Ei [a,.Name y p2] X.env=(false,eval a X.env) :: Ei [.Name y p2] X.env:=by rfl) (l:Ei [.Name y p2] X.env=(false,eval (.Name y p2) X.env) :: Ei [] X.env:=by rfl) (C:(F_ pos (Ei [.Name y p2] X.env)).any (·.1)=false:=by rfl) :
  DE X (.Call (.Name x p) [a,.Name y p2] [] pos) (UL (zd6 T) f) :=
 yz (ka (Cj B) hg z u (xi A (xi (NP (v:=.ty T) s t j rfl E i) vw l) n) w m n C) λσ H Q ⟨H₀,aa,ρ,Hf,d,R,q,k⟩=>by
  obtain ⟨x,e1,e2⟩:=zO q
  cases e2
  exact ⟨H₀,aa,ρ,Hf,x,R,e1,λv H1 F o s1 r h1=>⟨v,x,rfl,h1.full o,k _ _ _ o s1 r (Ew.mpr rfl)⟩⟩
def Ur (hg:Gl X x) (d:∃ t,X.mg x=some (.str z t)) (hd:(x==("__debug__":Str))=false:=by decide):DE X (.Name x pos) (cF (.str z)):=by
 obtain ⟨t,d⟩:=d
 exact MN hg d rfl ⟨t,rfl⟩ hd
def Us (hg:Gl X x) (d:∃ t,X.mg x=some (.int z t)) (hd:(x==("__debug__":Str))=false:=by decide):DE X (.Name x pos) (cF (.int z)):=by
 obtain ⟨t,d⟩:=d
 exact MN hg d rfl ⟨t,rfl⟩ hd
end
structure HasFn (P:Ex) (w:ER) (K:Eh) (mg:Str->Option Value) (base:Heap) (k:Nat) (x:Str) (n:Nat) (g:List D->Option D):Prop where
 ex:∃ (f:Addr) (fd:Iy) (ps:List Str),FnOk P w K mg base eY k f fd ps (spF K n g)/\mg x=some (.ref f)/\W.keepIn K (.ref f)=true/\Vo K fd ps []
def Rn (m:HasFn X.prog X.w X.K X.mg X.base k x n g) (b:Room k X.A) (hg:Gl X x) (h:DA X (e :: es) fa) (c:∀ ρ ds,fa ρ=some ds->ds.length=n)
  (a:(x==("__debug__":Str))=false:=by decide) (d:Ei (e :: es) X.env=(false,eval e X.env) :: Ei es X.env:=by rfl) (l:(F_ pos (Ei es X.env)).any (·.1)=false:=by rfl) :
  DE X (.Call (.Name x p) (e :: es) [] pos) (zW g fa):=by
 obtain ⟨f,fd,ps,h1,h2,j,i⟩:=m.ex
 exact zai h1 b hg h2 j i zck h c a d l
def HL (h:n < 2 ^ k) (a:k<=8000):n < big:=fZ h (Nat.pow_le_pow_right (by decide) a)
def Yi (h1:i.natAbs < big) (h2:j.natAbs < big):QY i j:=.inr (.inr ⟨h1,h2⟩)
def uL (h1 : -(2 ^ 64) < i) (h2:i < 2 ^ 64):QY i j:=.inl (by omega)
def vk (h:QY i j):JD (.int i) (.int j)=some (.int (i * j)):=by
 show (if QY i j then _ else _)=_
 rw [if_pos h]
def y7 (h:0 < j):Zr (.int i) (.int j)=some (.int (i % j)):=by
 show (if 0 < j then _ else _)=_
 rw [if_pos h]
def uh (h:0 < j) (h2:j < 2 ^ 64):qe (.int i) (.int j)=some (.int (i / j)):=by
 show (if RQ j then _ else _)=_
 rw [if_pos ⟨h,h2⟩]
def NF (h:RB i j):za7 (.int i) (.int j)=some (.int (i ^ j.toNat)):=by
 show (if RB i j then _ else _)=_
 rw [if_pos h]
def P5  : b9 (.int i) (.int j)=some (.bl (decide (i=j))):=by unfold b9; simp [dep,bx]; rfl
def Pc  : fY (.int i) (.int j)=some (.bl (!decide (i=j))):=by unfold fY; simp [dep,bx]; rfl
def Xt {lo hi:Int} {i:Nat} (h:(yy lo hi)[i]? = some d):d=.int (lo+i)/\(i:Int) < hi - lo:=by
 unfold yy at h
 rw [cK] at h
 cases e:(aK (hi - lo).toNat)[i]? with
 | none=>rw [e] at h; cases h
 | some j =>
  rw [e] at h
  cases h
  obtain ⟨h1,h2⟩:=iS.mp e
  simp at h1 h2
  subst h2
  exact ⟨rfl,by omega⟩
def j8 (lo hi):(yy lo hi).length=(hi - lo).toNat:=by simp [yy]
def qI (env:Env):List (Str×NameKind)->List (Str×Addr)->Option (List (Str×Addr))
 | [],cs=>some cs
 | (n,k) :: r,cs=>if k==.free then match env.cells.lookup n with
   | some c=>qI env r ((n,c) :: cs)
   | none=>none
  else qI env r cs
def qJ (env:Env):(Str×NameKind)->List (Str×Addr)->Sem (ForInStep (List (Str×Addr))):=λx c=>match x with
 | (name,kind)=>if (kind==EL)=true then do let a ← cellOf env name; pure (IW ((name,a) :: c)) else pure (IW c)
def Xg (a:(k==EL)=true) (b:env.cells.lookup n=some c):qJ env (n,k) cs=pure (.yield ((n,c) :: cs)):=by
 unfold qJ cellOf
 simp only [a,if_true,b]
 rfl
def Uw (a:(k==EL)=false):qJ env (n,k) cs=pure (.yield cs):=by
 unfold qJ
 simp only [a,b5,if_false]
theorem Ze  : ∀ l b cl,qI env l b=some cl->(forIn l b (qJ env):Sem (List (Str×Addr)))=pure cl
 | [],b,cl,h=>by cases h; rfl
 | (n,k) :: r,b,cl,h=>by
  rw [List.forIn_cons]
  unfold qI at h
  cases a:k==EL with
  | true =>
   rw [a] at h
   cases d:env.cells.lookup n with
   | none=>rw [d] at h; cases h
   | some c =>
    rw [d] at h
    rw [Xg a d]
    exact Ze r _ cl h
  | false =>
   rw [a] at h
   rw [Uw a]
   exact Ze r _ cl h
def W3 (h:qI env scope.names []=some cl):closureFor scope env=pure cl:=by
 have e:=Ze (env:=env) scope.names [] cl h
 unfold closureFor
 simp only [bind_pure]
 exact e
theorem Zd  : ∀ l a,(∀ n,(n,EL)∈l->∃ c,env.cells.lookup n=some c)->(∀ x c,a.lookup x=some c->env.cells.lookup x=some c) →
    ∃ cl,qI env l a=some cl/\(∀ x c,cl.lookup x=some c->env.cells.lookup x=some c)/\(∀ x c,a.lookup x=some c->∃ s,cl.lookup x=some s)/\∀ n,(n,EL)∈l->∃ c,cl.lookup n=some c
  | [],a,_,h2=>⟨a,rfl,h2,λx c e=>⟨c,e⟩,λn p=>by cases p⟩
  | (n,k) :: r,a,h1,h2=>by
    cases h:k==EL with
    | true =>
      have i:k=.free:=by simpa using h
      subst i
      obtain ⟨c,o⟩:=h1 n aV
      obtain ⟨cl,e1,e2,g,j⟩:=Zd r ((n,c) :: a) (λm b=>h1 m (aZ _ b)) (λx d e=>by
        rw [iA] at e
        cases f:x==n with
        | true => rw [f] at e; cases e; have:x=n:=(by simpa using f); rw [this]; exact o
        | false=>rw [f] at e; exact h2 x d e)
      refine ⟨cl,by unfold qI; rw [h,o]; exact e1,e2,λx d e=>?_,λm b=>?_⟩
      · cases f:x==n with
        | true=>exact g x c (by rw [iA,f])
        | false=>exact g x d (by rw [iA,f]; exact e)
      · rcases aS.mp b with q | q
        · cases q; exact g n c (by rw [iA]; simp)
        · exact j m q
    | false =>
      obtain ⟨cl,e1,e2,g,j⟩:=Zd r a (λm b=>h1 m (aZ _ b)) h2
      refine ⟨cl,by unfold qI; rw [h]; exact e1,e2,g,λm b=>?_⟩
      rcases aS.mp b with q | q
      · cases q; simp at h
      · exact j m q
structure CompScope (j_:Scope) (scope:Scope) (own frees:List Str):Prop where
 kind:scope.kind=.function
 nocell:∀ y∈scope.names,y.2≠.cell
 loc:∀ y∈scope.names,y.2=.local->scope.names.lookup y.1=some .local
 free:∀ y∈scope.names,y.2=.free->j_.names.lookup y.1=some .cell\/j_.names.lookup y.1=some .free
 capt:∀ x∈frees,(j_.names.lookup x=some .cell\/j_.names.lookup x=some .free)/\scope.names.lookup x=some .free
theorem Xz  : ∀ {l:List (Str×α)} {x:Str} {k:α},l.lookup x=some k->(x,k)∈l
  | [],_,_,h=>by simp at h
  | (n,k) :: r,x,b,h=>by
    rw [iA] at h
    cases a:x==n with
    | true => rw [a] at h; cases h; have:x=n:=(by simpa using a); subst this; exact aV
    | false=>rw [a] at h; exact aZ _ (Xz h)
theorem Xr {env:Env} {x:Str}:∀ {l:List (Str×NameKind)},(∀ y∈l,y.2≠.cell) →
    ((l.map λ(n,k)=>if (k==EL&&env.scope.kind==.function&&env.kindOf n==some .cell) then (n,NameKind.cell) else (n,k)).lookup x=some .cell ∨
     (l.map λ(n,k)=>if (k==EL&&env.scope.kind==.function&&env.kindOf n==some .cell) then (n,NameKind.cell) else (n,k)).lookup x=some .free)->(x,EL)∈l
  | [],_,h=>by simp at h
  | (n,k) :: r,d,h=>by
    have c:=@Xr env x r (λy e=>d y (aZ _ e))
    have f:k≠.cell:=d (n,k) aV
    rw [aC] at h
    by_cases b:(k==EL&&env.scope.kind==.function&&env.kindOf n==some .cell)=true
    · simp only [b,if_true,iA] at h
      cases a:x==n with
      | true =>
        have e1:x=n:=by simpa using a
        have e2:k=.free:=by simp at b; exact b.1.1
        subst e1 e2; exact aV
      | false=>rw [a] at h; exact aZ _ (c h)
    · simp only [b,b5,if_false,iA] at h
      cases a:x==n with
      | true =>
        rw [a] at h
        have e1:x=n:=by simpa using a
        subst e1
        rcases h with h | h
        · cases h; exact absurd rfl f
        · cases h; exact aV
      | false=>rw [a] at h; exact aZ _ (c h)
theorem Zn {env:Env} {x:Str}:∀ {l:List (Str×NameKind)},l.lookup x=some .free →
    ((l.map λ(n,k)=>if (k==EL&&env.scope.kind==.function&&env.kindOf n==some .cell) then (n,NameKind.cell) else (n,k)).lookup x=some .cell ∨
     (l.map λ(n,k)=>if (k==EL&&env.scope.kind==.function&&env.kindOf n==some .cell) then (n,NameKind.cell) else (n,k)).lookup x=some .free)
  | [],h=>by simp at h
  | (n,k) :: r,h=>by
    have b:=@Zn env x r
    rw [aC]
    rw [iA] at h
    by_cases c:(k==EL&&env.scope.kind==.function&&env.kindOf n==some .cell)=true
    · simp only [c,if_true,iA]
      cases a:x==n with
      | true=>exact .inl rfl
      | false=>rw [a] at h; exact b h
    · simp only [c,b5,if_false,iA]
      cases a:x==n with
      | true=>rw [a] at h; exact .inr h
      | false=>rw [a] at h; exact b h
def Uu (I:Nat->Shared->Prop)
  (b:∀ n s,I n s->Ek (EA prog w) A (pyNext it) (λr a=>match r with
   | none=>R (.ok .next) a
   | some v=>Ek (EA prog w) A (Ln target it v) (λ_ f=>Ek (EA prog w) A (assign target env v) (λ_ j =>
     Ek (EA prog w) A (forIn ifs true λc r=>if r=true then do let ok ← isTrue c env (eval c env); pure (IW ok) else pure (IW r)) (λok d =>
      if ok=true then Ek (EA prog w) A (eval elt env) (λx g =>
       Ek (EA prog w) A (call (.builtin "list.append") [acc,x]) (λ_ e=>∃ m,m < n/\I m e) (λ_ _=>False) g) (λ_ _=>False) d
      else ∃ m,m < n/\I m d) (λ_ _=>False) j) (λ_ _=>False) f) (λ_ _=>False) a) (λ_ _=>False) s)
  (n:Nat) (h:I n s) :
  codeAny (EA prog w) A (.compLoop (.ListComp elt [⟨target,iter,ifs,0⟩] scope pos) 0 it acc env) R s:=by
 refine codeAny_loop rfl I (λn s l=>?_) n h
 show Ek _ A ((compTurn (.ListComp elt [⟨target,iter,ifs,0⟩] scope pos) 0 it acc env).onRaise (λx=>do noteFrame x env; theTreesLotGoes x)) _ _ s
 refine wpAny_noted ?_
 rw [compTurn_list]
 refine be (wpAny_standAt (be (EB (b n s l) (λr a h₁=>?_) λ_ _ h'=>h'.elim)))
 cases r with
 | none=>exact mo h₁
 | some v =>
  refine be (EB h₁ (λ_ f q=>?_) λ_ _ h'=>h'.elim)
  refine be (EB q (λ_ j o=>be (EB o (λok d i=>?_) λ_ _ h'=>h'.elim)) λ_ _ h'=>h'.elim)
  cases ok with
  | false=>exact mo ⟨rfl,i⟩
  | true =>
   exact be (be (EB i (λx g p=>be (EB p (λ_ e k=>mo (mo ⟨rfl,k⟩)) λ_ _ h'=>h'.elim)) λ_ _ h'=>h'.elim))
def fJ (X:Cx) (scope:Scope) (cl:List (Str×Addr)) (C:Addr) (N:List Str) (s:Shared) (H:Hp) (fp:List Addr):Cx :=
 { X with N:=N,s₀:=s,H₀:=H,env:=compEnvC scope cl C X.env,outer:=X.stack,stack:=X.stack,ex:=fp,fn:=λ_=>false,pn:=[],xe:=λ_ _=>False }
def sF (ρ:aX) (j:Nat):Slot:=match ρ[j]? with
 | some (.fr d)=>.fr d
 | _=>.no
def y8 (γ:FG) (ft:FT) (f:FE):List D->aX->Option (List D)
 | [],_=>some []
 | d :: ds,ρ=>(γ d ρ).bind λa=>(ft a).bind λb=>if b=true then (f a).bind λy=>(y8 γ ft f ds a).bind λys=>some (y :: ys) else y8 γ ft f ds a
def uS (n:Nat) (caps:List Nat) (ρ:aX):aX:=aP n .no++caps.map (sF ρ)
def qf (n:Nat) (caps:List Nat) (fi:FA) (γ:FG) (ft:FT) (f:FE):FA:=λρ=>(fi ρ).bind λds=>if ds.length<=sizeLine then y8 γ ft f ds (uS n caps ρ) else none
def DQ (X:Cx) (a:List Expr) (ft:FT):Prop :=
 ∀ (pins:List (Addr×Obj)) (s:Shared) (σ:St) (H:Hp) (Q:Bool->Hp->Prop),Inv X pins σ H s->tT X.K ft σ H Q →
  Ek (EA X.prog X.w) X.A (forIn a true λc r=>if r=true then do let ok ← isTrue c X.env (eval c X.env); pure (IW ok) else pure (IW r)) (TP X pins σ Q) X.xe s
def dk:FT:=λ_=>some true
def xV  : DQ X [] dk:=λpins s σ H Q I h=>by
 obtain ⟨H₀,aa,ρ,Hf,b,R,q,k⟩:=h
 cases q
 exact wpAny_tests_nil ⟨H,I,k _ _ R zH zH⟩
def XG (h:DT X c ft):DQ X [c] ft:=λpins s σ H Q I a=>wpAny_tests_one (h pins s σ H Q I a)
def W2 (n:Nat) (caps:List Nat) (σ:St):St:=aP n none++caps.map (λj=>σ.getD j none)
section
variable {X:Cx} {scope:Scope} {own frees:List Str} {caps:List Nat} {cl:List (Str×Addr)}
def zak {pins:List (Addr×Obj)} {s:Shared} {σ:St} {H:Hp} {fp:List Addr} {C:Addr} {N:List Str} (I:Inv X pins σ H s) (S:CompScope X.env.scope scope own frees) (d:∀ b∈fp,jK X pins H b) (i:∀ b∈fp,b < s.heap.objs.size)
  (f:∀ x c,cl.lookup x=some c->X.env.cells.lookup x=some c) (k:∀ n,(n,EL)∈scope.names->∃ c,cl.lookup n=some c) (g:s.heap.objs.size<=C):(fJ X scope cl C N s H fp).Ok where
 mod:=I.ok.mod
 kind:=S.kind
 glob:=I.ok.glob
 blt:=I.ok.blt
 above:=g
 inj:=λx y c e1 e2=>I.ok.inj x y c (f x c e1) (f y c e2)
 has:=λx j=>k x (Xr S.nocell j)
 cab:=λx c h=>by cases h
 hd:=I.ok.hd
 frames:=I.ok.frames
 stk:=.inl rfl
 exf:=λb a=>⟨cZ (fZ (i b a) g),λx c e=>(d b a).2.2.2.2.1 x c (f x c e)⟩
 bs:=I.bs
 bsz:=fc I.ok.bsz I.sz
 noex:=λb o e a=>by
  rcases (d b a).2.2.2.1 with z | z
  .exact I.ok.noex b o e z
  .exact absurd (fZ (El e) (fc I.ok.bsz z)) (mm _)
 exfs:=λb a z=>by
  rcases aS.mp (I.stkSub b z) with q | q
  .exact (d b a).2.1 q
  .exact (d b a).2.2.1 q
 funs:=I.stack
 frf:=I.stkFree
def Pj  {N:List Str} (h:caps.map (λj=>N[j]?)=frees.map some) {k:Nat} (e:frees[k]? = some x):∃ j,caps[k]? = some j/\N[j]? = some x:=by
 have:=congrArg (λl=>l[k]?) h
 simp only [cK,e,bL] at this
 cases a:caps[k]? with
 | none=>rw [a] at this; cases this
 | some j=>rw [a] at this; exact ⟨j,rfl,by simpa using this⟩
def Ro   {σ:St} (I:Inv X pins σ H s) (S:CompScope X.env.scope scope own frees) (q:caps.map (λj=>X.N[j]?)=frees.map some) (R:∀ b∈fp,jK X pins H b) (J:∀ b∈fp,b < s.heap.objs.size)
  (h:∀ x c,cl.lookup x=some c->X.env.cells.lookup x=some c) (E:∀ n,(n,EL)∈scope.names->∃ c,cl.lookup n=some c) {C:Addr} (g:C=s.heap.objs.size+1) (L:h'.Ns C λ_=>none)
  (d:Heap.SameBut C ((s.heap.push { cls:=.type "list",dict:=none,data:=.seq #[] }).push { cls:=.type "dict",data:=.dict #[] }) h') :
  Inv (fJ X scope cl C (own++frees) s H fp) [] (W2 own.length caps σ) (upd H s.heap.objs.size (.lst [])) { s with heap:=h',toks:=t' }:=by
 have k:∀ b u,s.heap.get? b=some u->h'.get? b=some u:=λb u e=>(d.2 b (by rw [g]; exact cZ (rY (El e)))).trans (ls _ (ls _ e))
 have Q:h'.get? s.heap.objs.size=some { cls:=.type "list",dict:=none,data:=.seq #[] }:=(d.2 _ (by rw [g]; exact cZ (AY _))).trans (ls _ (Ej _ rfl))
 have M:H s.heap.objs.size=none:=I.hok.fresh (aT _)
 have U:H C=none:=I.hok.fresh (by rw [g]; exact mj _)
 have l:C≠s.heap.objs.size:=by rw [g]; exact Nat.succ_ne_self _
 have new:vD X.prog X.w (upd H s.heap.objs.size (.lst [])) h' s.heap.objs.size (.lst []):=⟨by decide,[],0,.nil,Q⟩
 refine ⟨zak I S R J h E (by rw [g]; exact mj _),rfl,I.bare,Un.laid k (aT _) M,⟨λ_=>none,L,?_⟩,?_,?_,?_,?_,I.hok.laid k (aT _) new,?_⟩
 .intro i x v e1 e2 W
  have e1:(own++frees)[i]? = some x:=e1
  unfold W2 at e2
  by_cases h1:i < own.length
  .rw [lZ (by simpa using h1),pj,if_pos h1] at e2
   cases e2
  .rw [iC (by simpa using h1)] at e2
   rw [iC (by omega)] at e1
   have B:caps.length=frees.length:=by have:=congrArg ny q; simpa using this
   simp only [g3u] at e2
   .rw [cK] at e2
    obtain ⟨j,G,F⟩:=Pj q e1
    rw [G] at e2
    have e2:σ.getD j none=some v:=by simpa using e2
    have t:σ[j]? = some (some v):=by
     rw [bR] at e2
     cases z:σ[j]? with
     | none=>rw [z] at e2; cases e2
     | some w=>rw [z] at e2; simp at e2; rw [e2]
    obtain ⟨A,a⟩:=S.capt x (sk e1)
    obtain ⟨m,Y,P⟩:=I.loc
    obtain ⟨u,r,lk⟩:=P j x v F t (.inr A)
    refine ⟨u,r,?_⟩
    rcases lk with ⟨k1,_⟩ | ⟨k1,c,k2,k3⟩
    .have k1:X.env.scope.names.lookup x=some .local:=k1
     rcases A with z | z <;> rw [z] at k1 <;> cases k1
    .obtain ⟨T,y⟩:=E x (Xz a)
     have z:=h x T y
     rw [k2] at z; cases z
     obtain ⟨o,f,hd⟩:=k3
     exact .inr ⟨Zn a,c,y,o,k _ _ f,hd⟩
 .intro x c e
  obtain ⟨v,o,f,hd⟩:=I.cell x c (h x c e)
  exact ⟨v,o,k _ _ f,hd⟩
 .show (upd H s.heap.objs.size (.lst [])) C=none
  rw [z6 l]; exact U
 .intro x c e
  have z:=I.freeC x c (h x c e)
  obtain ⟨v,o,f,hd⟩:=I.cell x c (h x c e)
  show (upd H s.heap.objs.size (.lst [])) c=none
  rw [z6 (cZ (El f))]; exact z
 .intro p O; cases O
 .show (W2 own.length caps σ).length=(own++frees).length
  have B:caps.length=frees.length:=by have:=congrArg ny q; simpa using this
  simp [W2,B]
def kC (ρ:aX):Prop:=∀ (i:Nat) (sl:Slot),ρ[i]? = some sl->sl.own=false
def Rep.rebase {K:Eh} {H₀ aa:Hp} {σ:St} {ρ:aX} {H Hf H':Hp} (R:Rep K H₀ aa σ ρ H Hf) (b:kC ρ) (c:yw Hf H'):Rep K H' Hf σ ρ H' Hf where
 s0:=zH
 sf:=c
 nf:=λ_ _ e=>.inl e
 f0:=zH
 len:=R.len
 fr:=R.fr
 ow:=λi sl e o=>by rw [b i sl e] at o; cases o
 inj:=λi j sl fN a e o=>by rw [b i sl e] at o; cases o
def jG (γ:FG):Prop:=∀ d ρ aO,γ d ρ=some aO->kC ρ->kC aO
def kC.set (h:kC ρ) (i) (d:D):kC (ρ.set i (.fr d)):=λj sl e=>by
 rw [ff] at e
 split at e
 .split at e
  .cases e; rfl
  .cases e
 .exact h j sl e
def yb  : jG (zL i):=λd ρ aO e h=>by cases e; exact h.set i d
def ZM (δ:oj):Prop:=∀ ds ρ aO,δ ds ρ=some aO->kC ρ->kC aO
def qy:ZM kG:=λds ρ aO e h=>by
 cases ds with
 | nil=>cases e; exact h
 | cons _ _=>cases e
def yQ (h1:jG γ) (h2:ZM δ):ZM (yp γ δ):=λds ρ aO e h=>by
 cases ds with
 | nil=>cases e
 | cons d r =>
  have e:(γ d ρ).bind (λaO=>δ r aO)=some aO:=e
  cases e1:γ d ρ with
  | none=>rw [e1] at e; cases e
  | some a=>rw [e1] at e; exact h2 r a aO e (h1 d ρ a e1 h)
def Zs (h:ZM δ):jG (jM n δ):=λd ρ aO e a=>by
 unfold jM at e
 split at e
 .split at e
  .exact h _ ρ aO e a
  .cases e
 .cases e
def kC.comp    : kC (uS n caps ρ):=λi sl e=>by
 unfold uS at e
 by_cases h:i < n
 .rw [lZ (by simpa using h),pj,if_pos h] at e
  cases e; rfl
 .rw [iC (by simpa using h),cK] at e
  cases q:caps[i - (aP n Slot.no).length]? with
  | none=>rw [q] at e; cases e
  | some j =>
   rw [q] at e
   cases e
   unfold sF
   split <;> rfl
def De {K:Eh} {H₀ aa:Hp} {σ:St} {ρ:aX} {H Hf H':Hp} {n:Nat} {caps:List Nat} (R:Rep K H₀ aa σ ρ H Hf) (f:yw Hf H'):Rep K H' Hf (W2 n caps σ) (uS n caps ρ) H' Hf where
 s0:=zH
 sf:=f
 nf:=λ_ _ e=>.inl e
 f0:=zH
 len:=by simp [uS,W2]
 fr:=λi d e=>by
  unfold uS at e
  unfold W2
  by_cases h:i < n
  .rw [lZ (by simpa using h),pj,if_pos h] at e
   cases e
  .rw [iC (by simpa using h),cK] at e ⊢
   simp only [g3u] at e ⊢
   cases q:caps[i - n]? with
   | none=>rw [q] at e; cases e
   | some j =>
    rw [q] at e
    simp only [bL,ml.injEq] at e ⊢
    unfold sF at e
    split at e
    .cases e
     rename_i e
     obtain ⟨v,c,b⟩:=R.fr j d e
     exact ⟨v,by rw [bR,c]; rfl,b⟩
    .cases e
 ow:=λi sl e o=>by rw [kC.comp i sl e] at o; cases o
 inj:=λi j sl fN a e o=>by rw [kC.comp i sl e] at o; cases o
def Grows.trans (a:Grows H Hf H1 d) (b:Grows H1 d H2 a9):Grows H Hf H2 a9 :=
 ⟨a.h.trans b.h,a.f.trans b.f,b.fh,λc o e=>by
  rcases b.new c o e with q | q | q
  .exact a.new c o q
  .exact .inr (.inl (a.h.free q))
  .exact .inr (.inr q)⟩
def Rep.toGrows {K:Eh} (R:Rep K H Hf σ ρ H' ak):Grows H Hf H' ak:=⟨R.s0,R.f0,R.sf,R.nf⟩
def QP (h:y8 γ ft f (d :: ds) ρ=some ys) :
  ∃ a b,γ d ρ=some a/\ft a=some b/\((b=true/\∃ y r,f a=some y/\y8 γ ft f ds a=some r/\ys=y :: r)\/(b=false/\y8 γ ft f ds a=some ys)):=by
 unfold y8 at h
 cases e1:γ d ρ with
 | none=>rw [e1] at h; cases h
 | some a =>
  rw [e1] at h
  simp only [af] at h
  cases e2:ft a with
  | none=>rw [e2] at h; cases h
  | some b =>
   rw [e2] at h
   simp only [af] at h
   refine ⟨a,b,rfl,e2,?_⟩
   cases b with
   | false=>exact .inr ⟨rfl,by simpa using h⟩
   | true =>
    simp only [if_true] at h
    cases e:f a with
    | none=>rw [e] at h; cases h
    | some y =>
     rw [e] at h
     simp only [af] at h
     cases c:y8 γ ft f ds a with
     | none=>rw [c] at h; cases h
     | some r=>rw [c] at h; cases h; exact .inl ⟨rfl,y,r,rfl,rfl,rfl⟩
def Ut         {σ:St}
  (hc:X.calm=true) (S:CompScope X.env.scope scope own frees) (eD:caps.map (λj=>X.N[j]?)=frees.map some) (kn:jG γ)
  (body:∀ cl C s H fp,DG (fJ X scope cl C (own++frees) s H fp) tg γ/\DQ (fJ X scope cl C (own++frees) s H fp) ifs ft/\DE (fJ X scope cl C (own++frees) s H fp) elt f)
  (c1:∀ x c,cl.lookup x=some c->X.env.cells.lookup x=some c) (c2:∀ n,(n,EL)∈scope.names->∃ c,cl.lookup n=some c)
  (I:Inv X pins σ h a) (T:Turn X.prog X.w X.K tg J fp it tn) (st:tn 0 a.heap) (G:∀ b∈fp,jK X pins h b) (R:Rep X.K H₀ aa σ ρ h W) (wk:Walks X.K W J ds) (hz:ds.length<=sizeLine)
  (hgo:y8 γ ft f ds (uS own.length caps ρ)=some ys) {RR:Value->Addr->Result->Shared->Prop}
  (hRR:∀ D C s' H' ak xs,Inv X pins σ H' s'->(∃ m,s'.heap.Ns C m)->jK X pins H' C->Grows h W H' ak->zR X.K ak ys xs->H' D=some (.lst xs)->ak D=none->h D=none->RR (.ref D) C (.ok .next) s') :
  Ek (EA X.prog X.w) X.A (newList []) (λacc c8=>Ek (EA X.prog X.w) X.A (newFunctionEnv scope X.env.globals cl [] X.env.qual none .none (some X.env)) (λEb ik =>
   codeAny (EA X.prog X.w) X.A (.compStart (.ListComp elt [⟨tg,iter,ifs,0⟩] scope pos) 0 (.ref it) acc { Eb with scope:=relabel scope X.env }) (RR acc Eb.locals) ik) E c8) E a:=by
 have oV:∀ b∈fp,b < a.heap.objs.size:=λb g=>by
  obtain ⟨o,ho,_⟩:=T.obj 0 _ st b g
  exact El ho
 refine ES (wpAny_newFunctionEnv S.nocell (by intro y hy; simp at hy) (λh₁ gH fP=>?_) S.kind)
 dsimp only at gH fP ⊢
 have hC:(a.heap.push { cls:=.type "list",dict:=none,data:=.seq ([]:List Value).toArray }).objs.size=a.heap.objs.size+1:=by rw [Ld]
 generalize hCe:(a.heap.push { cls:=.type "list",dict:=none,data:=.seq ([]:List Value).toArray }).objs.size=C at hC gH fP ⊢
 obtain ⟨b1,b2,b3⟩:=body cl C a h fp
 have Z:h a.heap.objs.size=none:=I.hok.fresh (aT _)
 have IC:Inv (fJ X scope cl C (own++frees) a h fp) [] (W2 own.length caps σ) (upd h a.heap.objs.size (.lst [])) { a with heap:=h₁,toks:=a.toks+([]:List (Str×Value)).length } :=
  Ro I S eD G oV c1 c2 hC gH fP
 have DfD:W a.heap.objs.size=none:=R.sf.free Z
 have R1:Rep X.K (upd h a.heap.objs.size (.lst [])) W (W2 own.length caps σ) (uS own.length caps ρ) (upd h a.heap.objs.size (.lst [])) W:=De R (R.sf.trans (zQ Z))
 have Ad:∀ b o,a.heap.get? b=some o->h₁.get? b=some o:=λb u e=>(fP.2 b (by rw [hC]; exact cZ (rY (El e)))).trans (ls _ (ls _ e))
 have sV:tn 0 h₁:=T.keep 0 _ _ st λb _ o e=>Ad b o e
 have gC:∀ {H':Hp},(∀ b∈fp,H' b=none)->∀ b∈fp,jK (fJ X scope cl C (own++frees) a h fp) [] H' b:=λ{H'} hn b g=>by
  refine ⟨hn b g,cZ (fZ (oV b g) (by rw [hC]; exact mj _)),λz=>?_,.inl g,λx c e=>(G b g).2.2.2.2.1 x c (c1 x c e),λp hp=>by cases hp⟩
  rcases aS.mp (I.stkSub b z) with q | q
  .exact (G b g).2.1 q
  .exact (G b g).2.2.1 q
 have e_:∀ b∈fp,(upd h a.heap.objs.size (.lst [])) b=none:=λb g=>by
  rw [z6 (cZ (oV b g))]; exact (G b g).1
 have loop:∀ c8:Shared,c8={ a with heap:=h₁,toks:=a.toks+([]:List (Str×Value)).length } →
   codeAny (EA X.prog X.w) X.A (.compLoop (.ListComp elt [⟨tg,iter,ifs,0⟩] scope pos) 0 (.ref it) (.ref a.heap.objs.size) (compEnvC scope cl C X.env)) (RR (.ref a.heap.objs.size) C) c8:=by
  rintro c8 rfl
  refine Uu (λn s'=>∃ i aO aL H' ak zs xs r,n=ds.length - i/\i<=ds.length/\Inv (fJ X scope cl C (own++frees) a h fp) [] aL H' s'/\tn i s'.heap/\(∀ b∈fp,H' b=none)/\Rep X.K H' ak aL aO H' ak/\kC aO ∧
   y8 γ ft f (ds.drop i) aO=some r/\zs++r=ys/\zR X.K ak zs xs/\zs.length<=i/\H' a.heap.objs.size=some (.lst xs)/\ak a.heap.objs.size=none/\Grows h W H' ak) ?_ ds.length
   ⟨0,_,_,_,_,[],[],ys,by simp,dJ _,IC,sV,e_,R1,kC.comp,by simpa using hgo,rfl,.nil,by simp,zI,DfD,⟨zQ Z,zH,R1.sf,λb o e=>.inl e⟩⟩
  rintro n s' ⟨i,aO,aL,H',ak,zs,xs,r,rfl,hi,I',dq,fr',R',no',F,A,nQ,hzl,U,oY,B⟩
  obtain ⟨w1,w2⟩:=wk H' ak B.f R'.sf i
  by_cases gJ:i < ds.length
  .have hd:ds[i]? = some ds[i]:=fg gJ
   obtain ⟨go,yld⟩:=w1 _ hd
   rw [g3z gJ] at F
   obtain ⟨M,b,eg,et,g⟩:=QP F
   refine EB (T.item (fJ X scope cl C (own++frees) a h fp) rfl rfl rfl hc i [] s' aL H' (λ_ _=>False) I' (gC fr') dq go) (λrv s4 ⟨u,hr,h4⟩=>?_) λ_ _ z=>z
   subst hr
   refine EB h4 (λ_ s5 ⟨x,H5,I5,r5,y5,i7,A5⟩=>?_) λ_ _ z=>z
   obtain ⟨gU,gr5,hx5⟩:=yld x H5 y5
   have R5:Rep X.K H' ak aL aO H5 gU:=R'.grows gr5
   have I5':=I5.pinned (gC A5) (T.obj _ _ i7)
   refine EB (b1 _ s5 aL H5 x u _ I5' r5 ⟨H',ak,aO,gU,ds[i],M,R5,hx5,eg,λw H6 Q R6 t6=>(⟨Q,R6,t6⟩:∃ Q,Rep X.K H' ak w M H6 Q/\yw gU Q)⟩) (λ_ s6 h6=>?_) λ_ _ z=>z
   obtain ⟨w,H6,I6,Q,R6,t6⟩:=h6
   refine EB (b2 _ s6 w H6 (λb' H7=>b'=b/\∃ O,Rep X.K H' ak w M H7 O) I6 ⟨H',ak,M,Q,b,R6,et,λH7 O k s7 t7=>⟨rfl,O,k⟩⟩) (λok s7 h7=>?_) λ_ _ z=>z
   obtain ⟨H7,I7,rfl,O,k⟩:=h7
   have l:=kn _ _ _ eg no'
   have hm:ds.length - (i+1) < ds.length - i:=by omega
   rcases g with ⟨rfl,y,r',ef,er,rfl⟩ | ⟨rfl,er⟩
   .rw [if_pos rfl]
    refine EB (b3 _ s7 w H7 (λv P=>∃ t,Rep X.K H' ak w M P t/\ae X.K t y v) I7 ⟨H',ak,M,O,y,k,ef,λv P t L s8 t8 h8=>⟨t,L,h8⟩⟩) (λu' s8 h8=>?_) λ_ _ z=>z
    obtain ⟨v,P,I8,r8,t,L,h8⟩:=h8
    have hD8:P a.heap.objs.size=some (.lst xs):=L.s0 _ _ U
    have AE:t a.heap.objs.size=none:=by
     cases z:t a.heap.objs.size with
     | none=>rfl
     | some o =>
      rcases L.nf _ _ z with q | q | ⟨ks,rfl⟩
      .rw [oY] at q; cases q
      .rw [U] at q; cases q
      .have:=hD8.symm.trans (L.sf _ _ z); cases this
    have hsd:yw t (upd P a.heap.objs.size (.lst (xs++[v]))):=λb o e=>by rw [z6 (yq e AE)]; exact L.sf b o e
    refine EB (VZ (X:=fJ X scope cl C (own++frees) a h fp) _ s8 w P (.ref a.heap.objs.size) [v] _ [u'] (λ_ H9=>H9=upd P a.heap.objs.size (.lst (xs++[v]))) I8 rfl (.cons r8 .nil) ⟨_,xs,v,rfl,rfl,hD8,by have:=nQ.length; omega,rfl⟩) (λu9 s9 h9=>?_) λ_ _ z=>z
    obtain ⟨v9,H9,I9,_,rfl⟩:=h9
    refine ⟨_,hm,i+1,M,w,_,t,zs++[y],xs++[v],r',rfl,gJ,I9.unpinned,T.keep _ _ _ i7 λb g o e=>(I9.pin (b,o) (e9 _ (e9 _ (we g e)))).1,λb g=>?_,L.rebase l hsd,l,er,by rw [dh]; exact A,(nQ.mono L.f0).append (.cons h8 .nil),by simp; omega,zI,AE,?_⟩
    .obtain ⟨o,e,d⟩:=T.obj _ _ i7 b g
     exact (I9.pin (b,o) (e9 _ (e9 _ (we g e)))).2.1
    .have g8:=B.trans L.toGrows
     exact ⟨λb o e=>by rw [z6 (yq e Z)]; exact g8.h b o e,g8.f,hsd,g8.new⟩
   .rw [if_neg iR]
    refine ⟨_,hm,i+1,M,w,_,O,zs,xs,r,rfl,gJ,I7.unpinned,T.keep _ _ _ i7 λb g o e=>(I7.pin (b,o) (e9 _ (e9 _ (we g e)))).1,λb g=>?_,k.rebase l k.sf,l,er,A,nQ.mono k.f0,by omega,k.s0 _ _ U,?_,B.trans k.toGrows⟩
    .obtain ⟨o,e,d⟩:=T.obj _ _ i7 b g
     exact (I7.pin (b,o) (e9 _ (e9 _ (we g e)))).2.1
    .cases z:O a.heap.objs.size with
     | none=>rfl
     | some o =>
      rcases k.nf _ _ z with q | q | ⟨ks,rfl⟩
      .rw [oY] at q; cases q
      .rw [U] at q; cases q
      .have:=(k.s0 _ _ U).symm.trans (k.sf _ _ z); cases this
  .have:ds.drop i=[]:=List.drop_eq_nil_of_le (by omega)
   rw [this] at F
   cases F
   rw [bX] at A
   subst A
   refine EB (T.done (fJ X scope cl C (own++frees) a h fp) rfl rfl rfl hc i [] s' aL H' (λ_ _=>False) I' (gC fr') dq (w2 (by omega))) (λrv s4 ⟨hr,Y⟩=>?_) λ_ _ z=>z
   subst hr
   obtain ⟨m,hn,_⟩:=Y.loc
   have hch:∀ b∈fp,(b∈X.ex\/X.s₀.heap.objs.size<=b)/\b≠X.env.locals/\(∀ x c,X.env.cells.lookup x=some c->c≠b)/\∀ p∈X.pn++pins,p.1≠b:=λb g=>⟨(G b g).2.2.2.1,(G b g).2.1,(G b g).2.2.2.2.1,(G b g).2.2.2.2.2⟩
   exact hRR _ C s4 H' ak xs (I.call' (s':=s4) Y.os Y.base Y.hok Y.bare hch) ⟨m,hn⟩ (I.fpOk (by rw [hC]; exact mj _) Y.free) B nQ U oY Z
 exact codeAny_compStart_list (loop _ rfl) (T.self _ 0 _ _ _ sV (loop _ rfl))
def XH (h:qf n caps fi γ ft f ρ=some ys):∃ ds,fi ρ=some ds/\ds.length<=sizeLine/\y8 γ ft f ds (uS n caps ρ)=some ys:=by
 obtain ⟨ds,e1,e2⟩:=yt h
 split at e2
 .exact ⟨ds,e1,by assumption,e2⟩
 .cases e2
def B5 (I:Inv X pins σ H s) (S:CompScope X.env.scope scope own frees):∃ cl,closureFor scope X.env=pure cl/\(∀ x c,cl.lookup x=some c->X.env.cells.lookup x=some c)/\∀ n,(n,EL)∈scope.names->∃ c,cl.lookup n=some c:=by
 obtain ⟨cl,e1,e2,_,b⟩:=Zd (env:=X.env) scope.names [] (λn a=>I.ok.has n (S.free (n,.free) a rfl)) (λx c e=>by simp at e)
 exact ⟨cl,W3 e1,e2,b⟩
def yV (A:X.calm=true) (S:CompScope X.env.scope scope own frees) (O:caps.map (λj=>X.N[j]?)=frees.map some) (u:jG γ) (hi:DI X tg iter fi)
  (body:∀ cl C s H fp,DG (fJ X scope cl C (own++frees) s H fp) tg γ/\DQ (fJ X scope cl C (own++frees) s H fp) ifs ft/\DE (fJ X scope cl C (own++frees) s H fp) elt f)
  (y:∀ x,Lc iter X.env x=pure x:=by intro _; rfl):DN X (.ListComp elt [⟨tg,iter,ifs,0⟩] scope pos) (qf own.length caps fi γ ft f):=by
 intro pins s σ H Q I h
 obtain ⟨H₀,aa,ρ,Hf,ys,R,q,k⟩:=h
 obtain ⟨ds,e1,hz,e2⟩:=XH q
 obtain ⟨cl,F,U,P⟩:=B5 I S
 rw [eval_ListComp]
 refine wpAny_comprehension_free (use:=none) rfl y F S.kind S.loc (thn (hi pins s σ H (λJ H'=>∃ ak,Rep X.K H₀ aa σ ρ H' ak/\yw H H'/\yw Hf ak/\Walks X.K ak J ds) I ⟨H₀,aa,ρ,Hf,ds,R,e1,λJ H' ak R' s' t' a=>⟨ak,R',s',t',a⟩⟩) λv s1 h1=>thn h1 λw s2 h2=>?_)
 obtain ⟨it,fp,tn,J,H2,rfl,W,T,n,f2,a9,R2,l,c,a⟩:=h2
 refine Ut (RR:=compPost (EA X.prog X.w) X.A X.xe none (EP X pins σ Q)) A S O u body U P W T n f2 R2 a hz e2 ?_
 intro D C s' H' ak xs Y p Z i r E t g
 obtain ⟨m,z⟩:=p
 refine ⟨m,z,λh' d=>⟨.ref D,H',?_,rfl,?_⟩⟩
 .obtain ⟨f0,f1,f2,M,L,G⟩:=Z
  exact Y.turned (t':=s'.toks) (λb o B e=>(d.2 b B).trans e) f0 f1 M L G
 .exact k D xs H' ak (R2.grows i) (l.trans i.h) (c.trans i.f) r E t (l.free g)
def Kx (hc:X.calm=true) (S:CompScope X.env.scope scope own frees) (eD:caps.map (λj=>X.N[j]?)=frees.map some) (U:jG γ) (hi:DI X tg iter fi)
  (body:∀ cl C s H fp,DG (fJ X scope cl C (own++frees) s H fp) tg γ/\DQ (fJ X scope cl C (own++frees) s H fp) ifs ft/\DE (fJ X scope cl C (own++frees) s H fp) elt f)
  (p:II (.ListComp elt [⟨tg,iter,ifs,0⟩] scope pos) (some (.Name y py)) d.line X.env=pure true) (i) (hN:X.N.Nodup) (r:X.N[i]? = some y) (B:X.env.scope.names.lookup y=some .local)
  (Y:∀ x,Lc iter X.env x=pure x):PS X (.Assign [.Name y py] (.ListComp elt [⟨tg,iter,ifs,0⟩] scope pos) d) (λD' σ H=>∃ H₀ aa ρ Hf ys,Rep X.K H₀ aa σ ρ H Hf/\qf own.length caps fi γ ft f ρ=some ys ∧
   ∀ a xs H' ak,Rep X.K H₀ aa σ ρ H' ak->yw H H'->yw Hf ak->zR X.K ak ys xs->H' a=some (.lst xs)->ak a=none->H a=none->D'.nx (σ.set i (some (.ref a))) H'):=by
 intro pins s σ H D' I h
 obtain ⟨H₀,aa,ρ,Hf,ys,R,q,k⟩:=h
 obtain ⟨ds,e1,hz,e2⟩:=XH q
 obtain ⟨cl,fy,c1,c2⟩:=B5 I S
 rw [exec_Assign_Name_used _ _ _ _ p]
 refine be (wpAny_standAt (be ?_))
 show Ek _ X.A (do let _ ← comprehension (.ListComp elt [⟨tg,iter,ifs,0⟩] scope pos) scope X.env _ (newList []) false (eval iter X.env) (some (assign (.Name y py) X.env))) _ _ s
 refine be (EB (wpAny_comprehension_free (use:=some (assign (.Name y py) X.env)) (Q:=λ_ s'=>SP X pins D' .next s') rfl Y fy S.kind S.loc
  (thn (hi pins s σ H (λJ H'=>∃ ak,Rep X.K H₀ aa σ ρ H' ak/\yw H H'/\yw Hf ak/\Walks X.K ak J ds) I ⟨H₀,aa,ρ,Hf,ds,R,e1,λJ H' ak R' s' t' l=>⟨ak,R',s',t',l⟩⟩) λv s1 h1=>thn h1 λW s2 h2=>?_)) (λ_ s' Z=>mo (mo Z)) λ_ _ e=>e)
 obtain ⟨it,fp,tn,J,H2,rfl,I2,T,G,f2,a9,R2,F,n,l⟩:=h2
 refine Ut (RR:=compPost (EA X.prog X.w) X.A X.xe (some (assign (.Name y py) X.env)) (λ_ s'=>SP X pins D' .next s')) hc S eD U body c1 c2 I2 T G f2 R2 l hz e2 ?_
 intro D C s' H' ak xs I' L AF w M hD P u
 obtain ⟨m,hn⟩:=L
 show Ek _ X.A (assign (.Name y py) X.env (.ref D)) _ _ _
 refine wpAny_assign_Name (Vv I' hN r (.inl B) (show xv (.ref D) (.ref D) from rfl) (λO A c=>?_) (.inr B))
 obtain ⟨a,c,ha⟩:=c
 obtain ⟨f0,f1,f2',f3,E,f5⟩:=AF
 have t:a≠C:=by
  rcases ha with z | z
  .rw [z]; exact E7 f1
  .exact E _ _ z
 refine ⟨m,hn.sameBut c (E7 t),λh' g=>?_⟩
 exact ⟨_,H',A.turned (t':=O.toks) (λb o hb e=>(g.2 b hb).trans e) f0 f1 f3 E f5,k D xs H' ak (R2.grows w) (F.trans w.h) (n.trans w.f) M hD P (F.free u)⟩
end
structure Draw (P:Ex) (w:ER) (K:Eh) (J:It) (fp:List Addr) (it:Addr) (tn:Nat->Heap->Prop):Prop where
 mem:it∈fp
 obj:∀ i h,tn i h->∀ b∈fp,∃ o,h.get? b=some o/\∀ v,o.data≠.cell v
 keep:∀ i h h',tn i h->(∀ b∈fp,∀ o,h.get? b=some o->h'.get? b=some o)->tn i h'
 item:∀ (A:Around) (X:Cx),X.prog=P->X.w=w->X.K=K->∀ (i:Nat) (pins:List (Addr×Obj)) (s:Shared) (σ:St) (H:Hp) (E:Value->Shared->Prop),Inv X pins σ H s->(∀ b∈fp,jK X pins H b)->tn i s.heap->J.go i H →
  Ek (EA P w) A (EH (.ref it)) (λu s2=>∃ x H',Inv X pins σ H' s2/\xv x u/\J.yld i H x H'/\tn (i+1) s2.heap/\∀ b∈fp,H' b=none) E s
 fin:∀ (A:Around) (X:Cx),X.prog=P->X.w=w->X.K=K->A.handled=none->∀ (i:Nat) (pins:List (Addr×Obj)) (s:Shared) (σ:St) (H:Hp) (Q:Value->Shared->Prop),Inv X pins σ H s->(∀ b∈fp,jK X pins H b)->tn i s.heap->J.stop i H →
  Ek (EA P w) A (EH (.ref it)) Q (λe s2=>Inv X pins σ H s2/\∃ a o,e=.ref a/\s2.heap.get? a=some o/\o.cls=.type "StopIteration") s
section
variable {prog:Ex} {w:ER} {A:Around} {E:Value->Shared->Prop} {s:Shared}
def kX (a:s.heap.IsTupleIter it l i) (f:s.heap.IsTuple l items) (e:items[i]? = some x)
  (h:∀ h',h'.IsTupleIter it l (i+1)->Heap.SameBut it s.heap h'->Q x { s with heap:=h' }):Ek (EA prog w) A (EH (.ref it)) Q E s:=by
 obtain ⟨o,b,g,hd⟩:=id a
 obtain ⟨ol,c,_,j,d⟩:=f
 unfold EH
 refine be (Ey (name:=Ez "__next__") a.typeIs IG
  (Eu IG a.typeIs F.entry_tuple_iterator_next ?_ (F.args_tuple_iterator_next_1 _)))
 show Ek _ _ (field (.ref it) 0 >>= _) _ _ s
 refine be (EC b hd (x:=.ref l) rfl ?_)
 show Ek _ _ (if (Ij l==E_)=true then _ else _) _ _ s
 rw [if_neg (show ¬ ((Ij l==E_)=true) from iR)]
 show Ek _ _ (field (.ref it) 1 >>= _) _ _ s
 refine be (EC b hd (x:=.int i 0) rfl ?_)
 show Ek _ _ (seqItems? (.ref l) >>= _) _ _ s
 refine be (Ii c d ?_)
 simp only [Il,e]
 refine be (wpAny_setField b hd (by simp) (mo ⟨x,rfl,mo (h _ ?_ (Heap.SameBut.update ..))⟩))
 exact ⟨_,Lf _ b (Obj.isFreed_of_fields (Obj.data_mapFields hd _)),(Obj.cls_mapFields ..).trans g,by rw [Obj.data_mapFields hd]; simp [IF]⟩
def Zx (hh:A.handled=none) (hit:s.heap.IsTupleIter it l i) (hl:s.heap.IsTuple l items) (hx:items[i]? = none)
  (hE:∀ h' e,Heap.ExtBut it s.heap h'->(∃ o,h'.get? e=some o/\o.cls=.type "StopIteration")->E (.ref e) { s with heap:=h' }):Ek (EA prog w) A (EH (.ref it)) Q E s:=by
 obtain ⟨o,ho,hc,hd⟩:=id hit
 obtain ⟨ol,hol,_,nl,hdl⟩:=hl
 unfold EH
 refine be (Ey (name:=Ez "__next__") hit.typeIs IG
  (Eu IG hit.typeIs F.entry_tuple_iterator_next ?_ (F.args_tuple_iterator_next_1 _)))
 show Ek _ _ (field (.ref it) 0 >>= _) _ _ s
 refine be (EC ho hd (x:=.ref l) rfl ?_)
 show Ek _ _ (if (Ij l==E_)=true then _ else _) _ _ s
 rw [if_neg (show ¬ ((Ij l==E_)=true) from iR)]
 show Ek _ _ (field (.ref it) 1 >>= _) _ _ s
 refine be (EC ho hd (x:=.int i 0) rfl ?_)
 show Ek _ _ (seqItems? (.ref l) >>= _) _ _ s
 refine be (Ii hol hdl ?_)
 simp only [Il,hx]
 refine be (Io (be (wpAny_setField ho hd (by simp) ?_)))
 show Ek _ _ (newExc (.type "StopIteration") [] >>= _) _ _ _
 refine be ?_
 simp only [newExc,newTuple]
 refine be (ES ?_ (by size_fits))
 refine be (m:=firstArgMember _ _) (IQ (a:=E_) (by first | rfl | (simp only [firstArgMember]; rfl)) ?_)
 refine ES ?_ (by size_fits)
 simp only [raiseNew]
 refine be (wpAny_handled ?_)
 first | rw [show A.in1.handled=none from hh] | rw [hh]
 refine be (mo (wpAny_throw ?_))
 exact hE _ _ (((Heap.SameBut.update ..).extBut.push _).push _) ⟨_,Ej _ rfl,rfl⟩
end
def BN {P:Ex} {w:ER} {K:Eh} (a it:Addr):Draw P w K (Itl K a) [it] it (λi h=>h.IsListIter it a i) where
 mem:=by simp
 obj:=λi h st b f=>by
  have e:b=it:=by simpa using f
  subst e
  obtain ⟨o,e,c,d⟩:=st
  exact ⟨o,e,λv z=>by rw [d] at z; cases z⟩
 keep:=λi h h' st k=>st.at λo e=>k it (by simp) o e
 item:=by
  intro A X q n r i pins s σ H E I j st hg
  subst q n r
  obtain ⟨xs,x,g,m⟩:=hg
  obtain ⟨ah,l,p,hz⟩:=I.list g
  obtain ⟨u,J,F⟩:=l.get m
  obtain ⟨f0,f1,f2,B,y,t⟩:=j it (by simp)
  refine wpAny_nextOf_list_item st p.isList (x:=u) (by simpa using J) λh' R C=>?_
  have S:Inv X pins σ H { s with heap:=h' }:=I.turned (t':=s.toks) (λb o f e=>(C.2 b f).trans e) f0 f1 B y t
  exact ⟨x,H,S,F,⟨rfl,λys G=>by rw [I.list_inj G g]; exact m⟩,R,λb f=>(j b f).1⟩
 fin:=by
  intro A X q n r hh i pins s σ H Q I j st hg
  subst q n r
  obtain ⟨xs,g,m⟩:=hg
  obtain ⟨ah,l,p,hz⟩:=I.list g
  obtain ⟨f0,f1,f2,B,y,t⟩:=j it (by simp)
  have T:=l.length
  refine wpAny_nextOf_list_end hh st p.isList (by simp; omega) λh' e O ⟨o,L,M⟩=>⟨I.turned (t':=s.toks) (λb o f e=>O b o f e) f0 f1 B y t,e,o,rfl,L,M⟩
def Ga {P:Ex} {w:ER} {K:Eh} (a it:Addr):Draw P w K (Itt K a) [it] it (λi h=>h.IsTupleIter it a i) where
 mem:=by simp
 obj:=λi h st b f=>by
  have e:b=it:=by simpa using f
  subst e
  obtain ⟨o,e,c,d⟩:=st
  exact ⟨o,e,λv z=>by rw [d] at z; cases z⟩
 keep:=λi h h' st k=>st.at λo e=>k it (by simp) o e
 item:=by
  intro A X q n r i pins s σ H E I j st hg
  subst q n r
  obtain ⟨xs,x,g,m⟩:=hg
  obtain ⟨ah,l,p,hz⟩:=I.tuple g
  obtain ⟨u,J,F⟩:=l.get m
  obtain ⟨f0,f1,f2,B,y,t⟩:=j it (by simp)
  refine kX st (show s.heap.IsTuple a ah.toArray from p) (x:=u) (by simpa using J) λh' R C=>?_
  have S:Inv X pins σ H { s with heap:=h' }:=I.turned (t':=s.toks) (λb o f e=>(C.2 b f).trans e) f0 f1 B y t
  exact ⟨x,H,S,F,⟨rfl,λys G=>by rw [I.tuple_inj G g]; exact m⟩,R,λb f=>(j b f).1⟩
 fin:=by
  intro A X q n r hh i pins s σ H Q I j st hg
  subst q n r
  obtain ⟨xs,g,m⟩:=hg
  obtain ⟨ah,l,p,hz⟩:=I.tuple g
  obtain ⟨f0,f1,f2,B,y,t⟩:=j it (by simp)
  have T:=l.length
  exact Zx hh st (show s.heap.IsTuple a ah.toArray from p) (by simp; omega) λh' e O ⟨o,L,M⟩=>⟨I.turned (t':=s.toks) (λb o f e=>O b o f e) f0 f1 B y t,e,o,rfl,L,M⟩
def ItE (J:It):It:=⟨J.go,λi H x H'=>∃ y H1 p,J.yld i H y H1/\H1 p=none/\x=.ref p/\H'=upd H1 p (.tup [.int i,y]),J.stop⟩
def jK.more (f:jK X pins H b) (j:b≠c):jK X (pins++Zo [c] h) H b:=by
 obtain ⟨f0,f1,f2,i,g,a⟩:=f
 refine ⟨f0,f1,f2,i,g,λp d z=>?_⟩
 rcases cQ.mp d with q | q
 .exact a p (lY _ q) z
 .rcases cQ.mp q with q | q
  .exact a p (e9 _ q) z
  .have:=(Yh q).1
   have e:p.1=c:=by simpa using this
   exact j (z ▸ e)
def GD {P:Ex} {w:ER} {K:Eh} {elts:List Expr} {kx:Nat} {tp:Pos} {J:It} {fp:List Addr} {it e:Addr} {tn:Nat->Heap->Prop} (T:Draw P w K J fp it tn) (n:∀ b∈fp,b≠e) :
    Turn P w K (.Tuple elts kx tp) (ItE J) (e :: fp) e (λi h=>tn i h/\∃ f,IsEnum h e it i f) where
  mem:=aV
  obj:=λi h st b c=>by
    rcases aS.mp c with rfl | c
    · obtain ⟨_,f,he⟩:=st
      exact ⟨_,he,λv z=>by cases z⟩
    · exact T.obj i h st.1 b c
  keep:=λi h h' st k=>⟨T.keep i h h' st.1 λb c o e=>k b (aZ _ c) o e,by obtain ⟨_,f,he⟩:=st; exact ⟨f,k e aV _ he⟩⟩
  item:=by
    intro X hP hw hK hc i pins s σ H E I G st hg
    subst hP hw hK
    obtain ⟨st,f,he⟩:=st
    have l:s.TypeIs (.ref e) "enumerate":=⟨_,he,rfl⟩
    have fe:=G e aV
    obtain ⟨f0,f1,f2,f3,f4,f5⟩:=id fe
    unfold pyNext
    refine be (Ic (Ey (name:=Ez "__next__") l Ie
      (Eu Ie l F.entry_enumerate_next ?_ (F.args_enumerate_next_1 _))))
    show Ek _ _ (field (.ref e) 2 >>= _) _ _ _
    refine be (EC he rfl (x:=.ref it) rfl ?_)
    have I0 := I.pinned (fp := [e]) (λb c => by have z:b=e:=(by simpa using c); subst z; exact fe) (λb c => by have z:b=e:=(by simpa using c); subst z; exact ⟨_,he,λv z=>by cases z⟩)
    refine be (EB (T.item _ X rfl rfl rfl i _ s σ H _ I0 (λb c=>jK.more (G b (aZ _ c)) (n b c)) st hg) (λu s1 h1=>?_) λ_ _ z=>z)
    obtain ⟨x,H1,p,rx,yl,sV,fr1⟩:=h1
    obtain ⟨r,m,_⟩:=p.pin _ (e9 _ (e9 _ (we (fp:=[e]) (by simp) he)))
    have r:IsEnum s1.heap e it i f:=r
    have m:H1 e=none:=m
    have p:=p.unpinned
    obtain ⟨hp,g,d,tk,os⟩:=s1
    show Ek _ _ (field (.ref e) 3 >>= _) _ _ _
    refine be (EC r rfl (x:=IF i) rfl ?_)
    show Ek _ _ (field (.ref e) 4 >>= _) _ _ _
    refine be (EC r rfl (x:=.none) rfl ?_)
    show Ek _ _ (mkInt i >>= _) _ _ _
    refine be (wpAny_mkInt ?_)
    show Ek _ _ (setField (.ref e) 3 (IF ((i:Int)+1)) >>= _) _ _ _
    refine be (EF r (by simp) λR Y B=>?_)
    replace B:Heap.SameBut e hp R:=B
    replace Y:IsEnum R e it ((i:Int)+1) f:=Y
    show Ek _ _ (setField (.ref e) 4 .none >>= _) _ _ ⟨R,g,d,tk+1,os⟩
    refine be (EF Y (by simp) λj L t=>?_)
    replace t:Heap.SameBut e R j:=t
    replace L:IsEnum j e it ((i:Int)+1) f:=L
    have I3:Inv X pins σ H1 ⟨j,g,d,tk+1,os⟩:=p.turned (t':=tk+1) (λb o c q=>(t.2 b c).trans ((B.2 b c).trans q)) m f1 f3 f4 f5
    show Ek _ _ (newTuple [.int i tk,u] >>= _) _ _ ⟨j,g,d,tk+1,os⟩
    refine be (wpAny_newTuple ?_)
    have M:IsEnum (j.push { cls:=.type "tuple",data:=.seq #[.int i tk,u] }) e it ((i:Int)+1) f:=ls _ L
    have hf4:H1 j.objs.size=none:=I3.hok.fresh (aT _)
    have I4:Inv X pins σ (upd H1 j.objs.size (.tup [.int i,x])) ⟨j.push { cls:=.type "tuple",data:=.seq #[.int i tk,u] },g,d,tk+1,os⟩ :=
      I3.laid (t':=tk+1) (λb u e=>ls _ e) (aT _) ⟨by show 2<=sizeLine; decide,[.int i tk,u],.cons ⟨tk,rfl⟩ (.cons rx .nil),⟨_,Ej _ rfl,rfl,_,rfl⟩⟩
    have hel:e < j.objs.size:=El L
    have y:(upd H1 j.objs.size (.tup [.int i,x])) e=none:=by rw [z6 (cZ hel)]; exact m
    generalize AB:j.push { cls:=.type "tuple",data:=.seq #[.int i tk,u] }=S at M I4
    have sS:tn (i+1) S:=T.keep _ _ _ sV λb c o q=>by rw [<- AB]; exact ls _ ((t.2 b (n b c)).trans ((B.2 b (n b c)).trans q))
    show Ek _ _ (EO (.ref e) >>= _) _ _ ⟨S,g,d,tk+1,os⟩
    refine be ?_
    unfold EO
    refine be (EC M rfl (x:=.none) rfl (mo ?_))
    simp only [if_true]
    refine be (Io ?_)
    refine be (EC M rfl (x:=f) rfl ?_)
    refine be (EF M (by simp) λC Z lE=>?_)
    replace lE:Heap.SameBut e S C:=lE
    replace Z:IsEnum C e it ((i:Int)+1) u:=Z
    show Ek _ _ (E9 (.ref e) (.ref j.objs.size) >>= _) _ _ ⟨C,g,d,tk+1,os⟩
    refine be ?_
    unfold E9
    refine be (EF Z (by simp) λbD lN ck=>?_)
    replace ck:Heap.SameBut e C bD:=ck
    replace lN:IsEnumOut bD e it ((i:Int)+1) u j.objs.size:=lN
    refine EF lN (by simp) λU O lC=>?_
    replace lC:Heap.SameBut e bD U:=lC
    replace O:IsEnumOut U e it ((i:Int)+1) u j.objs.size:=O
    refine be (wpAny_letGo (mo ⟨_,rfl,mo ⟨_,rfl,?_⟩⟩))
    unfold Ln
    refine be (wpAny_load O ?_)
    show Ek _ _ (if (["enumerate","zip","dict_itemiterator","dict_reverseitemiterator","odict_iterator","itertools.zip_longest","itertools.pairwise"].contains "enumerate" &&
      (#[IF j.objs.size,.bool false,.ref it,IF ((i:Int)+1),.none,u]:Array Value)[0]? == some (IF j.objs.size))=true then _ else _) _ _ _
    rw [if_pos (by simp)]
    refine be (Io ?_)
    show Ek _ _ (setField (.ref e) 0 .none) _ _ _
    refine EF O (by simp) λW lM fu=>?_
    replace fu:Heap.SameBut e U W:=fu
    replace lM:IsEnum W e it ((i:Int)+1) u:=lM
    have k8:∀ b o,b≠e->S.get? b=some o->W.get? b=some o:=λb o c q=>(fu.2 b c).trans ((lC.2 b c).trans ((ck.2 b c).trans ((lE.2 b c).trans q)))
    refine ⟨.ref j.objs.size,_,I4.turned (t':=tk+1) (λb o c q=>k8 b o c q) y f1 f3 f4 f5,rfl,⟨x,H1,j.objs.size,yl,hf4,rfl,rfl⟩,⟨T.keep _ _ _ sS λb c o q=>k8 b o (n b c) q,u,lM⟩,λb c=>?_⟩
    rcases aS.mp c with rfl | c
    · exact y
    · obtain ⟨o,q,_⟩:=T.obj _ _ sV b c
      have q3:j.get? b=some o:=(t.2 b (n b c)).trans ((B.2 b (n b c)).trans q)
      rw [z6 (cZ (El q3))]
      exact fr1 b c
  done:=by
    intro X hP hw hK hc i pins s σ H E I G st hg
    subst hP hw hK
    obtain ⟨st,f,he⟩:=st
    have l:s.TypeIs (.ref e) "enumerate":=⟨_,he,rfl⟩
    unfold pyNext
    refine be (Ic (Ey (name:=Ez "__next__") l Ie
      (Eu Ie l F.entry_enumerate_next ?_ (F.args_enumerate_next_1 _))))
    show Ek _ _ (field (.ref e) 2 >>= _) _ _ _
    refine be (EC he rfl (x:=.ref it) rfl ?_)
    refine be (EB (T.fin X.A.in1 X rfl rfl rfl (I.ok.hd hc) i pins s σ H _ I (λb c=>G b (aZ _ c)) st hg) (λu s1 z=>z) λe' s1 h1=>?_)
    obtain ⟨p,a,o,rfl,ho,fy⟩:=h1
    refine be (EZ (T:="StopIteration") (b:=true) ⟨o,ho,fy⟩ Ly ?_)
    exact mo ⟨rfl,p⟩
  self:=λA i s Q E st h=>by
    obtain ⟨_,f,he⟩:=st
    have l:s.TypeIs (.ref e) "enumerate":=⟨_,he,rfl⟩
    refine wpAny_pyIter_slot l Lg (Eu Lg l F.entry_enumerate_iter ?_ (F.args_enumerate_iter_1 _))
    show Ek _ _ (ret (.ref e)) _ _ s
    exact mo ⟨_,rfl,"enumerate",_,l,Ie.lookup,h⟩
def ItZ (J1 J2:It):It:=⟨λi H=>J1.go i H/\∀ x H1,J1.yld i H x H1->J2.go i H1,λi H x H'=>∃ b a H1 H2 p,J1.yld i H b H1/\J2.yld i H1 a H2/\H2 p=none/\x=.ref p/\H'=upd H2 p (.tup [b,a]),
 λi H=>J1.stop i H\/(J1.go i H/\∀ x H1,J1.yld i H x H1->H1=H/\J2.stop i H)⟩
def LH (f:jK X pins H b) (g:b∉L):jK X (pins++Zo L h) H b:=by
 obtain ⟨f0,f1,f2,e,d,a⟩:=f
 refine ⟨f0,f1,f2,e,d,λp c z=>?_⟩
 rcases cQ.mp c with q | q
 .exact a p (lY _ q) z
 .rcases cQ.mp q with q | q
  .exact a p (e9 _ q) z
  .have:=(Yh q).1
   exact g (z ▸ this)
def vq (I:Inv X (pins++Zo L h) σ H s) (d:b∈L) (e:h.get? b=some o):s.heap.get? b=some o/\H b=none:=by
 obtain ⟨c,a,_⟩:=I.pin _ (e9 _ (e9 _ (we d e)))
 exact ⟨c,a⟩
def qh (I:Inv X pins σ H s) (a:Heap.SameBut b s.heap h') (f:jK X pins H b):Inv X pins σ H { s with heap:=h',toks:=t' }:=by
 obtain ⟨f0,f1,f2,h,g,e⟩:=f
 exact I.turned (t':=t') (λc o d q=>(a.2 c d).trans q) f0 f1 h g e
structure ZApart (z TI TO:Addr) (e_ fm:List Addr):Prop where
 a1:z≠TI
 a2:z≠TO
 a3:TI≠TO
 z1:∀ b∈e_++fm,b≠z
 z2:∀ b∈e_++fm,b≠TI
 z3:∀ b∈e_++fm,b≠TO
 d:∀ b∈e_,b∉fm
section
variable {P:Ex} {w:ER} {K:Eh} {J1 J2:It} {e_ fm:List Addr} {i1 i2 z TI TO:Addr} {l9 iI:Nat->Heap->Prop}
def tnZ (l9 iI:Nat->Heap->Prop) (z TI TO i1 i2:Addr) (i:Nat) (h:Heap):Prop:=l9 i h/\iI i h/\IsZip h z TI TO .none/\Lh h TI (.ref i1) (.ref i2)/\∃ a b,Lh h TO a b
def CO {elts:List Expr} {kx:Nat} {tp:Pos} (m:Draw P w K J1 e_ i1 l9) (j:Draw P w K J2 fm i2 iI) (Z:ZApart z TI TO e_ fm) :
  Turn P w K (.Tuple elts kx tp) (ItZ J1 J2) (z :: TI :: TO :: (e_++fm)) z (tnZ l9 iI z TI TO i1 i2) where
 mem:=aV
 obj:=λi h st b d=>by
  obtain ⟨s1,s2,hz,R,a,M,nv⟩:=st
  rcases aS.mp d with rfl | d
  .exact ⟨_,hz,λv z=>by cases z⟩
  rcases aS.mp d with rfl | d
  .exact ⟨_,R,λv z=>by cases z⟩
  rcases aS.mp d with rfl | d
  .exact ⟨_,nv,λv z=>by cases z⟩
  rcases cQ.mp d with d | d
  .exact m.obj i h s1 b d
  .exact j.obj i h s2 b d
 keep:=λi h h' st k=>by
  obtain ⟨s1,s2,hz,R,a,M,nv⟩:=st
  refine ⟨m.keep i h h' s1 λb d o e=>k b (by simp [d]) o e,j.keep i h h' s2 λb d o e=>k b (by simp [d]) o e,k z (by simp) _ hz,k TI (by simp) _ R,a,M,k TO (by simp) _ nv⟩
 item:=by
  intro X hP hw hK hc i pins s σ H E I B st hg
  subst hP hw hK
  obtain ⟨s1,s2,hz,R,a,M,nv⟩:=st
  obtain ⟨g1,g2⟩:=hg
  have hT:s.TypeIs (.ref z) "zip":=⟨_,hz,rfl⟩
  have n:=B z (by simp)
  have U:=B TI (by simp)
  have px:=B TO (by simp)
  have S:∀ b∈e_,jK X pins H b:=λb d=>B b (by simp [d])
  have A7:∀ b∈fm,jK X pins H b:=λb d=>B b (by simp [d])
  have rP:∀ b∈e_,b≠z:=λb d=>Z.z1 b (by simp [d])
  have rO:∀ b∈fm,b≠z:=λb d=>Z.z1 b (by simp [d])
  have n1I:∀ b∈e_,b≠TI:=λb d=>Z.z2 b (by simp [d])
  have n2I:∀ b∈fm,b≠TI:=λb d=>Z.z2 b (by simp [d])
  have z_:∀ b∈e_,b≠TO:=λb d=>Z.z3 b (by simp [d])
  have y_:∀ b∈fm,b≠TO:=λb d=>Z.z3 b (by simp [d])
  unfold pyNext
  refine be (Ic (Ey (name:=Ez "__next__") hT F.slot_zip_next (Eu F.slot_zip_next hT F.entry_zip_next ?_ (F.args_zip_next_1 _))))
  show Ek _ _ (field (.ref z) 2 >>= _) _ _ _
  refine be (EC hz rfl (x:=.bool false) rfl ?_)
  show Ek _ _ (field (.ref z) 3 >>= _) _ _ _
  refine be (EC hz rfl (x:=.ref TI) rfl ?_)
  refine be (Ii R rfl ?_)
  show Ek _ _ (EO (.ref z) >>= _) _ _ _
  refine be ?_
  unfold EO
  refine be (EC hz rfl (x:=.none) rfl (mo ?_))
  simp only [if_true]
  refine be (Io ?_)
  refine be (EC hz rfl (x:=.ref TO) rfl ?_)
  refine be (EF hz (by simp) λh₁ L G=>?_)
  replace L:IsZip h₁ z TI TO .ellipsis:=L
  have I1:Inv X pins σ H { s with heap:=h₁ }:=qh (t':=s.toks) I G n
  have eR:Lh h₁ TI (.ref i1) (.ref i2):=(G.2 TI (E7 Z.a1)).trans R
  have eQ:Lh h₁ TO a M:=(G.2 TO (E7 Z.a2)).trans nv
  have gX:l9 i h₁:=m.keep _ _ _ s1 λb d o e=>(G.2 b (rP b d)).trans e
  have fo:iI i h₁:=j.keep _ _ _ s2 λb d o e=>(G.2 b (rO b d)).trans e
  refine be ?_
  simp only [List.zipIdx_cons,List.zipIdx_nil,List.forIn_cons,List.forIn_nil]
  refine be (be (wpAny_onRaise ?_))
  show Ek _ _ (EH (.ref i1) >>= _) _ _ _
  have Y:=I1.pinned (fp:=z :: TI :: TO :: fm) (λb d=>by
   rcases aS.mp d with rfl | d
   .exact n
   rcases aS.mp d with rfl | d
   .exact U
   rcases aS.mp d with rfl | d
   .exact px
   .exact A7 b d) (λb d=>by
   rcases aS.mp d with rfl | d
   .exact ⟨_,L,λv z=>by cases z⟩
   rcases aS.mp d with rfl | d
   .exact ⟨_,eR,λv z=>by cases z⟩
   rcases aS.mp d with rfl | d
   .exact ⟨_,eQ,λv z=>by cases z⟩
   .exact j.obj _ _ fo b d)
  refine be (EB (m.item _ X rfl rfl rfl i _ _ σ H _ Y (λb d=>LH (S b d) (by
   intro hm
   rcases aS.mp hm with e | hm
   .exact rP b d e
   rcases aS.mp hm with e | hm
   .exact n1I b d e
   rcases aS.mp hm with e | hm
   .exact z_ b d e
   .exact Z.d b d hm)) gX g1) (λu1 l h3=>mo ?_) λ_ _ z=>z)
  obtain ⟨x1,H3,g,r3,y3,sT,A6⟩:=h3
  obtain ⟨r,A4⟩:=vq g (b:=z) (by simp) L
  obtain ⟨fR,B_⟩:=vq g (b:=TI) (by simp) eR
  obtain ⟨W,nG⟩:=vq g (b:=TO) (by simp) eQ
  have r:IsZip l.heap z TI TO .ellipsis:=r
  have fR:Lh l.heap TI (.ref i1) (.ref i2):=fR
  have W:Lh l.heap TO a M:=W
  have i_:iI i l.heap:=j.keep _ _ _ fo λb d o e=>(vq g (by simp [d]) e).1
  have pk:∀ b∈fm,H3 b=none:=λb d=>by
   obtain ⟨o,e,_⟩:=j.obj _ _ fo b d
   exact (vq g (by simp [d]) e).2
  have g:=g.unpinned
  refine be (Ii W rfl ?_)
  refine be (wpAny_updateSeq_pair W λC eP p=>?_)
  replace eP:Lh C TO u1 M:=eP
  refine be (wpAny_letGo (mo ?_))
  have I4:Inv X pins σ H3 { l with heap:=C }:=qh (t':=l.toks) g p ⟨nG,px.2⟩
  have fq:IsZip C z TI TO .ellipsis:=(p.2 z Z.a2).trans r
  have lU:Lh C TI (.ref i1) (.ref i2):=(p.2 TI Z.a3).trans fR
  have sS:l9 (i+1) C:=m.keep _ _ _ sT λb d o e=>(p.2 b (z_ b d)).trans e
  have i9:iI i C:=j.keep _ _ _ i_ λb d o e=>(p.2 b (y_ b d)).trans e
  refine be (be (wpAny_onRaise ?_))
  show Ek _ _ (EH (.ref i2) >>= _) _ _ _
  have I4p:=I4.pinned (fp:=z :: TI :: TO :: e_) (λb d=>by
   rcases aS.mp d with rfl | d
   .exact ⟨A4,n.2⟩
   rcases aS.mp d with rfl | d
   .exact ⟨B_,U.2⟩
   rcases aS.mp d with rfl | d
   .exact ⟨nG,px.2⟩
   .exact ⟨A6 b d,(S b d).2⟩) (λb d=>by
   rcases aS.mp d with rfl | d
   .exact ⟨_,fq,λv z=>by cases z⟩
   rcases aS.mp d with rfl | d
   .exact ⟨_,lU,λv z=>by cases z⟩
   rcases aS.mp d with rfl | d
   .exact ⟨_,eP,λv z=>by cases z⟩
   .exact m.obj _ _ sS b d)
  refine be (EB (j.item _ X rfl rfl rfl i _ _ σ H3 _ I4p (λb d=>LH ⟨pk b d,(A7 b d).2⟩ (by
   intro hm
   rcases aS.mp hm with e | hm
   .exact rO b d e
   rcases aS.mp hm with e | hm
   .exact n2I b d e
   rcases aS.mp hm with e | hm
   .exact y_ b d e
   .exact Z.d b hm d)) i9 (g2 _ _ y3)) (λu2 s5 h5=>mo ?_) λ_ _ z=>z)
  obtain ⟨x2,H5,J,r5,y5,i7,A5⟩:=h5
  obtain ⟨dE,fz5⟩:=vq J (b:=z) (by simp) fq
  obtain ⟨gO,fTI5⟩:=vq J (b:=TI) (by simp) lU
  obtain ⟨fQ,A_⟩:=vq J (b:=TO) (by simp) eP
  have dE:IsZip s5.heap z TI TO .ellipsis:=dE
  have gO:Lh s5.heap TI (.ref i1) (.ref i2):=gO
  have fQ:Lh s5.heap TO u1 M:=fQ
  have st5':l9 (i+1) s5.heap:=m.keep _ _ _ sS λb d o e=>(vq J (by simp [d]) e).1
  have pq:∀ b∈e_,H5 b=none:=λb d=>by
   obtain ⟨o,e,_⟩:=m.obj _ _ sS b d
   exact (vq J (by simp [d]) e).2
  have J:=J.unpinned
  refine be (Ii fQ rfl ?_)
  refine be (wpAny_updateSeq_pair fQ λf eN ck=>?_)
  replace eN:Lh f TO u1 u2:=eN
  refine be (wpAny_letGo (mo (mo ?_)))
  have I6:Inv X pins σ H5 { s5 with heap:=f }:=qh (t':=s5.toks) J ck ⟨A_,px.2⟩
  have lA:IsZip f z TI TO .ellipsis:=(ck.2 z Z.a2).trans dE
  have lT:Lh f TI (.ref i1) (.ref i2):=(ck.2 TI Z.a3).trans gO
  have st6:l9 (i+1) f:=m.keep _ _ _ st5' λb d o e=>(ck.2 b (z_ b d)).trans e
  have sR:iI (i+1) f:=j.keep _ _ _ i7 λb d o e=>(ck.2 b (y_ b d)).trans e
  refine be (Ii eN rfl ?_)
  refine be (wpAny_newTuple ?_)
  have hf7:H5 f.objs.size=none:=I6.hok.fresh (aT _)
  have I7:Inv X pins σ (upd H5 f.objs.size (.tup [x1,x2])) { s5 with heap:=f.push { cls:=.type "tuple",data:=.seq #[u1,u2] } } :=
   I6.laid (t':=s5.toks) (λb u e=>ls _ e) (aT _) ⟨by show 2<=sizeLine; decide,[u1,u2],.cons r3 (.cons r5 .nil),⟨_,Ej _ rfl,rfl,_,rfl⟩⟩
  have lz:z < f.objs.size:=El lA
  have lTI:TI < f.objs.size:=El lT
  have lTO:TO < f.objs.size:=El eN
  show Ek _ _ (E9 (.ref z) (.ref f.objs.size) >>= _) _ _ _
  refine be ?_
  unfold E9
  have Af:IsZip (f.push { cls:=.type "tuple",data:=.seq #[u1,u2] }) z TI TO .ellipsis:=ls _ lA
  refine be (EF Af (by simp) λlj ly fu=>?_)
  replace ly:IsZip lj z TI TO (IF f.objs.size):=ly
  refine EF ly (by simp) λh₉ ll t=>?_
  replace ll:IsZip h₉ z TI TO (IF f.objs.size):=ll
  refine mo ⟨_,rfl,mo ⟨_,rfl,?_⟩⟩
  refine wpAny_letOwnedTupleGo_zip ll λh₀ Ag y=>?_
  have up:∀ c o,c≠z->f.get? c=some o->h₀.get? c=some o:=λc o hc e=>(y.2 c hc).trans ((t.2 c hc).trans ((fu.2 c hc).trans (ls _ e)))
  have fz7:(upd H5 f.objs.size (.tup [x1,x2])) z=none:=by rw [z6 (cZ lz)]; exact fz5
  refine ⟨.ref f.objs.size,_,I7.turned (t':=s5.toks) (λb o d q=>(y.2 b d).trans ((t.2 b d).trans ((fu.2 b d).trans q))) fz7 n.2.1 n.2.2.2.1 n.2.2.2.2.1 n.2.2.2.2.2,rfl,⟨x1,x2,H3,H5,_,y3,y5,hf7,rfl,rfl⟩,
   ⟨m.keep _ _ _ st6 λb d o e=>up b o (rP b d) e,j.keep _ _ _ sR λb d o e=>up b o (rO b d) e,Ag,up _ _ (E7 Z.a1) lT,_,_,up _ _ (E7 Z.a2) eN⟩,λb d=>?_⟩
  have O:∀ b,b < f.objs.size->H5 b=none->(upd H5 f.objs.size (.tup [x1,x2])) b=none:=λb hl hn=>by rw [z6 (cZ hl)]; exact hn
  rcases aS.mp d with rfl | d
  .exact fz7
  rcases aS.mp d with rfl | d
  .exact O _ lTI fTI5
  rcases aS.mp d with rfl | d
  .exact O _ lTO A_
  rcases cQ.mp d with d | d
  .obtain ⟨o,q,_⟩:=m.obj _ _ st6 b d
   exact O b (El q) (pq b d)
  .obtain ⟨o,q,_⟩:=j.obj _ _ sR b d
   exact O b (El q) (A5 b d)
 done:=by
  intro X hP hw hK hc i pins s σ H E I B st hg
  subst hP hw hK
  obtain ⟨s1,s2,hz,R,a,M,nv⟩:=st
  have hT:s.TypeIs (.ref z) "zip":=⟨_,hz,rfl⟩
  have n:=B z (by simp)
  have U:=B TI (by simp)
  have px:=B TO (by simp)
  have S:∀ b∈e_,jK X pins H b:=λb d=>B b (by simp [d])
  have A7:∀ b∈fm,jK X pins H b:=λb d=>B b (by simp [d])
  have rP:∀ b∈e_,b≠z:=λb d=>Z.z1 b (by simp [d])
  have rO:∀ b∈fm,b≠z:=λb d=>Z.z1 b (by simp [d])
  have n1I:∀ b∈e_,b≠TI:=λb d=>Z.z2 b (by simp [d])
  have n2I:∀ b∈fm,b≠TI:=λb d=>Z.z2 b (by simp [d])
  have z_:∀ b∈e_,b≠TO:=λb d=>Z.z3 b (by simp [d])
  have y_:∀ b∈fm,b≠TO:=λb d=>Z.z3 b (by simp [d])
  unfold pyNext
  refine be (Ic (Ey (name:=Ez "__next__") hT F.slot_zip_next (Eu F.slot_zip_next hT F.entry_zip_next ?_ (F.args_zip_next_1 _))))
  show Ek _ _ (field (.ref z) 2 >>= _) _ _ _
  refine be (EC hz rfl (x:=.bool false) rfl ?_)
  show Ek _ _ (field (.ref z) 3 >>= _) _ _ _
  refine be (EC hz rfl (x:=.ref TI) rfl ?_)
  refine be (Ii R rfl ?_)
  show Ek _ _ (EO (.ref z) >>= _) _ _ _
  refine be ?_
  unfold EO
  refine be (EC hz rfl (x:=.none) rfl (mo ?_))
  simp only [if_true]
  refine be (Io ?_)
  refine be (EC hz rfl (x:=.ref TO) rfl ?_)
  refine be (EF hz (by simp) λh₁ L G=>?_)
  replace L:IsZip h₁ z TI TO .ellipsis:=L
  have I1:Inv X pins σ H { s with heap:=h₁ }:=qh (t':=s.toks) I G n
  have eR:Lh h₁ TI (.ref i1) (.ref i2):=(G.2 TI (E7 Z.a1)).trans R
  have eQ:Lh h₁ TO a M:=(G.2 TO (E7 Z.a2)).trans nv
  have gX:l9 i h₁:=m.keep _ _ _ s1 λb d o e=>(G.2 b (rP b d)).trans e
  have fo:iI i h₁:=j.keep _ _ _ s2 λb d o e=>(G.2 b (rO b d)).trans e
  have Y:=I1.pinned (fp:=z :: TI :: TO :: fm) (λb d=>by
   rcases aS.mp d with rfl | d
   .exact n
   rcases aS.mp d with rfl | d
   .exact U
   rcases aS.mp d with rfl | d
   .exact px
   .exact A7 b d) (λb d=>by
   rcases aS.mp d with rfl | d
   .exact ⟨_,L,λv z=>by cases z⟩
   rcases aS.mp d with rfl | d
   .exact ⟨_,eR,λv z=>by cases z⟩
   rcases aS.mp d with rfl | d
   .exact ⟨_,eQ,λv z=>by cases z⟩
   .exact j.obj _ _ fo b d)
  have tj:∀ b∈e_,jK X (pins++Zo (z :: TI :: TO :: fm) h₁) H b:=λb d=>LH (S b d) (by
   intro hm
   rcases aS.mp hm with e | hm
   .exact rP b d e
   rcases aS.mp hm with e | hm
   .exact n1I b d e
   rcases aS.mp hm with e | hm
   .exact z_ b d e
   .exact Z.d b d hm)
  refine be ?_
  simp only [List.zipIdx_cons,List.zipIdx_nil,List.forIn_cons,List.forIn_nil]
  refine be (be (wpAny_onRaise ?_))
  show Ek _ _ (EH (.ref i1) >>= _) _ _ _
  rcases hg with hg | ⟨g1,hg⟩
  .refine be (EB (m.fin X.A.in1 X rfl rfl rfl (I.ok.hd hc) i _ _ σ H _ Y tj gX hg) (λ_ _ z=>z) λe l h3=>?_)
   obtain ⟨g,c,o,rfl,ho,fy⟩:=h3
   obtain ⟨r,A4⟩:=vq g (b:=z) (by simp) L
   have r:IsZip l.heap z TI TO .ellipsis:=r
   have hcz:c≠z:=λx=>by subst x; rw [r] at ho; cases ho; simp at fy
   refine EF r (by simp) λC fq p=>?_
   refine be (EZ (T:="StopIteration") (b:=true) ⟨o,(p.2 c hcz).trans ho,fy⟩ Ly ?_)
   exact mo ⟨rfl,qh (t':=l.toks) g.unpinned p ⟨A4,n.2⟩⟩
  .refine be (EB (m.item _ X rfl rfl rfl i _ _ σ H _ Y tj gX g1) (λu1 l h3=>mo ?_) λ_ _ z=>z)
   obtain ⟨x1,H3,g,r3,y3,sT,A6⟩:=h3
   obtain ⟨rfl,bq⟩:=hg _ _ y3
   obtain ⟨r,A4⟩:=vq g (b:=z) (by simp) L
   obtain ⟨fR,B_⟩:=vq g (b:=TI) (by simp) eR
   obtain ⟨W,nG⟩:=vq g (b:=TO) (by simp) eQ
   have r:IsZip l.heap z TI TO .ellipsis:=r
   have W:Lh l.heap TO a M:=W
   have i_:iI i l.heap:=j.keep _ _ _ fo λb d o e=>(vq g (by simp [d]) e).1
   have g:=g.unpinned
   refine be (Ii W rfl ?_)
   refine be (wpAny_updateSeq_pair W λC eP p=>?_)
   refine be (wpAny_letGo (mo ?_))
   have I4:Inv X pins σ H3 { l with heap:=C }:=qh (t':=l.toks) g p ⟨nG,px.2⟩
   have fq:IsZip C z TI TO .ellipsis:=(p.2 z Z.a2).trans r
   have i9:iI i C:=j.keep _ _ _ i_ λb d o e=>(p.2 b (y_ b d)).trans e
   refine be (be (wpAny_onRaise ?_))
   show Ek _ _ (EH (.ref i2) >>= _) _ _ _
   have I4p:=I4.pinned (fp:=[z]) (λb d=>by
    have e:b=z:=by simpa using d
    subst e; exact ⟨A4,n.2⟩) (λb d=>by
    have e:b=z:=by simpa using d
    subst e; exact ⟨_,fq,λv z=>by cases z⟩)
   refine be (EB (j.fin X.A.in1 X rfl rfl rfl (I.ok.hd hc) i _ _ σ H3 _ I4p (λb d=>LH (A7 b d) (by
    intro hm
    exact rO b d (by simpa using hm))) i9 bq) (λ_ _ z=>z) λe s5 h5=>?_)
   obtain ⟨J,c,o,rfl,ho,fy⟩:=h5
   obtain ⟨dE,fz5⟩:=vq J (b:=z) (by simp) fq
   have dE:IsZip s5.heap z TI TO .ellipsis:=dE
   have hcz:c≠z:=λx=>by subst x; rw [dE] at ho; cases ho; simp at fy
   refine EF dE (by simp) λf lA ck=>?_
   refine be (EZ (T:="StopIteration") (b:=true) ⟨o,(ck.2 c hcz).trans ho,fy⟩ Ly ?_)
   exact mo ⟨rfl,qh (t':=s5.toks) J.unpinned ck ⟨fz5,n.2⟩⟩
 self:=λA i s Q E st h=>wpAny_pyIter_zip st.2.2.1 h
end
def gR (b:Bool) (h:Heap) (a:Addr) (ah:Array Value):Prop:=if b=true then h.IsList a ah else h.IsTuple a ah
def ve (b:Bool) (a:Addr):Obj:={ cls:=.type (if b=true then "list_iterator" else "tuple_iterator"),data:=.fields #[.ref a,.int 0 0] }
def gR.push (q:gR b h a ah) (o):gR b (h.push o) a ah:=by
 cases b with
 | true=>exact Heap.IsList.push q o
 | false=>exact Heap.IsTuple.push q o
section
variable {prog:Ex} {w:ER} {A:Around} {E:Value->Shared->Prop} {s:Shared}
def uz (q:gR b s.heap a ah) (h:Q (.ref s.heap.objs.size) { s with heap:=s.heap.push (ve b a) }):Ek (EA prog w) A (pyIter (.ref a)) Q E s:=by
 cases b with
 | true=>exact wpAny_pyIter_list q h
 | false=>exact wpAny_pyIter_tuple q h
set_option tactic.hygienic true in
def KU (b) (a:Addr) (ah:Array Value) :
  Meets (Builtin.«enumerate.__new__» ⟨[.type "enumerate",.ref a],[]⟩) (λ_ R s=>gR b s.heap a ah ∧
   R (.ok (.ret (.ref (s.heap.push (ve b a)).objs.size))) { s with heap:=(s.heap.push (ve b a)).push { cls:=.type "enumerate",data:=.fields #[.none,.bool false,.ref s.heap.objs.size,IF 0,.none,.none] } }) :=
 .of_wp λprog w A R s h=>by
  obtain ⟨f,g,d,tk,os⟩:=s; obtain ⟨i,h⟩:=h
  have j:=sub_enumerate
  have e:gR b (Shared.heap ⟨f,g,d,tk,os⟩) a ah:=i
  wp_walk using uz e
  refine wpAny_stack_any λst=>mo ?_
  split
  .rename_i c _ _ _ _ _
   cases (c==Value.type "enumerate")
   .wp_walk using uz e
    exact ⟨_,rfl,h⟩
   .wp_walk using uz e
    exact ⟨_,rfl,h⟩
  .wp_walk using uz e
   exact ⟨_,rfl,h⟩
def Ck (d:gR b s.heap a ah)
  (h:∀ h',IsEnum h' (s.heap.objs.size+1) s.heap.objs.size 0 .none->h'.get? s.heap.objs.size=some (ve b a)->(∀ b o,s.heap.get? b=some o->h'.get? b=some o)->Q (.ref (s.heap.objs.size+1)) { s with heap:=h' }) :
  Ek (EA prog w) A (call (.type "enumerate") [.ref a]) Q E s:=by
 refine callType_new F.called_enumerate (by decide) (F.typeCall_enumerate_1 _) (F.newCall_enumerate_1 _) (λobj=>F.args_object_init_2 obj _) F.entry_enumerate_new (KU b a ah) ⟨d,?_⟩
 have hz:(s.heap.push (ve b a)).objs.size=s.heap.objs.size+1:=Ld ..
 show _/\_
 rw [hz]
 have c:IsEnum ((s.heap.push (ve b a)).push { cls:=.type "enumerate",data:=.fields #[.none,.bool false,.ref s.heap.objs.size,IF 0,.none,.none] }) (s.heap.objs.size+1) s.heap.objs.size 0 .none:=by
  have:=Ej (s.heap.push (ve b a)) (o:={ cls:=.type "enumerate",data:=.fields #[.none,.bool false,.ref s.heap.objs.size,IF 0,.none,.none] }) rfl
  rw [hz] at this; exact this
 exact ⟨⟨_,c,rfl⟩,h _ c (ls _ (Ej _ rfl)) λb o x=>ls _ (ls _ x)⟩
def HI (b e) (a c:Addr) (xs ys:Array Value) :
  Meets (Builtin.«zip.__new__» ⟨[.type "zip",.ref a,.ref c],[]⟩) (λ_ R s=>gR b s.heap a xs/\gR e s.heap c ys ∧
   R (.ok (.ret (.ref ((((s.heap.push (ve b a)).push (ve e c)).push { cls:=.type "tuple",data:=.seq #[.ref s.heap.objs.size,.ref (s.heap.push (ve b a)).objs.size] }).push { cls:=.type "tuple",data:=.seq #[.none,.none] }).objs.size)))
    { s with heap:=((((s.heap.push (ve b a)).push (ve e c)).push { cls:=.type "tuple",data:=.seq #[.ref s.heap.objs.size,.ref (s.heap.push (ve b a)).objs.size] }).push { cls:=.type "tuple",data:=.seq #[.none,.none] }).push ({ cls:=.type "zip",data:=.fields #[.none,.bool false,.bool false,.ref ((s.heap.push (ve b a)).push (ve e c)).objs.size,.ref (((s.heap.push (ve b a)).push (ve e c)).push { cls:=.type "tuple",data:=.seq #[.ref s.heap.objs.size,.ref (s.heap.push (ve b a)).objs.size] }).objs.size] }:Obj) }) :=
 .of_wp λprog w A R s h=>by
  obtain ⟨j,g,d,tk,os⟩:=s; obtain ⟨k,l,h⟩:=h
  have m:=sub_zip
  have i:gR b (Shared.heap ⟨j,g,d,tk,os⟩) a xs:=k
  have f:gR e (Shared.heap ⟨j.push (ve b a),g,d,tk,os⟩) c ys:=gR.push l _
  wp_walk using uz i,uz f
  exact ⟨_,rfl,h⟩
def FY (t:gR i s.heap e xs) (u:gR g s.heap d ys)
  (h:∀ h',IsZip h' (s.heap.objs.size+4) (s.heap.objs.size+2) (s.heap.objs.size+3) .none->Lh h' (s.heap.objs.size+2) (.ref s.heap.objs.size) (.ref (s.heap.objs.size+1)) →
   Lh h' (s.heap.objs.size+3) .none .none->h'.get? s.heap.objs.size=some (ve i e)->h'.get? (s.heap.objs.size+1)=some (ve g d)->(∀ c o,s.heap.get? c=some o->h'.get? c=some o)->Q (.ref (s.heap.objs.size+4)) { s with heap:=h' }) :
  Ek (EA prog w) A (call (.type "zip") [.ref e,.ref d]) Q E s:=by
 refine callType_new F.called_zip (by decide) (F.typeCall_zip_2 _ _) (F.newCall_zip_2 _ _) (λobj=>F.args_object_init_3 obj _ _) F.entry_zip_new (HI i g e d xs ys) ⟨t,u,?_⟩
 generalize e1:s.heap.push (ve i e)=h1
 generalize e2:h1.push (ve g d)=h2
 generalize k:h2.push { cls:=.type "tuple",data:=.seq #[.ref s.heap.objs.size,.ref h1.objs.size] }=a
 generalize j:a.push { cls:=.type "tuple",data:=.seq #[.none,.none] }=b
 have z1:h1.objs.size=s.heap.objs.size+1:=by rw [<- e1]; exact Ld ..
 have z2:h2.objs.size=s.heap.objs.size+2:=by rw [<- e2,Ld,z1]
 have z3:a.objs.size=s.heap.objs.size+3:=by rw [<- k,Ld,z2]
 have l:b.objs.size=s.heap.objs.size+4:=by rw [<- j,Ld,z3]
 have k1:∀ c o,s.heap.get? c=some o->h1.get? c=some o:=λc o x=>by rw [<- e1]; exact ls _ x
 have k2:∀ c o,h1.get? c=some o->h2.get? c=some o:=λc o x=>by rw [<- e2]; exact ls _ x
 have k3:∀ c o,h2.get? c=some o->a.get? c=some o:=λc o x=>by rw [<- k]; exact ls _ x
 have f:∀ c o,a.get? c=some o->b.get? c=some o:=λc o x=>by rw [<- j]; exact ls _ x
 have r:h1.get? s.heap.objs.size=some (ve i e):=by rw [<- e1]; exact Ej _ rfl
 have q:h2.get? h1.objs.size=some (ve g d):=by rw [<- e2]; exact Ej _ rfl
 have p:Lh a h2.objs.size (.ref s.heap.objs.size) (.ref h1.objs.size):=by show a.get? h2.objs.size=_; rw [<- k]; exact Ej _ rfl
 have n:Lh b a.objs.size .none .none:=by show b.get? a.objs.size=_; rw [<- j]; exact Ej _ rfl
 show _/\_
 rw [z2,z3,l]
 rw [z1] at q
 rw [z1,z2] at p
 rw [z3] at n
 have m:IsZip (b.push { cls:=.type "zip",data:=.fields #[.none,.bool false,.bool false,.ref (s.heap.objs.size+2),.ref (s.heap.objs.size+3)] }) (s.heap.objs.size+4) (s.heap.objs.size+2) (s.heap.objs.size+3) .none:=by
  have:=Ej b (o:={ cls:=.type "zip",data:=.fields #[.none,.bool false,.bool false,.ref (s.heap.objs.size+2),.ref (s.heap.objs.size+3)] }) rfl
  rw [l] at this; exact this
 exact ⟨⟨_,m,rfl⟩,h _ m (ls _ (f _ _ p)) (ls _ n) (ls _ (f _ _ (k3 _ _ (k2 _ _ r)))) (ls _ (f _ _ (k3 _ _ q))) λc o x=>ls _ (f _ _ (k3 _ _ (k2 _ _ (k1 _ _ x))))⟩
def Qg (b:IsEnum s.heap e it i old) (h:Q (.ref e) s):Ek (EA prog w) A (pyIter (.ref e)) Q E s:=by
 have a:s.TypeIs (.ref e) "enumerate":=⟨_,b,rfl⟩
 refine wpAny_pyIter_slot a Lg (Eu Lg a F.entry_enumerate_iter ?_ (F.args_enumerate_iter_1 _))
 show Ek _ _ (ret (.ref e)) _ _ s
 exact mo ⟨_,rfl,"enumerate",_,a,Ie.lookup,h⟩
end
def Xm {K:Eh} (h:bG K Hf a xs) (j:zR K Hf ds xs):Walks K Hf (Itl K a) ds:=λH2 a9 b f i=>by
 refine ⟨λd hd=>?_,λe=>⟨xs,f.seq (b.seq h),by rw [j.length]; exact e⟩⟩
 obtain ⟨v,k,l⟩:=j.get hd
 have g:bG K H2 a xs:=f.seq (b.seq h)
 refine ⟨⟨xs,v,g,k⟩,λx m c=>?_⟩
 obtain ⟨rfl,c⟩:=c
 have:=c xs g
 rw [k] at this
 cases this
 exact ⟨a9,Grows.refl f,l.mono b⟩
def Vr {K:Eh} (h:bT K Hf a xs) (j:zR K Hf ds xs):Walks K Hf (Itt K a) ds:=λH2 a9 b f i=>by
 refine ⟨λd hd=>?_,λe=>⟨xs,jr f (jr b h),by rw [j.length]; exact e⟩⟩
 obtain ⟨v,k,l⟩:=j.get hd
 have g:bT K H2 a xs:=jr f (jr b h)
 refine ⟨⟨xs,v,g,k⟩,λx m c=>?_⟩
 obtain ⟨rfl,c⟩:=c
 have:=c xs g
 rw [k] at this
 cases this
 exact ⟨a9,Grows.refl f,l.mono b⟩
def Grows.lay (s:yw Hf H) (c:H p=none):Grows H Hf (upd H p o) (upd Hf p o):=by
 have d:Hf p=none:=s.free c
 refine ⟨zQ c,zQ d,λb u e=>?_,λb u e=>?_⟩
 .by_cases a:b=p
  .subst a; rw [zI] at e ⊢; exact e
  .rw [z6 a] at e ⊢; exact s b u e
 .by_cases a:b=p
  .subst a; exact .inr (.inl c)
  .rw [z6 a] at e; exact .inl e
def uE (ds:List D):List D:=ds.zipIdx.map λp=>.tup [.int (p.2:Int),p.1]
def BH  {i:Nat} (h:(uE ds)[i]? = some d):∃ x,ds[i]? = some x/\d=.tup [.int i,x]:=by
 unfold uE at h
 rw [cK,List.getElem?_zipIdx] at h
 cases e:ds[i]? with
 | none=>rw [e] at h; cases h
 | some x=>rw [e] at h; simp at h; exact ⟨x,rfl,h.symm⟩
def Ui (ds):(uE ds).length=ds.length:=by simp [uE]
def Ky {K:Eh} (g:Walks K Hf J ds):Walks K Hf (ItE J) (uE ds):=λH2 a9 k n i=>by
 obtain ⟨j,h⟩:=g H2 a9 k n i
 refine ⟨λd hd=>?_,λa=>h (by rw [Ui] at a; exact a)⟩
 obtain ⟨x,l,rfl⟩:=BH hd
 obtain ⟨go,f⟩:=j x l
 refine ⟨go,λv r b=>?_⟩
 obtain ⟨y,H1,p,b,m,rfl,rfl⟩:=b
 obtain ⟨q,c,hh⟩:=f y H1 b
 have e:=Grows.lay (o:=.tup [.int i,y]) c.fh m
 exact ⟨_,c.trans e,Es.mpr ⟨p,_,rfl,bT.of zI,.cons (AC.mpr rfl) (.cons (hh.mono e.f) .nil)⟩⟩
def UZ (xs ys:List D):List D:=(xs.zip ys).map λp=>.tup [p.1,p.2]
def Q5  {i:Nat} (h:(UZ xs ys)[i]? = some d):∃ x y,xs[i]? = some x/\ys[i]? = some y/\d=.tup [x,y]:=by
 unfold UZ at h
 rw [cK] at h
 cases e:(xs.zip ys)[i]? with
 | none=>rw [e] at h; cases h
 | some p =>
  rw [e] at h
  simp at h
  obtain ⟨h1,h2⟩:=List.getElem?_zip_eq_some.mp e
  exact ⟨p.1,p.2,h1,h2,h.symm⟩
def ZN (xs ys):(UZ xs ys).length=min xs.length ys.length:=by simp [UZ]
def Gv {K:Eh} (g:∀ i H x H',J1.yld i H x H'->H'=H) (A:Walks K Hf J1 xs) (s:Walks K Hf J2 ys):Walks K Hf (ItZ J1 J2) (UZ xs ys):=λH2 a9 e w i=>by
 obtain ⟨a1,a2⟩:=A H2 a9 e w i
 obtain ⟨G,F⟩:=s H2 a9 e w i
 refine ⟨λd hd=>?_,λj=>?_⟩
 .obtain ⟨x,y,f,u,rfl⟩:=Q5 hd
  obtain ⟨l,c⟩:=a1 x f
  obtain ⟨k,z⟩:=G y u
  refine ⟨⟨l,λv H1 q=>by rw [g _ _ _ _ q]; exact k⟩,λv M q=>?_⟩
  obtain ⟨r,n,H1,J,p,t,B,C,rfl,rfl⟩:=q
  have e1:=g _ _ _ _ t
  subst e1
  obtain ⟨I,b,h1⟩:=c r _ t
  obtain ⟨L,a,E⟩:=(s H1 I (e.trans b.f) b.fh i).1 y u |>.2 n _ B
  have m:=Grows.lay (o:=.tup [r,n]) a.fh C
  exact ⟨_,(b.trans a).trans m,Es.mpr ⟨p,_,rfl,bT.of zI,.cons ((h1.mono a.f).mono m.f) (.cons (E.mono m.f) .nil)⟩⟩
 .rw [ZN] at j
  by_cases h:xs.length<=i
  .exact .inl (a2 h)
  .have f:xs[i]? = some xs[i]:=fg (by omega)
   exact .inr ⟨(a1 _ f).1,λv H1 q=>⟨g _ _ _ _ q,F (by omega)⟩⟩
section
variable {X:Cx} {e e1 e2:Expr} {f f1 f2:FE} {pos:Pos} {elts:List Expr} {kx:Nat} {tp:Pos}
def Ue  {σ:St} (I:Inv X pins σ H s) {b:Addr} (a:s.heap.objs.size<=b):jK X pins H b:=I.fpOk a (I.hok.fresh a)
def KF:D->Option (List D)
 | .lst ds=>some ds
 | .tup ds=>some ds
 | _=>none
def yx (f:FE):FA:=λρ=>(f ρ).bind KF
def V8 (f:FE):FA:=λρ=>(yx f ρ).bind λds=>some (uE ds)
def Bd (f g:FE):FA:=λρ=>(yx f ρ).bind λxs=>(yx g ρ).bind λys=>some (UZ xs ys)
def GO (I:Inv X pins σ H s) (sf:yw Hf H) (h:ae X.K Hf d v) (hd:KF d=some ds) (r:xv v u):
  ∃ (b:Bool) (a:Addr) (ah:Array Value) (J:It),u=.ref a/\gR b s.heap a ah/\Walks X.K Hf J ds/\(∀ i H x H',J.yld i H x H'->H'=H) ∧
   ∀ it,∃ tn,Draw X.prog X.w X.K J [it] it tn/\∀ h,h.get? it=some (ve b a)->tn 0 h:=by
 cases d with
 | lst j =>
  cases hd
  obtain ⟨a,xs,rfl,c,g⟩:=EJ.mp h
  cases r
  obtain ⟨ah,_,p,_⟩:=I.list (sf.seq c)
  exact ⟨true,a,_,_,rfl,p.isList,Xm c g,λ_ _ _ _ q=>q.1,λit=>⟨_,BN a it,λh e=>⟨_,e,rfl,rfl⟩⟩⟩
 | tup j =>
  cases hd
  obtain ⟨a,xs,rfl,c,g⟩:=Es.mp h
  cases r
  obtain ⟨ah,_,p,_⟩:=I.tuple (jr sf c)
  exact ⟨false,a,_,_,rfl,p,Vr c g,λ_ _ _ _ q=>q.1,λit=>⟨_,Ga a it,λh e=>⟨_,e,rfl,rfl⟩⟩⟩
 | _=>cases hd
def W1 (hg:Gl X "enumerate") (B:X.mg "enumerate"=none) (E:DE X e f) (o:Ei [e] X.env=[(false,eval e X.env)]:=by rfl):DI X (.Tuple elts kx tp) (.Call (.Name "enumerate" p) [e] [] pos) (V8 f):=by
 intro pins s σ H R I h
 obtain ⟨H₀,aa,ρ,Hf,P,M,q,k⟩:=h
 obtain ⟨ds,n,A⟩:=yt q
 cases A
 obtain ⟨d,z,y⟩:=zO n
 refine Call_ (jl I hg B boot_enumerate (EM (thn ((xi E vw o) pos pins s σ H (λvs H1=>∃ v c,vs=[v]/\Rep X.K H₀ aa σ ρ H1 c/\yw H H1/\yw Hf c/\ae X.K c d v) I ⟨H₀,aa,ρ,Hf,d,M,z,λv H1 c j s1 m h1=>⟨v,c,rfl,j,s1,m,h1⟩⟩) λus s1 ⟨vs,H1,l,x,n⟩=>?_) o rfl))
 obtain ⟨v,c,rfl,j,F,m,h1⟩:=n
 cases x with
 | cons r w =>
  cases w
  obtain ⟨b,a,ah,J,rfl,u,t,_,G⟩:=GO l j.sf h1 y r
  refine Ck u λh' g L C=>?_
  have O:Inv X pins σ H1 { s1 with heap:=h' }:=l.kept (t':=s1.toks) C
  obtain ⟨tn,D,st⟩:=G s1.heap.objs.size
  refine Qg g ⟨s1.heap.objs.size+1,[s1.heap.objs.size+1,s1.heap.objs.size],_,_,H1,rfl,O,GD (elts:=elts) (kx:=kx) (tp:=tp) (e:=s1.heap.objs.size+1) D (λb i=>by
   have e:b=s1.heap.objs.size:=by simpa using i
   rw [e]; exact cZ (AY _)),⟨st _ L,_,g⟩,λb i=>?_,k _ _ _ j F m (Ky t)⟩
  rcases aS.mp i with rfl | i
  .exact Ue l (mj _)
  .have e:b=s1.heap.objs.size:=by simpa using i
   rw [e]; exact Ue l (aT _)
def MJ (hg:Gl X "zip") (hm:X.mg "zip"=none) (h1:DE X e1 f1) (h2:DE X e2 f2) (z:Ei [e1,e2] X.env=[(false,eval e1 X.env),(false,eval e2 X.env)]:=by rfl) (hs2:Ei [e2] X.env=[(false,eval e2 X.env)]:=by rfl) :
  DI X (.Tuple elts kx tp) (.Call (.Name "zip" p) [e1,e2] [] pos) (Bd f1 f2):=by
 intro pins s σ H R I h
 obtain ⟨H₀,aa,ρ,Hf,dN,R0,q,k⟩:=h
 obtain ⟨xs,t,U⟩:=yt q
 obtain ⟨ys,Q,P⟩:=yt U
 cases P
 obtain ⟨B,T,S⟩:=zO t
 obtain ⟨A,O,M⟩:=zO Q
 refine Call_ (jl I hg hm boot_zip (EM (thn ((xi h1 (xi h2 vw hs2) (by rw [z,hs2])) pos pins s σ H (λvs H1=>∃ v g d,vs=[v,g]/\Rep X.K H₀ aa σ ρ H1 d/\yw H H1/\yw Hf d/\ae X.K d B v/\ae X.K d A g) I
  ⟨H₀,aa,ρ,Hf,B,R0,T,λv H1 d i s1 m h1=>⟨H₀,aa,ρ,d,A,i,O,λg H2 a9 R2 s2 y h2=>⟨v,g,a9,rfl,R2,s1.trans s2,m.trans y,h1.mono y,h2⟩⟩⟩) λus s1 ⟨vs,H1,j,G,t⟩=>?_) (by rw [z,hs2]) (by rw [hs2]; rfl)))
 obtain ⟨v,g,d,rfl,i,gx,m,hv,Y⟩:=t
 cases G with
 | cons r o =>
  cases o with
  | cons L o =>
   cases o
   obtain ⟨b,a,ah,J,rfl,F,C,hq,dr⟩:=GO j i.sf hv S r
   obtain ⟨b',a',its',J',rfl,n,l,hq',x⟩:=GO j i.sf Y M L
   refine FY F n λh' hz iy W hi cO hk=>?_
   have I2:Inv X pins σ H1 { s1 with heap:=h' }:=j.kept (t':=s1.toks) hk
   obtain ⟨tn,D,st⟩:=dr s1.heap.objs.size
   obtain ⟨E,D',dq⟩:=x (s1.heap.objs.size+1)
   have mem:∀ b:Addr,b∈[s1.heap.objs.size]++[s1.heap.objs.size+1]->b=s1.heap.objs.size\/b=s1.heap.objs.size+1:=λb c=>by simpa using c
   have Z:ZApart (s1.heap.objs.size+4) (s1.heap.objs.size+2) (s1.heap.objs.size+3) [s1.heap.objs.size] [s1.heap.objs.size+1] :=
    ⟨by show (_:Nat)≠_; omega,by show (_:Nat)≠_; omega,by show (_:Nat)≠_; omega,λb c=>by rcases mem b c with e | e <;> (rw [e]; show (_:Nat)≠_; omega),λb c=>by rcases mem b c with e | e <;> (rw [e]; show (_:Nat)≠_; omega),
     λb c=>by rcases mem b c with e | e <;> (rw [e]; show (_:Nat)≠_; omega),λb c w=>by
      have e1:b=s1.heap.objs.size:=by simpa using c
      have e2:b=s1.heap.objs.size+1:=by simpa using w
      rw [e1] at e2
      exact absurd e2 (cZ (AY _))⟩
   refine wpAny_pyIter_zip hz ⟨_,_,_,_,H1,rfl,I2,CO (elts:=elts) (kx:=kx) (tp:=tp) D D' Z,⟨st _ hi,dq _ cO,hz,iy,_,_,W⟩,λb c=>?_,k _ _ _ i gx m (Gv hq C l)⟩
   have u:s1.heap.objs.size<=b:=by
    have:b=s1.heap.objs.size+4\/b=s1.heap.objs.size+2\/b=s1.heap.objs.size+3\/b=s1.heap.objs.size\/b=s1.heap.objs.size+1:=by simpa using c
    rcases this with e | e | e | e | e <;> (rw [e]; show (_:Nat)<=_; omega)
   exact Ue j u
end
section
variable {prog:Ex} {w:ER} {A:Around} {E:Value->Shared->Prop} {s:Shared}
def k7    {lo hi:Option Int} (ht:IsTup s.heap t items) (d:s.heap.IsSliceOf sl f e .none) (i:IsPart f lo) (g:IsPart e hi)
  (c:HT.sIx items.size 0 lo=0/\HT.sIx items.size items.size hi=items.size) (h:Q (.ref t) s):Ek (EA prog w) A (getItem (.ref t) (.ref sl)) Q E s:=by
 obtain ⟨os,j,a,k⟩:=id d
 have b:s.TypeIs (.ref sl) "slice":=⟨os,j,a⟩
 unfold getItem
 try with_reducible refine E8 ?_
 first | refine be (mo ?_) | skip
 refine be (wpAny_sequenceKey ht.typeIs (by decide) ?_)
 refine be (Ey (name:=Ez "__getitem__") ht.typeIs EI
  (Eu EI ht.typeIs entry_tuple_getitem ?_ (args_tuple_getitem _ _)))
 show Ek _ _ (Lq (.ref t) >>= _) _ _ s
 refine be (tupleItemsOf_ ht ?_)
 refine be (wpAny_typeOf b ?_)
 rw [if_pos (by decide)]
 refine be (HT.sliceApplied_gen d i g ?_)
 rw [c.1,c.2]
 show Ek _ _ (if (((0:Nat):Int)==0&&(1:Int)==1&&(items.size - 0)==items.size)=true then _ else _) _ _ s
 rw [if_pos (by simp)]
 show Ek _ _ (Builtin.Tuple.tupleIsExact (.ref t) >>= _) _ _ s
 unfold Builtin.Tuple.tupleIsExact
 refine be (be (wpAny_typeOf ht.typeIs (mo ?_)))
 rw [if_pos (by decide)]
 refine be (Io ?_)
 exact mo ⟨_,rfl,mo h⟩
open PySem.AutoSeq1 (wpAny_loadPart') in
def U1 (l b) (j:Array Value) (n a:Nat) (dd c:Option Addr) (sl i:Array (Option Value)) :
  Meets (Builtin.«tuple.__add__» ⟨[.ref l,.ref b],[]⟩) (λ_ R s=>s.heap.get? l=some { cls:=.type "tuple",dict:=dd,data:=.seq #[] n,slots:=sl }/\s.heap.get? b=some { cls:=.type "tuple",dict:=c,data:=.seq j a,slots:=i }/\R (.ok (.ret (.ref b))) s) :=
 .of_wp λprog w A R s h=>by
  obtain ⟨k,g,d,tk,os⟩:=s; obtain ⟨e,f,h⟩:=h
  have f2:=AutoSeq1.sub_tuple_tuple
  wp_walk using EN e,EN f
  exact ⟨_,rfl,h⟩
def FX  {c:List Value} (ht:IsTup s.heap t #[]) (k:IsTup s.heap b c.toArray) (h:Q (.ref b) s):Ek (EA prog w) A (Iw .Add (.ref t) (.ref b)) Q E s:=by
 obtain ⟨⟨cls,dd,data,sl⟩,f,g,n,hd⟩:=id ht
 obtain ⟨⟨m,j,data2,l⟩,e,d,i,a⟩:=id k
 simp only at g hd d a
 subst g hd d a
 exact concat_meets ⟨_,f,rfl⟩ ⟨_,e,rfl⟩ noFill_tuple_add seq_tuple_add LR LK (LB _ _) (U1 t b c.toArray n i dd j sl l) ⟨f,e,h⟩
end
section
variable {X:Cx}
def Me (K:Eh):R2:=λx y H Q=>∃ a b xs ys,x=.ref a/\y=.ref b/\bT K H a xs/\bT K H b ys/\xs.length+ys.length<=sizeLine ∧
 (xs=[]->Q (.ref b) H)/\(xs≠[]->ys=[]->Q (.ref a) H)/\(xs≠[]->ys≠[]->∀ p,H p=none->Q (.ref p) (upd H p (.tup (xs++ys))))
def Dy:cA X (Iw .Add) (Me X.K):=by
 intro pins s σ H x y v u Q I e d h
 obtain ⟨a,b,xs,ys,rfl,rfl,g,f,hz,l,k,j⟩:=h
 by_cases c:xs=[]
 .subst c
  cases e
  cases d
  obtain ⟨ah,i,m,_⟩:=I.tuple g
  obtain ⟨o,n,p2,_⟩:=I.tuple f
  cases i
  exact FX m p2 ⟨.ref b,H,I,rfl,l rfl⟩
 .exact NY pins s σ H _ _ v u Q I e d ⟨a,b,xs,ys,rfl,rfl,g,f,c,hz,k c,j c⟩
def Mf (K:Eh):R2:=λx y H Q=>∃ a b xs ys,x=.ref a/\y=.ref b/\bG K H a xs/\bG K H b ys/\xs.length+ys.length<=sizeLine/\∀ p,H p=none->Q (.ref p) (upd H p (.lst (xs++ys)))
def Ju:cA X (Iw .Add) (Mf X.K):=by
 intro pins s σ H x y v u Q I o m h
 obtain ⟨a,b,xs,ys,rfl,rfl,z,w,hz,q⟩:=h
 cases o
 cases m
 obtain ⟨ah,g,p,_⟩:=I.list z
 obtain ⟨d,f,p2,_⟩:=I.list w
 obtain ⟨⟨cls,dd,data,sl⟩,k,l,n,hd⟩:=id p.isList
 obtain ⟨⟨B,t,data2,A⟩,j,i,r,c⟩:=id p2.isList
 simp only at l hd i c
 subst l hd i c
 have e:ah.toArray++d.toArray=(ah++d).toArray:=by simp
 have hsz:ah.toArray.size+d.toArray.size<=sizeLine:=by
  rw [cx,cx,<- g.length,<- f.length]; exact hz
 refine concat_meets ⟨_,k,rfl⟩ ⟨_,j,rfl⟩ noFill_list_add seq_list_add PySem.F.slot_list_add PySem.F.entry_list_add (PySem.F.args_list_add_2 _ _) (list_addW a b ah.toArray d.toArray n r dd t sl A hsz) ⟨k,j,?_⟩
 rw [e]
 exact ⟨.ref _,_,I.lnew (t':=s.toks) (g.append f) (by rw [aW]; exact hz),rfl,q _ I.fresh⟩
def Sv (K:Eh):R2:=λx y H Q=>ip (λi j=>.int (i+j)) x y H Q\/(∃ i j,x=.str i/\y=.str j/\i.length+j.length<=sizeLine/\Q (.str (i++j)) H)\/Me K x y H Q\/Mf K x y H Q
def NZ:cA X (Iw .Add) (Sv X.K):=SU.or (KR.or (Dy.or Ju))
def xn:D->D->Option D
 | .int i,.int j=>some (.int (i+j))
 | .str x,.str y=>if x.length+y.length<=sizeLine then some (.str (x++y)) else none
 | .tup xs,.tup ys=>if xs.length+ys.length<=sizeLine then some (.tup (xs++ys)) else none
 | .lst xs,.lst ys=>if xs.length+ys.length<=sizeLine then some (.lst (xs++ys)) else none
 | _,_=>none
def zR.nil_of {K:Eh} (h:zR K H ds xs):xs=[]↔ds=[]:=by
 have:=h.length
 constructor
 .intro e; subst e; exact g2x this.symm
 .intro e; subst e; exact g2x this
def jJ.tupF {K:Eh} (h:jJ K Hf σ ρ (.tup ds) v):ae K Hf (.tup ds) v:=by
 rcases h with h | ⟨_,_,e,_⟩
 .exact h
 .cases e
set_option tactic.hygienic true in
def DC:eW X (Sv X.K) xn:=by
 intro σ ρ H₀ aa H Hf x y dx r d Q R m l c k
 unfold xn at c
 split at c
 .cases c
  exact .inl ⟨_,_,m.int,l.int,k _ _ _ R zH zH (AC.mpr rfl)⟩
 .split at c
  .cases c
   exact .inr (.inl ⟨_,_,m.str,l.str,by assumption,k _ _ _ R zH zH (ED.mpr rfl)⟩)
  .cases c
 .split at c
  .cases c
   rename_i xs ys hz
   obtain ⟨a,vs,rfl,q,h⟩:=m.tup R
   obtain ⟨b,i,rfl,n,g⟩:=l.tup R
   refine .inr (.inr (.inl ⟨a,b,vs,i,rfl,rfl,q,n,by rw [h.length,g.length]; exact hz,λe=>?_,λ_ e=>?_,λ_ _ p f=>?_⟩))
   .cases h.nil_of.mp e
    exact k _ _ _ R zH zH (by rw [bw]; exact l.tupF)
   .cases g.nil_of.mp e
    exact k _ _ _ R zH zH (by rw [bX]; exact m.tupF)
   .have j:=zQ (o:=.tup (vs++i)) (R.sf.free f)
    exact k _ _ _ (R.lay f) (zQ f) j (Es.mpr ⟨p,_,rfl,bT.of zI,(h.append g).mono j⟩)
  .cases c
 .split at c
  .cases c
   rename_i xs ys hz
   obtain ⟨a,vs,rfl,q,h⟩:=m.lst R
   obtain ⟨b,i,rfl,n,g⟩:=l.lst R
   refine .inr (.inr (.inr ⟨a,b,vs,i,rfl,rfl,q,n,by rw [h.length,g.length]; exact hz,λp f=>?_⟩))
   have j:=zQ (o:=.lst (vs++i)) (R.sf.free f)
   exact k _ _ _ (R.lay f) (zQ f) j (EJ.mpr ⟨p,_,rfl,bG.of zI,(h.append g).mono j⟩)
  .cases c
 .cases c
variable {a b c e:Expr} {f g h:FE} {pos p2:Pos}
def zV (i:DR X a f) (d:DR X b g):DE X (.BinOp a .Add b pos) (ze xn f g):=RM NZ DC i d
abbrev FP:=aX->Option (Option Int)
def oF:FP:=λ_=>some none
def l6 (f:FE):FP:=λρ=>(f ρ).bind fun | .int i=>some (some i) | _=>none
inductive tP (K:Eh) (f:FP) (σ:St) (H:Hp) (Q:Option Int->Hp->Prop):Prop
 |mk (H₀ aa ρ Hf o) (a0:Rep K H₀ aa σ ρ H Hf) (a1:f ρ=some o) (a2:∀ H' ak,Rep K H₀ aa σ ρ H' ak->yw H H'->yw Hf ak->Q o H')
def DP (X:Cx) (e:Option Expr) (f:FP):Prop:=PO X e (tP X.K f)
def Mn {e:Option Expr} (h:PO X e t) (i:∀ σ H Q,t' σ H Q->t σ H Q):PO X e t':=λpins s σ H Q I d=>h pins s σ H Q I (i _ _ _ d)
def BO:DP X none oF:=Mn NI λσ H Q ⟨H₀,aa,ρ,Hf,d,R,q,k⟩=>by cases q; exact k _ _ R zH zH
def YH (h:DR X e f):DP X (some e) (l6 f):=Mn (NH h) λσ H Q ⟨H₀,aa,ρ,Hf,d,R,q,k⟩=>by
 obtain ⟨x,e1,e2⟩:=zO q
 cases x <;> try cases e2
 exact ⟨H₀,aa,ρ,Hf,_,R,e1,λv H1 l j s1 i h1=>⟨_,h1.int,k _ _ j s1 i⟩⟩
def Y4 {α:Type} (xs:List α) (lo hi:Option Int):List α:=(xs.drop (HT.sIx xs.length 0 lo)).take (HT.sIx xs.length xs.length hi - HT.sIx xs.length 0 lo)
def zR.cut {K:Eh} (h:zR K H ds xs) (lo hi):zR K H (Y4 ds lo hi) (B4 xs lo hi):=by
 unfold Y4 B4
 rw [h.length]
 exact (h.drop _).take _
def zca (K:Eh):V->Option Int->Option Int->Hp->VK->Prop:=λx lo hi H Q=>∃ a xs,x=.ref a/\bT K H a xs ∧
 ((HT.sIx xs.length 0 lo=0/\HT.sIx xs.length xs.length hi=xs.length)->Q (.ref a) H)/\(¬ (HT.sIx xs.length 0 lo=0/\HT.sIx xs.length xs.length hi=xs.length)->∀ p,H p=none->Q (.ref p) (upd H p (.tup (B4 xs lo hi))))
def M8:oi X (zca X.K):=by
 intro pins s σ H x v o n lo hi sl Q I i m k j h
 obtain ⟨a,xs,rfl,l,q,p⟩:=h
 by_cases hw:HT.sIx xs.length 0 lo=0/\HT.sIx xs.length xs.length hi=xs.length
 .cases i
  obtain ⟨ah,r,ht,hz⟩:=I.tuple l
  have d:ah.toArray.size=xs.length:=by rw [cx]; exact r.length.symm
  refine ⟨"tuple",_,EI.lookup,ht.typeIs,?_⟩
  exact k7 ht m k j (by rw [d]; exact hw) ⟨.ref a,H,I,rfl,q hw⟩
 .exact Sb pins s σ H _ v o n lo hi sl Q I i m k j ⟨a,xs,rfl,l,hw,p hw⟩
def jT (f:FE) (l u:FP):FE:=λρ=>(f ρ).bind λx=>(l ρ).bind λlo=>(u ρ).bind λhi=>match x with
 | .tup ds=>some (.tup (Y4 ds lo hi))
 | .lst ds=>some (.lst (Y4 ds lo hi))
 | _=>none
def B2  {lo hi:Option Int} (h:HT.sIx ds.length 0 lo=0/\HT.sIx ds.length ds.length hi=ds.length):Y4 ds lo hi=ds:=by
 unfold Y4
 rw [h.1,h.2]
 simp
def qG {lo hi:Option Expr} (I:DR X e f) (G:DP X lo l) (F:DP X hi u):DE X (.Subscript e (.Slice lo hi none p2) pos) (jT f l u) :=
 yz (Ds (M8.or M9) I G F) λσ H Q ⟨H₀,aa,ρ,Hf,d,R,q,k⟩=>by
  obtain ⟨x,e1,e2⟩:=zO q
  cases z:l ρ with
  | none=>rw [z] at e2; cases e2
  | some lo =>
   rw [z] at e2
   cases y:u ρ with
   | none=>rw [y] at e2; cases e2
   | some hi =>
    rw [y] at e2
    simp only [af] at e2
    refine ⟨H₀,aa,ρ,Hf,x,R,e1,λv H1 J L s1 C h1=>⟨H₀,aa,ρ,J,lo,L,z,λH2 a9 R2 s2 B=>⟨H₀,aa,ρ,a9,hi,R2,y,λO M j E A=>?_⟩⟩⟩
    have w:=(h1.mono B).mono A
    have r:=(s1.trans s2).trans E
    have tt:=(C.trans B).trans A
    split at e2
    .cases e2
     obtain ⟨a,xs,rfl,s,n⟩:=w.tup j
     refine .inl ⟨a,xs,rfl,s,λt=>?_,λt p i=>?_⟩
     .rw [n.length] at t
      exact k _ _ _ j r tt (by rw [B2 t]; exact w.tupF)
     .have m:=zQ (o:=.tup (B4 xs lo hi)) (j.sf.free i)
      exact k _ _ _ (j.lay i) (r.trans (zQ i)) (tt.trans m) (Es.mpr ⟨p,_,rfl,bT.of zI,(n.cut lo hi).mono m⟩)
    .cases e2
     obtain ⟨a,xs,rfl,s,n⟩:=w.lst j
     refine .inr ⟨a,xs,rfl,s,λp i=>?_⟩
     have m:=zQ (o:=.lst (B4 xs lo hi)) (j.sf.free i)
     exact k _ _ _ (j.lay i) (r.trans (zQ i)) (tt.trans m) (EJ.mpr ⟨p,_,rfl,bG.of zI,(n.cut lo hi).mono m⟩)
    .cases e2
section
variable {X:Cx} {a b c e st:Expr} {f g h fs:FE} {pos p2:Pos}
def qZ   {k:D->D->Option α} {r:α} (h:((f ρ).bind λx=>(g ρ).bind λy=>k x y)=some r):∃ x y,f ρ=some x/\g ρ=some y/\k x y=some r:=by
 obtain ⟨x,e1,e2⟩:=zO h
 obtain ⟨y,i,d⟩:=zO e2
 exact ⟨x,y,e1,i,d⟩
def vJ:List D->Option D
 | [.lst ds]=>some (.tup ds)
 | [.tup ds]=>some (.tup ds)
 | _=>none
def wD:mx X (λxs H Q=>∃ p ys,xs=[.ref p]/\((bG X.K H p ys/\∀ l,H l=none->Q (.ref l) (upd H l (.tup ys)))\/(bT X.K H p ys/\Q (.ref p) H))) vJ:=by
 intro σ ρ H₀ aa H Hf xs ds d Q R r i k
 unfold vJ at i
 split at i
 .cases i
  obtain ⟨v,rfl,j⟩:=r.one
  obtain ⟨a,ys,rfl,q,l⟩:=j.lst R
  refine ⟨a,ys,rfl,.inl ⟨q,λp m=>?_⟩⟩
  have n:=zQ (o:=.tup ys) (R.sf.free m)
  exact k _ _ _ (R.lay m) (zQ m) n (Es.mpr ⟨p,_,rfl,bT.of zI,l.mono n⟩)
 .cases i
  obtain ⟨v,rfl,j⟩:=r.one
  obtain ⟨a,ys,rfl,q,l⟩:=j.tup R
  exact ⟨a,ys,rfl,.inr ⟨q,k _ _ _ R zH zH j.tupF⟩⟩
 .cases i
def Tg (fa:FA):FA:=λρ=>(fa ρ).bind λl=>match l with
 | [.lst ds]=>some ds
 | [.tup ds]=>some ds
 | _=>none
def Re (hg:Gl X "list") (o:X.mg "list"=none) (s:iG X (e :: es) fa)
  (r:Ei (e :: es) X.env=(false,eval e X.env) :: Ei es X.env:=by rfl) (t:(F_ pos (Ei es X.env)).any (·.1)=false:=by rfl):DN X (.Call (.Name "list" p) (e :: es) [] pos) (Tg fa) :=
 yz (vd (T:="list") UA hg o (by rfl) s (by decide) (by decide) r t) λσ H Q ⟨H₀,aa,ρ,Hf,d,R,q,k⟩=>by
  obtain ⟨l,e1,e2⟩:=yt q
  refine ⟨H₀,aa,ρ,Hf,l,R,e1,λvs H1 u j s1 n h1=>?_⟩
  split at e2
  .cases e2
   obtain ⟨v,rfl,m⟩:=jI.one h1
   obtain ⟨a,ys,rfl,q,l⟩:=m.lst j
   exact ⟨a,ys,rfl,.inl q,λp i=>k _ _ _ _ (j.layN i) (s1.trans (zQ i)) n l zI (j.sf.free i) (s1.free i)⟩
  .cases e2
   obtain ⟨v,rfl,m⟩:=jI.one h1
   obtain ⟨a,ys,rfl,q,l⟩:=m.tup j
   exact ⟨a,ys,rfl,.inr q,λp i=>k _ _ _ _ (j.layN i) (s1.trans (zQ i)) n l zI (j.sf.free i) (s1.free i)⟩
  .cases e2
end
end
def Dh   {K:Eh} (h:ae K H d y) (h':ae K H d' f) (r:xv y u) (c:xv f u):y=f:=by
 cases d with
 | non =>
  cases EW.mp h
  cases r
  cases d' with
  | non=>cases EW.mp h'; rfl
  | bl _=>cases Ew.mp h'; cases c
  | int _=>cases AC.mp h'; obtain ⟨t,e⟩:=c; cases e
  | str _=>cases ED.mp h'; obtain ⟨t,e⟩:=c; cases e
  | tup _=>obtain ⟨_,_,rfl,_⟩:=Es.mp h'; cases c
  | lst _=>obtain ⟨_,_,rfl,_⟩:=EJ.mp h'; cases c
 | bl b =>
  cases Ew.mp h
  cases r
  cases d' with
  | non=>cases EW.mp h'; cases c
  | bl _=>cases Ew.mp h'; cases c; rfl
  | int _=>cases AC.mp h'; obtain ⟨t,e⟩:=c; cases e
  | str _=>cases ED.mp h'; obtain ⟨t,e⟩:=c; cases e
  | tup _=>obtain ⟨_,_,rfl,_⟩:=Es.mp h'; cases c
  | lst _=>obtain ⟨_,_,rfl,_⟩:=EJ.mp h'; cases c
 | int b =>
  cases AC.mp h
  obtain ⟨g,rfl⟩:=r
  cases d' with
  | non=>cases EW.mp h'; cases c
  | bl _=>cases Ew.mp h'; cases c
  | int _=>cases AC.mp h'; obtain ⟨t,e⟩:=c; cases e; rfl
  | str _=>cases ED.mp h'; obtain ⟨t,e⟩:=c; cases e
  | tup _=>obtain ⟨_,_,rfl,_⟩:=Es.mp h'; cases c
  | lst _=>obtain ⟨_,_,rfl,_⟩:=EJ.mp h'; cases c
 | str b =>
  cases ED.mp h
  obtain ⟨g,rfl⟩:=r
  cases d' with
  | non=>cases EW.mp h'; cases c
  | bl _=>cases Ew.mp h'; cases c
  | int _=>cases AC.mp h'; obtain ⟨t,e⟩:=c; cases e
  | str _=>cases ED.mp h'; obtain ⟨t,e⟩:=c; cases e; rfl
  | tup _=>obtain ⟨_,_,rfl,_⟩:=Es.mp h'; cases c
  | lst _=>obtain ⟨_,_,rfl,_⟩:=EJ.mp h'; cases c
 | tup ds =>
  obtain ⟨a,_,rfl,_⟩:=Es.mp h
  cases r
  cases d' with
  | non=>cases EW.mp h'; cases c
  | bl _=>cases Ew.mp h'; cases c
  | int _=>cases AC.mp h'; obtain ⟨t,e⟩:=c; cases e
  | str _=>cases ED.mp h'; obtain ⟨t,e⟩:=c; cases e
  | tup _=>obtain ⟨_,_,rfl,_⟩:=Es.mp h'; cases c; rfl
  | lst _=>obtain ⟨_,_,rfl,_⟩:=EJ.mp h'; cases c; rfl
 | lst ds =>
  obtain ⟨a,_,rfl,_⟩:=EJ.mp h
  cases r
  cases d' with
  | non=>cases EW.mp h'; cases c
  | bl _=>cases Ew.mp h'; cases c
  | int _=>cases AC.mp h'; obtain ⟨t,e⟩:=c; cases e
  | str _=>cases ED.mp h'; obtain ⟨t,e⟩:=c; cases e
  | tup _=>obtain ⟨_,_,rfl,_⟩:=Es.mp h'; cases c; rfl
  | lst _=>obtain ⟨_,_,rfl,_⟩:=EJ.mp h'; cases c; rfl
open Classical in
noncomputable def UX (K:Eh) (H:Hp) (dx:D) (u:Value):Bool:=decide (∃ d y,xv y u/\ae K H d y/\bx d dx=true)
section
variable {X:Cx} {pins:List (Addr×Obj)} {σ:St} {H:Hp} {s:Shared}
open Classical in
def Cz (I:Inv X pins σ H s) (r:xv y u) (h:ae X.K H d y):UX X.K H dx u=bx d dx:=by
 unfold UX
 cases a:bx d dx with
 | true=>exact decide_eq_true ⟨d,y,r,h,a⟩
 | false =>
  refine decide_eq_false ?_
  rintro ⟨d',e,c,h',b⟩
  cases Dh h' h c r
  cases ae.inj I h' h
  rw [a] at b; cases b
theorem kz (I:Inv X pins σ H s):∀ {ds:List D} {xs:List V} {us:List Value},zR X.K H ds xs->yR xs us->us.any (UX X.K H dx)=ds.any λd=>bx d dx
 | [],_,_,h,r=>by rw [zR.nil_iff] at h; subst h; cases r; rfl
 | d :: ds,_,_,h,r=>by
  obtain ⟨x,b,rfl,h1,h2⟩:=Eo.mp h
  cases r with
  | cons r a=>rw [List.any_cons,List.any_cons,Cz I r h1,kz I h2 a]
theorem kc (I:Inv X pins σ H s) (e:ae X.K H dx x) (c:xv x v):∀ {ds:List D} {xs:List V} {us:List Value},zR X.K H ds xs->yR xs us->A.units+qg ds < IM->∀ u∈us,SeqAt.EqAt A s u v (UX X.K H dx u)
 | [],_,_,h,r,_=>by rw [zR.nil_iff] at h; subst h; cases r; intro u b; cases b
 | d :: ds,_,_,h,r,b=>by
  obtain ⟨y,i,rfl,h1,h2⟩:=Eo.mp h
  unfold qg at b
  cases r with
  | cons r g =>
   intro f a
   rcases aS.mp a with rfl | hm
   .rw [Cz I r h1]
    exact WX I d A dx y x _ v h1 e r c (by have:=Nat.le_max_left (dep d) (qg ds); omega)
   .exact kc I e c h2 g (by have:=Nat.le_max_right (dep d) (qg ds); omega) f hm
end
section
variable {X:Cx} {e a b c:Expr} {f g h:FE} {pos p2:Pos} {kk:Nat}
def inS (x z:Str):Bool := !(LI z x 0 z.length 1).isEmpty
def zcd (K:Eh) (neg:Bool):R2:=λx y H Q=>(∃ p ds xs dx,y=.ref p/\(bG K H p xs\/bT K H p xs)/\zR K H ds xs/\ae K H dx x/\qg ds<=100/\Q (.bl (xor neg (ds.any λd=>bx d dx))) H) ∨
 (∃ i j,x=.str i/\y=.str j/\Q (.bl (xor neg (inS i j))) H)
def Mr (z:Room kk X.A):cA X (G_ .In) (zcd X.K false):=by
 intro pins s σ H x y v u Q I l n h
 rcases h with ⟨p,ds,xs,dx,rfl,d,k,o,hd,q⟩ | h
 .cases n
  have t:X.A.in1.units+qg ds < IM:=by show X.A.units+1+qg ds < IM; have:=z.un; omega
  simp only [Bool.false_xor] at q
  rcases d with d | d
  .obtain ⟨ah,r,m,hz⟩:=I.list d
   refine SeqAt.in_listAt (UX X.K H dx) m.isList (λw hw=>kc I o l k r t w (by simpa using hw)) ⟨.bl _,H,I,rfl,?_⟩
   rw [show ah.toArray.any (UX X.K H dx)=ah.any (UX X.K H dx) by simp,kz I k r]
   exact q
  .obtain ⟨ah,r,m,hz⟩:=I.tuple d
   refine SeqAt.in_tupleAt (UX X.K H dx) m (λw hw=>kc I o l k r t w (by simpa using hw)) ⟨.bl _,H,I,rfl,?_⟩
   rw [show ah.toArray.any (UX X.K H dx)=ah.any (UX X.K H dx) by simp,kz I k r]
   exact q
 .obtain ⟨i,j,e1,e2,q⟩:=h
  exact Hr pins s σ H x y v u Q I l n ⟨i,j,e1,e2,by simpa [inS] using q⟩
def VR (z:Room kk X.A):cA X (G_ .NotIn) (zcd X.K true):=by
 intro pins s σ H x y v u Q I l n h
 rcases h with ⟨p,ds,xs,dx,rfl,d,k,o,hd,q⟩ | h
 .cases n
  have t:X.A.in1.units+qg ds < IM:=by show X.A.units+1+qg ds < IM; have:=z.un; omega
  simp only [Bool.true_xor] at q
  rcases d with d | d
  .obtain ⟨ah,r,m,hz⟩:=I.list d
   refine SeqAt.notIn_listAt (UX X.K H dx) m.isList (λw hw=>kc I o l k r t w (by simpa using hw)) ⟨.bl _,H,I,rfl,?_⟩
   rw [show ah.toArray.any (UX X.K H dx)=ah.any (UX X.K H dx) by simp,kz I k r]
   exact q
  .obtain ⟨ah,r,m,hz⟩:=I.tuple d
   refine SeqAt.notIn_tupleAt (UX X.K H dx) m (λw hw=>kc I o l k r t w (by simpa using hw)) ⟨.bl _,H,I,rfl,?_⟩
   rw [show ah.toArray.any (UX X.K H dx)=ah.any (UX X.K H dx) by simp,kz I k r]
   exact q
 .obtain ⟨i,j,e1,e2,q⟩:=h
  exact VQ pins s σ H x y v u Q I l n ⟨i,j,e1,e2,by simpa [inS] using q⟩
def inD (neg:Bool):D->D->Option D
 | x,.lst ds=>if qg ds<=100 then some (.bl (xor neg (ds.any λd=>bx d x))) else none
 | x,.tup ds=>if qg ds<=100 then some (.bl (xor neg (ds.any λd=>bx d x))) else none
 | .str x,.str z=>some (.bl (xor neg (inS x z)))
 | _,_=>none
def Jv  : eW X (zcd X.K neg) (inD neg):=by
 intro σ ρ H₀ aa H Hf x y dx o d Q R n m i k
 unfold inD at i
 split at i
 .split at i
  .cases i
   rename_i hd
   obtain ⟨a,xs,rfl,j,l⟩:=m.lst R
   exact .inl ⟨a,_,xs,dx,rfl,.inl j,l.mono R.sf,n.full R,hd,k _ _ _ R zH zH (Ew.mpr rfl)⟩
  .cases i
 .split at i
  .cases i
   rename_i hd
   obtain ⟨a,xs,rfl,j,l⟩:=m.tup R
   exact .inl ⟨a,_,xs,dx,rfl,.inr j,l.mono R.sf,n.full R,hd,k _ _ _ R zH zH (Ew.mpr rfl)⟩
  .cases i
 .cases i
  exact .inr ⟨_,_,n.str,m.str,k _ _ _ R zH zH (Ew.mpr rfl)⟩
 .cases i
def zc9 (d:Room kk X.A) (k:DR X a f) (j:DR X b g) (i:EU .In b=false:=by rfl):DE X (.Compare a [.In] [b] pos) (ze (inD false) f g):=B0 (Mr d) Jv k j i
def BX (d:Room kk X.A) (k:DR X a f) (j:DR X b g) (i:EU .NotIn b=false:=by rfl):DE X (.Compare a [.NotIn] [b] pos) (ze (inD true) f g):=B0 (VR d) Jv k j i
def T9 (d:Room kk X.A) (k:DR X a f) (j:DR X b g) (i:EU .In b=false:=by rfl):DT X (.Compare a [.In] [b] pos) (aU (ze (inD false) f g)):=xO (Mr d) Jv k j i
def J8 (d:Room kk X.A) (k:DR X a f) (j:DR X b g) (i:EU .NotIn b=false:=by rfl):DT X (.Compare a [.NotIn] [b] pos) (aU (ze (inD true) f g)):=xO (VR d) Jv k j i
structure GTup (K:Eh) (mg:Str->Option Value) (x:Str) (ds:List D):Prop where
 ex:∃ a,mg x=some (.ref a)/\ae K (λ_=>none) (.tup ds) (.ref a)
def j3  : yw (λ_=>none) H:=λ_ _ e=>by cases e
def BZ (hg:Gl X x) (d:GTup X.K X.mg x ds) (hd:(x==("__debug__":Str))=false:=by decide):DE X (.Name x pos) (cF (.tup ds)):=by
 obtain ⟨a,h1,h2⟩:=d.ex
 exact yz (kW (v:=.ref a) hg h1 rfl hd) λσ H Q ⟨H₀,aa,ρ,Hf,d',R,q,k⟩=>by
  cases q
  exact k _ _ _ R zH zH (h2.mono j3)
def Bp {K:Eh} {a:Addr} (h1:mg x=some (.ref a)) (h2:K.lookup a=some ⟨.type "tuple",od,.seq ah n,gy⟩) (hz:ah.size<=sizeLine) (d:yR xs ah.toList) (i:zR K (λ_=>none) ds xs):GTup K mg x ds :=
 ⟨a,h1,Es.mpr ⟨a,xs,rfl,.inr ⟨_,ah,n,h2,rfl,rfl,hz,d⟩,i⟩⟩
structure GDict (K:Eh) (mg:Str->Option Value) (x:Str) (aJ:List (Int×D)):Prop where
 ex:∃ (a:Addr) (o:Obj) (es:Array IK) (ep:Nat) (vs:List (Int×Value)),mg x=some (.ref a)/\K.lookup a=some o/\o.ExactDict/\o.data=.dict es ep/\(∀ P w,KeysOf (IS P w) es/\Pairs (IS P w) es.toList vs)/\(vs.map (·.1)).Nodup ∧
  ∀ k d,aJ.lookup k=some d->∃ u v,Lp vs k=some u/\xv v u/\ae K (λ_=>none) d v
def Zy (aJ:List (Int×D)):D->Option D
 | .int k=>aJ.lookup k
 | _=>none
set_option tactic.hygienic true in
def Rk (hg:Gl X x) (J:GDict X.K X.mg x aJ) (hi:DR X i f) (G:zdi i:=by intro _ _; rfl) (hd:(x==("__debug__":Str))=false:=by decide):DE X (.Subscript (.Name x p) i pos) (UL (Zy aJ) f):=by
 obtain ⟨a,o,es,ep,vs,h1,h2,m,O,l,M,L⟩:=J.ex
 intro pins s σ H Q I h
 obtain ⟨H₀,aa,ρ,Hf,d,R,q,k⟩:=h
 obtain ⟨y,e1,e2⟩:=zO q
 unfold Zy at e2
 split at e2
 .rename_i n
  obtain ⟨u,v,F,E,C⟩:=L n d e2
  refine GL PySem.F.slot_dict_getitem.lookup G (thn (kW (v:=.ref a) hg h1 rfl hd pins s σ H (λx H1=>x=.ref a/\H1=H) I ⟨rfl,rfl⟩) λu0 s1 ⟨x,H1,Y,B,ex,S⟩=>?_)
  subst ex S
  cases B
  refine thn (hi pins s1 σ H1 (λy H2=>y=.int n/\∃ a9,Rep X.K H₀ aa σ ρ H2 a9/\yw H1 H2/\yw Hf a9) Y ⟨H₀,aa,ρ,Hf,_,R,e1,λv H1 U W s1 z h1=>⟨h1.int,U,W,s1,z⟩⟩) λiv s2 ⟨y,H2,r,A,P,a9,R2,T,w⟩=>?_
  subst P
  obtain ⟨t,rfl⟩:=A
  have j:=r.kIn a o h2
  have Z:s2.heap.DictOf (IS X.prog X.w) a vs:=⟨o,es,ep,j,m,O,(l _ _).1,(l _ _).2,M⟩
  refine ⟨⟨o,j,m.1⟩,wpAny_getItem_of (knd:=IS X.prog X.w) (k:=n) (by show IA n (.int n t)=true; simp [IA]) Z.mapOf F ⟨v,H2,r.tok _,E,?_⟩⟩
  exact k _ _ _ R2 T w (C.mono j3)
 .cases e2
end
def Yg:Manifest.owners.lookup (String.ofList ['d','e','s','r','e','v','e','r'].reverse)=some Manifest.sig_reversed:=by kernel_rfl
def yD:PySem.Slot "reversed" "__next__" "reversed.__next__" :=
 .of (owner:="reversed") (n:="__next__") (by rw [IX,Ig]; kernel_rfl) (by decide +kernel) (by decide +kernel) (by decide +kernel)
  (by first | exact .inl (by decide +kernel) | exact .inr (by decide +kernel)) (by rw [Iv]; kernel_rfl)
def w8:entryFor table "reversed.__next__"=some Builtin.«reversed.__next__» := entryFor_of_tree (by kernel_rfl)
def vC (a):argsOk "reversed.__next__" ⟨[a],[]⟩:=by
 unfold argsOk; rw [signature?_of (id:="reversed.__next__") (n:=['_','_','t','x','e','n','_','_']) (o:=['d','e','s','r','e','v','e','r']) (by kernel_rfl) Yg]; kernel_rfl
def jS:PySem.Slot "reversed" "__iter__" "reversed.__iter__" :=
 .of (owner:="reversed") (n:="__iter__") (by rw [IX,Ig]; kernel_rfl) (by decide +kernel) (by decide +kernel) (by decide +kernel)
  (by first | exact .inl (by decide +kernel) | exact .inr (by decide +kernel)) (by rw [Iv]; kernel_rfl)
def Vc (a):argsOk "reversed.__iter__" ⟨[a],[]⟩:=by
 unfold argsOk; rw [signature?_of (id:="reversed.__iter__") (n:=['_','_','r','e','t','i','_','_']) (o:=['d','e','s','r','e','v','e','r']) (by kernel_rfl) Yg]; kernel_rfl
def Xd:entryFor table "reversed.__iter__"=some Builtin.«dict_keyiterator.__iter__» :=
 entryFor_alias (id':="dict_keyiterator.__iter__") (by kernel_rfl) (by first | rfl | decide +kernel | (unfold String.splitOn; simp +decide [String.splitOnAux])) (by decide +kernel) (by kernel_rfl)
def Wf:PySem.Slot "reversed" "__init__" "object.__init__" :=
 .of (owner:="object") (n:="__init__") (by rw [IX,Ig]; kernel_rfl) (by decide +kernel) (by decide +kernel) (by decide +kernel)
  (by first | exact .inl (by decide +kernel) | exact .inr (by decide +kernel)) (by rw [Iv]; kernel_rfl)
def Gg:TypeCalled "reversed" "reversed.__new__" "object.__init__" :=
 ⟨by decide +kernel,by decide +kernel,⟨_,_,F.mro_reversed⟩,F.made_reversed,by decide +kernel,by rw [Iv]; kernel_rfl,Wf⟩
def kI:typeLookup (.type "tuple") "__reversed__"=pure none:=by rw [IX,Ig]; kernel_rfl
def Y6:isSubtype (.type "tuple") (.type "dict")=pure false:=by rw [Iv]; kernel_rfl
abbrev jH (h:Heap) (r t:Addr) (i:Int):Prop:=h.get? r=some { cls:=.type "reversed",dict:=none,data:=.fields #[.ref t,IF i],slots := #[] }
section
variable {prog:Ex} {w:ER} {A:Around} {E:Value->Shared->Prop} {s:Shared}
def kb  {i:Nat} {Q:Value->Shared->Prop} (a:jH s.heap r t (i:Int)) (ht:IsTup s.heap t items) (b:items[i]? = some x) (hz:items.size<=sizeLine)
  (d:∀ h',jH h' r t ((i:Int) - 1)->Heap.SameBut r s.heap h'->Q x { s with heap:=h',toks:=s.toks+1 }):Ek (EA prog w) A (Builtin.«reversed.__next__» ⟨[.ref r],[]⟩) (λfin s'=>∃ v,fin=.done (.ret v)/\Q v s') E s:=by
 have hi:i < items.size:=(Array.getElem?_eq_some_iff.mp b).1
 have f:=qw
 show Ek _ _ (field (.ref r) 0 >>= _) _ _ _
 refine be (EC a rfl (x:=.ref t) rfl ?_)
 show Ek _ _ (field (.ref r) 1 >>= _) _ _ _
 refine be (EC a rfl (x:=IF (i:Int)) rfl ?_)
 show Ek _ _ (if ((i:Int) < 0) then _ else _) _ _ _
 rw [if_neg (by omega)]
 refine be (Ia ht.typeIs EI.lookup ?_)
 show Ek _ _ (if (false=true) then _ else _) _ _ _
 rw [if_neg iR]
 show Ek _ _ (mkInt (i:Int) >>= _) _ _ _
 refine be (wpAny_mkInt ?_)
 refine be (Ic ?_)
 refine getItem_tuple (j:=i) ht (by omega) (by omega) (seqIndex_of (by omega) (by omega)) b ?_
 show Ek _ _ (field (.ref r) 1 >>= _) _ _ _
 refine be (EC (s:={ s with toks:=s.toks+1 }) a rfl (x:=IF (i:Int)) rfl ?_)
 refine be (EF (s:={ s with toks:=s.toks+1 }) a (by simp) λh₁ c e=>?_)
 exact mo ⟨_,rfl,d h₁ c e⟩
def Zp (hh:A.handled=none) (hr:jH s.heap r t i) (hi:i < 0)
  (hE:∀ h' e,Heap.ExtBut r s.heap h'->(∃ o,h'.get? e=some o/\o.cls=.type "StopIteration")->E (.ref e) { s with heap:=h' }):Ek (EA prog w) A (Builtin.«reversed.__next__» ⟨[.ref r],[]⟩) Q E s:=by
 show Ek _ _ (field (.ref r) 0 >>= _) _ _ _
 refine be (EC hr rfl (x:=.ref t) rfl ?_)
 show Ek _ _ (field (.ref r) 1 >>= _) _ _ _
 refine be (EC hr rfl (x:=IF i) rfl ?_)
 show Ek _ _ (if (i < 0) then _ else _) _ _ _
 rw [if_pos hi]
 refine be (Io ?_)
 refine be ?_
 show Ek _ _ (setField (.ref r) 1 (IF (-1)) >>= λ_=>setField (.ref r) 0 .none) _ _ _
 refine be (EF hr (by simp) λh₁ lG bN=>?_)
 refine EF lG (by simp) λdY hr₂ dZ=>?_
 refine be ?_
 show Ek _ _ (newExc (.type "StopIteration") [] >>= _) _ _ _
 refine be ?_
 simp only [newExc,newTuple]
 refine be (ES ?_ (by size_fits))
 refine be (m:=firstArgMember _ _) (IQ (a:=E_) (by first | rfl | (simp only [firstArgMember]; rfl)) ?_)
 refine ES ?_ (by size_fits)
 simp only [raiseNew]
 refine be (wpAny_handled ?_)
 first | rw [show A.in1.handled=none from hh] | rw [hh]
 refine be (mo (wpAny_throw ?_))
 exact hE _ _ (λb o hb e=>ls _ (ls _ ((dZ.2 b hb).trans ((bN.2 b hb).trans e)))) ⟨_,Ej _ rfl,rfl⟩
def HJ (t) (items:Array Value) (b:(items.size:Int) < 2 ^ 63):Meets (Builtin.«reversed.__new__» ⟨[.type "reversed",.ref t],[]⟩) (λ_ R s=>IsTup s.heap t items ∧
  R (.ok (.ret (.ref s.heap.objs.size))) { s with heap:=s.heap.push { cls:=.type "reversed",data:=.fields #[.ref t,IF ((items.size:Int) - 1)] },toks:=s.toks+1+1 }) :=
 .of_wp λprog w A R s h=>by
  obtain ⟨ht,h⟩:=h
  unfold Builtin.«reversed.__new__»
  refine be (IQ (newClass_reversed _) ?_)
  try dsimp only
  refine be (IQ (a:=()) (by first | rfl | kernel_rfl) ?_)
  refine be (IQ (a:=()) (by first | rfl | kernel_rfl) ?_)
  try dsimp only
  refine be (Ia ht.typeIs kI ?_)
  try dsimp only
  refine be ?_
  show Ek _ _ (isInstance (.ref t) (.type "dict") >>= _) _ _ _
  refine be (EZ ht.typeIs Y6 ?_)
  show Ek _ _ (if (false=true) then _ else _) _ _ _
  rw [if_neg iR]
  refine be (Ia ht.typeIs EI.lookup ?_)
  try dsimp only
  rw [if_pos (by decide)]
  refine mo ?_
  show Ek _ _ (if (false=true) then _ else _) _ _ _
  rw [if_neg iR]
  refine be (len_tuple ht b ?_)
  refine be (IQ (a:=some (items.size:Int)) rfl ?_)
  try dsimp only
  refine be ?_
  show Ek _ _ (newObj (.type "reversed") (.fields #[.ref t,IF ((items.size:Int) - 1)])) _ _ _
  exact ES (mo ⟨_,rfl,h⟩)
def Kk (ht:IsTup s.heap t items) (a:(items.size:Int) < 2 ^ 63)
  (h:Q (.ref s.heap.objs.size) { s with heap:=s.heap.push { cls:=.type "reversed",data:=.fields #[.ref t,IF ((items.size:Int) - 1)] },toks:=s.toks+1+1 }):Ek (EA prog w) A (call (.type "reversed") [.ref t]) Q E s :=
 callType_new Gg (by decide) (F.typeCall_reversed_1 _) (F.newCall_reversed_1 _) (λobj=>F.args_object_init_2 obj _) F.entry_reversed_new (HJ t items a) ⟨ht,⟨_,Ej _ rfl,rfl⟩,h⟩
def kQ (b:jH s.heap r t i) (h:Q (.ref r) s):Ek (EA prog w) A (pyIter (.ref r)) Q E s:=by
 have a:s.TypeIs (.ref r) "reversed":=⟨_,b,rfl⟩
 refine wpAny_pyIter_slot a jS (Eu jS a Xd ?_ (Vc _))
 show Ek _ _ (ret (.ref r)) _ _ s
 exact mo ⟨_,rfl,"reversed",_,a,yD.lookup,h⟩
end
def ItB (K:Eh) (a:Addr) (n:Nat):It :=
 ⟨λi H=>∃ xs x,bT K H a xs/\xs.length=n/\xs.reverse[i]? = some x,λi H x H'=>H'=H/\∀ xs,bT K H a xs->xs.reverse[i]? = some x,λi H=>∃ xs,bT K H a xs/\xs.length=n/\n<=i⟩
def CP {P:Ex} {w:ER} {K:Eh} {tg:Expr} (a r:Addr) (n:Nat):Turn P w K tg (ItB K a n) [r] r (λi h=>jH h r a ((n:Int) - 1 - i)) where
 mem:=by simp
 obj:=λi h st b d=>by
  have e:b=r:=by simpa using d
  subst e
  exact ⟨_,st,λv z=>by cases z⟩
 keep:=λi h h' st k=>k r (by simp) _ st
 item:=by
  intro X m j q y i pins s σ H E I g st hg
  subst m j q
  obtain ⟨xs,x,l,M,c⟩:=hg
  obtain ⟨ah,t,p,hz⟩:=I.tuple l
  have O:=t.length
  have hi:i < xs.length:=by have:=(iS.mp c).1; simpa using this
  have S:xs[xs.length - 1 - i]? = some x:=by rw [List.getElem?_reverse hi] at c; exact c
  obtain ⟨u,J,F⟩:=t.get S
  have fr:=g r (by simp)
  have f:s.TypeIs (.ref r) "reversed":=⟨_,st,rfl⟩
  have R:((n:Int) - 1 - i)=((xs.length - 1 - i:Nat):Int):=by omega
  rw [R] at st
  unfold pyNext
  refine be (Ic (Ey (name:=Ez "__next__") f yD (Eu yD f w8
   (kb st p (x:=u) (by simpa using J) (by rw [cx,<- O]; exact hz) λh' B C=>mo ?_) (vC _))))
  have I1:Inv X pins σ H { s with heap:=h',toks:=s.toks+1 }:=qh (t':=s.toks+1) I C fr
  refine ⟨u,rfl,Fq (s:={ s with heap:=h',toks:=s.toks+1 }) B rfl rfl (by decide) ⟨x,H,I1,F,⟨rfl,λys G=>by rw [I.tuple_inj G l]; exact c⟩,?_,λb d=>(g b d).1⟩⟩
  have e:((n:Int) - 1 - ((i+1:Nat):Int))=((xs.length - 1 - i:Nat):Int) - 1:=by omega
  show jH h' r a ((n:Int) - 1 - ((i+1:Nat):Int))
  rw [e]
  exact B
 done:=by
  intro X m j q y i pins s σ H E I g st hg
  subst m j q
  obtain ⟨xs,l,M,c⟩:=hg
  have fr:=g r (by simp)
  have f:s.TypeIs (.ref r) "reversed":=⟨_,st,rfl⟩
  unfold pyNext
  refine be (Ic (Ey (name:=Ez "__next__") f yD (Eu yD f w8
   (Zp (show X.A.in1.handled=none from I.ok.hd y) st (by omega) λh' e eb ⟨o,L,U⟩=>?_) (vC _))))
  refine be (EZ (T:="StopIteration") (b:=true) ⟨o,L,U⟩ Ly ?_)
  obtain ⟨f0,f1,f2,Z,Y,W⟩:=fr
  exact mo ⟨rfl,I.turned (t':=s.toks) (λb o d e=>eb b o d e) f0 f1 Z Y W⟩
 self:=λA i s Q E st h=>kQ st h
section
variable {X:Cx} {e:Expr} {f:FE} {pos:Pos} {tg:Expr}
def MA (f:FE):FA:=λρ=>(f ρ).bind fun | .tup ds=>some ds.reverse | _=>none
def Gw {K:Eh} (j:bT K Hf a xs) (k:zR K Hf ds xs):Walks K Hf (ItB K a xs.length) ds.reverse:=λH2 a9 b g i=>by
 refine ⟨λd hd=>?_,λhle=>⟨xs,jr g (jr b j),rfl,by rw [k.length]; simpa using hle⟩⟩
 obtain ⟨v,l,m⟩:=k.reverse.get hd
 have h:bT K H2 a xs:=jr g (jr b j)
 refine ⟨⟨xs,v,h,rfl,l⟩,λx n c=>?_⟩
 obtain ⟨rfl,c⟩:=c
 have:=c xs h
 rw [l] at this
 cases this
 exact ⟨a9,Grows.refl g,m.mono b⟩
def zab (hg:Gl X "reversed") (C:X.mg "reversed"=none) (E:DE X e f) (m:Ei [e] X.env=[(false,eval e X.env)]:=by rfl):DI X tg (.Call (.Name "reversed" p) [e] [] pos) (MA f):=by
 intro pins s σ H R I h
 obtain ⟨H₀,aa,ρ,Hf,P,L,q,k⟩:=h
 obtain ⟨d,z,y⟩:=zO q
 refine Call_ (jl I hg C boot_reversed (EM (thn ((xi E vw m) pos pins s σ H (λvs H1=>∃ v c,vs=[v]/\Rep X.K H₀ aa σ ρ H1 c/\yw H H1/\yw Hf c/\ae X.K c d v) I ⟨H₀,aa,ρ,Hf,d,L,z,λv H1 c g s1 i h1=>⟨v,c,rfl,g,s1,i,h1⟩⟩) λus s1 ⟨vs,H1,j,x,A⟩=>?_) m rfl))
 obtain ⟨v,c,rfl,g,G,i,h1⟩:=A
 cases x with
 | cons r w =>
  cases w
  cases d <;> try cases y
  obtain ⟨a,xs,rfl,l,B⟩:=Es.mp h1
  cases r
  obtain ⟨ah,u,p,hz⟩:=j.tuple (jr g.sf l)
  have t:=u.length
  have O:=qw
  refine Kk p (by rw [cx,<- t]; omega) ?_
  have J:((ah.toArray.size:Nat):Int) - 1=(xs.length:Int) - 1 - ((0:Nat):Int):=by rw [cx,<- t]; simp
  have n:jH (s1.heap.push { cls:=.type "reversed",data:=.fields #[.ref a,IF (((ah.toArray.size:Nat):Int) - 1)] }) s1.heap.objs.size a ((xs.length:Int) - 1 - ((0:Nat):Int)):=by
   rw [<- J]; exact Ej _ rfl
  have M:Inv X pins σ H1 { s1 with heap:=s1.heap.push { cls:=.type "reversed",data:=.fields #[.ref a,IF (((ah.toArray.size:Nat):Int) - 1)] },toks:=s1.toks+1+1 }:=j.kept λb o e=>ls _ e
  refine kQ n ⟨s1.heap.objs.size,[s1.heap.objs.size],_,_,H1,rfl,M,CP a s1.heap.objs.size xs.length,n,λb F=>?_,k _ _ _ g G i (Gw l B)⟩
  have e:b=s1.heap.objs.size:=by simpa using F
  rw [e]; exact Ue j (aT _)
end
section
variable {X:Cx} {e:Expr} {f:FE} {pos:Pos} {tg:Expr}
def y4 (z:DE X e f):DI X tg e (yx f):=by
 intro pins s σ H R I h
 obtain ⟨H₀,aa,ρ,Hf,ds,B,q,k⟩:=h
 obtain ⟨d,y,m⟩:=zO q
 refine thn (z pins s σ H (λv H1=>∃ g,Rep X.K H₀ aa σ ρ H1 g/\yw H H1/\yw Hf g/\ae X.K g d v) I ⟨H₀,aa,ρ,Hf,d,B,y,λv H1 g i s1 l h1=>⟨g,i,s1,l,h1⟩⟩) λu s1 ⟨v,H1,c,r,g,i,w,l,h1⟩=>?_
 cases d with
 | lst A =>
  cases m
  obtain ⟨a,xs,rfl,j,n⟩:=EJ.mp h1
  cases r
  obtain ⟨ah,x,p,hz⟩:=c.list (i.sf.seq j)
  refine wpAny_pyIter_list p.isList ?_
  refine ⟨s1.heap.objs.size,[s1.heap.objs.size],_,_,H1,rfl,c.kept (t':=s1.toks) λb o e=>ls _ e,GC a _,⟨_,Ej _ rfl,rfl,rfl⟩,λb t=>?_,k _ _ _ i w l (Xm j n)⟩
  have e:b=s1.heap.objs.size:=by simpa using t
  subst e
  exact c.fpOk (aT _) (c.hok.fresh (aT _))
 | tup A =>
  cases m
  obtain ⟨a,xs,rfl,j,n⟩:=Es.mp h1
  cases r
  obtain ⟨ah,x,p,hz⟩:=c.tuple (jr i.sf j)
  refine wpAny_pyIter_tuple (show s1.heap.IsTuple a ah.toArray from p) ?_
  refine ⟨s1.heap.objs.size,[s1.heap.objs.size],_,_,H1,rfl,c.kept (t':=s1.toks) λb o e=>ls _ e,Kz a _,⟨_,Ej _ rfl,rfl,rfl⟩,λb t=>?_,k _ _ _ i w l (Vr j n)⟩
  have e:b=s1.heap.objs.size:=by simpa using t
  subst e
  exact c.fpOk (aT _) (c.hok.fresh (aT _))
 | _=>cases m
end
def Zt (k:NameKind):Option NameKind->Bool
 | some a=>a==k
 | none=>false
def MO (j_ scope:Scope) (frees:List Str):Bool :=
 scope.kind==.function&&scope.names.all (λy => !(y.2==.cell))&&scope.names.all (λy => !(y.2==.local)||Zt .local (scope.names.lookup y.1)) &&
 scope.names.all (λy => !(y.2==.free)||(Zt .cell (j_.names.lookup y.1)||Zt .free (j_.names.lookup y.1))) &&
 frees.all (λx=>(Zt .cell (j_.names.lookup x)||Zt .free (j_.names.lookup x))&&Zt .free (scope.names.lookup x))
def uB (h:Zt k o=true):o=some k:=by
 unfold Zt at h
 split at h
 .rw [eq_of_beq h]
 .cases h
def CompScope.of (h:MO j_ scope frees=true):CompScope j_ scope own frees:=by
 unfold MO at h
 simp only [dR,bS] at h
 obtain ⟨⟨⟨⟨h1,h2⟩,e⟩,d⟩,c⟩:=h
 refine ⟨eq_of_beq h1,λy a z=>?_,λy a z=>?_,λy a z=>?_,λx b=>?_⟩
 .have:=h2 y a
  rw [z] at this
  simp at this
 .have:=e y a
  rw [z] at this
  simp at this
  exact uB this
 .have:=d y a
  rw [z] at this
  simp at this
  exact this.imp uB uB
 .have:=c x b
  exact ⟨(by simpa using this.1:_\/_).imp uB uB,uB this.2⟩
section
variable {X:Cx} {scope:Scope} {own frees:List Str} {caps:List Nat}
def Rep.lstFrz {K:Eh} (R:Rep K H₀ aa σ ρ H Hf) (R':Rep K H₀ aa σ ρ H' ak) (m:H' a=some (.lst xs)) (l:ak a=none) (hh:H a=none):Rep K H₀ aa σ ρ H' (upd ak a (.lst xs)):=by
 have f:yw ak (upd ak a (.lst xs)):=zQ l
 refine ⟨R'.s0,λb u z=>?_,λb u z=>?_,R'.f0.trans f,R'.len,λi d z=>?_,λi sl z o=>?_,R'.inj⟩
 .by_cases c:b=a
  .subst c; rw [zI] at z; cases z; exact m
  .rw [z6 c] at z; exact R'.sf b u z
 .by_cases c:b=a
  .subst c; exact .inr (.inl (R.s0.free hh))
  .rw [z6 c] at z; exact R'.nf b u z
 .obtain ⟨v,e,p2⟩:=R'.fr i d z
  exact ⟨v,e,p2.mono f⟩
 .obtain ⟨b,e,p2,p,n⟩:=R.ow i sl z o
  obtain ⟨r,g,j,r3,h⟩:=R'.ow i sl z o
  rw [e] at g; cases g
  refine ⟨b,e,j.mono (λu q=>q) f,?_,h⟩
  rw [z6]
  .exact r3
  .rintro rfl
   obtain ⟨o',k⟩:=p2.there o
   rw [k] at hh; cases hh
def uG (i) (w:X.N.Nodup) (u:X.calm=true) (S:CompScope X.env.scope scope own frees) (z:caps.map (λj=>X.N[j]?)=frees.map some) (p:jG γ) (hi:DI X tg iter fi)
  (body:∀ cl C s H fp,DG (fJ X scope cl C (own++frees) s H fp) tg γ/\DQ (fJ X scope cl C (own++frees) s H fp) ifs ft/\DE (fJ X scope cl C (own++frees) s H fp) elt f)
  (c:II (.ListComp elt [⟨tg,iter,ifs,0⟩] scope pos) (some (.Name y py)) b.line X.env=pure true:=by rfl) (e:X.N[i]? = some y:=by rfl) (r:X.env.scope.names.lookup y=some .local:=by rfl)
  (t:∀ x,Lc iter X.env x=pure x:=by intro _; rfl):DS X (.Assign [.Name y py] (.ListComp elt [⟨tg,iter,ifs,0⟩] scope pos) b) (vX i (zk (qf own.length caps fi γ ft f))) :=
 vc (Kx u S z p hi body c i w e r t) λD' σ H ⟨H₀,aa,ρ,Hf,o,R,q,k⟩=>by
  obtain ⟨d,e1,e2⟩:=zO q
  cases e2
  unfold zk at e1
  cases g:qf own.length caps fi γ ft f ρ with
  | none=>rw [g] at e1; cases e1
  | some ds =>
   rw [g] at e1
   cases e1
   refine ⟨H₀,aa,ρ,Hf,ds,R,g,λa xs H1 m A s1 n h1 v l hh=>?_⟩
   have h:yw m (upd m a (.lst xs)):=zQ l
   exact k _ _ _ ((R.lstFrz A v l hh).set i (EJ.mpr ⟨a,xs,rfl,bG.of zI,h1.mono h⟩)) (n.trans h)
end
inductive GEnt (K:Eh):List IK->List (Int×D)->Prop
 | nil:GEnt K [] []
 | cons {k:Int} {t:Tok} {u:Value} {v:V} {d:D} {es:List IK} {aJ:List (Int×D)}:hashInt k=k->xv v u->ae K (λ_=>none) d v->GEnt K es aJ->GEnt K (⟨k,.int k t,u⟩ :: es) ((k,d) :: aJ)
def GEnt.vals {K:Eh}:∀ {es:List IK} {aJ:List (Int×D)},GEnt K es aJ->∃ vs,(∀ P w,(∀ e∈es,∃ k,(IS P w).is k e.key=true/\e.hash=(IS P w).hash k)/\Pairs (IS P w) es vs)/\vs.map (·.1)=aJ.map (·.1) ∧
  ∀ k d,aJ.lookup k=some d->∃ u v,Lp vs k=some u/\xv v u/\ae K (λ_=>none) d v
 | _,_,.nil=>⟨[],λP w=>⟨λe he=>(by cases he),Pairs.nil⟩,rfl,λk d e=>(by simp at e)⟩
 | _,_,@GEnt.cons _ k t u v d es aJ o r h g=>by
  obtain ⟨vs,f,p2,n⟩:=g.vals
  have hi:IA k (.int k t)=true:=by simp [IA]
  refine ⟨(k,u) :: vs,λP w=>⟨λe he=>?_,Pairs.cons hi rfl (f P w).2⟩,(by simp [p2]),λa d' e=>?_⟩
  .rcases aS.mp he with rfl | he
   .exact ⟨k,hi,o.symm⟩
   .exact (f P w).1 e he
  .rw [iA] at e
   by_cases b:a=k
   .subst b
    simp at e
    subst e
    exact ⟨u,v,by simp [Lp],r,h⟩
   .have:(a==k)=false:=by simpa using b
    rw [this] at e
    obtain ⟨j,i,c,m,l⟩:=n a d' e
    refine ⟨j,i,?_,m,l⟩
    unfold Lp at c ⊢
    rw [List.find?_cons]
    have:decide (k=a)=false:=by simpa using λz:k=a=>b z.symm
    simp only [this]
    exact c
def Fv {K:Eh} (h1:mg x=some (.ref a)) (h2:K.lookup a=some ⟨.type "dict",none,.dict es.toArray ep,#[]⟩) (g:GEnt K es aJ) (nd:(aJ.map (·.1)).Nodup):GDict K mg x aJ:=by
 obtain ⟨vs,b,p2,c⟩:=g.vals
 exact ⟨a,_,es.toArray,ep,vs,h1,h2,⟨rfl,rfl,rfl⟩,rfl,λP w=>⟨λe he=>(b P w).1 e (by simpa using he),(b P w).2⟩,by rw [p2]; exact nd,c⟩
def x8 {K:Eh} (h2:K.lookup a=some ⟨.type "tuple",od,.seq ah n,gy⟩) (hz:ah.size<=sizeLine) (b:yR xs ah.toList) (c:zR K (λ_=>none) ds xs):ae K (λ_=>none) (.tup ds) (.ref a) :=
 Es.mpr ⟨a,xs,rfl,.inr ⟨_,ah,n,h2,rfl,rfl,hz,b⟩,c⟩
section
variable {ρ:aX} {i j k:Nat} {f g h:FE} {fa ga:FA} {ft gt ht:FT} {F G B:FS} {γ:FG} {δ:oj} {d x y:D} {ds:List D}
@[simp] theorem zX:vF i ρ=(match ρ[i]? with | some (.fr d)=>some d | _=>none):=rfl
@[simp] theorem KL:vR i ρ=(match ρ[i]? with | some (.fr d)=>some d | some (.ol ds)=>some (.lst ds) | _=>none):=rfl
@[simp] theorem y6:cF d ρ=some d:=rfl
@[simp] theorem Ya  : UL φ f ρ=(f ρ).bind φ:=rfl
@[simp] theorem zm  : ze φ f g ρ=(f ρ).bind λx=>(g ρ).bind λy=>φ x y:=rfl
@[simp] theorem zo:zq ρ=some []:=rfl
@[simp] theorem zf:zb f ga ρ=(f ρ).bind λx=>(ga ρ).bind λxs=>some (x :: xs):=rfl
@[simp] theorem wt:tupF ga ρ=(ga ρ).bind λxs=>if xs.length<=sizeLine then some (.tup xs) else none:=rfl
@[simp] theorem xp:ym ga ρ=(ga ρ).bind λxs=>if xs.length<=sizeLine then some xs else none:=rfl
@[simp] theorem zx:zk fa ρ=(fa ρ).map D.lst:=rfl
@[simp] theorem yU:aU f ρ=(f ρ).bind fun | .bl b=>some b | _=>none:=rfl
@[simp] theorem Zl:UY ft gt ρ=(ft ρ).bind λb=>if b=true then gt ρ else some false:=rfl
@[simp] theorem KM:orT ft gt ρ=(ft ρ).bind λb=>if b=true then some true else gt ρ:=rfl
@[simp] theorem Jj:RF ft ρ=(ft ρ).bind λb=>some (!b):=rfl
@[simp] theorem Se:dk ρ=some true:=rfl
@[simp] theorem Mc:zd9 f g ρ=(f ρ).bind fun | .bl b=>(if b=true then g ρ else some (.bl false)) | _=>none:=rfl
@[simp] theorem Sj:orV f g ρ=(f ρ).bind fun | .bl b=>(if b=true then some (.bl true) else g ρ) | _=>none:=rfl
@[simp] theorem zep:ifF ft f g ρ=(ft ρ).bind λb=>if b=true then f ρ else g ρ:=rfl
@[simp] theorem zw  : zW φ fa ρ=(fa ρ).bind φ:=rfl
@[simp] theorem zr:wG F G ρ=(F ρ).bind λo=>match o with | .nx aO=>G aO | o=>some o:=rfl
@[simp] theorem wu:cS ρ=some (.nx ρ):=rfl
@[simp] theorem z8:j6 f ρ=(f ρ).bind λd=>some (.rt d):=rfl
@[simp] theorem yM:cg ft F G ρ=(ft ρ).bind λb=>if b=true then F ρ else G ρ:=rfl
@[simp] theorem z9:vX i f ρ=(f ρ).bind λd=>some (.nx (ρ.set i (.fr d))):=rfl
@[simp] theorem wJ:UW i fa ρ=(fa ρ).bind λds=>some (.nx (ρ.set i (.ol ds))):=rfl
@[simp] theorem Mb:zbi γ f ρ=(f ρ).bind λd=>(γ d ρ).bind λaO=>some (.nx aO):=rfl
@[simp] theorem Xq:PV i F ρ=(frz i ρ).bind F:=rfl
@[simp] theorem G7:frz i ρ=(match ρ[i]? with | some (.ol ds)=>some (ρ.set i (.fr (.lst ds))) | some (.fr _)=>some ρ | _=>none):=rfl
@[simp] theorem yL:zL i d ρ=some (ρ.set i (.fr d)):=rfl
@[simp] theorem jk:kG [] ρ=some ρ:=rfl
@[simp] theorem uk  : yp γ δ (d :: r) ρ=(γ d ρ).bind λaO=>δ r aO:=rfl
@[simp] theorem ji:jM k δ (.tup ds) ρ=if ds.length=k then δ ds ρ else none:=rfl
@[simp] theorem wx:xE i f ρ=(f ρ).bind λd=>match ρ[i]? with | some (.ol ds)=>if ds.length < sizeLine then some (.nx (ρ.set i (.ol (ds++[d])))) else none | _=>none:=rfl
@[simp] theorem xG:QG fa γ B ρ=(fa ρ).bind λds=>yo γ B ds ρ:=rfl
@[simp] theorem Wn:V8 f ρ=(yx f ρ).bind λds=>some (uE ds):=rfl
@[simp] theorem Jk:Bd f g ρ=(yx f ρ).bind λxs=>(yx g ρ).bind λys=>some (UZ xs ys):=rfl
@[simp] theorem C7:MA f ρ=(f ρ).bind fun | .tup ds=>some ds.reverse | _=>none:=rfl
@[simp] theorem zE:yx f ρ=(f ρ).bind KF:=rfl
@[simp] theorem yY:KF (.lst ds)=some ds:=rfl
@[simp] theorem Sf:KF (.tup ds)=some ds:=rfl
@[simp] theorem zb0:oF ρ=some none:=rfl
@[simp] theorem C8:l6 f ρ=(f ρ).bind fun | .int i=>some (some i) | _=>none:=rfl
@[simp] theorem ZD  : jT f l u ρ=(f ρ).bind λx=>(l ρ).bind λlo=>(u ρ).bind λhi=>match x with | .tup ds=>some (.tup (Y4 ds lo hi)) | .lst ds=>some (.lst (Y4 ds lo hi)) | _=>none:=rfl
@[simp] theorem Nl:Tg fa ρ=(fa ρ).bind λl=>match l with | [.lst ds]=>some ds | [.tup ds]=>some ds | _=>none:=rfl
@[simp] theorem xh    : qf n caps fi γ ft f ρ=(fi ρ).bind λds=>if ds.length<=sizeLine then y8 γ ft f ds (uS n caps ρ) else none:=rfl
@[simp] theorem xJ   : uS n caps ρ=aP n .no++caps.map (sF ρ):=rfl
@[simp] theorem ud:sF ρ j=(match ρ[j]? with | some (.fr d)=>.fr d | _=>.no):=rfl
@[simp] theorem jj:za6 fa ρ=(fa ρ).bind uY:=rfl
@[simp] theorem Sg:zb7 fa ρ=(fa ρ).bind VG:=rfl
def vO {j:Int} (h1 : -1000000<=j) (h2:j<=1000000):uY [.int j]=some (yy 0 j):=by
 show @ite _ (-(2 ^ 62)<=j/\j < 2 ^ 62) (IU _) (some (yy 0 j)) none=_
 rw [if_pos (by omega)]
def Hc {i j:Int} (h1 : -1000000<=i) (h2:i<=1000000) (b : -1000000<=j) (a:j<=1000000):VG [.int i,.int j]=some (yy i j):=by
 show @ite _ (-(2 ^ 62)<=i/\i < 2 ^ 62 /\ -(2 ^ 62)<=j/\j < 2 ^ 62) (IU _) (some (yy i j)) none=_
 rw [if_pos (by omega)]
@[simp] theorem yi:wL k F ds=Wx (F (jR k ds)):=rfl
@[simp] theorem yu:Wx (some (.rt d))=some d:=rfl
@[simp] theorem zdn:Wx (some (.nx ρ))=some .non:=rfl
@[simp] theorem zC:jR k ds=ds.map Slot.fr++aP (k - ds.length) Slot.no:=rfl
variable {a b:Int}
@[simp] theorem U7:vp (.int a) (.int b)=some (.int (a - b)):=rfl
@[simp] theorem j5:xn (.int a) (.int b)=some (.int (a+b)):=rfl
@[simp] theorem zdp:Ab (.int a) (.int b)=some (.bl (decide (a < b))):=rfl
@[simp] theorem Gm:eU (.int a) (.int b)=some (.bl (decide (b < a))):=rfl
@[simp] theorem zb4:o_ (.int a) (.int b)=some (.bl (decide (b<=a))):=rfl
@[simp] theorem Nj:za9 (.int a)=some (.int (-a)):=rfl
@[simp] theorem Z7:b9 (.int a) (.int b)=some (.bl (decide (a=b))):=P5
@[simp] theorem zb1:fY (.int a) (.int b)=some (.bl (!decide (a=b))):=Pc
@[simp] theorem zeo:iM c .non .non=some (.bl (!c)):=rfl
@[simp] theorem zb2:Te [.int a,.int b]=some (.int (if b < a then b else a)):=rfl
@[simp] theorem Sk:Pi [.int a,.int b]=some (.int (if b > a then b else a)):=rfl
@[simp] theorem j4:uo [.lst ds]=some (.int ds.length):=rfl
@[simp] theorem zdq:uo [.tup ds]=some (.int ds.length):=rfl
@[simp] theorem GY:vJ [.lst ds]=some (.tup ds):=rfl
@[simp] theorem zen:vJ [.tup ds]=some (.tup ds):=rfl
@[simp] theorem Sm  : zd6 T d=some (.bl (GK (oD d) T)):=rfl
end
def ku (h:fi ρ=some ds) (hz:ds.length<=sizeLine):qf n caps fi γ ft f ρ=y8 γ ft f ds (uS n caps ρ):=by
 rw [xh,h,af,if_pos hz]
theorem FW   {φ:Nat->D}:∀ ds n s,(∀ k d,ds[k]? = some d->f (.fr d :: C)=some (φ (n+k)))->y8 (zL 0) dk f ds (s :: C)=some ((aK ds.length).map λk=>φ (n+k))
 | [],_,_,_=>rfl
 | d :: ds,n,s,h=>by
  have b:=h 0 d rfl
  have a:=FW (f:=f) (C:=C) (φ:=φ) ds (n+1) (.fr d) (λk d' e=>by rw [h (k+1) d' (by simpa using e)]; congr 2; omega)
  unfold y8
  simp only [yL,aM,af,Se,if_true,b,a,Nat.add_zero]
  rw [aB,n6,aC,bz]
  congr 3
  funext k
  simp only [Iq]
  congr 1
  omega
theorem Rp   {φ:Nat->D}:∀ ds n s s',(∀ k d,ds[k]? = some d->∃ x y,d=.tup [x,y]/\f (.fr x :: .fr y :: C)=some (φ (n+k))) →
  y8 (jM 2 (yp (zL 0) (yp (zL 1) kG))) dk f ds (s :: s' :: C)=some ((aK ds.length).map λk=>φ (n+k))
 | [],_,_,_,_=>rfl
 | d :: ds,n,s,s',h=>by
  obtain ⟨x,y,rfl,g⟩:=h 0 d rfl
  have c:=Rp (f:=f) (C:=C) (φ:=φ) ds (n+1) (.fr x) (.fr y) (λk d' e=>by
   obtain ⟨b,a,e1,e2⟩:=h (k+1) d' (by simpa using e)
   exact ⟨b,a,e1,by rw [e2]; congr 2; omega⟩)
  unfold y8
  simp only [ji,uk,yL,jk,aB,aI,if_true,aM,aN,af,Se,g,c,Nat.add_zero]
  rw [n6,aC,bz]
  congr 3
  funext k
  simp only [Iq]
  congr 1
  omega
section
variable {X:Cx}
theorem zR.rep {K:Eh} (h:zR K H ds xs):∀ k,zR K H (aP k ds).flatten (aP k xs).flatten
 | 0=>.nil
 | k+1=>by
  rw [nE,nE,n0,n0]
  exact h.append (zR.rep h k)
end
theorem UG:∀ {bs:List Bool} {us:List Value},yR (bs.map V.bl) us->LSm.BoolsAre us bs
 | [],_,r=>by cases r; exact .nil
 | b :: bs,_,r=>by
  rw [aC] at r
  cases r with
  | cons c a=>cases c; exact .cons b (UG a)
theorem WK:∀ {ns:List Int} {us:List Value},yR (ns.map V.int) us->IntsAre us ns
 | [],_,r=>by cases r; exact .nil
 | n :: ns,_,r=>by
  rw [aC] at r
  cases r with
  | cons b a=>obtain ⟨t,rfl⟩:=b; exact .cons n t (WK a)
variable {X:Cx}
def Kl (m:X.calm=true):wI X (.builtin "all") (λxs H Q=>∃ (p:Addr) (bs:List Bool),xs=[.ref p]/\bG X.K H p (bs.map V.bl)/\Q (.bl (bs.all id)) H):=by
 intro pins s σ H xs us Q I r h
 obtain ⟨p,bs,rfl,k,q⟩:=h
 obtain ⟨u,rfl,f⟩:=kH r
 cases f
 obtain ⟨ah,g,j,hz⟩:=I.list k
 have c:=UG g
 have a:=j.isList
 have o:p < s.heap.objs.size:=by obtain ⟨_,e,_⟩:=a; exact El e
 refine call_all_walk (wpAny_pyIter_list a ?_)
 refine ⟨s.heap.objs.size,[s.heap.objs.size,p],[s.heap.objs.size],ah.toArray.size,_,_,λi=>(bs[i]?).getD true,rfl,PySem.Walks.list (A:=X.A.in1) (I.ok.hd m) _ p (cZ o) ah.toArray,
  ⟨⟨_,Ej _ rfl,rfl,rfl⟩,a.push _⟩,λi v s' t w n d=>?_,λh' tk l=>?_⟩
 .obtain ⟨b,e,rfl⟩:=c.get i v (by simpa using n)
  simp only [e,AX] at d
  exact EX d
 .have e:((aK ah.toArray.size).all λi=>(bs[i]?).getD true)=bs.all id:=by
   rw [cx,c.length]; exact LSm.range_all bs
  rw [e]
  exact ⟨.bl (bs.all id),H,I.kept (LSm.kept_iter l),rfl,q⟩
def FZ (i:X.calm=true):wI X (.builtin "sum") (λxs H Q=>∃ (p:Addr) (ns:List Int),xs=[.ref p]/\bG X.K H p (ns.map V.int)/\Q (.int ns.sum) H):=by
 intro pins s σ H xs us Q I r h
 obtain ⟨p,ns,rfl,e,q⟩:=h
 obtain ⟨u,rfl,b⟩:=kH r
 cases b
 obtain ⟨ah,c,d,hz⟩:=I.list e
 have hi:=WK c
 have f:=d.isList
 obtain ⟨xs,a⟩:=hi.allInts.items
 have j:s.heap.IsList p (intItems xs):=a ▸ f
 refine sum_intListG (I.ok.hd i) j λh' tk t' g=>?_
 have e1:ns=xs.toList.map (·.1):=by
  rw [<- nums_intItems,<- a]
  exact (show numsOf ah.toArray.toList=ns from hi.numsOf).symm
 have e2:preSum (numAt xs) xs.size=ns.sum:=by
  rw [preSum_eq,so (by simp),e1]
 rw [e2]
 exact ⟨.int ns.sum,H,I.kept g,⟨t',rfl⟩,q⟩
def vW:List D->Option (List Bool)
 | []=>some []
 | .bl b :: ds=>(vW ds).map (b :: ·)
 | _ :: _=>none
def vx:List D->Option (List Int)
 | []=>some []
 | .int b :: ds=>(vx ds).map (b :: ·)
 | _ :: _=>none
theorem zR.bools {K:Eh}:∀ {ds:List D} {xs:List V} {bs:List Bool},zR K H ds xs->vW ds=some bs->xs=bs.map V.bl
 | [],[],bs,h,e=>by cases e; rfl
 | [],_ :: _,bs,h,e=>by have:=h.length; cases this
 | _ :: _,[],bs,h,e=>by have:=h.length; cases this
 | .bl b :: ds,x :: xs,bs,h,e=>by
  unfold vW at e
  cases a:vW ds with
  | none=>rw [a] at e; cases e
  | some cs =>
   rw [a] at e
   cases e
   obtain ⟨_,_,c,h1,h2⟩:=Eo.mp h
   cases c
   rw [Ew.mp h1,zR.bools h2 a]
   rfl
 | .non :: _,_ :: _,_,_,e=>by cases e
 | .int _ :: _,_ :: _,_,_,e=>by cases e
 | .str _ :: _,_ :: _,_,_,e=>by cases e
 | .tup _ :: _,_ :: _,_,_,e=>by cases e
 | .lst _ :: _,_ :: _,_,_,e=>by cases e
theorem zR.intsV {K:Eh}:∀ {ds:List D} {xs:List V} {bs:List Int},zR K H ds xs->vx ds=some bs->xs=bs.map V.int
 | [],[],bs,h,e=>by cases e; rfl
 | [],_ :: _,bs,h,e=>by have:=h.length; cases this
 | _ :: _,[],bs,h,e=>by have:=h.length; cases this
 | .int b :: ds,x :: xs,bs,h,e=>by
  unfold vx at e
  cases a:vx ds with
  | none=>rw [a] at e; cases e
  | some cs =>
   rw [a] at e
   cases e
   obtain ⟨_,_,c,h1,h2⟩:=Eo.mp h
   cases c
   rw [AC.mp h1,zR.intsV h2 a]
   rfl
 | .non :: _,_ :: _,_,_,e=>by cases e
 | .bl _ :: _,_ :: _,_,_,e=>by cases e
 | .str _ :: _,_ :: _,_,_,e=>by cases e
 | .tup _ :: _,_ :: _,_,_,e=>by cases e
 | .lst _ :: _,_ :: _,_,_,e=>by cases e
def zdf:List D->Option D
 | [.lst ds]=>(vW ds).map λbs=>.bl (bs.all id)
 | _=>none
def za3:List D->Option D
 | [.lst ds]=>(vx ds).map λbs=>.int bs.sum
 | _=>none
def Bz:mx X (λxs H Q=>∃ (p:Addr) (bs:List Bool),xs=[.ref p]/\bG X.K H p (bs.map V.bl)/\Q (.bl (bs.all id)) H) zdf:=by
 intro σ ρ H₀ aa H Hf xs ds d Q R c b k
 unfold zdf at b
 split at b
 .obtain ⟨bs,e1,rfl⟩:=iB.mp b
  obtain ⟨v,rfl,e⟩:=c.one
  obtain ⟨a,ys,rfl,q,l⟩:=e.lst R
  have:=l.bools e1
  subst this
  exact ⟨a,bs,rfl,q,k _ _ _ R zH zH (Ew.mpr rfl)⟩
 .cases b
def PY:mx X (λxs H Q=>∃ (p:Addr) (ns:List Int),xs=[.ref p]/\bG X.K H p (ns.map V.int)/\Q (.int ns.sum) H) za3:=by
 intro σ ρ H₀ aa H Hf xs ds d Q R c b k
 unfold za3 at b
 split at b
 .obtain ⟨bs,e1,rfl⟩:=iB.mp b
  obtain ⟨v,rfl,e⟩:=c.one
  obtain ⟨a,ys,rfl,q,l⟩:=e.lst R
  have:=l.intsV e1
  subst this
  exact ⟨a,bs,rfl,q,k _ _ _ R zH zH (AC.mpr rfl)⟩
 .cases b
theorem YO:∀ bs,vW (bs.map D.bl)=some bs
 | []=>rfl
 | b :: bs=>by rw [aC,vW,YO bs]; rfl
theorem uC:∀ bs,vx (bs.map D.int)=some bs
 | []=>rfl
 | b :: bs=>by rw [aC,vx,uC bs]; rfl
@[simp] theorem zb5 (bs:List Bool):zdf [.lst (bs.map D.bl)]=some (.bl (bs.all id)):=by show (vW (bs.map D.bl)).map _=_; rw [YO]; rfl
@[simp] theorem zby (bs:List Int):za3 [.lst (bs.map D.int)]=some (.int bs.sum):=by show (vx (bs.map D.int)).map _=_; rw [uC]; rfl
def Hv:typeLookup (.type "reversed") "__len__"=pure none:=by rw [IX,Ig]; kernel_rfl
def uH:PySem.Slot "reversed" "__length_hint__" "reversed.__length_hint__" :=
 .of (owner:="reversed") (n:="__length_hint__") (by rw [IX,Ig]; kernel_rfl) (by decide +kernel) (by decide +kernel) (by decide +kernel)
  (by first | exact .inl (by decide +kernel) | exact .inr (by decide +kernel)) (by rw [Iv]; kernel_rfl)
def Xe:entryFor table "reversed.__length_hint__"=some Builtin.«reversed.__length_hint__» := entryFor_of_tree (by kernel_rfl)
def Vd (a:Value):argsOk "reversed.__length_hint__" ⟨[a],[]⟩:=by
 unfold argsOk; rw [signature?_of (id:="reversed.__length_hint__") (n:="__length_hint__".toList.reverse) (o:=['d','e','s','r','e','v','e','r']) (by kernel_rfl) Yg]; kernel_rfl
section
variable {prog:Ex} {w:ER} {A:Around} {E:Value->Shared->Prop} {s:Shared}
def Hb (hh:A.handled=none) (r t:Addr) (x:t≠r) (items:Array Value) (hz:items.size<=sizeLine):WalksS prog w A r [r,t] [r] (λa b=>a=b) items.size (λi v=>items.toList.reverse[i]? = some v) (λi s=>jH s.heap r t ((items.size:Int) - 1 - i)/\IsTup s.heap t items) where
 sub:=λb c=>by simp at c; simp [c]
 grefl:=λ_=>rfl
 gtrans:=λ_ _ _ h h'=>h.trans h'
 frame:=λi s h' tk st _ g=>⟨g r (by simp) _ st.1,by
  obtain ⟨o,d,j,n,hd⟩:=st.2
  exact ⟨o,g t (by simp) o d,j,n,hd⟩⟩
 item:=λi s Q E hi st k=>by
  obtain ⟨st,ht⟩:=st
  have f:s.TypeIs (.ref r) "reversed":=⟨_,st,rfl⟩
  have g:((items.size:Int) - 1 - i)=((items.size - 1 - i:Nat):Int):=by omega
  rw [g] at st
  have m:items[items.size - 1 - i]? = some items[items.size - 1 - i]:=by simp
  unfold pyNext
  refine be (Ic (Ey (name:=Ez "__next__") f yD (Eu yD f w8
   (kb st ht m hz λh' u l=>mo ?_) (vC _))))
  refine k _ _ ?_ ⟨?_,?_⟩ ⟨λb o c e=>l.2 b (by simpa using c) ▸ e,rfl,rfl,rfl,mj _⟩
  .rw [List.getElem?_reverse (by simpa using hi)]
   simp
  .have e:((items.size:Int) - 1 - ((i+1:Nat):Int))=((items.size - 1 - i:Nat):Int) - 1:=by omega
   show jH h' r t ((items.size:Int) - 1 - ((i+1:Nat):Int))
   rw [e]
   exact u
  .obtain ⟨o,d,j,n,hd⟩:=ht
   exact ⟨o,(l.2 t x).trans d,j,n,hd⟩
 done:=λs Q E st k=>by
  obtain ⟨st,ht⟩:=st
  have f:s.TypeIs (.ref r) "reversed":=⟨_,st,rfl⟩
  unfold pyNext
  refine be (Ic (Ey (name:=Ez "__next__") f yD (Eu yD f w8
   (Zp (show A.in1.handled=none from hh) st (by omega) λh' e q ⟨o,d,p⟩=>?_) (vC _))))
  refine be (EZ (T:="StopIteration") (b:=true) ⟨o,d,p⟩ Ly ?_)
  exact mo (k _ ⟨λb o c e=>q b o (by simpa using c) e,rfl,rfl,rfl,aT _⟩)
 self:=λi s Q E st h=>kQ st.1 h
def Fk (b:jH s.heap r t ((items.size:Int) - 1)) (ht:IsTup s.heap t items) (hz:items.size<=sizeLine)
  (h:∀ u tk,s.toks<=tk->Q (.int (items.size:Int) u) { s with toks:=tk }):Ek (EA prog w) A (call (.builtin "reversed.__length_hint__") [.ref r]) Q E s:=by
 have d:=qw
 have c:s.TypeIs (.ref r) "reversed":=⟨_,b,rfl⟩
 refine Eu uH c Xe ?_ (Vd _)
 show Ek _ _ (field (.ref r) 0 >>= _) _ _ _
 refine be (EC b rfl (x:=.ref t) rfl ?_)
 show Ek _ _ (if ((Ij t==E_)=true) then _ else _) _ _ _
 rw [if_neg (show ¬ ((Ij t==E_)=true) from iR)]
 refine be (len_tuple ht (by omega) ?_)
 refine be (IQ (a:=some (items.size:Int)) rfl ?_)
 try dsimp only
 refine be (EC (s:={ s with toks:=s.toks+1+1 }) b rfl (x:=IF ((items.size:Int) - 1)) rfl ?_)
 show Ek _ _ (if ((items.size:Int) < (items.size:Int) - 1+1) then _ else _) _ _ _
 rw [if_neg (by omega)]
 have e:(items.size:Int) - 1+1=(items.size:Int):=by omega
 rw [e]
 exact be (wpAny_mkInt (mo ⟨_,rfl,h _ _ (by show s.toks<=s.toks+1+1+1; omega)⟩))
def QQ (hh:A.handled=none) {r t:Addr} (bO:t≠r) {items:Array Value} {Q:List Value->Shared->Prop} (hr:jH s.heap r t ((items.size:Int) - 1)) (ht:IsTup s.heap t items) (hz:items.size<=sizeLine)
  (hQ:∀ s',Moved [r] (λa b=>a=b) s s'->Q items.toList.reverse s'):Ek (EA prog w) A (collect (.ref r)) Q E s:=by
 have W:=Hb (prog:=prog) (w:=w) (A:=A.in1) hh r t bO items hz
 have bq:(λi (s:Shared)=>jH s.heap r t ((items.size:Int) - 1 - i)/\IsTup s.heap t items) 0 s:=⟨by simpa using hr,ht⟩
 have hT:∀ (s:Shared),jH s.heap r t ((items.size:Int) - 1 - ((0:Nat):Int))/\IsTup s.heap t items->s.TypeIs (.ref r) "reversed":=λs st=>⟨_,st.1,rfl⟩
 have e8:∀ b∈[r,t],b < s.heap.objs.size:=λb hb=>by
  simp only [aS,List.not_mem_nil,or_false] at hb
  rcases hb with rfl | rfl
  .exact El hr
  .obtain ⟨o,ho,_⟩:=ht; exact El ho
 have hSf:s.heap.objs.size∉[r,t]:=λhm=>mm _ (e8 _ hm)
 have hSI:s.heap.objs.size≠r:=λe=>hSf (by simp [e])
 unfold collect
 refine be (wpAny_runValue (codeAny_builtin F.entry_proto_collect ?_))
 rw [Lk F.plain_proto_collect _]
 show Ek _ A.in1 (newList [] >>= λl=>again (.builtin "list.__iadd__" ⟨[l,.ref r],[]⟩)) _ _ s
 refine be (ES ?_)
 refine mo ⟨LM F.plain_list_iadd _,codeAny_builtin F.entry_list_iadd ?_⟩
 rw [Lk F.plain_list_iadd _]
 have cE:=W.frame 0 s (s.heap.push { cls:=.type "list",data:=.seq ([]:List Value).toArray }) s.toks bq (aT _) λb _ o e=>ls _ e
 have h1:Builtin.List.listSameRef (.ref s.heap.objs.size) (.ref r)=false:=by simp [Builtin.List.listSameRef,hSI]
 show Ek _ A.in1 (Builtin.List.listExtendWith (.ref s.heap.objs.size) (.ref r) (.ref s.heap.objs.size)) _ _ _
 unfold Builtin.List.listExtendWith
 refine be (wpAny_typeOf (hT _ cE) ?_)
 rw [if_neg (by rw [h1]; decide)]
 refine be (W.self 0 _ _ _ cE ?_)
 refine be (E8 ?_)
 unfold Builtin.List.listLengthHint
 refine be (Ia (hT _ cE) Hv ?_)
 show Ek _ A.in1 (specialOf (Ij r) (Ez "__length_hint__") >>= _) _ _ _
 refine be (Ia (hT _ cE) uH.lookup ?_)
 (generalize hid:("reversed.__length_hint__":String)=id0; (fail_if_success (clear hid id0)); wp_delta; rw [show splitId id0=some ("reversed","__length_hint__") from by subst hid; decide +kernel]; subst hid)
 refine be (EZ (b:=true) (hT _ cE) (by rw [Iv]; kernel_rfl) ?_)
 show Ek _ A.in1 (rule "list.length-hint.hint" >>= _) _ _ _
 refine be (Io ?_)
 refine be (IQ (uH.bind _) ?_)
 try dsimp only
 refine be (Ic (Fk (items:=items) (by simpa using cE.1) cE.2 hz λu tk htk=>?_))
 have hn:=qw
 have f1:Lr (items.size:Int)=true:=by
  unfold Lr
  rw [dR,decide_eq_true_eq,decide_eq_true_eq]
  omega
 have f2:EY ((items.size:Int)).toNat=false:=by
  unfold EY
  rw [decide_eq_false_iff_not,Il]
  omega
 have f3:¬ ((items.size:Int) < 0):=by omega
 have f4:((items.size:Int) != 0)=decide (items.size≠0):=by
  by_cases c:items.size=0
  .rw [c]; rfl
  .have:(items.size:Int)≠0:=by omega
   simp [c,this]
 generalize (items.size:Int)=kk at f1 f2 f3 f4
 refine be (m:=asInt? (.int kk u)) (mo ?_)
 dsimp only
 rw [if_neg (by rw [f1]; decide),if_neg f3,if_neg (by rw [f2]; decide)]
 refine mo ?_
 rw [f4]
 have lF:=W.frame 0 _ _ tk cE htk λb _ o e=>e
 have lV:(s.heap.push { cls:=.type "list",data:=.seq ([]:List Value).toArray }).get? s.heap.objs.size=some { cls:=.type "list",data:=.seq ([]:List Value).toArray }:=Ej _ rfl
 have fin:∀ acc:Array Value,ItemsOf (λi v=>items.toList.reverse[i]? = some v) acc items.size->acc.toList=items.toList.reverse:=λacc ha=>by
  apply ph
  intro i
  by_cases hi:i < items.size
  .have cO:i < acc.size:=by have:=ha.1; omega
   have e1:acc[i]? = some acc[i]:=by simp [cO]
   rw [Array.getElem?_toList,e1]
   exact (ha.2 i _ e1).symm
  .have l1:acc.toList.length<=i:=by have:=ha.1; simp; omega
   have l2:items.toList.reverse.length<=i:=by simp; omega
   rw [gQ l1,gQ l2]
 by_cases c:items.size=0
 .have e0:decide (items.size≠0)=false:=by simp [c]
  rw [e0]
  rw [if_neg (by decide)]
  refine mo ⟨LM F.plain_extend_loop _,codeAny_extend_loopS W hz _ hSf _ items.size 0 _ _ _ rfl (dJ _) lF lV (ItemsOf.nil _) λs' dO c' hm hS' lS=>?_⟩
  show Ek _ A (load s.heap.objs.size >>= _) _ _ s'
  refine be (wpAny_load hS' ?_)
  show Ek _ A (pure dO.toList) _ _ s'
  rw [fin dO lS]
  exact mo (hQ s' (Moved.drop_new (o:={ cls:=.type "list",data:=.seq ([]:List Value).toArray }) (tk:=tk) hm htk))
 .have e0:decide (items.size≠0)=true:=by simp [c]
  rw [e0]
  show Ek _ A.in1 (rule "list.extend.makes-room" >>= λ_=>Builtin.List.listTouch (.ref s.heap.objs.size) >>= λ_ =>
   again (.builtin "list.extend.loop" ⟨[.ref s.heap.objs.size,.ref r,.ref s.heap.objs.size],[]⟩)) _ _ _
  refine be (Io ?_)
  refine be ?_
  show Ek _ A.in1 (updateSeq s.heap.objs.size (·.push .none) >>= λ_=>updateSeq s.heap.objs.size (·.pop)) _ _ _
  refine be (wpAny_updateSeq lV rfl ?_)
  have nX:=Lf (EV (·.push E_)) lV rfl
  refine wpAny_updateSeq nX rfl ?_
  have AO:=Lf (EV (·.pop)) nX rfl
  have oth:∀ b o,b≠s.heap.objs.size->(s.heap.push { cls:=.type "list",data:=.seq ([]:List Value).toArray }).get? b=some o →
    (((s.heap.push { cls:=.type "list",data:=.seq ([]:List Value).toArray }).update s.heap.objs.size (EV (·.push E_))).update s.heap.objs.size (EV (·.pop))).get? b=some o :=
   λb o hb e=>(K_ _ _ (E7 hb)).trans ((K_ _ _ (E7 hb)).trans e)
  refine mo ⟨LM F.plain_extend_loop _,codeAny_extend_loopS W hz _ hSf _ items.size 0 _ _ _ rfl (dJ _)
   (W.frame 0 ({ s with heap:=s.heap.push { cls:=.type "list",data:=.seq ([]:List Value).toArray },toks:=tk }:Shared) _ tk lF (aT _) λb hb o e=>oth b o (λh=>hSf (h ▸ hb)) e) AO (ItemsOf.nil _) λs' dO c' hm hS' lS=>?_⟩
  show Ek _ A (load s.heap.objs.size >>= _) _ _ s'
  refine be (wpAny_load hS' ?_)
  show Ek _ A (pure dO.toList) _ _ s'
  rw [fin dO lS]
  refine mo (hQ s' (Moved.drop_new (o:={ cls:=.type "list",data:=.seq ([]:List Value).toArray }) (tk:=tk) (Moved.trans W.gtrans ((Moved.refl W.grefl).then_heap (aT _) λb o hb e=>?_) hm) htk))
  exact oth b o (λh=>hb (by rw [h]; exact aV)) e
def kv (hh:A.handled=none) (i:t≠r) (d:jH s.heap r t ((items.size:Int) - 1)) (ht:IsTup s.heap t items) (hz:items.size<=sizeLine)
  (h:∀ s',Moved [r] (λa b=>a=b) s s'->Q₁ (.ref s'.heap.objs.size) { s' with heap:=s'.heap.push { cls:=.type "tuple",data:=.seq items.toList.reverse.toArray } }):
  codeAny (EA prog w) A (.call (.builtin "tuple.__new__") ⟨[.type "tuple",.ref r],[]⟩) (wants Q₁ E) s:=by
 refine codeAny_of_tree ?_
 show Ek _ A.in1 (do checkBuiltinCall "tuple.__new__" ⟨[.type "tuple",.ref r],[]⟩; again (.builtin "tuple.__new__" ⟨[.type "tuple",.ref r],[]⟩)) _ _ s
 refine be (IQ (F.newCall_tuple_1 _) (mo ⟨LM F.plain_tuple_new _,codeAny_builtin F.entry_tuple_new ?_⟩))
 rw [Lk F.plain_tuple_new _]
 have j:=sub_tuple_self
 have c:=init_tuple_lookup
 have f:=madeHere_tuple
 have e:s.TypeIs (.ref r) "reversed":=⟨_,d,rfl⟩
 wp_walk using wpAny_typeOf e,QQ (show A.in1.handled=none from hh) i d ht hz
 intro s' g
 show Ek _ _ (E5 items.toList.reverse.toArray >>= λv=>ret v) _ _ _
 unfold E5
 refine be (ES ?_ (by show items.toList.reverse.toArray.size<=sizeLine; simpa using hz))
 refine mo ?_
 exact h s' g
def Xh (hh:A.handled=none) (g:t≠r) (d:jH s.heap r t ((items.size:Int) - 1)) (ht:IsTup s.heap t items) (hz:items.size<=sizeLine)
  (f:∀ s',Moved [r] (λa b=>a=b) s s'->Q (.ref s'.heap.objs.size) { s' with heap:=s'.heap.push { cls:=.type "tuple",data:=.seq items.toList.reverse.toArray } }):
  Ek (EA prog w) A (call (.type "tuple") [.ref r]) Q E s:=by
 refine callType_codes (Q₁:=λobj c=>c.TypeIs obj "tuple"/\Q obj c) F.called_tuple (F.typeCall_tuple_1 _) F.entry_object_init
  (kv (A:=A.in1) (show A.in1.handled=none from hh) g d ht hz λs' e=>⟨⟨_,Ej _ rfl,rfl⟩,f s' e⟩) λobj c h₁=>?_
 exact ⟨h₁.1,F.args_object_init_2 obj _,object_init_meets F.called_tuple.init.lookup F.called_tuple.made (by decide) prog w A.in1 _ c ⟨h₁.1,rfl,h₁.2⟩⟩
end
def zb9 (f:FE):FE:=λρ=>(f ρ).bind fun | .tup ds=>some (.tup ds.reverse) | _=>none
@[simp] theorem Si:zb9 f ρ=(f ρ).bind fun | .tup ds=>some (.tup ds.reverse) | _=>none:=rfl
def QT:E4 "tuple"=some (.type "tuple"):=by kernel_rfl
variable {X:Cx} {e:Expr} {f:FE} {pos:Pos}
def FI (hc:X.calm=true) (x:Gl X "tuple") (u:X.mg "tuple"=none) (hg:Gl X "reversed") (w:X.mg "reversed"=none) (he:DE X e f) (J:Ei [e] X.env=[(false,eval e X.env)]:=by rfl)
  (hs2:Ei [.Call (.Name "reversed" p2) [e] [] j] X.env=[(false,eval (.Call (.Name "reversed" p2) [e] [] j) X.env)]:=by rfl):DE X (.Call (.Name "tuple" p) [.Call (.Name "reversed" p2) [e] [] j] [] pos) (zb9 f):=by
 intro pins s σ H Q I h
 obtain ⟨H₀,aa,ρ,Hf,d',R0,q,k⟩:=h
 obtain ⟨d,T,S⟩:=zO q
 refine Iz (jl I x u QT (EM ?_ hs2 rfl))
 rw [hs2]
 refine Ls (rest:=[]) ?_
 refine Iz (jl I hg w boot_reversed (EM (thn ((xi he vw J) j pins s σ H (λvs H1=>∃ v g,vs=[v]/\Rep X.K H₀ aa σ ρ H1 g/\yw H H1/\yw Hf g/\ae X.K g d v) I ⟨H₀,aa,ρ,Hf,d,R0,T,λv H1 g i s1 l h1=>⟨v,g,rfl,i,s1,l,h1⟩⟩) λus s1 ⟨vs,H1,z,P,U⟩=>?_) J rfl))
 obtain ⟨v,g,rfl,i,gx,l,h1⟩:=U
 cases P with
 | cons r O =>
  cases O
  cases d <;> try cases S
  obtain ⟨a,xs,rfl,R,Z⟩:=Es.mp h1
  cases r
  obtain ⟨ah,B,pt,hz⟩:=z.tuple (jr i.sf R)
  have L:=B.length
  have hn:=qw
  refine Kk pt (by rw [cx,<- L]; omega) ?_
  refine Calls.spliced_nil ?_
  have e7:a < s1.heap.objs.size:=by obtain ⟨o,m,_⟩:=pt; exact El m
  have I2:Inv X pins σ H1 { s1 with heap:=s1.heap.push { cls:=.type "reversed",data:=.fields #[.ref a,IF (((ah.toArray.size:Nat):Int) - 1)] },toks:=s1.toks+1+1 }:=z.kept λb o e=>ls _ e
  refine Xh (I.ok.hd hc) (r:=s1.heap.objs.size) (t:=a) (items:=ah.toArray) (cZ e7) (Ej _ rfl) (by
   obtain ⟨o,m,fy,n,hd⟩:=pt
   exact ⟨o,ls _ m,fy,n,hd⟩) (by rw [cx,<- L]; exact hz) λs' w=>?_
  obtain ⟨h',g',d',c,W⟩:=s'
  obtain ⟨G,F,E,C,Y⟩:=w
  simp only at G F E C Y
  subst F E C
  have fr:=Ue z (aT s1.heap.objs.size)
  obtain ⟨f0,f1,f2,f3,f4,f5⟩:=fr
  have M:Inv X pins σ H1 { s1 with heap:=h',toks:=c }:=I2.turned (t':=c) (λb o hb e=>G b o (by simpa using hb) e) f0 f1 f3 f4 f5
  have I4:Inv X pins σ (upd H1 h'.objs.size (.tup xs.reverse)) { s1 with heap:=h'.push { cls:=.type "tuple",data:=.seq ah.reverse.toArray },toks:=c } :=
   M.laid (t':=c) (λb o e=>ls _ e) (aT _) (show vD X.prog X.w _ _ _ (.tup xs.reverse) from ⟨by simpa using hz,ah.reverse,B.reverse,IsTup.new _ _⟩)
  have y:H1 h'.objs.size=none:=M.hok.fresh (aT _)
  have A:=zQ (o:=.tup xs.reverse) (i.sf.free y)
  exact ⟨.ref h'.objs.size,_,I4,rfl,k _ _ _ (i.lay y) (gx.trans (zQ y)) (l.trans A) (Es.mpr ⟨h'.objs.size,_,rfl,bT.of zI,Z.reverse.mono A⟩)⟩
section
variable {X:Cx} {pins:List (Addr×Obj)} {σ:St} {H:Hp} {s:Shared}
end
section
variable {X:Cx} {o e:Expr} {f g:FE} {kk:Nat}
end
section
variable {X:Cx} {tg:Expr}
end
section
variable {X:Cx} {a b c dd:Expr} {f g h i4:FE} {pos p2:Pos}
end
section
variable {X:Cx} {e:Expr} {f:FE} {pos:Pos}
def zbg (i:Nat) (op:Int->Int->Int) (f:FE):FS:=λρ=>(f ρ).bind λy=>match ρ[i]?,y with
 | some (.fr (.int m)),.int k=>some (.nx (ρ.set i (.fr (.int (op m k)))))
 | _,_=>none
set_option tactic.hygienic true in
def Rc (i) (j:X.N.Nodup) (d:PIp X op (ipI φ)) (h:DE X e f) (hi:X.N[i]? = some x:=by rfl) (c:Loc X.env.scope x:=by first | exact Im rfl | exact E2 rfl)
  (g:X.fn x=true\/X.env.scope.names.lookup x=some .local:=by first | exact .inl rfl | exact .inr rfl | assumption):DS X (.AugAssign (.Name x pos') op e pos) (zbg i φ f) :=
 vc (Mj j hi c h d g) λD' σ H ⟨H₀,aa,ρ,Hf,o,R,q,k⟩=>by
  obtain ⟨y,e1,e2⟩:=zO q
  split at e2
  .cases e2
   rename_i m kk l
   obtain ⟨v,b,p2⟩:=R.fr i _ l
   have pv:=AC.mp p2
   subst pv
   refine ⟨.int m,b,H₀,aa,ρ,Hf,.int kk,R,e1,λv H1 p n s1 a h1=>?_⟩
   exact ⟨m,kk,rfl,AC.mp h1,k _ _ _ (n.set i (AC.mpr rfl)) a⟩
  .cases e2
@[simp] theorem zdt {i:Nat} {op:Int->Int->Int} {ρ:aX}:zbg i op f ρ=(f ρ).bind λy=>match ρ[i]?,y with
 | some (.fr (.int m)),.int k=>some (.nx (ρ.set i (.fr (.int (op m k)))))
 | _,_=>none:=rfl
end
section
variable {X:Cx} {e:Expr} {f:FE}
end
section
variable {prog:Ex} {w:ER} {A:Around} {E:Value->Shared->Prop} {s:Shared}
end
section
variable {P:Ex} {w:ER} {K:Eh} {J1 J2:It} {e_ fm:List Addr} {i1 i2 z TI TO:Addr} {l9 iI:Nat->Heap->Prop}
end
section
variable {prog:Ex} {w:ER} {A:Around} {E:Value->Shared->Prop} {s:Shared}
end
section
variable {X:Cx} {e1 e2:Expr} {f1 f2:FE} {pos:Pos} {elts:List Expr} {kx:Nat} {tp:Pos}
end
theorem Qm:∀ {a b:List Int},a.Perm b->a.Pairwise (· <= ·)->b.Pairwise (· <= ·)->a=b
 | [],b,h,_,_=>(List.nil_perm.mp h).symm
 | x :: a,[],h,_,_=>by have:=h.length_eq; simp at this
 | x :: a,y :: b,h,d,c=>by
  rw [ic] at d c
  have e:x=y:=by
   have h1:x∈y :: b:=h.subset aV
   have h2:y∈x :: a:=h.symm.subset aV
   rcases aS.mp h1 with h1 | h1
   .exact h1
   .rcases aS.mp h2 with h2 | h2
    .exact h2.symm
    .have:=c.1 x h1
     have:=d.1 y h2
     omega
  subst e
  rw [Qm h.cons_inv d.2 c.2]
def RG (x:Int):List Int->List Int
 | []=>[x]
 | y :: l=>if x<=y then x :: y :: l else y :: RG x l
def sortI:List Int->List Int
 | []=>[]
 | x :: l=>RG x (sortI l)
theorem Yx (x):∀ l,(RG x l).Perm (x :: l)
 | []=>.refl _
 | y :: l=>by
  unfold RG
  split
  .exact .refl _
  .exact ((Yx x l).cons y).trans (.swap x y l)
theorem yv:∀ l,(sortI l).Perm l
 | []=>.refl _
 | x :: l=>(Yx x (sortI l)).trans ((yv l).cons x)
theorem Yw (x):∀ {l:List Int},l.Pairwise (· <= ·)->(RG x l).Pairwise (· <= ·)
 | [],_=>List.pairwise_singleton _ _
 | y :: l,h=>by
  have h':=ic.mp h
  unfold RG
  split
  .rename_i c
   refine ic.mpr ⟨λz hz=>?_,h⟩
   rcases aS.mp hz with rfl | hz
   .exact c
   .exact Int.le_trans c (h'.1 z hz)
  .rename_i c
   refine ic.mpr ⟨λz hz=>?_,Yw x h'.2⟩
   rcases aS.mp ((Yx x l).subset hz) with rfl | hz
   .omega
   .exact h'.1 z hz
theorem uc:∀ l,(sortI l).Pairwise (· <= ·)
 | []=>.nil
 | x :: l=>Yw x (uc l)
def CY (h:a.Perm b) (c:a.Pairwise (· <= ·)):sortI b=a:=Qm ((yv b).trans h.symm) (uc b) c
section
variable {X:Cx} {e:Expr} {pos:Pos}
def cN (h:IntsAre us ns):yR (ns.map V.int) us:=by
 induction h with
 | nil=>exact .nil
 | cons _ _ _ a=>exact .cons ⟨_,rfl⟩ a
def QS:wI X (.builtin "sorted") (λxs H Q=>∃ (p:Addr) (ns:List Int),xs=[.ref p]/\bG X.K H p (ns.map V.int)/\ns.length < 64/\∀ l,H l=none->Q (.ref l) (upd H l (.lst ((sortI ns).map V.int)))):=by
 intro pins s σ H xs us Q I r h
 obtain ⟨p,ns,rfl,k,n,q⟩:=h
 obtain ⟨u,rfl,i⟩:=kH r
 cases i
 obtain ⟨ah,d,j,hz⟩:=I.list k
 have hi:=WK d
 have c:=d.length
 rw [aD] at c hz
 refine sorted_ints (vs:=ah) j.isList hi (by omega) λout a a1 a2 a3=>?_
 obtain ⟨e,he⟩:=sortedAll_at s.heap ah out
 have es:sortI ns=a:=CY a2 a3
 have m:H (s.heap.objs.size+1)=none:=I.hok.fresh (mj _)
 have g:=q _ m
 rw [es] at g
 exact ⟨.ref (s.heap.objs.size+1),_,I.laid (t':=s.toks) (λb o x=>sortedAll_old x) (mj _) (show vD X.prog X.w _ (sortedAll s.heap ah out) _ (.lst (a.map V.int)) from ⟨by rw [aD,a2.length_eq]; exact hz,out.toList,e,cN a1,by simpa using he⟩),rfl,g⟩
def KB (fa:FA):FA:=λρ=>(fa ρ).bind λl=>match l with
 | [.lst ds]=>(vx ds).bind λns=>if ns.length < 64 then some ((sortI ns).map D.int) else none
 | _=>none
@[simp] theorem Nf {fa:FA} {ρ:aX}:KB fa ρ=(fa ρ).bind λl=>match l with
 | [.lst ds]=>(vx ds).bind λns=>if ns.length < 64 then some ((sortI ns).map D.int) else none
 | _=>none:=rfl
theorem Uc {K:Eh}:∀ ns:List Int,zR K H (ns.map D.int) (ns.map V.int)
 | []=>.nil
 | n :: ns=>.cons (AC.mpr rfl) (Uc ns)
def YN:E4 "sorted"=some (.builtin "sorted"):=by kernel_rfl
def YI (hg:Gl X "sorted") (m:X.mg "sorted"=none) (o:iG X (e :: es) fa)
  (n:Ei (e :: es) X.env=(false,eval e X.env) :: Ei es X.env:=by rfl) (t:(F_ pos (Ei es X.env)).any (·.1)=false:=by rfl):DN X (.Call (.Name "sorted" p) (e :: es) [] pos) (KB fa) :=
 yz (ka (id:="sorted") QS hg m YN o (by decide) (by decide) n t) λσ H Q ⟨H₀,aa,ρ,Hf,d,R,q,k⟩=>by
  obtain ⟨l,e1,e2⟩:=yt q
  refine ⟨H₀,aa,ρ,Hf,l,R,e1,λvs H1 u g s1 h h1=>?_⟩
  split at e2
  .rename_i ds
   obtain ⟨ns,s,c⟩:=ie.mp e2
   split at c
   .rename_i j
    cases c
    obtain ⟨v,rfl,i⟩:=jI.one h1
    obtain ⟨a,ys,rfl,q,l⟩:=i.lst g
    have r:=zR.intsV l s
    subst r
    exact ⟨a,ns,rfl,q,j,λp b=>k _ _ _ _ (g.layN b) (s1.trans (zQ b)) h (Uc _) zI (g.sf.free b) (s1.free b)⟩
   .cases c
  .cases e2
end
section
variable {X:Cx}
end
section
variable {prog:Ex} {w:ER} {A:Around} {E:Value->Shared->Prop} {s:Shared}
end
section
variable {X:Cx} {e st:Expr} {f fs:FE} {pos p2:Pos}
end
section
variable {O:KeyOrd} {n:Nat} {key:Nat->O.α}
def Run (O:KeyOrd) (n:Nat) (key:Nat->O.α) {α:Type}:Lw α->(α->Prop)->Prop
 | .ret a,Q=>Q a
 | .ask i j k,Q=>i < n/\j < n/\Run O n key (k (O.blt (key i) (key j))) Q
theorem w5 {α:Type} {Q c:α->Prop} (b:∀ a,Q a->c a):∀ {t:Lw α},Run O n key t Q->Run O n key t c
 | .ret a,h=>b a h
 | .ask i j k,h=>⟨h.1,h.2.1,w5 b h.2.2⟩
theorem qS {α b:Type} {Q:b->Prop} {f:α->Lw b}:∀ {t:Lw α},Run O n key t (λa=>Run O n key (f a) Q)->Run O n key (t.bind f) Q
 | .ret a,h=>h
 | .ask i j k,h=>⟨h.1,h.2.1,qS h.2.2⟩
theorem Md {α:Type} {b:Nat->Nat->(Bool->Shared->Prop)->Shared->Prop} {s:Shared} (c:∀ i j (C:Bool->Shared->Prop),i < n->j < n->C (O.blt (key i) (key j)) s->b i j C s) {Q:α->Prop} {G:α->Shared->Prop} (d:∀ a,Q a->G a s) :
  ∀ {t:Lw α},Run O n key t Q->t.kasWp b G s
 | .ret a,h=>d a h
 | .ask i j k,h=>c i j _ h.1 h.2.1 (Md c d h.2.2)
def KP (key:Nat->O.α) (p:Array Nat) (i:Nat):O.α:=key (p[i]?.getD 0)
def HW (p:Array Nat) (i:Nat):key (p.getD i 0)=KP key p i:=by unfold KP; rw [Array.getD_eq_getD_getElem?]
def ke (h:p[i]? = a[j]?):KP key p i=KP key a j:=by unfold KP; rw [h]
def Ys (a:j<=p.size) (k:Nat):KP key (mirror p i j ((j - i) / 2)) k=if i<=k/\k < j then KP key p (i+j - 1 - k) else KP key p k:=by
 have e:=getElem?_mirror_all (i:=i) a k
 by_cases h1:i<=k/\k < j
 .rw [if_pos h1] at e ⊢; exact ke e
 .rw [if_neg h1] at e ⊢; exact ke e
def V6 (b:a < p.size) (hd:d<=a) (k:Nat):
  KP key (bubble p a d) k=if k=a - d then KP key p a else if a - d < k/\k<=a then KP key p (k - 1) else KP key p k:=by
 have e:=getElem?_bubble b d hd k
 by_cases h1:k=a - d
 .rw [if_pos h1] at e ⊢; exact ke e
 .rw [if_neg h1] at e ⊢
  by_cases h2:a - d < k/\k<=a
  .rw [if_pos h2] at e ⊢; exact ke e
  .rw [if_neg h2] at e ⊢; exact ke e
def xB (b:j<=p.size) (a:∀ k,i<=k->k < j->KP key p k=KP key p (j - 1)) (k:Nat):KP key (mirror p i j ((j - i) / 2)) k=KP key p k:=by
 rw [Ys b]
 split
 .rw [a _ (by omega) (by omega),a k (by omega) (by omega)]
 .rfl
def Ks (key:Nat->O.α) (p:Array Nat) (k:Nat):Prop:=∀ i j,i<=j->j < k->O.kle (KP key p i) (KP key p j)
def sI (key:Nat->O.α) (p:Array Nat) (k:Nat):Prop:=∀ i j,i<=j->j < k->O.kle (KP key p j) (KP key p i)
structure Bs (n:Nat) (p:Array Nat):Prop where
 perm:p.Perm (pd (aK n))
def Bs.size (b:Bs n p):p.size=n:=by rw [b.perm.size_eq]; simp
def Bs.lt (b:Bs n p) (c:0 < n) (i:Nat):p.getD i 0 < n:=by
 rw [Array.getD_eq_getD_getElem?]
 cases h:p[i]? with
 | none=>exact c
 | some a =>
  have hm:a∈p:=Array.mem_of_getElem? h
  have:a∈aK n:=by simpa using b.perm.mem_iff.mp hm
  simpa using this
def Bs.rev (b:Bs n p) (i j:Nat):Bs n (PySem.W.kas_rev p i j):=⟨(mirror_perm _ _ _ _).trans b.perm⟩
def Bs.bub (b:Bs n p) (i j:Nat):Bs n (bubble p i j):=⟨(bubble_perm _ _ _).trans b.perm⟩
def Yc {α:Type} {p:Array Nat} (b:Bs n p) (a:0 < n) {i j:Nat} {k:Bool->Lw α} {Q:α->Prop} (h:Run O n key (k (O.blt (KP key p i) (KP key p j))) Q):Run O n key (.ask (p.getD i 0) (p.getD j 0) k) Q :=
 ⟨b.lt a i,b.lt a j,by rw [HW (key:=key) p i,HW (key:=key) p j]; exact h⟩
open KeyOrd
theorem Qe (b:Bs n p):∀ (f a:Nat),1<=a->a+f<=n->Ks key p a->Run O n key (PySem.W.kas_asc p f a) λm=>a<=m/\m<=a+f/\Ks key p m/\(m=a+f\/O.klt (KP key p m) (KP key p (m - 1)))
 | 0,a,_,_,c=>⟨aT _,aT _,c,.inl rfl⟩
 | f+1,a,h1,hf,c=>by
  refine Yc b (by omega) ?_
  cases d:O.blt (KP key p a) (KP key p (a - 1)) with
  | true =>
   rw [if_pos rfl]
   exact ⟨aT _,by omega,c,.inr d⟩
  | false =>
   rw [if_neg (by simp)]
   refine w5 ?_ (Qe b f (a+1) (by omega) (by omega) ?_)
   .rintro m ⟨t,s,k,g⟩
    exact ⟨by omega,by omega,k,g.imp (λh=>by omega) id⟩
   .intro i j o u
    by_cases r:j < a
    .exact c i j o r
    .have l:j=a:=by omega
     subst l
     by_cases q:i=j
     .subst q; exact kle_refl _
     .exact kle_trans (c i (j - 1) (by omega) (by omega)) d
def VD (b:Bs n p) (h1:1<=m) (g:m<=n) (d:sI key p m):Run O n key (PySem.W.kas_tail3 m n p) λr=>1<=r.1/\r.1<=n/\Bs n r.2/\Ks key r.2 r.1:=by
 unfold PySem.W.kas_tail3
 have hsz:m<=p.size:=by rw [b.size]; exact g
 refine qS (w5 ?_ (Qe (b.rev 0 m) (n - m) m h1 (by omega) ?_))
 .rintro a ⟨k,h,c,_⟩
  exact ⟨by show 1<=a; omega,by show a<=n; omega,b.rev 0 m,c⟩
 .intro i j o l
  show O.kle (KP key (mirror p 0 m ((m - 0) / 2)) i) (KP key (mirror p 0 m ((m - 0) / 2)) j)
  rw [Ys hsz,Ys hsz,if_pos (by omega),if_pos (by omega)]
  exact d _ _ (by omega) (by omega)
theorem ZF:∀ (f:Nat) (p:Array Nat) (x q:Nat),Bs n p->1<=x->x+f<=n->sI key p x->q+1<=x->(∀ i,x - (q+1)<=i->i < x->KP key p i=KP key p (x - 1)) →
  Run O n key (PySem.W.kas_desc f p x q) λr=>Bs n r.1/\x<=r.2.1/\r.2.1<=x+f/\sI key r.1 r.2.1/\r.2.2+1<=r.2.1/\∀ i,r.2.1 - (r.2.2+1)<=i->i < r.2.1->KP key r.1 i=KP key r.1 (r.2.1 - 1)
 | 0,p,x,q,b,_,_,a,l,he=>⟨b,aT _,aT _,a,l,he⟩
 | f+1,p,x,q,b,h1,hf,a,l,he=>by
  have hsz:x<=p.size:=by rw [b.size]; omega
  refine Yc b (by omega) ?_
  cases A:O.blt (KP key p x) (KP key p (x - 1)) with
  | true =>
   rw [if_pos rfl]
   have y:∀ h:Array Nat,(∀ k,KP key h k=KP key p k)->sI key h (x+1):=by
    intro h z i j s E
    rw [z,z]
    by_cases u:j < x
    .exact a i j s u
    .have o:j=x:=by omega
     subst o
     by_cases t:i=j
     .subst t; exact kle_refl _
     .exact kle_trans (kle_of_klt A) (a i (j - 1) (by omega) (by omega))
   by_cases g:q > 0
   .rw [if_pos g]
    refine w5 ?_ (ZF f _ (x+1) 0 (b.rev _ _) (by omega) (by omega) (y _ (xB hsz he)) (by omega) λi h1 h2=>by congr 1; omega)
    rintro r ⟨d,w,v,c⟩
    exact ⟨d,by omega,by omega,c⟩
   .rw [if_neg g]
    refine w5 ?_ (ZF f _ (x+1) 0 b (by omega) (by omega) (y _ λ_=>rfl) (by omega) λi h1 h2=>by congr 1; omega)
    rintro r ⟨d,w,v,c⟩
    exact ⟨d,by omega,by omega,c⟩
  | false =>
   rw [if_neg (by simp)]
   refine Yc b (by omega) ?_
   cases C:O.blt (KP key p (x - 1)) (KP key p x) with
   | true =>
    rw [if_pos rfl]
    exact ⟨b,aT _,by show x<=_; omega,a,l,he⟩
   | false =>
    rw [if_neg (by simp)]
    have B:KP key p x=KP key p (x - 1):=kle_antisymm C A
    refine w5 ?_ (ZF f p (x+1) (q+1) b (by omega) (by omega) (λi j s E=>?_) (by omega) λi h1 h2=>?_)
    .rintro r ⟨d,w,v,c⟩
     exact ⟨d,by omega,by omega,c⟩
    .by_cases u:j < x
     .exact a i j s u
     .have o:j=x:=by omega
      subst o
      by_cases t:i=j
      .subst t; exact kle_refl _
      .rw [B]; exact a i (j - 1) (by omega) (by omega)
    .rw [show x+1 - 1=x by omega]
     by_cases m:i=x
     .subst m; rfl
     .rw [B]; exact he i (by omega) (by omega)
def Zm (b:Bs n p) (v:m+1<=n) (s:sI key p (m+1)):Run O n key (PySem.W.kas_descPart m n p) λr=>1<=r.1/\r.1<=n/\Bs n r.2/\Ks key r.2 r.1:=by
 unfold PySem.W.kas_descPart
 refine qS (w5 ?_ (ZF (n - (m+1)) p (m+1) 0 b (by omega) (by omega) s (by omega) λi h1 h2=>by congr 1; omega))
 rintro ⟨g,x,q⟩ ⟨a,o,l,d,k,c⟩
 dsimp only at a o l d k c ⊢
 have hsz:x<=g.size:=by rw [a.size]; omega
 by_cases h:q > 0
 .rw [if_pos h]
  refine VD (a.rev _ _) (by omega) (by omega) ?_
  intro i j u t
  show O.kle (KP key (mirror g _ _ _) j) (KP key (mirror g _ _ _) i)
  rw [xB hsz c,xB hsz c]
  exact d i j u t
 .rw [if_neg h]
  exact VD a (by omega) (by omega) d
def G8 (b:Bs n p) (E:1<=n):Run O n key (PySem.W.kas_count n p) λr=>1<=r.1/\r.1<=n/\Bs n r.2/\Ks key r.2 r.1:=by
 unfold PySem.W.kas_count
 refine qS (w5 ?_ (Qe b (n - 1) 1 (aT _) (by omega) λi j w v=>by have:i=j:=(by omega); subst this; exact kle_refl _))
 rintro m ⟨u,C,h,y⟩
 have d:m<=n:=by omega
 by_cases a:m=n
 .rw [if_pos (by simpa using a)]
  exact ⟨u,d,b,h⟩
 .rw [if_neg (by simpa using a)]
  have x:O.klt (KP key p m) (KP key p (m - 1)):=y.resolve_left (by omega)
  by_cases c:m > 1
  .rw [if_pos c]
   refine Yc b (by omega) ?_
   cases B:O.blt (KP key p 0) (KP key p (m - 1)) with
   | true =>
    rw [if_pos rfl]
    exact ⟨u,d,b,h⟩
   | false =>
    rw [if_neg (by simp)]
    have hsz:m<=p.size:=by rw [b.size]; omega
    have g:∀ k,0<=k->k < m->KP key p k=KP key p (m - 1):=by
     intro k _ z
     have a1:=h 0 k (by omega) z
     have a2:=h k (m - 1) (by omega) (by omega)
     exact kle_antisymm a2 (kle_trans B a1)
    refine Zm (b.rev _ _) (by omega) ?_
    intro i j w v
    show O.kle (KP key (mirror p _ _ _) j) (KP key (mirror p _ _ _) i)
    rw [xB hsz g,xB hsz g]
    by_cases o:j < m
    .rw [g i (by omega) (by omega),g j (by omega) o]; exact kle_refl _
    .have A:j=m:=by omega
     subst A
     by_cases t:i=j
     .subst t; exact kle_refl _
     .rw [g i (by omega) (by omega)]; exact kle_of_klt x
  .rw [if_neg c]
   have l:m=1:=by omega
   subst l
   refine Zm b (by omega) ?_
   intro i j w v
   by_cases t:i=j
   .subst t; exact kle_refl _
   .have s:i=0:=by omega
    have q:j=1:=by omega
    subst s; subst q
    exact kle_of_klt x
theorem Yb (b:Bs n p) (m:k < n) (g:Ks key p k):∀ (f l r:Nat),l<=r->r<=k->r - l<=f->(∀ i,i < l->O.kle (KP key p i) (KP key p k))->(∀ i,r<=i->i < k->O.klt (KP key p k) (KP key p i)) →
  Run O n key (PySem.W.kas_place p k f l r) λh=>h<=k/\(∀ i,i < h->O.kle (KP key p i) (KP key p k))/\∀ i,h<=i->i < k->O.klt (KP key p k) (KP key p i)
 | 0,l,r,j,a,hf,d,c=>by
  have:l=r:=by omega
  subst this
  exact ⟨a,d,c⟩
 | f+1,l,r,j,a,hf,d,c=>by
  unfold PySem.W.kas_place
  by_cases o:l ≥ r
  .rw [if_pos o]
   have:l=r:=by omega
   subst this
   exact ⟨a,d,c⟩
  .rw [if_neg o]
   refine Yc b (by omega) ?_
   cases q:O.blt (KP key p k) (KP key p ((l+r) / 2)) with
   | true =>
    rw [if_pos rfl]
    exact Yb b m g f l ((l+r) / 2) (by omega) (by omega) (by omega) d λi h1 h2=>klt_of_klt_of_kle q (g _ _ h1 h2)
   | false =>
    rw [if_neg (by simp)]
    exact Yb b m g f ((l+r) / 2+1) r (by omega) (by omega) (by omega) (λi h1=>kle_trans (g i ((l+r) / 2) (by omega) (by omega)) (show O.kle _ _ from q)) c
theorem G9:∀ (f:Nat) (p:Array Nat) (k:Nat),Bs n p->k+f=n->Ks key p k->Run O n key (PySem.W.kas_bin f p k) λd=>Bs n d/\Ks key d n
 | 0,p,k,b,g,c=>⟨b,by rw [<- g]; exact c⟩
 | f+1,p,k,b,g,c=>by
  unfold PySem.W.kas_bin
  refine qS (w5 ?_ (Yb b (by omega) c k 0 k (by omega) (aT _) (by omega) (λi hi=>by omega) λi h1 h2=>by omega))
  rintro l ⟨o,m,h⟩
  refine G9 f _ (k+1) (b.bub _ _) (by omega) ?_
  have a:k < p.size:=by rw [b.size]; omega
  intro i j r q
  rw [V6 a (by omega),V6 a (by omega),show k - (k - l)=l by omega]
  repeat' split
  all_goals first
   | (exfalso; omega)
   | exact kle_refl _
   | exact m _ (by omega)
   | exact kle_of_klt (h _ (by omega) (by omega))
   | exact c _ _ (by omega) (by omega)
def C9 (g:1<=n):Run O n key (PySem.W.kas_sort n) λp=>Bs n p/\Ks key p n:=by
 unfold PySem.W.kas_sort
 refine qS (w5 ?_ (G8 ⟨.refl _⟩ g))
 rintro ⟨m,p⟩ ⟨d,c,b,a⟩
 dsimp only at d c b a ⊢
 by_cases h:m < n
 .rw [if_pos h,show max m 1=m by omega]
  exact G9 (n - m) p m b (by omega) a
 .rw [if_neg h]
  exact ⟨b,by rw [show n=m by omega]; exact a⟩
end
open PySem.AutoSeq1 (wpAny_loadPart')
open PySem.MeetsSeq PySem.MeetsSeq2 PySem.MeetsSeq3
def Fc (vs:List Value):(vs.toArray.zip vs.toArray).toList=vs.zip vs:=by simp
section
variable {prog:Ex} {w:ER} {A:Around} {E:Value->Shared->Prop} {s:Shared}
def Xa (vs:List Value):(aK vs.length).map (λi=>vs.getD i E_)=vs:=by
 apply AW
 .simp
 .intro i h1 h2
  simp [h2]
def Qv {O:KeyOrd} {key:Nat->O.α} {κ:SortKind} {a:Addr} {vs:List Value} {n:Nat} {P:Fin->Shared->Prop} (l:s.heap.get? a=some (IY "list" vs.toArray n)) (r:vs.length < 64)
  (y:2<=vs.length->∀ h',(∀ b o,b≠a->s.heap.get? b=some o->h'.get? b=some o) →
   (∀ (Q:SortKind->Shared->Prop) (E:Value->Shared->Prop),Q κ { s with heap:=h' }->Ek (EA prog w) A (keyKind' vs.toArray) Q E { s with heap:=h' }) ∧
   ∀ i j (Q:Bool->Shared->Prop),i < vs.length->j < vs.length->Q (O.blt (key i) (key j)) { s with heap:=h' }->Ek (EA prog w) A (keyLt' κ (vs.getD i .none) (vs.getD j .none)) Q (λ_ _=>False) { s with heap:=h' })
  (h:∀ p:Array Nat,Bs vs.length p->Ks key p vs.length->P (.done (.ret .none)) { s with heap:=sortedHeap s.heap a vs (pd (p.toList.map λi=>vs.getD i .none)) }) :
  Ek (EA prog w) A (Builtin.«list.sort» ⟨[.ref a],[]⟩) P E s:=by
 rw [list_sort_plain]
 have v:a < s.heap.objs.size:=El l
 refine be (listItems_at l rfl ?_)
 refine be (listUpdate_at l rfl ?_)
 obtain ⟨e1,k⟩:∃ e1,(s.heap.update a (EV λ_ => #[])).get? a=some (IY "list" #[] e1):=⟨_,get?_update_seq l (λ_ => #[])⟩
 refine be (seqEpoch_at k rfl ?_)
 refine be (wpAny_newTuple ?_)
 refine be (wpAny_newList ?_)
 refine E8 ?_
 have c:(((s.heap.update a (EV λ_ => #[])).push (IY "tuple" vs.toArray 0)).push (IY "list" #[] 0)).get? a=some (IY "list" #[] e1):=by
  rw [LC _ _ _ (by rw [size_push',Heap.size_update]; exact cZ (rY v)),LC _ _ _ (by rw [Heap.size_update]; exact cZ v)]
  exact k
 have I:∀ b o,b≠a->s.heap.get? b=some o->(((s.heap.update a (EV λ_ => #[])).push (IY "tuple" vs.toArray 0)).push (IY "list" #[] 0)).get? b=some o:=λb o B x =>
  ls _ (ls _ (by rw [Heap.get?_update_ne _ _ _ _ B]; exact x))
 show Ek (EA prog w) A _ P E { s with heap:=((s.heap.update a (EV λ_ => #[])).push (IY "tuple" vs.toArray 0)).push (IY "list" #[] 0) }
 dsimp only
 have hsz:vs.toArray.size=vs.length:=by simp
 by_cases h2:vs.toArray.size < 2
 .rw [if_pos h2,if_pos h2]
  refine be (mo ?_)
  rw [StateT.run_pure]
  refine be (mo ?_)
  dsimp only
  refine be (seqEpoch_at c rfl ?_)
  refine be (listUpdate_at c rfl ?_ (hsz2:=by rw [Array.size_map]; show (pairsOf vs).size<=_; rw [pairsOf_size,EK]; omega))
  simp only [bne_self_eq_false,b5,if_false]
  have fin:=h (pd (aK vs.length)) ⟨.refl _⟩ (λi j J u=>by
   have:i=j:=by omega
   subst this; exact KeyOrd.kle_refl _)
  have H:(vs.toArray.zip vs.toArray).map (·.2)=pd ((pd (aK vs.length)).toList.map λi=>vs.getD i .none):=by
   apply Array.toList_inj.mp
   rw [Array.toList_map,Fc]
   have e1:(vs.zip vs).map (·.2)=vs:=List.map_snd_zip (aT _)
   rw [e1]
   exact (Xa vs).symm
  rw [<- H] at fin
  exact mo fin
 .rw [if_neg h2,if_neg h2]
  have t:2<=vs.length:=by omega
  obtain ⟨k1,k2⟩:=y t _ I
  refine be (k1 _ _ ?_)
  refine be (EB (PySem.W.kat_run (vs:=vs) (ks:=vs) (κ:=κ) (Q:=λm s'=>∃ p:Array Nat,arrOf m=p.map (PySem.W.kas_item (vs.toArray.zip vs.toArray))/\failedOf m=none/\(Bs vs.length p/\Ks key p vs.length)/\s'={ s with heap:=((s.heap.update a (EV λ_ => #[])).push (IY "tuple" vs.toArray 0)).push (IY "list" #[] 0) })
   (G:=λp s'=>(Bs vs.length p/\Ks key p vs.length)/\s'={ s with heap:=((s.heap.update a (EV λ_ => #[])).push (IY "tuple" vs.toArray 0)).push (IY "list" #[] 0) })
   rfl t r (λp m s' a1 a2 a3 a4=>⟨p,a2,a3,a4⟩) (Md (λi j C hi u F=>k2 i j C hi u F) (λp d=>⟨d,rfl⟩) (C9 (by omega)))) ?_ λ_ _ e=>e)
  rintro ⟨⟨⟩,m⟩ s' ⟨p,q,z,d,rfl⟩
  have g:=PySem.W.kat_snds rfl q
  dsimp only
  rw [g]
  refine be (seqEpoch_at c rfl ?_)
  refine be (listUpdate_at c rfl ?_ (hsz2:=by rw [cx,aD,H_,d.1.size,EK]; omega))
  rw [z]
  simp only [bne_self_eq_false,b5,if_false]
  exact mo (h p d.1 d.2)
def CV {O:KeyOrd} {key:Nat->O.α} {κ:SortKind} {l:Addr} {vs:List Value} {Q:Value->Shared->Prop} (k:s.heap.IsList l vs.toArray) (g:vs.length < 64)
  (n:2<=vs.length->∀ h',(∀ b o,s.heap.get? b=some o->h'.get? b=some o) →
   (∀ (Q:SortKind->Shared->Prop) (E:Value->Shared->Prop),Q κ { s with heap:=h' }->Ek (EA prog w) A.in1.in1 (keyKind' vs.toArray) Q E { s with heap:=h' }) ∧
   ∀ i j (Q:Bool->Shared->Prop),i < vs.length->j < vs.length->Q (O.blt (key i) (key j)) { s with heap:=h' }->Ek (EA prog w) A.in1.in1 (keyLt' κ (vs.getD i .none) (vs.getD j .none)) Q (λ_ _=>False) { s with heap:=h' })
  (h:∀ p:Array Nat,Bs vs.length p->Ks key p vs.length->Q (.ref (s.heap.objs.size+1)) { s with heap:=sortedAll s.heap vs (pd (p.toList.map λi=>vs.getD i .none)) }) :
  Ek (EA prog w) A (call (.builtin "sorted") [.ref l]) Q E s:=by
 refine Calls.call_function_entry kind_sorted plain_sorted entry_sorted (args_sorted1 _) ?_
 unfold Builtin.«sorted»
 refine be (m:=checkCount "sorted" 1 1 _) (mo ?_)
 refine be (collect_list k ?_)
 refine be (wpAny_newList ?_)
 have hsz:((s.heap.push (IY "list" #[] 0)).update s.heap.objs.size (EV (· ++ vs.toArray))).objs.size=s.heap.objs.size+1:=by
  rw [Heap.size_update,size_push']
 have a:(((s.heap.push (IY "list" #[] 0)).update s.heap.objs.size (EV (· ++ vs.toArray))).push (IY "list" vs.toArray 0)).get? (s.heap.objs.size+1)=some (IY "list" vs.toArray 0):=by
  rw [<- hsz]; exact Ej _ rfl
 show Ek _ _ _ _ _ { s with heap:=((s.heap.push (IY "list" #[] 0)).update s.heap.objs.size (EV (· ++ vs.toArray))).push (IY "list" vs.toArray 0) }
 rw [hsz]
 have c:∀ b o,s.heap.get? b=some o->b≠s.heap.objs.size+1/\(((s.heap.push (IY "list" #[] 0)).update s.heap.objs.size (EV (· ++ vs.toArray))).push (IY "list" vs.toArray 0)).get? b=some o:=λb o x=>by
  have d:b < s.heap.objs.size:=El x
  refine ⟨cZ (rY d),?_⟩
  rw [LC _ _ _ (by rw [hsz]; exact cZ (rY d)),Heap.get?_update_ne _ _ _ _ (cZ d),LC _ _ _ (cZ d)]
  exact x
 refine be (E8 (Eu slot_list_sort ⟨_,a,rfl⟩ entry_list_sort (Qv (key:=key) a g (λh2 h' hh=>n h2 h' λb o x=>hh b o (c b o x).1 (c b o x).2) λp a1 a2=>⟨_,rfl,?_⟩) (args_list_sort _)))
 exact mo ⟨_,rfl,h p a1 a2⟩
end
section
variable {X:Cx} {pins:List (Addr×Obj)} {σ:St} {H:Hp} {s:Shared} {A:Around}
end
section
variable {X:Cx} {pins:List (Addr×Obj)} {σ:St} {H:Hp} {s:Shared}
end
section
variable {X:Cx} {e:Expr} {pos:Pos} {kk:Nat}
end
section
variable {α:Type} {P:List α->Prop}
def zfb (k:P []):∀ us,us.length=0->P us
 | [],_=>k
def US (k:∀ a,P [a]):∀ us,us.length=1->P us
 | a :: us,h=>zfb (P:=λus=>P (a :: us)) (k a) us (Nat.succ.inj h)
def kA (k:∀ a b,P [a,b]):∀ us,us.length=2->P us
 | a :: us,h=>US (P:=λus=>P (a :: us)) (k a) us (Nat.succ.inj h)
def F2 (k:∀ a b c,P [a,b,c]):∀ us,us.length=3->P us
 | a :: us,h=>kA (P:=λus=>P (a :: us)) (k a) us (Nat.succ.inj h)
end
section
variable {X:Cx} {pos:Pos} {kk:Nat}
end
section
variable {prog:Ex} {w:ER} {A:Around} {E:Value->Shared->Prop} {s:Shared}
end
section
variable {K:Eh} {H₀ aa:Hp} {σ:St} {ρ:aX} {H Hf:Hp}
end
section
variable {X:Cx} {pos:Pos} {body:List Stmt} {γ:FG} {B:FS}
end
section
variable {X:Cx} {pos:Pos} {kk:Nat}
end
section
variable {X:Cx}
variable {a b c e:Expr} {f g h:FE} {pos p2:Pos}
end
section
variable {X:Cx} {e:Expr} {f:FE} {pos:Pos} {tg:Expr}
end
section
variable {X:Cx} {o e:Expr} {f g:FE} {kk:Nat}
end
section
variable {X:Cx}
end
def jn (out:Str):List Str->Str
 | []=>out
 | z :: zs=>jn (out++z) zs
theorem Bb:∀ zs out,out.length<=(jn out zs).length
 | [],_=>aT _
 | z :: zs,out=>by
  have h:=Bb zs (out++z)
  rw [strLen_append] at h
  show _<=(jn (out++z) zs).length
  omega
abbrev FJ:=aX->Option (List Str)
inductive tJ (K:Eh) (fj:FJ) (out:Str) (σ:St) (H:Hp) (Q:VK):Prop
 |mk (H₀ aa ρ Hf zs) (a0:Rep K H₀ aa σ ρ H Hf) (a1:fj ρ=some zs) (a2:(jn out zs).length<=sizeLine) (a3:∀ H' ak,Rep K H₀ aa σ ρ H' ak->yw H H'->yw Hf ak->Q (.str (jn out zs)) H')
def DJ (X:Cx) (es:List Expr) (fj:FJ):Prop :=
 ∀ (out:Str) (pins:List (Addr×Obj)) (s:Shared) (σ:St) (H:Hp) (Q:VK),Inv X pins σ H s->tJ X.K fj out σ H Q->Ek (EA X.prog X.w) X.A (joinParts out (evalEach es X.env)) (EP X pins σ Q) X.xe s
section
variable {X:Cx} {e:Expr} {es:List Expr} {f:FE} {fj:FJ} {pos p2:Pos}
def Pb:FJ:=λ_=>some []
def FR (z:Str) (fj:FJ):FJ:=λρ=>(fj ρ).bind λzs=>some (z :: zs)
def zbe:D->Option Str
 | .int i=>if i.natAbs.log2 < 1920 then some (toString i) else none
 | .str z=>if z.length<=sizeLine then some z else none
 | _=>none
def P0 (f:FE) (fj:FJ):FJ:=λρ=>(f ρ).bind λd=>(zbe d).bind λz=>(fj ρ).bind λzs=>some (z :: zs)
def BP:DJ X [] Pb:=by
 intro out pins s σ H Q I h
 obtain ⟨H₀,aa,ρ,Hf,zs,R,q,hz,k⟩:=h
 cases q
 exact joinParts_nilE (joinParts_nil ⟨.str out,H,I.tok _,⟨_,rfl⟩,k _ _ R zH zH⟩ hz)
def BR (h:DJ X es fj):DJ X (.Constant (.str z) j p2 :: es) (FR z fj):=by
 intro out pins s σ H Q I hh
 obtain ⟨H₀,aa,ρ,Hf,zs,R,q,hz,k⟩:=hh
 cases e:fj ρ with
 | none=>unfold FR at q; rw [e] at q; cases q
 | some a =>
  unfold FR at q
  rw [e] at q
  cases q
  have b:(jn (out++z) a).length<=sizeLine:=hz
  refine joinParts_consE (joinParts_cons (Calls.Constant_str ?_))
  exact ⟨fc (Bb _ _) b,h (out++z) pins _ σ H Q (I.tok _) ⟨H₀,aa,ρ,Hf,a,R,e,b,k⟩⟩
def BQ (n:DR X e f) (h:DJ X es fj):DJ X (.FormattedValue e (-1) none p2 :: es) (P0 f fj):=by
 intro out pins s σ H Q I hh
 obtain ⟨H₀,aa,ρ,Hf,zs,R,q,hz,k⟩:=hh
 obtain ⟨d,e1,e2⟩:=zO q
 cases a:zbe d with
 | none=>rw [a] at e2; cases e2
 | some z =>
  rw [a] at e2
  cases g:fj ρ with
  | none=>rw [g] at e2; cases e2
  | some j =>
   rw [g] at e2
   cases e2
   have l:(jn (out++z) j).length<=sizeLine:=hz
   refine joinParts_consE (joinParts_cons (FormattedValue_plain (thn (n pins s σ H (λv H1=>∃ b,Rep X.K H₀ aa σ ρ H1 b/\yw H H1/\yw Hf b/\jJ X.K b σ ρ d v) I ⟨H₀,aa,ρ,Hf,d,R,e1,λv H1 b i s1 c h1=>⟨b,i,s1,c,h1⟩⟩) λu s1 ⟨v,H1,p,r,b,i,o,c,h1⟩=>?_)))
   have fin:∀ (t':Tok) (tk:Nat),(out++z).length<=sizeLine/\Ek (EA X.prog X.w) X.A (joinParts (out++z) (evalEach es X.env)) (EP X pins σ Q) X.xe { s1 with toks:=tk }:=λt' tk =>
    ⟨fc (Bb _ _) l,h (out++z) pins _ σ H1 Q (p.tok _) ⟨H₀,aa,ρ,b,j,i,g,l,λH2 a9 R2 s2 m=>k _ _ R2 (o.trans s2) (c.trans m)⟩⟩
   unfold zbe at a
   split at a
   .split at a
    .cases a
     cases h1.int
     obtain ⟨t,rfl⟩:=r
     exact formatField_int_small (by assumption) (fin (s1.toks+1) _)
    .cases a
   .split at a
    .cases a
     cases h1.str
     obtain ⟨t,rfl⟩:=r
     exact formatField_str fin (by assumption)
    .cases a
   .cases a
def WJ (fj:FJ):FE:=λρ=>(fj ρ).bind λzs=>if (jn Ib zs).length<=sizeLine then some (.str (jn Ib zs)) else none
def BY (h:DJ X (a :: b :: es) fj) (c:evalEach (a :: b :: es) X.env=eval a X.env :: eval b X.env :: evalEach es X.env:=by rfl):DE X (.JoinedStr (a :: b :: es) pos) (WJ fj):=by
 intro pins s σ H Q I hh
 obtain ⟨H₀,aa,ρ,Hf,d,R,q,k⟩:=hh
 cases e:fj ρ with
 | none=>unfold WJ at q; rw [e] at q; cases q
 | some zs =>
  unfold WJ at q
  rw [e] at q
  have q:(if (jn Ib zs).length<=sizeLine then some (D.str (jn Ib zs)) else none)=some d:=q
  split at q
  .cases q
   refine JoinedStr_many ?_
   rw [<- c]
   exact h Ib pins s σ H Q I ⟨H₀,aa,ρ,Hf,zs,R,e,by assumption,λH' ak R' s' t'=>k _ _ _ R' s' t' (ED.mpr rfl)⟩
  .cases q
def jU (i:Nat) (g f:FE):FS:=λρ=>(f ρ).bind λy=>(g ρ).bind λx=>match ρ[i]?,x with
 | some (.ol ds),.int k=>(fO ds.length k).bind λj=>some (.nx (ρ.set i (.ol (ds.set j y))))
 | _,_=>none
set_option tactic.hygienic true in
def W0 {c:Expr} {g:FE} {x:Str} {b fM:Pos} (i:Nat) (F:DE X e f) (hg:DE X c g) (I:X.N[i]? = some x:=by rfl) (C:iE X.env.scope x:=by first | exact Im rfl | exact E2 (Im rfl) | exact E2 (E2 rfl))
  (hd:(x==("__debug__":Str))=false:=by decide) (n:(x==("__classdict__":Str))=false:=by decide)
  (G:∀ v,assign (.Subscript (.Name x b) c fM) X.env v=(do
   let h ← holding [v] (eval (.Name x b) X.env)
   let l ← holding [v,h] (eval c X.env)
   standAt fM
   holding [v,h,l] (setItem h l v)
   release [v,h,l] []):=by intro _; rfl)
  (E:swapsWithSole [.Subscript (.Name x b) c fM] e pos.line X.env=pure false:=by rfl) (B:swappedStores [.Subscript (.Name x b) c fM] e X.env=pure none:=by rfl)
  (h1:(Iu [.Subscript (.Name x b) c fM] X.env).map (·.2)=[assign (.Subscript (.Name x b) c fM) X.env]:=by rfl) :
  DS X (.Assign [.Subscript (.Name x b) c fM] e pos) (jU i g f) :=
 vc (Ml F (SF (j9 I C hd n) hg C1 G) E B h1) λD' σ H ⟨H₀,aa,ρ,Hf,o,R,q,k⟩=>by
  obtain ⟨y,e1,e2⟩:=zO q
  obtain ⟨z,J,d⟩:=zO e2
  split at d
  .rename_i ds kk p
   cases m:fO ds.length kk with
   | none=>rw [m] at d; cases d
   | some j =>
    rw [m] at d
    cases d
    refine ⟨H₀,aa,ρ,Hf,y,R,e1,λv H1 L t s1 u h1=>?_⟩
    obtain ⟨a,b,⟨xs,p2,S⟩,Q,P⟩:=t.ow i _ p rfl
    refine ⟨_,b,H₀,aa,ρ,L,_,t,J,λw H2 a9 R2 s2 r h2=>?_⟩
    cases AC.mp h2
    obtain ⟨T,s,⟨ys,A,r3⟩,O,M⟩:=R2.ow i _ p rfl
    rw [b] at s; cases s
    exact ⟨a,ys,kk,j,rfl,rfl,A,by rw [r3.length]; exact m,k _ _ _ (R2.updOwn p rfl b rfl ⟨_,zI,r3.set (h1.mono r) j⟩) (u.trans r)⟩
  .cases d
end
@[simp] theorem zb3   : WJ fj ρ=(fj ρ).bind λzs=>if (jn Ib zs).length<=sizeLine then some (.str (jn Ib zs)) else none:=rfl
@[simp] theorem zdo  : Pb ρ=some []:=rfl
@[simp] theorem zds    : FR z fj ρ=(fj ρ).bind λzs=>some (z :: zs):=rfl
@[simp] theorem zdr    : P0 f fj ρ=(f ρ).bind λd=>(zbe d).bind λz=>(fj ρ).bind λzs=>some (z :: zs):=rfl
@[simp] theorem zbz {i:Nat} {g f:FE} {ρ:aX}:jU i g f ρ=(f ρ).bind λy=>(g ρ).bind λx=>match ρ[i]?,x with
 | some (.ol ds),.int k=>(fO ds.length k).bind λj=>some (.nx (ρ.set i (.ol (ds.set j y))))
 | _,_=>none:=rfl
section
variable {K:Eh} {C p dx l:Addr} {H Hf H' ak H2 a9:Hp} {hd wd:D} {ms:List D}
end
section
variable (gA gT gI gS:List D->Option D)
variable (gL:List D->Option D)
end
def JA (x:vD P w H h a o):∃ u,h.get? a=some u:=by
 cases o with
 | lst xs=>obtain ⟨_,_,_,_,e⟩:=x; exact ⟨_,e⟩
 | tup xs=>obtain ⟨_,_,_,⟨_,e,_⟩⟩:=x; exact ⟨_,e⟩
 | dK aJ=>obtain ⟨_,_,_,_,o,_,_,e,_⟩:=x; exact ⟨_,e⟩
 | dT aJ=>obtain ⟨_,_,_,_,o,_,_,e,_⟩:=x; exact ⟨_,e⟩
 | set S n=>obtain ⟨o,_,_,_,e,_⟩:=x; exact ⟨_,e⟩
 | ins C dx fs=>obtain ⟨_,_,_,e,_⟩:=x; exact ⟨_,e⟩
 | own y=>exact x
 | xd fs=>obtain ⟨_,⟨_,_,_,e,_⟩,_⟩:=x; exact ⟨_,e⟩
 | rng lo hi=>obtain ⟨_,_,_,e⟩:=x; exact ⟨_,e⟩
 | frz b u=>obtain ⟨e,_⟩:=x; exact ⟨_,e⟩
 | tbl ps=>exact ⟨_,x⟩
 | met f y=>exact ⟨_,x⟩
 | ext φ=>obtain ⟨_,e,_⟩:=x; exact e
def zdj (outer:List Env) (h₀:Heap) (H:Hp) (a C:Addr) (h:Heap):Prop :=
 H a=none/\h₀.get? a=none/\∃ (B:Heap) (t:Addr),Heap.FlyingW B outer a (.ref C) (.ref t) h/\(∀ b o,H b=some o->∃ c,B.get? b=some c)/\∀ b o,h₀.get? b=some o->b∉dM outer->∃ c,B.get? b=some c
def f7 (P:Ex) (w:ER):nI:=λouter H s E e s'=>∃ (a C:Addr) (H':Hp),e=.ref a/\s'.os=s.os/\AllBare s'.gens/\Un (dM outer) [] H H' s.heap s'.heap/\dj P w H' s'.heap/\zdj outer s.heap H' a C s'.heap/\E (.ref C) none H'
def Tj {P:Ex} {w:ER} {K:Eh} {mg:Str->Option Value} {base:Heap} {N:List Str} {qual:Str} {scope:Scope} {f:Addr} {aq:Value} {A:Around} {outer:List Env} {s₀:Shared} {H₀:Hp} {E:XK}
  {pins:List (Addr×Obj)} {σ:St} {H:Hp} {s:Shared} (I:Inv (Zb (f7 P w) P w K mg base N qual scope f aq A outer s₀ H₀ E) pins σ H s) {h':Heap} {e C:Addr} {vs:List Value} (k:Heap.MadeExcOf s.heap h' e (.ref C) vs) (L:E (.ref C) none H) :
  (Zb (f7 P w) P w K mg base N qual scope f aq A outer s₀ H₀ E).xe (.ref e) { s with heap:=h' }:=by
 have p:(A.deeper (envOfC qual scope s₀.heap.objs.size f aq)).frames=some (envOfC qual scope s₀.heap.objs.size f aq :: outer):=I.ok.frames
 have stk:s.heap.FunFrames base (envOfC qual scope s₀.heap.objs.size f aq :: outer):=I.stack
 have free:∀ b∈dM (envOfC qual scope s₀.heap.objs.size f aq :: outer),H b=none:=I.stkFree
 have B:∀ env∈(envOfC qual scope s₀.heap.objs.size f aq :: outer),∀ b,env.frame=some b->b∈dM (envOfC qual scope s₀.heap.objs.size f aq :: outer):=λenv G b a=>nD.mpr ⟨env,G,a⟩
 have i:dM (envOfC qual scope s₀.heap.objs.size f aq :: outer)=s₀.heap.objs.size :: dM outer:=rfl
 have m:∀ b∈dM outer,∀ o,s₀.heap.get? b=some o->∀ vs,o.data≠.fields vs:=λb a o l vs hd=>by
  obtain ⟨_,o',r,F⟩:=I.ok.funs.mem a
  rw [show (Zb (f7 P w) P w K mg base N qual scope f aq A outer s₀ H₀ E).s₀=s₀ from rfl] at r
  rw [l] at r
  cases r
  exact F vs hd
 refine wpAny_leaves_madeW (base:=PySem.W.hideAll s.heap (dM (envOfC qual scope s₀.heap.objs.size f aq :: outer))) p rfl (λb o q=>PySem.W.of_hideAll _ q) (PySem.W.funFrames_hide stk B) k λh2 t v tup O up=>?_
 have stay:∀ b o,s.heap.get? b=some o->b∉dM (envOfC qual scope s₀.heap.objs.size f aq :: outer)->h2.get? b=some o:=λb o q a=>v.1 b o (Lm _ q a)
 have d:∀ b o,s₀.heap.get? b=some o->b∉dM outer->b∉dM (envOfC qual scope s₀.heap.objs.size f aq :: outer):=λb o q a g=>by
  rw [i] at g
  rcases aS.mp g with z | z
  .subst z
   exact absurd (El q) (mm _)
  .exact a z
 have noex:∀ b:Addr,b∉(Zb (f7 P w) P w K mg base N qual scope f aq A outer s₀ H₀ E).ex:=λb z=>absurd (show b∈([]:List Addr) from z) (by simp)
 have sl:∀ b∈dM outer,∀ o,s₀.heap.get? b=some o->∃ sl,h2.get? b=some { o with slots:=sl }:=λb a o l=>by
  obtain ⟨x,e1⟩:=I.base.slot b o l (I.ok.frf b a) a (noex b)
  obtain ⟨M,e2⟩:=up b _ (k.keeps b _ e1) λvs hd=>m b a o l vs hd
  exact ⟨M,e2⟩
 refine ⟨e,C,H,rfl,I.os,I.bare,⟨λb o q n a _=>?_,λb o q n a _=>sl b a o q,λb o q n _=>I.base.free b o q n (noex b),λb o q _=>?_,I.base.tups,I.base.frzs,I.base.tbls⟩,?_,⟨?_,?_,_,t,v,λb o q=>?_,λb o q a=>?_⟩,L⟩
 .exact stay b o (I.base.keep b o q n a (noex b)) (d b o q a)
 .by_cases a:b∈dM outer
  .obtain ⟨s1,e1⟩:=sl b a o q
   exact ⟨_,e1⟩
  .obtain ⟨j,e1⟩:=I.base.there b o q (noex b)
   exact ⟨j,stay b j e1 (d b o q a)⟩
 .intro b o q
  refine (I.hok b o q).stay (λc u J e1=>stay c u e1 λg=>?_) (λ_ z=>z) λ_ _ z=>z
  have:=free c g
  rcases J with z | z
  .subst z; rw [q] at this; cases this
  .rw [z] at this; cases this
 .cases z:H e with
  | none=>rfl
  | some o =>
   obtain ⟨u,h⟩:=JA (I.hok e o z)
   rw [k.new] at h
   cases h
 .cases z:s₀.heap.get? e with
  | none=>rfl
  | some o =>
   obtain ⟨u,h⟩:=I.base.there e o z (noex e)
   rw [k.new] at h
   cases h
 .obtain ⟨y,e1⟩:=JA (I.hok b o q)
  exact ⟨y,Lm _ e1 λg=>by have:=free b g; rw [q] at this; cases this⟩
 .obtain ⟨j,e1⟩:=I.base.there b o q (noex b)
  exact ⟨j,Lm _ e1 (d b o q a)⟩
def Dm {P:Ex} {w:ER} {K:Eh} {mg:Str->Option Value} {base:Heap} {N:List Str} {qual:Str} {scope:Scope} {f:Addr} {aq:Value} {A:Around} {outer:List Env} {s₀:Shared} {H₀:Hp} {E:XK}
  {x z:Str} {j:Nat} {np p2 a8 pos:Pos} {C:Addr} {bm:List Value} {B a n:String} (O:OwnCls x C bm a mg base) (h:ExcBaseFacts B a n bm) (hg:Gl (Zb (f7 P w) P w K mg base N qual scope f aq A outer s₀ H₀ E) x) (hd:(x==("__debug__":Str))=false:=by decide) :
  PS (Zb (f7 P w) P w K mg base N qual scope f aq A outer s₀ H₀ E) (.Raise (some (.Call (.Name x np) [.Constant (.str z) j p2] [] a8)) none pos) (λ_ _ H=>E (.ref C) none H):=by
 intro pins s σ H D' I t
 obtain ⟨tl,v,nm,q,bs,hdct,sn,sub,ab,col,dd,k0,k1,k2,k3,k5,mN,u,r,c,T⟩:=O.obj
 refine wpAny_Raise_call_subT (C:=C) (nm:=nm) (q:=q) (N:=v) (bs:=bs) (bm:=tl) (hdct:=hdct) (sn:=sn) (sub:=sub) (ab:=ab) (col:=col) (dd:=dd) (k0:=k0) (k1:=k1) (k2:=k2) (k3:=k3) (k5:=k5)
  h (mN:=mN) (T.hasType h.hasBase) (I.ok.hd rfl) rfl c (Yr I hg O.bound ⟨rfl,?_⟩ hd)
 have m:=xi (X:=Zb (f7 P w) P w K mg base N qual scope f aq A outer s₀ H₀ E) (Mq (x:=z) (j:=j) (pos:=p2)) vw
 refine Calls.evalArgs_plain (thn (m a8 pins s σ H (λvs H1=>vs=[V.str z]/\H1=H) I ⟨rfl,rfl⟩) λus s2 ⟨vs,H1,g,i,l,k⟩=>?_)
 subst k
 have d:∀ b o,base.get? b=some o->s2.heap.get? b=some o:=g.bk
 refine ⟨rfl,?_,d _ _ u,r.keeps d,T.keeps d,λh' e p=>Tj g p t⟩
 show us.length<=sizeLine
 rw [<- i.length,l]
 show 1<=sizeLine
 decide
def F6   {h h1 h2 B:Heap} (u:Un fs [] H H' h h1) (fr:∀ b∈fs,H b=none/\∀ o,h.get? b=some o->∀ vs,o.data≠.fields vs)
  (g:∀ b o,h.get? b=some o->b∉fs->∃ d,B.get? b=some d) (k1:B.StaysIn h1) (k2:B.StaysIn h2) (up:h1.UpToSlots h2):Un fs [] H H' h h2:=by
 have same:∀ b o o',h.get? b=some o'->b∉fs->h1.get? b=some o->h2.get? b=some o:=λb o o' q n e=>by
  obtain ⟨d,z⟩:=g b o' q n
  have:=k1 b d z
  rw [e] at this
  cases this
  exact k2 b _ z
 have c:∀ b o,h.get? b=some o->b∈fs->∃ sl,h2.get? b=some { o with slots:=sl }:=λb o q a=>by
  obtain ⟨n,nf⟩:=fr b a
  obtain ⟨s1,e1⟩:=u.slot b o q n a (by simp)
  obtain ⟨s2,e2⟩:=up b _ e1 λvs=>nf o q vs
  exact ⟨s2,e2⟩
 refine ⟨λb o q n a _=>same b o o q a (u.keep b o q n a (by simp)),λb o q _ a _=>c b o q a,λb o q n _=>u.free b o q n (by simp),λb o q _=>?_,u.tups,u.frzs,u.tbls⟩
 by_cases a:b∈fs
 .obtain ⟨sl,e⟩:=c b o q a
  exact ⟨_,e⟩
 .obtain ⟨o',e⟩:=u.there b o q (by simp)
  exact ⟨o',same b o' o q a e⟩
def Bm    {h1 h2 B:Heap} (k:dj P w H h1) (h:∀ b o,H b=some o->∃ a,B.get? b=some a) (k1:B.StaysIn h1) (k2:B.StaysIn h2):dj P w H h2:=λb o q=>by
 refine (k b o q).stay (λc u g e=>?_) (λ_ z=>z) λ_ _ z=>z
 have:∃ oc,H c=some oc:=by
  rcases g with z | z
  .subst z; exact ⟨_,q⟩
  .exact ⟨_,z⟩
 obtain ⟨oc,d⟩:=this
 obtain ⟨a,z⟩:=h c oc d
 have:=k1 c a z
 rw [e] at this
 cases this
 exact k2 c _ z
def zbl (a C:Addr) (h:Heap):Prop:=∃ o,h.get? a=some o/\o.cls=.ref C
def exO (a C:Addr):HO:=.ext (zbl a C)
def RT (u:Un fs [] H H' h h1) (k:h.get? a=none) (j:H' a=none):Un fs [] H (upd H' a o) h h1:=by
 have g:∀ b c,h.get? b=some c->b≠a:=λb c q z=>by subst z; rw [k] at q; cases q
 have d:∀ b c,H' b=some c->b≠a:=λb c q z=>by subst z; rw [j] at q; cases q
 refine ⟨u.keep,u.slot,λb c q n i=>by rw [z6 (g b c q)]; exact u.free b c q n i,u.there,λb xs q=>by rw [z6 (d b _ (u.tups b xs q))]; exact u.tups b xs q,
  λb c x q=>by rw [z6 (d b _ (u.frzs b c x q))]; exact u.frzs b c x q,λb ps q=>?_⟩
 obtain ⟨m,e⟩:=u.tbls b ps q
 exact ⟨m,by rw [z6 (d b _ e)]; exact e⟩
def PL (k:dj P w H h) (g:H a=none) (x:zbl a C h):dj P w (upd H a (exO a C)) h:=λb o q=>by
 by_cases z:b=a
 .subst z
  rw [zI] at q
  cases q
  obtain ⟨d,e,c⟩:=x
  exact ⟨⟨d,e,c⟩,⟨d,e⟩,λh1 h2 ⟨i,e1,j⟩ kk=>⟨i,kk _ e1,j⟩⟩
 .rw [z6 z] at q
  exact (k b o q).stay (λ_ _ _ e=>e) (λc e=>by rw [z6 (yq e g)]; exact e) λc xs e=>by rw [z6 (yq e g)]; exact e
abbrev mrk (X:Cx) (e:Value):Cx:={ X with A:=X.A.mark (some e),calm:=false }
section
variable {X:Cx} {pins:List (Addr×Obj)} {σ:St} {H:Hp} {s:Shared} {e:Value}
def Bg (I:Inv X pins σ H s):Inv (mrk X e) pins σ H s :=
 ⟨⟨I.ok.mod,I.ok.kind,I.ok.glob,I.ok.blt,I.ok.above,I.ok.inj,I.ok.has,I.ok.cab,(λz=>by cases z),I.ok.frames,I.ok.stk,I.ok.exf,I.ok.bs,I.ok.bsz,I.ok.noex,I.ok.exfs,I.ok.funs,I.ok.frf⟩,I.os,I.bare,I.base,I.loc,I.cell,I.free,I.freeC,I.pin,I.hok,I.len⟩
def Be (hd:X.calm=true->X.A.handled=none) (I:Inv (mrk X e) pins σ H s):Inv X pins σ H s :=
 ⟨⟨I.ok.mod,I.ok.kind,I.ok.glob,I.ok.blt,I.ok.above,I.ok.inj,I.ok.has,I.ok.cab,hd,I.ok.frames,I.ok.stk,I.ok.exf,I.ok.bs,I.ok.bsz,I.ok.noex,I.ok.exfs,I.ok.funs,I.ok.frf⟩,I.os,I.bare,I.base,I.loc,I.cell,I.free,I.freeC,I.pin,I.hok,I.len⟩
end
structure Catches (K:Eh) (D C:Addr):Prop where
 ty:PySem.W.typeIn K (.ref D)=some (.type "type")
 cls:PySem.W.hasDictIn K D=true
 exc:PySem.W.subIn K (.ref D) (.type "BaseException")=some true
 sub:PySem.W.subIn K (.ref C) (.ref D)=some true
def Fw {K:Eh} {D C a:Addr} (c:Catches K D C) (X:K.In s.heap) (x:zbl a C s.heap) (h:Q true s) :
  Ek M A (excMatches (.ref a) (.ref D)) Q E s:=by
 obtain ⟨hh,g,d,t,os⟩:=s
 obtain ⟨o,e,i⟩:=x
 have u:=PySem.W.looks_typeIn (M:=M) X c.ty
 have r:PySem.W.Looks M hh (isSubtype (.type "type") (.type "tuple")) false:=PySem.W.Looks.of_pure (by rw [Iv]; kernel_rfl)
 have p:=PySem.W.looks_subIn (M:=M) X c.exc
 have n:PySem.W.Looks M hh (typeOf (.ref a)) (.ref C):=i ▸ (PySem.W.Looks.ld e).andThen .now
 have m:=PySem.W.looks_subIn (M:=M) X c.sub
 have l:PySem.W.Looks M hh (isInstance (.ref D) (.type "tuple")) false:=u.andThen r
 have j:PySem.W.Looks M hh (isType (.ref D)) true:=by
  obtain ⟨v,z,_⟩:=PySem.W.any_some c.cls
  unfold PySem.W.clsIn at z
  split at z
  .rename_i b
   intro B w y s' k q
   unfold isType loadHead
   exact be (wpAny_loadPart (k _ _ (X _ _ b)) (mo q))
  .cases z
 unfold excMatches isExcClass
 refine be (l.at ?_)
 simp only [b5,if_false]
 refine be (mo ?_)
 simp only [List.forIn_cons,List.forIn_nil]
 refine be (be (be (be (j.at ?_))))
 rw [if_pos rfl]
 refine p.at ?_
 simp only [iz,b5,if_false]
 refine mo (mo (be (n.at ?_)))
 refine be (be (be (m.at ?_)))
 rw [if_pos rfl]
 refine mo (mo ?_)
 exact mo h
section
variable {X:Cx} {pins:List (Addr×Obj)} {σ:St} {H:Hp} {s:Shared}
end
def PTr (X:Cx) (body:List Stmt) (t:XK->TS):Prop :=
 ∀ (pins:List (Addr×Obj)) (s:Shared) (σ:St) (H:Hp) (D:Ends) (E:XK),Inv X pins σ H s->t E D σ H->Ek (EA X.prog X.w) X.A (execs body X.env) (SP X pins D) (λe s'=>∃ a s0,Inv X pins σ a s0/\f7 X.prog X.w X.stack a s0 E e s') s
def Dk {X:Cx} {k:Nat} {f:Addr} {fd:Iy} {ps:List Str} {sp:Sp} {x:Str} {p pos ep:Pos} {e:Expr} {es:List Expr} {t:TA} (F:FnOk X.prog X.w X.K X.mg X.base (f7 X.prog X.w) k f fd ps sp) (j:Room k X.A) (hg:Gl X x) (l:X.mg x=some (.ref f))
  (n:W.keepIn X.K (.ref f)=true) (w:Vo X.K fd ps []) (y:∀ E,PA (X.wish E) (e :: es) t) (i:II (.Call (.Name x p) (e :: es) [] pos) none ep.line X.env=pure false:=by rfl) (b:(x==("__debug__":Str))=false:=by decide)
  (o:Ei (e :: es) X.env=(false,eval e X.env) :: Ei es X.env:=by rfl) (A:(F_ pos (Ei es X.env)).any (·.1)=false:=by rfl) :
  PTr X [.Expr (.Call (.Name x p) (e :: es) [] pos) ep] (λE D σ H=>t σ H λvs H1=>sp vs H1 (λ_ H2=>D.nx σ H2) E):=by
 intro pins s σ H D E I h
 refine wpAny_execs_cons (wpAny_Expr_any ?_ I.quiet i)
 refine Iz (Yr I hg l ?_ b)
 refine PySem.W.callWith_K (h₀:=X.base) I.ok.mod.kin n (thn (y (λe s'=>∃ d s0,Inv X pins σ d s0/\f7 X.prog X.w X.stack d s0 E e s') pos pins s σ H _ (I.wish _) h) λus s1 ⟨vs,H1,c,r,q⟩=>⟨c.kIn,?_⟩) o A
 have J:=c.unwish
 have m:(us++([]:List Value)).length=ps.length:=by rw [bX,<- r.length]; exact F.len _ _ _ _ q
 refine wpAny_call (codeAny_mono (F.run X.A X.stack s1 H1 ⟨us,[]⟩ (us++[]) vs _ E j J.env0 (w s1 us J.kIn m) (by rw [bX]; exact r) q) λr s' a=>?_)
 cases r with
 | error e=>exact ⟨H1,s1,J,a⟩
 | ok z =>
  cases z with
  | ret u =>
   obtain ⟨v,H2,B,C,g⟩:=J.after a
   exact IT ⟨σ,H2,B,g⟩
  | next=>exact Ik a
  | brk=>exact Ik a
  | cont=>exact Ik a
end FL
namespace FL
open PySem PySem.Spec PySem.Calls PyProof.Rows L2
section
variable {prog:Ex} {w:ER} {A:Around} {E:Value->Shared->Prop} {s:Shared} {K:Eh} {a C:Addr}
end
end FL
namespace FL
open PySem PySem.Spec PyProof.Rows L2
inductive OutX where
 | o (x:Out)
 | ex (n:Str)
abbrev iF:=aX->Option OutX
def zbm (mg:Str->Option Value) (K:Eh) (H₀ aa Hf:Hp) (D':Ends) (E:XK):OutX->Prop
 | .o x=>RP K H₀ aa Hf D' x
 | .ex n=>∀ C aL aO H' ak,mg n=some (.ref C)->Rep K H₀ aa aL aO H' ak->yw Hf ak->E (.ref C) none H'
def zbm.mono  {K:Eh} (k:zbm mg K H₀ aa Hf D' E o) (t:yw Hf a):zbm mg K H₀ aa a D' E o:=by
 cases o with
 | o x=>exact RP.mono k t
 | ex n=>exact λC aL aO H' ak m R s=>k C aL aO H' ak m R (t.trans s)
inductive tX (mg:Str->Option Value) (K:Eh) (E:XK) (G:iF) (D':Ends) (σ:St) (H:Hp):Prop
 |mk (H₀ aa ρ Hf o) (a0:Rep K H₀ aa σ ρ H Hf) (a1:G ρ=some o) (a2:zbm mg K H₀ aa Hf D' E o)
def DX (X:Cx) (E:XK) (st:Stmt) (G:iF):Prop:=PS X st (tX X.mg X.K E G)
def om (X:Cx) (E:XK) (iJ:List Stmt) (G:iF):Prop:=f6 X iJ (tX X.mg X.K E G)
section
variable {X:Cx} {E:XK} {c tg iter:Expr} {fi:FA} {ft:FT} {pos:Pos} {st:Stmt} {iJ rest body:List Stmt} {F:FS} {G G1 G2 B:iF} {γ:FG}
def zcu (F:FS):iF:=λρ=>(F ρ).map OutX.o
def nxX:iF:=λρ=>some (.o (.nx ρ))
def P7:om X E [] nxX:=kS Hd λD' σ H ⟨H₀,aa,ρ,Hf,o,R,q,k⟩=>by cases q; exact k _ _ _ R zH
def sqX (F G:iF):iF:=λρ=>(F ρ).bind λo=>match o with
 | .o (.nx aO)=>G aO
 | o=>some o
def Fy (h1:DX X E st G1) (h2:om X E rest G2):om X E (st :: rest) (sqX G1 G2):=kS (ZG h1 h2) λD' σ H ⟨H₀,aa,ρ,Hf,o,R,q,k⟩=>by
 obtain ⟨a,e1,e2⟩:=ie.mp q
 refine ⟨H₀,aa,ρ,Hf,a,R,e1,?_⟩
 cases a with
 | ex n=>cases e2; exact k
 | o x =>
  cases x with
  | nx aO=>exact λaL H' ak R' s'=>⟨H₀,aa,aO,ak,o,R',e2,k.mono s'⟩
  | bk _=>cases e2; exact k
  | ct _=>cases e2; exact k
  | rt _=>cases e2; exact k
def P6 (h1:DX X E st G):om X E [st] G:=Wu h1
def ifX (c:FT) (F G:iF):iF:=λρ=>(c ρ).bind λb=>if b=true then F ρ else G ρ
def zc2 (g:DT X c ft) (i:om X E a G1) (h:om X E b G2):DX X E (.If c a b pos) (ifX ft G1 G2):=vc (SA g i h) λD' σ H ⟨H₀,aa,ρ,Hf,o,R,q,k⟩=>by
 obtain ⟨x,e1,e2⟩:=ie.mp q
 refine ⟨H₀,aa,ρ,Hf,x,R,e1,λH1 e f s1 d=>?_⟩
 cases x with
 | true=>exact MB ⟨H₀,aa,ρ,e,o,f,e2,k.mono d⟩
 | false=>exact MC ⟨H₀,aa,ρ,e,o,f,e2,k.mono d⟩
end
abbrev zbn:List Value:=[.type "ValueError",.type "Exception",.type "BaseException",.type "object"]
structure ExT (K:Eh) (mg:Str->Option Value) (x:Str) (C:Addr):Prop where
 at_:mg x=some (.ref C)
 ok:PySem.W.excIn K C zbn "ValueError.__new__"=true
set_option tactic.hygienic true in
open PySem.W in
def ExT.own {K:Frag} (e:ExT K mg x C) (X:K.In h):OwnCls x C zbn "ValueError.__new__" mg h:=by
 refine ⟨e.at_,?_⟩
 have q:=e.ok
 unfold excIn at q
 split at q
 .rename_i dd cd sl f
  split at q
  .rename_i i bm k0 k1 k2 k3 n k5 hm b
   simp only [dR,beq_iff_eq,Bool.not_eq_true'] at q
   obtain ⟨⟨⟨⟨⟨rfl,rfl⟩,c⟩,ht⟩,hok⟩,a⟩:=q
   obtain ⟨nm,bs,mro,ns,d,hd,sn,sub,ab,col,g⟩:=cd
   dsimp only at hm c hok a
   subst hm c
   obtain ⟨l⟩:=sl
   dsimp only at b
   subst b
   exact ⟨bm,ns,nm,d,bs,hd,sn,sub,ab,col,dd,k0,k1,k2,k3,k5,_,X _ _ f,.of_isNs (isNs_of_in X hok),nsMap_none_of_in X hok a,tail_of_in X ht⟩
  .cases q
 .cases q
def exX (n:Str):iF:=λ_=>some (.ex n)
def Fz   {K:Eh}
        (O:ExT K mg x C) (hg:Gl (Zb (f7 P w) P w K mg base N qual scope f aq A outer s₀ H₀ E) x) (hd:(x==("__debug__":Str))=false:=by decide) :
    DX (Zb (f7 P w) P w K mg base N qual scope f aq A outer s₀ H₀ E) E (.Raise (some (.Call (.Name x np) [.Constant (.str z) j p2] [] a8)) none pos) (exX x):=λpins s σ H D' I ⟨a,aa,ρ,Hf,o,R,q,k⟩=>by
  cases q
  exact Dm (O.own I.mod.kin) PySem.F.excBase_ValueError hg hd pins s σ H D' I (k C σ ρ H Hf O.at_ R zH)
inductive RX where
 | v (d:D)
 | ex (n:Str)
def oE (mg:Str->Option Value) (K:Eh) (n:Nat) (g:List D->Option RX):Sp:=λvs H Q E=>∃ Hf ds r,yw Hf H/\zR K Hf ds vs/\ds.length=n/\g ds=some r/\match r with
 | .v d=>∀ v H' ak,Grows H Hf H' ak->ae K ak d v->Q v H'
 | .ex x=>∀ C H' ak,mg x=some (.ref C)->Grows H Hf H' ak->E (.ref C) none H'
def zcl (o:Option OutX):Option RX:=match o with
 | some (.o (.rt d))=>some (.v d)
 | some (.o (.nx _))=>some (.v .non)
 | some (.ex n)=>some (.ex n)
 | _=>none
def sG (m:Nat) (G:iF):List D->Option RX:=λds=>zcl (G (jR m ds))
set_option tactic.hygienic true in
def PX   {K:Eh} {st:Stmt} (j:N.length=m) (i:ps.length=n) (l:Fun K x qual st f fd) (S:FnScope N ps (zl st))
  (body:∀ (aq:Value) (A:Around) (outer:List Env) (s:Shared) (H:Hp) (E:XK),Room k (A.deeper (envOfC qual (zl st) s.heap.objs.size f aq)) →
   om (Zb (f7 P w) P w K mg base N qual (zl st) f aq A outer s H E) E (xM st) G) :
  FnOk P w K mg base (f7 P w) (k+1) f fd ps (oE mg K n (sG m G)):=by
 subst j i
 obtain ⟨oc,od,kV,doc,pm,an,aq,ct,gy,rfl,lk,b⟩:=l.ex
 refine T5 lk b S (λvs H Q E h=>?_) (λA outer s H vs Q E g h=>?_)
 .obtain ⟨Hf,ds,d,_,h1,h2,_⟩:=h
  rw [h1.length]; exact h2
 .obtain ⟨Hf,ds,r,sf,h1,h2,a,q⟩:=h
  refine ⟨_,body aq A outer s H E g,?_⟩
  unfold sG zcl at a
  have R:=VF (N:=N) sf h1
  split at a
  .cases a
   rename_i d e
   exact ⟨H,Hf,_,Hf,_,R,e,λv aL aO H' ak R' _ c=>q v H' ak ⟨R'.s0,R'.f0,R'.sf,R'.nf⟩ c⟩
  .cases a
   rename_i aO e
   exact ⟨H,Hf,_,Hf,_,R,e,λaL H' ak R' _=>q _ H' ak ⟨R'.s0,R'.f0,R'.sf,R'.nf⟩ (EW.mpr rfl)⟩
  .cases a
   rename_i n e
   exact ⟨H,Hf,_,Hf,_,R,e,λC aL aO H' ak m R' _=>q C H' ak m ⟨R'.s0,R'.f0,R'.sf,R'.nf⟩⟩
  .cases a
structure HasFnX (P:Ex) (w:ER) (K:Eh) (mg:Str->Option Value) (base:Heap) (k:Nat) (x:Str) (n:Nat) (g:List D->Option RX):Prop where
 ex:∃ (f:Addr) (fd:Iy) (ps:List Str),FnOk P w K mg base (f7 P w) k f fd ps (oE mg K n g)/\mg x=some (.ref f)/\W.keepIn K (.ref f)=true/\Vo K fd ps []
section
variable {mg:Str->Option Value} {K:Eh} {n:Nat} {g:List D->Option RX} {vs:List V} {H Hf:Hp} {Q:VK} {E:XK} {ds:List D}
def zbx (sf:yw Hf H) (b:zR K Hf ds vs) (a:ds.length=n) (e:g ds=some (.v d)) (k:∀ v H' ak,Grows H Hf H' ak->ae K ak d v->Q v H'):oE mg K n g vs H Q E:=⟨Hf,ds,_,sf,b,a,e,k⟩
def Sa (sf:yw Hf H) (b:zR K Hf ds vs) (a:ds.length=n) (e:g ds=some (.ex x)) (k:∀ C H' ak,mg x=some (.ref C)->Grows H Hf H' ak->E (.ref C) none H'):oE mg K n g vs H Q E:=⟨Hf,ds,_,sf,b,a,e,k⟩
end
section
variable {X:Cx} {o e:Expr} {f g:FE} {kk:Nat}
end
section
variable {X:Cx} {o e:Expr} {f g:FE} {kk:Nat}
end
section
variable {prog:Ex} {w:ER} {A:Around} {E:Value->Shared->Prop} {s:Shared} {l:Addr} {xs:Array (Int×Tok)}
end
section
variable {X:Cx}
end
section
variable {X:Cx} {kk:Nat}
end
section
variable {X:Cx} {pins:List (Addr×Obj)} {σ:St} {H:Hp} {s:Shared} {A:Around}
end
theorem Yu:∀ {ds:List D} {r:List Int},vx ds=some r->ds=r.map D.int
 | [],r,h=>by cases h; rfl
 | d :: ds,r,h=>by
  cases d with
  | int b =>
   obtain ⟨a,e,rfl⟩:=iB.mp (show (vx ds).map (b :: ·)=some r from h)
   rw [Yu e]
   rfl
  | _=>cases h
section
variable {X:Cx} {e:Expr} {pos:Pos}
end
open PySem.AutoSeq1 (wpAny_loadPart')
def Ym (l) (items:Array Value) (n:Nat) (b:Addr) (a:Array Value) (f:Nat) (m:Array (Option Value)) (j:¬(!items.isEmpty&&EY (items.size+a.size))=true) (c:items.size<=sizeLine) (hs2:items.size+a.size<=sizeLine+1) :
  Meets (Builtin.«list.extend» ⟨[.ref l,.ref b],[]⟩) (λ_ R s=>s.heap.get? l=some { cls:=.type "list",dict:=none,data:=.seq items n,slots := #[] }/\s.heap.get? b=some { cls:=.type "list",dict:=none,data:=.seq a f,slots:=m }/\R (.ok (.ret E_)) { s with heap:=s.heap.update l (EV λx=>x++a),toks:=s.toks }) :=
 .of_wp λprog w A R s h=>by
  obtain ⟨o,g,d,tk,os⟩:=s; obtain ⟨e,k,h⟩:=h
  have f2:=AutoSeq1.sub_tuple_tuple
  have r:=AutoSeq1.sub_list_list
  have q:=AutoSeq1.sub_tuple_list
  have p:=AutoSeq1.sub_list_tuple
  have i:(items++a).size<=sizeLine+1:=by rw [Array.size_append]; exact hs2
  wp_walk using (wpAny_updateSeq e rfl (hz:=c) (_hz':=i)),EN e,EN k
  exact ⟨_,rfl,h⟩
section
variable {X:Cx} {e:Expr} {f g:FE} {pos:Pos}
def Dj (K:Eh):V->List V->Hp->VK->Prop:=λx vs H Q=>∃ l b xs zs,x=.ref l/\vs=[.ref b]/\H l=some (.lst xs)/\bG K H b zs/\xs.length+zs.length<=sizeLine/\Q .non (upd H l (.lst (xs++zs)))
def KS:MtM X "list.extend" (Dj X.K):=by
 intro pins s σ H x vs v us Q I m o h
 obtain ⟨l,b,xs,zs,rfl,rfl,i,y,hz,q⟩:=h
 cases m
 obtain ⟨u,rfl,p⟩:=o.one
 cases p
 obtain ⟨z,ah,n,r,E,e⟩:=I.lstM i
 obtain ⟨a,d,⟨t,w,e2,k,j,s2⟩,z2⟩:=I.list y
 have G:=d.length
 obtain ⟨C,c,data2,A⟩:=t
 dsimp only at k j s2
 subst k j s2
 have hsz:ah.toArray.size+a.toArray.size<=sizeLine:=by rw [cx,cx]; omega
 have B:¬ (!ah.toArray.isEmpty&&EY (ah.toArray.size+a.toArray.size))=true:=by
  rw [DF hsz,Bool.and_false]
  exact iR
 refine call_meets F.slot_list_extend ⟨_,e,rfl⟩ F.entry_list_extend (F.args_list_extend_2 _ _)
  (Ym l ah.toArray n b a.toArray w A B (by rw [cx]; omega) (by omega)) ⟨e,e2,?_⟩
 refine ⟨.non,_,I.lset (its':=ah++a) i e (by simp) (r.append d) ?_,rfl,q⟩
 rw [aW]
 omega
def uQ (i:Nat) (f:FE):FS:=λρ=>(f ρ).bind λd=>match d,ρ[i]? with
 | .lst zs,some (.ol ds)=>if ds.length+zs.length<=sizeLine then some (.nx (ρ.set i (.ol (ds++zs)))) else none
 | _,_=>none
@[simp] theorem qs {i:Nat} {ρ:aX}:uQ i f ρ=(f ρ).bind λd=>match d,ρ[i]? with
 | .lst zs,some (.ol ds)=>if ds.length+zs.length<=sizeLine then some (.nx (ρ.set i (.ol (ds++zs)))) else none
 | _,_=>none:=rfl
set_option tactic.hygienic true in
def uF (i) (C:DE X e f) (E:X.N[i]? = some x:=by rfl) (A:iE X.env.scope x:=by first | exact Im rfl | exact E2 (Im rfl) | exact E2 (E2 rfl))
  (hd:(x==("__debug__":Str))=false:=by decide) (m:(x==("__classdict__":Str))=false:=by decide)
  (j:LL (.Name x c) "extend" X.env (eval (.Name x c) X.env)=eval (.Name x c) X.env:=by rfl)
  (l:((F_ a8 (Ei [e] X.env)).all (λx => !x.1)&&(backToKw a8 (keywordEach [] X.env)).all (λx=>x.1.isSome)
   && decide (([e]:List Expr).length+([]:List LJ).length+(if ([]:List LJ).isEmpty then 0 else 1) < 30))=true:=by rfl)
  (h:(apos.endLine==a8.line)=true:=by rfl) (bq:Ei [e] X.env=(false,eval e X.env) :: Ei [] X.env:=by rfl) (F:(F_ a8 (Ei [] X.env)).any (·.1)=false:=by rfl)
  (B:II (.Call (.Attribute (.Name x c) "extend" apos) [e] [] a8) none pos.line X.env=pure false:=by rfl) :
  DS X (.Expr (.Call (.Attribute (.Name x c) "extend" apos) [e] [] a8) pos) (uQ i f) :=
 vc (He (NO PySem.F.plainAttrs_list PySem.F.slot_list_extend PySem.F.type_list_extend KS (j9 E A hd m) (xi C vw bq) j l h bq F) B) λD' σ H t=>by
  obtain ⟨H₀,aa,ρ,Hf,o,R,q,k⟩:=t
  obtain ⟨d,e1,e2⟩:=zO q
  split at e2
  .rename_i O zs ds n
   split at e2
   .rename_i hz
    cases e2
    obtain ⟨a,c,⟨xs,p2,M⟩,L,J⟩:=R.ow i _ n rfl
    refine ⟨_,c,.inl ⟨rfl,xs,bG.of p2⟩,H₀,aa,ρ,Hf,_,R,e1,λv H1 P p s1 w h1=>?_⟩
    obtain ⟨Q,r,⟨ys,y,r3⟩,I,G⟩:=p.ow i _ n rfl
    rw [c] at r; cases r
    obtain ⟨b,u,rfl,z,s⟩:=EJ.mp h1
    refine ⟨a,b,ys,u,rfl,rfl,y,p.sf.seq z,by rw [r3.length,s.length]; exact hz,?_⟩
    exact k _ _ _ (p.updOwn n rfl c rfl ⟨_,zI,r3.append s⟩) w
   .cases e2
  .cases e2
def sE (f g:FE):FA:=λρ=>(f ρ).bind λx=>(g ρ).bind λy=>match x,y with
 | .lst xs,.lst ys=>if xs.length+ys.length<=sizeLine then some (xs++ys) else none
 | _,_=>none
@[simp] theorem Sn {ρ:aX}:sE f g ρ=(f ρ).bind λx=>(g ρ).bind λy=>match x,y with
 | .lst xs,.lst ys=>if xs.length+ys.length<=sizeLine then some (xs++ys) else none
 | _,_=>none:=rfl
def Rf (t:DR X a f) (s:DR X b g):DN X (.BinOp a .Add b pos) (sE f g) :=
 yz (NL Ju t s) λσ H Q m=>by
  obtain ⟨H₀,aa,ρ,Hf,d,R,q,k⟩:=m
  obtain ⟨x,y,e1,e2,c⟩:=qZ q
  refine ⟨H₀,aa,ρ,Hf,x,R,e1,λv H1 w z s1 n h1=>⟨H₀,aa,ρ,w,y,z,e2,λA H2 a9 R2 s2 i h2=>?_⟩⟩
  have u:=h1.mono i
  split at c
  .split at c
   .rename_i hz
    cases c
    obtain ⟨a,xs,rfl,r,l⟩:=u.lst R2
    obtain ⟨b,ys,rfl,o,j⟩:=h2.lst R2
    refine ⟨a,b,xs,ys,rfl,rfl,r,o,by rw [l.length,j.length]; exact hz,λp h=>?_⟩
    exact k _ _ _ _ (R2.layN h) ((s1.trans s2).trans (zQ h)) (n.trans i) (l.append j) zI (R2.sf.free h) ((s1.trans s2).free h)
   .cases c
  .cases c
def Cg:wI X (.type "range") (λxs H Q=>∃ j,xs=[.int j]/\∀ p,H p=none->Q (.ref p) (upd H p (.rng 0 j))):=by
 intro pins s σ H xs us Q I r h
 obtain ⟨j,rfl,q⟩:=h
 obtain ⟨u,rfl,t,rfl⟩:=kH r
 refine call_range_1 ⟨.ref s.heap.objs.size,_,I.laid (t':=s.toks+1+1) (o:=.rng 0 j) (λb a q=>ls _ q) (aT _) ⟨_,_,_,Ej _ rfl⟩,rfl,q _ (I.hok.fresh (aT _))⟩
def Cf:wI X (.type "range") (λxs H Q=>∃ i j,xs=[.int i,.int j]/\∀ p,H p=none->Q (.ref p) (upd H p (.rng i j))):=by
 intro pins s σ H xs us Q I r h
 obtain ⟨i,j,rfl,q⟩:=h
 obtain ⟨u,a,rfl,⟨t,rfl⟩,⟨t',rfl⟩⟩:=CJ r
 refine call_range_2 ⟨.ref s.heap.objs.size,_,I.laid (t':=s.toks+1) (o:=.rng i j) (λb c q=>ls _ q) (aT _) ⟨_,_,_,Ej _ rfl⟩,rfl,q _ (I.hok.fresh (aT _))⟩
def XU {lo:Int}:∀ n ah,ah.length=n->(∀ (j:Nat) v,ah[j]? = some v->∃ t,v=.int (lo+(j:Int)) t)->yR ((aK n).map λ(k:Nat)=>V.int (lo+(k:Int))) ah:=by
 intro n
 induction n generalizing lo with
 | zero =>
  intro ah a _
  rw [g2x a]
  exact .nil
 | succ n b =>
  intro ah a h
  cases ah with
  | nil=>simp at a
  | cons v ah =>
   rw [n6,aC,bz]
   obtain ⟨t,rfl⟩:=h 0 v rfl
   refine .cons ⟨t,rfl⟩ ?_
   have:=b (lo:=lo+1) ah (by simpa using a) λj w e=>by
    obtain ⟨t,rfl⟩:=h (j+1) w (by simpa using e)
    exact ⟨t,by congr 1; omega⟩
   have e:((λk:Nat=>V.int (lo+(k:Int))) ∘ Nat.succ)=λk:Nat=>V.int (lo+1+(k:Int)):=by
    funext k
    simp only [Iq]
    congr 1
    omega
   rw [e]
   exact this
def ky (x:X.calm=true):wI X (.type "list") (λxs H Q=>∃ (p:Addr) (lo hi:Int),xs=[.ref p]/\H p=some (.rng lo hi)/\(-(2 ^ 62)<=lo/\lo < 2 ^ 62 /\ -(2 ^ 62)<=hi/\hi < 2 ^ 62)/\(hi - lo).toNat<=1000000 ∧
  ∀ l,H l=none->Q (.ref l) (upd H l (.lst ((aK (hi - lo).toNat).map λ(k:Nat)=>V.int (lo+(k:Int)))))):=by
 intro pins s σ H xs us Q I r h
 obtain ⟨p,lo,hi,rfl,m,⟨h1,h2,z,y⟩,E,q⟩:=h
 obtain ⟨u,rfl,c⟩:=kH r
 cases c
 obtain ⟨t,u,v,e⟩:=I.hok p _ m
 have F:sizeLine=16777216:=EK
 refine call_list_range (n:=(hi - lo).toNat) (I.ok.hd x) (show IsRange s.heap p lo hi 1 t u v from e) (small_one h1 h2 z y) (by rw [rangeSize_one]; split <;> omega) (by omega) λh' tk a C kp es B=>?_
 obtain ⟨i,d⟩:=B
 have b:yR ((aK (hi - lo).toNat).map λ(k:Nat)=>V.int (lo+(k:Int))) a.toList:=XU _ _ (by simpa using i) λj w A=>by
  obtain ⟨t,rfl⟩:=d j w (by simpa using A)
  exact ⟨t,by congr 1; omega⟩
 refine ⟨.ref s.heap.objs.size,_,I.laid (t':=tk) (o:=.lst _) kp (aT _) ⟨by rw [aD,iQ]; omega,a.toList,C,b,by simpa using es⟩,rfl,q _ (I.hok.fresh (aT _))⟩
def JT {K:Eh} (lo hi):zR K H (yy lo hi) ((aK (hi - lo).toNat).map λ(k:Nat)=>V.int (lo+(k:Int))):=by
 unfold yy
 induction (aK (hi - lo).toNat) with
 | nil=>exact .nil
 | cons k l a=>exact .cons (AC.mpr rfl) a
def jD:E4 "range"=some (.type "range"):=boot_range
noncomputable def Dc (fa:FA):FA:=λρ=>(fa ρ).bind λl=>match l with
 | [.int j]=>if -(2 ^ 62)<=j/\j<=1000000 then some (yy 0 j) else none
 | _=>none
noncomputable def VE (fa:FA):FA:=λρ=>(fa ρ).bind λl=>match l with
 | [.int i,.int j]=>if (-(2 ^ 62)<=i/\i < 2 ^ 62 /\ -(2 ^ 62)<=j/\j < 2 ^ 62)/\(j - i).toNat<=1000000 then some (yy i j) else none
 | _=>none
set_option tactic.hygienic true in
def Uo (y:X.calm=true) (hg:Gl X "list") (x:X.mg "list"=none) (s:Gl X "range") (t:X.mg "range"=none) (z:iG X [a] fa)
  (m:Ei [.Call (.Name "range" p2) [a] [] h] X.env=(false,eval (.Call (.Name "range" p2) [a] [] h) X.env) :: Ei [] X.env:=by rfl) (A:(F_ pos (Ei [] X.env)).any (·.1)=false:=by rfl)
  (c:Ei [a] X.env=(false,eval a X.env) :: Ei [] X.env:=by rfl) (u:(F_ h (Ei [] X.env)).any (·.1)=false:=by rfl) :
  DN X (.Call (.Name "list" p) [.Call (.Name "range" p2) [a] [] h] [] pos) (Dc fa) :=
 yz (vd (T:="list") (ky y) hg x (by rfl) (xi (vd (T:="range") Cg s t jD z (by decide) (by decide) c u) vw m) (by decide) (by decide) m A) λσ H Q n=>by
  obtain ⟨H₀,aa,ρ,Hf,d,R,q,k⟩:=n
  obtain ⟨l,e1,e2⟩:=yt q
  refine ⟨H₀,aa,ρ,Hf,l,R,e1,λvs H1 F B s1 r h1=>?_⟩
  split at e2
  .rename_i j
   split at e2
   .rename_i E
    cases e2
    obtain ⟨v,rfl,w⟩:=jI.one h1
    refine ⟨j,by rw [w.int],λp i=>?_⟩
    refine ⟨p,0,j,rfl,zI,⟨by omega,by omega,by omega,by omega⟩,by omega,λC b=>?_⟩
    have s2:yw H1 (upd H1 p (.rng 0 j)):=zQ i
    have R2:=B.layN (o:=.rng 0 j) i
    exact k _ _ _ _ (R2.layN b) ((s1.trans s2).trans (zQ b)) r (JT 0 j) zI (R2.sf.free b) ((s1.trans s2).free b)
   .cases e2
  .cases e2
set_option tactic.hygienic true in
def Um (C:X.calm=true) (hg:Gl X "list") (B:X.mg "list"=none) (w:Gl X "range") (x:X.mg "range"=none) (E:iG X [a,b] fa)
  (s:Ei [.Call (.Name "range" p2) [a,b] [] m] X.env=(false,eval (.Call (.Name "range" p2) [a,b] [] m) X.env) :: Ei [] X.env:=by rfl) (F:(F_ pos (Ei [] X.env)).any (·.1)=false:=by rfl)
  (h:Ei [a,b] X.env=(false,eval a X.env) :: Ei [b] X.env:=by rfl) (z:(F_ m (Ei [b] X.env)).any (·.1)=false:=by rfl) :
  DN X (.Call (.Name "list" p) [.Call (.Name "range" p2) [a,b] [] m] [] pos) (VE fa) :=
 yz (vd (T:="list") (ky C) hg B (by rfl) (xi (vd (T:="range") Cf w x jD E (by decide) (by decide) h z) vw s) (by decide) (by decide) s F) λσ H Q t=>by
  obtain ⟨H₀,aa,ρ,Hf,d,R,q,k⟩:=t
  obtain ⟨l,e1,e2⟩:=yt q
  refine ⟨H₀,aa,ρ,Hf,l,R,e1,λvs H1 L G s1 u h1=>?_⟩
  split at e2
  .rename_i i j
   split at e2
   .rename_i r
    cases e2
    obtain ⟨v,I,rfl,A,y⟩:=jI.two h1
    refine ⟨i,j,by rw [A.int,y.int],λp n=>?_⟩
    refine ⟨p,i,j,rfl,zI,r.1,r.2,λJ c=>?_⟩
    have s2:yw H1 (upd H1 p (.rng i j)):=zQ n
    have R2:=G.layN (o:=.rng i j) n
    exact k _ _ _ _ (R2.layN c) ((s1.trans s2).trans (zQ c)) u (JT i j) zI (R2.sf.free c) ((s1.trans s2).free c)
   .cases e2
  .cases e2
end
theorem Yv   : ∀ {ks:List Int} {ah:List Value},yR (ks.map V.int) ah->ItemsAre (IS P w) ks ah
 | [],_,h=>by cases h; exact .nil
 | k :: ks,_,h=>by
  cases h with
  | cons h1 h2 =>
   obtain ⟨t,rfl⟩:=h1
   exact .cons (by show IA k (.int k t)=true; simp [IA]) (Yv h2)
structure GDictT (K:Eh) (mg:Str->Option Value) (x:Str) (aJ:List (List Int×D)):Prop where
 ex:∃ (a:Addr) (o:Obj) (es:Array IK) (ep:Nat) (xs:List (List Int×Addr×Value)),mg x=some (.ref a)/\K.lookup a=some o/\o.ExactDict/\o.data=.dict es ep/\(a==ID)=false/\(∀ P w,es.toList=xs.map (entryOfKey (tupleKind (IS P w)))) ∧
  (∀ p∈xs,∃ (o:Obj) (ah:Array Value) (n:Nat),K.lookup p.2.1=some o/\o.cls=.type "tuple"/\o.data=.seq ah n/\yR (p.1.map V.int) ah.toList)/\(xs.map (·.1)).Nodup ∧
  ∀ ns,(∃ d u v,aJ.lookup ns=some d/\(atKey xs ns).map (·.2)=some u/\xv v u/\ae K (λ_=>none) d v)\/(aJ.lookup ns=none/\(atKey xs ns).map (·.2)=none)
def TZ (aJ:List (List Int×D)):D->D->Option D
 | .tup ds,d=>(vx ds).map λns=>(aJ.lookup ns).getD d
 | _,_=>none
section
variable {X:Cx} {e e2:Expr} {f g:FE} {kk:Nat}
def zah (hr:Room kk X.A) (hg:Gl X x) (hm:GDictT X.K X.mg x aJ) (he:DE X e f) (hf:DE X e2 g) (m:M2 X (.Name x p) "get" apos e e2 a8:=by exact ⟨rfl,rfl,rfl,rfl⟩) (hd:(x==("__debug__":Str))=false:=by decide) :
  DE X (.Call (.Attribute (.Name x p) "get" apos) [e,e2] [] a8) (ze (TZ aJ) f g):=by
 obtain ⟨a,o,es,ep,xs,h1,h2,B,h4,h5,h6,h7,h8,h9⟩:=hm.ex
 intro pins s σ H Q I h
 obtain ⟨H₀,aa,ρ,Hf,d,R,q,k⟩:=h
 obtain ⟨dx,dy,e1,e2,C⟩:=qZ q
 unfold TZ at C
 split at C
 .rename_i ds
  obtain ⟨ns,en,rfl⟩:=iB.mp C
  refine wpAny_Call_method m.base m.few m.line PySem.F.plainAttrs_dict PySem.F.slot_dict_get PySem.F.type_dict_get (thn (kW (v:=.ref a) hg h1 rfl hd pins s σ H (λx H1=>x=.ref a/\H1=H) I ⟨rfl,rfl⟩) λu0 s1 i=>?_)
  obtain ⟨x,H1,I1,rx,ex,eH⟩:=i
  subst ex eH
  cases rx
  have W:=I1.kIn a o h2
  refine ⟨⟨o,W,B.1⟩,λb q=>by cases q; exact ⟨o,W,B.2.1⟩,?_⟩
  rw [m.trees]
  refine Calls.callWith_builtin rfl (Calls.evalArgs_plain (Ls (thn (he pins s1 σ H1 (λy H2=>∃ a9,Rep X.K H₀ aa σ ρ H2 a9/\yw H1 H2/\yw Hf a9/\ae X.K a9 (.tup ds) y) I1 ⟨H₀,aa,ρ,Hf,_,R,e1,λv H1 P S s1 G h1=>⟨P,S,s1,G,h1⟩⟩) λiv s2 i=>?_)))
  obtain ⟨y,H2,I2,ry,a9,R2,Z,T,hy⟩:=i
  refine Ls (thn (hf pins s2 σ H2 (λz c=>∃ A,Rep X.K H₀ aa σ ρ c A/\yw H2 c/\yw a9 A/\ae X.K A dy z) I2 ⟨H₀,aa,ρ,a9,_,R2,e2,λv H1 P S s1 G h1=>⟨P,S,s1,G,h1⟩⟩) λfv U i=>Calls.spliced_nil ?_)
  obtain ⟨z,c,t,rz,A,E,Y,F,hz⟩:=i
  obtain ⟨b,vs,rfl,qb,lb⟩:=Es.mp (hy.mono F)
  have ev:=lb.intsV en
  subst ev
  cases ry
  have J:bT X.K c b (ns.map V.int):=by
   rcases qb with (w | ⟨o',w⟩) | w
   .exact .inl (.inl (E.sf _ _ w))
   .exact .inl (.inr ⟨o',E.sf _ _ w⟩)
   .exact .inr w
  obtain ⟨ah,rv,⟨ob,ho,hc,n,O⟩,_⟩:=t.tuple J
  have r:=t.kIn a o h2
  have key:(tupleKind (IS X.prog X.w)).is U.heap ns b:=⟨ob,ah.toArray,n,ho,hc,O,by simpa using Yv rv⟩
  have dict:U.heap.DictOfH (tupleKind (IS X.prog X.w)) a xs:=⟨o,es,ep,r,B,h4,h6 _ _,λp hp=>by
   obtain ⟨o',its',n',l,j,M,L⟩:=h7 p hp
   exact ⟨o',its',n',t.kIn _ _ l,j,M,Yv L⟩,h8⟩
  refine call_meetsIn PySem.F.slot_dict_get ⟨o,r,B.1⟩ PySem.F.entry_dict_get (PySem.F.args_dict_get_3 _ _ _) (meetsH_dict_get_default (tupleKind (IS X.prog X.w)) a b h5 fv) ⟨tupleKind_room_in1 (by have:=hr.un; omega),ns,xs,key,dict,?_⟩
  rcases h9 ns with ⟨d,u,v,l,j,M,L⟩ | ⟨l,j⟩
  .rw [j]
   rw [l] at k
   exact ⟨v,c,t.tok _,M,k _ _ _ E (Z.trans Y) (T.trans F) (L.mono j3)⟩
  .rw [j]
   rw [l] at k
   exact ⟨z,c,t.tok _,rz,k _ _ _ E (Z.trans Y) (T.trans F) hz⟩
 .cases C
end
section
variable {X:Cx}
def zcc (K:Eh):R2:=λx y H Q=>∃ a k xs,x=.ref a/\y=.int k/\bG K H a xs/\xs≠[] /\ -1000000<=k/\xs.length * k.toNat<=1000000/\∀ p,H p=none->Q (.ref p) (upd H p (.lst (aP k.toNat xs).flatten))
def NW:cA X (Iw .Mult) (zcc X.K):=by
 intro pins s σ H x y v u Q I z w h
 obtain ⟨a,k,xs,rfl,rfl,B,j,J,hz,q⟩:=h
 cases z
 obtain ⟨t,rfl⟩:=w
 obtain ⟨ah,r,p,E⟩:=I.list B
 have c:=r.length
 obtain ⟨⟨cls,dd,data,sl⟩,d,i,n,hd⟩:=p.isList
 simp only at i hd
 subst i hd
 have f:ah.toArray.isEmpty=false:=by
  cases ah with
  | nil=>cases r; exact absurd rfl j
  | cons _ _=>rfl
 have A:1<=xs.length:=by
  cases xs with
  | nil=>exact absurd rfl j
  | cons _ _=>simp
 have G:k.toNat<=xs.length * k.toNat:=Nat.le_mul_of_pos_left _ A
 have hsz:ah.toArray.size * k.toNat<=1000000:=by rw [cx,<- c]; exact hz
 have L:sizeLine=16777216:=EK
 have e:List.foldl (λm l=>m++l) #[] (aP (if ah.toArray.isEmpty=true then 0 else k.toNat) ah.toArray)=(aP k.toNat ah).flatten.toArray:=by
  rw [f,if_neg iR]
  have:=Ug ah k.toNat []
  rw [bw] at this
  exact this
 refine wpAny_binaryOp_repeat_ref (T:="list") (U:="int") (by decide) ⟨_,d,rfl⟩ (λs'=>typeIs_int s' k t) noFill_list_mul F.fills_int_mul F.slot_int_rmul repeat_list F.slot_int_index.lookup
  (call_meets F.slot_int_rmul (typeIs_int s k t) F.entry_int_rmul (F.args_int_rmul_2 _ _) (lm_int_rmul_list_any k t a ah.toArray n dd sl)
   ⟨d,rfl,⟨_,d,rfl⟩,call_meets F.slot_list_mul ⟨_,d,rfl⟩ F.entry_list_mul (F.args_list_mul_2 _ _) (lm_list_mul_any a ah.toArray n dd sl k t (by
    unfold Lr
    simp
    omega) (by omega) (by
    have g:ah.length * k.toNat<=1000000:=by rw [<- c]; exact hz
    unfold EY
    simp
    omega)) ⟨d,?_⟩⟩)
 rw [e]
 refine ⟨.ref s.heap.objs.size,_,I.laid (t':=s.toks) (o:=.lst (aP k.toNat xs).flatten) (λb C q=>ls _ q) (aT _) ?_,rfl,q _ (I.hok.fresh (aT _))⟩
 exact ⟨by rw [Po,Nat.mul_comm]; omega,_,_,r.rep k.toNat,Ej _ rfl⟩
def Zq (f g:FE):FA:=λρ=>(f ρ).bind λx=>(g ρ).bind λy=>match x,y with
 | .lst (d :: ds),.int k=>if -1000000<=k/\(ds.length+1) * k.toNat<=1000000 then some (aP k.toNat (d :: ds)).flatten else none
 | _,_=>none
@[simp] theorem Ma {f g:FE} {ρ:aX}:Zq f g ρ=(f ρ).bind λx=>(g ρ).bind λy=>match x,y with
 | .lst (d :: ds),.int k=>if -1000000<=k/\(ds.length+1) * k.toNat<=1000000 then some (aP k.toNat (d :: ds)).flatten else none
 | _,_=>none:=rfl
set_option tactic.hygienic true in
def wF (s:DR X a f) (r:DR X b g):DN X (.BinOp a .Mult b pos) (Zq f g) :=
 yz (NL NW s r) λσ H Q ⟨H₀,aa,ρ,Hf,d,R,q,k⟩=>by
  obtain ⟨x,y,e1,e2,c⟩:=qZ q
  refine ⟨H₀,aa,ρ,Hf,x,R,e1,λv H1 u w s1 n h1=>⟨H₀,aa,ρ,u,y,w,e2,λA H2 a9 R2 s2 l h2=>?_⟩⟩
  have t:=h1.mono l
  split at c
  .rename_i e ds j
   split at c
   .rename_i hz
    cases c
    obtain ⟨a,xs,rfl,o,m⟩:=t.lst R2
    have i:=m.length
    refine ⟨a,j,xs,rfl,h2.int,o,λz=>?_,hz.1,by rw [i]; exact hz.2,λp h=>?_⟩
    .rw [z] at i; simp at i
    .exact k _ _ _ _ (R2.layN h) ((s1.trans s2).trans (zQ h)) (n.trans l) (zR.rep m j.toNat) zI (R2.sf.free h) ((s1.trans s2).free h)
   .cases c
  .cases c
end
def K3 (ks:List Int):Int:=reduceHash (Ih (ks.map hashInt))
inductive GEntT (K:Eh):List (List Int×D)->List IK->List (List Int×Addr×Value)->Prop
 | nil:GEntT K [] [] []
 | cons {ks:List Int} {d:D} {aJ:List (List Int×D)} {h:Int} {ta:Addr} {od:Option Addr} {ah:Array Value} {n:Nat} {gy:Array (Option Value)} {v:V} {u:Value} {es:List IK} {xs:List (List Int×Addr×Value)}
   (hz:K3 ks=h) (lk:K.lookup ta=some ⟨.type "tuple",od,.seq ah n,gy⟩) (vals:yR (ks.map V.int) ah.toList) (rel:xv v u) (has:ae K (λ_=>none) d v) (rest:GEntT K aJ es xs):GEntT K ((ks,d) :: aJ) (⟨h,.ref ta,u⟩ :: es) ((ks,ta,u) :: xs)
def GEntT.keys {K:Eh} (g:GEntT K aJ es xs):xs.map (·.1)=aJ.map (·.1):=by
 induction g with
 | nil=>rfl
 | cons _ _ _ _ _ _ a=>simp [a]
def GEntT.ents {K:Eh} (g:GEntT K aJ es xs) (P) (w:ER):es=xs.map (entryOfKey (tupleKind (IS P w))):=by
 induction g with
 | nil=>rfl
 | cons hz _ _ _ _ _ a =>
  subst hz
  rw [aC,<- a]
  rfl
def GEntT.tups {K:Eh} (g:GEntT K aJ es xs):∀ p∈xs,∃ (o:Obj) (ah:Array Value) (n:Nat),K.lookup p.2.1=some o/\o.cls=.type "tuple"/\o.data=.seq ah n/\yR (p.1.map V.int) ah.toList:=by
 induction g with
 | nil=>intro p a; cases a
 | cons _ lk vals _ _ _ b =>
  intro p a
  rcases aS.mp a with rfl | a
  .exact ⟨_,_,_,lk,rfl,rfl,vals⟩
  .exact b p a
def GEntT.look {K:Eh} (g:GEntT K aJ es xs) (ns) :
  (∃ d u v,aJ.lookup ns=some d/\(atKey xs ns).map (·.2)=some u/\xv v u/\ae K (λ_=>none) d v)\/(aJ.lookup ns=none/\(atKey xs ns).map (·.2)=none):=by
 induction g with
 | nil=>exact .inr ⟨rfl,rfl⟩
 | @cons ks d aJ h ta od ah n gy v u es xs hz lk vals rel has rest a =>
  by_cases c:ks=ns
  .subst c
   refine .inl ⟨d,u,v,by simp [h_],?_,rel,has⟩
   simp [atKey]
  .have e1:((ks,d) :: aJ).lookup ns=aJ.lookup ns:=by
    rw [iA]
    have:(ns==ks)=false:=by simpa using λz=>c z.symm
    rw [this]
   have e2:atKey ((ks,ta,u) :: xs) ns=atKey xs ns:=by
    unfold atKey
    rw [g3r (by simpa using c)]
   rw [e1,e2]
   exact a
def Bt {K:Eh} (h1:mg x=some (.ref a)) (h2:K.lookup a=some ⟨.type "dict",none,.dict es ep,#[]⟩)
  (b:(a==ID)=false) (g:GEntT K aJ es.toList xs) (nd:(aJ.map (·.1)).Nodup):GDictT K mg x aJ :=
 ⟨a,_,es,ep,xs,h1,h2,⟨rfl,rfl,rfl⟩,rfl,b,λP w=>g.ents P w,g.tups,by rw [g.keys]; exact nd,g.look⟩
open PySem.AutoSeq1 (wpAny_loadPart')
open PySem.MeetsSeq PySem.MeetsSeq2 PySem.MeetsSeq3
def V4 (l b:Addr) (c a:Int) (i f:Tok) (items e:Array Value) (n m:Nat) (dd o:Option Addr) (sl p:Array (Option Value)) (q:c≠a) (e1:items[0]? = some (.int c i)) (e2:e[0]? = some (.int a f)) :
  Meets (Builtin.«list.__lt__» ⟨[.ref l,.ref b],[]⟩)
   (λA R s=>s.heap.get? l=some { cls:=.type "list",dict:=dd,data:=.seq items n,slots:=sl }/\s.heap.get? b=some { cls:=.type "list",dict:=o,data:=.seq e m,slots:=p } ∧
    R (.ok (.ret (.bool (decide (c < a))))) s):=by
 intro prog w A R s h
 obtain ⟨r,g,d,tk,os⟩:=s; obtain ⟨j,k,h⟩:=h
 have t:=AutoSeq1.sub_list_list
 wp_walk using EN j,EN k
 refine ⟨LM plain_eq_loop _,codeAny_builtin entry_eq_loop ?_⟩
 rw [Lk plain_eq_loop _]
 wp_walk using EN j,EN k
 rw [show items[(0:Int).toNat]? = some (.int c i) from e1,show e[(0:Int).toNat]? = some (.int a f) from e2]
 refine be (wpAny_eqBool_int ?_)
 rw [show (c==a)=false by simpa using q]
 wp_walk using EN j,EN k
 rw [show items[(0:Int).toNat]? = some (.int c i) from e1,show e[(0:Int).toNat]? = some (.int a f) from e2]
 refine be (wpAny_lt_int (mo ?_))
 exact h
abbrev HR:=(Int×List Int)×Str
def cV (r:HR):D:=.tup [.lst ((r.1.1 :: r.1.2).map D.int),.str r.2]
def RH (x:HR):List HR->List HR
 | []=>[x]
 | y :: l=>if y.1.1 < x.1.1 then y :: RH x l else x :: y :: l
def kJ:List HR->List HR
 | []=>[]
 | x :: l=>RH x (kJ l)
theorem Yz (x:HR):∀ l,(RH x l).Perm (x :: l)
 | []=>.refl _
 | y :: l=>by
  unfold RH
  split
  .exact ((Yz x l).cons y).trans (.swap x y l)
  .exact .refl _
theorem vE:∀ l,(kJ l).Perm l
 | []=>.refl _
 | x :: l=>(Yz x (kJ l)).trans ((vE l).cons x)
theorem Yy (x:HR):∀ {l:List HR},l.Pairwise (λa b=>a.1.1<=b.1.1)->(RH x l).Pairwise (λa b=>a.1.1<=b.1.1)
 | [],_=>List.pairwise_singleton _ _
 | y :: l,h=>by
  have h':=ic.mp h
  unfold RH
  split
  .rename_i c
   refine ic.mpr ⟨λz hz=>?_,Yy x h'.2⟩
   rcases aS.mp ((Yz x l).subset hz) with rfl | hz
   .omega
   .exact h'.1 z hz
  .rename_i c
   refine ic.mpr ⟨λz hz=>?_,h⟩
   rcases aS.mp hz with rfl | hz
   .omega
   .have:=h'.1 z hz
    omega
theorem qi:∀ l,(kJ l).Pairwise (λa b=>a.1.1<=b.1.1)
 | []=>.nil
 | x :: l=>Yy x (qi l)
theorem Cw:∀ {a b:List HR},a.Perm b->(a.map (·.1.1)).Nodup->a.Pairwise (λx y=>x.1.1<=y.1.1)->b.Pairwise (λx y=>x.1.1<=y.1.1)->a=b
 | [],b,h,_,_,_=>(List.nil_perm.mp h).symm
 | x :: a,[],h,_,_,_=>by have:=h.length_eq; simp at this
 | x :: a,y :: b,h,c,f,d=>by
  rw [ic] at f d
  rw [aC,nY] at c
  have e:x=y:=by
   have h1:x∈y :: b:=h.subset aV
   have h2:y∈x :: a:=h.symm.subset aV
   rcases aS.mp h1 with h1 | h1
   .exact h1
   .rcases aS.mp h2 with h2 | h2
    .exact h2.symm
    .have j:=f.1 y h2
     have i:=d.1 x h1
     have g:y.1.1=x.1.1:=by omega
     exact absurd (g ▸ A1 h2) c.1
  subst e
  rw [Cw h.cons_inv c.2 f.2 d.2]
def JP:KeyOrd where
 α:=Int
 blt:=λa b=>decide (a < b)
 irrefl:=λa=>by simp
 trans:=λa b c h h'=>by simp at *; omega
 negTrans:=λa b c h=>by simp at *; omega
 total:=λa b h h'=>by simp at *; omega
def eT (rs:List HR) (i:Nat):HR:=rs.getD i ((0,[]),"")
section
variable {X:Cx} {pins:List (Addr×Obj)} {σ:St} {H:Hp} {s:Shared} {A:Around}
theorem MF (I:Inv X pins σ H s):∀ {rs:List HR} {ys:List V} {us:List Value},zR X.K H (rs.map cV) ys->yR ys us →
  ∃ fs,PySem.W.KatTups s.heap us fs/\fs.length=rs.length/\∀ v∈fs,∃ b o,v=.ref b/\s.heap.get? b=some o/\o.cls=.type "list"
 | [],ys,us,h,r=>by
  rw [bg,zR.nil_iff] at h
  subst h
  cases r
  exact ⟨[],.nil,rfl,λv c=>nomatch c⟩
 | x :: rs,ys,us,h,r=>by
  obtain ⟨v,z,rfl,p,l⟩:=Eo.mp h
  cases r with
  | cons e r =>
   obtain ⟨fs,t,k,ht⟩:=MF I l r
   obtain ⟨a,xs,rfl,q,g⟩:=Es.mp p
   cases e
   obtain ⟨ah,d,⟨o,j,m,n,hd⟩,_⟩:=I.tuple q
   obtain ⟨w,y,rfl,f0,B⟩:=Eo.mp g
   cases d with
   | cons k0 d =>
    obtain ⟨b,bs,rfl,f,C⟩:=EJ.mp f0
    cases k0
    obtain ⟨its',E,⟨o',_,u,i,_⟩,_⟩:=I.list f
    refine ⟨.ref b :: fs,.cons j m hd (by simp) t,by simp [k],λv c=>?_⟩
    rcases aS.mp c with rfl | c
    .exact ⟨b,o',rfl,u,i⟩
    .exact ht v c
def zcz {K:Eh} {rs:List HR} {ys:List V} {us:List Value} (h:zR K H (rs.map cV) ys) (r:yR ys us) {i:Nat} (hi:i < us.length) :
  ae K H (cV (eT rs i)) (ys.getD i .non)/\xv (ys.getD i .non) (us.getD i .none):=by
 have f:=r.length
 have d:=h.length
 rw [aD] at d
 have e:(rs.map cV)[i]? = some (cV (eT rs i)):=by
  unfold eT
  rw [cK,bR,fg (by omega)]
  rfl
 obtain ⟨v,a,hh⟩:=h.get e
 have ev:ys.getD i .non=v:=by rw [bR,a]; rfl
 refine ⟨by rw [ev]; exact hh,?_⟩
 obtain ⟨u,b,c⟩:=r.get a
 rw [ev,bR,b]
 exact c
theorem MG {K:Eh} {rs:List HR} {ys:List V} {us:List Value} (h:zR K H (rs.map cV) ys) (r:yR ys us):∀ (l:List Nat),(∀ i∈l,i < us.length) →
  zR K H ((l.map λi=>eT rs i).map cV) (l.map λi=>ys.getD i .non)/\yR (l.map λi=>ys.getD i .non) (l.map λi=>us.getD i .none)
 | [],_=>⟨.nil,.nil⟩
 | i :: l,c=>by
  have a:=zcz h r (c i aV)
  have b:=MG h r l λj d=>c j (aZ _ d)
  exact ⟨.cons a.1 b.1,.cons a.2 b.2⟩
def Qs (rs:List HR):(aK rs.length).map (λi=>eT rs i)=rs:=by
 unfold eT
 apply AW
 .simp
 .intro i h1 h2
  simp [h2]
def CK {rs:List HR} {p:Array Nat} (hn:(rs.map (·.1.1)).Nodup) (b:Bs rs.length p) (u:Ks (O:=JP) (λi=>(eT rs i).1.1) p rs.length):kJ rs=p.toList.map λi=>eT rs i:=by
 have hp:p.toList.Perm (aK rs.length):=by simpa using Array.perm_iff_toList_perm.mp b.perm
 have h1:(p.toList.map λi=>eT rs i).Perm rs:=by
  have:=hp.map λi=>eT rs i
  rwa [Qs] at this
 refine Cw ((vE rs).trans h1.symm) (((vE rs).map _).nodup_iff.mpr hn) (qi rs) ?_
 rw [g4a]
 intro i j hi hj fw
 have hs:=b.size
 simp only [aD,H_] at hi hj
 have q:@decide (@LT.lt Int _ (KP (O:=JP) (λi=>(eT rs i).1.1) p j) (KP (O:=JP) (λi=>(eT rs i).1.1) p i)) (Int.decLt _ _)=false:=u i j (by omega) (by omega)
 unfold KP at q
 rw [Array.getElem?_eq_getElem hi,Array.getElem?_eq_getElem hj] at q
 simpa using q
def MM (l:List Int):dep (.lst (l.map D.int))<=1:=by
 unfold dep
 have:qg (l.map D.int)<=0:=jB λd hd=>by
  obtain ⟨x,_,rfl⟩:=bu.mp hd
  exact aT _
 omega
def PN (b:(rs.map (·.1.1)).Nodup) (hi:i < rs.length) (a:j < rs.length) (e:(eT rs i).1.1=(eT rs j).1.1):i=j:=by
 have d:i < (rs.map λr:HR=>r.1.1).length:=by simpa using hi
 have c:j < (rs.map λr:HR=>r.1.1).length:=by simpa using a
 refine (List.getElem_inj (h₀:=d) (h₁:=c) b).mp ?_
 unfold eT at e
 simpa [hi,a] using e
def zcv (I:Inv X pins σ H s) (hu:A.units+50 < IM) {Q:Bool->Shared->Prop} {x y:HR} (Ai:x.1.1=y.1.1->x=y) {vs k:List V} {us i:List Value} (h:zR X.K H [.lst ((x.1.1 :: x.1.2).map D.int),.str x.2] vs) (h':zR X.K H [.lst ((y.1.1 :: y.1.2).map D.int),.str y.2] k) (r:yR vs us) (e:yR k i)
  (v:Q (decide (x.1.1 < y.1.1)) s):PySem.W.KatLex X.prog X.w A true (decide (us.length < i.length)) Q (us.zip i) 0 s:=by
 obtain ⟨O,L,rfl,C,l⟩:=Eo.mp h
 obtain ⟨J,E,rfl,f0,f⟩:=Eo.mp h'
 obtain ⟨M,L,rfl,e1,l⟩:=Eo.mp l
 obtain ⟨G,E,rfl,f1,f⟩:=Eo.mp f
 rw [zR.nil_iff] at l f
 subst l f
 cases r with
 | cons q r =>
 cases r with
 | cons S r =>
 cases r
 cases e with
 | cons d e =>
 cases e with
 | cons g e =>
 cases e
 have d1:=MM (x.1.1 :: x.1.2)
 refine PySem.W.kat_cons (WX I (.lst ((x.1.1 :: x.1.2).map D.int)) A (.lst ((y.1.1 :: y.1.2).map D.int)) O J _ _ C f0 q d (by omega) _ _ _ _ ?_)
 by_cases c:x.1.1=y.1.1
 .have:=Ai c
  subst this
  rw [ui]
  refine PySem.W.kat_yes (PySem.W.kat_cons (WX I (.str x.2) A (.str x.2) M G _ _ e1 f1 S g (by show A.units+0 < IM; omega) _ _ _ _ ?_))
  rw [ui]
  refine PySem.W.kat_yes (PySem.W.kat_nil ?_)
  simpa using v
 .have ee:bx (.lst ((x.1.1 :: x.1.2).map D.int)) (.lst ((y.1.1 :: y.1.2).map D.int))=false:=by
   simp [bx,WW,c]
  rw [ee]
  refine PySem.W.kat_no ?_
  show Ek _ _ (oneLt' true _ _) _ _ _
  obtain ⟨a,xs,rfl,U,Z⟩:=EJ.mp C
  obtain ⟨b,ys,rfl,T,Y⟩:=EJ.mp f0
  cases q
  cases d
  obtain ⟨ia,p,⟨o,n,j,w,_,hd⟩,_⟩:=I.list U
  obtain ⟨ib,m,⟨o',n',dF,u,_,t⟩,_⟩:=I.list T
  obtain ⟨p0,pr,rfl,B,_⟩:=Eo.mp Z
  obtain ⟨p1,W,rfl,z,_⟩:=Eo.mp Y
  rw [AC] at B z
  subst B z
  cases p with
  | cons k0 p =>
  cases m with
  | cons k1 m =>
  obtain ⟨R,rfl⟩:=k0
  obtain ⟨P,rfl⟩:=k1
  obtain ⟨cl,dd,da,sl⟩:=o
  obtain ⟨cl',dd',da',fN⟩:=o'
  dsimp only at w u hd t
  subst w u hd t
  rw [oneLt'_eq]
  simp only [if_true]
  refine be (wpAny_cRoomFor (by omega) ?_)
  refine be (wpAny_callSpecialIfBound?_slot ⟨_,j,rfl⟩ F.slot_list_lt (call_meets F.slot_list_lt ⟨_,j,rfl⟩ F.entry_list_lt (F.args_list_lt_2 _ _) (V4 a b x.1.1 y.1.1 R P _ _ _ _ _ _ _ _ c (by simp) (by simp)) ⟨j,dF,?_⟩))
  exact EX v
def Uy (hr:Room kk X.A):wI X (.builtin "sorted") (λxs H Q=>∃ (p:Addr) (rs:List HR) (ys:List V),xs=[.ref p]/\bG X.K H p ys/\zR X.K H (rs.map cV) ys/\rs.length < 64/\(rs.map λr:HR=>r.1.1).Nodup ∧
  ∀ l (L:List Nat),H l=none->(∀ i∈L,i < ys.length)->kJ rs=L.map (λi=>eT rs i)->Q (.ref l) (upd H l (.lst (L.map λi=>ys.getD i .non)))):=by
 intro pins s σ H xs us Q I r h
 obtain ⟨p,rs,ys,rfl,d,hh,hn,F,q⟩:=h
 obtain ⟨u,rfl,M⟩:=kH r
 cases M
 obtain ⟨ah,c,Y,hz⟩:=I.list d
 have f:=c.length
 have Ar:=hh.length
 rw [aD] at Ar
 have hu:X.A.in1.in1.units+100 < IM:=by show X.A.units+1+1+100 < IM; have:=hr.un; omega
 refine CV (O:=JP) (key:=λi=>(eT rs i).1.1) (κ:=tuples' true) (vs:=ah) Y.isList (by omega) (λh2 h' hk=>?_) λg a1 a2=>?_
 .have k:Inv X pins σ H { s with heap:=h' }:=I.kept (t':=s.toks) hk
  refine ⟨λQ E d=>?_,λi j Q hi hj d=>?_⟩
  .obtain ⟨fs,t,hl,ht⟩:=MF k hh c
   refine PySem.W.kat_kind (T:=.type "list") t (by omega) (λv hv=>?_) (by rfl) d
   obtain ⟨b,o,rfl,m,C⟩:=ht v hv
   have:PySem.W.Looks (EA X.prog X.w) h' (typeOf (.ref b)) o.cls:=(PySem.W.Looks.ld m).andThen .now
   rw [C] at this
   exact this
  .obtain ⟨J,z⟩:=zcz hh c hi
   obtain ⟨G,w⟩:=zcz hh c hj
   obtain ⟨a,xs,e,U,la⟩:=Es.mp J
   obtain ⟨b,zs,e',S,lb⟩:=Es.mp G
   rw [e] at z
   rw [e'] at w
   have k1:ah.getD i .none=.ref a:=z
   have k2:ah.getD j .none=.ref b:=w
   obtain ⟨ia,R,⟨o,m,C,n,hd⟩,_⟩:=k.tuple U
   obtain ⟨ib,P,⟨o',dF,iu,n',Z⟩,_⟩:=k.tuple S
   rw [k1,k2]
   refine PySem.W.kat_lt m hd dF Z ?_
   have:=zcv (A:=X.A.in1.in1) k (by omega) (x:=eT rs i) (y:=eT rs j) (λe=>by rw [PN F (by omega) (by omega) e]) la lb R P (Q:=Q) d
   simpa using this
 .have B:∀ i∈g.toList,i < ah.length:=λi hi=>by
   have:i∈aK ah.length:=by simpa using (Array.perm_iff_toList_perm.mp a1.perm).mem_iff.mp hi
   simpa using this
  have b:=MG hh c g.toList B
  have el:ah.length=rs.length:=by omega
  rw [el] at a1 a2
  have hf:H (s.heap.objs.size+1)=none:=I.hok.fresh (mj _)
  have W:=q _ g.toList hf (by rw [f]; exact B) (CK F a1 a2)
  obtain ⟨e,he⟩:=sortedAll_at s.heap ah (pd (g.toList.map λi=>ah.getD i .none))
  exact ⟨.ref (s.heap.objs.size+1),_,I.laid (t':=s.toks) (λb o x=>sortedAll_old x) (mj _) (show vD X.prog X.w _ (sortedAll s.heap ah _) _ (.lst _) from ⟨by rw [aD,H_,a1.size]; omega,_,e,b.2,he⟩),rfl,W⟩
theorem TY {K:Eh} {rs:List HR} {ys:List V} (h:zR K H (rs.map cV) ys):∀ (l:List Nat),(∀ i∈l,i < ys.length)->zR K H ((l.map λi=>eT rs i).map cV) (l.map λi=>ys.getD i .non)
 | [],_=>.nil
 | i :: l,a=>by
  have hi:=a i aV
  have d:=h.length
  rw [aD] at d
  have e:(rs.map cV)[i]? = some (cV (eT rs i)):=by
   unfold eT
   rw [cK,bR,fg (by omega)]
   rfl
  obtain ⟨v,b,hh⟩:=h.get e
  have ev:ys.getD i .non=v:=by rw [bR,b]; rfl
  exact .cons (show ae K H (cV (eT rs i)) (ys.getD i .non) by rw [ev]; exact hh) (TY h l λj c=>a j (aZ _ c))
end
def zbd:D->Option HR
 | .tup [.lst (.int h :: ds),.str t]=>(vx ds).map λr=>((h,r),t)
 | _=>none
def QC:List D->Option (List HR)
 | []=>some []
 | d :: ds=>(zbd d).bind λx=>(QC ds).bind λr=>some (x :: r)
def Bl (h:zbd d=some x):d=cV x:=by
 unfold zbd at h
 split at h
 .obtain ⟨r,e,rfl⟩:=iB.mp h
  rw [Yu e]
  rfl
 .cases h
theorem XA:∀ {ds:List D} {rs:List HR},QC ds=some rs->ds=rs.map cV
 | [],r,h=>by cases h; rfl
 | d :: ds,r,h=>by
  obtain ⟨x,h1,h⟩:=ie.mp (show (zbd d).bind (λx=>(QC ds).bind λr=>some (x :: r))=some r from h)
  obtain ⟨a,h2,h⟩:=ie.mp h
  cases h
  rw [Bl h1,XA h2]
  rfl
theorem Ua:∀ rs:List HR,QC (rs.map cV)=some rs
 | []=>rfl
 | r :: rs=>by
  show ((vx (r.1.2.map D.int)).map λz=>((r.1.1,z),r.2)).bind (λx=>(QC (rs.map cV)).bind λr=>some (x :: r))=_
  rw [Ua rs,uC]
  rfl
def GQ (fa:FA):FA:=λρ=>(fa ρ).bind λl=>match l with
 | [.lst ds]=>(QC ds).bind λrs=>if rs.length < 64/\(rs.map λr:HR=>r.1.1).Nodup then some ((kJ rs).map cV) else none
 | _=>none
def C6 (h:fa ρ=some [.lst (rs.map cV)]) (h1:rs.length < 64) (h2:(rs.map λr:HR=>r.1.1).Nodup):GQ fa ρ=some ((kJ rs).map cV):=by
 unfold GQ
 rw [h]
 show (QC (rs.map cV)).bind _=_
 rw [Ua]
 exact if_pos ⟨h1,h2⟩
section
variable {X:Cx} {e:Expr} {pos:Pos} {kk:Nat}
def Gb (j:Room kk X.A) (hg:Gl X "sorted") (m:X.mg "sorted"=none) (o:iG X (e :: es) fa)
  (n:Ei (e :: es) X.env=(false,eval e X.env) :: Ei es X.env:=by rfl) (u:(F_ pos (Ei es X.env)).any (·.1)=false:=by rfl):DN X (.Call (.Name "sorted" p) (e :: es) [] pos) (GQ fa) :=
 yz (ka (id:="sorted") (Uy j) hg m YN o (by decide) (by decide) n u) λσ H Q ⟨H₀,aa,ρ,Hf,d,R,q,k⟩=>by
  obtain ⟨l,e1,e2⟩:=yt q
  refine ⟨H₀,aa,ρ,Hf,l,R,e1,λvs H1 w c s1 h h1=>?_⟩
  split at e2
  .rename_i ds
   obtain ⟨rs,t,f⟩:=ie.mp e2
   split at f
   .rename_i g
    cases f
    obtain ⟨v,rfl,i⟩:=jI.one h1
    obtain ⟨a,ys,rfl,q,l⟩:=i.lst c
    rw [XA t] at l
    refine ⟨a,rs,ys,rfl,q,l.mono c.sf,g.1,g.2,λp L b r s=>?_⟩
    rw [s] at k
    exact k _ _ _ _ (c.layN b) (s1.trans (zQ b)) h (TY l L r) zI (c.sf.free b) (s1.free b)
   .cases f
  .cases e2
end
section
variable {prog:Ex} {w:ER} {A:Around} {E:Value->Shared->Prop} {s:Shared}
end
section
variable {X:Cx} {e f:Expr} {pos:Pos} {kk:Nat}
def NV:cA X (G_ .IsNot) (λx y H Q=>∃ a b,x=.bl a/\y=.bl b/\Q (.bl (!decide (a=b))) H):=by
 intro pins s σ H x y v u Q I d c h
 obtain ⟨a,b,rfl,rfl,q⟩:=h
 cases d
 cases c
 show Ek _ _ (isSame (E3 a) (E3 b) >>= λr=>pure (E3 !r)) _ _ _
 have e:isSame (E3 a) (E3 b)=pure (E3 a==E3 b):=rfl
 rw [e]
 refine be (mo (mo (JY I q ?_)))
 cases a <;> cases b <;> rfl
def DH:D->D->Option D
 | .bl a,.bl b=>some (.bl (!decide (a=b)))
 | _,_=>none
@[simp] theorem Nh:DH (.bl a) (.bl b)=some (.bl (!decide (a=b))):=rfl
def Dz:eW X (λx y H Q=>∃ a b,x=.bl a/\y=.bl b/\Q (.bl (!decide (a=b))) H) DH:=by
 intro σ ρ H₀ aa H Hf x y dx i d Q R h g c k
 unfold DH at c
 split at c
 .cases c
  exact ⟨_,_,h.bl,g.bl,k _ _ _ R zH zH (Ew.mpr rfl)⟩
 .cases c
def BK (d:DR X a g) (c:DR X b h):DT X (.Compare a [.IsNot] [b] pos) (aU (ze DH g h)):=xO NV Dz d c (qv _)
end
instance KTy.dec:(n:Nat)->DecidableEq (KTy n)
 | 0=>inferInstanceAs (DecidableEq Int)
 | n+1=>have:=KTy.dec n; inferInstanceAs (DecidableEq (List (KTy n)))
def gd:(n:Nat)->Heap->KTy n->Value->Prop
 | 0,_,i,v=>∃ t,v=.int i t
 | n+1,h,l,v=>∃ (a:Addr) (o:Obj) (ah:Array Value) (m:Nat),v=.ref a/\h.get? a=some o/\o.cls=.type "tuple"/\o.data=.seq ah m/\Paired (gd n h) l ah.toList
theorem LQ  {F:α->β->Prop} (inj:∀ x y v,F x v->F y v->x=y):∀ {l m:List α} {vs:List β},Paired F l vs->Paired F m vs->l=m
 | _,_,_,.nil,.nil=>rfl
 | _,_,_,.cons r t,.cons a t'=>by rw [inj _ _ _ r a,LQ inj t t']
theorem Qz:∀ (n) {h:Heap} (x y:KTy n) (v:Value),gd n h x v->gd n h y v->x=y
 | 0,h,x,y,v,⟨t,e⟩,⟨t',b⟩=>by
  rw [e] at b
  injection b
 | n+1,h,x,y,v,⟨a,o,ah,m,e1,e2,j,f,d⟩,⟨k,o',its',g,f1,f2,i,f4,c⟩=>by
  subst e1
  cases f1
  rw [e2] at f2
  cases f2
  rw [f] at f4
  injection f4 with g1 g2
  subst g1
  exact LQ (Qz n) d c
theorem V9:∀ (n) {h h':Heap},(∀ b (o:Obj) ah m,h.get? b=some o->o.data=.seq ah m->h'.get? b=some o)->∀ (x:KTy n) (v),gd n h x v->gd n h' x v
 | 0,_,_,_,x,v,e=>e
 | n+1,h,h',k,x,v,⟨a,o,ah,m,e1,e2,f,c,d⟩=>⟨a,o,ah,m,e1,k a o ah m e2 c,f,c,La d (V9 n k)⟩
def kq:(n:Nat)->KTy n->Nat
 | 0,_=>1
 | n+1,l=>(dI (kq n) l).sum+1
def zcw       [Decidable c] {Q:α->Shared->Prop} (h:¬ c) (k:Ek M A y Q E s):Ek M A (if c then x else y) Q E s:=by rw [if_neg h]; exact k
def zd5       [Decidable c] {Q:α->Shared->Prop} (h:c) (k:Ek M A x Q E s):Ek M A (if c then x else y) Q E s:=by rw [if_pos h]; exact k
section
variable {prog:Ex} {w:ER} {A:Around} {E:Value->Shared->Prop} {s:Shared}
theorem Ub:∀ (n) {A:Around} {E:Value->Shared->Prop} {s:Shared} {k:KTy n} {v:Value} {Q:Int->Shared->Prop},A.units+n < IM->gd n s.heap k v->Q (Xc n k) { s with toks:=s.toks+kq n k }->Ek (EA prog w) A (pyHash v) Q E s
 | 0,A,E,s,k,v,Q,J,⟨t,e⟩,h=>by
  subst e
  exact (IS prog w).pyHash (show IA k (.int k t)=true from beq_self_eq_true (α:=Int) k) h
 | n+1,A,E,s,k,v,Q,J,⟨a,o,ah,m,e1,B,H,I,u⟩,h=>by
  subst e1
  have i:s.TypeIs (.ref a) "tuple":=⟨o,B,H⟩
  unfold pyHash
  (first | unfold pyHashByItsType | skip)
  (first | refine be (wpAny_cRoomFor_or (.inr (show A.units < IM by omega)) ?_) | skip)
  refine be (Ia i LD.lookup ?_)
  have G:¬ ((some (Value.builtin "tuple.__hash__")==some E_)=true):=λz=>by rw [beq_builtin_none] at z; cases z
  refine zcw G ?_
  refine be (Ia i LD.lookup ?_)
  refine be (wpAny_callSpecialIfBoundUnlessNone?_slot i LD (Eu LD i F.entry_tuple_hash ?_ (F.args_tuple_hash_1 _)))
  refine be (m:=Lq (.ref a)) (IZ B I (be ?_))
  rw [<- Array.forIn_toList]
  refine LP _ (λrest (b:Array Int) s'=>∃ c j:List (KTy n),k=c++j/\Paired (gd n s.heap) j rest/\b.toList=dI (Xc n) c/\s'={ s with toks:=s.toks+(dI (kq n) c).sum }) _ ?_ ?_ _ _ ⟨[],k,rfl,u,rfl,rfl⟩
  .rintro x rest b s' ⟨c,j,d,r,y,rfl⟩
   cases r with
   | @cons q _ p _ h1 L =>
    refine be (Ub n (by show A.units+1+n < IM; omega) h1 ?_)
    have fin:∃ f C:List (KTy n),k=f++C/\Paired (gd n s.heap) C rest/\(b.push (Xc n q)).toList=dI (Xc n) f/\({ s with toks:=s.toks+(dI (kq n) c).sum+kq n q }:Shared)={ s with toks:=s.toks+(dI (kq n) f).sum }:=⟨c++[q],p,by rw [d,dh,nF],L,by simp [y],by simp [Nat.add_assoc]⟩
    first
     | exact mo fin
     | exact be (mo (mo fin))
  .rintro b s' ⟨c,j,d,r,y,rfl⟩
   cases r
   have g:k=c:=d.trans (bX c)
   subst g
   show Ek _ _ (retInt (Ih b.toList)) _ _ _
   rw [y]
   refine wpAny_ret_mkInt ?_
   have hd:kq (n+1) k=(dI (kq n) k).sum+1:=rfl
   rw [hd,<- Nat.add_assoc] at h
   have hh:Xc (n+1) k=reduceHash (Ih (dI (Xc n) k)):=rfl
   rw [hh] at h
   generalize Ih (dI (Xc n) k)=z at h ⊢
   unfold reduceHash at h
   by_cases l:(decide (-(2:Int) ^ 63<=z)&&decide (z < 2 ^ 63))=true
   .rw [if_pos l] at h
    refine zd5 l ?_
    exact mo h
   .rw [if_neg l] at h
    refine zcw l ?_
    exact be (Io (mo h))
theorem BG:∀ (n) {A:Around} {E:Value->Shared->Prop} {s:Shared} {x y:KTy n} {u v:Value} {Q:Bool->Shared->Prop},A.units+n < IM->gd n s.heap x u->gd n s.heap y v->Q (decide (x=y)) s->Ek (EA prog w) A (eqBool u v) Q E s
 | 0,A,E,s,x,y,u,v,Q,hu,⟨t,e⟩,⟨t',e'⟩,h=>by
  subst e e'
  exact (IS prog w).eqBool (a:=x) (b:=y) (show IA x (.int x t)=true from beq_self_eq_true (α:=Int) x) (show IA y (.int y t')=true from beq_self_eq_true (α:=Int) y) h
 | n+1,A,E,s,x,y,u,v,Q,hu,X,W,h=>by
  have I:=X
  have H:=W
  obtain ⟨a,oa,xs,na,rfl,Y,T,R,O⟩:=X
  obtain ⟨b,ob,ys,nb,rfl,Z,S,P,M⟩:=W
  have tA:s.TypeIs (.ref a) "tuple":=⟨oa,Y,T⟩
  have tB:s.TypeIs (.ref b) "tuple":=⟨ob,Z,S⟩
  unfold eqBool
  (try with_reducible refine E8 ?_)
  by_cases G:(Ij a==Ij b)=true
  .refine zd5 G ?_
   have e:a=b:=by have:=eq_of_beq G; injection this
   subst e
   have:=Qz (n+1) x y _ I H
   subst this
   exact be (Io (mo (by simpa using h)))
  .refine zcw G ?_
   refine be (wpAny_richCompare_same_room (op:=.Eq) tA tB F.slot_tuple_eq (Eu F.slot_tuple_eq tA F.entry_tuple_eq ?_ (F.args_tuple_eq_2 _ _)) (by omega))
   refine be (m:=isInstance (.ref b) (.type "tuple")) (EZ tB isSubtype_tuple_tuple ?_)
   simp only [iz,b5,if_false]
   refine be (IZ Y R (be (IZ Z P (be ?_))))
   refine LP _ (λrest r s'=>r.1=none/\s'=s/\∃ z o i j,rest=List.zip i j/\Paired (gd n s.heap) z i/\Paired (gd n s.heap) o j/\decide (z=o)=decide (x=y)/\(i.length==j.length)=(xs.size==ys.size)) _ ?_ ?_ _ _ ⟨rfl,rfl,x,y,xs.toList,ys.toList,rfl,O,M,rfl,by simp⟩
   .rintro ⟨p,q⟩ rest r s' ⟨J,rfl,z,o,i,j,hz,U,C,B,hlen⟩
    cases U with
    | nil=>simp at hz
    | @cons k1 p' g f h1 l =>
     cases C with
     | nil=>simp at hz
     | @cons k2 q' d c h2 k =>
      rw [List.zip_cons_cons] at hz
      obtain ⟨z1,rfl⟩:=List.cons.inj hz
      cases z1
      refine be (BG n (x:=k1) (y:=k2) (by show A.units+1+n < IM; omega) h1 h2 ?_)
      by_cases L:k1=k2
      .subst L
       rw [decide_eq_true rfl]
       simp only [iz,b5,if_false]
       refine mo ⟨rfl,rfl,g,d,f,c,rfl,l,k,?_,by simpa using hlen⟩
       rw [<- B]
       by_cases Ai:g=d <;> simp [Ai]
      .rw [decide_eq_false L]
       simp only [Bool.not_false,if_true]
       have hf:decide (x=y)=false:=by rw [<- B]; simp [L]
       rw [hf] at h
       exact be (mo (mo (mo ⟨_,rfl,(λe=>nomatch e),EX h⟩)))
   .rintro ⟨r1,r2⟩ s' ⟨J,rfl,z,o,i,j,hz,U,C,B,hlen⟩
    dsimp only at J
    subst J
    refine mo ?_
    have oW:(xs.size==ys.size)=decide (x=y):=by
     rw [<- B,<- hlen]
     cases U with
     | nil=>cases C <;> simp
     | cons _ _ =>
      cases C with
      | nil=>simp
      | cons _ _=>simp at hz
    refine ⟨_,rfl,(λe=>nomatch e),?_⟩
    show Ek _ A (truthOfDropped (.bool (xs.size==ys.size))) Q E s'
    rw [oW]
    exact EX h
theorem Xu:∀ (n m) {A:Around} {E:Value->Shared->Prop} {s:Shared} {k:KTy n} {v:Value} {Q:Bool->Shared->Prop},n<=m->gd n s.heap k v->Q true s->Ek (EA prog w) A (eqIsQuiet m v) Q E s
 | 0,m,A,E,s,k,v,Q,_,⟨t,e⟩,h=>by
  subst e
  rw [eqIsQuiet_byValue m (v:=.int k t) rfl]
  exact mo h
 | n+1,0,A,E,s,k,v,Q,hm,_,_=>absurd hm (by omega)
 | n+1,m+1,A,E,s,k,v,Q,hm,⟨a,o,ah,z,e1,i,j,l,d⟩,h=>by
  subst e1
  have f:s.TypeIs (.ref a) "tuple":=⟨o,i,j⟩
  unfold eqIsQuiet
  refine be (Ia f F.slot_tuple_eq.lookup ?_)
  refine be (m:=isInstance (.ref a) (.type "tuple")) (EZ f isSubtype_tuple_tuple ?_)
  simp only [iz,b5,if_false]
  refine be (Ii i l (be ?_))
  show Ek _ _ (forIn ah _ _) _ _ _
  rw [<- Array.forIn_toList]
  refine LP _ (λrest r s'=>r.1=none/\s'=s/\∃ g,Paired (gd n s.heap) g rest) _ ?_ ?_ _ _ ⟨rfl,rfl,k,d⟩
  .rintro q rest r s' ⟨c,rfl,g,p⟩
   cases p with
   | @cons k1 _ b _ h1 u =>
    refine be (Xu n m (by omega) h1 ?_)
    simp only [iz,b5,if_false]
    exact mo ⟨rfl,rfl,b,u⟩
  .rintro ⟨y,x⟩ s' ⟨c,rfl,_⟩
   dsimp only at c
   subst c
   exact mo h
def Pt (n:Nat) (p:n+1<=8):HeapKind prog w (KTy (n+1)) where
 is:=λh k a=>gd (n+1) h k (.ref a)
 hash:=Xc (n+1)
 draws:=kq (n+1)
 room:=λA=>A.units+(n+1) < IM
 inj:=λf c=>Qz (n+1) _ _ _ f c
 keeps:=λ{h h' k a d o es ep} x l hd j=>V9 (n+1) (λb r ah m e z=>(j.2 b (λq=>by
  subst q
  rw [l] at e
  cases e
  rw [hd] at z
  cases z)).trans e) _ _ x
 pyHash:=λg i h=>Ub (n+1) g i h
 eqBool:=λg f c h=>BG (n+1) g f c h
 quiet:=λi h=>Xu (n+1) 8 p i h
end
def RN {κ:Type} (f:D->Option κ):List D->Option (List κ)
 | []=>some []
 | d :: ds=>(f d).bind λk=>(RN f ds).bind λks=>some (k :: ks)
def mr:(n:Nat)->D->Option (KTy n)
 | 0,.int i=>some i
 | n+1,.tup ds=>RN (mr n) ds
 | _,_=>none
theorem UO   {g:κ->D} (a:∀ d k,f d=some k->d=g k):∀ {ds:List D} {ks:List κ},RN f ds=some ks->ds=ks.map g
 | [],ks,h=>by cases h; rfl
 | d :: ds,ks,h=>by
  unfold RN at h
  obtain ⟨k,h1,h⟩:=ie.mp h
  obtain ⟨r,h2,h⟩:=ie.mp h
  cases h
  rw [UO a h2,a d k h1]
  rfl
theorem Vb:∀ (n) (d) (k:KTy n),mr n d=some k->d=gz n k
 | 0,d,k,h=>by cases d <;> cases h <;> rfl
 | n+1,d,k,h=>by
  cases d with
  | tup ds=>exact congrArg D.tup (UO (Vb n) h)
  | _=>cases h
theorem Cy   {g:κ->D} (a:∀ k,f (g k)=some k):∀ ks,RN f (ks.map g)=some ks
 | []=>rfl
 | k :: ks=>by
  rw [aC]
  unfold RN
  rw [a k,Cy a ks]
  rfl
theorem MU:∀ (n) (k:KTy n),mr n (gz n k)=some k
 | 0,_=>rfl
 | n+1,k=>Cy (MU n) k
section
variable {X:Cx} {e:Expr} {f g:FE} {pos:Pos} {kk:Nat}
theorem WL:∀ (n) {pins:List (Addr×Obj)} {σ:St} {H:Hp} {s:Shared} (I:Inv X pins σ H s) {k:KTy n} {v:V} {u:Value},ae X.K H (gz n k) v->xv v u->gd n s.heap k u
 | 0,pins,σ,H,s,I,k,v,u,h,r=>by
  have e:v=.int k:=AC.mp h
  subst e
  exact r
 | n+1,pins,σ,H,s,I,k,v,u,h,r=>by
  obtain ⟨a,xs,rfl,q,l⟩:=Es.mp h
  cases r
  obtain ⟨ah,b,⟨o,h1,h2,m,j⟩,_⟩:=I.tuple q
  refine ⟨a,o,ah.toArray,m,rfl,h1,h2,j,?_⟩
  have all:∀ (k:List (KTy n)) (xs:List V) (ah:List Value),zR X.K H (k.map (gz n)) xs->yR xs ah->Paired (gd n s.heap) k ah:=by
   intro k
   induction k with
   | nil =>
    intro xs ah l b
    rw [zR.nil_iff.mp l] at b
    cases b
    exact .nil
   | cons x k i =>
    intro xs ah l b
    obtain ⟨y,r,rfl,h1,h2⟩:=Eo.mp l
    cases b with
    | cons d c=>exact .cons (WL n I h1 d) (i _ _ h2 c)
  exact all k xs ah l b
def Kc (d:ZC n xs a h):vD X.prog X.w H h a (.ext (ZC n xs a)):=by
 refine ⟨d,?_,λh1 h2 b k=>?_⟩
 .obtain ⟨_,o,_,_,e,_⟩:=d
  exact ⟨o,e⟩
 .obtain ⟨z,o,es,ep,e,r⟩:=b
  exact ⟨z,o,es,ep,k o e,r⟩
def BS (d:n+1<=8) (I:Inv X pins σ H s) (e:H a=some (.ext (ZC (n+1) xs a))) (h:∀ x∈xs,ae X.K H (gz (n+1) x.1) (.ref x.2)):
  (a==ID)=false/\xs.length<=sizeLine/\Heap.DictOfH (Pt (prog:=X.prog) (w:=X.w) n d) s.heap a (xs.map λx=>(x.1,x.2,.bool true)):=by
 obtain ⟨⟨z,o,es,ep,h1,h2,l,k,j,i⟩,_⟩:=(show vD X.prog X.w H s.heap a (.ext (ZC (n+1) xs a)) from I.hok a _ e)
 refine ⟨z,i,o,es,ep,h1,h2,l,?_,λx c=>?_,?_⟩
 .rw [k,bz]
  rfl
 .obtain ⟨y,b,rfl⟩:=bu.mp c
  exact WL (n+1) I (h y b) rfl
 .rw [bz]
  exact j
theorem YT  [DecidableEq κ] (k:κ):∀ xs:List (κ×Addr),(atKey (xs.map λx=>(x.1,x.2,E3 true)) k).isSome=decide (k∈xs.map (·.1))
 | []=>by simp [atKey]
 | x :: xs=>by
  rw [aC,aC]
  by_cases c:x.1=k
  .simp [atKey,c]
  .have:atKey ((x.1,x.2,E3 true) :: xs.map λx=>(x.1,x.2,E3 true)) k=atKey (xs.map λx=>(x.1,x.2,E3 true)) k:=by
    unfold atKey
    rw [g3r (by simpa using c)]
   rw [this,YT k xs]
   simp [E7 c]
def R9 (n:Nat):TE:=λ_ H Q=>∀ p,H p=none->Q (.ref p) (upd H p (.ext (ZC n [] p)))
def Du (n):PE X (.Dict [] [] dpos) (R9 n):=λpins s σ H Q I h =>
 wpAny_Dict_empty ⟨.ref s.heap.objs.size,_,I.laid (a:=s.heap.objs.size) (o:=.ext (ZC n [] s.heap.objs.size)) (t':=s.toks) (λ_ _ q=>ls _ q) (aT _)
  (Kc ⟨beq_eq_false_iff_ne.mpr (E7 (cZ I.big)),_,#[],0,Ej _ rfl,⟨rfl,rfl,rfl⟩,rfl,rfl,List.nodup_nil,dJ _⟩),rfl,h _ (I.hok.fresh (aT _))⟩
def Kb (i n:Nat):FS:=λρ=>some (.nx (ρ.set i (.oX n [])))
@[simp] theorem Jm   : Kb i n ρ=some (.nx (ρ.set i (.oX n []))):=rfl
def Ka (i n) (s:X.N.Nodup) (hi:X.N[i]? = some x:=by rfl) (c:Loc X.env.scope x:=by first | exact Im rfl | exact E2 rfl) (m:II (.Dict [] [] dpos) (some (.Name x pos')) pos.line X.env=pure false:=by rfl)
  (r:X.fn x=true\/X.env.scope.names.lookup x=some .local:=by first | exact .inl rfl | exact .inr rfl | assumption):DS X (.Assign [.Name x pos'] (.Dict [] [] dpos) pos) (Kb i n) :=
 vc (VJ s hi c (Du n (dpos:=dpos)) m r) λD' σ H ⟨H₀,aa,ρ,Hf,o,R,q,k⟩=>by
  cases q
  intro p a
  refine k _ _ _ ((R.layN a).setOwn i rfl ⟨[],zI,rfl,λx c=>by cases c⟩ (R.sf.free a) (R.s0.free a) ?_) zH
  intro j sl z o d
  obtain ⟨b,l,p2,_⟩:=R.ow j sl z o
  rw [l] at d; cases d
  obtain ⟨t,h⟩:=p2.there o
  rw [h] at a; cases a
def zbq (K:Eh) (ty td:TE):TE:=λσ H Q=>ty σ H λy H1=>td σ H1 λx H2=>∃ (a b:Addr) (n:Nat) (xs:List (KTy (n+1)×Addr)) (k:KTy (n+1)),n<=3/\x=.ref a/\y=.ref b/\H2 a=some (.ext (ZC (n+1) xs a)) ∧
 (∀ x∈xs,ae K H2 (gz (n+1) x.1) (.ref x.2))/\ae K H2 (gz (n+1) k) (.ref b)/\Q (.bl (!decide (k∈xs.map (·.1)))) H2
def NR (B:X.A.units+6 < IM) (hi:PE X i ty) (q:PE X o td):PC X .NotIn i o (zbq X.K ty td):=by
 intro pins s σ H Q I h
 refine thn (hi pins s σ H _ I h) λp s1 ⟨y,H1,A,d,m⟩=>thn (q pins s1 σ H1 _ A m) λu s2 ⟨x,H2,c,j,a,b,n,xs,k,C,ex,v,e,r,t,l⟩=>?_
 subst ex v
 obtain rfl:u=Ij a:=j
 obtain rfl:p=Ij b:=d
 obtain ⟨z,hz,dd⟩:=BS (n:=n) (by omega) c e r
 refine wpAny_notIn_heap (knd:=Pt (prog:=X.prog) (w:=X.w) n (by omega)) (by show X.A.units+1+(n+1) < IM; omega) (WL (n+1) c t rfl) z dd ?_
 rw [YT]
 exact ⟨.bl (!decide (k∈xs.map (λx:KTy (n+1)×Addr=>x.1))),H2,c.tok _,rfl,l⟩
def Hz (i:Nat) (a:FE):FT:=λρ=>(a ρ).bind λd=>match ρ[i]? with
 | some (.oX (n+1) ks)=>if n<=3 then (mr (n+1) d).bind λk=>some (!decide (k∈ks)) else none
 | _=>none
@[simp] theorem Ni {i:Nat} {a:FE} {ρ:aX}:Hz i a ρ=(a ρ).bind λd=>match ρ[i]? with
 | some (.oX (n+1) ks)=>if n<=3 then (mr (n+1) d).bind λk=>some (!decide (k∈ks)) else none
 | _=>none:=rfl
def P9 (i) (u:Room kk X.A) (z:DE X e B) (A:X.N[i]? = some x:=by rfl) (s:iE X.env.scope x:=by first | exact Im rfl | exact E2 (Im rfl) | exact E2 (E2 rfl))
  (hd:(x==("__debug__":Str))=false:=by decide) (h:(x==("__classdict__":Str))=false:=by decide) (y:EU .NotIn (.Name x c)=false:=by rfl) :
  DT X (.Compare e [.NotIn] [.Name x c] pos) (Hz i B) :=
 VI (Mh (NR (by have:=u.un; omega) z (j9 A s hd h)) y) λσ H Q ⟨H₀,aa,ρ,Hf,b,R,q,k⟩=>by
  unfold Hz at q
  obtain ⟨d,e2,q⟩:=ie.mp q
  split at q
  .rename_i n ks m
   split at q
   .rename_i w
    obtain ⟨l,C,q⟩:=ie.mp q
    cases q
    obtain ⟨a,c,_⟩:=R.ow i _ m rfl
    refine ⟨H₀,aa,ρ,Hf,d,R,e2,λv H2 a9 R2 s2 o h2=>⟨_,c,?_⟩⟩
    obtain ⟨E,j,⟨xs,r,r3,p⟩,_⟩:=R2.ow i _ m rfl
    rw [c] at j; cases j
    rw [Vb (n+1) d l C] at h2
    obtain ⟨b,ys,rfl,_⟩:=Es.mp h2
    refine ⟨a,b,n,xs,l,w,rfl,rfl,r,λx t=>(p x t).mono R2.sf,h2.mono R2.sf,?_⟩
    rw [r3]
    exact ⟨_,rfl,k _ _ R2 s2 o⟩
   .cases q
  .cases q
def zb6 (K:Eh) (td ty tv:TE):TS:=λD' σ H=>tv σ H λv H1=>td σ H1 λx H2=>ty σ H2 λy c=>∃ (a b:Addr) (n:Nat) (xs:List (KTy (n+1)×Addr)) (k:KTy (n+1)),n<=3/\v=.bl true/\x=.ref a/\y=.ref b/\c a=some (.ext (ZC (n+1) xs a)) ∧
 (∀ x∈xs,ae K c (gz (n+1) x.1) (.ref x.2))/\ae K c (gz (n+1) k) (.ref b)/\xs.length < sizeLine/\D'.nx σ (upd c a (.ext (ZC (n+1) (if k∈xs.map (·.1) then xs else xs++[(k,b)]) a)))
def NC (W:X.A.units+6 < IM) (O:PE X o td) (hi:PE X i ty) (L:PE X value tv) (M:II value (some (.Subscript o i sp)) pos.line X.env=pure false) :
  PS X (.Assign [.Subscript o i sp] value pos) (zb6 X.K td ty tv):=by
 intro pins s σ H D I h
 refine wpAny_Assign_Subscript (thn (L pins s σ H _ I h) λr s1 ⟨v,H1,U,B,F⟩=>thn (O pins s1 σ H1 _ U F) λu s2 ⟨x,H2,T,A,E⟩=>thn (hi pins s2 σ H2 _ T E) λG s3 ⟨y,H3,m,t,a,b,n,xs,k,Y,ev,ex,S,e,P,Q,Z,C⟩=>?_) M
 subst ev ex S
 obtain rfl:u=Ij a:=A
 obtain rfl:G=Ij b:=t
 obtain rfl:r=E3 true:=B
 obtain ⟨z,hz,dd⟩:=BS (n:=n) (by omega) m e P
 refine wpAny_setItem_heap (knd:=Pt (prog:=X.prog) (w:=X.w) n (by omega)) (hsz:=by rw [aD]; exact hz) (by show X.A.units+1+(n+1) < IM; omega) (WL (n+1) m Q rfl) dd λh' l J=>⟨σ,_,?_,C⟩
 obtain ⟨q,es,ep,p,h2,R,j,_,d⟩:=l
 refine Rg m (by rw [e]; exact True.intro) J ⟨q,p⟩ (Kc ⟨z,q,es,ep,p,h2,R,?_⟩)
 unfold storedH at j d
 rw [YT] at j d
 by_cases c:k∈xs.map (·.1)
 .rw [decide_eq_true c,if_pos rfl] at j d
  rw [if_pos c]
  have e1:(xs.map λx=>(x.1,x.2,E3 true)).map (putAt k (E3 true))=xs.map λx=>(x.1,x.2,E3 true):=by
   rw [bz]
   apply fH
   intro x _
   simp only [Iq,putAt]
   split <;> rfl
  rw [e1,bz] at j d
  exact ⟨j,d,hz⟩
 .rw [decide_eq_false c,if_neg iR] at j d
  rw [if_neg c]
  rw [bK,bz] at j d
  refine ⟨?_,?_,?_⟩
  .rw [j,bK]
   rfl
  .rw [bK]
   exact d
  .rw [aW,di]
   omega
def Qh (i:Nat) (b a:FE):FS:=λρ=>(a ρ).bind λv=>(b ρ).bind λd=>match ρ[i]?,v with
 | some (.oX (n+1) ks),.bl true=>if n<=3/\ks.length < sizeLine then (mr (n+1) d).bind λk=>some (.nx (ρ.set i (.oX (n+1) (if k∈ks then ks else ks++[k])))) else none
 | _,_=>none
@[simp] theorem Ng {i:Nat} {b a:FE} {ρ:aX}:Qh i b a ρ=(a ρ).bind λv=>(b ρ).bind λd=>match ρ[i]?,v with
 | some (.oX (n+1) ks),.bl true=>if n<=3/\ks.length < sizeLine then (mr (n+1) d).bind λk=>some (.nx (ρ.set i (.oX (n+1) (if k∈ks then ks else ks++[k])))) else none
 | _,_=>none:=rfl
set_option tactic.hygienic true in
def BL (i) (B:Room kk X.A) (z:DE X value G) (E:DE X key I) (F:X.N[i]? = some x:=by rfl) (y:iE X.env.scope x:=by first | exact Im rfl | exact E2 (Im rfl) | exact E2 (E2 rfl))
  (hd:(x==("__debug__":Str))=false:=by decide) (m:(x==("__classdict__":Str))=false:=by decide)
  (A:II value (some (.Subscript (.Name x h) key sp)) pos.line X.env=pure false:=by rfl) :
  DS X (.Assign [.Subscript (.Name x h) key sp] value pos) (Qh i I G) :=
 vc (NC (by have:=B.un; omega) (j9 F y hd m) E z A) λD' σ H ⟨H₀,aa,ρ,Hf,o,R,q,k⟩=>by
  unfold Qh at q
  obtain ⟨v,e1,q⟩:=ie.mp q
  obtain ⟨d,e2,q⟩:=ie.mp q
  generalize p:ρ[i]? = sl at q
  split at q
  .rename_i n ks _
   split at q
   .rename_i C
    obtain ⟨l,J,q⟩:=ie.mp q
    cases q
    obtain ⟨a,h,_⟩:=R.ow i _ p rfl
    refine ⟨H₀,aa,ρ,Hf,_,R,e1,λP H1 L M s1 u h1=>⟨_,h,H₀,aa,ρ,L,d,M,e2,λO H2 a9 R2 s2 t h2=>?_⟩⟩
    obtain ⟨Q,r,⟨xs,w,r3,j⟩,_⟩:=R2.ow i _ p rfl
    rw [h] at r; cases r
    rw [Vb (n+1) d l J] at h2
    obtain ⟨b,ys,rfl,_⟩:=Es.mp h2
    have s:xs.length=ks.length:=by rw [<- r3,aD]
    refine ⟨a,b,n,xs,l,C.1,Ew.mp h1,rfl,rfl,w,λx c=>(j x c).mono R2.sf,h2.mono R2.sf,by omega,?_⟩
    refine k _ _ _ (R2.updOwn p rfl h rfl ⟨_,zI,?_,?_⟩) (u.trans t)
    .rw [r3]
     split
     .exact r3
     .rw [bK,r3]
      rfl
    .intro x c
     split at c
     .exact j x c
     .rcases cQ.mp c with c | c
      .exact j x c
      .have ex:x=(l,b):=by simpa using c
       subst ex
       exact h2
   .cases q
  .cases q
end
structure GDictS (w:ER) (K:Eh) (mg:Str->Option Value) (x:Str) (aJ:List (Str×D)):Prop where
 ex:∃ (a:Addr) (o:Obj) (es:Array IK) (ep:Nat) (vs:List (Str×Value)),mg x=some (.ref a)/\K.lookup a=some o/\o.ExactDict/\o.data=.dict es ep/\(a==ID)=false/\(∀ P,KeysOf (Ir P w) es/\Pairs (Ir P w) es.toList vs)/\(vs.map (·.1)).Nodup ∧
  ∀ k,(∃ d u v,aJ.lookup k=some d/\Lp vs k=some u/\xv v u/\ae K (λ_=>none) d v)\/(aJ.lookup k=none/\Lp vs k=none)
inductive GEntS (w:ER) (K:Eh):List IK->List (Str×D)->Prop
 | nil:GEntS w K [] []
 | cons {k:Str} {t:Tok} {hh:Int} {u:Value} {v:V} {d:D} {es:List IK} {aJ:List (Str×D)}:hashStr w k=hh->xv v u->ae K (λ_=>none) d v->GEntS w K es aJ->GEntS w K (⟨hh,.str k t,u⟩ :: es) ((k,d) :: aJ)
def qz (k) (t:Tok):Value.isStrOf k (.str k t)=true:=by simp [Value.isStrOf]
def GEntS.vals  {K:Eh}:∀ {es:List IK} {aJ:List (Str×D)},GEntS w K es aJ->∃ vs,(∀ P,(∀ e∈es,∃ k,(Ir P w).is k e.key=true/\e.hash=(Ir P w).hash k)/\Pairs (Ir P w) es vs)/\vs.map (·.1)=aJ.map (·.1) ∧
  ∀ k,(∃ d u v,aJ.lookup k=some d/\Lp vs k=some u/\xv v u/\ae K (λ_=>none) d v)\/(aJ.lookup k=none/\Lp vs k=none)
 | _,_,.nil=>⟨[],λP=>⟨λe he=>(by cases he),Pairs.nil⟩,rfl,λk=>.inr ⟨rfl,rfl⟩⟩
 | _,_,@GEntS.cons _ _ k t hh u v d es aJ i r h g=>by
  obtain ⟨vs,c,p2,f⟩:=g.vals
  have hi:=qz k t
  refine ⟨(k,u) :: vs,λP=>⟨λe he=>?_,Pairs.cons hi rfl (c P).2⟩,(by simp [p2]),λa=>?_⟩
  .rcases aS.mp he with rfl | he
   .exact ⟨k,hi,i.symm⟩
   .exact (c P).1 e he
  .rw [iA]
   by_cases b:a=k
   .subst b
    exact .inl ⟨d,u,v,by simp,by simp [Lp],r,h⟩
   .have e1:(a==k)=false:=by simpa using b
    have e2:Lp ((k,u) :: vs) a=Lp vs a:=by
     unfold Lp
     rw [g3r (by simpa using λz:k=a=>b z.symm)]
    rw [e1,e2]
    exact f a
def Bu  {K:Eh} (h1:mg x=some (.ref a)) (h2:K.lookup a=some ⟨.type "dict",none,.dict es.toArray ep,#[]⟩) (d:(a==ID)=false) (g:GEntS w K es aJ) (nd:(aJ.map (·.1)).Nodup):GDictS w K mg x aJ:=by
 obtain ⟨vs,b,p2,c⟩:=g.vals
 exact ⟨a,_,es.toArray,ep,vs,h1,h2,⟨rfl,rfl,rfl⟩,rfl,d,λP=>⟨λe he=>(b P).1 e (by simpa using he),(b P).2⟩,by rw [p2]; exact nd,c⟩
section
variable {X:Cx} {o e a b:Expr} {f g:FE} {pos:Pos} {kk:Nat}
def Pn (aJ:List (Str×D)):D->Option D
 | .str k=>aJ.lookup k
 | _=>none
@[simp] theorem Nk   : Pn aJ (.str k)=aJ.lookup k:=rfl
set_option tactic.hygienic true in
def FK (hg:Gl X x) (L:GDictS X.w X.K X.mg x aJ) (hi:DR X i f) (J:zdi i:=by intro _ _; rfl) (hd:(x==("__debug__":Str))=false:=by decide):DE X (.Subscript (.Name x p) i pos) (UL (Pn aJ) f):=by
 obtain ⟨a,o,es,ep,vs,h1,h2,m,P,G,l,O,M⟩:=L.ex
 intro pins s σ H Q I h
 obtain ⟨H₀,aa,ρ,Hf,d,R,q,k⟩:=h
 obtain ⟨y,e1,e2⟩:=zO q
 unfold Pn at e2
 split at e2
 .rename_i n
  rcases M n with ⟨d',u,v,c,F,E,C⟩ | ⟨c,_⟩
  .rw [c] at e2
   cases e2
   refine GL PySem.F.slot_dict_getitem.lookup J (thn (kW (v:=.ref a) hg h1 rfl hd pins s σ H (λx H1=>x=.ref a/\H1=H) I ⟨rfl,rfl⟩) λu0 s1 ⟨x,H1,Z,B,ex,T⟩=>?_)
   subst ex T
   cases B
   refine thn (hi pins s1 σ H1 (λy H2=>y=.str n/\∃ a9,Rep X.K H₀ aa σ ρ H2 a9/\yw H1 H2/\yw Hf a9) Z ⟨H₀,aa,ρ,Hf,_,R,e1,λv H1 W Y s1 z h1=>⟨h1.str,W,Y,s1,z⟩⟩) λiv s2 ⟨y,H2,r,A,S,a9,R2,U,w⟩=>?_
   subst S
   obtain ⟨t,rfl⟩:=A
   have j:=r.kIn a o h2
   have AJ:s2.heap.DictOf (Ir X.prog X.w) a vs:=⟨o,es,ep,j,m,P,(l _).1,(l _).2,O⟩
   refine ⟨⟨o,j,m.1⟩,wpAny_getItem_of (knd:=Ir X.prog X.w) (k:=n) (qz n t) AJ.mapOf F ⟨v,H2,r.tok _,E,?_⟩⟩
   exact k _ _ _ R2 U w (C.mono j3)
  .rw [c] at e2
   cases e2
 .cases e2
def zc0 (aJ:List (Str×D)) (f:FE):FT:=λρ=>(f ρ).bind λd=>match d with
 | .str k=>some (aJ.lookup k).isSome
 | _=>none
@[simp] theorem Jl {aJ:List (Str×D)} {ρ:aX}:zc0 aJ f ρ=(f ρ).bind λd=>match d with
 | .str k=>some (aJ.lookup k).isSome
 | _=>none:=rfl
def zbs (K:Eh) (w:ER) (mg:Str->Option Value) (x:Str) (aJ:List (Str×D)) (ty:TE):TE:=λσ H Q=>ty σ H λy H1=>∃ k,y=.str k/\Q (.bl (aJ.lookup k).isSome) H1
def NS (hg:Gl X x) (w:GDictS X.w X.K X.mg x aJ) (hi:PE X e ty) (hd:(x==("__debug__":Str))=false):PC X .In e (.Name x p) (zbs X.K X.w X.mg x aJ ty):=by
 obtain ⟨a,o,es,ep,vs,h1,h2,E,C,c,j,B,A⟩:=w.ex
 intro pins s σ H Q I h
 refine thn (hi pins s σ H _ I h) λO s1 ⟨y,H1,J,m,n,F,q⟩=>?_
 subst F
 obtain ⟨t,rfl⟩:=m
 refine thn (kW (v:=.ref a) hg h1 rfl hd pins s1 σ H1 (λx H2=>x=.ref a/\H2=H1) J ⟨rfl,rfl⟩) λM s2 ⟨x,H2,l,r,ex,G⟩=>?_
 subst ex G
 cases r
 have z:=l.kIn a o h2
 have L:s2.heap.DictOf (Ir X.prog X.w) a vs:=⟨o,es,ep,z,E,C,(j _).1,(j _).2,B⟩
 refine wpAny_in_of (knd:=Ir X.prog X.w) (k:=n) (qz n t) c L.mapOf ?_
 have e:(Lp vs n).isSome=(aJ.lookup n).isSome:=by
  rcases A n with ⟨d',u,v,i,d,_⟩ | ⟨i,d⟩ <;> rw [i,d] <;> rfl
 rw [e]
 exact ⟨.bl (aJ.lookup n).isSome,H2,l.tok _,rfl,q⟩
def Ra (hg:Gl X x) (h:GDictS X.w X.K X.mg x aJ) (hi:DE X e f) (hd:(x==("__debug__":Str))=false:=by decide) (i:EU .In (.Name x p)=false:=by rfl):DT X (.Compare e [.In] [.Name x p] pos) (zc0 aJ f) :=
 VI (Mh (NS hg h hi hd) i) λσ H Q ⟨H₀,aa,ρ,Hf,b,R,q,k⟩=>by
  unfold zc0 at q
  obtain ⟨d,e2,q⟩:=ie.mp q
  split at q
  .cases q
   exact ⟨H₀,aa,ρ,Hf,_,R,e2,λv H2 a9 R2 s2 c h2=>⟨_,ED.mp h2,_,rfl,k _ _ R2 s2 c⟩⟩
  .cases q
def rTB (φ:Str->Str->Bool):V->List V->Hp->VK->Prop:=λx vs H Q=>∃ z y,x=.str z/\vs=[.str y]/\Q (.bl (φ z y)) H
def HF:MtR X "str.startswith" (rTB Txt.startswith):=by
 intro pins s σ H x vs v us Q I c d h
 obtain ⟨z,y,rfl,rfl,q⟩:=h
 obtain ⟨t,rfl⟩:=c
 obtain ⟨u,rfl,t',rfl⟩:=kH d
 exact SC.startswith ⟨.bl _,H,I,rfl,q⟩
def tbD (φ:Str->Str->Bool):D->D->Option D
 | .str z,.str y=>some (.bl (φ z y))
 | _,_=>none
@[simp] theorem Nd   : tbD φ (.str z) (.str y)=some (.bl (φ z y)):=rfl
def Kf (n:DE X o f) (p:DE X e g)
  (h:LL o "startswith" X.env (eval o X.env)=eval o X.env:=by rfl)
  (i:((F_ a8 (Ei [e] X.env)).all (λx => !x.1)&&(backToKw a8 (keywordEach [] X.env)).all (λx=>x.1.isSome)
   && decide (([e]:List Expr).length+([]:List LJ).length+(if ([]:List LJ).isEmpty then 0 else 1) < 30))=true:=by rfl)
  (c:(apos.endLine==a8.line)=true:=by rfl) (bq:Ei [e] X.env=(false,eval e X.env) :: Ei [] X.env:=by rfl) (r:(F_ a8 (Ei [] X.env)).any (·.1)=false:=by rfl) :
  DE X (.Call (.Attribute o "startswith" apos) [e] [] a8) (ze (tbD Txt.startswith) f g) :=
 yz (NO PySem.F.plainAttrs_str PySem.F.slot_str_startswith PySem.F.type_str_startswith HF n (xi p vw bq) h i c bq r) λσ H Q ⟨H₀,aa,ρ,Hf,d,R,q,k⟩=>by
  obtain ⟨x,y,e1,e2,j⟩:=qZ q
  refine ⟨H₀,aa,ρ,Hf,x,R,e1,λv H1 s t s1 m h1=>?_⟩
  unfold tbD at j
  split at j
  .cases j
   cases ED.mp h1
   refine ⟨rfl,H₀,aa,ρ,s,_,t,e2,λu H2 a9 R2 s2 l h2=>?_⟩
   cases ED.mp h2
   exact ⟨_,_,rfl,rfl,k _ _ _ R2 (s1.trans s2) (m.trans l) (Ew.mpr rfl)⟩
  .cases j
def RO (i j c:Int) (p:Addr) (h:Heap):Prop:=∃ t u v,h.get? p=some { cls:=.type "range",data:=.fields #[.int i t,.int j u,.int c v] }
def Ce:wI X (.type "range") (λxs H Q=>∃ i j c,xs=[.int i,.int j,.int c]/\c≠0/\Builtin.divisionGoesByPylong (j - i) c=false/\∀ p,H p=none->Q (.ref p) (upd H p (.ext (RO i j c p)))):=by
 intro pins s σ H xs us Q I r h
 obtain ⟨i,j,c,rfl,n,m,q⟩:=h
 cases r with
 | cons l r =>
  cases r with
  | cons d r =>
   cases r with
   | cons r3 r =>
    cases r
    obtain ⟨z,rfl⟩:=l
    obtain ⟨y,rfl⟩:=d
    obtain ⟨x,rfl⟩:=r3
    refine call_range_3 n ⟨.ref s.heap.objs.size,_,I.laid (t':=s.toks) (o:=.ext (RO i j c s.heap.objs.size)) (λb A q=>ls _ q) (aT _) ?_,rfl,q _ (I.hok.fresh (aT _))⟩ (.inl m)
    refine ⟨⟨_,_,_,Ej _ rfl⟩,⟨_,Ej _ rfl⟩,λh1 h2 w k=>?_⟩
    obtain ⟨t,u,v,e⟩:=w
    exact ⟨t,u,v,k _ e⟩
def Xi (L:X.calm=true):wI X (.type "list") (λxs H Q=>∃ (p:Addr) (i j c:Int) (n:Nat),xs=[.ref p]/\H p=some (.ext (RO i j c p))/\Builtin.Range.small i j c=true/\EG i j c=(n:Int)/\n<=1000000 ∧
  ∀ l,H l=none->Q (.ref l) (upd H l (.lst ((aK n).map λ(k:Nat)=>V.int (i+(k:Int) * c))))):=by
 intro pins s σ H xs us Q I r h
 obtain ⟨p,i,j,c,n,rfl,J,y,hsz,R,q⟩:=h
 obtain ⟨u,rfl,C⟩:=kH r
 cases C
 obtain ⟨⟨t,u,v,e⟩,_⟩:=(show vD X.prog X.w H s.heap p (.ext (RO i j c p)) from I.hok p _ J)
 have S:sizeLine=16777216:=EK
 refine call_list_range (n:=n) (I.ok.hd L) (show IsRange s.heap p i j c t u v from e) y hsz (by omega) λh' tk z P kp es O=>?_
 obtain ⟨G,F⟩:=O
 have B:∀ (m:Nat) (ah:List Value) (lo:Nat),ah.length=m->(∀ (k:Nat) w,ah[k]? = some w->∃ t,w=.int (i+((lo+k:Nat):Int) * c) t)->yR ((aK m).map λ(k:Nat)=>V.int (i+((lo+k:Nat):Int) * c)) ah:=by
  intro m
  induction m with
  | zero =>
   intro ah lo d _
   rw [g2x d]
   exact .nil
  | succ m E =>
   intro ah lo d A
   cases ah with
   | nil=>simp at d
   | cons w ah =>
    rw [n6,aC,bz]
    obtain ⟨t,rfl⟩:=A 0 w rfl
    refine .cons ⟨t,rfl⟩ ?_
    have:=E ah (lo+1) (by simpa using d) λk w e=>by
     obtain ⟨t,rfl⟩:=A (k+1) w (by simpa using e)
     exact ⟨t,by rw [show lo+(k+1)=lo+1+k by omega]⟩
    have e:((λk:Nat=>V.int (i+((lo+k:Nat):Int) * c)) ∘ Nat.succ)=λk:Nat=>V.int (i+((lo+1+k:Nat):Int) * c):=by
     funext k
     simp only [Iq]
     rw [show lo+k.succ=lo+1+k by omega]
    rw [e]
    exact this
 have x:yR ((aK n).map λ(k:Nat)=>V.int (i+(k:Int) * c)) z.toList:=by
  have:=B n z.toList 0 (by simpa using G) λk w M=>by
   obtain ⟨t,rfl⟩:=F k w (by simpa using M)
   exact ⟨t,by rw [b_]⟩
  simpa only [b_] using this
 refine ⟨.ref s.heap.objs.size,_,I.laid (t':=tk) (o:=.lst _) kp (aT _) ⟨by rw [aD,iQ]; omega,z.toList,P,x,by simpa using es⟩,rfl,q _ (I.hok.fresh (aT _))⟩
def X2 (i c:Int) (n:Nat):List D:=(aK n).map λ(k:Nat)=>D.int (i+(k:Int) * c)
def Bo {K:Eh} (i c) (n:Nat):zR K H (X2 i c n) ((aK n).map λ(k:Nat)=>V.int (i+(k:Int) * c)):=by
 unfold X2
 induction (aK n) with
 | nil=>exact .nil
 | cons k l d=>exact .cons (AC.mpr rfl) d
def N6 (i j c:Int):Bool:=decide (c≠0) && !Builtin.divisionGoesByPylong (j - i) c&&Builtin.Range.small i j c&&decide (0<=EG i j c)&&decide (EG i j c<=1000000)
def Ss (fa:FA):FA:=λρ=>(fa ρ).bind λl=>match l with
 | [.int i,.int j,.int c]=>if N6 i j c=true then some (X2 i c (EG i j c).toNat) else none
 | _=>none
@[simp] theorem G3 {fa:FA} {ρ:aX}:Ss fa ρ=(fa ρ).bind λl=>match l with
 | [.int i,.int j,.int c]=>if N6 i j c=true then some (X2 i c (EG i j c).toNat) else none
 | _=>none:=rfl
def jI.three {K:Eh} {a b c:D} (h:jI K Hf σ ρ [a,b,c] vs):∃ x y z,vs=[x,y,z]/\jJ K Hf σ ρ a x/\jJ K Hf σ ρ b y/\jJ K Hf σ ρ c z:=by
 cases h with
 | cons h1 h =>
  cases h with
  | cons h2 h =>
   cases h with
   | cons d h =>
    cases h
    exact ⟨_,_,_,rfl,h1,h2,d⟩
set_option tactic.hygienic true in
def Ul (F:X.calm=true) (hg:Gl X "list") (E:X.mg "list"=none) (v:Gl X "range") (w:X.mg "range"=none) (G:iG X [a,b,c] fa)
  (s:Ei [.Call (.Name "range" p2) [a,b,c] [] n] X.env=(false,eval (.Call (.Name "range" p2) [a,b,c] [] n) X.env) :: Ei [] X.env:=by rfl) (I:(F_ pos (Ei [] X.env)).any (·.1)=false:=by rfl)
  (m:Ei [a,b,c] X.env=(false,eval a X.env) :: Ei [b,c] X.env:=by rfl) (A:(F_ n (Ei [b,c] X.env)).any (·.1)=false:=by rfl) :
  DN X (.Call (.Name "list" p) [.Call (.Name "range" p2) [a,b,c] [] n] [] pos) (Ss fa) :=
 yz (vd (T:="list") (Xi F) hg E (by rfl) (xi (vd (T:="range") Ce v w jD G (by decide) (by decide) m A) vw s) (by decide) (by decide) s I) λσ H Q t=>by
  obtain ⟨H₀,aa,ρ,Hf,d,R,q,k⟩:=t
  obtain ⟨l,e1,e2⟩:=yt q
  refine ⟨H₀,aa,ρ,Hf,l,R,e1,λvs H1 O J s1 u h1=>?_⟩
  split at e2
  .rename_i i j c
   split at e2
   .rename_i hok
    cases e2
    unfold N6 at hok
    simp only [dR,decide_eq_true_eq,Bool.not_eq_true'] at hok
    obtain ⟨⟨⟨⟨k1,k2⟩,k3⟩,M⟩,k5⟩:=hok
    obtain ⟨x,y,z,rfl,C,B,hz⟩:=jI.three h1
    refine ⟨i,j,c,by rw [C.int,B.int,hz.int],k1,k2,λp r=>?_⟩
    refine ⟨p,i,j,c,(EG i j c).toNat,rfl,zI,k3,by omega,by omega,λL h=>?_⟩
    have s2:yw H1 (upd H1 p (.ext (RO i j c p))):=zQ r
    have R2:=J.layN (o:=.ext (RO i j c p)) r
    exact k _ _ _ _ (R2.layN h) ((s1.trans s2).trans (zQ h)) u (Bo i c _) zI (R2.sf.free h) ((s1.trans s2).free h)
   .cases e2
  .cases e2
end
section
variable {X:Cx} {pos:Pos} {kk:Nat}
end
section
variable {X:Cx} {e:Expr} {f:FE} {pos:Pos} {kk:Nat}
def ipM:TIp:=λx y H Q=>∃ i j,x=.int i/\y=.int j/\QY i j/\Q (.int (i * j)) H
def PF:PIp X .Mult ipM:=by
 intro pins s σ H x y v u Q I b a h
 obtain ⟨i,j,e1,e2,c,q⟩:=h
 subst e1; subst e2
 obtain ⟨t,rfl⟩:=b
 obtain ⟨t',rfl⟩:=a
 exact imul_int ⟨.int _,H,I.tok _,⟨_,rfl⟩,q⟩ c.ok
def Ru (i:Nat) (f:FE):FS:=λρ=>(f ρ).bind λy=>match ρ[i]?,y with
 | some (.fr (.int m)),.int k=>if QY m k then some (.nx (ρ.set i (.fr (.int (m * k))))) else none
 | _,_=>none
set_option tactic.hygienic true in
def Rb (i) (j:X.N.Nodup) (g:DE X e f) (hi:X.N[i]? = some x:=by rfl) (c:Loc X.env.scope x:=by first | exact Im rfl | exact E2 rfl)
  (d:X.fn x=true\/X.env.scope.names.lookup x=some .local:=by first | exact .inl rfl | exact .inr rfl | assumption):DS X (.AugAssign (.Name x pos') .Mult e pos) (Ru i f) :=
 vc (Mj j hi c g PF d) λD' σ H ⟨H₀,aa,ρ,Hf,o,R,q,k⟩=>by
  obtain ⟨y,e1,e2⟩:=zO q
  split at e2
  .split at e2
   .rename_i h
    cases e2
    rename_i m kk l
    obtain ⟨v,b,p2⟩:=R.fr i _ l
    have pv:=AC.mp p2
    subst pv
    refine ⟨.int m,b,H₀,aa,ρ,Hf,.int kk,R,e1,λv H1 p n s1 a h1=>?_⟩
    exact ⟨m,kk,rfl,AC.mp h1,h,k _ _ _ (n.set i (AC.mpr rfl)) a⟩
   .cases e2
  .cases e2
@[simp] theorem Np {i:Nat} {ρ:aX}:Ru i f ρ=(f ρ).bind λy=>match ρ[i]?,y with
 | some (.fr (.int m)),.int k=>if QY m k then some (.nx (ρ.set i (.fr (.int (m * k))))) else none
 | _,_=>none:=rfl
def P8 (h:iV X iJ F):om X E iJ (zcu F):=kS h λD' σ H ⟨H₀,aa,ρ,Hf,o,R,q,k⟩=>by
 obtain ⟨o',e,rfl⟩:=iB.mp q
 exact ⟨H₀,aa,ρ,Hf,o',R,e,k⟩
end
mutual
def gP:D->D->Option Bool
 | .int i,.int j=>some (decide (j<=i))
 | .tup xs,.tup ys=>Gp xs ys
 | _,_=>none
def Gp:List D->List D->Option Bool
 | [],[]=>some true
 | _ :: _,[]=>some true
 | [],_ :: _=>some false
 | x :: xs,y :: ys=>if bx x y=true then Gp xs ys else gP x y
end
section
variable {X:Cx} {e a b:Expr} {f g:FE} {pos:Pos} {kk:Nat} {pins:List (Addr×Obj)} {σ:St} {H:Hp} {s:Shared}
theorem ML:∀ {ds:List D} {x:D},x∈ds->dep x<=qg ds
 | d :: ds,x,h=>by
  unfold qg
  rcases aS.mp h with z | z
  .subst z; exact Nat.le_max_left _ _
  .exact fc (ML z) (Nat.le_max_right _ _)
theorem T2 (I:Inv X pins σ H s):∀ (n:Nat) (d:D),dep d<=n->∀ {A:Around} {E:Value->Shared->Prop} {d':D} {v p:V} {u y:Value} {Q:Value->Shared->Prop} {r:Bool},ae X.K H d v->ae X.K H d' p->xv v u->xv p y->A.units+n < IM->gP d d'=some r->Q (.bool r) s →
  Ek (EA X.prog X.w) A (richCompare .GtE u y) Q E s
 | n,.int i,G,A,E,d',v,p,u,y,Q,r,h,h',C,J,R,hg,B=>by
  rw [AC] at h; subst h
  obtain ⟨t,rfl⟩:=C
  cases d' with
  | int j =>
   rw [AC] at h'; subst h'
   obtain ⟨t',rfl⟩:=J
   have hg:some (decide (j<=i))=some r:=hg
   cases hg
   exact ge_int B
  | _=>simp [gP] at hg
 | 0,.tup ds,G,A,E,d',v,p,u,y,Q,r,h,h',C,J,R,hg,B=>by
  unfold dep at G
  omega
 | n+1,.tup ds,G,A,E,d',v,p,u,y,Q,r,h,h',C,J,R,hg,B=>by
  cases d' with
  | tup dN =>
   obtain ⟨a,xs,rfl,q,l⟩:=Es.mp h
   obtain ⟨b,ys,rfl,q',l'⟩:=Es.mp h'
   cases C
   cases J
   obtain ⟨ah,rx,⟨oa,Am,hca,na,hda⟩,_⟩:=I.tuple q
   obtain ⟨its',ry,⟨ob,Al,hcb,nb,hdb⟩,_⟩:=I.tuple q'
   have tA:s.TypeIs (.ref a) "tuple":=⟨oa,Am,hca⟩
   have tB:s.TypeIs (.ref b) "tuple":=⟨ob,Al,hcb⟩
   unfold dep at G
   have hg:Gp ds dN=some r:=hg
   have m7:∀ x∈ds,dep x<=n:=λx Y=>by have:=ML Y; omega
   refine wpAny_richCompare_same_room (op:=.GtE) tA tB F.slot_tuple_ge (Eu F.slot_tuple_ge tA F.entry_tuple_ge ?_ (F.args_tuple_ge_2 _ _)) (by omega)
   refine be (m:=isInstance (.ref b) (.type "tuple")) (EZ tB isSubtype_tuple_tuple ?_)
   simp only [iz,b5,if_false]
   refine be (IZ Am hda (be (IZ Al hdb (be ?_))))
   refine LP _ (λrest r' s'=>r'.1=none/\s'=s/\∃ (e1 e2:List D) (W U:List V) (w o:List Value),rest=List.zip w o/\zR X.K H e1 W/\zR X.K H e2 U/\yR W w/\yR U o/\(∀ x∈e1,x∈ds)/\Gp e1 e2=some r/\(decide (w.length ≥ o.length))=decide (ah.length ≥ its'.length)) _ ?_ ?_ _ _ ⟨rfl,rfl,ds,dN,xs,ys,ah,its',by simp,l,l',rx,ry,λ_ z=>z,hg,rfl⟩
   .rintro ⟨p1,p2⟩ rest r' s' ⟨Z,M,e1,e2,W,U,w,o,hz,k1,k2,P,L,sub,k,hlen⟩
    have M:=M.symm
    subst M
    cases w with
    | nil=>simp at hz
    | cons w1 w =>
     cases o with
     | nil=>simp at hz
     | cons w2 o =>
      rw [List.zip_cons_cons] at hz
      obtain ⟨z1,rfl⟩:=List.cons.inj hz
      cases z1
      cases P with
      | cons ra P =>
       cases L with
       | cons rb L =>
        cases e1 with
        | nil=>rw [zR.nil_iff] at k1; cases k1
        | cons O e1 =>
         cases e2 with
         | nil=>rw [zR.nil_iff] at k2; cases k2
         | cons d2 e2 =>
          obtain ⟨y1,yr1,ey,T,k1⟩:=Eo.mp k1
          cases ey
          obtain ⟨y2,yr2,ey,S,k2⟩:=Eo.mp k2
          cases ey
          have dn:=m7 O (sub O aV)
          refine be (WX I O A.in1 d2 _ _ _ _ T S ra rb (by show A.units+1+dep O < IM; omega) _ _ _ _ ?_)
          unfold Gp at k
          by_cases c:bx O d2=true
          .rw [if_pos c] at k
           rw [c]
           simp only [iz,b5,if_false]
           exact mo ⟨rfl,rfl,e1,e2,_,_,w,o,rfl,k1,k2,P,L,λx Y=>sub x (aZ _ Y),k,by simpa using hlen⟩
          .rw [if_neg c] at k
           have c':bx O d2=false:=by simpa using c
           rw [c']
           simp only [Bool.not_false,if_true]
           refine be (Io ?_)
           refine be (T2 I n O dn T S ra rb (by show A.units+1+n < IM; omega) k ?_)
           exact be (mo (mo (mo ⟨_,rfl,(λe=>nomatch e),B⟩)))
   .rintro ⟨r1,r2⟩ s' ⟨Z,M,e1,e2,W,U,w,o,hz,k1,k2,P,L,sub,k,hlen⟩
    have M:=M.symm
    subst M
    dsimp only at Z
    subst Z
    refine mo ?_
    have oW:decide (ah.length ≥ its'.length)=r:=by
     rw [<- hlen]
     cases w with
     | nil =>
      cases P
      cases e1 with
      | cons _ _=>obtain ⟨_,_,z,_⟩:=Eo.mp k1; cases z
      | nil =>
       cases o with
       | nil =>
        cases L
        cases e2 with
        | cons _ _=>obtain ⟨_,_,z,_⟩:=Eo.mp k2; cases z
        | nil=>simp [Gp] at k; simp [k]
       | cons _ _ =>
        cases L
        cases e2 with
        | nil=>rw [zR.nil_iff] at k2; cases k2
        | cons _ _=>simp [Gp] at k; simp [k]
     | cons _ _ =>
      cases o with
      | cons _ _=>simp at hz
      | nil =>
       cases L
       cases P
       cases e2 with
       | cons _ _=>obtain ⟨_,_,z,_⟩:=Eo.mp k2; cases z
       | nil =>
        cases e1 with
        | nil=>rw [zR.nil_iff] at k1; cases k1
        | cons _ _=>simp [Gp] at k; simp [k]
    refine ⟨_,rfl,(λe=>nomatch e),?_⟩
    show Q (.bool (decide (ah.toArray.size ≥ its'.toArray.size))) s
    rw [cx,cx,oW]
    exact B
  | _=>simp [gP] at hg
 | n,.non,G,A,E,d',v,p,u,y,Q,r,h,h',C,J,R,hg,B=>by simp [gP] at hg
 | n,.bl _,G,A,E,d',v,p,u,y,Q,r,h,h',C,J,R,hg,B=>by simp [gP] at hg
 | n,.str _,G,A,E,d',v,p,u,y,Q,r,h,h',C,J,R,hg,B=>by simp [gP] at hg
 | n,.lst _,G,A,E,d',v,p,u,y,Q,r,h,h',C,J,R,hg,B=>by simp [gP] at hg
def zdy (K:Eh):R2:=λx y H Q=>∃ d d' r,ae K H d x/\ae K H d' y/\dep d<=100/\gP d d'=some r/\Q (.bl r) H
def SS (j:Room kk X.A):cA X (G_ .GtE) (zdy X.K):=by
 intro pins s σ H x y v u Q I i c h
 obtain ⟨d,d',r,h1,h2,l,k,q⟩:=h
 exact T2 I 100 d l h1 h2 i c (by have:=j.un; omega) k ⟨.bl r,H,I,rfl,q⟩
def o9:D->D->Option D:=λx y=>if dep x<=100 then (gP x y).map D.bl else none
def N4:eW X (zdy X.K) o9:=by
 intro σ ρ H₀ aa H Hf x y dx j d Q R i h c k
 unfold o9 at c
 split at c
 .obtain ⟨r,e,rfl⟩:=iB.mp c
  exact ⟨dx,j,r,i.full R,h.full R,by assumption,e,k _ _ _ R zH zH (Ew.mpr rfl)⟩
 .cases c
def zaa (c:Room kk X.A) (h:DR X a f) (d:DR X b g):DT X (.Compare a [.GtE] [b] pos) (aU (ze o9 f g)):=xO (SS c) N4 h d (qv _)
def Ci:wI X (.builtin "len") (λxs H Q=>∃ (a:Addr) (n:Nat) (ks:List (KTy n×Addr)),xs=[.ref a]/\H a=some (.ext (ZC n ks a))/\Q (.int ks.length) H):=by
 intro pins s σ H xs us Q I r ⟨a,n,ks,ex,e,q⟩
 subst ex
 obtain _ | ⟨d,_ | _⟩:=r
 cases d
 obtain ⟨⟨hd,o,es,ep,c,j,h,i,_,hz⟩,_⟩:=(show vD X.prog X.w H s.heap a (.ext (ZC n ks a)) from I.hok a _ e)
 have tD:s.TypeIs (.ref a) "dict":=⟨o,c,j.1⟩
 have hsz:es.size=ks.length:=by rw [<- H_,i,aD]
 have l:(ks.length:Int) < 2 ^ 63:=by rw [EK] at hz; omega
 refine Calls.call_function_entry kind_len plain_len entry_len (args_len1 _) ?_
 unfold Builtin.«len»
 refine be (m:=oneArg "len" _) (mo ?_)
 refine be (m:=callSpecial? (.ref a) (Ez "__len__")) (Ey (name:=Ez "__len__") tD F.slot_dict_len (Eu F.slot_dict_len tD F.entry_dict_len ?_ (F.args_dict_len_1 _)))
 show Ek _ _ (dictSize a >>= _) _ _ s
 unfold dictSize
 refine be (be (wpAny_dictEntries c h (mo ?_)))
 show Ek _ _ (Builtin.Dict.pendingCount a >>= _) _ _ s
 refine be (wpAny_pendingCount_other hd ?_)
 refine wpAny_ret_mkInt ?_
 have k:((es.size:Int)+((0:Nat):Int))=(ks.length:Int):=by rw [hsz]; omega
 rw [k]
 show Ek _ _ _ _ _ { s with toks:=s.toks+1 }
 refine be (E8 (mo ?_))
 refine be (wpAny_letGo ?_)
 show Ek _ _ (if ((ks.length:Nat):Int) < 0 then _ else _) _ _ _
 rw [if_neg (by omega)]
 show Ek _ _ (if ((ks.length:Nat):Int) ≥ 2 ^ 63 then _ else _) _ _ _
 rw [if_neg (by omega)]
 exact be (wpAny_mkInt (mo ⟨_,rfl,.int ks.length,H,I.tok _,⟨_,rfl⟩,q⟩))
def D6 (i:Nat):FE:=λρ=>match ρ[i]? with
 | some (.oX _ ks)=>some (.int ks.length)
 | _=>none
@[simp] theorem Nm {i:Nat} {ρ:aX}:D6 i ρ=match ρ[i]? with
 | some (.oX _ ks)=>some (.int ks.length)
 | _=>none:=rfl
def zaf (i:Nat) (hg:Gl X "len") (o:X.mg "len"=none) (t:X.N[i]? = some x:=by rfl) (m:iE X.env.scope x:=by first | exact Im rfl | exact E2 (Im rfl) | exact E2 (E2 rfl))
  (hd:(x==("__debug__":Str))=false:=by decide) (j:(x==("__classdict__":Str))=false:=by decide)
  (r:Ei [.Name x c] X.env=(false,eval (.Name x c) X.env) :: Ei [] X.env:=by rfl) (v:(F_ pos (Ei [] X.env)).any (·.1)=false:=by rfl):DE X (.Call (.Name "len" p) [.Name x c] [] pos) (D6 i) :=
 yz (ka Ci hg o (by rfl) (xi (j9 t m hd j) vw) (by decide) (by decide) r v) λσ H Q ⟨H₀,aa,ρ,Hf,d,R,q,k⟩=>by
  unfold D6 at q
  generalize u:ρ[i]? = sl at q
  split at q
  .rename_i _ n ks
   cases q
   obtain ⟨a,c,⟨xs,l,r3,w⟩,_⟩:=R.ow i _ u rfl
   refine ⟨_,c,a,n,xs,rfl,l,?_⟩
   have h:xs.length=ks.length:=by rw [<- r3,aD]
   rw [h]
   exact k _ _ _ R zH zH (AC.mpr rfl)
  .cases q
end
def ZA {prog:Ex} {w:ER} {A:Around} {E:Value->Shared->Prop} {s:Shared} {env:Env} {K:Eh} {e D C:Addr} (c:Catches K D C) {t:Expr} {b:Stmt} {d:List Stmt} {pos:Pos} {rest:List ExceptHandler} {Q:Flow->Shared->Prop}
    (h:Ek (EA prog w) (A.mark (some (.ref e))) (eval t env) (λc a=>c=.ref D/\K.In a.heap/\zbl e C a.heap ∧
      Ek (EA prog w) (A.mark (some (.ref e))) (setFlight (.ref e) none) (λ_ g =>
            Ek (EA prog w) (A.mark (some (.ref e))) (execs (b :: d) env) (λf i=>Q f i) (λ_ _=>False) g) (λ_ _=>False) a) (λ_ _=>False) s) :
    Ek (EA prog w) A (handleBy (.ref e) env (.ExceptHandler (some t) none (b :: d) pos :: rest)) Q E s:=by
  refine wpAny_handleBy_cons (codeAny_handlers_test (EB h (λc a h₁=>?_) λ_ _ y=>y.elim)) (by intro q; cases q)
  obtain ⟨rfl,k,x,j⟩:=h₁
  refine Fw ‹_› k x (codeAny_handlers_suite ?_)
  refine EB j (λ_ g k2=>?_) λ_ _ y=>y.elim
  exact EB k2 (λ_ _ z=>z) λ_ _ y=>y.elim
def NB {X:Cx} {body:List Stmt} {tb:XK->TS} (r:PTr X body tb) (bq:X.stack=X.env :: X.outer/\X.env.frame=some X.env.locals) {D:Addr} {v:Str} {L:Stmt} {O:List Stmt} {ts:TS} {dp T pos:Pos} (hg:Gl X v) (U:X.mg v=some (.ref D))
  (R:∀ a,f6 ((mrk X (.ref a)).wish λ_ _=>False) (L :: O) ts) (E:(v==("__debug__":Str))=false:=by decide) :
  PS X (.Try body [.ExceptHandler (some (.Name v dp)) none (L :: O) T] [] [] pos)
   (λF σ H=>tb (λcl _ H'=>∃ C,cl=.ref C/\Catches X.K D C/\∀ a,H' a=none->ts { nx:=λaL H2=>F.nx aL H2,rt:=λ_ _=>False } σ (upd H' a (exO a C))) F σ H):=by
 intro pins s σ H F I h
 refine wpAny_Try_except (EB (r pins s σ H F _ I h) (λf s1 q=>?_) λe s1 ⟨H0,s0,w,a,C,H1,Y,os,bare,un,hok,⟨y,G,B,t,j,n,p⟩,C',Z,ct,S⟩=>?_)
 .cases f with
  | next=>exact IT q
  | ret u=>exact q
  | brk=>exact q
  | cont=>exact q
 subst Y
 cases Z
 have fr:∀ b∈dM X.stack,H0 b=none/\∀ o,s0.heap.get? b=some o->∀ vs,o.data≠.fields vs:=λb r=>by
  refine ⟨w.stkFree b r,λo q vs hd=>?_⟩
  obtain ⟨_,o',P,nf⟩:=w.stack.mem r
  rw [q] at P
  cases P
  exact nf vs hd
 have l:∀ h2:Heap,B.StaysIn h2->s1.heap.UpToSlots h2->Inv X pins σ H1 { s1 with heap:=h2 }:=λh2 k up =>
  w.call' (ch:=[]) os (F6 un fr p j.1 k up) (Bm hok n j.1 k) bare (λb z=>absurd z (by simp))
 have A:X.A.frames=some (X.env :: X.outer):=by rw [I.ok.frames,bq.1]
 rw [bq.1] at j
 refine wpAny_looks_onW A bq.2 j λh2 m g=>?_
 refine wpAny_landsW m λM c d=>?_
 refine ZA ct (Yr (X:=mrk X (.ref a)) (Bg (l M c.1 (g.trans d))) hg U ⟨rfl,(l M c.1 (g.trans d)).kIn,c.there,?_⟩ E)
 refine lands_againW c λW i x=>?_
 have J:Inv X pins σ (upd H1 a (exO a C)) { s1 with heap:=W } :=
  w.call' (ch:=[]) os (RT (F6 un fr p j.1 i.1 ((g.trans d).trans x)) G y) (PL (Bm hok n j.1 i.1) y i.there) bare (λb z=>absurd z (by simp))
 refine EB (R a pins _ _ _ _ ((Bg J).wish _) (S a y)) (λf s6 q=>?_) λ_ _ z=>z
 cases f with
 | next =>
  obtain ⟨aL,H2,I6,Q⟩:=q
  exact ⟨_,_,Be I.ok.hd I6.unwish,Q⟩
 | ret u=>obtain ⟨_,_,_,_,_,z⟩:=q; exact z.elim
 | brk=>obtain ⟨_,_,_,z⟩:=q; exact z.elim
 | cont=>obtain ⟨_,_,_,z⟩:=q; exact z.elim
def Df (K:Eh) (x:Str) (st:Stmt):Prop:=∃ (f:Addr) (oc:Value) (od an:Option Addr) (gy:Array (Option Value)) (kV doc pm aq ct:Value),IH K Er x=some (some (.ref f)) ∧
 K.lookup f=some ⟨oc,od,.func (W.fnOf x x (ur st) (xM st) (zl st) .none kV doc pm an aq ct),gy⟩/\W.codeIn K aq x=true/\W.keepIn K (.ref f)=true
section
variable {P:Ex} {w:ER} {K:Eh} {mg:Str->Option Value} {base h:Heap} {x:Str} {st:Stmt} {k n:Nat} {ps:List Str}
def AD (X:K.In h) (G:h.Ns Er mg) (d:Df K x st) (ok:∀ {f:Addr} {fd:Iy},Fun K x x st f fd->FnOk P w K mg base eY k f fd ps (spF K n g))
  (b:∀ (kV doc pm:Value) (an:Option Addr) (aq ct:Value) (us:List Value),us.length=ps.length->bindArgs (W.fnOf x x (ur st) (xM st) (zl st) .none kV doc pm an aq ct) ⟨us,[]⟩=pure (ps.zip us)):HasFn P w K mg base k x n g:=by
 obtain ⟨f,oc,od,an,gy,kV,doc,pm,aq,ct,a,l,c,q⟩:=d
 have F:=Bx l c q
 exact ⟨⟨_,_,_,ok F,Lz X G a,q,F.binds b⟩⟩
def ze4 (X:K.In h) (G:h.Ns Er mg) (d:Df K x st) (ok:∀ {f:Addr} {fd:Iy},Fun K x x st f fd->FnOk P w K mg base (f7 P w) k f fd ps (oE mg K n g))
  (b:∀ (kV doc pm:Value) (an:Option Addr) (aq ct:Value) (us:List Value),us.length=ps.length->bindArgs (W.fnOf x x (ur st) (xM st) (zl st) .none kV doc pm an aq ct) ⟨us,[]⟩=pure (ps.zip us)):HasFnX P w K mg base k x n g:=by
 obtain ⟨f,oc,od,an,gy,kV,doc,pm,aq,ct,a,l,c,q⟩:=d
 have F:=Bx l c q
 exact ⟨⟨_,_,_,ok F,Lz X G a,q,F.binds b⟩⟩
end
end FL
namespace FL
open PySem PySem.Spec PyProof.Rows L2
def cy (i) (c:decide X.N.Nodup=true:=by kernel_rfl) (hi:X.N[i]? = some x:=by rfl) (a:Loc X.env.scope x:=by first | exact Im rfl | exact E2 rfl) (b:X.fn x=true\/X.env.scope.names.lookup x=some .local:=by first | exact .inl rfl | exact .inr rfl | assumption):DG X (.Name x pos) (zL i):=yc i (of_decide_eq_true c) hi a b
def aG (i:HasFn X.prog X.w X.K X.mg X.base k x n g) (f:DA X (e :: es) fa) (b:Room k X.A:=by first | assumption | exact Room.mono (by assumption) (by decide)) (hg:Gl X x:=by rfl)
  (c:∀ ρ ds,fa ρ=some ds->ds.length=n:=by first | exact Xb D7 | exact Xb (Xb D7) | exact Xb (Xb (Xb D7)) | exact Xb (Xb (Xb (Xb D7))))
  (a:(x==("__debug__":Str))=false:=by decide) (d:Ei (e :: es) X.env=(false,eval e X.env) :: Ei es X.env:=by rfl) (h:(F_ pos (Ei es X.env)).any (·.1)=false:=by rfl) :
  DE X (.Call (.Name x p) (e :: es) [] pos) (zW g fa):=Rn i b hg f c a d h
end FL
namespace M02
def wsgn (n:Int):Int:=if 0 < n then 1 else if n < 0 then -1 else 0
def N (a b:Int):Int:=a * a+a * b - b * b
def sgn (a b:Int):Int:=if 0<=wsgn a * wsgn b then wsgn (wsgn a+wsgn b) else wsgn a * wsgn (a * a+a * b - b * b)
def jN (h:0 < n):wsgn n=1:=by unfold wsgn; rw [if_pos h]
def jO (h:n < 0):wsgn n = -1:=by unfold wsgn; rw [if_neg (by omega),if_pos h]
def wsgn_cases (n):(0 < n/\wsgn n=1)\/(n < 0/\wsgn n = -1)\/(n=0/\wsgn n=0):=by
 rcases Int.lt_trichotomy n 0 with h | h | h
 .exact .inr (.inl ⟨h,jO h⟩)
 .subst h; exact .inr (.inr ⟨rfl,rfl⟩)
 .exact .inl ⟨h,jN h⟩
def za1 (x y):N (2 * x) (2 * y)=4 * N x y:=by
 unfold N
 have e1:2 * x * (2 * x)=4 * (x * x):=by rw [IE,Int.mul_left_comm x 2 x,<- IE]; rfl
 have e2:2 * x * (2 * y)=4 * (x * y):=by rw [IE,Int.mul_left_comm x 2 y,<- IE]; rfl
 have a:2 * y * (2 * y)=4 * (y * y):=by rw [IE,Int.mul_left_comm y 2 y,<- IE]; rfl
 rw [e1,e2,a]
 omega
def VW {a b:Int} (d:a % 2=1) (c:b % 2=1):(a * b) % 2=1:=by rw [Int.mul_emod,d,c]; rfl
def BC (b:Int) (c:a % 2=0):(a * b) % 2=0:=by rw [Int.mul_emod,c]; simp
def T7 (a:Int) (c:b % 2=0):(a * b) % 2=0:=by rw [Int.mul_emod,c]; simp
def Gk:∀ n a b,a.natAbs+b.natAbs=n->N a b=0->a=0/\b=0:=by
 intro n
 induction n using I_ with
 | ind n f =>
  intro a b i h
  have h':a * a+a * b - b * b=0:=h
  have d:a % 2=0\/a % 2=1:=by omega
  have c:b % 2=0\/b % 2=1:=by omega
  rcases d with d | d <;> rcases c with c | c
  .by_cases h0:a=0/\b=0
   .exact h0
   .obtain ⟨x,rfl⟩:∃ x,a=2 * x:=⟨a / 2,by omega⟩
    obtain ⟨y,rfl⟩:∃ y,b=2 * y:=⟨b / 2,by omega⟩
    have g:=za1 x y
    rw [h] at g
    have:=f (x.natAbs+y.natAbs) (by omega) x y rfl (by omega)
    omega
  .have e1:=BC a d
   have e2:=BC b d
   have e:=VW c c
   omega
  .have e1:=VW d d
   have e2:=T7 a c
   have e:=BC b c
   omega
  .have e1:=VW d d
   have e2:=VW d c
   have e:=VW c c
   omega
def za0 (h:N a b=0):a=0/\b=0:=Gk _ a b rfl h
def Pos (a b:Int):Prop:=(0<=a/\0<=b/\(0 < a\/0 < b))\/(0 < a/\b < 0/\0 < N a b)\/(a < 0/\0 < b/\N a b < 0)
def F5 (a b):N (-a) (-b)=N a b:=by unfold N; rw [Int.neg_mul_neg,Int.neg_mul_neg,Int.neg_mul_neg]
def sgn_pos (h:Pos a b):sgn a b=1:=by
 unfold sgn
 rcases h with ⟨h1,h2,c⟩ | ⟨h1,h2,c⟩ | ⟨h1,h2,c⟩
 .rcases wsgn_cases a with ⟨p,e⟩ | ⟨p,e⟩ | ⟨p,e⟩ <;> rcases wsgn_cases b with ⟨f,d⟩ | ⟨f,d⟩ | ⟨f,d⟩ <;> rw [e,d] <;> first | rfl | omega
 .rw [jN h1,jO h2]
  have:a * a+a * b - b * b > 0:=c
  rw [if_neg (by decide),jN this]; rfl
 .rw [jO h1,jN h2]
  have:a * a+a * b - b * b < 0:=c
  rw [if_neg (by decide),jO this]; rfl
def XT (n):wsgn (-n) = -wsgn n:=by
 rcases wsgn_cases n with ⟨p,e⟩ | ⟨p,e⟩ | ⟨p,e⟩
 .rw [e,jO (by omega)]
 .rw [e,jN (by omega)]; rfl
 .subst p; rfl
def sgn_opp (a b):sgn (-a) (-b) = -sgn a b:=by
 unfold sgn
 have e : -a * -a + -a * -b - -b * -b=a * a+a * b - b * b:=F5 a b
 rw [e,XT a,XT b]
 have e2 : -wsgn a * -wsgn b=wsgn a * wsgn b:=Int.neg_mul_neg _ _
 rw [e2]
 have c : -wsgn a + -wsgn b = -(wsgn a+wsgn b):=by omega
 rw [c,XT]
 split
 .rfl
 .exact Int.neg_mul _ _
def pos_cases (a b):(a=0/\b=0)\/Pos a b\/Pos (-a) (-b):=by
 by_cases h0:a=0/\b=0
 .exact .inl h0
 .right
  have e:N a b≠0:=λh=>h0 (za0 h)
  by_cases f:0<=a
  .by_cases d:0<=b
   .exact .inl (.inl ⟨f,d,by omega⟩)
   .by_cases a0:a=0
    .exact .inr (.inl ⟨by omega,by omega,.inr (by omega)⟩)
    .rcases Int.lt_or_lt_of_ne e with c | c
     .exact .inr (.inr (.inr ⟨by omega,by omega,by rw [F5]; exact c⟩))
     .exact .inl (.inr (.inl ⟨by omega,by omega,c⟩))
  .by_cases d:0 < b
   .rcases Int.lt_or_lt_of_ne e with c | c
    .exact .inl (.inr (.inr ⟨by omega,d,c⟩))
    .exact .inr (.inr (.inl ⟨by omega,by omega,by rw [F5]; exact c⟩))
   .exact .inr (.inl ⟨by omega,by omega,.inl (by omega)⟩)
def N_g (a b):N b (a+b) = -N a b:=by
 unfold N
 have e1:b * (a+b)=a * b+b * b:=by rw [Int.mul_add,Li b a]
 have e2:(a+b) * (a+b)=a * a+2 * (a * b)+b * b:=by rw [Int.add_mul,Int.mul_add,Int.mul_add,Li b a]; omega
 rw [e1,e2]; omega
def QX (h1:0 < a) (h2:a+b<=0):N a b < 0:=by
 unfold N
 have e:a * a+a * b=a * (a+b):=by rw [Int.mul_add]
 have d:a * (a+b)<=0:=Int.mul_nonpos_of_nonneg_of_nonpos (by omega) h2
 have c:0 < b * b:=Int.mul_pos_of_neg_of_neg (by omega) (by omega)
 omega
def F4 (h1:a < 0) (h2:0<=a+b) (h3:0 < b):N a b < 0:=by
 have:=QX (a := -a) (b := -b) (by omega) (by omega)
 rwa [F5] at this
def zcg  : Pos a b↔Pos b (a+b):=by
 unfold Pos
 rw [N_g]
 constructor
 .rintro (⟨h1,h2,c⟩ | ⟨h1,h2,c⟩ | ⟨h1,h2,c⟩)
  .exact .inl ⟨h2,by omega,by omega⟩
  .by_cases h:a+b<=0
   .have:=QX h1 h; omega
   .exact .inr (.inr ⟨h2,by omega,by omega⟩)
  .by_cases h:a+b < 0
   .exact .inr (.inl ⟨h2,h,by omega⟩)
   .exact .inl ⟨by omega,by omega,by omega⟩
 .rintro (⟨h1,h2,c⟩ | ⟨h1,h2,c⟩ | ⟨h1,h2,c⟩)
  .by_cases h:0<=a
   .exact .inl ⟨h,h1,by omega⟩
   .exact .inr (.inr ⟨by omega,by omega,F4 (by omega) h2 (by omega)⟩)
  .exact .inr (.inr ⟨by omega,h1,by omega⟩)
  .exact .inr (.inl ⟨by omega,h1,by omega⟩)
def gpow:Nat->Int×Int->Int×Int
 | 0,x=>x
 | n+1,x=>gpow n (x.2,x.1+x.2)
theorem pos_gpow:∀ n x,Pos x.1 x.2↔Pos (gpow n x).1 (gpow n x).2
 | 0,x=>Iff.rfl
 | n+1,x=>(zcg (a:=x.1) (b:=x.2)).trans (pos_gpow n (x.2,x.1+x.2))
def Cone (x:Int×Int):Prop:=0<=x.1/\0<=x.2/\(0 < x.1\/0 < x.2)
def cone_pos {x:Int×Int} (h:Cone x):Pos x.1 x.2:=.inl h
theorem gpow_add (m):∀ n x,gpow m (gpow n x)=gpow (n+m) x
 | 0,x=>by rw [b_]; rfl
 | n+1,x=>by rw [Nat.succ_add]; exact gpow_add m n _
def ZT:∀ k a b,a.natAbs<=k->0 < a->b < 0->0 < N a b->∃ n,Cone (gpow n (a,b)):=by
 intro k
 induction k with
 | zero=>intro a b h1 h2; omega
 | succ k d =>
  intro a b h1 h2 j i
  have c:0 < a+b:=by
   by_cases h:a+b<=0
   .have:=QX h2 h; omega
   .omega
  by_cases f:0<=a+2 * b
  .exact ⟨2,(show (0:Int)<=a+b by omega),(show (0:Int)<=b+(a+b) by omega),.inl c⟩
  .have g:N (a+b) (b+(a+b))=N a b:=by rw [N_g,N_g]; omega
   obtain ⟨n,e⟩:=d (a+b) (b+(a+b)) (by omega) c (by omega) (by omega)
   exact ⟨n+2,e⟩
def to_cone (h:Pos a b):∃ n,Cone (gpow n (a,b)):=by
 rcases h with h | ⟨h1,h2,c⟩ | ⟨h1,h2,c⟩
 .exact ⟨0,h⟩
 .exact ZT _ a b (aT _) h1 h2 c
 .by_cases h:0<=a+b
  .exact ⟨1,(show (0:Int)<=b by omega),h,.inl h2⟩
  .obtain ⟨n,d⟩:=ZT _ b (a+b) (aT _) h2 (by omega) (by rw [N_g]; omega)
   exact ⟨n+1,d⟩
def Xx (x y:Int×Int):Int×Int:=(x.1 * y.1+x.2 * y.2,x.1 * y.2+x.2 * y.1+x.2 * y.2)
def Td (x y):Xx (x.2,x.1+x.2) y=((Xx x y).2,(Xx x y).1+(Xx x y).2):=by
 unfold Xx
 simp only [Int.add_mul,ET]
 omega
def VY (x y):Xx x y=Xx y x:=by
 unfold Xx
 have e1:=Li x.1 y.1
 have e2:=Li x.2 y.2
 have b:=Li x.1 y.2
 have a:=Li x.2 y.1
 simp only [ET]
 omega
theorem Yj:∀ n x y,Xx (gpow n x) y=gpow n (Xx x y)
 | 0,_,_=>rfl
 | n+1,x,y=>by
  show Xx (gpow n (x.2,x.1+x.2)) y=gpow n ((Xx x y).2,(Xx x y).1+(Xx x y).2)
  rw [Yj n,Td]
def FQ {x y:Int×Int} (h:Cone x) (g:Cone y):Cone (Xx x y):=by
 obtain ⟨f,e,b⟩:=h
 obtain ⟨d,c,a⟩:=g
 have l:=LA f d
 have k:=LA e c
 have j:=LA f c
 have i:=LA e d
 refine ⟨show (0:Int)<=x.1 * y.1+x.2 * y.2 by omega,show (0:Int)<=x.1 * y.2+x.2 * y.1+x.2 * y.2 by omega,?_⟩
 show 0 < x.1 * y.1+x.2 * y.2\/0 < x.1 * y.2+x.2 * y.1+x.2 * y.2
 rcases b with b | b <;> rcases a with a | a
 .have:=Int.mul_pos b a; omega
 .have:=Int.mul_pos b a; omega
 .have:=Int.mul_pos b a; omega
 .have:=Int.mul_pos b a; omega
def pos_mul {x y:Int×Int} (b:Pos x.1 x.2) (a:Pos y.1 y.2):Pos (Xx x y).1 (Xx x y).2:=by
 obtain ⟨n,c⟩:=to_cone b
 obtain ⟨m,d⟩:=to_cone a
 have h:=cone_pos (FQ c d)
 have e:Xx (gpow n (x.1,x.2)) (gpow m (y.1,y.2))=gpow (m+n) (Xx x y):=by
  rw [Yj,VY,Yj,VY,gpow_add]
 rw [e] at h
 exact (pos_gpow (m+n) (Xx x y)).mpr h
end M02
namespace GH
open FL L2
abbrev Gd:=Int×Int
def yZ (x y:Gd):Gd:=(x.1+y.1,x.2+y.2)
def yT (x:Gd):Gd:=(-x.1,-x.2)
def y9 (x y:Gd):Gd:=(x.1 * y.1+x.2 * y.2,x.1 * y.2+x.2 * y.1+x.2 * y.2)
def gD (x:Gd):D:=.tup [.int x.1,.int x.2]
def wH (r:List Gd):D:=.tup (r.map gD)
abbrev T3:=Int×Int×Int
def tD (t:T3):D:=.tup [.int t.1,.int t.2.1,.int t.2.2]
def zh (n:Nat) (ts:List T3):D:=.tup [.int n,.lst (ts.map tD)]
def c7 (i j:Int):Int:=if j < i then j else i
def dQ (i j:Int):Int:=if j > i then j else i
def DM (i j):c7 i j=c7 j i:=by unfold c7; split <;> split <;> omega
def DY (i j):dQ i j=dQ j i:=by unfold dQ; split <;> split <;> omega
def zu:List T3->Int->Int->Int
 | [],_,_=>2
 | t :: ts,i,j=>if t.1=c7 i j/\t.2.1=dQ i j then t.2.2 else zu ts i j
def wc (ts) (i j:Int):zu ts i j=zu ts j i:=by
 induction ts with
 | nil=>rfl
 | cons t ts a=>unfold zu; rw [DM,DY,a]
def yh (ts:List T3):Prop:=∀ t∈ts,t.2.2=0\/(3<=t.2.2/\t.2.2<=6)
def qP (h:yh ts) (i j):zu ts i j=0\/(2<=zu ts i j/\zu ts i j<=6):=by
 induction ts with
 | nil=>simp [zu]
 | cons t ts a =>
  unfold zu
  split
  .have:=h t aV; omega
  .exact a λt ht=>h t (aZ _ ht)
def zU (m:Int) (less:Bool):Gd :=
 if m=0 then (-2,0) else if m=2 then (0,0) else if m=3 then (-1,0) else if m=4 then (if less then (-2,0) else (-1,0)) else if m=5 then (0,-1) else (if less then (-3,0) else (-1,0))
def Zw (ts:List T3) (i j:Int):Gd:=if i=j then (2,0) else zU (zu ts i j) (decide (i < j))
def Qi (m) (b:Bool) : -3<=(zU m b).1/\(zU m b).1<=2 /\ -1<=(zU m b).2/\(zU m b).2<=0:=by
 unfold zU
 repeat' split
 all_goals decide
def jv (ts) (i j:Int) : -3<=(Zw ts i j).1/\(Zw ts i j).1<=2 /\ -1<=(Zw ts i j).2/\(Zw ts i j).2<=0:=by
 unfold Zw
 split
 .decide
 .exact Qi _ _
def wj (A:Nat->Gd):Nat->List Gd->Gd->Gd
 | _,[],acc=>acc
 | k,x :: r,acc=>wj A (k+1) r (yZ acc (y9 (A k) x))
def uM (A:Nat->Gd) (i:Nat) (r:List Gd):List Gd:=r.set i (yZ (r.getD i (0,0)) (yT (wj A 0 r (0,0))))
def ya (A) (i:Nat) (r:List Gd):(uM A i r).length=r.length:=by simp [uM]
def yf (A:Nat->Nat->Gd) (w:List Nat) (r:List Gd):List Gd:=w.foldr (λi r=>uM (A i) i r) r
def zK (A) (w:List Nat) (r:List Gd):(yf A w r).length=r.length:=by
 induction w with
 | nil=>rfl
 | cons i w a=>show (uM (A i) i (yf A w r)).length=_; rw [ya,a]
def xj (A) (u v:List Nat) (r:List Gd):yf A (u++v) r=yf A u (yf A v r):=by simp [yf]
def ye (n i:Nat):List Gd:=(aK n).map λj=>if j=i then (1,0) else (0,0)
def zi (n i):(ye n i).length=n:=by simp [ye]
def zg (ts:List T3):Nat->Nat->Gd:=λi j=>Zw ts (i:Int) (j:Int)
def Bv (x y):yZ x y=yZ y x:=by simp [yZ,Int.add_comm]
def uD (x y z):yZ (yZ x y) z=yZ x (yZ y z):=by simp [yZ,Int.add_assoc]
def xR (x):yZ x (0,0)=x:=by simp [yZ]
def wm (x):yZ (0,0) x=x:=by simp [yZ]
def Ud (x):yT (yT x)=x:=by simp [yT]
def Br (x y):yT (yZ x y)=yZ (yT x) (yT y):=by simp [yZ,yT]; omega
def Ft (x y z):y9 x (yZ y z)=yZ (y9 x y) (y9 x z):=by simp only [y9,yZ,Int.mul_add,ET]; omega
def Fs (y):y9 (2,0) y=yZ y y:=by simp only [y9,yZ,Int.zero_mul,ET]; omega
theorem xY (A):∀ r k a,wj A k r a=yZ a (wj A k r (0,0))
 | [],k,a=>by simp [wj,xR]
 | x :: r,k,a=>by
  unfold wj
  rw [xY A r (k+1) (yZ a _),xY A r (k+1) (yZ (0,0) _),wm,uD]
theorem XY (A):∀ r k i y,i < r.length->wj A k (r.set i (yZ (r.getD i (0,0)) y)) (0,0)=yZ (wj A k r (0,0)) (y9 (A (k+i)) y)
 | [],_,_,_,h=>by simp at h
 | x :: r,k,0,y,h=>by
  simp only [aM,List.getD_cons_zero,wj,wm,Nat.add_zero]
  rw [xY A r (k+1) (y9 (A k) x),xY A r (k+1) (y9 (A k) (yZ x y)),Ft,uD,Bv (y9 (A k) y),<- uD]
 | x :: r,k,i+1,y,h=>by
  simp only [aN,List.getD_cons_succ,wj,wm]
  rw [xY A r (k+1) (y9 (A k) x),xY A _ (k+1) (y9 (A k) x),XY A r (k+1) i y (by simpa using h),uD]
  congr 4
  omega
def V1 (h:A i=(2,0)) (r) (hi:i < r.length):uM A i (uM A i r)=r:=by
 unfold uM
 have b:=XY A r 0 i (yT (wj A 0 r (0,0))) hi
 rw [b,b_,h,Fs,List.set_set]
 have hg:(r.set i (yZ (r.getD i (0,0)) (yT (wj A 0 r (0,0))))).getD i (0,0)=yZ (r.getD i (0,0)) (yT (wj A 0 r (0,0))):=by simp [bR,hi]
 rw [hg]
 generalize wj A 0 r (0,0)=S
 have e:yZ (yZ (r.getD i (0,0)) (yT S)) (yT (yZ S (yZ (yT S) (yT S))))=r.getD i (0,0):=by
  simp only [yZ,yT]
  refine Lu ?_ ?_ <;> simp only [] <;> omega
 rw [e]
 apply ph
 intro k
 rw [ff]
 by_cases a:i=k
 .subst a
  simp [hi,bR]
 .rw [if_neg a]
theorem Yp (h:∀ i,A i i=(2,0)):∀ w r,(∀ i∈w,i < r.length)->yf A w.reverse (yf A w r)=r
 | [],r,_=>rfl
 | i :: w,r,hw=>by
  rw [mn,xj]
  show yf A w.reverse (uM (A i) i (uM (A i) i (yf A w r)))=r
  rw [V1 (h i) _ (by rw [zK]; exact hw i aV)]
  exact Yp h w r λj a=>hw j (aZ _ a)
def zT (ts) (i:Nat):zg ts i i=(2,0):=by simp [zg,Zw]
def VA (x:Gd):Int:=M02.sgn x.1 x.2
def oq (B:Nat) (r:List Gd):Prop:=∀ x∈r,x.1.natAbs<=B/\x.2.natAbs<=B
def JC {p x:Int} (b:p.natAbs<=c) (a:x.natAbs<=B):(p * x).natAbs<=c * B:=by
 rw [Int.natAbs_mul]
 exact Nat.mul_le_mul b a
def PR (g : -3<=p.1/\p.1<=2 /\ -1<=p.2/\p.2<=0) (e:x.1.natAbs<=B/\x.2.natAbs<=B):(y9 p x).1.natAbs<=5 * B/\(y9 p x).2.natAbs<=5 * B:=by
 have f:p.1.natAbs<=3:=by omega
 have p2:p.2.natAbs<=1:=by omega
 have a:=JC f e.1
 have b:=JC p2 e.2
 have c:=JC f e.2
 have d:=JC p2 e.1
 constructor
 .show (p.1 * x.1+p.2 * x.2).natAbs<=5 * B
  omega
 .show (p.1 * x.2+p.2 * x.1+p.2 * x.2).natAbs<=5 * B
  omega
theorem GG (c:∀ k,-3<=(A k).1/\(A k).1<=2 /\ -1<=(A k).2/\(A k).2<=0):∀ r k,oq B r->(wj A k r (0,0)).1.natAbs<=5 * B * r.length/\(wj A k r (0,0)).2.natAbs<=5 * B * r.length
 | [],k,_=>by simp [wj]
 | x :: r,k,h=>by
  unfold wj
  rw [xY,wm]
  have a:=PR (c k) (h x aV)
  have b:=GG c r (k+1) λy d=>h y (aZ _ d)
  have e:5 * B * (x :: r).length=5 * B * r.length+5 * B:=by rw [aB,Nat.mul_succ]
  rw [e]
  constructor
  .show ((y9 (A k) x).1+(wj A (k+1) r (0,0)).1).natAbs<=_
   omega
  .show ((y9 (A k) x).2+(wj A (k+1) r (0,0)).2).natAbs<=_
   omega
def PU (h:oq B r) (i):(r.getD i (0,0)).1.natAbs<=B/\(r.getD i (0,0)).2.natAbs<=B:=by
 rw [bR]
 cases e:r[i]? with
 | none=>simp
 | some x=>exact h x (sk e)
def Ph (f:∀ k,-3<=(A k).1/\(A k).1<=2 /\ -1<=(A k).2/\(A k).2<=0) (i) (h:oq B r) (e:r.length<=6):oq (B * 32) (uM A i r):=λx d=>by
 unfold uM at d
 rcases List.mem_or_eq_of_mem_set d with d | rfl
 .have:=h x d; omega
 .have a:=GG f r 0 h
  have b:=PU h i
  have c:5 * B * r.length<=5 * B * 6:=Nat.mul_le_mul_left _ e
  constructor
  .show ((r.getD i (0,0)).1 + -(wj A 0 r (0,0)).1).natAbs<=_
   omega
  .show ((r.getD i (0,0)).2 + -(wj A 0 r (0,0)).2).natAbs<=_
   omega
theorem HU (h:oq B r) (a:r.length<=6):∀ w,oq (B * 32 ^ w.length) (yf (zg ts) w r)
 | []=>by simpa [yf] using h
 | i :: w=>by
  have b:=HU (ts:=ts) h a w
  have:=Ph (A:=zg ts i) (λk=>jv ts i k) i b (by rw [zK]; exact a)
  show oq _ (uM (zg ts i) i (yf (zg ts) w r))
  rw [aB,Nat.pow_succ,<- Nat.mul_assoc]
  exact this
def Na (n i):oq 1 (ye n i):=λx a=>by
 unfold ye at a
 obtain ⟨j,_,rfl⟩:=bu.mp a
 split <;> decide
end GH
namespace GH
def W5 (i:Nat) (p:Gd) (r:List Gd):List Gd:=r.set i (yZ (r.getD i (0,0)) p)
def jC (i) (p:Gd) (r:List Gd):(W5 i p r).length=r.length:=by simp [W5]
def UE (p q) (h:i < r.length):W5 i p (W5 i q r)=W5 i (yZ q p) r:=by
 unfold W5
 have:(r.set i (yZ (r.getD i (0,0)) q)).getD i (0,0)=yZ (r.getD i (0,0)) q:=by simp [bR,h]
 rw [this,List.set_set,uD]
def Cm (a:i≠j) (p q) (r:List Gd):W5 i p (W5 j q r)=W5 j q (W5 i p r):=by
 unfold W5
 have e1:(r.set j (yZ (r.getD j (0,0)) q)).getD i (0,0)=r.getD i (0,0):=by simp [bR,ff,E7 a]
 have e2:(r.set i (yZ (r.getD i (0,0)) p)).getD j (0,0)=r.getD j (0,0):=by simp [bR,ff,a]
 rw [e1,e2,List.set_comm _ _ a]
def ZL (A) (p) (h:i < r.length):wj A 0 (W5 i p r) (0,0)=yZ (wj A 0 r (0,0)) (y9 (A i) p):=by
 have:=XY A r 0 i p h
 rw [b_] at this
 exact this
def JG (A) (i:Nat) (r:List Gd):uM A i r=W5 i (yT (wj A 0 r (0,0))) r:=rfl
def UD (h:i < r.length):W5 i (0,0) r=r:=by
 unfold W5
 rw [xR]
 apply ph
 intro k
 rw [ff]
 split
 .next e=>subst e; simp [h,bR]
 .rfl
abbrev Fm:=Gd×Gd
def ev (f:Fm) (x y:Gd):Gd:=yZ (y9 f.1 x) (y9 f.2 y)
def RI (f g:Fm):Fm:=(yZ f.1 g.1,yZ f.2 g.2)
def CH (f:Fm):Fm:=(yT f.1,yT f.2)
def fsc (c:Gd) (f:Fm):Fm:=(y9 c f.1,y9 c f.2)
def JZ (f g:Fm) (x y):ev (RI f g) x y=yZ (ev f x y) (ev g x y):=by simp only [ev,RI,yZ,y9,ET]; constructor <;> grind
def XE (f:Fm) (x y):ev (CH f) x y=yT (ev f x y):=by simp only [ev,CH,yZ,yT,y9,ET]; constructor <;> grind
def T8 (c) (f:Fm) (x y:Gd):ev (fsc c f) x y=y9 c (ev f x y):=by simp only [ev,fsc,yZ,y9,ET]; constructor <;> grind
def P1 (x y):ev ((0,0),(0,0)) x y=(0,0):=by simp [ev,yZ,y9]
structure Tn where
 p:Fm
 q:Fm
 x:Fm
 y:Fm
 deriving DecidableEq
def tn0:Tn:=⟨((0,0),(0,0)),((0,0),(0,0)),((1,0),(0,0)),((0,0),(1,0))⟩
def tnJ (a:Gd) (s:Tn):Tn:=⟨s.p,RI s.q (CH s.y),RI s.x (fsc a (CH s.y)),CH s.y⟩
def tnI (b:Gd) (s:Tn):Tn:=⟨RI s.p (CH s.x),s.q,CH s.x,RI s.y (fsc b (CH s.x))⟩
def GA (z):yZ z (y9 (2,0) (yT z))=yT z:=by simp only [yZ,y9,yT,ET]; constructor <;> grind
def jQ (A) (n i:Nat) (hi:i < n):wj A 0 (ye n i) (0,0)=A i:=by
 have gen:∀ (m k:Nat) (a:Gd),wj A k ((aK m).map λt=>if k+t=i then ((1,0):Gd) else (0,0)) a=if k<=i/\i < k+m then yZ a (A i) else a:=by
  intro m
  induction m with
  | zero=>intro k a; simp [wj]; intro h h2; omega
  | succ m b =>
   intro k a
   rw [n6,aC,bz]
   have e:((λt=>if k+t=i then ((1,0):Gd) else (0,0)) ∘ Nat.succ)=λt=>if (k+1)+t=i then ((1,0):Gd) else (0,0):=by
    funext t
    simp only [Iq]
    have:k+t.succ=k+1+t:=by omega
    rw [this]
   rw [e]
   unfold wj
   rw [b]
   by_cases h:k=i
   .subst h
    have z:y9 (A k) (1,0)=A k:=by simp [y9]
    simp [z]
    omega
   .have z:y9 (A k) (0,0)=(0,0):=by simp [y9]
    simp only [Nat.add_zero,h,if_false,z,xR]
    by_cases h2:k+1<=i/\i < k+1+m
    .rw [if_pos h2,if_pos (by omega)]
    .rw [if_neg h2,if_neg (by omega)]
 have:=gen n 0 (0,0)
 simp only [b_] at this
 unfold ye
 rw [this,if_pos ⟨dJ _,hi⟩,wm]
theorem JV:∀ n x y,M02.gpow n (x.1+y.1,x.2+y.2)=((M02.gpow n x).1+(M02.gpow n y).1,(M02.gpow n x).2+(M02.gpow n y).2)
 | 0,x,y=>rfl
 | n+1,x,y=>by
  have:=JV n (x.2,x.1+x.2) (y.2,y.1+y.2)
  simp only at this
  unfold M02.gpow
  rw [<- this]
  congr 2
  simp only []
  omega
theorem YK:∀ n x,M02.Cone x->M02.Cone (M02.gpow n x)
 | 0,x,h=>h
 | n+1,x,h=>YK n _ ⟨h.2.1,by have:=h.1; have:=h.2.1; simp only []; omega,by have:=h.1; have:=h.2.1; have:=h.2.2; simp only []; omega⟩
def NG (b:M02.Pos x.1 x.2) (a:M02.Pos y.1 y.2):M02.Pos (yZ x y).1 (yZ x y).2:=by
 obtain ⟨n,c⟩:=M02.to_cone b
 obtain ⟨m,d⟩:=M02.to_cone a
 have h1:M02.Cone (M02.gpow m (M02.gpow n x)):=YK m _ c
 have h2:M02.Cone (M02.gpow n (M02.gpow m y)):=YK n _ d
 rw [M02.gpow_add] at h1 h2
 rw [Nat.add_comm m n] at h2
 rw [M02.pos_gpow (n+m) (yZ x y)]
 apply M02.cone_pos
 have e:=JV (n+m) x y
 unfold yZ
 rw [e]
 obtain ⟨a1,a2,a3⟩:=h1
 obtain ⟨h,g,f⟩:=h2
 exact ⟨by simp only []; omega,by simp only []; omega,by simp only []; omega⟩
def nn (x:Gd):Prop:=x=(0,0)\/M02.Pos x.1 x.2
def Hy (b:nn x) (a:nn y):nn (yZ x y):=by
 rcases b with rfl | b
 .rw [wm]; exact a
 .rcases a with rfl | a
  .rw [xR]; exact .inr b
  .exact .inr (NG b a)
def Hx (b:nn x) (a:nn y):nn (y9 x y):=by
 rcases b with rfl | b
 .left; simp [y9]
 .rcases a with rfl | a
  .left; simp [y9]
  .exact .inr (M02.pos_mul b a)
def Qj (h:M02.Pos x.1 x.2):¬ M02.Pos (yT x).1 (yT x).2:=by
 intro h'
 have e1:=M02.sgn_pos h
 have e2:=M02.sgn_pos h'
 have:=M02.sgn_opp x.1 x.2
 simp only [yT] at e2
 omega
def Pa (h:nn x) (h':nn (yT x)):x=(0,0):=by
 rcases h with h | h
 .exact h
 .rcases h' with h' | h'
  .have:=congrArg yT h'
   rw [Ud] at this
   rw [this]; rfl
  .exact absurd h' (Qj h)
def nnb (x:Gd):Bool:=decide (0<=M02.sgn x.1 x.2)
def Hw (h:nnb x=true):nn x:=by
 unfold nnb at h
 rw [decide_eq_true_eq] at h
 rcases M02.pos_cases x.1 x.2 with ⟨h1,h2⟩ | a | a
 .exact .inl (Lu h1 h2)
 .exact .inr a
 .have:=M02.sgn_pos a
  rw [M02.sgn_opp] at this
  omega
def VX (k) (h:0<=k):nn (k,0):=by
 by_cases c:k=0
 .left; rw [c]
 .exact .inr (.inl ⟨h,Int.le_refl _,.inl (by omega)⟩)
def F8 (h:nn x):VA x ≠ -1:=by
 rcases h with rfl | h
 .decide
 .unfold VA; rw [M02.sgn_pos h]; decide
def Sd (h:nn (yT x)):VA x≠1:=by
 have:=F8 h
 unfold VA yT at *
 rw [M02.sgn_opp] at this
 omega
def Y3 (r s:List Gd):List Gd:=List.zipWith yZ r s
def cu (c:Gd) (r:List Gd):List Gd:=r.map (y9 c)
def xA (h:r.length=s.length):(Y3 r s).length=r.length:=by simp [Y3,h]
def zJ (c) (r:List Gd):(cu c r).length=r.length:=by simp [cu]
def vj {r s:List Gd} (h:r.length=s.length) (e:∀ k,k < r.length->r.getD k (0,0)=s.getD k (0,0)):r=s:=by
 apply AW h
 intro k h1 h2
 have:=e k h1
 simpa [bR,h1,h2] using this
def w6 (h:r.length=s.length) (k):(Y3 r s).getD k (0,0)=yZ (r.getD k (0,0)) (s.getD k (0,0)):=by
 unfold Y3
 simp only [bR,List.getElem?_zipWith]
 by_cases a:k < r.length
 .simp [a,h ▸ a]
 .have h2:¬ k < s.length:=by omega
  simp [gQ (Ll.mp a),gQ (Ll.mp h2),yZ]
def xK (c) (r:List Gd) (k:Nat):(cu c r).getD k (0,0)=y9 c (r.getD k (0,0)):=by
 unfold cu
 simp only [bR,cK]
 by_cases a:k < r.length
 .simp [a]
 .simp [gQ (Ll.mp a),y9]
def wy (A) (hi:i < r.length) (k):(uM A i r).getD k (0,0)=if k=i then yZ (r.getD i (0,0)) (yT (wj A 0 r (0,0))) else r.getD k (0,0):=by
 unfold uM
 simp only [bR,ff]
 by_cases h:k=i
 .subst h; simp [hi]
 .have:¬ i=k:=λe=>h e.symm
  simp [h,this]
theorem X0 (A):∀ r s k,r.length=s.length->wj A k (Y3 r s) (0,0)=yZ (wj A k r (0,0)) (wj A k s (0,0))
 | [],[],k,_=>rfl
 | [],_ :: _,_,h=>by cases h
 | _ :: _,[],_,h=>by cases h
 | x :: r,y :: s,k,h=>by
  have a:=X0 A r s (k+1) (by simpa using h)
  unfold Y3 at a ⊢
  simp only [LS,wj,wm]
  rw [xY A (List.zipWith yZ r s),a,xY A r (k+1) (y9 (A k) x),xY A s (k+1) (y9 (A k) y)]
  generalize wj A (k+1) r (0,0)=p
  generalize wj A (k+1) s (0,0)=q
  simp only [yZ,y9,ET]
  constructor <;> grind
theorem XZ (A) (c:Gd):∀ r k,wj A k (cu c r) (0,0)=y9 c (wj A k r (0,0))
 | [],k=>by simp [cu,wj,y9]
 | x :: r,k=>by
  have a:=XZ A c r (k+1)
  unfold cu at a ⊢
  simp only [aC,wj,wm]
  rw [xY A (dI (y9 c) r),a,xY A r (k+1) (y9 (A k) x)]
  generalize wj A (k+1) r (0,0)=p
  simp only [yZ,y9,ET]
  constructor <;> grind
def DU (A) (h:r.length=s.length) (hi:i < r.length):uM A i (Y3 r s)=Y3 (uM A i r) (uM A i s):=by
 have a:(uM A i r).length=(uM A i s).length:=by rw [ya,ya,h]
 apply vj (by rw [ya,xA h,xA a,ya])
 intro k _
 rw [wy A (by rw [xA h]; exact hi),w6 a,wy A hi,wy A (h ▸ hi),w6 h,w6 h,X0 A r s 0 h]
 split
 .simp only [yZ,yT,ET]; constructor <;> omega
 .rfl
def Pg (A) (c) (hi:i < r.length):uM A i (cu c r)=cu c (uM A i r):=by
 apply vj (by rw [ya,zJ,zJ,ya])
 intro k _
 rw [wy A (by rw [zJ]; exact hi),XZ]
 simp only [xK]
 rw [wy A hi]
 split
 .simp only [yZ,yT,y9,ET]; constructor <;> grind
 .rfl
def az (n:Nat) (w:List Nat):Prop:=∀ i∈w,i < n
def az.app (b:az n u) (a:az n v):az n (u++v):=λi hi=>(cQ.mp hi).elim (b i) (a i)
def az.left (h:az n (u++v)):az n u:=λi hi=>h i (cQ.mpr (.inl hi))
def az.right (h:az n (u++v)):az n v:=λi hi=>h i (cQ.mpr (.inr hi))
def az.rev (h:az n u):az n u.reverse:=λi hi=>h i (by simpa using hi)
def az.one (h:i < n):az n [i]:=λk a=>by simp at a; omega
def az.cons (h:i < n) (b:az n u):az n (i :: u):=λk a=>by
 rcases aS.mp a with rfl | a
 .exact h
 .exact b k a
section
variable (A:Nat->Nat->Gd)
def xQ (i) (w:List Nat) (r:List Gd):yf A (i :: w) r=uM (A i) i (yf A w r):=rfl
theorem qT:∀ (w) {r s:List Gd},r.length=s.length->az r.length w->yf A w (Y3 r s)=Y3 (yf A w r) (yf A w s)
 | [],r,s,h,hw=>rfl
 | i :: w,r,s,h,hw=>by
  rw [xQ,xQ,xQ,qT w h (λk a=>hw k (aZ _ a)),DU (A i) (by rw [zK,zK,h]) (by rw [zK]; exact hw i aV)]
theorem uq (c):∀ (w) {r:List Gd},az r.length w->yf A w (cu c r)=cu c (yf A w r)
 | [],r,hw=>rfl
 | i :: w,r,hw=>by
  rw [xQ,xQ,uq c w (λk a=>hw k (aZ _ a)),Pg (A i) c (by rw [zK]; exact hw i aV)]
def Eqv (n:Nat) (u v:List Nat):Prop:=∀ r:List Gd,r.length=n->yf A u r=yf A v r
variable {A} {n:Nat}
def Em (u):Eqv A n u u:=λ_ _=>rfl
def Eqv.symm (h:Eqv A n u v):Eqv A n v u:=λr a=>(h r a).symm
def Eqv.trans (h:Eqv A n u v) (h':Eqv A n v w):Eqv A n u w:=λr a=>(h r a).trans (h' r a)
def Eqv.app (h:Eqv A n u c) (h':Eqv A n v b):Eqv A n (u++v) (c++b):=λr a=>by
 rw [xj,xj,h' r a,h _ (by rw [zK,a])]
variable (h2:∀ i,A i i=(2,0))
include h2
def IR (a:s < n):Eqv A n [s,s] []:=λr b=>V1 (h2 s) r (by omega)
def WU (a:az n w):Eqv A n (w.reverse++w) []:=λr b=>by
 rw [xj]
 exact Yp h2 w r (λi hi=>by rw [b]; exact a i hi)
def YF (hw:az n w):Eqv A n (w++w.reverse) []:=by
 have:=WU h2 hw.rev
 rwa [n5] at this
def Eqv.rev (b:az n u) (a:az n v) (h:Eqv A n u v):Eqv A n u.reverse v.reverse:=by
 have a1:Eqv A n (u.reverse++(v++v.reverse)) (u.reverse++[]):=(Em _).app (YF h2 a)
 have a2:Eqv A n ((u.reverse++v)++v.reverse) ((u.reverse++u)++v.reverse):=((Em _).app h.symm).app (Em _)
 have a3:Eqv A n ((u.reverse++u)++v.reverse) ([]++v.reverse):=(WU h2 b).app (Em _)
 rw [bX,<- dh] at a1
 exact a1.symm.trans (a2.trans a3)
def XF (a:s < n):Eqv A n ((w++[s])++[s]) w:=by
 have:=(Em (A:=A) (n:=n) w).app (IR h2 a)
 rw [bX] at this
 simpa using this
end
def XD (P:α->Prop) (f:α->Nat) (h:∃ x,P x):∃ x,P x/\∀ y,P y->f x<=f y:=by
 obtain ⟨x,b⟩:=h
 have gen:∀ k x,P x->f x=k->∃ x,P x/\∀ y,P y->f x<=f y:=by
  intro k
  induction k using I_ with
  | ind k e =>
   intro x b g
   by_cases c:∃ y,P y/\f y < f x
   .obtain ⟨y,a,d⟩:=c
    exact e (f y) (by omega) y a rfl
   .exact ⟨x,b,λy a=>Ll.mp λd=>c ⟨y,a,d⟩⟩
 exact gen _ x b rfl
section
variable (A:Nat->Nat->Gd) (n:Nat)
def Red (w:List Nat):Prop:=az n w/\∀ u,az n u->Eqv A n u w->w.length<=u.length
def jF (w:List Nat) (s:Nat):Prop:=∀ u,az n u->Eqv A n u (w++[s])->w.length<=u.length
def Xs (b:az n w):∃ u,Red A n u/\Eqv A n u w:=by
 obtain ⟨u,⟨h1,a⟩,d⟩:=XD (λu=>az n u/\Eqv A n u w) ny ⟨w,b,Em w⟩
 exact ⟨u,⟨h1,λv c e=>d v ⟨c,e.trans a⟩⟩,a⟩
end
def sel (s t:Nat):Bool->Nat:=λb=>if b=true then s else t
def cb (a b:Gd):List Bool->Tn
 | []=>tn0
 | c :: l=>if c=true then tnI b (cb a b l) else tnJ a (cb a b l)
def alt:Nat->List Bool
 | 0=>[]
 | k+1=>decide (k % 2=1) :: alt k
theorem wY:∀ k,(alt k).length=k
 | 0=>rfl
 | k+1=>by rw [alt,aB,wY k]
theorem YU  : ∀ {k:Nat},m<=k->∃ pre,alt k=pre++alt m
  | 0, h => ⟨[], by have:m=0:=(by omega); subst this; rfl⟩
  | k+1,h=>by
    by_cases c:m=k+1
    · exact ⟨[],by rw [c]; rfl⟩
    · obtain ⟨pre,e⟩:=YU (m:=m) (k:=k) (by omega)
      exact ⟨decide (k % 2=1) :: pre,by rw [alt,e]; rfl⟩
theorem Kr:∀ k,∃ x,alt (k+1)=x++[false]/\x.length=k
 | 0=>⟨[],rfl,rfl⟩
 | k+1=>by
  obtain ⟨x,e,h⟩:=Kr k
  exact ⟨decide ((k+1) % 2=1) :: x,by rw [alt,e]; rfl,by simp [h]⟩
theorem Kq:∀ a,(∀ x b y,a≠x++b :: b :: y)->(∀ x,a≠x++[true])->a=alt a.length
 | [],_,_=>rfl
 | b :: a,h1,h2=>by
  have d:=Kq a (λx c y e=>h1 (b :: x) c y (by rw [e]; rfl)) (λx e=>h2 (b :: x) (by rw [e]; rfl))
  cases a with
  | nil =>
   cases b with
   | true=>exact absurd rfl (h2 [])
   | false=>rfl
  | cons c a =>
   rw [aB] at d ⊢
   have e1:c=decide (a.length % 2=1):=by
    rw [alt] at d
    exact (List.cons.inj d).1
   have e2:b≠c:=λe=>h1 [] b a (by rw [e]; rfl)
   rw [aB,alt,<- d]
   congr 1
   by_cases g:a.length % 2=1
   .have f:¬ ((a.length+1) % 2=1):=by omega
    simp only [g,f,decide_true,decide_false] at e1 ⊢
    cases b <;> simp_all
   .have f:(a.length+1) % 2=1:=by omega
    simp only [g,f,decide_true,decide_false] at e1 ⊢
    cases b <;> simp_all
section
variable {A:Nat->Nat->Gd} {s t n:Nat} (bq:s≠t) (hs2:A s s=(2,0)) (mX:A t t=(2,0))
include bq hs2 mX
def V5 (e:s < r.length) (ht:t < r.length):∀ l,∃ R,yf A (l.map (sel s t)) r=R/\R=W5 s (ev (cb (A s t) (A t s) l).p (wj (A s) 0 r (0,0)) (wj (A t) 0 r (0,0))) (W5 t (ev (cb (A s t) (A t s) l).q (wj (A s) 0 r (0,0)) (wj (A t) 0 r (0,0))) r) ∧
      wj (A s) 0 R (0,0)=ev (cb (A s t) (A t s) l).x (wj (A s) 0 r (0,0)) (wj (A t) 0 r (0,0))/\wj (A t) 0 R (0,0)=ev (cb (A s t) (A t s) l).y (wj (A s) 0 r (0,0)) (wj (A t) 0 r (0,0)):=by
  generalize h:wj (A s) 0 r (0,0)=x
  generalize g:wj (A t) 0 r (0,0)=y
  intro l
  induction l with
  | nil =>
    refine ⟨r,rfl,?_,?_,?_⟩
    · simp only [cb,tn0,P1]
      rw [UD ht,UD e]
    · rw [h]; simp [cb,tn0,ev,yZ,y9]
    · rw [g]; simp [cb,tn0,ev,yZ,y9]
  | cons c l f =>
    obtain ⟨R,h1,h2,d,b⟩:=f
    have i:R.length=r.length:=by rw [h2,jC,jC]
    cases c with
    | false =>
      have a:cb (A s t) (A t s) (false :: l)=tnJ (A s t) (cb (A s t) (A t s) l):=rfl
      rw [a]
      generalize cb (A s t) (A t s) l=z at h2 d b
      have e1:uM (A t) t R=W5 t (ev (CH z.y) x y) R:=by rw [JG,b,XE]
      refine ⟨uM (A t) t R,?_,?_,?_,?_⟩
      · rw [aC,xQ,h1]; rfl
      · rw [e1,h2,<- Cm bq,UE _ _ ht,<- JZ]; rfl
      · rw [e1,ZL (A s) _ (by omega),d,<- T8,<- JZ]; rfl
      · rw [e1,ZL (A t) _ (by omega),b,mX,XE,GA,<- XE]; rfl
    | true =>
      have a:cb (A s t) (A t s) (true :: l)=tnI (A t s) (cb (A s t) (A t s) l):=rfl
      rw [a]
      generalize cb (A s t) (A t s) l=z at h2 d b
      have e2:uM (A s) s R=W5 s (ev (CH z.x) x y) R:=by rw [JG,d,XE]
      refine ⟨uM (A s) s R,?_,?_,?_,?_⟩
      · rw [aC,xQ,h1]; rfl
      · rw [e2,h2,UE _ _ (by rw [jC]; exact e),<- JZ]; rfl
      · rw [e2,ZL (A s) _ (by omega),d,hs2,XE,GA,<- XE]; rfl
      · rw [e2,ZL (A t) _ (by omega),b,<- T8,<- JZ]; rfl
def km (f:s < n) (ht:t < n) (e:(cb (A s t) (A t s) l).p=(cb (A s t) (A t s) a).p) (d:(cb (A s t) (A t s) l).q=(cb (A s t) (A t s) a).q):Eqv A n (l.map (sel s t)) (a.map (sel s t)):=λr g=>by
 obtain ⟨R,h1,h2,_⟩:=V5 bq hs2 mX (r:=r) (by omega) (by omega) l
 obtain ⟨R',b,c,_⟩:=V5 bq hs2 mX (r:=r) (by omega) (by omega) a
 rw [h1,b,h2,c,e,d]
end
def YM (b) {m:Nat} (h:2<=m/\m<=6):(cb (zU (m:Int) b) (zU (m:Int) (!b)) (alt m)).p=(cb (zU (m:Int) b) (zU (m:Int) (!b)) ((alt m).map (!·))).p/\(cb (zU (m:Int) b) (zU (m:Int) (!b)) (alt m)).q=(cb (zU (m:Int) b) (zU (m:Int) (!b)) ((alt m).map (!·))).q:=by
 rcases (by omega:m=2\/m=3\/m=4\/m=5\/m=6) with e | e | e | e | e <;> subst e <;> cases b <;> decide +kernel
def xg (h:k < n):(ye n i).getD k (0,0)=if k=i then (1,0) else (0,0):=by
 unfold ye
 simp [bR,h]
def Gq (n s t:Nat) (p q:Gd):List Gd:=Y3 (cu p (ye n s)) (cu q (ye n t))
def yO (n s t) (p q:Gd):(Gq n s t p q).length=n:=by
 unfold Gq
 rw [xA (by rw [zJ,zJ,zi,zi]),zJ,zi]
def kf (c):y9 c (1,0)=c:=by simp [y9]
def qB (c):y9 c (0,0)=(0,0):=by simp [y9]
def vB (p q) (a:k < n):(Gq n s t p q).getD k (0,0)=yZ (if k=s then p else (0,0)) (if k=t then q else (0,0)):=by
 unfold Gq
 rw [w6 (by rw [zJ,zJ,zi,zi]),xK,xK,xg a,xg a]
 by_cases h1:k=s <;> by_cases h2:k=t <;> simp only [h1,h2,if_true,if_false,kf,qB] <;> split <;> simp [kf,qB]
def Kg (A) (p q) (a:s < n) (ht:t < n):wj A 0 (Gq n s t p q) (0,0)=yZ (y9 p (A s)) (y9 q (A t)):=by
 unfold Gq
 rw [X0 A _ _ 0 (by rw [zJ,zJ,zi,zi]),XZ,XZ,jQ A n s a,jQ A n t ht]
def zam {A:Nat->Nat->Gd} (bq:s≠t) (hs2:A s s=(2,0)) (p q) (a:s < n) (ht:t < n):uM (A s) s (Gq n s t p q)=Gq n s t (yT (yZ p (y9 (A s t) q))) q:=by
 apply vj (by rw [ya,yO,yO])
 intro k b
 rw [ya,yO] at b
 rw [wy (A s) (by rw [yO]; exact a),Kg (A s) p q a ht,vB p q b,vB _ q b,vB p q a,hs2]
 by_cases c:k=s
 .subst c
  simp only [if_true,bq,if_false,xR,yZ,yT,y9,ET]
  constructor <;> grind
 .simp only [c,if_false]
def zal {A:Nat->Nat->Gd} (bq:s≠t) (mX:A t t=(2,0)) (p q) (b:s < n) (ht:t < n):uM (A t) t (Gq n s t p q)=Gq n s t p (yT (yZ q (y9 (A t s) p))):=by
 apply vj (by rw [ya,yO,yO])
 intro k a
 rw [ya,yO] at a
 rw [wy (A t) (by rw [yO]; exact ht),Kg (A t) p q b ht,vB p q a,vB p _ a,vB p q ht,mX]
 by_cases c:k=t
 .subst c
  simp only [if_true,E7 bq,if_false,wm,yZ,yT,y9,ET]
  constructor <;> grind
 .simp only [c,if_false]
def c6 (a b:Gd):Nat->Gd×Gd
 | 0=>((1,0),(0,0))
 | k+1=>if k % 2=1 then (yT (yZ (c6 a b k).1 (y9 a (c6 a b k).2)),(c6 a b k).2) else ((c6 a b k).1,yT (yZ (c6 a b k).2 (y9 b (c6 a b k).1)))
theorem Qw (bq:s≠t) (hs2:A s s=(2,0)) (mX:A t t=(2,0)) (a:s < n) (ht:t < n):∀ k,yf A ((alt k).map (sel s t)) (ye n s)=Gq n s t (c6 (A s t) (A t s) k).1 (c6 (A s t) (A t s) k).2
 | 0=>by
  apply vj (by rw [zK,yO,zi])
  intro k b
  rw [zK,zi] at b
  rw [vB _ _ b]
  show (ye n s).getD k (0,0)=_
  rw [xg b]
  by_cases c:k=s <;> simp [c6,c,yZ]
 | k+1=>by
  have d:=Qw bq hs2 mX a ht k
  rw [alt,aC,xQ,d,c6]
  by_cases c:k % 2=1
  .have e:sel s t (decide (k % 2=1))=s:=by simp [sel,c]
   rw [e,if_pos c,zam bq hs2 _ _ a ht]
  .have e:sel s t (decide (k % 2=1))=t:=by simp [sel,c]
   rw [e,if_neg c,zal bq mX _ _ a ht]
def PQ (x:Gd×Gd):Prop:=nn x.1/\nn x.2/\(x.2=(0,0)->x.1=(1,0))/\(x.1=(0,0)->x.2=(1,0))
def Mm (b) (h:2<=m/\m<=6) {k:Nat} (a:k < m):PQ (c6 (zU (m:Int) b) (zU (m:Int) (!b)) k):=by
 have key:∀ m:Fin 7,2<=m.1->∀ b:Bool,∀ k:Fin 7,k.1 < m.1->nnb (c6 (zU (m.1:Int) b) (zU (m.1:Int) (!b)) k.1).1=true/\nnb (c6 (zU (m.1:Int) b) (zU (m.1:Int) (!b)) k.1).2=true ∧
   ((c6 (zU (m.1:Int) b) (zU (m.1:Int) (!b)) k.1).2=(0,0)->(c6 (zU (m.1:Int) b) (zU (m.1:Int) (!b)) k.1).1=(1,0))/\((c6 (zU (m.1:Int) b) (zU (m.1:Int) (!b)) k.1).1=(0,0)->(c6 (zU (m.1:Int) b) (zU (m.1:Int) (!b)) k.1).2=(1,0)):=by decide +kernel
 have:=key ⟨m,by omega⟩ h.1 b ⟨k,by omega⟩ a
 exact ⟨Hw this.1,Hw this.2.1,this.2.2.1,this.2.2.2⟩
theorem ZH:∀ k,c6 (-2,0) (-2,0) k=if k % 2=1 then (((k:Int),0),((k:Int)+1,0)) else (((k:Int)+1,0),((k:Int),0))
 | 0=>rfl
 | k+1=>by
  rw [c6,ZH k]
  by_cases c:k % 2=1
  .have a:¬ ((k+1) % 2=1):=by omega
   rw [if_pos c,if_pos c,if_neg a]
   refine Lu (Lu ?_ ?_) (Lu ?_ ?_) <;> simp only [yT,yZ,y9] <;> grind
  .have a:(k+1) % 2=1:=by omega
   rw [if_neg c,if_neg c,if_pos a]
   refine Lu (Lu ?_ ?_) (Lu ?_ ?_) <;> simp only [yT,yZ,y9] <;> grind
def Ye (k):PQ (c6 (-2,0) (-2,0) k):=by
 rw [ZH]
 split
 .refine ⟨VX _ (by omega),VX _ (by omega),λe=>?_,λe=>?_⟩
  .have:=congrArg Prod.fst e; simp only at this; omega
  .have:=congrArg Prod.fst e; simp only at this; omega
 .refine ⟨VX _ (by omega),VX _ (by omega),λe=>?_,λe=>?_⟩
  .have:=congrArg Prod.fst e
   simp only at this ⊢
   rw [this]; rfl
  .have:=congrArg Prod.fst e; simp only at this; omega
def CS (b) (h:2<=m/\m<=6) {k:Nat} (a:k < m) :
  ((c6 (zU (m:Int) b) (zU (m:Int) (!b)) k).2=(0,0)->(cb (zU (m:Int) b) (zU (m:Int) (!b)) (alt k++[true])).p=(cb (zU (m:Int) b) (zU (m:Int) (!b)) (true :: alt k)).p/\(cb (zU (m:Int) b) (zU (m:Int) (!b)) (alt k++[true])).q=(cb (zU (m:Int) b) (zU (m:Int) (!b)) (true :: alt k)).q) ∧
  ((c6 (zU (m:Int) b) (zU (m:Int) (!b)) k).1=(0,0)->(cb (zU (m:Int) b) (zU (m:Int) (!b)) (alt k++[true])).p=(cb (zU (m:Int) b) (zU (m:Int) (!b)) (false :: alt k)).p/\(cb (zU (m:Int) b) (zU (m:Int) (!b)) (alt k++[true])).q=(cb (zU (m:Int) b) (zU (m:Int) (!b)) (false :: alt k)).q):=by
 have key:∀ m:Fin 7,2<=m.1->∀ b:Bool,∀ k:Fin 7,k.1 < m.1 →
  ((c6 (zU (m.1:Int) b) (zU (m.1:Int) (!b)) k.1).2=(0,0)->(cb (zU (m.1:Int) b) (zU (m.1:Int) (!b)) (alt k.1++[true])).p=(cb (zU (m.1:Int) b) (zU (m.1:Int) (!b)) (true :: alt k.1)).p/\(cb (zU (m.1:Int) b) (zU (m.1:Int) (!b)) (alt k.1++[true])).q=(cb (zU (m.1:Int) b) (zU (m.1:Int) (!b)) (true :: alt k.1)).q) ∧
  ((c6 (zU (m.1:Int) b) (zU (m.1:Int) (!b)) k.1).1=(0,0)->(cb (zU (m.1:Int) b) (zU (m.1:Int) (!b)) (alt k.1++[true])).p=(cb (zU (m.1:Int) b) (zU (m.1:Int) (!b)) (false :: alt k.1)).p/\(cb (zU (m.1:Int) b) (zU (m.1:Int) (!b)) (alt k.1++[true])).q=(cb (zU (m.1:Int) b) (zU (m.1:Int) (!b)) (false :: alt k.1)).q):=by decide +kernel
 exact key ⟨m,by omega⟩ h.1 b ⟨k,by omega⟩ a
def Wt (ts) (a:i≠j):zg ts i j=zU (zu ts i j) (decide (i < j))/\zg ts j i=zU (zu ts i j) (!decide (i < j)):=by
 unfold zg Zw
 have h1:¬ ((i:Int)=(j:Int)):=by omega
 have h2:¬ ((j:Int)=(i:Int)):=by omega
 rw [if_neg h1,if_neg h2,wc ts j i]
 refine ⟨by congr 1; simp,?_⟩
 congr 1
 by_cases c:i < j
 .have:¬ ((j:Int) < (i:Int)):=by omega
  simp [c,this]
 .have:(j:Int) < (i:Int):=by omega
  simp [c,this]
def dC (r:List Gd):Prop:=∀ k,nn (r.getD k (0,0))
def GP (hg:yh ts) (w) (s:Nat) (hs:s < n) (hw:Red (zg ts) n w) (hd:jF (zg ts) n w s) (lK:w≠[]):∃ (v:List Nat) (t:Nat) (x:Gd×Gd),v.length < w.length/\t < n/\t≠s/\Red (zg ts) n v/\jF (zg ts) n v s/\jF (zg ts) n v t/\PQ x ∧
    yf (zg ts) w (ye n s)=Y3 (cu x.1 (yf (zg ts) v (ye n s))) (cu x.2 (yf (zg ts) v (ye n t))) ∧
    ∃ b,az n b/\Eqv (zg ts) n (v++b) w/\(x.2=(0,0)->Eqv (zg ts) n (b++[s]) (s :: b))/\(x.1=(0,0)->Eqv (zg ts) n (b++[s]) (t :: b)):=by
  have h2:=zT ts
  obtain ⟨w',t,rfl⟩:∃ w' t,w=w'++[t]:=⟨w.dropLast,w.getLast lK,(A3 lK).symm⟩
  have ht:t < n:=hw.1 t (by simp)
  have nR:az n w':=hw.1.left
  have bq:s≠t:=by
    intro e
    subst e
    have:=hd w' nR (XF h2 hs).symm
    simp at this
    omega
  have oM:∀ b,sel s t b < n:=λb=>by cases b <;> simp [sel] <;> assumption
  have d_:∀ l:List Bool,az n (l.map (sel s t)):=λl i hi=>by
    obtain ⟨b,_,rfl⟩:=bu.mp hi
    exact oM b
  obtain ⟨⟨v,a⟩,⟨hv,he,hl⟩,oQ⟩:=XD (λp:List Nat×List Bool=>az n p.1/\Eqv (zg ts) n (p.1++p.2.map (sel s t)) (w'++[t])/\p.1.length+p.2.length=(w'++[t]).length) (λp=>p.1.length) ⟨(w',[false]),nR,Em _,by simp⟩
  simp only at hv he hl oQ
  have hv1:v.length<=w'.length:=oQ (w',[false]) ⟨nR,Em _,by simp⟩
  have oI:(w'++[t]).length=w'.length+1:=by simp
  have vred:Red (zg ts) n v:=⟨hv,λu hu e=>by
    have:=hw.2 (u++a.map (sel s t)) (hu.app (d_ a)) ((e.app (Em _)).trans he)
    simp only [aW,aD,aB,aI] at this hl
    omega⟩
  have vnd:∀ b,jF (zg ts) n v (sel s t b):=λb u hu e=>by
    apply Ll.mp
    intro e7
    have e2:Eqv (zg ts) n (u++(b :: a).map (sel s t)) (w'++[t]):=by
      have e3:Eqv (zg ts) n ((u++[sel s t b])++a.map (sel s t)) (((v++[sel s t b])++[sel s t b])++a.map (sel s t)):=(e.app (Em _)).app (Em _)
      have e4:Eqv (zg ts) n (((v++[sel s t b])++[sel s t b])++a.map (sel s t)) (v++a.map (sel s t)):=(XF h2 (oM b)).app (Em _)
      have e5:=e3.trans (e4.trans he)
      have:(u++[sel s t b])++a.map (sel s t)=u++(b :: a).map (sel s t):=by simp
      rwa [this] at e5
    have l1:=hw.2 (u++(b :: a).map (sel s t)) (hu.app (d_ _)) e2
    simp only [aW,aD,aB,aI] at l1 hl
    have:=oQ (u,b :: a) ⟨hu,e2,by simp only [aW,aB,aI]; omega⟩
    simp only at this
    omega
  have gW:∀ u:List Nat,az n u->Eqv (zg ts) n (u++[s]) (w'++[t])->(w'++[t]).length<=u.length:=λu hu e=>by
    apply hd u hu
    exact (XF h2 hs).symm.trans (e.app (Em _))
  have a1:∀ x b y,a≠x++b :: b :: y:=λx b y e=>by
    subst e
    have e1:Eqv (zg ts) n (v++(x++y).map (sel s t)) (v++(x++b :: b :: y).map (sel s t)):=by
      refine (Em v).app ?_
      rw [bK,bK]
      refine (Em _).app ?_
      have:=(IR (n:=n) h2 (oM b)).symm.app (Em (A:=zg ts) (y.map (sel s t)))
      simpa using this
    have:=hw.2 (v++(x++y).map (sel s t)) (hv.app (d_ _)) (e1.trans he)
    simp only [aW,aD,aB] at this hl
    omega
  have a2:∀ x,a≠x++[true]:=λx e=>by
    subst e
    have:=gW (v++x.map (sel s t)) (hv.app (d_ _)) (by simpa [sel] using he)
    simp only [aW,aD,aB,aI] at this hl
    omega
  have ha:=Kq a a1 a2
  obtain ⟨p1,p2⟩:=Wt ts bq
  have gt:=qP hg (s:Int) (t:Int)
  have oN:PQ (c6 (zg ts s t) (zg ts t s) a.length)/\((c6 (zg ts s t) (zg ts t s) a.length).2=(0,0)->Eqv (zg ts) n (a.map (sel s t)++[s]) (s :: a.map (sel s t)))/\((c6 (zg ts s t) (zg ts t s) a.length).1=(0,0)->Eqv (zg ts) n (a.map (sel s t)++[s]) (t :: a.map (sel s t))):=by
    rcases gt with g0 | gt
    · rw [g0] at p1 p2
      have q1:zU 0 (decide (s < t))=(-2,0):=by cases decide (s < t) <;> rfl
      have q2:zU 0 (!decide (s < t))=(-2,0):=by cases decide (s < t) <;> rfl
      rw [p1,p2,q1,q2]
      refine ⟨Ye _,λe=>?_,λe=>?_⟩
      · rw [ZH] at e
        have hk0:a.length=0:=by
          split at e
          · have:=congrArg Prod.fst e; simp only at this; omega
          · have:=congrArg Prod.fst e; simp only at this; omega
        have:a=[]:=n8.mp hk0
        rw [this]
        exact Em _
      · rw [ZH] at e
        exfalso
        split at e
        · have:=congrArg Prod.fst e; simp only at this; omega
        · have:=congrArg Prod.fst e; simp only at this; omega
    · obtain ⟨m,em⟩:∃ m:Nat,zu ts s t=(m:Int):=⟨(zu ts s t).toNat,by omega⟩
      rw [em] at p1 p2 gt
      have hm:2<=m/\m<=6:=by omega
      have hkm:a.length < m:=by
       apply Nat.not_le.mp
       intro hle
       obtain ⟨pre,C_⟩:=YU hle
       obtain ⟨b1,b2⟩:=YM (decide (s < t)) hm
       rw [<- p1,<- p2] at b1 b2
       have br:=km (n:=n) bq (h2 s) (h2 t) hs ht b1 b2
       obtain ⟨y,ey,hy⟩:=Kr (m - 1)
       have em1:m - 1+1=m:=by omega
       rw [em1] at ey
       have ey2:(alt m).map (!·)=y.map (!·)++[true]:=by rw [ey]; simp
       rw [ey2,bK] at br
       have e1:Eqv (zg ts) n (v++(pre.map (sel s t)++((y.map (!·)).map (sel s t)++[s]))) (w'++[t]):=by
         have e2:a.map (sel s t)=pre.map (sel s t)++(alt m).map (sel s t):=by rw [ha,C_,bK]
         rw [e2] at he
         refine Eqv.trans ?_ he
         refine (Em v).app ((Em _).app ?_)
         exact br.symm
       have:=gW (v++(pre.map (sel s t)++(y.map (!·)).map (sel s t))) (hv.app ((d_ _).app (d_ _))) (by simpa using e1)
       have el:a.length=pre.length+m:=by
         have:=congrArg ny C_
         rw [aW,wY,wY] at this
         exact this
       simp only [aW,aD,aB,aI] at this hl
       omega
      obtain ⟨w1,w2⟩:=CS (decide (s < t)) hm hkm
      rw [p1,p2]
      refine ⟨Mm _ hm hkm,λe=>?_,λe=>?_⟩
      · obtain ⟨f1,f2⟩:=w1 e
        rw [<- p1,<- p2,<- ha] at f1 f2
        have:=km (n:=n) bq (h2 s) (h2 t) hs ht f1 f2
        simpa [sel] using this
      · obtain ⟨f1,f2⟩:=w2 e
        rw [<- p1,<- p2,<- ha] at f1 f2
        have:=km (n:=n) bq (h2 s) (h2 t) hs ht f1 f2
        simpa [sel] using this
  have le:=Qw bq (h2 s) (h2 t) hs ht a.length
  rw [<- ha] at le
  have e:=he (ye n s) (zi n s)
  rw [xj,le] at e
  have hlen:(cu (c6 (zg ts s t) (zg ts t s) a.length).1 (ye n s)).length=(cu (c6 (zg ts s t) (zg ts t s) a.length).2 (ye n t)).length:=by rw [zJ,zJ,zi,zi]
  unfold Gq at e
  rw [qT _ _ hlen (by rw [zJ,zi]; exact hv),uq _ _ _ (by rw [zi]; exact hv),uq _ _ _ (by rw [zi]; exact hv)] at e
  refine ⟨v,t,_,by omega,ht,E7 bq,vred,by have:=vnd true; simpa [sel] using this,by have:=vnd false; simpa [sel] using this,oN.1,e.symm,a.map (sel s t),d_ a,he,oN.2.1,oN.2.2⟩
def UU (hg:yh ts):∀ k w s,w.length=k->s < n->Red (zg ts) n w->jF (zg ts) n w s->dC (yf (zg ts) w (ye n s)):=by
 intro k
 induction k using I_ with
 | ind k c =>
  intro w s m f h hd
  by_cases b:w=[]
  .subst b
   intro j
   show nn ((ye n s).getD j (0,0))
   by_cases i:j < n
   .rw [xg i]
    split
    .exact VX 1 (by decide)
    .exact .inl rfl
   .left
    simp [bR,gQ (show (ye n s).length<=j by rw [zi]; omega)]
  .obtain ⟨v,t,x,l,ht,_,a,vs,g,d,e,_⟩:=GP hg w s f h hd b
   have ps:=c v.length (by omega) v s rfl f a vs
   have pt:=c v.length (by omega) v t rfl ht a g
   intro j
   rw [e,w6 (by rw [zJ,zJ,zK,zK,zi,zi]),xK,xK]
   exact Hy (Hx d.1 (ps j)) (Hx d.2.1 (pt j))
def dP (r:List Gd):Prop:=∀ k,nn (yT (r.getD k (0,0)))
def K4 (s:Int) (r:List Gd):Bool:=r.any λx=>decide (VA x=s)
def JU (h:K4 s r=true):∃ k,k < r.length/\VA (r.getD k (0,0))=s:=by
 unfold K4 at h
 rw [nZ] at h
 obtain ⟨x,b,e⟩:=h
 obtain ⟨k,a,c⟩:=List.getElem_of_mem b
 refine ⟨k,a,?_⟩
 simp only [bR,fg a,AX,c]
 simpa using e
def QE (a:k < r.length) (h:VA (r.getD k (0,0))=s):K4 s r=true:=by
 unfold K4
 rw [nZ]
 refine ⟨r[k],rX a,?_⟩
 simp only [bR,fg a,AX] at h
 simpa using h
def dC.no (h:dC r):K4 (-1) r=false:=by
 apply Bool.eq_false_iff.mpr
 intro e
 obtain ⟨k,_,a⟩:=JU e
 exact F8 (h k) a
def dP.no (h:dP r):K4 1 r=false:=by
 apply Bool.eq_false_iff.mpr
 intro e
 obtain ⟨k,_,a⟩:=JU e
 exact Sd (h k) a
def Nz (r:List Gd):Prop:=∃ k,k < r.length/\r.getD k (0,0)≠(0,0)
def dC.yes (h:dC r) (hz:Nz r):K4 1 r=true:=by
 obtain ⟨k,a,e⟩:=hz
 refine QE a ?_
 rcases h k with c | c
 .exact absurd c e
 .exact M02.sgn_pos c
def dP.yes (h:dP r) (hz:Nz r):K4 (-1) r=true:=by
 obtain ⟨k,hk,e⟩:=hz
 refine QE hk ?_
 rcases h k with c | c
 .exact absurd (by have:=congrArg yT c; rwa [Ud] at this) e
 .have:=M02.sgn_pos c
  simp only [yT] at this
  rw [M02.sgn_opp] at this
  unfold VA
  omega
def dC.notP (h:dC r) (hz:Nz r):¬ dP r:=λh'=>by
 obtain ⟨k,_,e⟩:=hz
 exact e (Pa (h k) (h' k))
section
variable {ts:List T3} {n:Nat}
def WE (a:az r.length w) (hz:∀ k,r.getD k (0,0)=(0,0)):∀ k,(yf (zg ts) w r).getD k (0,0)=(0,0):=by
 have e:r=cu (0,0) r:=vj (by rw [zJ]) λk _=>by rw [xK,hz]; rfl
 intro k
 rw [e,uq _ _ _ a,xK]
 simp [y9]
def ue (a:az n w) (c:s < n):Nz (yf (zg ts) w (ye n s)):=by
 apply Et
 intro d
 have hz:∀ k,(yf (zg ts) w (ye n s)).getD k (0,0)=(0,0):=λk=>by
  by_cases b:k < (yf (zg ts) w (ye n s)).length
  .exact Et λe=>d ⟨k,b,e⟩
  .simp [bR,gQ (Ll.mp b)]
 have h1:=WE (ts:=ts) (w:=w.reverse) (by rw [zK,zi]; exact a.rev) hz s
 rw [Yp (zT ts) w (ye n s) (λi hi=>by rw [zi]; exact a i hi),xg c,if_pos rfl] at h1
 cases h1
def HS (d:az n w) (a:s < n) (k):(yf (zg ts) (w++[s]) (ye n s)).getD k (0,0)=yT ((yf (zg ts) w (ye n s)).getD k (0,0)):=by
 have e:uM (zg ts s) s (ye n s)=cu (-1,0) (ye n s):=by
  apply vj (by rw [ya,zJ])
  intro j b
  rw [ya,zi] at b
  rw [wy _ (by rw [zi]; exact a),xK,jQ _ n s a,zT,xg a,xg b]
  by_cases c:j=s
  .simp [c,yZ,yT,y9]
  .simp [c,y9]
 rw [xj,xQ]
 show (yf (zg ts) w (uM (zg ts s) s (ye n s))).getD k (0,0)=_
 rw [e,uq _ _ _ (by rw [zi]; exact d),xK]
 simp [y9,yT]
def b4 (ts:List T3) (n:Nat) (w:List Nat) (l:Nat):Prop:=∃ u,Red (zg ts) n u/\Eqv (zg ts) n u w/\u.length=l
def b4.ex (a:az n w):∃ l,b4 ts n w l:=by
 obtain ⟨u,h1,h2⟩:=Xs (zg ts) n a
 exact ⟨_,u,h1,h2,rfl⟩
def b4.le (h:b4 ts n w l) (a:az n u) (e:Eqv (zg ts) n u w):l<=u.length:=by
 obtain ⟨v,h1,h2,rfl⟩:=h
 exact h1.2 u a (e.trans h2.symm)
def b4.cong (h:b4 ts n w l) (e:Eqv (zg ts) n w a):b4 ts n a l:=by
 obtain ⟨v,h1,h2,b⟩:=h
 exact ⟨v,h1,h2.trans e,b⟩
def b4.uniq (h:b4 ts n w l) (h':b4 ts n w f):l=f:=by
 obtain ⟨v,h1,h2,rfl⟩:=h
 obtain ⟨e,c,d,rfl⟩:=h'
 have a:=h1.2 e c.1 (d.trans h2.symm)
 have b:=c.2 v h1.1 (h2.trans d.symm)
 omega
def b4.nil:b4 ts n [] 0:=⟨[],⟨(λi hi=>by cases hi),λu _ _=>dJ _⟩,Em _,rfl⟩
def b4.zero (h:b4 ts n w 0):Eqv (zg ts) n w []:=by
 obtain ⟨v,h1,h2,a⟩:=h
 have:v=[]:=n8.mp a
 subst this
 exact h2.symm
def b4.rev (i:az n w) (h:b4 ts n w l):b4 ts n w.reverse l:=by
 obtain ⟨g,h'⟩:=b4.ex (ts:=ts) i.rev
 obtain ⟨u,f,j,o⟩:=h
 obtain ⟨k,c,d,m⟩:=h'
 have a:g<=l:=by
  have:=c.2 u.reverse f.1.rev ((Eqv.rev (zT ts) f.1 i j).trans d.symm)
  rw [n4] at this
  omega
 have b:l<=g:=by
  have e:=Eqv.rev (zT ts) c.1 i.rev d
  rw [n5] at e
  have:=f.2 k.reverse c.1.rev (e.trans j.symm)
  rw [n4] at this
  omega
 have:g=l:=by omega
 subst this
 exact ⟨k,c,d,m⟩
variable (hg:yh ts)
include hg
def xq (t:az n w) (a:s < n) (q:b4 ts n w l) :
  (dC (yf (zg ts) w (ye n s))/\b4 ts n (w++[s]) (l+1))\/(dP (yf (zg ts) w (ye n s))/\1<=l/\b4 ts n (w++[s]) (l - 1)):=by
 have h2:=zT ts
 obtain ⟨u,d,m,rfl⟩:=q
 have r:=m (ye n s) (zi n s)
 obtain ⟨x,f,g⟩:=Xs (zg ts) n (d.1.app (az.one a))
 have p:=f.2 (u++[s]) (d.1.app (az.one a)) g.symm
 have xs:Eqv (zg ts) n (x++[s]) u:=(g.app (Em _)).trans (XF h2 a)
 have j:=d.2 (x++[s]) (f.1.app (az.one a)) xs
 rw [aW,di] at p j
 have ex:=g (ye n s) (zi n s)
 have neg:∀ k,(yf (zg ts) x (ye n s)).getD k (0,0)=yT ((yf (zg ts) u (ye n s)).getD k (0,0)):=λk=>by rw [ex,HS d.1 a]
 have o:Eqv (zg ts) n x (w++[s]):=g.trans (m.app (Em _))
 have b:x.length<=u.length->dP (yf (zg ts) u (ye n s)):=λh=>by
  have nd:jF (zg ts) n x s:=λy i e=>by
   have:=d.2 y i (e.trans xs)
   omega
  have:=UU hg x.length x s rfl a f nd
  intro k
  rw [<- neg k]
  exact this k
 have up:u.length<=x.length->dC (yf (zg ts) u (ye n s)):=λh=>by
  have nd:jF (zg ts) n u s:=λy i e=>by
   have:=f.2 y i (e.trans g.symm)
   omega
  exact UU hg u.length u s rfl a d nd
 rw [<- r]
 rcases LF x.length u.length with c | c | c
 .right
  refine ⟨b (by omega),by omega,x,f,o,by omega⟩
 .exact absurd (b (by omega)) ((up (by omega)).notP (ue d.1 a))
 .left
  exact ⟨up (by omega),x,f,o,by omega⟩
def Jn (a:az n w) (b:s < n):dC (yf (zg ts) w (ye n s))\/dP (yf (zg ts) w (ye n s)):=by
 obtain ⟨l,c⟩:=b4.ex (ts:=ts) a
 rcases xq hg a b c with h | h
 .exact .inl h.1
 .exact .inr h.1
def GR (d:az n w) (f:b4 ts n w l) (h:1<=l):∃ s,s < n/\dP (yf (zg ts) w (ye n s)):=by
 obtain ⟨u,a,b,rfl⟩:=f
 have c:u≠[]:=λe=>by subst e; simp at h
 obtain ⟨v,t,rfl⟩:∃ v t,u=v++[t]:=⟨u.dropLast,u.getLast c,(A3 c).symm⟩
 have ht:t < n:=a.1 t (by simp)
 refine ⟨t,ht,?_⟩
 rcases xq hg d ht ⟨v++[t],a,b,rfl⟩ with ⟨_,h'⟩ | h'
 .have e:Eqv (zg ts) n v (w++[t]):=(XF (zT ts) ht).symm.trans (b.app (Em _))
  have:=h'.le a.1.left e
  simp only [aW,di] at this
  omega
 .exact h'.1
end
def Y5 (r:List Gd):Bool:=K4 1 r && !K4 (-1) r
def XR (r:List Gd):Bool:=K4 (-1) r && !K4 1 r
def dC.abv (h:dC r) (hz:Nz r):Y5 r=true/\XR r=false:=by simp [Y5,XR,h.no,h.yes hz]
def dP.blw (h:dP r) (hz:Nz r):Y5 r=false/\XR r=true:=by simp [Y5,XR,h.no,h.yes hz]
def ub (ts:List T3) (n:Nat):List Nat->List Nat->List Bool
 | _,[]=>[]
 | pre,s :: w=>Y5 (yf (zg ts) pre (ye n s)) :: ub ts n (pre++[s]) w
def GJ:List Bool->Int
 | []=>0
 | b :: l=>(if b=true then 1 else -1)+GJ l
theorem jP (ts) (n:Nat):∀ w pre,(ub ts n pre w).length=w.length
 | [],_=>rfl
 | s :: w,pre=>by rw [ub,aB,jP ts n w,aB]
theorem GI:∀ l,GJ l<=l.length/\(GJ l=l.length↔l.all id=true)/\(GJ l - l.length) % 2=0
 | []=>by simp [GJ]
 | b :: l=>by
  obtain ⟨h1,h2,a⟩:=GI l
  cases b
  .simp only [GJ,b5,if_false,aB,List.all_cons,id,Bool.false_and,iff_false]
   refine ⟨by omega,by omega,by omega⟩
  .simp only [GJ,if_true,aB,List.all_cons,id,Bool.true_and]
   refine ⟨by omega,?_,by omega⟩
   rw [<- h2]
   omega
theorem U3 (hg:yh ts):∀ (w pre) {l d:Nat},az n pre->az n w->b4 ts n pre l->b4 ts n (pre++w) d->(d:Int)=l+GJ (ub ts n pre w)
 | [],pre,l,d,e,hw,h1,h2=>by
  rw [bX] at h2
  have:=h1.uniq h2
  simp [ub,GJ,this]
 | s :: w,pre,l,d,e,hw,h1,h2=>by
  have f:s < n:=hw s aV
  have h:az n w:=λi hi=>hw i (aZ _ hi)
  have j:b4 ts n ((pre++[s])++w) d:=by simpa using h2
  have g:=ue (ts:=ts) e f
  rw [ub,GJ]
  rcases xq hg e f h1 with ⟨a,b⟩ | ⟨a,b,c⟩
  .have k:=U3 hg w (pre++[s]) (e.app (az.one f)) h b j
   rw [(a.abv g).1,if_pos rfl]
   omega
  .have k:=U3 hg w (pre++[s]) (e.app (az.one f)) h c j
   rw [(a.blw g).1]
   simp only [b5,if_false]
   omega
def CT (hg:yh ts) (a:az n w) (h:b4 ts n w l):GJ (ub ts n [] w)=l:=by
 have:=U3 hg w [] (λi hi=>by cases hi) a b4.nil (by rw [bw]; exact h)
 omega
section
variable (ts:List T3) (n:Nat)
def ug (u:List Nat):Option Nat:=(aK n).find? λi=>XR (yf (zg ts) u (ye n i))
inductive Lst:List Nat->List Nat->Prop
 | nil {u:List Nat} (h:ug ts n u=none):Lst u []
 | cons {u v:List Nat} {i:Nat} (h:ug ts n u=some i) (t:Lst (u++[i]) v):Lst u (i :: v)
end
variable {ts:List T3} {n:Nat}
def YD (e:Eqv (zg ts) n u a):ug ts n u=ug ts n a:=by
 unfold ug
 congr 1
 funext i
 rw [e (ye n i) (zi n i)]
def Lst.cong (h:Lst ts n u v):∀ {a:List Nat},Eqv (zg ts) n u a->Lst ts n a v:=by
 induction h with
 | nil h=>intro a e; exact .nil (by rw [<- YD e]; exact h)
 | cons h t b=>intro a e; exact .cons (by rw [<- YD e]; exact h) (b (e.app (Em _)))
def Lst.uniq (h:Lst ts n u v):∀ {a:List Nat},Lst ts n u a->v=a:=by
 induction h with
 | nil h =>
  intro a h'
  cases h' with
  | nil _=>rfl
  | cons h' _=>rw [h] at h'; cases h'
 | cons h t b =>
  intro a h'
  cases h' with
  | nil h'=>rw [h] at h'; cases h'
  | cons h' t' =>
   rw [h] at h'
   cases h'
   rw [b t']
def uP (h:ug ts n u=some i):i < n/\XR (yf (zg ts) u (ye n i))=true/\∀ j,j < i->XR (yf (zg ts) u (ye n j))=false:=by
 unfold ug at h
 have h1:=List.mem_of_find?_eq_some h
 have h2:=List.find?_some h
 refine ⟨dA.mp h1,h2,λj a=>?_⟩
 rw [List.find?_range_eq_some] at h
 have:=h.2.2 j a
 simpa using this
def QJ (h:ug ts n u=none) (hi:i < n):XR (yf (zg ts) u (ye n i))=false:=by
 unfold ug at h
 rw [List.find?_eq_none] at h
 have:=h i (dA.mpr hi)
 simpa using this
def BA (hi:i < n) (h:XR (yf (zg ts) u (ye n i))=true):∃ j,ug ts n u=some j:=by
 cases e:ug ts n u with
 | some j=>exact ⟨j,rfl⟩
 | none=>rw [QJ e hi] at h; cases h
theorem HM (hg:yh ts):∀ (l) {u:List Nat},az n u->b4 ts n u l->∃ v,Lst ts n u v/\v.length=l/\az n v/\Eqv (zg ts) n (u++v) []
 | 0,u,d,e=>by
  refine ⟨[],.nil ?_,rfl,(λi hi=>by cases hi),by rw [bX]; exact e.zero⟩
  unfold ug
  rw [List.find?_eq_none]
  intro i hi
  have h:=dA.mp hi
  rcases xq hg d h e with ⟨a,_⟩ | ⟨_,b,_⟩
  .rw [(a.abv (ue d h)).2]; decide
  .omega
 | l+1,u,d,e=>by
  obtain ⟨s,g,o⟩:=GR hg d e (by omega)
  obtain ⟨i,hi⟩:=BA g (o.blw (ue d g)).2
  obtain ⟨h1,h2,_⟩:=uP hi
  have p:b4 ts n (u++[i]) l:=by
   rcases xq hg d h1 e with ⟨a,_⟩ | ⟨_,_,c⟩
   .rw [(a.abv (ue d h1)).2] at h2; cases h2
   .exact c
  obtain ⟨v,m,k,j,f⟩:=HM hg l (d.app (az.one h1)) p
  refine ⟨i :: v,.cons hi m,by rw [aB,k],j.cons h1,?_⟩
  rw [dh] at f
  exact f
def WG (hg:yh ts) (a:az n w):∃ (v:List Nat) (l:Nat),Lst ts n w.reverse v/\az n v/\Eqv (zg ts) n v w/\b4 ts n v l/\v.length=l/\l<=w.length:=by
 obtain ⟨l,b⟩:=b4.ex (ts:=ts) a
 obtain ⟨v,g,f,d,c⟩:=HM hg l a.rev (b.rev a)
 have e:Eqv (zg ts) n v w:=by
  have a1:Eqv (zg ts) n (w++(w.reverse++v)) (w++[]):=(Em _).app c
  have a2:Eqv (zg ts) n ((w++w.reverse)++v) ([]++v):=(YF (zT ts) a).app (Em _)
  rw [bX] at a1
  rw [dh,bw] at a2
  exact a2.symm.trans a1
 exact ⟨v,l,g,d,e,b.cong e.symm,f,b.le a (Em _)⟩
end GH
namespace GH
def KH (c) (a:k < n):(cu c (ye n i)).getD k (0,0)=if k=i then c else (0,0):=by
 rw [xK,xg a]
 split
 .exact kf c
 .exact qB c
section
variable {ts:List T3} {n:Nat}
def Sh (ts:List T3) (n:Nat) (w:List Nat):Prop:=az n w/\b4 ts n w w.length
def Sh.cut (h:Sh ts n (a++b++c)):Sh ts n b:=by
 obtain ⟨h1,h2⟩:=h
 have f:az n b:=h1.left.right
 obtain ⟨l,d⟩:=b4.ex (ts:=ts) f
 refine ⟨f,?_⟩
 have j:=d
 obtain ⟨v,i,g,k⟩:=j
 have e:Eqv (zg ts) n (a++v++c) (a++b++c):=((Em _).app g).app (Em _)
 have:=h2.le ((h1.left.left.app i.1).app h1.right) e
 simp only [aW] at this
 have m:=d.le f (Em _)
 have:l=b.length:=by omega
 rw [<- this]
 exact d
def Sh.rev (h:Sh ts n a):Sh ts n a.reverse:=⟨h.1.rev,by rw [n4]; exact h.2.rev h.1⟩
def Sh.up (hg:yh ts) (h:Sh ts n (u++[s])):dC (yf (zg ts) u (ye n s)):=by
 have e:s < n:=h.1 s (by simp)
 have d:Sh ts n u:=Sh.cut (a:=[]) (c:=[s]) (by simpa using h)
 rcases xq hg d.1 e d.2 with ⟨a,_⟩ | ⟨_,b,c⟩
 .exact a
 .have:=c.uniq h.2
  simp only [aW,di] at this
  omega
def WN {v:List Nat} (h:a < v.length):v.getD a 0=v[a]:=by simp [bR,h]
end
section
variable {ts:List T3} {n:Nat}
end
section
variable {ts:List T3} {n:Nat}
def qd (n m:Nat) (r:List Gd):List Gd:=(aK n).map λk=>if k < m then r.getD k (0,0) else (0,0)
def yg (n m) (r:List Gd):(qd n m r).length=n:=by simp [qd]
def qu (r) (a:k < n):(qd n m r).getD k (0,0)=if k < m then r.getD k (0,0) else (0,0):=by
 simp [qd,bR,a]
def Xw (e:m < n) (r):qd n (m+1) r=Y3 (qd n m r) (cu (r.getD m (0,0)) (ye n m)):=by
 have b:(qd n m r).length=(cu (r.getD m (0,0)) (ye n m)).length:=by rw [zJ,zi,yg]
 apply vj (by rw [xA b,yg,yg])
 intro k a
 rw [yg] at a
 rw [w6 b,qu r a,qu r a,KH _ a]
 by_cases c:k=m
 .subst c
  simp [yZ]
 .by_cases d:k < m
  .rw [if_pos (by omega),if_pos d,if_neg c,xR]
  .rw [if_neg (by omega),if_neg d,if_neg c,xR]
def VN (h:r.length=n):qd n n r=r:=by
 apply vj (by rw [yg,h])
 intro k a
 rw [yg] at a
 rw [qu r a,if_pos a]
def Bq (x y):yT (y9 x y)=y9 (yT x) y:=by
 simp only [yT,y9,ET]; constructor <;> grind
def Qr:nn (0,0):=.inl rfl
def Th (hu:az n u) (hr:r.length=n) (hp:dP r) (h:∀ k,k < n->r.getD k (0,0)=(0,0)\/dC (yf (zg ts) u (ye n k))):dP (yf (zg ts) u r):=by
 have main:∀ m,m<=n->dP (yf (zg ts) u (qd n m r)):=by
  intro m
  induction m with
  | zero =>
   intro _ k
   have:=WE (ts:=ts) (w:=u) (r:=qd n 0 r) (by rw [yg]; exact hu) (λk=>by
    by_cases hk:k < n
    .rw [qu r hk,if_neg (by omega)]
    .rw [bR,gQ (by rw [yg]; omega)]; rfl) k
   rw [this]
   exact .inl rfl
  | succ m ih =>
   intro hm k
   have hl:(qd n m r).length=(cu (r.getD m (0,0)) (ye n m)).length:=by rw [zJ,zi,yg]
   rw [Xw (by omega) r,qT _ _ hl (by rw [yg]; exact hu),uq _ _ _ (by rw [zi]; exact hu),w6 (by rw [zK,zJ,zK,zi,yg]),xK,Br]
   refine Hy (ih (by omega) k) ?_
   rw [Bq]
   rcases h m (by omega) with z | z
   .rw [z]
    have:y9 (yT (0,0)) ((yf (zg ts) u (ye n m)).getD k (0,0))=(0,0):=by simp [yT,y9]
    rw [this]
    exact .inl rfl
   .exact Hx (hp m) (z k)
 have:=main n (aT _)
 rwa [VN hr] at this
def Ti (hu:az n u) (hr:r.length=n) (hp:dC r) (h:∀ k,k < n->r.getD k (0,0)=(0,0)\/dC (yf (zg ts) u (ye n k))):dC (yf (zg ts) u r):=by
 have An:∀ k,(cu (-1,0) r).getD k (0,0)=yT (r.getD k (0,0)):=λk=>by
  rw [xK]; simp [y9,yT]
 have h1:dP (yf (zg ts) u (cu (-1,0) r)):=Th hu (by rw [zJ,hr]) (λk=>by
  rw [An]
  have:yT (yT (r.getD k (0,0)))=r.getD k (0,0):=by simp [yT]
  rw [this]
  exact hp k) λk hk=>by
   rcases h k hk with z | z
   .left
    rw [An,z]
    rfl
   .exact .inr z
 rw [uq _ _ _ (by rw [hr]; exact hu)] at h1
 intro k
 have:=h1 k
 rw [xK] at this
 have e:yT (y9 (-1,0) ((yf (zg ts) u r).getD k (0,0)))=(yf (zg ts) u r).getD k (0,0):=by simp [y9,yT]
 rwa [e] at this
theorem HQ  : ∀ {w:List Nat} {r:List Gd},az r.length w->k∉w->(yf (zg ts) w r).getD k (0,0)=r.getD k (0,0)
 | [],r,_,_=>rfl
 | i :: w,r,hw,a=>by
  have b:az r.length w:=λj d=>hw j (aZ _ d)
  have hi:i < r.length:=hw i aV
  rw [xQ,wy _ (by rw [zK]; exact hi),if_neg (λc=>a (by rw [c]; exact aV))]
  exact HQ b λc=>a (aZ _ c)
def Qq (a:az n w) (hi:i < n) (h:i∉w):XR (yf (zg ts) w (ye n i))=false:=by
 have e:=HQ (ts:=ts) (w:=w) (r:=ye n i) (by rw [zi]; exact a) h
 rw [xg hi,if_pos rfl] at e
 have:K4 1 (yf (zg ts) w (ye n i))=true:=QE (k:=i) (by rw [zK,zi]; exact hi) (by rw [e]; decide)
 simp [XR,this]
def Lst.sub {P:Nat->Prop} (h:Lst ts n u v):az n u->(∀ i∈u,P i)->∀ i∈v,P i:=by
 induction h with
 | nil _=>intro _ _ i hi; cases hi
 | @cons u v i h t l =>
  intro e b j d
  obtain ⟨hi,g,_⟩:=uP h
  have f:i∈u:=by
   apply Et
   intro c
   rw [Qq e hi c] at g
   cases g
  rcases aS.mp d with rfl | d
  .exact b _ f
  .refine l (e.app (az.one hi)) (λk a=>?_) j d
   rcases cQ.mp a with a | a
   .exact b k a
   .rw [n1.mp a]; exact b _ f
def K6 (ts:List T3) (n:Nat) (part u:List Nat):List Nat:=part.filter λi=>XR (yf (zg ts) u (ye n i))
inductive Rm (ts:List T3) (n:Nat) (part:List Nat):List Nat->List Nat->Prop
 | nil {u:List Nat} (h:K6 ts n part u=[]):Rm ts n part u []
 | cons {u s:List Nat} {i:Nat} {r:List Nat} (h:K6 ts n part u=i :: r) (t:Rm ts n part (u++[i]) s):Rm ts n part u (i :: s)
def Uh   : i∈K6 ts n part u↔i∈part/\XR (yf (zg ts) u (ye n i))=true:=by
 simp [K6]
variable (hg:yh ts)
include hg
def zap (a:az n w) (b:s < n) (h:XR (yf (zg ts) w (ye n s))=true):dP (yf (zg ts) w (ye n s)):=by
 rcases Jn hg a b with c | c
 .rw [(c.abv (ue a b)).2] at h; cases h
 .exact c
def Pe (a:az n w) (b:s < n) (h:XR (yf (zg ts) w (ye n s))=false):dC (yf (zg ts) w (ye n s)):=by
 rcases Jn hg a b with c | c
 .exact c
 .rw [(c.blw (ue a b)).2] at h; cases h
theorem Su (hp:az n part):∀ (l) {u:List Nat},az n u->b4 ts n u l->∃ s k,Rm ts n part u s/\s.length+k=l/\(∀ i∈s,i∈part)/\b4 ts n (u++s) k/\∀ i∈part,dC (yf (zg ts) (u++s) (ye n i))
 | l,u,hu,hl=>by
  cases e:K6 ts n part u with
  | nil =>
   refine ⟨[],l,.nil e,by simp,(λi hi=>by cases hi),by rw [bX]; exact hl,λi hi=>?_⟩
   rw [bX]
   refine Pe hg hu (hp i hi) ?_
   cases c:XR (yf (zg ts) u (ye n i)) with
   | false=>rfl
   | true =>
    have:=Uh.mpr ⟨hi,c⟩
    rw [e] at this
    cases this
  | cons i r =>
   have hm:i∈K6 ts n part u:=by rw [e]; exact aV
   obtain ⟨h1,h2⟩:=Uh.mp hm
   have hi:=hp i h1
   have hn:=zap hg hu hi h2
   rcases xq hg hu hi hl with ⟨c,_⟩ | ⟨_,c2,c3⟩
   .exact absurd hn (c.notP (ue hu hi))
   .have e7:l - 1 < l:=by omega
    obtain ⟨s,k,a1,a2,a3,a4,a5⟩:=Su hp (l - 1) (hu.app (az.one hi)) c3
    refine ⟨i :: s,k,.cons e a1,by rw [aB]; omega,λj hj=>?_,?_,?_⟩
    .rcases aS.mp hj with rfl | hj
     .exact h1
     .exact a3 j hj
    .rwa [dh,nF] at a4
    .rwa [dh,nF] at a5
def Nq (m:az n part) (b:az n w):∃ s o i,Rm ts n part w s/\s.length<=w.length/\(∀ x∈s,x∈part)/\Lst ts n (w++s).reverse o/\Lst ts n s.reverse.reverse i/\az n o/\az n i/\(∀ x∈i,x∈part) ∧
  Eqv (zg ts) n (o++i) w/\b4 ts n (o++i) (o++i).length/\(∀ x∈part,dC (yf (zg ts) o (ye n x)))/\(o++i).length<=w.length/\Eqv (zg ts) n o (w++s)/\Eqv (zg ts) n i s.reverse/\(∀ x∈part,dC (yf (zg ts) (w++s) (ye n x))):=by
 have h2:=zT ts
 obtain ⟨l,d⟩:=b4.ex (ts:=ts) b
 obtain ⟨s,k,a1,a2,a3,a4,p⟩:=Su hg m l b d
 have c:az n s:=λx f=>m x (a3 x f)
 obtain ⟨o,lo,r,h,a,q,y,v⟩:=WG hg (b.app c)
 obtain ⟨i,A,i1,i2,j,i4,B,t⟩:=WG hg c.rev
 have e:Eqv (zg ts) n (o++i) w:=by
  have:=a.app j
  rw [dh] at this
  exact this.trans (((Em w).app (YF h2 c)).trans (by rw [bX]; exact Em _))
 have u:=d.le b (Em _)
 have z:lo=k:=(q.cong a).uniq a4
 have g:=d.le (h.app i2) e
 rw [aW] at g
 rw [n4] at t
 have hi:∀ x∈i,x∈part:=i1.sub (by rw [n5]; exact c) (by rw [n5]; exact a3)
 refine ⟨s,o,i,a1,by omega,a3,r,i1,h,i2,hi,e,?_,λx f=>?_,by rw [aW]; omega,a,j,p⟩
 .have:(o++i).length=l:=by rw [aW]; omega
  rw [this]
  exact d.cong e.symm
 .rw [a _ (zi n x)]
  exact p x f
end
section
variable {ts:List T3} {n:Nat}
def K7 (hu:az n u) (hv:az n v) (h:∀ k,k < n->yf (zg ts) u (ye n k)=yf (zg ts) v (ye n k)):Eqv (zg ts) n u v:=λr hr=>by
 have main:∀ m,m<=n->yf (zg ts) u (qd n m r)=yf (zg ts) v (qd n m r):=by
  intro m
  induction m with
  | zero =>
   intro _
   have z:∀ w:List Nat,az n w->∀ k,(yf (zg ts) w (qd n 0 r)).getD k (0,0)=(0,0):=λw hw k=>WE (ts:=ts) (w:=w) (r:=qd n 0 r) (by rw [yg]; exact hw) (λk=>by
    by_cases hk:k < n
    .rw [qu r hk,if_neg (by omega)]
    .rw [bR,gQ (by rw [yg]; omega)]; rfl) k
   apply vj (by rw [zK,zK])
   intro k _
   rw [z u hu k,z v hv k]
  | succ m ih =>
   intro hm
   have hl:(qd n m r).length=(cu (r.getD m (0,0)) (ye n m)).length:=by rw [zJ,zi,yg]
   have st:∀ w:List Nat,az n w->yf (zg ts) w (qd n (m+1) r)=Y3 (yf (zg ts) w (qd n m r)) (cu (r.getD m (0,0)) (yf (zg ts) w (ye n m))):=λw hw=>by
    rw [Xw (by omega) r,qT _ _ hl (by rw [yg]; exact hw),uq _ _ _ (by rw [zi]; exact hw)]
   rw [st u hu,st v hv,ih (by omega),h m (by omega)]
 have:=main n (aT _)
 rwa [VN hr] at this
end
section
variable {ts:List T3} {n:Nat}
variable (hg:yh ts)
include hg
theorem N8 (hu:az n u) (hs:s < n) (h:dC (yf (zg ts) u (ye n s))):dP (yf (zg ts) (u++[s]) (ye n s)):=λk=>by
 rw [HS hu hs k]
 have:yT (yT ((yf (zg ts) u (ye n s)).getD k (0,0)))=(yf (zg ts) u (ye n s)).getD k (0,0):=by simp [yT]
 rw [this]
 exact h k
theorem N9 (e:Eqv (zg ts) n u v) (h:dP (yf (zg ts) u (ye n s))):dP (yf (zg ts) v (ye n s)):=by
 rw [<- e _ (zi n s)]; exact h
end
def C2 (s t) (b:Bool):sel t s b=sel s t (!b):=by cases b <;> rfl
def WC (s t) (l:List Bool):l.map (sel t s)=(l.map (!·)).map (sel s t):=by
 rw [bz]
 apply fH
 intro b _
 exact C2 s t b
section
variable {ts:List T3} {n:Nat}
def F9 (a:s < n) (ht:t < n) (l:List Bool):az n (l.map (sel s t)):=λi hi=>by
 obtain ⟨b,_,rfl⟩:=bu.mp hi
 cases b <;> simp [sel] <;> assumption
def Jr (a:s < n) (ht:t < n) (x y) (b:Bool):Eqv (zg ts) n ((x++y).map (sel s t)) ((x++b :: b :: y).map (sel s t)):=by
 rw [bK,bK]
 refine (Em _).app ?_
 have c:sel s t b < n:=F9 a ht [b] _ (by simp)
 have:=(IR (n:=n) (zT ts) c).symm.app (Em (A:=zg ts) (y.map (sel s t)))
 simpa using this
def F0 (bq:s≠t) (d:s < n) (ht:t < n) {m:Nat} (em:zu ts s t=(m:Int)) (e:2<=m/\m<=6):Eqv (zg ts) n ((alt m).map (sel s t)) ((alt m).map (sel t s)):=by
 have h2:=zT ts
 obtain ⟨a,p2⟩:=Wt ts bq
 rw [em] at a p2
 obtain ⟨c,b⟩:=YM (decide (s < t)) e
 rw [<- a,<- p2] at c b
 rw [WC s t]
 exact km (n:=n) bq (h2 s) (h2 t) d ht c b
def MV (bq:s≠t) (a:s < n) (ht:t < n) {m k:Nat} (em:zu ts s t=(m:Int)) (f:2<=m/\m<=6) (h:Sh ts n ((alt k).map (sel s t))):k<=m:=by
 apply Ll.mp
 intro i
 obtain ⟨pre,e⟩:=YU (m:=m+1) (k:=k) (by omega)
 obtain ⟨j,rfl⟩:∃ j,m=j+1:=⟨m - 1,by omega⟩
 have e1:(alt (j+1)).map (!·)=decide ((j+1) % 2=1) :: (alt j).map (!·):=by
  rw [alt,aC]
  congr 1
  by_cases c:j % 2=1
  .have b:¬ ((j+1) % 2=1):=by omega
   simp [c,b]
  .have b:(j+1) % 2=1:=by omega
   simp [c,b]
 have d:=F0 (ts:=ts) (n:=n) bq a ht em f
 rw [WC s t,e1] at d
 have e2:Eqv (zg ts) n ((pre++(alt j).map (!·)).map (sel s t)) ((alt k).map (sel s t)):=by
  rw [e,alt]
  refine (Jr a ht pre ((alt j).map (!·)) (decide ((j+1) % 2=1))).trans ?_
  rw [bK,bK,aC,aC (l:=alt (j+1))]
  refine (Em _).app ?_
  exact (Em [sel s t (decide ((j+1) % 2=1))]).app d.symm
 have:=h.2.le (F9 a ht _) e2
 have g:=congrArg ny e
 rw [aW,wY,wY] at g
 simp only [aD,aW,wY] at this
 omega
variable (hg:yh ts)
include hg
def Rz (bq:s≠t) (f:s < n) (ht:t < n) (h:Sh ts n (o++(alt k).map (sel s t))) (h1:dC (yf (zg ts) o (ye n s))) (h2:dC (yf (zg ts) o (ye n t))) (hd:dP (yf (zg ts) (o++(alt k).map (sel s t)) (ye n s))):∃ m:Nat,zu ts s t=(m:Int)/\(2<=m/\m<=6)/\k=m:=by
 have u:=zT ts
 have x:az n o:=h.1.left
 have e:Sh ts n ((alt k).map (sel s t)):=Sh.cut (a:=o) (b:=(alt k).map (sel s t)) (c:=[]) (by simpa using h)
 obtain ⟨d,p2⟩:=Wt ts bq
 have no:¬ PQ (c6 (zg ts s t) (zg ts t s) k):=λp=>by
  have le:=Qw bq (u s) (u t) f ht k
  have g:dC (yf (zg ts) (o++(alt k).map (sel s t)) (ye n s)):=by
   rw [xj,le]
   refine Ti x (yO _ _ _ _ _) (λj=>?_) λj l=>?_
   .by_cases l:j < n
    .rw [vB _ _ l]
     refine Hy ?_ ?_
     .split
      .exact p.1
      .exact Qr
     .split
      .exact p.2.1
      .exact Qr
    .rw [bR,gQ (by rw [yO]; omega)]
     exact Qr
   .by_cases r:j=s
    .subst r; exact .inr h1
    .by_cases q:j=t
     .subst q; exact .inr h2
     .left
      rw [vB _ _ l,if_neg r,if_neg q,xR]
  exact g.notP (ue h.1 f) hd
 rcases qP hg (s:Int) (t:Int) with y | gt
 .rw [y] at d p2
  have w:zU 0 (decide (s < t))=(-2,0):=by cases decide (s < t) <;> rfl
  have v:zU 0 (!decide (s < t))=(-2,0):=by cases decide (s < t) <;> rfl
  rw [d,p2,w,v] at no
  exact absurd (Ye k) no
 .obtain ⟨m,em⟩:∃ m:Nat,zu ts s t=(m:Int):=⟨(zu ts s t).toNat,by omega⟩
  rw [em] at d p2 gt
  have i:2<=m/\m<=6:=by omega
  refine ⟨m,em,i,Nat.le_antisymm (MV bq f ht em i e) (Ll.mp λz=>?_)⟩
  rw [d,p2] at no
  exact no (Mm _ i z)
def CN (I:Sh ts n v) (bq:s≠t) (d:s < n) (ht:t < n) (E:dP (yf (zg ts) v (ye n s))) (O:dP (yf (zg ts) v (ye n t))) :
  ∃ (c:List Nat) (m:Nat),zu ts s t=(m:Int)/\(2<=m/\m<=6)/\az n c/\Sh ts n (c++(alt m).map (sel s t))/\Eqv (zg ts) n (c++(alt m).map (sel s t)) v/\Sh ts n (c++(alt m).map (sel t s))/\Eqv (zg ts) n (c++(alt m).map (sel t s)) v:=by
 have P:=zT ts
 obtain ⟨_,o,i,_,_,_,_,_,q,H,G,p,u,g,_,_,_,_⟩:=Nq hg (part:=[s,t]) (λx j=>by
  have:x=s\/x=t:=by simpa using j
  rcases this with rfl | rfl <;> assumption) I.1
 have os:=g s (by simp)
 have r:=g t (by simp)
 have h:Sh ts n (o++i):=⟨q.app H,u⟩
 have hi:Sh ts n i:=Sh.cut (a:=o) (b:=i) (c:=[]) (by simpa using h)
 obtain ⟨a,J⟩:∃ a:List Bool,i=a.map (sel s t):=⟨i.map λx=>decide (x=s),by
  rw [bz]
  have:i.map (sel s t ∘ λx=>decide (x=s))=i.map id:=by
   apply fH
   intro x j
   have:x=s\/x=t:=by simpa using G x j
   rcases this with rfl | rfl
   .simp [sel]
   .simp [sel,E7 bq]
  rw [this,List.map_id]⟩
 subst J
 have a1:∀ x b y,a≠x++b :: b :: y:=λx b y e=>by
  have:=hi.2.le (F9 d ht (x++y)) (by rw [e]; exact Jr d ht x y b)
  rw [e] at this
  simp only [aD,aW,aB] at this
  omega
 have fin:∀ {s t:Nat},s≠t->s < n->t < n->dP (yf (zg ts) v (ye n s))->dC (yf (zg ts) o (ye n s))->dC (yf (zg ts) o (ye n t))->∀ k,Sh ts n (o++(alt k).map (sel s t))->Eqv (zg ts) n (o++(alt k).map (sel s t)) v →
   ∃ m:Nat,zu ts s t=(m:Int)/\(2<=m/\m<=6)/\Sh ts n (o++(alt m).map (sel s t))/\Eqv (zg ts) n (o++(alt m).map (sel s t)) v/\Sh ts n (o++(alt m).map (sel t s))/\Eqv (zg ts) n (o++(alt m).map (sel t s)) v:=by
  intro s t bq d ht E os r k h1 h2
  obtain ⟨m,em,f,rfl⟩:=Rz hg bq d ht h1 os r (by rw [h2 _ (zi n s)]; exact E)
  have F:=(Em (A:=zg ts) (n:=n) o).app (F0 (ts:=ts) (n:=n) bq d ht em f)
  refine ⟨k,em,f,h1,h2,⟨q.app (F9 ht d _),?_⟩,F.symm.trans h2⟩
  have l:(o++(alt k).map (sel t s)).length=(o++(alt k).map (sel s t)).length:=by simp
  rw [l]
  exact h1.2.cong F
 by_cases c:∃ x,a=x++[true]
 .obtain ⟨x,j⟩:=c
  have e:a.map (!·)=alt (a.map (!·)).length:=Kq _ (λx b y e=>by
   have e2:=congrArg (dI (!·)) e
   rw [bz] at e2
   have M:(a.map ((!·) ∘ (!·)))=a:=by
    have:((λb:Bool => !b) ∘ λb => !b)=id:=by funext b; simp
    rw [this,List.map_id]
   rw [M] at e2
   exact a1 (x.map (!·)) (!b) (y.map (!·)) (by simpa using e2)) (λy e=>by
   have e2:=congrArg List.getLast? e
   rw [j] at e2
   simp at e2)
  have L:a.map (sel s t)=(alt (a.map (!·)).length).map (sel t s):=by
   rw [<- e,WC t s,bz]
  rw [L] at h p
  obtain ⟨m,em,f,C,B,z,w⟩:=fin (E7 bq) ht d O r os _ h p
  exact ⟨o,m,by rw [wc]; exact em,f,q,z,w,C,B⟩
 .have e:=Kq a a1 λx e=>c ⟨x,e⟩
  rw [e] at h p
  obtain ⟨m,em,f,C,B,z,w⟩:=fin bq d ht E os r _ h p
  exact ⟨o,m,em,f,q,C,B,z,w⟩
omit hg in
def Sh.init (h:Sh ts n (v++[s])):Sh ts n v:=by
 have:=Sh.cut (a:=[]) (b:=v) (c:=[s]) (by simpa using h)
 exact this
def HV (h:Sh ts n (a++[s])):dP (yf (zg ts) (a++[s]) (ye n s)):=N8 hg h.1.left (h.1 s (by simp)) (Sh.up hg h)
end
def v8 (i j m:Nat):List Nat:=(aK m).map λk=>if k % 2=0 then i else j
def wZ (i j m):(v8 i j m).length=m:=by simp [v8]
def CB (i j) (h:k<=m):(v8 i j m).take k=v8 i j k:=by
 unfold v8
 rw [<- List.map_take,List.take_range,pf h]
theorem CA:∀ m,(alt m).reverse=(aK m).map λk=>decide (k % 2=1)
 | 0=>rfl
 | m+1=>by
  rw [alt,mn,CA m,List.range_succ,bK]
  rfl
def q9 (s t m):((alt m).map (sel s t)).reverse=v8 t s m:=by
 rw [<- List.map_reverse,CA,bz]
 unfold v8
 apply fH
 intro k _
 simp only [Iq,sel]
 by_cases c:k % 2=1
 .have:¬ (k % 2=0):=by omega
  simp [c]
 .have a:k % 2=0:=by omega
  simp [a]
section
variable {ts:List T3} {n:Nat}
def Dn (ts:List T3) (n:Nat) (s:List Nat) (t:Nat):Prop:=∃ r,az n r/\Eqv (zg ts) n (t :: r) s/\r.length+1=s.length
def Sh.of (h:Sh ts n s) (a:az n u) (e:Eqv (zg ts) n u s) (b:u.length=s.length):Sh ts n u:=⟨a,by rw [b]; exact h.2.cong e.symm⟩
def J0 (c:az n x) (e:Eqv (zg ts) n (x++a) (x++b)):Eqv (zg ts) n a b:=by
 have h2:=zT ts
 have k:∀ y:List Nat,Eqv (zg ts) n (x.reverse++(x++y)) y:=λy=>by
  have:=(WU h2 c).app (Em (A:=zg ts) (n:=n) y)
  rw [dh] at this
  exact this
 exact (k a).symm.trans (((Em x.reverse).app e).trans (k b))
def Vf (hi:i < n) (c:j < n) (m):az n (v8 i j m):=λk b=>by
 obtain ⟨a,_,rfl⟩:=bu.mp b
 split <;> assumption
variable (hg:yh ts)
include hg
def Dn.np (a:Sh ts n s) (ht:t < n) (h:Dn ts n s t):dP (yf (zg ts) s.reverse (ye n t)):=by
 obtain ⟨r,h1,h2,e⟩:=h
 have b:Sh ts n (t :: r):=a.of (az.cons ht h1) h2 (by simpa using e)
 have c:=b.rev
 rw [mn] at c
 have d:=HV hg c
 refine N9 hg ?_ d
 have:=Eqv.rev (zT ts) b.1 a.1 h2
 rw [mn] at this
 exact this
def CL (a:Sh ts n s) (e:f≠t) (b:f < n) (ht:t < n) (o:Dn ts n s f) (l:Dn ts n s t) :
  ∃ (c:List Nat) (m:Nat),zu ts f t=(m:Int)/\(2<=m/\m<=6)/\az n c/\Eqv (zg ts) n (v8 f t m++c) s/\Eqv (zg ts) n (v8 f t m) (v8 t f m)/\m+c.length=s.length:=by
 obtain ⟨c,m,em,g,k,i,h,r,q⟩:=CN hg a.rev (E7 e) ht b (l.np hg a ht) (o.np hg a b)
 have d:zu ts f t=(m:Int):=by rw [wc]; exact em
 have e1:=Eqv.rev (zT ts) i.1 a.1.rev h
 rw [List.reverse_append,q9,n5] at e1
 have p:=F0 (ts:=ts) (n:=n) (E7 e) ht b em g
 have e2:=Eqv.rev (zT ts) (F9 ht b _) (F9 b ht _) p
 rw [q9,q9] at e2
 refine ⟨c.reverse,m,d,g,k.rev,e1,e2,?_⟩
 have j:=i.2.uniq (a.rev.2.cong h.symm)
 simp only [aW,aD,wY,n4] at j ⊢
 omega
omit hg in
def Dn.head (h:az n (f :: r)):Dn ts n (f :: r) f:=⟨r,λx a=>h x (aZ _ a),Em _,rfl⟩
theorem DV (hs:Sh ts n s) (hf:f < n) (ht:t < n) (hk:k < m) (hc:az n c) (e:Eqv (zg ts) n (v8 f t m++c) s) (hl:m+c.length=s.length) (hx:az n x) (ex:Eqv (zg ts) n (v8 f t k++x) s) (hxl:k+x.length=s.length) :
  Sh ts n x/\Dn ts n x (if k % 2=0 then f else t):=by
 have ha:=Vf hf ht (n:=n) k
 have h1:Sh ts n (v8 f t k++x):=hs.of (ha.app hx) ex (by rw [aW,wZ]; exact hxl)
 have h2:Sh ts n x:=Sh.cut (a:=v8 f t k) (b:=x) (c:=[]) (by simpa using h1)
 refine ⟨h2,?_⟩
 have e1:v8 f t m=v8 f t k++(v8 f t m).drop k:=by
  rw [<- CB f t (nA hk),List.take_append_drop]
 have e2:(v8 f t m).drop k=(if k % 2=0 then f else t) :: (v8 f t m).drop (k+1):=by
  rw [g3z (by rw [wZ]; exact hk)]
  congr 1
  simp [v8]
 have e3:Eqv (zg ts) n (v8 f t k++x) (v8 f t k++((v8 f t m).drop k++c)):=by
  rw [<- dh,<- e1]
  exact ex.trans e.symm
 have e4:=J0 ha e3
 rw [e2] at e4
 refine ⟨(v8 f t m).drop (k+1)++c,?_,e4.symm,?_⟩
 ·exact az.app (λy hy=>Vf hf ht m y (List.mem_of_mem_drop hy)) hc
 ·rw [aW,List.length_drop,wZ]
  omega
def Hu (b:Sh ts n s) (c:a < n) (h:¬ Sh ts n (a :: s)):Dn ts n s a:=by
 have h2:=zT ts
 have i:=b.2.rev b.1
 rcases xq hg b.1.rev c i with ⟨_,k⟩ | ⟨_,k0,k⟩
 .exfalso
  apply h
  have d:az n (s.reverse++[a]):=b.1.rev.app (az.one c)
  have:=k.rev d
  rw [List.reverse_append,n5] at this
  exact ⟨az.cons c b.1,this⟩
 .have d:az n (s.reverse++[a]):=b.1.rev.app (az.one c)
  have:=k.rev d
  rw [List.reverse_append,n5] at this
  obtain ⟨u,g,f,j⟩:=this
  refine ⟨u,g.1,?_,by omega⟩
  have e:Eqv (zg ts) n ([a]++u) ([a]++([a]++s)):=(Em [a]).app f
  have e2:Eqv (zg ts) n ([a,a]++s) ([]++s):=(IR h2 c).app (Em s)
  exact e.trans e2
def GS (a:az n w):(ub ts n [] w).all id=true↔Sh ts n w:=by
 obtain ⟨l,b⟩:=b4.ex (ts:=ts) a
 have h1:=CT hg a b
 obtain ⟨h2,c,d⟩:=GI (ub ts n [] w)
 rw [jP] at c
 rw [<- c,h1]
 constructor
 .intro e
  have:l=w.length:=by omega
  subst this
  exact ⟨a,b⟩
 .intro h
  have:=b.uniq h.2
  omega
end
def bM (t:Int->Int->Int) (x:Int) (os:List Int):List Int:=os.filter λo=>decide (o≠x)&&decide (t x o≠2)
def bp (os:List Int) (x:Int):List Int:=os.filter λo=>decide (o≠x)
def chG (t:Int->Int->Int):Nat->Int->List Int->Option (List Int)
 | 0,_,_=>some []
 | n+1,x,left=>if left=[] then some [] else match bM t x left with
  | [y]=>(chG t n y (bp left y)).map (y :: ·)
  | _=>none
def uZ (t:Int->Int->Int) (ms:List Int) (f:Int):Option (List Int):=(chG t ms.length f (bp ms f)).map (f :: ·)
def xf (t:Int->Int->Int) (ms:List Int):List (List Int):=ms.filterMap (uZ t ms)
def qK (t:Int->Int->Int) (o:List Int):List Int:=List.zipWith t o (o.drop 1)
abbrev Kd:=Nat×Nat
def zbc (ts:List Int):Kd :=
 if ts=aP ts.length 3 then (1,ts.length+1)
 else if ts=aP (ts.length - 1) 3++[4] then (2,ts.length+1)
 else if ts=[3,4,3] then (6,4) else if ts=[3,5] then (8,3) else if ts=[3,3,5] then (8,4)
 else if ts=[5] then (9,5) else if ts=[6] then (9,6) else (0,0)
def kZ (o:List Int) (y:Int):Kd :=
 if 4<=o.length+1/\o[1]? = some y then (4,o.length+1) else if o.length+1=6/\o[2]? = some y then (5,6) else (0,0)
def Mz (t:Int->Int->Int) (ms:List Int):List Kd:=(xf t ms).map λo=>zbc (qK t o)
def Pw (t:Int->Int->Int) (ms:List Int):List Kd:=ms.flatMap λe=>match bM t e ms with
 | [y]=>(xf t (bp ms e)).map λo=>kZ o y
 | _=>[]
def WH (l:List Kd):Kd:=match l.find? (λk=>decide (k≠(0,0))) with
 | some k=>k
 | none=>(0,0)
def vm (t:Int->Int->Int) (three:Bool) (ms:List Int):List Kd:=Mz t ms++if three then Pw t ms else []
structure Rlb (t t':Int->Int->Int) (φ:Int->Int) (S:List Int):Prop where
 tt:∀ i∈S,∀ j∈S,t' (φ i) (φ j)=t i j
 inj:∀ i∈S,∀ j∈S,φ i=φ j->i=j
section
variable {t t':Int->Int->Int} {φ:Int->Int} {S:List Int}
def HE (R:Rlb t t' φ S) (b:x∈S) (c:∀ y∈l,y∈S) (f:d.Perm (l.map φ)):(bM t' (φ x) d).Perm ((bM t x l).map φ):=by
 unfold bM
 refine (f.filter _).trans ?_
 rw [List.filter_map]
 refine List.Perm.of_eq (congrArg _ (LG λy a=>?_))
 show (decide (φ y≠φ x)&&decide (t' (φ x) (φ y)≠2))=_
 rw [R.tt x b y (c y a)]
 have:(φ y≠φ x)↔(y≠x):=⟨λh e=>h (by rw [e]),λh e=>h (R.inj y (c y a) x b e)⟩
 rw [decide_eq_decide.mpr this]
def U0 (R:Rlb t t' φ S) (c:x∈S) (f:∀ y∈l,y∈S) (d:a.Perm (l.map φ)):(bp a (φ x)).Perm ((bp l x).map φ):=by
 unfold bp
 refine (d.filter _).trans ?_
 rw [List.filter_map]
 refine List.Perm.of_eq (congrArg _ (LG λy b=>?_))
 have:(φ y≠φ x)↔(y≠x):=⟨λh e=>h (by rw [e]),λh e=>h (R.inj y (f y b) x c e)⟩
 exact decide_eq_decide.mpr this
def WA (h:y∈bM t x l):y∈l:=(gp.mp h).1
def ZP (h:y∈bp l x):y∈l:=(gp.mp h).1
theorem Cc (R:Rlb t t' φ S):∀ n x l d,x∈S->(∀ y∈l,y∈S)->d.Perm (l.map φ)->chG t' n (φ x) d=(chG t n x l).map (dI φ)
 | 0,_,_,_,_,_,_=>rfl
 | n+1,x,l,d,m,g,i=>by
  have f:=HE R m g i
  unfold chG
  by_cases e:l=[]
  .subst e
   have:d=[]:=List.perm_nil.mp i
   subst this
   rfl
  .have o:d≠[]:=λz=>by
    subst z
    have:=i.length_eq
    rw [aD] at this
    exact e (n8.mp this.symm)
   rw [if_neg e,if_neg o]
   cases h:bM t x l with
   | nil =>
    rw [h] at f
    rw [List.perm_nil.mp f]
    rfl
   | cons y r =>
    rw [h] at f
    cases r with
    | nil =>
     rw [List.perm_singleton.mp f]
     have k:y∈l:=WA (t:=t) (x:=x) (by rw [h]; exact aV)
     show Option.map (φ y :: ·) (chG t' n (φ y) (bp d (φ y)))=Option.map (dI φ) (Option.map (y :: ·) (chG t n y (bp l y)))
     rw [Cc R n y _ _ (g y k) (λz hz=>g z (ZP hz)) (U0 R (g y k) g i)]
     cases chG t n y (bp l y) <;> rfl
    | cons z r =>
     have c:=f.length_eq
     cases h':bM t' (φ x) d with
     | nil=>rfl
     | cons a j =>
      cases j with
      | nil=>rw [h'] at c; simp at c
      | cons b j=>rfl
theorem Cb:∀ {n:Nat} {x:Int} {l o:List Int},chG t n x l=some o->∀ y∈o,y∈l
 | 0,x,l,o,h,y,a=>by cases h; cases a
 | n+1,x,l,o,h,y,a=>by
  unfold chG at h
  split at h
  .cases h; cases a
  .split at h
   .rename_i z e
    obtain ⟨o',b,rfl⟩:=iB.mp h
    rcases aS.mp a with rfl | a
    .exact WA (t:=t) (x:=x) (by rw [e]; exact aV)
    .exact ZP (Cb b y a)
   .cases h
def XN (R:Rlb t t' φ S) (c:f∈S) (b:∀ y∈ms,y∈S) (a:d.Perm (ms.map φ)):uZ t' d (φ f)=(uZ t ms f).map (dI φ):=by
 unfold uZ
 have e:d.length=ms.length:=by rw [a.length_eq,aD]
 rw [e,Cc R ms.length f (bp ms f) _ c (λy g=>b y (ZP g)) (U0 R c b a)]
 cases chG t ms.length f (bp ms f) <;> rfl
def Gf (b:f∈ms) (h:uZ t ms f=some o):∀ y∈o,y∈ms:=by
 obtain ⟨o',e,rfl⟩:=iB.mp h
 intro y a
 rcases aS.mp a with rfl | a
 .exact b
 .exact ZP (Cb e y a)
def qY (R:Rlb t t' φ S) (c:∀ y∈ms,y∈S) (b:g.Perm (ms.map φ)):o'∈xf t' g↔∃ o∈xf t ms,o'=o.map φ:=by
 unfold xf
 rw [nD]
 constructor
 .rintro ⟨i,h,e⟩
  obtain ⟨f,a,rfl⟩:=bu.mp (b.subset h)
  rw [XN R (c f a) c b] at e
  obtain ⟨o,e2,rfl⟩:=iB.mp e
  exact ⟨o,nD.mpr ⟨f,a,e2⟩,rfl⟩
 .rintro ⟨o,d,rfl⟩
  obtain ⟨f,a,e⟩:=nD.mp d
  refine ⟨φ f,b.symm.subset (A1 a),?_⟩
  rw [XN R (c f a) c b,e]
  rfl
def qX (h:o∈xf t ms):∀ y∈o,y∈ms:=by
 obtain ⟨f,a,e⟩:=nD.mp h
 exact Gf a e
def UR (R:Rlb t t' φ S) (c:∀ y∈o,y∈S):qK t' (o.map φ)=qK t o:=by
 unfold qK
 rw [<- LN,List.zipWith_map]
 have:∀ (a b:List Int),(∀ y∈a,y∈S)->(∀ y∈b,y∈S)->List.zipWith (λx y=>t' (φ x) (φ y)) a b=List.zipWith t a b:=by
  intro a
  induction a with
  | nil=>intro b _ _; simp
  | cons x a f =>
   intro b e d
   cases b with
   | nil=>simp
   | cons y b =>
    rw [LS,LS,R.tt x (e x aV) y (d y aV),f b (λz hz=>e z (aZ _ hz)) (λz hz=>d z (aZ _ hz))]
 exact this o (o.drop 1) c λy g=>c y (List.mem_of_mem_drop g)
def JM (R:Rlb t t' φ S) (b:∀ y∈o,y∈S) (a:y∈S):kZ (o.map φ) (φ y)=kZ o y:=by
 have q:∀ i:Nat,((o.map φ)[i]? = some (φ y))↔(o[i]? = some y):=λi=>by
  rw [cK]
  constructor
  .intro h
   obtain ⟨z,e,h⟩:=iB.mp h
   rw [e,R.inj z (b z (sk e)) y a h]
  .intro h; rw [h]; rfl
 unfold kZ
 rw [aD]
 simp only [q]
def Pz (R:Rlb t t' φ S) (b:∀ y∈ms,y∈S) (d:e.Perm (ms.map φ)):k∈Mz t' e↔k∈Mz t ms:=by
 unfold Mz
 rw [bu,bu]
 constructor
 .rintro ⟨o',f,rfl⟩
  obtain ⟨o,a,rfl⟩:=(qY R b d).mp f
  exact ⟨o,a,by rw [UR R λy c=>b y (qX a y c)]⟩
 .rintro ⟨o,a,rfl⟩
  exact ⟨o.map φ,(qY R b d).mpr ⟨o,a,rfl⟩,by rw [UR R λy c=>b y (qX a y c)]⟩
def HZ (R:Rlb t t' φ S) (d:∀ y∈ms,y∈S) (p:l.Perm (ms.map φ)) (q:e∈ms) :
  (k∈(match bM t' (φ e) l with | [y]=>(xf t' (bp l (φ e))).map (λo=>kZ o y) | _=>[]))↔(k∈(match bM t e ms with | [y]=>(xf t (bp ms e)).map (λo=>kZ o y) | _=>[])):=by
 have i:=HE R (d e q) d p
 cases h:bM t e ms with
 | nil =>
  rw [h] at i
  rw [List.perm_nil.mp i]
 | cons y r =>
  rw [h] at i
  cases r with
  | nil =>
   rw [List.perm_singleton.mp i]
   have n:y∈ms:=WA (t:=t) (x:=e) (by rw [h]; exact aV)
   have j:∀ z∈bp ms e,z∈S:=λz hz=>d z (ZP hz)
   have f:=U0 R (d e q) d p
   show k∈(xf t' (bp l (φ e))).map (λo=>kZ o (φ y))↔k∈(xf t (bp ms e)).map (λo=>kZ o y)
   rw [bu,bu]
   constructor
   .rintro ⟨o',s,rfl⟩
    obtain ⟨o,g,rfl⟩:=(qY R j f).mp s
    exact ⟨o,g,by rw [JM R (λz hz=>j z (qX g z hz)) (d y n)]⟩
   .rintro ⟨o,g,rfl⟩
    exact ⟨o.map φ,(qY R j f).mpr ⟨o,g,rfl⟩,by rw [JM R (λz hz=>j z (qX g z hz)) (d y n)]⟩
  | cons z r =>
   have c:=i.length_eq
   cases h':bM t' (φ e) l with
   | nil=>exact Iff.rfl
   | cons a m =>
    cases m with
    | nil=>rw [h'] at c; simp at c
    | cons b m=>exact Iff.rfl
def Pv (R:Rlb t t' φ S) (d:∀ y∈ms,y∈S) (b:f.Perm (ms.map φ)):k∈Pw t' f↔k∈Pw t ms:=by
 unfold Pw
 rw [rW,rW]
 constructor
 .rintro ⟨g,c,h⟩
  obtain ⟨e,a,rfl⟩:=bu.mp (b.subset c)
  exact ⟨e,a,(HZ R d b a).mp h⟩
 .rintro ⟨e,a,h⟩
  exact ⟨φ e,b.symm.subset (A1 a),(HZ R d b a).mpr h⟩
def JN (R:Rlb t t' φ S) (c:∀ y∈ms,y∈S) (a:d.Perm (ms.map φ)):k∈vm t' b d↔k∈vm t b ms:=by
 unfold vm
 rw [cQ,cQ,Pz R c a]
 cases b with
 | false=>exact Iff.rfl
 | true=>exact or_congr Iff.rfl (Pv R c a)
end
set_option tactic.hygienic true in
def Fe {l:List Kd} {c:Kd} (h:∀ k∈l,k=(0,0)\/k=c) (h':c=(0,0)\/c∈l):WH l=c:=by
 unfold WH
 split
 .rename_i k e
  have h1:=List.find?_some e
  rcases h k (List.mem_of_find?_eq_some e) with z | z
  .subst z; simp at h1
  .exact z
 .rename_i e
  rcases h' with z | z
  .exact z.symm
  .have:=List.find?_eq_none.mp e c z
   exact Et λw=>this (decide_eq_true λv=>w v.symm)
def yJ (ts:List Int):List T3:=(List.zip (aK ts.length) ts).map λp=>((p.1:Int),(p.1:Int)+1,p.2)
def Vw (n:Nat):List T3:=(aK n).map λ(k:Nat)=>(0,(k:Int)+1,3)
def r3 (n:Nat):List Int:=aP n 3
abbrev Bk:=Kd×List T3
def qc:Nat->List Bk
 | 1=>[((1,1),yJ [])]
 | 2=>[((1,2),yJ [3]),((2,2),yJ [4]),((9,5),yJ [5]),((9,6),yJ [6]),((0,0),yJ [0])]
 | 3=>[((1,3),yJ [3,3]),((2,3),yJ [3,4]),((8,3),yJ [3,5]),((0,0),yJ [3,0]),((0,0),yJ [5,4]),((0,0),yJ [4,4]),((0,0),yJ [3,6]),((0,0),yJ [3,3]++[(0,2,3)]),((0,0),yJ [5,5])]
 | 4=>[((1,4),yJ [3,3,3]),((2,4),yJ [3,3,4]),((4,4),yJ [3,3]++[(1,3,3)]),((8,4),yJ [3,3,5]),((6,4),yJ [3,4,3]),((0,0),yJ [3,3,0]),((0,0),yJ [5,3,4]),((0,0),yJ [4,3,4]),((0,0),yJ [3,3,6]),((0,0),yJ [3,3,3]++[(0,3,3)]),
   ((0,0),yJ [3,3]++[(1,3,4)]),((0,0),yJ [3,5,3]),((0,0),Vw 3++[(1,2,3)])]
 | 5=>[((1,5),yJ [3,3,3,3]),((2,5),yJ [3,3,3,4]),((4,5),yJ [3,3,3]++[(2,4,3)]),((0,0),yJ [3,3,3,0]),((0,0),yJ [5,3,3,4]),((0,0),yJ [4,3,3,4]),((0,0),yJ [3,3,3,6]),((0,0),yJ [3,3,3,3]++[(0,4,3)]),((0,0),yJ [3,3,3,5]),
   ((0,0),yJ [3,3,3]++[(2,4,4)]),((0,0),yJ [3,5,3,3]),((0,0),Vw 4++[(1,2,3)]),((0,0),Vw 4)]
 | 6=>[((1,6),yJ [3,3,3,3,3]),((2,6),yJ [3,3,3,3,4]),((4,6),yJ [3,3,3,3]++[(3,5,3)]),((5,6),yJ [3,3,3,3]++[(2,5,3)]),((0,0),yJ [3,3,3,3,0]),((0,0),yJ [5,3,3,3,4]),((0,0),yJ [4,3,3,3,4]),((0,0),yJ [3,3,3,3,6]),((0,0),yJ [3,3,3,3,3]++[(0,5,3)]),((0,0),yJ [3,3,3,3,5]),
   ((0,0),yJ [3,3,3,3]++[(3,5,4)]),((0,0),yJ [3,5,3,3,3]),((0,0),Vw 5++[(1,2,3)]),((0,0),Vw 5)]
 | _=>[]
def idx (n:Nat):List Int:=(aK n).map λ(i:Nat)=>(i:Int)
def CQ (ts:List T3):Bool:=ts.all λu=>decide (u.2.2=3)
def l_ (k:Nat) (B:Bk):Bool :=
 (B.2.all λu=>decide (0<=u.1)&&decide (u.1 < u.2.1)&&decide (u.2.1 < k)) &&
 ((aK k).all λv=>decide (v=0)||(aK v).any λu=>decide (zu B.2 u v≠2)) &&
 ((vm (zu B.2) (CQ B.2) (idx k)).all λc=>decide (c=(0,0))||decide (c=B.1)) &&
 (decide (B.1=(0,0))||(vm (zu B.2) (CQ B.2) (idx k)).any λc=>decide (c=B.1))
def zey:((qc 1).all (l_ 1))=true:=by decide +kernel
def zex:((qc 2).all (l_ 2))=true:=by decide +kernel
def zew:((qc 3).all (l_ 3))=true:=by decide +kernel
def zeu:((qc 4).all (l_ 4))=true:=by decide +kernel
def zet:((qc 5).all (l_ 5))=true:=by decide +kernel
def zes:((qc 6).all (l_ 6))=true:=by decide +kernel
def Qp (h:B∈qc k):l_ k B=true:=by
 match k,h with
 | 0,h=>cases h
 | 1,h=>exact bS.mp zey B h
 | 2,h=>exact bS.mp zex B h
 | 3,h=>exact bS.mp zew B h
 | 4,h=>exact bS.mp zeu B h
 | 5,h=>exact bS.mp zet B h
 | 6,h=>exact bS.mp zes B h
 | n+7,h=>cases h
abbrev ba:=Nat×Bk
def dU (b:Int) (u:T3):T3:=(b+u.1,b+u.2.1,u.2.2)
def bZ:Int->List ba->List T3
 | _,[]=>[]
 | b,B :: bs=>B.2.2.map (dU b)++bZ (b+B.1) bs
def wg:Int->List ba->List (Int×ba)
 | _,[]=>[]
 | b,B :: bs=>(b,B) :: wg (b+B.1) bs
def yP:List ba->Nat
 | []=>0
 | B :: bs=>B.1+yP bs
def Ku (k:Nat) (ts:List T3):Prop:=∀ u∈ts,0<=u.1/\u.1 < u.2.1/\u.2.1 < k
abbrev iT (i j:Int) (u:T3):Prop:=u.1=c7 i j/\u.2.1=dQ i j
theorem XX  : ∀ {ts:List T3},(∀ u∈ts,¬ iT i j u)->zu ts i j=2
 | [],_=>rfl
 | u :: ts,h=>by
  unfold zu
  rw [if_neg (h u aV),XX λv a=>h v (aZ _ a)]
theorem ZS (c:∀ u∈b,¬ iT i j u):∀ {a:List T3},zu (a++b) i j=zu a i j
 | []=>XX c
 | u :: a=>by
  rw [bJ]
  unfold zu
  rw [ZS c]
theorem jq   : ∀ {a:List T3},(∀ u∈a,¬ iT i j u)->zu (a++b) i j=zu b i j
 | [],_=>rfl
 | u :: a,h=>by
  rw [bJ]
  unfold zu
  rw [if_neg (h u aV),jq λv c=>h v (aZ _ c)]
  cases b <;> simp [zu]
theorem ZR   : ∀ {ts:List T3},(∀ u∈ts,(f u).2.2=u.2.2/\(iT b a (f u)↔iT i j u))->zu (ts.map f) b a=zu ts i j
 | [],_=>rfl
 | u :: ts,h=>by
  rw [aC]
  unfold zu
  obtain ⟨h1,h2⟩:=h u aV
  rw [ZR λv d=>h v (aZ _ d),h1]
  by_cases c:iT i j u
  .rw [if_pos (h2.mpr c),if_pos c]
  .rw [if_neg (λz=>c (h2.mp z)),if_neg c]
def In (p:Int×ba) (x:Int):Prop:=p.1<=x/\x < p.1+p.2.1
theorem xH:∀ {bs:List ba} {b:Int} {p:Int×ba},p∈wg b bs->b<=p.1/\p.1+p.2.1<=b+yP bs
 | [],b,p,h=>by cases h
 | B :: bs,b,p,h=>by
  unfold yP
  rcases aS.mp h with rfl | h
  .dsimp only; omega
  .have:=xH h; omega
theorem Hh:∀ {bs:List ba} {b x:Int},b<=x->x < b+yP bs->∃ p∈wg b bs,In p x
 | [],b,x,h1,h2=>by unfold yP at h2; omega
 | B :: bs,b,x,h1,h2=>by
  unfold yP at h2
  by_cases c:x < b+B.1
  .exact ⟨(b,B),aV,h1,c⟩
  .obtain ⟨p,a,h⟩:=Hh (bs:=bs) (b:=b+B.1) (x:=x) (by omega) (by omega)
   exact ⟨p,aZ _ a,h⟩
theorem Yf:∀ {bs:List ba} {b x:Int} {p q:Int×ba},p∈wg b bs->q∈wg b bs->In p x->In q x->p=q
 | [],b,x,p,q,h,_,_,_=>by cases h
 | B :: bs,b,x,p,q,c,a,h1,h2=>by
  unfold In at h1 h2
  rcases aS.mp c with rfl | c <;> rcases aS.mp a with rfl | a
  .rfl
  .have:=xH a; dsimp only at h1; omega
  .have:=xH c; dsimp only at h2; omega
  .exact Yf c a h1 h2
theorem wR:∀ {bs:List ba} {b:Int} {p:Int×ba},p∈wg b bs->p.2∈bs
 | [],b,p,h=>by cases h
 | B :: bs,b,p,h=>by
  rcases aS.mp h with rfl | h
  .exact aV
  .exact aZ _ (wR h)
theorem UF:∀ {bs:List ba} {b:Int} {u:T3},u∈bZ b bs↔∃ p∈wg b bs,∃ v∈p.2.2.2,u=dU p.1 v
 | [],b,u=>by simp [bZ,wg]
 | B :: bs,b,u=>by
  unfold bZ wg
  rw [cQ,UF,bu]
  constructor
  .rintro (⟨v,c,rfl⟩ | ⟨p,a,h⟩)
   .exact ⟨(b,B),aV,v,c,rfl⟩
   .exact ⟨p,aZ _ a,h⟩
  .rintro ⟨p,a,v,c,rfl⟩
   rcases aS.mp a with rfl | a
   .exact .inl ⟨v,c,rfl⟩
   .exact .inr ⟨p,a,v,c,rfl⟩
def TX   : iT (b+i) (b+j) (dU b u)↔iT i j u:=by
 have c:c7 (b+i) (b+j)=b+c7 i j:=by unfold c7; split <;> split <;> omega
 have a:dQ (b+i) (b+j)=b+dQ i j:=by unfold dQ; split <;> split <;> omega
 show b+u.1=c7 (b+i) (b+j)/\b+u.2.1=dQ (b+i) (b+j)↔_
 rw [c,a]
 exact and_congr ⟨λh=>by omega,λh=>by omega⟩ ⟨λh=>by omega,λh=>by omega⟩
def Gz:(c7 a c=c7 d e/\dQ a c=dQ d e)↔((a=d/\c=e)\/(a=e/\c=d)):=by
 unfold c7 dQ
 split <;> split <;> split <;> split <;> omega
theorem turn_in:∀ {bs:List ba} {b:Int} {p:Int×ba} {i j:Int},(∀ B∈bs,Ku B.1 B.2.2)->p∈wg b bs->0<=i->i < p.2.1->0<=j->j < p.2.1->zu (bZ b bs) (p.1+i) (p.1+j)=zu p.2.2.2 i j
 | [],b,p,i,j,_,h,_,_,_,_=>by cases h
 | B :: bs,b,p,i,j,hg,h,h1,h2,k,g=>by
  unfold bZ
  rcases aS.mp h with rfl | h
  .dsimp only at *
   rw [ZS]
   .exact ZR λu _=>⟨rfl,TX⟩
   .intro u c
    obtain ⟨q,d,v,a,rfl⟩:=UF.mp c
    have:=xH d
    have f:=hg q.2 (aZ _ (wR d)) v a
    unfold iT dU c7 dQ
    dsimp only
    split <;> split <;> omega
  .rw [jq,turn_in (λC e=>hg C (aZ _ e)) h h1 h2 k g]
   intro u c
   obtain ⟨v,a,rfl⟩:=bu.mp c
   have:=xH h
   have f:=hg B aV v a
   unfold iT dU c7 dQ
   dsimp only
   split <;> split <;> omega
def zao (hg:∀ B∈bs,Ku B.1 B.2.2) (h:u∈bZ b bs):∃ p∈wg b bs,In p u.1/\In p u.2.1/\u.1 < u.2.1:=by
 obtain ⟨p,a,v,c,rfl⟩:=UF.mp h
 have f:=hg p.2 (wR a) v c
 exact ⟨p,a,⟨by unfold dU; dsimp only; omega,by unfold dU; dsimp only; omega⟩,⟨by unfold dU; dsimp only; omega,by unfold dU; dsimp only; omega⟩,by unfold dU; dsimp only; omega⟩
def turn_out   {p:Int×ba} (hg:∀ B∈bs,Ku B.1 B.2.2) (g:p∈wg b bs) (e:In p x) (d:¬ In p y):zu (bZ b bs) x y=2:=by
 refine XX λu i h=>?_
 obtain ⟨q,f,c,a,j⟩:=zao hg i
 unfold iT c7 dQ at h
 have:x=u.1/\y=u.2.1\/x=u.2.1/\y=u.1:=by
  split at h <;> split at h <;> omega
 rcases this with ⟨e1,e2⟩ | ⟨e1,e2⟩
 .subst e1 e2
  exact d (Yf g f e c ▸ a)
 .subst e1 e2
  exact d (Yf g f e a ▸ c)
structure Rl (n:Nat) (σ:Int->Int):Prop where
 inj:∀ i j:Int,0<=i->i < n->0<=j->j < n->σ i=σ j->i=j
 rg:∀ i:Int,0<=i->i < n->0<=σ i/\σ i < n
 sur:∀ y:Int,0<=y->y < n->∃ i:Int,0<=i/\i < n/\σ i=y
def mU (σ:Int->Int) (u:T3):T3:=(c7 (σ u.1) (σ u.2.1),dQ (σ u.1) (σ u.2.1),u.2.2)
def GB {n:Nat} {σ:Int->Int} {ts:List T3} {i j:Int} (R:Rl n σ) (h:Ku n ts) (hi:0<=i) (o:i < n) (k:0<=j) (l:j < n):zu (ts.map (mU σ)) (σ i) (σ j)=zu ts i j:=by
 refine ZR λu d=>⟨rfl,?_⟩
 obtain ⟨f1,f2,m⟩:=h u d
 have e1:σ u.1=σ i↔u.1=i:=⟨R.inj _ _ (by omega) (by omega) (by omega) (by omega),λe=>by rw [e]⟩
 have e2:σ u.1=σ j↔u.1=j:=⟨R.inj _ _ (by omega) (by omega) (by omega) (by omega),λe=>by rw [e]⟩
 have g:σ u.2.1=σ i↔u.2.1=i:=⟨R.inj _ _ (by omega) (by omega) (by omega) (by omega),λe=>by rw [e]⟩
 have f:σ u.2.1=σ j↔u.2.1=j:=⟨R.inj _ _ (by omega) (by omega) (by omega) (by omega),λe=>by rw [e]⟩
 have c:c7 u.1 u.2.1=u.1:=by unfold c7; exact if_neg (by omega)
 have b:dQ u.1 u.2.1=u.2.1:=by unfold dQ; exact if_pos f2
 have a:iT i j u↔(c7 u.1 u.2.1=c7 i j/\dQ u.1 u.2.1=dQ i j):=by rw [c,b]
 rw [a,Gz,<- e1,<- e2,<- g,<- f]
 exact Gz
def QI (hg:∀ B∈bs,Ku B.1 B.2.2):Ku (yP bs) (bZ 0 bs):=λu a=>by
 obtain ⟨p,b,h1,h2,c⟩:=zao hg a
 have:=xH b
 unfold In at h1 h2
 omega
structure Hs (bs:List ba) (σ:Int->Int):Prop where
 gb:∀ B∈bs,B.2∈qc B.1
 rl:Rl (yP bs) σ
def bA (bs:List ba) (σ:Int->Int):List T3:=(bZ 0 bs).map (mU σ)
def wM (σ:Int->Int) (p:Int×ba):List Int:=(idx p.2.1).map λi=>σ (p.1+i)
def yN   : i∈idx n↔0<=i/\i < n:=by
 unfold idx
 rw [bu]
 constructor
 .rintro ⟨k,a,rfl⟩
  have:=dA.mp a
  omega
 .rintro ⟨h1,h2⟩
  exact ⟨i.toNat,dA.mpr (by omega),by omega⟩
def xP (n):(idx n).Nodup:=by
 unfold idx List.Nodup
 rw [iP]
 exact List.nodup_range.imp λh e=>h (by omega)
def DD (h:B∈qc k):Ku k B.2:=λu a=>by
 have h:=Qp h
 unfold l_ at h
 rw [dR,dR,dR] at h
 have:=bS.mp h.1.1.1 u a
 simpa [and_assoc] using this
def Jz (h:B∈qc k) (a:v < k) (c:v≠0):∃ u:Nat,u < v/\zu B.2 u v≠2:=by
 have h:=Qp h
 unfold l_ at h
 rw [dR,dR,dR] at h
 have:=bS.mp h.1.1.2 v (dA.mpr a)
 rw [AU] at this
 rcases this with z | z
 .exact absurd (of_decide_eq_true z) c
 .obtain ⟨u,b,z⟩:=nZ.mp z
  exact ⟨u,dA.mp b,of_decide_eq_true z⟩
def Jy (h:B∈qc k):(∀ c∈vm (zu B.2) (CQ B.2) (idx k),c=(0,0)\/c=B.1)/\(B.1=(0,0)\/B.1∈vm (zu B.2) (CQ B.2) (idx k)):=by
 have h:=Qp h
 unfold l_ at h
 rw [dR,dR,dR] at h
 refine ⟨λc a=>?_,?_⟩
 .have:=bS.mp h.1.2 c a
  rw [AU] at this
  exact this.imp of_decide_eq_true of_decide_eq_true
 .have:=h.2
  rw [AU] at this
  refine this.imp of_decide_eq_true λz=>?_
  obtain ⟨c,a,e⟩:=nZ.mp z
  rw [<- of_decide_eq_true e]
  exact a
section
variable {bs:List ba} {σ:Int->Int} {p:Int×ba}
def Hs.fits (h:Hs bs σ):∀ B∈bs,Ku B.1 B.2.2:=λB a=>DD (h.gb B a)
def Hs.turn_in (h:Hs bs σ) (a:p∈wg 0 bs) {i j:Int} (h1:0<=i) (h2:i < p.2.1) (c:0<=j) (b:j < p.2.1):zu (bA bs σ) (σ (p.1+i)) (σ (p.1+j))=zu p.2.2.2 i j:=by
 have:=xH a
 unfold bA
 rw [GB h.rl (QI h.fits) (by omega) (by omega) (by omega) (by omega),GH.turn_in h.fits a h1 h2 c b]
def xx:y∈wM σ p↔∃ x,In p x/\σ x=y:=by
 unfold wM
 rw [bu]
 constructor
 .rintro ⟨i,hi,rfl⟩
  rw [yN] at hi
  exact ⟨_,⟨by omega,by omega⟩,rfl⟩
 .rintro ⟨x,a,rfl⟩
  unfold In at a
  exact ⟨x - p.1,yN.mpr ⟨by omega,by omega⟩,by congr 1; omega⟩
def Hs.turn_out (h:Hs bs σ) (a:p∈wg 0 bs) (c:x∈wM σ p) (b:y∉wM σ p) (h1:0<=y) (h2:y < yP bs):zu (bA bs σ) x y=2:=by
 obtain ⟨i,hi,rfl⟩:=xx.mp c
 obtain ⟨j,d,e,rfl⟩:=h.rl.sur y h1 h2
 have:=xH a
 unfold bA
 unfold In at hi
 rw [GB h.rl (QI h.fits) (by omega) (by omega) (by omega) (by omega),GH.turn_out h.fits a hi]
 exact λz=>b (xx.mpr ⟨j,z,rfl⟩)
def Hs.rlb (h:Hs bs σ) (b:p∈wg 0 bs):Rlb (zu p.2.2.2) (zu (bA bs σ)) (λi=>σ (p.1+i)) (idx p.2.1) where
 tt:=λi hi j a=>by
  rw [yN] at hi a
  exact h.turn_in b hi.1 hi.2 a.1 a.2
 inj:=λi hi j a e=>by
  rw [yN] at hi a
  have:=xH b
  have:=h.rl.inj _ _ (by omega) (by omega) (by omega) (by omega) e
  omega
def Gi (h:Hs bs σ) (a:p∈wg 0 bs):(wM σ p).Nodup:=by
 unfold wM List.Nodup
 rw [iP]
 exact (xP p.2.1).imp_of_mem λc b z e=>z ((h.rlb a).inj _ c _ b e)
def Hs.kind (h:Hs bs σ) (a:p∈wg 0 bs) (d:ms.Perm (wM σ p)):WH (vm (zu (bA bs σ)) (CQ p.2.2.2) ms)=p.2.2.1:=by
 obtain ⟨k1,k2⟩:=Jy (h.gb p.2 (wR a))
 have r:=λk=>JN (h.rlb a) (λy c=>c) d (b:=CQ p.2.2.2) (k:=k)
 refine Fe (λk e=>k1 k ((r k).mp e)) ?_
 exact k2.imp id λz=>(r _).mpr z
def Y7 (ts:List T3) (ms:List Int):Bool:=(ts.filter λu=>decide (u.1∈ms)).all λu=>decide (u.2.2=3)
def Mv (a b):c7 a b=a\/c7 a b=b:=by unfold c7; split <;> simp
def Hs.thr (h:Hs bs σ) (b:p∈wg 0 bs) (i:ms.Perm (wM σ p)):Y7 (bA bs σ) ms=CQ p.2.2.2:=by
 have m:=xH b
 unfold Y7 CQ
 rw [Bool.eq_iff_iff,bS,bS]
 constructor
 .intro q v a
  have f:=h.fits p.2 (wR b) v a
  refine q (mU σ (dU p.1 v)) (gp.mpr ⟨A1 (UF.mpr ⟨p,b,v,a,rfl⟩),decide_eq_true (i.mem_iff.mpr (xx.mpr ?_))⟩)
  show ∃ x,In p x/\σ x=c7 (σ (p.1+v.1)) (σ (p.1+v.2.1))
  rcases Mv (σ (p.1+v.1)) (σ (p.1+v.2.1)) with e | e <;> rw [e]
  .exact ⟨_,⟨by omega,by omega⟩,rfl⟩
  .exact ⟨_,⟨by omega,by omega⟩,rfl⟩
 .intro q u g
  obtain ⟨g,hd⟩:=gp.mp g
  obtain ⟨w,j,rfl⟩:=bu.mp g
  obtain ⟨r,c,v,a,rfl⟩:=UF.mp j
  have f:=h.fits r.2 (wR c) v a
  have l:=xH c
  obtain ⟨x,d,ex⟩:=xx.mp (i.mem_iff.mp (of_decide_eq_true hd))
  have ex:σ x=c7 (σ (r.1+v.1)) (σ (r.1+v.2.1)):=ex
  have k:=d
  unfold In at k
  have e:r=p:=by
   rcases Mv (σ (r.1+v.1)) (σ (r.1+v.2.1)) with e | e <;> rw [e] at ex
   .have:=h.rl.inj _ _ (by omega) (by omega) (by omega) (by omega) ex
    subst this
    exact Yf c b ⟨by omega,by omega⟩ d
   .have:=h.rl.inj _ _ (by omega) (by omega) (by omega) (by omega) ex
    subst this
    exact Yf c b ⟨by omega,by omega⟩ d
  subst e
  exact q v a
end
def YQ (t:Int->Int->Int):Nat->List Int->List Int->Nat->List Int
 | 0,part,_,_=>part
 | n+1,part,left,p=>match part[p]? with
  | none=>part
  | some x=>YQ t n (part++bM t x left) (left.filter λo=>decide (o∉bM t x left)) (p+1)
theorem Kn  {R S:List Int} (m:R.Nodup) (l:∀ x∈S,∀ y∈R,y∉S->t x y=2) :
  ∀ n part left p,(part++left).Perm R->(∀ x∈part,x∈S)->(∀ q,q < p->∀ x,part[q]? = some x->∀ y∈left,t x y=2)->R.length<=n+p →
   (∀ x∈part,x∈YQ t n part left p)/\(YQ t n part left p).Nodup/\(∀ x∈YQ t n part left p,x∈S)/\∀ x∈YQ t n part left p,∀ y∈R,y∉YQ t n part left p->t x y=2
 | n,part,left,p,h1,h2,r,C=>by
  have j:(part++left).Nodup:=h1.nodup_iff.mpr m
  have w:=h1.length_eq
  rw [aW] at w
  have stop:part.length<=p->(∀ x∈part,x∈part)/\part.Nodup/\(∀ x∈part,x∈S)/\∀ x∈part,∀ y∈R,y∉part->t x y=2:=λB=>by
   refine ⟨λ_ h=>h,(pg.mp j).1,h2,λx d y a s=>?_⟩
   obtain ⟨q,i,e⟩:=g3y.mp d
   refine r q (by omega) x (by rw [fg i,e]) y ?_
   rcases cQ.mp (h1.mem_iff.mpr a) with z | z
   .exact absurd z s
   .exact z
  cases n with
  | zero=>exact stop (by omega)
  | succ n =>
   unfold YQ
   cases e:part[p]? with
   | none=>exact stop (List.getElem?_eq_none_iff.mp e)
   | some x =>
    have d:x∈part:=sk e
    have k:∀ o∈left,(decide (o∉bM t x left)) = !(decide (o≠x)&&decide (t x o≠2)):=λo v=>by
     have:o∈bM t x left↔(decide (o≠x)&&decide (t x o≠2))=true:=by
      unfold bM; rw [gp]; exact ⟨λz=>z.2,λz=>⟨v,z⟩⟩
     cases c:(decide (o≠x)&&decide (t x o≠2)) with
     | true=>rw [c] at this; simpa using this
     | false=>rw [c] at this; simpa using this
    have g:((part++bM t x left)++left.filter λo=>decide (o∉bM t x left)).Perm R:=by
     rw [dh]
     refine (List.Perm.append_left part ?_).trans h1
     rw [LG k]
     exact List.filter_append_perm _ _
    have u:∀ y∈bM t x left,y∈S:=λy a=>by
     unfold bM at a
     obtain ⟨a,hd⟩:=gp.mp a
     rw [dR] at hd
     refine Et λz=>of_decide_eq_true hd.2 (l x (h2 x d) y (h1.mem_iff.mp (e9 _ a)) z)
    obtain ⟨a1,a2,a3,a4⟩:=Kn m l n (part++bM t x left) (left.filter λo=>decide (o∉bM t x left)) (p+1) g (λy a=>(cQ.mp a).elim (h2 y) (u y)) (λq i z f y a=>by
      obtain ⟨b,hd⟩:=gp.mp a
      have E:p < part.length:=(iS.mp e).1
      rw [lZ (by omega)] at f
      by_cases c:q=p
      .subst c
       rw [e] at f
       cases f
       rw [k y b] at hd
       have A:y≠x:=λz=>by
        subst z
        exact (pg.mp j).2.2 y d y b rfl
       simpa [A] using hd
      .exact r q (by omega) z f y b) (by omega)
    exact ⟨λy a=>a1 y (lY _ a),a2,a3,a4⟩
def jw {a b:List Int} (d:a.Nodup) (c:b.Nodup) (h:∀ x,x∈a↔x∈b):a.Perm b:=(g3x d c).mpr h
def jf (t:Int->Int->Int) (n:Nat) (x:Int):List Int:=YQ t n [x] (bp (idx n) x) 0
def Ho {bs:List ba} {σ:Int->Int} {p:Int×ba} (h:Hs bs σ) (hp:p∈wg 0 bs) {x:Int} (hx:x∈wM σ p):(jf (zu (bA bs σ)) (yP bs) x).Perm (wM σ p):=by
 have hl:=xH hp
 obtain ⟨i,hi,ei⟩:=xx.mp hx
 unfold In at hi
 have hR:x∈idx (yP bs):=by
  rw [yN,<- ei]
  exact h.rl.rg i (by omega) (by omega)
 have hwo:([x]++bp (idx (yP bs)) x).Perm (idx (yP bs)):=by
  refine jw ?_ (xP _) λy=>?_
  .rw [nF,nY]
   refine ⟨λz=>?_,(xP _).filter _⟩
   unfold bp at z
   simpa using (gp.mp z).2
  .rw [nF,aS]
   unfold bp
   rw [gp]
   constructor
   .rintro (rfl | z)
    .exact hR
    .exact z.1
   .intro z
    by_cases c:y=x
    .exact .inl c
    .exact .inr ⟨z,decide_eq_true c⟩
 obtain ⟨a1,a2,a3,a4⟩:=Kn (t:=zu (bA bs σ)) (S:=wM σ p) (xP (yP bs)) (λy hy z hz me=>h.turn_out hp hy me (yN.mp hz).1 (yN.mp hz).2) (yP bs) [x] (bp (idx (yP bs)) x) 0 hwo (λy hy=>by rw [n1.mp hy]; exact hx) (λq hq=>by omega) (by unfold idx; simp)
 unfold jf
 refine jw a2 (Gi h hp) λy=>⟨a3 y,λhy=>?_⟩
 have step:∀ u v:Nat,u < p.2.1->v < p.2.1->zu p.2.2.2 u v≠2->σ (p.1+u)∈YQ (zu (bA bs σ)) (yP bs) [x] (bp (idx (yP bs)) x) 0->σ (p.1+v)∈YQ (zu (bA bs σ)) (yP bs) [x] (bp (idx (yP bs)) x) 0:=λu v hu hv ht hm=>by
  refine Et λz=>ht ?_
  rw [<- h.turn_in hp (i:=u) (j:=v) (by omega) (by omega) (by omega) (by omega)]
  refine a4 _ hm _ ?_ z
  rw [yN]
  exact h.rl.rg _ (by omega) (by omega)
 have down:∀ v:Nat,v < p.2.1->σ (p.1+v)∈YQ (zu (bA bs σ)) (yP bs) [x] (bp (idx (yP bs)) x) 0->σ (p.1+(0:Nat))∈YQ (zu (bA bs σ)) (yP bs) [x] (bp (idx (yP bs)) x) 0:=by
  intro v
  induction v using I_ with
  | _ v ih =>
   intro hv hm
   by_cases c:v=0
   .subst c; exact hm
   .obtain ⟨u,hu,ht⟩:=Jz (h.gb p.2 (wR hp)) hv c
    exact ih u hu (by omega) (step v u hv (by omega) (by rw [wc]; exact ht) hm)
 have up:∀ v:Nat,v < p.2.1->σ (p.1+v)∈YQ (zu (bA bs σ)) (yP bs) [x] (bp (idx (yP bs)) x) 0:=by
  intro v
  induction v using I_ with
  | _ v ih =>
   intro hv
   by_cases c:v=0
   .subst c
    refine down (i - p.1).toNat (by omega) ?_
    have:p.1+(((i - p.1).toNat:Nat):Int)=i:=by omega
    rw [this,ei]
    exact a1 x aV
   .obtain ⟨u,hu,ht⟩:=Jz (h.gb p.2 (wR hp)) hv c
    exact step u v (by omega) hv ht (ih u hu (by omega))
 obtain ⟨j,hj,rfl⟩:=xx.mp hy
 unfold In at hj
 have:=up (j - p.1).toNat (by omega)
 have e:p.1+(((j - p.1).toNat:Nat):Int)=j:=by omega
 rwa [e] at this
section
variable {ts:List T3} {n:Nat}
end
def Le (a b:Int):Prop:=b=0\/(a≠0/\a<=b)
def UP (i j k):v8 i j (k+1)=v8 i j k++[if k % 2=0 then i else j]:=by
 unfold v8
 rw [List.range_succ,bK]
 rfl
def UQ (i j k):v8 i j (k+1)=i :: v8 j i k:=by
 unfold v8
 rw [n6,aC,bz]
 congr 1
 apply fH
 intro m _
 simp only [Iq]
 by_cases c:m % 2=0
 .rw [if_pos c,if_neg (by omega)]
 .rw [if_neg c,if_pos (by omega)]
def Ve (φ) (i j k:Nat):(v8 i j k).map φ=v8 (φ i) (φ j) k:=by
 unfold v8
 rw [bz]
 apply fH
 intro m _
 simp only [Iq]
 split <;> rfl
section
variable {ts us:List T3} {n n':Nat}
def MR {f t m:Nat} (b:f≠t) (a:f < n) (ht:t < n) (em:zu ts f t=(m:Int)) (c:2<=m/\m<=6):Eqv (zg ts) n (v8 f t m) (v8 t f m):=by
 have d:=F0 (ts:=ts) (n:=n) b a ht em c
 have e2:=Eqv.rev (zT ts) (F9 a ht _) (F9 ht a _) d
 rw [q9,q9] at e2
 exact e2.symm
def RA {f t m k:Nat} (a:f≠t) (c:f < n) (ht:t < n) (em:zu ts f t=(m:Int)) (b:2<=m/\m<=6) (h:Sh ts n (v8 f t k)):k<=m:=by
 have h2:=h.rev
 rw [<- q9,n5] at h2
 exact MV (E7 a) ht c (by rw [wc]; exact em) b h2
structure Rel (ts us:List T3) (n n':Nat) (P:Nat->Prop) (φ:Nat->Nat):Prop where
 g:yh ts
 g':yh us
 lt:∀ i,P i->i < n
 lt':∀ i,P i->φ i < n'
 inj:∀ i j,P i->P j->φ i=φ j->i=j
 le:∀ i j,P i->P j->i≠j->Le (zu ts i j) (zu us (φ i) (φ j))
variable {P:Nat->Prop} {φ:Nat->Nat}
def XQ (R:Rel ts us n n' P φ):∀ L s a,s.length=L->(∀ i∈s,P i)->Sh ts n s->Sh us n' (s.map φ)->P a->Dn us n' (s.map φ) (φ a)->∃ r,(∀ i∈r,P i)/\r.length+1=s.length/\Eqv (zg ts) n (a :: r) s/\Eqv (zg us) n' ((a :: r).map φ) (s.map φ):=by
 intro L
 induction L using I_ with
 | _ L ih =>
  intro s a hL X W I G hd
  cases s with
  | nil =>
   obtain ⟨r,_,_,z⟩:=hd
   simp at z
  | cons f s =>
   have g:P f:=X f aV
   have F:=R.lt f g
   have d:=R.lt a G
   have Z:∀ i∈s,P i:=λx O=>X x (aZ _ O)
   by_cases c:f=a
   .subst c
    exact ⟨s,Z,rfl,Em _,Em _⟩
   .have Y:φ f≠φ a:=λz=>c (R.inj f a g G z)
    have U:=R.lt' f g
    have o:=R.lt' a G
    obtain ⟨cc,m,em,hm,hc,e1,e2,hl⟩:=CL R.g' I Y U o (Dn.head I.1) hd
    have wk:∀ k,1<=k->k<=m->∃ x,(∀ i∈x,P i)/\k+x.length=(f :: s).length/\Eqv (zg ts) n (v8 f a k++x) (f :: s)/\Eqv (zg us) n' ((v8 f a k++x).map φ) ((f :: s).map φ):=by
     intro k
     induction k with
     | zero=>intro h; omega
     | succ k J =>
      intro _ hk
      by_cases k0:k=0
      .subst k0
       exact ⟨s,Z,by simp; omega,Em _,Em _⟩
      .obtain ⟨x,u,E,w,p⟩:=J (by omega) (by omega)
       have v:=p
       rw [bK,Ve] at v
       have y:az n' (x.map φ):=λi hi=>by
        obtain ⟨j,hj,rfl⟩:=bu.mp hi
        exact R.lt' j (u j hj)
       obtain ⟨y1,y2⟩:=DV R.g' I (f:=φ f) (t:=φ a) (m:=m) (k:=k) U o (by omega) hc e1 hl y v (by rw [aD,aD]; exact E)
       have T:=Vf F d (n:=n) k
       have O:Sh ts n x:=by
        have:Sh ts n (v8 f a k++x):=W.of (T.app λi hi=>R.lt i (u i hi)) w (by rw [aW,wZ]; exact E)
        exact Sh.cut (a:=v8 f a k) (b:=x) (c:=[]) (by simpa using this)
       have Q:P (if k % 2=0 then f else a):=by split <;> assumption
       have H:Dn us n' (x.map φ) (φ (if k % 2=0 then f else a)):=by
        have e:φ (if k % 2=0 then f else a)=if k % 2=0 then φ f else φ a:=by split <;> rfl
        rw [e]; exact y2
       obtain ⟨r,r1,r2,r3,r4⟩:=ih x.length (by omega) x _ rfl u O y1 Q H
       refine ⟨r,r1,by omega,?_,?_⟩
       .rw [UP,dh]
        exact ((Em _).app r3).trans w
       .rw [UP,dh,bK]
        rw [bK] at p
        exact ((Em _).app r4).trans p
    obtain ⟨x,u,E,w,p⟩:=wk m (by omega) (aT _)
    have M:az n x:=λi hi=>R.lt i (u i hi)
    have S:Sh ts n (v8 f a m):=by
     have:Sh ts n (v8 f a m++x):=W.of ((Vf F d m).app M) w (by rw [aW,wZ]; exact E)
     exact Sh.cut (a:=[]) (b:=v8 f a m) (c:=x) (by simpa using this)
    have B:=R.le f a g G c
    rw [em] at B
    have Av:zu ts f a≠0/\zu ts f a<=m:=by
     rcases B with z | z
     .omega
     .exact z
    have hgd:=qP R.g (f:Int) (a:Int)
    obtain ⟨l,C⟩:∃ l:Nat,zu ts f a=(l:Int):=⟨(zu ts f a).toNat,by omega⟩
    have A:2<=l/\l<=6:=by omega
    have:=RA c F d C A S
    have:l=m:=by omega
    subst this
    have b1:=MR c F d C A
    have b2:=MR Y U o em hm
    obtain ⟨k,rfl⟩:∃ k,l=k+1:=⟨l - 1,by omega⟩
    refine ⟨v8 f a k++x,λi hi=>?_,?_,?_,?_⟩
    .rcases cQ.mp hi with hi | hi
     .obtain ⟨q,_,rfl⟩:=bu.mp hi
      split <;> assumption
     .exact u i hi
    .rw [aW,wZ]
     omega
    .have:=(b1.symm.app (Em x)).trans w
     rw [UQ a f] at this
     exact this
    .rw [bK,Ve] at p
     have:=(b2.symm.app (Em (x.map φ))).trans p
     rw [UQ (φ a) (φ f)] at this
     rw [aC,bK,Ve]
     exact this
theorem qj (R:Rel ts us n n' P φ):∀ w,(∀ i∈w,P i)->Sh ts n w->Sh us n' (w.map φ)
 | [],f,h=>⟨(λi hi=>by cases hi),b4.nil⟩
 | a :: s,f,h=>by
  have j:Sh ts n s:=Sh.cut (a:=[a]) (b:=s) (c:=[]) (by simpa using h)
  have k:∀ i∈s,P i:=λx m=>f x (aZ _ m)
  have g:=qj R s k j
  have d:P a:=f a aV
  have p:=R.lt a d
  apply Et
  intro o
  obtain ⟨r,l,q,r3,_⟩:=XQ R s.length s a rfl k j g d (Hu R.g' g (R.lt' a d) o)
  have e:Eqv (zg ts) n r (a :: s):=by
   have e1:Eqv (zg ts) n ([a]++(a :: r)) ([a]++s):=(Em [a]).app r3
   have e2:Eqv (zg ts) n ([a,a]++r) ([]++r):=(IR (zT ts) p).app (Em r)
   exact e2.symm.trans e1
  have:=h.2.le (λi hi=>R.lt i (l i hi)) e
  simp only [aB] at this
  omega
end
section
variable {ts:List T3} {n:Nat}
theorem HP  [DecidableEq α]:∀ {l m:List α},l.Nodup->(∀ x∈l,x∈m)->l.length<=m.length
 | [],m,_,_=>dJ _
 | x :: l,m,a,h=>by
  rw [nY] at a
  have c:x∈m:=h x aV
  have:=HP (l:=l) (m:=m.erase x) a.2 λy b=>by
   have d:y≠x:=λz=>a.1 (z ▸ b)
   exact (List.mem_erase_of_ne d).mpr (h y (aZ _ b))
  rw [List.length_erase_of_mem c] at this
  have e:=List.length_pos_of_mem c
  rw [aB]
  omega
end
def zbf (k:Nat):List Bk:=(qc k).filter λB=>decide (B.1≠(0,0))
section
variable {us:List T3}
structure IsoT (B us:List T3) (u:List Nat):Prop where
 nd:u.Nodup
 eq:∀ a b:Nat,a < u.length->b < u.length->a≠b->zu us ((u.getD a 0:Nat):Int) ((u.getD b 0:Nat):Int)=zu B a b
def WM {u:List Nat} (h:a < u.length):u.getD a 0∈u:=by rw [WN h]; exact rX h
def Fu {u:List Nat} (g:u.Nodup) (f:a < u.length) (d:b < u.length) (e:u.getD a 0=u.getD b 0):a=b:=by
 rw [WN f,WN d] at e
 have h:=g4a.mp (sr.mp g)
 rcases LF a b with c | c | c
 .exact absurd e (h a b f d c)
 .exact c
 .exact absurd e.symm (h b a d f c)
def Le.self (a):Le a a:=by unfold Le; omega
def Nr {n k:Nat} {B:List T3} {u:List Nat} (hg:yh us) (d:yh B) (f:u.length=k) (a:∀ x∈u,x < n) (I:IsoT B us u):Rel B us k n (· < k) (λi=>u.getD i 0) where
 g:=d
 g':=hg
 lt:=λ_ h=>h
 lt':=λi h=>a _ (WM (by omega))
 inj:=λi j hi b e=>Fu I.nd (by omega) (by omega) e
 le:=λi j hi b c=>by rw [I.eq i j (by omega) (by omega) c]; exact Le.self _
def uN {u:List Nat} (h:x∈u):u.idxOf x < u.length/\u.getD (u.idxOf x) 0=x:=by
 have h1:=List.idxOf_lt_length_iff.mpr h
 exact ⟨h1,by rw [WN h1]; exact List.getElem_idxOf h1⟩
def Dg {n k:Nat} {B:List T3} {u:List Nat} (hg:yh us) (f:yh B) (d:u.length=k) (b:∀ x∈u,x < n) (I:IsoT B us u):Rel us B n k (· ∈ u) (λx=>u.idxOf x) where
 g:=hg
 g':=f
 lt:=b
 lt':=λi h=>by rw [<- d]; exact (uN h).1
 inj:=λi j hi a e=>by
  have:=(uN hi).2
  rw [show u.idxOf i=u.idxOf j from e,(uN a).2] at this
  exact this.symm
 le:=λi j hi a c=>by
  have:=I.eq (u.idxOf i) (u.idxOf j) (uN hi).1 (uN a).1 (λe=>c (by
   have:=(uN hi).2
   rw [e,(uN a).2] at this
   exact this.symm))
  rw [(uN hi).2,(uN a).2] at this
  rw [this]
  exact Le.self _
end
section
variable {t:Int->Int->Int}
end
section
variable {us:List T3}
end
section
variable {us:List T3}
end
section
variable {t:Int->Int->Int} {n:Nat}
end
section
variable {ts:List T3} {n:Nat}
end
section
variable {ts us:List T3} {n n':Nat} {P:Nat->Prop} {φ:Nat->Nat}
def Sh.same_len (b:Sh ts n u) (a:Sh ts n v) (e:Eqv (zg ts) n u v):u.length=v.length:=(b.2.cong e).uniq a.2
theorem BE (R:Rel ts us n n' P φ):∀ h w,(∀ i∈h,P i)->(∀ i∈w,P i)->Sh ts n h->Sh ts n w->Eqv (zg us) n' (w.map φ) (h.map φ)->Eqv (zg ts) n w h
 | [],w,g,l,k,f,e=>by
  have:=(qj R w l f).same_len (qj R [] g k) e
  rw [aD,bg,aI] at this
  rw [n8.mp this]
  exact Em _
 | a :: d,w,g,l,k,f,e=>by
  have q:=qj R w l f
  have v:=qj R (a :: d) g k
  have len:=q.same_len v e
  rw [aD,aD,aB] at len
  have p:P a:=g a aV
  have u:∀ i∈d,P i:=λi hi=>g i (aZ _ hi)
  have A:Sh ts n d:=Sh.cut (a:=[a]) (b:=d) (c:=[]) (by simpa using k)
  obtain ⟨r,t,p2,s,y⟩:=XQ R w.length w a rfl l f q p ⟨d.map φ,λi hi=>by
   obtain ⟨j,E,rfl⟩:=bu.mp hi
   exact R.lt' j (u j E),e.symm,by rw [aD,aD]; omega⟩
  have m:az n (a :: r):=λi hi=>(aS.mp hi).elim (λz=>z ▸ R.lt a p) λz=>R.lt i (t i z)
  have o:Sh ts n (a :: r):=f.of m s (by rw [aB]; exact p2)
  have C:Sh ts n r:=Sh.cut (a:=[a]) (b:=r) (c:=[]) (by simpa using o)
  have e2:Eqv (zg us) n' (r.map φ) (d.map φ):=J0 (x:=[φ a]) (az.one (R.lt' a p)) (y.trans e)
  have B:=BE R d r u t A C e2
  exact s.symm.trans ((Em [a]).app B)
def zy (ts:List T3) (n:Nat) (w:List Nat):List (List Gd):=(aK n).map λk=>yf (zg ts) w (ye n k)
def vy (b:az n u) (a:az n v):zy ts n u=zy ts n v↔Eqv (zg ts) n u v:=by
 unfold zy
 constructor
 .intro h
  refine K7 b a λk c=>?_
  exact List.map_inj_left.mp h k (dA.mpr c)
 .intro h
  exact fH λk _=>h _ (zi n k)
def HC  {f:α->β} {l:List α}:(l.map f).Nodup↔l.Pairwise λa b=>f a≠f b:=by
 rw [sr,iP]
section
variable {B:List T3} {u:List Nat} {k:Nat}
end
abbrev gq (U:List (Bk×List Nat)):List ba:=U.map λp=>(p.2.length,p.1)
theorem MD:∀ U b,(∀ p∈U,IsoT p.1.2 us p.2/\Ku p.2.length p.1.2)->U.Pairwise (λp q=>∀ (x:Nat),x∈p.2->∀ (y:Nat),y∈q.2->zu us (x:Int) (y:Int)=2) →
  ∀ a c,a < (U.flatMap (·.2)).length->c < (U.flatMap (·.2)).length->a≠c->zu us (((U.flatMap (·.2)).getD a 0:Nat):Int) (((U.flatMap (·.2)).getD c 0:Nat):Int)=zu (bZ b (gq U)) (b+a) (b+c)
 | [],b,_,_,a,c,f,_,_=>by simp at f
 | p :: U,b,m,G,a,c,f,h,k=>by
  obtain ⟨g,R⟩:=ic.mp G
  have l:∀ q∈U,IsoT q.1.2 us q.2/\Ku q.2.length q.1.2:=λq d=>m q (aZ _ d)
  obtain ⟨I,F⟩:=m p aV
  have w:∀ B∈gq (p :: U),Ku B.1 B.2.2:=λB M=>by
   obtain ⟨q,d,rfl⟩:=bu.mp M
   exact (m q d).2
  have u:(b,(p.2.length,p.1))∈wg b (gq (p :: U)):=aV
  rw [nC] at f h ⊢
  rw [aW] at f h
  have r:∀ i,i < p.2.length->(p.2++U.flatMap (·.2)).getD i 0=p.2.getD i 0:=λi hi=>by
   rw [bR,lZ hi,bR]
  have o:∀ i,p.2.length<=i->(p.2++U.flatMap (·.2)).getD i 0=(U.flatMap (·.2)).getD (i - p.2.length) 0:=λi hi=>by
   rw [bR,iC hi,bR]
  have t:∀ i j,i < p.2.length->p.2.length<=j->j < p.2.length+(U.flatMap (·.2)).length->zu us (((p.2++U.flatMap (·.2)).getD i 0:Nat):Int) (((p.2++U.flatMap (·.2)).getD j 0:Nat):Int)=zu (bZ b (gq (p :: U))) (b+i) (b+j):=λi j hi J S=>by
   rw [r i hi,o j J]
   have H:(U.flatMap (·.2)).getD (j - p.2.length) 0∈U.flatMap (·.2):=WM (by omega)
   obtain ⟨q,d,C⟩:=rW.mp H
   rw [g q d _ (WM hi) _ C]
   refine (turn_out w u ⟨?_,?_⟩ λz=>?_).symm
   .show b<=b+(i:Int); omega
   .show b+(i:Int) < b+(p.2.length:Int); omega
   .have z2:b+(j:Int) < b+(p.2.length:Int):=z.2
    omega
  by_cases ca:a < p.2.length <;> by_cases s:c < p.2.length
  .rw [r a ca,r c s,I.eq a c ca s k]
   exact (turn_in w u (by omega) (by show (a:Int) < (p.2.length:Int); omega) (by omega) (by show (c:Int) < (p.2.length:Int); omega)).symm
  .exact t a c ca (by omega) h
  .rw [wc us,wc (bZ b (gq (p :: U)))]
   exact t c a s (by omega) f
  .have A:=MD U (b+p.2.length) l R (a - p.2.length) (c - p.2.length) (by omega) (by omega) (by omega)
   rw [o a (by omega),o c (by omega),A]
   have Q:b+(p.2.length:Int)+((a - p.2.length:Nat):Int)=b+a:=by omega
   have O:b+(p.2.length:Int)+((c - p.2.length:Nat):Int)=b+c:=by omega
   rw [Q,O]
   show _=zu (p.1.2.map (dU b)++bZ (b+p.2.length) (gq U)) (b+a) (b+c)
   rw [jq]
   intro e L hh
   obtain ⟨v,E,rfl⟩:=bu.mp L
   have T:=F v E
   obtain ⟨h1,h2⟩:=hh
   have h1:b+v.1=c7 (b+a) (b+c):=h1
   have h2:b+v.2.1=dQ (b+a) (b+c):=h2
   unfold c7 at h1
   split at h1 <;> omega
end
def sx:Nat->Nat->List (List ba)
 | 0,_=>[[]]
 | _+1,0=>[[]]
 | f+1,n+1=>((aK (n+1)).flatMap λj=>(zbf (j+1)).flatMap λB=>(sx f (n - j)).map λr=>(j+1,B) :: r)
def pz:Kd->List Int
 | (1,m)=>(aK m).map λ(i:Nat)=>(i:Int)+2
 | (2,m)=>(aK m).map λ(i:Nat)=>2 * (i:Int)+2
 | (4,m)=>((aK (m - 1)).map λ(i:Nat)=>2 * (i:Int)+2)++[(m:Int)]
 | (5,6)=>[2,5,6,8,9,12]
 | (6,4)=>[2,6,8,12]
 | (8,3)=>[2,6,10]
 | (8,4)=>[2,12,20,30]
 | (9,5)=>[2,5]
 | (9,6)=>[2,6]
 | _=>[]
def ND (l:List Int):Int:=l.foldl (λa d=>a * d) 1
def dD (bs:List ba):Int:=ND (bs.flatMap λb=>pz b.2.1)
section
variable {T:List T3} {n:Nat}
end
theorem B8:∀ f bs n,n<=f->yP bs=n->(∀ b∈bs,1<=b.1/\b.2∈zbf b.1)->bs∈sx f n
 | 0,bs,n,d,ht,a=>by
  cases bs with
  | nil=>unfold sx; simp
  | cons b bs =>
   have:=(a b aV).1
   unfold yP at ht
   omega
 | f+1,[],n,d,ht,a=>by
  unfold yP at ht
  subst ht
  unfold sx
  simp
 | f+1,b :: bs,n,d,ht,a=>by
  obtain ⟨h1,h2⟩:=a b aV
  have h:b.1+yP bs=n:=ht
  obtain ⟨m,rfl⟩:∃ m,n=m+1:=⟨n - 1,by omega⟩
  obtain ⟨j,e⟩:∃ j,b.1=j+1:=⟨b.1 - 1,by omega⟩
  have g:=B8 f bs (m - j) (by omega) (by omega) λc i=>a c (aZ _ i)
  unfold sx
  rw [rW]
  refine ⟨j,dA.mpr (by omega),rW.mpr ⟨b.2,by rw [<- e]; exact h2,bu.mpr ⟨bs,g,?_⟩⟩⟩
  rw [<- e]
section
variable {us:List T3} {n:Nat}
theorem W6:∀ bs b,(∀ B∈bs,yh B.2.2)->yh (bZ b bs)
 | [],b,_=>λu a=>by cases a
 | B :: bs,b,h=>λu a=>by
  rcases cQ.mp a with z | z
  .obtain ⟨v,c,rfl⟩:=bu.mp z
   exact h B aV v c
  .exact W6 bs _ (λC d=>h C (aZ _ d)) u z
theorem Ja:∀ U,yP (gq U)=(U.flatMap (·.2)).length
 | []=>rfl
 | p :: U=>by
  rw [nC,aW,<- Ja U]
  rfl
end
def sD (ts:List T3) (n:Nat) (w:List Nat):List (List Nat)->List Nat->List (List Nat)
 | C,[]=>C
 | C,i :: l=>sD ts n w (if zy ts n (w++[i])∈C.map (zy ts n) then C else C++[w++[i]]) l
def upM (ts:List T3) (n:Nat) (w:List Nat):List (List Nat)->List Nat->List (List Nat)
 | C,[]=>C
 | C,i :: l=>upM ts n w (if Y5 (yf (zg ts) w (ye n i))=true then (if zy ts n (w++[i])∈C.map (zy ts n) then C else C++[w++[i]]) else C) l
def vP (ts:List T3) (n:Nat):List (List Nat)->List (List Nat)->List (List Nat)
 | C,[]=>C
 | C,w :: L=>vP ts n (upM ts n w C (aK n)) L
section
variable {ts:List T3} {n:Nat}
def Pd (h:(C.map (zy ts n)).Nodup) (d:zy ts n w∉C.map (zy ts n)):((C++[w]).map (zy ts n)).Nodup:=by
 rw [bK,pg]
 exact ⟨h,by simp,λa f b c e=>d (by simp at c; rw [<- c,<- e]; exact f)⟩
theorem Vg (b:az n w):∀ l C,(∀ i∈l,i < n)->(∀ v∈C,az n v)->(C.map (zy ts n)).Nodup →
  ∃ X,sD ts n w C l=C++X/\X.length<=l.length/\(∀ v∈X,az n v)/\((C++X).map (zy ts n)).Nodup/\∀ i∈l,zy ts n (w++[i])∈(C++X).map (zy ts n)
 | [],C,_,_,nd=>⟨[],by rw [bX]; rfl,aT _,λv h=>(by cases h),by rw [bX]; exact nd,λi h=>(by cases h)⟩
 | i :: l,C,m,o,nd=>by
  have hi:=m i aV
  have p:∀ j∈l,j < n:=λj a=>m j (aZ _ a)
  unfold sD
  by_cases c:zy ts n (w++[i])∈C.map (zy ts n)
  .rw [if_pos c]
   obtain ⟨X,g,q,f,e,d⟩:=Vg b l C p o nd
   refine ⟨X,g,by rw [aB]; omega,f,e,λj a=>?_⟩
   rcases aS.mp a with z | z
   .subst z
    rw [bK]
    exact lY _ c
   .exact d j z
  .rw [if_neg c]
   obtain ⟨X,g,q,f,e,d⟩:=Vg b l (C++[w++[i]]) p (λv k=>(cQ.mp k).elim (o v) λz=>by
    rw [n1] at z
    subst z
    exact b.app (az.one hi)) (Pd nd c)
   refine ⟨[w++[i]]++X,by rw [g,dh],by simp only [aW,aB,aI]; omega,λv k=>?_,by rw [<- dh]; exact e,λj a=>?_⟩
   .rcases cQ.mp k with z | z
    .rw [n1] at z
     subst z
     exact b.app (az.one hi)
    .exact f v z
   .rw [<- dh]
    rcases aS.mp a with z | z
    .subst z
     exact bu.mpr ⟨w++[j],by simp,rfl⟩
    .exact d j z
def Ha (i) (b:az n u) (a:az n v) (hi:i < n) (h:zy ts n u=zy ts n v):zy ts n (u++[i])=zy ts n (v++[i]) :=
 (vy (b.app (az.one hi)) (a.app (az.one hi))).mpr (((vy b a).mp h).app (Em _))
structure Lv (ts:List T3) (n k:Nat) (C L:List (List Nat)):Prop where
 sh:∀ w∈L,Sh ts n w/\w.length=k
 shC:∀ w∈C,Sh ts n w/\w.length < k
 nd:((C++L).map (zy ts n)).Nodup
 prev:∀ v,Sh ts n v->v.length < k->zy ts n v∈C.map (zy ts n)
 cur:∀ v,Sh ts n v->v.length=k->zy ts n v∈L.map (zy ts n)
theorem Q9 (hg:yh ts) (h:Lv ts n k C L) (f:w∈L):∀ l a,(∀ i∈l,i < n)->sD ts n w (C++L++a) l=C++L++upM ts n w a l
 | [],a,_=>rfl
 | i :: l,a,t=>by
  have hi:=t i aV
  have q:∀ j∈l,j < n:=λj F=>t j (aZ _ F)
  obtain ⟨d,I⟩:=h.sh w f
  have s:=ue (ts:=ts) d.1 hi
  have p:az n (w++[i]):=d.1.app (az.one hi)
  unfold sD upM
  rcases xq hg d.1 hi d.2 with ⟨o,r⟩ | ⟨o,r,r3⟩
  .rw [if_pos (o.abv s).1]
   have B:Sh ts n (w++[i]):=⟨p,by rw [aW,di]; exact r⟩
   have x:zy ts n (w++[i])∉(C++L).map (zy ts n):=λz=>by
    obtain ⟨v,E,e⟩:=bu.mp z
    have m:Sh ts n v/\v.length<=k:=(cQ.mp E).elim (λz=>⟨(h.shC v z).1,nA (h.shC v z).2⟩) λz=>⟨(h.sh v z).1,Nat.le_of_eq (h.sh v z).2⟩
    have:=m.1.same_len B ((vy m.1.1 p).mp e)
    rw [aW,di] at this
    have:=m.2
    omega
   have mem:zy ts n (w++[i])∈(C++L++a).map (zy ts n)↔zy ts n (w++[i])∈a.map (zy ts n):=by
    rw [bK,cQ]
    exact ⟨λz=>z.resolve_left x,.inr⟩
   by_cases c:zy ts n (w++[i])∈a.map (zy ts n)
   .rw [if_pos (mem.mpr c),if_pos c]
    exact Q9 hg h f l a q
   .rw [if_neg (λz=>c (mem.mp z)),if_neg c,dh (C++L)]
    exact Q9 hg h f l (a++[w++[i]]) q
  .have G:¬ Y5 (yf (zg ts) w (ye n i))=true:=by rw [(o.blw s).1]; decide
   rw [if_neg G]
   obtain ⟨u,g,y,H⟩:=r3
   have A:Sh ts n u:=⟨g.1,u,g,Em _,rfl⟩
   have b:=h.prev u A (by omega)
   rw [(vy g.1 p).mpr y] at b
   rw [if_pos (by rw [bK,bK]; exact lY _ (lY _ b))]
   exact Q9 hg h f l a q
theorem Q8 (hg:yh ts) (g:Sh ts n w) (q:w.length=k):∀ l f,(∀ i∈l,i < n)->(∀ v∈f,Sh ts n v/\v.length=k+1)->(∀ v∈upM ts n w f l,Sh ts n v/\v.length=k+1)/\(∀ x∈f.map (zy ts n),x∈(upM ts n w f l).map (zy ts n))/\∀ i∈l,Y5 (yf (zg ts) w (ye n i))=true->zy ts n (w++[i])∈(upM ts n w f l).map (zy ts n)
 | [],f,_,p=>⟨p,λ_ h=>h,λi h=>(by cases h)⟩
 | i :: l,f,u,p=>by
  have hi:=u i aV
  have r:∀ j∈l,j < n:=λj m=>u j (aZ _ m)
  have A:=ue (ts:=ts) g.1 hi
  unfold upM
  by_cases c:Y5 (yf (zg ts) w (ye n i))=true
  .rw [if_pos c]
   have y:Sh ts n (w++[i]):=by
    rcases xq hg g.1 hi g.2 with ⟨t,s⟩ | ⟨t,s,r3⟩
    .exact ⟨g.1.app (az.one hi),by rw [aW,di]; exact s⟩
    .rw [(t.blw A).1] at c
     cases c
   by_cases d:zy ts n (w++[i])∈f.map (zy ts n)
   .rw [if_pos d]
    obtain ⟨a,b,e⟩:=Q8 hg g q l f r p
    exact ⟨a,b,λj m o=>(aS.mp m).elim (λz=>by rw [z]; exact b _ d) λz=>e j z o⟩
   .rw [if_neg d]
    obtain ⟨a,b,e⟩:=Q8 hg g q l (f++[w++[i]]) r λv E=>(cQ.mp E).elim (p v) λz=>by
     rw [n1] at z
     subst z
     exact ⟨y,by rw [aW,di,q]⟩
    have B:zy ts n (w++[i])∈(f++[w++[i]]).map (zy ts n):=bu.mpr ⟨w++[i],by simp,rfl⟩
    exact ⟨a,λx C=>b x (by rw [bK]; exact lY _ C),λj m o=>(aS.mp m).elim (λz=>by rw [z]; exact b _ B) λz=>e j z o⟩
  .rw [if_neg c]
   obtain ⟨a,b,e⟩:=Q8 hg g q l f r p
   exact ⟨a,b,λj m o=>(aS.mp m).elim (λz=>absurd (z ▸ o) c) λz=>e j z o⟩
theorem V2 (hg:yh ts) (h:Lv ts n k C L):∀ f e,(∀ w∈f,w∈L)->(∀ v∈e,Sh ts n v/\v.length=k+1)->((C++L++e).map (zy ts n)).Nodup →
  (∀ v∈vP ts n e f,Sh ts n v/\v.length=k+1)/\((C++L++vP ts n e f).map (zy ts n)).Nodup/\(∀ x∈e.map (zy ts n),x∈(vP ts n e f).map (zy ts n))/\∀ w∈f,∀ i,i < n->Y5 (yf (zg ts) w (ye n i))=true->zy ts n (w++[i])∈(vP ts n e f).map (zy ts n)
 | [],e,_,l,nd=>⟨l,nd,λ_ h=>h,λw j=>(by cases j)⟩
 | w :: f,e,s,l,nd=>by
  have j:=s w aV
  obtain ⟨q,F⟩:=h.sh w j
  have p:∀ i∈aK n,i < n:=λi hi=>dA.mp hi
  obtain ⟨E,B,A⟩:=Q8 hg q F (aK n) e p l
  have o:∀ v∈C++L++e,az n v:=λv g=>by
   rcases cQ.mp g with z | z
   .rcases cQ.mp z with z | z
    .exact (h.shC v z).1.1
    .exact (h.sh v z).1.1
   .exact (l v z).1.1
  obtain ⟨X,u,J,I,t,H⟩:=Vg (ts:=ts) q.1 (aK n) (C++L++e) p o nd
  have y:=Q9 hg h j (aK n) e p
  have m:((C++L++upM ts n w e (aK n)).map (zy ts n)).Nodup:=by rw [<- y,u]; exact t
  obtain ⟨a,b,c,d⟩:=V2 hg h f (upM ts n w e (aK n)) (λv g=>s v (aZ _ g)) E m
  unfold vP
  refine ⟨a,b,λx G=>c x (B x G),λv g i hi r=>?_⟩
  rcases aS.mp g with z | z
  .subst z
   exact c _ (A i (dA.mpr hi) r)
  .exact d v z i hi r
def Pl (hg:yh ts) (h:Lv ts n k C L):Lv ts n (k+1) (C++L) (vP ts n [] L):=by
 obtain ⟨a,b,_,d⟩:=V2 hg h L [] (λ_ h=>h) (λv r=>(by cases r)) (by rw [bX]; exact h.nd)
 refine ⟨a,λw j=>?_,b,λv f lv=>?_,λv f lv=>?_⟩
 .rcases cQ.mp j with z | z
  .exact ⟨(h.shC w z).1,rY (h.shC w z).2⟩
  .exact ⟨(h.sh w z).1,by rw [(h.sh w z).2]; omega⟩
 .rw [bK,cQ]
  by_cases c:v.length < k
  .exact .inl (h.prev v f c)
  .exact .inr (h.cur v f (by omega))
 .obtain ⟨u,i,rfl⟩:∃ u i,v=u++[i]:=by
   have o:v≠[]:=λz=>by rw [z] at lv; simp at lv
   exact ⟨v.dropLast,v.getLast o,(A3 o).symm⟩
  rw [aW,di] at lv
  have l:=Sh.init f
  have hi:i < n:=f.1 i (by simp)
  obtain ⟨w,j,e⟩:=bu.mp (h.cur u l (by omega))
  obtain ⟨g,t⟩:=h.sh w j
  have m:=Ha i g.1 l.1 hi e
  have q:=ue (ts:=ts) g.1 hi
  have ab:Y5 (yf (zg ts) w (ye n i))=true:=by
   rcases xq hg g.1 hi g.2 with ⟨p,_⟩ | ⟨_,s,r3⟩
   .exact (p.abv q).1
   .exfalso
    have:=(r3.cong ((vy (g.1.app (az.one hi)) f.1).mp m)).uniq f.2
    rw [aW,di] at this
    omega
  rw [<- m]
  exact d w j i hi ab
def D3:Lv ts n 0 [] [[]]:=⟨λw a=>by
  rw [n1] at a
  subst a
  exact ⟨⟨λi h=>(by cases h),b4.nil⟩,rfl⟩,λw a=>(by cases a),by simp,λv _ h=>by omega,λv _ h=>by
  rw [n8.mp h]
  simp⟩
end
def Yo:List Nat->List Nat->Prop
 | [],[]=>False
 | [],_ :: _=>True
 | _ :: _,[]=>False
 | a :: x,b :: y=>a < b\/(a=b/\Yo x y)
theorem uA:∀ a:List Nat,¬ Yo a a
 | [],h=>h
 | a :: x,h=>h.elim (λz=>mm _ z) λz=>uA x z.2
theorem Yn:∀ {a b c:List Nat},Yo a b->Yo b c->Yo a c
 | [],[],_,h,_=>h.elim
 | [],_ :: _,[],_,h=>h.elim
 | [],_ :: _,_ :: _,_,_=>True.intro
 | _ :: _,[],_,h,_=>h.elim
 | _ :: _,_ :: _,[],_,h=>h.elim
 | a :: x,b :: y,c :: z,h,h'=>by
  rcases h with h | ⟨e,h⟩ <;> rcases h' with h' | ⟨d,h'⟩
  .exact .inl (by omega)
  .exact .inl (by omega)
  .exact .inl (by omega)
  .exact .inr ⟨by omega,Yn h h'⟩
theorem WD:∀ {a b:List Nat} (i j:Nat),Yo a b->a.length=b.length->Yo (a++[i]) (b++[j])
 | [],[],_,_,h,_=>h.elim
 | [],_ :: _,_,_,_,e=>by cases e
 | _ :: _,[],_,_,_,e=>by cases e
 | a :: x,b :: y,i,j,h,e=>h.elim (λz=>.inl z) λz=>.inr ⟨z.1,WD i j z.2 (Nat.succ.inj e)⟩
theorem JK:∀ (w:List Nat) {i j:Nat},i < j->Yo (w++[i]) (w++[j])
 | [],_,_,h=>.inl h
 | _ :: w,_,_,h=>.inr ⟨rfl,JK w h⟩
section
variable {ts:List T3} {n:Nat}
theorem Mx (hg:yh ts):∀ (v w x:List Nat),az n w->Lst ts n w.reverse v->Sh ts n x->Eqv (zg ts) n x w->v=x\/Yo v x
 | v,w,x,hw,k,f,e=>by
  have g:b4 ts n w.reverse x.length:=(f.2.cong e).rev hw
  obtain ⟨l,a1,a2,_,_⟩:=HM hg x.length hw.rev g
  have:=k.uniq a1
  subst this
  match v,x,k,a2,f,e,g with
  | [],[],_,_,_,_,_=>exact .inl rfl
  | [],_ :: _,_,z,_,_,_=>cases z
  | _ :: _,[],_,z,_,_,_=>cases z
  | i :: l,j :: d,k,lv,f,e,g =>
   have m:j < n:=f.1 j aV
   have o:Sh ts n d:=Sh.cut (a:=[j]) (b:=d) (c:=[]) (by simpa using f)
   have e1:Eqv (zg ts) n (w.reverse++[j]) d.reverse:=by
    have r:=Eqv.rev (zT ts) f.1 hw e
    rw [mn] at r
    exact (r.symm.app (Em [j])).trans (XF (zT ts) m)
   have p:b4 ts n (w.reverse++[j]) d.length:=by
    have:=o.rev.2
    rw [n4] at this
    exact this.cong e1.symm
   have bl:XR (yf (zg ts) w.reverse (ye n j))=true:=by
    rcases xq hg hw.rev m g with ⟨_,z⟩ | ⟨z,_,_⟩
    .have:=z.uniq p
     rw [aB] at this
     omega
    .exact (z.blw (ue hw.rev m)).2
   cases k with
   | cons h t =>
    obtain ⟨hi,_,q⟩:=uP h
    have s:¬ j < i:=λz=>by rw [q j z] at bl; cases bl
    by_cases c:i=j
    .subst c
     have t':Lst ts n (i :: w).reverse l:=by rw [mn]; exact t
     have e2:Eqv (zg ts) n d (i :: w):=by
      have a:Eqv (zg ts) n ([i]++([i]++d)) ([i]++w):=(Em [i]).app e
      have b:Eqv (zg ts) n ([i,i]++d) ([]++d):=(IR (zT ts) hi).app (Em _)
      exact b.symm.trans a
     rcases Mx hg l (i :: w) d (hw.cons hi) t' o e2 with z | z
     .exact .inl (by rw [z])
     .exact .inr (.inr ⟨rfl,z⟩)
    .exact .inr (.inl (by omega))
def Own (ts:List T3) (n:Nat) (w:List Nat):Prop:=Sh ts n w/\Lst ts n w.reverse w
def VP (hg:yh ts) (a:az n w):∃ v,Own ts n v/\Lst ts n w.reverse v/\Eqv (zg ts) n v w:=by
 obtain ⟨v,l,h1,h2,b,e,d,_⟩:=WG hg a
 have c:Sh ts n v:=⟨h2,by rw [d]; exact e⟩
 exact ⟨v,⟨c,h1.cong (Eqv.rev (zT ts) a h2 b.symm)⟩,h1,b⟩
def Own.le (hg:yh ts) (h:Own ts n v) (a:Sh ts n x) (e:Eqv (zg ts) n x v):v=x\/Yo v x:=Mx hg v v x h.1.1 h.2 a e
def Own.init (hg:yh ts) (h:Own ts n (u++[i])):Own ts n u:=by
 have b:=Sh.init h.1
 obtain ⟨v,a,_,e⟩:=VP hg b.1
 have hi:i < n:=h.1.1 i (by simp)
 rcases a.le hg b e.symm with z | z
 .rw [<- z]; exact a
 .exfalso
  have len:=a.1.same_len b e
  have e2:Eqv (zg ts) n (v++[i]) (u++[i]):=e.app (Em _)
  have d:Sh ts n (v++[i]):=h.1.of (a.1.1.app (az.one hi)) e2 (by simp [len])
  have c:=WD i i z len
  rcases h.le hg d e2 with q | q
  .rw [q] at c; exact uA _ c
  .exact uA _ (Yn c q)
theorem Q7:∀ (l:List Nat) (f:List (List Nat)),l.Pairwise (· < ·)->f.Pairwise Yo->(∀ y∈f,∀ i∈l,Yo y (w++[i])) →
  (upM ts n w f l).Pairwise Yo/\(∀ y∈f,y∈upM ts n w f l)/\(∀ y∈upM ts n w f l,y∈f\/∃ i∈l,y=w++[i]) ∧
  ∀ i∈l,Y5 (yf (zg ts) w (ye n i))=true->∃ y∈upM ts n w f l,zy ts n y=zy ts n (w++[i])/\(y=w++[i]\/Yo y (w++[i]))
 | [],f,_,h,_=>⟨h,λ_ z=>z,λ_ z=>.inl z,λ_ z=>by cases z⟩
 | i :: l,f,v,h,s=>by
  obtain ⟨h1,h2⟩:=ic.mp v
  unfold upM
  by_cases c:Y5 (yf (zg ts) w (ye n i))=true
  .rw [if_pos c]
   by_cases d:zy ts n (w++[i])∈f.map (zy ts n)
   .rw [if_pos d]
    obtain ⟨q,p2,p,o⟩:=Q7 (w:=w) l f h2 h λy k j g=>s y k j (aZ _ g)
    refine ⟨q,p2,λy k=>(p y k).imp id λ⟨j,g,e⟩=>⟨j,aZ _ g,e⟩,λj g m=>?_⟩
    rcases aS.mp g with z | z
    .subst z
     obtain ⟨y,k,e⟩:=bu.mp d
     exact ⟨y,p2 y k,e,.inr (s y k j aV)⟩
    .exact o j z m
   .rw [if_neg d]
    have u:(f++[w++[i]]).Pairwise Yo:=by
     rw [List.pairwise_append]
     exact ⟨h,by simp,λa m b r=>by
      rw [n1] at r
      subst r
      exact s a m i aV⟩
    obtain ⟨q,p2,p,o⟩:=Q7 (w:=w) l (f++[w++[i]]) h2 u λy k j g=>by
     rcases cQ.mp k with z | z
     .exact s y z j (aZ _ g)
     .rw [n1] at z
      subst z
      exact JK w (h1 j g)
    have t:w++[i]∈f++[w++[i]]:=by simp
    refine ⟨q,λy k=>p2 y (lY _ k),λy k=>?_,λj g m=>?_⟩
    .rcases p y k with z | ⟨j,g,e⟩
     .rcases cQ.mp z with z | z
      .exact .inl z
      .exact .inr ⟨i,aV,by simpa using z⟩
     .exact .inr ⟨j,aZ _ g,e⟩
    .rcases aS.mp g with z | z
     .subst z
      exact ⟨_,p2 _ t,rfl,.inl rfl⟩
     .exact o j z m
  .rw [if_neg c]
   obtain ⟨q,p2,p,o⟩:=Q7 (w:=w) l f h2 h λy k j g=>s y k j (aZ _ g)
   refine ⟨q,p2,λy k=>(p y k).imp id λ⟨j,g,e⟩=>⟨j,aZ _ g,e⟩,λj g m=>?_⟩
   rcases aS.mp g with z | z
   .subst z; exact absurd m c
   .exact o j z m
theorem JH:∀ (L a:List (List Nat)),(∀ w∈L,w.length=k)->L.Pairwise Yo->a.Pairwise Yo->(∀ y∈a,∀ w∈L,∀ i,Yo y (w++[i])) →
  (vP ts n a L).Pairwise Yo/\(∀ y∈a,y∈vP ts n a L) ∧
  ∀ w∈L,∀ i,i < n->Y5 (yf (zg ts) w (ye n i))=true->∃ y∈vP ts n a L,zy ts n y=zy ts n (w++[i])/\(y=w++[i]\/Yo y (w++[i]))
 | [],a,_,_,h,_=>⟨h,λ_ z=>z,λ_ z=>by cases z⟩
 | w :: L,a,f,t,h,g=>by
  obtain ⟨h1,h2⟩:=ic.mp t
  have m:∀ v∈L,v.length=k:=λv c=>f v (aZ _ c)
  obtain ⟨s,p2,r,q⟩:=Q7 (ts:=ts) (n:=n) (w:=w) (aK n) a List.pairwise_lt_range h λy b i _=>g y b w aV i
  obtain ⟨p,d,o⟩:=JH (k:=k) L (upM ts n w a (aK n)) m h2 s λy b v c i=>by
   rcases r y b with z | ⟨j,_,e⟩
   .exact g y z v (aZ _ c) i
   .subst e
    exact WD j i (h1 v c) (by rw [f w aV,m v c])
  unfold vP
  refine ⟨p,λy b=>d y (p2 y b),λv c i hi l=>?_⟩
  rcases aS.mp c with z | z
  .subst z
   obtain ⟨y,b,e⟩:=q i (dA.mpr hi) l
   exact ⟨y,d y b,e⟩
  .exact o v z i hi l
structure LvO (ts:List T3) (n k:Nat) (C L:List (List Nat)):Prop where
 lv:Lv ts n k C L
 ord:L.Pairwise Yo
 all:∀ v,Own ts n v->v.length=k->v∈L
def HK:LvO ts n 0 [] [[]]:=⟨D3,by simp,λv _ h=>by rw [n8.mp h]; simp⟩
def DZ (hg:yh ts) (h:LvO ts n k C L):LvO ts n (k+1) (C++L) (vP ts n [] L):=by
 have nx:=Pl hg h.lv
 obtain ⟨j,_,g⟩:=JH (ts:=ts) (n:=n) (k:=k) L [] (λw l=>(h.lv.sh w l).2) h.ord (by simp) (λ_ z=>by cases z)
 refine ⟨nx,j,λv a lv=>?_⟩
 obtain ⟨u,i,rfl⟩:∃ u i,v=u++[i]:=by
  have f:v≠[]:=λz=>by rw [z] at lv; simp at lv
  exact ⟨v.dropLast,v.getLast f,(A3 f).symm⟩
 rw [aW,di] at lv
 have hi:i < n:=a.1.1 i (by simp)
 have d:=a.init hg
 have ab:=((Sh.up hg a.1).abv (ue d.1.1 hi)).1
 obtain ⟨y,b,e,o⟩:=g u (h.all u d (by omega)) i hi ab
 have c:=(nx.sh y b).1
 rcases o with z | z
 .rw [<- z]; exact b
 .rcases a.le hg c ((vy c.1 a.1.1).mp e) with q | q
  .rw [q]; exact b
  .exact absurd (Yn z q) (uA _)
def LvO.own (hg:yh ts) (h:LvO ts n k C L) (i:w∈L):Own ts n w:=by
 obtain ⟨d,o⟩:=h.lv.sh w i
 obtain ⟨v,c,_,e⟩:=VP hg d.1
 have p:=h.all v c (by rw [c.1.same_len d e,o])
 have nd:=h.lv.nd
 rw [bK,pg] at nd
 have nd:=nd.2.1
 rw [HC] at nd
 have:v=w:=by
  apply Et
  intro z
  have m:=(vy c.1.1 d.1).mpr e
  rcases g4a.mp nd with nd
  obtain ⟨a,l,g⟩:=g3y.mp p
  obtain ⟨b,j,f⟩:=g3y.mp i
  rcases LF a b with q | q | q
  .exact nd a b l j q (by rw [g,f]; exact m)
  .subst q; exact z (g.symm.trans f)
  .exact nd b a j l q (by rw [g,f]; exact m.symm)
 rw [<- this]
 exact c
end
def xZ (ts:List T3) (n:Nat):Nat->List (List Nat)
 | 0=>[[]]
 | k+1=>vP ts n [] (xZ ts n k)
def xX (ts:List T3) (n:Nat):Nat->List (List Nat)
 | 0=>[]
 | k+1=>xX ts n k++xZ ts n k
section
variable {ts us:List T3} {n n':Nat} {P:Nat->Prop} {φ:Nat->Nat}
theorem gc (hg:yh ts):∀ k,LvO ts n k (xX ts n k) (xZ ts n k)
 | 0=>HK
 | k+1=>DZ hg (gc hg k)
def Mw (R:Rel ts us n n' P φ) (s:∀ i,i < n->P i) (k:Nat):(xZ ts n k).length<=(xZ us n' k).length:=by
 have h:=(gc (n:=n) R.g k).lv
 have h':=(gc (n:=n') R.g' k).lv
 have nd:=h.nd
 rw [bK,pg] at nd
 have nd:=nd.2.1
 have c:∀ w∈xZ ts n k,∀ i∈w,P i:=λw d i hi=>s i ((h.sh w d).1.1 i hi)
 have j:(((xZ ts n k).map λw=>w.map φ).map (zy us n')).Nodup:=by
  rw [bz,HC]
  rw [HC] at nd
  refine nd.imp_of_mem λ{a b} m l o z=>o ?_
  have g:=(h.sh a m).1
  have f:=(h.sh b l).1
  have e:=(vy (qj R a (c a m) g).1 (qj R b (c b l) f).1).mp z
  exact (vy g.1 f.1).mpr (BE R b a (c b l) (c a m) f g e)
 have:=HP j λr q=>by
  obtain ⟨v,p,rfl⟩:=bu.mp q
  obtain ⟨w,d,rfl⟩:=bu.mp p
  exact h'.cur _ (qj R w (c w d) (h.sh w d).1) (by rw [aD]; exact (h.sh w d).2)
 simpa using this
end
def DO (ts:List T3) (hi:i < n) (d:j < n):uM (zg ts i) i (ye n j)=Y3 (ye n j) (cu (yT (zg ts i j)) (ye n i)):=by
 have b:(ye n j).length=(cu (yT (zg ts i j)) (ye n i)).length:=by rw [zJ,zi,zi]
 apply vj (by rw [ya,xA b])
 intro k a
 rw [ya,zi] at a
 rw [wy _ (by rw [zi]; exact hi),jQ _ n j d,w6 b,xK,xg hi,xg a,xg a]
 by_cases c:k=i
 .subst c
  simp only [if_true,kf]
 .simp only [c,if_false,qB,xR]
def QA (ts:List T3) (a:az n w) (hi:i < n) (b:j < n):yf (zg ts) (w++[i]) (ye n j)=Y3 (yf (zg ts) w (ye n j)) (cu (yT (zg ts i j)) (yf (zg ts) w (ye n i))):=by
 rw [xj]
 show yf (zg ts) w (uM (zg ts i) i (ye n j))=_
 rw [DO ts hi b,qT _ _ (by rw [zJ,zi,zi]) (by rw [zi]; exact a),uq _ _ _ (by rw [zi]; exact a)]
def P3:List Gd->List Gd->Bool
 | [],[]=>true
 | a :: x,b :: y=>decide (a.1=b.1)&&decide (a.2=b.2)&&P3 x y
 | _,_=>false
def P4:List (List Gd)->List (List Gd)->Bool
 | [],[]=>true
 | a :: x,b :: y=>P3 a b&&P4 x y
 | _,_=>false
theorem J4:∀ {x y:List Gd},P3 x y=true↔x=y
 | [],[]=>by simp [P3]
 | [],_ :: _=>by simp [P3]
 | _ :: _,[]=>by simp [P3]
 | (a,b) :: x,(c,d) :: y=>by simp [P3,J4 (x:=x) (y:=y)]
theorem WV:∀ {x y:List (List Gd)},P4 x y=true↔x=y
 | [],[]=>by simp [P4]
 | [],_ :: _=>by simp [P4]
 | _ :: _,[]=>by simp [P4]
 | a :: x,c :: y=>by simp [P4,J4,WV (x:=x) (y:=y)]
def zdd (ts:List T3) (n:Nat) (R:List (List Gd)) (i:Nat):List (List Gd):=(aK n).map λk=>Y3 (R.getD k []) (cu (yT (zg ts i k)) (R.getD i []))
def TV:List (List (List Gd))->List (List Gd)->List (List (List Gd))
 | [],r=>[r]
 | a :: l,r=>if P4 a r=true then a :: l else a :: TV l r
def upF (ts:List T3) (n:Nat) (R:List (List Gd)):List (List (List Gd))->List Nat->List (List (List Gd))
 | acc,[]=>acc
 | acc,i :: l=>upF ts n R (if Y5 (R.getD i [])=true then TV acc (zdd ts n R i) else acc) l
def HN (ts:List T3) (n:Nat):List (List (List Gd))->List (List (List Gd))->List (List (List Gd))
 | acc,[]=>acc
 | acc,R :: L=>HN ts n (upF ts n R acc (aK n)) L
def CI (ts:List T3) (n:Nat):Nat->List (List (List Gd))->List Nat
 | 0,_=>[]
 | k+1,L=>if L.isEmpty=true then [] else L.length :: CI ts n k (HN ts n [] L)
theorem Bh:∀ (l:List (List (List Gd))) (r:List (List Gd)),TV l r=if r∈l then l else l++[r]
 | [],r=>by simp [TV]
 | a :: l,r=>by
  unfold TV
  by_cases c:a=r
  .rw [if_pos (WV.mpr c),if_pos (by rw [c]; exact aV)]
  .rw [if_neg (λz=>c (WV.mp z)),Bh l r]
   by_cases d:r∈l
   .rw [if_pos d,if_pos (aZ _ d)]
   .rw [if_neg d,if_neg (λz=>(aS.mp z).elim (λq=>c q.symm) d)]
    rfl
section
variable {ts:List T3} {n:Nat}
def Qf (hi:i < n):(zy ts n w).getD i []=yf (zg ts) w (ye n i):=by
 unfold zy
 rw [bR,cK,sd hi]
 rfl
def Da (b:az n w) (hi:i < n):zy ts n (w++[i])=zdd ts n (zy ts n w) i:=by
 unfold zdd
 rw [Qf hi]
 conv=>lhs; unfold zy
 refine fH λk a=>?_
 have a:=dA.mp a
 rw [Qf a]
 exact QA ts b hi a
theorem Gy (b:az n w):∀ (l:List Nat) (a:List (List Nat)),(∀ i∈l,i < n)->(upM ts n w a l).map (zy ts n)=upF ts n (zy ts n w) (a.map (zy ts n)) l
 | [],a,_=>rfl
 | i :: l,a,e=>by
  have hi:=e i aV
  unfold upM upF
  rw [Gy b l _ λj f=>e j (aZ _ f),Qf hi]
  congr 1
  by_cases c:Y5 (yf (zg ts) w (ye n i))=true
  .rw [if_pos c,if_pos c,Bh,<- Da b hi]
   by_cases d:zy ts n (w++[i])∈a.map (zy ts n)
   .rw [if_pos d,if_pos d]
   .rw [if_neg d,if_neg d,bK,List.map_singleton]
  .rw [if_neg c,if_neg c]
theorem V3:∀ (L a:List (List Nat)),(∀ w∈L,az n w)->(vP ts n a L).map (zy ts n)=HN ts n (a.map (zy ts n)) (L.map (zy ts n))
 | [],a,_=>rfl
 | w :: L,a,h=>by
  unfold vP
  rw [aC,HN,V3 L _ λv b=>h v (aZ _ b),Gy (h w aV) _ _ λi hi=>dA.mp hi]
theorem Kh (hg:yh ts):∀ (j k:Nat),(∀ i,i < (CI ts n j ((xZ ts n k).map (zy ts n))).length->(xZ ts n (k+i)).length=(CI ts n j ((xZ ts n k).map (zy ts n))).getD i 0) ∧
  ((CI ts n j ((xZ ts n k).map (zy ts n))).length < j->xZ ts n (k+(CI ts n j ((xZ ts n k).map (zy ts n))).length)=[])
 | 0,k=>⟨λi h=>absurd h (Nat.not_lt_zero _),λh=>absurd h (Nat.not_lt_zero _)⟩
 | j+1,k=>by
  have a:∀ w∈xZ ts n k,az n w:=λw b=>((gc hg k).lv.sh w b).1.1
  have e:HN ts n [] ((xZ ts n k).map (zy ts n))=(xZ ts n (k+1)).map (zy ts n):=(V3 (xZ ts n k) [] a).symm
  unfold CI
  by_cases c:xZ ts n k=[]
  .rw [c]
   exact ⟨λi h=>absurd h (Nat.not_lt_zero _),λ_=>c⟩
  .have d:((xZ ts n k).map (zy ts n)).isEmpty=true↔False:=by simp [c]
   rw [if_neg (λz=>d.mp z),e]
   obtain ⟨h1,h2⟩:=Kh hg j (k+1)
   refine ⟨λi hi=>?_,λh=>?_⟩
   .cases i with
    | zero=>simp
    | succ i =>
     rw [aB] at hi
     have:=h1 i (by omega)
     rw [show k+(i+1)=k+1+i by omega,this]
     rfl
   .rw [aB] at h ⊢
    have:=h2 (by omega)
    rw [<- this]
    congr 1
    omega
end
def GF (xs:List Int) (d:Int):List Int:=(aK (xs.length+d.toNat - 1)).map λp=>((xs.take (p+1)).drop (p+1 - d.toNat)).foldl (λa x=>a+x) 0
def Ki (l:List Int):List Int:=l.foldl GF [1]
def Xf (bs:List ba):List Int:=FL.sortI (bs.flatMap λb=>pz b.2.1)
def My (b:ba):Nat:=b.1 * 100+b.2.1.1 * 10+b.2.1.2
def za4:List ba->Bool
 | []=>true
 | b :: bs=>(bs.all λc=>Nat.ble (My b) (My c))&&za4 bs
def iL (n:Nat) (bs:List ba):Bool:=decide ((CI (bZ 0 bs) n 20 [zy (bZ 0 bs) n []]).map Int.ofNat=Ki (Xf bs))&&decide ((Ki (Xf bs)).length<=17)&&decide ((Ki (Xf bs)).foldl (λa x=>a+x) 0=dD bs)
def iD (n:Nat):List (List ba):=(sx 6 n).filter λbs=>za4 bs&&decide (dD bs<=120)
def zcs:((iD 1).all (iL 1))=true:=by decide +kernel
def zcr:((iD 2).all (iL 2))=true:=by decide +kernel
def zcq:((iD 3).all (iL 3))=true:=by decide +kernel
def S5:(((iD 4).take 6).all (iL 4))=true:=by decide +kernel
def S4:((((iD 4).drop 6).take 6).all (iL 4))=true:=by decide +kernel
def S3:(((iD 4).drop 12).all (iL 4))=true:=by decide +kernel
def S2:(((iD 5).take 3).all (iL 5))=true:=by decide +kernel
def S1:((((iD 5).drop 3).take 3).all (iL 5))=true:=by decide +kernel
def S0:(((iD 5).drop 6).all (iL 5))=true:=by decide +kernel
def zcp:((iD 6).all (iL 6))=true:=by decide +kernel
end GH
namespace GH
open FL
def We (h:a.Perm b):sortI a=sortI b:=Qm ((yv a).trans (h.trans (yv b).symm)) (uc a) (uc b)
def za5 (P:List Int) (s:PySem.Str):HR:=((P.headD 0,P.tail),s)
def Rx {a b:List HR} (c:a.Pairwise λx y=>x.1.1 < y.1.1) (d:b.Pairwise λx y=>x.1.1 < y.1.1) (h:∀ r,r∈a↔r∈b):a=b:=by
 have g:a.Nodup:=c.imp λz e=>by rw [e] at z; omega
 have f:b.Nodup:=d.imp λz e=>by rw [e] at z; omega
 refine Cw ((g3x g f).mpr h) ?_ (c.imp λz=>by omega) (d.imp λz=>by omega)
 unfold List.Nodup
 rw [iP]
 exact c.imp λz e=>by omega
def PH (n:Nat):(idx n).Pairwise (· < ·):=by
 unfold idx
 rw [iP]
 exact List.pairwise_lt_range.imp λh=>by omega
theorem Qk:∀ (bs:List ba) (b:Int),(wg b bs).Pairwise λ(p q:Int×ba)=>p.1+(p.2.1:Int)<=q.1
 | [],_=>.nil
 | B :: bs,b=>ic.mpr ⟨λq a=>(xH a).1,Qk bs _⟩
section
variable {bs:List ba} {σ:Int->Int} {p:Int×ba} (kT:Kd->PySem.Str)
def UV (σ:Int->Int) (p:Int×ba):HR:=za5 (sortI (wM σ p)) (kT p.2.2.1)
def JL (n:Nat) (ts:List T3):List HR:=(idx n).filterMap λx=>if (sortI (jf (zu ts) n x)).headD 0=x then some (za5 (sortI (jf (zu ts) n x)) (kT (WH (vm (zu ts) (Y7 ts (sortI (jf (zu ts) n x))) (sortI (jf (zu ts) n x)))))) else none
def Hs.pos (h:Hs bs σ) (a:p∈wg 0 bs):0 < p.2.1:=by
 have:=h.gb p.2 (wR a)
 cases e:p.2.1 with
 | zero=>rw [e] at this; cases this
 | succ n=>omega
def Hs.head (h:Hs bs σ) (a:p∈wg 0 bs):∃ x r,sortI (wM σ p)=x :: r/\x∈wM σ p:=by
 have h1:(sortI (wM σ p)).length=p.2.1:=by
  rw [(yv _).length_eq]
  unfold wM idx
  simp
 have h2:=h.pos a
 cases e:sortI (wM σ p) with
 | nil=>rw [e] at h1; simp at h1; omega
 | cons x r=>exact ⟨x,r,rfl,(yv _).subset (by rw [e]; exact aV)⟩
def Hs.due_asc (h:Hs bs σ):(((wg 0 bs).map (UV kT σ)).map λr:HR=>r.1.1).Nodup:=by
 unfold List.Nodup
 rw [bz,iP]
 refine (Qk bs 0).imp_of_mem λ{p q} b a z e=>?_
 obtain ⟨x,r,e1,d⟩:=h.head b
 obtain ⟨y,l,e2,c⟩:=h.head a
 have e:(sortI (wM σ p)).headD 0=(sortI (wM σ q)).headD 0:=e
 rw [e1,e2] at e
 have e:x=y:=e
 subst e
 obtain ⟨i,hi,k⟩:=xx.mp d
 obtain ⟨j,f,g⟩:=xx.mp c
 unfold In at hi f
 have n:=xH b
 have m:=xH a
 have:=h.rl.inj i j (by omega) (by omega) (by omega) (by omega) (by rw [k,g])
 omega
def Hs.row (h:Hs bs σ) (a:p∈wg 0 bs) (b:x∈wM σ p):sortI (jf (zu (bA bs σ)) (yP bs) x)=sortI (wM σ p) ∧
  WH (vm (zu (bA bs σ)) (Y7 (bA bs σ) (sortI (wM σ p))) (sortI (wM σ p)))=p.2.2.1:=by
 refine ⟨We (Ho h a b),?_⟩
 rw [h.thr a (yv _),h.kind a (yv _)]
def HY (h:Hs bs σ):JL kT (yP bs) (bA bs σ)=kJ ((wg 0 bs).map (UV kT σ)):=by
 have m:=h.due_asc kT
 refine Rx ?_ ?_ λr=>?_
 .unfold JL
  refine (PH (yP bs)).filterMap _ λx y s r k t j=>?_
  split at k
  .rename_i e
   split at j
   .rename_i q
    cases k
    cases j
    show (sortI _).headD 0 < (sortI _).headD 0
    rw [e,q]
    exact s
   .cases j
  .cases k
 .have h1:=qi ((wg 0 bs).map (UV kT σ))
  have h2:((kJ ((wg 0 bs).map (UV kT σ))).map λr:HR=>r.1.1).Nodup:=((vE _).map _).nodup_iff.mpr m
  unfold List.Nodup at h2
  rw [iP] at h2
  refine (h1.and h2).imp λ{a b} z=>?_
  have:=z.1
  have:=z.2
  omega
 .rw [(vE _).mem_iff,bu]
  unfold JL
  rw [nD]
  constructor
  .rintro ⟨x,c,e⟩
   rw [yN] at c
   obtain ⟨i,hi,v,rfl⟩:=h.rl.sur x c.1 c.2
   obtain ⟨p,d,l⟩:=Hh (bs:=bs) (b:=0) (x:=i) (by omega) (by omega)
   have n:σ i∈wM σ p:=xx.mpr ⟨i,l,rfl⟩
   obtain ⟨g,f⟩:=h.row d n
   rw [g,f] at e
   split at e
   .cases e
    exact ⟨p,d,rfl⟩
   .cases e
  .rintro ⟨p,d,rfl⟩
   obtain ⟨x,r,e,c⟩:=h.head d
   obtain ⟨g,f⟩:=h.row d c
   have u:=xH d
   obtain ⟨i,hi,o⟩:=xx.mp c
   unfold In at hi
   refine ⟨x,?_,?_⟩
   .rw [yN,<- o]
    exact h.rl.rg i (by omega) (by omega)
   .rw [g,f,if_pos (by rw [e]; rfl)]
    rfl
end
def SZ (h1:1<=n) (e:n<=6) (c:bs∈iD n):iL n bs=true:=by
 have d:n=1\/n=2\/n=3\/n=4\/n=5\/n=6:=by omega
 have cut:∀ (L:List (List ba)) (a b:Nat),bs∈L->bs∈L.take a\/bs∈(L.drop a).take b\/bs∈L.drop (a+b):=λL a b h=>by
  rw [<- List.take_append_drop a L] at h
  rcases cQ.mp h with z | z
  .exact .inl z
  .rw [<- List.take_append_drop b (L.drop a)] at z
   rcases cQ.mp z with z | z
   .exact .inr (.inl z)
   .rw [List.drop_drop] at z
    exact .inr (.inr z)
 rcases d with rfl | rfl | rfl | rfl | rfl | rfl
 .exact bS.mp zcs bs c
 .exact bS.mp zcr bs c
 .exact bS.mp zcq bs c
 .rcases cut _ 6 6 c with z | z | z
  .exact bS.mp S5 bs z
  .exact bS.mp S4 bs z
  .exact bS.mp S3 bs z
 .rcases cut _ 3 3 c with z | z | z
  .exact bS.mp S2 bs z
  .exact bS.mp S1 bs z
  .exact bS.mp S0 bs z
 .exact bS.mp zcp bs c
def Xv {a b:List Int} (h:a.Perm b):∀ m:Int,a.foldl (λx d=>x * d) m=b.foldl (λx d=>x * d) m:=by
 induction h with
 | nil=>exact λ_=>rfl
 | cons x _ c=>exact λm=>c (m * x)
 | swap x y l=>exact λm=>by rw [nB,nB,nB,nB,IE,Li y x,<- IE]
 | trans _ _ h1 h2=>exact λm=>(h1 m).trans (h2 m)
def Jc (h:a.Perm b):dD a=dD b:=Xv (h.flatMap_right _) 1
def BU (h:a.Perm b):Xf a=Xf b:=We (h.flatMap_right _)
theorem GN:∀ {bs:List ba},bs.Pairwise (λa b=>My a<=My b)->za4 bs=true
 | [],_=>rfl
 | b :: bs,h=>by
  obtain ⟨h1,h2⟩:=ic.mp h
  unfold za4
  rw [GN h2,Bool.and_true,bS]
  exact λc d=>g3v (h1 c d)
def Pk (h1:1<=n) (e:n<=6) (hg:yh (bZ 0 bs)) (b:bs∈iD n):∃ c:List Nat,c.map Int.ofNat=Ki (Xf bs)/\c.length<=17/\(Ki (Xf bs)).foldl (λa x=>a+x) 0=dD bs ∧
  (∀ i,i < c.length->(xZ (bZ 0 bs) n i).length=c.getD i 0)/\xZ (bZ 0 bs) n c.length=[]:=by
 have ok:=SZ h1 e b
 unfold iL at ok
 rw [dR,dR] at ok
 obtain ⟨⟨k1,k2⟩,k3⟩:=ok
 have k1:=of_decide_eq_true k1
 have k2:=of_decide_eq_true k2
 have d:(CI (bZ 0 bs) n 20 [zy (bZ 0 bs) n []]).length<=17:=by
  rw [<- k1,aD] at k2
  exact k2
 obtain ⟨f1,f2⟩:=Kh (n:=n) hg 20 0
 refine ⟨CI (bZ 0 bs) n 20 [zy (bZ 0 bs) n []],k1,d,of_decide_eq_true k3,λi hi=>?_,?_⟩
 .have:=f1 i hi
  rw [b_] at this
  exact this
 .have:=f2 (by show (CI (bZ 0 bs) n 20 [zy (bZ 0 bs) n []]).length < 20; omega)
  rw [b_] at this
  exact this
def D0 (hg:yh us) (d:yh ts) (c:u.length=n) (b:u.Perm (aK n)) (I:IsoT ts us u) (k:Nat):(xZ us n k).length=(xZ ts n k).length:=by
 have a:∀ x∈u,x < n:=λx e=>dA.mp (b.mem_iff.mp e)
 exact Nat.le_antisymm (Mw (Dg hg d c a I) (λi hi=>b.mem_iff.mpr (dA.mpr hi)) k) (Mw (Nr hg d c a I) (λ_ h=>h) k)
section
variable {us:List T3} {n:Nat}
def KY (hg:yh us) (h1:1<=n) (t:n<=6) (U:List (Bk×List Nat)) (j:∀ p∈U,1<=p.2.length/\p.1∈zbf p.2.length/\yh p.1.2/\IsoT p.1.2 us p.2/\Ku p.2.length p.1.2)
  (E:U.Pairwise (λp q=>∀ (x:Nat),x∈p.2->∀ (y:Nat),y∈q.2->zu us (x:Int) (y:Int)=2)) (d:(U.flatMap (·.2)).Perm (aK n)) (C:dD (gq U)<=120):∃ c:List Nat,c.map Int.ofNat=Ki (Xf (gq U))/\c.length<=17/\(Ki (Xf (gq U))).foldl (λa x=>a+x) 0=dD (gq U) ∧
  (∀ i,i < c.length->(xZ us n i).length=c.getD i 0)/\xZ us n c.length=[]:=by
 let le:Bk×List Nat->Bk×List Nat->Bool:=λp q=>Nat.ble (My (p.2.length,p.1)) (My (q.2.length,q.1))
 have pm:(U.mergeSort le).Perm U:=List.mergeSort_perm U le
 have f:(U.mergeSort le).Pairwise λa b=>le a b=true:=List.pairwise_mergeSort (λa b c x y=>by
  have x:=Nat.le_of_ble_eq_true x
  have y:=Nat.le_of_ble_eq_true y
  exact g3v (fc x y)) (λa b=>by
  rcases Nat.le_total (My (a.2.length,a.1)) (My (b.2.length,b.1)) with z | z
  .have:le a b=true:=g3v z
   rw [this]; rfl
  .have:le b a=true:=g3v z
   rw [this,Bool.or_true]) U
 generalize U.mergeSort le=W at pm f
 have g:∀ p∈W,p∈U:=λp h=>pm.mem_iff.mp h
 have k:(gq W).Perm (gq U):=pm.map _
 have H:W.Pairwise (λp q=>∀ (x:Nat),x∈p.2->∀ (y:Nat),y∈q.2->zu us (x:Int) (y:Int)=2):=(pm.pairwise_iff (λ{a b} h x A y w=>by rw [wc]; exact h y w x A)).mpr E
 have l:(W.flatMap (·.2)).Perm (aK n):=(pm.flatMap_right _).trans d
 have s:(W.flatMap (·.2)).length=n:=by rw [l.length_eq,iQ]
 have e:yh (bZ 0 (gq W)):=W6 _ _ λB G=>by
  obtain ⟨p,d,rfl⟩:=bu.mp G
  exact (j p (g p d)).2.2.1
 have m:IsoT (bZ 0 (gq W)) us (W.flatMap (·.2)):=⟨l.nodup_iff.mpr List.nodup_range,λa b F o v=>by
  have:=MD W 0 (λp d=>⟨(j p (g p d)).2.2.2.1,(j p (g p d)).2.2.2.2⟩) H a b F o v
  rw [Int.zero_add,Int.zero_add] at this
  exact this⟩
 have mem:gq W∈iD n:=gp.mpr ⟨B8 6 _ n t (by rw [Ja,s]) λb o=>by
  obtain ⟨p,d,rfl⟩:=bu.mp o
  exact ⟨(j p (g p d)).1,(j p (g p d)).2.1⟩,by
  rw [GN ((iP.mpr f).imp λ{a b} h=>Nat.le_of_ble_eq_true h),Jc k,decide_eq_true C]
  rfl⟩
 obtain ⟨c,u,L,r,J,I⟩:=Pk h1 t e mem
 have same:=D0 hg e s l m
 rw [BU k] at u r
 rw [Jc k] at r
 refine ⟨c,u,L,r,λi hi=>by rw [same i,J i hi],?_⟩
 have:=same c.length
 rw [I,aI] at this
 exact n8.mp this
end
def JX:((aK 7).all λk=>(qc k).all λB=>B.2.all λt=>decide (t.2.2=0\/(3<=t.2.2/\t.2.2<=6)))=true:=by decide +kernel
theorem kU:∀ (bs:List ba) (b:Int),(wg b bs).map (·.2)=bs
 | [],_=>rfl
 | B :: bs,b=>by
  unfold wg
  rw [aC,kU bs]
theorem Wv:∀ (bs:List ba) (b:Int),(wg b bs).flatMap (λp=>(idx p.2.1).map λi=>p.1+i)=(idx (yP bs)).map λi=>b+i
 | [],_=>rfl
 | B :: bs,b=>by
  unfold wg
  rw [nC,Wv bs]
  show _=(idx (B.1+yP bs)).map _
  unfold idx
  rw [List.range_add,bK,bK,bz,bz,bz,bz]
  congr 1
  refine fH λi _=>?_
  show b+(B.1:Int)+(i:Int)=b+((B.1+i:Nat):Int)
  omega
def Rl.perm (R:Rl n σ):((idx n).map σ).Perm (idx n):=by
 have nd:((idx n).map σ).Nodup:=by
  rw [sr,iP]
  refine (sr.mp (xP n)).imp_of_mem λ{a b} d c h z=>h ?_
  have d:=yN.mp d
  have c:=yN.mp c
  exact R.inj a b d.1 d.2 c.1 c.2 z
 refine (g3x nd (xP n)).mpr λy=>⟨λh=>?_,λh=>?_⟩
 .obtain ⟨i,hi,rfl⟩:=bu.mp h
  have hi:=yN.mp hi
  exact yN.mpr (R.rg i hi.1 hi.2)
 .have h:=yN.mp h
  obtain ⟨i,i1,i2,e⟩:=R.sur y h.1 h.2
  exact bu.mpr ⟨i,yN.mpr ⟨i1,i2⟩,e⟩
def Tf (h:Hs bs σ) (h1:1<=yP bs) (R:yP bs<=6) (Q:∀ B∈bs,B.2.1≠(0,0)) (O:dD bs<=120):∃ c:List Nat,c.map Int.ofNat=Ki (Xf bs)/\c.length<=17/\(Ki (Xf bs)).foldl (λa x=>a+x) 0=dD bs ∧
  (∀ i,i < c.length->(xZ (bA bs σ) (yP bs) i).length=c.getD i 0)/\xZ (bA bs σ) (yP bs) c.length=[]:=by
 have F:∀ B∈bs,yh B.2.2:=λB g t ht=>by
  have v:B.1 < 7:=by
   apply Et
   intro z
   have:=h.gb B g
   unfold qc at this
   split at this <;> first | omega | cases this
  exact of_decide_eq_true (bS.mp (bS.mp (bS.mp JX B.1 (dA.mpr v)) B.2 (h.gb B g)) t ht)
 have hg:yh (bA bs σ):=λt ht=>by
  obtain ⟨u,M,rfl⟩:=bu.mp ht
  exact W6 bs 0 F u M
 have m:∀ p:Int×ba,((wM σ p).map IL).length=p.2.1:=λp=>by unfold wM idx; simp
 have G:gq ((wg 0 bs).map λp=>(p.2.2,(wM σ p).map IL))=bs:=by
  show ((wg 0 bs).map _).map _=bs
  rw [bz]
  refine (fH λp _=>?_).trans (kU bs 0)
  show (((wM σ p).map IL).length,p.2.2)=p.2
  rw [m]
 have at_:∀ (p:Int×ba),p∈wg 0 bs->∀ a:Nat,a < p.2.1->(((((wM σ p).map IL).getD a 0:Nat)):Int)=σ (p.1+a)/\0<=p.1+a/\p.1+a < yP bs:=λp d a f=>by
  have lo:=xH d
  have r:=h.rl.rg (p.1+a) (by omega) (by omega)
  refine ⟨?_,by omega,by omega⟩
  rw [bR,cK]
  unfold wM idx
  rw [cK,cK,sd f]
  show ((σ (p.1+(a:Int))).toNat:Int)=_
  omega
 have key:=KY (us:=bA bs σ) (n:=yP bs) hg h1 R ((wg 0 bs).map λp=>(p.2.2,(wM σ p).map IL)) (λq s=>by
  obtain ⟨p,d,rfl⟩:=bu.mp s
  have g:=wR d
  show 1<=((wM σ p).map IL).length/\p.2.2∈zbf ((wM σ p).map IL).length/\yh p.2.2.2/\IsoT p.2.2.2 (bA bs σ) ((wM σ p).map IL)/\Ku ((wM σ p).map IL).length p.2.2.2
  refine ⟨by rw [m]; exact h.pos d,by rw [m]; exact gp.mpr ⟨h.gb _ g,decide_eq_true (Q _ g)⟩,F _ g,⟨?_,λa b f o C=>?_⟩,by rw [m]; exact h.fits _ g⟩
  .have nd:=(h.rl.perm).nodup_iff.mpr (xP _)
   have e:=congrArg (dI σ) (Wv bs 0)
   rw [sr,iP]
   unfold wM
   rw [iP]
   refine (sr.mp (xP _)).imp_of_mem λ{a b} f o C z=>C ?_
   have f:=yN.mp f
   have o:=yN.mp o
   have lo:=xH d
   have Z:=h.rl.rg (p.1+a) (by omega) (by omega)
   have Y:=h.rl.rg (p.1+b) (by omega) (by omega)
   have:=h.rl.inj (p.1+a) (p.1+b) (by omega) (by omega) (by omega) (by omega) (by omega)
   omega
  .rw [m] at f o
   rw [(at_ p d a f).1,(at_ p d b o).1]
   exact h.turn_in d (by omega) (by omega) (by omega) (by omega)) (by
  rw [iP]
  refine (Qk bs 0).imp_of_mem λ{p q} d s oN x L y J=>?_
  obtain ⟨A,E,rfl⟩:=bu.mp L
  obtain ⟨w,H,rfl⟩:=bu.mp J
  obtain ⟨i,hi,ei⟩:=xx.mp E
  obtain ⟨j,P,T⟩:=xx.mp H
  unfold In at hi P
  have lp:=xH d
  have lq:=xH s
  have X:=h.rl.rg i (by omega) (by omega)
  have W:=h.rl.rg j (by omega) (by omega)
  rw [show ((A.toNat:Nat):Int)=A by omega,show ((w.toNat:Nat):Int)=w by omega]
  refine h.turn_out d E (λz=>?_) (by omega) (by omega)
  obtain ⟨k,v,S⟩:=xx.mp z
  unfold In at v
  have:=h.rl.inj j k (by omega) (by omega) (by omega) (by omega) (T.trans S.symm)
  omega) (by
  rw [List.flatMap_map]
  have e1:∀ l:List (Int×ba),(l.flatMap λp=>(wM σ p).map IL)=((l.flatMap λp=>(idx p.2.1).map λi=>p.1+i).map σ).map IL:=λl=>by
   induction l with
   | nil=>rfl
   | cons p l I =>
    rw [nC,nC,I,bK,bK]
    unfold wM
    simp only [bz]
    rfl
  rw [e1,Wv]
  have e2:((idx (yP bs)).map λi=>(0:Int)+i)=idx (yP bs):=(fH λi _=>Int.zero_add i).trans (List.map_id _)
  rw [e2]
  have U:(idx (yP bs)).map IL=aK (yP bs):=by
   unfold idx
   rw [bz]
   exact (fH λi _=>Il i).trans (List.map_id _)
  rw [<- U]
  exact h.rl.perm.map _) (by rw [G]; exact O)
 rw [G] at key
 exact key
end GH
namespace GH
def SM (a b:List Nat):Prop:=a.length < b.length\/(a.length=b.length/\Yo a b)
section
variable {ts:List T3} {n:Nat}
theorem Qt (h:xZ ts n k=[]):∀ j,xZ ts n (k+j)=[]/\xX ts n (k+j)=xX ts n k
 | 0=>⟨h,rfl⟩
 | j+1=>by
  obtain ⟨a,b⟩:=Qt h j
  refine ⟨?_,?_⟩
  .show vP ts n [] (xZ ts n (k+j))=[]
   rw [a]; rfl
  .show xX ts n (k+j)++xZ ts n (k+j)=_
   rw [a,b,bX]
theorem YR (hg:yh ts):∀ {K:Nat} {w:List Nat},w∈xX ts n K->Own ts n w/\w.length < K
 | 0,w,h=>by cases h
 | K+1,w,h=>by
  rcases cQ.mp h with z | z
  .obtain ⟨a,b⟩:=YR hg z
   exact ⟨a,by omega⟩
  .exact ⟨(gc hg K).own hg z,by rw [((gc hg K).lv.sh w z).2]; omega⟩
theorem Ct:∀ {K k:Nat} {w:List Nat},k < K->w∈xZ ts n k->w∈xX ts n K
 | K+1,k,w,a,h=>by
  by_cases c:k=K
  .subst c; exact e9 _ h
  .exact lY _ (Ct (by omega) h)
def Jf (hg:yh ts) (b:xZ ts n K=[]) (a:Sh ts n v):v.length < K:=by
 apply Et
 intro z
 have e:=(Qt b (v.length - K)).1
 rw [show K+(v.length - K)=v.length by omega] at e
 have:=(gc (n:=n) hg v.length).lv.cur v a rfl
 rw [e] at this
 cases this
def QU (hg:yh ts) (b:xZ ts n K=[]) (a:Own ts n v):v∈xX ts n K :=
 Ct (Jf hg b a.1) ((gc hg v.length).all v a rfl)
theorem Cs (hg:yh ts):∀ K,(xX ts n K).Pairwise SM
 | 0=>List.Pairwise.nil
 | K+1=>by
  refine List.pairwise_append.mpr ⟨Cs hg K,(gc hg K).ord.imp_of_mem λ{a b} d c h=>.inr ⟨?_,h⟩,λa d b c=>.inl ?_⟩
  .rw [((gc hg K).lv.sh a d).2,((gc hg K).lv.sh b c).2]
  .rw [((gc hg K).lv.sh b c).2]
   exact (YR hg d).2
def zas (hg:yh ts) (K:Nat):((xX ts n K).map (zy ts n)).Nodup:=by
 have:=(gc (n:=n) hg K).lv.nd
 rw [bK,pg] at this
 exact this.1
theorem Cv (hg:yh ts):∀ (K i:Nat),((xX ts n K).filter λw=>decide (w.length=i)).length=if i < K then (xZ ts n i).length else 0
 | 0,i=>rfl
 | K+1,i=>by
  show ((xX ts n K++xZ ts n K).filter _).length=_
  rw [List.filter_append,aW,Cv hg K i]
  by_cases c:i=K
  .subst c
   rw [if_neg (mm _),if_pos (AY _),b_,A0.mpr λw a=>decide_eq_true ((gc hg i).lv.sh w a).2]
  .rw [List.filter_eq_nil_iff.mpr λw a=>by
    have:=((gc (n:=n) hg K).lv.sh w a).2
    simp only [decide_eq_true_eq]
    omega]
   by_cases d:i < K
   .rw [if_pos d,if_pos (by omega)]
    rfl
   .rw [if_neg d,if_neg (by omega)]
    rfl
theorem Cu:∀ (c:List Nat) (k:Nat),(∀ i,i < c.length->(xZ ts n (k+i)).length=c.getD i 0)->(xX ts n (k+c.length)).length=(xX ts n k).length+c.sum
 | [],k,_=>by simp
 | x :: c,k,h=>by
  have a:=h 0 (by simp)
  have b:=Cu c (k+1) λi hi=>by
   have:=h (i+1) (by simp; omega)
   rw [show k+(i+1)=k+1+i by omega] at this
   rw [this]
   rfl
  rw [aB,show k+(c.length+1)=k+1+c.length by omega,b,List.sum_cons]
  show (xX ts n k++xZ ts n k).length+_=_
  rw [aW]
  have a:(xZ ts n k).length=x:=a
  omega
theorem W9:∀ {k K:Nat},k<=K->(xX ts n k).length<=(xX ts n K).length
 | k,0,h=>by rw [show k=0 by omega]; exact aT _
 | k,K+1,h=>by
  by_cases c:k=K+1
  .rw [c]; exact aT _
  .have:=W9 (k:=k) (K:=K) (by omega)
   show _<=(xX ts n K++xZ ts n K).length
   rw [aW]
   omega
end
theorem Vu:∀ (c:List Nat) (m:Int),(c.map Int.ofNat).foldl (λa x=>a+x) m=m+(c.sum:Nat)
 | [],m=>by simp
 | x :: c,m=>by
  rw [aC,nB,Vu c,List.sum_cons]
  show m+(x:Int)+(c.sum:Nat)=_
  omega
def PJ (h:Hs bs σ):yh (bA bs σ):=λt ht=>by
 obtain ⟨u,b,rfl⟩:=bu.mp ht
 refine W6 bs 0 (λB a t ht=>?_) u b
 have c:B.1 < 7:=by
  apply Et
  intro z
  have:=h.gb B a
  unfold qc at this
  split at this <;> first | omega | cases this
 exact of_decide_eq_true (bS.mp (bS.mp (bS.mp JX B.1 (dA.mpr c)) B.2 (h.gb B a)) t ht)
def SD (h:Hs bs σ) (h1:1<=yP bs) (f:yP bs<=6) (e:∀ B∈bs,B.2.1≠(0,0)) (d:dD bs<=120):yh (bA bs σ)->∃ (K:Nat) (c:List Nat),K<=17/\c.length=K/\c.map Int.ofNat=Ki (Xf bs)/\xZ (bA bs σ) (yP bs) K=[] ∧
  ((xX (bA bs σ) (yP bs) K).length:Int)=dD bs/\∀ i,i < K->(xZ (bA bs σ) (yP bs) i).length=c.getD i 0:=λhg=>by
 obtain ⟨c,b,k,j,a,g⟩:=Tf h h1 f e d
 refine ⟨c.length,c,k,rfl,b,g,?_,a⟩
 have:=Cu (ts:=bA bs σ) (n:=yP bs) c 0 λi hi=>by rw [b_]; exact a i hi
 rw [b_] at this
 rw [this,<- j,<- b,Vu]
 show ((0+c.sum:Nat):Int)=_
 omega
end GH
namespace Pk72
open PySem PySem.Spec PyProof.Rows L2 FL
def top (i:Nat):Stmt:=PySem.Challenge.pw_mirrorhouse_k72_whole_places.main.body.getD i (.Pass ⟨0,0,0,0⟩)
abbrev G5:Stmt:=top 5
abbrev U6:Stmt:=top 6
abbrev U9:Stmt:=top 7
abbrev qp:Stmt:=top 8
abbrev G0:Stmt:=top 9
abbrev ZZ:Stmt:=top 13
abbrev G4:Stmt:=top 14
abbrev qr:Stmt:=top 20
abbrev ZY:Stmt:=top 21
abbrev Z0:Stmt:=top 22
abbrev U8:Stmt:=top 23
abbrev qt:Stmt:=top 24
abbrev Wq:Stmt:=top 25
abbrev uI:Stmt:=top 26
abbrev vN:Stmt:=top 27
abbrev xt:Stmt:=top 28
abbrev wO:Stmt:=top 29
abbrev um:Stmt:=top 30
abbrev vM:Stmt:=top 31
abbrev Z6:Stmt:=top 32
abbrev Qd:Stmt:=top 33
abbrev Z8:Stmt:=top 34
abbrev wQ:Stmt:=top 35
abbrev Z9:Stmt:=top 36
abbrev GZ:Stmt:=top 37
abbrev qq:Stmt:=top 38
abbrev Wp:Stmt:=top 39
abbrev Wm:Stmt:=top 43
abbrev kL:Stmt:=top 44
abbrev Nn:Stmt:=top 45
abbrev Wo:Stmt:=top 46
abbrev Z1:Stmt:=top 47
abbrev xI:Stmt:=top 48
abbrev kO:Stmt:=top 49
abbrev kN:Stmt:=top 50
abbrev kP:Stmt:=top 52
abbrev vL:Stmt:=top 53
abbrev ZE:Stmt:=top 54
abbrev vi:Stmt:=top 56
abbrev kM:Stmt:=top 57
abbrev uJ:Stmt:=top 59
abbrev Qa:Stmt:=top 60
abbrev G6:Stmt:=top 62
abbrev Qc:Stmt:=top 63
abbrev Z4:Stmt:=top 64
abbrev zM:Stmt:=top 65
abbrev Z2:Stmt:=top 66
abbrev Z5:Stmt:=top 67
abbrev Z3:Stmt:=top 68
abbrev js:Stmt:=top 69
abbrev jt:Stmt:=top 70
abbrev Qb:Stmt:=top 71
abbrev KN:Stmt:=top 72
structure Txt (w:ER) (K:Eh) (mg:Str->Option Value):Prop where
 base:True
 all_b:mg "all"=none
 enumerate_b:mg "enumerate"=none
 isinstance_b:mg "isinstance"=none
 len_b:mg "len"=none
 list_b:mg "list"=none
 max_b:mg "max"=none
 min_b:mg "min"=none
 range_b:mg "range"=none
 reversed_b:mg "reversed"=none
 sorted_b:mg "sorted"=none
 str_b:mg "str"=none
 sum_b:mg "sum"=none
 tuple_b:mg "tuple"=none
 zip_b:mg "zip"=none
 COMMON_TURN_c:∃ t,mg "COMMON_TURN"=some (Value.int 3 t)
 NOT_TOLD_c:∃ t,mg "NOT_TOLD"=some (Value.int 2 t)
 NOUGHT_c:GTup K mg "NOUGHT" [(.int 0),(.int 0)]
 NO_KIND_c:∃ t,mg "NO_KIND"=some (Value.str "-" t)
 ONE_c:GTup K mg "ONE" [(.int 1),(.int 0)]
 PULLS_BELOW_NOUGHT_c:GDict K mg "PULLS_BELOW_NOUGHT" [(0,(.tup [(.int 2),(.int 0)])),(2,(.tup [(.int 0),(.int 0)])),(3,(.tup [(.int 1),(.int 0)])),(4,(.tup [(.int 2),(.int 0)])),(5,(.tup [(.int 0),(.int 1)])),(6,(.tup [(.int 3),(.int 0)]))]
 RARE_CHAINS_c:GDictT K mg "RARE_CHAINS" [([3,4,3],(.str "f4")),([3,5],(.str "h3")),([3,3,5],(.str "h4")),([5],(.str "i5")),([6],(.str "i6"))]
 RARE_DEGREES_c:GDictS w K mg "RARE_DEGREES" [("e6",(.tup [(.int 2),(.int 5),(.int 6),(.int 8),(.int 9),(.int 12)])),("f4",(.tup [(.int 2),(.int 6),(.int 8),(.int 12)])),("h3",(.tup [(.int 2),(.int 6),(.int 10)])),("h4",(.tup [(.int 2),(.int 12),(.int 20),(.int 30)])),("i5",(.tup [(.int 2),(.int 5)])),("i6",(.tup [(.int 2),(.int 6)]))]
abbrev bH (x:Str) (st:Stmt) (L n m:Nat) (ps:List Str) (F:FS) (P:Ex) (w:ER) (K:Eh) (mg:Str->Option Value) (base:Heap):Prop:=∀ {f fd},Fun K x x st f fd->Txt w K mg->FnOk P w K mg base eY L f fd ps (spF K n (wL m F))
def Nb:FnScope ["x","y"] ["x","y"] (zl G5):=bE
noncomputable def CG:{F:FS // ∀ {P w K m b} ,bH "plus" G5 1 2 2 ["x","y"] F P w K m b} :=
 ⟨_,λa T=>z5 (k:=0) rfl rfl a Nb λaq A outer s H E c=>(zj (zB (yF (za (zV (tz (xy (dw 0) ax)) (tz (xy (dw 1) ax))) (za (zV (tz (xy (dw 0) ax)) (tz (xy (dw 1) ax))) zd)))))⟩
noncomputable def YA:=wL 2 CG.1
def Jg:FnScope ["x","y","both"] ["x","y"] (zl U6):=bE
noncomputable def QZ:{F:FS // ∀ {P w K m b} ,bH "times" U6 1 2 3 ["x","y"] F P w K m b} :=
 ⟨_,λa T=>z5 (k:=0) rfl rfl a Jg λaq A outer s H E c=>(zc (zN 2 Jg.nd (qH (tz (xy (dw 0) ax)) (tz (xy (dw 1) ax)))) (zj (zB (yF (za (zV (tz (qH (tz (xy (dw 0) ax)) (tz (xy (dw 1) ax)))) (dw 2)) (za (zV (tz (zV (tz (qH (tz (xy (dw 0) ax)) (tz (xy (dw 1) ax)))) (tz (qH (tz (xy (dw 0) ax)) (tz (xy (dw 1) ax)))))) (dw 2)) zd))))))⟩
noncomputable def jx:=wL 3 QZ.1
def C4:FnScope ["x"] ["x"] (zl U9):=bE
noncomputable def Q1:{F:FS // ∀ {P w K m b} ,bH "minus" U9 1 1 1 ["x"] F P w K m b} :=
 ⟨_,λa T=>z5 (k:=0) rfl rfl a C4 λaq A outer s H E c=>(zj (zB (yF (za (QO (tz (xy (dw 0) ax))) (za (QO (tz (xy (dw 0) ax))) zd)))))⟩
noncomputable def jy:=wL 1 Q1.1
def Wi:FnScope ["number"] ["number"] (zl qp):=bE
noncomputable def vh:{F:FS // ∀ {P w K m b} ,bH "whole_sign" qp 1 1 1 ["number"] F P w K m b} :=
 ⟨_,λa T=>z5 (k:=0) rfl rfl a Wi λaq A outer s H E c=>(zc (xc (Za (dw 0) ax) (zj (zB zZ)) zY) (zc (xc (FC (dw 0) ax) (zj (zB (QO ax))) zY) (zj (zB zZ))))⟩
noncomputable def vf:=wL 1 vh.1
def Wk:FnScope ["x","whole","golden","product"] ["x"] (zl G0):=bE
noncomputable def Kv:{F:FS // ∀ {P w K m b} (a:HasFn P w K m b 1 "whole_sign" 1 vf),bH "sign" G0 2 1 4 ["x"] F P w K m b} :=
 ⟨_,λa=>λc T=>z5 (k:=1) rfl rfl c Wk λaq A outer s H E d=>(zc (zN 1 Wk.nd (aG a (za (xy (dw 0) ax) zd))) (zc (zN 2 Wk.nd (aG a (za (xy (dw 0) ax) zd))) (zc (xc (FD (tz (qH (dw 1) (dw 2))) ax) (zj (zB (aG a (za (zV (dw 1) (dw 2)) zd)))) zY) (zc (zN 3 Wk.nd (wX (tz (zV (tz (qH (tz (xy (dw 0) ax)) (tz (xy (dw 0) ax)))) (tz (qH (tz (xy (dw 0) ax)) (tz (xy (dw 0) ax)))))) (tz (qH (tz (xy (dw 0) ax)) (tz (xy (dw 0) ax)))))) (zj (zB (qH (dw 1) (tz (aG a (za (dv 3) zd))))))))))⟩
noncomputable def kh:=wL 4 Kv.1
def vG:FnScope ["house","i","j","lesser","greater","first","second","m"] ["house","i","j"] (zl ZZ):=bE
noncomputable def YW:{F:FS // ∀ {P w K m b} ,bH "turn_of" ZZ 1 3 8 ["house","i","j"] F P w K m b} :=
 ⟨_,λc T=>z5 (k:=0) rfl rfl c vG λaq A outer s H E a=>(zc (zN 3 vG.nd (yk (Uz rfl) By rfl T.min_b (by rfl) (zp (dw 1) (zp (dw 2) zA)))) (zc (zN 4 vG.nd (yk (YL rfl) QH rfl T.max_b (by rfl) (zp (dw 1) (zp (dw 2) zA)))) (zc (xT Ep rfl (y4 (xy (dw 0) ax)) (wK (n:=3) rfl (zG (yc 5 vG.nd) (zG (yc 6 vG.nd) (zG (yc 7 vG.nd) xu)))) (zj (xc (Lj (ko (qF a (dw 5) (dw 3)) (uR (qF a (dw 6) (dw 4))))) (zj (zB (dv 7))) zY))) (zj (zB (Us rfl T.NOT_TOLD_c))))))⟩
noncomputable def vS:=wL 8 YW.1
def GV:FnScope ["house","i","j","turn"] ["house","i","j"] (zl G4):=bE
noncomputable def vY:{F:FS // ∀ {P w K m b} (d:HasFn P w K m b 1 "minus" 1 jy) (c:HasFn P w K m b 1 "turn_of" 3 vS),bH "pull" G4 2 3 4 ["house","i","j"] F P w K m b} :=
 ⟨_,λd c=>λe T=>z5 (k:=1) rfl rfl e GV λaq A outer s H E a=>(zc (xc (qF a (dw 1) (dw 2)) (zj (zB (yF (za zZ (za zZ zd))))) zY) (zc (zN 3 GV.nd (aG c (za (dv 0) (za (dv 1) (za (dv 2) zd))))) (zc (xc (Lj (ko (Za (dw 1) (dw 2)) (uR (T9 a (dw 3) (tz (yF (za zZ (za zZ zd)))))))) (zj (zB (yF (za (QO ax) (za zZ zd))))) zY) (zj (zB (aG d (za (Rk rfl T.PULLS_BELOW_NOUGHT_c (dw 3)) zd)))))))⟩
noncomputable def wA:=wL 4 vY.1
def Wl:FnScope ["house","mirror","others"] ["house","mirror","others"] (zl qr):=bE
noncomputable def qM:{F:FS // ∀ {P w K m b} (c:HasFn P w K m b 1 "turn_of" 3 vS),bH "neighbours" qr 2 3 3 ["house","mirror","others"] F P w K m b} :=
 ⟨_,λc=>λd T=>z5 (k:=1) rfl rfl d Wl λaq A outer s H E a=>(zj (zB (En (yV (own:=["other"]) (frees:=["mirror","house"]) (caps:=[1,0]) rfl (.of (by kernel_rfl)) rfl yb (y4 (dv 2)) (λcl C s H fp=>⟨(cy 0),(XG (Lj (ko (Uk a (dw 0) (dw 1)) (uR (Uk a (tz (aG c (za (dv 2) (za (dv 1) (za (dv 0) zd))))) (tz (Us rfl T.NOT_TOLD_c))))))),(dv 0)⟩)))))⟩
noncomputable def yH:=wL 3 qM.1
def KG:FnScope ["mirrors","mirror"] ["mirrors","mirror"] (zl ZY):=bE
noncomputable def YV:{F:FS // ∀ {P w K m b} ,bH "without" ZY 1 2 2 ["mirrors","mirror"] F P w K m b} :=
 ⟨_,λc T=>z5 (k:=0) rfl rfl c KG λaq A outer s H E a=>(zj (zB (En (yV (own:=["other"]) (frees:=["mirror"]) (caps:=[1]) rfl (.of (by kernel_rfl)) rfl yb (y4 (dv 0)) (λcl C s H fp=>⟨(cy 0),(XG (Uk a (dw 0) (dw 1))),(dv 0)⟩)))))⟩
noncomputable def vQ:=wL 2 YV.1
def wN:FnScope ["house","mirror","part","left","place","near"] ["house","mirror"] (zl Z0):=bE
noncomputable def YX:{F:FS // ∀ {P w K m b} (c:HasFn P w K m b 2 "neighbours" 3 yH) (a:HasFn P w K m b 1 "without" 2 vQ),bH "part_of" Z0 3 2 6 ["house","mirror"] F P w K m b} :=
 ⟨_,λc a=>λe T=>z5 (k:=2) rfl rfl e wN λaq A outer s H E d=>(zc (xm 2 wN.nd (zF (za (dv 1) zd))) (zc (zN 3 wN.nd (aG a (za (En (Uo rfl rfl T.list_b rfl T.range_b (zp (tz (xy (dw 0) ax)) zA))) (za (dv 1) zd)))) (zc (zN 4 wN.nd zZ) (zc (qW 100000 Ep (FC (dw 4) (tz (yk yd yE rfl T.len_b (by rfl) (zp (eV 2) zA)))) (zc (zN 5 wN.nd (aG c (za (dv 0) (za (xy (eV 2) (dw 4)) (za (dv 3) zd))))) (zc (uF 2 (dv 5)) (zc (uG 3 wN.nd (own:=["other"]) (frees:=["near"]) (caps:=[5]) rfl (.of (by kernel_rfl)) rfl yb (y4 (dv 3)) (λcl C s H fp=>⟨(cy 0),(XG (J8 d (dw 0) (dw 1))),(dv 0)⟩)) (zj (Rc 4 wN.nd TU zZ)))))) (zj (zB (En (YI rfl T.sorted_b (zp (eV 2) zA)))))))))⟩
noncomputable def ki:=wL 6 YX.1
def Jh:FnScope ["house","reached"] ["house"] (zl U8):=bE
noncomputable def Q0:{F:FS // ∀ {P w K m b} (a:HasFn P w K m b 3 "part_of" 2 ki),bH "parts" U8 4 1 2 ["house"] F P w K m b} :=
 ⟨_,λa=>λd T=>z5 (k:=3) rfl rfl d Jh λaq A outer s H E c=>(zc (uG 1 Jh.nd (own:=["mirror"]) (frees:=["house"]) (caps:=[0]) rfl (.of (by kernel_rfl)) rfl yb (xW rfl T.range_b (zp (tz (xy (dw 0) ax)) zA)) (λcl C s H fp=>⟨(cy 0),xV,(aG a (za (dv 1) (za (dv 0) zd)))⟩)) (zj (zB (En (yV (own:=["mirror","part"]) (frees:=[]) (caps:=[]) rfl (.of (by kernel_rfl)) rfl (Zs (yQ yb (yQ yb qy))) (W1 rfl T.enumerate_b (dv 1)) (λcl C s H fp=>⟨(wK (n:=2) rfl (zG (cy 0) (zG (cy 1) xu))),(XG (qF c (tz (xy (dw 1) ax)) (dw 0))),(dv 1)⟩))))))⟩
noncomputable def QF:=wL 2 Q0.1
def wq:FnScope ["house","mirrors","first","order","left","near"] ["house","mirrors","first"] (zl qt):=bE
noncomputable def qO:{F:FS // ∀ {P w K m b} (c:HasFn P w K m b 2 "neighbours" 3 yH) (a:HasFn P w K m b 1 "without" 2 vQ),bH "chain_from" qt 3 3 6 ["house","mirrors","first"] F P w K m b} :=
 ⟨_,λc a=>λe T=>z5 (k:=2) rfl rfl e wq λaq A outer s H E d=>(zc (xm 3 wq.nd (zF (za (dv 2) zd))) (zc (zN 4 wq.nd (aG a (za (dv 1) (za (dv 2) zd)))) (zc (qW 100000 Ep (Za (tz (yk yd yE rfl T.len_b (by rfl) (zp (dw 4) zA))) ax) (zc (zN 5 wq.nd (aG c (za (dv 0) (za (xy (eV 3) (tz (QO ax))) (za (dv 4) zd))))) (zc (xc (Uk d (tz (yk yd yE rfl T.len_b (by rfl) (zp (dw 5) zA))) ax) (zj (zB Uq)) zY) (zc (xU 3 (xy (dw 5) ax)) (zj (zN 4 wq.nd (aG a (za (dv 4) (za (xy (dw 5) ax) zd))))))))) (vV 3 (zj (zB (dv 3)))))))⟩
noncomputable def vg:=wL 6 qO.1
def VC:FnScope ["house","mirrors","orders"] ["house","mirrors"] (zl Wq):=bE
noncomputable def Vn:{F:FS // ∀ {P w K m b} (a:HasFn P w K m b 3 "chain_from" 3 vg),bH "chains" Wq 4 2 3 ["house","mirrors"] F P w K m b} :=
 ⟨_,λa=>λc T=>z5 (k:=3) rfl rfl c VC λaq A outer s H E d=>(zc (uG 2 VC.nd (own:=["first"]) (frees:=["house","mirrors"]) (caps:=[0,1]) rfl (.of (by kernel_rfl)) rfl yb (y4 (dv 1)) (λcl C s H fp=>⟨(cy 0),xV,(aG a (za (dv 1) (za (dv 2) (za (dv 0) zd))))⟩)) (zj (zB (En (yV (own:=["order"]) (frees:=[]) (caps:=[]) rfl (.of (by kernel_rfl)) rfl yb (y4 (dv 2)) (λcl C s H fp=>⟨(cy 0),(XG (ZK (dw 0) (tz Uq))),(dv 0)⟩))))))⟩
noncomputable def kl:=wL 3 Vn.1
def Y8:FnScope ["house","order"] ["house","order"] (zl uI):=bE
noncomputable def uV:{F:FS // ∀ {P w K m b} (a:HasFn P w K m b 1 "turn_of" 3 vS),bH "turns_along" uI 2 2 2 ["house","order"] F P w K m b} :=
 ⟨_,λa=>λc T=>z5 (k:=1) rfl rfl c Y8 λaq A outer s H E d=>(zj (zB (En (yV (own:=["i","j"]) (frees:=["house"]) (caps:=[0]) rfl (.of (by kernel_rfl)) rfl (Zs (yQ yb (yQ yb qy))) (MJ rfl T.zip_b (dv 1) (qG (dw 1) (YH ax) BO)) (λcl C s H fp=>⟨(wK (n:=2) rfl (zG (cy 0) (zG (cy 1) xu))),xV,(aG a (za (dv 2) (za (dv 0) (za (dv 1) zd))))⟩)))))⟩
noncomputable def vz:=wL 2 uV.1
def uX:FnScope ["turns","mirrors"] ["turns"] (zl vN):=bE
noncomputable def v7:{F:FS // ∀ {P w K m b} ,bH "kind_of_chain" vN 1 1 2 ["turns"] F P w K m b} :=
 ⟨_,λc T=>z5 (k:=0) rfl rfl c uX λaq A outer s H E a=>(zc (zN 1 uX.nd (zV (tz (yk yd yE rfl T.len_b (by rfl) (zp (dw 0) zA))) ax)) (zc (xc (qF a (dw 0) (tz (En (wF (tz (En (zF (za (Us rfl T.COMMON_TURN_c) zd)))) (tz (wX (dw 1) ax)))))) (zj (zB (BY (BR (BQ (dw 1) BP))))) zY) (zc (xc (qF a (dw 0) (tz (zV (tz (En (wF (tz (En (zF (za (Us rfl T.COMMON_TURN_c) zd)))) (tz (wX (dw 1) ax))))) (tz (En (zF (za zZ zd))))))) (zj (zB (BY (BR (BQ (dw 1) BP))))) zY) (zj (zB (zah a rfl T.RARE_CHAINS_c (w9 yG wD rfl T.tuple_b (by rfl) (zp (dw 0) zA)) (Ur rfl T.NO_KIND_c)))))))⟩
noncomputable def xD:=wL 2 v7.1
def wo:FnScope ["order","mirror","mirrors"] ["order","mirror"] (zl xt):=bE
noncomputable def xw:{F:FS // ∀ {P w K m b} ,bH "kind_with_one_beside" xt 1 2 3 ["order","mirror"] F P w K m b} :=
 ⟨_,λc T=>z5 (k:=0) rfl rfl c wo λaq A outer s H E a=>(zc (zN 2 wo.nd (zV (tz (yk yd yE rfl T.len_b (by rfl) (zp (dw 0) zA))) ax)) (zc (xc (Lj (ko (FD (dw 2) ax) (uR (qF a (tz (xy (dw 0) ax)) (dw 1))))) (zj (zB (BY (BR (BQ (dw 2) BP))))) zY) (zc (xc (Lj (ko (qF a (dw 2) ax) (uR (qF a (tz (xy (dw 0) ax)) (dw 1))))) (zj (zB jg)) zY) (zj (zB (Ur rfl T.NO_KIND_c))))))⟩
noncomputable def yj:=wL 3 xw.1
def jX:FnScope ["house","part"] ["house","part"] (zl wO):=bE
noncomputable def w4:{F:FS // ∀ {P w K m b} (d:HasFn P w K m b 4 "chains" 2 kl) (a:HasFn P w K m b 1 "kind_of_chain" 1 xD) (c:HasFn P w K m b 2 "turns_along" 2 vz),bH "kinds_by_chains" wO 5 2 2 ["house","part"] F P w K m b} :=
 ⟨_,λd a c=>λe T=>z5 (k:=4) rfl rfl e jX λaq A outer s H E f=>(zj (zB (En (yV (own:=["order"]) (frees:=["house"]) (caps:=[0]) rfl (.of (by kernel_rfl)) rfl yb (y4 (aG d (za (dv 0) (za (dv 1) zd)))) (λcl C s H fp=>⟨(cy 0),xV,(aG a (za (aG c (za (dv 1) (za (dv 0) zd))) zd))⟩)))))⟩
noncomputable def wV:=wL 2 w4.1
def ZX:FnScope ["house","part"] ["house","part"] (zl um):=bE
noncomputable def uv:{F:FS // ∀ {P w K m b} ,bH "all_by_three" um 1 2 2 ["house","part"] F P w K m b} :=
 ⟨_,λc T=>z5 (k:=0) rfl rfl c ZX λaq A outer s H E a=>(zj (zB (yk (Kl rfl) Bz rfl T.all_b (by rfl) (zp (tz (En (yV (own:=["i","j","m"]) (frees:=["part"]) (caps:=[1]) rfl (.of (by kernel_rfl)) rfl (Zs (yQ yb (yQ yb (yQ yb qy)))) (y4 (xy (dw 0) ax)) (λcl C s H fp=>⟨(wK (n:=3) rfl (zG (cy 0) (zG (cy 1) (zG (cy 2) xu)))),(XG (T9 a (dw 0) (dw 3))),(zd8 a (dw 2) (tz (Us rfl T.COMMON_TURN_c)))⟩)))) zA))))⟩
noncomputable def xS:=wL 2 uv.1
def xo:FnScope ["house","part","told","end","near","orders"] ["house","part"] (zl vM):=bE
noncomputable def v5:{F:FS // ∀ {P w K m b} (a:HasFn P w K m b 1 "all_by_three" 2 xS) (c:HasFn P w K m b 4 "chains" 2 kl) (d:HasFn P w K m b 1 "kind_with_one_beside" 2 yj) (f:HasFn P w K m b 2 "neighbours" 3 yH) (e:HasFn P w K m b 1 "without" 2 vQ),bH "kinds_by_ends" vM 5 2 6 ["house","part"] F P w K m b} :=
 ⟨_,λa c d f e=>λh T=>z5 (k:=4) rfl rfl h xo λaq A outer s H E g=>(zc (xm 2 xo.nd (zF zd)) (zc (xc (Uj (qE (tz (aG a (za (dv 0) (za (dv 1) zd)))))) (vV 2 (zj (zB (dv 2)))) zY) (zc (xT Ep rfl (y4 (dv 1)) (yc 3 xo.nd) (zc (zN 4 xo.nd (aG f (za (dv 0) (za (dv 3) (za (dv 1) zd))))) (zj (xc (qF g (tz (yk yd yE rfl T.len_b (by rfl) (zp (dw 4) zA))) ax) (zc (zN 5 xo.nd (aG c (za (dv 0) (za (aG e (za (dv 1) (za (dv 3) zd))) zd)))) (zj (uF 2 (En (yV (own:=["order"]) (frees:=["near"]) (caps:=[4]) rfl (.of (by kernel_rfl)) rfl yb (y4 (dv 5)) (λcl C s H fp=>⟨(cy 0),xV,(aG d (za (dv 0) (za (xy (dw 1) ax) zd)))⟩)))))) zY)))) (vV 2 (zj (zB (dv 2)))))))⟩
noncomputable def wB:=wL 6 v5.1
def Xp:FnScope ["house","part","kind"] ["house","part"] (zl Z6):=bE
noncomputable def Y1:{F:FS // ∀ {P w K m b} (c:HasFn P w K m b 5 "kinds_by_chains" 2 wV) (a:HasFn P w K m b 5 "kinds_by_ends" 2 wB),bH "kind_of" Z6 6 2 3 ["house","part"] F P w K m b} :=
 ⟨_,λc a=>λe T=>z5 (k:=5) rfl rfl e Xp λaq A outer s H E d=>(zc (xT Ep rfl (y4 (zV (tz (aG c (za (dv 0) (za (dv 1) zd)))) (tz (aG a (za (dv 0) (za (dv 1) zd)))))) (yc 2 Xp.nd) (zj (xc (Uk d (dw 2) (tz (Ur rfl T.NO_KIND_c))) (zj (zB (dv 2))) zY))) (zj (zB (Ur rfl T.NO_KIND_c))))⟩
noncomputable def vT:=wL 3 Y1.1
def C5:FnScope ["house"] ["house"] (zl Qd):=bE
noncomputable def Q4:{F:FS // ∀ {P w K m b} (c:HasFn P w K m b 6 "kind_of" 2 vT) (a:HasFn P w K m b 4 "parts" 1 QF),bH "kinds" Qd 7 1 1 ["house"] F P w K m b} :=
 ⟨_,λc a=>λd T=>z5 (k:=6) rfl rfl d C5 λaq A outer s H E e=>(zj (zB (En (yV (own:=["part"]) (frees:=["house"]) (caps:=[0]) rfl (.of (by kernel_rfl)) rfl yb (y4 (aG a (za (dv 0) zd))) (λcl C s H fp=>⟨(cy 0),xV,(yF (za (dv 0) (za (aG c (za (dv 1) (za (dv 0) zd))) zd)))⟩)))))⟩
noncomputable def uO:=wL 1 Q4.1
def kK:FnScope ["house","part","kind"] ["house"] (zl Z8):=bE
noncomputable def qN:{F:FS // ∀ {P w K m b} (a:HasFn P w K m b 7 "kinds" 1 uO),bH "endless" Z8 8 1 3 ["house"] F P w K m b} :=
 ⟨_,λa=>λd T=>z5 (k:=7) rfl rfl d kK λaq A outer s H E c=>(zc (xT Ep rfl (y4 (aG a (za (dv 0) zd))) (wK (n:=2) rfl (zG (yc 1 kK.nd) (zG (yc 2 kK.nd) xu))) (zj (xc (qF c (dw 2) (tz (Ur rfl T.NO_KIND_c))) (zj (zB (w9 yG wD rfl T.tuple_b (by rfl) (zp (dw 1) zA)))) zY))) (zj (zB Uq)))⟩
noncomputable def xb:=wL 3 qN.1
def jY:FnScope ["kind","mirrors"] ["kind","mirrors"] (zl wQ):=bE
noncomputable def yK:{F:FS // ∀ {P w K m b} ,bH "degrees_of_kind" wQ 1 2 2 ["kind","mirrors"] F P w K m b} :=
 ⟨_,λa T=>z5 (k:=0) rfl rfl a jY λaq A outer s H E c=>(zc (xc (Ra rfl T.RARE_DEGREES_c (dv 0)) (zj (zB (En (Re rfl T.list_b (zp (tz (FK rfl T.RARE_DEGREES_c (dw 0))) zA))))) zY) (zc (xc (qE (tz (Kf (dv 0) jg))) (zj (zB (En (Um rfl rfl T.list_b rfl T.range_b (zp ax (zp (tz (zV (dw 1) ax)) zA)))))) zY) (zc (xc (qE (tz (Kf (dv 0) jg))) (zj (zB (En (Ul rfl rfl T.list_b rfl T.range_b (zp ax (zp (tz (zV (tz (qH ax (dw 1))) ax)) (zp ax zA))))))) zY) (zj (zB (zV (tz (En (Ul rfl rfl T.list_b rfl T.range_b (zp ax (zp (tz (qH ax (dw 1))) (zp ax zA)))))) (tz (En (zF (za (dv 1) zd))))))))))⟩
noncomputable def zS:=wL 2 yK.1
def ux:FnScope ["house","word","told","part","kind"] ["house"] (zl Z9):=bE
noncomputable def Y2:{F:FS // ∀ {P w K m b} (d:HasFn P w K m b 1 "degrees_of_kind" 2 zS) (c:HasFn P w K m b 8 "endless" 1 xb) (a:HasFn P w K m b 7 "kinds" 1 uO),bH "degrees" Z9 9 1 5 ["house"] F P w K m b} :=
 ⟨_,λd c a=>λe T=>z5 (k:=8) rfl rfl e ux λaq A outer s H E f=>(zc (zN 1 ux.nd (aG c (za (dv 0) zd))) (zc (xc (ZK (dw 1) (tz Uq)) (zj J9) zY) (zc (xm 2 ux.nd (zF zd)) (zc (xT Ep rfl (y4 (aG a (za (dv 0) zd))) (wK (n:=2) rfl (zG (yc 3 ux.nd) (zG (yc 4 ux.nd) xu))) (zj (uF 2 (aG d (za (dv 4) (za (yk yd yE rfl T.len_b (by rfl) (zp (dw 3) zA)) zd)))))) (zj (zB (En (YI rfl T.sorted_b (zp (eV 2) zA)))))))))⟩
noncomputable def vU:=wL 5 Y2.1
def Wj:FnScope ["house","product","degree"] ["house"] (zl GZ):=bE
noncomputable def CF:{F:FS // ∀ {P w K m b} (a:HasFn P w K m b 9 "degrees" 1 vU),bH "size" GZ 10 1 3 ["house"] F P w K m b} :=
 ⟨_,λa=>λc T=>z5 (k:=9) rfl rfl c Wj λaq A outer s H E d=>(zc (zN 1 Wj.nd zZ) (zc (xT Ep rfl (y4 (aG a (za (dv 0) zd))) (yc 2 Wj.nd) (zj (Rb 1 Wj.nd (dv 2)))) (zj (zB (dv 1)))))⟩
noncomputable def XB:=wL 3 CF.1
def jV:FnScope ["numbers","ones","places"] ["numbers","ones"] (zl qq):=bE
noncomputable def qL:{F:FS // ∀ {P w K m b} ,bH "times_ones" qq 1 2 3 ["numbers","ones"] F P w K m b} :=
 ⟨_,λa T=>z5 (k:=0) rfl rfl a jV λaq A outer s H E c=>(zc (zN 2 jV.nd (wX (tz (zV (tz (yk yd yE rfl T.len_b (by rfl) (zp (dw 0) zA))) (dw 1))) ax)) (zj (zB (En (yV (own:=["place"]) (frees:=["numbers","ones"]) (caps:=[0,1]) rfl (.of (by kernel_rfl)) rfl yb (xW rfl T.range_b (zp (dw 2) zA)) (λcl C s H fp=>⟨(cy 0),xV,(yk (FZ rfl) PY rfl T.sum_b (by rfl) (zp (tz (qG (dw 1) (YH (tz (yk (YL rfl) QH rfl T.max_b (by rfl) (zp ax (zp (tz (zV (tz (wX (dw 0) (dw 2))) ax)) zA))))) (YH (tz (zV (dw 0) ax))))) zA))⟩))))))⟩
noncomputable def uf:=wL 3 qL.1
def jZ:FnScope ["house","numbers","degree"] ["house"] (zl Wp):=bE
noncomputable def Vm:{F:FS // ∀ {P w K m b} (c:HasFn P w K m b 9 "degrees" 1 vU) (a:HasFn P w K m b 1 "times_ones" 2 uf),bH "counts" Wp 10 1 3 ["house"] F P w K m b} :=
 ⟨_,λc a=>λd T=>z5 (k:=9) rfl rfl d jZ λaq A outer s H E e=>(zc (zN 1 jZ.nd (En (zF (za zZ zd)))) (zc (xT Ep rfl (y4 (aG c (za (dv 0) zd))) (yc 2 jZ.nd) (zj (zN 1 jZ.nd (aG a (za (dv 1) (za (dv 2) zd)))))) (zj (zB (dv 1)))))⟩
noncomputable def WR:=wL 3 Vm.1
def GU:FnScope ["house","i"] ["house","i"] (zl Wm):=bE
noncomputable def Vi:{F:FS // ∀ {P w K m b} ,bH "simple" Wm 1 2 2 ["house","i"] F P w K m b} :=
 ⟨_,λc T=>z5 (k:=0) rfl rfl c GU λaq A outer s H E a=>(zj (zB (w9 yG wD rfl T.tuple_b (by rfl) (zp (tz (En (yV (own:=["j"]) (frees:=["i"]) (caps:=[1]) rfl (.of (by kernel_rfl)) rfl yb (xW rfl T.range_b (zp (tz (xy (dw 0) ax)) zA)) (λcl C s H fp=>⟨(cy 0),xV,(Rj (qF a (dw 0) (dw 1)) (BZ rfl T.ONE_c) (BZ rfl T.NOUGHT_c))⟩)))) zA))))⟩
noncomputable def kg:=wL 2 Vi.1
def vK:FnScope ["house","i","row","less","j","number"] ["house","i","row"] (zl kL):=bE
noncomputable def Zh:{F:FS // ∀ {P w K m b} (e:HasFn P w K m b 1 "minus" 1 jy) (a:HasFn P w K m b 1 "plus" 2 YA) (c:HasFn P w K m b 2 "pull" 3 wA) (d:HasFn P w K m b 1 "times" 2 jx),bH "mirrored" kL 3 3 6 ["house","i","row"] F P w K m b} :=
 ⟨_,λe a c d=>λf T=>z5 (k:=2) rfl rfl f vK λaq A outer s H E g=>(zc (zN 3 vK.nd (BZ rfl T.NOUGHT_c)) (zc (xT Ep rfl (W1 rfl T.enumerate_b (dv 2)) (wK (n:=2) rfl (zG (yc 4 vK.nd) (zG (yc 5 vK.nd) xu))) (zj (zN 3 vK.nd (aG a (za (dv 3) (za (aG d (za (aG c (za (dv 0) (za (dv 1) (za (dv 4) zd)))) (za (dv 5) zd))) zd)))))) (zj (zB (zV (tz (zV (tz (qG (dw 2) BO (YH (dw 1)))) (tz (yF (za (aG a (za (xy (dw 2) (dw 1)) (za (aG e (za (dv 3) zd)) zd))) zd))))) (tz (qG (dw 2) (YH (tz (zV (dw 1) ax))) BO)))))))⟩
noncomputable def qU:=wL 6 Zh.1
def GW:FnScope ["house","word","row","mirror"] ["house","word","row"] (zl Nn):=bE
noncomputable def RC:{F:FS // ∀ {P w K m b} (a:HasFn P w K m b 3 "mirrored" 3 qU),bH "led" Nn 4 3 4 ["house","word","row"] F P w K m b} :=
 ⟨_,λa=>λc T=>z5 (k:=3) rfl rfl c GW λaq A outer s H E d=>(zc (xT Ep rfl (zab rfl T.reversed_b (dv 1)) (yc 3 GW.nd) (zj (zN 2 GW.nd (aG a (za (dv 0) (za (dv 3) (za (dv 2) zd))))))) (zj (zB (dv 2))))⟩
noncomputable def Bw:=wL 4 RC.1
def GX:FnScope ["house","word"] ["house","word"] (zl Wo):=bE
noncomputable def Vl:{F:FS // ∀ {P w K m b} (a:HasFn P w K m b 4 "led" 3 Bw) (c:HasFn P w K m b 1 "simple" 2 kg),bH "images" Wo 5 2 2 ["house","word"] F P w K m b} :=
 ⟨_,λa c=>λd T=>z5 (k:=4) rfl rfl d GX λaq A outer s H E e=>(zj (zB (En (yV (own:=["i"]) (frees:=["house","word"]) (caps:=[0,1]) rfl (.of (by kernel_rfl)) rfl yb (xW rfl T.range_b (zp (tz (xy (dw 0) ax)) zA)) (λcl C s H fp=>⟨(cy 0),xV,(aG a (za (dv 1) (za (dv 2) (za (aG c (za (dv 1) (za (dv 0) zd))) zd))))⟩)))))⟩
noncomputable def wC:=wL 2 Vl.1
def KI:FnScope ["row","factor","other"] ["row","factor","other"] (zl Z1):=bE
noncomputable def YY:{F:FS // ∀ {P w K m b} (d:HasFn P w K m b 1 "minus" 1 jy) (a:HasFn P w K m b 1 "plus" 2 YA) (c:HasFn P w K m b 1 "times" 2 jx),bH "less_by" Z1 2 3 3 ["row","factor","other"] F P w K m b} :=
 ⟨_,λd a c=>λe T=>z5 (k:=1) rfl rfl e KI λaq A outer s H E f=>(zj (zB (w9 yG wD rfl T.tuple_b (by rfl) (zp (tz (En (yV (own:=["x","y"]) (frees:=["factor"]) (caps:=[1]) rfl (.of (by kernel_rfl)) rfl (Zs (yQ yb (yQ yb qy))) (MJ rfl T.zip_b (dv 0) (dv 2)) (λcl C s H fp=>⟨(wK (n:=2) rfl (zG (cy 0) (zG (cy 1) xu))),xV,(aG a (za (dv 0) (za (aG d (za (aG c (za (dv 2) (za (dv 1) zd))) zd)) zd)))⟩)))) zA))))⟩
noncomputable def qC:=wL 3 YY.1
def qm:FnScope ["house","rows","i"] ["house","rows","i"] (zl xI):=bE
noncomputable def xN:{F:FS // ∀ {P w K m b} (a:HasFn P w K m b 2 "less_by" 3 qC) (c:HasFn P w K m b 2 "pull" 3 wA),bH "images_with_behind" xI 3 3 3 ["house","rows","i"] F P w K m b} :=
 ⟨_,λa c=>λd T=>z5 (k:=2) rfl rfl d qm λaq A outer s H E e=>(zj (zB (En (yV (own:=["j","row"]) (frees:=["house","i","rows"]) (caps:=[0,2,1]) rfl (.of (by kernel_rfl)) rfl (Zs (yQ yb (yQ yb qy))) (W1 rfl T.enumerate_b (dv 1)) (λcl C s H fp=>⟨(wK (n:=2) rfl (zG (cy 0) (zG (cy 1) xu))),xV,(aG a (za (dv 1) (za (aG c (za (dv 2) (za (dv 3) (za (dv 0) zd)))) (za (xy (dw 4) (dw 3)) zd))))⟩)))))⟩
noncomputable def zP:=wL 3 xN.1
def ZW:FnScope ["row","signs"] ["row"] (zl kO):=bE
noncomputable def Zk:{F:FS // ∀ {P w K m b} (c:HasFn P w K m b 2 "sign" 1 kh),bH "is_above" kO 3 1 2 ["row"] F P w K m b} :=
 ⟨_,λc=>λd T=>z5 (k:=2) rfl rfl d ZW λaq A outer s H E a=>(zc (uG 1 ZW.nd (own:=["x"]) (frees:=[]) (caps:=[]) rfl (.of (by kernel_rfl)) rfl yb (y4 (dv 0)) (λcl C s H fp=>⟨(cy 0),xV,(aG c (za (dv 0) zd))⟩)) (zj (zB (zaj (zc9 a ax (dw 1)) (Rh (BX a (tz (QO ax)) (dw 1)))))))⟩
noncomputable def wW:=wL 2 Zk.1
def ZV:FnScope ["row","signs"] ["row"] (zl kN):=bE
noncomputable def Zj:{F:FS // ∀ {P w K m b} (c:HasFn P w K m b 2 "sign" 1 kh),bH "is_below" kN 3 1 2 ["row"] F P w K m b} :=
 ⟨_,λc=>λd T=>z5 (k:=2) rfl rfl d ZV λaq A outer s H E a=>(zc (uG 1 ZV.nd (own:=["x"]) (frees:=[]) (caps:=[]) rfl (.of (by kernel_rfl)) rfl yb (y4 (dv 0)) (λcl C s H fp=>⟨(cy 0),xV,(aG c (za (dv 0) zd))⟩)) (zj (zB (zaj (zc9 a (tz (QO ax)) (dw 1)) (Rh (BX a ax (dw 1)))))))⟩
noncomputable def qV:=wL 2 Zj.1
def U5:FnScope ["house","most"] ["house","most"] (zl kP):=bE
noncomputable def je:{F:FS // ∀ {P w K m b} (c:HasFn P w K m b 8 "endless" 1 xb) (a:HasFn P w K m b 10 "size" 1 XB),bH "has_more" kP 11 2 2 ["house","most"] F P w K m b} :=
 ⟨_,λc a=>λd T=>z5 (k:=10) rfl rfl d U5 λaq A outer s H E e=>(zj (zB (ze8 (Ri (tz (aG c (za (dv 0) zd))) (tz Uq)) (Rh (ze9 (tz (aG a (za (dv 0) zd))) (dw 1))))))⟩
noncomputable def xF:=wL 2 je.1
def yA:FnScope ["house","reached","seen","longer","word","rows","mirror","rows_behind"] ["house","reached"] (zl vL):=bE
noncomputable def vZ:{F:FS // ∀ {P w K m b} (d:HasFn P w K m b 3 "images_with_behind" 3 zP) (c:HasFn P w K m b 3 "is_above" 1 wW),bH "longer_places" vL 4 2 8 ["house","reached"] F P w K m b} :=
 ⟨_,λd c=>λe T=>z5 (k:=3) rfl rfl e yA λaq A outer s H E a=>(zc (Ka 2 3 yA.nd) (zc (xm 3 yA.nd (zF zd)) (zc (xT Ep rfl (y4 (dv 1)) (wK (n:=2) rfl (zG (yc 4 yA.nd) (zG (yc 5 yA.nd) xu))) (zj (xT Ep rfl (xW rfl T.range_b (zp (tz (xy (dw 0) ax)) zA)) (yc 6 yA.nd) (zj (xc (qE (tz (aG c (za (xy (dw 5) (dw 6)) zd)))) (zc (zN 7 yA.nd (aG d (za (dv 0) (za (dv 5) (za (dv 6) zd))))) (zj (xc (P9 2 a (w9 yG wD rfl T.tuple_b (by rfl) (zp (dw 7) zA))) (zc (BL 2 a B1 (w9 yG wD rfl T.tuple_b (by rfl) (zp (dw 7) zA))) (zj (xU 3 (yF (za (zV (dw 4) (tz (yF (za (dv 6) zd)))) (za (dv 7) zd)))))) zY))) zY))))) (vV 3 (zj (zB (dv 3)))))))⟩
noncomputable def xC:=wL 8 vZ.1
def va:FnScope ["house","most","told","reached"] ["house","most"] (zl ZE):=bE
noncomputable def Vj:{F:FS // ∀ {P w K m b} (a:HasFn P w K m b 11 "has_more" 2 xF) (d:HasFn P w K m b 5 "images" 2 wC) (c:HasFn P w K m b 4 "longer_places" 2 xC),bH "places" ZE 12 2 4 ["house","most"] F P w K m b} :=
 ⟨_,λa d c=>λe T=>z5 (k:=11) rfl rfl e va λaq A outer s H E f=>(zc (xc (qE (tz (aG a (za (dv 0) (za (dv 1) zd))))) (zj J9) zY) (zc (xm 2 va.nd (zF zd)) (zc (zN 3 va.nd (En (zF (za (yF (za (yF zd) (za (aG d (za (dv 0) (za (yF zd) zd))) zd))) zd)))) (zc (qW 100000 Ep (Za (tz (yk yd yE rfl T.len_b (by rfl) (zp (dw 3) zA))) ax) (zc (uF 2 (En (yV (own:=["word","rows"]) (frees:=[]) (caps:=[]) rfl (.of (by kernel_rfl)) rfl (Zs (yQ yb (yQ yb qy))) (y4 (dv 3)) (λcl C s H fp=>⟨(wK (n:=2) rfl (zG (cy 0) (zG (cy 1) xu))),xV,(dv 0)⟩)))) (zj (zN 3 va.nd (aG c (za (dv 0) (za (dv 3) zd))))))) (vV 2 (zj (zB (dv 2))))))))⟩
noncomputable def WO:=wL 4 Vj.1
noncomputable def Vh:{G:iF // ∀ {P w K mg base f fd g} (e:Fun K "places" "places" ZE f fd) (T:Txt w K mg) (a:ExT K mg "TooMany" g) (b:HasFn P w K mg base 11 "has_more" 2 xF) (d:HasFn P w K mg base 5 "images" 2 wC) (c:HasFn P w K mg base 4 "longer_places" 2 xC) ,FnOk P w K mg base (f7 P w) 12 f fd ["house","most"] (oE mg K 2 (sG 4 G))} :=
 ⟨_,λe T a b d c  => PX (k:=11) rfl rfl e va λaq A outer s H E h=>(Fy (zc2 (qE (tz (aG b (za (dv 0) (za (dv 1) zd))))) (P6 (Fz a rfl)) P7) (P8 (zc (xm 2 va.nd (zF zd)) (zc (zN 3 va.nd (En (zF (za (yF (za (yF zd) (za (aG d (za (dv 0) (za (yF zd) zd))) zd))) zd)))) (zc (qW 100000 PassesOwn.leaving (Za (tz (yk yd yE rfl T.len_b (by rfl) (zp (dw 3) zA))) ax) (zc (uF 2 (En (yV (own:=["word","rows"]) (frees:=[]) (caps:=[]) rfl (.of (by kernel_rfl)) rfl (Zs (yQ yb (yQ yb qy))) (y4 (dv 3)) (λcl C s H fp=>⟨(wK (n:=2) rfl (zG (cy 0) (zG (cy 1) xu))),xV,(dv 0)⟩)))) (zj (zN 3 va.nd (aG c (za (dv 0) (za (dv 3) zd))))))) (vV 2 (zj (zB (dv 2)))))))))⟩
noncomputable def qA:List D->Option RX:=sG 4 Vh.1
def xa:FnScope ["house","word","told","rows","mirror"] ["house","word"] (zl vi):=bE
noncomputable def vo:{F:FS // ∀ {P w K m b} (d:HasFn P w K m b 5 "images" 2 wC) (c:HasFn P w K m b 3 "images_with_behind" 3 zP) (a:HasFn P w K m b 3 "is_above" 1 wW),bH "which_lengthen" vi 6 2 5 ["house","word"] F P w K m b} :=
 ⟨_,λd c a=>λe T=>z5 (k:=5) rfl rfl e xa λaq A outer s H E f=>(zc (xm 2 xa.nd (zF zd)) (zc (zN 3 xa.nd (aG d (za (dv 0) (za (yF zd) zd)))) (zc (xT Ep rfl (y4 (dv 1)) (yc 4 xa.nd) (zc (xU 2 (aG a (za (xy (dw 3) (dw 4)) zd))) (zj (zN 3 xa.nd (aG c (za (dv 0) (za (dv 3) (za (dv 4) zd)))))))) (vV 2 (zj (zB (dv 2)))))))⟩
noncomputable def vn:=wL 5 vo.1
def U4:FnScope ["house","word"] ["house","word"] (zl kM):=bE
noncomputable def Zi:{F:FS // ∀ {P w K m b} (a:HasFn P w K m b 6 "which_lengthen" 2 vn),bH "is_short" kM 7 2 2 ["house","word"] F P w K m b} :=
 ⟨_,λa=>λc T=>z5 (k:=6) rfl rfl c U4 λaq A outer s H E d=>(zj (zB (yk (Kl rfl) Bz rfl T.all_b (by rfl) (zp (tz (aG a (za (dv 0) (za (dv 1) zd)))) zA))))⟩
noncomputable def k9:=wL 2 Zi.1
def uj:FnScope ["rows","mirror","row"] ["rows"] (zl uJ):=bE
noncomputable def uW:{F:FS // ∀ {P w K m b} (a:HasFn P w K m b 3 "is_below" 1 qV),bH "first_below" uJ 4 1 3 ["rows"] F P w K m b} :=
 ⟨_,λa=>λc T=>z5 (k:=3) rfl rfl c uj λaq A outer s H E d=>(zc (xT Ep rfl (W1 rfl T.enumerate_b (dv 0)) (wK (n:=2) rfl (zG (yc 1 uj.nd) (zG (yc 2 uj.nd) xu))) (zj (xc (qE (tz (aG a (za (dv 2) zd)))) (zj (zB (dv 1))) zY))) (zj (zB Uq)))⟩
noncomputable def vA:=wL 3 uW.1
def qQ:FnScope ["house","word","signs","rows","mirror"] ["house","word"] (zl Qa):=bE
noncomputable def Q2:{F:FS // ∀ {P w K m b} (a:HasFn P w K m b 4 "first_below" 1 vA) (d:HasFn P w K m b 5 "images" 2 wC) (c:HasFn P w K m b 3 "images_with_behind" 3 zP),bH "least" Qa 6 2 5 ["house","word"] F P w K m b} :=
 ⟨_,λa d c=>λe T=>z5 (k:=5) rfl rfl e qQ λaq A outer s H E f=>(zc (xm 2 qQ.nd (zF zd)) (zc (zN 3 qQ.nd (aG d (za (dv 0) (za (FI rfl rfl T.tuple_b rfl T.reversed_b (dv 1)) zd)))) (zc (zN 4 qQ.nd (aG a (za (dv 3) zd))) (zc (qW 100000 Ep (ZK (dw 4) (tz Uq)) (zc (xU 2 (dv 4)) (zc (zN 3 qQ.nd (aG c (za (dv 0) (za (dv 3) (za (dv 4) zd))))) (zj (zN 4 qQ.nd (aG a (za (dv 3) zd))))))) (zj (zB (w9 yG wD rfl T.tuple_b (by rfl) (zp (eV 2) zA))))))))⟩
noncomputable def YB:=wL 5 Q2.1
def Nc:FnScope ["_law_script","_law_k"] ["_law_script","_law_k"] (zl G6):=bE
noncomputable def Kw:{F:FS // ∀ {P w K m b} ,bH "_law_at" G6 1 2 2 ["_law_script","_law_k"] F P w K m b} :=
 ⟨_,λa T=>z5 (k:=0) rfl rfl a Nc λaq A outer s H E c=>(zc (xc (FC (dw 1) (tz (yk yd yE rfl T.len_b (by rfl) (zp (dw 0) zA)))) (zj (zB (xy (dw 0) (dw 1)))) zY) (zj (zB (zV (tz (qH ax (dw 1))) ax))))⟩
noncomputable def jm:=wL 2 Kw.1
def qR:FnScope ["_law_number","_law_place","_law_turn","_law_part"] ["_law_number","_law_place"] (zl Qc):=bE
noncomputable def Vk:{F:FS // ∀ {P w K m b} ,bH "_law_mix" Qc 1 2 4 ["_law_number","_law_place"] F P w K m b} :=
 ⟨_,λa T=>z5 (k:=0) rfl rfl a qR λaq A outer s H E c=>(zc (xc (FD (dw 0) (tz (zae ax ax))) (zc (zN 0 qR.nd (wX (tz (kr (dw 0) (tz (zae ax ax)))) ax)) (zc (xT Ep rfl (xW rfl T.range_b (zp (tz (uu (dw 1) ax)) zA)) (yc 2 qR.nd) (zj (zN 0 qR.nd (kr (dw 0) ax)))) (zj (zB (uu (dw 0) ax))))) zY) (zc (zN 3 qR.nd (uu (tz (qH (tz (zV (tz (zV (tz (uu (dw 0) ax)) (dw 1))) ax)) (tz (zV (tz (qH (tz (qH ax (dw 1))) (dw 1))) ax)))) ax)) (zc (zN 3 qR.nd (uu (tz (qH (dw 3) (dw 3))) ax)) (zj (zB (uu (tz (qH (dw 3) (tz (zV (dw 3) ax)))) ax))))))⟩
noncomputable def xl:=wL 4 Vk.1
def KJ:FnScope ["_law_turns"] ["_law_turns"] (zl Z4):=bE
noncomputable def YZ:{F:FS // ∀ {P w K m b} ,bH "_law_chain" Z4 1 1 1 ["_law_turns"] F P w K m b} :=
 ⟨_,λa T=>z5 (k:=0) rfl rfl a KJ λaq A outer s H E c=>(zj (zB (En (yV (own:=["_law_k"]) (frees:=["_law_turns"]) (caps:=[0]) rfl (.of (by kernel_rfl)) rfl yb (xW rfl T.range_b (zp (tz (yk yd yE rfl T.len_b (by rfl) (zp (dw 0) zA))) zA)) (λcl C s H fp=>⟨(cy 0),xV,(yF (za (dv 0) (za (zV (dw 0) ax) (za (xy (dw 1) (dw 0)) zd))))⟩)))))⟩
noncomputable def zt:=wL 1 YZ.1
noncomputable def jc:FS:=(wG (UW 2 (ym (zb (tupF (zb (cF (.str "a")) (zb (zW zt (zb (zk (Zq (zk (ym (zb (cF (.int 3)) zq))) (ze vp (vF 0) (cF (.int 1))))) zq)) zq))) zq))) (wG (cg (aU (ze eU (vF 0) (cF (.int 1)))) (xE 2 (tupF (zb (cF (.str "b")) (zb (zW zt (zb (ze xn (zk (Zq (zk (ym (zb (cF (.int 3)) zq))) (ze vp (vF 0) (cF (.int 2))))) (zk (ym (zb (cF (.int 4)) zq)))) zq)) zq)))) cS) (wG (cg (aU (ze eU (vF 0) (cF (.int 3)))) (xE 2 (tupF (zb (cF (.str "d")) (zb (ze xn (zW zt (zb (zk (Zq (zk (ym (zb (cF (.int 3)) zq))) (ze vp (vF 0) (cF (.int 2))))) zq)) (zk (ym (zb (tupF (zb (ze vp (vF 0) (cF (.int 3))) (zb (ze vp (vF 0) (cF (.int 1))) (zb (cF (.int 3)) zq)))) zq)))) zq)))) cS) (wG (zbi (jM 2 (yp (zL 3) (yp (zL 4) kG))) (ze aE (vR 2) (ze Zr (vF 1) (zW uo (zb (vR 2) zq))))) (wG (vX 3 (ze xn (vF 3) (zW RE (zb (vF 0) zq)))) (wG (UW 5 (ym (zb (zk (ym zq)) (zb (zk (ym zq)) (zb (zk (ym zq)) (zb (zk (ym (zb (tupF (zb (cF (.str "h3")) (zb (zW zt (zb (zk (ym (zb (cF (.int 3)) (zb (cF (.int 5)) zq)))) zq)) zq))) zq))) (zb (zk (ym (zb (tupF (zb (cF (.str "h4")) (zb (zW zt (zb (zk (ym (zb (cF (.int 3)) (zb (cF (.int 3)) (zb (cF (.int 5)) zq))))) zq)) zq))) (zb (tupF (zb (cF (.str "f4")) (zb (zW zt (zb (zk (ym (zb (cF (.int 3)) (zb (cF (.int 4)) (zb (cF (.int 3)) zq))))) zq)) zq))) zq)))) zq))))))) (wG (UW 5 (sE (vR 5) (zk (ym (zb (zk (ym zq)) (zb (zk (ym (zb (tupF (zb (cF (.str "e6")) (zb (ze xn (zW zt (zb (zk (ym (zb (cF (.int 3)) (zb (cF (.int 3)) (zb (cF (.int 3)) (zb (cF (.int 3)) zq)))))) zq)) (zk (ym (zb (tupF (zb (cF (.int 2)) (zb (cF (.int 5)) (zb (cF (.int 3)) zq)))) zq)))) zq))) zq))) zq)))))) (wG (jU 5 (cF (.int 2)) (zk (ym (zb (tupF (zb (cF (.str "i5")) (zb (zW zt (zb (zk (ym (zb (cF (.int 5)) zq))) zq)) zq))) (zb (tupF (zb (cF (.str "i6")) (zb (zW zt (zb (zk (ym (zb (cF (.int 6)) zq))) zq)) zq))) zq))))) (wG (cg (UY (aU (ze b9 (ze Zr (ze qe (vF 1) (cF (.int 8))) (cF (.int 2))) (cF (.int 0)))) (aU (ze eU (zW uo (zb (ze aE (vR 5) (vF 0)) zq)) (cF (.int 0))))) (j6 (ze aE (ze aE (vR 5) (vF 0)) (ze Zr (ze qe (vF 1) (cF (.int 16))) (zW uo (zb (ze aE (vR 5) (vF 0)) zq))))) cS) (j6 (tupF (zb (vF 3) (zb (vF 4) zq)))))))))))))
noncomputable def vH:List D->Option D:=wL 6 jc
def x9:FnScope ["_law_many","_law_number","_law_some","_law_kind","_law_turns","_law_rare"] ["_law_many","_law_number"] (zl zM):=bE
@[irreducible] def bf (k:Nat):Stmt:=(xM zM).getD k (.Pass ⟨0,0,0,0⟩)
def Xj (k:Nat):bf k=(xM zM).getD k (.Pass ⟨0,0,0,0⟩):=by unfold bf; rfl
def W7:xM zM=[bf 0,bf 1,bf 2,bf 3,bf 4,bf 5,bf 6,bf 7,bf 8,bf 9]:=by kernel_rfl
def Wc {P:Ex} {w:ER} {K:Eh} {mg:Str->Option Value} {base:Heap} {f:Addr} (T:Txt w K mg) (a:HasFn P w K mg base 1 "_law_chain" 1 zt) (aq:Value) (A:Around) (outer:List Env) (s:Shared) (H:Hp) (E:XK) (b:Room 1 (A.deeper (envOfC "_law_finite" (zl zM) s.heap.objs.size f aq))) :
  DS (Zb eY P w K mg base ["_law_many","_law_number","_law_some","_law_kind","_law_turns","_law_rare"] "_law_finite" (zl zM) f aq A outer s H E).nox (bf 0) (UW 2 (ym (zb (tupF (zb (cF (.str "a")) (zb (zW zt (zb (zk (Zq (zk (ym (zb (cF (.int 3)) zq))) (ze vp (vF 0) (cF (.int 1))))) zq)) zq))) zq))):=by
 rw [Xj 0]
 exact (xm 2 x9.nd (zF (za (yF (za jg (za (aG a (za (En (wF (tz (En (zF (za zZ zd)))) (tz (wX (dw 0) ax)))) zd)) zd))) zd)))
def Wb {P:Ex} {w:ER} {K:Eh} {mg:Str->Option Value} {base:Heap} {f:Addr} (T:Txt w K mg) (a:HasFn P w K mg base 1 "_law_chain" 1 zt) (aq:Value) (A:Around) (outer:List Env) (s:Shared) (H:Hp) (E:XK) (b:Room 1 (A.deeper (envOfC "_law_finite" (zl zM) s.heap.objs.size f aq))) :
  DS (Zb eY P w K mg base ["_law_many","_law_number","_law_some","_law_kind","_law_turns","_law_rare"] "_law_finite" (zl zM) f aq A outer s H E).nox (bf 1) (cg (aU (ze eU (vF 0) (cF (.int 1)))) (xE 2 (tupF (zb (cF (.str "b")) (zb (zW zt (zb (ze xn (zk (Zq (zk (ym (zb (cF (.int 3)) zq))) (ze vp (vF 0) (cF (.int 2))))) (zk (ym (zb (cF (.int 4)) zq)))) zq)) zq)))) cS):=by
 rw [Xj 1]
 exact (xc (Za (dw 0) ax) (zj (xU 2 (yF (za jg (za (aG a (za (zV (tz (En (wF (tz (En (zF (za zZ zd)))) (tz (wX (dw 0) ax))))) (tz (En (zF (za zZ zd))))) zd)) zd))))) zY)
def Wa {P:Ex} {w:ER} {K:Eh} {mg:Str->Option Value} {base:Heap} {f:Addr} (T:Txt w K mg) (a:HasFn P w K mg base 1 "_law_chain" 1 zt) (aq:Value) (A:Around) (outer:List Env) (s:Shared) (H:Hp) (E:XK) (b:Room 1 (A.deeper (envOfC "_law_finite" (zl zM) s.heap.objs.size f aq))) :
  DS (Zb eY P w K mg base ["_law_many","_law_number","_law_some","_law_kind","_law_turns","_law_rare"] "_law_finite" (zl zM) f aq A outer s H E).nox (bf 2) (cg (aU (ze eU (vF 0) (cF (.int 3)))) (xE 2 (tupF (zb (cF (.str "d")) (zb (ze xn (zW zt (zb (zk (Zq (zk (ym (zb (cF (.int 3)) zq))) (ze vp (vF 0) (cF (.int 2))))) zq)) (zk (ym (zb (tupF (zb (ze vp (vF 0) (cF (.int 3))) (zb (ze vp (vF 0) (cF (.int 1))) (zb (cF (.int 3)) zq)))) zq)))) zq)))) cS):=by
 rw [Xj 2]
 exact (xc (Za (dw 0) ax) (zj (xU 2 (yF (za jg (za (zV (tz (aG a (za (En (wF (tz (En (zF (za zZ zd)))) (tz (wX (dw 0) ax)))) zd))) (tz (En (zF (za (yF (za (wX (dw 0) ax) (za (wX (dw 0) ax) (za zZ zd)))) zd))))) zd))))) zY)
def X9 {P:Ex} {w:ER} {K:Eh} {mg:Str->Option Value} {base:Heap} {f:Addr} (T:Txt w K mg) (b:HasFn P w K mg base 1 "_law_chain" 1 zt) (aq:Value) (A:Around) (outer:List Env) (s:Shared) (H:Hp) (E:XK) (a:Room 1 (A.deeper (envOfC "_law_finite" (zl zM) s.heap.objs.size f aq))) :
  DS (Zb eY P w K mg base ["_law_many","_law_number","_law_some","_law_kind","_law_turns","_law_rare"] "_law_finite" (zl zM) f aq A outer s H E).nox (bf 3) (zbi (jM 2 (yp (zL 3) (yp (zL 4) kG))) (ze aE (vR 2) (ze Zr (vF 1) (zW uo (zb (vR 2) zq))))):=by
 rw [Xj 3]
 exact (BM (wK (n:=2) rfl (zG (yc 3 x9.nd) (zG (yc 4 x9.nd) xu))) (xy (eV 2) (tz (uu (dw 1) (tz (yk yd yE rfl T.len_b (by rfl) (zp (eV 2) zA)))))))
def X8 {P:Ex} {w:ER} {K:Eh} {mg:Str->Option Value} {base:Heap} {f:Addr} (T:Txt w K mg) (b:HasFn P w K mg base 1 "_law_chain" 1 zt) (aq:Value) (A:Around) (outer:List Env) (s:Shared) (H:Hp) (E:XK) (a:Room 1 (A.deeper (envOfC "_law_finite" (zl zM) s.heap.objs.size f aq))) :
  DS (Zb eY P w K mg base ["_law_many","_law_number","_law_some","_law_kind","_law_turns","_law_rare"] "_law_finite" (zl zM) f aq A outer s H E).nox (bf 4) (vX 3 (ze xn (vF 3) (zW RE (zb (vF 0) zq)))):=by
 rw [Xj 4]
 exact (zN 3 x9.nd (zV (dw 3) (tz (w9 Ux PZ rfl T.str_b (by rfl) (zp (dw 0) zA)))))
def X7 {P:Ex} {w:ER} {K:Eh} {mg:Str->Option Value} {base:Heap} {f:Addr} (T:Txt w K mg) (e:HasFn P w K mg base 1 "_law_chain" 1 zt) (aq:Value) (A:Around) (outer:List Env) (s:Shared) (H:Hp) (E:XK) (o:Room 1 (A.deeper (envOfC "_law_finite" (zl zM) s.heap.objs.size f aq))) :
  DS (Zb eY P w K mg base ["_law_many","_law_number","_law_some","_law_kind","_law_turns","_law_rare"] "_law_finite" (zl zM) f aq A outer s H E).nox (bf 5) (UW 5 (ym (zb (zk (ym zq)) (zb (zk (ym zq)) (zb (zk (ym zq)) (zb (zk (ym (zb (tupF (zb (cF (.str "h3")) (zb (zW zt (zb (zk (ym (zb (cF (.int 3)) (zb (cF (.int 5)) zq)))) zq)) zq))) zq))) (zb (zk (ym (zb (tupF (zb (cF (.str "h4")) (zb (zW zt (zb (zk (ym (zb (cF (.int 3)) (zb (cF (.int 3)) (zb (cF (.int 5)) zq))))) zq)) zq))) (zb (tupF (zb (cF (.str "f4")) (zb (zW zt (zb (zk (ym (zb (cF (.int 3)) (zb (cF (.int 4)) (zb (cF (.int 3)) zq))))) zq)) zq))) zq)))) zq))))))):=by
 rw [Xj 5]
 exact (by refine xm 5 ?l ?he ?hi ?j ?k ?hf; (case l=>exact x9.nd); (case hi=>rfl); (case j=>first | exact Im rfl | exact E2 rfl); (case hf=>first | exact .inl rfl | exact .inr rfl); (case k=>rfl); (case he=>exact (by refine zF ?c; (case c=>refine za ?d ?b; (case d=>exact (En (zF zd))); (case b=>refine za ?e1 ?a; (case e1=>exact (En (zF zd))); (case a=>refine za ?e2 ?i; (case e2=>exact (En (zF zd))); (case i=>refine za ?n ?h; (case n=>exact (En (zF (za (yF (za jg (za (aG e (za (En (zF (za zZ (za zZ zd)))) zd)) zd))) zd)))); (case h=>refine za ?m ?g; (case m=>exact (En (by refine zF ?c; (case c=>refine za ?d ?b; (case d=>exact (yF (za jg (za (aG e (za (En (zF (za zZ (za zZ (za zZ zd))))) zd)) zd)))); (case b=>refine za ?e1 ?a; (case e1=>exact (yF (za jg (za (aG e (za (En (zF (za zZ (za zZ (za zZ zd))))) zd)) zd)))); (case a=>exact zd)))))); (case g=>exact zd)))))))))
def X6 {P:Ex} {w:ER} {K:Eh} {mg:Str->Option Value} {base:Heap} {f:Addr} (T:Txt w K mg) (m:HasFn P w K mg base 1 "_law_chain" 1 zt) (aq:Value) (A:Around) (outer:List Env) (s:Shared) (H:Hp) (E:XK) (n:Room 1 (A.deeper (envOfC "_law_finite" (zl zM) s.heap.objs.size f aq))) :
  DS (Zb eY P w K mg base ["_law_many","_law_number","_law_some","_law_kind","_law_turns","_law_rare"] "_law_finite" (zl zM) f aq A outer s H E).nox (bf 6) (UW 5 (sE (vR 5) (zk (ym (zb (zk (ym zq)) (zb (zk (ym (zb (tupF (zb (cF (.str "e6")) (zb (ze xn (zW zt (zb (zk (ym (zb (cF (.int 3)) (zb (cF (.int 3)) (zb (cF (.int 3)) (zb (cF (.int 3)) zq)))))) zq)) (zk (ym (zb (tupF (zb (cF (.int 2)) (zb (cF (.int 5)) (zb (cF (.int 3)) zq)))) zq)))) zq))) zq))) zq)))))):=by
 rw [Xj 6]
 exact (by refine xm 5 ?k ?he ?hi ?i ?j ?hf; (case k=>exact x9.nd); (case hi=>rfl); (case i=>first | exact Im rfl | exact E2 rfl); (case hf=>first | exact .inl rfl | exact .inr rfl); (case j=>rfl); (case he=>refine Rf ?a ?b; (case a=>exact (eV 5)); (case b=>refine tz ?c; (case c=>refine En ?d; (case d=>exact (by refine zF ?h; (case h=>refine za ?l ?g; (case l=>exact (En (zF zd))); (case g=>refine za ?e1 ?e; (case e1=>exact (En (zF (za (yF (za jg (za (zV (tz (aG m (za (En (zF (za zZ (za zZ (za zZ (za zZ zd)))))) zd))) (tz (En (zF (za (yF (za zZ (za zZ (za zZ zd)))) zd))))) zd))) zd)))); (case e=>exact zd)))))))))
def X5 {P:Ex} {w:ER} {K:Eh} {mg:Str->Option Value} {base:Heap} {f:Addr} (T:Txt w K mg) (a:HasFn P w K mg base 1 "_law_chain" 1 zt) (aq:Value) (A:Around) (outer:List Env) (s:Shared) (H:Hp) (E:XK) (g:Room 1 (A.deeper (envOfC "_law_finite" (zl zM) s.heap.objs.size f aq))) :
  DS (Zb eY P w K mg base ["_law_many","_law_number","_law_some","_law_kind","_law_turns","_law_rare"] "_law_finite" (zl zM) f aq A outer s H E).nox (bf 7) (jU 5 (cF (.int 2)) (zk (ym (zb (tupF (zb (cF (.str "i5")) (zb (zW zt (zb (zk (ym (zb (cF (.int 5)) zq))) zq)) zq))) (zb (tupF (zb (cF (.str "i6")) (zb (zW zt (zb (zk (ym (zb (cF (.int 6)) zq))) zq)) zq))) zq))))):=by
 rw [Xj 7]
 exact (W0 5 (En (by refine zF ?d; (case d=>refine za ?e ?c; (case e=>exact (yF (za jg (za (aG a (za (En (zF (za zZ zd))) zd)) zd)))); (case c=>refine za ?e1 ?b; (case e1=>exact (yF (za jg (za (aG a (za (En (zF (za zZ zd))) zd)) zd)))); (case b=>exact zd))))) zZ)
def X4 {P:Ex} {w:ER} {K:Eh} {mg:Str->Option Value} {base:Heap} {f:Addr} (T:Txt w K mg) (b:HasFn P w K mg base 1 "_law_chain" 1 zt) (aq:Value) (A:Around) (outer:List Env) (s:Shared) (H:Hp) (E:XK) (a:Room 1 (A.deeper (envOfC "_law_finite" (zl zM) s.heap.objs.size f aq))) :
  DS (Zb eY P w K mg base ["_law_many","_law_number","_law_some","_law_kind","_law_turns","_law_rare"] "_law_finite" (zl zM) f aq A outer s H E).nox (bf 8) (cg (UY (aU (ze b9 (ze Zr (ze qe (vF 1) (cF (.int 8))) (cF (.int 2))) (cF (.int 0)))) (aU (ze eU (zW uo (zb (ze aE (vR 5) (vF 0)) zq)) (cF (.int 0))))) (j6 (ze aE (ze aE (vR 5) (vF 0)) (ze Zr (ze qe (vF 1) (cF (.int 16))) (zW uo (zb (ze aE (vR 5) (vF 0)) zq))))) cS):=by
 rw [Xj 8]
 exact (xc (Lj (ko (qF a (tz (uu (tz (kr (dw 1) ax)) ax)) ax) (uR (Za (tz (yk yd yE rfl T.len_b (by rfl) (zp (tz (xy (eV 5) (dw 0))) zA))) ax)))) (zj (zB (xy (tz (xy (eV 5) (dw 0))) (tz (uu (tz (kr (dw 1) ax)) (tz (yk yd yE rfl T.len_b (by rfl) (zp (tz (xy (eV 5) (dw 0))) zA)))))))) zY)
def X3 {P:Ex} {w:ER} {K:Eh} {mg:Str->Option Value} {base:Heap} {f:Addr} (T:Txt w K mg) (b:HasFn P w K mg base 1 "_law_chain" 1 zt) (aq:Value) (A:Around) (outer:List Env) (s:Shared) (H:Hp) (E:XK) (a:Room 1 (A.deeper (envOfC "_law_finite" (zl zM) s.heap.objs.size f aq))) :
  DS (Zb eY P w K mg base ["_law_many","_law_number","_law_some","_law_kind","_law_turns","_law_rare"] "_law_finite" (zl zM) f aq A outer s H E).nox (bf 9) (j6 (tupF (zb (vF 3) (zb (vF 4) zq)))):=by
 rw [Xj 9]
 exact (zB (yF (za (dv 3) (za (dv 4) zd))))
section
variable {P:Ex} {w:ER} {K:Eh} {mg:Str->Option Value} {base:Heap} {f:Addr} {fd:Iy}
def Qo (c:Fun K "_law_finite" "_law_finite" zM f fd) (T:Txt w K mg) (b:HasFn P w K mg base 1 "_law_chain" 1 zt) :
  FnOk P w K mg base eY 2 f fd ["_law_many","_law_number"] (spF K 2 vH) :=
 z5 (k:=1) (m:=6) (F:=jc) rfl rfl c x9 λaq A outer s H E a=>(by rw [W7]; exact (zc (Wc T b aq A outer s H E a) (zc (Wb T b aq A outer s H E a) (zc (Wa T b aq A outer s H E a) (zc (X9 T b aq A outer s H E a) (zc (X8 T b aq A outer s H E a) (zc (X7 T b aq A outer s H E a) (zc (X6 T b aq A outer s H E a) (zc (X5 T b aq A outer s H E a) (zc (X4 T b aq A outer s H E a) (zj (X3 T b aq A outer s H E a))))))))))))
def uw:FnScope ["_law_many","_law_number","_law_some","_law_more"] ["_law_many","_law_number"] (zl Z2):=bE
noncomputable def kE:{F:FS // ∀ {P w K m b} (a:HasFn P w K m b 1 "_law_chain" 1 zt),bH "_law_never" Z2 2 2 4 ["_law_many","_law_number"] F P w K m b} :=
 ⟨_,λa=>λd T=>z5 (k:=1) rfl rfl d uw λaq A outer s H E c=>(zc (zN 2 uw.nd (En (zF (za (aG a (za (zV (tz (En (wF (tz (En (zF (za zZ zd)))) (tz (wX (dw 0) ax))))) (tz (En (zF (za zZ zd))))) zd)) (za (aG a (za (zV (tz (zV (tz (En (zF (za zZ zd)))) (tz (En (wF (tz (En (zF (za zZ zd)))) (tz (wX (dw 0) ax))))))) (tz (En (zF (za zZ zd))))) zd)) zd))))) (zc (zN 2 uw.nd (zV (dw 2) (tz (En (zF (za (aG a (za (zV (tz (zV (tz (En (zF (za zZ zd)))) (tz (En (wF (tz (En (zF (za zZ zd)))) (tz (wX (dw 0) ax))))))) (tz (En (zF (za zZ zd))))) zd)) (za (aG a (za (zV (tz (En (wF (tz (En (zF (za zZ zd)))) (tz (wX (dw 0) ax))))) (tz (En (zF (za zZ zd))))) zd)) zd))))))) (zc (zN 2 uw.nd (zV (dw 2) (tz (En (zF (za (zV (tz (aG a (za (En (wF (tz (En (zF (za zZ zd)))) (tz (wX (dw 0) ax)))) zd))) (tz (En (zF (za (yF (za zZ (za (wX (dw 0) ax) (za zZ zd)))) zd))))) (za (aG a (za (zV (tz (En (wF (tz (En (zF (za zZ zd)))) (tz (wX (dw 0) ax))))) (tz (En (zF (za zZ zd))))) zd)) zd))))))) (zc (xc (qF c (dw 0) ax) (zj (zB (yF (za jg (za (aG a (za (En (zF (za zZ zd))) zd)) zd))))) zY) (zc (xc (qF c (dw 0) ax) (zj (zB (yF (za jg (za (xy (tz (zV (tz (qG (dw 2) BO (YH ax))) (tz (En (zF (za (aG a (za (En (zF (za zZ (za zZ zd)))) zd)) zd)))))) (tz (uu (dw 1) ax))) zd))))) zY) (zc (xm 3 uw.nd (zF (za (zV (tz (aG a (za (En (wF (tz (En (zF (za zZ zd)))) (tz (wX (dw 0) ax)))) zd))) (tz (En (zF (za (yF (za (wX (dw 0) ax) (za (wX (dw 0) ax) (za zZ zd)))) zd))))) (za (aG a (za (zV (tz (En (zF (za zZ (za zZ zd))))) (tz (En (wF (tz (En (zF (za zZ zd)))) (tz (wX (dw 0) ax)))))) zd)) zd)))) (zc (xU 3 (zV (tz (En (yV (own:=["_law_k"]) (frees:=[]) (caps:=[]) rfl (.of (by kernel_rfl)) rfl yb (Up rfl T.range_b (zp ax (zp (dw 0) zA))) (λcl C s H fp=>⟨(cy 0),xV,(yF (za zZ (za (dv 0) (za zZ zd))))⟩)))) (tz (En (zF (za (yF (za zZ (za zZ (za zZ zd)))) zd)))))) (zc (xc (Za (dw 0) ax) (zj (zB (yF (za jg (za (xy (tz (zV (tz (zV (dw 2) (eV 3))) (tz (En (zF (za (En (yV (own:=["_law_k"]) (frees:=[]) (caps:=[]) rfl (.of (by kernel_rfl)) rfl yb (Up rfl T.range_b (zp ax (zp (dw 0) zA))) (λcl C s H fp=>⟨(cy 0),xV,(yF (za zZ (za (dv 0) (za zZ zd))))⟩))) zd)))))) (tz (uu (dw 1) ax))) zd))))) zY) (zj (zB (yF (za jg (za (xy (tz (zV (tz (qG (dw 2) BO (YH ax))) (eV 3))) (tz (uu (dw 1) ax))) zd)))))))))))))⟩
noncomputable def qD:=wL 4 kE.1
def yW:FnScope ["_law_script","_law_number","_law_mirrors","_law_turns","_law_due","_law_begin","_law_drawn","_law_many","_law_made"] ["_law_script"] (zl Z5):=bE
noncomputable def Y0:{F:FS // ∀ {P w K m b} (a:HasFn P w K m b 1 "_law_at" 2 jm) (g:HasFn P w K m b 2 "_law_finite" 2 vH) (c:HasFn P w K m b 1 "_law_mix" 2 xl) (e:HasFn P w K m b 2 "_law_never" 2 qD),bH "_law_built" Z5 3 1 9 ["_law_script"] F P w K m b} :=
 ⟨_,λa g c e=>λh T=>z5 (k:=2) rfl rfl h yW λaq A outer s H E d=>(zc (zN 1 yW.nd (aG c (za (aG a (za (dv 0) (za zZ zd))) (za zZ zd)))) (zc (zN 2 yW.nd (zV ax (tz (uu (dw 1) ax)))) (zc (xm 3 yW.nd (zF zd)) (zc (xm 4 yW.nd (zF zd)) (zc (zN 5 yW.nd zZ) (zc (qW 100000 Ep (FC (dw 5) (dw 2)) (zc (zN 6 yW.nd (aG c (za (aG a (za (dv 0) (za (zV ax (dw 5)) zd))) (za zZ zd)))) (zc (zN 7 yW.nd (zV ax (tz (uu (dw 6) (tz (wX (dw 2) (dw 5))))))) (zc (xc (qF d (tz (uu (tz (kr (dw 6) ax)) ax)) ax) (zj (zN 7 yW.nd (wX (dw 2) (dw 5)))) zY) (zc (zN 8 yW.nd (aG g (za (dv 7) (za (kr (dw 6) ax) zd)))) (zc (xc (Lj (ko (Za (dw 7) ax) (uR (qF d (tz (uu (tz (kr (dw 6) ax)) ax)) ax)))) (zj (zN 8 yW.nd (aG e (za (dv 7) (za (kr (dw 6) ax) zd))))) zY) (zc (uF 3 (En (yV (own:=["_law_i","_law_j","_law_often"]) (frees:=["_law_begin"]) (caps:=[5]) rfl (.of (by kernel_rfl)) rfl (Zs (yQ yb (yQ yb (yQ yb qy)))) (y4 (xy (dw 8) ax)) (λcl C s H fp=>⟨(wK (n:=3) rfl (zG (cy 0) (zG (cy 1) (zG (cy 2) xu)))),xV,(yF (za (zV (dw 3) (dw 0)) (za (zV (dw 3) (dw 1)) (za (dv 2) zd))))⟩)))) (zc (xU 4 (yF (za (En (Um rfl rfl T.list_b rfl T.range_b (zp (dw 5) (zp (tz (zV (dw 5) (dw 7))) zA)))) (za (xy (dw 8) ax) zd)))) (zj (zN 5 yW.nd (zV (dw 5) (dw 7)))))))))))) (vV 4 (vV 3 (zj (zB (yF (za (dv 2) (za (dv 3) (za (dv 4) zd))))))))))))))⟩
noncomputable def YC:=wL 9 Y0.1
def yn:FnScope ["_law_script","_law_mirrors","_law_turns","_law_due","_law_order","_law_cell","_law_drawn","_law_i","_law_j","_law_kept","_law_pairs","_law_often","_law_found","_law_mirrors_told","_law_kind"] ["_law_script"] (zl Z3):=bE
noncomputable def kF:{F:FS // ∀ {P w K m b} (a:HasFn P w K m b 3 "_law_built" 1 YC) (c:HasFn P w K m b 1 "_law_mix" 2 xl),bH "_law_mixed" Z3 4 1 15 ["_law_script"] F P w K m b} :=
 ⟨_,λa c=>λe T=>z5 (k:=3) rfl rfl e yn λaq A outer s H E d=>(zc (BM (wK (n:=3) rfl (zG (yc 1 yn.nd) (zG (yc 2 yn.nd) (zG (yc 3 yn.nd) xu)))) (aG a (za (dv 0) zd))) (zc (xm 4 yn.nd (Uo rfl rfl T.list_b rfl T.range_b (zp (dw 1) zA))) (zc (xT Ep rfl (y4 (qG (dw 0) (YH ax) (YH ax))) (yc 5 yn.nd) (zc (zN 6 yn.nd (aG c (za (dv 5) (za zZ zd)))) (zc (zN 7 yn.nd (uu (dw 6) (dw 1))) (zc (zN 8 yn.nd (uu (tz (kr (dw 6) ax)) (dw 1))) (zc (zN 9 yn.nd (xy (eV 4) (dw 7))) (zc (W0 4 (xy (eV 4) (dw 8)) (dv 7)) (zj (W0 4 (dv 9) (dv 8))))))))) (zc (xm 10 yn.nd (zF zd)) (zc (xT Ep rfl (y4 (dv 2)) (wK (n:=3) rfl (zG (yc 7 yn.nd) (zG (yc 8 yn.nd) (zG (yc 11 yn.nd) xu)))) (zj (xU 10 (yF (za (yk (Uz rfl) By rfl T.min_b (by rfl) (zp (tz (xy (eV 4) (dw 7))) (zp (tz (xy (eV 4) (dw 8))) zA))) (za (yk (YL rfl) QH rfl T.max_b (by rfl) (zp (tz (xy (eV 4) (dw 7))) (zp (tz (xy (eV 4) (dw 8))) zA))) (za (dv 11) zd))))))) (zc (xm 12 yn.nd (zF zd)) (zc (xT Ep rfl (y4 (dv 3)) (wK (n:=2) rfl (zG (yc 13 yn.nd) (zG (yc 14 yn.nd) xu))) (vV 4 (zj (xU 12 (yF (za (En (YI rfl T.sorted_b (zp (tz (En (yV (own:=["_law_i"]) (frees:=["_law_order"]) (caps:=[4]) rfl (.of (by kernel_rfl)) rfl yb (y4 (dv 13)) (λcl C s H fp=>⟨(cy 0),xV,(xy (dw 1) (dw 0))⟩)))) zA))) (za (dv 14) zd))))))) (vV 10 (zj (zB (yF (za (yF (za (dv 1) (za (dv 10) zd))) (za (En (Gb d rfl T.sorted_b (zp (eV 12) zA))) zd)))))))))))))⟩
noncomputable def kj:=wL 15 kF.1
def zay (K:Eh) (mg:Str->Option Value):Prop:=∃ a:Addr,ExT K mg "TooMany" a/\Catches K a a
noncomputable def wU:List D->Option D:=λds=>match qA ds with | some (.v _)=>some (.bl false) | some (.ex n)=>(if n="TooMany" then some (.bl true) else none) | none=>none
def qk:FnScope ["_law_house","_law_most","_law_refused_here"] ["_law_house","_law_most"] (zl js):=⟨rfl,rfl,rfl,by decide +kernel,rfl,by decide +kernel,by decide +kernel⟩
def VU (U:Fun K "_law_refused" "_law_refused" js f fd) (T:Txt w K mg) (X:zay K mg) (h:HasFnX P w K mg base 12 "places" 2 qA) :
  FnOk P w K mg base eY (12+1) f fd ["_law_house","_law_most"] (spF K 2 wU):=by
 obtain ⟨f1,M,z,W,F,k1,S⟩:=h.ex
 obtain ⟨t,p,R⟩:=X
 refine U.ok (k:=12) qk (λvs H Q E h=>?_) (λaq A outer s H vs Q E J h=>?_)
 .obtain ⟨Hf,ds,d,_,h1,h2,_⟩:=h
  rw [h1.length]; exact h2
 obtain ⟨Hf,ds,d,sf,l,j,hg,q⟩:=h
 refine ⟨_,ZG (VJ (i:=2) qk.nd (by rfl) (.inl rfl) NQ) (ZG (NB (Dk W J (by rfl) F k1 S (λE=>xi (pv 0) (xi (pv 1) vw))) ⟨(by rfl),(by rfl)⟩ (by rfl) p.at_ (λa=>Wu (VJ (i:=2) qk.nd (by rfl) (.inl rfl) NQ)))
  (Wu (Mi (pv 2)))),?_⟩
 obtain ⟨o,m,rfl⟩:∃ o m,ds=[o,m]:=by
  match ds,j with
  | [a,b],_=>exact ⟨a,b,rfl⟩
 obtain ⟨x,Y,rfl,I,u,y,rfl,G,g⟩:=id l
 obtain rfl:y=[]:=g
 unfold wU at hg
 refine ⟨x,rfl,u,rfl,?_⟩
 unfold zdl
 cases e:qA [o,m] with
 | none=>rw [e] at hg; cases hg
 | some r =>
  rw [e] at hg
  cases r with
  | v d' =>
   cases hg
   refine zbx (mg:=mg) (n:=2) sf l rfl e λv H' ak c Z=>?_
   exact ⟨.bl false,rfl,q (.bl false) H' ak c (Ew.mpr rfl)⟩
  | ex n =>
   have hg:(if n="TooMany" then some (D.bl true) else none)=some d:=hg
   split at hg
   .rename_i j
    subst j
    cases hg
    refine Sa (mg:=mg) (n:=2) sf l rfl e λC H' ak B c=>?_
    have O:=p.at_.symm.trans B
    cases O
    refine ⟨t,rfl,R,λa L=>⟨.bl true,rfl,?_⟩⟩
    have s1:yw H' (upd H' a (exO a t)):=zQ L
    exact q (.bl true) _ ak ⟨c.h.trans s1,c.f,c.fh.trans s1,c.new⟩ (Ew.mpr rfl)
   .cases hg
def ql:FnScope ["_law_told","_law_row","_law_count","_law_k"] ["_law_told","_law_row"] (zl jt):=bE
noncomputable def jL:{F:FS // ∀ {P w K m b} ,bH "_law_ordered" jt 1 2 4 ["_law_told","_law_row"] F P w K m b} :=
 ⟨_,λc T=>z5 (k:=0) rfl rfl c ql λaq A outer s H E a=>(zc (xm 2 ql.nd (wF (tz (En (zF (za zZ zd)))) (tz (yk yd yE rfl T.len_b (by rfl) (zp (dw 1) zA))))) (zc (xT Ep rfl (xW rfl T.range_b (zp (tz (yk yd yE rfl T.len_b (by rfl) (zp (dw 0) zA))) zA)) (yc 3 ql.nd) (zc (xc (FD (tz (yk yd yE rfl T.len_b (by rfl) (zp (tz (xy (dw 0) (dw 3))) zA))) (tz (yk yd yE rfl T.len_b (by rfl) (zp (dw 1) zA)))) (zj (zB B1)) zY) (zc (W0 2 (zV (tz (xy (eV 2) (tz (yk yd yE rfl T.len_b (by rfl) (zp (tz (xy (dw 0) (dw 3))) zA))))) ax) (yk yd yE rfl T.len_b (by rfl) (zp (tz (xy (dw 0) (dw 3))) zA))) (zj (xc (Lj (ko (Za (dw 3) ax) (uR (zaa a (tz (yF (za (yk yd yE rfl T.len_b (by rfl) (zp (tz (xy (dw 0) (tz (wX (dw 3) ax)))) zA)) (za (xy (dw 0) (tz (wX (dw 3) ax))) zd)))) (tz (yF (za (yk yd yE rfl T.len_b (by rfl) (zp (tz (xy (dw 0) (dw 3))) zA)) (za (xy (dw 0) (dw 3)) zd)))))))) (zj (zB B1)) zY))))) (zj (zB (zd8 a (eV 2) (dw 1))))))⟩
noncomputable def jz:=wL 4 jL.1
def Ji:FnScope ["_law_house","_law_told","_law_word","_law_mirror"] ["_law_house","_law_told","_law_word"] (zl Qb):=bE
noncomputable def Q3:{F:FS // ∀ {P w K m b} (d:HasFn P w K m b 7 "is_short" 2 k9) (a:HasFn P w K m b 6 "least" 2 YB),bH "_law_one" Qb 8 3 4 ["_law_house","_law_told","_law_word"] F P w K m b} :=
 ⟨_,λd a=>λe T=>z5 (k:=7) rfl rfl e Ji λaq A outer s H E c=>(zc (xc (Lj (BJ (BK (tz (aG d (za (dv 0) (za (dv 2) zd)))) (tz B1)) (J7 (Uk c (tz (aG a (za (dv 0) (za (dv 2) zd)))) (dw 2))))) (zj (zB B1)) zY) (zc (xT Ep rfl (xW rfl T.range_b (zp (tz (xy (dw 0) ax)) zA)) (yc 3 Ji.nd) (zj (xc (J8 c (tz (aG a (za (dv 0) (za (zV (dw 2) (tz (yF (za (dv 3) zd)))) zd)))) (dw 1)) (zj (zB B1)) zY))) (zj (zB B1))))⟩
noncomputable def WQ:=wL 4 Q3.1
def jW:FnScope ["_law_script","_law_house","_law_most","_law_many","_law_told","_law_seen","_law_word","_law_k"] ["_law_script"] (zl KN):=bE
noncomputable def RD:{F:FS // ∀ {P w K m b} (e:HasFn P w K m b 1 "_law_at" 2 jm) (c:HasFn P w K m b 1 "_law_mix" 2 xl) (l:HasFn P w K m b 4 "_law_mixed" 1 kj) (h:HasFn P w K m b 8 "_law_one" 3 WQ) (n:HasFn P w K m b 1 "_law_ordered" 2 jz) (g:HasFn P w K m b 13 "_law_refused" 2 wU) (i:HasFn P w K m b 10 "counts" 1 WR) (p:HasFn P w K m b 8 "endless" 1 xb) (q:HasFn P w K m b 5 "images" 2 wC) (o:HasFn P w K m b 6 "least" 2 YB) (j:HasFn P w K m b 12 "places" 2 WO) (d:HasFn P w K m b 10 "size" 1 XB),bH "law" KN 14 1 8 ["_law_script"] F P w K m b} :=
 ⟨_,λe c l h n g i p q o j d=>λr T=>z5 (k:=13) rfl rfl r jW λaq A outer s H E a=>(zc (zN 1 jW.nd (xy (tz (aG l (za (dv 0) zd))) ax)) (zc (zN 2 jW.nd (xy (tz (En (zF (za zZ (za zZ (za zZ (za zZ zd))))))) (tz (uu (tz (aG c (za (aG e (za (dv 0) (za zZ zd))) (za zZ zd)))) ax)))) (zc (xc (Lj (BJ (ZK (tz (aG p (za (dv 1) zd))) (tz Uq)) (J7 (Za (tz (aG d (za (dv 1) zd))) (dw 2))))) (zj (zB (aG g (za (dv 1) (za (dv 2) zd))))) zY) (zc (zN 3 jW.nd (aG d (za (dv 1) zd))) (zc (zN 4 jW.nd (aG j (za (dv 1) (za (dv 3) zd)))) (zc (xc (Lj (BJ (Uj (qE (tz (zag MY (dw 4) rfl T.isinstance_b rfl T.list_b)))) (BJ (Uk a (tz (yk yd yE rfl T.len_b (by rfl) (zp (dw 4) zA))) (dw 3)) (J7 (Uj (qE (tz (aG n (za (dv 4) (za (aG i (za (dv 1) zd)) zd)))))))))) (zj (zB B1)) zY) (zc (Ka 5 3 jW.nd) (zc (xT Ep rfl (y4 (dv 4)) (yc 6 jW.nd) (zj (BL 5 a B1 (w9 yG wD rfl T.tuple_b (by rfl) (zp (tz (aG q (za (dv 1) (za (dv 6) zd)))) zA))))) (zc (xc (Lj (BJ (Uk a (tz (zaf 5 rfl T.len_b)) (dw 3)) (J7 (Lj (ko (Za (dw 3) ax) (uR (Uj (qE (tz (aG g (za (dv 1) (za (wX (dw 3) ax) zd)))))))))))) (zj (zB B1)) zY) (zc (xT Ep rfl (xW rfl T.range_b (zp ax zA)) (yc 7 jW.nd) (zj (xc (Uj (qE (tz (aG h (za (dv 1) (za (dv 4) (za (xy (dw 4) (tz (uu (tz (aG c (za (aG e (za (dv 0) (za (dv 7) zd))) (za zZ zd)))) (dw 3)))) zd))))))) (zj (zB B1)) zY))) (zc (zN 6 jW.nd (w9 yG wD rfl T.tuple_b (by rfl) (zp (tz (En (yV (own:=["_law_cell"]) (frees:=["_law_house"]) (caps:=[1]) rfl (.of (by kernel_rfl)) rfl yb (y4 (qG (dw 0) (YH ax) (YH ax))) (λcl C s H fp=>⟨(cy 0),xV,(uu (tz (aG c (za (dv 0) (za zZ zd)))) (tz (xy (dw 1) ax)))⟩)))) zA))) (zj (zB (zc9 a (tz (aG o (za (dv 1) (za (dv 6) zd)))) (dw 4)))))))))))))))⟩
noncomputable def g_law:=wL 8 RD.1
end
theorem all_mk {l:W.OpenLaw} {w:ER} {K:Eh} {h:Heap} {mg:Str->Option Value} {fa:Addr} (X:K.In h) (G:h.Ns Er mg) (hfa:mg "law"=some (.ref fa))
  (d0:Df K "plus" G5)
  (d1:Df K "times" U6)
  (d2:Df K "minus" U9)
  (d3:Df K "whole_sign" qp)
  (d4:Df K "sign" G0)
  (d5:Df K "turn_of" ZZ)
  (d6:Df K "pull" G4)
  (d7:Df K "neighbours" qr)
  (d8:Df K "without" ZY)
  (d9:Df K "part_of" Z0)
  (d10:Df K "parts" U8)
  (d11:Df K "chain_from" qt)
  (d12:Df K "chains" Wq)
  (d13:Df K "turns_along" uI)
  (d14:Df K "kind_of_chain" vN)
  (d15:Df K "kind_with_one_beside" xt)
  (d16:Df K "kinds_by_chains" wO)
  (d17:Df K "all_by_three" um)
  (d18:Df K "kinds_by_ends" vM)
  (d19:Df K "kind_of" Z6)
  (d20:Df K "kinds" Qd)
  (d21:Df K "endless" Z8)
  (d22:Df K "degrees_of_kind" wQ)
  (d23:Df K "degrees" Z9)
  (d24:Df K "size" GZ)
  (d25:Df K "times_ones" qq)
  (d26:Df K "counts" Wp)
  (d27:Df K "simple" Wm)
  (d28:Df K "mirrored" kL)
  (d29:Df K "led" Nn)
  (d30:Df K "images" Wo)
  (d31:Df K "less_by" Z1)
  (d32:Df K "images_with_behind" xI)
  (d33:Df K "is_above" kO)
  (d34:Df K "is_below" kN)
  (d35:Df K "has_more" kP)
  (d36:Df K "longer_places" vL)
  (d37:Df K "places" ZE)
  (d38:Df K "which_lengthen" vi)
  (d39:Df K "is_short" kM)
  (d40:Df K "first_below" uJ)
  (d41:Df K "least" Qa)
  (d42:Df K "_law_at" G6)
  (d43:Df K "_law_mix" Qc)
  (d44:Df K "_law_chain" Z4)
  (d45:Df K "_law_finite" zM)
  (d46:Df K "_law_never" Z2)
  (d47:Df K "_law_built" Z5)
  (d48:Df K "_law_mixed" Z3)
  (d49:Df K "_law_refused" js)
  (d50:Df K "_law_ordered" jt)
  (d51:Df K "_law_one" Qb)
  (d52:Df K "law" KN)
  (b_all:IH K Er "all"=some none)
  (b_enumerate:IH K Er "enumerate"=some none)
  (b_isinstance:IH K Er "isinstance"=some none)
  (b_len:IH K Er "len"=some none)
  (b_list:IH K Er "list"=some none)
  (b_max:IH K Er "max"=some none)
  (b_min:IH K Er "min"=some none)
  (b_range:IH K Er "range"=some none)
  (b_reversed:IH K Er "reversed"=some none)
  (b_sorted:IH K Er "sorted"=some none)
  (b_str:IH K Er "str"=some none)
  (b_sum:IH K Er "sum"=some none)
  (b_tuple:IH K Er "tuple"=some none)
  (b_zip:IH K Er "zip"=some none)
  (q_0c:IH K Er "COMMON_TURN"=some (some (.int 3 t_0c)))
  (q_1c:IH K Er "NOT_TOLD"=some (some (.int 2 t_1c)))
  (q_2c:IH K Er "NOUGHT"=some (some (.ref sN)))
  (r_2c:K.lookup sN=some ⟨.type "tuple",od_2c,.seq #[.int 0 tk_2c_0,.int 0 tk_2c_1] n_2c,osl_2c⟩)
  (q_3c:IH K Er "NO_KIND"=some (some (.str "-" t_3c)))
  (q_4c:IH K Er "ONE"=some (some (.ref sM)))
  (r_4c:K.lookup sM=some ⟨.type "tuple",od_4c,.seq #[.int 1 tk_4c_0,.int 0 tk_4c_1] n_4c,osl_4c⟩)
  (q_5c:IH K Er "PULLS_BELOW_NOUGHT"=some (some (.ref Ea)))
  (r_5c:K.lookup Ea=some ⟨.type "dict",none,.dict #[⟨0,.int 0 kk_5c_0,.ref mT⟩,⟨2,.int 2 kk_5c_1,.ref mS⟩,⟨3,.int 3 kk_5c_2,.ref mR⟩,⟨4,.int 4 kk_5c_3,.ref mQ⟩,⟨5,.int 5 kk_5c_4,.ref mP⟩,⟨6,.int 6 kk_5c_5,.ref mO⟩] ep_5c,#[]⟩)
  (r_5c_0:K.lookup mT=some ⟨.type "tuple",od_5c_0,.seq #[.int 2 rM,.int 0 rL] n_5c_0,t_⟩)
  (r_5c_1:K.lookup mS=some ⟨.type "tuple",od_5c_1,.seq #[.int 0 rK,.int 0 rJ] n_5c_1,tZ⟩)
  (r_5c_2:K.lookup mR=some ⟨.type "tuple",od_5c_2,.seq #[.int 1 rH,.int 0 rG] n_5c_2,tY⟩)
  (r_5c_3:K.lookup mQ=some ⟨.type "tuple",od_5c_3,.seq #[.int 2 rF,.int 0 rE] n_5c_3,tW⟩)
  (r_5c_4:K.lookup mP=some ⟨.type "tuple",od_5c_4,.seq #[.int 0 rD,.int 1 rC] n_5c_4,tV⟩)
  (r_5c_5:K.lookup mO=some ⟨.type "tuple",od_5c_5,.seq #[.int 3 rB,.int 0 rA] n_5c_5,tU⟩)
  (q_6c:IH K Er "RARE_CHAINS"=some (some (.ref og)))
  (r_6c:K.lookup og=some ⟨.type "dict",none,.dict #[⟨nt,.ref mM,.str "f4" vt_6c_0⟩,⟨nq,.ref mL,.str "h3" vt_6c_1⟩,⟨nk,.ref mK,.str "h4" vt_6c_2⟩,⟨nj,.ref mJ,.str "i5" vt_6c_3⟩,⟨ni,.ref mI,.str "i6" vt_6c_4⟩] ep_6c,#[]⟩)
  (r_6c_0:K.lookup mM=some ⟨.type "tuple",od_6c_0,.seq #[.int 3 rq,.int 4 rp,.int 3 rn] n_6c_0,tQ⟩)
  (r_6c_1:K.lookup mL=some ⟨.type "tuple",od_6c_1,.seq #[.int 3 rm,.int 5 rk] n_6c_1,tO⟩)
  (r_6c_2:K.lookup mK=some ⟨.type "tuple",od_6c_2,.seq #[.int 3 rh,.int 3 rf,.int 5 rd] n_6c_2,tM⟩)
  (r_6c_3:K.lookup mJ=some ⟨.type "tuple",od_6c_3,.seq #[.int 5 q_] n_6c_3,tL⟩)
  (r_6c_4:K.lookup mI=some ⟨.type "tuple",od_6c_4,.seq #[.int 6 p_] n_6c_4,tK⟩)
  (kr_y_6c:(og==ID)=false)
  (kr_z_6c_0:K3 [3,4,3]=nt)
  (kr_z_6c_1:K3 [3,5]=nq)
  (kr_z_6c_2:K3 [3,3,5]=nk)
  (kr_z_6c_3:K3 [5]=nj)
  (kr_z_6c_4:K3 [6]=ni)
  (q_7c:IH K Er "RARE_DEGREES"=some (some (.ref n_)))
  (r_7c:K.lookup n_=some ⟨.type "dict",none,.dict #[⟨nh,.str "e6" kk_7c_0,.ref mH⟩,⟨ng,.str "f4" kk_7c_1,.ref mG⟩,⟨nc,.str "h3" kk_7c_2,.ref mF⟩,⟨m_,.str "h4" kk_7c_3,.ref mE⟩,⟨m9,.str "i5" kk_7c_4,.ref mD⟩,⟨m8,.str "i6" kk_7c_5,.ref mB⟩] ep_7c,#[]⟩)
  (r_7c_0:K.lookup mH=some ⟨.type "tuple",od_7c_0,.seq #[.int 2 p9,.int 5 p8,.int 6 p7,.int 8 p6,.int 9 pZ,.int 12 pY] n_7c_0,tH⟩)
  (r_7c_1:K.lookup mG=some ⟨.type "tuple",od_7c_1,.seq #[.int 2 pX,.int 6 pV,.int 8 pU,.int 12 pT] n_7c_1,tE⟩)
  (r_7c_2:K.lookup mF=some ⟨.type "tuple",od_7c_2,.seq #[.int 2 pS,.int 6 pR,.int 10 pQ] n_7c_2,tw⟩)
  (r_7c_3:K.lookup mE=some ⟨.type "tuple",od_7c_3,.seq #[.int 2 pP,.int 12 pO,.int 20 pN,.int 30 pM] n_7c_3,tu⟩)
  (r_7c_4:K.lookup mD=some ⟨.type "tuple",od_7c_4,.seq #[.int 2 pL,.int 5 pK] n_7c_4,tq⟩)
  (r_7c_5:K.lookup mB=some ⟨.type "tuple",od_7c_5,.seq #[.int 2 pJ,.int 6 pI] n_7c_5,tm⟩)
  (kr_y_7c:(n_==ID)=false)
  (kr_z_7c_0:hashStr w "e6"=nh)
  (kr_z_7c_1:hashStr w "f4"=ng)
  (kr_z_7c_2:hashStr w "h3"=nc)
  (kr_z_7c_3:hashStr w "h4"=m_)
  (kr_z_7c_4:hashStr w "i5"=m9)
  (kr_z_7c_5:hashStr w "i6"=m8)
  (enM:IH K Er "TooMany"=some (some (.ref CM)))
  (eokM:PySem.W.excIn K CM zbn "ValueError.__new__"=true)
  (ec1:PySem.W.typeIn K (.ref CM)=some (.type "type"))
  (ec2:PySem.W.hasDictIn K CM=true)
  (ec3:PySem.W.subIn K (.ref CM) (.type "BaseException")=some true)
  (ec4:PySem.W.subIn K (.ref CM) (.ref CM)=some true)
  : ∃ fd:Iy,(∀ (s:Shared) (v:Value),BindsTo s fd ⟨[v],[]⟩ [("_law_script",v)])/\∀ base:Heap,K.In base->base.Ns Er mg->FnOk l.prog w K mg base eY 14 fa fd ["_law_script"] (spF K 1 g_law):=by
 obtain ⟨f52,oc52,od52,an52,osl52,kV52,D_,pm52,Ec,ct52,a52,l52,c52,k52⟩:=d52
 have F52:=Bx l52 c52 k52
 have e:=hfa.symm.trans (Lz X G a52)
 cases e
 have T:Txt w K mg:=⟨trivial,E1 X G b_all,E1 X G b_enumerate,E1 X G b_isinstance,E1 X G b_len,E1 X G b_list,E1 X G b_max,E1 X G b_min,E1 X G b_range,E1 X G b_reversed,E1 X G b_sorted,E1 X G b_str,E1 X G b_sum,E1 X G b_tuple,E1 X G b_zip,⟨_,Lz X G q_0c⟩,⟨_,Lz X G q_1c⟩,Bp (xs:=[.int 0,.int 0]) (Lz X G q_2c) r_2c (show 2<=sizeLine from by decide) (.cons ⟨_,rfl⟩ (.cons ⟨_,rfl⟩ .nil)) (.cons (AC.mpr rfl) (.cons (AC.mpr rfl) .nil)),⟨_,Lz X G q_3c⟩,Bp (xs:=[.int 1,.int 0]) (Lz X G q_4c) r_4c (show 2<=sizeLine from by decide) (.cons ⟨_,rfl⟩ (.cons ⟨_,rfl⟩ .nil)) (.cons (AC.mpr rfl) (.cons (AC.mpr rfl) .nil)),Fv (Lz X G q_5c) r_5c (.cons (v:=.ref _) (by rfl) rfl (x8 (xs:=[.int 2,.int 0]) r_5c_0 (show 2<=sizeLine from by decide) (.cons ⟨_,rfl⟩ (.cons ⟨_,rfl⟩ .nil)) (.cons (AC.mpr rfl) (.cons (AC.mpr rfl) .nil))) (.cons (v:=.ref _) (by rfl) rfl (x8 (xs:=[.int 0,.int 0]) r_5c_1 (show 2<=sizeLine from by decide) (.cons ⟨_,rfl⟩ (.cons ⟨_,rfl⟩ .nil)) (.cons (AC.mpr rfl) (.cons (AC.mpr rfl) .nil))) (.cons (v:=.ref _) (by rfl) rfl (x8 (xs:=[.int 1,.int 0]) r_5c_2 (show 2<=sizeLine from by decide) (.cons ⟨_,rfl⟩ (.cons ⟨_,rfl⟩ .nil)) (.cons (AC.mpr rfl) (.cons (AC.mpr rfl) .nil))) (.cons (v:=.ref _) (by rfl) rfl (x8 (xs:=[.int 2,.int 0]) r_5c_3 (show 2<=sizeLine from by decide) (.cons ⟨_,rfl⟩ (.cons ⟨_,rfl⟩ .nil)) (.cons (AC.mpr rfl) (.cons (AC.mpr rfl) .nil))) (.cons (v:=.ref _) (by rfl) rfl (x8 (xs:=[.int 0,.int 1]) r_5c_4 (show 2<=sizeLine from by decide) (.cons ⟨_,rfl⟩ (.cons ⟨_,rfl⟩ .nil)) (.cons (AC.mpr rfl) (.cons (AC.mpr rfl) .nil))) (.cons (v:=.ref _) (by rfl) rfl (x8 (xs:=[.int 3,.int 0]) r_5c_5 (show 2<=sizeLine from by decide) (.cons ⟨_,rfl⟩ (.cons ⟨_,rfl⟩ .nil)) (.cons (AC.mpr rfl) (.cons (AC.mpr rfl) .nil))) .nil)))))) (by decide),Bt (Lz X G q_6c) r_6c kr_y_6c (.cons (ks:=[3,4,3]) (v:=.str "f4") kr_z_6c_0 r_6c_0 (.cons ⟨_,rfl⟩ (.cons ⟨_,rfl⟩ (.cons ⟨_,rfl⟩ .nil))) ⟨_,rfl⟩ (ED.mpr rfl) (.cons (ks:=[3,5]) (v:=.str "h3") kr_z_6c_1 r_6c_1 (.cons ⟨_,rfl⟩ (.cons ⟨_,rfl⟩ .nil)) ⟨_,rfl⟩ (ED.mpr rfl) (.cons (ks:=[3,3,5]) (v:=.str "h4") kr_z_6c_2 r_6c_2 (.cons ⟨_,rfl⟩ (.cons ⟨_,rfl⟩ (.cons ⟨_,rfl⟩ .nil))) ⟨_,rfl⟩ (ED.mpr rfl) (.cons (ks:=[5]) (v:=.str "i5") kr_z_6c_3 r_6c_3 (.cons ⟨_,rfl⟩ .nil) ⟨_,rfl⟩ (ED.mpr rfl) (.cons (ks:=[6]) (v:=.str "i6") kr_z_6c_4 r_6c_4 (.cons ⟨_,rfl⟩ .nil) ⟨_,rfl⟩ (ED.mpr rfl) .nil))))) (by decide),Bu (Lz X G q_7c) r_7c kr_y_7c (.cons (v:=.ref _) kr_z_7c_0 rfl (x8 (xs:=[.int 2,.int 5,.int 6,.int 8,.int 9,.int 12]) r_7c_0 (show 6<=sizeLine from by decide) (.cons ⟨_,rfl⟩ (.cons ⟨_,rfl⟩ (.cons ⟨_,rfl⟩ (.cons ⟨_,rfl⟩ (.cons ⟨_,rfl⟩ (.cons ⟨_,rfl⟩ .nil)))))) (.cons (AC.mpr rfl) (.cons (AC.mpr rfl) (.cons (AC.mpr rfl) (.cons (AC.mpr rfl) (.cons (AC.mpr rfl) (.cons (AC.mpr rfl) .nil))))))) (.cons (v:=.ref _) kr_z_7c_1 rfl (x8 (xs:=[.int 2,.int 6,.int 8,.int 12]) r_7c_1 (show 4<=sizeLine from by decide) (.cons ⟨_,rfl⟩ (.cons ⟨_,rfl⟩ (.cons ⟨_,rfl⟩ (.cons ⟨_,rfl⟩ .nil)))) (.cons (AC.mpr rfl) (.cons (AC.mpr rfl) (.cons (AC.mpr rfl) (.cons (AC.mpr rfl) .nil))))) (.cons (v:=.ref _) kr_z_7c_2 rfl (x8 (xs:=[.int 2,.int 6,.int 10]) r_7c_2 (show 3<=sizeLine from by decide) (.cons ⟨_,rfl⟩ (.cons ⟨_,rfl⟩ (.cons ⟨_,rfl⟩ .nil))) (.cons (AC.mpr rfl) (.cons (AC.mpr rfl) (.cons (AC.mpr rfl) .nil)))) (.cons (v:=.ref _) kr_z_7c_3 rfl (x8 (xs:=[.int 2,.int 12,.int 20,.int 30]) r_7c_3 (show 4<=sizeLine from by decide) (.cons ⟨_,rfl⟩ (.cons ⟨_,rfl⟩ (.cons ⟨_,rfl⟩ (.cons ⟨_,rfl⟩ .nil)))) (.cons (AC.mpr rfl) (.cons (AC.mpr rfl) (.cons (AC.mpr rfl) (.cons (AC.mpr rfl) .nil))))) (.cons (v:=.ref _) kr_z_7c_4 rfl (x8 (xs:=[.int 2,.int 5]) r_7c_4 (show 2<=sizeLine from by decide) (.cons ⟨_,rfl⟩ (.cons ⟨_,rfl⟩ .nil)) (.cons (AC.mpr rfl) (.cons (AC.mpr rfl) .nil))) (.cons (v:=.ref _) kr_z_7c_5 rfl (x8 (xs:=[.int 2,.int 6]) r_7c_5 (show 2<=sizeLine from by decide) (.cons ⟨_,rfl⟩ (.cons ⟨_,rfl⟩ .nil)) (.cons (AC.mpr rfl) (.cons (AC.mpr rfl) .nil))) .nil)))))) (by decide +kernel)⟩
 have eX:ExT K mg "TooMany" CM:=⟨Lz X G enM,eokM⟩
 have EE:zay K mg:=⟨CM,eX,⟨ec1,ec2,ec3,ec4⟩⟩
 refine ⟨W.fnOf "law" "law" (ur KN) (xM KN) (zl KN) .none kV52 D_ pm52 an52 Ec ct52,λs v=>.of_eq rfl,λbase _ _=>?_⟩
 have q:∀ {x:Str} {st:Stmt} {k n:Nat} {ps:List Str} {g:List D->Option D},Df K x st->(∀ {f:Addr} {fd:Iy},Fun K x x st f fd->FnOk l.prog w K mg base eY k f fd ps (spF K n g))->(∀ (kV doc pm:Value) (an:Option Addr) (aq ct:Value) (us:List Value),us.length=ps.length->bindArgs (W.fnOf x x (ur st) (xM st) (zl st) .none kV doc pm an aq ct) ⟨us,[]⟩=pure (ps.zip us))->HasFn l.prog w K mg base k x n g:=λd o b=>AD X G d o b
 have qx:∀ {x:Str} {st:Stmt} {k n:Nat} {ps:List Str} {g:List D->Option RX},Df K x st->(∀ {f:Addr} {fd:Iy},Fun K x x st f fd->FnOk l.prog w K mg base (f7 l.prog w) k f fd ps (oE mg K n g))->(∀ (kV doc pm:Value) (an:Option Addr) (aq ct:Value) (us:List Value),us.length=ps.length->bindArgs (W.fnOf x x (ur st) (xM st) (zl st) .none kV doc pm an aq ct) ⟨us,[]⟩=pure (ps.zip us))->HasFnX l.prog w K mg base k x n g:=λd o b=>ze4 X G d o b
 have H0:=q d0 (λF=>CG.2  F T) (λ_ _ _ _ _ _=>kA (λ_ _=>rfl))
 have H1:=q d1 (λF=>QZ.2  F T) (λ_ _ _ _ _ _=>kA (λ_ _=>rfl))
 have H2:=q d2 (λF=>Q1.2  F T) (λ_ _ _ _ _ _=>US (λ_=>rfl))
 have H3:=q d3 (λF=>vh.2  F T) (λ_ _ _ _ _ _=>US (λ_=>rfl))
 have H4:=q d4 (λF=>Kv.2 H3 F T) (λ_ _ _ _ _ _=>US (λ_=>rfl))
 have H5:=q d5 (λF=>YW.2  F T) (λ_ _ _ _ _ _=>F2 (λ_ _ _=>rfl))
 have H6:=q d6 (λF=>vY.2 H2 H5 F T) (λ_ _ _ _ _ _=>F2 (λ_ _ _=>rfl))
 have H7:=q d7 (λF=>qM.2 H5 F T) (λ_ _ _ _ _ _=>F2 (λ_ _ _=>rfl))
 have H8:=q d8 (λF=>YV.2  F T) (λ_ _ _ _ _ _=>kA (λ_ _=>rfl))
 have H9:=q d9 (λF=>YX.2 H7 H8 F T) (λ_ _ _ _ _ _=>kA (λ_ _=>rfl))
 have H10:=q d10 (λF=>Q0.2 H9 F T) (λ_ _ _ _ _ _=>US (λ_=>rfl))
 have H11:=q d11 (λF=>qO.2 H7 H8 F T) (λ_ _ _ _ _ _=>F2 (λ_ _ _=>rfl))
 have H12:=q d12 (λF=>Vn.2 H11 F T) (λ_ _ _ _ _ _=>kA (λ_ _=>rfl))
 have H13:=q d13 (λF=>uV.2 H5 F T) (λ_ _ _ _ _ _=>kA (λ_ _=>rfl))
 have H14:=q d14 (λF=>v7.2  F T) (λ_ _ _ _ _ _=>US (λ_=>rfl))
 have H15:=q d15 (λF=>xw.2  F T) (λ_ _ _ _ _ _=>kA (λ_ _=>rfl))
 have H16:=q d16 (λF=>w4.2 H12 H14 H13 F T) (λ_ _ _ _ _ _=>kA (λ_ _=>rfl))
 have H17:=q d17 (λF=>uv.2  F T) (λ_ _ _ _ _ _=>kA (λ_ _=>rfl))
 have H18:=q d18 (λF=>v5.2 H17 H12 H15 H7 H8 F T) (λ_ _ _ _ _ _=>kA (λ_ _=>rfl))
 have H19:=q d19 (λF=>Y1.2 H16 H18 F T) (λ_ _ _ _ _ _=>kA (λ_ _=>rfl))
 have H20:=q d20 (λF=>Q4.2 H19 H10 F T) (λ_ _ _ _ _ _=>US (λ_=>rfl))
 have H21:=q d21 (λF=>qN.2 H20 F T) (λ_ _ _ _ _ _=>US (λ_=>rfl))
 have H22:=q d22 (λF=>yK.2  F T) (λ_ _ _ _ _ _=>kA (λ_ _=>rfl))
 have H23:=q d23 (λF=>Y2.2 H22 H21 H20 F T) (λ_ _ _ _ _ _=>US (λ_=>rfl))
 have H24:=q d24 (λF=>CF.2 H23 F T) (λ_ _ _ _ _ _=>US (λ_=>rfl))
 have H25:=q d25 (λF=>qL.2  F T) (λ_ _ _ _ _ _=>kA (λ_ _=>rfl))
 have H26:=q d26 (λF=>Vm.2 H23 H25 F T) (λ_ _ _ _ _ _=>US (λ_=>rfl))
 have H27:=q d27 (λF=>Vi.2  F T) (λ_ _ _ _ _ _=>kA (λ_ _=>rfl))
 have H28:=q d28 (λF=>Zh.2 H2 H0 H6 H1 F T) (λ_ _ _ _ _ _=>F2 (λ_ _ _=>rfl))
 have H29:=q d29 (λF=>RC.2 H28 F T) (λ_ _ _ _ _ _=>F2 (λ_ _ _=>rfl))
 have Eg:=q d30 (λF=>Vl.2 H29 H27 F T) (λ_ _ _ _ _ _=>kA (λ_ _=>rfl))
 have H31:=q d31 (λF=>YY.2 H2 H0 H1 F T) (λ_ _ _ _ _ _=>F2 (λ_ _ _=>rfl))
 have H32:=q d32 (λF=>xN.2 H31 H6 F T) (λ_ _ _ _ _ _=>F2 (λ_ _ _=>rfl))
 have H33:=q d33 (λF=>Zk.2 H4 F T) (λ_ _ _ _ _ _=>US (λ_=>rfl))
 have H34:=q d34 (λF=>Zj.2 H4 F T) (λ_ _ _ _ _ _=>US (λ_=>rfl))
 have H35:=q d35 (λF=>je.2 H21 H24 F T) (λ_ _ _ _ _ _=>kA (λ_ _=>rfl))
 have H36:=q d36 (λF=>vZ.2 H32 H33 F T) (λ_ _ _ _ _ _=>kA (λ_ _=>rfl))
 have H37:=q d37 (λF=>Vj.2 H35 Eg H36 F T) (λ_ _ _ _ _ _=>kA (λ_ _=>rfl))
 have HX37:=qx d37 (λF=>Vh.2 F T eX H35 Eg H36 ) (λ_ _ _ _ _ _=>kA (λ_ _=>rfl))
 have H38:=q d38 (λF=>vo.2 Eg H32 H33 F T) (λ_ _ _ _ _ _=>kA (λ_ _=>rfl))
 have H39:=q d39 (λF=>Zi.2 H38 F T) (λ_ _ _ _ _ _=>kA (λ_ _=>rfl))
 have H40:=q d40 (λF=>uW.2 H34 F T) (λ_ _ _ _ _ _=>US (λ_=>rfl))
 have H41:=q d41 (λF=>Q2.2 H40 Eg H32 F T) (λ_ _ _ _ _ _=>kA (λ_ _=>rfl))
 have H42:=q d42 (λF=>Kw.2  F T) (λ_ _ _ _ _ _=>kA (λ_ _=>rfl))
 have H43:=q d43 (λF=>Vk.2  F T) (λ_ _ _ _ _ _=>kA (λ_ _=>rfl))
 have H44:=q d44 (λF=>YZ.2  F T) (λ_ _ _ _ _ _=>US (λ_=>rfl))
 have H45:=q d45 (λF=>Qo F T H44) (λ_ _ _ _ _ _=>kA (λ_ _=>rfl))
 have H46:=q d46 (λF=>kE.2 H44 F T) (λ_ _ _ _ _ _=>kA (λ_ _=>rfl))
 have H47:=q d47 (λF=>Y0.2 H42 H45 H43 H46 F T) (λ_ _ _ _ _ _=>US (λ_=>rfl))
 have H48:=q d48 (λF=>kF.2 H47 H43 F T) (λ_ _ _ _ _ _=>US (λ_=>rfl))
 have H49:=q d49 (λF=>VU F T EE HX37) (λ_ _ _ _ _ _=>kA (λ_ _=>rfl))
 have H50:=q d50 (λF=>jL.2  F T) (λ_ _ _ _ _ _=>kA (λ_ _=>rfl))
 have H51:=q d51 (λF=>Q3.2 H39 H41 F T) (λ_ _ _ _ _ _=>F2 (λ_ _ _=>rfl))
 exact RD.2 H42 H43 H48 H51 H50 H49 H26 H21 Eg H41 H37 H24 F52 T
open GH
def zba (h1 : -3<=a) (h2:a<=3):JD (.int a) (.int b)=some (.int (a * b)):=vk (uL (by omega) (by omega))
def a7 (h:n<=100):n<=sizeLine:=nA (yX (by omega))
def g6   : aE (.tup (x :: l)) (.int 0)=some x:=by simp [aE,atI,fO]
def nO   : aE (.tup (x :: y :: l)) (.int 1)=some y:=by
 have h:=uU (xs:=x :: y :: l) (j:=1) (v:=y) rfl
 exact h
def Ww (x y):YA [gD x,gD y]=some (gD (yZ x y)):=by simp [YA,CG,gD,g6,nO,yZ,EK]
def Yl (x):jy [gD x]=some (gD (yT x)):=by simp [jy,Q1,gD,g6,nO,yT,EK]
def Vt (y) (h : -3<=x.1/\x.1<=2 /\ -1<=x.2/\x.2<=0):jx [gD x,gD y]=some (gD (y9 x y)):=by
 have c:=λb=>@zba x.1 b (by omega) (by omega)
 have a:=λb=>@zba x.2 b (by omega) (by omega)
 simp [jx,QZ,gD,g6,nO,y9,c,a,EK]
theorem Vs (h) (i j a b:Int):∀ ts s1 s2 e,∃ o,yo (jM 3 (yp (zL 5) (yp (zL 6) (yp (zL 7) kG)))) (cg (UY (aU (ze b9 (vF 5) (vF 3))) (aU (ze b9 (vF 6) (vF 4)))) (j6 (vF 7)) cS) (ts.map tD)
  [.fr h,.fr (.int i),.fr (.int j),.fr (.int (c7 i j)),.fr (.int (dQ i j)),s1,s2,e]=some o/\Wx ((some o).bind λo=>match o with | .nx aO=>j6 (cF (.int 2)) aO | o=>some o)=some (.int (zu ts i j))
 | [],s1,s2,e=>⟨_,rfl,rfl⟩
 | t :: ts,s1,s2,e=>by
  obtain ⟨o,h1,h2⟩:=Vs h i j a b ts (.fr (.int t.1)) (.fr (.int t.2.1)) (.fr (.int t.2.2))
  rw [aC]
  unfold yo zu
  by_cases c:t.1=c7 i j
  .by_cases d:t.2.1=dQ i j
   .exact ⟨.rt (.int t.2.2),by simp [tD,c,d],by simp [c,d]⟩
   .refine ⟨o,?_,by simpa [d] using h2⟩
    simp [tD,c,d] at h1 ⊢
    exact h1
  .refine ⟨o,?_,by simpa [c] using h2⟩
   simp [tD,c] at h1 ⊢
   exact h1
def XW (n) (ts:List T3) (i j:Int):vS [zh n ts,.int i,.int j]=some (.int (zu ts i j)):=by
 obtain ⟨o,h1,h2⟩:=Vs (zh n ts) i j 0 0 ts .no .no .no
 have e:aE (zh n ts) (.int 1)=some (.lst (ts.map tD)):=by unfold zh; exact nO
 simp [vS,YW,e,aP] at h2 ⊢
 unfold c7 dQ at h1
 simp at h1
 rw [h1]
 exact h2
def Gn (m):inD false (.int m) (.tup [.int 4,.int 6])=some (.bl (decide (m=4\/m=6))):=by
 simp [inD,qg,dep,bx]
 by_cases h:m=4
 .subst h; rfl
 .by_cases h':m=6
  .subst h'; rfl
  .have a:(4==m)=false:=by simpa using λz:(4:Int)=m=>h z.symm
   have b:(6==m)=false:=by simpa using λz:(6:Int)=m=>h' z.symm
   simp [a,b,h,h']
def Jq (n) (hg:yh ts) (i j):wA [zh n ts,.int i,.int j]=some (gD (Zw ts i j)):=by
 have t:=XW n ts i j
 have gt:=qP hg i j
 unfold Zw
 by_cases h:i=j
 .simp [wA,vY,h,EK,gD]
 .generalize zu ts i j=m at t gt
  have b:=Yl
  have c:m=0\/m=2\/m=3\/m=4\/m=5\/m=6:=by omega
  by_cases h2:j < i
  .have a:¬ i < j:=by omega
   rcases c with e | e | e | e | e | e <;> subst e
   .have:=b (2,0); simp [gD,yT] at this; simp [wA,vY,h,h2,a,t,Gn,EK,Zy,h_,zU,this,gD]
   .have:=b (0,0); simp [gD,yT] at this; simp [wA,vY,h,h2,a,t,Gn,EK,Zy,h_,zU,this,gD]
   .have:=b (1,0); simp [gD,yT] at this; simp [wA,vY,h,h2,a,t,Gn,EK,Zy,h_,zU,this,gD]
   .simp [wA,vY,h,h2,a,t,Gn,EK,zU,gD]
   .have:=b (0,1); simp [gD,yT] at this; simp [wA,vY,h,h2,a,t,Gn,EK,Zy,h_,zU,this,gD]
   .simp [wA,vY,h,h2,a,t,Gn,EK,zU,gD]
  .have a:i < j:=by omega
   rcases c with e | e | e | e | e | e <;> subst e
   .have:=b (2,0); simp [gD,yT] at this; simp [wA,vY,h,h2,a,t,Gn,EK,Zy,h_,zU,this,gD]
   .have:=b (0,0); simp [gD,yT] at this; simp [wA,vY,h,h2,a,t,Gn,EK,Zy,h_,zU,this,gD]
   .have:=b (1,0); simp [gD,yT] at this; simp [wA,vY,h,h2,a,t,Gn,EK,Zy,h_,zU,this,gD]
   .have:=b (2,0); simp [gD,yT] at this; simp [wA,vY,h,h2,a,t,Gn,EK,Zy,h_,zU,this,gD]
   .have:=b (0,1); simp [gD,yT] at this; simp [wA,vY,h,h2,a,t,Gn,EK,Zy,h_,zU,this,gD]
   .have:=b (3,0); simp [gD,yT] at this; simp [wA,vY,h,h2,a,t,Gn,EK,Zy,h_,zU,this,gD]
def FM (xs:List α) (k:Nat):Y4 xs none (some (k:Int))=xs.take k:=by
 unfold Y4
 rw [HT.sIx_none,HT.sIx_nat,List.drop_zero,Nat.sub_zero]
 by_cases h:k<=xs.length
 .rw [pf h]
 .rw [AV (by omega),so (aT _),so (by omega)]
def FO (xs:List α) (k:Nat):Y4 xs (some (k:Int)) none=xs.drop k:=by
 unfold Y4
 rw [HT.sIx_none,HT.sIx_nat]
 by_cases h:k<=xs.length
 .rw [pf h,so (by simp)]
 .rw [AV (by omega),g3s (aT _),g3s (by omega)]; simp
def QL:Nat->List D->List D
 | _,[]=>[]
 | k,d :: ds=>.tup [.int (k:Int),d] :: QL (k+1) ds
def BI (ds):uE ds=QL 0 ds:=by
 have gen:∀ (ds:List D) (k:Nat),(ds.zipIdx k).map (λp=>D.tup [.int (p.2:Int),p.1])=QL k ds:=by
  intro ds
  induction ds with
  | nil=>intro k; rfl
  | cons d ds a=>intro k; rw [List.zipIdx_cons,aC,a]; rfl
 exact gen ds 0
def zat  {i:Nat} (h:ds[i]? = some d):aE (.tup ds) (.int (i:Int))=some d:=uU h
def jE  {i:Nat} (h:ds[i]? = some d):aE (.lst ds) (.int (i:Int))=some d:=uU h
def Sr  {i:Nat} (h:i < r.length):aE (wH r) (.int (i:Int))=some (gD (r.getD i (0,0))):=by
 unfold wH
 apply zat
 simp [bR,h]
def KD {r:List Gd} (x) (h:i < r.length):(r.map gD).take i++gD x :: (r.map gD).drop (i+1)=(r.set i x).map gD:=by
 rw [List.map_set]
 apply ph
 intro k
 rcases LF k i with a | a | a
 .rw [lZ (by simp; omega),ff,if_neg (by omega),List.getElem?_take_of_lt a]
 .subst a
  rw [iC (by simp; omega)]
  simp [h,pf (nA h)]
 .rw [iC (by simp; omega),ff,if_neg (by omega)]
  have:k - (List.take i (dI gD r)).length=(k - i - 1)+1:=by simp; omega
  rw [this,ay,List.getElem?_drop]
  congr 1
  omega
noncomputable def zbb:FS:=vX 3 (zW YA (zb (vF 3) (zb (zW jx (zb (zW wA (zb (vF 0) (zb (vF 1) (zb (vF 4) zq)))) (zb (vF 5) zq))) zq)))
theorem JF (n) (hg:yh ts) (i:Nat) (R:D):∀ r k b d c,∃ f g,yo (jM 2 (yp (zL 4) (yp (zL 5) kG))) zbb (QL k (r.map gD)) [.fr (zh n ts),.fr (.int i),.fr R,.fr (gD b),d,c] =
  some (.nx [.fr (zh n ts),.fr (.int i),.fr R,.fr (gD (wj (zg ts i) k r b)),f,g])
 | [],k,b,d,c=>⟨d,c,rfl⟩
 | x :: r,k,b,d,c=>by
  obtain ⟨f,g,e⟩:=JF n hg i R r (k+1) (yZ b (y9 (zg ts i k) x)) (.fr (.int k)) (.fr (gD x))
  refine ⟨f,g,?_⟩
  have p:=Jq n hg (i:Int) (k:Int)
  have m:=Vt x (jv ts i k)
  have a:=Ww b (y9 (Zw ts i k) x)
  rw [aC]
  unfold QL yo
  simp [zbb,p,m,a]
  unfold zbb at e
  exact e
def V0 (n) (hg:yh ts) {r:List Gd} (hi:i < r.length) (h:r.length<=100):qU [zh n ts,.int i,wH r]=some (wH (uM (zg ts i) i r)):=by
 obtain ⟨a,b,e⟩:=JF n hg i (wH r) r 0 (0,0) .no .no
 have f:=Yl (wj (zg ts i) 0 r (0,0))
 have d:=Ww (r.getD i (0,0)) (yT (wj (zg ts i) 0 r (0,0)))
 have c:=Sr hi
 have z1:i<=sizeLine:=a7 (by omega)
 have g:gD (0,0)=.tup [.int 0,.int 0]:=rfl
 rw [g,<- BI] at e
 have sl:=KD (yZ (r.getD i (0,0)) (yT (wj (zg ts i) 0 r (0,0)))) hi
 have s1:jT (vF 2) oF (l6 (vF 1)) [.fr (zh n ts),.fr (.int i),.fr (wH r),.fr (gD (wj (zg ts i) 0 r (0,0))),a,b]=some (.tup ((r.map gD).take i)):=by
  simp [wH,FM]
 have s2:jT (vF 2) (l6 (ze xn (vF 1) (cF (.int 1)))) oF [.fr (zh n ts),.fr (.int i),.fr (wH r),.fr (gD (wj (zg ts i) 0 r (0,0))),a,b]=some (.tup ((r.map gD).drop (i+1))):=by
  have:=FO (r.map gD) (i+1)
  simp [wH] at this ⊢
  exact this
 have it:V8 (vF 2) [.fr (zh n ts),.fr (.int i),.fr (wH r),.fr (.tup [.int 0,.int 0]),.no,.no]=some (uE (r.map gD)):=by simp [wH]
 have a1:∀ x,xn (.tup ((r.map gD).take i)) (.tup [x])=some (.tup ((r.map gD).take i++[x])):=λx=>by
  show (if _ then _ else _)=_
  rw [if_pos (a7 (by simp; omega))]
 have a2:∀ x,xn (.tup ((r.map gD).take i++[x])) (.tup ((r.map gD).drop (i+1)))=some (.tup ((r.map gD).take i++[x]++(r.map gD).drop (i+1))):=λx=>by
  show (if _ then _ else _)=_
  rw [if_pos (a7 (by simp; omega))]
 unfold qU Zh
 simp only [yi,zC,aC,bg,aB,aI,aP,bJ,bw,zr,z9,y6,af,aN,aM,xG,it]
 unfold zbb at e
 rw [e]
 simp only [af,z8,zm,s1,s2,wt,zf,zo,zw,zX,ao,ay,c,f,d,aB,aI]
 rw [if_pos (a7 (by decide))]
 simp only [af,a1,a2,yu]
 unfold wH uM
 rw [<- sl,dh]
 rfl
def KC (n) (ts:List T3) (i:Nat) (l:n<=100):kg [zh n ts,.int i]=some (wH (ye n i)):=by
 have e:aE (zh n ts) (.int 0)=some (.int n):=by unfold zh; exact g6
 have b:uY [.int (n:Int)]=some (yy 0 n):=vO (by omega) (by omega)
 have c:=FW (f:=ifF (aU (ze b9 (vF 0) (vF 1))) (cF (.tup [(.int 1),(.int 0)])) (cF (.tup [(.int 0),(.int 0)]))) (C:=[.fr (.int (i:Int))]) (φ:=λj=>gD (if j=i then (1,0) else (0,0))) (yy 0 n) 0 .no (λk d g=>by
  obtain ⟨rfl,_⟩:=Xt g
  by_cases h:k=i
  .simp [h,gD]
  .have:¬ (k:Int)=(i:Int):=by omega
   simp [h,this,gD])
 have hz:n<=sizeLine:=a7 (by omega)
 have a:(yy 0 (n:Int)).length=n:=by rw [j8]; omega
 simp only [a,b_] at c
 unfold kg Vi
 simp only [yi,zC,aC,bg,aB,aI,aP,bJ,bw,z8,zw,zf,zx,xh,jj,zm,zX,y6,ao,ay,af,e,zo,b,a,if_pos hz,xJ,ud,c,bL,GY,yu]
 simp only [wH,ye,bz]
 rfl
def zD (w:List Nat):D:=.tup (w.map λ(i:Nat)=>.int (i:Int))
def P2 (h:dep d<=100):b9 d d=some (.bl true):=by
 unfold b9
 rw [if_pos h,ui]
def HB (h:dep d<=100):fY d d=some (.bl false):=by
 unfold fY
 rw [if_pos h,ui]
 rfl
theorem VL (n) (hg:yh ts) (W) (d:n<=100):∀ (l:List Nat) (r) (s3),r.length=n->(∀ i∈l,i < n)->∃ f,yo (zL 3) (vX 2 (zW qU (zb (vF 0) (zb (vF 3) (zb (vF 2) zq))))) (l.map λ(i:Nat)=>.int (i:Int)) [.fr (zh n ts),.fr W,.fr (wH r),s3] =
  some (.nx [.fr (zh n ts),.fr W,.fr (wH (l.foldl (λr i=>uM (zg ts i) i r) r)),f])
 | [],r,s3,b,a=>⟨s3,rfl⟩
 | i :: l,r,s3,b,a=>by
  have hi:=a i aV
  have m:=V0 n hg (i:=i) (r:=r) (by omega) (by omega)
  obtain ⟨c,g⟩:=VL n hg W d l (uM (zg ts i) i r) (.fr (.int i)) (by rw [ya,b]) (λj e=>a j (aZ _ e))
  refine ⟨c,?_⟩
  rw [aC]
  unfold yo
  simp only [yL,af,aN,aM,z9,zw,zf,zo,zX,ao,ay,m]
  exact g
def Dp (n) (hg:yh ts) (c:n<=100) (b:r.length=n) (a:∀ i∈w,i < n):Bw [zh n ts,zD w,wH r]=some (wH (yf (zg ts) w r)):=by
 obtain ⟨f,e⟩:=VL n hg (zD w) c w.reverse r .no b (λi hi=>a i (by simpa using hi))
 have d:(w.map λ(i:Nat)=>D.int (i:Int)).reverse=w.reverse.map λ(i:Nat)=>D.int (i:Int):=by simp
 unfold Bw RC
 simp only [yi,zC,aC,bg,aB,aI,q0,q4,aP,bJ,bw,zr,xG,C7,zX,ao,ay,af,zD,d]
 unfold zD at e
 rw [e]
 simp only [af,z8,zX,ao,ay,yu,yf,List.foldl_reverse]
def Zz (ts:List T3) (n:Nat) (w:List Nat):List (List Gd):=(aK n).map λi=>yf (zg ts) w (ye n i)
def yI (rs:List (List Gd)):D:=.lst (rs.map wH)
def uK (n) (hg:yh ts) (a:n<=100) (l:∀ i∈w,i < n):wC [zh n ts,zD w]=some (yI (Zz ts n w)):=by
 have e:aE (zh n ts) (.int 0)=some (.int n):=by unfold zh; exact g6
 have j:uY [.int (n:Int)]=some (yy ((0:Nat):Int) n):=vO (by omega) (by omega)
 have c:=FW (f:=zW Bw (zb (vF 1) (zb (vF 2) (zb (zW kg (zb (vF 1) (zb (vF 0) zq))) zq)))) (C:=[.fr (zh n ts),.fr (zD w)]) (φ:=λi=>wH (yf (zg ts) w (ye n i))) (yy ((0:Nat):Int) n) 0 .no (λk d m=>by
  obtain ⟨rfl,_⟩:=Xt m
  have h:=KC n ts k a
  have lv:=Dp n hg a (zi n k) l
  have e2:((0:Nat):Int)+(k:Int)=(k:Int):=by omega
  simp only [zw,zf,zo,zX,ay,ao,af,e2,h,lv,b_])
 have b:(yy ((0:Nat):Int) (n:Int)).length=n:=by rw [j8]; omega
 have hi:za6 (zb (ze aE (vF 0) (cF (.int 0))) zq) [.fr (zh n ts),.fr (zD w)]=some (yy ((0:Nat):Int) n):=by
  simp only [jj,zf,zm,zX,ao,y6,af,e,zo,j]
 have g:=ku (n:=1) (caps:=[0,1]) (γ:=zL 0) (ft:=dk) (f:=zW Bw (zb (vF 1) (zb (vF 2) (zb (zW kg (zb (vF 1) (zb (vF 0) zq))) zq)))) hi (by rw [b]; exact a7 (by omega))
 have o:uS 1 [0,1] [.fr (zh n ts),.fr (zD w)]=[.no,.fr (zh n ts),.fr (zD w)]:=rfl
 rw [o,c,b] at g
 simp only [wC,Vl,yi,zC,aC,bg,aB,aI,q0,q4,aP,bX,z8,zx,g,af,bL,yu,b_]
 simp only [yI,Zz,bz,Function.comp_def]
def Vp (n):vf [.int n]=some (.int (M02.wsgn n)):=by
 unfold M02.wsgn
 by_cases h:0 < n
 .simp [vf,vh,h]
 .by_cases h2:n < 0
  .simp [vf,vh,h,h2]
  .simp [vf,vh,h,h2]
def Gs (n) : -1<=M02.wsgn n/\M02.wsgn n<=1:=by rcases M02.wsgn_cases n with ⟨_,e⟩ | ⟨_,e⟩ | ⟨_,e⟩ <;> rw [e] <;> decide
def Je (d:x.1.natAbs < big) (c:x.2.natAbs < big):kh [gD x]=some (.int (VA x)):=by
 obtain ⟨a,b⟩:=x
 simp only at d c
 have j:=vk (Yi d d)
 have i:=vk (Yi d c)
 have g:=vk (Yi c c)
 have l:=Gs a
 have k:=Gs b
 have e:JD (.int (M02.wsgn a)) (.int (M02.wsgn b))=_:=vk (uL (by omega) (by omega))
 have f:∀ z,JD (.int (M02.wsgn a)) (.int z)=_:=λz=>vk (uL (by omega) (by omega))
 unfold VA M02.sgn
 by_cases h:0<=M02.wsgn a * M02.wsgn b
 .simp [kh,Kv,gD,g6,nO,Vp,h,e]
 .simp [kh,Kv,gD,g6,nO,Vp,h,e,f,j,i,g]
def Fit (r:List Gd):Prop:=∀ x∈r,x.1.natAbs < big/\x.2.natAbs < big
def ME (s:Int) (r:List Gd):Bool:=r.any λx=>decide (VA x=s)
def ZJ (neg) (s:Int) (r:List Gd):inD neg (.int s) (.lst ((r.map VA).map D.int))=some (.bl (xor neg (ME s r))):=by
 have hd:qg ((r.map VA).map D.int)<=100:=fc (jB (k:=0) λd hd=>by
  obtain ⟨x,_,rfl⟩:=bu.mp hd
  simp [dep]) (by decide)
 show (if _ then _ else _)=_
 rw [if_pos hd]
 congr 3
 unfold ME
 rw [bz,List.any_map]
 rfl
def kd (f:α->β) (l:List α) (z:α):(aK l.length).map (λk=>f (l.getD k z))=l.map f:=by
 apply ph
 intro k
 rw [cK,cK]
 by_cases h:k < l.length
 .rw [sd h]
  simp [bR,h]
 .rw [gQ (by simpa using h),gQ (by omega)]
  rfl
def Xo {r:List Gd} (b:r.length<=100) (hg:∀ x∈r,g [gD x]=some (.int (VA x))):y8 (zL 0) dk (zW g (zb (vF 0) zq)) (r.map gD) [.no]=some ((r.map VA).map D.int):=by
 have c:=FW (f:=zW g (zb (vF 0) zq)) (C:=[]) (φ:=λk=>D.int (VA (r.getD k (0,0)))) (r.map gD) 0 .no (λk d a=>by
  rw [cK] at a
  cases e:r[k]? with
  | none=>rw [e] at a; cases a
  | some x =>
   rw [e] at a
   cases a
   have:=hg x (sk e)
   simp only [zw,zf,zo,zX,ao,af,this,b_,bR,e,AX])
 rw [c]
 have:=kd (λx=>D.int (VA x)) r (0,0)
 simp only [aD,b_,bz] at this ⊢
 rw [this]
 rfl
def zdg (r:List Gd):Bool:=ME 1 r && !ME (-1) r
def zda (r:List Gd):Bool:=ME (-1) r && !ME 1 r
def Cr (b:r.length<=100) (d:Fit r):qV [wH r]=some (.bl (zda r)):=by
 have c:=Xo b (g:=kh) λx a=>Je (d x a).1 (d x a).2
 have i1:=ZJ false (-1) r
 have i2:=ZJ true 1 r
 have hi:yx (vF 0) [.fr (wH r),.no]=some (r.map gD):=rfl
 have e:=ku (n:=1) (caps:=[]) (γ:=zL 0) (ft:=dk) (f:=zW kh (zb (vF 0) zq)) hi (a7 (by simpa using b))
 have h:uS 1 [] [.fr (wH r),.no]=[.no]:=rfl
 rw [h,c] at e
 simp only [qV,Zj,yi,zC,aC,bg,aB,aI,q0,q4,aP,bJ,bw,zr,z9,zx,e,bL,af,aN,aM,z8,Mc,zm,y6,zX,ao,ay,i1,i2,Ya,Nj,Bool.false_xor,Bool.true_xor]
 unfold zda
 cases ME (-1) r <;> rfl
def UT (b:r.length<=100) (d:Fit r):wW [wH r]=some (.bl (zdg r)):=by
 have c:=Xo b (g:=kh) λx a=>Je (d x a).1 (d x a).2
 have i1:=ZJ false 1 r
 have i2:=ZJ true (-1) r
 have hi:yx (vF 0) [.fr (wH r),.no]=some (r.map gD):=rfl
 have e:=ku (n:=1) (caps:=[]) (γ:=zL 0) (ft:=dk) (f:=zW kh (zb (vF 0) zq)) hi (a7 (by simpa using b))
 have h:uS 1 [] [.fr (wH r),.no]=[.no]:=rfl
 rw [h,c] at e
 simp only [wW,Zk,yi,zC,aC,bg,aB,aI,q0,q4,aP,bJ,bw,zr,z9,zx,e,bL,af,aN,aM,z8,Mc,zm,y6,zX,ao,ay,i1,i2,Ya,Nj,Bool.false_xor,Bool.true_xor]
 unfold zdg
 cases ME 1 r <;> rfl
def D5 (t : -3<=c.1/\c.1<=2 /\ -1<=c.2/\c.2<=0) (i:r.length=s.length) (p:r.length<=100):qC [wH r,gD c,wH s]=some (wH (Y3 r (cu (yT c) s))):=by
 have hz:UZ (r.map gD) (s.map gD)=UZ (r.map gD) (s.map gD):=rfl
 have h:(UZ (r.map gD) (s.map gD)).length=r.length:=by rw [ZN]; simp; omega
 have w:=Rp (f:=zW YA (zb (vF 0) (zb (zW jy (zb (zW jx (zb (vF 2) (zb (vF 1) zq))) zq)) zq))) (C:=[.fr (gD c)]) (φ:=λk=>gD (yZ (r.getD k (0,0)) (yT (y9 c (s.getD k (0,0)))))) (UZ (r.map gD) (s.map gD)) 0 .no .no (λk d q=>by
  obtain ⟨x,y,e1,e2,rfl⟩:=Q5 q
  rw [cK] at e1 e2
  cases g:r[k]? with
  | none=>rw [g] at e1; cases e1
  | some a =>
   cases e:s[k]? with
   | none=>rw [e] at e2; cases e2
   | some b =>
    rw [g] at e1
    rw [e] at e2
    cases e1
    cases e2
    have m:=Vt b t
    have o:=Yl (y9 c b)
    have l:=Ww a (yT (y9 c b))
    refine ⟨_,_,rfl,?_⟩
    simp only [zw,zf,zo,zX,ay,ao,af,m,o,l,b_,bR,g,e,AX])
 have hi:Bd (vF 0) (vF 2) [.fr (wH r),.fr (gD c),.fr (wH s)]=some (UZ (r.map gD) (s.map gD)):=by
  simp only [Jk,zE,zX,ao,ay,af,wH,Sf]
 have j:=ku (n:=2) (caps:=[1]) (γ:=jM 2 (yp (zL 0) (yp (zL 1) kG))) (ft:=dk) (f:=zW YA (zb (vF 0) (zb (zW jy (zb (zW jx (zb (vF 2) (zb (vF 1) zq))) zq)) zq))) hi (by rw [h]; exact a7 p)
 have v:uS 2 [1] [.fr (wH r),.fr (gD c),.fr (wH s)]=[.no,.no,.fr (gD c)]:=rfl
 rw [v,w,h] at j
 simp only [qC,YY,yi,zC,aC,bg,aB,aI,q0,q4,aP,bX,z8,zw,zf,zx,j,zo,af,bL,GY,yu,b_]
 have u:(aK r.length).map (λk=>gD (yZ (r.getD k (0,0)) (yT (y9 c (s.getD k (0,0))))))=(Y3 r (cu (yT c) s)).map gD:=by
  have h1:=kd gD (Y3 r (cu (yT c) s)) (0,0)
  rw [xA (by rw [zJ,i])] at h1
  rw [<- h1]
  apply fH
  intro k _
  rw [w6 (by rw [zJ,i]),xK]
  congr 2
  simp only [yT,y9,ET]
  constructor <;> grind
 rw [u]
 rfl
def Pf (ts) (hi:i < n) (d:j < n):uM (zg ts i) i (ye n j)=Y3 (ye n j) (cu (yT (zg ts i j)) (ye n i)):=by
 have b:(ye n j).length=(cu (yT (zg ts i j)) (ye n i)).length:=by rw [zJ,zi,zi]
 apply vj (by rw [ya,xA b])
 intro k a
 rw [ya,zi] at a
 rw [wy _ (by rw [zi]; exact hi),jQ _ n j d,w6 b,xK,xg hi,xg a,xg a]
 by_cases c:k=i
 .subst c
  simp only [if_true,kf]
 .simp only [c,if_false,qB,xR]
def K2 (ts) (a:az n w) (hi:i < n) (b:j < n):yf (zg ts) (w++[i]) (ye n j)=Y3 (yf (zg ts) w (ye n j)) (cu (yT (zg ts i j)) (yf (zg ts) w (ye n i))):=by
 rw [xj]
 show yf (zg ts) w (uM (zg ts i) i (ye n j))=_
 rw [Pf ts hi b,qT _ _ (by rw [zJ,zi,zi]) (by rw [zi]; exact a),uq _ _ _ (by rw [zi]; exact a)]
def QB (ts) (w) (hi:i < n):aE (yI (Zz ts n w)) (.int i)=some (wH (yf (zg ts) w (ye n i))):=by
 unfold yI
 apply jE
 simp [Zz,hi]
def Zg (n) (hg:yh ts) (hn:n<=100) (hw:az n w) (hi:i < n):zP [zh n ts,yI (Zz ts n w),.int i]=some (yI (Zz ts n (w++[i]))):=by
 have ei:uE ((Zz ts n w).map wH)=uE ((Zz ts n w).map wH):=rfl
 have le:(uE ((Zz ts n w).map wH)).length=n:=by rw [uE]; simp [Zz]
 have cm:=Rp (f:=zW qC (zb (vF 1) (zb (zW wA (zb (vF 2) (zb (vF 3) (zb (vF 0) zq)))) (zb (ze aE (vF 4) (vF 3)) zq)))) (C:=[.fr (zh n ts),.fr (.int i),.fr (yI (Zz ts n w))]) (φ:=λj=>wH (yf (zg ts) (w++[i]) (ye n j))) (uE ((Zz ts n w).map wH)) 0 .no .no (λk d hk=>by
  have Ay:k < n:=by
   have:=(iS.mp hk).1
   rwa [le] at this
  have e1:(uE ((Zz ts n w).map wH))[k]? = some (.tup [.int (k:Int),wH (yf (zg ts) w (ye n k))]):=by
   simp [uE,Zz,Ay,List.getElem?_zipIdx]
  rw [e1] at hk
  cases hk
  have pv:=Jq n hg (i:Int) (k:Int)
  have ia:=QB ts w hi
  have lv:=D5 (c:=Zw ts i k) (jv ts i k) (r:=yf (zg ts) w (ye n k)) (s:=yf (zg ts) w (ye n i)) (by rw [zK,zK,zi,zi]) (by rw [zK,zi]; exact hn)
  have ib:=K2 ts hw hi Ay
  unfold zg at ib lv
  rw [<- ib] at lv
  refine ⟨_,_,rfl,?_⟩
  unfold zg at ia
  simp only [zw,zf,zo,zm,zX,ay,ao,af,pv,b_]
  unfold zg
  rw [ia]
  simp only [af]
  exact lv)
 have hit:V8 (vF 1) [.fr (zh n ts),.fr (yI (Zz ts n w)),.fr (.int i)]=some (uE ((Zz ts n w).map wH)):=by
  simp only [Wn,zE,zX,ao,ay,af,yI,yY]
 have AM:=ku (n:=2) (caps:=[0,2,1]) (γ:=jM 2 (yp (zL 0) (yp (zL 1) kG))) (ft:=dk) (f:=zW qC (zb (vF 1) (zb (zW wA (zb (vF 2) (zb (vF 3) (zb (vF 0) zq)))) (zb (ze aE (vF 4) (vF 3)) zq)))) hit (by rw [le]; exact a7 hn)
 have cs:uS 2 [0,2,1] [.fr (zh n ts),.fr (yI (Zz ts n w)),.fr (.int i)]=[.no,.no,.fr (zh n ts),.fr (.int i),.fr (yI (Zz ts n w))]:=rfl
 rw [cs,cm,le] at AM
 simp only [zP,xN,yi,zC,aC,bg,aB,aI,q0,q4,aP,bX,z8,zx,AM,af,bL,yu,b_]
 simp only [yI,Zz,bz,Function.comp_def]
def Pp (ts) (c:n<=6) (d:w.length<=100) (i):∀ x∈yf (zg ts) w (ye n i),x.1.natAbs<=2 ^ 700/\x.2.natAbs<=2 ^ 700:=by
 have h:=HU (ts:=ts) (Na n i) (by rw [zi]; exact c) w
 have e:1 * 32 ^ w.length<=2 ^ 700:=by
  have a:(32:Nat)=2 ^ 5:=by decide
  rw [Nat.one_mul,a,<- Nat.pow_mul]
  exact Nat.pow_le_pow_right (by decide) (by omega)
 intro x b
 exact ⟨fc (h x b).1 e,fc (h x b).2 e⟩
def Qx (ts) (c:n<=6) (b:w.length<=100) (i):Fit (yf (zg ts) w (ye n i)):=λx a=>by
 have h:=Pp ts c b i x a
 exact ⟨HL (k:=701) (rZ h.1 (Nat.pow_lt_pow_right (by decide) (by decide))) (by decide),HL (k:=701) (rZ h.2 (Nat.pow_lt_pow_right (by decide) (by decide))) (by decide)⟩
def zax (r:List Gd):zdg r=Y5 r:=rfl
noncomputable def whB:FS:=wG (xE 2 (zW wW (zb (ze aE (vF 3) (vF 4)) zq))) (vX 3 (zW zP (zb (vF 0) (zb (vF 3) (zb (vF 4) zq)))))
theorem Xl (n:Nat) (hg:yh ts) (d:n<=6) (W:D):∀ (w pre:List Nat) (T:List Bool) (s:Slot),az n pre->az n w->pre.length+w.length<=100->T.length+w.length<=200->∃ b a,yo (zL 4) whB (w.map λ(i:Nat)=>.int (i:Int)) [.fr (zh n ts),.fr W,.ol (T.map D.bl),.fr (yI (Zz ts n pre)),s] =
  some (.nx [.fr (zh n ts),.fr W,.ol ((T++ub ts n pre w).map D.bl),b,a])
 | [],pre,T,s,c,hw,h1,h2=>⟨_,_,by rw [ub,bX]; rfl⟩
 | i :: w,pre,T,s,c,hw,h1,h2=>by
  have hi:i < n:=hw i aV
  rw [aB] at h1 h2
  obtain ⟨b,a,e⟩:=Xl n hg d W w (pre++[i]) (T++[Y5 (yf (zg ts) pre (ye n i))]) (.fr (.int i)) (c.app (az.one hi)) (λk h=>hw k (aZ _ h)) (by rw [aW,di]; omega) (by rw [aW,di]; omega)
  refine ⟨b,a,?_⟩
  have g:=QB ts pre hi
  have f:=UT (r:=yf (zg ts) pre (ye n i)) (by rw [zK,zi]; omega) (Qx ts d (by omega) i)
  rw [zax] at f
  have j:=Zg n hg (by omega) c hi
  have z:(T.map D.bl).length < sizeLine:=yX (by simp; omega)
  have em:(T++[Y5 (yf (zg ts) pre (ye n i))]).map D.bl=T.map D.bl++[D.bl (Y5 (yf (zg ts) pre (ye n i)))]:=by simp
  rw [dh,nF] at e
  rw [ub,aC]
  unfold yo
  rw [em] at e
  simp only [whB,yL,af,aN,aM,zr,wx,zw,zf,zo,zm,zX,ay,ao,g,f,if_pos z,z9,j]
  unfold whB at e
  exact e
def Gu (n:Nat) (hg:yh ts) (g:n<=6) (f:az n w) (h:w.length<=100):vn [zh n ts,zD w]=some (.lst ((ub ts n [] w).map D.bl)):=by
 have b:D.tup []=zD []:=rfl
 have d:=uK n hg (w:=[]) (by omega) (λi hi=>by cases hi)
 obtain ⟨k,j,e⟩:=Xl n hg g (zD w) w [] [] .no (λi hi=>by cases hi) f (by simpa using h) (by simp; omega)
 have a:0<=sizeLine:=dJ _
 rw [bg,bw] at e
 unfold vn vo
 unfold whB at e
 simp only [yi,zC,aC,bg,aB,aI,q0,q4,aP,bJ,bw,zr,wJ,xp,zo,af,if_pos a,aN,aM,z9,zw,zf,zX,wt,ao,ay,b,d,xG,zE]
 have c:KF (zD w)=some (w.map λ(i:Nat)=>.int (i:Int)):=rfl
 simp only [c,af]
 rw [e]
 simp only [af,Xq,G7,z8,zX,ao,ay,aN,aM,yu]
def Qy (n:Nat) (hg:yh ts) (c:n<=6) (b:az n w) (d:w.length<=100):k9 [zh n ts,zD w]=some (.bl ((ub ts n [] w).all id)):=by
 have a:=Gu n hg c b d
 simp only [k9,Zi,yi,zC,aC,bg,aB,aI,q0,q4,aP,bX,z8,zw,zf,zo,zX,ao,ay,af,a,zb5,yu]
theorem FV      {ι:α->D} {nm:α->List Slot} {q:α->Bool} {φ:α->D}
  (d:∀ a (pre:List Slot),pre.length=k->γ (ι a) (pre++C)=some (nm a++C)) (g:∀ a,(nm a).length=k):∀ (l:List α),(∀ a∈l,ft (nm a++C)=some (q a))->(∀ a∈l,q a=true->f (nm a++C)=some (φ a))->∀ pre:List Slot,pre.length=k →
  y8 γ ft f (l.map ι) (pre++C)=some ((l.filter q).map φ)
 | [],_,_,_,_=>rfl
 | a :: l,ht,hf,pre,i=>by
  have h:=FV d g l (λb e=>ht b (aZ _ e)) (λb e=>hf b (aZ _ e)) (nm a) (g a)
  rw [aC]
  unfold y8
  rw [d a pre i,af,ht a aV,af,h]
  cases c:q a with
  | true=>rw [if_pos rfl,hf a aV c,g4i c]; rfl
  | false=>rw [if_neg (by simp),g4j (by simp [c])]
def Uv     {ι:α->D} {q:α->Bool} {φ:α->D} (l:List α) (s:Slot) (ht:∀ a∈l,ft (.fr (ι a) :: C)=some (q a)) (c:∀ a∈l,q a=true->f (.fr (ι a) :: C)=some (φ a)) :
  y8 (zL 0) ft f (l.map ι) (s :: C)=some ((l.filter q).map φ) :=
 FV (nm:=λa=>[.fr (ι a)]) (k:=1) (λa pre b=>by
  match pre,b with
  | [x],_=>rfl) (λ_=>rfl) l ht c [s] rfl
def jo    {ι:α->D} {φ:α->D} (l:List α) (s:Slot) (hf:∀ a∈l,f (.fr (ι a) :: C)=some (φ a)) :
  y8 (zL 0) dk f (l.map ι) (s :: C)=some (l.map φ):=by
 have:=Uv (ft:=dk) (q:=λ_=>true) l s (λ_ _=>rfl) (λa ha _=>hf a ha)
 rwa [A0.mpr (λ_ _=>rfl)] at this
def B6     {ι κ:α->D} {q:α->Bool} {φ:α->D} (l:List α) (s s':Slot) (ht:∀ a∈l,ft (.fr (ι a) :: .fr (κ a) :: C)=some (q a)) (c:∀ a∈l,q a=true->f (.fr (ι a) :: .fr (κ a) :: C)=some (φ a)) :
  y8 (jM 2 (yp (zL 0) (yp (zL 1) kG))) ft f (l.map λa=>.tup [ι a,κ a]) (s :: s' :: C)=some ((l.filter q).map φ) :=
 FV (nm:=λa=>[.fr (ι a),.fr (κ a)]) (k:=2) (λa pre b=>by
  match pre,b with
  | [x,y],_=>rfl) (λ_=>rfl) l ht c [s,s'] rfl
def MP     {ι κ μ:α->D} {q:α->Bool} {φ:α->D} (l:List α) (s s' b:Slot) (ht:∀ a∈l,ft (.fr (ι a) :: .fr (κ a) :: .fr (μ a) :: C)=some (q a)) (d:∀ a∈l,q a=true->f (.fr (ι a) :: .fr (κ a) :: .fr (μ a) :: C)=some (φ a)) :
  y8 (jM 3 (yp (zL 0) (yp (zL 1) (yp (zL 2) kG)))) ft f (l.map λa=>.tup [ι a,κ a,μ a]) (s :: s' :: b :: C)=some ((l.filter q).map φ) :=
 FV (nm:=λa=>[.fr (ι a),.fr (κ a),.fr (μ a)]) (k:=3) (λa pre c=>by
  match pre,c with
  | [x,y,z],_=>rfl) (λ_=>rfl) l ht d [s,s',b] rfl
abbrev lD (l:List Int):D:=.lst (l.map D.int)
def HD (n) (ts:List T3) (x:Int) (l:List Int) (a:l.length<=100):yH [zh n ts,.int x,lD l]=some (lD (bM (zu ts) x l)):=by
 have e:=Uv (ft:=UY (aU (ze fY (vF 0) (vF 1))) (aU (ze fY (zW vS (zb (vF 2) (zb (vF 1) (zb (vF 0) zq)))) (cF (.int 2))))) (f:=vF 0) (C:=[.fr (.int x),.fr (zh n ts)]) (ι:=D.int) (q:=λo=>decide (o≠x)&&decide (zu ts x o≠2)) (φ:=D.int) l .no
  (λo _=>by
   by_cases c:o=x
   .simp [c]
   .by_cases b:zu ts x o=2 <;> simp [c,b,XW]) (λo _ _=>rfl)
 have hz:(l.map D.int).length<=sizeLine:=by rw [aD]; exact a7 a
 simp only [yH,qM,yi,zC,z8,zx,xh,zE,zX,aC,bg,aB,aI,q0,q4,aP,bX,ao,ay,af,yY,if_pos hz,xJ,ud,bJ,bw,e,bL,yu]
 rfl
def Q6 (l) (x:Int) (a:l.length<=100):vQ [lD l,.int x]=some (lD (bp l x)):=by
 have e:=Uv (ft:=aU (ze fY (vF 0) (vF 1))) (f:=vF 0) (C:=[.fr (.int x)]) (ι:=D.int) (q:=λo=>decide (o≠x)) (φ:=D.int) l .no
  (λo _=>by
   by_cases c:o=x <;> simp [c]) (λo _ _=>rfl)
 have hz:(l.map D.int).length<=sizeLine:=by rw [aD]; exact a7 a
 simp only [vQ,YV,yi,zC,z8,zx,xh,zE,zX,aC,bg,aB,aI,q0,q4,aP,bX,ao,ay,af,yY,if_pos hz,xJ,ud,bJ,bw,e,bL,yu]
 rfl
open GH
def Ko (ns:List Int) (k:Nat) (a:k<=100):∃ c,jm [.lst (ns.map D.int),.int k]=some (.int c):=by
 by_cases h:k < ns.length
 .have e:aE (.lst (ns.map D.int)) (.int (k:Int))=some (.int (ns.getD k 0)):=uU (by simp [bR,h])
  have h':(k:Int) < (ns.length:Int):=by omega
  exact ⟨ns.getD k 0,by simp [jm,Kw,h',e]⟩
 .have h':¬ ((k:Int) < (ns.length:Int)):=by omega
  have m:JD (.int 17) (.int (k:Int))=some (.int (17 * k)):=vk (uL (by decide) (by decide))
  exact ⟨17 * k+9,by simp [jm,Kw,h',m]⟩
theorem JE (k:Int) (a:Slot):∀ (l:List D) (c:Int) (s2:Slot),∃ (g:Int) (b:Slot),yo (zL 2) (vX 0 (ze qe (vF 0) (cF (.int 2147483648)))) l [.fr (.int c),.fr (.int k),s2,a]=some (.nx [.fr (.int g),.fr (.int k),b,a])
 | [],c,s2=>⟨c,s2,rfl⟩
 | d :: l,c,s2=>by
  obtain ⟨g,b,e⟩:=JE k a l (c / 2147483648) (.fr d)
  refine ⟨g,b,?_⟩
  have f:=uh (i:=c) (show (0:Int) < 2147483648 by decide) (by decide)
  unfold yo
  simp only [yL,af,aN,aM,z9,zm,zX,y6,ao,ay,f]
  exact e
def kY (c:Int) (k:Nat) (q:k<=1000):∃ z:Int,0<=z/\z < 2147483648/\xl [.int c,.int k]=some (.int z):=by
 have a:za7 (.int 10) (.int 12)=some (.int (10 ^ 12)):=NF ⟨by decide,by decide,HL (k:=8) (by decide) (by decide)⟩
 by_cases d:(10:Int) ^ 12<=c
 .have b:=uh (i:=c) (show (0:Int) < 10 ^ 12 by decide) (by decide)
  have j:=y7 (i:=(k:Int)) (show (0:Int) < 61 by decide)
  have g:uY [.int ((k:Int) % 61)]=some (yy 0 ((k:Int) % 61)):=vO (by omega) (by omega)
  obtain ⟨f,s,e⟩:=JE (k:Int) .no (yy 0 ((k:Int) % 61)) (c / 10 ^ 12 - 1) .no
  have h:=y7 (i:=f) (show (0:Int) < 2147483648 by decide)
  refine ⟨f % 2147483648,by omega,by omega,?_⟩
  simp only [xl,Vk,yi,zC,aC,bg,aB,aI,q0,q4,aP,bJ,bw,zr,yM,yU,zm,zX,y6,ao,ay,af,a,zb4,d,decide_true,if_true,z9,b,U7,aM,aN,xG,jj,zf,zo,j,g]
  rw [e]
  simp only [af,z8,zm,zX,y6,ao,h,yu]
 .have r:(0:Int)<=(k:Int) * k:=LA (by omega) (by omega)
  have h1:(k:Int) * k<=1000 * 1000:=Int.mul_le_mul (by omega) (by omega) (by omega) (by omega)
  have p:JD (.int 8) (.int (k:Int))=_:=vk (uL (by omega) (by omega))
  have o:JD (.int (8 * (k:Int))) (.int (k:Int))=_:=vk (uL (by omega) (by omega))
  have n:∀ x:Int,JD (.int (x % 2147483629+k+1)) (.int (8 * (k:Int) * k+48271))=_:=λx=>vk (uL (by omega) (by omega))
  have m:∀ x:Int,JD (.int (x % 2147483647)) (.int (x % 2147483647))=_:=λx=>vk (uL (by omega) (by omega))
  have l:∀ x y:Int,JD (.int (x % 2147483587)) (.int y)=_:=λx y=>vk (uL (by omega) (by omega))
  refine ⟨_,?_,?_,by simp only [xl,Vk,yi,zC,aC,bg,aB,aI,q0,q4,aP,bJ,bw,zr,yM,yU,zm,zX,y6,ao,ay,af,a,zb4,d,decide_false,b5,if_false,wu,z9,p,o,j5,y7 (show (0:Int) < 2147483629 by decide),n,y7 (show (0:Int) < 2147483647 by decide),aN,aM,z8,m,y7 (show (0:Int) < 2147483587 by decide),l,y7 (show (0:Int) < 2147483579 by decide),yu]; rfl⟩ <;> omega
def Wz (t) (x:Int) (left:List Int):(bM t x left).length+(left.filter λo=>decide (o∉bM t x left)).length=left.length:=by
 have b:∀ o∈left,(decide (o∉bM t x left)) = !(decide (o≠x)&&decide (t x o≠2)):=λo a=>by
  have:o∈bM t x left↔(decide (o≠x)&&decide (t x o≠2))=true:=by
   unfold bM; rw [gp]; exact ⟨λz=>z.2,λz=>⟨a,z⟩⟩
  cases c:(decide (o≠x)&&decide (t x o≠2)) with
  | true=>rw [c] at this; simpa using this
  | false=>rw [c] at this; simpa using this
 rw [LG b,<- aW]
 exact (List.filter_append_perm _ _).length_eq
def Ry (l:List Int) (x:Int):((l.map D.int).any λd=>bx d (.int x))=decide (x∈l):=by
 rw [Bool.eq_iff_iff,nZ,decide_eq_true_iff]
 constructor
 .rintro ⟨d,hd,e⟩
  obtain ⟨y,a,rfl⟩:=bu.mp hd
  have:y=x:=by simpa [bx] using e
  exact this ▸ a
 .intro h
  exact ⟨.int x,A1 h,ui _⟩
def BW (l:List Int):qg (l.map D.int)<=100:=jB λd hd=>by
 obtain ⟨x,_,rfl⟩:=bu.mp hd
 exact dJ _
def Bi (b) (l:List Int) (x:Int):inD b (.int x) (lD l)=some (.bl (xor b (decide (x∈l)))):=by
 show (if qg (l.map D.int)<=100 then some (D.bl (xor b ((l.map D.int).any λd=>bx d (.int x)))) else none)=_
 rw [if_pos (BW l),Ry]
def D8 (near left:List Int) (a:left.length<=100) (s:Slot):(if (left.map D.int).length<=sizeLine then y8 (zL 0) (aU (ze (inD true) (vF 0) (vF 1))) (vF 0) (left.map D.int) [s,.fr (lD near)] else none)=some ((left.filter λo=>decide (o∉near)).map D.int):=by
 rw [if_pos (by rw [aD]; exact a7 a)]
 exact Uv (C:=[.fr (lD near)]) (ι:=D.int) (q:=λo=>decide (o∉near)) (φ:=D.int) left s (λo _=>by
  by_cases c:o∈near <;> simp [Bi,c]) (λo _ _=>rfl)
abbrev pC:FT:=aU (ze Ab (vF 4) (zW uo (zb (vR 2) zq)))
noncomputable abbrev pB:FS:=wG (vX 5 (zW yH (zb (vF 0) (zb (ze aE (vR 2) (vF 4)) (zb (vF 3) zq))))) (wG (uQ 2 (vF 5)) (wG (vX 3 (zk (qf 1 [5] (yx (vF 3)) (zL 0) (aU (ze (inD true) (vF 0) (vF 1))) (vF 0)))) (zbg 4 (λi j=>i+j) (cF (.int 1)))))
def Hn (n) (ts:List T3) (x:Int) (part left:List Int) (p:Nat) (a:Slot) (y:Int) (h:part[p]? = some y) (hz:part.length+left.length<=50) :
  pB [.fr (zh n ts),.fr (.int x),.ol (part.map D.int),.fr (lD left),.fr (.int p),a]=some (.nx [.fr (zh n ts),.fr (.int x),.ol ((part++bM (zu ts) y left).map D.int),.fr (lD (left.filter λo=>decide (o∉bM (zu ts) y left))),.fr (.int ((p+1:Nat):Int)),.fr (lD (bM (zu ts) y left))]):=by
 have h1:aE (.lst (part.map D.int)) (.int (p:Int))=some (.int y):=uU (by rw [cK,h]; rfl)
 have h2:=HD n ts y left (by omega)
 have c:=D8 (bM (zu ts) y left) left (by omega) .no
 have d:=Wz (zu ts) y left
 have b:(part.map D.int).length+((bM (zu ts) y left).map D.int).length<=sizeLine:=by rw [aD,aD]; exact a7 (by omega)
 simp only [pB,zr,z9,zw,zf,zo,zX,KL,zm,ao,ay,af,h1,h2,aN,aM,qs,if_pos b,zx,xh,zE,yY,xJ,aC,bg,ud,aP,bJ,bw,c,bL,zbg,y6,bK]
 rfl
theorem VM (n) (ts:List T3) (x:Int):∀ (k N) (part left) (p:Nat) (s5),part.length+left.length<=k+p->k < N->part.length+left.length<=50 →
  ∃ b a c,yS pC pB N [.fr (zh n ts),.fr (.int x),.ol (part.map D.int),.fr (lD left),.fr (.int p),s5]=some (.nx [.fr (zh n ts),.fr (.int x),.ol ((YQ (zu ts) k part left p).map D.int),b,a,c])
 | k,0,part,left,p,s5,h1,h2,f=>by omega
 | k,N+1,part,left,p,s5,h1,h2,f=>by
  have d:pC [.fr (zh n ts),.fr (.int x),.ol (part.map D.int),.fr (lD left),.fr (.int p),s5]=some (decide ((p:Int) < (part.length:Int))):=by
   simp only [pC,yU,zm,zX,zw,zf,zo,KL,ao,ay,af,j4,zdp,aD]
  have stop:part.length<=p->yS pC pB (N+1) [.fr (zh n ts),.fr (.int x),.ol (part.map D.int),.fr (lD left),.fr (.int p),s5]=some (.nx [.fr (zh n ts),.fr (.int x),.ol (part.map D.int),.fr (lD left),.fr (.int p),s5]):=λh=>by
   unfold yS
   rw [d,decide_eq_false (by omega)]
   rfl
  match k with
  | 0=>exact ⟨_,_,_,stop (by omega)⟩
  | k+1 =>
   cases e:part[p]? with
   | none =>
    have:=List.getElem?_eq_none_iff.mp e
    unfold YQ
    rw [e]
    exact ⟨_,_,_,stop this⟩
   | some y =>
    have h:p < part.length:=(iS.mp e).1
    have i:=Wz (zu ts) y left
    obtain ⟨b,a,c,g⟩:=VM n ts x k N (part++bM (zu ts) y left) (left.filter λo=>decide (o∉bM (zu ts) y left)) (p+1) (.fr (lD (bM (zu ts) y left))) (by rw [aW]; omega) (by omega) (by rw [aW]; omega)
    refine ⟨b,a,c,?_⟩
    unfold YQ yS
    rw [d,decide_eq_true (by omega),e]
    show (pB _).bind _=_
    rw [Hn n ts x part left p s5 y e f]
    exact g
def uy (n:Nat):yy 0 (n:Int)=(idx n).map D.int:=by
 unfold yy idx
 rw [bz,show ((n:Int) - 0).toNat=n by omega]
 exact fH λk _=>by simp
def wz (n):(idx n).length=n:=by simp [idx]
set_option tactic.hygienic true in
theorem Cq (t):∀ k part left p,(YQ t k part left p).length<=part.length+left.length
 | 0,part,left,p=>by unfold YQ; omega
 | k+1,part,left,p=>by
  unfold YQ
  split
  .omega
  .rename_i x _
   have:=Cq t k (part++bM t x left) (left.filter λo=>decide (o∉bM t x left)) (p+1)
   have a:=Wz t x left
   rw [aW] at this
   omega
def RS (a:x∈idx n):(bp (idx n) x).length+1=n:=by
 have h:=(xP n)
 have:(([x]:List Int)++bp (idx n) x).Perm (idx n):=by
  refine jw ?_ h λy=>?_
  .rw [nF,nY]
   refine ⟨λz=>?_,h.filter _⟩
   unfold bp at z
   simpa using (gp.mp z).2
  .rw [nF,aS]
   unfold bp
   rw [gp]
   constructor
   .rintro (rfl | z)
    .exact a
    .exact z.1
   .intro z
    by_cases c:y=x
    .exact .inl c
    .exact .inr ⟨z,decide_eq_true c⟩
 have:=this.length_eq
 rw [aW,wz,di] at this
 omega
def Wd (h:fa ρ=some [lD l]) (a:l.length < 64):KB fa ρ=some ((sortI l).map D.int):=by
 rw [Nf,h]
 show (vx (l.map D.int)).bind _=_
 rw [uC,af,if_pos a]
def Dv (n) (ts:List T3) (x:Int) (j:n<=40) (d:x∈idx n):ki [zh n ts,.int x]=some (lD (sortI (jf (zu ts) n x))):=by
 have i:=RS d
 obtain ⟨c,b,a,h⟩:=VM n ts x n 100000 [x] (bp (idx n) x) 0 .no (by simp; omega) (by omega) (by simp; omega)
 have g:aE (zh n ts) (.int 0)=some (.int n):=by unfold zh; exact g6
 have h1:(if -(2 ^ 62)<=(n:Int)/\(n:Int)<=1000000 then some (yy 0 (n:Int)) else none)=some ((idx n).map D.int):=by rw [if_pos (by omega),uy]
 have h2:=Q6 (idx n) x (by rw [wz]; omega)
 have e:=Cq (zu ts) n [x] (bp (idx n) x) 0
 have f:=Wd (fa:=zb (vR 2) zq) (ρ:=[.fr (zh n ts),.fr (.int x),.ol ((YQ (zu ts) n [x] (bp (idx n) x) 0).map D.int),c,b,a]) (l:=YQ (zu ts) n [x] (bp (idx n) x) 0) rfl (by simp at e; omega)
 have hz:1<=sizeLine:=a7 (by omega)
 simp only [ki,YX,yi,zC,aC,bg,aB,aI,q0,q4,aP,bJ,bw,zr,wJ,xp,zf,zo,zX,ao,ay,af,if_pos hz,aN,aM,z9,zw,zx,Dc,zm,y6,g,h1,h2,bL]
 have h:yS pC pB 100000 [.fr (zh n ts),.fr (.int x),.ol [.int x],.fr (lD (bp (idx n) x)),.fr (.int 0),.no]=_:=h
 rw [h]
 simp only [af,z8,zx,f,bL,yu]
 rfl
abbrev cC:FT:=aU (ze eU (zW uo (zb (vF 4) zq)) (cF (.int 0)))
noncomputable abbrev cB:FS:=wG (vX 5 (zW yH (zb (vF 0) (zb (ze aE (vR 3) (UL za9 (cF (.int 1)))) (zb (vF 4) zq))))) (wG (cg (aU (ze fY (zW uo (zb (vF 5) zq)) (cF (.int 1)))) (j6 (cF .non)) cS) (wG (xE 3 (ze aE (vF 5) (cF (.int 0)))) (vX 4 (zW vQ (zb (vF 4) (zb (ze aE (vF 5) (cF (.int 0))) zq))))))
def Rw (pre) (x:Int):aE (.lst ((pre++[x]).map D.int)) (.int (-1))=some (.int x):=by
 have e:aE (.lst ((pre++[x]).map D.int)) (.int (-1))=atI ((pre++[x]).map D.int) (-1):=rfl
 rw [e]
 unfold atI fO
 simp
 rw [if_pos (by omega)]
 have e2:(-1+((pre.length:Int)+1)).toNat=pre.length:=by omega
 rw [af,e2]
 simp
def MW (h:y∈l):(bp l y).length < l.length:=by
 unfold bp
 have:=List.length_filter_lt_length_iff_exists (p:=λo=>decide (o≠y)) (l:=l)
 exact this.mpr ⟨y,h,by simp⟩
def NT:Option (List Int)->Option D
 | some o=>some (lD o)
 | none=>some .non
theorem XM (n) (ts:List T3) (ms:D) (f:D):∀ k N pre x left a,left.length<=k->k < N->pre.length+left.length<=50 →
  (∃ c g,∃ o,chG (zu ts) k x left=some o/\yS cC cB N [.fr (zh n ts),.fr ms,.fr f,.ol ((pre++[x]).map D.int),.fr (lD left),a]=some (.nx [.fr (zh n ts),.fr ms,.fr f,.ol ((pre++x :: o).map D.int),c,g])) ∨
  (chG (zu ts) k x left=none/\yS cC cB N [.fr (zh n ts),.fr ms,.fr f,.ol ((pre++[x]).map D.int),.fr (lD left),a]=some (.rt .non))
 | k,0,pre,x,left,a,h1,h2,v=>by omega
 | k,N+1,pre,x,left,a,h1,h2,v=>by
  have d:cC [.fr (zh n ts),.fr ms,.fr f,.ol ((pre++[x]).map D.int),.fr (lD left),a]=some (decide ((0:Int) < (left.length:Int))):=by
   simp only [cC,yU,zm,zX,zw,zf,zo,ao,ay,af,j4,Gm,aD,y6]
  by_cases e:left=[]
  .subst e
   refine .inl ⟨.fr (lD []),a,[],by cases k <;> rfl,?_⟩
   unfold yS
   rw [d]
   rfl
  .have A:0 < left.length:=r_.mpr e
   match k with
   | 0=>omega
   | k+1 =>
    have q:=HD n ts x left (by omega)
    have s:=Rw pre x
    have a1:vX 5 (zW yH (zb (vF 0) (zb (ze aE (vR 3) (UL za9 (cF (.int 1)))) (zb (vF 4) zq)))) [.fr (zh n ts),.fr ms,.fr f,.ol ((pre++[x]).map D.int),.fr (lD left),a]=some (.nx [.fr (zh n ts),.fr ms,.fr f,.ol ((pre++[x]).map D.int),.fr (lD left),.fr (lD (bM (zu ts) x left))]):=by
     simp only [z9,zw,zf,zo,zX,KL,zm,Ya,y6,Nj,ao,ay,af,s,q,aN,aM]
    have a2:∀ l:List Int,aU (ze fY (zW uo (zb (vF 5) zq)) (cF (.int 1))) [.fr (zh n ts),.fr ms,.fr f,.ol ((pre++[x]).map D.int),.fr (lD left),.fr (lD l)]=some (!decide ((l.length:Int)=1)):=λl=>by
     simp only [yU,zm,zw,zf,zo,zX,y6,ao,ay,af,j4,aD,zb1]
    have b:(bM (zu ts) x left).length≠1->yS cC cB (N+1) [.fr (zh n ts),.fr ms,.fr f,.ol ((pre++[x]).map D.int),.fr (lD left),a]=some (.rt .non):=λB=>by
     unfold yS
     rw [d,decide_eq_true (by omega)]
     show (cB _).bind _=_
     unfold cB
     rw [zr,a1]
     show (wG _ _ _).bind _=_
     rw [zr,yM,a2,decide_eq_false (by omega)]
     rfl
    unfold chG
    rw [if_neg e]
    cases h:bM (zu ts) x left with
    | nil=>exact .inr ⟨rfl,b (by rw [h]; simp)⟩
    | cons y r =>
     cases r with
     | cons z r=>exact .inr ⟨rfl,b (by rw [h]; simp)⟩
     | nil =>
      have m:y∈left:=WA (t:=zu ts) (x:=x) (by rw [h]; exact aV)
      have p:=Q6 left y (by omega)
      have w:=MW m
      have hz:((pre++[x]).map D.int).length < sizeLine:=by
       rw [aD,aW,di]; exact yX (by omega)
      have j:aE (lD [y]) (.int 0)=some (.int y):=by simp [aE,atI,fO]
      have st:cB [.fr (zh n ts),.fr ms,.fr f,.ol ((pre++[x]).map D.int),.fr (lD left),a]=some (.nx [.fr (zh n ts),.fr ms,.fr f,.ol (((pre++[x])++[y]).map D.int),.fr (lD (bp left y)),.fr (lD [y])]):=by
       unfold cB
       rw [zr,a1,h,af]
       dsimp only
       rw [zr,yM,a2]
       simp only [di,decide_true,iz,af,b5,if_false,wu,zr,wx,zm,zX,y6,ao,ay,j,if_pos hz,aN,aM,z9,zw,zf,zo,p,Int.ofNat_one]
       rw [bK (l₁:=pre++[x])]
       rfl
      have i:∀ R,yS cC cB N [.fr (zh n ts),.fr ms,.fr f,.ol (((pre++[x])++[y]).map D.int),.fr (lD (bp left y)),.fr (lD [y])]=R->yS cC cB (N+1) [.fr (zh n ts),.fr ms,.fr f,.ol ((pre++[x]).map D.int),.fr (lD left),a]=R:=λR u=>by
       unfold yS
       rw [d,decide_eq_true (by omega)]
       show (cB _).bind _=_
       rw [st]
       exact u
      rcases XM n ts ms f k N (pre++[x]) y (bp left y) (.fr (lD [y])) (by omega) (by omega) (by rw [aW,di]; omega) with ⟨c,g,o,e1,e2⟩ | ⟨e1,e2⟩
      .refine .inl ⟨c,g,y :: o,by show Option.map (y :: ·) (chG (zu ts) k y (bp left y))=_; rw [e1]; rfl,i _ ?_⟩
       rw [e2]
       simp
      .exact .inr ⟨by show Option.map (y :: ·) (chG (zu ts) k y (bp left y))=_; rw [e1]; rfl,i _ e2⟩
def Ca (n) (ts:List T3) (ms:List Int) (f:Int) (c:ms.length<=40):vg [zh n ts,lD ms,.int f]=NT (uZ (zu ts) ms f):=by
 have a:=Q6 ms f (by omega)
 have b:(bp ms f).length<=ms.length:=g3w _ _
 have hz:1<=sizeLine:=a7 (by omega)
 have pre:vg [zh n ts,lD ms,.int f]=Wx ((yS cC cB 100000 [.fr (zh n ts),.fr (lD ms),.fr (.int f),.ol (([]++[f]).map D.int),.fr (lD (bp ms f)),.no]).bind λo=>match o with | .nx aO=>PV 3 (j6 (vF 3)) aO | o=>some o):=by
  simp only [vg,qO,yi,zC,aC,bg,aB,aI,q0,q4,aP,bJ,bw,zr,wJ,xp,zf,zo,zX,ao,ay,af,if_pos hz,aN,aM,z9,zw,a]
  try rfl
 rw [pre]
 unfold uZ
 rcases XM n ts (lD ms) (.int f) ms.length 100000 [] f (bp ms f) .no b (by omega) (by simp; omega) with ⟨s4,s5,o,e1,e2⟩ | ⟨e1,e2⟩
 .rw [e1,e2]
  rfl
 .rw [e1,e2]
  rfl
theorem jA:∀ (l:List (Option (List Int))),(l.filter (·.isSome)).map (λo=>(NT o).getD .non)=(l.filterMap id).map lD
 | []=>rfl
 | none :: l=>by
  rw [g4j (by simp),List.filterMap_cons_none rfl]
  exact jA l
 | some o :: l=>by
  rw [g4i rfl,aC,jA l]
  rfl
def XI (n) (ts:List T3) (ms:List Int) (a:ms.length<=40):kl [zh n ts,lD ms]=some (.lst ((xf (zu ts) ms).map lD)):=by
 have e1:=jo (f:=zW vg (zb (vF 1) (zb (vF 2) (zb (vF 0) zq)))) (C:=[.fr (zh n ts),.fr (lD ms)]) (ι:=D.int) (φ:=λf=>(NT (uZ (zu ts) ms f)).getD .non) ms .no (λf _=>by
  have:=Ca n ts ms f a
  simp only [zw,zf,zo,zX,ao,ay,af,this]
  cases uZ (zu ts) ms f <;> rfl)
 have e2:=Uv (ft:=aU (ze (iM true) (vF 0) (cF .non))) (f:=vF 0) (C:=[]) (ι:=λo=>(NT o).getD .non) (q:=λo=>o.isSome) (φ:=λo=>(NT o).getD .non) (ms.map (uZ (zu ts) ms)) .no (λo _=>by
  cases o <;> rfl) (λo _ _=>rfl)
 rw [jA,bz,List.filterMap_map] at e2
 have hz:(ms.map D.int).length<=sizeLine:=by rw [aD]; exact a7 (by omega)
 have b:(ms.map ((λo=>(NT o).getD D.non) ∘ uZ (zu ts) ms)).length<=sizeLine:=by rw [aD]; exact a7 (by omega)
 have e1:_=some (ms.map ((λo=>(NT o).getD D.non) ∘ uZ (zu ts) ms)):=e1
 simp only [kl,Vn,yi,zC,aC,bg,aB,aI,q0,q4,aP,bJ,bw,zr,z9,zx,xh,zE,zX,ao,ay,af,yY,if_pos hz,xJ,ud,e1,bL,aN,aM,z8,if_pos b,e2,yu]
 rfl
def Gr (t) (o:List Int):(List.zip o (o.drop 1)).map (λp=>t p.1 p.2)=qK t o:=by
 unfold qK
 rw [List.zip,List.map_zipWith]
def zfa (l:List D):Y4 l (some 1) none=l.drop 1:=by
 unfold Y4 HT.sIx
 simp
 cases l with
 | nil=>rfl
 | cons a l=>simp
def CC (n) (ts:List T3) (o:List Int) (b:o.length<=40):vz [zh n ts,lD o]=some (lD (qK (zu ts) o)):=by
 have e1:=B6 (ft:=dk) (f:=zW vS (zb (vF 2) (zb (vF 0) (zb (vF 1) zq)))) (C:=[.fr (zh n ts)]) (ι:=λp:Int×Int=>.int p.1) (κ:=λp:Int×Int=>.int p.2) (q:=λ_=>true) (φ:=λp=>.int (zu ts p.1 p.2)) (List.zip o (o.drop 1)) .no .no (λ_ _=>rfl) (λp _ _=>by
  simp only [zw,zf,zo,zX,ao,ay,af,XW])
 rw [A0.mpr (λ_ _=>rfl)] at e1
 have a:UZ (o.map D.int) ((o.map D.int).drop 1)=(List.zip o (o.drop 1)).map λp:Int×Int=>.tup [.int p.1,.int p.2]:=by
  unfold UZ
  rw [<- LN,List.zip_map,bz]
  rfl
 have hz:(UZ (o.map D.int) ((o.map D.int).drop 1)).length<=sizeLine:=by
  rw [a,aD,List.length_zip]
  exact a7 (by omega)
 simp only [vz,uV,yi,zC,aC,bg,aB,aI,q0,q4,aP,bX,bJ,bw,z8,zx,xh,Jk,zE,zX,ZD,C8,zb0,y6,ao,ay,af,yY,zfa,if_pos hz,xJ,ud]
 rw [a,e1]
 simp only [bL,af,yu]
 rw [<- Gr]
 show _=some (D.lst ((dI _ _).map D.int))
 rw [bz]
 rfl
def ze1:Nat->Str
 | 1=>"a" | 2=>"b" | 4=>"d" | 5=>"e" | 6=>"f" | 8=>"h" | 9=>"i" | _=>"-"
def kT (k:Kd):Str:=if k.1=0 then "-" else jn Ib [ze1 k.1,toString (k.2:Int)]
abbrev kD (k:Kd):D:=.str (kT k)
def Tw:kT (6,4)="f4":=by decide +kernel
def Tv:kT (8,3)="h3":=by decide +kernel
def Tu:kT (8,4)="h4":=by decide +kernel
def Tt:kT (9,5)="i5":=by decide +kernel
def Ts:kT (9,6)="i6":=by decide +kernel
def Tx:kT (5,6)="e6":=by decide +kernel
def Fh:(aK 50).all (λn=>decide ((jn Ib ["a",toString (n:Int)]).length<=100)&&decide ((jn Ib ["b",toString (n:Int)]).length<=100)&&decide ((jn Ib ["d",toString (n:Int)]).length<=100))=true:=by decide +kernel
def TM {n:Nat} (h:n < 50):(jn Ib ["a",toString (n:Int)]).length<=100/\(jn Ib ["b",toString (n:Int)]).length<=100/\(jn Ib ["d",toString (n:Int)]).length<=100:=by
 have:=bS.mp Fh n (dA.mpr h)
 rw [dR,dR] at this
 exact ⟨of_decide_eq_true this.1.1,of_decide_eq_true this.1.2,of_decide_eq_true this.2⟩
def WI    {n:Nat} (h:f ρ=some (.int n)) (b:n < 50) (a:(jn Ib [c,toString (n:Int)]).length<=100):WJ (FR c (P0 f Pb)) ρ=some (.str (jn Ib [c,toString (n:Int)])):=by
 have hg:((n:Int).natAbs).log2 < 1920:=rZ (Nat.log2_le_self _) (by omega)
 unfold WJ FR P0 Pb
 rw [h]
 show ((((if ((n:Int).natAbs).log2 < 1920 then some (toString (n:Int)) else none:Option Str).bind λz=>some [z]).bind (λzs=>some (c :: zs))).bind _)=_
 rw [if_pos hg]
 show (if (jn Ib [c,toString (n:Int)]).length<=sizeLine then _ else none)=_
 rw [if_pos (a7 a)]
theorem J5:∀ a b:List Int,WW (a.map D.int) (b.map D.int)=decide (a=b)
 | [],[]=>rfl
 | [],_ :: _=>rfl
 | _ :: _,[]=>rfl
 | x :: a,y :: b=>by
  rw [aC,aC]
  unfold WW
  rw [J5 a b]
  by_cases c:x=y <;> by_cases d:a=b <;> simp [bx,c,d]
def FF (l):dep (lD l)<=100:=by
 have:=MM l
 show dep (.lst (l.map D.int))<=100
 omega
def J6 (a b):b9 (lD a) (lD b)=some (.bl (decide (a=b))):=by
 unfold b9
 rw [if_pos (FF a)]
 show some (D.bl (WW (a.map D.int) (b.map D.int)))=_
 rw [J5]
def WB (h:f ρ=some (.int k)) (h1 : -100<=k) (h2:k<=100):Zq (zk (ym (zb (cF (.int 3)) zq))) f ρ=some ((aP k.toNat (3:Int)).map D.int):=by
 have hz:1<=sizeLine:=a7 (by omega)
 simp only [Ma,zx,xp,zf,y6,zo,af,aB,aI,b_,if_pos hz,bL,h]
 rw [if_pos (by omega),List.map_replicate]
 congr 1
 generalize k.toNat=m
 induction m with
 | zero=>rfl
 | succ m a=>rw [nE,n0,a]; rfl
def PB (l) (x:l.length<=40):xD [lD l]=some (kD (zbc l)):=by
 obtain ⟨u,t,_⟩:=TM (n:=l.length+1) (by omega)
 have hz:1<=sizeLine:=a7 (by omega)
 have o:=WB (f:=ze vp (vF 1) (cF (.int 1))) (ρ:=[.fr (lD l),.fr (.int ((l.length:Int)+1))]) (k:=(l.length:Int)) (by simp) (by omega) (by omega)
 have m:=WB (f:=ze vp (vF 1) (cF (.int 2))) (ρ:=[.fr (lD l),.fr (.int ((l.length:Int)+1))]) (k:=(l.length:Int) - 1) (by simp; omega) (by omega) (by omega)
 have q:((l.length:Int)).toNat=l.length:=by omega
 have p:((l.length:Int) - 1).toNat=l.length - 1:=by omega
 rw [q] at o
 rw [p] at m
 have w:=WI (c:="a") (f:=vF 1) (ρ:=[.fr (lD l),.fr (.int ((l.length:Int)+1))]) (n:=l.length+1) rfl (by omega) u
 have v:=WI (c:="b") (f:=vF 1) (ρ:=[.fr (lD l),.fr (.int ((l.length:Int)+1))]) (n:=l.length+1) rfl (by omega) t
 have s:=J6 l (aP l.length 3)
 have r:=J6 l (aP (l.length - 1) 3++[4])
 have ad:xn (.lst ((aP (l.length - 1) (3:Int)).map D.int)) (.lst [.int 4])=some (lD (aP (l.length - 1) 3++[4])):=by
  unfold xn
  dsimp only
  rw [if_pos (by simp; exact a7 (by omega))]
  simp
 have gt:TZ [([3,4,3],(.str "f4")),([3,5],(.str "h3")),([3,3,5],(.str "h4")),([5],(.str "i5")),([6],(.str "i6"))] (.tup (l.map D.int)) (.str "-")=some ((h_ l [([3,4,3],(D.str "f4")),([3,5],(.str "h3")),([3,3,5],(.str "h4")),([5],(.str "i5")),([6],(.str "i6"))]).getD (.str "-")):=by
  unfold TZ
  dsimp only
  rw [uC]
  rfl
 have start:xD [lD l]=Wx (wG (cg (aU (ze b9 (vF 0) (zk (Zq (zk (ym (zb (cF (.int 3)) zq))) (ze vp (vF 1) (cF (.int 1))))))) (j6 (WJ (FR "a" (P0 (vF 1) Pb)))) cS) (wG (cg (aU (ze b9 (vF 0) (ze xn (zk (Zq (zk (ym (zb (cF (.int 3)) zq))) (ze vp (vF 1) (cF (.int 2))))) (zk (ym (zb (cF (.int 4)) zq)))))) (j6 (WJ (FR "b" (P0 (vF 1) Pb)))) cS) (j6 (ze (TZ [([3,4,3],(.str "f4")),([3,5],(.str "h3")),([3,3,5],(.str "h4")),([5],(.str "i5")),([6],(.str "i6"))]) (zW vJ (zb (vF 0) zq)) (cF (.str "-"))))) [.fr (lD l),.fr (.int ((l.length:Int)+1))]):=by
  simp [xD,v7,aP]
 rw [start,zr,yM,yU,zm,zx,o]
 simp only [zX,ao,af,bL,s]
 unfold zbc
 by_cases b:l=aP l.length 3
 .rw [if_pos b,if_pos (decide_eq_true b),z8,w]
  rfl
 .rw [if_neg b,if_neg (by simpa using b)]
  simp only [wu,af]
  rw [zr,yM,yU,zm,zm,zx,m]
  simp only [zX,ao,af,bL,zx,xp,zf,y6,zo,aB,aI,b_,if_pos hz,ad,r]
  by_cases a:l=aP (l.length - 1) 3++[4]
  .rw [if_pos a,if_pos (decide_eq_true a),z8,v]
   rfl
  .rw [if_neg a,if_neg (by simpa using a)]
   simp only [wu,af,z8,zm,zw,zf,zo,zX,ao,GY,y6,gt,yu]
   by_cases j:l=[3,4,3]
   .subst j; rw [if_pos rfl]; show _=some (D.str (kT (6,4))); rw [Tw]; rfl
   .rw [if_neg j]
    by_cases i:l=[3,5]
    .subst i; rw [if_pos rfl]; show _=some (D.str (kT (8,3))); rw [Tv]; rfl
    .rw [if_neg i]
     by_cases h:l=[3,3,5]
     .subst h; rw [if_pos rfl]; show _=some (D.str (kT (8,4))); rw [Tu]; rfl
     .rw [if_neg h]
      by_cases g:l=[5]
      .subst g; rw [if_pos rfl]; show _=some (D.str (kT (9,5))); rw [Tt]; rfl
      .rw [if_neg g]
       by_cases d:l=[6]
       .subst d; rw [if_pos rfl]; show _=some (D.str (kT (9,6))); rw [Ts]; rfl
       .rw [if_neg d]
        have e:h_ l [([3,4,3],(D.str "f4")),([3,5],(.str "h3")),([3,3,5],(.str "h4")),([5],(.str "i5")),([6],(.str "i6"))]=none:=by
         simp [h_,beq_false_of_ne,j,i,h,g,d]
        rw [e]
        rfl
def zbh (o) (i:Nat) (y:Int) (h:o[i]? = some y):aE (lD o) (.int (i:Int))=some (.int y):=uU (by rw [cK,h]; rfl)
def Ff (o) (y:Int) (i:o.length<=40):yj [lD o,.int y]=some (kD (kZ o y)):=by
 obtain ⟨_,_,g⟩:=TM (n:=o.length+1) (by omega)
 have h:=WI (c:="d") (f:=vF 2) (ρ:=[.fr (lD o),.fr (.int y),.fr (.int ((o.length:Int)+1))]) (n:=o.length+1) rfl (by omega) g
 have start:yj [lD o,.int y]=Wx (wG (cg (UY (aU (ze o_ (vF 2) (cF (.int 4)))) (aU (ze b9 (ze aE (vF 0) (cF (.int 1))) (vF 1)))) (j6 (WJ (FR "d" (P0 (vF 2) Pb)))) cS) (wG (cg (UY (aU (ze b9 (vF 2) (cF (.int 6)))) (aU (ze b9 (ze aE (vF 0) (cF (.int 2))) (vF 1)))) (j6 (cF (.str "e6"))) cS) (j6 (cF (.str "-")))) [.fr (lD o),.fr (.int y),.fr (.int ((o.length:Int)+1))]):=by
  simp [yj,xw,aP]
 have a1:UY (aU (ze o_ (vF 2) (cF (.int 4)))) (aU (ze b9 (ze aE (vF 0) (cF (.int 1))) (vF 1))) [.fr (lD o),.fr (.int y),.fr (.int ((o.length:Int)+1))]=some (decide (4<=o.length+1/\o[1]? = some y)):=by
  by_cases c:4<=o.length+1
  .have b:o[1]? = some o[1]:=fg (by omega)
   have a:(4:Int)<=(o.length:Int)+1:=by omega
   have:=zbh o 1 o[1] b
   have this:aE (lD o) (.int 1)=some (.int o[1]):=this
   simp [c,a,this,b]
  .have a:¬ (4:Int)<=(o.length:Int)+1:=by omega
   simp [c,a]
 have a2:UY (aU (ze b9 (vF 2) (cF (.int 6)))) (aU (ze b9 (ze aE (vF 0) (cF (.int 2))) (vF 1))) [.fr (lD o),.fr (.int y),.fr (.int ((o.length:Int)+1))]=some (decide (o.length+1=6/\o[2]? = some y)):=by
  by_cases c:o.length+1=6
  .have b:o[2]? = some o[2]:=fg (by omega)
   have a:(o.length:Int)+1=6:=by omega
   have:=zbh o 2 o[2] b
   have this:aE (lD o) (.int 2)=some (.int o[2]):=this
   simp [c,a,this,b]
  .have a:¬ (o.length:Int)+1=6:=by omega
   simp [c,a]
 rw [start,zr,yM,a1,af]
 unfold kZ
 by_cases e:4<=o.length+1/\o[1]? = some y
 .rw [if_pos e,if_pos (decide_eq_true e),z8,h]
  rfl
 .rw [if_neg e,if_neg (by simpa using e),wu,af]
  dsimp only
  rw [zr,yM,a2,af]
  by_cases d:o.length+1=6/\o[2]? = some y
  .rw [if_pos d,if_pos (decide_eq_true d)]
   show _=some (D.str (kT (5,6)))
   rw [Tx]
   rfl
  .rw [if_neg d,if_neg (by simpa using d)]
   rfl
theorem Cd  : ∀ {n:Nat} {x:Int} {l o:List Int},chG t n x l=some o->o.length<=n
 | 0,x,l,o,h=>by cases h; exact aT _
 | n+1,x,l,o,h=>by
  unfold chG at h
  split at h
  .cases h; exact dJ _
  .split at h
   .obtain ⟨o',a,rfl⟩:=iB.mp h
    have:=Cd a
    rw [aB]
    omega
   .cases h
def XJ (h:o∈xf t ms):o.length<=ms.length+1:=by
 obtain ⟨f,_,e⟩:=nD.mp h
 obtain ⟨o',a,rfl⟩:=iB.mp e
 have:=Cd a
 rw [aB]
 omega
def uT (t) (ms:List Int):(xf t ms).length<=ms.length:=List.length_filterMap_le _ _
def CD (t) (o:List Int):(qK t o).length<=o.length:=by
 unfold qK
 rw [List.length_zipWith]
 omega
def Py (n) (ts:List T3) (ms:List Int) (c:ms.length<=9):wV [zh n ts,lD ms]=some (.lst ((Mz (zu ts) ms).map kD)):=by
 have b:=XI n ts ms (by omega)
 have e1:=jo (f:=zW xD (zb (zW vz (zb (vF 1) (zb (vF 0) zq))) zq)) (C:=[.fr (zh n ts)]) (ι:=lD) (φ:=λo=>kD (zbc (qK (zu ts) o))) (xf (zu ts) ms) .no (λo a=>by
  have h1:=XJ a
  have h2:=CD (zu ts) o
  simp only [zw,zf,zo,zX,ao,ay,af,CC n ts o (by omega),PB (qK (zu ts) o) (by omega)])
 have hz:((xf (zu ts) ms).map lD).length<=sizeLine:=by
  have:=uT (zu ts) ms
  rw [aD]; exact a7 (by omega)
 simp only [wV,w4,yi,zC,aC,bg,aB,aI,q0,q4,aP,bX,bJ,bw,z8,zx,xh,zE,zw,zf,zo,zX,ao,ay,af,b,yY,if_pos hz,xJ,ud,e1,bL,yu]
 unfold Mz
 rw [bz]
 rfl
def Co (l:List α) (p:α->Bool):vW (l.map λa=>D.bl (p a))=some (l.map p):=by
 induction l with
 | nil=>rfl
 | cons a l b =>
  rw [aC,aC]
  unfold vW
  rw [b]
  rfl
def M0 (n) (ts:List T3) (ms:List Int) (ht:ts.length<=90):xS [zh n ts,lD ms]=some (.bl (Y7 ts ms)):=by
 have a:aE (zh n ts) (.int 1)=some (.lst (ts.map tD)):=by unfold zh; exact nO
 have e1:=MP (ft:=aU (ze (inD false) (vF 0) (vF 3))) (f:=ze b9 (vF 2) (cF (.int 3))) (C:=[.fr (lD ms)]) (ι:=λu:T3=>.int u.1) (κ:=λu:T3=>.int u.2.1) (μ:=λu:T3=>.int u.2.2) (q:=λu=>decide (u.1∈ms)) (φ:=λu=>.bl (decide (u.2.2=3))) ts .no .no .no (λu _=>by
  by_cases c:u.1∈ms <;> simp [Bi,c]) (λu _ _=>by simp)
 have hz:(ts.map tD).length<=sizeLine:=by rw [aD]; exact a7 (by omega)
 have e1:y8 (jM 3 (yp (zL 0) (yp (zL 1) (yp (zL 2) kG)))) (aU (ze (inD false) (vF 0) (vF 3))) (ze b9 (vF 2) (cF (.int 3))) (ts.map tD) [.no,.no,.no,.fr (lD ms)]=_:=e1
 simp only [xS,uv,yi,zC,aC,bg,aB,aI,q0,q4,aP,bX,bJ,bw,z8,zx,xh,zE,zw,zf,zo,zm,y6,zX,ao,ay,af,a,yY,if_pos hz,xJ,ud,e1,bL]
 show Wx (((vW (dI (λu:T3=>D.bl (decide (u.2.2=3))) (List.filter (λu:T3=>decide (u.1∈ms)) ts))).map λbs=>D.bl (bs.all id)).bind λd=>some (Out.rt d))=_
 rw [Co]
 show some (D.bl _)=_
 unfold Y7
 rw [List.all_map]
 rfl
noncomputable abbrev eB:FS:=wG (vX 4 (zW yH (zb (vF 0) (zb (vF 3) (zb (vF 1) zq))))) (cg (aU (ze b9 (zW uo (zb (vF 4) zq)) (cF (.int 1)))) (wG (vX 5 (zW kl (zb (vF 0) (zb (zW vQ (zb (vF 1) (zb (vF 3) zq))) zq)))) (uQ 2 (zk (qf 1 [4] (yx (vF 5)) (zL 0) dk (zW yj (zb (vF 0) (zb (ze aE (vF 1) (cF (.int 0))) zq))))))) cS)
def nN (t:Int->Int->Int) (ms:List Int) (e:Int):List Kd:=match bM t e ms with
 | [y]=>(xf t (bp ms e)).map λo=>kZ o y
 | _=>[]
def Px (n) (ts:List T3) (ms:List Int) (t:ms.length<=9) (a:List Kd) (ht:a.length<=90) (e:Int) (d b:Slot) :
  ∃ p q,eB [.fr (zh n ts),.fr (lD ms),.ol (a.map kD),.fr (.int e),d,b]=some (.nx [.fr (zh n ts),.fr (lD ms),.ol ((a++nN (zu ts) ms e).map kD),.fr (.int e),p,q])/\(nN (zu ts) ms e).length<=9:=by
 have h1:=HD n ts e ms (by omega)
 have i:=Q6 ms e (by omega)
 have s:(bp ms e).length<=ms.length:=g3w _ _
 have h2:=XI n ts (bp ms e) (by omega)
 have k:=uT (zu ts) (bp ms e)
 have a1:vX 4 (zW yH (zb (vF 0) (zb (vF 3) (zb (vF 1) zq)))) [.fr (zh n ts),.fr (lD ms),.ol (a.map kD),.fr (.int e),d,b]=some (.nx [.fr (zh n ts),.fr (lD ms),.ol (a.map kD),.fr (.int e),.fr (lD (bM (zu ts) e ms)),b]):=by
  simp only [z9,zw,zf,zo,zX,ao,ay,af,h1,aN,aM]
 have a2:∀ l:List Int,aU (ze b9 (zW uo (zb (vF 4) zq)) (cF (.int 1))) [.fr (zh n ts),.fr (lD ms),.ol (a.map kD),.fr (.int e),.fr (lD l),b]=some (decide ((l.length:Int)=1)):=λl=>by
  simp only [yU,zm,zw,zf,zo,zX,y6,ao,ay,af,j4,aD,Z7]
 have c:(bM (zu ts) e ms).length≠1->eB [.fr (zh n ts),.fr (lD ms),.ol (a.map kD),.fr (.int e),d,b]=some (.nx [.fr (zh n ts),.fr (lD ms),.ol ((a++[]).map kD),.fr (.int e),.fr (lD (bM (zu ts) e ms)),b]):=λu=>by
  unfold eB
  rw [zr,a1,af]
  dsimp only
  rw [yM,a2,decide_eq_false (by omega),bX]
  rfl
 unfold nN
 cases h:bM (zu ts) e ms with
 | nil=>exact ⟨_,_,c (by rw [h]; simp),by simp⟩
 | cons y r =>
  cases r with
  | cons z r=>exact ⟨_,_,c (by rw [h]; simp),by simp⟩
  | nil =>
   have g:aE (lD [y]) (.int 0)=some (.int y):=by simp [aE,atI,fO]
   have e1:=jo (f:=zW yj (zb (vF 0) (zb (ze aE (vF 1) (cF (.int 0))) zq))) (C:=[.fr (lD [y])]) (ι:=lD) (φ:=λo=>kD (kZ o y)) (xf (zu ts) (bp ms e)) .no (λo j=>by
    have h1:=XJ j
    simp only [zw,zf,zo,zX,zm,y6,ao,ay,af,g,Ff o y (by omega)])
   have hz:((xf (zu ts) (bp ms e)).map lD).length<=sizeLine:=by rw [aD]; exact a7 (by omega)
   have m:(a.map kD).length+((xf (zu ts) (bp ms e)).map λo=>kD (kZ o y)).length<=sizeLine:=by rw [aD,aD]; exact a7 (by omega)
   refine ⟨.fr (lD [y]),.fr (.lst ((xf (zu ts) (bp ms e)).map lD)),?_,by simp; omega⟩
   unfold eB
   rw [zr,a1,h,af]
   dsimp only
   rw [yM,a2]
   simp only [di,Int.ofNat_one,decide_true,af,if_true,zr,z9,zw,zf,zo,zX,ao,ay,i,h2,aN,aM,qs,zx,xh,zE,yY,if_pos hz,xJ,ud,aC,bg,aP,bJ,bw,e1,bL,if_pos m]
   rw [bK,bz]
   rfl
theorem Ba (n) (ts:List T3) (ms:List Int) (c:ms.length<=9):∀ (es:List Int) (told) (s3 s4 s5),told.length+9 * es.length<=90 →
  ∃ j a b,yo (zL 3) eB (es.map D.int) [.fr (zh n ts),.fr (lD ms),.ol (told.map kD),s3,s4,s5]=some (.nx [.fr (zh n ts),.fr (lD ms),.ol ((told++es.flatMap (nN (zu ts) ms)).map kD),j,a,b])
 | [],told,s3,s4,s5,h=>⟨_,_,_,by rw [List.flatMap_nil,bX]; rfl⟩
 | e :: es,told,s3,s4,s5,h=>by
  rw [aB] at h
  obtain ⟨a,b,h1,h2⟩:=Px n ts ms c told (by omega) e s4 s5
  obtain ⟨g,f,d,i⟩:=Ba n ts ms c es (told++nN (zu ts) ms e) (.fr (.int e)) a b (by rw [aW]; omega)
  refine ⟨g,f,d,?_⟩
  rw [aC]
  unfold yo
  simp only [yL,af,aN,aM]
  rw [h1]
  show yo _ _ _ _=_
  rw [i,nC,dh]
def Pu (n) (ts:List T3) (ms:List Int) (a:ms.length<=9) (ht:ts.length<=90):wB [zh n ts,lD ms]=some (.lst ((if Y7 ts ms=true then Pw (zu ts) ms else []).map kD)):=by
 have b:=M0 n ts ms ht
 obtain ⟨f,e,d,h1⟩:=Ba n ts ms a ms [] .no .no .no (by simp; omega)
 have hz:0<=sizeLine:=dJ _
 have start:wB [zh n ts,lD ms]=Wx (wG (cg (RF (aU (zW xS (zb (vF 0) (zb (vF 1) zq))))) (PV 2 (j6 (vF 2))) cS) (wG (QG (yx (vF 1)) (zL 3) eB) (PV 2 (j6 (vF 2)))) [.fr (zh n ts),.fr (lD ms),.ol [],.no,.no,.no]):=by
  simp only [wB,v5,yi,zC,aC,bg,aB,aI,q0,q4,aP,bJ,bw]
  rw [zr (F:=UW 2 _),wJ]
  simp only [xp,zo,af,aI,if_pos hz,aN,aM]
 have a1:RF (aU (zW xS (zb (vF 0) (zb (vF 1) zq)))) [.fr (zh n ts),.fr (lD ms),.ol [],.no,.no,.no]=some (!Y7 ts ms):=by
  simp only [Jj,yU,zw,zf,zo,zX,ao,ay,af,b]
 rw [start,zr,yM,a1,af]
 cases c:Y7 ts ms with
 | false=>rfl
 | true =>
  rw [if_neg (by simp),if_pos rfl,wu,af]
  dsimp only
  rw [zr,xG]
  simp only [zE,zX,ao,ay,af,yY]
  have h1:yo (zL 3) eB (ms.map D.int) [.fr (zh n ts),.fr (lD ms),.ol [],.no,.no,.no]=_:=h1
  rw [h1]
  rfl
def Rr:(aK 7).all (λk=>(qc k).all λB=>decide (B.1=(0,0))||decide (kT B.1≠"-"))=true:=by decide +kernel
def zar (h:B∈qc k):B.1=(0,0)\/kT B.1≠"-":=by
 have a:k < 7:=by
  match k,h with
  | 0,h=>omega
  | 1,h=>omega
  | 2,h=>omega
  | 3,h=>omega
  | 4,h=>omega
  | 5,h=>omega
  | 6,h=>omega
  | n+7,h=>cases h
 have:=bS.mp (bS.mp Rr k (dA.mpr a)) B h
 rw [AU] at this
 exact this.imp of_decide_eq_true of_decide_eq_true
abbrev kB:FS:=cg (aU (ze fY (vF 2) (cF (.str "-")))) (j6 (vF 2)) cS
def Tc (a b):fY (.str a) (.str b)=some (.bl (!decide (a=b))):=by
 unfold fY
 rw [if_pos (show dep (.str a)<=100 from dJ _)]
 by_cases c:a=b <;> simp [bx,c]
theorem V7 (g:c=(0,0)\/kT c≠"-") (a b):∀ (L:List Kd) (s),(∀ k∈L,k=(0,0)\/k=c) →
  ((c=(0,0)\/c∉L)/\∃ s',yo (zL 2) kB (L.map kD) [a,b,s]=some (.nx [a,b,s']))\/yo (zL 2) kB (L.map kD) [a,b,s]=some (.rt (kD c))
 | [],s,_=>.inl ⟨.inr (by simp),s,rfl⟩
 | k :: L,s,h=>by
  rw [aC]
  by_cases z:k=(0,0)
  .subst z
   have st:yo (zL 2) kB (kD (0,0) :: L.map kD) [a,b,s]=yo (zL 2) kB (L.map kD) [a,b,.fr (kD (0,0))]:=by
    rw [yo]
    rfl
   rw [st]
   rcases V7 g a b L (.fr (kD (0,0))) (λk d=>h k (aZ _ d)) with ⟨h1,h2⟩ | h1
   .refine .inl ⟨?_,h2⟩
    by_cases f:c=(0,0)
    .exact .inl f
    .exact .inr λm=>(aS.mp m).elim f (h1.resolve_left f)
   .exact .inr h1
  .have e:k=c:=(h k aV).resolve_left z
   subst e
   have d:=g.resolve_left z
   refine .inr ?_
   unfold yo
   simp [Tc,d]
def Fd (n) (ts:List T3) (ms:List Int) (c:Kd) (b:ms.length<=9) (ht:ts.length<=90) (h1:∀ k∈vm (zu ts) (Y7 ts ms) ms,k=(0,0)\/k=c) (h2:c=(0,0)\/c∈vm (zu ts) (Y7 ts ms) ms) (d:c=(0,0)\/kT c≠"-")
  (hz:(vm (zu ts) (Y7 ts ms) ms).length<=100):vT [zh n ts,lD ms]=some (kD c):=by
 have e1:=Py n ts ms b
 have e2:=Pu n ts ms b ht
 have ad:xn (.lst ((Mz (zu ts) ms).map kD)) (.lst ((if Y7 ts ms=true then Pw (zu ts) ms else []).map kD))=some (.lst ((vm (zu ts) (Y7 ts ms) ms).map kD)):=by
  unfold xn vm
  dsimp only
  unfold vm at hz
  rw [aW] at hz
  rw [if_pos (by rw [aD,aD]; exact a7 hz),bK]
 have start:vT [zh n ts,lD ms]=Wx ((yo (zL 2) kB ((vm (zu ts) (Y7 ts ms) ms).map kD) [.fr (zh n ts),.fr (lD ms),.no]).bind λo=>match o with | .nx aO=>j6 (cF (.str "-")) aO | o=>some o):=by
  simp only [vT,Y1,yi,zC,aC,bg,aB,aI,q0,q4,aP,bJ,bw,zr,xG,zE,zm,zw,zf,zo,zX,ao,ay,af,e1,e2,ad,yY]
  try rfl
 rw [start]
 rcases V7 d (.fr (zh n ts)) (.fr (lD ms)) _ .no h1 with ⟨a,s',e⟩ | a
 .rw [e]
  have:c=(0,0):=by
   rcases a with z | z
   .exact z
   .exact h2.resolve_right z
  subst this
  rfl
 .rw [a]
  rfl
theorem MS (t):∀ k part left p,part≠[]->YQ t k part left p≠[]
 | 0,part,left,p,h=>h
 | k+1,part,left,p,h=>by
  unfold YQ
  split
  .exact h
  .exact MS t k _ _ _ (by simp [h])
def CW (h:l≠[]):sortI l≠[]:=λz=>h (by
 have:=(yv l).length_eq
 rw [z] at this
 exact n8.mp this.symm)
abbrev PM (n:Nat) (ts:List T3) (x:Int):List Int:=sortI (jf (zu ts) n x)
def zaz (n) (ts:List T3) (x:Int):PM n ts x≠[]:=CW (MS _ _ _ _ _ (by simp))
def Fx (n) (f:Int->D):uE ((idx n).map f)=(idx n).map λx=>.tup [.int x,f x]:=by
 unfold uE
 apply AW
 .simp
 .intro i h1 h2
  simp [idx]
def Hm (n) (ts:List T3) (d:n<=40):QF [zh n ts]=some (.lst (((idx n).filter λx=>decide ((PM n ts x).headD 0=x)).map λx=>lD (PM n ts x))):=by
 have g:aE (zh n ts) (.int 0)=some (.int n):=by unfold zh; exact g6
 have c:uY [.int (n:Int)]=some ((idx n).map D.int):=by rw [vO (by omega) (by omega),uy]
 have e1:=jo (f:=zW ki (zb (vF 1) (zb (vF 0) zq))) (C:=[.fr (zh n ts)]) (ι:=D.int) (φ:=λx=>lD (PM n ts x)) (idx n) .no (λx b=>by
  simp only [zw,zf,zo,zX,ao,ay,af,Dv n ts x d b])
 have e2:=B6 (ft:=aU (ze b9 (ze aE (vF 1) (cF (.int 0))) (vF 0))) (f:=vF 1) (C:=[]) (ι:=D.int) (κ:=λx=>lD (PM n ts x)) (q:=λx=>decide ((PM n ts x).headD 0=x)) (φ:=λx=>lD (PM n ts x)) (idx n) .no .no (λx _=>by
  have i:=zaz n ts x
  cases e:PM n ts x with
  | nil=>exact absurd e i
  | cons y r =>
   have a:aE (lD (y :: r)) (.int 0)=some (.int y):=by simp [aE,atI,fO]
   simp only [yU,zm,zX,y6,ao,ay,af,a,Z7]
   rfl) (λx _ _=>rfl)
 have hz:((idx n).map D.int).length<=sizeLine:=by rw [aD,wz]; exact a7 (by omega)
 have h:((idx n).map λx=>D.tup [.int x,lD (PM n ts x)]).length<=sizeLine:=by rw [aD,wz]; exact a7 (by omega)
 simp only [QF,Q0,yi,zC,aC,bg,aB,aI,q0,q4,aP,bJ,bw,zr,z9,zx,xh,jj,zf,zo,zm,y6,zX,ao,ay,af,g,c,if_pos hz,xJ,ud,e1,bL,aN,aM,z8,Wn,zE,yY,Fx,if_pos h,e2,yu]
def K0 (n) (ts:List T3) (c:Int->Kd) (b:n<=40) (d:∀ x∈idx n,vT [zh n ts,lD (PM n ts x)]=some (kD (c x))):uO [zh n ts]=some (.lst (((idx n).filter λx=>decide ((PM n ts x).headD 0=x)).map λx=>.tup [lD (PM n ts x),kD (c x)])):=by
 have e:=Hm n ts b
 have e1:=jo (f:=tupF (zb (vF 0) (zb (zW vT (zb (vF 1) (zb (vF 0) zq))) zq))) (C:=[.fr (zh n ts)]) (ι:=λx=>lD (PM n ts x)) (φ:=λx=>.tup [lD (PM n ts x),kD (c x)]) ((idx n).filter λx=>decide ((PM n ts x).headD 0=x)) .no (λx a=>by
  have:=d x (gp.mp a).1
  simp only [wt,zw,zf,zo,zX,ao,ay,af,this,aB,aI]
  rw [if_pos (a7 (by omega))])
 have hz:(((idx n).filter λx=>decide ((PM n ts x).headD 0=x)).map λx=>lD (PM n ts x)).length<=sizeLine:=by
  rw [aD]
  have:=g3w (λx=>decide ((PM n ts x).headD 0=x)) (idx n)
  rw [wz] at this
  exact a7 (by omega)
 simp only [uO,Q4,yi,zC,aC,bg,aB,aI,q0,q4,aP,bX,bJ,bw,z8,zx,xh,zE,zw,zf,zo,zX,ao,ay,af,e,yY,if_pos hz,xJ,ud,e1,bL,yu]
def QD (h:P≠[]) (s:Str):cV (za5 P s)=.tup [lD P,.str s]:=by
 cases P with
 | nil=>exact absurd rfl h
 | cons x P=>rfl
theorem YE (n:Nat) (ts:List T3):∀ l:List Int,((l.filter λx=>decide ((PM n ts x).headD 0=x)).map λx=>D.tup [lD (PM n ts x),kD (WH (vm (zu ts) (Y7 ts (PM n ts x)) (PM n ts x)))]) =
  (l.filterMap λx=>if (sortI (jf (zu ts) n x)).headD 0=x then some (za5 (sortI (jf (zu ts) n x)) (kT (WH (vm (zu ts) (Y7 ts (sortI (jf (zu ts) n x))) (sortI (jf (zu ts) n x)))))) else none).map cV
 | []=>rfl
 | x :: l=>by
  by_cases c:(PM n ts x).headD 0=x
  .have e1:(x :: l).filter (λx=>decide ((PM n ts x).headD 0=x))=x :: l.filter (λx=>decide ((PM n ts x).headD 0=x)):=g4i (decide_eq_true c)
   rw [e1,aC,YE n ts l,A2,if_pos c,aC,QD (zaz n ts x)]
  .have e1:(x :: l).filter (λx=>decide ((PM n ts x).headD 0=x))=l.filter (λx=>decide ((PM n ts x).headD 0=x)):=g4j (by simpa using c)
   rw [e1,YE n ts l,A2,if_neg c]
def Fg (t) (b:Bool) (ms:List Int) (d:ms.length<=9):(vm t b ms).length<=100:=by
 have h1:=uT t ms
 have h2:∀ es:List Int,(es.flatMap (nN t ms)).length<=9 * es.length:=λes=>by
  induction es with
  | nil=>simp
  | cons e es c =>
   rw [nC,aW,aB]
   have:(nN t ms e).length<=9:=by
    unfold nN
    split
    .have:=uT t (bp ms e)
     have a:(bp ms e).length<=ms.length:=g3w _ _
     rw [aD]
     omega
    .simp
   omega
 unfold vm Mz
 rw [aW,aD]
 have f:(Pw t ms).length<=9 * ms.length:=h2 ms
 split
 .omega
 .simp; omega
def Hs.kall {bs:List ba} {σ:Int->Int} {p:Int×ba} (h:Hs bs σ) (a:p∈wg 0 bs) {ms:List Int} (c:ms.Perm (wM σ p)) :
  (∀ k∈vm (zu (bA bs σ)) (Y7 (bA bs σ) ms) ms,k=(0,0)\/k=p.2.2.1)/\(p.2.2.1=(0,0)\/p.2.2.1∈vm (zu (bA bs σ)) (Y7 (bA bs σ) ms) ms):=by
 rw [h.thr a c]
 obtain ⟨k1,k2⟩:=Jy (h.gb p.2 (wR a))
 have r:=λk=>JN (h.rlb a) (λy d=>d) c (b:=CQ p.2.2.2) (k:=k)
 exact ⟨λk e=>k1 k ((r k).mp e),k2.imp id λz=>(r _).mpr z⟩
def HX (h:Hs bs σ) (k:yP bs<=9) (ht:(bA bs σ).length<=90):uO [zh (yP bs) (bA bs σ)]=some (.lst ((kJ ((wg 0 bs).map (UV kT σ))).map cV)):=by
 rw [<- HY kT h]
 unfold JL
 rw [<- YE]
 refine K0 (yP bs) (bA bs σ) (λx=>WH (vm (zu (bA bs σ)) (Y7 (bA bs σ) (PM (yP bs) (bA bs σ) x)) (PM (yP bs) (bA bs σ) x))) (by omega) λx d=>?_
 rw [yN] at d
 obtain ⟨i,hi,m,rfl⟩:=h.rl.sur x d.1 d.2
 obtain ⟨p,c,e⟩:=Hh (bs:=bs) (b:=0) (x:=i) (by omega) (by omega)
 have j:σ i∈wM σ p:=xx.mpr ⟨i,e,rfl⟩
 obtain ⟨g,f⟩:=h.row c j
 show vT [_,lD (sortI (jf (zu (bA bs σ)) (yP bs) (σ i)))]=some (kD (WH (vm _ (Y7 _ (sortI (jf (zu (bA bs σ)) (yP bs) (σ i)))) (sortI (jf (zu (bA bs σ)) (yP bs) (σ i))))))
 rw [g,f]
 obtain ⟨k1,k2⟩:=Hs.kall h c (yv (wM σ p))
 have l:=xH c
 have a:(sortI (wM σ p)).length<=9:=by
  rw [(yv _).length_eq]
  unfold wM
  rw [aD,wz]
  omega
 exact Fd _ _ _ _ a ht k1 k2 (zar (h.gb p.2 (wR c))) (Fg _ _ _ a)
def QR (ts:List Int) (h:ts.length<=40):zt [lD ts]=some (.lst ((yJ ts).map tD)):=by
 have a:uY [.int (ts.length:Int)]=some ((idx ts.length).map D.int):=by rw [vO (by omega) (by omega),uy]
 have e1:=jo (f:=tupF (zb (vF 0) (zb (ze xn (vF 0) (cF (.int 1))) (zb (ze aE (vF 1) (vF 0)) zq)))) (C:=[.fr (lD ts)]) (ι:=D.int) (φ:=λk=>.tup [.int k,.int (k+1),.int (ts.getD k.toNat 0)]) (idx ts.length) .no (λk b=>by
  rw [yN] at b
  have:=zbh ts k.toNat (ts.getD k.toNat 0) (by simp [bR,show k.toNat < ts.length by omega])
  rw [show ((k.toNat:Nat):Int)=k by omega] at this
  have hz:3<=sizeLine:=a7 (by omega)
  simp only [wt,zf,zo,zX,zm,y6,ao,ay,af,j5,this,aB,aI,q0,if_pos hz])
 have hz:((idx ts.length).map D.int).length<=sizeLine:=by rw [aD,wz]; exact a7 (by omega)
 simp only [zt,YZ,yi,zC,aC,bg,aB,aI,q0,q4,aP,bX,bJ,bw,z8,zx,xh,jj,zf,zo,zw,j4,aD,zX,ao,ay,af,a]
 rw [aD] at hz
 rw [if_pos hz]
 simp only [xJ,ud,aC,bg,aP,bJ,bw,ao,ay,e1,bL,af,yu]
 congr 2
 unfold yJ idx
 rw [bz,bz]
 apply AW
 .simp
 .intro i h1 h2
  simp at h1
  simp [tD,bR,h1]
abbrev cD (ts:List T3):D:=.lst (ts.map tD)
def F3 (a b:List Int) (h:a.length+b.length<=100):xn (lD a) (lD b)=some (lD (a++b)):=by
 unfold xn
 dsimp only
 rw [if_pos (by rw [aD,aD]; exact a7 h),<- bK]
def zau (a b:List T3) (h:a.length+b.length<=100):xn (cD a) (cD b)=some (cD (a++b)):=by
 unfold xn
 dsimp only
 rw [if_pos (by rw [aD,aD]; exact a7 h),<- bK]
def W4 (ts:List Int):(yJ ts).length=ts.length:=by unfold yJ; simp
def Pm:zk (ym (zb (cF (.int x)) zq)) ρ=some (lD [x]):=by
 have hz:1<=sizeLine:=a7 (by omega)
 simp only [zx,xp,zf,y6,zo,af,aB,aI,b_,if_pos hz,bL]
 rfl
def zct:zk (ym (zb (cF (.int x)) (zb (cF (.int y)) zq))) ρ=some (lD [x,y]):=by
 have hz:2<=sizeLine:=a7 (by omega)
 simp only [zx,xp,zf,y6,zo,af,aB,aI,b_,q0,if_pos hz,bL]
 rfl
def zd3:zk (ym (zb (cF (.int x)) (zb (cF (.int y)) (zb (cF (.int z)) zq)))) ρ=some (lD [x,y,z]):=by
 have hz:3<=sizeLine:=a7 (by omega)
 simp only [zx,xp,zf,y6,zo,af,aB,aI,b_,q0,if_pos hz,bL]
 rfl
def ze0:zk (ym (zb (cF (.int x)) (zb (cF (.int y)) (zb (cF (.int z)) (zb (cF (.int u)) zq))))) ρ=some (lD [x,y,z,u]):=by
 have hz:4<=sizeLine:=a7 (by omega)
 simp only [zx,xp,zf,y6,zo,af,aB,aI,b_,q0,if_pos hz,bL]
 rfl
def RW (h1:f ρ=some (.int x)) (h2:g ρ=some (.int y)) (b:h ρ=some (.int z)):zk (ym (zb (tupF (zb f (zb g (zb h zq)))) zq)) ρ=some (cD [(x,y,z)]):=by
 have hz:1<=sizeLine:=a7 (by omega)
 have a:3<=sizeLine:=a7 (by omega)
 simp only [zx,xp,zf,wt,h1,h2,b,zo,af,aB,aI,b_,q0,if_pos hz,if_pos a,bL]
 rfl
def yC (h:f ρ=some (lD l)) (a:l.length<=40):zW zt (zb f zq) ρ=some (cD (yJ l)):=by
 simp only [zw,zf,h,zo,af,QR l a]
def Xy (h:ρ[0]? = some (.fr (.int m))) (a:m<=6) (k:Nat) (b:k<=3):zk (Zq (zk (ym (zb (cF (.int 3)) zq))) (ze vp (vF 0) (cF (.int (k:Int))))) ρ=some (lD (r3 (m - k))):=by
 have:=WB (f:=ze vp (vF 0) (cF (.int (k:Int)))) (ρ:=ρ) (k:=(m:Int) - k) (by simp [h]) (by omega) (by omega)
 rw [zx,this]
 have e:((m:Int) - k).toNat=m - k:=by omega
 rw [e]
 rfl
def VH (n:Nat):(r3 n).length=n:=g3u
def UM (h1:f ρ=some (lD a)) (h2:g ρ=some (lD b)) (h:a.length+b.length<=100):ze xn f g ρ=some (lD (a++b)):=by
 rw [zm,h1,h2]
 exact F3 a b h
def YS (h1:f ρ=some (cD a)) (h2:g ρ=some (cD b)) (h:a.length+b.length<=100):ze xn f g ρ=some (cD (a++b)):=by
 rw [zm,h1,h2]
 exact zau a b h
abbrev Kp:=Str×List T3
def gZ (p:Kp):D:=.tup [.str p.1,cD p.2]
def Zv (m:Nat):List Kp:=("a",yJ (r3 (m - 1))) :: ((if 1 < m then ([("b",yJ (r3 (m - 2)++[4]))]:List Kp) else [])++(if 3 < m then ([("d",yJ (r3 (m - 2))++[((m:Int) - 3,(m:Int) - 1,3)])]:List Kp) else []))
def j7:List (List Kp):=[[],[],[("i5",yJ [5]),("i6",yJ [6])],[("h3",yJ [3,5])],[("h4",yJ [3,3,5]),("f4",yJ [3,4,3])],[],[("e6",yJ [3,3,3,3]++[(2,5,3)])]]
def jh (h:f ρ=some (cD ts)):tupF (zb (cF (.str s)) (zb f zq)) ρ=some (gZ (s,ts)):=by
 have hz:2<=sizeLine:=a7 (by omega)
 simp only [wt,zf,y6,h,zo,af,aB,aI,b_,q0,if_pos hz]
 rfl
def D4 (h:f ρ=some ds) (a:ds.length<=100):ym f ρ=some ds:=by
 rw [xp,h,af,if_pos (a7 a)]
def yB (h1:f ρ=some d) (h2:g ρ=some ds):zb f g ρ=some (d :: ds):=by
 rw [zf,h1,h2]
 rfl
def CZ (m:Nat) (z:D) (h1:1<=m) (k:m<=6) (e b a:Slot) (R:FS):wG (UW 2 (ym (zb (tupF (zb (cF (.str "a")) (zb (zW zt (zb (zk (Zq (zk (ym (zb (cF (.int 3)) zq))) (ze vp (vF 0) (cF (.int 1))))) zq)) zq))) zq)))
  (wG (cg (aU (ze eU (vF 0) (cF (.int 1)))) (xE 2 (tupF (zb (cF (.str "b")) (zb (zW zt (zb (ze xn (zk (Zq (zk (ym (zb (cF (.int 3)) zq))) (ze vp (vF 0) (cF (.int 2))))) (zk (ym (zb (cF (.int 4)) zq)))) zq)) zq)))) cS)
  (wG (cg (aU (ze eU (vF 0) (cF (.int 3)))) (xE 2 (tupF (zb (cF (.str "d")) (zb (ze xn (zW zt (zb (zk (Zq (zk (ym (zb (cF (.int 3)) zq))) (ze vp (vF 0) (cF (.int 2))))) zq)) (zk (ym (zb (tupF (zb (ze vp (vF 0) (cF (.int 3))) (zb (ze vp (vF 0) (cF (.int 1))) (zb (cF (.int 3)) zq)))) zq)))) zq)))) cS) R)) [.fr (.int m),.fr z,.no,e,b,a] =
  R [.fr (.int m),.fr z,.ol ((Zv m).map gZ),e,b,a]:=by
 have q:=VH (m - 1)
 have j:=VH (m - 2)
 have a1:ym (zb (tupF (zb (cF (.str "a")) (zb (zW zt (zb (zk (Zq (zk (ym (zb (cF (.int 3)) zq))) (ze vp (vF 0) (cF (.int 1))))) zq)) zq))) zq) [.fr (.int m),.fr z,.no,e,b,a]=some [gZ ("a",yJ (r3 (m - 1)))] :=
  D4 (yB (jh (yC (Xy rfl k 1 (by omega)) (by omega))) rfl) (by simp)
 have p:∀ s2,aU (ze eU (vF 0) (cF (.int 1))) [.fr (.int m),.fr z,s2,e,b,a]=some (decide (1 < m)):=λs2=>by
  by_cases c:1 < m
  .have h:(1:Int) < m:=by omega
   simp [h,c]; try omega
  .have h:¬ (1:Int) < m:=by omega
   simp [h,c]; try omega
 have l:∀ s2,aU (ze eU (vF 0) (cF (.int 3))) [.fr (.int m),.fr z,s2,e,b,a]=some (decide (3 < m)):=λs2=>by
  by_cases c:3 < m
  .have h:(3:Int) < m:=by omega
   simp [h,c]; try omega
  .have h:¬ (3:Int) < m:=by omega
   simp [h,c]; try omega
 have a2:∀ s2,tupF (zb (cF (.str "b")) (zb (zW zt (zb (ze xn (zk (Zq (zk (ym (zb (cF (.int 3)) zq))) (ze vp (vF 0) (cF (.int 2))))) (zk (ym (zb (cF (.int 4)) zq)))) zq)) zq)) [.fr (.int m),.fr z,s2,e,b,a]=some (gZ ("b",yJ (r3 (m - 2)++[4]))):=λs2 =>
  jh (yC (UM (Xy rfl k 2 (by omega)) Pm (by rw [j]; simp; omega)) (by rw [aW,j]; simp; omega))
 have a3:∀ s2,tupF (zb (cF (.str "d")) (zb (ze xn (zW zt (zb (zk (Zq (zk (ym (zb (cF (.int 3)) zq))) (ze vp (vF 0) (cF (.int 2))))) zq)) (zk (ym (zb (tupF (zb (ze vp (vF 0) (cF (.int 3))) (zb (ze vp (vF 0) (cF (.int 1))) (zb (cF (.int 3)) zq)))) zq)))) zq)) [.fr (.int m),.fr z,s2,e,b,a]=some (gZ ("d",yJ (r3 (m - 2))++[((m:Int) - 3,(m:Int) - 1,3)])):=λs2 =>
  jh (YS (yC (Xy rfl k 2 (by omega)) (by omega)) (RW rfl rfl rfl) (by rw [W4,j]; simp; omega))
 have n:∀ (f:FE) (ds:List D) (d:D),(∀ s2,f [.fr (.int m),.fr z,s2,e,b,a]=some d)->ds.length<=50->xE 2 f [.fr (.int m),.fr z,.ol ds,e,b,a]=some (.nx [.fr (.int m),.fr z,.ol (ds++[d]),e,b,a]):=λf ds d o hd=>by
  rw [wx,o]
  simp only [af,ao,ay,if_pos (show ds.length < sizeLine from yX (by omega)),aN,aM]
 rw [zr,wJ,a1]
 simp only [af,aN,aM]
 rw [zr,yM,p,af]
 unfold Zv
 by_cases i:1 < m
 .rw [if_pos (decide_eq_true i),if_pos i,n _ _ _ a2 (by simp),af]
  dsimp only
  rw [zr,yM,l,af]
  by_cases g:3 < m
  .rw [if_pos (decide_eq_true g),if_pos g,n _ _ _ a3 (by simp),af]
   rfl
  .rw [if_neg (by simpa using g),if_neg g]
   rfl
 .have g:¬ 3 < m:=by omega
  rw [if_neg (by simpa using i),if_neg i,wu,af]
  dsimp only
  rw [zr,yM,l,af,if_neg (by simpa using g),if_neg g]
  rfl
def M6:([1,2,3,4,5,6]:List Nat).all (λm=>(Zv m).all λp=>(qc m).any λB=>decide (kT B.1=p.1++Ez (toString (m:Int)))&&decide (B.2=p.2)&&decide ((p.1++Ez (toString (m:Int))).length<=100)&&decide (p.1.length+(Ez (toString (m:Int))).length<=100))=true:=by decide +kernel
def Nv:(aK 7).all (λm=>(j7.getD m []).all λp=>(qc m).any λB=>decide (kT B.1=p.1)&&decide (B.2=p.2))=true:=by decide +kernel
def zbk (m:Nat) (r:Option D):Prop:=∃ B:Bk,B∈qc m/\r=some (.tup [.str (kT B.1),cD B.2])
def M7 (h1:1<=m) (d:m<=6) (a:p∈Zv m):(∃ B:Bk,B∈qc m/\kT B.1=p.1++Ez (toString (m:Int))/\B.2=p.2)/\p.1.length+(Ez (toString (m:Int))).length<=100:=by
 have b:m∈([1,2,3,4,5,6]:List Nat):=by
  have:m=1\/m=2\/m=3\/m=4\/m=5\/m=6:=by omega
  simpa using this
 obtain ⟨B,c,e⟩:=nZ.mp (bS.mp (bS.mp M6 m b) p a)
 rw [dR,dR,dR] at e
 exact ⟨⟨B,c,of_decide_eq_true e.1.1.1,of_decide_eq_true e.1.1.2⟩,of_decide_eq_true e.2⟩
def Nw (c:m<=6) (a:p∈j7.getD m []):∃ B:Bk,B∈qc m/\kT B.1=p.1/\B.2=p.2:=by
 obtain ⟨B,b,e⟩:=nZ.mp (bS.mp (bS.mp Nv m (dA.mpr (by omega))) p a)
 rw [dR] at e
 exact ⟨B,b,of_decide_eq_true e.1,of_decide_eq_true e.2⟩
abbrev fX (l:List Kp):D:=.lst (l.map gZ)
def Fb:zk (ym zq) ρ=some (fX []):=by
 rw [zx,D4 rfl (by simp)]
 rfl
def Tr (h:f ρ=some (gZ p)):zk (ym (zb f zq)) ρ=some (fX [p]):=by
 rw [zx,D4 (yB h rfl) (by simp)]
 rfl
def Tq (h:f ρ=some (gZ p)) (h':g ρ=some (gZ q)):zk (ym (zb f (zb g zq))) ρ=some (fX [p,q]):=by
 rw [zx,D4 (yB h (yB h' rfl)) (by simp)]
 rfl
def Di (a b s2 d c e:Slot) (R:FS):wG (UW 5 (ym (zb (zk (ym zq)) (zb (zk (ym zq)) (zb (zk (ym zq)) (zb (zk (ym (zb (tupF (zb (cF (.str "h3")) (zb (zW zt (zb (zk (ym (zb (cF (.int 3)) (zb (cF (.int 5)) zq)))) zq)) zq))) zq))) (zb (zk (ym (zb (tupF (zb (cF (.str "h4")) (zb (zW zt (zb (zk (ym (zb (cF (.int 3)) (zb (cF (.int 3)) (zb (cF (.int 5)) zq))))) zq)) zq))) (zb (tupF (zb (cF (.str "f4")) (zb (zW zt (zb (zk (ym (zb (cF (.int 3)) (zb (cF (.int 4)) (zb (cF (.int 3)) zq))))) zq)) zq))) zq)))) zq)))))))
  (wG (UW 5 (sE (vR 5) (zk (ym (zb (zk (ym zq)) (zb (zk (ym (zb (tupF (zb (cF (.str "e6")) (zb (ze xn (zW zt (zb (zk (ym (zb (cF (.int 3)) (zb (cF (.int 3)) (zb (cF (.int 3)) (zb (cF (.int 3)) zq)))))) zq)) (zk (ym (zb (tupF (zb (cF (.int 2)) (zb (cF (.int 5)) (zb (cF (.int 3)) zq)))) zq)))) zq))) zq))) zq))))))
  (wG (jU 5 (cF (.int 2)) (zk (ym (zb (tupF (zb (cF (.str "i5")) (zb (zW zt (zb (zk (ym (zb (cF (.int 5)) zq))) zq)) zq))) (zb (tupF (zb (cF (.str "i6")) (zb (zW zt (zb (zk (ym (zb (cF (.int 6)) zq))) zq)) zq))) zq))))) R)) [a,b,s2,d,c,e]=R [a,b,s2,d,c,.ol (j7.map fX)]:=by
 have e1:∀ ρ:aX,ym (zb (zk (ym zq)) (zb (zk (ym zq)) (zb (zk (ym zq)) (zb (zk (ym (zb (tupF (zb (cF (.str "h3")) (zb (zW zt (zb (zk (ym (zb (cF (.int 3)) (zb (cF (.int 5)) zq)))) zq)) zq))) zq))) (zb (zk (ym (zb (tupF (zb (cF (.str "h4")) (zb (zW zt (zb (zk (ym (zb (cF (.int 3)) (zb (cF (.int 3)) (zb (cF (.int 5)) zq))))) zq)) zq))) (zb (tupF (zb (cF (.str "f4")) (zb (zW zt (zb (zk (ym (zb (cF (.int 3)) (zb (cF (.int 4)) (zb (cF (.int 3)) zq))))) zq)) zq))) zq)))) zq))))) ρ=some [fX [],fX [],fX [],fX [("h3",yJ [3,5])],fX [("h4",yJ [3,3,5]),("f4",yJ [3,4,3])]]:=λρ =>
  D4 (yB Fb (yB Fb (yB Fb (yB (Tr (jh (yC zct (by simp)))) (yB (Tq (jh (yC zd3 (by simp))) (jh (yC zd3 (by simp)))) rfl))))) (by simp)
 have e2:∀ ρ:aX,zk (ym (zb (zk (ym zq)) (zb (zk (ym (zb (tupF (zb (cF (.str "e6")) (zb (ze xn (zW zt (zb (zk (ym (zb (cF (.int 3)) (zb (cF (.int 3)) (zb (cF (.int 3)) (zb (cF (.int 3)) zq)))))) zq)) (zk (ym (zb (tupF (zb (cF (.int 2)) (zb (cF (.int 5)) (zb (cF (.int 3)) zq)))) zq)))) zq))) zq))) zq))) ρ=some (.lst [fX [],fX [("e6",yJ [3,3,3,3]++[(2,5,3)])]]):=λρ=>by
  rw [zx,D4 (yB Fb (yB (Tr (jh (YS (yC ze0 (by simp)) (RW rfl rfl rfl) (by rw [W4]; simp)))) rfl)) (by simp)]
  rfl
 have f:∀ ρ:aX,zk (ym (zb (tupF (zb (cF (.str "i5")) (zb (zW zt (zb (zk (ym (zb (cF (.int 5)) zq))) zq)) zq))) (zb (tupF (zb (cF (.str "i6")) (zb (zW zt (zb (zk (ym (zb (cF (.int 6)) zq))) zq)) zq))) zq))) ρ=some (fX [("i5",yJ [5]),("i6",yJ [6])]):=λρ =>
  Tq (jh (yC Pm (by simp))) (jh (yC Pm (by simp)))
 rw [zr,wJ,e1]
 simp only [af,aN,aM]
 rw [zr,wJ,Sn,e2]
 have hz:7<=sizeLine:=a7 (by omega)
 simp only [KL,ay,ao,af,aB,aI,b_,q0,if_pos hz,aN,aM]
 rw [zr]
 unfold jU
 rw [f]
 rfl
def zde (l:List Kp) (i:Nat) (p:Kp) (h:l[i]? = some p):aE (fX l) (.int (i:Int))=some (gZ p):=uU (by rw [cK,h]; rfl)
def MT {l:List Kp} (hl:l≠[]) (z:Int) (k:Nat) (hk:k=l.length):∃ p∈l,aE (fX l) (.int (z % (k:Int)))=some (gZ p):=by
 subst hk
 have lI:0 < l.length:=r_.mpr hl
 have h0:0<=z % (l.length:Int):=Ip _ (by omega)
 have h1:z % (l.length:Int) < l.length:=E6 _ (by omega)
 have e:((z % (l.length:Int)).toNat:Int)=z % (l.length:Int):=by omega
 have e7:(z % (l.length:Int)).toNat < l.length:=by omega
 refine ⟨l[(z % (l.length:Int)).toNat],rX e7,?_⟩
 have:=zde l _ _ (fg e7)
 rwa [e] at this
def M5 (m:Nat) (a:m<=6):RE [.int m]=some (.str (Ez (toString (m:Int)))):=by
 unfold RE
 exact if_pos (rZ (Nat.log2_le_self _) (by omega))
def K5 (m:Nat) (z:Int) (h1:1<=m) (f:m<=6):zbk m (vH [.int m,.int z]):=by
 have u:Zv m≠[]:=by unfold Zv; simp
 obtain ⟨p,y,ep⟩:=MT u z (Zv m).length rfl
 have H:0 < (Zv m).length:=r_.mpr u
 have v:=y7 (i:=z) (show (0:Int) < (Zv m).length by omega)
 obtain ⟨⟨B,E,r,o⟩,d⟩:=M7 h1 f y
 have start:vH [.int m,.int z]=Wx (jc [.fr (.int m),.fr (.int z),.no,.no,.no,.no]):=rfl
 have ad:xn (.str p.1) (.str (Ez (toString (m:Int))))=some (.str (p.1++Ez (toString (m:Int)))):=by
  unfold xn
  exact if_pos (a7 d)
 rw [start]
 unfold jc
 rw [CZ m (.int z) h1 f]
 have e1:ze aE (vR 2) (ze Zr (vF 1) (zW uo (zb (vR 2) zq))) [.fr (.int m),.fr (.int z),.ol ((Zv m).map gZ),.no,.no,.no]=some (.tup [.str p.1,cD p.2]):=by
  simp only [zm,KL,zX,zw,zf,zo,ao,ay,af,j4,aD,v]
  exact ep
 rw [zr,Mb,e1]
 simp only [af,ji,aB,aI,b_,q0,if_true,uk,yL,jk,aN,aM]
 rw [zr,z9]
 simp only [zm,zX,zw,zf,zo,ao,ay,af,M5 m f,ad,aN,aM]
 rw [Di]
 have t:aE (.lst (j7.map fX)) (.int (m:Int))=some (fX (j7.getD m [])):=uU (by
  have:m < j7.length:=by show m < 7; omega
  rw [cK,bR,fg this]
  rfl)
 have a:=uh (i:=z) (show (0:Int) < 8 by decide) (by decide)
 have e:=uh (i:=z) (show (0:Int) < 16 by decide) (by decide)
 have g:=y7 (i:=z / 8) (show (0:Int) < 2 by decide)
 have fin:zbk m (some (.tup [.str (p.1++Ez (toString (m:Int))),cD p.2])):=⟨B,E,by rw [r,o]⟩
 have F:2<=sizeLine:=a7 (by omega)
 have b:Wx (j6 (tupF (zb (vF 3) (zb (vF 4) zq))) [.fr (.int m),.fr (.int z),.ol ((Zv m).map gZ),.fr (.str (p.1++Ez (toString (m:Int)))),.fr (cD p.2),.ol (j7.map fX)])=some (.tup [.str (p.1++Ez (toString (m:Int))),cD p.2]):=by
  simp only [z8,wt,zf,zo,zX,ao,ay,af,aB,aI,b_,q0,if_pos F,yu]
 rw [zr,yM]
 by_cases c:z / 8 % 2=0/\j7.getD m []≠[]
 .have j:0 < (j7.getD m []).length:=r_.mpr c.2
  obtain ⟨q,x,eq⟩:=MT c.2 (z / 16) (j7.getD m []).length rfl
  have h:=y7 (i:=z / 16) (show (0:Int) < (j7.getD m []).length by omega)
  obtain ⟨C,A,n,l⟩:=Nw f x
  have k:(0:Int) < (j7.getD m []).length:=by omega
  simp only [Zl,yU,zm,zX,KL,y6,zw,zf,zo,ao,ay,af,a,g,c.1,Z7,decide_true,if_true,t,j4,aD,Gm,decide_eq_true k,z8,e,h,eq,yu]
  refine ⟨C,A,?_⟩
  rw [n,l]
  rfl
 .have e2:UY (aU (ze b9 (ze Zr (ze qe (vF 1) (cF (.int 8))) (cF (.int 2))) (cF (.int 0)))) (aU (ze eU (zW uo (zb (ze aE (vR 5) (vF 0)) zq)) (cF (.int 0)))) [.fr (.int m),.fr (.int z),.ol ((Zv m).map gZ),.fr (.str (p.1++Ez (toString (m:Int)))),.fr (cD p.2),.ol (j7.map fX)]=some false:=by
   by_cases s:z / 8 % 2=0
   .have G:j7.getD m []=[]:=Et λw=>c ⟨s,w⟩
    simp only [Zl,yU,zm,zX,KL,y6,zw,zf,zo,ao,ay,af,a,g,s,Z7,decide_true,if_true,t,j4,aD,Gm,G,aI]
    rfl
   .simp only [Zl,yU,zm,zX,y6,ao,ay,af,a,g,Z7,decide_eq_false s,b5,if_false]
  rw [e2,af,if_neg (by simp),wu,af]
  dsimp only
  rw [b]
  exact fin
def ZU (m:Nat):List T3:=Vw (m - 1)
def fb (m:Nat):List (List T3):=[yJ (r3 (m - 2)++[0]),yJ ([5]++r3 (m - 3)++[4]),yJ ([4]++r3 (m - 3)++[4]),yJ (r3 (m - 2)++[6]),yJ (r3 (m - 1))++[(0,(m:Int) - 1,3)],yJ (r3 (m - 2)++[5])]
def gY (m:Nat):List (List T3):=[yJ (r3 (m - 2))++[((m:Int) - 3,(m:Int) - 1,4)],yJ ([3,5]++r3 (m - 3)),ZU m++[(1,2,3)]]
def Ta:((0,0),yJ [0])∈qc 2:=by decide +kernel
def S9:((fb 3).take 5++[yJ [5,5]]).all (λt=>decide (((0,0),t)∈qc 3))=true:=by decide +kernel
def S8:((fb 4).take 5++gY 4).all (λt=>decide (((0,0),t)∈qc 4))=true:=by decide +kernel
def S7:(fb 5++gY 5++[ZU 5]).all (λt=>decide (((0,0),t)∈qc 5))=true:=by decide +kernel
def S6:(fb 6++gY 6++[ZU 6]).all (λt=>decide (((0,0),t)∈qc 6))=true:=by decide +kernel
abbrev f9 (l:List (List T3)):D:=.lst (l.map cD)
def XS (a b:List (List T3)) (h:a.length+b.length<=100):xn (f9 a) (f9 b)=some (f9 (a++b)):=by
 unfold xn
 dsimp only
 rw [if_pos (by rw [aD,aD]; exact a7 h),<- bK]
def To (h:f ρ=some (cD a)):zk (ym (zb f zq)) ρ=some (f9 [a]):=by
 rw [zx,D4 (yB h rfl) (by simp)]
 rfl
def Pr (h:f ρ=some (cD a)) (h':g ρ=some (cD b)):zk (ym (zb f (zb g zq))) ρ=some (f9 [a,b]):=by
 rw [zx,D4 (yB h (yB h' rfl)) (by simp)]
 rfl
def Rv {l:List (List T3)} (z:Int) (k:Nat) (hk:k=l.length) (hl:0 < k):∃ p∈l,aE (f9 l) (.int (z % (k:Int)))=some (cD p):=by
 subst hk
 have h0:0<=z % (l.length:Int):=Ip _ (by omega)
 have h1:z % (l.length:Int) < l.length:=E6 _ (by omega)
 have e:((z % (l.length:Int)).toNat:Int)=z % (l.length:Int):=by omega
 have e7:(z % (l.length:Int)).toNat < l.length:=by omega
 refine ⟨l[(z % (l.length:Int)).toNat],rX e7,?_⟩
 have:aE (f9 l) (.int ((z % (l.length:Int)).toNat:Int))=some (cD (l[(z % (l.length:Int)).toNat])):=uU (by rw [cK,fg e7]; rfl)
 rwa [e] at this
noncomputable abbrev GM:FE:=zk (qf 1 [] (zb7 (zb (cF (.int 1)) (zb (vF 0) zq))) (zL 0) dk (tupF (zb (cF (.int 0)) (zb (vF 0) (zb (cF (.int 3)) zq)))))
def CU (h:ρ[0]? = some (.fr (.int m))) (b:1<=m) (d:m<=6):GM ρ=some (cD (ZU m)):=by
 have a:VG [.int 1,.int (m:Int)]=some ((idx (m - 1)).map λk=>.int (k+1)):=by
  rw [Hc (by omega) (by omega) (by omega) (by omega)]
  unfold yy idx
  rw [bz,show ((m:Int) - 1).toNat=m - 1 by omega]
  congr 1
  exact fH λk _=>by simp; omega
 have e1:=jo (f:=tupF (zb (cF (.int 0)) (zb (vF 0) (zb (cF (.int 3)) zq)))) (C:=[]) (ι:=λk:Int=>D.int (k+1)) (φ:=λk=>.tup [.int 0,.int (k+1),.int 3]) (idx (m - 1)) .no (λk c=>by
  have hz:3<=sizeLine:=a7 (by omega)
  simp only [wt,zf,zo,zX,y6,ao,ay,af,aB,aI,b_,q0,if_pos hz])
 have hz:((idx (m - 1)).map λk:Int=>D.int (k+1)).length<=sizeLine:=by rw [aD,wz]; exact a7 (by omega)
 simp only [GM,zx,xh,Sg,zf,zo,y6,zX,h,af,a,if_pos hz,xJ,bg,bX,aP,e1,bL]
 congr 2
 unfold ZU Vw idx
 rw [bz,bz]
 exact fH λk _=>rfl
def zd7 (m:Nat) (k:Nat):decide ((m:Int)=(k:Int))=decide (m=k):=by
 by_cases c:m=k
 .subst c; simp
 .have:¬ (m:Int)=(k:Int):=by omega
  simp [c,this]
def HA (m:Nat) (z:Int) (h1:2<=m) (g:m<=6):zbk m (qD [.int m,.int z]):=by
 have w:=VH (m - 1)
 have j:=VH (m - 2)
 have b:=VH (m - 3)
 have start:qD [.int m,.int z]=Wx (kE.1 [.fr (.int m),.fr (.int z),.no,.no]):=rfl
 rw [start]
 unfold kE
 dsimp only [aB,aI,b_,q0]
 have I:∀ (s2 a:Slot),zk (Zq (zk (ym (zb (cF (.int 3)) zq))) (ze vp (vF 0) (cF (.int 1)))) [.fr (.int m),.fr (.int z),s2,a]=some (lD (r3 (m - 1))):=λs2 a=>Xy rfl g 1 (by omega)
 have M2:∀ (s2 a:Slot),zk (Zq (zk (ym (zb (cF (.int 3)) zq))) (ze vp (vF 0) (cF (.int 2)))) [.fr (.int m),.fr (.int z),s2,a]=some (lD (r3 (m - 2))):=λs2 a=>Xy rfl g 2 (by omega)
 have u:∀ (s2 a:Slot),zk (Zq (zk (ym (zb (cF (.int 3)) zq))) (ze vp (vF 0) (cF (.int 3)))) [.fr (.int m),.fr (.int z),s2,a]=some (lD (r3 (m - 3))):=λs2 a=>Xy rfl g 3 (by omega)
 have n:∀ (k:Int) (s2 a:Slot),zW zt (zb (ze xn (zk (Zq (zk (ym (zb (cF (.int 3)) zq))) (ze vp (vF 0) (cF (.int 2))))) (zk (ym (zb (cF (.int k)) zq)))) zq) [.fr (.int m),.fr (.int z),s2,a]=some (cD (yJ (r3 (m - 2)++[k]))):=λk s2 a =>
  yC (UM (M2 s2 a) Pm (by rw [j]; simp; omega)) (by rw [aW,j]; simp; omega)
 have s:∀ (k:Int) (s2 a:Slot),zW zt (zb (ze xn (ze xn (zk (ym (zb (cF (.int k)) zq))) (zk (Zq (zk (ym (zb (cF (.int 3)) zq))) (ze vp (vF 0) (cF (.int 3)))))) (zk (ym (zb (cF (.int 4)) zq)))) zq) [.fr (.int m),.fr (.int z),s2,a]=some (cD (yJ ([k]++r3 (m - 3)++[4]))):=λk s2 a =>
  yC (UM (UM Pm (u s2 a) (by rw [b]; simp; omega)) Pm (by rw [aW,b]; simp; omega)) (by rw [aW,aW,b]; simp; omega)
 have s1:=λ(s2 a:Slot)=>Pr (n 0 s2 a) (s 5 s2 a)
 have s2:=λ(s2 a:Slot)=>Pr (s 4 s2 a) (n 6 s2 a)
 have v:∀ (s2 a:Slot),ze xn (zW zt (zb (zk (Zq (zk (ym (zb (cF (.int 3)) zq))) (ze vp (vF 0) (cF (.int 1))))) zq)) (zk (ym (zb (tupF (zb (cF (.int 0)) (zb (ze vp (vF 0) (cF (.int 1))) (zb (cF (.int 3)) zq)))) zq))) [.fr (.int m),.fr (.int z),s2,a]=some (cD (yJ (r3 (m - 1))++[(0,(m:Int) - 1,3)])):=λs2 a =>
  YS (yC (I s2 a) (by omega)) (RW rfl rfl rfl) (by rw [W4,w]; simp; omega)
 have a:=λ(s2 a:Slot)=>Pr (v s2 a) (n 5 s2 a)
 rw [zr,z9,s1]
 simp only [af,aN,aM]
 rw [zr,z9,zm,s2]
 simp only [zX,ao,ay,af]
 rw [XS _ _ (by simp)]
 simp only [af,aN,aM]
 rw [zr,z9,zm,a]
 simp only [zX,ao,ay,af]
 rw [XS _ _ (by simp)]
 simp only [af,aN,aM]
 have C:([yJ (r3 (m - 2)++[0]),yJ ([5]++r3 (m - 3)++[4])]++[yJ ([4]++r3 (m - 3)++[4]),yJ (r3 (m - 2)++[6])]++[yJ (r3 (m - 1))++[(0,(m:Int) - 1,3)],yJ (r3 (m - 2)++[5])]:List (List T3))=fb m:=rfl
 rw [C]
 have mk:∀ t:List T3,((0,0),t)∈qc m->zbk m (some (.tup [.str "-",cD t])):=λt ht=>⟨_,ht,rfl⟩
 have tp:∀ {f:FE} {ρ:aX} {t:List T3},f ρ=some (cD t)->tupF (zb (cF (.str "-")) (zb f zq)) ρ=some (.tup [.str "-",cD t]):=λh=>jh h
 have A:aU (ze b9 (vF 0) (cF (.int 2))) [.fr (.int m),.fr (.int z),.fr (f9 (fb m)),.no]=some (decide (m=2)):=by
  simp only [yU,zm,zX,y6,ao,af,Z7]
  exact congrArg some (zd7 m 2)
 have y:aU (ze b9 (vF 0) (cF (.int 3))) [.fr (.int m),.fr (.int z),.fr (f9 (fb m)),.no]=some (decide (m=3)):=by
  simp only [yU,zm,zX,y6,ao,af,Z7]
  exact congrArg some (zd7 m 3)
 rw [zr,yM,A,af]
 by_cases r:m=2
 .subst r
  rw [if_pos (decide_eq_true rfl),z8,tp (yC Pm (by simp))]
  exact mk _ Ta
 rw [if_neg (by simpa using r),wu,af]
 dsimp only
 have sl:∀ a:Slot,jT (vF 2) oF (l6 (cF (.int 5))) [.fr (.int m),.fr (.int z),.fr (f9 (fb m)),a]=some (f9 ((fb m).take 5)):=λa=>rfl
 rw [zr,yM,y,af]
 by_cases q:m=3
 .subst q
  obtain ⟨t,ht,e⟩:=Rv (l:=(fb 3).take 5++[yJ [5,5]]) z 6 rfl (by omega)
  have d:=y7 (i:=z) (show (0:Int) < 6 by decide)
  have e1:ze aE (ze xn (jT (vF 2) oF (l6 (cF (.int 5)))) (zk (ym (zb (zW zt (zb (zk (ym (zb (cF (.int 5)) (zb (cF (.int 5)) zq)))) zq)) zq)))) (ze Zr (vF 1) (cF (.int 6))) [.fr (.int ((3:Nat):Int)),.fr (.int z),.fr (f9 (fb 3)),.no]=some (cD t):=by
   rw [zm,zm,sl,To (yC zct (by simp))]
   simp only [af]
   rw [XS _ _ (by simp [fb])]
   simp only [zm,zX,y6,ao,ay,af,d]
   exact e
  rw [if_pos (decide_eq_true rfl),z8,tp e1]
  exact mk _ (of_decide_eq_true (bS.mp S9 t ht))
 rw [if_neg (by simpa using q),wu,af]
 dsimp only
 have H:∀ (s2 a:Slot),ze xn (zW zt (zb (zk (Zq (zk (ym (zb (cF (.int 3)) zq))) (ze vp (vF 0) (cF (.int 2))))) zq)) (zk (ym (zb (tupF (zb (ze vp (vF 0) (cF (.int 3))) (zb (ze vp (vF 0) (cF (.int 1))) (zb (cF (.int 4)) zq)))) zq))) [.fr (.int m),.fr (.int z),s2,a]=some (cD (yJ (r3 (m - 2))++[((m:Int) - 3,(m:Int) - 1,4)])):=λs2 a =>
  YS (yC (M2 s2 a) (by omega)) (RW rfl rfl rfl) (by rw [W4,j]; simp; omega)
 have G:∀ (s2 a:Slot),zW zt (zb (ze xn (zk (ym (zb (cF (.int 3)) (zb (cF (.int 5)) zq)))) (zk (Zq (zk (ym (zb (cF (.int 3)) zq))) (ze vp (vF 0) (cF (.int 3)))))) zq) [.fr (.int m),.fr (.int z),s2,a]=some (cD (yJ ([3,5]++r3 (m - 3)))):=λs2 a =>
  yC (UM zct (u s2 a) (by rw [b]; simp; omega)) (by rw [aW,b]; simp; omega)
 have st:∀ (s2 a:Slot),GM [.fr (.int m),.fr (.int z),s2,a]=some (cD (ZU m)):=λs2 a=>CU rfl (by omega) g
 have J:(ZU m).length<=10:=by unfold ZU Vw; simp; omega
 have F:∀ (s2 a:Slot),ze xn GM (zk (ym (zb (tupF (zb (cF (.int 1)) (zb (cF (.int 2)) (zb (cF (.int 3)) zq)))) zq))) [.fr (.int m),.fr (.int z),s2,a]=some (cD (ZU m++[(1,2,3)])):=λs2 a =>
  YS (st s2 a) (RW rfl rfl rfl) (by simp; omega)
 rw [zr,wJ,D4 (yB (H _ _) (yB (G _ _) rfl)) (by simp)]
 simp only [af,aN,aM]
 rw [zr,wx,F]
 have B:2 < sizeLine:=yX (by omega)
 simp only [af,ao,ay,aB,aI,b_,q0,if_pos B,aN,aM]
 have eB:([cD (yJ (r3 (m - 2))++[((m:Int) - 3,(m:Int) - 1,4)]),cD (yJ ([3,5]++r3 (m - 3)))]++[cD (ZU m++[(1,2,3)])]:List D)=(gY m).map cD:=rfl
 rw [eB]
 have x:aU (ze eU (vF 0) (cF (.int 4))) [.fr (.int m),.fr (.int z),.fr (f9 (fb m)),.ol ((gY m).map cD)]=some (decide (4 < m)):=by
  by_cases c:4 < m
  .have o:(4:Int) < m:=by omega
   simp [c,o]
  .have o:¬ (4:Int) < m:=by omega
   simp [c,o]
 rw [zr,yM,x,af]
 have p:vR 3 [.fr (.int m),.fr (.int z),.fr (f9 (fb m)),.ol ((gY m).map cD)]=some (f9 (gY m)):=rfl
 by_cases E:4 < m
 .rw [if_pos (decide_eq_true E)]
  obtain ⟨t,ht,e⟩:=Rv (l:=fb m++gY m++[ZU m]) z 10 rfl (by omega)
  have d:=y7 (i:=z) (show (0:Int) < 10 by decide)
  have e1:ze aE (ze xn (ze xn (vF 2) (vR 3)) (zk (ym (zb GM zq)))) (ze Zr (vF 1) (cF (.int 10))) [.fr (.int m),.fr (.int z),.fr (f9 (fb m)),.ol ((gY m).map cD)]=some (cD t):=by
   rw [zm,zm,zm,p,To (st _ _)]
   simp only [zX,ao,ay,af]
   rw [XS _ _ (by simp [fb,gY])]
   simp only [af]
   rw [XS _ _ (by simp [fb,gY])]
   simp only [zm,zX,y6,ao,ay,af,d]
   exact e
  rw [z8,tp e1]
  refine mk _ ?_
  rcases (show m=5\/m=6 by omega) with rfl | rfl
  .exact of_decide_eq_true (bS.mp S7 t ht)
  .exact of_decide_eq_true (bS.mp S6 t ht)
 .have:m=4:=by omega
  subst this
  rw [if_neg (by simp),wu,af]
  dsimp only
  obtain ⟨t,ht,e⟩:=Rv (l:=(fb 4).take 5++gY 4) z 8 rfl (by omega)
  have d:=y7 (i:=z) (show (0:Int) < 8 by decide)
  have e1:ze aE (ze xn (jT (vF 2) oF (l6 (cF (.int 5)))) (vR 3)) (ze Zr (vF 1) (cF (.int 8))) [.fr (.int ((4:Nat):Int)),.fr (.int z),.fr (f9 (fb 4)),.ol ((gY 4).map cD)]=some (cD t):=by
   rw [zm,zm,sl,p]
   simp only [af]
   rw [XS _ _ (by simp [fb,gY])]
   simp only [zm,zX,y6,ao,ay,af,d]
   exact e
  rw [z8,tp e1]
  exact mk _ (of_decide_eq_true (bS.mp S8 t ht))
def K9 (p:Int×ba):D:=.tup [.lst ((idx p.2.1).map λi=>.int (p.1+i)),.str (kT p.2.2.1)]
def Rt:(aK 7).all (λk=>(qc k).all λB=>decide (B.2.length<=7))=true:=by decide +kernel
def Cp (h:B∈qc k):B.2.length<=7/\k<=6:=by
 have a:k < 7:=by
  match k,h with
  | 0,h=>omega
  | 1,h=>omega
  | 2,h=>omega
  | 3,h=>omega
  | 4,h=>omega
  | 5,h=>omega
  | 6,h=>omega
  | n+7,h=>cases h
 exact ⟨of_decide_eq_true (bS.mp (bS.mp Rt k (dA.mpr a)) B h),by omega⟩
def Dd (h:fa ρ=some [.int i,.int j]) (h1 : -1000<=i) (h2:i<=1000) (b : -1000<=j) (a:j<=1000):VE fa ρ=some (yy i j):=by
 have c:(-(2 ^ 62)<=i/\i < 2 ^ 62 /\ -(2 ^ 62)<=j/\j < 2 ^ 62)/\(j - i).toNat<=1000000:=⟨⟨by omega,by omega,by omega,by omega⟩,by omega⟩
 unfold VE
 rw [h]
 exact if_pos c
noncomputable abbrev bC:FT:=aU (ze Ab (vF 5) (vF 2))
noncomputable abbrev bB:FS:=wG (vX 6 (zW xl (zb (zW jm (zb (vF 0) (zb (ze xn (cF (.int 1)) (vF 5)) zq))) (zb (cF (.int 2)) zq)))) (wG (vX 7 (ze xn (cF (.int 1)) (ze Zr (vF 6) (ze vp (vF 2) (vF 5))))) (wG (cg (aU (ze b9 (ze Zr (ze qe (vF 6) (cF (.int 6))) (cF (.int 3))) (cF (.int 0)))) (vX 7 (ze vp (vF 2) (vF 5))) cS) (wG (vX 8 (zW vH (zb (vF 7) (zb (ze qe (vF 6) (cF (.int 32))) zq)))) (wG (cg (UY (aU (ze eU (vF 7) (cF (.int 1)))) (aU (ze b9 (ze Zr (ze qe (vF 6) (cF (.int 18))) (cF (.int 4))) (cF (.int 0))))) (vX 8 (zW qD (zb (vF 7) (zb (ze qe (vF 6) (cF (.int 32))) zq)))) cS) (wG (uQ 3 (zk (qf 3 [5] (yx (ze aE (vF 8) (cF (.int 1)))) (jM 3 (yp (zL 0) (yp (zL 1) (yp (zL 2) kG)))) dk (tupF (zb (ze xn (vF 3) (vF 0)) (zb (ze xn (vF 3) (vF 1)) (zb (vF 2) zq))))))) (wG (xE 4 (tupF (zb (zk (VE (zb (vF 5) (zb (ze xn (vF 5) (vF 7)) zq)))) (zb (ze aE (vF 8) (cF (.int 0))) zq)))) (vX 5 (ze xn (vF 5) (vF 7)))))))))
def Gh (ns:List Int) (d:Slot) (n b:Nat) (hn:n<=6) (hb:b < n) (a e:List D) (h3:a.length<=50) (h4:e.length<=10) (F o g:Slot) :
  ∃ (m:Nat) (B:Bk) (W I r:Slot),1<=m/\m<=n - b/\B∈qc m/\bB [.fr (lD ns),d,.fr (.int n),.ol a,.ol e,.fr (.int b),F,o,g] =
   some (.nx [.fr (lD ns),d,.fr (.int n),.ol (a++(B.2.map (dU b)).map tD),.ol (e++[K9 ((b:Int),(m,B))]),.fr (.int ((b+m:Nat):Int)),W,I,r]):=by
 obtain ⟨c,hc⟩:=Ko ns (1+b) (by omega)
 have E:(1:Int)+(b:Int)=((1+b:Nat):Int):=by omega
 obtain ⟨z,z0,z1,hz⟩:=kY c 2 (by omega)
 have hz:xl [.int c,.int 2]=some (.int z):=hz
 have G:=y7 (i:=z) (show (0:Int) < (n:Int) - b by omega)
 have l:=uh (i:=z) (show (0:Int) < 6 by decide) (by decide)
 have k:=y7 (i:=z / 6) (show (0:Int) < 3 by decide)
 have s:=uh (i:=z) (show (0:Int) < 32 by decide) (by decide)
 have J:=uh (i:=z) (show (0:Int) < 18 by decide) (by decide)
 have j:=y7 (i:=z / 18) (show (0:Int) < 4 by decide)
 have Y:0<=z % ((n:Int) - b):=Ip _ (by omega)
 have X:z % ((n:Int) - b) < (n:Int) - b:=E6 _ (by omega)
 have Z:∃ (m:Nat) (I:Slot),1<=m/\m<=n - b/\∀ R:FS,wG (vX 7 (ze xn (cF (.int 1)) (ze Zr (vF 6) (ze vp (vF 2) (vF 5))))) (wG (cg (aU (ze b9 (ze Zr (ze qe (vF 6) (cF (.int 6))) (cF (.int 3))) (cF (.int 0)))) (vX 7 (ze vp (vF 2) (vF 5))) cS) R) [.fr (lD ns),d,.fr (.int n),.ol a,.ol e,.fr (.int b),.fr (.int z),o,g]=R [.fr (lD ns),d,.fr (.int n),.ol a,.ol e,.fr (.int b),.fr (.int z),.fr (.int m),g]:=by
  by_cases q:z / 6 % 3=0
  .refine ⟨n - b,.no,by omega,by omega,λR=>?_⟩
   simp only [zr,z9,yM,yU,zm,y6,zX,ao,ay,af,U7,G,j5,aN,aM,l,k,q,Z7,decide_true,if_true]
   rw [show (n:Int) - b=((n - b:Nat):Int) by omega]
  .refine ⟨(1+z % ((n:Int) - b)).toNat,.no,by omega,by omega,λR=>?_⟩
   simp only [zr,z9,yM,yU,zm,y6,zX,ao,ay,af,U7,G,j5,aN,aM,l,k,Z7,decide_eq_false q,b5,if_false,wu]
   rw [show (((1+z % ((n:Int) - b)).toNat:Nat):Int)=1+z % ((n:Int) - b) by omega]
 obtain ⟨m,_,H,U,em⟩:=Z
 have h:∃ B:Bk,B∈qc m/\∀ R:FS,wG (vX 8 (zW vH (zb (vF 7) (zb (ze qe (vF 6) (cF (.int 32))) zq)))) (wG (cg (UY (aU (ze eU (vF 7) (cF (.int 1)))) (aU (ze b9 (ze Zr (ze qe (vF 6) (cF (.int 18))) (cF (.int 4))) (cF (.int 0))))) (vX 8 (zW qD (zb (vF 7) (zb (ze qe (vF 6) (cF (.int 32))) zq)))) cS) R) [.fr (lD ns),d,.fr (.int n),.ol a,.ol e,.fr (.int b),.fr (.int z),.fr (.int m),g]=R [.fr (lD ns),d,.fr (.int n),.ol a,.ol e,.fr (.int b),.fr (.int z),.fr (.int m),.fr (.tup [.str (kT B.1),cD B.2])]:=by
  obtain ⟨B,h,eB⟩:=K5 m (z / 32) H (by omega)
  by_cases q:1 < m/\z / 18 % 4=0
  .obtain ⟨C,hC,eC⟩:=HA m (z / 32) (by omega) (by omega)
   refine ⟨C,hC,λR=>?_⟩
   have p:(1:Int) < m:=by omega
   simp only [zr,z9,yM,Zl,yU,zm,y6,zX,zw,zf,zo,ao,ay,af,s,eB,aN,aM,Gm,decide_eq_true p,if_true,J,j,q.2,Z7,decide_true,eC]
  .refine ⟨B,h,λR=>?_⟩
   by_cases p:(1:Int) < m
   .have Q:¬ z / 18 % 4=0:=λw=>q ⟨by omega,w⟩
    simp only [zr,z9,yM,Zl,yU,zm,y6,zX,zw,zf,zo,ao,ay,af,s,eB,aN,aM,Gm,decide_eq_true p,if_true,J,j,Z7,decide_eq_false Q,b5,if_false,wu]
   .simp only [zr,z9,yM,Zl,yU,zm,y6,zX,zw,zf,zo,ao,ay,af,s,eB,aN,aM,Gm,decide_eq_false p,b5,if_false,wu]
 obtain ⟨B,h,eB⟩:=h
 obtain ⟨bl,_⟩:=Cp h
 have e1:=MP (ft:=dk) (f:=tupF (zb (ze xn (vF 3) (vF 0)) (zb (ze xn (vF 3) (vF 1)) (zb (vF 2) zq)))) (C:=[.fr (.int b)]) (ι:=λu:T3=>.int u.1) (κ:=λu:T3=>.int u.2.1) (μ:=λu:T3=>.int u.2.2) (q:=λ_=>true) (φ:=λu=>tD (dU b u)) B.2 .no .no .no (λ_ _=>rfl) (λu _ _=>by
  have T:3<=sizeLine:=a7 (by omega)
  simp only [wt,zf,zo,zX,zm,ao,ay,af,j5,aB,aI,b_,q0,if_pos T]
  rfl)
 rw [A0.mpr (λ_ _=>rfl)] at e1
 have e1:y8 (jM 3 (yp (zL 0) (yp (zL 1) (yp (zL 2) kG)))) dk (tupF (zb (ze xn (vF 3) (vF 0)) (zb (ze xn (vF 3) (vF 1)) (zb (vF 2) zq)))) (B.2.map tD) [.no,.no,.no,.fr (.int b)]=some (B.2.map λu=>tD (dU b u)):=e1
 have y:(B.2.map tD).length<=sizeLine:=by rw [aD]; exact a7 (by omega)
 have v:a.length+(B.2.map λu=>tD (dU b u)).length<=sizeLine:=by rw [aD]; exact a7 (by omega)
 have x:e.length < sizeLine:=yX (by omega)
 have gf:2<=sizeLine:=a7 (by omega)
 have A:some (yy (b:Int) ((b:Int)+m))=some ((idx m).map λi=>.int ((b:Int)+i)):=by
  unfold yy idx
  rw [bz,show ((b:Int)+m - b).toNat=m by omega]
  rfl
 have S:∀ (t:List D) (g:Slot),VE (zb (vF 5) (zb (ze xn (vF 5) (vF 7)) zq)) [.fr (lD ns),d,.fr (.int n),.ol t,.ol e,.fr (.int b),.fr (.int z),.fr (.int m),g]=some ((idx m).map λi=>.int ((b:Int)+i)):=λt g=>by
  have ea:zb (vF 5) (zb (ze xn (vF 5) (vF 7)) zq) [.fr (lD ns),d,.fr (.int n),.ol t,.ol e,.fr (.int b),.fr (.int z),.fr (.int m),g]=some [.int (b:Int),.int ((b:Int)+m)]:=by
   simp only [zf,zo,zX,zm,ao,ay,af,j5]
  rw [Dd ea (by omega) (by omega) (by omega) (by omega)]
  exact A
 refine ⟨m,B,.fr (.int z),.fr (.int m),.fr (.tup [.str (kT B.1),cD B.2]),H,U,h,?_⟩
 have e0:vX 6 (zW xl (zb (zW jm (zb (vF 0) (zb (ze xn (cF (.int 1)) (vF 5)) zq))) (zb (cF (.int 2)) zq))) [.fr (lD ns),d,.fr (.int n),.ol a,.ol e,.fr (.int b),F,o,g]=some (.nx [.fr (lD ns),d,.fr (.int n),.ol a,.ol e,.fr (.int b),.fr (.int z),o,g]):=by
  simp only [z9,zw,zf,zo,zX,zm,y6,ao,ay,af,j5,E,hc,hz,aN,aM]
 unfold bB
 rw [zr,e0,af]
 dsimp only
 rw [em,eB]
 have P:zk (qf 3 [5] (yx (ze aE (vF 8) (cF (.int 1)))) (jM 3 (yp (zL 0) (yp (zL 1) (yp (zL 2) kG)))) dk (tupF (zb (ze xn (vF 3) (vF 0)) (zb (ze xn (vF 3) (vF 1)) (zb (vF 2) zq))))) [.fr (lD ns),d,.fr (.int n),.ol a,.ol e,.fr (.int b),.fr (.int z),.fr (.int m),.fr (.tup [.str (kT B.1),cD B.2])]=some (.lst (B.2.map λu=>tD (dU b u))):=by
  simp only [zx,xh,zE,zm,zX,y6,ao,ay,af,nO,yY,if_pos y,xJ,ud,aC,bg,aP,bJ,bw,e1,bL]
 have O:uQ 3 (zk (qf 3 [5] (yx (ze aE (vF 8) (cF (.int 1)))) (jM 3 (yp (zL 0) (yp (zL 1) (yp (zL 2) kG)))) dk (tupF (zb (ze xn (vF 3) (vF 0)) (zb (ze xn (vF 3) (vF 1)) (zb (vF 2) zq)))))) [.fr (lD ns),d,.fr (.int n),.ol a,.ol e,.fr (.int b),.fr (.int z),.fr (.int m),.fr (.tup [.str (kT B.1),cD B.2])]=some (.nx [.fr (lD ns),d,.fr (.int n),.ol (a++B.2.map λu=>tD (dU b u)),.ol e,.fr (.int b),.fr (.int z),.fr (.int m),.fr (.tup [.str (kT B.1),cD B.2])]):=by
  rw [qs,P,af]
  exact if_pos v
 have M:tupF (zb (zk (VE (zb (vF 5) (zb (ze xn (vF 5) (vF 7)) zq)))) (zb (ze aE (vF 8) (cF (.int 0))) zq)) [.fr (lD ns),d,.fr (.int n),.ol (a++B.2.map λu=>tD (dU b u)),.ol e,.fr (.int b),.fr (.int z),.fr (.int m),.fr (.tup [.str (kT B.1),cD B.2])]=some (K9 ((b:Int),(m,B))):=by
  rw [wt,zf,zx,S]
  simp only [bL,af,zf,zo,zm,zX,y6,ao,ay,g6]
  exact if_pos gf
 have L:xE 4 (tupF (zb (zk (VE (zb (vF 5) (zb (ze xn (vF 5) (vF 7)) zq)))) (zb (ze aE (vF 8) (cF (.int 0))) zq))) [.fr (lD ns),d,.fr (.int n),.ol (a++B.2.map λu=>tD (dU b u)),.ol e,.fr (.int b),.fr (.int z),.fr (.int m),.fr (.tup [.str (kT B.1),cD B.2])]=some (.nx [.fr (lD ns),d,.fr (.int n),.ol (a++B.2.map λu=>tD (dU b u)),.ol (e++[K9 ((b:Int),(m,B))]),.fr (.int b),.fr (.int z),.fr (.int m),.fr (.tup [.str (kT B.1),cD B.2])]):=by
  rw [wx,M,af]
  exact if_pos x
 rw [zr,O,af]
 dsimp only
 rw [zr,L,af]
 dsimp only
 rw [z9]
 simp only [zm,zX,ao,ay,af,j5,aN,aM]
 rw [bz,show (b:Int)+m=((b+m:Nat):Int) by omega]
 rfl
theorem XO (ns:List Int) (c:Slot) (n:Nat) (k:n<=6):∀ (N r b:Nat) (a d:List D) (h g f:Slot),b+r=n->r < N->a.length<=7 * b->d.length<=b →
  ∃ (bs:List ba) (y x j:Slot),yP bs=r/\(∀ B∈bs,B.2∈qc B.1)/\yS bC bB N [.fr (lD ns),c,.fr (.int n),.ol a,.ol d,.fr (.int b),h,g,f] =
   some (.nx [.fr (lD ns),c,.fr (.int n),.ol (a++(bZ b bs).map tD),.ol (d++(wg b bs).map K9),.fr (.int n),y,x,j])
 | 0,r,b,a,d,h,g,f,h1,h2,E,A=>by omega
 | N+1,r,b,a,d,h,g,f,h1,h2,E,A=>by
  have l:bC [.fr (lD ns),c,.fr (.int n),.ol a,.ol d,.fr (.int b),h,g,f]=some (decide ((b:Int) < (n:Int))):=by
   simp only [bC,yU,zm,zX,ao,ay,af,zdp]
  by_cases e:r=0
  .subst e
   have:b=n:=by omega
   subst this
   refine ⟨[],h,g,f,rfl,(λB i=>nomatch i),?_⟩
   unfold yS
   rw [l,decide_eq_false (by omega)]
   simp [bZ,wg]
  .obtain ⟨m,B,u,t,s,H,G,i,es⟩:=Gh ns c n b k (by omega) a d (by omega) (by omega) h g f
   obtain ⟨bl,_⟩:=Cp i
   obtain ⟨bs,q,p,o,I,hg,w⟩:=XO ns c n k N (r - m) (b+m) (a++(B.2.map (dU b)).map tD) (d++[K9 ((b:Int),(m,B))]) u t s (by omega) (by omega) (by rw [aW,aD,aD]; omega) (by rw [aW]; simp; omega)
   refine ⟨(m,B) :: bs,q,p,o,by unfold yP; omega,λC z=>(aS.mp z).elim (λe=>by rw [e]; exact i) (hg C),?_⟩
   unfold yS
   rw [l,decide_eq_true (by omega),af,if_pos rfl,es,af]
   dsimp only
   rw [w]
   have F:bZ b ((m,B) :: bs)=B.2.map (dU b)++bZ ((b:Int)+(m:Int)) bs:=rfl
   have v:wg b ((m,B) :: bs)=((b:Int),(m,B)) :: wg ((b:Int)+(m:Int)) bs:=rfl
   rw [F,v,bK,dh,aC,dh,show ((b+m:Nat):Int)=(b:Int)+(m:Int) by omega]
   rfl
def Cn (ns:List Int):∃ bs:List ba,1<=yP bs/\yP bs<=6/\(∀ B∈bs,B.2∈qc B.1)/\YC [lD ns]=some (.tup [.int (yP bs),cD (bZ 0 bs),.lst ((wg 0 bs).map K9)]):=by
 obtain ⟨c,b⟩:=Ko ns 0 (by omega)
 obtain ⟨z,j,z1,hz⟩:=kY c 1 (by omega)
 have b:jm [lD ns,.int 0]=some (.int c):=b
 have hz:xl [.int c,.int 1]=some (.int z):=hz
 have f:=y7 (i:=z) (show (0:Int) < 6 by decide)
 obtain ⟨n,g⟩:∃ n:Nat,(n:Int)=1+z % 6:=⟨(1+z % 6).toNat,by omega⟩
 obtain ⟨bs,m,l,k,h,hg,a⟩:=XO ns (.fr (.int z)) n (by omega) 100000 n 0 [] [] .no .no .no (by omega) (by omega) (by simp) (by simp)
 have d:0<=sizeLine:=dJ _
 have e:3<=sizeLine:=a7 (by omega)
 subst h
 refine ⟨bs,by omega,by omega,hg,?_⟩
 simp only [YC,Y0,yi,zC,aC,bg,aB,aI,q0,q4,aP,bJ,bw]
 rw [zr,z9]
 simp only [zw,zf,zo,zX,y6,ao,ay,af,b,hz,aN,aM]
 rw [zr,z9]
 simp only [zm,zX,y6,ao,ay,af,f,j5,aN,aM]
 rw [zr,wJ]
 simp only [xp,zo,af,aI,if_pos d,aN,aM]
 rw [zr,wJ]
 simp only [xp,zo,af,aI,if_pos d,aN,aM]
 rw [zr,z9]
 simp only [y6,af,aN,aM]
 rw [<- g,zr]
 have a:yS bC bB 100000 [.fr (lD ns),.fr (.int z),.fr (.int (yP bs)),.ol [],.ol [],.fr (.int 0),.no,.no,.no]=_:=a
 rw [a,af]
 dsimp only
 simp only [Xq,G7,ao,ay,af,aN,aM,z8,wt,zf,zo,zX,aB,aI,b_,q0,if_pos e,bw,yu]
 rfl
def sg (ord:List Int) (i:Int):Int:=ord.getD i.toNat 0
def zb8 (h:ord.Perm (idx n)):Rl n (sg ord):=by
 have o:ord.length=n:=by rw [h.length_eq,wz]
 have g:ord.Nodup:=h.nodup_iff.mpr (xP n)
 have at_:∀ i:Int,0<=i->i < n->∃ hi:i.toNat < ord.length,sg ord i=ord[i.toNat]:=λi q h1=>by
  have hi:i.toNat < ord.length:=by omega
  exact ⟨hi,by unfold sg; rw [bR,fg hi]; rfl⟩
 refine ⟨λi j hi b l m e=>?_,λi hi b=>?_,λy f d=>?_⟩
 .obtain ⟨a,e1⟩:=at_ i hi b
  obtain ⟨c,e2⟩:=at_ j l m
  rw [e1,e2] at e
  have:=(List.getElem_inj (h₀:=a) (h₁:=c) g).mp e
  omega
 .obtain ⟨a,e1⟩:=at_ i hi b
  rw [e1]
  exact yN.mp (h.subset (rX a))
 .have:y∈ord:=h.symm.subset (yN.mpr ⟨f,d⟩)
  obtain ⟨k,p,e⟩:=g3y.mp this
  obtain ⟨a,e1⟩:=at_ (k:Int) (by omega) (by omega)
  refine ⟨k,by omega,by omega,?_⟩
  rw [e1,<- e]
  rfl
def UN {n:Nat} {ord:List Int} (h:ord.Perm (idx n)) {i:Int} (b:0<=i) (h1:i < n):aE (lD ord) (.int i)=some (.int (sg ord i)):=by
 have a:ord.length=n:=by rw [h.length_eq,wz]
 have hi:i.toNat < ord.length:=by omega
 have:=zbh ord i.toNat (ord[i.toNat]) (fg hi)
 rw [show ((i.toNat:Nat):Int)=i by omega] at this
 rw [this]
 unfold sg
 rw [bR,fg hi]
 rfl
def Wh (h1:f ρ=some y) (h2:g ρ=some (.int k)) (b:ρ[i]? = some (.ol ds)) (c:0<=k) (a:k < ds.length):jU i g f ρ=some (.nx (ρ.set i (.ol (ds.set k.toNat y)))):=by
 have e:fO ds.length k=some k.toNat:=by
  unfold fO
  rw [if_pos (by omega)]
  simp [a]
  try omega
 unfold jU
 rw [h1,h2,b]
 show (fO ds.length k).bind _=_
 rw [e]
 rfl
noncomputable abbrev oB:FS:=wG (vX 6 (zW xl (zb (vF 5) (zb (cF (.int 3)) zq)))) (wG (vX 7 (ze Zr (vF 6) (vF 1))) (wG (vX 8 (ze Zr (ze qe (vF 6) (cF (.int 8))) (vF 1))) (wG (vX 9 (ze aE (vR 4) (vF 7))) (wG (jU 4 (vF 7) (ze aE (vR 4) (vF 8))) (jU 4 (vF 8) (vF 9))))))
def Dw (n:Nat) (M:1<=n) (a0 a2 a3 e d b r3 a:Slot) (c:Int) (ord:List Int) (h:ord.Perm (idx n)) (G F E C:Slot) :
  ∃ (m:List Int) (x w v u:Slot),m.Perm (idx n)/\oB [a0,.fr (.int n),a2,a3,.ol (ord.map D.int),.fr (.int c),G,F,E,C,e,d,b,r3,a]=some (.nx [a0,.fr (.int n),a2,a3,.ol (m.map D.int),.fr (.int c),x,w,v,u,e,d,b,r3,a]):=by
 obtain ⟨z,L,z1,hz⟩:=kY c 3 (by omega)
 have hz:xl [.int c,.int 3]=some (.int z):=hz
 have O:ord.length=n:=by rw [h.length_eq,wz]
 have f:=y7 (i:=z) (show (0:Int) < (n:Int) by omega)
 have fd:=uh (i:=z) (show (0:Int) < 8 by decide) (by decide)
 have l:=y7 (i:=z / 8) (show (0:Int) < (n:Int) by omega)
 obtain ⟨i,hi⟩:∃ i,i=z % (n:Int):=⟨_,rfl⟩
 obtain ⟨j,g⟩:∃ j,j=z / 8 % (n:Int):=⟨_,rfl⟩
 have p:0<=i:=by rw [hi]; exact Ip _ (by omega)
 have i1:i < n:=by rw [hi]; exact E6 _ (by omega)
 have o:0<=j:=by rw [g]; exact Ip _ (by omega)
 have H:j < n:=by rw [g]; exact E6 _ (by omega)
 rw [<- hi] at f
 rw [<- g] at l
 have J:=UN h p i1
 have I:=UN h o H
 have r:i.toNat < ord.length:=by omega
 have q:j.toNat < ord.length:=by omega
 have B:sg ord i=ord[i.toNat]:=by unfold sg; rw [bR,fg r]; rfl
 have A:sg ord j=ord[j.toNat]:=by unfold sg; rw [bR,fg q]; rfl
 refine ⟨(ord.set i.toNat (sg ord j)).set j.toNat (sg ord i),.fr (.int z),.fr (.int i),.fr (.int j),.fr (.int (sg ord i)),?_,?_⟩
 .rw [B,A]
  exact (List.set_set_perm r q).trans h
 have t:jU 4 (vF 7) (ze aE (vR 4) (vF 8)) [a0,.fr (.int n),a2,a3,.ol (ord.map D.int),.fr (.int c),.fr (.int z),.fr (.int i),.fr (.int j),.fr (.int (sg ord i)),e,d,b,r3,a]=some (.nx [a0,.fr (.int n),a2,a3,.ol ((ord.map D.int).set i.toNat (.int (sg ord j))),.fr (.int c),.fr (.int z),.fr (.int i),.fr (.int j),.fr (.int (sg ord i)),e,d,b,r3,a]) :=
  Wh (y:=.int (sg ord j)) (ds:=ord.map D.int) (k:=i) (by simp only [zm,KL,zX,ao,ay,af]; exact I) rfl rfl p (by rw [aD]; omega)
 have s:jU 4 (vF 8) (vF 9) [a0,.fr (.int n),a2,a3,.ol ((ord.map D.int).set i.toNat (.int (sg ord j))),.fr (.int c),.fr (.int z),.fr (.int i),.fr (.int j),.fr (.int (sg ord i)),e,d,b,r3,a]=some (.nx [a0,.fr (.int n),a2,a3,.ol (((ord.map D.int).set i.toNat (.int (sg ord j))).set j.toNat (.int (sg ord i))),.fr (.int c),.fr (.int z),.fr (.int i),.fr (.int j),.fr (.int (sg ord i)),e,d,b,r3,a]) :=
  Wh (y:=.int (sg ord i)) (k:=j) rfl rfl rfl o (by rw [List.length_set,aD]; omega)
 unfold oB
 rw [zr,z9]
 simp only [zw,zf,zo,zX,y6,ao,ay,af,hz,aN,aM]
 rw [zr,z9]
 simp only [zm,zX,ao,ay,af,f,aN,aM]
 rw [zr,z9]
 simp only [zm,zX,y6,ao,ay,af,fd,l,aN,aM]
 rw [zr,z9]
 simp only [zm,zX,KL,ao,ay,af,J,aN,aM]
 rw [zr,t,af]
 dsimp only
 rw [s,List.map_set,List.map_set]
theorem Jt (n:Nat) (s:1<=n) (a0 a2 a3 j i g r3 f:Slot):∀ (q:List Int) (ord:List Int) (k e d b a:Slot),ord.Perm (idx n) →
  ∃ (r:List Int) (y p o m l:Slot),r.Perm (idx n)/\yo (zL 5) oB (q.map D.int) [a0,.fr (.int n),a2,a3,.ol (ord.map D.int),k,e,d,b,a,j,i,g,r3,f]=some (.nx [a0,.fr (.int n),a2,a3,.ol (r.map D.int),y,p,o,m,l,j,i,g,r3,f])
 | [],ord,k,e,d,b,a,h=>⟨ord,k,e,d,b,a,h,rfl⟩
 | c :: q,ord,k,e,d,b,a,h=>by
  obtain ⟨B,p,o,m,l,z,e1⟩:=Dw n s a0 a2 a3 j i g r3 f c ord h e d b a
  obtain ⟨A,x,w,v,u,t,p2,e2⟩:=Jt n s a0 a2 a3 j i g r3 f q B (.fr (.int c)) p o m l z
  refine ⟨A,x,w,v,u,t,p2,?_⟩
  rw [aC]
  unfold yo
  rw [yL,af]
  show (oB [a0,.fr (.int n),a2,a3,.ol (ord.map D.int),.fr (.int c),e,d,b,a,j,i,g,r3,f]).bind _=_
  rw [e1]
  exact e2
abbrev pF:FS:=xE 10 (tupF (zb (zW Te (zb (ze aE (vR 4) (vF 7)) (zb (ze aE (vR 4) (vF 8)) zq))) (zb (zW Pi (zb (ze aE (vR 4) (vF 7)) (zb (ze aE (vR 4) (vF 8)) zq))) (zb (vF 11) zq))))
theorem VO (n:Nat) (ord:List Int) (h:ord.Perm (idx n)) (a0 a1 a2 a3 d c b f r3 e:Slot):∀ (us:List T3) (a:List D) (l k j:Slot),Ku n us->a.length+us.length<=60 →
  ∃ o m g,yo (jM 3 (yp (zL 7) (yp (zL 8) (yp (zL 11) kG)))) pF (us.map tD) [a0,a1,a2,a3,.ol (ord.map D.int),d,c,l,k,b,.ol a,j,f,r3,e] =
   some (.nx [a0,a1,a2,a3,.ol (ord.map D.int),d,c,o,m,b,.ol (a++(us.map (mU (sg ord))).map tD),g,f,r3,e])
 | [],a,l,k,j,_,_=>⟨l,k,j,by simp [yo]⟩
 | u :: us,a,l,k,j,hf,w=>by
  rw [aB] at w
  obtain ⟨f1,f2,x⟩:=hf u aV
  have q:=UN h f1 (by omega)
  have p:=UN h (i:=u.2.1) (by omega) x
  have r:3<=sizeLine:=a7 (by omega)
  have hz:a.length < sizeLine:=yX (by omega)
  obtain ⟨o,m,g,s⟩:=VO n ord h a0 a1 a2 a3 d c b f r3 e us (a++[tD (mU (sg ord) u)]) (.fr (.int u.1)) (.fr (.int u.2.1)) (.fr (.int u.2.2)) (λv t=>hf v (aZ _ t)) (by rw [aW]; simp; omega)
  refine ⟨o,m,g,?_⟩
  rw [aC]
  unfold yo
  have y:jM 3 (yp (zL 7) (yp (zL 8) (yp (zL 11) kG))) (tD u) [a0,a1,a2,a3,.ol (ord.map D.int),d,c,l,k,b,.ol a,j,f,r3,e]=some [a0,a1,a2,a3,.ol (ord.map D.int),d,c,.fr (.int u.1),.fr (.int u.2.1),b,.ol a,.fr (.int u.2.2),f,r3,e]:=rfl
  have e1:tupF (zb (zW Te (zb (ze aE (vR 4) (vF 7)) (zb (ze aE (vR 4) (vF 8)) zq))) (zb (zW Pi (zb (ze aE (vR 4) (vF 7)) (zb (ze aE (vR 4) (vF 8)) zq))) (zb (vF 11) zq))) [a0,a1,a2,a3,.ol (ord.map D.int),d,c,.fr (.int u.1),.fr (.int u.2.1),b,.ol a,.fr (.int u.2.2),f,r3,e]=some (tD (mU (sg ord) u)):=by
   simp only [wt,zf,zo,zw,zm,KL,zX,ao,ay,af,q,p,zb2,Sk,aB,aI,b_,q0,if_pos r]
   rfl
  have e2:pF [a0,a1,a2,a3,.ol (ord.map D.int),d,c,.fr (.int u.1),.fr (.int u.2.1),b,.ol a,.fr (.int u.2.2),f,r3,e]=some (.nx [a0,a1,a2,a3,.ol (ord.map D.int),d,c,.fr (.int u.1),.fr (.int u.2.1),b,.ol (a++[tD (mU (sg ord) u)]),.fr (.int u.2.2),f,r3,e]):=by
   unfold pF
   rw [wx,e1,af]
   exact if_pos hz
  rw [y,af,e2,af]
  dsimp only
  rw [s]
  simp
noncomputable abbrev fB:FS:=PV 4 (xE 12 (tupF (zb (zk (KB (zb (zk (qf 1 [4] (yx (vF 13)) (zL 0) dk (ze aE (vF 1) (vF 0)))) zq))) (zb (vF 14) zq))))
theorem XC (bs:List ba) (ord:List Int) (y:Hs bs (sg ord)) (h:ord.Perm (idx (yP bs))) (F:yP bs<=9) (a0 a1 a2 a3 g e d c b k j:Slot):∀ (ps:List (Int×ba)) (a:List D) (l o s:Slot),(∀ p∈ps,p∈wg 0 bs)->a.length+ps.length<=60->(l=.ol (ord.map D.int)\/l=.fr (lD ord)) →
  ∃ u n m,yo (jM 2 (yp (zL 13) (yp (zL 14) kG))) fB (ps.map K9) [a0,a1,a2,a3,l,g,e,d,c,b,k,j,.ol a,o,s] =
   some (.nx [a0,a1,a2,a3,u,g,e,d,c,b,k,j,.ol (a++(ps.map (UV kT (sg ord))).map cV),n,m])
 | [],a,l,o,s,_,_,_=>⟨l,o,s,by simp [yo]⟩
 | p :: ps,a,l,o,s,z,E,G=>by
  rw [aB] at E
  have t:=z p aV
  have P:=xH t
  obtain ⟨u,n,m,A⟩:=XC bs ord y h F a0 a1 a2 a3 g e d c b k j ps (a++[cV (UV kT (sg ord) p)]) (.fr (lD ord)) (.fr (.lst ((idx p.2.1).map λi=>.int (p.1+i)))) (.fr (.str (kT p.2.2.1))) (λq B=>z q (aZ _ B)) (by rw [aW]; simp; omega) (.inr rfl)
  refine ⟨u,n,m,?_⟩
  rw [aC]
  unfold yo
  have O:jM 2 (yp (zL 13) (yp (zL 14) kG)) (K9 p) [a0,a1,a2,a3,l,g,e,d,c,b,k,j,.ol a,o,s]=some [a0,a1,a2,a3,l,g,e,d,c,b,k,j,.ol a,.fr (.lst ((idx p.2.1).map λi=>.int (p.1+i))),.fr (.str (kT p.2.2.1))]:=rfl
  have e1:=jo (f:=ze aE (vF 1) (vF 0)) (C:=[.fr (lD ord)]) (ι:=λi:Int=>D.int (p.1+i)) (φ:=λi=>.int (sg ord (p.1+i))) (idx p.2.1) .no (λi hi=>by
   rw [yN] at hi
   have:=UN h (i:=p.1+i) (by omega) (by omega)
   simp only [zm,zX,ao,ay,af]
   exact this)
  have hz:((idx p.2.1).map λi:Int=>D.int (p.1+i)).length<=sizeLine:=by rw [aD,wz]; exact a7 (by omega)
  have v:a.length < sizeLine:=yX (by omega)
  have H:2<=sizeLine:=a7 (by omega)
  have w:(wM (sg ord) p).length < 64:=by unfold wM; rw [aD,wz]; omega
  have e2:KB (zb (zk (qf 1 [4] (yx (vF 13)) (zL 0) dk (ze aE (vF 1) (vF 0)))) zq) [a0,a1,a2,a3,.fr (lD ord),g,e,d,c,b,k,j,.ol a,.fr (.lst ((idx p.2.1).map λi=>.int (p.1+i))),.fr (.str (kT p.2.2.1))]=some ((sortI (wM (sg ord) p)).map D.int):=by
   refine Wd ?_ w
   simp only [zf,zo,zx,xh,zE,zX,ao,ay,af,yY,if_pos hz,xJ,ud,aC,bg,aP,bJ,bw,e1,bL]
   unfold wM
   show _=some [D.lst ((dI _ _).map D.int)]
   rw [bz]
   rfl
  obtain ⟨x,r,I,_⟩:=y.head t
  have M:tupF (zb (zk (KB (zb (zk (qf 1 [4] (yx (vF 13)) (zL 0) dk (ze aE (vF 1) (vF 0)))) zq))) (zb (vF 14) zq)) [a0,a1,a2,a3,.fr (lD ord),g,e,d,c,b,k,j,.ol a,.fr (.lst ((idx p.2.1).map λi=>.int (p.1+i))),.fr (.str (kT p.2.2.1))]=some (cV (UV kT (sg ord) p)):=by
   unfold UV
   rw [QD (by rw [I]; simp),wt,zf,zx,e2]
   simp only [bL,af,zf,zo,zX,ao,ay]
   exact if_pos H
  have L:fB [a0,a1,a2,a3,l,g,e,d,c,b,k,j,.ol a,.fr (.lst ((idx p.2.1).map λi=>.int (p.1+i))),.fr (.str (kT p.2.2.1))]=some (.nx [a0,a1,a2,a3,.fr (lD ord),g,e,d,c,b,k,j,.ol (a++[cV (UV kT (sg ord) p)]),.fr (.lst ((idx p.2.1).map λi=>.int (p.1+i))),.fr (.str (kT p.2.2.1))]):=by
   have J:frz 4 [a0,a1,a2,a3,l,g,e,d,c,b,k,j,.ol a,.fr (.lst ((idx p.2.1).map λi=>.int (p.1+i))),.fr (.str (kT p.2.2.1))]=some [a0,a1,a2,a3,.fr (lD ord),g,e,d,c,b,k,j,.ol a,.fr (.lst ((idx p.2.1).map λi=>.int (p.1+i))),.fr (.str (kT p.2.2.1))]:=by
    rcases G with rfl | rfl <;> rfl
   unfold fB
   rw [Xq,J,af,wx,M,af]
   exact if_pos v
  rw [O,af,L,af]
  dsimp only
  rw [A]
  simp
theorem MQ:∀ {bs:List ba} {b:Int},(∀ B∈bs,B.2∈qc B.1)->(bZ b bs).length<=7 * yP bs/\(wg b bs).length<=yP bs
 | [],b,_=>⟨aT _,aT _⟩
 | B :: bs,b,h=>by
  obtain ⟨h1,h2⟩:=MQ (bs:=bs) (b:=b+B.1) λC c=>h C (aZ _ c)
  have a:=h B aV
  obtain ⟨bl,_⟩:=Cp a
  have:0 < B.1:=by
   cases e:B.1 with
   | zero=>rw [e] at a; cases a
   | succ n=>omega
  unfold bZ wg yP
  rw [aW,aD,aB]
  omega
def FN (ns:List Int) (a b:Option Int):Y4 (ns.map D.int) a b=(Y4 ns a b).map D.int:=by
 unfold Y4
 rw [aD,List.map_take,LN]
def HG (ns:List Int):∃ (bs:List ba) (ord:List Int),1<=yP bs/\yP bs<=6/\Hs bs (sg ord)/\(bA bs (sg ord)).length<=42/\((wg 0 bs).map (UV kT (sg ord))).length<=6 ∧
  kj [lD ns]=some (.tup [zh (yP bs) (bA bs (sg ord)),.lst ((kJ ((wg 0 bs).map (UV kT (sg ord)))).map cV)]):=by
 obtain ⟨bs,h1,s,hg,r⟩:=Cn ns
 obtain ⟨x,y⟩:=MQ (b:=0) hg
 have j:(if -(2 ^ 62)<=(yP bs:Int)/\(yP bs:Int)<=1000000 then some (yy 0 (yP bs:Int)) else none)=some ((idx (yP bs)).map D.int):=by rw [if_pos (by omega),uy]
 obtain ⟨ord,i,h,q,o,g,c,e1⟩:=Jt (yP bs) h1 (.fr (lD ns)) (.fr (cD (bZ 0 bs))) (.fr (.lst ((wg 0 bs).map K9))) .no .no .no .no .no (Y4 ns (some 7) (some 64)) (idx (yP bs)) .no .no .no .no .no (.refl _)
 have d:Hs bs (sg ord):=⟨hg,zb8 c⟩
 obtain ⟨l,k,a,e2⟩:=VO (yP bs) ord c (.fr (lD ns)) (.fr (.int (yP bs))) (.fr (cD (bZ 0 bs))) (.fr (.lst ((wg 0 bs).map K9))) i h g .no .no .no (bZ 0 bs) [] q o .no (QI d.fits) (by simp; omega)
 obtain ⟨n,f,e,v⟩:=XC bs ord d c (by omega) (.fr (lD ns)) (.fr (.int (yP bs))) (.fr (cD (bZ 0 bs))) (.fr (.lst ((wg 0 bs).map K9))) i h l k g (.ol ([]++((bZ 0 bs).map (mU (sg ord))).map tD)) a (wg 0 bs) [] (.ol (ord.map D.int)) .no .no (λp c=>c) (by simp; omega) (.inl rfl)
 refine ⟨bs,ord,h1,s,d,by unfold bA; rw [aD]; omega,by rw [aD]; omega,?_⟩
 have m:0<=sizeLine:=dJ _
 have t:2<=sizeLine:=a7 (by omega)
 have w:3=3:=rfl
 have start:kj [lD ns]=Wx (kF.1 [.fr (lD ns),.no,.no,.no,.no,.no,.no,.no,.no,.no,.no,.no,.no,.no,.no]):=rfl
 rw [start]
 unfold kF
 dsimp only [aB,aI,b_,q0]
 rw [zr,Mb]
 simp only [zw,zf,zo,zX,ao,ay,af,r,ji,aB,aI,b_,q0,if_true,uk,yL,jk,aN,aM]
 have a1:Dc (zb (vF 1) zq) [.fr (lD ns),.fr (.int (yP bs)),.fr (cD (bZ 0 bs)),.fr (.lst ((wg 0 bs).map K9)),.no,.no,.no,.no,.no,.no,.no,.no,.no,.no,.no]=some ((idx (yP bs)).map D.int):=by
  simp only [Dc,zf,zo,zX,ao,ay,af,j]
 rw [zr,wJ,a1]
 simp only [af,aN,aM]
 rw [zr,xG]
 simp only [zE,ZD,zX,C8,y6,ao,ay,af,yY]
 rw [FN,e1,af]
 dsimp only
 rw [zr,wJ]
 simp only [xp,zo,af,aI,if_pos m,aN,aM]
 rw [zr,xG]
 simp only [zE,zX,ao,ay,af,yY]
 rw [e2,af]
 dsimp only
 rw [zr,wJ]
 simp only [xp,zo,af,aI,if_pos m,aN,aM]
 rw [zr,xG]
 simp only [zE,zX,ao,ay,af,yY]
 rw [v,af]
 dsimp only
 rw [Xq,G7]
 simp only [ao,ay,af,aN,aM,bw]
 have u:=C6 (fa:=zb (vR 12) zq) (ρ:=[.fr (lD ns),.fr (.int (yP bs)),.fr (cD (bZ 0 bs)),.fr (.lst ((wg 0 bs).map K9)),n,i,h,l,k,g,.fr (.lst (((bZ 0 bs).map (mU (sg ord))).map tD)),a,.ol (((wg 0 bs).map (UV kT (sg ord))).map cV),f,e]) (rs:=(wg 0 bs).map (UV kT (sg ord))) rfl (by rw [aD]; omega) (d.due_asc kT)
 rw [z8,wt,zf,wt]
 simp only [zf,zo,zX,ao,ay,af,aB,aI,b_,q0,if_pos t,zx,u,bL,yu]
 rfl
abbrev Yd:List (Str×D):=[("e6",(.tup [(.int 2),(.int 5),(.int 6),(.int 8),(.int 9),(.int 12)])),("f4",(.tup [(.int 2),(.int 6),(.int 8),(.int 12)])),("h3",(.tup [(.int 2),(.int 6),(.int 10)])),("h4",(.tup [(.int 2),(.int 12),(.int 20),(.int 30)])),("i5",(.tup [(.int 2),(.int 5)])),("i6",(.tup [(.int 2),(.int 6)]))]
def FH (m) (h:Yd.lookup k=some (.tup (l.map D.int))):zS [.str k,.int m]=some (lD l):=by
 simp only [zS,yK,yi,zC,aC,bg,aB,aI,q0,q4,aP,bX,bJ,bw,zr,yM,Jl,zX,ao,af,h,Option.isSome_some,if_true,z8,zx,Nl,zf,zo,Ya,Nk,bL,yu]
def zc7 (h:Yd.lookup k=none) (h1:Txt.startswith k "a"=true) (b:0<=m) (h2:m<=9) (a:yy 2 (m+2)=l.map D.int):zS [.str k,.int m]=some (lD l):=by
 have c:(-(2 ^ 62)<=(2:Int)/\(2:Int) < 2 ^ 62 /\ -(2 ^ 62)<=m+2/\m+2 < 2 ^ 62)/\(m+2 - 2).toNat<=1000000:=by
  refine ⟨⟨by decide,by decide,?_,?_⟩,?_⟩ <;> omega
 simp only [zS,yK,yi,zC,aC,bg,aB,aI,q0,q4,aP,bX,bJ,bw,zr,yM,Jl,zX,ao,ay,af,h,Option.isSome_none,b5,if_false,wu,yU,zm,y6,Nd,h1,if_true,z8,zx,VE,zf,zo,j5,if_pos c,a,bL,yu]
def zc6 (h:Yd.lookup k=none) (h1:Txt.startswith k "a"=false) (h2:Txt.startswith k "b"=true) (e:0<=m) (d:m<=9) (c:N6 2 (2 * m+1) 2=true) (b:X2 2 2 (EG 2 (2 * m+1) 2).toNat=l.map D.int):zS [.str k,.int m]=some (lD l):=by
 have a:JD (.int 2) (.int m)=some (.int (2 * m)):=zba (by decide) (by decide)
 simp only [zS,yK,yi,zC,aC,bg,aB,aI,q0,q4,aP,bX,bJ,bw,zr,yM,Jl,zX,ao,ay,af,h,Option.isSome_none,b5,if_false,wu,yU,zm,y6,Nd,h1,h2,if_true,z8,zx,G3,zf,zo,a,j5,if_pos c,b,bL,yu]
def zc5 (h:Yd.lookup k=none) (h1:Txt.startswith k "a"=false) (h2:Txt.startswith k "b"=false) (f:0<=m) (e:m<=9) (c:N6 2 (2 * m) 2=true) (b:X2 2 2 (EG 2 (2 * m) 2).toNat=l.map D.int) (d:l.length<=9):zS [.str k,.int m]=some (lD (l++[m])):=by
 have a:JD (.int 2) (.int m)=some (.int (2 * m)):=zba (by decide) (by decide)
 have z1:0+1<=sizeLine:=a7 (by decide)
 have ad:xn (.lst (l.map D.int)) (.lst [.int m])=some (lD (l++[m])):=by
  unfold xn
  dsimp only
  rw [if_pos (by rw [aD,di]; exact a7 (by omega))]
  simp
 simp only [zS,yK,yi,zC,aC,bg,aB,aI,q0,q4,aP,bX,bJ,bw,zr,yM,Jl,zX,ao,ay,af,h,Option.isSome_none,b5,if_false,wu,yU,zm,y6,Nd,h1,h2,if_true,z8,zx,G3,zf,zo,a,if_pos c,b,xp,if_pos z1,bL,ad,yu]
def fS:Kd->List Int
 | (1,m)=>(aK m).map λ(i:Nat)=>(i:Int)+2
 | (2,m)=>(aK m).map λ(i:Nat)=>2 * (i:Int)+2
 | (4,m)=>((aK (m - 1)).map λ(i:Nat)=>2 * (i:Int)+2)++[(m:Int)]
 | (5,6)=>[2,5,6,8,9,12]
 | (6,4)=>[2,6,8,12]
 | (8,3)=>[2,6,10]
 | (8,4)=>[2,12,20,30]
 | (9,5)=>[2,5]
 | (9,6)=>[2,6]
 | _=>[]
structure DgOk (k:Nat) (c:Kd):Prop where
 val:zS [kD c,.int (k:Int)]=some (lD (fS c))
 len:(fS c).length<=6
 txt:kT c≠"-"
def Qu (h:(Yd.lookup k).isSome=false):Yd.lookup k=none:=by
 cases e:Yd.lookup k with
 | none=>rfl
 | some d=>rw [e] at h; cases h
def RL (m) (a:m<=6) (h:(Yd.lookup (kT (1,m))).isSome=false) (h1:Txt.startswith (kT (1,m)) "a"=true) (h2:kT (1,m)≠"-"):DgOk m (1,m) :=
 ⟨zc7 (Qu h) h1 (by omega) (by omega) (by
  show yy 2 ((m:Int)+2)=((aK m).map λ(i:Nat)=>(i:Int)+2).map D.int
  unfold yy
  rw [bz,show ((m:Int)+2 - 2).toNat=m by omega]
  exact fH λi _=>congrArg D.int (show 2+(i:Int)=(i:Int)+2 by omega)),by show ((aK m).map _).length<=6; rw [aD,iQ]; exact a,h2⟩
def sH (m) (c:m<=6) (h:(Yd.lookup (kT (2,m))).isSome=false) (h1:Txt.startswith (kT (2,m)) "a"=false) (d:Txt.startswith (kT (2,m)) "b"=true) (b:N6 2 (2 * (m:Int)+1) 2=true) (a:(EG 2 (2 * (m:Int)+1) 2).toNat=m) (h2:kT (2,m)≠"-"):DgOk m (2,m) :=
 ⟨zc6 (Qu h) h1 d (by omega) (by omega) b (by
  show X2 2 2 _=((aK m).map λ(i:Nat)=>2 * (i:Int)+2).map D.int
  unfold X2
  rw [bz,a]
  exact fH λi _=>congrArg D.int (show 2+(i:Int) * 2=2 * (i:Int)+2 by omega)),by show ((aK m).map _).length<=6; rw [aD,iQ]; exact c,h2⟩
def zc4 (m) (e:1<=m) (d:m<=6) (h:(Yd.lookup (kT (4,m))).isSome=false) (h1:Txt.startswith (kT (4,m)) "a"=false) (c:Txt.startswith (kT (4,m)) "b"=false) (b:N6 2 (2 * (m:Int)) 2=true) (a:(EG 2 (2 * (m:Int)) 2).toNat=m - 1) (h2:kT (4,m)≠"-"):DgOk m (4,m) :=
 ⟨zc5 (l:=(aK (m - 1)).map λ(i:Nat)=>2 * (i:Int)+2) (Qu h) h1 c (by omega) (by omega) b (by
  unfold X2
  rw [bz,a]
  exact fH λi _=>congrArg D.int (show 2+(i:Int) * 2=2 * (i:Int)+2 by omega)) (by rw [aD,iQ]; omega),by show (((aK (m - 1)).map _)++[(m:Int)]).length<=6; rw [aW,aD,iQ,di]; omega,h2⟩
def RJ (e:kT c=t) (h:Yd.lookup t=some (.tup ((fS c).map D.int))) (h1:(fS c).length<=6) (h2:kT c≠"-"):DgOk k c:=⟨FH _ (e ▸ h),h1,h2⟩
def Gc:List (Nat×Kd):=[(1,1,1),(2,1,2),(3,1,3),(4,1,4),(5,1,5),(6,1,6),(2,2,2),(3,2,3),(4,2,4),(5,2,5),(6,2,6),(4,4,4),(5,4,5),(6,4,6),(2,9,5),(2,9,6),(3,8,3),(4,8,4),(4,6,4),(6,5,6)]
def MK (h:(k,c)∈Gc):DgOk k c:=by
 unfold Gc at h
 simp only [aS,List.not_mem_nil,or_false] at h
 rcases h with h | h | h | h | h | h | h | h | h | h | h | h | h | h | h | h | h | h | h | h <;> cases h
 .exact RL _ (by decide) (by decide +kernel) (by decide +kernel) (by decide +kernel)
 .exact RL _ (by decide) (by decide +kernel) (by decide +kernel) (by decide +kernel)
 .exact RL _ (by decide) (by decide +kernel) (by decide +kernel) (by decide +kernel)
 .exact RL _ (by decide) (by decide +kernel) (by decide +kernel) (by decide +kernel)
 .exact RL _ (by decide) (by decide +kernel) (by decide +kernel) (by decide +kernel)
 .exact RL _ (by decide) (by decide +kernel) (by decide +kernel) (by decide +kernel)
 .exact sH _ (by decide) (by decide +kernel) (by decide +kernel) (by decide +kernel) (by decide +kernel) (by decide +kernel) (by decide +kernel)
 .exact sH _ (by decide) (by decide +kernel) (by decide +kernel) (by decide +kernel) (by decide +kernel) (by decide +kernel) (by decide +kernel)
 .exact sH _ (by decide) (by decide +kernel) (by decide +kernel) (by decide +kernel) (by decide +kernel) (by decide +kernel) (by decide +kernel)
 .exact sH _ (by decide) (by decide +kernel) (by decide +kernel) (by decide +kernel) (by decide +kernel) (by decide +kernel) (by decide +kernel)
 .exact sH _ (by decide) (by decide +kernel) (by decide +kernel) (by decide +kernel) (by decide +kernel) (by decide +kernel) (by decide +kernel)
 .exact zc4 _ (by decide) (by decide) (by decide +kernel) (by decide +kernel) (by decide +kernel) (by decide +kernel) (by decide +kernel) (by decide +kernel)
 .exact zc4 _ (by decide) (by decide) (by decide +kernel) (by decide +kernel) (by decide +kernel) (by decide +kernel) (by decide +kernel) (by decide +kernel)
 .exact zc4 _ (by decide) (by decide) (by decide +kernel) (by decide +kernel) (by decide +kernel) (by decide +kernel) (by decide +kernel) (by decide +kernel)
 .exact RJ Tt rfl (by decide) (by decide +kernel)
 .exact RJ Ts rfl (by decide) (by decide +kernel)
 .exact RJ Tv rfl (by decide) (by decide +kernel)
 .exact RJ Tu rfl (by decide) (by decide +kernel)
 .exact RJ Tw rfl (by decide) (by decide +kernel)
 .exact RJ Tx rfl (by decide) (by decide +kernel)
def BF (a b):b9 (.str a) (.str b)=some (.bl (decide (a=b))):=by
 unfold b9
 rw [if_pos (show dep (.str a)<=100 from dJ _)]
 by_cases c:a=b <;> simp [bx,c]
def zc3 (c:Kd):fS c=pz c:=by unfold fS pz; rfl
section
abbrev RK:=List Int×Kd
variable {n:Nat} {ts:List T3} {R:List RK}
abbrev Y9 (l:List RK):List D:=l.map λx=>.tup [lD x.1,kD x.2]
theorem WZ (a0:Slot):∀ (l:List RK) (s1 s2:Slot),(∀ x∈l,kT x.2≠"-")->∃ a b,yo (jM 2 (yp (zL 1) (yp (zL 2) kG))) (cg (aU (ze b9 (vF 2) (cF (.str "-")))) (j6 (zW vJ (zb (vF 1) zq))) cS) (Y9 l) [a0,s1,s2]=some (.nx [a0,a,b])
 | [],s1,s2,_=>⟨s1,s2,rfl⟩
 | x :: l,s1,s2,h=>by
  obtain ⟨a,b,e⟩:=WZ a0 l (.fr (lD x.1)) (.fr (kD x.2)) (λy c=>h y (aZ _ c))
  refine ⟨a,b,?_⟩
  have d:=h x aV
  unfold Y9
  rw [aC,yo]
  simp only [ji,uk,yL,jk,aB,aI,q0,if_true,aN,aM,af,yM,yU,zm,zX,y6,ao,ay,BF,decide_eq_false d,b5,if_false,wu]
  exact e
theorem Ke (a0 a1:Slot):∀ (l:List RK) (a:List Int) (c b:Slot),(∀ x∈l,DgOk x.1.length x.2)->a.length+6 * l.length<=60->∃ d f,yo (jM 2 (yp (zL 3) (yp (zL 4) kG))) (uQ 2 (zW zS (zb (vF 4) (zb (zW uo (zb (vF 3) zq)) zq)))) (Y9 l) [a0,a1,.ol (a.map D.int),c,b]=some (.nx [a0,a1,.ol ((a++l.flatMap λx=>fS x.2).map D.int),d,f])
 | [],a,c,b,_,_=>⟨c,b,by rw [List.flatMap_nil,bX]; rfl⟩
 | x :: l,a,c,b,h,m=>by
  rw [aB] at m
  have g:=h x aV
  have k:=g.len
  obtain ⟨d,f,e⟩:=Ke a0 a1 l (a++fS x.2) (.fr (lD x.1)) (.fr (kD x.2)) (λy j=>h y (aZ _ j)) (by rw [aW]; omega)
  refine ⟨d,f,?_⟩
  have hz:(a.map D.int).length+((fS x.2).map D.int).length<=sizeLine:=by rw [aD,aD]; exact a7 (by omega)
  have i:uo [lD x.1]=some (.int (x.1.length:Int)):=by simp
  have ex:uQ 2 (zW zS (zb (vF 4) (zb (zW uo (zb (vF 3) zq)) zq))) [a0,a1,.ol (a.map D.int),.fr (lD x.1),.fr (kD x.2)]=some (.nx [a0,a1,.ol ((a++fS x.2).map D.int),.fr (lD x.1),.fr (kD x.2)]):=by
   simp only [qs,zw,zf,zo,zX,ao,ay,af,i,g.val,if_pos hz,aN,aM,bK]
  unfold Y9
  rw [aC,yo]
  simp only [ji,uk,yL,jk,aB,aI,q0,if_true,aN,aM,af]
  rw [ex]
  rw [dh] at e
  rw [nC]
  exact e
theorem WT:∀ l:List RK,(∀ x∈l,(fS x.2).length<=6)->(l.flatMap λx=>fS x.2).length<=6 * l.length
 | [],_=>by simp
 | x :: l,h=>by
  have:=WT l λy a=>h y (aZ _ a)
  have:=h x aV
  rw [nC,aW,aB]
  omega
def QN (j:R.length<=6) (b:uO [zh n ts]=some (.lst (Y9 R))) (hd:∀ x∈R,DgOk x.1.length x.2):vU [zh n ts]=some (lD (sortI ((R).flatMap λx=>fS x.2))):=by
 have k:=WT R λx a=>(hd x a).len
 obtain ⟨i,h,e1⟩:=WZ (.fr (zh n ts)) R .no .no λx a=>(hd x a).txt
 obtain ⟨e,d,e2⟩:=Ke (.fr (zh n ts)) (.fr .non) R [] .no .no hd (by simp; omega)
 rw [bg,bw] at e2
 have c:0<=sizeLine:=dJ _
 have ev:xb [zh n ts]=some .non:=by
  simp only [xb,qN,yi,zC,aC,bg,aB,aI,q0,q4,aP,bJ,bw]
  rw [zr (F:=QG _ _ _),xG]
  simp only [zE,zw,zf,zo,zX,ao,af,b,yY]
  rw [e1]
  rfl
 have f:=Wd (fa:=zb (vR 2) zq) (ρ:=[.fr (zh n ts),.fr .non,.ol (((R).flatMap λx=>fS x.2).map D.int),e,d]) (l:=(R).flatMap λx=>fS x.2) rfl (by omega)
 have g:iM true .non .non=some (.bl false):=rfl
 simp only [vU,Y2,yi,zC,aC,bg,aB,aI,q0,q4,aP,bJ,bw]
 rw [zr (F:=vX 1 _),z9]
 simp only [zw,zf,zo,zX,ao,af,ev,aN,aM]
 rw [zr (F:=cg _ _ _),yM]
 simp only [yU,zm,zX,y6,ao,ay,af,g,b5,if_false,wu]
 rw [zr (F:=UW 2 _),wJ]
 simp only [xp,zo,af,aI,if_pos c,aN,aM]
 rw [zr (F:=QG _ _ _),xG]
 simp only [zE,zw,zf,zo,zX,ao,af,b,yY]
 rw [e2]
 simp only [af,z8,zx,f,bL,yu]
theorem Zu (a0:Slot):∀ (l:List RK) (s1 s2:Slot),(∃ x∈l,kT x.2="-")->∃ ds:List D,yo (jM 2 (yp (zL 1) (yp (zL 2) kG))) (cg (aU (ze b9 (vF 2) (cF (.str "-")))) (j6 (zW vJ (zb (vF 1) zq))) cS) (Y9 l) [a0,s1,s2]=some (.rt (.tup ds))
 | [],s1,s2,h=>by obtain ⟨x,b,_⟩:=h; cases b
 | x :: l,s1,s2,h=>by
  unfold Y9
  rw [aC,yo]
  have td:∀ ds:List D,vJ [.lst ds]=some (.tup ds):=λ_=>rfl
  by_cases c:kT x.2="-"
  .refine ⟨x.1.map D.int,?_⟩
   simp only [ji,uk,yL,jk,aB,aI,q0,if_true,aN,aM,af,yM,yU,zm,zX,y6,ao,ay,BF,decide_eq_true c,z8,zw,zf,zo,td]
  .obtain ⟨ds,e⟩:=Zu a0 l (.fr (lD x.1)) (.fr (kD x.2)) (by
    obtain ⟨y,a,e⟩:=h
    rcases aS.mp a with z | z
    .exact absurd (z ▸ e) c
    .exact ⟨y,z,e⟩)
   refine ⟨ds,?_⟩
   simp only [ji,uk,yL,jk,aB,aI,q0,if_true,aN,aM,af,yM,yU,zm,zX,y6,ao,ay,BF,decide_eq_false c,b5,if_false,wu]
   exact e
theorem Vz (a0):∀ (l:List Int) (m) (s2),(∀ d∈l,d.natAbs<=30)->∃ b,yo (zL 2) (Ru 1 (vF 2)) (l.map D.int) [a0,.fr (.int m),s2]=some (.nx [a0,.fr (.int (l.foldl (λa d=>a * d) m)),b])
 | [],m,s2,_=>⟨s2,rfl⟩
 | d :: l,m,s2,h=>by
  obtain ⟨b,e⟩:=Vz a0 l (m * d) (.fr (.int d)) λx c=>h x (aZ _ c)
  refine ⟨b,?_⟩
  have hd:=h d aV
  have mb:QY m d:=.inr (.inl (rZ hd (by decide)))
  rw [aC,yo,nB]
  simp only [yL,af,aN,aM,Np,zX,ao,ay,if_pos mb]
  exact e
def K8 (a:uO [zh n ts]=some (.lst (Y9 R))) (h:∀ x∈R,kT x.2≠"-"):xb [zh n ts]=some .non:=by
 obtain ⟨c,b,e1⟩:=WZ (.fr (zh n ts)) R .no .no h
 simp only [xb,qN,yi,zC,aC,bg,aB,aI,q0,q4,aP,bJ,bw]
 rw [zr (F:=QG _ _ _),xG]
 simp only [zE,zw,zf,zo,zX,ao,af,a,yY]
 rw [e1]
 rfl
def QM (a:uO [zh n ts]=some (.lst (Y9 R))) (h:∃ x∈R,kT x.2="-"):∃ ds:List D,xb [zh n ts]=some (.tup ds):=by
 obtain ⟨ds,e1⟩:=Zu (.fr (zh n ts)) R .no .no h
 refine ⟨ds,?_⟩
 simp only [xb,qN,yi,zC,aC,bg,aB,aI,q0,q4,aP,bJ,bw]
 rw [zr (F:=QG _ _ _),xG]
 simp only [zE,zw,zf,zo,zX,ao,af,a,yY]
 rw [e1]
 rfl
def C0 (hd:vU [zh n ts]=some (lD l)) (a:∀ d∈l,d.natAbs<=30):XB [zh n ts]=some (.int (ND l)):=by
 obtain ⟨s2,e⟩:=Vz (.fr (zh n ts)) l 1 .no a
 simp only [XB,CF,yi,zC,aC,bg,aB,aI,q0,q4,aP,bJ,bw]
 rw [zr (F:=vX 1 _),z9]
 simp only [y6,af,aN,aM]
 rw [zr (F:=QG _ _ _),xG]
 simp only [zE,zw,zf,zo,zX,ao,af,hd,yY]
 rw [e]
 rfl
end
def za8:Option Nat->D
 | none=>.non
 | some i=>.int (i:Int)
def zaq (r:List Gd):zda r=XR r:=rfl
noncomputable def A9:FS:=cg (aU (zW qV (zb (vF 2) zq))) (j6 (vF 1)) cS
theorem BB (n:Nat) (ts:List T3) (d:n<=6) (b:u.length<=100) (R:D):∀ (m i:Nat) (s1 s2:Slot),i+m=n->∃ o,yo (jM 2 (yp (zL 1) (yp (zL 2) kG))) A9 (QL i (((LO i m).map λj=>yf (zg ts) u (ye n j)).map wH)) [.fr R,s1,s2]=some o ∧
  Wx ((some o).bind λo=>match o with | .nx aO=>j6 (cF .non) aO | o=>some o)=some (za8 ((LO i m).find? λj=>XR (yf (zg ts) u (ye n j))))
 | 0,i,s1,s2,h=>⟨_,rfl,rfl⟩
 | m+1,i,s1,s2,h=>by
  obtain ⟨o,h1,h2⟩:=BB n ts d b R m (i+1) (.fr (.int i)) (.fr (wH (yf (zg ts) u (ye n i)))) (by omega)
  have a:=Cr (r:=yf (zg ts) u (ye n i)) (by rw [zK,zi]; omega) (Qx ts d b i)
  rw [zaq] at a
  rw [List.range'_succ,aC,aC]
  unfold QL yo
  by_cases c:XR (yf (zg ts) u (ye n i))=true
  .rw [c] at a
   refine ⟨.rt (.int i),?_,by rw [List.find?_cons_of_pos (by exact c)]; rfl⟩
   simp only [A9,ji,uk,yL,jk,aB,aI,q0,if_true,aN,aM,af,yM,yU,zw,zf,zo,zX,ay,ao,a,z8]
  .rw [Bool.not_eq_true] at c
   rw [c] at a
   refine ⟨o,?_,by rw [g3r (by simp [c])]; exact h2⟩
   simp only [A9,ji,uk,yL,jk,aB,aI,q0,if_true,aN,aM,af,yM,yU,zw,zf,zo,zX,ay,ao,a,b5,if_false,wu]
   unfold A9 at h1
   exact h1
def MI (n:Nat) (ts:List T3) (b:n<=6) (a:u.length<=100):vA [yI (Zz ts n u)]=some (za8 (ug ts n u)):=by
 obtain ⟨o,h1,h2⟩:=BB n ts b a (yI (Zz ts n u)) n 0 .no .no (by omega)
 rw [<- List.range_eq_range'] at h1 h2
 rw [<- BI] at h1
 have it:V8 (vF 0) [.fr (yI (Zz ts n u)),.no,.no]=some (uE (((aK n).map λj=>yf (zg ts) u (ye n j)).map wH)):=by
  simp only [Wn,zE,zX,ao,af,yI,yY]
  rfl
 unfold vA uW
 unfold A9 at h1
 simp only [yi,zC,aC,bg,aB,aI,q0,q4,aP,bJ,bw,zr,xG,it,af]
 rw [h1]
 exact h2
noncomputable def leB:FS:=(wG (xE 2 (vF 4)) (wG (vX 3 (zW zP (zb (vF 0) (zb (vF 3) (zb (vF 4) zq))))) (vX 4 (zW vA (zb (vF 3) zq)))))
def Pq (n:Nat) (hg:yh ts) (g:n<=6) (W:D) (h:Lst ts n u v):∀ (T:List Nat) (k:Nat),az n u->u.length+v.length<=100->T.length+v.length<=100->v.length < k->∃ b a,yS (aU (ze (iM true) (vF 4) (cF .non))) leB k [.fr (zh n ts),.fr W,.ol (T.map λ(i:Nat)=>.int (i:Int)),.fr (yI (Zz ts n u)),.fr (za8 (ug ts n u))] =
  some (.nx [.fr (zh n ts),.fr W,.ol ((T++v).map λ(i:Nat)=>.int (i:Int)),b,a]):=by
 induction h with
 | @nil u h =>
  intro T k c h1 h2 d
  cases k with
  | zero=>simp at d
  | succ k =>
   refine ⟨.fr (yI (Zz ts n u)),.fr .non,?_⟩
   rw [h,bX]
   rfl
 | @cons u v i h t f =>
  intro T k c h1 h2 d
  rw [aB] at h1 h2 d
  cases k with
  | zero=>omega
  | succ k =>
   obtain ⟨hi,_,_⟩:=uP h
   obtain ⟨b,a,e⟩:=f (T++[i]) k (c.app (az.one hi)) (by rw [aW,di]; omega) (by rw [aW,di]; omega) (by omega)
   refine ⟨b,a,?_⟩
   have l:=Zg n hg (by omega) c hi
   have j:=MI n ts g (u:=u++[i]) (by rw [aW,di]; omega)
   have z:(T.map λ(i:Nat)=>D.int (i:Int)).length < sizeLine:=yX (by simp; omega)
   have nn:iM true (.int (i:Int)) .non=some (.bl true):=rfl
   have em:(T++[i]).map (λ(i:Nat)=>D.int (i:Int))=T.map (λ(i:Nat)=>D.int (i:Int))++[D.int (i:Int)]:=by simp
   rw [em,dh,nF] at e
   rw [h]
   unfold yS
   simp only [yU,zm,zX,y6,ay,ao,af,za8,nn,if_true,leB,zr,wx,if_pos z,aN,aM,z9,zw,zf,zo,l,j]
   unfold leB at e
   exact e
def Yq (n:Nat) (hg:yh ts) (d:n<=6) (c:az n w) (h:Lst ts n w.reverse v) (l:w.length+v.length<=100):YB [zh n ts,zD w]=some (zD v):=by
 have g:=uK n hg (w:=w.reverse) (by omega) c.rev
 have i:=MI n ts d (u:=w.reverse) (by rw [n4]; omega)
 obtain ⟨k,j,e⟩:=Pq n hg d (zD w) h [] 100000 c.rev (by rw [n4]; omega) (by simp; omega) (by omega)
 have f:0<=sizeLine:=dJ _
 have rt:∀ ρ:aX,ρ[1]? = some (.fr (zD w))->zb9 (vF 1) ρ=some (zD w.reverse):=λρ b=>by
  simp only [Si,zX,b,af,zD]
  simp
 have a:=rt [.fr (zh n ts),.fr (zD w),.ol [],.no,.no] rfl
 rw [bg,bw] at e
 unfold YB Q2
 dsimp only
 unfold leB at e
 generalize 100000=m at e ⊢
 simp only [yi,zC,aC,bg,aB,aI,q0,q4,aP,bJ,bw,zr,wJ,xp,zo,af,if_pos f,aN,aM,z9,zw,zf,a,zX,ao,ay,g,i]
 rw [e]
 simp only [af,z8,zw,zf,zo,KL,ao,ay,GY,yu]
 rfl
def Bj (n) (f:Int->β):(idx n).map f=(aK n).map λ(i:Nat)=>f (i:Int):=by
 unfold idx
 rw [bz]
 rfl
def kR (r:List Gd):KTy 2:=dI (λx:Gd=>([x.1,x.2]:List Int)) r
def ze3 (r):gz 2 (kR r)=wH r:=by
 have:∀ l:List Gd,dI (gz 1) (kR l)=l.map gD:=λl=>by
  induction l with
  | nil=>rfl
  | cons x l a=>exact congrArg (gD x :: ·) a
 exact congrArg D.tup (this r)
def TJ (h:kR r=kR a):r=a:=by
 unfold kR at h
 refine (List.map_inj_right λx y e=>?_).mp h
 have e:([x.1,x.2]:List Int)=[y.1,y.2]:=e
 injection e with e1 e2
 injection e2 with e2 b
 exact Lu e1 e2
section
variable {ts:List T3} {n:Nat}
def k3 (R:List (List Gd)):KTy 3:=dI kR R
def TL (R):mr 3 (.tup (R.map wH))=some (k3 R):=by
 have:∀ l:List (List Gd),dI (gz 2) (k3 l)=l.map wH:=λl=>by
  induction l with
  | nil=>rfl
  | cons x l a=>exact (congrArg (· :: dI (gz 2) (k3 l)) (ze3 x)).trans (congrArg (wH x :: ·) a)
 have e:D.tup (R.map wH)=gz 3 (k3 R):=congrArg D.tup (this R).symm
 rw [e]
 exact MU 3 (k3 R)
def TK (h:k3 R=k3 R'):R=R':=by
 unfold k3 at h
 exact (List.map_inj_right λx y e=>TJ e).mp h
def JO  {C:List (List Nat)}:k3 (zy ts n w)∈C.map (λv=>k3 (zy ts n v))↔zy ts n w∈C.map (zy ts n):=by
 rw [bu,bu]
 exact ⟨λ⟨x,a,e⟩=>⟨x,a,TK e⟩,λ⟨x,a,e⟩=>⟨x,a,by rw [e]⟩⟩
def zez {i j:Nat} (b:ρ[i]? = some (.oX 3 ks)) (a:f ρ=some (.tup (R.map wH))):Hz i f ρ=some (!decide (k3 R∈ks)):=by
 rw [Ni,a,af,b]
 show (if 2<=3 then (mr 3 (.tup (R.map wH))).bind λk=>some (!decide (k∈ks)) else none)=_
 rw [TL]
 rfl
def zd0 (c:ρ[i]? = some (.oX 3 ks)) (b:f ρ=some (.tup (R.map wH))) (hz:ks.length < sizeLine) (a:k3 R∉ks):Qh i f (cF (.bl true)) ρ=some (.nx (ρ.set i (.oX 3 (ks++[k3 R])))):=by
 rw [Ng,y6,af,b,af,c]
 show (if 2<=3/\ks.length < sizeLine then (mr 3 (.tup (R.map wH))).bind λk=>some (Out.nx (ρ.set i (.oX 3 (if k∈ks then ks else ks++[k])))) else none)=_
 rw [TL,if_pos ⟨by decide,hz⟩,af,if_neg a]
def Vq (a:w.length<=90) (i:Nat):xn (zD w) (.tup [.int (i:Int)])=some (zD (w++[i])):=by
 unfold xn zD
 dsimp only
 rw [if_pos (by rw [aD,di]; exact a7 (by omega)),bK]
 rfl
end
section
variable {ts:List T3} {n:Nat}
def gF (ts:List T3) (n:Nat) (w:List Nat):D:=.tup [zD w,yI (zy ts n w)]
noncomputable def mV:FS:=(cg (aU (zW wW (zb (ze aE (vF 5) (vF 6)) zq))) (wG (vX 7 (zW zP (zb (vF 0) (zb (vF 5) (zb (vF 6) zq))))) (cg (Hz 2 (zW vJ (zb (vF 7) zq))) (wG (Qh 2 (zW vJ (zb (vF 7) zq)) (cF (.bl true))) (xE 3 (tupF (zb (ze xn (vF 4) (tupF (zb (vF 6) zq))) (zb (vF 7) zq))))) cS)) cS)
abbrev Vx (ts:List T3) (n:Nat) (a1:Slot) (C:List (List Nat)) (d c b a:Slot):aX:=[.fr (zh n ts),a1,.oX 3 (C.map λv=>k3 (zy ts n v)),.ol (C.map (gF ts n)),d,c,b,a]
theorem ZI (hg:yh ts) (m:n<=6) (h:az n w) (g:w.length<=90):∀ (l:List Nat) (C:List (List Nat)) (f a:Slot),(∀ i∈l,i < n)->C.length+l.length<=140 →
  ∃ y x,yo (zL 6) mV (l.map λ(i:Nat)=>D.int (i:Int)) (Vx ts n a1 C (.fr (zD w)) (.fr (yI (zy ts n w))) f a)=some (.nx (Vx ts n a1 (upM ts n w C l) (.fr (zD w)) (.fr (yI (zy ts n w))) y x))
 | [],C,f,a,_,_=>⟨f,a,rfl⟩
 | i :: l,C,f,a,q,hlen=>by
  rw [aB] at hlen
  have hi:=q i aV
  have o:∀ j∈l,j < n:=λj A=>q j (aZ _ A)
  have u:aE (yI (zy ts n w)) (.int (i:Int))=some (wH (yf (zg ts) w (ye n i))):=QB ts w hi
  have E:=UT (r:=yf (zg ts) w (ye n i)) (by rw [zK,zi]; omega) (Qx ts (by omega) (by omega) i)
  have B:zP [zh n ts,yI (zy ts n w),.int (i:Int)]=some (yI (zy ts n (w++[i]))):=Zg n hg (by omega) h hi
  have tb:aU (zW wW (zb (ze aE (vF 5) (vF 6)) zq)) (Vx ts n a1 C (.fr (zD w)) (.fr (yI (zy ts n w))) (.fr (.int (i:Int))) a)=some (Y5 (yf (zg ts) w (ye n i))):=by
   simp only [yU,zw,zf,zo,zm,zX,ao,ay,af,u,E]
   rfl
  unfold upM
  rw [aC,yo]
  simp only [yL,af,aN,aM]
  by_cases ab:Y5 (yf (zg ts) w (ye n i))=true
  .rw [if_pos ab]
   have st:∀ F:FS,wG (vX 7 (zW zP (zb (vF 0) (zb (vF 5) (zb (vF 6) zq))))) F (Vx ts n a1 C (.fr (zD w)) (.fr (yI (zy ts n w))) (.fr (.int (i:Int))) a)=F (Vx ts n a1 C (.fr (zD w)) (.fr (yI (zy ts n w))) (.fr (.int (i:Int))) (.fr (yI (zy ts n (w++[i]))))):=λF=>by
    rw [zr,z9]
    simp only [zw,zf,zo,zX,ao,ay,af,B,aN,aM]
   have tv:zW vJ (zb (vF 7) zq) (Vx ts n a1 C (.fr (zD w)) (.fr (yI (zy ts n w))) (.fr (.int (i:Int))) (.fr (yI (zy ts n (w++[i])))))=some (.tup ((zy ts n (w++[i])).map wH)):=rfl
   have p:=zez (i:=2) (j:=7) (ks:=C.map λv=>k3 (zy ts n v)) rfl tv
   by_cases c:zy ts n (w++[i])∈C.map (zy ts n)
   .rw [if_pos c]
    obtain ⟨d,b,e⟩:=ZI hg m (a1:=a1) h g l C (.fr (.int (i:Int))) (.fr (yI (zy ts n (w++[i])))) o (by omega)
    refine ⟨d,b,?_⟩
    have body:mV (Vx ts n a1 C (.fr (zD w)) (.fr (yI (zy ts n w))) (.fr (.int (i:Int))) a)=some (.nx (Vx ts n a1 C (.fr (zD w)) (.fr (yI (zy ts n w))) (.fr (.int (i:Int))) (.fr (yI (zy ts n (w++[i])))))):=by
     unfold mV
     rw [yM,tb,ab,af,if_pos rfl,st,yM,p,decide_eq_true (JO.mpr c)]
     rfl
    rw [body]
    exact e
   .rw [if_neg c]
    obtain ⟨d,b,e⟩:=ZI hg m (a1:=a1) h g l (C++[w++[i]]) (.fr (.int (i:Int))) (.fr (yI (zy ts n (w++[i])))) o (by rw [aW,di]; omega)
    refine ⟨d,b,?_⟩
    have hz:(C.map (gF ts n)).length < sizeLine:=by rw [aD]; exact yX (by omega)
    have k:(C.map λv=>k3 (zy ts n v)).length < sizeLine:=by rw [aD]; exact yX (by omega)
    have t:=zd0 (i:=2) (ks:=C.map λv=>k3 (zy ts n v)) rfl tv k (λz=>c (JO.mp z))
    have s:=Vq g i
    have z1:0+1<=sizeLine:=a7 (by decide)
    have z2:0+1+1<=sizeLine:=a7 (by decide)
    have body:mV (Vx ts n a1 C (.fr (zD w)) (.fr (yI (zy ts n w))) (.fr (.int (i:Int))) a)=some (.nx (Vx ts n a1 (C++[w++[i]]) (.fr (zD w)) (.fr (yI (zy ts n w))) (.fr (.int (i:Int))) (.fr (yI (zy ts n (w++[i])))))):=by
     unfold mV
     rw [yM,tb,ab,af,if_pos rfl,st,yM,p,decide_eq_false (λz=>c (JO.mp z))]
     show (wG (Qh 2 (zW vJ (zb (vF 7) zq)) (cF (.bl true))) _) _=_
     rw [zr,t]
     simp only [aN,aM,af,wx,wt,zf,zo,zm,zX,ao,ay,aB,aI,if_pos z1,s,if_pos z2,if_pos hz,Vx,bK,aC,bg]
     rfl
    rw [body]
    exact e
  .rw [if_neg ab]
   obtain ⟨d,b,e⟩:=ZI hg m (a1:=a1) h g l C (.fr (.int (i:Int))) a o (by omega)
   refine ⟨d,b,?_⟩
   have body:mV (Vx ts n a1 C (.fr (zD w)) (.fr (yI (zy ts n w))) (.fr (.int (i:Int))) a)=some (.nx (Vx ts n a1 C (.fr (zD w)) (.fr (yI (zy ts n w))) (.fr (.int (i:Int))) a)):=by
    unfold mV
    rw [yM,tb,af,if_neg ab]
    rfl
   rw [body]
   exact e
theorem Gx (w):∀ l C,C.length<=(upM ts n w C l).length
 | [],C=>aT _
 | i :: l,C=>by
  unfold upM
  refine fc ?_ (Gx w l _)
  split
  .split
   .exact aT _
   .rw [aW]; omega
  .exact aT _
theorem JI:∀ L C,C.length<=(vP ts n C L).length
 | [],C=>aT _
 | w :: L,C=>fc (Gx w (aK n) C) (JI L _)
noncomputable def loO:FS:=(QG (za6 (zb (ze aE (vF 0) (cF (.int 0))) zq)) (zL 6) mV)
theorem JJ (hg:yh ts) (j:n<=6):∀ (L C:List (List Nat)) (f d c b:Slot),(∀ w∈L,az n w/\w.length<=90)->(vP ts n C L).length<=120 →
  ∃ B E x u,yo (jM 2 (yp (zL 4) (yp (zL 5) kG))) loO (L.map (gF ts n)) (Vx ts n a1 C f d c b)=some (.nx (Vx ts n a1 (vP ts n C L) B E x u))
 | [],C,f,d,c,b,_,_=>⟨f,d,c,b,rfl⟩
 | w :: L,C,f,d,c,b,l,a=>by
  obtain ⟨y,s⟩:=l w aV
  have a:(vP ts n (upM ts n w C (aK n)) L).length<=120:=a
  have G:=JI (ts:=ts) (n:=n) L (upM ts n w C (aK n))
  have F:=Gx (ts:=ts) (n:=n) w (aK n) C
  obtain ⟨h,g,e⟩:=ZI hg j (a1:=a1) y s (aK n) C c b (λi hi=>dA.mp hi) (by rw [iQ]; omega)
  obtain ⟨q,p,o,m,t⟩:=JJ hg j (a1:=a1) L (upM ts n w C (aK n)) (.fr (zD w)) (.fr (yI (zy ts n w))) h g (λv z=>l v (aZ _ z)) a
  refine ⟨q,p,o,m,?_⟩
  have A:aE (zh n ts) (.int 0)=some (.int n):=by unfold zh; exact g6
  have r:uY [.int (n:Int)]=some ((aK n).map λ(k:Nat)=>D.int (k:Int)):=by
   rw [vO (by omega) (by omega),uy,Bj]
  have body:loO (Vx ts n a1 C (.fr (zD w)) (.fr (yI (zy ts n w))) c b)=some (.nx (Vx ts n a1 (upM ts n w C (aK n)) (.fr (zD w)) (.fr (yI (zy ts n w))) h g)):=by
   unfold loO
   rw [xG]
   simp only [jj,zf,zo,zm,zX,y6,ao,af,A,r]
   exact e
  rw [aC,yo]
  simp only [gF,ji,uk,yL,jk,aB,aI,q0,if_true,aN,aM,af]
  rw [body]
  exact t
def KZ (hg:yh ts) (c:n<=6) (d:∀ w∈L,az n w/\w.length<=90) (a:(vP ts n [] L).length<=120):xC [zh n ts,.lst (L.map (gF ts n))]=some (.lst ((vP ts n [] L).map (gF ts n))):=by
 obtain ⟨i,h,g,f,e⟩:=JJ hg c (a1:=.fr (.lst (L.map (gF ts n)))) L [] .no .no .no .no d a
 have b:0<=sizeLine:=dJ _
 unfold loO mV at e
 simp only [xC,vZ,yi,zC,aC,bg,aB,aI,q0,q4,aP,bJ,bw]
 rw [zr (F:=Kb 2 3),Jm]
 simp only [af,aN,aM]
 rw [zr (F:=UW 3 _),wJ]
 simp only [xp,zo,af,aI,if_pos b,aN,aM]
 rw [zr (F:=QG _ _ _),xG]
 simp only [zE,zX,ao,ay,af,yY]
 have e:yo _ _ (L.map (gF ts n)) [.fr (zh n ts),.fr (.lst (L.map (gF ts n))),.oX 3 [],.ol [],.no,.no,.no,.no]=_:=e
 rw [e]
 simp only [af,Xq,G7,ao,ay,aN,aM,z8,zX,yu]
end
def Ql {α g:Type} {f:α->g} {m k:List g} (h:m.Perm k):∀ l:List α,k=l.map f->∃ c:List α,c.Perm l/\c.map f=m:=by
 induction h with
 | nil =>
  intro l e
  cases l with
  | nil=>exact ⟨[],.refl _,rfl⟩
  | cons _ _=>cases e
 | cons x _ n =>
  intro l e
  cases l with
  | nil=>cases e
  | cons a l =>
   rw [aC] at e
   injection e with e1 e2
   obtain ⟨c,p,q⟩:=n l e2
   exact ⟨a :: c,p.cons a,by rw [aC,q,e1]⟩
 | swap x y r =>
  intro l e
  match l,e with
  | [],e=>cases e
  | [_],e=>cases e
  | a :: b :: l,e =>
   simp only [aC] at e
   injection e with e1 e2
   injection e2 with e2 o
   exact ⟨b :: a :: l,.swap a b l,by simp only [aC]; rw [e1,e2,o]⟩
 | trans _ _ h1 h2 =>
  intro l e
  obtain ⟨c,p,q⟩:=h2 l e
  obtain ⟨d,j,i⟩:=h1 c q.symm
  exact ⟨d,j.trans p,i⟩
def K1 (h:Hs bs σ) (c:yP bs<=9) (ht:(bA bs σ).length<=90):∃ ps:List (Int×ba),ps.Perm (wg 0 bs)/\uO [zh (yP bs) (bA bs σ)]=some (.lst (Y9 (ps.map λp=>(sortI (wM σ p),p.2.2.1)))):=by
 obtain ⟨ps,b,p2⟩:=Ql (vE ((wg 0 bs).map (UV kT σ))) (wg 0 bs) rfl
 refine ⟨ps,b,?_⟩
 rw [HX h c ht,<- p2]
 congr 2
 show _=(ps.map λp=>(sortI (wM σ p),p.2.2.1)).map λx=>D.tup [lD x.1,kD x.2]
 rw [bz,bz]
 refine fH λp a=>?_
 have a:=b.mem_iff.mp a
 obtain ⟨x,r,e,_⟩:=h.head a
 exact QD (by rw [e]; exact List.cons_ne_nil _ _) _
def T6:((aK 7).all λk=>(qc k).all λB=>decide (B.1=(0,0))||decide ((k,B.1)∈Gc))=true:=by decide +kernel
def zdb (h:B∈qc k) (b:B.1≠(0,0)):(k,B.1)∈Gc:=by
 have a:k < 7:=by
  apply Et
  intro z
  unfold qc at h
  split at h <;> first | omega | cases h
 have:=bS.mp (bS.mp T6 k (dA.mpr a)) B h
 rw [AU] at this
 exact this.elim (λz=>absurd (of_decide_eq_true z) b) of_decide_eq_true
def Fj (h:Hs bs σ) (u:yP bs<=6) (ht:(bA bs σ).length<=90) (t:bs.length<=6):
  (∃ ds:List D,xb [zh (yP bs) (bA bs σ)]=some (.tup ds)) ∨
  ((∀ B∈bs,B.2.1≠(0,0))/\xb [zh (yP bs) (bA bs σ)]=some .non/\vU [zh (yP bs) (bA bs σ)]=some (lD (Xf bs))/\XB [zh (yP bs) (bA bs σ)]=some (.int (dD bs))/\(∀ d∈Xf bs,2<=d/\d<=30)/\(Xf bs).length<=36):=by
 obtain ⟨ps,pm,j⟩:=K1 h (by omega) ht
 by_cases c:∃ x∈ps.map λp=>(sortI (wM σ p),p.2.2.1),kT x.2="-"
 .exact .inl (QM j c)
 .have q:∀ p∈ps,p.2∈bs:=λp a=>wR (pm.mem_iff.mp a)
  have r:kT ((0,0):Kd)="-":=rfl
  have nf:∀ p∈ps,p.2.2.1≠(0,0):=λp a z=>c ⟨_,bu.mpr ⟨p,a,rfl⟩,by show kT p.2.2.1="-"; rw [z]; rfl⟩
  have i:∀ B∈bs,B.2.1≠(0,0):=λB m=>by
   rw [<- kU bs 0] at m
   obtain ⟨p,a,rfl⟩:=bu.mp m
   exact nf p (pm.mem_iff.mpr a)
  have g:∀ p∈ps,((sortI (wM σ p)).length,p.2.2.1)∈Gc:=λp a=>by
   have:(sortI (wM σ p)).length=p.2.1:=by rw [(yv _).length_eq]; unfold wM; rw [aD,wz]
   rw [this]
   exact zdb (h.gb _ (q p a)) (nf p a)
  have ev:=K8 j λx f z=>c ⟨x,f,z⟩
  have e:(ps.map λp=>(sortI (wM σ p),p.2.2.1)).length<=6:=by
   rw [aD,pm.length_eq]
   have:=congrArg ny (kU bs 0)
   rw [aD] at this
   omega
  have k:sortI ((ps.map λp=>(sortI (wM σ p),p.2.2.1)).flatMap λx=>fS x.2)=Xf bs:=by
   unfold Xf
   refine We ?_
   rw [List.flatMap_map]
   have e1:(bs.flatMap λb=>pz b.2.1)=(wg 0 bs).flatMap λp=>pz p.2.2.1:=by
    conv=>lhs; rw [<- kU bs 0]
    rw [List.flatMap_map]
   rw [e1]
   have e2:(λp:Int×ba=>fS p.2.2.1)=λp=>pz p.2.2.1:=funext λp=>zc3 _
   show (ps.flatMap λp=>fS p.2.2.1).Perm _
   rw [e2]
   exact pm.flatMap_right _
  have dv:=QN e j λx f=>by
   obtain ⟨p,a,rfl⟩:=bu.mp f
   exact MK (g p a)
  rw [k] at dv
  have all:(Gc.all λp=>(fS p.2).all λd=>decide (2<=d/\d<=30))=true:=by decide +kernel
  have rg:∀ d∈Xf bs,2<=d/\d<=30:=λd hd=>by
   rw [<- k] at hd
   obtain ⟨x,f,o⟩:=rW.mp ((yv _).subset hd)
   obtain ⟨p,a,rfl⟩:=bu.mp f
   exact of_decide_eq_true (bS.mp (bS.mp all _ (g p a)) d o)
  have l:=C0 dv λd hd=>by have:=rg d hd; omega
  have n:ND (Xf bs)=dD bs:=Xv (yv _) 1
  rw [n] at l
  refine .inr ⟨i,ev,dv,l,rg,?_⟩
  have:=WT (ps.map λp=>(sortI (wM σ p),p.2.2.1)) λx f=>by
   obtain ⟨p,a,rfl⟩:=bu.mp f
   exact (MK (g p a)).len
  have s:=(congrArg ny k).symm.trans (yv _).length_eq
  rw [s]
  exact fc this (fc (Nat.mul_le_mul_left 6 e) (by decide))
section
variable {ts:List T3} {n:Nat}
def DL (h:xb [zh n ts]=some (.tup ds)) (m:Int):xF [zh n ts,.int m]=some (.bl true):=by
 have a:iM true (.tup ds) .non=some (.bl true):=rfl
 simp only [xF,je,yi,zC,aC,bg,aB,aI,q0,q4,aP,bX,z8,Sj,zm,zw,zf,zo,zX,y6,ao,af,h,a,if_true,yu]
def Yk (h:xb [zh n ts]=some .non) (hz:XB [zh n ts]=some (.int z)) (m:Int):xF [zh n ts,.int m]=some (.bl (decide (m < z))):=by
 have a:iM true .non .non=some (.bl false):=rfl
 simp only [xF,je,yi,zC,aC,bg,aB,aI,q0,q4,aP,bX,z8,Sj,zm,zw,zf,zo,zX,y6,ao,ay,af,h,a,b5,if_false,hz,Gm,yu]
def PP (a:xF [zh n ts,.int most]=some (.bl true)):qA [zh n ts,.int most]=some (.ex "TooMany"):=by
 simp only [qA,sG,Vh,zC,aC,bg,aB,aI,q0,q4,aP,bJ,bw,sqX,ifX,exX,yU,zw,zf,zo,zX,ao,ay,af,a,if_true,zcl]
def ju (a:xF [zh n ts,.int most]=some (.bl true)):wU [zh n ts,.int most]=some (.bl true):=by
 unfold wU
 rw [PP a]
 rfl
abbrev plC:FT:=(aU (ze eU (zW uo (zb (vF 3) zq)) (cF (.int 0))))
noncomputable def s_:FS:=(wG (uQ 2 (zk (qf 2 [] (yx (vF 3)) (jM 2 (yp (zL 0) (yp (zL 1) kG))) dk (vF 0)))) (vX 3 (zW xC (zb (vF 0) (zb (vF 3) zq)))))
theorem Hi (hg:yh ts) (m:n<=6) {K:Nat} (h:xZ ts n K=[]) (x:K<=17) (o:(xX ts n K).length<=120) (a1:Slot):∀ (j N k:Nat),k+j=K->j < N →
  ∃ g,yS plC s_ N [.fr (zh n ts),a1,.ol ((xX ts n k).map zD),.fr (.lst ((xZ ts n k).map (gF ts n)))]=some (.nx [.fr (zh n ts),a1,.ol ((xX ts n K).map zD),g])
 | j,0,k,a,h2=>by omega
 | j,N+1,k,a,h2=>by
  have u:plC [.fr (zh n ts),a1,.ol ((xX ts n k).map zD),.fr (.lst ((xZ ts n k).map (gF ts n)))]=some (decide ((0:Int) < ((xZ ts n k).length:Int))):=by
   simp only [plC,yU,zm,zX,zw,zf,zo,y6,ao,ay,af,j4,Gm,aD]
  unfold yS
  rw [u]
  by_cases c:xZ ts n k=[]
  .have e:=(Qt c j).2
   rw [a] at e
   rw [e,c]
   exact ⟨_,rfl⟩
  .have B:0 < (xZ ts n k).length:=r_.mpr c
   obtain ⟨j,rfl⟩:∃ i,j=i+1:=⟨j - 1,by
    have:j≠0:=λz=>by subst z; rw [Nat.add_zero] at a; rw [a] at c; exact c h
    omega⟩
   have A:=W9 (ts:=ts) (n:=n) (k:=k+1) (K:=K) (by omega)
   have r:(xX ts n (k+1)).length=(xX ts n k).length+(xZ ts n k).length:=aW
   have s:(vP ts n [] (xZ ts n k)).length<=120:=by
    show (xZ ts n (k+1)).length<=120
    by_cases d:k+1=K
    .rw [d,h]; exact dJ _
    .have y:=W9 (ts:=ts) (n:=n) (k:=k+1+1) (K:=K) (by omega)
     have p:(xX ts n (k+1+1)).length=(xX ts n (k+1)).length+(xZ ts n (k+1)).length:=aW
     omega
   have lv:=KZ hg m (L:=xZ ts n k) (λw l=>⟨((gc hg k).lv.sh w l).1.1,by rw [((gc hg k).lv.sh w l).2]; omega⟩) s
   have b:=B6 (ft:=dk) (f:=vF 0) (C:=[]) (ι:=zD) (κ:=λw=>yI (zy ts n w)) (q:=λ_=>true) (φ:=zD) (xZ ts n k) .no .no (λ_ _=>rfl) (λ_ _ _=>rfl)
   rw [A0.mpr (λ_ _=>rfl)] at b
   have b:y8 (jM 2 (yp (zL 0) (yp (zL 1) kG))) dk (vF 0) ((xZ ts n k).map (gF ts n)) [.no,.no]=some ((xZ ts n k).map zD):=b
   have hz:((xZ ts n k).map (gF ts n)).length<=sizeLine:=by rw [aD]; exact nA (yX (by omega))
   have v:((xX ts n k).map zD).length+((xZ ts n k).map zD).length<=sizeLine:=by rw [aD,aD]; exact nA (yX (by omega))
   obtain ⟨g,t⟩:=Hi hg m h x o a1 j N (k+1) (by omega) (by omega)
   refine ⟨g,?_⟩
   rw [decide_eq_true (by omega)]
   have body:s_ [.fr (zh n ts),a1,.ol ((xX ts n k).map zD),.fr (.lst ((xZ ts n k).map (gF ts n)))]=some (.nx [.fr (zh n ts),a1,.ol ((xX ts n (k+1)).map zD),.fr (.lst ((xZ ts n (k+1)).map (gF ts n)))]):=by
    unfold s_
    simp only [zr,qs,zx,xh,zE,zX,ao,ay,af,yY,if_pos hz,xJ,bg,aP,bJ,bw,b,bL,if_pos v,aN,aM,z9,zw,zf,zo,lv]
    rw [<- bK]
    rfl
   show (s_ _).bind _=_
   rw [body]
   exact t
def KO (hg:yh ts) (d:n<=6) {K:Nat} (g:xZ ts n K=[]) (j:K<=17) (b:(xX ts n K).length<=120) {most:Int} (f:xF [zh n ts,.int most]=some (.bl false)):WO [zh n ts,.int most]=some (.lst ((xX ts n K).map zD)):=by
 obtain ⟨k,e⟩:=Hi hg d g j b (.fr (.int most)) K 100000 0 (by omega) (by omega)
 have c:wC [zh n ts,.tup []]=some (yI (zy ts n [])):=uK n hg (w:=[]) (by omega) (λi h=>(by cases h))
 have a:0<=sizeLine:=dJ _
 have z1:0+1<=sizeLine:=a7 (by decide)
 have z2:0+1+1<=sizeLine:=a7 (by decide)
 unfold s_ plC at e
 simp only [WO,Vj,yi,zC,aC,bg,aB,aI,q0,q4,aP,bJ,bw]
 rw [zr (F:=cg _ _ _),yM]
 simp only [yU,zw,zf,zo,zX,ao,ay,af,f,b5,if_false,wu]
 rw [zr (F:=UW 2 _),wJ]
 simp only [xp,zo,af,aI,if_pos a,aN,aM]
 rw [zr (F:=vX 3 _),z9]
 simp only [zx,xp,wt,zw,zf,zo,zX,ao,af,aB,aI,if_pos a,if_pos z1,if_pos z2,c,bL,aN,aM]
 rw [zr (F:=yS _ _ _)]
 have e:yS _ _ 100000 [.fr (zh n ts),.fr (.int most),.ol [],.fr (.lst [.tup [.tup [],yI (zy ts n [])]])]=_:=e
 rw [e]
 simp only [af,Xq,G7,ao,ay,aN,aM,z8,zX,yu]
end
def B3 (xs:List α) (a b:Nat) (h:a<=b):Y4 xs (some (a:Int)) (some (b:Int))=(xs.drop a).take (b - a):=by
 unfold Y4
 rw [HT.sIx_nat,HT.sIx_nat]
 by_cases h1:a<=xs.length
 .by_cases h2:b<=xs.length
  .rw [pf h1,pf h2]
  .rw [pf h1,AV (by omega),so (by simp),so (by simp; omega)]
 .rw [AV (by omega),AV (by omega),g3s (aT _),g3s (by omega)]
  simp
def Wr (m:Nat) (h:m<=1000):uY [.int (m:Int)]=some ((aK m).map λ(k:Nat)=>D.int (k:Int)):=by
 rw [vO (by omega) (by omega),uy,Bj]
theorem Jd:∀ (l:List Int) (m:Int),l.foldl (λa x=>a+x) m=m+l.sum
 | [],m=>by simp
 | x :: l,m=>by rw [nB,Jd l,List.sum_cons,Int.add_assoc]
def GE (h2:1<=d) (g:d<=30) (n:xs.length<=60):uf [lD xs,.int d]=some (lD (GF xs d)):=by
 have h:((xs.length:Int)+d - 1)=((xs.length+d.toNat - 1:Nat):Int):=by omega
 have c:=Wr (xs.length+d.toNat - 1) (by omega)
 have e:uo [lD xs]=some (.int (xs.length:Int)):=by
  show some (D.int ((xs.map D.int).length:Int))=_
  rw [aD]
 have m:=jo (f:=zW za3 (zb (jT (vF 1) (l6 (zW Pi (zb (cF (.int 0)) (zb (ze xn (ze vp (vF 0) (vF 2)) (cF (.int 1))) zq)))) (l6 (ze xn (vF 0) (cF (.int 1))))) zq)) (C:=[.fr (lD xs),.fr (.int d)]) (ι:=λ(k:Nat)=>D.int (k:Int)) (φ:=λp=>D.int (((xs.take (p+1)).drop (p+1 - d.toNat)).foldl (λa x=>a+x) 0)) (aK (xs.length+d.toNat - 1)) .no (λp _=>by
  have b:Pi [.int 0,.int ((p:Int) - d+1)]=some (.int ((p+1 - d.toNat:Nat):Int)):=by
   rw [Sk]
   congr 2
   split <;> omega
  have i:((p:Int)+1)=((p+1:Nat):Int):=by omega
  have j:Y4 (xs.map D.int) (some ((p+1 - d.toNat:Nat):Int)) (some ((p+1:Nat):Int))=((xs.take (p+1)).drop (p+1 - d.toNat)).map D.int:=by
   rw [B3 _ _ _ (by omega),<- LN,<- List.map_take,List.drop_take]
  simp only [zw,zf,zo,ZD,C8,y6,zX,zm,ao,ay,af,U7,j5,b,i,j,zby]
  rw [Jd,Int.zero_add])
 have hz:((aK (xs.length+d.toNat - 1)).map λ(k:Nat)=>D.int (k:Int)).length<=sizeLine:=by rw [aD,iQ]; exact a7 (by omega)
 simp only [uf,qL,yi,zC,aC,bg,aB,aI,q0,q4,aP,bJ,bw]
 rw [zr,z9]
 simp only [zw,zf,zo,zm,zX,y6,ao,ay,af,e,j5,U7,aN,aM,h]
 have l:uS 1 [0,1] [.fr (lD xs),.fr (.int d),.fr (.int ((xs.length+d.toNat - 1:Nat):Int))]=[.no,.fr (lD xs),.fr (.int d)]:=rfl
 rw [z8,zx,xh]
 simp only [jj,zf,zo,zX,ao,ay,af,c,if_pos hz]
 rw [l,m]
 show Wx (some (.rt (.lst ((aK (xs.length+d.toNat - 1)).map _))))=_
 show some (D.lst _)=some (D.lst ((GF xs d).map D.int))
 unfold GF
 rw [bz]
 rfl
def U2 (xs:List Int) (d:Int):(GF xs d).length=xs.length+d.toNat - 1:=by unfold GF; rw [aD,iQ]
theorem JW:∀ (l:List Int) (xs:List Int),1<=xs.length->(∀ d∈l,2<=d)->xs.length<=(l.foldl GF xs).length
 | [],xs,_,_=>aT _
 | d :: l,xs,h,hd=>by
  have:=hd d aV
  have a:=JW l (GF xs d) (by rw [U2]; omega) λe b=>hd e (aZ _ b)
  rw [U2] at a
  rw [nB]
  omega
theorem B7 (a0:Slot):∀ (l xs:List Int) (s2:Slot),1<=xs.length->(∀ d∈l,2<=d/\d<=30)->(l.foldl GF xs).length<=60->∃ b,yo (zL 2) (vX 1 (zW uf (zb (vF 1) (zb (vF 2) zq)))) (l.map D.int) [a0,.fr (lD xs),s2]=some (.nx [a0,.fr (lD (l.foldl GF xs)),b])
 | [],xs,s2,_,_,_=>⟨s2,rfl⟩
 | d :: l,xs,s2,h,hd,c=>by
  have f:=hd d aV
  have g:=JW (d :: l) xs h λe a=>(hd e a).1
  obtain ⟨b,e⟩:=B7 a0 l (GF xs d) (.fr (.int d)) (by rw [U2]; omega) (λe a=>hd e (aZ _ a)) c
  refine ⟨b,?_⟩
  have tv:=GE (xs:=xs) (d:=d) (by omega) f.2 (by omega)
  rw [aC,yo]
  simp only [yL,af,aN,aM,z9,zw,zf,zo,zX,ao,ay,tv]
  exact e
def Ge (hd:vU [zh n ts]=some (lD l)) (a:∀ d∈l,2<=d/\d<=30) (b:(Ki l).length<=60):WR [zh n ts]=some (lD (Ki l)):=by
 obtain ⟨s2,e⟩:=B7 (.fr (zh n ts)) l [1] .no (by simp) a b
 have z1:0+1<=sizeLine:=a7 (by decide)
 simp only [WR,Vm,yi,zC,aC,bg,aB,aI,q0,q4,aP,bJ,bw]
 rw [zr (F:=vX 1 _),z9]
 simp only [zx,xp,zf,zo,y6,af,aB,aI,if_pos z1,bL,aN,aM]
 rw [zr (F:=QG _ _ _),xG]
 simp only [zE,zw,zf,zo,zX,ao,af,hd,yY]
 have e:yo _ _ (l.map D.int) [.fr (zh n ts),.fr (.lst [.int 1]),.no]=_:=e
 rw [e]
 rfl
def ZO (w:List Nat):dep (zD w)<=100:=by
 have:qg (w.map λ(i:Nat)=>D.int (i:Int))<=0:=jB λd hd=>by
  obtain ⟨x,_,rfl⟩:=bu.mp hd
  simp [dep]
 unfold zD dep
 omega
def BD (u v:List Nat):bx (zD u) (zD v)=decide (u=v):=by
 have key:∀ u v:List Nat,WW (u.map λ(i:Nat)=>D.int (i:Int)) (v.map λ(i:Nat)=>D.int (i:Int))=decide (u=v):=by
  intro u
  induction u with
  | nil=>intro v; cases v <;> simp [WW]
  | cons a u d =>
   intro v
   cases v with
   | nil=>simp [WW]
   | cons b v =>
    rw [aC,aC]
    unfold WW
    rw [d v]
    by_cases c:a=b
    .subst c; simp [bx]
    .have:((a:Int)==(b:Int))=false:=by simp; omega
     simp [bx,c,this]
 exact key u v
theorem MH:∀ {u v:List Nat},Yo u v->u.length=v.length->Gp (u.map λ(i:Nat)=>D.int (i:Int)) (v.map λ(i:Nat)=>D.int (i:Int))=some false
 | [],[],h,_=>h.elim
 | [],_ :: _,_,e=>by cases e
 | _ :: _,[],_,e=>by cases e
 | a :: u,b :: v,h,e=>by
  rw [aC,aC]
  unfold Gp
  rcases h with h | ⟨rfl,h⟩
  .have:bx (.int (a:Int)) (.int (b:Int))=false:=by simp [bx]; omega
   rw [this]
   simp only [b5,if_false]
   unfold gP
   rw [decide_eq_false (by omega)]
  .have:bx (.int (a:Int)) (.int (a:Int))=true:=by simp [bx]
   rw [this,if_pos rfl]
   exact MH h (Nat.succ.inj e)
def T1 (h:SM u v):o9 (.tup [.int (u.length:Int),zD u]) (.tup [.int (v.length:Int),zD v])=some (.bl false):=by
 have hd:dep (.tup [.int (u.length:Int),zD u])<=100:=by
  have:=ZO u
  unfold dep
  have:qg [.int (u.length:Int),zD u]<=99:=jB λd hd=>by
   rcases aS.mp hd with rfl | hd
   .exact dJ _
   .rcases aS.mp hd with rfl | hd
    .have b:∀ l:List Nat,qg (l.map λ(i:Nat)=>D.int (i:Int))=0:=λl=>by
      induction l with
      | nil=>rfl
      | cons x l a=>rw [aC]; simp [qg,dep,a]
     show qg (u.map λ(i:Nat)=>D.int (i:Int))+1<=99
     rw [b]
     decide
    .cases hd
  omega
 unfold o9
 rw [if_pos hd]
 have:gP (.tup [.int (u.length:Int),zD u]) (.tup [.int (v.length:Int),zD v])=some false:=by
  unfold gP Gp
  rcases h with h | ⟨e,h⟩
  .have:bx (.int (u.length:Int)) (.int (v.length:Int))=false:=by simp [bx]; omega
   rw [this]
   simp only [b5,if_false]
   unfold gP
   rw [decide_eq_false (by omega)]
  .have e1:bx (.int (u.length:Int)) (.int (v.length:Int))=true:=by rw [e]; simp [bx]
   have e2:bx (zD u) (zD v)=false:=by
    rw [BD,decide_eq_false]
    intro z
    rw [z] at h
    exact uA _ h
   rw [e1,if_pos rfl]
   unfold Gp
   rw [e2]
   simp only [b5,if_false]
   unfold zD gP
   exact MH h e
 rw [this]
 rfl
def dS (K:Nat) (P:List (List Nat)):List D:=(aK K).map λi=>D.int (((P.filter λw=>decide (w.length=i)).length:Nat):Int)
def Rq {K:Nat} (P:List (List Nat)) {w:List Nat} (a:w.length < K):(dS K P).set w.length (.int ((((P.filter λv=>decide (v.length=w.length)).length:Nat):Int)+1))=dS K (P++[w]):=by
 have at_:∀ (Q:List (List Nat)) (i:Nat),(dS K Q)[i]? = if i < K then some (.int (((Q.filter λv=>decide (v.length=i)).length:Nat):Int)) else none:=λQ i=>by
  unfold dS
  rw [cK]
  by_cases c:i < K
  .rw [if_pos c,sd c]
   rfl
  .rw [if_neg c,gQ (by rw [iQ]; omega)]
   rfl
 have b:(dS K P).length=K:=by simp [dS]
 apply ph
 intro i
 rw [at_,ff,b,at_,List.filter_append,aW]
 by_cases c:w.length=i
 .subst c
  rw [if_pos rfl,if_pos a,if_pos a]
  simp
 .rw [if_neg c]
  by_cases d:i < K
  .rw [if_pos d,if_pos d]
   simp [c]
  .rw [if_neg d,if_neg d]
noncomputable def odB:FS:=(wG (cg (aU (ze o_ (zW uo (zb (ze aE (vF 0) (vF 3)) zq)) (zW uo (zb (vF 1) zq)))) (j6 (cF (.bl false))) cS) (wG (jU 2 (zW uo (zb (ze aE (vF 0) (vF 3)) zq)) (ze xn (ze aE (vR 2) (zW uo (zb (ze aE (vF 0) (vF 3)) zq))) (cF (.int 1)))) (cg (UY (aU (ze eU (vF 3) (cF (.int 0)))) (aU (ze o9 (tupF (zb (zW uo (zb (ze aE (vF 0) (ze vp (vF 3) (cF (.int 1)))) zq)) (zb (ze aE (vF 0) (ze vp (vF 3) (cF (.int 1)))) zq))) (tupF (zb (zW uo (zb (ze aE (vF 0) (vF 3)) zq)) (zb (ze aE (vF 0) (vF 3)) zq)))))) (j6 (cF (.bl false))) cS)))
def Va {W:List (List Nat)} {k:Nat} {w:List Nat} (h:W[k]? = some w):aE (.lst (W.map zD)) (.int (k:Int))=some (zD w):=jE (by rw [cK,h]; rfl)
theorem Ht {W:List (List Nat)} {K:Nat} (row:List Int) (m:row.length=K) (j:W.Pairwise SM) (p:∀ w∈W,w.length < K) (C:W.length<=120):∀ (Z P:List (List Nat)) (b:Slot),W=P++Z →
  ∃ l,yo (zL 3) odB ((LO P.length Z.length).map λ(k:Nat)=>D.int (k:Int)) [.fr (.lst (W.map zD)),.fr (lD row),.ol (dS K P),b]=some (.nx [.fr (.lst (W.map zD)),.fr (lD row),.ol (dS K W),l])
 | [],P,b,e=>⟨b,by rw [bX] at e; subst e; rfl⟩
 | w :: Z,P,b,e=>by
  have B:w∈W:=by rw [e]; simp
  have o:=p w B
  have E:W[P.length]? = some w:=by rw [e,iC (aT _),Nat.sub_self]; rfl
  have h:=Va E
  have d:uo [zD w]=some (.int (w.length:Int)):=by
   show some (D.int ((w.map λ(i:Nat)=>D.int (i:Int)).length:Int))=_
   rw [aD]
  have A:uo [lD row]=some (.int (K:Int)):=by
   show some (D.int ((row.map D.int).length:Int))=_
   rw [aD,m]
  obtain ⟨l,n⟩:=Ht row m j p C Z (P++[w]) (.fr (.int (P.length:Int))) (by rw [e,dh]; rfl)
  refine ⟨l,?_⟩
  rw [aW,di] at n
  have H:(LO P.length (w :: Z).length).map (λ(k:Nat)=>D.int (k:Int))=D.int (P.length:Int) :: (LO (P.length+1) Z.length).map λ(k:Nat)=>D.int (k:Int):=by
   rw [aB,List.range'_succ,aC]
  rw [H,yo]
  simp only [yL,af,aN,aM]
  have cl:(dS K P).length=K:=by simp [dS]
  have L:aE (.lst (dS K P)) (.int (w.length:Int))=some (.int (((P.filter λv=>decide (v.length=w.length)).length:Nat):Int)):=jE (by
   unfold dS
   rw [cK,sd o]
   rfl)
  have st:jU 2 (zW uo (zb (ze aE (vF 0) (vF 3)) zq)) (ze xn (ze aE (vR 2) (zW uo (zb (ze aE (vF 0) (vF 3)) zq))) (cF (.int 1))) [.fr (.lst (W.map zD)),.fr (lD row),.ol (dS K P),.fr (.int (P.length:Int))]=some (.nx [.fr (.lst (W.map zD)),.fr (lD row),.ol (dS K (P++[w])),.fr (.int (P.length:Int))]):=by
   have:=Wh (i:=2) (g:=zW uo (zb (ze aE (vF 0) (vF 3)) zq)) (f:=ze xn (ze aE (vR 2) (zW uo (zb (ze aE (vF 0) (vF 3)) zq))) (cF (.int 1))) (ρ:=[.fr (.lst (W.map zD)),.fr (lD row),.ol (dS K P),.fr (.int (P.length:Int))]) (y:=.int ((((P.filter λv=>decide (v.length=w.length)).length:Nat):Int)+1)) (ds:=dS K P) (k:=(w.length:Int)) (by
    simp only [zm,zw,zf,zo,zX,KL,y6,ao,ay,af,h,d,L,j5]) (by
    simp only [zm,zw,zf,zo,zX,ao,ay,af,h,d]) rfl (by omega) (by rw [cl]; omega)
   rw [this,Il,Rq P o]
   rfl
  have body:odB [.fr (.lst (W.map zD)),.fr (lD row),.ol (dS K P),.fr (.int (P.length:Int))]=some (.nx [.fr (.lst (W.map zD)),.fr (lD row),.ol (dS K (P++[w])),.fr (.int (P.length:Int))]):=by
   unfold odB
   rw [zr,yM]
   have s:aU (ze o_ (zW uo (zb (ze aE (vF 0) (vF 3)) zq)) (zW uo (zb (vF 1) zq))) [.fr (.lst (W.map zD)),.fr (lD row),.ol (dS K P),.fr (.int (P.length:Int))]=some false:=by
    simp only [yU,zm,zw,zf,zo,zX,ao,ay,af,h,d,A,zb4]
    rw [decide_eq_false (by omega)]
   rw [s]
   simp only [af,b5,if_false,wu]
   rw [zr,st]
   simp only [af]
   rw [yM]
   have r:UY (aU (ze eU (vF 3) (cF (.int 0)))) (aU (ze o9 (tupF (zb (zW uo (zb (ze aE (vF 0) (ze vp (vF 3) (cF (.int 1)))) zq)) (zb (ze aE (vF 0) (ze vp (vF 3) (cF (.int 1)))) zq))) (tupF (zb (zW uo (zb (ze aE (vF 0) (vF 3)) zq)) (zb (ze aE (vF 0) (vF 3)) zq))))) [.fr (.lst (W.map zD)),.fr (lD row),.ol (dS K (P++[w])),.fr (.int (P.length:Int))]=some false:=by
    rw [Zl]
    simp only [yU,zm,zX,y6,ao,ay,af,Gm]
    by_cases c:(0:Int) < (P.length:Int)
    .rw [decide_eq_true c]
     obtain ⟨a,u,rfl⟩:∃ a u,P=a++[u]:=by
      have q:P≠[]:=λz=>by rw [z] at c; simp at c
      exact ⟨P.dropLast,P.getLast q,(A3 q).symm⟩
     have I:(((a++[u]).length:Int) - 1)=(a.length:Int):=by rw [aW,di]; omega
     have F:W[a.length]? = some u:=by
      rw [e,dh,iC (aT _),Nat.sub_self]
      rfl
     have J:=Va F
     have x:uo [zD u]=some (.int (u.length:Int)):=by
      show some (D.int ((u.map λ(i:Nat)=>D.int (i:Int)).length:Int))=_
      rw [aD]
     have z2:0+1+1<=sizeLine:=a7 (by decide)
     have t:SM u w:=by
      rw [e,dh] at j
      have:=(List.pairwise_append.mp j).2.1
      exact (ic.mp this).1 w (by simp)
     have G:=T1 t
     simp only [if_true,wt,zf,zo,zw,zm,zX,y6,ao,ay,af,U7,I,J,x,h,d,aB,aI,if_pos z2,G]
    .rw [decide_eq_false c]
     rfl
   rw [r]
   rfl
  rw [body]
  exact n
def Qn {W:List (List Nat)} {K:Nat} (row:List Int) (a:row.length=K) (h:W.Pairwise SM) (l:∀ w∈W,w.length < K) (i:W.length<=120) (r:K<=17) (j:dS K W=row.map D.int):jz [.lst (W.map zD),lD row]=some (.bl true):=by
 obtain ⟨p,e⟩:=Ht row a h l i W [] .no rfl
 have n:LO 0 W.length=aK W.length:=List.range_eq_range'.symm
 rw [aI,n] at e
 unfold odB at e
 have c:uo [lD row]=some (.int (K:Int)):=by
  show some (D.int ((row.map D.int).length:Int))=_
  rw [aD,a]
 have f:uo [.lst (W.map zD)]=some (.int (W.length:Int)):=by
  show some (D.int ((W.map zD).length:Int))=_
  rw [aD]
 have b:=Wr W.length (by omega)
 have z1:0+1<=sizeLine:=a7 (by decide)
 have q:([]:List D).length=0:=rfl
 have hz : -1000000<=(K:Int)/\(0+1) * ((K:Int)).toNat<=1000000:=⟨by omega,by omega⟩
 have o:(aP ((K:Int)).toNat [D.int 0]).flatten=dS K []:=by
  rw [Il]
  unfold dS
  have:∀ k:Nat,(aP k [D.int 0]).flatten=(aK k).map λ_=>D.int 0:=λk=>by
   induction k with
   | zero=>rfl
   | succ k g =>
    rw [nE,n0,g,n6,aC,bz]
    rfl
  rw [this]
  rfl
 have m:=P2 (d:=.lst (row.map D.int)) (by
  have:qg (row.map D.int)<=0:=jB λd hd=>by
   obtain ⟨x,_,rfl⟩:=bu.mp hd
   exact dJ _
  unfold dep
  omega)
 simp only [jz,jL,yi,zC,aC,bg,aB,aI,q0,q4,aP,bJ,bw]
 rw [zr (F:=UW 2 _),wJ,Ma]
 simp only [zx,xp,zf,zo,y6,zw,zX,ao,ay,af,aB,aI,if_pos z1,bL,c]
 rw [if_pos hz,o]
 simp only [af,aN,aM]
 rw [zr (F:=QG _ _ _),xG]
 simp only [jj,zw,zf,zo,zX,ao,af,f,b]
 rw [e]
 simp only [af,z8,zm,KL,zX,ao,ay,j]
 show Wx ((b9 (.lst (row.map D.int)) (.lst (row.map D.int))).bind λx=>some (.rt x))=_
 rw [m]
 rfl
def BV (W:List (List Nat)):qg (W.map zD)<=100:=jB λd hd=>by
 obtain ⟨w,_,rfl⟩:=bu.mp hd
 exact ZO w
def JQ {W:List (List Nat)} {v:List Nat} (h:v∈W) (neg:Bool):inD neg (zD v) (.lst (W.map zD))=some (.bl (!neg)):=by
 show (if qg (W.map zD)<=100 then some (D.bl (xor neg ((W.map zD).any λd=>bx d (zD v)))) else none)=_
 rw [if_pos (BV W)]
 have:(W.map zD).any (λd=>bx d (zD v))=true:=nZ.mpr ⟨zD v,bu.mpr ⟨v,h,rfl⟩,by rw [BD]; simp⟩
 rw [this]
 cases neg <;> rfl
section
variable {ts:List T3} {n:Nat}
theorem Jx (hg:yh ts) (g:n<=6) {K:Nat} (b:xZ ts n K=[]) (q:K<=17) {w:List Nat} (c:Sh ts n w):∀ (l:List Nat) (a:Slot),(∀ i∈l,i < n)->∃ d,yo (zL 3) (cg (aU (ze (inD true) (zW YB (zb (vF 0) (zb (ze xn (vF 2) (tupF (zb (vF 3) zq))) zq))) (vF 1))) (j6 (cF (.bl false))) cS) (l.map λ(i:Nat)=>D.int (i:Int)) [.fr (zh n ts),.fr (.lst ((xX ts n K).map zD)),.fr (zD w),a]=some (.nx [.fr (zh n ts),.fr (.lst ((xX ts n K).map zD)),.fr (zD w),d])
 | [],a,_=>⟨a,rfl⟩
 | i :: l,a,h=>by
  have hi:=h i aV
  have s:=Jf hg b c
  obtain ⟨d,o⟩:=Jx hg g b q c l (.fr (.int (i:Int))) λj p=>h j (aZ _ p)
  refine ⟨d,?_⟩
  have f:az n (w++[i]):=c.1.app (az.one hi)
  obtain ⟨v,e,lv,_⟩:=VP hg f
  have r:=Jf hg b e.1
  have le:=Yq n hg g f lv (by rw [aW,di]; omega)
  have k:=Vq (w:=w) (by omega) i
  have m:=JQ (QU hg b e) true
  have z1:0+1<=sizeLine:=a7 (by decide)
  rw [aC,yo]
  simp only [yL,af,aN,aM,yM,yU,zm,zw,zf,zo,zX,ao,ay,wt,aB,aI,if_pos z1,k,le,m,iz,b5,if_false,wu]
  exact o
def N5 (hg:yh ts) (a:n<=6) {K:Nat} (g:xZ ts n K=[]) (j:K<=17) {w:List Nat} (f:w∈xX ts n K):WQ [zh n ts,.lst ((xX ts n K).map zD),zD w]=some (.bl true):=by
 obtain ⟨ow,l⟩:=YR hg f
 obtain ⟨k,e⟩:=Jx hg a g j ow.1 (aK n) .no λi hi=>dA.mp hi
 have b:=Qy n hg a ow.1.1 (by omega)
 rw [(GS hg ow.1.1).mpr ow.1] at b
 have le:=Yq n hg a ow.1.1 ow.2 (by omega)
 have d:=HB (ZO w)
 have h:aE (zh n ts) (.int 0)=some (.int n):=by unfold zh; exact g6
 have c:=Wr n (by omega)
 simp only [WQ,Q3,yi,zC,aC,bg,aB,aI,q0,q4,aP,bJ,bw]
 rw [zr (F:=cg _ _ _),yM]
 simp only [KM,yU,zm,zw,zf,zo,zX,y6,ao,ay,af,b,Nh,decide_true,iz,b5,if_false,le,d,wu]
 rw [zr (F:=QG _ _ _),xG]
 simp only [jj,zm,zf,zo,zX,y6,ao,af,h,c]
 rw [e]
 rfl
end
section
variable {ts:List T3} {n:Nat}
theorem VB (hg:yh ts) (m:n<=6) (g:∀ w∈W,az n w) (h:W.length<=120) (nd:(W.map (zy ts n)).Nodup) (a0 a2 a3 a4 a:Slot):∀ (Z P:List (List Nat)) (b:Slot),W=P++Z →
  ∃ d,yo (zL 6) (Qh 5 (zW vJ (zb (zW wC (zb (vF 1) (zb (vF 6) zq))) zq)) (cF (.bl true))) (Z.map zD) [a0,.fr (zh n ts),a2,a3,a4,.oX 3 (P.map λv=>k3 (zy ts n v)),b,a]=some (.nx [a0,.fr (zh n ts),a2,a3,a4,.oX 3 (W.map λv=>k3 (zy ts n v)),d,a])
 | [],P,b,e=>⟨b,by rw [bX] at e; subst e; rfl⟩
 | w :: Z,P,b,e=>by
  have k:=g w (by rw [e]; simp)
  obtain ⟨d,f⟩:=VB hg m g h nd a0 a2 a3 a4 a Z (P++[w]) (.fr (zD w)) (by rw [e,dh]; rfl)
  refine ⟨d,?_⟩
  have l:wC [zh n ts,zD w]=some (yI (zy ts n w)):=uK n hg (by omega) k
  have o:P.length<=120:=by rw [e,aW] at h; omega
  have c:zy ts n w∉P.map (zy ts n):=λz=>by
   rw [e,bK,pg] at nd
   exact nd.2.2 _ z _ (by rw [aC]; exact aV) rfl
  have tv:zW vJ (zb (zW wC (zb (vF 1) (zb (vF 6) zq))) zq) [a0,.fr (zh n ts),a2,a3,a4,.oX 3 (P.map λv=>k3 (zy ts n v)),.fr (zD w),a]=some (.tup ((zy ts n w).map wH)):=by
   simp only [zw,zf,zo,zX,ao,ay,af,l]
   rfl
  have j:=zd0 (i:=5) (ks:=P.map λv=>k3 (zy ts n v)) rfl tv (by rw [aD]; exact yX (by omega)) (λz=>c (JO.mp z))
  rw [aC,yo]
  simp only [yL,af,aN,aM]
  rw [j]
  rw [bK] at f
  exact f
theorem VT (hg:yh ts) (m:n<=6) {K:Nat} (p:xZ ts n K=[]) (r:K<=17) (y:0 < (xX ts n K).length) (ns:List Int) (a2 h g:Slot):∀ (l:List Nat) (d:Slot),(∀ k∈l,k<=100) →
  ∃ f,yo (zL 7) (cg (RF (aU (zW WQ (zb (vF 1) (zb (vF 4) (zb (ze aE (vF 4) (ze Zr (zW xl (zb (zW jm (zb (vF 0) (zb (vF 7) zq))) (zb (cF (.int 5)) zq))) (vF 3))) zq)))))) (j6 (cF (.bl false))) cS) (l.map λ(k:Nat)=>D.int (k:Int)) [.fr (.lst (ns.map D.int)),.fr (zh n ts),a2,.fr (.int ((xX ts n K).length:Int)),.fr (.lst ((xX ts n K).map zD)),h,g,d]=some (.nx [.fr (.lst (ns.map D.int)),.fr (zh n ts),a2,.fr (.int ((xX ts n K).length:Int)),.fr (.lst ((xX ts n K).map zD)),h,g,f])
 | [],d,_=>⟨d,rfl⟩
 | k :: l,d,o=>by
  obtain ⟨f,v⟩:=VT hg m p r y ns a2 h g l (.fr (.int (k:Int))) λj x=>o j (aZ _ x)
  refine ⟨f,?_⟩
  obtain ⟨c,B⟩:=Ko ns k (o k aV)
  obtain ⟨z,z1,_,e⟩:=kY c 5 (by omega)
  have e:xl [.int c,.int 5]=some (.int z):=e
  have s:=y7 (i:=z) (j:=((xX ts n K).length:Int)) (by omega)
  have C:=Ip z (b:=((xX ts n K).length:Int)) (by omega)
  have u:=E6 z (b:=((xX ts n K).length:Int)) (by omega)
  obtain ⟨q,w⟩:∃ q:Nat,z % ((xX ts n K).length:Int)=(q:Int):=⟨(z % ((xX ts n K).length:Int)).toNat,by omega⟩
  rw [w] at s u
  have a:q < (xX ts n K).length:=by omega
  have A:=Va (W:=xX ts n K) (k:=q) (fg a)
  have t:=N5 hg m p r (rX a)
  rw [aC,yo]
  simp only [yL,af,aN,aM,yM,Jj,yU,zm,zw,zf,zo,zX,y6,ao,ay,B,e,s,A,t,iz,b5,if_false,wu]
  exact v
end
def law_true (ns:List Int) (hl:ns.length<=63):g_law [.lst (ns.map D.int)]=some (.bl true):=by
 obtain ⟨bs,ord,h1,l,J,ht,hr,M⟩:=HG ns
 have M:kj [.lst (ns.map D.int)]=_:=M
 have hg:=PJ J
 have P:bs.length<=6:=by
  rw [aD] at hr
  have:=congrArg ny (kU bs 0)
  rw [aD] at this
  omega
 generalize sg ord=σ at *
 have hd:=Fj J l (by omega) P
 have key:∀ {z:Int},dD bs<=120->(∀ B∈bs,B.2.1≠(0,0))->_:=λ{z} a b=>SD J h1 l b a hg
 generalize en:yP bs=n at *
 generalize et:bA bs σ=ts at *
 obtain ⟨R,S⟩:=Ko ns 0 (by omega)
 have S:jm [.lst (ns.map D.int),.int 0]=some (.int R):=S
 obtain ⟨d,y1,_,G⟩:=kY R 7 (by omega)
 have G:xl [.int R,.int 7]=some (.int d):=G
 have d4:=y7 (i:=d) (show (0:Int) < 4 by decide)
 obtain ⟨most,L,H⟩:∃ m:Int,m<=120/\aE (.lst [.int 60,.int 60,.int 60,.int 120]) (.int (d % 4))=some (.int m):=by
  have e:=Ip d (b:=4) (by decide)
  have e2:=E6 d (b:=4) (by decide)
  have Q:d % 4=((0:Nat):Int)\/d % 4=((1:Nat):Int)\/d % 4=((2:Nat):Int)\/d % 4=((3:Nat):Int):=by omega
  rcases Q with e | e | e | e <;> rw [e]
  .exact ⟨60,by decide,jE rfl⟩
  .exact ⟨60,by decide,jE rfl⟩
  .exact ⟨60,by decide,jE rfl⟩
  .exact ⟨120,by decide,jE rfl⟩
 have z4:0+1+1+1+1<=sizeLine:=a7 (by decide)
 have i0:aE (.tup [zh n ts,.lst ((kJ ((wg 0 bs).map (UV kT σ))).map cV)]) (.int 0)=some (zh n ts):=g6
 simp only [g_law,RD,yi,zC,aC,bg,aB,aI,q0,q4,aP,bJ,bw]
 rw [zr (F:=vX 1 _),z9]
 simp only [zm,zw,zf,zo,zX,y6,ao,af,M,i0,aN,aM]
 rw [zr (F:=vX 2 _),z9]
 simp only [zm,zw,zf,zo,zX,y6,zx,xp,ao,af,aB,aI,if_pos z4,bL,S,G,d4,H,aN,aM]
 rw [zr (F:=cg _ _ _),yM]
 rcases hd with ⟨ds,ev⟩ | ⟨nf,ev,dv,g,rg,_⟩
 .have t:iM true (.tup ds) .non=some (.bl true):=rfl
  have o:=ju (DL ev most)
  simp only [KM,yU,zm,zw,zf,zo,zX,y6,ao,ay,af,ev,t,if_true,z8,o,yu]
 .have t:iM true .non .non=some (.bl false):=rfl
  by_cases c:most < dD bs
  .have o:=ju (by rw [Yk ev g most,decide_eq_true c])
   simp only [KM,yU,zm,zw,zf,zo,zX,y6,ao,ay,af,ev,t,b5,if_false,g,Gm,decide_eq_true c,if_true,z8,o,yu]
  .obtain ⟨K,cc,k1,k2,r,q,k5,k6⟩:=key (z:=0) (by omega) nf
   have A:(xX ts n K).length<=120:=by omega
   obtain ⟨v0,E,_,_⟩:=VP hg (w:=[]) (n:=n) (λi h=>(by cases h))
   have b0:0 < (xX ts n K).length:=r_.mpr (List.ne_nil_of_mem (QU hg q E))
   have pv:=KO (most:=dD bs) hg l q k1 A (by rw [Yk ev g,decide_eq_false (by omega)])
   have cl:(Ki (Xf bs)).length=K:=by rw [<- r,aD,k2]
   have cv:=Ge dv rg (by omega)
   have od:=Qn (W:=xX ts n K) (Ki (Xf bs)) cl (Cs hg K) (λw I=>(YR hg I).2) A k1 (by
    rw [<- r,bz]
    unfold dS
    apply ph
    intro i
    rw [cK,cK]
    by_cases ci:i < K
    .rw [sd ci,fg (by omega:i < cc.length),bL,bL,Cv hg K i,if_pos ci,k6 i ci]
     rw [bR,fg (by omega:i < cc.length)]
     rfl
    .rw [gQ (by rw [iQ]; omega),gQ (by omega)]
     rfl)
   have lW:uo [.lst ((xX ts n K).map zD)]=some (.int (dD bs)):=by
    show some (D.int (((xX ts n K).map zD).length:Int))=_
    rw [aD,k5]
   have ty:GK (oD (.lst ((xX ts n K).map zD))) "list"=true:=rfl
   have p:fY (.int (dD bs)) (.int (dD bs))=some (.bl false):=HB (dJ _)
   obtain ⟨s,T⟩:=VB hg l (W:=xX ts n K) (λw I=>(YR hg I).1.1.1) A (zas hg K) (.fr (.lst (ns.map D.int))) (.fr (.int most)) (.fr (.int (dD bs))) (.fr (.lst ((xX ts n K).map zD))) .no (xX ts n K) [] .no rfl
   rw [bg] at T
   obtain ⟨U,Y⟩:=VT hg l q k1 b0 ns (.fr (.int most)) (.oX 3 ((xX ts n K).map λv=>k3 (zy ts n v))) s (aK 2) .no (λk hk=>by have:=dA.mp hk; omega)
   rw [k5] at Y
   have y:=Wr 2 (by decide)
   have y:uY [.int 2]=_:=y
   have lX:((((xX ts n K).map λv=>k3 (zy ts n v)).length:Nat):Int)=dD bs:=by rw [aD,k5]
   have wk:∀ x:Int,∃ i:Nat,i < n/\ze Zr (zW xl (zb (vF 0) (zb (cF (.int 6)) zq))) (ze aE (vF 1) (cF (.int 0))) [.fr (.int x),.fr (zh n ts)]=some (.int (i:Int)):=λx=>by
    obtain ⟨z,w1,_,u⟩:=kY x 6 (by omega)
    have u:xl [.int x,.int 6]=some (.int z):=u
    have dm:=y7 (i:=z) (j:=(n:Int)) (by omega)
    have m1:=Ip z (b:=(n:Int)) (by omega)
    have m2:=E6 z (b:=(n:Int)) (by omega)
    have O:aE (zh n ts) (.int 0)=some (.int n):=by unfold zh; exact g6
    refine ⟨(z % (n:Int)).toNat,by omega,?_⟩
    simp only [zm,zw,zf,zo,zX,y6,ao,ay,af,u,O,dm]
    rw [show (((z % (n:Int)).toNat:Nat):Int)=z % (n:Int) by omega]
   obtain ⟨f,hf⟩:=Classical.axiomOfChoice wk
   have cm:=jo (f:=ze Zr (zW xl (zb (vF 0) (zb (cF (.int 6)) zq))) (ze aE (vF 1) (cF (.int 0)))) (C:=[.fr (zh n ts)]) (ι:=D.int) (φ:=λx=>D.int ((f x:Nat):Int)) ((ns.drop 1).take 60) .no (λx _=>(hf x).2)
   have ec:Y4 (ns.map D.int) (some 1) (some 61)=((ns.drop 1).take 60).map D.int:=by
    have:=B3 (ns.map D.int) 1 61 (by decide)
    rw [<- LN,<- List.map_take] at this
    exact this
   have hz:(((ns.drop 1).take 60).map D.int).length<=sizeLine:=by rw [aD,AZ]; exact a7 (by omega)
   have Z:az n (((ns.drop 1).take 60).map f):=λi hi=>by
    obtain ⟨x,_,rfl⟩:=bu.mp hi
    exact (hf x).1
   obtain ⟨v,X,lv,_⟩:=VP hg Z
   have vl:=Jf hg q X.1
   have le:=Yq n hg l Z lv (by rw [aD,AZ]; omega)
   have iv:=JQ (QU hg q X) false
   have ew:D.tup (((ns.drop 1).take 60).map λx=>D.int ((f x:Nat):Int))=zD (((ns.drop 1).take 60).map f):=by
    unfold zD
    rw [bz]
    rfl
   simp only [KM,yU,zm,zw,zf,zo,zX,y6,ao,ay,af,ev,t,b5,if_false,g,Gm,decide_eq_false c,wu]
   rw [zr (F:=vX 3 _),z9]
   simp only [zw,zf,zo,zX,ao,ay,af,g,aN,aM]
   rw [zr (F:=vX 4 _),z9]
   simp only [zw,zf,zo,zX,ao,ay,af,pv,aN,aM]
   rw [zr (F:=cg _ _ _),yM]
   simp only [KM,Jj,yU,Ya,zm,zw,zf,zo,zX,ao,ay,af,Sm,ty,iz,b5,if_false,lW,p,cv,od,wu]
   rw [zr (F:=Kb 5 3),Jm]
   simp only [af,aN,aM]
   rw [zr (F:=QG _ _ _),xG]
   simp only [zE,zX,ao,ay,af,yY]
   rw [T]
   simp only [af]
   rw [zr (F:=cg _ _ _),yM]
   have t9:orT (aU (ze fY (D6 5) (vF 3))) (UY (aU (ze eU (vF 3) (cF (.int 1)))) (RF (aU (zW wU (zb (vF 1) (zb (ze vp (vF 3) (cF (.int 1))) zq)))))) [.fr (.lst (ns.map D.int)),.fr (zh n ts),.fr (.int most),.fr (.int (dD bs)),.fr (.lst ((xX ts n K).map zD)),.oX 3 ((xX ts n K).map λv=>k3 (zy ts n v)),s,.no]=some false:=by
    have o:=ju (most:=dD bs - 1) (by rw [Yk ev g,decide_eq_true (by omega)])
    simp only [KM,Zl,Jj,yU,zm,zw,zf,zo,zX,y6,Nm,ao,ay,af,lX,p,b5,if_false,Gm,U7,o,iz]
    by_cases c1:(1:Int) < dD bs
    .rw [decide_eq_true c1,if_pos rfl]
    .rw [decide_eq_false c1]
     rfl
   rw [t9]
   simp only [af,b5,if_false,wu]
   rw [zr (F:=QG _ _ _),xG]
   simp only [jj,zf,zo,y6,af,y]
   rw [Y]
   simp only [af]
   rw [zr (F:=vX 6 _),z9]
   have wv:zW vJ (zb (zk (qf 1 [1] (yx (jT (vF 0) (l6 (cF (.int 1))) (l6 (cF (.int 61))))) (zL 0) dk (ze Zr (zW xl (zb (vF 0) (zb (cF (.int 6)) zq))) (ze aE (vF 1) (cF (.int 0)))))) zq) [.fr (.lst (ns.map D.int)),.fr (zh n ts),.fr (.int most),.fr (.int (dD bs)),.fr (.lst ((xX ts n K).map zD)),.oX 3 ((xX ts n K).map λv=>k3 (zy ts n v)),s,U]=some (zD (((ns.drop 1).take 60).map f)):=by
    rw [zw,zf,zx,xh]
    simp only [zE,ZD,C8,zX,y6,ao,af,ec,yY,if_pos hz]
    have Q:uS 1 [1] [.fr (.lst (ns.map D.int)),.fr (zh n ts),.fr (.int most),.fr (.int (dD bs)),.fr (.lst ((xX ts n K).map zD)),.oX 3 ((xX ts n K).map λv=>k3 (zy ts n v)),s,U]=[.no,.fr (zh n ts)]:=rfl
    rw [Q,cm]
    simp only [bL,zo,af,GY,ew]
   rw [wv]
   simp only [af,aN,aM,z8,zm,zw,zf,zo,zX,ao,ay,le,iv,Bool.not_false,yu]
end Pk72
namespace PySem.W.Fast
def tw17824105617796656508:=0
def tw5939446035497887190:=0
def tw13272012488237919790:=0
def tw13741804949424228838:=0
def tw7938964316698034276:=0
def tw12633509575295239760:=0
def tw11742555776886307066:=0
def tw1802868124362668701:=0
def tw14942619908851095480:=0
def tw1859999285898608443:=0
def tw12070725653344508371:=0
def tw2363715042557472182:=0
def tw14887885164430971945:=0
def tw11230515718957903492:=0
def tw6682573357348694603:=0
def tw12062542181159508411:=0
def tw5139057058231358192:=0
def tw12751760989062429828:=0
def tw4697485477965531229:=0
def tw1772059609802162492:=0
def tw14461968876472650010:=0
def tw1027595503958075266:=0
def tw17160725106156157318:=0
def tw1775283287102458085:=0
def tw15015757692792860149:=0
def tw16272588550905298720:=0
def tw163027847267226359:=0
def tw3152312731384364024:=0
def tw17132326510314975309:=0
def tw8652699198525677602:=0
def tw6190676999069470955:=0
def tw18414196251137490743:=0
def tw1020070519770499159:=0
def tw3428167814128563249:=0
def tw7717069841488739501:=0
def tw8467996541659520206:=0
def tw11210300469284706203:=0
def tw8600073655203566856:=0
def tw2149306485448803642:=0
def tw5191792936061127986:=0
def tw15347738232602441924:=0
def tw2126385638009318739:=0
def tw7477748802362470976:=0
def tw8464881165263639960:=0
def tw2575261405478910690:=0
def tw12043329451898643531:=0
def tw15366948041712542133:=0
def tw15347021209550042065:=0
def tw60535207294458902:=0
def tw10985938885964934847:=0
def tw4360079166918481036:=0
def tw10180643676676888098:=0
def tw10317480987868502827:=0
def tw18372400168785151644:=0
def tw2054354904331879338:=0
def tw16744140523571131889:=0
def tw4277681492882229532:=0
def tw8081298828551959696:=0
def tw13733869398664236022:=0
def tw10235511943972553353:=0
end PySem.W.Fast
open PySem PySem.W PyProof.Rows FL L2 in
set_option maxRecDepth 100000 in
set_option maxHeartbeats 0 in
theorem PySem.Challenge.cw_mirrorhouse_k72_whole_places_holds : PySem.Challenge.rw_mirrorhouse_k72_whole_places.Holds := by
 w_on; refine holds_law (by kernel_rfl) λsaid=>?_; k_head; (case hw=>w_witness2)
 k_fill
 refine L2.walk_ofK (l:=PySem.Challenge.rw_mirrorhouse_k72_whole_places) (n:=63) (k:=14) (x:="_law_script") (CX:=eY) (sp:=λK=>FL.spF K 1 Pk72.g_law) rfl (by decide) rfl ⟨rfl,by decide,by decide⟩ (λw h Y=>PySem.W.kIn_of Y) ?F (λK H a ns hl _ hS=>FL.law_sp hS (Pk72.law_true ns hl)) (λ_ _ _ _ z=>z)
 case F =>
  intro w mg fa h KX G Ap
  refine' Pk72.all_mk KX G Ap ?d0 ?d1 ?d2 ?d3 ?d4 ?d5 ?d6 ?d7 ?d8 ?d9 ?d10 ?d11 ?d12 ?d13 ?d14 ?d15 ?d16 ?d17 ?d18 ?d19 ?d20 ?d21 ?d22 ?d23 ?d24 ?d25 ?d26 ?d27 ?d28 ?d29 ?d30 ?d31 ?d32 ?d33 ?d34 ?d35 ?d36 ?d37 ?d38 ?d39 ?d40 ?d41 ?d42 ?d43 ?d44 ?d45 ?d46 ?d47 ?d48 ?d49 ?d50 ?d51 ?d52 ?b_all ?b_enumerate ?b_isinstance ?b_len ?b_list ?b_max ?b_min ?b_range ?b_reversed ?b_sorted ?b_str ?b_sum ?b_tuple ?b_zip ?q_0c ?q_1c ?q_2c ?r_2c ?q_3c ?q_4c ?r_4c ?q_5c ?r_5c ?r_5c_0 ?r_5c_1 ?r_5c_2 ?r_5c_3 ?r_5c_4 ?r_5c_5 ?q_6c ?r_6c ?r_6c_0 ?r_6c_1 ?r_6c_2 ?r_6c_3 ?r_6c_4 ?kr_y_6c ?kr_z_6c_0 ?kr_z_6c_1 ?kr_z_6c_2 ?kr_z_6c_3 ?kr_z_6c_4 ?q_7c ?r_7c ?r_7c_0 ?r_7c_1 ?r_7c_2 ?r_7c_3 ?r_7c_4 ?r_7c_5 ?kr_y_7c ?kr_z_7c_0 ?kr_z_7c_1 ?kr_z_7c_2 ?kr_z_7c_3 ?kr_z_7c_4 ?kr_z_7c_5 ?enM ?eokM ?ec1 ?ec2 ?ec3 ?ec4
  any_goals first | exact ⟨_,_,_,_,_,_,_,_,_,_,by k_is,by k_is,by k_is,by k_is⟩ | skip
  (case b_all=>k_is)
  (case b_enumerate=>k_is)
  (case b_isinstance=>k_is)
  (case b_len=>k_is)
  (case b_list=>k_is)
  (case b_max=>k_is)
  (case b_min=>k_is)
  (case b_range=>k_is)
  (case b_reversed=>k_is)
  (case b_sorted=>k_is)
  (case b_str=>k_is)
  (case b_sum=>k_is)
  (case b_tuple=>k_is)
  (case b_zip=>k_is)
  (case q_0c=>k_is)
  (case q_1c=>k_is)
  (case q_2c=>k_is)
  (case r_2c=>k_is)
  (case q_3c=>k_is)
  (case q_4c=>k_is)
  (case r_4c=>k_is)
  (case q_5c=>k_is)
  (case r_5c=>k_is)
  (case r_5c_0=>k_is)
  (case r_5c_1=>k_is)
  (case r_5c_2=>k_is)
  (case r_5c_3=>k_is)
  (case r_5c_4=>k_is)
  (case r_5c_5=>k_is)
  (case q_6c=>k_is)
  (case r_6c=>k_is)
  (case r_6c_0=>k_is)
  (case r_6c_1=>k_is)
  (case r_6c_2=>k_is)
  (case r_6c_3=>k_is)
  (case r_6c_4=>k_is)
  (case kr_y_6c=>kernel_rfl)
  (case kr_z_6c_0=>kernel_rfl)
  (case kr_z_6c_1=>kernel_rfl)
  (case kr_z_6c_2=>kernel_rfl)
  (case kr_z_6c_3=>kernel_rfl)
  (case kr_z_6c_4=>kernel_rfl)
  (case q_7c=>k_is)
  (case r_7c=>k_is)
  (case r_7c_0=>k_is)
  (case r_7c_1=>k_is)
  (case r_7c_2=>k_is)
  (case r_7c_3=>k_is)
  (case r_7c_4=>k_is)
  (case r_7c_5=>k_is)
  (case kr_y_7c=>kernel_rfl)
  (case kr_z_7c_0=>kernel_rfl)
  (case kr_z_7c_1=>kernel_rfl)
  (case kr_z_7c_2=>kernel_rfl)
  (case kr_z_7c_3=>kernel_rfl)
  (case kr_z_7c_4=>kernel_rfl)
  (case kr_z_7c_5=>kernel_rfl)
  (case enM=>k_is)
  (case eokM=>k_exc)
  (case ec1=>k_is)
  (case ec2=>k_is)
  (case ec3=>k_is)
  (case ec4=>k_is)
