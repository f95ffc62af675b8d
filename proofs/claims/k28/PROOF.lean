import PyProof.Rows.All
import Wide.All
import OpenK.AllK
import Wide.FinOn
import Lean
import PyProof.EqAt
import PyProof.EqKinds
import PyProof.TupleCall
import PyProof.Rows.SetFrom
import PyProof.WalksMore
import PyProof.IsiNone
import PyProof.NeKinds
import PyProof.MaxThree
import PyProof.CallStr
import KE.KRevIter
import PySem.Challenge.RW_mowfloor_k28_strokes
set_option maxHeartbeats 4000000
set_option Elab.async false
set_option compiler.extract_closed false
set_option linter.all false
open List (range range' replicate)
noncomputable section
local macro_rules|`(∅)=>`(by decide)
local macro_rules|`(⇑$e)=>`(by simpa using $e)
local macro_rules|`(↥$_)=>`(by simp)
local macro_rules|`(tactic|let $p:term:=$e)=>do
 let q:=p.raw
 let X (s:Lean.Syntax):=s.isOfKind ``Lean.Parser.Term.explicit
 let I (s:String):=Lean.mkIdent (.mkSimple s)
 let l:=(if X q then q[1] else q)[1].getSepArgs
 let n:=l.size
 let j:=if X q then 0 else ((l.findIdx? X).map (·+1)).getD 99
 let mut b:Array Lean.Ident:=#[]
 let mut t:Array (Lean.TSyntax `tactic):=#[]
 let w:=I "ζ"
 let E:=e.raw
 let u:=E.getId
 let c:=j<99&&E.isIdent&&l.any fun s=>s.getId==u||s[1].getId==u
 let h:=I "ξ"
 let u:=u.toString
 let u:=if u.startsWith "ζ" then u else "ζ"
 let d:Lean.Term:=if c then h else e
 let r ←if c then `(tactic|(revert $(⟨e⟩):ident;intro $h:ident)) else `(tactic|skip)
 if j<99&&E.isIdent then t:=t.push (←`(tactic|try clear $(⟨d⟩):ident))
 for i in [0:n] do
  let s:=if i+1==j then l[i]![1] else l[i]!
  let z:=I s!"{u}{i}"
  if s.isIdent&&(j==99||s.getId != `rfl) then b:=b.push ⟨s⟩
  else
   b:=b.push z
   if s.isIdent then t:=t.push (←`(tactic|subst $z))
   else if !s.isOfKind ``Lean.Parser.Term.hole then t:=t.push (←`(tactic|let $(⟨s⟩):term:=$z))
 let A:=b.extract j n
 let B:=b.extract 0 j
 let k:=I s!"xE{j}"
 if j==99 then `(tactic|(obtain ⟨$[$b:ident],*⟩:=$e;$t;*)) else if j==0 then `(tactic|($r;refine $(I s!"xA{n}") ($d :) fun $b* =>?_;$t;*)) else if j+1==n then `(tactic|($r;refine $k ($d :) fun $b* =>?_;$t;*)) else `(tactic|($r;refine $k ($d :) fun $B* $w=>?_;refine $(I s!"xA{n-j}") $w fun $A* =>?_;clear $w;$t;*))
local macro_rules|`(command|def $i:declId $s:optDeclSig:=$v)=>if v.raw.isOfKind ``Lean.Parser.Term.paren then `(command|noncomputable def $i $s:optDeclSig:=$v) else (·.raw.rewriteBottomUp (·.setInfo .none))<$>`(command|theorem $i $(⟨.node .none ``Lean.Parser.Command.declSig #[s.raw[0],s.raw[1][0]]⟩):declSig:=$v)|`(command|def $i:declId $s:optDeclSig $v:matchAlts)=>`(command|noncomputable def $i $s:optDeclSig $v:matchAlts)|`(command|@[simp] def $i:declId $s:optDeclSig:=$v)=>`(command|@[simp] noncomputable def $i $s:optDeclSig:=$v)|`(command|@[simp] def $i:declId $s:optDeclSig $v:matchAlts)=>`(command|@[simp] noncomputable def $i $s:optDeclSig $v:matchAlts)|`(command|abbrev $i:declId $s:optDeclSig:=$v)=>`(command|noncomputable abbrev $i $s:optDeclSig:=$v)
local macro_rules|`(⋯)=>`(by lia)
open PySem renaming wpAny_bind->ay,wpAny_pure->a3,wpAny_newObj_type->hs,wpAny_holding->fL,wpAny_call_entry->i1,wpAny_callSpecial?_slot->lK,wpAny_seqItems->h3,wpAny_mono->fY,wpAny_field->g7,codeAny_builtin->jS,plainId_quiet->jl,wpAny_truthy_bool->md,wpAny_typeNameOfWhole_keyiter->sV,wpAny_rule->ir,wpAny_setField_rec->nV,wpAny_specialOf->mL,wpAny_passesOwn->mC,wpAny_forIn_list->qs,wpAny_Call_Name_kw->rX,call_meets->lO,wpAny_letGo->m2,wpAny_pyIter_list->uq,wpAny_tryCatch->p4,builtinLookup_eq_fast->xT,wpAny_isInstance->rI,wpAny_standAt->qt,wpAny_attempt->rx,wpAny_updateSeq_pair->uZ,wpAny_execs_nil->sG,wpAny_updateSeq->uz,wpAny_setField->ur,wpAny_dictEntries->vV,wpAny_onRaise->tl,noFill_tuple_add->wQ,wpAny_pyNext_list_item->zj,wpAny_Call_method_late->AI,richCompare_meets_room->zN,wpAny_dictEpoch->xR,typeLookup_type->y4,wpAny_pyNext_list_end->FA,wpAny_notOrdered_dict->Dk,wpAny_isOneOf_keyiter->EN,seqIndex_of->sb,wpAny_of_eq->tG,seq_tuple_add->vU,wpAny_newList->xX,wpAny_dictSet_heap->Fg,eqIsQuiet_byValue->Bt,wpAny_assign_Name->CE,codeAny_mono->vp,concat_meets->uS,wpAny_sequenceKey->z3,seqIndex_neg->uW,slot_list_getitem->FL,list_append->B_,wpAny_pyHash_int->EM,wpAny_pyHash_str->z6,wpAny_execs_cons->Ad,wpAny_pyIter_zip->D2,sizeLine_eq->ys,wpAny_Name->x8,wpAny_bindName->Cm,typeIs_str->vu,wpAny_fieldsOf->En,isSubtype_stop->AR,wpAny_newTuple->BN,callType_codes->AG,evalPart_none->AP,wpAny_handled->FH,intBits_le_64->z5
open Option renaming bind_eq_some_iff->bB,map_eq_some_iff->cw,bind_some->px,isSome_map->sX,map_some->rO,getD_some->vF,getD_none->Bb
open List renaming append_assoc->a_,getD_eq_getElem?_getD->cD,length_map->bH,append_nil->b5,perm_append_comm->c2,size_toArray->cH,map_cons->bV,mem_singleton->cV,mem_cons->b9,length_append->c5,nodup_append->c7,length_cons->dd,mem_append_right->en,getElem?_eq_getElem->fj,pairwise_singleton->e3,getElem?_eq_some_iff->fR,mem_append_left->eX,mem_append->dY,take_append_drop->fD,length_singleton->fQ,mem_map->dZ,nodup_cons->e6,drop_eq_getElem_cons->ix,map_congr_left->g_,getElem?_map->gc,length_drop->f5,lookup_cons->f9,all_eq_true->ho,sum_cons->fN,length_take->hB,length_nil->gZ,pairwise_cons->jg,map_map->gj,mem_cons_of_mem->kJ,find?_cons->iQ,length_filter_le->lY,mem_range->iJ,getElem?_append_right->om,mem_filter->jK,map_append->jx,drop_of_length_le->m6,getElem?_append_left->oT,pairwise_iff_getElem->oF,nodup_nil->jo,mem_cons_self->mn,getElem?_drop->ml,getElem?_set_ne->mV,mem_of_mem_drop->nr,drop_zero->j6,length_range->lX,flatMap_cons->lE,nil_append->kU,foldl_cons->k7,eq_nil_or_concat->oH,cons_append->mq,count_pos_iff->mQ,getElem?_take->mI,not_mem_nil->mi,mem_of_getElem?->oJ,mem_of_mem_take->oR,eq_nil_of_length_eq_zero->tA,take_of_length_le->pL,map_drop->kM,map_take->kN,mem_nil_iff->nc,exists_cons_of_ne_nil->tU,concat_eq_append->qN,ext_getElem?->oc,any_cons->l4,eraseIdxIfInBounds_toArray->wU,length_pos_iff->pF,drop_drop->ni,countP_cons->nT,length_eq_zero_iff->s_,getElem?_set_self->ua,reverse_cons->pv,any_eq_true->pn,count_singleton_self->uF,getLast?_singleton->yB,getLast?_cons_cons->vM,take_sublist->si,getElem_drop->r5,drop_take->qu,pairwise_map->sx,count_cons_of_ne->yW,getElem?_eq_none->v7,take_length->sT,any_toArray->s7,getLast?_append->yL,count_cons_self->yU,mem_iff_getElem->w6,length_set->tg,forIn_cons->sy,length_zip->uh,filterMap_cons->vW,length_reverse->uK,set_set->rd,ne_nil_of_mem->wu,lookup_append->xW,take_take->sk,setIfInBounds_toArray->AM,nodup_iff_pairwise_ne->AK,getLast?_eq_getElem?->El,getElem?_zip_eq_some->AL,count_append->vr,getElem_take->wi,drop_sublist->xp,length_erase_of_mem->Em,eraseIdx_cons_succ->F1,drop_length->uO,zipIdx_cons->va,filter_cons->vo,mem_flatMap->y3,length_pos_of_mem->Dg,count_cons->yv,of_mem_zip->xx,dropLast_eq_take->Fq,getElem?_toArray->CD,mem_of_mem_erase->DJ,take_zero->vf,extract_toArray->y6,perm_cons_erase->Bm,length_eraseIdx->BE,set_comm->yZ,count_eq_zero->BP,mem_filterMap->Ai,all_map->xy,getElem?_set->Bv,any_map->yR,getElem_inj->A8,getElem_mem->F8,map_toArray->Gv,ext_getElem->Cb,getElem_map->E8,cons_ne_nil->EA,map_id->xt,head?_cons->C5,zipIdx_nil->zG,forIn_nil->D1,not_lt->Cr
open PySem.Heap renaming get?_push_of_some->cp,get?_push_size->dc,lt_size->b6,get?_update_other->kg,size_push->lh,get?_update_self->q_,get?_none_of_le->vt
open PySem.W renaming kasC_pure->bc,kasC_bind->bf,mg_none_of->ie,kasC_range->fm,kasC_modify->ky,kasC_get->jF,mg_of->ps,kasC_lift->nh,cellsFrom_some->CY,kat_item->rU,kas_swaps_map->A5,kat_kind->x_
open Nat renaming le_refl->bD,lt_of_lt_of_le->ep,ne_of_lt->dg,le_of_ble_eq_true->fP,le_trans->dD,lt_irrefl->iX,zero_le->hY,zero_add->lb,ne_of_gt->kQ,le_add_right->nP,add_assoc->nX,add_lt_add_iff_right->w9,min_eq_left->q2,lt_succ_self->tM,add_zero->p1,le_of_lt->rk,le_succ_of_le->yE,lt_or_ge->tx,lt_of_le_of_lt->EW,le_of_eq->vy,succ_le_succ->Fh,lt_trans->zL,sub_self->y8,add_comm->zI,min_self->B6,le_succ->z4,not_lt->Er
open Bool renaming and_eq_true->cF,false_ne_true->c_,false_eq_true->ij,eq_iff_iff->o2,not_eq_true'->sS,and_true->tF,or_eq_true->yY,not_true->uL,false_and->zM,and_false->DF
open List.Perm renaming append_left->dI,append_right->eB,map->vO,eq_of_pairwise->IT
open Array renaming length_toList->fB,getElem?_toList->gq,ext'->kC,toArray_toList->vT,getD_eq_getD_getElem?->E4,perm_iff_toList_perm->CC,getElem?_eq_getElem->Cg,getElem_toList->A0,forIn_toList->Ah,toList_push->AE,getElem_mem->zu
open PySem.F renaming plainAttrs_list->iH,slot_list_append->mh,type_list_append->lu,slot_dict_keyiterator_next->pR,slot_tuple_iterator_next->tv,slot_list_pop->sU,type_list_pop->su,args_tuple_add_2->xd,slot_list_getattribute->yu,slot_list_extend->we,type_list_extend->yV,entry_tuple_add->xZ,slot_tuple_hash->so,slot_tuple_add->wx,args_dict_keyiterator_next_1->DM,entry_dict_keyiterator_next->Aa,args_tuple_iterator_next_1->Ez,slot_zip_next->tf,entry_tuple_iterator_next->Ap,slot_dict_getitem->Cq,args_list_append_2->C3,called_tuple->xl,entry_list_append->Bn,slot_list_append->EH,slot_tuple_count->Bx,args_zip_next_1->Fz,plain_list_iadd->Bf,plain_tuple_new->DV,plainAttrs_list->Eu,entry_list_pop->EJ,slot_dict_iter->Dn,entry_zip_next->BI,slot_list_pop->Aq
open PySem.PassesOwn renaming never->gB
open PySem.Around renaming under_plainId->km
open PyProof.Rows renaming slot_tuple_getitem->ou,callWith_type1->pX,assignInOrder_cons->w0,subscriptTail_builtinR->zH,entry_tuple_getitem->Ao,args_tuple_getitem->A1,assignInOrder_nil->Bo,callWith_builtin1->LS,get?_update_seq->Dy,entry_list_sort->Eo,slicePart_none->zm,Subscript_->vc,elem'_eq->rK,slot_list_sort->Gz,args_list_sort->Gn,tupleItemsOf_->CB,listUpdate_at->AQ,plain_sorted->D6,entry_sorted->DZ,args_sorted1->EY,lt_int->Le,gt_int->Ih
open Ne renaming symm->eu
open Int renaming emod_lt_of_pos->lQ,emod_nonneg->kK,le_refl->j9,toNat_natCast->pw,add_sub_cancel->sQ,sub_add_cancel->Gj,le_trans->xn,le_of_lt->xg,ediv_nonneg->FF,not_lt->vj,mul_le_mul->B9,lt_irrefl->Bs,mul_one->Cx,mul_pos->FX
open PySem.MeetsSeq renaming plain_remove_loop->rS,entry_remove_loop->Dd
open Prod renaming ext_iff->lM,ext->pE
open PySem.Heap.SameBut renaming update->tO
open PySem.Obj renaming data_mapFields->tD,isFreed_of_fields->za,cls_mapFields->DE
open PySem.Calls renaming callWith_builtin->x9,Name_function_global->F5,call_function_entry->DC,evalArgs_plain->DO,spliced_cons->zQ,spliced_nil->E2
open List.Pairwise renaming map->xK,imp₂->PV
open PySem.AutoSeq1 renaming sub_tuple_tuple->z0
open PySem.W.Looks renaming of_pure->uX
open PySem.SeqAt.EqAt renaming int_str->CP,str_int->Fj,none_tuple->Hx,bool_tuple->Qi,tuple_none->HY,tuple_bool->NQ,none_bool->LM,bool_none->Pz,bool_bool->Im,int_tuple->MZ,str_tuple->La,tuple_int->M3,tuple_str->OD,none_int->J3,none_str->Pc,bool_int->Nc,bool_str->Om,int_none->Qo,int_bool->HZ,str_none->GD,str_bool->JY,int_int->I4,str_str->LO,of_refs->GI
open PySem.SeqAt.RcAt renaming tuples->Cf,lists_lengths->Ku,none_tuple->K_,bool_tuple->Ib,tuple_none->PR,tuple_bool->Nt,none_none->Nx,none_bool->Jv,bool_none->KZ,bool_bool->Mh,int_tuple->Kx,str_tuple->Qx,tuple_int->Mm,tuple_str->GZ,none_int->L4,none_str->P8,bool_int->NN,bool_str->HF,int_none->KP,int_bool->N0,str_none->Ml,str_bool->PQ,int_int->Ie,int_str->Ir,str_int->LJ,str_str->Qp,lists->LR
open PySem.IsL renaming update->D9
open PySem.SeqAt.RcNeAt renaming lists_lengths->Of,none_tuple->OX,bool_tuple->PG,tuple_none->OB,tuple_bool->Kj,none_none->Mg,none_bool->HH,bool_none->KN,bool_bool->Mq,int_tuple->G5,str_tuple->KJ,tuple_int->Lo,tuple_str->PC,none_int->Lp,none_str->PA,bool_int->Kb,bool_str->Jl,int_none->He,int_bool->GQ,str_none->JC,str_bool->Iq,int_int->Pf,int_str->Jr,str_int->LG,str_str->LL,tuples->Ij,lists->Jg
open Decidable renaming byContradiction->MH
open Option renaming some->Z,none->X
open PySem renaming Scope->f6,Str->aC,Heap->a4,Value->af,CmpOp->ko,Sem->dy,Addr->ar,Stmt->cJ,Expr->a8,Obj->a6,Shared->aq,Around->bp,World->bg,Program->bz,reduceHash->yA,Builtin->bq,cLine->bJ,model->aQ,Tok->hU,Paired->d3,sysModules->iz,mainGlobals->dM,builtinsNs->s6,bootBuiltins->e1,Env->ei,GenState->n0,Model->gy,eval->bR,isTrue->mz,backTo->eT,starEach->bF,swapsWith->m8,assign->hA,assignInOrder->tP,assignEach->eI,setItem->oY,Operator->m5,swapsWithSole->s8,swappedStores->th,unpackItems->yp,bindName->s9,PassesOwn->pW,pyNext->hc,letOwnedTupleGo->pH,pyIter->te,rawInt->jn,Walks->mK,foldedSetIterable->lD,truthy->sv,binaryOp->fC,compareOp->ez,behindInMarks->oQ,recursionLimit->Gw,Result->qj,FuncData->gU,BindsTo->lI,bindArgs->lC,Keyword->js,NameKind->cS,cellsFrom->xw,richCompare->mS,IsPart->kn,getItem->ke,typeLookup->pZ,seqIndex?->xr,sliceBounds->my,PlainAttrs->t2,Slot->m9,typeOf->lU,attributeBase->lx,backToKw->qb,keywordEach->ru,valueAt->m7,atKey->kH,Params->rJ,callerA->mw,cellOf->uj,compEnvC->ud,newFunctionEnv->DQ,comprehension->v3,newList->p7,newExc->rR,newTuple->yJ,firstArgMember->t9,field->mj,seqItems?->ql,ZipApart->r6,IsZip->iO,IsPair->hP,Meets->qd,shortFactorBits->tp,getattributeRaised->zW,entryFor->wB,PyData->pN,ItemsOf->qH
open Bool renaming true->ab,false->ax
open PyProof.Rows renaming IsTup->mP,AllBare->kP,envOfC->i_,subscriptTail->vI,IntsAre->qR,bubble->pM,SortKind->fT,Keyed->bb,SortSt->bt,pendingOf->g8,failedOf->hj,mergeAt'->rF,ltAt'->mR,reverseSlice'->qT,seqObj->fO,keyKind'->y2,tuples'->qh
open PySem.W renaming WData->p5,WShape->p3,kas_rev->mu,kas_cmp->eQ,kas_item->ba,kas_st->sW,Frag->Φ,nsIn->Ψ,fnOf->Ξ,keepIn->Θ,codeIn->Δ,methodObj->Γ
open PySem
abbrev aB:=@if_pos
abbrev aD:=@if_neg
abbrev dv:=@decide_eq_false
abbrev dj:=@decide_eq_true
abbrev hb:=@decide_eq_true_iff
abbrev g9:=@of_decide_eq_true
abbrev eL:=@if_false
abbrev kk:=@beq_self_eq_true
abbrev e8:=@if_true
abbrev q7:=@decide_eq_decide
abbrev jv:=@or_false
abbrev vP:=@decide_eq_false_iff_not
abbrev wL:=@beq_eq_false_iff_ne
abbrev x5:=@decide_eq_true_eq
namespace bY
variable{ah:Type}[DecidableEq ah]
def pr(g f d i:ah):Nat:=(if (g=d/\f=i)\/(g=i/\f=d) then 1 else 0)
def wd(g f d i:ah):pr g f d i=pr f g d i:=by
 unfold pr;have:((g=d/\f=i)\/(g=i/\f=d))↔((f=d/\g=i)\/(f=i/\g=d)):=⟨λe=>e.elim (λa=>.inr ⟨a.2,a.1⟩) λa=>.inl ⟨a.2,a.1⟩,λe=>e.elim (λa=>.inr ⟨a.2,a.1⟩) λa=>.inl ⟨a.2,a.1⟩⟩;by_cases e:(g=d/\f=i)\/(g=i/\f=d)
 ·rw[aB e,aB<|this.mp e]
 ·rw[aD e,aD λa=>e<|this.mpr a]
def pG(g f:ah):pr g f g f=1:=aB (.inl ⟨rfl,rfl⟩)
def ce:List ah->ah->ah->Nat
 |g::f::p,d,i=>pr g f d i+ce (f::p) d i
 |_,_,_=>0
theorem pD(d i:ah):∀(C:List ah) (g:ah) (H:List ah),ce (C++g::H) d i=ce (C++[g]) d i+ce (g::H) d i
 |[],g,H=>by
  show ce (g::H) d i=0+ce (g::H) d i;rw[lb]
 |[f],g,H=>by
  show pr f g d i+ce (g::H) d i=pr f g d i+0+ce (g::H) d i;rw[p1]
 |f::h::C,g,H=>by
  show ce (f::h::(C++g::H)) d i=ce (f::h::(C++[g])) d i+_;rw[ce,ce];have:=pD d i (h::C) g H;simp only[mq]at this;omega
def qk(d i:ah)(C:List ah)(g f:ah):ce (C++[g,f]) d i=ce (C++[g]) d i+pr g f d i:=by
 rw[pD d i C g [f]];show _+(pr g f d i+ce [f] d i)=_;rw[show ce [f] d i=0 from rfl,p1]
theorem E_(d i:ah):∀C:List ah,ce C.reverse d i=ce C d i
 |[]=>rfl
 |[g]=>rfl
 |g::f::p=>by
  rw[pv,pv,a_];show ce (p.reverse++[f,g]) d i=_;rw[qk,<-pv,E_ d i (f::p),ce,wd f g];omega
def Oa{C:List ah}{d i:ah}(e:1<=ce C d i):d∈C/\i∈C:=by
 induction C with
 |nil=>exact absurd e (by show ¬ 1<=0;omega)
 |cons g p a=>
  cases p with
  |nil=>exact absurd e (by show ¬ 1<=0;omega)
  |cons f p=>
   rw[ce]at e;by_cases b:1<=ce (f::p) d i
   ·have:=a b;exact⟨.tail _ this.1,.tail _ this.2⟩
   ·unfold pr at e;split at e
    ·rename_i r;rcases r with r|r
     ·exact⟨r.1 ▸ .head _,r.2 ▸ .tail _ (.head _)⟩
     ·exact⟨r.2 ▸ .tail _ (.head _),r.1 ▸ .head _⟩
    ·omega
def Ba(d i:ah)(I H q:List ah):ce H d i<=ce (I++H++q) d i:=by
 cases H with
 |nil=>exact hY _
 |cons g H=>
  rw[a_,mq,pD];have:ce (g::H) d i<=ce (g::(H++q)) d i:=by
   rcases oH H with rfl|⟨a,h,rfl⟩
   ·exact hY _
   ·rw[qN];have:=pD d i (g::a) h q;simp only[mq,a_,kU]at this ⊢;omega
  omega
def lk(N:List ah)(g d i:ah):Nat:=(match N.getLast? with
 |none=>0
 |some D=>pr g D d i)
structure fU(Q7:ah->ah->Nat)(W:ah->List ah)(b:List ah)(h:ah)(N:List ah)(m g:ah):Prop where
 sym:∀d i,(W d).count i=(W i).count d
 aV:∀d,d∉W d
 cnt:∀d i,Q7 d i=(W d).count i+ce (b++[h]) d i+ce N d i+lk N g d i
 par:∀d,(W d).length%2=1↔¬ (d=g↔d=h)
 st:N=[]->g=m
 hd:(b++[h]).head?=Z m
 nI:∀d∈N,W d=[]
 uT:N≠[]->N.head?=Z m
variable{Q7:ah->ah->Nat}{W:ah->List ah}{b:List ah}{h f:ah}{N:List ah}{m g:ah}{C:List ah}
def k9(W:ah->List ah)(h f:ah)(C H:List ah):ah->List ah:=(λd=>if d=h then C else if d=f then H else W d)
def fU.push(Rk:fU Q7 W b h N m g)(e:W h=C++[f]):h∈W f/\f≠h/\fU Q7 (k9 W h f C<|(W f).erase h) (b++[h]) f N m g:=by
 have t:f≠h:=λc=>Rk.aV h (by rw[e,c];simp);have k:h∈W f:=by
  rw[<-mQ,Rk.sym f h,e,vr,uF];omega
 have y:∀d i,(W d).count i=(k9 W h f C ((W f).erase h) d).count i+pr h f d i:=λd i=>by
  unfold k9;by_cases j:d=h
  ·subst j;rw[aB rfl,e,vr];unfold pr;by_cases a:i=f
   ·subst a;rw[uF,aB<|.inl ⟨rfl,rfl⟩]
   ·rw[List.count_singleton,aD ⇑(λz=>a z.symm),aD];rintro (z|z)
    ·exact a z.2.symm
    ·exact t z.2
  ·rw[aD j];by_cases a:d=f
   ·subst a;rw[aB rfl];unfold pr;by_cases u:i=h
    ·subst u;rw[List.count_erase_self,aB<|.inr ⟨rfl,rfl⟩];have:=mQ.mpr k;omega
    ·have s:¬ ((h=d/\d=i)\/(h=i/\d=d)):=λz=>z.elim (λz=>j z.1.symm) λz=>u z.1.symm;rw[List.count_erase_of_ne u,aD s];omega
   ·rw[aD a];unfold pr;rw[aD]
    ·omega
    ·rintro (z|z)
     ·exact j z.1.symm
     ·exact a z.2.symm
 refine⟨k,t,⟨λd i=>?_,λd v=>?_,λd i=>?_,λd=>?_,Rk.st,?_,λd v=>?_,Rk.uT⟩⟩
 ·have RP:=y d i;have RJ:=y i d;have w:=Rk.sym d i;have x:pr h f d i=pr h f i d:=by
   unfold pr;by_cases z:(h=d/\f=i)\/(h=i/\f=d)
   ·rw[aB z,aB z.symm]
   ·rw[aD z,aD λr=>z r.symm]
  omega
 ·have:=y d d;have l:(W d).count d=0:=BP.mpr (Rk.aV d);have A:=mQ.mpr v;omega
 ·have RP:=y d i;have RJ:=Rk.cnt d i;rw[show b++[h]++[f]=b++[h,f] by simp,qk];omega
 ·have o:=Rk.par d;have q:((W f).erase h).length=(W f).length-1:=Em k;have B:1<=(W f).length:=pF.mpr (wu k);unfold k9;by_cases j:d=h
  ·subst j;rw[aB rfl];rw[e,c5,fQ]at o;have r:¬ d=f:=λz=>t z.symm;by_cases z:d=g
   ·have:¬ ((C.length+1)%2=1):=λp=>o.mp p ⟨λ_=>rfl,λ_=>z⟩;exact⟨λ_ D=>r<|D.mp z,λ_=>by omega⟩
   ·have:(C.length+1)%2=1:=o.mpr λD=>z (D.mpr rfl);exact⟨λp=>by omega,λD=>absurd ⟨λp=>absurd p z,λp=>absurd p r⟩ D⟩
  ·rw[aD j];by_cases a:d=f
   ·subst a;rw[aB rfl,q];by_cases z:d=g
    ·have:(W d).length%2=1:=o.mpr λD=>j (D.mp z);exact⟨λp=>by omega,λD=>absurd ⟨λ_=>rfl,λ_=>z⟩ D⟩
    ·have:¬ ((W d).length%2=1):=λp=>o.mp p ⟨λp=>absurd p z,λp=>absurd p j⟩;exact⟨λ_ D=>z<|D.mpr rfl,λ_=>by omega⟩
   ·rw[aD a];exact o.trans ⟨λD z=>D ⟨λp=>absurd (z.mp p) a,λp=>absurd p j⟩,λD z=>D ⟨λp=>absurd (z.mp p) j,λp=>absurd p a⟩⟩
 ·have:=Rk.hd;cases b<;>simpa using this
 ·have n:=Rk.nI d v;unfold k9;have j:d≠h:=λc=>by rw[c,e]at n;simp at n
  have a:d≠f:=λc=>by rw[<-c,n]at k;exact absurd k ↥0
  rw[aD j,aD a,n]
def fU.here(Rk:fU Q7 W b h N m g)(e:W h=[]):h=g:=by
 have o:=Rk.par h;rw[e]at o;exact MH λa=>absurd (o.mpr λD=>a<|D.mpr rfl) ↥0
def fU.C2(Rk:fU Q7 W b h N m g)(e:W h=[])(d i:ah):ce (N++[h]) d i=ce N d i+lk N g d i:=by
 have c:=Rk.here e;unfold lk;rcases oH N with rfl|⟨R,D,rfl⟩
 ·rfl
 ·rw[qN,a_];show ce (R++[D,h]) d i=_;rw[qk,yL,yB];show _=_+pr g D d i;rw[c,wd]
def fU.pop{a:List ah}{u:ah}(Rk:fU Q7 W (a++[u]) h N m g)(e:W h=[]):fU Q7 W a u (N++[h]) m u:=by
 have c:=Rk.here e;refine⟨Rk.sym,Rk.aV,λd i=>?_,λd=>?_,λz=>absurd z ↥0,?_,λd b=>?_,λ_=>?_⟩
 ·have n:=Rk.cnt d i;rw[a_]at n;have RJ:ce (a++[u,h]) d i=ce (a++[u]) d i+pr u h d i:=qk ..;have f:=Rk.C2 e d i;have j:lk (N++[h]) u d i=pr u h d i:=by
   unfold lk;rw[yL,yB];rfl
  have n:Q7 d i=(W d).count i+ce (a++[u,h]) d i+ce N d i+lk N g d i:=n;omega
 ·have o:=Rk.par d;rw[c]at o;exact o.trans ⟨λz=>absurd Iff.rfl z,λz=>absurd Iff.rfl z⟩
 ·have:=Rk.hd;cases a<;>simpa using this
 ·rcases dY.mp b with z|z
  ·exact Rk.nI d z
  ·rw[cV.mp z];exact e
 ·cases N with
  |nil=>rw[kU,C5,c,Rk.st rfl]
  |cons D N=>exact Rk.uT ↥0
inductive k2 (Q7:ah->ah->Nat) (m:ah):ah->Prop
 | self:k2 Q7 m m
 | step {d i:ah}:k2 Q7 m d->1<=Q7 d i->k2 Q7 m i
def fU.fin(Rk:fU Q7 W [] h N m g)(e:W h=[])(a:∀d i,1<=Q7 d i->k2 Q7 m d):(N++[h]).head?=Z m/\(N++[h]).getLast?=Z m/\∀d i,Q7 d i=ce (N++[h]) d i:=by
 have c:=Rk.here e;have Ra:h=m:=by have:=Rk.hd;simpa using this
 have nI:∀d∈N++[h],W d=[]:=λd b=>by
  rcases dY.mp b with z|z
  ·exact Rk.nI d z
  ·rw[cV.mp z];exact e
 have n:∀d i,Q7 d i=(W d).count i+ce (N++[h]) d i:=λd i=>by
  have RP:=Rk.cnt d i;have RJ:=Rk.C2 e d i;have j:ce ([]++[h]) d i=0:=rfl;omega
 have all:∀d,k2 Q7 m d->d∈N++[h]:=λd p=>by
  induction p with
  |self=>rw[Ra];simp
  |step p k f=>
   rename_i d i;have:=n d i;rw[nI d f]at this;exact (Oa (d:=d) (i:=i) (by simp at this;omega)).2
 refine⟨?_,?_,λd i=>?_⟩
 ·cases N with
  |nil=>rw[kU,C5,Ra]
  |cons D N=>exact Rk.uT ↥0
 ·rw[yL,yB,Ra];rfl
 ·have r:=n d i;by_cases z:1<=Q7 d i
  ·rw[nI d (all d<|a d i z)]at r;simpa using r
  ·omega
def fU.init(sym:∀d i,(W d).count i=(W i).count d)(aV:∀d,d∉W d)(ev:∀d,(W d).length%2=0):fU (λd i=>(W d).count i) W [] m [] m m:=
 ⟨sym,aV,λd i=>by show (W d).count i=(W d).count i+0+0+0;omega,λd=>⟨λe=>absurd e (by have:=ev d;omega),λe=>absurd Iff.rfl e⟩,λ_=>rfl,rfl,λd a=>absurd a ↥0,λe=>absurd rfl e⟩
end bY
namespace bY
variable{ah:Type}[DecidableEq ah]{Y:ah}
def dQ(Y:ah):List ah->List ah->List (List ah)
 |[],_=>[]
 |h::p,H=>if h=Y then H::dQ Y p [] else dQ Y p (H++[h])
theorem r0:∀{B H o:List ah},o∈dQ Y B H->∃I q,Y::(H++B)=I++(Y::(o++[Y]))++q
 |[],H,o,e=>absurd e (by simp[dQ])
 |h::p,H,o,e=>by
  rw[dQ]at e;by_cases c:h=Y
  ·rw[aB c]at e;rcases b9.mp e with rfl|e
   ·exact⟨[],p,by rw[c];simp⟩
   ·let⟨I,q,r⟩:=r0 e;exact⟨Y::H++I,q,by rw[c,kU] at *;rw[a_,a_,<-a_ I,<-r];simp⟩
  ·rw[aD c]at e;let⟨I,q,r⟩:=r0 e;exact⟨I,q,by rw[<-r];simp⟩
theorem r3:∀{B H o:List ah},Y∉H->o∈dQ Y B H->Y∉o
 |[],H,o,_,e=>absurd e (by simp[dQ])
 |h::p,H,o,b,e=>by
  rw[dQ]at e;by_cases c:h=Y
  ·rw[aB c]at e;rcases b9.mp e with rfl|e
   ·exact b
   ·exact r3 ↥0 e
  ·rw[aD c]at e;exact r3 (by rw[dY,cV];exact λa=>a.elim b λa=>c a.symm) e
theorem yw:∀(B H:List ah),(dQ Y B H).length=B.count Y
 |[],H=>rfl
 |h::p,H=>by
  rw[dQ];by_cases c:h=Y
  ·rw[aB c,dd,yw p,c,yU]
  ·rw[aD c,yw p,yW c]
def BW{g f d i:ah}(e:g=Y\/f=Y)(a:d≠Y)(b:i≠Y):pr g f d i=0:=by
 unfold pr;rw[aD];rintro (⟨k,l⟩|⟨k,l⟩)<;>rcases e with c|c
 ·exact a (k ▸ c)
 ·exact b (l ▸ c)
 ·exact b (k ▸ c)
 ·exact a (l ▸ c)
def DI{d i:ah}(a:d≠Y)(b:i≠Y)(H p:List ah):ce (H++Y::p) d i=ce H d i+ce p d i:=by
 rw[pD];have k:ce (H++[Y]) d i=ce H d i:=by
  rcases oH H with rfl|⟨c,D,rfl⟩
  ·rfl
  ·rw[qN,a_];show ce (c++[D,Y]) d i=_;rw[qk,BW (.inr rfl) a b,p1]
 have l:ce (Y::p) d i=ce p d i:=by
  cases p with
  |nil=>rfl
  |cons D p=>rw[ce,BW (.inl rfl) a b,lb]
 rw[k,l]
theorem wN{d i:ah}(a:d≠Y)(b:i≠Y):∀(B H:List ah),(B=[]->H=[])->(B≠[]->B.getLast?=Z Y)->((dQ Y B H).map λo=>ce o d i).sum=ce (H++B) d i
 |[],H,e,_=>by rw[e rfl];rfl
 |h::p,H,_,e=>by
  rw[dQ];have g:p≠[]->p.getLast?=Z Y:=λs=>by
   cases p with
   |nil=>exact absurd rfl s
   |cons u p=>simpa using e
  by_cases c:h=Y
  ·rw[aB c,bV,fN,wN a b p [] (λ_=>rfl) g,c,DI a b];rfl
  ·have j:p≠[]:=λf=>by rw[f]at e;exact c ⇑e
   rw[aD c,wN a b p (H++[h]) (λf=>absurd f j) g,a_];rfl
def co(Y:ah):List ah->Nat
 |g::f::p=>(if g=Y\/f=Y then 1 else 0)+co Y (f::p)
 |_=>0
theorem Dp:∀(g:ah) (C:List ah),(∀d,ce (g::C) d d=0)->co Y (g::C)+(if g=Y then 1 else 0)+(if (g::C).getLast?=Z Y then 1 else 0)=2*(g::C).count Y
 |g,[],_=>by
  show 0+(if g=Y then 1 else 0)+(if Z g=Z Y then 1 else 0)=2*[g].count Y;by_cases c:g=Y
  ·rw[aB c,aB (by rw[c]),c,uF]
  ·rw[aD c,aD λb=>c<|Option.some.inj b,yW c];rfl
 |g,f::p,e=>by
  have gi:g≠f:=λc=>by have:=e g;rw[ce,c,pG]at this;omega
  have h:=Dp f p λd=>by have:=e d;rw[ce]at this;omega
  rw[co,vM];by_cases c:g=Y
  ·have a:¬ f=Y:=λb=>gi (c.trans b.symm);rw[aB (.inl c),aB c,c,yU];rw[aD a]at h;omega
  ·rw[aD c,yW c];by_cases a:f=Y
   ·rw[aB (.inr a)];rw[aB a]at h;omega
   ·rw[aD λb=>b.elim c a];rw[aD a]at h;omega
theorem o7:∀{a:List ah}{f:ah},a.Nodup->f∈a->(a.map λi=>if f=i then 1 else 0).sum=1
 |[],f,_,e=>absurd e ↥0
 |h::a,f,ai,e=>by
  have ai:=e6.mp ai;rw[bV,fN];by_cases c:f=h
  ·have:(a.map λi=>if f=i then 1 else 0).sum=0:=by
    have all:∀C:List ah,f∉C->(C.map λi=>if f=i then 1 else 0).sum=0:=λC=>by
     induction C with
     |nil=>exact λ_=>rfl
     |cons u C g=>
      intro d;rw[bV,fN,aD<|show ¬ f=u from λb=>d<|b ▸ .head _,g λb=>d<|.tail _ b]
    exact all a (c ▸ ai.1)
   rw[aB c,this]
  ·rw[aD c,o7 ai.2<|(b9.mp e).resolve_left c,lb]
theorem sum_add{Ry:Type}(N L:Ry->Nat):∀C:List Ry,(C.map λi=>N i+L i).sum=(C.map N).sum+(C.map L).sum
 |[]=>rfl
 |g::C=>by rw[bV,bV,bV,fN,fN,fN,sum_add N L C];omega
theorem oZ{Ry:Type}:∀C:List Ry,(C.map λ_=>0).sum=0
 |[]=>rfl
 |g::C=>by rw[bV,fN,oZ C]
theorem zY{b:List ah}(ai:b.Nodup):∀(C:List ah),(∀d,ce C d d=0)->(∀d∈C,d∈b)->co Y C=(b.map λi=>ce C Y i).sum
 |[],_,_=>(oZ b).symm
 |[g],_,_=>(oZ b).symm
 |g::f::p,e,k=>by
  have gi:g≠f:=λc=>by have:=e g;rw[ce,c,pG]at this;omega
  have m:=zY ai (f::p) (λd=>by have:=e d;rw[ce]at this;omega) λd n=>k d (.tail _ n);have c:(b.map λi=>ce (g::f::p) Y i)=b.map λi=>pr g f Y i+ce (f::p) Y i:=g_ λi W=>by rw[ce]
  rw[co,m,c,sum_add];congr 1;by_cases h:g=Y
  ·have j:pr g f Y=λi=>if f=i then 1 else 0:=funext λi=>by
    unfold pr;by_cases a:f=i
    ·rw[aB (.inl ⟨h,a⟩),aB a]
    ·rw[aD,aD a];exact λr=>r.elim (λr=>a r.2) λr=>gi (h.trans r.2.symm)
   rw[aB (.inl h),j,o7 ai<|k f<|.tail _<|.head _]
  ·by_cases j:f=Y
   ·have l:pr g f Y=λi=>if g=i then 1 else 0:=funext λi=>by
     unfold pr;by_cases a:g=i
     ·rw[aB (.inr ⟨a,j⟩),aB a]
     ·rw[aD,aD a];exact λr=>r.elim (λr=>h r.1) λr=>a r.1
    rw[aB (.inr j),l,o7 ai<|k g<|.head _]
   ·have l:pr g f Y=λ_=>0:=funext λi=>by
     unfold pr;rw[aD];exact λr=>r.elim (λr=>h r.1) λr=>j r.2
    rw[aD λr=>r.elim h j,l,oZ]
theorem Ge{a:List ah}(ai:a.Nodup):∀(C:List ah),(∀d∈C,d∈a)->C.length=(a.map λi=>C.count i).sum
 |[],_=>(oZ a).symm
 |g::C,e=>by
  have c:(a.map λi=>(g::C).count i)=a.map λi=>C.count i+if g=i then 1 else 0:=g_ λi Y=>by
   rw[yv];by_cases b:g=i
   ·rw[aB ⇑b,aB b]
   ·rw[aD ⇑b,aD b]
  rw[c,sum_add,o7 ai<|e g<|.head _,<-Ge ai C λd f=>e d<|.tail _ f];rfl
def PD{a B:List ah}(ai:a.Nodup)(e:∀d∈Y::B,d∈a)(f:(Y::B).getLast?=Z Y)(b:∀d,ce (Y::B) d d=0){D:List ah}(g:∀i∈D,i∈a)(h:∀i,D.count i=ce (Y::B) Y i):2*(dQ Y B []).length=D.length:=by
 have RP:=Dp (Y:=Y) Y B b;rw[aB rfl,aB f,yU]at RP;have RJ:=zY (Y:=Y) ai (Y::B) b e;have c:=Ge ai D g;have j:(a.map λi=>D.count i)=a.map λi=>ce (Y::B) Y i:=g_ λi W=>h i;rw[j,<-RJ]at c;rw[yw,c];omega
end bY
variable{Ry:Sort _}{r:Prop}
def xE1{o:Ry->Prop}(e:∃g,o g)(n:∀g,o g->r):r:=have ⟨g,a⟩:=e;n g a
variable{RZ:Sort _}
def xE2{o:Ry->RZ->Prop}(e:∃g f,o g f)(n:∀g f,o g f->r):r:=have ⟨g,f,a⟩:=e;n g f a
variable{So:Sort _}
def xE3{o:Ry->RZ->So->Prop}(e:∃g f h,o g f h)(n:∀g f h,o g f h->r):r:=have ⟨g,f,h,a⟩:=e;n g f h a
variable{Sp:Sort _}
def xE4{o:Ry->RZ->So->Sp->Prop}(e:∃g f h u,o g f h u)(n:∀g f h u,o g f h u->r):r:=have ⟨g,f,h,u,a⟩:=e;n g f h u a
variable{Sq:Sort _}
def xE5{o:Ry->RZ->So->Sp->Sq->Prop}(e:∃g f h u c,o g f h u c)(n:∀g f h u c,o g f h u c->r):r:=have ⟨g,f,h,u,c,a⟩:=e;n g f h u c a
variable{Sr:Sort _}
def xE6{o:Ry->RZ->So->Sp->Sq->Sr->Prop}(e:∃g f h u c N,o g f h u c N)(n:∀g f h u c N,o g f h u c N->r):r:=have ⟨g,f,h,u,c,N,a⟩:=e;n g f h u c N a
def xE9{b:Sort _}{Rx:Sort _}{d:Sort _}{o:Ry->RZ->So->Sp->Sq->Sr->b->Rx->d->Prop}(e:∃g f h u c N L a v,o g f h u c N L a v)(n:∀g f h u c N L a v,o g f h u c N L a v->r):r:=have ⟨g,f,h,u,c,N,L,a,v,i⟩:=e;n g f h u c N L a v i
variable{g f:Prop}
def xA2(e:g/\f)(n:g->f->r):r:=n e.1 e.2
variable{h:Prop}
def xA3(e:g/\f/\h)(n:g->f->h->r):r:=n e.1 e.2.1 e.2.2
variable{u:Prop}
def xA4(e:g/\f/\h/\u)(n:g->f->h->u->r):r:=n e.1 e.2.1 e.2.2.1 e.2.2.2
variable{c:Prop}
def xA5(e:g/\f/\h/\u/\c)(n:g->f->h->u->c->r):r:=n e.1 e.2.1 e.2.2.1 e.2.2.2.1 e.2.2.2.2
variable{N:Prop}
def xA6(e:g/\f/\h/\u/\c/\N)(n:g->f->h->u->c->N->r):r:=n e.1 e.2.1 e.2.2.1 e.2.2.2.1 e.2.2.2.2.1 e.2.2.2.2.2
def xA8{L a:Prop}(e:g/\f/\h/\u/\c/\N/\L/\a)(n:g->f->h->u->c->N->L->a->r):r:=n e.1 e.2.1 e.2.2.1 e.2.2.2.1 e.2.2.2.2.1 e.2.2.2.2.2.1 e.2.2.2.2.2.2.1 e.2.2.2.2.2.2.2
set_option maxRecDepth 100000
namespace L2
open Spec PyProof.Rows
variable{Rp:f6}{R2 d:aC}{Rh e:a4}{aO:aC->Option af}{Rg RG:List aC}{RL:ko}{N:af->af->dy af}{b1 R8:List ar}{Sg:List cJ}{v s n a RF:Nat}{L:Int->Int->Int}{RD h c:a8}{Q:List a8}{R:Φ}{G:List (ar×a6)}{Rl:Pos}{m T:aq}{A Q7:af->aq->Prop}{O:bp}{D:bg}{Ri:bz}{I:af}{f g:ar}{Rv:List af}
inductive V where
 | aW|aG (f:Bool)|int (a:Int)|str (d:aC)|tup (E:List V)|fn (g:ar)|aT (E:List V)|fd
mutual
def V.beq:V->V->Bool
 |.aW,.aW=>ab
 |.aG g,.aG f=>g==f
 |.int a,.int v=>decide (a=v)
 |.str d,.str i=>decide (d=i)
 |.tup g,.tup f=>V.k5 g f
 |.fn g,.fn f=>decide (g=f)
 |.aT g,.aT f=>V.k5 g f
 |.fd,.fd=>ab
 |_,_=>ax
def V.k5:List V->List V->Bool
 |[],[]=>ab
 |g::p,f::B=>V.beq g f&&V.k5 p B
 |_,_=>ax
end
mutual
theorem V.beq_iff:∀g f:V,V.beq g f=ab↔g=f
 |.aW,f=>by cases f<;>simp[V.beq]
 |.aG g,f=>by cases f<;>simp[V.beq]
 |.int a,f=>by cases f<;>simp[V.beq]
 |.str d,f=>by cases f<;>simp[V.beq]
 |.tup d,f=>by
  cases f with
  |tup i=>rw[V.beq,V.xY d i];simp
  |_=>simp[V.beq]
 |.fn g,f=>by cases f<;>simp[V.beq]
 |.aT d,f=>by
  cases f with
  |aT i=>rw[V.beq,V.xY d i];simp
  |_=>simp[V.beq]
 |.fd,f=>by cases f<;>simp[V.beq]
theorem V.xY:∀g f:List V,V.k5 g f=ab↔g=f
 |[],f=>by cases f<;>simp[V.k5]
 |d::p,f=>by
  cases f with
  |nil=>simp[V.k5]
  |cons i B=>rw[V.k5,cF,V.beq_iff d i,V.xY p B];simp
end
noncomputable instance:DecidableEq V:=λg f=>decidable_of_iff (V.beq g f=ab) (V.beq_iff g f)
mutual
def c3(e:a4):V->af->Prop
 |.aW,q=>q=.none
 |.aG f,q=>q=.bool f
 |.int a,q=>∃B,q=.int a B
 |.str d,q=>∃B,q=.str d B
 |.fn g,q=>q=.ref g
 |.aT _,q=>∃g,q=.ref g
 |.fd,q=>∃g,q=.ref g
 |.tup E,q=>∃g Y Rm s,q=.ref g/\e.get? g=Z Y/\Y.cls=.type "tuple" /\ Y.data=.seq Rm s/\dr e E Rm.toList
def dr(e:a4):List V->List af->Prop
 |[],ae=>ae=[]
 |u::E,ae=>∃q p,ae=q::p/\c3 e u q/\dr e E p
end
mutual
def V.key:Nat->V->Bool
 |_,.int _=>ab
 |_,.str _=>ab
 |s+1,.tup E=>V.keys s E
 |_,_=>ax
def V.keys:Nat->List V->Bool
 |_,[]=>ab
 |s,u::E=>V.key s u&&V.keys s E
end
mutual
def tH(D:bg):V->Int
 |.int a=>hashInt a
 |.str d=>hashStr D d
 |.tup E=>yA (bq.Tuple.tupleHashOf<|hy D E)
 |_=>0
def hy(D:bg):List V->List Int
 |[]=>[]
 |u::E=>tH D u::hy D E
end
mutual
def sO:V->Nat
 |.tup E=>jm E+1
 |_=>1
def jm:List V->Nat
 |[]=>0
 |u::E=>sO u+jm E
end
theorem x4(D:bg):∀g f:List V,hy D (g++f)=hy D g++hy D f
 |[],f=>rfl
 |u::g,f=>by rw[mq,hy,hy,x4 D g f,mq]
theorem yH:∀g f:List V,jm (g++f)=jm g+jm f
 |[],f=>by simp[jm]
 |u::g,f=>by rw[mq,jm,jm,yH g f];lia
theorem BV{s:Nat}:∀{g f:List V},V.keys s (g++f)=ab->V.keys s f=ab
 |[],f,e=>e
 |u::g,f,e=>by rw[mq,V.keys,cF]at e;exact BV e.2
theorem dr.length{e:a4}:∀{E:List V}{ae:List af},dr e E ae->E.length=ae.length
 |[],ae,c=>by rw[show ae=[] from c];rfl
 |u::E,ae,c=>by
  let⟨q,@p,rfl,Y,c⟩:=c;rw[dd,dd,dr.length c]
def FE(e S:a4):Prop:=(∀g Y Rm s,e.get? g=Z Y->Y.cls=.type "tuple" -> Y.data=.seq Rm s->S.get? g=Z Y)
mutual
theorem c3.keep{e S:a4}(n:FE e S):∀{u:V}{q:af},c3 e u q->c3 S u q
 |.aW,_,c=>c
 |.aG _,_,c=>c
 |.int _,_,c=>c
 |.str _,_,c=>c
 |.fn _,_,c=>c
 |.aT _,_,c=>c
 |.fd,_,c=>c
 |.tup E,_,c=>by
  let⟨g,Y,Rm,@s,rfl,k,l,a,b⟩:=c;exact⟨g,Y,Rm,s,rfl,n g Y Rm s k l a,l,a,dr.keep n b⟩
theorem dr.keep{e S:a4}(n:FE e S):∀{E:List V}{ae:List af},dr e E ae->dr S E ae
 |[],_,c=>c
 |u::E,_,c=>by
  let⟨q,@p,rfl,k,l⟩:=c;exact⟨q,p,rfl,c3.keep n k,dr.keep n l⟩
end
theorem Ef{e:a4}:∀(s:Nat) {d i:V}{q:af},V.key s d=ab->V.key s i=ab->c3 e d q->c3 e i q->d=i
 |s,.int a,i,q,_,aY,h,b=>by
  let⟨@B,rfl⟩:=h;cases i with
  |int v=>let⟨@I,c⟩:=b;injection c with c;rw[c]
  |str m=>let⟨@I,c⟩:=b;cases c
  |tup E=>let⟨W,W,W,@W,c,W⟩:=b;cases c
  |_=>cases s<;>cases aY
 |s,.str m,i,q,_,aY,h,b=>by
  let⟨@B,rfl⟩:=h;cases i with
  |int v=>let⟨@I,c⟩:=b;cases c
  |str m=>let⟨@I,c⟩:=b;injection c with c;rw[c]
  |tup E=>let⟨W,W,W,@W,c,W⟩:=b;cases c
  |_=>cases s<;>cases aY
 |s+1,.tup E,i,q,t,aY,h,b=>by
  let⟨g,Y,Rm,@H,rfl,k,l,w,x⟩:=h;cases i with
  |int v=>let⟨@I,c⟩:=b;cases c
  |str m=>let⟨@I,c⟩:=b;cases c
  |tup Q=>
   let⟨F,M,G,@J,c,o,L,j,z⟩:=b;cases c;rw[k]at o;cases o;rw[w]at j;injection j with j _;subst j;have all:∀(E Q:List V) (ae:List af),V.keys s E=ab->V.keys s Q=ab->dr e E ae->dr e Q ae->E=Q:=by
    intro E;induction E with
    |nil=>
     intro Q ae W W g f;cases Q with
     |nil=>rfl
     |cons c Q=>let⟨W,@W,r,W⟩:=f;rw[show ae=[] from g]at r;cases r
    |cons u E A=>
     intro Q ae RP RJ g f;let⟨q,@p,rfl,C,D⟩:=g;cases Q with
     |nil=>cases (show q::p=[] from f)
     |cons c Q=>
      let⟨N,@RS,r,dp,dC⟩:=f;cases r;rw[V.keys,cF]at RP RJ;rw[Ef s RP.1 RJ.1 C dp,A Q p RP.2 RJ.2 D dC]
   rw[all E Q _ t aY x z]
  |_=>cases aY
 |_,.aW,_,_,n,_,_,_=>by cases ‹Nat›<;>cases n
 |_,.aG _,_,_,n,_,_,_=>by cases ‹Nat›<;>cases n
 |_,.fn _,_,_,n,_,_,_=>by cases ‹Nat›<;>cases n
 |_,.aT _,_,_,n,_,_,_=>by cases ‹Nat›<;>cases n
 |_,.fd,_,_,n,_,_,_=>by cases ‹Nat›<;>cases n
 |0,.tup _,_,_,n,_,_,_=>by cases n
section
variable{Q_:bz}{D:bg}
theorem Fc:∀(s:Nat) {O:bp}{Q7:af->aq->Prop}{m:aq}{u:V}{q:af}{A:Int->aq->Prop},V.key s u=ab->O.units+s<bJ->c3 m.heap u q->A (tH D u) {m with toks:=m.toks+sO u}->
  wpAny (aQ Q_ D) O (pyHash q) A Q7 m
 |s,O,Q7,m,.int a,q,A,_,_,b,e=>by
  let⟨@B,rfl⟩:=b;exact EM e
 |s,O,Q7,m,.str a,q,A,_,_,b,e=>by
  let⟨@B,rfl⟩:=b;exact z6 e
 |s+1,O,Q7,m,.tup E,q,A,n,v,b,e=>by
  let⟨g,Y,Rm,@H,rfl,o,t,hd,U⟩:=b;have h:m.TypeIs (.ref g) "tuple" := ⟨Y,o,t⟩;unfold pyHash;first|unfold pyHashByItsType|skip
  first|refine ay (wpAny_cRoomFor_or (.inr ⋯) ?_)|skip
  refine ay (mL h so.lookup ?_);show wpAny _ _ (if (Z (af.builtin "tuple.__hash__")==Z af.none)=ab then _ else _) A Q7 m;rw[aD (by rw[beq_builtin_none];exact c_)];refine ay (mL h so.lookup ?_);show wpAny _ _ (callSpecialIfBoundUnlessNone? (.ref g) "__hash__" _ >>= _) A Q7 m;refine ay (wpAny_callSpecialIfBoundUnlessNone?_slot h so<|i1 so h F.entry_tuple_hash ?_<|F.args_tuple_hash_1 _);show wpAny _ _ (bq.Tuple.tupleItemsOf (.ref g) >>= _) _ _ m;refine ay (wpAny_tupleItemsOf o hd ?_);refine ay ?_;rw[<-Ah];refine qs _
   (λd1 (f:Array Int) T=>∃done left,E=done++left/\dr m.heap left d1/\f.toList=hy D done/\T={m with toks:=m.toks+jm done})
   _ ?_ ?_ _ _ ⟨[],E,rfl,U,rfl,rfl⟩
  ·rintro d d1 f T ⟨done,left,rfl,i,j,rfl⟩;cases left with
   |nil=>cases (show d::d1=[] from i)
   |cons u left=>
    let⟨q,@p,c,k,r⟩:=i;cases c;have RJ:=BV (g:=done) (show V.keys s (done++u::left)=ab from n);rw[V.keys,cF]at RJ;refine ay (Fc s RJ.1 (by show O.units+1+s<bJ;lia) k ?_);first
     | exact a3 ⟨done++[u],left,by simp,r,by simp[j,x4,hy],by simp[yH,jm,nX]⟩
     | exact ay (a3 (a3 ⟨done++[u],left,by simp,r,by simp[j,x4,hy],by simp[yH,jm,nX]⟩))
  ·rintro f T ⟨done,left,rfl,i,j,rfl⟩;cases left with
   |cons u left=>let⟨W,@W,c,W⟩:=i;cases c
   |nil=>
   rw[b5]at e;show wpAny _ _ (retInt<|bq.Tuple.tupleHashOf f.toList) _ _ _;rw[j];refine wpAny_ret_mkInt ?_;show wpAny _ _ (if (decide (-(2:Int)^63<=bq.Tuple.tupleHashOf (hy D done))&&decide (bq.Tuple.tupleHashOf (hy D done)<2^63))=ab then _ else _) A Q7 _;rw[tH,sO]at e;unfold yA at e;by_cases l:(decide (-(2:Int)^63<=bq.Tuple.tupleHashOf (hy D done))&&decide (bq.Tuple.tupleHashOf (hy D done)<2^63))=ab
   ·rw[aB l];rw[aB l]at e;exact a3 (by simpa [nX] using e)
   ·rw[aD l];rw[aD l]at e;exact ay (ir (a3 (by simpa [nX] using e)))
 |_,_,_,_,.aW,_,_,n,_,_,_=>by cases ‹Nat›<;>cases n
 |_,_,_,_,.aG _,_,_,n,_,_,_=>by cases ‹Nat›<;>cases n
 |_,_,_,_,.fn _,_,_,n,_,_,_=>by cases ‹Nat›<;>cases n
 |_,_,_,_,.aT _,_,_,n,_,_,_=>by cases ‹Nat›<;>cases n
 |_,_,_,_,.fd,_,_,n,_,_,_=>by cases ‹Nat›<;>cases n
 |0,_,_,_,.tup _,_,_,n,_,_,_=>by cases n
mutual
def bU:V->V->Bool
 |.aW,.aW=>ab
 |.aG g,.aG f=>g==f
 |.aG g,.int v=>(if g then 1 else 0)==v
 |.int a,.aG f=>a==(if f then 1 else 0)
 |.int a,.int v=>a==v
 |.str d,.str i=>d==i
 |.tup g,.tup f=>dU g f
 |_,_=>ax
def dU:List V->List V->Bool
 |[],[]=>ab
 |g::p,f::B=>bU g f&&dU p B
 |_,_=>ax
end
mutual
def V.bw:Nat->V->Bool
 |_,.aW=>ab
 |_,.aG _=>ab
 |_,.int _=>ab
 |_,.str _=>ab
 |s+1,.tup E=>V.ct s E
 |_,_=>ax
def V.ct:Nat->List V->Bool
 |_,[]=>ab
 |s,u::E=>V.bw s u&&V.ct s E
end
theorem jf{s:Nat}:∀{E:List V}{v:Nat}{u:V},V.ct s E=ab->E[v]?=Z u->V.bw s u=ab
 |[],v,u,_,e=>by simp at e
 |c::E,0,u,n,e=>by
  rw[V.ct,cF]at n;simp at e;subst e;exact n.1
 |c::E,v+1,u,n,e=>by
  rw[V.ct,cF]at n;exact jf n.2 ⇑e
theorem dr.get{e:a4}:∀{E:List V}{ae:List af}{v:Nat}{q:af},dr e E ae->ae[v]?=Z q->∃u,E[v]?=Z u/\c3 e u q
 |[],ae,v,q,g,c=>by rw[show ae=[] from g]at c;simp at c
 |u::E,ae,0,q,g,c=>by
  let⟨I,@p,rfl,a,b⟩:=g;simp at c;subst c;exact⟨u,rfl,a⟩
 |u::E,ae,v+1,q,g,c=>by
  let⟨I,@p,rfl,a,b⟩:=g;let⟨@d,k,l⟩:=dr.get (v:=v) b ⇑c;exact⟨d,by simpa using k,l⟩
theorem BR{e:a4}:∀(s:Nat) {d i:V}{q:af},V.bw s d=ab->V.bw s i=ab->c3 e d q->c3 e i q->bU d i=ab
 |s,.aW,i,q,_,aY,j,b=>by
  cases (show q=.none from j);cases i with
  |aW=>rfl
  |aG f=>cases b
  |int v=>let⟨@I,c⟩:=b;cases c
  |str m=>let⟨@I,c⟩:=b;cases c
  |tup E=>let⟨W,W,W,@W,c,W⟩:=b;cases c
  |fn g=>cases s<;>cases aY
  |aT g=>cases s<;>cases aY
  |fd=>cases s<;>cases aY
 |s,.aG f,i,q,_,aY,j,b=>by
  cases (show q=.bool f from j);cases i with
  |aW=>cases b
  |aG h=>cases b;simp[bU]
  |int v=>let⟨@I,c⟩:=b;cases c
  |str m=>let⟨@I,c⟩:=b;cases c
  |tup E=>let⟨W,W,W,@W,c,W⟩:=b;cases c
  |fn g=>cases s<;>cases aY
  |aT g=>cases s<;>cases aY
  |fd=>cases s<;>cases aY
 |s,.int a,i,q,_,aY,j,b=>by
  let⟨@B,rfl⟩:=j;cases i with
  |aW=>cases b
  |aG h=>cases b
  |int v=>let⟨@I,c⟩:=b;cases c;simp[bU]
  |str m=>let⟨@I,c⟩:=b;cases c
  |tup E=>let⟨W,W,W,@W,c,W⟩:=b;cases c
  |fn g=>cases s<;>cases aY
  |aT g=>cases s<;>cases aY
  |fd=>cases s<;>cases aY
 |s,.str a,i,q,_,aY,j,b=>by
  let⟨@B,rfl⟩:=j;cases i with
  |aW=>cases b
  |aG h=>cases b
  |int v=>let⟨@I,c⟩:=b;cases c
  |str m=>let⟨@I,c⟩:=b;cases c;simp[bU]
  |tup E=>let⟨W,W,W,@W,c,W⟩:=b;cases c
  |fn g=>cases s<;>cases aY
  |aT g=>cases s<;>cases aY
  |fd=>cases s<;>cases aY
 |s+1,.tup E,i,q,w,aY,j,b=>by
  let⟨g,Y,Rm,@H,rfl,k,l,x,y⟩:=j;cases i with
  |aW=>cases b
  |aG h=>cases b
  |int v=>let⟨@I,c⟩:=b;cases c
  |str m=>let⟨@I,c⟩:=b;cases c
  |fn g=>cases aY
  |aT g=>cases aY
  |fd=>cases aY
  |tup Q=>
   let⟨F,M,G,@J,c,t,L,o,z⟩:=b;cases c;rw[k]at t;cases t;rw[x]at o;injection o with o _;subst o;have all:∀(E Q:List V) (ae:List af),V.ct s E=ab->V.ct s Q=ab->dr e E ae->dr e Q ae->dU E Q=ab:=by
    intro E;induction E with
    |nil=>
     intro Q ae W W g f;cases Q with
     |nil=>rfl
     |cons c Q=>let⟨W,@W,r,W⟩:=f;rw[show ae=[] from g]at r;cases r
    |cons u E A=>
     intro Q ae RP RJ g f;let⟨q,@p,rfl,C,D⟩:=g;cases Q with
     |nil=>cases (show q::p=[] from f)
     |cons c Q=>
      let⟨N,@RS,r,dp,dC⟩:=f;cases r;rw[V.ct,cF]at RP RJ;rw[dU,BR s RP.1 RJ.1 C dp,A Q p RP.2 RJ.2 D dC];rfl
   rw[bU];exact all E Q _ w aY y z
 |s,.fn _,_,_,n,_,_,_=>by cases s<;>cases n
 |s,.aT _,_,_,n,_,_,_=>by cases s<;>cases n
 |s,.fd,_,_,n,_,_,_=>by cases s<;>cases n
 |0,.tup _,_,_,n,_,_,_=>by cases n
def qS{c:Nat->Bool}:∀{E Q:List V},(∀(v:Nat) (d i:V),E[v]?=Z d->Q[v]?=Z i->c v=bU d i)->((range<|min E.length Q.length).all c&&E.length==Q.length)=dU E Q:=by
 have y:∀(E Q:List V) (N:Nat->Bool),(∀(v:Nat) (d i:V),E[v]?=Z d->Q[v]?=Z i->N v=bU d i)->((range<|min E.length Q.length).all N&&E.length==Q.length)=dU E Q:=by
  intro E;induction E with
  |nil=>intro Q N Y;cases Q<;>simp[dU]
  |cons u E a=>
   intro Q N e;cases Q with
   |nil=>simp[dU]
   |cons h Q=>
    have:=a Q (λv=>N<|v+1) λv d i g f=>e (v+1) d i ⇑g ⇑f;rw[dU,<-this,<-e 0 u h rfl rfl];rw[dd,dd,show min (E.length+1) (Q.length+1)=min E.length Q.length+1 by lia,List.range_succ_eq_map,List.all_cons,xy,Bool.and_assoc];congr 2;rw[o2];simp
 exact λ{E Q} e=>y E Q c e
theorem gW{m:aq}:∀(s:Nat) {O:bp}{d i:V}{I q:af},V.bw s d=ab->V.bw s i=ab->O.units+s+1<bJ->c3 m.heap d I->c3 m.heap i q->SeqAt.EqAt O m I q (bU d i)
 |s,O,.aW,i,I,q,_,aY,t,j,b=>by
  cases (show I=.none from j);cases i with
  |aW=>cases (show q=.none from b);exact SeqAt.EqAt.same _
  |aG f=>cases (show q=.bool f from b);exact LM f
  |int v=>let⟨@B,rfl⟩:=b;exact J3 v B
  |str o=>let⟨@B,rfl⟩:=b;exact Pc o B
  |tup E=>let⟨g,Y,Rm,@H,rfl,k,l,p,W⟩:=b;exact Hx ⟨Y,k,l,H,p⟩ ⋯
  |fn g=>cases s<;>cases aY
  |aT g=>cases s<;>cases aY
  |fd=>cases s<;>cases aY
 |s,O,.aG f,i,I,q,_,aY,t,j,b=>by
  cases (show I=.bool f from j);cases i with
  |aW=>cases (show q=.none from b);exact Pz f
  |aG h=>cases (show q=.bool h from b);exact Im f h
  |int v=>let⟨@B,rfl⟩:=b;exact Nc f v B
  |str o=>let⟨@B,rfl⟩:=b;exact Om f o B
  |tup E=>let⟨g,Y,Rm,@H,rfl,k,l,p,W⟩:=b;exact Qi f ⟨Y,k,l,H,p⟩ ⋯
  |fn g=>cases s<;>cases aY
  |aT g=>cases s<;>cases aY
  |fd=>cases s<;>cases aY
 |s,O,.int a,i,I,q,_,aY,t,j,b=>by
  let⟨@e,rfl⟩:=j;cases i with
  |aW=>cases (show q=.none from b);exact Qo a e
  |aG h=>cases (show q=.bool h from b);exact HZ a e h
  |int v=>let⟨@B,rfl⟩:=b;exact I4 a e v B
  |str o=>let⟨@B,rfl⟩:=b;exact CP a e o B
  |tup E=>let⟨g,Y,Rm,@H,rfl,k,l,p,W⟩:=b;exact MZ a e ⟨Y,k,l,H,p⟩ ⋯
  |fn g=>cases s<;>cases aY
  |aT g=>cases s<;>cases aY
  |fd=>cases s<;>cases aY
 |s,O,.str a,i,I,q,_,aY,t,j,b=>by
  let⟨@e,rfl⟩:=j;cases i with
  |aW=>cases (show q=.none from b);exact GD a e
  |aG h=>cases (show q=.bool h from b);exact JY a e h
  |int v=>let⟨@B,rfl⟩:=b;exact Fj a e v B
  |str o=>let⟨@B,rfl⟩:=b;exact LO a e o B
  |tup E=>let⟨g,Y,Rm,@H,rfl,k,l,p,W⟩:=b;exact La a e ⟨Y,k,l,H,p⟩ ⋯
  |fn g=>cases s<;>cases aY
  |aT g=>cases s<;>cases aY
  |fd=>cases s<;>cases aY
 |s+1,O,.tup E,i,I,q,w,aY,t,j,b=>by
  have G:=j;let⟨g,Y,Rm,@H,rfl,k,l,p,x⟩:=j;have z:m.heap.IsTuple g Rm:=⟨Y,k,l,H,p⟩;cases i with
  |aW=>cases (show q=.none from b);exact HY z ⋯
  |aG h=>cases (show q=.bool h from b);exact NQ h z ⋯
  |int v=>let⟨@B,rfl⟩:=b;exact M3 v B z ⋯
  |str o=>let⟨@B,rfl⟩:=b;exact OD o B z ⋯
  |fn g=>cases aY
  |aT g=>cases aY
  |fd=>cases aY
  |tup Q=>
   have J:=b;let⟨f,M,u,@L,rfl,N,P,R,y⟩:=b;by_cases c:g=f
   ·subst c;rw[BR (s+1) w aY G J];exact SeqAt.EqAt.same _
   ·have R5:m.heap.IsTuple f u:=⟨M,N,P,L,R⟩;have A:=x.length;have C:=y.length;have S:Rm.toList.length=Rm.size:=by simp
    have T:u.toList.length=u.size:=by simp
    rw[S]at A;rw[T]at C;have r:=GI (A:=O) c (Cf (e:=λv=>bU (E.getD v .aW)<|Q.getD v .aW) z R5 ⋯ λv U al=>by
     let⟨@RO,D,am⟩:=x.get (v:=v) (q:=Rm[v]) (by rw[gq];simp[U]);let⟨@RQ,F,an⟩:=y.get (v:=v) (q:=u[v]) (by rw[gq];simp[al]);rw[cD,D,cD,F];exact gW s (jf w D) (jf aY F) (by show O.units+1+s+1<bJ;lia) am an)
    rw[<-A,<-C,qS (E:=E) (Q:=Q) (λv d i g f=>by rw[cD,g,cD,f];rfl)]at r;rw[bU];exact r
 |s,O,.fn _,_,_,_,n,_,_,_,_=>by cases s<;>cases n
 |s,O,.aT _,_,_,_,n,_,_,_,_=>by cases s<;>cases n
 |s,O,.fd,_,_,_,n,_,_,_,_=>by cases s<;>cases n
 |0,O,.tup _,_,_,_,n,_,_,_,_=>by cases n
mutual
theorem x2:∀{s:Nat}{u:V},V.key s u=ab->V.bw s u=ab
 |s,.int _,_=>by cases s<;>rfl
 |s,.str _,_=>by cases s<;>rfl
 |s+1,.tup E,e=>by rw[V.key]at e;rw[V.bw];exact D0 e
 |0,.tup _,e=>by cases e
 |s,.aW,e=>by cases s<;>cases e
 |s,.aG _,e=>by cases s<;>cases e
 |s,.fn _,e=>by cases s<;>cases e
 |s,.aT _,e=>by cases s<;>cases e
 |s,.fd,e=>by cases s<;>cases e
theorem D0:∀{s:Nat}{E:List V},V.keys s E=ab->V.ct s E=ab
 |s,[],_=>by rw[V.ct]
 |s,u::E,e=>by rw[V.keys,cF]at e;rw[V.ct,x2 e.1,D0 e.2];rfl
end
mutual
theorem Fs:∀{s:Nat}{d i:V},V.key s d=ab->V.key s i=ab->bU d i=decide (d=i)
 |s,.int a,i,_,b=>by
  cases i with
  |int v=>rw[bU];by_cases c:a=v<;>simp[c]
  |str f=>simp[bU]
  |tup f=>simp[bU]
  |_=>cases s<;>cases b
 |s,.str a,i,_,b=>by
  cases i with
  |int v=>simp[bU]
  |str f=>rw[bU];by_cases c:a=f<;>simp[c]
  |tup f=>simp[bU]
  |_=>cases s<;>cases b
 |s+1,.tup E,i,g,b=>by
  cases i with
  |int v=>simp[bU]
  |str f=>simp[bU]
  |tup Q=>
   rw[V.key]at g b;rw[bU,FV g b];simp
  |_=>cases b
 |0,.tup _,_,e,_=>by cases e
 |s,.aW,_,e,_=>by cases s<;>cases e
 |s,.aG _,_,e,_=>by cases s<;>cases e
 |s,.fn _,_,e,_=>by cases s<;>cases e
 |s,.aT _,_,e,_=>by cases s<;>cases e
 |s,.fd,_,e,_=>by cases s<;>cases e
theorem FV:∀{s:Nat}{d i:List V},V.keys s d=ab->V.keys s i=ab->dU d i=decide (d=i)
 |s,[],i,_,_=>by cases i<;>simp[dU]
 |s,u::E,[],_,_=>by simp[dU]
 |s,u::E,c::Q,a,b=>by
  rw[V.keys,cF]at a b;rw[dU,Fs a.1 b.1,FV a.2 b.2];by_cases k:u=c<;>by_cases l:E=Q<;>simp[k,l]
end
theorem Ga:∀(s:Nat) {O:bp}{Q7:af->aq->Prop}{m:aq}{u:V}{q:af}{A:Bool->aq->Prop},V.key s u=ab->c3 m.heap u q->A ab m->wpAny (aQ Q_ D) O (eqIsQuiet s q) A Q7 m
 |s,O,Q7,m,.int a,q,A,_,b,e=>by
  let⟨@B,rfl⟩:=b;rw[Bt s rfl];exact a3 e
 |s,O,Q7,m,.str a,q,A,_,b,e=>by
  let⟨@B,rfl⟩:=b;rw[Bt s rfl];exact a3 e
 |s+1,O,Q7,m,.tup E,q,A,n,b,e=>by
  let⟨g,Y,Rm,@H,rfl,h,l,hd,U⟩:=b;have i:m.TypeIs (.ref g) "tuple" := ⟨Y,h,l⟩;unfold eqIsQuiet;refine ay (mL i F.slot_tuple_eq.lookup ?_);show wpAny _ _ (isInstance (.ref g) (.type "tuple") >>= _) _ _ m;refine ay (rI i isSubtype_tuple_tuple ?_);simp only[uL,ij,eL];refine ay (h3 h hd ?_);refine ay ?_;show wpAny _ _ (forIn Rm _ _) _ _ m;rw[<-Ah];rw[V.key]at n;refine qs _ (λd1 p T=>p.1=X/\T=m/\∃left,V.keys s left=ab/\dr m.heap left d1) _ ?_ ?_ _ _ ⟨rfl,rfl,E,n,U⟩
  ·rintro q d1 p T ⟨d,rfl,left,f,j⟩;cases left with
   |nil=>cases (show q::d1=[] from j)
   |cons u left=>
    let⟨r,@RS,c,k,o⟩:=j;cases c;rw[V.keys,cF]at f;refine ay (Ga s f.1 k ?_);simp only[uL,ij,eL];exact a3 ⟨rfl,rfl,left,f.2,o⟩
  ·rintro⟨t,v⟩ T ⟨d,rfl,W⟩;simp only at d;subst d;exact a3 e
 |_,_,_,_,.aW,_,_,n,_,_=>by cases ‹Nat›<;>cases n
 |_,_,_,_,.aG _,_,_,n,_,_=>by cases ‹Nat›<;>cases n
 |_,_,_,_,.fn _,_,_,n,_,_=>by cases ‹Nat›<;>cases n
 |_,_,_,_,.aT _,_,_,n,_,_=>by cases ‹Nat›<;>cases n
 |_,_,_,_,.fd,_,_,n,_,_=>by cases ‹Nat›<;>cases n
 |0,_,_,_,.tup _,_,_,n,_,_=>by cases n
def hO(Q_:bz)(D:bg):HeapKind Q_ D (List V) where
 is:=λe E g=>V.keys 7 E=ab/\c3 e (.tup E) (.ref g)
 hash:=λE=>tH D (.tup E)
 draws:=λE=>sO (.tup E)
 room:=λO=>O.units+10<bJ
 inj:=λa b=>by
  have:=Ef 8 (d:=.tup _) (i:=.tup _) a.1 b.1 a.2 b.2;injection this
 keeps:=λ{e S n g u Y Q RU} d l hd o=>⟨d.1,d.2.keep λf I Rm s h q k=>by
  have p:f≠u:=by
   rintro rfl;rw[l]at h;cases h;rw[hd]at k;cases k
  exact (o.2 f p).trans h⟩
 pyHash:=λj c e=>Fc 8 (u:=.tup _) c.1 (show _<_ by have:_+10<bJ:=j;lia) c.2 e
 eqBool:=λ{O Q7 m d i g f A} j a b e=>by
  have r:=gW (m:=m) 8 (O:=O) (d:=.tup d) (i:=.tup i) (x2 (s:=8) (u:=.tup d) a.1) (x2 (s:=8) (u:=.tup i) b.1) (show _<_ by have:O.units+10<bJ:=j;lia) a.2 b.2;rw[Fs (s:=8) (d:=.tup d) (i:=.tup i) a.1 b.1]at r;exact r _ _ Q7 A ⇑e
 quiet:=λc e=>Ga 8 (u:=.tup _) c.1 c.2 e
end
abbrev d6:=Sum Int aC
def nH:d6->af->Bool
 |.inl n,q=>af.isInt n q
 |.inr d,q=>af.isStrOf d q
def P_(D:bg):d6->Int
 |.inl n=>hashInt n
 |.inr d=>hashStr D d
theorem k0:∀{n:d6}{q:af},nH n q=ab->(∃a B,n=Sum.inl a/\q=af.int a B)\/(∃d B,n=Sum.inr d/\q=af.str d B)
 |.inl a,q,e=>by
  let⟨@B,c⟩:=af.isInt_shape (k:=a) (v:=q) e;exact .inl ⟨a,B,rfl,c⟩
 |.inr d,q,e=>by
  let⟨@B,c⟩:=af.isStrOf_shape (x:=d) (v:=q) e;exact .inr ⟨d,B,rfl,c⟩
def Ii(a:Int)(B:hU):nH (.inl a) (.int a B)=ab:=by simp[nH,af.isInt]
def Jw(d:aC)(B:hU):nH (.inr d) (.str d B)=ab:=by simp[nH,af.isStrOf]
def IH(g f:Int):decide ((Sum.inl g:d6)=Sum.inl f)=(g==f):=by
 by_cases c:g=f
 ·subst c;simp
 ·have e:¬ (Sum.inl g:d6)=Sum.inl f:=λr=>c (Sum.inl.inj r);rw[dv e];exact (wL.mpr c).symm
def LU(g f:aC):decide ((Sum.inr g:d6)=Sum.inr f)=decide (g=f):=by
 by_cases c:g=f
 ·subst c;simp
 ·have e:¬ (Sum.inr g:d6)=Sum.inr f:=λr=>c (Sum.inr.inj r);rw[dv e,dv c]
def JJ(g:Int)(f:aC):decide ((Sum.inl g:d6)=Sum.inr f)=ax:=dv (λr=>nomatch r)
def IE(g:aC)(f:Int):decide ((Sum.inr g:d6)=Sum.inl f)=ax:=dv (λr=>nomatch r)
def lL(Q_:bz)(D:bg):PySem.KeyKind Q_ D d6 where
 is:=nH
 hash:=P_ D
 inj:=λq g f k j=>by
  rcases k0 k with ⟨a,B,rfl,rfl⟩|⟨d,B,rfl,rfl⟩
  ·rcases k0 j with ⟨v,I,rfl,c⟩|⟨i,I,rfl,c⟩
   ·injection c with b _;rw[b]
   ·exact nomatch c
  ·rcases k0 j with ⟨v,I,rfl,c⟩|⟨i,I,rfl,c⟩
   ·exact nomatch c
   ·injection c with b _;rw[b]
 byValue:=λn q e=>by
  rcases k0 e with ⟨a,B,rfl,rfl⟩|⟨d,B,rfl,rfl⟩<;>rfl
 pyHash:=λh e=>by
  rcases k0 h with ⟨a,B,rfl,rfl⟩|⟨d,B,rfl,rfl⟩
  ·exact EM e
  ·exact z6 e
 eqBool:=λl h e=>by
  rcases k0 l with ⟨a,B,rfl,rfl⟩|⟨d,B,rfl,rfl⟩
  ·rcases k0 h with ⟨v,I,rfl,rfl⟩|⟨i,I,rfl,rfl⟩
   ·rw[IH]at e;exact wpAny_eqBool_int e
   ·rw[JJ]at e;exact CP a B i I _ _ _ _ e
  ·rcases k0 h with ⟨v,I,rfl,rfl⟩|⟨i,I,rfl,rfl⟩
   ·rw[IE]at e;exact Fj d B v I _ _ _ _ e
   ·rw[LU]at e;exact wpAny_eqBool_str e
 «strs»:=λn d B q e=>by
  rcases k0 e with ⟨a,I,rfl,c⟩|⟨i,I,rfl,c⟩
  ·exact nomatch c
  ·injection c with b _;subst b;cases q<;>rfl
def Ln(Q_:bz)(D:bg)(a:Int)(B:hU):(lL Q_ D).is (.inl a) (.int a B)=ab:=Ii a B
def IA(Q_:bz)(D:bg)(d:aC)(B:hU):(lL Q_ D).is (.inr d) (.str d B)=ab:=Jw d B
inductive ah where
 | aW|aG (f:Bool)|int (a:Int)|str (d:aC)|p_ (f:Array UInt8)|wq (f:UInt64)|ref (g:ar)|ty (s:String)
 deriving DecidableEq
variable{ae x:List ah}{i q:ah}
def bW:ah->af->Prop
 |.aW,I=>I=af.none
 |.aG f,I=>I=af.bool f
 |.int a,I=>∃B,I=af.int a B
 |.str d,I=>∃B,I=af.str d B
 |.p_ f,I=>∃B,I=af.bytes f B
 |.wq f,I=>∃B,I=af.float f B
 |.ref g,I=>I=af.ref g
 |.ty s,I=>I=af.type s
abbrev bN:List ah->List af->Prop:=d3 bW
def bN.length(p:bN x Rv):x.length=Rv.length:=d3.length p
theorem bN.get:∀{x:List ah}{Rv:List af}{a:Nat}{d:ah},bN x Rv->x[a]?=Z d->∃I,Rv[a]?=Z I/\bW d I
 |_,_,_,_,.nil,c=>by simp at c
 |_,_,0,_,.cons p _,c=>by simp at c;subst c;exact⟨_,rfl,p⟩
 |_,_,a+1,d,.cons _ B,c=>by
  let⟨@I,k,l⟩:=bN.get (a:=a) (d:=d) B ⇑c;exact⟨I,by simpa using k,l⟩
theorem bN.set{d:ah}{I:af}(p:bW d I):∀{x:List ah}{Rv:List af} (a:Nat),bN x Rv->bN (x.set a d) (Rv.set a I)
 |_,_,_,.nil=>.nil
 |_,_,0,.cons _ B=>.cons p B
 |_,_,a+1,.cons r B=>.cons r (bN.set p a B)
theorem bN.append:∀{x Rj:List ah}{Rv t:List af},bN x Rv->bN Rj t->bN (x++Rj) (Rv++t)
 |_,_,_,_,.nil,m=>m
 |_,_,_,_,.cons p B,m=>.cons p (bN.append B m)
theorem bN.take:∀{x:List ah}{Rv:List af} (s:Nat),bN x Rv->bN (x.take s) (Rv.take s)
 |_,_,0,_=>.nil
 |_,_,_+1,.nil=>.nil
 |_,_,s+1,.cons p B=>.cons p (bN.take s B)
theorem bN.drop:∀{x:List ah}{Rv:List af} (s:Nat),bN x Rv->bN (x.drop s) (Rv.drop s)
 |_,_,0,p=>p
 |_,_,_+1,.nil=>.nil
 |_,_,s+1,.cons _ B=>bN.drop s B
def kp:Option ah->Option af->Prop
 |some q,Z I=>bW q I
 |none,X=>True
 |_,_=>False
def fa{Rx:Type}:List (Rx×ah)->List (Rx×af)->Prop:=(d3 λ(o:Rx×ah) (r:Rx×af)=>o.1=r.1/\bW o.2 r.2)
def cz:d6->ah
 |.inl a=>.int a
 |.inr d=>.str d
inductive fo where
 | lst (x:List ah)
 | tup (x:List ah)
 | dh (Rd:List (d6×ah))|aS (Rd:List (List V×ah))
 | set (Rk:Int->Bool) (s:Nat)
 | ins (aP y:ar) (aa:List (aC×ah))
 | own (d:ar)
 | yP (aa:List (aC×ah))
 | met (N d:ar)
 | xc (M U:Int)
 | dx (Y:a6) (I:fo)
 | nD (Rg:Array af)
 | ext (QH:a4->Prop)
variable{Y:fo}
abbrev aw:=ar->Option fo
variable{F j:aw}
def upd(j:aw)(g:ar)(Y:fo):aw:=(λf=>if f=g then Z Y else j f)
def ec:upd j g Y g=Z Y:=by unfold upd;rw[aB rfl]
def cR(e:f≠g):upd j g Y f=j f:=by unfold upd;rw[aD e]
def CU{I:fo}(e:j g=Z Y)(S:j f=Z I)(u:Y≠I):g≠f:=by
 intro c;subst c;rw[e]at S;exact u (Option.some.inj S)
def gP(e:j g=Z Y)(S:j f=X):g≠f:=by
 intro c;subst c;rw[e]at S;cases S
mutual
def cg(j:aw):V->ah->Prop
 |.aW,q=>q=.aW
 |.aG f,q=>q=.aG f
 |.int a,q=>q=.int a
 |.str d,q=>q=.str d
 |.fn g,q=>q=.ref g
 |.aT E,q=>∃g x Y,q=.ref g/\j g=Z (.dx Y<|.lst x)/\bA j E x
 |.fd,q=>∃g Y,q=.ref g/\j g=Z (.dx Y<|.aS [])
 |.tup E,q=>∃g x,q=.ref g/\j g=Z (.tup x)/\bA j E x
def bA(j:aw):List V->List ah->Prop
 |[],ae=>ae=[]
 |u::E,ae=>∃q p,ae=q::p/\cg j u q/\bA j E p
end
def pj(j F:aw):Prop:=(∀g x,j g=Z (.tup x)->F g=Z (.tup x))
structure o9(j F:aw):Prop where
 t:pj j F
 z:∀g Y I,j g=Z (.dx Y I)->F g=Z (.dx Y I)
noncomputable instance {j F:aw}:CoeFun (o9 j F) (λ_=>∀g x,j g=Z (.tup x)->F g=Z (.tup x)):=⟨λB=>B.t⟩
mutual
theorem cg.mono{j F:aw}(n:o9 j F):∀{u:V}{q:ah},cg j u q->cg F u q
 |.aW,_,c=>c
 |.aG _,_,c=>c
 |.int _,_,c=>c
 |.str _,_,c=>c
 |.fn _,_,c=>c
 |.tup E,_,c=>by
  let⟨g,@x,rfl,k,l⟩:=c;exact⟨g,x,rfl,n.t g x k,bA.mono n l⟩
 |.aT E,_,c=>by
  let⟨g,x,@Y,rfl,k,l⟩:=c;exact⟨g,x,Y,rfl,n.z g _ _ k,bA.mono n l⟩
 |.fd,_,c=>by
  let⟨g,@Y,rfl,k⟩:=c;exact⟨g,Y,rfl,n.z g _ _ k⟩
theorem bA.mono{j F:aw}(n:o9 j F):∀{E:List V}{ae:List ah},bA j E ae->bA F E ae
 |[],_,c=>c
 |u::E,_,c=>by
  let⟨q,@p,rfl,k,l⟩:=c;exact⟨q,p,rfl,cg.mono n k,bA.mono n l⟩
end
def g6(j:aw)(n:List V)(f:ar):Prop:=(V.keys 7 n=ab/\cg j (.tup n) (.ref f))
mutual
theorem cg.qC{j F:aw}(n:pj j F):∀{u:V}{s:Nat}{q:ah},V.key s u=ab->cg j u q->cg F u q
 |.aW,_,_,_,c=>c
 |.aG _,_,_,_,c=>c
 |.int _,_,_,_,c=>c
 |.str _,_,_,_,c=>c
 |.fn _,_,_,_,c=>c
 |.tup E,s+1,_,r,c=>by
  let⟨g,@x,rfl,k,l⟩:=c;exact⟨g,x,rfl,n g x k,bA.qC n r l⟩
 |.tup E,0,_,r,c=>nomatch r
 |.aT E,0,_,r,c=>nomatch r
 |.aT E,s+1,_,r,c=>nomatch r
 |.fd,0,_,r,c=>nomatch r
 |.fd,s+1,_,r,c=>nomatch r
theorem bA.qC{j F:aw}(n:pj j F):∀{E:List V}{s:Nat}{ae:List ah},V.keys s E=ab->bA j E ae->bA F E ae
 |[],_,_,_,c=>c
 |u::E,s,_,r,c=>by
  let⟨q,@p,rfl,k,l⟩:=c;rw[V.keys,cF]at r;exact⟨q,p,rfl,cg.qC n r.1 k,bA.qC n r.2 l⟩
end
def g6.mono{n:List V}(e:g6 j n f)(B:pj j F):g6 F n f:=by
 let@⟨a,⟨g,@x,c,k,l⟩⟩:=e;exact⟨a,g,x,c,B g x k,l.qC B a⟩
def l3(e:a4)(g:ar)(Rm:Array af):Prop:=(∃Y,e.get? g=Z Y/\(Y.cls,Y.dict)=(.type "tuple",X)/\∃s,Y.data=.seq Rm s)
def l3.tup{Rm:Array af}(d:l3 e g Rm):mP e g Rm:=let ⟨Y,c,h,p⟩:=d;⟨Y,c,(Prod.mk.inj h).1,p⟩
def l3.new(e:a4)(Rm:Array af):l3 (e.push {cls:=.type "tuple",data:=.seq Rm}) e.objs.size Rm:=⟨_,dc _ rfl,rfl,_,rfl⟩
section
variable(Ri:bz)(D:bg)
def eh(j:aw)(e:a4)(g:ar):fo->Prop
 |.lst x=>x.length<=sizeLine/\∃(Rf:List af) (s:Nat),bN x Rf/\e.get? g=Z {cls:=.type "list",data:=.seq Rf.toArray s}
 |.tup x=>x.length<=sizeLine/\∃Rf:List af,bN x Rf/\l3 e g Rf.toArray
 |.dh Rd=>Rd.length<=sizeLine/\(g==iz)=ax/\∃ae,fa Rd ae/\e.DictOf (lL Ri D) g ae
 |.aS Rd=>Rd.length<=sizeLine/\(g==iz)=ax/\∃x:List (List V×ar×af),
   d3 (λ(o:List V×ah) (r:List V×ar×af)=>o.1=r.1/\g6 j o.1 r.2.1/\bW o.2 r.2.2) Rd x/\
   ∃Y Q RU,e.get? g=Z Y/\Y.ExactDict/\Y.data=.dict Q RU/\Q.toList=x.map (entryOfKey<|hO Ri D)/\(x.map (·.1)).Nodup
 |.set Rk s=>e.SetOf (intKind Ri D) g Rk s
 |.ins aP y aa=>j y=Z (.own g)/\aa.length<=1000/\y≠g/\e.get? g=Z (PySem.W.instObj aP y)/\
   ∃t,e.Ns1 y t/\(∀N,kp (aa.lookup N)<|t N)/\PySem.Within t (aa.map (·.1))
 |.own _=>∃Y,e.get? g=Z Y
 |.yP aa=>∃t,e.Ns1 g t/\∀N,kp (aa.lookup N) (t N)
 |.xc M U=>∃B I q,e.get? g=Z {cls:=.type "range",data:=.fields #[.int M B,.int U I,.int 1 q]}
 |.dx Y I=>e.get? g=Z Y/\eh j e g I
 |.nD Rg=>e.get? g=Z {cls:=.none,data:=.fields Rg}
 |.met N d=>e.get? g=Z (Γ (.ref N)<|.ref d)
 |.ext a=>a e/\(∃Y,e.get? g=Z Y)/\∀k l:a4,a k->(∀Y,k.get? g=Z Y->l.get? g=Z Y)->a l
def dH(j:aw)(e:a4):Prop:=(∀g Y,j g=Z Y->eh Ri D j e g Y)
end
section
variable{Ri:bz}{D:bg}{j F:aw}{e S:a4}{g:ar}{Y:fo}
def eh.lt(d:eh Ri D j e g Y):g<e.objs.size:=by
 cases Y with
 |lst x=>let@⟨_,⟨_,@_,_,c⟩⟩:=d;exact b6 c
 |tup x=>let@⟨_,⟨@_,_,o⟩⟩:=d;exact o.tup.lt
 |dh Rd=>let@⟨_,_,⟨@_,_,⟨Y,_,@_,c,_⟩⟩⟩:=d;exact b6 c
 |aS Rd=>let@⟨_,_,⟨@_,_,⟨Y,_,@_,c,_⟩⟩⟩:=d;exact b6 c
 |set Rk s=>let⟨Y,W,W,@W,c,W⟩:=d;exact b6 c
 |ins aP y aa=>let@⟨_,_,_,c,_⟩:=d;exact b6 c
 |own i=>let⟨@W,c⟩:=d;exact b6 c
 |yP aa=>let⟨@W,⟨W,W,@W,c,W⟩,W⟩:=d;exact b6 c
 |xc M U=>let⟨W,W,@W,c⟩:=d;exact b6 c
 |dx a I=>let@⟨c,_⟩:=d;exact b6 c
 |nD Rg=>exact b6 (show e.get? g=Z _ from d)
 |met N i=>exact b6 (show e.get? g=Z _ from d)
 |ext b=>let@⟨_,⟨@_,c⟩,_⟩:=d;exact b6 c
theorem d3.sE{Ry RZ:Type}{P Q9:Ry->RZ->Prop}:∀{a:List Ry}{b:List RZ},d3 P a b->(∀g f,P g f->Q9 g f)->d3 Q9 a b
 |_,_,.nil,_=>.nil
 |_,_,.cons p B,N=>.cons (N _ _ p) (d3.sE B N)
def eh.iI(d:eh Ri D j e g Y)(n:∀f I,(f=g\/j f=Z (.own g))->e.get? f=Z I->S.get? f=Z I)(l:∀f,j f=Z (.own g)->F f=Z (.own g))(m:∀f x,j f=Z (.tup x)->F f=Z (.tup x)):eh Ri D F S g Y:=by
 induction Y with
 |lst x=>let@⟨a,⟨Rf,@s,p,c⟩⟩:=d;exact⟨a,Rf,s,p,n _ _ (.inl rfl) c⟩
 |tup x=>let@⟨a,⟨@Rf,p,⟨@b,c,h⟩⟩⟩:=d;exact⟨a,Rf,p,b,n _ _ (.inl rfl) c,h⟩
 |dh Rd=>let@⟨a,i,⟨@ae,p,⟨b,Q,@RU,c,h⟩⟩⟩:=d;exact⟨a,i,ae,p,b,Q,RU,n _ _ (.inl rfl) c,h⟩
 |aS Rd=>
  let@⟨a,i,⟨@x,p,⟨b,Q,@RU,c,h⟩⟩⟩:=d;exact⟨a,i,x,d3.sE p λo r a=>⟨a.1,a.2.1.mono m,a.2.2⟩,b,Q,RU,n _ _ (.inl rfl) c,h⟩
 |set Rk s=>let⟨b,Q,RU,@B,c,h⟩:=d;exact⟨b,Q,RU,B,n _ _ (.inl rfl) c,h⟩
 |ins aP y aa=>
  let@⟨u,a,ne,c,⟨@t,⟨k,Q,@RU,v,h⟩,p⟩⟩:=d;exact⟨l _ u,a,ne,n _ _ (.inl rfl) c,t,⟨k,Q,RU,n _ _ (.inr u) v,h⟩,p⟩
 |own i=>let⟨@b,c⟩:=d;exact⟨b,n _ _ (.inl rfl) c⟩
 |yP aa=>let⟨@t,⟨k,Q,@RU,c,h⟩,p⟩:=d;exact⟨t,⟨k,Q,RU,n _ _ (.inl rfl) c,h⟩,p⟩
 |xc M U=>let⟨B,I,@q,c⟩:=d;exact⟨B,I,q,n _ _ (.inl rfl) c⟩
 |dx b I w=>let@⟨c,r⟩:=d;exact⟨n _ _ (.inl rfl) c,w r⟩
 |nD Rg=>
  have c:e.get? g=Z {cls:=.none,data:=.fields Rg}:=d;show S.get? g=Z {cls:=.none,data:=.fields Rg};exact n g _ (.inl rfl) c
 |met N i=>
  have c:e.get? g=Z (Γ (.ref N)<|.ref i):=d;show S.get? g=Z (Γ (.ref N)<|.ref i);exact n g _ (.inl rfl) c
 |ext z=>let@⟨o,⟨@Y,c⟩,J⟩:=d;exact⟨J _ _ o λY r=>n _ _ (.inl rfl) r,⟨Y,n _ _ (.inl rfl) c⟩,J⟩
theorem dH.lt(d:dH Ri D j e)(c:j g=Z Y):g<e.objs.size:=(d g Y c).lt
def dH.fresh(d:dH Ri D j e)(c:e.objs.size<=g):j g=X:=by
 cases r:j g with
 |none=>rfl
 |some I=>exact absurd (ep (d.lt r) c) (iX _)
def dH.kept(d:dH Ri D j e)(n:∀f I,e.get? f=Z I->S.get? f=Z I):dH Ri D j S:=λg Y c=>
 (d g Y c).iI (λf I W r=>n f I r) (λ_ r=>r) λ_ W r=>r
def dH.laid(d:dH Ri D j e)(n:∀f I,e.get? f=Z I->S.get? f=Z I)(i:e.objs.size<=g)(new:eh Ri D (upd j g Y) S g Y):dH Ri D (upd j g Y) S:=λf I c=>by
 have a:=d.fresh i;by_cases b:f=g
 ·subst b;rw[ec]at c;cases c;exact new
 ·rw[cR b]at c;exact (d f I c).iI (λh q W r=>n h q r) (λh r=>by rw[cR (gP r a)];exact r) λh x r=>by rw[cR (gP r a)];exact r
end
def j2(j:aw)(g:ar)(I:fo):Prop:=(j g=Z I\/∃Y,j g=Z (.dx Y I))
def j2.ok{I:fo}(p:j2 j g I)(d:dH Ri D j e):eh Ri D j e g I:=by
 rcases p with p|⟨Y,p⟩
 ·exact d g I p
 ·let@⟨_,r⟩:=d g _ p;exact r
def q9:Option fo->Prop
 |some (.lst _)=>True
 |some (.dh _)=>True
 |some (.aS _)=>True
 |some (.set _ _)=>True
 |some (.ins _ _ _)=>True
 |some (.ext _)=>True
 |_=>False
section
variable{Ri:bz}{D:bg}{j:aw}{e S:a4}{d c:ar}{M:fo}
def dH.write(ok:dH Ri D j e)(a:q9 (j d))(l:c=d\/j c=Z (.own d))(n:∀f I,f≠c->e.get? f=Z I->S.get? f=Z I)(s:∃I,S.get? c=Z I)(new:eh Ri D (upd j d M) S d M):dH Ri D (upd j d M) S:=λf I r=>by
 have m:∀h i,j h=Z (.own i)->h≠d:=λh i p z=>by subst z;rw[p]at a;exact a
 have t:∀h x,j h=Z (.tup x)->h≠d:=λh x p z=>by subst z;rw[p]at a;exact a
 by_cases b:f=d
 ·subst b;rw[ec]at r;cases r;exact new
 ·rw[cR b]at r;by_cases g:f=c
  ·have o:j f=Z (.own d):=by
    rcases l with z|z
    ·exact absurd (g.trans z) b
    ·rw[g];exact z
   rw[r]at o;cases o;let⟨@q,u⟩:=s;exact⟨q,by rw[g];exact u⟩
  ·refine (ok f I r).iI (λh q k p=>n h q ?_ p) (λh p=>by rw[cR (m h f p)];exact p) λh x p=>by rw[cR (t h x p)];exact p
   rcases k with rfl|k
   ·exact g
   ·rintro rfl;rcases l with z|z
    ·exact m h f k z
    ·rw[k]at z;cases z;exact b rfl
end
structure eR(aa E:List ar)(j F:aw)(e S:a4):Prop where
 keep:∀f Y,e.get? f=Z Y->j f=X->f∉aa->f∉E->S.get? f=Z Y
 slot:∀f Y,e.get? f=Z Y->j f=X->f∈aa->f∉E->∃bk,S.get? f=Z {Y with slots:=bk}
 free:∀f Y,e.get? f=Z Y->j f=X->f∉E->F f=X
 jH:∀f Y x,e.get? f=Z Y->j f=Z (.tup x)->f∉E->S.get? f=Z Y
 there:∀f Y,e.get? f=Z Y->f∉E->∃M,S.get? f=Z M
 iY:∀f x,j f=Z (.tup x)->F f=Z (.tup x)
 jb:∀f Y I,j f=Z (.dx Y I)->F f=Z (.dx Y I)
 lj:∀f Rg,j f=Z (.nD Rg)->∃more,F f=Z (.nD<|Rg++more)
section
variable{aa o E b:List ar}{j Rb Ro:aw}{e k l S:a4}{g d c:ar}{Y:fo}
def eR.any(I:eR aa E j Rb e k){f:ar}{a:a6}(r:e.get? f=Z a)(s:j f=X)(b:f∉E):∃bk,k.get? f=Z {a with slots:=bk}:=by
 by_cases c:f∈aa
 ·exact I.slot f a r s c b
 ·exact⟨a.slots,I.keep f a r s c b⟩
def eR.kept(n:∀f I,e.get? f=Z I->S.get? f=Z I):eR aa E j j e S:=
 ⟨λf a r Y Y Y=>n f a r,λf a r Y Y Y=>⟨a.slots,n f a r⟩,λ_ Y Y s Y=>s,λf a Y r Y Y=>n f a r,λf a r Y=>⟨a,n f a r⟩,λ_ Y r=>r,λ_ Y Y r=>r,λ_ Rg r=>⟨#[],by rw[r];simp⟩⟩
def eR.refl:eR aa E j j e e:=eR.kept λ_ Y r=>r
theorem eR.laid(n:∀f I,e.get? f=Z I->S.get? f=Z I)(b:e.objs.size<=g)(a:j g=X):eR aa E j (upd j g Y) e S where
 keep:=λf I r W W W=>n f I r
 slot:=λf I r W W W=>⟨I.slots,n f I r⟩
 free:=λf I r s W=>by rw[cR (dg<|ep (b6 r) b)];exact s
 jH:=λf I W r W W=>n f I r
 there:=λf I r W=>⟨I,n f I r⟩
 iY:=λf x r=>by rw[cR (gP r a)];exact r
 jb:=λf I x r=>by rw[cR (gP r a)];exact r
 lj:=λf Rg r=>⟨#[],by rw[cR (gP r a),r];simp⟩
def eR.write(b:q9 (j d))(h:c=d\/j c=Z (.own d))(n:∀f I,f≠c->e.get? f=Z I->S.get? f=Z I)(m:∃I,S.get? c=Z I):eR aa E j (upd j d Y) e S:=by
 have i:∀f,j f=X->f≠d:=λf s a=>by subst a;rw[s]at b;exact b
 have k:∀f,j f=X->f≠c:=λf s a=>by
  subst a;rcases h with p|p
  ·exact i f s p
  ·rw[s]at p;cases p
 have g:∀f I,j f=Z I->¬ q9 (Z I)->f≠d:=λf I r t a=>by subst a;rw[r]at b;exact t b
 refine⟨λf I r s W W=>n f I (k f s) r,λf I r s W W=>⟨I.slots,n f I (k f s) r⟩,λf I r s W=>by rw[cR (i f s)];exact s,λf I x r B W=>n f I (λa=>by
   subst a;rcases h with p|p
   ·exact g f _ B (λa=>a) p
   ·rw[B]at p;cases p) r,λf I r W=>?_,
  λf x r=>by rw[cR (g f _ r λa=>a)];exact r,λf I x r=>by rw[cR (g f _ r λa=>a)];exact r,λf Rg r=>⟨#[],by rw[cR (g f _ r λa=>a),r];simp⟩⟩
 by_cases l:f=c
 ·subst l;exact m
 ·exact⟨I,n f I l r⟩
end
def r2(e:a4)(j:aw):List ar:=((range e.objs.size).filter λg=>(j g).isSome)
def Es:List af->Option (List ah)
 |[.int a _,.int v _]=>Z [.int a,.int v]
 |_=>X
def qe(Y:a6):Option (List ah):=(
 match Y.cls,Y.dict,Y.data with
 | .type "tuple",X,.seq Rf _=>Es Rf.toList
 |_,_,_=>X)
def ki(Y:a6):Option fo:=((qe Y).map .tup)
def kZ(e:a4)(j:aw):a4:=(PySem.W.hideAll e (r2 e j))
def JR(e:a4)(j:aw):(kZ e j).objs.size=e.objs.size:=PySem.W.hideAll_size _ _
def Hb{Y:a6}(c:e.get? f=Z Y)(s:j f=X):(kZ e j).get? f=Z Y:=
 PySem.W.hideAll_get _ c λa=>by
  have r:(j f).isSome=ab:=(jK.mp a).2;rw[s]at r;simp at r
def u2{Y:a6}(c:(kZ e j).get? f=Z Y):e.get? f=Z Y/\j f=X:=by
 have a:e.get? f=Z Y:=PySem.W.of_hideAll (r2 e j) c;refine⟨a,?_⟩;cases r:j f with
 |none=>rfl
 |some d=>
  have b:f∈r2 e j:=jK.mpr ⟨iJ.mpr<|b6 a,by simp[r]⟩;have g:(kZ e j).get? f=X:=PySem.W.hideAll_none (r2 e j) b;rw[g]at c;cases c
def Ll(L e:a4)(k:ar):List (ar×a6):=((range e.objs.size).filterMap λg=>if g=k\/(L.get? g).isSome=ab then X else (e.get? g).map λY=>(g,Y))
def d1(L e:a4)(k u:ar):List (ar×a6):=((Ll L e k).filter λo=>decide (o.1≠u))
structure Mod(R:Φ)(aO:aC->Option af)(Rh:a4):Prop where
 sF:R.In Rh
 glob:Rh.Ns dM aO
 blt:∃Cc,Rh.Ns s6 Cc/\∀d:aC,d ≠ "__name__" -> Cc d=e1 d
 nolimit:Rh.NoLimit
structure aK where
 prog:bz
 w:bg
 K:Φ
 aO:aC->Option af
 base:a4
 A:bp
 N:List aC
 eC:aq
 lW:aw
 env:ei
 outer:List ei
 stack:List ei
 ex:List ar
 fn:aC->Bool
 calm:Bool
 jw:List (ar×a6)
 cE:af->aq->Prop
variable{b:aK}
def hQ(C:List ei):List ar:=(C.filterMap (·.frame))
abbrev aK.aa(b:aK):List ar:=hQ b.outer
def tn(t:f6)(d:aC):Prop:=(t.names.lookup d=Z .local\/t.names.lookup d=Z .cell\/t.names.lookup d=Z .free)
def jc(t:f6)(d:aC):Prop:=(t.names.lookup d=Z .local\/t.names.lookup d=Z .cell)
def N8(Q6:ei)(e:a4)(H:aC->Option af)(d:aC)(I:af):Prop:=(
 (Q6.kindOf d=Z .local/\H d=Z I)\/((Q6.kindOf d=Z .cell\/Q6.kindOf d=Z .free)/\∃h,Q6.cells.lookup d=Z h/\e.IsCell h (Z I)))
structure aK.Ok(b:aK):Prop where
 mod:Mod b.K b.aO b.base
 kind:b.env.scope.kind=.function
 glob:b.env.globals=dM
 blt:b.env.builtins=s6
 above:b.eC.heap.objs.size<=b.env.locals
 inj:∀d i h,b.env.cells.lookup d=Z h->b.env.cells.lookup i=Z h->d=i
 has:∀d,(b.env.kindOf d=Z .cell\/b.env.kindOf d=Z .free)->∃h,b.env.cells.lookup d=Z h
 mN:∀d h,b.fn d=ab->b.env.cells.lookup d=Z h->b.eC.heap.objs.size<=h
 hd:b.calm=ab->b.A.handled=X
 frames:b.A.frames=Z b.stack
 qc:b.stack=b.outer\/(b.stack=b.env::b.outer/\b.env.frame=Z b.env.locals)
 wI:∀f∈b.ex,f≠b.env.locals/\∀d h,b.env.cells.lookup d=Z h->h≠f
 bs:∀f Y,b.base.get? f=Z Y->b.eC.heap.get? f=Z Y/\b.lW f=ki Y
 k4:b.base.objs.size<=b.eC.heap.objs.size
 mx:∀f Y,b.base.get? f=Z Y->f∉b.ex
 oE:∀f∈b.ex,f∉b.aa
 iu:b.eC.heap.FunFrames b.base b.outer
 nz:∀f∈b.aa,b.lW f=X
structure aF(b:aK)(G:List (ar×a6))(w:List (Option ah))(j:aw)(m:aq):Prop where
 ok:b.Ok
 os:m.os=b.eC.os
 bare:kP m.gens
 base:eR b.aa b.ex b.lW j b.eC.heap m.heap
 loc:∃H,m.heap.Ns b.env.locals H/\∀(a:Nat) (d:aC) (q:ah),b.N[a]?=Z d->w[a]?=Z (Z q)->tn b.env.scope d->∃I,bW q I/\N8 b.env m.heap H d I
 cell:∀d h,b.env.cells.lookup d=Z h->∃q,m.heap.IsCell h q
 free:j b.env.locals=X
 i4:∀d h,b.env.cells.lookup d=Z h->j h=X
 pin:∀o∈b.jw++G,m.heap.get? o.1=Z o.2/\j o.1=X/\o.1≠b.env.locals/\o.1∉b.aa/\∀q,o.2.data≠.cell q
 aZ:dH b.prog b.w j m.heap
 len:w.length=b.N.length
section
variable{b:aK}{G:List (ar×a6)}{w:List (Option ah)}{j F:aw}{m:aq}{S:a4}
def aK.Ok.Pt(ok:b.Ok){f:ar}{Y:a6}(c:b.base.get? f=Z Y):f∉b.aa:=λa=>by
 have:=(ok.iu.mem a).1;rw[c]at this;cases this
def aF.bs(t:aF b G w j m):∀f Y,b.base.get? f=Z Y->m.heap.get? f=Z Y/\j f=ki Y:=λf Y c=>by
 let⟨k,l⟩:=t.ok.bs f Y c;cases h:qe Y with
 |none=>
  have s:b.lW f=X:=l.trans (by rw[ki,h];rfl);exact⟨t.base.keep f Y k s (t.ok.Pt c)<|t.ok.mx f Y c,(t.base.free f Y k s<|t.ok.mx f Y c).trans<|s.symm.trans l⟩
 |some x=>
  have B:b.lW f=Z (.tup x):=l.trans (by rw[ki,h];rfl);exact⟨t.base.jH f Y x k B<|t.ok.mx f Y c,(t.base.iY f x B).trans<|B.symm.trans l⟩
def aF.ew(t:aF b G w j m):∀f Y,b.base.get? f=Z Y->m.heap.get? f=Z Y:=λf Y c=>(t.bs f Y c).1
def aF.mod(t:aF b G w j m):Mod b.K b.aO b.base:=t.ok.mod
def aF.nL(t:aF b G w j m):b.K.In m.heap:=t.ok.mod.sF.keeps t.ew
def aF.lt(t:aF b G w j m):b.env.locals<m.heap.objs.size:=let ⟨_,a,_⟩:=t.loc;a.lt
def aF.kj(t:aF b G w j m):b.eC.heap.objs.size<=m.heap.objs.size:=dD t.ok.above (rk t.lt)
def aF.Pd(t:aF b G w j m){g:ar}(e:m.heap.objs.size<=g):g∉b.aa:=λa=>by
 let@⟨_,⟨@Y,c,_⟩⟩:=t.ok.iu.mem a;exact absurd (ep (b6 c)<|dD t.kj e) (iX _)
def aF.mD(t:aF b G w j m):∀d h,b.env.cells.lookup d=Z h->h≠b.env.locals:=λd h c e=>by
 let⟨q,@Y,a,hd⟩:=t.cell d h c;let⟨@H,⟨M,Q,@RU,f,g,W⟩,W⟩:=t.loc;rw[e,f]at a;cases a;rw[g]at hd;cases hd
def aF.iu(t:aF b G w j m):m.heap.FunFrames b.base b.outer:=by
 have all:∀(C:List ei),(∀f∈hQ C,f∈b.aa)->b.eC.heap.FunFrames b.base C->m.heap.FunFrames b.base C:=by
  intro C;induction C with
  |nil=>intro W W;trivial
  |cons Q6 p h=>
   intro g i;let@⟨l,⟨k,@Y,a,n,o,hd⟩,q⟩:=i;have d:k∈b.aa:=g k (by unfold hQ;rw[vW,a];exact mn);let⟨@bk,c⟩:=t.base.slot k Y o (t.ok.nz k d) d λr=>t.ok.oE k r d;exact⟨l,⟨k,_,a,n,c,hd⟩,h (λf e=>g f (by unfold hQ;rw[vW,a];exact kJ _ e)) q⟩
 exact all b.outer (λ_ e=>e) t.ok.iu
def aF.stack(t:aF b G w j m):m.heap.FunFrames b.base b.stack:=by
 rcases t.ok.qc with c|⟨c,a⟩
 ·rw[c];exact t.iu
 ·rw[c];let⟨@H,d,Y⟩:=t.loc;refine .cons (by rw[t.ok.kind];decide) a d ?_ t.iu;exact vt (dD t.ok.k4 t.ok.above)
def aF.yt(t:aF b G w j m):∀f∈hQ b.stack,f∈b.env.locals::b.aa:=λf a=>by
 rcases t.ok.qc with c|⟨c,d⟩
 ·rw[c]at a;exact kJ _ a
 ·rw[c]at a;unfold hQ at a;rw[vW,d]at a;exact a
def aF.Ce(t:aF b G w j m):∀f∈hQ b.stack,j f=X:=λf a=>by
 rcases b9.mp (t.yt f a) with c|a
 ·rw[c];exact t.free
 ·let@⟨_,⟨@Y,d,_⟩⟩:=t.ok.iu.mem a;exact t.base.free f Y d (t.ok.nz f a) λe=>t.ok.oE f e a
def aF.step{L:Array n0}{RF:Nat}{U:Drawn}{R8:List ar}(t:aF b G w j m)(l:∀f∈R8,(f∈b.ex\/b.eC.heap.objs.size<=f)/\f≠b.env.locals/\(∀d h,b.env.cells.lookup d=Z h->h≠f)/\∀o∈b.jw++G,o.1≠f)(keep:∀f Y,f≠b.env.locals->f∉b.aa->f∉R8->m.heap.get? f=Z Y->j f=X->S.get? f=Z Y)(N:∀f Y,f≠b.env.locals->f∈b.aa->f∉R8->m.heap.get? f=Z Y->j f=X->∃bk,S.get? f=Z {Y with slots:=bk})(J:∀f Y,f∉R8->m.heap.get? f=Z Y->j f=X->F f=X)(al:∀f Y,f∉R8->m.heap.get? f=Z Y->∃M,S.get? f=Z M)(jH:∀f Y x,f∉R8->m.heap.get? f=Z Y->j f=Z (.tup x)->S.get? f=Z Y)(iY:∀f x,j f=Z (.tup x)->F f=Z (.tup x))(jb:∀f Y I,j f=Z (.dx Y I)->F f=Z (.dx Y I))(lj:∀f Rg,j f=Z (.nD Rg)->∃am,F f=Z (.nD<|Rg++am))(Rt:∀H,m.heap.Ns b.env.locals H->S.Ns b.env.locals H)(aZ:dH b.prog b.w F S)(an:kP L):
  aF b G w F {m with heap:=S,gens:=L,drawn:=U,toks:=RF}:=by
 have O:∀f Y,b.eC.heap.get? f=Z Y->f≠b.env.locals:=λf Y c=>dg (ep (b6 c) t.ok.above);have v:∀f Y,b.eC.heap.get? f=Z Y->f∉b.ex->f∉R8:=λf Y c e i=>by
  rcases (l f i).1 with z|z
  ·exact e z
  ·exact absurd (ep (b6 c) z) (iX _)
 have P:∀d h,b.env.cells.lookup d=Z h->∀q,m.heap.IsCell h q->S.IsCell h q:=λd h c q ⟨Y,k,hd⟩=>by
  have y:h∉R8:=λz=>(l h z).2.2.1 d h c rfl;by_cases Q:h∈b.aa
  ·let⟨@bk,r⟩:=N h Y (t.mD d h c) Q y k (t.i4 d h c);exact⟨_,r,hd⟩
  ·exact⟨Y,keep h Y (t.mD d h c) Q y k<|t.i4 d h c,hd⟩
 refine⟨t.ok,t.os,an,⟨λf Y c s i e=>?_,λf Y c s i e=>?_,λf Y c s e=>?_,λf Y x c B e=>jH f Y x (v f Y c e) (t.base.jH f Y x c B e)<|t.base.iY f x B,λf Y c e=>?_,λf x c=>iY f x<|t.base.iY f x c,λf Y x c=>jb f Y x<|t.base.jb f Y x c,λf Rg c=>?_⟩,?_,λd h c=>?_,?_,λd h c=>?_,λo R=>?_,aZ,t.len⟩
 ·exact keep f Y (O f Y c) i (v f Y c e) (t.base.keep f Y c s i e) (t.base.free f Y c s e)
 ·let⟨@bk,g⟩:=t.base.slot f Y c s i e;let⟨@ap,A⟩:=N f _ (O f Y c) i (v f Y c e) g (t.base.free f Y c s e);exact⟨ap,A⟩
 ·let⟨@M,g⟩:=t.base.there f Y c e;exact J f M (v f Y c e) g (t.base.free f Y c s e)
 ·let⟨@M,g⟩:=t.base.there f Y c e;exact al f M (v f Y c e) g
 ·let⟨@as,g⟩:=t.base.lj f Rg c;let⟨@a1,A⟩:=lj f _ g;exact⟨as++a1,by rw[A,Array.append_assoc]⟩
 ·let⟨@H,a2,bd⟩:=t.loc;refine⟨H,Rt H a2,λa d q g A be=>?_⟩;let⟨@I,p,C⟩:=bd a d q g A be;refine⟨I,p,?_⟩;rcases C with C|⟨n,h,c,z⟩
  ·exact .inl C
  ·exact .inr ⟨n,h,c,P d h c _ z⟩
 ·let⟨@q,z⟩:=t.cell d h c;exact⟨q,P d h c q z⟩
 ·let⟨@H,⟨Y,W,@W,k,W⟩,W⟩:=t.loc;exact J _ Y (λz=>(l _ z).2.1 rfl) k t.free
 ·let⟨q,@Y,k,hd⟩:=t.cell d h c;exact J h Y (λz=>(l h z).2.2.1 d h c rfl) k (t.i4 d h c)
 ·let@⟨c,s,ne,T,u⟩:=t.pin o R;have y:o.1∉R8:=λz=>(l o.1 z).2.2.2 o R rfl;exact⟨keep o.1 o.2 ne T y c s,J o.1 o.2 y c s,ne,T,u⟩
def aF.un(t:aF b G w j m)(I:eR b.aa [] j F m.heap S)(aZ:dH b.prog b.w F S):aF b G w F {m with heap:=S,toks:=RF}:=by
 let⟨@H,⟨Y,Q,@RU,d,p⟩,W⟩:=id t.loc;let⟨@bk,g⟩:=I.any d t.free ↥0;exact t.step (L:=m.gens) (U:=m.drawn) (R8:=[]) (λ_ h=>nomatch h) (λf Y W a W c s=>I.keep f Y c s a ↥0) (λf Y W a W c s=>I.slot f Y c s a ↥0) (λf Y W c s=>I.free f Y c s ↥0) (λf Y W c=>I.there f Y c ↥0) (λf Y x W c B=>I.jH f Y x c B ↥0) I.iY I.jb I.lj (λq i=>by
  let⟨M,k,@l,e,RS⟩:=i;rw[d]at e;cases e;exact⟨_,k,l,g,RS⟩) aZ t.bare
def aF.call{i:Array n0}{q:Drawn}(t:aF b G w j m)(I:eR (hQ b.stack) R8 j F m.heap S)(aZ:dH b.prog b.w F S)(r:kP i)(k:∀f∈R8,(f∈b.ex\/b.eC.heap.objs.size<=f)/\f≠b.env.locals/\(∀d h,b.env.cells.lookup d=Z h->h≠f)/\∀o∈b.jw++G,o.1≠f):
  aF b G w F {m with heap:=S,gens:=i,drawn:=q,toks:=RF}:=by
 let⟨@H,⟨Y,Q,@RU,l,p⟩,W⟩:=id t.loc;let⟨@bk,e⟩:=I.any l t.free λg=>(k _ g).2.1 rfl;exact t.step (R8:=R8) k (λf Y e u a c s=>I.keep f Y c s (λg=>(b9.mp<|t.yt f g).elim e u) a) (λf Y W W a c s=>I.any c s a) (λf Y a c s=>I.free f Y c s a) (λf Y a c=>I.there f Y c a) (λf Y x a c B=>I.jH f Y x c B a) I.iY I.jb I.lj (λA v=>by
  let⟨M,y,@z,n,RS⟩:=v;rw[l]at n;cases n;exact⟨_,y,z,e,RS⟩) aZ r
def aF.turned{ao:ar}(t:aF b G w j m)(n:∀f Y,f≠ao->m.heap.get? f=Z Y->S.get? f=Z Y)(i:j ao=X)(e:ao≠b.env.locals)(k:ao∈b.ex\/b.eC.heap.objs.size<=ao)(l:∀d h,b.env.cells.lookup d=Z h->h≠ao)(u:∀o∈b.jw++G,o.1≠ao):aF b G w j {m with heap:=S,toks:=RF}:=by
 have g:∀f I,j f=Z I->f≠ao:=λf I c z=>by rw[z,i]at c;cases c
 refine t.step (L:=m.gens) (U:=m.drawn) (R8:=[ao]) (λf v=>?_) (λf Y W W a c W=>n f Y (λz=>a (by simp[z])) c) (λf Y W W a c W=>⟨Y.slots,n f Y (λz=>a (by simp[z])) c⟩) (λ_ W W W s=>s)
  (λf Y a c=>⟨Y,n f Y (λz=>a (by simp[z])) c⟩) (λf Y W a c W=>n f Y (λz=>a (by simp[z])) c) (λ_ W c=>c) (λ_ W W c=>c) (λf Rg c=>⟨#[],by rw[c];simp⟩) (λH x=>?_) (λf I c=>?_) t.bare
 ·have c:f=ao:=by simpa using v
  subst c;exact⟨k,e,l,u⟩
 ·let⟨Y,Q,@RU,y,p⟩:=x;exact⟨Y,Q,RU,n _ Y (eu e) y,p⟩
 ·refine (t.aZ f I c).iI (λh q a r=>n h q ?_ r) (λ_ r=>r) λ_ W r=>r;rcases a with z|z
  ·rw[z];exact g f I c
  ·exact g h _ z
def aF.tok(t:aF b G w j m)(B:Nat):aF b G w j {m with toks:=B}:=t.un (S:=m.heap) (RF:=B) eR.refl t.aZ
def aF.kept(t:aF b G w j m)(n:∀f I,m.heap.get? f=Z I->S.get? f=Z I):aF b G w j {m with heap:=S,toks:=RF}:=t.un (eR.kept n) (t.aZ.kept n)
def aF.laid(t:aF b G w j m)(n:∀f I,m.heap.get? f=Z I->S.get? f=Z I)(a:m.heap.objs.size<=g)(new:eh b.prog b.w (upd j g Y) S g Y):
  aF b G w (upd j g Y) {m with heap:=S,toks:=RF}:=t.un (eR.laid n a<|t.aZ.fresh a) (t.aZ.laid n a new)
def aF.write{d c:ar}(t:aF b G w j m)(a:q9 (j d))(e:c=d\/j c=Z (.own d))(n:∀f I,f≠c->m.heap.get? f=Z I->S.get? f=Z I)(g:∃I,S.get? c=Z I)(new:eh b.prog b.w (upd j d Y) S d Y):aF b G w (upd j d Y) {m with heap:=S,toks:=RF}:=t.un (eR.write a e n g) (t.aZ.write a e n g new)
def aF.weak{c:List (Option ah)}(t:aF b G w j m)(e:c.length=w.length)(D:∀(a:Nat) q,c[a]?=Z (Z q)->w[a]?=Z (Z q)):aF b G c j m:=
 ⟨t.ok,t.os,t.bare,t.base,let ⟨H,f,g⟩:=t.loc;⟨H,f,λa d q h i k=>g a d q h (D a q i) k⟩,t.cell,t.free,t.i4,t.pin,t.aZ,e.trans t.len⟩
def aF.pe{a:List (ar×a6)}(t:aF b G w j m)(e:∀o∈a,m.heap.get? o.1=Z o.2/\j o.1=X/\o.1≠b.env.locals/\o.1∉b.aa/\∀q,o.2.data≠.cell q):aF b a w j m:=
 ⟨t.ok,t.os,t.bare,t.base,t.loc,t.cell,t.free,t.i4,λo c=>(dY.mp c).elim (λd=>t.pin o<|eX _ d)<|e o,t.aZ,t.len⟩
def zr(b:RG.Nodup){a v:Nat}{d:aC}(g:RG[a]?=Z d)(f:RG[v]?=Z d):a=v:=by
 let⟨@k,c⟩:=fR.mp g;let⟨@l,e⟩:=fR.mp f;exact (A8 b).mp (c.trans e.symm)
variable{A:Unit->aq->Prop}
def zD{az:gy}(t:aF b G w j m)(be:b.N.Nodup)(U:b.N[a]?=Z d)(y:jc b.env.scope d)(p:bW q I)(e:∀T,aF b G (w.set a<|Z q) j T->(∃g,a4.SameBut g m.heap T.heap/\(g=b.env.locals\/b.env.cells.lookup d=Z g))->A () T)(ce:b.fn d=ab\/b.env.scope.names.lookup d=Z .local:=by first|exact .inl rfl|exact .inr rfl|assumption):wpAny az O (storeName b.env d I) A Q7 m:=by
 let⟨@H,an,bi⟩:=id t.loc;have ch:(b.env.scope.kind==.class || (b.env.scope.kind==.module&&b.env.locals != b.env.globals))=ax:=by rw[t.ok.kind];rfl
 have bm:a<w.length:=by rw[t.len];exact (fR.mp U).1
 have mD:=t.mD;have bn:∀{g:ar}{S:a4},(∃Y,m.heap.get? g=Z Y/\j g=X)->a4.SameBut g m.heap S->dH b.prog b.w j S:=λ{g S} ci k f cl c=>by
  let⟨@W,W,bs⟩:=ci;refine (t.aZ f cl c).iI (λh R F r=>(k.2 h ?_).trans r) (λ_ r=>r) λ_ W r=>r;rintro rfl;rcases F with rfl|F
  ·rw[bs]at c;cases c
  ·rw[bs]at F;cases F
 rcases y with L|L
 ·refine wpAny_storeName_local L an (λS co k=>?_) ch;let⟨cr,W,@W,cs,W⟩:=id an;refine e _ ⟨t.ok,t.os,t.bare,⟨λf Y c s P y=>?_,λf Y c s P y=>?_,t.base.free,λf Y x c B y=>(k.2 f<|dg<|ep (b6 c) t.ok.above).trans<|t.base.jH f Y x c B y,λf Y c y=>?_,t.base.iY,t.base.jb,t.base.lj⟩,⟨_,co,λv i ap E J as=>?_⟩,λi h c=>?_,t.free,t.i4,λo a1=>?_,bn ⟨cr,cs,t.free⟩ k,by simpa using t.len⟩ ⟨_,k,.inl rfl⟩
  ·exact (k.2 f<|dg<|ep (b6 c) t.ok.above).trans (t.base.keep f Y c s P y)
  ·let⟨@bk,E⟩:=t.base.slot f Y c s P y;exact⟨bk,(k.2 f<|dg<|ep (b6 c) t.ok.above).trans E⟩
  ·let⟨@M,E⟩:=t.base.there f Y c y;exact⟨M,(k.2 f<|dg<|ep (b6 c) t.ok.above).trans E⟩
  ·by_cases Q:v=a
   ·subst Q;rw[U]at E;cases E;rw[ua bm]at J;cases J;exact⟨I,p,.inl ⟨L,by simp⟩⟩
   ·rw[mV (eu Q)]at J;let⟨@a2,RS,r⟩:=bi v i ap E J as;refine⟨a2,RS,?_⟩;rcases r with ⟨n,c⟩|⟨n,h,c,z⟩
    ·refine .inl ⟨n,?_⟩;have:i≠d:=λc=>Q (zr be E<|c ▸ U);simp[this,c]
    ·exact .inr ⟨n,h,c,z.sameBut k<|mD i h c⟩
  ·let⟨@R,z⟩:=t.cell i h c;exact⟨R,z.sameBut k<|mD i h c⟩
  ·let@⟨c,s,ne,bd,u⟩:=t.pin o a1;exact⟨(k.2 o.1 ne).trans c,s,ne,bd,u⟩
 ·have al:b.fn d=ab:=by
   rcases ce with z|z
   ·exact z
   ·rw[z]at L;cases L
  let⟨@h,F⟩:=t.ok.has d (.inl L);let⟨@R,z⟩:=t.cell d h F;refine wpAny_storeName_cell t.ok.kind L F z (λS bv k=>?_);let⟨@l,ca,db⟩:=id z;refine e {m with heap:=S} ⟨t.ok,t.os,t.bare,⟨λf Y c s P y=>?_,λf Y c s P y=>?_,t.base.free,λf Y x c B y=>(k.2 f<|dg<|ep (b6 c)<|t.ok.mN d h al F).trans<|t.base.jH f Y x c B y,λf Y c y=>?_,t.base.iY,t.base.jb,t.base.lj⟩,⟨H,an.sameBut k<|eu<|mD d h F,λv i ap E J as=>?_⟩,λi am c=>?_,t.free,t.i4,λo a1=>?_,bn ⟨l,ca,t.i4 d h F⟩ k,by simpa using t.len⟩ ⟨h,k,.inr F⟩
  ·exact (k.2 f<|dg<|ep (b6 c)<|t.ok.mN d h al F).trans (t.base.keep f Y c s P y)
  ·let⟨@bk,E⟩:=t.base.slot f Y c s P y;exact⟨bk,(k.2 f<|dg<|ep (b6 c)<|t.ok.mN d h al F).trans E⟩
  ·let⟨@M,E⟩:=t.base.there f Y c y;exact⟨M,(k.2 f<|dg<|ep (b6 c)<|t.ok.mN d h al F).trans E⟩
  ·by_cases Q:v=a
   ·subst Q;rw[U]at E;cases E;rw[ua bm]at J;cases J;exact⟨I,p,.inr ⟨.inl L,h,F,bv⟩⟩
   ·rw[mV (eu Q)]at J;let⟨@a2,RS,r⟩:=bi v i ap E J as;refine⟨a2,RS,?_⟩;rcases r with r|⟨n,am,c,ds⟩
    ·exact .inl r
    ·refine .inr ⟨n,am,c,ds.sameBut k ?_⟩;rintro rfl;exact Q (zr be E<|t.ok.inj _ _ _ c F ▸ U)
  ·by_cases cd:am=h
   ·subst cd;exact⟨_,bv⟩
   ·let⟨@dL,eq⟩:=t.cell i am c;exact⟨dL,eq.sameBut k cd⟩
  ·let@⟨c,s,ne,bd,u⟩:=t.pin o a1;refine⟨(k.2 o.1 ?_).trans c,s,ne,bd,u⟩;intro r;rw[r,ca]at c;have ev:l=o.2:=Option.some.inj c;exact u R (by rw[<-ev];exact db)
def tk{az:gy}(t:aF b G w j m)(c:b.N.Nodup)(U:b.N[a]?=Z d)(f:jc b.env.scope d)(p:bW q I)(e:∀T,aF b G (w.set a<|Z q) j T->A () T)(g:b.fn d=ab\/b.env.scope.names.lookup d=Z .local:=by first|exact .inl rfl|exact .inr rfl|assumption):wpAny az O (storeName b.env d I) A Q7 m:=
 zD t c U f p (λT h Y=>e T h) g
def aF.Kl(t:aF b G w j m)(g:T.os=m.os)(I:eR (hQ b.stack) R8 j F m.heap T.heap)(aZ:dH b.prog b.w F T.heap)(i:kP T.gens)(k:∀f∈R8,(f∈b.ex\/b.eC.heap.objs.size<=f)/\f≠b.env.locals/\(∀d h,b.env.cells.lookup d=Z h->h≠f)/\∀o∈b.jw++G,o.1≠f):aF b G w F T:=by
 let⟨S,a,e,RF,M⟩:=T;have c:M=m.os:=g;subst c;exact t.call (i:=a) (RF:=RF) (q:=e) I aZ i k
end
abbrev f3:=af->Option ar->aw->Prop
abbrev aX:=List (Option ah)
variable{w:aX}
abbrev b2:=ah->aw->Prop
abbrev bP:=aX->aw->b2->Prop
variable{R6:bP}
abbrev dV:=aX->aw->(Bool->aw->Prop)->Prop
variable{Sm:dV}
abbrev es:=aX->aw->(List ah->aw->Prop)->Prop
variable{z:es}
structure nA where
 bj:aX->aw->Prop
 eo:b2
 ew:aX->aw->Prop:=λ_ _=>False
 cx:aX->aw->Prop:=λ_ _=>False
abbrev eG:=nA->aX->aw->Prop
variable{R5:eG}
def eb(b:aK)(G:List (ar×a6))(w:aX)(A:b2)(I:af)(T:aq):Prop:=(∃q F,aF b G w F T/\bW q I/\A q F)
def sD(b:aK)(G:List (ar×a6))(w:aX)(A:Bool->aw->Prop)(f:Bool)(T:aq):Prop:=(∃F,aF b G w F T/\A f F)
def Kw(b:aK)(G:List (ar×a6))(w:aX)(A:List ah->aw->Prop)(Rv:List af)(T:aq):Prop:=(∃ae F,aF b G w F T/\bN ae Rv/\A ae F)
def o8(b:aK)(G:List (ar×a6))(y:nA)(N:Flow)(T:aq):Prop:=(
 match N with
 |.next=>∃a F,aF b G a F T/\y.bj a F
 |.brk=>∃a F,aF b G a F T/\y.ew a F
 |.cont=>∃a F,aF b G a F T/\y.cx a F
 |.ret I=>∃q a F,aF b G a F T/\bW q I/\y.eo q F)
def yf(b:aK)(c:a8)(B:bP)(G:List (ar×a6)):Prop:=(
 ∀(m:aq) (w:aX) (j:aw) (A:b2),aF b G w j m->B w j A->wpAny (aQ b.prog b.w) b.A (bR c b.env) (eb b G w A) b.cE m)
def bx(b:aK)(c:a8)(B:bP):Prop:=(∀G,yf b c B G)
def zC(b:aK)(c:a8)(B:dV)(G:List (ar×a6)):Prop:=(
 ∀(m:aq) (w:aX) (j:aw) (A:Bool->aw->Prop),aF b G w j m->B w j A->wpAny (aQ b.prog b.w) b.A (mz c b.env<|bR c b.env) (sD b G w A) b.cE m)
def gC(b:aK)(c:a8)(B:dV):Prop:=(∀G,zC b c B G)
def Gr(b:aK)(c:a8)(B:dV)(a:dy af):Prop:=(
 ∀(G:List (ar×a6)) (m:aq) (w:aX) (j:aw) (A:Bool->aw->Prop),aF b G w j m->B w j A->wpAny (aQ b.prog b.w) b.A (mz c b.env a) (sD b G w A) b.cE m)
def jB(b:aK)(c:a8)(B:dV):Prop:=(∀a,Gr b c B a)
def jB.pt{B:dV}(e:jB b c B):gC b c B:=e _
def AJ(b:aK)(Q:List a8)(B:es)(Rl:Pos):Prop:=(
 ∀(G:List (ar×a6)) (m:aq) (w:aX) (j:aw) (A:List ah->aw->Prop),aF b G w j m->B w j A->wpAny (aQ b.prog b.w) b.A (spliced<|eT Rl<|bF Q b.env) (Kw b G w A) b.cE m)
def gw(b:aK)(Q:List a8)(B:es):Prop:=(∀Rl,AJ b Q B Rl)
def DG(b:aK)(J:cJ)(B:eG)(G:List (ar×a6)):Prop:=(
 ∀(m:aq) (w:aX) (j:aw) (y:nA),aF b G w j m->B y w j->wpAny (aQ b.prog b.w) b.A (exec J b.env) (o8 b G y) b.cE m)
def hn(b:aK)(J:cJ)(B:eG):Prop:=(∀G,DG b J B G)
def D3(b:aK)(J:List cJ)(B:eG)(G:List (ar×a6)):Prop:=(
 ∀(m:aq) (w:aX) (j:aw) (y:nA),aF b G w j m->B y w j->wpAny (aQ b.prog b.w) b.A (execs J b.env) (o8 b G y) b.cE m)
def hi(b:aK)(J:List cJ)(B:eG):Prop:=(∀G,D3 b J B G)
def bK{Ry:Type}{B:dy Ry}{A a:Ry->aq->Prop}{az:gy}(e:wpAny az O B A Q7 m)(b:∀g m,A g m->a g m):wpAny az O B a Q7 m:=fY e b λ_ Y d=>d
section
variable{b:aK}
def hl(a:Nat):bP:=(λw j A=>∃q,w[a]?=Z (Z q)/\A q j)
def nZ(q:ah):bP:=(λ_ j A=>A q j)
def Ag(k:b.N[a]?=Z d)(l:tn b.env.scope d)(hd:(d==("__debug__" : aC))=ax:=by decide)(n:(d==("__classdict__" : aC))=ax:=by decide):bx b (.Name d Rl) (hl a):=by
 intro G m w j A t e;let⟨@q,c,e⟩:=e;let⟨@H,o,r⟩:=t.loc;let⟨@I,p,C⟩:=r a d q k c l;have fin:eb b G w A I m:=⟨q,j,t,p,e⟩;rcases C with ⟨f,s⟩|⟨f,h,g,i⟩
 ·exact x8 (wpAny_loadName_local t.ok.kind f o s fin) hd
 ·rcases f with f|f
  ·exact x8 (wpAny_loadName_cell t.ok.kind f g i fin) hd
  ·exact x8 (wpAny_loadName_free t.ok.kind f g i fin n) hd
def nj{a v Rl}:bx b (.Constant (.int a) v Rl) (nZ<|.int a):=λ_ Y Y j Y t e=>wpAny_Constant_int ⟨.int a,j,t.tok _,⟨_,rfl⟩,e⟩
def Qh{f v Rl}:bx b (.Constant (.bool f) v Rl) (nZ<|.aG f):=λ_ Y Y j Y t e=>Constant_bool ⟨.aG f,j,t,rfl,e⟩
def eU(b:aK)(d:aC):Prop:=(b.env.kindOf d=Z .globalImplicit)
def Ak(t:aF b G w j m)(a:eU b d)(c:b.aO d=Z I)(e:A I m)(hd:(d==("__debug__" : aC))=ax:=by decide):wpAny (aQ b.prog b.w) b.A (bR (.Name d Rl) b.env) A Q7 m:=
 F5 t.ok.kind a (Calls.loadGlobal_global (by rw[t.ok.glob];exact t.mod.glob.keeps t.ew) c e) hd
def nk(t:aF b G w j m)(a:eU b d)(c:b.aO d=X)(f:e1 d=Z I)(e:A I m)(g:d ≠ "__name__" := by decide)(hd:(d==("__debug__" : aC))=ax:=by decide):wpAny (aQ b.prog b.w) b.A (bR (.Name d Rl) b.env) A Q7 m:=by
 let⟨@h,k,l⟩:=t.mod.blt;exact F5 t.ok.kind a (Calls.loadGlobal_builtin (by rw[t.ok.glob];exact t.mod.glob.keeps t.ew) c (by rw[t.ok.blt];exact k.keeps t.ew) ((l d g).trans f) e) hd
def IP(a:eU b d)(c:b.aO d=X)(f:e1 d=Z I)(p:bW q I)(g:d ≠ "__name__" := by decide)(hd:(d==("__debug__" : aC))=ax:=by decide):bx b (.Name d Rl) (nZ q):=
 λ_ Y Y j Y t e=>nk t a c f ⟨q,j,t,p,e⟩ g hd
variable{g f:a8}{z R5:bP}{Rl:Pos}
variable{gu k:dV}{d1:List a8}
def B2(B I:dV):dV:=(λw j A=>B w j λh Rb=>if h=ab then I w Rb A else A ax Rb)
def EV(B I:dV):dV:=(λw j A=>B w j λh Rb=>if h=ab then A ab Rb else I w Rb A)
def PZ(B:dV):dV:=(λw j A=>B w j λh Rb=>A (!h) Rb)
def Oo(a:gC b g gu):jB b (.BoolOp .And [g] Rl) gu:=by
 intro d G m w j A t e;refine isTrue_and (bK (a G m w j A t e) λh f c=>?_);cases h with
 |true=>exact isTrue_and_nil c
 |false=>exact c
def QA(a:gC b g gu):jB b (.BoolOp .Or [g] Rl) gu:=by
 intro d G m w j A t e;refine isTrue_or (bK (a G m w j A t e) λh f c=>?_);cases h with
 |false=>exact isTrue_or_nil c
 |true=>exact c
def KU(d:gC b g gu)(i:jB b (.BoolOp .And (f::d1) Rl) k):jB b (.BoolOp .And (g::f::d1) Rl) (B2 gu k):=by
 intro l G m w j A t e;refine isTrue_and (bK (d G m w j _ t e) λh n o=>?_);let⟨@Rb,a,c⟩:=o;cases h with
 |true=>exact i l G n w Rb A a c
 |false=>exact⟨Rb,a,c⟩
def IG(d:gC b g gu)(i:jB b (.BoolOp .Or (f::d1) Rl) k):jB b (.BoolOp .Or (g::f::d1) Rl) (EV gu k):=by
 intro l G m w j A t e;refine isTrue_or (bK (d G m w j _ t e) λh n o=>?_);let⟨@Rb,a,c⟩:=o;cases h with
 |true=>exact⟨Rb,a,c⟩
 |false=>exact i l G n w Rb A a c
def ND(a:gC b g gu):gC b (.UnaryOp .Not g Rl) (PZ gu):=by
 intro G m w j A t e;exact isTrue_not (a G m w j (λh Rb=>A (!h) Rb) t e)
def O3(z R5:bP):bP:=(λw j A=>z w j λd Rb=>∃h,d=.aG h/\if h=ab then R5 w Rb A else A (.aG ax) Rb)
def G3(z:bP):bP:=(λw j A=>z w j λd Rb=>∃h,d=.aG h/\A (.aG<|!h) Rb)
def JS{RL}{B:bP}(e:bx b g B):bx b (.BoolOp RL [g] Rl) B:=λG m w j A t a=>BoolOp_one (e G m w j A t a)
def Ox(i:bx b g z)(k:bx b (.BoolOp .And (f::d1) Rl) R5):bx b (.BoolOp .And (g::f::d1) Rl) (O3 z R5):=by
 intro G m w j A t e;refine BoolOp_and (bK (i G m w j _ t e) λq l n=>?_);let⟨d,@Rb,c,o,a⟩:=n;let⟨@h,rfl,a⟩:=a;cases o;refine md ?_;cases h with
 |true=>exact k G l w Rb A c a
 |false=>exact⟨.aG ax,Rb,c,rfl,a⟩
def Jp(c:bx b g z):bx b (.UnaryOp .Not g Rl) (G3 z):=by
 intro G m w j A t e;refine UnaryOp_ (bK (c G m w j _ t e) λq l f=>?_);let⟨d,@Rb,i,k,a⟩:=f;let⟨@h,rfl,a⟩:=a;cases k;exact not_of (md ⟨.aG<|!h,Rb,i,rfl,a⟩)
def Ph(B:dV)(z R5:bP):bP:=(λw j A=>B w j λh Rb=>if h=ab then z w Rb A else R5 w Rb A)
def Hd(i:gC b h gu)(k:bx b g z)(l:bx b f R5):bx b (.IfExp h g f Rl) (Ph gu z R5):=by
 intro G m w j A t e;refine wpAny_IfExp (bK (i G m w j _ t e) λu a n=>?_);let⟨@Rb,c,d⟩:=n;cases u with
 |true=>exact k G a w Rb A c d
 |false=>exact l G a w Rb A c d
end
def cW(R:Φ)(j:aw)(g:ar)(x:List ah):Prop:=(
 j2 j g (.lst x)\/
  ∃(Y:a6) (Rf:Array af) (s:Nat),R.lookup g=Z Y/\Y.cls=.type "list" /\ Y.dict=X/\Y.data=.seq Rf s/\Rf.size<=sizeLine/\bN x Rf.toList)
def cj(R:Φ)(j:aw)(g:ar)(x:List ah):Prop:=(
 j2 j g (.tup x)\/
  ∃(Y:a6) (Rf:Array af) (s:Nat),R.lookup g=Z Y/\Y.cls=.type "tuple" /\ Y.data=.seq Rf s/\Rf.size<=sizeLine/\bN x Rf.toList)
def MO:af->Option ah
 |.none=>Z .aW
 |.bool f=>Z (.aG f)
 |.int a _=>Z (.int a)
 |.str d _=>Z (.str d)
 |.bytes f _=>Z (.p_ f)
 |.float f _=>Z (.wq f)
 |.ref g=>Z (.ref g)
 |.type s=>Z (.ty s)
 |_=>X
def bW.abs{d:ah}(p:bW d I):MO I=Z d:=by
 cases d with
 |aW=>cases p;rfl
 |aG _=>cases p;rfl
 |int _=>let⟨@B,rfl⟩:=p;rfl
 |str _=>let⟨@B,rfl⟩:=p;rfl
 |p_ _=>let⟨@B,rfl⟩:=p;rfl
 |wq _=>let⟨@B,rfl⟩:=p;rfl
 |ref _=>cases p;rfl
 |ty _=>cases p;rfl
def bW.inj{d:ah}(p:bW d I)(r:bW i I):d=i:=Option.some.inj (p.abs.symm.trans r.abs)
theorem bN.inj:∀{x Rj:List ah}{Rv:List af},bN x Rv->bN Rj Rv->x=Rj
 |_,_,_,.nil,.nil=>rfl
 |_,_,_,.cons p B,.cons RS RF=>by rw[p.inj RS,bN.inj B RF]
section
variable{b:aK}{G:List (ar×a6)}{w:aX}{j:aw}{m:aq}{g:ar}{x Rj:List ah}
def cW.of(e:j g=Z (.lst x)):cW R j g x:=.inl (.inl e)
def cj.of(e:j g=Z (.tup x)):cj R j g x:=.inl (.inl e)
def aF.list(t:aF b G w j m)(e:cW b.K j g x):∃Rf:List af,bN x Rf/\PlainL m.heap g Rf.toArray/\x.length<=sizeLine:=by
 rcases e with e|⟨Y,Rf,s,a,d,hd,f,aN,p⟩
 ·let@⟨z,⟨Rf,@s,p,c⟩⟩:=e.ok t.aZ;exact⟨Rf,p,⟨_,s,c,rfl,rfl,rfl⟩,z⟩
 ·refine⟨Rf.toList,p,⟨Y,s,t.nL g Y a,d,hd,by simpa using f⟩,?_⟩;have c:=p.length;simp only[fB]at c;lia
def aF.tuple(t:aF b G w j m)(e:cj b.K j g x):∃Rf:List af,bN x Rf/\mP m.heap g Rf.toArray/\x.length<=sizeLine:=by
 rcases e with e|⟨Y,Rf,s,a,d,f,aN,p⟩
 ·let@⟨h,⟨@Rf,p,o⟩⟩:=e.ok t.aZ;exact⟨Rf,p,o.tup,h⟩
 ·refine⟨Rf.toList,p,⟨Y,t.nL g Y a,d,s,by simpa using f⟩,?_⟩;have c:=p.length;simp only[fB]at c;lia
def aF.Ki(t:aF b G w j m)(e:cW b.K j g x)(S:cW b.K j g Rj):x=Rj:=by
 let⟨@Rf,p,⟨Y,@s,c,W,W,u⟩,W⟩:=t.list e;let⟨@J,RS,⟨M,@f,a,W,W,d⟩,W⟩:=t.list S;rw[c]at a;cases a;rw[u]at d;injection d with RO _;have:Rf=J:=by simpa using congrArg Array.toList RO
 subst this;exact p.inj RS
def aF.vC(t:aF b G w j m)(e:cj b.K j g x)(S:cj b.K j g Rj):x=Rj:=by
 let⟨@Rf,p,⟨@Y,c,W,⟨@s,u⟩⟩,W⟩:=t.tuple e;let⟨@J,RS,⟨@M,a,W,⟨@f,d⟩⟩,W⟩:=t.tuple S;rw[c]at a;cases a;rw[u]at d;injection d with RO _;have:Rf=J:=by simpa using congrArg Array.toList RO
 subst this;exact p.inj RS
end
abbrev aK.kh(b:aK)(Q7:af->aq->Prop):aK:={b with cE:=Q7}
abbrev aK.mZ(b:aK):aK:=b.kh λ_ _=>False
def aK.Ok.kh(ok:b.Ok)(Q7:af->aq->Prop):(b.kh Q7).Ok:=
 ⟨ok.mod,ok.kind,ok.glob,ok.blt,ok.above,ok.inj,ok.has,ok.mN,ok.hd,ok.frames,ok.qc,ok.wI,ok.bs,ok.k4,ok.mx,ok.oE,ok.iu,ok.nz⟩
def aK.Ok.ma(ok:(b.kh Q7).Ok):b.Ok:=
 ⟨ok.mod,ok.kind,ok.glob,ok.blt,ok.above,ok.inj,ok.has,ok.mN,ok.hd,ok.frames,ok.qc,ok.wI,ok.bs,ok.k4,ok.mx,ok.oE,ok.iu,ok.nz⟩
section
variable{b:aK}{G:List (ar×a6)}{w:aX}{j:aw}{m:aq}{Q7:af->aq->Prop}
def aF.kh(t:aF b G w j m)(Q7:af->aq->Prop):aF (b.kh Q7) G w j m:=⟨t.ok.kh Q7,t.os,t.bare,t.base,t.loc,t.cell,t.free,t.i4,t.pin,t.aZ,t.len⟩
def aF.ma(t:aF (b.kh Q7) G w j m):aF b G w j m:=⟨t.ok.ma,t.os,t.bare,t.base,t.loc,t.cell,t.free,t.i4,t.pin,t.aZ,t.len⟩
def o8.ma{y:nA}{N:Flow}(e:o8 (b.kh Q7) G y N T):o8 b G y N T:=by
 cases N with
 |next=>let⟨a,@F,t,r⟩:=e;exact⟨a,F,t.ma,r⟩
 |brk=>let⟨a,@F,t,r⟩:=e;exact⟨a,F,t.ma,r⟩
 |cont=>let⟨a,@F,t,r⟩:=e;exact⟨a,F,t.ma,r⟩
 |ret I=>let⟨q,a,@F,t,p,r⟩:=e;exact⟨q,a,F,t.ma,p,r⟩
def hi.mZ{J:List cJ}{B:eG}(e:hi b.mZ J B):hi b J B:=λG m w j y t a=>
 fY (e G m w j y (t.kh _) a) (λ_ Y r=>r.ma) λ_ Y c=>False.elim c
end
section
variable{b:aK}{J:cJ}{d1:List cJ}{B I:eG}{c:a8}{R6:bP}{Rl:Pos}
def Np:eG:=(λy w j=>y.bj w j)
def zZ(B I:eG):eG:=(λy w j=>B {y with bj:=I y} w j)
def Nj:hi b [] Np:=λ_ Y w j Y t e=>sG ⟨w,j,t,e⟩
def O0(k:hn b J B)(l:hi b d1 I):hi b (J::d1) (zZ B I):=by
 intro G m w j y t e;refine Ad (bK (k G m w j {y with bj:=I y} t e) λN a r=>?_);cases N with
 |next=>
  let⟨c,@F,d,r⟩:=r;exact l G a c F y d r
 |ret q=>exact r
 |brk=>exact r
 |cont=>exact r
def HU(k:hn b J B):hi b [J] B:=by
 intro G m w j y t e;refine Ad (bK (k G m w j y t e) λN a r=>?_);cases N with
 |next=>exact sG r
 |ret q=>exact r
 |brk=>exact r
 |cont=>exact r
def aF.quiet(t:aF b G w j m):interactive b.env=ax:=by simp[interactive,t.ok.kind]
def NC(R6:bP):eG:=(λy w j=>R6 w j λ_ Rb=>y.bj w Rb)
def Oy(a:bx b c R6)(f:m8 c X Rl.line b.env=pure ax:=by rfl):hn b (.Expr c Rl) (NC R6):=by
 intro G m w j y t e;exact wpAny_Expr_any (bK (a G m w j _ t e) λq i ⟨d,Rb,g,k,h⟩=>⟨w,Rb,g,h⟩) t.quiet f
def L8(R6:bP):eG:=(λy w j=>R6 w j y.eo)
def PW(a:bx b c R6):hn b (.Return (Z c) Rl) (L8 R6):=by
 intro G m w j y t e;exact wpAny_Return_some (bK (a G m w j _ t e) λq i ⟨d,Rb,f,g,h⟩=>⟨d,w,Rb,f,g,h⟩)
def K4(h:dV)(B I:eG):eG:=(λy w j=>h w j λf Rb=>if f=ab then B y w Rb else I y w Rb)
def Qs{g f:List cJ}(i:gC b h Sm)(k:hi b g B)(l:hi b f I):hn b (.If h g f Rl) (K4 Sm B I):=by
 intro G m w j y t e;refine wpAny_If (bK (i G m w j _ t e) λu a n=>?_);let⟨@Rb,c,d⟩:=n;cases u with
 |true=>exact k G a w Rb y c d
 |false=>exact l G a w Rb y c d
end
abbrev fF:=ah->aX->aw->(aX->aw->Prop)->Prop
abbrev i8:=List ah->aX->aw->(aX->aw->Prop)->Prop
def Eg(b:aK)(c:a8)(B:fF)(G:List (ar×a6)):Prop:=(
 ∀(m:aq) (w:aX) (j:aw) (q:ah) (I:af) (A:aX->aw->Prop),aF b G w j m->bW q I->B q w j A->
  wpAny (aQ b.prog b.w) b.A (hA c b.env I) (λ_ T=>∃a F,aF b G a F T/\A a F) b.cE m)
def i2(b:aK)(a:a8)(B:fF):Prop:=(∀G,Eg b a B G)
def Ft(b:aK)(c:List a8)(B:i8)(G:List (ar×a6)):Prop:=(
 ∀(m:aq) (w:aX) (j:aw) (ae:List ah) (Rv:List af) (A:aX->aw->Prop),aF b G w j m->bN ae Rv->B ae w j A->
  wpAny (aQ b.prog b.w) b.A (tP ((eI c b.env).map (·.2)) Rv) (λ_ T=>∃a F,aF b G a F T/\A a F) b.cE m)
def mW(b:aK)(a:List a8)(B:i8):Prop:=(∀G,Ft b a B G)
abbrev yz:=ah->ah->ah->aw->(aw->Prop)->Prop
def uG(b:aK)(B:yz):Prop:=(
 ∀(G:List (ar×a6)) (m:aq) (w:aX) (j:aw) (Y a q:ah) (c d I:af) (A:aw->Prop),aF b G w j m->bW Y c->bW a d->bW q I->B Y a q j A->
  wpAny (aQ b.prog b.w) b.A (oY c d I) (λ_ T=>∃F,aF b G w F T/\A F) b.cE m)
abbrev CT:=ah->ah->aw->b2->Prop
def CM(b:aK)(RL:m5)(B:CT):Prop:=(
 ∀(G:List (ar×a6)) (m:aq) (w:aX) (j:aw) (d i:ah) (q I:af) (A:b2),aF b G w j m->bW d q->bW i I->B d i j A->
  wpAny (aQ b.prog b.w) b.A (inplaceOp RL q I) (eb b G w A) b.cE m)
section
variable{b:aK}{Rl:Pos}
def vQ(a:Nat):fF:=(λq w j A=>A (w.set a<|Z q) j)
def Jq(c:b.N.Nodup)(U:b.N[a]?=Z d)(f:jc b.env.scope d)(g:b.fn d=ab\/b.env.scope.names.lookup d=Z .local:=by first|exact .inl rfl|exact .inr rfl|assumption):i2 b (.Name d Rl) (vQ a):=by
 intro G m w j q I A t p e;exact CE (tk t c U f p (λT h=>⟨_,j,h,e⟩) g)
def J1:i8:=(λae w j A=>ae=[]/\A w j)
def HS(B:fF)(I:i8):i8:=(λae w j A=>∃q p,ae=q::p/\B q w j λa F=>I p a F A)
def Hs:mW b [] J1:=by
 intro G m w j ae Rv A t p e;let@⟨c,e⟩:=e;subst c;cases p;exact Bo ⟨w,j,t,e⟩
def Qd{B:fF}{I:i8}(k:i2 b c B)(l:mW b Q I)(a:(eI (c::Q) b.env).map (·.2)=hA c b.env::(eI Q b.env).map (·.2):=by rfl):mW b (c::Q) (HS B I):=by
 intro G m w j ae Rv A t p e;let⟨q,@o,d,e⟩:=e;subst d;cases p with
 |cons p f=>
  rw[a];refine w0 (bK (k G m w j _ _ _ t p e) λ_ g h=>?_);let⟨Sh,@Rb,i,n⟩:=h;exact l G g Sh Rb _ _ A i f n
def Jt(R:Φ)(s:Nat)(B:i8):fF:=(λq w j A=>∃g x,q=.ref g/\cj R j g x/\x.length=s/\B x w j A)
def Hh{B:i8}(h:b.calm=ab)(e:mW b Q B)(i:(eI Q b.env).length=s:=by rfl)(k:(eI Q b.env).findIdx? (·.1)=X:=by rfl):i2 b (.Tuple Q n Rl) (Jt b.K s B):=by
 intro G m w j q I A t p a;let⟨g,@x,l,o,r,a⟩:=a;subst l;cases p;let⟨@Rf,d,u,aN⟩:=t.tuple o;refine assign_Tuple_tuple (t.ok.hd h) u (by simp[i,<-r,d.length]) k λS v=>?_;have y:aF b G w j {m with heap:=S}:=t.kept (RF:=m.toks) λf Y c=>v f Y (dg<|b6 c) c;exact e G _ w j x _ A y ⇑d a
def Mr(y b:bP)(B:yz):fF:=(λq w j A=>y w j λY Rb=>b w Rb λa Ro=>B Y a q Ro λc=>A w c)
def NA{Y a:a8}{y h:bP}{B:yz}(k:bx b Y y)(U:bx b a h)(l:uG b B)(n:∀q,hA (.Subscript Y a Rl) b.env q=(do
   let c <-holding [q] (bR Y b.env)
   let f <-holding [q,c] (bR a b.env)
   standAt Rl
   holding [q,c,f] (oY c f q)
   release [q,c,f] []):=by intro W;rfl):i2 b (.Subscript Y a Rl) (Mr y h B):=by
 intro G m w j q I A t p e;rw[n];refine ay (fL<|bK (k G m w j _ t e) λc o g=>?_);let⟨d,@Rb,r,s,u⟩:=g;refine ay (fL<|bK (U G o w Rb _ r u) λf v g=>?_);let⟨i,@Ro,x,z,C⟩:=g;refine ay (qt<|ay<|fL<|bK (l G v w Ro d i q c f I _ x s z p C) λ_ H g=>?_);let⟨@D,E,F⟩:=g;exact wpAny_release ⟨w,D,E,F⟩
def uI(R6:bP)(L:fF):eG:=(λy w j=>R6 w j λd Rb=>L d w Rb y.bj)
def Na{L:fF}(a:bx b c R6)(f:i2 b RD L)(g:s8 [RD] c Rl.line b.env=pure ax:=by rfl)(h:th [RD] c b.env=pure X:=by rfl)(k:(eI [RD] b.env).map (·.2)=[hA RD b.env]:=by rfl):hn b (.Assign [RD] c Rl) (uI R6 L):=by
 intro G m w j y t e;refine wpAny_Assign_stores (bK (a G m w j _ t e) λq i ⟨d,Rb,l,n,o⟩=>?_) g h;rw[k];exact bK (f G i w Rb d q _ l n o) λ_ p r=>r
def MD{B:Pos}(f:b.N.Nodup)(U:b.N[a]?=Z d)(g:jc b.env.scope d)(h:bx b c R6)(k:m8 c (Z<|.Name d B) Rl.line b.env=pure ax:=by rfl)(l:b.fn d=ab\/b.env.scope.names.lookup d=Z .local:=by first|exact .inl rfl|exact .inr rfl|assumption):
  hn b (.Assign [.Name d B] c Rl) (uI R6<|vQ a):=by
 intro G m w j y t e;refine wpAny_Assign_Name (bK (h G m w j _ t e) λq s ⟨i,Rb,n,o,p⟩=>?_) k;exact tk n f U g o (λu r=>⟨_,Rb,r,p⟩) l
def PH(a v:Nat)(z:es):eG:=(λy w j=>z w j λae Rb=>∃q D,ae=[q,D]/\y.bj ((w.set a<|Z q).set v<|Z D) Rb)
def MV{i:aC}{g f:a8}{n p pt:Pos}{M RJ s}(H:b.calm=ab)(x:b.N.Nodup)(U:b.N[a]?=Z d)(I:b.N[v]?=Z i)(J:a≠v)(B:b.env.scope.names.lookup d=Z .local)(E:b.env.scope.names.lookup i=Z .local)(L:gw b [g,f] z)(P:th [.Tuple [.Name d n,.Name i p] M pt] (.Tuple [g,f] RJ s) b.env=pure (Z [d,i]))(Q:s8 [.Tuple [.Name d n,.Name i p] M pt] (.Tuple [g,f] RJ s) Rl.line b.env=pure ax:=by rfl):
  hn b (.Assign [.Tuple [.Name d n,.Name i p] M pt] (.Tuple [g,f] RJ s) Rl) (PH a v z):=by
 intro G m w j y t e;rw[exec_Assign_arm];refine ay (qt ?_);rw[Q];refine ay (a3 ?_);rw[aD ∅];refine ay (Tuple_<|bK (L _ G m w j _ t e) λRv h R=>?_);let⟨ae,@Rb,T,al,u⟩:=R;let⟨q,@D,am,u⟩:=u;subst am;obtain⟨k,l,rfl,an,ap⟩:∃k l,Rv=[k,l]/\bW q k/\bW D l:=by
  cases al with
  |cons o r=>
   cases r with
   |cons as a1=>
    cases a1;exact⟨_,_,rfl,o,as⟩
 refine hs ?_ (by show 2<=sizeLine;decide);have a2:aF b G w Rb {h with heap:=h.heap.push {cls:=.type "tuple",data:=.seq [k,l].toArray} }:=T.kept (RF:=h.toks) λf Y c=>cp _ c;rw[P];refine ay (a3 ?_);show wpAny (aQ b.prog b.w) b.A (do rule "assign.swapped-stores";let Rm <-yp (.ref h.heap.objs.size) 2 X;tP [λq=>s9 b.env i q,λq=>s9 b.env d q] Rm.reverse;pure Flow.next) _ _ _;refine ay (ir<|ay<|unpackItems_tuple (items:=#[k,l]) (t.ok.hd H) (mP.new h.heap _) λS bd=>?_);have be:=a2.kept (S:=S) (RF:=h.toks) λf Y c=>bd f Y (dg<|b6 c) c;show wpAny _ _ (tP [λq=>s9 b.env i q,λq=>s9 b.env d q] [l,k] >>= λ_=>pure Flow.next) _ _ _;refine ay (w0<|Cm<|tk be x I (.inl E) ap (λbm bi=>?_)<|.inr E);refine w0 (Cm<|tk bi x U (.inl B) an (λbn F=>Bo<|a3 ?_)<|.inr B);rw[yZ _ _ (eu J)]at F;exact⟨_,Rb,F,u⟩
def Cs(N:Int->Int->Int):CT:=(λd i j A=>∃a v,d=.int a/\i=.int v/\A (.int<|N a v) j)
def FD:CM b .Add (Cs λa v=>a+v):=by
 intro G m w j d i q I A t c f e;let⟨a,@v,g,h,r⟩:=e;subst g;subst h;let⟨@B,rfl⟩:=c;let⟨@RF,rfl⟩:=f;exact iadd_int ⟨.int _,j,t.tok _,⟨_,rfl⟩,r⟩
def HJ(h:dV)(R5:eG):eG:=(λy w j=>∃W:Nat->aX->aw->Prop,(∃H,W H w j)/\∀H w j,W H w j->
 h w j λf Rb=>if f=ab then ∃RG:aX->aw->Prop,(∀a F,RG a F->∃b,b<H/\W b a F)/\R5 {y with bj:=RG,cx:=RG,ew:=y.bj} w Rb else y.bj w Rb)
def Kv(p:pW (aQ b.prog b.w) b.A b.env b.cE)(x:gC b h Sm)(z:hi b Sg R5):hn b (.While h Sg [] Rl) (HJ Sm R5):=by
 intro G m w j y t e;let⟨@W,⟨@B,C⟩,turn⟩:=e;refine wpAny_While (codeAny_whileLoop (λs T=>∃r F,aF b G r F T/\W s r F) ?_ B ⟨w,j,t,C⟩);rintro s E ⟨Sh,Rb,H,cY⟩;refine mC p (bK (x G E Sh Rb _ H<|turn s Sh Rb cY) λf I J=>?_);let⟨@Ro,u,d⟩:=J;cases f with
 |true=>
  let⟨@RG,v,d⟩:=d;rw[aB rfl];refine mC p (bK (z G I Sh Ro _ u d) λN L g=>?_);cases N with
  |next=>
   let⟨a,@c,i,k⟩:=g;let⟨@l,n,o⟩:=v a c k;exact⟨l,n,a,c,i,o⟩
  |cont=>
   let⟨a,@c,i,k⟩:=g;let⟨@l,n,o⟩:=v a c k;exact⟨l,n,a,c,i,o⟩
  |brk=>exact g
  |ret q=>exact g
 |false=>
  rw[aD c_];exact sG ⟨Sh,Ro,u,d⟩
end
structure eM where
 go:Nat->aw->Prop
 qU:Nat->aw->ah->aw->Prop
 stop:Nat->aw->Prop
def jI(b:aK)(G:List (ar×a6))(j:aw)(f:ar):Prop:=(
 j f=X/\f≠b.env.locals/\f∉b.aa/\(f∈b.ex\/b.eC.heap.objs.size<=f)/\(∀d h,b.env.cells.lookup d=Z h->h≠f)/\∀o∈b.jw++G,o.1≠f)
def aF.sN(t:aF b G w j m)(a:m.heap.objs.size<=f)(g:F f=X):jI b G F f:=by
 refine⟨g,kQ<|ep t.lt a,t.Pd a,.inr<|dD t.kj a,λd h c e=>?_,λo i e=>?_⟩
 ·let⟨@q,r⟩:=t.cell d h c;exact absurd (ep r.lt (by rw[e];exact a)) (iX _)
 ·exact absurd (ep (b6 (t.pin o i).1) (by rw[e];exact a)) (iX _)
structure qr(Ri:bz)(D:bg)(R:Φ)(RD:a8)(R1:eM)(b1:List ar)(ao:ar)(J:Nat->a4->Prop):Prop where
 mem:ao∈b1
 obj:∀a e,J a e->∀f∈b1,∃Y,e.get? f=Z Y/\∀q,Y.data≠.cell q
 keep:∀a e S,J a e->(∀f∈b1,∀Y,e.get? f=Z Y->S.get? f=Z Y)->J a S
 item:∀(b:aK),b.prog=Ri->b.w=D->b.K=R->b.calm=ab->∀(a:Nat) (G:List (ar×a6)) (m:aq) (w:aX) (j:aw) (Q7:af->aq->Prop),aF b G w j m->(∀f∈b1,jI b G j f)->J a m.heap->R1.go a j->
  wpAny (aQ Ri D) b.A (hc<|.ref ao) (λp s1=>∃I,p=Z I/\
   wpAny (aQ Ri D) b.A (pH RD (.ref ao) I) (λ_ s2=>∃d F,aF b G w F s2/\bW d I/\R1.qU a j d F/\J (a+1) s2.heap/\∀f∈b1,F f=X) Q7 s1) Q7 m
 done:∀(b:aK),b.prog=Ri->b.w=D->b.K=R->b.calm=ab->∀(a:Nat) (G:List (ar×a6)) (m:aq) (w:aX) (j:aw) (Q7:af->aq->Prop),aF b G w j m->(∀f∈b1,jI b G j f)->J a m.heap->R1.stop a j->
  wpAny (aQ Ri D) b.A (hc<|.ref ao) (λp s1=>p=X/\aF b G w j s1) Q7 m
 self:∀(O:bp) (a:Nat) (m:aq) (A:af->aq->Prop) (Q7:af->aq->Prop),J a m.heap->A (.ref ao) m->wpAny (aQ Ri D) O (te<|.ref ao) A Q7 m
abbrev cX:=aX->aw->(eM->aw->Prop)->Prop
def AU(b:aK)(G:List (ar×a6))(w:aX)(RD:a8)(Q8:eM->aw->Prop)(c:af)(a:aq):Prop:=(
 ∃(ao:ar) (b1:List ar) (J:Nat->a4->Prop) (R1:eM) (F:aw),c=.ref ao/\aF b G w F a/\qr b.prog b.w b.K RD R1 b1 ao J/\J 0 a.heap/\(∀f∈b1,jI b G F f)/\Q8 R1 F)
def CJ(b:aK)(RD RX:a8)(eJ:cX)(G:List (ar×a6)):Prop:=(
 ∀(m:aq) (w:aX) (j:aw) (Q8:eM->aw->Prop),aF b G w j m->eJ w j Q8->
  wpAny (aQ b.prog b.w) b.A (bR RX b.env) (λq a=>wpAny (aQ b.prog b.w) b.A (te q) (AU b G w RD Q8) b.cE a) b.cE m)
def kL(b:aK)(RD RX:a8)(eJ:cX):Prop:=(∀G,CJ b RD RX eJ G)
def uH{az:gy}{Q7:af -> aq -> Prop}{ao:ar}{Y:a6}{s:String}{ae:Array af}{A:Unit -> aq -> Prop}(b:m.heap.get? ao=Z Y)(c:Y.cls=.type s)(hd:Y.data=.fields ae)(d:["enumerate", "zip", "dict_itemiterator", "dict_reverseitemiterator", "odict_iterator", "itertools.zip_longest", "itertools.pairwise"].contains s=ax)(a:A () m): wpAny az O (pH RD (.ref ao) I) A Q7 m:=by
  unfold pH;cases RD <;> first
    | exact a3 a
    | (cases I <;> first
        | exact a3 a
        | (refine ay (wpAny_load b ?_)
           rw [c,hd];show wpAny az O (if (["enumerate", "zip", "dict_itemiterator", "dict_reverseitemiterator", "odict_iterator", "itertools.zip_longest", "itertools.pairwise"].contains s&&ae[0]? == Z (jn _))=ab then _ else _) A Q7 m;rw [aD (by intro e; rw [d,zM]at e; cases e)];exact a3 a))
def qw(R:Φ)(g:ar):eM:=(
 ⟨λa j=>∃x d,cW R j g x/\x[a]?=Z d,λa j d F=>F=j/\∀x,cW R j g x->x[a]?=Z d,λa j=>∃x,cW R j g x/\x.length<=a⟩)
def t8(R:Φ)(g:ar):eM:=(
 ⟨λa j=>∃x d,cj R j g x/\x[a]?=Z d,λa j d F=>F=j/\∀x,cj R j g x->x[a]?=Z d,λa j=>∃x,cj R j g x/\x.length<=a⟩)
def sC(M:Int)(s:Nat):eM:=(⟨λa Y=>a<s,λa j d F=>F=j/\d=.int (M+a),λa Y=>s<=a⟩)
theorem HI(g ao:ar):qr Ri D R RD (qw R g) [ao] ao (λa e=>e.IsListIter ao g a) where
 mem:=by simp
 obj:=λa e J f i=>by
  have c:f=ao:=by simpa using i
  subst c;let⟨@Y,c,h,u⟩:=J;exact⟨Y,c,λq F=>by rw[u]at F;cases F⟩
 keep:=λa e S J n=>J.at λY c=>n ao ↥0 Y c
 item:=by
  intro b p r s H a G m w j Q7 t k J v;subst p r s;let⟨x,@d,l,y⟩:=v;let⟨@Rf,z,o,aN⟩:=t.list l;let⟨@I,M,N⟩:=z.get y;let@⟨Rn,A,O,B,C,E⟩:=k ao ↥0;refine zj J o.isList (x:=I) ⇑M λS L cy=>?_;have P:aF b G w j {m with heap:=S}:=t.turned (RF:=m.toks) (λf Y i c=>(cy.2 f i).trans c) Rn A B C E;let⟨@Y,c,h,u⟩:=id L;exact⟨I,rfl,uH (m:={m with heap:=S}) c h u ∅ ⟨d,j,P,N,⟨rfl,λRj Q=>by rw[t.Ki Q l];exact y⟩,L,λf i=>(k f i).1⟩⟩
 done:=by
  intro b p r s H a G m w j Q7 t k J v;subst p r s;let⟨@x,l,y⟩:=v;let⟨@Rf,z,o,aN⟩:=t.list l;let@⟨Rn,A,O,B,C,E⟩:=k ao ↥0;have U:=z.length;exact FA (t.ok.hd H) J o.isList (by simp;lia) λS T=>⟨rfl,t.turned (RF:=m.toks) (λf Y i c=>T f Y i c) Rn A B C E⟩
 self:=λ_ W W W W J e=>wpAny_pyIter_listiter J e
theorem OL(g ao:ar):qr Ri D R RD (t8 R g) [ao] ao (λa e=>e.IsTupleIter ao g a) where
 mem:=by simp
 obj:=λa e J f i=>by
  have c:f=ao:=by simpa using i
  subst c;let⟨@Y,c,h,u⟩:=J;exact⟨Y,c,λq F=>by rw[u]at F;cases F⟩
 keep:=λa e S J n=>J.at λY c=>n ao ↥0 Y c
 item:=by
  intro b p r s H a G m w j Q7 t k J v;subst p r s;let⟨x,@d,l,y⟩:=v;let⟨@Rf,z,o,aN⟩:=t.tuple l;let⟨@I,M,N⟩:=z.get y;let@⟨Rn,A,O,B,C,E⟩:=k ao ↥0;refine wpAny_pyNext_tuple_item J (show m.heap.IsTuple g Rf.toArray from o) (x:=I) ⇑M λS L cy=>?_;have P:aF b G w j {m with heap:=S}:=t.turned (RF:=m.toks) (λf Y i c=>(cy.2 f i).trans c) Rn A B C E;let⟨@Y,c,h,u⟩:=id L;exact⟨I,rfl,uH (m:={m with heap:=S}) c h u ∅ ⟨d,j,P,N,⟨rfl,λRj Q=>by rw[t.vC Q l];exact y⟩,L,λf i=>(k f i).1⟩⟩
 done:=by
  intro b p r s H a G m w j Q7 t k J v;subst p r s;let⟨@x,l,y⟩:=v;let⟨@Rf,z,o,aN⟩:=t.tuple l;let@⟨Rn,A,O,B,C,E⟩:=k ao ↥0;have U:=z.length;exact wpAny_pyNext_tuple_end (t.ok.hd H) J (show m.heap.IsTuple g Rf.toArray from o) (by simp;lia) λS T=>⟨rfl,t.turned (RF:=m.toks) (λf Y i c=>T f Y i c) Rn A B C E⟩
 self:=λ_ W W W W J e=>wpAny_pyIter_tupleiter J e
theorem OE(ao:ar)(M:Int)(s:Nat):qr Ri D R RD (sC M s) [ao] ao (λa e=>IsRangeIter e ao (M+(a:Nat)*1) ((s:Int)-(a:Nat)) 1) where
 mem:=by simp
 obj:=λa e J f d=>by
  have c:f=ao:=by simpa using d
  subst c;exact⟨_,J,λq y=>by
   have z:Data.fields _=Data.cell q:=y;cases z⟩
 keep:=λa e S J n=>n ao ↥0 _ J
 item:=by
  intro b h i k l a G m w j Q7 t g J o;subst h i k;let@⟨Rn,p,A,r,u,v⟩:=g ao ↥0;have W:=mK.range (prog:=b.prog) (w:=b.w) (t.ok.hd l) ao M 1 s;refine W.item a m _ _ o J λq S RN C x E=>?_;let⟨@B,rfl⟩:=C;have F:aF b G w j {m with heap:=S,toks:=RN}:=t.turned (λf Y d c=>E f Y ⇑d c) Rn p r u v;refine⟨_,rfl,uH (m:={m with heap:=S,toks:=RN}) (s := "range_iterator") x rfl rfl ∅ ⟨.int<|M+a,j,F,⟨B,?_⟩,⟨rfl,rfl⟩,x,λf d=>(g f d).1⟩⟩;rw[Cx]
 done:=by
  intro b h i k l a G m w j Q7 t g J o;subst h i k;let@⟨Rn,p,A,r,u,v⟩:=g ao ↥0;exact wpAny_pyNext_range_end (t.ok.hd l) J (by have:s<=a:=o;lia) λS H=>⟨rfl,t.turned (RF:=m.toks) (λf Y d c=>H f Y d c) Rn p r u v⟩
 self:=λ_ U U U U J e=>wpAny_pyIter_rangeiter J e
section
variable{b:aK}{RD:a8}
def LB{Q8:eM->aw->Prop}{M U:Int}{B I q:hU}{RN:Nat}(t:aF b G w j m)(k : -(2^62)<=M)(l:M<2^62)(d : -(2^62)<=U)(e:U<2^62)(r:Q8 (sC M (U-M).toNat) j):wpAny (aQ b.prog b.w) b.A (te<|.ref m.heap.objs.size) (AU b G w RD Q8) Q7 {m with heap:=m.heap.push {cls:=.type "range",data:=.fields #[.int M B,.int U I,.int 1 q]},toks:=RN}:=by
 refine wpAny_pyIter_range (IsRange.new ..) (small_one k l d e) ?_;have a:aF b G w j {m with heap:=m.heap.push {cls:=.type "range",data:=.fields #[.int M B,.int U I,.int 1 q]},toks:=RN}:=t.kept λf Y c=>cp _ c;refine⟨(m.heap.push {cls:=.type "range",data:=.fields #[.int M B,.int U I,.int 1 q]}).objs.size,[(m.heap.push {cls:=.type "range",data:=.fields #[.int M B,.int U I,.int 1 q]}).objs.size],_,_,j,rfl,
  a.kept (RF:=RN) λf Y c=>cp _ c,OE _ M (U-M).toNat,?_,λf g=>?_,r⟩
 ·have h:M+((0:Nat):Int)*1=M:=by simp
  have i:(((U-M).toNat:Nat):Int)-((0:Nat):Int)=bq.Range.rangeSize M U 1:=by rw[rangeSize_one];split<;>lia
  show IsRangeIter _ _ (M+((0:Nat):Int)*1) ((((U-M).toNat:Nat):Int)-((0:Nat):Int)) 1;rw[h,i];exact dc _ rfl
 ·have c:f=(m.heap.push {cls:=.type "range",data:=.fields #[.int M B,.int U I,.int 1 q]}).objs.size:=by simpa using g
  subst c;exact a.sN (bD _) (a.aZ.fresh<|bD _)
def NK(z:es):cX:=(λw j Q8=>z w j λae Rb=>∃v:Int,ae=[.int v] /\ -(2^62)<=v/\v<2^62/\Q8 (sC 0 v.toNat) Rb)
def Mj{g:a8}{o:Pos}(d:eU b "range")(f:b.aO "range" = X)(h:gw b [g] z)(i:bF [g] b.env=[(ax,bR g b.env)]:=by rfl):kL b RD (.Call (.Name "range" o) [g] [] Rl) (NK z):=by
 intro G m w j Q8 t e;refine Call_ (nk t d f boot_range<|pX (bK (h Rl G m w j _ t e) λRv s ⟨ae,Rb,k,l,a⟩=>?_) i rfl);let⟨@v,c,a,n,r⟩:=a;subst c;cases l with
 |cons p q=>
  cases q;let⟨@B,rfl⟩:=p;exact call_range_1 (LB k ⋯ ⋯ a n ⇑r)
def As(eJ:cX)(L:fF)(R5:eG):eG:=(λy w j=>eJ w j λR1 Rb=>∃W:Nat->Nat->aX->aw->Prop,(∃H,W 0 H w Rb)/\∀a H w j,W a H w j->
 (R1.stop a j/\y.bj w j)\/(R1.go a j/\∃RG:aX->aw->Prop,(∀b F,RG b F->∃c,c<H/\W (a+1) c b F)/\∀d F,R1.qU a j d F->L d w F λe Ro=>R5 {y with bj:=RG,cx:=RG,ew:=y.bj} e Ro))
def lq(b1:List ar)(e:a4):List (ar×a6):=(b1.filterMap λf=>(e.get? f).map λY=>(f,Y))
def rZ{Y:a6}(a:f∈b1)(c:e.get? f=Z Y):(f,Y)∈lq b1 e:=Ai.mpr ⟨f,a,by rw[c];rfl⟩
def Dl{o:ar×a6}(a:o∈lq b1 e):o.1∈b1/\e.get? o.1=Z o.2:=by
 let⟨@f,b,c⟩:=Ai.mp a;cases r:e.get? f with
 |none=>rw[r]at c;cases c
 |some Y=>
  rw[r]at c;have d:(f,Y)=o:=Option.some.inj c;subst d;exact⟨b,r⟩
def aF.pinned(t:aF b G w j m)(g:∀f∈b1,jI b G j f)(h:∀f∈b1,∃Y,m.heap.get? f=Z Y/\∀q,Y.data≠.cell q):aF b (G++lq b1 m.heap) w j m:=
 t.pe λo i=>(dY.mp i).elim (λa=>t.pin o<|en _ a) λa=>by
  let@⟨d,c⟩:=Dl a;let@⟨Rn,k,l,_⟩:=g o.1 d;let⟨@Y,e,u⟩:=h o.1 d;rw[c]at e;cases e;exact⟨c,Rn,k,l,u⟩
def aF.xN{bw:List (ar×a6)}(t:aF b (G++bw) w j m):aF b G w j m:=t.pe λo a=>t.pin o (en _<|eX _ a)
def OF{RX:a8}{eJ:cX}{L:fF}(v:pW (aQ b.prog b.w) b.A b.env b.cE)(R:b.calm=ab)(U:kL b RD RX eJ)(a2:i2 b RD L)(g:hi b Sg R5)(bd:∀d,lD RX b.env d=pure d:=by intro O;rfl):hn b (.For RD RX Sg [] Rl) (As eJ L R5):=by
 intro G m w j y t e;refine wpAny_For (bK (U G m w j _ t e) λq f2 k=>bK k λf4 f8 l=>?_) bd;let⟨ao,b1,J,R1,@Ro,c,be,Rc,bi,S,⟨@W,⟨@bm,bn⟩,turn⟩⟩:=l;subst c;have E:∀{F:aw},(∀f∈b1,F f=X)->∀f∈b1,jI b G F f:=λbs f g=>⟨bs f g,(S f g).2⟩;refine codeAny_forLoop_any (λs T=>∃a x F,aF b G x F T/\J a T.heap/\(∀f∈b1,F f=X)/\W a s x F) ?_ bm ⟨0,w,Ro,be,bi,λf g=>(S f g).1,bn⟩;rintro s al ⟨a,z,C,am,an,ap,bv⟩;rcases turn a s z C bv with ⟨stop,ca⟩|⟨go,RG,cd,step⟩
 ·refine mC v (bK (Rc.done b rfl rfl rfl R a G al z C b.cE am (E ap) an stop) λp ce r=>?_);let@⟨M,ch⟩:=r;subst M;exact sG ⟨z,C,ch,ca⟩
 ·refine mC v (bK (Rc.item b rfl rfl rfl R a G al z C b.cE am (E ap) an go) λp ce r=>?_);let⟨@I,M,ci⟩:=r;subst M;refine mC v (bK ci λ_ as r=>?_);let⟨d,@a1,cl,co,cr,P,cs⟩:=r;have db:=cl.pinned (E cs) (Rc.obj _ _ P);refine mC v (bK (a2 _ as z a1 d I _ db co<|step d a1 cr) λ_ ds r=>?_);let⟨dL,@eq,ev,ex⟩:=r;refine mC v (bK (g _ ds dL eq _ ev ex) λN Q o=>?_);have again:∀{h:aX}{i:aw},aF b (G++lq b1 as.heap) h i Q->RG h i->∃H,H<s/\∃a x F,aF b G x F Q/\J a Q.heap/\(∀f∈b1,F f=X)/\W a H x F:=λ{h i} n B=>by
   let⟨@fd,fn,fr⟩:=cd h i B;refine⟨fd,fn,a+1,h,i,n.xN,Rc.keep _ _ _ P λf g Y c=>(n.pin (f,Y)<|en _<|en _<|rZ g c).1,λf g=>?_,fr⟩;let⟨@Y,c,u⟩:=Rc.obj _ _ P f g;exact (n.pin (f,Y)<|en _<|en _<|rZ g c).2.1
  cases N with
  |next=>let⟨h,@i,n,B⟩:=o;exact again n B
  |cont=>let⟨h,@i,n,B⟩:=o;exact again n B
  |brk=>let⟨h,@i,n,o⟩:=o;exact⟨h,i,n.xN,o⟩
  |ret q=>let⟨f0,h,@i,n,f1,o⟩:=o;exact⟨f0,h,i,n.xN,f1,o⟩
end
abbrev bI:=ah->ah->aw->b2->Prop
variable{RS p:bI}
def dP(b:aK)(N:af->af->dy af)(p:bI):Prop:=(
 ∀(G:List (ar×a6)) (m:aq) (w:aX) (j:aw) (d i:ah) (q I:af) (A:b2),aF b G w j m->bW d q->bW i I->p d i j A->
  wpAny (aQ b.prog b.w) b.A (N q I) (eb b G w A) b.cE m)
def wG(b:aK)(N:af->dy af)(p:ah->aw->b2->Prop):Prop:=(
 ∀(G:List (ar×a6)) (m:aq) (w:aX) (j:aw) (d:ah) (q:af) (A:b2),aF b G w j m->bW d q->p d j A->
  wpAny (aQ b.prog b.w) b.A (N q) (eb b G w A) b.cE m)
def eA(b:aK)(N:af)(p:List ah->aw->b2->Prop):Prop:=(
 ∀(G:List (ar×a6)) (m:aq) (w:aX) (j:aw) (x:List ah) (Rv:List af) (A:b2),aF b G w j m->bN x Rv->p x j A->
  wpAny (aQ b.prog b.w) b.A (call N Rv) (eb b G w A) b.cE m)
def Qm(b:aK)(p:ah->aw->(Bool->aw->Prop)->Prop):Prop:=(
 ∀(G:List (ar×a6)) (m:aq) (w:aX) (j:aw) (d:ah) (q:af) (A:Bool->aw->Prop),aF b G w j m->bW d q->p d j A->
  wpAny (aQ b.prog b.w) b.A (sv q) (sD b G w A) b.cE m)
def rH(p:bI)(z R5:bP):bP:=(λw j A=>z w j λd Rb=>R5 w Rb λi Ro=>p d i Ro A)
def Pk(p:ah->aw->b2->Prop)(z:bP):bP:=(λw j A=>z w j λd Rb=>p d Rb A)
def nR(aP:Int->Int->Prop)(L:Int->Int->ah):bI:=(λd i j A=>∃a v,d=.int a/\i=.int v/\aP a v/\A (L a v) j)
def lT(L:Int->Int->ah):bI:=(λd i j A=>∃a v,d=.int a/\i=.int v/\A (L a v) j)
def Dm(L:Int->ah):ah->aw->b2->Prop:=(λd j A=>∃a,d=.int a/\A (L a) j)
section
variable{b:aK}{g f h:a8}{z R5 Sm:bP}{Rl:Pos}
def wH(h:bx b g z)(k:bx b f R5){G:List (ar×a6)}{m:aq}{w:aX}{j:aw}{Q8:ah->ah->aw->Prop}(t:aF b G w j m)(e:z w j λd Rb=>R5 w Rb λi Ro=>Q8 d i Ro){A:af->aq->Prop}{N:af->af->dy af}(l:∀q I a d i Ro,aF b G w Ro a->bW d q->bW i I->Q8 d i Ro->wpAny (aQ b.prog b.w) b.A (N q I) A b.cE a):
  wpAny (aQ b.prog b.w) b.A (bR g b.env) (λq n=>wpAny (aQ b.prog b.w) b.A (bR f b.env) (λI o=>wpAny (aQ b.prog b.w) b.A (N q I) A b.cE o) b.cE n) b.cE m:=by
 refine bK (h G m w j _ t e) λq p c=>?_;let⟨d,@Rb,r,s,u⟩:=c;refine bK (k G p w Rb _ r u) λI a c=>?_;let⟨i,@Ro,v,x,y⟩:=c;exact l q I a d i Ro v s x y
def JZ{RL:m5}(a:dP b (fC RL) p)(c:bx b g z)(h:bx b f R5):bx b (.BinOp g RL f Rl) (rH p z R5):=by
 intro G m w j A t e;exact wpAny_BinOp (wH c h t e λq I k d i Ro l n o r=>a G k w Ro d i q I A l n o r)
def Qv{RL:UnaryOp}{p:ah->aw->b2->Prop}(a:wG b (unaryOp RL) p)(c:bx b g z):bx b (.UnaryOp RL g Rl) (Pk p z):=by
 intro G m w j A t e;exact UnaryOp_ (bK (c G m w j _ t e) λq f ⟨d,Rb,h,i,k⟩=>a G f w Rb d q A h i k)
def rz{aP:Int->Int->Prop}(c:∀(a v:Int) (B I:hU) (m:aq) (A:af->aq->Prop) (Q7:af->aq->Prop),aP a v->A (.int (L a v) m.toks) {m with toks:=m.toks+1}->wpAny (aQ b.prog b.w) b.A (N (.int a B)<|.int v I) A Q7 m):
  dP b N (nR aP λa v=>.int<|L a v):=by
 intro G m w j d i q I A t f g e;let⟨a,@v,rfl,rfl,h,r⟩:=e;let⟨@B,rfl⟩:=f;let⟨@RF,rfl⟩:=g;exact c a v B RF m _ _ h ⟨.int<|L a v,j,t.tok _,⟨_,rfl⟩,r⟩
def zE(c:∀(a v:Int) (B I:hU) (m:aq) (A:af->aq->Prop) (Q7:af->aq->Prop),A (.int (L a v) m.toks) {m with toks:=m.toks+1}->wpAny (aQ b.prog b.w) b.A (N (.int a B)<|.int v I) A Q7 m):
  dP b N (lT λa v=>.int<|L a v):=by
 intro G m w j d i q I A t f g e;let⟨a,@v,rfl,rfl,r⟩:=e;let⟨@B,rfl⟩:=f;let⟨@RF,rfl⟩:=g;exact c a v B RF m _ _ ⟨.int<|L a v,j,t.tok _,⟨_,rfl⟩,r⟩
def xk{L:Int->Int->Bool}(c:∀(a v:Int) (B I:hU) (m:aq) (A:af->aq->Prop) (Q7:af->aq->Prop),A (.bool<|L a v) m->wpAny (aQ b.prog b.w) b.A (N (.int a B)<|.int v I) A Q7 m):
  dP b N (lT λa v=>.aG<|L a v):=by
 intro G m w j d i q I A t f g e;let⟨a,@v,rfl,rfl,r⟩:=e;let⟨@B,rfl⟩:=f;let⟨@RF,rfl⟩:=g;exact c a v B RF m _ _ ⟨.aG<|L a v,j,t,rfl,r⟩
def Oq(a v:Int):Prop:=(0<v/\v<1073741824)
def Qf(a v:Int):Prop:=(0<=v/\v<=1000000/\a.natAbs<2^64)
def Jm:dP b (fC .Add) (lT λa v=>.int<|a+v):=zE λ_ Y Y Y Y Y Y r=>add_int r
def O4:dP b (fC .Sub) (lT λa v=>.int<|a-v):=zE λ_ Y Y Y Y Y Y r=>sub_int r
def PX:dP b (fC .FloorDiv) (nR Oq λa v=>.int<|a/v):=rz λa v Y Y Y Y Y c r=>by
 have k:(0:Int)<v:=c.1;have l:v<1073741824:=c.2;exact floordiv_int ⋯ (by rw[Int.fdiv_eq_ediv_of_nonneg a ⋯];exact r) (.inl (PyProof.noPylong_small ⋯))
def NI:dP b (fC .Mod) (nR (λ_ v=>0<v) λa v=>.int<|a%v):=rz λa v Y Y Y Y Y c r=>by
 have k:(0:Int)<v:=c;exact mod_int' ⋯ (by rw[Int.fmod_eq_emod_of_nonneg a ⋯];exact r)
def H9:dP b (fC .Pow) (nR Qf λa v=>.int<|a^v.toNat):=rz λ_ Y Y Y Y Y Y c r=>pow_int_small c.1 c.2.1 c.2.2 r
def Ob{N:af->dy af}{L:Int->Int}(c:∀(a:Int) (B:hU) (m:aq) (A:af->aq->Prop) (Q7:af->aq->Prop),A (.int (L a) m.toks) {m with toks:=m.toks+1}->wpAny (aQ b.prog b.w) b.A (N<|.int a B) A Q7 m):
  wG b N (Dm λa=>.int<|L a):=by
 intro G m w j d q A t f e;let⟨@a,rfl,r⟩:=e;let⟨@B,rfl⟩:=f;exact c a B m _ _ ⟨.int<|L a,j,t.tok _,⟨_,rfl⟩,r⟩
def KG:wG b (unaryOp .USub) (Dm λa=>.int<|-a):=Ob λ_ Y Y Y Y r=>neg_int r
def NY:dP b (ez .LtE) (lT λa v=>.aG<|decide (a<=v)):=xk λ_ Y Y Y Y Y Y r=>le_int r
def Ht:dP b (ez .Gt) (lT λa v=>.aG<|decide (v<a)):=xk λ_ Y Y Y Y Y Y r=>gt_int r
def Lx:dP b (ez .GtE) (lT λa v=>.aG<|decide (v<=a)):=xk λ_ Y Y Y Y Y Y r=>ge_int r
def dP.or(e:dP b N p)(S:dP b N RS):dP b N (λd i j A=>p d i j A\/RS d i j A):=by
 intro G m w j d i q I A t a c r;rcases r with r|r
 ·exact e G m w j d i q I A t a c r
 ·exact S G m w j d i q I A t a c r
def et(f:a8){RL:ko}(e:RL≠.In:=by decide)(l:RL≠.NotIn:=by decide):oQ RL f=ax:=by
 have a:(RL==ko.In)=ax:=by cases RL<;>first|rfl|exact absurd rfl e
 have b:(RL==ko.NotIn)=ax:=by cases RL<;>first|rfl|exact absurd rfl l
 cases f<;>simp[oQ,a,b]
def Pq(a:dP b (ez RL) p)(c:bx b g z)(h:bx b f R5)(k:oQ RL f=ax):bx b (.Compare g [RL] [f] Rl) (rH p z R5):=by
 intro G m w j A t e;exact wpAny_Compare1 (wH c h t e λq I l d i Ro n o s r=>a G l w Ro d i q I A n o s r) k
def AA(B:bP):dV:=(λw j A=>B w j λd F=>∃n,d=.aG n/\A n F)
def IZ(a:dP b (ez RL) p)(k:bx b g z)(l:bx b f R5)(o:oQ RL f=ax):gC b (.Compare g [RL] [f] Rl) (AA<|rH p z R5):=by
 intro G m w j A t e;refine wpAny_isTrue_Compare1 (bK (k G m w j _ t e) λq r ⟨d,Rb,s,u,v⟩=>bK (l G r w Rb _ s v) λI x ⟨i,Ro,y,B,C⟩=>
  bK (a G x w Ro d i q I _ y u B C) λh J ⟨L,D,E,F,n,c,H⟩=>?_) o;subst c;cases F;exact md ⟨D,E,H⟩
def DS(p RS:bI)(z R5 Sm:bP):bP:=(λw j A=>z w j λd Rb=>R5 w Rb λi Ro=>p d i Ro λb a=>∃n,b=.aG n/\
 (if n=ab then Sm w a λc e=>RS i c e A else A (.aG ax) a))
def MS{a:ko}(s:dP b (ez RL) p)(v:dP b (ez a) RS)(x:bx b g z)(y:bx b f R5)(B:bx b h Sm)(C:lastMarks [RL,a] [f,h]=ax:=by with_unfolding_all rfl):gC b (.Compare g [RL,a] [f,h] Rl) (AA<|DS p RS z R5 Sm):=by
 intro G m w j A t e;refine isTrue_chain (bK (x G m w j _ t e) λq D ⟨d,Rb,E,F,H⟩=>test_link (bK (y G D w Rb _ E H) λI J ⟨i,Ro,L,k,M⟩=>
  bK (s G J w Ro d i q I _ L F k M) λu N ⟨bi,l,o,O,n,c,r⟩=>?_)) C;subst c;cases O;refine md ?_;cases n with
 |false=>
  let⟨@bm,P,Q⟩:=r;cases P;exact ite_ff ⟨l,o,Q⟩
 |true=>
  refine ite_tt (test_last<|bK (B G N w l _ o r) λR S ⟨T,U,al,am,an⟩=>bK (v G S w U i T I R _ al k am an) λbn bs ap=>?_);let⟨bv,@as,a1,a2,⟨@RJ,bd,be⟩⟩:=ap;subst bd;cases a2;exact md ⟨as,a1,be⟩
def xJ(R:Φ)(d:ah)(j:aw)(n:Bool):Prop:=(
 match d with
 |.aW=>n=ax
 |.aG f=>n=f
 |.int a=>n=(a != 0)
 |.str i=>i.length<=sizeLine/\n=((i.length:Int) != 0)
 |.p_ i=>i.size<=sizeLine/\n=((i.size:Int) != 0)
 |.ref o=>(∃x,cW R j o x/\n=!x.isEmpty)\/(∃x,cj R j o x/\n=!x.isEmpty)\/∃Rd,j o=Z (.dh Rd)/\n=!Rd.isEmpty
 |_=>False)
def Ng{Rx:Type}{Rd:List (Rx×ah)}{ae:List (Rx×af)}(p:fa Rd ae):(!ae.isEmpty)=!Rd.isEmpty:=by
 cases p<;>rfl
def z2{Rf:List af}(p:bN x Rf):(!Rf.toArray.isEmpty)=!x.isEmpty:=by
 cases p<;>simp
def nB:(sizeLine:Nat)<2^63:=by rw[ys];decide
def Mt:Qm b (λd j A=>∃n,xJ b.K d j n/\A n j):=by
 intro G m w j d q A t h e;let⟨@n,c,r⟩:=e;have v:=nB;have y:sizeLine=16777216:=ys;cases d with
 |aW=>
  cases h;have g:n=ax:=c;subst g;exact truthy_none ⟨j,t,r⟩
 |aG f=>
  cases h;have g:n=f:=c;subst g;exact md ⟨j,t,r⟩
 |int a=>
  let⟨@B,rfl⟩:=h;have g:n=(a != 0):=c;subst g;exact PySem.P.truthy_int ⟨j,t,r⟩
 |str i=>
  let⟨@B,rfl⟩:=h;obtain⟨s,g⟩:i.length<=sizeLine/\n=((i.length:Int) != 0):=c;subst g;exact PySem.P.truthy_str ⋯ ⟨j,t.tok _,r⟩
 |p_ i=>
  let⟨@B,rfl⟩:=h;obtain⟨s,g⟩:i.size<=sizeLine/\n=((i.size:Int) != 0):=c;subst g;exact PySem.W.truthy_bytes ⋯ ⟨j,t.tok _,r⟩
 |ref o=>
  cases h;have g:(∃x,cW b.K j o x/\n=!x.isEmpty)\/(∃x,cj b.K j o x/\n=!x.isEmpty)\/∃Rd,j o=Z (.dh Rd)/\n=!Rd.isEmpty:=c;rcases g with ⟨x,k,g⟩|⟨x,k,g⟩|⟨Rd,k,g⟩
  ·subst g;let⟨@Rf,p,bw,aN⟩:=t.list k;have l:=p.length;exact wpAny_truthy_list bw.isList (by simp only[cH];lia) ⟨j,t.tok _,by rw[z2 p];exact r⟩
  ·subst g;let⟨@Rf,p,bw,aN⟩:=t.tuple k;have l:=p.length;exact truthy_tuple bw (by simp only[cH];lia) ⟨j,t.tok _,by rw[z2 p];exact r⟩
  ·subst g;obtain⟨aN,u,ae,p,H⟩:Rd.length<=sizeLine/\(o==iz)=ax/\∃ae,fa Rd ae/\m.heap.DictOf (lL b.prog b.w) o ae:=t.aZ o _ k;have l:Rd.length=ae.length:=d3.length p;exact wpAny_truthy_dict u H ⋯ ⟨j,t.tok _,by rw[Ng p];exact r⟩
 |_=>exact (show False from c).elim
def DK(c:bx b g z)(f:∀a,mz g b.env a=(do let q <-a;standAt g.pos;holding [q] (sv q))):
  gC b g (λw j A=>z w j λd F=>∃n,xJ b.K d F n/\A n F):=by
 intro G m w j A t e;exact isTrue_plain (bK (c G m w j _ t e) λq h ⟨d,Rb,i,k,l⟩=>Mt G h w Rb d q A i k l) (f _)
def Mb:dP b (fC .Add) (λd i j A=>∃a v,d=.str a/\i=.str v/\a.length+v.length<=sizeLine/\A (.str<|a++v) j):=by
 intro G m w j d i q I A t c f e;let⟨a,@v,rfl,rfl,aN,r⟩:=e;let⟨@B,rfl⟩:=c;let⟨@RF,rfl⟩:=f;exact add_str (λRF RN=>⟨.str<|a++v,j,t.tok _,⟨_,rfl⟩,r⟩) aN
def iM{d:ah}(p:bN [d] Rv):∃I,Rv=[I]/\bW d I:=by
 cases p with
 |cons a b=>cases b;exact⟨_,rfl,a⟩
def ra{d:ah}(p:bN [d,i] Rv):∃I a,Rv=[I,a]/\bW d I/\bW i a:=by
 cases p with
 |cons b c=>
  cases c with
  |cons e f=>cases f;exact⟨_,_,rfl,b,e⟩
def Lu(d:b.calm=ab):eA b (.builtin "max") (λx j A=>∃a v,x=[.int a,.int v]/\A (.int<|if v>a then v else a) j):=by
 intro G m w j x Rv A t p e;let⟨a,@v,rfl,r⟩:=e;let⟨I,@f,rfl,⟨@B,rfl⟩,⟨@RF,rfl⟩⟩:=ra p;refine max_two_ints (t.ok.hd d) λS RN n=>⟨_,j,t.kept n,?_,r⟩;by_cases c:v>a
 ·rw[aB c,aB c];exact⟨_,rfl⟩
 ·rw[aD c,aD c];exact⟨_,rfl⟩
def H6(d:b.calm=ab):eA b (.builtin "min") (λx j A=>∃a v,x=[.int a,.int v]/\A (.int<|if v<a then v else a) j):=by
 intro G m w j x Rv A t p e;let⟨a,@v,rfl,r⟩:=e;let⟨I,@f,rfl,⟨@B,rfl⟩,⟨@RF,rfl⟩⟩:=ra p;refine min_two_ints (t.ok.hd d) λS RN n=>⟨_,j,t.kept n,?_,r⟩;by_cases c:v<a
 ·rw[aB c,aB c];exact⟨_,rfl⟩
 ·rw[aD c,aD c];exact⟨_,rfl⟩
def Ld:eA b (.type "int") (λx j A=>(∃a,x=[.int a]/\A (.int a) j)\/∃n,x=[.aG n]/\A (.int<|if n then 1 else 0) j):=by
 intro G m w j x Rv A t p e;rcases e with ⟨a,rfl,r⟩|⟨n,rfl,r⟩
 ·let⟨@I,rfl,⟨@B,rfl⟩⟩:=iM p;exact call_int_int ⟨.int a,j,t,⟨_,rfl⟩,r⟩
 ·let⟨@I,rfl,c⟩:=iM p;cases c;exact call_int_bool ⟨.int<|if n then 1 else 0,j,t.tok _,⟨_,rfl⟩,r⟩
end
def kp.some_of{Y:Option af}(p:kp (Z q) Y):∃I,Y=Z I/\bW q I:=by
 cases Y with
 |none=>exact (show False from p).elim
 |some I=>exact⟨I,rfl,p⟩
def Ol(b:aK)(RL:m5)(a:ah->ah->aw->b2->Prop):Prop:=(
 ∀(G:List (ar×a6)) (m:aq) (w:aX) (j:aw) (d i:ah) (I q:af) (A:b2),aF b G w j m->bW d I->bW i q->a d i j A->wpAny (aQ b.prog b.w) b.A (inplaceOp RL I q) (eb b G w A) b.cE m)
structure eF(n:Nat)(O:bp):Prop where
 hd:O.handled=X
 w1:O.depth+3*n+5<Gw
 un:O.units+16*n+200<bJ
 Cz:O.guards=Z []
def eF.mono(p:eF n O)(e:v<=n):eF v O:=⟨p.hd,by have:=p.w1;lia,by have:=p.un;lia,p.Cz⟩
def eF.deeper(p:eF (n+1) O)(Q6:ei):eF n (O.deeper Q6):=
 ⟨p.hd,by have:=p.w1;show O.depth+1+3*n+5<_;lia,by have:=p.un;show O.units+3+16*n+200<_;lia,p.Cz⟩
def eF.depth(p:eF n O):O.depth<Gw:=by have:=p.w1;lia
def PM:es:=(λ_ j A=>A [] j)
def NL(z:bP)(a:es):es:=(λw j A=>z w j λd Rb=>a w Rb λx Ro=>A (d::x) Ro)
section
variable{b:aK}{c:a8}{Q:List a8}{R6:bP}{B:es}{Rl:Pos}
def wM:gw b [] PM:=λ_ Y Y Y j A t e=>E2 ⟨[],j,t,.nil,e⟩
def r8(f:bx b c R6)(g:gw b Q B)(h:bF (c::Q) b.env=(ax,bR c b.env)::bF Q b.env:=by rfl):gw b (c::Q) (NL R6 B):=by
 intro Rl G m w j A t e;rw[h];show wpAny _ _ (spliced ((ax,bR c b.env)::eT Rl (bF Q b.env))) _ _ m;refine zQ (bK (f G m w j _ t e) λI i a=>?_);let⟨d,@Rb,k,l,n⟩:=a;refine bK (g Rl G i w Rb _ k n) λRv r a=>?_;let⟨x,@Ro,o,p,q⟩:=a;exact⟨d::x,Ro,o,.cons l p,q⟩
def Jy(B:es):bP:=(λw j A=>B w j λx Rb=>x.length<=sizeLine/\∀o,Rb o=X->A (.ref o) (upd Rb o<|.tup x))
def QB(B:es):bP:=(λw j A=>B w j λx Rb=>x.length<=sizeLine/\∀o,Rb o=X->A (.ref o) (upd Rb o<|.lst x))
def JD{h}(e:gw b Q B):bx b (.Tuple Q h Rl) (Jy B):=by
 intro G m w j A t i;refine wpAny_Tuple_spliced (bK (e Rl G m w j _ t i) λRv a ⟨x,Rb,d,p,g,r⟩=>⟨by rw[<-p.length];exact g,?_⟩);have k:Rb a.heap.objs.size=X:=d.aZ.fresh (bD _);refine⟨.ref a.heap.objs.size,upd Rb a.heap.objs.size<|.tup x,d.laid (RF:=a.toks) (λf I c=>cp _ c) (bD _) ?_,rfl,r _ k⟩;exact⟨g,Rv,p,⟨_,dc _ rfl,rfl,_,rfl⟩⟩
def O7(e:gw b Q B):bx b (.List Q Rl) (QB B):=by
 intro G m w j A t h;refine wpAny_List_spliced (bK (e Rl G m w j _ t h) λRv a ⟨x,Rb,d,p,g,r⟩=>⟨by rw[<-p.length];exact g,?_⟩);have i:Rb a.heap.objs.size=X:=d.aZ.fresh (bD _);refine⟨.ref a.heap.objs.size,upd Rb a.heap.objs.size<|.lst x,d.laid (RF:=a.toks) (λf I c=>cp _ c) (bD _) ?_,rfl,r _ i⟩;exact⟨g,Rv,0,p,dc _ rfl⟩
end
abbrev kA:=List ah->aw->b2->f3->Prop
abbrev kr:=List ei->aw->aq->f3->af->aq->Prop
variable{R9:kr}
structure sH(Ri:bz)(D:bg)(R:Φ)(aO:aC->Option af)(Rh:a4)(O:bp)(RT:List ei)(m:aq)(j:aw):Prop where
 frames:O.frames=Z RT
 mod:Mod R aO Rh
 bs:∀f Y,Rh.get? f=Z Y->m.heap.get? f=Z Y/\j f=ki Y
 k4:Rh.objs.size<=m.heap.objs.size
 iu:m.heap.FunFrames Rh RT
 nz:∀f∈hQ RT,j f=X
 aZ:dH Ri D j m.heap
 bare:kP m.gens
def xO(RT:List ei)(Ri:bz)(D:bg)(j:aw)(m:aq)(A:b2)(I:af)(T:aq):Prop:=(
 ∃q F,T.os=m.os/\kP T.gens/\eR (hQ RT) [] j F m.heap T.heap/\dH Ri D F T.heap/\bW q I/\A q F)
def PY(R9:kr)(RT:List ei)(Ri:bz)(D:bg)(j:aw)(m:aq)(A:b2)(Q7:f3)(p:qj)(T:aq):Prop:=(
 match p with
 |.ok (.ret I)=>xO RT Ri D j m A I T
 |.ok _=>False
 |.error c=>R9 RT j m Q7 c T)
structure ih(Ri:bz)(D:bg)(R:Φ)(aO:aC->Option af)(Rh:a4)(R9:kr)(n:Nat)(N:ar)(fd:gU)(Rg:List aC)(R_:kA):Prop where
 len:∀ae j A Q7,R_ ae j A Q7->ae.length=Rg.length
 run:∀(O:bp) (RT:List ei) (m:aq) (j:aw) (args:Args) (Rv:List af) (ae:List ah) (A:b2) (Q7:f3),eF n O->sH Ri D R aO Rh O RT m j->lI m fd args (Rg.zip Rv)->bN ae Rv->R_ ae j A Q7->
  codeAny (aQ Ri D) O (.call (.ref N) args) (PY R9 RT Ri D j m A Q7) m
section
variable{b:aK}{G:List (ar×a6)}{w:aX}{j:aw}{m T:aq}
def aF.Ot(t:aF b G w j m):sH b.prog b.w b.K b.aO b.base b.A b.stack m j:=
 ⟨t.ok.frames,t.ok.mod,t.bs,dD t.ok.k4 t.kj,t.stack,t.Ce,t.aZ,t.bare⟩
def aF.after{A:b2}(t:aF b G w j m)(e:xO b.stack b.prog b.w j m A I T):eb b G w A I T:=by
 let⟨q,@F,Rq,a,un,aZ,p,r⟩:=e;let⟨c,L,u,B,d⟩:=T;obtain rfl:d=m.os:=Rq;exact⟨q,F,t.call (S:=c) (i:=L) (q:=u) (RF:=B) (R8:=[]) un aZ a (λf g=>absurd g ↥0),p,r⟩
end
def BZ(R_:kA)(k:List ah)(Q7:f3)(B:es):bP:=(λw j A=>B w j λae Rb=>R_ (ae++k) Rb A Q7)
def jt(R:Φ)(fd:gU)(Rg:List aC)(E:List af):Prop:=(
 ∀(m:aq) (Rv:List af),R.In m.heap->(Rv++E).length=Rg.length->lI m fd ⟨Rv,[]⟩ (Rg.zip<|Rv++E))
def jt.all{fd:gU}(e:∀Rv:List af,Rv.length=Rg.length->lC fd ⟨Rv,[]⟩=pure (Rg.zip Rv)):jt R fd Rg []:=λm Rv Y a=>by
 rw[b5]at a ⊢;exact .of_eq (e Rv a)
def ve(R9:kr)(b:aK)(Q7:f3):Prop:=(∀(G:List (ar×a6)) (w:aX) (j:aw) (m:aq) (c:af) (T:aq),aF b G w j m->R9 b.stack j m Q7 c T->b.cE c T)
section
variable{b:aK}{R9:kr}{n:Nat}{N aP:ar}{fd:gU}{Rg:List aC}{R_:kA}{k:List ah}{E:List af}{Q7:f3}{d H:aC}{o Rl Se:Pos}{c Y:a8}{Q:List a8}{z:bP}{B:es}
def PT{A:b2}(P:ih b.prog b.w b.K b.aO b.base R9 n N fd Rg R_)(f:eF n b.A)(g:jt b.K fd Rg E)(hd:bN k E)(h:ve R9 b Q7)(t:aF b G w j m)(p:bN ae Rv)(e:R_ (ae++k) j A Q7):wpAny (aQ b.prog b.w) b.A (call (.ref N) Rv) (eb b G w A) b.cE m:=by
 have d:bN (ae++k) (Rv++E):=p.append hd;have i:(Rv++E).length=Rg.length:=by rw[<-d.length];exact P.len _ _ _ _ e
 refine wpAny_call (vp (P.run b.A b.stack m j ⟨Rv,[]⟩ (Rv++E) (ae++k) A Q7 f t.Ot (g m Rv t.nL i) d e) λp T a=>?_);cases p with
 |error c=>exact h G w j m c T t a
 |ok aT=>
  cases aT with
  |ret I=>exact t.after a
  |next=>exact False.elim a
  |brk=>exact False.elim a
  |cont=>exact False.elim a
def Ko(P:ih b.prog b.w b.K b.aO b.base R9 n N fd Rg R_)(f:eF n b.A)(g:eU b d)(h:b.aO d=Z (.ref N))(i:Θ b.K (.ref N)=ab)(l:jt b.K fd Rg E)(hd:bN k E)(q:ve R9 b Q7)(s:gw b (c::Q) B)(u:(d==("__debug__" : aC))=ax:=by decide)(v:bF (c::Q) b.env=(ax,bR c b.env)::bF Q b.env:=by rfl)(x:(eT Rl<|bF Q b.env).any (·.1)=ax:=by rfl):
  bx b (.Call (.Name d o) (c::Q) [] Rl) (BZ R_ k Q7 B):=by
 intro G m w j A t e;refine rX (Ak t g h ?_ u);refine PySem.W.callWith_K (h₀:=b.base) t.ok.mod.sF i (bK (s Rl G m w j _ t e) λRv z ⟨ae,Rb,a,p,r⟩=>⟨a.nL,?_⟩) v x;exact PT P f l hd q a p r
end
structure mU(RG Ri:List aC)(t:f6):Prop where
 kind:t.kind=.function
 co:t.isCoroutine=ax
 gen:t.isGenerator=ax
 ai:RG.Nodup
 pre:RG.take Ri.length=Ri
 par:∀d∈Ri,t.names.lookup d=Z .local\/t.names.lookup d=Z .cell
 ON:∀i∈t.names,i.2≠.free
theorem Dr{a:aC->Option cS}{d:aC}:∀{binds:List (aC×af)}{H:aC->Option af},(∀q,(d,q)∉binds)->bindL a binds H d=H d
 |[],_,_=>rfl
 | (s,q)::p,H,e=>by
  unfold bindL;rw[Dr λD b=>e D<|kJ _ b];split
  ·have:d≠s:=by rintro rfl;exact e q mn
   simp[this]
  ·rfl
theorem zz{a:aC->Option cS}{d:aC}:∀{binds:List (aC×af)}{H:aC->Option af},(∀q,(d,q)∉binds)->bindC a binds H d=H d
 |[],_,_=>rfl
 | (s,q)::p,H,e=>by
  unfold bindC;rw[zz λD b=>e D<|kJ _ b];split
  ·rfl
  ·have:d≠s:=by rintro rfl;exact e q mn
   simp[this]
theorem Aj{b:aC->Option cS}{d:aC}{q:af}:∀{Ri:List aC}{ae:List af}{a:Nat}{H:aC->Option af},Ri.Nodup->Ri[a]?=Z d->ae[a]?=Z q->b d=Z .local->
  bindL b (Ri.zip ae) H d=Z q
 |[],_,_,_,_,e,_,_=>by simp at e
 |_::_,[],_,_,_,_,e,_=>by simp at e
 |o::Ri,D::ae,0,H,ai,k,l,c=>by
  simp at k l;subst k;subst l;show bindL b ((o,D)::Ri.zip ae) H o=_;unfold bindL;rw[Dr λq f=>(e6.mp ai).1 (xx f).1,aB c];simp
 |o::Ri,D::ae,a+1,H,ai,k,l,c=>by
  show bindL b ((o,D)::Ri.zip ae) H d=_;unfold bindL;exact Aj (a:=a) (e6.mp ai).2 ⇑k ⇑l c
theorem C4{b:aC->Option cS}{d:aC}{q:af}:∀{Ri:List aC}{ae:List af}{a:Nat}{H:aC->Option af},Ri.Nodup->Ri[a]?=Z d->ae[a]?=Z q->b d≠Z .local->
  bindC b (Ri.zip ae) H d=Z q
 |[],_,_,_,_,e,_,_=>by simp at e
 |_::_,[],_,_,_,_,e,_=>by simp at e
 |o::Ri,D::ae,0,H,ai,k,l,c=>by
  simp at k l;subst k;subst l;show bindC b ((o,D)::Ri.zip ae) H o=_;unfold bindC;rw[zz λq f=>(e6.mp ai).1 (xx f).1,aD c];simp
 |o::Ri,D::ae,a+1,H,ai,k,l,c=>by
  show bindC b ((o,D)::Ri.zip ae) H d=_;unfold bindC;exact C4 (a:=a) (e6.mp ai).2 ⇑k ⇑l c
def kl(RG:List aC)(ae:List ah):aX:=(ae.map Z++replicate (RG.length-ae.length) X)
def kY(R9:kr)(Ri:bz)(D:bg)(R:Φ)(aO:aC->Option af)(Rh:a4)(RG:List aC)(R2:aC)(Rp:f6)(N:ar)(a:af)(O:bp)(RT:List ei)(m:aq)(j:aw)(Q7:f3):aK where
 prog:=Ri
 w:=D
 K:=R
 aO:=aO
 base:=Rh
 A:=O.deeper (i_ R2 Rp m.heap.objs.size N a)
 N:=RG
 eC:=m
 lW:=j
 env:=i_ R2 Rp m.heap.objs.size N a
 outer:=RT
 stack:=i_ R2 Rp m.heap.objs.size N a::RT
 ex:=[]
 calm:=ab
 fn:=λ_=>ab
 jw:=[]
 cE:=λc T=>wpAny (aQ Ri D) (O.deeper<|i_ R2 Rp m.heap.objs.size N a) (leaving (i_ R2 Rp m.heap.objs.size N a) c) (λ_ b=>R9 RT j m Q7 c b) (λd b=>R9 RT j m Q7 d b) T
def A2{t:f6}(e:t.names.lookup d=Z .cell):∃h,(xw s t.names []).lookup d=Z h:=by
 have r:=CY t.names s [] (.inl e);exact Option.isSome_iff_exists.mp r
def KQ{N:ar}{w:af}{RT:List ei}{y:aq}{Q7:f3}(Rk:mU RG Rg Rp)(hd:O.handled=X)(b:sH Ri D R aO Rh O RT m j)(H:ae.length=Rg.length)(p:bN ae Rv)(d:InCallC m m.heap.objs.size (bindL (i_ R2 Rp m.heap.objs.size N w).kindOf (Rg.zip Rv) λ_=>X) (xw (m.heap.objs.size+1) Rp.names []) (bindC (i_ R2 Rp m.heap.objs.size N w).kindOf (Rg.zip Rv) λ_=>X) y):
  aF (kY R9 Ri D R aO Rh RG R2 Rp N w O RT m j Q7) [] (kl RG ae) j y:=by
 have J:Rg.length<=RG.length:=by have:=congrArg List.length Rk.pre;rw[hB]at this;lia
 let⟨k,@RN,rfl,z⟩:=d.done;have x:∀f:ar,f∉(kY R9 Ri D R aO Rh RG R2 Rp N w O RT m j Q7).ex:=λf u=>absurd (show f∈([]:List ar) from u) ↥0;refine⟨⟨b.mod,Rk.kind,rfl,rfl,bD _,λi u h k l=>?_,λi t=>?_,λi h Y e=>?_,λ_=>hd,bp.frames_deeper b.frames,.inr ⟨rfl,rfl⟩,λf u=>absurd u<|x f,b.bs,b.k4,λf Y Y=>x f,λf u=>absurd u<|x f,b.iu,b.nz⟩,
  rfl,b.bare,eR.kept z,⟨_,d.toInCall.ns,λa i q k l L=>?_⟩,λi h e=>⟨_,d.cell i h e⟩,b.aZ.fresh<|bD _,λi h e=>?_,λo v=>absurd (show o∈([]:List (ar×a6)) from v) ↥0,b.aZ.kept z,?_⟩
 ·exact name_of_addr d.apart (PySem.mem_of_lookup k) (PySem.mem_of_lookup l)
 ·have t:Rp.names.lookup i=Z .cell\/Rp.names.lookup i=Z .free:=t;rcases t with t|t
  ·exact A2 t
  ·exact absurd rfl (Rk.ON _<|PySem.mem_of_lookup t)
 ·exact rk (d.above i h<|PySem.mem_of_lookup e)
 ·have U:a<ae.length:=by
   unfold kl at l;by_cases U:a<ae.length
   ·exact U
   ·rw[om ⇑U]at l;rw[List.getElem?_replicate]at l;split at l<;>cases l
  have F:ae[a]?=Z q:=by
   unfold kl at l;rw[oT ⇑U,gc]at l;cases c:ae[a]? with
   |none=>rw[c]at l;cases l
   |some g=>rw[c]at l;cases l;rfl
  let⟨@I,A,G⟩:=p.get F;have v:Rg[a]?=Z i:=by
   rw[<-Rk.pre,List.getElem?_take_of_lt ⋯];exact k
  have B:Rg.Nodup:=by rw[<-Rk.pre];exact Rk.ai.sublist (si _ _)
  refine⟨I,G,?_⟩;rcases Rk.par i (oJ v) with n|n
  ·exact .inl ⟨n,Aj B v A n⟩
  ·let⟨@h,c⟩:=A2 (s:=m.heap.objs.size+1) n;refine .inr ⟨.inl n,h,c,?_⟩;have r:=d.cell i h c;rw[C4 B v A (by show Rp.names.lookup i≠_;rw[n];decide)]at r;exact r
 ·exact b.aZ.fresh (rk<|d.above i h<|PySem.mem_of_lookup e)
 ·unfold kl;show _=RG.length;rw[c5,bH,List.length_replicate];lia
def K7{N:ar}{name:aC}{o:Arguments}{u cz y S M cx l:af}{U k:Option ar}{Sk:Array (Option af)}{R_:kA}(lk:R.lookup N=Z ⟨l,k,.func<|Ξ name R2 o Sg Rp u cz y S U M cx,Sk⟩)(z:Δ R M R2=ab)(Rk:mU RG Rg Rp)(len:∀ae j A Q7,R_ ae j A Q7->ae.length=Rg.length)(E:∀(O:bp) (RT:List ei) (m:aq) (j:aw) (ae:List ah) (A:b2) (Q7:f3),eF n (O.deeper<|i_ R2 Rp m.heap.objs.size N M)->R_ ae j A Q7->
   ∃B,hi (kY R9 Ri D R aO Rh RG R2 Rp N M O RT m j Q7) Sg B/\B {bj:=λ_ F=>A .aW F,eo:=A} (kl RG ae) j):
  ih Ri D R aO Rh R9 (n+1) N (Ξ name R2 o Sg Rp u cz y S U M cx) Rg R_:=by
 refine⟨len,λO RT m j args Rv ae A Q7 g b G p v=>?_⟩;have H:=len _ _ _ _ v;have w:R.In m.heap:=b.mod.sF.keeps λf Y c=>(b.bs f Y c).1;have J:m.heap.NoLimit:=b.mod.nolimit.keeps λf Y c=>(b.bs f Y c).1;have L:∀i∈Rg.zip Rv,Rp.names.lookup i.1=Z .local\/(Rp.names.lookup i.1=Z .cell/\((xw (m.heap.objs.size+1) Rp.names []).lookup i.1).isSome=ab):=λ⟨s,q⟩ P=>by
  rcases Rk.par s (xx P).1 with r|r
  ·exact .inl r
  ·exact .inr ⟨r,CY _ _ _<|.inl r⟩
 refine codeAny_call_function g.depth (w _ _ lk) rfl Rk.co Rk.gen rfl (PySem.W.codeRec_of w z) (G _ _ _ _ ?_);refine wpAny_newFunctionEnv_cells Rk.kind L λQ6 Q x d=>?_;subst Q;refine⟨J.keeps d.toInCall.keep,codeAny_func ?_⟩;let⟨@B,al,am⟩:=E O RT m j ae A Q7 (g.deeper _) v;have t:aF (kY R9 Ri D R aO Rh RG R2 Rp N M O RT m j Q7) [] (kl RG ae) j x:=KQ Rk g.hd b H p d;refine fY (al [] x (kl RG ae) j _ t am) (λaT T a=>?_) λc T a=>a;have fin:∀{e:aX}{F:aw}{q:ah}{I:af},aF (kY R9 Ri D R aO Rh RG R2 Rp N M O RT m j Q7) [] e F T->bW q I->A q F->xO RT Ri D j m A I T:=
  λ{e F q I} R1 h r=>⟨q,F,R1.os,R1.bare,R1.base,R1.aZ,h,r⟩;cases aT with
 |ret I=>
  let⟨q,e,@F,R1,h,r⟩:=a;exact fin R1 h r
 |next=>
  let⟨e,@F,R1,r⟩:=a;exact fin (q:=ah.aW) (I:=af.none) R1 rfl r
 |brk=>
  let⟨K,@K,K,r⟩:=a;exact False.elim r
 |cont=>
  let⟨K,@K,K,r⟩:=a;exact False.elim r
section
variable{b:aK}{d:aC}{o Rl:Pos}{c:a8}{Q:List a8}{B:es}{id Rc:String}{p:List ah->aw->b2->Prop}
def EE(p:List ah->aw->b2->Prop)(B:es):bP:=(λw j A=>B w j λae Rb=>p ae Rb A)
def CQ(a:eA b (.builtin id) p)(f:eU b d)(g:b.aO d=X)(h:e1 d=Z (.builtin id))(i:gw b (c::Q) B)(k:d ≠ "__name__" := by decide)(l:(d==("__debug__" : aC))=ax:=by decide)(n:bF (c::Q) b.env=(ax,bR c b.env)::bF Q b.env:=by rfl)(q:(eT Rl<|bF Q b.env).any (·.1)=ax:=by rfl):bx b (.Call (.Name d o) (c::Q) [] Rl) (EE p B):=by
 intro G m w j A t e;refine rX (nk t f g h ?_ k l);exact LS (bK (i Rl G m w j _ t e) λRv r ⟨ae,Rb,s,u,v⟩=>a G r w Rb ae Rv A s u v) n q
def I9(a:eA b (.type Rc) p)(f:eU b d)(g:b.aO d=X)(h:e1 d=Z (.type Rc))(i:gw b (c::Q) B)(k:d ≠ "__name__" := by decide)(l:(d==("__debug__" : aC))=ax:=by decide)(n:bF (c::Q) b.env=(ax,bR c b.env)::bF Q b.env:=by rfl)(q:(eT Rl<|bF Q b.env).any (·.1)=ax:=by rfl):bx b (.Call (.Name d o) (c::Q) [] Rl) (EE p B):=by
 intro G m w j A t e;refine rX (nk t f g h ?_ k l);exact pX (bK (i Rl G m w j _ t e) λRv r ⟨ae,Rb,s,u,v⟩=>a G r w Rb ae Rv A s u v) n q
end
end L2
namespace c6
open PyProof.Rows
variable{U M:Option Int}{i ck:af}{bk B:ar}{A:af->aq->Prop}
theorem J8(O:bp)(m:aq)(g:Int)(B:hU)(h:Int)(I:hU)(Q_:bz)(D:bg)(Q7:af->aq->Prop)(A:af->aq->Prop)(e:A (.bool<|decide (g<h)) m):
  wpAny (aQ Q_ D) O (mS .Lt (.int g B)<|.int h I) A Q7 m:=
 (Le e:wpAny (aQ Q_ D) O (ez .Lt (.int g B)<|.int h I) A Q7 m)
section
open PySem.SeqAt
open PySem.AutoSeq1 (wpAny_loadPart')
open PySem.MeetsSeq PySem.MeetsSeq2 PySem.MeetsSeq3
end
section
variable{Q_:bz}{D:bg}{O:bp}{Q7:af->aq->Prop}{m:aq}
def IX{f:ar}{ae t:List af}(q:mP m.heap B ae.toArray)(r:mP m.heap f t.toArray)(e:ae≠[])(k:t=[]->A (.ref B) m)(l:t≠[]->A (.ref m.heap.objs.size) {m with heap:=m.heap.push {cls:=.type "tuple",data:=.seq (ae++t).toArray} })(u:ae.length+t.length<=sizeLine):wpAny (aQ Q_ D) O (fC .Add (.ref B)<|.ref f) A Q7 m:=by
 let⟨@⟨cls,g,data,bk⟩,a,h,⟨@s,hd⟩⟩:=id q;let⟨@⟨v,i,data2,j⟩,b,n,⟨@o,p⟩⟩:=id r;simp only at h hd n p;subst h hd n p;have c:ae.toArray++t.toArray=(ae++t).toArray:=by simp
 by_cases d:t=[]
 ·exact uS ⟨_,a,rfl⟩ ⟨_,b,rfl⟩ wQ vU wx xZ (xd _ _)
   (tuple_addW1 B f ae.toArray t.toArray s o g i bk j ⇑e (by simp[d])) ⟨a,b,k d⟩
 ·refine uS ⟨_,a,rfl⟩ ⟨_,b,rfl⟩ wQ vU wx xZ (xd _ _)
   (tuple_addW2 B f ae.toArray t.toArray s o g i bk j ⇑e ⇑d (by rw[cH,cH];exact u)) ⟨a,b,?_⟩;rw[c];exact l d
def b0(s u:Nat):Option Int->Nat
 |none=>u
 |some q=>if q<0 then (q+(s:Int)).toNat else min q.toNat s
def ME(s u:Nat):b0 s u X=u:=rfl
def LK(s u n:Nat):b0 s u (Z (n:Int))=min n s:=by
 show (if (n:Int)<0 then ((n:Int)+(s:Int)).toNat else min (n:Int).toNat s)=min n s;rw[aD ⋯,pw]
def PB(s u:Nat)(hd:u<=s)(Y:Option Int):b0 s u Y<=s:=by
 cases Y with
 |none=>exact hd
 |some q=>
  show (if q<0 then (q+(s:Int)).toNat else min q.toNat s)<=s;by_cases a:q<0
  ·rw[aB a];lia
  ·rw[aD a];exact Nat.min_le_right _ _
def Fu(q:Int)(s u:Nat):(if q<0 then max (q+(s:Int)) 0 else min q (s:Int))=((b0 s u (Z q):Nat):Int):=by
 show (if q<0 then max (q+(s:Int)) 0 else min q (s:Int))=(((if q<0 then (q+(s:Int)).toNat else min q.toNat s):Nat):Int);by_cases a:q<0
 ·simp only[aB a];lia
 ·simp only[aD a];lia
def Ig(M U:Option Int)(s:Nat):bq.Slice.sliceAdjust M U 1 (s:Int)=(((b0 s 0 M:Nat):Int),((b0 s s U:Nat):Int)):=by
 have k:¬ ((1:Int)<0):=⋯
 unfold bq.Slice.sliceAdjust;simp only[k,eL];refine pE ?_ ?_
 ·cases M with
  |none=>rfl
  |some q=>exact Fu q s 0
 ·cases U with
  |none=>rfl
  |some q=>exact Fu q s s
def MN(a v:Nat):bq.Slice.slicePlaces (a:Int) (v:Int) 1=v-a:=by
 unfold bq.Slice.slicePlaces;have k:(1:Int)>0:=⋯
 simp only[k,e8,Int.ediv_one];split<;>lia
def zR{q:af}{Y:Option Int}{A:Option Int->aq->Prop}(o:kn q Y)(e:A Y m):wpAny (aQ Q_ D) O (bq.Slice.slicePartIndex q) A Q7 m:=by
 cases o with
 |none=>exact zm e
 |int a B=>exact slicePart_int e
def A3{s:Nat}{A:Int×Int×Nat->aq->Prop}(c:m.heap.IsSliceOf bk ck i .none)(bw:kn ck M)(f:kn i U)(e:A (((b0 s 0 M:Nat):Int),1,b0 s s U-b0 s 0 M) m):wpAny (aQ Q_ D) O (bq.Slice.sliceApplied (.ref bk)<|pure (s:Int)) A Q7 m:=by
 let⟨@Rq,a,g,b⟩:=id c;unfold bq.Slice.sliceApplied bq.Slice.sliceFields;refine ay (ay<|g7 a b (x:=ck) rfl<|ay<|g7 a b (x:=i) rfl<|ay<|g7 a b (x:=.none) rfl<|a3 ?_);refine ay (zm ?_);show wpAny _ _ (if ((1:Int)==0)=ab then _ else _) _ _ m;rw[aD ∅];refine ay (zR bw<|ay<|zR f<|ay<|a3 ?_);show wpAny _ _ (match bq.Slice.sliceAdjust M U 1 (s:Int) with|(M,U)=>pure (M,(1:Int),bq.Slice.slicePlaces M U 1)) _ _ m;rw[Ig M U s];show wpAny _ _ (pure (((b0 s 0 M:Nat):Int),(1:Int),bq.Slice.slicePlaces ((b0 s 0 M:Nat):Int) ((b0 s s U:Nat):Int) 1)) _ _ m;rw[MN];exact a3 e
def N4(x:Array af)(a n:Nat):((range n).filterMap λ(H:Nat)=>x[((a:Int)+(H:Int)*1).toNat]?).toArray=((x.toList.drop a).take n).toArray:=by
 have c:(λ(H:Nat)=>x[((a:Int)+(H:Int)*1).toNat]?)=λH=>x[a+H]?:=by
  funext H;have:((a:Int)+(H:Int)*1).toNat=a+H:=⋯
  rw[this]
 rw[c];have:=pick_run x a n;rw[List.filterMap_map]at this;have b:((λd=>x[d]?) ∘ λd=>a+d)=λH=>x[a+H]?:=rfl;rw[b]at this;rw[this]
def Hf{Rm:Array af}(a:mP m.heap B Rm)(c:m.heap.IsSliceOf bk ck i .none)(bw:kn ck M)(d:kn i U)(f:¬ (b0 Rm.size 0 M=0/\b0 Rm.size Rm.size U=Rm.size))(e:A (.ref m.heap.objs.size) {m with heap:=m.heap.push {cls:=.type "tuple",data:=.seq ((Rm.toList.drop<|b0 Rm.size 0 M).take<|b0 Rm.size Rm.size U-b0 Rm.size 0 M).toArray} })(l:Rm.size<=sizeLine):wpAny (aQ Q_ D) O (ke (.ref B)<|.ref bk) A Q7 m:=by
 have b:sizeOk (.seq ((Rm.toList.drop<|b0 Rm.size 0 M).take<|b0 Rm.size Rm.size U-b0 Rm.size 0 M).toArray):=by
  show ((Rm.toList.drop<|b0 Rm.size 0 M).take<|b0 Rm.size Rm.size U-b0 Rm.size 0 M).toArray.size<=sizeLine;rw[cH,hB,f5,fB];lia
 have n:b0 Rm.size Rm.size U<=Rm.size:=PB _ _ (bD _) U;let⟨@Rq,g,h,o⟩:=id c;have j:m.TypeIs (.ref bk) "slice" := ⟨Rq,g,h⟩;unfold ke;try with_reducible refine fL ?_
 first|refine ay (a3 ?_)|skip
 refine ay (z3 a.typeIs ∅ ?_);refine ay (lK (name:=aC.ofString "__getitem__") a.typeIs ou
  (i1 ou a.typeIs Ao ?_<|A1 _ _));show wpAny _ _ (bq.Tuple.tupleItemsOf (.ref B) >>= _) _ _ m;refine ay (CB a ?_);refine ay (wpAny_typeOf j ?_);rw[aB ∅];refine ay (A3 c bw d ?_);have k:¬ ((((b0 Rm.size 0 M:Nat):Int)==0&&(1:Int)==1&&(b0 Rm.size Rm.size U-b0 Rm.size 0 M)==Rm.size)=ab):=by
  intro r;rw[cF,cF]at r;have p:((b0 Rm.size 0 M:Nat):Int)=0:=eq_of_beq r.1.1;have q:b0 Rm.size Rm.size U-b0 Rm.size 0 M=Rm.size:=eq_of_beq r.2;exact f ⟨⋯,⋯⟩
 show wpAny _ _ (if (((b0 Rm.size 0 M:Nat):Int)==0&&(1:Int)==1&&(b0 Rm.size Rm.size U-b0 Rm.size 0 M)==Rm.size)=ab then _ else _) _ _ m;rw[aD k,N4];first
  | exact ay (m:=bq.Tuple.tupleExact _) (hs (a3 ⟨_,rfl,a3 e⟩) b)
  | exact ay (m:=bq.Tuple.tupleExact _) (hs (ay<|a3<|a3 ⟨_,rfl,a3 e⟩) b)
  | exact ay (ay (m:=bq.Tuple.tupleExact _)<|hs (a3<|a3 ⟨_,rfl,a3 e⟩) b)
  | exact ay (ay (m:=bq.Tuple.tupleExact _)<|hs (a3 ⟨_,rfl,a3 e⟩) b)
end
end c6
namespace L2
open Spec PyProof.Rows
variable{S:a4}{A:af->aq->Prop}{O:bp}{F j:aw}{Rd:List (List V×ah)}{D:bg}{Ri:bz}{Y:Option ah}{RF v s:Nat}{Rc:String}{J Rf Rv:List af}{o:ar}{m:aq}{w:aX}{G:List (ar×a6)}{p:bI}{Ry:Type}{a:Int}{x:List (List V×ar×af)}
abbrev cM:=aX->aw->(Option Int->aw->Prop)->Prop
def B8(b:aK)(c:Option a8)(B:cM)(G:List (ar×a6)):Prop:=(
 ∀(m:aq) (w:aX) (j:aw) (A:Option Int->aw->Prop),aF b G w j m->B w j A->
  wpAny (aQ b.prog b.w) b.A (evalPart c b.env) (λI T=>∃Y F,aF b G w F T/\kn I Y/\A Y F) b.cE m)
def pb(b:aK)(c:Option a8)(B:cM):Prop:=(∀G,B8 b c B G)
def Jn:cM:=(λ_ j A=>A X j)
def Md(B:bP):cM:=(λw j A=>B w j λd Rb=>∃a,d=.int a/\A (Z a) Rb)
section
variable{b:aK}{c:a8}{R6:bP}{M U:Option a8}{gM k:cM}{Rl RR:Pos}
def K2:pb b X Jn:=by
 intro G m w j A t e;rw[AP];exact a3 ⟨X,j,t,.none,e⟩
def Hw(e:bx b c R6):pb b (Z c) (Md R6):=by
 intro G m w j A t f;rw[evalPart_some];refine bK (e G m w j _ t f) λI l g=>?_;let⟨d,@Rb,h,i,k⟩:=g;let⟨@a,rfl,r⟩:=k;let⟨@B,rfl⟩:=i;exact⟨Z a,Rb,h,.int a B,r⟩
def pB(b:aK)(p:ah->Option Int->Option Int->aw->b2->Prop):Prop:=(
 ∀(G:List (ar×a6)) (m:aq) (w:aX) (j:aw) (d:ah) (q ck i:af) (M U:Option Int) (bk:ar) (A:b2),aF b G w j m->bW d q->m.heap.IsSliceOf bk ck i .none->kn ck M->kn i U->p d M U j A->
  ∃Rc id,pZ (.type Rc) "__getitem__" = pure (Z<|.builtin id)/\m.TypeIs q Rc/\wpAny (aQ b.prog b.w) b.A (ke q<|.ref bk) (eb b G w A) b.cE m)
def O8(p:ah->Option Int->Option Int->aw->b2->Prop)(R6:bP)(gM k:cM):bP:=(λw j A=>R6 w j λd Rb=>gM w Rb λC Ro=>k w Ro λI a=>p d C I a A)
def Jo{p:ah->Option Int->Option Int->aw->b2->Prop}(l:pB b p)(n:bx b c R6)(o:pb b M gM)(s:pb b U k):bx b (.Subscript c (.Slice M U X RR) Rl) (O8 p R6 gM k):=by
 intro G m w j A t e;refine vc (bK (n G m w j _ t e) λq u g=>?_);let⟨d,@Rb,v,x,y⟩:=g;refine wpAny_Slice (bK (o G u w Rb _ v y) λck z ⟨C,Ro,B,bw,E⟩=>bK (s G z w Ro _ B E) λi a g=>?_);let⟨I,@h,F,H,J⟩:=g;rw[AP];refine a3 ?_;have L:aF b G w h {a with heap:=a.heap.push {cls:=.type "slice",data:=.fields #[ck,i,.none]} }:=F.kept (RF:=a.toks) λf R r=>cp _ r;let⟨Rc,@id,N,P,Q⟩:=l G {a with heap:=a.heap.push {cls:=.type "slice",data:=.fields #[ck,i,.none]} } w h d q ck i C I a.heap.objs.size A L x (a4.IsSliceOf.new ..) bw H J;show wpAny (aQ b.prog b.w) b.A (vI c (.Slice M U X RR) q<|.ref a.heap.objs.size) (eb b G w A) b.cE {a with heap:=a.heap.push {cls:=.type "slice",data:=.fields #[ck,i,.none]} };exact tail_any (ops:=[.ref a.heap.objs.size,q]) P N Q (by with_unfolding_all rfl)
def l1(x:List ah)(M U:Option Int):List ah:=((x.drop<|c6.b0 x.length 0 M).take (c6.b0 x.length x.length U-c6.b0 x.length 0 M))
def Gq(x:List ah)(M U:Option Int):(l1 x M U).length<=x.length:=by
 unfold l1;rw[hB,f5];lia
def Mo(R:Φ):ah->Option Int->Option Int->aw->b2->Prop:=(λd M U j A=>∃g x,d=.ref g/\cj R j g x/\
 ¬ (c6.b0 x.length 0 M=0/\c6.b0 x.length x.length U=x.length)/\∀o,j o=X->A (.ref o) (upd j o<|.tup<|l1 x M U))
def Pw:pB b (Mo b.K):=by
 intro G m w j d q ck i M U bk A t h k bw l e;let⟨g,@x,rfl,n,o,r⟩:=e;cases h;let⟨@Rf,p,c,aN⟩:=t.tuple n;have a:Rf.toArray.size=x.length:=by rw[cH];exact p.length.symm
 refine⟨"tuple",_,ou.lookup,c.typeIs,?_⟩;refine c6.Hf c k bw l (by rw[a];exact o) ?_ (by rw[a];exact aN);rw[a];refine⟨.ref m.heap.objs.size,_,t.laid (RF:=m.toks) (Y:=.tup (l1 x M U)) (λf s r=>cp _ r) (bD _) ?_,rfl,r _<|t.aZ.fresh<|bD _⟩;exact⟨dD (Gq x M U) aN,_,(p.drop<|c6.b0 x.length 0 M).take<|c6.b0 x.length x.length U-c6.b0 x.length 0 M,l3.new _ _⟩
def K9(R:Φ):bI:=(λd i j A=>∃g f x Rj,d=.ref g/\i=.ref f/\cj R j g x/\cj R j f Rj/\x≠[]/\x.length+Rj.length<=sizeLine/\
 (Rj=[]->A (.ref g) j)/\(Rj≠[]->∀o,j o=X->A (.ref o) (upd j o<|.tup<|x++Rj)))
def bN.um{x:List ah}(p:bN x Rv):Rv=[]↔x=[]:=by
 cases p with
 |nil=>simp
 |cons _ _=>simp
def GY:dP b (fC .Add) (K9 b.K):=by
 intro G m w j d i q I A t k l e;let⟨g,f,x,@Rj,rfl,rfl,n,o,p,aN,s,u⟩:=e;cases k;cases l;let⟨@Rf,h,v,W⟩:=t.tuple n;let⟨@y,c,RR,W⟩:=t.tuple o;refine c6.IX v RR (λa=>p<|h.um.mp a) (λa=>⟨.ref g,j,t,rfl,s<|c.um.mp a⟩) (λa=>?_) (by rw[<-h.length,<-c.length];exact aN);refine⟨.ref m.heap.objs.size,_,t.laid (RF:=m.toks) (Y:=.tup (x++Rj)) (λf z r=>cp _ r) (bD _) ?_,rfl,u (λD=>a<|c.um.mpr D) _<|t.aZ.fresh<|bD _⟩;exact⟨by rw[c5];exact aN,_,h.append c,l3.new _ _⟩
end
def ic(s:Nat)(a:Int):Option Nat:=(if 0<=a then (if a<s then Z a.toNat else X) else if -(s:Int)<=a then Z (a+s).toNat else X)
def dB{Ry:Type}(x:List Ry)(a:Int):Option Ry:=((ic x.length a).bind λv=>x[v]?)
def zg(e:ic s a=Z v):xr a s=Z v/\v<s /\ -(s:Int)<=a/\a<s:=by
 unfold ic at e;by_cases b:0<=a
 ·rw[aB b]at e;by_cases k:a<s
  ·rw[aB k]at e;have c:a.toNat=v:=Option.some.inj e;exact⟨by rw[sb b k,c],⋯,⋯,k⟩
  ·rw[aD k]at e;cases e
 ·rw[aD b]at e;by_cases k : -(s:Int)<=a
  ·rw[aB k]at e;have c:(a+s).toNat=v:=Option.some.inj e;exact⟨by rw[uW ⋯ k,c],⋯,k,⋯⟩
  ·rw[aD k]at e;cases e
def E7{x:List Ry}{q:Ry}(e:dB x a=Z q):∃v,xr a x.length=Z v/\x[v]?=Z q/\v<x.length /\ -(x.length:Int)<=a/\a<x.length:=by
 unfold dB at e;cases c:ic x.length a with
 |none=>rw[c]at e;cases e
 |some v=>
  rw[c]at e;let@⟨k,l,b,d⟩:=zg c;exact⟨v,k,e,l,b,d⟩
def HX{x:List Ry}{q:Ry}(e:x[v]?=Z q):dB x (v:Int)=Z q:=by
 have a:v<x.length:=(fR.mp e).1;have c:ic x.length (v:Int)=Z v:=by
  unfold ic;rw[aB ⋯,aB ⋯];simp
 unfold dB;rw[c];exact e
def pQ(f:a8):Prop:=(∀Y a,subscripted f ax Y a=operate [Y,a] (ke Y a))
def h1(b:aK)(p:bI):Prop:=(
 ∀(H a:a8) (G:List (ar×a6)) (m:aq) (w:aX) (j:aw) (d i:ah) (q I:af) (A:b2),aF b G w j m->bW d q->bW i I->p d i j A->
  subscripted a ax q I=operate [q,I] (ke q I)->wpAny (aQ b.prog b.w) b.A (vI H a q I) (eb b G w A) b.cE m)
def pK(b:aK)(id:String)(p:ah->List ah->aw->b2->Prop):Prop:=(
 ∀(G:List (ar×a6)) (m:aq) (w:aX) (j:aw) (d:ah) (x:List ah) (q:af) (Rv:List af) (A:b2),aF b G w j m->bW d q->bN x Rv->p d x j A->
  wpAny (aQ b.prog b.w) b.A (call (.builtin id) (q::Rv)) (eb b G w A) b.cE m)
section
variable{b:aK}{g f:a8}{z R5:bP}{Rl:Pos}
def h1.or{RS:bI}(e:h1 b p)(S:h1 b RS):h1 b (λd i j A=>p d i j A\/RS d i j A):=by
 intro H a G m w j d i q I A t c f r g;rcases r with r|r
 ·exact e H a G m w j d i q I A t c f r g
 ·exact S H a G m w j d i q I A t c f r g
def Ej(a:h1 b p)(c:bx b g z)(h:bx b f R5)(k:pQ f):bx b (.Subscript g f Rl) (rH p z R5):=by
 intro G m w j A t e;exact vc (wH c h t e λq I l d i Ro n o s r=>a g f G l w Ro d i q I A n o s r<|k _ _)
def PK(R:Φ):bI:=(λd i j A=>∃o x a q,d=.ref o/\i=.int a/\cW R j o x/\dB x a=Z q/\A q j)
def Hu(R:Φ):bI:=(λd i j A=>∃o x a q,d=.ref o/\i=.int a/\cj R j o x/\dB x a=Z q/\A q j)
def JK:h1 b (PK b.K):=by
 intro H L G m w j d i q I A t n s e f;let⟨o,x,a,@u,rfl,rfl,y,z,r⟩:=e;cases n;let⟨@B,rfl⟩:=s;let⟨@Rf,p,bw,aN⟩:=t.list y;let⟨@v,k,l,M,C,E⟩:=E7 z;let⟨@D,g,F⟩:=p.get l;have J:=p.length;have N:=nB;have fin:eb b G w A D m:=⟨u,j,t,F,r⟩;by_cases h:0<=a
 ·have c:a.toNat=v:=by
   rw[sb h E]at k;exact Option.some.inj k
  exact item_listR bw.isList h ⋯ (by rw[c];simpa using g) fin f
 ·have c:(a+(Rf.toArray.size:Int)).toNat=v:=by
   rw[uW ⋯ C]at k;rw[cH,<-J];exact Option.some.inj k
  exact zH (x:=D) bw.isList.typeIs FL.lookup
   (wpAny_getItem_list_neg (Q:=λp T=>p=D/\eb b G w A p T) bw.isList ⋯ (by rw[cH]<;>lia) ⋯ (by rw[c];simpa using g) ⟨rfl,fin⟩) f
def ET:h1 b (Hu b.K):=by
 intro H C G m w j d i q I A t c f e g;let⟨o,x,a,@h,rfl,rfl,n,s,r⟩:=e;cases c;let⟨@B,rfl⟩:=f;let⟨@Rf,p,bw,aN⟩:=t.tuple n;let⟨@v,k,l,E,F,J⟩:=E7 s;let⟨@D,u,y⟩:=p.get l;have z:=p.length;have L:=nB;have fin:eb b G w A D m:=⟨h,j,t,y,r⟩;exact zH (x:=D) bw.typeIs slot_tuple_getitem.lookup
  (getItem_tuple (j:=v) (Q:=λp T=>p=D/\eb b G w A p T) bw ⋯ ⋯ (by rw[cH,<-z];exact k) ⇑u ⟨rfl,fin⟩) g
def Pn(Rf:List af)(s v:Nat)(I:af):a6.mapSeq (·.setIfInBounds v I) {cls:=.type "list",data:=.seq Rf.toArray s}={cls:=.type "list",data:=.seq (Rf.set v I).toArray s}:=by
 simp[a6.mapSeq]
variable{x:List ah}
def aF.lst(t:aF b G w j m)(e:j o=Z (.lst x)):
  ∃(Rf:List af) (s:Nat),bN x Rf/\m.heap.get? o=Z {cls:=.type "list",data:=.seq Rf.toArray s}/\x.length<=sizeLine:=by
 let@⟨a,⟨Rf,@s,p,c⟩⟩:=t.aZ o _ e;exact⟨Rf,s,p,c,a⟩
def aF.PJ{Rj:List ah}{a:Nat}{N:a6->a6}(t:aF b G w j m)(e:j o=Z (.lst x))(h:m.heap.get? o=Z {cls:=.type "list",data:=.seq Rf.toArray s})(g:N {cls:=.type "list",data:=.seq Rf.toArray s}={cls:=.type "list",data:=.seq J.toArray a})(p:bN Rj J)(aN:Rj.length<=sizeLine)(B:Nat):
  aF b G w (upd j o<|.lst Rj) {m with heap:=m.heap.update o N,toks:=B}:=by
 have c:(m.heap.update o N).get? o=Z {cls:=.type "list",data:=.seq J.toArray a}:=by
  rw[q_ N h (by rw[g]<;>rfl),g]
 refine t.write (d:=o) (c:=o) (by rw[e];trivial) (.inl rfl) (λf I i r=>(kg _ _<|eu i).trans r) ⟨_,c⟩ ?_;exact⟨aN,J,a,p,c⟩
def Ik:ah->ah->ah->aw->(aw->Prop)->Prop:=(λY a q j A=>∃o x n v,Y=.ref o/\a=.int n/\j o=Z (.lst x)/\ic x.length n=Z v/\A (upd j o<|.lst<|x.set v q))
def Ni:uG b Ik:=by
 intro G m w j Y a q F H I A t E z C e;let⟨o,x,n,@v,rfl,rfl,g,D,r⟩:=e;cases E;let⟨@B,rfl⟩:=z;let⟨Rf,@s,p,c,aN⟩:=t.lst g;let@⟨k,l,h,i⟩:=zg D;have d:=p.length;have J:=nB;have u:aF b G w (upd j o<|.lst<|x.set v q) {m with heap:=m.heap.update o (a6.mapSeq (·.setIfInBounds v I))}:=
  t.PJ g c (Pn Rf s v I) (p.set C v) (by rw[tg];exact aN) m.toks;by_cases y:0<=n
 ·have f:n.toNat=v:=by
   rw[sb y i]at k;exact Option.some.inj k
  exact PySem.W.ki_setAt c y ⋯ (by rw[cH,<-d];exact i) (by rw[f];exact⟨_,u,r⟩)
 ·have f:(n+(Rf.toArray.size:Int)).toNat=v:=by
   rw[uW ⋯ h]at k;rw[cH,<-d];exact Option.some.inj k
  exact PySem.W.ki_setBack c ⋯ (by rw[cH,<-d];exact h) ⋯ (by rw[f];exact⟨_,u,r⟩)
def LY(M U:Option Int)(s:Nat):(my M U X s).1=((c6.b0 s 0 M:Nat):Int)/\(my M U X s).2.1=((c6.b0 s s U:Nat):Int)/\(my M U X s).2.2=1:=by
 refine⟨?_,?_,rfl⟩
 ·cases M with
  |none=>simp[my,c6.b0]
  |some a=>
   simp only[my,c6.b0,Bb,show (1:Int)>0 by decide,e8];by_cases e:a<0
   ·simp only[e,e8]<;>lia
   ·simp only[e,eL]<;>lia
 ·cases U with
  |none=>simp[my,c6.b0]
  |some a=>
   simp only[my,c6.b0,Bb,show (1:Int)>0 by decide,e8];by_cases e:a<0
   ·simp only[e,e8]<;>lia
   ·simp only[e,eL]<;>lia
def HA(Rf:List af)(M U:Option Int):slicePick Rf.toArray M U X=((Rf.drop<|c6.b0 Rf.length 0 M).take<|c6.b0 Rf.length Rf.length U-c6.b0 Rf.length 0 M).toArray:=by
 let@⟨k,l,a⟩:=LY M U Rf.toArray.size;unfold slicePick;rw[k,l,a];simp only[sliceRange_one,pick_run,cH]<;>rfl
def Iw(R:Φ):ah->Option Int->Option Int->aw->b2->Prop:=(λd M U j A=>∃g x,d=.ref g/\cW R j g x/\∀o,j o=X->A (.ref o) (upd j o<|.lst<|l1 x M U))
def CI:pB b (Iw b.K):=by
 intro G m w j d q ck i M U bk A t c h bw k e;let⟨g,@x,rfl,l,r⟩:=e;cases c;let⟨@Rf,p,a,aN⟩:=t.list l;have n:=p.length;refine⟨"list",_,FL.lookup,a.isList.typeIs,?_⟩;refine wpAny_getItem_list_slice a.isList h bw k .none ↥0 ?_ (by rw[cH]<;>lia);rw[HA,<-n];refine⟨.ref m.heap.objs.size,_,t.laid (RF:=m.toks) (Y:=.lst (l1 x M U)) (λf o r=>cp _ r) (bD _) ?_,rfl,r _<|t.aZ.fresh<|bD _⟩;exact⟨dD (Gq x M U) aN,_,0,(p.drop<|c6.b0 x.length 0 M).take<|c6.b0 x.length x.length U-c6.b0 x.length 0 M,dc _ rfl⟩
def OU:eA b (.builtin "len") (λx j A=>∃o Rj,x=[.ref o]/\(cW b.K j o Rj\/cj b.K j o Rj)/\A (.int Rj.length) j):=by
 intro G m w j x Rv A t p e;let⟨o,@Rj,rfl,a,r⟩:=e;let⟨@I,rfl,d⟩:=iM p;cases d;have f:=nB;rcases a with a|a
 ·let⟨@Rf,RS,bw,aN⟩:=t.list a;have c:=RS.length;exact Calls.call_len_list bw.isList (by simp only[cH]<;>lia) ⟨.int Rj.length,j,t.tok _,⟨m.toks+1,by rw[cH,c]⟩,r⟩
 ·let⟨@Rf,RS,bw,aN⟩:=t.tuple a;have c:=RS.length;exact len_tuple bw (by simp only[cH]<;>lia) ⟨.int Rj.length,j,t.tok _,⟨m.toks+1,by rw[cH,c]⟩,r⟩
def N6:eA b (.builtin "len") (λx j A=>∃a,x=[.str a]/\a.length<=sizeLine/\A (.int a.length) j):=by
 intro G m w j x Rv A t p e;let⟨@a,rfl,aN,r⟩:=e;let⟨@I,rfl,⟨@B,rfl⟩⟩:=iM p;have c:=nB;exact len_str ⋯ ⟨.int a.length,j,t.tok _,⟨_,rfl⟩,r⟩
def eA.or{N:af}{p RS:List ah->aw->b2->Prop}(e:eA b N p)(S:eA b N RS):eA b N (λx j A=>p x j A\/RS x j A):=by
 intro G m w j x Rv A t a r;rcases r with r|r
 ·exact e G m w j x Rv A t a r
 ·exact S G m w j x Rv A t a r
def HL:eA b (.type "tuple") (λx j A=>∃o Rj,x=[.ref o]/\((cW b.K j o Rj/\∀C,j C=X->A (.ref C) (upd j C<|.tup Rj))\/(cj b.K j o Rj/\A (.ref o) j))):=by
 intro G m w j x Rv A t p e;let⟨o,@Rj,rfl,e⟩:=e;let⟨@I,rfl,g⟩:=iM p;cases g;rcases e with ⟨a,r⟩|⟨a,r⟩
 ·let⟨@Rf,RS,bw,aN⟩:=t.list a;have i:=RS.length;refine call_tuple_list bw.isList (λS dG=>?_) (by simp only[cH]<;>lia);have d:aF b G w j {m with heap:=S}:=t.kept (RF:=m.toks) dG;have h:aF b G w (upd j S.objs.size<|.tup Rj) {m with heap:=S.push {cls:=.type "tuple",data:=.seq Rf.toArray} }:=
   d.laid (RF:=m.toks) (λf Y c=>cp _ c) (bD _) (show eh b.prog b.w _ _ _ (.tup Rj) from ⟨aN,Rf,RS,l3.new _ _⟩);exact⟨.ref S.objs.size,_,h,rfl,r _<|d.aZ.fresh<|bD _⟩
 ·let⟨@Rf,RS,bw,aN⟩:=t.tuple a;exact call_tuple_same bw ⟨.ref o,j,t,rfl,r⟩
def kI(R:Φ)(Rc:String)(d:ah)(j:aw):Prop:=(match d with
 |.str _=>Rc = "str"
 |.int _=>Rc = "int"
 |.ref o=>(Rc = "list" /\ ∃x,cW R j o x)\/(Rc = "tuple" /\ ∃Y,R.lookup o=Z Y/\Y.cls=.type "tuple" /\ Y.dict=X)\/
   (Rc = "dict" /\ ((∃Rd,j o=Z (.dh Rd))\/∃Rd,j o=Z (.aS Rd)))\/(Rc = "set" /\ ∃Rk s,j o=Z (.set Rk s))
 |_=>False)
def Bw{d:ah}{q:af}(t:aF b G w j m)(p:bW d q)(ty:kI b.K Rc d j):
  m.TypeIs q Rc/\∀g,q=.ref g->∃k,m.heap.get? g=Z k/\k.dict=X:=by
 cases d with
 |str f=>
  let⟨@B,rfl⟩:=p;cases (show Rc = "str" from ty);exact⟨vu m f B,λ_ c=>nomatch c⟩
 |int a=>
  let⟨@B,rfl⟩:=p;cases (show Rc = "int" from ty);exact⟨typeIs_int m a B,λ_ c=>nomatch c⟩
 |ref o=>
  cases p;rcases ty with ⟨rfl,x,l⟩|⟨rfl,Y,e,n,hd⟩|⟨rfl,e⟩|⟨rfl,Rk,s,e⟩
  ·let⟨@Rf,W,bw,W⟩:=t.list l;refine⟨bw.isList.typeIs,λg c=>?_⟩;cases c;let⟨Y,@s,c,h,hd,W⟩:=bw;exact⟨Y,c,hd⟩
  ·refine⟨⟨Y,t.nL o Y e,n⟩,λg c=>?_⟩;cases c;exact⟨Y,t.nL _ Y e,hd⟩
  ·have f:∃Y,m.heap.get? o=Z Y/\Y.ExactDict:=by
    rcases e with ⟨Rd,e⟩|⟨Rd,e⟩
    ·let@⟨_,_,⟨@_,_,⟨Y,_,@_,c,E,_⟩⟩⟩:=t.aZ o _ e;exact⟨Y,c,E⟩
    ·let@⟨_,_,⟨@_,_,⟨Y,_,@_,c,E,_⟩⟩⟩:=t.aZ o _ e;exact⟨Y,c,E⟩
   let⟨@Y,c,E⟩:=f;refine⟨⟨Y,c,E.1⟩,λg i=>?_⟩;cases i;exact⟨Y,c,E.2.1⟩
  ·let⟨Y,W,W,@W,c,E,W⟩:=t.aZ o _ e;refine⟨⟨Y,c,E.1⟩,λg i=>?_⟩;cases i;exact⟨Y,c,E.2.1⟩
 |_=>exact False.elim ty
def Oj(R:Φ)(Rc:String)(p:ah->List ah->aw->b2->Prop)(y:bP):bP:=(λw j A=>y w j λd Rb=>kI R Rc d Rb/\p d [] Rb A)
def MK(R:Φ)(Rc:String)(p:ah->List ah->aw->b2->Prop)(y:bP)(B:es):bP:=(λw j A=>y w j λd Rb=>kI R Rc d Rb/\B w Rb λx Ro=>p d x Ro A)
variable{Y c:a8}{Q:List a8}{y:bP}{B:es}{name:aC}{Se R7:Pos}{Rc id:String}{p:ah->List ah->aw->b2->Prop}
def zt(bL:t2 Rc)(f:m9 Rc name id)(g:lU (.builtin id)=pure (.type "method_descriptor"))(h:pK b id p)(i:bx b Y y)(n:lx Y name b.env (bR Y b.env)=bR Y b.env:=by rfl)(o:(Se.endLine==R7.line)=ab:=by rfl):bx b (.Call (.Attribute Y name Se) [] [] R7) (Oj b.K Rc p y):=by
 intro G m w j A t e;refine wpAny_Call_method0_late n o (bK (i G m w j _ t e) λq r s=>?_);let⟨d,@Rb,a,c,ty,u⟩:=s;let@⟨k,l⟩:=Bw a c ty;exact⟨Rc,id,bL,f,g,k,l,x9 rfl<|PySem.evalArgs_none<|h G r w Rb d [] q [] A a c .nil u⟩
def BB(bL:t2 Rc)(i:m9 Rc name id)(n:lU (.builtin id)=pure (.type "method_descriptor"))(o:pK b id p)(r:bx b Y y)(s:gw b (c::Q) B)(u:lx Y name b.env (bR Y b.env)=bR Y b.env:=by rfl)(v:((eT R7<|bF (c::Q) b.env).all (λd=>!d.1)&&(qb R7<|ru [] b.env).all (λd=>d.1.isSome)
   && decide ((c::Q).length+([]:List js).length+(if ([]:List js).isEmpty then 0 else 1)<30))=ab:=by rfl)(x:(Se.endLine==R7.line)=ab:=by rfl)(z:bF (c::Q) b.env=(ax,bR c b.env)::bF Q b.env:=by rfl)(C:(eT R7<|bF Q b.env).any (·.1)=ax:=by rfl):
  bx b (.Call (.Attribute Y name Se) (c::Q) [] R7) (MK b.K Rc p y B):=by
 intro G m w j A t e;refine AI u v x rfl (bK (r G m w j _ t e) λq D a=>?_);let⟨d,@Rb,f,g,ty,E⟩:=a;let@⟨k,l⟩:=Bw f g ty;refine⟨Rc,id,bL,i,n,k,l,?_⟩;have h:=s R7 G D w Rb _ f E;rw[z]at h ⊢;refine x9 (by show (ax || (eT R7<|bF Q b.env).any (·.1))=ax;rw[C]<;>rfl) (DO ?_);refine bK h λRv F a=>?_;let⟨ae,@Ro,H,I,J⟩:=a;exact o G F w Ro d ae q Rv A H g I J
end
def rE(b:aK)(id:String)(p:ah->List ah->aw->b2->Prop):Prop:=(
 ∀(G:List (ar×a6)) (m:aq) (w:aX) (j:aw) (d:ah) (x:List ah) (q:af) (Rv:List af) (A:b2),aF b G w j m->bW d q->bN x Rv->p d x j A->
  wpAny (aQ b.prog b.w) b.A (call (.builtin id) (q::Rv)) (eb b G w A) b.cE m)
theorem bN.one:∀{d:ah}{Rv:List af},bN [d] Rv->∃I,Rv=[I]/\bW d I
 |_,_,.cons p .nil=>⟨_,rfl,p⟩
theorem bN.zero:∀{Rv:List af},bN [] Rv->Rv=[]
 |_,.nil=>rfl
def bN.dropLast{x:List ah}(e:bN x Rv):bN x.dropLast Rv.dropLast:=by
 induction e with
 |nil=>exact .nil
 |cons p B a=>
  cases B with
  |nil=>exact .nil
  |cons r RF=>exact .cons p a
theorem bN.eraseIdx:∀{x:List ah}{Rv:List af} (a:Nat),bN x Rv->bN (x.eraseIdx a) (Rv.eraseIdx a)
 |_,_,_,.nil=>.nil
 |_,_,0,.cons _ B=>B
 |_,_,a+1,.cons p B=>.cons p (bN.eraseIdx a B)
def Km(C:List Ry):C.eraseIdx (C.length-1)=C.dropLast:=by
 induction C with
 |nil=>rfl
 |cons g p a=>
  cases p with
  |nil=>rfl
  |cons f p=>
   have c:(g::f::p).length-1=((f::p).length-1)+1:=by
    have k:(g::f::p).length=p.length+2:=rfl;have l:(f::p).length=p.length+1:=rfl;lia
   rw[c,F1,a];all_goals rfl
theorem B5{Ry:Type}:∀(C:List Ry) (a:Nat),(C.eraseIdx a).length<=C.length
 |[],_=>bD _
 |_::_,0=>z4 _
 |_::p,a+1=>Fh (B5 p a)
section
variable{b:aK}{G:List (ar×a6)}{w:aX}{j:aw}{m:aq}{C f:ar}{x Rj RY:List ah}
def aF.p6{N:Array af->Array af}(t:aF b G w j m)(a:j C=Z (.lst x))(c:m.heap.get? C=Z {cls:=.type "list",data:=.seq Rf.toArray s})(e:N Rf.toArray=J.toArray)(f:bN Rj J)(aN:Rj.length<=sizeLine):
  aF b G w (upd j C<|.lst Rj) {m with heap:=m.heap.update C (a6.mapSeq N),toks:=RF}:=by
 have r:=D9 c N;rw[e]at r;refine t.write (d:=C) (c:=C) (by rw[a];exact trivial) (.inl rfl) (λi I g h=>(kg m.heap (a6.mapSeq N)<|eu g).trans h) ⟨_,r⟩ ?_;exact⟨aN,J,_,f,r⟩
def aF.Hl(t:aF b G w j m)(a:bN Rj Rf)(aN:Rj.length<=sizeLine):
  aF b G w (upd j m.heap.objs.size<|.lst Rj) {m with heap:=m.heap.push {cls:=.type "list",data:=.seq Rf.toArray},toks:=RF}:=
 t.laid (λ_ Y r=>cp _ r) (bD _) ⟨aN,Rf,0,a,dc _ rfl⟩
def aF.fresh(t:aF b G w j m):j m.heap.objs.size=X:=t.aZ.fresh (bD _)
def aF.gb(t:aF b G w j m)(a:j C=Z (.lst x)):x.length<=sizeLine/\∃(Rf:List af) (s:Nat),bN x Rf/\x.length=Rf.length/\m.heap.get? C=Z {cls:=.type "list",data:=.seq Rf.toArray s}:=by
 let@⟨d,⟨Rf,@s,p,c⟩⟩:=t.aZ C _ a;exact⟨d,Rf,s,p,p.length,c⟩
def Nu(e:s<=sizeLine):bq.List.listTooLong s=ax:=by
 unfold bq.List.listTooLong;exact dv ⋯
end
section
variable{b:aK}
def Pl:ah->List ah->aw->b2->Prop:=(λd ae j A=>∃C x i,d=.ref C/\ae=[i]/\j C=Z (.lst x)/\x.length<sizeLine/\A .aW (upd j C<|.lst<|x++[i]))
def G7:rE b "list.append" Pl:=by
 intro G m w j d ae q Rv A t f g e;let⟨C,x,@i,rfl,rfl,a,aN,r⟩:=e;cases f;let⟨@I,rfl,h⟩:=g.one;let@⟨z,⟨Rf,@s,p,k,c⟩⟩:=t.gb a;refine lO EH ⟨_,c,rfl⟩ Bn (C3 _ _) (B_ C Rf.toArray s I (by rw[cH];lia)) ⟨c,?_⟩;refine⟨.aW,_,t.p6 (J:=Rf++[I]) a c ↥0 (p.append<|.cons h .nil) ?_,rfl,r⟩;rw[c5,fQ];lia
def OJ:ah->List ah->aw->b2->Prop:=(λd ae j A=>∃C f x RY,d=.ref C/\ae=[.ref f]/\j C=Z (.lst x)/\j f=Z (.lst RY)/\x.length+RY.length<=sizeLine/\A .aW (upd j C<|.lst<|x++RY))
def JQ:rE b "list.extend" OJ:=by
 intro G m w j d ae q Rv A t h i e;let⟨C,f,x,@RY,rfl,rfl,g,k,aN,r⟩:=e;cases h;let⟨@I,rfl,l⟩:=i.one;cases l;let@⟨z,⟨Rf,@s,p,B,c⟩⟩:=t.gb g;let@⟨D,⟨a,@n,o,E,u⟩⟩:=t.gb k;have v:Rf.toArray.size+a.toArray.size<=sizeLine:=by rw[cH,cH];lia
 have y:¬ (!Rf.toArray.isEmpty&&bq.List.listTooLong (Rf.toArray.size+a.toArray.size))=ab:=by
  rw[Nu v,DF];exact c_
 refine lO F.slot_list_extend ⟨_,c,rfl⟩ F.entry_list_extend (F.args_list_extend_2 _ _)
  (AutoSeq1.list_extend_list_list_0 C Rf.toArray s f a.toArray n y (by rw[cH];lia) ⋯) ⟨c,u,?_⟩;refine⟨.aW,_,t.p6 (J:=Rf++a) g c ↥0 (p.append o) ?_,rfl,r⟩;rw[c5];lia
def M0:ah->List ah->aw->b2->Prop:=(λd ae j A=>∃C x i,d=.ref C/\ae=[]/\j C=Z (.lst x)/\x[x.length-1]?=Z i/\A i (upd j C<|.lst x.dropLast))
def J4:rE b "list.pop" M0:=by
 intro G m w j d ae q Rv A t f g e;let⟨C,x,@i,rfl,rfl,a,h,r⟩:=e;cases f;have k:=g.zero;subst k;let@⟨z,⟨Rf,@s,p,l,c⟩⟩:=t.gb a;let⟨@I,n,o⟩:=p.get h;have u:Rf.toArray[Rf.toArray.size-1]?=Z I:=by
  show Rf.toArray[Rf.length-1]?=Z I;rw[<-gq,<-l];exact n
 refine lO Aq ⟨_,c,rfl⟩ EJ (F.args_list_pop_1 _) (MeetsSeq.list_pop_last C Rf.toArray s I u (by rw[cH];lia)) ⟨c,?_⟩;refine⟨i,_,t.p6 (J:=Rf.dropLast) a c ?_ p.dropLast ?_,o,r⟩
 ·show Rf.toArray.eraseIdxIfInBounds (Rf.toArray.size-1)=Rf.dropLast.toArray;rw[cH,wU,Km]
 ·rw[List.length_dropLast];lia
def HE:ah->List ah->aw->b2->Prop:=(λd ae j A=>∃C x a n i,d=.ref C/\ae=[.int a]/\j C=Z (.lst x) /\ -(2^63)<=a/\a<2^63/\xr a x.length=Z n/\x[n]?=Z i/\A i (upd j C<|.lst<|x.eraseIdx n))
def MA:rE b "list.pop" HE:=by
 intro G m w j d ae q Rv A t g h e;let⟨C,x,a,n,@i,rfl,rfl,f,k,l,o,u,r⟩:=e;cases g;let⟨@I,rfl,v⟩:=h.one;let⟨@B,rfl⟩:=v;let@⟨z,⟨Rf,@s,p,y,c⟩⟩:=t.gb f;let⟨@D,E,H⟩:=p.get u;refine lO Aq ⟨_,c,rfl⟩ EJ (F.args_list_pop_2 _ _)
  (MeetsSeq.list_pop_at C Rf.toArray s a B n D (fitsIndex_both k l) (by rw[cH,<-y];exact o) (by rw[<-gq];exact E) (by rw[cH];lia)) ⟨c,?_⟩;refine⟨i,_,t.p6 (J:=Rf.eraseIdx n) f c ?_ (p.eraseIdx n) ?_,H,r⟩
 ·show Rf.toArray.eraseIdxIfInBounds n=(Rf.eraseIdx n).toArray;rw[wU]
 ·have:=B5 x n;lia
def O6:bI:=(λd i j A=>∃C f x RY,d=.ref C/\i=.ref f/\j C=Z (.lst x)/\j f=Z (.lst RY)/\x.length+RY.length<=sizeLine/\∀o,j o=X->A (.ref o) (upd j o<|.lst<|x++RY))
def JH:dP b (fC .Add) O6:=by
 intro G m w j d i q I A t g h e;let⟨C,f,x,@RY,rfl,rfl,k,l,aN,r⟩:=e;cases g;cases h;let@⟨z,⟨Rf,@s,p,v,c⟩⟩:=t.gb k;let@⟨y,⟨a,@B,n,D,o⟩⟩:=t.gb l;refine PySem.P.add_list c o ?_ (by rw[cH,cH];lia);have u:Rf.toArray++a.toArray=(Rf++a).toArray:=by simp
 rw[u];exact⟨.ref _,_,t.Hl (RF:=m.toks) (p.append n) (by rw[c5];lia),rfl,r _ t.fresh⟩
end
section
variable{Rx:Type}[DecidableEq Rx]
def gE(Rd:List (Rx×ah))(n:Rx):Option ah:=((Rd.find? λa=>decide (a.1=n)).map (·.2))
def fe(Rd:List (Rx×ah))(n:Rx)(q:ah):List (Rx×ah):=(
 if (Rd.any λa=>decide (a.1=n))=ab then Rd.map (λa=>if a.1=n then (a.1,q) else a) else Rd++[(n,q)])
def q6{o:Rx×ah}{p:List (Rx×ah)}{n:Rx}(c:o.1=n):gE (o::p) n=Z o.2:=by simp[gE,iQ,c]
def qv{o:Rx×ah}{p:List (Rx×ah)}{n:Rx}(c:¬ o.1=n):gE (o::p) n=gE p n:=by simp[gE,iQ,c]
theorem Cj(n:Rx):∀Rd:List (Rx×ah),(Rd.any λa=>decide (a.1=n))=(gE Rd n).isSome
 |[]=>rfl
 |o::p=>by
  rw[l4];by_cases c:o.1=n
  ·simp only[q6 c,dj c,Bool.true_or,Option.isSome_some]
  ·rw[qv c,dv c,Bool.false_or];exact Cj n p
def CF(Rd:List (Rx×ah))(n:Rx)(q:ah):(fe Rd n q).length<=Rd.length+1:=by
 unfold fe;split
 ·rw[bH];lia
 ·rw[c5,dd,gZ];lia
def kp.qG{I:Option af}(p:kp Y I):Y.isSome=I.isSome:=by
 cases Y with
 |none=>cases I with
  |none=>rfl
  |some _=>exact (show False from p).elim
 |some _=>cases I with
  |none=>exact (show False from p).elim
  |some _=>rfl
def fa.val{Rd:List (Rx×ah)}{ae:List (Rx×af)}(p:fa Rd ae)(n:Rx):kp (gE Rd n) (m7 ae n):=by
 unfold fa at p;induction p with
 |nil=>exact True.intro
 |@cons o r Rg a e B d=>
  let@⟨k,l⟩:=e;by_cases c:o.1=n
  ·have b:r.1=n:=k.symm.trans c;have f:m7 (r::a) n=Z r.2:=by simp[m7,iQ,b]
   rw[q6 c,f];exact l
  ·have b:¬ r.1=n:=λg=>c (k.trans g);have f:m7 (r::a) n=m7 a n:=by simp[m7,iQ,b]
   rw[qv c,f];exact d
def fa.any{Rd:List (Rx×ah)}{ae:List (Rx×af)}(p:fa Rd ae)(n:Rx):(Rd.any λa=>decide (a.1=n))=ae.any λa=>decide (a.1=n):=by
 unfold fa at p;induction p with
 |nil=>rfl
 |cons e B b=>rw[l4,l4,b,e.1]
def fa.vG{Rd:List (Rx×ah)}{ae:List (Rx×af)}(p:fa Rd ae)(n:Rx){i:ah}{I:af}(b:bW i I):
  fa (Rd.map λa=>if a.1=n then (a.1,i) else a) (ae.map λa=>if a.1=n then (a.1,I) else a):=by
 unfold fa at p ⊢;induction p with
 |nil=>exact .nil
 |@cons o r Rg g e B d=>
  rw[bV,bV];refine .cons ?_ d;let@⟨k,l⟩:=e;by_cases c:o.1=n
  ·rw[aB c,aB<|k.symm.trans c];exact⟨k,b⟩
  ·rw[aD c,aD<|λf=>c<|k.trans f];exact⟨k,l⟩
def fa.put{Rd:List (Rx×ah)}{ae:List (Rx×af)}(p:fa Rd ae)(n:Rx){i:ah}{I:af}(a:bW i I):fa (fe Rd n i) (stored ae n I):=by
 unfold fe stored;rw[p.any n];by_cases c:(ae.any λb=>decide (b.1=n))=ab
 ·rw[aB c,aB c];exact p.vG n a
 ·rw[aD c,aD c];exact d3.snoc p ⟨rfl,a⟩
def fa.length{Rd:List (Rx×ah)}{ae:List (Rx×af)}(p:fa Rd ae):Rd.length=ae.length:=d3.length p
end
def uE{n:d6}{I:af}(p:bW (cz n) I):(lL Ri D).is n I=ab:=by
 cases n with
 |inl a=>let⟨@B,c⟩:=(show ∃B,I=af.int a B from p);subst c;exact Ln Ri D a B
 |inr d=>let⟨@B,c⟩:=(show ∃B,I=af.str d B from p);subst c;exact IA Ri D d B
abbrev fh(j:aw):List (List V×ah)->List (List V×ar×af)->Prop:=d3 λo r=>o.1=r.1/\g6 j o.1 r.2.1/\bW o.2 r.2.2
def fh.val(p:fh j Rd x)(n:List V):kp (gE Rd n) ((kH x n).map (·.2)):=by
 induction p with
 |nil=>exact True.intro
 |@cons o r Rg a e B d=>
  let@⟨k,_,l⟩:=e;by_cases c:o.1=n
  ·have b:r.1=n:=k.symm.trans c;have f:kH (r::a) n=Z r.2:=by simp[kH,iQ,b]
   rw[q6 c,f];exact l
  ·have b:¬ r.1=n:=λg=>c (k.trans g);have f:kH (r::a) n=kH a n:=by simp[kH,iQ,b]
   rw[qv c,f];exact d
def fh.vG(p:fh j Rd x)(n:List V){i:ah}{I:af}(b:bW i I):
  fh j (Rd.map λa=>if a.1=n then (a.1,i) else a) (x.map<|putAt n I):=by
 induction p with
 |nil=>exact .nil
 |@cons o r Rg h e B d=>
  rw[bV,bV];refine .cons ?_ d;let@⟨k,l,f⟩:=e;unfold putAt;by_cases c:o.1=n
  ·rw[aB c,aB<|k.symm.trans c];exact⟨k,l,b⟩
  ·rw[aD c,aD<|λg=>c<|k.trans g];exact⟨k,l,f⟩
def fh.put(p:fh j Rd x)(n:List V){f:ar}{i:ah}{I:af}(b:g6 j n f)(a:bW i I):
  fh j (fe Rd n i) (storedH x n f I):=by
 have c:(Rd.any λd=>decide (d.1=n))=(kH x n).isSome:=by
  rw[Cj,(p.val n).qG,sX]
 unfold fe storedH;rw[c];by_cases r:(kH x n).isSome=ab
 ·rw[aB r,aB r];exact p.vG n a
 ·rw[aD r,aD r];exact d3.snoc p ⟨rfl,b,a⟩
def fh.keeps(p:fh j Rd x)(b:∀f Rj,j f=Z (.tup Rj)->F f=Z (.tup Rj)):fh F Rd x:=
 d3.sE p λ_ Y a=>⟨a.1,a.2.1.mono b,a.2.2⟩
section
variable{Ri:bz}{D:bg}{j:aw}{e:a4}{g:ar}
def BU{I:fo}(ok:dH Ri D j e)(c:j2 j g I):eh Ri D j e g I:=c.ok ok
def ob{Rd:List (d6×ah)}(ok:dH Ri D j e)(c:j2 j g (.dh Rd)):Rd.length<=sizeLine/\(g==iz)=ax/\∃ae,fa Rd ae/\e.DictOf (lL Ri D) g ae:=
 show eh Ri D j e g (.dh Rd) from BU ok c
def HR{Rd:List (d6×ah)}(ok:dH Ri D j e)(c:j g=Z (.dh Rd)):Rd.length<=sizeLine/\(g==iz)=ax/\∃ae,fa Rd ae/\e.DictOf (lL Ri D) g ae:=ob ok (.inl c)
mutual
theorem cg.ea(ok:dH Ri D j e):∀{u:V}{q:ah}{I:af},cg j u q->bW q I->c3 e u I
 |.aW,_,_,c,p=>by cases (show _=ah.aW from c);exact p
 |.aG f,_,_,c,p=>by cases (show _=ah.aG f from c);exact p
 |.int a,_,_,c,p=>by cases (show _=ah.int a from c);exact p
 |.str d,_,_,c,p=>by cases (show _=ah.str d from c);exact p
 |.fn g,_,_,c,p=>by cases (show _=ah.ref g from c);exact p
 |.tup E,_,_,c,p=>by
  let⟨g,@x,rfl,k,l⟩:=c;cases p;let@⟨_,⟨@Rf,b,⟨@Y,h,i,⟨@s,m⟩⟩⟩⟩:=(show eh Ri D j e g (.tup x) from ok g _ k);exact⟨g,Y,Rf.toArray,s,rfl,h,(Prod.mk.inj i).1,m,by simpa using bA.ea ok l b⟩
 |.aT E,_,_,c,p=>by
  let⟨g,x,@Y,rfl,k,l⟩:=c;cases p;exact⟨g,rfl⟩
 |.fd,_,_,c,p=>by
  let⟨g,@Y,rfl,k⟩:=c;cases p;exact⟨g,rfl⟩
theorem bA.ea(ok:dH Ri D j e):∀{E:List V}{ae:List ah}{Rv:List af},bA j E ae->bN ae Rv->dr e E Rv
 |[],_,_,c,p=>by cases (show _=[] from c);cases p;rfl
 |u::E,_,_,c,p=>by
  let⟨q,@B,rfl,k,l⟩:=c;cases p with
  |cons a b=>exact⟨_,_,rfl,cg.ea ok k a,bA.ea ok l b⟩
end
def lR{Ru:List V}(ok:dH Ri D j e)(c:g6 j Ru g):(hO Ri D).is e Ru g:=⟨c.1,c.2.ea ok rfl⟩
def p0{Ri:bz}{D:bg}(e:O.units+20<bJ):(hO Ri D).room O.in1:=show O.units+1+10<bJ by lia
def ry(ok:dH Ri D j e)(c:j2 j g (.aS Rd)):Rd.length<=sizeLine/\(g==iz)=ax/\
  ∃x,fh j Rd x/\e.DictOfH (hO Ri D) g x:=by
 let@⟨f,i,⟨@x,p,⟨Y,Q,@RU,k,l,h,m,n⟩⟩⟩:=(show eh Ri D j e g (.aS Rd) from BU ok c);refine⟨f,i,x,p,Y,Q,RU,k,l,h,m,λd a=>?_,n⟩;have all:∀{C:List (List V×ah)}{H:List (List V×ar×af)},fh j C H->∀d∈H,(hO Ri D).is e d.1 d.2.1:=by
  intro C H r;induction r with
  |nil=>intro d a;exact nomatch a
  |@cons o r Rg s b B q=>
   intro d a;rcases b9.mp a with c|a
   ·subst c;exact lR ok (by rw[<-b.1];exact b.2.1)
   ·exact q d a
 exact all p d a
def Af(ok:dH Ri D j e)(c:j g=Z (.aS Rd)):Rd.length<=sizeLine/\(g==iz)=ax/\
  ∃x,fh j Rd x/\e.DictOfH (hO Ri D) g x:=ry ok (.inl c)
end
def eS(j:aw)(g:ar)(i:ah)(p:Option ah):Prop:=(
 (∃Rd n,j2 j g (.dh Rd)/\i=cz n/\p=gE Rd n)\/∃Rd n f,j2 j g (.aS Rd)/\i=.ref f/\g6 j n f/\p=gE Rd n)
def kD(j:aw)(g:ar)(i q:ah)(F:aw):Prop:=(
 (∃Rd n,j g=Z (.dh Rd)/\i=cz n/\Rd.length<sizeLine/\F=upd j g (.dh<|fe Rd n q))\/
 ∃Rd n f,j g=Z (.aS Rd)/\i=.ref f/\g6 j n f/\Rd.length<sizeLine/\F=upd j g (.aS<|fe Rd n q))
def eS.k{j:aw}{g:ar}{Rd:List (d6×ah)}{n:d6}(c:j g=Z (.dh Rd)):eS j g (cz n) (gE Rd n):=.inl ⟨Rd,n,.inl c,rfl,rfl⟩
def eS.t{j:aw}{g f:ar}{Rd:List (List V×ah)}{n:List V}(c:j g=Z (.aS Rd))(a:g6 j n f):eS j g (.ref f) (gE Rd n):=.inr ⟨Rd,n,f,.inl c,rfl,a,rfl⟩
def kD.k{j:aw}{g:ar}{Rd:List (d6×ah)}{n:d6}{q:ah}(c:j g=Z (.dh Rd))(a:Rd.length<sizeLine):kD j g (cz n) q (upd j g<|.dh<|fe Rd n q):=.inl ⟨Rd,n,c,rfl,a,rfl⟩
def kD.t{j:aw}{g f:ar}{Rd:List (List V×ah)}{n:List V}{q:ah}(c:j g=Z (.aS Rd))(a:g6 j n f)(b:Rd.length<sizeLine):
  kD j g (.ref f) q (upd j g<|.aS<|fe Rd n q):=.inr ⟨Rd,n,f,c,rfl,a,b,rfl⟩
section
variable{b:aK}{G:List (ar×a6)}{w:aX}{j:aw}{m:aq}{g:ar}{i q:ah}{I p:af}{Y:Option ah}{O:bp}{Q7:af->aq->Prop}
def aF.big(t:aF b G w j m):iz<m.heap.objs.size:=by
 have e:dM<m.heap.objs.size:=(t.mod.glob.keeps t.ew).lt;exact zL ∅ e
def yr(s:O.units+20<bJ)(t:aF b G w j m)(L:eS j g i (Z q))(r:bW i I)(e:∀a T,aF b G w j T->bW q a->A a T):
  wpAny (aQ b.prog b.w) O (ke (.ref g) I) A Q7 m:=by
 rcases L with ⟨Rd,n,c,d,C⟩|⟨Rd,n,f,c,d,u,C⟩
 ·subst d;let@⟨z,hd,⟨@ae,h,k⟩⟩:=ob t.aZ c;let⟨@a,l,p⟩:=kp.some_of (q:=q) (Y:=m7 ae n) (by rw[C];exact h.val n);exact wpAny_getItem_of (uE r) k.mapOf l (e a _ (t.tok _) p)
 ·subst d;cases (show I=af.ref f from r);let@⟨z,hd,⟨@x,h,k⟩⟩:=ry t.aZ c;let⟨@a,l,p⟩:=kp.some_of (q:=q) (Y:=(kH x n).map (·.2)) (by rw[C];exact h.val n);let⟨@o,v,y⟩:=cw.mp l;refine wpAny_getItem_heap (p0 s) (lR t.aZ u) k v ?_;rw[y];exact e a _ (t.tok _) p
def xq(l:O.units+20<bJ)(t:aF b G w j m)(L:eS j g i Y)(k:bW i I)(e:∀T,aF b G w j T->A (.bool Y.isSome) T):
  wpAny (aQ b.prog b.w) O (ez .In I<|.ref g) A Q7 m:=by
 rcases L with ⟨Rd,n,c,a,C⟩|⟨Rd,n,f,c,a,o,C⟩
 ·subst a;let@⟨z,hd,⟨@ae,d,h⟩⟩:=ob t.aZ c;refine wpAny_in_of (uE k) hd h.mapOf ?_;rw[<-(d.val n).qG,<-C];exact e _ (t.tok _)
 ·subst a;cases (show I=af.ref f from k);let@⟨z,hd,⟨@x,d,h⟩⟩:=ry t.aZ c;refine wpAny_in_heap (p0 l) (lR t.aZ o) hd h ?_;have r:=(d.val n).qG;rw[sX]at r;rw[<-r,<-C];exact e _ (t.tok _)
def vb(l:O.units+20<bJ)(t:aF b G w j m)(L:eS j g i Y)(k:bW i I)(e:∀T,aF b G w j T->A (.bool<|!Y.isSome) T):
  wpAny (aQ b.prog b.w) O (ez .NotIn I<|.ref g) A Q7 m:=by
 rcases L with ⟨Rd,n,c,a,C⟩|⟨Rd,n,f,c,a,o,C⟩
 ·subst a;let@⟨z,hd,⟨@ae,d,h⟩⟩:=ob t.aZ c;refine wpAny_notIn_of (uE k) hd h.mapOf ?_;rw[<-(d.val n).qG,<-C];exact e _ (t.tok _)
 ·subst a;cases (show I=af.ref f from k);let@⟨z,hd,⟨@x,d,h⟩⟩:=ry t.aZ c;refine wpAny_notIn_heap (p0 l) (lR t.aZ o) hd h ?_;have r:=(d.val n).qG;rw[sX]at r;rw[<-r,<-C];exact e _ (t.tok _)
def yb{a:fo}(t:aF b G w j m)(e:q9 (j g))(h:a4.SameBut g m.heap S)(i:∃r,S.get? g=Z r)(new:eh b.prog b.w (upd j g a) S g a):
  aF b G w (upd j g a) {m with heap:=S,toks:=RF}:=
 t.write (d:=g) (c:=g) e (.inl rfl) (λf r k l=>(h.2 f k).trans l) i new
def P6{Rd:List (d6×ah)}{ae:List (d6×af)}(a:Rd.length<=sizeLine)(hd:(g==iz)=ax)(b:fa Rd ae)(c:S.DictOf (lL Ri D) g ae):
  eh Ri D F S g (.dh Rd):=⟨a,hd,ae,b,c⟩
def tb{A:Unit->aq->Prop}(M:O.units+20<bJ)(t:aF b G w j m)(L:kD j g i q F)(B:bW i I)(E:bW q p)(e:∀T,aF b G w F T->A () T):
  wpAny (aQ b.prog b.w) O (oY (.ref g) I p) A Q7 m:=by
 rcases L with ⟨Rd,n,c,s,C,u⟩|⟨Rd,n,f,c,s,H,C,u⟩
 ·subst s u;let@⟨a,hd,⟨@ae,d,v⟩⟩:=HR t.aZ c;have aN:ae.length<=sizeLine:=by rw[<-d.length];exact a
  have y:(fe Rd n q).length<=sizeLine:=by have:=CF Rd n q;lia
  refine wpAny_setItem_pairs (hsz:=aN) (uE B) v λS k z=>e _ ?_;have P:∃r,S.get? g=Z r:=let ⟨r,_,_,o,_⟩:=k;⟨r,o⟩
  exact yb t (by rw[c];exact True.intro) z P (P6 y hd (d.put n E) k)
 ·subst s u;cases (show I=af.ref f from B);let@⟨a,hd,⟨@x,d,v⟩⟩:=Af t.aZ c;have aN:x.length<=sizeLine:=by rw[<-d3.length d];exact a
  have y:(fe Rd n q).length<=sizeLine:=by have:=CF Rd n q;lia
  refine wpAny_setItem_heap (hsz:=aN) (p0 M) (lR t.aZ H) v λS k z=>e _ ?_;let⟨r,Q,@RU,o,l,R,U,Y,al⟩:=k;refine yb t (by rw[c];exact True.intro) z ⟨r,o⟩ ⟨y,hd,_,(d.put n H E).keeps λh Rj J=>?_,r,Q,RU,o,l,R,U,al⟩;rw[cR (CU J c<|λa=>nomatch a)];exact J
end
section
variable{b:aK}{G:List (ar×a6)}{w:aX}{j:aw}{m:aq}{g:ar}{Rd:List (d6×ah)}{n:d6}{I:af}{O:bp}{Q7:af->aq->Prop}
def N2(t:aF b G w j m)(c:j2 j g (.dh Rd))(e:∀B T,aF b G w j T->A (.int Rd.length B) T):wpAny (aQ b.prog b.w) O (call (.builtin "len") [.ref g]) A Q7 m:=by
 let@⟨z,hd,⟨@ae,a,d⟩⟩:=ob t.aZ c;refine call_len_dict hd d (by rw[<-a.length];rw[ys]at z;lia) ?_;rw[<-a.length];exact e _ _ (t.tok _)
end
def pl(a:a8):Prop:=(∀b c,subscripted a ax b c=operate [b,c] (ke b c))
def Kz{Q_:bz}{Q7:af->aq->Prop}{Q6:ei}{H b:a8}{Rl:Pos}{id:String}(j:pZ (.type Rc) "__getitem__" = pure (Z<|.builtin id))(k:pl b)(e:wpAny (aQ Q_ D) O (bR H Q6) (λY g=>wpAny (aQ Q_ D) O (bR b Q6) (λa c=>c.TypeIs Y Rc/\wpAny (aQ Q_ D) O (ke Y a) A Q7 c) Q7 g) Q7 m):
  wpAny (aQ Q_ D) O (bR (.Subscript H b Rl) Q6) A Q7 m:=by
 refine vc (fY e (λY g l=>fY l (λa c f=>?_) λ_ W d=>d) λ_ W d=>d);let@⟨h,f⟩:=f;unfold vI;refine ay ?_;rw[getitemInPython_of_ne h.not_modules];refine ay (mL h j ?_);have fin:wpAny (aQ Q_ D) O (subscripted b ax Y a) (λp i=>wpAny (aQ Q_ D) O (letTemporaryGo H Y p >>= λ_=>pure p) A Q7 i) Q7 c:=by
  rw[k Y a];exact wpAny_operating (fY f (λp i n=>ay<|wpAny_letTemporaryGo<|a3 n) λ_ W d=>d)
 first
  | exact a3 (ay fin)
  | exact ay (a3<|ay fin)
  | exact ay fin
def DP{b:aK}{g:ar}{i:ah}(t:aF b G w j m)(L:eS j g i Y):m.TypeIs (.ref g) "dict" := by
 rcases L with ⟨Rd,n,c,_,_⟩|⟨Rd,n,f,c,_,_,_⟩
 ·let@⟨_,_,⟨@ae,_,a⟩⟩:=ob t.aZ c;exact a.typeIs
 ·let@⟨_,_,⟨@x,_,a⟩⟩:=ry t.aZ c;exact a.typeIs
def IJ(l ty:bP):bP:=(λw j A=>l w j λd Rb=>ty w Rb λi Ro=>∃g q,d=.ref g/\eS Ro g i (Z q)/\A q Ro)
def Nb(l ty k:bP)(b:ah->ah->aw->b2->Prop):eG:=(λy w j=>l w j λd Rb=>ty w Rb λi Ro=>∃g q,d=.ref g/\eS Ro g i (Z q)/\
 k w Ro λc e=>b q c e λf h=>∃a,kD h g i f a/\y.bj w a)
section
variable{b:aK}{Y a c H:a8}{Rl B C:Pos}{l ty k:bP}
def xQ(f:b.A.units+20<bJ)(h:bx b Y l)(U:bx b a ty)(k:pl a):bx b (.Subscript Y a Rl) (IJ l ty):=by
 intro G m w j A t e;refine Kz Cq.lookup k (bK (h G m w j _ t e) λI n ⟨d,Rb,o,p,r⟩=>bK (U G n w Rb _ o r) λz B s=>?_);let⟨i,@Ro,c,u,⟨g,@q,E,L,v⟩⟩:=s;subst E;obtain rfl:I=af.ref g:=p;exact⟨DP c L,yr f c L u λC D x y=>⟨q,Ro,x,y,v⟩⟩
def Kd{RL:m5}{n:ah->ah->aw->b2->Prop}(o:b.A.units+20<bJ)(r:bx b Y l)(U:bx b a ty)(s:bx b H k)(u:Ol b RL n)(v:∀f c new,augStore a f c new=(do holding [new,f,c] (oY f c new);release [new,f,c] [];pure .next)):hn b (.AugAssign (.Subscript Y a C) RL H Rl) (Nb l ty k n):=by
 intro G m w j y t e;refine wpAny_AugAssign_SubscriptAny (bK (r G m w j _ t e) λI x ⟨d,Rb,B,D,F⟩=>bK (U G x w Rb _ B F) λc bn ⟨i,Ro,J,p,g,q,E,L,M⟩=>?_) v;subst E;obtain rfl:I=af.ref g:=D;refine yr o J L p λN P Q R=>bK (s G P w Ro _ Q M) λS T h=>?_;let⟨al,@am,an,ap,as⟩:=h;refine bK (u G T w am q al N S _ an R ap as) λbs bv h=>?_;let⟨z,@ca,a1,a2,⟨@bd,be,bi⟩⟩:=h;exact tb o a1 be p a2 λcd bm=>⟨w,bd,bm,bi⟩
end
def DX(e:a4)(a:iz<e.objs.size):eh Ri D j (e.push {cls:=.type "dict",data:=.dict #[]}) e.objs.size (.aS []):=
 ⟨hY _,wL.mpr<|eu<|dg a,[],.nil,_,#[],0,dc _ rfl,⟨rfl,rfl,rfl⟩,rfl,rfl,jo⟩
def Qz:bP:=(λ_ j A=>∀o,j o=X->A (.ref o) (upd j o<|.aS []))
section
variable{b:aK}{Rl:Pos}
def HP:bx b (.Dict [] [] Rl) Qz:=λG m w j A t e=>
 wpAny_Dict_empty ⟨.ref m.heap.objs.size,_,t.laid (g:=m.heap.objs.size) (Y:=.aS []) (RF:=m.toks) (λ_ W r=>cp _ r) (bD _)<|DX m.heap t.big,rfl,e _<|t.aZ.fresh<|bD _⟩
end
end L2
namespace Fi
open PySem.W PySem.Calls PyProof.Rows
variable{s:Nat}{C:OpenLaw}
def H_{Ri:rJ}{e:a4}:∀(Rt:List Int) (ae:List af),WellAll Ri e ae (Rt.map p5.int)->qR ae Rt:=by
 intro Rt;induction Rt with
 |nil=>
  intro ae D;rw[List.map_nil]at D;cases D;exact .nil
 |cons s Rt a=>
  intro ae D;rw[bV]at D;cases D with
  |cons g f=>
   cases g;exact .cons _ _ (a _ f)
def KR(h:C.most=Z s){Ri:rJ}{e:a4}{args:List p5}{c:List af}(d:C.row.toRowW.claim.pre args=ab)(i:WellAll Ri e c args):
  ∃g ae Rt,c=[af.ref g]/\args=[p5.list (Rt.map p5.int)]/\e.get? g=Z {cls:=.type "list",data:=.seq ae.toArray}/\qR ae Rt/\Rt.length<=s:=by
 have DR:p3.hasAll [] args [.list .int]=ab:=(pre_splitW d).1;have f:C.pre.holds [] {args:=args}=ab:=(pre_splitW d).2;let⟨u,@p,rfl,k,l⟩:=hasAllW_cons DR;obtain rfl:=hasAllW_nil l;let⟨@x,rfl,j⟩:=hasW_list k;let⟨@Rt,rfl⟩:=items_int j;have m:Rt.length<=s:=by
  unfold OpenLaw.pre at f;have a:(WTm.not<|.lt (.lit<|.int (s:Int))<|.len<|.arg 0).holds [] {args:=[.list (Rt.map .int)]}=ab:=by
   have a:=(holds_andW f).1;rw[h]at a;exact a
  have b:=condW_of a (w_not<|w_lt w_lit<|w_len_list<|w_arg rfl);rw[bH]at b;refine Nat.le_of_not_lt λr=>?_;have n:(s:Int)<((Rt.length:Nat):Int):=⋯
  first
   | (rw[dj n]at b;exact absurd b ∅)
   | (simp at b;lia)
 cases i with
 |cons cY o=>
  cases o;cases cY with
  |list q t=>exact⟨_,_,Rt,rfl,rfl,q,H_ Rt _ t,m⟩
def Je(C:OpenLaw)(args:List p5):C.row.toRowW.claim.post args (.bool ab) args=ab:=
 postW_of (r:=C.row.toRowW) (X:=(ab==ab))
  (show p3.has [] (.bool ab) .bool=ab by first|rfl|decide|simp[p3.has,p3.arms,p3.armsAll])
  (show (WTm.eq .res<|.lit<|.bool ab).value [] {args:=args,res:=Z (.bool ab),after:=args}=Z (.bool<|ab==ab) from w_eq_bool (w_res rfl) w_lit) rfl
def JP{r:bz}{e:List aC}{f:(aC->Option af)->a4->Prop}{h:bg->a4->Prop}{u:DefRec}(j:C.most=Z s)(k:u.params.defaults=[])(call:∀(D:bg) (eC a:aq) (aO d:aC->Option af) (b:ar) (Y:a6) (S c y:af) (g:ar) (ae:List af) (Rt:List Int),
   Ground r e [] f D eC aO d a.heap->h D a.heap->
   a.heap.get? b=Z Y->Y.data=.func (docDef u.name u.params u.body u.scope S c y)->a.heap.CodeRec c u.name->aO u.name=Z (.ref b)->
   a.heap.get? g=Z {cls:=.type "list",data:=.seq ae.toArray}->qR ae Rt->Rt.length<=s->a.gens=#[]->
   codeAny (aQ C.prog D) mw (.call (.ref b) ⟨[.ref g],[]⟩) (λp T=>p=.ok (.ret<|.bool ab)/\OldK a.heap T.heap/\T.os=a.os/\kP T.gens) a):
  WalkO r e f h C.row.toRowW u [] (λN ae=>PySem.call N ae):=by
 intro D eC a aO d Q9 m b Y S c y n cz o hd q i t v args I J w L M x O;obtain rfl:n=.none:=Dflts.none i k;obtain rfl:cz=.none:=Dflts.noKw i;let⟨g,ae,@Rt,rfl,rfl,z,A,B⟩:=KR j w x;refine enter_call (vp (call D eC a aO d b Y S c y g ae Rt Q9 m o (fd_plain hd) q t z A B v) λp T E=>?_);let@⟨rfl,l,F,G⟩:=E;exact⟨.inl ⟨.bool ab,.bool ab,[],rfl,λ_=>rfl,.bool ab,Je C _,λ_=>⟨List.Pairwise.nil,λ_ H=>(nomatch H)⟩⟩,l,F,G⟩
end Fi
namespace L2
open Spec PyProof.Rows
variable{Rg:List aC}{N f:ar}{J:cJ}{R2 d:aC}{fd:gU}{n:Nat}{I:fo}{e:a4}{j:aw}{D:bg}{Ri:bz}{Y:a6}
theorem Bq:∀{ae:List af}{Rt:List Int},qR ae Rt->bN (Rt.map ah.int) ae
 |_,_,.nil=>.nil
 |_,_,.cons s B e=>.cons ⟨B,rfl⟩ (Bq e)
def p9(j:aw):Prop:=(∀f,j f=X\/(∃Y x,j f=Z (.dx Y<|.lst x))\/∃x,j f=Z (.tup x))
def OA{x:List ah}(h:qe Y=Z x):∃a B v I s,(Y.cls,Y.dict)=(.type "tuple",X)/\Y.data=.seq [.int a B,.int v I].toArray s/\x=[.int a,.int v]:=by
 unfold qe at h;split at h
 ·rename_i Rf s k l b;unfold Es at h;split at h
  ·rename_i a B v I c;cases h;exact⟨a,B,v,I,s,pE k l,b.trans (by rw[<-c,vT]),rfl⟩
  ·cases h
 ·cases h
def A9(c:e.get? f=Z Y)(h:ki Y=Z I):∃x,I=.tup x/\eh Ri D j e f I:=by
 unfold ki at h;cases u:qe Y with
 |none=>rw[u]at h;cases h
 |some x=>
  rw[u]at h;cases h;let⟨a,B,v,q,s,k,l,rfl⟩:=OA u;exact⟨_,rfl,dD (show 2<=2 from bD 2) ∅,[.int a B,.int v q],.cons ⟨B,rfl⟩<|.cons ⟨q,rfl⟩ .nil,Y,c,k,s,l⟩
def hu(e:a4)(j:aw):aw:=(λf=>match j f with
 |some I=>Z I
 |none=>match e.get? f with
  |some Y=>ki Y
  |none=>X)
def Py(s:j f=X)(c:e.get? f=Z Y):hu e j f=ki Y:=by
 unfold hu;rw[s];dsimp only;rw[c]
def LF(s:j f=Z I):hu e j f=Z I:=by
 unfold hu;rw[s]
def zo(s:hu e j f=Z I):j f=Z I\/∃Y,e.get? f=Z Y/\ki Y=Z I:=by
 unfold hu at s;cases r:j f with
 |some q=>rw[r]at s;cases s;exact .inl rfl
 |none=>
  rw[r]at s;dsimp only at s;cases c:e.get? f with
  |none=>rw[c]at s;cases s
  |some Y=>rw[c]at s;exact .inr ⟨Y,rfl,s⟩
def MW{R:Φ}{aO w:aC->Option af}{R9:kr}{y g:ar}{R_:kA}{a:aq}{ae:List af}{Rt:List Int}(C:R.In a.heap)(E:a.heap.Ns dM aO)(i:a.heap.Ns s6 w)(am:∀d:aC,d ≠ "__name__" -> w d=e1 d)(an:a.heap.NoLimit)(ap:a.gens=#[])(t:a.heap.get? g=Z {cls:=.type "list",data:=.seq ae.toArray})(U:qR ae Rt)(G:Rt.length<=sizeLine)(as:eF n mw)(P:∀Rh:a4,R.In Rh->Rh.Ns dM aO->ih Ri D R aO Rh R9 n y fd [d] R_)(a1:∀(m:aq) (I:af),lI m fd ⟨[I],[]⟩ [(d,I)])(a2:∀j:aw,p9 j->cW R j g (Rt.map ah.int)->R_ [.ref g] j (λq K=>q=.aG ab) λ_ K K=>False)(bd:∀j c T,R9 [] j a (λ_ K K=>False) c T->False):
  codeAny (aQ Ri D) mw (.call (.ref y) ⟨[.ref g],[]⟩) (λp T=>p=.ok (.ret<|.bool ab)/\OldK a.heap T.heap/\T.os=a.os/\kP T.gens) a:=by
 have J:=Bq U;have be:=U.length;have L:∀b:aw,p9 b->cW R (hu a.heap b) g (Rt.map ah.int)->(∀j f I,b f=Z I->eh Ri D j a.heap f I)->(∀f,b f≠X->f=g)->(b g≠X->R.lookup g=X)->
   codeAny (aQ Ri D) mw (.call (.ref y) ⟨[.ref g],[]⟩) (λp T=>p=.ok (.ret<|.bool ab)/\OldK a.heap T.heap/\T.os=a.os/\kP T.gens) a:=by
  intro b bi bm bn M bs;have N:∀{f:ar}{Y:a6},a.heap.get? f=Z Y->b f=X->(kZ a.heap b).get? f=Z Y:=λc s=>Hb c s;have aZ:dH Ri D (hu a.heap b) a.heap:=λf I r=>by
   rcases zo r with r|⟨Y,c,h⟩
   ·exact bn _ f I r
   ·exact (A9 c h).choose_spec.2
  have O:p9 (hu a.heap b):=λf=>by
   cases r:hu a.heap b f with
   |none=>exact .inl rfl
   |some I=>
    rcases zo r with r|⟨Y,c,h⟩
    ·rcases bi f with z|z
     ·rw[z]at r;cases r
     ·rw[<-r];exact .inr z
    ·let⟨x,rfl,K⟩:=A9 (Ri:=Ri) (D:=D) (j:=b) c h;exact .inr (.inr ⟨x,rfl⟩)
  have bv:∀{f:ar}{Y:a6}{Q:Array DictEntry}{RU:Nat},a.heap.get? f=Z Y->Y.data=.dict Q RU->b f=X:=λ{f Y Q RU} c u=>by
   cases r:b f with
   |none=>rfl
   |some I=>
    have A:f=g:=M f (by rw[r];simp);subst A;rw[t]at c;cases c;have ca:Data.seq ae.toArray _=Data.dict Q RU:=u;cases ca
  have v:∀{f:ar}{H:aC->Option af},a.heap.Ns f H->(kZ a.heap b).Ns f H:=λ{f H} ⟨Y,Q,RU,c,u,p⟩=>⟨Y,Q,RU,N c<|bv c u,u,p⟩;have S:R.In (kZ a.heap b):=λf Y c=>N (C f Y c) (by
   cases r:b f with
   |none=>rfl
   |some I=>
    have A:f=g:=M f (by rw[r];simp);subst A;rw[bs (by rw[r];simp)]at c;cases c)
  have cd:Mod R aO (kZ a.heap b):=⟨S,v E,⟨w,v i,am⟩,let ⟨ce,k,l⟩:=an;⟨ce,v k,l⟩⟩;have ch:sH Ri D R aO (kZ a.heap b) mw [] a (hu a.heap b):=⟨rfl,cd,λf Y c=>⟨(u2 c).1,Py (u2 c).2 (u2 c).1⟩,vy<|JR _ _,trivial,λf i=>absurd (show f∈([]:List ar) from i) ↥0,aZ,.of_eq ap⟩;refine vp ((P _ S<|v E).run mw [] a (hu a.heap b) ⟨[.ref g],[]⟩ [.ref g] [.ref g] _ _ as ch (a1 a<|.ref g) (.cons rfl .nil)<|a2 (hu a.heap b) O bm) λp T e=>?_;cases p with
  |error c=>exact (bd (hu a.heap b) c T e).elim
  |ok aT=>
   cases aT with
   |next=>exact False.elim e
   |brk=>exact False.elim e
   |cont=>exact False.elim e
   |ret I=>
    let⟨q,F,Rq,ci,un,cl,RS,r⟩:=e;have co:q=.aG ab:=r;subst co;obtain rfl:I=af.bool ab:=RS;refine⟨rfl,OldK.of_keep λf Y c=>?_,Rq,ci⟩;rcases O f with r|⟨cr,x,z⟩|⟨x,z⟩
    ·exact un.keep f Y c r (by intro z;exact absurd (show f∈([]:List ar) from z) ↥0) ↥0
    ·have cs:=un.jb f cr _ z;let⟨al,K⟩:=aZ f _ z;let⟨db,K⟩:=cl f _ cs;rw[c]at al;cases al;exact db
    ·exact un.jH f Y x c z ↥0
 cases B:R.lookup g with
 |some Y=>
  have c:=C g Y B;rw[t]at c;cases c;refine L (λ_=>X) (λ_=>.inl rfl) (.inr ⟨_,ae.toArray,_,B,rfl,rfl,rfl,by rw[cH,be];exact G,by simpa using J⟩) (λj f I z=>by have o:(X:Option fo)=Z I:=z;cases o) (λf z=>absurd rfl z) λz=>absurd rfl z
 |none=>
  refine L (λf=>if f=g then Z (.dx {cls:=.type "list",data:=.seq ae.toArray} (.lst<|Rt.map ah.int)) else X) (λf=>?_) (.inl<|.inr ⟨{cls:=.type "list",data:=.seq ae.toArray},LF<|aB rfl⟩) (λj f I z=>?_) (λf z=>?_) λ_=>B
  ·by_cases i:f=g
   ·exact .inr (.inl ⟨_,_,aB i⟩)
   ·exact .inl (aD i)
  ·by_cases i:f=g
   ·have o:=(aB i).symm.trans z;cases o;subst i;exact⟨t,by rw[bH];exact G,ae,_,J,t⟩
   ·have o:=(aD i).symm.trans z;cases o
  ·by_cases i:f=g
   ·exact i
   ·exact absurd (aD i) z
def Kf{C:PySem.W.OpenLaw}{s:Nat}{r:bz}{l:List aC}{o:(aC->Option af)->a4->Prop}{h:bg->a4->Prop}{u:DefRec}{R:rJ->Φ}{R9:bg->kr}{R_:bg->kA}(p:C.most=Z s)(t:s<=sizeLine)(v:u.params.defaults=[])(w:eF n mw)(x:∀(D:bg) (e:a4),h D e->(R D.params).In e)(P:∀(D:bg) (aO:aC->Option af) (a:ar) (e:a4),(R D.params).In e->e.Ns dM aO->aO u.name=Z (.ref a)->
   ∃fd:gU,(∀(m:aq) (I:af),lI m fd ⟨[I],[]⟩ [(d,I)])/\
    ∀Rh:a4,(R D.params).In Rh->Rh.Ns dM aO->ih C.prog D (R D.params) aO Rh (R9 D) n a fd [d] (R_ D))(z:∀(D:bg) (j:aw) (g:ar) (Rt:List Int),Rt.length<=s->p9 j->cW (R D.params) j g (Rt.map ah.int)->R_ D [.ref g] j (λq L=>q=.aG ab) λ_ L L=>False)(A:∀(D:bg) (j:aw) (m:aq) (c:af) (T:aq),R9 D [] j m (λ_ L L=>False) c T->False):
  PySem.W.WalkO r l o h C.row.toRowW u [] (λN ae=>PySem.call N ae):=by
 refine Fi.JP p v λD eC B aO al a Y S am y g ae Rt Q9 E an hd ap F G H i J=>?_;have k:=x D _ E;let⟨@fd,M,O⟩:=P D aO a _ k Q9.T.g F;exact MW k Q9.T.g Q9.T.b Q9.T.builtins Q9.T.nolimit J G H (dD i t) w O M (λj Q U=>z D j g Rt i Q U) λj c T=>A D j B c T
def iA(m:cJ):Arguments:=(match m with
 |.FunctionDef _ g _ _ _ _ _ _ _ _=>g
 |_=>{posonlyargs:=[],args:=[],vararg:=X,kwonlyargs:=[],kw_defaults:=[],kwarg:=X,defaults:=[]})
def gA(m:cJ):List cJ:=(match m with
 |.FunctionDef _ _ f _ _ _ _ _ _ _=>f
 |_=>[])
def dT(m:cJ):f6:=(match m with
 |.FunctionDef _ _ _ _ _ _ t _ _ _=>t
 |_=>{kind:=.function,names:=[],isGenerator:=ax,isCoroutine:=ax})
abbrev hS:kr:=λ_ _ _ _ _ _=>False
abbrev LX:f3:=λ_ _ _=>False
def Lk{b:aK}:ve hS b LX:=λ_ Y Y Y Y Y Y e=>e.elim
structure gJ(R:Φ)(d R2:aC)(J:cJ)(N:ar)(fd:gU):Prop where
 ex:∃(l:af) (k:Option ar) (cz y S:af) (U:Option ar) (M cx:af) (Sk:Array (Option af)),
  fd=Ξ d R2 (iA J) (gA J) (dT J) .none cz y S U M cx/\R.lookup N=Z ⟨l,k,.func fd,Sk⟩/\Δ R M R2=ab
 dG:Θ R (.ref N)=ab
section
variable{Ri:bz}{D:bg}{R:Φ}{aO:aC->Option af}{Rh:a4}
def gJ.ok{RG:List aC}{R_:kA}(P:gJ R d R2 J N fd)(Rk:mU RG Rg (dT J))(len:∀ae j A Q7,R_ ae j A Q7->ae.length=Rg.length)(a:∀(M:af) (O:bp) (RT:List ei) (m:aq) (j:aw) (ae:List ah) (A:b2) (Q7:f3),eF n (O.deeper<|i_ R2 (dT J) m.heap.objs.size N M)->R_ ae j A Q7->
   ∃B,hi (kY hS Ri D R aO Rh RG R2 (dT J) N M O RT m j Q7).mZ (gA J) B/\B {bj:=λ_ F=>A .aW F,eo:=A} (kl RG ae) j):ih Ri D R aO Rh hS (n+1) N fd Rg R_:=by
 let⟨l,k,cz,y,S,U,M,cx,@Sk,rfl,lk,b⟩:=P.ex;refine K7 lk b Rk len λO RT m j ae A Q7 c f=>?_;let⟨@B,e,r⟩:=a M O RT m j ae A Q7 c f;exact⟨B,e.mZ,r⟩
def gJ.binds(P:gJ R d R2 J N fd)(e:∀(cz y S:af) (U:Option ar) (M cx:af) (Rv:List af),Rv.length=Rg.length->lC (Ξ d R2 (iA J) (gA J) (dT J) .none cz y S U M cx) ⟨Rv,[]⟩=pure (Rg.zip Rv)):jt R fd Rg []:=by
 let⟨l,k,cz,y,S,U,M,cx,@Sk,rfl,lk,a⟩:=P.ex;exact .all (e cz y S U M cx)
def Kr{l:af}{k U:Option ar}{Sk:Array (Option af)}{cz y S M cx:af}(C:R.lookup N=Z ⟨l,k,.func<|Ξ d R2 (iA J) (gA J) (dT J) .none cz y S U M cx,Sk⟩)(h:Δ R M R2=ab)(n:Θ R (.ref N)=ab):gJ R d R2 J N (Ξ d R2 (iA J) (gA J) (dT J) .none cz y S U M cx):=⟨⟨l,k,cz,y,S,U,M,cx,Sk,rfl,C,h⟩,n⟩
end
section
variable{b:aK}
def cN(a:Nat){d:aC}{Rl:Pos}(c:b.N[a]?=Z d:=by rfl)(e:tn b.env.scope d:=by first|exact Or.inl rfl|exact Or.inr (Or.inl rfl)|exact Or.inr (Or.inr rfl))(hd:(d==("__debug__" : aC))=ax:=by decide)(f:(d==("__classdict__" : aC))=ax:=by decide):bx b (.Name d Rl) (hl a):=Ag c e hd f
end
def cO(j F:aw):Prop:=(∀f Y,j f=Z Y->F f=Z Y)
def cO.refl(j:aw):cO j j:=λ_ Y e=>e
end L2
namespace L2
section
variable{b:aK}
def GH:eA b (.builtin "len") (λx j A=>∃g Rd,x=[ah.ref g]/\j g=Z (.dh Rd)/\A (.int Rd.length) j):=by
 intro G m w j x Rv A t p e;let⟨g,@Rd,rfl,a,r⟩:=e;let⟨@I,rfl,c⟩:=iM p;cases c;exact N2 t (.inl a) λB T d=>⟨.int Rd.length,j,d,⟨B,rfl⟩,r⟩
end
end L2
namespace L2
open Spec PyProof.Rows
variable{A:Option af->aq->Prop}{a RU Si:Nat}{e k:a4}{Ru:List af}{u aP:ar}{eJ:cX}{RD RX Sd:a8}{Ra:List (aC×ar)}{b1:List ar}{j:aw}{w:aX}{G:List (ar×a6)}{RC:List Nat}{own:List aC}{Q6:ei}{Rl:Pos}{Rp:f6}{Sa:List a8}{m:aq}{O:bp}
def M7{Q_:bz}{D:bg}{Q8:qj->aq->Prop}{b:a8}{ao f:af}(t:Nat->aq->Prop)(n:∀s m,t s m->wpAny (aQ Q_ D) O (hc ao) (λp a=>match p with
   |none=>Q8 (.ok .next) a
   |some q=>wpAny (aQ Q_ D) O (pH b ao q) (λ_ a=>wpAny (aQ Q_ D) O (hA b Q6 q) (λ_ i=>
     wpAny (aQ Q_ D) O (forIn Sa ab λh p=>if p=ab then do let ok <-mz h Q6 (bR h Q6);pure (ForInStep.yield ok) else pure (ForInStep.yield p)) (λok g=>
      if ok=ab then wpAny (aQ Q_ D) O (bR Sd Q6) (λd j=>
       wpAny (aQ Q_ D) O (call (.builtin "list.append") [f,d]) (λ_ k=>∃H,H<s/\t H k) (λ_ Y=>False) j) (λ_ Y=>False) g
      else ∃H,H<s/\t H g) (λ_ Y=>False) i) (λ_ Y=>False) a) (λ_ Y=>False) a) (λ_ Y=>False) m)(s:Nat)(e:t s m):
  codeAny (aQ Q_ D) O (.compLoop (.ListComp Sd [⟨b,RX,Sa,0⟩] Rp Rl) 0 ao f Q6) Q8 m:=by
 refine codeAny_loop rfl t (λs m d5=>?_) s e;show wpAny _ O ((compTurn (.ListComp Sd [⟨b,RX,Sa,0⟩] Rp Rl) 0 ao f Q6).onRaise (λd=>do noteFrame d Q6;theTreesLotGoes d)) _ _ m;refine wpAny_noted ?_;rw[compTurn_list];refine ay (qt<|ay<|fY (n s m d5) (λp a c=>?_) λ_ Y S=>S.elim);cases p with
 |none=>exact a3 c
 |some q=>
  refine ay (fY c (λ_ a c=>?_) λ_ Y S=>S.elim);refine ay (fY c (λ_ i o=>ay<|fY o (λok g l=>?_) λ_ Y S=>S.elim) λ_ Y S=>S.elim);cases ok with
  |false=>exact a3 ⟨rfl,l⟩
  |true=>
   exact ay (ay<|fY l (λd j r=>ay<|fY r (λ_ k u=>a3<|a3 ⟨rfl,u⟩) λ_ Y S=>S.elim) λ_ Y S=>S.elim)
def kf(Q6:ei)(C:List (aC×cS)):List (aC×ar):=(C.foldl (λRa i=>if i.2==.free then (i.1,(Q6.cells.lookup i.1).getD 0)::Ra else Ra) [])
theorem uY{Q6:ei}:∀(C:List (aC×cS)) (Ra:List (aC×ar)),(∀i∈C,i.2=.free->∃h,Q6.cells.lookup i.1=Z h)->
  (forIn C Ra λ(i:aC×cS) Ra=>if i.2==.free then (do let h <-uj Q6 i.1;pure (ForInStep.yield ((i.1,h)::Ra))) else pure (ForInStep.yield Ra):dy _)=
   pure (C.foldl (λRa i=>if i.2==.free then (i.1,(Q6.cells.lookup i.1).getD 0)::Ra else Ra) Ra)
 |[],Ra,_=>rfl
 |i::p,Ra,e=>by
  rw[sy,k7];by_cases a:i.2=.free
  ·let⟨@h,d⟩:=e i mn a;have c:(i.2==cS.free)=ab:=by simp[a]
   rw[aB c,aB c];have f:uj Q6 i.1=pure h:=by unfold uj;rw[d]
   rw[f,d];show (forIn p ((i.1,h)::Ra) _:dy _)=_;exact uY p _ λb aN=>e b (kJ _ aN)
  ·have c:¬ (i.2==cS.free)=ab:=by simp[a]
   rw[aD c,aD c];show (forIn p Ra _:dy _)=_;exact uY p _ λb aN=>e b (kJ _ aN)
def I_(e:∀i∈Rp.names,i.2=.free->∃h,Q6.cells.lookup i.1=Z h):closureFor Rp Q6=pure (kf Q6 Rp.names):=by
 have:=uY (Q6:=Q6) Rp.names [] e;unfold closureFor;dsimp only;have c:(forIn Rp.names ([]:List (aC×ar))<|λ(d:aC×cS) (p:List (aC×ar))=>(if d.2==.free then (do let h <-uj Q6 d.1;pure (ForInStep.yield ((d.1,h)::p))) else pure (ForInStep.yield p):dy (ForInStep<|List<|aC×ar)))=pure (kf Q6 Rp.names):=this;rw[c];rfl
theorem EK{Q6:ei}:∀(C:List (aC×cS)) (Ra:List (aC×ar)) (d:aC) (h:ar),
  (C.foldl (λRa i=>if i.2==.free then (i.1,(Q6.cells.lookup i.1).getD 0)::Ra else Ra) Ra).lookup d=Z h->
  (h=(Q6.cells.lookup d).getD 0/\(d,cS.free)∈C)\/Ra.lookup d=Z h
 |[],Ra,d,h,e=>.inr e
 |i::p,Ra,d,h,e=>by
  rw[k7]at e;rcases EK p _ d h e with ⟨c,H⟩|e
  ·exact .inl ⟨c,kJ _ H⟩
  ·by_cases a:i.2=.free
   ·rw[aB (by simp[a])]at e;rw[f9]at e;by_cases b:d=i.1
    ·subst b;rw[kk]at e;refine .inl ⟨(Option.some.inj e).symm,?_⟩;rw[<-a];exact mn
    ·have:(d==i.1)=ax:=by simpa using b
     rw[this]at e;exact .inr e
   ·rw[aD (by simp[a])]at e;exact .inr e
theorem yI{Q6:ei}:∀(C:List (aC×cS)) (Ra:List (aC×ar)) (d:aC),(d,cS.free)∈C\/(∃h,Ra.lookup d=Z h)->
  ∃h,(C.foldl (λRa i=>if i.2==.free then (i.1,(Q6.cells.lookup i.1).getD 0)::Ra else Ra) Ra).lookup d=Z h
 |[],Ra,d,e=>by
  rcases e with e|e
  ·cases e
  ·exact e
 |i::p,Ra,d,e=>by
  rw[k7];apply yI p _ d;rcases e with e|⟨h,e⟩
  ·rcases b9.mp e with c|e
   ·right;subst c;rw[aB (by rfl),f9,kk];exact⟨_,rfl⟩
   ·exact .inl e
  ·right;by_cases a:(i.2==cS.free)=ab
   ·rw[aB a,f9];cases d==i.1
    ·exact⟨h,e⟩
    ·exact⟨_,rfl⟩
   ·rw[aD a];exact⟨h,e⟩
structure jL where
 aP:ar
 s:aq
 H:aw
 b1:List ar
 cs:List (aC×ar)
variable{R6:jL->bP}{Sj:jL->dV}{L:jL->fF}
def aK.fc(b:aK)(c:List aC)(Rp:f6)(a:jL): aK :=(
  {prog:=b.prog,w:=b.w,K:=b.K,aO:=b.aO,base:=b.base,A:=b.A,N:=c,eC:=a.s,lW:=a.H,env:=ud Rp (a.cs ++ kf b.env Rp.names) a.aP b.env,outer:=b.stack,stack:=b.stack,
    ex:=a.b1,fn:=λd => Rp.names.lookup d==Z .cell,calm:=b.calm,jw:=[],cE:=λ_ Y => False})
structure tu(Si:Nat)(C:List (aC×cS))(Ra:List (aC×ar))(e:a4):Prop where
 gi:∀d h,Ra.lookup d=Z h->Si<=h/\e.IsCell h X/\(d,cS.cell)∈C
 inj:∀d i h,Ra.lookup d=Z h->Ra.lookup i=Z h->d=i
def NW{az:gy}{Q7:af->aq->Prop}{w:ar}{n:List (aC×ar)}{R2:aC}{A:ei->aq->Prop}(e:∀S Ra,(∀f Y,m.heap.get? f=Z Y->S.get? f=Z Y)->S.Ns m.heap.objs.size (λ_=>X)->tu (m.heap.objs.size+1) Rp.names Ra S->(∀d,(d,cS.cell)∈Rp.names->∃h,Ra.lookup d=Z h)->
   A (newEnv Rp m.heap.objs.size w (Ra++n) R2 X .none (Z Q6) s6) {m with heap:=S}):
  wpAny az O (DQ Rp w n [] R2 X .none<|Z Q6) A Q7 m:=by
 unfold DQ;refine ay (wpAny_alloc ?_);have Si:(m.heap.push {cls:=.type (if (Z Q6).isSome=ab then "dict" else "frame"),data:=.dict #[]}).Ns m.heap.objs.size λ_=>X:=⟨_,#[],_,dc _ rfl,rfl,by intro a U;simp at U,λ_=>rfl⟩;refine ay (qs _ (λd1 cells T=>∃done Ra S,done++d1=Rp.names/\cells=Ra++n/\T={m with heap:=S}/\m.heap.objs.size+1<=S.objs.size/\(∀f Y,m.heap.get? f=Z Y->S.get? f=Z Y)/\S.Ns m.heap.objs.size (λ_=>X)/\tu (m.heap.objs.size+1) Rp.names Ra S/\∀d,(d,cS.cell)∈done->∃h,Ra.lookup d=Z h) _ ?_ ?_ _ _ ⟨[],[],_,rfl,rfl,rfl,by rw[lh];exact bD _,λf Y c=>cp _ c,Si,⟨(λd h c=>by simp at c),(λd i h c=>by simp at c)⟩,(λd b=>nomatch b)⟩)
 ·rintro⟨t,o⟩ d1 cells T ⟨done,Ra,S,l,rfl,rfl,kj,ext,Rt,j,r⟩;by_cases s:o=.cell
  ·subst s;show wpAny az O (alloc {cls:=.type "cell",data:=.cell X} >>= λg=>pure<|ForInStep.yield ((t,g)::(Ra++n))) _ _ _;refine ay (wpAny_alloc<|a3 ?_);have x:∀f Y,S.get? f=Z Y->(S.push {cls:=.type "cell",data:=.cell X}).get? f=Z Y:=λf Y c=>cp _ c;have y:∀h,(∃q,S.IsCell h q)->h≠S.objs.size:=λh ⟨q,Y,c,_⟩=>dg (b6 c);refine⟨done++[(t,.cell)],(t,S.objs.size)::Ra,_,by rw[a_];exact l,rfl,rfl,by rw[lh];exact yE kj,λf Y c=>x f Y<|ext f Y c,Rt.push _,⟨λd h c=>?_,λd i h E k=>?_⟩,λd b=>?_⟩
   ·rw[f9]at c;by_cases b:d=t
    ·subst b;rw[kk]at c;cases c;exact⟨kj,⟨_,dc _ rfl,rfl⟩,by rw[<-l];exact en _ (.head _)⟩
    ·rw[show (d==t)=ax by simpa using b]at c;let⟨z,⟨Y,B,D⟩,F⟩:=j.gi d h c;exact⟨z,⟨Y,x h Y B,D⟩,F⟩
   ·rw[f9]at E k;by_cases b:d=t
    ·by_cases p:i=t
     ·rw[b,p]
     ·rw[b,kk]at E;rw[show (i==t)=ax by simpa using p]at k;cases E;exact absurd rfl (y _ ⟨_,(j.gi i _ k).2.1⟩)
    ·rw[show (d==t)=ax by simpa using b]at E;by_cases p:i=t
     ·rw[p,kk]at k;cases k;exact absurd rfl (y _ ⟨_,(j.gi d _ E).2.1⟩)
     ·rw[show (i==t)=ax by simpa using p]at k;exact j.inj d i h E k
   ·rw[f9];by_cases u:d=t
    ·rw[u,kk];exact⟨_,rfl⟩
    ·rw[show (d==t)=ax by simpa using u];refine r d ((dY.mp b).resolve_right λv=>?_);exact u (Prod.mk.inj<|cV.mp v).1
  ·have c:(o==cS.cell)=ax:=by simpa using s
   show wpAny az O (if (o==cS.cell)=ab then _ else pure (ForInStep.yield<|Ra++n)) _ _ _;rw[aD (by rw[c];exact c_)];refine a3 ⟨done++[(t,o)],Ra,S,by rw[a_];exact l,rfl,rfl,kj,ext,Rt,j,λd b=>r d<|(dY.mp b).resolve_right λv=>?_⟩;exact s (Prod.mk.inj<|cV.mp v).2.symm
 ·rintro cells T ⟨done,Ra,S,l,rfl,rfl,kj,ext,Rt,j,r⟩;rw[b5]at l;subst l;exact ay (a3<|a3<|e S Ra ext Rt j r)
theorem mem_of_lookup:∀{C:List (aC×cS)}{d:aC}{n:cS},C.lookup d=Z n->(d,n)∈C
 |[],_,_,e=>by simp at e
 | (s,b)::p,d,n,e=>by
  rw[f9]at e;by_cases a:d=s
  ·subst a;rw[kk]at e;cases e;exact mn
  ·rw[show (d==s)=ax by simpa using a]at e;exact kJ _ (mem_of_lookup e)
theorem yx{Q6:ei}:∀{C:List (aC×cS)}{d:aC}{n:cS},
  (C.map λ(s,n)=>if (n==cS.free&&Q6.scope.kind==.function&&Q6.kindOf s==Z .cell) then (s,cS.cell) else (s,n)).lookup d=Z n->
  (n=.cell\/n=.free)->(d,cS.free)∈C\/C.lookup d=Z .cell
 |[],d,n,e,_=>by simp at e
 | (s,f)::p,d,n,e,a=>by
  rw[bV]at e;dsimp only at e;by_cases h:d=s
  ·subst h;by_cases b:(f==cS.free&&Q6.scope.kind==.function&&Q6.kindOf d==Z .cell)=ab
   ·have:f=cS.free:=by
     simp only[cF]at b;exact by simpa using b.1.1
    subst this;exact .inl mn
   ·simp only[b]at e;have c:f=n:=by simpa [f9] using e
    subst c;rcases a with a|a
    ·exact .inr (by rw[f9,kk,a])
    ·rw[a];exact .inl mn
  ·have g:(d==s)=ax:=by simpa using h
   have S:(p.map λ(s,n)=>if (n==cS.free&&Q6.scope.kind==.function&&Q6.kindOf s==Z .cell) then (s,cS.cell) else (s,n)).lookup d=Z n:=by
    by_cases b:(f==cS.free&&Q6.scope.kind==.function&&Q6.kindOf s==Z .cell)=ab
    ·rw[aB b,f9,g]at e;exact e
    ·rw[aD b,f9,g]at e;exact e
   rcases yx S a with z|z
   ·exact .inl (kJ _ z)
   ·exact .inr (by rw[f9,g];exact z)
section
variable{b:aK}
structure hF(b:aK)(Rp:f6)(own:List aC)(RC:List Nat):Prop where
 kind:Rp.kind=.function
 vw:∀i∈Rp.names,i.2=.cell->Rp.names.lookup i.1=Z .cell
 free:∀i∈Rp.names,i.2=.free->b.env.scope.names.lookup i.1=Z .cell
 loc:∀i∈Rp.names,i.2=.local->Rp.names.lookup i.1=Z .local
 Hj:∀a∈RC,∃d,b.N[a]?=Z d/\(d,cS.free)∈Rp.names/\Rp.names.lookup d=Z .free
def fp(b:aK)(own:List aC)(RC:List Nat):List aC:=(own++RC.map λa=>b.N.getD a "")
def jA(own:List aC)(RC:List Nat)(w:aX):aX:=(own.map (λ_=>X)++RC.map λa=>w.getD a X)
def hF.cells(Rk:hF b Rp own RC)(ok:b.Ok):∀i∈Rp.names,i.2=.free->∃h,b.env.cells.lookup i.1=Z h:=
 λi a c=>ok.has i.1 (.inl<|Rk.free i a c)
def hF.sub(Rk:hF b Rp own RC)(ok:b.Ok){d:aC}{h:ar}(e:(kf b.env Rp.names).lookup d=Z h):b.env.cells.lookup d=Z h/\(d,cS.free)∈Rp.names:=by
 rcases EK Rp.names [] d h e with ⟨c,H⟩|e
 ·let⟨@f,a⟩:=Rk.cells ok (d,.free) H rfl;rw[show (List.lookup d b.env.cells)=Z f from a]at c;refine⟨?_,H⟩;rw[c];exact a
 ·simp at e
def hF.two(Rk:hF b Rp own RC)(ok:b.Ok){Ra:List (aC×ar)}{d:aC}{h:ar}(e:(Ra++kf b.env Rp.names).lookup d=Z h):Ra.lookup d=Z h\/(Ra.lookup d=X/\b.env.cells.lookup d=Z h):=by
 rw[xW]at e;cases r:Ra.lookup d with
 |some u=>rw[r]at e;exact .inl e
 |none=>rw[r]at e;exact .inr ⟨rfl,(Rk.sub ok e).1⟩
def aF.wJ(t:aF b G w j m){d:aC}{h:ar}(e:b.env.cells.lookup d=Z h):h<m.heap.objs.size:=by
 let⟨q,Y,a,W⟩:=t.cell d h e;exact b6 a
theorem FP(Rk:hF b Rp own RC)(t:aF b G w j m)(x:m.heap.objs.size<=aP)(s:∀f∈b1,jI b G j f)(y:∀f∈b1,f<m.heap.objs.size)(n:tu Si Rp.names Ra k)(v:m.heap.objs.size<=Si)(A:∀d,(d,cS.cell)∈Rp.names->∃h,Ra.lookup d=Z h):(b.fc (fp b own RC) Rp ⟨aP,m,j,b1,Ra⟩).Ok where
 mod:=t.ok.mod
 kind:=Rk.kind
 glob:=t.ok.glob
 blt:=t.ok.blt
 above:=x
 inj:=λd i h k l=>by
  rcases Rk.two t.ok k with o|⟨_,o⟩<;>rcases Rk.two t.ok l with p|⟨_,p⟩
  ·exact n.inj d i h o p
  ·exact absurd (ep (t.wJ p)<|dD v (n.gi d h o).1) (iX _)
  ·exact absurd (ep (t.wJ o)<|dD v (n.gi i h p).1) (iX _)
  ·exact t.ok.inj d i h o p
 has:=λd g=>by
  have H:(d,cS.free)∈Rp.names\/Rp.names.lookup d=Z .cell:=by
   rcases g with g|g
   ·exact yx g (.inl rfl)
   ·exact yx g (.inr rfl)
  show ∃h,(Ra++kf b.env Rp.names).lookup d=Z h;rw[xW];cases r:Ra.lookup d with
  |some u=>exact⟨u,rfl⟩
  |none=>
   rcases H with H|H
   ·exact yI Rp.names [] d (.inl H)
   ·let⟨h,q⟩:=A d (mem_of_lookup H);rw[r]at q;cases q
 mN:=λd h e B=>by
  have g:Rp.names.lookup d=Z .cell:=eq_of_beq e;let⟨D,q⟩:=A d (mem_of_lookup g);rcases Rk.two t.ok B with z|⟨z,_⟩
  ·exact dD v (n.gi d h z).1
  ·rw[z]at q;cases q
 hd:=t.ok.hd
 frames:=t.ok.frames
 qc:=.inl rfl
 wI:=λf a=>⟨dg<|ep (y f a) x,λd h e=>by
  rcases Rk.two t.ok e with z|⟨_,z⟩
  ·exact kQ (ep (y f a)<|dD v (n.gi d h z).1)
  ·exact (s f a).2.2.2.2.1 d h z⟩
 bs:=t.bs
 k4:=dD t.ok.k4 t.kj
 mx:=λf Y c a=>by
  rcases (s f a).2.2.2.1 with z|z
  ·exact t.ok.mx f Y c z
  ·exact absurd (ep (b6 c)<|dD t.ok.k4 z) (iX _)
 oE:=λf a z=>by
  rcases b9.mp (t.yt f z) with c|c
  ·exact (s f a).2.1 c
  ·exact (s f a).2.2.1 c
 iu:=t.stack
 nz:=t.Ce
theorem Ou{RN:Nat}{H:aC->Option af}(Rk:hF b Rp own RC)(t:aF b G w j m)(M:m.heap.objs.size<=aP)(am:∀f∈b1,jI b G j f)(an:∀f∈b1,f<m.heap.objs.size)(A:∀f Y,m.heap.get? f=Z Y->k.get? f=Z Y)(ap:k.Ns aP H)(B:tu Si Rp.names Ra k)(D:m.heap.objs.size<=Si)(F:∀d,(d,cS.cell)∈Rp.names->∃h,Ra.lookup d=Z h):
  aF (b.fc (fp b own RC) Rp ⟨aP,m,j,b1,Ra⟩) [] (jA own RC w) j {m with heap:=k,toks:=RN} where
 ok:=FP Rk t M am an B D F
 os:=rfl
 bare:=t.bare
 base:=eR.kept A
 loc:=by
  let⟨@bn,D,as⟩:=t.loc;refine⟨H,ap,λv d q x c y=>?_⟩;have x:(own++RC.map λa=>b.N.getD a "")[v]?=Z d:=x;have c:(own.map (λ_=>(X:Option ah))++RC.map λa=>w.getD a X)[v]?=Z (Z q):=c;by_cases a1:v<own.length
  ·rw[oT (by rw[bH];exact a1),gc]at c;cases r:own[v]? with
   |none=>rw[r]at c;cases c
   |some l=>rw[r]at c;cases c
  ·rw[om ⋯,gc]at x;rw[om (by rw[bH];lia),gc,bH]at c;cases r:RC[v-own.length]? with
   |none=>rw[r]at x;cases x
   |some a=>
    rw[r]at x c;have x:b.N.getD a "" = d:=Option.some.inj x;have c:w.getD a X=Z q:=Option.some.inj c;let⟨@g,O,P,Q⟩:=Rk.Hj a (oJ r);have E:g=d:=by
     rw[<-x,cD,O];rfl
    subst E;have F:w[a]?=Z (Z q):=by
     rw[cD]at c;cases R:w[a]? with
     |none=>rw[R]at c;cases c
     |some l=>rw[R]at c;rw[show l=Z q from c]
    have S:=Rk.free (g,.free) P rfl;let⟨@I,p,lk⟩:=as a g q O F (.inr<|.inl S);refine⟨I,p,.inr ⟨?_,?_⟩⟩
    ·rcases y with y|y|y
     ·
      exfalso;have:∀{C:List (aC×cS)},C.lookup g=Z .free->(C.map λ(s,n)=>if (n==cS.free&&b.env.scope.kind==.function&&b.env.kindOf s==Z .cell) then (s,cS.cell) else (s,n)).lookup g≠Z .local:=by
       intro C;induction C with
       |nil=>intro e;simp at e
       |cons i p T=>
        let⟨s,n⟩:=i;intro e;rw[bV];dsimp only;by_cases U:g=s
        ·subst U;have Sn:n=.free:=by simpa [f9] using e
         subst Sn;by_cases z:(cS.free==cS.free&&b.env.scope.kind==ScopeKind.function&&b.env.kindOf g==Z cS.cell)=ab
         ·rw[aB z];simp[f9]
         ·rw[aD z];simp[f9]
        ·have J:(g==s)=ax:=by simpa using U
         rw[f9,J]at e;by_cases z:(n==cS.free&&b.env.scope.kind==ScopeKind.function&&b.env.kindOf s==Z cS.cell)=ab
         ·rw[aB z,f9,J];exact T e
         ·rw[aD z,f9,J];exact T e
      exact this Q y
     ·exact .inl y
     ·exact .inr y
    ·rcases lk with ⟨a2,_⟩|⟨_,h,bd,be⟩
     ·exact absurd (a2.symm.trans S) ↥0
     ·let⟨@bs,al⟩:=yI (Q6:=b.env) Rp.names [] g (.inl P);have:=(Rk.sub t.ok al).1;rw[bd]at this;cases this;let⟨@Y,L,hd⟩:=be;have bi:Ra.lookup g=X:=by
       cases r:Ra.lookup g with
       |none=>rfl
       |some u=>
        have:=Rk.vw _ (B.gi g u r).2.2 rfl;rw[Q]at this;cases this
      exact⟨h,by show (Ra++kf b.env Rp.names).lookup g=Z h;rw[xW,bi];exact al,Y,A _ _ L,hd⟩
 cell:=λd h e=>by
  rcases Rk.two t.ok e with l|⟨_,l⟩
  ·exact⟨_,(B.gi d h l).2.1⟩
  ·let⟨q,@Y,L,hd⟩:=t.cell d h l;exact⟨q,Y,A _ _ L,hd⟩
 free:=t.aZ.fresh M
 i4:=λd h e=>by
  rcases Rk.two t.ok e with l|⟨_,l⟩
  ·exact t.aZ.fresh (dD D (B.gi d h l).1)
  ·exact t.i4 d h l
 pin:=λo bm=>nomatch bm
 aZ:=t.aZ.kept A
 len:=by simp[jA,fp,aK.fc]
def EL(b:aK)(Sa:List a8)(B:dV)(G:List (ar×a6)):Prop:=(
 ∀(m:aq) (w:aX) (j:aw) (A:Bool->aw->Prop),aF b G w j m->B w j A->
  wpAny (aQ b.prog b.w) b.A (forIn Sa ab λh p=>if p=ab then do let ok <-mz h b.env (bR h b.env);pure (ForInStep.yield ok) else pure (ForInStep.yield p)) (sD b G w A) b.cE m)
def qY(b:aK)(Sa:List a8)(B:dV):Prop:=(∀G,EL b Sa B G)
def I7:dV:=(λ_ j A=>A ab j)
def MX:qY b [] I7:=λG m w j A t e=>wpAny_tests_nil ⟨j,t,e⟩
def Mw{h:a8}{B:dV}(e:gC b h B):qY b [h] B:=λG m w j A t a=>wpAny_tests_one (e G m w j A t a)
def Lq(own:List aC)(RC:List Nat)(L:fF)(Sj:dV)(R6:bP)(w:aX)(RG:List ah->aw->Prop)(Rj:List ah)(d:ah)(F:aw):Prop:=(
 L d (jA own RC w) F λa Ro=>(∀(v:Nat) (q:ah),(jA own RC w)[v]?=Z (Z q)->a[v]?=Z (Z q))/\Sj a Ro λf b=>if f=ab then R6 a b λq c=>Rj.length<sizeLine/\RG (Rj++[q]) c else RG Rj b)
def GK(R1:eM)(own:List aC)(RC:List Nat)(L:fF)(Sj:dV)(R6:bP)(w:aX)(Rb:aw)(A:b2):Prop:=(
 ∃W:Nat->Nat->List ah->aw->Prop,(∃H,W 0 H [] Rb)/\∀a H Rj j,W a H Rj j->(R1.stop a j/\∀y,j y=X->A (.ref y) (upd j y<|.lst Rj))\/
  (R1.go a j/\∃RG:List ah->aw->Prop,(∀b F,RG b F->∃c,c<H/\W (a+1) c b F)/\∀d F,R1.qU a j d F->Lq own RC L Sj R6 w RG Rj d F))
def rW(own:List aC)(RC:List Nat)(eJ:cX)(L:jL->fF)(Sj:jL->dV)(R6:jL->bP):bP:=(λw j A=>eJ w j λR1 Rb=>∀a:jL,GK R1 own RC (L a) (Sj a) (R6 a) w Rb A)
def y5(t:f6)(RG:List aC)(Rp:f6)(RC:List Nat):Bool:=(
 Rp.kind==.function&&Rp.names.all (λi=>i.2 != .cell || Rp.names.lookup i.1==Z .cell)&&Rp.names.all (λi=>i.2 != .free || t.names.lookup i.1==Z .cell)&&Rp.names.all (λi=>i.2 != .local || Rp.names.lookup i.1==Z .local) &&
  RC.all (λa=>match RG[a]? with|some d=>Rp.names.lookup d==Z .free|none=>ax))
def lS{b:aK}(t:f6)(RG:List aC)(e:y5 t RG Rp RC=ab)(c:b.env.scope=t:=by rfl)(m:b.N=RG:=by rfl):hF b Rp own RC:=by
 unfold y5 at e;simp only[cF,ho,bne_iff_ne,ne_eq,yY,beq_iff_eq]at e;let@⟨@⟨@⟨@⟨k,l⟩,n⟩,o⟩,p⟩:=e;refine⟨k,λi f g=>(l i f).resolve_left λh=>h g,λi f g=>?_,λi f g=>?_,λa U=>?_⟩
 ·rw[c];exact (n i f).resolve_left λh=>h g
 ·exact (o i f).resolve_left λh=>h g
 ·have:=p a U;rw[m];cases r:RG[a]? with
  |none=>rw[r]at this;cases this
  |some d=>
   rw[r]at this;have j:Rp.names.lookup d=Z .free:=by simpa using this
   exact⟨d,rfl,mem_of_lookup j,j⟩
def Di{RR:Pos}{use:Option (af->dy Unit)}{ge:af->aq->Prop}{lm:b2}(pm:b.calm=ab)(Rk:hF b Rp own RC)(U:kL b RD RX eJ)(po:∀bd,i2 (b.fc (fp b own RC) Rp bd) RD<|L bd)(pp:∀bd,qY (b.fc (fp b own RC) Rp bd) Sa<|Sj bd)(pr:∀bd,bx (b.fc (fp b own RC) Rp bd) Sd<|R6 bd)(pt:∀d,lD RX b.env d=pure d)(t:aF b G w j m)(e:rW own RC eJ L Sj R6 w j lm)(pu:∀(y aP:ar) (gl:aw) (Q:aq) (H:aC->Option af),aF b G w gl Q->Q.heap.Ns aP H->gl aP=X->b.env.locals≠aP->(∀d h,b.env.cells.lookup d=Z h->h≠aP)->b.eC.heap.objs.size<=aP->(∀o∈b.jw++G,o.1≠aP)->lm (.ref y) gl->compPost (aQ b.prog b.w) b.A b.cE use ge (.ref y) aP (.ok .next) Q):
  wpAny (aQ b.prog b.w) b.A (v3 (.ListComp Sd [⟨RD,RX,Sa,0⟩] Rp Rl) Rp b.env RR (p7 []) ax (bR RX b.env) use) ge b.cE m:=by
 refine wpAny_comprehension_free (use:=use) rfl pt (I_<|Rk.cells t.ok) Rk.kind Rk.loc (bK (U G m w j _ t e) λq wr k=>bK k λws N l=>?_);let⟨ao,b1,J,R1,@Ro,c,ap,Rc,gt,be,py⟩:=l;subst c;have co:∀f∈b1,f<N.heap.objs.size:=λf u=>by
  let⟨@Y,c,R⟩:=Rc.obj _ _ gt f u;exact b6 c
 refine hs (NW λg1 Ra ext dL bs ln=>?_);dsimp only at dL ext bs ⊢;generalize g2:N.heap.push {cls:=.type "list",dict:=X,data:=.seq ([]:List af).toArray}=eq at dL ext bs ⊢;have ev:eq.objs.size=N.heap.objs.size+1:=by rw[<-g2,lh]
 have bv:N.heap.objs.size≠eq.objs.size:=by rw[ev];exact dg (tM _)
 have fd:N.heap.objs.size<=eq.objs.size:=by rw[ev];exact z4 _
 have g3:∀f Y,N.heap.get? f=Z Y->g1.get? f=Z Y:=λf Y c=>ext f Y (g2 ▸ cp _ c);have ls:g1.get? N.heap.objs.size=Z {cls:=.type "list",data:=.seq ([]:List af).toArray 0}:=ext _ _ (g2 ▸ dc _ rfl);generalize wv:eq.objs.size=aP at dL bs ev bv fd ⊢;have fn:N.heap.objs.size<=aP+1:=yE fd;generalize a1:N.heap.objs.size=y at ls ev bv fd ⊢;have ca:N.heap.objs.size<=aP:=by rw[a1];exact fd
 let⟨@W,⟨@rc,re⟩,turn⟩:=py ⟨aP,N,Ro,b1,Ra⟩;have lv:=λ(RN:Nat)=>Ou (RN:=RN) Rk ap ca be co g3 dL bs fn ln;have lw:=po ⟨aP,N,Ro,b1,Ra⟩;have mb:=pp ⟨aP,N,Ro,b1,Ra⟩;have mo:=pr ⟨aP,N,Ro,b1,Ra⟩;have hd:=FP Rk ap ca be co bs fn ln;generalize S:b.fc (fp b own RC) Rp ⟨aP,N,Ro,b1,Ra⟩=v at lv lw mb mo hd;have cd:v.prog=b.prog:=by rw[<-S];rfl
 have ce:v.w=b.w:=by rw[<-S];rfl
 have mp:v.K=b.K:=by rw[<-S];rfl
 have cr:v.A=b.A:=by rw[<-S];rfl
 have ms:v.calm=ab:=by rw[<-S];exact pm
 have ch:v.env.locals=aP:=by rw[<-S];rfl
 have he:v.ex=b1:=by rw[<-S];rfl
 have fr:v.eC=N:=by rw[<-S];rfl
 have rs:v.lW=Ro:=by rw[<-S];rfl
 have sc:v.aa=hQ b.stack:=by rw[<-S];rfl
 have f0:v.jw=[]:=by rw[<-S];rfl
 have hf:v.cE=λ_ R=>False:=by rw[<-S];rfl
 have m0:v.env=ud Rp (Ra++kf b.env Rp.names) aP b.env:=by rw[<-S];rfl
 have na:∀d h,v.env.cells.lookup d=Z h->aP+1<=h\/b.env.cells.lookup d=Z h:=λd h e=>by
  rw[m0]at e;rcases Rk.two ap.ok e with z|⟨_,z⟩
  ·exact .inl (bs.gi d h z).1
  ·exact .inr z
 have sn:∀d h,v.env.cells.lookup d=Z h->h≠y:=λd h e z=>by
  rcases na d h e with i|i
  ·rw[z,<-a1]at i;exact absurd (dD (Fh ca) i) (Nat.not_succ_le_self _)
  ·have:=ap.wJ i;rw[z,<-a1]at this;exact iX _ this
 have hm:∀f∈b1,f≠y:=λf u z=>by
  have:=co f u;rw[z,<-a1]at this;exact iX _ this
 have sp:y∉v.aa:=λz=>by
  let@⟨_,⟨@Y,ci,_⟩⟩:=hd.iu.mem z;rw[fr]at ci;have:=b6 ci;rw[a1]at this;exact iX _ this
 have hw:∀(F:aw) (Y:a6),(∀f∈b1,F f=X)->∀f∈b1,jI v [(y,Y)] F f:=λF Y h0 f u=>by
  refine⟨h0 f u,?_,?_,.inl (by rw[he];exact u),λd h e=>(na d h e).elim (λi=>kQ (ep (co f u) (dD fn (by rw[a1]at fn;exact i)))) λi=>(be f u).2.2.2.2.1 d h i,λo P=>?_⟩
  ·rw[ch];exact dg (ep (co f u) ca)
  ·exact hd.oE f (by rw[he];exact u)
  ·rw[f0]at P;have:o=(y,Y):=by simpa using P
   rw[this];exact eu (hm f u)
 have nb:∀ii:aq,ii={N with heap:=g1,toks:=N.toks+([]:List (aC×af)).length}->
   codeAny (aQ b.prog b.w) b.A (.compLoop (.ListComp Sd [⟨RD,RX,Sa,0⟩] Rp Rl) 0 (.ref ao) (.ref y) v.env)
    (compPost (aQ b.prog b.w) b.A b.cE use ge (.ref y) aP) ii:=by
  rintro ii rfl;refine M7 (λs T=>∃(a:Nat) (Rj:List ah) (F:aw) (Rf:List af) (n:Nat),aF v [(y,{cls:=.type "list",data:=.seq Rf.toArray n})] (jA own RC w) F T/\bN Rj Rf/\Rj.length<=sizeLine/\J a T.heap/\
   (∀f∈b1,F f=X)/\W a s Rj F) ?_ rc ?_
  ·rintro s ne ⟨a,Rj,al,Rf,n,im,f1,aN,nl,nm,ss⟩;rcases turn a s Rj al ss with ⟨stop,sw⟩|⟨go,RG,nn,step⟩
   ·have:=Rc.done v cd ce mp ms a _ ne _ al (λ_ R=>False) im (hw al _ nm) nl stop;rw[cr]at this;refine bK this λp Q am=>?_;let@⟨io,bi⟩:=am;subst io;let⟨@H,h0,R⟩:=bi.loc;have sB:Q.heap.Ns aP H:=by rw[<-ch];exact h0
    have P:=bi.pin (y,{cls:=.type "list",data:=.seq Rf.toArray n}) (by rw[f0];simp);have cl:al y=X:=P.2.1;have dG:∀f,f≠aP->Q.heap.get? f=Q.heap.get? f:=λf u=>rfl;have bn:∀f Y,N.heap.get? f=Z Y->f≠aP:=λf Y c=>dg (ep (b6 c) ca);have sK:∀f Y,N.heap.get? f=Z Y->f≠y:=λf Y c=>by rw[<-a1];exact dg (b6 c)
    have as:eR (hQ b.stack) b1 Ro al N.heap Q.heap:=by
     have:=bi.base;rw[sc,he,rs,fr]at this;exact this
    have I:eR (hQ b.stack) b1 Ro (upd al y<|.lst Rj) N.heap Q.heap:=
     ⟨λf Y c s u a2=>(dG f<|bn f Y c).trans<|as.keep f Y c s u a2,
      λf Y c s u a2=>by
      let⟨@bk,r⟩:=as.slot f Y c s u a2;exact⟨bk,(dG f<|bn f Y c).trans r⟩,
      λf Y c s a2=>by rw[cR (sK f Y c)];exact as.free f Y c s a2,
      λf Y x c B a2=>(dG f<|bn f Y c).trans<|as.jH f Y x c B a2,
      λf Y c a2=>by
      let⟨@M,r⟩:=as.there f Y c a2;exact⟨M,(dG f<|bn f Y c).trans r⟩,
      λf x c=>by rw[cR (gP (as.iY f x c) cl)];exact as.iY f x c,
      λf Y x c=>by rw[cR (gP (as.jb f Y x c) cl)];exact as.jb f Y x c,
      λf Rg c=>by
      let⟨@s0,r⟩:=as.lj f Rg c;exact⟨s0,by rw[cR (gP r cl)];exact r⟩⟩
    have no:∀f Y,al f=Z Y->f≠aP:=λf Y c z=>by
     have:=bi.free;rw[ch,<-z,c]at this;cases this
    have s1:dH b.prog b.w (upd al y<|.lst Rj) Q.heap:=λg Y c=>by
     by_cases np:g=y
     ·subst np;rw[ec]at c;cases c;exact⟨aN,Rf,n,f1,(dG _ bv).trans P.1⟩
     ·rw[cR np]at c;have:=bi.aZ g Y c;rw[cd,ce]at this;refine this.iI (λf I u r=>(dG f ?_).trans r) (λf r=>by rw[cR (gP r cl)];exact r) λf x r=>by rw[cR (gP r cl)];exact r
      rcases u with z|z
      ·rw[z];exact no g Y c
      ·exact no f _ z
    have s2:aF b G w (upd al y<|.lst Rj) Q:=ap.Kl (T:=Q) (R8:=b1) (by have:=bi.os;rw[fr]at this;exact this) I s1 bi.bare λf u=>⟨(be f u).2.2.2.1,(be f u).2.1,(be f u).2.2.2.2.1,(be f u).2.2.2.2.2⟩;have s3:b.env.locals≠aP:=by
     let⟨@ww,s4,R⟩:=ap.loc;let⟨Y,R,@R,ci,R⟩:=s4;exact bn _ _ ci
    have s5:∀d h,b.env.cells.lookup d=Z h->h≠aP:=λd h e=>by
     let⟨q,@Y,ci,R⟩:=ap.cell d h e;exact bn _ _ ci
    refine pu y aP _ Q H s2 sB ?_ s3 s5 ?_ (λo P=>bn _ _ (ap.pin o P).1) (sw y cl)
    ·rw[cR (eu bv)];have:=bi.free
     rwa [ch]at this
    ·exact dD ap.kj ca
   ·have:=Rc.item v cd ce mp ms a _ ne _ al (λ_ R=>False) im (hw al _ nm) nl go;rw[cr]at this;refine bK this λp Q am=>?_;let⟨@I,io,to⟩:=am;subst io;refine bK to λ_ cs am=>?_;let⟨d,@it,tt,ty,tz,jp,t0⟩:=am;have t1:=tt.pinned (hw it _ t0) (Rc.obj _ _ jp);have ns:=lw _ cs _ it d I _ t1 ty (step d it tz);rw[cd,ce,cr,hf]at ns;refine bK ns λ_ t3 am=>?_;let⟨db,@ul,un,up,us⟩:=am;have nw:=mb _ t3 db ul _ un us;rw[cd,ce,cr,hf]at nw;refine bK nw λf ut am=>?_;let⟨@of,f2,f4⟩:=am;have ol:∀{on:aX}{F:aw}{T:aq},aF v ([(y,{cls:=.type "list",data:=.seq Rf.toArray n})]++lq b1 cs.heap) on F T->(∀f∈b1,F f=X)/\J (a+1) T.heap:=λ{on F T} ds=>by
     refine⟨λf u=>?_,Rc.keep _ _ _ jp λf u Y c=>(ds.pin (f,Y)<|en _<|en _<|rZ u c).1⟩;let⟨@Y,c,R⟩:=Rc.obj _ _ jp f u;exact (ds.pin (f,Y)<|en _<|en _<|rZ u c).2.1
    have op:∀{kt:List (ar×a6)}{F:aw}{T:aq},aF v kt db F T->aF v kt (jA own RC w) F T:=λ{kt F T} ds=>
     ds.weak (by rw[ds.len,im.len]) up;cases f with
    |false=>
     rw[aD c_]at f4;let⟨@kw,lc,u8⟩:=nn _ _ f4;rw[aD c_];let@⟨RP,RJ⟩:=ol f2;exact⟨kw,lc,a+1,Rj,of,Rf,n,op (f2.pe λo P=>f2.pin o (by
      rw[f0];simp at P ⊢;exact .inl P)),f1,aN,RJ,RP,u8⟩
    |true=>
     rw[aB rfl]at f4 ⊢;have o0:=mo _ ut db of _ f2 f4;rw[cd,ce,cr,hf]at o0;refine bK o0 λan bm am=>?_;let⟨v0,@lf,f8,v1,wE,v2⟩:=am;let⟨@kw,lc,v4⟩:=nn _ _ v2;have P:=f8.pin (y,{cls:=.type "list",data:=.seq Rf.toArray n}) (en _ (eX _ ↥0));have li:=P.1;refine lO EH ⟨_,li,rfl⟩ Bn (C3 _ _) (B_ y Rf.toArray n an (by rw[cH,<-f1.length];lia)) ⟨li,?_⟩;have r:=D9 li (λg=>g.push an);let@⟨RP,RJ⟩:=ol f8;have v6:aF v (lq b1 cs.heap) db lf bm:=f8.pe λo P=>f8.pin o (en _<|en _ P);have pc:∀f Y,f≠y->bm.heap.get? f=Z Y->(bm.heap.update y<|a6.mapSeq λg=>g.push an).get? f=Z Y:=λf Y u c=>(kg bm.heap _<|eu u).trans c;have wf:aF v (lq b1 cs.heap) db lf {bm with heap:=bm.heap.update y (a6.mapSeq λg=>g.push an),toks:=bm.toks}:=
      v6.turned (ao:=y) pc P.2.1 (by rw[ch];exact bv) (.inr (by rw[fr,a1];exact bD _)) sn λo ga=>by
       rw[f0]at ga;let@⟨u,_⟩:=Dl (show o∈lq b1 cs.heap by simpa using ga);exact hm _ u
     refine⟨kw,lc,a+1,Rj++[v0],lf,Rf++[an],n+1,op<|wf.pe λo ga=>?_,f1.append<|.cons v1 .nil,?_,?_,RP,v4⟩
     ·have c:o=(y,{cls:=.type "list",data:=.seq (Rf++[an]).toArray (n+1)}):=by simpa using ga
      subst c;refine⟨?_,P.2.1,P.2.2.1,P.2.2.2.1,λq z=>by cases z⟩;have wl:Rf.toArray.push an=(Rf++[an]).toArray:=by simp
      rw[<-wl];have pi:IsL (bm.heap.update y<|a6.mapSeq λg=>g.push an) y (Rf.toArray.push an) (if (Rf.toArray.push an).size==Rf.toArray.size then n else n+1):=r;rw[aD ↥0]at pi;exact pi
     ·rw[c5,fQ];lia
     ·refine Rc.keep _ _ _ RJ λf u Y c=>pc f Y (hm f u) c
  ·refine⟨0,[],Ro,[],0,?_,.nil,hY _,Rc.keep _ _ _ gt λf R Y c=>g3 f Y c,λf u=>(be f u).1,re⟩;refine (lv _).pe λo P=>?_;have c:o=(y,{cls:=.type "list",data:=.seq ([]:List af).toArray 0}):=by simpa using P
   subst c;exact⟨ls,ap.aZ.fresh (by rw[a1];exact bD _),by rw[ch];exact bv,sp,λq z=>by cases z⟩
 have wn:ud Rp (Ra++kf b.env Rp.names) aP b.env=v.env:=m0.symm;show codeAny (aQ b.prog b.w) b.A (.compStart _ 0 (.ref ao) (.ref y)<|ud Rp (Ra++kf b.env Rp.names) aP b.env) _ _;rw[wn];exact codeAny_compStart_list (nb _ rfl) (Rc.self b.A 0 _ _ _ (Rc.keep _ _ _ gt λf R Y c=>g3 f Y c)<|nb _ rfl)
def PL(i:b.calm=ab)(Rk:hF b Rp own RC)(U:kL b RD RX eJ)(k:∀a,i2 (b.fc (fp b own RC) Rp a) RD<|L a)(l:∀a,qY (b.fc (fp b own RC) Rp a) Sa<|Sj a)(n:∀a,bx (b.fc (fp b own RC) Rp a) Sd<|R6 a)(p:∀d,lD RX b.env d=pure d:=by intro W;rfl):bx b (.ListComp Sd [⟨RD,RX,Sa,0⟩] Rp Rl) (rW own RC eJ L Sj R6):=by
 intro G m w j A t e;show wpAny _ b.A (v3 (.ListComp Sd [⟨RD,RX,Sa,0⟩] Rp Rl) Rp b.env _ (p7 []) ax (bR RX b.env) X) _ _ m;refine Di (use:=X) (ge:=eb b G w A) i Rk U k l n p t e λy aP q g H s u N C h v o r=>?_;show ∃H,g.heap.Ns aP H/\∀S,a4.SameBut aP g.heap S->eb b G w A (.ref y) {g with heap:=S};refine⟨H,u,λS cy=>⟨.ref y,q,?_,rfl,r⟩⟩;exact s.turned (ao:=aP) (RF:=g.toks) (λf Y x c=>(cy.2 f x).trans c) N (eu C) (.inr v) h o
end
def ia(e:a4)(u:ar)(Ru:List af)(RU:Nat):Prop:=(∃Y Q,e.get? u=Z Y/\Y.ExactDict/\Y.data=.dict Q RU/\Q.toList.map (·.key)=Ru)
def ia.ty(d:ia m.heap u Ru RU):m.TypeIs (.ref u) "dict" := let ⟨Y,_,c,h,_⟩:=d;⟨Y,c,h.1⟩
def ia.lt(d:ia e u Ru RU):u<e.objs.size:=let ⟨_,_,c,_⟩:=d;b6 c
def ia.go{S:a4}(d:ia e u Ru RU)(n:∀Y,e.get? u=Z Y->S.get? u=Z Y):ia S u Ru RU:=let ⟨Y,Q,c,p⟩:=d;⟨Y,Q,n Y c,p⟩
section
variable{Q_:bz}{D:bg}{O:bp}{Q7:af->aq->Prop}{m:aq}
def Lb{A:af->aq->Prop}(M:(u==iz)=ax)(d:ia m.heap u Ru RU)(r:A (.ref m.heap.objs.size) {m with heap:=m.heap.push {cls:=.type "dict_keyiterator",data:=.fields #[.ref u,.int 0 0,.int Ru.length 0,.int RU 0]} }):wpAny (aQ Q_ D) O (te<|.ref u) A Q7 m:=by
 have ty:=d.ty;let⟨Y,@Q,a,e,b,c⟩:=d;have s:Q.size=Ru.length:=by rw[<-c,bH,fB]
 refine wpAny_pyIter_slot ty Dn (i1 Dn ty F.entry_dict_iter ?z<|F.args_dict_iter_1 _)
 case z=>
  unfold bq.«dict.__iter__» bq.Dict.dictSlotNone;refine ay (ay<|Dk ty ?_);show wpAny _ _ (pure<|af.ref u) _ _ m;apply a3;show wpAny _ _ (bq.Dict.showsAll u >>= _) _ _ m;unfold bq.Dict.showsAll;rw[aD (by rw[M];simp)];refine ay (a3<|ay<|vV a b<|ay<|xR a b<|ay<|hs<|a3 ⟨_,rfl,"dict_keyiterator",_,⟨_,dc _ rfl,rfl⟩,pR.lookup,?_⟩);simpa [jn,s] using r
def L0{ao u:ar}{q:af}(b:m.heap.IsKeyIter ao u a Ru.length RU)(d:ia m.heap u Ru RU)(e:Ru[a]?=Z q)(r:∀S,S.IsKeyIter ao u (a+1) Ru.length RU->a4.SameBut ao m.heap S->A (Z q) {m with heap:=S}):wpAny (aQ Q_ D) O (hc<|.ref ao) A Q7 m:=by
 let⟨@n,f,l,c⟩:=id b;let⟨Y,@Q,h,o,i,j⟩:=d;have s:Q.size=Ru.length:=by rw[<-j,bH,fB]
 have U:a<Q.size:=by
  have:a<Ru.length:=(fR.mp e).1;lia
 have Sn:Q[a].key=q:=by
  rw[<-j,gc,gq,Cg U]at e;exact Option.some.inj e
 unfold hc;refine ay (rx<|lK (name:=aC.ofString "__next__") b.typeIs pR<|i1 pR b.typeIs Aa ?g<|DM _)
 case g=>
  refine ay (a3<|ay<|ay ?_);refine ay (sV b.typeIs<|a3<|ay<|En f c ?_);simp only[show bq.Dict_items.ownsTuple "dict_keyiterator" = ax by decide,ij,eL];show wpAny _ _ (if (af.ref u==af.none)=ab then _ else _) _ _ m;rw[aD (show ¬ (af.ref u==af.none)=ab by intro g;cases g)];refine ay (a3<|ay<|vV h i ?_);rw[aD (by simp[s])];refine ay (a3<|ay<|xR h i ?_);rw[aD ↥0];apply a3;simp only[show ¬ ((a:Int)<0) by lia,eL,pw,Cg U];refine ay (ay<|sV b.typeIs<|a3<|ay<|EN b.typeIs ?_);show wpAny _ _ (setField (.ref ao) 1 (jn<|(a:Int)+1) >>= _) _ _ m;have k:(m.heap.update ao (a6.mapFields (·.setIfInBounds 1 (jn<|(a:Int)+1)))).IsKeyIter ao u (a+1) Ru.length RU:=
   ⟨_,q_ _ f<|za<|tD c _,(DE ..).trans l,by rw[tD c];simp[jn]⟩;refine ay (ur f c ↥0 (ay (fL (ay (EN (s:={m with heap:=m.heap.update ao (a6.mapFields (·.setIfInBounds 1 (jn<|(a:Int)+1)))}) k.typeIs ?_)))));show wpAny _ _ (pure Q[a].key) _ _ _;rw[Sn];exact a3 (a3 ⟨_,rfl,a3<|r _ k<|tO ..⟩)
def Lz{ao u:ar}(k:O.handled=X)(b:m.heap.IsKeyIter ao u a Ru.length RU)(d:ia m.heap u Ru RU)(n:Ru.length<=a)(r:∀S,a4.ExtBut ao m.heap S->A X {m with heap:=S}):wpAny (aQ Q_ D) O (hc<|.ref ao) A Q7 m:=by
 let⟨@o,e,p,h⟩:=id b;let⟨Y,@Q,i,q,j,l⟩:=d;have s:Q.size=Ru.length:=by rw[<-l,bH,fB]
 unfold hc;refine ay (rx<|lK (name:=aC.ofString "__next__") b.typeIs pR<|i1 pR b.typeIs Aa ?c<|DM _)
 case c=>
  refine ay (a3<|ay<|ay ?_);refine ay (sV b.typeIs<|a3<|ay<|En e h ?_);simp only[show bq.Dict_items.ownsTuple "dict_keyiterator" = ax by decide,ij,eL];show wpAny _ _ (if (af.ref u==af.none)=ab then _ else _) _ _ m;rw[aD (show ¬ (af.ref u==af.none)=ab by intro c;cases c)];refine ay (a3<|ay<|vV i j ?_);rw[aD (by simp[s])];refine ay (a3<|ay<|xR i j ?_);rw[aD ↥0];apply a3;simp only[show ¬ ((a:Int)<0) by lia,eL,pw,Array.getElem?_eq_none (show Q.size<=a by lia)];refine ay (ay<|sV b.typeIs<|a3 ?_);show wpAny _ _ (setField (.ref ao) 0 .none >>= _) _ _ m;refine ay (ur e h ↥0 ?_);show wpAny _ _ (rR (.type "StopIteration") [] >>= _) _ _ _;apply ay;simp only[rR,yJ];refine ay (hs (ay (m:=t9 _ _) (tG (a:=af.none) (by first|rfl|(simp only[t9];rfl)) (hs ?_ (by size_fits)))) (by size_fits));simp only[raiseNew];apply ay;apply FH;rw[show O.in1.handled=X from k];refine ay (m:=pure _) (a3<|wpAny_throw ?_);apply ay;refine rI (T := "StopIteration") (b:=ab) ⟨_,dc _ rfl,rfl⟩ AR ?_;exact a3 (r _<|((tO ..).extBut.push _).push _)
theorem Qw(j:O.handled=X)(ao u:ar)(ne:u≠ao)(Ru:List af)(RU:Nat):mK Q_ D O ao [ao,u] [ao] Ru.length (λa q=>Ru[a]?=Z q) (λa e=>e.IsKeyIter ao u a Ru.length RU/\ia e u Ru RU) where
 sub:=λf k=>by
  have:f=ao:=by simpa using k
  simp[this]
 frame:=λa e S J n=>⟨let ⟨Y,c,p⟩:=J.1;⟨Y,n ao ↥0 Y c,p⟩,J.2.go (n u ↥0)⟩
 item:=λa m A Q7 U J b=>by
  have i:Ru[a]?=Z Ru[a]:=by simp[U]
  refine L0 J.1 J.2 i λS g f=>b _ S m.toks i ⟨g,J.2.go λY c=>f.extBut u Y ne c⟩ λh Y d c=>f.extBut h Y ⇑d c
 done:=λm A Q7 J b=>Lz j J.1 J.2 (bD _) λS f=>b S m.toks λh Y d c=>f h Y ⇑d c
 self:=λa m A Q7 J b=>wpAny_pyIter_keyiter J.1 b
theorem Mz(M:(u==iz)=ax):PySem.W.KdlSrc Q_ D "dict" u u Ru.length (λa q=>Ru[a]?=Z q) (λe=>ia e u Ru RU) where
 type:=λm d=>d.ty
 there:=λe d=>⟨d.lt,d.lt⟩
 keep:=λe S d n=>d.go (n u<|.inl rfl)
 notList:=by decide
 notTuple:=by decide
 hint:=λO Q7 m A d r=>PySem.W.kdl_hint_dict d.ty r
 iter:=λO m b d=>⟨_,_,(λQ7 A r=>Lb M d r),Qw b _ u (dg d.lt) Ru RU,⟨⟨_,dc _ rfl,rfl,rfl⟩,d.go λY c=>cp _ c⟩⟩
end
end L2
namespace L2
open Spec PyProof.Rows PySem.W
section
variable{s:Nat}{y:Nat->Int}{b:Nat->Nat->(Bool->aq->Prop)->aq->Prop}
def a7(y:Nat->Int)(o:Array Nat)(a:Nat):Int:=(y (o.getD a 0))
def jW(y:Nat->Int)(o:Array Nat)(H:Nat):Prop:=(∀a v,a<=v->v<H->a7 y o a<=a7 y o v)
def fk(s:Nat)(y:Nat->Int)(b:Nat->Nat->(Bool->aq->Prop)->aq->Prop)(m:aq):Prop:=(∀a v aP,a<s->v<s->aP (decide (y a<y v)) m->b a v aP m)
def cT(s:Nat)(o:Array Nat):Prop:=(o.toList.Perm (range s))
variable{o:Array Nat}
def cT.size(e:cT s o):o.size=s:=by
 have:=e.length_eq;simpa using this
def cT.lt(e:cT s o){a:Nat}(U:a<s):o.getD a 0<s:=by
 have b:=e.size;have c:o.getD a 0=o[a]:=by simp[Array.getD,b,U]
 rw[c];have:o[a]∈o.toList:=by simp
 exact iJ.mp (e.mem_iff.mp this)
def cT.ne(e:cT s o)(inj:∀a v,a<s->v<s->y a=y v->a=v){a v:Nat}(j:a<v)(d:v<s):a7 y o a≠a7 y o v:=by
 intro c;have b:=e.size;have f:=inj _ _ (e.lt (by omega)) (e.lt d) c;have g:o.getD a 0=o[a]:=by simp[Array.getD,b,show a<s by omega]
 have h:o.getD v 0=o[v]:=by simp[Array.getD,b,d]
 rw[g,h]at f;have ai:o.toList.Nodup:=e.nodup_iff.mpr List.nodup_range;have i:o.toList[a]'(by simpa [b] using (show a<s by omega))=o.toList[v]'(by simpa [b] using d):=by simpa using f
 have:=(A8 ai).mp i;omega
def lB{r:Array Nat}{a v:Nat}(c:o[a]?=r[v]?):a7 y o a=a7 y r v:=by
 unfold a7;rw[E4,E4,c]
theorem cT.rev(e:cT s o)(a v:Nat):cT s (mu o a v):=(CC.mp<|mirror_perm o a v _).trans e
theorem cT.HO(e:cT s o)(a v:Nat):cT s (pM o a v):=(CC.mp<|bubble_perm o a v).trans e
end
section
variable{Q_:bz}{D:bg}{O:bp}{Q7:af->aq->Prop}{Rx:fT}{ao:Array bb}{y:Nat->Int}{s:Nat}{m:aq}
def n7:Bool->bb->Array bb->Nat->Nat->Nat->StateT bt dy (Option Nat):=(sortPriv% PySem.Builtin.gallop)
def qp(b:fk s y (eQ Q_ D O Rx ao) m){a v:Nat}(U:a<s)(c:v<s){J:bt}(d:kindOf J=Rx){A:Option Bool->bt->aq->Prop}(e:A (Z<|decide (y a<y v)) J m):
  kasC (aQ Q_ D) O Q7 (lt' (ba ao a)<|ba ao v) A J m:=by
 rw[lt'_eq];apply bf;apply jF;have:=b a v (λh T=>T=m/\h=decide (y a<y v)) U c ⟨rfl,rfl⟩;unfold eQ at this;rw[d];refine bf (nh<|rx<|fY this (λh T f=>?_) λ_ Y g=>g.elim);let@⟨rfl,rfl⟩:=f;exact bc e
theorem fZ{w RZ:Type}{az:gy}{N:Nat->RZ->StateT w dy (ForInStep RZ)}{A:RZ->w->aq->Prop}(t:Nat->RZ->w->aq->Prop)(step:∀d h J T,t d h J T->kasC az O Q7 (N d h) (λp b f=>match p with | .yield a=>t (d+1) a b f | .done a=>A a b f) J T):∀(H g:Nat) (h:RZ) (J:w) (T:aq),(∀h J T,t (g+H) h J T->A h J T)->t g h J T->
   kasC az O Q7 (forIn (range' g H) h N) A J T
 |0,g,h,J,T,fin,e=>by
  show kasC az O Q7 (forIn ([]:List Nat) h N) A J T;exact kasC_nil (fin h J T e)
 |H+1,g,h,J,T,fin,e=>by
  show kasC az O Q7 (forIn (g::range' (g+1) H) h N) A J T;refine kasC_cons (fY (step g h J T e) (λp f S=>?_) λ_ Y c=>c);let⟨p,b⟩:=p;cases p with
  |done a=>exact S
  |yield a=>exact fZ t step H (g+1) a b f (λh J T U=>fin h J T (by rw[show g+(H+1)=g+1+H by lia];exact U)) S
def cC(y:Nat->Int)(left:Bool)(n:Nat)(bL:Array Nat)(Rh a:Nat):Bool:=(if left=ab then decide (y (bL.getD (Rh+a) 0)<y n) else !decide (y n<y (bL.getD (Rh+a) 0)))
def EF(R:fk s y (eQ Q_ D O Rx ao) m){left:Bool}{n:Nat}(S:n<s){bL:Array Nat}(as:∀a,a<bL.size->bL.getD a 0<s){Rh H b:Nat}(bd:Rh+H<=bL.size)(a1:b<H)(mono:∀a v,a<=v->v<H->cC y left n bL Rh v=ab->cC y left n bL Rh a=ab){J:bt}(al:kindOf J=Rx){A:Option Nat->bt->aq->Prop}(e:∀p,p<=H->(∀a,a<p->cC y left n bL Rh a=ab)->(∀a,p<=a->a<H->cC y left n bL Rh a=ax)->A (Z p) J m):
  kasC (aQ Q_ D) O Q7 (n7 left (ba ao n) (bL.map<|ba ao) Rh H b) A J m:=by
 have f7:∀a,a<H->(bL.map<|ba ao)[Rh+a]?=Z (ba ao<|bL.getD (Rh+a) 0):=λa U=>by
  have:Rh+a<bL.size:=⋯
  simp[Array.getD,this]
 have ask:∀a,a<H->∀Q:Option Bool->bt->aq->Prop,Q (Z<|cC y left n bL Rh a) J m->
   kasC (aQ Q_ D) O Q7 (do let d <-elem' (bL.map<|ba ao) (Rh+a);if left=ab then lt' d (ba ao n) else do let p <-lt' (ba ao n) d;pure (p.map λd=>!d)) Q J m:=λa U Q L=>by
  rw[rK,f7 a U];apply bf;apply bc;have am:=as (Rh+a) ⋯;unfold cC at L;cases left with
  |true=>
   rw[aB rfl]at L ⊢;exact qp R am S al L
  |false=>
   rw[aD c_]at L ⊢;exact bf (qp R S am al<|bc L)
 unfold n7;with_unfolding_all refine bf ?_;refine ask b a1 _ ?_;dsimp only;cases an:cC y left n bL Rh b with
 |true=>
  rw[aB rfl];apply bf;apply fm;have G:∀last i,last<i->b+last<H->cC y left n bL Rh (b+last)=ab->(i >= H-b\/cC y left n bL Rh (b+i)=ax)->
    b+last+1<=b+min i (H-b)/\b+min i (H-b)<=H/\(∀a,a<b+last+1->cC y left n bL Rh a=ab)/\(∀a,b+min i (H-b)<=a->a<H->cC y left n bL Rh a=ax)/\b+min i (H-b)-(b+last+1)<=H-0:=λlast i a2 ap P F=>by
   refine⟨⋯,⋯,λa U=>mono a (b+last) ⋯ ap P,λa k l=>?_,⋯⟩;rcases F with F|F
   ·lia
   ·cases x:cC y left n bL Rh a with
    |false=>rfl
    |true=>rw[mono (b+i) a ⋯ l x]at F;cases F
  refine fZ (λd h q T=>q=J/\T=m/\∃last i,h=(X,last,i)/\last<i/\d<i/\b+last<H/\cC y left n bL Rh (b+last)=ab) ?_ _ 0 _ _ _ ?_ ⟨rfl,rfl,0,1,rfl,⋯,⋯,⋯,an⟩
  ·rintro d h q T ⟨r,t,last,i,rfl,k,l,j,o⟩;rw[r,t];dsimp only;by_cases I:i >= H-b
   ·rw[aB I];apply bc;dsimp only;have z:=G last i k j o (.inl I);apply bf;apply fm;refine fZ (λd h q T=>q=J/\T=m/\∃M U,h=(X,M,U)/\M<=U/\U<=H/\(∀a,a<M->cC y left n bL Rh a=ab)/\(∀a,U<=a->a<H->cC y left n bL Rh a=ax)/\U-M<=H-d) ?_ _ 0 _ _ _ ?_ ⟨rfl,rfl,_,_,rfl,z⟩
    ·rintro d h q T ⟨r,t,M,U,rfl,k,l,j,o,B⟩;rw[r,t];dsimp only;by_cases w:M >= U
     ·rw[aB w];apply bc;dsimp only;have c:M=U:=⋯
      subst c;exact bc (e M l j o)
     ·rw[aD w];have C:M<=M+(U-M)/2:=⋯
      have E:M+(U-M)/2<U:=⋯
      generalize M+(U-M)/2=mid at C E ⊢;refine bf (ask mid ⋯ _ ?_);dsimp only;cases u:cC y left n bL Rh mid with
      |true=>
       rw[aB rfl];exact bc ⟨rfl,rfl,mid+1,U,rfl,⋯,l,λa N=>mono a mid ⋯ ⋯ u,o,⋯⟩
      |false=>
       rw[aD c_];refine bc ⟨rfl,rfl,M,mid,rfl,⋯,⋯,j,λa g f=>?_,⋯⟩;cases x:cC y left n bL Rh a with
       |false=>rfl
       |true=>rw[mono mid a g f x]at u;cases u
    ·rintro h q T ⟨r,t,M,U,rfl,k,l,j,o,B⟩;rw[r,t];dsimp only;have c:M=U:=⋯
     subst c;exact bc (e M l j o)
   ·rw[aD I];refine bf (ask (b+i) ⋯ _ ?_);dsimp only;cases u:cC y left n bL Rh (b+i) with
    |true=>
     simp only[uL,ij,eL];exact bc ⟨rfl,rfl,i,2*i+1,rfl,⋯,⋯,⋯,u⟩
    |false=>
     simp only[Bool.not_false,e8];apply bc;dsimp only;have z:=G last i k j o (.inr u);apply bf;apply fm;refine fZ (λd h q T=>q=J/\T=m/\∃M U,h=(X,M,U)/\M<=U/\U<=H/\(∀a,a<M->cC y left n bL Rh a=ab)/\(∀a,U<=a->a<H->cC y left n bL Rh a=ax)/\U-M<=H-d) ?_ _ 0 _ _ _ ?_ ⟨rfl,rfl,_,_,rfl,z⟩
     ·rintro d h q T ⟨r,t,M,U,rfl,k,l,j,o,B⟩;rw[r,t];dsimp only;by_cases w:M >= U
      ·rw[aB w];apply bc;dsimp only;have c:M=U:=⋯
       subst c;exact bc (e M l j o)
      ·rw[aD w];have C:M<=M+(U-M)/2:=⋯
       have E:M+(U-M)/2<U:=⋯
       generalize M+(U-M)/2=mid at C E ⊢;refine bf (ask mid ⋯ _ ?_);dsimp only;cases u:cC y left n bL Rh mid with
       |true=>
        rw[aB rfl];exact bc ⟨rfl,rfl,mid+1,U,rfl,⋯,l,λa N=>mono a mid ⋯ ⋯ u,o,⋯⟩
       |false=>
        rw[aD c_];refine bc ⟨rfl,rfl,M,mid,rfl,⋯,⋯,j,λa g f=>?_,⋯⟩;cases x:cC y left n bL Rh a with
        |false=>rfl
        |true=>rw[mono mid a g f x]at u;cases u
     ·rintro h q T ⟨r,t,M,U,rfl,k,l,j,o,B⟩;rw[r,t];dsimp only;have c:M=U:=⋯
      subst c;exact bc (e M l j o)
  ·rintro h q T ⟨r,t,last,i,rfl,k,l,j,o⟩;rw[r,t];dsimp only;have z:=G last i k j o (.inl ⋯);apply bf;apply fm;refine fZ (λd h q T=>q=J/\T=m/\∃M U,h=(X,M,U)/\M<=U/\U<=H/\(∀a,a<M->cC y left n bL Rh a=ab)/\(∀a,U<=a->a<H->cC y left n bL Rh a=ax)/\U-M<=H-d) ?_ _ 0 _ _ _ ?_ ⟨rfl,rfl,_,_,rfl,z⟩
   ·rintro d h q T ⟨r,t,M,U,rfl,k,l,j,o,B⟩;rw[r,t];dsimp only;by_cases w:M >= U
    ·rw[aB w];apply bc;dsimp only;have c:M=U:=⋯
     subst c;exact bc (e M l j o)
    ·rw[aD w];have C:M<=M+(U-M)/2:=⋯
     have E:M+(U-M)/2<U:=⋯
     generalize M+(U-M)/2=mid at C E ⊢;refine bf (ask mid ⋯ _ ?_);dsimp only;cases u:cC y left n bL Rh mid with
     |true=>
      rw[aB rfl];exact bc ⟨rfl,rfl,mid+1,U,rfl,⋯,l,λa N=>mono a mid ⋯ ⋯ u,o,⋯⟩
     |false=>
      rw[aD c_];refine bc ⟨rfl,rfl,M,mid,rfl,⋯,⋯,j,λa g f=>?_,⋯⟩;cases x:cC y left n bL Rh a with
      |false=>rfl
      |true=>rw[mono mid a g f x]at u;cases u
   ·rintro h q T ⟨r,t,M,U,rfl,k,l,j,o,B⟩;rw[r,t];dsimp only;have c:M=U:=⋯
    subst c;exact bc (e M l j o)
 |false=>
  rw[aD c_];apply bf;apply fm;have G:∀last i,last<i->last<=b->cC y left n bL Rh (b-last)=ax->(i >= b+1\/cC y left n bL Rh (b-i)=ab)->
    b+1-min i (b+1)<=b-last/\b-last<=H/\(∀a,a<b+1-min i (b+1)->cC y left n bL Rh a=ab)/\(∀a,b-last<=a->a<H->cC y left n bL Rh a=ax)/\b-last-(b+1-min i (b+1))<=H-0:=λlast i a2 ap P F=>by
   refine⟨⋯,⋯,λa U=>?_,λa k l=>?_,⋯⟩
   ·rcases F with F|F
    ·lia
    ·exact mono a (b-i) ⋯ ⋯ F
   ·cases x:cC y left n bL Rh a with
    |false=>rfl
    |true=>rw[mono (b-last) a ⋯ l x]at P;cases P
  refine fZ (λd h q T=>q=J/\T=m/\∃last i,h=(X,last,i)/\last<i/\d<i/\last<=b/\cC y left n bL Rh (b-last)=ax) ?_ _ 0 _ _ _ ?_ ⟨rfl,rfl,0,1,rfl,⋯,⋯,⋯,an⟩
  ·rintro d h q T ⟨r,t,last,i,rfl,k,l,j,o⟩;rw[r,t];dsimp only;by_cases I:i >= b+1
   ·rw[aB I];apply bc;dsimp only;have z:=G last i k j o (.inl I);apply bf;apply fm;refine fZ (λd h q T=>q=J/\T=m/\∃M U,h=(X,M,U)/\M<=U/\U<=H/\(∀a,a<M->cC y left n bL Rh a=ab)/\(∀a,U<=a->a<H->cC y left n bL Rh a=ax)/\U-M<=H-d) ?_ _ 0 _ _ _ ?_ ⟨rfl,rfl,_,_,rfl,z⟩
    ·rintro d h q T ⟨r,t,M,U,rfl,k,l,j,o,B⟩;rw[r,t];dsimp only;by_cases w:M >= U
     ·rw[aB w];apply bc;dsimp only;have c:M=U:=⋯
      subst c;exact bc (e M l j o)
     ·rw[aD w];have C:M<=M+(U-M)/2:=⋯
      have E:M+(U-M)/2<U:=⋯
      generalize M+(U-M)/2=mid at C E ⊢;refine bf (ask mid ⋯ _ ?_);dsimp only;cases u:cC y left n bL Rh mid with
      |true=>
       rw[aB rfl];exact bc ⟨rfl,rfl,mid+1,U,rfl,⋯,l,λa N=>mono a mid ⋯ ⋯ u,o,⋯⟩
      |false=>
       rw[aD c_];refine bc ⟨rfl,rfl,M,mid,rfl,⋯,⋯,j,λa g f=>?_,⋯⟩;cases x:cC y left n bL Rh a with
       |false=>rfl
       |true=>rw[mono mid a g f x]at u;cases u
    ·rintro h q T ⟨r,t,M,U,rfl,k,l,j,o,B⟩;rw[r,t];dsimp only;have c:M=U:=⋯
     subst c;exact bc (e M l j o)
   ·rw[aD I];refine bf (ask (b-i) ⋯ _ ?_);dsimp only;cases u:cC y left n bL Rh (b-i) with
    |false=>
     rw[aD c_];exact bc ⟨rfl,rfl,i,2*i+1,rfl,⋯,⋯,⋯,u⟩
    |true=>
     rw[aB rfl];apply bc;dsimp only;have z:=G last i k j o (.inr u);apply bf;apply fm;refine fZ (λd h q T=>q=J/\T=m/\∃M U,h=(X,M,U)/\M<=U/\U<=H/\(∀a,a<M->cC y left n bL Rh a=ab)/\(∀a,U<=a->a<H->cC y left n bL Rh a=ax)/\U-M<=H-d) ?_ _ 0 _ _ _ ?_ ⟨rfl,rfl,_,_,rfl,z⟩
     ·rintro d h q T ⟨r,t,M,U,rfl,k,l,j,o,B⟩;rw[r,t];dsimp only;by_cases w:M >= U
      ·rw[aB w];apply bc;dsimp only;have c:M=U:=⋯
       subst c;exact bc (e M l j o)
      ·rw[aD w];have C:M<=M+(U-M)/2:=⋯
       have E:M+(U-M)/2<U:=⋯
       generalize M+(U-M)/2=mid at C E ⊢;refine bf (ask mid ⋯ _ ?_);dsimp only;cases u:cC y left n bL Rh mid with
       |true=>
        rw[aB rfl];exact bc ⟨rfl,rfl,mid+1,U,rfl,⋯,l,λa N=>mono a mid ⋯ ⋯ u,o,⋯⟩
       |false=>
        rw[aD c_];refine bc ⟨rfl,rfl,M,mid,rfl,⋯,⋯,j,λa g f=>?_,⋯⟩;cases x:cC y left n bL Rh a with
        |false=>rfl
        |true=>rw[mono mid a g f x]at u;cases u
     ·rintro h q T ⟨r,t,M,U,rfl,k,l,j,o,B⟩;rw[r,t];dsimp only;have c:M=U:=⋯
      subst c;exact bc (e M l j o)
  ·rintro h q T ⟨r,t,last,i,rfl,k,l,j,o⟩;rw[r,t];dsimp only;have z:=G last i k j o (.inl ⋯);apply bf;apply fm;refine fZ (λd h q T=>q=J/\T=m/\∃M U,h=(X,M,U)/\M<=U/\U<=H/\(∀a,a<M->cC y left n bL Rh a=ab)/\(∀a,U<=a->a<H->cC y left n bL Rh a=ax)/\U-M<=H-d) ?_ _ 0 _ _ _ ?_ ⟨rfl,rfl,_,_,rfl,z⟩
   ·rintro d h q T ⟨r,t,M,U,rfl,k,l,j,o,B⟩;rw[r,t];dsimp only;by_cases w:M >= U
    ·rw[aB w];apply bc;dsimp only;have c:M=U:=⋯
     subst c;exact bc (e M l j o)
    ·rw[aD w];have C:M<=M+(U-M)/2:=⋯
     have E:M+(U-M)/2<U:=⋯
     generalize M+(U-M)/2=mid at C E ⊢;refine bf (ask mid ⋯ _ ?_);dsimp only;cases u:cC y left n bL Rh mid with
     |true=>
      rw[aB rfl];exact bc ⟨rfl,rfl,mid+1,U,rfl,⋯,l,λa N=>mono a mid ⋯ ⋯ u,o,⋯⟩
     |false=>
      rw[aD c_];refine bc ⟨rfl,rfl,M,mid,rfl,⋯,⋯,j,λa g f=>?_,⋯⟩;cases x:cC y left n bL Rh a with
      |false=>rfl
      |true=>rw[mono mid a g f x]at u;cases u
   ·rintro h q T ⟨r,t,M,U,rfl,k,l,j,o,B⟩;rw[r,t];dsimp only;have c:M=U:=⋯
    subst c;exact bc (e M l j o)
end
section
variable{y:Nat->Int}
def cb(y:Nat->Int)(C:List Nat):Prop:=(C.Pairwise λd i=>y d<=y i)
structure NT(y:Nat->Int)(t q:List Nat)(b:List Nat)(x E:Nat):Prop where
 perm:b.Perm (t.take x++q.take E)
 aM:cb y (b++t.drop x)
 cy:cb y (b++q.drop E)
 bL:x+1<t.length
 jh:E<q.length
variable{C H:List Nat}
def eZ:cb y (C++H)↔cb y C/\cb y H/\∀d∈C,∀i∈H,y d<=y i:=List.pairwise_append
def oM(C:List Nat)(a n:Nat):C.take a++(C.drop a).take n=C.take (a+n):=by rw[List.take_add]
variable{t q b:List Nat}{x E:Nat}
def sI(n:Nat)(perm:b.Perm (t.take x++q.take E))(aM:cb y (b++t.drop x))(cy:cb y (b++q.drop E))(e:∀d∈(t.drop x).take n,∀i∈q.drop E,y d<=y i):
  (b++(t.drop x).take n).Perm (t.take (x+n)++q.take E)/\cb y (b++(t.drop x).take n++t.drop (x+n))/\cb y (b++(t.drop x).take n++q.drop E):=by
 refine⟨?_,?_,?_⟩
 ·rw[<-oM t x n];refine (perm.append_right _).trans ?_;rw[a_,a_];exact dI _ c2
 ·rw[a_,<-ni,fD];exact aM
 ·rw[a_];have c:=eZ.mp aM;have f:=eZ.mp cy;refine eZ.mpr ⟨c.1,eZ.mpr ⟨c.2.1.sublist<|si _ _,f.2.1,e⟩,λd g i a=>?_⟩;rcases dY.mp a with a|a
  ·exact c.2.2 d g i (oR a)
  ·exact f.2.2 d g i a
def yq(n:Nat)(perm:b.Perm (t.take x++q.take E))(aM:cb y (b++t.drop x))(cy:cb y (b++q.drop E))(e:∀d∈(q.drop E).take n,∀i∈t.drop x,y d<=y i):
  (b++(q.drop E).take n).Perm (t.take x++q.take (E+n))/\cb y (b++(q.drop E).take n++t.drop x)/\cb y (b++(q.drop E).take n++q.drop (E+n)):=by
 have:=sI (t:=q) (q:=t) n (perm.trans c2) cy aM e;exact⟨this.1.trans c2,this.2.2,this.2.1⟩
variable{a:Nat}
def jy(e:a<C.length):(C.drop a).take 1=[C.getD a 0]:=by
 rw[ix e,cD,fj e];rfl
variable{i:Nat}
def ja(e:i∈C.drop a):∃v,a<=v/\v<C.length/\i=C.getD v 0:=by
 let⟨v,b,c⟩:=w6.mp e;have d:=b;rw[f5]at d;exact⟨a+v,⋯,⋯,by rw[<-c,r5];simp[List.getD,show a+v<C.length by lia]⟩
variable{n:Nat}
def oP(e:i∈(C.drop a).take n):∃v,v<n/\a+v<C.length/\i=C.getD (a+v) 0:=by
 let⟨v,b,c⟩:=w6.mp e;have d:=b;rw[hB,f5]at d;exact⟨v,by omega,by omega,by rw[<-c,wi,r5];simp[List.getD,show a+v<C.length by omega]⟩
def mG(e:cb y C){a v:Nat}(c:a<=v)(b:v<C.length):y (C.getD a 0)<=y (C.getD v 0):=by
 rcases Nat.lt_or_eq_of_le c with d|rfl
 ·have:=oF.mp e a v ⋯ b d;simpa [List.getD,b,show a<C.length by lia] using this
 ·exact j9 _
theorem AH(e:cb y (C++H)):cb y H:=(eZ.mp e).2.1
def nQ{v:Nat}(e:cb y (b++C.drop a))(c:a<=v)(d:v<=n)(f:n<C.length):y (C.getD v 0)<=y (C.getD n 0):=by
 have:=mG (AH e) (a:=v-a) (v:=n-a) ⋯ (by rw[f5];lia);simpa [List.getD,ml,show a+(v-a)=v by lia,show a+(n-a)=n by lia] using this
def fW(y:Nat->Int)(ao:Array bb)(t q:List Nat)(out:Array bb):Prop:=(∃b:List Nat,out=(b.map<|ba ao).toArray/\b.Perm (t++q)/\cb y b)
def pI{ao:Array bb}(perm:b.Perm (t.take x++q.take E))(aM:cb y (b++t.drop x))(cy:cb y (b++q.drop E))(a:E=q.length\/x=t.length):
  fW y ao t q ((b.map<|ba ao).toArray++(t.map<|ba ao).toArray.extract x (t.map<|ba ao).toArray.size++(q.map<|ba ao).toArray.extract E (q.map<|ba ao).toArray.size):=by
 refine⟨b++t.drop x++q.drop E,?_,?_,?_⟩
 ·apply kC;simp[kM,pL]
 ·rw[a_];refine (perm.append_right _).trans ?_;have:(t.take x++q.take E++(t.drop x++q.drop E)).Perm ((t.take x++t.drop x)++(q.take E++q.drop E)):=by
   rw[a_,a_];refine dI _ ?_;rw[<-a_,<-a_];exact eB _ c2
  rw[fD,fD]at this;exact this
 ·rcases a with c|c
  ·rw[c,uO,b5];exact aM
  ·rw[c,uO,b5];exact cy
def se{ao:Array bb}(perm:b.Perm (t.take x++q.take E))(aM:cb y (b++t.drop x))(cy:cb y (b++q.drop E))(e:x+1=t.length)(d8:∀d∈q,y d<=y (t.getD (t.length-1) 0)):
  fW y ao t q ((b.map<|ba ao).toArray++(q.map<|ba ao).toArray.extract E (q.map<|ba ao).toArray.size++(t.map<|ba ao).toArray.extract x (t.map<|ba ao).toArray.size):=by
 refine⟨b++q.drop E++t.drop x,?_,?_,?_⟩
 ·apply kC;simp[kM,pL]
 ·rw[a_];refine (perm.append_right _).trans ?_;have:(t.take x++q.take E++(q.drop E++t.drop x)).Perm ((t.take x++t.drop x)++(q.take E++q.drop E)):=by
   rw[a_,a_];refine dI _ ?_;rw[<-a_];exact c2
  rw[fD,fD]at this;exact this
 ·refine eZ.mpr ⟨cy,AH aM,λd a i c=>?_⟩;rcases dY.mp a with a|a
  ·exact (eZ.mp aM).2.2 d a i c
  ·let⟨@v,k,l,rfl⟩:=ja c;have:v=t.length-1:=⋯
   rw[this];exact d8 d (nr a)
end
section
variable{Q_:bz}{D:bg}{O:bp}{Q7:af->aq->Prop}{Rx:fT}{ao:Array bb}{y:Nat->Int}{s:Nat}{m:aq}
def Ep:Array bb->Array bb->StateT bt dy (Array bb):=(sortPriv% PySem.Builtin.mergeLo)
structure c8(l J:bt):Prop where
 k:kindOf J=kindOf l
 a:arrOf J=arrOf l
 p:g8 J=g8 l
 f:hj J=hj l
def c8.refl(J:bt):c8 J J:=⟨rfl,rfl,rfl,rfl⟩
def hk{w Ry:Type}{az:gy}{H:StateT w dy Ry}{A a:Ry->w->aq->Prop}{J:w}{T:aq}(e:kasC az O Q7 H a J T)(L:∀g J T,a g J T->A g J T):kasC az O Q7 H A J T:=
 fY e (λp T d=>L p.1 p.2 T d) λ_ Y c=>c
variable{C:List Nat}
def fz{a:Nat}(U:a<C.length){J:bt}{A:bb->bt->aq->Prop}(e:A (ba ao<|C.getD a 0) J m):kasC (aQ Q_ D) O Q7 (elem' (C.map<|ba ao).toArray a) A J m:=by
 rw[rK,show ((C.map<|ba ao).toArray)[a]?=Z (ba ao<|C.getD a 0) by simp[List.getD,U]];exact bc e
def iL(b:∀d∈C,d<s){a:Nat}(U:a<C.length):C.getD a 0<s:=by
 rw[cD,fj U];exact b _ (F8 U)
def kW(C:List Nat)(a:Nat):C.toArray.getD a 0=C.getD a 0:=by simp[Array.getD,List.getD];split<;>simp_all
def v_(c:fk s y (eQ Q_ D O Rx ao) m){n:Nat}(h:n<s){C:List Nat}(i:∀d∈C,d<s){Rh H b:Nat}(j:Rh+H<=C.length)(o:b<H)(mono:∀a v,Rh<=a->a<=v->v<Rh+H->y (C.getD a 0)<=y (C.getD v 0)){J:bt}(q:kindOf J=Rx){A:Option Nat->bt->aq->Prop}(e:∀p,p<=H->(∀a,Rh<=a->a<Rh+p->y (C.getD a 0)<=y n)->(∀a,Rh+p<=a->a<Rh+H->y n<y (C.getD a 0))->A (Z p) J m):
  kasC (aQ Q_ D) O Q7 (n7 ax (ba ao n) (C.map<|ba ao).toArray Rh H b) A J m:=by
 rw[<-Gv];refine EF c h (λa U=>by rw[kW];exact iL i ⇑U) ⇑j o (λa v u w r=>?_) q λp t g f=>e p t (λa k l=>?_) (λa k l=>?_)
 ·simp only[cC,kW,ij,eL,sS,vP,vj]at r ⊢;have:=mono (Rh+a) (Rh+v) ⋯ ⋯ ⋯;lia
 ·have:=g (a-Rh) ⋯;simp only[cC,kW,ij,eL,sS,vP,vj]at this
  rwa [show Rh+(a-Rh)=a by lia]at this
 ·have:=f (a-Rh) ⋯ ⋯;simp only[cC,kW,ij,eL,Bool.not_eq_false',x5]at this
  rwa [show Rh+(a-Rh)=a by lia]at this
def wV(c:fk s y (eQ Q_ D O Rx ao) m){n:Nat}(h:n<s){C:List Nat}(i:∀d∈C,d<s){Rh H b:Nat}(j:Rh+H<=C.length)(o:b<H)(mono:∀a v,Rh<=a->a<=v->v<Rh+H->y (C.getD a 0)<=y (C.getD v 0)){J:bt}(q:kindOf J=Rx){A:Option Nat->bt->aq->Prop}(e:∀p,p<=H->(∀a,Rh<=a->a<Rh+p->y (C.getD a 0)<y n)->(∀a,Rh+p<=a->a<Rh+H->y n<=y (C.getD a 0))->A (Z p) J m):
  kasC (aQ Q_ D) O Q7 (n7 ab (ba ao n) (C.map<|ba ao).toArray Rh H b) A J m:=by
 rw[<-Gv];refine EF c h (λa U=>by rw[kW];exact iL i ⇑U) ⇑j o (λa v u w r=>?_) q λp t g f=>e p t (λa k l=>?_) (λa k l=>?_)
 ·simp only[cC,kW,e8,x5]at r ⊢;have:=mono (Rh+a) (Rh+v) ⋯ ⋯ ⋯;lia
 ·have:=g (a-Rh) ⋯;simp only[cC,kW,e8,x5]at this
  rwa [show Rh+(a-Rh)=a by lia]at this
 ·have:=f (a-Rh) ⋯ ⋯;simp only[cC,kW,e8,vP,vj]at this
  rwa [show Rh+(a-Rh)=a by lia]at this
def oW(b:List Nat)(i:Nat):(b.map<|ba ao).toArray.push (ba ao i)=((b++[i]).map<|ba ao).toArray:=by simp
def BG(b C:List Nat)(a n:Nat):(b.map<|ba ao).toArray++(C.map<|ba ao).toArray.extract a (a+n)=((b++(C.drop a).take n).map<|ba ao).toArray:=by
 apply kC;simp[kM,kN,qu]
end
section
variable{Q_:bz}{D:bg}{O:bp}{Q7:af->aq->Prop}{Rx:fT}{ao:Array bb}{y:Nat->Int}{s:Nat}{m:aq}
def gX(y:Nat->Int)(ao:Array bb)(t q:List Nat)(out:Array bb)(x E:Nat):Prop:=(∃b:List Nat,out=(b.map<|ba ao).toArray/\NT y t q b x E)
variable{w Ry:Type}
def FG{az:gy}{O:bp}{Q7:af->aq->Prop}{h:Nat->Prop}{b:∀L,Decidable (h L)}{g Ri:Nat->StateT w dy Ry}{A:Ry->w->aq->Prop}{J:w}{m:aq}(d:Nat->Nat)(a:∀L,g L=Ri (d L))(j:∀L,kasC az O Q7 (Ri L) A J m):∀L,kasC az O Q7 (if h L then g L else Ri L) A J m:=by
 intro L;rw[a];split
 ·exact j _
 ·exact j _
variable{h:Prop}
def ui{az:gy}{O:bp}{Q7:af->aq->Prop}{i:Decidable h}{b R1:Array bb->Nat->StateT w dy Ry}{A:Ry->w->aq->Prop}{J:w}{m:aq}(c d:Array bb->Nat->Prop)(j:∀Y a,d Y a->kasC az O Q7 (R1 Y a) A J m)(f:¬ h->∀Y a,c Y a->d Y a)(g:(∀Y a,d Y a->kasC az O Q7 (R1 Y a) A J m)->h->∀Y a,c Y a->kasC az O Q7 (b Y a) A J m):∀Y a,c Y a->kasC az O Q7 (if h then b Y a else R1 Y a) A J m:=λY a o=>
 if e:h then by rw[aB e];exact g j e Y a o else by rw[aD e];exact j Y a (f e Y a o)
def Fb{az:gy}{O:bp}{Q7:af->aq->Prop}{N:bt->bt}{A:PUnit->bt->aq->Prop}{l J:bt}{m:aq}(b:c8 l (N J))(e:∀a,c8 l a->A ⟨⟩ a m):kasC az O Q7 (modify N:StateT bt dy PUnit) A J m:=ky (e _ b)
def pS(y:Nat->Int)(ao:Array bb)(t q:List Nat)(J:bt)(m:aq): Option (Array bb)×Array bb×Nat×Nat×Nat->bt->aq->Prop:=(λh b T=>m=T/\c8 J b/\∃a o r p L,h=(Z a,o,r,p,L)/\fW y ao t q a)
def ph(y:Nat->Int)(ao:Array bb)(t q:List Nat)(J:bt)(m:aq)(d:Nat):Option (Array bb)×Array bb×Nat×Nat×Nat->bt->aq->Prop:=(λh a T=>m=T/\c8 J a/\∃Y x E L,h=(X,Y,x,E,L)/\gX y ao t q Y x E/\d+1<=x+E)
def kc(y:Nat->Int)(ao:Array bb)(t q:List Nat)(J:bt)(m:aq)(d:Nat):Option (Array bb)×Array bb×Nat×Nat×Nat×Nat->bt->aq->Prop:=(λh c T=>m=T/\c8 J c/\((∃b o r p ac a,h=(Z b,o,r,p,ac,a)/\fW y ao t q b)\/∃Y x E ac a,h=(X,Y,x,E,ac,a)/\gX y ao t q Y x E/\d+2<=x+E))
def oL(y:Nat->Int)(ao:Array bb)(t q:List Nat)(J:bt)(m:aq)(d i:Nat):Option (Array bb)×Array bb×Nat×Nat×Nat×Nat->bt->aq->Prop:=(λh a T=>m=T/\c8 J a/\∃Y x E ac b,h=(X,Y,x,E,ac,b)/\gX y ao t q Y x E/\d+1+i<=x+E)
def iW(y:Nat->Int)(ao:Array bb)(t q:List Nat)(J:bt)(m:aq)(d:Nat):Option (Array bb)×Array bb×Nat×Nat×Nat×Nat×Nat->bt->aq->Prop:=(λh c T=>m=T/\c8 J c/\((∃b o r p L ac a,h=(Z b,o,r,p,L,ac,a)/\fW y ao t q b)\/∃Y x E L ac a,h=(X,Y,x,E,L,ac,a)/\gX y ao t q Y x E/\d+2<=x+E))
def qn(y:Nat->Int)(ao:Array bb)(t q:List Nat)(J:bt)(m:aq)(d i:Nat):Option (Array bb)×Array bb×Nat×Nat×Nat×Nat×Nat->bt->aq->Prop:=(λh a T=>m=T/\c8 J a/\∃Y x E L ac b,h=(X,Y,x,E,L,ac,b)/\gX y ao t q Y x E/\d+2<=x+E)
def pS.a{y:Nat->Int}{ao:Array bb}{t q:List Nat}{J b:bt}{m:aq}{out:Array bb}{o:Array bb}{r p:Nat}{L:Nat}(e:c8 J b)(H:fW y ao t q out):pS y ao t q J m (Z out,o,r,p,L) b m:=⟨rfl,e,_,_,_,_,_,rfl,H⟩
def ph.k{y:Nat->Int}{ao:Array bb}{t q:List Nat}{J a:bt}{m:aq}{d:Nat}{Y:Array bb}{x E:Nat}{L:Nat}(e:c8 J a)(v:gX y ao t q Y x E)(c:d+1<=x+E):ph y ao t q J m d (X,Y,x,E,L) a m:=⟨rfl,e,_,_,_,_,rfl,v,c⟩
def kc.a{y:Nat->Int}{ao:Array bb}{t q:List Nat}{J b:bt}{m:aq}{d:Nat}{out:Array bb}{o:Array bb}{r p:Nat}{L c:Nat}(e:c8 J b)(H:fW y ao t q out):kc y ao t q J m d (Z out,o,r,p,L,c) b m:=⟨rfl,e,.inl ⟨_,_,_,_,_,_,rfl,H⟩⟩
def kc.b{y:Nat->Int}{ao:Array bb}{t q:List Nat}{J a:bt}{m:aq}{d:Nat}{Y:Array bb}{x E:Nat}{L g:Nat}(e:c8 J a)(v:gX y ao t q Y x E)(c:d+2<=x+E):kc y ao t q J m d (X,Y,x,E,L,g) a m:=⟨rfl,e,.inr ⟨_,_,_,_,_,rfl,v,c⟩⟩
def oL.k{y:Nat->Int}{ao:Array bb}{t q:List Nat}{J a:bt}{m:aq}{d i:Nat}{Y:Array bb}{x E:Nat}{L b:Nat}(e:c8 J a)(v:gX y ao t q Y x E)(c:d+1+i<=x+E):oL y ao t q J m d i (X,Y,x,E,L,b) a m:=⟨rfl,e,_,_,_,_,_,rfl,v,c⟩
def iW.a{y:Nat->Int}{ao:Array bb}{t q:List Nat}{J b:bt}{m:aq}{d:Nat}{out:Array bb}{o:Array bb}{r p:Nat}{L c f:Nat}(e:c8 J b)(H:fW y ao t q out):iW y ao t q J m d (Z out,o,r,p,L,c,f) b m:=⟨rfl,e,.inl ⟨_,_,_,_,_,_,_,rfl,H⟩⟩
def iW.b{y:Nat->Int}{ao:Array bb}{t q:List Nat}{J a:bt}{m:aq}{d:Nat}{Y:Array bb}{x E:Nat}{L g h:Nat}(e:c8 J a)(v:gX y ao t q Y x E)(c:d+2<=x+E):iW y ao t q J m d (X,Y,x,E,L,g,h) a m:=⟨rfl,e,.inr ⟨_,_,_,_,_,_,rfl,v,c⟩⟩
def qn.k{y:Nat->Int}{ao:Array bb}{t q:List Nat}{J a:bt}{m:aq}{d i:Nat}{Y:Array bb}{x E:Nat}{L b f:Nat}(e:c8 J a)(v:gX y ao t q Y x E)(c:d+2<=x+E):qn y ao t q J m d i (X,Y,x,E,L,b,f) a m:=⟨rfl,e,_,_,_,_,_,_,rfl,v,c⟩
def Po{g f:Nat}(e:g=f):(g==f)=ab:=by simp[e]
def Mu{g f:Nat}(e:¬ g=f):¬ (g==f)=ab:=by simp[e]
def kT{az:gy}{O:bp}{Q7:af->aq->Prop}{g:Nat}{C:List Nat}{d i:StateT w dy Ry}{A:Ry->w->aq->Prop}{J:w}{m:aq}(a:g=C.length->kasC az O Q7 d A J m)(b:¬ g=C.length->kasC az O Q7 i A J m):kasC az O Q7 (if (g==(List.map (ba ao) C).toArray.size)=ab then d else i) A J m:=by
 rw[show (List.map (ba ao) C).toArray.size=C.length by simp];by_cases e:g=C.length
 ·rw[aB (Po e)];exact a e
 ·rw[aD (Mu e)];exact b e
def la{az:gy}{O:bp}{Q7:af->aq->Prop}{c:Decidable h}{d i:StateT w dy Ry}{A:Ry->w->aq->Prop}{J:w}{m:aq}(a:h->kasC az O Q7 d A J m)(b:¬ h->kasC az O Q7 i A J m):kasC az O Q7 (if h then d else i) A J m:=if e:h then by rw[aB e];exact a e else by rw[aD e];exact b e
def Mf(b:fk s y (eQ Q_ D O Rx ao) m){n:Nat}(c:n<s){C:List Nat}(i:∀d∈C,d<s){Rh:Nat}(q:Rh<C.length)(mono:∀a v,Rh<=a->a<=v->v<C.length->y (C.getD a 0)<=y (C.getD v 0)){J:bt}(j:kindOf J=Rx){A:Option Nat->bt->aq->Prop}(e:∀p,Rh+p<=C.length->(∀a,Rh<=a->a<Rh+p->y (C.getD a 0)<=y n)->(∀a,Rh+p<=a->a<C.length->y n<y (C.getD a 0))->A (Z p) J m):
  kasC (aQ Q_ D) O Q7 (n7 ax (ba ao n) (C.map<|ba ao).toArray Rh ((C.map<|ba ao).toArray.size-Rh) 0) A J m:=by
 rw[show (C.map<|ba ao).toArray.size=C.length by simp];exact v_ b c i ⋯ ⋯ (λa v g f h=>mono a v g f ⋯) j λp k l o=>e p ⋯ l λa g f=>o a g ⋯
def KD(b:fk s y (eQ Q_ D O Rx ao) m){n:Nat}(c:n<s){C:List Nat}(i:∀d∈C,d<s){Rh:Nat}(q:Rh<C.length)(mono:∀a v,Rh<=a->a<=v->v<C.length->y (C.getD a 0)<=y (C.getD v 0)){J:bt}(j:kindOf J=Rx){A:Option Nat->bt->aq->Prop}(e:∀p,Rh+p<=C.length->(∀a,Rh<=a->a<Rh+p->y (C.getD a 0)<y n)->(∀a,Rh+p<=a->a<C.length->y n<=y (C.getD a 0))->A (Z p) J m):
  kasC (aQ Q_ D) O Q7 (n7 ab (ba ao n) (C.map<|ba ao).toArray Rh ((C.map<|ba ao).toArray.size-Rh) 0) A J m:=by
 rw[show (C.map<|ba ao).toArray.size=C.length by simp];exact wV b c i ⋯ ⋯ (λa v g f h=>mono a v g f ⋯) j λp k l o=>e p ⋯ l λa g f=>o a g ⋯
def K3(bi:fk s y (eQ Q_ D O Rx ao) m){t q:List Nat}(bm:∀d∈t,d<s)(bn:∀d∈q,d<s)(fn:cb y t)(fr:cb y q)(hw:0<t.length)(k:0<q.length)(first:∀d∈t,y (q.getD 0 0)<=y d)(d8:∀d∈q,y d<=y (t.getD (t.length-1) 0)){J:bt}(ci:kindOf J=Rx){A:Array bb->bt->aq->Prop}(e:∀out F,fW y ao t q out->c8 J F->A out F m):
  kasC (aQ Q_ D) O Q7 (Ep (t.map<|ba ao).toArray (q.map<|ba ao).toArray) A J m:=by
 have bs:[q.getD 0 0].Perm (t.take 0++q.take 1):=by
  have:=jy (C:=q) (a:=0) k;simp only[j6]at this;rw[this];exact List.Perm.refl _
 have bv:cb y ([q.getD 0 0]++q.drop 1):=by
  have:=jy (C:=q) (a:=0) k;simp only[j6]at this;rw[<-this,fD];exact fr
 have ca:cb y ([q.getD 0 0]++t.drop 0):=eZ.mpr ⟨e3 _ _,by rw[j6];exact fn,λd r i u=>by
  rw[cV.mp r];exact first i (by rwa [j6]at u)⟩
 have h0:(List.map (ba ao) t).toArray.size=t.length:=by simp
 have ii:(List.map (ba ao) q).toArray.size=q.length:=by simp
 unfold Ep;with_unfolding_all refine bf (nh<|ir ?_);refine bf (fz k ?_);refine kT (λcl=>bc<|e _ _ (pI bs ca bv<|.inl cl)<|c8.refl J) λcl=>?_;refine kT (λco=>bc<|e _ _ (se bs ca bv co d8)<|c8.refl J) λco=>?_;refine bf (jF ?_);refine bf (hk (a:=pS y ao t q J m) (fm (fZ (ph y ao t q J m) ?step _ 0 _ _ _ ?fin (ph.k (c8.refl J) ⟨_,rfl,bs,ca,bv,⋯,⋯⟩ ⋯))) ?after)
 case after=>
  rintro h F T ⟨rfl,c,cs,Y,x,E,L,rfl,an⟩;exact bc (e _ _ an c)
 case fin=>
  rintro h F T ⟨rfl,c,Y,x,E,L,rfl,⟨b,rfl,H⟩,r⟩;have:=H.bL;have:=H.jh;lia
 case step=>
  rintro d h F T ⟨rfl,c,Y,x,E,L,rfl,G,r⟩;refine bf (hk (a:=kc y ao t q J m d)
   (fm (fZ (oL y ao t q J m d) ?f0 _ 0 _ _ _ ?f4 (oL.k c G ⋯))) ?f8)
  case f4=>
   rintro h F T ⟨rfl,c,Y,x,E,ac,S,rfl,G,r⟩;exact kc.b c G ⋯
  case f0=>
   rintro i h F T ⟨rfl,c,Y,x,E,ac,S,rfl,⟨b,rfl,H⟩,r⟩;have ap:=H.bL;have w:=H.jh;have bd:kindOf F=Rx:=c.k.trans ci;have z:x<t.length:=⋯
   have dp:y (q.getD E 0)<y (t.getD x 0)->(b++[q.getD E 0]).Perm (t.take x++q.take (E+1))/\cb y (b++[q.getD E 0]++t.drop x)/\cb y (b++[q.getD E 0]++q.drop (E+1)):=λas=>by
    have:=yq 1 H.perm H.aM H.cy (λd r i u=>by
     rw[jy w,cV]at r;let⟨@v,I,U,rfl⟩:=ja u;have:=nQ H.aM (bD _) I U;rw[r];lia)
    rwa [jy w]at this
   have dC:¬ y (q.getD E 0)<y (t.getD x 0)->(b++[t.getD x 0]).Perm (t.take (x+1)++q.take E)/\cb y (b++[t.getD x 0]++t.drop (x+1))/\cb y (b++[t.getD x 0]++q.drop E):=λas=>by
    have:=sI 1 H.perm H.aM H.cy (λd r i u=>by
     rw[jy z,cV]at r;let⟨@v,I,U,rfl⟩:=ja u;have:=nQ H.cy (bD _) I U;rw[r];lia)
    rwa [jy z]at this
   refine bf (fz w<|bf<|fz z<|bf<|qp bi (iL bn w) (iL bm z) bd ?_);refine la (λas=>?_) λas=>?_
   ·have f:=dp ⇑as;refine bf (fz w (kT (λaN=>bc (kc.a c (by rw[oW];exact pI f.1 f.2.1 f.2.2 (.inl aN)))) λaN=>?_));have Q:gX y ao t q ((b.map<|ba ao).toArray.push<|ba ao<|q.getD E 0) x (E+1):=⟨_,oW _ _,f.1,f.2.1,f.2.2,ap,⋯⟩;exact la (λ_=>bc (kc.b c Q ⋯)) λ_=>bc (oL.k c Q ⋯)
   ·have f:=dC ⇑as;refine bf (fz z (kT (λaN=>bc (kc.a c (by rw[oW];exact se f.1 f.2.1 f.2.2 aN d8))) λaN=>?_));have Q:gX y ao t q ((b.map<|ba ao).toArray.push<|ba ao<|t.getD x 0) (x+1) E:=⟨_,oW _ _,f.1,f.2.1,f.2.2,⋯,w⟩;exact la (λ_=>bc (kc.b c Q ⋯)) λ_=>bc (oL.k c Q ⋯)
  case f8=>
   rintro h F T ⟨rfl,c,⟨cs,Y,x,E,ac,S,rfl,an⟩|⟨Y,x,E,ac,S,rfl,G,r⟩⟩
   ·exact bc (pS.a c an)
   ·refine bf (nh<|ir ?_);refine bf (hk (a:=iW y ao t q J m d)
     (fm (fZ (qn y ao t q J m d) ?ga _ 0 _ _ _ ?fin2 (qn.k c G ⋯))) ?ge)
    case fin2=>
     rintro h F T ⟨rfl,c,Y,x,E,L,ac,S,rfl,G,r⟩;exact iW.b c G ⋯
    case ge=>
     rintro h F T ⟨rfl,c,⟨cs,Y,x,E,L,ac,S,rfl,an⟩|⟨Y,x,E,L,ac,S,rfl,G,r⟩⟩
     ·exact bc (pS.a c an)
     ·refine bf (ky ?_);exact bc (ph.k ⟨c.k,c.a,c.p,c.f⟩ G ⋯)
    case ga=>
     rintro i h F T ⟨rfl,c,Y,x,E,L,ac,S,rfl,⟨b,db,H⟩,r⟩;have ap:=H.bL;have w:=H.jh;dsimp only;revert L;refine FG (λL=>L-1) ?z ?_
     case z=>exact λL=>rfl
     intro L;refine bf (Fb (l:=J) ⟨c.k,c.a,c.p,c.f⟩ λim R=>?_);have bd:=R.k.trans ci;refine bf (fz w ?_);refine bf (Mf bi (iL bn w) bm (show x<t.length by lia) (λa v g f h=>nQ H.aM g f h) bd ?_);intro n io gl ds;dsimp only;generalize a1:Y=M;generalize a2:x=a;have Ri:M=Y/\a=x:=⟨a1.symm,a2.symm⟩;clear a1 a2;revert M a;refine ui (λM a=>M=Y/\a=x) (λM a=>gX y ao t q M a E/\x<=a/\∀v,a<=v->v<t.length->y (q.getD E 0)<y (t.getD v 0)) ?Rb ?f1 ?go
     case f1=>
      rintro gt M a ⟨rfl,rfl⟩;exact⟨⟨b,db,H⟩,bD _,λv g f=>ds v ⋯ f⟩
     case go=>
      rintro j _ M a ⟨rfl,rfl⟩;try dsimp only
      have P:=sI n H.perm H.aM H.cy (λd r i u=>by
       let⟨@v,g1,I,rfl⟩:=oP r;let⟨@g2,cd,ce,rfl⟩:=ja u;have:=gl (a+v) ⋯ ⋯;have:=nQ H.cy (bD _) cd ce;lia)
      rw[db,BG];refine kT (λaN=>bc<|iW.a R<|se P.1 P.2.1 P.2.2 aN d8) λaN=>?_;refine kT (λdL=>bc<|iW.a R<|pI P.1 P.2.1 P.2.2<|.inr dL) λdL=>?_;exact j _ _ ⟨⟨_,rfl,P.1,P.2.1,P.2.2,⋯,w⟩,⋯,λv g f=>ds v g f⟩
     case Rb=>
      rintro M a ⟨⟨b,rfl,H⟩,le,g3⟩;have ap:=H.bL;try dsimp only
      refine bf (fz w ?_);have RR:=yq 1 H.perm H.aM H.cy (λd r i u=>by
       rw[jy w,cV]at r;let⟨@v,I,U,rfl⟩:=ja u;have:=g3 v I U;rw[r];lia)
      rw[jy w]at RR;rw[oW];refine kT (λeq=>bc<|iW.a R<|pI RR.1 RR.2.1 RR.2.2<|.inl eq) λeq=>?_;have z:a<t.length:=⋯
      refine bf (fz z ?_);refine bf (KD bi (iL bm z) bn (show E+1<q.length by lia) (λa v g f h=>nQ RR.2.2 g f h) bd ?_);intro RJ it hd ev;dsimp only;generalize b++[q.getD E 0]=ch at *;generalize jp:E+1=be at *;generalize a1:(List.map (ba ao) ch).toArray=M;generalize a2:be=v;have Ri:M=(List.map (ba ao) ch).toArray/\v=be:=⟨a1.symm,a2.symm⟩;clear a1 a2;revert M v;refine ui (λM v=>M=(List.map (ba ao) ch).toArray/\v=be) (λM v=>gX y ao t q M a v/\be<=v/\∀B,v<=B->B<q.length->y (t.getD a 0)<=y (q.getD B 0)) ?Ro ?f2 ?he
      case f2=>
       rintro gt M v ⟨rfl,rfl⟩;exact⟨⟨_,rfl,RR.1,RR.2.1,RR.2.2,ap,⋯⟩,bD _,λB g f=>ev B ⋯ f⟩
      case he=>
       rintro j _ M v ⟨rfl,rfl⟩;try dsimp only
       have am:=yq RJ RR.1 RR.2.1 RR.2.2 (λd r i u=>by
        let⟨@B,g1,I,rfl⟩:=oP r;let⟨@g2,cd,ce,rfl⟩:=ja u;have:=hd (v+B) ⋯ ⋯;have:=nQ RR.2.1 (bD _) cd ce;lia)
       rw[BG];refine kT (λex=>bc<|iW.a R<|pI am.1 am.2.1 am.2.2<|.inl ex) λex=>?_;exact j _ _ ⟨⟨_,rfl,am.1,am.2.1,am.2.2,ap,⋯⟩,⋯,λB g f=>ev B g f⟩
      case Ro=>
       rintro M v ⟨⟨b,rfl,H⟩,kt,hf⟩;have hm:=H.jh;try dsimp only
       refine bf (fz z ?_);have al:=sI 1 H.perm H.aM H.cy (λd r i u=>by
        rw[jy z,cV]at r;let⟨@B,I,U,rfl⟩:=ja u;rw[r];exact hf B I U)
       rw[jy z]at al;rw[oW];refine kT (λfd=>bc<|iW.a R<|se al.1 al.2.1 al.2.2 fd d8) λfd=>?_;have Q:gX y ao t q ((b++[t.getD a 0]).map<|ba ao).toArray (a+1) v:=⟨_,rfl,al.1,al.2.1,al.2.2,⋯,hm⟩;exact la (λ_=>bc (iW.b R Q ⋯)) λ_=>bc (qn.k R Q ⋯)
end
section
variable{Q_:bz}{D:bg}{O:bp}{Q7:af->aq->Prop}{Rx:fT}{ao:Array bb}{y:Nat->Int}{s:Nat}{m:aq}
def CH:Array bb->Array bb->StateT bt dy (Array bb):=(sortPriv% PySem.Builtin.mergeHi)
variable{C:List Nat}{a v:Nat}
def wC(b:a<=v)(d:v<=C.length):C.drop a=(C.take v).drop a++C.drop v:=by
 have c:C.drop a=(C.take v++C.drop v).drop a:=by rw[fD]
 rw[c,List.drop_append_of_le_length (by rw[hB];lia)]
def NS(b:a<=v):C.take a++(C.take v).drop a=C.take v:=by
 have:=fD a (C.take v)
 rwa [sk,q2 b]at this
variable{t q E:List Nat}{w z:Nat}
def rG(n:Nat)(f:n<=w)(h:w<=t.length)(perm:E.Perm (t.drop w++q.drop z))(aM:cb y (t.take w++E))(cy:cb y (q.take z++E))(e:∀d∈(t.take w).drop n,∀i∈q.take z,y i<=y d):
  ((t.take w).drop n++E).Perm (t.drop n++q.drop z)/\cb y (t.take n++((t.take w).drop n++E))/\cb y (q.take z++((t.take w).drop n++E)):=by
 refine⟨?_,?_,?_⟩
 ·rw[wC f h,a_];exact dI _ perm
 ·rw[<-a_,NS f];exact aM
 ·have g:=eZ.mp aM;have c:=eZ.mp cy;refine eZ.mpr ⟨c.1,eZ.mpr ⟨g.1.sublist<|xp _ _,c.2.1,λd b i a=>g.2.2 d (nr b) i a⟩,λd b i a=>?_⟩;rcases dY.mp a with a|a
  ·exact e i a d b
  ·exact c.2.2 d b i a
def xh(n:Nat)(a:n<=z)(b:z<=q.length)(perm:E.Perm (t.drop w++q.drop z))(aM:cb y (t.take w++E))(cy:cb y (q.take z++E))(e:∀d∈(q.take z).drop n,∀i∈t.take w,y i<=y d):
  ((q.take z).drop n++E).Perm (t.drop w++q.drop n)/\cb y (t.take w++((q.take z).drop n++E))/\cb y (q.take n++((q.take z).drop n++E)):=by
 have:=rG (t:=q) (q:=t) n a b (perm.trans c2) cy aM e;exact⟨this.1.trans c2,this.2.2,this.2.1⟩
def k_(b:0<a)(e:a<=C.length):(C.take a).drop (a-1)=[C.getD (a-1) 0]:=by
 rw[qu,show a-(a-1)=1 by lia];exact jy ⋯
variable{i:Nat}
def kF(e:i∈C.take a):∃v,v<a/\v<C.length/\i=C.getD v 0:=by
 have:=oP (a:=0) (n:=a) (i:=i) (C:=C) (by rwa [j6]);let⟨@v,g,f,c⟩:=this;exact⟨v,g,⋯,by rw[c];congr 1;lia⟩
variable{n:Nat}
def F9(e:i∈(C.take n).drop a):∃v,a<=v/\v<n/\v<C.length/\i=C.getD v 0:=by
 rw[qu]at e;let⟨@v,g,f,c⟩:=oP e;exact⟨a+v,⋯,⋯,f,c⟩
def oX(e:cb y (C.take a++E))(b:v<=n)(c:n<a)(d:n<C.length):y (C.getD v 0)<=y (C.getD n 0):=by
 have:=mG (eZ.mp e).1 (a:=v) (v:=n) b (by rw[hB];lia);simpa [List.getD,mI,show v<a by lia,c] using this
def pO(perm:E.Perm (t.drop w++q.drop z))(aM:cb y (t.take w++E))(cy:cb y (q.take z++E))(aN:w=0\/z=0):
  fW y ao t q ((t.map<|ba ao).toArray.extract 0 w++(q.map<|ba ao).toArray.extract 0 z++(E.reverse.map<|ba ao).toArray.reverse):=by
 refine⟨t.take w++q.take z++E,?_,?_,?_⟩
 ·apply kC;simp[kN]
 ·refine (dI _ perm).trans ?_;have:(t.take w++q.take z++(t.drop w++q.drop z)).Perm ((t.take w++t.drop w)++(q.take z++q.drop z)):=by
   rw[a_,a_];refine dI _ ?_;rw[<-a_,<-a_];exact eB _ c2
  rw[fD,fD]at this;exact this
 ·rcases aN with c|c
  ·rw[c,vf,kU];exact cy
  ·rw[c,vf,b5];exact aM
def sa(perm:E.Perm (t.drop w++q.drop z))(aM:cb y (t.take w++E))(cy:cb y (q.take z++E))(aN:z=1)(first:∀d∈t,y (q.getD 0 0)<=y d):
  fW y ao t q ((q.map<|ba ao).toArray.extract 0 z++(t.map<|ba ao).toArray.extract 0 w++(E.reverse.map<|ba ao).toArray.reverse):=by
 refine⟨q.take z++t.take w++E,?_,?_,?_⟩
 ·apply kC;simp[kN]
 ·refine (dI _ perm).trans ?_;have:(q.take z++t.take w++(t.drop w++q.drop z)).Perm ((t.take w++t.drop w)++(q.take z++q.drop z)):=by
   rw[a_,<-a_ (t.take w),<-a_ (t.take w++t.drop w)];rw[<-a_ (q.take z)];exact eB _ c2
  rw[fD,fD]at this;exact this
 ·rw[a_];refine eZ.mpr ⟨(eZ.mp cy).1,aM,λd b i a=>?_⟩;rcases dY.mp a with a|a
  ·let⟨@v,k,l,rfl⟩:=kF b;have:v=0:=⋯
   rw[this];exact first i (oR a)
  ·exact (eZ.mp cy).2.2 d b i a
def pd(E:List Nat)(i:Nat):(E.reverse.map<|ba ao).toArray.push (ba ao i)=(([i]++E).reverse.map<|ba ao).toArray:=by simp
def BC(E C:List Nat)(a n:Nat):(E.reverse.map<|ba ao).toArray++((C.map<|ba ao).toArray.extract a n).reverse=(((C.take n).drop a++E).reverse.map<|ba ao).toArray:=by
 apply kC;simp[kM,kN,qu]
structure Lv(y:Nat->Int)(t q:List Nat)(E:List Nat)(w z:Nat):Prop where
 perm:E.Perm (t.drop w++q.drop z)
 aM:cb y (t.take w++E)
 cy:cb y (q.take z++E)
 bL:0<w
 jh:1<z
 oq:w<=t.length
 v8:z<=q.length
def hh(y:Nat->Int)(ao:Array bb)(t q:List Nat)(out:Array bb)(w z:Nat):Prop:=(∃E:List Nat,out=(E.reverse.map<|ba ao).toArray/\Lv y t q E w z)
end
section
variable{Q_:bz}{D:bg}{O:bp}{Q7:af->aq->Prop}{Rx:fT}{ao:Array bb}{y:Nat->Int}{s:Nat}{m:aq}
def qP(y:Nat->Int)(ao:Array bb)(t q:List Nat)(J:bt)(m:aq): Option (Array bb)×Nat×Nat×Array bb×Nat->bt->aq->Prop:=(λh b T=>m=T/\c8 J b/\∃a o r p L,h=(Z a,o,r,p,L)/\fW y ao t q a)
def ro(y:Nat->Int)(ao:Array bb)(t q:List Nat)(J:bt)(m:aq)(d:Nat):Option (Array bb)×Nat×Nat×Array bb×Nat->bt->aq->Prop:=(λh a T=>m=T/\c8 J a/\∃w z Y L,h=(X,w,z,Y,L)/\hh y ao t q Y w z/\w+z+d+1<=t.length+q.length)
def j5(y:Nat->Int)(ao:Array bb)(t q:List Nat)(J:bt)(m:aq)(d:Nat):Option (Array bb)×Nat×Nat×Array bb×Nat×Nat->bt->aq->Prop:=(λh c T=>m=T/\c8 J c/\((∃b o r p ac a,h=(Z b,o,r,p,ac,a)/\fW y ao t q b)\/∃w z Y ac a,h=(X,w,z,Y,ac,a)/\hh y ao t q Y w z/\w+z+d+2<=t.length+q.length))
def oA(y:Nat->Int)(ao:Array bb)(t q:List Nat)(J:bt)(m:aq)(d i:Nat):Option (Array bb)×Nat×Nat×Array bb×Nat×Nat->bt->aq->Prop:=(λh a T=>m=T/\c8 J a/\∃w z Y ac b,h=(X,w,z,Y,ac,b)/\hh y ao t q Y w z/\w+z+d+1+i<=t.length+q.length)
def iE(y:Nat->Int)(ao:Array bb)(t q:List Nat)(J:bt)(m:aq)(d:Nat):Option (Array bb)×Nat×Nat×Array bb×Nat×Nat×Nat->bt->aq->Prop:=(λh c T=>m=T/\c8 J c/\((∃b o r p L ac a,h=(Z b,o,r,p,L,ac,a)/\fW y ao t q b)\/∃w z Y L ac a,h=(X,w,z,Y,L,ac,a)/\hh y ao t q Y w z/\w+z+d+2<=t.length+q.length))
def ri(y:Nat->Int)(ao:Array bb)(t q:List Nat)(J:bt)(m:aq)(d i:Nat):Option (Array bb)×Nat×Nat×Array bb×Nat×Nat×Nat->bt->aq->Prop:=(λh a T=>m=T/\c8 J a/\∃w z Y L ac b,h=(X,w,z,Y,L,ac,b)/\hh y ao t q Y w z/\w+z+d+2<=t.length+q.length)
def qP.a{y:Nat->Int}{ao:Array bb}{t q:List Nat}{J b:bt}{m:aq}{out:Array bb}{o r:Nat}{p:Array bb}{L:Nat}(e:c8 J b)(H:fW y ao t q out):qP y ao t q J m (Z out,o,r,p,L) b m:=⟨rfl,e,_,_,_,_,_,rfl,H⟩
def ro.k{y:Nat->Int}{ao:Array bb}{t q:List Nat}{J a:bt}{m:aq}{d:Nat}{w z:Nat}{Y:Array bb}{L:Nat}(e:c8 J a)(v:hh y ao t q Y w z)(c:w+z+d+1<=t.length+q.length):ro y ao t q J m d (X,w,z,Y,L) a m:=⟨rfl,e,_,_,_,_,rfl,v,c⟩
def j5.a{y:Nat->Int}{ao:Array bb}{t q:List Nat}{J b:bt}{m:aq}{d:Nat}{out:Array bb}{o r:Nat}{p:Array bb}{L c:Nat}(e:c8 J b)(H:fW y ao t q out):j5 y ao t q J m d (Z out,o,r,p,L,c) b m:=⟨rfl,e,.inl ⟨_,_,_,_,_,_,rfl,H⟩⟩
def j5.b{y:Nat->Int}{ao:Array bb}{t q:List Nat}{J a:bt}{m:aq}{d:Nat}{w z:Nat}{Y:Array bb}{L g:Nat}(e:c8 J a)(v:hh y ao t q Y w z)(c:w+z+d+2<=t.length+q.length):j5 y ao t q J m d (X,w,z,Y,L,g) a m:=⟨rfl,e,.inr ⟨_,_,_,_,_,rfl,v,c⟩⟩
def oA.k{y:Nat->Int}{ao:Array bb}{t q:List Nat}{J a:bt}{m:aq}{d i:Nat}{w z:Nat}{Y:Array bb}{L b:Nat}(e:c8 J a)(v:hh y ao t q Y w z)(c:w+z+d+1+i<=t.length+q.length):oA y ao t q J m d i (X,w,z,Y,L,b) a m:=⟨rfl,e,_,_,_,_,_,rfl,v,c⟩
def iE.a{y:Nat->Int}{ao:Array bb}{t q:List Nat}{J b:bt}{m:aq}{d:Nat}{out:Array bb}{o r:Nat}{p:Array bb}{L c f:Nat}(e:c8 J b)(H:fW y ao t q out):iE y ao t q J m d (Z out,o,r,p,L,c,f) b m:=⟨rfl,e,.inl ⟨_,_,_,_,_,_,_,rfl,H⟩⟩
def iE.b{y:Nat->Int}{ao:Array bb}{t q:List Nat}{J a:bt}{m:aq}{d:Nat}{w z:Nat}{Y:Array bb}{L g h:Nat}(e:c8 J a)(v:hh y ao t q Y w z)(c:w+z+d+2<=t.length+q.length):iE y ao t q J m d (X,w,z,Y,L,g,h) a m:=⟨rfl,e,.inr ⟨_,_,_,_,_,_,rfl,v,c⟩⟩
def ri.k{y:Nat->Int}{ao:Array bb}{t q:List Nat}{J a:bt}{m:aq}{d i:Nat}{w z:Nat}{Y:Array bb}{L b f:Nat}(e:c8 J a)(v:hh y ao t q Y w z)(c:w+z+d+2<=t.length+q.length):ri y ao t q J m d i (X,w,z,Y,L,b,f) a m:=⟨rfl,e,_,_,_,_,_,_,rfl,v,c⟩
def kX{az:gy}{O:bp}{Q7:af->aq->Prop}{w Ry:Type}{g f:Nat}{d i:StateT w dy Ry}{A:Ry->w->aq->Prop}{J:w}{m:aq}(a:g=f->kasC az O Q7 d A J m)(b:¬ g=f->kasC az O Q7 i A J m):kasC az O Q7 (if (g==f)=ab then d else i) A J m:=la (λe=>a ⇑e) λe=>b ⇑e
def M8(ca:fk s y (eQ Q_ D O Rx ao) m){t q:List Nat}(cd:∀d∈t,d<s)(ce:∀d∈q,d<s)(ge:cb y t)(gl:cb y q)(go:0<t.length)(k:0<q.length)(first:∀d∈t,y (q.getD 0 0)<=y d)(d8:∀d∈q,y d<=y (t.getD (t.length-1) 0)){J:bt}(eq:kindOf J=Rx){A:Array bb->bt->aq->Prop}(e:∀out C,fW y ao t q out->c8 J C->A out C m):
  kasC (aQ Q_ D) O Q7 (CH (t.map<|ba ao).toArray (q.map<|ba ao).toArray) A J m:=by
 have bn:(List.map (ba ao) t).toArray.size=t.length:=by simp
 have bs:(List.map (ba ao) q).toArray.size=q.length:=by simp
 have ch:=k_ go (bD _);rw[sT]at ch;have ci:[t.getD (t.length-1) 0].Perm (t.drop (t.length-1)++q.drop q.length):=by
  rw[ch,uO];exact List.Perm.refl _
 have cl:cb y (t.take (t.length-1)++[t.getD (t.length-1) 0]):=by
  rw[<-ch,fD];exact ge
 have co:cb y (q.take q.length++[t.getD (t.length-1) 0]):=eZ.mpr ⟨by rw[sT];exact gl,e3 _ _,λd r i u=>by
  rw[cV.mp u];exact d8 d (by rwa [sT]at r)⟩
 unfold CH;with_unfolding_all refine bf (nh<|ir ?_);refine bf (fz (show (List.map (ba ao) t).toArray.size-1<t.length by lia) ?_);refine kX (λcr=>bc (e _ _ (by rw[bn]at cr;rw[bn,bs];exact pO ci cl co (.inl cr))<|c8.refl J)) λcr=>?_;refine kX (λcs=>bc (e _ _ (by rw[bs]at cs;rw[bn,bs];exact sa ci cl co cs first)<|c8.refl J)) λcs=>?_;refine bf (jF ?_);refine bf (hk (a:=qP y ao t q J m) (fm (fZ (ro y ao t q J m) ?step _ 0 _ _ _ ?fin (ro.k (c8.refl J) (by rw[bn,bs];exact⟨_,rfl,ci,cl,co,⋯,⋯,⋯,⋯⟩) ⋯))) ?after)
 case after=>
  rintro h C T ⟨rfl,c,ex,Y,x,E,L,rfl,a1⟩;exact bc (e _ _ a1 c)
 case fin=>
  rintro h C T ⟨rfl,c,w,z,Y,L,rfl,⟨b,rfl,H⟩,r⟩;have:=H.bL;have:=H.jh;lia
 case step=>
  rintro d h C T ⟨rfl,c,w,z,Y,L,rfl,G,r⟩;refine bf (hk (a:=j5 y ao t q J m d)
   (fm (fZ (oA y ao t q J m d) ?gt _ 0 _ _ _ ?g1 (oA.k c G ⋯))) ?g2)
  case g1=>
   rintro h C T ⟨rfl,c,w,z,Y,ac,al,rfl,G,r⟩;exact j5.b c G ⋯
  case gt=>
   rintro i h C T ⟨rfl,c,w,z,Y,ac,al,rfl,⟨b,rfl,H⟩,r⟩;have I:=H.bL;have db:=H.jh;have F:=H.oq;have P:=H.v8;have bv:kindOf C=Rx:=c.k.trans eq;have Q:w-1<t.length:=⋯
   have am:z-1<q.length:=⋯
   have dp:y (q.getD (z-1) 0)<y (t.getD (w-1) 0)->_:=λa2=>by
    have:=rG (w-1) ⋯ F H.perm H.aM H.cy (λd r i u=>by
     rw[k_ I F,cV]at r;let⟨@v,an,bd,rfl⟩:=kF u;have:=oX H.cy (show v<=z-1 by lia) ⋯ ⋯;rw[r];lia)
    rw[k_ I F]at this;exact this
   have dC:¬ y (q.getD (z-1) 0)<y (t.getD (w-1) 0)->_:=λa2=>by
    have:=xh (z-1) ⋯ P H.perm H.aM H.cy (λd r i u=>by
     rw[k_ ⋯ P,cV]at r;let⟨@v,an,bd,rfl⟩:=kF u;have:=oX H.aM (show v<=w-1 by lia) ⋯ ⋯;rw[r];lia)
    rw[k_ ⋯ P]at this;exact this
   refine bf (fz am<|bf<|fz Q<|bf<|qp ca (iL ce am) (iL cd Q) bv ?_);refine la (λa2=>?_) λa2=>?_
   ·have f:=dp ⇑a2;refine bf (fz Q (kX (λaN=>bc (j5.a c (by rw[pd];exact pO f.1 f.2.1 f.2.2 (.inl aN)))) λaN=>?_));have S:hh y ao t q ((b.reverse.map<|ba ao).toArray.push<|ba ao<|t.getD (w-1) 0) (w-1) z:=⟨_,pd _ _,f.1,f.2.1,f.2.2,⋯,db,⋯,P⟩;exact la (λ_=>bc (j5.b c S ⋯)) λ_=>bc (oA.k c S ⋯)
   ·have f:=dC ⇑a2;refine bf (fz am (kX (λaN=>bc (j5.a c (by rw[pd];exact sa f.1 f.2.1 f.2.2 aN first))) λaN=>?_));have S:hh y ao t q ((b.reverse.map<|ba ao).toArray.push<|ba ao<|q.getD (z-1) 0) w (z-1):=⟨_,pd _ _,f.1,f.2.1,f.2.2,I,⋯,F,⋯⟩;exact la (λ_=>bc (j5.b c S ⋯)) λ_=>bc (oA.k c S ⋯)
  case g2=>
   rintro h C T ⟨rfl,c,⟨ex,Y,x,E,ac,al,rfl,a1⟩|⟨w,z,Y,ac,al,rfl,G,r⟩⟩
   ·exact bc (qP.a c a1)
   ·refine bf (nh<|ir ?_);refine bf (hk (a:=iE y ao t q J m d)
     (fm (fZ (ri y ao t q J m d) ?g3 _ 0 _ _ _ ?fin2 (ri.k c G ⋯))) ?hd)
    case fin2=>
     rintro h C T ⟨rfl,c,w,z,Y,L,ac,al,rfl,G,r⟩;exact iE.b c G ⋯
    case hd=>
     rintro h C T ⟨rfl,c,⟨ex,Y,x,E,L,ac,al,rfl,a1⟩|⟨w,z,Y,L,ac,al,rfl,G,r⟩⟩
     ·exact bc (qP.a c a1)
     ·refine bf (ky ?_);exact bc (ro.k ⟨c.k,c.a,c.p,c.f⟩ G ⋯)
    case g3=>
     rintro i h C T ⟨rfl,c,w,z,Y,L,ac,al,rfl,⟨b,fd,H⟩,r⟩;have I:=H.bL;have db:=H.jh;have F:=H.oq;have P:=H.v8;have am:z-1<q.length:=⋯
     dsimp only;revert L;refine FG (λL=>L-1) ?Q ?_
     case Q=>exact λL=>rfl
     intro L;refine bf (Fb (l:=J) ⟨c.k,c.a,c.p,c.f⟩ λkw U=>?_);have bv:=U.k.trans eq;refine bf (fz am ?_);refine bf (v_ ca (iL ce am) cd (Rh:=0) (H:=w) (b:=w-1) ⋯ ⋯ (λa v g f h=>oX H.aM f ⋯ ⋯) bv ?_);intro n lc fn hf;dsimp only;generalize lf:w-n=li;generalize be:Y=M;generalize bi:w=a;have Ri:M=Y/\a=w:=⟨be.symm,bi.symm⟩;clear be bi;revert M a;refine ui (λM a=>M=Y/\a=w) (λM a=>hh y ao t q M a z/\a<=w/\∀v,v<a->y (t.getD v 0)<=y (q.getD (z-1) 0)) ?Rb ?f1 ?hm
     case f1=>
      rintro hw M a ⟨rfl,rfl⟩;exact⟨⟨b,fd,H⟩,bD _,λv g=>fn v ⋯ ⋯⟩
     case hm=>
      rintro j _ M a ⟨rfl,rfl⟩;try dsimp only
      have as:=rG n ⋯ F H.perm H.aM H.cy (λd r i u=>by
       let⟨@v,h0,an,bd,rfl⟩:=F9 r;let⟨@ds,ii,im,rfl⟩:=kF u;have:=hf v ⋯ ⋯;have:=oX H.cy (show ds<=z-1 by lia) ⋯ ⋯;lia)
      rw[fd,BC];refine kX (λaN=>bc<|iE.a U<|pO as.1 as.2.1 as.2.2<|.inl aN) λaN=>?_;exact j _ _ ⟨⟨_,rfl,as.1,as.2.1,as.2.2,⋯,db,⋯,P⟩,⋯,λv g=>fn v ⋯ ⋯⟩
     case Rb=>
      rintro M a ⟨⟨b,rfl,H⟩,le,io⟩;have I:=H.bL;have F:=H.oq;have Q:a-1<t.length:=⋯
      try dsimp only
      refine bf (fz am ?_);have RR:=xh (z-1) ⋯ P H.perm H.aM H.cy (λd r i u=>by
       rw[k_ ⋯ P,cV]at r;let⟨@v,an,bd,rfl⟩:=kF u;rw[r];exact io v an)
      rw[k_ ⋯ P]at RR;rw[pd];refine kX (λfr=>bc<|iE.a U<|sa RR.1 RR.2.1 RR.2.2 fr first) λfr=>?_;refine bf (fz Q ?_);refine bf (wV ca (iL cd Q) ce (Rh:=0) (H:=z-1) (b:=z-1-1) ⋯ ⋯ (λa v g f h=>oX RR.2.2 f ⋯ ⋯) bv ?_);intro RJ lm f0 it;dsimp only;generalize [q.getD (z-1) 0]++b=dL at *;generalize ln:z-1=bm at *;generalize ls:bm-RJ=ew;generalize be:(List.map (ba ao) dL.reverse).toArray=M;generalize bi:bm=v;have Ri:M=(List.map (ba ao) dL.reverse).toArray/\v=bm:=⟨be.symm,bi.symm⟩;clear be bi;revert M v;refine ui (λM v=>M=(List.map (ba ao) dL.reverse).toArray/\v=bm) (λM v=>hh y ao t q M a v/\v<=bm/\∀B,B<v->y (q.getD B 0)<y (t.getD (a-1) 0)) ?Ro ?f2 ?jp
      case f2=>
       rintro hw M v ⟨rfl,rfl⟩;exact⟨⟨_,rfl,RR.1,RR.2.1,RR.2.2,I,⋯,F,⋯⟩,bD _,λB g=>f0 B ⋯ ⋯⟩
      case jp=>
       rintro j _ M v ⟨rfl,rfl⟩;try dsimp only
       have R:=xh RJ ⋯ (show v<=q.length by lia) RR.1 RR.2.1 RR.2.2 (λd r i u=>by
        let⟨@B,h0,an,bd,rfl⟩:=F9 r;let⟨@ds,ii,im,rfl⟩:=kF u;have:=it B ⋯ ⋯;have:=oX RR.2.1 (show ds<=a-1 by lia) ⋯ ⋯;lia)
       rw[BC];refine kX (λf4=>bc<|iE.a U<|sa R.1 R.2.1 R.2.2 f4 first) λf4=>?_;refine kX (λf8=>bc<|iE.a U<|pO R.1 R.2.1 R.2.2<|.inr f8) λf8=>?_;exact j _ _ ⟨⟨_,rfl,R.1,R.2.1,R.2.2,I,⋯,F,⋯⟩,⋯,λB g=>f0 B ⋯ ⋯⟩
      case Ro=>
       rintro M v ⟨⟨b,rfl,H⟩,lv,kt⟩;try dsimp only
       refine bf (fz Q ?_);have ap:=rG (a-1) ⋯ F H.perm H.aM H.cy (λd r i u=>by
        rw[k_ I F,cV]at r;let⟨@B,an,bd,rfl⟩:=kF u;have:=kt B an;rw[r];lia)
       rw[k_ I F]at ap;rw[pd];refine kX (λga=>bc<|iE.a U<|pO ap.1 ap.2.1 ap.2.2<|.inl ga) λga=>?_;have S:hh y ao t q (([t.getD (a-1) 0]++b).reverse.map<|ba ao).toArray (a-1) v:=⟨_,rfl,ap.1,ap.2.1,ap.2.2,⋯,H.jh,⋯,H.v8⟩;exact la (λ_=>bc (iE.b U S ⋯)) λ_=>bc (ri.k U S ⋯)
def Lh{w:Type}{az:gy}{A:PUnit->w->aq->Prop}{J a:w}{m:aq}(e:A ⟨⟩ a m):kasC az O Q7 (set a:StateT w dy PUnit) A J m:=by
 unfold kasC;rw[StateT.run_set];exact a3 e
theorem vi{Ry:Type}:∀(C:List Ry) (b:List Ry) (r f L:Nat),r+C.length<=b.length->r=L+f->((C.zipIdx f).foldl (λ(g:Array Ry) (d:Ry×Nat)=>g.setIfInBounds (L+d.2) d.1) b.toArray)=(b.take r++C++b.drop (r+C.length)).toArray
 |[],b,r,f,L,e,c=>by simp
 |d::C,b,r,f,L,e,c=>by
  rw[dd]at e;rw[va,k7];dsimp only;rw[<-c,AM,vi C (b.set r d) (r+1) (f+1) L (by rw[tg];lia) ⋯];congr 1;have h:(b.set r d).take (r+1)=b.take r++[d]:=by
   apply oc;intro a;rw[mI,List.getElem?_append,hB,mI,Bv];by_cases k:a<r
   ·rw[aB ⋯,aD ⋯,aB ⋯,aB k]
   ·by_cases l:a=r
    ·subst l;rw[aB ⋯,aB rfl,aB ⋯,aD ⋯];simp[show a-min a b.length=0 by lia]
    ·rw[aD ⋯,aD ⋯];rw[v7];rw[fQ];lia
  have i:(b.set r d).drop (r+1+C.length)=b.drop (r+(C.length+1)):=by
   apply oc;intro a;rw[ml,ml,Bv,aD ⋯];congr 1;lia
  rw[h,i,dd,a_,a_,a_];rfl
def A6{c e b:List Nat}{n H:Nat}(p:cb y c)(q:cb y e)(t:0<e.length)(u:0<c.length)(k:∀d∈c.take n,y d<=y (e.getD 0 0))(r:∀d∈e.drop H,y (c.getD (c.length-1) 0)<=y d)(l:b.Perm (c.drop n++e.take H))(R_:cb y b):cb y (c.take n++b++e.drop H)/\(c.take n++b++e.drop H).Perm (c++e):=by
 have m:∀i∈e,y (e.getD 0 0)<=y i:=λi g=>by
  let⟨@v,Y,o,rfl⟩:=ja (a:=0) (C:=e) (by rwa [j6]);exact mG q (hY _) o
 have s:∀d∈c,y d<=y (c.getD (c.length-1) 0):=λd f=>by
  let⟨@v,Y,o,rfl⟩:=ja (a:=0) (C:=c) (by rwa [j6]);exact mG p (by omega) (by omega)
 have h:cb y (c.take n++c.drop n):=by rwa [fD]
 have j:cb y (e.take H++e.drop H):=by rwa [fD]
 have h:=eZ.mp h;have j:=eZ.mp j;refine⟨eZ.mpr ⟨eZ.mpr ⟨h.1,R_,λd f i g=>?_⟩,j.2.1,λd f i g=>?_⟩,?_⟩
 ·rcases dY.mp (l.mem_iff.mp g) with g|g
  ·exact h.2.2 d f i g
  ·exact xn (k d f) (m i<|oR g)
 ·rcases dY.mp f with f|f
  ·exact xn (k d f) (m i<|nr g)
  ·rcases dY.mp (l.mem_iff.mp f) with f|f
   ·exact xn (s d<|nr f) (r i g)
   ·exact j.2.2 d f i g
 ·refine (eB _<|dI _ l).trans ?_;rw[<-a_,fD,a_,fD]
def Ia(R:fk s y (eQ Q_ D O Rx ao) m){aV:List Nat}(F:∀d∈aV,d<s){a aM w z bm fn:Nat}{J:bt}(x:PyProof.Rows.kindOf J=Rx)(fr:arrOf J=(aV.map<|ba ao).toArray)(S:hj J=X)(U:(g8 J)[a]?=Z (aM,w,bm))(L:(g8 J)[a+1]?=Z (aM+w,z,fn))(f0:0<w)(bn:0<z)(aN:aM+w+z<=aV.length)(B:cb y ((aV.drop aM).take w))(E:cb y ((aV.drop<|aM+w).take z)){A:Bool->bt->aq->Prop}(e:∀mid q,PyProof.Rows.kindOf q=Rx->hj q=X->g8 q=((g8 J).setIfInBounds a (aM,w+z,bm)).eraseIdxIfInBounds (a+1)->mid.Perm ((aV.drop aM).take<|w+z)->cb y mid->
   arrOf q=((aV.take aM++mid++aV.drop (aM+(w+z))).map<|ba ao).toArray->A ab q m):
  kasC (aQ Q_ D) O Q7 (rF a) A J m:=by
 have bs:((aV.drop aM).take w).length=w:=by rw[hB,f5];lia
 have f1:((aV.drop<|aM+w).take z).length=z:=by rw[hB,f5];lia
 have G:∀v,v<w->((aV.drop aM).take w).getD v 0=aV.getD (aM+v) 0:=λv L=>by simp[List.getD,mI,ml,L]
 have I:∀v,v<z->((aV.drop<|aM+w).take z).getD v 0=aV.getD (aM+w+v) 0:=λv L=>by simp[List.getD,mI,ml,L]
 have bS:(aV.drop aM).take w++(aV.drop<|aM+w).take z=(aV.drop aM).take (w+z):=by rw[<-ni,oM]
 have bv:aV.take aM++(aV.drop aM).take (w+z)++aV.drop (aM+(w+z))=aV:=by rw[oM,fD]
 have ca:∀a v,aM<=a->a<=v->v<aM+w->y (aV.getD a 0)<=y (aV.getD v 0):=λa v g f h=>by
  have:=mG B (a:=a-aM) (v:=v-aM) ⋯ ⋯
  rwa [G _ ⋯,G _ ⋯,show aM+(a-aM)=a by lia,show aM+(v-aM)=v by lia]at this
 have cd:∀a v,aM+w<=a->a<=v->v<aM+w+z->y (aV.getD a 0)<=y (aV.getD v 0):=λa v g f h=>by
  have:=mG E (a:=a-(aM+w)) (v:=v-(aM+w)) ⋯ ⋯
  rwa [I _ ⋯,I _ ⋯,show aM+w+(a-(aM+w))=a by lia,show aM+w+(v-(aM+w))=v by lia]at this
 have t:∀d∈(aV.drop aM).take w,∃v,aM<=v/\v<aM+w/\d=aV.getD v 0:=λd l=>by
  let⟨@v,M,r,rfl⟩:=oP l;exact⟨aM+v,⋯,⋯,rfl⟩
 have ce:∀d∈(aV.drop<|aM+w).take z,∃v,aM+w<=v/\v<aM+w+z/\d=aV.getD v 0:=λd l=>by
  let⟨@v,M,r,rfl⟩:=oP l;exact⟨aM+w+v,⋯,⋯,rfl⟩
 unfold rF;with_unfolding_all refine bf (jF ?_);simp only[U,L,fr];refine bf (Lh ?_);refine bf (fz (show aM+w<aV.length by lia) ?_);refine bf (v_ R (iL F (show aM+w<aV.length by lia)) F (Rh:=aM) (H:=w) (b:=0) ⋯ f0 ca (by exact x) ?_);intro n ch ci f4;dsimp only;by_cases cl:w-n=0
 ·rw[aB ⇑cl];refine bc (e _ _ (by exact x) (by exact S) rfl (List.Perm.refl _) ?_ ?_)
  ·rw[<-bS];refine eZ.mpr ⟨B,E,λd l i T=>?_⟩;let⟨@v,r,f8,rfl⟩:=t d l;let⟨@al,co,am,rfl⟩:=ce i T;have:=ci v r ⋯;have:=cd (aM+w) al ⋯ co am;lia
  ·rw[bv]
 rw[aD ⇑cl];rw[show aM+n+(w-n)-1=aM+w-1 by lia];refine bf (fz (show aM+w-1<aV.length by lia) ?_);refine bf (wV R (iL F (show aM+w-1<aV.length by lia)) F (Rh:=aM+w) (H:=z) (b:=z-1) ⋯ ⋯ cd (by exact x) ?_);intro j an ga cr;dsimp only;by_cases cs:j=0
 ·rw[aB ⇑cs];refine bc (e _ _ (by exact x) (by exact S) rfl (List.Perm.refl _) ?_ ?_)
  ·rw[<-bS];refine eZ.mpr ⟨B,E,λd l i T=>?_⟩;let⟨@v,r,f8,rfl⟩:=t d l;let⟨@al,co,am,rfl⟩:=ce i T;have:=cr al ⋯ am;have:=ca v (aM+w-1) r ⋯ ⋯;lia
  ·rw[bv]
 rw[aD ⇑cs];have ge:(aV.map<|ba ao).toArray.extract (aM+n) (aM+w)=((((aV.drop aM).take w).drop n).map<|ba ao).toArray:=by
  apply kC;simp only[y6,List.extract_eq_drop_take,kM,kN];rw[qu,ni,show aM+w-(aM+n)=w-n by lia]
 have gl:(aV.map<|ba ao).toArray.extract (aM+w) (aM+w+j)=((((aV.drop<|aM+w).take z).take j).map<|ba ao).toArray:=by
  apply kC;simp only[y6,List.extract_eq_drop_take,kM,kN];rw[sk,q2 an,show aM+w+j-(aM+w)=j by lia]
 rw[ge,gl];have k:∀d∈((aV.drop aM).take w).take n,y d<=y (((aV.drop<|aM+w).take z).getD 0 0):=λd l=>by
  rw[I 0 bn];let⟨@v,M,r,rfl⟩:=kF l;rw[G v ⋯];exact ci _ ⋯ ⋯
 have db:∀d∈((aV.drop<|aM+w).take z).drop j,y (((aV.drop aM).take w).getD (((aV.drop aM).take w).length-1) 0)<=y d:=λd l=>by
  rw[bs,G _ ⋯];let⟨@v,M,r,rfl⟩:=ja l;rw[I v ⋯,show aM+(w-1)=aM+w-1 by lia];exact cr _ ⋯ ⋯
 have ds:∀d∈((aV.drop aM).take w).drop n,y ((((aV.drop<|aM+w).take z).take j).getD 0 0)<=y d:=λd l=>by
  rw[show (((aV.drop<|aM+w).take z).take j).getD 0 0=((aV.drop<|aM+w).take z).getD 0 0 by simp only[List.getD,mI,aB (show 0<j by lia)],I 0 bn];let⟨@v,M,r,rfl⟩:=ja l;rw[G v ⋯];have:=f4 (aM+v) ⋯ ⋯;rw[p1];lia
 have ap:(((aV.drop aM).take w).drop n).length=w-n:=by rw[f5,bs]
 have dL:(((aV.drop<|aM+w).take z).take j).length=j:=by rw[hB,f1];lia
 have eq:∀d∈((aV.drop<|aM+w).take z).take j,y d<=y ((((aV.drop aM).take w).drop n).getD ((((aV.drop aM).take w).drop n).length-1) 0):=λd l=>by
  rw[ap,show (((aV.drop aM).take w).drop n).getD (w-n-1) 0=((aV.drop aM).take w).getD (w-1) 0 by simp only[List.getD,ml,show n+(w-n-1)=w-1 by lia],G _ ⋯,show aM+(w-1)=aM+w-1 by lia];let⟨@v,M,r,rfl⟩:=kF l;rw[I v ⋯];have:=ga (aM+w+v) ⋯ ⋯;lia
 have ev:∀d∈((aV.drop aM).take w).drop n,d<s:=λd l=>F d (nr<|oR<|nr l);have ex:∀d∈((aV.drop<|aM+w).take z).take j,d<s:=λd l=>F d (nr<|oR<|oR l);by_cases fd:w-n<=j
 ·rw[aB fd];refine bf (K3 R ev ex (B.sublist<|xp _ _) (E.sublist<|si _ _) ⋯ ⋯ ds eq (by exact x) ?_);intro out q as u;let⟨@b,rfl,P,a1⟩:=as;have Q:=A6 (y:=y) B E ⋯ ⋯ k db P a1;refine bf (ky ?_);refine bf (jF ?_);refine bc ?_;have c:hj q=X:=u.f.trans S;show A (hj q).isNone _ m;rw[c];refine e (((aV.drop aM).take w).take n++b++((aV.drop<|aM+w).take z).drop j) _ (u.k.trans x) (by first|rfl|exact c) (by exact u.p) (by rw[<-bS];exact Q.2) Q.1 ?_;have a2:arrOf q=(aV.map<|ba ao).toArray:=u.a;have bw:b.length=w-n+j:=by rw[P.length_eq,c5,ap,dL]
  have bd:=vi (b.map<|ba ao) (aV.map<|ba ao) (aM+n) 0 (aM+n) (by rw[bH,bH,bw];lia) rfl;show List.foldl (λg d=>g.setIfInBounds (aM+n+d.2) d.1) (arrOf q) (b.map<|ba ao).toArray.toList.zipIdx=_;rw[a2];refine bd.trans ?_;rw[bH,bw,<-kN,<-kM,<-jx,<-jx];congr 2;have be:aV.take (aM+n)=aV.take aM++((aV.drop aM).take w).take n:=by
   rw[sk,q2 ch,oM]
  have bi:aV.drop (aM+n+(w-n+j))=((aV.drop<|aM+w).take z).drop j++aV.drop (aM+(w+z)):=by
   have:=wC (C:=aV.drop (aM+w)) (a:=j) (v:=z) an (by rw[f5];lia);rw[ni,ni]at this;rw[show aM+n+(w-n+j)=aM+w+j by lia,this,show aM+w+z=aM+(w+z) by lia]
  rw[be,bi];simp only[a_]
 ·rw[aD fd];refine bf (M8 R ev ex (B.sublist<|xp _ _) (E.sublist<|si _ _) ⋯ ⋯ ds eq (by exact x) ?_);intro out q as u;let⟨@b,rfl,P,a1⟩:=as;have Q:=A6 (y:=y) B E ⋯ ⋯ k db P a1;refine bf (ky ?_);refine bf (jF ?_);refine bc ?_;have c:hj q=X:=u.f.trans S;show A (hj q).isNone _ m;rw[c];refine e (((aV.drop aM).take w).take n++b++((aV.drop<|aM+w).take z).drop j) _ (u.k.trans x) (by first|rfl|exact c) (by exact u.p) (by rw[<-bS];exact Q.2) Q.1 ?_;have a2:arrOf q=(aV.map<|ba ao).toArray:=u.a;have bw:b.length=w-n+j:=by rw[P.length_eq,c5,ap,dL]
  have bd:=vi (b.map<|ba ao) (aV.map<|ba ao) (aM+n) 0 (aM+n) (by rw[bH,bH,bw];lia) rfl;show List.foldl (λg d=>g.setIfInBounds (aM+n+d.2) d.1) (arrOf q) (b.map<|ba ao).toArray.toList.zipIdx=_;rw[a2];refine bd.trans ?_;rw[bH,bw,<-kN,<-kM,<-jx,<-jx];congr 2;have be:aV.take (aM+n)=aV.take aM++((aV.drop aM).take w).take n:=by
   rw[sk,q2 ch,oM]
  have bi:aV.drop (aM+n+(w-n+j))=((aV.drop<|aM+w).take z).drop j++aV.drop (aM+(w+z)):=by
   have:=wC (C:=aV.drop (aM+w)) (a:=j) (v:=z) an (by rw[f5];lia);rw[ni,ni]at this;rw[show aM+n+(w-n+j)=aM+w+j by lia,this,show aM+w+z=aM+(w+z) by lia]
  rw[be,bi];simp only[a_]
end
section
variable{Q_:bz}{D:bg}{O:bp}{Q7:af->aq->Prop}{Rx:fT}{ao:Array bb}{y:Nat->Int}{s:Nat}{m:aq}{q:Array (Nat×Nat×Nat)}
structure ej(Rx:fT)(ao:Array bb)(q:Array (Nat×Nat×Nat))(J:bt)(p:Array Nat):Prop where
 k:PyProof.Rows.kindOf J=Rx
 a:arrOf J=p.map (ba ao)
 p:g8 J=q
 f:hj J=X
def qZ(d:fk s y (eQ Q_ D O Rx ao) m){o:Array Nat}(b:cT s o){a v:Nat}(U:a<s)(c:v<s){J:bt}(j:ej Rx ao q J o){A:Option Bool->bt->aq->Prop}(e:A (Z<|decide (a7 y o a<a7 y o v)) J m):
  kasC (aQ Q_ D) O Q7 (mR a v) A J m:=by
 have f7:∀a,a<s->(o.map<|ba ao)[a]?=Z (ba ao<|o.getD a 0):=λa U=>by
  have:a<o.size:=by rw[b.size];exact U
  simp[Array.getD,this]
 rw[ltAt'_eq];refine bf (jF ?_);rw[j.a];dsimp only;rw[rK,rK,f7 a U,f7 v c];refine bf (bc ?_);refine bf (bc ?_);exact qp d (b.lt U) (b.lt c) j.k e
variable{o:Array Nat}{J:bt}
def tB(j:ej Rx ao q J o){a v:Nat}{A:Unit->bt->aq->Prop}(e:∀b,ej Rx ao q b (mu o a v)->A () b m):kasC (aQ Q_ D) O Q7 (qT a v) A J m:=by
 rw[reverseSlice'_eq];refine ky (e _ ⟨j.k,?_,j.p,j.f⟩);show mirror (arrOf J) a v ((v-a)/2)=_;rw[j.a];exact A5 (ba ao) (λn=>a+n) (λn=>v-1-n) _ o
def Qg(j:ej Rx ao q J o){a v:Nat}{A:Unit->bt->aq->Prop}(e:∀b,ej Rx ao q b (pM o a<|a-v)->A () b m):kasC (aQ Q_ D) O Q7 (moveDown' a v) A J m:=by
 rw[moveDown'_eq];refine ky (e _ ⟨j.k,?_,j.p,j.f⟩);show pM (arrOf J) a (a-v)=_;rw[j.a];exact A5 (ba ao) (λn=>a-n) (λn=>a-n-1) _ o
theorem pq{w RZ:Type}{az:gy}{N:Nat->RZ->StateT w dy (ForInStep RZ)}{A:RZ->w->aq->Prop}(t:Nat->RZ->w->aq->Prop)(R3:Nat)(step:∀d h J T,d<R3->t d h J T->kasC az O Q7 (N d h) (λp b f=>match p with | .yield a=>t (d+1) a b f | .done a=>A a b f) J T):∀(H g:Nat) (h:RZ) (J:w) (T:aq),g+H<=R3->(∀h J T,t (g+H) h J T->A h J T)->t g h J T->
   kasC az O Q7 (forIn (range' g H) h N) A J T
 |0,g,h,J,T,i,fin,e=>by
  show kasC az O Q7 (forIn ([]:List Nat) h N) A J T;exact kasC_nil (fin h J T e)
 |H+1,g,h,J,T,i,fin,e=>by
  show kasC az O Q7 (forIn (g::range' (g+1) H) h N) A J T;refine kasC_cons (fY (step g h J T ⋯ e) (λp f S=>?_) λ_ Y c=>c);let⟨p,b⟩:=p;cases p with
  |done a=>exact S
  |yield a=>exact pq t R3 step H (g+1) a b f ⋯ (λh J T U=>fin h J T (by rw[show g+(H+1)=g+1+H by lia];exact U)) S
end
section
variable{Q_:bz}{D:bg}{O:bp}{Q7:af->aq->Prop}{Rx:fT}{ao:Array bb}{y:Nat->Int}{s:Nat}{m:aq}{q:Array (Nat×Nat×Nat)}
def hr(y:Nat->Int)(o:Array Nat)(M H:Nat):Prop:=(∀a v,M<=a->a<=v->v<M+H->a7 y o a<=a7 y o v)
def Ek{o:Array Nat}{M H:Nat}(e:∀v,M+1<=v->v<M+H->a7 y o (v-1)<=a7 y o v):hr y o M H:=by
 intro a v U b c;obtain⟨u,rfl⟩:∃u,v=a+u:=⟨v-a,⋯⟩;clear b;induction u with
 |zero=>exact j9 _
 |succ u d=>
  have g:=d ⋯;have f:=e (a+(u+1)) ⋯ c;rw[show a+(u+1)-1=a+u by lia]at f;lia
def IQ(as:fk s y (eQ Q_ D O Rx ao) m){o:Array Nat}(a1:cT s o){M H l:Nat}(aN:M+H<=s)(k:1<=l)(bv:l<=H)(t:hr y o M l){J:bt}(j:ej Rx ao q J o){A:Bool->bt->aq->Prop}(e:∀B b,cT s B->ej Rx ao q b B->(∀a,a<M->B[a]?=o[a]?)->hr y B M H->A ab b m):
  kasC (aQ Q_ D) O Q7 (binarySort' M H l) A J m:=by
 rw[binarySort'_eq];rw[show max l 1=l by lia];with_unfolding_all refine bf (hk (a:=λh b T=>m=T/\h=(X,())/\∃r,cT s r/\ej Rx ao q b r/\(∀a,a<M->r[a]?=o[a]?)/\hr y r M H)
  (fm (pq (λd h b T=>m=T/\h=(X,())/\1<=d/\∃r,cT s r/\ej Rx ao q b r/\(∀a,a<M->r[a]?=o[a]?)/\hr y r M d) H ?step _ _ _ _ _ ⋯ ?fin ⟨rfl,rfl,k,o,a1,j,λ_ Y=>rfl,t⟩)) ?after)
 case after=>
  rintro h b T ⟨rfl,rfl,r,G,I,N,E⟩;exact bc (e r _ G I N E)
 case fin=>
  rintro h b T ⟨rfl,rfl,ca,r,G,I,N,E⟩;rw[show l+(H-l)=H by lia]at E;exact⟨rfl,rfl,r,G,I,N,E⟩
 case step=>
  rintro n h b T cd ⟨rfl,rfl,RP,r,P,F,be,t⟩;dsimp only;have bi:∀a,M<=a->a<M+0->a7 y r a<=a7 y r (M+n):=λa g f=>⋯
  have bm:∀a,M+n<=a->a<M+n->a7 y r (M+n)<=a7 y r a:=λa g f=>⋯
  refine bf (hk (a:=λh u T=>m=T/\b=u/\∃C p,h=(X,C,p)/\C<=n/\(∀a,M<=a->a<M+C->a7 y r a<=a7 y r (M+n))/\(∀a,M+C<=a->a<M+n->a7 y r (M+n)<=a7 y r a))
   (fm (pq (λd h u T=>m=T/\b=u/\∃C p,h=(X,C,p)/\C<=p/\p<=n/\p-C<=n-d/\(∀a,M<=a->a<M+C->a7 y r a<=a7 y r (M+n))/\(∀a,M+p<=a->a<M+n->a7 y r (M+n)<=a7 y r a)) n ?s2 _ _ _ _ _ ⋯ ?f2 ⟨rfl,rfl,0,n,rfl,⋯,⋯,⋯,bi,bm⟩)) ?a2)
  case f2=>
   rintro h u T ⟨rfl,rfl,C,p,rfl,dp,dC,rQ,w,z⟩;exact⟨rfl,rfl,C,p,rfl,⋯,w,λa d i=>z a ⋯ i⟩
  case s2=>
   rintro d h u T ce ⟨rfl,rfl,C,p,rfl,dp,dC,rQ,w,z⟩;dsimp only;by_cases c:C >= p
   ·rw[aB c];exact bc ⟨rfl,rfl,C,p,rfl,⋯,w,λa d i=>z a ⋯ i⟩
   rw[aD c];have Q:C<=(C+p)/2:=⋯
   have bn:(C+p)/2<p:=⋯
   have R:(C+p)/2-C<=n-(d+1):=⋯
   have S:p-((C+p)/2+1)<=n-(d+1):=⋯
   generalize (C+p)/2=mid at Q bn R S ⊢;refine bf (qZ as P ⋯ ⋯ F ?_);dsimp only;by_cases al:a7 y r (M+n)<a7 y r (M+mid)
   ·rw[aB ⇑al];refine bc ⟨rfl,rfl,C,mid,rfl,Q,⋯,R,w,λa d i=>?_⟩;have:=t (M+mid) a ⋯ d i;lia
   ·rw[aD ⇑al];refine bc ⟨rfl,rfl,mid+1,p,rfl,⋯,dC,S,λa d i=>?_,z⟩;have:=t a (M+mid) d ⋯ ⋯;lia
  case a2=>
   rintro h u T ⟨rfl,rfl,C,p,rfl,dp,w,z⟩;dsimp only;refine bf (Qg F ?_);intro ch bs;have L:∀a,(pM r (M+n)<|M+n-(M+C))[a]?=if a=M+C then r[M+n]? else if M+C<a/\a<=M+n then r[a-1]? else r[a]?:=λa=>by
    have:=getElem?_bubble (xs:=r) (src:=M+n) (by rw[P.size];lia) (M+n-(M+C)) ⋯ a
    rwa [show M+n-(M+n-(M+C))=M+C by lia]at this
   have aY:∀a,a7 y (pM r (M+n)<|M+n-(M+C)) a=if a=M+C then a7 y r (M+n) else if M+C<a/\a<=M+n then a7 y r (a-1) else a7 y r a:=λa=>by
    have L:=L a;by_cases c:a=M+C
    ·rw[aB c]at L ⊢;exact lB L
    ·rw[aD c]at L ⊢;by_cases am:M+C<a/\a<=M+n
     ·rw[aB am]at L ⊢;exact lB L
     ·rw[aD am]at L ⊢;exact lB L
   refine bc ⟨rfl,rfl,⋯,_,P.HO _ _,bs,λa U=>by rw[L,aD ⋯,aD ⋯];exact be a U,Ek λv d i=>?_⟩;rw[aY,aY];by_cases an:v-1=M+C
   ·rw[aB an,aD ⋯,aB ⋯];exact z (v-1) ⋯ ⋯
   ·rw[aD an];by_cases ap:v=M+C
    ·rw[aB ap,aD ⋯];exact w (v-1) ⋯ ⋯
    ·rw[aD ap];by_cases cl:M+C<v-1
     ·rw[aB ⋯,aB ⋯];exact t _ _ ⋯ ⋯ ⋯
     ·rw[aD ⋯,aD ⋯];exact t _ _ ⋯ ⋯ ⋯
def d4(y:Nat->Int)(o:Array Nat):Nat->List (Nat×Nat×Nat)->Nat->Prop
 |g,[],f=>g=f
 |g,(d,C,_)::B,f=>d=g/\0<C/\hr y o d C/\d4 y o (g+C) B f
variable{o:Array Nat}
theorem d4.le:∀{B:List (Nat×Nat×Nat)}{g f:Nat},d4 y o g B f->g+B.length<=f
 |[],g,f,e=>by rw[show f=g from e.symm];exact bD _
 | (d,C,_)::B,g,f,e=>by
  have:=e.2.2.2.le;have:=e.2.1;rw[dd];lia
theorem d4.congr{r:Array Nat}:∀{B:List (Nat×Nat×Nat)}{g f:Nat},d4 y o g B f->(∀a,g<=a->a<f->a7 y r a=a7 y o a)->d4 y r g B f
 |[],g,f,e,_=>e
 | (d,C,_)::B,g,f,e,L=>by
  have:=e.2.2.2.le;let@⟨rfl,l,b,c⟩:=e;refine⟨rfl,l,λa v U h i=>?_,c.congr λa g f=>L a ⋯ f⟩;rw[L a U ⋯,L v ⋯ ⋯];exact b a v U h i
theorem d4.app{o:Array Nat}:∀{B I:List (Nat×Nat×Nat)}{g f:Nat},d4 y o g (B++I) f↔∃h,d4 y o g B h/\d4 y o h I f
 |[],I,g,f=>⟨λe=>⟨g,rfl,e⟩,λ⟨h,c,e⟩=>by rw[show g=h from c];exact e⟩
 | (d,C,j)::B,I,g,f=>by
  show (d=g/\0<C/\hr y o d C/\d4 y o (g+C) (B++I) f)↔_;rw[d4.app];constructor
  ·rintro⟨k,l,a,h,b,i⟩;exact⟨h,⟨k,l,a,b⟩,i⟩
  ·rintro⟨h,⟨k,l,a,b⟩,i⟩;exact⟨k,l,a,h,b,i⟩
def G9{Ry:Type}{C:List Ry}{a:Nat}(e:a+1<C.length):∃b d i c,C=b++d::i::c/\b.length=a:=by
 refine⟨C.take a,C[a]'⋯,C[a+1],C.drop<|a+2,?_,by rw[hB];lia⟩;have f:=ix (l:=C) (i:=a) ⋯;have g:=ix (l:=C) (i:=a+1) e;rw[<-g,<-f,fD]
def uD(C:List Nat)(a:Nat):a7 y C.toArray a=y (C.getD a 0):=by unfold a7;rw[kW]
def Ey(R:fk s y (eQ Q_ D O Rx ao) m){o:Array Nat}(F:cT s o){J:bt}(j:ej Rx ao q J o){M a:Nat}(U:a+1<q.size)(Q8:d4 y o 0 q.toList M)(co:M<=s){A:Bool->bt->aq->Prop}(e:∀G t u,cT s t->ej Rx ao G u t->G.size+1=q.size->d4 y t 0 G.toList M->(∀a,M<=a->a7 y t a=a7 y o a)->A ab u m):kasC (aQ Q_ D) O Q7 (rF a) A J m:=by
 let⟨b,⟨aM,w,i⟩,⟨cy,z,x⟩,@r,c,rfl⟩:=G9 (C:=q.toList) (a:=a) ⇑U;rw[c]at Q8;let⟨@h,S,rfl,T,al,rfl,am,an,bI⟩:=d4.app.mp Q8;have dC:=bI.le;have B:q=(b++(aM,w,i)::(aM+w,z,x)::r).toArray:=by rw[<-c]
 have ap:o.size=s:=F.size;have as:∀d∈o.toList,d<s:=λd a1=>iJ.mp (F.mem_iff.mp a1);have E:∀a,a7 y o a=y (o.toList.getD a 0):=λa=>uD o.toList a;have bw:o.toList.length=s:=by rw[fB,ap]
 have I:∀g H,g+H<=s->hr y o g H->cb y ((o.toList.drop g).take H):=λg H aN e=>by
  refine oF.mpr λa v U a2 cr=>?_;have bd:=U;have be:=a2;rw[hB,f5,bw]at bd be;have:=e (g+a) (g+v) ⋯ ⋯ ⋯;rw[E,E]at this;rw[wi,r5,wi,r5];rw[cD,cD,fj ⋯,fj ⋯]at this;exact this
 refine Ia R (aV:=o.toList) as (a:=b.length) (aM:=aM) (w:=w) (z:=z) (bm:=i) (fn:=x) j.k (by rw[j.a];apply kC;simp) j.f (by rw[j.p,B];simp) (by rw[j.p,B];simp) T am ⋯ (I _ _ ⋯ al) (I _ _ ⋯ an) ?_;intro mid u RP bi bm L bn bs;have bv:mid.length=w+z:=by rw[L.length_eq,hB,f5,bw];lia
 have ca:o.toList.take aM++(o.toList.drop aM).take (w+z)++o.toList.drop (aM+(w+z))=o.toList:=by rw[oM,fD]
 have cd:cT s (o.toList.take aM++mid++o.toList.drop (aM+(w+z))).toArray:=by
  show (o.toList.take aM++mid++o.toList.drop (aM+(w+z))).Perm (range s);refine List.Perm.trans (eB _<|dI _ L) ?_;rw[ca];exact F
 have gM:(o.toList.take aM).length=aM:=by rw[hB,bw];lia
 have ce:∀a,a<aM->a7 y (o.toList.take aM++mid++o.toList.drop (aM+(w+z))).toArray a=a7 y o a:=λa U=>by
  rw[uD,E];congr 1;rw[cD,cD,a_,oT ⋯,mI,aB U]
 have P:∀a,aM+(w+z)<=a->a7 y (o.toList.take aM++mid++o.toList.drop (aM+(w+z))).toArray a=a7 y o a:=λa U=>by
  rw[uD,E];congr 1;rw[cD,cD,om (by rw[c5];lia),ml,c5,gM,bv];congr 2;lia
 have Q:∀a,aM<=a->a<aM+(w+z)->a7 y (o.toList.take aM++mid++o.toList.drop (aM+(w+z))).toArray a=y (mid.getD (a-aM) 0):=λa k l=>by
  rw[uD];congr 1;rw[cD,cD,a_,om ⋯,gM,oT ⋯]
 have ch:((b++(aM,w,i)::(aM+w,z,x)::r).toArray.setIfInBounds b.length (aM,w+z,i)).eraseIdxIfInBounds (b.length+1)=(b++(aM,w+z,i)::r).toArray:=by
  rw[AM,List.set_append_right _ _<|bD _,y8,List.set_cons_zero];rw[wU,List.eraseIdx_append_of_length_le ⋯,show b.length+1-b.length=1 by lia];rfl
 refine e ((b++(aM,w+z,i)::r).toArray) _ u cd ⟨RP,by rw[bs];apply kC;simp,by rw[bm,j.p,B,ch],bi⟩ (by rw[B];simp;lia) ?_ (λa U=>P a ⋯);have ci:d4 y o (aM+(w+z)) r M:=by rw[<-nX];exact bI
 refine d4.app.mpr ⟨aM,S.congr λa Y f=>ce a f,rfl,⋯,λa v k l cl=>?_,ci.congr λa g f=>P a g⟩
 ·rw[Q a k ⋯,Q v ⋯ cl];exact mG bn ⋯ ⋯
end
section
variable{Q_:bz}{D:bg}{O:bp}{Q7:af->aq->Prop}{Rx:fT}{ao:Array bb}{y:Nat->Int}{s:Nat}{m:aq}{q:Array (Nat×Nat×Nat)}
variable{r:Array Nat}
def r7(b:cT s r){a v:Nat}(c:v<=s)(n:Nat):(mu r a v)[n]?=if a<=n/\n<v then r[a+v-1-n]? else r[n]?:=by
 unfold mu;rw[getElem?_mirror_all (by rw[b.size];lia)]
def I8(b:cT s r){a v:Nat}(d:v<=s)(c:∀n,a<=n->n<v->a7 y r n=a7 y r a)(n:Nat):a7 y (mu r a v) n=a7 y r n:=by
 by_cases e:a<=n/\n<v
 ·rw[lB (show (mu r a v)[n]?=r[a+v-1-n]? by rw[r7 b d,aB e]),c _ ⋯ ⋯,c n e.1 e.2]
 ·exact lB (by rw[r7 b d,aD e])
structure ly(y:Nat->Int)(s M:Nat)(o r:Array Nat):Prop where
 lJ:cT s r
 be:∀a,a<M->r[a]?=o[a]?
 aY:∀n,a7 y r n=a7 y o n
def ly.rev{M:Nat}{o:Array Nat}(k:ly y s M o r){a v:Nat}(U:M<=a)(b:v<=s)(c:∀n,a<=n->n<v->a7 y o n=a7 y o a):ly y s M o (mu r a v):=
 ⟨k.lJ.rev a v,λn d=>by rw[r7 k.lJ b,aD ⋯];exact k.be n d,λn=>by
  rw[I8 k.lJ b (λn g f=>by rw[k.aY,k.aY];exact c n g f)];exact k.aY n⟩
theorem C6{N:Nat->Int}{g f:Nat}(e:∀v,g+1<=v->v<f->N v=N (v-1)):∀u,g+u<f->N (g+u)=N g
 |0,_=>rfl
 |u+1,hd=>(e (g+(u+1)) ⋯ hd).trans (C6 e u ⋯)
def Fx(k:fk s y (eQ Q_ D O Rx ao) m){M a:Nat}(aN:M+a<=s){r:Array Nat}{f:bt}{g:Nat}(l:cT s r)(Rb:ej Rx ao q f r)(u:1<=g)(w:g<=a)(n:∀v,M+1<=v->v<M+g->a7 y r (v-1)<=a7 y r v):
   kasC (aQ Q_ D) O Q7 (forIn [g:a] ((X:Option (Option Nat)),g) λd h=>mR (M+h.2) (M+h.2-1) >>= λp=>match p with
    |some o=>if o=ab then pure (ForInStep.done (X,h.2)) else pure (ForInStep.yield (X,h.2+1))
    |d=>pure<|ForInStep.done (Z X,h.2))
    (λh b T=>m=T/\f=b/\∃H,h=(X,H)/\g<=H/\H<=a/\(∀v,M+1<=v->v<M+H->a7 y r (v-1)<=a7 y r v)/\(H=a\/a7 y r (M+H)<a7 y r (M+H-1))) f m:=by
 refine fm (pq (λd h b T=>m=T/\f=b/\h=(X,d)/\g<=d/\∀v,M+1<=v->v<M+d->a7 y r (v-1)<=a7 y r v) a ?_ _ _ _ _ _ ⋯ ?_ ⟨rfl,rfl,rfl,bD _,n⟩)
 ·rintro d h b T x ⟨rfl,rfl,rfl,j,e⟩;dsimp only;refine bf (qZ k l ⋯ ⋯ Rb ?_);dsimp only;by_cases i:a7 y r (M+d)<a7 y r (M+d-1)
  ·rw[aB ⇑i];exact bc ⟨rfl,rfl,d,rfl,j,⋯,e,.inr i⟩
  ·rw[aD ⇑i];refine bc ⟨rfl,rfl,rfl,⋯,λv t z=>?_⟩;by_cases c:v=M+d
   ·subst c;lia
   ·exact e v t ⋯
 ·rintro h b T ⟨rfl,rfl,rfl,j,e⟩;rw[show g+(a-g)=a by lia]at e ⊢;exact⟨rfl,rfl,a,rfl,⋯,bD _,e,.inl rfl⟩
def t5(M a H:Nat): StateT bt dy (Option Nat):=(qT M (M+H) >>= λ_ => (forIn [H:a] ((X:Option (Option Nat)),H) λd h => mR (M+h.2) (M+h.2-1) >>= λp => match p with
    |some b => if b=ab then pure (ForInStep.done (X,h.2)) else pure (ForInStep.yield (X,h.2+1))
    |d => pure<|ForInStep.done (Z X,h.2)) >>= λh => match h.1 with
    |some p => pure p
    |none => pure (Z h.2))
def E6(M d:Nat)(h:Option (Option Nat)×Nat×Nat):StateT bt dy (ForInStep<|Option (Option Nat)×Nat×Nat):=(mR (M+h.2.1) (M+h.2.1-1) >>= λp=>match p with
 |some a=>if a=ab then (if h.2.2>0 then qT (M+h.2.1-(h.2.2+1)) (M+h.2.1) >>= λ_=>pure (.yield (X,h.2.1+1,0)) else pure (.yield (X,h.2.1+1,0)))
  else mR (M+h.2.1-1) (M+h.2.1) >>= λp=>match p with
   |some b=>if b=ab then pure (.done (X,h.2.1,h.2.2)) else pure (.yield (X,h.2.1+1,h.2.2+1))
   |d=>pure (.done (Z X,h.2.1,h.2.2))
 |d=>pure (.done (Z X,h.2.1,h.2.2)))
def ug(M a H:Nat):StateT bt dy (Option Nat):=(liftM (PySem.rule "list.sort.descending-run") >>= λ_=>forIn [H+1:a] ((X:Option (Option Nat)),H+1,0) (E6 M) >>= λh=>match h.1 with
 |some p=>pure p
 |none=>if h.2.2>0 then qT (M+h.2.1-(h.2.2+1)) (M+h.2.1) >>= λ_=>t5 M a h.2.1 else t5 M a h.2.1)
def zp(i:fk s y (eQ Q_ D O Rx ao) m){M c H:Nat}(aN:M+c<=s){o r:Array Nat}{J:bt}(k:ly y s M o r)(j:ej Rx ao q J r)(l:1<=H)(n:H<=c)(p:∀v,M+1<=v->v<M+H->a7 y o v<=a7 y o (v-1)){A:Option Nat->bt->aq->Prop}(e:∀H b d,1<=H->H<=c->cT s b->ej Rx ao q d b->(∀a,a<M->b[a]?=o[a]?)->(∀v,M+1<=v->v<M+H->a7 y b (v-1)<=a7 y b v)->A (Z H) d m):kasC (aQ Q_ D) O Q7 (t5 M c H) A J m:=by
 unfold t5;refine bf (tB j λx Ro=>?_);have L:=r7 k.lJ (a:=M) (v:=M+H) ⋯;have aY:∀a,M<=a->a<M+H->a7 y (mu r M<|M+H) a=a7 y o (M+(M+H)-1-a):=λa g f=>(lB (by rw[L,aB ⟨g,f⟩])).trans (k.aY _);refine bf (hk (Fx i aN (k.lJ.rev M<|M+H) Ro l n λv z B=>?_) ?_)
 ·rw[aY _ ⋯ ⋯,aY _ ⋯ ⋯];have:=p (M+(M+H)-1-(v-1)) ⋯ ⋯;rw[show M+(M+H)-1-(v-1)-1=M+(M+H)-1-v by lia]at this;exact this
 ·rintro h d T ⟨rfl,rfl,t,rfl,C,u,w,E⟩;dsimp only;exact bc (e t _ _ ⋯ u (k.lJ.rev M<|M+H) Ro (λa U=>by rw[L,aD ⋯];exact k.be a U) w)
def zT(C:fk s y (eQ Q_ D O Rx ao) m){M p H:Nat}(aN:M+p<=s){o r:Array Nat}{J:bt}(k:ly y s M o r)(j:ej Rx ao q J r)(am:1<=H)(an:H<p)(R:∀v,M+1<=v->v<M+(H+1)->a7 y o v<=a7 y o (v-1)){A:Option Nat->bt->aq->Prop}(e:∀H B t,1<=H->H<=p->cT s B->ej Rx ao q t B->(∀a,a<M->B[a]?=o[a]?)->(∀v,M+1<=v->v<M+H->a7 y B (v-1)<=a7 y B v)->A (Z H) t m):kasC (aQ Q_ D) O Q7 (ug M p H) A J m:=by
 have aT:∀{d u:Nat},u+1<=d->(∀v,M+d-u<=v->v<M+d->a7 y o v=a7 y o (v-1))->∀n,M+d-(u+1)<=n->n<M+d->a7 y o n=a7 y o (M+d-(u+1)):=λ{d u} hd c n g f=>by
  have:=C6 (N:=a7 y o) (g:=M+d-(u+1)) (f:=M+d) (λv d i=>c v ⋯ i) (n-(M+d-(u+1))) ⋯
  rwa [show M+d-(u+1)+(n-(M+d-(u+1)))=n by lia]at this
 unfold ug;refine bf (nh<|ir ?_);refine bf (hk (a:=λh t T=>m=T/\∃l d u,h=(X,d,u)/\ej Rx ao q t l/\ly y s M o l/\H+1<=d/\d<=p/\u+1<=d/\(∀v,M+1<=v->v<M+d->a7 y o v<=a7 y o (v-1))/\∀v,M+d-u<=v->v<M+d->a7 y o v=a7 y o (v-1))
  (fm (pq (λd h t T=>m=T/\∃l u,h=(X,d,u)/\ej Rx ao q t l/\ly y s M o l/\H+1<=d/\u+1<=d/\(∀v,M+1<=v->v<M+d->a7 y o v<=a7 y o (v-1))/\∀v,M+d-u<=v->v<M+d->a7 y o v=a7 y o (v-1)) p ?RO _ _ _ _ _ ⋯ ?RQ ⟨rfl,r,0,rfl,j,k,bD _,⋯,R,λv g f=>⋯⟩)) ?S)
 case RO=>
  rintro d h t T as ⟨rfl,l,u,rfl,F,b,E,z,w,x⟩;unfold E6;dsimp only;refine bf (qZ C b.lJ ⋯ ⋯ F ?_);dsimp only;rw[b.aY,b.aY];by_cases I:a7 y o (M+d)<a7 y o (M+d-1)
  ·rw[aB ⇑I];have L:∀v,M+1<=v->v<M+(d+1)->a7 y o v<=a7 y o (v-1):=λv G U=>by
    by_cases c:v=M+d
    ·subst c;lia
    ·exact w v G ⋯
   by_cases hd:u>0
   ·rw[aB hd];refine bf (tB F λal Ro=>?_);exact bc ⟨rfl,_,0,rfl,Ro,b.rev ⋯ ⋯<|aT z x,⋯,⋯,L,λv g f=>⋯⟩
   ·rw[aD hd];exact bc ⟨rfl,l,0,rfl,F,b,⋯,⋯,L,λv g f=>⋯⟩
  ·rw[aD ⇑I];refine bf (qZ C b.lJ ⋯ ⋯ F ?_);dsimp only;rw[b.aY,b.aY];by_cases P:a7 y o (M+d-1)<a7 y o (M+d)
   ·rw[aB ⇑P];exact bc ⟨rfl,l,d,u,rfl,F,b,E,⋯,z,w,x⟩
   ·rw[aD ⇑P];refine bc ⟨rfl,l,u+1,rfl,F,b,⋯,⋯,λv G U=>?_,λv g f=>?_⟩
    ·by_cases c:v=M+d
     ·subst c;lia
     ·exact w v G ⋯
    ·by_cases c:v=M+d
     ·subst c;lia
     ·exact x v ⋯ ⋯
 case RQ=>
  rintro h t T ⟨rfl,l,u,rfl,F,b,E,z,w,x⟩;rw[show H+1+(p-(H+1))=p by lia] at *;exact⟨rfl,l,p,u,rfl,F,b,E,bD _,z,w,x⟩
 case S=>
  rintro h t T ⟨rfl,l,d,u,rfl,F,b,E,Q,z,w,x⟩;dsimp only;by_cases hd:u>0
  ·rw[aB hd];refine bf (tB F λal Ro=>?_);exact zp C aN (b.rev ⋯ ⋯<|aT z x) Ro ⋯ Q w e
  ·rw[aD hd];exact zp C aN b F ⋯ Q w e
def AX(M a:Nat): StateT bt dy (Option Nat):=((forIn [1:a] ((X:Option (Option Nat)),1) λd h => mR (M+h.2) (M+h.2-1) >>= λp => match p with
    |some b => if b=ab then pure (ForInStep.done (X,h.2)) else pure (ForInStep.yield (X,h.2+1))
    |d => pure<|ForInStep.done (Z X,h.2)) >>= λh => match h.1 with
    |some p => pure p
    |none => if (h.2==a)=ab then pure (Z h.2) else if h.2>1 then mR M (M+h.2-1) >>= λp => match p with
      |some c => if c=ab then pure (Z h.2) else qT M (M+h.2) >>= λ_ => ug M a h.2
      |d => pure X
      else ug M a h.2)
def Jd(M a:Nat):countRun' M a=AX M a:=by
 kernel_rfl
def G8(l:fk s y (eQ Q_ D O Rx ao) m){o:Array Nat}(b:cT s o){M d:Nat}(k:1<=d)(aN:M+d<=s){J:bt}(j:ej Rx ao q J o){A:Option Nat->bt->aq->Prop}(e:∀H i r,1<=H->H<=d->cT s i->ej Rx ao q r i->(∀a,a<M->i[a]?=o[a]?)->(∀v,M+1<=v->v<M+H->a7 y i (v-1)<=a7 y i v)->A (Z H) r m):
  kasC (aQ Q_ D) O Q7 (countRun' M d) A J m:=by
 rw[Jd];unfold AX;have z:ly y s M o o:=⟨b,λ_ Y=>rfl,λ_=>rfl⟩;refine bf (hk (Fx l aN b j (bD _) k λv g f=>⋯) ?_);rintro h r T ⟨rfl,rfl,H,rfl,t,B,p,F⟩;dsimp only;by_cases c:H=d
 ·rw[aB ⇑c];exact bc (e H o _ t B b j (λ_ Y=>rfl) p)
 rw[aD ⇑c];have G:a7 y o (M+H)<a7 y o (M+H-1):=F.resolve_left c;by_cases C:H>1
 ·rw[aB C];refine bf (qZ l b ⋯ ⋯ j ?_);dsimp only;by_cases E:a7 y o M<a7 y o (M+H-1)
  ·rw[aB ⇑E];exact bc (e H o _ t B b j (λ_ Y=>rfl) p)
  ·rw[aD ⇑E];have I:∀u,u<H->a7 y o M<=a7 y o (M+u)/\a7 y o (M+u)<=a7 y o (M+H-1):=by
    have L:∀u,u<H->a7 y o M<=a7 y o (M+u):=λu=>by
     induction u with
     |zero=>intro Y;exact j9 _
     |succ u w=>
      intro hd;have g:=p (M+(u+1)) ⋯ ⋯;rw[show M+(u+1)-1=M+u by lia]at g;have:=w ⋯;lia
    have N:∀u,u<H->a7 y o (M+H-1-u)<=a7 y o (M+H-1):=λu=>by
     induction u with
     |zero=>intro Y;exact j9 _
     |succ u w=>
      intro hd;have g:=p (M+H-1-u) ⋯ ⋯;rw[show M+H-1-u-1=M+H-1-(u+1) by lia]at g;have:=w ⋯;lia
    intro u hd;refine⟨L u hd,?_⟩;have:=N (H-1-u) ⋯
    rwa [show M+H-1-(H-1-u)=M+u by lia]at this
   have x:∀n,M<=n->n<M+H->a7 y o n=a7 y o M:=λn g f=>by
    have:=I (n-M) ⋯;rw[show M+(n-M)=n by lia]at this;lia
   refine bf (tB j λR Ro=>?_);exact zT (o:=o) l aN (z.rev (bD _) ⋯ x) Ro t ⋯ (λv P Q=>by
    by_cases c:v=M+H
    ·subst c;lia
    ·rw[x v ⋯ ⋯,x (v-1) ⋯ ⋯];exact j9 _) e
 rw[aD C];obtain rfl:H=1:=⋯
 exact zT (o:=o) l aN z j (bD _) ⋯ (λv P Q=>by
  obtain rfl:v=M+1:=⋯
  exact xg G) e
end
section
variable{Q_:bz}{D:bg}{O:bp}{Q7:af->aq->Prop}{Rx:fT}{ao:Array bb}{y:Nat->Int}{s:Nat}{m:aq}{q:Array (Nat×Nat×Nat)}
variable{o:Array Nat}
theorem d4.same:∀{B I:List (Nat×Nat×Nat)}{g f:Nat},d4 y o g B f->(B.map λd=>(d.1,d.2.1))=(I.map λd=>(d.1,d.2.1))->d4 y o g I f
 |[],[],g,f,e,_=>e
 |[],_::_,g,f,e,c=>by cases c
 |_::_,[],g,f,e,c=>by cases c
 | (d,C,j)::B,(k,l,m)::I,g,f,e,c=>by
  rw[bV,bV]at c;injection c with h i;injection h with a b;dsimp only at a b;subst a;subst b;exact⟨e.1,e.2.1,e.2.2.1,e.2.2.2.same i⟩
def Hp(x:Array (Nat×Nat×Nat))(a b:Nat):(x.toList.map λd=>(d.1,d.2.1))=((x.modify a λd=>(d.1,d.2.1,b)).toList.map λd=>(d.1,d.2.1)):=by
 apply oc;intro v;rw[gc,gc,gq,gq,Array.getElem?_modify];split
 ·rw[Option.map_map];rfl
 ·rfl
def hr.congr{r:Array Nat}{M H:Nat}(e:hr y o M H)(L:∀a,M<=a->a7 y r a=a7 y o a):hr y r M H:=λa v g f h=>by
 rw[L a g,L v ⋯];exact e a v g f h
def HV{az:gy}{O:bp}{Q7:af->aq->Prop}{w Ry:Type}{h:Nat->Prop}{c:∀H,Decidable (h H)}{b R1:Nat->StateT w dy Ry}{A:Ry->w->aq->Prop}{m:aq}(Ri:Nat->w->Prop)(j:∀H J,Ri H J->kasC az O Q7 (R1 H) A J m)(a:(∀H J,Ri H J->kasC az O Q7 (R1 H) A J m)->∀H J,h H->Ri H J->kasC az O Q7 (b H) A J m):∀H J,Ri H J->kasC az O Q7 (if h H then b H else R1 H) A J m:=λH J o=>
 if e:h H then by rw[aB e];exact a j H J e o else by rw[aD e];exact j H J o
variable{A:Unit->bt->aq->Prop}
def LZ(E:fk s y (eQ Q_ D O Rx ao) m)(l:2<=s)(be:∀w b,cT s w->jW y w s->arrOf b=w.map (ba ao)->hj b=X->A () b m):kasC (aQ Q_ D) O Q7 sortRuns' A (sW Rx ao (range s).toArray) m:=by
 rw[sortRuns'_eq];refine bf (jF ?_);dsimp only;have bi:(arrOf<|sW Rx ao (range s).toArray).size=s:=by
  show ((range s).toArray.map<|ba ao).size=s;simp
 simp only[bi];refine bf (hk (a:=λh b T=>m=T/\h=(X,s)/\∃q o,cT s o/\ej Rx ao q b o/\d4 y o 0 q.toList s)
  (fm (fZ (λd h b T=>m=T/\∃M q o,h=(X,M)/\d<=M/\M<=s/\cT s o/\ej Rx ao q b o/\d4 y o 0 q.toList M) ?step _ 0 _ _ _ ?fin ⟨rfl,0,#[],(range s).toArray,rfl,bD _,⋯,List.Perm.refl _,⟨rfl,rfl,rfl,rfl⟩,rfl⟩)) ?after)
 case fin=>
  rintro h b T ⟨rfl,M,q,o,rfl,g,f,u,c,N⟩;have:M=s:=⋯
  subst this;exact⟨rfl,rfl,q,o,u,c,N⟩
 case after=>
  rintro h b T ⟨rfl,rfl,q,o,t,j,Q8⟩;dsimp only;refine bf (hk (a:=λh b T=>m=T/\h=(X,())/\∃o,cT s o/\jW y o s/\arrOf b=o.map (ba ao)/\hj b=X)
   (fm (fZ (λd h b T=>m=T/\h=(X,())/\∃q o,cT s o/\ej Rx ao q b o/\d4 y o 0 q.toList s/\q.size+d<=s) ?F _ 0 _ _ _ ?f2 ⟨rfl,rfl,q,o,t,j,Q8,by have:=Q8.le;rw[fB]at this;lia⟩)) ?a2)
  case a2=>
   rintro h b T ⟨rfl,rfl,o,g,f,h,u⟩;exact bc (be o _ g f h u)
  case f2=>
   rintro h b T ⟨rfl,rfl,q,o,t,j,Q8,bm⟩;have c:q.toList=[]:=tA (by rw[fB];lia);rw[c]at Q8;have:0=s:=Q8;lia
  case F=>
   rintro d h b T ⟨rfl,rfl,q,o,t,j,Q8,bm⟩;refine bf (jF ?_);by_cases c:(g8 b).size<=1
   ·rw[aB c];refine bc ⟨rfl,rfl,o,t,?_,j.a,j.f⟩;rw[j.p]at c;have f7:q.toList.length<=1:=by rw[fB];exact c
    match al:q.toList,f7 with
    |[],_=>
     rw[al]at Q8;have:0=s:=Q8;lia
    |[(d,C,am)],_=>
     rw[al]at Q8;let@⟨rfl,_,bn,bs⟩:=Q8;have:0+C=s:=bs;exact λa v bv co=>bn a v (hY _) bv ⋯
    |_::_::_,e=>exact absurd e ↥0
   ·rw[aD c];rw[j.p]at c;have r4:∀Q,Q+1<q.size->kasC (aQ Q_ D) O Q7 (rF Q) (λf x F=>f=ab/\m=F/\∃q o,cT s o/\ej Rx ao q x o/\d4 y o 0 q.toList s/\q.size+(d+1)<=s) b m:=λQ ca=>
     Ey E t j ca Q8 (bD _) λR w cd g f h u an=>⟨rfl,rfl,R,w,g,f,u,⋯⟩;refine bf (hk (r4 _ ?_) ?_)
    ·rw[j.p];have:∀(h:Prop) [Decidable h],(if h then q.size-2-1 else q.size-2)+1<q.size:=λh Y=>by split<;>lia
     exact this _
    ·rintro f x F ⟨rfl,rfl,ce⟩;rw[aD ∅];exact bc ⟨rfl,rfl,ce⟩
 case step=>
  rintro d h b T ⟨rfl,M,q,o,rfl,cr,cs,t,j,Q8⟩;dsimp only;by_cases ap:M >= s
  ·rw[aB ap];have:M=s:=⋯
   subst this;exact bc ⟨rfl,rfl,q,o,t,j,Q8⟩
  rw[aD ap];refine bf (G8 E t ⋯ ⋯ j ?_);intro H as B z G I Rb a1 J;have r:H<=s-M/\1<=H/\∃o,cT s o/\ej Rx ao q B o/\d4 y o 0 q.toList M/\hr y o M H:=⟨G,z,as,I,Rb,Q8.congr λa Y f=>lB<|a1 a f,Ek J⟩;dsimp only;clear J a1 Rb I z G;revert H B;refine HV (λH B=>H<=s-M/\1<=H/\∃o,cT s o/\ej Rx ao q B o/\d4 y o 0 q.toList M/\hr y o M H) ?_ ?_
  ·intro H x r;let@⟨G,z,⟨@RR,L,Ro,bI,P⟩⟩:=r;refine bf (jF ?_);rcases db:(g8 x).back? with _|⟨ds,dL,eq⟩
   ·dsimp only;refine bf (ky ?_);refine bc ⟨rfl,M+H,q.push (M,H,0),RR,rfl,⋯,⋯,L,⟨Ro.k,Ro.a,by show (g8 x).push _=_;rw[Ro.p],Ro.f⟩,?_⟩;rw[AE];exact d4.app.mpr ⟨M,bI,rfl,⋯,P,rfl⟩
   ·dsimp only;refine bf (hk (a:=λh b T=>m=T/\h=(X,())/\∃q o,cT s o/\ej Rx ao q b o/\d4 y o 0 q.toList M/\hr y o M (H))
     (fm<|fZ (λd h b T=>m=T/\h=(X,())/\∃q o,cT s o/\ej Rx ao q b o/\d4 y o 0 q.toList M/\hr y o M (H)) ?_ _ 0 _ _ _ (λ_ Y Y am=>am) ⟨rfl,rfl,q,RR,L,Ro,bI,P⟩) ?_)
    ·rintro i h b T ⟨rfl,rfl,q,o,t,j,Q8,O⟩;refine bf (jF ?_);by_cases c:(g8 b).size>1
     ·rw[aB c];rcases ev:(g8 b)[(g8 b).size-2]? with _|⟨g,f,ex⟩
      ·dsimp only;exact bc ⟨rfl,rfl,q,o,t,j,Q8,O⟩
      ·dsimp only;split
       ·exact bc ⟨rfl,rfl,q,o,t,j,Q8,O⟩
       ·refine bf (Ey E t j (by rw[j.p]at c ⊢;lia) Q8 ⋯ ?_);intro R w cd g f h u an;rw[aD ∅];exact bc ⟨rfl,rfl,R,w,g,f,u,O.congr an⟩
     ·rw[aD c];dsimp only;exact bc ⟨rfl,rfl,q,o,t,j,Q8,O⟩
    ·rintro h b T ⟨rfl,rfl,q,o,t,j,Q8,O⟩;dsimp only;refine bf (ky ?_);refine bf (ky ?_);refine bc ⟨rfl,M+H,(q.modify (q.size-1) _).push (M,H,0),o,rfl,⋯,⋯,t,⟨j.k,j.a,by show ((g8 b).modify ((g8 b).size-1) _).push _=_;rw[j.p],j.f⟩,?_⟩;rw[AE];exact d4.app.mpr ⟨M,Q8.same<|Hp _ _ _,rfl,⋯,O,rfl⟩
  ·intro Rc H B fd r;let@⟨G,z,⟨@as,I,Rb,ch,J⟩⟩:=r;refine bf (nh<|ir ?_);have S:H<=min (s-M) (minRun' s s 0):=⋯
   have bd:min (s-M) (minRun' s s 0)<=s-M:=⋯
   generalize min (s-M) (minRun' s s 0)=ci at S bd ⊢;refine bf (IQ E I ⋯ z S J Rb ?_);intro RR x L Ro cl P;rw[aD ∅];exact Rc ci x ⟨bd,dD z S,RR,L,Ro,ch.congr λa Y f=>lB<|cl a f,P⟩
def NF(c:fk s y (eQ Q_ D O Rx ao) m)(l:2<=s)(e:s<1001\/∀v,1<=v->v<s->y (v-1)<=y v)(d:∀a b,cT s a->jW y a s->arrOf b=a.map (ba ao)->hj b=X->A () b m):kasC (aQ Q_ D) O Q7 sortRuns' A (sW Rx ao (range s).toArray) m:=LZ c l d
end
end L2
namespace L2
open Spec PyProof.Rows
section
variable{b:aK}{G:List (ar×a6)}{w:aX}{j:aw}{m:aq}{S:a4}
variable{R8:List ar}{RF:Nat}
def aF.Og{Rc:ar}{x:List ah}(t:aF b G w j m)(d:∀f∈R8,jI b G j f)(n:∀f Y,f∉R8->m.heap.get? f=Z Y->S.get? f=Z Y)(i:m.heap.objs.size<=Rc)(new:eh b.prog b.w (upd j Rc<|.tup x) S Rc (.tup x)):aF b G w (upd j Rc<|.tup x) {m with heap:=S,toks:=RF}:=by
 have h:j Rc=X:=t.aZ.fresh i;have o:∀f Y,m.heap.get? f=Z Y->f≠Rc:=λf Y c=>dg (ep (b6 c) i);have k:∀f I,j f=Z I->f∉R8:=λf I c z=>by rw[(d f z).1]at c;cases c
 refine t.step (L:=m.gens) (U:=m.drawn) (R8:=R8) (λf e=>⟨(d f e).2.2.2.1,(d f e).2.1,(d f e).2.2.2.2.1,(d f e).2.2.2.2.2⟩) (λf Y W W a c W=>n f Y a c) (λf Y W W a c W=>⟨Y.slots,n f Y a c⟩)
  (λf Y W c s=>by rw[cR (o f Y c)];exact s) (λf Y a c=>⟨Y,n f Y a c⟩) (λf Y W a c W=>n f Y a c) (λf Rj c=>by rw[cR (gP c h)];exact c) (λf Y I c=>by rw[cR (gP c h)];exact c)
  (λf Rg c=>⟨#[],by rw[cR (gP c h),c];simp⟩) (λH q=>?_) (λg Y c=>?_) t.bare
 ·let⟨Y,Q,@RU,u,p⟩:=q;exact⟨Y,Q,RU,n _ Y (λz=>(d _ z).2.1 rfl) u,p⟩
 ·by_cases l:g=Rc
  ·subst l;rw[ec]at c;cases c;exact new
  ·rw[cR l]at c;refine (t.aZ g Y c).iI (λf I e r=>n f I ?_ r) (λf r=>by rw[cR (gP r h)];exact r) λf Rj r=>by rw[cR (gP r h)];exact r
   rcases e with z|z
   ·rw[z];exact k g Y c
   ·exact k f _ z
def aF.O1(t:aF b G w j m)(d:∀f∈R8,jI b G j f)(n:∀f Y,f∉R8->m.heap.get? f=Z Y->S.get? f=Z Y):aF b G w j {m with heap:=S,toks:=RF}:=by
 have h:∀f I,j f=Z I->f∉R8:=λf I c z=>by rw[(d f z).1]at c;cases c
 refine t.step (L:=m.gens) (U:=m.drawn) (R8:=R8) (λf e=>⟨(d f e).2.2.2.1,(d f e).2.1,(d f e).2.2.2.2.1,(d f e).2.2.2.2.2⟩) (λf Y W W a c W=>n f Y a c) (λf Y W W a c W=>⟨Y.slots,n f Y a c⟩)
  (λf Y W W s=>s) (λf Y a c=>⟨Y,n f Y a c⟩) (λf Y W a c W=>n f Y a c) (λf Rj c=>c) (λf Y I c=>c) (λf Rg c=>⟨#[],by rw[c];simp⟩) (λH i=>?_) (λg Y c=>?_) t.bare
 ·let⟨Y,Q,@RU,k,p⟩:=i;exact⟨Y,Q,RU,n _ Y (λz=>(d _ z).2.1 rfl) k,p⟩
 ·refine (t.aZ g Y c).iI (λf I e r=>n f I ?_ r) (λf r=>r) λf Rj r=>r;rcases e with z|z
  ·rw[z];exact h g Y c
  ·exact h f _ z
end
section
variable{Q_:bz}{D:bg}{O:bp}{Q7:af->aq->Prop}{m:aq}
variable{a:Nat}{Rm:Array af}{A:af->aq->Prop}
def yj{ao B:ar}{d:af}(e:m.heap.IsTupleIter ao B a)(g:m.heap.IsTuple B Rm)(h:Rm[a]?=Z d)(r:∀S,S.IsTupleIter ao B (a+1)->a4.SameBut ao m.heap S->A d {m with heap:=S}):wpAny (aQ Q_ D) O (bq.SmallTypes.nextOf<|.ref ao) A Q7 m:=by
 let⟨@Y,c,i,b⟩:=id e;let⟨@ol,g1,W,⟨@k,j⟩⟩:=g;unfold bq.SmallTypes.nextOf;refine ay (lK (name:=aC.ofString "__next__") e.typeIs tv<|i1 tv e.typeIs Ap ?f<|Ez _)
 case f=>
  show wpAny _ _ (mj (.ref ao) 0 >>= _) _ _ m;refine ay (g7 c b (x:=.ref B) rfl ?_);show wpAny _ _ (if (af.ref B==af.none)=ab then _ else _) _ _ m;rw[aD (show ¬ (af.ref B==af.none)=ab by intro f;cases f)];show wpAny _ _ (mj (.ref ao) 1 >>= _) _ _ m;refine ay (g7 c b (x:=.int a 0) rfl ?_);show wpAny _ _ (ql (.ref B) >>= _) _ _ m;refine ay (h3 g1 j ?_);simp only[pw,h];refine ay (ur c b ↥0 (a3 ⟨d,rfl,a3 (r _ ⟨_,q_ _ c<|za<|tD b _,(DE ..).trans i,by rw[tD b];simp[jn]⟩<|tO ..)⟩))
def Fn{ao B:ar}(i:O.handled=X)(b:m.heap.IsTupleIter ao B a)(j:m.heap.IsTuple B Rm)(k:Rm[a]?=X)(r:∀S c,a4.ExtBut ao m.heap S->(∃Y,S.get? c=Z Y/\Y.cls=.type "StopIteration")->Q7 (.ref c) {m with heap:=S}):wpAny (aQ Q_ D) O (bq.SmallTypes.nextOf<|.ref ao) A Q7 m:=by
 let⟨@Y,e,n,f⟩:=id b;let⟨@ol,g1,W,⟨@o,l⟩⟩:=j;unfold bq.SmallTypes.nextOf;refine ay (lK (name:=aC.ofString "__next__") b.typeIs tv<|i1 tv b.typeIs Ap ?h<|Ez _)
 case h=>
  show wpAny _ _ (mj (.ref ao) 0 >>= _) _ _ m;refine ay (g7 e f (x:=.ref B) rfl ?_);show wpAny _ _ (if (af.ref B==af.none)=ab then _ else _) _ _ m;rw[aD (show ¬ (af.ref B==af.none)=ab by intro h;cases h)];show wpAny _ _ (mj (.ref ao) 1 >>= _) _ _ m;refine ay (g7 e f (x:=.int a 0) rfl ?_);show wpAny _ _ (ql (.ref B) >>= _) _ _ m;refine ay (h3 g1 l ?_);simp only[pw,k];refine ay (ir (ay (ur e f ↥0 ?_)));show wpAny _ _ (rR (.type "StopIteration") [] >>= _) _ _ _;apply ay;simp only[rR,yJ];refine ay (hs (ay (m:=t9 _ _) (tG (a:=af.none) (by first|rfl|(simp only[t9];rfl)) (hs ?_ (by size_fits)))) (by size_fits));simp only[raiseNew];apply ay;apply FH;rw[show O.in1.handled=X from i];refine ay (m:=pure _) (a3<|wpAny_throw ?_);exact r _ _ (((tO ..).extBut.push _).push _) ⟨_,dc _ rfl,rfl⟩
end
section
variable{Q_:bz}{D:bg}{O:bp}{Q7:af->aq->Prop}{m:aq}
variable{e S:a4}{g:ar}
def hZ{B:ar}{a:Nat}(d:e.IsTupleIter g B a)(n:∀Y,e.get? g=Z Y->S.get? g=Z Y):S.IsTupleIter g B a:=let ⟨Y,c,p⟩:=d;⟨Y,n Y c,p⟩
variable{x:Array af}
def nW(d:e.IsTuple g x)(n:∀Y,e.get? g=Z Y->S.get? g=Z Y):S.IsTuple g x:=let ⟨Y,c,p⟩:=d;⟨Y,n Y c,p⟩
variable{g f:af}{RP RJ:Nat}{Rj:Array af}
def JN{a cX cM e j s t:ar}{d i:af}{A:af->aq->Prop}(y:r6 a cX cM e j s t)(aN:iO m.heap a cX cM .none)(an:hP m.heap cX (.ref e) (.ref j))(ap:hP m.heap cM g f)(k:m.heap.IsTupleIter e s RP)(l:m.heap.IsTupleIter j t RJ)(as:m.heap.IsTuple s x)(a1:m.heap.IsTuple t Rj)(a2:x[RP]?=Z d)(bd:Rj[RJ]?=Z i)(be:∀S,iO S a cX cM (jn m.heap.objs.size)->hP S cM d i->S.IsTupleIter e s (RP+1)->S.IsTupleIter j t (RJ+1)->hP S m.heap.objs.size d i->
   (∀h Y,h≠a->h≠cM->h≠e->h≠j->m.heap.get? h=Z Y->S.get? h=Z Y)->A (.ref m.heap.objs.size) {m with heap:=S}):
  wpAny (aQ Q_ D) O (bq.«zip.__next__» ⟨[.ref a],[]⟩) (λfin T=>∃q,fin=.done (.ret q)/\A q T) Q7 m:=by
 show wpAny _ _ (mj (.ref a) 2 >>= _) _ _ _;refine ay (g7 aN rfl (x:=.bool ax) rfl ?_);show wpAny _ _ (mj (.ref a) 3 >>= _) _ _ _;refine ay (g7 aN rfl (x:=.ref cX) rfl<|ay<|h3 an rfl ?_);show wpAny _ _ (bq.SmallTypes.ownedTupleIsFree (.ref a) >>= _) _ _ _;apply ay;unfold bq.SmallTypes.ownedTupleIsFree;refine ay (g7 aN rfl (x:=.none) rfl<|a3 ?_);simp only[e8];refine ay (ir (ay (g7 aN rfl (x:=.ref cM) rfl (ay (nV aN ↥0 λM F n=>?_)))));replace F:iO M a cX cM .ellipsis:=F;apply ay;simp only[va,zG,sy,D1];refine ay (ay<|tl ?_);show wpAny _ _ (bq.SmallTypes.nextOf (.ref e) >>= _) _ _ _;refine ay (yj (m:={m with heap:=M}) (hZ k λY c=>n.extBut _ Y y.i1z c) (nW as λY c=>n.extBut _ Y y.l1z c) a2 λG bi p=>a3 ?_);have RM:hP G cM g f:=p.extBut _ _ y.TOi1 (n.extBut _ _ y.TOz ap);refine ay (h3 (s:={m with heap:=G}) RM rfl<|ay<|uZ (s:={m with heap:=G}) RM λN E r=>?_);replace E:hP N cM d f:=E;refine ay (m2<|a3<|ay<|ay<|tl ?_);show wpAny _ _ (bq.SmallTypes.nextOf (.ref j) >>= _) _ _ _;refine ay (yj (m:={m with heap:=N}) (hZ l λY c=>r.extBut _ Y y.TOi2.symm<|p.extBut _ Y y.i12.symm<|n.extBut _ Y y.i2z c) (nW a1 λY c=>r.extBut _ Y y.l2TO<|p.extBut _ Y y.l2i1<|n.extBut _ Y y.l2z c) bd λH bm u=>a3 ?_);have RH:hP H cM d f:=u.extBut _ _ y.TOi2 E;refine ay (h3 (s:={m with heap:=H}) RH rfl<|ay<|uZ (s:={m with heap:=H}) RH λb RK v=>?_);replace RK:hP b cM d i:=RK;refine ay (m2<|a3<|a3<|ay<|h3 (s:={m with heap:=b}) RK rfl<|ay<|BN ?_);have P:b.objs.size=m.heap.objs.size:=by rw[v.1,u.1,r.1,p.1,n.1]
 have Q:iO b a cX cM .ellipsis:=v.extBut _ _ y.TOz.symm (u.extBut _ _ y.i2z.symm<|r.extBut _ _ y.TOz.symm<|p.extBut _ _ y.i1z.symm F);have bn:∀h Y,h≠a->h≠cM->h≠e->h≠j->m.heap.get? h=Z Y->b.get? h=Z Y:=λh Y o w I J c=>v.extBut _ _ w (u.extBut _ _ J<|r.extBut _ _ w<|p.extBut _ _ I<|n.extBut _ _ o c);have dp:b.IsTupleIter e s (RP+1):=hZ bi λY c=>v.extBut _ Y y.TOi1.symm (u.extBut _ Y y.i12<|r.extBut _ Y y.TOi1.symm c);have dC:b.IsTupleIter j t (RJ+1):=hZ bm λY c=>v.extBut _ Y y.TOi2.symm c;have R:a<b.objs.size:=b6 Q;show wpAny _ _ (bq.SmallTypes.ownedTupleHandOut (.ref a) (.ref b.objs.size) >>= _) _ _ _;apply ay;unfold bq.SmallTypes.ownedTupleHandOut;have bs:iO (b.push {cls:=.type "tuple",data:=.seq #[d,i]}) a cX cM .ellipsis:=cp _ Q;refine ay (nV bs ↥0 λbv L U=>?_);replace L:iO bv a cX cM (jn b.objs.size):=L;refine nV L ↥0 λz B al=>?_;replace B:iO z a cX cM (jn b.objs.size):=B;have C:∀h Y,h≠a->b.get? h=Z Y->z.get? h=Z Y:=λh Y o c=>al.extBut _ _ o (U.extBut _ _ o<|cp _ c);have am:hP z b.objs.size d i:=al.extBut _ _ (kQ R) (U.extBut _ _ (kQ R)<|dc _ rfl);rw[P]at B am;refine a3 ⟨_,rfl,?_⟩;show A (.ref b.objs.size) _;rw[P];exact be z B (C _ _ y.TOz RK) (hZ dp λY c=>C _ Y y.i1z c) (hZ dC λY c=>C _ Y y.i2z c) am λh Y o w I J c=>C h Y o (bn h Y o w I J c)
def G4{a cX cM o p v w:ar}{A:PySem.Fin->aq->Prop}(J:O.handled=X)(y:r6 a cX cM o p v w)(aN:iO m.heap a cX cM .none)(T:hP m.heap cX (.ref o) (.ref p))(U:hP m.heap cM g f)(k:m.heap.IsTupleIter o v RP)(l:m.heap.IsTupleIter p w RJ)(L:m.heap.IsTuple v x)(al:m.heap.IsTuple w Rj)(am:x[RP]?=X\/Rj[RJ]?=X)(M:∀S c,(∀h Y,h≠a->h≠cM->h≠o->h≠p->m.heap.get? h=Z Y->S.get? h=Z Y)->(∃Y,S.get? c=Z Y/\Y.cls=.type "StopIteration")->Q7 (.ref c) {m with heap:=S}):
  wpAny (aQ Q_ D) O (bq.«zip.__next__» ⟨[.ref a],[]⟩) A Q7 m:=by
 show wpAny _ _ (mj (.ref a) 2 >>= _) _ _ _;refine ay (g7 aN rfl (x:=.bool ax) rfl ?_);show wpAny _ _ (mj (.ref a) 3 >>= _) _ _ _;refine ay (g7 aN rfl (x:=.ref cX) rfl<|ay<|h3 T rfl ?_);show wpAny _ _ (bq.SmallTypes.ownedTupleIsFree (.ref a) >>= _) _ _ _;apply ay;unfold bq.SmallTypes.ownedTupleIsFree;refine ay (g7 aN rfl (x:=.none) rfl<|a3 ?_);simp only[e8];refine ay (ir (ay (g7 aN rfl (x:=.ref cM) rfl (ay (nV aN ↥0 λz u b=>?_)))));replace u:iO z a cX cM .ellipsis:=u;apply ay;simp only[va,zG,sy,D1];refine ay (ay<|tl ?_);show wpAny _ _ (bq.SmallTypes.nextOf (.ref o) >>= _) _ _ _;cases B:x[RP]? with
 |none=>
  refine ay (Fn (m:={m with heap:=z}) J (hZ k λY c=>b.extBut _ Y y.i1z c) (nW L λY c=>b.extBut _ Y y.l1z c) B λq c i C=>?_);let⟨@F,j,s⟩:=C;have N:iO q a cX cM .ellipsis:=i _ _ y.i1z.symm u;have G:c≠a:=λr=>by subst r;rw[N]at j;cases j;simp at s
  refine nV N ↥0 λH W n=>M H c (λh Y t W I W r=>n.extBut _ _ t<|i _ _ I<|b.extBut _ _ t r) ⟨F,n.extBut _ _ G j,s⟩
 |some d=>
  have an:Rj[RJ]?=X:=by
   rcases am with e|e
   ·rw[B]at e;cases e
   ·exact e
  refine ay (yj (m:={m with heap:=z}) (hZ k λY c=>b.extBut _ Y y.i1z c) (nW L λY c=>b.extBut _ Y y.l1z c) B λq bd i=>a3 ?_);have RM:hP q cM g f:=i.extBut _ _ y.TOi1 (b.extBut _ _ y.TOz U);refine ay (h3 (s:={m with heap:=q}) RM rfl<|ay<|uZ (s:={m with heap:=q}) RM λH E n=>?_);refine ay (m2<|a3<|ay<|ay<|tl ?_);show wpAny _ _ (bq.SmallTypes.nextOf (.ref p) >>= _) _ _ _;refine ay (Fn (m:={m with heap:=H}) J (hZ l λY c=>n.extBut _ Y y.TOi2.symm<|i.extBut _ Y y.i12.symm<|b.extBut _ Y y.i2z c) (nW al λY c=>n.extBut _ Y y.l2TO<|i.extBut _ Y y.l2i1<|b.extBut _ Y y.l2z c) an λap c P C=>?_);let⟨@F,j,s⟩:=C;have Q:iO ap a cX cM .ellipsis:=P _ _ y.i2z.symm (n.extBut _ _ y.TOz.symm<|i.extBut _ _ y.i1z.symm u);have G:c≠a:=λr=>by subst r;rw[Q]at j;cases j;simp at s
  refine nV Q ↥0 λas W R=>M as c (λh Y t a1 I a2 r=>R.extBut _ _ t<|P _ _ a2<|n.extBut _ _ a1<|i.extBut _ _ I<|b.extBut _ _ t r) ⟨F,R.extBut _ _ G j,s⟩
end
variable{m:aq}{RS:bI}{RC RV RE:List Nat}{own Rg:List aC}{RX RD h c f g:a8}{Sg:List cJ}{Q7:nA}{J:cJ}{v s Sn:Nat}{Sh w:aX}{fd:gU}{d:aC}{ae x:List ah}{E:List V}{aP R3 O Q8 RB Rr RI Q9 P:List ar}{A:b2}{p Q:List a8}{RF:dV}{b:aK}{Ro Rb F j:aw}{q:ah}{o Rl:Pos}{R:Φ}
def jr(e:a4)(a b:ar):a4:=(((((e.push {cls:=.type "tuple_iterator",data:=.fields #[.ref a,.int 0 0]}).push {cls:=.type "tuple_iterator",data:=.fields #[.ref b,.int 0 0]}).push
 {cls:=.type "tuple",data:=.seq #[.ref e.objs.size,.ref (e.push {cls:=.type "tuple_iterator",data:=.fields #[.ref a,.int 0 0]}).objs.size]}).push {cls:=.type "tuple",data:=.seq #[.none,.none]}))
def IK(a b:ar)(x Rj:Array af):
    qd (bq.«zip.__new__» ⟨[.type "zip", .ref a,.ref b],[]⟩) (λ_ Q8 m => m.heap.IsTuple a x /\ m.heap.IsTuple b Rj /\
      Q8 (.ok<|.ret<|.ref (jr m.heap a b).objs.size) {m with heap:=(jr m.heap a b).push {cls:=.type "zip", data:=.fields #[.none,.bool ax,.bool ax,.ref ((m.heap.push {cls:=.type "tuple_iterator", data:=.fields #[.ref a,.int 0 0]}).push {cls:=.type "tuple_iterator", data:=.fields #[.ref b,.int 0 0]}).objs.size,
        .ref (((m.heap.push {cls:=.type "tuple_iterator", data:=.fields #[.ref a,.int 0 0]}).push {cls:=.type "tuple_iterator", data:=.fields #[.ref b,.int 0 0]}).push
  {cls:=.type "tuple", data:=.seq #[.ref m.heap.objs.size,.ref (m.heap.push {cls:=.type "tuple_iterator", data:=.fields #[.ref a,.int 0 0]}).objs.size]}).objs.size]} }) :=
  .of_wp λQ_ D O Q8 m e => by
    let⟨d,L,u,RN,Rq⟩:=m;let@⟨f,g,e⟩:=e;have j:=sub_zip;have h:a4.IsTuple (aq.heap ⟨d,L,u,RN,Rq⟩) a x:=f;have i:a4.IsTuple (aq.heap ⟨d.push {cls:=.type "tuple_iterator", data:=.fields #[.ref a,.int 0 0]}, L,u,RN,Rq⟩) b Rj:=nW g λY c => cp _ c
    wp_walk using wpAny_pyIter_tuple h,wpAny_pyIter_tuple i
    exact ⟨_,rfl,e⟩
def tJ(R:Φ)(g f:ar):eM:=(
 ⟨λa j=>∃x Rj d i,cj R j g x/\cj R j f Rj/\x[a]?=Z d/\Rj[a]?=Z i,
  λa j q F=>∃Rc d i,j Rc=X/\q=.ref Rc/\F=upd j Rc (.tup [d,i])/\(∀x,cj R j g x->x[a]?=Z d)/\(∀Rj,cj R j f Rj->Rj[a]?=Z i),
  λa j=>∃x Rj,cj R j g x/\cj R j f Rj/\(x.length<=a\/Rj.length<=a)⟩)
def Bc(g f d cX cM b c:ar)(a:Nat)(e:a4):Prop:=(iO e d cX cM .none/\hP e cX (.ref b) (.ref c)/\(∃o r,hP e cM o r)/\e.IsTupleIter b g a/\e.IsTupleIter c f a)
theorem ML{Ri:bz}{D:bg}(g f u cX cM z B:ar)(y:r6 u cX cM z B g f):
  qr Ri D R (.Tuple Q Sn Rl) (tJ R g f) [u,cX,cM,z,B] u (Bc g f u cX cM z B) where
 mem:=by simp
 obj:=λa e J h s=>by
  let@⟨k,l,⟨o,@r,v⟩,⟨@RH,U,_,bs⟩,⟨@RK,al,_,bv⟩⟩:=J;simp only[b9,nc,jv]at s;rcases s with rfl|rfl|rfl|rfl|rfl
  ·exact⟨_,k,λq c=>by cases c⟩
  ·exact⟨_,l,λq c=>by cases c⟩
  ·exact⟨_,v,λq c=>by cases c⟩
  ·exact⟨_,U,λq c=>by rw[bs]at c;cases c⟩
  ·exact⟨_,al,λq c=>by rw[bv]at c;cases c⟩
 keep:=λa e S J n=>by
  let@⟨k,l,⟨o,@r,v⟩,C,E⟩:=J;exact⟨n u ↥0 _ k,n cX ↥0 _ l,⟨o,r,n cM ↥0 _ v⟩,hZ C λY c=>n z ↥0 Y c,hZ E λY c=>n B ↥0 Y c⟩
 item:=by
  intro b am an ap s a G m w j Q7 t L J as;subst am an ap;let⟨x,Rj,d,@i,M,N,be,bi⟩:=as;let⟨@Rf,a1,o,aN⟩:=t.tuple M;let⟨@a2,bd,RR,ca⟩:=t.tuple N;let⟨@I,cd,ce⟩:=a1.get be;let⟨@bm,ch,ci⟩:=bd.get bi;have cl:=J;let@⟨k,l,⟨bL,@jh,v⟩,C,E⟩:=J;have H:m.TypeIs (.ref u) "zip" := ⟨_,k,rfl⟩;unfold hc;refine ay (rx (lK (name:=aC.ofString "__next__") H tf (i1 tf H BI
   (JN (A:=λq T=>wpAny (aQ b.prog b.w) b.A (pure<|Z q) (λp co=>∃I,p=Z I/\wpAny (aQ b.prog b.w) b.A (pH (.Tuple Q Sn Rl) (.ref u) I) (λ_ bn=>∃d F,aF b G w F bn/\bW d I/\(tJ b.K g f).qU a j d F/\Bc g f u cX cM z B (a+1) bn.heap/\∀f∈[u,cX,cM,z,B],F f=X) Q7 co) Q7 T)
    y k l v C E (show m.heap.IsTuple g Rf.toArray from o) (show m.heap.IsTuple f a2.toArray from RR) (d:=I) (i:=bm) ⇑cd ⇑ch λS cr cs db ds dL P=>a3 ⟨_,rfl,?_⟩) (Fz _))));refine wpAny_letOwnedTupleGo_zip cr λeq ev cy=>?_;have lt:∀h∈[u,cX,cM,z,B],h<m.heap.objs.size:=λh s=>by
   let@⟨k,l,⟨o,@r,v⟩,⟨@RH,U,_⟩,⟨@RK,al,_⟩⟩:=cl;simp only[b9,nc,jv]at s;rcases s with rfl|rfl|rfl|rfl|rfl
   ·exact b6 k
   ·exact b6 l
   ·exact b6 v
   ·exact b6 U
   ·exact b6 al
  have dG:∀h Y,h∉[u,cX,cM,z,B]->m.heap.get? h=Z Y->eq.get? h=Z Y:=λh Y s c=>by
   simp only[b9,nc,jv,not_or]at s;exact cy.extBut _ _ s.1 (P h Y s.1 s.2.2.1 s.2.2.2.1 s.2.2.2.2 c)
  have ex:m.heap.objs.size≠u:=kQ (lt u ↥0);have fd:j m.heap.objs.size=X:=t.aZ.fresh (bD _);refine⟨.ref m.heap.objs.size,upd j m.heap.objs.size<|.tup [d,i],t.Og (RF:=m.toks) L dG (bD _) ⟨by show 2<=sizeLine;decide,[I,bm],.cons ce<|.cons ci .nil,?_⟩,rfl,⟨_,d,i,fd,rfl,rfl,λRY aN=>?_,λRY aN=>?_⟩,?_,λh s=>?_⟩
  ·exact⟨_,cy.extBut _ _ ex dL,rfl,0,rfl⟩
  ·rw[t.vC aN M];exact be
  ·rw[t.vC aN N];exact bi
  ·exact⟨ev,cy.extBut _ _ y.TIz<|P _ _ y.TIz y.TITO y.TIi1 y.TIi2 l,⟨_,_,cy.extBut _ _ y.TOz cs⟩,hZ db λY c=>cy.extBut _ Y y.i1z c,hZ ds λY c=>cy.extBut _ Y y.i2z c⟩
  ·rw[cR (dg<|lt h s)];exact (L h s).1
 done:=by
  intro b am an ap s a G m w j Q7 t L J as;subst am an ap;let⟨x,@Rj,M,N,fn⟩:=as;let⟨@Rf,a1,o,aN⟩:=t.tuple M;let⟨@a2,bd,RR,ca⟩:=t.tuple N;let@⟨k,l,⟨bL,@jh,v⟩,C,E⟩:=J;have H:m.TypeIs (.ref u) "zip" := ⟨_,k,rfl⟩;have f1:=a1.length;have f2:=bd.length;unfold hc;refine ay (rx (lK (name:=aC.ofString "__next__") H tf (i1 tf H BI
   (G4 (t.ok.hd s) y k l v C E (show m.heap.IsTuple g Rf.toArray from o) (show m.heap.IsTuple f a2.toArray from RR) (by
    rcases fn with e|e
    ·exact .inl (by simp;lia)
    ·exact .inr (by simp;lia)) λS c P ⟨Y,fr,f0⟩=>?_) (Fz _))))
  refine ay (rI (T := "StopIteration") (b:=ab) ⟨Y,fr,f0⟩ AR<|a3 ⟨rfl,t.O1 (RF:=m.toks) L λh Y s c=>?_⟩);simp only[b9,nc,jv,not_or]at s;exact P h Y s.1 s.2.2.1 s.2.2.2.1 s.2.2.2.2 c
 self:=λ_ W W W W J e=>D2 J.1 e
section
variable{b:aK}
def GP(R:Φ)(z:es):cX:=(λw j Q8=>z w j λae Rb=>∃g f,ae=[.ref g,.ref f]/\(∃x,cj R Rb g x)/\(∃Rj,cj R Rb f Rj)/\Q8 (tJ R g f) Rb)
def Jj{z:es}{Rg:Pos}(I:eU b "zip")(J:b.aO "zip" = X)(L:gw b [g,f] z)(M:bF [g,f] b.env=[(ax,bR g b.env),(ax,bR f b.env)]:=by rfl)(u:bF [f] b.env=[(ax,bR f b.env)]:=by rfl):
  kL b (.Tuple Q Sn Rg) (.Call (.Name "zip" o) [g,f] [] Rl) (GP b.K z):=by
 intro G m w j Q8 t e;refine Call_ (nk t I J boot_zip (pX (bK (L Rl G m w j _ t e) λRv a ⟨ae,Rb,k,N,O⟩=>?_) (by rw[M,u]) (by rw[u];rfl)));let⟨d,@i,c,⟨@x,S⟩,⟨@Rj,T⟩,r⟩:=O;subst c;cases N with
 |cons p q=>
  cases q with
  |cons RS q=>
   cases q;cases p;cases RS;let⟨@Rf,an,o,aN⟩:=k.tuple S;let⟨@U,ap,RR,as⟩:=k.tuple T;have al:d<a.heap.objs.size:=by let⟨@Y,c,R⟩:=o;exact b6 c
   have c1:i<a.heap.objs.size:=by let⟨@Y,c,R⟩:=RR;exact b6 c
   refine callType_new F.called_zip ∅ (F.typeCall_zip_2 _ _) (F.newCall_zip_2 _ _) (λam=>F.args_object_init_3 am _ _) F.entry_zip_new (IK d i Rf.toArray U.toArray) ⟨o,RR,?_⟩;have s:(a.heap.push {cls:=.type "tuple_iterator",data:=.fields #[.ref d,.int 0 0]}).objs.size=a.heap.objs.size+1:=lh ..;have l:((a.heap.push {cls:=.type "tuple_iterator",data:=.fields #[.ref d,.int 0 0]}).push {cls:=.type "tuple_iterator",data:=.fields #[.ref i,.int 0 0]}).objs.size=a.heap.objs.size+2:=by rw[lh,s]
   have n:(((a.heap.push {cls:=.type "tuple_iterator",data:=.fields #[.ref d,.int 0 0]}).push {cls:=.type "tuple_iterator",data:=.fields #[.ref i,.int 0 0]}).push
    {cls:=.type "tuple",data:=.seq #[.ref a.heap.objs.size,.ref (a.heap.push {cls:=.type "tuple_iterator",data:=.fields #[.ref d,.int 0 0]}).objs.size]}).objs.size=a.heap.objs.size+3:=by rw[lh,l]
   have v:(jr a.heap d i).objs.size=a.heap.objs.size+4:=by unfold jr;rw[lh,n]
   show _/\_;refine⟨⟨_,dc _ rfl,rfl⟩,D2 (TI:=a.heap.objs.size+2) (TO:=a.heap.objs.size+3) (f0:=.none) ?_ ?_⟩
   ·rw[l,n];exact dc _ rfl
   ·rw[l,n,v];have A:((jr a.heap d i).push {cls:=.type "zip",data:=.fields #[.none,.bool ax,.bool ax,.ref<|a.heap.objs.size+2,.ref<|a.heap.objs.size+3]}).get? (a.heap.objs.size+4)=Z {cls:=.type "zip",data:=.fields #[.none,.bool ax,.bool ax,.ref<|a.heap.objs.size+2,.ref<|a.heap.objs.size+3]}:=by rw[<-v];exact dc _ rfl
    have B:((jr a.heap d i).push {cls:=.type "zip",data:=.fields #[.none,.bool ax,.bool ax,.ref<|a.heap.objs.size+2,.ref<|a.heap.objs.size+3]}).get? (a.heap.objs.size+3)=Z {cls:=.type "tuple",data:=.seq #[.none,.none]}:=by
     rw[<-n];exact cp _ (dc _ rfl)
    have C:((jr a.heap d i).push {cls:=.type "zip",data:=.fields #[.none,.bool ax,.bool ax,.ref<|a.heap.objs.size+2,.ref<|a.heap.objs.size+3]}).get? (a.heap.objs.size+2)=Z {cls:=.type "tuple",data:=.seq #[.ref a.heap.objs.size,.ref<|a.heap.objs.size+1]}:=by
     rw[<-l,<-s];exact cp _ (cp _<|dc _ rfl)
    have D:((jr a.heap d i).push {cls:=.type "zip",data:=.fields #[.none,.bool ax,.bool ax,.ref<|a.heap.objs.size+2,.ref<|a.heap.objs.size+3]}).get? (a.heap.objs.size+1)=Z {cls:=.type "tuple_iterator",data:=.fields #[.ref i,.int 0 0]}:=by
     rw[<-s];exact cp _ (cp _<|cp _<|dc _ rfl)
    have E:((jr a.heap d i).push {cls:=.type "zip",data:=.fields #[.none,.bool ax,.bool ax,.ref<|a.heap.objs.size+2,.ref<|a.heap.objs.size+3]}).get? a.heap.objs.size=Z {cls:=.type "tuple_iterator",data:=.fields #[.ref d,.int 0 0]}:=
     cp _ (cp _<|cp _<|cp _<|dc _ rfl);have dG:∀h Y,a.heap.get? h=Z Y->((jr a.heap d i).push {cls:=.type "zip",data:=.fields #[.none,.bool ax,.bool ax,.ref<|a.heap.objs.size+2,.ref<|a.heap.objs.size+3]}).get? h=Z Y:=λh Y c=>
     cp _ (cp _<|cp _<|cp _<|cp _ c);generalize ((jr a.heap d i).push {cls:=.type "zip",data:=.fields #[.none,.bool ax,.bool ax,.ref<|a.heap.objs.size+2,.ref<|a.heap.objs.size+3]})=a1 at E D C B A dG ⊢;have y:r6 (a.heap.objs.size+4) (a.heap.objs.size+2) (a.heap.objs.size+3) a.heap.objs.size (a.heap.objs.size+1) d i:=PySem.W.ktu_apart _ _ _ al c1;refine⟨_,_,_,_,Rb,rfl,k.kept (RF:=a.toks) dG,ML d i _ _ _ _ _ y,⟨A,C,⟨_,_,B⟩,⟨_,E,rfl,rfl⟩,⟨_,D,rfl,rfl⟩⟩,λh H=>?_,r⟩;have:a.heap.objs.size<=h:=by
     simp only[b9,nc,jv]at H;rcases H with rfl|rfl|rfl|rfl|rfl
     ·exact nP _ _
     ·exact nP _ _
     ·exact nP _ _
     ·exact bD _
     ·exact nP _ _
    exact k.sN this (k.aZ.fresh this)
end
def zh(R:Φ)(j:aw)(d:ah)(Rc:String)(f:Bool):Prop:=(
 (∃a,d=.int a/\((Rc = "int" /\ f=ab)\/(Rc = "tuple" /\ f=ax)\/(Rc = "str" /\ f=ax)\/(Rc = "bool" /\ f=ax)\/(Rc = "list" /\ f=ax)))\/
 (∃a,d=.aG a/\((Rc = "bool" /\ f=ab)\/(Rc = "int" /\ f=ab)\/(Rc = "tuple" /\ f=ax)\/(Rc = "str" /\ f=ax)\/(Rc = "list" /\ f=ax)))\/
 (∃a,d=.str a/\((Rc = "str" /\ f=ab)\/(Rc = "int" /\ f=ax)\/(Rc = "tuple" /\ f=ax)\/(Rc = "bool" /\ f=ax)\/(Rc = "list" /\ f=ax)))\/
 (∃g x,d=.ref g/\cj R j g x/\((Rc = "tuple" /\ f=ab)\/(Rc = "int" /\ f=ax)\/(Rc = "str" /\ f=ax)\/(Rc = "bool" /\ f=ax)\/(Rc = "list" /\ f=ax)))\/
 (∃g x,d=.ref g/\cW R j g x/\((Rc = "list" /\ f=ab)\/(Rc = "int" /\ f=ax)\/(Rc = "str" /\ f=ax)\/(Rc = "bool" /\ f=ax)\/(Rc = "tuple" /\ f=ax))))
section
variable{b:aK}
def JV:eA b (.builtin "isinstance") (λx j A=>∃d Rc f,x=[d,.ty Rc]/\zh b.K j d Rc f/\A (.aG f) j):=by
 intro G m w j x Rv A t p e;let⟨d,Rc,@f,rfl,U,r⟩:=e;cases p with
 |cons p k=>
  cases k with
  |cons RS k=>
   cases k;cases RS;have Rn:∀{f:Bool},A (.aG f) j->eb b G w A (.bool f) m:=λ{f} r=>⟨.aG f,j,t,rfl,r⟩;have c:∀{f:Bool},A (.aG f) j->eb b G w A (.bool f) {m with toks:=m.toks+1}:=λ{f} r=>⟨.aG f,j,t.tok _,rfl,r⟩;rcases U with ⟨a,rfl,U⟩|⟨a,rfl,U⟩|⟨a,rfl,U⟩|⟨g,x,rfl,l,U⟩|⟨g,x,rfl,l,U⟩
   ·let⟨@B,rfl⟩:=p;rcases U with ⟨rfl,rfl⟩|⟨rfl,rfl⟩|⟨rfl,rfl⟩|⟨rfl,rfl⟩|⟨rfl,rfl⟩
    ·exact IsiPair.int_int (Rn r)
    ·exact IsiPair.int_tuple (c r)
    ·exact IsiPair.int_str (c r)
    ·exact IsiPair.int_bool (c r)
    ·exact IsiPair.int_list (c r)
   ·cases p;rcases U with ⟨rfl,rfl⟩|⟨rfl,rfl⟩|⟨rfl,rfl⟩|⟨rfl,rfl⟩|⟨rfl,rfl⟩
    ·exact IsiPair.bool_bool (Rn r)
    ·exact IsiPair.bool_int (Rn r)
    ·exact IsiPair.bool_tuple (c r)
    ·exact IsiPair.bool_str (c r)
    ·exact IsiPair.bool_list (c r)
   ·let⟨@B,rfl⟩:=p;rcases U with ⟨rfl,rfl⟩|⟨rfl,rfl⟩|⟨rfl,rfl⟩|⟨rfl,rfl⟩|⟨rfl,rfl⟩
    ·exact IsiPair.str_str (Rn r)
    ·exact IsiPair.str_int (c r)
    ·exact IsiPair.str_tuple (c r)
    ·exact IsiPair.str_bool (c r)
    ·exact IsiPair.str_list (c r)
   ·cases p;let⟨@Rf,n,⟨@Y,h,i,W⟩,aN⟩:=t.tuple l;rcases U with ⟨rfl,rfl⟩|⟨rfl,rfl⟩|⟨rfl,rfl⟩|⟨rfl,rfl⟩|⟨rfl,rfl⟩
    ·exact IsiPair.tuple_tuple h i (Rn r)
    ·exact IsiPair.tuple_int h i (c r)
    ·exact IsiPair.tuple_str h i (c r)
    ·exact IsiPair.tuple_bool h i (c r)
    ·exact IsiPair.tuple_list h i (c r)
   ·cases p;let⟨@Rf,n,o,aN⟩:=t.list l;let⟨@Y,h,i,W⟩:=o.isList;rcases U with ⟨rfl,rfl⟩|⟨rfl,rfl⟩|⟨rfl,rfl⟩|⟨rfl,rfl⟩|⟨rfl,rfl⟩
    ·exact IsiPair.list_list h i (Rn r)
    ·exact IsiPair.list_int h i (c r)
    ·exact IsiPair.list_str h i (c r)
    ·exact IsiPair.list_bool h i (c r)
    ·exact IsiPair.list_tuple h i (c r)
def OG:∀{bs:List Bool}{Rv:List af},bN (bs.map ah.aG) Rv->∀(a:Nat) (q:af),Rv[a]?=Z q->∃f,bs[a]?=Z f/\q=af.bool f:=by
 intro bs Rv p a q e;have b:=p.length;rw[bH]at b;have U:a<bs.length:=by rw[b];exact (fR.mp e).1
 let⟨@I,c,g⟩:=p.get (a:=a) (d:=ah.aG bs[a]) (by simp[U]);rw[e]at c;cases c;exact⟨bs[a],by simp[U],g⟩
def IS(i:b.calm=ab):eA b (.builtin "all") (λx j A=>∃C bs,x=[.ref C]/\j C=Z (.lst<|List.map ah.aG bs)/\A (.aG<|bs.all id) j):=by
 intro G m w j x Rv A t p e;let⟨C,@bs,rfl,k,r⟩:=e;let⟨@I,rfl,l⟩:=iM p;cases l;let@⟨z,⟨Rf,@s,d,c⟩⟩:=t.aZ C _ k;have g:m.heap.IsList C Rf.toArray:=⟨_,c,rfl,s,rfl⟩;refine call_all_walk (uq g ⟨m.heap.objs.size,[m.heap.objs.size,C],[m.heap.objs.size],Rf.toArray.size,_,_,λa=>(bs[a]?).getD ab,rfl,mK.list (A:=b.A.in1) (t.ok.hd i) _ C (dg<|b6 c) Rf.toArray,
  ⟨⟨_,dc _ rfl,rfl,rfl⟩,g.push _⟩,λa q T v y n h=>?_,λS RN o=>?_⟩)
 ·let⟨@f,u,rfl⟩:=OG d a q ⇑n;simp only[u,vF]at h;exact md h
 ·have f7:Rf.toArray.size=bs.length:=by
   have:=d.length;rw[bH]at this;rw[cH,this]
  rw[f7,LSm.range_all];exact⟨.aG _,j,t.kept<|LSm.kept_iter o,rfl,r⟩
def GO:dP b (fC .Mult) (nR IntMulOk λa v=>.int<|a*v):=rz λ_ Y Y Y Y Y Y c r=>mul_int r c
end
inductive ak where
 | im (u:V)
 | ek
 | cK (E:List V)
 | lst (E:List V)
 | dh (Rd:List (d6×V))
 | aS (Rd:List (List V×V))
 | gb (x:List ak)
 | od (x:List ak)
 | mA (Rd:List (List V×V))
 | dL (Rd:List (List V×List V))
variable{RL:List ak->Option ak}{N:ak->ak->Option ak}{Y:Option ak}{u:ak}
abbrev aU:=List (Option ak)
variable{Rw y:aU}{e:List ak->aU->Option aU}
abbrev d7{Rx:Type}(j:aw):List (Rx×V)->List (Rx×ah)->Prop:=d3 λo r=>o.1=r.1/\cg j o.2 r.2
def d7.mono{Rx:Type}{C:List (Rx×V)}{H:List (Rx×ah)}(B:o9 j F)(e:d7 j C H):d7 F C H:=d3.sE e λ_ Y a=>⟨a.1,a.2.mono B⟩
structure e4(j F:aw):Prop where
 tup:o9 j F
 dx:∀g Y I,j g=Z (.dx Y I)->F g=Z (.dx Y I)
def fK(j:aw):List (List V×List V)->List (List V×ah)->List ar->Prop
 |[],t,Q9=>t=[]/\Q9=[]
 |o::p,t,Q9=>∃f x D a,t=(o.1,.ref f)::D/\j f=Z (.lst x)/\bA j o.2 x/\fK j p D a/\Q9=f::a
theorem fK.mono{j F:aw}(B:e4 j F):∀{C:List (List V×List V)}{t:List (List V×ah)}{Q9:List ar},fK j C t Q9->(∀g∈Q9,∀Y,j g=Z Y->F g=Z Y)->fK F C t Q9
 |[],_,_,e,_=>e
 |o::p,t,Q9,e,n=>by
  let⟨f,x,D,@a,c,k,l,b,rfl⟩:=e;exact⟨f,x,D,a,c,n f (.head _) _ k,l.mono B.tup,fK.mono B b λg d=>n g<|.tail _ d,rfl⟩
mutual
def b_(j:aw):ak->ah->List ar->Prop
 |.im u,q,P=>cg j u q/\P=[]
 |.ek,_,P=>P=[]
 |.cK E,q,P=>∃g x Y,q=.ref g/\j g=Z (.dx Y<|.lst x)/\bA j E x/\P=[]
 |.lst E,q,P=>∃g x,q=.ref g/\j g=Z (.lst x)/\bA j E x/\P=[g]
 |.dh Rd,q,P=>∃g U,q=.ref g/\j g=Z (.dh U)/\d7 j Rd U/\P=[g]
 |.aS Rd,q,P=>∃g U,q=.ref g/\j g=Z (.aS U)/\d7 j Rd U/\P=[g]
 |.gb E,q,P=>∃g x Q9,q=.ref g/\j g=Z (.lst x)/\dE j E x Q9/\P=g::Q9
 |.od E,q,P=>∃g x,q=.ref g/\j g=Z (.tup x)/\dE j E x P
 |.mA Rd,q,P=>∃g U Y,q=.ref g/\j g=Z (.dx Y<|.aS U)/\d7 j Rd U/\P=[]
 |.dL Rd,q,P=>∃g U Q9,q=.ref g/\j g=Z (.aS U)/\fK j Rd U Q9/\P=g::Q9
def dE(j:aw):List ak->List ah->List ar->Prop
 |[],ae,P=>ae=[]/\P=[]
 |u::E,ae,P=>∃q p Rr RB,ae=q::p/\b_ j u q Rr/\dE j E p RB/\P=Rr++RB
end
mutual
theorem b_.mono{j F:aw}(B:e4 j F):∀{u:ak}{q:ah}{P:List ar},b_ j u q P->(∀g∈P,∀Y,j g=Z Y->F g=Z Y)->b_ F u q P
 |.im u,q,P,e,_=>⟨e.1.mono B.tup,e.2⟩
 |.ek,q,P,e,_=>e
 |.cK E,q,P,e,_=>by
  let⟨g,x,@Y,rfl,k,l,rfl⟩:=e;exact⟨g,x,Y,rfl,B.dx _ _ _ k,l.mono B.tup,rfl⟩
 |.lst E,q,P,e,n=>by
  let⟨g,@x,rfl,k,l,rfl⟩:=e;exact⟨g,x,rfl,n g (.head _) _ k,l.mono B.tup,rfl⟩
 |.dh Rd,q,P,e,n=>by
  let⟨g,@x,rfl,k,l,rfl⟩:=e;exact⟨g,x,rfl,n g (.head _) _ k,l.mono B.tup,rfl⟩
 |.aS Rd,q,P,e,n=>by
  let⟨g,@x,rfl,k,l,rfl⟩:=e;exact⟨g,x,rfl,n g (.head _) _ k,l.mono B.tup,rfl⟩
 |.gb E,q,P,e,n=>by
  let⟨g,x,@Q9,rfl,k,l,rfl⟩:=e;exact⟨g,x,Q9,rfl,n g (.head _) _ k,dE.mono B l λf a=>n f<|.tail _ a,rfl⟩
 |.od E,q,P,e,n=>by
  let⟨g,@x,rfl,k,l⟩:=e;exact⟨g,x,rfl,B.tup g x k,dE.mono B l n⟩
 |.mA Rd,q,P,e,_=>by
  let⟨g,x,@Y,rfl,k,l,rfl⟩:=e;exact⟨g,x,Y,rfl,B.dx _ _ _ k,l.mono B.tup,rfl⟩
 |.dL Rd,q,P,e,n=>by
  let⟨g,U,@Q9,rfl,k,l,rfl⟩:=e;exact⟨g,U,Q9,rfl,n g (.head _) _ k,l.mono B λf a=>n f<|.tail _ a,rfl⟩
theorem dE.mono{j F:aw}(B:e4 j F):∀{E:List ak}{ae:List ah}{P:List ar},dE j E ae P->(∀g∈P,∀Y,j g=Z Y->F g=Z Y)->dE F E ae P
 |[],ae,P,e,_=>e
 |u::E,ae,P,e,n=>by
  let⟨q,p,Rr,@RB,rfl,k,l,rfl⟩:=e;exact⟨q,p,Rr,RB,rfl,b_.mono B k λg a=>n g<|eX _ a,dE.mono B l λg a=>n g<|en _ a,rfl⟩
end
def eV(j:aw)(g:ar):Prop:=(∃Y,j g=Z Y/\(∀x,Y≠.tup x)/\∀o I,Y≠.dx o I)
theorem fK.chg{j:aw}:∀{C:List (List V×List V)}{t:List (List V×ah)}{Q9:List ar},fK j C t Q9->∀g∈Q9,eV j g
 |[],_,Q9,e,g,a=>by rw[e.2]at a;cases a
 |o::p,t,Q9,e,g,a=>by
  let⟨f,x,D,@d,c,k,l,b,rfl⟩:=e;rcases b9.mp a with rfl|a
  ·exact⟨_,k,(λ_ c=>by cases c),(λ_ Y c=>by cases c)⟩
  ·exact fK.chg b g a
mutual
theorem b_.chg{j:aw}:∀{u:ak}{q:ah}{P:List ar},b_ j u q P->∀g∈P,eV j g
 |.im u,q,P,e,g,b=>by rw[e.2]at b;cases b
 |.ek,q,P,e,g,b=>by rw[show P=[] from e]at b;cases b
 |.cK E,q,P,e,f,a=>by
  let⟨g,x,@Y,rfl,k,l,rfl⟩:=e;cases a
 |.lst E,q,P,e,f,a=>by
  let⟨g,@x,rfl,k,l,rfl⟩:=e;rw[cV.mp a];exact⟨_,k,(λ_ c=>by cases c),(λ_ W c=>by cases c)⟩
 |.dh Rd,q,P,e,f,a=>by
  let⟨g,@x,rfl,k,l,rfl⟩:=e;rw[cV.mp a];exact⟨_,k,(λ_ c=>by cases c),(λ_ W c=>by cases c)⟩
 |.aS Rd,q,P,e,f,a=>by
  let⟨g,@x,rfl,k,l,rfl⟩:=e;rw[cV.mp a];exact⟨_,k,(λ_ c=>by cases c),(λ_ W c=>by cases c)⟩
 |.gb E,q,P,e,f,a=>by
  let⟨g,x,@Q9,rfl,k,l,rfl⟩:=e;rcases b9.mp a with rfl|a
  ·exact⟨_,k,(λ_ c=>by cases c),(λ_ W c=>by cases c)⟩
  ·exact dE.chg l f a
 |.od E,q,P,e,f,a=>by
  let⟨g,@x,rfl,k,l⟩:=e;exact dE.chg l f a
 |.mA Rd,q,P,e,f,a=>by
  let⟨g,x,@Y,rfl,k,l,rfl⟩:=e;cases a
 |.dL Rd,q,P,e,f,a=>by
  let⟨g,U,@Q9,rfl,k,l,rfl⟩:=e;rcases b9.mp a with rfl|a
  ·exact⟨_,k,(λ_ c=>by cases c),(λ_ W c=>by cases c)⟩
  ·exact l.chg f a
theorem dE.chg{j:aw}:∀{E:List ak}{ae:List ah}{P:List ar},dE j E ae P->∀g∈P,eV j g
 |[],ae,P,e,g,a=>by rw[e.2]at a;cases a
 |u::E,ae,P,e,g,a=>by
  let⟨q,p,Rr,@RB,rfl,k,l,rfl⟩:=e;rcases dY.mp a with a|a
  ·exact b_.chg k g a
  ·exact dE.chg l g a
end
theorem dE.length:∀{E:List ak}{ae:List ah}{P:List ar},dE j E ae P->E.length=ae.length
 |[],ae,P,e=>by rw[e.1];rfl
 |u::E,ae,P,e=>by
  let⟨q,p,Rr,@RB,rfl,k,l,rfl⟩:=e;rw[dd,dd,l.length]
theorem bA.length:∀{E:List V}{ae:List ah},bA j E ae->E.length=ae.length
 |[],ae,e=>by rw[show ae=[] from e];rfl
 |u::E,ae,e=>by
  let⟨q,@p,rfl,k,l⟩:=e;rw[dd,dd,l.length]
def lz(j:aw):Option ak->Option ah->List ar->Prop
 |none,_,P=>P=[]
 |some u,d,P=>∃q,d=Z q/\b_ j u q P
def br(j:aw):aU->aX->List ar->Prop
 |[],w,P=>w=[]/\P=[]
 |Y::y,w,P=>∃d p Rr RB,w=d::p/\lz j Y d Rr/\br j y p RB/\P=Rr++RB
structure a5(j:aw)(P:List ar)(F:aw)(RI:List ar):Prop where
 keep:∀g Y,j g=Z Y->g∉P->F g=Z Y
 sub:∀g∈RI,g∈P\/j g=X
 ai:RI.Nodup
 tup:e4 j F
 grow:∀g Y,j g=Z Y->∃M,F g=Z M
theorem lz.mono(B:e4 j F):∀{Y:Option ak}{d:Option ah}{P:List ar},lz j Y d P->(∀g∈P,∀Y,j g=Z Y->F g=Z Y)->lz F Y d P
 |none,_,_,e,_=>e
 |some u,d,P,e,n=>by
  let⟨@q,rfl,e⟩:=e;exact⟨q,rfl,e.mono B n⟩
theorem br.mono{j F:aw}(B:e4 j F):∀{y:aU}{w:aX}{P:List ar},br j y w P->(∀g∈P,∀Y,j g=Z Y->F g=Z Y)->br F y w P
 |[],w,P,e,_=>e
 |Y::y,w,P,e,n=>by
  let⟨d,p,Rr,@RB,rfl,k,l,rfl⟩:=e;exact⟨d,p,Rr,RB,rfl,k.mono B λg a=>n g<|eX _ a,br.mono B l λg a=>n g<|en _ a,rfl⟩
theorem lz.chg:∀{Y:Option ak}{d:Option ah}{P:List ar},lz j Y d P->∀g∈P,eV j g
 |none,_,P,e,g,a=>by rw[show P=[] from e]at a;cases a
 |some u,d,P,e,g,a=>by
  let⟨@q,rfl,e⟩:=e;exact e.chg g a
theorem br.chg{j:aw}:∀{y:aU}{w:aX}{P:List ar},br j y w P->∀g∈P,eV j g
 |[],w,P,e,g,a=>by rw[e.2]at a;cases a
 |Y::y,w,P,e,g,a=>by
  let⟨d,p,Rr,@RB,rfl,k,l,rfl⟩:=e;rcases dY.mp a with a|a
  ·exact k.chg g a
  ·exact br.chg l g a
theorem br.len{j:aw}:∀{y:aU}{w:aX}{P:List ar},br j y w P->y.length=w.length
 |[],w,P,e=>by rw[e.1];rfl
 |Y::y,w,P,e=>by
  let⟨d,p,Rr,@RB,rfl,k,l,rfl⟩:=e;rw[dd,dd,br.len l]
def ak.c4:ak->Bool
 |.im _=>ab
 |.cK _=>ab
 |.mA _=>ab
 |_=>ax
def b_.c4(e:b_ j u q P)(h:u.c4=ab):P=[]:=by
 cases u with
 |im u=>exact e.2
 |cK E=>let⟨g,x,@Y,rfl,k,l,rfl⟩:=e;rfl
 |mA E=>let⟨g,x,@Y,rfl,k,l,rfl⟩:=e;rfl
 |_=>cases h
theorem br.out{j:aw}:∀{y:aU}{w:aX}{P:List ar}{a:Nat}{u:ak},br j y w P->y[a]?=Z (Z u)->∃q Rr RB,w[a]?=Z (Z q)/\b_ j u q Rr/\br j (y.set a<|Z .ek) w RB/\(RB++Rr).Perm P
 |[],w,P,a,u,e,c=>by simp at c
 |Y::y,w,P,0,u,e,c=>by
  let⟨d,p,Rr,@RB,rfl,k,l,rfl⟩:=e;simp at c;subst c;let⟨@q,rfl,k⟩:=k;exact⟨q,Rr,RB,rfl,k,⟨Z q,p,[],RB,rfl,⟨q,rfl,rfl⟩,l,rfl⟩,c2⟩
 |Y::y,w,P,a+1,u,e,c=>by
  let⟨d,p,Rr,@RB,rfl,k,l,rfl⟩:=e;let⟨q,f,@b,g,h,i,m⟩:=br.out (a:=a) l ⇑c;refine⟨q,f,Rr++b,by simpa using g,h,⟨d,p,Rr,b,rfl,k,i,rfl⟩,?_⟩;rw[a_];exact dI _ m
theorem br.put{j:aw}:∀{y:aU}{w:aX}{P:List ar}{a:Nat}{u:ak}{q:ah}{Q9:List ar},br j y w P->b_ j u q Q9->a<y.length->∃Rr RB,br j (y.set a<|Z u) (w.set a<|Z q) Rr/\(Rr++RB).Perm (P++Q9)
 |[],w,P,a,u,q,Q9,e,D,C=>by simp at C
 |Y::y,w,P,0,u,q,Q9,e,D,C=>by
  let⟨d,p,Rr,@RB,rfl,k,l,rfl⟩:=e;refine⟨Q9++RB,Rr,⟨Z q,p,Q9,RB,rfl,⟨q,rfl,D⟩,l,rfl⟩,?_⟩;refine c2.trans ?_;rw[a_];exact dI _ c2
 |Y::y,w,P,a+1,u,q,Q9,e,D,C=>by
  let⟨d,p,Rr,@RB,rfl,k,l,rfl⟩:=e;let⟨b,@c,f,g⟩:=br.put (a:=a) l D ⇑C;refine⟨Rr++b,c,⟨d,_,Rr,b,rfl,k,f,rfl⟩,?_⟩;rw[a_,a_];exact dI _ g
def br.c4{a:Nat}(e:br j y w P)(c:y[a]?=Z (Z u))(h:u.c4=ab):∃q,w[a]?=Z (Z q)/\b_ j u q []:=by
 let⟨q,Rr,@RB,d,b,Y⟩:=e.out c;obtain rfl:=b.c4 h;exact⟨q,d,b⟩
def Pp{a:Nat}(e:w[a]?=Z (Z q)):w.set a (Z q)=w:=by
 refine oc λv=>?_;by_cases c:a=v
 ·subst c;rw[e,ua (fR.mp e).1]
 ·rw[mV c]
def br.back{a:Nat}(e:br j y w P)(D:b_ j u q Q9)(b:w[a]?=Z (Z q)):∃Rr RB,br j (y.set a<|Z u) w Rr/\(Rr++RB).Perm (P++Q9):=by
 have C:a<y.length:=by rw[e.len];exact (fR.mp b).1
 let⟨Rr,@RB,k,l⟩:=e.put (a:=a) D C;rw[Pp b]at k;exact⟨Rr,RB,k,l⟩
def e4.of(N:pj j F)(L:∀g Y I,j g=Z (.dx Y I)->F g=Z (.dx Y I)):e4 j F:=⟨⟨N,L⟩,L⟩
def Lf(j:aw):e4 j j:=⟨⟨λ_ Y c=>c,λ_ Y Y c=>c⟩,λ_ Y Y c=>c⟩
def e4.trans(g:e4 j Rb)(f:e4 Rb Ro):e4 j Ro:=⟨⟨λd x c=>f.tup.t d x<|g.tup.t d x c,λd Y I c=>f.dx d Y I<|g.dx d Y I c⟩,λd Y I c=>f.dx d Y I<|g.dx d Y I c⟩
def a5.refl(e:RI.Nodup)(m:∀g∈RI,g∈P):a5 j P j RI:=⟨λ_ W c W=>c,λg a=>.inl<|m g a,e,Lf j,λ_ Y c=>⟨Y,c⟩⟩
def a5.perm(e:P.Nodup)(o:RI.Perm P):a5 j P j RI:=a5.refl ((o.nodup_iff).mpr e) λg a=>o.mem_iff.mp a
def a5.trans(g:a5 j P Rb (Rr++Q8))(f:a5 Rb Rr Ro RB)(l:∀d∈Q8,eV Rb d):a5 j P Ro (RB++Q8):=by
 have ai:=c7.mp g.ai;have m:∀d∈RB,d∉Q8:=λd a h=>by
  rcases f.sub d a with e|e
  ·exact ai.2.2 d e d h rfl
  ·let⟨@Y,c,W⟩:=l d h;rw[c]at e;cases e
 refine⟨λd Y c a=>?_,λd a=>?_,c7.mpr ⟨f.ai,ai.2.1,λd a i n c=>m d a<|c ▸ n⟩,g.tup.trans f.tup,λd Y c=>let ⟨M,b⟩:=g.grow d Y c;f.grow d M b⟩
 ·refine f.keep d Y (g.keep d Y c a) λk=>?_;rcases g.sub d (eX _ k) with e|e
  ·exact a e
  ·rw[c]at e;cases e
 ·rcases dY.mp a with a|a
  ·rcases f.sub d a with e|e
   ·exact g.sub d (eX _ e)
   ·refine .inr ?_;cases c:j d with
    |none=>rfl
    |some Y=>
     let⟨@M,b⟩:=g.grow d Y c;rw[b]at e;cases e
  ·exact g.sub d (en _ a)
def cO.tupS(m:cO j F):e4 j F:=⟨⟨λg x c=>m g _ c,λg Y I c=>m g _ c⟩,λg Y I c=>m g _ c⟩
def FU{g f:ar}{Y I:fo}(c:j f=Z Y)(e:j g=X):L2.upd j g I f=Z Y:=by rw[cR (gP c e)];exact c
def cO.upd(m:cO j F){g:ar}{Y:fo}(e:F g=X):cO j (L2.upd F g Y):=λf I c=>FU (m f I c) e
abbrev az(Ry:Type):=aU->Option (Ry×aU)
variable{Sl:az ak}{Sb n:az Bool}
inductive bC where
 | bk (a:Nat)
 | ck (u:ak)
variable{RW R0:az bC}{L:az (List bC)}
def d9(y:aU):bC->Option ak
 |.bk a=>(y[a]?).getD X
 |.ck u=>Z u
def hC(j:aw)(w:aX):bC->ah->List ar->Prop
 |.bk a,q,Q8=>w[a]?=Z (Z q)/\Q8=[]
 |.ck u,q,Q8=>b_ j u q Q8
def k8(L:az ak):bP:=(λw j A=>∃y P p Rw,br j y w P/\P.Nodup/\L y=Z (p,Rw)/\∀q F RI Q8,br F Rw w RI->b_ F p q Q8->a5 j P F (RI++Q8)->A q F)
def mm(L:az bC):bP:=(λw j A=>∃y P p Rw,br j y w P/\P.Nodup/\L y=Z (p,Rw)/\∀q F RI Q8,br F Rw w RI->hC F w p q Q8->a5 j P F (RI++Q8)->A q F)
def iy(L:az Bool):dV:=(λw j A=>∃y P f Rw,br j y w P/\P.Nodup/\L y=Z (f,Rw)/\∀F RI,br F Rw w RI->a5 j P F RI->A f F)
def cf(b:aK)(c:a8)(L:az ak):Prop:=(∀ ⦃o⦄,yf b c (k8 L) o)
def dk(b:aK)(c:a8)(L:az bC):Prop:=(∀ ⦃o⦄,yf b c (mm L) o)
def ha(b:aK)(c:a8)(L:az Bool):Prop:=(∀ ⦃o⦄,zC b c (iy L) o)
def dX{B RF:bP}(e:bx b c B)(a:∀w j A,RF w j A->B w j A):bx b c RF:=λG m w j A t d=>e G m w j A t (a w j A d)
def pT{B:dV}(e:gC b c B)(a:∀w j A,RF w j A->B w j A):gC b c RF:=λG m w j A t d=>e G m w j A t (a w j A d)
def hC.mono{p:bC}(e:hC j w p q Q8)(B:e4 j F)(n:∀g∈Q8,∀Y,j g=Z Y->F g=Z Y):hC F w p q Q8:=by
 cases p with
 |bk a=>exact e
 |ck u=>exact b_.mono B e n
def hC.chg{p:bC}(e:hC j w p q Q8):∀g∈Q8,eV j g:=by
 cases p with
 |bk a=>intro g b;rw[e.2]at b;cases b
 |ck u=>exact b_.chg e
def eN(j:aw)(u:ak)(q:ah):Prop:=(∃Q8,b_ j u q Q8)
def hC.read{p:bC}(e:hC j w p q Q8)(J:br j y w P)(c:d9 y p=Z u):eN j u q:=by
 cases p with
 |ck g=>cases c;exact⟨Q8,e⟩
 |bk a=>
  have d:y[a]?=Z (Z u):=by
   have:(y[a]?).getD X=Z u:=c;cases r:y[a]? with
   |none=>rw[r]at this;cases this
   |some Y=>rw[r]at this;rw[show Y=Z u from this]
  let⟨h,Rr,@RB,b,f,W⟩:=J.out d;rw[e.1]at b;cases b;exact⟨Rr,f⟩
@[simp] def fv(a:Nat):az ak:=λy=>match y[a]? with
 |some (Z u)=>if u.c4=ab then Z (u,y) else Z (u,y.set a<|Z .ek)
 |_=>X
def aH(u:V):az ak:=(λy=>Z (.im u,y))
@[simp] def au(a:Nat):az bC:=λy=>match y[a]? with
 |some (Z _)=>Z (.bk a,y)
 |_=>X
@[simp] def aj(L:az ak):az bC:=λy=>(L y).map λo=>(.ck o.1,o.2)
section
variable{b:aK}
variable{a:Nat}
def h6(e:bx b c (hl a)):cf b c (fv a):=by
 refine dX e λw j A f=>?_;let⟨y,P,p,@Rw,J,ai,d,r⟩:=f;unfold fv at d;split at d
 ·rename_i u hd;split at d
  ·rename_i g;cases d;let⟨@q,k,l⟩:=J.c4 hd g;exact⟨q,k,r q j P [] J l (by rw[b5];exact a5.perm ai (List.Perm.refl _))⟩
  ·cases d;let⟨q,Rr,@RB,k,l,h,i⟩:=J.out hd;exact⟨q,k,r q j RB Rr h l<|a5.perm ai i⟩
 ·cases d
def Nm(e:bx b c (hl a)):dk b c (au a):=by
 refine dX e λw j A f=>?_;let⟨y,P,p,@Rw,J,ai,d,r⟩:=f;unfold au at d;split at d
 ·rename_i u hd;cases d;let⟨q,Rr,@RB,k,l,g,h⟩:=J.out hd;exact⟨q,k,r q j P [] J ⟨k,rfl⟩ (by rw[b5];exact a5.perm ai (List.Perm.refl _))⟩
 ·cases d
def bl{L:az ak}(e:cf b c L):dk b c (aj L):=by
 refine dX e λw j A d=>?_;let⟨y,P,p,@Rw,J,ai,a,r⟩:=d;unfold aj at a;let⟨@⟨RS,z⟩,k,l⟩:=cw.mp a;cases l;exact⟨y,P,RS,_,J,ai,k,r⟩
def CW{u:V}(e:bx b c (nZ q))(hd:∀j,cg j u q):cf b c (aH u):=by
 refine dX e λw j A a=>?_;let⟨y,P,p,@Rw,J,ai,d,r⟩:=a;cases d;exact r q j P [] J ⟨hd j,rfl⟩ (by rw[b5];exact a5.perm ai (List.Perm.refl _))
def jk{a:Int}{v Rl}:cf b (.Constant (.int a) v Rl) (aH<|.int a):=CW nj λ_=>rfl
def i3{f:Bool}{v Rl}:cf b (.Constant (.bool f) v Rl) (aH<|.aG f):=CW Qh λ_=>rfl
def two{z RA:aU}{d i:bC}{R:ah->ah->aw->Prop}(J:br j y w P)(ai:P.Nodup)(b:R0 y=Z (d,z))(k:RW z=Z (i,RA))(n:∀q I F RI a bI,br F RA w RI->hC F w d q a->hC F w i I bI->a5 j P F ((RI++bI)++a)->R q I F):mm R0 w j λq Rb=>mm RW w Rb λI Ro=>R q I Ro:=by
 refine⟨y,P,d,z,J,ai,b,λq Rb Rr a l Rz f=>⟨z,Rr,i,RA,l,(c7.mp f.ai).1,k,λI Ro RB bI m RM h=>?_⟩⟩;refine n q I Ro RB a bI m (Rz.mono h.tup λg b Y c=>h.keep g Y c λe=>?_) RM (f.trans h Rz.chg);exact (c7.mp f.ai).2.2 g e g b rfl
def a5.new{e:List ar}(g:a5 j P Rb (Rr++Q8))(m:cO Rb Ro)(ai:e.Nodup)(f:∀d∈e,Rb d=X)(h:∀d∈Rr,eV Rb d):a5 j P Ro (Rr++e):=by
 refine⟨λd Y c a=>m _ _<|g.keep d Y c a,λd a=>?_,c7.mpr ⟨(c7.mp g.ai).1,ai,λd a i k c=>?_⟩,g.tup.trans m.tupS,λd Y c=>let ⟨M,b⟩:=g.grow d Y c;⟨M,m _ _ b⟩⟩
 ·rcases dY.mp a with a|a
  ·exact g.sub d (eX _ a)
  ·refine .inr ?_;cases c:j d with
   |none=>rfl
   |some Y=>
    let⟨@M,b⟩:=g.grow d Y c;rw[f d a]at b;cases b
 ·subst c;let⟨@Y,c,W⟩:=h d a;rw[f d k]at c;cases c
def e7(b:aK)(N:af->af->dy af)(RL:ak->ak->Option ak):Prop:=(
 dP b N λd i j A=>∃RO RQ u,eN j RO d/\eN j RQ i/\RL RO RQ=Z u/\∀q F Q8,cO j F->b_ F u q Q8->Q8.Nodup->(∀g∈Q8,j g=X)->A q F)
@[simp] def aL(RL:ak->ak->Option ak)(R0 RW:az bC):az ak:=λy=>(R0 y).bind λo=>(RW o.2).bind λr=>(d9 r.2 o.1).bind λRO=>(d9 r.2 r.1).bind λRQ=>(RL RO RQ).map λu=>(u,r.2)
def tK{RL:ak->ak->Option ak}(e:k8 (aL RL R0 RW) w j A):
  mm R0 w j λd Rb=>mm RW w Rb λi Ro=>∃RO RQ u,eN Ro RO d/\eN Ro RQ i/\RL RO RQ=Z u/\∀q F Q8,cO Ro F->b_ F u q Q8->Q8.Nodup->(∀g∈Q8,Ro g=X)->A q F:=by
 let⟨y,P,p,@Rw,J,ai,a,r⟩:=e;unfold aL at a;let⟨@⟨d,z⟩,m,a⟩:=bB.mp a;let⟨@⟨i,RA⟩,n,a⟩:=bB.mp a;let⟨@RO,k,a⟩:=bB.mp a;let⟨@RQ,l,a⟩:=bB.mp a;let⟨@u,o,a⟩:=cw.mp a;cases a;refine two J ai m n λq I Ro RB B bI b Rz RM h=>⟨RO,RQ,_,Rz.read b k,RM.read b l,o,λD s Q8 f t v x=>?_⟩;rw[a_]at h;exact r D s RB Q8 (b.mono f.tupS λg W Y c=>f g Y c) t (h.new f v x b.chg)
def iT{RL:m5}(a:e7 b (fC RL) N)(c:dk b g R0)(d:dk b f RW):cf b (.BinOp g RL f Rl) (aL N R0 RW):=
 dX (JZ a c d) λ_ Y Y e=>tK e
variable{RL:ko}
def l9(a:e7 b (ez RL) N)(c:dk b g R0)(d:dk b f RW)(h:oQ RL f=ax):cf b (.Compare g [RL] [f] Rl) (aL N R0 RW):=
 dX (Pq a c d h) λ_ Y Y e=>tK e
def M6(a:h1 b (λd i j A=>∃RO RQ u,eN j RO d/\eN j RQ i/\N RO RQ=Z u/\∀q F Q8,cO j F->b_ F u q Q8->Q8.Nodup->(∀g∈Q8,j g=X)->A q F))(c:dk b g R0)(h:dk b f RW)(k:pQ f):cf b (.Subscript g f Rl) (aL N R0 RW):=
 dX (Ej a c h k) λ_ Y Y e=>tK e
@[simp] def mJ:ak->Option Bool
 |.im (.aG f)=>Z f
 |_=>X
@[simp] def b3(L:az ak):az Bool:=λy=>(L y).bind λo=>(mJ o.1).map λf=>(f,o.2)
def q3{f:Bool}(e:mJ u=Z f):u=.im (.aG f):=by
 unfold mJ at e;split at e
 ·cases e;rfl
 ·cases e
def eE(c:e7 b (ez RL) N)(d:dk b g R0)(e:dk b f RW)(i:oQ RL f=ax):ha b (.Compare g [RL] [f] Rl) (b3<|aL N R0 RW):=by
 refine pT (IZ c d e i) λw j A n=>?_;let⟨y,P,h,@Rw,J,ai,p,r⟩:=n;refine tK ⟨y,P,.im<|.aG h,Rw,J,ai,?_,λq F RI Q8 s a m=>⟨h,a.1,r F RI s (by rw[a.2,b5]at m;exact m)⟩⟩;let⟨@o,k,l⟩:=bB.mp p;let⟨@v,t,u⟩:=cw.mp l;cases u;rw[k,<-q3 t]
@[simp] def jz(L:az Bool):az Bool:=λy=>(L y).map λo=>(!o.1,o.2)
variable{L:az Bool}
def pU(e:ha b g L):ha b (.UnaryOp .Not g Rl) (jz L):=by
 refine pT (ND e) λw j A a=>?_;let⟨y,P,h,@Rw,J,ai,c,r⟩:=a;let⟨@o,k,l⟩:=cw.mp c;cases l;exact⟨y,P,o.1,_,J,ai,k,r⟩
@[simp] def ik(L e:az Bool):az Bool:=λy=>(L y).bind λo=>if o.1=ab then e o.2 else Z (ax,o.2)
@[simp] def jU(L e:az Bool):az Bool:=λy=>(L y).bind λo=>if o.1=ab then Z (ab,o.2) else e o.2
variable{A:Bool->aw->Prop}{e:az Bool}
def EG(D:iy (ik L e) w j A):B2 (iy L) (iy e) w j A:=by
 let⟨y,P,h,@Rw,J,ai,c,r⟩:=D;let⟨@⟨f,z⟩,k,l⟩:=bB.mp c;refine⟨y,P,f,z,J,ai,k,λRb Rr b a=>?_⟩;cases f with
 |true=>
  rw[aB rfl];rw[aB rfl]at l;exact⟨z,Rr,h,Rw,b,a.ai,l,λRo RB g i=>r Ro RB g (by
   have:=a5.trans (Q8:=[]) (by rw[b5];exact a) i (λd m=>nomatch m)
   rwa [b5]at this)⟩
 |false=>
  rw[aD c_]at l ⊢;cases l;exact r Rb Rr b a
def OS(D:iy (jU L e) w j A):EV (iy L) (iy e) w j A:=by
 let⟨y,P,h,@Rw,J,ai,c,r⟩:=D;let⟨@⟨f,z⟩,k,l⟩:=bB.mp c;refine⟨y,P,f,z,J,ai,k,λRb Rr b a=>?_⟩;cases f with
 |false=>
  rw[aD c_]at l ⊢;exact⟨z,Rr,h,Rw,b,a.ai,l,λRo RB g i=>r Ro RB g (by
   have:=a5.trans (Q8:=[]) (by rw[b5];exact a) i (λd m=>nomatch m)
   rwa [b5]at this)⟩
 |true=>
  rw[aB rfl]at l ⊢;cases l;exact r Rb Rr b a
def hG(b:aK)(c:a8)(L:az Bool):Prop:=(∀ ⦃o⦄,Gr b c (iy L) o)
def zq{B:dV}(e:jB b c B)(a:∀w j A,RF w j A->B w j A):jB b c RF:=λd G m w j A t f=>e d G m w j A t (a w j A f)
def Cv(e:ha b g L):hG b (.BoolOp .And [g] Rl) L:=Oo e
def ts(e:ha b g L):hG b (.BoolOp .Or [g] Rl) L:=QA e
def u9(e:ha b g L)(a:hG b (.BoolOp .And (f::p) Rl) n):hG b (.BoolOp .And (g::f::p) Rl) (ik L n):=zq (KU e a) λ_ Y Y D=>EG D
def rg(e:ha b g L)(a:hG b (.BoolOp .Or (f::p) Rl) n):hG b (.BoolOp .Or (g::f::p) Rl) (jU L n):=zq (IG e a) λ_ Y Y D=>OS D
def hG.n4(e:hG b c L):ha b c L:=jB.pt e
@[simp] def ht(L:az Bool):az ak:=λy=>(L y).map λo=>(.im<|.aG o.1,o.2)
def wZ(e:cf b c (ht L)):bx b c λw j A=>iy L w j λf F=>A (.aG f) F:=by
 refine dX e λw j A d=>?_;let⟨y,P,h,@Rw,J,ai,g,r⟩:=d;refine⟨y,P,.im<|.aG h,Rw,J,ai,by unfold ht;rw[g];rfl,λq F RI Q8 i a m=>?_⟩;rw[show q=.aG h from a.1];exact r F RI i (by rw[a.2,b5]at m;exact m)
def zl(e:bx b c λw j A=>iy L w j λf F=>A (.aG f) F):cf b c (ht L):=by
 refine dX e λw j A a=>?_;let⟨y,P,p,@Rw,J,ai,d,r⟩:=a;let⟨@o,k,l⟩:=cw.mp d;cases l;exact⟨y,P,o.1,_,J,ai,k,λF RI g m=>r _ F RI [] g ⟨rfl,rfl⟩ (by rw[b5];exact m)⟩
def pg{L:az ak}(e:cf b c L):cf b c (ht<|b3 L):=by
 refine dX e λw j A a=>?_;let⟨y,P,p,@Rw,J,ai,d,r⟩:=a;let⟨@o,k,l⟩:=cw.mp d;let⟨@f,g,i⟩:=bB.mp k;let⟨@h,m,n⟩:=cw.mp i;cases n;cases l;exact⟨y,P,f.1,_,J,ai,g,by rw[q3 m];exact r⟩
def NP(e:cf b g (ht L)):cf b (.UnaryOp .Not g Rl) (ht<|jz L):=by
 refine zl (dX (Jp<|wZ e) λw j A a=>?_);let⟨y,P,h,@Rw,J,ai,c,r⟩:=a;let⟨@o,k,l⟩:=cw.mp c;cases l;exact⟨y,P,o.1,_,J,ai,k,λF RI d m=>⟨_,rfl,r F RI d m⟩⟩
def Ar{RL}{L:az ak}(e:cf b g L):cf b (.BoolOp RL [g] Rl) L:=JS e
def Dv(e:cf b g (ht L))(a:cf b (.BoolOp .And (f::p) Rl) (ht n)):cf b (.BoolOp .And (g::f::p) Rl) (ht<|ik L n):=by
 refine zl (dX (Ox (wZ e)<|wZ a) λw j A D=>?_);have:=EG D;let⟨y,P,h,@Rw,J,ai,c,r⟩:=this;exact⟨y,P,h,Rw,J,ai,c,λF RI d m=>⟨h,rfl,r F RI d m⟩⟩
@[simp] def yG(h:az Bool)(g f:az ak):az ak:=λy=>(h y).bind λo=>if o.1=ab then g o.2 else f o.2
def a5.seq(g:a5 j P Rb Rr)(f:a5 Rb Rr Ro RB):a5 j P Ro RB:=by
 have:=a5.trans (Q8:=[]) (by rw[b5];exact g) f (λd a=>nomatch a)
 rwa [b5]at this
def J2{R0 RW:az ak}(m:ha b h Sb)(n:cf b g R0)(o:cf b f RW):cf b (.IfExp h g f Rl) (yG Sb R0 RW):=by
 refine dX (Hd m n o) λw j A s=>?_;let⟨y,P,p,@Rw,J,ai,t,r⟩:=s;let⟨@⟨B,z⟩,k,l⟩:=bB.mp t;refine⟨y,P,B,z,J,ai,k,λRb Rr i a=>?_⟩;cases B with
 |true=>
  rw[aB rfl]at l ⊢;exact⟨z,Rr,p,Rw,i,a.ai,l,λq Ro RB Q8 c d e=>r q Ro RB Q8 c d<|a.seq e⟩
 |false=>
  rw[aD c_]at l ⊢;exact⟨z,Rr,p,Rw,i,a.ai,l,λq Ro RB Q8 c d e=>r q Ro RB Q8 c d<|a.seq e⟩
end
def jX(j:aw)(w:aX):List bC->List ah->List ar->Prop
 |[],ae,Q8=>ae=[]/\Q8=[]
 |Y::Rq,ae,Q8=>∃q p a bI,ae=q::p/\hC j w Y q a/\jX j w Rq p bI/\Q8=a++bI
def gu(L:az (List bC)):es:=(λw j A=>∃y P p Rw,br j y w P/\P.Nodup/\L y=Z (p,Rw)/\∀ae F RI Q8,br F Rw w RI->jX F w p ae Q8->a5 j P F (RI++Q8)->A ae F)
def fu(b:aK)(Q:List a8)(L:az (List bC)):Prop:=(∀ ⦃o⦄,AJ b Q (gu L) o)
def FJ{B RF:es}(e:gw b Q B)(a:∀w j A,RF w j A->B w j A):gw b Q RF:=λRl G m w j A t c=>e Rl G m w j A t (a w j A c)
def aE:az (List bC):=(λy=>Z ([],y))
@[simp] def av(L:az bC)(e:az (List bC)):az (List bC):=λy=>(L y).bind λo=>(e o.2).map λr=>(o.1::r.1,r.2)
def a5.kq(m:a5 j P F O)(o:O.Perm R3):a5 j P F R3:=⟨m.keep,λg a=>m.sub g<|o.mem_iff.mpr a,(o.nodup_iff).mp m.ai,m.tup,m.grow⟩
def a5.less(m:a5 j P F O)(o:(R3++aP).Perm O):a5 j P F R3:=
 ⟨m.keep,λg a=>m.sub g<|o.mem_iff.mp<|eX _ a,(c7.mp<|(o.nodup_iff).mpr m.ai).1,m.tup,m.grow⟩
section
variable{b:aK}
def hE:fu b [] aE:=by
 refine FJ wM λw j A a=>?_;let⟨y,P,p,@Rw,J,ai,c,r⟩:=a;cases c;exact r [] j P [] J ⟨rfl,rfl⟩ (by rw[b5];exact a5.perm ai (List.Perm.refl _))
def nq{L:az bC}{e:az (List bC)}(i:dk b c L)(m:fu b Q e)(n:bF (c::Q) b.env=(ax,bR c b.env)::bF Q b.env:=by rfl):fu b (c::Q) (av L e):=by
 refine FJ (r8 i m n) λw j A o=>?_;let⟨y,P,p,@Rw,J,ai,s,r⟩:=o;let⟨@⟨d,z⟩,k,l⟩:=bB.mp s;let⟨@⟨Rj,RA⟩,t,u⟩:=cw.mp l;cases u;refine⟨y,P,d,z,J,ai,k,λq Rb Rr h v Rz a=>⟨z,Rr,Rj,_,v,(c7.mp a.ai).1,t,λae Ro RB bI x RM f=>?_⟩⟩;refine r (q::ae) Ro RB (h++bI) x ⟨q,ae,h,bI,rfl,Rz.mono f.tup λg B Y c=>f.keep g Y c λe=>?_,RM,rfl⟩ ((a.trans f Rz.chg).kq ?_)
 ·exact (c7.mp a.ai).2.2 g e g B rfl
 ·rw[a_];exact dI _ c2
end
def hH(y:aU):List bC->Option (List ak)
 |[]=>Z []
 |Y::Rq=>(d9 y Y).bind λu=>(hH y Rq).map λE=>u::E
def lN(j:aw):List ak->List ah->Prop
 |[],ae=>ae=[]
 |u::E,ae=>∃q p,ae=q::p/\eN j u q/\lN j E p
theorem jX.read{j:aw}{y:aU}{w:aX}{P:List ar}(J:br j y w P):∀{Rq:List bC}{ae:List ah}{Q8:List ar}{E:List ak},jX j w Rq ae Q8->hH y Rq=Z E->lN j E ae
 |[],_,_,_,e,c=>by cases c;exact e.1
 |Y::Rq,_,_,_,e,c=>by
  let⟨q,p,g,@bI,rfl,k,l,rfl⟩:=e;let⟨@u,a,b⟩:=bB.mp c;let⟨@E,d,f⟩:=cw.mp b;cases f;exact⟨q,p,rfl,k.read J a,jX.read J l d⟩
def eg:List bC->aU->Option (List ak×aU)
 |[],y=>Z ([],y)
 |.ck u::Rq,y=>(eg Rq y).map λo=>(u::o.1,o.2)
 |.bk a::Rq,y=>(fv a y).bind λo=>(eg Rq o.2).map λr=>(o.1::r.1,r.2)
def ES{a:Nat}(J:br j y w P)(e:fv a y=Z (u,Rw)):∃q Rr Q8,w[a]?=Z (Z q)/\b_ j u q Q8/\br j Rw w Rr/\(Rr++Q8).Perm P:=by
 unfold fv at e;split at e
 ·rename_i c hd;split at e
  ·rename_i b;cases e;let⟨@q,k,l⟩:=J.c4 hd b;exact⟨q,P,[],k,l,J,by rw[b5]⟩
  ·cases e;let⟨q,Rr,@RB,k,l,d,f⟩:=J.out hd;exact⟨q,RB,Rr,k,l,d,f⟩
 ·cases e
def kb:(O++(R3++aP)).Perm (R3++(O++aP)):=by
 rw[<-a_,<-a_];exact eB _ c2
theorem mO{j:aw}{w:aX}:∀{Rq:List bC}{ae:List ah}{Q8 P:List ar}{y Rw:aU}{E:List ak},br j y w P->jX j w Rq ae Q8->eg Rq y=Z (E,Rw)->∃Rr b,br j Rw w Rr/\dE j E ae b/\(Rr++b).Perm (P++Q8)
 |[],_,_,P,_,_,_,J,e,c=>by
  cases c;exact⟨P,[],J,⟨e.1,rfl⟩,by rw[e.2]⟩
 |.ck u::Rq,_,_,P,y,_,_,J,e,c=>by
  let⟨q,p,b,@bI,rfl,k,l,rfl⟩:=e;rw[eg]at c;let⟨@o,g,h⟩:=cw.mp c;cases h;let⟨Rr,@d,f,i,m⟩:=mO (Rw:=o.2) (E:=o.1) J l g;exact⟨Rr,b++d,f,⟨q,p,b,d,rfl,k,i,rfl⟩,kb.trans<|(dI _ m).trans kb⟩
 |.bk a::Rq,_,_,P,y,_,_,J,e,c=>by
  let⟨q,p,b,@bI,rfl,@⟨k,rfl⟩,l,rfl⟩:=e;rw[eg]at c;let⟨@⟨u,z⟩,r,s⟩:=bB.mp c;let⟨@o,g,h⟩:=cw.mp s;cases h;let⟨x,Rr,@d,f,i,m,t⟩:=ES J r;rw[k]at f;cases f;let⟨RB,@n,RP,RJ,v⟩:=mO (Rw:=o.2) (E:=o.1) m l g;refine⟨RB,d++n,RP,⟨q,p,d,n,rfl,i,RJ,rfl⟩,kb.trans<|(dI _ v).trans ?_⟩;rw[<-a_];exact eB _ (c2.trans t)
@[simp] def gv:List bC->List ak->aU->aU
 |.bk a::Rq,u::E,y=>gv Rq E (match y[a]? with|some (Z .ek)=>y.set a (Z u)|_=>y)
 |.ck _::Rq,_::E,y=>gv Rq E y
 |_,_,y=>y
theorem rV{j i:aw}{w:aX}:∀{Rq:List bC}{E:List ak}{ae:List ah}{Q8 P Rk:List ar}{y:aU},br j y w P->jX i w Rq ae Rk->dE j E ae Q8->∃Rr b,br j (gv Rq E y) w Rr/\(Rr++b).Perm (P++Q8)
 |[],E,_,Q8,P,_,y,J,_,_=>⟨P,Q8,by unfold gv;exact J,List.Perm.refl _⟩
 |.ck _::Rq,[],_,Q8,P,_,y,J,_,_=>⟨P,Q8,by unfold gv;exact J,List.Perm.refl _⟩
 |.bk _::Rq,[],_,Q8,P,_,y,J,_,_=>⟨P,Q8,by unfold gv;exact J,List.Perm.refl _⟩
 |.ck _::Rq,u::E,_,Q8,P,_,y,J,e,D=>by
  let⟨q,p,m,@n,rfl,k,l,rfl⟩:=e;let⟨o,RS,b,@bI,c,cY,h,rfl⟩:=D;cases c;let⟨Rr,@d,f,g⟩:=rV (y:=y) J l h;refine⟨Rr,b++d,by rw[gv];exact f,kb.trans<|(dI _ g).trans kb⟩
 |.bk a::Rq,u::E,_,Q8,P,_,y,J,e,D=>by
  let⟨q,p,m,@n,rfl,@⟨k,Y⟩,l,rfl⟩:=e;let⟨o,RS,b,@bI,c,cY,h,rfl⟩:=D;cases c;rw[gv];split
  ·let⟨Rr,@Q9,f,g⟩:=J.back cY k;let⟨RB,@d,RP,RJ⟩:=rV f l h;refine⟨RB,d++Q9,RP,?_⟩;rw[<-a_,<-a_];refine (eB _ RJ).trans ?_;rw[a_];refine (dI _ c2).trans ?_;rw[<-a_];exact eB _ g
  ·let⟨Rr,@d,f,g⟩:=rV J l h;exact⟨Rr,b++d,f,kb.trans<|(dI _ g).trans kb⟩
def gk:List ak->Option (List V)
 |[]=>Z []
 |.im u::E=>(gk E).map λp=>u::p
 |_::_=>X
@[simp] def rf(E:List ak):ak:=match gk E with
 |some is=>.im (.tup is)
 |none=>.od E
@[simp] def rq(E:List ak):ak:=match gk E with
 |some is=>.lst is
 |none=>.gb E
theorem vN{j:aw}:∀{E:List ak}{ae:List ah}{Q8:List ar}{is:List V},dE j E ae Q8->gk E=Z is->bA j is ae/\Q8=[]
 |[],_,_,_,e,c=>by cases c;exact e
 |.im u::E,_,_,_,e,c=>by
  let⟨q,p,g,@bI,rfl,@⟨k,rfl⟩,l,rfl⟩:=e;rw[gk]at c;let⟨@o,b,d⟩:=cw.mp c;cases d;let@⟨f,rfl⟩:=vN l b;exact⟨⟨q,p,rfl,k,f⟩,rfl⟩
 |.ek::_,_,_,_,_,c=>by rw[gk]at c;cases c;all_goals (intro Y a;cases a)
 |.cK _::_,_,_,_,_,c=>by rw[gk]at c;cases c;all_goals (intro Y a;cases a)
 |.lst _::_,_,_,_,_,c=>by rw[gk]at c;cases c;all_goals (intro Y a;cases a)
 |.dh _::_,_,_,_,_,c=>by rw[gk]at c;cases c;all_goals (intro Y a;cases a)
 |.aS _::_,_,_,_,_,c=>by rw[gk]at c;cases c;all_goals (intro Y a;cases a)
 |.gb _::_,_,_,_,_,c=>by rw[gk]at c;cases c;all_goals (intro Y a;cases a)
 |.od _::_,_,_,_,_,c=>by rw[gk]at c;cases c;all_goals (intro Y a;cases a)
 |.mA _::_,_,_,_,_,c=>by rw[gk]at c;cases c;all_goals (intro Y a;cases a)
 |.dL _::_,_,_,_,_,c=>by rw[gk]at c;cases c;all_goals (intro Y a;cases a)
@[simp] def di(L:az (List bC)):az ak:=λy=>(L y).bind λo=>(eg o.1 o.2).bind λr=>if r.1.length<=100000 then Z (rf r.1,r.2) else X
@[simp] def eO(L:az (List bC)):az ak:=λy=>(L y).bind λo=>(eg o.1 o.2).bind λr=>if r.1.length<=100000 then Z (rq r.1,r.2) else X
def Qc{E:List ak}{o:ar}(m:cO j F)(e:dE j E ae Q8)(c:F o=Z (.tup ae)):∃a,b_ F (rf E) (.ref o) a/\a=Q8:=by
 unfold rf;split
 ·rename_i is U;let@⟨b,rfl⟩:=vN e U;exact⟨[],⟨⟨o,ae,rfl,c,b.mono m.tupS.tup⟩,rfl⟩,rfl⟩
 ·exact⟨Q8,⟨o,ae,rfl,c,e.mono m.tupS λg W Y r=>m g Y r⟩,rfl⟩
def It{E:List ak}{o:ar}(m:cO j F)(e:dE j E ae Q8)(c:F o=Z (.lst ae)):b_ F (rq E) (.ref o) (o::Q8):=by
 unfold rq;split
 ·rename_i is U;let@⟨a,rfl⟩:=vN e U;exact⟨o,ae,rfl,c,a.mono m.tupS.tup,rfl⟩
 ·exact⟨o,ae,Q8,rfl,c,e.mono m.tupS λg W Y r=>m g Y r,rfl⟩
def lA(e:s<=100000):s<=sizeLine:=dD e ∅
def a5.add{o:ar}{Y:fo}(g:a5 j P Rb O)(a:Rb o=X)(h:∀d∈O,eV Rb d):a5 j P (upd Rb o Y) (O++[o]):=by
 have m:cO Rb (upd Rb o Y):=(cO.refl Rb).upd a;have:=a5.new (Q8:=[]) (e:=[o]) (by rw[b5];exact g) m (e3 _ _) (λd b=>by rw[cV.mp b];exact a) h;exact this
def a5.same(g:a5 j P Rb O)(m:cO Rb Ro):a5 j P Ro O:=
 ⟨λd Y c a=>m _ _<|g.keep d Y c a,g.sub,g.ai,g.tup.trans m.tupS,λd Y c=>let ⟨M,b⟩:=g.grow d Y c;⟨M,m _ _ b⟩⟩
section
variable{b:aK}
def iF{f}(e:fu b Q L):cf b (.Tuple Q f Rl) (di L):=by
 refine dX (JD e) λw j A h=>?_;let⟨y,P,p,@Rw,J,ai,i,r⟩:=h;let⟨@⟨Rq,z⟩,k,l⟩:=bB.mp i;let⟨@⟨E,RA⟩,n,a⟩:=bB.mp l;refine⟨y,P,Rq,z,J,ai,k,λae Rb Rr D q Rz s=>?_⟩;let⟨RB,@bI,t,d,S⟩:=mO q Rz n;split at a
 ·rename_i u;cases a;have v:ae.length<=100000:=by rw[<-d.length];exact u
  refine⟨lA v,λo x=>?_⟩;have m:cO Rb (upd Rb o<|.tup ae):=(cO.refl Rb).upd x;let⟨@B,C,rfl⟩:=Qc m d ec;exact r _ _ RB B (t.mono m.tupS λg W Y c=>m g Y c) C ((s.kq S.symm).same m)
 ·cases a
def f_(e:fu b Q L):cf b (.List Q Rl) (eO L):=by
 refine dX (O7 e) λw j A q=>?_;let⟨y,P,p,@Rw,J,ai,s,r⟩:=q;let⟨@⟨Rq,z⟩,k,l⟩:=bB.mp s;let⟨@⟨E,RA⟩,t,f⟩:=bB.mp l;refine⟨y,P,Rq,z,J,ai,k,λae Rb Rr D u Rz v=>?_⟩;let⟨RB,@bI,i,h,S⟩:=mO u Rz t;split at f
 ·rename_i x;cases f;have B:ae.length<=100000:=by rw[<-h.length];exact x
  refine⟨lA B,λo n=>?_⟩;have m:cO Rb (upd Rb o<|.lst ae):=(cO.refl Rb).upd n;have C:=It m h (o:=o) ec;refine r _ _ RB (o::bI) (i.mono m.tupS λg W Y c=>m g Y c) C (((v.kq S.symm).add n λd a=>?_).kq ?_)
  ·rcases dY.mp a with a|a
   ·exact i.chg d a
   ·exact h.chg d a
  ·rw[a_];exact dI _ c2
 ·cases f
def g4(b:aK)(N:af)(RL:List ak->Option ak):Prop:=(
 eA b N λx j A=>∃E u,lN j E x/\RL E=Z u/\∀q F Q8,cO j F->b_ F u q Q8->Q8.Nodup->(∀g∈Q8,j g=X)->A q F)
@[simp] def bT(RL:List ak->Option ak)(L:az (List bC)):az ak:=λy=>(L y).bind λo=>(hH o.2 o.1).bind λE=>(RL E).map λu=>(u,o.2)
def Fd(e:k8 (bT RL L) w j A):
  gu L w j λx Rb=>∃E u,lN Rb E x/\RL E=Z u/\∀q F Q8,cO Rb F->b_ F u q Q8->Q8.Nodup->(∀g∈Q8,Rb g=X)->A q F:=by
 let⟨y,P,p,@Rw,J,ai,d,r⟩:=e;let⟨@⟨Rq,z⟩,k,l⟩:=bB.mp d;let⟨@E,f,h⟩:=bB.mp l;let⟨@u,i,m⟩:=cw.mp h;cases m;refine⟨y,P,Rq,z,J,ai,k,λae Rb Rr v a Rz n=>⟨E,_,Rz.read a f,i,λq Ro Q8 b o s t=>?_⟩⟩;exact r q Ro Rr Q8 (a.mono b.tupS λg W Y c=>b g Y c) o (n.new b s t a.chg)
def OP{id:String}(a:g4 b (.builtin id) RL)(f:eU b d)(g:b.aO d=X)(h:e1 d=Z (.builtin id))(i:fu b (c::Q) L)(j:d ≠ "__name__" := by decide)(k:(d==("__debug__" : aC))=ax:=by decide)(l:bF (c::Q) b.env=(ax,bR c b.env)::bF Q b.env:=by rfl)(m:(eT Rl<|bF Q b.env).any (·.1)=ax:=by rfl):
  cf b (.Call (.Name d o) (c::Q) [] Rl) (bT RL L):=dX (CQ a f g h i j k l m) λ_ Y Y e=>Fd e
def gS{Rc:String}(a:g4 b (.type Rc) RL)(f:eU b d)(g:b.aO d=X)(h:e1 d=Z (.type Rc))(i:fu b (c::Q) L)(j:d ≠ "__name__" := by decide)(k:(d==("__debug__" : aC))=ax:=by decide)(l:bF (c::Q) b.env=(ax,bR c b.env)::bF Q b.env:=by rfl)(m:(eT Rl<|bF Q b.env).any (·.1)=ax:=by rfl):
  cf b (.Call (.Name d o) (c::Q) [] Rl) (bT RL L):=dX (I9 a f g h i j k l m) λ_ Y Y e=>Fd e
abbrev dR:=List ak->Option (ak×List ak)
def jM(s:Nat)(Q9:dR):kA:=(λae j A Y=>ae.length=s/\∃E P p t,dE j E ae P/\P.Nodup/\Q9 E=Z (p,t)/\∀q F Q8 a,b_ F p q Q8->dE F t ae a->a5 j P F (Q8++a)->A q F)
@[simp] def bG(s:Nat)(Q9:dR)(L:az (List bC)):az ak:=λy=>(L y).bind λo=>if o.1.length=s then (eg o.1 o.2).bind λr=>(Q9 r.1).map λp=>(p.1,gv o.1 p.2 r.2) else X
theorem jX.length{j:aw}{w:aX}:∀{Rq:List bC}{ae:List ah}{Q8:List ar},jX j w Rq ae Q8->Rq.length=ae.length
 |[],_,_,e=>by rw[e.1];rfl
 |Y::Rq,_,_,e=>by
  let⟨q,p,a,@bI,rfl,k,l,rfl⟩:=e;rw[dd,dd,jX.length l]
def H5{Q9:dR}{Q7:f3}(e:k8 (bG s Q9 L) w j A):BZ (jM s Q9) [] Q7 (gu L) w j A:=by
 let⟨y,P,p,@Rw,J,ai,i,r⟩:=e;let⟨@⟨Rq,z⟩,k,l⟩:=bB.mp i;split at l
 ·rename_i m;let⟨@⟨E,RA⟩,n,o⟩:=bB.mp l;let⟨@⟨RS,t⟩,u,v⟩:=cw.mp o;cases v;refine⟨y,P,Rq,z,J,ai,k,λae Rb Rr R x Rz B=>?_⟩;let⟨RB,bI,f,C,S⟩:=mO x Rz n;have a:=B.kq (S.symm.trans c2);rw[b5];refine⟨by rw[<-Rz.length];exact m,E,bI,_,t,C,(c7.mp a.ai).1,u,λq h Q8 T cY D b=>?_⟩;have F:=a.trans b f.chg;have G:∀g∈RB,g∉bI:=λg d H=>(c7.mp a.ai).2.2 g H g d rfl;have I:br h RA w RB:=f.mono b.tup λg d Y c=>b.keep g Y c (G g d);let⟨M,@N,O,Q⟩:=rV I Rz D;refine r q h M Q8 O cY (F.less (aP:=N) ?_);refine List.Perm.trans ?_ c2;rw[a_];refine (dI _ c2).trans ?_;rw[<-a_];refine (eB _ Q).trans ?_;rw[a_];exact dI _ c2
 ·cases l
variable{n:Nat}
def Li{Q9:dR}{N:ar}(P:ih b.prog b.w b.K b.aO b.base hS n N fd Rg (jM s Q9))(a:eF n b.A)(f:eU b d)(g:b.aO d=Z (.ref N))(h:Θ b.K (.ref N)=ab)(i:jt b.K fd Rg [])(j:fu b (c::Q) L)(k:(d==("__debug__" : aC))=ax:=by decide)(l:bF (c::Q) b.env=(ax,bR c b.env)::bF Q b.env:=by rfl)(m:(eT Rl<|bF Q b.env).any (·.1)=ax:=by rfl):
  cf b (.Call (.Name d o) (c::Q) [] Rl) (bG s Q9 L):=dX (Ko P a f g h i .nil Lk j k l m) λ_ Y Y e=>H5 e
inductive jT where
 | bj|eo (u:ak)|ew|cx
abbrev bM:=aU->Option (jT×aU)
def c9(RE:List Nat)(w b:aX):Prop:=(b.length=w.length/\∀a∈RE,b[a]?=w[a]?)
def c9.refl:c9 RE w w:=⟨rfl,λ_ Y=>rfl⟩
def c9.trans{b:aX}(g:c9 RE w Sh)(f:c9 RE Sh b):c9 RE w b:=⟨f.1.trans g.1,λa U=>(f.2 a U).trans<|g.2 a U⟩
def c9.set{q:Option ah}(e:v∉RE):c9 RE w (w.set v q):=⟨tg,λa U=>mV λc=>e (by rw[c];exact U)⟩
def qQ(RE:List Nat)(Q7:nA)(w:aX)(j:aw)(P:List ar)(Rw:aU):jT->Prop
 |.bj=>∀a F RI,c9 RE w a->br F Rw a RI->a5 j P F RI->Q7.bj a F
 |.ew=>∀a F RI,c9 RE w a->br F Rw a RI->a5 j P F RI->Q7.ew a F
 |.cx=>∀a F RI,c9 RE w a->br F Rw a RI->a5 j P F RI->Q7.cx a F
 |.eo u=>∀q a F RI Q8,c9 RE w a->br F Rw a RI->b_ F u q Q8->a5 j P F (RI++Q8)->Q7.eo q F
def oN(RE:List Nat)(L:bM):eG:=(λQ7 w j=>∃y P aT Rw,br j y w P/\P.Nodup/\L y=Z (aT,Rw)/\qQ RE Q7 w j P Rw aT)
def hK(b:aK)(RE:List Nat)(J:cJ)(L:bM):Prop:=(∀ ⦃o⦄,DG b J (oN RE L) o)
def iS(b:aK)(RE:List Nat)(a:List cJ)(L:bM):Prop:=(∀ ⦃o⦄,D3 b a (oN RE L) o)
variable{RF:eG}
def ku{B:eG}(e:hn b J B)(a:∀Q7 w j,RF Q7 w j->B Q7 w j):hn b J RF:=λG m w j y t c=>e G m w j y t (a y w j c)
def B1{J:List cJ}{B:eG}(e:hi b J B)(a:∀Q7 w j,RF Q7 w j->B Q7 w j):hi b J RF:=λG m w j y t c=>e G m w j y t (a y w j c)
def qQ.on{aT:jT}(e:qQ RE Q7 w j P Rw aT)(RV:c9 RE w Sh)(m:a5 j P Rb Rr):qQ RE Q7 Sh Rb Rr Rw aT:=by
 cases aT with
 |bj=>exact λa F RI N J T=>e a F RI (RV.trans N) J (m.seq T)
 |ew=>exact λa F RI N J T=>e a F RI (RV.trans N) J (m.seq T)
 |cx=>exact λa F RI N J T=>e a F RI (RV.trans N) J (m.seq T)
 |eo u=>exact λq a F RI Q8 N J b T=>e q a F RI Q8 (RV.trans N) J b (m.seq T)
def gQ:bM:=(λy=>Z (.bj,y))
@[simp] def bE(L e:bM):bM:=λy=>(L y).bind λo=>match o.1 with
 |.bj=>e o.2
 |aT=>Z (aT,o.2)
def ip:iS b RE [] gQ:=by
 refine B1 Nj λQ7 w j a=>?_;let⟨y,P,aT,@Rw,J,ai,c,r⟩:=a;cases c;exact r w j P c9.refl J (a5.perm ai<|List.Perm.refl _)
variable{L:bM}
def cq(e:hK b RE J L):iS b RE [J] L:=HU e
def QD{e:bM}(D:oN RE (bE L e) Q7 w j):zZ (oN RE L) (oN RE e) Q7 w j:=by
 let⟨y,P,aT,@Rw,J,ai,a,r⟩:=D;let⟨@⟨b,z⟩,k,l⟩:=bB.mp a;cases b with
 |bj=>exact⟨y,P,.bj,z,J,ai,k,λd F RI RV c m=>⟨z,RI,aT,Rw,c,m.ai,l,r.on RV m⟩⟩
 |ew=>cases l;exact⟨y,P,.ew,z,J,ai,k,r⟩
 |cx=>cases l;exact⟨y,P,.cx,z,J,ai,k,r⟩
 |eo u=>cases l;exact⟨y,P,.eo u,z,J,ai,k,r⟩
def bQ{a:List cJ}{e:bM}(k:hK b RE J L)(l:iS b RE a e):iS b RE (J::a) (bE L e):=B1 (O0 k l) λ_ Y Y D=>QD D
@[simp] def gL(L:az ak):bM:=λy=>(L y).map λo=>(.bj,o.2)
variable{L:az ak}
def h5(e:cf b c L)(a:m8 c X Rl.line b.env=pure ax:=by rfl):hK b RE (.Expr c Rl) (gL L):=by
 refine ku (Oy e a) λQ7 w j d=>?_;let⟨y,P,aT,@Rw,J,ai,f,r⟩:=d;let⟨@⟨p,z⟩,k,l⟩:=cw.mp f;cases l;exact⟨y,P,p,_,J,ai,k,λq F RI Q8 g h m=>r w F RI c9.refl g<|m.less<|List.Perm.refl _⟩
@[simp] def dA(L:az ak):bM:=λy=>(L y).map λo=>(.eo o.1,o.2)
def d2(e:cf b c L):hK b RE (.Return (Z c) Rl) (dA L):=by
 refine ku (PW e) λQ7 w j a=>?_;let⟨y,P,aT,@Rw,J,ai,d,r⟩:=a;let⟨@⟨p,z⟩,k,l⟩:=cw.mp d;cases l;exact⟨y,P,p,_,J,ai,k,λq F RI Q8 f g m=>r q w F RI Q8 c9.refl f g m⟩
@[simp] def el(h:az Bool)(g f:bM):bM:=λy=>(h y).bind λo=>if o.1=ab then g o.2 else f o.2
variable{RW:bM}
def gm{g f:List cJ}{R0:bM}(d:ha b h Sb)(e:iS b RE g R0)(i:iS b RE f RW):hK b RE (.If h g f Rl) (el Sb R0 RW):=by
 refine ku (Qs d e i) λQ7 w j m=>?_;let⟨y,P,aT,@Rw,J,ai,n,r⟩:=m;let⟨@⟨B,z⟩,k,l⟩:=bB.mp n;refine⟨y,P,B,z,J,ai,k,λRb Rr c a=>?_⟩;cases B with
 |true=>
  rw[aB rfl]at l ⊢;exact⟨z,Rr,aT,Rw,c,a.ai,l,r.on c9.refl a⟩
 |false=>
  rw[aD c_]at l ⊢;exact⟨z,Rr,aT,Rw,c,a.ai,l,r.on c9.refl a⟩
@[simp] def bZ(a:Nat)(L:az ak):bM:=λy=>(L y).bind λo=>if a<o.2.length then Z (.bj,o.2.set a<|Z o.1) else X
variable{a:Nat}
def oS{B:Pos}(e:b.N.Nodup)(U:b.N[a]?=Z d)(f:jc b.env.scope d)(g:cf b c L)(h:a∉RE)(i:m8 c (Z<|.Name d B) Rl.line b.env=pure ax:=by rfl)(m:b.fn d=ab\/b.env.scope.names.lookup d=Z .local:=by first|exact .inl rfl|exact .inr rfl|assumption):hK b RE (.Assign [.Name d B] c Rl) (bZ a L):=by
 refine ku (MD e U f g i m) λQ7 w j n=>?_;let⟨y,P,aT,@Rw,J,ai,o,r⟩:=n;let⟨@⟨p,z⟩,k,l⟩:=bB.mp o;split at l
 ·rename_i s;cases l;refine⟨y,P,p,_,J,ai,k,λq Rb Rr Q8 t u v=>?_⟩;let⟨RB,@bI,x,S⟩:=t.put (a:=a) u s;exact r _ Rb RB (c9.set h) x (v.less S)
 ·cases l
abbrev eK:=ak->aU->Option aU
def vK(RE:List Nat)(L:eK):fF:=(λq w j A=>∃y P u Q8 Rw,br j y w P/\b_ j u q Q8/\(P++Q8).Nodup/\L u y=Z Rw/\∀a F RI,c9 RE w a->br F Rw a RI->a5 j (P++Q8) F RI->A a F)
def gT(b:aK)(RE:List Nat)(c:a8)(L:eK):Prop:=(∀ ⦃o⦄,Eg b c (vK RE L) o)
def ti{B RF:fF}(e:i2 b c B)(a:∀q w j A,RF q w j A->B q w j A):i2 b c RF:=λG m w j d q A t p f=>e G m w j d q A t p (a d w j A f)
@[simp] def bu(a:Nat):eK:=λu y=>if a<y.length then Z (y.set a<|Z u) else X
def oO(e:b.N.Nodup)(U:b.N[a]?=Z d)(f:jc b.env.scope d)(g:a∉RE)(h:b.fn d=ab\/b.env.scope.names.lookup d=Z .local:=by first|exact .inl rfl|exact .inr rfl|assumption):gT b RE (.Name d Rl) (bu a):=by
 refine ti (Jq e U f h) λq w j A i=>?_;let⟨y,P,u,Q8,@Rw,J,k,ai,c,r⟩:=i;unfold bu at c;split at c
 ·rename_i l;cases c;let⟨RB,@bI,m,S⟩:=J.put (a:=a) k l;exact r _ j RB (c9.set g) m ((a5.perm ai<|List.Perm.refl _).less S)
 ·cases c
def My(RE:List Nat)(L:List ak->aU->Option aU):i8:=(λae w j A=>∃y P E Q8 Rw,br j y w P/\dE j E ae Q8/\(P++Q8).Nodup/\L E y=Z Rw/\∀a F RI,c9 RE w a->br F Rw a RI->a5 j (P++Q8) F RI->A a F)
def qI(b:aK)(RE:List Nat)(Q:List a8)(L:List ak->aU->Option aU):Prop:=(∀ ⦃o⦄,Ft b Q (My RE L) o)
@[simp] def jq:List ak->aU->Option aU
 |[],y=>Z y
 |_,_=>X
@[simp] def fl(L:eK)(e:List ak->aU->Option aU):List ak->aU->Option aU
 |u::E,y=>(L u y).bind (e E)
 |_,_=>X
def Eb{B RF:i8}(e:mW b Q B)(a:∀q w j A,RF q w j A->B q w j A):mW b Q RF:=λG m w j x ae A t p c=>e G m w j x ae A t p (a x w j A c)
def CG:qI b RE [] jq:=by
 refine Eb Hs λae w j A c=>?_;let⟨y,P,E,Q8,@Rw,J,d,ai,a,r⟩:=c;cases E with
 |cons u E=>cases a
 |nil=>
  cases a;exact⟨d.1,r w j P c9.refl J<|(a5.perm ai<|List.Perm.refl _).less<|List.Perm.refl _⟩
def rY{L:eK}(k:gT b RE c L)(l:qI b RE Q e)(v:(eI (c::Q) b.env).map (·.2)=hA c b.env::(eI Q b.env).map (·.2):=by rfl):qI b RE (c::Q) (fl L e):=by
 refine Eb (Qd k l v) λae w j A x=>?_;let⟨y,P,E,Q8,@Rw,J,B,ai,n,r⟩:=x;cases E with
 |nil=>cases n
 |cons u E=>
  let⟨q,p,h,@bI,rfl,cY,o,rfl⟩:=B;let⟨@z,C,D⟩:=bB.mp (show (L u y).bind (e E)=Z Rw from n);have m:((P++h)++bI).Nodup:=by rw[a_];exact ai
  refine⟨q,p,rfl,y,P,u,h,z,J,cY,(c7.mp m).1,C,λSh Rb Rr RV F d=>?_⟩;have s:∀g∈bI,g∉P++h:=λg a i=>(c7.mp m).2.2 g i g a rfl;have G:dE Rb E p bI:=o.mono d.tup λg a Y c=>d.keep g Y c (s g a);have t:a5 j (P++(h++bI)) Rb (Rr++bI):=by
   refine⟨λg Y c a=>d.keep g Y c λe=>a ?_,λg a=>?_,c7.mpr ⟨d.ai,(c7.mp m).2.1,λg a f i c=>?_⟩,d.tup,d.grow⟩
   ·rw[<-a_];exact eX _ e
   ·rcases dY.mp a with a|a
    ·rcases d.sub g a with e|e
     ·left;rw[<-a_];exact eX _ e
     ·exact .inr e
    ·left;rw[<-a_];exact en _ a
   ·subst c;rcases d.sub g a with e|e
    ·exact s g i e
    ·let⟨@Y,c,W⟩:=o.chg g i;rw[c]at e;cases e
  exact⟨z,Rr,E,bI,Rw,F,G,t.ai,D,λH Ro RB I M N=>r H Ro RB (RV.trans I) M<|t.seq N⟩
@[simp] def kx(s:Nat)(e:List ak->aU->Option aU):eK:=λu y=>match u with
 |.im (.tup is)=>if is.length=s then e (is.map .im) y else X
 |.od E=>if E.length=s then e E y else X
 |_=>X
theorem sR{j:aw}:∀{is:List V}{ae:List ah},bA j is ae->dE j (is.map .im) ae []
 |[],ae,e=>⟨e,rfl⟩
 |u::is,ae,e=>by
  let⟨q,@p,rfl,k,l⟩:=e;exact⟨q,p,[],[],rfl,⟨k,rfl⟩,sR l,rfl⟩
def KV(f:b.calm=ab)(h:qI b RE Q e)(i:(eI Q b.env).length=s:=by rfl)(m:(eI Q b.env).findIdx? (·.1)=X:=by rfl):gT b RE (.Tuple Q n Rl) (kx s e):=by
 refine ti (Hh f h i m) λq w j A o=>?_;let⟨y,P,u,Q8,@Rw,J,d,ai,a,r⟩:=o;unfold kx at a;split at a
 ·rename_i is;split at a
  ·rename_i c;let@⟨⟨g,@x,rfl,k,l⟩,rfl⟩:=d;exact⟨g,x,rfl,cj.of k,by rw[<-l.length];exact c,y,P,_,[],Rw,J,sR l,ai,a,r⟩
  ·cases a
 ·rename_i E;split at a
  ·rename_i c;let⟨g,@x,rfl,k,l⟩:=d;exact⟨g,x,rfl,cj.of k,by rw[<-l.length];exact c,y,P,_,Q8,Rw,J,l,ai,a,r⟩
  ·cases a
 ·cases a
@[simp] def i5(L:az ak)(e:eK):bM:=λy=>(L y).bind λo=>(e o.1 o.2).map λRw=>(.bj,Rw)
def nE{e:eK}(d:cf b c L)(f:gT b RE RD e)(g:s8 [RD] c Rl.line b.env=pure ax:=by rfl)(h:th [RD] c b.env=pure X:=by rfl)(k:(eI [RD] b.env).map (·.2)=[hA RD b.env]:=by rfl):hK b RE (.Assign [RD] c Rl) (i5 L e):=by
 refine ku (Na d f g h k) λQ7 w j i=>?_;let⟨y,P,aT,@Rw,J,ai,l,r⟩:=i;let⟨@⟨p,z⟩,g1,g2⟩:=bB.mp l;let⟨@RA,m,n⟩:=cw.mp g2;cases n;exact⟨y,P,p,z,J,ai,g1,λq Rb Rr Q8 o s a=>⟨z,Rr,p,Q8,_,o,s,a.ai,m,λt F RI RV u v=>r t F RI RV u<|a.seq v⟩⟩
@[simp] def rD(a v:Nat)(L:az (List bC)):bM:=λy=>(L y).bind λo=>(eg o.1 o.2).bind λr=>match r.1 with
 |[RO,RQ]=>if a<r.2.length/\v<r.2.length then Z (.bj,(r.2.set a<|Z RO).set v<|Z RQ) else X
 |_=>X
def Oz{i:aC}{L:az (List bC)}{h m pt:Pos}{M RJ n}(t:b.calm=ab)(u:b.N.Nodup)(U:b.N[a]?=Z d)(x:b.N[v]?=Z i)(A:a≠v)(B:b.env.scope.names.lookup d=Z .local)(D:b.env.scope.names.lookup i=Z .local)(F:fu b [g,f] L)(G:a∉RE)(H:v∉RE)(Q:th [.Tuple [.Name d h,.Name i m] M pt] (.Tuple [g,f] RJ n) b.env=pure (Z [d,i]))(R:s8 [.Tuple [.Name d h,.Name i m] M pt] (.Tuple [g,f] RJ n) Rl.line b.env=pure ax:=by rfl):
  hK b RE (.Assign [.Tuple [.Name d h,.Name i m] M pt] (.Tuple [g,f] RJ n) Rl) (rD a v L):=by
 refine ku (MV t u U x A B D F Q R) λQ7 w j T=>?_;let⟨y,P,aT,@Rw,J,ai,al,r⟩:=T;let⟨@⟨Rq,z⟩,k,l⟩:=bB.mp al;let⟨@⟨E,RA⟩,am,e⟩:=bB.mp l;refine⟨y,P,Rq,z,J,ai,k,λae Rb Rr cd an Rz ap=>?_⟩;let⟨RB,@bI,as,a1,S⟩:=mO an Rz am;dsimp only at e;split at e
 ·rename_i RO RQ c;split at e
  ·rename_i o;cases e;let⟨q,p,O,@R3,rfl,cY,a2,rfl⟩:=a1;let⟨I,RS,ce,@ch,rfl,bd,@⟨rfl,rfl⟩,rfl⟩:=a2;let⟨be,@s,bi,bm⟩:=as.put (a:=a) cY o.1;let⟨bn,@bs,bv,ca⟩:=bi.put (a:=v) bd (by rw[tg];exact o.2);refine⟨q,I,rfl,r _ Rb bn ((c9.set G).trans<|c9.set H) bv<|(ap.kq S.symm).less (aP:=bs++s) ?_⟩;rw[<-a_,b5,<-a_];refine (eB s ca).trans ?_;rw[a_];refine (dI be c2).trans ?_;rw[<-a_];exact eB _ bm
  ·cases e
 ·cases e
def j0(h:az Bool)(f:bM):Nat->bM
 |0=>λ_=>X
 |s+1=>λy=>(h y).bind λo=>if o.1=ab then (f o.2).bind λr=>match r.1 with
  |.bj=>j0 h f s r.2
  |.cx=>j0 h f s r.2
  |.ew=>Z (.bj,r.2)
  |.eo u=>Z (.eo u,r.2) else Z (.bj,o.2)
def Dz(s:Nat)(n:pW (aQ b.prog b.w) b.A b.env b.cE)(o:ha b h Sb)(p:iS b RE Sg RW):hK b RE (.While h Sg [] Rl) (j0 Sb RW s):=by
 refine ku (Kv n o p) λQ7 w j t=>?_;let⟨y,P,aT,@Rw,J,ai,v,r⟩:=t;refine⟨λH a F=>∃g RI,br F g a RI/\c9 RE w a/\a5 j P F RI/\j0 Sb RW H g=Z (aT,Rw),⟨s,y,P,J,c9.refl,a5.perm ai<|List.Perm.refl _,v⟩,?_⟩;rintro H Sh Rb ⟨z,Rr,x,i,d,D⟩;cases H with
 |zero=>cases D
 |succ H=>
  rw[j0]at D;let⟨@⟨B,RA⟩,cY,k⟩:=bB.mp D;refine⟨z,Rr,B,RA,x,d.ai,cY,λRo RB m f=>?_⟩;cases B with
  |false=>
   rw[aD c_]at k ⊢;cases k;exact r Sh Ro RB i m (d.seq f)
  |true=>
   rw[aB rfl]at k ⊢;let⟨@⟨N,R4⟩,C,l⟩:=bB.mp k;refine⟨λa F=>∃g RI,br F g a RI/\c9 RE w a/\a5 j P F RI/\j0 Sb RW H g=Z (aT,Rw),λa F e=>⟨H,tM H,e⟩,RA,RB,N,R4,m,f.ai,C,?_⟩;cases N with
   |bj=>exact λa F RI RV c T=>⟨R4,RI,c,i.trans RV,(d.seq f).seq T,l⟩
   |cx=>exact λa F RI RV c T=>⟨R4,RI,c,i.trans RV,(d.seq f).seq T,l⟩
   |ew=>
    cases l;exact λa F RI RV c T=>r a F RI (i.trans RV) c ((d.seq f).seq T)
   |eo u=>
    cases l;exact λq a F RI Q8 RV c E T=>r q a F RI Q8 (i.trans RV) c E ((d.seq f).seq T)
structure me(R1:eM)(j:aw)(Q8:List ar)(E:List V):Prop where
 go:∀F,e4 j F->(∀g∈Q8,∀Y,j g=Z Y->F g=Z Y)->∀(a:Nat) (u:V),E[a]?=Z u->R1.go a F/\∀d w4,R1.qU a F d w4->cO F w4/\cg w4 u d
 stop:∀F,e4 j F->(∀g∈Q8,∀Y,j g=Z Y->F g=Z Y)->R1.stop E.length F
def qW(j:aw)(w:aX)(Q8:List ar):Option (Nat×ak)->Prop
 |none=>True
 |some (a,u)=>∃q,w[a]?=Z (Z q)/\b_ j u q Q8
def xe(L:az (List V×Option (Nat×ak))):cX:=(λw j a=>∃y P p Rw,br j y w P/\P.Nodup/\L y=Z (p,Rw)/\∀R1 F RI Q8,br F Rw w RI->me R1 F Q8 p.1->qW F w Q8 p.2->(∀g∈Q8,eV F g)->a5 j P F (RI++Q8)->a R1 F)
def l_(b:aK)(RD RX:a8)(L:az (List V×Option (Nat×ak))):Prop:=(∀ ⦃o⦄,CJ b RD RX (xe L) o)
def wj{B RF:cX}(e:kL b RD RX B)(a:∀w j Q8,RF w j Q8->B w j Q8):kL b RD RX RF:=λG m w j Q8 t c=>e G m w j Q8 t (a w j Q8 c)
def dn(RD:eK)(f:bM):List V->bM
 |[]=>λy=>Z (.bj,y)
 |d::p=>λy=>(RD (.im d) y).bind λz=>(f z).bind λr=>match r.1 with
  |.bj=>dn RD f p r.2
  |.cx=>dn RD f p r.2
  |.ew=>Z (.bj,r.2)
  |.eo u=>Z (.eo u,r.2)
@[simp] def k1:Option (Nat×ak)->aU->aU
 |none,y=>y
 |some (a,u),y=>match y[a]? with
  |some (Z .ek)=>y.set a (Z u)
  |_=>y
@[simp] def e5(L:az (List V×Option (Nat×ak)))(RD:eK)(f:bM):bM:=λy=>(L y).bind λo=>(dn RD f o.1.1 o.2).map λr=>(r.1,k1 o.1.2 r.2)
def wy{Y:Option (Nat×ak)}(J:br j y w P)(e:qW j w Q8 Y):∃Rr Q9,br j (k1 Y y) w Rr/\(Rr++Q9).Perm (P++Q8):=by
 cases Y with
 |none=>exact⟨P,Q8,J,List.Perm.refl _⟩
 |some o=>
  let⟨a,u⟩:=o;let⟨@q,k,l⟩:=e;unfold k1;dsimp only;split
  ·exact J.back l k
  ·exact⟨P,Q8,J,List.Perm.refl _⟩
def nG(RV:List Nat):Option (Nat×ak)->Prop
 |none=>True
 |some (a,_)=>a∈RV
def Od{L:az (List V×Option (Nat×ak))}{i:eK}(hf:pW (aQ b.prog b.w) b.A b.env b.cE)(hm:b.calm=ab)(U:l_ b RD RX L)(hw:gT b RV RD i)(h0:iS b RV Sg RW)(cs:∀a∈RE,a∈RV)(db:∀y p Rw,L y=Z (p,Rw)->nG RV p.2)(ds:hn b (.For RD RX Sg [] Rl) (As (xe L) (vK RV i)<|oN RV RW)):hK b RE (.For RD RX Sg [] Rl) (e5 L i RW):=by
 refine ku ds λQ7 w j dL=>?_;let⟨y,P,aT,@Rw,J,ai,eq,r⟩:=dL;let⟨@⟨⟨E,Y⟩,z⟩,k,l⟩:=bB.mp eq;let⟨@⟨N,RA⟩,ev,ex⟩:=cw.mp l;cases ex;refine⟨y,P,(E,Y),z,J,ai,k,λR1 Rb Rr Q8 fd ao fn bi an=>?_⟩;have fr:nG RV Y:=db y _ _ k;have bm:=c7.mp an.ai;have ap:∀{Ro:aw}{RB:List ar},a5 Rb Rr Ro RB->∀g∈Q8,∀I,Rb g=Z I->Ro g=Z I:=λm g f0 I c=>m.keep g I c λe=>bm.2.2 g e g f0 rfl;have bn:∀{Ro:aw}{RB:List ar}{f:aX},a5 Rb Rr Ro RB->c9 RV w f->qW Ro f Q8 Y:=λ{Ro RB f} m N=>by
  cases Y with
  |none=>trivial
  |some o=>
   let⟨a,u⟩:=o;let⟨@q,f1,f2⟩:=fn;exact⟨q,(N.2 a fr).trans f1,f2.mono m.tup<|ap m⟩
 have bs:∀{f:aX},c9 RV w f->c9 RE w f:=λN=>⟨N.1,λa U=>N.2 a<|cs a U⟩;have bv:∀{f:aX}{Ro:aw}{RB:List ar}{RA:aU},qQ RE Q7 w j P (k1 Y RA) .bj->c9 RV w f->br Ro RA f RB->a5 Rb Rr Ro RB->Q7.bj f Ro:=λ{f Ro RB RA} r N as v=>by
  let⟨G,@Q9,a1,S⟩:=wy as (bn v N);exact r f Ro G (bs N) a1 ((an.trans v bi).less S)
 refine⟨λa H a2 F=>H+a=E.length/\∃h RI,c9 RV w a2/\br F h a2 RI/\a5 Rb Rr F RI/\dn i RW (E.drop a) h=Z (N,RA),⟨E.length,rfl,z,Rr,c9.refl,fd,a5.perm bm.1<|List.Perm.refl _,ev⟩,?_⟩;rintro a H a2 F ⟨ii,h,RI,x,ca,T,M⟩;by_cases cd:a<E.length
 ·let@⟨f4,f8⟩:=ao.go F T.tup (ap T) a E[a] (by simp[cd]);rw[ix cd,dn]at M;let⟨@R4,cY,ga⟩:=bB.mp M;let⟨@⟨ce,bd⟩,ge,Q⟩:=bB.mp ga;refine .inr ⟨f4,λf Ro=>(H-1)+(a+1)=E.length/\∃h RI,c9 RV w f/\br Ro h f RI/\a5 Rb Rr Ro RI/\dn i RW (E.drop<|a+1) h=Z (N,RA),λf Ro e=>⟨H-1,⋯,e⟩,λd Ro gl=>?_⟩;let@⟨be,gt⟩:=f8 d Ro gl;have as:=ca.mono be.tupS λg W Y c=>be g Y c;have v:=T.same be;refine⟨h,RI,.im E[a],[],R4,as,⟨gt,rfl⟩,by rw[b5];exact v.ai,cY,λio g1 G R a1 ch=>?_⟩;have B:a5 Rb Rr g1 G:=v.seq (by rw[b5]at ch;exact ch);refine⟨R4,G,ce,bd,a1,B.ai,ge,?_⟩;cases ce with
  |bj=>exact λal am C n s t=>⟨⋯,bd,C,(x.trans R).trans n,s,B.seq t,Q⟩
  |cx=>exact λal am C n s t=>⟨⋯,bd,C,(x.trans R).trans n,s,B.seq t,Q⟩
  |ew=>
   cases Q;exact λal am C n s t=>bv r ((x.trans R).trans n) s (B.seq t)
  |eo u=>
   cases Q;intro q al am C ci n s g2 t;have cl:=B.seq t;have co:=(x.trans R).trans n;let⟨cr,@g3,hd,he⟩:=wy (Q8:=Q8) s (bn cl co);refine r q al am cr ci (bs co) hd g2 ((an.trans cl bi).less (aP:=g3) ?_);rw[a_];refine (dI cr c2).trans ?_;rw[<-a_];refine (eB ci he).trans ?_;rw[a_,a_];exact dI _ c2
 ·have U:a=E.length:=⋯
  subst U;refine .inl ⟨ao.stop F T.tup<|ap T,?_⟩;rw[m6 (bD _)]at M;cases M;exact bv r x ca T
end
section
variable{b:aK}
variable{i:eK}
def hv{L:az (List V×Option (Nat×ak))}{RW:bM}(c:pW (aQ b.prog b.w) b.A b.env b.cE)(e:b.calm=ab)(U:l_ b RD RX L)(f:gT b RV RD i)(g:iS b RV Sg RW)(h:∀a∈RE,a∈RV)(j:∀y p Rw,L y=Z (p,Rw)->nG RV p.2)(k:∀d,lD RX b.env d=pure d:=by intro Y;rfl):hK b RE (.For RD RX Sg [] Rl) (e5 L i RW):=
 Od c e U f g h j (OF c e U f g k)
def Qr(R:Φ)(gM:bP):cX:=(λw j Q8=>gM w j λd Rb=>∃g,d=.ref g/\(((∃x,cW R Rb g x)/\Q8 (qw R g) Rb)\/((∃x,cj R Rb g x)/\Q8 (t8 R g) Rb)))
variable{C:a8}
def OZ{gM:bP}(l:bx b C gM):kL b RD C (Qr b.K gM):=by
 intro G m w j Q8 t e;refine bK (l G m w j _ t e) λq a n=>?_;let⟨d,@Rb,h,p,s⟩:=n;let⟨@g,c,r⟩:=s;subst c;cases p;rcases r with ⟨⟨x,i⟩,r⟩|⟨⟨x,i⟩,r⟩
 ·let⟨@Rf,u,o,aN⟩:=h.list i;refine uq o.isList ?_;refine⟨a.heap.objs.size,[a.heap.objs.size],_,_,Rb,rfl,h.kept (RF:=a.toks) λf Y c=>cp _ c,HI g _,⟨_,dc _ rfl,rfl,rfl⟩,λf k=>?_,r⟩;have c:f=a.heap.objs.size:=by simpa using k
  subst c;exact h.sN (bD _) (h.aZ.fresh<|bD _)
 ·let⟨@Rf,u,o,aN⟩:=h.tuple i;refine wpAny_pyIter_tuple (show a.heap.IsTuple g Rf.toArray from o) ?_;refine⟨a.heap.objs.size,[a.heap.objs.size],_,_,Rb,rfl,h.kept (RF:=a.toks) λf Y c=>cp _ c,OL g _,⟨_,dc _ rfl,rfl,rfl⟩,λf k=>?_,r⟩;have c:f=a.heap.objs.size:=by simpa using k
  subst c;exact h.sN (bD _) (h.aZ.fresh<|bD _)
theorem bA.get{j:aw}:∀{E:List V}{ae:List ah}{a:Nat}{u:V},bA j E ae->E[a]?=Z u->∃q,ae[a]?=Z q/\cg j u q
 |[],_,_,_,_,c=>by simp at c
 |u::E,_,0,_,e,c=>by
  let⟨q,@p,rfl,k,l⟩:=e;simp at c;subst c;exact⟨q,rfl,k⟩
 |u::E,_,a+1,_,e,c=>by
  let⟨q,@p,rfl,k,l⟩:=e;let⟨@I,b,d⟩:=bA.get (a:=a) l ⇑c;exact⟨I,by simpa using b,d⟩
variable{g:ar}
theorem Ke(e:j g=Z (.lst x))(hd:bA j E x):me (qw R g) j [g] E where
 go:=λF B n a u c=>by
  let⟨@q,b,f⟩:=hd.get c;have S:=cW.of (R:=R) (n g (.head _) _ e);refine⟨⟨x,q,S,b⟩,λd k ⟨h,i⟩=>?_⟩;subst h;rw[i x S]at b;cases b;exact⟨cO.refl _,f.mono B.tup⟩
 stop:=λF B n=>⟨x,cW.of<|n g (.head _) _ e,by rw[<-hd.length];exact bD _⟩
theorem JI{Y:a6}(e:j g=Z (.dx Y<|.lst x))(hd:bA j E x):me (qw R g) j [] E where
 go:=λF B n a u c=>by
  let⟨@q,b,f⟩:=hd.get c;have S:cW R F g x:=.inl (.inr ⟨Y,B.dx _ _ _ e⟩);refine⟨⟨x,q,S,b⟩,λd k ⟨h,i⟩=>?_⟩;subst h;rw[i x S]at b;cases b;exact⟨cO.refl _,f.mono B.tup⟩
 stop:=λF B n=>⟨x,.inl<|.inr ⟨Y,B.dx _ _ _ e⟩,by rw[<-hd.length];exact bD _⟩
theorem QC(e:j g=Z (.tup x))(hd:bA j E x):me (t8 R g) j [] E where
 go:=λF B n a u c=>by
  let⟨@q,b,f⟩:=hd.get c;have S:=cj.of (R:=R) (B.tup g _ e);refine⟨⟨x,q,S,b⟩,λd k ⟨h,i⟩=>?_⟩;subst h;rw[i x S]at b;cases b;exact⟨cO.refl _,f.mono B.tup⟩
 stop:=λF B n=>⟨x,cj.of<|B.tup g _ e,by rw[<-hd.length];exact bD _⟩
abbrev jE:=az (List V×Option (Nat×ak))
@[simp] def lp(u:ak):Option (List V):=match u with
 |.im (.tup E)=>Z E
 |.lst E=>Z E
 |.cK E=>Z E
 |_=>X
@[simp] def cn(L:az bC):jE:=λy=>(L y).bind λo=>match o.1 with
 |.ck u=>(lp u).map λE=>((E,X),o.2)
 |.bk a=>(fv a o.2).bind λr=>(lp r.1).map λE=>((E,if r.1.c4=ab then X else Z (a,r.1)),r.2)
def FK(D:b_ j u q Q8)(c:lp u=Z E):
  ∃g,q=.ref g/\(((∃x,cW R j g x)/\me (qw R g) j Q8 E)\/((∃x,cj R j g x)/\me (t8 R g) j Q8 E)):=by
 unfold lp at c;split at c
 ·cases c;let@⟨⟨g,@x,rfl,k,l⟩,rfl⟩:=D;exact⟨g,rfl,.inr ⟨⟨x,cj.of k⟩,QC k l⟩⟩
 ·cases c;let⟨g,@x,rfl,k,l,rfl⟩:=D;exact⟨g,rfl,.inl ⟨⟨x,cW.of k⟩,Ke k l⟩⟩
 ·cases c;let⟨g,x,@Y,rfl,k,l,rfl⟩:=D;exact⟨g,rfl,.inl ⟨⟨x,.inl<|.inr ⟨Y,k⟩⟩,JI k l⟩⟩
 ·cases c
def eP{L:az bC}(e:dk b C L):l_ b RD C (cn L):=by
 refine wj (OZ e) λw j H A=>?_;let⟨y,P,p,@Rw,J,ai,B,r⟩:=A;let⟨@⟨d,z⟩,k,l⟩:=bB.mp B;refine⟨y,P,d,z,J,ai,k,λq Rb Rr Q8 i Rz f=>?_⟩;cases d with
 |ck u=>
  let⟨@E,m,n⟩:=cw.mp l;cases n;let⟨@g,rfl,o⟩:=FK (R:=b.K) Rz m;refine⟨g,rfl,?_⟩;rcases o with ⟨c,ao⟩|⟨c,ao⟩
  ·exact .inl ⟨c,r _ Rb Rr Q8 i ao trivial (b_.chg Rz) f⟩
  ·exact .inr ⟨c,r _ Rb Rr Q8 i ao trivial (b_.chg Rz) f⟩
 |bk a=>
  let⟨@⟨u,RA⟩,m,n⟩:=bB.mp l;let⟨@E,D,F⟩:=cw.mp n;cases F;let⟨I,RB,@bI,s,h,t,G⟩:=ES i m;let@⟨Rz,rfl⟩:=Rz;rw[Rz]at s;cases s;rw[b5]at f;have v:=f.kq G.symm;let⟨@g,rfl,o⟩:=FK (R:=b.K) h D;have x:qW Rb w bI (if u.c4=ab then X else Z (a,u)):=by
   split
   ·trivial
   ·exact⟨_,Rz,h⟩
  refine⟨g,rfl,?_⟩;rcases o with ⟨c,ao⟩|⟨c,ao⟩
  ·exact .inl ⟨c,r _ Rb RB bI t ao x h.chg v⟩
  ·exact .inr ⟨c,r _ Rb RB bI t ao x h.chg v⟩
def sh{L:az ak}:∀y p Rw,cn (aj L) y=Z (p,Rw)->nG RV p.2:=by
 intro y p Rw e;let⟨@⟨d,z⟩,k,l⟩:=bB.mp e;unfold aj at k;let⟨@o,c,a⟩:=cw.mp k;cases a;let⟨@E,f,b⟩:=cw.mp l;cases b
 trivial
variable{a:Nat}
def mF(U:a∈RV):∀y p Rw,cn (au a) y=Z (p,Rw)->nG RV p.2:=by
 intro y p Rw e;let⟨@⟨d,z⟩,k,l⟩:=bB.mp e;unfold au at k;split at k
 ·cases k;let⟨@⟨u,RA⟩,f,b⟩:=bB.mp l;let⟨@E,g,c⟩:=cw.mp b;cases c;show nG RV (if u.c4=ab then X else Z (a,u));split
  ·trivial
  ·exact U
 ·cases k
def fS(M:Int)(s:Nat):List V:=((range s).map λ(n:Nat)=>V.int (M+(n:Int)))
theorem GS{M:Int}:me (sC M s) j [] (fS M s) where
 go:=λF B n a u c=>by
  have U:a<s:=by
   have:=(fR.mp c).1
   rwa [fS,bH,lX]at this
  refine⟨U,λd f ⟨b,e⟩=>?_⟩;subst b;rw[fS,gc,List.getElem?_range U]at c;cases c;exact⟨cO.refl _,e⟩
 stop:=λF B n=>by
  show s<=_;rw[fS,bH,lX];exact bD _
def pJ(a:Int):Prop :=( -1000000<=a/\a<=1000000)
noncomputable instance (a:Int):Decidable (pJ a):=inferInstanceAs (Decidable<|_/\_)
@[simp] def iK(L:az (List bC)):jE:=λy=>(L y).bind λo=>(hH o.2 o.1).bind λE=>match E with
 |[.im (.int v)]=>if pJ v then Z ((fS 0 v.toNat,X),o.2) else X
 |_=>X
def AY{u:V}(e:lN j [.im u] ae):∃q,ae=[q]/\cg j u q:=by
 let⟨q,@p,rfl,⟨@Q8,k,Y⟩,l⟩:=e;cases (show p=[] from l);exact⟨q,rfl,k⟩
def x1{u c:V}(e:lN j [.im u,.im c] ae):∃q I,ae=[q,I]/\cg j u q/\cg j c I:=by
 let⟨q,@p,rfl,⟨@Q8,k,Y⟩,l⟩:=e;let⟨@I,rfl,a⟩:=AY l;exact⟨q,I,rfl,k,a⟩
def qX{g:a8}(h:eU b "range")(i:b.aO "range" = X)(d:fu b [g] L)(m:bF [g] b.env=[(ax,bR g b.env)]:=by rfl):l_ b RD (.Call (.Name "range" o) [g] [] Rl) (iK L):=by
 refine wj (Mj h i d m) λw j A n=>?_;let⟨y,P,p,@Rw,J,ai,s,r⟩:=n;let⟨@⟨Rq,z⟩,k,l⟩:=bB.mp s;let⟨@E,t,a⟩:=bB.mp l;refine⟨y,P,Rq,z,J,ai,k,λae Rb Rr B e Rz u=>?_⟩;have x:=Rz.read e t;split at a
 ·rename_i v;split at a
  ·rename_i f;cases a;let⟨@q,rfl,c⟩:=AY x;cases (show q=.int v from c);exact⟨v,rfl,by have:=f.1;lia,by have:=f.2;lia,r _ Rb Rr [] e GS trivial (λg d=>nomatch d) (by rw[b5];exact u.less (List.Perm.refl _))⟩
  ·cases a
 ·cases a
def yN:∀y p Rw,iK L y=Z (p,Rw)->nG RV p.2:=by
 intro y p Rw e;let⟨@⟨Rq,z⟩,k,l⟩:=bB.mp e;let⟨@E,b,a⟩:=bB.mp l;split at a
 ·split at a
  ·cases a;trivial
  ·cases a
 ·cases a
def sY(b:aK)(Sa:List a8)(L:az Bool):Prop:=(∀ ⦃o⦄,EL b Sa (iy L) o)
def dS:az Bool:=(λy=>Z (ab,y))
def Dw:sY b [] dS:=by
 intro G m w j A t a;let⟨y,P,f,@Rw,J,ai,c,r⟩:=a;cases c;exact MX G m w j A t (r j P J<|a5.perm ai<|List.Perm.refl _)
def oG{L:az Bool}(e:ha b h L):sY b [h] L:=Mw e
@[simp] def jD(RC:List Nat)(y:aU):aU:=RC.map λa=>y.getD a X
def jY:List Nat->aU->aU
 |[],y=>y
 |a::p,y=>jY p (match y[a]? with|some (Z _)=>y.set a (Z .ek)|_=>y)
@[simp] def hX:List Nat->aU->aU->aU
 |a::p,Y::aP,y=>hX p aP (y.set a Y)
 |_,_,y=>y
def gh(own:Nat)(RD:eK)(h:az Bool)(c:az ak): List V -> List V -> aU -> Option (List V × aU)
  |[],a,aP => Z (a,aP)
  |d :: p,a,aP => (RD (.im d)<|replicate own X ++ aP).bind λz => (h z).bind λo => if o.1=ab then (c o.2).bind λr => match r.1 with
      |.im u => if a.length<100000 then gh own RD h c p (a ++ [u]) (r.2.drop own) else X
      |_ => X
    else gh own RD h c p a (o.2.drop own)
@[simp] def cP(own:Nat)(RC:List Nat)(M:jE)(RD:eK)(h:az Bool)(c:az ak):az ak:=λy=>(M y).bind λo=>(gh own RD h c o.1.1 []<|jD RC o.2).map λr=>(.lst r.1,k1 o.1.2<|hX RC r.2 o.2)
def oB(own s:Nat):List Nat:=((range s).map (·+own))
def IF(e:y[a]?=Z Y):y.getD a X=Y:=by rw[cD,e];rfl
def br.void(J:br j y w P)(a:Nat):∃Rr RB,br j (match y[a]? with|some (Z _)=>y.set a (Z .ek)|_=>y) w Rr/\lz j (y.getD a X) (w.getD a X) RB/\(Rr++RB).Perm P:=by
 split
 ·rename_i u hd;let⟨q,Rr,@RB,k,l,b,d⟩:=J.out hd;refine⟨RB,Rr,b,?_,d⟩;rw[IF hd,cD,k];exact⟨q,rfl,l⟩
 ·rename_i e;refine⟨P,[],J,?_,by rw[b5]⟩;have:y.getD a X=X:=by
   rw[cD];cases c:y[a]? with
   |none=>rfl
   |some Y=>
    cases Y with
    |none=>rfl
    |some u=>exact absurd c (e u)
  rw[this];exact rfl
theorem F0{j:aw}{w:aX}:∀{RC:List Nat}{y:aU}{P:List ar},RC.Nodup->br j y w P->∃Rr RB,br j (jY RC y) w Rr/\br j (jD RC y) (RC.map λa=>w.getD a X) RB/\(Rr++RB).Perm P
 |[],y,P,_,J=>⟨P,[],J,⟨rfl,rfl⟩,by rw[b5]⟩
 |a::p,y,P,ai,J=>by
  let⟨Rr,@RB,k,l,f⟩:=J.void a;have b:=e6.mp ai;let⟨g,@d,h,e,i⟩:=F0 (RC:=p) b.2 k;refine⟨g,RB++d,h,⟨_,_,RB,d,rfl,l,?_,rfl⟩,kb.trans<|(dI _ i).trans<|c2.trans f⟩;have c:jD p (match y[a]? with|some (Z _)=>y.set a (Z .ek)|_=>y)=jD p y:=by
   unfold jD;refine g_ λv m=>?_;split
   ·rw[cD,cD,mV];rintro rfl;exact b.1 m
   ·rfl
  rw[c]at e;exact e
def br.Ip(J:br j y w P)(e:lz j Y (w.getD a X) Q9):∃Rr RB,br j (y.set a Y) w Rr/\(Rr++RB).Perm (P++Q9):=by
 cases Y with
 |some u=>
  let⟨@q,c,D⟩:=e;refine J.back D ?_;rw[cD]at c;cases r:w[a]? with
  |none=>rw[r]at c;cases c
  |some d=>rw[r]at c;rw[show d=Z q from c]
 |none=>
  cases (show Q9=[] from e);rw[b5];by_cases U:a<y.length
  ·cases r:y[a]? with
   |none=>exact absurd (List.getElem?_eq_none_iff.mp r) ⋯
   |some d=>
    cases d with
    |none=>
     refine⟨P,[],?_,by rw[b5]⟩;have:y.set a X=y:=by
      refine oc λv=>?_;by_cases c:a=v
      ·subst c;rw[r,ua U]
      ·rw[mV c]
     rw[this];exact J
    |some u=>
     let⟨q,Rr,@RB,k,l,m,n⟩:=J.out r;have gen:∀{y:aU}{w:aX}{P:List ar}{a:Nat},br j y w P->∃Rr RB,br j (y.set a X) w Rr/\(Rr++RB).Perm P:=by
      intro y;induction y with
      |nil=>intro w P a J;exact⟨P,[],by simpa using J,by rw[b5]⟩
      |cons Y y f=>
       intro w P a J;let⟨d,p,O,@R3,rfl,g,b,rfl⟩:=J;cases a with
       |zero=>exact⟨R3,O,⟨d,p,[],R3,rfl,rfl,b,rfl⟩,c2⟩
       |succ a=>
        let⟨aP,@Q7,h,i⟩:=f (a:=a) b;refine⟨O++aP,Q7,⟨d,p,O,aP,rfl,g,h,rfl⟩,?_⟩;rw[a_];exact dI _ i
     exact gen J
  ·refine⟨P,[],?_,by rw[b5]⟩;rw[List.set_eq_of_length_le ⋯];exact J
theorem C7{j:aw}{w:aX}:∀{RC:List Nat}{aP y:aU}{P Q9:List ar},br j y w P->br j aP (RC.map λa=>w.getD a X) Q9->∃Rr RB,br j (hX RC aP y) w Rr/\(Rr++RB).Perm (P++Q9)
 |[],aP,y,P,Q9,J,_=>⟨P,Q9,by cases aP<;>exact J,List.Perm.refl _⟩
 |a::p,[],y,P,Q9,J,e=>⟨P,Q9,J,List.Perm.refl _⟩
 |a::p,Y::aP,y,P,Q9,J,e=>by
  let⟨d,B,g,@h,c,k,l,rfl⟩:=e;cases c;let⟨Rr,@O,b,f⟩:=J.Ip k;let⟨RB,@R3,RP,RJ⟩:=C7 (RC:=p) (aP:=aP) b l;refine⟨RB,R3++O,RP,?_⟩;rw[<-a_,<-a_];refine (eB O RJ).trans ?_;rw[a_];refine (dI Rr c2).trans ?_;rw[<-a_];exact eB _ f
def MI:∀{RC:List Nat}{aP y:aU},RC.length=aP.length->RC.Nodup->hX RC aP (jY RC y)=hX RC aP y:=by
 have l:∀{p:List Nat}{aP y:aU}{a:Nat}{Y:Option ak},a∉p->hX p aP (y.set a Y)=(hX p aP y).set a Y:=by
  intro p;induction p with
  |nil=>intro aP y a Y W;cases aP<;>rfl
  |cons v p b=>
   intro aP y a Y e;cases aP with
   |nil=>rfl
   |cons h aP=>
    have g:a≠v:=λc=>e (by rw[c];exact .head _);show hX p aP ((y.set a Y).set v h)=(hX p aP<|y.set v h).set a Y;rw[yZ _ _ g,b λd=>e<|.tail _ d]
 have i:∀{p:List Nat}{y:aU}{a:Nat}{Y:Option ak},a∉p->jY p (y.set a Y)=(jY p y).set a Y:=by
  intro p;induction p with
  |nil=>intro y a Y W;rfl
  |cons v p b=>
   intro y a Y e;have g:a≠v:=λc=>e (by rw[c];exact .head _);show jY p (match (y.set a Y)[v]? with|some (Z _)=>(y.set a Y).set v (Z .ek)|_=>y.set a Y)=(jY p (match y[v]? with|some (Z _)=>y.set v (Z .ek)|_=>y)).set a Y;rw[mV g];cases y[v]? with
   |none=>exact b λd=>e (.tail _ d)
   |some r=>
    cases r with
    |none=>exact b λd=>e (.tail _ d)
    |some u=>
     show jY p ((y.set a Y).set v<|Z .ek)=_;rw[yZ _ _ g];exact b λd=>e (.tail _ d)
 intro RC;induction RC with
 |nil=>intro aP y W W;cases aP<;>rfl
 |cons a p b=>
  intro aP y j ai;have f:=e6.mp ai;cases aP with
  |nil=>cases j
  |cons h aP=>
   have k:p.length=aP.length:=by simpa using j
   show hX p aP ((jY p (match y[a]? with|some (Z _)=>y.set a (Z .ek)|_=>y)).set a h)=hX p aP (y.set a h);split
   ·rw[i f.1,rd,<-i f.1,b k f.2]
   ·rw[<-i f.1,b k f.2]
theorem AZ{j:aw}{y:aU}{p:aX}{P:List ar}(e:br j y p P):∀{own:List aC},br j (replicate own.length X++y) (own.map (λ_=>X)++p) P
 |[]=>e
 |d::own=>⟨X,_,[],P,rfl,rfl,AZ e (own:=own),rfl⟩
theorem yO{j:aw}:∀{s:Nat}{y:aU}{w:aX}{P:List ar},br j y w P->∃Rr RB,br j (y.drop s) (w.drop s) Rr/\(Rr++RB).Perm P
 |0,y,w,P,e=>⟨P,[],e,by rw[b5]⟩
 |s+1,[],w,P,e=>by
  cases e.1;exact⟨[],P,⟨rfl,rfl⟩,List.Perm.refl _⟩
 |s+1,Y::y,w,P,e=>by
  let⟨d,p,O,@R3,rfl,k,l,rfl⟩:=e;let⟨Rr,@RB,a,b⟩:=yO (s:=s) l;exact⟨Rr,RB++O,a,by rw[<-a_];exact (eB O b).trans c2⟩
def a5.both(g:a5 j P Rb (Rr++Q8)):a5 j P Rb Rr:=g.less (List.Perm.refl _)
theorem bA.snoc:∀{E:List V}{ae:List ah}{u:V}{q:ah},bA j E ae->cg j u q->bA j (E++[u]) (ae++[q])
 |[],ae,u,q,e,D=>by cases (show ae=[] from e);exact⟨q,[],rfl,D,rfl⟩
 |c::E,ae,u,q,e,D=>by
  let⟨I,@p,rfl,k,l⟩:=e;exact⟨I,p++[q],rfl,k,l.snoc D⟩
variable{M:jE}
def DL(ai:RC.Nodup)(e:k8 (cP own.length RC M i Sb Sl) w j A):
  rW own RC (xe M) (λ_=>vK (oB own.length RC.length) i) (λ_=>iy Sb) (λ_=>k8 Sl) w j A:=by
 let⟨y,P,p,@Rw,J,f4,f8,r⟩:=e;let⟨@⟨⟨x,Y⟩,z⟩,k,l⟩:=bB.mp f8;let⟨@⟨E,cd⟩,ga,ge⟩:=cw.mp l;cases ge;refine⟨y,P,(x,Y),z,J,f4,k,λR1 Rb Rr Q8 gl ao gt g1 g2 lw=>?_⟩;let⟨am,@L,ce,t,S⟩:=F0 ai gl;have ch:a5 j P Rb (L++(am++Q8)):=g2.kq (by
  refine (eB Q8 S.symm).trans ?_;rw[a_];exact kb)
 have ci:=c7.mp ch.ai;have g3:∀d∈am++Q8,eV Rb d:=λd D=>by
  rcases dY.mp D with D|D
  ·exact ce.chg d D
  ·exact g1 d D
 have an:∀{Ro:aw}{RB:List ar},a5 Rb L Ro RB->∀g∈am++Q8,∀I,Rb g=Z I->Ro g=Z I:=λm g b I c=>m.keep g I c λe=>ci.2.2 g e g b rfl;refine⟨λa H Rj F=>H+a=x.length/\∃n aP G,br F aP (RC.map λa=>w.getD a X) G/\aP.length=RC.length/\a5 Rb L F G/\bA F n Rj/\gh own.length i Sb Sl (x.drop a) n aP=Z (E,cd),
  ⟨x.length,rfl,[],jD RC z,L,t,by rw[jD,bH],a5.perm ci.1<|List.Perm.refl _,rfl,ga⟩,?_⟩;rintro a H Rj F ⟨ap,n,aP,G,cl,hd,T,co,as⟩;by_cases cr:a<x.length
 ·let@⟨he,hf⟩:=ao.go F T.tup (λg b=>an T g<|en _ b) a x[a] (by simp[cr]);rw[ix cr,gh]at as;let⟨@R4,cY,hm⟩:=bB.mp as;let⟨@⟨f,bd⟩,hw,Q⟩:=bB.mp hm;refine .inr ⟨he,λcs Ro=>(H-1)+(a+1)=x.length/\∃n aP G,br Ro aP (RC.map λa=>w.getD a X) G/\aP.length=RC.length/\a5 Rb L Ro G/\bA Ro n cs/\gh own.length i Sb Sl (x.drop<|a+1) n aP=Z (E,cd),λcs Ro e=>⟨H-1,⋯,e⟩,λd Ro D=>?_⟩;let@⟨B,h0⟩:=hf d Ro D;have ii:=cl.mono B.tupS λg W Y c=>B g Y c;have db:=T.same B;have a1:=co.mono B.tupS.tup;refine⟨replicate own.length X++aP,G,.im x[a],[],R4,AZ ii,⟨h0,rfl⟩,by rw[b5];exact db.ai,cY,λbe io ds a2 dL bi=>⟨λv q h=>?_,?_⟩⟩
  ·
   have mb:own.length<=v:=by
    by_cases it:v<own.length
    ·rw[jA,oT ⇑it,gc]at h;cases c:own[v]? with
     |none=>rw[c]at h;cases h
     |some mo=>rw[c]at h;cases h
    ·lia
   have ms:v<own.length+RC.length:=by
    have:=(fR.mp h).1
    rwa [jA,c5,bH,bH]at this
   have ap:v∈oB own.length RC.length:=dZ.mpr ⟨v-own.length,iJ.mpr ⋯,⋯⟩;exact (a2.2 v ap).trans h
  ·have eq:a5 Rb L io ds:=db.seq (by rw[b5]at bi;exact bi);have a1:=a1.mono bi.tup.tup;have ev:be.drop own.length=RC.map λa=>w.getD a X:=by
    have m0:=dL.len;refine oc λv=>?_;by_cases h:v<RC.length
    ·have ap:v+own.length∈oB own.length RC.length:=dZ.mpr ⟨v,iJ.mpr h,rfl⟩;have:=a2.2 _ ap;rw[ml,zI,this,jA,om ↥0,bH,Nat.add_sub_cancel]
    ·have na:be.length<=own.length+RC.length:=by
      rw[a2.1,jA,c5,bH,bH];exact bD _
     rw[v7 (by rw[f5];lia),v7 (by rw[bH];lia)]
   have ex:be.length=own.length+RC.length:=by rw[a2.1,jA,c5,bH,bH]
   refine⟨R4,ds,f,bd,dL,eq.ai,hw,λnb bm N bn=>?_⟩;have R:=eq.seq bn;dsimp only at Q ⊢;cases f with
   |false=>
    rw[aD c_]at Q ⊢;let⟨al,@fd,C,bs⟩:=yO (s:=own.length) N;rw[ev]at C;exact⟨⋯,n,bd.drop own.length,al,C,by rw[f5,N.len,ex];lia,R.less bs,a1.mono bn.tup.tup,Q⟩
   |true=>
    rw[aB rfl]at Q ⊢;let⟨@⟨q,fn⟩,jp,O⟩:=bB.mp Q;dsimp only at O;split at O
    ·rename_i u;split at O
     ·rename_i ne;refine⟨bd,bm,.im u,fn,N,R.ai,jp,λI nl al nm C kt bv=>?_⟩;let@⟨kw,rfl⟩:=kt;rw[b5]at bv;have fr:=(a1.mono bn.tup.tup).mono bv.tup.tup;refine⟨EW (show Rj.length<=100000 by rw[<-fr.length];lia) ∅,?_⟩;let⟨lc,@nn,f0,lf⟩:=yO (s:=own.length) C;rw[ev]at f0;exact⟨⋯,n++[u],fn.drop own.length,lc,f0,by rw[f5,C.len,ex];lia,(R.seq bv).less lf,fr.snoc kw,O⟩
     ·cases O
    ·cases O
 ·have U:a=x.length:=⋯
  subst U;refine .inl ⟨ao.stop F T.tup<|λg b=>an T g<|en _ b,λca f1=>?_⟩;rw[m6 (bD _),gh]at as;cases as;have li:br F (jY RC z) w am:=ce.mono T.tup λg b=>an T g (eX _ b);let⟨bm,@f2,N,lm⟩:=C7 li cl;rw[MI (by rw[hd]) ai]at N;have ln:qW F w Q8 Y:=by
   cases Y with
   |none=>trivial
   |some o=>
    let⟨a,u⟩:=o;let⟨@q,ls,lv⟩:=gt;exact⟨q,ls,lv.mono T.tup λg b=>an T g<|en _ b⟩
  let⟨al,@fd,C,bs⟩:=wy (Q8:=Q8) N ln;have B:cO F (upd F ca<|.lst Rj):=(cO.refl F).upd f1;have R:a5 j P F al:=(ch.trans T g3).less (aP:=fd++f2) (by
   rw[<-a_];refine (eB f2 bs).trans ?_;rw[a_];refine (dI bm c2).trans ?_;rw[<-a_];refine (eB Q8 lm).trans ?_;rw[a_];exact kb)
  exact r _ _ al [ca] (C.mono B.tupS λg W Y c=>B g Y c) ⟨ca,Rj,rfl,ec,co.mono B.tupS.tup,rfl⟩ (R.add f1 C.chg)
def o6{Sd:a8}{Sa:List a8}{Rp:f6}(c:b.calm=ab)(Rk:hF b Rp own RC)(ai:RC.Nodup)(U:l_ b RD RX M)(f:∀a,gT (b.fc (fp b own RC) Rp a) (oB own.length RC.length) RD i)(g:∀a,sY (b.fc (fp b own RC) Rp a) Sa Sb)(h:∀a,cf (b.fc (fp b own RC) Rp a) Sd Sl)(k:∀d,lD RX b.env d=pure d:=by intro Y;rfl):cf b (.ListComp Sd [⟨RD,RX,Sa,0⟩] Rp Rl) (cP own.length RC M i Sb Sl):=
 dX (PL c Rk U f g h k) λw j A e=>DL ai e
end
@[simp] def i9(RE:List Nat):List ak->aU->Nat->List ak
 |u::E,Y::y,v=>(if u.c4=ab then u else if v∈RE then Y.getD .ek else .ek)::i9 RE E y (v+1)
 |u::E,[],v=>(if u.c4=ab then u else .ek)::i9 RE E [] (v+1)
 |[],_,_=>[]
@[simp] def ed(s H:Nat)(RE:List Nat)(L:bM):dR:=λE=>if E.length=s then match L (E.map Z++replicate (H-s) X) with
 |some (.eo p,y)=>Z (p,i9 RE E y 0)
 |some (.bj,y)=>Z (.im .aW,i9 RE E y 0)
 |_=>X else X
theorem Aw{j:aw}:∀{E:List ak}{ae:List ah}{P:List ar}{H:Nat},dE j E ae P->br j (E.map Z++replicate H X) (ae.map Z++replicate H X) P
 |[],ae,P,H,e=>by
  let@⟨rfl,rfl⟩:=e;show br j (replicate H X) (replicate H X) [];induction H with
  |zero=>exact⟨rfl,rfl⟩
  |succ H a=>exact⟨X,_,[],[],rfl,rfl,a,rfl⟩
 |u::E,ae,P,H,e=>by
  let⟨q,p,Rr,@RB,rfl,k,l,rfl⟩:=e;exact⟨Z q,_,Rr,RB,rfl,⟨q,rfl,k⟩,Aw l,rfl⟩
theorem u0{j F:aw}{RE:List Nat}(B:e4 j F):∀{E:List ak}{ae:List ah}{o:List ar}{y:aU}{w:aX}{P:List ar}{a:Nat},dE j E ae o->br F y w P->(∀(v:Nat) (q:ah),(a+v)∈RE->ae[v]?=Z q->w[v]?=Z (Z q))->
  ∃Q8 Q9,dE F (i9 RE E y a) ae Q8/\(Q8++Q9).Perm P
 |[],ae,o,y,w,P,a,e,J,_=>⟨[],P,by unfold i9;exact⟨e.1,rfl⟩,List.Perm.refl _⟩
 |u::E,ae,o,[],w,P,a,e,J,n=>by
  let⟨q,p,O,@R3,rfl,k,l,rfl⟩:=e;let@⟨rfl,rfl⟩:=J;let⟨Q8,@Q9,b,f⟩:=u0 (y:=[]) (w:=[]) (P:=[]) (a:=a+1) B l ⟨rfl,rfl⟩ λv q r s=>by
   have:=n (v+1) q (by rw[show a+(v+1)=a+1+v by lia];exact r) ⇑s;simp at this
  rw[i9];refine⟨Q8,Q9,⟨q,p,[],Q8,rfl,?_,b,rfl⟩,f⟩;split
  ·rename_i h;have:=k.mono B λg i=>by rw[k.c4 h]at i;cases i
   rw[k.c4 h]at this;exact this
  ·exact rfl
 |u::E,ae,o,Y::y,w,P,a,e,J,n=>by
  let⟨q,p,O,@R3,rfl,k,l,rfl⟩:=e;let⟨d,m,aP,@Q7,rfl,x,z,rfl⟩:=J;let⟨Q8,@Q9,b,f⟩:=u0 (y:=y) (w:=m) (a:=a+1) B l z λv q r s=>by
   have:=n (v+1) q (by rw[show a+(v+1)=a+1+v by lia];exact r) ⇑s;simpa using this
  rw[i9];split
  ·rename_i h;have t:=k.mono B λg i=>by rw[k.c4 h]at i;cases i
   rw[k.c4 h]at t;refine⟨Q8,Q9++aP,⟨q,p,[],Q8,rfl,t,b,rfl⟩,?_⟩;rw[<-a_];exact (eB aP f).trans c2
  ·split
   ·rename_i A;have C:d=Z q:=by
     have:=n 0 q A rfl;simpa using this
    subst C;cases Y with
    |none=>
     refine⟨Q8,Q9++aP,⟨q,p,[],Q8,rfl,rfl,b,rfl⟩,?_⟩;rw[<-a_];exact (eB aP f).trans c2
    |some c=>
     let⟨@H,G,D⟩:=x;cases G;refine⟨aP++Q8,Q9,⟨q,p,aP,Q8,rfl,D,b,rfl⟩,?_⟩;rw[a_];exact dI _ f
   ·refine⟨Q8,Q9++aP,⟨q,p,[],Q8,rfl,rfl,b,rfl⟩,?_⟩;rw[<-a_];exact (eB aP f).trans c2
section
variable{Ri:bz}{D:bg}{R:Φ}{aO:aC->Option af}{Rh:a4}
def GW{R2:aC}{N:ar}{RG:List aC}{n:Nat}{L:bM}(P:gJ R d R2 J N fd)(Rk:mU RG Rg (dT J))(x:Rg.length=s)(G:∀a∈RE,a<s)(y:∀(M:af) (O:bp) (RT:List ei) (m:aq) (j:aw) (Q7:f3),eF n (O.deeper<|i_ R2 (dT J) m.heap.objs.size N M)->iS (kY hS Ri D R aO Rh RG R2 (dT J) N M O RT m j Q7).mZ RE (gA J) L):
  ih Ri D R aO Rh hS (n+1) N fd Rg (jM s<|ed s RG.length RE L):=by
 refine P.ok Rk (λae j A Q7 e=>e.1.trans x.symm) (λM O RT m j ae A Q7 z e=>⟨_,y M O RT m j Q7 z,?_⟩);let@⟨l,⟨E,h,p,@t,k,ai,b,r⟩⟩:=e;have B:E.length=s:=k.length.trans l;unfold ed at b;rw[aB B]at b;have J:=Aw (H:=RG.length-s) k;have Q:kl RG ae=ae.map Z++replicate (RG.length-s) X:=by unfold kl;rw[l]
 rw[Q];have fin:∀{f:aX}{F:aw}{RI:List ar}{Rw:aU}{q:ah}{Q8:List ar},i9 RE E Rw 0=t->c9 RE (ae.map Z++replicate (RG.length-s) X) f->br F Rw f RI->b_ F p q Q8->a5 j h F (RI++Q8)->A q F:=λ{f F RI Rw q Q8} kO RV g i T=>by
  let⟨bI,@Q9,o,C⟩:=u0 (RE:=RE) (a:=0) T.tup k g λv q u w=>by
   rw[lb]at u;rw[RV.2 v u,oT (by rw[bH];exact (fR.mp w).1),gc,w];rfl
  rw[kO]at o;refine r q F Q8 bI i o (T.less (aP:=Q9) ?_);rw[a_];exact (dI Q8 C).trans c2
 split at b
 ·rename_i RS Rw c;cases b;exact⟨_,h,.eo p,Rw,J,ai,c,λq f F RI Q8 RV g i T=>fin rfl RV g i T⟩
 ·rename_i Rw c;cases b;exact⟨_,h,.bj,Rw,J,ai,c,λf F RI RV g T=>fin rfl RV g ⟨rfl,rfl⟩ (by rw[b5];exact T)⟩
 ·cases b
end
def b8(j:aw)(u:ak)(A:b2):Prop:=(∀q F Q8,cO j F->b_ F u q Q8->Q8.Nodup->(∀g∈Q8,j g=X)->A q F)
def b8.zB{u:V}(r:b8 j (.im u) A)(m:cO j F)(e:cg F u q):A q F:=r q F [] m ⟨e,rfl⟩ jo (λg a=>nomatch a)
def b8.i{j:aw}{u:V}{A:b2}{q:ah}(r:b8 j (.im u) A)(e:cg j u q):A q j:=r.zB (cO.refl j) e
def b8.l{o:ar}(r:b8 j (.lst E) A)(a:j o=X)(e:bA j E x):A (.ref o) (upd j o<|.lst x):=by
 have m:cO j (upd j o<|.lst x):=(cO.refl j).upd a;exact r _ _ [o] m ⟨o,x,rfl,ec,e.mono m.tupS.tup,rfl⟩ (e3 _ _) λg b=>by rw[cV.mp b];exact a
def b8.t{j:aw}{E:List V}{x:List ah}{A:b2}{o:ar}(r:b8 j (.im<|.tup E) A)(a:j o=X)(e:bA j E x):A (.ref o) (upd j o<|.tup x):=by
 have m:cO j (upd j o<|.tup x):=(cO.refl j).upd a;exact r.zB m ⟨o,x,rfl,ec,e.mono m.tupS.tup⟩
section
variable{b:aK}
def dP.imp{N:af->af->dy af}{p:bI}(e:dP b N p)(a:∀d i j A,RS d i j A->p d i j A):dP b N RS:=λG m w j d i q I A t c f g=>e G m w j d i q I A t c f (a d i j A g)
def eA.imp{N:af}{p RS:List ah->aw->b2->Prop}(e:eA b N p)(a:∀x j A,RS x j A->p x j A):eA b N RS:=λG m w j x Rv A t c d=>e G m w j x Rv A t c (a x j A d)
def h1.imp{p:bI}(e:h1 b p)(a:∀d i j A,RS d i j A->p d i j A):h1 b RS:=λc f G m w j d i q I A t g h k=>e c f G m w j d i q I A t g h (a d i j A k)
def eN.i{j:aw}{u:V}{q:ah}(e:eN j (.im u) q):cg j u q:=e.elim λ_ D=>D.1
end
abbrev fG:=ak->ak->Option ak
@[simp] def i0(aP:Int->Int->Bool)(L:Int->Int->V):fG:=λg f=>match g,f with
 |.im (.int a),.im (.int v)=>if aP a v=ab then Z (.im<|L a v) else X
 |_,_=>X
def zk{aP:Int->Int->Bool}{L:Int->Int->V}{g f:ak}(e:i0 aP L g f=Z u):∃a v,g=.im (.int a)/\f=.im (.int v)/\aP a v=ab/\u=.im (L a v):=by
 unfold i0 at e;split at e
 ·rename_i a v;split at e
  ·rename_i b;cases e;exact⟨a,v,rfl,rfl,b,rfl⟩
  ·cases e
 ·cases e
section
variable{b:aK}
variable{N:af->af->dy af}{L:Int->Int->ah}{e:Int->Int->V}
def tV{aP:Int->Int->Prop}{R3:Int->Int->Bool}(Y:dP b N (nR aP L))(f:∀a v,R3 a v=ab->aP a v)(g:∀j a v,cg j (e a v)<|L a v):e7 b N (i0 R3 e):=
 Y.imp λd i j A ⟨RO,RQ,u,h,k,c,r⟩=>by
  let⟨a,@v,rfl,rfl,l,rfl⟩:=zk c;exact⟨a,v,h.i,k.i,f a v l,b8.i r<|g j a v⟩
def sz(Y:dP b N (lT L))(f:∀j a v,cg j (e a v)<|L a v):e7 b N (i0 (λ_ W=>ab) e):=
 Y.imp λd i j A ⟨RO,RQ,u,g,h,c,r⟩=>by
  let⟨a,@v,rfl,rfl,k,rfl⟩:=zk c;exact⟨a,v,g.i,h.i,b8.i r<|f j a v⟩
@[simp] def pz:fG:=i0 (λ_ Y=>ab) λa v=>.int (a-v)
def gI(a v:Int):Bool:=(!(decide (bq.Int.intBits a>tp)&&decide (bq.Int.intBits v>tp)&&bq.Int.intTooBig (bq.Int.intBits a+bq.Int.intBits v)))
@[simp] def iw:fG:=i0 gI λa v=>.int (a*v)
@[simp] def iN:fG:=i0 (λ_ v=>decide (0<v/\v<1073741824)) λa v=>.int (a/v)
@[simp] def fg:fG:=i0 (λ_ v=>decide (0<v)) λa v=>.int (a%v)
@[simp] def qJ:fG:=i0 (λa v=>decide (0<=v/\v<=1000000/\a.natAbs<2^64)) λa v=>.int (a^v.toNat)
@[simp] def il:fG:=i0 (λ_ Y=>ab) λa v=>.aG (decide (a<=v))
@[simp] def lH:fG:=i0 (λ_ Y=>ab) λa v=>.aG (decide (v<a))
@[simp] def zb:fG:=i0 (λ_ Y=>ab) λa v=>.aG (decide (v<=a))
def rT:e7 b (fC .Sub) pz:=sz O4 λ_ Y Y=>rfl
def j_:e7 b (fC .Mult) iw:=tV GO (λa v e=>by unfold gI at e;unfold IntMulOk;rw[sS]at e;rw[e];exact c_) λ_ Y Y=>rfl
def n8:e7 b (fC .FloorDiv) iN:=tV PX (λa v e=>show 0<v/\v<1073741824 from g9 e) λ_ Y Y=>rfl
def gY:e7 b (fC .Mod) fg:=tV NI (λa v e=>g9 e) λ_ Y Y=>rfl
def tR:e7 b (fC .Pow) qJ:=tV H9 (λa v e=>show 0<=v/\v<=1000000/\a.natAbs<2^64 from g9 e) λ_ Y Y=>rfl
def sd:e7 b (ez .LtE) il:=sz NY λ_ Y Y=>rfl
def tZ:e7 b (ez .Gt) lH:=sz Ht λ_ Y Y=>rfl
def Js:e7 b (ez .GtE) zb:=sz Lx λ_ Y Y=>rfl
def N9:dP b (fC .Add) (λd i j A=>∃g f Rj,d=.ref g/\i=.ref f/\cj b.K j g []/\cj b.K j f Rj/\A (.ref f) j):=by
 intro G m w j d i q I A t o p e;let⟨g,f,@Rj,rfl,rfl,u,v,r⟩:=e;cases o;cases p;let⟨@Rf,x,y,Y⟩:=t.tuple u;let⟨@E,F,RR,Y⟩:=t.tuple v;have c:Rf=[]:=x.um.mpr rfl;subst c;let⟨@⟨cls,z,data,bk⟩,a,h,⟨@s,hd⟩⟩:=id y;let⟨@⟨H,B,data2,C⟩,k,l,⟨@D,n⟩⟩:=id RR;simp only at h hd l n;subst h hd l n;exact uS ⟨_,a,rfl⟩ ⟨_,k,rfl⟩ wQ vU wx xZ (xd _ _) (tuple_addW0 g f _ _ s D z B bk C rfl) ⟨a,k,.ref f,j,t,rfl,r⟩
@[simp] def dz:fG:=λg f=>match g,f with
 |.im (.int a),.im (.int v)=>Z (.im<|.int<|a+v)
 |.im (.tup d),.im (.tup i)=>if d.length+i.length<=100000 then Z (.im<|.tup<|d++i) else X
 |.lst d,.lst i=>if d.length+i.length<=100000 then Z (.lst<|d++i) else X
 |.im (.str d),.im (.str i)=>if d.length+i.length<=100000 then Z (.im<|.str<|d++i) else X
 |_,_=>X
theorem bA.app:∀{g f:List V}{d i:List ah},bA j g d->bA j f i->bA j (g++f) (d++i)
 |[],f,d,i,e,n=>by cases (show d=[] from e);exact n
 |u::g,f,d,i,e,n=>by
  let⟨q,@p,rfl,k,l⟩:=e;exact⟨q,p++i,rfl,k,l.app n⟩
def bA.nil{j:aw}{g:List V}(e:bA j g []):g=[]:=by
 cases g with
 |nil=>rfl
 |cons u g=>let⟨Y,@Y,c,Y⟩:=e;cases c
def fJ:e7 b (fC .Add) dz:=by
 refine (Jm.or<|N9.or<|GY.or<|JH.or Mb).imp λd i j A z=>?_;let⟨RO,RQ,@u,p,q,c,r⟩:=z;unfold dz at c;split at c
 ·cases c;exact .inl ⟨_,_,p.i,q.i,b8.i r rfl⟩
 ·rename_i g f;split at c
  ·rename_i h;cases c;let⟨o,@x,rfl,k,l⟩:=p.i;let⟨m,@Rj,rfl,n,e⟩:=q.i;refine .inr ?_;by_cases w:x=[]
   ·subst w;cases l.nil;exact .inl ⟨o,m,Rj,rfl,rfl,cj.of k,cj.of n,b8.i r ⟨m,Rj,rfl,n,e⟩⟩
   ·refine .inr (.inl ⟨o,m,x,Rj,rfl,rfl,cj.of k,cj.of n,w,lA (by rw[<-l.length,<-e.length];exact h),λy=>?_,λy s v=>b8.t r v<|l.app e⟩);subst y;cases e.nil;rw[b5]at r;exact b8.i r ⟨o,x,rfl,k,l⟩
  ·cases c
 ·rename_i g f;split at c
  ·rename_i h;cases c;let⟨Y,o,@x,rfl,k,l,Y⟩:=p;let⟨Y,m,@Rj,rfl,n,e,Y⟩:=q;exact .inr (.inr (.inr (.inl ⟨o,m,x,Rj,rfl,rfl,k,n,lA (by rw[<-l.length,<-e.length];exact h),λs v=>b8.l r v<|l.app e⟩)))
  ·cases c
 ·rename_i g f;split at c
  ·rename_i h;cases c;exact .inr (.inr<|.inr<|.inr ⟨g,f,p.i,q.i,lA h,b8.i r rfl⟩)
  ·cases c
 ·cases c
def M_(s:Nat){O:bp}{d i:V}{I q:af}(o:V.bw s d=ab)(aY:V.bw s i=ab)(U:O.units+s+2<bJ)(p:c3 m.heap d I)(b:c3 m.heap i q):SeqAt.RcAt O m I q (bU d i):=by
 cases d with
 |aW=>
  cases (show I=.none from p);cases i with
  |aW=>cases (show q=.none from b);exact Nx
  |aG f=>cases (show q=.bool f from b);exact Jv f
  |int v=>let⟨@B,rfl⟩:=b;exact L4 v B
  |str j=>let⟨@B,rfl⟩:=b;exact P8 j B
  |tup E=>let⟨g,Y,Rm,@H,rfl,k,l,n,W⟩:=b;exact K_ ⟨Y,k,l,H,n⟩ ⋯
  |fn g=>cases s<;>cases aY
  |aT g=>cases s<;>cases aY
  |fd=>cases s<;>cases aY
 |aG f=>
  cases (show I=.bool f from p);cases i with
  |aW=>cases (show q=.none from b);exact KZ f
  |aG h=>cases (show q=.bool h from b);exact Mh f h
  |int v=>let⟨@B,rfl⟩:=b;exact NN f v B
  |str j=>let⟨@B,rfl⟩:=b;exact HF f j B
  |tup E=>let⟨g,Y,Rm,@H,rfl,k,l,n,W⟩:=b;exact Ib f ⟨Y,k,l,H,n⟩ ⋯
  |fn g=>cases s<;>cases aY
  |aT g=>cases s<;>cases aY
  |fd=>cases s<;>cases aY
 |int a=>
  let⟨@e,rfl⟩:=p;cases i with
  |aW=>cases (show q=.none from b);exact KP a e
  |aG h=>cases (show q=.bool h from b);exact N0 a e h
  |int v=>let⟨@B,rfl⟩:=b;exact Ie a e v B
  |str j=>let⟨@B,rfl⟩:=b;exact Ir a e j B
  |tup E=>let⟨g,Y,Rm,@H,rfl,k,l,n,W⟩:=b;exact Kx a e ⟨Y,k,l,H,n⟩ ⋯
  |fn g=>cases s<;>cases aY
  |aT g=>cases s<;>cases aY
  |fd=>cases s<;>cases aY
 |str a=>
  let⟨@e,rfl⟩:=p;cases i with
  |aW=>cases (show q=.none from b);exact Ml a e
  |aG h=>cases (show q=.bool h from b);exact PQ a e h
  |int v=>let⟨@B,rfl⟩:=b;exact LJ a e v B
  |str j=>let⟨@B,rfl⟩:=b;exact Qp a e j B
  |tup E=>let⟨g,Y,Rm,@H,rfl,k,l,n,W⟩:=b;exact Qx a e ⟨Y,k,l,H,n⟩ ⋯
  |fn g=>cases s<;>cases aY
  |aT g=>cases s<;>cases aY
  |fd=>cases s<;>cases aY
 |fn g=>cases s<;>cases o
 |aT g=>cases s<;>cases o
 |fd=>cases s<;>cases o
 |tup E=>
  cases s with
  |zero=>cases o
  |succ s=>
  let⟨g,Y,Rm,@H,rfl,k,l,n,u⟩:=p;have z:m.heap.IsTuple g Rm:=⟨Y,k,l,H,n⟩;cases i with
  |aW=>cases (show q=.none from b);exact PR z ⋯
  |aG h=>cases (show q=.bool h from b);exact Nt h z ⋯
  |int v=>let⟨@B,rfl⟩:=b;exact Mm v B z ⋯
  |str j=>let⟨@B,rfl⟩:=b;exact GZ j B z ⋯
  |fn g=>cases aY
  |aT g=>cases aY
  |fd=>cases aY
  |tup Q=>
   let⟨f,M,t,@D,rfl,F,G,J,w⟩:=b;have R5:m.heap.IsTuple f t:=⟨M,F,G,D,J⟩;have x:=u.length;have y:=w.length;have L:Rm.toList.length=Rm.size:=by simp
   have N:t.toList.length=t.size:=by simp
   rw[L]at x;rw[N]at y;have r:=Cf (A:=O) (e:=λv=>bU (E.getD v .aW)<|Q.getD v .aW) z R5 ⋯ λv P R=>by
    let⟨@RO,A,S⟩:=u.get (v:=v) (q:=Rm[v]) (by rw[gq];simp[P]);let⟨@RQ,C,T⟩:=w.get (v:=v) (q:=t[v]) (by rw[gq];simp[R]);rw[cD,A,cD,C];exact gW s (jf o A) (jf aY C) (by show O.units+1+s+1<bJ;lia) S T
   rw[<-x,<-y,qS (E:=E) (Q:=Q) (λv d i g f=>by rw[cD,g,cD,f];rfl)]at r;rw[bU];exact r
@[simp] def d_:fG:=λg f=>match g,f with
 |.im d,.im i=>if (V.bw 8 d&&V.bw 8 i)=ab then Z (.im<|.aG<|bU d i) else X
 |.lst d,.lst i=>if (V.ct 8 d&&V.ct 8 i)=ab then Z (.im<|.aG<|dU d i) else X
 |_,_=>X
theorem vL:∀{d i:List V},d.length≠i.length->dU d i=ax
 |[],[],e=>absurd rfl e
 |[],_::_,_=>rfl
 |_::_,[],_=>rfl
 |g::d,f::i,e=>by
  rw[dU,vL (λc=>e (by rw[dd,dd,c])),DF]
def ox{G:List (ar×a6)}(t:aF b G w j m){g:ar}{x:List ah}{E:List V}(k:j g=Z (.lst x))(l:bA j E x):∃Rf:List af,m.heap.IsList g Rf.toArray/\dr m.heap E Rf/\Rf.length=E.length:=by
 let@⟨z,⟨Rf,@s,a,c⟩⟩:=t.aZ g _ k;have:=l.ea t.aZ a;exact⟨Rf,⟨_,c,rfl,s,rfl⟩,this,this.length.symm⟩
def hI(an:b.A.units+20<bJ):e7 b (ez .Eq) d_:=by
 intro G m w j d i q I A t y z P;let⟨RO,RQ,@u,h,n,c,r⟩:=P;unfold d_ at c;split at c
 ·rename_i g f;split at c
  ·rename_i e;cases c;rw[cF]at e;exact M_ 8 e.1 e.2 ⋯ (h.i.ea t.aZ y) (n.i.ea t.aZ z) b.prog b.w _ _ ⟨.aG _,j,t,rfl,b8.i r rfl⟩
  ·cases c
 ·rename_i g f;split at c
  ·rename_i e;cases c;rw[cF]at e;let⟨Y,o,@x,rfl,k,l,Y⟩:=h;let⟨Y,ap,@Rj,rfl,R,S,Y⟩:=n;cases y;cases z;let⟨@T,B,U,s⟩:=ox t k l;let⟨@al,C,am,F⟩:=ox t R S;by_cases p:g.length=f.length
   ·have:=LR (A:=b.A) (e:=λv=>bU (g.getD v .aW)<|f.getD v .aW) B C (by rw[cH,cH,s,F];exact p) ⋯ λv H J=>by
     let⟨@RO,L,h⟩:=U.get (v:=v) (q:=T.toArray[v]) (by simp at H;simp[H]);let⟨@RQ,M,n⟩:=am.get (v:=v) (q:=al.toArray[v]) (by simp at J;simp[J]);rw[cD,L,cD,M];exact gW 8 (jf e.1 L) (jf e.2 M) (by show b.A.units+1+8+1<bJ;lia) h n
    refine this b.prog b.w _ _ ⟨.aG _,j,t,rfl,?_⟩;have N:=qS (E:=g) (Q:=f) (c:=λv=>bU (g.getD v .aW)<|f.getD v .aW) (λv d i g f=>by rw[cD,g,cD,f];rfl);rw[<-p,B6,kk,tF]at N;rw[cH,s,N];exact b8.i r rfl
   ·refine Ku (A:=b.A) B C (by rw[cH,cH,s,F];simpa using p) ⋯ b.prog b.w _ _ ⟨.aG _,j,t,rfl,?_⟩;rw[vL p]at r;exact b8.i r rfl
  ·cases c
 ·cases c
end
section
variable{b:aK}
def Qt(s:Nat){O:bp}{d i:V}{I q:af}(o:V.bw s d=ab)(aY:V.bw s i=ab)(U:O.units+s+2<bJ)(p:c3 m.heap d I)(b:c3 m.heap i q):SeqAt.RcNeAt O m I q (!bU d i):=by
 cases d with
 |aW=>
  cases (show I=.none from p);cases i with
  |aW=>cases (show q=.none from b);exact Mg
  |aG f=>cases (show q=.bool f from b);exact HH f
  |int v=>let⟨@B,rfl⟩:=b;exact Lp v B
  |str j=>let⟨@B,rfl⟩:=b;exact PA j B
  |tup E=>let⟨g,Y,Rm,@H,rfl,k,l,n,W⟩:=b;exact OX ⟨Y,k,l,H,n⟩ ⋯
  |fn g=>cases s<;>cases aY
  |aT g=>cases s<;>cases aY
  |fd=>cases s<;>cases aY
 |aG f=>
  cases (show I=.bool f from p);cases i with
  |aW=>cases (show q=.none from b);exact KN f
  |aG h=>cases (show q=.bool h from b);exact Mq f h
  |int v=>let⟨@B,rfl⟩:=b;exact Kb f v B
  |str j=>let⟨@B,rfl⟩:=b;exact Jl f j B
  |tup E=>let⟨g,Y,Rm,@H,rfl,k,l,n,W⟩:=b;exact PG f ⟨Y,k,l,H,n⟩ ⋯
  |fn g=>cases s<;>cases aY
  |aT g=>cases s<;>cases aY
  |fd=>cases s<;>cases aY
 |int a=>
  let⟨@e,rfl⟩:=p;cases i with
  |aW=>cases (show q=.none from b);exact He a e
  |aG h=>cases (show q=.bool h from b);exact GQ a e h
  |int v=>let⟨@B,rfl⟩:=b;exact Pf a e v B
  |str j=>let⟨@B,rfl⟩:=b;exact Jr a e j B
  |tup E=>let⟨g,Y,Rm,@H,rfl,k,l,n,W⟩:=b;exact G5 a e ⟨Y,k,l,H,n⟩ ⋯
  |fn g=>cases s<;>cases aY
  |aT g=>cases s<;>cases aY
  |fd=>cases s<;>cases aY
 |str a=>
  let⟨@e,rfl⟩:=p;cases i with
  |aW=>cases (show q=.none from b);exact JC a e
  |aG h=>cases (show q=.bool h from b);exact Iq a e h
  |int v=>let⟨@B,rfl⟩:=b;exact LG a e v B
  |str j=>let⟨@B,rfl⟩:=b;exact LL a e j B
  |tup E=>let⟨g,Y,Rm,@H,rfl,k,l,n,W⟩:=b;exact KJ a e ⟨Y,k,l,H,n⟩ ⋯
  |fn g=>cases s<;>cases aY
  |aT g=>cases s<;>cases aY
  |fd=>cases s<;>cases aY
 |fn g=>cases s<;>cases o
 |aT g=>cases s<;>cases o
 |fd=>cases s<;>cases o
 |tup E=>
  cases s with
  |zero=>cases o
  |succ s=>
  let⟨g,Y,Rm,@H,rfl,k,l,n,u⟩:=p;have z:m.heap.IsTuple g Rm:=⟨Y,k,l,H,n⟩;cases i with
  |aW=>cases (show q=.none from b);exact OB z ⋯
  |aG h=>cases (show q=.bool h from b);exact Kj h z ⋯
  |int v=>let⟨@B,rfl⟩:=b;exact Lo v B z ⋯
  |str j=>let⟨@B,rfl⟩:=b;exact PC j B z ⋯
  |fn g=>cases aY
  |aT g=>cases aY
  |fd=>cases aY
  |tup Q=>
   let⟨f,M,t,@D,rfl,F,G,J,w⟩:=b;have R5:m.heap.IsTuple f t:=⟨M,F,G,D,J⟩;have x:=u.length;have y:=w.length;have L:Rm.toList.length=Rm.size:=by simp
   have N:t.toList.length=t.size:=by simp
   rw[L]at x;rw[N]at y;have r:=Ij (A:=O) (e:=λv=>bU (E.getD v .aW)<|Q.getD v .aW) z R5 ⋯ λv P R=>by
    let⟨@RO,A,S⟩:=u.get (v:=v) (q:=Rm[v]) (by rw[gq];simp[P]);let⟨@RQ,C,T⟩:=w.get (v:=v) (q:=t[v]) (by rw[gq];simp[R]);rw[cD,A,cD,C];exact gW s (jf o A) (jf aY C) (by show O.units+1+s+1<bJ;lia) S T
   rw[<-x,<-y,qS (E:=E) (Q:=Q) (λv d i g f=>by rw[cD,g,cD,f];rfl)]at r;rw[bU];exact r
@[simp] def gn:fG:=λg f=>match g,f with
 |.im d,.im i=>if (V.bw 8 d&&V.bw 8 i)=ab then Z (.im<|.aG<|!bU d i) else X
 |.lst d,.lst i=>if (V.ct 8 d&&V.ct 8 i)=ab then Z (.im<|.aG<|!dU d i) else X
 |_,_=>X
def oV(an:b.A.units+20<bJ):e7 b (ez .NotEq) gn:=by
 intro G m w j d i q I A t y z P;let⟨RO,RQ,@u,h,n,c,r⟩:=P;unfold gn at c;split at c
 ·rename_i g f;split at c
  ·rename_i e;cases c;rw[cF]at e;exact Qt 8 e.1 e.2 ⋯ (h.i.ea t.aZ y) (n.i.ea t.aZ z) b.prog b.w _ _ ⟨.aG _,j,t,rfl,b8.i r rfl⟩
  ·cases c
 ·rename_i g f;split at c
  ·rename_i e;cases c;rw[cF]at e;let⟨Y,o,@x,rfl,k,l,Y⟩:=h;let⟨Y,ap,@Rj,rfl,R,S,Y⟩:=n;cases y;cases z;let⟨@T,B,U,s⟩:=ox t k l;let⟨@al,C,am,F⟩:=ox t R S;by_cases p:g.length=f.length
   ·have:=Jg (A:=b.A) (e:=λv=>bU (g.getD v .aW)<|f.getD v .aW) B C (by rw[cH,cH,s,F];exact p) ⋯ λv H J=>by
     let⟨@RO,L,h⟩:=U.get (v:=v) (q:=T.toArray[v]) (by simp at H;simp[H]);let⟨@RQ,M,n⟩:=am.get (v:=v) (q:=al.toArray[v]) (by simp at J;simp[J]);rw[cD,L,cD,M];exact gW 8 (jf e.1 L) (jf e.2 M) (by show b.A.units+1+8+1<bJ;lia) h n
    refine this b.prog b.w _ _ ⟨.aG _,j,t,rfl,?_⟩;have N:=qS (E:=g) (Q:=f) (c:=λv=>bU (g.getD v .aW)<|f.getD v .aW) (λv d i g f=>by rw[cD,g,cD,f];rfl);rw[<-p,B6,kk,tF]at N;rw[cH,s,N];exact b8.i r rfl
   ·refine Of (A:=b.A) B C (by rw[cH,cH,s,F];simpa using p) ⋯ b.prog b.w _ _ ⟨.aG _,j,t,rfl,?_⟩;rw[vL p]at r;exact b8.i r rfl
  ·cases c
 ·cases c
def dW{Rx:Type}[DecidableEq Rx](Rd:List (Rx×V))(n:Rx):Option V:=((Rd.find? λo=>decide (o.1=n)).map (·.2))
theorem lZ{Rx:Type}[DecidableEq Rx]{j:aw}{n:Rx}:∀{Rd:List (Rx×V)}{U:List (Rx×ah)},d7 j Rd U->(∀u,dW Rd n=Z u->∃q,gE U n=Z q/\cg j u q)/\(dW Rd n=X->gE U n=X)
 |_,_,.nil=>⟨(λu c=>by cases c),(λ_=>rfl)⟩
 |_,_,.cons (a:=o) (b:=r) e B=>by
  let@⟨k,l⟩:=lZ (n:=n) B;by_cases c:o.1=n
  ·have a:r.1=n:=e.1.symm.trans c;refine⟨λu hd=>?_,λb=>?_⟩
   ·have:∀p,dW (o::p) n=Z o.2:=λp=>by simp[dW,iQ,c]
    rw[this]at hd;cases hd;exact⟨r.2,q6 a,e.2⟩
   ·have:∀p,dW (o::p) n=Z o.2:=λp=>by simp[dW,iQ,c]
    rw[this]at b;cases b
  ·have a:¬ r.1=n:=λd=>c (e.1.trans d);have:∀p,dW (o::p) n=dW p n:=λp=>by simp[dW,iQ,c]
   rw[this,qv a];exact⟨k,l⟩
@[simp] def cm:fG:=λg f=>match g,f with
 |.im (.tup E),.im (.int a)=>(dB E a).map .im
 |.lst E,.im (.int a)=>(dB E a).map .im
 |.cK E,.im (.int a)=>(dB E a).map .im
 |.aS Rd,.im (.tup n)=>if V.keys 7 n=ab then (dW Rd n).map .im else X
 |.dh Rd,.im (.int a)=>(dW Rd<|.inl a).map .im
 |.dh Rd,.im (.str a)=>(dW Rd<|.inr a).map .im
 |.mA Rd,.im (.tup n)=>if V.keys 7 n=ab then (dW Rd n).map .im else X
 |_,_=>X
def Qb(a:b.A.units+20<bJ):h1 b (λd i j A=>∃g q,d=.ref g/\eS j g i (Z q)/\A q j):=by
 intro H o G m w j d i q I A t e f ⟨g,h,c,L,r⟩ k;subst c;cases e;exact tail_any (DP t L) Cq.lookup (yr a t L f λp s l n=>⟨h,j,l,n,r⟩) k
def ye{a:Int}{u:V}(e:bA j E x)(c:dB E a=Z u):∃q,dB x a=Z q/\cg j u q:=by
 unfold dB at c ⊢;rw[<-e.length];let⟨@v,b,d⟩:=bB.mp c;let⟨@q,f,g⟩:=e.get d;exact⟨q,by rw[b];exact f,g⟩
def KC(z:b.A.units+20<bJ):h1 b (λd i j A=>∃RO RQ u,eN j RO d/\eN j RQ i/\cm RO RQ=Z u/\∀q F Q8,cO j F->b_ F u q Q8->Q8.Nodup->(∀g∈Q8,j g=X)->A q F):=by
 refine (JK.or<|ET.or<|Qb z).imp λd i j A C=>?_;let⟨RO,RQ,@u,v,w,c,r⟩:=C;unfold cm at c;split at c
 ·let⟨@s,e,h⟩:=cw.mp c;cases h;let⟨o,@x,rfl,k,l⟩:=v.i;let⟨@q,m,p⟩:=ye l e;exact .inr (.inl ⟨o,x,_,q,rfl,w.i,cj.of k,m,b8.i r p⟩)
 ·let⟨@s,e,h⟩:=cw.mp c;cases h;let⟨W,o,@x,rfl,k,l,W⟩:=v;let⟨@q,m,p⟩:=ye l e;exact .inl ⟨o,x,_,q,rfl,w.i,cW.of k,m,b8.i r p⟩
 ·let⟨@s,e,h⟩:=cw.mp c;cases h;let⟨W,o,x,@Y,rfl,k,l,W⟩:=v;let⟨@q,m,p⟩:=ye l e;exact .inl ⟨o,x,_,q,rfl,w.i,.inl<|.inr ⟨Y,k⟩,m,b8.i r p⟩
 ·rename_i Rd n;split at c
  ·rename_i y;let⟨@s,e,h⟩:=cw.mp c;cases h;let⟨W,o,@U,rfl,k,l,W⟩:=v;let⟨@q,m,p⟩:=(lZ l).1 s e;let⟨f,@x,rfl,RP,RJ⟩:=w.i;exact .inr (.inr ⟨o,q,rfl,by rw[<-m];exact eS.t k ⟨y,f,x,rfl,RP,RJ⟩,b8.i r p⟩)
  ·cases c
 ·rename_i Rd a;let⟨@s,e,h⟩:=cw.mp c;cases h;let⟨W,o,@U,rfl,k,l,W⟩:=v;let⟨@q,m,p⟩:=(lZ l).1 s e;refine .inr (.inr ⟨o,q,rfl,?_,b8.i r p⟩);rw[show i=cz (.inl a) from w.i,<-m];exact eS.k k
 ·rename_i Rd a;let⟨@s,e,h⟩:=cw.mp c;cases h;let⟨W,o,@U,rfl,k,l,W⟩:=v;let⟨@q,m,p⟩:=(lZ l).1 s e;refine .inr (.inr ⟨o,q,rfl,?_,b8.i r p⟩);rw[show i=cz (.inr a) from w.i,<-m];exact eS.k k
 ·rename_i Rd n;split at c
  ·rename_i y;let⟨@s,e,h⟩:=cw.mp c;cases h;let⟨W,o,U,@D,rfl,k,l,W⟩:=v;let⟨@q,m,p⟩:=(lZ l).1 s e;let⟨f,@x,rfl,RP,RJ⟩:=w.i;exact .inr (.inr ⟨o,q,rfl,.inr ⟨U,n,f,.inr ⟨D,k⟩,rfl,⟨y,f,x,rfl,RP,RJ⟩,m.symm⟩,b8.i r p⟩)
  ·cases c
 ·cases c
end
end L2
namespace c6
open Spec PyProof.Rows
section
variable{Q_:bz}{D:bg}{O:bp}{Q7:af->aq->Prop}{m:aq}
def OR{B bk:ar}{Rf:Array af}{ck i:af}{M U:Option Int}{A:af->aq->Prop}(o:mP m.heap B Rf)(a:m.heap.IsSliceOf bk ck i .none)(bw:kn ck M)(b:kn i U)(c:b0 Rf.size 0 M=0)(k:b0 Rf.size Rf.size U=Rf.size)(r:A (.ref B) m):wpAny (aQ Q_ D) O (ke (.ref B)<|.ref bk) A Q7 m:=by
 let⟨@Rq,d,e,hd⟩:=id a;have ty:m.TypeIs (.ref bk) "slice" := ⟨Rq,d,e⟩;unfold ke;try with_reducible refine fL ?_
 first|refine ay (a3 ?_)|skip
 refine ay (z3 o.typeIs ∅ ?_);refine ay (lK (name:=aC.ofString "__getitem__") o.typeIs ou<|i1 ou o.typeIs Ao ?_<|A1 _ _);show wpAny _ _ (bq.Tuple.tupleItemsOf (.ref B) >>= _) _ _ m;refine ay (CB o ?_);refine ay (wpAny_typeOf ty ?_);rw[aB ∅];refine ay (A3 a bw b ?_);rw[c,k];show wpAny _ _ (if (((0:Nat):Int)==0&&(1:Int)==1&&(Rf.size-0)==Rf.size)=ab then _ else _) _ _ m;rw[aB ↥0];refine ay (m:=bq.Tuple.tupleIsExact _) (ay<|wpAny_typeOf o.typeIs<|a3 ?_);show wpAny _ _ (if (af.type "tuple" == af.type "tuple")=ab then _ else _) _ _ m;rw[aB ∅];exact ay (ir<|a3 ⟨_,rfl,a3 r⟩)
end
end c6
namespace L2
open Spec PyProof.Rows
section
variable{b:aK}
@[simp] def qF(L:az ak):az ak:=λy=>(L y).bind λo=>match o.1 with
 |.im (.int a)=>Z (.im<|.int<|-a,o.2)
 |_=>X
variable{L:az ak}{Rl:Pos}
def NZ{g:a8}(e:cf b g L):cf b (.UnaryOp .USub g Rl) (qF L):=by
 refine dX (Qv KG e) λw j A c=>?_;let⟨y,P,p,@Rw,J,ai,f,r⟩:=c;let⟨@⟨d,z⟩,k,l⟩:=bB.mp f;refine⟨y,P,d,z,J,ai,k,λq Rb Rr Q8 h i m=>?_⟩;dsimp only at l;split at l
 ·rename_i a;cases l;exact⟨a,i.1,r _ Rb Rr [] h ⟨rfl,rfl⟩ (by rw[b5];exact m.both)⟩
 ·cases l
def Lj(L:az (Option Int)):cM:=(λw j A=>∃y P C Rw,br j y w P/\P.Nodup/\L y=Z (C,Rw)/\∀F RI,br F Rw w RI->a5 j P F RI->A C F)
def rN(b:aK)(c:Option a8)(L:az (Option Int)):Prop:=(∀ ⦃o⦄,B8 b c (Lj L) o)
def A4{c:Option a8}{B RF:cM}(e:pb b c B)(a:∀w j A,RF w j A->B w j A):pb b c RF:=λG m w j A t d=>e G m w j A t (a w j A d)
def hq:az (Option Int):=(λy=>Z (X,y))
@[simp] def hM(L:az ak):az (Option Int):=λy=>(L y).bind λo=>match o.1 with
 |.im (.int a)=>Z (Z a,o.2)
 |_=>X
def p8:rN b X hq:=by
 refine A4 K2 λw j A a=>?_;let⟨y,P,p,@Rw,J,ai,c,r⟩:=a;cases c;exact r j P J (a5.perm ai<|List.Perm.refl _)
variable{c:a8}
def qM(e:cf b c L):rN b (Z c) (hM L):=by
 refine A4 (Hw e) λw j A f=>?_;let⟨y,P,p,@Rw,J,ai,g,r⟩:=f;let⟨@⟨d,z⟩,k,l⟩:=bB.mp g;refine⟨y,P,d,z,J,ai,k,λq Rb Rr Q8 h i m=>?_⟩;dsimp only at l;split at l
 ·rename_i a;cases l;exact⟨a,i.1,r Rb Rr h m.both⟩
 ·cases l
def fV{Ry:Type}(x:List Ry)(M U:Option Int):List Ry:=((x.drop<|c6.b0 x.length 0 M).take (c6.b0 x.length x.length U-c6.b0 x.length 0 M))
variable{j:aw}
theorem bA.drop:∀{E:List V}{x:List ah} (s:Nat),bA j E x->bA j (E.drop s) (x.drop s)
 |E,x,0,e=>e
 |[],x,s+1,e=>by cases (show x=[] from e);exact rfl
 |u::E,x,s+1,e=>by
  let⟨q,@p,rfl,k,l⟩:=e;exact l.drop s
theorem bA.take:∀{E:List V}{x:List ah} (s:Nat),bA j E x->bA j (E.take s) (x.take s)
 |E,x,0,e=>rfl
 |[],x,s+1,e=>by cases (show x=[] from e);exact rfl
 |u::E,x,s+1,e=>by
  let⟨q,@p,rfl,k,l⟩:=e;exact⟨q,_,rfl,k,l.take s⟩
def bA.cut{E:List V}{x:List ah}(M U:Option Int)(e:bA j E x):bA j (fV E M U) (l1 x M U):=by
 unfold fV l1;rw[e.length];exact (e.drop _).take _
@[simp] def mg(u:ak)(M U:Option Int):Option ak:=match u with
 |.im (.tup E)=>Z (.im<|.tup<|fV E M U)
 |.lst E=>Z (.lst<|fV E M U)
 |.cK E=>Z (.lst<|fV E M U)
 |_=>X
def Jx(R:Φ):ah->Option Int->Option Int->aw->b2->Prop:=(λd M U j A=>∃g x,d=.ref g/\cj R j g x/\c6.b0 x.length 0 M=0/\c6.b0 x.length x.length U=x.length/\A (.ref g) j)
def Hg:pB b (λd M U j A=>∃u p,eN j u d/\mg u M U=Z p/\b8 j p A):=by
 have all:pB b (Jx b.K):=by
  intro G m w j d q ck i M U bk A t f h bw n e;let⟨g,@x,rfl,H,I,k,r⟩:=e;cases f;let⟨@Rf,p,D,aN⟩:=t.tuple H;have F:Rf.toArray.size=x.length:=by rw[cH];exact p.length.symm
  exact⟨"tuple",_,ou.lookup,D.typeIs,c6.OR D h bw n (by rw[F];exact I) (by rw[F];exact k) ⟨.ref g,j,t,rfl,r⟩⟩
 intro G m w j d q ck i M U bk A t f h bw n J;let⟨u,@p,z,c,r⟩:=J;unfold mg at c;split at c
 ·rename_i E;cases c;let⟨o,@x,rfl,k,l⟩:=z.i;by_cases v:c6.b0 x.length 0 M=0/\c6.b0 x.length x.length U=x.length
  ·refine all G m w j _ q ck i M U bk A t f h bw n ⟨o,x,rfl,cj.of k,v.1,v.2,b8.i r ⟨o,x,rfl,k,?_⟩⟩;have:fV E M U=E:=by
    unfold fV;rw[l.length,v.1,v.2,j6,Nat.sub_zero,<-l.length,sT]
   rw[this];exact l
  ·exact Pw G m w j _ q ck i M U bk A t f h bw n ⟨o,x,rfl,cj.of k,v,λs y=>b8.t r y<|l.cut M U⟩
 ·cases c;let⟨W,o,@x,rfl,k,l,W⟩:=z;exact CI G m w j _ q ck i M U bk A t f h bw n ⟨o,x,rfl,cW.of k,λs y=>b8.l r y<|l.cut M U⟩
 ·cases c;let⟨W,o,x,@Y,rfl,k,l,W⟩:=z;exact CI G m w j _ q ck i M U bk A t f h bw n ⟨o,x,rfl,.inl<|.inr ⟨Y,k⟩,λs y=>b8.l r y<|l.cut M U⟩
 ·cases c
@[simp] def gr(L:az bC)(C e:az (Option Int)):az ak:=λy=>(L y).bind λo=>(C o.2).bind λr=>(e r.2).bind λp=>(d9 p.2 o.1).bind λu=>(mg u r.1 p.1).map λa=>(a,p.2)
def rn{M U:Option a8}{L:az bC}{m n:az (Option Int)}{RR:Pos}(s:dk b c L)(t:rN b M m)(v:rN b U n):cf b (.Subscript c (.Slice M U X RR) Rl) (gr L m n):=by
 refine dX (Jo Hg s t v) λw j A x=>?_;let⟨y,P,p,@Rw,J,ai,B,r⟩:=x;let⟨@⟨d,z⟩,k,l⟩:=bB.mp B;let⟨@⟨C,RA⟩,F,G⟩:=bB.mp l;let⟨@⟨I,R4⟩,H,N⟩:=bB.mp G;let⟨@u,O,Q⟩:=bB.mp N;let⟨@bn,R,S⟩:=cw.mp Q;cases S;refine⟨y,P,d,z,J,ai,k,λq Rb Rr Q8 T Rz a=>⟨z,Rr,C,RA,T,(c7.mp a.ai).1,F,λRo RB al o=>⟨RA,RB,I,R4,al,o.ai,H,λam an f ap=>?_⟩⟩⟩;have h:=o.seq ap;have E:hC am w d q Q8:=Rz.mono h.tup λg as Y c=>h.keep g Y c λe=>(c7.mp a.ai).2.2 g e g as rfl;have a1:=a.trans h Rz.chg;exact⟨u,_,E.read f O,R,λD a2 bd i be bi bm=>r D a2 an bd (f.mono i.tupS λg W Y c=>i g Y c) be<|a1.new i bi bm f.chg⟩
abbrev h_:=List ak->Option ak
@[simp] def dt:h_:=λE=>match E with
 |[.im (.tup d)]=>Z (.im<|.int d.length)
 |[.lst d]=>Z (.im<|.int d.length)
 |[.cK d]=>Z (.im<|.int d.length)
 |[.gb d]=>Z (.im<|.int d.length)
 |[.dh d]=>Z (.im<|.int d.length)
 |[.im (.str d)]=>if d.length<=100000 then Z (.im<|.int d.length) else X
 |_=>X
variable{ae:List ah}
def fH{u:ak}(e:lN j [u] ae):∃q,ae=[q]/\eN j u q:=by
 let⟨q,@p,rfl,k,l⟩:=e;cases (show p=[] from l);exact⟨q,rfl,k⟩
def zF{u c:ak}(e:lN j [u,c] ae):∃q I,ae=[q,I]/\eN j u q/\eN j c I:=by
 let⟨q,@p,rfl,k,l⟩:=e;let⟨@I,rfl,a⟩:=fH l;exact⟨q,I,rfl,k,a⟩
def d7.length{Rx:Type}{C:List (Rx×V)}{H:List (Rx×ah)}(e:d7 j C H):C.length=H.length:=d3.length e
def hW:g4 b (.builtin "len") dt:=by
 refine (OU.or<|N6.or GH).imp λx j A f=>?_;let⟨E,@u,d,c,r⟩:=f;unfold dt at c;split at c
 ·cases c;let⟨@q,rfl,e⟩:=fH d;let⟨o,@x,rfl,k,l⟩:=e.i;exact .inl ⟨o,x,rfl,.inr<|cj.of k,by rw[<-l.length];exact b8.i r rfl⟩
 ·cases c;let⟨@q,rfl,⟨W,o,@x,rfl,k,l,W⟩⟩:=fH d;exact .inl ⟨o,x,rfl,.inl<|cW.of k,by rw[<-l.length];exact b8.i r rfl⟩
 ·cases c;let⟨@q,rfl,⟨W,o,x,@Y,rfl,k,l,W⟩⟩:=fH d;exact .inl ⟨o,x,rfl,.inl<|.inl<|.inr ⟨Y,k⟩,by rw[<-l.length];exact b8.i r rfl⟩
 ·cases c;let⟨@q,rfl,⟨W,o,x,@Q9,rfl,k,l,W⟩⟩:=fH d;exact .inl ⟨o,x,rfl,.inl<|cW.of k,by rw[<-l.length];exact b8.i r rfl⟩
 ·cases c;let⟨@q,rfl,⟨W,o,@U,rfl,k,l,W⟩⟩:=fH d;exact .inr (.inr ⟨o,U,rfl,k,by rw[<-l.length];exact b8.i r rfl⟩)
 ·split at c
  ·rename_i g;cases c;let⟨@q,rfl,e⟩:=fH d;cases (show q=_ from e.i);exact .inr (.inl ⟨_,rfl,lA g,b8.i r rfl⟩)
  ·cases c
 ·cases c
@[simp] def ib:h_:=λE=>match E with
 |[u]=>(lp u).map λd=>.im (.tup d)
 |_=>X
def l7:g4 b (.type "tuple") ib:=by
 refine HL.imp λx j A h=>?_;let⟨E,@u,m,c,r⟩:=h;unfold ib at c;split at c
 ·let⟨@d,f,n⟩:=cw.mp c;cases n;let⟨@q,rfl,e⟩:=fH m;unfold lp at f;split at f
  ·cases f;let⟨o,@x,rfl,k,l⟩:=e.i;exact⟨o,x,rfl,.inr ⟨cj.of k,b8.i r ⟨o,x,rfl,k,l⟩⟩⟩
  ·cases f;let⟨W,o,@x,rfl,k,l,W⟩:=e;exact⟨o,x,rfl,.inl ⟨cW.of k,λC g=>b8.t r g l⟩⟩
  ·cases f;let⟨W,o,x,@Y,rfl,k,l,W⟩:=e;exact⟨o,x,rfl,.inl ⟨.inl<|.inr ⟨Y,k⟩,λC g=>b8.t r g l⟩⟩
  ·cases f
 ·cases c
@[simp] def vInt:h_:=λE=>match E with
 |[.im (.int a)]=>Z (.im<|.int a)
 |[.im (.aG f)]=>Z (.im<|.int<|if f then 1 else 0)
 |_=>X
def qq:g4 b (.type "int") vInt:=by
 refine Ld.imp λx j A f=>?_;let⟨E,@u,d,c,r⟩:=f;unfold vInt at c;split at c
 ·cases c;let⟨@q,rfl,e⟩:=fH d;cases (show q=_ from e.i);exact .inl ⟨_,rfl,b8.i r rfl⟩
 ·cases c;let⟨@q,rfl,e⟩:=fH d;cases (show q=_ from e.i);exact .inr ⟨_,rfl,b8.i r rfl⟩
 ·cases c
@[simp] def v9:h_:=λE=>match E with
 |[.im (.int a),.im<|.int v]=>Z (.im<|.int<|if v>a then v else a)
 |_=>X
@[simp] def yQ:h_:=λE=>match E with
 |[.im (.int a),.im<|.int v]=>Z (.im<|.int<|if v<a then v else a)
 |_=>X
def PU(d:b.calm=ab):g4 b (.builtin "max") v9:=by
 refine (Lu d).imp λx j A f=>?_;let⟨E,@u,g,c,r⟩:=f;unfold v9 at c;split at c
 ·cases c;let⟨q,@I,rfl,e,n⟩:=zF g;cases (show q=_ from e.i);cases (show I=_ from n.i);exact⟨_,_,rfl,b8.i r rfl⟩
 ·cases c
def MG(d:b.calm=ab):g4 b (.builtin "min") yQ:=by
 refine (H6 d).imp λx j A f=>?_;let⟨E,@u,g,c,r⟩:=f;unfold yQ at c;split at c
 ·cases c;let⟨q,@I,rfl,e,n⟩:=zF g;cases (show q=_ from e.i);cases (show I=_ from n.i);exact⟨_,_,rfl,b8.i r rfl⟩
 ·cases c
@[simp] def nF:List V->Option (List Bool)
 |[]=>Z []
 |.aG f::E=>(nF E).map λp=>f::p
 |_::_=>X
theorem Ew{j:aw}:∀{E:List V}{x:List ah}{bs:List Bool},bA j E x->nF E=Z bs->x=bs.map ah.aG
 |[],x,bs,e,c=>by cases c;exact e
 |.aG f::E,x,bs,e,c=>by
  let⟨q,@p,rfl,k,l⟩:=e;rw[nF]at c;let⟨@o,a,b⟩:=cw.mp c;cases b;cases (show q=.aG f from k);rw[Ew l a];rfl
 |.aW::_,_,_,_,c=>by cases c
 |.int _::_,_,_,_,c=>by cases c
 |.str _::_,_,_,_,c=>by cases c
 |.tup _::_,_,_,_,c=>by cases c
 |.fn _::_,_,_,_,c=>by cases c
 |.aT _::_,_,_,_,c=>by cases c
 |.fd::_,_,_,_,c=>by cases c
@[simp] def mT:h_:=λE=>match E with
 |[.lst d]=>(nF d).map λbs=>.im (.aG<|bs.all id)
 |_=>X
def xu(e:b.calm=ab):g4 b (.builtin "all") mT:=by
 refine (IS e).imp λx j A f=>?_;let⟨E,@u,g,c,r⟩:=f;unfold mT at c;split at c
 ·let⟨@d,h,m⟩:=cw.mp c;cases m;let⟨@q,rfl,⟨Y,o,@x,rfl,k,l,Y⟩⟩:=fH g;rw[Ew l h]at k;exact⟨o,d,rfl,k,b8.i r rfl⟩
 ·cases c
end
section
variable{b:aK}
def w7:ak->Option Nat
 |.im (.int _)=>Z 0
 |.im (.aG _)=>Z 1
 |.im (.str _)=>Z 2
 |.im (.tup _)=>Z 3
 |.im .aW=>Z 4
 |.lst _=>Z 4
 |.im (.aT _)=>Z 4
 |.im .fd=>Z 4
 |.aS _=>Z 4
 |.dh _=>Z 4
 |_=>X
@[simp] def vh(Rc:String)(u:ak):Option Bool:=
 (w7 u).bind λn=>if Rc = "int" then Z (n==0 || n==1) else if Rc = "bool" then Z (n==1) else if Rc = "str" then Z (n==2) else if Rc = "tuple" then Z (n==3) else X
variable{Rc:String}{f:Bool}
def Oi{u:ak}(e:vh Rc u=Z f):∃n,w7 u=Z n/\((Rc = "int" /\ f=(n==0 || n==1))\/(Rc = "bool" /\ f=(n==1))\/(Rc = "str" /\ f=(n==2))\/(Rc = "tuple" /\ f=(n==3))):=by
 let⟨@n,c,e⟩:=bB.mp e;refine⟨n,c,?_⟩;by_cases k:Rc = "int"
 ·rw[aB k]at e;cases e;exact .inl ⟨k,rfl⟩
 rw[aD k]at e;by_cases l:Rc = "bool"
 ·rw[aB l]at e;cases e;exact .inr (.inl ⟨l,rfl⟩)
 rw[aD l]at e;by_cases a:Rc = "str"
 ·rw[aB a]at e;cases e;exact .inr (.inr<|.inl ⟨a,rfl⟩)
 rw[aD a]at e;by_cases b:Rc = "tuple"
 ·rw[aB b]at e;cases e;exact .inr (.inr<|.inr ⟨b,rfl⟩)
 rw[aD b]at e;cases e
def nv{O R3 aP y Ri:Prop}(e:O\/R3\/aP\/y)(g:O->Ri)(f:R3->Ri)(h:aP->Ri)(u:y->Ri):Ri:=e.elim g λe=>e.elim f λe=>e.elim h u
variable{G:List (ar×a6)}{j:aw}{m:aq}
def DA{w:aX}(t:aF b G w j m){g:ar}(e:(∃n,j g=Z (.aS n))\/∃n,j g=Z (.dh n)):∃Y,m.heap.get? g=Z Y/\Y.cls=.type "dict" := by
 rcases e with ⟨n,e⟩|⟨n,e⟩
 ·let@⟨_,_,⟨@x,_,⟨Y,Q,@RU,k,l,_⟩⟩⟩:=(show eh b.prog b.w j m.heap g (.aS n) from t.aZ g _ e);exact⟨Y,k,l.1⟩
 ·let@⟨_,_,⟨@ae,_,⟨Y,Q,@RU,k,l,_⟩⟩⟩:=(show eh b.prog b.w j m.heap g (.dh n) from t.aZ g _ e);exact⟨Y,k,l.1⟩
def Jf{w:aX}(t:aF b G w j m){g:ar}{o:a6}(e:j g=Z (.dx o<|.aS [])):∃Y,m.heap.get? g=Z Y/\Y.cls=.type "dict" := by
 let@⟨_,_,_,⟨@x,_,⟨Y,Q,@RU,k,l,_⟩⟩⟩:=(show eh b.prog b.w j m.heap g (.dx o<|.aS []) from t.aZ g _ e);exact⟨Y,k,l.1⟩
def Pb:eA b (.builtin "isinstance") (λx j A=>∃d Rc u f,x=[d,.ty Rc]/\eN j u d/\vh Rc u=Z f/\A (.aG f) j):=by
 intro G m w j x Rv A t p e;let⟨d,Rc,u,@f,rfl,o,U,r⟩:=e;have H:=p;cases p with
 |cons p B=>
  cases B with
  |cons RS B=>
   cases B;cases RS;have q:∀{f:Bool},A (.aG f) j->eb b G w A (.bool f) {m with toks:=m.toks+1}:=λ{f} r=>⟨.aG f,j,t.tok _,rfl,r⟩;let⟨@n,h,v⟩:=Oi U;have s:f=ax->A (.aG ax) j:=λc=>c ▸ r;have C:∀{g:ar},n=4->(∃Y,m.heap.get? g=Z Y/\Y.cls=.type "dict")->wpAny (aQ b.prog b.w) b.A (call (.builtin "isinstance") [.ref g,.type Rc]) (eb b G w A) b.cE m:=by
    rintro g rfl ⟨Y,y,z⟩;refine nv v (λ⟨c,N⟩=>c ▸ IsiPair.dict_int y z (q<|s N)) (λ⟨c,N⟩=>c ▸ IsiPair.dict_bool y z (q<|s N)) (λ⟨c,N⟩=>c ▸ IsiPair.dict_str y z (q<|s N)) λE=>?_;let@⟨c,N⟩:=E;exact c ▸ IsiPair.dict_tuple y z (q<|s N)
   have n1:zh b.K j d Rc f->wpAny (aQ b.prog b.w) b.A (call (.builtin "isinstance") [_,.type Rc]) (eb b G w A) b.cE m:=λI=>JV G m w j _ _ A t H ⟨d,Rc,f,rfl,I,r⟩;have F:∀{g:ar}{x:List ah},n=4->d=.ref g->cW b.K j g x->wpAny (aQ b.prog b.w) b.A (call (.builtin "isinstance") [_,.type Rc]) (eb b G w A) b.cE m:=λ{g x} h c J=>by
    subst h;exact n1 (.inr<|.inr<|.inr<|.inr ⟨g,x,c,J,nv v (λe=>.inr<|.inl e) (λe=>.inr<|.inr<|.inr<|.inl e) (λe=>.inr<|.inr<|.inl e) λe=>.inr<|.inr<|.inr<|.inr e⟩)
   unfold w7 at h;split at h
   ·cases h;exact n1 (.inl ⟨_,o.i,nv v .inl (λe=>.inr<|.inr<|.inr<|.inl e) (λe=>.inr<|.inr<|.inl e) λe=>.inr<|.inl e⟩)
   ·cases h;exact n1 (.inr<|.inl ⟨_,o.i,nv v (λe=>.inr<|.inl e) .inl (λe=>.inr<|.inr<|.inr<|.inl e) λe=>.inr<|.inr<|.inl e⟩)
   ·cases h;exact n1 (.inr<|.inr<|.inl ⟨_,o.i,nv v (λe=>.inr<|.inl e) (λe=>.inr<|.inr<|.inr<|.inl e) .inl λe=>.inr<|.inr<|.inl e⟩)
   ·cases h;let⟨g,@x,c,k,l⟩:=o.i;exact n1 (.inr<|.inr<|.inr<|.inl ⟨g,x,c,cj.of k,nv v (λe=>.inr<|.inl e) (λe=>.inr<|.inr<|.inr<|.inl e) (λe=>.inr<|.inr<|.inl e) .inl⟩)
   ·cases h;cases (show d=.aW from o.i);cases p;refine nv v (λ⟨c,N⟩=>c ▸ IsiPair.NoneType_int (q<|s N)) (λ⟨c,N⟩=>c ▸ IsiPair.NoneType_bool (q<|s N)) (λ⟨c,N⟩=>c ▸ IsiPair.NoneType_str (q<|s N)) λE=>?_;let@⟨c,N⟩:=E;exact c ▸ IsiPair.NoneType_tuple (q<|s N)
   ·cases h;let⟨W,g,@x,c,k,l,W⟩:=o;exact F rfl c (cW.of k)
   ·cases h;let⟨g,x,@Y,c,k,l⟩:=o.i;exact F rfl c (.inl<|.inr ⟨Y,k⟩)
   ·cases h;let⟨g,@Y,rfl,k⟩:=o.i;cases p;exact C rfl (Jf t k)
   ·cases h;let⟨W,g,@x,rfl,k,l,W⟩:=o;cases p;exact C rfl (DA t<|.inl ⟨_,k⟩)
   ·cases h;let⟨W,g,@x,rfl,k,l,W⟩:=o;cases p;exact C rfl (DA t<|.inr ⟨_,k⟩)
   ·cases h
@[simp] def n3(Rc:String)(L:az bC):az ak:=λy=>(L y).bind λo=>(d9 o.2 o.1).bind λu=>(vh Rc u).map λf=>(.im<|.aG f,o.2)
variable{c:a8}{L:az bC}
def rr{d:aC}{o RR Rl:Pos}(h:eU b "isinstance")(i:b.aO "isinstance" = X)(m:e1 "isinstance" = Z (.builtin "isinstance"))(n:eU b d)(s:b.aO d=X)(t:e1 d=Z (.type Rc))(e:dk b c L)(v:d ≠ "__name__" := by decide)(hd:(d==("__debug__" : aC))=ax:=by decide)(a:bF [c,.Name d RR] b.env=(ax,bR c b.env)::bF [.Name d RR] b.env:=by rfl)(x:bF [.Name d RR] b.env=(ax,bR (.Name d RR) b.env)::bF [] b.env:=by rfl)(B:(eT Rl<|bF [.Name d RR] b.env).any (·.1)=ax:=by rfl):cf b (.Call (.Name "isinstance" o) [c,.Name d RR] [] Rl) (n3 Rc L):=by
 refine dX (CQ Pb h i m (r8 e (r8 (IP (q:=.ty Rc) n s t rfl v hd) wM x) a) ∅ ∅ a B) λw j A C=>?_;let⟨y,P,p,@Rw,J,ai,D,r⟩:=C;let⟨@⟨Y,z⟩,k,l⟩:=bB.mp D;let⟨@u,E,F⟩:=bB.mp l;let⟨@f,G,H⟩:=cw.mp F;cases H;exact⟨y,P,Y,z,J,ai,k,λq Rb Rr Q8 g Rz I=>⟨q,Rc,u,f,rfl,Rz.read g E,G,r _ Rb Rr [] g ⟨rfl,rfl⟩ (by rw[b5];exact I.both)⟩⟩
@[simp] def oC:ak->Option Bool
 |.im .aW=>Z ax
 |.im (.aG f)=>Z f
 |.im (.int a)=>Z (a != 0)
 |.im (.str d)=>if d.length<=100000 then Z ((d.length:Int) != 0) else X
 |.im (.tup E)=>Z (!E.isEmpty)
 |.lst E=>Z (!E.isEmpty)
 |.cK E=>Z (!E.isEmpty)
 |.dh Rd=>Z (!Rd.isEmpty)
 |_=>X
def bA.emp{E:List V}{x:List ah}(e:bA j E x):(!x.isEmpty)=!E.isEmpty:=by
 cases E with
 |nil=>cases (show x=[] from e);rfl
 |cons u E=>let⟨q,@p,rfl,Y⟩:=e;rfl
def FI{u:ak}{q:ah}(e:eN j u q)(c:oC u=Z f):xJ b.K q j f:=by
 unfold oC at c;split at c
 ·cases c;cases (show q=_ from e.i);rfl
 ·cases c;cases (show q=_ from e.i);rfl
 ·cases c;cases (show q=_ from e.i);rfl
 ·split at c
  ·rename_i d;cases c;cases (show q=_ from e.i);exact⟨lA d,rfl⟩
  ·cases c
 ·cases c;let⟨o,@x,rfl,k,l⟩:=e.i;exact .inr (.inl ⟨x,cj.of k,l.emp.symm⟩)
 ·cases c;let⟨W,o,@x,rfl,k,l,W⟩:=e;exact .inl ⟨x,cW.of k,l.emp.symm⟩
 ·cases c;let⟨W,o,x,@Y,rfl,k,l,W⟩:=e;exact .inl ⟨x,.inl<|.inr ⟨Y,k⟩,l.emp.symm⟩
 ·cases c;let⟨W,o,@U,rfl,k,l,W⟩:=e;refine .inr (.inr ⟨U,k,?_⟩);cases l<;>rfl
 ·cases c
@[simp] def j7(L:az bC):az Bool:=λy=>(L y).bind λo=>(d9 o.2 o.1).bind λu=>(oC u).map λf=>(f,o.2)
def o_(e:dk b c L)(g:∀a,mz c b.env a=(do let q <-a;standAt c.pos;holding [q] (sv q)):=by intro W;rfl):ha b c (j7 L):=by
 refine pT (DK e g) λw j A h=>?_;let⟨y,P,f,@Rw,J,ai,i,r⟩:=h;let⟨@⟨Y,z⟩,k,l⟩:=bB.mp i;let⟨@u,m,n⟩:=bB.mp l;let⟨@t,o,p⟩:=cw.mp n;cases p;exact⟨y,P,Y,z,J,ai,k,λq Rb Rr Q8 d Rz s=>⟨_,FI (Rz.read d m) o,r Rb Rr d s.both⟩⟩
end
variable{R7 Se:Pos}{Y:a8}{id Rc:String}{name:aC}{L:az (List bC)}{a:Nat}{ty:ak->Bool}{R:Φ}{M:fo}{g:ar}{j:aw}
def a5.chg{P Rr:List ar}(b:g∈P)(h:eV j g)(ai:Rr.Nodup)(cy:∀d∈Rr,d∈P):a5 j P (upd j g M) Rr:=by
 let⟨@Y,c,e,f⟩:=h;refine⟨λd I E a=>?_,λd a=>.inl<|cy d a,ai,e4.of (λd x E=>?_)<|λd o I E=>?_,λd I E=>?_⟩
 ·rw[cR (λi=>a (by rw[i];exact b))];exact E
 ·rw[cR]
  ·exact E
  ·rintro rfl;rw[c]at E;exact e x (Option.some.inj E)
 ·rw[cR]
  ·exact E
  ·rintro rfl;rw[c]at E;exact f o I (Option.some.inj E)
 ·by_cases a:d=g
  ·subst a;exact⟨M,ec⟩
  ·exact⟨I,(cR a).trans E⟩
theorem cg.jC(h:eV j g):o9 j (upd j g M):=(a5.chg (P:=[g]) (Rr:=[]) (.head _) h jo<|λd a=>nomatch a).tup.tup
def kG(b:aK)(id:String)(a0:ak->List ak->Option (ak×ak)):Prop:=(
 pK b id λd ae j A=>∃h E p a Q8 Rk,b_ j h d Q8/\dE j E ae Rk/\(Q8++Rk).Nodup/\a0 h E=Z (p,a)/\∀q F c bI,b_ F p q c->b_ F a d bI->a5 j (Q8++Rk) F (c++bI)->A q F)
@[simp] def fX:ak->Bool
 |.lst _=>ab
 |.gb _=>ab
 |_=>ax
@[simp] def fE(ty:ak->Bool)(a:Nat)(a0:ak->List ak->Option (ak×ak))(L:az (List bC)):az ak:=λy=>match y[a]? with
 |some (Z b)=>if ty b=ab then (L y).bind λo=>(eg o.1 o.2).bind λr=>match r.2[a]? with
   |some (Z h)=>(a0 h r.1).map λp=>(p.1,r.2.set a<|Z p.2)
   |_=>X
  else X
 |_=>X
def zP{a0:ak->List ak->Option (ak×ak)}{w:aX}{A:b2}(D:∀j h d Q8,b_ j h d Q8->ty h=ab->kI R Rc d j)(e:k8 (fE ty a a0 L) w j A):∃d,w[a]?=Z (Z d)/\kI R Rc d j/\gu L w j λae Ro=>∃h E p f Q8 Rk,b_ Ro h d Q8/\dE Ro E ae Rk/\(Q8++Rk).Nodup/\a0 h E=Z (p,f)/\∀q F m bI,b_ F p q m->b_ F f d bI->a5 Ro (Q8++Rk) F (m++bI)->A q F:=by
 let⟨y,P,p,@Rw,J,ai,b,r⟩:=e;unfold fE at b;split at b
 ·rename_i G H;split at b
  ·rename_i I;let⟨d,bi,@bm,n,M,W,W⟩:=J.out H;refine⟨d,n,D j G d _ M I,?_⟩;let⟨@⟨Rq,z⟩,k,l⟩:=bB.mp b;let⟨@⟨E,RA⟩,N,i⟩:=bB.mp l;refine⟨y,P,Rq,z,J,ai,k,λae Rb Rr m Q Rz T=>?_⟩;let⟨RB,@Rk,U,al,S⟩:=mO Q Rz N;dsimp only at i;split at i
   ·rename_i h am;let⟨@⟨RS,f⟩,an,ap⟩:=cw.mp i;cases ap;let⟨bn,Q8,@s,t,cY,u,as⟩:=U.out am;rw[n]at t;cases t;have v:a5 j P Rb ((Q8++Rk)++s):=T.kq (S.symm.trans ((eB Rk as.symm).trans (by
     rw[a_];exact c2)))
    have x:=c7.mp v.ai;refine⟨h,E,_,f,Q8,Rk,cY,al,x.1,an,λq F O R3 a1 gv o=>?_⟩;have a2:br F (RA.set a<|Z .ek) w s:=u.mono o.tup λg bd Y c=>o.keep g Y c λe=>x.2.2 g e g bd rfl;let⟨B,@Q9,C,be⟩:=a2.back gv n;rw[rd]at C;refine r q F B O C a1 ((v.trans o u.chg).less (aP:=Q9) ?_);rw[a_];refine (dI B c2).trans ?_;rw[<-a_];refine (eB O be).trans ?_;rw[a_];refine c2.trans ?_;rw[a_];refine c2.trans ?_;rw[a_,a_];refine (dI O ?_);exact c2
   ·cases i
  ·cases b
 ·cases b
section
variable{b:aK}
def i6:∀(j:aw) (h:ak) (d:ah) (Q8:List ar),b_ j h d Q8->fX h=ab->kI R "list" d j:=by
 intro j h d Q8 e c;cases h with
 |lst E=>let⟨g,@x,rfl,k,Y⟩:=e;exact .inl ⟨rfl,x,cW.of k⟩
 |gb E=>let⟨g,x,@Q9,rfl,k,Y⟩:=e;exact .inl ⟨rfl,x,cW.of k⟩
 |_=>cases c
def jV{a0:ak->List ak->Option (ak×ak)}{c:a8}{Q:List a8}(f:∀j h d Q8,b_ j h d Q8->ty h=ab->kI b.K Rc d j)(bL:t2 Rc)(g:m9 Rc name id)(i:lU (.builtin id)=pure (.type "method_descriptor"))(m:kG b id a0)(n:bx b Y (hl a))(o:fu b (c::Q) L)(p:lx Y name b.env (bR Y b.env)=bR Y b.env:=by rfl)(q:((eT R7<|bF (c::Q) b.env).all (λd=>!d.1)&&(qb R7<|ru [] b.env).all (λd=>d.1.isSome)
   && decide ((c::Q).length+([]:List js).length+(if ([]:List js).isEmpty then 0 else 1)<30))=ab:=by rfl)(r:(Se.endLine==R7.line)=ab:=by rfl)(s:bF (c::Q) b.env=(ax,bR c b.env)::bF Q b.env:=by rfl)(t:(eT R7<|bF Q b.env).any (·.1)=ax:=by rfl):
  cf b (.Call (.Attribute Y name Se) (c::Q) [] R7) (fE ty a a0 L):=
 dX (BB bL g i m n o p q r s t) λw j A e=>by
  let⟨@d,u,k,l⟩:=zP f e;exact⟨d,u,k,l⟩
def zX{a0:ak->List ak->Option (ak×ak)}(c:∀j h d Q8,b_ j h d Q8->ty h=ab->kI b.K Rc d j)(bL:t2 Rc)(f:m9 Rc name id)(g:lU (.builtin id)=pure (.type "method_descriptor"))(i:kG b id a0)(m:bx b Y (hl a))(n:lx Y name b.env (bR Y b.env)=bR Y b.env:=by rfl)(o:(Se.endLine==R7.line)=ab:=by rfl):
  cf b (.Call (.Attribute Y name Se) [] [] R7) (fE ty a a0 aE):=
 dX (zt bL f g i m n o) λw j A e=>by
  let⟨@d,q,k,l⟩:=zP c e;refine⟨d,q,k,?_⟩;let⟨y,P,p,@Rw,J,ai,s,r⟩:=l;cases s;exact r [] j P [] J ⟨rfl,rfl⟩ (by rw[b5];exact a5.perm ai (List.Perm.refl _))
@[simp] def fs:ak->List ak->Option (ak×ak):=λh E=>match h,E with
 |.lst x,[.im u]=>if x.length<100000 then Z (.im .aW,.lst<|x++[u]) else X
 |_,_=>X
def q5{s:Nat}(e:s<100000):s<sizeLine:=ep e ∅
def lP:kG b "list.append" fs:=by
 intro G m w j d ae q Rv A t a e f;let⟨h,E,p,x,Q8,@Rk,n,o,ai,c,r⟩:=f;unfold fs at c;split at c
 ·split at c
  ·rename_i s;cases c;let⟨g,@Rj,rfl,k,l,rfl⟩:=n;let⟨i,B,y,@z,rfl,@⟨u,rfl⟩,@⟨rfl,rfl⟩,rfl⟩:=o;have h:eV j g:=⟨_,k,(λ_ c=>by cases c),(λ_ Y c=>by cases c)⟩;refine G7 G m w j _ _ q Rv A t a e ⟨g,Rj,i,rfl,rfl,k,q5 (by rw[<-l.length];exact s),r .aW _ [] [g] ⟨rfl,rfl⟩ ?_ (a5.chg (.head _) h (e3 _ _) λd v=>by simpa using v)⟩;exact⟨g,_,rfl,ec,(l.snoc u).mono<|cg.jC h,rfl⟩
  ·cases c
 ·cases c
@[simp] def kS:ak->List ak->Option (ak×ak):=λh E=>match h,E with
 |.lst x,[]=>(x.getLast?).map λu=>(.im u,.lst x.dropLast)
 |_,_=>X
def bA.last{E:List V}{x:List ah}{u:V}(e:bA j E x)(c:E.getLast?=Z u):∃q,x[x.length-1]?=Z q/\cg j u q/\bA j E.dropLast x.dropLast:=by
 rw[El]at c;let⟨@q,a,b⟩:=e.get c;refine⟨q,by rw[<-e.length];exact a,b,?_⟩;rw[Fq,Fq,<-e.length];exact e.take _
def yX:kG b "list.pop" kS:=by
 intro G m w j d ae q Rv A t a e f;let⟨h,E,p,C,Q8,@Rk,n,o,ai,c,r⟩:=f;unfold kS at c;split at c
 ·let⟨@u,s,v⟩:=cw.mp c;cases v;let⟨g,@Rj,rfl,k,l,rfl⟩:=n;let@⟨rfl,rfl⟩:=o;let⟨@i,x,y,z⟩:=l.last s;have h:eV j g:=⟨_,k,(λ_ c=>by cases c),(λ_ Y c=>by cases c)⟩;refine J4 G m w j _ _ q Rv A t a e ⟨g,Rj,i,rfl,rfl,k,x,r i _ [] [g] ⟨y.mono<|cg.jC h,rfl⟩ ?_ (a5.chg (.head _) h (e3 _ _) λd B=>by simpa using B)⟩;exact⟨g,_,rfl,ec,z.mono<|cg.jC h,rfl⟩
 ·cases c
@[simp] def qV:ak->List ak->Option (ak×ak):=λh E=>match h,E with
 |.lst x,[.im (.int a)]=>if 0<=a/\a<x.length then (x[a.toNat]?).map λu=>(.im u,.lst<|x.eraseIdx a.toNat) else X
 |_,_=>X
theorem bA.erase{j:aw}:∀{E:List V}{x:List ah} (s:Nat),bA j E x->bA j (E.eraseIdx s) (x.eraseIdx s)
 |[],x,s,e=>by cases (show x=[] from e);exact rfl
 |u::E,x,0,e=>by let⟨q,@p,rfl,k,l⟩:=e;exact l
 |u::E,x,s+1,e=>by let⟨q,@p,rfl,k,l⟩:=e;exact⟨q,_,rfl,k,l.erase s⟩
def Jz:kG b "list.pop" qV:=by
 intro G m w j d ae q Rv A t e f n;let⟨h,E,p,F,Q8,@Rk,o,s,ai,c,r⟩:=n;unfold qV at c;split at c
 ·rename_i a;split at c
  ·rename_i U;let⟨@u,v,x⟩:=cw.mp c;cases x;let⟨g,@Rj,rfl,k,l,rfl⟩:=o;let⟨i,B,H,@I,rfl,@⟨y,rfl⟩,@⟨rfl,rfl⟩,rfl⟩:=s;cases (show i=.int a from y);let⟨@i,z,C⟩:=l.get v;have h:eV j g:=⟨_,k,(λ_ c=>by cases c),(λ_ Y c=>by cases c)⟩;have aN:Rj.length<=sizeLine:=(t.aZ g _ k).1;have J:=nB;refine MA G m w j _ _ q Rv A t e f ⟨g,Rj,a,a.toNat,i,rfl,rfl,k,⋯,by have:=l.length;lia,sb U.1 (by rw[<-l.length];exact U.2),z,r i _ [] [g] ⟨C.mono<|cg.jC h,rfl⟩ ?_ (a5.chg (.head _) h (e3 _ _) λd D=>by simpa using D)⟩;exact⟨g,_,rfl,ec,(l.erase _).mono<|cg.jC h,rfl⟩
  ·cases c
 ·cases c
@[simp] def nC:ak->List ak->Option (ak×ak):=λh E=>match h,E with
 |.lst x,[.lst Rj]=>if x.length+Rj.length<=100000 then Z (.im .aW,.lst<|x++Rj) else X
 |_,_=>X
def wF:kG b "list.extend" nC:=by
 intro G m w j d ae q Rv A t n o s;let⟨h,E,p,z,Q8,@Rk,u,v,ai,c,r⟩:=s;unfold nC at c;split at c
 ·split at c
  ·rename_i x;cases c;let⟨g,@Rj,rfl,k,l,rfl⟩:=u;let⟨i,B,C,@D,rfl,⟨f,@RY,rfl,y,a,rfl⟩,@⟨rfl,rfl⟩,rfl⟩:=v;have h:eV j g:=⟨_,k,(λ_ c=>by cases c),(λ_ Y c=>by cases c)⟩;refine JQ G m w j _ _ q Rv A t n o ⟨g,f,Rj,RY,rfl,rfl,k,y,lA (by rw[<-l.length,<-a.length];exact x),r .aW _ [] [g] ⟨rfl,rfl⟩ ?_ (a5.chg (.head _) h (e3 _ _) λd e=>by
    rw[kU]at e;exact eX _ e)⟩
   exact⟨g,_,rfl,ec,(l.app a).mono<|cg.jC h,rfl⟩
  ·cases c
 ·cases c
def qx(b:aK)(pt:ak->ak->ak->Option ak):Prop:=(
 uG b λY a q j A=>∃h n u c Q8 Rk,b_ j h Y Q8/\b_ j n a []/\b_ j u q Rk/\(Q8++Rk).Nodup/\pt h n u=Z c/\∀F d,b_ F c Y d->a5 j (Q8++Rk) F d->A F)
@[simp] def oI(h n u:ak):Option ak:=match h,n,u with
 |.lst x,.im<|.int a,.im u=>(ic x.length a).map λv=>.lst (x.set v u)
 |_,_,_=>X
theorem bA.set{j:aw}{u:V}{q:ah}(D:cg j u q):∀{E:List V}{x:List ah} (s:Nat),bA j E x->bA j (E.set s u) (x.set s q)
 |[],x,s,e=>by cases (show x=[] from e);exact rfl
 |c::E,x,0,e=>by let⟨I,@p,rfl,k,l⟩:=e;exact⟨q,p,rfl,D,l⟩
 |c::E,x,s+1,e=>by let⟨I,@p,rfl,k,l⟩:=e;exact⟨I,_,rfl,k,bA.set D s l⟩
def z8:qx b oI:=by
 intro G m w j Y a q e f I A t E i o p;let⟨h,n,u,D,Q8,@Rk,s,x,y,ai,c,r⟩:=p;unfold oI at c;split at c
 ·let⟨@v,z,B⟩:=cw.mp c;cases B;let⟨g,@Rj,rfl,k,l,rfl⟩:=s;let@⟨hd,rfl⟩:=y;have h:eV j g:=⟨_,k,(λ_ c=>by cases c),(λ_ W c=>by cases c)⟩;refine Ni G m w j _ _ _ e f I A t E i o ⟨g,Rj,_,v,rfl,x.1,k,by rw[<-l.length];exact z,r _ [g] ?_ (a5.chg (.head _) h (e3 _ _) λd C=>by simpa using C)⟩;exact⟨g,_,rfl,ec,(bA.set hd v l).mono<|cg.jC h,rfl⟩
 ·cases c
@[simp] def l6(a:Nat)(b:az ak)(pt:ak->ak->ak->Option ak):eK:=λu y=>match y[a]? with
 |some (Z _)=>(b y).bind λo=>if o.1.c4=ab then match o.2[a]? with
   |some (Z h)=>(pt h o.1 u).map λc=>o.2.set a (Z c)
   |_=>X
  else X
 |_=>X
def og{RE:List Nat}{n:a8}{x:az ak}{pt:ak->ak->ak->Option ak}{Rl:Pos}(N:bx b Y (hl a))(O:cf b n x)(Q:qx b pt)(f:∀q,hA (.Subscript Y n Rl) b.env q=(do
   let i <-holding [q] (bR Y b.env)
   let s <-holding [q,i] (bR n b.env)
   standAt Rl
   holding [q,i,s] (oY i s q)
   release [q,i,s] []):=by intro W;rfl):gT b RE (.Subscript Y n Rl) (l6 a x pt):=by
 refine ti (NA N O Q f) λq w j A R=>?_;let⟨y,P,u,Q8,@Rw,J,B,ai,m,r⟩:=R;unfold l6 at m;split at m
 ·rename_i bs S;let⟨d,bv,@ca,t,cd,W,W⟩:=J.out S;let⟨@⟨o,z⟩,k,l⟩:=bB.mp m;split at l
  ·rename_i T;refine⟨d,t,y,P,o,z,J,(c7.mp ai).1,k,λce Rb Rr ch U C p=>?_⟩;obtain rfl:=C.c4 T;rw[b5]at p;have al:=c7.mp ai;dsimp only at l;split at l
   ·rename_i h am;let⟨@an,ap,as⟩:=cw.mp l;cases as;let⟨ci,D,@E,G,cY,H,a1⟩:=U.out am;rw[t]at G;cases G;have a2:b_ Rb u q Q8:=B.mono p.tup λg f Y c=>p.keep g Y c λe=>al.2.2 g e g f rfl;have I:a5 j (P++Q8) Rb ((D++Q8)++E):=by
     have bd:a5 j (P++Q8) j (P++Q8):=a5.perm ai (List.Perm.refl _);have:=a5.trans (Rr:=P) (Q8:=Q8) bd p B.chg;refine this.kq ((eB Q8 a1.symm).trans ?_);rw[a_];exact c2
    have L:=c7.mp I.ai;refine⟨h,o,u,an,D,Q8,cY,C,a2,L.1,ap,λF cl be v=>?_⟩;have bi:br F (z.set a<|Z .ek) w E:=H.mono v.tup λg f Y c=>v.keep g Y c λe=>L.2.2 g e g f rfl;let⟨bm,@Q9,M,bn⟩:=bi.back be t;rw[rd]at M;exact r w F bm c9.refl M ((I.trans v H.chg).less<|bn.trans c2)
   ·cases l
  ·cases l
 ·cases m
end
end L2
namespace L2
open Spec PyProof.Rows PySem.W
variable{Rt:List Int}{o:Array Nat}{Ry:Type}
def Hr(C:List Ry)(u:Ry):(range C.length).map (λa=>C.getD a u)=C:=by
 apply Cb
 ·simp
 ·intro a k l;simp[List.getD,l]
def wt{C:List Ry}{u:Ry}(e:cT C.length o):(o.toList.map λa=>C.getD a u).Perm C:=by
 have:=vO (λa=>C.getD a u) e;rw[Hr]at this;exact this
theorem uf{Ry RZ:Type}{P:Ry->RZ->Prop}:∀{b:List Ry}{c:List RZ},b.length=c.length->(∀(a:Nat) g f,b[a]?=Z g->c[a]?=Z f->P g f)->d3 P b c
 |[],[],_,_=>.nil
 |g::C,f::H,e,N=>.cons (N 0 g f rfl rfl) (uf ⇑e λa d i k l=>N (a+1) d i ⇑k ⇑l)
 |[],_::_,e,_=>by simp at e
 |_::_,[],e,_=>by simp at e
section
variable{Q_:bz}{D:bg}{O:bp}{Q7:af->aq->Prop}{m:aq}{ae:List af}
def EI{R3:ar}{Si:Nat}{Ri:PySem.Fin->aq->Prop}(y:Nat->Int)(Rx:fT)(d:m.heap.get? R3=Z (fO "list" ae.toArray Si))(B:2<=ae.length->∀b:a4,(∀f Y,f≠R3->m.heap.get? f=Z Y->b.get? f=Z Y)->∀A:fT->aq->Prop,A Rx {m with heap:=b}->wpAny (aQ Q_ D) O (y2 ae.toArray) A Q7 {m with heap:=b})(C:∀b:a4,(∀f Y,f≠R3->m.heap.get? f=Z Y->b.get? f=Z Y)->fk ae.length y (eQ Q_ D O Rx<|ae.toArray.zip ae.toArray) {m with heap:=b})(E:ae.length<1001\/∀v,1<=v->v<ae.length->y (v-1)<=y v)(aN:ae.length<=1000)(e:∀(o:Array Nat) (S:a4),cT ae.length o->jW y o ae.length->(∀f Y,f≠R3->m.heap.get? f=Z Y->S.get? f=Z Y)->(∃c,S.get? R3=Z (fO "list" (o.toList.map λa=>ae.getD a af.none).toArray c))->
   Ri (.done<|.ret .none) {m with heap:=S}):wpAny (aQ Q_ D) O (bq.«list.sort» ⟨[.ref R3],[]⟩) Ri Q7 m:=by
 have w:ae.length<=sizeLine:=dD aN ∅;rw[list_sort_plain];have Q:R3<m.heap.objs.size:=b6 d;refine ay (listItems_at d rfl (ay (AQ d rfl ?_ (hsz:=by rw[cH];exact w) (hsz2:=by show 0<=_;exact hY _))));have n:=Dy d (λ_=>#[]);generalize R:(if (#[]:Array af).size==ae.toArray.size then Si else Si+1)=x at n;refine ay (seqEpoch_at n rfl (ay (BN (ay<|xX<|fL ?_) ⇑w)));have i:∀f Y,f≠R3->m.heap.get? f=Z Y->(((m.heap.update R3<|a6.mapSeq λ_=>#[]).push<|fO "tuple" ae.toArray.toList.toArray 0).push<|fO "list" ([]:List af).toArray 0).get? f=Z Y:=λf Y j c=>
  cp _ (cp _<|(kg _ _<|eu j).trans c);have F:(((m.heap.update R3<|a6.mapSeq λ_=>#[]).push<|fO "tuple" ae.toArray.toList.toArray 0).push<|fO "list" ([]:List af).toArray 0).get? R3=Z (fO "list" #[] x):=
  cp _ (cp _ n);show wpAny (aQ Q_ D) O _ Ri Q7 {m with heap:=((m.heap.update R3<|a6.mapSeq λ_=>#[]).push<|fO "tuple" ae.toArray.toList.toArray 0).push (fO "list" ([]:List af).toArray 0)};generalize ((m.heap.update R3<|a6.mapSeq λ_=>#[]).push<|fO "tuple" ae.toArray.toList.toArray 0).push (fO "list" ([]:List af).toArray 0)=b at i F ⊢;have fin:∀(J:bt) (o:Array Nat),cT ae.length o->jW y o ae.length->arrOf J=o.map (ba<|ae.toArray.zip ae.toArray)->hj J=X->
   wpAny (aQ Q_ D) O (do
    let L:=(<-seqEpoch R3) != x
    bq.List.listUpdate (.ref R3) λ_=>(arrOf J).map (·.2)
    if let Z c:=hj J then rule "list.sort.comparison-raised";throw c
    if L then rule "list.sort.modified";raiseError "ValueError" "list modified during sort"
    ret .none) Ri Q7 {m with heap:=b}:=λJ o k q r s=>by
  have out:=kat_snds (ks:=ae) (vs:=ae) rfl r;rw[out,s];refine ay (seqEpoch_at (s:={m with heap:=b}) F rfl (ay (AQ (s:={m with heap:=b}) F rfl ?_ (hsz:=hY _) (hsz2:=by
   show (List.toArray<|o.toList.map λa=>ae.getD a af.none).size<=_;rw[cH,bH,fB,k.size];lia))))
  simp only[bne_self_eq_false,ij,eL];refine a3 (e o _ k q (λf Y j c=>(kg _ _<|eu j).trans<|i f Y j c) ⟨_,Dy F λ_=>_⟩)
 dsimp only;by_cases l:ae.toArray.size<2
 ·rw[aB l,aB l];refine ay (a3 ?_);rw[StateT.run_pure];apply ay;apply a3;have t:ae.length<2:=by simpa using l
  refine fin (bt.mk' general' (ae.toArray.zip ae.toArray) #[] 7 X) (range ae.length).toArray (List.Perm.refl _) (λa v U al=>?_) ?_ rfl
  ·have:a=v:=⋯
   subst this;exact j9 _
  ·have:=kas_range (ae.toArray.zip ae.toArray);rw[show (ae.toArray.zip ae.toArray).size=ae.length by simp]at this;exact this.symm
 ·rw[aD l,aD l];have t:2<=ae.length:=by simpa using l
  refine ay (B t b i _ ?_)
  ·have M:=C b i;have z:=kas_range (ae.toArray.zip ae.toArray);rw[show (ae.toArray.zip ae.toArray).size=ae.length by simp]at z;have run:=NF (Q7:=Q7) (A:=λ_ J T=>T={m with heap:=b}/\∃o,cT ae.length o/\jW y o ae.length/\arrOf J=o.map (ba<|ae.toArray.zip ae.toArray)/\hj J=X) M
    t E λN am g f h u=>⟨rfl,N,g,f,h,u⟩;unfold sW at run;rw[z]at run;refine ay (fY run (λp T P=>?_) λ_ W c=>c);let⟨I,J⟩:=p;let@⟨rfl,⟨@o,k,q,r,s⟩⟩:=P;exact fin J o k q r s
end
section
variable{b:aK}{G:List (ar×a6)}{w:L2.aX}{j:aw}{m:aq}
def FN(be:b.calm=ab){g:ar}{Rj:List ah}{Rf:List af}{s:Nat}{Rc:String}{Y:a6}{A:b2}(y:Nat->Int)(Rx:fT)(t:aF b G w j m)(F:bN Rj Rf)(Q:Rc = "list" \/ Rc = "tuple")(c:m.heap.get? g=Z Y)(aH:Y.cls=.type Rc)(R:Y.data=.seq Rf.toArray s)(aN:Rj.length<=1000)(T:2<=Rf.length->∀(e:a4) (RN:Nat),(∀f Y,m.heap.get? f=Z Y->e.get? f=Z Y)->∀(O:bp) (Q7:af->aq->Prop) (A:fT->aq->Prop),A Rx {m with heap:=e,toks:=RN}->wpAny (aQ b.prog b.w) O (y2 Rf.toArray) A Q7 {m with heap:=e,toks:=RN})(U:∀(e:a4) (RN:Nat),(∀f Y,m.heap.get? f=Z Y->e.get? f=Z Y)->fk Rf.length y (eQ b.prog b.w b.A.in1.in1 Rx<|Rf.toArray.zip Rf.toArray) {m with heap:=e,toks:=RN})(al:Rf.length<1001\/∀v,1<=v->v<Rf.length->y (v-1)<=y v)(r:∀(o:Array Nat) C,cT Rf.length o->jW y o Rf.length->j C=X->A (.ref C) (upd j C<|.lst<|o.toList.map λa=>Rj.getD a .aW)):
  wpAny (aQ b.prog b.w) b.A (call (.builtin "sorted") [.ref g]) (eb b G w A) b.cE m:=by
 have bi:Rj.length=Rf.length:=F.length;have J:Rf.length<=sizeLine:=dD ⋯ (show 1000<=sizeLine by decide);refine DC kind_sorted D6 DZ (EY _) ?z
 case z=>
  unfold bq.«sorted»;refine ay (m:=checkCount "sorted" 1 1 _) (a3 (ay (wpAny_collect_seq g Q c aH R (λS u=>?_) (by rw[cH];exact J))));show wpAny _ _ (p7 Rf >>= _) _ _ _;refine ay (xX ?_ J);have L:(S.push<|fO "list" Rf.toArray 0).get? S.objs.size=Z (fO "list" Rf.toArray 0):=dc _ rfl;have b3:∀f Y,m.heap.get? f=Z Y->(S.push<|fO "list" Rf.toArray 0).get? f=Z Y:=λf Y c=>cp _ (u f Y c);have M:aF b G w j {m with heap:=S}:=t.kept (RF:=m.toks) u;have N:∀f Y,m.heap.get? f=Z Y->f≠S.objs.size:=λf Y c=>dg (b6<|u f Y c);refine ay (fL<|i1 Gz ⟨_,L,rfl⟩ Eo ?i<|Gn _)
  case i=>
   refine EI (m:={m with heap:=S.push (fO "list" Rf.toArray 0)}) y Rx L (λl e x A am=>T l e m.toks (λf Y h=>x f Y (N f Y h)<|b3 f Y h) _ _ A am) (λe x=>U e m.toks λf Y h=>x f Y (N f Y h)<|b3 f Y h) al ⋯ λo l B an RJ ⟨ap,as⟩=>⟨_,rfl,a3 ⟨_,rfl,?_⟩⟩;have a1:j S.objs.size=X:=M.aZ.fresh (bD _);have a2:∀f Y,S.get? f=Z Y->f≠S.objs.size:=λf Y c=>dg (b6 c);refine⟨.ref S.objs.size,upd j S.objs.size<|.lst<|o.toList.map λa=>Rj.getD a .aW,?_,rfl,r o _ B an a1⟩;refine M.laid (RF:=m.toks) (λf I c=>RJ f I (a2 f I c)<|cp _ c) (bD _) ⟨?_,_,ap,?_,as⟩
   ·rw[bH,fB,B.size];lia
   ·refine uf ↥0 λa q I k l=>?_;rw[gc]at k l;cases E:o.toList[a]? with
    |none=>rw[E]at k;cases k
    |some n=>
     rw[E]at k l;cases k;cases l;have P:n<Rf.length:=iJ.mp (B.mem_iff.mp<|oJ E);let⟨@I,p,bd⟩:=F.get (a:=n) (d:=Rj[n]'⋯) (by simp[show n<Rj.length by lia]);rw[fj P]at p;have p:=Option.some.inj p;simp only[List.getD,fj P,fj (show n<Rj.length by lia),vF];rw[p];exact bd
end
def oj(Rt:List Int)(a:Nat):Int:=(Rt.getD a 0)
def HD(ai:Rt.Nodup):∀a v,a<Rt.length->v<Rt.length->oj Rt a=oj Rt v->a=v:=λa v U b c=>by
 unfold oj at c;rw[cD,cD,fj U,fj b]at c;have d:Rt[a]=Rt[v]:=c;rcases Nat.lt_trichotomy a v with e|e|e
 ·exact absurd d ((oF.mp ai) a v U b e)
 ·exact e
 ·exact absurd d.symm ((oF.mp ai) v a b U e)
def Me(b:cT Rt.length o)(g:jW (oj Rt) o Rt.length)(ai:Rt.Nodup):(o.toList.map λa=>Rt.getD a 0).Pairwise (· < ·):=by
 rw[oF];intro a v U c h;have d:=b.size;have j:a<Rt.length:=by simpa [d] using U
 have e:v<Rt.length:=by simpa [d] using c
 have ne:=b.ne (HD ai) h e;have le:=g a v ⋯ e;have L:∀n (f:n<(o.toList.map λa=>Rt.getD a 0).length),(o.toList.map λa=>Rt.getD a 0)[n]=a7 (oj Rt) o n:=λn f=>by
  have i:n<o.size:=by simpa using f
  rw[E8,A0];show _=Rt.getD (o.getD n 0) 0;simp[Array.getD,i]
 rw[L a U,L v c];lia
section
variable{b:aK}
theorem sM{j:aw}:∀{Rt:List Int}{Rf:List af},bN (Rt.map ah.int) Rf->∀(a:Nat),a<Rt.length->∃B,Rf[a]?=Z (.int (Rt.getD a 0) B)
 |s::p,_,.cons g f,0,e=>by let⟨@B,rfl⟩:=g;exact⟨B,rfl⟩
 |s::p,_,.cons g f,a+1,e=>by
  let⟨@B,c⟩:=sM (j:=j) f a ⇑e;exact⟨B,by simpa using c⟩
def Pj(D:b.calm=ab):eA b (.builtin "sorted") (λx j A=>∃(g:ar) (Rt:List Int),x=[.ref g]/\j g=Z (.lst<|Rt.map ah.int)/\Rt.Nodup/\Rt.length<=1000/\
  ∀C (h:List Int),j C=X->h.Perm Rt->h.Pairwise (· < ·)->A (.ref C) (upd j C<|.lst<|h.map ah.int)):=by
 intro G m w j x Rv A t p e;let⟨g,@Rt,rfl,E,ai,aN,r⟩:=e;let⟨@I,rfl,F⟩:=iM p;cases F;let@⟨z,⟨Rf,@s,d,c⟩⟩:=t.aZ g _ E;have i:Rf.length=Rt.length:=by rw[<-d.length,bH]
 refine FN D (oj Rt) oneType' t d (.inl rfl) c rfl rfl (by rw[bH];exact aN) (λl H RN n O Q7 A J=>?_) (λH RN n=>?_) (.inl ⋯) λo C f u aT=>?_
 ·refine kas_kind (T:=af.type "int") l (λq L=>?_) ∅ ∅ J;let⟨@a,U⟩:=List.getElem?_of_mem L;let⟨@B,y⟩:=sM (j:=j) d a (by rw[<-i];exact (fR.mp U).1);rw[U]at y;cases y;exact uX rfl
 ·intro a v aP U Q r;let⟨@B,k⟩:=sM (j:=j) d a ⋯;let⟨@I,l⟩:=sM (j:=j) d v ⋯;unfold eQ;rw[rU rfl,rU rfl,cD,cD,k,l];show wpAny _ _ (keyLt' oneType' (.int _ B)<|.int _ I) _ _ _;rw[keyLt'_oneType];exact oneLt_int r
 ·rw[i]at f u;have M:(o.toList.map λa=>(Rt.map ah.int).getD a .aW)=(o.toList.map λa=>Rt.getD a 0).map ah.int:=by
   rw[gj];refine g_ λn N=>?_;have P:n<Rt.length:=iJ.mp (f.mem_iff.mp N);show (Rt.map ah.int).getD n .aW=ah.int (Rt.getD n 0);simp[List.getD,P]
  rw[M];exact r C _ aT (wt f) (Me f u ai)
end
end L2
namespace L2
open Spec PyProof.Rows
section
variable{b:aK}
def fM:List V->List V->List V
 |d::x,i::Rj=>.tup [d,i]::fM x Rj
 |_,_=>[]
theorem AS:∀(x Rj:List V),(fM x Rj).length=min x.length Rj.length
 |[],Rj=>by simp[fM]
 |d::x,[]=>by simp[fM]
 |d::x,i::Rj=>by simp[fM,AS x Rj]
theorem Av:∀(x Rj:List V) (a:Nat) (u:V),(fM x Rj)[a]?=Z u->∃d i,x[a]?=Z d/\Rj[a]?=Z i/\u=.tup [d,i]
 |[],Rj,a,u,e=>by simp[fM]at e
 |d::x,[],a,u,e=>by simp[fM]at e
 |d::x,i::Rj,0,u,e=>by simp[fM]at e;exact⟨d,i,rfl,rfl,e.symm⟩
 |d::x,i::Rj,a+1,u,e=>by
  let⟨g,f,k,l,b⟩:=Av x Rj a u (by simpa [fM] using e);exact⟨g,f,by simpa using k,by simpa using l,b⟩
@[simp] def l0(L:az (List bC)):jE:=λy=>(L y).bind λo=>(hH o.2 o.1).bind λE=>match E with
 |[.im (.tup d),.im<|.tup i]=>Z ((fM d i,X),o.2)
 |_=>X
theorem Io{R:Φ}{j:aw}{g f:ar}{x Rj:List ah}{E Q:List V}(e:j g=Z (.tup x))(hd:bA j E x)(S:j f=Z (.tup Rj))(b:bA j Q Rj):me (tJ R g f) j [] (fM E Q) where
 go:=λF B n a u c=>by
  let⟨d,i,r,s,rfl⟩:=Av E Q a u c;let⟨q,h,t⟩:=hd.get r;let⟨I,RP,RJ⟩:=b.get s;have k:=cj.of (R:=R) (B.tup g _ e);have l:=cj.of (R:=R) (B.tup f _ S);refine⟨⟨x,Rj,q,I,k,l,h,RP⟩,λA C ⟨Rc,D,G,N,v,w,y,z⟩=>?_⟩;subst v w;have o:=y x k;have p:=z Rj l;rw[h]at o;rw[RP]at p;cases o;cases p;have m:cO F (upd F Rc<|.tup [q,I]):=(cO.refl F).upd N;exact⟨m,Rc,[q,I],rfl,ec,⟨q,[I],rfl,(t.mono B.tup).mono m.tupS.tup,I,[],rfl,(RJ.mono B.tup).mono m.tupS.tup,rfl⟩⟩
 stop:=λF B n=>⟨x,Rj,cj.of<|B.tup g _ e,cj.of<|B.tup f _ S,by rw[AS,<-hd.length,<-b.length];lia⟩
def Gm{g f:a8}{L:az (List bC)}{o Rl:Pos}{Q:List a8}{Sn:Nat}{Rg:Pos}(i:eU b "zip")(m:b.aO "zip" = X)(a:fu b [g,f] L)(n:bF [g,f] b.env=[(ax,bR g b.env),(ax,bR f b.env)]:=by rfl)(s:bF [f] b.env=[(ax,bR f b.env)]:=by rfl):
  l_ b (.Tuple Q Sn Rg) (.Call (.Name "zip" o) [g,f] [] Rl) (l0 L):=by
 refine wj (Jj i m a n s) λw j D ⟨y,P,p,Rw,J,ai,t,r⟩=>?_;let⟨⟨Rq,z⟩,k,l⟩:=bB.mp t;let⟨E,u,d⟩:=bB.mp l;refine⟨y,P,Rq,z,J,ai,k,λae Rb Rr F e Rz v=>?_⟩;have A:=Rz.read e u;split at d
 ·cases d;let⟨q,I,rfl,c,B⟩:=x1 A;let⟨g,x,rfl,RP,RJ⟩:=c;let⟨f,Rj,rfl,h,C⟩:=B;exact⟨g,f,rfl,⟨x,cj.of RP⟩,⟨Rj,cj.of h⟩,r _ Rb Rr [] e (Io RP RJ h C) trivial (λg a=>nomatch a) (by rw[b5];exact v.both)⟩
 ·cases d
@[simp] def QL:h_:=λE=>match E with
 |[.im (.int a),.im<|.int v,.im<|.int n]=>Z (.im<|.int<|min (min a v) n)
 |_=>X
def j8(lt:V->V->Bool)(d:V):List V->List V
 |[]=>[d]
 |i::p=>if lt d i=ab then d::i::p else i::j8 lt d p
def gf(lt:V->V->Bool):List V->List V
 |[]=>[]
 |d::p=>j8 lt d (gf lt p)
def uC:V->V->Bool
 |.int a,.int v=>decide (a<v)
 |_,_=>ax
def qE:List V->Option (List Int)
 |[]=>Z []
 |.int a::p=>(qE p).map λm=>a::m
 |_::_=>X
@[simp] def u5:h_:=λE=>match E with
 |[.lst d]=>(qE d).bind λRt=>if Rt.Nodup/\Rt.length<=1000 then Z (.lst<|gf uC d) else X
 |_=>X
def lr(d:Int):List Int->List Int
 |[]=>[d]
 |i::p=>if d<i then d::i::p else i::lr d p
def oh:List Int->List Int
 |[]=>[]
 |d::p=>lr d (oh p)
theorem Cy(d:Int):∀C:List Int,j8 uC (.int d) (C.map .int)=(lr d C).map .int
 |[]=>rfl
 |i::p=>by
  rw[bV,j8,lr,uC];by_cases e:d<i
  ·rw[aB ⇑e,aB e];rfl
  ·rw[aD ⇑e,aD e,Cy d p];rfl
theorem Gh:∀C:List Int,gf uC (C.map .int)=(oh C).map .int
 |[]=>rfl
 |d::p=>by rw[bV,gf,Gh p,Cy];rfl
theorem vZ(d:Int):∀C:List Int,(lr d C).Perm (d::C)
 |[]=>List.Perm.refl _
 |i::p=>by
  rw[lr];split
  ·exact List.Perm.refl _
  ·exact ((vZ d p).cons i).trans (List.Perm.swap d i p)
theorem u6:∀C:List Int,(oh C).Perm C
 |[]=>List.Perm.refl _
 |d::p=>(vZ d _).trans ((u6 p).cons d)
theorem Ct(d:Int):∀C:List Int,C.Pairwise (·<=·)->(lr d C).Pairwise (·<=·)
 |[],_=>e3 _ _
 |i::p,e=>by
  let⟨k,l⟩:=jg.mp e;rw[lr];split
  ·rename_i b;refine jg.mpr ⟨λa aN=>?_,e⟩;rcases b9.mp aN with rfl|aN
   ·lia
   ·have:=k a aN;lia
  ·rename_i b;refine jg.mpr ⟨λa aN=>?_,Ct d p l⟩;rcases b9.mp ((vZ d p).mem_iff.mp aN) with rfl|aN
   ·lia
   ·exact k a aN
theorem Ci:∀C:List Int,(oh C).Pairwise (·<=·)
 |[]=>List.Pairwise.nil
 |d::p=>Ct d _ (Ci p)
def K1{C:List Int}(e:C.Nodup):(oh C).Pairwise (· < ·):=by
 have k:=Ci C;have l:(oh C).Nodup:=(u6 C).nodup_iff.mpr e;exact PV (λg f d i=>⋯) k l
theorem Gd:∀{C H:List Int},C.Perm H->C.Pairwise (· < ·)->H.Pairwise (· < ·)->C=H
 |[],H,e,_,_=>e.nil_eq
 |g::C,[],e,_,_=>absurd e.length_eq ↥0
 |g::C,f::H,e,d,h=>by
  have a:=jg.mp d;have b:=jg.mp h;have c:g=f:=by
   rcases b9.mp (e.mem_iff.mp<|.head _) with z|z
   ·exact z
   ·rcases b9.mp (e.mem_iff.mpr<|.head _) with i|i
    ·exact i.symm
    ·have k:=a.1 f i;have l:=b.1 g z;omega
  subst c;rw[Gd e.cons_inv a.2 b.2]
theorem zK:∀{d:List V}{Rt:List Int},qE d=Z Rt->d=Rt.map .int
 |[],Rt,e=>by cases e;rfl
 |.int a::p,Rt,e=>by
  rw[qE]at e;let⟨m,k,rfl⟩:=cw.mp e;rw[zK k];rfl
 |.aW::_,_,e=>by cases e
 |.aG _::_,_,e=>by cases e
 |.str _::_,_,e=>by cases e
 |.tup _::_,_,e=>by cases e
 |.fn _::_,_,e=>by cases e
 |.aT _::_,_,e=>by cases e
 |.fd::_,_,e=>by cases e
theorem CS{j:aw}:∀{Rt:List Int}{ae:List ah},bA j (Rt.map .int) ae->ae=Rt.map ah.int
 |[],ae,e=>e
 |s::p,ae,e=>by
  let⟨q,B,rfl,k,l⟩:=e;cases (show q=.int s from k);rw[CS l];rfl
theorem Cp{j:aw}:∀Rt:List Int,bA j (Rt.map .int) (Rt.map ah.int)
 |[]=>rfl
 |s::p=>⟨.int s,_,rfl,rfl,Cp p⟩
def IC(f:b.calm=ab)(m:b.A.units+20<bJ):g4 b (.builtin "sorted") u5:=by
 refine (Pj f).imp λx j A ⟨E,u,g,c,r⟩=>?_;unfold u5 at c;split at c
 ·rename_i d;let⟨Rt,h,a⟩:=bB.mp c;split at a
  ·rename_i e;cases a;let⟨q,rfl,Y,o,x,rfl,k,l,Y⟩:=fH g;cases zK h;cases CS l;refine⟨o,Rt,rfl,k,e.1,e.2,λC n aT S i=>?_⟩;rw[Gh]at r;rw[Gd (S.trans (u6 Rt).symm) i (K1 e.1)];exact b8.l r aT (Cp _)
  ·cases a
 ·cases c
def xm(a:b.A.units+20<bJ):qx b oI:=z8
end
end L2
namespace L2
open Spec PyProof.Rows PySem.W
end L2
namespace L2
open Spec PyProof.Rows
section
variable{b:aK}
def p2:V->Option d6
 |.int a=>Z (.inl a)
 |.str d=>Z (.inr d)
 |_=>X
@[simp] theorem QK(a:Int):p2 (.int a)=Z (.inl a):=rfl
@[simp] theorem QI(d:aC):p2 (.str d)=Z (.inr d):=rfl
def BQ:d6->V
 |.inl a=>.int a
 |.inr d=>.str d
@[simp] theorem QE(a:Int):BQ (.inl a)=.int a:=rfl
@[simp] theorem QT(d:aC):BQ (.inr d)=.str d:=rfl
def Il{j:aw}{u:V}{q:ah}{n:d6}(e:cg j u q)(c:p2 u=Z n):q=cz n:=by
 cases u with
 |int a=>cases c;exact e
 |str d=>cases c;exact e
 |_=>cases c
def fq{Rx:Type}[DecidableEq Rx](Rd:List (Rx×V))(n:Rx)(u:V):List (Rx×V):=(
 if (Rd.any λa=>decide (a.1=n))=ab then Rd.map (λa=>if a.1=n then (a.1,u) else a) else Rd++[(n,u)])
variable{Rx:Type}
def d7.any[DecidableEq Rx]{j:aw}{n:Rx}{C:List (Rx×V)}{H:List (Rx×ah)}(e:d7 j C H):(C.any λa=>decide (a.1=n))=(H.any λa=>decide (a.1=n)):=by
 unfold d7 at e;induction e with
 |nil=>rfl
 |cons p _ b=>rw[l4,l4,b,p.1]
def d7.upd[DecidableEq Rx]{j:aw}{n:Rx}{u:V}{q:ah}(D:cg j u q){C:List (Rx×V)}{H:List (Rx×ah)}(e:d7 j C H):d7 j (C.map λa=>if a.1=n then (a.1,u) else a) (H.map λa=>if a.1=n then (a.1,q) else a):=by
 unfold d7 at e;induction e with
 |nil=>exact .nil
 |@cons o r _ _ p _ d=>
  rw[bV,bV];refine .cons ?_ d;by_cases c:o.1=n
  ·have b:r.1=n:=p.1.symm.trans c;rw[aB c,aB b];exact⟨p.1,D⟩
  ·have b:¬ r.1=n:=λf=>c (p.1.trans f);rw[aD c,aD b];exact p
def LA{Ry RZ:Type}{P:Ry->RZ->Prop}{C:List Ry}{H:List RZ}{g:Ry}{f:RZ}(e:d3 P C H)(d:P g f):d3 P (C++[g]) (H++[f]):=by
 induction e with
 |nil=>exact .cons d .nil
 |cons p _ a=>exact .cons p a
def d7.put[DecidableEq Rx]{j:aw}{n:Rx}{u:V}{q:ah}(D:cg j u q){C:List (Rx×V)}{H:List (Rx×ah)}(e:d7 j C H):d7 j (fq C n u) (fe H n q):=by
 unfold fq fe;rw[e.any];split
 ·exact e.upd D
 ·exact LA e ⟨rfl,D⟩
@[simp] def yi:az ak:=λy=>Z (.aS [],y)
def EO{Rl:Pos}:cf b (.Dict [] [] Rl) yi:=by
 refine dX HP λw j A ⟨y,P,p,Rw,J,ai,d,r⟩ o a=>?_;cases d;have m:cO j (L2.upd j o<|.aS []):=(cO.refl j).upd a;have e:a5 j P j (P++[]):=by rw[b5];exact a5.perm ai (List.Perm.refl _)
 exact r _ _ P [o] (J.mono m.tupS λg W Y c=>m g Y c) ⟨o,[],rfl,ec,.nil,rfl⟩ (e.new m (e3 _ _) (λg f=>by rw[cV.mp f];exact a) J.chg)
@[simp] def QX(a b:az ak):az ak:=λy=>(a y).bind λo=>(b o.2).bind λr=>match o.1,r.1 with
 |.im n,.im u=>(p2 n).map λc=>(.dh [(c,u)],r.2)
 |_,_=>X
@[simp] def ot(h n u:ak):Option ak:=match h,n,u with
 |.lst x,.im<|.int a,.im u=>(ic x.length a).map λv=>.lst (x.set v u)
 |.dh Rd,.im n,.im u=>(p2 n).bind λb=>if Rd.length<100000 then Z (.dh<|fq Rd b u) else X
 |.aS Rd,.im<|.tup n,.im u=>if V.keys 7 n=ab/\Rd.length<100000 then Z (.aS<|fq Rd n u) else X
 |_,_,_=>X
def Gx(D:b.A.units+20<bJ):qx b ot:=by
 intro G m w j Y a q F H I A t E i o J;let⟨h,n,u,L,Q8,@Rk,p,s,v,ai,c,r⟩:=J;unfold ot at c;split at c
 ·exact z8 G m w j Y a q F H I A t E i o ⟨_,_,_,L,Q8,Rk,p,s,v,ai,c,r⟩
 ·let⟨@P,M,y⟩:=bB.mp c;split at y
  ·rename_i e;cases y;let⟨g,@Rj,rfl,k,l,rfl⟩:=p;let@⟨hd,rfl⟩:=v;have h:eV j g:=⟨_,k,(λ_ c=>by cases c),(λ_ W c=>by cases c)⟩;cases E;have N:=Il s.1 M;subst N;refine tb D t (kD.k k (by rw[<-l.length];exact q5 e)) i o λT z=>⟨_,z,r _ [g] ?_ (a5.chg (.head _) h (e3 _ _) λd C=>by simpa using C)⟩;exact⟨g,_,rfl,ec,(d7.put hd l).mono<|cg.jC h,rfl⟩
  ·cases y
 ·split at c
  ·rename_i e;cases c;let⟨g,@Rj,rfl,k,l,rfl⟩:=p;let@⟨hd,rfl⟩:=v;have h:eV j g:=⟨_,k,(λ_ c=>by cases c),(λ_ W c=>by cases c)⟩;cases E;let⟨f,@x,rfl,RP,RJ⟩:=s.1;refine tb D t (kD.t k ⟨e.1,f,x,rfl,RP,RJ⟩ (by rw[<-l.length];exact q5 e.2)) i o λT z=>⟨_,z,r _ [g] ?_ (a5.chg (.head _) h (e3 _ _) λd C=>by simpa using C)⟩;exact⟨g,_,rfl,ec,(d7.put hd l).mono<|cg.jC h,rfl⟩
  ·cases c
 ·cases c
end
section
variable{b:aK}
def Gy:bC->ak->Option (Nat×ak)
 |.bk a,u=>Z (a,u)
 |.ck _,_=>X
@[simp] theorem QY(a:Nat)(u:ak):Gy (.bk a) u=Z (a,u):=rfl
@[simp] theorem QU(h u:ak):Gy (.ck h) u=X:=rfl
def KL{k:Nat}{a:aC}{B l:Pos}{RD RX Sd:a8}{Sa:List a8}{Rp:f6}{Rl:Pos}{own:List aC}{RC:List Nat}{eJ:cX}{L:jL->fF}{Sj:jL->dV}{R6:jL->bP}(s:b.N.Nodup)(u:b.N[k]?=Z a)(v:jc b.env.scope a)(x:b.calm=ab)(Rk:hF b Rp own RC)(U:kL b RD RX eJ)(z:∀h,i2 (b.fc (fp b own RC) Rp h) RD<|L h)(D:∀h,qY (b.fc (fp b own RC) Rp h) Sa<|Sj h)(E:∀h,bx (b.fc (fp b own RC) Rp h) Sd<|R6 h)(F:∀d,lD RX b.env d=pure d:=by intro W;rfl)(I:m8 (.ListComp Sd [⟨RD,RX,Sa,0⟩] Rp Rl) (Z<|.Name a B) l.line b.env=pure ab:=by rfl)(J:b.fn a=ab\/b.env.scope.names.lookup a=Z .local:=by first|exact .inl rfl|exact .inr rfl|assumption):
  hn b (.Assign [.Name a B] (.ListComp Sd [⟨RD,RX,Sa,0⟩] Rp Rl) l) (uI (rW own RC eJ L Sj R6)<|vQ k):=by
 intro G m w j M t e;rw[exec_Assign_Name_used _ _ _ _ I];refine ay (qt<|ay ?_);show wpAny _ b.A (do let _ <-v3 (.ListComp Sd [⟨RD,RX,Sa,0⟩] Rp Rl) Rp b.env _ (p7 []) ax (bR RX b.env) (Z<|hA (.Name a B) b.env)) _ _ m;refine ay (fY (Di (use:=Z (hA (.Name a B) b.env)) (ge:=λ_ T=>o8 b G M .next T) x Rk U z D E F t e λy aP bi P H Q R N n p al o r=>?_) (λ_ T am=>a3<|a3 am) λ_ W c=>c);show wpAny _ b.A (hA (.Name a B) b.env<|.ref y) _ _ P;refine CE (zD Q s u v (q:=.ref y) rfl (λan ap as=>?_) J);let⟨@g,a1,i⟩:=as;have a2:aP≠g:=by
  rcases i with rfl|i
  ·exact eu n
  ·exact eu (p _ _ i)
 exact⟨H,R.sameBut a1 a2,λS cy=>⟨_,_,ap.turned (ao:=aP) (RF:=an.toks) (λf Y bd c=>(cy.2 f bd).trans c) N (eu n) (.inr al) p o,r⟩⟩
def DB{RE:List Nat}{a:Nat}{c:aC}{B f:Pos}{RD RX Sd:a8}{Sa:List a8}{Rp:f6}{Rl:Pos}{own:List aC}{RC:List Nat}{M:jE}{i:eK}{Sb:az Bool}{Sl:az ak}(g:b.N.Nodup)(h:b.N[a]?=Z c)(m:jc b.env.scope c)(n:b.calm=ab)(Rk:hF b Rp own RC)(ai:RC.Nodup)(U:l_ b RD RX M)(o:∀e,gT (b.fc (fp b own RC) Rp e) (oB own.length RC.length) RD i)(s:∀e,sY (b.fc (fp b own RC) Rp e) Sa Sb)(t:∀e,cf (b.fc (fp b own RC) Rp e) Sd Sl)(u:a∉RE)(v:∀d,lD RX b.env d=pure d:=by intro Y;rfl)(x:m8 (.ListComp Sd [⟨RD,RX,Sa,0⟩] Rp Rl) (Z<|.Name c B) f.line b.env=pure ab:=by rfl)(A:b.fn c=ab\/b.env.scope.names.lookup c=Z .local:=by first|exact .inl rfl|exact .inr rfl|assumption):
  hK b RE (.Assign [.Name c B] (.ListComp Sd [⟨RD,RX,Sa,0⟩] Rp Rl) f) (bZ a<|cP own.length RC M i Sb Sl):=by
 refine ku (KL g h m n Rk U o s t v x A) λQ7 w j D=>?_;let⟨y,P,aT,@Rw,J,E,F,r⟩:=D;let⟨@⟨p,z⟩,k,l⟩:=bB.mp F;split at l
 ·rename_i G;cases l;refine DL ai ⟨y,P,p,_,J,E,k,λq Rb Rr Q8 H I L=>?_⟩;let⟨RB,@bI,O,S⟩:=H.put (a:=a) I G;exact r _ Rb RB (c9.set u) O (L.less S)
 ·cases l
def Ay:ak->ak
 |.lst d=>.im (.aT d)
 |.aS []=>.im .fd
 |u=>u
@[simp] theorem QQ(d:List V):Ay (.lst d)=.im (.aT d):=rfl
@[simp] theorem QJ(u:V):Ay (.im u)=.im u:=rfl
end
end L2
namespace c6
open Spec PyProof.Rows
end c6
namespace L2
open Spec PyProof.Rows
section
variable{b:aK}
theorem bA.rev{j:aw}:∀{E:List V}{x:List ah},bA j E x->bA j E.reverse x.reverse
 |[],x,e=>by cases (show x=[] from e);rfl
 |u::E,x,e=>by
  let⟨q,@p,rfl,k,l⟩:=e;rw[pv,pv];exact l.rev.app ⟨q,[],rfl,k,rfl⟩
end
variable{O:bp}{Sb RW R0:az bC}{R N:fG}{A:af->aq->Prop}{f:Bool}{RQ:ak}{I q:af}{i:ah}{m:aq}{w:aX}{G:List (ar×a6)}{d u:V}{j:aw}
theorem Cw{e:a4}:∀(s:Nat) {d i:V}{q:af},V.bw s d=ab->V.bw s i=ab->c3 e d q->c3 e i q->d=i
 |s,.aW,i,q,_,aY,j,b=>by
  cases (show q=.none from j);cases i with
  |aW=>rfl
  |aG f=>cases b
  |int v=>let⟨@I,c⟩:=b;cases c
  |str m=>let⟨@I,c⟩:=b;cases c
  |tup E=>let⟨W,W,W,@W,c,W⟩:=b;cases c
  |fn g=>cases s<;>cases aY
  |aT g=>cases s<;>cases aY
  |fd=>cases s<;>cases aY
 |s,.aG f,i,q,_,aY,j,b=>by
  cases (show q=.bool f from j);cases i with
  |aW=>cases b
  |aG h=>cases b;rfl
  |int v=>let⟨@I,c⟩:=b;cases c
  |str m=>let⟨@I,c⟩:=b;cases c
  |tup E=>let⟨W,W,W,@W,c,W⟩:=b;cases c
  |fn g=>cases s<;>cases aY
  |aT g=>cases s<;>cases aY
  |fd=>cases s<;>cases aY
 |s,.int a,i,q,_,aY,j,b=>by
  let⟨@B,rfl⟩:=j;cases i with
  |aW=>cases b
  |aG h=>cases b
  |int v=>let⟨@I,c⟩:=b;injection c with c;rw[c]
  |str m=>let⟨@I,c⟩:=b;cases c
  |tup E=>let⟨W,W,W,@W,c,W⟩:=b;cases c
  |fn g=>cases s<;>cases aY
  |aT g=>cases s<;>cases aY
  |fd=>cases s<;>cases aY
 |s,.str a,i,q,_,aY,j,b=>by
  let⟨@B,rfl⟩:=j;cases i with
  |aW=>cases b
  |aG h=>cases b
  |int v=>let⟨@I,c⟩:=b;cases c
  |str m=>let⟨@I,c⟩:=b;injection c with c;rw[c]
  |tup E=>let⟨W,W,W,@W,c,W⟩:=b;cases c
  |fn g=>cases s<;>cases aY
  |aT g=>cases s<;>cases aY
  |fd=>cases s<;>cases aY
 |s+1,.tup E,i,q,w,aY,j,b=>by
  let⟨g,Y,Rm,@H,rfl,k,l,x,y⟩:=j;cases i with
  |aW=>cases b
  |aG h=>cases b
  |int v=>let⟨@I,c⟩:=b;cases c
  |str m=>let⟨@I,c⟩:=b;cases c
  |fn g=>cases aY
  |aT g=>cases aY
  |fd=>cases aY
  |tup Q=>
   let⟨F,M,G,@J,c,t,L,o,z⟩:=b;cases c;rw[k]at t;cases t;rw[x]at o;injection o with o _;subst o;have all:∀(E Q:List V) (ae:List af),V.ct s E=ab->V.ct s Q=ab->dr e E ae->dr e Q ae->E=Q:=by
    intro E;induction E with
    |nil=>
     intro Q ae W W g f;cases Q with
     |nil=>rfl
     |cons c Q=>let⟨W,@W,r,W⟩:=f;rw[show ae=[] from g]at r;cases r
    |cons u E A=>
     intro Q ae RP RJ g f;let⟨q,@p,rfl,C,D⟩:=g;cases Q with
     |nil=>cases (show q::p=[] from f)
     |cons c Q=>
      let⟨N,@RS,r,dp,dC⟩:=f;cases r;rw[V.ct,cF]at RP RJ;rw[Cw s RP.1 RJ.1 C dp,A Q p RP.2 RJ.2 D dC]
   rw[all E Q _ w aY y z]
 |0,.tup _,_,_,n,_,_,_=>by cases n
 |s,.fn _,_,_,n,_,_,_=>by cases s<;>cases n
 |s,.aT _,_,_,n,_,_,_=>by cases s<;>cases n
 |s,.fd,_,_,n,_,_,_=>by cases s<;>cases n
open Classical in
def iC(e:a4)(u:V)(q:af):Bool:=(if z:∃d,V.bw 8 d=ab/\c3 e d q then bU z.choose u else ax)
def j3{e:a4}(n:V.bw 8 d=ab)(a:c3 e d q):iC e u q=bU d u:=by
 unfold iC;have b:∃d,V.bw 8 d=ab/\c3 e d q:=⟨d,n,a⟩;rw[dif_pos b,Cw 8 b.choose_spec.1 n b.choose_spec.2 a]
theorem rj{e:a4}{u:V}:∀{E:List V}{ae:List af},V.ct 8 E=ab->dr e E ae->ae.any (iC e u)=E.any λd=>bU d u
 |[],ae,_,c=>by rw[show ae=[] from c];rfl
 |d::E,ae,n,c=>by
  let⟨q,@p,rfl,k,l⟩:=c;rw[V.ct,cF]at n;rw[l4,l4,j3 n.1 k,rj n.2 l]
theorem mv{e:a4}:∀{E:List V}{ae:List af}{q:af},V.ct 8 E=ab->dr e E ae->q∈ae->∃d,V.bw 8 d=ab/\c3 e d q
 |[],ae,q,_,c,H=>by rw[show ae=[] from c]at H;cases H
 |d::E,ae,q,n,c,H=>by
  let⟨I,@p,rfl,k,l⟩:=c;rw[V.ct,cF]at n;rcases b9.mp H with rfl|H
  ·exact⟨d,n.1,k⟩
  ·exact mv n.2 l H
section
variable{b:aK}
def hD(u:V):ak->Option Bool
 |.im (.tup E)=>if (V.bw 8 u&&V.ct 8 E)=ab then Z (E.any λd=>bU d u) else X
 |.lst E=>if (V.bw 8 u&&V.ct 8 E)=ab then Z (E.any λd=>bU d u) else X
 |.aS Rd=>match u with
  |.tup n=>if V.keys 7 n=ab then Z (dW Rd n).isSome else X
  |_=>X
 |.dh Rd=>match u with
  |.int a=>Z (dW Rd<|.inl a).isSome
  |.str d=>Z (dW Rd<|.inr d).isSome
  |_=>X
 |_=>X
@[simp] theorem Nv(u:V)(E:List V):hD u (.im<|.tup E)=if (V.bw 8 u&&V.ct 8 E)=ab then Z (E.any λd=>bU d u) else X:=rfl
@[simp] theorem Nw(u:V)(E:List V):hD u (.lst E)=if (V.bw 8 u&&V.ct 8 E)=ab then Z (E.any λd=>bU d u) else X:=rfl
@[simp] theorem QZ(n:List V)(Rd:List (List V×V)):hD (.tup n) (.aS Rd)=if V.keys 7 n=ab then Z (dW Rd n).isSome else X:=rfl
@[simp] def mc:fG:=λg f=>match g with
 |.im u=>(hD u f).map λp=>.im (.aG p)
 |_=>X
@[simp] def k6:fG:=λg f=>match g with
 |.im u=>(hD u f).map λp=>.im (.aG<|!p)
 |_=>X
def nJ{Rx:Type}[DecidableEq Rx]{j:aw}{n:Rx}{Rd:List (Rx×V)}{U:List (Rx×ah)}(e:d7 j Rd U):(gE U n).isSome=(dW Rd n).isSome:=by
 cases c:dW Rd n with
 |none=>rw[(lZ e).2 c];rfl
 |some u=>let⟨@q,k,Y⟩:=(lZ e).1 u c;rw[k];rfl
def Ic{d:ah}(F:b.A.units+20<bJ)(t:aF b G w j m)(h:bW d q)(p:bW i I)(s:cg j u d)(v:eN j RQ i)(c:hD u RQ=Z f)(r:∀T,aF b G w j T->A (.bool f) T):wpAny (aQ b.prog b.w) b.A (ez .In q I) A b.cE m:=by
 unfold hD at c;split at c
 ·rename_i E;split at c
  ·rename_i e;cases c;rw[cF]at e;let⟨g,@x,rfl,k,l⟩:=v.i;cases p;let⟨@Rf,J,o,Y⟩:=t.tuple (cj.of k);have y:=l.ea t.aZ J;refine SeqAt.in_tupleAt (iC m.heap u) (show m.heap.IsTuple g Rf.toArray from o) (λD H=>?_) ?_
   ·let⟨@L,z,C⟩:=mv e.2 y ⇑H;rw[j3 z C];exact gW 8 z e.1 (by show b.A.units+1+8+1<bJ;lia) C (s.ea t.aZ h)
   ·rw[s7,rj e.2 y];exact r m t
  ·cases c
 ·rename_i E;split at c
  ·rename_i e;cases c;rw[cF]at e;let⟨Y,g,@x,rfl,k,l,Y⟩:=v;cases p;let⟨@Rf,o,y,Y⟩:=ox t k l;refine SeqAt.in_listAt (iC m.heap u) o (λD H=>?_) ?_
   ·let⟨@L,z,C⟩:=mv e.2 y ⇑H;rw[j3 z C];exact gW 8 z e.1 (by show b.A.units+1+8+1<bJ;lia) C (s.ea t.aZ h)
   ·rw[s7,rj e.2 y];exact r m t
  ·cases c
 ·rename_i Rd;split at c
  ·rename_i n;split at c
   ·rename_i M;cases c;let⟨Y,g,@U,rfl,k,l,Y⟩:=v;cases p;let⟨f,@Rj,rfl,N,P⟩:=s;rw[<-nJ l]at r;exact xq F t (eS.t k ⟨M,f,Rj,rfl,N,P⟩) h r
   ·cases c
  ·cases c
 ·rename_i Rd;split at c
  ·rename_i a;cases c;let⟨Y,g,@U,rfl,k,l,Y⟩:=v;cases p;rw[<-nJ l]at r;cases (show d=cz (.inl a) from s);exact xq F t (eS.k k) h r
  ·rename_i a;cases c;let⟨Y,g,@U,rfl,k,l,Y⟩:=v;cases p;rw[<-nJ l]at r;cases (show d=cz (.inr a) from s);exact xq F t (eS.k k) h r
  ·cases c
 ·cases c
def td(e:b.A.units+20<bJ):e7 b (ez .In) mc:=by
 intro G m w j d i q I A t g h k;let⟨RO,RQ,@u,l,n,c,r⟩:=k;unfold mc at c;split at c
 ·let⟨@f,o,p⟩:=cw.mp c;cases p;exact Ic e t g h l.i n o λT s=>⟨.aG f,j,s,rfl,b8.i r rfl⟩
 ·cases c
def J6{d:ah}(F:b.A.units+20<bJ)(t:aF b G w j m)(h:bW d q)(p:bW i I)(s:cg j u d)(v:eN j RQ i)(c:hD u RQ=Z f)(r:∀T,aF b G w j T->A (.bool<|!f) T):wpAny (aQ b.prog b.w) b.A (ez .NotIn q I) A b.cE m:=by
 unfold hD at c;split at c
 ·rename_i E;split at c
  ·rename_i e;cases c;rw[cF]at e;let⟨g,@x,rfl,k,l⟩:=v.i;cases p;let⟨@Rf,J,o,Y⟩:=t.tuple (cj.of k);have y:=l.ea t.aZ J;refine SeqAt.notIn_tupleAt (iC m.heap u) (show m.heap.IsTuple g Rf.toArray from o) (λD H=>?_) ?_
   ·let⟨@L,z,C⟩:=mv e.2 y ⇑H;rw[j3 z C];exact gW 8 z e.1 (by show b.A.units+1+8+1<bJ;lia) C (s.ea t.aZ h)
   ·rw[s7,rj e.2 y];exact r m t
  ·cases c
 ·rename_i E;split at c
  ·rename_i e;cases c;rw[cF]at e;let⟨Y,g,@x,rfl,k,l,Y⟩:=v;cases p;let⟨@Rf,o,y,Y⟩:=ox t k l;refine SeqAt.notIn_listAt (iC m.heap u) o (λD H=>?_) ?_
   ·let⟨@L,z,C⟩:=mv e.2 y ⇑H;rw[j3 z C];exact gW 8 z e.1 (by show b.A.units+1+8+1<bJ;lia) C (s.ea t.aZ h)
   ·rw[s7,rj e.2 y];exact r m t
  ·cases c
 ·rename_i Rd;split at c
  ·rename_i n;split at c
   ·rename_i M;cases c;let⟨Y,g,@U,rfl,k,l,Y⟩:=v;cases p;let⟨f,@Rj,rfl,N,P⟩:=s;rw[<-nJ l]at r;exact vb F t (eS.t k ⟨M,f,Rj,rfl,N,P⟩) h r
   ·cases c
  ·cases c
 ·rename_i Rd;split at c
  ·rename_i a;cases c;let⟨Y,g,@U,rfl,k,l,Y⟩:=v;cases p;rw[<-nJ l]at r;cases (show d=cz (.inl a) from s);exact vb F t (eS.k k) h r
  ·rename_i a;cases c;let⟨Y,g,@U,rfl,k,l,Y⟩:=v;cases p;rw[<-nJ l]at r;cases (show d=cz (.inr a) from s);exact vb F t (eS.k k) h r
  ·cases c
 ·cases c
def w2(e:b.A.units+20<bJ):e7 b (ez .NotIn) k6:=by
 intro G m w j d i q I A t g h k;let⟨RO,RQ,@u,l,n,c,r⟩:=k;unfold k6 at c;split at c
 ·let⟨@f,o,p⟩:=cw.mp c;cases p;exact J6 e t g h l.i n o λT s=>⟨.aG<|!f,j,s,rfl,b8.i r rfl⟩
 ·cases c
@[simp] def mf(N R:fG)(R0 RW Sb:az bC):az ak:=λy=>(R0 y).bind λo=>(RW o.2).bind λr=>(d9 r.2 o.1).bind λRO=>(d9 r.2 r.1).bind λRQ=>(N RO RQ).bind λu=>(mJ u).bind λn=>
 if n=ab then (Sb r.2).bind λp=>(d9 p.2 r.1).bind λa=>(d9 p.2 p.1).bind λb=>(R a b).bind λc=>(mJ c).map λf=>(.im<|.aG f,p.2) else Z (.im<|.aG ax,r.2)
def Kq{A:b2}(e:k8 (mf N R R0 RW Sb) w j A):
  DS (λd i j A=>∃RO RQ u,eN j RO d/\eN j RQ i/\N RO RQ=Z u/\b8 j u A) (λd i j A=>∃RO RQ u,eN j RO d/\eN j RQ i/\R RO RQ=Z u/\b8 j u A) (mm R0) (mm RW) (mm Sb) w j A:=by
 let⟨y,P,p,@Rw,J,ai,a,r⟩:=e;let⟨@⟨Rz,z⟩,k,a⟩:=bB.mp a;let⟨@⟨RM,RA⟩,l,a⟩:=bB.mp a;let⟨@RO,L,a⟩:=bB.mp a;let⟨@RQ,M,a⟩:=bB.mp a;let⟨@u,O,a⟩:=bB.mp a;let⟨@n,Q,m⟩:=bB.mp a;have hd:=q3 Q;subst hd;refine⟨y,P,Rz,z,J,ai,k,λd Rb Rr S T cY x=>⟨z,Rr,RM,RA,T,(c7.mp x.ai).1,l,λi Ro RB bI o F s=>?_⟩⟩;have U:hC Ro w Rz d S:=cY.mono s.tup λg b Y c=>s.keep g Y c λe=>(c7.mp x.ai).2.2 g e g b rfl;refine⟨RO,RQ,_,U.read o L,F.read o M,O,λq G al h am co cr=>?_⟩;let@⟨rfl,rfl⟩:=(show q=.aG n/\al=[] from am);refine⟨n,rfl,?_⟩;have H:=x.trans s cY.chg;rw[a_]at H;have t:=H.new h jo (λg b=>nomatch b) o.chg;have I:br G RA w RB:=o.mono h.tupS λg W Y c=>h g Y c;cases n with
 |false=>
  rw[aD c_]at m ⊢;cases m;exact r _ G RB [] I ⟨rfl,rfl⟩ t
 |true=>
  rw[aB rfl]at m ⊢;let⟨@⟨E,R4⟩,an,RP⟩:=bB.mp m;let⟨@ap,as,RJ⟩:=bB.mp RP;let⟨@a1,a2,bd⟩:=bB.mp RJ;let⟨@cs,be,bi⟩:=bB.mp bd;let⟨@f,bm,bn⟩:=cw.mp bi;cases bn;have aN:=q3 bm;subst aN;rw[b5]at t;refine⟨RA,RB,E,R4,I,t.ai,an,λD bs bv db v ca B=>?_⟩;have cd:=c7.mp s.ai;have ce:hC bs w RM i bI:=(F.mono h.tupS λg W Y c=>h g Y c).mono B.tup λg b Y c=>B.keep g Y c λe=>cd.2.2 g e g b rfl;refine⟨ap,a1,_,ce.read v as,ca.read v a2,be,λq ch ci C cl ds dL=>?_⟩;let@⟨rfl,rfl⟩:=(show q=.aG f/\ci=[] from cl);exact r _ ch bv [] (v.mono C.tupS λg W Y c=>C g Y c) ⟨rfl,rfl⟩ ((t.seq B).new C jo (λg b=>nomatch b) v.chg)
def E3{RL a:ko}{g f h:a8}{Rl:Pos}(d:e7 b (ez RL) N)(e:e7 b (ez a) R)(i:dk b g R0)(p:dk b f RW)(s:dk b h Sb)(t:lastMarks [RL,a] [f,h]=ax:=by with_unfolding_all rfl):ha b (.Compare g [RL,a] [f,h] Rl) (b3<|mf N R R0 RW Sb):=by
 refine pT (MS d e i p s t) λw j A u=>?_;let⟨y,P,n,@Rw,J,ai,v,r⟩:=u;refine Kq ⟨y,P,.im<|.aG n,Rw,J,ai,?_,λq F RI Q8 x c m=>⟨n,c.1,r F RI x (by rw[c.2,b5]at m;exact m)⟩⟩;let⟨@o,k,l⟩:=bB.mp v;let⟨@C,z,B⟩:=cw.mp l;cases B;rw[k,<-q3 z]
end
mutual
def bh:V->V->Bool
 |.int a,.int v=>decide (a<v)
 |.str d,.str i=>decide (d.cps.toList<i.cps.toList)
 |.tup g,.tup f=>fA g f
 |_,_=>ax
def fA:List V->List V->Bool
 |[],[]=>ax
 |[],_::_=>ab
 |_::_,[]=>ax
 |g::p,f::B=>if V.beq g f=ab then fA p B else bh g f
end
mutual
def dF:Nat->V->V->Bool
 |_,.int _,.int _=>ab
 |_,.str _,.str _=>ab
 |s+1,.tup g,.tup f=>fi s g f
 |_,_,_=>ax
def fi:Nat->List V->List V->Bool
 |_,[],[]=>ab
 |s,g::p,f::B=>dF s g f&&fi s p B
 |s,[],f::B=>V.ct s (f::B)
 |s,g::p,[]=>V.ct s (g::p)
end
mutual
theorem n6:∀{s:Nat}{g f:V},dF s g f=ab->V.bw s g=ab/\V.bw s f=ab/\bU g f=V.beq g f
 |s,.int a,.int v,_=>by
  refine⟨by cases s<;>rfl,by cases s<;>rfl,?_⟩;rw[bU,V.beq];by_cases e:a=v<;>simp[e]
 |s,.str d,.str i,_=>by
  refine⟨by cases s<;>rfl,by cases s<;>rfl,?_⟩;rw[bU,V.beq];by_cases e:d=i<;>simp[e]
 |s+1,.tup g,.tup f,e=>by
  rw[dF]at e;let@⟨k,l,b⟩:=Br e;exact⟨k,l,by rw[bU,V.beq];exact b⟩
theorem Br:∀{s:Nat}{g f:List V},fi s g f=ab->V.ct s g=ab/\V.ct s f=ab/\dU g f=V.k5 g f
 |s,[],[],_=>⟨by cases s<;>rfl,by cases s<;>rfl,rfl⟩
 |s,[],f::B,e=>⟨by cases s<;>rfl,e,rfl⟩
 |s,g::p,[],e=>⟨e,by cases s<;>rfl,rfl⟩
 |s,g::p,f::B,e=>by
  rw[fi,cF]at e;let@⟨k,l,a⟩:=n6 e.1;let@⟨b,c,d⟩:=Br e.2;exact⟨by rw[V.ct,k,b];rfl,by rw[V.ct,l,c];rfl,by rw[dU,V.k5,a,d]⟩
end
def nu{g f:V}(e:¬ g=f):V.beq g f=ax:=by
 cases c:V.beq g f with
 |false=>rfl
 |true=>exact absurd ((V.beq_iff g f).mp c) e
mutual
theorem u7:∀g:V,bh g g=ax
 |.int a=>by simp[bh]
 |.tup g=>by rw[bh];exact Fl g
 |.aW=>rfl
 |.aG _=>rfl
 |.str d=>by rw[bh];exact dv (List.lt_irrefl _)
 |.fn _=>rfl
 |.aT _=>rfl
 |.fd=>rfl
theorem Fl:∀g:List V,fA g g=ax
 |[]=>rfl
 |g::p=>by rw[fA,aB<|(V.beq_iff g g).mpr rfl];exact Fl p
end
mutual
theorem qz:∀{s:Nat}{g f:V},dF s g f=ab->g≠f->bh g f=!(bh f g)
 |s,.int a,.int v,_,e=>by
  have:a≠v:=λc=>e (by rw[c]);rw[bh,bh];rcases Int.lt_or_gt_of_ne this with L|L
  ·simp[L];lia
  ·simp[L];lia
 |s,.str d,.str i,_,e=>by
  have ne:d.cps.toList≠i.cps.toList:=λc=>e (by
   let⟨d⟩:=d;let⟨i⟩:=i;exact congrArg (λb=>V.str ⟨b⟩) (Array.toList_inj.mp c))
  rw[bh,bh];by_cases L:d.cps.toList<i.cps.toList
  ·rw[dj L,dv<|List.lt_asymm L];rfl
  ·rw[dv L];by_cases h:i.cps.toList<d.cps.toList
   ·rw[dj h];rfl
   ·exact absurd (List.le_antisymm (Cr.mp h)<|Cr.mp L) ne
 |s+1,.tup g,.tup f,e,c=>by
  rw[dF]at e;rw[bh,bh];exact F_ e λb=>c (by rw[b])
theorem F_:∀{s:Nat}{g f:List V},fi s g f=ab->g≠f->fA g f=!(fA f g)
 |s,[],[],_,e=>absurd rfl e
 |s,[],f::B,_,_=>rfl
 |s,g::p,[],_,_=>rfl
 |s,g::p,f::B,e,c=>by
  rw[fi,cF]at e;rw[fA,fA];by_cases a:g=f
  ·subst a;rw[aB ((V.beq_iff g g).mpr rfl),aB<|(V.beq_iff g g).mpr rfl];exact F_ e.2 λD=>c (by rw[D])
  ·rw[nu a,nu<|λD=>a D.symm,aD c_,aD c_];exact qz e.1 a
end
mutual
theorem t4:∀{s:Nat}{g f h:V},dF s g f=ab->dF s f h=ab->bh g f=ab->bh f h=ab->bh g h=ab
 |s,.int a,.int v,.int n,_,_,k,l=>by
  rw[bh]at k l ⊢;have:=g9 k;have:=g9 l;exact dj (by omega)
 |s,.str d,.str i,.str e,_,_,k,l=>by
  rw[bh]at k l ⊢;exact dj (List.lt_trans (g9 k)<|g9 l)
 |s+1,.tup g,.tup f,.tup h,b,c,k,l=>by
  rw[dF]at b c;rw[bh]at k l ⊢;exact Dt b c k l
theorem Dt:∀{s:Nat}{g f h:List V},fi s g f=ab->fi s f h=ab->fA g f=ab->fA f h=ab->fA g h=ab
 |s,[],_,_::_,_,_,_,_=>rfl
 |s,[],[],[],_,_,e,_=>e
 |s,_::_,[],_,_,_,e,_=>by cases e
 |s,_,_::_,[],_,_,_,e=>by cases e
 |s,g::p,f::B,h::I,c,b,k,l=>by
  rw[fi,cF]at c b;rw[fA]at k l ⊢;by_cases d:g=f
  ·subst d;rw[aB ((V.beq_iff g g).mpr rfl)]at k;by_cases a:g=h
   ·subst a;rw[aB ((V.beq_iff g g).mpr rfl)]at l ⊢;exact Dt c.2 b.2 k l
   ·rw[nu a,aD c_]at l ⊢;exact l
  ·rw[nu d,aD c_]at k;by_cases a:f=h
   ·subst a;rw[nu d,aD c_];exact k
   ·rw[nu a,aD c_]at l;have i:=t4 c.1 b.1 k l;have j:¬ g=h:=λD=>by
     subst D;have:=qz b.1 a;rw[k,l]at this;cases this
    rw[nu j,aD c_];exact i
end
def q4(O:bp)(m:aq)(i d:af)(n:Bool):Prop:=(∀(Q_:bz) (D:bg) (Q7:af->aq->Prop) (A:af->aq->Prop),A (.bool n) m->wpAny (aQ Q_ D) O (mS .Lt i d) A Q7 m)
def g0(N:Bool):List (Bool×Bool)->Bool
 |[]=>N
 | (c,n)::p=>if c=ab then g0 N p else n
section
open PySem.SeqAt
open PySem.AutoSeq1 (wpAny_loadPart')
open PySem.MeetsSeq PySem.MeetsSeq2 PySem.MeetsSeq3
def LH(C f:ar)(Rm b:Array af)(s y:Nat)(z A:Option ar)(bk B:Array (Option af))(Rg:List (Bool×Bool))(N:Rg.length=min Rm.size b.size):
  qd (bq.«tuple.__lt__» ⟨[.ref C,.ref f],[]⟩)
   (λO Q8 m=>m.heap.get? C=Z {cls:=.type "tuple",dict:=z,data:=.seq Rm s,slots:=bk}/\m.heap.get? f=Z {cls:=.type "tuple",dict:=A,data:=.seq b y,slots:=B}/\
    (∀v (k:v<Rm.size) (l:v<b.size) (o:v<Rg.length),EqAt O.in1 m Rm[v] b[v] (Rg[v]).1/\((Rg[v]).1=ax->q4 O.in1 m Rm[v] b[v] (Rg[v]).2))/\
    Q8 (.ok<|.ret<|.bool<|g0 (decide (Rm.size<b.size)) Rg) m):=
 .of_wp λQ_ D O Q8 m e=>by
  let⟨h,L,u,RN,Rq⟩:=m;let@⟨E,F,G,e⟩:=e;have P:=z0;have q:(Rm.toList.zip b.toList).length=min Rm.size b.size:=by simp
  wp_walk using wpAny_loadPart' E,wpAny_loadPart' F,qs _ (λd1 f T=>f.1=X/\T=⟨h,L,u,RN,Rq⟩/\∃a,d1=(Rm.toList.zip b.toList).drop a/\
   Q8 (.ok<|.ret<|.bool<|g0 (decide (Rm.size<b.size))<|Rg.drop a) ⟨h,L,u,RN,Rq⟩) _
  case turn=>
   rintro⟨i,d⟩ d1 f T ⟨p,rfl,a,aN,g⟩;have r:a<(Rm.toList.zip b.toList).length:=by
    rcases tx a (Rm.toList.zip b.toList).length with S|S
    ·exact S
    ·rw[m6 S]at aN;cases aN
   have Q:a<min Rm.size b.size:=q ▸ r;have k:a<Rm.size:=⋯
   have l:a<b.size:=⋯
   have o:a<Rg.length:=⋯
   rw[ix r]at aN;injection aN with t H;have I:i=Rm[a]:=by have:=congrArg Prod.fst t;simpa using this
   have J:d=b[a]:=by have:=congrArg Prod.snd t;simpa using this
   subst I J;rw[ix o]at g;let@⟨w,x⟩:=G a k l o;generalize Rg[a]=pr at g w x;let⟨c,n⟩:=pr;refine ay (w Q_ D _ _ ?_);cases c with
   |true=>
    have j:Q8 (.ok<|.ret<|.bool<|g0 (decide (Rm.size<b.size))<|Rg.drop<|a+1) ⟨h,L,u,RN,Rq⟩:=g
    wp_walk
    exact⟨rfl,rfl,a+1,H,j⟩
   |false=>
    have j:Q8 (.ok<|.ret<|.bool n) ⟨h,L,u,RN,Rq⟩:=g;have M:=x rfl Q_ D
    wp_walk using M
    exact⟨_,rfl,by simpa using j⟩
  case fin=>
   rintro⟨dp,dC⟩ T ⟨p,rfl,a,aN,g⟩;simp only at p;subst p;have R:min Rm.size b.size<=a:=by
    rcases tx a (Rm.toList.zip b.toList).length with S|S
    ·rw[ix S]at aN;cases aN
    ·exact q ▸ S
   rw[m6 ⋯]at g;have j:Q8 (.ok<|.ret<|.bool<|decide (Rm.size<b.size)) ⟨h,L,u,RN,Rq⟩:=g
   wp_walk
   exact⟨_,rfl,by simpa [bq.Tuple.tupleCompareSizes] using j⟩
  case h=>
   exact⟨rfl,rfl,0,rfl,by simpa using e⟩
end
def jN(E Q:List V):List (Bool×Bool):=((E.zip Q).map λo=>(bU o.1 o.2,bh o.1 o.2))
theorem Gp:∀{s:Nat}{E Q:List V},fi s E Q=ab->g0 (decide (E.length<Q.length)) (jN E Q)=fA E Q
 |_,[],[],_=>rfl
 |s,g::p,f::B,e=>by
  rw[fi,cF]at e;show (if bU g f=ab then g0 (decide (p.length+1<B.length+1)) (jN p B) else bh g f)=fA (g::p) (f::B);rw[fA,(n6 e.1).2.2,<-Gp e.2,q7.mpr w9]
 |_,[],_::_,_=>rfl
 |_,_::_,[],_=>rfl
theorem wa{s:Nat}:∀{E Q:List V}{v:Nat}{g f:V},fi s E Q=ab->E[v]?=Z g->Q[v]?=Z f->dF s g f=ab
 |[],Q,v,g,f,_,e,_=>by simp at e
 |u::E,[],v,g,f,_,_,e=>by simp at e
 |u::E,c::Q,0,g,f,e,k,l=>by
  rw[fi,cF]at e;cases k;cases l;exact e.1
 |u::E,c::Q,v+1,g,f,e,k,l=>by
  rw[fi,cF]at e;exact wa (v:=v) e.2 ⇑k ⇑l
def Nf{a v:Int}(b:c3 m.heap (.int a) I)(c:c3 m.heap (.int v) q):q4 O m I q (bh (.int a)<|.int v):=by
 let⟨@B,rfl⟩:=b;let⟨@RF,rfl⟩:=c;intro Q_ D Q7 A r;rw[bh]at r;exact c6.J8 O m a B v RF Q_ D Q7 A r
def IY{d i:aC}(a:c3 m.heap (.str d) I)(b:c3 m.heap (.str i) q):q4 O m I q (bh (.str d)<|.str i):=by
 let⟨B,rfl⟩:=a;let⟨RF,rfl⟩:=b;intro Q_ D Q7 A r;rw[bh]at r;exact (PySem.P.lt_str r:wpAny (aQ Q_ D) O (ez .Lt (.str d B)<|.str i RF) A Q7 m)
def vz(d i:V):Prop:=((∃a v,d=.int a/\i=.int v)\/∃g f,d=.str g/\i=.str f)
def D4{i:V}(C:vz d i)(b:c3 m.heap d I)(c:c3 m.heap i q):q4 O m I q (bh d i):=by
 rcases C with ⟨a,v,rfl,rfl⟩|⟨g,f,rfl,rfl⟩
 ·exact Nf b c
 ·exact IY b c
def ny:∀{s:Nat}{d i:V},dF s d i=ab->vz d i\/∃H g f,s=H+1/\d=.tup g/\i=.tup f/\fi H g f=ab:=by
 intro s d i e;unfold dF at e;split at e
 ·exact .inl (.inl ⟨_,_,rfl,rfl⟩)
 ·exact .inl (.inr ⟨_,_,rfl,rfl⟩)
 ·exact .inr ⟨_,_,_,rfl,rfl,rfl,e⟩
 ·cases e
def wc(s:Nat):∀{O:bp}{d i:V}{I q:af},dF s d i=ab->O.units+s+2<bJ->c3 m.heap d I->c3 m.heap i q->q4 O m I q (bh d i):=by
 induction s with
 |zero=>
  intro O d i I q e L a b;rcases ny e with C|⟨H,_,_,c,_⟩
  ·exact D4 C a b
  ·cases c
 |succ s N=>
  intro O d i I q e L a b;rcases ny e with C|⟨H,E,Q,c,rfl,rfl,e⟩
  ·exact D4 C a b
  cases c;let⟨g,Y,Rf,@H,rfl,k,l,h,j⟩:=a;let⟨f,M,J,@R,rfl,n,o,p,t⟩:=b;let⟨cls,S,data,bk⟩:=Y;let⟨as,T,a1,U⟩:=M;simp only at l h o p;subst l h o p;have u:E.length=Rf.size:=by rw[j.length,fB]
  have w:Q.length=J.size:=by rw[t.length,fB]
  intro Q_ D Q7 A r;rw[bh,<-Gp e,u,w]at r;have aV:(jN E Q).length=min Rf.size J.size:=by rw[jN,bH,uh,u,w]
  refine zN (op:=.Lt) ⟨_,k,rfl⟩ ⟨_,n,rfl⟩ PySem.F.slot_tuple_lt PySem.F.entry_tuple_lt (PySem.F.args_tuple_lt_2 _ _) (LH g f Rf J H R S T bk U (jN E Q) aV)
   ⟨k,n,λv al am an=>?_,show af.bool (g0 (decide (Rf.size<J.size))<|jN E Q)≠af.notImplemented/\A (.bool<|g0 (decide (Rf.size<J.size))<|jN E Q) m from ⟨(λd=>nomatch d),r⟩⟩ ⋯;let⟨@RO,x,y⟩:=j.get (v:=v) (q:=Rf[v]) (by rw[gq];simp[al]);let⟨@RQ,z,B⟩:=t.get (v:=v) (q:=J[v]) (by rw[gq];simp[am]);have lk:=wa e x z;have G:=n6 lk;have ap:(jN E Q)[v]=(bU RO RQ,bh RO RQ):=by
   have:(jN E Q)[v]?=Z (bU RO RQ,bh RO RQ):=by
    rw[jN,gc,(AL (z:=(RO,RQ))).mpr ⟨x,z⟩];rfl
   rw[fj an]at this;exact Option.some.inj this
  rw[ap];exact⟨gW s G.1 G.2.1 (by show O.units+1+s+1<bJ;lia) y B,λ_=>N lk (by show O.units+1+s+2<bJ;lia) y B⟩
end L2
namespace L2
open Spec PyProof.Rows PySem.W
variable{u:V}{Rf:List af}{E:List V}
theorem xo{Ry:Type}{o r:Ry->Bool}:∀{C:List Ry},(∀d∈C,o d=ab->r d=ab)->(∃d∈C,r d=ab/\o d=ax)->C.countP o<C.countP r
 |[],_,e=>by let⟨@d,a,Y⟩:=e;cases a
 |g::C,e,⟨d,a,k,l⟩=>by
  rw[nT,nT];have le:C.countP o<=C.countP r:=List.countP_mono_left λi b=>e i (.tail _ b);rcases b9.mp a with rfl|a
  ·rw[k,l];simp;omega
  ·have:=xo (λi b=>e i<|.tail _ b) ⟨d,a,k,l⟩;have c:=e g (.head _);cases f:o g<;>cases h:r g<;>rw[f,h]at c<;>simp at c ⊢<;>omega
structure m3(E:List V):Prop where
 gV:E.length<=1000
 iR:∀g∈E,∀f∈E,dF 6 g f=ab
structure uJ(E:List V):Prop where
 gV:E.length<=1000
 iR:∀g∈E,∀f∈E,dF 6 g f=ab
 ai:E.Nodup
def uJ.w{E:List V}(Y:uJ E):m3 E:=⟨Y.gV,Y.iR⟩
def nN(E:List V)(d:V):Nat:=(E.countP λu=>bh u d)
def FY(Y:m3 E){d i:V}(a:d∈E)(b:i∈E)(e:bh d i=ab):nN E d<nN E i:=
 xo (λf aN c=>t4 (Y.iR f aN d a) (Y.iR d a i b) c e) ⟨d,a,e,u7 d⟩
def CV(Y:m3 E){d i:V}(a:d∈E)(b:i∈E):decide ((nN E d:Int)<(nN E i:Int))=bh d i:=by
 cases c:bh d i with
 |true=>exact dj (by have:=FY Y a b c;lia)
 |false=>
  refine dv λf=>?_;by_cases e:d=i
  ·subst e;lia
  ·have B:=qz (Y.iR d a i b) e;rw[c]at B;have RF:bh i d=ab:=by cases r:bh i d<;>rw[r]at B<;>simp at B ⊢
   have:=FY Y b a RF;lia
def oU(E:List V)(a:Nat):Int:=(nN E (E.getD a .aW))
def sZ{a:Nat}(e:a<E.length):E.getD a .aW∈E:=by
 rw[cD,fj e];exact F8 e
def CN(Y:m3 E){o:Array Nat}(b:cT E.length o)(j:jW (oU E) o E.length):(o.toList.map λa=>E.getD a .aW).Pairwise (λg f=>bh f g=ax):=by
 rw[oF];intro a v U d m;have e:=b.size;have k:a<E.length:=by simpa [e] using U
 have h:v<E.length:=by simpa [e] using d
 have le:=j a v ⋯ h;have L:∀n (i:n<(o.toList.map λa=>E.getD a .aW).length),(o.toList.map λa=>E.getD a .aW)[n]=E.getD (o.getD n 0) .aW:=λn i=>by
  have l:n<o.size:=by simpa using i
  rw[E8,A0];simp[Array.getD,l]
 rw[L a U,L v d];rw[<-CV Y (sZ<|b.lt h) (sZ<|b.lt k)];refine dv ?_;have c:∀n,(nN E (E.getD (o.getD n 0) .aW):Int)=a7 (oU E) o n:=λ_=>rfl;rw[c a,c v];lia
theorem ue(d:V):∀C:List V,(j8 bh d C).Perm (d::C)
 |[]=>List.Perm.refl _
 |i::p=>by
  rw[j8];split
  ·exact List.Perm.refl _
  ·exact (List.Perm.cons i<|ue d p).trans (List.Perm.swap d i p)
theorem ju:∀C:List V,(gf bh C).Perm C
 |[]=>List.Perm.refl _
 |d::p=>(ue d _).trans (List.Perm.cons d<|ju p)
theorem Cu{d:V}:∀{C:List V},C.Pairwise (λg f=>bh g f=ab)->(∀i∈C,d≠i)->(∀g∈d::C,∀f∈d::C,dF 6 g f=ab)->(j8 bh d C).Pairwise (λg f=>bh g f=ab)
 |[],_,_,_=>e3 _ _
 |i::p,e,s,lk=>by
  have S:=jg.mp e;rw[j8];split
  ·rename_i c;refine jg.mpr ⟨λa aN=>?_,e⟩;rcases b9.mp aN with rfl|aN
   ·exact c
   ·exact t4 (lk d (.head _) i<|.tail _<|.head _) (lk i (.tail _<|.head _) a<|.tail _<|.tail _ aN) c (S.1 a aN)
  ·rename_i c;refine jg.mpr ⟨λa aN=>?_,Cu S.2 (λa aN=>s a<|.tail _ aN) λg b f h=>lk g ?_ f ?_⟩
   ·rcases b9.mp ((ue d p).mem_iff.mp aN) with rfl|aN
    ·have B:=qz (lk a (.head _) i<|.tail _<|.head _) (s i<|.head _);cases r:bh i a with
     |true=>rfl
     |false=>rw[r]at B;exact absurd B c
    ·exact S.1 a aN
   ·rcases b9.mp b with rfl|b
    ·exact .head _
    ·exact .tail _ (.tail _ b)
   ·rcases b9.mp h with rfl|h
    ·exact .head _
    ·exact .tail _ (.tail _ h)
theorem Df:∀{C:List V},C.Nodup->(∀g∈C,∀f∈C,dF 6 g f=ab)->(gf bh C).Pairwise (λg f=>bh g f=ab)
 |[],_,_=>.nil
 |d::p,ai,lk=>by
  have e:=e6.mp ai;refine Cu (Df e.2 λg a f b=>lk g (.tail _ a) f<|.tail _ b) (λi h c=>e.1 (by rw[c];exact (ju p).mem_iff.mp h)) λg a f b=>lk g ?_ f ?_
  ·rcases b9.mp a with rfl|a
   ·exact .head _
   ·exact .tail _ ((ju p).mem_iff.mp a)
  ·rcases b9.mp b with rfl|b
   ·exact .head _
   ·exact .tail _ ((ju p).mem_iff.mp b)
theorem Gi{d:V}:∀{C:List V},C.Pairwise (λg f=>bh f g=ax)->(∀g∈d::C,∀f∈d::C,dF 6 g f=ab)->(j8 bh d C).Pairwise (λg f=>bh f g=ax)
 |[],_,_=>e3 _ _
 |i::p,e,lk=>by
  have S:=jg.mp e;unfold j8;split
  ·rename_i c;refine jg.mpr ⟨λa aN=>?_,e⟩;cases r:bh a d with
   |false=>rfl
   |true=>
    have B:=t4 (lk a (.tail _ aN) d<|.head _) (lk d (.head _) i<|.tail _<|.head _) r c;rcases b9.mp aN with rfl|aN
    ·rw[u7]at B;cases B
    ·rw[S.1 a aN]at B;cases B
  ·rename_i c;refine jg.mpr ⟨λa aN=>?_,Gi S.2 λg b f h=>lk g ?_ f ?_⟩
   ·rcases b9.mp ((ue d p).mem_iff.mp aN) with rfl|aN
    ·cases r:bh a i with
     |false=>rfl
     |true=>exact absurd r c
    ·exact S.1 a aN
   ·rcases b9.mp b with rfl|b
    ·exact .head _
    ·exact .tail _ (.tail _ b)
   ·rcases b9.mp h with rfl|h
    ·exact .head _
    ·exact .tail _ (.tail _ h)
theorem wX:∀{C:List V},(∀g∈C,∀f∈C,dF 6 g f=ab)->(gf bh C).Pairwise (λg f=>bh f g=ax)
 |[],_=>.nil
 |d::p,lk=>by
  refine Gi (wX λg a f b=>lk g (.tail _ a) f<|.tail _ b) λg a f b=>lk g ?_ f ?_
  ·rcases b9.mp a with rfl|a
   ·exact .head _
   ·exact .tail _ ((ju p).mem_iff.mp a)
  ·rcases b9.mp b with rfl|b
   ·exact .head _
   ·exact .tail _ ((ju p).mem_iff.mp b)
def vX{C:List V}(Y:m3 E)(o:C.Perm E)(e:C.Pairwise (λg f=>bh f g=ax)):C=gf bh E:=by
 refine IT (λg f a b d i=>?_) e (wX Y.iR) (o.trans (ju E).symm);by_cases c:g=f
 ·exact c
 ·have B:=qz (Y.iR g (o.mem_iff.mp a) f<|(ju E).mem_iff.mp b) c;rw[d,i]at B;cases B
def ig:V->Bool
 |.tup (.int _::_)=>ab
 |.tup (.str _::_)=>ab
 |_=>ax
def rv:V->Bool
 |.tup (.int _::_)=>ab
 |_=>ax
def pV:V->Bool
 |.tup (.str _::_)=>ab
 |_=>ax
def l8:V->Bool
 |.tup (.tup _::_)=>ab
 |_=>ax
section
variable{Q_:bz}{D:bg}{O:bp}{Q7:af->aq->Prop}{m:aq}
theorem ze{f N:Bool}(s:Nat)(w:O.units+s+2<bJ){A:Bool->aq->Prop}:∀{E Q:List V}{ae t:List af}{a:Nat},fi s E Q=ab->N=decide (E.length<Q.length)->dr m.heap E ae->dr m.heap Q t->(f=ab->a=0->∃n p,E=n::p/\∀g,n≠.tup g)->A (fA E Q) m->KatLex Q_ D O f N A (ae.zip t) a m
 |[],Q,ae,t,a,_,b,k,l,_,r=>by
  rw[show ae=[] from k,b];exact kat_nil (by cases Q<;>exact r)
 |u::E,[],ae,t,a,_,b,k,l,_,r=>by
  rw[show t=[] from l,b,List.zip_nil_right];exact kat_nil r
 |u::E,c::Q,ae,t,a,e,z,k,l,F,r=>by
  rw[fi,cF]at e;let⟨q,@ae,rfl,j,G⟩:=k;let⟨I,@t,rfl,dp,dC⟩:=l;rw[List.zip_cons_cons];let@⟨H,RR,J⟩:=n6 e.1;refine kat_cons (gW s H RR ⋯ j dp Q_ D _ _ ?_);rw[J];rw[fA]at r;cases x:V.beq u c with
  |true=>
   rw[x,aB rfl]at r;exact kat_yes (ze s w e.2 (z.trans<|q7.mpr w9) G dC (λ_ y=>⋯) r)
  |false=>
   rw[x,aD c_]at r;refine kat_no ?_;by_cases b:(f&&a==0)=ab
   ·rw[b];rw[cF]at b;let⟨n,@p,y,L⟩:=F b.1 ⇑(b.2);cases y;rcases ny e.1 with C|⟨_,_,_,_,h,_⟩
    ·rcases C with ⟨M,v,h,o⟩|⟨d,i,h,o⟩
     ·cases h;cases o;let⟨@B,rfl⟩:=j;let⟨@RF,rfl⟩:=dp;rw[bh]at r;exact oneLt_int r
     ·cases h;cases o;let⟨@B,rfl⟩:=j;let⟨@RF,rfl⟩:=dp;rw[bh]at r;exact oneLt_str r
    ·exact absurd h (L _)
   ·rw[show (f&&a==0)=ax by simpa using b];exact kat_one _ _ (wc s e.1 w j dp Q_ D _ _ r)
def AV{f:Bool}(Y:m3 E)(h:dr m.heap E Rf)(l:∀u∈E,∃p,u=.tup p)(y:f=ab->∀u∈E,ig u=ab)(Q:O.units+9<bJ):
  fk Rf.length (oU E) (eQ Q_ D O (qh f)<|Rf.toArray.zip Rf.toArray) m:=by
 intro a v aP U z r;have R:=h.length;have b:=sZ (E:=E) (a:=a) ⋯;have c:=sZ (E:=E) (a:=v) ⋯;unfold oU at r;rw[CV Y b c]at r;let⟨@RO,n,A⟩:=h.get (v:=a) (q:=Rf[a]) ↥0;let⟨@RQ,o,B⟩:=h.get (v:=v) (q:=Rf[v]) ↥0;rw[cD,n,cD,o]at r;rw[cD,n]at b;rw[cD,o]at c;let⟨@g,C⟩:=l RO b;let⟨@j,F⟩:=l RQ c;subst C F;have lk:fi 5 g j=ab:=Y.iR _ b _ c;unfold eQ;rw[rU rfl,rU rfl,cD,cD,fj U,fj z];show wpAny _ _ (keyLt' (qh f) Rf[a] Rf[v]) _ _ _;let⟨d,S,x,@T,G,H,al,I,s⟩:=A;let⟨i,am,Rj,@an,J,RP,RJ,L,t⟩:=B;rw[G,J];refine kat_lt (b:=f) H I RP L ?_;have M:g.length=x.size:=by rw[s.length,fB]
 have N:j.length=Rj.size:=by rw[t.length,fB]
 refine ze 5 ⋯ lk (by rw[M,N]) s t (λP W=>?_) (by have w:aP (bh (.tup g)<|.tup j) m:=r;rw[bh]at w;exact w);have:=y P _ b;unfold ig at this;split at this
 ·rename_i e;cases e;exact⟨_,_,rfl,λg k=>nomatch k⟩
 ·rename_i e;cases e;exact⟨_,_,rfl,λg k=>nomatch k⟩
 ·cases this
theorem DD:∀{E:List V}{Rf:List af},dr m.heap E Rf->(∀u∈E,∃N p,u=.tup (N::p))->∃aa,KatTups m.heap Rf aa/\aa.length=Rf.length/\
  ((∀u∈E,rv u=ab)->∀q∈aa,∃a B,q=af.int a B)/\((∀u∈E,pV u=ab)->∀q∈aa,∃a B,q=af.str a B)/\((∀u∈E,l8 u=ab)->∀q∈aa,∃g j,q=af.ref g/\m.heap.get? g=Z j/\j.cls=.type "tuple")
 |[],Rf,e,_=>by
  rw[show Rf=[] from e];exact⟨[],trivial,rfl,(λ_ W e=>nomatch e),(λ_ W e=>nomatch e),(λ_ W e=>nomatch e)⟩
 |u::E,Rf,e,n=>by
  let⟨q,@p,rfl,k,l⟩:=e;let⟨@aa,t,v,w,x,y⟩:=DD l λd h=>n d (.tail _ h);let⟨N,@RS,rfl⟩:=n u (.head _);let⟨g,Y,Rm,@s,rfl,z,A,C,D⟩:=k;let⟨o,@J,c,i,L⟩:=D;have F:Rm[0]?=Z o:=by
   rw[<-gq,c];rfl
  refine⟨o::aa,KatTups.cons z A C F t,by simp[v],λf I b=>?_,λf I b=>?_,λf I b=>?_⟩
  ·rcases b9.mp b with rfl|b
   ·have:=f _ (.head _);unfold rv at this;split at this
    ·rename_i r;cases r;exact⟨_,i⟩
    ·cases this
   ·exact w (λd h=>f d<|.tail _ h) I b
  ·rcases b9.mp b with rfl|b
   ·have:=f _ (.head _);unfold pV at this;split at this
    ·rename_i r;cases r;exact⟨_,i⟩
    ·cases this
   ·exact x (λd h=>f d<|.tail _ h) I b
  ·rcases b9.mp b with rfl|b
   ·have:=f _ (.head _);unfold l8 at this;split at this
    ·rename_i r;cases r;let⟨G,M,W,@W,H,RP,RJ,W⟩:=i;exact⟨G,M,H,RP,RJ⟩
    ·cases this
   ·exact y (λd h=>f d<|.tail _ h) I b
def n2(e:ig u=ab):(rv u=ab\/pV u=ab)/\∃N p,u=.tup (N::p):=by
 unfold ig at e;split at e
 ·exact⟨.inl rfl,_,_,rfl⟩
 ·exact⟨.inr rfl,_,_,rfl⟩
 ·cases e
def zv(e:l8 u=ab):∃N p,u=.tup (N::p):=by
 unfold l8 at e;split at e
 ·exact⟨_,_,rfl⟩
 ·cases e
def PE{s:Nat}(h:∀d∈E,∀i∈E,dF s d i=ab)(e:∀u∈E,ig u=ab):(∀u∈E,rv u=ab)\/∀u∈E,pV u=ab:=by
 cases E with
 |nil=>exact .inl λu hd=>nomatch hd
 |cons d E=>
  have y:∀i∈d::E,∀{r:V->Bool},(r=rv\/r=pV)->r d=ab->r i=ab:=λi c {r} j a=>by
   have C:=h d (.head _) i c;have k:=(n2<|e i c).1;have g:=n2 (e d<|.head _);let⟨N,p,rfl⟩:=g.2;let⟨L,B,rfl⟩:=(n2<|e i c).2;cases s with
   |zero=>cases C
   |succ s=>
    rw[dF,fi,cF]at C;rcases j with rfl|rfl
    ·rcases ny C.1 with C|⟨_,_,_,_,b,_⟩
     ·rcases C with ⟨_,_,_,f⟩|⟨_,_,b,_⟩
      ·rw[f];rfl
      ·rw[b]at a;cases a
     ·rw[b]at a;cases a
    ·rcases ny C.1 with C|⟨_,_,_,_,b,_⟩
     ·rcases C with ⟨_,_,b,_⟩|⟨_,_,_,f⟩
      ·rw[b]at a;cases a
      ·rw[f];rfl
     ·rw[b]at a;cases a
  rcases (n2<|e d<|.head _).1 with z|z
  ·exact .inl λu hd=>y u hd (.inl rfl) z
  ·exact .inr λu hd=>y u hd (.inr rfl) z
end
section
variable{b:aK}
theorem bA.pick{j:aw}{Rj:List ah}(e:bA j E Rj):∀{o:List Nat},(∀n∈o,n<E.length)->bA j (o.map λa=>E.getD a .aW) (o.map λa=>Rj.getD a .aW)
 |[],_=>rfl
 |n::o,b=>by
  let⟨@q,c,d⟩:=e.get (a:=n) (u:=E.getD n .aW) (by
   have:=b n (.head _);rw[cD,fj this];rfl)
  refine⟨q,_,?_,d,e.pick λv f=>b v<|.tail _ f⟩;rw[bV,cD,c];rfl
structure nO(E:List V):Prop where
 ord:uJ E
 fst:(∀u∈E,ig u=ab)\/(∀u∈E,l8 u=ab)
structure nf(E:List V):Prop where
 ord:m3 E
 fst:(∀u∈E,ig u=ab)\/(∀u∈E,l8 u=ab)
def nO.w{E:List V}(Y:nO E):nf E:=⟨Y.ord.w,Y.fst⟩
def nf.tup(Y:nf E):∀u∈E,∃p,u=.tup p:=λu hd=>by
 rcases Y.fst with z|z
 ·let⟨N,p,c⟩:=(n2<|z u hd).2;exact⟨_,c⟩
 ·let⟨N,p,c⟩:=zv (z u hd);exact⟨_,c⟩
def dr.sP{e S:a4}(n:∀f Y,e.get? f=Z Y->S.get? f=Z Y){E:List V}{ae:List af}(d:dr e E ae):dr S E ae:=d.keep λg Y W W c W W=>n g Y c
def D8{e:a4}{m:aq}(Y:nf E)(l:2<=Rf.length)(i:dr m.heap E Rf)(O:bp)(Q7:af->aq->Prop)(A:fT->aq->Prop)(c:A (qh<|decide (∀u∈E,ig u=ab)) m):
  wpAny (aQ b.prog b.w) O (y2 Rf.toArray) A Q7 m:=by
 let⟨@aa,f,t,j,k,n⟩:=DD i (Y.fst.elim (λh u hd=>(n2<|h u hd).2) λh u hd=>zv<|h u hd);have v:=i.length;by_cases hf:∀u∈E,ig u=ab
 ·rw[dj hf]at c;rcases PE Y.ord.iR hf with hf|hf
  ·refine x_ (T:=af.type "int") f ⋯ (λq d=>?_) rfl ?_
   ·let⟨a,@B,rfl⟩:=j hf q d;exact uX rfl
   ·rw[show (af.type "int" != af.type "tuple")=ab by decide];exact c
  ·refine x_ (T:=af.type "str") f ⋯ (λq d=>?_) rfl ?_
   ·let⟨a,@B,rfl⟩:=k hf q d;exact uX rfl
   ·rw[show (af.type "str" != af.type "tuple")=ab by decide];exact c
 ·rw[dv hf]at c;have o:=Y.fst.resolve_left hf;refine x_ (T:=af.type "tuple") f ⋯ (λq d=>?_) rfl ?_
  ·let⟨g,@p,rfl,r,s⟩:=n o q d;have:Looks (aQ b.prog b.w) m.heap (lU<|.ref g) p.cls:=(Looks.ld r).andThen .now;rw[s]at this;exact this
  ·rw[show (af.type "tuple" != af.type "tuple")=ax by decide];exact c
def sj(z:b.calm=ab)(P:b.A.units+20<bJ):eA b (.builtin "sorted") (λx j A=>∃(g:ar) (E:List V) (Rj:List ah),x=[.ref g]/\(cW b.K j g Rj\/cj b.K j g Rj)/\bA j E Rj/\nf E/\
  ∀C RY,j C=X->bA j (gf bh E) RY->A (.ref C) (upd j C<|.lst RY)):=by
 intro G m w j x Rv A t p e;let⟨g,E,@Rj,rfl,h,U,Y,r⟩:=e;let⟨@I,rfl,B⟩:=iM p;cases B;have aN:Rj.length<=1000:=by rw[<-U.length];exact Y.ord.gV
 have go:∀{Rc:String}{Rf:List af}{s:Nat}{d:a6},(Rc = "list" \/ Rc = "tuple")->bN Rj Rf->m.heap.get? g=Z d->d.cls=.type Rc->d.data=.seq Rf.toArray s->wpAny (aQ b.prog b.w) b.A (call (.builtin "sorted") [.ref g]) (eb b G w A) b.cE m:=by
  intro Rc Rf s d F f c aH i;have q:=U.ea t.aZ f;have H:Rf.length=E.length:=q.length.symm;refine FN z (oU E) (qh<|decide (∀u∈E,ig u=ab)) t f F c aH i aN (λl v RN n O Q7 A J=>D8 (e:=v) Y l (q.sP n) O Q7 A J) (λv RN n=>?_) (.inl (by have:=Y.ord.gV;lia)) λo C k y aT=>?_
  ·refine AV (m:={m with heap:=v,toks:=RN}) Y.ord (q.sP n) Y.tup (λL=>?_) (by show b.A.units+1+1+9<bJ;lia);exact g9 L
  ·rw[H]at k y;have M:(o.toList.map λa=>E.getD a .aW)=gf bh E:=vX Y.ord (wt k) (CN Y.ord k y);refine r C _ aT ?_;rw[<-M];exact U.pick λn N=>iJ.mp (k.mem_iff.mp N)
 rcases h with h|h
 ·let⟨@Rf,f,o,W⟩:=t.list h;let⟨@d,c,aH,⟨@s,i⟩⟩:=o.isList;exact go (.inl rfl) f c aH i
 ·let⟨@Rf,f,o,W⟩:=t.tuple h;let⟨@d,c,aH,⟨@s,i⟩⟩:=o;exact go (.inr rfl) f c aH i
theorem DW{j:aw}:∀{Rd:List (List V×ah)}{Q:List (List V×ar×af)},d3 (λ(o:List V×ah) (r:List V×ar×af)=>o.1=r.1/\g6 j o.1 r.2.1/\bW o.2 r.2.2) Rd Q->
  bA j (Rd.map λo=>.tup o.1) (Q.map λd=>ah.ref d.2.1)/\bN (Q.map λd=>ah.ref d.2.1) (Q.map λd=>af.ref d.2.1)
 |_,_,.nil=>⟨rfl,.nil⟩
 |_,_,.cons p B=>by
  let@⟨k,l⟩:=DW B;exact⟨⟨_,_,rfl,p.2.1.2,k⟩,.cons rfl l⟩
def JM(bd:b.calm=ab)(cs:b.A.units+20<bJ):eA b (.builtin "sorted") (λx j A=>∃(u:ar) (Rd:List (List V×ah)),x=[.ref u]/\j u=Z (.aS Rd)/\nO (Rd.map λo=>.tup o.1)/\
  ∀C RY,j C=X->bA j (gf bh<|Rd.map λo=>.tup o.1) RY->A (.ref C) (upd j C<|.lst RY)):=by
 intro G m w j x Rv A t p e;let⟨u,@Rd,rfl,hd,g,r⟩:=e;let⟨@I,rfl,be⟩:=iM p;cases be;let@⟨z,M,⟨@Q,rel,⟨Y,bi,@RU,bm,bn,bs,bv,ai⟩⟩⟩:=t.aZ u _ hd;let@⟨U,s⟩:=DW rel;have T:ia m.heap u (Q.map λd=>af.ref d.2.1) RU:=⟨Y,bi,bm,bn,bs,by rw[bv,gj];rfl⟩;generalize (Q.map λd=>af.ref d.2.1)=Rf at s T;generalize (Q.map λd=>ah.ref d.2.1)=Rj at U s;generalize db:(Rd.map λo=>V.tup o.1)=E at U g r;have F:=U.ea t.aZ s;have al:Rf.length=E.length:=F.length.symm;have gV:=g.ord.gV;have ds:Rj.length=Rf.length:=s.length;have am:Rf.length<=sizeLine:=dD ⋯ (show 1000<=sizeLine by decide);refine DC kind_sorted D6 DZ (EY _) ?z
 case z=>
  unfold bq.«sorted»;refine ay (m:=checkCount "sorted" 1 1 _) (a3<|ay<|kdu_collect (A:=b.A.in1) (Mz M) (t.ok.hd bd) T am λS RN J L an=>?_);have ca:J.toList=Rf:=by
   apply Cb
   ·rw[fB];exact an.1
   ·intro a k l;have:=an.2 a J.toList[a] (by rw[<-gq];exact fj k);have this:Rf[a]?=Z J.toList[a]:=this;rw[fj l]at this;exact (Option.some.inj this).symm
  rw[ca];refine ay (xX ?_ am);have ap:(S.push<|fO "list" Rf.toArray 0).get? S.objs.size=Z (fO "list" Rf.toArray 0):=dc _ rfl;have b3:∀f Y,m.heap.get? f=Z Y->(S.push<|fO "list" Rf.toArray 0).get? f=Z Y:=λf Y c=>cp _ (L f Y c);have as:aF b G w j {m with heap:=S,toks:=RN}:=t.kept L;have a1:∀f Y,m.heap.get? f=Z Y->f≠S.objs.size:=λf Y c=>dg (b6<|L f Y c);refine ay (fL<|i1 Gz ⟨_,ap,rfl⟩ Eo ?i<|Gn _)
  case i=>
   refine EI (m:={m with heap:=S.push (fO "list" Rf.toArray 0),toks:=RN}) (oU E) (qh<|decide (∀u∈E,ig u=ab)) ap
    (λl N P A cd=>D8 (b:=b) (e:=N) g.w l (F.sP λf Y v=>P f Y (a1 f Y v)<|b3 f Y v) _ _ A cd)
    (λN P=>AV (m:={m with heap:=N,toks:=RN}) g.w.ord (F.sP λf Y v=>P f Y (a1 f Y v)<|b3 f Y v) g.w.tup (λce=>g9 ce) (by show b.A.units+1+1+9<bJ;lia))
    (.inl ⋯) ⋯ λo l h a2 RJ ⟨ch,ci⟩=>⟨_,rfl,a3 ⟨_,rfl,?_⟩⟩;have cl:j S.objs.size=X:=as.aZ.fresh (bD _);have co:∀f Y,S.get? f=Z Y->f≠S.objs.size:=λf Y c=>dg (b6 c);rw[al]at h a2;refine⟨.ref S.objs.size,upd j S.objs.size<|.lst<|o.toList.map λa=>Rj.getD a .aW,?_,rfl,r _ _ cl ?_⟩
   ·refine as.laid (RF:=RN) (λf I c=>RJ f I (co f I c)<|cp _ c) (bD _) ⟨?_,_,ch,?_,ci⟩
    ·rw[bH,fB,h.size];lia
    ·refine uf ↥0 λa q I k l=>?_;rw[gc]at k l;cases R:o.toList[a]? with
     |none=>rw[R]at k;cases k
     |some n=>
      rw[R]at k l;cases k;cases l;have y:n<Rf.length:=by rw[al];exact iJ.mp (h.mem_iff.mp<|oJ R)
      let⟨@I,B,cr⟩:=s.get (a:=n) (d:=Rj[n]'⋯) (by simp[show n<Rj.length by lia]);rw[fj y]at B;have B:=Option.some.inj B;simp only[List.getD,fj y,fj (show n<Rj.length by lia),vF];rw[B];exact cr
   ·rw[<-vX g.w.ord (wt h) (CN g.w.ord h a2)];exact U.pick λn y=>iJ.mp (h.mem_iff.mp y)
def wY(E:List V):Bool:=(decide (E.length<=1000)&&E.all (λg=>E.all λf=>dF 6 g f)&&decide E.Nodup&&(E.all ig || E.all l8))
def vl:wY E=ab↔nO E:=by
 unfold wY;rw[cF,cF,cF,yY,hb,hb,ho,ho,ho];constructor
 ·rintro⟨⟨⟨k,l⟩,a⟩,b⟩;exact⟨⟨k,λg c f d=>ho.mp (l g c) f d,a⟩,b⟩
 ·rintro⟨⟨k,l,a⟩,b⟩;exact⟨⟨⟨k,λg c=>ho.mpr λf d=>l g c f d⟩,a⟩,b⟩
def jQ(E:List V):Option ak:=(if wY E=ab then Z (.lst<|gf bh E) else X)
def nM:h_:=(λE=>match E with
 |[.lst d]=>match qE d with
  |some Rt=>u5 [.lst d]
  |none=>jQ d
 |[.im (.tup d)]=>jQ d
 |[.aS Rd]=>jQ (Rd.map λo=>.tup o.1)
 |_=>X)
def yy{u:ak}(e:jQ E=Z u):nO E/\u=.lst (gf bh E):=by
 unfold jQ at e;split at e
 ·rename_i c;cases e;exact⟨vl.mp c,rfl⟩
 ·cases e
theorem Bl{j:aw}:∀{Rd:List (List V×V)}{U:List (List V×ah)},d7 j Rd U->(Rd.map λo=>V.tup o.1)=U.map λo=>V.tup o.1
 |_,_,.nil=>rfl
 |_,_,.cons p B=>by rw[bV,bV,Bl B,p.1]
def Am(f:b.calm=ab)(g:b.A.units+20<bJ):g4 b (.builtin "sorted") nM:=by
 intro G m w j x Rv A t p n;let⟨E,@u,h,c,r⟩:=n;unfold nM at c;split at c
 ·rename_i d;split at c
  ·exact IC f g G m w j x Rv A t p ⟨_,u,h,c,r⟩
  ·let@⟨e,rfl⟩:=yy c;let⟨@q,rfl,⟨Y,o,@Rj,rfl,k,l,Y⟩⟩:=fH h;exact sj f g G m w j _ Rv A t p ⟨o,d,Rj,rfl,.inl<|cW.of k,l,e.w,λC RY aT aN=>b8.l r aT aN⟩
 ·rename_i d;let@⟨e,rfl⟩:=yy c;let⟨@q,rfl,s⟩:=fH h;let⟨o,@Rj,rfl,k,l⟩:=s.i;exact sj f g G m w j _ Rv A t p ⟨o,d,Rj,rfl,.inr<|cj.of k,l,e.w,λC RY aT aN=>b8.l r aT aN⟩
 ·rename_i Rd;let@⟨e,rfl⟩:=yy c;let⟨@q,rfl,⟨Y,o,@U,rfl,k,l,Y⟩⟩:=fH h;rw[Bl l]at e r;exact JM f g G m w j _ Rv A t p ⟨o,U,rfl,k,e,λC RY aT aN=>b8.l r aT aN⟩
 ·cases c
def rh(E:List V):Bool:=(decide (E.length<=1000)&&E.all (λg=>E.all λf=>dF 6 g f)&&(E.all ig || E.all l8))
def yd:rh E=ab↔nf E:=by
 unfold rh;rw[cF,cF,yY,hb,ho,ho,ho];constructor
 ·rintro⟨⟨k,l⟩,a⟩;exact⟨⟨k,λg b f c=>ho.mp (l g b) f c⟩,a⟩
 ·rintro⟨⟨k,l⟩,a⟩;exact⟨⟨k,λg b=>ho.mpr λf c=>l g b f c⟩,a⟩
def nU:h_:=(λE=>match E with
 |[.im (.tup d)]=>if rh d=ab then Z (.lst<|gf bh d) else X
 |[.lst d]=>if rh d=ab then Z (.lst<|gf bh d) else X
 |_=>X)
def Hq(f:b.calm=ab)(g:b.A.units+20<bJ):g4 b (.builtin "sorted") nU:=by
 intro G m w j x Rv A t p n;let⟨E,@u,h,c,r⟩:=n;unfold nU at c;split at c
 ·rename_i d;split at c
  ·rename_i e;cases c;let⟨@q,rfl,s⟩:=fH h;let⟨o,@Rj,rfl,k,l⟩:=s.i;exact sj f g G m w j _ Rv A t p ⟨o,d,Rj,rfl,.inr<|cj.of k,l,yd.mp e,λC RY aT aN=>b8.l r aT aN⟩
  ·cases c
 ·rename_i d;split at c
  ·rename_i e;cases c;let⟨@q,rfl,⟨Y,o,@Rj,rfl,k,l,Y⟩⟩:=fH h;exact sj f g G m w j _ Rv A t p ⟨o,d,Rj,rfl,.inl<|cW.of k,l,yd.mp e,λC RY aT aN=>b8.l r aT aN⟩
  ·cases c
 ·cases c
end
end L2
namespace L2
open Spec PyProof.Rows
def uR:fG:=(λg f=>match g,f with
 |.im d,.im i=>if dF 6 d i=ab then Z (.im<|.aG<|bh d i) else X
 |_,_=>X)
section
variable{b:aK}
def OH(n:b.A.units+20<bJ):e7 b (ez .Lt) uR:=by
 intro G m w j d i q I A t e f g;let⟨RO,RQ,@u,h,k,c,r⟩:=g;unfold uR at c;split at c
 ·split at c
  ·rename_i l;cases c;exact wc 6 l ⋯ (h.i.ea t.aZ e) (k.i.ea t.aZ f) b.prog b.w _ _ ⟨.aG _,j,t,rfl,b8.i r rfl⟩
  ·cases c
 ·cases c
end
end L2
namespace PySem
open PySem.Sem (wp)
def Kc:pZ (.type "list") "keys" = pure X:=by rw[y4,xT];kernel_rfl
def GF{Q_:bz}{D:bg}{O:bp}{Q7:af->aq->Prop}{m:aq}{g:ar}{x:Array af}{n:Nat}{A:Option af->aq->Prop}(a:m.heap.get? g=Z {cls:=.type "list",data:=.seq x n})(i:O.handled=X)(e:∀S RN,(∀f Y,m.heap.get? f=Z Y->S.get? f=Z Y)->A X {m with heap:=S,toks:=RN}):wpAny (aQ Q_ D) O (getAttr? (.ref g) "keys") A Q7 m:=by
 let⟨j,L,u,RN,Rq⟩:=m;have b:∀d,(⟨j,L,u,d,Rq⟩:aq).TypeIs (.ref g) "list" := λ_=>⟨_,a,rfl⟩;have p:=sub_AttributeError;have q:=yu.lookup;have r:=yu.bind (.ref g);have s:=am_list_getattr_none;unfold getAttr? getAttrBy? getAttrBy;repeat (any_goals (first|assumption|exact b _|((with_reducible show wpAny _ _ (call (af.builtin "list.__getattribute__") _ _) _ _ _);refine lO yu (b _) am_entry_list_getattribute (F.args_list_getattribute_2 _ _) (meets_getattribute_miss_list g x n _ "keys" _ Kc (by decide +kernel) ∅) ⟨a,i,λS d c h=>?_⟩)|wp_step))
 let⟨RF,@t,k⟩:=h.there;show wpAny _ _ (zW _ _ _ _ _ _ _) _ _ _;unfold zW;have l:∀o,(⟨S,L,u,o,Rq⟩:aq).TypeIs (.ref c) "AttributeError" := λ_=>⟨_,k,rfl⟩;repeat (any_goals (first|assumption|exact l _|wp_step))
 exact e S _ h.keeps
end PySem
namespace PySem
namespace F
def Cd:wB table "dict.update.loop" = Z bq.«dict.update.loop»:=entryFor_of_tree (by kernel_rfl)
def uw:plainId "dict.update.loop" = ab:=by decide +kernel
end F
end PySem
namespace L2
open Spec PyProof.Rows PySem.W
variable{s:Nat}{Q:List a8}{Rm:Array af}{B:ar}{I q:af}{O:bp}{m:aq}{Rl:Pos}{n:a8}
theorem vH{Ry RZ:Type}{P:Ry->RZ->Prop}:∀{b:List Ry}{c:List RZ},d3 P b c->∀(a:Nat),a<b.length->∃g f,b[a]?=Z g/\c[a]?=Z f/\P g f
 |_,_,.nil,a,e=>by simp at e
 |_,_,.cons p B,0,e=>⟨_,_,rfl,rfl,p⟩
 |_,_,.cons p B,a+1,e=>by
  let⟨g,@f,d,i,h⟩:=vH B a ⇑e;exact⟨g,f,by simpa using d,by simpa using i,h⟩
def kv:List V->Option (List<|List V×V)
 |[]=>Z []
 |.tup [.tup n,u]::p=>(kv p).map λm=>(n,u)::m
 |_=>X
def KX:∀{d:List V}{Rg:List (List V×V)},kv d=Z Rg->d=Rg.map λo=>.tup [.tup o.1,o.2]:=by
 intro d;induction d with
 |nil=>intro Rg e;cases e;rfl
 |cons g d a=>
  intro Rg e;unfold kv at e;split at e
  ·cases e;rename_i c;cases c
  ·rename_i n u p c;cases c;let⟨@m,b,f⟩:=cw.mp e;cases f;rw[bV,<-a b]
  ·cases e
def gp(Rg:List (List V×V)):List (List V×V):=(Rg.foldl (λg o=>fq g o.1 o.2) [])
def xE(j:aw)(q:ah)(o:List V×V):Prop:=(∃B g i,q=.ref B/\j B=Z (.tup [.ref g,i])/\g6 j o.1 g/\cg j o.2 i)
theorem Dx{j:aw}:∀{Rg:List (List V×V)}{Rj:List ah},(∀o∈Rg,V.keys 7 o.1=ab)->bA j (Rg.map λo=>.tup [.tup o.1,o.2]) Rj->d3 (xE j) Rj Rg
 |[],Rj,_,e=>by rw[show Rj=[] from e];exact .nil
 |o::Rg,Rj,a,e=>by
  let⟨q,@p,rfl,⟨B,@RY,rfl,k,⟨v1,@s,rfl,l,⟨b,@c,rfl,d,f⟩⟩⟩,h⟩:=e;cases (show c=[] from f);let⟨g,@t,rfl,i,m⟩:=l;exact .cons ⟨B,g,b,rfl,k,⟨a o<|.head _,g,t,rfl,i,m⟩,d⟩ (Dx (λr n=>a r<|.tail _ n) h)
section
variable{b:aK}{G:List (ar×a6)}{w:L2.aX}{j:aw}{L:aq}
def fh.is{Rd:List (List V×ah)}{x:List (List V×ar×af)}(p:fh j Rd x):∀d∈x,g6 j d.1 d.2.1:=by
 intro d b;let⟨a,U,rfl⟩:=w6.mp b;let⟨o,@r,k,l,c,e,Y⟩:=vH p a (by rw[d3.length p];exact U);rw[fj U]at l;have l:=Option.some.inj l;subst l;rw[<-c];exact e
def wD(a:aF b G w j L){y:ar}{e S:a4}{Rd:List (List V×ah)}{x:List (List V×ar×af)}(c:e.DictOfH (hO b.prog b.w) y x)(M:fh j Rd x)(dG:∀f Y,L.heap.get? f=Z Y->S.get? f=Z Y)(g:∀Y,e.get? y=Z Y->S.get? y=Z Y):S.DictOfH (hO b.prog b.w) y x:=by
 let⟨Y,Q,@RU,k,l,h,i,W,m⟩:=c;have n:aF b G w j {L with heap:=S}:=a.kept (RF:=L.toks) dG;exact⟨Y,Q,RU,g Y k,l,h,i,λd o=>lR (e:=S) n.aZ<|M.is d o,m⟩
def L6(t:aF b G w j L){O:bp}(be:O.units+20<bJ){y eM C:ar}{ae:List af}{Rj:List ah}{Rg:List (List V×V)}{aX:Nat->a4->Prop}{Q8:qj->aq->Prop}(u:bN Rj ae)(al:d3 (xE j) Rj Rg)(aN:Rg.length<=1000)(W:mK b.prog b.w O.in1 eM [eM,C] [eM] ae.length (λa q=>ae[a]?=Z q) aX)(bi:L.heap.get? y=X)(v:L.heap.get? eM=X)(z:y≠eM)(bm:y≠C)(fin:∀(m:aq) (x:List (List V×ar×af)) (Rd:List (List V×ah)),(∀f Y,L.heap.get? f=Z Y->m.heap.get? f=Z Y)->m.heap.DictOfH (hO b.prog b.w) y x->fh j Rd x->d7 j (gp Rg) Rd->Rd.length<=1000->
   m.gens=L.gens->m.drawn=L.drawn->m.os=L.os->Q8 (.ok<|.ret .none) m):
  ∀(H a:Nat) (B:hU) (m:aq) (x:List (List V×ar×af)) (Rd:List (List V×ah)),ae.length-a=H->a<=ae.length->aX a m.heap->(∀f Y,L.heap.get? f=Z Y->m.heap.get? f=Z Y)->
   m.heap.DictOfH (hO b.prog b.w) y x->fh j Rd x->d7 j (gp<|Rg.take a) Rd->Rd.length<=a->m.gens=L.gens->m.drawn=L.drawn->m.os=L.os->
   codeAny (aQ b.prog b.w) O (.builtin "dict.update.loop" ⟨[.ref y,.ref eM,.int a B,.none],[]⟩) Q8 m:=by
 have f1:ae.length=Rg.length:=by rw[<-u.length,d3.length al]
 intro H;induction H with
 |zero=>
  intro a B m x Rd bn U J dG A M r bs E N Q;have bv:a=ae.length:=⋯
  refine jS F.Cd ?_;rw[km F.uw _];refine ay (m:=hc (.ref eM)) (W.done m _ _ (bv ▸ J) λS RN keep=>?_);refine ay (m:=bq.Dict.addKeywords y []) (a3<|a3 ?_);have l:∀f Y,f≠eM->m.heap.get? f=Z Y->S.get? f=Z Y:=λf Y k c=>keep f Y ⇑k c;refine fin _ x Rd (λf Y c=>l f Y (λd=>by rw[d,v]at c;cases c)<|dG f Y c) ?_ M (by rw[pL ⋯]at r;exact r) ⋯ E N Q;exact wD t A M (λf Y c=>l f Y (λd=>by rw[d,v]at c;cases c)<|dG f Y c) λY c=>l y Y z c
 |succ H ca=>
  intro a B m x Rd bn U J dG A M r bs E N Q;have lt:a<ae.length:=⋯
  refine jS F.Cd ?_;rw[km F.uw _];refine ay (m:=hc (.ref eM)) (W.item a m _ _ lt J λq S RN cd ce keep=>?_);have l:∀f Y,f≠eM->m.heap.get? f=Z Y->S.get? f=Z Y:=λf Y k c=>keep f Y ⇑k c;let⟨i,@h,ch,ci,⟨o,g,@am,rfl,cl,an,co⟩⟩:=vH al a (by rw[u.length];exact lt);let⟨@I,ap,cr⟩:=u.get ch;rw[cd]at ap;cases ap;cases cr;have R:∀f Y,L.heap.get? f=Z Y->S.get? f=Z Y:=λf Y c=>l f Y (λd=>by rw[d,v]at c;cases c) (dG f Y c);have as:aF b G w j {L with heap:=S}:=t.kept (RF:=L.toks) R;have cs:=wD t A M R λY c=>l y Y z c;let@⟨_,⟨@Rf,db,⟨@Y,a1,ds,⟨@s,dL⟩⟩⟩⟩:=as.aZ _ _ cl;let⟨cY,@T,rfl,eq,ev⟩:=ra db;cases eq;show wpAny (aQ b.prog b.w) O.in1 (holding [.ref o] _ >>= λ_=>again _) _ _ _;refine ay (fL<|ay<|p4 ?_);unfold bq.Dict.pairItems;refine ay (wpAny_typeOf (s:={m with heap:=S,toks:=RN}) (⟨Y,a1,(Prod.mk.inj ds).1⟩:aq.TypeIs {m with heap:=S,toks:=RN} (.ref o) "tuple") ?_);rw[aB ∅];refine ay (h3 (s:={m with heap:=S,toks:=RN}) a1 dL<|a3 ?_);show wpAny (aQ b.prog b.w) O.in1 (holding [.ref g,T]<|dictSet y (.ref g) T) _ _ _;refine fL (Fg (s:={m with heap:=S,toks:=RN}) (k:=h.1) (knd:=hO b.prog b.w) (p0 be) (lR (e:=S) as.aZ an) cs (λex fd cy=>?_) (by
   have:=d3.length M;exact dD (show x.length<=1000 by lia) ∅))
  have a2:∀f Y,f≠y->S.get? f=Z Y->ex.get? f=Z Y:=λf Y k c=>(cy.2 f k).trans c;have fn:=M.put h.1 (f:=g) (i:=am) (I:=T) an ev;have fr:Rg.take (a+1)=Rg.take a++[h]:=by
   have bd:=(fR.mp ci);rw[List.take_succ_eq_append_getElem bd.1,bd.2]
  have f0:d7 j (gp<|Rg.take<|a+1) (fe Rd h.1 am):=by
   rw[fr];unfold gp;rw[List.foldl_append];exact d7.put co r
  refine a3 ⟨jl F.uw _,ca (a+1) 0 _ _ _ ⋯ lt (W.frame _ _ _ ce λf k Y c=>a2 f Y (λd=>by
    subst d;rcases b9.mp k with d|k
    ·exact z d
    ·exact bm (cV.mp k)) c) (λf Y c=>a2 f Y (λd=>by rw[d,bi]at c;cases c)<|R f Y c) fd fn f0 ?_ E N Q⟩
  unfold fe;split
  ·rw[bH];lia
  ·simp;lia
def MF(n:b.calm=ab)(cd:b.A.units+30<bJ):eA b (.type "dict") (λx j A=>∃(C:ar) (Rj:List ah) (Rg:List (List V×V)),x=[.ref C]/\j C=Z (.lst Rj)/\d3 (xE j) Rj Rg/\Rg.length<=1000/\
  ∀(u:ar) (Rd:List (List V×ah)),j u=X->d7 j (gp Rg) Rd->A (.ref u) (upd j u<|.aS Rd)):=by
 intro G m w j x Rv A t p e;let⟨C,Rj,@Rg,rfl,L,M,aN,r⟩:=e;let⟨@I,rfl,N⟩:=iM p;cases N;let@⟨z,⟨Rf,@s,R,c⟩⟩:=t.aZ C _ L;have o:C<m.heap.objs.size:=b6 c;refine AG (Q₁:=λv B=>v=.ref m.heap.objs.size/\B={m with heap:=m.heap.push {cls:=.type "dict",data:=.dict #[]} }) PySem.F.kt_called_dict (PySem.F.kt_typeCall_dict_1 _) PySem.F.entry_dict_init (kt_code_dict_new _ ⟨rfl,rfl⟩) ?_;rintro v B ⟨rfl,rfl⟩;have U:(m.heap.push {cls:=.type "dict",data:=.dict #[]}).DictOfH (hO b.prog b.w) m.heap.objs.size []:=a4.DictOfH.new m.heap;have E:aq.TypeIs {m with heap:=m.heap.push {cls:=.type "dict",data:=.dict #[]} } (.ref m.heap.objs.size) "dict" := ⟨_,dc _ rfl,rfl⟩;have f7:(m.heap.push {cls:=.type "dict",data:=.dict #[]}).get? C=Z {cls:=.type "list",data:=.seq Rf.toArray s}:=cp _ c;refine⟨E,PySem.F.args_dict_init_2 _ _,?_⟩;unfold bq.«dict.__init__»;refine ay ?_;unfold bq.Dict.selfAndRest;refine ay (Dk E ?_);show wpAny _ _ (pure (m.heap.objs.size,[af.ref C])) _ _ _;refine a3 ?_;show wpAny _ _ (bq.Dict.updateFrom "dict.__init__" m.heap.objs.size (.ref C) [] .none) _ _ _;unfold bq.Dict.updateFrom;refine ay (wpAny_typeOf (⟨_,f7,rfl⟩:aq.TypeIs {m with heap:=m.heap.push {cls:=.type "dict",data:=.dict #[]} } (.ref C) "list") ?_);rw[aB ∅];refine ay (GF (m:={m with heap:=m.heap.push {cls:=.type "dict",data:=.dict #[]} }) f7 (t.ok.hd n) λk RN RP=>?_);rw[aB (show (X:Option af).isNone=ab from rfl)];refine ay (m:=rule _) (ir ?_);have J:k.IsList C Rf.toArray:=⟨_,RP _ _ f7,rfl,s,rfl⟩;refine ay (uq (s:={m with heap:=k,toks:=RN}) J ?_);have d:m.heap.objs.size<k.objs.size:=b6 (RP _ _<|dc _ rfl);have dG:∀f Y,m.heap.get? f=Z Y->(k.push {cls:=.type "list_iterator",data:=.fields #[.ref C,.int 0 0]}).get? f=Z Y:=λf Y g=>cp _ (RP f Y<|cp _ g);refine a3 ⟨jl PySem.F.uw _,?_⟩;have al:(k.push {cls:=.type "list_iterator",data:=.fields #[.ref C,.int 0 0]}).DictOfH (hO b.prog b.w) m.heap.objs.size []:=wD t (Rd:=[]) U .nil dG λY kO=>cp _ (RP _ _ kO);have am:C≠k.objs.size:=dg (zL o d);refine L6 t (O:=b.A.in1) (by show b.A.units+1+20<bJ;lia) (y:=m.heap.objs.size) (eM:=k.objs.size) (C:=C) (aX:=λa e=>e.IsListIter k.objs.size C a/\e.IsList C Rf.toArray) R M aN ?_ (vt<|bD _) (vt<|rk d) (dg d) (kQ o)
  (λT x Rd an ap as a1 ch h i l=>?_) Rf.length 0 0 _ [] [] rfl (hY _) ?_ dG al .nil .nil (bD _) rfl rfl rfl
 ·have W:=mK.list (prog:=b.prog) (w:=b.w) (A:=b.A.in1.in1) (t.ok.hd n) k.objs.size C am Rf.toArray;have a2:(λ(a:Nat) (q:af)=>Rf.toArray[a]?=Z q)=λa q=>Rf[a]?=Z q:=by
   funext a q;rw[CD]
  rw[a2,cH]at W;exact W
 ·let⟨S,bd,be,RF,bi⟩:=T;have h:bd=m.gens:=h;have i:be=m.drawn:=i;have l:bi=m.os:=l;subst h i l;have xU:j m.heap.objs.size=X:=t.aZ.fresh (bD _);let⟨Y,Q,@RU,bm,bn,bs,bv,P,ca⟩:=ap;refine⟨rfl,.ref m.heap.objs.size,_,t.laid (Y:=.aS Rd) (S:=S) (RF:=RF) an (bD _) ⟨dD (show Rd.length<=1000 by lia) ∅,wL.mpr<|eu<|dg t.big,x,as.keeps λf Rj g=>FU g xU,Y,Q,RU,bm,bn,bs,bv,ca⟩,rfl,r _ Rd xU a1⟩
 ·exact⟨⟨_,dc _ rfl,rfl,rfl⟩,J.push _⟩
@[simp] def kV:h_:=λE=>match E with
 |[.lst d]=>(kv d).bind λRg=>if (Rg.all λo=>V.keys 7 o.1)=ab/\Rg.length<=1000 then Z (.aS<|gp Rg) else X
 |_=>X
def wo(f:b.calm=ab)(h:b.A.units+30<bJ):g4 b (.type "dict") kV:=by
 refine (MF f h).imp λx j A i=>?_;let⟨E,@u,n,c,r⟩:=i;unfold kV at c;split at c
 ·rename_i d;let⟨@Rg,p,a⟩:=bB.mp c;split at a
  ·rename_i e;cases a;let⟨@q,rfl,⟨Y,o,@Rj,rfl,k,l,Y⟩⟩:=fH n;rw[KX p]at l;refine⟨o,Rj,Rg,rfl,k,Dx (λr s=>ho.mp e.1 r s) l,e.2,λu Rd hd t=>?_⟩;have m:cO j (upd j u<|.aS Rd):=(cO.refl j).upd hd;exact r _ _ [u] m ⟨u,Rd,rfl,ec,t.mono m.tupS.tup,rfl⟩ (e3 _ _) λg v=>by rw[cV.mp v];exact hd
  ·cases a
 ·cases c
end
section
variable{b:aK}
def Ma(RN k:bP):bP:=(λw j A=>∀o,j o=X->RN w (upd j o<|.aS []) λd Rb=>k w Rb λi Ro=>∃f n,d=.ref f/\g6 Ro n f/\Ro o=Z (.aS [])/\A (.ref o) (upd Ro o<|.aS [(n,i)]))
variable{q:a8}
def L_{RN k:bP}(as:b.A.units+20<bJ)(y:bx b n RN)(z:bx b q k):bx b (.Dict [Z n] [q] Rl) (Ma RN k):=by
 intro G m w j A t r;have B:=t.aZ.fresh (bD m.heap.objs.size);have C:=t.laid (g:=m.heap.objs.size) (Y:=.aS []) (S:=m.heap.push {cls:=.type "dict",data:=.dict #[]}) (RF:=m.toks) (λ_ W r=>cp _ r) (bD _) (DX m.heap t.big);refine wpAny_Dict_any rfl rfl ↥0 ↥0 ?_;refine pairTrees_cons_walk (bK (y G _ w _ _ C<|r _ B) λI F ⟨d,Rb,H,J,L⟩=>bK (z G F w Rb _ H L) λa1 N ⟨i,Ro,a,P,f,h,E,e,c,R⟩=>pairTrees_nil_walk ?_);subst E;cases J;let@⟨o,T,⟨@x,M,U⟩⟩:=Af a.aZ c;cases M;unfold storeAll;rw[sy];refine ay (ay (Fg (k:=h) (knd:=hO b.prog b.w) (show b.A.units+10<bJ by lia) (lR a.aZ e) U (λS al cy=>a3 ?_)<|hY _));refine a3 ⟨.ref m.heap.objs.size,_,?_,rfl,R⟩;let⟨s,Q,@RU,u,l,am,an,W,ap⟩:=al;refine yb (m:=N) a (by rw[c];exact True.intro) cy ⟨s,u⟩ ⟨(show 1<=sizeLine by decide),T,_,fh.keeps (fh.put (Rd:=[]) (x:=[]) .nil h (f:=f) e P) λa2 Rj v=>?_,s,Q,RU,u,l,am,an,ap⟩;rw[cR (CU v c<|λo=>nomatch o)];exact v
@[simp] def BF(a b:az ak):az ak:=λy=>(a y).bind λo=>(b o.2).bind λr=>match o.1,r.1 with
 |.im (.tup n),.im u=>if V.keys 7 n=ab then Z (.aS [(n,u)],r.2) else X
 |_,_=>X
def NM{E F:az ak}(Q:b.A.units+20<bJ)(R:cf b n E)(T:cf b q F):cf b (.Dict [Z n] [q] Rl) (BF E F):=by
 refine dX (L_ Q R T) λw j A ⟨y,P,p,Rw,J,ai,U,r⟩ o u=>?_;let⟨@⟨RO,z⟩,k,l⟩:=bB.mp U;let⟨@⟨RQ,RA⟩,al,s⟩:=bB.mp l;have m:cO j (L2.upd j o<|.aS []):=(cO.refl j).upd u;have G:o∉P:=λa=>by let⟨@Y,c,W⟩:=J.chg o a;rw[u]at c;cases c
 refine⟨y,P,RO,z,J.mono m.tupS λg W Y c=>m g Y c,ai,k,λd Rb Rr be am Rz v=>?_⟩;have an:=c7.mp v.ai;refine⟨z,Rr,RQ,RA,am,an.1,al,λi Ro RB bI ap RM t=>?_⟩;dsimp only at s;split at s
 ·rename_i B bi;split at s
  ·rename_i as;cases s;let@⟨cY,rfl⟩:=Rz;let@⟨a1,rfl⟩:=RM;rw[b5]at v t;have C:=v.seq t;have H:Rb o=Z (.aS []):=v.keep o _ ec G;have L:o∉Rr:=λa=>by
    rcases v.sub o a with e|e
    ·exact G e
    ·rw[ec]at e;cases e
   have D:Ro o=Z (.aS []):=t.keep o _ H L;have N:o∉RB:=λa=>by
    rcases t.sub o a with e|e
    ·exact L e
    ·rw[H]at e;cases e
   let⟨f,@x,rfl,RP,RJ⟩:=(show cg Ro (.tup B) d from cY.mono t.tup.tup);refine⟨f,B,rfl,⟨as,f,x,rfl,RP,RJ⟩,D,?_⟩;have iI:e4 Ro (L2.upd Ro o<|.aS [(B,i)]):=e4.of (λg x c=>by
    have:g≠o:=λa=>by subst a;rw[D]at c;cases c
    rw[cR this];exact c) λg Y I c=>by
    have:g≠o:=λa=>by subst a;rw[D]at c;cases c
    rw[cR this];exact c
   refine r _ _ RB [o] (ap.mono iI λg h Y c=>by
    have ne:g≠o:=λa=>by subst a;exact N h
    rw[cR ne];exact c) ⟨o,[(B,i)],rfl,ec,.cons ⟨rfl,a1.mono iI.tup⟩ .nil,rfl⟩ ?_
   refine⟨λg Y c h=>?_,λg h=>?_,?_,?_,λg Y c=>?_⟩
   ·have:g≠o:=λa=>by subst a;rw[u]at c;cases c
    rw[cR this];exact C.keep g Y (by rw[cR this];exact c) h
   ·rcases dY.mp h with e|e
    ·rcases C.sub g e with S|S
     ·exact .inl S
     ·by_cases c:g=o
      ·exact .inr (c ▸ u)
      ·rw[cR c]at S;exact .inr S
    ·exact .inr (by rw[cV.mp e];exact u)
   ·exact c7.mpr ⟨t.ai,e3 _ _,λg h f a2 c=>N (by rw[cV.mp a2]at c;rw[<-c];exact h)⟩
   ·exact (m.tupS.trans C.tup).trans iI
   ·by_cases a:g=o
    ·exact⟨_,by rw[a];exact ec⟩
    ·let⟨@M,bd⟩:=C.grow g Y (by rw[cR a];exact c);exact⟨M,by rw[cR a];exact bd⟩
  ·cases s
 ·cases s
end
def Ks:String->bq:=((⟨_,rfl⟩:{N:String->bq // N "max" = bq.«max» }).1)
def N_:String->ko->bq:=((⟨_,rfl⟩:{N:String->ko->bq // N "max" .Gt=bq.«max.loop» }).1)
section
variable{Q_:bz}{D:bg}{O:bp}{Q7:af->aq->Prop}{m:aq}
def A7{t aV:String}{RL:ko}(o:(toString t++toString ".loop" : String)=aV)(Q:builtinKind t=X)(R:plainId t=ab)(U:wB table t=Z (Ks t))(al:∀g f:af,argsOk t ⟨[g,f],[]⟩)(a:plainId aV=ab)(r:wB table aV=Z (N_ t RL)){g f:af}{n:Bool}{A:af->aq->Prop}(am:O.handled=X)(an:∀T:aq,(∀h Y,m.heap.get? h=Z Y->T.heap.get? h=Z Y)->∀(A:af->aq->Prop) (Q7:af->aq->Prop),A (.bool n) T->wpAny (aQ Q_ D) O.in1 (mS RL f g) A Q7 T)(e:∀S RN,(∀h Y,m.heap.get? h=Z Y->S.get? h=Z Y)->A (if n=ab then f else g) {m with heap:=S,toks:=RN}):wpAny (aQ Q_ D) O (call (.builtin t) [g,f]) A Q7 m:=by
 refine call_function_tree Q R U (al _ _) ?_;show wpAny _ O.in1 (bq.Builtins.bindParams t ["key","default"] 0 ⟨[],[]⟩ >>= _) _ _ m;refine ay (tG (show bq.Builtins.bindParams t ["key","default"] 0 ⟨[],[]⟩=pure [X,X] from rfl) ?_);show wpAny _ O.in1 (yJ [g,f] >>= _) _ _ m;refine ay (hs ?_);have y:(m.heap.push {cls:=.type "tuple",data:=.seq #[g,f]}).IsTuple m.heap.objs.size #[g,f]:=⟨_,dc _ rfl,rfl,0,rfl⟩;refine ay (wpAny_pyIter_tuple y<|ay<|hs ?_);have p:(m.heap.push {cls:=.type "tuple",data:=.seq #[g,f]}).objs.size=m.heap.objs.size+1:=lh ..;have W:=mK.tuple (prog:=Q_) (w:=D) (A:=O.in1) am (m.heap.push {cls:=.type "tuple",data:=.seq #[g,f]}).objs.size m.heap.objs.size (by rw[p];exact dg (tM _)) #[g,f];rw[o];refine a3 ⟨jl a _,?_⟩;have d5:((m.heap.push {cls:=.type "tuple",data:=.seq #[g,f]}).push {cls:=.type "tuple_iterator",data:=.fields #[.ref m.heap.objs.size,.int 0 0]}).IsTupleIter (m.heap.push {cls:=.type "tuple",data:=.seq #[g,f]}).objs.size m.heap.objs.size 0:=⟨_,dc _ rfl,rfl,rfl⟩;have z:=y.push {cls:=.type "tuple_iterator",data:=.fields #[.ref m.heap.objs.size,.int 0 0]};have s:((m.heap.push {cls:=.type "tuple",data:=.seq #[g,f]}).push {cls:=.type "tuple_iterator",data:=.fields #[.ref m.heap.objs.size,.int 0 0]}).objs.size=m.heap.objs.size+2:=by rw[lh,p]
 have dG:∀h Y,m.heap.get? h=Z Y->((m.heap.push {cls:=.type "tuple",data:=.seq #[g,f]}).push {cls:=.type "tuple_iterator",data:=.fields #[.ref m.heap.objs.size,.int 0 0]}).get? h=Z Y:=λh Y c=>cp _ (cp _ c);rw[p]at W d5;rw[p,s];generalize bs:((m.heap.push {cls:=.type "tuple",data:=.seq #[g,f]}).push {cls:=.type "tuple_iterator",data:=.fields #[.ref m.heap.objs.size,.int 0 0]})=g2 at d5 z s dG ⊢;have B:(g2.push {cls:=.type "list",data:=.seq ([]:List af).toArray}).get? (m.heap.objs.size+2)=Z {cls:=.type "list",data:=.seq ([]:List af).toArray}:=by rw[<-s];exact dc _ rfl
 have u:m.heap.objs.size+2∉[m.heap.objs.size+1]:=by simp
 have C:∀h∈[m.heap.objs.size+1,m.heap.objs.size],m.heap.objs.size+2≠h:=λh b d=>by
  simp only[b9,nc,jv]at b;rcases b with c|c
  ·rw[c]at d;exact absurd d (kQ<|tM _)
  ·rw[c]at d;exact absurd d (kQ (Nat.lt_add_of_pos_right ∅))
 have i:∀h Y,m.heap.get? h=Z Y->h∉[m.heap.objs.size+1]/\h≠m.heap.objs.size+2:=λh Y c=>by
  have lt:=b6 c;refine⟨λd=>?_,dg<|ep lt<|nP _ _⟩;rw[cV.mp d]at lt;exact iX _ (Nat.lt_of_succ_lt lt)
 have fin:∀(S:a4) (RN:Nat) (j:af) (E:Nat),(∀h Y,m.heap.get? h=Z Y->S.get? h=Z Y)->S.get? (m.heap.objs.size+2)=Z {cls:=.type "list",dict:=X,data:=.seq #[j,j] E,slots:=#[]}->
   S.IsTupleIter (m.heap.objs.size+1) m.heap.objs.size 2/\S.IsTuple m.heap.objs.size #[g,f]->j=(if n=ab then f else g)->
   codeAny (aQ Q_ D) O (.builtin aV ⟨[.ref (m.heap.objs.size+1),.none,.ref<|m.heap.objs.size+2],[]⟩) (wants A Q7) {m with heap:=S,toks:=RN}:=by
  intro S RN j E RP F J ev;refine jS r ?_;rw[km a _];show wpAny _ O.in1 (ql (.ref<|m.heap.objs.size+2) >>= _) _ _ _;refine ay (h3 (s:={m with heap:=S,toks:=RN}) F rfl ?_);show wpAny _ O.in1 (tryCatch (hc<|.ref<|m.heap.objs.size+1) _ >>= _) _ _ _;refine ay (p4<|W.done {m with heap:=S,toks:=RN} _ _ J λl ap G=>?_);have as:=G _ _ u F;show wpAny _ O.in1 (updateSeq (m.heap.objs.size+2) (λ_=>#[]) >>= _) _ _ _;refine ay (uz as rfl<|ay<|m2<|a3 ?_);show A j _;rw[ev];exact e _ ap λh Y c=>(kg _ _<|eu (i h Y c).2).trans (G h Y (i h Y c).1 (RP h Y c))
 refine jS r ?_;rw[km a _];show wpAny _ O.in1 (ql (.ref<|m.heap.objs.size+2) >>= _) _ _ _;refine ay (h3 (s:={m with heap:=g2.push {cls:=.type "list",data:=.seq ([]:List af).toArray} }) B rfl ?_);show wpAny _ O.in1 (tryCatch (hc<|.ref<|m.heap.objs.size+1) _ >>= _) _ _ _;refine ay (p4 (W.item 0 {m with heap:=g2.push {cls:=.type "list",data:=.seq ([]:List af).toArray} } _ _ ↥0 ⟨let ⟨Y,a1,a2⟩:=d5;⟨Y,cp _ a1,a2⟩,z.push _⟩ λq k bv v bd RP=>?_));cases v;have H:=RP _ _ u B;show wpAny _ O.in1 (updateSeq (m.heap.objs.size+2) (λ_=>#[g,g]) >>= _) _ _ _;refine ay (uz H rfl ?_);rw[o];refine a3 ⟨jl a _,jS r ?_⟩;have I:=q_ (a6.mapSeq<|λ_=>(#[g,g]:Array af)) H rfl;have be:=W.frame _ _ (k.update (m.heap.objs.size+2)<|a6.mapSeq<|λ_=>(#[g,g]:Array af)) bd λh b Y c=>(kg _ _<|C h b).trans c;have bi:∀h Y,m.heap.get? h=Z Y->(k.update (m.heap.objs.size+2)<|a6.mapSeq<|λ_=>(#[g,g]:Array af)).get? h=Z Y:=λh Y c=>(kg _ _<|eu (i h Y c).2).trans (RP h Y (i h Y c).1 (cp _<|dG h Y c));rw[km a _];show wpAny _ O.in1 (ql (.ref<|m.heap.objs.size+2) >>= _) _ _ _;refine ay (h3 I rfl ?_);show wpAny _ O.in1 (tryCatch (hc<|.ref<|m.heap.objs.size+1) _ >>= _) _ _ _;refine ay (p4 (W.item 1 _ _ _ ↥0 be λq bm L v M N=>?_));cases v;have w:=N _ _ u I;have x:∀h Y,m.heap.get? h=Z Y->bm.get? h=Z Y:=λh Y c=>N h Y (i h Y c).1 (bi h Y c);show wpAny _ O.in1 (tryCatch (holding [f,f]<|mS RL f g >>= _) _ >>= _) _ _ _;refine ay (p4<|fL<|ay<|an _ x _ _ ?_);refine ay (fL<|md ?_);refine ay (m2<|a3 ?_);cases P:n with
 |true=>
  simp only[e8];refine ay (uz w rfl<|ay<|m2 ?_);rw[o];have bn:=q_ (a6.mapSeq<|λ_=>(#[f,f]:Array af)) w rfl;refine a3 ⟨jl a _,fin _ L f _ (λh Y c=>(kg _ _<|eu (i h Y c).2).trans<|x h Y c) bn (W.frame _ _ _ M λh b Y c=>(kg _ _<|C h b).trans c) (by rw[P];rfl)⟩
 |false=>
  simp only[ij,eL];refine ay (m2 ?_);rw[o];exact a3 ⟨jl a _,fin _ L g _ x w M (by rw[P];rfl)⟩
end
section
variable{Q_:bz}{D:bg}{O:bp}{Q7:af->aq->Prop}{m:aq}{g f:af}{n:Bool}{A:af->aq->Prop}
def MJ(a:O.handled=X)(b:∀T:aq,(∀h Y,m.heap.get? h=Z Y->T.heap.get? h=Z Y)->∀(A:af->aq->Prop) (Q7:af->aq->Prop),A (.bool n) T->wpAny (aQ Q_ D) O.in1 (mS .Gt f g) A Q7 T)(e:∀S RN,(∀h Y,m.heap.get? h=Z Y->S.get? h=Z Y)->A (if n=ab then f else g) {m with heap:=S,toks:=RN}):wpAny (aQ Q_ D) O (call (.builtin "max") [g,f]) A Q7 m:=
 A7 ∅ F.kind_max F.plain_max F.entry_max F.args_max2 F.plain_max_loop F.entry_max_loop a b e
def Ly(a:O.handled=X)(b:∀T:aq,(∀h Y,m.heap.get? h=Z Y->T.heap.get? h=Z Y)->∀(A:af->aq->Prop) (Q7:af->aq->Prop),A (.bool n) T->wpAny (aQ Q_ D) O.in1 (mS .Lt f g) A Q7 T)(e:∀S RN,(∀h Y,m.heap.get? h=Z Y->S.get? h=Z Y)->A (if n=ab then f else g) {m with heap:=S,toks:=RN}):wpAny (aQ Q_ D) O (call (.builtin "min") [g,f]) A Q7 m:=
 A7 ∅ F.kind_min F.plain_min F.entry_min F.args_min2 F.plain_min_loop F.entry_min_loop a b e
end
def sm(O:bp)(m:aq)(i d:af)(n:Bool):Prop:=(∀(Q_:bz) (D:bg) (Q7:af->aq->Prop) (A:af->aq->Prop),A (.bool n) m->wpAny (aQ Q_ D) O (mS .Gt i d) A Q7 m)
section
open PySem.SeqAt
open PySem.AutoSeq1 (wpAny_loadPart')
open PySem.MeetsSeq PySem.MeetsSeq2 PySem.MeetsSeq3
def H3(C f:ar)(Rm b:Array af)(s y:Nat)(z A:Option ar)(bk B:Array (Option af))(Rg:List (Bool×Bool))(N:Rg.length=min Rm.size b.size):
  qd (bq.«tuple.__gt__» ⟨[.ref C,.ref f],[]⟩)
   (λO Q8 m=>m.heap.get? C=Z {cls:=.type "tuple",dict:=z,data:=.seq Rm s,slots:=bk}/\m.heap.get? f=Z {cls:=.type "tuple",dict:=A,data:=.seq b y,slots:=B}/\
    (∀v (k:v<Rm.size) (l:v<b.size) (o:v<Rg.length),EqAt O.in1 m Rm[v] b[v] (Rg[v]).1/\((Rg[v]).1=ax->sm O.in1 m Rm[v] b[v] (Rg[v]).2))/\
    Q8 (.ok<|.ret<|.bool<|g0 (decide (b.size<Rm.size)) Rg) m):=
 .of_wp λQ_ D O Q8 m e=>by
  let⟨h,L,u,RN,Rq⟩:=m;let@⟨E,F,G,e⟩:=e;have P:=z0;have q:(Rm.toList.zip b.toList).length=min Rm.size b.size:=by simp
  wp_walk using wpAny_loadPart' E,wpAny_loadPart' F,qs _ (λd1 f T=>f.1=X/\T=⟨h,L,u,RN,Rq⟩/\∃a,d1=(Rm.toList.zip b.toList).drop a/\
   Q8 (.ok<|.ret<|.bool<|g0 (decide (b.size<Rm.size))<|Rg.drop a) ⟨h,L,u,RN,Rq⟩) _
  case turn=>
   rintro⟨i,d⟩ d1 f T ⟨p,rfl,a,aN,g⟩;have r:a<(Rm.toList.zip b.toList).length:=by
    rcases tx a (Rm.toList.zip b.toList).length with S|S
    ·exact S
    ·rw[m6 S]at aN;cases aN
   have Q:a<min Rm.size b.size:=q ▸ r;have k:a<Rm.size:=⋯
   have l:a<b.size:=⋯
   have o:a<Rg.length:=⋯
   rw[ix r]at aN;injection aN with t H;have I:i=Rm[a]:=by have:=congrArg Prod.fst t;simpa using this
   have J:d=b[a]:=by have:=congrArg Prod.snd t;simpa using this
   subst I J;rw[ix o]at g;let@⟨w,x⟩:=G a k l o;generalize Rg[a]=pr at g w x;let⟨c,n⟩:=pr;refine ay (w Q_ D _ _ ?_);cases c with
   |true=>
    have j:Q8 (.ok<|.ret<|.bool<|g0 (decide (b.size<Rm.size))<|Rg.drop<|a+1) ⟨h,L,u,RN,Rq⟩:=g
    wp_walk
    exact⟨rfl,rfl,a+1,H,j⟩
   |false=>
    have j:Q8 (.ok<|.ret<|.bool n) ⟨h,L,u,RN,Rq⟩:=g;have M:=x rfl Q_ D
    wp_walk using M
    exact⟨_,rfl,by simpa using j⟩
  case fin=>
   rintro⟨dp,dC⟩ T ⟨p,rfl,a,aN,g⟩;simp only at p;subst p;have R:min Rm.size b.size<=a:=by
    rcases tx a (Rm.toList.zip b.toList).length with S|S
    ·rw[ix S]at aN;cases aN
    ·exact q ▸ S
   rw[m6 ⋯]at g;have j:Q8 (.ok<|.ret<|.bool<|decide (b.size<Rm.size)) ⟨h,L,u,RN,Rq⟩:=g
   wp_walk
   exact⟨_,rfl,by simpa [bq.Tuple.tupleCompareSizes] using j⟩
  case h=>
   exact⟨rfl,rfl,0,rfl,by simpa using e⟩
end
def jP(E Q:List V):List (Bool×Bool):=((E.zip Q).map λo=>(bU o.1 o.2,bh o.2 o.1))
def LN(g f:V):V.beq g f=V.beq f g:=by
 rw[o2,V.beq_iff,V.beq_iff];exact⟨λe=>e.symm,λe=>e.symm⟩
theorem Du:∀{s:Nat}{E Q:List V},fi s E Q=ab->g0 (decide (Q.length<E.length)) (jP E Q)=fA Q E
 |_,[],[],_=>rfl
 |s,g::p,f::B,e=>by
  rw[fi,cF]at e;show (if bU g f=ab then g0 (decide (B.length+1<p.length+1)) (jP p B) else bh f g)=fA (f::B) (g::p);rw[fA,(n6 e.1).2.2,<-Du e.2,LN,q7.mpr w9]
 |_,[],_::_,_=>rfl
 |_,_::_,[],_=>rfl
def Ji{a v:Int}(b:c3 m.heap (.int a) I)(c:c3 m.heap (.int v) q):sm O m I q (bh (.int v)<|.int a):=by
 let⟨@B,rfl⟩:=b;let⟨@RF,rfl⟩:=c;intro Q_ D Q7 A r;rw[bh]at r;exact (Ih r:wpAny (aQ Q_ D) O (ez .Gt (.int a B)<|.int v RF) A Q7 m)
def De{d i:V}(C:vz d i)(b:c3 m.heap d I)(e:c3 m.heap i q):sm O m I q (bh i d):=by
 rcases C with ⟨a,v,rfl,rfl⟩|⟨g,f,rfl,rfl⟩
 ·exact Ji b e
 ·let⟨B,rfl⟩:=b;let⟨RF,rfl⟩:=e;intro Q_ D Q7 A r;rw[bh]at r;exact richCompare_gives (op:=.Gt) (vu m g B) (vu m f RF) PySem.F.slot_str_gt PySem.F.entry_str_gt (PySem.F.args_str_gt_2 _ _) (PySem.gives_str_gt g f B RF) (λc=>nomatch c) r
def M4(s:Nat):∀{O:bp}{d i:V}{I q:af},dF s d i=ab->O.units+s+2<bJ->c3 m.heap d I->c3 m.heap i q->sm O m I q (bh i d):=by
 induction s with
 |zero=>
  intro O d i I q e L a b;rcases ny e with C|⟨H,_,_,c,_⟩
  ·exact De C a b
  ·cases c
 |succ s N=>
  intro O d i I q e L a b;rcases ny e with C|⟨H,E,Q,c,rfl,rfl,e⟩
  ·exact De C a b
  cases c;let⟨g,Y,Rf,@H,rfl,k,l,h,j⟩:=a;let⟨f,M,J,@R,rfl,n,o,p,t⟩:=b;let⟨cls,S,data,bk⟩:=Y;let⟨as,T,a1,U⟩:=M;simp only at l h o p;subst l h o p;have u:E.length=Rf.size:=by rw[j.length,fB]
  have w:Q.length=J.size:=by rw[t.length,fB]
  intro Q_ D Q7 A r;rw[bh,<-Du e,u,w]at r;have aV:(jP E Q).length=min Rf.size J.size:=by rw[jP,bH,uh,u,w]
  refine zN (op:=.Gt) ⟨_,k,rfl⟩ ⟨_,n,rfl⟩ PySem.F.slot_tuple_gt PySem.F.entry_tuple_gt (PySem.F.args_tuple_gt_2 _ _) (H3 g f Rf J H R S T bk U (jP E Q) aV)
   ⟨k,n,λv al am an=>?_,show af.bool (g0 (decide (J.size<Rf.size))<|jP E Q)≠af.notImplemented/\A (.bool<|g0 (decide (J.size<Rf.size))<|jP E Q) m from ⟨(λd=>nomatch d),r⟩⟩ ⋯;let⟨@RO,x,y⟩:=j.get (v:=v) (q:=Rf[v]) (by rw[gq];simp[al]);let⟨@RQ,z,B⟩:=t.get (v:=v) (q:=J[v]) (by rw[gq];simp[am]);have lk:=wa e x z;have G:=n6 lk;have ap:(jP E Q)[v]=(bU RO RQ,bh RQ RO):=by
   have:(jP E Q)[v]?=Z (bU RO RQ,bh RQ RO):=by
    rw[jP,gc,(AL (z:=(RO,RQ))).mpr ⟨x,z⟩];rfl
   rw[fj an]at this;exact Option.some.inj this
  rw[ap];exact⟨gW s G.1 G.2.1 (by show O.units+1+s+1<bJ;lia) y B,λ_=>N lk (by show O.units+1+s+2<bJ;lia) y B⟩
section
variable{b:aK}
def I3(f:b.calm=ab)(i:b.A.units+20<bJ):eA b (.builtin "max") (λx j A=>∃(u c:V) (q I:ah),x=[q,I]/\dF 6 c u=ab/\cg j u q/\cg j c I/\A (if bh u c=ab then I else q) j):=by
 intro G m w j x Rv A t p e;let⟨u,c,q,@I,rfl,lk,k,l,r⟩:=e;let⟨o,@s,rfl,a,d⟩:=ra p;refine MJ (n:=bh u c) (t.ok.hd f) (λT n A Q7 h=>?_) λS RN n=>⟨if bh u c=ab then I else q,j,t.kept n,?_,r⟩
 ·exact M4 6 lk (by show b.A.units+1+6+2<bJ;lia) ((l.ea t.aZ d).keep λg Y W W c W W=>n g Y c) ((k.ea t.aZ a).keep λg Y W W c W W=>n g Y c) b.prog b.w Q7 A h
 ·split
  ·exact d
  ·exact a
def OC(f:b.calm=ab)(i:b.A.units+20<bJ):eA b (.builtin "min") (λx j A=>∃(u c:V) (q I:ah),x=[q,I]/\dF 6 c u=ab/\cg j u q/\cg j c I/\A (if bh c u=ab then I else q) j):=by
 intro G m w j x Rv A t p e;let⟨u,c,q,@I,rfl,lk,k,l,r⟩:=e;let⟨o,@s,rfl,a,d⟩:=ra p;refine Ly (n:=bh c u) (t.ok.hd f) (λT n A Q7 h=>?_) λS RN n=>⟨if bh c u=ab then I else q,j,t.kept n,?_,r⟩
 ·exact wc 6 lk (by show b.A.units+1+6+2<bJ;lia) ((l.ea t.aZ d).keep λg Y W W c W W=>n g Y c) ((k.ea t.aZ a).keep λg Y W W c W W=>n g Y c) b.prog b.w Q7 A h
 ·split
  ·exact d
  ·exact a
def ka:h_:=(λE=>match E with
 |[.im (.int a),.im<|.int v]=>v9 [.im (.int a),.im<|.int v]
 |[.im (.tup g),.im<|.tup f]=>if dF 6 (.tup f) (.tup g)=ab then Z (.im<|if bh (.tup g) (.tup f)=ab then .tup f else .tup g) else X
 |_=>X)
def mB:h_:=(λE=>match E with
 |[.im (.int a),.im<|.int v]=>yQ [.im (.int a),.im<|.int v]
 |[.im (.tup g),.im<|.tup f]=>if dF 6 (.tup f) (.tup g)=ab then Z (.im<|if bh (.tup f) (.tup g)=ab then .tup f else .tup g) else X
 |_=>X)
def xF(d:b.calm=ab)(h:b.A.units+20<bJ):g4 b (.builtin "max") ka:=by
 intro G m w j x Rv A t p n;let⟨E,@u,e,c,r⟩:=n;unfold ka at c;split at c
 ·exact PU d G m w j x Rv A t p ⟨_,u,e,c,r⟩
 ·split at c
  ·rename_i g f lk;cases c;let⟨q,@I,rfl,k,l⟩:=x1 e;refine I3 d h G m w j _ Rv A t p ⟨_,_,q,I,rfl,lk,k,l,b8.i r ?_⟩;split
   ·exact l
   ·exact k
  ·cases c
 ·cases c
def Gl(d:b.calm=ab)(h:b.A.units+20<bJ):g4 b (.builtin "min") mB:=by
 intro G m w j x Rv A t p n;let⟨E,@u,e,c,r⟩:=n;unfold mB at c;split at c
 ·exact MG d G m w j x Rv A t p ⟨_,u,e,c,r⟩
 ·split at c
  ·rename_i g f lk;cases c;let⟨q,@I,rfl,k,l⟩:=x1 e;refine OC d h G m w j _ Rv A t p ⟨_,_,q,I,rfl,lk,k,l,b8.i r ?_⟩;split
   ·exact l
   ·exact k
  ·cases c
 ·cases c
end
mutual
def uy:V->pN
 |.int a=>.int a
 |.aG f=>.bool f
 |.str d=>.str d
 |.tup E=>.tuple (qD E)
 |_=>.none
def qD:List V->List pN
 |[]=>[]
 |u::p=>uy u::qD p
end
mutual
theorem PO{e:a4}:∀{s:Nat}{u:V}{I:af},V.bw s u=ab->c3 e u I->Reads e I (uy u) []
 |_,.aW,I,_,c=>by cases (show I=.none from c);exact .none
 |_,.aG f,I,_,c=>by cases (show I=.bool f from c);exact .bool f
 |_,.int a,I,_,c=>by let⟨@B,rfl⟩:=c;exact .int a B
 |_,.str d,I,_,c=>by let⟨@B,rfl⟩:=c;exact .str d B
 |s+1,.tup E,I,n,c=>by
  let⟨g,Y,Rm,@H,rfl,k,l,b,h⟩:=c;exact .tuple k l b (B7 (s:=s) n h)
 |0,.tup E,I,n,c=>by cases n
 |s,.fn g,I,n,c=>by cases s<;>cases n
 |s,.aT g,I,n,c=>by cases s<;>cases n
 |s,.fd,I,n,c=>by cases s<;>cases n
theorem B7{e:a4}:∀{s:Nat}{E:List V}{Rv:List af},V.ct s E=ab->dr e E Rv->ReadsAll e Rv (qD E) []
 |_,[],Rv,_,c=>by rw[show Rv=[] from c];exact .nil
 |s,u::E,Rv,n,c=>by
  let⟨q,@p,rfl,k,l⟩:=c;rw[V.ct,cF]at n;exact .cons (PO n.1 k) (B7 n.2 l)
end
mutual
theorem GN:∀u:V,pN.hasDict (uy u)=ax
 |.aW=>rfl
 |.aG _=>rfl
 |.int _=>rfl
 |.str _=>rfl
 |.fn _=>rfl
 |.aT _=>rfl
 |.fd=>rfl
 |.tup E=>Ex E
theorem Ex:∀E:List V,pN.hasDictAll (qD E)=ax
 |[]=>rfl
 |u::p=>by
  show (pN.hasDict (uy u) || PyData.hasDictAll (qD p))=ax;rw[GN u,Ex p];rfl
end
section
variable{Q_:bz}{D:bg}{O:bp}{Q7:af->aq->Prop}{m:aq}
theorem FT{ao B:ar}{Rm:Array af}(e:B≠ao):∀(s a:Nat) (m:aq) (A:List af->aq->Prop),m.heap.IsListIter ao B a->m.heap.IsList B Rm->a+s<=Rm.size->
  (∀S,S.IsListIter ao B (a+s)->a4.SameBut ao m.heap S->A ((Rm.toList.drop a).take s) {m with heap:=S})->wpAny (aQ Q_ D) O (draw (.ref ao) s) A Q7 m
 |0,a,m,A,b,_,_,c=>by
  show wpAny _ _ (pure []) A Q7 m;exact a3 ⇑(c m.heap b (a4.SameBut.refl ..))
 |s+1,a,m,A,b,f,n,c=>by
  have g:a<Rm.size:=⋯
  show wpAny _ _ (hc (.ref ao) >>= _) A Q7 m;refine ay (zj b f (x:=Rm[a]) (by simp[g]) λo i h=>?_);refine ay (fL (FT e s (a+1) _ _ i (f.extBut h.extBut e) ⋯ λj k l=>a3 ?_));have hd:Rm.toList.drop a=Rm[a]::Rm.toList.drop (a+1):=by simp[ix,g]
  have:=c j (by rw[show a+(s+1)=a+1+s by lia];exact k) (h.trans l);rw[hd,List.take_succ_cons]at this;exact this
def JB{A:List af->aq->Prop}(g:O.handled=X)(a:m.heap.IsList B Rm)(h:∀S,a4.ExtBut m.heap.objs.size m.heap S->A Rm.toList {m with heap:=S}):wpAny (aQ Q_ D) O (yp (.ref B) Rm.size X) A Q7 m:=by
 have b:B≠m.heap.objs.size:=by let⟨@Y,i,W⟩:=a;exact dg (b6 i)
 unfold yp;refine ay ?_
 ·unfold notIterableAtAll;refine ay (mL a.typeIs F.slot_list_iter.lookup ?_);refine a3 ?_;simp only[ij,eL];refine ay (fL<|uq a ?_);refine ay (fL (FT b Rm.size 0 _ _ ⟨_,dc _ rfl,rfl,rfl⟩ (a.push _) ⋯ λj k d=>?_));have l:List.take Rm.size (List.drop 0 Rm.toList)=Rm.toList:=by
   rw[j6];exact pL ↥0
  rw[l];rw[aD ↥0];have n:j.IsList B Rm:=(a.push _).extBut d.extBut b;refine ay (fL (FA g k n ↥0 λo p=>?_));simp only[Option.isSome_none,ij,eL];refine a3 (h o λf Y e c=>p f Y e<|d.extBut f Y e<|cp _ c)
def P4{Q6:ei}{a:List a8}{b}{A:Unit->aq->Prop}(c:O.handled=X)(d:m.heap.IsList B Rm)(f:(eI a Q6).length=Rm.size)(g:(eI a Q6).findIdx? (·.1)=X)(e:∀S,a4.ExtBut m.heap.objs.size m.heap S->wpAny (aQ Q_ D) O (tP ((eI a Q6).map (·.2)) Rm.toList) A Q7 {m with heap:=S}):
  wpAny (aQ Q_ D) O (hA (.Tuple a b Rl) Q6<|.ref B) A Q7 m:=by
 rw[assign_Tuple];refine ay (qt ?_);unfold unpack;rw[f,g];exact ay (fL<|JB c d e)
end
section
variable{b:aK}
def GR(R:Φ)(s:Nat)(B:i8):fF:=(λq w j A=>∃g x,q=.ref g/\cW R j g x/\x.length=s/\B x w j A)
variable{n:Nat}
def HM{B:i8}(h:b.calm=ab)(e:mW b Q B)(i:(eI Q b.env).length=s:=by rfl)(k:(eI Q b.env).findIdx? (·.1)=X:=by rfl):i2 b (.Tuple Q n Rl) (GR b.K s B):=by
 intro G m w j q I A t p a;let⟨g,@x,l,o,r,a⟩:=a;subst l;cases p;let⟨@Rf,d,u,aN⟩:=t.list o;refine P4 (t.ok.hd h) u.isList (by simp[i,<-r,d.length]) k λS v=>?_;have y:aF b G w j {m with heap:=S}:=t.kept (RF:=m.toks) λf Y c=>v f Y (dg<|b6 c) c;exact e G _ w j x _ A y ⇑d a
@[simp] def sL(s:Nat)(e:List ak->aU->Option aU):eK:=λu y=>match u with
 |.lst is=>if is.length=s then e (is.map .im) y else X
 |_=>X
def HT{RE:List Nat}{e:List ak->aU->Option aU}(i:b.calm=ab)(o:qI b RE Q e)(p:(eI Q b.env).length=s:=by rfl)(t:(eI Q b.env).findIdx? (·.1)=X:=by rfl):gT b RE (.Tuple Q n Rl) (sL s e):=by
 refine ti (HM i o p t) λq w j A v=>?_;let⟨y,P,u,Q8,@Rw,J,z,ai,a,r⟩:=v;unfold sL at a;split at a
 ·rename_i is;split at a
  ·rename_i B;let⟨g,@x,rfl,k,l,rfl⟩:=z;have C:=c7.mp ai;refine⟨g,x,rfl,cW.of k,by rw[<-l.length];exact B,y,P,_,[],Rw,J,sR l,by rw[b5];exact C.1,a,λD F RI RV E m=>r D F RI RV E ?_⟩;rw[b5]at m;exact⟨λf Y c d=>m.keep f Y c λh=>d<|eX _ h,λf d=>(m.sub f d).imp (λh=>eX _ h) id,m.ai,m.tup,m.grow⟩
  ·cases a
 ·cases a
end
def mE:List V->V->Option Nat
 |[],_=>X
 |d::p,u=>if bU d u=ab then Z 0 else (mE p u).map (·+1)
theorem B0{e:a4}{u:V}:∀{E:List V}{ae:List af}{v:Nat},V.ct 8 E=ab->dr e E ae->mE E u=Z v->
  ∃q,ae[v]?=Z q/\iC e u q=ab/\∀H I,H<v->ae[H]?=Z I->iC e u I=ax
 |[],ae,v,_,_,c=>by cases c
 |d::E,ae,v,n,h,c=>by
  let⟨q,@p,rfl,k,l⟩:=h;rw[V.ct,cF]at n;unfold mE at c;split at c
  ·rename_i b;cases c;exact⟨q,rfl,by rw[j3 n.1 k];exact b,λH I f=>absurd f<|Nat.not_lt_zero H⟩
  ·rename_i b;let⟨@a,i,rfl⟩:=cw.mp c;let⟨@D,j,m,o⟩:=B0 n.2 l i;refine⟨D,j,m,λH I f g=>?_⟩;cases H with
   |zero=>
    cases g;rw[j3 n.1 k];exact Bool.eq_false_iff.mpr b
   |succ H=>exact o H I ⋯ g
variable{R:Φ}{Ri:bz}{D:bg}
end L2
namespace L2
open Spec PyProof.Rows PySem.W
def zc:ak->ak
 |.im (.aT d)=>.cK d
 |u=>u
@[simp] theorem QR(d:List V):zc (.im<|.aT d)=.cK d:=rfl
@[simp] theorem QO(d:List V):zc (.im<|.tup d)=.im (.tup d):=rfl
end L2
namespace L2
open Spec PyProof.Rows
variable{e RW R0:az bC}{f g c:a8}{Q:List a8}{Rl o:Pos}{H n s:Nat}{L:az (List bC)}{RE:List Nat}{RG Rg:List aC}{N:ar}{J:cJ}{R2 d:aC}{R:Φ}{Q9:dR}
def HK:pZ (.type "list_reverseiterator") "__len__" = pure X:=by rw[y4,xT];kernel_rfl
def Lw:pZ (.type "list_reverseiterator") "__length_hint__" = pure (Z<|.builtin "list_reverseiterator.__length_hint__"):=by rw[y4,xT];kernel_rfl
section
variable{Q_:bz}{D:bg}{O:bp}{m:aq}{Q8:qj->aq->Prop}{t:ar}{b1 i:List ar}{Q9:Array n0->Array n0->Prop}{s:Nat}{Ri:Nat->af->Prop}{aX:Nat->aq->Prop}
def OV(W:WalksS Q_ D O.in1 t b1 i Q9 s Ri aX)(e:∀a m,aX a m->m.TypeIs (.ref t) "list_reverseiterator")(Rk:ar)(j:af)(o:Nat)(b:aX 0 m)(l:Rk∉b1)(d5:t∈b1)(p:m.heap.get? Rk=Z {cls:=.type "list",data:=.seq #[] o})(q:∀T g d,Moved (Rk::i) Q9 m T->T.heap.get? Rk=Z {cls:=.type "list",dict:=X,data:=.seq g d,slots:=#[]}->qH Ri g s->Q8 (.ok<|.ret j) T)(r:s<=sizeLine):
  wpAny (aQ Q_ D) O.in1 (bq.List.listExtendWith (.ref Rk) (.ref t) j)
   (λfin T=>match fin with | .done N=>Q8 (.ok N) T | .again d=>d.quiet=ab/\codeAny (aQ Q_ D) O d Q8 T) (λc T=>Q8 (.error c) T) m:=by
 have u:Rk≠t:=λc=>l (c ▸ d5);have k:bq.List.listSameRef (.ref Rk) (.ref t)=ax:=by simp[bq.List.listSameRef,u]
 unfold bq.List.listExtendWith;refine ay (wpAny_typeOf (e 0 _ b) ?_);rw[aD (by rw[k];decide)];refine ay (W.self 0 _ _ _ b<|ay<|fL ?_);unfold bq.List.listLengthHint;refine ay (mL (e 0 _ b) HK ?_);show wpAny _ O.in1 (specialOf (af.ref t) (aC.ofString "__length_hint__") >>= _) _ _ _;refine ay (mL (e 0 _ b) Lw ?_)
 (generalize h:("list_reverseiterator.__length_hint__" : String)=n;(fail_if_success (clear h n));wp_delta;rw[show splitId n=Z ("list_reverseiterator","__length_hint__") from by subst h;decide +kernel];subst h)
 refine ay (rI (b:=ab) (e 0 _ b) (by rw[isSubtype_type];kernel_rfl) ?_);refine a3 ?_;rw[aD ∅];exact a3 ⟨jl F.plain_extend_loop _,codeAny_extend_loopS W r _ l _ s 0 _ _ _ rfl (hY _) b p (qH.nil Ri) λT g d v w x=>q T g d v w x⟩
end
def qO:List (ar×a6)->Bool
 |[]=>ab
 | (_,Y)::p=>(match Y.data with
  |.seq _ _=>(match Y.cls with | .type s=>s != "list" |_=>ab)
  |_=>ab)&&qO p
def Jk{R:List (ar×a6)}{g:ar}{Y:a6}{Rf:Array af}(e:qO R=ab)(c:R.lookup g=Z Y)(a:Y.cls=.type "list")(hd:Y.data=.seq Rf s):False:=by
 induction R with
 |nil=>cases c
 |cons o p b=>
  let⟨f,d⟩:=o;rw[qO,cF]at e;simp only[List.lookup]at c;split at c
  ·cases c;have k:=e.1;rw[hd]at k;dsimp only at k;rw[a]at k;exact absurd k ∅
  ·exact b e.2 c
theorem BY{j:aw}:∀Rt:List Int,bA j (Rt.map .int) (Rt.map ah.int)
 |[]=>rfl
 |s::p=>⟨.int s,_,rfl,rfl,BY p⟩
def HC(b:qO R=ab)(j:aw)(g:ar)(Rt:List Int)(d:p9 j)(f:cW R j g (Rt.map ah.int))(a:∃t,Q9 [.cK (Rt.map .int)]=Z (.im<|.aG ab,t)){Q7:f3}:jM 1 Q9 [.ref g] j (λq W=>q=.aG ab) Q7:=by
 let⟨@t,a⟩:=a;have h:∃Y,j g=Z (.dx Y<|.lst<|Rt.map ah.int):=by
  rcases f with (e|e)|⟨Y,Rf,s,k,l,n,i,_⟩
  ·rcases d g with c|⟨Y,x,c⟩|⟨x,c⟩
   ·rw[c]at e;cases e
   ·rw[c]at e;cases e
   ·rw[c]at e;cases e
  ·exact e
  ·exact (Jk b k l i).elim
 let⟨@Y,m⟩:=h;refine⟨rfl,[.cK (Rt.map .int)],[],.im<|.aG ab,t,⟨_,_,[],[],rfl,⟨g,_,Y,rfl,m,BY Rt,rfl⟩,⟨rfl,rfl⟩,rfl⟩,jo,a,λq F Q8 o e W W=>?_⟩;exact e.1
def nY{Rv:List af}(e:Rv.length=s+1):∃g p,Rv=g::p/\p.length=s:=by
 cases Rv with
 |nil=>cases e
 |cons g p=>exact⟨g,p,rfl,Nat.succ.inj e⟩
def gJ.OW{fd:gU}(P:gJ R d R2 J N fd)(e:∀(cz y S:af) (U:Option ar) (M cx:af) (g:af),lC (Ξ d R2 (iA J) (gA J) (dT J) .none cz y S U M cx) ⟨[g],[]⟩=pure (Rg.zip [g]))(b:Rg.length=1:=by rfl):jt R fd Rg []:=
 P.binds λcz y S U M cx Rv a=>by
  replace a:=a.trans b;let⟨g,@c,rfl,k⟩:=nY a;obtain rfl:=tA k;exact e cz y S U M cx g
def gJ.K0{fd:gU}(P:gJ R d R2 J N fd)(e:∀(cz y S:af) (U:Option ar) (M cx:af) (g f:af),lC (Ξ d R2 (iA J) (gA J) (dT J) .none cz y S U M cx) ⟨[g,f],[]⟩=pure (Rg.zip [g,f]))(b:Rg.length=2:=by rfl):jt R fd Rg []:=
 P.binds λcz y S U M cx Rv a=>by
  replace a:=a.trans b;let⟨g,@c,rfl,k⟩:=nY a;let⟨f,@h,rfl,l⟩:=nY k;obtain rfl:=tA l;exact e cz y S U M cx g f
def gJ.NX{fd:gU}(P:gJ R d R2 J N fd)(e:∀(cz y S:af) (U:Option ar) (M cx:af) (g f h:af),lC (Ξ d R2 (iA J) (gA J) (dT J) .none cz y S U M cx) ⟨[g,f,h],[]⟩=pure (Rg.zip [g,f,h]))(b:Rg.length=3:=by rfl):jt R fd Rg []:=
 P.binds λcz y S U M cx Rv a=>by
  replace a:=a.trans b;let⟨g,@i,rfl,k⟩:=nY a;let⟨f,@j,rfl,l⟩:=nY k;let⟨h,@m,rfl,c⟩:=nY l;obtain rfl:=tA c;exact e cz y S U M cx g f h
structure eW where
 P:bz
 w:bg
 K:Φ
 aO:aC->Option af
 base:a4
def ee(R:Φ)(d:aC)(J:cJ)(N:ar):Prop:=(∃fd,gJ R d d J N fd/\Ψ R dM d=Z (Z<|.ref N))
def eD(R:Φ)(aO:aC->Option af)(d:aC)(J:cJ)(N:ar)(Rg:List aC):Prop:=(∃fd,gJ R d d J N fd/\jt R fd Rg []/\aO d=Z (.ref N))
def l5(Ri:bz)(D:bg)(R:Φ)(aO:aC->Option af)(Rh:a4)(n:Nat)(d:aC)(J:cJ)(N:ar)(Rg:List aC)(s:Nat)(Q9:dR):Prop:=(∃fd,gJ R d d J N fd/\jt R fd Rg []/\aO d=Z (.ref N)/\ih Ri D R aO Rh hS n N fd Rg (jM s Q9))
abbrev fw(h:eW):=l5 h.P h.w h.K h.aO h.base
def BL{l:af}{k U:Option ar}{Sk:Array (Option af)}{cz y S M cx:af}(g:Ψ R dM d=Z (Z<|.ref N))(C:R.lookup N=Z ⟨l,k,.func<|Ξ d d (iA J) (gA J) (dT J) .none cz y S U M cx,Sk⟩)(h:Δ R M d=ab)(n:Θ R (.ref N)=ab):ee R d J N:=⟨_,Kr C h n,g⟩
section
variable{Ri:bz}{D:bg}{R:Φ}{aO:aC->Option af}{Rh e:a4}{n s:Nat}{d:aC}{J:cJ}{N:ar}{Rg:List aC}{Q9:dR}
def ee.dp(p:ee R d J N)(b:R.In e)(c:e.Ns dM aO)(f:∀(cz y S:af) (U:Option ar) (M cx g:af),lC (Ξ d d (iA J) (gA J) (dT J) .none cz y S U M cx) ⟨[g],[]⟩=pure (Rg.zip [g]):=by intros;rfl)(h:Rg.length=1:=by rfl):eD R aO d J N Rg:=
 have ⟨_,a,g⟩:=p
 ⟨_,a,a.OW f h,ps b c g⟩
def ee.dC(p:ee R d J N)(b:R.In e)(c:e.Ns dM aO)(h:∀(cz y S:af) (U:Option ar) (M cx g f:af),lC (Ξ d d (iA J) (gA J) (dT J) .none cz y S U M cx) ⟨[g,f],[]⟩=pure (Rg.zip [g,f]):=by intros;rfl)(i:Rg.length=2:=by rfl):eD R aO d J N Rg:=
 have ⟨_,a,g⟩:=p
 ⟨_,a,a.K0 h i,ps b c g⟩
def ee.rQ(p:ee R d J N)(b:R.In e)(c:e.Ns dM aO)(i:∀(cz y S:af) (U:Option ar) (M cx g f h:af),lC (Ξ d d (iA J) (gA J) (dT J) .none cz y S U M cx) ⟨[g,f,h],[]⟩=pure (Rg.zip [g,f,h]):=by intros;rfl)(j:Rg.length=3:=by rfl):eD R aO d J N Rg:=
 have ⟨_,a,g⟩:=p
 ⟨_,a,a.NX i j,ps b c g⟩
def l5.fd{fd:gU}(aP:l5 Ri D R aO Rh n d J N Rg s Q9)(b:gJ R d d J N fd):ih Ri D R aO Rh hS n N fd Rg (jM s Q9):=by
 let⟨@f,e,Y,Y,L⟩:=aP;let⟨l,k,cz,y,S,U,M,cx,@Sk,c,C,Y⟩:=b.ex;let⟨g,h,i,j,m,o,p,q,@r,t,a,Y⟩:=e.ex;rw[C]at a;cases a;exact L
def Oc(p:ee R d J N)(b:R.In e)(h:e.Ns dM aO){a:ar}(i:aO d=Z (.ref a)){o:aC}(j:∀(cz y S:af) (U:Option ar) (M cx:af) (m:aq) (q:af),lI m (Ξ d d (iA J) (gA J) (dT J) .none cz y S U M cx) ⟨[q],[]⟩ [(o,q)])(aP:∀Rh,l5 Ri D R aO Rh n d J N [o] s Q9):
  ∃fd:gU,(∀(m:aq) (q:af),lI m fd ⟨[q],[]⟩ [(o,q)])/\∀Rh:a4,R.In Rh->Rh.Ns dM aO->ih Ri D R aO Rh hS n a fd [o] (jM s Q9):=by
 let⟨@fd,c,g⟩:=p;cases i.symm.trans (ps b h g);refine⟨fd,?_,λf Y Y=>(aP f).fd c⟩;let⟨l,k,cz,y,S,U,M,cx,@Sk,rfl,C,Y⟩:=c.ex;exact j cz y S U M cx
def LQ{L:bM}(P:eD R aO d J N Rg)(Rk:mU RG Rg (dT J))(c:Rg.length=s)(e:∀a∈RE,a<s)(g:RG.Nodup->∀(M:af) (O:bp) (RT:List ei) (m:aq) (j:aw) (Q7:f3),eF n (O.deeper<|i_ d (dT J) m.heap.objs.size N M)->iS (kY hS Ri D R aO Rh RG d (dT J) N M O RT m j Q7).mZ RE (gA J) L):
  l5 Ri D R aO Rh (n+1) d J N Rg s (ed s RG.length RE L):=
 have ⟨_,b,f,H⟩:=P
 ⟨_,b,f,H,GW b Rk c e<|g Rk.ai⟩
end
section
variable{b:aK}
def I0(aP:l5 b.prog b.w b.K b.aO b.base n d J N Rg s Q9)(a:eF H b.A)(e:eU b d)(g:fu b (c::Q) L)(h:n<=H:=by decide)(i:(d==("__debug__" : aC))=ax:=by decide)(j:bF (c::Q) b.env=(ax,bR c b.env)::bF Q b.env:=by rfl)(k:(eT Rl<|bF Q b.env).any (·.1)=ax:=by rfl):
  cf b (.Call (.Name d o) (c::Q) [] Rl) (bG s Q9 L):=
 have ⟨_,l,f,H,P⟩:=aP
 Li P (a.mono h) e H l.dG f g i j k
def a9{a:Int}{v Rl}:dk b (.Constant (.int a) v Rl) (aj<|aH<|.int a):=bl jk
def aJ(a:Nat){d:aC}{Rl:Pos}(c:b.N[a]?=Z d:=by rfl)(e:tn b.env.scope d:=by first|exact Or.inl rfl|exact Or.inr (Or.inl rfl)|exact Or.inr (Or.inr rfl))(hd:(d==("__debug__" : aC))=ax:=by decide)(f:(d==("__classdict__" : aC))=ax:=by decide):dk b (.Name d Rl) (au a):=Nm (Ag c e hd f)
def bO{L:az bC}(a:dk b c L)(d:bF [c] b.env=(ax,bR c b.env)::bF [] b.env:=by rfl):fu b [c] (av L aE):=nq a hE d
def nx(a:eF H b.A)(c:dk b g R0)(d:dk b f RW)(e:pQ f:=by exact λ_ Y=>rfl):cf b (.Subscript g f Rl) (aL cm R0 RW):=M6 (KC (by have:=a.un;lia)) c d e
def cG{N:a8}{L:az bC}(a:dk b c L)(d:dk b N e)(f:bF [c,N] b.env=(ax,bR c b.env)::bF [N] b.env:=by rfl)(l:bF [N] b.env=(ax,bR N b.env)::bF [] b.env:=by rfl):fu b [c,N] (av L<|av e aE):=nq a (bO d l) f
def oD{N u:a8}{L n:az bC}(a:dk b c L)(d:dk b N e)(hd:dk b u n)(f:bF [c,N,u] b.env=(ax,bR c b.env)::bF [N,u] b.env:=by rfl)(k:bF [N,u] b.env=(ax,bR N b.env)::bF [u] b.env:=by rfl)(l:bF [u] b.env=(ax,bR u b.env)::bF [] b.env:=by rfl):fu b [c,N,u] (av L<|av e<|av n aE):=nq a (cG d hd k l) f
def dw(a:Nat){d:aC}{c:a8}{L:az ak}{Rl B:Pos}(e:b.N.Nodup)(f:cf b c L)(U:b.N[a]?=Z d:=by rfl)(g:jc b.env.scope d:=by exact Or.inl rfl)(h:a∉RE:=by decide)(i:m8 c (Z<|.Name d B) Rl.line b.env=pure ax:=by rfl)(j:b.fn d=ab\/b.env.scope.names.lookup d=Z .local:=by first|exact .inl rfl|exact .inr rfl|assumption):hK b RE (.Assign [.Name d B] c Rl) (bZ a L):=oS e U g f h i j
def h9(a:Nat){d:aC}{Rl:Pos}(c:b.N.Nodup)(U:b.N[a]?=Z d:=by rfl)(e:jc b.env.scope d:=by exact Or.inl rfl)(f:a∉RE:=by decide)(g:b.fn d=ab\/b.env.scope.names.lookup d=Z .local:=by first|exact .inl rfl|exact .inr rfl|assumption):gT b RE (.Name d Rl) (bu a):=oO c U e f g
def rC:List aC->Bool
 |[]=>ab
 |d::C=>!C.contains d&&rC C
theorem CL:∀{C:List aC},rC C=ab->C.Nodup
 |[],_=>jo
 |d::C,e=>by
  rw[rC,cF,sS]at e;refine e6.mpr ⟨λa=>?_,CL e.2⟩;rw[List.contains_iff_mem.mpr a]at e;cases e.1
def fI(a:Nat){d:aC}{Rl:Pos}(U:b.N[a]?=Z d:=by rfl)(c:rC b.N=ab:=by kernel_rfl)(e:jc b.env.scope d:=by exact Or.inl rfl)(f:a∉RE:=by decide)(g:b.fn d=ab\/b.env.scope.names.lookup d=Z .local:=by first|exact .inl rfl|exact .inr rfl|assumption):gT b RE (.Name d Rl) (bu a):=oO (CL c) U e f g
def kB{RD RX Sd:a8}{Rp:f6}(own:List aC)(RC:List Nat){M:jE}{i:eK}{Sl:az ak}(U:l_ b RD RX M)(c:∀a,gT (b.fc (fp b own RC) Rp a) (oB own.length RC.length) RD i)(e:∀a,cf (b.fc (fp b own RC) Rp a) Sd Sl)(Rk:y5 b.env.scope b.N Rp RC=ab:=by kernel_rfl)(f:b.calm=ab:=by rfl)(ai:RC.Nodup:=by decide)(g:∀d,lD RX b.env d=pure d:=by intro Y;rfl):cf b (.ListComp Sd [⟨RD,RX,[],0⟩] Rp Rl) (cP own.length RC M i dS Sl):=
 o6 f (lS _ _ Rk rfl rfl) ai U c (λ_=>Dw) e g
def xH{L e:eK}{a}(c:gT b RE g L)(d:gT b RE f e)(h:b.calm=ab:=by rfl)(k:(eI [g,f] b.env).map (·.2)=hA g b.env::(eI [f] b.env).map (·.2):=by rfl)(l:(eI [f] b.env).map (·.2)=hA f b.env::(eI [] b.env).map (·.2):=by rfl)(i:(eI [g,f] b.env).length=2:=by rfl)(j:(eI [g,f] b.env).findIdx? (·.1)=X:=by rfl):gT b RE (.Tuple [g,f] a Rl) (kx 2<|fl L<|fl e jq):=KV h (rY c (rY d CG l) k) i j
def eH{id:String}{RL:List ak->Option ak}(a:g4 b (.builtin id) RL)(e:b.aO d=X)(f:e1 d=Z (.builtin id))(g:fu b (c::Q) L)(h:eU b d:=by rfl)(i:d ≠ "__name__" := by decide)(j:(d==("__debug__" : aC))=ax:=by decide)(k:bF (c::Q) b.env=(ax,bR c b.env)::bF Q b.env:=by rfl)(l:(eT Rl<|bF Q b.env).any (·.1)=ax:=by rfl):
  cf b (.Call (.Name d o) (c::Q) [] Rl) (bT RL L):=OP a h e f g i j k l
def dm(aP:l5 b.prog b.w b.K b.aO b.base n d J N Rg s Q9)(a:eF H b.A)(e:fu b (c::Q) L)(f:eU b d:=by rfl)(g:n<=H:=by decide)(h:(d==("__debug__" : aC))=ax:=by decide)(i:bF (c::Q) b.env=(ax,bR c b.env)::bF Q b.env:=by rfl)(j:(eT Rl<|bF Q b.env).any (·.1)=ax:=by rfl):
  cf b (.Call (.Name d o) (c::Q) [] Rl) (bG s Q9 L):=I0 aP a f e g h i j
def dN(a:eF H b.A)(c:dk b g R0)(d:dk b f RW)(e:pQ f:=by exact λ_ Y=>rfl):dk b (.Subscript g f Rl) (aj<|aL cm R0 RW):=bl (nx a c d e)
def cQ{RL:m5}{N:ak->ak->Option ak}(a:e7 b (fC RL) N)(c:dk b g R0)(d:dk b f RW):dk b (.BinOp g RL f Rl) (aj<|aL N R0 RW):=bl (iT a c d)
def hT{a}(e:fu b Q L):dk b (.Tuple Q a Rl) (aj<|di L):=bl (iF e)
end
section
variable{Ri:bz}{D:bg}{R:Φ}{aO:aC->Option af}{Rh e:a4}{n s:Nat}{d:aC}{J:cJ}{N:ar}{Rg:List aC}{Q9:dR}
def J7{Ri:List aC}{t:f6}(g:t.kind=.function:=by rfl)(f:t.isCoroutine=ax:=by rfl)(h:t.isGenerator=ax:=by rfl)(u:RG.Nodup:=by decide +kernel)(c:RG.take Ri.length=Ri:=by rfl)(N:∀d∈Ri,t.names.lookup d=Z .local\/t.names.lookup d=Z .cell:=by decide +kernel)(L:∀i∈t.names,i.2≠.free:=by decide +kernel):mU RG Ri t:=⟨g,f,h,u,c,N,L⟩
def fy{L:bM}(RG:List aC)(P:eD R aO d J N Rg)(b:RG.Nodup->∀(M:af) (O:bp) (RT:List ei) (m:aq) (j:aw) (Q7:f3),eF n (O.deeper<|i_ d (dT J) m.heap.objs.size N M)->iS (kY hS Ri D R aO Rh RG d (dT J) N M O RT m j Q7).mZ RE (gA J) L)(Rk:mU RG Rg (dT J):=by exact J7)(c:Rg.length=s:=by rfl)(e:∀a∈RE,a<s:=by decide):l5 Ri D R aO Rh (n+1) d J N Rg s (ed s RG.length RE L):=LQ P Rk c e b
end
end L2
namespace L2
open Spec PyProof.Rows PySem.W
section
variable{Q_:bz}{D:bg}{O:bp}{m:aq}{Q7:af->aq->Prop}
variable{t:ar}
def KI{Q8:qj->aq->Prop}{b1 i:List ar}{Q9:Array n0->Array n0->Prop}{s:Nat}{Ri:Nat->af->Prop}{aX:Nat->aq->Prop}(W:WalksS Q_ D O.in1 t b1 i Q9 s Ri aX)(d:∀a m,aX a m->m.TypeIs (.ref t) "list_reverseiterator")(Rk:ar)(b:Nat)(e:aX 0 m)(f:Rk∉b1)(d5:t∈b1)(g:m.heap.get? Rk=Z {cls:=.type "list",data:=.seq #[] b})(h:∀T c j,Moved (Rk::i) Q9 m T->T.heap.get? Rk=Z {cls:=.type "list",dict:=X,data:=.seq c j,slots:=#[]}->qH Ri c s->Q8 (.ok<|.ret<|.ref Rk) T)(k:s<=sizeLine):codeAny (aQ Q_ D) O (.builtin "list.__iadd__" ⟨[.ref Rk,.ref t],[]⟩) Q8 m:=by
 refine jS F.entry_list_iadd ?_;rw[km Bf _];show wpAny _ O.in1 (bq.List.listExtendWith (.ref Rk) (.ref t)<|.ref Rk) _ _ _;exact OV W d Rk _ b e f d5 g h k
variable{C:ar}{Rm:Array af}
def GG{A:List af->aq->Prop}(o:O.handled=X)(p:C≠t)(k:m.heap.IsList C Rm)(l:m.heap.IsRevIter t C ((Rm.size:Int)-1))(r:Rm.size<=sizeLine)(s:∀(S:a4) (RN:Nat) (g:Array af),(∀f Y,f≠t->m.heap.get? f=Z Y->S.get? f=Z Y)->m.heap.objs.size<=S.objs.size->qH (λa q=>Rm[Rm.size-1-a]?=Z q) g Rm.size->A g.toList {m with heap:=S,toks:=RN}):
  wpAny (aQ Q_ D) O (collect<|.ref t) A Q7 m:=by
 have z:t<m.heap.objs.size:=let ⟨Y,c,_⟩:=l;b6 c
 have B:C<m.heap.objs.size:=let ⟨Y,c,_⟩:=k;b6 c
 have u:m.heap.objs.size∉[t,C]:=λb=>by
  simp only[b9,nc,jv]at b;rcases b with e|e<;>lia
 unfold collect;refine ay (wpAny_runValue<|jS F.entry_proto_collect ?_);rw[km F.plain_proto_collect _];show wpAny _ O.in1 (p7 [] >>= λC=>again<|.builtin "list.__iadd__" ⟨[C,.ref t],[]⟩) _ _ m;refine ay (hs<|a3 ⟨jl Bf _,?_⟩);have i:∀h Y,m.heap.get? h=Z Y->(m.heap.push {cls:=.type "list",data:=.seq ([]:List af).toArray}).get? h=Z Y:=λh Y c=>cp _ c;have v:(m.heap.push {cls:=.type "list",data:=.seq ([]:List af).toArray}).get? m.heap.objs.size=Z {cls:=.type "list",data:=.seq ([]:List af).toArray}:=dc _ rfl;refine KI (m:={m with heap:=m.heap.push {cls:=.type "list",data:=.seq ([]:List af).toArray} }) (O:=O) (mK.listRev (prog:=Q_) (w:=D) (A:=O.in1) o t C p Rm).toS (λa m d=>d.2.1.typeIs) m.heap.objs.size _ ⟨hY _,?_,k.at λY c=>i _ Y c⟩ u (.head _) v (λT g E b n w=>?_) r
 ·have:(Rm.size:Int)-1-((0:Nat):Int)=(Rm.size:Int)-1:=⋯
  rw[this];exact l.at λY c=>i _ Y c
 ·show wpAny _ O (load m.heap.objs.size >>= _) _ _ T;refine ay (wpAny_load n<|a3 ?_);rw[Moved.eq_with b];refine s T.heap T.toks g (λf Y x c=>b.heap f Y (λj=>?_)<|i f Y c) (rk<|b6 n) w;rcases b9.mp j with y|j
  ·exact dg (b6 c) y
  ·exact x (cV.mp j)
def Mn{A:af->aq->Prop}(j:O.handled=X)(k:C≠t)(l:m.heap.IsList C Rm)(g:m.heap.IsRevIter t C ((Rm.size:Int)-1))(h:Rm.size<=sizeLine)(n:∀(S:a4) (RN:Nat) (i:Array af),(∀f Y,f≠t->m.heap.get? f=Z Y->S.get? f=Z Y)->m.heap.objs.size<=S.objs.size->qH (λa q=>Rm[Rm.size-1-a]?=Z q) i Rm.size->A (.ref S.objs.size) {m with heap:=S.push {cls:=.type "tuple",data:=.seq i},toks:=RN}):
  wpAny (aQ Q_ D) O (call (.type "tuple") [.ref t]) A Q7 m:=by
 refine AG (Q₁:=λb c=>c.TypeIs b "tuple" /\ A b c) xl (F.typeCall_tuple_1 _) F.entry_object_init (codeAny_of_tree ?_) λb c d=>⟨d.1,F.args_object_init_2 b _,object_init_meets xl.init.lookup xl.made ∅ Q_ D O.in1 _ c ⟨d.1,rfl,d.2⟩⟩;show wpAny _ _ (do checkBuiltinCall "tuple.__new__" ⟨[.type "tuple",.ref t],[]⟩;again (.builtin "tuple.__new__" ⟨[.type "tuple",.ref t],[]⟩)) _ _ m;refine ay (tG (F.newCall_tuple_1 _)<|a3 ⟨jl DV _,jS F.entry_tuple_new ?_⟩);rw[km DV _];have s:=sub_tuple_self;have u:=init_tuple_lookup;have v:=madeHere_tuple;have o:m.TypeIs (.ref t) "list_reverseiterator" := g.typeIs
 wp_walk using wpAny_typeOf o,GG (O:=O.in1.in1) j k l g h
 intro S RN e dG le ao;have p:e.size<=sizeLine:=by rw[ao.1];exact h
 show wpAny _ _ (bq.Tuple.tupleExact e.toList.toArray >>= λq=>ret q) _ _ _;unfold bq.Tuple.tupleExact;refine ay (hs (a3 ?_) (by show e.toList.toArray.size<=sizeLine;simpa using p));rw[vT];exact⟨⟨_,dc _ rfl,rfl⟩,n _ _ _ dG le ao⟩
end
section
variable{b:aK}
def P1(R:Φ)(z:es):bP:=(λw j A=>z w j λae Rb=>∃o Rj,ae=[.ref o]/\cW R Rb o Rj/\∀C,Rb C=X->A (.ref C) (upd Rb C<|.tup Rj.reverse))
variable{g:a8}{o RR Rl i:Pos}
def PF{z:es}(x:b.calm=ab)(y:eU b "tuple")(B:b.aO "tuple" = X)(D:eU b "reversed")(E:b.aO "reversed" = X)(F:gw b [g] z)(H:bF [g] b.env=[(ax,bR g b.env)]:=by rfl):
  bx b (.Call (.Name "tuple" RR) [.Call (.Name "reversed" o) [g] [] Rl] [] i) (P1 b.K z):=by
 intro G m w j A t e;refine rX (nk t y B (show e1 "tuple" = Z (.type "tuple") by decide +kernel) (pX ?_ rfl rfl) ∅ ∅);refine zQ ?_;refine Call_ (nk t D E (show e1 "reversed" = Z (.type "reversed") by decide +kernel)<|pX (bK (F Rl G m w j _ t e) λRv d ⟨ae,Rb,f,J,L⟩=>?_) H rfl);let⟨C,Rj,c,M,r⟩:=L;subst c;let⟨I,rfl,N⟩:=iM J;cases N;let⟨Rf,RS,bw,aN⟩:=f.list M;have s:=RS.length;have n:=bw.isList;refine call_reversed_list n (E2 ?_);have ne:C≠d.heap.objs.size:=let ⟨Y,c,_⟩:=n;dg (b6 c)
 have u:∀h Y,d.heap.get? h=Z Y->(d.heap.push<|revObj C<|(Rf.toArray.size:Int)-1).get? h=Z Y:=λh Y c=>cp _ c;have le:d.heap.objs.size<=(d.heap.push<|revObj C<|(Rf.toArray.size:Int)-1).objs.size:=by show _<=(d.heap.objs.push _).size;rw[Array.size_push];lia
 refine Mn (Rm:=Rf.toArray) (f.ok.hd x) ne (n.at λY c=>u _ Y c) ⟨_,dc _ rfl,rfl,rfl⟩ (by simp only[cH];lia) λS RN p dG O ao=>?_;have P:bN Rj.reverse p.toList:=by
  refine uf (show Rj.reverse.length=p.toList.length from (by rw[uK];exact s.trans ⇑(ao.1.symm))) λa q I k l=>?_;have U:a<Rj.length:=by
   have:=(fR.mp k).1
   rwa [uK]at this
  rw[List.getElem?_reverse U]at k;let⟨al,Q,T⟩:=RS.get k;have:=ao.2 a I ⇑l;simp only[cH,CD]at this;rw[<-s,Q]at this;cases this;exact T
 have v:=dD le O;exact⟨.ref _,_,f.laid (RF:=RN) (Y:=.tup Rj.reverse) (λh Y c=>cp _<|dG h Y (dg<|b6 c)<|u h Y c) v ⟨by rw[uK];exact aN,p.toList,P,⟨_,dc _ rfl,rfl,0,by rw[vT]⟩⟩,rfl,r _<|f.aZ.fresh v⟩
@[simp] def EU(L:az (List bC)):az ak:=λy=>(L y).bind λo=>(hH o.2 o.1).bind λE=>match E with
 |[.lst d]=>Z (.im<|.tup d.reverse,o.2)
 |_=>X
def Mk{L:az (List bC)}(h:eU b "tuple")(m:b.aO "tuple" = X)(n:eU b "reversed")(s:b.aO "reversed" = X)(d:fu b [g] L)(t:bF [g] b.env=[(ax,bR g b.env)]:=by rfl)(u:b.calm=ab:=by rfl):
  cf b (.Call (.Name "tuple" RR) [.Call (.Name "reversed" o) [g] [] Rl] [] i) (EU L):=by
 refine dX (PF u h m n s d t) λw j A v=>?_;let⟨y,P,p,Rw,J,ai,B,r⟩:=v;let⟨⟨Rq,z⟩,k,l⟩:=bB.mp B;let⟨E,D,e⟩:=bB.mp l;refine⟨y,P,Rq,z,J,ai,k,λae Rb Rr H f Rz F=>?_⟩;have G:=Rz.read f D;split at e
 ·cases e;let⟨q,rfl,⟨W,o,x,rfl,RP,RJ,W⟩⟩:=fH G;refine⟨o,x,rfl,cW.of RP,λC aT=>?_⟩;have a:cO Rb (upd Rb C<|.tup x.reverse):=(cO.refl Rb).upd aT;exact r _ _ Rr [] (f.mono a.tupS λg W Y c=>a g Y c) ⟨⟨C,_,rfl,ec,(RJ.mono a.tupS.tup).rev⟩,rfl⟩ (F.new a jo (λg d=>nomatch d) f.chg)
 ·cases e
end
end L2
namespace G
open L2
def o3:bM:=((bZ 2<|aL fg (aj<|aL dz (aj<|aL dz (aj<|aL iw (au 2)<|aj<|aH<|.int 69621)<|aj<|aL fg (au 3)<|aj<|aH<|.int 2147483587)<|aj<|aH<|.int 13)<|aj<|aH<|.int 2305843009213693951))
def CK:bM:=((bE (bZ 2<|aL dz (aj<|aH<|.int 7)<|aj<|aL iw (aj<|aH<|.int 7919)<|au 1)<|bE (e5 (cn<|aj<|gr (au 0) hq<|hM<|aH<|.int 63) (bu 3) G.o3)<|bE (bZ 3<|yG (b3<|aL lH (aj<|bT dt<|av (au 0) aE)<|aj<|aH<|.int 0) (aL cm (au 0)<|aj<|aL fg (au 1)<|aj<|bT dt<|av (au 0) aE)<|aH<|.int 0)<|bE (bZ 4<|aL iw (aj<|aL iw (aj<|aL qJ (aj<|aH<|.int 10)<|aj<|aH<|.int 60)<|aj<|aL qJ (aj<|aH<|.int 10)<|aj<|aH<|.int 60)<|aj<|aL qJ (aj<|aH<|.int 10)<|aj<|aH<|.int 60)<|dA<|eO<|av (aj<|aL iw (aj<|aL fg (au 3)<|au 4)<|aj<|bT vInt<|av (aj<|aL zb (au 3)<|aj<|aL qJ (aj<|aH<|.int 10)<|aj<|aH<|.int 18) aE)<|av (au 2)<|av (aj<|aH<|.int 0) aE))
def oo:dR:=(ed 2 5 [0,1] CK)
def w3:bM:=((bE (el (b3<|aL lH (aj<|aL cm (au 0)<|aj<|aH<|.int 0)<|aj<|aH<|.int 0) (bE (bZ 2<|aL fg (aj<|aL cm (au 0)<|aj<|aH<|.int 0)<|au 1)<|bE (i5 (aL iN (aj<|aL cm (au 0)<|aj<|aH<|.int 0)<|au 1)<|l6 0 (aH<|.int 0) oI)<|dA<|fv 2) gQ)<|bE (i5 (aL dz (aj<|aL cm (au 0)<|aj<|aH<|.int 2)<|aj<|aH<|.int 1)<|l6 0 (aH<|.int 2) oI)<|bE (bZ 3<|aL fg (aj<|aL iw (aj<|aL dz (aj<|aL cm (au 0)<|aj<|aH<|.int 1)<|aj<|aL iw (aj<|aL cm (au 0)<|aj<|aH<|.int 2)<|aj<|aH<|.int 104729)<|aj<|aH<|.int 48271)<|aj<|aH<|.int 2305843009213693951)<|bE (i5 (aL fg (aj<|aL iw (au 3)<|aj<|aL dz (aj<|aL fg (au 3)<|aj<|aH<|.int 1009)<|aj<|aH<|.int 69621)<|aj<|aH<|.int 2305843009213693951)<|l6 0 (aH<|.int 1) oI)<|dA<|aL fg (aj<|aL iN (aj<|aL cm (au 0)<|aj<|aH<|.int 1)<|aj<|aH<|.int 1000003)<|au 1))
def ff:dR:=(ed 2 4 [0,1] w3)
def z9:bM:=((dA<|eO<|av (aj<|di<|av (aj<|aL pz (aj<|aL cm (au 0)<|aj<|aH<|.int 0)<|aj<|aH<|.int 1)<|av (aj<|aL cm (au 0)<|aj<|aH<|.int 1) aE)<|av (aj<|di<|av (aj<|aL cm (au 0)<|aj<|aH<|.int 0)<|av (aj<|aL pz (aj<|aL cm (au 0)<|aj<|aH<|.int 1)<|aj<|aH<|.int 1) aE)<|av (aj<|di<|av (aj<|aL cm (au 0)<|aj<|aH<|.int 0)<|av (aj<|aL dz (aj<|aL cm (au 0)<|aj<|aH<|.int 1)<|aj<|aH<|.int 1) aE)<|av (aj<|di<|av (aj<|aL dz (aj<|aL cm (au 0)<|aj<|aH<|.int 0)<|aj<|aH<|.int 1)<|av (aj<|aL cm (au 0)<|aj<|aH<|.int 1) aE) aE))
def iZ:dR:=(ed 1 1 [0] z9)
def rP:az ak:=((di<|av (au 0)<|av (aj<|aH<|.aG ab) aE))
def mH:bM:=((el (ik (b3<|aL mc (au 5)<|au 2)<|b3<|aL k6 (au 5)<|au 3) (bE (i5 (aH<|.aG ab)<|l6 3 (fv 5) ot)<|gL<|fE fX 4 fs<|av (au 5) aE) gQ))
def uM:az Bool:=((b3<|aL gn (au 4)<|aj<|eO aE))
def yk:bM:=((e5 (cn<|aj<|bG 1 G.iZ<|av (aj<|fE fX 4 kS aE) aE) (bu 5) G.mH))
def zf:bM:=((bE (bZ 2<|bT kV<|av (aj<|cP 1 [] (cn<|au 0) (bu 0) dS G.rP) aE)<|bE (bZ 3<|BF (fv 1)<|aH<|.aG ab)<|bE (bZ 4<|eO<|av (au 1) aE)<|bE (j0 G.uM G.yk 1000000)<|dA<|bT ib<|av (aj<|bT nM<|av (au 3) aE) aE))
def tq:dR:=(ed 2 6 [0,1] zf)
def ta:bM:=((bE (bZ 4<|aL cm (aj<|bG 1 G.iZ<|av (aj<|aL cm (au 2)<|aj<|bG 2 G.ff<|av (au 0)<|av (aj<|bT dt<|av (au 2) aE) aE) aE)<|aj<|bG 2 G.ff<|av (au 0)<|av (aj<|aH<|.int 4) aE)<|el (ik (b3<|aL k6 (au 4)<|au 2)<|ik (b3<|mf il il (aj<|aH<|.int 0) (aj<|aL cm (au 4)<|aj<|aH<|.int 0)<|aj<|aH<|.int 24)<|b3<|mf il il (aj<|aH<|.int 0) (aj<|aL cm (au 4)<|aj<|aH<|.int 1)<|aj<|aH<|.int 24) (gL<|fE fX 2 fs<|av (au 4) aE) gQ))
def Ab:bM:=((bE (bZ 2<|eO<|av (aj<|di<|av (aj<|aH<|.int 12)<|av (aj<|aH<|.int 12) aE) aE)<|bE (e5 (iK<|av (aj<|bG 2 G.ff<|av (au 0)<|av (au 1) aE) aE) (bu 3) G.ta)<|dA<|fv 2))
def ow:dR:=(ed 2 5 [0,1] Ab)
def xD:az ak:=((di<|av (aj<|aL iN (au 0)<|au 1)<|av (aj<|aL fg (au 0)<|au 1) aE))
def pf:bM:=((gL<|fE fX 5 qV<|av (aj<|bG 2 G.ff<|av (au 0)<|av (aj<|bT dt<|av (au 5) aE) aE) aE))
def xj:az ak:=((fv 0))
def rA:az Bool:=((b3<|aL d_ (aj<|aL iw (aj<|aL fg (aj<|aL cm (au 0)<|aj<|aH<|.int 0)<|aj<|aH<|.int 2)<|aj<|aL fg (aj<|aL fg (aj<|aL cm (au 0)<|aj<|aH<|.int 1)<|aj<|aH<|.int 3)<|aj<|aH<|.int 2)<|aj<|aH<|.int 0))
def mM:az ak:=((aL cm (aj<|eO<|av (aj<|aH<|.int 0)<|av (aj<|aH<|.int 0)<|av (aj<|aH<|.int 6)<|av (aj<|aH<|.int 3) aE)<|aj<|bG 2 G.ff<|av (au 1)<|av (aj<|aH<|.int 4) aE))
def uv:az ak:=((di<|av (aj<|aL dz (aj<|aL cm (au 0)<|aj<|aH<|.int 0)<|au 1)<|av (aj<|aL dz (aj<|aL cm (au 0)<|aj<|aH<|.int 1)<|au 2) aE))
def C0:bM:=((bE (bZ 2<|bG 2 G.ff<|av (au 0)<|av (aj<|aH<|.int 6) aE)<|bE (bZ 3<|aL dz (aj<|aH<|.int 1)<|aj<|bG 2 G.ff<|av (au 0)<|av (aj<|aH<|.int 7) aE)<|bE (bZ 4<|aL dz (aj<|aH<|.int 1)<|aj<|bG 2 G.ff<|av (au 0)<|av (aj<|bT ka<|av (aj<|aH<|.int 1)<|av (aj<|bT mB<|av (aj<|aH<|.int 7)<|av (aj<|aL iN (au 1)<|au 3) aE) aE) aE)<|bE (bZ 5<|cP 1 [3] (iK<|av (aj<|aL iw (au 4)<|au 3) aE) (bu 0) dS G.xD)<|bE (el (jU (b3<|aL d_ (au 2)<|aj<|aH<|.int 1)<|b3<|aL d_ (au 2)<|aj<|aH<|.int 2) (e5 (iK<|av (aj<|bG 2 G.ff<|av (au 0)<|av (aj<|aL dz (aj<|aH<|.int 1)<|aj<|aL iN (aj<|bT dt<|av (au 5) aE)<|aj<|aH<|.int 2) aE) aE) (bu 6) G.pf)<|el (b3<|aL d_ (au 2)<|aj<|aH<|.int 3) (bZ 5<|cP 1 [] (cn<|au 5) (bu 0) G.rA G.xj)<|el (b3<|aL lH (au 2)<|aj<|aH<|.int 3) (bZ 5<|bG 2 G.ow<|av (au 0)<|av (au 1) aE) gQ)<|bE (bZ 7<|bG 2 G.tq<|av (au 5)<|av (aj<|aL cm (au 5)<|aj<|bG 2 G.ff<|av (au 0)<|av (aj<|bT dt<|av (au 5) aE) aE) aE)<|bE (i5 (cP 1 [0] (iK<|av (aj<|aH<|.int 2) aE) (bu 0) dS G.mM)<|sL 2<|fl (bu 8)<|fl (bu 9) jq)<|dA<|bT ib<|av (aj<|cP 1 [8,9] (cn<|au 7) (bu 0) dS G.uv) aE))
def qA:dR:=(ed 2 10 [0,1] C0)
def pY:bM:=((i5 (aH<|.aG ab)<|l6 1 (fv 2) ot))
def CR:bM:=((bE (bZ 1 yi)<|bE (e5 (cn<|au 0) (bu 2) G.pY)<|dA<|fv 1))
def rl:dR:=(ed 1 3 [0] CR)
def M5:bM:=((bE (bZ 1<|aL cm (au 0)<|aj<|aH<|.int 0)<|bE (bZ 2<|aL cm (au 0)<|aj<|aH<|.int 1)<|dA<|eO<|av (aj<|di<|av (aj<|aL pz (au 1)<|aj<|aH<|.int 1)<|av (au 2) aE)<|av (aj<|di<|av (au 1)<|av (aj<|aL pz (au 2)<|aj<|aH<|.int 1) aE)<|av (aj<|di<|av (au 1)<|av (aj<|aL dz (au 2)<|aj<|aH<|.int 1) aE)<|av (aj<|di<|av (aj<|aL dz (au 1)<|aj<|aH<|.int 1)<|av (au 2) aE) aE))
def yc:dR:=(ed 1 3 [0] M5)
def Ha:az ak:=((ht<|ik (b3<|n3 "int"<|au 0)<|b3<|ht<|jz<|b3<|n3 "bool"<|au 0))
def uk:bM:=((bE (el (jU (jz<|j7<|aj<|n3 "tuple"<|au 2)<|jU (b3<|aL gn (aj<|bT dt<|av (au 2) aE)<|aj<|aH<|.int 2)<|b3<|aL k6 (au 2)<|au 0) (dA<|aH<|.aG ax) gQ)<|el (jz<|j7<|aj<|bT mT<|av (aj<|cP 1 [] (cn<|au 2) (bu 0) dS G.Ha) aE) (dA<|aH<|.aG ax) gQ))
def F2:az ak:=((aL mc (au 1)<|aj<|bG 1 G.iZ<|av (au 0) aE))
def z_:bM:=((bE (el (jU (jz<|j7<|aj<|n3 "tuple"<|au 1)<|b3<|aL d_ (aj<|bT dt<|av (au 1) aE)<|aj<|aH<|.int 0) (dA<|aH<|.aG ax) gQ)<|bE (e5 (cn<|au 1) (bu 2) G.uk)<|dA<|bT mT<|av (aj<|cP 2 [] (l0<|av (au 1)<|av (aj<|gr (au 1) (hM<|aH<|.int 1) hq) aE) (kx 2<|fl (bu 0)<|fl (bu 1) jq) dS G.F2) aE))
def qB:dR:=(ed 2 3 [0,1] z_)
end G
namespace L2
open Spec PySem.Calls PyProof.Rows
end L2
namespace L2
open Spec PyProof.Rows
section
open PySem.SeqAt
open PySem.AutoSeq1 (wpAny_loadPart')
open PySem.MeetsSeq PySem.MeetsSeq2 PySem.MeetsSeq3
end
end L2
namespace c6
def ev{Ry:Type}:List Ry->List Ry
 |[]=>[]
 |[g]=>[g]
 |g::_::p=>g::ev p
open Spec PyProof.Rows
end c6
namespace L2
open Spec PyProof.Rows
end L2
namespace G
open L2
end G
namespace L2
open Spec PyProof.Rows PySem.W
section
variable{b:aK}
def d5(a:Int):Int:=(hashInt a)
def DR(h:Int×Int):Int:=(yA (bq.Tuple.tupleHashOf [d5 h.1,d5 h.2]))
def n1(h:Int×Int):List V:=([.int h.1,.int h.2])
end
end L2
namespace L2
open Spec PyProof.Rows
end L2
namespace G
open L2
end G
namespace L2
open Spec PyProof.Rows
end L2
namespace L2
end L2
namespace L2
open Spec PyProof.Rows
end L2
namespace L2
open Spec PyProof.Rows PySem.W SeqAt
variable{R7 Se Rl:Pos}{Y c:a8}{id:String}{name:aC}{Sf:aU->Option V}{a v:Nat}{j:aw}{n:List V}{p:List (List V×List V)}{o:List V×List V}
def ks(Rd:List (List V×List V))(n:List V):Option (List V):=((Rd.find? λo=>decide (o.1=n)).map (·.2))
def iB(Rd:List (List V×List V))(n:List V)(C:List V):List (List V×List V):=(Rd.map λo=>if o.1=n then (o.1,C) else o)
def Bh(c:o.1=n):ks (o::p) n=Z o.2:=by simp[ks,iQ,c]
def DU(c:¬ o.1=n):ks (o::p) n=ks p n:=by simp[ks,iQ,c]
theorem fK.keys:∀{C:List (List V×List V)}{t:List (List V×ah)}{Q9:List ar},fK j C t Q9->t.map (·.1)=C.map (·.1)
 |[],_,_,e=>by rw[e.1];rfl
 |o::p,_,_,e=>by
  let⟨f,x,D,b,rfl,k,l,a,rfl⟩:=e;rw[bV,bV,a.keys]
theorem fK.at_{E:List V}:∀{C:List (List V×List V)}{t:List (List V×ah)}{Q9:List ar},fK j C t Q9->Q9.Nodup->ks C n=Z E->(C.map (·.1)).Nodup->
  ∃f x,gE t n=Z (.ref f)/\j f=Z (.lst x)/\bA j E x/\f∈Q9/\∀F d a,e4 j F->(∀g∈Q9,g≠f->∀Y,j g=Z Y->F g=Z Y)->F f=Z (.lst d)->bA F a d->fK F (iB C n a) t Q9
 |[],_,_,_,_,c,_=>by cases c
 |o::p,_,Q9,e,ai,c,h=>by
  let⟨f,x,D,s,rfl,k,l,u,rfl⟩:=e;have ai:=e6.mp ai;rw[bV]at h;have h:=e6.mp h;by_cases b:o.1=n
  ·rw[Bh b]at c;cases c;refine⟨f,x,q6 b,k,l,.head _,λF d a B keep q U=>?_⟩;have hL:iB p n a=p:=by
    unfold iB;refine (g_ λr y=>?_).trans (xt p);have:¬ r.1=n:=λi=>h.1 (dZ.mpr ⟨r,y,by rw[i,b]⟩);rw[aD this];rfl
   have:iB (o::p) n a=(o.1,a)::p:=by
    unfold iB;rw[bV,aB b];exact congrArg _ hL
   rw[this];exact⟨f,d,D,s,rfl,q,U,u.mono B λg m Y c=>keep g (.tail _ m) (λi=>ai.1<|i ▸ m) Y c,rfl⟩
  ·rw[DU b]at c;let⟨v,Rj,A,G,H,w,I⟩:=u.at_ ai.2 c h.2;refine⟨v,Rj,(qv b).trans A,G,H,.tail _ w,λF d a B keep q U=>?_⟩;have:iB (o::p) n a=o::iB p n a:=by
    unfold iB;rw[bV,aD b]
   rw[this];have z:f≠v:=λi=>ai.1 (i ▸ w);exact⟨f,x,D,s,rfl,keep f (.head _) z _ k,l.mono B.tup,I F d a B (λg m=>keep g<|.tail _ m) q U,rfl⟩
def By(z:bP)(a:aU->Option V):Prop:=(∀y w j P u A,br j y w P->a y=Z u->(∀q,cg j u q->A q j)->z w j A)
@[simp] def iD(v:Nat):aU->Option V:=λy=>match y[v]? with
 |some (Z<|.im u)=>Z u
 |_=>X
@[simp] def j1(v s:Nat):aU->Option V:=λy=>match y[v]? with
 |some (Z<|.im<|.tup E)=>E[s]?
 |_=>X
def Ms:By (hl v) (iD v):=by
 intro y w j P u A J c r;unfold iD at c;split at c
 ·rename_i a hd;cases c;let⟨q,k,l⟩:=J.c4 hd rfl;exact⟨q,k,r q l.1⟩
 ·cases c
section
variable{b:aK}
def oy(b:aK)(c:a8)(a:aU->Option V):Prop:=(∃z,bx b c z/\By z a)
def sq(e:bx b c (hl v)):oy b c (iD v):=⟨_,e,Ms⟩
def rL{s:Nat}{H:Int}{g f:a8}(a:bx b g (hl v))(e:bx b f (nZ<|.int H))(h:pQ f:=by exact λ_ Y=>rfl)(i:H=s:=by decide):oy b (.Subscript g f Rl) (j1 v s):=by
 subst i;refine⟨_,Ej ET a e h,λy w j P u A J c r=>?_⟩;unfold j1 at c;split at c
 ·rename_i E hd;let⟨q,k,l⟩:=J.c4 hd rfl;let⟨o,x,rfl,m,n⟩:=l.1;let⟨d,p,t⟩:=n.get c;exact⟨_,k,o,x,s,d,rfl,rfl,.of m,HX p,r d t⟩
 ·cases c
@[simp] def hN(a:Nat)(Sf:aU->Option V)(a0:ak->List ak->Option (ak×ak))(b:aU->Option (List V)):az ak:=λy=>match y[a]?,Sf y,b y with
 |some (Z<|.dL Rd),Z<|.tup n,Z c=>if V.keys 7 n=ab/\(Rd.map (·.1)).Nodup then match ks Rd n with
   |some C=>match a0 (.lst C) (c.map .im) with
    |some (.im p,.lst d)=>Z (.im p,y.set a<|Z<|.dL<|iB Rd n d)
    |_=>X
   |none=>X
  else X
 |_,_,_=>X
def DN{R:Φ}{a0:ak->List ak->Option (ak×ak)}{z:aU->Option (List V)}{w:aX}{A:b2}(e:k8 (hN a Sf a0 z) w j A):
  ∃y P g n o,br j y w P/\w[a]?=Z (Z<|.ref g)/\Sf y=Z (.tup n)/\z y=Z o/\∀i,cg j (.tup n) i->∃f,eS j g i (Z<|.ref f)/\kI R "list" (.ref f) j/\∀ae,bA j o ae->
   ∃h E p D Q8 Rk,b_ j h (.ref f) Q8/\dE j E ae Rk/\(Q8++Rk).Nodup/\a0 h E=Z (p,D)/\∀q F s bI,b_ F p q s->b_ F D (.ref f) bI->a5 j (Q8++Rk) F (s++bI)->A q F:=by
 let⟨y,P,p,Rw,J,ai,b,r⟩:=e;unfold hN at b;split at b
 ·rename_i Rd n o al am an;split at b
  ·rename_i G;split at b
   ·rename_i C ap;split at b
    ·rename_i RS u as;cases b;let⟨v0,ds,RB,H,⟨g,U,Q9,rfl,k,l,rfl⟩,a1,S⟩:=J.out al;have I:=c7.mp ((S.nodup_iff).mpr ai);have M:=e6.mp I.2.1;let⟨f,x,a2,N,bd,v,be⟩:=l.at_ M.2 ap G.2;have bi:g≠f:=λc=>M.1 (c ▸ v);have O:f∈P:=S.mem_iff.mp (en _<|.tail _ v);refine⟨y,P,g,n,o,J,H,am,an,λi bm=>?_⟩;let⟨ew,Ru,rfl,RP,RJ⟩:=bm;refine⟨f,by rw[<-a2];exact eS.t k ⟨G.1,ew,Ru,rfl,RP,RJ⟩,.inl ⟨rfl,x,cW.of N⟩,λae bn=>?_⟩;refine⟨.lst C,o.map .im,_,.lst u,[f],[],⟨f,x,rfl,N,bd,rfl⟩,sR bn,by rw[b5];exact e3 _ _,as,λq F s bI cY bs m=>?_⟩;let⟨cY,rfl⟩:=cY;let⟨eq,bv,c,ca,cd,rfl⟩:=bs;cases c;have own:b_ F (.dL<|iB Rd n u) (.ref g) (g::Q9):=⟨g,U,Q9,rfl,m.keep g _ k ⇑bi,be F bv u m.tup (λh Q ce Y c=>m.keep h Y c ⇑ce) ca cd,rfl⟩;have ch:br F (y.set a<|Z .ek) w RB:=a1.mono m.tup λh Q Y c=>m.keep h Y c (by
      rw[b5,cV];intro ci;exact I.2.2 h Q f (.tail _ v) ci)
     let⟨cl,co,T,cr⟩:=ch.back own H;rw[rd]at T;have L:a5 j P j ([f]++P.erase f):=a5.perm ai (Bm O).symm;have cs:=L.trans (Q8:=P.erase f) (by rw[b5]at m;exact m) λd db=>J.chg d (DJ db);refine r q F cl [] T ⟨cY,rfl⟩ (cs.less (aP:=co) ?_);rw[b5];exact cr.trans (S.trans<|Bm O)
    ·cases b
   ·cases b
  ·cases b
 ·cases b
variable{n:a8}
def Kg{a0:ak->List ak->Option (ak×ak)}(d:b.A.units+20<bJ)(h:m9 "list" name id)(k:lU (.builtin id)=pure (.type "method_descriptor"))(l:kG b id a0)(m:bx b Y (hl a))(c:oy b n Sf)(o:pl n:=by exact λ_ W=>rfl)(p:lx (.Subscript Y n Rl) name b.env (bR (.Subscript Y n Rl) b.env)=bR (.Subscript Y n Rl) b.env:=by rfl)(q:(Se.endLine==R7.line)=ab:=by rfl):
  cf b (.Call (.Attribute (.Subscript Y n Rl) name Se) [] [] R7) (hN a Sf a0 λ_=>Z []):=by
 let⟨RN,c,s⟩:=c;exact dX (zt Eu h k l (xQ d m c o) p q) λw j A e=>by
  let⟨y,P,g,n,D,J,t,u,v,r⟩:=DN e;cases v;refine⟨_,t,s y w j P _ _ J u λi x=>?_⟩;let⟨f,z,B,C⟩:=r i x;exact⟨g,.ref f,rfl,z,B,C [] rfl⟩
def yg{l:aU->Option V}{a0:ak->List ak->Option (ak×ak)}(o:b.A.units+20<bJ)(p:m9 "list" name id)(s:lU (.builtin id)=pure (.type "method_descriptor"))(t:kG b id a0)(v:bx b Y (hl a))(h:oy b n Sf)(k:oy b c l)(x:pl n:=by exact λ_ W=>rfl)(B:lx (.Subscript Y n Rl) name b.env (bR (.Subscript Y n Rl) b.env)=bR (.Subscript Y n Rl) b.env:=by rfl)(C:((eT R7<|bF [c] b.env).all (λd=>!d.1)&&(qb R7<|ru [] b.env).all (λd=>d.1.isSome)
   && decide ([c].length+([]:List js).length+(if ([]:List js).isEmpty then 0 else 1)<30))=ab:=by rfl)(D:(Se.endLine==R7.line)=ab:=by rfl)(m:bF [c] b.env=(ax,bR c b.env)::bF [] b.env:=by rfl)(E:(eT R7<|bF [] b.env).any (·.1)=ax:=by rfl):
  cf b (.Call (.Attribute (.Subscript Y n Rl) name Se) [c] [] R7) (hN a Sf a0 λy=>(l y).map λu=>[u]):=by
 let⟨RN,h,F⟩:=h;let⟨z,k,G⟩:=k;exact dX (BB Eu p s t (xQ o v h x) (r8 k wM m) B C D m E) λw j A e=>by
  let⟨y,P,g,n,U,J,H,I,L,r⟩:=DN e;let⟨u,M,rfl⟩:=cw.mp L;refine⟨_,H,F y w j P _ _ J I λi N=>?_⟩;let⟨f,Q,R,S⟩:=r i N;refine⟨g,.ref f,rfl,Q,R,G y w j P _ _ J M λq T=>?_⟩;exact S [q] ⟨q,[],rfl,T,rfl⟩
@[simp] def o1(a:Nat)(Sf:aU->Option V):az Bool:=λy=>match y[a]?,Sf y with
 |some (Z<|.dL Rd),Z (.tup n)=>if V.keys 7 n=ab/\(Rd.map (·.1)).Nodup then (ks Rd n).map λC=>(!C.isEmpty,y) else X
 |_,_=>X
def L7(p:b.A.units+20<bJ)(s:bx b Y (hl a))(e:oy b n Sf)(v:pl n:=by exact λ_ W=>rfl)(z:∀m,mz (.Subscript Y n Rl) b.env m=(do let q <-m;standAt (a8.Subscript Y n Rl).pos;holding [q] (sv q)):=by intro W;rfl):ha b (.Subscript Y n Rl) (o1 a Sf):=by
 let⟨RN,e,D⟩:=e;refine pT (DK (xQ p s e v) z) λw j A E=>?_;let⟨y,P,h,Rw,J,ai,d,r⟩:=E;unfold o1 at d;split at d
 ·rename_i Rd T F G;split at d
  ·rename_i o;let⟨C,H,c⟩:=cw.mp d;cases c;let⟨v0,al,RB,I,⟨g,U,Q9,rfl,k,l,rfl⟩,am,S⟩:=J.out F;have L:=c7.mp ((S.nodup_iff).mpr ai);let⟨f,x,M,N,Q,an,ap⟩:=l.at_ (e6.mp L.2.1).2 H o.2;refine⟨_,I,D y w j P _ _ J G λi R=>?_⟩;let⟨ew,Ru,rfl,RP,RJ⟩:=R;exact⟨g,.ref f,rfl,by rw[<-M];exact eS.t k ⟨o.1,ew,Ru,rfl,RP,RJ⟩,_,FI (u:=.lst C) ⟨[f],f,x,rfl,N,Q,rfl⟩ rfl,r j P J<|a5.perm ai<|List.Perm.refl _⟩
  ·cases d
 ·cases d
theorem fK.snoc{j:aw}{n:List V}{E:List V}{x:List ah}{f:ar}(k:j f=Z (.lst x))(l:bA j E x):∀{C:List (List V×List V)}{t:List (List V×ah)}{Q9:List ar},fK j C t Q9->fK j (C++[(n,E)]) (t++[(n,.ref f)]) (Q9++[f])
 |[],t,Q9,e=>by let⟨rfl,rfl⟩:=e;exact⟨f,x,[],[],rfl,k,l,⟨rfl,rfl⟩,rfl⟩
 |o::p,t,Q9,e=>by
  let⟨a,Rj,D,g,rfl,b,c,d,rfl⟩:=e;exact⟨a,Rj,_,_,rfl,b,c,fK.snoc k l d,rfl⟩
@[simp] def wR:ak->Option (List<|List V×List V)
 |.aS []=>Z []
 |.dL Rd=>Z Rd
 |_=>X
def putL(h n u:ak):Option ak:=(match wR h,n,u with
 |some Rd,.im<|.tup n,.lst C=>if V.keys 7 n=ab/\Rd.length<100000/\n∉Rd.map (·.1) then Z (.dL<|Rd++[(n,C)]) else X
 |_,_,_=>X)
def LV{h:ak}{Y:ah}{Q8:List ar}{Rd:List (List V×List V)}(e:b_ j h Y Q8)(c:wR h=Z Rd):∃g U Q9,Y=.ref g/\j g=Z (.aS U)/\fK j Rd U Q9/\Q8=g::Q9:=by
 unfold wR at c;split at c
 ·cases c;let⟨g,U,rfl,k,l,rfl⟩:=e;cases l;exact⟨g,[],[],rfl,k,⟨rfl,rfl⟩,rfl⟩
 ·cases c;exact e
 ·cases c
def IM(v:b.A.units+20<bJ):qx b putL:=by
 intro G m w j Y a q as a1 I A t E y D F;let⟨h,n,u,a2,Q8,Rk,H,L,N,ai,c,r⟩:=F;unfold putL at c;split at c
 ·rename_i Rd n C e;split at c
  ·rename_i i;cases c;let⟨g,U,Q9,rfl,k,l,rfl⟩:=LV H e;let⟨f,x,rfl,Q,R,rfl⟩:=N;let⟨ew,Ru,rfl,RP,RJ⟩:=L.1;cases E;have R8:eV j g:=⟨_,k,(λ_ c=>by cases c),(λ_ W c=>by cases c)⟩;have S:U.length=Rd.length:=by have:=congrArg List.length l.keys;rwa [bH,bH]at this
   have RU:fe U n (.ref f)=U++[(n,.ref f)]:=by
    unfold fe;rw[aD];intro z;let⟨o,al,c⟩:=pn.mp z;refine i.2.2 ?_;rw[<-l.keys];exact dZ.mpr ⟨o,al,g9 c⟩
   have s:=c7.mp ai;have am:=e6.mp s.1;have gi:g≠f:=λz=>s.2.2 g (.head _) f (.head _) z;refine tb v t (kD.t k ⟨i.1,ew,Ru,rfl,RP,RJ⟩ (by rw[S];exact q5 i.2.1)) y D λT an=>⟨_,an,r _ (g::(Q9++[f])) ?_ ?_⟩
   ·rw[RU];have J:=(a5.chg (M:=.aS (U++[(n,.ref f)])) (P:=[g]) (Rr:=[]) (.head _) R8 jo<|λd p=>nomatch p).tup;have ap:=(l.snoc (n:=n) Q R).mono J λh e Y c=>by
     rw[cR]
     ·exact c
     ·rintro rfl;rcases dY.mp e with z|z
      ·exact am.1 z
      ·exact gi (cV.mp z)
    exact⟨g,_,_,rfl,ec,ap,rfl⟩
   ·exact a5.chg (.head _) R8 ai λd p=>p
  ·cases c
 ·cases c
def LC(C:ar)(Rm:Array af)(s:Nat)(d:af)(c:af->Bool)(v:Nat)(j:v<Rm.size)(q:c Rm[v]=ab)(n:Nat)(o:Rm.size<=sizeLine):
  ∀a:Nat,v-a=n->a<=v->(∀H (p:H<Rm.size),a<=H->H<v->c Rm[H]=ax)->qd (bq.«list.remove.loop» ⟨[.ref C,d,jn a],[]⟩)
   (λO Q8 m=>m.heap.get? C=Z {cls:=.type "list",dict:=X,data:=.seq Rm s,slots:=#[]}/\(∀i,i∈Rm->EqAt O.in1 m i d (c i))/\Q8 (.ok<|.ret .none) {m with heap:=m.heap.update C (a6.mapSeq λx=>x.eraseIdxIfInBounds v)}):=by
 induction n with
 |zero=>
  intro a r t g Q_ D O Q8 m e;let⟨w,L,u,RN,Rq⟩:=m;let⟨b,f,e⟩:=e;have y:a=v:=by omega
  subst y
  wp_walk using wpAny_loadPart' b
  have U:Rm[((a:Nat):Int).toNat]?=Z Rm[a]:=by simp[j]
  rw[U];refine ay (f _ (zu j) Q_ D _ _ ?_);rw[q];have z:(Rm.eraseIdxIfInBounds a).size<=sizeLine+1:=dD (MeetsSeq.size_erased Rm _) (yE o)
  wp_walk using (uz b rfl (hz:=o) (_hz':=z)),wpAny_loadPart' b
  simpa using e
 |succ n A=>
  intro a r t g Q_ D O Q8 m e;let⟨w,L,u,RN,Rq⟩:=m;let⟨b,f,e⟩:=e;have h:a<Rm.size:=by omega
  wp_walk using wpAny_loadPart' b
  have U:Rm[((a:Nat):Int).toNat]?=Z Rm[a]:=by simp[h]
  have B:((a:Int)+1)=((a+1:Nat):Int):=by push_cast;rfl
  rw[U];refine ay (f _ (zu h) Q_ D _ _ ?_);rw[g a h (bD _) (by omega)]
  wp_walk
  rw[B];exact⟨jl rS _,jS Dd (by
   rw[km rS _];exact A (a+1) (by omega) (by omega) (λH p k l=>g H p (by omega) l) Q_ D O Q8 _ ⟨b,f,e⟩)⟩
def Nn(C:ar)(Rm:Array af)(s:Nat)(d:af)(c:af->Bool)(v:Nat)(f:v<Rm.size)(g:c Rm[v]=ab)(h:∀H (a:H<Rm.size),H<v->c Rm[H]=ax)(j:Rm.size<=sizeLine):
  qd (bq.«list.remove» ⟨[.ref C,d],[]⟩)
   (λO Q8 m=>m.heap.get? C=Z {cls:=.type "list",dict:=X,data:=.seq Rm s,slots:=#[]}/\(∀i,i∈Rm->EqAt O.in1 m i d (c i))/\Q8 (.ok<|.ret .none) {m with heap:=m.heap.update C (a6.mapSeq λx=>x.eraseIdxIfInBounds v)}):=by
 intro Q_ D O Q8 m e;let⟨n,L,u,RN,Rq⟩:=m;let⟨b,k,e⟩:=e
 wp_walk using wpAny_loadPart' b
 exact⟨jl rS _,jS Dd (by
  rw[km rS _];exact LC C Rm s d c v f g _ j 0 rfl (hY _) (λH a Y l=>h H a l) Q_ D O Q8 _ ⟨b,k,e⟩)⟩
@[simp] def qg:ak->List ak->Option (ak×ak):=λh E=>match h,E with
 |.lst x,[.im u]=>if (V.bw 8 u&&V.ct 8 x)=ab then (mE x u).map λv=>(.im .aW,.lst<|x.eraseIdx v) else X
 |_,_=>X
def HB(be:b.A.units+20<bJ):kG b "list.remove" qg:=by
 intro G m w j d ae q Rv A t L M N;let⟨h,E,p,bi,Q8,Rk,Q,R,ai,c,r⟩:=N;unfold qg at c;split at c
 ·rename_i x u;split at c
  ·rename_i a;rw[cF]at a;let⟨v,S,T⟩:=cw.mp c;cases T;let⟨g,Rj,rfl,k,l,rfl⟩:=Q;let⟨i,B,bm,bn,rfl,⟨U,rfl⟩,⟨rfl,rfl⟩,rfl⟩:=R;cases L;let⟨I,rfl,al⟩:=M.one;have R8:eV j g:=⟨_,k,(λ_ c=>by cases c),(λ_ Y c=>by cases c)⟩;let⟨am,Rf,s,n,an,e⟩:=t.gb k;have o:=l.ea t.aZ n;let⟨D,ap,as,a1⟩:=B0 a.2 o S;let⟨y,f⟩:=fR.mp ap;refine lO F.slot_list_remove ⟨_,e,rfl⟩ F.entry_list_remove (F.args_list_remove_2 _ _) (Nn g Rf.toArray s I (iC m.heap u) v ⇑y (by simpa [f] using as) (λH bs a2=>a1 H _ a2 ↥0) (by rw[cH,<-an];exact am)) ⟨e,λD f=>?_,?_⟩
   ·let⟨bv,z,C⟩:=mv a.2 o ⇑f;rw[j3 z C];exact gW 8 z a.1 (by show b.A.units+1+8+1<bJ;lia) C (U.ea t.aZ al)
   ·refine⟨.aW,_,t.p6 (J:=Rf.eraseIdx v) k e (by simp[Array.eraseIdxIfInBounds,y]) (n.eraseIdx v) (by rw[BE];split<;>lia),rfl,?_⟩;exact r .aW _ [] [g] ⟨rfl,rfl⟩ ⟨g,_,rfl,ec,(l.erase v).mono<|cg.jC R8,rfl⟩ (a5.chg (.head _) R8 (e3 _ _) λd bd=>by simpa using bd)
  ·cases c
 ·cases c
end
end L2
namespace L2
end L2
namespace L2
open Spec PyProof.Rows PySem.W SeqAt
end L2
namespace L2
open Spec PyProof.Rows PySem.W
section
variable{b:aK}
@[simp] def n_(a v:Nat)(N:Int->Int->Int)(s:Int):bM:=λy=>match y[a]?,y[v]? with
 |some (Z<|.aS Rd),Z (Z<|.im<|.tup n)=>if V.keys 7 n=ab/\Rd.length<100000 then (match dW Rd n with
   |some (.int d)=>Z (.bj,y.set a<|Z<|.aS<|fq Rd n<|.int<|N d s)
   |_=>X) else X
 |_,_=>X
def Dc{RE:List Nat}{a v:Nat}{Y D H:a8}{RL:m5}{N:Int->Int->Int}{s:Int}{C Rl:Pos}(R:b.A.units+20<bJ)(S:bx b Y (hl a))(T:bx b D (hl v))(al:bx b H (nZ<|.int s))(am:CM b RL (Cs N))(ci:a∉RE)(an:∀o p new,augStore D o p new=(do holding [new,o,p] (oY o p new);release [new,o,p] [];pure .next):=by intros;rfl):hK b RE (.AugAssign (.Subscript Y D C) RL H Rl) (n_ a v N s):=by
 refine ku (Kd R S T al am an) λQ7 w j ap=>?_;let⟨y,P,aT,Rw,J,ai,m,r⟩:=ap;unfold n_ at m;split at m
 ·rename_i Rd n U as;split at m
  ·rename_i E;split at m
   ·rename_i d F;cases m;let⟨q,cl,G,L,cY,M,z⟩:=J.out U;let⟨i,a1,a2⟩:=J.c4 as rfl;let⟨g,Rj,rfl,k,l,rfl⟩:=cY;let⟨f,x,rfl,RP,RJ⟩:=a2.1;let⟨bd,be,bi⟩:=(lZ l).1 _ F;cases (show bd=.int d from bi);have h:eV j g:=⟨_,k,(λ_ c=>by cases c),(λ_ W c=>by cases c)⟩;refine⟨_,L,_,a1,g,.int d,rfl,by rw[<-be];exact eS.t k ⟨E.1,f,x,rfl,RP,RJ⟩,d,s,rfl,rfl,_,kD.t k ⟨E.1,f,x,rfl,RP,RJ⟩ (by rw[<-l.length];exact q5 E.2),?_⟩;have I:a5 j [g] (upd j g<|.aS<|fe Rj n<|.int<|N d s) [g]:=a5.chg (.head _) h (e3 _ _) λd F=>by simpa using F
    have z:=c2.trans z;have bm:([g]++G).Nodup:=z.nodup_iff.mpr ai;have bn:=c7.mp bm;have bs:br (upd j g<|.aS<|fe Rj n<|.int<|N d s) (y.set a<|Z .ek) w G:=M.mono I.tup λf bv Y c=>I.keep f Y c λe=>bn.2.2 f e f bv rfl;have ca:b_ (upd j g<|.aS<|fe Rj n<|.int<|N d s) (.aS<|fq Rd n<|.int<|N d s) (.ref g) [g]:=⟨g,_,rfl,ec,(d7.put (u:=.int (N d s)) (q:=.int (N d s)) rfl l).mono<|cg.jC h,rfl⟩;let⟨cd,Q9,Q,ce⟩:=bs.back ca L;rw[rd]at Q;have ch:a5 j P j ([g]++G):=a5.perm ai z;exact r w _ cd c9.refl Q ((ch.trans I M.chg).less<|ce.trans c2)
   ·cases m
  ·cases m
 ·cases m
end
end L2
namespace L2
open Spec PyProof.Rows
variable{v a:Int}{d:aC}
structure t7(R:Φ)(aO:aC->Option af)(d:aC)(a v:Int):Prop where
 ex:∃h B I s m,aO d=Z (.ref h)/\R.lookup h=Z ⟨.type "tuple",X,.seq #[.int a B,.int v I] s,m⟩
def t7.mk'{R:Φ}{aO:aC->Option af}{h:ar}{B I:hU}{s:Nat}{m:Array (Option af)}(e:aO d=Z (.ref h))(n:R.lookup h=Z ⟨.type "tuple",X,.seq #[.int a B,.int v I] s,m⟩):t7 R aO d a v:=⟨_,_,_,_,_,e,n⟩
section
variable{b:aK}
def tT{Rl:Pos}(c:eU b d)(e:t7 b.K b.aO d a v)(hd:(d==("__debug__" : aC))=ax:=by decide):cf b (.Name d Rl) (aH<|.tup [.int a,.int v]):=by
 intro o m w j A t f;let⟨h,B,I,s,q,k,l⟩:=e.ex;let⟨y,P,p,Rw,J,ai,g,r⟩:=f;cases g;have i:=(t.bs h _<|t.ok.mod.sF h _ l).2;have n:j h=Z (.tup [.int a,.int v]):=i.trans rfl;refine Ak t c k ⟨.ref h,j,t,rfl,?_⟩ hd;exact r (.ref h) j P [] J ⟨⟨h,_,rfl,n,.int a,_,rfl,rfl,.int v,_,rfl,rfl,rfl⟩,rfl⟩ (by rw[b5];exact a5.perm ai (List.Perm.refl _))
end
end L2
namespace L2
open Spec PyProof.Rows PySem.W SeqAt
section
variable{b:aK}
def MM(p:ah->List ah->aw->b2->Prop)(y:bP)(B:es):bP:=(λw j A=>y w j λd Rb=>(∃g x,d=.ref g/\Rb g=Z (.tup x))/\B w Rb λae Ro=>p d ae Ro A)
def L3{Y c:a8}{Q:List a8}{y:bP}{B:es}{name:aC}{Se R7:Pos}{id:String}{p:ah->List ah->aw->b2->Prop}(o:m9 "tuple" name id)(r:lU (.builtin id)=pure (.type "method_descriptor"))(u:pK b id p)(v:bx b Y y)(C:gw b (c::Q) B)(H:lx Y name b.env (bR Y b.env)=bR Y b.env:=by rfl)(I:((eT R7<|bF (c::Q) b.env).all (λd=>!d.1)&&(qb R7<|ru [] b.env).all (λd=>d.1.isSome)
   && decide ((c::Q).length+([]:List js).length+(if ([]:List js).isEmpty then 0 else 1)<30))=ab:=by rfl)(J:(Se.endLine==R7.line)=ab:=by rfl)(L:bF (c::Q) b.env=(ax,bR c b.env)::bF Q b.env:=by rfl)(M:(eT R7<|bF Q b.env).any (·.1)=ax:=by rfl):
  bx b (.Call (.Attribute Y name Se) (c::Q) [] R7) (MM p y B):=by
 intro G m w j A t e;refine AI H I J rfl (bK (v G m w j _ t e) λq i a=>?_);let⟨d,@Rb,k,N,⟨g,@x,E,O⟩,R⟩:=a;subst E;cases (show q=af.ref g from N);let@⟨z,⟨@Rf,an,⟨@Y,l,h,⟨@s,ap⟩⟩⟩⟩:=(show eh b.prog b.w Rb i.heap g (.tup x) from k.aZ g _ O);refine⟨"tuple",id,F.plainAttrs_tuple,o,r,⟨Y,l,(Prod.mk.inj h).1⟩,λf S=>?_,?_⟩
 ·cases S;exact⟨Y,l,(Prod.mk.inj h).2⟩
 have n:=C R7 G i w Rb _ k R;rw[L]at n ⊢;refine x9 (by show (ax || (eT R7<|bF Q b.env).any (·.1))=ax;rw[M]<;>rfl) (DO ?_);refine bK n λRv T a=>?_;let⟨ae,@Ro,U,al,am⟩:=a;exact u G T w Ro (.ref g) ae (.ref g) Rv A U rfl al am
def Fo(L:az bC):Prop:=(∀y p Rw,L y=Z (p,Rw)->Rw=y)
def Pe{a:Nat}:Fo (au a):=by
 intro y p Rw e;unfold au at e;split at e
 ·cases e;rfl
 ·cases e
end
end L2
namespace L2
open Spec PyProof.Rows PySem.W
def kR(E:List V)(u:V):Nat:=(E.countP λd=>bU d u)
theorem Bd{e:a4}{u:V}:∀{E:List V}{ae:List af},V.ct 8 E=ab->dr e E ae->ae.countP (iC e u)=kR E u
 |[],ae,_,a=>by cases (show ae=[] from a);rfl
 |d::E,ae,n,a=>by
  let⟨q,p,rfl,k,l⟩:=a;rw[V.ct,cF]at n;unfold kR;rw[nT,nT,j3 n.1 k,Bd n.2 l];rfl
section
variable{b:aK}
def OO(R:b.A.units+20<bJ):pK b "tuple.count" (λd ae j A=>∃(u:V) (E:List V) (i:ah),ae=[i]/\cg j u i/\cg j (.tup E) d/\V.bw 8 u=ab/\V.ct 8 E=ab/\A (.int<|kR E u) j):=by
 intro G m w j d ae q Rv A t z B e;let⟨u,E,i,rfl,C,H,RP,RJ,r⟩:=e;let⟨I,rfl,J⟩:=B.one;let⟨g,x,rfl,k,l⟩:=H;cases z;let⟨L,Rf,M,⟨cls,N,data,bk⟩,a,h,s,n⟩:=(show eh b.prog b.w j m.heap g (.tup x) from t.aZ g _ k);have o:=(Prod.mk.inj h).1;dsimp only at o n;subst o n;have p:=l.ea t.aZ M;refine lO Bx ⟨_,a,rfl⟩ F.entry_tuple_count (F.args_tuple_count_2 _ _) (SeqAt.tuple_countAt g Rf.toArray s N bk I<|iC m.heap u) ⟨a,λD Q=>?_,?_⟩
 ·let⟨L,v,y⟩:=mv RJ p ⇑Q;rw[j3 v y];exact gW 8 v RP (by show b.A.units+1+8+1<bJ;omega) y (C.ea t.aZ J)
 ·refine⟨.int<|kR E u,j,t.kept (RF:=m.toks+1) λf Y c=>c,⟨_,by rw[<-Bd RJ p]⟩,r⟩
@[simp] def ng:fG:=λg f=>match g,f with
 |.im (.tup E),.im u=>if (V.bw 8 u&&V.ct 8 E)=ab then Z (.im<|.int (kR E u:Nat)) else X
 |_,_=>X
def N3{g f u:ak}(e:ng g f=Z u):∃E a,g=.im (.tup E)/\f=.im a/\V.bw 8 a=ab/\V.ct 8 E=ab/\u=.im (.int (kR E a:Nat)):=by
 unfold ng at e;split at e
 ·rename_i E a;split at e
  ·rename_i b;cases e;rw[cF]at b;exact⟨E,a,rfl,rfl,b.1,b.2,rfl⟩
  ·cases e
 ·cases e
def II{Y c:a8}{go R0:az bC}{Se R7:Pos}(C:b.A.units+20<bJ)(D:dk b Y go)(h:dk b c R0)(G:Fo R0)(H:lx Y "count" b.env (bR Y b.env)=bR Y b.env:=by rfl)(L:((eT R7<|bF [c] b.env).all (λd=>!d.1)&&(qb R7<|ru [] b.env).all (λd=>d.1.isSome)
   && decide ([c].length+([]:List js).length+(if ([]:List js).isEmpty then 0 else 1)<30))=ab:=by rfl)(M:(Se.endLine==R7.line)=ab:=by rfl)(s:bF [c] b.env=(ax,bR c b.env)::bF [] b.env:=by rfl)(N:(eT R7<|bF [] b.env).any (·.1)=ax:=by rfl):
  cf b (.Call (.Attribute Y "count" Se) [c] [] R7) (aL ng go R0):=by
 refine dX (L3 Bx F.type_tuple_count (OO C) D (nq h hE s) H L M s N) λw j A Q=>?_;let⟨y,P,p,Rw,J,ai,f,r⟩:=Q;unfold aL at f;let⟨⟨d,z⟩,h,f⟩:=bB.mp f;let⟨⟨i,RA⟩,t,f⟩:=bB.mp f;let⟨RO,k,f⟩:=bB.mp f;let⟨RQ,l,f⟩:=bB.mp f;let⟨u,R,f⟩:=cw.mp f;cases f;have S:RA=z:=G _ _ _ t;subst S;let⟨E,v,rfl,rfl,T,RR,rfl⟩:=N3 R;refine⟨y,P,d,_,J,ai,h,λq Rb Rr U B Rz m=>⟨?_,_,Rr,[i],_,B,(c7.mp m.ai).1,by unfold av;rw[t];rfl,λae Ro RB bI n RM o=>?_⟩⟩
 ·let⟨Q8,⟨g,x,rfl,al,W⟩,W⟩:=Rz.read B k;exact⟨g,x,rfl,al⟩
 ·let⟨I,RS,am,a2,rfl,RM,⟨rfl,rfl⟩,rfl⟩:=RM;have an:=Rz.mono o.tup λg h Y c=>o.keep g Y c λe=>(c7.mp m.ai).2.2 g e g h rfl;have ap:=an.read n k;have as:=RM.read n l;refine⟨v,E,I,rfl,as.i,ap.i,T,RR,?_⟩;refine r (.int (kR E v:Nat)) Ro RB [] n ⟨rfl,rfl⟩ ?_;have a1:=m.trans o Rz.chg;exact a1.less (aP:=am++U) ↥0
end
end L2
namespace G
open L2
def Al:az ak:=((fv 0))
def Bu:az Bool:=((b3<|aL mc (au 0)<|au 1))
def Bk:bM:=((dA<|bT ib<|av (aj<|cP 1 [0] (cn<|aj<|bG 1 G.yc<|av (au 1) aE) (bu 0) G.Bu G.Al) aE))
def iV:dR:=(ed 2 2 [0,1] Bk)
def uU:az ak:=((di<|av (au 1)<|av (au 0) aE))
def vv:az Bool:=((b3<|aL uR (au 1)<|au 0))
def wz:bM:=((gL<|fE fX 2 nC<|av (aj<|cP 1 [3] (cn<|aj<|bG 2 G.iV<|av (au 1)<|av (au 3) aE) (bu 0) G.vv G.uU) aE))
def Co:bM:=((bE (bZ 1<|bG 1 G.rl<|av (au 0) aE)<|bE (bZ 2<|eO aE)<|bE (e5 (cn<|au 0) (bu 3) G.wz)<|dA<|bT ib<|av (au 2) aE))
def qy:dR:=(ed 1 4 [0] Co)
def Fv:az ak:=((fv 0))
def wb:az Bool:=((b3<|aL d_ (aj<|aL fg (aj<|aL dz (aj<|bT dt<|av (aj<|bG 2 G.iV<|av (au 1)<|av (au 0) aE) aE)<|aj<|aL ng (aj<|di<|av (au 2)<|av (au 3) aE)<|au 0)<|aj<|aH<|.int 2)<|aj<|aH<|.int 1))
def C8:bM:=((bE (bZ 3<|bG 1 G.rl<|av (au 0) aE)<|dA<|bT ib<|av (aj<|cP 1 [3,1,2] (cn<|au 0) (bu 0) G.wb G.Fv) aE))
def qK:dR:=(ed 3 4 [0,1,2] C8)
def mY:bM:=((i5 (eO aE)<|l6 2 (fv 3) putL))
def tj:bM:=((bE (gL<|hN 2 (j1 4 0) fs λy=>((j1 4 1) y).map λu=>[u])<|gL<|hN 2 (j1 4 1) fs λy=>((j1 4 0) y).map λu=>[u]))
def ya:bM:=((bE (bZ 2 yi)<|bE (e5 (cn<|au 0) (bu 3) G.mY)<|bE (e5 (cn<|au 1) (bu 4) G.tj)<|dA<|fv 2))
def ov:dR:=(ed 2 5 [0,1] ya)
def D7:az Bool:=((j7<|au 3))
def z1:bM:=((bE (bZ 4<|aL cm (au 3)<|aj<|qF<|aH<|.int 1)<|el (o1 0<|iD 4) (bE (bZ 5<|hN 0 (iD 4) kS λ_=>Z [])<|bE (gL<|hN 0 (iD 5) qg λy=>((iD 4) y).map λu=>[u])<|gL<|fE fX 3 fs<|av (au 5) aE)<|gL<|fE fX 2 fs<|av (aj<|fE fX 3 kS aE) aE))
def wK:bM:=((bE (bZ 2<|eO aE)<|bE (bZ 3<|eO<|av (au 1) aE)<|bE (j0 G.D7 G.z1 1000000)<|dA<|EU<|av (au 2) aE))
def pC:dR:=(ed 2 6 [0,1] wK)
def Ac:bM:=((bE (bZ 1<|bG 3 G.qK<|av (au 0)<|av (aj<|aL cm (au 0)<|aj<|aH<|.int 0)<|av (aj<|aL cm (au 0)<|aj<|aH<|.int 0) aE)<|bE (el (b3<|aL d_ (aj<|bT dt<|av (au 1) aE)<|aj<|aH<|.int 0) (dA<|di<|av (aj<|aL cm (au 0)<|aj<|aH<|.int 0)<|av (aj<|aL cm (au 0)<|aj<|aH<|.int 0) aE) gQ)<|dA<|fv 1))
def lG:dR:=(ed 1 2 [0] Ac)
def tN:bM:=((el (b3<|aL d_ (au 3)<|aj<|aH<|.tup [.int (-1),.int<|-1]) (bE (gL<|fE fX 1 fs<|av (aj<|bT ib<|av (au 2) aE) aE)<|bZ 2<|eO aE)<|gL<|fE fX 2 fs<|av (au 3) aE))
def Ca:bM:=((bE (bZ 1<|eO aE)<|bE (bZ 2<|eO aE)<|bE (e5 (cn<|aj<|gr (au 0) (hM<|aH<|.int 1) hq) (bu 3) G.tN)<|dA<|bT ib<|av (au 1) aE))
def t6:dR:=(ed 1 4 [0] Ca)
def uc:az ak:=((di<|av (aj<|aH<|.tup [.int (-1),.int<|-1])<|av (au 0) aE))
def vs:bM:=((bE (bZ 1<|bG 1 G.qy<|av (au 0) aE)<|bE (el (b3<|aL d_ (aj<|bT dt<|av (au 1) aE)<|aj<|aH<|.int 0) (dA<|di aE) gQ)<|bE (bZ 2<|bT ib<|av (aj<|cP 1 [] (cn<|aj<|bG 1 G.lG<|av (au 0) aE) (bu 0) dS G.uc) aE)<|dA<|bG 1 G.t6<|av (aj<|bG 2 G.pC<|av (aj<|bG 2 G.ov<|av (aj<|aL dz (aj<|di<|av (aj<|aH<|.tup [.int (-1),.int<|-1]) aE)<|au 0)<|av (aj<|aL dz (au 1)<|au 2) aE)<|av (aj<|aH<|.tup [.int (-1),.int<|-1]) aE) aE))
def l2:dR:=(ed 1 3 [0] vs)
def F7:az ak:=((di<|av (au 0)<|av (aj<|aH<|.aG ab) aE))
def xi:az ak:=((di<|av (au 2)<|av (au 0) aE))
def yD:az Bool:=((b3<|aL mc (au 0)<|au 1))
def v5:bM:=((gL<|fE fX 2 nC<|av (aj<|cP 1 [1,3] (cn<|aj<|gr (aj<|bG 1 G.iZ<|av (au 3) aE) (hM<|aH<|.int 2) hq) (bu 0) G.yD G.xi) aE))
def ER:bM:=((bE (bZ 1<|bT kV<|av (aj<|cP 1 [] (cn<|au 0) (bu 0) dS G.F7) aE)<|bE (bZ 2<|eO aE)<|bE (e5 (cn<|au 0) (bu 3) G.v5)<|dA<|bT nM<|av (au 2) aE))
def nt:dR:=(ed 1 4 [0] ER)
def vk:az ak:=((di<|av (au 0)<|av (aj<|aL dz (aj<|bT vInt<|av (aj<|aL d_ (au 0)<|au 1) aE)<|aj<|bT vInt<|av (aj<|aL d_ (au 0)<|au 2) aE) aE))
def wh:bM:=((bE (n_ 3 4 (λa v=>a+v)<|1)<|n_ 3 5 (λa v=>a+v)<|1))
def Ea:az ak:=((fv 0))
def x3:az Bool:=((b3<|aL d_ (aj<|aL fg (aj<|aL cm (au 1)<|au 0)<|aj<|aH<|.int 2)<|aj<|aH<|.int 1))
def Be:bM:=((bE (bZ 3<|bT kV<|av (aj<|cP 1 [1,2] (cn<|au 0) (bu 0) dS G.vk) aE)<|bE (e5 (cn<|aj<|bG 1 G.nt<|av (au 0) aE) (kx 2<|fl (bu 4)<|fl (bu 5) jq) G.wh)<|dA<|cP 1 [3] (cn<|au 0) (bu 0) G.x3 G.Ea))
def tc:dR:=(ed 3 6 [0,1,2] Be)
def uB:az ak:=((ht<|ik (b3<|bG 2 G.qB<|av (au 1)<|av (au 0) aE)<|b3<|aL lH (aj<|bT dt<|av (au 0) aE)<|aj<|aH<|.int 1))
def sJ:az ak:=((di<|av (aj<|bT mB<|av (au 0)<|av (au 1) aE)<|av (aj<|bT ka<|av (au 0)<|av (au 1) aE) aE))
def vR:bM:=((gL<|fE fX 7 nC<|av (aj<|cP 2 [] (l0<|av (au 8)<|av (aj<|gr (au 8) (hM<|aH<|.int 1) hq) aE) (kx 2<|fl (bu 0)<|fl (bu 1) jq) dS G.sJ) aE))
def uu:bM:=((bE (bZ 2<|bG 2 G.oo<|av (au 0)<|av (au 1) aE)<|bE (bZ 3<|bG 2 G.qA<|av (au 2)<|av (aj<|aL cm (aj<|eO<|av (aj<|aH<|.int 60)<|av (aj<|aH<|.int 140) aE)<|aj<|bT vInt<|av (aj<|aL d_ (aj<|bG 2 G.ff<|av (au 2)<|av (aj<|aH<|.int 8) aE)<|aj<|aH<|.int 0) aE) aE)<|bE (rD 4 5<|av (aj<|bG 3 G.tc<|av (au 3)<|av (aj<|aL cm (au 3)<|aj<|aH<|.int 0)<|av (aj<|aL cm (au 3)<|aj<|aH<|.int 0) aE)<|av (aj<|bG 1 G.nt<|av (au 3) aE) aE)<|bE (bZ 6<|bG 1 G.l2<|av (au 3) aE)<|bE (el (jz<|j7<|aj<|n3 "tuple"<|au 6) (dA<|aH<|.aG ax) gQ)<|bE (el (jz<|j7<|aj<|bT mT<|av (aj<|cP 1 [3] (cn<|au 6) (bu 0) dS G.uB) aE) (dA<|aH<|.aG ax) gQ)<|bE (bZ 7<|eO aE)<|bE (e5 (cn<|au 6) (bu 8) G.vR)<|bE (el (jU (b3<|aL gn (aj<|bT nU<|av (au 7) aE)<|au 5)<|b3<|aL gn (aj<|bT dt<|av (au 6) aE)<|aj<|bT ka<|av (aj<|aL iN (aj<|bT dt<|av (au 4) aE)<|aj<|aH<|.int 2)<|av (aj<|bT vInt<|av (aj<|aL gn (au 5)<|aj<|eO aE) aE) aE) (dA<|aH<|.aG ax) gQ)<|el (b3<|aL gn (aj<|bG 1 G.l2<|av (au 3) aE)<|au 6) (dA<|aH<|.aG ax) gQ))
def y9:bM:=((bE (e5 (iK<|av (aj<|aH<|.int 3) aE) (bu 1) G.uu)<|dA<|aL d_ (aj<|bG 1 G.l2<|av (aj<|di<|av (aj<|di<|av (aj<|aH<|.int 5)<|av (aj<|aH<|.int 5) aE) aE) aE)<|aj<|di aE))
def oK:dR:=(ed 1 9 [0] y9)
end G
namespace L2
variable{g e L f:bM}{c:az ak}{own H s:Nat}{E:List ak}{RE:List Nat}{Y:Option (Nat×ak)}{x:List V}{u:ak}{z y:aU}{h:az Bool}{RD:eK}{Ry:Type}{v a:Int}
@[simp] theorem Q5(u:V)(y:aU):aH u y=Z (.im u,y):=rfl
@[simp] theorem CX(y:aU):aE y=Z ([],y):=rfl
@[simp] theorem QV(y:aU):gQ y=Z (.bj,y):=rfl
@[simp] theorem QG(y:aU):hq y=Z (X,y):=rfl
@[simp] theorem Q3(y:aU):dS y=Z (ab,y):=rfl
@[simp] theorem QN(u:V):(ak.im u).c4=ab:=rfl
@[simp] theorem Q0(u:List V):(ak.cK u).c4=ab:=rfl
@[simp] theorem QM(u:List V):(ak.lst u).c4=ax:=rfl
@[simp] theorem Q4(u:List (List V×V)):(ak.aS u).c4=ax:=rfl
@[simp] theorem QF(u:List (d6×V)):(ak.dh u).c4=ax:=rfl
@[simp] theorem Qk(y:aU)(u:ak):d9 y (.ck u)=Z u:=rfl
@[simp] theorem Q2(y:aU)(a:Nat):d9 y (.bk a)=(y[a]?).getD X:=rfl
@[simp] theorem HW(y:aU):hH y []=Z []:=rfl
@[simp] theorem KA(y:aU)(Y:bC)(Rq:List bC):hH y (Y::Rq)=(d9 y Y).bind λu=>(hH y Rq).map λE=>u::E:=rfl
@[simp] theorem Ql(y:aU):eg [] y=Z ([],y):=rfl
@[simp] theorem Kk(u:ak)(Rq:List bC)(y:aU):eg (.ck u::Rq) y=(eg Rq y).map λo=>(u::o.1,o.2):=rfl
@[simp] theorem Q1(a:Nat)(Rq:List bC)(y:aU):eg (.bk a::Rq) y=(fv a y).bind λo=>(eg Rq o.2).map λr=>(o.1::r.1,r.2):=rfl
@[simp] theorem QS:gk []=Z []:=rfl
@[simp] theorem QW(u:V)(E:List ak):gk (.im u::E)=(gk E).map λp=>u::p:=rfl
@[simp] theorem QP(f:Bool):mJ (.im<|.aG f)=Z f:=rfl
def m_(k : -(2^64)<v)(l:v<2^64):gI a v=ab:=by
 have:bq.Int.intBits v<=64:=z5 k l;have S:¬ (bq.Int.intBits v>tp):=Er.mpr this;unfold gI;rw[dv S];simp
def JU(k : -(2^64)<a)(l:a<2^64):gI a v=ab:=by
 have:bq.Int.intBits a<=64:=z5 k l;have S:¬ (bq.Int.intBits a>tp):=Er.mpr this;unfold gI;rw[dv S];simp
def Jh{x:List Ry}(e:x.length<=s):x.take s=x:=pL e
def vS(x:List Ry)(n:Nat):fV x (Z (n:Int)) X=x.drop n:=by
 unfold fV;rw[c6.LK,c6.ME];by_cases e:n<=x.length
 ·rw[q2 e,Jh (by rw[f5];lia)]
 ·rw[Nat.min_eq_right ⋯,y8,vf,m6 ⋯]
def sf{x:List Ry}{u:Ry}(b:0<=a)(e:x[a.toNat]?=Z u):dB x a=Z u:=by
 unfold dB ic;have U:a.toNat<x.length:=(fR.mp e).1;rw[aB b,aB ⋯];exact e
def Hn{x:List Ry}{u:Ry}(e:x.getLast?=Z u):dB x (-1)=Z u:=by
 rw[El]at e;have U:x.length-1<x.length:=(fR.mp e).1;unfold dB ic;rw[aD ∅,aB ⋯];show x[(-1+(x.length:Int)).toNat]?=Z u;rw[show (-1+(x.length:Int)).toNat=x.length-1 by lia];exact e
def MT(t:Nat->aU->Prop)(Q8:ak->aU->Prop):∀{x:List V}{y:aU},t 0 y->
  (∀(a:Nat) (d:V) (y:aU),x[a]?=Z d->t a y->∃z aT RA,RD (.im d) y=Z z/\f z=Z (aT,RA)/\(((aT=.bj\/aT=.cx)/\t (a+1) RA)\/∃u,aT=.eo u/\Q8 u RA))->
  (∃Rw,dn RD f x y=Z (.bj,Rw)/\t x.length Rw)\/∃u Rw,dn RD f x y=Z (.eo u,Rw)/\Q8 u Rw:=by
 intro x;induction x generalizing t with
 |nil=>intro y b Y;exact .inl ⟨y,rfl,b⟩
 |cons d p g=>
  intro y b e;let⟨z,aT,@RA,k,l,h⟩:=e 0 d y rfl b;rcases h with ⟨j,d5⟩|⟨u,rfl,m⟩
  ·have:=g (λa=>t<|a+1) (y:=RA) d5 λa i Rw n o=>e (a+1) i Rw ⇑n o;have c:dn RD f (d::p) y=dn RD f p RA:=by
    rw[dn];dsimp only;rw[k];show (f z).bind _=_;rw[l];rcases j with rfl|rfl<;>rfl
   rw[c];exact this
  ·refine .inr ⟨u,RA,?_,m⟩;rw[dn];dsimp only;rw[k];show (f z).bind _=_;rw[l];rfl
def r1(t:Nat->aU->Prop){x:List V}{y:aU}(b:t 0 y)(e:∀(a:Nat) (d:V) (y:aU),x[a]?=Z d->t a y->∃z aT RA,RD (.im d) y=Z z/\f z=Z (aT,RA)/\(aT=.bj\/aT=.cx)/\t (a+1) RA):
  ∃Rw,dn RD f x y=Z (.bj,Rw)/\t x.length Rw:=by
 rcases MT t (λ_ Y=>False) b (λa d y c d5=>by
  let⟨z,aT,@RA,k,l,g,h⟩:=e a d y c d5;exact⟨z,aT,RA,k,l,.inl ⟨g,h⟩⟩) with e|⟨_,_,_,e⟩
 ·exact e
 ·exact e.elim
def E1(t:Nat->aU->Prop)(b:aU->Prop)(step:∀H y,t H y->∃B z,h y=Z (B,z)/\(B=ab->∃aT RA,f z=Z (aT,RA)/\(aT=.bj\/aT=.cx)/\∃a,a<H/\t a RA)/\(B=ax->b z)):
  ∀(s H:Nat) (y:aU),t H y->H<s->∃Rw,j0 h f s y=Z (.bj,Rw)/\b Rw:=by
 intro s;induction s with
 |zero=>intro H y Y e;lia
 |succ s c=>
  intro H y d5 n;let⟨B,@z,k,l,d⟩:=step H y d5;rw[j0];dsimp only;rw[k];cases B with
  |false=>exact⟨z,rfl,d rfl⟩
  |true=>
   let⟨aT,@RA,g,hf,⟨@a,o,i⟩⟩:=l rfl;let⟨@Rw,j,m⟩:=c a RA i ⋯;refine⟨Rw,?_,m⟩;simp only[px,e8,g];rcases hf with rfl|rfl<;>exact j
def L9(x:List Ry):x.filter (λ_=>ab)=x:=List.filter_eq_self.mpr λ_ Y=>rfl
def gO(c:L y=Z (.bj,z)):bE L e y=e z:=by unfold bE;rw[c];rfl
def Bi(c:L y=Z (.eo u,z)):bE L e y=Z (.eo u,z):=by unfold bE;rw[c];rfl
def uo{L:jE}{RA:aU}{aT:jT}(c:L y=Z ((x,Y),z))(e:dn RD f x z=Z (aT,RA)):e5 L RD f y=Z (aT,k1 Y RA):=by
 unfold e5;rw[c];show (dn RD f x z).map _=_;rw[e];rfl
def I1{p:ak}(a:E.length=s)(c:L (E.map Z++replicate (H-s) X)=Z (.eo p,y)):ed s H RE L E=Z (p,i9 RE E y 0):=by
 unfold ed;rw[aB a,c]
def mX{RC:List Nat}{M:jE}{a:aU}{E:List V}(k:M y=Z ((x,Y),z))(l:gh own RD h c x [] (jD RC z)=Z (E,a)):cP own RC M RD h c y=Z (.lst E,k1 Y<|hX RC a z):=by
 unfold cP;rw[k];show (gh own RD h c x []<|jD RC z).map _=_;rw[l];rfl
def h7{L:az ak}(c:L y=Z (u,z)):dA L y=Z (.eo u,z):=by unfold dA;rw[c];rfl
def vY{a:Nat}{L:az ak}(c:L y=Z (u,z))(e:a<z.length):bZ a L y=Z (.bj,z.set a<|Z u):=by unfold bZ;rw[c];show (if a<z.length then _ else _)=_;rw[aB e]
def vd(c:h y=Z (ab,z)):el h g f y=g z:=by unfold el;rw[c];rfl
def yC(c:h y=Z (ax,z)):el h g f y=f z:=by unfold el;rw[c];rfl
def tE(y:aU){p:ak}{t:List ak}(a:E.length=s)(c:L (E.map Z++replicate (H-s) X)=Z (.eo p,y))(b:i9 RE E y 0=t):ed s H RE L E=Z (p,t):=by
 rw[I1 a c,b]
theorem lg{Ry:Type}{own:Nat}{RD:eK}{h:az Bool}{c:az ak}{aP:aU}(b:Ry->V)(o:Ry->Bool)(N:Ry->V):∀(x:List Ry) (a:List V),(∀d∈x,∃z RA,RD (.im<|b d) (replicate own X++aP)=Z z/\h z=Z (o d,RA)/\(o d=ax->RA.drop own=aP)/\(o d=ab->∃R4,c RA=Z (.im<|N d,R4)/\R4.drop own=aP))->
  a.length+x.length<=100000->gh own RD h c (x.map b) a aP=Z (a++(x.filter o).map N,aP)
 |[],a,_,_=>by simp[gh]
 |d::p,a,e,j=>by
  let⟨z,@RA,k,l,m,n⟩:=e d (.head _);rw[dd]at j;rw[bV,gh,k];show (h z).bind _=_;rw[l];show (if o d=ab then _ else _)=_;cases f:o d with
  |false=>
   rw[aD c_];show gh own RD h c (p.map b) a (RA.drop own)=_;rw[m f,lg b o N p a (λi g=>e i<|.tail _ g) ⋯,vo,f];rfl
  |true=>
   let⟨@R4,q,r⟩:=n f;rw[aB rfl];show (c RA).bind _=_;rw[q];show (if a.length<100000 then gh own RD h c (p.map b) (a++[N d]) (R4.drop own) else X)=_;rw[aB ⋯,r,lg b o N p (a++[N d]) (λi g=>e i<|.tail _ g) (by rw[c5,fQ];lia),vo,f];simp
def jO{aP:aU}(a:Ry->V)(N:Ry->V)(x:List Ry)(e:∀d∈x,∃z RA R4,RD (.im<|a d) (replicate own X++aP)=Z z/\h z=Z (ab,RA)/\c RA=Z (.im<|N d,R4)/\R4.drop own=aP)(j:x.length<=100000):gh own RD h c (x.map a) [] aP=Z (x.map N,aP):=by
 have:=lg (own:=own) (RD:=RD) (h:=h) (c:=c) (aP:=aP) a (λ_=>ab) N x [] (λd b=>by
  let⟨z,RA,@R4,k,l,f,g⟩:=e d b;exact⟨z,RA,k,l,(λi=>by cases i),(λ_=>⟨R4,f,g⟩)⟩) (by rw[gZ];lia)
 rw[L9]at this;exact this
theorem uQ{Ry RZ:Type}(a:Ry->V)(b:RZ->V):∀(x:List Ry) (Rj:List RZ),fM (x.map a) (Rj.map b)=(x.zip Rj).map λo=>.tup [a o.1,b o.2]
 |[],Rj=>by simp[fM]
 |d::x,[]=>by simp[fM]
 |d::x,i::Rj=>by simp[fM,uQ a b x Rj]
def r9{RZ:Type}(N:Ry->RZ)(x:List Ry)(M U:Option Int):fV (x.map N) M U=(fV x M U).map N:=by
 unfold fV;rw[bH,kN,kM]
end L2
namespace G
open L2
variable{n:List V}{Rd:List (List V×V)}{Ru:List (Int×Int)}{f g:Int×Int}{e:ak}{s:Nat}
abbrev aI(a:Int):ak:=.im (.int a)
def ag(o:Int×Int):V:=(.tup [.int o.1,.int o.2])
abbrev aR(Rg:List (Int×Int)):ak:=.im (.tup<|Rg.map ag)
abbrev bo(Rg:List (Int×Int)):ak:=.lst (Rg.map ag)
abbrev sA(u m B:Int):ak:=.lst [.int u,.int m,.int B]
def ef(s:Nat)(e:ak):Prop:=(∃u m B,e=sA u m B/\0<=u/\0<=m/\m<2^62/\0<=B/\B+s<2^40)
def ef.mono{H:Nat}(d:ef s e)(c:H<=s):ef H e:=by
 let⟨u,m,@B,rfl,k,l,a,b,f⟩:=d;exact⟨u,m,B,rfl,k,l,a,b,⋯⟩
def ef.lst(d:ef s e):∃r,e=.lst r:=by
 let⟨u,m,@B,rfl,Y⟩:=d;exact⟨_,rfl⟩
def jG{H:Int}(d:ef (s+1) e)(b:0<H)(g:H<1073741824):∃q S,ff [e,aI H]=Z (aI q,[S,aI H])/\0<=q/\q<H/\ef s S:=by
 let⟨u,m,@B,rfl,k,l,h,i,z⟩:=d;have A:∀u:Int,dB [V.int u,.int m,.int B] 0=Z (.int u):=λu=>rfl;have C:¬ H=0:=⋯
 by_cases hd:0<u
 ·refine⟨u%H,sA (u/H) m B,?_,kK _ ⋯,lQ _ b,u/H,m,B,rfl,FF k ⋯,l,h,i,⋯⟩;have c:dB [V.int u,.int m,.int B] 0=Z (.int u):=rfl;simp -implicitDefEqProofs [ff,w3,hd,b,g,c,ic]
 ·obtain⟨a,j⟩:∃a:Int,a=(m+(B+1)*104729)*48271%2305843009213693951:=⟨_,rfl⟩;obtain⟨T,f⟩:∃T:Int,T=a*(a%1009+69621)%2305843009213693951:=⟨_,rfl⟩;have n:0<=T:=by rw[f];exact kK _ ∅
  have o:T<2^62:=by
   rw[f];have:=lQ (a*(a%1009+69621)) (show (0:Int)<2305843009213693951 by decide);lia
  have p:gI (B+1) 104729=ab:=m_ ∅ ∅;have r:gI (m+(B+1)*104729) 48271=ab:=m_ ∅ ∅;have t:gI a (a%1009+69621)=ab:=by
   have D:=kK a (show (1009:Int)≠0 by decide);have E:=lQ a (show (0:Int)<1009 by decide);exact m_ ⋯ ⋯
  refine⟨T/1000003%H,sA u T<|B+1,?_,kK _ ⋯,lQ _ b,u,T,B+1,rfl,k,n,o,⋯,⋯⟩;have c:dB [V.int u,.int m,.int B] 0=Z (.int u):=rfl;have v:dB [V.int u,.int m,.int B] 2=Z (.int B):=rfl;have w:dB [V.int u,.int m,.int<|B+1] 1=Z (.int m):=rfl;have x:dB [V.int u,.int m,.int<|B+1] 2=Z (.int<|B+1):=rfl;have y:dB [V.int u,.int T,.int<|B+1] 1=Z (.int T):=rfl;simp -implicitDefEqProofs [ff,w3,hd,b,g,c,v,w,x,y,ic,p,r,t,<-j,<-f]
theorem FW:∀(x:List Int) (w Rz E RH:Option ak) (m:Int),0<=m->m<2^62->∃c T,0<=T/\T<2^62/\dn (bu 3) o3 (x.map .int) [w,Rz,Z<|aI m,E,RH]=Z (.bj,[w,Rz,Z<|aI T,c,RH])
 |[],w,Rz,E,RH,m,f,k=>⟨E,m,f,k,rfl⟩
 |d::x,w,Rz,E,RH,m,f,k=>by
  obtain⟨a,e⟩:∃a:Int,a=(m*69621+d%2147483587+13)%2305843009213693951:=⟨_,rfl⟩;have g:0<=a:=by rw[e];exact kK _ ∅
  have h:a<2^62:=by
   rw[e];have:=lQ (m*69621+d%2147483587+13) (show (0:Int)<2305843009213693951 by decide);lia
  let⟨c,@T,b,i,j⟩:=FW x w Rz (Z<|aI d) RH a g h;refine⟨c,T,b,i,?_⟩;have l:gI m 69621=ab:=m_ ∅ ∅;rw[bV,dn];dsimp only;rw[show bu 3 (.im<|.int d) [w,Rz,Z<|aI m,E,RH]=Z [w,Rz,Z<|aI m,Z<|aI d,RH] from rfl];show (o3 _).bind _=_;rw[show o3 [w,Rz,Z<|aI m,Z<|aI d,RH]=Z (.bj,[w,Rz,Z<|aI a,Z<|aI d,RH]) by simp -implicitDefEqProofs [o3,l,<-e]];exact j
def GJ{Rt:List Int}{n:Int}(A:0<=n)(B:n<1000):∃e,oo [.cK (Rt.map .int),aI n]=Z (e,[.cK (Rt.map .int),aI n])/\ef 1000000 e:=by
 obtain⟨x,g⟩:∃x,fV (Rt.map V.int) X (Z 63)=x.map .int:=⟨fV Rt X<|Z 63,r9 _ _ _ _⟩;let⟨E,@m,L,i,aV⟩:=FW x (Z<|.cK<|Rt.map .int) (Z<|aI n) X X (7+7919*n) ⋯ ⋯;have j:gI 7919 n=ab:=JU ∅ ∅;have l:gI (10^60) (10^60)=ab:=by decide +kernel
 have RR:gI (10^60*10^60) (10^60)=ab:=by decide +kernel
 have o:∀d h:Int,gI d (if 10^18<=h then 1 else 0)=ab:=λd h=>m_ (by split<;>decide) (by split<;>decide);have f:(10:Nat)<2^64:=by decide
 have p:(0:Int)<10^60*10^60*10^60:=by decide
 have y:∀h:Int,ef 1000000 (sA (h%(10^60*10^60*10^60)*(if 10^18<=h then 1 else 0)) m 0):=λh=>by
  have k:=kK h (show (10^60*10^60*10^60:Int)≠0 by decide);refine⟨_,_,_,rfl,?_,L,i,j9 0,by decide⟩;split
  ·rw[Cx];exact k
  ·rw[Int.mul_zero];exact j9 0
 have q:bZ 2 (aL dz (aj<|aH<|.int 7)<|aj<|aL iw (aj<|aH<|.int 7919)<|au 1) [Z (.cK<|Rt.map .int),Z<|aI n,X,X,X]=Z (.bj,[Z (.cK<|Rt.map .int),Z<|aI n,Z<|aI<|7+7919*n,X,X]):=by
  simp -implicitDefEqProofs [j]
 have r:e5 (cn<|aj<|gr (au 0) hq<|hM<|aH<|.int 63) (bu 3) G.o3 [Z (.cK<|Rt.map .int),Z<|aI n,Z<|aI<|7+7919*n,X,X]=Z (.bj,[Z (.cK<|Rt.map .int),Z<|aI n,Z<|aI m,E,X]):=
  (uo (Y:=X) (x:=x.map .int) (z:=[Z (.cK<|Rt.map .int),Z<|aI n,Z<|aI<|7+7919*n,X,X]) (by simp -implicitDefEqProofs [g]) aV).trans rfl;have d1:∀h:Int,bZ 3 (yG (b3<|aL lH (aj<|bT dt<|av (au 0) aE)<|aj<|aH<|.int 0) (aL cm (au 0)<|aj<|aL fg (au 1)<|aj<|bT dt<|av (au 0) aE)<|aH<|.int 0) [Z (.cK<|Rt.map .int),Z<|aI n,Z<|aI m,E,X]=Z (.bj,[Z (.cK<|Rt.map .int),Z<|aI n,Z<|aI m,Z<|aI h,X])->
   ∃e,oo [.cK (Rt.map .int),aI n]=Z (e,[.cK (Rt.map .int),aI n])/\ef 1000000 e:=λh a=>by
  refine⟨_,?_,y h⟩;unfold oo CK;refine tE [Z (.cK<|Rt.map .int),Z<|aI n,Z<|aI m,Z<|aI h,Z<|aI<|10^60*10^60*10^60] rfl ((gO q).trans<|(gO r).trans<|(gO a).trans<|(gO (z:=[Z (.cK<|Rt.map .int),Z<|aI n,Z<|aI m,Z<|aI h,Z<|aI<|10^60*10^60*10^60]) ?_).trans ?_) rfl
  ·simp -implicitDefEqProofs [l,RR,f,-Int.reducePow,-Nat.reducePow]
  ·simp -implicitDefEqProofs [o,f,p,-Int.reducePow,-Nat.reducePow]
 by_cases s:0<(Rt.length:Int)
 ·obtain⟨v,b⟩:∃v:Int,v=n%(Rt.length:Int):=⟨_,rfl⟩;have t:0<=v:=by rw[b];exact kK _ ⋯
  have C:v<Rt.length:=by rw[b];exact lQ _ s
  obtain⟨h,a⟩:∃h,Rt[v.toNat]?=Z h:=⟨Rt[v.toNat]'⋯,by simp⟩;have u:dB (Rt.map V.int) v=Z (.int h):=sf t (by rw[gc,a];rfl);refine d1 h ?_;have w:0<Rt.length:=⋯
  simp -implicitDefEqProofs [w,<-b,u]
 ·refine d1 0 ?_;have c:Rt=[]:=s_.mp ⋯;subst c;simp -implicitDefEqProofs
def cL(o:Int×Int):List (Int×Int):=([(o.1-1,o.2),(o.1,o.2-1),(o.1,o.2+1),(o.1+1,o.2)])
def tW(o:Int×Int):iZ [.im (ag o)]=Z (bo<|cL o,[.im (ag o)]):=by
 have a:dB [V.int o.1,.int o.2] 0=Z (.int o.1):=rfl;have b:dB [V.int o.1,.int o.2] 1=Z (.int o.2):=rfl;simp -implicitDefEqProofs [iZ,z9,ag,cL,a,b]
def b7(o:Int×Int):List V:=([.int o.1,.int o.2])
def n9(o:Int×Int):ag o=.tup (b7 o):=rfl
def jR(e:b7 g=b7 f):g=f:=by
 unfold b7 at e;simp at e;exact pE e.1 e.2
def PS(e:ag g=ag f):g=f:=by
 rw[n9,n9]at e;exact jR (by injection e)
def tI(o:Int×Int):V.keys 7 (b7 o)=ab:=rfl
def m1:V->Int×Int
 |.tup [.int g,.int f]=>(g,f)
 |_=>(0,0)
def A_(o:Int×Int):m1 (ag o)=o:=rfl
def t_(o:Int×Int):V.bw 8 (ag o)=ab:=rfl
theorem pA:∀Rg:List (Int×Int),V.ct 8 (Rg.map ag)=ab
 |[]=>rfl
 |o::p=>by rw[bV,V.ct,t_,pA p];rfl
def oz(g f:Int×Int):bU (ag g) (ag f)=decide (g=f):=by
 show ((g.1==f.1)&&((g.2==f.2)&&ab))=_;let⟨a,b⟩:=g;let⟨dp,dC⟩:=f;by_cases k:a=dp<;>by_cases l:b=dC<;>simp[k,l]
def AF(Rg:List (Int×Int))(h:Int×Int):((Rg.map ag).any λd=>bU d<|ag h)=decide (h∈Rg):=by
 rw[yR,o2,pn,hb];constructor
 ·rintro⟨d,a,c⟩;have:decide (d=h)=ab:=by rw[<-oz];exact c
  rw[<-g9 this];exact a
 ·intro e;refine⟨h,e,?_⟩;show bU (ag h) (ag h)=ab;rw[oz];exact dj rfl
theorem E0:∀(C:List V) (Ru:List (Int×Int)),(∀d∈C,d∈Ru.map ag)->C=(C.map m1).map ag
 |[],_,_=>rfl
 |d::C,Ru,e=>by
  let⟨@o,Y,c⟩:=dZ.mp (e d<|.head _);rw[bV,bV,<-E0 C Ru λi a=>e i<|.tail _ a,<-c,A_]
def Jb{C:List V}(e:C.Perm (Ru.map ag)):∃a:List (Int×Int),a.Perm Ru/\C=a.map ag:=by
 refine⟨C.map m1,?_,E0 C Ru λd b=>e.mem_iff.mp b⟩;have:=vO m1 e;rw[gj]at this;have c:(m1 ∘ ag:Int×Int->Int×Int)=id:=funext A_;rw[c,xt]at this;exact this
def OK(ai:Ru.Nodup)(a:Ru.length<=1000):nO (Ru.map ag):=by
 refine⟨⟨by rw[bH];exact a,λg b f e=>?_,?_⟩,.inl λu hd=>?_⟩
 ·let⟨@d,Y,rfl⟩:=dZ.mp b;let⟨@i,Y,rfl⟩:=dZ.mp e;rfl
 ·exact xK ag (λg f s c=>s<|PS c) ai
 ·let⟨@d,Y,rfl⟩:=dZ.mp hd;rfl
def DY:(dW Rd n).isSome=Rd.any λo=>decide (o.1=n):=by
 unfold dW;rw[sX,List.isSome_find?]
def JF{a:List V}{u:V}:((fq Rd n u).any λo=>decide (o.1=a))=((Rd.any λo=>decide (o.1=a)) || decide (n=a)):=by
 unfold fq;split
 ·rename_i e;have c:((Rd.map λb=>if b.1=n then (b.1,u) else b).any λo=>decide (o.1=a))=Rd.any λo=>decide (o.1=a):=by
   rw[yR];congr 1;funext o;show decide ((if o.1=n then (o.1,u) else o).1=a)=_;split<;>rfl
  rw[c];by_cases d:n=a
  ·subst d;rw[e];rfl
  ·rw[dv d,Bool.or_false]
 ·rw[List.any_append];simp
theorem EP:∀(Rg a:List (List V×V)) (n:List V),((Rg.foldl (λg o=>fq g o.1 o.2) a).any λo=>decide (o.1=n))=((a.any λo=>decide (o.1=n)) || Rg.any λo=>decide (o.1=n))
 |[],a,n=>by simp
 |o::Rg,a,n=>by
  rw[k7,EP Rg _ n,JF,l4,Bool.or_assoc]
def a0(Ru:List (Int×Int)):List (List V×V):=(Ru.map λh=>(b7 h,.aG ab))
def ub(Ru:List (Int×Int))(h:Int×Int):((a0 Ru).any λo=>decide (o.1=b7 h))=decide (h∈Ru):=by
 unfold a0;rw[yR,o2,pn,hb];constructor
 ·rintro⟨d,a,c⟩;have:b7 d=b7 h:=g9 c;rw[<-jR this];exact a
 ·intro e;exact⟨h,e,dj rfl⟩
def Qn(Ra:List (Int×Int))(h:Int×Int):(dW (gp<|a0 Ra)<|b7 h).isSome=decide (h∈Ra):=by
 rw[DY];unfold gp;rw[EP,ub];rfl
def DH(Ru:List (Int×Int))(h:Int×Int):(dW (a0 Ru)<|b7 h).isSome=decide (h∈Ru):=by rw[DY,ub]
def Ee{h:Int×Int}(e:h∉Ru):fq (a0 Ru) (b7 h) (.aG ab)=a0 (Ru++[h]):=by
 unfold fq;rw[aD (by rw[ub];simpa using e)];unfold a0;rw[jx];rfl
def Dj(Ra:List (Int×Int)):kv (Ra.map λh=>.tup [ag h,.aG ab])=Z (a0 Ra):=by
 induction Ra with
 |nil=>rfl
 |cons h p a=>
  rw[bV,n9,kv,a];rfl
def O9(Ru:List (Int×Int)):((a0 Ru).map λo=>V.tup o.1)=Ru.map ag:=by
 unfold a0;rw[gj];rfl
def zy(Ru:List (Int×Int)):((a0 Ru).all λo=>V.keys 7 o.1)=ab:=by
 unfold a0;rw[xy,ho];intro h Y;rfl
end G
namespace L2
section
variable{y z RA:aU}
variable{u:ak}
def gd{L:az ak}(e:L y=Z (u,z)):aj L y=Z (.ck u,z):=by unfold aj;rw[e];rfl
variable{d:bC}
def gN{L:az bC}{e:az (List bC)}{x:List bC}(a:L y=Z (d,z))(b:e z=Z (x,RA)):av L e y=Z (d::x,RA):=by unfold av;rw[a];show (e z).map _=_;rw[b];rfl
variable{RO RQ:ak}
def q1{RL:ak->ak->Option ak}{R0 RW:az bC}{i:bC}(a:R0 y=Z (d,z))(b:RW z=Z (i,RA))(c:d9 RA d=Z RO)(e:d9 RA i=Z RQ)(f:RL RO RQ=Z u):aL RL R0 RW y=Z (u,RA):=by
 unfold aL;rw[a];show (RW z).bind _=_;rw[b];show (d9 RA d).bind _=_;rw[c];show (d9 RA i).bind _=_;rw[e];show (RL RO RQ).map _=_;rw[f];rfl
variable{L:az (List bC)}{s:Nat}{Rq:List bC}{E t:List ak}
def KH{Q9:dR}{p:ak}(a:L y=Z (Rq,z))(b:Rq.length=s)(c:eg Rq z=Z (E,RA))(d:Q9 E=Z (p,t)):bG s Q9 L y=Z (p,gv Rq t RA):=by
 unfold bG;rw[a];show (if Rq.length=s then _ else _)=_;rw[aB b];show (eg Rq z).bind _=_;rw[c];show (Q9 E).map _=_;rw[d];rfl
def o5{RL:List ak->Option ak}(a:L y=Z (Rq,z))(b:hH z Rq=Z E)(c:RL E=Z u):bT RL L y=Z (u,z):=by
 unfold bT;rw[a];show (hH z Rq).bind _=_;rw[b];show (RL E).map _=_;rw[c];rfl
variable{f:Bool}
def NH{L:az ak}(c:L y=Z (.im<|.aG f,z)):b3 L y=Z (f,z):=by unfold b3;rw[c];rfl
def KO{L:az Bool}(c:L y=Z (f,z)):jz L y=Z (!f,z):=by unfold jz;rw[c];rfl
def vJ{L:az bC}(c:L y=Z (d,z))(a:d9 z d=Z u)(b:oC u=Z f):j7 L y=Z (f,z):=by
 unfold j7;rw[c];show (d9 z d).bind _=_;rw[a];show (oC u).map _=_;rw[b];rfl
def Fp{L:az ak}{e:eK}(c:L y=Z (u,z))(a:e u z=Z RA):i5 L e y=Z (.bj,RA):=by unfold i5;rw[c];show (e u z).map _=_;rw[a];rfl
def kd{L:az ak}(c:L y=Z (u,z)):gL L y=Z (.bj,z):=by unfold gL;rw[c];rfl
variable{R4:aU}
def ll{ty:ak->Bool}{a:Nat}{a0:ak->List ak->Option (ak×ak)}{b h p c:ak}(d:y[a]?=Z (Z b))(e:ty b=ab)(f:L y=Z (Rq,z))(g:eg Rq z=Z (E,RA))(i:RA[a]?=Z (Z h))(j:a0 h E=Z (p,c))(n:RA.set a (Z c)=R4):fE ty a a0 L y=Z (p,R4):=by
 subst n;unfold fE;rw[d];show (if ty b=ab then _ else _)=_;rw[aB e,f];show (eg Rq z).bind _=_;rw[g];show (match RA[a]? with|some (Z h)=>_|_=>X)=_;rw[i];show (a0 h E).map _=_;rw[j];rfl
def K6(a:L y=Z (Rq,z))(b:eg Rq z=Z (E,RA))(c:E.length<=100000)(n:rf E=u):di L y=Z (u,RA):=by
 unfold di;rw[a];show (eg Rq z).bind _=_;rw[b];show (if _ then _ else _)=_;rw[aB c,n]
def lV(a:L y=Z (Rq,z))(b:eg Rq z=Z (E,RA))(c:E.length<=100000)(n:rq E=u):eO L y=Z (u,RA):=by
 unfold eO;rw[a];show (eg Rq z).bind _=_;rw[b];show (if _ then _ else _)=_;rw[aB c,n]
variable{a:Int}
def MP{L:az ak}(c:L y=Z (.im<|.int a,z)):qF L y=Z (.im<|.int<|-a,z):=by unfold qF;rw[c];rfl
def Gg{d:List V}{u:V}(e:d.length<100000):fs (.lst d) [.im u]=Z (.im .aW,.lst<|d++[u]):=aB e
def o4(a v:Int):d_ (.im<|.int a) (.im<|.int v)=Z (.im<|.aG<|decide (a=v)):=by
 show Z (ak.im<|.aG<|a==v)=_;by_cases e:a=v<;>simp[e]
def I2(a v:Int):gn (.im<|.int a) (.im<|.int v)=Z (.im<|.aG<|!decide (a=v)):=by
 show Z (ak.im<|.aG<|!(a==v))=_;by_cases e:a=v<;>simp[e]
variable{v:Int}
def FQ(e:0<v):fg (.im<|.int a) (.im<|.int v)=Z (.im<|.int<|a%v):=aB (dj e)
def J0(e:0<v)(l:v<1073741824):iN (.im<|.int a) (.im<|.int v)=Z (.im<|.int<|a/v):=aB (dj (⟨e,l⟩:0<v/\v<1073741824))
variable{p:Option (jT×aU)}{f:bM}{h:az Bool}
theorem xB{g:bM}(c:h y=Z (ab,z))(e:g z=p):el h g f y=p:=(vd c).trans e
theorem kz{g:bM}(c:h y=Z (ax,z))(e:f z=p):el h g f y=p:=(yC c).trans e
theorem cI{L e:bM}(c:L y=Z (.bj,z))(n:e z=p):bE L e y=p:=(gO c).trans n
variable{a:Nat}
theorem gF{L:az ak}(c:L y=Z (u,z))(e:a<z.length)(n:z.set a (Z u)=RA):bZ a L y=Z (.bj,RA):=(vY c e).trans (by rw[n])
variable{x:List V}{RD:eK}{Y:Option (Nat×ak)}
theorem jj{L:jE}{aT:jT}(c:L y=Z ((x,Y),z))(e:dn RD f x z=Z (aT,RA))(n:k1 Y RA=R4):e5 L RD f y=Z (aT,R4):=(uo c e).trans (by rw[n])
theorem jd{own:Nat}{RC:List Nat}{M:jE}{c:az ak}{a:aU}{E:List V}(k:M y=Z ((x,Y),z))(l:gh own RD h c x [] (jD RC z)=Z (E,a))(n:k1 Y (hX RC a z)=R4):cP own RC M RD h c y=Z (.lst E,R4):=(mX k l).trans (by rw[n])
variable{p:Option (Bool×aU)}{f g:az Bool}
def tQ(c:g y=Z (ax,z))(e:f z=p):jU g f y=p:=by unfold jU;rw[c];exact e
def KS(c:g y=Z (ab,z))(e:f z=p):ik g f y=p:=by unfold ik;rw[c];exact e
def PI{v:Nat}(b:L y=Z (Rq,z))(c:eg Rq z=Z ([RO,RQ],RA))(U:a<RA.length)(d:v<RA.length)(n:(RA.set a<|Z RO).set v (Z RQ)=R4):rD a v L y=Z (.bj,R4):=by
 unfold rD;rw[b];show (eg Rq z).bind _=_;rw[c];show (if a<RA.length/\v<RA.length then _ else _)=_;rw[aB ⟨U,d⟩,n]
def Kt{L:az Bool}{f:Bool}(c:L y=Z (f,z)):ht L y=Z (.im<|.aG f,z):=by unfold ht;rw[c];rfl
variable{p:ak}
def e2{Q9:dR}(a:L y=Z (Rq,z))(b:Rq.length=s)(c:eg Rq z=Z (E,RA))(d:Q9 E=Z (p,t))(n:gv Rq t RA=R4):bG s Q9 L y=Z (p,R4):=by rw[<-n];exact KH a b c d
def OY{L:az Bool}(c:L y=Z (ab,z)):jz L y=Z (ax,z):=KO c
def y7{d i:List V}(a:L y=Z (Rq,z))(b:hH z Rq=Z [.im (.tup d),.im<|.tup i]):l0 L y=Z ((fM d i,X),z):=by
 unfold l0;rw[a];show (hH z Rq).bind _=_;rw[b];rfl
def uA{L:az bC}{C e:az (Option Int)}{M U:Option Int}{a:ak}(b:L y=Z (d,z))(c:C z=Z (M,RA))(f:e RA=Z (U,R4))(g:d9 R4 d=Z u)(h:mg u M U=Z a):gr L C e y=Z (a,R4):=by
 unfold gr;rw[b];show (C z).bind _=_;rw[c];show (e RA).bind _=_;rw[f];show (d9 R4 d).bind _=_;rw[g];show (mg u M U).map _=_;rw[h];rfl
def g5{H:Nat}{RE:List Nat}{L:bM}(a:E.length=s)(c:L (E.map Z++replicate (H-s) X)=Z (.eo p,y))(b:i9 RE E y 0=t):ed s H RE L E=Z (p,t):=tE y a c b
end
section
variable{y z:aU}
variable{u:ak}
def cc{L:az ak}(e:L y=Z (u,y)):aj L y=Z (.ck u,y):=gd e
variable{d:bC}
def b4{L:az bC}{e:az (List bC)}{x:List bC}(a:L y=Z (d,y))(b:e y=Z (x,y)):av L e y=Z (d::x,y):=gN a b
variable{RL:ak->ak->Option ak}{R0 RW:az bC}{i:bC}{RO RQ:ak}
def e9(a:R0 y=Z (d,y))(b:RW y=Z (i,y))(c:d9 y d=Z RO)(e:d9 y i=Z RQ)(f:RL RO RQ=Z u):aL RL R0 RW y=Z (u,y):=q1 a b c e f
def iv(a:RL RO RQ=Z u)(b:R0 y=Z (d,y):=by rfl)(c:RW y=Z (i,y):=by rfl)(e:d9 y d=Z RO:=by rfl)(f:d9 y i=Z RQ:=by rfl):aL RL R0 RW y=Z (u,y):=q1 b c e f a
variable{L:az (List bC)}{Rq:List bC}{E:List ak}
def eY{RL:List ak->Option ak}(a:L y=Z (Rq,y))(b:hH y Rq=Z E)(c:RL E=Z u):bT RL L y=Z (u,y):=o5 a b c
variable{f:Bool}
def gK{L:az ak}(c:L y=Z (.im<|.aG f,y)):b3 L y=Z (f,y):=NH c
def H7{L:az bC}(c:L y=Z (d,y))(a:d9 y d=Z u)(b:oC u=Z f):j7 L y=Z (f,y):=vJ c a b
def jZ(a:L y=Z (Rq,y))(b:eg Rq y=Z (E,y))(c:E.length<=100000)(n:rf E=u):di L y=Z (u,y):=K6 a b c n
def Ho(a:L y=Z (Rq,y))(b:eg Rq y=Z (E,y))(c:E.length<=100000)(n:rq E=u):eO L y=Z (u,y):=lV a b c n
def OM{L:az bC}{C e:az (Option Int)}{M U:Option Int}{a:ak}(b:L y=Z (d,y))(c:C y=Z (M,y))(f:e y=Z (U,y))(g:d9 y d=Z u)(h:mg u M U=Z a):gr L C e y=Z (a,y):=uA b c f g h
def oa{a:Nat}{L:az ak}(c:L y=Z (u,y))(e:a<y.length)(n:y.set a (Z u)=z):bZ a L y=Z (.bj,z):=gF c e n
end
end L2
namespace G
open L2
variable{J A O F RK RM E RH Rz w:Option ak}{D:Int}{e:ak}{Ra C:List (Int×Int)}{Ry:Type}{Sf:aU->Option V}{a s:Nat}{h:Int×Int}{y:aU}
def BJ(a v:Int):bU (.int a) (.int v)=decide (a=v):=by
 show (a==v)=_;by_cases e:a=v<;>simp[e]
def pP{bs:List (Int×Int)}{Y:Int×Int}(e:bs.length<100000):fs (bo bs) [.im (ag Y)]=Z (.im .aW,bo<|bs++[Y]):=by
 have:fs (bo bs) [.im (ag Y)]=Z (.im .aW,.lst<|bs.map ag++[ag Y]):=Gg (by rw[bH];exact e);rw[this];simp
def GL(bs:List (Int×Int)):dt [bo bs]=Z (aI (bs.length:Int)):=by
 show Z (aI ((bs.map ag).length:Int))=_;rw[bH]
def e0{H:Nat}(e:Nat.ble (s+1) H=ab):s<H:=fP e
def nS{RD:eK}{f:bM}{d:V}{x:List V}{z RA:aU}{p:Option (jT×aU)}(a:RD (.im d) y=Z z)(b:f z=Z (.bj,RA))(n:dn RD f x RA=p):dn RD f (d::x) y=p:=by
 rw[dn];show (RD (.im d) y).bind _=_;rw[a];show (f z).bind _=_;rw[b];exact n
def hL(C:List (Int×Int))(h:Int×Int):List (Int×Int):=(@List.erase (Int×Int) instBEqOfDecidableEq C h)
def PN(C:List (Int×Int))(h:Int×Int):hL (h::C) h=C:=@List.erase_cons_head (Int×Int) instBEqOfDecidableEq _ h C
def Qy{g:Int×Int}(C:List (Int×Int))(e:g≠h):hL (g::C) h=g::hL C h:=@List.erase_cons_tail (Int×Int) instBEqOfDecidableEq h g C ⇑e
def K5(e:h∈C):(hL C h).length=C.length-1:=@Em (Int×Int) instBEqOfDecidableEq _ h C e
def Mx{d:Int×Int}(e:d∈hL C h):d∈C:=@DJ (Int×Int) instBEqOfDecidableEq d h C e
abbrev aA:=Int×Int
variable{aa ae:List aA}{u:aA}{W:aA->List aA}
def cZ(ae:List aA)(W:aA->List aA):List (List V×List V):=(ae.map λh=>(b7 h,(W h).map ag))
def df(W:aA->List aA)(h:aA)(C:List aA):aA->List aA:=(λd=>if d=h then C else W d)
def Gk(ae:List aA)(W:aA->List aA):(cZ ae W).map (·.1)=ae.map b7:=by
 unfold cZ;rw[gj];rfl
def Az(ai:ae.Nodup):((cZ ae W).map (·.1)).Nodup:=by
 rw[Gk];exact sx.mpr (ai.imp λe a=>e<|jR a)
theorem xM:∀{ae:List aA}{W:aA->List aA}{h:aA},h∈ae->ks (cZ ae W) (b7 h)=Z ((W h).map ag)
 |q::ae,W,h,e=>by
  show ks ((b7 q,(W q).map ag)::cZ ae W) (b7 h)=_;by_cases c:q=h
  ·rw[Bh (by rw[c]),c]
  ·rw[DU λa=>c<|jR a];exact xM ((b9.mp e).resolve_left λa=>c a.symm)
def Mi(ae:List aA)(W:aA->List aA)(h:aA)(C:List aA):iB (cZ ae W) (b7 h) (C.map ag)=cZ ae (df W h C):=by
 unfold iB cZ;rw[gj];refine g_ λq Y=>?_;show (if b7 q=b7 h then (b7 q,C.map ag) else (b7 q,(W q).map ag))=(b7 q,(if q=h then C else W q).map ag);by_cases c:q=h
 ·rw[aB (by rw[c]),aB c]
 ·rw[aD λa=>c<|jR a,aD c]
def vA(h:aA):V.keys 7 (b7 h)=ab:=rfl
def tY{a0:ak->List ak->Option (ak×ak)}{e:aU->Option (List V)}{h:aA}{b:List V}{p:V}{C:List aA}(ai:ae.Nodup)(f:h∈ae)(g:y[a]?=Z (Z<|.dL<|cZ ae W))(c:Sf y=Z (ag h))(i:e y=Z b)(d:a0 (bo<|W h) (b.map .im)=Z (.im p,bo C)):hN a Sf a0 e y=Z (.im p,y.set a<|Z<|.dL<|cZ ae<|df W h C):=by
 have c:Sf y=Z (.tup<|b7 h):=c;have d:a0 (.lst<|(W h).map ag) (b.map .im)=Z (.im p,.lst<|C.map ag):=d;unfold hN;rw[g,c,i];dsimp only;rw[aB ⟨vA h,Az ai⟩,xM f];dsimp only;rw[d];dsimp only;rw[Mi]
def HN{h:aA}(ai:ae.Nodup)(c:h∈ae)(d:y[a]?=Z (Z<|.dL<|cZ ae W))(b:Sf y=Z (ag h)):o1 a Sf y=Z (!(W h).isEmpty,y):=by
 have b:Sf y=Z (.tup<|b7 h):=b;unfold o1;rw[d,b];dsimp only;rw[aB ⟨vA h,Az ai⟩,xM c];cases W h<;>rfl
def zA(C:List aA)(f:aA):kS (bo<|C++[f]) []=Z (.im<|ag f,bo C):=by
 show ((((C++[f]).map ag).getLast?).map λu=>(ak.im u,ak.lst ((C++[f]).map ag).dropLast))=_;rw[jx];simp
theorem zS:∀{C:List aA}{h:aA},h∈C->∃v,mE (C.map ag) (ag h)=Z v/\(C.map ag).eraseIdx v=(hL C h).map ag
 |g::C,h,e=>by
  rw[bV,mE,oz];by_cases c:g=h
  ·exact⟨0,aB<|dj c,by rw[c,PN];rfl⟩
  ·let⟨v,k,l⟩:=zS ((b9.mp e).resolve_left λa=>c a.symm);refine⟨v+1,?_,?_⟩
   ·rw[dv c,aD ∅,k];rfl
   ·rw[F1,l,Qy _ c];rfl
def Nd{C:List aA}{h:aA}(e:h∈C):qg (bo C) [.im (ag h)]=Z (.im .aW,bo<|hL C h):=by
 let⟨v,k,l⟩:=zS e;have a:=t_ h;have RR:=pA C;show (if (V.bw 8 (ag h)&&V.ct 8 (C.map ag))=ab then (mE (C.map ag)<|ag h).map λv=>(ak.im .aW,ak.lst<|(C.map ag).eraseIdx v) else X)=_;rw[a,RR,aB<|show (ab&&ab)=ab from rfl,k];show Z (ak.im .aW,ak.lst<|(C.map ag).eraseIdx v)=_;rw[l]
def jJ(ae:List aA)(W:aA->List aA):Nat:=((ae.map λh=>(W h).length).sum)
theorem wO:∀{ae:List aA}{W:aA->List aA}{h:aA}{C:List aA},ae.Nodup->h∈ae->jJ ae (df W h C)+(W h).length=jJ ae W+C.length
 |q::ae,W,h,C,ai,e=>by
  have ai:=e6.mp ai;show (df W h C q).length+jJ ae (df W h C)+_=(W q).length+jJ ae W+_;by_cases c:q=h
  ·subst c;have:jJ ae (df W q C)=jJ ae W:=by
    unfold jJ;congr 1;refine g_ λd b=>?_;unfold df;rw[aD λa=>ai.1 (by rw[<-a];exact b)]
   rw[this];unfold df;rw[aB rfl];omega
  ·have:=wO (W:=W) (C:=C) ai.2 ((b9.mp e).resolve_left λa=>c a.symm);have f:df W h C q=W q:=aD c;rw[f];omega
abbrev fx(ae:List aA)(W:aA->List aA)(m:aA)(N L:List aA)(RH RK:Option ak):aU:=[Z (.dL<|cZ ae W),Z<|.im<|ag m,Z<|bo N,Z<|bo L,RH,RK]
def H0(L:List aA)(h:aA):cm (bo<|L++[h]) (aI<|-1)=Z (.im<|ag h):=by
 show (dB ((L++[h]).map ag)<|-1).map ak.im=_;rw[Hn (u:=ag h) ↥0];rfl
def Pg{m:aA}{Q7:aA->aA->Nat}(ai:ae.Nodup)(L:m∈ae)(n:∀d∈ae,∀i∈W d,i∈ae)(j:bY.fU Q7 W [] m [] m m)(M:jJ ae W<=5000)(O:∀d i,1<=Q7 d i->bY.k2 Q7 m d):
  ∃D v,pC [.dL (cZ ae W),.im<|ag m]=Z (aR D,[.dL (cZ ae v),.im<|ag m])/\D.head?=Z m/\D.getLast?=Z m/\∀d i,Q7 d i=bY.ce D d i:=by
 let⟨Rw,aV,v,N,h,RH,RK,rfl,k,l,r⟩:=E1 (h:=D7) (f:=z1)
  (λH y=>(∃W b h N g RH RK,y=fx ae W m N (b++[h]) RH RK/\h∈ae/\(∀d∈b,d∈ae)/\(∀d∈ae,∀i∈W d,i∈ae)/\bY.fU Q7 W b h N m g/\jJ ae W+b.length+1<=H/\H+N.length<=6000)\/
   ∃W N h RH RK,y=fx ae W m (N++[h]) [] RH RK/\(N++[h]).head?=Z m/\(N++[h]).getLast?=Z m/\∀d i,Q7 d i=bY.ce (N++[h]) d i)
  (λy=>∃W N h RH RK,y=fx ae W m (N++[h]) [] RH RK/\(N++[h]).head?=Z m/\(N++[h]).getLast?=Z m/\∀d i,Q7 d i=bY.ce (N++[h]) d i)
  (λH y d5=>by
   rcases d5 with ⟨W,b,h,N,g,RH,RK,rfl,p,A,n,Rk,P,ap⟩|⟨W,N,h,RH,RK,rfl,k,l,r⟩
   ·refine⟨ab,fx ae W m N (b++[h]) RH RK,?_,λ_=>?_,(λE=>by cases E)⟩
    ·exact vJ rfl rfl (by show Z (!((b++[h]).map ag).isEmpty)=_;simp)
    ·have t:=H0 b h;have G:bZ 4 (aL cm (au 3)<|aj<|qF<|aH<|.int 1) (fx ae W m N (b++[h]) RH RK)=Z (.bj,fx ae W m N (b++[h]) (Z<|.im<|ag h) RK):=gF (q1 rfl (gd<|MP rfl) rfl rfl t) (e0 rfl) rfl;have B:=HN (y:=fx ae W m N (b++[h]) (Z<|.im<|ag h) RK) (a:=0) (Sf:=iD 4) ai p rfl rfl;rcases oH (W h) with c|⟨C,f,c⟩
     ·rw[c]at B;have Q:fE fX 3 kS aE (fx ae W m N (b++[h]) (Z<|.im<|ag h) RK)=Z (.im<|ag h,fx ae W m N b (Z<|.im<|ag h) RK):=ll rfl rfl rfl rfl rfl (zA b h) rfl;have RR:fs (bo N) [.im (ag h)]=Z (.im .aW,bo<|N++[h]):=pP (by omega);refine⟨.bj,fx ae W m (N++[h]) b (Z<|.im<|ag h) RK,cI G<|(yC B).trans<|kd<|ll rfl rfl (gN (gd Q) rfl) rfl rfl RR rfl,.inl rfl,H-1,by omega,?_⟩;rcases oH b with w|⟨R,u,w⟩
      ·subst w;let⟨k,l,r⟩:=Rk.fin c O;exact .inr ⟨W,N,h,_,_,rfl,k,l,r⟩
      ·rw[qN]at w;subst w;refine .inl ⟨W,R,u,N++[h],u,_,_,rfl,A u ↥0,λd o=>A d (by simp[o]),n,Rk.pop c,?_,?_⟩
       ·rw[c5,fQ]at P;omega
       ·rw[c5,fQ];omega
     ·rw[qN]at c;rw[c]at B;have B:o1 0 (iD 4) (fx ae W m N (b++[h]) (Z<|.im<|ag h) RK)=Z (ab,fx ae W m N (b++[h]) (Z<|.im<|ag h) RK):=by rw[B];simp
      let⟨F,I,S⟩:=Rk.push c;have x:f∈ae:=n h p f (by rw[c];simp);have T:hN 0 (iD 4) kS (λ_=>Z []) (fx ae W m N (b++[h]) (Z<|.im<|ag h) RK)=Z (.im<|ag f,fx ae (df W h C) m N (b++[h]) (Z<|.im<|ag h) RK):=tY (b:=[]) ai p rfl rfl rfl (by rw[c];exact zA C f);have gv:df W h C f=W f:=aD I;have J:hN 0 (iD 5) qg (λy=>((iD 4) y).map λu=>[u]) (fx ae (df W h C) m N (b++[h]) (Z<|.im<|ag h)<|Z<|.im<|ag f)=Z (.im .aW,fx ae (df (df W h C) f<|hL (W f) h) m N (b++[h]) (Z<|.im<|ag h)<|Z<|.im<|ag f):=tY (b:=[ag h]) ai x rfl rfl rfl (by rw[gv];exact Nd F);have al:fs (bo<|b++[h]) [.im (ag f)]=Z (.im .aW,bo<|b++[h]++[f]):=pP (by rw[c5,fQ];omega);have bS:df (df W h C) f (hL (W f) h)=bY.k9 W h f C (hL (W f) h):=by
       funext d;unfold df bY.k9;by_cases s:d=f
       ·rw[aB s,aD (by rw[s];exact I),aB s]
       ·rw[aD s,aD s]
      rw[bS]at J;refine⟨.bj,fx ae (bY.k9 W h f C<|hL (W f) h) m N (b++[h]++[f]) (Z<|.im<|ag h)<|Z<|.im<|ag f,cI G<|(vd B).trans<|cI (gF T (e0 rfl) rfl)<|cI (kd J)<|kd<|ll rfl rfl (gN rfl rfl) rfl rfl al rfl,.inl rfl,H-1,by omega,.inl ⟨_,b++[h],f,N,g,_,_,rfl,x,λd o=>?_,λd o i q=>?_,S,?_,?_⟩⟩
      ·rcases dY.mp o with e|e
       ·exact A d e
       ·rw[cV.mp e];exact p
      ·unfold bY.k9 at q;split at q
       ·exact n h p i (by rw[c];simp[q])
       ·split at q
        ·exact n f x i (Mx q)
        ·exact n d o i q
      ·have am:=wO (W:=W) (C:=C) ai p;have an:=wO (W:=df W h C) (C:=hL (W f) h) ai x;rw[gv,bS]at an;rw[c,c5,fQ]at am;have f7:=K5 F;have:=Dg F;rw[c5,fQ];omega
      ·omega
   ·exact⟨ax,_,vJ rfl rfl rfl,(λE=>by cases E),λ_=>⟨W,N,h,RH,RK,rfl,k,l,r⟩⟩) 1000000 5001 (fx ae W m [] ([]++[m]) X X) (.inl ⟨W,[],m,[],m,X,X,rfl,L,(λd o=>by cases o),n,j,by simp;exact M,by simp⟩) ∅
 refine⟨(N++[h]).reverse,v,?_,?_,?_,λd i=>(r d i).trans (bY.E_ d i _).symm⟩
 ·unfold pC;refine g5 (y:=fx ae v m (N++[h]) [] RH RK) rfl ?_ rfl;show wK [Z (.dL<|cZ ae W),Z<|.im<|ag m,X,X,X,X]=_;unfold wK;refine cI (z:=[Z (.dL<|cZ ae W),Z<|.im<|ag m,Z<|bo [],X,X,X]) (gF rfl (e0 rfl) rfl) (cI (z:=fx ae W m [] [m] X X) (gF (lV (gN rfl rfl) rfl (fP rfl) rfl) (e0 rfl) rfl)<|cI aV<|h7 ?_);show Z (ak.im<|.tup ((N++[h]).map ag).reverse,_)=Z (ak.im<|.tup<|(N++[h]).reverse.map ag,_);rw[List.map_reverse]
 ·rw[List.head?_reverse];exact l
 ·rw[List.getLast?_reverse];exact k
abbrev cv:=aA×aA
variable{Q:List cv}
def bS(c:cv):V:=(.tup [ag c.1,ag c.2])
def hJ(W:aA->List aA)(c:cv):aA->List aA:=(df (df W c.1<|W c.1++[c.2]) c.2 (df W c.1 (W c.1++[c.2]) c.2++[c.1]))
def gR(Q:List cv):aA->List aA:=(Q.foldl hJ λ_=>[])
def GV{h:aA}(a:W h=[])(b:h∉ae)(i:ae.length<10000):putL (.dL<|cZ ae W) (.im<|ag h) (.lst [])=Z (.dL<|cZ (ae++[h]) W):=by
 show (if V.keys 7 (b7 h)=ab/\(cZ ae W).length<100000/\b7 h∉(cZ ae W).map (·.1) then Z (ak.dL<|cZ ae W++[(b7 h,[])]) else X)=_;have e:b7 h∉(cZ ae W).map (·.1):=by
  rw[Gk];intro f;let⟨d,g,c⟩:=dZ.mp f;exact b (jR c ▸ g)
 rw[aB ⟨vA h,by unfold cZ;rw[bH];omega,e⟩];unfold cZ;rw[jx];show _=Z (ak.dL<|_++[(b7 h,(W h).map ag)]);rw[a];rfl
theorem F6{w Rz RH:Option ak}:∀(a ae:List aA) (E:Option ak),(ae++a).Nodup->(ae++a).length<10000->
  ∃b,dn (bu 3) mY (a.map ag) [w,Rz,Z<|.dL<|cZ ae λ_=>[],E,RH]=Z (.bj,[w,Rz,Z<|.dL<|cZ (ae++a) λ_=>[],b,RH])
 |[],ae,E,_,_=>⟨E,by rw[b5];rfl⟩
 |h::a,ae,E,ai,d=>by
  have f:h∉ae:=λe=>(c7.mp ai).2.2 h e h (.head _) rfl;let⟨b,g⟩:=F6 (w:=w) (Rz:=Rz) (RH:=RH) a (ae++[h]) (Z<|.im<|ag h) (by rw[a_];exact ai) (by rw[a_];exact d);refine⟨b,?_⟩;have i:=GV (W:=λ_=>[]) rfl f (by rw[c5]at d;omega);have c:mY [w,Rz,Z<|.dL<|cZ ae λ_=>[],Z<|.im<|ag h,RH]=Z (.bj,[w,Rz,Z<|.dL<|cZ (ae++[h]) λ_=>[],Z<|.im<|ag h,RH]):=by
   unfold mY;refine Fp rfl ?_;show (putL (.dL<|cZ ae λ_=>[]) (.im<|ag h)<|.lst []).map _=_;rw[i];rfl
  rw[bV,dn];show (mY [w,Rz,Z<|.dL<|cZ ae λ_=>[],Z<|.im<|ag h,RH]).bind _=_;rw[c];rw[show ae++h::a=ae++[h]++a by simp];exact g
theorem AW{w Rz E:Option ak}{ae:List aA}(ai:ae.Nodup):∀(Q:List cv) (W:aA->List aA) (RH:Option ak),(∀c∈Q,c.1∈ae/\c.2∈ae)->(∀d,(W d).length+2*Q.length<10000)->
  ∃a,dn (bu 4) tj (Q.map bS) [w,Rz,Z<|.dL<|cZ ae W,E,RH]=Z (.bj,[w,Rz,Z<|.dL<|cZ ae<|Q.foldl hJ W,E,a])
 |[],W,RH,_,_=>⟨RH,rfl⟩
 |c::Q,W,RH,e,b=>by
  have g:=e c (.head _);have i:=b c.1;have h:∀d,(df W c.1 (W c.1++[c.2]) d).length<=(W d).length+1:=λd=>by
   unfold df;split
   ·rename_i f;rw[f,c5,fQ];omega
   ·omega
  have j:∀d,(hJ W c d).length<=(W d).length+2:=λd=>by
   have:=h d;unfold hJ;generalize df W c.1 (W c.1++[c.2])=q at *;unfold df;split
   ·rename_i f;rw[<-f,c5,fQ];omega
   ·omega
  let⟨a,k⟩:=AW (w:=w) (Rz:=Rz) (E:=E) ai Q (hJ W c) (Z<|.im<|bS c) (λu hd=>e u<|.tail _ hd) λd=>by
   have:=b d;have:=j d;rw[dd] at *;omega
  refine⟨a,?_⟩;rw[dd]at i;have l:fs (bo<|W c.1) [.im (ag c.2)]=Z (.im .aW,bo<|W c.1++[c.2]):=pP (by omega);have m:fs (bo<|df W c.1 (W c.1++[c.2]) c.2) [.im (ag c.1)]=Z (.im .aW,bo<|df W c.1 (W c.1++[c.2]) c.2++[c.1]):=pP (by
   have:=h c.2;have:=b c.2;rw[dd]at this;omega)
  have n:hN 2 (j1 4 0) fs (λy=>((j1 4 1) y).map λu=>[u]) [w,Rz,Z<|.dL<|cZ ae W,E,Z<|.im<|bS c]=Z (.im .aW,[w,Rz,Z<|.dL<|cZ ae<|df W c.1<|W c.1++[c.2],E,Z<|.im<|bS c]):=tY (b:=[ag c.2]) ai g.1 rfl rfl rfl l;have p:hN 2 (j1 4 1) fs (λy=>((j1 4 0) y).map λu=>[u]) [w,Rz,Z<|.dL<|cZ ae<|df W c.1<|W c.1++[c.2],E,Z<|.im<|bS c]=Z (.im .aW,[w,Rz,Z<|.dL<|cZ ae<|hJ W c,E,Z<|.im<|bS c]):=tY (b:=[ag c.1]) ai g.2 rfl rfl rfl m;rw[bV,dn];show (tj [w,Rz,Z<|.dL<|cZ ae W,E,Z<|.im<|bS c]).bind _=_;rw[show tj [w,Rz,Z<|.dL<|cZ ae W,E,Z<|.im<|bS c]=Z (.bj,[w,Rz,Z<|.dL<|cZ ae<|hJ W c,E,Z<|.im<|bS c]) from cI (kd n) (kd p)];exact k
def O_(q:aA)(p:List aA):dn (bu 3) mY ((q::p).map ag) [w,Rz,Z<|.aS [],E,RH]=dn (bu 3) mY (p.map ag) [w,Rz,Z<|.dL<|cZ [q] λ_=>[],Z<|.im<|ag q,RH]:=rfl
def Iu(ne:ae≠[])(ai:ae.Nodup)(d:ae.length<10000)(e:∀c∈Q,c.1∈ae/\c.2∈ae)(f:2*Q.length<10000):
  ov [aR ae,.im<|.tup<|Q.map bS]=Z (.dL<|cZ ae<|gR Q,[aR ae,.im<|.tup<|Q.map bS]):=by
 let⟨q,p,rfl⟩:=tU ne;let⟨b,a⟩:=F6 (w:=Z (aR (q::p))) (Rz:=Z (.im<|.tup<|Q.map bS)) (RH:=X) p [q] (Z<|.im<|ag q) ai d;let⟨g,h⟩:=AW (w:=Z (aR (q::p))) (Rz:=Z (.im<|.tup<|Q.map bS)) (E:=b) ai Q (λ_=>[]) X e λ_=>by simpa using f
 have a:=(O_ (w:=Z (aR (q::p))) (Rz:=Z (.im<|.tup<|Q.map bS)) (E:=X) (RH:=X) q p).trans a;unfold ov;refine g5 (y:=[Z (aR (q::p)),Z<|.im<|.tup<|Q.map bS,Z .ek,b,g]) rfl ?_ rfl;show ya [Z (aR (q::p)),Z<|.im<|.tup<|Q.map bS,X,X,X]=_;unfold ya;exact cI (z:=[Z (aR (q::p)),Z<|.im<|.tup<|Q.map bS,Z<|.aS [],X,X]) rfl (cI (jj (Y:=X) (x:=(q::p).map ag) rfl a rfl)<|cI (jj (Y:=X) (x:=Q.map bS) rfl h rfl) rfl)
def cY(c:cv)(d i:aA):Nat:=((if c.1=d/\c.2=i then 1 else 0)+if c.2=d/\c.1=i then 1 else 0)
def J_(W:aA->List aA)(c:cv)(d i:aA):@List.count aA instBEqOfDecidableEq i (hJ W c d)=@List.count aA instBEqOfDecidableEq i (W d)+cY c d i:=by
 have h:∀(C:List aA) (f:aA),@List.count aA instBEqOfDecidableEq i (C++[f])=@List.count aA instBEqOfDecidableEq i C+if f=i then 1 else 0:=λC f=>by
  rw[@vr aA instBEqOfDecidableEq,@yv aA instBEqOfDecidableEq,@List.count_nil aA instBEqOfDecidableEq];by_cases e:f=i<;>simp[e]
 unfold hJ cY;by_cases l:c.2=d<;>by_cases k:c.1=d
 ·simp only[df,k,l,e8,h];simp only[true_and];omega
 ·have b:¬ d=c.1:=λa=>k a.symm;simp only[df,l,e8,h,b,eL,k,false_and];simp only[true_and];omega
 ·have g:¬ d=c.2:=λa=>l a.symm;simp only[df,k,e8,h,g,eL,l,false_and];simp only[true_and];omega
 ·have b:¬ d=c.1:=λa=>k a.symm;have g:¬ d=c.2:=λa=>l a.symm;simp only[df,b,g,k,l,eL,false_and];omega
theorem EZ(d i:aA):∀(Q:List cv) (W:aA->List aA),@List.count aA instBEqOfDecidableEq i (Q.foldl hJ W d)=@List.count aA instBEqOfDecidableEq i (W d)+(Q.map λc=>cY c d i).sum
 |[],W=>rfl
 |c::Q,W=>by rw[k7,EZ d i Q<|hJ W c,J_,bV,fN];omega
def NR(Q:List cv)(d i:aA):@List.count aA instBEqOfDecidableEq i (gR Q d)=(Q.map λc=>cY c d i).sum:=by
 unfold gR;rw[EZ];simp
def c1(g f:aA):Bool:=(bh (ag g) (ag f))
def Ls(d i:aA):c1 d i=if d.1=i.1 then decide (d.2<i.2) else decide (d.1<i.1):=by
 have f:∀a v:Int,V.beq (.int<|a) (.int v)=decide (a=v):=λa v=>by rw[V.beq]
 show (if V.beq (.int d.1) (.int i.1)=ab then (if V.beq (.int d.2) (.int i.2)=ab then ax else decide (d.2<i.2)) else decide (d.1<i.1))=_;rw[f,f];by_cases k:d.1=i.1
 ·rw[dj k,aB rfl,aB k];by_cases l:d.2=i.2
  ·rw[dj l,aB rfl,l,dv<|Bs _]
  ·rw[dv l,aD c_]
 ·rw[dv k,aD c_,aD k]
def gH(d i:aA):c1 d i=ab↔d.1<i.1\/d.1=i.1/\d.2<i.2:=by
 rw[Ls];split
 ·rename_i e;rw[hb];omega
 ·rename_i e;rw[hb];omega
def r_{h:aA}:u∈cL h↔(u.1=h.1-1/\u.2=h.2)\/(u.1=h.1/\u.2=h.2-1)\/(u.1=h.1/\u.2=h.2+1)\/(u.1=h.1+1/\u.2=h.2):=by
 unfold cL;simp only[b9,mi,jv,lM]
def pk{h:aA}(e:u∈cL h):h∈cL u:=by
 rw[r_] at *;omega
def BX{h:aA}(e:u∈cL h):u≠h:=λc=>by
 rw[r_,c]at e;omega
def zd(h:aA):(cL h).Nodup:=by
 have s:∀{g f d i:Int},g≠d\/f≠i->((g,f):aA)≠(d,i):=λe c=>e.elim (λe=>e<|congrArg Prod.fst c) λe=>e (congrArg Prod.snd c);unfold cL;refine e6.mpr ⟨?_,e6.mpr ⟨?_,e6.mpr ⟨?_,e6.mpr ⟨mi,jo⟩⟩⟩⟩
 ·intro z;rcases b9.mp z with z|z
  ·exact s (.inl (by omega)) z
  rcases b9.mp z with z|z
  ·exact s (.inl (by omega)) z
  ·exact s (.inl (by omega)) (cV.mp z)
 ·intro z;rcases b9.mp z with z|z
  ·exact s (.inr (by omega)) z
  ·exact s (.inl (by omega)) (cV.mp z)
 ·intro z;exact s (.inl (by omega)) (cV.mp z)
def cU(aa:List aA)(h:aA):List aA:=((cL h).filter λu=>decide (u∈aa))
def rp{h:aA}:u∈cU aa h↔u∈cL h/\u∈aa:=by
 unfold cU;rw[jK,hb]
def iP(aa Ra:List aA):List cv:=(Ra.flatMap λh=>((cU aa h).filter<|c1 h).map λu=>(h,u))
abbrev cu(aa:List aA):List cv:=iP aa aa
def dK{c:cv}:c∈cu aa↔c.1∈aa/\c.2∈aa/\c.2∈cL c.1/\c1 c.1 c.2=ab:=by
 unfold cu iP;rw[y3];constructor
 ·rintro⟨h,d,e⟩;let⟨u,hd,rfl⟩:=dZ.mp e;let⟨k,l⟩:=jK.mp hd;let⟨a,b⟩:=rp.mp k;exact⟨d,b,a,l⟩
 ·rintro⟨k,l,a,b⟩;exact⟨c.1,k,dZ.mpr ⟨c.2,jK.mpr ⟨rp.mpr ⟨a,l⟩,b⟩,rfl⟩⟩
theorem qL{aa:List aA}:∀{Ra:List aA},Ra.Nodup->(iP aa Ra).Nodup
 |[],_=>jo
 |h::Ra,ai=>by
  have ai:=e6.mp ai;unfold iP;rw[lE];refine c7.mpr ⟨xK _ (λg f s c=>s (Prod.mk.inj c).2)<|((zd h).filter _).filter _,qL ai.2,λd a i b c=>?_⟩;let⟨u,Y,rfl⟩:=dZ.mp a;let⟨k,j,e⟩:=y3.mp b;let⟨l,Y,rfl⟩:=dZ.mp e;exact ai.1 ((Prod.mk.inj c).1 ▸ j)
theorem tS{aa:List aA}:∀Ra:List aA,(iP aa Ra).length<=4*Ra.length
 |[]=>bD _
 |h::Ra=>by
  have a:=tS (aa:=aa) Ra;unfold iP at a ⊢;rw[lE,c5,bH,dd];have k:((cU aa h).filter<|c1 h).length<=(cU aa h).length:=lY _ _;have l:(cU aa h).length<=(cL h).length:=lY _ _;have b:(cL h).length=4:=rfl;omega
def cA{Ry:Type}[DecidableEq Ry](c:Ry)(C:List Ry):Nat:=((C.map λu=>if u=c then 1 else 0).sum)
def hR[DecidableEq Ry](c g:Ry)(C:List Ry):cA c (g::C)=(if g=c then 1 else 0)+cA c C:=by unfold cA;rw[bV,fN]
theorem sg{Ry:Type}[DecidableEq Ry](c:Ry):∀C H:List Ry,cA c (C++H)=cA c C+cA c H
 |[],H=>(lb _).symm
 |g::C,H=>by rw[mq,hR,hR,sg c C H,nX]
theorem h2{Ry:Type}[DecidableEq Ry](c:Ry):∀C:List Ry,C.count c=cA c C
 |[]=>rfl
 |g::C=>by
  rw[yv,hR,h2 c C,zI];congr 1;by_cases e:g=c
  ·rw[aB e,aB ⇑e]
  ·rw[aD e,aD ⇑e]
def gs[DecidableEq Ry]{c:Ry}{C:List Ry}(e:c∉C):cA c C=0:=by rw[<-h2];exact BP.mpr e
def rm[DecidableEq Ry]{c:Ry}{C:List Ry}(e:1<=cA c C):c∈C:=by rw[<-h2]at e;exact mQ.mp e
def m4[DecidableEq Ry]{c:Ry}{C:List Ry}(ai:C.Nodup)(e:c∈C):cA c C=1:=by
 have k:=List.nodup_iff_count.mp ai c;have l:=mQ.mpr e;rw[h2]at k l;omega
def BM[DecidableEq Ry]{C H:List Ry}(e:∀c,cA c C=cA c H):C.Perm H:=List.perm_iff_count.mpr λc=>by rw[h2,h2,e]
theorem CA{Ry RZ:Type}[DecidableEq Ry](c:Ry)(N:RZ->List Ry):∀C:List RZ,cA c (C.flatMap N)=(C.map λf=>cA c<|N f).sum
 |[]=>rfl
 |f::C=>by rw[lE,sg,CA c N C,bV,fN]
def ey(Q:List cv)(d:aA):Nat:=((Q.map λc=>(if c.1=d then 1 else 0)+if c.2=d then 1 else 0).sum)
def N7(Q:List cv)(d i:aA):(Q.map λc=>cY c d i).sum=cA (d,i) Q+cA (i,d) Q:=by
 unfold cA;rw[<-bY.sum_add];congr 1;refine g_ λc Y=>?_;unfold cY;have h:∀(g f:aA),(if c.1=g/\c.2=f then 1 else 0)=if c=(g,f) then 1 else 0:=λg f=>by
  by_cases e:c=(g,f)
  ·rw[aB e,aB ⟨congrArg Prod.fst e,congrArg Prod.snd e⟩]
  ·rw[aD e,aD λa=>e<|pE a.1 a.2]
 rw[h,<-h i d];congr 1;by_cases e:c.2=d/\c.1=i
 ·rw[aB e,aB ⟨e.2,e.1⟩]
 ·rw[aD e,aD λa=>e ⟨a.2,a.1⟩]
def Bz(Q:List cv)(d i:aA):cA i (gR Q d)=cA (d,i) Q+cA (i,d) Q:=by
 rw[<-h2,NR,N7]
def Pu(W:aA->List aA)(c:cv)(d:aA):(hJ W c d).length=(W d).length+((if c.1=d then 1 else 0)+if c.2=d then 1 else 0):=by
 unfold hJ;by_cases l:c.2=d<;>by_cases k:c.1=d
 ·simp only[df,k,l,e8,c5,fQ]
 ·have b:¬ d=c.1:=λa=>k a.symm;simp only[df,l,e8,b,eL,k,c5,fQ]
 ·have e:¬ d=c.2:=λa=>l a.symm;simp only[df,k,e8,e,eL,l,c5,fQ]
 ·have b:¬ d=c.1:=λa=>k a.symm;have e:¬ d=c.2:=λa=>l a.symm;simp only[df,b,e,k,l,eL];omega
theorem Fw(d:aA):∀(Q:List cv) (W:aA->List aA),(Q.foldl hJ W d).length=(W d).length+ey Q d
 |[],W=>rfl
 |c::Q,W=>by rw[k7,Fw d Q,Pu];unfold ey;rw[bV,fN];omega
theorem yK(Q:List cv)(d:aA):(gR Q d).length=ey Q d:=(Fw d Q _).trans (lb _)
def Lm(d:aA)(Q aa:List cv):ey (Q++aa) d=ey Q d+ey aa d:=by
 unfold ey;rw[jx,List.sum_append]
def rB(ai:aa.Nodup){d:aA}(b:d∈aa):ey (cu aa) d=(cU aa d).length:=by
 rw[<-yK];refine (BM λi=>?_).length_eq;rw[Bz];have s:=qL (aa:=aa) ai;have z:(cU aa d).Nodup:=(zd d).filter _;by_cases e:i∈cU aa d
 ·rw[m4 z e];let⟨k,l⟩:=rp.mp e;have f:=r_.mp k;cases C:c1 d i with
  |true=>
   rw[m4 s (dK.mpr ⟨b,l,k,C⟩),gs];intro a;have:=(gH _ _).mp (dK.mp a).2.2.2;have:=(gH _ _).mp C;dsimp only at *;omega
  |false=>
   have c:c1 i d=ab:=by
    rw[gH];have:¬ c1 d i=ab:=by rw[C];exact c_
    rw[gH]at this;omega
   rw[gs,m4 s<|dK.mpr ⟨l,b,pk k,c⟩];intro a;have:=(dK.mp a).2.2.2;rw[C]at this;cases this
 ·rw[gs e,gs,gs]
  ·exact λa=>e (rp.mpr ⟨pk (dK.mp a).2.2.1,(dK.mp a).1⟩)
  ·exact λa=>e (rp.mpr ⟨(dK.mp a).2.2.1,(dK.mp a).2.1⟩)
def AO{d:aA}(e:∀c∈Q,c.1≠d/\c.2≠d):ey Q d=0:=by
 induction Q with
 |nil=>rfl
 |cons c Q a=>
  unfold ey at *;rw[bV,fN,aD (e c<|.head _).1,aD (e c<|.head _).2,a λu hd=>e u<|.tail _ hd]
def FR(ai:aa.Nodup){Q:List cv}(e:∀c∈Q,c.1∈aa/\c.2∈aa):(aa.map λd=>ey Q d).sum=2*Q.length:=by
 induction Q with
 |nil=>exact bY.oZ aa
 |cons c Q a=>
  have a:=a λu hd=>e u (.tail _ hd);have b:(aa.map λd=>ey (c::Q) d)=aa.map λd=>((if c.1=d then 1 else 0)+if c.2=d then 1 else 0)+ey Q d:=g_ λd Y=>by unfold ey;rw[bV,fN]
  rw[b,bY.sum_add,bY.sum_add,bY.o7 ai (e c<|.head _).1,bY.o7 ai (e c<|.head _).2,a,dd];omega
theorem DT(N:aA->Nat):∀C:List aA,(C.map N).sum%2=(C.filter λd=>decide (N d%2=1)).length%2
 |[]=>rfl
 |d::C=>by
  have a:=DT N C;rw[bV,fN];by_cases e:N d%2=1
  ·rw[List.filter_cons_of_pos (by rw[dj e]),dd];omega
  ·rw[List.filter_cons_of_neg (by rw[dv e];exact c_)];omega
def da(aa:List aA):List aA:=(aa.filter λh=>decide ((cU aa h).length%2=1))
def Ja(ai:aa.Nodup):(da aa).length%2=0:=by
 have e:=FR ai (Q:=cu aa) λc a=>⟨(dK.mp a).1,(dK.mp a).2.1⟩;have c:(aa.map λd=>ey (cu aa) d)=aa.map λd=>(cU aa d).length:=g_ λd b=>rB ai b;rw[c]at e;have o:=DT (λd=>(cU aa d).length) aa;rw[e]at o;unfold da;omega
def iU(Ra Ru:List (Int×Int)):Nat:=(Ra.countP λh=>decide (h∉Ru))
def JL{Ru:List (Int×Int)}(k:h∈Ra)(l:h∉Ru):iU Ra (Ru++[h])<iU Ra Ru:=by
 unfold iU;refine xo (λd b c=>?_) ⟨h,k,dj l,dv λa=>a<|en _<|.head _⟩;exact dj λa=>g9 c (eX _ a)
def Hy{t:List Ry}(e:t≠[]):∃a D,t=a++[D]:=⟨t.dropLast,t.getLast e,(List.dropLast_concat_getLast e).symm⟩
def yh(o:Int×Int):dB [V.int o.1,.int o.2] 0=Z (.int o.1):=rfl
def vm(o:Int×Int):dB [V.int o.1,.int o.2] 1=Z (.int o.2):=rfl
def yT{a:Int}(b:0<=a)(e:Ra[a.toNat]?=Z h):dB (Ra.map ag) a=Z (ag h):=sf b (by rw[gc,e];rfl)
def GA(Rg:List (Int×Int))(h:Int×Int):hD (ag h) (bo Rg)=Z (decide (h∈Rg)):=by
 rw[Nw,t_,pA,AF];rfl
def Pm(Rg:List (Int×Int))(h:Int×Int):hD (ag h) (aR Rg)=Z (decide (h∈Rg)):=by
 rw[Nv,t_,pA,AF];rfl
def h4(h:Int×Int):Prop:=(0<=h.1/\h.1<25/\0<=h.2/\h.2<25)
def JX{H:Int}{n:Option ak}(j:ef (s+2) e)(v:Ra≠[])(al:Ra.length<=500)(w:∀h∈Ra,h4 h):
  ∃S m z,ta [Z e,Z<|aI H,Z<|bo Ra,n,RH]=Z (.bj,[Z S,Z<|aI H,Z<|bo m,n,z])/\ef s S/\m≠[]/\m.length<=Ra.length+1/\∀h∈m,h4 h:=by
 have am:=pF.mpr v;let⟨x,@k,A,B,an,Rb⟩:=jG (s:=s+1) (H:=(Ra.length:Int)) j ⋯ ⋯;obtain⟨h,c⟩:∃h,Ra[x.toNat]?=Z h:=⟨Ra[x.toNat]'⋯,by simp⟩;let⟨r,@l,C,dp,dC,Ro⟩:=jG (s:=s) (H:=4) Rb ⋯ ⋯;obtain⟨Y,D⟩:∃Y,(cL h)[r.toNat]?=Z Y:=⟨(cL h)[r.toNat]'(by show r.toNat<4;lia),by simp⟩;have E:=yT B c;have F:=yT dp D;have I:=tW h;let⟨@J,rfl⟩:=j.lst;let⟨@ap,rfl⟩:=Rb.lst;let⟨@g,rfl⟩:=Ro.lst;have t:bZ 4 (aL cm (aj<|bG 1 G.iZ<|av (aj<|aL cm (au 2)<|aj<|bG 2 G.ff<|av (au 0)<|av (aj<|bT dt<|av (au 2) aE) aE) aE)<|aj<|bG 2 G.ff<|av (au 0)<|av (aj<|aH<|.int 4) aE) [Z (.lst J),Z<|aI H,Z<|bo Ra,n,RH]=Z (.bj,[Z (.lst g),Z<|aI H,Z<|bo Ra,n,Z<|.im<|ag Y]):=by
  simp -implicitDefEqProofs [A,E,I,C,F]
 have L:=GA Ra Y;have b:=yh Y;have M:=vm Y;obtain⟨y,d⟩:∃y:aU,y=[Z (.lst g),Z<|aI H,Z<|bo Ra,n,Z<|.im<|ag Y]:=⟨_,rfl⟩;rw[<-d]at t;have N:b3 (aL k6 (au 4)<|au 2) y=Z (!decide (Y∈Ra),y):=by
  rw[d];show (((hD (ag Y)<|bo Ra).map λp=>ak.im<|.aG<|!p).map λu=>(u,[Z (.lst g),Z<|aI H,Z<|bo Ra,n,Z<|.im<|ag Y])).bind (λo=>(mJ o.1).map λf=>(f,o.2))=_;rw[L];rfl
 have O:b3 (mf il il (aj<|aH<|.int 0) (aj<|aL cm (au 4)<|aj<|aH<|.int 0)<|aj<|aH<|.int 24) y=Z (decide (0<=Y.1)&&decide (Y.1<=24),y):=by
  rw[d];by_cases a:0<=Y.1<;>simp -implicitDefEqProofs [ag,b,a]
 have P:b3 (mf il il (aj<|aH<|.int 0) (aj<|aL cm (au 4)<|aj<|aH<|.int 1)<|aj<|aH<|.int 24) y=Z (decide (0<=Y.2)&&decide (Y.2<=24),y):=by
  rw[d];by_cases a:0<=Y.2<;>simp -implicitDefEqProofs [ag,M,a]
 have fin:∀f:Bool,f=(!decide (Y∈Ra)&&((decide (0<=Y.1)&&decide (Y.1<=24))&&(decide (0<=Y.2)&&decide (Y.2<=24))))->
   ik (b3<|aL k6 (au 4)<|au 2) (ik (b3<|mf il il (aj<|aH<|.int 0) (aj<|aL cm (au 4)<|aj<|aH<|.int 0)<|aj<|aH<|.int 24)<|b3<|mf il il (aj<|aH<|.int 0) (aj<|aL cm (au 4)<|aj<|aH<|.int 1)<|aj<|aH<|.int 24) y=Z (f,y):=by
  intro f Q;rw[Q];simp -implicitDefEqProofs only[ik,N,O,P,px];generalize (decide (0<=Y.1)&&decide (Y.1<=24))=i;generalize (decide (0<=Y.2)&&decide (Y.2<=24))=a;cases decide (Y∈Ra)<;>cases i<;>rfl
 unfold ta;by_cases q:Y∉Ra/\0<=Y.1/\Y.1<=24/\0<=Y.2/\Y.2<=24
 ·have R:=fin ab (by simp[q]);refine⟨.lst g,Ra++[Y],Z<|.im<|ag Y,(gO t).trans<|(vd R).trans ?_,Ro,by simp,by simp,λh c=>?_⟩
  ·have T:Ra.length<100000:=⋯
   rw[d];simp -implicitDefEqProofs [fX,T]
  ·rcases dY.mp c with c|c
   ·exact w h c
   ·rw[cV.mp c];exact⟨q.2.1,⋯,q.2.2.2.1,⋯⟩
 ·have U:=fin ax (by
   cases a:(!decide (Y∈Ra)&&((decide (0<=Y.1)&&decide (Y.1<=24))&&(decide (0<=Y.2)&&decide (Y.2<=24)))) with
   |false=>rfl
   |true=>
    simp at a;exact absurd ⟨a.1,a.2.1.1,a.2.1.2,a.2.2.1,a.2.2.2⟩ q)
  exact⟨.lst g,Ra,Z<|.im<|ag Y,(gO t).trans ((yC U).trans (by rw[d];rfl)),Ro,v,⋯,w⟩
def Lc(a v:Int):ka [.im (.int a),.im<|.int v]=Z (.im<|.int<|if v>a then v else a):=rfl
def G2(a v:Int):mB [.im (.int a),.im<|.int v]=Z (.im<|.int<|if v<a then v else a):=rfl
theorem AN{Ry RZ:Type}(N:Ry->RZ):∀(C:List Ry) (n:Nat),(C.map N).eraseIdx n=(C.eraseIdx n).map N
 |[],_=>rfl
 |_::_,0=>rfl
 |g::C,n+1=>by simp[AN N C n]
def kE(D:Int)(s:Nat):List (Int×Int):=((range s).map λ(n:Nat)=>((0+(n:Int))/D,(0+(n:Int))%D))
def M9(D:Int)(s:Nat):(kE D s).length=s:=by rw[kE,bH,lX]
def O2(a:0<D)(f:D<=7)(g:(s:Int)<=7*D):∀h∈kE D s,h4 h:=by
 intro h b;let⟨n,c,rfl⟩:=dZ.mp b;have:=iJ.mp c;have d:0<=(0+(n:Int))/D:=FF ⋯ ⋯;have i:(0+(n:Int))/D<7:=Int.ediv_lt_of_lt_mul a ⋯;have e:=kK (0+(n:Int)) (show D≠0 by lia);have j:=lQ (0+(n:Int)) a;exact⟨d,by show (0+(n:Int))/D<25;lia,e,by show (0+(n:Int))%D<25;lia⟩
def JE{a:Int}(c:0<D)(d:D<=7)(e:0<a)(f:a<=7):
  bZ 5 (cP 1 [3] (iK<|av (aj<|aL iw (au 4)<|au 3) aE) (bu 0) dS G.xD) [w,Rz,RM,Z<|aI D,Z<|aI a,RK,F,O,A,J]=Z (.bj,[w,Rz,RM,Z<|aI D,Z<|aI a,Z<|bo<|kE D (a*D).toNat,F,O,A,J]):=by
 obtain⟨s,b⟩:∃s:Int,s=a*D:=⟨_,rfl⟩;have Si:0<s:=by rw[b];exact FX e c
 have i:s<=49:=by
  rw[b];have:=B9 f d ⋯ ⋯;lia
 have g:pJ s:=⟨⋯,⋯⟩;have mk:gI a D=ab:=m_ ⋯ ⋯;rw[<-b];refine (vY (u:=bo (kE D s.toNat)) (z:=[w,Rz,RM,Z<|aI D,Z<|aI a,RK,F,O,A,J]) ?_ (show 5<10 by decide)).trans rfl;refine (mX (x:=fS 0 s.toNat) (Y:=X) (z:=[w,Rz,RM,Z<|aI D,Z<|aI a,RK,F,O,A,J]) ?_ (jO _ (λ(n:Nat)=>ag ((0+(n:Int))/D,(0+(n:Int))%D)) _ (λn j=>?_) (by rw[lX];lia))).trans ?_
 ·simp -implicitDefEqProofs [mk,<-b,g]
 ·have h:D<1073741824:=⋯
  exact⟨[Z (aI<|0+(n:Int)),Z<|aI D],_,[Z (aI<|0+(n:Int)),Z<|aI D],rfl,rfl,by simp -implicitDefEqProofs [xD,c,h,ag],rfl⟩
 ·show Z (ak.lst _,_)=Z (ak.lst<|(kE D s.toNat).map ag,_);unfold kE;rw[gj];rfl
def M1(q:Nat){e:ak}{Ra:List (Int×Int)}{F:Option ak}(j:ef (s+200) e)(Q:q<Ra.length)(R:Ra.length<=100)(o:∀h∈Ra,h4 h):
  ∃S c p,dn (bu 6) pf (fS 0 q) [Z e,Rz,RM,E,RH,Z<|bo Ra,F,O,A,J]=Z (.bj,[Z S,Rz,RM,E,RH,Z<|bo c,p,O,A,J])/\ef s S/\c≠[]/\c.length<=Ra.length/\∀h∈c,h4 h:=by
 let⟨@Rw,aV,⟨l,b,@r,rfl,Ro,g,t⟩⟩:=r1 (RD:=bu 6) (f:=pf) (x:=fS 0 q) (λa y=>∃e b F,y=[Z e,Rz,RM,E,RH,Z<|bo b,F,O,A,J]/\ef (s+200-a) e/\b.length+a=Ra.length/\∀h∈b,h4 h) (y:=[Z e,Rz,RM,E,RH,Z<|bo Ra,F,O,A,J]) ⟨e,Ra,F,rfl,j,rfl,o⟩
  (λa d y u d5=>by
   let⟨e,b,@F,rfl,m,RO,v⟩:=d5;have U:a<q:=by
    have:=(fR.mp u).1
    rwa [fS,bH,lX]at this
   let⟨D,@k,w,z,B,Rb⟩:=jG (s:=s+200-(a+1)) (H:=(b.length:Int)) (m.mono ⋯) ⋯ ⋯;obtain⟨h,i⟩:∃h,b[D.toNat]?=Z h:=⟨b[D.toNat]'⋯,by simp⟩;let⟨@C,rfl⟩:=m.lst;let⟨@n,rfl⟩:=Rb.lst;refine⟨[Z (.lst C),Rz,RM,E,RH,Z<|bo b,Z<|.im d,O,A,J],.bj,[Z (.lst n),Rz,RM,E,RH,Z<|bo<|b.eraseIdx D.toNat,Z<|.im d,O,A,J],rfl,?_,.inl rfl,.lst n,b.eraseIdx D.toNat,_,rfl,Rb,?_,λh i=>v h<|List.mem_of_mem_eraseIdx i⟩
   ·have G:(b.map ag)[D.toNat]?=Z (ag h):=by rw[gc,i];rfl
    have I:(0<=D/\D<((b.map ag).length:Int)):=⟨z,by rw[bH];exact B⟩;have L:=AN ag b D.toNat;have M:qV (bo b) [aI D]=Z (.im<|ag h,bo<|b.eraseIdx D.toNat):=by
     show (if 0<=D/\D<((b.map ag).length:Int) then _ else X)=_;rw[aB I,G,L];rfl
    simp -implicitDefEqProofs [pf,fX,w,M,-qV]
   ·rw[BE,aB ⋯];lia)
 have N:(fS 0 q).length=q:=by rw[fS,bH,lX]
 rw[N]at Ro g;exact⟨l,b,r,aV,Ro.mono ⋯,λP=>by rw[P]at g;simp at g;lia,⋯,t⟩
def oe(h:Int×Int):Bool:=(decide (h.1%2*(h.2%3%2)=0))
def Iz(c:Ra.length<=1000):
  bZ 5 (cP 1 [] (cn<|au 5) (bu 0) G.rA G.xj) [w,Rz,RM,E,RH,Z<|bo Ra,F,O,A,J]=Z (.bj,[w,Rz,RM,E,RH,Z<|bo<|Ra.filter oe,F,O,A,J]):=by
 refine (vY (u:=bo (Ra.filter oe)) (z:=[w,Rz,RM,E,RH,Z<|bo Ra,F,O,A,J]) ?_ (show 5<10 by decide)).trans rfl;refine (mX (x:=Ra.map ag) (Y:=Z (5,bo Ra)) (z:=[w,Rz,RM,E,RH,Z .ek,F,O,A,J]) rfl (lg _ oe ag _ _ (λh d=>?_) (by rw[gZ];lia))).trans rfl;have a:=yh h;have b:=vm h;have mk:gI (h.1%2) (h.2%3%2)=ab:=by
  have:=kK (h.2%3) (show (2:Int)≠0 by decide);have:=lQ (h.2%3) (show (0:Int)<2 by decide);exact m_ ⋯ ⋯
 refine⟨[Z (.im<|ag h)],[Z (.im<|ag h)],rfl,?_,λ_=>rfl,λ_=>⟨[Z (.im<|ag h)],rfl,rfl⟩⟩;simp -implicitDefEqProofs [rA,ag,a,b,mk,oe];rfl
def MQ(e:0<s):(0,0)∈kE D s:=by
 refine dZ.mpr ⟨0,iJ.mpr e,?_⟩;show ((0:Int)/D,(0:Int)%D)=_;rw[Int.zero_ediv,Int.zero_emod]
def mid:bM:=((el (jU (b3<|aL d_ (au 2)<|aj<|aH<|.int 1)<|b3<|aL d_ (au 2)<|aj<|aH<|.int 2) (e5 (iK<|av (aj<|bG 2 G.ff<|av (au 0)<|av (aj<|aL dz (aj<|aH<|.int 1)<|aj<|aL iN (aj<|bT dt<|av (au 5) aE)<|aj<|aH<|.int 2) aE) aE) (bu 6) G.pf)<|el (b3<|aL d_ (au 2)<|aj<|aH<|.int 3) (bZ 5<|cP 1 [] (cn<|au 5) (bu 0) G.rA G.xj)<|el (b3<|aL lH (au 2)<|aj<|aH<|.int 3) (bZ 5<|bG 2 G.ow<|av (au 0)<|av (au 1) aE) gQ))
def z7(j:ef (s+1) e):∃(m:Int) (S:ak),mM [w,Z e]=Z (aI m,[w,Z S])/\0<=m/\m<7/\ef s S:=by
 let⟨q,@k,a,g,h,Rb⟩:=jG (s:=s) (H:=4) j ⋯ ⋯;let⟨@i,rfl⟩:=j.lst;let⟨@b,rfl⟩:=Rb.lst;have c:q=0\/q=1\/q=2\/q=3:=⋯
 obtain⟨m,d,L,f⟩:∃m:Int,dB [V.int 0,.int 0,.int 6,.int 3] q=Z (.int m)/\0<=m/\m<7:=by
  rcases c with rfl|rfl|rfl|rfl
  ·exact⟨0,rfl,by decide,by decide⟩
  ·exact⟨0,rfl,by decide,by decide⟩
  ·exact⟨6,rfl,by decide,by decide⟩
  ·exact⟨3,rfl,by decide,by decide⟩
 exact⟨m,.lst b,by simp -implicitDefEqProofs [mM,a,d],L,f,Rb⟩
def Hm(j:ef (s+2) e):∃(m B:Int) (S:ak),i5 (cP 1 [0] (iK<|av (aj<|aH<|.int 2) aE) (bu 0) dS G.mM) (sL 2<|fl (bu 8)<|fl (bu 9) jq) [Z e,Rz,RM,E,RH,RK,F,O,A,J]=Z (.bj,[Z S,Rz,RM,E,RH,RK,F,O,Z<|aI m,Z<|aI B])/\(0<=m/\m<7/\0<=B/\B<7)/\ef s S:=by
 let⟨m,@k,a,L,b,Rb⟩:=z7 (s:=s+1) (w:=Z (aI 0)) j;let⟨B,@l,c,d,f,Ro⟩:=z7 (s:=s) (w:=Z (aI 1)) Rb;refine⟨m,B,l,?_,⟨L,b,d,f⟩,Ro⟩;have c4:gh 1 (bu 0) dS mM [.int 0,.int 1] [] [Z e]=Z ([.int m,.int B],[Z l]):=by
  show (mM [Z (aI 0),Z e]).bind _=_;rw[a];show (mM [Z (aI 1),Z k]).bind _=_;rw[c];rfl
 have ce:=mX (RC:=[0]) (M:=iK (av (aj<|aH<|.int 2) aE)) (y:=[Z e,Rz,RM,E,RH,RK,F,O,A,J]) (z:=[Z e,Rz,RM,E,RH,RK,F,O,A,J]) (Y:=X) (x:=[.int 0,.int 1]) rfl c4;unfold i5;rw[ce];rfl
def NJ{a:List (Int×Int)}{m B:Int}(d:a.length<=1000):
  bT ib (av (aj<|cP 1 [8,9] (cn<|au 7) (bu 0) dS G.uv) aE) [w,Rz,RM,E,RH,RK,F,Z<|aR a,Z<|aI m,Z<|aI B]=Z (aR<|a.map λh=>(h.1+m,h.2+B),[w,Rz,RM,E,RH,RK,F,Z<|aR a,Z<|aI m,Z<|aI B]):=by
 have ce:cP 1 [8,9] (cn<|au 7) (bu 0) dS G.uv [w,Rz,RM,E,RH,RK,F,Z<|aR a,Z<|aI m,Z<|aI B]=Z (bo<|a.map λh=>(h.1+m,h.2+B),[w,Rz,RM,E,RH,RK,F,Z<|aR a,Z<|aI m,Z<|aI B]):=by
  refine (mX (x:=a.map ag) (Y:=X) (z:=[w,Rz,RM,E,RH,RK,F,Z<|aR a,Z<|aI m,Z<|aI B]) rfl (jO _ (λh=>ag (h.1+m,h.2+B)) _ (λh e=>?_) ⋯)).trans ?_
  ·have b:=yh h;have c:=vm h;exact⟨[Z (.im<|ag h),Z<|aI m,Z<|aI B],_,[Z (.im<|ag h),Z<|aI m,Z<|aI B],rfl,rfl,by simp -implicitDefEqProofs [uv,ag,b,c],rfl⟩
  ·show Z (ak.lst _,_)=Z (ak.lst<|(a.map λh=>(h.1+m,h.2+B)).map ag,_);rw[gj];rfl
 simp -implicitDefEqProofs only[bT,av,aj,ce,px,rO,CX,KA,HW,Qk,ib,lp]
abbrev bX:=Int×Int
variable{f:bX}{Ru:List bX}
inductive d0 (Ra:List bX) (m:bX):bX->Prop
 | self:d0 Ra m m
 | step {g f:bX}:d0 Ra m g->f∈Ra->f∈cL g->d0 Ra m f
def rt(Ra:List bX):Prop:=(Ra.Pairwise λg f=>bh (ag g) (ag f)=ab)
def Nk(ai:Ru.Nodup)(a:Ru.length<=1000):∃Ra:List bX,jQ (Ru.map ag)=Z (bo Ra)/\Ra.Perm Ru/\rt Ra:=by
 have Y:=OK ai a;let⟨Ra,k,l⟩:=Jb (ju<|Ru.map ag);refine⟨Ra,?_,k,?_⟩
 ·unfold jQ;rw[aB (vl.mpr Y),l]
 ·have:=Df Y.ord.ai Y.ord.iR;rw[l]at this;exact sx.mp this
structure lF(Ra:List bX)(f:bX)(Ru t:List bX)(D:bX)(Rt:List bX):Prop where
 ai:Ru.Nodup
 rb:f∈Ru
 con:∀h∈Ru,d0 Ra f h
 gV:Ru.length+iU Ra Ru<=Ra.length+1
 wl:t.length<=Ru.length
 eJ:∀h∈t,h∈Ru
 cl:∀h∈Ru,h∉t->∀u∈cL h,u∈Ra->u∈Ru\/(h=D/\u∈Rt)
abbrev gD(w:Option ak)(Ra:List bX)(f:bX)(Ru t:List bX)(RK:Option ak):aU:=[w,Z<|.im<|ag f,Z<|.aS<|gp<|a0 Ra,Z<|.aS<|a0 Ru,Z<|bo t,RK]
def MC{Ra:List bX}{h D:bX}{t Rt:List bX}(B:Ra.length<=500)(m:D∈Ru)(r:h∈cL D)(Ri:lF Ra f Ru t D (h::Rt)):
  ∃n p,mH (gD w Ra f Ru t<|Z<|.im<|ag h)=Z (.bj,gD w Ra f n p<|Z<|.im<|ag h)/\lF Ra f n p D Rt/\D∈n/\2*iU Ra n+p.length<=2*iU Ra Ru+t.length:=by
 have b:(dW (gp<|a0 Ra)<|b7 h).isSome=decide (h∈Ra):=Qn Ra h;have o:(dW (a0 Ru)<|b7 h).isSome=decide (h∈Ru):=DH Ru h;have q:=tI h;have C:=Ri.gV;have E:=Ri.wl;by_cases k:h∈Ra
 ·by_cases l:h∈Ru
  ·refine⟨Ru,t,?_,⟨Ri.ai,Ri.rb,Ri.con,Ri.gV,Ri.wl,Ri.eJ,λd a g u hd j=>?_⟩,m,bD _⟩
   ·rw[dj k]at b;rw[dj l]at o;simp -implicitDefEqProofs [mH,n9,q,b,o]
   ·rcases Ri.cl d a g u hd j with e|⟨e,S⟩
    ·exact .inl e
    ·rcases b9.mp S with rfl|S
     ·exact .inl l
     ·exact .inr ⟨e,S⟩
  ·rw[dj k]at b;rw[dv l]at o;have I:=JL k l;refine⟨Ru++[h],t++[h],?_,⟨?_,eX _ Ri.rb,λd a=>?_,?_,by simp;exact Ri.wl,λd a=>?_,λd a g u hd j=>?_⟩,eX _ m,by simp;lia⟩
   ·have s:=Ee l;have v:(a0 Ru).length<100000:=by unfold a0;rw[bH];lia
    have x:t.length<100000:=⋯
    simp -implicitDefEqProofs [mH,n9,q,b,o,s,v,x,fX]
   ·exact c7.mpr ⟨Ri.ai,e3 _ _,λd a i y c=>l (by rw[cV.mp y]at c;rw[<-c];exact a)⟩
   ·rcases dY.mp a with a|a
    ·exact Ri.con d a
    ·rw[cV.mp a];exact .step (Ri.con D m) k r
   ·rw[c5,fQ];lia
   ·rcases dY.mp a with a|a
    ·exact eX _ (Ri.eJ d a)
    ·exact en _ a
   ·have z:d∈Ru:=by
     rcases dY.mp a with a|a
     ·exact a
     ·exact absurd (en _ a) g
    rcases Ri.cl d z (λA=>g<|eX _ A) u hd j with e|⟨e,S⟩
    ·exact .inl (eX _ e)
    ·rcases b9.mp S with rfl|S
     ·exact .inl (en _<|.head _)
     ·exact .inr ⟨e,S⟩
 ·refine⟨Ru,t,?_,⟨Ri.ai,Ri.rb,Ri.con,Ri.gV,Ri.wl,Ri.eJ,λd a g u hd j=>?_⟩,m,bD _⟩
  ·rw[dv k]at b;simp -implicitDefEqProofs [mH,n9,q,b]
  ·rcases Ri.cl d a g u hd j with e|⟨e,S⟩
   ·exact .inl e
   ·rcases b9.mp S with rfl|S
    ·exact absurd j k
    ·exact .inr ⟨e,S⟩
theorem zx{Ra:List bX}{f D:bX}{w:Option ak}(c:Ra.length<=500):∀(Rt:List bX) {Ru t:List bX} (RK:Option ak),D∈Ru->(∀h∈Rt,h∈cL D)->lF Ra f Ru t D Rt->
  ∃a b g,dn (bu 5) mH (Rt.map ag) (gD w Ra f Ru t RK)=Z (.bj,gD w Ra f a b g)/\lF Ra f a b D []/\2*iU Ra a+b.length<=2*iU Ra Ru+t.length
 |[],Ru,t,RK,_,_,Ri=>⟨Ru,t,RK,rfl,Ri,bD _⟩
 |h::Rt,Ru,t,RK,i,e,Ri=>by
  let⟨RP,cY,j,k,l,m⟩:=MC (h:=h) (w:=w) c i (e h<|.head _) Ri;let⟨RJ,n,RM,o,p,q⟩:=zx c Rt (Z<|.im<|ag h) l (λd r=>e d<|.tail _ r) k;refine⟨RJ,n,RM,?_,p,dD q m⟩;rw[bV,dn];dsimp only;rw[show bu 5 (.im<|ag h) (gD w Ra f Ru t RK)=Z (gD w Ra f Ru t<|Z<|.im<|ag h) from rfl];show (mH _).bind _=_;rw[j];exact o
def Hv(d:ak)(Ra:List bX):Prop:=(d=bo Ra\/d=aR Ra)
def Ky{Ra:List bX}{d:ak}(q:Hv d Ra)(B:Ra.length<=500):∃i:List bX,tq [d,.im<|ag f]=Z (aR i,[d,.im<|ag f])/\rt i/\(∀H,H∈i↔d0 Ra f H)/\i.length<=Ra.length+1/\i.Nodup:=by
 have r:∀h∈Ra,∃z RA R4,bu 0 (.im<|ag h) (replicate 1 X++jD [] [Z d,Z<|.im<|ag f,X,X,X,X])=Z z/\dS z=Z (ab,RA)/\rP RA=Z (.im<|.tup [ag h,.aG ab],R4)/\R4.drop 1=[]:=λh W=>⟨[Z (.im<|ag h)],_,[Z (.im<|ag h)],rfl,rfl,rfl,rfl⟩;have C:cP 1 [] (cn<|au 0) (bu 0) dS G.rP [Z d,Z<|.im<|ag f,X,X,X,X]=Z (.lst<|Ra.map λh=>.tup [ag h,.aG ab],[Z d,Z<|.im<|ag f,X,X,X,X]):=by
  rcases q with rfl|rfl
  ·exact (mX (x:=Ra.map ag) (Y:=Z (0,bo Ra)) (z:=[Z .ek,Z<|.im<|ag f,X,X,X,X]) rfl (jO _ (λh=>.tup [ag h,.aG ab]) _ r ⋯)).trans rfl
  ·exact (mX (x:=Ra.map ag) (Y:=X) (z:=[Z (aR Ra),Z<|.im<|ag f,X,X,X,X]) rfl (jO _ (λh=>.tup [ag h,.aG ab]) _ r ⋯)).trans rfl
 have l:((a0 Ra).all λo=>V.keys 7 o.1)=ab/\(a0 Ra).length<=1000:=⟨zy Ra,by unfold a0;rw[bH];lia⟩;have E:bZ 2 (bT kV<|av (aj<|cP 1 [] (cn<|au 0) (bu 0) dS G.rP) aE) [Z d,Z<|.im<|ag f,X,X,X,X]=Z (.bj,[Z d,Z<|.im<|ag f,Z<|.aS<|gp<|a0 Ra,X,X,X]):=by
  refine oa (u:=.aS (gp<|a0 Ra)) (eY (b4 (cc C) rfl) rfl ?_) (e0 rfl) rfl;simp -implicitDefEqProofs only[px,rO,kV,Dj,l.1,l.2,and_self,e8]
 have s:lF Ra f [f] [f] f []:=⟨e3 _ _,.head _,λh a=>by rw[cV.mp a];exact .self,by
  have:Ra.countP (λh=>decide (h∉[f]))<=Ra.length:=List.countP_le_length;show 1+iU Ra [f]<=Ra.length+1;unfold iU;lia,bD _,λh a=>a,λh a k=>absurd a k⟩
 let⟨Rw,aV,⟨Ru,D,RK,rfl,Ri⟩⟩:=E1 (h:=uM) (f:=yk) (λH y=>∃Ru t D RK,y=gD (Z d) Ra f Ru t RK/\lF Ra f Ru t D []/\2*iU Ra Ru+t.length<=H) (λy=>∃Ru D RK,y=gD (Z d) Ra f Ru [] RK/\lF Ra f Ru [] D [])
  (λH y d5=>by
   let⟨Ru,t,F,RK,rfl,Ri,l⟩:=d5;by_cases v:t=[]
   ·subst v;exact⟨ax,gD (Z d) Ra f Ru [] RK,rfl,(λj=>by cases j),λ_=>⟨Ru,F,RK,rfl,Ri⟩⟩
   ·let⟨b,D,rfl⟩:=Hy v;have m:uM (gD (Z d) Ra f Ru (b++[D]) RK)=Z (ab,gD (Z d) Ra f Ru (b++[D]) RK):=by
     have I:=pA (b++[D]);have k:dU ((b++[D]).map ag) []=ax:=by
      cases b with
      |nil=>rfl
      |cons g p=>rfl
     have J:gn (bo<|b++[D]) (.lst [])=Z (.im<|.aG ab):=by
      simp only[gn,I,k];rfl
     exact gK (iv J)
    refine⟨ab,_,m,λ_=>?_,(λj=>by cases j)⟩;have L:lF Ra f Ru b D (cL D):=⟨Ri.ai,Ri.rb,Ri.con,Ri.gV,by have:=Ri.wl;simp at this;lia,λh a=>Ri.eJ h<|eX _ a,λh a k u hd M=>by
     by_cases A:h=D
     ·subst A;exact .inr ⟨rfl,hd⟩
     ·rcases Ri.cl h a (λj=>(dY.mp j).elim k λj=>A<|cV.mp j) u hd M with e|⟨_,e⟩
      ·exact .inl e
      ·cases e⟩
    let⟨RJ,n,RM,N,O,al⟩:=zx (w:=Z d) B (cL D) RK (Ri.eJ D<|en _<|.head _) (λh a=>a) L;refine⟨.bj,gD (Z d) Ra f RJ n RM,?_,.inl rfl,2*iU Ra RJ+n.length,?_,RJ,n,D,RM,rfl,O,bD _⟩
    ·unfold yk;refine jj (Y:=X) (x:=(cL D).map ag) (z:=gD (Z d) Ra f Ru b RK) ?_ N rfl;have P:((b++[D]).map ag).getLast?=Z (ag D):=by simp
     have hd:((b++[D]).map ag).dropLast=b.map ag:=by simp
     have c:=tW D;simp -implicitDefEqProofs only[cn,aj,bG,av,fE,List.getElem?_cons_zero,List.getElem?_cons_succ,fX,e8,CX,px,Ql,kS,P,hd,rO,Kk,dd,gZ,c];simp -implicitDefEqProofs [c,lp]
    ·simp at l;lia) 1000000 _ (gD (Z d) Ra f [f] [f] X) ⟨[f],[f],f,X,rfl,s,bD _⟩ (by
    have:=s.gV;simp;simp at this;lia)
 let⟨i,Q,S,R⟩:=Nk Ri.ai (by have:=Ri.gV;lia);refine⟨i,?_,R,λH=>S.mem_iff.trans ⟨Ri.con H,λe=>?_⟩,by rw[S.length_eq];have:=Ri.gV;lia,S.nodup_iff.mpr Ri.ai⟩
 ·have T:nM [.aS (a0 Ru)]=Z (bo i):=by
   show jQ ((a0 Ru).map λo=>.tup o.1)=Z (bo i);rw[O9];exact Q
  unfold tq zf;exact g5 (y:=gD (Z d) Ra f Ru [] RK) rfl (cI E<|cI (z:=[Z d,Z<|.im<|ag f,Z<|.aS<|gp<|a0 Ra,Z<|.aS<|a0 [f],X,X]) rfl<|cI (z:=gD (Z d) Ra f [f] [f] X) rfl<|cI aV<|h7<|eY (b4 (cc<|eY (b4 rfl rfl) rfl T) rfl) rfl rfl) (by rcases q with rfl|rfl<;>rfl)
 ·induction e with
  |self=>exact Ri.rb
  |step _ m hd U=>
   rcases Ri.cl _ U (λj=>nomatch j) _ hd m with e|⟨_,e⟩
   ·exact e
   ·cases e
end G
namespace nd
variable{ah:Type}[DecidableEq ah]
variable{P:List ah}{b:ah->ah->Prop}{g f:ah}{N:ah->ah}{d:List ah}{Rk:ah->Bool->Prop}
def ao(N:ah->ah):Nat->ah->ah
 |0,h=>h
 |s+1,h=>ao N s (N h)
end nd
namespace nd
variable{ah:Type}[DecidableEq ah]{P:List ah}{b:ah->ah->Prop}{g f:ah}{N L:ah->ah}{d:List ah}
variable{n:Nat}{h u:Nat->ah}
end nd
namespace nd
variable{ah:Type}[DecidableEq ah]{P:List ah}{b:ah->ah->Prop}{g f:ah}{N L:ah->ah}{d:List ah}
variable{k:List ((ah×Bool)×Option (ah×Bool))}
end nd
namespace nd
variable{ah:Type}[DecidableEq ah]{P:List ah}{b:ah->ah->Prop}{g f:ah}{N L:ah->ah}{d:List ah}
def w_(N:ah->ah)(C:ah)(s:Nat):List ah:=((range<|s+1).map λa=>ao N a C)
end nd
namespace G
open L2
variable{N:aA->Int}{Q:List cv}{p B aa:List aA}{f h Y Rn g:aA}{H:Int}{s:Nat}{Ra:List bX}{Ry:Type}{i d:bX}
abbrev kA:=bX×Bool
def BS(aa:List bX)(d i:bX):Prop:=(d∈aa/\i∈aa/\i∈cL d)
def JO{aa:List bX}(e:BS aa d i):BS aa i d:=by
 refine⟨e.2.1,e.1,?_⟩;have:=e.2.2;let⟨g,f⟩:=d;let⟨h,u⟩:=i;unfold cL at this ⊢;simp only[b9,mi,jv,Prod.mk.injEq]at this ⊢;lia
theorem BH:∀(Rg a:List (List V×V)),((a++Rg).map (·.1)).Nodup->Rg.foldl (λg o=>fq g o.1 o.2) a=a++Rg
 |[],a,_=>(b5 a).symm
 |o::Rg,a,e=>by
  rw[k7];have c:fq a o.1 o.2=a++[o]:=by
   unfold fq;rw[aD];intro b;let⟨d,f,h⟩:=pn.mp b;rw[jx]at e;exact (c7.mp e).2.2 d.1 (dZ.mpr ⟨d,f,rfl⟩) o.1 (.head _) (g9 h)
  rw[c,BH Rg (a++[o]) (by rw[a_];exact e),a_];rfl
def Fy{Rg:List (List V×V)}(e:(Rg.map (·.1)).Nodup):gp Rg=Rg:=BH Rg [] e
def D_{RZ:Type}{L:Ry->RZ}{C:List Ry}(inj:∀d∈C,∀i∈C,L d=L i->d=i)(ai:C.Nodup):(C.map L).Nodup:=by
 rw[AK,sx];exact ai.imp_of_mem λ{d i} a b e c=>e (inj d a i b c)
abbrev h8:=List bX
variable{D:h8}
def dq(D:h8):V:=(.tup (D.map ag))
open Classical in
def Hk(C:List bX)(h:bX):k6 (.im<|ag h) (aR C)=Z (.im<|.aG<|!decide (h∈C)):=by
 show (hD (ag h)<|aR C).map (λp=>ak.im<|.aG<|!p)=_;rw[Pm];rfl
def Oe(C:List bX)(h:bX):mc (.im<|ag h) (bo C)=Z (.im<|.aG<|decide (h∈C)):=by
 show (hD (ag h)<|bo C).map (λp=>ak.im<|.aG p)=_;rw[GA];rfl
theorem Ff{Ry:Type}(N:Ry->Bool):∀x:List Ry,nF (x.map λp=>.aG<|N p)=Z (x.map N)
 |[]=>rfl
 |d::x=>by
  show (nF<|x.map λp=>.aG<|N p).map _=_;rw[Ff N x];rfl
def B4(N:Ry->Bool)(x:List Ry):mT [.lst (x.map λp=>.aG<|N p)]=Z (.im<|.aG<|x.all N):=by
 show (nF _).map _=_;rw[Ff,rO,xy];rfl
def k3(D:h8):Bool:=((D.zip<|D.drop 1).all λo=>decide (o.2∈cL o.1))
def Pr{aa:List bX}{h:bX}{Rz:Option ak}(a:h∈aa):uk [Z (aR aa),Rz,Z<|.im<|ag h]=Z (.bj,[Z (aR aa),Rz,Z<|.im<|ag h]):=by
 have b:b3 (aL k6 (au 2)<|au 0) [Z (aR aa),Rz,Z<|.im<|ag h]=Z (ax,[Z (aR aa),Rz,Z<|.im<|ag h]):=gK (iv ((Hk aa h).trans (by rw[dj a];rfl)));unfold uk;refine cI (kz (tQ (z:=[Z (aR aa),Rz,Z<|.im<|ag h]) rfl<|tQ (z:=[Z (aR aa),Rz,Z<|.im<|ag h]) rfl b) rfl) (kz (z:=[Z (aR aa),Rz,Z<|.im<|ag h]) rfl rfl)
def NG{aa:List bX}(l:D.length<=1000)(b:D≠[])(c:∀h∈D,h∈aa):qB [aR aa,.im<|dq D]=Z (.im<|.aG<|k3 D,[aR aa,.im<|dq D]):=by
 let⟨Rw,aV,RM,rfl⟩:=r1 (RD:=bu 2) (f:=uk) (x:=D.map ag) (λ_ y=>∃RM,y=[Z (aR aa),Z<|.im<|dq D,RM]) (y:=[Z (aR aa),Z<|.im<|dq D,X]) ⟨X,rfl⟩ (λa d y e d5=>by
  let⟨RM,rfl⟩:=d5;let⟨h,g,rfl⟩:=dZ.mp (oJ e);exact⟨_,.bj,_,rfl,Pr<|c h g,.inl rfl,_,rfl⟩)
 have i:dt [.im (dq D)]=Z (aI (D.length:Int)):=by
  show Z (ak.im<|.int ((D.map ag).length:Int))=_;rw[bH]
 have m:=pF.mpr b;have RJ:b3 (aL d_ (aj<|bT dt<|av (au 1) aE)<|aj<|aH<|.int 0) [Z (aR aa),Z<|.im<|dq D,X]=Z (ax,[Z (aR aa),Z<|.im<|dq D,X]):=gK (e9 (cc<|eY (b4 rfl rfl) rfl i) rfl rfl rfl ((o4 _ _).trans (by rw[dv ⋯])));have j:fM (D.map ag) (fV (D.map ag) (Z 1) X)=(D.zip<|D.drop 1).map λo=>.tup [ag o.1,ag o.2]:=by
  rw[r9,show (1:Int)=((1:Nat):Int) from rfl,vS,uQ]
 have n:(D.zip<|D.drop 1).length<=1000:=by rw[uh];lia
 have k:cP 2 [] (l0<|av (au 1)<|av (aj<|gr (au 1) (hM<|aH<|.int 1) hq) aE) (kx 2<|fl (bu 0)<|fl (bu 1) jq) dS G.F2 [Z (aR aa),Z<|.im<|dq D,RM]=Z (.lst<|(D.zip<|D.drop 1).map λo=>.aG<|decide (o.2∈cL o.1),[Z (aR aa),Z<|.im<|dq D,RM]):=by
  refine jd (x:=(D.zip<|D.drop 1).map λo=>.tup [ag o.1,ag o.2]) (Y:=X) (z:=[Z (aR aa),Z<|.im<|dq D,RM]) ?_ (jO (λo:bX×bX=>.tup [ag o.1,ag o.2]) (λo=>.aG<|decide (o.2∈cL o.1)) _ (λo W=>?_) ⋯) rfl
  ·rw[<-j];exact y7 (b4 rfl<|b4 (cc<|uA rfl rfl rfl rfl rfl) rfl) rfl
  ·refine⟨[Z (.im<|ag o.1),Z<|.im<|ag o.2],_,[Z (.im<|ag o.1),Z<|.im<|ag o.2],rfl,rfl,?_,rfl⟩;exact e9 rfl (cc<|e2 (Rq:=[.bk 0]) rfl rfl rfl (tW o.1) rfl) rfl rfl (Oe (cL o.1) o.2)
 unfold qB z_;exact g5 (y:=[Z (aR aa),Z<|.im<|dq D,RM]) rfl (cI (kz (tQ (z:=[Z (aR aa),Z<|.im<|dq D,X]) rfl RJ) rfl)<|cI (jj (Y:=X) (x:=D.map ag) (z:=[Z (aR aa),Z<|.im<|dq D,X]) rfl aV rfl)<|h7<|eY (b4 (cc k) rfl) rfl<|B4 _ _) rfl
theorem OT{aa:List bX}(a:D.length<=1000)(b:D≠[])(c:∀h∈D,h∈aa)(d:k3 D=ab):qB [aR aa,.im<|dq D]=Z (.im<|.aG ab,[aR aa,.im<|dq D]):=(NG a b c).trans (by rw[d])
theorem Bg:∀Ra:List bX,dU (Ra.map ag) (Ra.map ag)=ab
 |[]=>rfl
 |h::Ra=>by rw[bV,dU,oz,dj rfl,Bg Ra];rfl
theorem Gu:∀Rc:List h8,dU (Rc.map dq) (Rc.map dq)=ab
 |[]=>rfl
 |D::Rc=>by
  rw[bV,dU,Gu Rc];show (dU (D.map ag) (D.map ag)&&ab)=ab;rw[Bg];rfl
def rt.ai(e:rt Ra):Ra.Nodup:=by
 refine AK.mpr (e.imp λ{d i} c z=>?_);rw[z,u7]at c;cases c
theorem KY(x:List Ry):mT [.lst (x.map λ_=>.aG ab)]=Z (.im<|.aG ab):=(B4 (λ_=>ab) x).trans (by rw[ho.mpr λ_ Y=>rfl])
def NB(d i:bX)(p:h8):k3 (d::i::p)=(decide (i∈cL d)&&k3 (i::p)):=rfl
def d0.trans{aa:List bX}{a:bX}(e:d0 aa d i)(n:d0 aa i a):d0 aa d a:=by
 induction n with
 |self=>exact e
 |step _ k l b=>exact .step b k l
def d0.w_{aa:List bX}(a:d∈aa)(e:d0 aa d i):i∈aa:=by
 cases e with
 |self=>exact a
 |step _ k _=>exact k
theorem Kn(e:i∈cL d):d∈cL i:=(JO (aa:=[d,i]) ⟨.head _,.tail _<|.head _,e⟩).2.2
def d0.sym{aa:List bX}(a:d∈aa)(e:d0 aa d i):d0 aa i d:=by
 induction e with
 |self=>exact .self
 |step b k l c=>exact (d0.step .self (d0.w_ a b)<|Kn l).trans c
def Nz{aa:List bX}{m:bX}(e:∀d,d∈aa↔d0 Ra m d){g f:bX}(a:g∈aa)(b:f∈aa):d0 aa g f:=by
 have y:∀d,d0 Ra m d->d0 aa m d:=λd c=>by
  induction c with
  |self=>exact .self
  |step h k l i=>exact .step i ((e _).mpr<|.step h k l) l
 have j:m∈aa:=(e m).mpr .self;exact (d0.sym j<|y g<|(e g).mp a).trans (y f<|(e f).mp b)
theorem C9:∀Rg:h8,V.ct 6 (Rg.map ag)=ab
 |[]=>rfl
 |h::Rg=>by rw[bV,V.ct,C9 Rg];rfl
def H4(d i:bX)(m B:Int):bh (ag (d.1+m,d.2+B)) (ag (i.1+m,i.2+B))=bh (ag d) (ag i):=by
 have f:∀a v:Int,V.beq (.int<|a) (.int v)=decide (a=v):=λa v=>by rw[V.beq]
 have c:∀d i:bX,bh (ag d) (ag i)=if d.1=i.1 then decide (d.2<i.2) else decide (d.1<i.1):=λd i=>by
  show (if V.beq (.int d.1) (.int i.1)=ab then (if V.beq (.int d.2) (.int i.2)=ab then ax else decide (d.2<i.2)) else decide (d.1<i.1))=_;rw[f,f];by_cases k:d.1=i.1
  ·rw[dj k,aB rfl,aB k];by_cases l:d.2=i.2
   ·rw[dj l,aB rfl,l,dv<|Bs _]
   ·rw[dv l,aD c_]
  ·rw[dv k,aD c_,aD k]
 rw[c,c];simp only[Int.add_left_inj,Int.add_lt_add_iff_right]
def N1{g:bX}(m B:Int)(e:d0 Ra g d):d0 (Ra.map λh=>(h.1+m,h.2+B)) (g.1+m,g.2+B) (d.1+m,d.2+B):=by
 induction e with
 |self=>exact .self
 |step _ k l a=>
  refine .step a (dZ.mpr ⟨_,k,rfl⟩) ?_;unfold cL at l ⊢;simp only[b9,mi,jv,lM]at l ⊢;lia
def Iv{g:bX}{m B:Int}(e:d0 (Ra.map λh=>(h.1+m,h.2+B)) (g.1+m,g.2+B) d):d0 Ra g (d.1-m,d.2-B):=by
 induction e with
 |self=>
  have:(((g.1+m,g.2+B):bX).1-m,((g.1+m,g.2+B):bX).2-B)=g:=by rw[lM];exact⟨sQ _ _,sQ _ _⟩
  rw[this];exact .self
 |@step i c _ k l a=>
  let⟨h,b,rfl⟩:=dZ.mp k;have:(((h.1+m,h.2+B):bX).1-m,((h.1+m,h.2+B):bX).2-B)=h:=by rw[lM];exact⟨sQ _ _,sQ _ _⟩
  rw[this];refine .step a b ?_;unfold cL at l ⊢;simp only[b9,mi,jv,lM]at l ⊢;lia
def IW(b:0<H)(J:H<=140){e:ak}(j:ef (s+400) e):∃S Ra,ow [e,aI H]=Z (bo Ra,[S,aI H])/\ef s S/\Ra≠[]/\Ra.length<=50+H.toNat/\∀h∈Ra,h4 h:=by
 let⟨q,k,g,L,M,Rb⟩:=jG (s:=s+399) (H:=H) j b ⋯;have i:pJ q:=⟨⋯,⋯⟩;let⟨Rw,aV,⟨l,Ra,E,RH,rfl,Ro,m,o,p⟩⟩:=r1 (RD:=bu 3) (f:=ta) (x:=fS 0 q.toNat) (λa y=>∃e Ra E RH,y=[Z e,Z<|aI H,Z<|bo Ra,E,RH]/\ef (s+398-2*a) e/\Ra≠[]/\Ra.length<=a+1/\∀h∈Ra,h4 h) (y:=[Z k,Z<|aI H,Z<|bo [(12,12)],X,X]) ⟨k,[(12,12)],X,X,rfl,Rb.mono ⋯,by simp,by simp,λh r=>by rw[cV.mp r];exact⟨by decide,by decide,by decide,by decide⟩⟩
  (λa d y t d5=>by
   let⟨e,Ra,E,RH,rfl,u,RO,RQ,v⟩:=d5;have U:a<q.toNat:=by
    have:=(fR.mp t).1
    rwa [fS,bH,lX]at this
   let⟨S,w,N,c,F,A,O,B⟩:=JX (s:=s+398-2*(a+1)) (H:=H) (n:=Z (.im d)) (RH:=RH) (u.mono ⋯) RO ⋯ v;exact⟨[Z e,Z<|aI H,Z<|bo Ra,Z<|.im d,RH],.bj,_,rfl,c,.inl rfl,S,w,_,_,rfl,F,A,⋯,B⟩)
 have C:(fS 0 q.toNat).length=q.toNat:=by rw[fS,bH,lX]
 rw[C]at Ro o;refine⟨l,Ra,?_,Ro.mono ⋯,m,⋯,p⟩;let⟨D,rfl⟩:=j.lst;let⟨G,rfl⟩:=Rb.lst;let⟨I,rfl⟩:=Ro.lst;unfold ow Ab;refine tE [Z (.lst I),Z<|aI H,Z .ek,E,RH] rfl ((gO (z:=[Z (.lst D),Z<|aI H,Z<|bo [(12,12)],X,X]) rfl).trans<|(gO<|uo (Y:=X) (x:=fS 0 q.toNat) (z:=[Z (.lst G),Z<|aI H,Z<|bo [(12,12)],X,X]) ?_ aV).trans rfl) rfl;simp -implicitDefEqProofs [g,i]
def KW(u:0<H)(v:H<=140){e:ak}{b D d:Int}{Ra:List (Int×Int)}(j:ef (s+402) e)(M:0<=b)(cY:b<6)(f:(0,0)∈Ra)(N:Ra.length<=49)(g:∀h∈Ra,h4 h):
  ∃S a F,mid [Z e,Z<|aI H,Z<|aI b,Z<|aI D,Z<|aI d,Z<|bo Ra,X,X,X,X]=Z (.bj,[Z S,Z<|aI H,Z<|aI b,Z<|aI D,Z<|aI d,Z<|bo a,F,X,X,X])/\ef s S/\a≠[]/\a.length<=50+H.toNat/\∀h∈a,h4 h:=by
 have P:=Dg f;have o:∀b:Int,∃S a F,e5 (iK<|av (aj<|bG 2 G.ff<|av (au 0)<|av (aj<|aL dz (aj<|aH<|.int 1)<|aj<|aL iN (aj<|bT dt<|av (au 5) aE)<|aj<|aH<|.int 2) aE) aE) (bu 6) G.pf [Z e,Z<|aI H,Z<|aI b,Z<|aI D,Z<|aI d,Z<|bo Ra,X,X,X,X]=Z (.bj,[Z S,Z<|aI H,Z<|aI b,Z<|aI D,Z<|aI d,Z<|bo a,F,X,X,X])/\ef s S/\a≠[]/\a.length<=50+H.toNat/\∀h∈a,h4 h:=λb=>by
  let⟨q,k,w,Q,R,Rb⟩:=jG (s:=s+200) (H:=1+(Ra.length:Int)/2) (j.mono ⋯) ⋯ ⋯;have y:pJ q:=⟨⋯,⋯⟩;let⟨l,i,F,aV,Ro,m,r,n⟩:=M1 (Rz:=Z (aI H)) (RM:=Z (aI b)) (E:=Z (aI D)) (RH:=Z (aI d)) (O:=X) (A:=X) (J:=X) (F:=X) q.toNat Rb (Ra:=Ra) ⋯ ⋯ g;refine⟨l,i,F,?_,Ro,m,⋯,n⟩;let⟨B,rfl⟩:=j.lst;let⟨C,rfl⟩:=Rb.lst;refine (uo (Y:=X) (x:=fS 0 q.toNat) (z:=[Z (.lst C),Z<|aI H,Z<|aI b,Z<|aI D,Z<|aI d,Z<|bo Ra,X,X,X,X]) ?_ aV).trans rfl;simp -implicitDefEqProofs [w,y]
 have t:∀b:Int,∃S a F,bZ 5 (bG 2 G.ow<|av (au 0)<|av (au 1) aE) [Z e,Z<|aI H,Z<|aI b,Z<|aI D,Z<|aI d,Z<|bo Ra,X,X,X,X]=Z (.bj,[Z S,Z<|aI H,Z<|aI b,Z<|aI D,Z<|aI d,Z<|bo a,F,X,X,X])/\ef s S/\a≠[]/\a.length<=50+H.toNat/\∀h∈a,h4 h:=λb=>by
  let⟨l,i,c,Ro,m,r,n⟩:=IW (s:=s) u v (j.mono ⋯);refine⟨l,i,X,?_,Ro,m,r,n⟩;let⟨B,rfl⟩:=j.lst;let⟨T,rfl⟩:=Ro.lst;simp -implicitDefEqProofs [c]
 have I:b=0\/b=1\/b=2\/b=3\/b=4\/b=5:=⋯
 unfold mid;rcases I with rfl|rfl|rfl|rfl|rfl|rfl
 ·exact⟨e,Ra,X,rfl,j.mono ⋯,wu f,⋯,g⟩
 ·let⟨S,a,F,c,p⟩:=o 1;exact⟨S,a,F,c,p⟩
 ·let⟨S,a,F,c,p⟩:=o 2;exact⟨S,a,F,c,p⟩
 ·exact⟨e,Ra.filter oe,X,Iz ⋯,j.mono ⋯,wu (jK.mpr ⟨f,by decide⟩),by have:=lY oe Ra;lia,λh L=>g h (jK.mp L).1⟩
 ·let⟨S,a,F,c,p⟩:=t 4;exact⟨S,a,F,c,p⟩
 ·let⟨S,a,F,c,p⟩:=t 5;exact⟨S,a,F,c,p⟩
def H2(R:0<H)(T:H<=140){e:ak}(j:ef (s+500) e):∃S c,qA [e,aI H]=Z (aR c,[S,aI H])/\ef s S/\c≠[]/\c.length<=51+H.toNat/\rt c/\(∃(U:List bX) (r:bX),∀d,d∈c↔d0 U r d)/\∀h∈c,0<=h.1/\h.1<=30/\0<=h.2/\h.2<=30:=by
 let⟨g,k,al,am,an,Rb⟩:=jG (s:=s+499) (H:=6) j ⋯ ⋯;let⟨D,l,ap,dp,dC,Ro⟩:=jG (s:=s+498) (H:=7) Rb ⋯ ⋯;obtain⟨p,as⟩:∃p:Int,p=H/(1+D):=⟨_,rfl⟩;obtain⟨n,v⟩:∃n:Int,n=(if p<7 then p else 7):=⟨_,rfl⟩;obtain⟨o,w⟩:∃o:Int,o=(if n>1 then n else 1):=⟨_,rfl⟩;have eq:n<=7:=by rw[v];split<;>lia
 have ev:o<=7/\0<o:=by rw[w];split<;>lia
 let⟨a,ex,a1,fd,fn,x⟩:=jG (s:=s+497) (H:=o) Ro ⋯ ⋯;have q:0<1+D:=⋯
 have t:1+D<=7:=⋯
 have b:0<1+a:=⋯
 have u:1+a<=7:=⋯
 have a2:0<(1+a)*(1+D):=FX b q;have fr:(1+a)*(1+D)<=49:=B9 u t ⋯ ⋯;have bd:(((1+a)*(1+D)).toNat:Int)<=7*(1+D):=by rw[Int.toNat_of_nonneg (xg a2)];exact Int.mul_le_mul_of_nonneg_right u (xg q)
 let⟨f0,Ra,F,be,y,RO,RQ,C⟩:=KW (s:=s+3) R T (b:=g) (D:=1+D) (d:=1+a) (Ra:=kE (1+D) ((1+a)*(1+D)).toNat) (x.mono ⋯) am an (MQ ⋯) (by rw[M9];lia) (O2 q t bd);have f1:=pF.mpr RO;let⟨G,f2,bi,bm,f4,M⟩:=jG (s:=s+2) (H:=(Ra.length:Int)) y ⋯ ⋯;obtain⟨f,N⟩:∃f,Ra[G.toNat]?=Z f:=⟨Ra[G.toNat]'⋯,by simp⟩;let⟨c,bn,RP,RJ,f8,Y⟩:=Ky (d:=bo Ra) (Ra:=Ra) (f:=f) (.inl rfl) ⋯;let⟨m,B,bs,bv,⟨L,ga,ge,P⟩,Q⟩:=Hm (s:=s) (Rz:=Z (aI H)) (RM:=Z (aI g)) (E:=Z (aI<|1+D)) (RH:=Z (aI<|1+a)) (RK:=Z (bo Ra)) (F:=F) (O:=Z (aR c)) (A:=X) (J:=X) M;refine⟨bs,c.map λh=>(h.1+m,h.2+B),?_,Q,?_,by rw[bH];lia,sx.mpr (RP.imp λ{d i} e=>by rw[H4];exact e),⟨Ra.map λh=>(h.1+m,h.2+B),(f.1+m,f.2+B),λd=>?_⟩,λh ca=>?_⟩
 ·let⟨gl,rfl⟩:=j.lst;let⟨cd,rfl⟩:=Rb.lst;let⟨ce,rfl⟩:=Ro.lst;let⟨ch,rfl⟩:=x.lst;let⟨go,rfl⟩:=y.lst;let⟨ci,rfl⟩:=M.lst;let⟨cl,rfl⟩:=Q.lst;have P:=yT bm N;unfold qA C0;refine tE [Z (.lst cl),Z<|aI H,Z<|aI g,Z<|aI<|1+D,Z<|aI<|1+a,Z<|bo Ra,F,Z<|aR c,Z<|aI m,Z<|aI B] rfl
   ((gO (z:=[Z (.lst cd),Z<|aI H,Z<|aI g,X,X,X,X,X,X,X]) ?_).trans
   ((gO (z:=[Z (.lst ce),Z<|aI H,Z<|aI g,Z<|aI<|1+D,X,X,X,X,X,X]) ?_).trans
   ((gO (z:=[Z (.lst ch),Z<|aI H,Z<|aI g,Z<|aI<|1+D,Z<|aI<|1+a,X,X,X,X,X]) ?_).trans
   ((gO<|JE q t b u).trans
   ((gO be).trans
   ((gO (z:=[Z (.lst ci),Z<|aI H,Z<|aI g,Z<|aI<|1+D,Z<|aI<|1+a,Z<|bo Ra,F,Z<|aR c,X,X]) ?_).trans
   ((gO bv).trans (h7 (NJ ⋯))))))))) rfl
  ·simp -implicitDefEqProofs [al]
  ·simp -implicitDefEqProofs [ap]
  ·have co:1+D<1073741824:=⋯
   have cr:mB [aI 7,aI p]=Z (aI n):=by rw[G2,<-v]
   have cs:ka [aI 1,aI n]=Z (aI o):=by rw[Lc,<-w]
   simp -implicitDefEqProofs [a1,q,co,<-as,cr,cs]
  ·simp -implicitDefEqProofs [bi,P,bn]
 ·have:=(RJ f).mpr .self;exact λr=>by rw[List.map_eq_nil_iff]at r;rw[r]at this;cases this
 ·rw[dZ];constructor
  ·rintro⟨I,db,rfl⟩;exact N1 m B ((RJ I).mp db)
  ·intro e;refine⟨(d.1-m,d.2-B),(RJ _).mpr ?_,by rw[lM];exact⟨Gj _ _,Gj _ _⟩⟩;exact Iv e
 ·let⟨I,ds,rfl⟩:=dZ.mp ca;have dL:h4 I:=by
   cases (RJ I).mp ds with
   |self=>exact C _ (oJ N)
   |step _ k _=>exact C I k
  let⟨gt,g1,g2,g3⟩:=dL;exact⟨by show 0<=I.1+m;lia,by show I.1+m<=30;lia,by show 0<=I.2+B;lia,by show I.2+B<=30;lia⟩
abbrev mr:=(Int×Int)×(Int×Int)
def iq(g f:Int×Int):mr:=((if bh (ag f) (ag g)=ab then f else g,if bh (ag g) (ag f)=ab then f else g))
def O5(g f:Int×Int):mB [.im (ag g),.im<|ag f]=Z (.im<|ag (iq g f).1):=by
 show (if dF 6 (ag f) (ag g)=ab then Z (ak.im<|if bh (ag f) (ag g)=ab then ag f else ag g) else X)=Z (.im<|ag<|if bh (ag f) (ag g)=ab then f else g);rw[aB (show dF 6 (ag f) (ag g)=ab from rfl)];split<;>rfl
def OI(g f:Int×Int):ka [.im (ag g),.im<|ag f]=Z (.im<|ag (iq g f).2):=by
 show (if dF 6 (ag f) (ag g)=ab then Z (ak.im<|if bh (ag g) (ag f)=ab then ag f else ag g) else X)=Z (.im<|ag<|if bh (ag g) (ag f)=ab then f else g);rw[aB (show dF 6 (ag f) (ag g)=ab from rfl)];split<;>rfl
def Ax:List (mr×Int)->mr->List (mr×Int)
 |[],c=>[(c,1)]
 | (N,s)::p,c=>if N=c then (N,s+1)::p else (N,s)::Ax p c
def cnt(k:List (mr×Int))(Rg:List mr):List (mr×Int):=(Rg.foldl (λk o=>Ax k<|iq o.1 o.2) k)
def e_(a:List (Int×Int)):List mr:=(a.zip (a.drop 1))
def uP(a:List (Int×Int)):(e_ a).length=a.length-1:=by
 unfold e_;rw[uh,f5];lia
def dO(aa:List aA)(Rn:aA):List aA:=(if da aa=[] then [Rn,Rn] else da aa)
def hp(Y:aA)(RY:List aA):List cv:=(RY.map λa=>(Y,a))
def nK{a:aA}(b:Rn∈aa)(e:a∈dO aa Rn):a∈aa:=by
 unfold dO at e;split at e
 ·rcases b9.mp e with rfl|e
  ·exact b
  ·rw[cV.mp e];exact b
 ·exact (jK.mp e).1
theorem uV(Y i:aA):∀RY:List aA,cA (Y,i) (hp Y RY)=cA i RY
 |[]=>rfl
 |z::RY=>by
  show cA (Y,i) ((Y,z)::hp Y RY)=_;rw[hR,hR,uV Y i RY];by_cases e:z=i
  ·rw[aB e,aB (by rw[e])]
  ·rw[aD e,aD λr=>e (Prod.mk.inj r).2]
def u3{d i:aA}{RY:List aA}(e:d≠Y):cA (d,i) (hp Y RY)=0:=gs λa=>by
 let⟨W,W,c⟩:=dZ.mp a;exact e (Prod.mk.inj c).1.symm
structure de(aa:List aA)(Y f0:aA):Prop where
 ai:aa.Nodup
 Y:Y∉aa
 f0:f0∈aa
 con:∀g∈aa,∀f∈aa,d0 aa g f
abbrev gx(aa:List aA)(Y Rn:aA):List cv:=cu aa++hp Y (dO aa Rn)
abbrev ft(aa:List aA)(Y Rn:aA)(d i:aA):Nat:=cA i (gR (gx aa Y Rn) d)
section
variable{aa:List aA}{Y Rn:aA}
def de.u1(R:de aa Y Rn):Y∉dO aa Rn:=λe=>R.Y (nK R.f0 e)
def de.e(d i:aA):ft aa Y Rn d i=cA (d,i) (cu aa)+cA (i,d) (cu aa)+(cA (d,i) (hp Y<|dO aa Rn)+cA (i,d) (hp Y<|dO aa Rn)):=by
 unfold ft gx;rw[Bz,sg,sg];omega
def de.Bp(R:de aa Y Rn)(i:aA):cA (Y,i) (cu aa)=0/\cA (i,Y) (cu aa)=0:=⟨gs λa=>R.Y (dK.mp a).1,gs λa=>R.Y (dK.mp a).2.1⟩
def de.kO(R:de aa Y Rn)(i:aA):ft aa Y Rn Y i=cA i (dO aa Rn):=by
 rw[de.e,(R.Bp i).1,(R.Bp i).2,uV];by_cases e:i=Y
 ·rw[e,uV,gs R.u1]
 ·rw[u3 e];omega
def de.f7(R:de aa Y Rn){d i:aA}(a:d≠Y)(b:i≠Y):ft aa Y Rn d i=cA (d,i) (cu aa)+cA (i,d) (cu aa):=by
 rw[de.e,u3 a,u3 b,p1]
def de.vx(d i:aA):ft aa Y Rn d i=ft aa Y Rn i d:=by rw[de.e,de.e];omega
def de.in1(R:de aa Y Rn){d i:aA}(e:1<=ft aa Y Rn d i):i∈Y::aa:=by
 by_cases a:i=Y
 ·rw[a];exact .head _
 refine .tail _ ?_;by_cases b:d=Y
 ·rw[b,R.kO]at e;exact nK R.f0 (rm e)
 ·rw[R.f7 b a]at e;by_cases k:1<=cA (d,i) (cu aa)
  ·exact (dK.mp<|rm k).2.1
  ·exact (dK.mp (rm (show 1<=cA (i,d) (cu aa) by omega))).1
def de.NV(R:de aa Y Rn){d i:aA}(a:d≠Y)(b:i≠Y)(e:1<=ft aa Y Rn d i):d∈aa/\i∈aa/\i∈cL d:=by
 rw[R.f7 a b]at e;by_cases k:1<=cA (d,i) (cu aa)
 ·let⟨g,f,h,W⟩:=dK.mp (rm k);exact⟨g,f,h⟩
 ·let⟨g,f,h,W⟩:=dK.mp (rm (show 1<=cA (i,d) (cu aa) by omega));exact⟨f,g,pk h⟩
def de.one(R:de aa Y Rn){c:cv}(e:c∈cu aa):ft aa Y Rn c.1 c.2=1:=by
 let⟨g,f,h,u⟩:=dK.mp e;rw[R.f7 (λa=>R.Y<|a ▸ g) (λa=>R.Y<|a ▸ f),m4 (qL R.ai) e,gs];intro a;have:=(gH _ _).mp (dK.mp a).2.2.2;have:=(gH _ _).mp u;dsimp only at *;omega
def de.aV(R:de aa Y Rn)(d:aA):ft aa Y Rn d d=0:=by
 by_cases e:d=Y
 ·rw[e,R.kO,gs R.u1]
 ·rw[R.f7 e e,gs];exact λa=>BX (dK.mp a).2.2.1 rfl
def N5(R:de aa Y Rn):(dO aa Rn).length%2=0:=by
 unfold dO;split
 ·have:([Rn,Rn]:List aA).length=2:=rfl;rw[this]
 ·exact Ja R.ai
theorem zJ(Y d:aA)(e:d≠Y):∀RY:List aA,ey (hp Y RY) d=cA d RY
 |[]=>rfl
 |z::RY=>by
  have a:=zJ Y d e RY;show ((if Y=d then 1 else 0)+if z=d then 1 else 0)+ey (hp Y RY) d=_;rw[hR,a,aD<|eu e,lb]
theorem zU{Y:aA}:∀{RY:List aA},Y∉RY->ey (hp Y RY) Y=RY.length
 |[],_=>rfl
 |z::RY,e=>by
  have a:=zU (Y:=Y) (RY:=RY) λr=>e (.tail _ r);show ((if Y=Y then 1 else 0)+if z=Y then 1 else 0)+ey (hp Y RY) Y=_;rw[a,aB rfl,aD (λr:z=Y=>e (by rw[r];exact .head _)),dd];omega
def de.ev(R:de aa Y Rn)(d:aA):(gR (gx aa Y Rn) d).length%2=0:=by
 rw[yK,Lm];by_cases e:d=Y
 ·rw[e,zU R.u1,AO (d:=Y) λc f=>⟨λa=>R.Y<|a ▸ (dK.mp f).1,λa=>R.Y<|a ▸ (dK.mp f).2.1⟩,lb];exact N5 R
 rw[zJ Y d e];by_cases b:d∈aa
 ·rw[rB R.ai b];unfold dO;split
  ·rename_i c;have s:d∉da aa:=by rw[c];exact mi
   have g:¬ (cU aa d).length%2=1:=λa=>s (jK.mpr ⟨b,dj a⟩);have h:cA d [Rn,Rn]%2=0:=by
    rw[hR,hR];have:cA d ([]:List aA)=0:=rfl;split<;>omega
   omega
  ·by_cases s:d∈da aa
   ·rw[m4 (C:=da aa) (R.ai.filter _) s];have:=g9 (jK.mp s).2;omega
   ·rw[gs s];have g:¬ (cU aa d).length%2=1:=λa=>s (jK.mpr ⟨b,dj a⟩);omega
 ·rw[AO (d:=d) λc f=>⟨λa=>b<|a ▸ (dK.mp f).1,λa=>b<|a ▸ (dK.mp f).2.1⟩,gs λa=>b<|nK R.f0 a]
def de.aN(R:de aa Y Rn):bY.fU (ft aa Y Rn) (gR<|gx aa Y Rn) [] Y [] Y Y:=by
 have e:=bY.fU.init (W:=gR (gx aa Y Rn)) (m:=Y) (λd i=>by rw[h2,h2];exact de.vx d i) (λd a=>by
  have:cA d (gR (gx aa Y Rn) d)=0:=R.aV d;have k:=@mQ aA instBEqOfDecidableEq _ d (gR (gx aa Y Rn) d);rw[h2]at k;have:=k.mpr a;omega) R.ev
 have c:(λd i=>@List.count aA instBEqOfDecidableEq i<|gR (gx aa Y Rn) d)=ft aa Y Rn:=funext λd=>funext λi=>h2 _ _;rw[c]at e;exact e
def MB(aa:List aA)(Rn:aA):dO aa Rn≠[]:=by
 unfold dO;split
 ·exact EA _ _
 ·assumption
def de.ad(R:de aa Y Rn){d i:aA}(a:d∈aa)(b:i∈aa)(e:i∈cL d):1<=ft aa Y Rn d i:=by
 cases C:c1 d i with
 |true=>exact vy (R.one (c:=(d,i))<|dK.mpr ⟨a,b,e,C⟩).symm
 |false=>
  have f:=r_.mp e;have g:c1 i d=ab:=by
   rw[gH];have:¬ c1 d i=ab:=by rw[C];exact c_
   rw[gH]at this;omega
  rw[de.vx];exact vy (R.one (c:=(i,d))<|dK.mpr ⟨b,a,pk e,g⟩).symm
def de.rc(R:de aa Y Rn){d:aA}(b:d∈aa):bY.k2 (ft aa Y Rn) Y d:=by
 let⟨a,p,c⟩:=tU (MB aa Rn);have aN:a∈dO aa Rn:=by rw[c];exact .head _
 have e:=nK R.f0 aN;have f:bY.k2 (ft aa Y Rn) Y a:=.step .self (by rw[R.kO,c,hR,aB rfl];omega);have r:=R.con a e d b;clear b;induction r with
 |self=>exact f
 |step o k l g=>exact .step g (R.ad (d0.w_ e o) k l)
def de.reach(R:de aa Y Rn)(d i:aA)(e:1<=ft aa Y Rn d i):bY.k2 (ft aa Y Rn) Y d:=by
 rw[de.vx]at e;rcases b9.mp (R.in1 e) with c|c
 ·rw[c];exact .self
 ·exact R.rc c
end
def Eh(e:h∈B):∃I u q,Y::B=I++[u,h]++q:=by
 let⟨a,RR,rfl⟩:=List.append_of_mem e;rcases oH a with rfl|⟨o,u,rfl⟩
 ·exact⟨[],Y,RR,rfl⟩
 ·exact⟨Y::o,u,RR,by simp⟩
theorem zO:∀{o:List aA},(∀I q g f,o=I++[g,f]++q->f∈cL g)->k3 o=ab
 |[],_=>rfl
 |[d],_=>rfl
 |d::i::p,e=>by
  rw[NB,cF,hb];exact⟨e [] p d i rfl,zO λI q g f c=>e (d::I) q g f (by rw[c];rfl)⟩
theorem Fm:∀{o:List aA}{r:cv},r∈e_ o->∃I q,o=I++[r.1,r.2]++q
 |[],r,e=>by cases e
 |[d],r,e=>by cases e
 |d::i::p,r,e=>by
  rcases b9.mp (show r∈(d,i)::e_ (i::p) from e) with rfl|e
  ·exact⟨[],p,rfl⟩
  ·let⟨I,q,c⟩:=Fm e;exact⟨d::I,q,by rw[c];rfl⟩
abbrev hg(r:cv):cv:=iq r.1 r.2
def xA(e:c1 g f=ab):iq g f=(g,f):=by
 have s:¬ c1 f g=ab:=by rw[gH] at *;omega
 unfold iq;rw[aD (show ¬ bh (ag f) (ag g)=ab from s),aB<|show bh (ag g) (ag f)=ab from e]
def yM(e:c1 f g=ab):iq g f=(f,g):=by
 have s:¬ c1 g f=ab:=by rw[gH] at *;omega
 unfold iq;rw[aB (show bh (ag f) (ag g)=ab from e),aD<|show ¬ bh (ag g) (ag f)=ab from s]
def B3(e:¬ c1 g f=ab)(n:¬ c1 f g=ab):g=f:=by
 rw[gH] at *;exact pE (by omega) (by omega)
def Qj(a:g∈aa)(b:f∈aa)(e:f∈cL g):iq g f∈cu aa:=by
 by_cases k:c1 g f=ab
 ·rw[xA k];exact dK.mpr ⟨a,b,e,k⟩
 ·by_cases l:c1 f g=ab
  ·rw[yM l];exact dK.mpr ⟨b,a,pk e,l⟩
  ·exact absurd (B3 k l).symm (BX e)
def FZ{c:cv}(C:c1 c.1 c.2=ab):iq g f=c↔(g=c.1/\f=c.2)\/(g=c.2/\f=c.1):=by
 constructor
 ·intro e;by_cases k:c1 g f=ab
  ·rw[xA k]at e;exact .inl ⟨by rw[<-e],by rw[<-e]⟩
  ·by_cases l:c1 f g=ab
   ·rw[yM l]at e;exact .inr ⟨by rw[<-e],by rw[<-e]⟩
   ·have a:=B3 k l;unfold iq at e;rw[aD (show ¬ bh (ag f) (ag g)=ab from l),aD<|show ¬ bh (ag g) (ag f)=ab from k]at e;rw[<-e,gH]at C;dsimp only at C;omega
 ·rintro (⟨rfl,rfl⟩|⟨rfl,rfl⟩)
  ·exact xA C
  ·exact yM C
theorem AD{c:cv}(C:c1 c.1 c.2=ab):∀o:List aA,cA c ((e_ o).map hg)=bY.ce o c.1 c.2
 |[]=>rfl
 |[d]=>rfl
 |d::i::p=>by
  show cA c (iq d i::(e_ (i::p)).map hg)=_;rw[hR,AD C (i::p),bY.ce];congr 1;unfold bY.pr;by_cases e:iq d i=c
  ·rw[aB e,aB<|(FZ C).mp e]
  ·rw[aD e,aD λa=>e<|(FZ C).mpr a]
theorem yS{Y:aA}:∀(B H:List aA),(B=[]->H=[])->(B≠[]->B.getLast?=Z Y)->((bY.dQ Y B H).map λo=>o.length+1).sum=H.length+B.length
 |[],H,e,_=>by rw[e rfl];rfl
 |h::p,H,_,e=>by
  rw[bY.dQ];have b:p≠[]->p.getLast?=Z Y:=λs=>by
   cases p with
   |nil=>exact absurd rfl s
   |cons u p=>simpa using e
  by_cases c:h=Y
  ·rw[aB c,bV,fN,yS p [] (λ_=>rfl) b,dd,gZ];omega
  ·have d:p≠[]:=λa=>by rw[a]at e;exact c ⇑e
   rw[aD c,yS p (H++[h]) (λa=>absurd a d) b,c5,dd,dd,gZ];omega
section
variable{aa:List aA}{Y Rn:aA}{B:List aA}
structure er(aa:List aA)(Y Rn:aA)(B:List aA):Prop where
 k:de aa Y Rn
 l:(Y::B).getLast?=Z Y
 e:∀d i,ft aa Y Rn d i=bY.ce (Y::B) d i
 ne:cu aa≠[]
def er.gM(Rk:er aa Y Rn B)(e:B≠[]):B.getLast?=Z Y:=by
 cases B with
 |nil=>exact absurd rfl e
 |cons u p=>have:=Rk.l;rw[vM]at this;exact this
def er.at(Rk:er aa Y Rn B){I q:List aA}{g f:aA}(e:Y::B=I++[g,f]++q):1<=ft aa Y Rn g f:=by
 rw[Rk.e,e];refine dD ?_ (bY.Ba g f I [g,f] q);show 1<=bY.pr g f g f+0;rw[bY.pG];exact bD 1
def er.ae(Rk:er aa Y Rn B):∀d∈Y::B,d∈Y::aa:=λd a=>by
 rcases b9.mp a with rfl|a
 ·exact .head _
 ·let⟨I,u,q,c⟩:=Eh (Y:=Y) a;exact Rk.k.in1 (Rk.at c)
def er.len(Rk:er aa Y Rn B):2*(bY.dQ Y B []).length=(dO aa Rn).length:=by
 refine bY.PD (a:=Y::aa) (e6.mpr ⟨Rk.k.Y,Rk.k.ai⟩) Rk.ae Rk.l (λd=>?_) (λi a=>.tail _<|nK Rk.k.f0 a) λi=>?_
 ·rw[<-Rk.e];exact Rk.k.aV d
 ·rw[h2,<-Rk.e,Rk.k.kO]
def er.in(Rk:er aa Y Rn B){o:List aA}(a:o∈bY.dQ Y B []){I q:List aA}{g f:aA}(e:Y::(o++[Y])=I++[g,f]++q):1<=ft aa Y Rn g f:=by
 let⟨b,d,c⟩:=bY.r0 a;rw[kU,e]at c;exact Rk.at (I:=b++I) (q:=q++d) (by rw[c];simp)
def er.vw(Rk:er aa Y Rn B){o:List aA}(a:o∈bY.dQ Y B []):∀h∈o,h∈aa:=λh b=>by
 have d:=bY.r3 (Y:=Y) (B:=B) (H:=[]) mi a;let⟨I,u,q,c⟩:=Eh (Y:=Y) (show h∈o++[Y] from eX _ b);exact (b9.mp<|Rk.k.in1<|Rk.in a c).resolve_left λe=>d (e ▸ b)
def er.r4(Rk:er aa Y Rn B){o:List aA}(b:o∈bY.dQ Y B []){I q:List aA}{g f:aA}(e:o=I++[g,f]++q):g∈aa/\f∈aa/\f∈cL g:=by
 have c:=bY.r3 (Y:=Y) (B:=B) (H:=[]) mi b;refine Rk.k.NV (λa=>c ?_) (λa=>c ?_) (Rk.in b (I:=Y::I) (q:=q++[Y]) (by rw[e];simp))
 ·rw[e,<-a];simp
 ·rw[e,<-a];simp
def er.ce(Rk:er aa Y Rn B){c:cv}(e:c∈cu aa):((bY.dQ Y B []).map λo=>bY.ce o c.1 c.2).sum=1:=by
 let⟨g,f,W,W⟩:=dK.mp e;have d:c.1≠Y:=λa=>Rk.k.Y (a ▸ g);have i:c.2≠Y:=λa=>Rk.k.Y (a ▸ f);rw[bY.wN d i B [] (λ_=>rfl) Rk.gM,<-Rk.k.one e,Rk.e];show _=bY.ce ([]++Y::B) c.1 c.2;rw[bY.DI d i];exact (lb _).symm
def er.two(Rk:er aa Y Rn B){o:List aA}(a:o∈bY.dQ Y B []):2<=o.length:=by
 match o,a with
 |[],a=>
  have:=Rk.in a (I:=[]) (q:=[]) (g:=Y) (f:=Y) rfl;rw[Rk.k.aV]at this;omega
 |[h],a=>
  let⟨d,i,c⟩:=bY.r0 a;have e:=bY.Ba Y h d [Y,h,Y] i;rw[kU]at c;rw[show d++[Y,h,Y]++i=Y::B from c.symm,<-Rk.e,Rk.k.kO]at e;have l:bY.ce [Y,h,Y] Y h=2:=by
   show bY.pr Y h Y h+(bY.pr h Y Y h+0)=2;rw[bY.pG,bY.wd,bY.pG]
  rw[l]at e;by_cases j:da aa=[]
  ·have C:=Rk.len;unfold dO at C;rw[aB j]at C;have s:(bY.dQ Y B []).length=1:=by have:([Rn,Rn]:List aA).length=2:=rfl;omega
   let⟨r,t⟩:=List.length_eq_one_iff.mp s;let⟨c,p,u⟩:=tU Rk.ne;have b:=Rk.ce (c:=c) (by rw[u];exact .head _);rw[t]at a b;rw[<-cV.mp a]at b;exact absurd b (by show ¬ (0+0=1);omega)
  ·exfalso;unfold dO at e;rw[aD j]at e;by_cases m:h∈da aa
   ·rw[m4 (C:=da aa) (Rk.k.ai.filter _) m]at e;omega
   ·rw[gs m]at e;omega
 |_::_::_,_=>exact Nat.le_add_left 2 _
def er.k3(Rk:er aa Y Rn B){o:List aA}(a:o∈bY.dQ Y B []):k3 o=ab:=zO λI q g f c=>(Rk.r4 a c).2.2
def er.pm(Rk:er aa Y Rn B):((bY.dQ Y B []).flatMap λo=>(e_ o).map hg).Perm (cu aa):=BM λc=>by
 by_cases e:c∈cu aa
 ·rw[CA,m4 (qL Rk.k.ai) e,<-Rk.ce e];congr 1;exact g_ λo W=>AD (dK.mp e).2.2.2 o
 ·rw[gs e,gs];intro a;let⟨o,b,a⟩:=y3.mp a;let⟨r,d,rfl⟩:=dZ.mp a;let⟨I,q,c⟩:=Fm d;let⟨g,f,h⟩:=Rk.r4 b c;exact e (Qj g f h)
theorem BD{Ry RZ:Type}(N:Ry->List RZ):∀{C:List Ry}{g:Ry},g∈C->(N g).length<=(C.flatMap N).length
 |f::C,g,e=>by
  rw[lE,c5];rcases b9.mp e with rfl|e
  ·omega
  ·have:=BD N e;omega
def er.short(Rk:er aa Y Rn B){o:List aA}(a:o∈bY.dQ Y B []):o.length<=(cu aa).length+1:=by
 have e:=BD (λo:List aA=>(e_ o).map hg) a;rw[Rk.pm.length_eq,bH,uP]at e;omega
theorem E9{Ry RZ:Type}(N:Ry->List RZ):∀C:List Ry,(C.flatMap N).length=(C.map λg=>(N g).length).sum
 |[]=>rfl
 |f::C=>by rw[lE,c5,bV,fN,E9 N C]
def er.Ny(Rk:er aa Y Rn B):B.length<=(cu aa).length+(dO aa Rn).length:=by
 have k:=yS B [] (λ_=>rfl) Rk.gM;have l:=Rk.pm.length_eq;rw[E9]at l;have a:∀C:List (List aA),(∀o∈C,2<=o.length)->(C.map λo=>o.length+1).sum<=(C.map λo=>((e_ o).map hg).length).sum+2*C.length:=λC=>by
  induction C with
  |nil=>exact λ_=>bD _
  |cons o C b=>
   intro e;have:=b λr c=>e r (.tail _ c);have:=e o (.head _);rw[bV,bV,fN,fN,bH,uP,dd];omega
 have:=a _ λo d=>Rk.two d;rw[gZ]at k;have:=Rk.len;omega
end
abbrev hd(u m B:Int):ak:=.lst [.int u,.int m,.int B]
abbrev vn(f:Bool):ak:=.im (.aG f)
def j4(Ru:List (Int×Int))(h:Int×Int):List (Int×Int):=(if h∈Ru then Ru else Ru++[h])
def Hi(Ru:List (Int×Int))(h:Int×Int):fq (a0 Ru) (b7 h) (.aG ab)=a0 (j4 Ru h):=by
 unfold j4;by_cases e:h∈Ru
 ·rw[aB e];unfold fq;rw[aB (by rw[ub];simpa using e)];unfold a0;rw[gj];refine g_ λd Y=>?_;show (if b7 d=b7 h then (b7 d,V.aG ab) else (b7 d,V.aG ab))=_;split<;>rfl
 ·rw[aD e];exact Ee e
abbrev xU(e:ak)(Rz:Option ak)(a b c d f:Int)(Ru:List (Int×Int))(A J g h i j:Option ak):aU:=[Z e,Rz,Z<|aI a,Z<|aI b,Z<|aI c,Z<|aI d,Z<|aI f,Z<|.aS<|a0 Ru,A,J,g,h,i,j]
def jW(Ra:List (Int×Int)):Prop:=(Ra.Pairwise λg f=>bh (ag g) (ag f)=ab)
abbrev qi:=Int×Int
theorem Ei(w:Option ak):∀(Ra Ru:List qi) (RM:Option ak),Ru.length+Ra.length<100000->∃a,dn (bu 2) pY (Ra.map ag) [w,Z<|.aS<|a0 Ru,RM]=Z (.bj,[w,Z<|.aS<|a0<|Ra.foldl j4 Ru,a])
 |[],Ru,RM,_=>⟨RM,rfl⟩
 |h::Ra,Ru,RM,b=>by
  have d:ot (.aS<|a0 Ru) (.im<|.tup<|b7 h) (vn ab)=Z (.aS<|a0<|j4 Ru h):=by
   rw[<-Hi];exact aB ⟨rfl,by unfold a0;rw[bH];rw[dd]at b;lia⟩
  have t:(j4 Ru h).length<=Ru.length+1:=by
   unfold j4;split
   ·lia
   ·rw[c5];exact bD _
  let⟨@a,e⟩:=Ei w Ra (j4 Ru h) (Z<|.im<|ag h) (by rw[dd]at b;lia);refine⟨a,?_⟩;have c:pY [w,Z<|.aS<|a0 Ru,Z<|.im<|ag h]=Z (.bj,[w,Z<|.aS<|a0<|j4 Ru h,Z<|.im<|ag h]):=by
   unfold pY;refine Fp rfl ?_;show (ot (.aS<|a0 Ru) (.im<|.tup<|b7 h)<|vn ab).map _=_;rw[d];rfl
  rw[bV,dn];show (pY [w,Z<|.aS<|a0 Ru,Z<|.im<|ag h]).bind _=_;rw[c];exact e
theorem Dh:∀(Ra Ru:List qi),(Ru++Ra).Nodup->Ra.foldl j4 Ru=Ru++Ra
 |[],Ru,_=>by rw[b5];rfl
 |h::Ra,Ru,ai=>by
  have a:h∉Ru:=λe=>by
   have:=(c7.mp ai).2.2 h e h (.head _);exact this rfl
  rw[k7,j4,aD a,Dh Ra (Ru++[h]) (by rw[a_];exact ai),a_];rfl
def Dq{Ra:List qi}(ai:Ra.Nodup)(a:Ra.length<10000):rl [aR Ra]=Z (.aS<|a0 Ra,[aR Ra]):=by
 let⟨@Y,aV⟩:=Ei (Z<|aR Ra) Ra [] X (by show 0+_<_;lia);rw[Dh Ra [] ai]at aV;unfold rl CR;refine g5 (y:=[Z (aR Ra),Z .ek,Y]) rfl (cI (z:=[Z (aR Ra),Z<|.aS [],X]) rfl<|cI (jj (Y:=X) rfl aV rfl) rfl) rfl
def BA(Ru:List qi)(h:qi):mc (.im<|ag h) (.aS<|a0 Ru)=Z (vn<|decide (h∈Ru)):=by
 rw[<-DH];rfl
def gz(Q:List cv):ak:=(.im (.tup<|Q.map bS))
def c0(Q:List cv):ak:=(.lst (Q.map bS))
def Et(h:aA):(cL h).length=4:=rfl
def yn(aa:List aA)(h:aA):(cU aa h).length<=4:=lY _ _
def ED(aa:List aA)(h:aA):iV [.aS (a0 aa),.im<|ag h]=Z (aR<|cU aa h,[.aS (a0 aa),.im<|ag h]):=by
 have c4:cP 1 [0] (cn<|aj<|bG 1 G.yc<|av (au 1) aE) (bu 0) G.Bu G.Al [Z (.aS<|a0 aa),Z<|.im<|ag h]=Z (bo<|cU aa h,[Z (.aS<|a0 aa),Z<|.im<|ag h]):=by
  refine jd (x:=(cL h).map ag) (Y:=X) (z:=[Z (.aS<|a0 aa),Z<|.im<|ag h]) rfl (lg ag (λu=>decide (u∈aa)) ag _ [] (λu W=>?_) (by rw[Et];decide)) rfl;exact⟨[Z (.im<|ag u),Z<|.aS<|a0 aa],[Z (.im<|ag u),Z<|.aS<|a0 aa],rfl,gK<|iv<|BA aa u,λ_=>rfl,λ_=>⟨[Z (.im<|ag u),Z<|.aS<|a0 aa],rfl,rfl⟩⟩
 unfold iV Bk;exact g5 (y:=[Z (.aS<|a0 aa),Z<|.im<|ag h]) rfl (h7<|eY (b4 (cc c4) rfl) rfl rfl) rfl
def u_{d i:List cv}(e:d.length+i.length<=100000):nC (c0 d) [c0 i]=Z (.im .aW,c0<|d++i):=by
 have:nC (c0 d) [c0 i]=Z (.im .aW,.lst<|d.map bS++i.map bS):=aB (by rw[bH,bH];exact e);rw[this,<-jx];rfl
def BK(aa:List aA)(h:aA)(Ra:List aA):iP aa (h::Ra)=(((cU aa h).filter<|c1 h).map λu=>(h,u))++iP aa Ra:=lE
theorem Bj{aa:List aA}:∀(Ra:List aA) (a:List cv) (E:Option ak),a.length+4*Ra.length<=10000->
  ∃b,dn (bu 3) wz (Ra.map ag) [Z (aR aa),Z<|.aS<|a0 aa,Z<|c0 a,E]=Z (.bj,[Z (aR aa),Z<|.aS<|a0 aa,Z<|c0<|a++iP aa Ra,b])
 |[],a,E,_=>⟨E,by rw[show iP aa []=[] from rfl,b5];rfl⟩
 |h::Ra,a,E,e=>by
  rw[dd]at e;have g:((cU aa h).filter<|c1 h).length<=4:=dD (lY _ _) (yn aa h);let⟨b,c⟩:=Bj Ra (a++((cU aa h).filter<|c1 h).map λu=>(h,u)) (Z<|.im<|ag h) (by rw[c5,bH];omega);have c4:cP 1 [3] (cn<|aj<|bG 2 G.iV<|av (au 1)<|av (au 3) aE) (bu 0) G.vv G.uU [Z (aR aa),Z<|.aS<|a0 aa,Z<|c0 a,Z<|.im<|ag h]=Z (c0<|((cU aa h).filter<|c1 h).map λu=>(h,u),[Z (aR aa),Z<|.aS<|a0 aa,Z<|c0 a,Z<|.im<|ag h]):=by
   have d:cP 1 [3] (cn<|aj<|bG 2 G.iV<|av (au 1)<|av (au 3) aE) (bu 0) G.vv G.uU [Z (aR aa),Z<|.aS<|a0 aa,Z<|c0 a,Z<|.im<|ag h]=Z (.lst<|((cU aa h).filter<|c1 h).map λu=>bS (h,u),[Z (aR aa),Z<|.aS<|a0 aa,Z<|c0 a,Z<|.im<|ag h]):=by
    have k:cn (aj<|bG 2 G.iV<|av (au 1)<|av (au 3) aE) [Z (aR aa),Z<|.aS<|a0 aa,Z<|c0 a,Z<|.im<|ag h]=Z (((cU aa h).map ag,X),[Z (aR aa),Z<|.aS<|a0 aa,Z<|c0 a,Z<|.im<|ag h]):=by
     have f:bG 2 G.iV (av (au 1)<|av (au 3) aE) [Z (aR aa),Z<|.aS<|a0 aa,Z<|c0 a,Z<|.im<|ag h]=Z (aR<|cU aa h,[Z (aR aa),Z<|.aS<|a0 aa,Z<|c0 a,Z<|.im<|ag h]):=e2 (Rq:=[.bk 1,.bk 3]) rfl rfl rfl (ED aa h) rfl;unfold cn;rw[gd f];rfl
    refine jd (x:=(cU aa h).map ag) (Y:=X) k (lg ag (c1 h) (λu=>bS (h,u)) _ [] (λu W=>?_) (by have:=yn aa h;rw[gZ];omega)) rfl;refine⟨[Z (.im<|ag u),Z<|.im<|ag h],[Z (.im<|ag u),Z<|.im<|ag h],rfl,gK<|e9 rfl rfl rfl rfl rfl,λ_=>rfl,λ_=>⟨[Z (.im<|ag u),Z<|.im<|ag h],jZ (b4 rfl<|b4 rfl rfl) rfl (fP rfl) rfl,rfl⟩⟩
   rw[d];unfold c0;rw[gj];rfl
  refine⟨b,?_⟩;rw[bV];refine nS (z:=[Z (aR aa),Z<|.aS<|a0 aa,Z<|c0 a,Z<|.im<|ag h]) (RA:=[Z (aR aa),Z<|.aS<|a0 aa,Z<|c0<|a++((cU aa h).filter<|c1 h).map λu=>(h,u),Z<|.im<|ag h]) rfl ?_ ?_
  ·unfold wz;exact kd (ll rfl rfl (gN (gd c4) rfl) rfl rfl (u_ (by rw[bH];omega)) rfl)
  ·rw[c,BK,a_]
def G1(ai:aa.Nodup)(b:aa.length<=1000):qy [aR aa]=Z (gz<|cu aa,[aR aa]):=by
 let⟨a,aV⟩:=Bj (aa:=aa) aa [] X (by rw[gZ];omega);unfold qy Co;refine g5 (y:=[Z (aR aa),Z<|.aS<|a0 aa,Z<|c0<|cu aa,a]) rfl ?_ rfl;exact cI (z:=[Z (aR aa),Z<|.aS<|a0 aa,X,X]) (gF (e2 (Rq:=[.bk 0]) rfl rfl rfl (Dq ai (by omega)) rfl) (e0 rfl) rfl) (cI (z:=[Z (aR aa),Z<|.aS<|a0 aa,Z<|c0 [],X]) (gF (lV rfl rfl (fP rfl) rfl) (e0 rfl) rfl)<|cI (jj (Y:=X) (x:=aa.map ag) rfl aV rfl)<|h7<|o5 (gN rfl rfl) rfl rfl)
def G0(g f h:aA):ng (.im<|.tup [ag g,ag f]) (.im<|ag h)=Z (aI ((cA h [g,f]:Nat):Int)):=by
 have r:∀d i:aA,bU (ag d) (ag i)=decide (d=i):=λd i=>by
  have f:∀a v:Int,bU (.int a) (.int v)=decide (a=v):=λa v=>BJ a v;show dU [.int d.1,.int d.2] [.int i.1,.int i.2]=_;show (bU (.int d.1) (.int i.1)&&(bU (.int d.2) (.int i.2)&&ab))=_;rw[f,f,tF,o2,cF,hb,hb,hb,lM]
 show Z (ak.im<|.int (kR [ag g,ag f] (ag h):Nat))=_;unfold kR;rw[nT,nT,List.countP_nil,r,r,hR,hR];by_cases k:g=h<;>by_cases l:f=h<;>simp[k,l,cA]
def Jc(ai:aa.Nodup)(l:aa.length<=1000)(g:aA):qK [aR aa,.im<|ag g,.im<|ag g]=Z (aR<|da aa,[aR aa,.im<|ag g,.im<|ag g]):=by
 have c4:cP 1 [3,1,2] (cn<|au 0) (bu 0) G.wb G.Fv [Z (aR aa),Z<|.im<|ag g,Z<|.im<|ag g,Z<|.aS<|a0 aa]=Z (bo<|da aa,[Z (aR aa),Z<|.im<|ag g,Z<|.im<|ag g,Z<|.aS<|a0 aa]):=by
  refine jd (x:=aa.map ag) (Y:=X) (z:=[Z (aR aa),Z<|.im<|ag g,Z<|.im<|ag g,Z<|.aS<|a0 aa]) rfl (lg ag (λh=>decide ((cU aa h).length%2=1)) ag _ [] (λh W=>?_) (by rw[gZ];omega)) rfl;refine⟨[Z (.im<|ag h),Z<|.aS<|a0 aa,Z<|.im<|ag g,Z<|.im<|ag g],[Z (.im<|ag h),Z<|.aS<|a0 aa,Z<|.im<|ag g,Z<|.im<|ag g],rfl,?_,λ_=>rfl,λ_=>⟨[Z (.im<|ag h),Z<|.aS<|a0 aa,Z<|.im<|ag g,Z<|.im<|ag g],rfl,rfl⟩⟩;have a:dt [aR (cU aa h)]=Z (aI ((cU aa h).length:Int)):=by
   show Z (aI (((cU aa h).map ag).length:Int))=_;rw[bH]
  have b:fg (aI<|((cU aa h).length:Int)+(cA h [g,g]:Nat)) (aI 2)=Z (aI<|(((cU aa h).length:Int)+(cA h [g,g]:Nat))%2):=FQ ∅;let y:aU:=[Z (.im<|ag h),Z<|.aS<|a0 aa,Z<|.im<|ag g,Z<|.im<|ag g]
  have e:bG 2 G.iV (av (au 1)<|av (au 0) aE) y=Z (aR<|cU aa h,y):=e2 (Rq:=[.bk 1,.bk 0]) rfl rfl rfl (ED aa h) rfl;have f:bT dt (av (aj<|bG 2 G.iV<|av (au 1)<|av (au 0) aE) aE) y=Z (aI ((cU aa h).length:Int),y):=eY (b4 (cc e) rfl) rfl a;have i:aL ng (aj<|di<|av (au 2)<|av (au 3) aE) (au 0) y=Z (aI ((cA h [g,g]:Nat):Int),y):=e9 (cc<|jZ (b4 (d:=.bk 2) (x:=[.bk 3]) rfl<|b4 (d:=.bk 3) (x:=[]) rfl rfl) (E:=[.im (ag g),.im<|ag g]) rfl (fP rfl) rfl) rfl rfl rfl (G0 g g h);have c:cA h [g,g]%2=0:=by
   rw[hR,hR];have:cA h ([]:List aA)=0:=rfl;split<;>omega
  generalize cA h [g,g]=s at *;have j:aL fg (aj<|aL dz (aj<|bT dt<|av (aj<|bG 2 G.iV<|av (au 1)<|av (au 0) aE) aE)<|aj<|aL ng (aj<|di<|av (au 2)<|av (au 3) aE)<|au 0) (aj<|aH<|.int 2) y=Z (aI<|(((cU aa h).length:Int)+(s:Int))%2,y):=e9 (cc<|e9 (cc f) (cc i) rfl rfl rfl) rfl rfl rfl b;have k:wb y=Z (decide ((((cU aa h).length:Int)+(s:Int))%2=1),y):=gK (e9 (cc j) rfl rfl rfl<|o4 _ _);rw[show decide ((cU aa h).length%2=1)=decide ((((cU aa h).length:Int)+(s:Int))%2=1) from q7.mpr (by omega)];exact k
 unfold qK C8;refine g5 (y:=[Z (aR aa),Z<|.im<|ag g,Z<|.im<|ag g,Z<|.aS<|a0 aa]) rfl ?_ rfl;exact cI (z:=[Z (aR aa),Z<|.im<|ag g,Z<|.im<|ag g,Z<|.aS<|a0 aa]) (gF (e2 (Rq:=[.bk 0]) rfl rfl rfl (Dq ai (by omega)) rfl) (e0 rfl) rfl) (h7<|eY (b4 (cc c4) rfl) rfl rfl)
def Hz(ai:(Rn::p).Nodup)(c:(Rn::p).length<=1000):lG [aR (Rn::p)]=Z (aR<|dO (Rn::p) Rn,[aR (Rn::p)]):=by
 have a:cm (aR (Rn::p)) (aI 0)=Z (.im<|ag Rn):=by
  show (dB ((Rn::p).map ag) 0).map ak.im=_;rw[sf (u:=ag Rn) (j9 0) rfl];rfl
 have d:bZ 1 (bG 3 G.qK<|av (au 0)<|av (aj<|aL cm (au 0)<|aj<|aH<|.int 0)<|av (aj<|aL cm (au 0)<|aj<|aH<|.int 0) aE) [Z (aR (Rn::p)),X]=Z (.bj,[Z (aR (Rn::p)),Z<|aR<|da (Rn::p)]):=
  gF (e2 (Rq:=[.bk 0,.ck<|.im<|ag Rn,.ck<|.im<|ag Rn]) (b4 rfl<|b4 (cc<|iv a)<|b4 (cc<|iv a) rfl) rfl rfl (Jc ai c Rn) rfl) (e0 rfl) rfl;have f:dt [aR (da (Rn::p))]=Z (aI ((da (Rn::p)).length:Int)):=by
  show Z (aI (((da (Rn::p)).map ag).length:Int))=_;rw[bH]
 have b:b3 (aL d_ (aj<|bT dt<|av (au 1) aE)<|aj<|aH<|.int 0) [Z (aR (Rn::p)),Z<|aR<|da (Rn::p)]=Z (decide (((da (Rn::p)).length:Int)=0),[Z (aR (Rn::p)),Z<|aR<|da (Rn::p)]):=gK (e9 (cc<|eY (b4 rfl rfl) rfl f) rfl rfl rfl<|o4 _ _);unfold lG Ac;refine g5 (y:=[Z (aR (Rn::p)),Z<|aR<|da (Rn::p)]) rfl (cI d ?_) rfl;unfold dO;by_cases e:da (Rn::p)=[]
 ·rw[aB e];rw[e]at b ⊢;exact Bi (xB b<|h7<|jZ (b4 (cc<|iv a)<|b4 (cc<|iv a) rfl) rfl (fP rfl) rfl)
 ·rw[aD e];rw[dv (λg=>e (s_.mp (by omega)))]at b;exact cI (kz b rfl) rfl
abbrev tX:V:=.tup [.int (-1),.int<|-1]
def E5(h u:aA):d_ (.im<|ag h) (.im<|ag u)=Z (.im<|.aG<|decide (h=u)):=by
 have f:∀a v:Int,bU (.int a) (.int v)=decide (a=v):=λa v=>BJ a v;show Z (ak.im<|.aG<|bU (.int h.1) (.int u.1)&&(bU (.int h.2) (.int u.2)&&ab))=_;rw[f,f,tF];congr 3;rw[o2,cF,hb,hb,hb,lM]
def I6(h:aA):d_ (.im<|ag h) (.im tX)=Z (.im<|.aG<|decide (h=(-1,-1))):=E5 h (-1,-1)
abbrev gg(Rg:List (List aA)):ak:=.lst (Rg.map λo=>.tup<|o.map ag)
theorem wA{w:Option ak}:∀(B:List aA) (Rg:List (List aA)) (H:List aA) (E:Option ak),Rg.length+H.length+B.length<100000->(B=[]->H=[])->(B≠[]->B.getLast?=Z (-1,-1))->
  ∃a,dn (bu 3) tN (B.map ag) [w,Z<|gg Rg,Z<|bo H,E]=Z (.bj,[w,Z<|gg<|Rg++bY.dQ (-1,-1) B H,Z<|bo [],a])
 |[],Rg,H,E,_,g,_=>⟨E,by rw[g rfl,show bY.dQ (-1,-1) [] []=([]:List (List aA)) from rfl,b5];rfl⟩
 |h::B,Rg,H,E,i,_,b=>by
  rw[dd]at i;have f:B≠[]->B.getLast?=Z (-1,-1):=λs=>by
   cases B with
   |nil=>exact absurd rfl s
   |cons u p=>simpa using b
  have n:b3 (aL d_ (au 3)<|aj<|aH<|.tup [.int (-1),.int<|-1]) [w,Z<|gg Rg,Z<|bo H,Z<|.im<|ag h]=Z (decide (h=(-1,-1)),[w,Z<|gg Rg,Z<|bo H,Z<|.im<|ag h]):=gK (iv<|I6 h);rw[bY.dQ,bV];by_cases e:h=(-1,-1)
  ·rw[aB e];rw[dj e]at n;let⟨a,c⟩:=wA (w:=w) B (Rg++[H]) [] (Z<|.im<|ag h) (by rw[c5,fQ,gZ];omega) (λ_=>rfl) f;refine⟨a,nS (z:=[w,Z<|gg Rg,Z<|bo H,Z<|.im<|ag h]) (RA:=[w,Z<|gg<|Rg++[H],Z<|bo [],Z<|.im<|ag h]) rfl ?_ ?_⟩
   ·unfold tN;have j:fs (gg Rg) [aR H]=Z (.im .aW,gg<|Rg++[H]):=by
     have:fs (gg Rg) [aR H]=Z (.im .aW,.lst<|(Rg.map λo=>.tup<|o.map ag)++[.tup (H.map ag)]):=Gg (by rw[bH];omega);rw[this];simp
    exact xB n (cI (z:=[w,Z<|gg<|Rg++[H],Z<|bo H,Z<|.im<|ag h]) (kd<|ll rfl rfl (gN (gd<|o5 (gN rfl rfl) rfl rfl) rfl) rfl rfl j rfl)<|gF (lV rfl rfl (fP rfl) rfl) (e0 rfl) rfl)
   ·rw[c];simp
  ·rw[aD e];rw[dv e]at n;have J:B≠[]:=λd=>by rw[d]at b;exact e ⇑b
   let⟨a,c⟩:=wA (w:=w) B Rg (H++[h]) (Z<|.im<|ag h) (by rw[c5,fQ];omega) (λd=>absurd d J) f;refine⟨a,nS (z:=[w,Z<|gg Rg,Z<|bo H,Z<|.im<|ag h]) (RA:=[w,Z<|gg Rg,Z<|bo<|H++[h],Z<|.im<|ag h]) rfl ?_ c⟩;unfold tN;exact kz n (kd (ll rfl rfl (gN rfl rfl) rfl rfl (pP (by omega)) rfl))
def OQ(g:B.length<50000)(e:((-1,-1)::B).getLast?=Z (-1,-1)):t6 [aR ((-1,-1)::B)]=Z (.im<|.tup<|(bY.dQ (-1,-1) B []).map λo=>.tup<|o.map ag,[aR ((-1,-1)::B)]):=by
 let⟨a,aV⟩:=wA (w:=Z (aR ((-1,-1)::B))) B [] [] X (by show 0+0+B.length<100000;omega) (λ_=>rfl) (λs=>by
  cases B with
  |nil=>exact absurd rfl s
  |cons u p=>rw[vM]at e;exact e)
 have b:mg (aR ((-1,-1)::B)) (Z 1) X=Z (aR B):=by
  show Z (ak.im<|.tup<|fV (((-1,-1)::B).map ag) (Z 1) X)=_;have c:fV (((-1,-1)::B).map ag) (Z 1) X=((((-1,-1):aA)::B).drop 1).map ag:=(r9 _ _ _ _).trans (by rw[show (1:Int)=((1:Nat):Int) from rfl,vS]);rw[c];rfl
 have f:cn (aj<|gr (au 0) (hM<|aH<|.int 1) hq) [Z (aR ((-1,-1)::B)),Z<|gg [],Z<|bo [],X]=Z ((B.map ag,X),[Z (aR ((-1,-1)::B)),Z<|gg [],Z<|bo [],X]):=by
  unfold cn;rw[cc (OM (d:=.bk 0) rfl rfl rfl rfl b)];rfl
 unfold t6 Ca;refine g5 (y:=[Z (aR ((-1,-1)::B)),Z<|gg<|bY.dQ (-1,-1) B [],Z<|bo [],a]) rfl ?_ rfl;exact cI (z:=[Z (aR ((-1,-1)::B)),Z<|gg [],X,X]) (gF (lV rfl rfl (fP rfl) rfl) (e0 rfl) rfl) (cI (z:=[Z (aR ((-1,-1)::B)),Z<|gg [],Z<|bo [],X]) (gF (lV rfl rfl (fP rfl) rfl) (e0 rfl) rfl)<|cI (jj (Y:=X) (x:=B.map ag) f aV rfl)<|h7<|o5 (gN rfl rfl) rfl rfl)
def q0:V->cv
 |.tup [g,f]=>(m1 g,m1 f)
 |_=>((0,0),(0,0))
def tr(c:cv):q0 (bS c)=c:=rfl
def P7{g f:cv}(e:bS g=bS f):g=f:=by rw[<-tr g,e,tr]
def JG{C:List V}{Ru:List cv}(e:C.Perm (Ru.map bS)):∃a:List cv,a.Perm Ru/\C=a.map bS:=by
 have all:∀C:List V,(∀d∈C,d∈Ru.map bS)->C=(C.map q0).map bS:=λC=>by
  induction C with
  |nil=>exact λ_=>rfl
  |cons d C b=>
   intro e;let⟨o,Y,c⟩:=dZ.mp (e d<|.head _);rw[bV,bV,<-b λi f=>e i<|.tail _ f,<-c,tr]
 refine⟨C.map q0,?_,all C λd g=>e.mem_iff.mp g⟩;have:=vO q0 e;rw[gj]at this;have c:(q0 ∘ bS:cv->cv)=id:=funext tr;rw[c,xt]at this;exact this
def tw(a:Q.length<=1000):nf (Q.map bS):=⟨⟨by rw[bH];exact a,λg b f c=>by
  let⟨d,Y,rfl⟩:=dZ.mp b;let⟨i,Y,rfl⟩:=dZ.mp c;rfl⟩,.inr λu hd=>by
  let⟨d,Y,rfl⟩:=dZ.mp hd;rfl⟩
def gG(Q:List cv):ak:=(.lst (gf bh<|Q.map bS))
def L1{aa:List cv}(a:aa.length<=1000)(o:Q.Perm aa):gG Q=gG aa:=by
 unfold gG;congr 1;exact vX (tw a).ord ((ju _).trans<|o.map bS) (wX (tw (Q:=Q) (by rw[o.length_eq];exact a)).ord.iR)
def Qq(a:Q.length<=1000):nU [c0 Q]=Z (gG Q):=by
 show (if rh (Q.map bS)=ab then Z (ak.lst<|gf bh<|Q.map bS) else X)=_;rw[aB (yd.mpr<|tw a)];rfl
def LW(ai:Q.Nodup)(a:Q.length<=1000):nM [c0 Q]=Z (gG Q):=by
 cases Q with
 |nil=>rfl
 |cons c Q=>
  show jQ ((c::Q).map bS)=_;unfold jQ;have Y:=tw a;rw[aB (vl.mpr ⟨⟨Y.ord.gV,Y.ord.iR,xK bS (λg f s c=>s<|P7 c) ai⟩,Y.fst⟩)];rfl
def x7(Q:List cv):∃Rc:List cv,Rc.Perm Q/\gG Q=c0 Rc:=by
 let⟨Rc,S,c⟩:=JG (ju<|Q.map bS);exact⟨Rc,S,congrArg ak.lst c⟩
def HG(aa:List aA)(h:aA):((cL h).drop 2).filter (λu=>decide (u∈aa))=(cU aa h).filter (c1 h):=by
 have k:c1 h (h.1-1,h.2)=ax:=by
  cases e:c1 h (h.1-1,h.2) with
  |false=>rfl
  |true=>have:=(gH _ _).mp e;dsimp only at this;omega
 have l:c1 h (h.1,h.2-1)=ax:=by
  cases e:c1 h (h.1,h.2-1) with
  |false=>rfl
  |true=>have:=(gH _ _).mp e;dsimp only at this;omega
 have a:c1 h (h.1,h.2+1)=ab:=(gH _ _).mpr (by dsimp only;omega);have b:c1 h (h.1+1,h.2)=ab:=(gH _ _).mpr (by dsimp only;omega);unfold cU;rw[List.filter_filter];unfold cL;simp only[List.drop_succ_cons,j6,vo,List.filter_nil,k,l,a,b,zM,Bool.true_and,ij,eL]
abbrev je(aa:List aA):ak:=.aS (a0 aa)
theorem EX{aa:List aA}:∀(Ra:List aA) (a:List cv) (E:Option ak),a.length+4*Ra.length<=10000->
  ∃b,dn (bu 3) v5 (Ra.map ag) [Z (aR aa),Z<|je aa,Z<|c0 a,E]=Z (.bj,[Z (aR aa),Z<|je aa,Z<|c0<|a++iP aa Ra,b])
 |[],a,E,_=>⟨E,by rw[show iP aa []=[] from rfl,b5];rfl⟩
 |h::Ra,a,E,e=>by
  rw[dd]at e;have i:((cU aa h).filter<|c1 h).length<=4:=dD (lY _ _) (yn aa h);let⟨b,c⟩:=EX Ra (a++((cU aa h).filter<|c1 h).map λu=>(h,u)) (Z<|.im<|ag h) (by rw[c5,bH];omega);let y:aU:=[Z (aR aa),Z<|je aa,Z<|c0 a,Z<|.im<|ag h]
  have c4:cP 1 [1,3] (cn<|aj<|gr (aj<|bG 1 G.iZ<|av (au 3) aE) (hM<|aH<|.int 2) hq) (bu 0) G.yD G.xi y=Z (c0<|((cU aa h).filter<|c1 h).map λu=>(h,u),y):=by
   have d:cP 1 [1,3] (cn<|aj<|gr (aj<|bG 1 G.iZ<|av (au 3) aE) (hM<|aH<|.int 2) hq) (bu 0) G.yD G.xi y=Z (.lst<|(((cL h).drop 2).filter λu=>decide (u∈aa)).map λu=>bS (h,u),y):=by
    have f:bG 1 G.iZ (av (au 3) aE) y=Z (bo<|cL h,y):=e2 (Rq:=[.bk 3]) rfl rfl rfl (tW h) rfl;have g:mg (bo<|cL h) (Z 2) X=Z (bo<|(cL h).drop 2):=rfl;have k:cn (aj<|gr (aj<|bG 1 G.iZ<|av (au 3) aE) (hM<|aH<|.int 2) hq) y=Z ((((cL h).drop 2).map ag,X),y):=by
     unfold cn;rw[gd (uA (gd f) rfl rfl rfl g)];rfl
    refine jd (x:=((cL h).drop 2).map ag) (Y:=X) k (lg ag (λu=>decide (u∈aa)) (λu=>bS (h,u)) _ [] (λu W=>?_) (by rw[f5,Et,gZ];omega)) rfl;refine⟨[Z (.im<|ag u),Z<|je aa,Z<|.im<|ag h],[Z (.im<|ag u),Z<|je aa,Z<|.im<|ag h],rfl,gK<|iv<|BA aa u,λ_=>rfl,λ_=>⟨[Z (.im<|ag u),Z<|je aa,Z<|.im<|ag h],jZ (b4 rfl<|b4 rfl rfl) rfl (fP rfl) rfl,rfl⟩⟩
   rw[d,HG];unfold c0;rw[gj];rfl
  refine⟨b,?_⟩;rw[bV];refine nS (z:=y) (RA:=[Z (aR aa),Z<|je aa,Z<|c0<|a++((cU aa h).filter<|c1 h).map λu=>(h,u),Z<|.im<|ag h]) rfl ?_ ?_
  ·unfold v5;exact kd (ll rfl rfl (gN (gd c4) rfl) rfl rfl (u_ (by rw[bH];omega)) rfl)
  ·rw[c,BK,a_]
def G_(ai:aa.Nodup):gp (a0 aa)=a0 aa:=Fy (by
 unfold a0;rw[gj];exact D_ (λd Y i Y c=>jR c) ai)
def Au(ai:aa.Nodup)(e:aa.length<=200):nt [aR aa]=Z (gG<|cu aa,[aR aa]):=by
 have a:cP 1 [] (cn<|au 0) (bu 0) dS G.F7 [Z (aR aa),X,X,X]=Z (.lst<|aa.map λh=>.tup [ag h,.aG ab],[Z (aR aa),X,X,X]):=
  jd (x:=aa.map ag) (Y:=X) (z:=[Z (aR aa),X,X,X]) rfl (jO ag (λh=>.tup [ag h,.aG ab]) _ (λh W=>⟨[Z (.im<|ag h)],_,[Z (.im<|ag h)],rfl,rfl,rfl,rfl⟩) (by omega)) rfl;have b:((a0 aa).all λo=>V.keys 7 o.1)=ab/\(a0 aa).length<=1000:=⟨zy aa,by unfold a0;rw[bH];omega⟩;have c:kV [.lst (aa.map λh=>.tup [ag h,.aG ab])]=Z (je aa):=by
  show (kv<|aa.map λh=>.tup [ag h,.aG ab]).bind _=_;rw[Dj];show (if ((a0 aa).all λo=>V.keys 7 o.1)=ab/\(a0 aa).length<=1000 then Z (ak.aS<|gp<|a0 aa) else X)=_;rw[aB b,G_ ai]
 let⟨d,aV⟩:=EX (aa:=aa) aa [] X (by rw[gZ];omega);have f:(cu aa).length<=4*aa.length:=tS (aa:=aa) aa;unfold nt ER;refine g5 (y:=[Z (aR aa),Z<|je aa,Z<|c0<|cu aa,d]) rfl ?_ rfl;exact cI (z:=[Z (aR aa),Z<|je aa,X,X]) (oa (eY (b4 (cc a) rfl) rfl c) (e0 rfl) rfl) (cI (z:=[Z (aR aa),Z<|je aa,Z<|c0 [],X]) (gF (lV rfl rfl (fP rfl) rfl) (e0 rfl) rfl) (cI (jj (Y:=X) (x:=aa.map ag) rfl aV rfl) (h7 (o5 (gN rfl rfl) rfl (LW (qL ai) (by omega))))))
def du(aa:List aA)(N:aA->Int):List (List V×V):=(aa.map λh=>(b7 h,.int<|N h))
theorem w5{N:aA->Int}:∀{aa:List aA}{h:aA},h∈aa->dW (du aa N) (b7 h)=Z (.int<|N h)
 |g::aa,h,e=>by
  unfold dW du;rw[bV,iQ];by_cases c:g=h
  ·subst c;rw[show decide ((b7 g,V.int<|N g).1=b7 g)=ab from dj rfl];rfl
  ·rw[show decide ((b7 g,V.int<|N g).1=b7 h)=ax from dv λa=>c<|jR a];exact w5 ((b9.mp e).resolve_left λa=>c a.symm)
def i7(N:aA->Int)(h:aA)(q:Int):aA->Int:=(λd=>if d=h then q else N d)
def K8(e:h∈aa)(q:Int):fq (du aa N) (b7 h) (.int q)=du aa (i7 N h q):=by
 unfold fq;have a:((du aa N).any λo=>decide (o.1=b7 h))=ab:=by
  rw[pn];exact⟨(b7 h,.int<|N h),dZ.mpr ⟨h,e,rfl⟩,dj rfl⟩
 rw[aB a];unfold du;rw[gj];refine g_ λd Y=>?_;show (if (b7 d,V.int<|N d).1=b7 h then (b7 d,V.int q) else (b7 d,V.int<|N d))=(b7 d,V.int<|i7 N h q d);unfold i7;by_cases c:d=h
 ·rw[aB (by rw[c]),aB c]
 ·rw[aD λb=>c<|jR b,aD c]
def EB{y:aU}{a v:Nat}(b:h∈aa)(c:aa.length<100000)(e:y[a]?=Z (Z<|.aS<|du aa N))(f:y[v]?=Z (Z<|.im<|ag h)):n_ a v (λa v=>a+v) 1 y=Z (.bj,y.set a<|Z<|.aS<|du aa<|i7 N h<|N h+1):=by
 unfold n_;rw[e,f];show (if V.keys 7 (b7 h)=ab/\(du aa N).length<100000 then (match dW (du aa N) (b7 h) with
   |some (.int d)=>Z (jT.bj,y.set a<|Z<|.aS<|fq (du aa N) (b7 h)<|.int<|d+1)
   |_=>X) else X)=_;rw[aB ⟨tI h,by unfold du;rw[bH];exact c⟩,w5 b];show Z (jT.bj,y.set a<|Z<|.aS<|fq (du aa N) (b7 h)<|.int<|N h+1)=_;rw[K8 b]
theorem Ec{w Rz RM:Option ak}{aa:List aA}(b:aa.length<100000):∀(Rc:List cv) (N:aA->Int) (RH RK:Option ak),(∀c∈Rc,c.1∈aa/\c.2∈aa)->
  ∃L f g,dn (kx 2<|fl (bu 4)<|fl (bu 5) jq) wh (Rc.map bS) [w,Rz,RM,Z<|.aS<|du aa N,RH,RK]=Z (.bj,[w,Rz,RM,Z<|.aS<|du aa L,f,g])/\∀d,L d=N d+(ey Rc d:Nat)
 |[],N,RH,RK,_=>⟨N,RH,RK,rfl,λd=>(Int.add_zero _).symm⟩
 |c::Rc,N,RH,RK,e=>by
  have h:=e c (.head _);let⟨L,f,g,i,j⟩:=Ec (w:=w) (Rz:=Rz) (RM:=RM) b Rc (i7 (i7 N c.1<|N c.1+1) c.2<|i7 N c.1 (N c.1+1) c.2+1) (Z<|.im<|ag c.1) (Z<|.im<|ag c.2) λu hd=>e u (.tail _ hd);have m:=EB (y:=[w,Rz,RM,Z<|.aS<|du aa N,Z<|.im<|ag c.1,Z<|.im<|ag c.2]) (a:=3) (v:=4) h.1 b rfl rfl;have n:=EB (y:=[w,Rz,RM,Z<|.aS<|du aa<|i7 N c.1<|N c.1+1,Z<|.im<|ag c.1,Z<|.im<|ag c.2]) (a:=3) (v:=5) h.2 b rfl rfl;refine⟨L,f,g,?_,λd=>?_⟩
  ·rw[bV];refine nS (z:=[w,Rz,RM,Z<|.aS<|du aa N,Z<|.im<|ag c.1,Z<|.im<|ag c.2]) (RA:=[w,Rz,RM,Z<|.aS<|du aa<|i7 (i7 N c.1<|N c.1+1) c.2<|i7 N c.1 (N c.1+1) c.2+1,Z<|.im<|ag c.1,Z<|.im<|ag c.2]) rfl ?_ i;unfold wh;exact cI m n
  ·rw[j d];have RO:(ey (c::Rc) d:Nat)=((if c.1=d then 1 else 0)+if c.2=d then 1 else 0)+ey Rc d:=by unfold ey;rw[bV,fN]
   rw[RO];unfold i7;by_cases k:c.1=d<;>by_cases l:c.2=d
   ·subst k;rw[l];simp;omega
   ·subst k;simp[l,eu l];omega
   ·subst l;simp[k,eu k];omega
   ·simp[k,l,eu k,eu l]
theorem P0{Rk Rc:List cv}(e:Rk.Perm Rc)(d:aA):ey Rk d=ey Rc d:=(e.map _).sum_nat
def IV(ai:aa.Nodup)(f:aa.length<=200)(g:aA):tc [aR aa,.im<|ag g,.im<|ag g]=Z (bo<|da aa,[aR aa,.im<|ag g,.im<|ag g]):=by
 let Rn:aA->Int:=λh=>(if decide (h=g) then 1 else 0)+(if decide (h=g) then 1 else 0)
 let a:aU:=[Z (aR aa),Z<|.im<|ag g,Z<|.im<|ag g,X,X,X]
 have j:cP 1 [1,2] (cn<|au 0) (bu 0) dS G.vk a=Z (.lst<|aa.map λh=>.tup [ag h,.int<|Rn h],a):=by
  refine jd (x:=aa.map ag) (Y:=X) (z:=a) rfl (jO ag (λh=>.tup [ag h,.int<|Rn h]) _ (λh W=>⟨[Z (.im<|ag h),Z<|.im<|ag g,Z<|.im<|ag g],_,[Z (.im<|ag h),Z<|.im<|ag g,Z<|.im<|ag g],rfl,rfl,?_,rfl⟩) (by omega)) rfl;have r:∀v,[Z (ak.im<|ag h),Z<|.im<|ag g,Z<|.im<|ag g][v]?=Z (Z<|.im<|ag g)->bT vInt (av (aj<|aL d_ (au 0)<|au v) aE) [Z (.im<|ag h),Z<|.im<|ag g,Z<|.im<|ag g]=Z (aI<|if decide (h=g) then 1 else 0,[Z (.im<|ag h),Z<|.im<|ag g,Z<|.im<|ag g]):=λv b=>by
   have k:au v [Z (.im<|ag h),Z<|.im<|ag g,Z<|.im<|ag g]=Z (.bk v,[Z (.im<|ag h),Z<|.im<|ag g,Z<|.im<|ag g]):=by
    unfold au;rw[b]
   have l:d9 [Z (.im<|ag h),Z<|.im<|ag g,Z<|.im<|ag g] (.bk v)=Z (.im<|ag g):=by
    show [Z (ak.im<|ag h),Z<|.im<|ag g,Z<|.im<|ag g][v]?.getD X=_;rw[b];rfl
   exact eY (b4 (cc<|e9 rfl k rfl l<|E5 h g) rfl) rfl rfl
  unfold vk;exact jZ (b4 rfl<|b4 (cc<|e9 (cc<|r 1 rfl) (cc<|r 2 rfl) rfl rfl rfl) rfl) rfl (fP rfl) rfl
 have pr:∀C:List aA,kv (C.map λh=>.tup [ag h,.int<|Rn h])=Z (du C Rn):=λC=>by
  induction C with
  |nil=>rfl
  |cons h p q=>
   rw[bV];show (kv<|p.map λh=>.tup [ag h,.int<|Rn h]).map (λm=>(b7 h,.int<|Rn h)::m)=_;rw[q];rfl
 have s:kV [.lst (aa.map λh=>.tup [ag h,.int<|Rn h])]=Z (.aS<|du aa Rn):=by
  show (kv<|aa.map λh=>.tup [ag h,.int<|Rn h]).bind _=_;rw[pr];show (if ((du aa Rn).all λo=>V.keys 7 o.1)=ab/\(du aa Rn).length<=1000 then Z (ak.aS<|gp<|du aa Rn) else X)=_;rw[aB ⟨by
   rw[ho];intro o t;let⟨d,M,rfl⟩:=dZ.mp t;exact tI d,by unfold du;rw[bH];omega⟩,Fy (by
   unfold du;rw[gj];exact D_ (λd W i W c=>jR c) ai)]
 let⟨Rc,S,gz⟩:=x7 (cu aa);let⟨L,u,A,aV,B⟩:=Ec (w:=Z (aR aa)) (Rz:=Z (.im<|ag g)) (RM:=Z (.im<|ag g)) (aa:=aa) (by omega) Rc Rn X X λc D=>by
  let⟨d,i,W,W⟩:=dK.mp (S.mem_iff.mp D);exact⟨d,i⟩
 let z:aU:=[Z (aR aa),Z<|.im<|ag g,Z<|.im<|ag g,Z<|.aS<|du aa Rn,X,X]
 let RA:aU:=[Z (aR aa),Z<|.im<|ag g,Z<|.im<|ag g,Z<|.aS<|du aa L,u,A]
 have E:cn (aj<|bG 1 G.nt<|av (au 0) aE) z=Z ((Rc.map bS,X),z):=by
  have F:bG 1 G.nt (av (au 0) aE) z=Z (gG<|cu aa,z):=e2 (Rq:=[.bk 0]) rfl rfl rfl (Au ai f) rfl;unfold cn;rw[gd F,gz];rfl
 have H:cP 1 [3] (cn<|au 0) (bu 0) G.x3 G.Ea RA=Z (bo<|da aa,RA):=by
  refine jd (x:=aa.map ag) (Y:=X) (z:=RA) rfl (lg ag (λh=>decide ((cU aa h).length%2=1)) ag _ [] (λh e=>?_) (by rw[gZ];omega)) rfl;refine⟨[Z (.im<|ag h),Z<|.aS<|du aa L],[Z (.im<|ag h),Z<|.aS<|du aa L],rfl,?_,λ_=>rfl,λ_=>⟨[Z (.im<|ag h),Z<|.aS<|du aa L],rfl,rfl⟩⟩;have I:cm (.aS<|du aa L) (.im<|ag h)=Z (aI<|L h):=by
   show (if V.keys 7 (b7 h)=ab then (dW (du aa L)<|b7 h).map ak.im else X)=_;rw[aB (tI h),w5 e];rfl
  have J:fg (aI<|L h) (aI 2)=Z (aI<|L h%2):=FQ ∅;have n:x3 [Z (.im<|ag h),Z<|.aS<|du aa L]=Z (decide (L h%2=1),[Z (.im<|ag h),Z<|.aS<|du aa L]):=gK (e9 (cc<|e9 (cc<|iv I) rfl rfl rfl J) rfl rfl rfl<|o4 _ _);rw[n];congr 2;refine q7.mpr ?_;rw[B h,P0 S,rB ai e];show (((if decide (h=g) then (1:Int) else 0)+(if decide (h=g) then 1 else 0))+_)%2=1↔_;split<;>omega
 unfold tc Be;refine g5 (y:=RA) rfl ?_ rfl;exact cI (z:=z) (oa (eY (b4 (cc j) rfl) rfl s) (e0 rfl) rfl) (cI (jj (Y:=X) (x:=Rc.map bS) E aV rfl)<|h7 H)
abbrev dJ:aA:=(-1,-1)
def hV(Rg:List h8):ak:=(.im (.tup<|Rg.map dq))
def Ka{d i:List cv}(e:d.length+i.length<=100000):dz (gz d) (gz i)=Z (gz<|d++i):=by
 show (if (d.map bS).length+(i.map bS).length<=100000 then Z (ak.im<|.tup<|d.map bS++i.map bS) else X)=_;rw[aB (by rw[bH,bH];exact e),<-jx];rfl
def Hc{i:List aA}(e:i.length<=1000):dz (.im<|.tup [tX]) (aR i)=Z (aR (dJ::i)):=by
 show (if [tX].length+(i.map ag).length<=100000 then Z (ak.im<|.tup<|[tX]++i.map ag) else X)=_;rw[aB (by rw[bH,fQ];omega)];rfl
def Iy(Q:List cv):dt [gz Q]=Z (aI (Q.length:Int)):=by
 show Z (ak.im<|.int ((Q.map bS).length:Int))=_;rw[bH]
def oi(aa:List aA):Nat:=(max ((da aa).length/2) (if cu aa=[] then 0 else 1))
structure GC(aa:List aA)(Rg:List h8):Prop where
 n:Rg.length=oi aa
 w:∀o∈Rg,(∀h∈o,h∈aa)/\k3 o=ab/\2<=o.length/\o.length<=1000
 pm:(Rg.flatMap λo=>(e_ o).map hg).Perm (cu aa)
def Lg(ai:aa.Nodup)(e:cu aa=[]):da aa=[]:=List.filter_eq_nil_iff.mpr λh a=>by
 have:=rB ai a;rw[e]at this;have c:ey ([]:List cv) h=0:=rfl;rw[c]at this;rw[<-this];decide
def P5:(dO aa Rn).length<=2+aa.length:=by
 unfold dO;split
 ·exact nP 2 _
 ·have:(da aa).length<=aa.length:=lY _ _;omega
def Nr{ae:List aA}(ai:ae.Nodup)(e:∀c∈Q,c.1∈ae/\c.2∈ae):jJ ae (gR Q)=2*Q.length:=by
 rw[<-FR ai e];unfold jJ;congr 1;exact g_ λh Y=>yK Q h
def JT[DecidableEq Ry]{c:Ry}{C:List Ry}(e:c∈C):1<=cA c C:=by rw[<-h2];exact mQ.mpr e
def AB(ai:(Rn::p).Nodup)(v:∀h∈Rn::p,0<=h.1)(w:∀g∈Rn::p,∀f∈Rn::p,d0 (Rn::p) g f)(al:(Rn::p).length<=195):
  ∃Rg:List h8,l2 [aR (Rn::p)]=Z (hV Rg,[aR (Rn::p)])/\GC (Rn::p) Rg:=by
 generalize n:Rn::p=aa at *;have R:de aa dJ Rn:=⟨ai,λe=>by have:=v _ e;exact absurd this ∅,by rw[<-n];exact .head _,w⟩;have am:(cu aa).length<=4*aa.length:=tS aa;have le:=P5 (Rn:=Rn) (aa:=aa);have s:bZ 1 (bG 1 G.qy<|av (au 0) aE) [Z (aR aa),X,X]=Z (.bj,[Z (aR aa),Z<|gz<|cu aa,X]):=gF (e2 (Rq:=[.bk 0]) rfl rfl rfl (G1 ai (by omega)) rfl) (e0 rfl) rfl;have q:b3 (aL d_ (aj<|bT dt<|av (au 1) aE)<|aj<|aH<|.int 0) [Z (aR aa),Z<|gz<|cu aa,X]=Z (decide (((cu aa).length:Int)=0),[Z (aR aa),Z<|gz<|cu aa,X]):=gK (e9 (cc<|eY (b4 rfl rfl) rfl<|Iy _) rfl rfl rfl<|o4 _ _);by_cases a:cu aa=[]
 ·refine⟨[],?_,?_,(λo b=>by cases b),by rw[a];exact .refl _⟩
  ·rw[dj (by rw[a];rfl)]at q;unfold l2 vs;exact g5 (y:=[Z (aR aa),Z<|gz<|cu aa,X]) rfl (cI s<|Bi<|xB q rfl) rfl
  ·unfold oi;rw[aB a,Lg ai a];rfl
 ·rw[dv (λj=>a (s_.mp (by omega)))]at q;let z:aU:=[Z (aR aa),Z<|gz<|cu aa,X]
  let RA:aU:=[Z (aR aa),Z<|gz<|cu aa,Z<|gz<|hp dJ<|dO aa Rn]
  have x:bG 1 G.lG (av (au 0) aE) z=Z (aR<|dO aa Rn,z):=e2 (Rq:=[.bk 0]) rfl rfl rfl (by rw[<-n];exact Hz (by rw[n];exact ai) (by rw[n];omega)) rfl;have A:cn (aj<|bG 1 G.lG<|av (au 0) aE) z=Z (((dO aa Rn).map ag,X),z):=by
   unfold cn;rw[gd x];rfl
  have c4:cP 1 [] (cn<|aj<|bG 1 G.lG<|av (au 0) aE) (bu 0) dS G.uc z=Z (c0<|hp dJ<|dO aa Rn,z):=by
   have E:=jd (own:=1) (RC:=[]) (R4:=z) A (jO (c:=G.uc) (RD:=bu 0) (h:=dS) (own:=1) (aP:=[]) ag (λj=>bS (dJ,j)) (dO aa Rn) (λj S=>⟨[Z (.im<|ag j)],_,[Z (.im<|ag j)],rfl,rfl,jZ (b4 rfl<|b4 rfl rfl) rfl (fP rfl) rfl,rfl⟩) (by omega)) rfl;rw[E];unfold c0 hp;rw[gj];rfl
  have F:bZ 2 (bT ib<|av (aj<|cP 1 [] (cn<|aj<|bG 1 G.lG<|av (au 0) aE) (bu 0) dS G.uc) aE) z=Z (.bj,RA):=oa (eY (b4 (cc c4) rfl) rfl rfl) (e0 rfl) rfl;have r:(dJ::aa).Nodup:=e6.mpr ⟨R.Y,ai⟩;have u:∀c∈gx aa dJ Rn,c.1∈dJ::aa/\c.2∈dJ::aa:=λc H=>by
   rcases dY.mp H with e|e
   ·exact⟨.tail _ (dK.mp e).1,.tail _ (dK.mp e).2.1⟩
   ·let⟨j,aN,rfl⟩:=dZ.mp e;exact⟨.head _,.tail _<|nK R.f0 aN⟩
  have M:(hp dJ<|dO aa Rn).length=(dO aa Rn).length:=bH _;have lt:(gx aa dJ Rn).length=(cu aa).length+(dO aa Rn).length:=by
   show (cu aa++hp dJ (dO aa Rn)).length=_;rw[c5,M]
  have t:=Iu (ae:=dJ::aa) (Q:=gx aa dJ Rn) (EA _ _) r (by rw[dd];omega) u (by omega);let⟨D,an,I,k,l,J⟩:=Pg (ae:=dJ::aa) (W:=gR (gx aa dJ Rn)) (m:=dJ) (Q7:=ft aa dJ Rn) r (.head _) (λd S i L=>R.in1 (d:=d) (by
   exact JT L)) R.aN (by rw[Nr r u];omega) R.reach
  obtain⟨B,rfl⟩:∃B,D=dJ::B:=by
   cases D with
   |nil=>cases k
   |cons g B=>cases k;exact⟨B,rfl⟩
  have Rk:er aa dJ Rn B:=⟨R,l,J,a⟩;have gM:=Rk.Ny;refine⟨bY.dQ dJ B [],?_,?_,λo b=>⟨Rk.vw b,Rk.k3 b,Rk.two b,by have:=Rk.short b;omega⟩,Rk.pm⟩
  ·have N:=OQ (B:=B) (by omega) l;have O:aL dz (aj<|di<|av (aj<|aH<|.tup [.int (-1),.int<|-1]) aE) (au 0) RA=Z (aR (dJ::aa),RA):=e9 (cc<|jZ (b4 rfl rfl) rfl (fP rfl) rfl) rfl rfl rfl (Hc (by omega));have P:aL dz (au 1) (au 2) RA=Z (gz<|gx aa dJ Rn,RA):=iv (Ka (by omega));have T:bG 2 G.ov (av (aj<|aL dz (aj<|di<|av (aj<|aH<|.tup [.int (-1),.int<|-1]) aE)<|au 0)<|av (aj<|aL dz (au 1)<|au 2) aE) RA=Z (.dL<|cZ (dJ::aa)<|gR<|gx aa dJ Rn,RA):=e2 (Rq:=[.ck (aR (dJ::aa)),.ck<|gz<|gx aa dJ Rn]) (b4 (cc O)<|b4 (cc P) rfl) rfl rfl t rfl;have U:bG 2 G.pC (av (aj<|bG 2 G.ov<|av (aj<|aL dz (aj<|di<|av (aj<|aH<|.tup [.int (-1),.int<|-1]) aE)<|au 0)<|av (aj<|aL dz (au 1)<|au 2) aE)<|av (aj<|aH<|.tup [.int (-1),.int<|-1]) aE) RA=Z (aR (dJ::B),RA):=e2 (Rq:=[.ck (.dL<|cZ (dJ::aa)<|gR<|gx aa dJ Rn),.ck<|.im<|ag dJ]) (b4 (cc T)<|b4 rfl rfl) rfl rfl I rfl;unfold l2 vs;exact g5 (y:=RA) rfl (cI s<|cI (kz q rfl)<|cI F<|h7<|e2 (Rq:=[.ck (aR (dJ::B))]) (b4 (cc U) rfl) rfl rfl N rfl) rfl
  ·have C:=Rk.len;unfold oi;rw[aD a];unfold dO at C;split at C
   ·rename_i c;rw[c];have:([Rn,Rn]:List aA).length=2:=rfl;have:([]:List aA).length/2=0:=rfl;omega
   ·rename_i c;have:=pF.mpr c;omega
theorem C1:∀Rc:List h8,V.ct 7 (Rc.map dq)=ab
 |[]=>rfl
 |D::Rc=>by
  rw[bV,V.ct,C1 Rc];show (V.ct 6 (D.map ag)&&ab)=ab;rw[C9];rfl
def NU(Rg:List h8):gn (hV Rg) (hV Rg)=Z (.im<|.aG ax):=by
 show (if (V.ct 7 (Rg.map dq)&&V.ct 7 (Rg.map dq))=ab then Z (ak.im<|.aG<|!dU (Rg.map dq) (Rg.map dq)) else X)=_;rw[C1,aB<|show (ab&&ab)=ab from rfl,Gu];rfl
def NO(Rc:List h8):dt [hV Rc]=Z (aI (Rc.length:Int)):=by
 show Z (ak.im<|.int ((Rc.map dq).length:Int))=_;rw[bH]
theorem yF:∀Rc:List cv,V.ct 8 (Rc.map bS)=ab
 |[]=>rfl
 |D::Rc=>by rw[bV,V.ct,yF Rc];rfl
theorem An:∀Rc:List cv,dU (Rc.map bS) (Rc.map bS)=ab
 |[]=>rfl
 |c::Rc=>by
  rw[bV,dU,An Rc];show ((bU (ag c.1) (ag c.1)&&(bU (ag c.2) (ag c.2)&&ab))&&ab)=ab;rw[oz,oz,dj rfl,dj rfl];rfl
def GU(Q:List cv):gn (gG Q) (gG Q)=Z (.im<|.aG ax):=by
 let⟨Rc,Y,c⟩:=x7 Q;rw[c];show (if (V.ct 8 (Rc.map bS)&&V.ct 8 (Rc.map bS))=ab then Z (ak.im<|.aG<|!dU (Rc.map bS) (Rc.map bS)) else X)=_;rw[yF,aB<|show (ab&&ab)=ab from rfl,An];rfl
def Nq(Q:List cv):gn (gG Q) (.lst [])=Z (.im<|.aG<|!decide (Q=[])):=by
 let⟨Rc,S,c⟩:=x7 Q;rw[c];cases Rc with
 |nil=>rw[List.nil_perm.mp S];rfl
 |cons d p=>
  have ne:Q≠[]:=λa=>by rw[a]at S;exact absurd S.length_eq ↥0
  rw[dv ne];show (if (V.ct 8 ((d::p).map bS)&&ab)=ab then Z (ak.im<|.aG<|!dU ((d::p).map bS) []) else X)=_;rw[yF];rfl
abbrev yl(Rt:List Int)(n:Int)(e:ak)(aa:List aA)(RH RK F O A:Option ak):aU:=[Z (.cK<|Rt.map .int),Z<|aI n,Z e,Z<|aR aa,RH,RK,F,O,A]
theorem Ds{w Rz RM E RH RK F:Option ak}:∀(Rg:List h8) (a:List cv) (A:Option ak),(∀o∈Rg,o.length<=1000)->a.length+(Rg.flatMap λo=>(e_ o).map hg).length<=10000->
  ∃b,dn (bu 8) vR (Rg.map dq) [w,Rz,RM,E,RH,RK,F,Z<|c0 a,A]=Z (.bj,[w,Rz,RM,E,RH,RK,F,Z<|c0<|a++Rg.flatMap λo=>(e_ o).map hg,b])
 |[],a,A,_,_=>⟨A,by rw[List.flatMap_nil,b5];rfl⟩
 |o::Rg,a,A,c,d=>by
  rw[lE,c5]at d;let⟨b,e⟩:=Ds (w:=w) (Rz:=Rz) (RM:=RM) (E:=E) (RH:=RH) (RK:=RK) (F:=F) Rg (a++(e_ o).map hg) (Z<|.im<|dq o) (λr f=>c r<|.tail _ f) (by rw[c5];omega);let y:aU:=[w,Rz,RM,E,RH,RK,F,Z<|c0 a,Z<|.im<|dq o]
  have g:fM (o.map ag) (fV (o.map ag) (Z 1) X)=(e_ o).map λr=>.tup [ag r.1,ag r.2]:=by
   rw[r9,show (1:Int)=((1:Nat):Int) from rfl,vS,uQ];rfl
  have i:(e_ o).length<=1000:=by rw[uP];have:=c o (.head _);omega
  have c4:cP 2 [] (l0<|av (au 8)<|av (aj<|gr (au 8) (hM<|aH<|.int 1) hq) aE) (kx 2<|fl (bu 0)<|fl (bu 1) jq) dS G.sJ y=Z (c0<|(e_ o).map hg,y):=by
   have h:cP 2 [] (l0<|av (au 8)<|av (aj<|gr (au 8) (hM<|aH<|.int 1) hq) aE) (kx 2<|fl (bu 0)<|fl (bu 1) jq) dS G.sJ y=Z (.lst<|(e_ o).map λr=>bS<|hg r,y):=by
    refine jd (x:=(e_ o).map λr=>.tup [ag r.1,ag r.2]) (Y:=X) (z:=y) ?_ (jO (λr:bX×bX=>.tup [ag r.1,ag r.2]) (λr=>bS<|hg r) _ (λr W=>?_) (by omega)) rfl
    ·rw[<-g];exact y7 (b4 rfl<|b4 (cc<|uA rfl rfl rfl rfl rfl) rfl) rfl
    ·refine⟨[Z (.im<|ag r.1),Z<|.im<|ag r.2],_,[Z (.im<|ag r.1),Z<|.im<|ag r.2],rfl,rfl,?_,rfl⟩;unfold sJ;exact jZ (b4 (cc<|eY (b4 rfl<|b4 rfl rfl) rfl<|O5 r.1 r.2)<|b4 (cc<|eY (b4 rfl<|b4 rfl rfl) rfl<|OI r.1 r.2) rfl) rfl (fP rfl) rfl
   rw[h];unfold c0;rw[gj];rfl
  refine⟨b,?_⟩;rw[bV];refine nS (z:=y) (RA:=[w,Rz,RM,E,RH,RK,F,Z<|c0<|a++(e_ o).map hg,Z<|.im<|dq o]) rfl ?_ ?_
  ·unfold vR;exact kd (ll rfl rfl (gN (gd c4) rfl) rfl rfl (u_ (by omega)) rfl)
  ·rw[e,lE,a_]
def Nh{Rt:List Int}{n:Int}{RM E RH RK F O A:Option ak}(al:0<=n)(fd:n<3):∃RA am RR an ap as a1 a2 r,uu [Z (.cK<|Rt.map .int),Z<|aI n,RM,E,RH,RK,F,O,A]=Z (.bj,RA)/\RA=[Z (.cK<|Rt.map .int),am,RR,an,ap,as,a1,a2,r]:=by
 let⟨e,bd,j⟩:=GJ (Rt:=Rt) al ⋯;let⟨q,fn,be,W,W,I⟩:=jG (s:=503) (H:=8) (j.mono ⋯) ⋯ ⋯;obtain⟨H,bi,bm,im⟩:∃H:Int,0<H/\H<=140/\∀B,vInt [.im (.aG<|decide (q=0))]=Z B->cm (.lst [.int 60,.int 140]) B=Z (aI H):=by
  by_cases N:q=0
  ·rw[dj N];exact⟨140,by decide,by decide,λB y=>by cases y;rfl⟩
  ·rw[dv N];exact⟨60,by decide,by decide,λB y=>by cases y;rfl⟩
 obtain⟨bn,P⟩:∃B,vInt [.im (.aG<|decide (q=0))]=Z B:=by cases decide (q=0)<;>exact⟨_,rfl⟩
 have bs:=im bn P;let⟨k,aa,bv,Rb,ca,fr,up,⟨f0,R,cd⟩,fin⟩:=H2 (s:=3) bi bm (I.mono ⋯);have aT:aa.length<=195:=⋯
 let⟨C,rfl⟩:=j.lst;let⟨oq,rfl⟩:=I.lst;let⟨m,rfl⟩:=Rb.lst;have ce:aL d_ (aj<|bG 2 G.ff<|av (au 2)<|av (aj<|aH<|.int 8) aE) (aj<|aH<|.int 0) [Z (.cK<|Rt.map .int),Z<|aI n,Z<|.lst C,E,RH,RK,F,O,A]=Z (.im<|.aG<|decide (q=0),[Z (.cK<|Rt.map .int),Z<|aI n,Z<|.lst oq,E,RH,RK,F,O,A]):=
  q1 (gd<|e2 (Rq:=[.bk 2,.ck<|aI 8]) rfl rfl rfl be rfl) rfl rfl rfl (o4 q 0);have J:∀{b:bM}{Q8:Option (jT×aU)},b (yl Rt n (.lst m) aa RH RK F O A)=Q8->bE (bZ 2<|bG 2 G.oo<|av (au 0)<|av (au 1) aE) (bE (bZ 3<|bG 2 G.qA<|av (au 2)<|av (aj<|aL cm (aj<|eO<|av (aj<|aH<|.int 60)<|av (aj<|aH<|.int 140) aE)<|aj<|bT vInt<|av (aj<|aL d_ (aj<|bG 2 G.ff<|av (au 2)<|av (aj<|aH<|.int 8) aE)<|aj<|aH<|.int 0) aE) aE) b) [Z (.cK<|Rt.map .int),Z<|aI n,RM,E,RH,RK,F,O,A]=Q8:=λch=>
  cI (z:=[Z (.cK<|Rt.map .int),Z<|aI n,Z<|.lst C,E,RH,RK,F,O,A]) (gF (e2 (Rq:=[.bk 0,.bk 1]) rfl rfl rfl bd rfl) (e0 rfl) rfl) (cI (z:=yl Rt n (.lst m) aa RH RK F O A) (gF (e2 (Rq:=[.bk 2,.ck<|aI H]) (z:=[Z (.cK<|Rt.map .int),Z<|aI n,Z<|.lst oq,E,RH,RK,F,O,A]) (gN rfl<|gN (gd<|q1 (z:=[Z (.cK<|Rt.map .int),Z<|aI n,Z<|.lst C,E,RH,RK,F,O,A]) (gd rfl) (gd<|o5 (gN (gd ce) rfl) rfl P) rfl rfl bs) rfl) rfl rfl bv rfl) (e0 rfl) rfl) ch);have ai:aa.Nodup:=up.ai;let⟨Rn,p,i⟩:=tU ca;have ci:∀g∈aa,∀f∈aa,d0 aa g f:=λg cl f co=>Nz cd cl co;let⟨Rg,Q,Rk⟩:=AB (Rn:=Rn) (p:=p) (by rw[<-i];exact ai) (λh cr=>(fin h (by rw[i];exact cr)).1) (by rw[<-i];exact ci) (by rw[<-i];exact aT);rw[<-i]at Q Rk;have M:=IV ai (by omega) Rn;have t:=Au ai (by omega);have f1:(cu aa).length<=4*aa.length:=tS aa;have bw:=Rk.pm.length_eq;have jw:Rg.length<=1000:=by
  rw[Rk.n];unfold oi;have:(da aa).length<=aa.length:=lY _ _;split<;>omega
 let a (F O A:Option ak):aU:=yl Rt n (.lst m) aa (Z<|bo<|da aa) (Z<|gG<|cu aa) F O A
 have T:cm (aR aa) (aI 0)=Z (.im<|ag Rn):=by
  show (dB (aa.map ag) 0).map ak.im=_;rw[sf (u:=ag Rn) (j9 0) (by rw[i];rfl)];rfl
 have cs:∀o∈Rg,uB [Z (.im<|dq o),Z<|aR aa]=Z (.im<|.aG ab,[Z (.im<|dq o),Z<|aR aa]):=λo l=>by
  let⟨g,f,h,u⟩:=Rk.w o l;have c:=OT (aa:=aa) u (λR=>by rw[R]at h;exact absurd h ∅) g f;have db:dt [.im (dq o)]=Z (aI (o.length:Int)):=by
   show Z (ak.im<|.int ((o.map ag).length:Int))=_;rw[bH]
  have L:lH (aI (o.length:Int)) (aI 1)=Z (.im<|.aG ab):=congrArg (λf=>Z<|ak.im<|.aG f) (dj (by omega));unfold uB;exact Kt (KS (gK<|e2 (Rq:=[.bk 1,.bk 0]) rfl rfl rfl c rfl)<|gK<|e9 (cc<|eY (b4 rfl rfl) rfl db) rfl rfl rfl L)
 have ds:∀O A,cP 1 [3] (cn<|au 6) (bu 0) dS G.uB (a (Z<|hV Rg) O A)=Z (.lst<|Rg.map λ_=>.aG ab,a (Z<|hV Rg) O A):=λO A=>by
  refine jd (x:=Rg.map dq) (Y:=X) (z:=a (Z<|hV Rg) O A) rfl (jO dq (λ_=>.aG ab) _ (λo l=>?_) (by omega)) rfl;exact⟨[Z (.im<|dq o),Z<|aR aa],_,[Z (.im<|dq o),Z<|aR aa],rfl,rfl,cs o l,rfl⟩
 let⟨r,aV⟩:=Ds (w:=Z (.cK<|Rt.map .int)) (Rz:=Z (aI n)) (RM:=Z (.lst m)) (E:=Z (aR aa)) (RH:=Z (bo<|da aa)) (RK:=Z (gG<|cu aa)) (F:=Z (hV Rg)) Rg [] A (λo l=>(Rk.w o l).2.2.2) (by rw[bw,gZ];omega);have U:nU [c0 ([]++Rg.flatMap λo=>(e_ o).map hg)]=Z (gG<|cu aa):=(Qq (by rw[kU,bw];omega)).trans (congrArg Z (L1 (by omega) Rk.pm));generalize f2:c0 ([]++Rg.flatMap λo=>(e_ o).map hg)=dL at aV U;let d:aU:=a (Z<|hV Rg) (Z dL) r
 have RP:b3 (aL gn (aj<|bT nU<|av (au 7) aE)<|au 5) d=Z (ax,d):=gK (e9 (cc<|eY (b4 rfl rfl) rfl U) rfl rfl rfl<|GU _);have RJ:b3 (aL gn (aj<|bT dt<|av (au 6) aE)<|aj<|bT ka<|av (aj<|aL iN (aj<|bT dt<|av (au 4) aE)<|aj<|aH<|.int 2)<|av (aj<|bT vInt<|av (aj<|aL gn (au 5)<|aj<|eO aE) aE) aE) d=Z (ax,d):=by
  have RO:iN (aI ((da aa).length:Int)) (aI 2)=Z (aI<|((da aa).length:Int)/2):=J0 ∅ ∅;obtain⟨v,eq,ev⟩:∃v:Int,vInt [.im (.aG<|!decide (cu aa=[]))]=Z (aI v)/\v=if cu aa=[] then 0 else 1:=by
   by_cases e:cu aa=[]
   ·rw[dj e,aB e];exact⟨_,rfl,rfl⟩
   ·rw[dv e,aD e];exact⟨_,rfl,rfl⟩
  have ex:ka [aI (((da aa).length:Int)/2),aI v]=Z (aI (Rg.length:Int)):=by
   show Z (ak.im<|.int<|if v>((da aa).length:Int)/2 then v else ((da aa).length:Int)/2)=_;congr 3;rw[Rk.n,ev];unfold oi;by_cases e:cu aa=[]
   ·rw[aB e,aB e];split<;>omega
   ·rw[aD e,aD e];split<;>omega
  exact gK (e9 (cc<|eY (b4 rfl rfl) rfl<|NO Rg) (cc<|eY (b4 (cc<|e9 (cc<|eY (b4 rfl rfl) rfl<|GL<|da aa) rfl rfl rfl RO)<|b4 (cc<|eY (b4 (cc<|e9 rfl (cc<|Ho rfl rfl (fP rfl) rfl) rfl rfl<|Nq _) rfl) rfl eq) rfl) rfl ex) rfl rfl ((I2 _ _).trans (by rw[dj rfl];rfl)))
 refine⟨d,_,_,_,_,_,_,_,_,?_,rfl⟩;unfold uu;refine J ?_;refine cI (z:=a F O A) (PI (RO:=bo (da aa)) (RQ:=gG (cu aa)) (Rq:=[.ck (bo<|da aa),.ck<|gG<|cu aa]) (b4 (cc<|e2 (Rq:=[.bk 3,.ck<|.im<|ag Rn,.ck<|.im<|ag Rn]) (b4 rfl<|b4 (cc<|iv T)<|b4 (cc<|iv T) rfl) rfl rfl M rfl)<|b4 (cc<|e2 (Rq:=[.bk 3]) rfl rfl rfl t rfl) rfl) rfl (e0 rfl) (e0 rfl) rfl) ?_;refine cI (z:=a (Z<|hV Rg) O A) (oa (e2 (Rq:=[.bk 3]) rfl rfl rfl Q rfl) (e0 rfl) rfl) ?_;refine cI (kz (z:=a (Z<|hV Rg) O A) rfl rfl) ?_;refine cI (kz (z:=a (Z<|hV Rg) O A) (OY<|H7 (cc<|eY (b4 (cc<|ds O A) rfl) rfl<|KY Rg) rfl rfl) rfl) ?_;refine cI (z:=a (Z<|hV Rg) (Z<|c0 []) A) (oa (lV rfl rfl (fP rfl) rfl) (e0 rfl) rfl) ?_;refine cI (z:=d) (jj (Y:=X) (x:=Rg.map dq) rfl aV rfl) ?_;refine cI (kz (z:=d) (tQ RP RJ) rfl) ?_;exact kz (z:=d) (gK<|e9 (cc<|e2 (Rq:=[.bk 3]) rfl rfl rfl Q rfl) rfl rfl rfl<|NU Rg) rfl
def LD(Rt:List Int)(q:Rt.length<100000):∃t,oK [.cK (Rt.map .int)]=Z (.im<|.aG ab,t):=by
 let⟨Rw,aV,Rz,RM,E,RH,RK,F,O,A,rfl⟩:=r1 (RD:=bu 1) (f:=uu) (x:=fS 0 3) (λa y=>∃Rz RM E RH RK F O A,y=[Z (.cK<|Rt.map .int),Rz,RM,E,RH,RK,F,O,A]) (y:=[Z (.cK<|Rt.map .int),X,X,X,X,X,X,X,X]) ⟨X,X,X,X,X,X,X,X,rfl⟩
  (λa d y b d5=>by
   let⟨Rz,RM,E,RH,RK,F,O,A,rfl⟩:=d5;obtain⟨U,rfl⟩:a<3/\d=.int (0+(a:Int)):=by
    match a,b with
    |0,b=>exact⟨by decide,(Option.some.inj b).symm⟩
    |1,b=>exact⟨by decide,(Option.some.inj b).symm⟩
    |2,b=>exact⟨by decide,(Option.some.inj b).symm⟩
    |s+3,b=>cases b
   let⟨RA,r,RR,u,v,w,B,C,D,c,rfl⟩:=Nh (Rt:=Rt) (n:=0+(a:Int)) (RM:=RM) (E:=E) (RH:=RH) (RK:=RK) (F:=F) (O:=O) (A:=A) ⋯ ⋯;exact⟨[Z (.cK<|Rt.map .int),Z<|aI<|0+(a:Int),RM,E,RH,RK,F,O,A],.bj,_,rfl,c,.inl rfl,_,_,_,_,_,_,_,_,rfl⟩)
 let⟨Rg,Q,Rk⟩:=AB (Rn:=(5,5)) (p:=[]) ↥0 (λh e=>by rw[cV.mp e];decide) (λg i f j=>by rw[cV.mp i,cV.mp j];exact .self) ∅;have l:Rg=[]:=by
  have s:=Rk.n;have m:cu [((5,5):aA)]=[]:=by decide +kernel
  have k:da [((5,5):aA)]=[]:=by decide +kernel
  unfold oi at s;rw[k,aB m]at s;exact s_.mp s
 subst l;have o:bG 1 G.l2 (av (aj<|di<|av (aj<|di<|av (aj<|aH<|.int 5)<|av (aj<|aH<|.int 5) aE) aE) aE) [Z (.cK<|Rt.map .int),Rz,RM,E,RH,RK,F,O,A]=Z (hV [],[Z (.cK<|Rt.map .int),Rz,RM,E,RH,RK,F,O,A]):=
  e2 (Rq:=[.ck (aR [((5,5):aA)])]) (b4 (cc<|jZ (b4 (cc<|jZ (b4 rfl<|b4 rfl rfl) rfl (fP rfl) rfl) rfl) rfl (fP rfl) rfl) rfl) rfl rfl Q rfl;refine⟨[.cK (Rt.map .int)],?_⟩;unfold oK y9;exact g5 (y:=[Z (.cK<|Rt.map .int),Rz,RM,E,RH,RK,F,O,A]) rfl (cI (jj (Y:=X) (x:=fS 0 3) (z:=[Z (.cK<|Rt.map .int),X,X,X,X,X,X,X,X]) rfl aV rfl)<|h7<|e9 (cc o) (cc rfl) rfl rfl rfl) rfl
end G
namespace L2
end L2
set_option maxHeartbeats 4000000
namespace K28
open L2 PyProof.Rows
variable{C:PySem.W.OpenLaw}{N:ar}{h:eW}{n:Nat}{O:bp}
def d8(a:Nat):cJ:=(PySem.Challenge.pw_mowfloor_k28_strokes.main.body.getD a (.Pass ⟨0,0,0,0⟩))
structure fb(R:Φ)(aO:aC->Option af):Prop where
 xI:aO "all" = X
 Nl:aO "bool" = X
 xf:aO "dict" = X
 pa:aO "int" = X
 qa:aO "isinstance" = X
 hz:aO "len" = X
 y1:aO "max" = X
 EC:aO "min" = X
 qm:aO "range" = X
 J5:aO "reversed" = X
 vD:aO "sorted" = X
 iG:aO "tuple" = X
 C_:aO "zip" = X
 tL:t7 R aO "OUTSIDE" (-1) (-1)
def wk:e1 "all" = Z (.builtin "all"):=by decide +kernel
def GB:e1 "bool" = Z (.type "bool"):=by decide +kernel
def y0:e1 "dict" = Z (.type "dict"):=by decide +kernel
def n5:e1 "int" = Z (.type "int"):=by decide +kernel
def q8:e1 "isinstance" = Z (.builtin "isinstance"):=by decide +kernel
def hx:e1 "len" = Z (.builtin "len"):=by decide +kernel
def vq:e1 "max" = Z (.builtin "max"):=by decide +kernel
def zi:e1 "min" = Z (.builtin "min"):=by decide +kernel
def xa:e1 "sorted" = Z (.builtin "sorted"):=by decide +kernel
def ji:e1 "tuple" = Z (.type "tuple"):=by decide +kernel
def cB(a:eF n O):O.units+20<bJ:=by have:=a.un;omega
def xP(a:eF n O):O.units+30<bJ:=by have:=a.un;omega
abbrev u4:cJ:=d8 1
abbrev Pa:List aC:=["things","found","thing"]
abbrev vE:cJ:=d8 2
abbrev HQ:List aC:=["cell","row","column"]
abbrev tm:cJ:=d8 4
abbrev Ae:List aC:=["floor","cell"]
abbrev tC:cJ:=d8 6
abbrev CO:List aC:=["field","free","found","cell"]
abbrev sl:cJ:=d8 7
abbrev D5:List aC:=["field","a","b","free"]
abbrev ym:cJ:=d8 9
abbrev G6:List aC:=["cells","some","ways","cell","lane"]
abbrev xV:cJ:=d8 10
abbrev Mc:List aC:=["ways","start","found","going","cell","beside"]
abbrev xG:cJ:=d8 13
abbrev Mp:List aC:=["field","odd"]
abbrev xS:cJ:=d8 14
abbrev LP:List aC:=["walk","found","part","cell"]
abbrev uN:cJ:=d8 15
abbrev Kh:List aC:=["field","some","outward"]
abbrev wW:cJ:=d8 17
abbrev P9:List aC:=["_law_script","_law_turn","_law_seed","_law_cell","_law_bound"]
abbrev vg:cJ:=d8 18
abbrev Qu:List aC:=["_law_left_here","_law_many","_law_digit","_law_mixed"]
abbrev x6:cJ:=d8 19
abbrev Qe:List aC:=["_law_cell"]
abbrev xv:cJ:=d8 20
abbrev MU:List aC:=["_law_some","_law_begin","_law_there","_law_met","_law_waiting","_law_other"]
abbrev wg:cJ:=d8 21
abbrev MY:List aC:=["_law_left_here","_law_most","_law_cells","_law_k","_law_other"]
abbrev qo:cJ:=d8 22
abbrev xC:List aC:=["_law_left_here","_law_most","_law_way","_law_wide","_law_high","_law_cells","_law_k","_law_part_here","_law_row","_law_column"]
abbrev ux:cJ:=d8 23
abbrev FC:List aC:=["_law_field_here","_law_there","_law_found","_law_cell"]
abbrev sr:cJ:=d8 24
abbrev FO:List aC:=["_law_field_here","_law_a","_law_b","_law_many","_law_one","_law_other"]
abbrev xb:cJ:=d8 25
abbrev I5:List aC:=["_law_field_here","_law_thing","_law_cell"]
abbrev w8:cJ:=d8 26
abbrev Ov:List aC:=["_law_script","_law_turn","_law_left_here","_law_field_here","_law_odd_here","_law_some","_law_found","_law_over","_law_walk"]
section
variable{Ri:bz}{D:bg}{R:Φ}{aO:aC->Option af}{Rh:a4}
abbrev wm(h:eW)(N:ar):Prop:=fw h 1 "lookup" u4 N ["things"] 1 G.rl
def H8(P:eD h.K h.aO "lookup" u4 N ["things"])(Rc:fb h.K h.aO):wm h N:=by
 refine fy Pa P λai M O RT m j Q7 a=>?_;exact (bQ (dw 1 ai EO) (bQ (hv (RV:=[0]) gB rfl (eP<|aJ 0) (h9 2 ai) (cq<|nE i3<|og (cN 1) (h6<|cN 2)<|Gx<|cB a) ∅ (mF ∅))<|cq<|d2<|h6<|cN 1))
abbrev Gf(h:eW)(N:ar):Prop:=fw h 1 "around" vE N ["cell"] 1 G.yc
def IL(P:eD h.K h.aO "around" vE N ["cell"])(Rc:fb h.K h.aO):Gf h N:=by
 refine fy HQ P λai M O RT m j Q7 a=>?_;exact (bQ (dw 1 ai<|nx a (aJ 0) a9) (bQ (dw 2 ai<|nx a (aJ 0) a9) (cq (d2 (f_ (by exact (nq (hT (by exact (cG (cQ rT (aJ 1) a9)<|aJ 2))) (by exact (oD (hT (by exact (cG (aJ 1)<|cQ rT (aJ 2) a9))) (hT (by exact (cG (aJ 1)<|cQ fJ (aJ 2) a9))) (hT (by exact (cG (cQ fJ (aJ 1) a9)<|aJ 2))))))))))))
abbrev vB(h:eW)(N:ar):Prop:=fw h 2 "neighbours" tm N ["floor","cell"] 2 G.iV
def JA(P:eD h.K h.aO "neighbours" tm N ["floor","cell"])(Rc:fb h.K h.aO){c:ar}(d:Gf h c):vB h N:=by
 refine fy Ae P λai M O RT m j Q7 a=>?_;exact (cq (d2 (gS l7 rfl Rc.iG ji (bO (bl (o6 (own:=["beside"]) (RC:=[0]) rfl (lS (dT tm) Ae (by decide +kernel)) ∅ (eP<|bl<|dm d a<|bO<|aJ 1) (λb=>(fI 0)) (λb=>(oG<|eE (td<|cB a) (aJ 0) (aJ 1) rfl))<|λb=>(h6<|cN 0)))))))
abbrev Gb(h:eW)(N:ar):Prop:=fw h 3 "lanes" tC N ["field"] 1 G.qy
def IU(P:eD h.K h.aO "lanes" tC N ["field"])(Rc:fb h.K h.aO){d:ar}(e:wm h d){f:ar}(g:vB h f):Gb h N:=by
 refine fy CO P λai M O RT m j Q7 b=>?_;exact (bQ (dw 1 ai<|dm e b<|bO<|aJ 0) (bQ (dw 2 ai (f_ (by exact hE))) (bQ (hv (RV:=[0]) gB rfl (eP<|aJ 0) (oO (a:=3) ai rfl (Or.inr rfl) ∅) (cq (h5 (jV i6 iH we yV wF (cN 2) (bO (bl (o6 (own:=["beside"]) (RC:=[3]) rfl (lS (dT tC) CO (by decide +kernel)) ∅ (eP<|bl<|dm g b<|cG (aJ 1)<|aJ 3) (λc=>(fI 0)) (λc=>(oG<|eE (OH<|cB b) (aJ 1) (aJ 0)<|et _)) (λc=>(iF (by exact (cG (aJ 1)<|aJ 0)))))))))) ∅ (mF ∅))<|cq<|d2<|gS l7 rfl Rc.iG ji<|bO<|aJ 2)))
abbrev y_(h:eW)(N:ar):Prop:=fw h 3 "odd_cells" sl N ["field","a","b"] 3 G.qK
def ID(P:eD h.K h.aO "odd_cells" sl N ["field","a","b"])(Rc:fb h.K h.aO){d:ar}(e:wm h d){f:ar}(g:vB h f):y_ h N:=by
 refine fy D5 P λai M O RT m j Q7 b=>?_;exact (bQ (oS (a:=3) ai rfl (Or.inr rfl) (dm e b<|bO<|aJ 0) ∅) (cq (d2 (gS l7 rfl Rc.iG ji (bO (bl (o6 (own:=["cell"]) (RC:=[3,1,2]) rfl (lS (dT sl) D5 (by decide +kernel)) ∅ (eP<|aJ 0) (λc=>(fI 0)) (λc=>(oG (eE (hI<|cB b) (cQ gY (cQ fJ (bl<|eH hW Rc.hz hx<|bO<|bl<|dm g b<|cG (aJ 1)<|aJ 0) (bl (II (cB b) (hT (by exact (cG (aJ 2)<|aJ 3))) (aJ 0) Pe))) a9) a9<|et _)))<|λc=>(h6<|cN 0))))))))
abbrev Gs(h:eW)(N:ar):Prop:=fw h 1 "ways_by" ym N ["cells","some"] 2 G.ov
def Qa(P:eD h.K h.aO "ways_by" ym N ["cells","some"])(Rc:fb h.K h.aO):Gs h N:=by
 refine fy G6 P λai M O RT m j Q7 a=>?_;exact (bQ (dw 2 ai EO) (bQ (hv (RV:=[0,1]) gB rfl (eP<|aJ 0) (h9 3 ai) (cq (nE (f_ (by exact hE))<|og (cN 2) (h6<|cN 3)<|IM<|cB a)) ∅ (mF ∅)) (bQ (hv (RV:=[0,1]) gB rfl (eP<|aJ 1) (h9 4 ai) (bQ (h5<|yg (cB a) mh lu lP (cN 2) (rL (cN 4) nj)<|rL (cN 4) nj)<|cq<|h5<|yg (cB a) mh lu lP (cN 2) (rL (cN 4) nj)<|rL (cN 4) nj) ∅ (mF ∅))<|cq<|d2<|h6<|cN 2)))
abbrev Ck(h:eW)(N:ar):Prop:=fw h 1 "walk_along" xV N ["ways","start"] 2 G.pC
def JW(P:eD h.K h.aO "walk_along" xV N ["ways","start"])(Rc:fb h.K h.aO):Ck h N:=by
 refine fy Mc P λai M O RT m j Q7 a=>?_;exact (bQ (dw 2 ai (f_ (by exact hE))) (bQ (dw 3 ai (f_ (by exact (bO<|aJ 1))))<|bQ (Dz 1000000 gB (o_<|aJ 3)<|bQ (dw 4 ai<|nx a (aJ 3)<|bl<|NZ jk)<|cq<|gm (L7 (cB a) (cN 0)<|sq<|cN 4) (bQ (dw 5 ai<|Kg (cB a) sU su yX (cN 0)<|sq<|cN 4)<|bQ (h5<|yg (cB a) PySem.F.slot_list_remove PySem.F.type_list_remove (HB<|cB a) (cN 0) (sq<|cN 5)<|sq<|cN 4)<|cq<|h5<|jV i6 iH mh lu lP (cN 3)<|bO<|aJ 5)<|cq<|h5<|jV i6 iH mh lu lP (cN 2)<|bO<|bl<|zX i6 iH sU su yX<|cN 3)<|cq<|d2<|Mk rfl Rc.iG rfl Rc.J5<|bO<|aJ 2))
abbrev F4(h:eW)(N:ar):Prop:=fw h 4 "ends_of" xG N ["field"] 1 G.lG
def LI(P:eD h.K h.aO "ends_of" xG N ["field"])(Rc:fb h.K h.aO){b:ar}(c:y_ h b):F4 h N:=by
 refine fy Mp P λai M O RT m j Q7 a=>?_;exact (bQ (dw 1 ai<|dm c a<|oD (aJ 0) (dN a (aJ 0) a9)<|dN a (aJ 0) a9) (bQ (gm (eE (hI<|cB a) (bl<|eH hW Rc.hz hx<|bO<|aJ 1) a9<|et _) (cq (d2 (iF (by exact (cG (dN a (aJ 0) a9)<|dN a (aJ 0) a9))))) ip)<|cq<|d2<|h6<|cN 1))
abbrev Cn(h:eW)(N:ar):Prop:=fw h 1 "parted" xS N ["walk"] 1 G.t6
def IB(P:eD h.K h.aO "parted" xS N ["walk"])(Rc:fb h.K h.aO):Cn h N:=by
 refine fy LP P λai M O RT m j Q7 a=>?_;exact (bQ (dw 1 ai (f_ (by exact hE))) (bQ (dw 2 ai (f_ (by exact hE))) (bQ (hv (RV:=[0]) gB rfl (eP<|bl<|rn (aJ 0) (qM jk) p8) (h9 3 ai) (cq (gm (eE (hI<|cB a) (aJ 3) (bl<|tT rfl Rc.tL)<|et _) (bQ (h5<|jV i6 iH mh lu lP (cN 1)<|bO<|bl<|gS l7 rfl Rc.iG ji<|bO<|aJ 2) (cq (dw 2 ai (f_ (by exact hE)))))<|cq<|h5<|jV i6 iH mh lu lP (cN 2)<|bO<|aJ 3)) ∅ sh)<|cq<|d2<|gS l7 rfl Rc.iG ji<|bO<|aJ 1)))
abbrev Ed(h:eW)(N:ar):Prop:=fw h 5 "strokes" uN N ["field"] 1 G.l2
def L5(P:eD h.K h.aO "strokes" uN N ["field"])(Rc:fb h.K h.aO){b:ar}(bX:Gb h b){c:ar}(d:F4 h c){e:ar}(f:Cn h e){g:ar}(i:Ck h g){k:ar}(l:Gs h k):Ed h N:=by
 refine fy Kh P λai M O RT m j Q7 a=>?_;exact (bQ (dw 1 ai<|dm bX a<|bO<|aJ 0) (bQ (gm (eE (hI<|cB a) (bl<|eH hW Rc.hz hx<|bO<|aJ 1) a9<|et _) (cq (d2 (iF (by exact hE)))) ip) (bQ (dw 2 ai (gS l7 rfl Rc.iG ji (bO (bl (kB ["cell"] [] (eP<|bl<|dm d a<|bO<|aJ 0) (λn=>(fI 0)) (λn=>(iF (by exact (cG (bl<|tT rfl Rc.tL)<|aJ 0))))))))) (cq (d2 (dm f a (bO (bl (dm i a (cG (bl (dm l a (cG (cQ fJ (hT (by exact (bO<|bl<|tT rfl Rc.tL)))<|aJ 0)<|cQ fJ (aJ 1)<|aJ 2)))<|bl<|tT rfl Rc.tL))))))))))
abbrev Fe(h:eW)(N:ar):Prop:=fw h 1 "_law_left" wW N ["_law_script","_law_turn"] 2 G.oo
def MR(P:eD h.K h.aO "_law_left" wW N ["_law_script","_law_turn"])(Rc:fb h.K h.aO):Fe h N:=by
 refine fy P9 P λai M O RT m j Q7 a=>?_;exact (bQ (dw 2 ai<|iT fJ a9<|cQ j_ a9<|aJ 1) (bQ (hv (RV:=[0,1]) gB rfl (eP<|bl<|rn (aJ 0) p8<|qM jk) (h9 3 ai) (cq<|dw 2 ai<|iT gY (cQ fJ (cQ fJ (cQ j_ (aJ 2) a9)<|cQ gY (aJ 3) a9) a9) a9) ∅ sh) (bQ (dw 3 ai<|J2 (eE tZ (bl<|eH hW Rc.hz hx<|bO<|aJ 0) a9<|et _) (nx a (aJ 0)<|cQ gY (aJ 1)<|bl<|eH hW Rc.hz hx<|bO<|aJ 0) jk) (bQ (dw 4 ai<|iT j_ (cQ j_ (cQ tR a9 a9)<|cQ tR a9 a9)<|cQ tR a9 a9) (cq (d2 (f_ (by exact (oD (cQ j_ (cQ gY (aJ 3)<|aJ 4)<|bl<|gS qq rfl Rc.pa n5<|bO<|bl<|l9 Js (aJ 3) (cQ tR a9 a9)<|et _) (aJ 2) a9)))))))))
abbrev rM(h:eW)(N:ar):Prop:=fw h 1 "_law_pick" vg N ["_law_left_here","_law_many"] 2 G.ff
def Kp(P:eD h.K h.aO "_law_pick" vg N ["_law_left_here","_law_many"])(Rc:fb h.K h.aO):rM h N:=by
 refine fy Qu P λai M O RT m j Q7 a=>?_;exact (bQ (gm (eE tZ (dN a (aJ 0) a9) a9<|et _) (bQ (dw 2 ai<|iT gY (dN a (aJ 0) a9)<|aJ 1)<|bQ (nE (iT n8 (dN a (aJ 0) a9)<|aJ 1)<|og (cN 0) jk<|xm<|cB a)<|cq<|d2<|h6<|cN 2) ip)<|bQ (nE (iT fJ (dN a (aJ 0) a9) a9)<|og (cN 0) jk<|xm<|cB a)<|bQ (dw 3 ai<|iT gY (cQ j_ (cQ fJ (dN a (aJ 0) a9)<|cQ j_ (dN a (aJ 0) a9) a9) a9) a9)<|bQ (nE (iT gY (cQ j_ (aJ 3)<|cQ fJ (cQ gY (aJ 3) a9) a9) a9)<|og (cN 0) jk<|xm<|cB a)<|cq<|d2<|iT gY (cQ n8 (dN a (aJ 0) a9) a9)<|aJ 1)
abbrev qf(h:eW)(N:ar):Prop:=fw h 1 "_law_beside" x6 N ["_law_cell"] 1 G.iZ
def Ow(P:eD h.K h.aO "_law_beside" x6 N ["_law_cell"])(Rc:fb h.K h.aO):qf h N:=by
 refine fy Qe P λai M O RT m j Q7 a=>?_;exact (cq (d2 (f_ (by exact (nq (hT (by exact (cG (cQ rT (dN a (aJ 0) a9) a9)<|dN a (aJ 0) a9))) (by exact (oD (hT (by exact (cG (dN a (aJ 0) a9)<|cQ rT (dN a (aJ 0) a9) a9))) (hT (by exact (cG (dN a (aJ 0) a9)<|cQ fJ (dN a (aJ 0) a9) a9))) (hT (by exact (cG (cQ fJ (dN a (aJ 0) a9) a9)<|dN a (aJ 0) a9))))))))))
abbrev zw(h:eW)(N:ar):Prop:=fw h 2 "_law_part" xv N ["_law_some","_law_begin"] 2 G.tq
def Lr(P:eD h.K h.aO "_law_part" xv N ["_law_some","_law_begin"])(Rc:fb h.K h.aO){b:ar}(c:qf h b):zw h N:=by
 refine fy MU P λai M O RT m j Q7 a=>?_;exact (bQ (dw 2 ai (gS (wo rfl<|xP a) rfl Rc.xf y0 (bO (bl (kB ["_law_cell"] [] (eP<|aJ 0) (λd=>(fI 0)) (λd=>(iF (by exact (cG (aJ 0)<|bl i3))))))))) (bQ (dw 3 ai<|NM (cB a) (h6<|cN 1) i3) (bQ (dw 4 ai (f_ (by exact (bO<|aJ 1)))) (bQ (Dz 1000000 gB (eE (oV<|cB a) (aJ 4) (bl (f_ (by exact hE)))<|et _) (cq (hv (RV:=[0,1]) gB rfl (eP<|bl<|dm c a<|bO<|bl<|zX i6 iH sU su yX<|cN 4) (h9 5 ai) (cq<|gm (hG.n4<|u9 (eE (td<|cB a) (aJ 5) (aJ 2) rfl)<|Cv<|eE (w2<|cB a) (aJ 5) (aJ 3) rfl) (bQ (nE i3<|og (cN 3) (h6<|cN 5)<|Gx<|cB a)<|cq<|h5<|jV i6 iH mh lu lP (cN 4)<|bO<|aJ 5) ip) ∅ sh)))<|cq<|d2<|gS l7 rfl Rc.iG ji<|bO<|bl<|eH (Am rfl<|cB a) Rc.vD xa<|bO<|aJ 3))))
abbrev CZ(h:eW)(N:ar):Prop:=fw h 2 "_law_grown" wg N ["_law_left_here","_law_most"] 2 G.ow
def Oh(P:eD h.K h.aO "_law_grown" wg N ["_law_left_here","_law_most"])(Rc:fb h.K h.aO){c:ar}(b:rM h c){d:ar}(e:qf h d):CZ h N:=by
 refine fy MY P λai M O RT m j Q7 a=>?_;exact (bQ (dw 2 ai (f_ (by exact (bO (hT (by exact (cG a9 a9))))))) (bQ (hv (RV:=[0,1]) gB rfl (qX rfl Rc.qm<|bO<|bl<|dm b a<|cG (aJ 0)<|aJ 1) (h9 3 ai) (bQ (dw 4 ai<|nx a (bl<|dm e a<|bO<|dN a (aJ 2)<|bl<|dm b a<|cG (aJ 0)<|bl<|eH hW Rc.hz hx<|bO<|aJ 2)<|bl<|dm b a<|cG (aJ 0) a9)<|cq<|gm (hG.n4<|u9 (eE (w2<|cB a) (aJ 4) (aJ 2) rfl)<|u9 (E3 sd sd a9 (dN a (aJ 4) a9) a9)<|Cv<|E3 sd sd a9 (dN a (aJ 4) a9) a9) (cq<|h5<|jV i6 iH mh lu lP (cN 2)<|bO<|aJ 4) ip) ∅ yN)<|cq<|d2<|h6<|cN 2))
abbrev BO(h:eW)(N:ar):Prop:=fw h 3 "_law_field" qo N ["_law_left_here","_law_most"] 2 G.qA
def J9(P:eD h.K h.aO "_law_field" qo N ["_law_left_here","_law_most"])(Rc:fb h.K h.aO){e:ar}(d:rM h e){f:ar}(g:CZ h f){i:ar}(k:zw h i):BO h N:=by
 refine fy xC P λai M O RT m j Q7 b=>?_;exact (bQ (dw 2 ai<|dm d b<|cG (aJ 0) a9) (bQ (oS (a:=3) ai rfl (Or.inr rfl) (iT fJ a9<|bl<|dm d b<|cG (aJ 0) a9) ∅) (bQ (dw 4 ai<|iT fJ a9<|bl<|dm d b<|cG (aJ 0)<|bl<|eH (xF rfl<|cB b) Rc.y1 vq<|cG a9<|bl<|eH (Gl rfl<|cB b) Rc.EC zi<|cG a9<|cQ n8 (aJ 1)<|aJ 3) (bQ (DB (a:=5) (own:=["_law_k"]) (RC:=[3]) ai rfl (Or.inl rfl) rfl (lS (dT qo) xC (by decide +kernel)) ∅ (qX rfl Rc.qm<|bO<|cQ j_ (aJ 4)<|aJ 3) (λc=>(fI 0)) (λc=>Dw) (λc=>(iF (by exact (cG (cQ n8 (aJ 0)<|aJ 1)<|cQ gY (aJ 0)<|aJ 1)))) ∅) (bQ (gm (hG.n4<|rg (eE (hI<|cB b) (aJ 2) a9<|et _)<|ts<|eE (hI<|cB b) (aJ 2) a9<|et _) (cq (hv (RV:=[0,1]) gB rfl (qX rfl Rc.qm<|bO<|bl<|dm d b<|cG (aJ 0)<|cQ fJ a9<|cQ n8 (bl<|eH hW Rc.hz hx<|bO<|aJ 5) a9) (h9 6 ai) (cq<|h5<|jV i6 iH sU su Jz (cN 5)<|bO<|bl<|dm d b<|cG (aJ 0)<|bl<|eH hW Rc.hz hx<|bO<|aJ 5) ∅ yN)) (cq (gm (eE (hI<|cB b) (aJ 2) a9<|et _) (cq (DB (a:=5) (own:=["_law_cell"]) (RC:=[]) ai rfl (Or.inl rfl) rfl (lS (dT qo) xC (by decide +kernel)) ∅ (eP<|aJ 5) (λc=>(fI 0)) (λc=>(oG<|eE (hI<|cB b) (cQ j_ (cQ gY (dN b (aJ 0) a9) a9)<|cQ gY (cQ gY (dN b (aJ 0) a9) a9) a9) a9<|et _)) (λc=>(h6<|cN 0)) ∅))<|cq<|gm (eE tZ (aJ 2) a9<|et _) (cq<|dw 5 ai<|dm g b<|cG (aJ 0)<|aJ 1) ip))) (bQ (dw 7 ai<|dm k b<|cG (aJ 5)<|dN b (aJ 5)<|bl<|dm d b<|cG (aJ 0)<|bl<|eH hW Rc.hz hx<|bO<|aJ 5) (bQ (nE (kB ["_law_k"] [0] (qX rfl Rc.qm<|bO a9) (λc=>(fI 0)) (λc=>(nx b (bl (f_ (by exact (nq a9 (by exact (oD a9 a9 a9))))))<|bl<|dm d b<|cG (aJ 1) a9))) (HT rfl (rY (oO (a:=8) ai rfl (Or.inr rfl) ∅) (rY (oO (a:=9) ai rfl (Or.inr rfl) ∅) CG)))) (cq (d2 (gS l7 rfl Rc.iG ji (bO (bl (kB ["_law_cell"] [8,9] (eP<|aJ 7) (λc=>(fI 0)) (λc=>(iF (by exact (cG (cQ fJ (dN b (aJ 0) a9)<|aJ 1)<|cQ fJ (dN b (aJ 0) a9)<|aJ 2)))))))))))))))))
abbrev yo(h:eW)(N:ar):Prop:=fw h 2 "_law_lanes" ux N ["_law_field_here"] 1 G.nt
def Px(P:eD h.K h.aO "_law_lanes" ux N ["_law_field_here"])(Rc:fb h.K h.aO){d:ar}(e:qf h d):yo h N:=by
 refine fy FC P λai M O RT m j Q7 b=>?_;exact (bQ (oS (a:=1) ai rfl (Or.inr rfl) (gS (wo rfl<|xP b) rfl Rc.xf y0 (bO (bl (kB ["_law_cell"] [] (eP<|aJ 0) (λc=>(fI 0)) (λc=>(iF (by exact (cG (aJ 0)<|bl i3)))))))) ∅) (bQ (dw 2 ai (f_ (by exact hE))) (bQ (hv (RV:=[0]) gB rfl (eP<|aJ 0) (oO (a:=3) ai rfl (Or.inr rfl) ∅) (cq (h5 (jV i6 iH we yV wF (cN 2) (bO (bl (o6 (own:=["_law_other"]) (RC:=[1,3]) rfl (lS (dT ux) FC (by decide +kernel)) ∅ (eP<|bl<|rn (bl<|dm e b<|bO<|aJ 3) (qM jk) p8) (λc=>(fI 0)) (λc=>(oG<|eE (td<|cB b) (aJ 0) (aJ 1) rfl)) (λc=>(iF (by exact (cG (aJ 2)<|aJ 0)))))))))) ∅ (mF ∅))<|cq<|d2<|eH (Am rfl<|cB b) Rc.vD xa<|bO<|aJ 2)))
abbrev zV(h:eW)(N:ar):Prop:=fw h 3 "_law_odd" sr N ["_law_field_here","_law_a","_law_b"] 3 G.tc
def Mv(P:eD h.K h.aO "_law_odd" sr N ["_law_field_here","_law_a","_law_b"])(Rc:fb h.K h.aO){d:ar}(e:yo h d):zV h N:=by
 refine fy FO P λai M O RT m j Q7 b=>?_;exact (bQ (oS (a:=3) ai rfl (Or.inr rfl) (gS (wo rfl<|xP b) rfl Rc.xf y0 (bO (bl (kB ["_law_cell"] [1,2] (eP<|aJ 0) (λc=>(fI 0)) (λc=>(iF (by exact (cG (aJ 0)<|cQ fJ (bl<|gS qq rfl Rc.pa n5<|bO<|bl<|l9 (hI<|cB b) (aJ 0) (aJ 1)<|et _)<|bl<|gS qq rfl Rc.pa n5<|bO<|bl<|l9 (hI<|cB b) (aJ 0) (aJ 2)<|et _)))))))) ∅) (bQ (hv (RV:=[0,1,2]) gB rfl (eP<|bl<|dm e b<|bO<|aJ 0) (xH (h9 4 ai)<|h9 5 ai) (bQ (Dc (cB b) (cN 3) (cN 4) nj FD ∅) (cq (Dc (cB b) (cN 3) (cN 5) nj FD ∅))) ∅ sh) (cq (d2 (o6 (own:=["_law_cell"]) (RC:=[3]) rfl (lS (dT sr) FO (by decide +kernel)) ∅ (eP<|aJ 0) (λc=>(fI 0)) (λc=>(oG<|eE (hI<|cB b) (cQ gY (dN b (aJ 1)<|aJ 0) a9) a9<|et _))<|λc=>(h6<|cN 0))))))
abbrev F3(h:eW)(N:ar):Prop:=fw h 2 "_law_is_walk" xb N ["_law_field_here","_law_thing"] 2 G.qB
def P2(P:eD h.K h.aO "_law_is_walk" xb N ["_law_field_here","_law_thing"])(Rc:fb h.K h.aO){c:ar}(d:qf h c):F3 h N:=by
 refine fy I5 P λai M O RT m j Q7 a=>?_;exact (bQ (gm (hG.n4<|rg (pU<|o_<|bl<|rr rfl Rc.qa q8 rfl Rc.iG ji<|aJ 1)<|ts<|eE (hI<|cB a) (bl<|eH hW Rc.hz hx<|bO<|aJ 1) a9<|et _) (cq<|d2 i3) ip) (bQ (hv (RV:=[0,1]) gB rfl (eP<|aJ 1) (h9 2 ai) (bQ (gm (hG.n4<|rg (pU<|o_<|bl<|rr rfl Rc.qa q8 rfl Rc.iG ji<|aJ 2)<|rg (eE (oV<|cB a) (bl<|eH hW Rc.hz hx<|bO<|aJ 2) a9<|et _)<|ts<|eE (w2<|cB a) (aJ 2) (aJ 0) rfl) (cq<|d2 i3) ip)<|cq<|gm (pU<|o_<|bl<|eH (xu rfl) Rc.xI wk<|bO<|bl<|kB ["_law_number"] [] (eP<|aJ 2) (λb=>(fI 0))<|λb=>(Dv (pg<|rr rfl Rc.qa q8 rfl Rc.pa n5<|aJ 0)<|pg<|Ar<|NP<|pg<|rr rfl Rc.qa q8 rfl Rc.Nl GB<|aJ 0)) (cq<|d2 i3) ip) ∅ (mF ∅))<|cq<|d2<|eH (xu rfl) Rc.xI wk<|bO<|bl<|kB ["_law_one" ,"_law_other"] [] (Gm rfl Rc.C_<|cG (aJ 1)<|bl<|rn (aJ 1) (qM jk) p8) (λb=>(xH (fI 0)<|fI 1))<|λb=>(l9 (td<|cB a) (aJ 1) (bl<|dm d a<|bO<|aJ 0) rfl)))
abbrev GX(h:eW)(N:ar):Prop:=fw h 6 "law" w8 N ["_law_script"] 1 G.oK
def Ju(P:eD h.K h.aO "law" w8 N ["_law_script"])(Rc:fb h.K h.aO){e:ar}(f:Fe h e){g:ar}(i:BO h g){k:ar}(l:rM h k){n:ar}(o:yo h n){p:ar}(q:zV h p){r:ar}(c:Ed h r){s:ar}(t:F3 h s):GX h N:=by
 refine fy Ov P λai M O RT m j Q7 b=>?_;exact (bQ (hv (RV:=[0]) gB rfl (qX rfl Rc.qm<|bO a9) (h9 1 ai) (bQ (dw 2 ai<|dm f b<|cG (aJ 0)<|aJ 1) (bQ (oS (a:=3) ai rfl (Or.inr rfl) (dm i b (cG (aJ 2) (dN b (bl (f_ (by exact (cG a9 a9))))<|bl<|gS qq rfl Rc.pa n5<|bO<|bl<|l9 (hI<|cB b) (bl<|dm l b<|cG (aJ 2) a9) a9<|et _))) ∅) (bQ (Oz (a:=4) (v:=5) rfl ai rfl rfl ∅ rfl rfl (cG (bl<|dm q b<|oD (aJ 3) (dN b (aJ 3) a9)<|dN b (aJ 3) a9)<|bl<|dm o b<|bO<|aJ 3) ∅ ∅ rfl) (bQ (dw 6 ai<|dm c b<|bO<|aJ 3) (bQ (gm (pU<|o_<|bl<|rr rfl Rc.qa q8 rfl Rc.iG ji<|aJ 6) (cq<|d2 i3) ip) (bQ (gm (pU<|o_<|bl<|eH (xu rfl) Rc.xI wk<|bO<|bl<|kB ["_law_walk"] [3] (eP<|aJ 6) (λd=>(fI 0))<|λd=>(Dv (pg<|dm t b<|cG (aJ 1)<|aJ 0)<|pg<|Ar<|l9 tZ (bl<|eH hW Rc.hz hx<|bO<|aJ 0) a9<|et _)) (cq<|d2 i3) ip) (bQ (dw 7 ai (f_ (by exact hE))) (bQ (hv (RV:=[6,0]) gB rfl (eP<|aJ 6) (h9 8 ai) (cq (h5 (jV i6 iH we yV wF (cN 7) (bO (bl (kB ["_law_one" ,"_law_other"] [] (Gm rfl Rc.C_<|cG (aJ 8)<|bl<|rn (aJ 8) (qM jk) p8) (λd=>(xH (fI 0)<|fI 1)) (λd=>(iF (by exact (cG (bl<|eH (Gl rfl<|cB b) Rc.EC zi<|cG (aJ 0)<|aJ 1)<|bl<|eH (xF rfl<|cB b) Rc.y1 vq<|cG (aJ 0)<|aJ 1)))))))))) ∅ (mF ∅)) (bQ (gm (hG.n4 (rg (eE (oV<|cB b) (bl<|eH (Hq rfl<|cB b) Rc.vD xa<|bO<|aJ 7) (aJ 5)<|et _) (ts (eE (oV<|cB b) (bl<|eH hW Rc.hz hx<|bO<|aJ 6) (bl (eH (xF rfl<|cB b) Rc.y1 vq (cG (cQ n8 (bl<|eH hW Rc.hz hx<|bO<|aJ 4) a9) (bl (gS qq rfl Rc.pa n5 (bO (bl (l9 (oV<|cB b) (aJ 5) (bl (f_ (by exact hE)))<|et _))))))))<|et _)))) (cq<|d2 i3) ip)<|cq<|gm (eE (oV<|cB b) (bl<|dm c b<|bO<|aJ 3) (aJ 6)<|et _) (cq<|d2 i3) ip))))))))) ∅ yN) (cq (d2 (l9 (hI<|cB b) (bl (dm c b (bO (hT (by exact (bO (hT (by exact (cG a9 a9))))))))) (hT (by exact hE))<|et _))))
end
def all_mk{D:bg}{R:Φ}{e:a4}{aO:aC->Option af}{f n o p r s t u v w x y z A B E F H I J L:ar}(b:R.In e)(a:e.Ns dM aO)(M:aO "law" = Z (.ref f))(N:ee R "lookup" u4 n)(O:ee R "around" vE o)(P:ee R "neighbours" tm p)(Q:ee R "lanes" tC r)(S:ee R "odd_cells" sl s)(T:ee R "ways_by" ym t)(U:ee R "walk_along" xV u)(al:ee R "ends_of" xG v)(am:ee R "parted" xS w)(an:ee R "strokes" uN x)(ap:ee R "_law_left" wW y)(as:ee R "_law_pick" vg z)(a1:ee R "_law_beside" x6 A)(a2:ee R "_law_part" xv B)(bd:ee R "_law_grown" wg E)(be:ee R "_law_field" qo F)(bi:ee R "_law_lanes" ux H)(bm:ee R "_law_odd" sr I)(bn:ee R "_law_is_walk" xb J)(g:ee R "law" w8 L){i:ar}{bs bv:hU}{ca:Nat}{cd:Array (Option af)}(ce:Ψ R dM "OUTSIDE" = Z (Z<|.ref i))(ch:R.lookup i=Z ⟨.type "tuple",X,.seq #[.int (-1) bs,.int (-1) bv] ca,cd⟩)(ci:Ψ R dM "all" = Z X)(cl:Ψ R dM "bool" = Z X)(co:Ψ R dM "dict" = Z X)(cr:Ψ R dM "int" = Z X)(cs:Ψ R dM "isinstance" = Z X)(db:Ψ R dM "len" = Z X)(ds:Ψ R dM "max" = Z X)(dL:Ψ R dM "min" = Z X)(eq:Ψ R dM "range" = Z X)(ev:Ψ R dM "reversed" = Z X)(ex:Ψ R dM "sorted" = Z X)(fn:Ψ R dM "tuple" = Z X)(fr:Ψ R dM "zip" = Z X):
  ∃fd:gU,(∀(m:aq) (q:af),lI m fd ⟨[q],[]⟩ [("_law_script",q)])/\∀Rh:a4,R.In Rh->Rh.Ns dM aO->ih C.prog D R aO Rh hS 6 f fd ["_law_script"] (jM 1 G.oK):=by
 have Rc:fb R aO:=⟨ie b a ci,ie b a cl,ie b a co,ie b a cr,ie b a cs,ie b a db,ie b a ds,ie b a dL,ie b a eq,ie b a ev,ie b a ex,ie b a fn,ie b a fr,.mk' (ps b a ce) ch⟩;refine Oc g b a M (λ_ Y Y Y Y Y Y Y=>.of_eq rfl) λRh=>?_;let h:eW:=⟨C.prog,D,R,aO,Rh⟩
 have j:=H8 (h:=h) (N.dp b a) Rc;have f0:=IL (h:=h) (O.dp b a) Rc;have k:=JA (h:=h) (P.dC b a) Rc f0;have f1:=IU (h:=h) (Q.dp b a) Rc j k;have f2:=ID (h:=h) (S.rQ b a) Rc j k;have f4:=Qa (h:=h) (T.dC b a) Rc;have f8:=JW (h:=h) (U.dC b a) Rc;have ga:=LI (h:=h) (al.dp b a) Rc f2;have ge:=IB (h:=h) (am.dp b a) Rc;have gl:=L5 (h:=h) (an.dp b a) Rc f1 ga ge f8 f4;have go:=MR (h:=h) (ap.dC b a) Rc;have d:=Kp (h:=h) (as.dC b a) Rc;have c:=Ow (h:=h) (a1.dp b a) Rc;have gt:=Lr (h:=h) (a2.dC b a) Rc c;have g1:=Oh (h:=h) (bd.dC b a) Rc d c;have g2:=J9 (h:=h) (be.dC b a) Rc d g1 gt;have l:=Px (h:=h) (bi.dp b a) Rc c;have g3:=Mv (h:=h) (bm.rQ b a) Rc l;have hd:=P2 (h:=h) (bn.dC b a) Rc c;exact Ju (h:=h) (g.dp b a) Rc go g2 d l g3 gl hd
def walk{r:bz}{c:List aC}{f:(aC->Option af)->a4->Prop}{a:bg->a4->Prop}{u:DefRec}{R:rJ->Φ}(h:C.most=Z 63)(i:u.params.defaults=[])(k:∀(D:bg) (e:a4),a D e->(R D.params).In e)(l:∀o,qO (R o)=ab)(P:∀(D:bg) (aO:aC->Option af) (b:ar) (e:a4),(R D.params).In e->e.Ns dM aO->aO u.name=Z (.ref b)->
   ∃fd:gU,(∀(m:aq) (I:af),lI m fd ⟨[I],[]⟩ [("_law_script",I)])/\∀Rh:a4,(R D.params).In Rh->Rh.Ns dM aO->ih C.prog D (R D.params) aO Rh hS 6 b fd ["_law_script"] (jM 1 G.oK)):
  PySem.W.WalkO r c f a C.row.toRowW u [] (λN ae=>PySem.call N ae):=
 L2.Kf (s:=63) (n:=6) (d := "_law_script") (R9:=λ_=>hS) (R_:=λD=>jM 1 G.oK) h ∅ i ⟨rfl,by decide,by decide,rfl⟩ k P (λD j g Rt p q t=>HC (l D.params) j g Rt q t (G.LD Rt (EW p ∅))) λ_ Y Y Y Y v=>v
end K28
namespace PySem.W.Fast
def tw13117402308461983125:=(0)
def tw3534993056029105280:=(0)
def tw5868869673828974816:=(0)
def tw16593825195795963488:=(0)
def tw2023887230718113664:=(0)
def tw17599548040682664353:=(0)
def tw8918660421414495873:=(0)
def tw1532847747017550529:=(0)
def tw18374412057285147715:=(0)
def tw5933235718030933699:=(0)
def tw18136097834508042244:=(0)
def tw9226028531302448388:=(0)
def tw18400320148006893316:=(0)
def tw1106019989498513605:=(0)
def tw15356103722026568005:=(0)
def tw18083500069047575045:=(0)
def tw14475909347044394917:=(0)
def tw12099856727831275654:=(0)
def tw11185977185995899622:=(0)
def tw14688550010070526790:=(0)
def tw17679141885530933255:=(0)
def tw5103625088054742696:=(0)
def tw6689907049741537224:=(0)
def tw17074410795453447144:=(0)
def tw14770360147851232649:=(0)
def tw11644975779230830378:=(0)
def tw11515982729923239147:=(0)
def tw5396835510543038731:=(0)
def tw10176117665354243339:=(0)
def tw2040572513267439915:=(0)
def tw7162717445400055148:=(0)
def tw10267778512498556428:=(0)
def tw9434004207890597516:=(0)
def tw12603301610366392236:=(0)
def tw3335037088094480364:=(0)
def tw10682841958555946125:=(0)
def tw931555373142295757:=(0)
def tw10328148790136207117:=(0)
def tw15894773027699864302:=(0)
def tw63273494993888110:=(0)
def tw13935173145582679982:=(0)
def tw2132564352168150735:=(0)
def tw9154432441109482576:=(0)
def tw2728151782865439024:=(0)
def tw8961675967224759728:=(0)
def tw230190452817673008:=(0)
def tw17645844953525336113:=(0)
def tw10352805718659818290:=(0)
def tw13060658754876401843:=(0)
def tw14086263807000870356:=(0)
def tw5792253190811563508:=(0)
def tw10017904740456679573:=(0)
def tw364458252739729621:=(0)
def tw14593097313838029557:=(0)
def tw1086466605246400341:=(0)
def tw4683963101575041238:=(0)
def tw5767472466095501046:=(0)
def tw1819868049947809590:=(0)
def tw13323920468843924375:=(0)
def tw13952102877164974104:=(0)
def tw10954855899800584088:=(0)
def tw8804946217772013017:=(0)
def tw5094153650239420602:=(0)
def tw9051103634056837306:=(0)
def tw14099199858170383962:=(0)
def tw11848089498606114746:=(0)
def tw2526304771269364763:=(0)
def tw17889966762199243931:=(0)
def tw13725806089206502011:=(0)
def tw11845656627467876315:=(0)
def tw731068922340566556:=(0)
def tw3912583797132110844:=(0)
def tw11260155175524979965:=(0)
def tw18064341297115402813:=(0)
def tw5126317061886611005:=(0)
def tw17832000436336289630:=(0)
def tw11365693133860641343:=(0)
def tw18336842252824473151:=(0)
def tw17340468880828810879:=(0)
def tw4103732660579747583:=(0)
end PySem.W.Fast
end
open PySem PySem.W PyProof.Rows
set_option maxRecDepth 100000 in
set_option maxHeartbeats 0 in
theorem PySem.Challenge.cw_mowfloor_k28_strokes_holds : PySem.Challenge.rw_mowfloor_k28_strokes.Holds := by
  w_on; o_law; k_head; (case hw => w_witness2)
  k_fill
  refine K28.walk (C := PySem.Challenge.rw_mowfloor_k28_strokes) rfl rfl (fun w h Y => PySem.W.kIn_of Y) ?hK ?F
  case hK => intro p; rfl
  case F =>
    intro w mg fa h KX G hmg
    apply K28.all_mk KX G hmg
    iterate 20 (apply L2.BL; iterate 4 k_is)
    iterate 15 k_is
