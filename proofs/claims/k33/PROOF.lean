import PyProof.Rows.All
import Wide.All
import OpenK.AllK
import Wide.FinOn
import Lean
import PyProof.EqAt
import PyProof.EqKinds
import PyProof.TupleCall
import PyProof.IsiNone
import PyProof.NeKinds
import PyProof.MaxThree
import PyProof.Rows.SetFrom
import PyProof.WalksMore
import PyProof.CallStr
import KE.KRevIter
import PySem.Challenge.RW_mowfloor_k33_ways_apart
set_option maxHeartbeats 4000000
set_option Elab.async false
set_option compiler.extract_closed false
open List (range range')
open Nat (beq)
noncomputable section
local macro_rules|`(∅)=>`(by decide)
local macro_rules|`(⇑$e)=>`(by simpa using $e)
local macro_rules|`(↥$_)=>`(by simp)
local macro_rules|`(tactic|let $p:term:=$e)=>do
 let q:=p.raw
 let X (s:Lean.Syntax):=s.isOfKind ``Lean.Parser.Term.explicit
 let I (s:String):=Lean.mkIdent (.mkSimple s)
 let l:=(if X q then q[1] else q)[1].getSepArgs
 let n:=l.size
 let j:=if X q then 0 else ((l.findIdx? X).map (·+1)).getD 99
 let mut b:Array Lean.Ident:=#[]
 let mut t:Array (Lean.TSyntax `tactic):=#[]
 let w:=I "ζ"
 let E:=e.raw
 let u:=E.getId
 let c:=j<99&&E.isIdent&&l.any fun s=>s.getId==u||s[1].getId==u
 let h:=I "ξ"
 let u:=u.toString
 let u:=if u.startsWith "ζ" then u else "ζ"
 let d:Lean.Term:=if c then h else e
 let r ←if c then `(tactic|(revert $(⟨e⟩):ident;intro $h:ident)) else `(tactic|skip)
 if j<99&&E.isIdent then t:=t.push (←`(tactic|try clear $(⟨d⟩):ident))
 for i in [0:n] do
  let s:=if i+1==j then l[i]![1] else l[i]!
  let z:=I s!"{u}{i}"
  if s.isIdent&&(j==99||s.getId != `rfl) then b:=b.push ⟨s⟩
  else
   b:=b.push z
   if s.isIdent then t:=t.push (←`(tactic|subst $z))
   else if !s.isOfKind ``Lean.Parser.Term.hole then t:=t.push (←`(tactic|let $(⟨s⟩):term:=$z))
 let A:=b.extract j n
 let B:=b.extract 0 j
 let k:=I s!"xE{j}"
 if j==99 then `(tactic|(obtain ⟨$[$b:ident],*⟩:=$e;$t;*)) else if j==0 then `(tactic|($r;refine $(I s!"xA{n}") ($d :) fun $b* =>?_;$t;*)) else if j+1==n then `(tactic|($r;refine $k ($d :) fun $b* =>?_;$t;*)) else `(tactic|($r;refine $k ($d :) fun $B* $w=>?_;refine $(I s!"xA{n-j}") $w fun $A* =>?_;clear $w;$t;*))
local macro_rules|`(command|def $i:declId $s:optDeclSig:=$v)=>if v.raw.isOfKind ``Lean.Parser.Term.paren then `(command|noncomputable def $i $s:optDeclSig:=$v) else (·.raw.rewriteBottomUp (·.setInfo .none))<$>`(command|theorem $i $(⟨.node .none ``Lean.Parser.Command.declSig #[s.raw[0],s.raw[1][0]]⟩):declSig:=$v)|`(command|def $i:declId $s:optDeclSig $v:matchAlts)=>`(command|noncomputable def $i $s:optDeclSig $v:matchAlts)|`(command|@[simp] def $i:declId $s:optDeclSig:=$v)=>`(command|@[simp] noncomputable def $i $s:optDeclSig:=$v)|`(command|@[simp] def $i:declId $s:optDeclSig $v:matchAlts)=>`(command|@[simp] noncomputable def $i $s:optDeclSig $v:matchAlts)|`(command|abbrev $i:declId $s:optDeclSig:=$v)=>`(command|noncomputable abbrev $i $s:optDeclSig:=$v)
local macro_rules|`(⋯)=>`(by lia)
open PySem renaming wpAny_bind->av,wpAny_pure->aR,wpAny_holding->e3,wpAny_newObj_type->hM,wpAny_seqItems->ha,wpAny_call_entry->iB,wpAny_callSpecial?_slot->lU,codeAny_builtin->i4,wpAny_field->hg,wpAny_mono->gS,plainId_quiet->jq,wpAny_truthy_bool->ly,wpAny_typeNameOfWhole_keyiter->tI,wpAny_forIn_list->mA,wpAny_rule->i5,wpAny_setField_rec->oa,wpAny_specialOf->l9,wpAny_passesOwn->m3,wpAny_Call_Name_kw->qI,wpAny_pyIter_list->qm,wpAny_setState_of->pJ,wpAny_letGo->mE,wpAny_tryCatch->pe,builtinLookup_eq_fast->vL,wpAny_isInstance->tn,wpAny_attempt->qC,wpAny_updateSeq_pair->xt,wpAny_execs_nil->rD,codeAny_mono->rj,wpAny_setField->sS,wpAny_dictEntries->xg,wpAny_of_eq->qV,wpAny_standAt->r8,wpAny_onRaise->tV,noFill_tuple_add->we,wpAny_pyNext_list_item->DP,call_meets->p4,richCompare_meets_room->Eu,wpAny_dictEpoch->vB,typeLookup_type->wy,wpAny_updateSeq->vA,codeAny_of_tree->wm,wpAny_pyNext_list_end->Ed,wpAny_notOrdered_dict->AN,wpAny_isOneOf_keyiter->yO,seqIndex_of->sv,isSubtype_type->xc,seq_tuple_add->vf,wpAny_newList->vy,wpAny_dictSet_heap->Co,eqIsQuiet_byValue->y0,wpAny_assign_Name->Ex,concat_meets->vR,wpAny_sequenceKey->Fl,seqIndex_neg->v9,slot_list_getitem->Cx,list_append->Ee,wpAny_storeSet_of->yV,wpAny_pyHash_int->AL,wpAny_pyHash_str->B2,wpAny_execs_cons->EX,wpAny_pyIter_zip->Fm,sizeLine_eq->xa,wpAny_Name->u6,wpAny_fieldsOf->Dq,isSubtype_stop->E2,wpAny_newTuple->A0,callType_codes->Cg,wpAny_runValue->Dp,evalPart_none->Cw,call_list_seq->Ds,wpAny_handled->CJ,intBits_le_64->ED
open Option renaming bind_eq_some_iff->bD,map_eq_some_iff->cu,bind_some->qW,isSome_map->t_,map_some->rQ,isSome_iff_exists->Dz,getD_some->uF,getD_none->B6
open List renaming append_assoc->bz,getD_eq_getElem?_getD->cx,length_map->bq,size_toArray->cB,perm_append_comm->c4,mem_singleton->cV,append_nil->cD,getElem?_eq_getElem->eb,mem_cons->cj,mem_append_right->dP,mem_append_left->dQ,nodup_append->dp,map_cons->cH,getElem?_eq_some_iff->e9,length_append->dF,mem_map->cJ,pairwise_singleton->fi,take_append_drop->fc,mem_append->dK,length_cons->er,mem_of_getElem?->fu,getElem?_map->eG,length_singleton->gq,getElem?_append_left->ij,mem_range->eX,drop_eq_getElem_cons->i2,map_append->fp,getElem?_append_right->jo,pairwise_cons->gE,length_take->f5,length_drop->gb,mem_filter->gn,length_range->hb,lookup_cons->ib,mem_cons_of_mem->jT,nodup_nil->hi,map_map->gs,nodup_cons->iw,all_eq_true->iI,nodup_iff_pairwise_ne->nk,mem_iff_getElem->k5,eq_nil_of_length_eq_zero->oR,pairwise_iff_getElem->me,not_mem_nil->i9,mem_cons_self->kr,mem_of_mem_drop->lX,find?_cons->jm,drop_of_length_le->mS,pairwise_map->kx,map_drop->iX,map_take->iJ,length_nil->jI,getElem?_drop->lI,getElem?_set_ne->mC,mem_of_mem_take->nr,getElem?_take->mw,drop_zero->kE,foldl_cons->lP,map_congr_left->oK,length_pos_iff->n7,take_of_length_le->rt,mem_nil_iff->m_,length_filter_le->rh,getElem?_zip_eq_some->uq,getElem_drop->ot,ext_getElem?->pb,any_cons->k_,eraseIdxIfInBounds_toArray->u0,filterMap_cons->qo,drop_drop->mK,getElem?_set_self->tj,getElem?_eq_none->tB,take_sublist->pM,flatMap_cons->q_,getElem?_of_mem->rR,perm_ext_iff_of_nodup->yt,cons_append->qt,take_length->pw,any_eq_true->qN,length_reverse->sX,mem_filterMap->t6,getElem_take->sd,drop_take->qp,drop_sublist->tG,take_succ_eq_append_getElem->yK,pairwise_lt_range->uK,getElem?_toArray->w_,nodup_range->tQ,getElem_mem->rx,any_toArray->tD,forIn_cons->sP,take_take->ru,take_zero->sY,setIfInBounds_toArray->Bl,zip_cons_cons->yi,getLast?_eq_getElem?->Ak,reverse_cons->yk,foldl_append->wd,drop_length->w0,zipIdx_cons->xI,cons_ne_nil->uD,length_pos_of_mem->Cj,of_mem_zip->yg,length_set->x3,nil_append->uQ,length_zip->wF,range_succ->xQ,dropLast_eq_take->yF,pairwise_append->Fs,extract_toArray->zo,map_id->sL,getLast?_concat->Fh,mem_map_of_mem->BI,reverse_append->CW,zip_nil_right->D9,ne_nil_of_mem->EF,all_map->vQ,getElem?_set->AE,set_set->xW,any_map->xV,getElem_inj->B1,map_toArray->Fy,ext_getElem->Ar,getElem_map->zz,filter_cons->De,countP_cons->Fb,mem_flatMap->y6,zipIdx_nil->Au,zip_append->Ao,forIn_nil->A1,set_comm->B4
open PySem.Heap renaming get?_push_of_some->b3,get?_push_size->c9,lt_size->bZ,get?_update_other->jQ,get?_update_self->n3,size_push->mG,get?_none_of_le->xw
open Nat renaming le_refl->bf,ne_of_lt->c2,lt_of_lt_of_le->eZ,le_trans->eU,lt_or_ge->e5,zero_le->fv,le_of_ble_eq_true->mn,le_add_right->lR,lt_irrefl->kh,lt_trichotomy->m7,lt_succ_self->oD,le_of_lt_succ->qz,le_of_lt->my,ne_of_gt->mM,add_lt_add_iff_right->xd,min_eq_left->qb,lt_of_le_of_lt->uj,lt_trans->nA,le_of_not_lt->sU,add_assoc->qx,not_lt_zero->rz,lt_add_of_pos_right->C5,sub_self->sA,eq_of_beq_eq_true->Dx,not_lt->tP,eq_zero_or_pos->yL,succ_pos->xy,lt_succ_of_le->DS,le_zero->wq,add_zero->Bc,add_comm->BG,min_self->zv,le_succ->DU,mod_lt->z0
open PySem.W renaming kasC_pure->a8,kasC_bind->a_,mg_none_of->g7,kasC_range->fj,kasC_modify->kd,mg_of->lr,kasC_get->jw,kasC_lift->m1,cellsFrom_some->CV,kat_item->tr,kas_swaps_map->AM
open Bool renaming and_eq_true->cG,false_ne_true->df,false_eq_true->gp,not_eq_true'->jC,not_true->nZ,eq_iff_iff->qK,or_eq_true->vl,false_or->zO,and_true->CT,true_bne->zc,true_and->B_,true_or->B0
open Array renaming length_toList->di,getElem?_toList->eu,getElem?_eq_getElem->mj,getElem?_eq_some_iff->nX,ext'->jM,forIn_toList->rB,toList_filterMap->yd,getD_eq_getD_getElem?->zr,perm_iff_toList_perm->Bg,getElem_toList->yC,size_map->uX,mem_toList_iff->Fw,toArray_toList->CX,toList_push->EJ
open List.Perm renaming append_left->dT,append_right->e8,map->u4,of_eq->zA,eq_of_pairwise->Jt,cons_inv->K3
open Classical renaming byContradiction->ko
open PySem.Around renaming under_plainId->jb
open PySem.PassesOwn renaming never->hK
open PyProof.Rows renaming slot_tuple_getitem->o1,callWith_type1->oX,callWith_builtin1->DA,subscriptTail_builtinR->B5,entry_tuple_getitem->zR,args_tuple_getitem->DK,get?_update_seq->C7,entry_list_sort->E4,slicePart_none->CL,elem'_eq->sO,slot_list_sort->BO,args_list_sort->Cf,tupleItemsOf_->zX,listUpdate_at->B3,plain_sorted->Cc,entry_sorted->Ac,args_sorted1->AX,lt_int->Kd,gt_int->JI
open PySem.F renaming plainAttrs_list->mT,slot_dict_keyiterator_next->qq,called_set->lj,slot_list_append->pX,type_list_append->qG,slot_tuple_iterator_next->uw,slot_tuple_hash->q1,args_tuple_add_2->xF,slot_list_getattribute->vT,entry_tuple_add->wR,slot_tuple_add->wN,args_dict_keyiterator_next_1->E5,entry_dict_keyiterator_next->z4,args_tuple_iterator_next_1->DT,slot_zip_next->r5,entry_tuple_iterator_next->Ag,plain_set_new->BM,slot_list_pop->Ca,type_list_pop->D_,args_list_append_2->Bz,called_tuple->wO,entry_list_append->Ej,slot_list_append->zT,args_zip_next_1->Fu,plain_list_iadd->EM,plain_tuple_new->yw,entry_list_pop->CZ,slot_dict_iter->EN,entry_zip_next->Bb,slot_list_pop->EB
open Int renaming emod_lt_of_pos->kY,emod_nonneg->jZ,le_refl->kW,toNat_natCast->qU,add_sub_cancel->ub,sub_add_cancel->E9,le_trans->uI,ediv_nonneg->CH,not_lt->wV,mul_le_mul->Ce,mul_one->Fz,mul_pos->EW
open PySem.Heap.SameBut renaming update->oh
open PyProof.Rows.F renaming plain_set_update_loop->xo,entry_set_update_loop->Eg
open Ne renaming symm->fz
open PySem.Obj renaming data_mapFields->sV,isFreed_of_fields->An,cls_mapFields->zf
open Prod renaming ext_iff->pB,ext->Cn
open PySem.Calls renaming Name_function_global->BH,spliced_cons->ym,call_function_entry->Cy,spliced_nil->uV,callWith_builtin->ET
open PySem.AutoSeq1 renaming sub_tuple_tuple->Bh
open PySem.SetTable renaming toList_insertAt->Bx
open List.Pairwise renaming sublist->D3,filter->yU,filterMap->Lk,imp₂->IA,map->MT
open PySem.SeqAt.EqAt renaming int_str->Dk,str_int->zN,none_tuple->NP,bool_tuple->NX,tuple_none->HW,tuple_bool->Pg,none_bool->LI,bool_none->N1,bool_bool->NO,int_tuple->JM,str_tuple->Kc,tuple_int->Jp,tuple_str->KY,none_int->Gz,none_str->K1,bool_int->PF,bool_str->KH,int_none->Il,int_bool->Jl,str_none->Nl,str_bool->PG,int_int->Kr,str_str->Ms,of_refs->MV
open PySem.SeqAt.RcAt renaming tuples->BF,lists_lengths->Mc,none_tuple->G2,bool_tuple->HZ,tuple_none->GF,tuple_bool->GL,none_none->Ic,none_bool->Gn,bool_none->OK,bool_bool->H5,int_tuple->J7,str_tuple->Gw,tuple_int->MN,tuple_str->Mt,none_int->Nr,none_str->F2,bool_int->H6,bool_str->LQ,int_none->Iz,int_bool->Ip,str_none->F8,str_bool->KU,int_int->OM,int_str->Ib,str_int->IC,str_str->IL,lists->GV
open PySem.IsL renaming update->AG
open PySem.SeqAt.RcNeAt renaming lists_lengths->JO,none_tuple->Lv,bool_tuple->Jc,tuple_none->IZ,tuple_bool->Kn,none_none->Hj,none_bool->Kk,bool_none->Mh,bool_bool->Li,int_tuple->HB,str_tuple->ND,tuple_int->FZ,tuple_str->ID,none_int->Im,none_str->OB,bool_int->JT,bool_str->G1,int_none->MI,int_bool->Gv,str_none->IM,str_bool->OE,int_int->Mf,int_str->LH,str_int->FH,str_str->JF,tuples->Kg,lists->NJ
open PySem.W.Looks renaming of_pure->Az
open Prod.mk renaming injEq->BB
open List.cons renaming injEq->Nk
open PySem renaming Scope->gf,Str->aC,Heap->aV,Value->ae,CmpOp->jV,Sem->dA,Addr->ao,Stmt->cK,Expr->bo,Obj->a0,Shared->ah,Around->bj,World->bc,Program->bA,Builtin->bl,cLine->bL,model->aN,Tok->hq,Paired->d1,sysModules->i1,mainGlobals->dh,builtinsNs->w6,bootBuiltins->ez,Env->ew,GenState->oF,Model->gO,eval->b_,isTrue->oG,backTo->gz,starEach->bU,swapsWith->mJ,assign->hJ,assignInOrder->AD,assignEach->eT,setItem->sC,swapsWithSole->DE,swappedStores->Ah,PassesOwn->rb,pyNext->gx,letOwnedTupleGo->ro,pyIter->p_,rawInt->jS,Walks->kR,foldedSetIterable->lM,Operator->x9,binaryOp->fG,compareOp->d4,behindInMarks->oM,recursionLimit->Af,Result->n8,FuncData->gh,BindsTo->l6,bindArgs->iO,Keyword->qB,NameKind->dd,cellsFrom->uG,richCompare->mH,IsPart->j2,getItem->lu,typeLookup->tS,seqIndex?->x_,sliceBounds->mX,PlainAttrs->si,typeOf->rr,attributeBase->rM,valueAt->ml,atKey->kO,Params->rX,callerA->mv,cellOf->rF,compEnvC->rO,comprehension->u9,newList->qJ,newExc->s7,newTuple->x5,firstArgMember->r1,field->lC,seqItems?->oY,ZipApart->tT,IsZip->iZ,IsPair->hO,shortFactorBits->tO,getattributeRaised->zQ,entryFor->wk,PyData->rd,SetTable->aP,hashByValue->sj,ofAClassStatement->r0,searchCouldBeSeen->Fg,carriedByValue->E_,setSearchFrom->Ef,checkBuiltinCall->y5,ItemsOf->pT
open Bool renaming true->X,false->aq
open Option renaming some->Z,none->Y
open PyProof.Rows renaming IsTup->ny,AllBare->kU,envOfC->iP,subscriptTail->y7,IntsAre->qy,bubble->p7,SortKind->fZ,Keyed->a9,SortSt->br,pendingOf->hh,failedOf->ho,mergeAt'->rT,ltAt'->m8,reverseSlice'->q5,seqObj->fQ,keyKind'->wo,tuples'->rm
open PySem.W renaming WData->p0,WShape->pE,kas_rev->lb,kas_cmp->eK,kas_item->a7,kas_st->rA,Frag->Φ,nsIn->Ψ,fnOf->Ξ,keepIn->Θ,codeIn->Δ,methodObj->Γ
open PySem
abbrev aE:=@if_pos
abbrev aI:=@if_neg
abbrev cW:=@decide_eq_false
abbrev dk:=@decide_eq_true
abbrev kb:=@decide_eq_false_iff_not
abbrev hS:=@of_decide_eq_true
abbrev jF:=@decide_eq_true_iff
abbrev e2:=@if_false
abbrev kA:=@beq_self_eq_true
abbrev gR:=@if_true
abbrev jl:=@or_false
abbrev uL:=@beq_eq_false_iff_ne
abbrev yp:=@decide_eq_true_eq
abbrev xD:=@decide_eq_decide
abbrev pI:=@beq_iff_eq
variable{QG:Sort _}{p:Prop}
def xE1{q:QG->Prop}(c:∃g,q g)(n:∀g,q g->p):p:=have ⟨g,H⟩:=c;n g H
variable{Q9:Sort _}
def xE2{q:QG->Q9->Prop}(c:∃g e,q g e)(n:∀g e,q g e->p):p:=have ⟨g,e,H⟩:=c;n g e H
variable{Rv:Sort _}
def xE3{q:QG->Q9->Rv->Prop}(c:∃g e m,q g e m)(n:∀g e m,q g e m->p):p:=have ⟨g,e,m,H⟩:=c;n g e m H
variable{Rw:Sort _}
def xE4{q:QG->Q9->Rv->Rw->Prop}(c:∃g e m v,q g e m v)(n:∀g e m v,q g e m v->p):p:=have ⟨g,e,m,v,H⟩:=c;n g e m v H
variable{Rx:Sort _}
def xE5{q:QG->Q9->Rv->Rw->Rx->Prop}(c:∃g e m v d,q g e m v d)(n:∀g e m v d,q g e m v d->p):p:=have ⟨g,e,m,v,d,H⟩:=c;n g e m v d H
variable{Ry:Sort _}
def xE6{q:QG->Q9->Rv->Rw->Rx->Ry->Prop}(c:∃g e m v d B,q g e m v d B)(n:∀g e m v d B,q g e m v d B->p):p:=have ⟨g,e,m,v,d,B,H⟩:=c;n g e m v d B H
def xE9{b:Sort _}{QC:Sort _}{f:Sort _}{q:QG->Q9->Rv->Rw->Rx->Ry->b->QC->f->Prop}(c:∃g e m v d B M a i,q g e m v d B M a i)(n:∀g e m v d B M a i,q g e m v d B M a i->p):p:=have ⟨g,e,m,v,d,B,M,a,i,H⟩:=c;n g e m v d B M a i H
variable{g e:Prop}
def xA2(c:g/\e)(n:g->e->p):p:=n c.1 c.2
variable{m:Prop}
def xA3(c:g/\e/\m)(n:g->e->m->p):p:=n c.1 c.2.1 c.2.2
variable{v:Prop}
def xA4(c:g/\e/\m/\v)(n:g->e->m->v->p):p:=n c.1 c.2.1 c.2.2.1 c.2.2.2
variable{d:Prop}
def xA5(c:g/\e/\m/\v/\d)(n:g->e->m->v->d->p):p:=n c.1 c.2.1 c.2.2.1 c.2.2.2.1 c.2.2.2.2
variable{B:Prop}
def xA6(c:g/\e/\m/\v/\d/\B)(n:g->e->m->v->d->B->p):p:=n c.1 c.2.1 c.2.2.1 c.2.2.2.1 c.2.2.2.2.1 c.2.2.2.2.2
def xA8{M a:Prop}(c:g/\e/\m/\v/\d/\B/\M/\a)(n:g->e->m->v->d->B->M->a->p):p:=n c.1 c.2.1 c.2.2.1 c.2.2.2.1 c.2.2.2.2.1 c.2.2.2.2.2.1 c.2.2.2.2.2.2.1 c.2.2.2.2.2.2.2
set_option linter.all false
set_option maxRecDepth 100000
namespace L2
open Spec PyProof.Rows
variable{QF:gf}{Rb f:aC}{Qv c:aV}{aH:aC->Option ae}{Qr QO:List aC}{QV:jV}{B:ae->ae->dA ae}{b0 Rh:List ao}{Ro:List cK}{M:Int->Int->Int}{QL m d:bo}{r n a QM:Nat}{Qe:List bo}{Qk:Φ}{G:List (ao×a0)}{Qx:Pos}{h Qd:ah}{C Qh:ae->ah->Prop}{O:bj}{x:bc}{Qf:bA}{L:ae}{e g:ao}{QD:List ae}
inductive V where
 | aT|ax (e:Bool)|int (a:Int)|str (f:aC)|tup (J:List V)|fn (g:ao)|aQ (J:List V)|fd
mutual
def V.beq:V->V->Bool
 |.aT,.aT=>X
 |.ax g,.ax e=>g==e
 |.int a,.int i=>decide (a=i)
 |.str f,.str I=>decide (f=I)
 |.tup g,.tup e=>V.kk g e
 |.fn g,.fn e=>decide (g=e)
 |.aQ g,.aQ e=>V.kk g e
 |.fd,.fd=>X
 |_,_=>aq
def V.kk:List V->List V->Bool
 |[],[]=>X
 |g::s,e::w=>V.beq g e&&V.kk s w
 |_,_=>aq
end
mutual
theorem V.beq_iff:∀g e:V,V.beq g e=X↔g=e
 |.aT,e=>by cases e<;>simp[V.beq]
 |.ax g,e=>by cases e<;>simp[V.beq]
 |.int a,e=>by cases e<;>simp[V.beq]
 |.str f,e=>by cases e<;>simp[V.beq]
 |.tup f,e=>by
  cases e with
  |tup I=>rw[V.beq,V.uH f I];simp
  |_=>simp[V.beq]
 |.fn g,e=>by cases e<;>simp[V.beq]
 |.aQ f,e=>by
  cases e with
  |aQ I=>rw[V.beq,V.uH f I];simp
  |_=>simp[V.beq]
 |.fd,e=>by cases e<;>simp[V.beq]
theorem V.uH:∀g e:List V,V.kk g e=X↔g=e
 |[],e=>by cases e<;>simp[V.kk]
 |f::s,e=>by
  cases e with
  |nil=>simp[V.kk]
  |cons I w=>rw[V.kk,cG,V.beq_iff f I,V.uH s w];simp
end
noncomputable instance:DecidableEq V:=λg e=>decidable_of_iff (V.beq g e=X) (V.beq_iff g e)
mutual
def dq(c:aV):V->ae->Prop
 |.aT,u=>u=.none
 |.ax e,u=>u=.bool e
 |.int a,u=>∃w,u=.int a w
 |.str f,u=>∃w,u=.str f w
 |.fn g,u=>u=.ref g
 |.aQ _,u=>∃g,u=.ref g
 |.fd,u=>∃g,u=.ref g
 |.tup J,u=>∃g o Qy r,u=.ref g/\c.get? g=Z o/\o.cls=.type "tuple" /\ o.data=.seq Qy r/\dv c J Qy.toList
def dv(c:aV):List V->List ae->Prop
 |[],U=>U=[]
 |v::J,U=>∃u s,U=u::s/\dq c v u/\dv c J s
end
mutual
def V.key:Nat->V->Bool
 |_,.int _=>X
 |_,.str _=>X
 |r+1,.tup J=>V.keys r J
 |_,_=>aq
def V.keys:Nat->List V->Bool
 |_,[]=>X
 |r,v::J=>V.key r v&&V.keys r J
end
mutual
def da(x:bc):V->Int
 |.int a=>hashInt a
 |.str f=>hashStr x f
 |.tup J=>reduceHash (bl.Tuple.tupleHashOf<|hQ x J)
 |_=>0
def hQ(x:bc):List V->List Int
 |[]=>[]
 |v::J=>da x v::hQ x J
end
mutual
def rV:V->Nat
 |.tup J=>jg J+1
 |_=>1
def jg:List V->Nat
 |[]=>0
 |v::J=>rV v+jg J
end
theorem v_(x:bc):∀g e:List V,hQ x (g++e)=hQ x g++hQ x e
 |[],e=>rfl
 |v::g,e=>by rw[qt,hQ,hQ,v_ x g e,qt]
theorem vz:∀g e:List V,jg (g++e)=jg g+jg e
 |[],e=>by simp[jg]
 |v::g,e=>by rw[qt,jg,jg,vz g e];lia
theorem y1{r:Nat}:∀{g e:List V},V.keys r (g++e)=X->V.keys r e=X
 |[],e,c=>c
 |v::g,e,c=>by rw[qt,V.keys,cG]at c;exact y1 c.2
theorem dv.length{c:aV}:∀{J:List V}{U:List ae},dv c J U->J.length=U.length
 |[],U,d=>by rw[show U=[] from d];rfl
 |v::J,U,d=>by
  let⟨u,@s,rfl,W,d⟩:=d;rw[er,er,dv.length d]
def t9(c T:aV):Prop:=(∀g o Qy r,c.get? g=Z o->o.cls=.type "tuple" -> o.data=.seq Qy r->T.get? g=Z o)
mutual
theorem dq.keep{c T:aV}(n:t9 c T):∀{v:V}{u:ae},dq c v u->dq T v u
 |.aT,_,d=>d
 |.ax _,_,d=>d
 |.int _,_,d=>d
 |.str _,_,d=>d
 |.fn _,_,d=>d
 |.aQ _,_,d=>d
 |.fd,_,d=>d
 |.tup J,_,d=>by
  let⟨g,o,Qy,@r,rfl,l,D,a,b⟩:=d;exact⟨g,o,Qy,r,rfl,n g o Qy r l D a,D,a,dv.keep n b⟩
theorem dv.keep{c T:aV}(n:t9 c T):∀{J:List V}{U:List ae},dv c J U->dv T J U
 |[],_,d=>d
 |v::J,_,d=>by
  let⟨u,@s,rfl,l,D⟩:=d;exact⟨u,s,rfl,dq.keep n l,dv.keep n D⟩
end
theorem DV{c:aV}:∀(r:Nat) {f I:V}{u:ae},V.key r f=X->V.key r I=X->dq c f u->dq c I u->f=I
 |r,.int a,I,u,_,aX,h,b=>by
  let⟨@w,rfl⟩:=h;cases I with
  |int i=>let⟨@L,d⟩:=b;injection d with d;rw[d]
  |str H=>let⟨@L,d⟩:=b;cases d
  |tup J=>let⟨W,W,W,@W,d,W⟩:=b;cases d
  |_=>cases r<;>cases aX
 |r,.str H,I,u,_,aX,h,b=>by
  let⟨@w,rfl⟩:=h;cases I with
  |int i=>let⟨@L,d⟩:=b;cases d
  |str H=>let⟨@L,d⟩:=b;injection d with d;rw[d]
  |tup J=>let⟨W,W,W,@W,d,W⟩:=b;cases d
  |_=>cases r<;>cases aX
 |r+1,.tup J,I,u,q,aX,h,b=>by
  let⟨g,o,Qy,@k,rfl,l,D,t,x⟩:=h;cases I with
  |int i=>let⟨@L,d⟩:=b;cases d
  |str H=>let⟨@L,d⟩:=b;cases d
  |tup Qe=>
   let⟨C,QU,E,@F,d,m,G,j,y⟩:=b;cases d;rw[l]at m;cases m;rw[t]at j;injection j with j _;subst j;have all:∀(J Qe:List V) (U:List ae),V.keys r J=X->V.keys r Qe=X->dv c J U->dv c Qe U->J=Qe:=by
    intro J;induction J with
    |nil=>
     intro Qe U W W g e;cases Qe with
     |nil=>rfl
     |cons d Qe=>let⟨W,@W,p,W⟩:=e;rw[show U=[] from g]at p;cases p
    |cons v J z=>
     intro Qe U QN QW g e;let⟨u,@s,rfl,A,B⟩:=g;cases Qe with
     |nil=>cases (show u::s=[] from e)
     |cons d Qe=>
      let⟨M,@Q1,p,dR,dc⟩:=e;cases p;rw[V.keys,cG]at QN QW;rw[DV r QN.1 QW.1 A dR,z Qe s QN.2 QW.2 B dc]
   rw[all J Qe _ q aX x y]
  |_=>cases aX
 |_,.aT,_,_,n,_,_,_=>by cases ‹Nat›<;>cases n
 |_,.ax _,_,_,n,_,_,_=>by cases ‹Nat›<;>cases n
 |_,.fn _,_,_,n,_,_,_=>by cases ‹Nat›<;>cases n
 |_,.aQ _,_,_,n,_,_,_=>by cases ‹Nat›<;>cases n
 |_,.fd,_,_,n,_,_,_=>by cases ‹Nat›<;>cases n
 |0,.tup _,_,_,n,_,_,_=>by cases n
section
variable{Ql:bA}{x:bc}
theorem yR:∀(r:Nat) {O:bj}{Qh:ae->ah->Prop}{h:ah}{v:V}{u:ae}{C:Int->ah->Prop},V.key r v=X->O.units+r<bL->dq h.heap v u->C (da x v) {h with toks:=h.toks+rV v}->
  wpAny (aN Ql x) O (pyHash u) C Qh h
 |r,O,Qh,h,.int a,u,C,_,_,b,c=>by
  let⟨@w,rfl⟩:=b;exact AL c
 |r,O,Qh,h,.str a,u,C,_,_,b,c=>by
  let⟨@w,rfl⟩:=b;exact B2 c
 |r+1,O,Qh,h,.tup J,u,C,n,A,b,c=>by
  let⟨g,o,Qy,@k,rfl,q,y,z,S⟩:=b;have i:h.TypeIs (.ref g) "tuple" := ⟨o,q,y⟩;unfold pyHash;first|unfold pyHashByItsType|skip
  first|refine av (wpAny_cRoomFor_or (.inr ⋯) ?_)|skip
  refine av (l9 i q1.lookup ?_);show wpAny _ _ (if (Z (ae.builtin "tuple.__hash__")==Z ae.none)=X then _ else _) C Qh h;rw[aI (by rw[beq_builtin_none];exact df)];refine av (l9 i q1.lookup ?_);show wpAny _ _ (callSpecialIfBoundUnlessNone? (.ref g) "__hash__" _ >>= _) C Qh h;refine av (wpAny_callSpecialIfBoundUnlessNone?_slot i q1<|iB q1 i F.entry_tuple_hash ?_<|F.args_tuple_hash_1 _);show wpAny _ _ (bl.Tuple.tupleItemsOf (.ref g) >>= _) _ _ h;refine av (wpAny_tupleItemsOf q z ?_);refine av ?_;rw[<-rB];refine mA _
   (λcL (e:Array Int) Qd=>∃done left,J=done++left/\dv h.heap left cL/\e.toList=hQ x done/\Qd={h with toks:=h.toks+jg done})
   _ ?_ ?_ _ _ ⟨[],J,rfl,S,rfl,rfl⟩
  ·rintro f cL e Qd ⟨done,left,rfl,j,m,rfl⟩;cases left with
   |nil=>cases (show f::cL=[] from j)
   |cons v left=>
    let⟨u,@s,d,l,t⟩:=j;cases d;have QW:=y1 (g:=done) (show V.keys r (done++v::left)=X from n);rw[V.keys,cG]at QW;refine av (yR r QW.1 (by show O.units+1+r<bL;lia) l ?_);first
     | exact aR ⟨done++[v],left,by simp,t,by simp[m,v_,hQ],by simp[vz,jg,qx]⟩
     | exact av (aR (aR ⟨done++[v],left,by simp,t,by simp[m,v_,hQ],by simp[vz,jg,qx]⟩))
  ·rintro e Qd ⟨done,left,rfl,j,m,rfl⟩;cases left with
   |cons v left=>let⟨W,@W,d,W⟩:=j;cases d
   |nil=>
   rw[cD]at c;show wpAny _ _ (retInt<|bl.Tuple.tupleHashOf e.toList) _ _ _;rw[m];refine wpAny_ret_mkInt ?_;show wpAny _ _ (if (decide (-(2:Int)^63<=bl.Tuple.tupleHashOf (hQ x done))&&decide (bl.Tuple.tupleHashOf (hQ x done)<2^63))=X then _ else _) C Qh _;rw[da,rV]at c;unfold reduceHash at c;by_cases p:(decide (-(2:Int)^63<=bl.Tuple.tupleHashOf (hQ x done))&&decide (bl.Tuple.tupleHashOf (hQ x done)<2^63))=X
   ·rw[aE p];rw[aE p]at c;exact aR (by simpa [qx] using c)
   ·rw[aI p];rw[aI p]at c;exact av (i5 (aR (by simpa [qx] using c)))
 |_,_,_,_,.aT,_,_,n,_,_,_=>by cases ‹Nat›<;>cases n
 |_,_,_,_,.ax _,_,_,n,_,_,_=>by cases ‹Nat›<;>cases n
 |_,_,_,_,.fn _,_,_,n,_,_,_=>by cases ‹Nat›<;>cases n
 |_,_,_,_,.aQ _,_,_,n,_,_,_=>by cases ‹Nat›<;>cases n
 |_,_,_,_,.fd,_,_,n,_,_,_=>by cases ‹Nat›<;>cases n
 |0,_,_,_,.tup _,_,_,n,_,_,_=>by cases n
mutual
def cf:V->V->Bool
 |.aT,.aT=>X
 |.ax g,.ax e=>g==e
 |.ax g,.int i=>(if g then 1 else 0)==i
 |.int a,.ax e=>a==(if e then 1 else 0)
 |.int a,.int i=>a==i
 |.str f,.str I=>f==I
 |.tup g,.tup e=>dB g e
 |_,_=>aq
def dB:List V->List V->Bool
 |[],[]=>X
 |g::s,e::w=>cf g e&&dB s w
 |_,_=>aq
end
mutual
def V.bg:Nat->V->Bool
 |_,.aT=>X
 |_,.ax _=>X
 |_,.int _=>X
 |_,.str _=>X
 |r+1,.tup J=>V.cg r J
 |_,_=>aq
def V.cg:Nat->List V->Bool
 |_,[]=>X
 |r,v::J=>V.bg r v&&V.cg r J
end
theorem jz{r:Nat}:∀{J:List V}{i:Nat}{v:V},V.cg r J=X->J[i]?=Z v->V.bg r v=X
 |[],i,v,_,c=>by simp at c
 |d::J,0,v,n,c=>by
  rw[V.cg,cG]at n;simp at c;subst c;exact n.1
 |d::J,i+1,v,n,c=>by
  rw[V.cg,cG]at n;exact jz n.2 ⇑c
theorem dv.get{c:aV}:∀{J:List V}{U:List ae}{i:Nat}{u:ae},dv c J U->U[i]?=Z u->∃v,J[i]?=Z v/\dq c v u
 |[],U,i,u,g,d=>by rw[show U=[] from g]at d;simp at d
 |v::J,U,0,u,g,d=>by
  let⟨L,@s,rfl,a,b⟩:=g;simp at d;subst d;exact⟨v,rfl,a⟩
 |v::J,U,i+1,u,g,d=>by
  let⟨L,@s,rfl,a,b⟩:=g;let⟨@e,l,D⟩:=dv.get (i:=i) b ⇑d;exact⟨e,by simpa using l,D⟩
theorem Bm{c:aV}:∀(r:Nat) {f I:V}{u:ae},V.bg r f=X->V.bg r I=X->dq c f u->dq c I u->cf f I=X
 |r,.aT,I,u,_,aX,h,b=>by
  cases (show u=.none from h);cases I with
  |aT=>rfl
  |ax e=>cases b
  |int i=>let⟨@L,d⟩:=b;cases d
  |str H=>let⟨@L,d⟩:=b;cases d
  |tup J=>let⟨W,W,W,@W,d,W⟩:=b;cases d
  |fn g=>cases r<;>cases aX
  |aQ g=>cases r<;>cases aX
  |fd=>cases r<;>cases aX
 |r,.ax e,I,u,_,aX,h,b=>by
  cases (show u=.bool e from h);cases I with
  |aT=>cases b
  |ax m=>cases b;simp[cf]
  |int i=>let⟨@L,d⟩:=b;cases d
  |str H=>let⟨@L,d⟩:=b;cases d
  |tup J=>let⟨W,W,W,@W,d,W⟩:=b;cases d
  |fn g=>cases r<;>cases aX
  |aQ g=>cases r<;>cases aX
  |fd=>cases r<;>cases aX
 |r,.int a,I,u,_,aX,h,b=>by
  let⟨@w,rfl⟩:=h;cases I with
  |aT=>cases b
  |ax m=>cases b
  |int i=>let⟨@L,d⟩:=b;cases d;simp[cf]
  |str H=>let⟨@L,d⟩:=b;cases d
  |tup J=>let⟨W,W,W,@W,d,W⟩:=b;cases d
  |fn g=>cases r<;>cases aX
  |aQ g=>cases r<;>cases aX
  |fd=>cases r<;>cases aX
 |r,.str a,I,u,_,aX,h,b=>by
  let⟨@w,rfl⟩:=h;cases I with
  |aT=>cases b
  |ax m=>cases b
  |int i=>let⟨@L,d⟩:=b;cases d
  |str H=>let⟨@L,d⟩:=b;cases d;simp[cf]
  |tup J=>let⟨W,W,W,@W,d,W⟩:=b;cases d
  |fn g=>cases r<;>cases aX
  |aQ g=>cases r<;>cases aX
  |fd=>cases r<;>cases aX
 |r+1,.tup J,I,u,t,aX,h,b=>by
  let⟨g,o,Qy,@k,rfl,l,D,x,y⟩:=h;cases I with
  |aT=>cases b
  |ax m=>cases b
  |int i=>let⟨@L,d⟩:=b;cases d
  |str H=>let⟨@L,d⟩:=b;cases d
  |fn g=>cases aX
  |aQ g=>cases aX
  |fd=>cases aX
  |tup Qe=>
   let⟨E,QU,F,@G,d,q,M,j,z⟩:=b;cases d;rw[l]at q;cases q;rw[x]at j;injection j with j _;subst j;have all:∀(J Qe:List V) (U:List ae),V.cg r J=X->V.cg r Qe=X->dv c J U->dv c Qe U->dB J Qe=X:=by
    intro J;induction J with
    |nil=>
     intro Qe U W W g e;cases Qe with
     |nil=>rfl
     |cons d Qe=>let⟨W,@W,p,W⟩:=e;rw[show U=[] from g]at p;cases p
    |cons v J A=>
     intro Qe U QN QW g e;let⟨u,@s,rfl,B,C⟩:=g;cases Qe with
     |nil=>cases (show u::s=[] from e)
     |cons d Qe=>
      let⟨N,@Q1,p,dR,dc⟩:=e;cases p;rw[V.cg,cG]at QN QW;rw[dB,Bm r QN.1 QW.1 B dR,A Qe s QN.2 QW.2 C dc];rfl
   rw[cf];exact all J Qe _ t aX y z
 |r,.fn _,_,_,n,_,_,_=>by cases r<;>cases n
 |r,.aQ _,_,_,n,_,_,_=>by cases r<;>cases n
 |r,.fd,_,_,n,_,_,_=>by cases r<;>cases n
 |0,.tup _,_,_,n,_,_,_=>by cases n
def pG{d:Nat->Bool}:∀{J Qe:List V},(∀(i:Nat) (f I:V),J[i]?=Z f->Qe[i]?=Z I->d i=cf f I)->((range<|min J.length Qe.length).all d&&J.length==Qe.length)=dB J Qe:=by
 have Q:∀(J Qe:List V) (B:Nat->Bool),(∀(i:Nat) (f I:V),J[i]?=Z f->Qe[i]?=Z I->B i=cf f I)->((range<|min J.length Qe.length).all B&&J.length==Qe.length)=dB J Qe:=by
  intro J;induction J with
  |nil=>intro Qe B W;cases Qe<;>simp[dB]
  |cons v J a=>
   intro Qe B c;cases Qe with
   |nil=>simp[dB]
   |cons m Qe=>
    have:=a Qe (λi=>B<|i+1) λi f I g e=>c (i+1) f I ⇑g ⇑e;rw[dB,<-this,<-c 0 v m rfl rfl];rw[er,er,show min (J.length+1) (Qe.length+1)=min J.length Qe.length+1 by lia,List.range_succ_eq_map,List.all_cons,vQ,Bool.and_assoc];congr 2;rw[qK];simp
 exact λ{J Qe} c=>Q J Qe d c
theorem ir{h:ah}:∀(r:Nat) {O:bj}{f I:V}{L u:ae},V.bg r f=X->V.bg r I=X->O.units+r+1<bL->dq h.heap f L->dq h.heap I u->SeqAt.EqAt O h L u (cf f I)
 |r,O,.aT,I,L,u,_,aX,s,j,b=>by
  cases (show L=.none from j);cases I with
  |aT=>cases (show u=.none from b);exact SeqAt.EqAt.same _
  |ax e=>cases (show u=.bool e from b);exact LI e
  |int i=>let⟨@w,rfl⟩:=b;exact Gz i w
  |str H=>let⟨@w,rfl⟩:=b;exact K1 H w
  |tup J=>let⟨g,o,Qy,@k,rfl,l,D,q,W⟩:=b;exact NP ⟨o,l,D,k,q⟩ ⋯
  |fn g=>cases r<;>cases aX
  |aQ g=>cases r<;>cases aX
  |fd=>cases r<;>cases aX
 |r,O,.ax e,I,L,u,_,aX,s,j,b=>by
  cases (show L=.bool e from j);cases I with
  |aT=>cases (show u=.none from b);exact N1 e
  |ax m=>cases (show u=.bool m from b);exact NO e m
  |int i=>let⟨@w,rfl⟩:=b;exact PF e i w
  |str H=>let⟨@w,rfl⟩:=b;exact KH e H w
  |tup J=>let⟨g,o,Qy,@k,rfl,l,D,q,W⟩:=b;exact NX e ⟨o,l,D,k,q⟩ ⋯
  |fn g=>cases r<;>cases aX
  |aQ g=>cases r<;>cases aX
  |fd=>cases r<;>cases aX
 |r,O,.int a,I,L,u,_,aX,s,j,b=>by
  let⟨@c,rfl⟩:=j;cases I with
  |aT=>cases (show u=.none from b);exact Il a c
  |ax m=>cases (show u=.bool m from b);exact Jl a c m
  |int i=>let⟨@w,rfl⟩:=b;exact Kr a c i w
  |str H=>let⟨@w,rfl⟩:=b;exact Dk a c H w
  |tup J=>let⟨g,o,Qy,@k,rfl,l,D,q,W⟩:=b;exact JM a c ⟨o,l,D,k,q⟩ ⋯
  |fn g=>cases r<;>cases aX
  |aQ g=>cases r<;>cases aX
  |fd=>cases r<;>cases aX
 |r,O,.str a,I,L,u,_,aX,s,j,b=>by
  let⟨@c,rfl⟩:=j;cases I with
  |aT=>cases (show u=.none from b);exact Nl a c
  |ax m=>cases (show u=.bool m from b);exact PG a c m
  |int i=>let⟨@w,rfl⟩:=b;exact zN a c i w
  |str H=>let⟨@w,rfl⟩:=b;exact Ms a c H w
  |tup J=>let⟨g,o,Qy,@k,rfl,l,D,q,W⟩:=b;exact Kc a c ⟨o,l,D,k,q⟩ ⋯
  |fn g=>cases r<;>cases aX
  |aQ g=>cases r<;>cases aX
  |fd=>cases r<;>cases aX
 |r+1,O,.tup J,I,L,u,v,aX,s,j,b=>by
  have B:=j;let⟨g,o,Qy,@k,rfl,l,D,q,x⟩:=j;have QY:h.heap.IsTuple g Qy:=⟨o,l,D,k,q⟩;cases I with
  |aT=>cases (show u=.none from b);exact HW QY ⋯
  |ax m=>cases (show u=.bool m from b);exact Pg m QY ⋯
  |int i=>let⟨@w,rfl⟩:=b;exact Jp i w QY ⋯
  |str H=>let⟨@w,rfl⟩:=b;exact KY H w QY ⋯
  |fn g=>cases aX
  |aQ g=>cases aX
  |fd=>cases aX
  |tup Qe=>
   have C:=b;let⟨e,QU,t,@E,rfl,F,G,M,y⟩:=b;by_cases d:g=e
   ·subst d;rw[Bm (r+1) v aX B C];exact SeqAt.EqAt.same _
   ·have Rd:h.heap.IsTuple e t:=⟨QU,F,G,E,M⟩;have aZ:=x.length;have bh:=y.length;have N:Qy.toList.length=Qy.size:=by simp
    have P:t.toList.length=t.size:=by simp
    rw[N]at aZ;rw[P]at bh;have p:=MV (A:=O) d (BF (e:=λi=>cf (J.getD i .aT)<|Qe.getD i .aT) QY Rd ⋯ λi Q R=>by
     let⟨@QZ,z,S⟩:=x.get (i:=i) (u:=Qy[i]) (by rw[eu];simp[Q]);let⟨@Q2,A,T⟩:=y.get (i:=i) (u:=t[i]) (by rw[eu];simp[R]);rw[cx,z,cx,A];exact ir r (jz v z) (jz aX A) (by show O.units+1+r+1<bL;lia) S T)
    rw[<-aZ,<-bh,pG (J:=J) (Qe:=Qe) (λi f I g e=>by rw[cx,g,cx,e];rfl)]at p;rw[cf];exact p
 |r,O,.fn _,_,_,_,n,_,_,_,_=>by cases r<;>cases n
 |r,O,.aQ _,_,_,_,n,_,_,_,_=>by cases r<;>cases n
 |r,O,.fd,_,_,_,n,_,_,_,_=>by cases r<;>cases n
 |0,O,.tup _,_,_,_,n,_,_,_,_=>by cases n
mutual
theorem vE:∀{r:Nat}{v:V},V.key r v=X->V.bg r v=X
 |r,.int _,_=>by cases r<;>rfl
 |r,.str _,_=>by cases r<;>rfl
 |r+1,.tup J,c=>by rw[V.key]at c;rw[V.bg];exact zW c
 |0,.tup _,c=>by cases c
 |r,.aT,c=>by cases r<;>cases c
 |r,.ax _,c=>by cases r<;>cases c
 |r,.fn _,c=>by cases r<;>cases c
 |r,.aQ _,c=>by cases r<;>cases c
 |r,.fd,c=>by cases r<;>cases c
theorem zW:∀{r:Nat}{J:List V},V.keys r J=X->V.cg r J=X
 |r,[],_=>by rw[V.cg]
 |r,v::J,c=>by rw[V.keys,cG]at c;rw[V.cg,vE c.1,zW c.2];rfl
end
mutual
theorem Dr:∀{r:Nat}{f I:V},V.key r f=X->V.key r I=X->cf f I=decide (f=I)
 |r,.int a,I,_,b=>by
  cases I with
  |int i=>rw[cf];by_cases d:a=i<;>simp[d]
  |str H=>simp[cf]
  |tup H=>simp[cf]
  |_=>cases r<;>cases b
 |r,.str a,I,_,b=>by
  cases I with
  |int i=>simp[cf]
  |str H=>rw[cf];by_cases d:a=H<;>simp[d]
  |tup H=>simp[cf]
  |_=>cases r<;>cases b
 |r+1,.tup J,I,e,b=>by
  cases I with
  |int i=>simp[cf]
  |str H=>simp[cf]
  |tup Qe=>
   rw[V.key]at e b;rw[cf,Ei e b];simp
  |_=>cases b
 |0,.tup _,_,c,_=>by cases c
 |r,.aT,_,c,_=>by cases r<;>cases c
 |r,.ax _,_,c,_=>by cases r<;>cases c
 |r,.fn _,_,c,_=>by cases r<;>cases c
 |r,.aQ _,_,c,_=>by cases r<;>cases c
 |r,.fd,_,c,_=>by cases r<;>cases c
theorem Ei:∀{r:Nat}{f I:List V},V.keys r f=X->V.keys r I=X->dB f I=decide (f=I)
 |r,[],I,_,_=>by cases I<;>simp[dB]
 |r,v::J,[],_,_=>by simp[dB]
 |r,v::J,d::Qe,a,b=>by
  rw[V.keys,cG]at a b;rw[dB,Dr a.1 b.1,Ei a.2 b.2];by_cases l:v=d<;>by_cases D:J=Qe<;>simp[l,D]
end
theorem t7:∀(r:Nat) {O:bj}{Qh:ae->ah->Prop}{h:ah}{v:V}{u:ae}{C:Bool->ah->Prop},V.key r v=X->dq h.heap v u->C X h->wpAny (aN Ql x) O (eqIsQuiet r u) C Qh h
 |r,O,Qh,h,.int a,u,C,_,b,c=>by
  let⟨@w,rfl⟩:=b;rw[y0 r rfl];exact aR c
 |r,O,Qh,h,.str a,u,C,_,b,c=>by
  let⟨@w,rfl⟩:=b;rw[y0 r rfl];exact aR c
 |r+1,O,Qh,h,.tup J,u,C,n,b,c=>by
  let⟨g,o,Qy,@k,rfl,i,p,q,S⟩:=b;have j:h.TypeIs (.ref g) "tuple" := ⟨o,i,p⟩;unfold eqIsQuiet;refine av (l9 j F.slot_tuple_eq.lookup ?_);show wpAny _ _ (isInstance (.ref g) (.type "tuple") >>= _) _ _ h;refine av (tn j isSubtype_tuple_tuple ?_);simp only[nZ,gp,e2];refine av (ha i q ?_);refine av ?_;show wpAny _ _ (forIn Qy _ _) _ _ h;rw[<-rB];rw[V.key]at n;refine mA _ (λcL s Qd=>s.1=Y/\Qd=h/\∃left,V.keys r left=X/\dv h.heap left cL) _ ?_ ?_ _ _ ⟨rfl,rfl,J,n,S⟩
  ·rintro u cL s Qd ⟨e,rfl,left,f,m⟩;cases left with
   |nil=>cases (show u::cL=[] from m)
   |cons v left=>
    let⟨y,@Q1,d,l,t⟩:=m;cases d;rw[V.keys,cG]at f;refine av (t7 r f.1 l ?_);simp only[nZ,gp,e2];exact aR ⟨rfl,rfl,left,f.2,t⟩
  ·rintro⟨z,A⟩ Qd ⟨e,rfl,W⟩;simp only at e;subst e;exact aR c
 |_,_,_,_,.aT,_,_,n,_,_=>by cases ‹Nat›<;>cases n
 |_,_,_,_,.ax _,_,_,n,_,_=>by cases ‹Nat›<;>cases n
 |_,_,_,_,.fn _,_,_,n,_,_=>by cases ‹Nat›<;>cases n
 |_,_,_,_,.aQ _,_,_,n,_,_=>by cases ‹Nat›<;>cases n
 |_,_,_,_,.fd,_,_,n,_,_=>by cases ‹Nat›<;>cases n
 |0,_,_,_,.tup _,_,_,n,_,_=>by cases n
def d8(Ql:bA)(x:bc):HeapKind Ql x (List V) where
 is:=λc J g=>V.keys 7 J=X/\dq c (.tup J) (.ref g)
 hash:=λJ=>da x (.tup J)
 draws:=λJ=>rV (.tup J)
 room:=λO=>O.units+10<bL
 inj:=λa b=>by
  have:=DV 8 (f:=.tup _) (I:=.tup _) a.1 b.1 a.2 b.2;injection this
 keeps:=λ{c T n g v o Qe Q0} f l m Qj=>⟨f.1,f.2.keep λe L Qy r i s k=>by
  have q:e≠v:=by
   rintro rfl;rw[l]at i;cases i;rw[m]at k;cases k
  exact (Qj.2 e q).trans i⟩
 pyHash:=λj d c=>yR 8 (v:=.tup _) d.1 (show _<_ by have:_+10<bL:=j;lia) d.2 c
 eqBool:=λ{O Qh h f I g e C} j a b c=>by
  have p:=ir (h:=h) 8 (O:=O) (f:=.tup f) (I:=.tup I) (vE (r:=8) (v:=.tup f) a.1) (vE (r:=8) (v:=.tup I) b.1) (show _<_ by have:O.units+10<bL:=j;lia) a.2 b.2;rw[Dr (r:=8) (f:=.tup f) (I:=.tup I) a.1 b.1]at p;exact p _ _ Qh C ⇑c
 quiet:=λd c=>t7 8 (v:=.tup _) d.1 d.2 c
end
abbrev d_:=Sum Int aC
def o8:d_->ae->Bool
 |.inl n,u=>ae.isInt n u
 |.inr f,u=>ae.isStrOf f u
def Ni(x:bc):d_->Int
 |.inl n=>hashInt n
 |.inr f=>hashStr x f
theorem ky:∀{n:d_}{u:ae},o8 n u=X->(∃a w,n=Sum.inl a/\u=ae.int a w)\/(∃f w,n=Sum.inr f/\u=ae.str f w)
 |.inl a,u,c=>by
  let⟨@w,d⟩:=ae.isInt_shape (k:=a) (v:=u) c;exact .inl ⟨a,w,rfl,d⟩
 |.inr f,u,c=>by
  let⟨@w,d⟩:=ae.isStrOf_shape (x:=f) (v:=u) c;exact .inr ⟨f,w,rfl,d⟩
def Jr(a:Int)(w:hq):o8 (.inl a) (.int a w)=X:=by simp[o8,ae.isInt]
def Gk(f:aC)(w:hq):o8 (.inr f) (.str f w)=X:=by simp[o8,ae.isStrOf]
def Jw(g e:Int):decide ((Sum.inl g:d_)=Sum.inl e)=(g==e):=by
 by_cases d:g=e
 ·subst d;simp
 ·have c:¬ (Sum.inl g:d_)=Sum.inl e:=λp=>d (Sum.inl.inj p);rw[cW c];exact (uL.mpr d).symm
def Lo(g e:aC):decide ((Sum.inr g:d_)=Sum.inr e)=decide (g=e):=by
 by_cases d:g=e
 ·subst d;simp
 ·have c:¬ (Sum.inr g:d_)=Sum.inr e:=λp=>d (Sum.inr.inj p);rw[cW c,cW d]
def MC(g:Int)(e:aC):decide ((Sum.inl g:d_)=Sum.inr e)=aq:=cW (λp=>nomatch p)
def IG(g:aC)(e:Int):decide ((Sum.inr g:d_)=Sum.inl e)=aq:=cW (λp=>nomatch p)
def lz(Ql:bA)(x:bc):PySem.KeyKind Ql x d_ where
 is:=o8
 hash:=Ni x
 inj:=λu g e k j=>by
  rcases ky k with ⟨a,w,rfl,rfl⟩|⟨f,w,rfl,rfl⟩
  ·rcases ky j with ⟨i,L,rfl,d⟩|⟨I,L,rfl,d⟩
   ·injection d with b _;rw[b]
   ·exact nomatch d
  ·rcases ky j with ⟨i,L,rfl,d⟩|⟨I,L,rfl,d⟩
   ·exact nomatch d
   ·injection d with b _;rw[b]
 byValue:=λn u c=>by
  rcases ky c with ⟨a,w,rfl,rfl⟩|⟨f,w,rfl,rfl⟩<;>rfl
 pyHash:=λh c=>by
  rcases ky h with ⟨a,w,rfl,rfl⟩|⟨f,w,rfl,rfl⟩
  ·exact AL c
  ·exact B2 c
 eqBool:=λl h c=>by
  rcases ky l with ⟨a,w,rfl,rfl⟩|⟨f,w,rfl,rfl⟩
  ·rcases ky h with ⟨i,L,rfl,rfl⟩|⟨I,L,rfl,rfl⟩
   ·rw[Jw]at c;exact wpAny_eqBool_int c
   ·rw[MC]at c;exact Dk a w I L _ _ _ _ c
  ·rcases ky h with ⟨i,L,rfl,rfl⟩|⟨I,L,rfl,rfl⟩
   ·rw[IG]at c;exact zN f w i L _ _ _ _ c
   ·rw[Lo]at c;exact wpAny_eqBool_str c
 «strs»:=λn f w u c=>by
  rcases ky c with ⟨a,L,rfl,d⟩|⟨I,L,rfl,d⟩
  ·exact nomatch d
  ·injection d with b _;subst b;cases u<;>rfl
def GK(Ql:bA)(x:bc)(a:Int)(w:hq):(lz Ql x).is (.inl a) (.int a w)=X:=Jr a w
def Kp(Ql:bA)(x:bc)(f:aC)(w:hq):(lz Ql x).is (.inr f) (.str f w)=X:=Gk f w
inductive af where
 | aT|ax (e:Bool)|int (a:Int)|str (f:aC)|qi (e:Array UInt8)|xJ (e:UInt64)|ref (g:ao)|ty (r:String)
 deriving DecidableEq
variable{U y:List af}{I u:af}
def b5:af->ae->Prop
 |.aT,L=>L=ae.none
 |.ax e,L=>L=ae.bool e
 |.int a,L=>∃w,L=ae.int a w
 |.str f,L=>∃w,L=ae.str f w
 |.qi e,L=>∃w,L=ae.bytes e w
 |.xJ e,L=>∃w,L=ae.float e w
 |.ref g,L=>L=ae.ref g
 |.ty r,L=>L=ae.type r
abbrev bM:List af->List ae->Prop:=d1 b5
def bM.length(s:bM y QD):y.length=QD.length:=d1.length s
theorem bM.get:∀{y:List af}{QD:List ae}{a:Nat}{f:af},bM y QD->y[a]?=Z f->∃L,QD[a]?=Z L/\b5 f L
 |_,_,_,_,.nil,d=>by simp at d
 |_,_,0,_,.cons s _,d=>by simp at d;subst d;exact⟨_,rfl,s⟩
 |_,_,a+1,f,.cons _ w,d=>by
  let⟨@L,l,D⟩:=bM.get (a:=a) (f:=f) w ⇑d;exact⟨L,by simpa using l,D⟩
theorem bM.set{f:af}{L:ae}(s:b5 f L):∀{y:List af}{QD:List ae} (a:Nat),bM y QD->bM (y.set a f) (QD.set a L)
 |_,_,_,.nil=>.nil
 |_,_,0,.cons _ w=>.cons s w
 |_,_,a+1,.cons p w=>.cons p (bM.set s a w)
theorem bM.append:∀{y Qw:List af}{QD QS:List ae},bM y QD->bM Qw QS->bM (y++Qw) (QD++QS)
 |_,_,_,_,.nil,h=>h
 |_,_,_,_,.cons s w,h=>.cons s (bM.append w h)
theorem bM.take:∀{y:List af}{QD:List ae} (r:Nat),bM y QD->bM (y.take r) (QD.take r)
 |_,_,0,_=>.nil
 |_,_,_+1,.nil=>.nil
 |_,_,r+1,.cons s w=>.cons s (bM.take r w)
theorem bM.drop:∀{y:List af}{QD:List ae} (r:Nat),bM y QD->bM (y.drop r) (QD.drop r)
 |_,_,0,s=>s
 |_,_,_+1,.nil=>.nil
 |_,_,r+1,.cons _ w=>bM.drop r w
def jP:Option af->Option ae->Prop
 |some u,Z L=>b5 u L
 |none,Y=>True
 |_,_=>False
def fq{QC:Type}:List (QC×af)->List (QC×ae)->Prop:=(d1 λ(q:QC×af) (p:QC×ae)=>q.1=p.1/\b5 q.2 p.2)
def bW:d_->af
 |.inl a=>.int a
 |.inr f=>.str f
inductive fX where
 | lst (y:List af)
 | tup (y:List af)
 | dj (Qt:List (d_×af))|aJ (Qt:List (List V×af))
 | set (Qu:Int->Bool) (r:Nat)
 | ins (aM i:ao) (aa:List (aC×af))
 | own (f:ao)
 | xp (aa:List (aC×af))
 | met (B f:ao)
 | wA (R S:Int)
 | dJ (o:a0) (L:fX)
 | mQ (Qr:Array ae)
 | ext (P4:aV->Prop)
variable{o:fX}
abbrev aw:=ao->Option fX
variable{F j:aw}
def upd(j:aw)(g:ao)(o:fX):aw:=(λe=>if e=g then Z o else j e)
def fb:upd j g o g=Z o:=by unfold upd;rw[aE rfl]
def cS(c:e≠g):upd j g o e=j e:=by unfold upd;rw[aI c]
def BN{L:fX}(c:j g=Z o)(T:j e=Z L)(v:o≠L):g≠e:=by
 intro d;subst d;rw[c]at T;exact v (Option.some.inj T)
def gJ(c:j g=Z o)(T:j e=Y):g≠e:=by
 intro d;subst d;rw[c]at T;cases T
mutual
def cp(j:aw):V->af->Prop
 |.aT,u=>u=.aT
 |.ax e,u=>u=.ax e
 |.int a,u=>u=.int a
 |.str f,u=>u=.str f
 |.fn g,u=>u=.ref g
 |.aQ J,u=>∃g y o,u=.ref g/\j g=Z (.dJ o<|.lst y)/\bx j J y
 |.fd,u=>∃g o,u=.ref g/\j g=Z (.dJ o<|.aJ [])
 |.tup J,u=>∃g y,u=.ref g/\j g=Z (.tup y)/\bx j J y
def bx(j:aw):List V->List af->Prop
 |[],U=>U=[]
 |v::J,U=>∃u s,U=u::s/\cp j v u/\bx j J s
end
def p6(j F:aw):Prop:=(∀g y,j g=Z (.tup y)->F g=Z (.tup y))
structure oW(j F:aw):Prop where
 t:p6 j F
 z:∀g o L,j g=Z (.dJ o L)->F g=Z (.dJ o L)
noncomputable instance {j F:aw}:CoeFun (oW j F) (λ_=>∀g y,j g=Z (.tup y)->F g=Z (.tup y)):=⟨λw=>w.t⟩
mutual
theorem cp.mono{j F:aw}(n:oW j F):∀{v:V}{u:af},cp j v u->cp F v u
 |.aT,_,d=>d
 |.ax _,_,d=>d
 |.int _,_,d=>d
 |.str _,_,d=>d
 |.fn _,_,d=>d
 |.tup J,_,d=>by
  let⟨g,@y,rfl,l,D⟩:=d;exact⟨g,y,rfl,n.t g y l,bx.mono n D⟩
 |.aQ J,_,d=>by
  let⟨g,y,@o,rfl,l,D⟩:=d;exact⟨g,y,o,rfl,n.z g _ _ l,bx.mono n D⟩
 |.fd,_,d=>by
  let⟨g,@o,rfl,l⟩:=d;exact⟨g,o,rfl,n.z g _ _ l⟩
theorem bx.mono{j F:aw}(n:oW j F):∀{J:List V}{U:List af},bx j J U->bx F J U
 |[],_,d=>d
 |v::J,_,d=>by
  let⟨u,@s,rfl,l,D⟩:=d;exact⟨u,s,rfl,cp.mono n l,bx.mono n D⟩
end
def gY(j:aw)(n:List V)(e:ao):Prop:=(V.keys 7 n=X/\cp j (.tup n) (.ref e))
mutual
theorem cp.qT{j F:aw}(n:p6 j F):∀{v:V}{r:Nat}{u:af},V.key r v=X->cp j v u->cp F v u
 |.aT,_,_,_,d=>d
 |.ax _,_,_,_,d=>d
 |.int _,_,_,_,d=>d
 |.str _,_,_,_,d=>d
 |.fn _,_,_,_,d=>d
 |.tup J,r+1,_,p,d=>by
  let⟨g,@y,rfl,l,D⟩:=d;exact⟨g,y,rfl,n g y l,bx.qT n p D⟩
 |.tup J,0,_,p,d=>nomatch p
 |.aQ J,0,_,p,d=>nomatch p
 |.aQ J,r+1,_,p,d=>nomatch p
 |.fd,0,_,p,d=>nomatch p
 |.fd,r+1,_,p,d=>nomatch p
theorem bx.qT{j F:aw}(n:p6 j F):∀{J:List V}{r:Nat}{U:List af},V.keys r J=X->bx j J U->bx F J U
 |[],_,_,_,d=>d
 |v::J,r,_,p,d=>by
  let⟨u,@s,rfl,l,D⟩:=d;rw[V.keys,cG]at p;exact⟨u,s,rfl,cp.qT n p.1 l,bx.qT n p.2 D⟩
end
def gY.mono{n:List V}(c:gY j n e)(w:p6 j F):gY F n e:=by
 let@⟨a,⟨g,@y,d,l,D⟩⟩:=c;exact⟨a,g,y,d,w g y l,D.qT w a⟩
def lT(c:aV)(g:ao)(Qy:Array ae):Prop:=(∃o,c.get? g=Z o/\(o.cls,o.dict)=(.type "tuple",Y)/\∃r,o.data=.seq Qy r)
def lT.tup{Qy:Array ae}(f:lT c g Qy):ny c g Qy:=let ⟨o,d,m,s⟩:=f;⟨o,d,(Prod.mk.inj m).1,s⟩
def lT.new(c:aV)(Qy:Array ae):lT (c.push {cls:=.type "tuple",data:=.seq Qy}) c.objs.size Qy:=⟨_,c9 _ rfl,rfl,_,rfl⟩
section
variable(Qf:bA)(x:bc)
def eB(j:aw)(c:aV)(g:ao):fX->Prop
 |.lst y=>y.length<=sizeLine/\∃(Qp:List ae) (r:Nat),bM y Qp/\c.get? g=Z {cls:=.type "list",data:=.seq Qp.toArray r}
 |.tup y=>y.length<=sizeLine/\∃Qp:List ae,bM y Qp/\lT c g Qp.toArray
 |.dj Qt=>Qt.length<=sizeLine/\(g==i1)=aq/\∃U,fq Qt U/\c.DictOf (lz Qf x) g U
 |.aJ Qt=>Qt.length<=sizeLine/\(g==i1)=aq/\∃y:List (List V×ao×ae),
   d1 (λ(q:List V×af) (p:List V×ao×ae)=>q.1=p.1/\gY j q.1 p.2.1/\b5 q.2 p.2.2) Qt y/\
   ∃o Qe Q0,c.get? g=Z o/\o.ExactDict/\o.data=.dict Qe Q0/\Qe.toList=y.map (entryOfKey<|d8 Qf x)/\(y.map (·.1)).Nodup
 |.set Qu r=>c.SetOf (intKind Qf x) g Qu r
 |.ins aM i aa=>j i=Z (.own g)/\aa.length<=1000/\i≠g/\c.get? g=Z (PySem.W.instObj aM i)/\
   ∃A,c.Ns1 i A/\(∀B,jP (aa.lookup B)<|A B)/\PySem.Within A (aa.map (·.1))
 |.own _=>∃o,c.get? g=Z o
 |.xp aa=>∃A,c.Ns1 g A/\∀B,jP (aa.lookup B) (A B)
 |.wA R S=>∃w L u,c.get? g=Z {cls:=.type "range",data:=.fields #[.int R w,.int S L,.int 1 u]}
 |.dJ o L=>c.get? g=Z o/\eB j c g L
 |.mQ Qr=>c.get? g=Z {cls:=.none,data:=.fields Qr}
 |.met B f=>c.get? g=Z (Γ (.ref B)<|.ref f)
 |.ext a=>a c/\(∃o,c.get? g=Z o)/\∀l D:aV,a l->(∀o,l.get? g=Z o->D.get? g=Z o)->a D
def dN(j:aw)(c:aV):Prop:=(∀g o,j g=Z o->eB Qf x j c g o)
end
section
variable{Qf:bA}{x:bc}{j F:aw}{c T:aV}{g:ao}{o:fX}
def eB.lt(f:eB Qf x j c g o):g<c.objs.size:=by
 cases o with
 |lst y=>let@⟨_,⟨_,@_,_,d⟩⟩:=f;exact bZ d
 |tup y=>let@⟨_,⟨@_,_,q⟩⟩:=f;exact q.tup.lt
 |dj Qt=>let@⟨_,_,⟨@_,_,⟨o,_,@_,d,_⟩⟩⟩:=f;exact bZ d
 |aJ Qt=>let@⟨_,_,⟨@_,_,⟨o,_,@_,d,_⟩⟩⟩:=f;exact bZ d
 |set Qu r=>let⟨o,W,W,@W,d,W⟩:=f;exact bZ d
 |ins aM i aa=>let@⟨_,_,_,d,_⟩:=f;exact bZ d
 |own I=>let⟨@W,d⟩:=f;exact bZ d
 |xp aa=>let⟨@W,⟨W,W,@W,d,W⟩,W⟩:=f;exact bZ d
 |wA R S=>let⟨W,W,@W,d⟩:=f;exact bZ d
 |dJ a L=>let@⟨d,_⟩:=f;exact bZ d
 |mQ Qr=>exact bZ (show c.get? g=Z _ from f)
 |met B I=>exact bZ (show c.get? g=Z _ from f)
 |ext b=>let@⟨_,⟨@_,d⟩,_⟩:=f;exact bZ d
theorem d1.se{QG Q9:Type}{P Qq:QG->Q9->Prop}:∀{a:List QG}{b:List Q9},d1 P a b->(∀g e,P g e->Qq g e)->d1 Qq a b
 |_,_,.nil,_=>.nil
 |_,_,.cons s w,B=>.cons (B _ _ s) (d1.se w B)
def eB.iL(f:eB Qf x j c g o)(n:∀e L,(e=g\/j e=Z (.own g))->c.get? e=Z L->T.get? e=Z L)(b:∀e,j e=Z (.own g)->F e=Z (.own g))(ba:∀e y,j e=Z (.tup y)->F e=Z (.tup y)):eB Qf x F T g o:=by
 induction o with
 |lst y=>let@⟨H,⟨Qp,@r,s,d⟩⟩:=f;exact⟨H,Qp,r,s,n _ _ (.inl rfl) d⟩
 |tup y=>let@⟨H,⟨@Qp,s,⟨@a,d,m⟩⟩⟩:=f;exact⟨H,Qp,s,a,n _ _ (.inl rfl) d,m⟩
 |dj Qt=>let@⟨H,I,⟨@U,s,⟨a,Qe,@Q0,d,m⟩⟩⟩:=f;exact⟨H,I,U,s,a,Qe,Q0,n _ _ (.inl rfl) d,m⟩
 |aJ Qt=>
  let@⟨H,I,⟨@y,s,⟨a,Qe,@Q0,d,m⟩⟩⟩:=f;exact⟨H,I,y,d1.se s λq p H=>⟨H.1,H.2.1.mono ba,H.2.2⟩,a,Qe,Q0,n _ _ (.inl rfl) d,m⟩
 |set Qu r=>let⟨a,Qe,Q0,@w,d,m⟩:=f;exact⟨a,Qe,Q0,w,n _ _ (.inl rfl) d,m⟩
 |ins aM i aa=>
  let@⟨v,H,ne,d,⟨@A,⟨l,Qe,@Q0,h,m⟩,s⟩⟩:=f;exact⟨b _ v,H,ne,n _ _ (.inl rfl) d,A,⟨l,Qe,Q0,n _ _ (.inr v) h,m⟩,s⟩
 |own I=>let⟨@a,d⟩:=f;exact⟨a,n _ _ (.inl rfl) d⟩
 |xp aa=>let⟨@A,⟨l,Qe,@Q0,d,m⟩,s⟩:=f;exact⟨A,⟨l,Qe,Q0,n _ _ (.inl rfl) d,m⟩,s⟩
 |wA R S=>let⟨w,L,@u,d⟩:=f;exact⟨w,L,u,n _ _ (.inl rfl) d⟩
 |dJ a L k=>let@⟨d,p⟩:=f;exact⟨n _ _ (.inl rfl) d,k p⟩
 |mQ Qr=>
  have d:c.get? g=Z {cls:=.none,data:=.fields Qr}:=f;show T.get? g=Z {cls:=.none,data:=.fields Qr};exact n g _ (.inl rfl) d
 |met B I=>
  have d:c.get? g=Z (Γ (.ref B)<|.ref I):=f;show T.get? g=Z (Γ (.ref B)<|.ref I);exact n g _ (.inl rfl) d
 |ext t=>let@⟨q,⟨@o,d⟩,N⟩:=f;exact⟨N _ _ q λo p=>n _ _ (.inl rfl) p,⟨o,n _ _ (.inl rfl) d⟩,N⟩
theorem dN.lt(f:dN Qf x j c)(d:j g=Z o):g<c.objs.size:=(f g o d).lt
def dN.fresh(f:dN Qf x j c)(d:c.objs.size<=g):j g=Y:=by
 cases p:j g with
 |none=>rfl
 |some L=>exact absurd (eZ (f.lt p) d) (kh _)
def dN.kept(f:dN Qf x j c)(n:∀e L,c.get? e=Z L->T.get? e=Z L):dN Qf x j T:=λg o d=>
 (f g o d).iL (λe L W p=>n e L p) (λ_ p=>p) λ_ W p=>p
def dN.laid(f:dN Qf x j c)(n:∀e L,c.get? e=Z L->T.get? e=Z L)(h:c.objs.size<=g)(new:eB Qf x (upd j g o) T g o):dN Qf x (upd j g o) T:=λe L d=>by
 have a:=f.fresh h;by_cases b:e=g
 ·subst b;rw[fb]at d;cases d;exact new
 ·rw[cS b]at d;exact (f e L d).iL (λm u W p=>n m u p) (λm p=>by rw[cS (gJ p a)];exact p) λm y p=>by rw[cS (gJ p a)];exact p
end
def j4(j:aw)(g:ao)(L:fX):Prop:=(j g=Z L\/∃o,j g=Z (.dJ o L))
def j4.ok{L:fX}(s:j4 j g L)(f:dN Qf x j c):eB Qf x j c g L:=by
 rcases s with s|⟨o,s⟩
 ·exact f g L s
 ·let@⟨_,p⟩:=f g _ s;exact p
def pz:Option fX->Prop
 |some (.lst _)=>True
 |some (.dj _)=>True
 |some (.aJ _)=>True
 |some (.set _ _)=>True
 |some (.ins _ _ _)=>True
 |some (.ext _)=>True
 |_=>False
section
variable{Qf:bA}{x:bc}{j:aw}{c T:aV}{f d:ao}{QU:fX}
def dN.write(ok:dN Qf x j c)(a:pz (j f))(i:d=f\/j d=Z (.own f))(n:∀e L,e≠d->c.get? e=Z L->T.get? e=Z L)(o:∃L,T.get? d=Z L)(new:eB Qf x (upd j f QU) T f QU):dN Qf x (upd j f QU) T:=λe L p=>by
 have k:∀m I,j m=Z (.own I)->m≠f:=λm I s H=>by subst H;rw[s]at a;exact a
 have q:∀m y,j m=Z (.tup y)->m≠f:=λm y s H=>by subst H;rw[s]at a;exact a
 by_cases b:e=f
 ·subst b;rw[fb]at p;cases p;exact new
 ·rw[cS b]at p;by_cases g:e=d
  ·have l:j e=Z (.own f):=by
    rcases i with H|H
    ·exact absurd (g.trans H) b
    ·rw[g];exact H
   rw[p]at l;cases l;let⟨@u,r⟩:=o;exact⟨u,by rw[g];exact r⟩
  ·refine (ok e L p).iL (λm u h s=>n m u ?_ s) (λm s=>by rw[cS (k m e s)];exact s) λm y s=>by rw[cS (q m y s)];exact s
   rcases h with rfl|h
   ·exact g
   ·rintro rfl;rcases i with H|H
    ·exact k m e h H
    ·rw[h]at H;cases H;exact b rfl
end
structure eP(aa Q6:List ao)(j F:aw)(c T:aV):Prop where
 keep:∀e o,c.get? e=Z o->j e=Y->e∉aa->e∉Q6->T.get? e=Z o
 slot:∀e o,c.get? e=Z o->j e=Y->e∈aa->e∉Q6->∃aS,T.get? e=Z {o with slots:=aS}
 free:∀e o,c.get? e=Z o->j e=Y->e∉Q6->F e=Y
 there:∀e o,c.get? e=Z o->e∉Q6->∃QU,T.get? e=Z QU
 j0:∀e y,j e=Z (.tup y)->F e=Z (.tup y)
 ji:∀e o L,j e=Z (.dJ o L)->F e=Z (.dJ o L)
 kK:∀e Qr,j e=Z (.mQ Qr)->∃more,F e=Z (.mQ<|Qr++more)
section
variable{aa k Q6 b:List ao}{j Qm Qz:aw}{c l D T:aV}{g f d:ao}{o:fX}
def eP.any(L:eP aa Q6 j Qm c l){e:ao}{a:a0}(p:c.get? e=Z a)(r:j e=Y)(b:e∉Q6):∃aS,l.get? e=Z {a with slots:=aS}:=by
 by_cases d:e∈aa
 ·exact L.slot e a p r d b
 ·exact⟨a.slots,L.keep e a p r d b⟩
def eP.kept(n:∀e L,c.get? e=Z L->T.get? e=Z L):eP aa Q6 j j c T:=
 ⟨λe a p W W W=>n e a p,λe a p W W W=>⟨a.slots,n e a p⟩,λ_ W W r W=>r,λe a p W=>⟨a,n e a p⟩,λ_ W p=>p,λ_ W W p=>p,λ_ Qr p=>⟨#[],by rw[p];simp⟩⟩
def eP.refl:eP aa Q6 j j c c:=eP.kept λ_ W p=>p
theorem eP.laid(n:∀e L,c.get? e=Z L->T.get? e=Z L)(b:c.objs.size<=g)(a:j g=Y):eP aa Q6 j (upd j g o) c T where
 keep:=λe L p W W W=>n e L p
 slot:=λe L p W W W=>⟨L.slots,n e L p⟩
 free:=λe L p r W=>by rw[cS (c2<|eZ (bZ p) b)];exact r
 there:=λe L p W=>⟨L,n e L p⟩
 j0:=λe y p=>by rw[cS (gJ p a)];exact p
 ji:=λe L y p=>by rw[cS (gJ p a)];exact p
 kK:=λe Qr p=>⟨#[],by rw[cS (gJ p a),p];simp⟩
def eP.write(a:pz (j f))(k:d=f\/j d=Z (.own f))(n:∀e L,e≠d->c.get? e=Z L->T.get? e=Z L)(l:∃L,T.get? d=Z L):eP aa Q6 j (upd j f o) c T:=by
 have g:∀e,j e=Y->e≠f:=λe r H=>by subst H;rw[r]at a;exact a
 have h:∀e,j e=Y->e≠d:=λe r H=>by
  subst H;rcases k with s|s
  ·exact g e r s
  ·rw[r]at s;cases s
 have b:∀e L,j e=Z L->¬ pz (Z L)->e≠f:=λe L p t H=>by subst H;rw[p]at a;exact t a
 refine⟨λe L p r W W=>n e L (h e r) p,λe L p r W W=>⟨L.slots,n e L (h e r) p⟩,λe L p r W=>by rw[cS (g e r)];exact r,λe L p W=>?_,
  λe y p=>by rw[cS (b e _ p λH=>H)];exact p,λe L y p=>by rw[cS (b e _ p λH=>H)];exact p,λe Qr p=>⟨#[],by rw[cS (b e _ p λH=>H),p];simp⟩⟩;by_cases i:e=d
 ·subst i;exact l
 ·exact⟨L,n e L i p⟩
end
def th(c:aV)(j:aw):List ao:=((range c.objs.size).filter λg=>(j g).isSome)
def kM(c:aV)(j:aw):aV:=(PySem.W.hideAll c (th c j))
def FX(c:aV)(j:aw):(kM c j).objs.size=c.objs.size:=PySem.W.hideAll_size _ _
def KG{o:a0}(d:c.get? e=Z o)(r:j e=Y):(kM c j).get? e=Z o:=
 PySem.W.hideAll_get _ d λa=>by
  have p:(j e).isSome=X:=(gn.mp a).2;rw[r]at p;simp at p
def N5{o:a0}(d:(kM c j).get? e=Z o):c.get? e=Z o/\j e=Y:=by
 have a:c.get? e=Z o:=PySem.W.of_hideAll (th c j) d;refine⟨a,?_⟩;cases p:j e with
 |none=>rfl
 |some f=>
  have b:e∈th c j:=gn.mpr ⟨eX.mpr<|bZ a,by simp[p]⟩;have H:(kM c j).get? e=Y:=PySem.W.hideAll_none (th c j) b;rw[H]at d;cases d
def I5(M c:aV)(Qo:ao):List (ao×a0):=((range c.objs.size).filterMap λg=>if g=Qo\/(M.get? g).isSome=X then Y else (c.get? g).map λo=>(g,o))
def cL(M c:aV)(Qo v:ao):List (ao×a0):=((I5 M c Qo).filter λq=>decide (q.1≠v))
structure Mod(Qk:Φ)(aH:aC->Option ae)(Qv:aV):Prop where
 vh:Qk.In Qv
 glob:Qv.Ns dh aH
 blt:∃Br,Qv.Ns w6 Br/\∀f:aC,f ≠ "__name__" -> Br f=ez f
 nolimit:Qv.NoLimit
structure aK where
 prog:bA
 w:bc
 K:Φ
 aH:aC->Option ae
 base:aV
 A:bj
 N:List aC
 eF:ah
 n1:aw
 env:ew
 outer:List ew
 stack:List ew
 ex:List ao
 fn:aC->Bool
 calm:Bool
 j8:List (ao×a0)
 cE:ae->ah->Prop
variable{b:aK}
def ht(t:List ew):List ao:=(t.filterMap (·.frame))
abbrev aK.aa(b:aK):List ao:=ht b.outer
def tf(w:gf)(f:aC):Prop:=(w.names.lookup f=Z .local\/w.names.lookup f=Z .cell\/w.names.lookup f=Z .free)
def jk(w:gf)(f:aC):Prop:=(w.names.lookup f=Z .local\/w.names.lookup f=Z .cell)
def Lf(Qi:ew)(c:aV)(k:aC->Option ae)(f:aC)(L:ae):Prop:=(
 (Qi.kindOf f=Z .local/\k f=Z L)\/((Qi.kindOf f=Z .cell\/Qi.kindOf f=Z .free)/\∃m,Qi.cells.lookup f=Z m/\c.IsCell m (Z L)))
structure aK.Ok(b:aK):Prop where
 mod:Mod b.K b.aH b.base
 kind:b.env.scope.kind=.function
 glob:b.env.globals=dh
 blt:b.env.builtins=w6
 above:b.eF.heap.objs.size<=b.env.locals
 inj:∀f I m,b.env.cells.lookup f=Z m->b.env.cells.lookup I=Z m->f=I
 has:∀f,(b.env.kindOf f=Z .cell\/b.env.kindOf f=Z .free)->∃m,b.env.cells.lookup f=Z m
 nI:∀f m,b.fn f=X->b.env.cells.lookup f=Z m->b.eF.heap.objs.size<=m
 hd:b.calm=X->b.A.handled=Y
 frames:b.A.frames=Z b.stack
 pS:b.stack=b.outer\/(b.stack=b.env::b.outer/\b.env.frame=Z b.env.locals)
 wW:∀e∈b.ex,e≠b.env.locals/\∀f m,b.env.cells.lookup f=Z m->m≠e
 bs:∀e o,b.base.get? e=Z o->b.eF.heap.get? e=Z o/\b.n1 e=Y
 kN:b.base.objs.size<=b.eF.heap.objs.size
 nB:∀e o,b.base.get? e=Z o->e∉b.ex
 n9:∀e∈b.ex,e∉b.aa
 iq:b.eF.heap.FunFrames b.base b.outer
 mx:∀e∈b.aa,b.n1 e=Y
structure aA(b:aK)(G:List (ao×a0))(z:List (Option af))(j:aw)(h:ah):Prop where
 ok:b.Ok
 os:h.os=b.eF.os
 bare:kU h.gens
 base:eP b.aa b.ex b.n1 j b.eF.heap h.heap
 loc:∃k,h.heap.Ns b.env.locals k/\∀(a:Nat) (f:aC) (u:af),b.N[a]?=Z f->z[a]?=Z (Z u)->tf b.env.scope f->∃L,b5 u L/\Lf b.env h.heap k f L
 cell:∀f m,b.env.cells.lookup f=Z m->∃u,h.heap.IsCell m u
 free:j b.env.locals=Y
 iC:∀f m,b.env.cells.lookup f=Z m->j m=Y
 pin:∀q∈b.j8++G,h.heap.get? q.1=Z q.2/\j q.1=Y/\q.1≠b.env.locals/\q.1∉b.aa/\∀u,q.2.data≠.cell u
 a3:dN b.prog b.w j h.heap
 len:z.length=b.N.length
section
variable{b:aK}{G:List (ao×a0)}{z:List (Option af)}{j F:aw}{h:ah}{T:aV}
def aK.Ok.IJ(ok:b.Ok){e:ao}{o:a0}(d:b.base.get? e=Z o):e∉b.aa:=λa=>by
 have:=(ok.iq.mem a).1;rw[d]at this;cases this
def aA.bs(E:aA b G z j h):∀e o,b.base.get? e=Z o->h.heap.get? e=Z o/\j e=Y:=λe o d=>
 ⟨E.base.keep e o (E.ok.bs e o d).1 (E.ok.bs e o d).2 (E.ok.IJ d) (E.ok.nB e o d),E.base.free e o (E.ok.bs e o d).1 (E.ok.bs e o d).2 (E.ok.nB e o d)⟩
def aA.eD(E:aA b G z j h):∀e o,b.base.get? e=Z o->h.heap.get? e=Z o:=λe o d=>(E.bs e o d).1
def aA.mod(E:aA b G z j h):Mod b.K b.aH b.base:=E.ok.mod
def aA.oQ(E:aA b G z j h):b.K.In h.heap:=E.ok.mod.vh.keeps E.eD
def aA.lt(E:aA b G z j h):b.env.locals<h.heap.objs.size:=let ⟨_,a,_⟩:=E.loc;a.lt
def aA.iE(E:aA b G z j h):b.eF.heap.objs.size<=h.heap.objs.size:=eU E.ok.above (my E.lt)
def aA.Od(E:aA b G z j h){g:ao}(c:h.heap.objs.size<=g):g∉b.aa:=λa=>by
 let@⟨_,⟨@o,d,_⟩⟩:=E.ok.iq.mem a;exact absurd (eZ (bZ d)<|eU E.iE c) (kh _)
def aA.mO(E:aA b G z j h):∀f m,b.env.cells.lookup f=Z m->m≠b.env.locals:=λf m d H=>by
 let⟨u,@o,a,c⟩:=E.cell f m d;let⟨@k,⟨QU,Qe,@Q0,e,g,W⟩,W⟩:=E.loc;rw[H,e]at a;cases a;rw[g]at c;cases c
def aA.iq(E:aA b G z j h):h.heap.FunFrames b.base b.outer:=by
 have all:∀(t:List ew),(∀e∈ht t,e∈b.aa)->b.eF.heap.FunFrames b.base t->h.heap.FunFrames b.base t:=by
  intro t;induction t with
  |nil=>intro W W;trivial
  |cons Qi s g=>
   intro Qj i;let@⟨k,⟨Qo,@o,a,l,m,n⟩,p⟩:=i;have c:Qo∈b.aa:=Qj Qo (by unfold ht;rw[qo,a];exact kr);let⟨@aS,d⟩:=E.base.slot Qo o m (E.ok.mx Qo c) c λH=>E.ok.n9 Qo H c;exact⟨k,⟨Qo,_,a,l,d,n⟩,g (λe f=>Qj e (by unfold ht;rw[qo,a];exact jT _ f)) p⟩
 exact all b.outer (λ_ f=>f) E.ok.iq
def aA.stack(E:aA b G z j h):h.heap.FunFrames b.base b.stack:=by
 rcases E.ok.pS with d|⟨d,a⟩
 ·rw[d];exact E.iq
 ·rw[d];let⟨@k,c,W⟩:=E.loc;refine .cons (by rw[E.ok.kind];decide) a c ?_ E.iq;exact xw (eU E.ok.kN E.ok.above)
def aA.wQ(E:aA b G z j h):∀e∈ht b.stack,e∈b.env.locals::b.aa:=λe a=>by
 rcases E.ok.pS with d|⟨d,c⟩
 ·rw[d]at a;exact jT _ a
 ·rw[d]at a;unfold ht at a;rw[qo,c]at a;exact a
def aA.A8(E:aA b G z j h):∀e∈ht b.stack,j e=Y:=λe a=>by
 rcases cj.mp (E.wQ e a) with d|a
 ·rw[d];exact E.free
 ·let@⟨_,⟨@o,c,_⟩⟩:=E.ok.iq.mem a;exact E.base.free e o c (E.ok.mx e a) λH=>E.ok.n9 e H a
def aA.step{J:Array oF}{QM:Nat}{al:Drawn}{Rh:List ao}(E:aA b G z j h)(A:∀e∈Rh,(e∈b.ex\/b.eF.heap.objs.size<=e)/\e≠b.env.locals/\(∀f m,b.env.cells.lookup f=Z m->m≠e)/\∀q∈b.j8++G,q.1≠e)(keep:∀e o,e≠b.env.locals->e∉b.aa->e∉Rh->h.heap.get? e=Z o->j e=Y->T.get? e=Z o)(M:∀e o,e≠b.env.locals->e∈b.aa->e∉Rh->h.heap.get? e=Z o->j e=Y->∃aS,T.get? e=Z {o with slots:=aS})(free:∀e o,e∉Rh->h.heap.get? e=Z o->j e=Y->F e=Y)(am:∀e o,e∉Rh->h.heap.get? e=Z o->∃QU,T.get? e=Z QU)(j0:∀e y,j e=Z (.tup y)->F e=Z (.tup y))(ji:∀e o L,j e=Z (.dJ o L)->F e=Z (.dJ o L))(kK:∀e Qr,j e=Z (.mQ Qr)->∃an,F e=Z (.mQ<|Qr++an))(R:∀k,h.heap.Ns b.env.locals k->T.Ns b.env.locals k)(a3:dN b.prog b.w F T)(ap:kU J):
  aA b G z F {h with heap:=T,gens:=J,drawn:=al,toks:=QM}:=by
 have N:∀e o,b.eF.heap.get? e=Z o->e≠b.env.locals:=λe o d=>c2 (eZ (bZ d) E.ok.above);have D:∀e o,b.eF.heap.get? e=Z o->e∉b.ex->e∉Rh:=λe o d c i=>by
  rcases (A e i).1 with H|H
  ·exact c H
  ·exact absurd (eZ (bZ d) H) (kh _)
 have O:∀f m,b.env.cells.lookup f=Z m->∀u,h.heap.IsCell m u->T.IsCell m u:=λf m d u ⟨o,l,I⟩=>by
  have B:m∉Rh:=λH=>(A m H).2.2.1 f m d rfl;by_cases P:m∈b.aa
  ·let⟨@aS,p⟩:=M m o (E.mO f m d) P B l (E.iC f m d);exact⟨_,p,I⟩
  ·exact⟨o,keep m o (E.mO f m d) P B l<|E.iC f m d,I⟩
 refine⟨E.ok,E.os,ap,⟨λe o d r i c=>?_,λe o d r i c=>?_,λe o d r c=>?_,λe o d c=>?_,λe y d=>j0 e y<|E.base.j0 e y d,λe o y d=>ji e o y<|E.base.ji e o y d,λe Qr d=>?_⟩,?_,λf m d=>?_,?_,λf m d=>?_,λq S=>?_,a3,E.len⟩
 ·exact keep e o (N e o d) i (D e o d c) (E.base.keep e o d r i c) (E.base.free e o d r c)
 ·let⟨@aS,g⟩:=E.base.slot e o d r i c;let⟨@as,C⟩:=M e _ (N e o d) i (D e o d c) g (E.base.free e o d r c);exact⟨as,C⟩
 ·let⟨@QU,g⟩:=E.base.there e o d c;exact free e QU (D e o d c) g (E.base.free e o d r c)
 ·let⟨@QU,g⟩:=E.base.there e o d c;exact am e QU (D e o d c) g
 ·let⟨@a1,g⟩:=E.base.kK e Qr d;let⟨@a2,C⟩:=kK e _ g;exact⟨a1++a2,by rw[C,Array.append_assoc]⟩
 ·let⟨@k,bd,be⟩:=E.loc;refine⟨k,R k bd,λa f u g C bi=>?_⟩;let⟨@L,s,t⟩:=be a f u g C bi;refine⟨L,s,?_⟩;rcases t with t|⟨n,m,d,H⟩
  ·exact .inl t
  ·exact .inr ⟨n,m,d,O f m d _ H⟩
 ·let⟨@u,H⟩:=E.cell f m d;exact⟨u,O f m d u H⟩
 ·let⟨@k,⟨o,W,@W,l,W⟩,W⟩:=E.loc;exact free _ o (λH=>(A _ H).2.1 rfl) l E.free
 ·let⟨u,@o,l,I⟩:=E.cell f m d;exact free m o (λH=>(A m H).2.2.1 f m d rfl) l (E.iC f m d)
 ·let@⟨d,r,ne,U,v⟩:=E.pin q S;have B:q.1∉Rh:=λH=>(A q.1 H).2.2.2 q S rfl;exact⟨keep q.1 q.2 ne U B d r,free q.1 q.2 B d r,ne,U,v⟩
def aA.un(E:aA b G z j h)(L:eP b.aa [] j F h.heap T)(a3:dN b.prog b.w F T):aA b G z F {h with heap:=T,toks:=QM}:=by
 let⟨@k,⟨o,Qe,@Q0,c,s⟩,W⟩:=id E.loc;let⟨@aS,g⟩:=L.any c E.free ↥0;exact E.step (J:=h.gens) (al:=h.drawn) (Rh:=[]) (λ_ H=>nomatch H) (λe o W a W d r=>L.keep e o d r a ↥0) (λe o W a W d r=>L.slot e o d r a ↥0) (λe o W d r=>L.free e o d r ↥0) (λe o W d=>L.there e o d ↥0) L.j0 L.ji L.kK (λq i=>by
  let⟨QU,l,@m,f,Q1⟩:=i;rw[c]at f;cases f;exact⟨_,l,m,g,Q1⟩) a3 E.bare
def aA.call{g:Array oF}{p:Drawn}(E:aA b G z j h)(L:eP (ht b.stack) Rh j F h.heap T)(a3:dN b.prog b.w F T)(t:kU g)(i:∀e∈Rh,(e∈b.ex\/b.eF.heap.objs.size<=e)/\e≠b.env.locals/\(∀f m,b.env.cells.lookup f=Z m->m≠e)/\∀q∈b.j8++G,q.1≠e):
  aA b G z F {h with heap:=T,gens:=g,drawn:=p,toks:=QM}:=by
 let⟨@k,⟨o,Qe,@Q0,l,s⟩,W⟩:=id E.loc;let⟨@aS,c⟩:=L.any l E.free λH=>(i _ H).2.1 rfl;exact E.step (Rh:=Rh) i (λe o c u a d r=>L.keep e o d r (λH=>(cj.mp<|E.wQ e H).elim c u) a) (λe o W W a d r=>L.any d r a) (λe o a d r=>L.free e o d r a) (λe o a d=>L.there e o d a) L.j0 L.ji L.kK (λB v=>by
  let⟨QU,y,@A,n,Q1⟩:=v;rw[l]at n;cases n;exact⟨_,y,A,c,Q1⟩) a3 t
def aA.turned{it:ao}(E:aA b G z j h)(n:∀e o,e≠it->h.heap.get? e=Z o->T.get? e=Z o)(i:j it=Y)(c:it≠b.env.locals)(l:it∈b.ex\/b.eF.heap.objs.size<=it)(D:∀f m,b.env.cells.lookup f=Z m->m≠it)(t:∀q∈b.j8++G,q.1≠it):aA b G z j {h with heap:=T,toks:=QM}:=by
 have g:∀e L,j e=Z L->e≠it:=λe L d H=>by rw[H,i]at d;cases d
 refine E.step (J:=h.gens) (al:=h.drawn) (Rh:=[it]) (λe v=>?_) (λe o W W a d W=>n e o (λH=>a (by simp[H])) d) (λe o W W a d W=>⟨o.slots,n e o (λH=>a (by simp[H])) d⟩) (λ_ W W W r=>r)
  (λe o a d=>⟨o,n e o (λH=>a (by simp[H])) d⟩) (λ_ W d=>d) (λ_ W W d=>d) (λe Qr d=>⟨#[],by rw[d];simp⟩) (λk w=>?_) (λe L d=>?_) E.bare
 ·have d:e=it:=by simpa using v
  subst d;exact⟨l,c,D,t⟩
 ·let⟨o,Qe,@Q0,x,s⟩:=w;exact⟨o,Qe,Q0,n _ o (fz c) x,s⟩
 ·refine (E.a3 e L d).iL (λm u a p=>n m u ?_ p) (λ_ p=>p) λ_ W p=>p;rcases a with H|H
  ·rw[H];exact g e L d
  ·exact g m _ H
def aA.tok(E:aA b G z j h)(w:Nat):aA b G z j {h with toks:=w}:=E.un (T:=h.heap) (QM:=w) eP.refl E.a3
def aA.kept(E:aA b G z j h)(n:∀e L,h.heap.get? e=Z L->T.get? e=Z L):aA b G z j {h with heap:=T,toks:=QM}:=E.un (eP.kept n) (E.a3.kept n)
def aA.laid(E:aA b G z j h)(n:∀e L,h.heap.get? e=Z L->T.get? e=Z L)(a:h.heap.objs.size<=g)(new:eB b.prog b.w (upd j g o) T g o):
  aA b G z (upd j g o) {h with heap:=T,toks:=QM}:=E.un (eP.laid n a<|E.a3.fresh a) (E.a3.laid n a new)
def aA.write{f d:ao}(E:aA b G z j h)(a:pz (j f))(c:d=f\/j d=Z (.own f))(n:∀e L,e≠d->h.heap.get? e=Z L->T.get? e=Z L)(g:∃L,T.get? d=Z L)(new:eB b.prog b.w (upd j f o) T f o):aA b G z (upd j f o) {h with heap:=T,toks:=QM}:=E.un (eP.write a c n g) (E.a3.write a c n g new)
def aA.weak{c:List (Option af)}(E:aA b G z j h)(d:c.length=z.length)(x:∀(a:Nat) u,c[a]?=Z (Z u)->z[a]?=Z (Z u)):aA b G c j h:=
 ⟨E.ok,E.os,E.bare,E.base,let ⟨k,e,g⟩:=E.loc;⟨k,e,λa f u i l m=>g a f u i (x a u l) m⟩,E.cell,E.free,E.iC,E.pin,E.a3,d.trans E.len⟩
def aA.nz{a:List (ao×a0)}(E:aA b G z j h)(c:∀q∈a,h.heap.get? q.1=Z q.2/\j q.1=Y/\q.1≠b.env.locals/\q.1∉b.aa/\∀u,q.2.data≠.cell u):aA b a z j h:=
 ⟨E.ok,E.os,E.bare,E.base,E.loc,E.cell,E.free,E.iC,λq d=>(dK.mp d).elim (λH=>E.pin q<|dQ _ H)<|c q,E.a3,E.len⟩
def EK(b:QO.Nodup){a i:Nat}{f:aC}(g:QO[a]?=Z f)(e:QO[i]?=Z f):a=i:=by
 let⟨@l,c⟩:=e9.mp g;let⟨@D,d⟩:=e9.mp e;exact (B1 b).mp (c.trans d.symm)
variable{C:Unit->ah->Prop}
def AU{ay:gO}(E:aA b G z j h)(a1:b.N.Nodup)(S:b.N[a]?=Z f)(y:jk b.env.scope f)(s:b5 u L)(c:∀Qd,aA b G (z.set a<|Z u) j Qd->(∃g,aV.SameBut g h.heap Qd.heap/\(g=b.env.locals\/b.env.cells.lookup f=Z g))->C () Qd)(bv:b.fn f=X\/b.env.scope.names.lookup f=Z .local:=by first|exact .inl rfl|exact .inr rfl|assumption):wpAny ay O (storeName b.env f L) C Qh h:=by
 let⟨@k,R,a2⟩:=id E.loc;have ca:(b.env.scope.kind==.class || (b.env.scope.kind==.module&&b.env.locals != b.env.globals))=aq:=by rw[E.ok.kind];rfl
 have bd:a<z.length:=by rw[E.len];exact (e9.mp S).1
 have mO:=E.mO;have be:∀{g:ao}{T:aV},(∃o,h.heap.get? g=Z o/\j g=Y)->aV.SameBut g h.heap T->dN b.prog b.w j T:=λ{g T} cd Qj e ce d=>by
  let⟨@W,W,bi⟩:=cd;refine (E.a3 e ce d).iL (λm M t p=>(Qj.2 m ?_).trans p) (λ_ p=>p) λ_ W p=>p;rintro rfl;rcases t with rfl|t
  ·rw[bi]at d;cases d
  ·rw[bi]at t;cases t
 rcases y with B|B
 ·refine wpAny_storeName_local B R (λT ch Qj=>?_) ca;let⟨ci,W,@W,cl,W⟩:=id R;refine c _ ⟨E.ok,E.os,E.bare,⟨λe o d r F y=>?_,λe o d r F y=>?_,E.base.free,λe o d y=>?_,E.base.j0,E.base.ji,E.base.kK⟩,⟨_,ch,λi I U l A al=>?_⟩,λI m d=>?_,E.free,E.iC,λq am=>?_,be ⟨ci,cl,E.free⟩ Qj,by simpa using E.len⟩ ⟨_,Qj,.inl rfl⟩
  ·exact (Qj.2 e<|c2<|eZ (bZ d) E.ok.above).trans (E.base.keep e o d r F y)
  ·let⟨@aS,l⟩:=E.base.slot e o d r F y;exact⟨aS,(Qj.2 e<|c2<|eZ (bZ d) E.ok.above).trans l⟩
  ·let⟨@QU,l⟩:=E.base.there e o d y;exact⟨QU,(Qj.2 e<|c2<|eZ (bZ d) E.ok.above).trans l⟩
  ·by_cases J:i=a
   ·subst J;rw[S]at l;cases l;rw[tj bd]at A;cases A;exact⟨L,s,.inl ⟨B,by simp⟩⟩
   ·rw[mC (fz J)]at A;let⟨@an,Q1,p⟩:=a2 i I U l A al;refine⟨an,Q1,?_⟩;rcases p with ⟨n,d⟩|⟨n,m,d,H⟩
    ·refine .inl ⟨n,?_⟩;have:I≠f:=λd=>J (EK a1 l<|d ▸ S);simp[this,d]
    ·exact .inr ⟨n,m,d,H.sameBut Qj<|mO I m d⟩
  ·let⟨@M,H⟩:=E.cell I m d;exact⟨M,H.sameBut Qj<|mO I m d⟩
  ·let@⟨d,r,ne,ap,v⟩:=E.pin q am;exact⟨(Qj.2 q.1 ne).trans d,r,ne,ap,v⟩
 ·have as:b.fn f=X:=by
   rcases bv with H|H
   ·exact H
   ·rw[H]at B;cases B
  let⟨@m,t⟩:=E.ok.has f (.inl B);let⟨@M,H⟩:=E.cell f m t;refine wpAny_storeName_cell E.ok.kind B t H (λT bm Qj=>?_);let⟨@D,bn,co⟩:=id H;refine c {h with heap:=T} ⟨E.ok,E.os,E.bare,⟨λe o d r F y=>?_,λe o d r F y=>?_,E.base.free,λe o d y=>?_,E.base.j0,E.base.ji,E.base.kK⟩,⟨k,R.sameBut Qj<|fz<|mO f m t,λi I U l A al=>?_⟩,λI P d=>?_,E.free,E.iC,λq am=>?_,be ⟨D,bn,E.iC f m t⟩ Qj,by simpa using E.len⟩ ⟨m,Qj,.inr t⟩
  ·exact (Qj.2 e<|c2<|eZ (bZ d)<|E.ok.nI f m as t).trans (E.base.keep e o d r F y)
  ·let⟨@aS,l⟩:=E.base.slot e o d r F y;exact⟨aS,(Qj.2 e<|c2<|eZ (bZ d)<|E.ok.nI f m as t).trans l⟩
  ·let⟨@QU,l⟩:=E.base.there e o d y;exact⟨QU,(Qj.2 e<|c2<|eZ (bZ d)<|E.ok.nI f m as t).trans l⟩
  ·by_cases J:i=a
   ·subst J;rw[S]at l;cases l;rw[tj bd]at A;cases A;exact⟨L,s,.inr ⟨.inl B,m,t,bm⟩⟩
   ·rw[mC (fz J)]at A;let⟨@an,Q1,p⟩:=a2 i I U l A al;refine⟨an,Q1,?_⟩;rcases p with p|⟨n,P,d,cr⟩
    ·exact .inl p
    ·refine .inr ⟨n,P,d,cr.sameBut Qj ?_⟩;rintro rfl;exact J (EK a1 l<|E.ok.inj _ _ _ d t ▸ S)
  ·by_cases bs:P=m
   ·subst bs;exact⟨_,bm⟩
   ·let⟨@cs,db⟩:=E.cell I P d;exact⟨cs,db.sameBut Qj bs⟩
  ·let@⟨d,r,ne,ap,v⟩:=E.pin q am;refine⟨(Qj.2 q.1 ?_).trans d,r,ne,ap,v⟩;intro p;rw[p,bn]at d;have ds:D=q.2:=Option.some.inj d;exact v M (by rw[<-ds];exact co)
def Cz{ay:gO}(E:aA b G z j h)(d:b.N.Nodup)(S:b.N[a]?=Z f)(e:jk b.env.scope f)(s:b5 u L)(c:∀Qd,aA b G (z.set a<|Z u) j Qd->C () Qd)(g:b.fn f=X\/b.env.scope.names.lookup f=Z .local:=by first|exact .inl rfl|exact .inr rfl|assumption):wpAny ay O (storeName b.env f L) C Qh h:=
 AU E d S e s (λQd i W=>c Qd i) g
def aA.GC(E:aA b G z j h)(g:Qd.os=h.os)(L:eP (ht b.stack) Rh j F h.heap Qd.heap)(a3:dN b.prog b.w F Qd.heap)(i:kU Qd.gens)(k:∀e∈Rh,(e∈b.ex\/b.eF.heap.objs.size<=e)/\e≠b.env.locals/\(∀f m,b.env.cells.lookup f=Z m->m≠e)/\∀q∈b.j8++G,q.1≠e):aA b G z F Qd:=by
 let⟨T,a,c,QM,QU⟩:=Qd;have d:QU=h.os:=g;subst d;exact E.call (g:=a) (QM:=QM) (p:=c) L a3 i k
end
abbrev f3:=ae->Option ao->aw->Prop
abbrev aU:=List (Option af)
variable{z:aU}
abbrev cz:=af->aw->Prop
abbrev bX:=aU->aw->cz->Prop
variable{Rf:bX}
abbrev d0:=aU->aw->(Bool->aw->Prop)->Prop
variable{Rt:d0}
abbrev eR:=aU->aw->(List af->aw->Prop)->Prop
structure mu where
 bp:aU->aw->Prop
 et:cz
 eD:aU->aw->Prop:=λ_ _=>False
 bV:aU->aw->Prop:=λ_ _=>False
abbrev eO:=mu->aU->aw->Prop
variable{Rd:eO}
def d5(b:aK)(G:List (ao×a0))(z:aU)(C:cz)(L:ae)(Qd:ah):Prop:=(∃u F,aA b G z F Qd/\b5 u L/\C u F)
def ux(b:aK)(G:List (ao×a0))(z:aU)(C:Bool->aw->Prop)(e:Bool)(Qd:ah):Prop:=(∃F,aA b G z F Qd/\C e F)
def LL(b:aK)(G:List (ao×a0))(z:aU)(C:List af->aw->Prop)(QD:List ae)(Qd:ah):Prop:=(∃U F,aA b G z F Qd/\bM U QD/\C U F)
def oE(b:aK)(G:List (ao×a0))(A:mu)(B:Flow)(Qd:ah):Prop:=(
 match B with
 |.next=>∃a F,aA b G a F Qd/\A.bp a F
 |.brk=>∃a F,aA b G a F Qd/\A.eD a F
 |.cont=>∃a F,aA b G a F Qd/\A.bV a F
 |.ret L=>∃u a F,aA b G a F Qd/\b5 u L/\A.et u F)
def vU(b:aK)(d:bo)(w:bX)(G:List (ao×a0)):Prop:=(
 ∀(h:ah) (z:aU) (j:aw) (C:cz),aA b G z j h->w z j C->wpAny (aN b.prog b.w) b.A (b_ d b.env) (d5 b G z C) b.cE h)
def bN(b:aK)(d:bo)(w:bX):Prop:=(∀G,vU b d w G)
def BA(b:aK)(d:bo)(w:d0)(G:List (ao×a0)):Prop:=(
 ∀(h:ah) (z:aU) (j:aw) (C:Bool->aw->Prop),aA b G z j h->w z j C->wpAny (aN b.prog b.w) b.A (oG d b.env<|b_ d b.env) (ux b G z C) b.cE h)
def gI(b:aK)(d:bo)(w:d0):Prop:=(∀G,BA b d w G)
def C9(b:aK)(d:bo)(w:d0)(a:dA ae):Prop:=(
 ∀(G:List (ao×a0)) (h:ah) (z:aU) (j:aw) (C:Bool->aw->Prop),aA b G z j h->w z j C->wpAny (aN b.prog b.w) b.A (oG d b.env a) (ux b G z C) b.cE h)
def ju(b:aK)(d:bo)(w:d0):Prop:=(∀a,C9 b d w a)
def ju.pt{w:d0}(c:ju b d w):gI b d w:=c _
def EV(b:aK)(Qe:List bo)(w:eR)(Qx:Pos):Prop:=(
 ∀(G:List (ao×a0)) (h:ah) (z:aU) (j:aw) (C:List af->aw->Prop),aA b G z j h->w z j C->wpAny (aN b.prog b.w) b.A (spliced<|gz Qx<|bU Qe b.env) (LL b G z C) b.cE h)
def hp(b:aK)(Qe:List bo)(w:eR):Prop:=(∀Qx,EV b Qe w Qx)
def Dt(b:aK)(N:cK)(w:eO)(G:List (ao×a0)):Prop:=(
 ∀(h:ah) (z:aU) (j:aw) (A:mu),aA b G z j h->w A z j->wpAny (aN b.prog b.w) b.A (exec N b.env) (oE b G A) b.cE h)
def hG(b:aK)(N:cK)(w:eO):Prop:=(∀G,Dt b N w G)
def Bu(b:aK)(N:List cK)(w:eO)(G:List (ao×a0)):Prop:=(
 ∀(h:ah) (z:aU) (j:aw) (A:mu),aA b G z j h->w A z j->wpAny (aN b.prog b.w) b.A (execs N b.env) (oE b G A) b.cE h)
def gX(b:aK)(N:List cK)(w:eO):Prop:=(∀G,Bu b N w G)
def bS{QG:Type}{w:dA QG}{C a:QG->ah->Prop}{ay:gO}(c:wpAny ay O w C Qh h)(b:∀g h,C g h->a g h):wpAny ay O w a Qh h:=gS c b λ_ W f=>f
section
variable{b:aK}
def nh(a:Nat):bX:=(λz j C=>∃u,z[a]?=Z (Z u)/\C u j)
def od(u:af):bX:=(λ_ j C=>C u j)
def ES(o:b.N[a]?=Z f)(p:tf b.env.scope f)(g:(f==("__debug__" : aC))=aq:=by decide)(q:(f==("__classdict__" : aC))=aq:=by decide):bN b (.Name f Qx) (nh a):=by
 intro G h z j C E c;let⟨@u,d,c⟩:=c;let⟨@k,r,v⟩:=E.loc;let⟨@L,s,t⟩:=v a f u o d p;have i:d5 b G z C L h:=⟨u,j,E,s,c⟩;rcases t with ⟨e,w⟩|⟨e,m,l,n⟩
 ·exact u6 (wpAny_loadName_local E.ok.kind e r w i) g
 ·rcases e with e|e
  ·exact u6 (wpAny_loadName_cell E.ok.kind e l n i) g
  ·exact u6 (wpAny_loadName_free E.ok.kind e l n i q) g
def K4{a i Qx}:bN b (.Constant (.int a) i Qx) (od<|.int a):=λ_ W W j W E c=>wpAny_Constant_int ⟨.int a,j,E.tok _,⟨_,rfl⟩,c⟩
def MB{e i Qx}:bN b (.Constant (.bool e) i Qx) (od<|.ax e):=λ_ W W j W E c=>Constant_bool ⟨.ax e,j,E,rfl,c⟩
def Gd{i Qx}:bN b (.Constant .none i Qx) (od .aT):=λ_ W W j W E c=>Constant_none ⟨.aT,j,E,rfl,c⟩
def ed(b:aK)(f:aC):Prop:=(b.env.kindOf f=Z .globalImplicit)
def Cd(E:aA b G z j h)(a:ed b f)(d:b.aH f=Z L)(c:C L h)(e:(f==("__debug__" : aC))=aq:=by decide):wpAny (aN b.prog b.w) b.A (b_ (.Name f Qx) b.env) C Qh h:=
 BH E.ok.kind a (Calls.loadGlobal_global (by rw[E.ok.glob];exact E.mod.glob.keeps E.eD) d c) e
def ku(E:aA b G z j h)(a:ed b f)(d:b.aH f=Y)(e:ez f=Z L)(c:C L h)(g:f ≠ "__name__" := by decide)(i:(f==("__debug__" : aC))=aq:=by decide):wpAny (aN b.prog b.w) b.A (b_ (.Name f Qx) b.env) C Qh h:=by
 let⟨@k,l,D⟩:=E.mod.blt;exact BH E.ok.kind a (Calls.loadGlobal_builtin (by rw[E.ok.glob];exact E.mod.glob.keeps E.eD) d (by rw[E.ok.blt];exact l.keeps E.eD) ((D f g).trans e) c) i
def L1(a:ed b f)(d:b.aH f=Z L)(s:b5 u L)(e:(f==("__debug__" : aC))=aq:=by decide):bN b (.Name f Qx) (od u):=
 λ_ W W j W E c=>Cd E a d ⟨u,j,E,s,c⟩ e
def Gl(a:ed b f)(d:b.aH f=Y)(e:ez f=Z L)(s:b5 u L)(g:f ≠ "__name__" := by decide)(h:(f==("__debug__" : aC))=aq:=by decide):bN b (.Name f Qx) (od u):=
 λ_ W W j W E c=>ku E a d e ⟨u,j,E,s,c⟩ g h
variable{g e:bo}{QY Rd:bX}{Qx:Pos}
variable{gv i:d0}{cL:List bo}
def Eo(w L:d0):d0:=(λz j C=>w z j λm Qm=>if m=X then L z Qm C else C aq Qm)
def zp(w L:d0):d0:=(λz j C=>w z j λm Qm=>if m=X then C X Qm else L z Qm C)
def MF(w:d0):d0:=(λz j C=>w z j λm Qm=>C (!m) Qm)
def Mr(a:gI b g gv):ju b (.BoolOp .And [g] Qx) gv:=by
 intro e G h z j C E c;refine isTrue_and (bS (a G h z j C E c) λm f d=>?_);cases m with
 |true=>exact isTrue_and_nil d
 |false=>exact d
def Ng(a:gI b g gv):ju b (.BoolOp .Or [g] Qx) gv:=by
 intro e G h z j C E c;refine isTrue_or (bS (a G h z j C E c) λm f d=>?_);cases m with
 |false=>exact isTrue_or_nil d
 |true=>exact d
def Pb(f:gI b g gv)(k:ju b (.BoolOp .And (e::cL) Qx) i):ju b (.BoolOp .And (g::e::cL) Qx) (Eo gv i):=by
 intro l G h z j C E c;refine isTrue_and (bS (f G h z j _ E c) λm n o=>?_);let⟨@Qm,a,d⟩:=o;cases m with
 |true=>exact k l G n z Qm C a d
 |false=>exact⟨Qm,a,d⟩
def ML(f:gI b g gv)(k:ju b (.BoolOp .Or (e::cL) Qx) i):ju b (.BoolOp .Or (g::e::cL) Qx) (zp gv i):=by
 intro l G h z j C E c;refine isTrue_or (bS (f G h z j _ E c) λm n o=>?_);let⟨@Qm,a,d⟩:=o;cases m with
 |true=>exact⟨Qm,a,d⟩
 |false=>exact k l G n z Qm C a d
def O3(a:gI b g gv):gI b (.UnaryOp .Not g Qx) (MF gv):=by
 intro G h z j C E c;exact isTrue_not (a G h z j (λm Qm=>C (!m) Qm) E c)
def JH(QY Rd:bX):bX:=(λz j C=>QY z j λf Qm=>∃m,f=.ax m/\if m=X then Rd z Qm C else C (.ax aq) Qm)
def Og(QY:bX):bX:=(λz j C=>QY z j λf Qm=>∃m,f=.ax m/\C (.ax<|!m) Qm)
def Gh{QV}{w:bX}(c:bN b g w):bN b (.BoolOp QV [g] Qx) w:=λG h z j C E a=>BoolOp_one (c G h z j C E a)
def MH(i:bN b g QY)(k:bN b (.BoolOp .And (e::cL) Qx) Rd):bN b (.BoolOp .And (g::e::cL) Qx) (JH QY Rd):=by
 intro G h z j C E c;refine BoolOp_and (bS (i G h z j _ E c) λu l n=>?_);let⟨f,@Qm,d,o,a⟩:=n;let⟨@m,rfl,a⟩:=a;cases o;refine ly ?_;cases m with
 |true=>exact k G l z Qm C d a
 |false=>exact⟨.ax aq,Qm,d,rfl,a⟩
def Hz(d:bN b g QY):bN b (.UnaryOp .Not g Qx) (Og QY):=by
 intro G h z j C E c;refine UnaryOp_ (bS (d G h z j _ E c) λu l e=>?_);let⟨f,@Qm,i,k,a⟩:=e;let⟨@m,rfl,a⟩:=a;cases k;exact not_of (ly ⟨.ax<|!m,Qm,i,rfl,a⟩)
def Pe(w:d0)(QY Rd:bX):bX:=(λz j C=>w z j λm Qm=>if m=X then QY z Qm C else Rd z Qm C)
def Jv(i:gI b m gv)(k:bN b g QY)(l:bN b e Rd):bN b (.IfExp m g e Qx) (Pe gv QY Rd):=by
 intro G h z j C E c;refine wpAny_IfExp (bS (i G h z j _ E c) λv a n=>?_);let⟨@Qm,d,f⟩:=n;cases v with
 |true=>exact k G a z Qm C d f
 |false=>exact l G a z Qm C d f
end
def cQ(Qk:Φ)(j:aw)(g:ao)(y:List af):Prop:=(
 j4 j g (.lst y)\/
  ∃(o:a0) (Qp:Array ae) (r:Nat),Qk.lookup g=Z o/\o.cls=.type "list" /\ o.dict=Y/\o.data=.seq Qp r/\Qp.size<=sizeLine/\bM y Qp.toList)
def cb(Qk:Φ)(j:aw)(g:ao)(y:List af):Prop:=(
 j4 j g (.tup y)\/
  ∃(o:a0) (Qp:Array ae) (r:Nat),Qk.lookup g=Z o/\o.cls=.type "tuple" /\ o.data=.seq Qp r/\Qp.size<=sizeLine/\bM y Qp.toList)
def Lh:ae->Option af
 |.none=>Z .aT
 |.bool e=>Z (.ax e)
 |.int a _=>Z (.int a)
 |.str f _=>Z (.str f)
 |.bytes e _=>Z (.qi e)
 |.float e _=>Z (.xJ e)
 |.ref g=>Z (.ref g)
 |.type r=>Z (.ty r)
 |_=>Y
def b5.abs{f:af}(s:b5 f L):Lh L=Z f:=by
 cases f with
 |aT=>cases s;rfl
 |ax _=>cases s;rfl
 |int _=>let⟨@w,rfl⟩:=s;rfl
 |str _=>let⟨@w,rfl⟩:=s;rfl
 |qi _=>let⟨@w,rfl⟩:=s;rfl
 |xJ _=>let⟨@w,rfl⟩:=s;rfl
 |ref _=>cases s;rfl
 |ty _=>cases s;rfl
def b5.inj{f:af}(s:b5 f L)(p:b5 I L):f=I:=Option.some.inj (s.abs.symm.trans p.abs)
theorem bM.inj:∀{y Qw:List af}{QD:List ae},bM y QD->bM Qw QD->y=Qw
 |_,_,_,.nil,.nil=>rfl
 |_,_,_,.cons s w,.cons Q1 QM=>by rw[s.inj Q1,bM.inj w QM]
section
variable{b:aK}{G:List (ao×a0)}{z:aU}{j:aw}{h:ah}{g:ao}{y Qw:List af}
def cQ.of(c:j g=Z (.lst y)):cQ Qk j g y:=.inl (.inl c)
def cb.of(c:j g=Z (.tup y)):cb Qk j g y:=.inl (.inl c)
def aA.list(E:aA b G z j h)(c:cQ b.K j g y):∃Qp:List ae,bM y Qp/\PlainL h.heap g Qp.toArray/\y.length<=sizeLine:=by
 rcases c with c|⟨o,Qp,r,a,e,f,Qj,i,s⟩
 ·let@⟨H,⟨Qp,@r,s,d⟩⟩:=c.ok E.a3;exact⟨Qp,s,⟨_,r,d,rfl,rfl,rfl⟩,H⟩
 ·refine⟨Qp.toList,s,⟨o,r,E.oQ g o a,e,f,by simpa using Qj⟩,?_⟩;have d:=s.length;simp only[di]at d;lia
def aA.tuple(E:aA b G z j h)(c:cb b.K j g y):∃Qp:List ae,bM y Qp/\ny h.heap g Qp.toArray/\y.length<=sizeLine:=by
 rcases c with c|⟨o,Qp,r,a,e,Qj,f,s⟩
 ·let@⟨H,⟨@Qp,s,q⟩⟩:=c.ok E.a3;exact⟨Qp,s,q.tup,H⟩
 ·refine⟨Qp.toList,s,⟨o,E.oQ g o a,e,r,by simpa using Qj⟩,?_⟩;have d:=s.length;simp only[di]at d;lia
def aA.Pk(E:aA b G z j h)(c:cQ b.K j g y)(T:cQ b.K j g Qw):y=Qw:=by
 let⟨@Qp,s,⟨o,@r,d,W,W,v⟩,W⟩:=E.list c;let⟨@A,Q1,⟨QU,@f,a,W,W,e⟩,W⟩:=E.list T;rw[d]at a;cases a;rw[v]at e;injection e with QZ _;have:Qp=A:=by simpa using congrArg Array.toList QZ
 subst this;exact s.inj Q1
def aA.uR(E:aA b G z j h)(c:cb b.K j g y)(T:cb b.K j g Qw):y=Qw:=by
 let⟨@Qp,s,⟨@o,d,W,⟨@r,v⟩⟩,W⟩:=E.tuple c;let⟨@A,Q1,⟨@QU,a,W,⟨@f,e⟩⟩,W⟩:=E.tuple T;rw[d]at a;cases a;rw[v]at e;injection e with QZ _;have:Qp=A:=by simpa using congrArg Array.toList QZ
 subst this;exact s.inj Q1
end
abbrev aK.j_(b:aK)(Qh:ae->ah->Prop):aK:={b with cE:=Qh}
abbrev aK.nu(b:aK):aK:=b.j_ λ_ _=>False
def aK.Ok.j_(ok:b.Ok)(Qh:ae->ah->Prop):(b.j_ Qh).Ok:=
 ⟨ok.mod,ok.kind,ok.glob,ok.blt,ok.above,ok.inj,ok.has,ok.nI,ok.hd,ok.frames,ok.pS,ok.wW,ok.bs,ok.kN,ok.nB,ok.n9,ok.iq,ok.mx⟩
def aK.Ok.ll(ok:(b.j_ Qh).Ok):b.Ok:=
 ⟨ok.mod,ok.kind,ok.glob,ok.blt,ok.above,ok.inj,ok.has,ok.nI,ok.hd,ok.frames,ok.pS,ok.wW,ok.bs,ok.kN,ok.nB,ok.n9,ok.iq,ok.mx⟩
section
variable{b:aK}{G:List (ao×a0)}{z:aU}{j:aw}{h:ah}{Qh:ae->ah->Prop}
def aA.j_(E:aA b G z j h)(Qh:ae->ah->Prop):aA (b.j_ Qh) G z j h:=⟨E.ok.j_ Qh,E.os,E.bare,E.base,E.loc,E.cell,E.free,E.iC,E.pin,E.a3,E.len⟩
def aA.ll(E:aA (b.j_ Qh) G z j h):aA b G z j h:=⟨E.ok.ll,E.os,E.bare,E.base,E.loc,E.cell,E.free,E.iC,E.pin,E.a3,E.len⟩
def oE.ll{A:mu}{B:Flow}(c:oE (b.j_ Qh) G A B Qd):oE b G A B Qd:=by
 cases B with
 |next=>let⟨a,@F,E,p⟩:=c;exact⟨a,F,E.ll,p⟩
 |brk=>let⟨a,@F,E,p⟩:=c;exact⟨a,F,E.ll,p⟩
 |cont=>let⟨a,@F,E,p⟩:=c;exact⟨a,F,E.ll,p⟩
 |ret L=>let⟨u,a,@F,E,s,p⟩:=c;exact⟨u,a,F,E.ll,s,p⟩
def gX.nu{N:List cK}{w:eO}(c:gX b.nu N w):gX b N w:=λG h z j A E a=>
 gS (c G h z j A (E.j_ _) a) (λ_ W p=>p.ll) λ_ W H=>False.elim H
end
section
variable{b:aK}{N:cK}{cL:List cK}{w L:eO}{d:bo}{Rf:bX}{Qx:Pos}
def Jg:eO:=(λA z j=>A.bp z j)
def DY(w L:eO):eO:=(λA z j=>w {A with bp:=L A} z j)
def Kw:gX b [] Jg:=λ_ W z j W E c=>rD ⟨z,j,E,c⟩
def IT(l:hG b N w)(D:gX b cL L):gX b (N::cL) (DY w L):=by
 intro G h z j A E c;refine EX (bS (l G h z j {A with bp:=L A} E c) λB a p=>?_);cases B with
 |next=>
  let⟨d,@F,e,p⟩:=p;exact D G a d F A e p
 |ret u=>exact p
 |brk=>exact p
 |cont=>exact p
def HX(l:hG b N w):gX b [N] w:=by
 intro G h z j A E c;refine EX (bS (l G h z j A E c) λB a p=>?_);cases B with
 |next=>exact rD p
 |ret u=>exact p
 |brk=>exact p
 |cont=>exact p
def aA.quiet(E:aA b G z j h):interactive b.env=aq:=by simp[interactive,E.ok.kind]
def Lu(Rf:bX):eO:=(λA z j=>Rf z j λ_ Qm=>A.bp z Qm)
def IP(a:bN b d Rf)(Qj:mJ d Y Qx.line b.env=pure aq:=by rfl):hG b (.Expr d Qx) (Lu Rf):=by
 intro G h z j A E c;exact wpAny_Expr_any (bS (a G h z j _ E c) λu i ⟨f,Qm,e,k,g⟩=>⟨z,Qm,e,g⟩) E.quiet Qj
def JB(Rf:bX):eO:=(λA z j=>Rf z j A.et)
def G3(a:bN b d Rf):hG b (.Return (Z d) Qx) (JB Rf):=by
 intro G h z j A E c;exact wpAny_Return_some (bS (a G h z j _ E c) λu k ⟨f,Qm,e,g,i⟩=>⟨f,z,Qm,e,g,i⟩)
def Lq(m:d0)(w L:eO):eO:=(λA z j=>m z j λe Qm=>if e=X then w A z Qm else L A z Qm)
def Ie{g e:List cK}(i:gI b m Rt)(k:gX b g w)(l:gX b e L):hG b (.If m g e Qx) (Lq Rt w L):=by
 intro G h z j A E c;refine wpAny_If (bS (i G h z j _ E c) λv a n=>?_);let⟨@Qm,d,f⟩:=n;cases v with
 |true=>exact k G a z Qm A d f
 |false=>exact l G a z Qm A d f
def Oc:eO:=(λ_ W W=>False)
def HG:hG b N Oc:=λ_ W W W W W c=>c.elim
end
abbrev fJ:=af->aU->aw->(aU->aw->Prop)->Prop
abbrev iD:=List af->aU->aw->(aU->aw->Prop)->Prop
def EA(b:aK)(c:bo)(w:fJ)(G:List (ao×a0)):Prop:=(
 ∀(h:ah) (z:aU) (j:aw) (u:af) (L:ae) (C:aU->aw->Prop),aA b G z j h->b5 u L->w u z j C->
  wpAny (aN b.prog b.w) b.A (hJ c b.env L) (λ_ Qd=>∃a F,aA b G a F Qd/\C a F) b.cE h)
def iK(b:aK)(a:bo)(w:fJ):Prop:=(∀G,EA b a w G)
def Eh(b:aK)(c:List bo)(w:iD)(G:List (ao×a0)):Prop:=(
 ∀(h:ah) (z:aU) (j:aw) (U:List af) (QD:List ae) (C:aU->aw->Prop),aA b G z j h->bM U QD->w U z j C->
  wpAny (aN b.prog b.w) b.A (AD ((eT c b.env).map (·.2)) QD) (λ_ Qd=>∃a F,aA b G a F Qd/\C a F) b.cE h)
def mR(b:aK)(a:List bo)(w:iD):Prop:=(∀G,Eh b a w G)
abbrev xe:=af->af->af->aw->(aw->Prop)->Prop
def xx(b:aK)(w:xe):Prop:=(
 ∀(G:List (ao×a0)) (h:ah) (z:aU) (j:aw) (o a u:af) (c d L:ae) (C:aw->Prop),aA b G z j h->b5 o c->b5 a d->b5 u L->w o a u j C->
  wpAny (aN b.prog b.w) b.A (sC c d L) (λ_ Qd=>∃F,aA b G z F Qd/\C F) b.cE h)
section
variable{b:aK}{Qx:Pos}
def w7(a:Nat):fJ:=(λu z j C=>C (z.set a<|Z u) j)
def N7(d:b.N.Nodup)(S:b.N[a]?=Z f)(e:jk b.env.scope f)(g:b.fn f=X\/b.env.scope.names.lookup f=Z .local:=by first|exact .inl rfl|exact .inr rfl|assumption):iK b (.Name f Qx) (w7 a):=by
 intro G h z j u L C E s c;exact Ex (Cz E d S e s (λQd i=>⟨_,j,i,c⟩) g)
def HL:iD:=(λU z j C=>U=[]/\C z j)
def Jz(w:fJ)(L:iD):iD:=(λU z j C=>∃u s,U=u::s/\w u z j λa F=>L s a F C)
def Pt:mR b [] HL:=by
 intro G h z j U QD C E s c;let@⟨d,c⟩:=c;subst d;cases s;exact assignInOrder_nil ⟨z,j,E,c⟩
def L0{w:fJ}{L:iD}(l:iK b d w)(D:mR b Qe L)(Qj:(eT (d::Qe) b.env).map (·.2)=hJ d b.env::(eT Qe b.env).map (·.2):=by rfl):mR b (d::Qe) (Jz w L):=by
 intro G h z j U QD C E s c;let⟨u,@m,a,c⟩:=c;subst a;cases s with
 |cons s e=>
  rw[Qj];refine assignInOrder_cons (bS (l G h z j _ _ _ E s c) λ_ f g=>?_);let⟨Rp,@Qm,i,k⟩:=g;exact D G f Rp Qm _ _ C i e k
def GG(Qk:Φ)(r:Nat)(w:iD):fJ:=(λu z j C=>∃g y,u=.ref g/\cb Qk j g y/\y.length=r/\w y z j C)
def KZ{w:iD}(i:b.calm=X)(c:mR b Qe w)(k:(eT Qe b.env).length=r:=by rfl)(l:(eT Qe b.env).findIdx? (·.1)=Y:=by rfl):iK b (.Tuple Qe n Qx) (GG b.K r w):=by
 intro G h z j u L C E s a;let⟨g,@y,m,p,q,a⟩:=a;subst m;cases s;let⟨@Qp,f,ba,x⟩:=E.tuple p;refine assign_Tuple_tuple (E.ok.hd i) ba (by simp[k,<-q,f.length]) l λT t=>?_;have v:aA b G z j {h with heap:=T}:=E.kept (QM:=h.toks) λe o d=>t e o (c2<|bZ d) d;exact c G _ z j y _ C v ⇑f a
def G9(i b:bX)(w:xe):fJ:=(λu z j C=>i z j λo Qm=>b z Qm λa Qz=>w o a u Qz λc=>C z c)
def H_{o a:bo}{i k:bX}{w:xe}(l:bN b o i)(S:bN b a k)(Qj:xx b w)(m:∀u,hJ (.Subscript o a Qx) b.env u=(do
   let d <-holding [u] (b_ o b.env)
   let e <-holding [u,d] (b_ a b.env)
   standAt Qx
   holding [u,d,e] (sC d e u)
   release [u,d,e] []):=by intro W;rfl):iK b (.Subscript o a Qx) (G9 i k w):=by
 intro G h z j u L C E s c;rw[m];refine av (e3<|bS (l G h z j _ E c) λd n g=>?_);let⟨f,@Qm,p,q,r⟩:=g;refine av (e3<|bS (S G n z Qm _ p r) λe t g=>?_);let⟨I,@Qz,v,x,y⟩:=g;refine av (r8<|av<|e3<|bS (Qj G t z Qz f I u d e L _ v q x s y) λ_ F g=>?_);let⟨@A,B,D⟩:=g;exact wpAny_release ⟨z,A,B,D⟩
def v5(Rf:bX)(M:fJ):eO:=(λA z j=>Rf z j λf Qm=>M f z Qm A.bp)
def O1{M:fJ}(a:bN b d Rf)(e:iK b QL M)(Qj:DE [QL] d Qx.line b.env=pure aq:=by rfl)(g:Ah [QL] d b.env=pure Y:=by rfl)(l:(eT [QL] b.env).map (·.2)=[hJ QL b.env]:=by rfl):hG b (.Assign [QL] d Qx) (v5 Rf M):=by
 intro G h z j A E c;refine wpAny_Assign_stores (bS (a G h z j _ E c) λu i ⟨f,Qm,k,m,n⟩=>?_) Qj g;rw[l];exact bS (e G i z Qm f u _ k m n) λ_ o p=>p
def Mz{i:Pos}(e:b.N.Nodup)(S:b.N[a]?=Z f)(g:jk b.env.scope f)(k:bN b d Rf)(Qj:mJ d (Z<|.Name f i) Qx.line b.env=pure aq:=by rfl)(l:b.fn f=X\/b.env.scope.names.lookup f=Z .local:=by first|exact .inl rfl|exact .inr rfl|assumption):
  hG b (.Assign [.Name f i] d Qx) (v5 Rf<|w7 a):=by
 intro G h z j A E c;refine wpAny_Assign_Name (bS (k G h z j _ E c) λu q ⟨I,Qm,m,n,o⟩=>?_) Qj;exact Cz m e S g n (λr p=>⟨_,Qm,p,o⟩) l
def Gu(m:d0)(Rd:eO):eO:=(λA z j=>∃W:Nat->aU->aw->Prop,(∃k,W k z j)/\∀k z j,W k z j->
 m z j λe Qm=>if e=X then ∃QO:aU->aw->Prop,(∀a F,QO a F->∃b,b<k/\W b a F)/\Rd {A with bp:=QO,bV:=QO,eD:=A.bp} z Qm else A.bp z Qm)
def HM(p:rb (aN b.prog b.w) b.A b.env b.cE)(v:gI b m Rt)(y:gX b Ro Rd):hG b (.While m Ro [] Qx) (Gu Rt Rd):=by
 intro G h z j A E c;let⟨@W,⟨@C,D⟩,turn⟩:=c;refine wpAny_While (codeAny_whileLoop (λr Qd=>∃q F,aA b G q F Qd/\W r q F) ?_ C ⟨z,j,E,D⟩);rintro r H ⟨Rp,Qm,I,J⟩;refine m3 p (bS (v G H Rp Qm _ I<|turn r Rp Qm J) λe L M=>?_);let⟨@Qz,s,f⟩:=M;cases e with
 |true=>
  let⟨@QO,t,f⟩:=f;rw[aE rfl];refine m3 p (bS (y G L Rp Qz _ s f) λB N g=>?_);cases B with
  |next=>
   let⟨a,@d,i,k⟩:=g;let⟨@l,n,o⟩:=t a d k;exact⟨l,n,a,d,i,o⟩
  |cont=>
   let⟨a,@d,i,k⟩:=g;let⟨@l,n,o⟩:=t a d k;exact⟨l,n,a,d,i,o⟩
  |brk=>exact g
  |ret u=>exact g
 |false=>
  rw[aI df];exact rD ⟨Rp,Qz,s,f⟩
end
structure eL where
 go:Nat->aw->Prop
 pg:Nat->aw->af->aw->Prop
 stop:Nat->aw->Prop
def jd(b:aK)(G:List (ao×a0))(j:aw)(e:ao):Prop:=(
 j e=Y/\e≠b.env.locals/\e∉b.aa/\(e∈b.ex\/b.eF.heap.objs.size<=e)/\(∀f m,b.env.cells.lookup f=Z m->m≠e)/\∀q∈b.j8++G,q.1≠e)
def aA.ts(E:aA b G z j h)(a:h.heap.objs.size<=e)(c:F e=Y):jd b G F e:=by
 refine⟨c,mM<|eZ E.lt a,E.Od a,.inr<|eU E.iE a,λf m d H=>?_,λq g H=>?_⟩
 ·let⟨@u,p⟩:=E.cell f m d;exact absurd (eZ p.lt (by rw[H];exact a)) (kh _)
 ·exact absurd (eZ (bZ (E.pin q g).1) (by rw[H];exact a)) (kh _)
structure rp(Qf:bA)(x:bc)(Qk:Φ)(QL:bo)(R:eL)(b0:List ao)(it:ao)(i:Nat->aV->Prop):Prop where
 mem:it∈b0
 obj:∀a c,i a c->∀e∈b0,∃o,c.get? e=Z o/\∀u,o.data≠.cell u
 keep:∀a c T,i a c->(∀e∈b0,∀o,c.get? e=Z o->T.get? e=Z o)->i a T
 item:∀(b:aK),b.prog=Qf->b.w=x->b.K=Qk->b.calm=X->∀(a:Nat) (G:List (ao×a0)) (h:ah) (z:aU) (j:aw) (Qh:ae->ah->Prop),aA b G z j h->(∀e∈b0,jd b G j e)->i a h.heap->R.go a j->
  wpAny (aN Qf x) b.A (gx<|.ref it) (λs s1=>∃L,s=Z L/\
   wpAny (aN Qf x) b.A (ro QL (.ref it) L) (λ_ s2=>∃f F,aA b G z F s2/\b5 f L/\R.pg a j f F/\i (a+1) s2.heap/\∀e∈b0,F e=Y) Qh s1) Qh h
 done:∀(b:aK),b.prog=Qf->b.w=x->b.K=Qk->b.calm=X->∀(a:Nat) (G:List (ao×a0)) (h:ah) (z:aU) (j:aw) (Qh:ae->ah->Prop),aA b G z j h->(∀e∈b0,jd b G j e)->i a h.heap->R.stop a j->
  wpAny (aN Qf x) b.A (gx<|.ref it) (λs s1=>s=Y/\aA b G z j s1) Qh h
 self:∀(O:bj) (a:Nat) (h:ah) (C:ae->ah->Prop) (Qh:ae->ah->Prop),i a h.heap->C (.ref it) h->wpAny (aN Qf x) O (p_<|.ref it) C Qh h
abbrev cU:=aU->aw->(eL->aw->Prop)->Prop
def AP(b:aK)(G:List (ao×a0))(z:aU)(QL:bo)(Qg:eL->aw->Prop)(c:ae)(a:ah):Prop:=(
 ∃(it:ao) (b0:List ao) (i:Nat->aV->Prop) (R:eL) (F:aw),c=.ref it/\aA b G z F a/\rp b.prog b.w b.K QL R b0 it i/\i 0 a.heap/\(∀e∈b0,jd b G F e)/\Qg R F)
def Ap(b:aK)(QL Q_:bo)(eS:cU)(G:List (ao×a0)):Prop:=(
 ∀(h:ah) (z:aU) (j:aw) (Qg:eL->aw->Prop),aA b G z j h->eS z j Qg->
  wpAny (aN b.prog b.w) b.A (b_ Q_ b.env) (λu a=>wpAny (aN b.prog b.w) b.A (p_ u) (AP b G z QL Qg) b.cE a) b.cE h)
def ki(b:aK)(QL Q_:bo)(eS:cU):Prop:=(∀G,Ap b QL Q_ eS G)
def w3{ay:gO}{Qh:ae -> ah -> Prop}{it:ao}{o:a0}{r:String}{U:Array ae}{C:Unit -> ah -> Prop}(b:h.heap.get? it=Z o)(d:o.cls=.type r)(e:o.data=.fields U)(f:["enumerate", "zip", "dict_itemiterator", "dict_reverseitemiterator", "odict_iterator", "itertools.zip_longest", "itertools.pairwise"].contains r=aq)(a:C () h): wpAny ay O (ro QL (.ref it) L) C Qh h:=by
  unfold ro;cases QL <;> first
    | exact aR a
    | (cases L <;> first
        | exact aR a
        | (refine av (wpAny_load b ?_)
           rw [d,e];show wpAny ay O (if (["enumerate", "zip", "dict_itemiterator", "dict_reverseitemiterator", "odict_iterator", "itertools.zip_longest", "itertools.pairwise"].contains r&&U[0]? == Z (jS _))=X then _ else _) C Qh h;rw [aI (by intro c; rw [f,Bool.false_and]at c; cases c)];exact aR a))
def ra(Qk:Φ)(g:ao):eL:=(
 ⟨λa j=>∃y f,cQ Qk j g y/\y[a]?=Z f,λa j f F=>F=j/\∀y,cQ Qk j g y->y[a]?=Z f,λa j=>∃y,cQ Qk j g y/\y.length<=a⟩)
def sh(Qk:Φ)(g:ao):eL:=(
 ⟨λa j=>∃y f,cb Qk j g y/\y[a]?=Z f,λa j f F=>F=j/\∀y,cb Qk j g y->y[a]?=Z f,λa j=>∃y,cb Qk j g y/\y.length<=a⟩)
def sE(R:Int)(r:Nat):eL:=(⟨λa W=>a<r,λa j f F=>F=j/\f=.int (R+a),λa W=>r<=a⟩)
theorem IH(g it:ao):rp Qf x Qk QL (ra Qk g) [it] it (λa c=>c.IsListIter it g a) where
 mem:=by simp
 obj:=λa c N e i=>by
  have d:e=it:=by simpa using i
  subst d;let⟨@o,d,m,v⟩:=N;exact⟨o,d,λu H=>by rw[v]at H;cases H⟩
 keep:=λa c T N n=>N.at λo d=>n it ↥0 o d
 item:=by
  intro b p r s J a G h z j Qh E k N t;subst p r s;let⟨y,@f,l,w⟩:=t;let⟨@Qp,A,q,O⟩:=E.list l;let⟨@L,P,Q⟩:=A.get w;let@⟨B,C,R,D,F,I⟩:=k it ↥0;refine DP N q.isList (x:=L) ⇑P λT M cn=>?_;have S:aA b G z j {h with heap:=T}:=E.turned (QM:=h.toks) (λe o i d=>(cn.2 e i).trans d) B C D F I;let⟨@o,d,m,v⟩:=id M;exact⟨L,rfl,w3 (h:={h with heap:=T}) d m v ∅ ⟨f,j,S,Q,⟨rfl,λQw U=>by rw[E.Pk U l];exact w⟩,M,λe i=>(k e i).1⟩⟩
 done:=by
  intro b p r s J a G h z j Qh E k N t;subst p r s;let⟨@y,l,w⟩:=t;let⟨@Qp,A,q,O⟩:=E.list l;let@⟨B,C,R,D,F,I⟩:=k it ↥0;have am:=A.length;exact Ed (E.ok.hd J) N q.isList (by simp;lia) λT al=>⟨rfl,E.turned (QM:=h.toks) (λe o i d=>al e o i d) B C D F I⟩
 self:=λ_ W W W W N c=>wpAny_pyIter_listiter N c
theorem Mx(g it:ao):rp Qf x Qk QL (sh Qk g) [it] it (λa c=>c.IsTupleIter it g a) where
 mem:=by simp
 obj:=λa c N e i=>by
  have d:e=it:=by simpa using i
  subst d;let⟨@o,d,m,v⟩:=N;exact⟨o,d,λu H=>by rw[v]at H;cases H⟩
 keep:=λa c T N n=>N.at λo d=>n it ↥0 o d
 item:=by
  intro b p r s J a G h z j Qh E k N t;subst p r s;let⟨y,@f,l,w⟩:=t;let⟨@Qp,A,q,O⟩:=E.tuple l;let⟨@L,P,Q⟩:=A.get w;let@⟨B,C,R,D,F,I⟩:=k it ↥0;refine wpAny_pyNext_tuple_item N (show h.heap.IsTuple g Qp.toArray from q) (x:=L) ⇑P λT M cn=>?_;have S:aA b G z j {h with heap:=T}:=E.turned (QM:=h.toks) (λe o i d=>(cn.2 e i).trans d) B C D F I;let⟨@o,d,m,v⟩:=id M;exact⟨L,rfl,w3 (h:={h with heap:=T}) d m v ∅ ⟨f,j,S,Q,⟨rfl,λQw U=>by rw[E.uR U l];exact w⟩,M,λe i=>(k e i).1⟩⟩
 done:=by
  intro b p r s J a G h z j Qh E k N t;subst p r s;let⟨@y,l,w⟩:=t;let⟨@Qp,A,q,O⟩:=E.tuple l;let@⟨B,C,R,D,F,I⟩:=k it ↥0;have am:=A.length;exact wpAny_pyNext_tuple_end (E.ok.hd J) N (show h.heap.IsTuple g Qp.toArray from q) (by simp;lia) λT al=>⟨rfl,E.turned (QM:=h.toks) (λe o i d=>al e o i d) B C D F I⟩
 self:=λ_ W W W W N c=>wpAny_pyIter_tupleiter N c
theorem KD(it:ao)(R:Int)(r:Nat):rp Qf x Qk QL (sE R r) [it] it (λa c=>IsRangeIter c it (R+(a:Nat)*1) ((r:Int)-(a:Nat)) 1) where
 mem:=by simp
 obj:=λa c N e f=>by
  have d:e=it:=by simpa using f
  subst d;exact⟨_,N,λu H=>by
   have B:Data.fields _=Data.cell u:=H;cases B⟩
 keep:=λa c T N n=>n it ↥0 _ N
 item:=by
  intro b i k l m a G h z j Qh E g N p;subst i k l;let@⟨q,s,C,t,v,y⟩:=g it ↥0;have W:=kR.range (prog:=b.prog) (w:=b.w) (E.ok.hd m) it R 1 r;refine W.item a h _ _ p N λu T QP D A F=>?_;let⟨@w,rfl⟩:=D;have I:aA b G z j {h with heap:=T,toks:=QP}:=E.turned (λe o f d=>F e o ⇑f d) q s t v y;refine⟨_,rfl,w3 (h:={h with heap:=T,toks:=QP}) (r := "range_iterator") A rfl rfl ∅ ⟨.int<|R+a,j,I,⟨w,?_⟩,⟨rfl,rfl⟩,A,λe f=>(g e f).1⟩⟩;rw[Fz]
 done:=by
  intro b i k l m a G h z j Qh E g N p;subst i k l;let@⟨q,s,C,t,v,y⟩:=g it ↥0;exact wpAny_pyNext_range_end (E.ok.hd m) N (by have:r<=a:=p;lia) λT J=>⟨rfl,E.turned (QM:=h.toks) (λe o f d=>J e o f d) q s t v y⟩
 self:=λ_ U U U U N c=>wpAny_pyIter_rangeiter N c
section
variable{b:aK}{QL:bo}
def Jb{Qg:eL->aw->Prop}{R S:Int}{w L u:hq}{QP:Nat}(E:aA b G z j h)(l : -(2^62)<=R)(D:R<2^62)(c : -(2^62)<=S)(f:S<2^62)(p:Qg (sE R (S-R).toNat) j):wpAny (aN b.prog b.w) b.A (p_<|.ref h.heap.objs.size) (AP b G z QL Qg) Qh {h with heap:=h.heap.push {cls:=.type "range",data:=.fields #[.int R w,.int S L,.int 1 u]},toks:=QP}:=by
 refine wpAny_pyIter_range (IsRange.new ..) (small_one l D c f) ?_;have a:aA b G z j {h with heap:=h.heap.push {cls:=.type "range",data:=.fields #[.int R w,.int S L,.int 1 u]},toks:=QP}:=E.kept λe o d=>b3 _ d;refine⟨(h.heap.push {cls:=.type "range",data:=.fields #[.int R w,.int S L,.int 1 u]}).objs.size,[(h.heap.push {cls:=.type "range",data:=.fields #[.int R w,.int S L,.int 1 u]}).objs.size],_,_,j,rfl,
  a.kept (QM:=QP) λe o d=>b3 _ d,KD _ R (S-R).toNat,?_,λe g=>?_,p⟩
 ·have i:R+((0:Nat):Int)*1=R:=by simp
  have k:(((S-R).toNat:Nat):Int)-((0:Nat):Int)=bl.Range.rangeSize R S 1:=by rw[rangeSize_one];split<;>lia
  show IsRangeIter _ _ (R+((0:Nat):Int)*1) ((((S-R).toNat:Nat):Int)-((0:Nat):Int)) 1;rw[i,k];exact c9 _ rfl
 ·have d:e=(h.heap.push {cls:=.type "range",data:=.fields #[.int R w,.int S L,.int 1 u]}).objs.size:=by simpa using g
  subst d;exact a.ts (bf _) (a.a3.fresh<|bf _)
def O0(QY:eR):cU:=(λz j Qg=>QY z j λU Qm=>∃i:Int,U=[.int i] /\ -(2^62)<=i/\i<2^62/\Qg (sE 0 i.toNat) Qm)
def GB{g:bo}{QY:eR}{q:Pos}(e:ed b "range")(f:b.aH "range" = Y)(k:hp b [g] QY)(Qj:bU [g] b.env=[(aq,b_ g b.env)]:=by rfl):ki b QL (.Call (.Name "range" q) [g] [] Qx) (O0 QY):=by
 intro G h z j Qg E c;refine Call_ (ku E e f boot_range<|oX (bS (k Qx G h z j _ E c) λQD r ⟨U,Qm,l,m,a⟩=>?_) Qj rfl);let⟨@i,d,a,n,p⟩:=a;subst d;cases m with
 |cons s o=>
  cases o;let⟨@w,rfl⟩:=s;exact call_range_1 (Jb l ⋯ ⋯ a n ⇑p)
def yW(eS:cU)(M:fJ)(Rd:eO):eO:=(λA z j=>eS z j λR Qm=>∃W:Nat->Nat->aU->aw->Prop,(∃k,W 0 k z Qm)/\∀a k z j,W a k z j->
 (R.stop a j/\A.bp z j)\/(R.go a j/\∃QO:aU->aw->Prop,(∀b F,QO b F->∃c,c<k/\W (a+1) c b F)/\∀f F,R.pg a j f F->M f z F λd Qz=>Rd {A with bp:=QO,bV:=QO,eD:=A.bp} d Qz))
def lN(b0:List ao)(c:aV):List (ao×a0):=(b0.filterMap λe=>(c.get? e).map λo=>(e,o))
def tk{o:a0}(a:e∈b0)(d:c.get? e=Z o):(e,o)∈lN b0 c:=t6.mpr ⟨e,a,by rw[d];rfl⟩
def D7{q:ao×a0}(a:q∈lN b0 c):q.1∈b0/\c.get? q.1=Z q.2:=by
 let⟨@e,b,d⟩:=t6.mp a;cases p:c.get? e with
 |none=>rw[p]at d;cases d
 |some o=>
  rw[p]at d;have f:(e,o)=q:=Option.some.inj d;subst f;exact⟨b,p⟩
def aA.pinned(E:aA b G z j h)(f:∀e∈b0,jd b G j e)(g:∀e∈b0,∃o,h.heap.get? e=Z o/\∀u,o.data≠.cell u):aA b (G++lN b0 h.heap) z j h:=
 E.nz λq i=>(dK.mp i).elim (λH=>E.pin q<|dP _ H) λH=>by
  let@⟨a,d⟩:=D7 H;let@⟨k,l,m,_⟩:=f q.1 a;let⟨@o,c,v⟩:=g q.1 a;rw[d]at c;cases c;exact⟨d,k,l,m,v⟩
def aA.vd{bg:List (ao×a0)}(E:aA b (G++bg) z j h):aA b G z j h:=E.nz λq a=>E.pin q (dP _<|dQ _ a)
def G5{Q_:bo}{eS:cU}{M:fJ}(y:rb (aN b.prog b.w) b.A b.env b.cE)(U:b.calm=X)(S:ki b QL Q_ eS)(bd:iK b QL M)(g:gX b Ro Rd)(Qj:∀f,lM Q_ b.env f=pure f:=by intro O;rfl):hG b (.For QL Q_ Ro [] Qx) (yW eS M Rd):=by
 intro G h z j A E c;refine wpAny_For (bS (S G h z j _ E c) λu f2 l=>bS l λf4 f8 D=>?_) Qj;let⟨it,b0,i,R,@Qz,d,be,Qc,bi,al,⟨@W,⟨@bm,bn⟩,turn⟩⟩:=D;subst d;have N:∀{F:aw},(∀e∈b0,F e=Y)->∀e∈b0,jd b G F e:=λbs e g=>⟨bs e g,(al e g).2⟩;refine codeAny_forLoop_any (λr Qd=>∃a C F,aA b G C F Qd/\i a Qd.heap/\(∀e∈b0,F e=Y)/\W a r C F) ?_ bm ⟨0,z,Qz,be,bi,λe g=>(al e g).1,bn⟩;rintro r am ⟨a,H,J,an,ap,as,bv⟩;rcases turn a r H J bv with ⟨stop,ca⟩|⟨go,QO,cd,step⟩
 ·refine m3 y (bS (Qc.done b rfl rfl rfl U a G am H J b.cE an (N as) ap stop) λs ce t=>?_);let@⟨P,ch⟩:=t;subst P;exact rD ⟨H,J,ch,ca⟩
 ·refine m3 y (bS (Qc.item b rfl rfl rfl U a G am H J b.cE an (N as) ap go) λs ce t=>?_);let⟨@L,P,ci⟩:=t;subst P;refine m3 y (bS ci λ_ a1 t=>?_);let⟨f,@a2,cl,co,cr,Q,cs⟩:=t;have db:=cl.pinned (N cs) (Qc.obj _ _ Q);refine m3 y (bS (bd _ a1 H a2 f L _ db co<|step f a2 cr) λ_ ds t=>?_);let⟨dL,@eq,ev,ex⟩:=t;refine m3 y (bS (g _ ds dL eq _ ev ex) λB T q=>?_);have again:∀{m:aU}{n:aw},aA b (G++lN b0 a1.heap) m n T->QO m n->∃k,k<r/\∃a C F,aA b G C F T/\i a T.heap/\(∀e∈b0,F e=Y)/\W a k C F:=λ{m n} p I=>by
   let⟨@fd,fn,fr⟩:=cd m n I;refine⟨fd,fn,a+1,m,n,p.vd,Qc.keep _ _ _ Q λe g o d=>(p.pin (e,o)<|dP _<|dP _<|tk g d).1,λe g=>?_,fr⟩;let⟨@o,d,v⟩:=Qc.obj _ _ Q e g;exact (p.pin (e,o)<|dP _<|dP _<|tk g d).2.1
  cases B with
  |next=>let⟨m,@n,p,I⟩:=q;exact again p I
  |cont=>let⟨m,@n,p,I⟩:=q;exact again p I
  |brk=>let⟨m,@n,p,q⟩:=q;exact⟨m,n,p.vd,q⟩
  |ret u=>let⟨f0,m,@n,p,f1,q⟩:=q;exact⟨f0,m,n,p.vd,f1,q⟩
end
abbrev bQ:=af->af->aw->cz->Prop
variable{Q1 s:bQ}
def dC(b:aK)(B:ae->ae->dA ae)(s:bQ):Prop:=(
 ∀(G:List (ao×a0)) (h:ah) (z:aU) (j:aw) (f I:af) (u L:ae) (C:cz),aA b G z j h->b5 f u->b5 I L->s f I j C->
  wpAny (aN b.prog b.w) b.A (B u L) (d5 b G z C) b.cE h)
def uC(b:aK)(B:ae->dA ae)(s:af->aw->cz->Prop):Prop:=(
 ∀(G:List (ao×a0)) (h:ah) (z:aU) (j:aw) (f:af) (u:ae) (C:cz),aA b G z j h->b5 f u->s f j C->
  wpAny (aN b.prog b.w) b.A (B u) (d5 b G z C) b.cE h)
def en(b:aK)(B:ae)(s:List af->aw->cz->Prop):Prop:=(
 ∀(G:List (ao×a0)) (h:ah) (z:aU) (j:aw) (y:List af) (QD:List ae) (C:cz),aA b G z j h->bM y QD->s y j C->
  wpAny (aN b.prog b.w) b.A (call B QD) (d5 b G z C) b.cE h)
def Pp(b:aK)(s:af->aw->(Bool->aw->Prop)->Prop):Prop:=(
 ∀(G:List (ao×a0)) (h:ah) (z:aU) (j:aw) (f:af) (u:ae) (C:Bool->aw->Prop),aA b G z j h->b5 f u->s f j C->
  wpAny (aN b.prog b.w) b.A (truthy u) (ux b G z C) b.cE h)
def sm(s:bQ)(QY Rd:bX):bX:=(λz j C=>QY z j λf Qm=>Rd z Qm λI Qz=>s f I Qz C)
def Gy(s:af->aw->cz->Prop)(QY:bX):bX:=(λz j C=>QY z j λf Qm=>s f Qm C)
def o2(aM:Int->Int->Prop)(M:Int->Int->af):bQ:=(λf I j C=>∃a i,f=.int a/\I=.int i/\aM a i/\C (M a i) j)
def kQ(M:Int->Int->af):bQ:=(λf I j C=>∃a i,f=.int a/\I=.int i/\C (M a i) j)
def DF(M:Int->af):af->aw->cz->Prop:=(λf j C=>∃a,f=.int a/\C (M a) j)
section
variable{b:aK}{g e m:bo}{QY Rd Rt:bX}{Qx:Pos}
def yc(i:bN b g QY)(k:bN b e Rd){G:List (ao×a0)}{h:ah}{z:aU}{j:aw}{Qg:af->af->aw->Prop}(E:aA b G z j h)(c:QY z j λf Qm=>Rd z Qm λI Qz=>Qg f I Qz){C:ae->ah->Prop}{B:ae->ae->dA ae}(l:∀u L a f I Qz,aA b G z Qz a->b5 f u->b5 I L->Qg f I Qz->wpAny (aN b.prog b.w) b.A (B u L) C b.cE a):
  wpAny (aN b.prog b.w) b.A (b_ g b.env) (λu m=>wpAny (aN b.prog b.w) b.A (b_ e b.env) (λL n=>wpAny (aN b.prog b.w) b.A (B u L) C b.cE n) b.cE m) b.cE h:=by
 refine bS (i G h z j _ E c) λu o d=>?_;let⟨f,@Qm,p,q,r⟩:=d;refine bS (k G o z Qm _ p r) λL a d=>?_;let⟨I,@Qz,s,t,v⟩:=d;exact l u L a f I Qz s q t v
def KA{QV:x9}(a:dC b (fG QV) s)(d:bN b g QY)(i:bN b e Rd):bN b (.BinOp g QV e Qx) (sm s QY Rd):=by
 intro G h z j C E c;exact wpAny_BinOp (yc d i E c λu L k f I Qz l m n p=>a G k z Qz f I u L C l m n p)
def Hf{QV:UnaryOp}{s:af->aw->cz->Prop}(a:uC b (unaryOp QV) s)(d:bN b g QY):bN b (.UnaryOp QV g Qx) (Gy s QY):=by
 intro G h z j C E c;exact UnaryOp_ (bS (d G h z j _ E c) λu e ⟨f,Qm,i,k,l⟩=>a G e z Qm f u C i k l)
def rY{aM:Int->Int->Prop}(d:∀(a i:Int) (w L:hq) (h:ah) (C:ae->ah->Prop) (Qh:ae->ah->Prop),aM a i->C (.int (M a i) h.toks) {h with toks:=h.toks+1}->wpAny (aN b.prog b.w) b.A (B (.int a w)<|.int i L) C Qh h):
  dC b B (o2 aM λa i=>.int<|M a i):=by
 intro G h z j f I u L C E e g c;let⟨a,@i,rfl,rfl,k,p⟩:=c;let⟨@w,rfl⟩:=e;let⟨@QM,rfl⟩:=g;exact d a i w QM h _ _ k ⟨.int<|M a i,j,E.tok _,⟨_,rfl⟩,p⟩
def CE(d:∀(a i:Int) (w L:hq) (h:ah) (C:ae->ah->Prop) (Qh:ae->ah->Prop),C (.int (M a i) h.toks) {h with toks:=h.toks+1}->wpAny (aN b.prog b.w) b.A (B (.int a w)<|.int i L) C Qh h):
  dC b B (kQ λa i=>.int<|M a i):=by
 intro G h z j f I u L C E e g c;let⟨a,@i,rfl,rfl,p⟩:=c;let⟨@w,rfl⟩:=e;let⟨@QM,rfl⟩:=g;exact d a i w QM h _ _ ⟨.int<|M a i,j,E.tok _,⟨_,rfl⟩,p⟩
def sg{M:Int->Int->Bool}(d:∀(a i:Int) (w L:hq) (h:ah) (C:ae->ah->Prop) (Qh:ae->ah->Prop),C (.bool<|M a i) h->wpAny (aN b.prog b.w) b.A (B (.int a w)<|.int i L) C Qh h):
  dC b B (kQ λa i=>.ax<|M a i):=by
 intro G h z j f I u L C E e g c;let⟨a,@i,rfl,rfl,p⟩:=c;let⟨@w,rfl⟩:=e;let⟨@QM,rfl⟩:=g;exact d a i w QM h _ _ ⟨.ax<|M a i,j,E,rfl,p⟩
def Jx(a i:Int):Prop:=(0<i/\i<1073741824)
def M7(a i:Int):Prop:=(0<=i/\i<=1000000/\a.natAbs<2^64)
def HC:dC b (fG .Add) (kQ λa i=>.int<|a+i):=CE λ_ W W W W W W p=>add_int p
def I8:dC b (fG .Sub) (kQ λa i=>.int<|a-i):=CE λ_ W W W W W W p=>sub_int p
def NK:dC b (fG .FloorDiv) (o2 Jx λa i=>.int<|a/i):=rY λa i W W W W W c p=>by
 have l:(0:Int)<i:=c.1;have D:i<1073741824:=c.2;exact floordiv_int ⋯ (by rw[Int.fdiv_eq_ediv_of_nonneg a ⋯];exact p) (.inl (PyProof.noPylong_small ⋯))
def Hd:dC b (fG .Mod) (o2 (λ_ i=>0<i) λa i=>.int<|a%i):=rY λa i W W W W W c p=>by
 have l:(0:Int)<i:=c;exact mod_int' ⋯ (by rw[Int.fmod_eq_emod_of_nonneg a ⋯];exact p)
def Ml:dC b (fG .Pow) (o2 M7 λa i=>.int<|a^i.toNat):=rY λ_ W W W W W W c p=>pow_int_small c.1 c.2.1 c.2.2 p
def Ma{B:ae->dA ae}{M:Int->Int}(d:∀(a:Int) (w:hq) (h:ah) (C:ae->ah->Prop) (Qh:ae->ah->Prop),C (.int (M a) h.toks) {h with toks:=h.toks+1}->wpAny (aN b.prog b.w) b.A (B<|.int a w) C Qh h):
  uC b B (DF λa=>.int<|M a):=by
 intro G h z j f u C E e c;let⟨@a,rfl,p⟩:=c;let⟨@w,rfl⟩:=e;exact d a w h _ _ ⟨.int<|M a,j,E.tok _,⟨_,rfl⟩,p⟩
def Nv:uC b (unaryOp .USub) (DF λa=>.int<|-a):=Ma λ_ W W W W p=>neg_int p
def Ik{C:cz}{n a:Bool}(E:aA b G z j h)(p:C (.ax n) j)(d:n=a):d5 b G z C (.bool a) h:=by
 subst d;exact⟨.ax n,j,E,rfl,p⟩
def Oy:dC b (d4 .Lt) (kQ λa i=>.ax<|decide (a<i)):=sg λ_ W W W W W W p=>lt_int p
def Nz:dC b (d4 .LtE) (kQ λa i=>.ax<|decide (a<=i)):=sg λ_ W W W W W W p=>le_int p
def Km:dC b (d4 .Gt) (kQ λa i=>.ax<|decide (i<a)):=sg λ_ W W W W W W p=>gt_int p
def KQ:dC b (d4 .GtE) (kQ λa i=>.ax<|decide (i<=a)):=sg λ_ W W W W W W p=>ge_int p
def OZ:dC b (d4 .IsNot) (λf I j C=>I=.aT/\C (.ax<|!decide (f=.aT)) j):=by
 intro G h z j f I u L C E a d c;let@⟨rfl,p⟩:=c;cases d;refine isnot_none_gen (Ik E p ?_);cases f<;>first
  | (cases a;rfl)
  | (let⟨@w,rfl⟩:=a;rfl)
def dC.or(c:dC b B s)(T:dC b B Q1):dC b B (λf I j C=>s f I j C\/Q1 f I j C):=by
 intro G h z j f I u L C E a d p;rcases p with p|p
 ·exact c G h z j f I u L C E a d p
 ·exact T G h z j f I u L C E a d p
def dG(e:bo){QV:jV}(c:QV≠.In:=by decide)(D:QV≠.NotIn:=by decide):oM QV e=aq:=by
 have a:(QV==jV.In)=aq:=by cases QV<;>first|rfl|exact absurd rfl c
 have b:(QV==jV.NotIn)=aq:=by cases QV<;>first|rfl|exact absurd rfl D
 cases e<;>simp[oM,a,b]
def Ov(a:dC b (d4 QV) s)(d:bN b g QY)(i:bN b e Rd)(k:oM QV e=aq):bN b (.Compare g [QV] [e] Qx) (sm s QY Rd):=by
 intro G h z j C E c;exact wpAny_Compare1 (yc d i E c λu L l f I Qz m n o p=>a G l z Qz f I u L C m n o p) k
def As(w:bX):d0:=(λz j C=>w z j λf F=>∃n,f=.ax n/\C n F)
def Po(a:dC b (d4 QV) s)(i:bN b g QY)(k:bN b e Rd)(l:oM QV e=aq):gI b (.Compare g [QV] [e] Qx) (As<|sm s QY Rd):=by
 intro G h z j C E c;refine wpAny_isTrue_Compare1 (bS (i G h z j _ E c) λu o ⟨f,Qm,p,q,r⟩=>bS (k G o z Qm _ p r) λL t ⟨I,Qz,v,w,x⟩=>
  bS (a G t z Qz f I u L _ v q w x) λm F ⟨H,y,A,B,n,d,D⟩=>?_) l;subst d;cases B;exact ly ⟨y,A,D⟩
def Ea(s Q1:bQ)(QY Rd Rt:bX):bX:=(λz j C=>QY z j λf Qm=>Rd z Qm λI Qz=>s f I Qz λH a=>∃n,H=.ax n/\
 (if n=X then Rt z a λb c=>Q1 I b c C else C (.ax aq) a))
def O9{a:jV}(p:dC b (d4 QV) s)(q:dC b (d4 a) Q1)(r:bN b g QY)(t:bN b e Rd)(w:bN b m Rt)(x:lastMarks [QV,a] [e,m]=aq:=by with_unfolding_all rfl):gI b (.Compare g [QV,a] [e,m] Qx) (As<|Ea s Q1 QY Rd Rt):=by
 intro G h z j C E c;refine isTrue_chain (bS (r G h z j _ E c) λu y ⟨f,Qm,A,B,D⟩=>test_link (bS (t G y z Qm _ A D) λL F ⟨I,Qz,J,i,M⟩=>
  bS (p G F z Qz f I u L _ J B i M) λv N ⟨H,k,l,O,n,d,o⟩=>?_)) x;subst d;cases O;refine ly ?_;cases n with
 |false=>
  let⟨@bi,P,Q⟩:=o;cases P;exact ite_ff ⟨k,l,Q⟩
 |true=>
  refine ite_tt (test_last<|bS (w G N z k _ l o) λR S ⟨T,U,al,am,an⟩=>bS (q G S z U I T L R _ al i am an) λbm bn ap=>?_);let⟨bs,@as,a1,a2,⟨@QW,bd,be⟩⟩:=ap;subst bd;cases a2;exact ly ⟨as,a1,be⟩
def vx(Qk:Φ)(f:af)(j:aw)(n:Bool):Prop:=(
 match f with
 |.aT=>n=aq
 |.ax e=>n=e
 |.int a=>n=(a != 0)
 |.str I=>I.length<=sizeLine/\n=((I.length:Int) != 0)
 |.qi I=>I.size<=sizeLine/\n=((I.size:Int) != 0)
 |.ref q=>(∃y,cQ Qk j q y/\n=!y.isEmpty)\/(∃y,cb Qk j q y/\n=!y.isEmpty)\/∃Qt,j q=Z (.dj Qt)/\n=!Qt.isEmpty
 |_=>False)
def Mw{QC:Type}{Qt:List (QC×af)}{U:List (QC×ae)}(s:fq Qt U):(!U.isEmpty)=!Qt.isEmpty:=by
 cases s<;>rfl
def Ae{Qp:List ae}(s:bM y Qp):(!Qp.toArray.isEmpty)=!y.isEmpty:=by
 cases s<;>simp
def mr:(sizeLine:Nat)<2^63:=by rw[xa];decide
def LU:Pp b (λf j C=>∃n,vx b.K f j n/\C n j):=by
 intro G h z j f u C E i c;let⟨@n,d,p⟩:=c;have v:=mr;have Qj:sizeLine=16777216:=xa;cases f with
 |aT=>
  cases i;have g:n=aq:=d;subst g;exact truthy_none ⟨j,E,p⟩
 |ax e=>
  cases i;have g:n=e:=d;subst g;exact ly ⟨j,E,p⟩
 |int a=>
  let⟨@w,rfl⟩:=i;have g:n=(a != 0):=d;subst g;exact PySem.P.truthy_int ⟨j,E,p⟩
 |str I=>
  let⟨@w,rfl⟩:=i;obtain⟨r,g⟩:I.length<=sizeLine/\n=((I.length:Int) != 0):=d;subst g;exact PySem.P.truthy_str ⋯ ⟨j,E.tok _,p⟩
 |qi I=>
  let⟨@w,rfl⟩:=i;obtain⟨r,g⟩:I.size<=sizeLine/\n=((I.size:Int) != 0):=d;subst g;exact PySem.W.truthy_bytes ⋯ ⟨j,E.tok _,p⟩
 |ref q=>
  cases i;have g:(∃y,cQ b.K j q y/\n=!y.isEmpty)\/(∃y,cb b.K j q y/\n=!y.isEmpty)\/∃Qt,j q=Z (.dj Qt)/\n=!Qt.isEmpty:=d;rcases g with ⟨y,l,g⟩|⟨y,l,g⟩|⟨Qt,l,g⟩
  ·subst g;let⟨@Qp,s,bg,m⟩:=E.list l;have o:=s.length;exact wpAny_truthy_list bg.isList (by simp only[cB];lia) ⟨j,E.tok _,by rw[Ae s];exact p⟩
  ·subst g;let⟨@Qp,s,bg,m⟩:=E.tuple l;have o:=s.length;exact truthy_tuple bg (by simp only[cB];lia) ⟨j,E.tok _,by rw[Ae s];exact p⟩
  ·subst g;obtain⟨m,t,U,s,k⟩:Qt.length<=sizeLine/\(q==i1)=aq/\∃U,fq Qt U/\h.heap.DictOf (lz b.prog b.w) q U:=E.a3 q _ l;have o:Qt.length=U.length:=d1.length s;exact wpAny_truthy_dict t k ⋯ ⟨j,E.tok _,by rw[Mw s];exact p⟩
 |_=>exact (show False from d).elim
def Lw(d:bN b g QY)(e:∀a,oG g b.env a=(do let u <-a;standAt g.pos;holding [u] (truthy u))):
  gI b g (λz j C=>QY z j λf F=>∃n,vx b.K f F n/\C n F):=by
 intro G h z j C E c;exact isTrue_plain (bS (d G h z j _ E c) λu i ⟨f,Qm,k,l,m⟩=>LU G i z Qm f u C k l m) (e _)
def Kj:dC b (fG .Add) (λf I j C=>∃a i,f=.str a/\I=.str i/\a.length+i.length<=sizeLine/\C (.str<|a++i) j):=by
 intro G h z j f I u L C E d e c;let⟨a,@i,rfl,rfl,g,p⟩:=c;let⟨@w,rfl⟩:=d;let⟨@QM,rfl⟩:=e;exact add_str (λQM QP=>⟨.str<|a++i,j,E.tok _,⟨_,rfl⟩,p⟩) g
def hX{f:af}(s:bM [f] QD):∃L,QD=[L]/\b5 f L:=by
 cases s with
 |cons a b=>cases b;exact⟨_,rfl,a⟩
def q0{f:af}(s:bM [f,I] QD):∃L a,QD=[L,a]/\b5 f L/\b5 I a:=by
 cases s with
 |cons b c=>
  cases c with
  |cons d e=>cases e;exact⟨_,_,rfl,b,d⟩
def KV(e:b.calm=X):en b (.builtin "max") (λy j C=>∃a i,y=[.int a,.int i]/\C (.int<|if i>a then i else a) j):=by
 intro G h z j y QD C E s c;let⟨a,@i,rfl,p⟩:=c;let⟨L,@f,rfl,⟨@w,rfl⟩,⟨@QM,rfl⟩⟩:=q0 s;refine max_two_ints (E.ok.hd e) λT QP n=>⟨_,j,E.kept n,?_,p⟩;by_cases d:i>a
 ·rw[aE d,aE d];exact⟨_,rfl⟩
 ·rw[aI d,aI d];exact⟨_,rfl⟩
def Ow(e:b.calm=X):en b (.builtin "min") (λy j C=>∃a i,y=[.int a,.int i]/\C (.int<|if i<a then i else a) j):=by
 intro G h z j y QD C E s c;let⟨a,@i,rfl,p⟩:=c;let⟨L,@f,rfl,⟨@w,rfl⟩,⟨@QM,rfl⟩⟩:=q0 s;refine min_two_ints (E.ok.hd e) λT QP n=>⟨_,j,E.kept n,?_,p⟩;by_cases d:i<a
 ·rw[aE d,aE d];exact⟨_,rfl⟩
 ·rw[aI d,aI d];exact⟨_,rfl⟩
def Mg:en b (.type "int") (λy j C=>(∃a,y=[.int a]/\C (.int a) j)\/∃n,y=[.ax n]/\C (.int<|if n then 1 else 0) j):=by
 intro G h z j y QD C E s c;rcases c with ⟨a,rfl,p⟩|⟨n,rfl,p⟩
 ·let⟨@L,rfl,⟨@w,rfl⟩⟩:=hX s;exact call_int_int ⟨.int a,j,E,⟨_,rfl⟩,p⟩
 ·let⟨@L,rfl,d⟩:=hX s;cases d;exact call_int_bool ⟨.int<|if n then 1 else 0,j,E.tok _,⟨_,rfl⟩,p⟩
end
def jP.some_of{o:Option ae}(s:jP (Z u) o):∃L,o=Z L/\b5 u L:=by
 cases o with
 |none=>exact (show False from s).elim
 |some L=>exact⟨L,rfl,s⟩
structure eC(n:Nat)(O:bj):Prop where
 hd:O.handled=Y
 xZ:O.depth+3*n+5<Af
 un:O.units+16*n+200<bL
 yT:O.guards=Z []
def eC.mono{i:Nat}(s:eC n O)(c:i<=n):eC i O:=⟨s.hd,by have:=s.xZ;lia,by have:=s.un;lia,s.yT⟩
def eC.deeper(s:eC (n+1) O)(Qi:ew):eC n (O.deeper Qi):=
 ⟨s.hd,by have:=s.xZ;show O.depth+1+3*n+5<_;lia,by have:=s.un;show O.units+3+16*n+200<_;lia,s.yT⟩
def eC.depth(s:eC n O):O.depth<Af:=by have:=s.xZ;lia
def My:eR:=(λ_ j C=>C [] j)
def LD(QY:bX)(fS:eR):eR:=(λz j C=>QY z j λf Qm=>fS z Qm λy Qz=>C (f::y) Qz)
section
variable{b:aK}{d:bo}{Qe:List bo}{Rf:bX}{w:eR}{Qx:Pos}
def DC:hp b [] My:=λ_ W W W j C E c=>uV ⟨[],j,E,.nil,c⟩
def wI(e:bN b d Rf)(g:hp b Qe w)(Qj:bU (d::Qe) b.env=(aq,b_ d b.env)::bU Qe b.env:=by rfl):hp b (d::Qe) (LD Rf w):=by
 intro Qx G h z j C E c;rw[Qj];show wpAny _ _ (spliced ((aq,b_ d b.env)::gz Qx (bU Qe b.env))) _ _ h;refine ym (bS (e G h z j _ E c) λL i a=>?_);let⟨f,@Qm,k,l,m⟩:=a;refine bS (g Qx G i z Qm _ k m) λQD q a=>?_;let⟨y,@Qz,n,o,p⟩:=a;exact⟨f::y,Qz,n,.cons l o,p⟩
def Iu(w:eR):bX:=(λz j C=>w z j λy Qm=>y.length<=sizeLine/\∀q,Qm q=Y->C (.ref q) (upd Qm q<|.tup y))
def IU(w:eR):bX:=(λz j C=>w z j λy Qm=>y.length<=sizeLine/\∀q,Qm q=Y->C (.ref q) (upd Qm q<|.lst y))
def Mu{g}(c:hp b Qe w):bN b (.Tuple Qe g Qx) (Iu w):=by
 intro G h z j C E i;refine wpAny_Tuple_spliced (bS (c Qx G h z j _ E i) λQD a ⟨y,Qm,f,s,H,p⟩=>⟨by rw[<-s.length];exact H,?_⟩);have k:Qm a.heap.objs.size=Y:=f.a3.fresh (bf _);refine⟨.ref a.heap.objs.size,upd Qm a.heap.objs.size<|.tup y,f.laid (QM:=a.toks) (λe L d=>b3 _ d) (bf _) ?_,rfl,p _ k⟩;exact⟨H,QD,s,⟨_,c9 _ rfl,rfl,_,rfl⟩⟩
def Hs(c:hp b Qe w):bN b (.List Qe Qx) (IU w):=by
 intro G h z j C E g;refine wpAny_List_spliced (bS (c Qx G h z j _ E g) λQD a ⟨y,Qm,f,s,H,p⟩=>⟨by rw[<-s.length];exact H,?_⟩);have i:Qm a.heap.objs.size=Y:=f.a3.fresh (bf _);refine⟨.ref a.heap.objs.size,upd Qm a.heap.objs.size<|.lst y,f.laid (QM:=a.toks) (λe L d=>b3 _ d) (bf _) ?_,rfl,p _ i⟩;exact⟨H,QD,0,s,c9 _ rfl⟩
end
abbrev cF:=List af->aw->cz->f3->Prop
abbrev jY:=List ew->aw->ah->f3->ae->ah->Prop
variable{Rj:jY}
structure tp(Qf:bA)(x:bc)(Qk:Φ)(aH:aC->Option ae)(Qv:aV)(O:bj)(Q5:List ew)(h:ah)(j:aw):Prop where
 frames:O.frames=Z Q5
 mod:Mod Qk aH Qv
 bs:∀e o,Qv.get? e=Z o->h.heap.get? e=Z o/\j e=Y
 kN:Qv.objs.size<=h.heap.objs.size
 iq:h.heap.FunFrames Qv Q5
 mx:∀e∈ht Q5,j e=Y
 a3:dN Qf x j h.heap
 bare:kU h.gens
def xS(Q5:List ew)(Qf:bA)(x:bc)(j:aw)(h:ah)(C:cz)(L:ae)(Qd:ah):Prop:=(
 ∃u F,Qd.os=h.os/\kU Qd.gens/\eP (ht Q5) [] j F h.heap Qd.heap/\dN Qf x F Qd.heap/\b5 u L/\C u F)
def L7(Rj:jY)(Q5:List ew)(Qf:bA)(x:bc)(j:aw)(h:ah)(C:cz)(Qh:f3)(s:n8)(Qd:ah):Prop:=(
 match s with
 |.ok (.ret L)=>xS Q5 Qf x j h C L Qd
 |.ok _=>False
 |.error d=>Rj Q5 j h Qh d Qd)
structure h1(Qf:bA)(x:bc)(Qk:Φ)(aH:aC->Option ae)(Qv:aV)(Rj:jY)(n:Nat)(B:ao)(fd:gh)(Qr:List aC)(Rk:cF):Prop where
 len:∀U j C Qh,Rk U j C Qh->U.length=Qr.length
 run:∀(O:bj) (Q5:List ew) (h:ah) (j:aw) (args:Args) (QD:List ae) (U:List af) (C:cz) (Qh:f3),eC n O->tp Qf x Qk aH Qv O Q5 h j->l6 h fd args (Qr.zip QD)->bM U QD->Rk U j C Qh->
  codeAny (aN Qf x) O (.call (.ref B) args) (L7 Rj Q5 Qf x j h C Qh) h
section
variable{b:aK}{G:List (ao×a0)}{z:aU}{j:aw}{h Qd:ah}
def aA.OW(E:aA b G z j h):tp b.prog b.w b.K b.aH b.base b.A b.stack h j:=
 ⟨E.ok.frames,E.ok.mod,E.bs,eU E.ok.kN E.iE,E.stack,E.A8,E.a3,E.bare⟩
def aA.after{C:cz}(E:aA b G z j h)(c:xS b.stack b.prog b.w j h C L Qd):d5 b G z C L Qd:=by
 let⟨u,@F,Q,a,un,a3,s,p⟩:=c;let⟨d,M,v,w,f⟩:=Qd;obtain rfl:f=h.os:=Q;exact⟨u,F,E.call (T:=d) (g:=M) (p:=v) (QM:=w) (Rh:=[]) un a3 a (λe H=>absurd H ↥0),s,p⟩
end
def yH(Rk:cF)(i:List af)(Qh:f3)(w:eR):bX:=(λz j C=>w z j λU Qm=>Rk (U++i) Qm C Qh)
def h_(Qk:Φ)(fd:gh)(Qr:List aC)(J:List ae):Prop:=(
 ∀(h:ah) (QD:List ae),Qk.In h.heap->(QD++J).length=Qr.length->l6 h fd ⟨QD,[]⟩ (Qr.zip<|QD++J))
def h_.all{fd:gh}(c:∀QD:List ae,QD.length=Qr.length->iO fd ⟨QD,[]⟩=pure (Qr.zip QD)):h_ Qk fd Qr []:=λh QD W a=>by
 rw[cD]at a ⊢;exact .of_eq (c QD a)
def w8(Rj:jY)(b:aK)(Qh:f3):Prop:=(∀(G:List (ao×a0)) (z:aU) (j:aw) (h:ah) (d:ae) (Qd:ah),aA b G z j h->Rj b.stack j h Qh d Qd->b.cE d Qd)
section
variable{b:aK}{Rj:jY}{n:Nat}{B aM:ao}{fd:gh}{Qr:List aC}{Rk:cF}{i:List af}{J:List ae}{Qh:f3}{f k:aC}{q Qx R:Pos}{d o:bo}{Qe:List bo}{QY:bX}{w:eR}
def Nx{C:cz}(P:h1 b.prog b.w b.K b.aH b.base Rj n B fd Qr Rk)(f:eC n b.A)(g:h_ b.K fd Qr J)(k:bM i J)(l:w8 Rj b Qh)(E:aA b G z j h)(s:bM U QD)(c:Rk (U++i) j C Qh):wpAny (aN b.prog b.w) b.A (call (.ref B) QD) (d5 b G z C) b.cE h:=by
 have e:bM (U++i) (QD++J):=s.append k;have m:(QD++J).length=Qr.length:=by rw[<-e.length];exact P.len _ _ _ _ c
 refine wpAny_call (rj (P.run b.A b.stack h j ⟨QD,[]⟩ (QD++J) (U++i) C Qh f E.OW (g h QD E.oQ m) e c) λs Qd a=>?_);cases s with
 |error d=>exact l G z j h d Qd E a
 |ok aQ=>
  cases aQ with
  |ret L=>exact E.after a
  |next=>exact False.elim a
  |brk=>exact False.elim a
  |cont=>exact False.elim a
def OG(P:h1 b.prog b.w b.K b.aH b.base Rj n B fd Qr Rk)(e:eC n b.A)(g:ed b f)(k:b.aH f=Z (.ref B))(l:Θ b.K (.ref B)=X)(m:h_ b.K fd Qr J)(o:bM i J)(r:w8 Rj b Qh)(t:hp b (d::Qe) w)(u:(f==("__debug__" : aC))=aq:=by decide)(v:bU (d::Qe) b.env=(aq,b_ d b.env)::bU Qe b.env:=by rfl)(y:(gz Qx<|bU Qe b.env).any (·.1)=aq:=by rfl):
  bN b (.Call (.Name f q) (d::Qe) [] Qx) (yH Rk i Qh w):=by
 intro G h z j C E c;refine qI (Cd E g k ?_ u);refine PySem.W.callWith_K (h₀:=b.base) E.ok.mod.vh l (bS (t Qx G h z j _ E c) λQD F ⟨U,Qm,a,s,p⟩=>⟨a.oQ,?_⟩) v y;exact Nx P e m o r a s p
end
structure nj(QO Qf:List aC)(w:gf):Prop where
 kind:w.kind=.function
 co:w.isCoroutine=aq
 gen:w.isGenerator=aq
 ak:QO.Nodup
 pre:QO.take Qf.length=Qf
 par:∀f∈Qf,w.names.lookup f=Z .local\/w.names.lookup f=Z .cell
 Nq:∀I∈w.names,I.2≠.free
theorem Df{a:aC->Option dd}{f:aC}:∀{binds:List (aC×ae)}{k:aC->Option ae},(∀u,(f,u)∉binds)->bindL a binds k f=k f
 |[],_,_=>rfl
 | (r,u)::s,k,c=>by
  unfold bindL;rw[Df λx b=>c x<|jT _ b];split
  ·have:f≠r:=by rintro rfl;exact c u kr
   simp[this]
  ·rfl
theorem Dv{a:aC->Option dd}{f:aC}:∀{binds:List (aC×ae)}{k:aC->Option ae},(∀u,(f,u)∉binds)->bindC a binds k f=k f
 |[],_,_=>rfl
 | (r,u)::s,k,c=>by
  unfold bindC;rw[Dv λx b=>c x<|jT _ b];split
  ·rfl
  ·have:f≠r:=by rintro rfl;exact c u kr
   simp[this]
theorem AY{b:aC->Option dd}{f:aC}{u:ae}:∀{Qf:List aC}{U:List ae}{a:Nat}{k:aC->Option ae},Qf.Nodup->Qf[a]?=Z f->U[a]?=Z u->b f=Z .local->
  bindL b (Qf.zip U) k f=Z u
 |[],_,_,_,_,c,_,_=>by simp at c
 |_::_,[],_,_,_,_,c,_=>by simp at c
 |q::Qf,x::U,0,k,ak,l,D,d=>by
  simp at l D;subst l;subst D;show bindL b ((q,x)::Qf.zip U) k q=_;unfold bindL;rw[Df λu e=>(iw.mp ak).1 (yg e).1,aE d];simp
 |q::Qf,x::U,a+1,k,ak,l,D,d=>by
  show bindL b ((q,x)::Qf.zip U) k f=_;unfold bindL;exact AY (a:=a) (iw.mp ak).2 ⇑l ⇑D d
theorem z1{b:aC->Option dd}{f:aC}{u:ae}:∀{Qf:List aC}{U:List ae}{a:Nat}{k:aC->Option ae},Qf.Nodup->Qf[a]?=Z f->U[a]?=Z u->b f≠Z .local->
  bindC b (Qf.zip U) k f=Z u
 |[],_,_,_,_,c,_,_=>by simp at c
 |_::_,[],_,_,_,_,c,_=>by simp at c
 |q::Qf,x::U,0,k,ak,l,D,d=>by
  simp at l D;subst l;subst D;show bindC b ((q,x)::Qf.zip U) k q=_;unfold bindC;rw[Dv λu e=>(iw.mp ak).1 (yg e).1,aI d];simp
 |q::Qf,x::U,a+1,k,ak,l,D,d=>by
  show bindC b ((q,x)::Qf.zip U) k f=_;unfold bindC;exact z1 (a:=a) (iw.mp ak).2 ⇑l ⇑D d
def start(QO:List aC)(U:List af):aU:=(U.map Z++List.replicate (QO.length-U.length) Y)
def kl(Rj:jY)(Qf:bA)(x:bc)(Qk:Φ)(aH:aC->Option ae)(Qv:aV)(QO:List aC)(Rb:aC)(QF:gf)(B:ao)(a:ae)(O:bj)(Q5:List ew)(h:ah)(j:aw)(Qh:f3):aK where
 prog:=Qf
 w:=x
 K:=Qk
 aH:=aH
 base:=Qv
 A:=O.deeper (iP Rb QF h.heap.objs.size B a)
 N:=QO
 eF:=h
 n1:=j
 env:=iP Rb QF h.heap.objs.size B a
 outer:=Q5
 stack:=iP Rb QF h.heap.objs.size B a::Q5
 ex:=[]
 calm:=X
 fn:=λ_=>X
 j8:=[]
 cE:=λd Qd=>wpAny (aN Qf x) (O.deeper<|iP Rb QF h.heap.objs.size B a) (leaving (iP Rb QF h.heap.objs.size B a) d) (λ_ b=>Rj Q5 j h Qh d b) (λc b=>Rj Q5 j h Qh c b) Qd
def CG{w:gf}(c:w.names.lookup f=Z .cell):∃m,(uG r w.names []).lookup f=Z m:=by
 have p:=CV w.names r [] (.inl c);exact Dz.mp p
def Ir{B:ao}{o:ae}{Q5:List ew}{v:ah}{Qh:f3}(Qu:nj QO Qr QF)(A:O.handled=Y)(b:tp Qf x Qk aH Qv O Q5 h j)(F:U.length=Qr.length)(s:bM U QD)(f:InCallC h h.heap.objs.size (bindL (iP Rb QF h.heap.objs.size B o).kindOf (Qr.zip QD) λ_=>Y) (uG (h.heap.objs.size+1) QF.names []) (bindC (iP Rb QF h.heap.objs.size B o).kindOf (Qr.zip QD) λ_=>Y) v):
  aA (kl Rj Qf x Qk aH Qv QO Rb QF B o O Q5 h j Qh) [] (start QO U) j v:=by
 have G:Qr.length<=QO.length:=by have:=congrArg List.length Qu.pre;rw[f5]at this;lia
 let⟨l,@QP,rfl,w⟩:=f.done;have t:∀e:ao,e∉(kl Rj Qf x Qk aH Qv QO Rb QF B o O Q5 h j Qh).ex:=λe H=>absurd (show e∈([]:List ao) from H) ↥0;refine⟨⟨b.mod,Qu.kind,rfl,rfl,bf _,λI H m l D=>?_,λI i=>?_,λI m W c=>?_,λ_=>A,bj.frames_deeper b.frames,.inr ⟨rfl,rfl⟩,λe H=>absurd H<|t e,b.bs,b.kN,λe W W=>t e,λe H=>absurd H<|t e,b.iq,b.mx⟩,
  rfl,b.bare,eP.kept w,⟨_,f.toInCall.ns,λa I u l D J=>?_⟩,λI m c=>⟨_,f.cell I m c⟩,b.a3.fresh<|bf _,λI m c=>?_,λq k=>absurd (show q∈([]:List (ao×a0)) from k) ↥0,b.a3.kept w,?_⟩
 ·exact name_of_addr f.apart (PySem.mem_of_lookup l) (PySem.mem_of_lookup D)
 ·have i:QF.names.lookup I=Z .cell\/QF.names.lookup I=Z .free:=i;rcases i with i|i
  ·exact CG i
  ·exact absurd rfl (Qu.Nq _<|PySem.mem_of_lookup i)
 ·exact my (f.above I m<|PySem.mem_of_lookup c)
 ·have S:a<U.length:=by
   unfold start at D;by_cases S:a<U.length
   ·exact S
   ·rw[jo ⇑S]at D;rw[List.getElem?_replicate]at D;split at D<;>cases D
  have C:U[a]?=Z u:=by
   unfold start at D;rw[ij ⇑S,eG]at D;cases d:U[a]? with
   |none=>rw[d]at D;cases D
   |some g=>rw[d]at D;cases D;rfl
  let⟨@L,y,E⟩:=s.get C;have k:Qr[a]?=Z I:=by
   rw[<-Qu.pre,List.getElem?_take_of_lt ⋯];exact l
  have z:Qr.Nodup:=by rw[<-Qu.pre];exact Qu.ak.sublist (pM _ _)
  refine⟨L,E,?_⟩;rcases Qu.par I (fu k) with n|n
  ·exact .inl ⟨n,AY z k y n⟩
  ·let⟨@m,d⟩:=CG (r:=h.heap.objs.size+1) n;refine .inr ⟨.inl n,m,d,?_⟩;have p:=f.cell I m d;rw[z1 z k y (by show QF.names.lookup I≠_;rw[n];decide)]at p;exact p
 ·exact b.a3.fresh (my<|f.above I m<|PySem.mem_of_lookup c)
 ·unfold start;show _=QO.length;rw[dF,bq,List.length_replicate];lia
def OO{B:ao}{name:aC}{k:Arguments}{m bW i T H bV D:ae}{A l:Option ao}{J:Array (Option ae)}{Rk:cF}(lk:Qk.lookup B=Z ⟨D,l,.func<|Ξ name Rb k Ro QF m bW i T A H bV,J⟩)(z:Δ Qk H Rb=X)(Qu:nj QO Qr QF)(len:∀U j C Qh,Rk U j C Qh->U.length=Qr.length)(G:∀(O:bj) (Q5:List ew) (h:ah) (j:aw) (U:List af) (C:cz) (Qh:f3),eC n (O.deeper<|iP Rb QF h.heap.objs.size B H)->Rk U j C Qh->
   ∃w,gX (kl Rj Qf x Qk aH Qv QO Rb QF B H O Q5 h j Qh) Ro w/\w {bp:=λ_ F=>C .aT F,et:=C} (start QO U) j):
  h1 Qf x Qk aH Qv Rj (n+1) B (Ξ name Rb k Ro QF m bW i T A H bV) Qr Rk:=by
 refine⟨len,λO Q5 h j args QD U C Qh c a M s q=>?_⟩;have N:=len _ _ _ _ q;have t:Qk.In h.heap:=a.mod.vh.keeps λe o d=>(a.bs e o d).1;have P:h.heap.NoLimit:=a.mod.nolimit.keeps λe o d=>(a.bs e o d).1;have S:∀I∈Qr.zip QD,QF.names.lookup I.1=Z .local\/(QF.names.lookup I.1=Z .cell/\((uG (h.heap.objs.size+1) QF.names []).lookup I.1).isSome=X):=λ⟨r,u⟩ al=>by
  rcases Qu.par r (yg al).1 with p|p
  ·exact .inl p
  ·exact .inr ⟨p,CV _ _ _<|.inl p⟩
 refine codeAny_call_function c.depth (t _ _ lk) rfl Qu.co Qu.gen rfl (PySem.W.codeRec_of t z) (M _ _ _ _ ?_);refine wpAny_newFunctionEnv_cells Qu.kind S λQi am v f=>?_;subst am;refine⟨P.keeps f.toInCall.keep,codeAny_func ?_⟩;let⟨@w,ba,an⟩:=G O Q5 h j U C Qh (c.deeper _) q;have E:aA (kl Rj Qf x Qk aH Qv QO Rb QF B H O Q5 h j Qh) [] (start QO U) j v:=Ir Qu c.hd a N s f;refine gS (ba [] v (start QO U) j _ E an) (λaQ Qd Qj=>?_) λd Qd Qj=>Qj;have y:∀{b:aU}{F:aw}{u:af}{L:ae},aA (kl Rj Qf x Qk aH Qv QO Rb QF B H O Q5 h j Qh) [] b F Qd->b5 u L->C u F->xS Q5 Qf x j h C L Qd:=
  λ{b F u L} R g p=>⟨u,F,R.os,R.bare,R.base,R.a3,g,p⟩;cases aQ with
 |ret L=>
  let⟨u,b,@F,R,g,p⟩:=Qj;exact y R g p
 |next=>
  let⟨b,@F,R,p⟩:=Qj;exact y (u:=af.aT) (L:=ae.none) R rfl p
 |brk=>
  let⟨Q,@Q,Q,p⟩:=Qj;exact False.elim p
 |cont=>
  let⟨Q,@Q,Q,p⟩:=Qj;exact False.elim p
section
variable{b:aK}{f:aC}{q Qx:Pos}{d:bo}{Qe:List bo}{w:eR}{id Qc:String}{s:List af->aw->cz->Prop}
def Bn(s:List af->aw->cz->Prop)(w:eR):bX:=(λz j C=>w z j λU Qm=>s U Qm C)
def Fd(a:en b (.builtin id) s)(e:ed b f)(g:b.aH f=Y)(i:ez f=Z (.builtin id))(k:hp b (d::Qe) w)(l:f ≠ "__name__" := by decide)(m:(f==("__debug__" : aC))=aq:=by decide)(n:bU (d::Qe) b.env=(aq,b_ d b.env)::bU Qe b.env:=by rfl)(o:(gz Qx<|bU Qe b.env).any (·.1)=aq:=by rfl):bN b (.Call (.Name f q) (d::Qe) [] Qx) (Bn s w):=by
 intro G h z j C E c;refine qI (ku E e g i ?_ l m);exact DA (bS (k Qx G h z j _ E c) λQD p ⟨U,Qm,r,t,u⟩=>a G p z Qm U QD C r t u) n o
def Lx(a:en b (.type Qc) s)(e:ed b f)(g:b.aH f=Y)(i:ez f=Z (.type Qc))(k:hp b (d::Qe) w)(l:f ≠ "__name__" := by decide)(m:(f==("__debug__" : aC))=aq:=by decide)(n:bU (d::Qe) b.env=(aq,b_ d b.env)::bU Qe b.env:=by rfl)(o:(gz Qx<|bU Qe b.env).any (·.1)=aq:=by rfl):bN b (.Call (.Name f q) (d::Qe) [] Qx) (Bn s w):=by
 intro G h z j C E c;refine qI (ku E e g i ?_ l m);exact oX (bS (k Qx G h z j _ E c) λQD p ⟨U,Qm,r,t,u⟩=>a G p z Qm U QD C r t u) n o
end
end L2
namespace c_
open PyProof.Rows
variable{S R:Option Int}{H cm:ae}{aS w:ao}{C:ae->ah->Prop}
theorem H4(O:bj)(h:ah)(g:Int)(w:hq)(m:Int)(L:hq)(Ql:bA)(x:bc)(Qh:ae->ah->Prop)(C:ae->ah->Prop)(c:C (.bool<|decide (g<m)) h):
  wpAny (aN Ql x) O (mH .Lt (.int g w)<|.int m L) C Qh h:=
 (Kd c:wpAny (aN Ql x) O (d4 .Lt (.int g w)<|.int m L) C Qh h)
section
open PySem.SeqAt
open PySem.AutoSeq1 (wpAny_loadPart')
open PySem.MeetsSeq PySem.MeetsSeq2 PySem.MeetsSeq3
end
section
variable{Ql:bA}{x:bc}{O:bj}{Qh:ae->ah->Prop}{h:ah}
def Pz{e:ao}{U QS:List ae}(ba:ny h.heap w U.toArray)(q:ny h.heap e QS.toArray)(f:U≠[])(l:QS=[]->C (.ref w) h)(D:QS≠[]->C (.ref h.heap.objs.size) {h with heap:=h.heap.push {cls:=.type "tuple",data:=.seq (U++QS).toArray} })(s:U.length+QS.length<=sizeLine):wpAny (aN Ql x) O (fG .Add (.ref w)<|.ref e) C Qh h:=by
 let⟨@⟨cls,g,data,aS⟩,a,i,⟨@r,j⟩⟩:=id ba;let⟨@⟨t,k,data2,m⟩,b,n,⟨@o,p⟩⟩:=id q;simp only at i j n p;subst i j n p;have d:U.toArray++QS.toArray=(U++QS).toArray:=by simp
 by_cases c:QS=[]
 ·exact vR ⟨_,a,rfl⟩ ⟨_,b,rfl⟩ we vf wN wR (xF _ _)
   (tuple_addW1 w e U.toArray QS.toArray r o g k aS m ⇑f (by simp[c])) ⟨a,b,l c⟩
 ·refine vR ⟨_,a,rfl⟩ ⟨_,b,rfl⟩ we vf wN wR (xF _ _)
   (tuple_addW2 w e U.toArray QS.toArray r o g k aS m ⇑f ⇑c (by rw[cB,cB];exact s)) ⟨a,b,?_⟩;rw[d];exact D c
def b1(r v:Nat):Option Int->Nat
 |none=>v
 |some u=>if u<0 then (u+(r:Int)).toNat else min u.toNat r
def O2(r v:Nat):b1 r v Y=v:=rfl
def MM(r v n:Nat):b1 r v (Z (n:Int))=min n r:=by
 show (if (n:Int)<0 then ((n:Int)+(r:Int)).toNat else min (n:Int).toNat r)=min n r;rw[aI ⋯,qU]
def PA(r v:Nat)(b:v<=r)(o:Option Int):b1 r v o<=r:=by
 cases o with
 |none=>exact b
 |some u=>
  show (if u<0 then (u+(r:Int)).toNat else min u.toNat r)<=r;by_cases a:u<0
  ·rw[aE a];lia
  ·rw[aI a];exact Nat.min_le_right _ _
def CN(u:Int)(r v:Nat):(if u<0 then max (u+(r:Int)) 0 else min u (r:Int))=((b1 r v (Z u):Nat):Int):=by
 show (if u<0 then max (u+(r:Int)) 0 else min u (r:Int))=(((if u<0 then (u+(r:Int)).toNat else min u.toNat r):Nat):Int);by_cases a:u<0
 ·simp only[aE a];lia
 ·simp only[aI a];lia
def IF(R S:Option Int)(r:Nat):bl.Slice.sliceAdjust R S 1 (r:Int)=(((b1 r 0 R:Nat):Int),((b1 r r S:Nat):Int)):=by
 have l:¬ ((1:Int)<0):=⋯
 unfold bl.Slice.sliceAdjust;simp only[l,e2];refine Cn ?_ ?_
 ·cases R with
  |none=>rfl
  |some u=>exact CN u r 0
 ·cases S with
  |none=>rfl
  |some u=>exact CN u r r
def M5(a i:Nat):bl.Slice.slicePlaces (a:Int) (i:Int) 1=i-a:=by
 unfold bl.Slice.slicePlaces;have l:(1:Int)>0:=⋯
 simp only[l,gR,Int.ediv_one];split<;>lia
def C6{u:ae}{o:Option Int}{C:Option Int->ah->Prop}(q:j2 u o)(c:C o h):wpAny (aN Ql x) O (bl.Slice.slicePartIndex u) C Qh h:=by
 cases q with
 |none=>exact CL c
 |int a w=>exact slicePart_int c
def zw{r:Nat}{C:Int×Int×Nat->ah->Prop}(Qj:h.heap.IsSliceOf aS cm H .none)(bg:j2 cm R)(d:j2 H S)(c:C (((b1 r 0 R:Nat):Int),1,b1 r r S-b1 r 0 R) h):wpAny (aN Ql x) O (bl.Slice.sliceApplied (.ref aS)<|pure (r:Int)) C Qh h:=by
 let⟨@Q,a,e,b⟩:=id Qj;unfold bl.Slice.sliceApplied bl.Slice.sliceFields;refine av (av<|hg a b (x:=cm) rfl<|av<|hg a b (x:=H) rfl<|av<|hg a b (x:=.none) rfl<|aR ?_);refine av (CL ?_);show wpAny _ _ (if ((1:Int)==0)=X then _ else _) _ _ h;rw[aI ∅];refine av (C6 bg<|av<|C6 d<|av<|aR ?_);show wpAny _ _ (match bl.Slice.sliceAdjust R S 1 (r:Int) with|(R,S)=>pure (R,(1:Int),bl.Slice.slicePlaces R S 1)) _ _ h;rw[IF R S r];show wpAny _ _ (pure (((b1 r 0 R:Nat):Int),(1:Int),bl.Slice.slicePlaces ((b1 r 0 R:Nat):Int) ((b1 r r S:Nat):Int) 1)) _ _ h;rw[M5];exact aR c
def Pl(y:Array ae)(a n:Nat):((range n).filterMap λ(k:Nat)=>y[((a:Int)+(k:Int)*1).toNat]?).toArray=((y.toList.drop a).take n).toArray:=by
 have d:(λ(k:Nat)=>y[((a:Int)+(k:Int)*1).toNat]?)=λk=>y[a+k]?:=by
  funext k;have:((a:Int)+(k:Int)*1).toNat=a+k:=⋯
  rw[this]
 rw[d];have:=pick_run y a n;rw[List.filterMap_map]at this;have b:((λf=>y[f]?) ∘ λf=>a+f)=λk=>y[a+k]?:=rfl;rw[b]at this;rw[this]
def Ha{Qy:Array ae}(ba:ny h.heap w Qy)(Qj:h.heap.IsSliceOf aS cm H .none)(bg:j2 cm R)(b:j2 H S)(d:¬ (b1 Qy.size 0 R=0/\b1 Qy.size Qy.size S=Qy.size))(c:C (.ref h.heap.objs.size) {h with heap:=h.heap.push {cls:=.type "tuple",data:=.seq ((Qy.toList.drop<|b1 Qy.size 0 R).take<|b1 Qy.size Qy.size S-b1 Qy.size 0 R).toArray} })(j:Qy.size<=sizeLine):wpAny (aN Ql x) O (lu (.ref w)<|.ref aS) C Qh h:=by
 have a:sizeOk (.seq ((Qy.toList.drop<|b1 Qy.size 0 R).take<|b1 Qy.size Qy.size S-b1 Qy.size 0 R).toArray):=by
  show ((Qy.toList.drop<|b1 Qy.size 0 R).take<|b1 Qy.size Qy.size S-b1 Qy.size 0 R).toArray.size<=sizeLine;rw[cB,f5,gb,di];lia
 have l:b1 Qy.size Qy.size S<=Qy.size:=PA _ _ (bf _) S;let⟨@Q,e,f,m⟩:=id Qj;have g:h.TypeIs (.ref aS) "slice" := ⟨Q,e,f⟩;unfold lu;try with_reducible refine e3 ?_
 first|refine av (aR ?_)|skip
 refine av (Fl ba.typeIs ∅ ?_);refine av (lU (name:=aC.ofString "__getitem__") ba.typeIs o1
  (iB o1 ba.typeIs zR ?_<|DK _ _));show wpAny _ _ (bl.Tuple.tupleItemsOf (.ref w) >>= _) _ _ h;refine av (zX ba ?_);refine av (wpAny_typeOf g ?_);rw[aE ∅];refine av (zw Qj bg b ?_);have i:¬ ((((b1 Qy.size 0 R:Nat):Int)==0&&(1:Int)==1&&(b1 Qy.size Qy.size S-b1 Qy.size 0 R)==Qy.size)=X):=by
  intro p;rw[cG,cG]at p;have n:((b1 Qy.size 0 R:Nat):Int)=0:=eq_of_beq p.1.1;have o:b1 Qy.size Qy.size S-b1 Qy.size 0 R=Qy.size:=eq_of_beq p.2;exact d ⟨⋯,⋯⟩
 show wpAny _ _ (if (((b1 Qy.size 0 R:Nat):Int)==0&&(1:Int)==1&&(b1 Qy.size Qy.size S-b1 Qy.size 0 R)==Qy.size)=X then _ else _) _ _ h;rw[aI i,Pl];first
  | exact av (m:=bl.Tuple.tupleExact _) (hM (aR ⟨_,rfl,aR c⟩) a)
  | exact av (m:=bl.Tuple.tupleExact _) (hM (av<|aR<|aR ⟨_,rfl,aR c⟩) a)
  | exact av (av (m:=bl.Tuple.tupleExact _)<|hM (aR<|aR ⟨_,rfl,aR c⟩) a)
  | exact av (av (m:=bl.Tuple.tupleExact _)<|hM (aR ⟨_,rfl,aR c⟩) a)
end
end c_
namespace L2
open Spec PyProof.Rows
variable{T:aV}{C:ae->ah->Prop}{F j:aw}{Qt:List (List V×af)}{x:bc}{Qf:bA}{o:Option af}{QM r:Nat}{A Qp QD:List ae}{q:ao}{h:ah}{z:aU}{G:List (ao×a0)}{s:bQ}{QG:Type}{a:Int}{y:List (List V×ao×ae)}
abbrev cI:=aU->aw->(Option Int->aw->Prop)->Prop
def Bd(b:aK)(d:Option bo)(w:cI)(G:List (ao×a0)):Prop:=(
 ∀(h:ah) (z:aU) (j:aw) (C:Option Int->aw->Prop),aA b G z j h->w z j C->
  wpAny (aN b.prog b.w) b.A (evalPart d b.env) (λL Qd=>∃o F,aA b G z F Qd/\j2 L o/\C o F) b.cE h)
def nT(b:aK)(d:Option bo)(w:cI):Prop:=(∀G,Bd b d w G)
def NQ:cI:=(λ_ j C=>C Y j)
def Mi(w:bX):cI:=(λz j C=>w z j λf Qm=>∃a,f=.int a/\C (Z a) Qm)
section
variable{b:aK}{d:bo}{Rf:bX}{R S:Option bo}{Rr i:cI}{Qx Q3:Pos}
def Hi:nT b Y NQ:=by
 intro G h z j C E c;rw[Cw];exact aR ⟨Y,j,E,.none,c⟩
def LV(c:bN b d Rf):nT b (Z d) (Mi Rf):=by
 intro G h z j C E e;rw[evalPart_some];refine bS (c G h z j _ E e) λL m g=>?_;let⟨f,@Qm,i,k,l⟩:=g;let⟨@a,rfl,p⟩:=l;let⟨@w,rfl⟩:=k;exact⟨Z a,Qm,i,.int a w,p⟩
def qY(b:aK)(s:af->Option Int->Option Int->aw->cz->Prop):Prop:=(
 ∀(G:List (ao×a0)) (h:ah) (z:aU) (j:aw) (f:af) (u cm H:ae) (R S:Option Int) (aS:ao) (C:cz),aA b G z j h->b5 f u->h.heap.IsSliceOf aS cm H .none->j2 cm R->j2 H S->s f R S j C->
  ∃Qc id,tS (.type Qc) "__getitem__" = pure (Z<|.builtin id)/\h.TypeIs u Qc/\wpAny (aN b.prog b.w) b.A (lu u<|.ref aS) (d5 b G z C) b.cE h)
def Oq(s:af->Option Int->Option Int->aw->cz->Prop)(Rf:bX)(Rr i:cI):bX:=(λz j C=>Rf z j λf Qm=>Rr z Qm λt Qz=>i z Qz λL a=>s f t L a C)
def Gg{s:af->Option Int->Option Int->aw->cz->Prop}(l:qY b s)(m:bN b d Rf)(n:nT b R Rr)(o:nT b S i):bN b (.Subscript d (.Slice R S Y Q3) Qx) (Oq s Rf Rr i):=by
 intro G h z j C E c;refine Subscript_ (bS (m G h z j _ E c) λu q g=>?_);let⟨f,@Qm,r,v,y⟩:=g;refine wpAny_Slice (bS (n G q z Qm _ r y) λcm B ⟨t,Qz,D,bg,F⟩=>bS (o G B z Qz _ D F) λH a g=>?_);let⟨L,@k,I,J,M⟩:=g;rw[Cw];refine aR ?_;have N:aA b G z k {a with heap:=a.heap.push {cls:=.type "slice",data:=.fields #[cm,H,.none]} }:=I.kept (QM:=a.toks) λe T p=>b3 _ p;let⟨Qc,@id,P,ba,Q⟩:=l G {a with heap:=a.heap.push {cls:=.type "slice",data:=.fields #[cm,H,.none]} } z k f u cm H t L a.heap.objs.size C N v (aV.IsSliceOf.new ..) bg J M;show wpAny (aN b.prog b.w) b.A (y7 d (.Slice R S Y Q3) u<|.ref a.heap.objs.size) (d5 b G z C) b.cE {a with heap:=a.heap.push {cls:=.type "slice",data:=.fields #[cm,H,.none]} };exact tail_any (ops:=[.ref a.heap.objs.size,u]) ba P Q (by with_unfolding_all rfl)
def lZ(y:List af)(R S:Option Int):List af:=((y.drop<|c_.b1 y.length 0 R).take (c_.b1 y.length y.length S-c_.b1 y.length 0 R))
def yQ(y:List af)(R S:Option Int):(lZ y R S).length<=y.length:=by
 unfold lZ;rw[f5,gb];lia
def Mb(Qk:Φ):af->Option Int->Option Int->aw->cz->Prop:=(λf R S j C=>∃g y,f=.ref g/\cb Qk j g y/\
 ¬ (c_.b1 y.length 0 R=0/\c_.b1 y.length y.length S=y.length)/\∀q,j q=Y->C (.ref q) (upd j q<|.tup<|lZ y R S))
def Oi:qY b (Mb b.K):=by
 intro G h z j f u cm H R S aS C E i Qj bg k c;let⟨g,@y,rfl,l,m,p⟩:=c;cases i;let⟨@Qp,s,ba,d⟩:=E.tuple l;have a:Qp.toArray.size=y.length:=by rw[cB];exact s.length.symm
 refine⟨"tuple",_,o1.lookup,ba.typeIs,?_⟩;refine c_.Ha ba Qj bg k (by rw[a];exact m) ?_ (by rw[a];exact d);rw[a];refine⟨.ref h.heap.objs.size,_,E.laid (QM:=h.toks) (o:=.tup (lZ y R S)) (λe n p=>b3 _ p) (bf _) ?_,rfl,p _<|E.a3.fresh<|bf _⟩;exact⟨eU (yQ y R S) d,_,(s.drop<|c_.b1 y.length 0 R).take<|c_.b1 y.length y.length S-c_.b1 y.length 0 R,lT.new _ _⟩
def Ke(Qk:Φ):bQ:=(λf I j C=>∃g e y Qw,f=.ref g/\I=.ref e/\cb Qk j g y/\cb Qk j e Qw/\y≠[]/\y.length+Qw.length<=sizeLine/\
 (Qw=[]->C (.ref g) j)/\(Qw≠[]->∀q,j q=Y->C (.ref q) (upd j q<|.tup<|y++Qw)))
def bM.t4{y:List af}(s:bM y QD):QD=[]↔y=[]:=by
 cases s with
 |nil=>simp
 |cons _ _=>simp
def Ij:dC b (fG .Add) (Ke b.K):=by
 intro G h z j f I u L C E k l c;let⟨g,e,y,@Qw,rfl,rfl,m,n,q,i,r,s⟩:=c;cases k;cases l;let⟨@Qp,d,t,W⟩:=E.tuple m;let⟨@v,a,Q3,W⟩:=E.tuple n;refine c_.Pz t Q3 (λH=>q<|d.t4.mp H) (λH=>⟨.ref g,j,E,rfl,r<|a.t4.mp H⟩) (λH=>?_) (by rw[<-d.length,<-a.length];exact i);refine⟨.ref h.heap.objs.size,_,E.laid (QM:=h.toks) (o:=.tup (y++Qw)) (λe w p=>b3 _ p) (bf _) ?_,rfl,s (λx=>H<|a.t4.mpr x) _<|E.a3.fresh<|bf _⟩;exact⟨by rw[dF];exact i,_,d.append a,lT.new _ _⟩
end
def i_(r:Nat)(a:Int):Option Nat:=(if 0<=a then (if a<r then Z a.toNat else Y) else if -(r:Int)<=a then Z (a+r).toNat else Y)
def dx{QG:Type}(y:List QG)(a:Int):Option QG:=((i_ y.length a).bind λi=>y[i]?)
def DD{i:Nat}(c:i_ r a=Z i):x_ a r=Z i/\i<r /\ -(r:Int)<=a/\a<r:=by
 unfold i_ at c;by_cases b:0<=a
 ·rw[aE b]at c;by_cases l:a<r
  ·rw[aE l]at c;have d:a.toNat=i:=Option.some.inj c;exact⟨by rw[sv b l,d],⋯,⋯,l⟩
  ·rw[aI l]at c;cases c
 ·rw[aI b]at c;by_cases l : -(r:Int)<=a
  ·rw[aE l]at c;have d:(a+r).toNat=i:=Option.some.inj c;exact⟨by rw[v9 ⋯ l,d],⋯,l,⋯⟩
  ·rw[aI l]at c;cases c
def Fj{y:List QG}{u:QG}(c:dx y a=Z u):∃i,x_ a y.length=Z i/\y[i]?=Z u/\i<y.length /\ -(y.length:Int)<=a/\a<y.length:=by
 unfold dx at c;cases d:i_ y.length a with
 |none=>rw[d]at c;cases c
 |some i=>
  rw[d]at c;let@⟨l,D,b,e⟩:=DD d;exact⟨i,l,c,D,b,e⟩
def ua(e:bo):Prop:=(∀o a,subscripted e aq o a=operate [o,a] (lu o a))
def h4(b:aK)(s:bQ):Prop:=(
 ∀(k a:bo) (G:List (ao×a0)) (h:ah) (z:aU) (j:aw) (f I:af) (u L:ae) (C:cz),aA b G z j h->b5 f u->b5 I L->s f I j C->
  subscripted a aq u L=operate [u,L] (lu u L)->wpAny (aN b.prog b.w) b.A (y7 k a u L) (d5 b G z C) b.cE h)
def vj(b:aK)(id:String)(s:af->List af->aw->cz->Prop):Prop:=(
 ∀(G:List (ao×a0)) (h:ah) (z:aU) (j:aw) (f:af) (y:List af) (u:ae) (QD:List ae) (C:cz),aA b G z j h->b5 f u->bM y QD->s f y j C->
  wpAny (aN b.prog b.w) b.A (call (.builtin id) (u::QD)) (d5 b G z C) b.cE h)
section
variable{b:aK}{g e:bo}{QY Rd:bX}{Qx:Pos}
def h4.or{Q1:bQ}(c:h4 b s)(T:h4 b Q1):h4 b (λf I j C=>s f I j C\/Q1 f I j C):=by
 intro k a G h z j f I u L C E d e p Qj;rcases p with p|p
 ·exact c k a G h z j f I u L C E d e p Qj
 ·exact T k a G h z j f I u L C E d e p Qj
def Ju(a:h4 b s)(d:bN b g QY)(i:bN b e Rd)(Qj:ua e):bN b (.Subscript g e Qx) (sm s QY Rd):=by
 intro G h z j C E c;exact Subscript_ (yc d i E c λu L k f I Qz l m n p=>a g e G k z Qz f I u L C l m n p<|Qj _ _)
def Pd(Qk:Φ):bQ:=(λf I j C=>∃q y a u,f=.ref q/\I=.int a/\cQ Qk j q y/\dx y a=Z u/\C u j)
def Hu(Qk:Φ):bQ:=(λf I j C=>∃q y a u,f=.ref q/\I=.int a/\cb Qk j q y/\dx y a=Z u/\C u j)
def JW:h4 b (Pd b.K):=by
 intro k J G h z j f I u L C E n o c Qj;let⟨q,y,a,@H,rfl,rfl,r,t,p⟩:=c;cases n;let⟨@w,rfl⟩:=o;let⟨@Qp,s,bg,M⟩:=E.list r;let⟨@i,l,D,N,v,A⟩:=Fj t;let⟨@x,e,B⟩:=s.get D;have F:=s.length;have O:=mr;have g:d5 b G z C x h:=⟨H,j,E,B,p⟩;by_cases m:0<=a
 ·have d:a.toNat=i:=by
   rw[sv m A]at l;exact Option.some.inj l
  exact item_listR bg.isList m ⋯ (by rw[d];simpa using e) g Qj
 ·have d:(a+(Qp.toArray.size:Int)).toNat=i:=by
   rw[v9 ⋯ v]at l;rw[cB,<-F];exact Option.some.inj l
  exact B5 (x:=x) bg.isList.typeIs Cx.lookup
   (wpAny_getItem_list_neg (Q:=λs Qd=>s=x/\d5 b G z C s Qd) bg.isList ⋯ (by rw[cB]<;>lia) ⋯ (by rw[d];simpa using e) ⟨rfl,g⟩) Qj
def Ho:h4 b (Hu b.K):=by
 intro k v G h z j f I u L C E d e c Qj;let⟨q,y,a,@H,rfl,rfl,g,m,p⟩:=c;cases d;let⟨@w,rfl⟩:=e;let⟨@Qp,s,bg,A⟩:=E.tuple g;let⟨@i,l,D,B,F,J⟩:=Fj m;let⟨@x,n,o⟩:=s.get D;have r:=s.length;have M:=mr;have t:d5 b G z C x h:=⟨H,j,E,o,p⟩;exact B5 (x:=x) bg.typeIs slot_tuple_getitem.lookup
  (getItem_tuple (j:=i) (Q:=λs Qd=>s=x/\d5 b G z C s Qd) bg ⋯ ⋯ (by rw[cB,<-r];exact l) ⇑n ⟨rfl,t⟩) Qj
def Ii(Qp:List ae)(r i:Nat)(L:ae):a0.mapSeq (·.setIfInBounds i L) {cls:=.type "list",data:=.seq Qp.toArray r}={cls:=.type "list",data:=.seq (Qp.set i L).toArray r}:=by
 simp[a0.mapSeq]
variable{y:List af}
def aA.lst(E:aA b G z j h)(c:j q=Z (.lst y)):
  ∃(Qp:List ae) (r:Nat),bM y Qp/\h.heap.get? q=Z {cls:=.type "list",data:=.seq Qp.toArray r}/\y.length<=sizeLine:=by
 let@⟨H,⟨Qp,@r,s,d⟩⟩:=E.a3 q _ c;exact⟨Qp,r,s,d,H⟩
def aA.MU{Qw:List af}{a:Nat}{B:a0->a0}(E:aA b G z j h)(c:j q=Z (.lst y))(i:h.heap.get? q=Z {cls:=.type "list",data:=.seq Qp.toArray r})(g:B {cls:=.type "list",data:=.seq Qp.toArray r}={cls:=.type "list",data:=.seq A.toArray a})(s:bM Qw A)(k:Qw.length<=sizeLine)(w:Nat):
  aA b G z (upd j q<|.lst Qw) {h with heap:=h.heap.update q B,toks:=w}:=by
 have d:(h.heap.update q B).get? q=Z {cls:=.type "list",data:=.seq A.toArray a}:=by
  rw[n3 B i (by rw[g]<;>rfl),g]
 refine E.write (f:=q) (d:=q) (by rw[c];trivial) (.inl rfl) (λe L l p=>(jQ _ _<|fz l).trans p) ⟨_,d⟩ ?_;exact⟨k,A,a,s,d⟩
def KS:af->af->af->aw->(aw->Prop)->Prop:=(λo a u j C=>∃q y n i,o=.ref q/\a=.int n/\j q=Z (.lst y)/\i_ y.length n=Z i/\C (upd j q<|.lst<|y.set i u))
def Nd:xx b KS:=by
 intro G h z j o a u I J L C E k A B c;let⟨q,y,n,@i,rfl,rfl,g,F,p⟩:=c;cases k;let⟨@w,rfl⟩:=A;let⟨Qp,@r,s,d,H⟩:=E.lst g;let@⟨l,D,m,t⟩:=DD F;have e:=s.length;have M:=mr;have v:aA b G z (upd j q<|.lst<|y.set i u) {h with heap:=h.heap.update q (a0.mapSeq (·.setIfInBounds i L))}:=
  E.MU g d (Ii Qp r i L) (s.set B i) (by rw[x3];exact H) h.toks;by_cases x:0<=n
 ·have f:n.toNat=i:=by
   rw[sv x t]at l;exact Option.some.inj l
  exact PySem.W.ki_setAt d x ⋯ (by rw[cB,<-e];exact t) (by rw[f];exact⟨_,v,p⟩)
 ·have f:(n+(Qp.toArray.size:Int)).toNat=i:=by
   rw[v9 ⋯ m]at l;rw[cB,<-e];exact Option.some.inj l
  exact PySem.W.ki_setBack d ⋯ (by rw[cB,<-e];exact m) ⋯ (by rw[f];exact⟨_,v,p⟩)
def Iq(R S:Option Int)(r:Nat):(mX R S Y r).1=((c_.b1 r 0 R:Nat):Int)/\(mX R S Y r).2.1=((c_.b1 r r S:Nat):Int)/\(mX R S Y r).2.2=1:=by
 refine⟨?_,?_,rfl⟩
 ·cases R with
  |none=>simp[mX,c_.b1]
  |some a=>
   simp only[mX,c_.b1,B6,show (1:Int)>0 by decide,gR];by_cases c:a<0
   ·simp only[c,gR]<;>lia
   ·simp only[c,e2]<;>lia
 ·cases S with
  |none=>simp[mX,c_.b1]
  |some a=>
   simp only[mX,c_.b1,B6,show (1:Int)>0 by decide,gR];by_cases c:a<0
   ·simp only[c,gR]<;>lia
   ·simp only[c,e2]<;>lia
def M_(Qp:List ae)(R S:Option Int):slicePick Qp.toArray R S Y=((Qp.drop<|c_.b1 Qp.length 0 R).take<|c_.b1 Qp.length Qp.length S-c_.b1 Qp.length 0 R).toArray:=by
 let@⟨l,D,a⟩:=Iq R S Qp.toArray.size;unfold slicePick;rw[l,D,a];simp only[sliceRange_one,pick_run,cB]<;>rfl
def JU(Qk:Φ):af->Option Int->Option Int->aw->cz->Prop:=(λf R S j C=>∃g y,f=.ref g/\cQ Qk j g y/\∀q,j q=Y->C (.ref q) (upd j q<|.lst<|lZ y R S))
def DM:qY b (JU b.K):=by
 intro G h z j f u cm H R S aS C E a Qj bg d c;let⟨g,@y,rfl,i,p⟩:=c;cases a;let⟨@Qp,s,ba,k⟩:=E.list i;have l:=s.length;refine⟨"list",_,Cx.lookup,ba.isList.typeIs,?_⟩;refine wpAny_getItem_list_slice ba.isList Qj bg d .none ↥0 ?_ (by rw[cB]<;>lia);rw[M_,<-l];refine⟨.ref h.heap.objs.size,_,E.laid (QM:=h.toks) (o:=.lst (lZ y R S)) (λe m p=>b3 _ p) (bf _) ?_,rfl,p _<|E.a3.fresh<|bf _⟩;exact⟨eU (yQ y R S) k,_,0,(s.drop<|c_.b1 y.length 0 R).take<|c_.b1 y.length y.length S-c_.b1 y.length 0 R,c9 _ rfl⟩
def Iy:en b (.builtin "len") (λy j C=>∃q Qw,y=[.ref q]/\(cQ b.K j q Qw\/cb b.K j q Qw)/\C (.int Qw.length) j):=by
 intro G h z j y QD C E s c;let⟨q,@Qw,rfl,a,p⟩:=c;let⟨@L,rfl,e⟩:=hX s;cases e;have g:=mr;rcases a with a|a
 ·let⟨@Qp,Q1,bg,f⟩:=E.list a;have d:=Q1.length;exact Calls.call_len_list bg.isList (by simp only[cB]<;>lia) ⟨.int Qw.length,j,E.tok _,⟨h.toks+1,by rw[cB,d]⟩,p⟩
 ·let⟨@Qp,Q1,bg,f⟩:=E.tuple a;have d:=Q1.length;exact len_tuple bg (by simp only[cB]<;>lia) ⟨.int Qw.length,j,E.tok _,⟨h.toks+1,by rw[cB,d]⟩,p⟩
def Hk:en b (.builtin "len") (λy j C=>∃H,y=[.str H]/\H.length<=sizeLine/\C (.int H.length) j):=by
 intro G h z j y QD C E s c;let⟨@H,rfl,a,p⟩:=c;let⟨@L,rfl,⟨@w,rfl⟩⟩:=hX s;have d:=mr;exact len_str ⋯ ⟨.int H.length,j,E.tok _,⟨_,rfl⟩,p⟩
def en.or{B:ae}{s Q1:List af->aw->cz->Prop}(c:en b B s)(T:en b B Q1):en b B (λy j C=>s y j C\/Q1 y j C):=by
 intro G h z j y QD C E rs p;rcases p with p|p
 ·exact c G h z j y QD C E rs p
 ·exact T G h z j y QD C E rs p
def I6:en b (.type "list") (λy j C=>∃q Qw,y=[.ref q]/\(cQ b.K j q Qw\/cb b.K j q Qw)/\∀t,j t=Y->C (.ref t) (upd j t<|.lst Qw)):=by
 intro G h z j y QD C E s c;let⟨q,@Qw,rfl,f,p⟩:=c;let⟨@L,rfl,n⟩:=hX s;cases n;have m:∀(Qp:List ae),bM Qw Qp->Qw.length<=sizeLine->∀(T:aV) (a:Nat),(∀e QU,h.heap.get? e=Z QU->T.get? e=Z QU)->
   T.get? h.heap.objs.size=Z {cls:=.type "list",dict:=Y,data:=.seq Qp.toArray a,slots:=#[]}->d5 b G z C (.ref h.heap.objs.size) {h with heap:=T}:=λQp Q1 g T a c6 d=>
  ⟨.ref h.heap.objs.size,_,E.laid (QM:=h.toks) c6 (bf _)<|show eB b.prog b.w _ T _ (.lst Qw) from ⟨g,Qp,a,Q1,d⟩,rfl,p _<|E.a3.fresh<|bf _⟩;rcases f with f|f
 ·let⟨@Qp,Q1,bg,g⟩:=E.list f;have u:=Q1.length;let⟨@o,i,k,⟨@r,l⟩⟩:=bg.isList;exact Ds q (.inl rfl) i k l (λT a c6 d=>m Qp Q1 g T a c6 d) (by simp only[cB]<;>lia)
 ·let⟨@Qp,Q1,bg,g⟩:=E.tuple f;have u:=Q1.length;let⟨@o,i,k,⟨@r,l⟩⟩:=bg;exact Ds q (.inr rfl) i k l (λT a c6 d=>m Qp Q1 g T a c6 d) (by simp only[cB]<;>lia)
def Kl:en b (.type "tuple") (λy j C=>∃q Qw,y=[.ref q]/\((cQ b.K j q Qw/\∀t,j t=Y->C (.ref t) (upd j t<|.tup Qw))\/(cb b.K j q Qw/\C (.ref q) j))):=by
 intro G h z j y QD C E s c;let⟨q,@Qw,rfl,c⟩:=c;let⟨@L,rfl,i⟩:=hX s;cases i;rcases c with ⟨a,p⟩|⟨a,p⟩
 ·let⟨@Qp,Q1,bg,f⟩:=E.list a;have l:=Q1.length;refine call_tuple_list bg.isList (λT c6=>?_) (by simp only[cB]<;>lia);have g:aA b G z j {h with heap:=T}:=E.kept (QM:=h.toks) c6;have k:aA b G z (upd j T.objs.size<|.tup Qw) {h with heap:=T.push {cls:=.type "tuple",data:=.seq Qp.toArray} }:=
   g.laid (QM:=h.toks) (λe o d=>b3 _ d) (bf _) (show eB b.prog b.w _ _ _ (.tup Qw) from ⟨f,Qp,Q1,lT.new _ _⟩);exact⟨.ref T.objs.size,_,k,rfl,p _<|g.a3.fresh<|bf _⟩
 ·let⟨@Qp,Q1,bg,f⟩:=E.tuple a;exact call_tuple_same bg ⟨.ref q,j,E,rfl,p⟩
def l4(Qk:Φ)(Qc:String)(f:af)(j:aw):Prop:=(match f with
 |.str _=>Qc = "str"
 |.int _=>Qc = "int"
 |.ref q=>(Qc = "list" /\ ∃y,cQ Qk j q y)\/(Qc = "tuple" /\ ∃o,Qk.lookup q=Z o/\o.cls=.type "tuple" /\ o.dict=Y)\/
   (Qc = "dict" /\ ((∃Qt,j q=Z (.dj Qt))\/∃Qt,j q=Z (.aJ Qt)))\/(Qc = "set" /\ ∃Qu r,j q=Z (.set Qu r))
 |_=>False)
def ER{Qc:String}{f:af}{u:ae}(E:aA b G z j h)(s:b5 f u)(ty:l4 b.K Qc f j):
  h.TypeIs u Qc/\∀g,u=.ref g->∃k,h.heap.get? g=Z k/\k.dict=Y:=by
 cases f with
 |str H=>
  let⟨@w,rfl⟩:=s;cases (show Qc = "str" from ty);exact⟨typeIs_str h H w,λ_ d=>nomatch d⟩
 |int a=>
  let⟨@w,rfl⟩:=s;cases (show Qc = "int" from ty);exact⟨typeIs_int h a w,λ_ d=>nomatch d⟩
 |ref q=>
  cases s;rcases ty with ⟨rfl,y,l⟩|⟨rfl,o,c,n,e⟩|⟨rfl,c⟩|⟨rfl,Qu,r,c⟩
  ·let⟨@Qp,W,bg,W⟩:=E.list l;refine⟨bg.isList.typeIs,λg d=>?_⟩;cases d;let⟨o,@r,d,m,e,W⟩:=bg;exact⟨o,d,e⟩
  ·refine⟨⟨o,E.oQ q o c,n⟩,λg d=>?_⟩;cases d;exact⟨o,E.oQ _ o c,e⟩
  ·have H:∃o,h.heap.get? q=Z o/\o.ExactDict:=by
    rcases c with ⟨Qt,c⟩|⟨Qt,c⟩
    ·let@⟨_,_,⟨@_,_,⟨o,_,@_,d,Q6,_⟩⟩⟩:=E.a3 q _ c;exact⟨o,d,Q6⟩
    ·let@⟨_,_,⟨@_,_,⟨o,_,@_,d,Q6,_⟩⟩⟩:=E.a3 q _ c;exact⟨o,d,Q6⟩
   let⟨@o,d,Q6⟩:=H;refine⟨⟨o,d,Q6.1⟩,λg i=>?_⟩;cases i;exact⟨o,d,Q6.2.1⟩
  ·let⟨o,W,W,@W,d,Q6,W⟩:=E.a3 q _ c;refine⟨⟨o,d,Q6.1⟩,λg i=>?_⟩;cases i;exact⟨o,d,Q6.2.1⟩
 |_=>exact False.elim ty
def Ko(Qk:Φ)(Qc:String)(s:af->List af->aw->cz->Prop)(i:bX):bX:=(λz j C=>i z j λf Qm=>l4 Qk Qc f Qm/\s f [] Qm C)
def Nh(Qk:Φ)(Qc:String)(s:af->List af->aw->cz->Prop)(i:bX)(w:eR):bX:=(λz j C=>i z j λf Qm=>l4 Qk Qc f Qm/\w z Qm λy Qz=>s f y Qz C)
variable{o d:bo}{Qe:List bo}{i:bX}{w:eR}{name:aC}{R t:Pos}{Qc id:String}{s:af->List af->aw->cz->Prop}
def Gj(bK:si Qc)(e:Slot Qc name id)(g:rr (.builtin id)=pure (.type "method_descriptor"))(k:vj b id s)(m:bN b o i)(n:rM o name b.env (b_ o b.env)=b_ o b.env:=by rfl)(p:(R.endLine==t.line)=X:=by rfl):bN b (.Call (.Attribute o name R) [] [] t) (Ko b.K Qc s i):=by
 intro G h z j C E c;refine wpAny_Call_method0_late n p (bS (m G h z j _ E c) λu q r=>?_);let⟨f,@Qm,a,d,ty,v⟩:=r;let@⟨l,D⟩:=ER a d ty;exact⟨Qc,id,bK,e,g,l,D,ET rfl<|PySem.evalArgs_none<|k G q z Qm f [] u [] C a d .nil v⟩
def L4(bK:si Qc)(m:Slot Qc name id)(n:rr (.builtin id)=pure (.type "method_descriptor"))(p:vj b id s)(q:bN b o i)(r:hp b (d::Qe) w)(v:rM o name b.env (b_ o b.env)=b_ o b.env:=by rfl)(x:((gz t<|bU (d::Qe) b.env).all (λf=>!f.1)&&(backToKw t<|keywordEach [] b.env).all (λf=>f.1.isSome)
   && decide ((d::Qe).length+([]:List qB).length+(if ([]:List qB).isEmpty then 0 else 1)<30))=X:=by rfl)(y:(R.endLine==t.line)=X:=by rfl)(Qj:bU (d::Qe) b.env=(aq,b_ d b.env)::bU Qe b.env:=by rfl)(A:(gz t<|bU Qe b.env).any (·.1)=aq:=by rfl):
  bN b (.Call (.Attribute o name R) (d::Qe) [] t) (Nh b.K Qc s i w):=by
 intro G h z j C E c;refine wpAny_Call_method_late v x y rfl (bS (q G h z j _ E c) λu B a=>?_);let⟨f,@Qm,e,g,ty,F⟩:=a;let@⟨l,D⟩:=ER e g ty;refine⟨Qc,id,bK,m,n,l,D,?_⟩;have k:=r t G B z Qm _ e F;rw[Qj]at k ⊢;refine ET (by show (aq || (gz t<|bU Qe b.env).any (·.1))=aq;rw[A]<;>rfl) (Calls.evalArgs_plain ?_);refine bS k λQD H a=>?_;let⟨U,@Qz,I,J,L⟩:=a;exact p G H z Qz f U u QD C I g J L
end
def xP(b:aK)(id:String)(s:af->List af->aw->cz->Prop):Prop:=(
 ∀(G:List (ao×a0)) (h:ah) (z:aU) (j:aw) (f:af) (y:List af) (u:ae) (QD:List ae) (C:cz),aA b G z j h->b5 f u->bM y QD->s f y j C->
  wpAny (aN b.prog b.w) b.A (call (.builtin id) (u::QD)) (d5 b G z C) b.cE h)
theorem bM.one:∀{f:af}{QD:List ae},bM [f] QD->∃L,QD=[L]/\b5 f L
 |_,_,.cons s .nil=>⟨_,rfl,s⟩
theorem bM.zero:∀{QD:List ae},bM [] QD->QD=[]
 |_,.nil=>rfl
def bM.dropLast{y:List af}(c:bM y QD):bM y.dropLast QD.dropLast:=by
 induction c with
 |nil=>exact .nil
 |cons s w a=>
  cases w with
  |nil=>exact .nil
  |cons p QM=>exact .cons s a
theorem bM.eraseIdx:∀{y:List af}{QD:List ae} (a:Nat),bM y QD->bM (y.eraseIdx a) (QD.eraseIdx a)
 |_,_,_,.nil=>.nil
 |_,_,0,.cons _ w=>w
 |_,_,a+1,.cons s w=>.cons s (bM.eraseIdx a w)
def Kb(t:List QG):t.eraseIdx (t.length-1)=t.dropLast:=by
 induction t with
 |nil=>rfl
 |cons g s a=>
  cases s with
  |nil=>rfl
  |cons e s=>
   have d:(g::e::s).length-1=((e::s).length-1)+1:=by
    have l:(g::e::s).length=s.length+2:=rfl;have D:(e::s).length=s.length+1:=rfl;lia
   rw[d,List.eraseIdx_cons_succ,a];all_goals rfl
theorem Bp{QG:Type}:∀(t:List QG) (a:Nat),(t.eraseIdx a).length<=t.length
 |[],_=>bf _
 |_::_,0=>DU _
 |_::s,a+1=>Nat.succ_le_succ (Bp s a)
section
variable{b:aK}{G:List (ao×a0)}{z:aU}{j:aw}{h:ah}{t e:ao}{y Qw Q:List af}
def aA.w4{B:Array ae->Array ae}(E:aA b G z j h)(a:j t=Z (.lst y))(d:h.heap.get? t=Z {cls:=.type "list",data:=.seq Qp.toArray r})(c:B Qp.toArray=A.toArray)(e:bM Qw A)(g:Qw.length<=sizeLine):
  aA b G z (upd j t<|.lst Qw) {h with heap:=h.heap.update t (a0.mapSeq B),toks:=QM}:=by
 have p:=AG d B;rw[c]at p;refine E.write (f:=t) (d:=t) (by rw[a];exact trivial) (.inl rfl) (λl L i k=>(jQ h.heap (a0.mapSeq B)<|fz i).trans k) ⟨_,p⟩ ?_;exact⟨g,A,_,e,p⟩
def aA.J0(E:aA b G z j h)(a:bM Qw Qp)(c:Qw.length<=sizeLine):
  aA b G z (upd j h.heap.objs.size<|.lst Qw) {h with heap:=h.heap.push {cls:=.type "list",data:=.seq Qp.toArray},toks:=QM}:=
 E.laid (λ_ W p=>b3 _ p) (bf _) ⟨c,Qp,0,a,c9 _ rfl⟩
def aA.fresh(E:aA b G z j h):j h.heap.objs.size=Y:=E.a3.fresh (bf _)
def aA.hz(E:aA b G z j h)(a:j t=Z (.lst y)):y.length<=sizeLine/\∃(Qp:List ae) (r:Nat),bM y Qp/\y.length=Qp.length/\h.heap.get? t=Z {cls:=.type "list",data:=.seq Qp.toArray r}:=by
 let@⟨H,⟨Qp,@r,s,d⟩⟩:=E.a3 t _ a;exact⟨H,Qp,r,s,s.length,d⟩
def PW(c:r<=sizeLine):bl.List.listTooLong r=aq:=by
 unfold bl.List.listTooLong;exact cW ⋯
end
section
variable{b:aK}
def GQ:af->List af->aw->cz->Prop:=(λf U j C=>∃t y I,f=.ref t/\U=[I]/\j t=Z (.lst y)/\y.length<sizeLine/\C .aT (upd j t<|.lst<|y++[I]))
def NC:xP b "list.append" GQ:=by
 intro G h z j f U u QD C E e g c;let⟨t,y,@I,rfl,rfl,a,k,p⟩:=c;cases e;let⟨@L,rfl,i⟩:=g.one;let@⟨H,⟨Qp,@r,s,l,d⟩⟩:=E.hz a;refine p4 zT ⟨_,d,rfl⟩ Ej (Bz _ _) (Ee t Qp.toArray r L (by rw[cB];lia)) ⟨d,?_⟩;refine⟨.aT,_,E.w4 (A:=Qp++[L]) a d ↥0 (s.append<|.cons i .nil) ?_,rfl,p⟩;rw[dF,gq];lia
def Oe:af->List af->aw->cz->Prop:=(λf U j C=>∃t y I,f=.ref t/\U=[]/\j t=Z (.lst y)/\y[y.length-1]?=Z I/\C I (upd j t<|.lst y.dropLast))
def NL:xP b "list.pop" Oe:=by
 intro G h z j f U u QD C E e g c;let⟨t,y,@I,rfl,rfl,a,i,p⟩:=c;cases e;have k:=g.zero;subst k;let@⟨H,⟨Qp,@r,s,l,d⟩⟩:=E.hz a;let⟨@L,m,n⟩:=s.get i;have o:Qp.toArray[Qp.toArray.size-1]?=Z L:=by
  show Qp.toArray[Qp.length-1]?=Z L;rw[<-eu,<-l];exact m
 refine p4 EB ⟨_,d,rfl⟩ CZ (F.args_list_pop_1 _) (MeetsSeq.list_pop_last t Qp.toArray r L o (by rw[cB];lia)) ⟨d,?_⟩;refine⟨I,_,E.w4 (A:=Qp.dropLast) a d ?_ s.dropLast ?_,n,p⟩
 ·show Qp.toArray.eraseIdxIfInBounds (Qp.toArray.size-1)=Qp.dropLast.toArray;rw[cB,u0,Kb]
 ·rw[List.length_dropLast];lia
def L6:af->List af->aw->cz->Prop:=(λf U j C=>∃t y a n I,f=.ref t/\U=[.int a]/\j t=Z (.lst y) /\ -(2^63)<=a/\a<2^63/\x_ a y.length=Z n/\y[n]?=Z I/\C I (upd j t<|.lst<|y.eraseIdx n))
def MQ:xP b "list.pop" L6:=by
 intro G h z j f U u QD C E g i c;let⟨t,y,a,n,@I,rfl,rfl,e,l,D,k,m,p⟩:=c;cases g;let⟨@L,rfl,o⟩:=i.one;let⟨@w,rfl⟩:=o;let@⟨H,⟨Qp,@r,s,q,d⟩⟩:=E.hz e;let⟨@x,v,B⟩:=s.get m;refine p4 EB ⟨_,d,rfl⟩ CZ (F.args_list_pop_2 _ _)
  (MeetsSeq.list_pop_at t Qp.toArray r a w n x (fitsIndex_both l D) (by rw[cB,<-q];exact k) (by rw[<-eu];exact v) (by rw[cB];lia)) ⟨d,?_⟩;refine⟨I,_,E.w4 (A:=Qp.eraseIdx n) e d ?_ (s.eraseIdx n) ?_,B,p⟩
 ·show Qp.toArray.eraseIdxIfInBounds n=(Qp.eraseIdx n).toArray;rw[u0]
 ·have:=Bp y n;lia
def J4:bQ:=(λf I j C=>∃t e y Q,f=.ref t/\I=.ref e/\j t=Z (.lst y)/\j e=Z (.lst Q)/\y.length+Q.length<=sizeLine/\∀q,j q=Y->C (.ref q) (upd j q<|.lst<|y++Q))
def It:dC b (fG .Add) J4:=by
 intro G h z j f I u L C E g i c;let⟨t,e,y,@Q,rfl,rfl,k,l,q,p⟩:=c;cases g;cases i;let@⟨H,⟨Qp,@r,s,v,d⟩⟩:=E.hz k;let@⟨w,⟨a,@x,m,A,n⟩⟩:=E.hz l;refine PySem.P.add_list d n ?_ (by rw[cB,cB];lia);have o:Qp.toArray++a.toArray=(Qp++a).toArray:=by simp
 rw[o];exact⟨.ref _,_,E.J0 (QM:=h.toks) (s.append m) (by rw[dF];lia),rfl,p _ E.fresh⟩
end
section
variable{QC:Type}[DecidableEq QC]
def g5(Qt:List (QC×af))(n:QC):Option af:=((Qt.find? λa=>decide (a.1=n)).map (·.2))
def gQ(Qt:List (QC×af))(n:QC)(u:af):List (QC×af):=(
 if (Qt.any λa=>decide (a.1=n))=X then Qt.map (λa=>if a.1=n then (a.1,u) else a) else Qt++[(n,u)])
def rZ{q:QC×af}{s:List (QC×af)}{n:QC}(d:q.1=n):g5 (q::s) n=Z q.2:=by simp[g5,jm,d]
def tN{q:QC×af}{s:List (QC×af)}{n:QC}(d:¬ q.1=n):g5 (q::s) n=g5 s n:=by simp[g5,jm,d]
theorem Ad(n:QC):∀Qt:List (QC×af),(Qt.any λa=>decide (a.1=n))=(g5 Qt n).isSome
 |[]=>rfl
 |q::s=>by
  rw[k_];by_cases d:q.1=n
  ·simp only[rZ d,dk d,B0,Option.isSome_some]
  ·rw[tN d,cW d,zO];exact Ad n s
def D8(Qt:List (QC×af))(n:QC)(u:af):(gQ Qt n u).length<=Qt.length+1:=by
 unfold gQ;split
 ·rw[bq];lia
 ·rw[dF,er,jI];lia
def jP.qk{L:Option ae}(s:jP o L):o.isSome=L.isSome:=by
 cases o with
 |none=>cases L with
  |none=>rfl
  |some _=>exact (show False from s).elim
 |some _=>cases L with
  |none=>exact (show False from s).elim
  |some _=>rfl
def fq.val{Qt:List (QC×af)}{U:List (QC×ae)}(s:fq Qt U)(n:QC):jP (g5 Qt n) (ml U n):=by
 unfold fq at s;induction s with
 |nil=>exact True.intro
 |@cons q p Qr a c w f=>
  let@⟨l,D⟩:=c;by_cases d:q.1=n
  ·have b:p.1=n:=l.symm.trans d;have e:ml (p::a) n=Z p.2:=by simp[ml,jm,b]
   rw[rZ d,e];exact D
  ·have b:¬ p.1=n:=λH=>d (l.trans H);have e:ml (p::a) n=ml a n:=by simp[ml,jm,b]
   rw[tN d,e];exact f
def fq.any{Qt:List (QC×af)}{U:List (QC×ae)}(s:fq Qt U)(n:QC):(Qt.any λa=>decide (a.1=n))=U.any λa=>decide (a.1=n):=by
 unfold fq at s;induction s with
 |nil=>rfl
 |cons c w b=>rw[k_,k_,b,c.1]
def fq.xH{Qt:List (QC×af)}{U:List (QC×ae)}(s:fq Qt U)(n:QC){I:af}{L:ae}(b:b5 I L):
  fq (Qt.map λa=>if a.1=n then (a.1,I) else a) (U.map λa=>if a.1=n then (a.1,L) else a):=by
 unfold fq at s ⊢;induction s with
 |nil=>exact .nil
 |@cons q p Qr f c w e=>
  rw[cH,cH];refine .cons ?_ e;let@⟨l,D⟩:=c;by_cases d:q.1=n
  ·rw[aE d,aE<|l.symm.trans d];exact⟨l,b⟩
  ·rw[aI d,aI<|λH=>d<|l.trans H];exact⟨l,D⟩
def fq.put{Qt:List (QC×af)}{U:List (QC×ae)}(s:fq Qt U)(n:QC){I:af}{L:ae}(a:b5 I L):fq (gQ Qt n I) (stored U n L):=by
 unfold gQ stored;rw[s.any n];by_cases d:(U.any λb=>decide (b.1=n))=X
 ·rw[aE d,aE d];exact s.xH n a
 ·rw[aI d,aI d];exact d1.snoc s ⟨rfl,a⟩
def fq.length{Qt:List (QC×af)}{U:List (QC×ae)}(s:fq Qt U):Qt.length=U.length:=d1.length s
end
def tc{n:d_}{L:ae}(s:b5 (bW n) L):(lz Qf x).is n L=X:=by
 cases n with
 |inl a=>let⟨@w,d⟩:=(show ∃w,L=ae.int a w from s);subst d;exact GK Qf x a w
 |inr f=>let⟨@w,d⟩:=(show ∃w,L=ae.str f w from s);subst d;exact Kp Qf x f w
abbrev fm(j:aw):List (List V×af)->List (List V×ao×ae)->Prop:=d1 λq p=>q.1=p.1/\gY j q.1 p.2.1/\b5 q.2 p.2.2
def fm.val(s:fm j Qt y)(n:List V):jP (g5 Qt n) ((kO y n).map (·.2)):=by
 induction s with
 |nil=>exact True.intro
 |@cons q p Qr a c w f=>
  let@⟨l,_,D⟩:=c;by_cases d:q.1=n
  ·have b:p.1=n:=l.symm.trans d;have e:kO (p::a) n=Z p.2:=by simp[kO,jm,b]
   rw[rZ d,e];exact D
  ·have b:¬ p.1=n:=λH=>d (l.trans H);have e:kO (p::a) n=kO a n:=by simp[kO,jm,b]
   rw[tN d,e];exact f
def fm.xH(s:fm j Qt y)(n:List V){I:af}{L:ae}(b:b5 I L):
  fm j (Qt.map λa=>if a.1=n then (a.1,I) else a) (y.map<|putAt n L):=by
 induction s with
 |nil=>exact .nil
 |@cons q p Qr g c w e=>
  rw[cH,cH];refine .cons ?_ e;let@⟨l,D,f⟩:=c;unfold putAt;by_cases d:q.1=n
  ·rw[aE d,aE<|l.symm.trans d];exact⟨l,D,b⟩
  ·rw[aI d,aI<|λH=>d<|l.trans H];exact⟨l,D,f⟩
def fm.put(s:fm j Qt y)(n:List V){e:ao}{I:af}{L:ae}(b:gY j n e)(a:b5 I L):
  fm j (gQ Qt n I) (storedH y n e L):=by
 have d:(Qt.any λc=>decide (c.1=n))=(kO y n).isSome:=by
  rw[Ad,(s.val n).qk,t_]
 unfold gQ storedH;rw[d];by_cases p:(kO y n).isSome=X
 ·rw[aE p,aE p];exact s.xH n a
 ·rw[aI p,aI p];exact d1.snoc s ⟨rfl,b,a⟩
def fm.keeps(s:fm j Qt y)(ba:∀e Qw,j e=Z (.tup Qw)->F e=Z (.tup Qw)):fm F Qt y:=
 d1.se s λ_ W H=>⟨H.1,H.2.1.mono ba,H.2.2⟩
section
variable{Qf:bA}{x:bc}{j:aw}{c:aV}{g:ao}
def El{L:fX}(ok:dN Qf x j c)(d:j4 j g L):eB Qf x j c g L:=d.ok ok
def o4{Qt:List (d_×af)}(ok:dN Qf x j c)(d:j4 j g (.dj Qt)):Qt.length<=sizeLine/\(g==i1)=aq/\∃U,fq Qt U/\c.DictOf (lz Qf x) g U:=
 show eB Qf x j c g (.dj Qt) from El ok d
def Nf{Qt:List (d_×af)}(ok:dN Qf x j c)(d:j g=Z (.dj Qt)):Qt.length<=sizeLine/\(g==i1)=aq/\∃U,fq Qt U/\c.DictOf (lz Qf x) g U:=o4 ok (.inl d)
mutual
theorem cp.e7(ok:dN Qf x j c):∀{v:V}{u:af}{L:ae},cp j v u->b5 u L->dq c v L
 |.aT,_,_,d,s=>by cases (show _=af.aT from d);exact s
 |.ax e,_,_,d,s=>by cases (show _=af.ax e from d);exact s
 |.int a,_,_,d,s=>by cases (show _=af.int a from d);exact s
 |.str f,_,_,d,s=>by cases (show _=af.str f from d);exact s
 |.fn g,_,_,d,s=>by cases (show _=af.ref g from d);exact s
 |.tup J,_,_,d,s=>by
  let⟨g,@y,rfl,l,D⟩:=d;cases s;let@⟨_,⟨@Qp,b,⟨@o,h,i,⟨@r,k⟩⟩⟩⟩:=(show eB Qf x j c g (.tup y) from ok g _ l);exact⟨g,o,Qp.toArray,r,rfl,h,(Prod.mk.inj i).1,k,by simpa using bx.e7 ok D b⟩
 |.aQ J,_,_,d,s=>by
  let⟨g,y,@o,rfl,l,D⟩:=d;cases s;exact⟨g,rfl⟩
 |.fd,_,_,d,s=>by
  let⟨g,@o,rfl,l⟩:=d;cases s;exact⟨g,rfl⟩
theorem bx.e7(ok:dN Qf x j c):∀{J:List V}{U:List af}{QD:List ae},bx j J U->bM U QD->dv c J QD
 |[],_,_,d,s=>by cases (show _=[] from d);cases s;rfl
 |v::J,_,_,d,s=>by
  let⟨u,@w,rfl,l,D⟩:=d;cases s with
  |cons a b=>exact⟨_,_,rfl,cp.e7 ok l a,bx.e7 ok D b⟩
end
def l0{Qs:List V}(ok:dN Qf x j c)(d:gY j Qs g):(d8 Qf x).is c Qs g:=⟨d.1,d.2.e7 ok rfl⟩
def pj{Qf:bA}{x:bc}{O:bj}(c:O.units+20<bL):(d8 Qf x).room O.in1:=show O.units+1+10<bL by lia
def p9(ok:dN Qf x j c)(d:j4 j g (.aJ Qt)):Qt.length<=sizeLine/\(g==i1)=aq/\
  ∃y,fm j Qt y/\c.DictOfH (d8 Qf x) g y:=by
 let@⟨H,I,⟨@y,s,⟨o,Qe,@Q0,l,D,e,h,i⟩⟩⟩:=(show eB Qf x j c g (.aJ Qt) from El ok d);refine⟨H,I,y,s,o,Qe,Q0,l,D,e,h,λf a=>?_,i⟩;have all:∀{t:List (List V×af)}{k:List (List V×ao×ae)},fm j t k->∀f∈k,(d8 Qf x).is c f.1 f.2.1:=by
  intro t k p;induction p with
  |nil=>intro f a;exact nomatch a
  |@cons q p Qr n b w m=>
   intro f a;rcases cj.mp a with d|a
   ·subst d;exact l0 ok (by rw[<-b.1];exact b.2.1)
   ·exact m f a
 exact all s f a
def Bj(ok:dN Qf x j c)(d:j g=Z (.aJ Qt)):Qt.length<=sizeLine/\(g==i1)=aq/\
  ∃y,fm j Qt y/\c.DictOfH (d8 Qf x) g y:=p9 ok (.inl d)
end
def f9(j:aw)(g:ao)(I:af)(s:Option af):Prop:=(
 (∃Qt n,j4 j g (.dj Qt)/\I=bW n/\s=g5 Qt n)\/∃Qt n e,j4 j g (.aJ Qt)/\I=.ref e/\gY j n e/\s=g5 Qt n)
def l_(j:aw)(g:ao)(I u:af)(F:aw):Prop:=(
 (∃Qt n,j g=Z (.dj Qt)/\I=bW n/\Qt.length<sizeLine/\F=upd j g (.dj<|gQ Qt n u))\/
 ∃Qt n e,j g=Z (.aJ Qt)/\I=.ref e/\gY j n e/\Qt.length<sizeLine/\F=upd j g (.aJ<|gQ Qt n u))
def f9.k{j:aw}{g:ao}{Qt:List (d_×af)}{n:d_}(d:j g=Z (.dj Qt)):f9 j g (bW n) (g5 Qt n):=.inl ⟨Qt,n,.inl d,rfl,rfl⟩
def f9.t{j:aw}{g e:ao}{Qt:List (List V×af)}{n:List V}(d:j g=Z (.aJ Qt))(a:gY j n e):f9 j g (.ref e) (g5 Qt n):=.inr ⟨Qt,n,e,.inl d,rfl,a,rfl⟩
def l_.k{j:aw}{g:ao}{Qt:List (d_×af)}{n:d_}{u:af}(d:j g=Z (.dj Qt))(a:Qt.length<sizeLine):l_ j g (bW n) u (upd j g<|.dj<|gQ Qt n u):=.inl ⟨Qt,n,d,rfl,a,rfl⟩
def l_.t{j:aw}{g e:ao}{Qt:List (List V×af)}{n:List V}{u:af}(d:j g=Z (.aJ Qt))(a:gY j n e)(b:Qt.length<sizeLine):
  l_ j g (.ref e) u (upd j g<|.aJ<|gQ Qt n u):=.inr ⟨Qt,n,e,d,rfl,a,b,rfl⟩
section
variable{b:aK}{G:List (ao×a0)}{z:aU}{j:aw}{h:ah}{g:ao}{I u:af}{L s:ae}{o:Option af}{O:bj}{Qh:ae->ah->Prop}
def aA.big(E:aA b G z j h):i1<h.heap.objs.size:=by
 have c:dh<h.heap.objs.size:=(E.mod.glob.keeps E.eD).lt;exact nA ∅ c
def Mm(r:O.units+20<bL)(E:aA b G z j h)(M:f9 j g I (Z u))(p:b5 I L)(c:∀a Qd,aA b G z j Qd->b5 u a->C a Qd):
  wpAny (aN b.prog b.w) O (lu (.ref g) L) C Qh h:=by
 rcases M with ⟨Qt,n,d,f,t⟩|⟨Qt,n,e,d,f,s,t⟩
 ·subst f;let@⟨H,hd,⟨@U,i,k⟩⟩:=o4 E.a3 d;let⟨@a,l,m⟩:=jP.some_of (u:=u) (o:=ml U n) (by rw[t];exact i.val n);exact wpAny_getItem_of (tc p) k.mapOf l (c a _ (E.tok _) m)
 ·subst f;cases (show L=ae.ref e from p);let@⟨H,hd,⟨@y,i,k⟩⟩:=p9 E.a3 d;let⟨@a,l,m⟩:=jP.some_of (u:=u) (o:=(kO y n).map (·.2)) (by rw[t];exact i.val n);let⟨@q,v,A⟩:=cu.mp l;refine wpAny_getItem_heap (pj r) (l0 E.a3 s) k v ?_;rw[A];exact c a _ (E.tok _) m
def vN(l:O.units+20<bL)(E:aA b G z j h)(M:f9 j g I o)(k:b5 I L)(c:∀Qd,aA b G z j Qd->C (.bool o.isSome) Qd):
  wpAny (aN b.prog b.w) O (d4 .In L<|.ref g) C Qh h:=by
 rcases M with ⟨Qt,n,d,a,t⟩|⟨Qt,n,e,d,a,m,t⟩
 ·subst a;let@⟨H,hd,⟨@U,f,i⟩⟩:=o4 E.a3 d;refine wpAny_in_of (tc k) hd i.mapOf ?_;rw[<-(f.val n).qk,<-t];exact c _ (E.tok _)
 ·subst a;cases (show L=ae.ref e from k);let@⟨H,hd,⟨@y,f,i⟩⟩:=p9 E.a3 d;refine wpAny_in_heap (pj l) (l0 E.a3 m) hd i ?_;have p:=(f.val n).qk;rw[t_]at p;rw[<-p,<-t];exact c _ (E.tok _)
def wG(l:O.units+20<bL)(E:aA b G z j h)(M:f9 j g I o)(k:b5 I L)(c:∀Qd,aA b G z j Qd->C (.bool<|!o.isSome) Qd):
  wpAny (aN b.prog b.w) O (d4 .NotIn L<|.ref g) C Qh h:=by
 rcases M with ⟨Qt,n,d,a,t⟩|⟨Qt,n,e,d,a,m,t⟩
 ·subst a;let@⟨H,hd,⟨@U,f,i⟩⟩:=o4 E.a3 d;refine wpAny_notIn_of (tc k) hd i.mapOf ?_;rw[<-(f.val n).qk,<-t];exact c _ (E.tok _)
 ·subst a;cases (show L=ae.ref e from k);let@⟨H,hd,⟨@y,f,i⟩⟩:=p9 E.a3 d;refine wpAny_notIn_heap (pj l) (l0 E.a3 m) hd i ?_;have p:=(f.val n).qk;rw[t_]at p;rw[<-p,<-t];exact c _ (E.tok _)
def w9{a:fX}(E:aA b G z j h)(c:pz (j g))(Qj:aV.SameBut g h.heap T)(i:∃p,T.get? g=Z p)(new:eB b.prog b.w (upd j g a) T g a):
  aA b G z (upd j g a) {h with heap:=T,toks:=QM}:=
 E.write (f:=g) (d:=g) c (.inl rfl) (λe p k H=>(Qj.2 e k).trans H) i new
def NF{Qt:List (d_×af)}{U:List (d_×ae)}(H:Qt.length<=sizeLine)(a:(g==i1)=aq)(b:fq Qt U)(c:T.DictOf (lz Qf x) g U):
  eB Qf x F T g (.dj Qt):=⟨H,a,U,b,c⟩
def Ew{C:Unit->ah->Prop}(P:O.units+20<bL)(E:aA b G z j h)(M:l_ j g I u F)(A:b5 I L)(B:b5 u s)(c:∀Qd,aA b G z F Qd->C () Qd):
  wpAny (aN b.prog b.w) O (sC (.ref g) L s) C Qh h:=by
 rcases M with ⟨Qt,n,d,k,t,l⟩|⟨Qt,n,e,d,k,J,t,l⟩
 ·subst k l;let@⟨H,o,⟨@U,a,q⟩⟩:=Nf E.a3 d;have r:U.length<=sizeLine:=by rw[<-a.length];exact H
  have v:(gQ Qt n u).length<=sizeLine:=by have:=D8 Qt n u;lia
  refine wpAny_setItem_pairs (hsz:=r) (tc A) q λT f Qj=>c _ ?_;have R:∃p,T.get? g=Z p:=let ⟨p,_,_,i,_⟩:=f;⟨p,i⟩
  exact w9 E (by rw[d];exact True.intro) Qj R (NF v o (a.put n B) f)
 ·subst k l;cases (show L=ae.ref e from A);let@⟨H,o,⟨@y,a,q⟩⟩:=Bj E.a3 d;have r:y.length<=sizeLine:=by rw[<-d1.length a];exact H
  have v:(gQ Qt n u).length<=sizeLine:=by have:=D8 Qt n u;lia
  refine wpAny_setItem_heap (hsz:=r) (pj P) (l0 E.a3 J) q λT f Qj=>c _ ?_;let⟨p,Qe,@Q0,i,D,S,al,W,am⟩:=f;refine w9 E (by rw[d];exact True.intro) Qj ⟨p,i⟩ ⟨v,o,_,(a.put n J B).keeps λm Qw N=>?_,p,Qe,Q0,i,D,S,al,am⟩;rw[cS (BN N d<|λH=>nomatch H)];exact N
end
section
variable{b:aK}{G:List (ao×a0)}{z:aU}{j:aw}{h:ah}{g:ao}{Qt:List (d_×af)}{n:d_}{L:ae}{O:bj}{Qh:ae->ah->Prop}
def Oz(E:aA b G z j h)(d:j4 j g (.dj Qt))(c:∀w Qd,aA b G z j Qd->C (.int Qt.length w) Qd):wpAny (aN b.prog b.w) O (call (.builtin "len") [.ref g]) C Qh h:=by
 let@⟨H,hd,⟨@U,a,e⟩⟩:=o4 E.a3 d;refine call_len_dict hd e (by rw[<-a.length];rw[xa]at H;lia) ?_;rw[<-a.length];exact c _ _ (E.tok _)
end
def IQ{b:aK}{g:ao}{I:af}(E:aA b G z j h)(M:f9 j g I o):h.TypeIs (.ref g) "dict" := by
 rcases M with ⟨Qt,n,d,_,_⟩|⟨Qt,n,e,d,_,_,_⟩
 ·let@⟨_,_,⟨@U,_,a⟩⟩:=o4 E.a3 d;exact a.typeIs
 ·let@⟨_,_,⟨@y,_,a⟩⟩:=p9 E.a3 d;exact a.typeIs
def JK(c:aV)(a:i1<c.objs.size):eB Qf x j (c.push {cls:=.type "dict",data:=.dict #[]}) c.objs.size (.aJ []):=
 ⟨fv _,uL.mpr<|fz<|c2 a,[],.nil,_,#[],0,c9 _ rfl,⟨rfl,rfl,rfl⟩,rfl,rfl,hi⟩
end L2
namespace AK
open PySem.W PySem.Calls PyProof.Rows
variable{r:Nat}{t:OpenLaw}
def O_{Qf:rX}{c:aV}:∀(R:List Int) (U:List ae),WellAll Qf c U (R.map p0.int)->qy U R:=by
 intro R;induction R with
 |nil=>
  intro U x;rw[List.map_nil]at x;cases x;exact .nil
 |cons r R a=>
  intro U x;rw[cH]at x;cases x with
  |cons g e=>
   cases g;exact .cons _ _ (a _ e)
def JV(h:t.most=Z r){Qf:rX}{c:aV}{args:List p0}{d:List ae}(e:t.row.toRowW.claim.pre args=X)(i:WellAll Qf c d args):
  ∃g U R,d=[ae.ref g]/\args=[p0.list (R.map p0.int)]/\c.get? g=Z {cls:=.type "list",data:=.seq U.toArray}/\qy U R/\R.length<=r:=by
 have j:pE.hasAll [] args [.list .int]=X:=(pre_splitW e).1;have f:t.pre.holds [] {args:=args}=X:=(pre_splitW e).2;let⟨v,@s,rfl,l,D⟩:=hasAllW_cons j;obtain rfl:=hasAllW_nil D;let⟨@y,rfl,k⟩:=hasW_list l;let⟨@R,rfl⟩:=items_int k;have m:R.length<=r:=by
  unfold OpenLaw.pre at f;have a:(WTm.not<|.lt (.lit<|.int (r:Int))<|.len<|.arg 0).holds [] {args:=[.list (R.map .int)]}=X:=by
   have a:=(holds_andW f).1;rw[h]at a;exact a
  have b:=condW_of a (w_not<|w_lt w_lit<|w_len_list<|w_arg rfl);rw[bq]at b;refine sU λp=>?_;have n:(r:Int)<((R.length:Nat):Int):=⋯
  first
   | (rw[dk n]at b;exact absurd b ∅)
   | (simp at b;lia)
 cases i with
 |cons o q=>
  cases q;cases o with
  |list u w=>exact⟨_,_,R,rfl,rfl,u,O_ R _ w,m⟩
def OX(t:OpenLaw)(args:List p0):t.row.toRowW.claim.post args (.bool X) args=X:=
 postW_of (r:=t.row.toRowW) (X:=(X==X))
  (show pE.has [] (.bool X) .bool=X by first|rfl|decide|simp[pE.has,pE.arms,pE.armsAll])
  (show (WTm.eq .res<|.lit<|.bool X).value [] {args:=args,res:=Z (.bool X),after:=args}=Z (.bool<|X==X) from w_eq_bool (w_res rfl) w_lit) rfl
def Oj{p:bA}{d:List aC}{e:(aC->Option ae)->aV->Prop}{f:bc->aV->Prop}{v:DefRec}(j:t.most=Z r)(k:v.params.defaults=[])(call:∀(x:bc) (eF a:ah) (aH c:aC->Option ae) (eg:ao) (o:a0) (T b i:ae) (g:ao) (U:List ae) (R:List Int),
   Ground p d [] e x eF aH c a.heap->f x a.heap->
   a.heap.get? eg=Z o->o.data=.func (docDef v.name v.params v.body v.scope T b i)->a.heap.CodeRec b v.name->aH v.name=Z (.ref eg)->
   a.heap.get? g=Z {cls:=.type "list",data:=.seq U.toArray}->qy U R->R.length<=r->a.gens=#[]->
   codeAny (aN t.prog x) mv (.call (.ref eg) ⟨[.ref g],[]⟩) (λs Qd=>s=.ok (.ret<|.bool X)/\OldK a.heap Qd.heap/\Qd.os=a.os/\kU Qd.gens) a):
  WalkO p d e f t.row.toRowW v [] (λB U=>PySem.call B U):=by
 intro x eF a aH c Qq l eg o T b i m bW n q u h w y args L M z N O A P;obtain rfl:m=.none:=Dflts.none h k;obtain rfl:bW=.none:=Dflts.noKw h;let⟨g,U,@R,rfl,rfl,C,E,F⟩:=JV j z A;refine enter_call (rj (call x eF a aH c eg o T b i g U R Qq l n (fd_plain q) u w C E F y) λs Qd G=>?_);let@⟨rfl,D,H,I⟩:=G;exact⟨.inl ⟨.bool X,.bool X,[],rfl,λ_=>rfl,.bool X,OX t _,λ_=>⟨List.Pairwise.nil,λ_ J=>(nomatch J)⟩⟩,D,H,I⟩
end AK
namespace L2
open Spec PyProof.Rows
variable{Qr:List aC}{B:ao}{N:cK}{Rb f:aC}{fd:gh}{n:Nat}
theorem Dm:∀{U:List ae}{R:List Int},qy U R->bM (R.map af.int) U
 |_,_,.nil=>.nil
 |_,_,.cons r w c=>.cons ⟨w,rfl⟩ (Dm c)
def td(j:aw):Prop:=(∀e,j e=Y\/∃o y,j e=Z (.dJ o<|.lst y))
def Jo{Qf:bA}{x:bc}{Qk:Φ}{aH t:aC->Option ae}{Rj:jY}{eg g:ao}{Rk:cF}{a:ah}{U:List ae}{R:List Int}(A:Qk.In a.heap)(B:a.heap.Ns dh aH)(b:a.heap.Ns w6 t)(T:∀f:aC,f ≠ "__name__" -> t f=ez f)(al:a.heap.NoLimit)(am:a.gens=#[])(m:a.heap.get? g=Z {cls:=.type "list",data:=.seq U.toArray})(S:qy U R)(C:R.length<=sizeLine)(an:eC n mv)(P:∀Qv:aV,Qk.In Qv->Qv.Ns dh aH->h1 Qf x Qk aH Qv Rj n eg fd [f] Rk)(ap:∀(h:ah) (L:ae),l6 h fd ⟨[L],[]⟩ [(f,L)])(as:∀j:aw,td j->cQ Qk j g (R.map af.int)->Rk [.ref g] j (λu K=>u=.ax X) λ_ K K=>False)(a1:∀j d Qd,Rj [] j a (λ_ K K=>False) d Qd->False):
  codeAny (aN Qf x) mv (.call (.ref eg) ⟨[.ref g],[]⟩) (λs Qd=>s=.ok (.ret<|.bool X)/\OldK a.heap Qd.heap/\Qd.os=a.os/\kU Qd.gens) a:=by
 have E:=Dm S;have a2:=S.length;have G:∀j:aw,td j->cQ Qk j g (R.map af.int)->dN Qf x j a.heap->(∀e,j e≠Y->e=g)->(j g≠Y->Qk.lookup g=Y)->
   codeAny (aN Qf x) mv (.call (.ref eg) ⟨[.ref g],[]⟩) (λs Qd=>s=.ok (.ret<|.bool X)/\OldK a.heap Qd.heap/\Qd.os=a.os/\kU Qd.gens) a:=by
  intro j I bd a3 J be;have M:∀{e:ao}{o:a0},a.heap.get? e=Z o->j e=Y->(kM a.heap j).get? e=Z o:=λd r=>KG d r;have bi:∀{e:ao}{o:a0}{Qe:Array DictEntry}{Q0:Nat},a.heap.get? e=Z o->o.data=.dict Qe Q0->j e=Y:=λ{e o Qe Q0} d v=>by
   cases p:j e with
   |none=>rfl
   |some L=>
    have w:e=g:=J e (by rw[p];simp);subst w;rw[m]at d;cases d;have bm:Data.seq U.toArray _=Data.dict Qe Q0:=v;cases bm
  have q:∀{e:ao}{k:aC->Option ae},a.heap.Ns e k->(kM a.heap j).Ns e k:=λ{e k} ⟨o,Qe,Q0,d,v,s⟩=>⟨o,Qe,Q0,M d<|bi d v,v,s⟩;have N:Qk.In (kM a.heap j):=λe o d=>M (A e o d) (by
   cases p:j e with
   |none=>rfl
   |some L=>
    have w:e=g:=J e (by rw[p];simp);subst w;rw[be (by rw[p];simp)]at d;cases d)
  have bn:Mod Qk aH (kM a.heap j):=⟨N,q B,⟨t,q b,T⟩,let ⟨bs,l,D⟩:=al;⟨bs,q l,D⟩⟩;have bv:tp Qf x Qk aH (kM a.heap j) mv [] a j:=⟨rfl,bn,λe o d=>N5 d,Nat.le_of_eq<|FX _ _,trivial,λe b=>absurd (show e∈([]:List ao) from b) ↥0,a3,.of_eq am⟩;refine rj ((P _ N<|q B).run mv [] a j ⟨[.ref g],[]⟩ [.ref g] [.ref g] _ _ an bv (ap a<|.ref g) (.cons rfl .nil)<|as j I bd) λs Qd c=>?_;cases s with
  |error d=>exact (a1 j d Qd c).elim
  |ok aQ=>
   cases aQ with
   |next=>exact False.elim c
   |brk=>exact False.elim c
   |cont=>exact False.elim c
   |ret L=>
    let⟨u,@F,Q,ca,un,cd,Q1,p⟩:=c;have ce:u=.ax X:=p;subst ce;obtain rfl:L=ae.bool X:=Q1;refine⟨rfl,OldK.of_keep λe o d=>?_,Q,ca⟩;cases p:j e with
    |none=>exact un.keep e o d p (by intro H;exact absurd (show e∈([]:List ao) from H) ↥0) ↥0
    |some L=>
     rcases I e with H|⟨ch,y,H⟩
     ·rw[p]at H;cases H
     ·have ci:=un.ji e ch _ H;let@⟨O,_⟩:=a3 e _ H;let@⟨cl,_⟩:=cd e _ ci;rw[d]at O;cases O;exact cl
 cases z:Qk.lookup g with
 |some o=>
  have d:=A g o z;rw[m]at d;cases d;refine G (λ_=>Y) (λ_=>.inl rfl) (.inr ⟨_,U.toArray,_,z,rfl,rfl,rfl,by rw[cB,a2];exact C,by simpa using E⟩) (λe L H=>by have i:(Y:Option fX)=Z L:=H;cases i) (λe H=>absurd rfl H) λH=>absurd rfl H
 |none=>
  refine G (λe=>if e=g then Z (.dJ {cls:=.type "list",data:=.seq U.toArray} (.lst<|R.map af.int)) else Y) (λe=>?_) (.inl<|.inr ⟨{cls:=.type "list",data:=.seq U.toArray},aE rfl⟩) (λe L H=>?_) (λe H=>?_) λ_=>z
  ·by_cases b:e=g
   ·exact .inr ⟨_,_,aE b⟩
   ·exact .inl (aI b)
  ·by_cases b:e=g
   ·have i:=(aE b).symm.trans H;cases i;subst b;exact⟨m,by rw[bq];exact C,U,_,E,m⟩
   ·have i:=(aI b).symm.trans H;cases i
  ·by_cases b:e=g
   ·exact b
   ·exact absurd (aI b) H
def Kx{t:PySem.W.OpenLaw}{r:Nat}{p:bA}{m:List aC}{q:(aC->Option ae)->aV->Prop}{a:bc->aV->Prop}{v:DefRec}{Qk:rX->Φ}{Rj:bc->jY}{Rk:bc->cF}(s:t.most=Z r)(w:r<=sizeLine)(y:v.params.defaults=[])(z:eC n mv)(A:∀(x:bc) (c:aV),a x c->(Qk x.params).In c)(P:∀(x:bc) (aH:aC->Option ae) (eg:ao) (c:aV),(Qk x.params).In c->c.Ns dh aH->aH v.name=Z (.ref eg)->
   ∃fd:gh,(∀(h:ah) (L:ae),l6 h fd ⟨[L],[]⟩ [(f,L)])/\
    ∀Qv:aV,(Qk x.params).In Qv->Qv.Ns dh aH->h1 t.prog x (Qk x.params) aH Qv (Rj x) n eg fd [f] (Rk x))(C:∀(x:bc) (j:aw) (g:ao) (R:List Int),R.length<=r->td j->cQ (Qk x.params) j g (R.map af.int)->Rk x [.ref g] j (λu M=>u=.ax X) λ_ M M=>False)(D:∀(x:bc) (j:aw) (h:ah) (d:ae) (Qd:ah),Rj x [] j h (λ_ M M=>False) d Qd->False):
  PySem.W.WalkO p m q a t.row.toRowW v [] (λB U=>PySem.call B U):=by
 refine AK.Oj s y λx eF E aH al eg o T am i g U R Qq F an ap as G H I k J=>?_;have l:=A x _ F;let⟨@fd,N,O⟩:=P x aH eg _ l Qq.T.g G;exact Jo l Qq.T.g Qq.T.b Qq.T.builtins Qq.T.nolimit J H I (eU k w) z O N (λj Q S=>C x j g R k Q S) λj d Qd=>D x j E d Qd
def gP(h:cK):Arguments:=(match h with
 |.FunctionDef _ g _ _ _ _ _ _ _ _=>g
 |_=>{posonlyargs:=[],args:=[],vararg:=Y,kwonlyargs:=[],kw_defaults:=[],kwarg:=Y,defaults:=[]})
def fF(h:cK):List cK:=(match h with
 |.FunctionDef _ _ e _ _ _ _ _ _ _=>e
 |_=>[])
def dr(h:cK):gf:=(match h with
 |.FunctionDef _ _ _ _ _ _ w _ _ _=>w
 |_=>{kind:=.function,names:=[],isGenerator:=aq,isCoroutine:=aq})
abbrev hR:jY:=λ_ _ _ _ _ _=>False
abbrev HH:f3:=λ_ _ _=>False
def Pw{b:aK}:w8 hR b HH:=λ_ W W W W W W c=>c.elim
structure fD(Qk:Φ)(f Rb:aC)(N:cK)(B:ao)(fd:gh):Prop where
 ex:∃(D:ae) (l:Option ao) (bW i T:ae) (A:Option ao) (H bV:ae) (J:Array (Option ae)),
  fd=Ξ f Rb (gP N) (fF N) (dr N) .none bW i T A H bV/\Qk.lookup B=Z ⟨D,l,.func fd,J⟩/\Δ Qk H Rb=X
 c6:Θ Qk (.ref B)=X
section
variable{Qf:bA}{x:bc}{Qk:Φ}{aH:aC->Option ae}{Qv:aV}
def fD.ok{QO:List aC}{Rk:cF}(P:fD Qk f Rb N B fd)(Qu:nj QO Qr (dr N))(len:∀U j C Qh,Rk U j C Qh->U.length=Qr.length)(a:∀(H:ae) (O:bj) (Q5:List ew) (h:ah) (j:aw) (U:List af) (C:cz) (Qh:f3),eC n (O.deeper<|iP Rb (dr N) h.heap.objs.size B H)->Rk U j C Qh->
   ∃w,gX (kl hR Qf x Qk aH Qv QO Rb (dr N) B H O Q5 h j Qh).nu (fF N) w/\w {bp:=λ_ F=>C .aT F,et:=C} (start QO U) j):h1 Qf x Qk aH Qv hR (n+1) B fd Qr Rk:=by
 let⟨D,l,bW,i,T,A,H,bV,@J,rfl,lk,b⟩:=P.ex;refine OO lk b Qu len λO Q5 h j U C Qh d e=>?_;let⟨@w,c,p⟩:=a H O Q5 h j U C Qh d e;exact⟨w,c.nu,p⟩
def fD.binds(P:fD Qk f Rb N B fd)(c:∀(bW i T:ae) (A:Option ao) (H bV:ae) (QD:List ae),QD.length=Qr.length->iO (Ξ f Rb (gP N) (fF N) (dr N) .none bW i T A H bV) ⟨QD,[]⟩=pure (Qr.zip QD)):h_ Qk fd Qr []:=by
 let⟨D,l,bW,i,T,A,H,bV,@J,rfl,lk,a⟩:=P.ex;exact .all (c bW i T A H bV)
def NV{D:ae}{l A:Option ao}{J:Array (Option ae)}{bW i T H bV:ae}(t:Qk.lookup B=Z ⟨D,l,.func<|Ξ f Rb (gP N) (fF N) (dr N) .none bW i T A H bV,J⟩)(m:Δ Qk H Rb=X)(n:Θ Qk (.ref B)=X):fD Qk f Rb N B (Ξ f Rb (gP N) (fF N) (dr N) .none bW i T A H bV):=⟨⟨D,l,bW,i,T,A,H,bV,J,rfl,t,m⟩,n⟩
end
section
variable{b:aK}
def ec(a:Nat){f:aC}{Qx:Pos}(c:b.N[a]?=Z f:=by rfl)(d:tf b.env.scope f:=by first|exact Or.inl rfl|exact Or.inr (Or.inl rfl)|exact Or.inr (Or.inr rfl))(e:(f==("__debug__" : aC))=aq:=by decide)(g:(f==("__classdict__" : aC))=aq:=by decide):bN b (.Name f Qx) (nh a):=ES c d e g
end
def cP(j F:aw):Prop:=(∀e o,j e=Z o->F e=Z o)
def cP.refl(j:aw):cP j j:=λ_ W c=>c
end L2
namespace L2
section
variable{b:aK}
def OS:en b (.builtin "len") (λy j C=>∃g Qt,y=[af.ref g]/\j g=Z (.dj Qt)/\C (.int Qt.length) j):=by
 intro G h z j y QD C E s c;let⟨g,@Qt,rfl,a,p⟩:=c;let⟨@L,rfl,d⟩:=hX s;cases d;exact Oz E (.inl a) λw Qd e=>⟨.int Qt.length,j,e,⟨w,rfl⟩,p⟩
end
end L2
namespace L2
open Spec PyProof.Rows
variable{C:Option ae->ah->Prop}{a Q0:Nat}{c:aV}{Qs:List ae}{v aM:ao}{eS:cU}{QL Q_ Rm:bo}{b0:List ao}{j:aw}{z:aU}{G:List (ao×a0)}{QJ:List Nat}{own:List aC}{Qi:ew}{Qx:Pos}{QF:gf}{Rl:List bo}{h:ah}
def GA{Ql:bA}{x:bc}{O:bj}{Qg:n8->ah->Prop}{b:bo}{it e:ae}(E:Nat->ah->Prop)(o:∀r h,E r h->wpAny (aN Ql x) O (gx it) (λs a=>match s with
   |none=>Qg (.ok .next) a
   |some u=>wpAny (aN Ql x) O (ro b it u) (λ_ a=>wpAny (aN Ql x) O (hJ b Qi u) (λ_ i=>
     wpAny (aN Ql x) O (forIn Rl X λm s=>if s=X then do let ok <-oG m Qi (b_ m Qi);pure (ForInStep.yield ok) else pure (ForInStep.yield s)) (λok g=>
      if ok=X then wpAny (aN Ql x) O (b_ Rm Qi) (λf j=>
       wpAny (aN Ql x) O (call (.builtin "list.append") [e,f]) (λ_ l=>∃k,k<r/\E k l) (λ_ W=>False) j) (λ_ W=>False) g
      else ∃k,k<r/\E k g) (λ_ W=>False) i) (λ_ W=>False) a) (λ_ W=>False) a) (λ_ W=>False) h)(r:Nat)(c:E r h):
  codeAny (aN Ql x) O (.compLoop (.ListComp Rm [⟨b,Q_,Rl,0⟩] QF Qx) 0 it e Qi) Qg h:=by
 refine codeAny_loop rfl E (λr h p=>?_) r c;show wpAny _ O ((compTurn (.ListComp Rm [⟨b,Q_,Rl,0⟩] QF Qx) 0 it e Qi).onRaise (λf=>do noteFrame f Qi;theTreesLotGoes f)) _ _ h;refine wpAny_noted ?_;rw[compTurn_list];refine av (r8<|av<|gS (o r h p) (λs a d=>?_) λ_ W T=>T.elim);cases s with
 |none=>exact aR d
 |some u=>
  refine av (gS d (λ_ a d=>?_) λ_ W T=>T.elim);refine av (gS d (λ_ i q=>av<|gS q (λok g n=>?_) λ_ W T=>T.elim) λ_ W T=>T.elim);cases ok with
  |false=>exact aR ⟨rfl,n⟩
  |true=>
   exact av (av<|gS n (λf j t=>av<|gS t (λ_ l v=>aR<|aR ⟨rfl,v⟩) λ_ W T=>T.elim) λ_ W T=>T.elim)
def mP(Qi:ew)(a:List (aC×dd)):List (aC×ao):=(a.foldl (λE I=>if I.2==.free then (I.1,(Qi.cells.lookup I.1).getD 0)::E else E) [])
theorem ye{Qi:ew}:∀(a:List (aC×dd)) (E:List (aC×ao)),(∀I∈a,I.2=.free->∃m,Qi.cells.lookup I.1=Z m)->
  (forIn a E λ(I:aC×dd) E=>if I.2==.free then (do let m <-rF Qi I.1;pure (ForInStep.yield ((I.1,m)::E))) else pure (ForInStep.yield E):dA _)=
   pure (a.foldl (λE I=>if I.2==.free then (I.1,(Qi.cells.lookup I.1).getD 0)::E else E) E)
 |[],E,_=>rfl
 |I::s,E,c=>by
  rw[sP,lP];by_cases b:I.2=.free
  ·let⟨@m,f⟩:=c I kr b;have d:(I.2==dd.free)=X:=by simp[b]
   rw[aE d,aE d];have g:rF Qi I.1=pure m:=by unfold rF;rw[f]
   rw[g,f];show (forIn s ((I.1,m)::E) _:dA _)=_;exact ye s _ λH e=>c H (jT _ e)
  ·have d:¬ (I.2==dd.free)=X:=by simp[b]
   rw[aI d,aI d];show (forIn s E _:dA _)=_;exact ye s _ λH e=>c H (jT _ e)
def OU(c:∀I∈QF.names,I.2=.free->∃m,Qi.cells.lookup I.1=Z m):closureFor QF Qi=pure (mP Qi QF.names):=by
 have:=ye (Qi:=Qi) QF.names [] c;unfold closureFor;dsimp only;have d:(forIn QF.names ([]:List (aC×ao))<|λ(f:aC×dd) (s:List (aC×ao))=>(if f.2==.free then (do let m <-rF Qi f.1;pure (ForInStep.yield ((f.1,m)::s))) else pure (ForInStep.yield s):dA (ForInStep<|List<|aC×ao)))=pure (mP Qi QF.names):=this;rw[d];rfl
theorem y8{Qi:ew}:∀(b:List (aC×dd)) (E:List (aC×ao)) (f:aC) (m:ao),
  (b.foldl (λE I=>if I.2==.free then (I.1,(Qi.cells.lookup I.1).getD 0)::E else E) E).lookup f=Z m->
  (m=(Qi.cells.lookup f).getD 0/\(f,dd.free)∈b)\/E.lookup f=Z m
 |[],E,f,m,c=>.inr c
 |I::s,E,f,m,c=>by
  rw[lP]at c;rcases y8 s _ f m c with ⟨d,k⟩|c
  ·exact .inl ⟨d,jT _ k⟩
  ·by_cases a:I.2=.free
   ·rw[aE (by simp[a])]at c;rw[ib]at c;by_cases e:f=I.1
    ·subst e;rw[kA]at c;refine .inl ⟨(Option.some.inj c).symm,?_⟩;rw[<-a];exact kr
    ·have:(f==I.1)=aq:=by simpa using e
     rw[this]at c;exact .inr c
   ·rw[aI (by simp[a])]at c;exact .inr c
theorem wi{Qi:ew}:∀(a:List (aC×dd)) (E:List (aC×ao)) (f:aC),(f,dd.free)∈a\/(∃m,E.lookup f=Z m)->
  ∃m,(a.foldl (λE I=>if I.2==.free then (I.1,(Qi.cells.lookup I.1).getD 0)::E else E) E).lookup f=Z m
 |[],E,f,c=>by
  rcases c with c|c
  ·cases c
  ·exact c
 |I::s,E,f,c=>by
  rw[lP];apply wi s _ f;rcases c with c|⟨m,c⟩
  ·rcases cj.mp c with d|c
   ·right;subst d;rw[aE (by rfl),ib,kA];exact⟨_,rfl⟩
   ·exact .inl c
  ·right;by_cases b:(I.2==dd.free)=X
   ·rw[aE b,ib];cases f==I.1
    ·exact⟨m,c⟩
    ·exact⟨_,rfl⟩
   ·rw[aI b];exact⟨m,c⟩
structure jr where
 aM:ao
 s:ah
 H:aw
 b0:List ao
variable{Rf:jr->bX}{J:jr->d0}{M:jr->fJ}
def aK.fl(b:aK)(c:List aC)(QF:gf)(a:jr): aK :=(
  {prog:=b.prog,w:=b.w,K:=b.K,aH:=b.aH,base:=b.base,A:=b.A,N:=c,eF:=a.s,n1:=a.H,env:=rO QF (mP b.env QF.names) a.aM b.env,outer:=b.stack,stack:=b.stack,
    ex:=a.b0,fn:=λ_ => aq,calm:=b.calm,j8:=[],cE:=λ_ W => False})
theorem vV{Qi:ew}:∀{g:List (aC×dd)}{f:aC}{n:dd},
  (g.map λ(r,n)=>if (n==dd.free&&Qi.scope.kind==.function&&Qi.kindOf r==Z .cell) then (r,dd.cell) else (r,n)).lookup f=Z n->
  (n=.cell\/n=.free)->(∀I∈g,I.2≠.cell)->(f,dd.free)∈g
 |[],f,n,c,_,_=>by simp at c
 | (r,e)::s,f,n,c,a,h=>by
  rw[cH]at c;dsimp only at c;by_cases i:f=r
  ·subst i;by_cases b:(e==dd.free&&Qi.scope.kind==.function&&Qi.kindOf f==Z .cell)=X
   ·have:e=dd.free:=by
     simp only[cG]at b;exact by simpa using b.1.1
    subst this;exact kr
   ·simp only[b]at c;have d:e=n:=by simpa [ib] using c
    subst d;rcases a with a|a
    ·exact absurd a (h (f,e) kr)
    ·rw[a];exact kr
  ·have j:(f==r)=aq:=by simpa using i
   have T:(s.map λ(r,n)=>if (n==dd.free&&Qi.scope.kind==.function&&Qi.kindOf r==Z .cell) then (r,dd.cell) else (r,n)).lookup f=Z n:=by
    by_cases b:(e==dd.free&&Qi.scope.kind==.function&&Qi.kindOf r==Z .cell)=X
    ·rw[aE b,ib,j]at c;exact c
    ·rw[aI b,ib,j]at c;exact c
   exact jT _ (vV T a λI k=>h I<|jT _ k)
section
variable{b:aK}
structure i0(b:aK)(QF:gf)(own:List aC)(QJ:List Nat):Prop where
 kind:QF.kind=.function
 cell:∀I∈QF.names,I.2≠.cell
 free:∀I∈QF.names,I.2=.free->b.env.scope.names.lookup I.1=Z .cell
 loc:∀I∈QF.names,I.2=.local->QF.names.lookup I.1=Z .local
 Pu:∀a∈QJ,∃f,b.N[a]?=Z f/\(f,dd.free)∈QF.names/\QF.names.lookup f=Z .free
def ft(b:aK)(own:List aC)(QJ:List Nat):List aC:=(own++QJ.map λa=>b.N.getD a "")
def ja(own:List aC)(QJ:List Nat)(z:aU):aU:=(own.map (λ_=>Y)++QJ.map λa=>z.getD a Y)
def i0.cells(Qu:i0 b QF own QJ)(ok:b.Ok):∀I∈QF.names,I.2=.free->∃m,b.env.cells.lookup I.1=Z m:=
 λI a c=>ok.has I.1 (.inl<|Qu.free I a c)
def i0.sub(Qu:i0 b QF own QJ)(ok:b.Ok){f:aC}{m:ao}(c:(mP b.env QF.names).lookup f=Z m):b.env.cells.lookup f=Z m/\(f,dd.free)∈QF.names:=by
 rcases y8 QF.names [] f m c with ⟨d,k⟩|c
 ·let⟨@e,a⟩:=Qu.cells ok (f,.free) k rfl;rw[show (List.lookup f b.env.cells)=Z e from a]at d;refine⟨?_,k⟩;rw[d];exact a
 ·simp at c
theorem zK(Qu:i0 b QF own QJ)(E:aA b G z j h)(n:h.heap.objs.size<=aM)(i:∀e∈b0,jd b G j e)(p:∀e∈b0,e<h.heap.objs.size):(b.fl (ft b own QJ) QF ⟨aM,h,j,b0⟩).Ok where
 mod:=E.ok.mod
 kind:=Qu.kind
 glob:=E.ok.glob
 blt:=E.ok.blt
 above:=n
 inj:=λf I m l D=>E.ok.inj f I m (Qu.sub E.ok l).1 (Qu.sub E.ok D).1
 has:=λf g=>by
  have k:(f,dd.free)∈QF.names:=by
   rcases g with g|g
   ·exact vV g (.inl rfl) Qu.cell
   ·exact vV g (.inr rfl) Qu.cell
  exact wi QF.names [] f (.inl k)
 nI:=λf m c W=>nomatch c
 hd:=E.ok.hd
 frames:=E.ok.frames
 pS:=.inl rfl
 wW:=λe a=>⟨c2<|eZ (p e a) n,λf m c=>(i e a).2.2.2.2.1 f m (Qu.sub E.ok c).1⟩
 bs:=E.bs
 kN:=eU E.ok.kN E.iE
 nB:=λe o d a=>by
  rcases (i e a).2.2.2.1 with H|H
  ·exact E.ok.nB e o d H
  ·exact absurd (eZ (bZ d)<|eU E.ok.kN H) (kh _)
 n9:=λe a H=>by
  rcases cj.mp (E.wQ e H) with d|d
  ·exact (i e a).2.1 d
  ·exact (i e a).2.2.1 d
 iq:=E.stack
 mx:=E.A8
theorem La{l:aV}{QP:Nat}{k:aC->Option ae}(Qu:i0 b QF own QJ)(E:aA b G z j h)(D:h.heap.objs.size<=aM)(T:∀e∈b0,jd b G j e)(U:∀e∈b0,e<h.heap.objs.size)(x:∀e o,h.heap.get? e=Z o->l.get? e=Z o)(al:l.Ns aM k):
  aA (b.fl (ft b own QJ) QF ⟨aM,h,j,b0⟩) [] (ja own QJ z) j {h with heap:=l,toks:=QP} where
 ok:=zK Qu E D T U
 os:=rfl
 bare:=E.bare
 base:=eP.kept x
 loc:=by
  let⟨@be,bi,am⟩:=E.loc;refine⟨k,al,λi f u g d v=>?_⟩;have g:(own++QJ.map λa=>b.N.getD a "")[i]?=Z f:=g;have d:(own.map (λ_=>(Y:Option af))++QJ.map λa=>z.getD a Y)[i]?=Z (Z u):=d;by_cases an:i<own.length
  ·rw[ij (by rw[bq];exact an),eG]at d;cases p:own[i]? with
   |none=>rw[p]at d;cases d
   |some H=>rw[p]at d;cases d
  ·rw[jo ⋯,eG]at g;rw[jo (by rw[bq];lia),eG,bq]at d;cases p:QJ[i-own.length]? with
   |none=>rw[p]at g;cases g
   |some a=>
    rw[p]at g d;have g:b.N.getD a "" = f:=Option.some.inj g;have d:z.getD a Y=Z u:=Option.some.inj d;let⟨@t,F,J,ap⟩:=Qu.Pu a (fu p);have Q6:t=f:=by
     rw[<-g,cx,F];rfl
    subst Q6;have Qj:z[a]?=Z (Z u):=by
     rw[cx]at d;cases M:z[a]? with
     |none=>rw[M]at d;cases d
     |some H=>rw[M]at d;rw[show H=Z u from d]
    have O:=Qu.free (t,.free) J rfl;let⟨@L,s,lk⟩:=am a t u F Qj (.inr<|.inl O);refine⟨L,s,.inr ⟨?_,?_⟩⟩
    ·rcases v with v|v|v
     ·
      exfalso;have:∀{y:List (aC×dd)},y.lookup t=Z .free->(y.map λ(r,n)=>if (n==dd.free&&b.env.scope.kind==.function&&b.env.kindOf r==Z .cell) then (r,dd.cell) else (r,n)).lookup t≠Z .local:=by
       intro y;induction y with
       |nil=>intro c;simp at c
       |cons I s P=>
        let⟨r,n⟩:=I;intro c;rw[cH];dsimp only;by_cases R:t=r
        ·subst R;have Ru:n=.free:=by simpa [ib] using c
         subst Ru;by_cases w:(dd.free==dd.free&&b.env.scope.kind==ScopeKind.function&&b.env.kindOf t==Z dd.cell)=X
         ·rw[aE w];simp[ib]
         ·rw[aI w];simp[ib]
        ·have A:(t==r)=aq:=by simpa using R
         rw[ib,A]at c;by_cases w:(n==dd.free&&b.env.scope.kind==ScopeKind.function&&b.env.kindOf r==Z dd.cell)=X
         ·rw[aE w,ib,A];exact P c
         ·rw[aI w,ib,A];exact P c
      exact this ap v
     ·exact .inl v
     ·exact .inr v
    ·rcases lk with ⟨as,_⟩|⟨_,m,a1,a2⟩
     ·exact absurd (as.symm.trans O) ↥0
     ·let⟨@bm,S⟩:=wi (Qi:=b.env) QF.names [] t (.inl J);have:=(Qu.sub E.ok S).1;rw[a1]at this;cases this;let⟨@o,B,C⟩:=a2;exact⟨m,S,o,x _ _ B,C⟩
 cell:=λf m c=>by
  let⟨u,@o,B,C⟩:=E.cell f m (Qu.sub E.ok c).1;exact⟨u,o,x _ _ B,C⟩
 free:=E.a3.fresh D
 iC:=λf m c=>E.iC f m (Qu.sub E.ok c).1
 pin:=λq bd=>nomatch bd
 a3:=E.a3.kept x
 len:=by simp[ja,ft,aK.fl]
def EI(b:aK)(Rl:List bo)(w:d0)(G:List (ao×a0)):Prop:=(
 ∀(h:ah) (z:aU) (j:aw) (C:Bool->aw->Prop),aA b G z j h->w z j C->
  wpAny (aN b.prog b.w) b.A (forIn Rl X λm s=>if s=X then do let ok <-oG m b.env (b_ m b.env);pure (ForInStep.yield ok) else pure (ForInStep.yield s)) (ux b G z C) b.cE h)
def qZ(b:aK)(Rl:List bo)(w:d0):Prop:=(∀G,EI b Rl w G)
def K6:d0:=(λ_ j C=>C X j)
def HQ:qZ b [] K6:=λG h z j C E c=>wpAny_tests_nil ⟨j,E,c⟩
def JQ{m:bo}{w:d0}(c:gI b m w):qZ b [m] w:=λG h z j C E a=>wpAny_tests_one (c G h z j C E a)
def Mv(own:List aC)(QJ:List Nat)(M:fJ)(J:d0)(Rf:bX)(z:aU)(QO:List af->aw->Prop)(Qw:List af)(f:af)(F:aw):Prop:=(
 M f (ja own QJ z) F λa Qz=>(∀(i:Nat) (u:af),(ja own QJ z)[i]?=Z (Z u)->a[i]?=Z (Z u))/\J a Qz λe b=>if e=X then Rf a b λu c=>Qw.length<sizeLine/\QO (Qw++[u]) c else QO Qw b)
def MY(R:eL)(own:List aC)(QJ:List Nat)(M:fJ)(J:d0)(Rf:bX)(z:aU)(Qm:aw)(C:cz):Prop:=(
 ∃W:Nat->Nat->List af->aw->Prop,(∃k,W 0 k [] Qm)/\∀a k Qw j,W a k Qw j->(R.stop a j/\∀A,j A=Y->C (.ref A) (upd j A<|.lst Qw))\/
  (R.go a j/\∃QO:List af->aw->Prop,(∀b F,QO b F->∃c,c<k/\W (a+1) c b F)/\∀f F,R.pg a j f F->Mv own QJ M J Rf z QO Qw f F))
def tH(own:List aC)(QJ:List Nat)(eS:cU)(M:jr->fJ)(J:jr->d0)(Rf:jr->bX):bX:=(λz j C=>eS z j λR Qm=>∀a:jr,MY R own QJ (M a) (J a) (Rf a) z Qm C)
def vs(w:gf)(QO:List aC)(QF:gf)(QJ:List Nat):Bool:=(
 QF.kind==.function&&QF.names.all (λI=>I.2 != .cell)&&QF.names.all (λI=>I.2 != .free || w.names.lookup I.1==Z .cell)&&QF.names.all (λI=>I.2 != .local || QF.names.lookup I.1==Z .local) &&
  QJ.all (λa=>match QO[a]? with|some f=>QF.names.lookup f==Z .free|none=>aq))
theorem mem_of_lookup:∀{t:List (aC×dd)}{f:aC}{n:dd},t.lookup f=Z n->(f,n)∈t
 |[],_,_,c=>by simp at c
 | (r,b)::s,f,n,c=>by
  rw[ib]at c;by_cases a:f=r
  ·subst a;rw[kA]at c;cases c;exact kr
  ·rw[show (f==r)=aq by simpa using a]at c;exact jT _ (mem_of_lookup c)
def kD{b:aK}(w:gf)(QO:List aC)(c:vs w QO QF QJ=X)(d:b.env.scope=w:=by rfl)(i:b.N=QO:=by rfl):i0 b QF own QJ:=by
 unfold vs at c;simp only[cG,iI,bne_iff_ne,ne_eq,vl,pI]at c;let@⟨@⟨@⟨@⟨l,D⟩,j⟩,k⟩,m⟩:=c;refine⟨l,D,λI e g=>?_,λI e g=>?_,λa S=>?_⟩
 ·rw[d];exact (j I e).resolve_left λH=>H g
 ·exact (k I e).resolve_left λH=>H g
 ·have:=m a S;rw[i];cases p:QO[a]? with
  |none=>rw[p]at this;cases this
  |some f=>
   rw[p]at this;have h:QF.names.lookup f=Z .free:=by simpa using this
   exact⟨f,rfl,mem_of_lookup h,h⟩
def BP{Q3:Pos}{use:Option (ae->dA Unit)}{f2:ae->ah->Prop}{lf:cz}(o0:b.calm=X)(Qu:i0 b QF own QJ)(S:ki b QL Q_ eS)(pc:∀ap,iK (b.fl (ft b own QJ) QF ap) QL<|M ap)(ba:∀ap,qZ (b.fl (ft b own QJ) QF ap) Rl<|J ap)(pi:∀ap,bN (b.fl (ft b own QJ) QF ap) Rm<|Rf ap)(Qj:∀f,lM Q_ b.env f=pure f)(E:aA b G z j h)(c:tH own QJ eS M J Rf z j lf)(pm:∀(A aM:ao) (f4:aw) (N:ah) (k:aC->Option ae),aA b G z f4 N->N.heap.Ns aM k->f4 aM=Y->b.env.locals≠aM->(∀f m,b.env.cells.lookup f=Z m->m≠aM)->b.eF.heap.objs.size<=aM->(∀q∈b.j8++G,q.1≠aM)->lf (.ref A) f4->compPost (aN b.prog b.w) b.A b.cE use f2 (.ref A) aM (.ok .next) N):
  wpAny (aN b.prog b.w) b.A (u9 (.ListComp Rm [⟨QL,Q_,Rl,0⟩] QF Qx) QF b.env Q3 (qJ []) aq (b_ Q_ b.env) use) f2 b.cE h:=by
 refine wpAny_comprehension_free (use:=use) rfl Qj (OU<|Qu.cells E.ok) Qu.kind Qu.loc (bS (S G h z j _ E c) λu v6 l=>bS l λwf B D=>?_);let⟨it,b0,i,R,@Qz,d,am,Qc,f8,as,po⟩:=D;subst d;have db:∀e∈b0,e<B.heap.objs.size:=λe t=>by
  let⟨@o,d,Q⟩:=Qc.obj _ _ f8 e t;exact bZ d
 refine hM (wpAny_newFunctionEnv Qu.cell (by intro I pp;simp at pp) (λga ds ce=>?_) Qu.kind);dsimp only at ds ce ⊢;generalize ge:B.heap.push {cls:=.type "list",dict:=Y,data:=.seq ([]:List ae).toArray}=dL at ds ce ⊢;have ch:dL.objs.size=B.heap.objs.size+1:=by rw[<-ge,mG]
 have be:B.heap.objs.size≠dL.objs.size:=by rw[ch];exact c2 (oD _)
 have gl:B.heap.objs.size<=dL.objs.size:=by rw[ch];exact DU _
 have gt:∀e o,B.heap.get? e=Z o->ga.get? e=Z o:=λe o d=>
  ce.extBut e o (by rw[ch];exact c2 (Nat.lt_succ_of_lt<|bZ d)) (b3 _<|ge ▸ b3 _ d);have li:ga.get? B.heap.objs.size=Z {cls:=.type "list",data:=.seq ([]:List ae).toArray 0}:=ce.extBut _ _ be (b3 _<|ge ▸ c9 _ rfl);generalize wl:dL.objs.size=aM at ds ce ch be gl ⊢;generalize bi:B.heap.objs.size=A at li ch be gl ⊢;have ci:B.heap.objs.size<=aM:=by rw[bi];exact gl
 let⟨@W,⟨@pr,pt⟩,turn⟩:=po ⟨aM,B,Qz,b0⟩;have lm:=λ(QP:Nat)=>La (QP:=QP) Qu am ci as db gt ds;have ln:=pc ⟨aM,B,Qz,b0⟩;have ls:=ba ⟨aM,B,Qz,b0⟩;have lv:=pi ⟨aM,B,Qz,b0⟩;have g1:=zK Qu am ci as db;generalize P:b.fl (ft b own QJ) QF ⟨aM,B,Qz,b0⟩=v at lm ln ls lv g1;have bn:v.prog=b.prog:=by rw[<-P];rfl
 have bs:v.w=b.w:=by rw[<-P];rfl
 have lw:v.K=b.K:=by rw[<-P];rfl
 have cl:v.A=b.A:=by rw[<-P];rfl
 have mb:v.calm=X:=by rw[<-P];exact o0
 have bv:v.env.locals=aM:=by rw[<-P];rfl
 have g2:v.ex=b0:=by rw[<-P];rfl
 have eq:v.eF=B:=by rw[<-P];rfl
 have pu:v.n1=Qz:=by rw[<-P];rfl
 have py:v.aa=ht b.stack:=by rw[<-P];rfl
 have ev:v.j8=[]:=by rw[<-P];rfl
 have g3:v.cE=λ_ Q=>False:=by rw[<-P];rfl
 have mo:v.env=rO QF (mP b.env QF.names) aM b.env:=by rw[<-P];rfl
 have mp:∀f m,v.env.cells.lookup f=Z m->b.env.cells.lookup f=Z m:=λf m c=>(Qu.sub am.ok (by rw[mo]at c;exact c)).1;have rc:∀f m,v.env.cells.lookup f=Z m->m≠A:=λf m c H=>by
  let⟨u,@o,a1,Q⟩:=am.cell f m (mp f m c);have:=bZ a1;rw[H,<-bi]at this;exact kh _ this
 have hd:∀e∈b0,e≠A:=λe t H=>by
  have:=db e t;rw[H,<-bi]at this;exact kh _ this
 have re:A∉v.aa:=λH=>by
  let@⟨_,⟨@o,a1,_⟩⟩:=g1.iq.mem H;rw[eq]at a1;have:=bZ a1;rw[bi]at this;exact kh _ this
 have he:∀(F:aw) (o:a0),(∀e∈b0,F e=Y)->∀e∈b0,jd v [(A,o)] F e:=λF o hf e t=>by
  refine⟨hf e t,?_,?_,.inl (by rw[g2];exact t),λf m c=>(as e t).2.2.2.2.1 f m (mp f m c),λq C=>?_⟩
  ·rw[bv];exact c2 (eZ (db e t) ci)
  ·exact g1.n9 e (by rw[g2];exact t)
  ·rw[ev]at C;have:q=(A,o):=by simpa using C
   rw[this];exact fz (hd e t)
 have ms:∀hm:ah,hm={B with heap:=ga,toks:=B.toks+([]:List (aC×ae)).length}->
   codeAny (aN b.prog b.w) b.A (.compLoop (.ListComp Rm [⟨QL,Q_,Rl,0⟩] QF Qx) 0 (.ref it) (.ref A) v.env)
    (compPost (aN b.prog b.w) b.A b.cE use f2 (.ref A) aM) hm:=by
  rintro hm rfl;refine GA (λr Qd=>∃(a:Nat) (Qw:List af) (F:aw) (Qp:List ae) (n:Nat),aA v [(A,{cls:=.type "list",data:=.seq Qp.toArray n})] (ja own QJ z) F Qd/\bM Qw Qp/\Qw.length<=sizeLine/\i a Qd.heap/\
   (∀e∈b0,F e=Y)/\W a r Qw F) ?_ pr ?_
  ·rintro r m0 ⟨a,Qw,T,Qp,n,hw,fd,na,nb,ne,rs⟩;rcases turn a r Qw T rs with ⟨stop,sc⟩|⟨go,QO,nl,step⟩
   ·have:=Qc.done v bn bs lw mb a _ m0 _ T (λ_ Q=>False) hw (he T _ ne) nb stop;rw[cl]at this;refine bS this λs N U=>?_;let@⟨h0,a2⟩:=U;subst h0;let⟨@k,hf,Q⟩:=a2.loc;have sn:N.heap.Ns aM k:=by rw[<-bv];exact hf
    have C:=a2.pin (A,{cls:=.type "list",data:=.seq Qp.toArray n}) (by rw[ev];simp);have ca:T A=Y:=C.2.1;have c6:∀e,e≠aM->N.heap.get? e=N.heap.get? e:=λe t=>rfl;have cd:∀e o,B.heap.get? e=Z o->e≠aM:=λe o d=>c2 (eZ (bZ d) ci);have sp:∀e o,B.heap.get? e=Z o->e≠A:=λe o d=>by rw[<-bi];exact c2 (bZ d)
    have an:eP (ht b.stack) b0 Qz T B.heap N.heap:=by
     have:=a2.base;rw[py,g2,pu,eq]at this;exact this
    have L:eP (ht b.stack) b0 Qz (upd T A<|.lst Qw) B.heap N.heap:=
     ⟨λe o d r t bm=>(c6 e<|cd e o d).trans<|an.keep e o d r t bm,
      λe o d r t bm=>by
      let⟨@aS,p⟩:=an.slot e o d r t bm;exact⟨aS,(c6 e<|cd e o d).trans p⟩,
      λe o d r bm=>by rw[cS (sp e o d)];exact an.free e o d r bm,
      λe o d bm=>by
      let⟨@QU,p⟩:=an.there e o d bm;exact⟨QU,(c6 e<|cd e o d).trans p⟩,
      λe y d=>by rw[cS (gJ (an.j0 e y d) ca)];exact an.j0 e y d,
      λe o y d=>by rw[cS (gJ (an.ji e o y d) ca)];exact an.ji e o y d,
      λe Qr d=>by
      let⟨@ss,p⟩:=an.kK e Qr d;exact⟨ss,by rw[cS (gJ p ca)];exact p⟩⟩
    have nm:∀e o,T e=Z o->e≠aM:=λe o d H=>by
     have:=a2.free;rw[bv,<-H,d]at this;cases this
    have sw:dN b.prog b.w (upd T A<|.lst Qw) N.heap:=λg o d=>by
     by_cases nn:g=A
     ·subst nn;rw[fb]at d;cases d;exact⟨na,Qp,n,fd,(c6 _ be).trans C.1⟩
     ·rw[cS nn]at d;have:=a2.a3 g o d;rw[bn,bs]at this;refine this.iL (λe L t p=>(c6 e ?_).trans p) (λe p=>by rw[cS (gJ p ca)];exact p) λe y p=>by rw[cS (gJ p ca)];exact p
      rcases t with H|H
      ·rw[H];exact nm g o d
      ·exact nm e _ H
    have sB:aA b G z (upd T A<|.lst Qw) N:=am.GC (Qd:=N) (Rh:=b0) (by have:=a2.os;rw[eq]at this;exact this) L sw a2.bare λe t=>⟨(as e t).2.2.2.1,(as e t).2.1,(as e t).2.2.2.2.1,(as e t).2.2.2.2.2⟩;have sK:b.env.locals≠aM:=by
     let⟨@wn,s0,Q⟩:=am.loc;let⟨o,Q,@Q,a1,Q⟩:=s0;exact cd _ _ a1
    have s1:∀f m,b.env.cells.lookup f=Z m->m≠aM:=λf m c=>by
     let⟨u,@o,a1,Q⟩:=am.cell f m c;exact cd _ _ a1
    refine pm A aM _ N k sB sn ?_ sK s1 ?_ (λq C=>cd _ _ (am.pin q C).1) (sc A ca)
    ·rw[cS (fz be)];have:=a2.free
     rwa [bv]at this
    ·exact eU am.iE ci
   ·have:=Qc.item v bn bs lw mb a _ m0 _ T (λ_ Q=>False) hw (he T _ ne) nb go;rw[cl]at this;refine bS this λs N U=>?_;let⟨@L,h0,s2⟩:=U;subst h0;refine bS s2 λ_ co U=>?_;let⟨f,@ii,s3,s4,s5,im,to⟩:=U;have tt:=s3.pinned (he ii _ to) (Qc.obj _ _ im);have no:=ln _ co _ ii f L _ tt s4 (step f ii s5);rw[bn,bs,cl,g3]at no;refine bS no λ_ ty U=>?_;let⟨cr,@tz,t0,t1,t3⟩:=U;have np:=ls _ ty cr tz _ t0 t3;rw[bn,bs,cl,g3]at np;refine bS np λe ul U=>?_;let⟨@ns,fn,fr⟩:=U;have nw:∀{of:aU}{F:aw}{Qd:ah},aA v ([(A,{cls:=.type "list",data:=.seq Qp.toArray n})]++lN b0 co.heap) of F Qd->(∀e∈b0,F e=Y)/\i (a+1) Qd.heap:=λ{of F Qd} cs=>by
     refine⟨λe t=>?_,Qc.keep _ _ _ im λe t o d=>(cs.pin (e,o)<|dP _<|dP _<|tk t d).1⟩;let⟨@o,d,Q⟩:=Qc.obj _ _ im e t;exact (cs.pin (e,o)<|dP _<|dP _<|tk t d).2.1
    have gM:∀{io:List (ao×a0)}{F:aw}{Qd:ah},aA v io cr F Qd->aA v io (ja own QJ z) F Qd:=λ{io F Qd} cs=>
     cs.weak (by rw[cs.len,hw.len]) t1;cases e with
    |false=>
     rw[aI df]at fr;let⟨@jp,kt,un⟩:=nl _ _ fr;rw[aI df];let@⟨QN,QW⟩:=nw fn;exact⟨jp,kt,a+1,Qw,ns,Qp,n,gM (fn.nz λq C=>fn.pin q (by
      rw[ev];simp at C ⊢;exact .inl C)),fd,na,QW,QN,un⟩
    |true=>
     rw[aE rfl]at fr ⊢;have ol:=lv _ ul cr ns _ fn fr;rw[bn,bs,cl,g3]at ol;refine bS ol λal bd U=>?_;let⟨up,@kw,f0,us,wr,ut⟩:=U;let⟨@jp,kt,u8⟩:=nl _ _ ut;have C:=f0.pin (A,{cls:=.type "list",data:=.seq Qp.toArray n}) (dP _ (dQ _ ↥0));have lc:=C.1;refine p4 zT ⟨_,lc,rfl⟩ Ej (Bz _ _) (Ee A Qp.toArray n al (by rw[cB,<-fd.length];lia)) ⟨lc,?_⟩;have p:=AG lc (λg=>g.push al);let@⟨QN,QW⟩:=nw f0;have v0:aA v (lN b0 co.heap) cr kw bd:=f0.nz λq C=>f0.pin q (dP _<|dP _ C);have on:∀e o,e≠A->bd.heap.get? e=Z o->(bd.heap.update A<|a0.mapSeq λg=>g.push al).get? e=Z o:=λe o t d=>(jQ bd.heap _<|fz t).trans d;have v1:aA v (lN b0 co.heap) cr kw {bd with heap:=bd.heap.update A (a0.mapSeq λg=>g.push al),toks:=bd.toks}:=
      v0.turned (it:=A) on C.2.1 (by rw[bv];exact be) (.inr (by rw[eq,bi];exact bf _)) rc λq f1=>by
       rw[ev]at f1;let@⟨t,_⟩:=D7 (show q∈lN b0 co.heap by simpa using f1);exact hd _ t
     refine⟨jp,kt,a+1,Qw++[up],kw,Qp++[al],n+1,gM<|v1.nz λq f1=>?_,fd.append<|.cons us .nil,?_,?_,QN,u8⟩
     ·have d:q=(A,{cls:=.type "list",data:=.seq (Qp++[al]).toArray (n+1)}):=by simpa using f1
      subst d;refine⟨?_,C.2.1,C.2.2.1,C.2.2.2.1,λu H=>by cases H⟩;have v2:Qp.toArray.push al=(Qp++[al]).toArray:=by simp
      rw[<-v2];have op:IsL (bd.heap.update A<|a0.mapSeq λg=>g.push al) A (Qp.toArray.push al) (if (Qp.toArray.push al).size==Qp.toArray.size then n else n+1):=p;rw[aI ↥0]at op;exact op
     ·rw[dF,gq];lia
     ·refine Qc.keep _ _ _ QW λe t o d=>on e o (hd e t) d
  ·refine⟨0,[],Qz,[],0,?_,.nil,fv _,Qc.keep _ _ _ f8 λe Q o d=>gt e o d,λe t=>(as e t).1,pt⟩;refine (lm _).nz λq C=>?_;have d:q=(A,{cls:=.type "list",data:=.seq ([]:List ae).toArray 0}):=by simpa using C
   subst d;exact⟨li,am.a3.fresh (by rw[bi];exact bf _),by rw[bv];exact be,re,λu H=>by cases H⟩
 have v4:rO QF (mP b.env QF.names) aM b.env=v.env:=mo.symm;show codeAny (aN b.prog b.w) b.A (.compStart _ 0 (.ref it) (.ref A)<|rO QF (mP b.env QF.names) aM b.env) _ _;rw[v4];exact codeAny_compStart_list (ms _ rfl) (Qc.self b.A 0 _ _ _ (Qc.keep _ _ _ f8 λe Q o d=>gt e o d)<|ms _ rfl)
def FY(i:b.calm=X)(Qu:i0 b QF own QJ)(S:ki b QL Q_ eS)(l:∀a,iK (b.fl (ft b own QJ) QF a) QL<|M a)(ba:∀a,qZ (b.fl (ft b own QJ) QF a) Rl<|J a)(n:∀a,bN (b.fl (ft b own QJ) QF a) Rm<|Rf a)(Qj:∀f,lM Q_ b.env f=pure f:=by intro W;rfl):bN b (.ListComp Rm [⟨QL,Q_,Rl,0⟩] QF Qx) (tH own QJ eS M J Rf):=by
 intro G h z j C E c;show wpAny _ b.A (u9 (.ListComp Rm [⟨QL,Q_,Rl,0⟩] QF Qx) QF b.env _ (qJ []) aq (b_ Q_ b.env) Y) _ _ h;refine BP (use:=Y) (f2:=d5 b G z C) i Qu S l ba n Qj E c λA aM r g k s u B t m H q p=>?_;show ∃k,g.heap.Ns aM k/\∀T,aV.SameBut aM g.heap T->d5 b G z C (.ref A) {g with heap:=T};refine⟨k,u,λT cn=>⟨.ref A,r,?_,rfl,p⟩⟩;exact s.turned (it:=aM) (QM:=g.toks) (λe o v d=>(cn.2 e v).trans d) B (fz t) (.inr H) m q
end
def ic(c:aV)(v:ao)(Qs:List ae)(Q0:Nat):Prop:=(∃o Qe,c.get? v=Z o/\o.ExactDict/\o.data=.dict Qe Q0/\Qe.toList.map (·.key)=Qs)
def ic.ty(f:ic h.heap v Qs Q0):h.TypeIs (.ref v) "dict" := let ⟨o,_,d,m,_⟩:=f;⟨o,d,m.1⟩
def ic.lt(f:ic c v Qs Q0):v<c.objs.size:=let ⟨_,_,d,_⟩:=f;bZ d
def ic.go{T:aV}(f:ic c v Qs Q0)(n:∀o,c.get? v=Z o->T.get? v=Z o):ic T v Qs Q0:=let ⟨o,Qe,d,s⟩:=f;⟨o,Qe,n o d,s⟩
section
variable{Ql:bA}{x:bc}{O:bj}{Qh:ae->ah->Prop}{h:ah}
def Hw{C:ae->ah->Prop}(R:(v==i1)=aq)(f:ic h.heap v Qs Q0)(p:C (.ref h.heap.objs.size) {h with heap:=h.heap.push {cls:=.type "dict_keyiterator",data:=.fields #[.ref v,.int 0 0,.int Qs.length 0,.int Q0 0]} }):wpAny (aN Ql x) O (p_<|.ref v) C Qh h:=by
 have ty:=f.ty;let⟨o,@Qe,a,d,b,c⟩:=f;have r:Qe.size=Qs.length:=by rw[<-c,bq,di]
 refine wpAny_pyIter_slot ty EN (iB EN ty F.entry_dict_iter ?H<|F.args_dict_iter_1 _)
 case H=>
  unfold bl.«dict.__iter__» bl.Dict.dictSlotNone;refine av (av<|AN ty ?_);show wpAny _ _ (pure<|ae.ref v) _ _ h;apply aR;show wpAny _ _ (bl.Dict.showsAll v >>= _) _ _ h;unfold bl.Dict.showsAll;rw[aI (by rw[R];simp)];refine av (aR<|av<|xg a b<|av<|vB a b<|av<|hM<|aR ⟨_,rfl,"dict_keyiterator",_,⟨_,c9 _ rfl,rfl⟩,qq.lookup,?_⟩);simpa [jS,r] using p
def PD{it v:ao}{u:ae}(b:h.heap.IsKeyIter it v a Qs.length Q0)(f:ic h.heap v Qs Q0)(d:Qs[a]?=Z u)(p:∀T,T.IsKeyIter it v (a+1) Qs.length Q0->aV.SameBut it h.heap T->C (Z u) {h with heap:=T}):wpAny (aN Ql x) O (gx<|.ref it) C Qh h:=by
 let⟨@m,e,l,c⟩:=id b;let⟨o,@Qe,g,n,i,j⟩:=f;have r:Qe.size=Qs.length:=by rw[<-j,bq,di]
 have S:a<Qe.size:=by
  have:a<Qs.length:=(e9.mp d).1;lia
 have Ru:Qe[a].key=u:=by
  rw[<-j,eG,eu,mj S]at d;exact Option.some.inj d
 unfold gx;refine av (qC<|lU (name:=aC.ofString "__next__") b.typeIs qq<|iB qq b.typeIs z4 ?H<|E5 _)
 case H=>
  refine av (aR<|av<|av ?_);refine av (tI b.typeIs<|aR<|av<|Dq e c ?_);simp only[show bl.Dict_items.ownsTuple "dict_keyiterator" = aq by decide,gp,e2];show wpAny _ _ (if (ae.ref v==ae.none)=X then _ else _) _ _ h;rw[aI (show ¬ (ae.ref v==ae.none)=X by intro H;cases H)];refine av (aR<|av<|xg g i ?_);rw[aI (by simp[r])];refine av (aR<|av<|vB g i ?_);rw[aI ↥0];apply aR;simp only[show ¬ ((a:Int)<0) by lia,e2,qU,mj S];refine av (av<|tI b.typeIs<|aR<|av<|yO b.typeIs ?_);show wpAny _ _ (setField (.ref it) 1 (jS<|(a:Int)+1) >>= _) _ _ h;have k:(h.heap.update it (a0.mapFields (·.setIfInBounds 1 (jS<|(a:Int)+1)))).IsKeyIter it v (a+1) Qs.length Q0:=
   ⟨_,n3 _ e<|An<|sV c _,(zf ..).trans l,by rw[sV c];simp[jS]⟩;refine av (sS e c ↥0 (av (e3 (av (yO (s:={h with heap:=h.heap.update it (a0.mapFields (·.setIfInBounds 1 (jS<|(a:Int)+1)))}) k.typeIs ?_)))));show wpAny _ _ (pure Qe[a].key) _ _ _;rw[Ru];exact aR (aR ⟨_,rfl,aR<|p _ k<|oh ..⟩)
def Ol{it v:ao}(l:O.handled=Y)(b:h.heap.IsKeyIter it v a Qs.length Q0)(f:ic h.heap v Qs Q0)(n:Qs.length<=a)(p:∀T,aV.ExtBut it h.heap T->C Y {h with heap:=T}):wpAny (aN Ql x) O (gx<|.ref it) C Qh h:=by
 let⟨@q,c,s,d⟩:=id b;let⟨o,@Qe,i,t,j,m⟩:=f;have r:Qe.size=Qs.length:=by rw[<-m,bq,di]
 unfold gx;refine av (qC<|lU (name:=aC.ofString "__next__") b.typeIs qq<|iB qq b.typeIs z4 ?H<|E5 _)
 case H=>
  refine av (aR<|av<|av ?_);refine av (tI b.typeIs<|aR<|av<|Dq c d ?_);simp only[show bl.Dict_items.ownsTuple "dict_keyiterator" = aq by decide,gp,e2];show wpAny _ _ (if (ae.ref v==ae.none)=X then _ else _) _ _ h;rw[aI (show ¬ (ae.ref v==ae.none)=X by intro H;cases H)];refine av (aR<|av<|xg i j ?_);rw[aI (by simp[r])];refine av (aR<|av<|vB i j ?_);rw[aI ↥0];apply aR;simp only[show ¬ ((a:Int)<0) by lia,e2,qU,Array.getElem?_eq_none (show Qe.size<=a by lia)];refine av (av<|tI b.typeIs<|aR ?_);show wpAny _ _ (setField (.ref it) 0 .none >>= _) _ _ h;refine av (sS c d ↥0 ?_);show wpAny _ _ (s7 (.type "StopIteration") [] >>= _) _ _ _;apply av;simp only[s7,x5];refine av (hM (av (m:=r1 _ _) (qV (a:=ae.none) (by first|rfl|(simp only[r1];rfl)) (hM ?_ (by size_fits)))) (by size_fits));simp only[raiseNew];apply av;apply CJ;rw[show O.in1.handled=Y from l];refine av (m:=pure _) (aR<|wpAny_throw ?_);apply av;refine tn (T := "StopIteration") (b:=X) ⟨_,c9 _ rfl,rfl⟩ E2 ?_;exact aR (p _<|((oh ..).extBut.push _).push _)
theorem J1(j:O.handled=Y)(it v:ao)(ne:v≠it)(Qs:List ae)(Q0:Nat):kR Ql x O it [it,v] [it] Qs.length (λa u=>Qs[a]?=Z u) (λa c=>c.IsKeyIter it v a Qs.length Q0/\ic c v Qs Q0) where
 sub:=λe k=>by
  have:e=it:=by simpa using k
  simp[this]
 frame:=λa c T N n=>⟨let ⟨o,d,s⟩:=N.1;⟨o,n it ↥0 o d,s⟩,N.2.go (n v ↥0)⟩
 item:=λa h C Qh S N b=>by
  have i:Qs[a]?=Z Qs[a]:=by simp[S]
  refine PD N.1 N.2 i λT g e=>b _ T h.toks i ⟨g,N.2.go λo d=>e.extBut v o ne d⟩ λm o f d=>e.extBut m o ⇑f d
 done:=λh C Qh N b=>Ol j N.1 N.2 (bf _) λT e=>b T h.toks λm o f d=>e m o ⇑f d
 self:=λa h C Qh N b=>wpAny_pyIter_keyiter N.1 b
theorem FL(R:(v==i1)=aq):PySem.W.KdlSrc Ql x "dict" v v Qs.length (λa u=>Qs[a]?=Z u) (λc=>ic c v Qs Q0) where
 type:=λh f=>f.ty
 there:=λc f=>⟨f.lt,f.lt⟩
 keep:=λc T f n=>f.go (n v<|.inl rfl)
 notList:=by decide
 notTuple:=by decide
 hint:=λO Qh h C f p=>PySem.W.kdl_hint_dict f.ty p
 iter:=λO h b f=>⟨_,_,(λQh C p=>Hw R f p),J1 b _ v (c2 f.lt) Qs Q0,⟨⟨_,c9 _ rfl,rfl,rfl⟩,f.go λo d=>b3 _ d⟩⟩
end
end L2
namespace L2
open Spec PyProof.Rows PySem.W
section
variable{r:Nat}{Q:Nat->Int}{b:Nat->Nat->(Bool->ah->Prop)->ah->Prop}
def a4(Q:Nat->Int)(q:Array Nat)(a:Nat):Int:=(Q (q.getD a 0))
def km(Q:Nat->Int)(q:Array Nat)(k:Nat):Prop:=(∀a i,a<=i->i<k->a4 Q q a<=a4 Q q i)
def fs(r:Nat)(Q:Nat->Int)(b:Nat->Nat->(Bool->ah->Prop)->ah->Prop)(h:ah):Prop:=(∀a i aM,a<r->i<r->aM (decide (Q a<Q i)) h->b a i aM h)
def cM(r:Nat)(q:Array Nat):Prop:=(q.toList.Perm (range r))
variable{q:Array Nat}
def cM.size(c:cM r q):q.size=r:=by
 have:=c.length_eq;simpa using this
def cM.lt(c:cM r q){a:Nat}(S:a<r):q.getD a 0<r:=by
 have Qj:=c.size;have d:q.getD a 0=q[a]:=by simp[Array.getD,Qj,S]
 rw[d];have:q[a]∈q.toList:=by simp
 exact eX.mp (c.mem_iff.mp this)
def cM.ne(c:cM r q)(inj:∀a i,a<r->i<r->Q a=Q i->a=i){a i:Nat}(j:a<i)(b:i<r):a4 Q q a≠a4 Q q i:=by
 intro d;have Qj:=c.size;have e:=inj _ _ (c.lt (by omega)) (c.lt b) d;have f:q.getD a 0=q[a]:=by simp[Array.getD,Qj,show a<r by omega]
 have g:q.getD i 0=q[i]:=by simp[Array.getD,Qj,b]
 rw[f,g]at e;have ak:q.toList.Nodup:=c.nodup_iff.mpr tQ;have h:q.toList[a]'(by simpa [Qj] using (show a<r by omega))=q.toList[i]'(by simpa [Qj] using b):=by simpa using e
 have:=(B1 ak).mp h;omega
def lK{p:Array Nat}{a i:Nat}(d:q[a]?=p[i]?):a4 Q q a=a4 Q p i:=by
 unfold a4;rw[zr,zr,d]
theorem cM.rev(c:cM r q)(a i:Nat):cM r (lb q a i):=(Bg.mp<|mirror_perm q a i _).trans c
theorem cM.II(c:cM r q)(a i:Nat):cM r (p7 q a i):=(Bg.mp<|bubble_perm q a i).trans c
end
section
variable{Ql:bA}{x:bc}{O:bj}{Qh:ae->ah->Prop}{QC:fZ}{it:Array a9}{Q:Nat->Int}{r:Nat}{h:ah}
def ob:Bool->a9->Array a9->Nat->Nat->Nat->StateT br dA (Option Nat):=(sortPriv% PySem.Builtin.gallop)
def pq(b:fs r Q (eK Ql x O QC it) h){a i:Nat}(S:a<r)(d:i<r){N:br}(e:kindOf N=QC){C:Option Bool->br->ah->Prop}(c:C (Z<|decide (Q a<Q i)) N h):
  kasC (aN Ql x) O Qh (lt' (a7 it a)<|a7 it i) C N h:=by
 rw[lt'_eq];apply a_;apply jw;have:=b a i (λm Qd=>Qd=h/\m=decide (Q a<Q i)) S d ⟨rfl,rfl⟩;unfold eK at this;rw[e];refine a_ (m1<|qC<|gS this (λm Qd f=>?_) λ_ W g=>g.elim);let@⟨rfl,rfl⟩:=f;exact a8 c
theorem gd{z Q9:Type}{ay:gO}{B:Nat->Q9->StateT z dA (ForInStep Q9)}{C:Q9->z->ah->Prop}(E:Nat->Q9->z->ah->Prop)(step:∀f m N Qd,E f m N Qd->kasC ay O Qh (B f m) (λs b e=>match s with | .yield a=>E (f+1) a b e | .done a=>C a b e) N Qd):∀(k g:Nat) (m:Q9) (N:z) (Qd:ah),(∀m N Qd,E (g+k) m N Qd->C m N Qd)->E g m N Qd->
   kasC ay O Qh (forIn (range' g k) m B) C N Qd
 |0,g,m,N,Qd,h,c=>by
  show kasC ay O Qh (forIn ([]:List Nat) m B) C N Qd;exact kasC_nil (h m N Qd c)
 |k+1,g,m,N,Qd,h,c=>by
  show kasC ay O Qh (forIn (g::range' (g+1) k) m B) C N Qd;refine kasC_cons (gS (step g m N Qd c) (λs e T=>?_) λ_ W d=>d);let⟨s,b⟩:=s;cases s with
  |done a=>exact T
  |yield a=>exact gd E step k (g+1) a b e (λm N Qd S=>h m N Qd (by rw[show g+(k+1)=g+1+k by lia];exact S)) T
def cC(Q:Nat->Int)(left:Bool)(n:Nat)(bK:Array Nat)(Qv a:Nat):Bool:=(if left=X then decide (Q (bK.getD (Qv+a) 0)<Q n) else !decide (Q n<Q (bK.getD (Qv+a) 0)))
def Dd(P:fs r Q (eK Ql x O QC it) h){left:Bool}{n:Nat}(T:n<r){bK:Array Nat}(ap:∀a,a<bK.size->bK.getD a 0<r){Qv k b:Nat}(bd:Qv+k<=bK.size)(as:b<k)(mono:∀a i,a<=i->i<k->cC Q left n bK Qv i=X->cC Q left n bK Qv a=X){N:br}(U:kindOf N=QC){C:Option Nat->br->ah->Prop}(c:∀s,s<=k->(∀a,a<s->cC Q left n bK Qv a=X)->(∀a,s<=a->a<k->cC Q left n bK Qv a=aq)->C (Z s) N h):
  kasC (aN Ql x) O Qh (ob left (a7 it n) (bK.map<|a7 it) Qv k b) C N h:=by
 have a1:∀a,a<k->(bK.map<|a7 it)[Qv+a]?=Z (a7 it<|bK.getD (Qv+a) 0):=λa S=>by
  have:Qv+a<bK.size:=⋯
  simp[Array.getD,this]
 have ask:∀a,a<k->∀M:Option Bool->br->ah->Prop,M (Z<|cC Q left n bK Qv a) N h->
   kasC (aN Ql x) O Qh (do let f <-elem' (bK.map<|a7 it) (Qv+a);if left=X then lt' f (a7 it n) else do let s <-lt' (a7 it n) f;pure (s.map λf=>!f)) M N h:=λa S M I=>by
  rw[sO,a1 a S];apply a_;apply a8;have al:=ap (Qv+a) ⋯;unfold cC at I;cases left with
  |true=>
   rw[aE rfl]at I ⊢;exact pq P al T U I
  |false=>
   rw[aI df]at I ⊢;exact a_ (pq P T al U<|a8 I)
 unfold ob;with_unfolding_all refine a_ ?_;refine ask b as _ ?_;dsimp only;cases am:cC Q left n bK Qv b with
 |true=>
  rw[aE rfl];apply a_;apply fj;have G:∀last j,last<j->b+last<k->cC Q left n bK Qv (b+last)=X->(j >= k-b\/cC Q left n bK Qv (b+j)=aq)->
    b+last+1<=b+min j (k-b)/\b+min j (k-b)<=k/\(∀a,a<b+last+1->cC Q left n bK Qv a=X)/\(∀a,b+min j (k-b)<=a->a<k->cC Q left n bK Qv a=aq)/\b+min j (k-b)-(b+last+1)<=k-0:=λlast j a2 an L F=>by
   refine⟨⋯,⋯,λa S=>mono a (b+last) ⋯ an L,λa l D=>?_,⋯⟩;rcases F with F|F
   ·lia
   ·cases y:cC Q left n bK Qv a with
    |false=>rfl
    |true=>rw[mono (b+j) a ⋯ D y]at F;cases F
  refine gd (λf m q Qd=>q=N/\Qd=h/\∃last j,m=(Y,last,j)/\last<j/\f<j/\b+last<k/\cC Q left n bK Qv (b+last)=X) ?_ _ 0 _ _ _ ?_ ⟨rfl,rfl,0,1,rfl,⋯,⋯,⋯,am⟩
  ·rintro f m q Qd ⟨t,u,last,j,rfl,l,D,o,p⟩;rw[t,u];dsimp only;by_cases H:j >= k-b
   ·rw[aE H];apply a8;dsimp only;have z:=G last j l o p (.inl H);apply a_;apply fj;refine gd (λf m q Qd=>q=N/\Qd=h/\∃R S,m=(Y,R,S)/\R<=S/\S<=k/\(∀a,a<R->cC Q left n bK Qv a=X)/\(∀a,S<=a->a<k->cC Q left n bK Qv a=aq)/\S-R<=k-f) ?_ _ 0 _ _ _ ?_ ⟨rfl,rfl,_,_,rfl,z⟩
    ·rintro f m q Qd ⟨t,u,R,S,rfl,l,D,o,p,A⟩;rw[t,u];dsimp only;by_cases w:R >= S
     ·rw[aE w];apply a8;dsimp only;have d:R=S:=⋯
      subst d;exact a8 (c R D o p)
     ·rw[aI w];have B:R<=R+(S-R)/2:=⋯
      have E:R+(S-R)/2<S:=⋯
      generalize R+(S-R)/2=mid at B E ⊢;refine a_ (ask mid ⋯ _ ?_);dsimp only;cases v:cC Q left n bK Qv mid with
      |true=>
       rw[aE rfl];exact a8 ⟨rfl,rfl,mid+1,S,rfl,⋯,D,λa J=>mono a mid ⋯ ⋯ v,p,⋯⟩
      |false=>
       rw[aI df];refine a8 ⟨rfl,rfl,R,mid,rfl,⋯,⋯,o,λa g e=>?_,⋯⟩;cases y:cC Q left n bK Qv a with
       |false=>rfl
       |true=>rw[mono mid a g e y]at v;cases v
    ·rintro m q Qd ⟨t,u,R,S,rfl,l,D,o,p,A⟩;rw[t,u];dsimp only;have d:R=S:=⋯
     subst d;exact a8 (c R D o p)
   ·rw[aI H];refine a_ (ask (b+j) ⋯ _ ?_);dsimp only;cases v:cC Q left n bK Qv (b+j) with
    |true=>
     simp only[nZ,gp,e2];exact a8 ⟨rfl,rfl,j,2*j+1,rfl,⋯,⋯,⋯,v⟩
    |false=>
     simp only[Bool.not_false,gR];apply a8;dsimp only;have z:=G last j l o p (.inr v);apply a_;apply fj;refine gd (λf m q Qd=>q=N/\Qd=h/\∃R S,m=(Y,R,S)/\R<=S/\S<=k/\(∀a,a<R->cC Q left n bK Qv a=X)/\(∀a,S<=a->a<k->cC Q left n bK Qv a=aq)/\S-R<=k-f) ?_ _ 0 _ _ _ ?_ ⟨rfl,rfl,_,_,rfl,z⟩
     ·rintro f m q Qd ⟨t,u,R,S,rfl,l,D,o,p,A⟩;rw[t,u];dsimp only;by_cases w:R >= S
      ·rw[aE w];apply a8;dsimp only;have d:R=S:=⋯
       subst d;exact a8 (c R D o p)
      ·rw[aI w];have B:R<=R+(S-R)/2:=⋯
       have E:R+(S-R)/2<S:=⋯
       generalize R+(S-R)/2=mid at B E ⊢;refine a_ (ask mid ⋯ _ ?_);dsimp only;cases v:cC Q left n bK Qv mid with
       |true=>
        rw[aE rfl];exact a8 ⟨rfl,rfl,mid+1,S,rfl,⋯,D,λa J=>mono a mid ⋯ ⋯ v,p,⋯⟩
       |false=>
        rw[aI df];refine a8 ⟨rfl,rfl,R,mid,rfl,⋯,⋯,o,λa g e=>?_,⋯⟩;cases y:cC Q left n bK Qv a with
        |false=>rfl
        |true=>rw[mono mid a g e y]at v;cases v
     ·rintro m q Qd ⟨t,u,R,S,rfl,l,D,o,p,A⟩;rw[t,u];dsimp only;have d:R=S:=⋯
      subst d;exact a8 (c R D o p)
  ·rintro m q Qd ⟨t,u,last,j,rfl,l,D,o,p⟩;rw[t,u];dsimp only;have z:=G last j l o p (.inl ⋯);apply a_;apply fj;refine gd (λf m q Qd=>q=N/\Qd=h/\∃R S,m=(Y,R,S)/\R<=S/\S<=k/\(∀a,a<R->cC Q left n bK Qv a=X)/\(∀a,S<=a->a<k->cC Q left n bK Qv a=aq)/\S-R<=k-f) ?_ _ 0 _ _ _ ?_ ⟨rfl,rfl,_,_,rfl,z⟩
   ·rintro f m q Qd ⟨t,u,R,S,rfl,l,D,o,p,A⟩;rw[t,u];dsimp only;by_cases w:R >= S
    ·rw[aE w];apply a8;dsimp only;have d:R=S:=⋯
     subst d;exact a8 (c R D o p)
    ·rw[aI w];have B:R<=R+(S-R)/2:=⋯
     have E:R+(S-R)/2<S:=⋯
     generalize R+(S-R)/2=mid at B E ⊢;refine a_ (ask mid ⋯ _ ?_);dsimp only;cases v:cC Q left n bK Qv mid with
     |true=>
      rw[aE rfl];exact a8 ⟨rfl,rfl,mid+1,S,rfl,⋯,D,λa J=>mono a mid ⋯ ⋯ v,p,⋯⟩
     |false=>
      rw[aI df];refine a8 ⟨rfl,rfl,R,mid,rfl,⋯,⋯,o,λa g e=>?_,⋯⟩;cases y:cC Q left n bK Qv a with
      |false=>rfl
      |true=>rw[mono mid a g e y]at v;cases v
   ·rintro m q Qd ⟨t,u,R,S,rfl,l,D,o,p,A⟩;rw[t,u];dsimp only;have d:R=S:=⋯
    subst d;exact a8 (c R D o p)
 |false=>
  rw[aI df];apply a_;apply fj;have G:∀last j,last<j->last<=b->cC Q left n bK Qv (b-last)=aq->(j >= b+1\/cC Q left n bK Qv (b-j)=X)->
    b+1-min j (b+1)<=b-last/\b-last<=k/\(∀a,a<b+1-min j (b+1)->cC Q left n bK Qv a=X)/\(∀a,b-last<=a->a<k->cC Q left n bK Qv a=aq)/\b-last-(b+1-min j (b+1))<=k-0:=λlast j a2 an L F=>by
   refine⟨⋯,⋯,λa S=>?_,λa l D=>?_,⋯⟩
   ·rcases F with F|F
    ·lia
    ·exact mono a (b-j) ⋯ ⋯ F
   ·cases y:cC Q left n bK Qv a with
    |false=>rfl
    |true=>rw[mono (b-last) a ⋯ D y]at L;cases L
  refine gd (λf m q Qd=>q=N/\Qd=h/\∃last j,m=(Y,last,j)/\last<j/\f<j/\last<=b/\cC Q left n bK Qv (b-last)=aq) ?_ _ 0 _ _ _ ?_ ⟨rfl,rfl,0,1,rfl,⋯,⋯,⋯,am⟩
  ·rintro f m q Qd ⟨t,u,last,j,rfl,l,D,o,p⟩;rw[t,u];dsimp only;by_cases H:j >= b+1
   ·rw[aE H];apply a8;dsimp only;have z:=G last j l o p (.inl H);apply a_;apply fj;refine gd (λf m q Qd=>q=N/\Qd=h/\∃R S,m=(Y,R,S)/\R<=S/\S<=k/\(∀a,a<R->cC Q left n bK Qv a=X)/\(∀a,S<=a->a<k->cC Q left n bK Qv a=aq)/\S-R<=k-f) ?_ _ 0 _ _ _ ?_ ⟨rfl,rfl,_,_,rfl,z⟩
    ·rintro f m q Qd ⟨t,u,R,S,rfl,l,D,o,p,A⟩;rw[t,u];dsimp only;by_cases w:R >= S
     ·rw[aE w];apply a8;dsimp only;have d:R=S:=⋯
      subst d;exact a8 (c R D o p)
     ·rw[aI w];have B:R<=R+(S-R)/2:=⋯
      have E:R+(S-R)/2<S:=⋯
      generalize R+(S-R)/2=mid at B E ⊢;refine a_ (ask mid ⋯ _ ?_);dsimp only;cases v:cC Q left n bK Qv mid with
      |true=>
       rw[aE rfl];exact a8 ⟨rfl,rfl,mid+1,S,rfl,⋯,D,λa J=>mono a mid ⋯ ⋯ v,p,⋯⟩
      |false=>
       rw[aI df];refine a8 ⟨rfl,rfl,R,mid,rfl,⋯,⋯,o,λa g e=>?_,⋯⟩;cases y:cC Q left n bK Qv a with
       |false=>rfl
       |true=>rw[mono mid a g e y]at v;cases v
    ·rintro m q Qd ⟨t,u,R,S,rfl,l,D,o,p,A⟩;rw[t,u];dsimp only;have d:R=S:=⋯
     subst d;exact a8 (c R D o p)
   ·rw[aI H];refine a_ (ask (b-j) ⋯ _ ?_);dsimp only;cases v:cC Q left n bK Qv (b-j) with
    |false=>
     rw[aI df];exact a8 ⟨rfl,rfl,j,2*j+1,rfl,⋯,⋯,⋯,v⟩
    |true=>
     rw[aE rfl];apply a8;dsimp only;have z:=G last j l o p (.inr v);apply a_;apply fj;refine gd (λf m q Qd=>q=N/\Qd=h/\∃R S,m=(Y,R,S)/\R<=S/\S<=k/\(∀a,a<R->cC Q left n bK Qv a=X)/\(∀a,S<=a->a<k->cC Q left n bK Qv a=aq)/\S-R<=k-f) ?_ _ 0 _ _ _ ?_ ⟨rfl,rfl,_,_,rfl,z⟩
     ·rintro f m q Qd ⟨t,u,R,S,rfl,l,D,o,p,A⟩;rw[t,u];dsimp only;by_cases w:R >= S
      ·rw[aE w];apply a8;dsimp only;have d:R=S:=⋯
       subst d;exact a8 (c R D o p)
      ·rw[aI w];have B:R<=R+(S-R)/2:=⋯
       have E:R+(S-R)/2<S:=⋯
       generalize R+(S-R)/2=mid at B E ⊢;refine a_ (ask mid ⋯ _ ?_);dsimp only;cases v:cC Q left n bK Qv mid with
       |true=>
        rw[aE rfl];exact a8 ⟨rfl,rfl,mid+1,S,rfl,⋯,D,λa J=>mono a mid ⋯ ⋯ v,p,⋯⟩
       |false=>
        rw[aI df];refine a8 ⟨rfl,rfl,R,mid,rfl,⋯,⋯,o,λa g e=>?_,⋯⟩;cases y:cC Q left n bK Qv a with
        |false=>rfl
        |true=>rw[mono mid a g e y]at v;cases v
     ·rintro m q Qd ⟨t,u,R,S,rfl,l,D,o,p,A⟩;rw[t,u];dsimp only;have d:R=S:=⋯
      subst d;exact a8 (c R D o p)
  ·rintro m q Qd ⟨t,u,last,j,rfl,l,D,o,p⟩;rw[t,u];dsimp only;have z:=G last j l o p (.inl ⋯);apply a_;apply fj;refine gd (λf m q Qd=>q=N/\Qd=h/\∃R S,m=(Y,R,S)/\R<=S/\S<=k/\(∀a,a<R->cC Q left n bK Qv a=X)/\(∀a,S<=a->a<k->cC Q left n bK Qv a=aq)/\S-R<=k-f) ?_ _ 0 _ _ _ ?_ ⟨rfl,rfl,_,_,rfl,z⟩
   ·rintro f m q Qd ⟨t,u,R,S,rfl,l,D,o,p,A⟩;rw[t,u];dsimp only;by_cases w:R >= S
    ·rw[aE w];apply a8;dsimp only;have d:R=S:=⋯
     subst d;exact a8 (c R D o p)
    ·rw[aI w];have B:R<=R+(S-R)/2:=⋯
     have E:R+(S-R)/2<S:=⋯
     generalize R+(S-R)/2=mid at B E ⊢;refine a_ (ask mid ⋯ _ ?_);dsimp only;cases v:cC Q left n bK Qv mid with
     |true=>
      rw[aE rfl];exact a8 ⟨rfl,rfl,mid+1,S,rfl,⋯,D,λa J=>mono a mid ⋯ ⋯ v,p,⋯⟩
     |false=>
      rw[aI df];refine a8 ⟨rfl,rfl,R,mid,rfl,⋯,⋯,o,λa g e=>?_,⋯⟩;cases y:cC Q left n bK Qv a with
      |false=>rfl
      |true=>rw[mono mid a g e y]at v;cases v
   ·rintro m q Qd ⟨t,u,R,S,rfl,l,D,o,p,A⟩;rw[t,u];dsimp only;have d:R=S:=⋯
    subst d;exact a8 (c R D o p)
end
section
variable{Q:Nat->Int}
def cc(Q:Nat->Int)(t:List Nat):Prop:=(t.Pairwise λf I=>Q f<=Q I)
structure K9(Q:Nat->Int)(u y:List Nat)(b:List Nat)(A E:Nat):Prop where
 perm:b.Perm (u.take A++y.take E)
 aG:cc Q (b++u.drop A)
 cn:cc Q (b++y.drop E)
 bK:A+1<u.length
 i6:E<y.length
variable{t k:List Nat}
def eV:cc Q (t++k)↔cc Q t/\cc Q k/\∀f∈t,∀I∈k,Q f<=Q I:=Fs
def nC(t:List Nat)(a n:Nat):t.take a++(t.drop a).take n=t.take (a+n):=by rw[List.take_add]
variable{u y b:List Nat}{A E:Nat}
def r9(n:Nat)(perm:b.Perm (u.take A++y.take E))(aG:cc Q (b++u.drop A))(cn:cc Q (b++y.drop E))(c:∀f∈(u.drop A).take n,∀I∈y.drop E,Q f<=Q I):
  (b++(u.drop A).take n).Perm (u.take (A+n)++y.take E)/\cc Q (b++(u.drop A).take n++u.drop (A+n))/\cc Q (b++(u.drop A).take n++y.drop E):=by
 refine⟨?_,?_,?_⟩
 ·rw[<-nC u A n];refine (perm.append_right _).trans ?_;rw[bz,bz];exact dT _ c4
 ·rw[bz,<-mK,fc];exact aG
 ·rw[bz];have d:=eV.mp aG;have e:=eV.mp cn;refine eV.mpr ⟨d.1,eV.mpr ⟨d.2.1.sublist<|pM _ _,e.2.1,c⟩,λf g I a=>?_⟩;rcases dK.mp a with a|a
  ·exact d.2.2 f g I (nr a)
  ·exact e.2.2 f g I a
def xG(n:Nat)(perm:b.Perm (u.take A++y.take E))(aG:cc Q (b++u.drop A))(cn:cc Q (b++y.drop E))(c:∀f∈(y.drop E).take n,∀I∈u.drop A,Q f<=Q I):
  (b++(y.drop E).take n).Perm (u.take A++y.take (E+n))/\cc Q (b++(y.drop E).take n++u.drop A)/\cc Q (b++(y.drop E).take n++y.drop (E+n)):=by
 have:=r9 (u:=y) (y:=u) n (perm.trans c4) cn aG c;exact⟨this.1.trans c4,this.2.2,this.2.1⟩
variable{a:Nat}
def jt(c:a<t.length):(t.drop a).take 1=[t.getD a 0]:=by
 rw[i2 c,cx,eb c];rfl
variable{I:Nat}
def i7(c:I∈t.drop a):∃i,a<=i/\i<t.length/\I=t.getD i 0:=by
 let⟨i,b,d⟩:=k5.mp c;have e:=b;rw[gb]at e;exact⟨a+i,⋯,⋯,by rw[<-d,ot];simp[List.getD,show a+i<t.length by lia]⟩
variable{n:Nat}
def oT(c:I∈(t.drop a).take n):∃i,i<n/\a+i<t.length/\I=t.getD (a+i) 0:=by
 let⟨i,b,d⟩:=k5.mp c;have e:=b;rw[f5,gb]at e;exact⟨i,by omega,by omega,by rw[<-d,sd,ot];simp[List.getD,show a+i<t.length by omega]⟩
def nt(c:cc Q t){a i:Nat}(d:a<=i)(b:i<t.length):Q (t.getD a 0)<=Q (t.getD i 0):=by
 rcases Nat.lt_or_eq_of_le d with e|rfl
 ·have:=me.mp c a i ⋯ b e;simpa [List.getD,b,show a<t.length by lia] using this
 ·exact kW _
theorem Ep(c:cc Q (t++k)):cc Q k:=(eV.mp c).2.1
def oz{i:Nat}(c:cc Q (b++t.drop a))(d:a<=i)(e:i<=n)(f:n<t.length):Q (t.getD i 0)<=Q (t.getD n 0):=by
 have:=nt (Ep c) (a:=i-a) (i:=n-a) ⋯ (by rw[gb];lia);simpa [List.getD,lI,show a+(i-a)=i by lia,show a+(n-a)=n by lia] using this
def gc(Q:Nat->Int)(it:Array a9)(u y:List Nat)(out:Array a9):Prop:=(∃b:List Nat,out=(b.map<|a7 it).toArray/\b.Perm (u++y)/\cc Q b)
def q3{it:Array a9}(perm:b.Perm (u.take A++y.take E))(aG:cc Q (b++u.drop A))(cn:cc Q (b++y.drop E))(a:E=y.length\/A=u.length):
  gc Q it u y ((b.map<|a7 it).toArray++(u.map<|a7 it).toArray.extract A (u.map<|a7 it).toArray.size++(y.map<|a7 it).toArray.extract E (y.map<|a7 it).toArray.size):=by
 refine⟨b++u.drop A++y.drop E,?_,?_,?_⟩
 ·apply jM;simp[iX,rt]
 ·rw[bz];refine (perm.append_right _).trans ?_;have:(u.take A++y.take E++(u.drop A++y.drop E)).Perm ((u.take A++u.drop A)++(y.take E++y.drop E)):=by
   rw[bz,bz];refine dT _ ?_;rw[<-bz,<-bz];exact e8 _ c4
  rw[fc,fc]at this;exact this
 ·rcases a with d|d
  ·rw[d,w0,cD];exact aG
  ·rw[d,w0,cD];exact cn
def tu{it:Array a9}(perm:b.Perm (u.take A++y.take E))(aG:cc Q (b++u.drop A))(cn:cc Q (b++y.drop E))(d:A+1=u.length)(ei:∀f∈y,Q f<=Q (u.getD (u.length-1) 0)):
  gc Q it u y ((b.map<|a7 it).toArray++(y.map<|a7 it).toArray.extract E (y.map<|a7 it).toArray.size++(u.map<|a7 it).toArray.extract A (u.map<|a7 it).toArray.size):=by
 refine⟨b++y.drop E++u.drop A,?_,?_,?_⟩
 ·apply jM;simp[iX,rt]
 ·rw[bz];refine (perm.append_right _).trans ?_;have:(u.take A++y.take E++(y.drop E++u.drop A)).Perm ((u.take A++u.drop A)++(y.take E++y.drop E)):=by
   rw[bz,bz];refine dT _ ?_;rw[<-bz];exact c4
  rw[fc,fc]at this;exact this
 ·refine eV.mpr ⟨cn,Ep aG,λf a I c=>?_⟩;rcases dK.mp a with a|a
  ·exact (eV.mp aG).2.2 f a I c
  ·let⟨@i,l,D,rfl⟩:=i7 c;have:i=u.length-1:=⋯
   rw[this];exact ei f (lX a)
end
section
variable{Ql:bA}{x:bc}{O:bj}{Qh:ae->ah->Prop}{QC:fZ}{it:Array a9}{Q:Nat->Int}{r:Nat}{h:ah}
def Cp:Array a9->Array a9->StateT br dA (Array a9):=(sortPriv% PySem.Builtin.mergeLo)
structure c5(s N:br):Prop where
 k:kindOf N=kindOf s
 a:arrOf N=arrOf s
 p:hh N=hh s
 f:ho N=ho s
def c5.refl(N:br):c5 N N:=⟨rfl,rfl,rfl,rfl⟩
def gZ{z QG:Type}{ay:gO}{k:StateT z dA QG}{C a:QG->z->ah->Prop}{N:z}{Qd:ah}(c:kasC ay O Qh k a N Qd)(M:∀g N Qd,a g N Qd->C g N Qd):kasC ay O Qh k C N Qd:=
 gS c (λs Qd f=>M s.1 s.2 Qd f) λ_ W d=>d
variable{t:List Nat}
def fH{a:Nat}(S:a<t.length){N:br}{C:a9->br->ah->Prop}(c:C (a7 it<|t.getD a 0) N h):kasC (aN Ql x) O Qh (elem' (t.map<|a7 it).toArray a) C N h:=by
 rw[sO,show ((t.map<|a7 it).toArray)[a]?=Z (a7 it<|t.getD a 0) by simp[List.getD,S]];exact a8 c
def iN(b:∀f∈t,f<r){a:Nat}(S:a<t.length):t.getD a 0<r:=by
 rw[cx,eb S];exact b _ (rx S)
def k3(t:List Nat)(a:Nat):t.toArray.getD a 0=t.getD a 0:=by simp[Array.getD,List.getD];split<;>simp_all
def wX(d:fs r Q (eK Ql x O QC it) h){n:Nat}(j:n<r){t:List Nat}(m:∀f∈t,f<r){Qv k b:Nat}(o:Qv+k<=t.length)(p:b<k)(mono:∀a i,Qv<=a->a<=i->i<Qv+k->Q (t.getD a 0)<=Q (t.getD i 0)){N:br}(q:kindOf N=QC){C:Option Nat->br->ah->Prop}(c:∀s,s<=k->(∀a,Qv<=a->a<Qv+s->Q (t.getD a 0)<=Q n)->(∀a,Qv+s<=a->a<Qv+k->Q n<Q (t.getD a 0))->C (Z s) N h):
  kasC (aN Ql x) O Qh (ob aq (a7 it n) (t.map<|a7 it).toArray Qv k b) C N h:=by
 rw[<-Fy];refine Dd d j (λa S=>by rw[k3];exact iN m ⇑S) ⇑o p (λa i w y u=>?_) q λs v g e=>c s v (λa l D=>?_) (λa l D=>?_)
 ·simp only[cC,k3,gp,e2,jC,kb,wV]at u ⊢;have:=mono (Qv+a) (Qv+i) ⋯ ⋯ ⋯;lia
 ·have:=g (a-Qv) ⋯;simp only[cC,k3,gp,e2,jC,kb,wV]at this
  rwa [show Qv+(a-Qv)=a by lia]at this
 ·have:=e (a-Qv) ⋯ ⋯;simp only[cC,k3,gp,e2,Bool.not_eq_false',yp]at this
  rwa [show Qv+(a-Qv)=a by lia]at this
def uJ(d:fs r Q (eK Ql x O QC it) h){n:Nat}(j:n<r){t:List Nat}(m:∀f∈t,f<r){Qv k b:Nat}(o:Qv+k<=t.length)(p:b<k)(mono:∀a i,Qv<=a->a<=i->i<Qv+k->Q (t.getD a 0)<=Q (t.getD i 0)){N:br}(q:kindOf N=QC){C:Option Nat->br->ah->Prop}(c:∀s,s<=k->(∀a,Qv<=a->a<Qv+s->Q (t.getD a 0)<Q n)->(∀a,Qv+s<=a->a<Qv+k->Q n<=Q (t.getD a 0))->C (Z s) N h):
  kasC (aN Ql x) O Qh (ob X (a7 it n) (t.map<|a7 it).toArray Qv k b) C N h:=by
 rw[<-Fy];refine Dd d j (λa S=>by rw[k3];exact iN m ⇑S) ⇑o p (λa i w y u=>?_) q λs v g e=>c s v (λa l D=>?_) (λa l D=>?_)
 ·simp only[cC,k3,gR,yp]at u ⊢;have:=mono (Qv+a) (Qv+i) ⋯ ⋯ ⋯;lia
 ·have:=g (a-Qv) ⋯;simp only[cC,k3,gR,yp]at this
  rwa [show Qv+(a-Qv)=a by lia]at this
 ·have:=e (a-Qv) ⋯ ⋯;simp only[cC,k3,gR,kb,wV]at this
  rwa [show Qv+(a-Qv)=a by lia]at this
def o_(b:List Nat)(I:Nat):(b.map<|a7 it).toArray.push (a7 it I)=((b++[I]).map<|a7 it).toArray:=by simp
def CK(b t:List Nat)(a n:Nat):(b.map<|a7 it).toArray++(t.map<|a7 it).toArray.extract a (a+n)=((b++(t.drop a).take n).map<|a7 it).toArray:=by
 apply jM;simp[iX,iJ,qp]
end
section
variable{Ql:bA}{x:bc}{O:bj}{Qh:ae->ah->Prop}{QC:fZ}{it:Array a9}{Q:Nat->Int}{r:Nat}{h:ah}
def hc(Q:Nat->Int)(it:Array a9)(u y:List Nat)(out:Array a9)(A E:Nat):Prop:=(∃b:List Nat,out=(b.map<|a7 it).toArray/\K9 Q u y b A E)
variable{z QG:Type}
def Ax{ay:gO}{O:bj}{Qh:ae->ah->Prop}{m:Nat->Prop}{b:∀M,Decidable (m M)}{g Qf:Nat->StateT z dA QG}{C:QG->z->ah->Prop}{N:z}{h:ah}(f:Nat->Nat)(a:∀M,g M=Qf (f M))(j:∀M,kasC ay O Qh (Qf M) C N h):∀M,kasC ay O Qh (if m M then g M else Qf M) C N h:=by
 intro M;rw[a];split
 ·exact j _
 ·exact j _
variable{m:Prop}
def uh{ay:gO}{O:bj}{Qh:ae->ah->Prop}{i:Decidable m}{b R:Array a9->Nat->StateT z dA QG}{C:QG->z->ah->Prop}{N:z}{h:ah}(d e:Array a9->Nat->Prop)(j:∀o a,e o a->kasC ay O Qh (R o a) C N h)(f:¬ m->∀o a,d o a->e o a)(g:(∀o a,e o a->kasC ay O Qh (R o a) C N h)->m->∀o a,d o a->kasC ay O Qh (b o a) C N h):∀o a,d o a->kasC ay O Qh (if m then b o a else R o a) C N h:=λo a q=>
 if c:m then by rw[aE c];exact g j c o a q else by rw[aI c];exact j o a (f c o a q)
def Er{ay:gO}{O:bj}{Qh:ae->ah->Prop}{B:br->br}{C:PUnit->br->ah->Prop}{s N:br}{h:ah}(Qj:c5 s (B N))(c:∀a,c5 s a->C ⟨⟩ a h):kasC ay O Qh (modify B:StateT br dA PUnit) C N h:=kd (c _ Qj)
def p8(Q:Nat->Int)(it:Array a9)(u y:List Nat)(N:br)(h:ah): Option (Array a9)×Array a9×Nat×Nat×Nat->br->ah->Prop:=(λm b Qd=>h=Qd/\c5 N b/\∃a q p s M,m=(Z a,q,p,s,M)/\gc Q it u y a)
def p1(Q:Nat->Int)(it:Array a9)(u y:List Nat)(N:br)(h:ah)(f:Nat):Option (Array a9)×Array a9×Nat×Nat×Nat->br->ah->Prop:=(λm a Qd=>h=Qd/\c5 N a/\∃o A E M,m=(Y,o,A,E,M)/\hc Q it u y o A E/\f+1<=A+E)
def kj(Q:Nat->Int)(it:Array a9)(u y:List Nat)(N:br)(h:ah)(f:Nat):Option (Array a9)×Array a9×Nat×Nat×Nat×Nat->br->ah->Prop:=(λm c Qd=>h=Qd/\c5 N c/\((∃b q p s ac a,m=(Z b,q,p,s,ac,a)/\gc Q it u y b)\/∃o A E ac a,m=(Y,o,A,E,ac,a)/\hc Q it u y o A E/\f+2<=A+E))
def nE(Q:Nat->Int)(it:Array a9)(u y:List Nat)(N:br)(h:ah)(f I:Nat):Option (Array a9)×Array a9×Nat×Nat×Nat×Nat->br->ah->Prop:=(λm a Qd=>h=Qd/\c5 N a/\∃o A E ac b,m=(Y,o,A,E,ac,b)/\hc Q it u y o A E/\f+1+I<=A+E)
def iS(Q:Nat->Int)(it:Array a9)(u y:List Nat)(N:br)(h:ah)(f:Nat):Option (Array a9)×Array a9×Nat×Nat×Nat×Nat×Nat->br->ah->Prop:=(λm c Qd=>h=Qd/\c5 N c/\((∃b q p s M ac a,m=(Z b,q,p,s,M,ac,a)/\gc Q it u y b)\/∃o A E M ac a,m=(Y,o,A,E,M,ac,a)/\hc Q it u y o A E/\f+2<=A+E))
def rk(Q:Nat->Int)(it:Array a9)(u y:List Nat)(N:br)(h:ah)(f I:Nat):Option (Array a9)×Array a9×Nat×Nat×Nat×Nat×Nat->br->ah->Prop:=(λm a Qd=>h=Qd/\c5 N a/\∃o A E M ac b,m=(Y,o,A,E,M,ac,b)/\hc Q it u y o A E/\f+2<=A+E)
def p8.a{Q:Nat->Int}{it:Array a9}{u y:List Nat}{N b:br}{h:ah}{out:Array a9}{q:Array a9}{p s:Nat}{M:Nat}(c:c5 N b)(k:gc Q it u y out):p8 Q it u y N h (Z out,q,p,s,M) b h:=⟨rfl,c,_,_,_,_,_,rfl,k⟩
def p1.k{Q:Nat->Int}{it:Array a9}{u y:List Nat}{N a:br}{h:ah}{f:Nat}{o:Array a9}{A E:Nat}{M:Nat}(c:c5 N a)(i:hc Q it u y o A E)(d:f+1<=A+E):p1 Q it u y N h f (Y,o,A,E,M) a h:=⟨rfl,c,_,_,_,_,rfl,i,d⟩
def kj.a{Q:Nat->Int}{it:Array a9}{u y:List Nat}{N b:br}{h:ah}{f:Nat}{out:Array a9}{q:Array a9}{p s:Nat}{M d:Nat}(c:c5 N b)(k:gc Q it u y out):kj Q it u y N h f (Z out,q,p,s,M,d) b h:=⟨rfl,c,.inl ⟨_,_,_,_,_,_,rfl,k⟩⟩
def kj.b{Q:Nat->Int}{it:Array a9}{u y:List Nat}{N a:br}{h:ah}{f:Nat}{o:Array a9}{A E:Nat}{M g:Nat}(c:c5 N a)(i:hc Q it u y o A E)(d:f+2<=A+E):kj Q it u y N h f (Y,o,A,E,M,g) a h:=⟨rfl,c,.inr ⟨_,_,_,_,_,rfl,i,d⟩⟩
def nE.k{Q:Nat->Int}{it:Array a9}{u y:List Nat}{N a:br}{h:ah}{f I:Nat}{o:Array a9}{A E:Nat}{M b:Nat}(c:c5 N a)(i:hc Q it u y o A E)(d:f+1+I<=A+E):nE Q it u y N h f I (Y,o,A,E,M,b) a h:=⟨rfl,c,_,_,_,_,_,rfl,i,d⟩
def iS.a{Q:Nat->Int}{it:Array a9}{u y:List Nat}{N b:br}{h:ah}{f:Nat}{out:Array a9}{q:Array a9}{p s:Nat}{M d e:Nat}(c:c5 N b)(k:gc Q it u y out):iS Q it u y N h f (Z out,q,p,s,M,d,e) b h:=⟨rfl,c,.inl ⟨_,_,_,_,_,_,_,rfl,k⟩⟩
def iS.b{Q:Nat->Int}{it:Array a9}{u y:List Nat}{N a:br}{h:ah}{f:Nat}{o:Array a9}{A E:Nat}{M g j:Nat}(c:c5 N a)(i:hc Q it u y o A E)(d:f+2<=A+E):iS Q it u y N h f (Y,o,A,E,M,g,j) a h:=⟨rfl,c,.inr ⟨_,_,_,_,_,_,rfl,i,d⟩⟩
def rk.k{Q:Nat->Int}{it:Array a9}{u y:List Nat}{N a:br}{h:ah}{f I:Nat}{o:Array a9}{A E:Nat}{M b e:Nat}(c:c5 N a)(i:hc Q it u y o A E)(d:f+2<=A+E):rk Q it u y N h f I (Y,o,A,E,M,b,e) a h:=⟨rfl,c,_,_,_,_,_,_,rfl,i,d⟩
def I1{g e:Nat}(c:g=e):(g==e)=X:=by simp[c]
def L9{g e:Nat}(c:¬ g=e):¬ (g==e)=X:=by simp[c]
def kT{ay:gO}{O:bj}{Qh:ae->ah->Prop}{g:Nat}{t:List Nat}{f I:StateT z dA QG}{C:QG->z->ah->Prop}{N:z}{h:ah}(ba:g=t.length->kasC ay O Qh f C N h)(a:¬ g=t.length->kasC ay O Qh I C N h):kasC ay O Qh (if (g==(List.map (a7 it) t).toArray.size)=X then f else I) C N h:=by
 rw[show (List.map (a7 it) t).toArray.size=t.length by simp];by_cases c:g=t.length
 ·rw[aE (I1 c)];exact ba c
 ·rw[aI (L9 c)];exact a c
def k2{ay:gO}{O:bj}{Qh:ae->ah->Prop}{b:Decidable m}{f I:StateT z dA QG}{C:QG->z->ah->Prop}{N:z}{h:ah}(ba:m->kasC ay O Qh f C N h)(a:¬ m->kasC ay O Qh I C N h):kasC ay O Qh (if m then f else I) C N h:=if c:m then by rw[aE c];exact ba c else by rw[aI c];exact a c
def Kq(b:fs r Q (eK Ql x O QC it) h){n:Nat}(d:n<r){t:List Nat}(j:∀f∈t,f<r){Qv:Nat}(p:Qv<t.length)(mono:∀a i,Qv<=a->a<=i->i<t.length->Q (t.getD a 0)<=Q (t.getD i 0)){N:br}(k:kindOf N=QC){C:Option Nat->br->ah->Prop}(c:∀s,Qv+s<=t.length->(∀a,Qv<=a->a<Qv+s->Q (t.getD a 0)<=Q n)->(∀a,Qv+s<=a->a<t.length->Q n<Q (t.getD a 0))->C (Z s) N h):
  kasC (aN Ql x) O Qh (ob aq (a7 it n) (t.map<|a7 it).toArray Qv ((t.map<|a7 it).toArray.size-Qv) 0) C N h:=by
 rw[show (t.map<|a7 it).toArray.size=t.length by simp];exact wX b d j ⋯ ⋯ (λa i g e m=>mono a i g e ⋯) k λs l D o=>c s ⋯ D λa g e=>o a g ⋯
def N3(b:fs r Q (eK Ql x O QC it) h){n:Nat}(d:n<r){t:List Nat}(j:∀f∈t,f<r){Qv:Nat}(p:Qv<t.length)(mono:∀a i,Qv<=a->a<=i->i<t.length->Q (t.getD a 0)<=Q (t.getD i 0)){N:br}(k:kindOf N=QC){C:Option Nat->br->ah->Prop}(c:∀s,Qv+s<=t.length->(∀a,Qv<=a->a<Qv+s->Q (t.getD a 0)<Q n)->(∀a,Qv+s<=a->a<t.length->Q n<=Q (t.getD a 0))->C (Z s) N h):
  kasC (aN Ql x) O Qh (ob X (a7 it n) (t.map<|a7 it).toArray Qv ((t.map<|a7 it).toArray.size-Qv) 0) C N h:=by
 rw[show (t.map<|a7 it).toArray.size=t.length by simp];exact uJ b d j ⋯ ⋯ (λa i g e m=>mono a i g e ⋯) k λs l D o=>c s ⋯ D λa g e=>o a g ⋯
def NY(be:fs r Q (eK Ql x O QC it) h){u y:List Nat}(bi:∀f∈u,f<r)(bm:∀f∈y,f<r)(fd:cc Q u)(fn:cc Q y)(hm:0<u.length)(l:0<y.length)(first:∀f∈u,Q (y.getD 0 0)<=Q f)(ei:∀f∈y,Q f<=Q (u.getD (u.length-1) 0)){N:br}(ch:kindOf N=QC){C:Array a9->br->ah->Prop}(c:∀out F,gc Q it u y out->c5 N F->C out F h):
  kasC (aN Ql x) O Qh (Cp (u.map<|a7 it).toArray (y.map<|a7 it).toArray) C N h:=by
 have bn:[y.getD 0 0].Perm (u.take 0++y.take 1):=by
  have:=jt (t:=y) (a:=0) l;simp only[kE]at this;rw[this];exact List.Perm.refl _
 have bs:cc Q ([y.getD 0 0]++y.drop 1):=by
  have:=jt (t:=y) (a:=0) l;simp only[kE]at this;rw[<-this,fc];exact fn
 have bv:cc Q ([y.getD 0 0]++u.drop 0):=eV.mpr ⟨fi _ _,by rw[kE];exact fd,λf d I v=>by
  rw[cV.mp d];exact first I (by rwa [kE]at v)⟩
 have hw:(List.map (a7 it) u).toArray.size=u.length:=by simp
 have h0:(List.map (a7 it) y).toArray.size=y.length:=by simp
 unfold Cp;with_unfolding_all refine a_ (m1<|i5 ?_);refine a_ (fH l ?_);refine kT (λci=>a8<|c _ _ (q3 bn bv bs<|.inl ci)<|c5.refl N) λci=>?_;refine kT (λcl=>a8<|c _ _ (tu bn bv bs cl ei)<|c5.refl N) λcl=>?_;refine a_ (jw ?_);refine a_ (gZ (a:=p8 Q it u y N h) (fj (gd (p1 Q it u y N h) ?step _ 0 _ _ _ ?fin (p1.k (c5.refl N) ⟨_,rfl,bn,bv,bs,⋯,⋯⟩ ⋯))) ?after)
 case after=>
  rintro m F Qd ⟨rfl,Qj,cr,o,A,E,M,rfl,am⟩;exact a8 (c _ _ am Qj)
 case fin=>
  rintro m F Qd ⟨rfl,Qj,o,A,E,M,rfl,⟨b,rfl,k⟩,d⟩;have:=k.bK;have:=k.i6;lia
 case step=>
  rintro f m F Qd ⟨rfl,Qj,o,A,E,M,rfl,G,d⟩;refine a_ (gZ (a:=kj Q it u y N h f)
   (fj (gd (nE Q it u y N h f) ?fr _ 0 _ _ _ ?f0 (nE.k Qj G ⋯))) ?f4)
  case f0=>
   rintro m F Qd ⟨rfl,Qj,o,A,E,ac,S,rfl,G,d⟩;exact kj.b Qj G ⋯
  case fr=>
   rintro I m F Qd ⟨rfl,Qj,o,A,E,ac,S,rfl,⟨b,rfl,k⟩,d⟩;have an:=k.bK;have z:=k.i6;have a2:kindOf F=QC:=Qj.k.trans ch;have D:A<u.length:=⋯
   have dR:Q (y.getD E 0)<Q (u.getD A 0)->(b++[y.getD E 0]).Perm (u.take A++y.take (E+1))/\cc Q (b++[y.getD E 0]++u.drop A)/\cc Q (b++[y.getD E 0]++y.drop (E+1)):=λap=>by
    have:=xG 1 k.perm k.aG k.cn (λf d I v=>by
     rw[jt z,cV]at d;let⟨@i,H,T,rfl⟩:=i7 v;have:=oz k.aG (bf _) H T;rw[d];lia)
    rwa [jt z]at this
   have dc:¬ Q (y.getD E 0)<Q (u.getD A 0)->(b++[u.getD A 0]).Perm (u.take (A+1)++y.take E)/\cc Q (b++[u.getD A 0]++u.drop (A+1))/\cc Q (b++[u.getD A 0]++y.drop E):=λap=>by
    have:=r9 1 k.perm k.aG k.cn (λf d I v=>by
     rw[jt D,cV]at d;let⟨@i,H,T,rfl⟩:=i7 v;have:=oz k.cn (bf _) H T;rw[d];lia)
    rwa [jt D]at this
   refine a_ (fH z<|a_<|fH D<|a_<|pq be (iN bm z) (iN bi D) a2 ?_);refine k2 (λap=>?_) λap=>?_
   ·have e:=dR ⇑ap;refine a_ (fH z (kT (λL=>a8 (kj.a Qj (by rw[o_];exact q3 e.1 e.2.1 e.2.2 (.inl L)))) λL=>?_));have P:hc Q it u y ((b.map<|a7 it).toArray.push<|a7 it<|y.getD E 0) A (E+1):=⟨_,o_ _ _,e.1,e.2.1,e.2.2,an,⋯⟩;exact k2 (λ_=>a8 (kj.b Qj P ⋯)) λ_=>a8 (nE.k Qj P ⋯)
   ·have e:=dc ⇑ap;refine a_ (fH D (kT (λL=>a8 (kj.a Qj (by rw[o_];exact tu e.1 e.2.1 e.2.2 L ei))) λL=>?_));have P:hc Q it u y ((b.map<|a7 it).toArray.push<|a7 it<|u.getD A 0) (A+1) E:=⟨_,o_ _ _,e.1,e.2.1,e.2.2,⋯,z⟩;exact k2 (λ_=>a8 (kj.b Qj P ⋯)) λ_=>a8 (nE.k Qj P ⋯)
  case f4=>
   rintro m F Qd ⟨rfl,Qj,⟨cr,o,A,E,ac,S,rfl,am⟩|⟨o,A,E,ac,S,rfl,G,d⟩⟩
   ·exact a8 (p8.a Qj am)
   ·refine a_ (m1<|i5 ?_);refine a_ (gZ (a:=iS Q it u y N h f)
     (fj (gd (rk Q it u y N h f) ?f8 _ 0 _ _ _ ?fin2 (rk.k Qj G ⋯))) ?ga)
    case fin2=>
     rintro m F Qd ⟨rfl,Qj,o,A,E,M,ac,S,rfl,G,d⟩;exact iS.b Qj G ⋯
    case ga=>
     rintro m F Qd ⟨rfl,Qj,⟨cr,o,A,E,M,ac,S,rfl,am⟩|⟨o,A,E,M,ac,S,rfl,G,d⟩⟩
     ·exact a8 (p8.a Qj am)
     ·refine a_ (kd ?_);exact a8 (p1.k ⟨Qj.k,Qj.a,Qj.p,Qj.f⟩ G ⋯)
    case f8=>
     rintro I m F Qd ⟨rfl,Qj,o,A,E,M,ac,S,rfl,⟨b,cs,k⟩,d⟩;have an:=k.bK;have z:=k.i6;dsimp only;revert M;refine Ax (λM=>M-1) ?D ?_
     case D=>exact λM=>rfl
     intro M;refine a_ (Er (s:=N) ⟨Qj.k,Qj.a,Qj.p,Qj.f⟩ λii R=>?_);have a2:=R.k.trans ch;refine a_ (fH z ?_);refine a_ (Kq be (iN bm z) bi (show A<u.length by lia) (λa i g e m=>oz k.aG g e m) a2 ?_);intro n im ge db;dsimp only;generalize as:o=QU;generalize a1:A=a;have Qf:QU=o/\a=A:=⟨as.symm,a1.symm⟩;clear as a1;revert QU a;refine uh (λQU a=>QU=o/\a=A) (λQU a=>hc Q it u y QU a E/\A<=a/\∀i,a<=i->i<u.length->Q (y.getD E 0)<Q (u.getD i 0)) ?Qm ?f1 ?gl
     case f1=>
      rintro go QU a ⟨rfl,rfl⟩;exact⟨⟨b,cs,k⟩,bf _,λi g e=>db i ⋯ e⟩
     case gl=>
      rintro j _ QU a ⟨rfl,rfl⟩;try dsimp only
      have J:=r9 n k.perm k.aG k.cn (λf d I v=>by
       let⟨@i,gt,H,rfl⟩:=oT d;let⟨@g1,ca,cd,rfl⟩:=i7 v;have:=ge (a+i) ⋯ ⋯;have:=oz k.cn (bf _) ca cd;lia)
      rw[cs,CK];refine kT (λL=>a8<|iS.a R<|tu J.1 J.2.1 J.2.2 L ei) λL=>?_;refine kT (λds=>a8<|iS.a R<|q3 J.1 J.2.1 J.2.2<|.inr ds) λds=>?_;exact j _ _ ⟨⟨_,rfl,J.1,J.2.1,J.2.2,⋯,z⟩,⋯,λi g e=>db i g e⟩
     case Qm=>
      rintro QU a ⟨⟨b,rfl,k⟩,le,g2⟩;have an:=k.bK;try dsimp only
      refine a_ (fH z ?_);have Q3:=xG 1 k.perm k.aG k.cn (λf d I v=>by
       rw[jt z,cV]at d;let⟨@i,H,T,rfl⟩:=i7 v;have:=g2 i H T;rw[d];lia)
      rw[jt z]at Q3;rw[o_];refine kT (λdL=>a8<|iS.a R<|q3 Q3.1 Q3.2.1 Q3.2.2<|.inl dL) λdL=>?_;have D:a<u.length:=⋯
      refine a_ (fH D ?_);refine a_ (N3 be (iN bi D) bm (show E+1<y.length by lia) (λa i g e m=>oz Q3.2.2 g e m) a2 ?_);intro QW io g3 eq;dsimp only;generalize b++[y.getD E 0]=ce at *;generalize jp:E+1=bd at *;generalize as:(List.map (a7 it) ce).toArray=QU;generalize a1:bd=i;have Qf:QU=(List.map (a7 it) ce).toArray/\i=bd:=⟨as.symm,a1.symm⟩;clear as a1;revert QU i;refine uh (λQU i=>QU=(List.map (a7 it) ce).toArray/\i=bd) (λQU i=>hc Q it u y QU a i/\bd<=i/\∀w,i<=w->w<y.length->Q (u.getD a 0)<=Q (y.getD w 0)) ?Qz ?f2 ?hd
      case f2=>
       rintro go QU i ⟨rfl,rfl⟩;exact⟨⟨_,rfl,Q3.1,Q3.2.1,Q3.2.2,an,⋯⟩,bf _,λw g e=>eq w ⋯ e⟩
      case hd=>
       rintro j _ QU i ⟨rfl,rfl⟩;try dsimp only
       have al:=xG QW Q3.1 Q3.2.1 Q3.2.2 (λf d I v=>by
        let⟨@w,gt,H,rfl⟩:=oT d;let⟨@g1,ca,cd,rfl⟩:=i7 v;have:=g3 (i+w) ⋯ ⋯;have:=oz Q3.2.1 (bf _) ca cd;lia)
       rw[CK];refine kT (λev=>a8<|iS.a R<|q3 al.1 al.2.1 al.2.2<|.inl ev) λev=>?_;exact j _ _ ⟨⟨_,rfl,al.1,al.2.1,al.2.2,an,⋯⟩,⋯,λw g e=>eq w g e⟩
      case Qz=>
       rintro QU i ⟨⟨b,rfl,k⟩,kt,he⟩;have hf:=k.i6;try dsimp only
       refine a_ (fH D ?_);have U:=r9 1 k.perm k.aG k.cn (λf d I v=>by
        rw[jt D,cV]at d;let⟨@w,H,T,rfl⟩:=i7 v;rw[d];exact he w H T)
       rw[jt D]at U;rw[o_];refine kT (λex=>a8<|iS.a R<|tu U.1 U.2.1 U.2.2 ex ei) λex=>?_;have P:hc Q it u y ((b++[u.getD a 0]).map<|a7 it).toArray (a+1) i:=⟨_,rfl,U.1,U.2.1,U.2.2,⋯,hf⟩;exact k2 (λ_=>a8 (iS.b R P ⋯)) λ_=>a8 (rk.k R P ⋯)
end
section
variable{Ql:bA}{x:bc}{O:bj}{Qh:ae->ah->Prop}{QC:fZ}{it:Array a9}{Q:Nat->Int}{r:Nat}{h:ah}
def Al:Array a9->Array a9->StateT br dA (Array a9):=(sortPriv% PySem.Builtin.mergeHi)
variable{t:List Nat}{a i:Nat}
def xj(b:a<=i)(c:i<=t.length):t.drop a=(t.take i).drop a++t.drop i:=by
 have d:t.drop a=(t.take i++t.drop i).drop a:=by rw[fc]
 rw[d,List.drop_append_of_le_length (by rw[f5];lia)]
def N0(b:a<=i):t.take a++(t.take i).drop a=t.take i:=by
 have:=fc a (t.take i)
 rwa [ru,qb b]at this
variable{u y k:List Nat}{z F:Nat}
def rE(n:Nat)(e:n<=z)(h:z<=u.length)(perm:k.Perm (u.drop z++y.drop F))(aG:cc Q (u.take z++k))(cn:cc Q (y.take F++k))(c:∀f∈(u.take z).drop n,∀I∈y.take F,Q I<=Q f):
  ((u.take z).drop n++k).Perm (u.drop n++y.drop F)/\cc Q (u.take n++((u.take z).drop n++k))/\cc Q (y.take F++((u.take z).drop n++k)):=by
 refine⟨?_,?_,?_⟩
 ·rw[xj e h,bz];exact dT _ perm
 ·rw[<-bz,N0 e];exact aG
 ·have g:=eV.mp aG;have d:=eV.mp cn;refine eV.mpr ⟨d.1,eV.mpr ⟨g.1.sublist<|tG _ _,d.2.1,λf b I a=>g.2.2 f (lX b) I a⟩,λf b I a=>?_⟩;rcases dK.mp a with a|a
  ·exact c I a f b
  ·exact d.2.2 f b I a
def yu(n:Nat)(a:n<=F)(b:F<=y.length)(perm:k.Perm (u.drop z++y.drop F))(aG:cc Q (u.take z++k))(cn:cc Q (y.take F++k))(c:∀f∈(y.take F).drop n,∀I∈u.take z,Q I<=Q f):
  ((y.take F).drop n++k).Perm (u.drop z++y.drop n)/\cc Q (u.take z++((y.take F).drop n++k))/\cc Q (y.take n++((y.take F).drop n++k)):=by
 have:=rE (u:=y) (y:=u) n a b (perm.trans c4) cn aG c;exact⟨this.1.trans c4,this.2.2,this.2.1⟩
def kZ(b:0<a)(c:a<=t.length):(t.take a).drop (a-1)=[t.getD (a-1) 0]:=by
 rw[qp,show a-(a-1)=1 by lia];exact jt ⋯
variable{I:Nat}
def kH(c:I∈t.take a):∃i,i<a/\i<t.length/\I=t.getD i 0:=by
 have:=oT (a:=0) (n:=a) (I:=I) (t:=t) (by rwa [kE]);let⟨@i,g,e,d⟩:=this;exact⟨i,g,⋯,by rw[d];congr 1;lia⟩
variable{n:Nat}
def A4(c:I∈(t.take n).drop a):∃i,a<=i/\i<n/\i<t.length/\I=t.getD i 0:=by
 rw[qp]at c;let⟨@i,g,e,d⟩:=oT c;exact⟨a+i,⋯,⋯,e,d⟩
def nK(c:cc Q (t.take a++k))(b:i<=n)(d:n<a)(e:n<t.length):Q (t.getD i 0)<=Q (t.getD n 0):=by
 have:=nt (eV.mp c).1 (a:=i) (i:=n) b (by rw[f5];lia);simpa [List.getD,mw,show i<a by lia,d] using this
def ps(perm:k.Perm (u.drop z++y.drop F))(aG:cc Q (u.take z++k))(cn:cc Q (y.take F++k))(a:z=0\/F=0):
  gc Q it u y ((u.map<|a7 it).toArray.extract 0 z++(y.map<|a7 it).toArray.extract 0 F++(k.reverse.map<|a7 it).toArray.reverse):=by
 refine⟨u.take z++y.take F++k,?_,?_,?_⟩
 ·apply jM;simp[iJ]
 ·refine (dT _ perm).trans ?_;have:(u.take z++y.take F++(u.drop z++y.drop F)).Perm ((u.take z++u.drop z)++(y.take F++y.drop F)):=by
   rw[bz,bz];refine dT _ ?_;rw[<-bz,<-bz];exact e8 _ c4
  rw[fc,fc]at this;exact this
 ·rcases a with d|d
  ·rw[d,sY,uQ];exact cn
  ·rw[d,sY,cD];exact aG
def ry(perm:k.Perm (u.drop z++y.drop F))(aG:cc Q (u.take z++k))(cn:cc Q (y.take F++k))(c:F=1)(first:∀f∈u,Q (y.getD 0 0)<=Q f):
  gc Q it u y ((y.map<|a7 it).toArray.extract 0 F++(u.map<|a7 it).toArray.extract 0 z++(k.reverse.map<|a7 it).toArray.reverse):=by
 refine⟨y.take F++u.take z++k,?_,?_,?_⟩
 ·apply jM;simp[iJ]
 ·refine (dT _ perm).trans ?_;have:(y.take F++u.take z++(u.drop z++y.drop F)).Perm ((u.take z++u.drop z)++(y.take F++y.drop F)):=by
   rw[bz,<-bz (u.take z),<-bz (u.take z++u.drop z)];rw[<-bz (y.take F)];exact e8 _ c4
  rw[fc,fc]at this;exact this
 ·rw[bz];refine eV.mpr ⟨(eV.mp cn).1,aG,λf b I a=>?_⟩;rcases dK.mp a with a|a
  ·let⟨@i,l,D,rfl⟩:=kH b;have:i=0:=⋯
   rw[this];exact first I (nr a)
  ·exact (eV.mp cn).2.2 f b I a
def oc(k:List Nat)(I:Nat):(k.reverse.map<|a7 it).toArray.push (a7 it I)=(([I]++k).reverse.map<|a7 it).toArray:=by simp
def zM(k t:List Nat)(a n:Nat):(k.reverse.map<|a7 it).toArray++((t.map<|a7 it).toArray.extract a n).reverse=(((t.take n).drop a++k).reverse.map<|a7 it).toArray:=by
 apply jM;simp[iX,iJ,qp]
structure HI(Q:Nat->Int)(u y:List Nat)(k:List Nat)(z F:Nat):Prop where
 perm:k.Perm (u.drop z++y.drop F)
 aG:cc Q (u.take z++k)
 cn:cc Q (y.take F++k)
 bK:0<z
 i6:1<F
 oU:z<=u.length
 wu:F<=y.length
def hn(Q:Nat->Int)(it:Array a9)(u y:List Nat)(out:Array a9)(z F:Nat):Prop:=(∃k:List Nat,out=(k.reverse.map<|a7 it).toArray/\HI Q u y k z F)
end
section
variable{Ql:bA}{x:bc}{O:bj}{Qh:ae->ah->Prop}{QC:fZ}{it:Array a9}{Q:Nat->Int}{r:Nat}{h:ah}
def pW(Q:Nat->Int)(it:Array a9)(u y:List Nat)(N:br)(h:ah): Option (Array a9)×Nat×Nat×Array a9×Nat->br->ah->Prop:=(λm b Qd=>h=Qd/\c5 N b/\∃a q p s M,m=(Z a,q,p,s,M)/\gc Q it u y a)
def pL(Q:Nat->Int)(it:Array a9)(u y:List Nat)(N:br)(h:ah)(f:Nat):Option (Array a9)×Nat×Nat×Array a9×Nat->br->ah->Prop:=(λm a Qd=>h=Qd/\c5 N a/\∃z F o M,m=(Y,z,F,o,M)/\hn Q it u y o z F/\z+F+f+1<=u.length+y.length)
def j3(Q:Nat->Int)(it:Array a9)(u y:List Nat)(N:br)(h:ah)(f:Nat):Option (Array a9)×Nat×Nat×Array a9×Nat×Nat->br->ah->Prop:=(λm c Qd=>h=Qd/\c5 N c/\((∃b q p s ac a,m=(Z b,q,p,s,ac,a)/\gc Q it u y b)\/∃z F o ac a,m=(Y,z,F,o,ac,a)/\hn Q it u y o z F/\z+F+f+2<=u.length+y.length))
def nv(Q:Nat->Int)(it:Array a9)(u y:List Nat)(N:br)(h:ah)(f I:Nat):Option (Array a9)×Nat×Nat×Array a9×Nat×Nat->br->ah->Prop:=(λm a Qd=>h=Qd/\c5 N a/\∃z F o ac b,m=(Y,z,F,o,ac,b)/\hn Q it u y o z F/\z+F+f+1+I<=u.length+y.length)
def iU(Q:Nat->Int)(it:Array a9)(u y:List Nat)(N:br)(h:ah)(f:Nat):Option (Array a9)×Nat×Nat×Array a9×Nat×Nat×Nat->br->ah->Prop:=(λm c Qd=>h=Qd/\c5 N c/\((∃b q p s M ac a,m=(Z b,q,p,s,M,ac,a)/\gc Q it u y b)\/∃z F o M ac a,m=(Y,z,F,o,M,ac,a)/\hn Q it u y o z F/\z+F+f+2<=u.length+y.length))
def pv(Q:Nat->Int)(it:Array a9)(u y:List Nat)(N:br)(h:ah)(f I:Nat):Option (Array a9)×Nat×Nat×Array a9×Nat×Nat×Nat->br->ah->Prop:=(λm a Qd=>h=Qd/\c5 N a/\∃z F o M ac b,m=(Y,z,F,o,M,ac,b)/\hn Q it u y o z F/\z+F+f+2<=u.length+y.length)
def pW.a{Q:Nat->Int}{it:Array a9}{u y:List Nat}{N b:br}{h:ah}{out:Array a9}{q p:Nat}{s:Array a9}{M:Nat}(c:c5 N b)(k:gc Q it u y out):pW Q it u y N h (Z out,q,p,s,M) b h:=⟨rfl,c,_,_,_,_,_,rfl,k⟩
def pL.k{Q:Nat->Int}{it:Array a9}{u y:List Nat}{N a:br}{h:ah}{f:Nat}{z F:Nat}{o:Array a9}{M:Nat}(c:c5 N a)(i:hn Q it u y o z F)(d:z+F+f+1<=u.length+y.length):pL Q it u y N h f (Y,z,F,o,M) a h:=⟨rfl,c,_,_,_,_,rfl,i,d⟩
def j3.a{Q:Nat->Int}{it:Array a9}{u y:List Nat}{N b:br}{h:ah}{f:Nat}{out:Array a9}{q p:Nat}{s:Array a9}{M d:Nat}(c:c5 N b)(k:gc Q it u y out):j3 Q it u y N h f (Z out,q,p,s,M,d) b h:=⟨rfl,c,.inl ⟨_,_,_,_,_,_,rfl,k⟩⟩
def j3.b{Q:Nat->Int}{it:Array a9}{u y:List Nat}{N a:br}{h:ah}{f:Nat}{z F:Nat}{o:Array a9}{M g:Nat}(c:c5 N a)(i:hn Q it u y o z F)(d:z+F+f+2<=u.length+y.length):j3 Q it u y N h f (Y,z,F,o,M,g) a h:=⟨rfl,c,.inr ⟨_,_,_,_,_,rfl,i,d⟩⟩
def nv.k{Q:Nat->Int}{it:Array a9}{u y:List Nat}{N a:br}{h:ah}{f I:Nat}{z F:Nat}{o:Array a9}{M b:Nat}(c:c5 N a)(i:hn Q it u y o z F)(d:z+F+f+1+I<=u.length+y.length):nv Q it u y N h f I (Y,z,F,o,M,b) a h:=⟨rfl,c,_,_,_,_,_,rfl,i,d⟩
def iU.a{Q:Nat->Int}{it:Array a9}{u y:List Nat}{N b:br}{h:ah}{f:Nat}{out:Array a9}{q p:Nat}{s:Array a9}{M d e:Nat}(c:c5 N b)(k:gc Q it u y out):iU Q it u y N h f (Z out,q,p,s,M,d,e) b h:=⟨rfl,c,.inl ⟨_,_,_,_,_,_,_,rfl,k⟩⟩
def iU.b{Q:Nat->Int}{it:Array a9}{u y:List Nat}{N a:br}{h:ah}{f:Nat}{z F:Nat}{o:Array a9}{M g j:Nat}(c:c5 N a)(i:hn Q it u y o z F)(d:z+F+f+2<=u.length+y.length):iU Q it u y N h f (Y,z,F,o,M,g,j) a h:=⟨rfl,c,.inr ⟨_,_,_,_,_,_,rfl,i,d⟩⟩
def pv.k{Q:Nat->Int}{it:Array a9}{u y:List Nat}{N a:br}{h:ah}{f I:Nat}{z F:Nat}{o:Array a9}{M b e:Nat}(c:c5 N a)(i:hn Q it u y o z F)(d:z+F+f+2<=u.length+y.length):pv Q it u y N h f I (Y,z,F,o,M,b,e) a h:=⟨rfl,c,_,_,_,_,_,_,rfl,i,d⟩
def kq{ay:gO}{O:bj}{Qh:ae->ah->Prop}{z QG:Type}{g e:Nat}{f I:StateT z dA QG}{C:QG->z->ah->Prop}{N:z}{h:ah}(ba:g=e->kasC ay O Qh f C N h)(a:¬ g=e->kasC ay O Qh I C N h):kasC ay O Qh (if (g==e)=X then f else I) C N h:=k2 (λc=>ba ⇑c) λc=>a ⇑c
def OQ(bv:fs r Q (eK Ql x O QC it) h){u y:List Nat}(ca:∀f∈u,f<r)(cd:∀f∈y,f<r)(f8:cc Q u)(ga:cc Q y)(ge:0<u.length)(l:0<y.length)(first:∀f∈u,Q (y.getD 0 0)<=Q f)(ei:∀f∈y,Q f<=Q (u.getD (u.length-1) 0)){N:br}(ds:kindOf N=QC){C:Array a9->br->ah->Prop}(c:∀out v,gc Q it u y out->c5 N v->C out v h):
  kasC (aN Ql x) O Qh (Al (u.map<|a7 it).toArray (y.map<|a7 it).toArray) C N h:=by
 have bm:(List.map (a7 it) u).toArray.size=u.length:=by simp
 have bn:(List.map (a7 it) y).toArray.size=y.length:=by simp
 have aZ:=kZ ge (bf _);rw[pw]at aZ;have ce:[u.getD (u.length-1) 0].Perm (u.drop (u.length-1)++y.drop y.length):=by
  rw[aZ,w0];exact List.Perm.refl _
 have ch:cc Q (u.take (u.length-1)++[u.getD (u.length-1) 0]):=by
  rw[<-aZ,fc];exact f8
 have ci:cc Q (y.take y.length++[u.getD (u.length-1) 0]):=eV.mpr ⟨by rw[pw];exact ga,fi _ _,λf d I t=>by
  rw[cV.mp t];exact ei f (by rwa [pw]at d)⟩
 unfold Al;with_unfolding_all refine a_ (m1<|i5 ?_);refine a_ (fH (show (List.map (a7 it) u).toArray.size-1<u.length by lia) ?_);refine kq (λcl=>a8 (c _ _ (by rw[bm]at cl;rw[bm,bn];exact ps ce ch ci (.inl cl))<|c5.refl N)) λcl=>?_;refine kq (λco=>a8 (c _ _ (by rw[bn]at co;rw[bm,bn];exact ry ce ch ci co first)<|c5.refl N)) λco=>?_;refine a_ (jw ?_);refine a_ (gZ (a:=pW Q it u y N h) (fj (gd (pL Q it u y N h) ?step _ 0 _ _ _ ?fin (pL.k (c5.refl N) (by rw[bm,bn];exact⟨_,rfl,ce,ch,ci,⋯,⋯,⋯,⋯⟩) ⋯))) ?after)
 case after=>
  rintro m v Qd ⟨rfl,Qj,eq,o,A,E,M,rfl,as⟩;exact a8 (c _ _ as Qj)
 case fin=>
  rintro m v Qd ⟨rfl,Qj,z,F,o,M,rfl,⟨b,rfl,k⟩,d⟩;have:=k.bK;have:=k.i6;lia
 case step=>
  rintro f m v Qd ⟨rfl,Qj,z,F,o,M,rfl,G,d⟩;refine a_ (gZ (a:=j3 Q it u y N h f)
   (fj (gd (nv Q it u y N h f) ?gl _ 0 _ _ _ ?go (nv.k Qj G ⋯))) ?gt)
  case go=>
   rintro m v Qd ⟨rfl,Qj,z,F,o,ac,U,rfl,G,d⟩;exact j3.b Qj G ⋯
  case gl=>
   rintro I m v Qd ⟨rfl,Qj,z,F,o,ac,U,rfl,⟨b,rfl,k⟩,d⟩;have H:=k.bK;have cr:=k.i6;have D:=k.oU;have J:=k.wu;have bs:kindOf v=QC:=Qj.k.trans ds;have L:z-1<u.length:=⋯
   have al:F-1<y.length:=⋯
   have dR:Q (y.getD (F-1) 0)<Q (u.getD (z-1) 0)->_:=λa1=>by
    have:=rE (z-1) ⋯ D k.perm k.aG k.cn (λf d I t=>by
     rw[kZ H D,cV]at d;let⟨@i,am,a2,rfl⟩:=kH t;have:=nK k.cn (show i<=F-1 by lia) ⋯ ⋯;rw[d];lia)
    rw[kZ H D]at this;exact this
   have dc:¬ Q (y.getD (F-1) 0)<Q (u.getD (z-1) 0)->_:=λa1=>by
    have:=yu (F-1) ⋯ J k.perm k.aG k.cn (λf d I t=>by
     rw[kZ ⋯ J,cV]at d;let⟨@i,am,a2,rfl⟩:=kH t;have:=nK k.aG (show i<=z-1 by lia) ⋯ ⋯;rw[d];lia)
    rw[kZ ⋯ J]at this;exact this
   refine a_ (fH al<|a_<|fH L<|a_<|pq bv (iN cd al) (iN ca L) bs ?_);refine k2 (λa1=>?_) λa1=>?_
   ·have e:=dR ⇑a1;refine a_ (fH L (kq (λR=>a8 (j3.a Qj (by rw[oc];exact ps e.1 e.2.1 e.2.2 (.inl R)))) λR=>?_));have S:hn Q it u y ((b.reverse.map<|a7 it).toArray.push<|a7 it<|u.getD (z-1) 0) (z-1) F:=⟨_,oc _ _,e.1,e.2.1,e.2.2,⋯,cr,⋯,J⟩;exact k2 (λ_=>a8 (j3.b Qj S ⋯)) λ_=>a8 (nv.k Qj S ⋯)
   ·have e:=dc ⇑a1;refine a_ (fH al (kq (λR=>a8 (j3.a Qj (by rw[oc];exact ry e.1 e.2.1 e.2.2 R first))) λR=>?_));have S:hn Q it u y ((b.reverse.map<|a7 it).toArray.push<|a7 it<|y.getD (F-1) 0) z (F-1):=⟨_,oc _ _,e.1,e.2.1,e.2.2,H,⋯,D,⋯⟩;exact k2 (λ_=>a8 (j3.b Qj S ⋯)) λ_=>a8 (nv.k Qj S ⋯)
  case gt=>
   rintro m v Qd ⟨rfl,Qj,⟨eq,o,A,E,ac,U,rfl,as⟩|⟨z,F,o,ac,U,rfl,G,d⟩⟩
   ·exact a8 (pW.a Qj as)
   ·refine a_ (m1<|i5 ?_);refine a_ (gZ (a:=iU Q it u y N h f)
     (fj (gd (pv Q it u y N h f) ?g1 _ 0 _ _ _ ?fin2 (pv.k Qj G ⋯))) ?g2)
    case fin2=>
     rintro m v Qd ⟨rfl,Qj,z,F,o,M,ac,U,rfl,G,d⟩;exact iU.b Qj G ⋯
    case g2=>
     rintro m v Qd ⟨rfl,Qj,⟨eq,o,A,E,M,ac,U,rfl,as⟩|⟨z,F,o,M,ac,U,rfl,G,d⟩⟩
     ·exact a8 (pW.a Qj as)
     ·refine a_ (kd ?_);exact a8 (pL.k ⟨Qj.k,Qj.a,Qj.p,Qj.f⟩ G ⋯)
    case g1=>
     rintro I m v Qd ⟨rfl,Qj,z,F,o,M,ac,U,rfl,⟨b,ev,k⟩,d⟩;have H:=k.bK;have cr:=k.i6;have D:=k.oU;have J:=k.wu;have al:F-1<y.length:=⋯
     dsimp only;revert M;refine Ax (λM=>M-1) ?L ?_
     case L=>exact λM=>rfl
     intro M;refine a_ (Er (s:=N) ⟨Qj.k,Qj.a,Qj.p,Qj.f⟩ λkt T=>?_);have bs:=T.k.trans ds;refine a_ (fH al ?_);refine a_ (wX bv (iN cd al) ca (Qv:=0) (k:=z) (b:=z-1) ⋯ ⋯ (λa i g e m=>nK k.aG e ⋯ ⋯) bs ?_);intro n kw ex hd;dsimp only;generalize lc:z-n=lf;generalize bd:o=QU;generalize be:z=a;have Qf:QU=o/\a=z:=⟨bd.symm,be.symm⟩;clear bd be;revert QU a;refine uh (λQU a=>QU=o/\a=z) (λQU a=>hn Q it u y QU a F/\a<=z/\∀i,i<a->Q (u.getD i 0)<=Q (y.getD (F-1) 0)) ?Qm ?f1 ?he
     case f1=>
      rintro hf QU a ⟨rfl,rfl⟩;exact⟨⟨b,ev,k⟩,bf _,λi g=>ex i ⋯ ⋯⟩
     case he=>
      rintro j _ QU a ⟨rfl,rfl⟩;try dsimp only
      have ap:=rE n ⋯ D k.perm k.aG k.cn (λf d I t=>by
       let⟨@i,hm,am,a2,rfl⟩:=A4 d;let⟨@cs,hw,h0,rfl⟩:=kH t;have:=hd i ⋯ ⋯;have:=nK k.cn (show cs<=F-1 by lia) ⋯ ⋯;lia)
      rw[ev,zM];refine kq (λR=>a8<|iU.a T<|ps ap.1 ap.2.1 ap.2.2<|.inl R) λR=>?_;exact j _ _ ⟨⟨_,rfl,ap.1,ap.2.1,ap.2.2,⋯,cr,⋯,J⟩,⋯,λi g=>ex i ⋯ ⋯⟩
     case Qm=>
      rintro QU a ⟨⟨b,rfl,k⟩,le,ii⟩;have H:=k.bK;have D:=k.oU;have L:a-1<u.length:=⋯
      try dsimp only
      refine a_ (fH al ?_);have Q3:=yu (F-1) ⋯ J k.perm k.aG k.cn (λf d I t=>by
       rw[kZ ⋯ J,cV]at d;let⟨@i,am,a2,rfl⟩:=kH t;rw[d];exact ii i am)
      rw[kZ ⋯ J]at Q3;rw[oc];refine kq (λfd=>a8<|iU.a T<|ry Q3.1 Q3.2.1 Q3.2.2 fd first) λfd=>?_;refine a_ (fH L ?_);refine a_ (uJ bv (iN ca L) cd (Qv:=0) (k:=F-1) (b:=F-1-1) ⋯ ⋯ (λa i g e m=>nK Q3.2.2 e ⋯ ⋯) bs ?_);intro QW li fn im;dsimp only;generalize [y.getD (F-1) 0]++b=db at *;generalize lm:F-1=bi at *;generalize ln:bi-QW=eD;generalize bd:(List.map (a7 it) db.reverse).toArray=QU;generalize be:bi=i;have Qf:QU=(List.map (a7 it) db.reverse).toArray/\i=bi:=⟨bd.symm,be.symm⟩;clear bd be;revert QU i;refine uh (λQU i=>QU=(List.map (a7 it) db.reverse).toArray/\i=bi) (λQU i=>hn Q it u y QU a i/\i<=bi/\∀w,w<i->Q (y.getD w 0)<Q (u.getD (a-1) 0)) ?Qz ?f2 ?io
      case f2=>
       rintro hf QU i ⟨rfl,rfl⟩;exact⟨⟨_,rfl,Q3.1,Q3.2.1,Q3.2.2,H,⋯,D,⋯⟩,bf _,λw g=>fn w ⋯ ⋯⟩
      case io=>
       rintro j _ QU i ⟨rfl,rfl⟩;try dsimp only
       have P:=yu QW ⋯ (show i<=y.length by lia) Q3.1 Q3.2.1 Q3.2.2 (λf d I t=>by
        let⟨@w,hm,am,a2,rfl⟩:=A4 d;let⟨@cs,hw,h0,rfl⟩:=kH t;have:=im w ⋯ ⋯;have:=nK Q3.2.1 (show cs<=a-1 by lia) ⋯ ⋯;lia)
       rw[zM];refine kq (λfr=>a8<|iU.a T<|ry P.1 P.2.1 P.2.2 fr first) λfr=>?_;refine kq (λf0=>a8<|iU.a T<|ps P.1 P.2.1 P.2.2<|.inr f0) λf0=>?_;exact j _ _ ⟨⟨_,rfl,P.1,P.2.1,P.2.2,H,⋯,D,⋯⟩,⋯,λw g=>fn w ⋯ ⋯⟩
      case Qz=>
       rintro QU i ⟨⟨b,rfl,k⟩,ls,jp⟩;try dsimp only
       refine a_ (fH L ?_);have an:=rE (a-1) ⋯ D k.perm k.aG k.cn (λf d I t=>by
        rw[kZ H D,cV]at d;let⟨@w,am,a2,rfl⟩:=kH t;have:=jp w am;rw[d];lia)
       rw[kZ H D]at an;rw[oc];refine kq (λf4=>a8<|iU.a T<|ps an.1 an.2.1 an.2.2<|.inl f4) λf4=>?_;have S:hn Q it u y (([u.getD (a-1) 0]++b).reverse.map<|a7 it).toArray (a-1) i:=⟨_,rfl,an.1,an.2.1,an.2.2,⋯,k.i6,⋯,k.wu⟩;exact k2 (λ_=>a8 (iU.b T S ⋯)) λ_=>a8 (pv.k T S ⋯)
def OI{z:Type}{ay:gO}{C:PUnit->z->ah->Prop}{N a:z}{h:ah}(c:C ⟨⟩ a h):kasC ay O Qh (set a:StateT z dA PUnit) C N h:=by
 unfold kasC;rw[StateT.run_set];exact aR c
theorem vw{QG:Type}:∀(t:List QG) (b:List QG) (p e Ri:Nat),p+t.length<=b.length->p=Ri+e->((t.zipIdx e).foldl (λ(g:Array QG) (f:QG×Nat)=>g.setIfInBounds (Ri+f.2) f.1) b.toArray)=(b.take p++t++b.drop (p+t.length)).toArray
 |[],b,p,e,Ri,c,d=>by simp
 |f::t,b,p,e,Ri,c,d=>by
  rw[er]at c;rw[xI,lP];dsimp only;rw[<-d,Bl,vw t (b.set p f) (p+1) (e+1) Ri (by rw[x3];lia) ⋯];congr 1;have h:(b.set p f).take (p+1)=b.take p++[f]:=by
   apply pb;intro a;rw[mw,List.getElem?_append,f5,mw,AE];by_cases l:a<p
   ·rw[aE ⋯,aI ⋯,aE ⋯,aE l]
   ·by_cases D:a=p
    ·subst D;rw[aE ⋯,aE rfl,aE ⋯,aI ⋯];simp[show a-min a b.length=0 by lia]
    ·rw[aI ⋯,aI ⋯];rw[tB];rw[gq];lia
  have i:(b.set p f).drop (p+1+t.length)=b.drop (p+(t.length+1)):=by
   apply pb;intro a;rw[lI,lI,AE,aI ⋯];congr 1;lia
  rw[h,i,er,bz,bz,bz];rfl
def AF{c d b:List Nat}{n k:Nat}(q:cc Q c)(r:cc Q d)(v:0<d.length)(w:0<c.length)(l:∀f∈c.take n,Q f<=Q (d.getD 0 0))(s:∀f∈d.drop k,Q (c.getD (c.length-1) 0)<=Q f)(m:b.Perm (c.drop n++d.take k))(Rk:cc Q b):cc Q (c.take n++b++d.drop k)/\(c.take n++b++d.drop k).Perm (c++d):=by
 have o:∀I∈d,Q (d.getD 0 0)<=Q I:=λI g=>by
  let⟨@i,W,p,rfl⟩:=i7 (a:=0) (t:=d) (by rwa [kE]);exact nt r (fv _) p
 have u:∀f∈c,Q f<=Q (c.getD (c.length-1) 0):=λf e=>by
  let⟨@i,W,p,rfl⟩:=i7 (a:=0) (t:=c) (by rwa [kE]);exact nt q (by omega) (by omega)
 have h:cc Q (c.take n++c.drop n):=by rwa [fc]
 have j:cc Q (d.take k++d.drop k):=by rwa [fc]
 have h:=eV.mp h;have j:=eV.mp j;refine⟨eV.mpr ⟨eV.mpr ⟨h.1,Rk,λf e I g=>?_⟩,j.2.1,λf e I g=>?_⟩,?_⟩
 ·rcases dK.mp (m.mem_iff.mp g) with g|g
  ·exact h.2.2 f e I g
  ·exact uI (l f e) (o I<|nr g)
 ·rcases dK.mp e with e|e
  ·exact uI (l f e) (o I<|lX g)
  ·rcases dK.mp (m.mem_iff.mp e) with e|e
   ·exact uI (u f<|lX e) (s I g)
   ·exact j.2.2 f e I g
 ·refine (e8 _<|dT _ m).trans ?_;rw[<-bz,fc,bz,fc]
def IW(T:fs r Q (eK Ql x O QC it) h){j:List Nat}(G:∀f∈j,f<r){a aG z F bn fr:Nat}{N:br}(y:PyProof.Rows.kindOf N=QC)(f0:arrOf N=(j.map<|a7 it).toArray)(U:ho N=Y)(S:(hh N)[a]?=Z (aG,z,bn))(L:(hh N)[a+1]?=Z (aG+z,F,fr))(f1:0<z)(bs:0<F)(gt:aG+z+F<=j.length)(D:cc Q ((j.drop aG).take z))(E:cc Q ((j.drop<|aG+z).take F)){C:Bool->br->ah->Prop}(c:∀mid u,PyProof.Rows.kindOf u=QC->ho u=Y->hh u=((hh N).setIfInBounds a (aG,z+F,bn)).eraseIdxIfInBounds (a+1)->mid.Perm ((j.drop aG).take<|z+F)->cc Q mid->
   arrOf u=((j.take aG++mid++j.drop (aG+(z+F))).map<|a7 it).toArray->C X u h):
  kasC (aN Ql x) O Qh (rT a) C N h:=by
 have bv:((j.drop aG).take z).length=z:=by rw[f5,gb];lia
 have f2:((j.drop<|aG+z).take F).length=F:=by rw[f5,gb];lia
 have H:∀i,i<z->((j.drop aG).take z).getD i 0=j.getD (aG+i) 0:=λi L=>by simp[List.getD,mw,lI,L]
 have J:∀i,i<F->((j.drop<|aG+z).take F).getD i 0=j.getD (aG+z+i) 0:=λi L=>by simp[List.getD,mw,lI,L]
 have al:(j.drop aG).take z++(j.drop<|aG+z).take F=(j.drop aG).take (z+F):=by rw[<-mK,nC]
 have ca:j.take aG++(j.drop aG).take (z+F)++j.drop (aG+(z+F))=j:=by rw[nC,fc]
 have cd:∀a i,aG<=a->a<=i->i<aG+z->Q (j.getD a 0)<=Q (j.getD i 0):=λa i g e m=>by
  have:=nt D (a:=a-aG) (i:=i-aG) ⋯ ⋯
  rwa [H _ ⋯,H _ ⋯,show aG+(a-aG)=a by lia,show aG+(i-aG)=i by lia]at this
 have ce:∀a i,aG+z<=a->a<=i->i<aG+z+F->Q (j.getD a 0)<=Q (j.getD i 0):=λa i g e m=>by
  have:=nt E (a:=a-(aG+z)) (i:=i-(aG+z)) ⋯ ⋯
  rwa [J _ ⋯,J _ ⋯,show aG+z+(a-(aG+z))=a by lia,show aG+z+(i-(aG+z))=i by lia]at this
 have A:∀f∈(j.drop aG).take z,∃i,aG<=i/\i<aG+z/\f=j.getD i 0:=λf s=>by
  let⟨@i,M,v,rfl⟩:=oT s;exact⟨aG+i,⋯,⋯,rfl⟩
 have ch:∀f∈(j.drop<|aG+z).take F,∃i,aG+z<=i/\i<aG+z+F/\f=j.getD i 0:=λf s=>by
  let⟨@i,M,v,rfl⟩:=oT s;exact⟨aG+z+i,⋯,⋯,rfl⟩
 unfold rT;with_unfolding_all refine a_ (jw ?_);simp only[S,L,f0];refine a_ (OI ?_);refine a_ (fH (show aG+z<j.length by lia) ?_);refine a_ (wX T (iN G (show aG+z<j.length by lia)) G (Qv:=aG) (k:=z) (b:=0) ⋯ f1 cd (by exact y) ?_);intro n ci cl f8;dsimp only;by_cases co:z-n=0
 ·rw[aE ⇑co];refine a8 (c _ _ (by exact y) (by exact U) rfl (List.Perm.refl _) ?_ ?_)
  ·rw[<-al];refine eV.mpr ⟨D,E,λf s I am=>?_⟩;let⟨@i,v,ga,rfl⟩:=A f s;let⟨@an,cr,ap,rfl⟩:=ch I am;have:=cl i v ⋯;have:=ce (aG+z) an ⋯ cr ap;lia
  ·rw[ca]
 rw[aI ⇑co];rw[show aG+n+(z-n)-1=aG+z-1 by lia];refine a_ (fH (show aG+z-1<j.length by lia) ?_);refine a_ (uJ T (iN G (show aG+z-1<j.length by lia)) G (Qv:=aG+z) (k:=F) (b:=F-1) ⋯ ⋯ ce (by exact y) ?_);intro o as ge cs;dsimp only;by_cases db:o=0
 ·rw[aE ⇑db];refine a8 (c _ _ (by exact y) (by exact U) rfl (List.Perm.refl _) ?_ ?_)
  ·rw[<-al];refine eV.mpr ⟨D,E,λf s I am=>?_⟩;let⟨@i,v,ga,rfl⟩:=A f s;let⟨@an,cr,ap,rfl⟩:=ch I am;have:=cs an ⋯ ap;have:=cd i (aG+z-1) v ⋯ ⋯;lia
  ·rw[ca]
 rw[aI ⇑db];have gl:(j.map<|a7 it).toArray.extract (aG+n) (aG+z)=((((j.drop aG).take z).drop n).map<|a7 it).toArray:=by
  apply jM;simp only[zo,List.extract_eq_drop_take,iX,iJ];rw[qp,mK,show aG+z-(aG+n)=z-n by lia]
 have go:(j.map<|a7 it).toArray.extract (aG+z) (aG+z+o)=((((j.drop<|aG+z).take F).take o).map<|a7 it).toArray:=by
  apply jM;simp only[zo,List.extract_eq_drop_take,iX,iJ];rw[ru,qb as,show aG+z+o-(aG+z)=o by lia]
 rw[gl,go];have l:∀f∈((j.drop aG).take z).take n,Q f<=Q (((j.drop<|aG+z).take F).getD 0 0):=λf s=>by
  rw[J 0 bs];let⟨@i,M,v,rfl⟩:=kH s;rw[H i ⋯];exact cl _ ⋯ ⋯
 have ds:∀f∈((j.drop<|aG+z).take F).drop o,Q (((j.drop aG).take z).getD (((j.drop aG).take z).length-1) 0)<=Q f:=λf s=>by
  rw[bv,H _ ⋯];let⟨@i,M,v,rfl⟩:=i7 s;rw[J i ⋯,show aG+(z-1)=aG+z-1 by lia];exact cs _ ⋯ ⋯
 have dL:∀f∈((j.drop aG).take z).drop n,Q ((((j.drop<|aG+z).take F).take o).getD 0 0)<=Q f:=λf s=>by
  rw[show (((j.drop<|aG+z).take F).take o).getD 0 0=((j.drop<|aG+z).take F).getD 0 0 by simp only[List.getD,mw,aE (show 0<o by lia)],J 0 bs];let⟨@i,M,v,rfl⟩:=i7 s;rw[H i ⋯];have:=f8 (aG+i) ⋯ ⋯;rw[Bc];lia
 have bh:(((j.drop aG).take z).drop n).length=z-n:=by rw[gb,bv]
 have eq:(((j.drop<|aG+z).take F).take o).length=o:=by rw[f5,f2];lia
 have ev:∀f∈((j.drop<|aG+z).take F).take o,Q f<=Q ((((j.drop aG).take z).drop n).getD ((((j.drop aG).take z).drop n).length-1) 0):=λf s=>by
  rw[bh,show (((j.drop aG).take z).drop n).getD (z-n-1) 0=((j.drop aG).take z).getD (z-1) 0 by simp only[List.getD,lI,show n+(z-n-1)=z-1 by lia],H _ ⋯,show aG+(z-1)=aG+z-1 by lia];let⟨@i,M,v,rfl⟩:=kH s;rw[J i ⋯];have:=ge (aG+z+i) ⋯ ⋯;lia
 have ex:∀f∈((j.drop aG).take z).drop n,f<r:=λf s=>G f (lX<|nr<|lX s);have fd:∀f∈((j.drop<|aG+z).take F).take o,f<r:=λf s=>G f (lX<|nr<|nr s);by_cases fn:z-n<=o
 ·rw[aE fn];refine a_ (NY T ex fd (D.sublist<|tG _ _) (E.sublist<|pM _ _) ⋯ ⋯ dL ev (by exact y) ?_);intro out u a1 w;let⟨@b,rfl,P,a2⟩:=a1;have R:=AF (Q:=Q) D E ⋯ ⋯ l ds P a2;refine a_ (kd ?_);refine a_ (jw ?_);refine a8 ?_;have d:ho u=Y:=w.f.trans U;show C (ho u).isNone _ h;rw[d];refine c (((j.drop aG).take z).take n++b++((j.drop<|aG+z).take F).drop o) _ (w.k.trans y) (by first|rfl|exact d) (by exact w.p) (by rw[<-al];exact R.2) R.1 ?_;have bd:arrOf u=(j.map<|a7 it).toArray:=w.a;have bg:b.length=z-n+o:=by rw[P.length_eq,dF,bh,eq]
  have be:=vw (b.map<|a7 it) (j.map<|a7 it) (aG+n) 0 (aG+n) (by rw[bq,bq,bg];lia) rfl;show List.foldl (λg f=>g.setIfInBounds (aG+n+f.2) f.1) (arrOf u) (b.map<|a7 it).toArray.toList.zipIdx=_;rw[bd];refine be.trans ?_;rw[bq,bg,<-iJ,<-iX,<-fp,<-fp];congr 2;have bi:j.take (aG+n)=j.take aG++((j.drop aG).take z).take n:=by
   rw[ru,qb ci,nC]
  have bm:j.drop (aG+n+(z-n+o))=((j.drop<|aG+z).take F).drop o++j.drop (aG+(z+F)):=by
   have:=xj (t:=j.drop (aG+z)) (a:=o) (i:=F) as (by rw[gb];lia);rw[mK,mK]at this;rw[show aG+n+(z-n+o)=aG+z+o by lia,this,show aG+z+F=aG+(z+F) by lia]
  rw[bi,bm];simp only[bz]
 ·rw[aI fn];refine a_ (OQ T ex fd (D.sublist<|tG _ _) (E.sublist<|pM _ _) ⋯ ⋯ dL ev (by exact y) ?_);intro out u a1 w;let⟨@b,rfl,P,a2⟩:=a1;have R:=AF (Q:=Q) D E ⋯ ⋯ l ds P a2;refine a_ (kd ?_);refine a_ (jw ?_);refine a8 ?_;have d:ho u=Y:=w.f.trans U;show C (ho u).isNone _ h;rw[d];refine c (((j.drop aG).take z).take n++b++((j.drop<|aG+z).take F).drop o) _ (w.k.trans y) (by first|rfl|exact d) (by exact w.p) (by rw[<-al];exact R.2) R.1 ?_;have bd:arrOf u=(j.map<|a7 it).toArray:=w.a;have bg:b.length=z-n+o:=by rw[P.length_eq,dF,bh,eq]
  have be:=vw (b.map<|a7 it) (j.map<|a7 it) (aG+n) 0 (aG+n) (by rw[bq,bq,bg];lia) rfl;show List.foldl (λg f=>g.setIfInBounds (aG+n+f.2) f.1) (arrOf u) (b.map<|a7 it).toArray.toList.zipIdx=_;rw[bd];refine be.trans ?_;rw[bq,bg,<-iJ,<-iX,<-fp,<-fp];congr 2;have bi:j.take (aG+n)=j.take aG++((j.drop aG).take z).take n:=by
   rw[ru,qb ci,nC]
  have bm:j.drop (aG+n+(z-n+o))=((j.drop<|aG+z).take F).drop o++j.drop (aG+(z+F)):=by
   have:=xj (t:=j.drop (aG+z)) (a:=o) (i:=F) as (by rw[gb];lia);rw[mK,mK]at this;rw[show aG+n+(z-n+o)=aG+z+o by lia,this,show aG+z+F=aG+(z+F) by lia]
  rw[bi,bm];simp only[bz]
end
section
variable{Ql:bA}{x:bc}{O:bj}{Qh:ae->ah->Prop}{QC:fZ}{it:Array a9}{Q:Nat->Int}{r:Nat}{h:ah}{o:Array (Nat×Nat×Nat)}
structure eh(QC:fZ)(it:Array a9)(o:Array (Nat×Nat×Nat))(N:br)(p:Array Nat):Prop where
 k:PyProof.Rows.kindOf N=QC
 a:arrOf N=p.map (a7 it)
 p:hh N=o
 f:ho N=Y
def qf(f:fs r Q (eK Ql x O QC it) h){q:Array Nat}(b:cM r q){a i:Nat}(S:a<r)(d:i<r){N:br}(j:eh QC it o N q){C:Option Bool->br->ah->Prop}(c:C (Z<|decide (a4 Q q a<a4 Q q i)) N h):
  kasC (aN Ql x) O Qh (m8 a i) C N h:=by
 have e:∀a,a<r->(q.map<|a7 it)[a]?=Z (a7 it<|q.getD a 0):=λa S=>by
  have:a<q.size:=by rw[b.size];exact S
  simp[Array.getD,this]
 rw[ltAt'_eq];refine a_ (jw ?_);rw[j.a];dsimp only;rw[sO,sO,e a S,e i d];refine a_ (a8 ?_);refine a_ (a8 ?_);exact pq f (b.lt S) (b.lt d) j.k c
variable{q:Array Nat}{N:br}
def tJ(j:eh QC it o N q){a i:Nat}{C:Unit->br->ah->Prop}(c:∀b,eh QC it o b (lb q a i)->C () b h):kasC (aN Ql x) O Qh (q5 a i) C N h:=by
 rw[reverseSlice'_eq];refine kd (c _ ⟨j.k,?_,j.p,j.f⟩);show mirror (arrOf N) a i ((i-a)/2)=_;rw[j.a];exact AM (a7 it) (λn=>a+n) (λn=>i-1-n) _ q
def Hx(j:eh QC it o N q){a i:Nat}{C:Unit->br->ah->Prop}(c:∀b,eh QC it o b (p7 q a<|a-i)->C () b h):kasC (aN Ql x) O Qh (moveDown' a i) C N h:=by
 rw[moveDown'_eq];refine kd (c _ ⟨j.k,?_,j.p,j.f⟩);show p7 (arrOf N) a (a-i)=_;rw[j.a];exact AM (a7 it) (λn=>a-n) (λn=>a-n-1) _ q
theorem ri{z Q9:Type}{ay:gO}{B:Nat->Q9->StateT z dA (ForInStep Q9)}{C:Q9->z->ah->Prop}(E:Nat->Q9->z->ah->Prop)(QA:Nat)(step:∀f m N Qd,f<QA->E f m N Qd->kasC ay O Qh (B f m) (λs b e=>match s with | .yield a=>E (f+1) a b e | .done a=>C a b e) N Qd):∀(k g:Nat) (m:Q9) (N:z) (Qd:ah),g+k<=QA->(∀m N Qd,E (g+k) m N Qd->C m N Qd)->E g m N Qd->
   kasC ay O Qh (forIn (range' g k) m B) C N Qd
 |0,g,m,N,Qd,i,h,c=>by
  show kasC ay O Qh (forIn ([]:List Nat) m B) C N Qd;exact kasC_nil (h m N Qd c)
 |k+1,g,m,N,Qd,i,h,c=>by
  show kasC ay O Qh (forIn (g::range' (g+1) k) m B) C N Qd;refine kasC_cons (gS (step g m N Qd ⋯ c) (λs e T=>?_) λ_ W d=>d);let⟨s,b⟩:=s;cases s with
  |done a=>exact T
  |yield a=>exact ri E QA step k (g+1) a b e ⋯ (λm N Qd S=>h m N Qd (by rw[show g+(k+1)=g+1+k by lia];exact S)) T
end
section
variable{Ql:bA}{x:bc}{O:bj}{Qh:ae->ah->Prop}{QC:fZ}{it:Array a9}{Q:Nat->Int}{r:Nat}{h:ah}{o:Array (Nat×Nat×Nat)}
def g4(Q:Nat->Int)(q:Array Nat)(R k:Nat):Prop:=(∀a i,R<=a->a<=i->i<R+k->a4 Q q a<=a4 Q q i)
def CA{q:Array Nat}{R k:Nat}(c:∀i,R+1<=i->i<R+k->a4 Q q (i-1)<=a4 Q q i):g4 Q q R k:=by
 intro a i S b d;obtain⟨v,rfl⟩:∃v,i=a+v:=⟨i-a,⋯⟩;clear b;induction v with
 |zero=>exact kW _
 |succ v f=>
  have g:=f ⋯;have e:=c (a+(v+1)) ⋯ d;rw[show a+(v+1)-1=a+v by lia]at e;lia
def H8(al:fs r Q (eK Ql x O QC it) h){q:Array Nat}(am:cM r q){R k u:Nat}(bi:R+k<=r)(l:1<=u)(bm:u<=k)(up:g4 Q q R u){N:br}(j:eh QC it o N q){C:Bool->br->ah->Prop}(c:∀w b,cM r w->eh QC it o b w->(∀a,a<R->w[a]?=q[a]?)->g4 Q w R k->C X b h):
  kasC (aN Ql x) O Qh (binarySort' R k u) C N h:=by
 rw[binarySort'_eq];rw[show max u 1=u by lia];with_unfolding_all refine a_ (gZ (a:=λm b Qd=>h=Qd/\m=(Y,())/\∃p,cM r p/\eh QC it o b p/\(∀a,a<R->p[a]?=q[a]?)/\g4 Q p R k)
  (fj (ri (λf m b Qd=>h=Qd/\m=(Y,())/\1<=f/\∃p,cM r p/\eh QC it o b p/\(∀a,a<R->p[a]?=q[a]?)/\g4 Q p R f) k ?step _ _ _ _ _ ⋯ ?fin ⟨rfl,rfl,l,q,am,j,λ_ W=>rfl,up⟩)) ?after)
 case after=>
  rintro m b Qd ⟨rfl,rfl,p,A,B,D,z⟩;exact a8 (c p _ A B D z)
 case fin=>
  rintro m b Qd ⟨rfl,rfl,bn,p,A,B,D,z⟩;rw[show u+(k-u)=k by lia]at z;exact⟨rfl,rfl,p,A,B,D,z⟩
 case step=>
  rintro n m b Qd bs ⟨rfl,rfl,QN,p,E,F,ap,up⟩;dsimp only;have as:∀a,R<=a->a<R+0->a4 Q p a<=a4 Q p (R+n):=λa g e=>⋯
  have a1:∀a,R+n<=a->a<R+n->a4 Q p (R+n)<=a4 Q p a:=λa g e=>⋯
  refine a_ (gZ (a:=λm v Qd=>h=Qd/\b=v/\∃t s,m=(Y,t,s)/\t<=n/\(∀a,R<=a->a<R+t->a4 Q p a<=a4 Q p (R+n))/\(∀a,R+t<=a->a<R+n->a4 Q p (R+n)<=a4 Q p a))
   (fj (ri (λf m v Qd=>h=Qd/\b=v/\∃t s,m=(Y,t,s)/\t<=s/\s<=n/\s-t<=n-f/\(∀a,R<=a->a<R+t->a4 Q p a<=a4 Q p (R+n))/\(∀a,R+s<=a->a<R+n->a4 Q p (R+n)<=a4 Q p a)) n ?s2 _ _ _ _ _ ⋯ ?f2 ⟨rfl,rfl,0,n,rfl,⋯,⋯,⋯,as,a1⟩)) ?a2)
  case f2=>
   rintro m v Qd ⟨rfl,rfl,t,s,rfl,dR,dc,pf,ks,lB⟩;exact⟨rfl,rfl,t,s,rfl,⋯,ks,λa f I=>lB a ⋯ I⟩
  case s2=>
   rintro f m v Qd bv ⟨rfl,rfl,t,s,rfl,dR,dc,pf,ks,lB⟩;dsimp only;by_cases d:t >= s
   ·rw[aE d];exact a8 ⟨rfl,rfl,t,s,rfl,⋯,ks,λa f I=>lB a ⋯ I⟩
   rw[aI d];have G:t<=(t+s)/2:=⋯
   have bd:(t+s)/2<s:=⋯
   have H:(t+s)/2-t<=n-(f+1):=⋯
   have J:s-((t+s)/2+1)<=n-(f+1):=⋯
   generalize (t+s)/2=mid at G bd H J ⊢;refine a_ (qf al E ⋯ ⋯ F ?_);dsimp only;by_cases L:a4 Q p (R+n)<a4 Q p (R+mid)
   ·rw[aE ⇑L];refine a8 ⟨rfl,rfl,t,mid,rfl,G,⋯,H,ks,λa f I=>?_⟩;have:=up (R+mid) a ⋯ f I;lia
   ·rw[aI ⇑L];refine a8 ⟨rfl,rfl,mid+1,s,rfl,⋯,dc,J,λa f I=>?_,lB⟩;have:=up a (R+mid) f ⋯ ⋯;lia
  case a2=>
   rintro m v Qd ⟨rfl,rfl,t,s,rfl,dR,ks,lB⟩;dsimp only;refine a_ (Hx F ?_);intro ca be;have M:∀a,(p7 p (R+n)<|R+n-(R+t))[a]?=if a=R+t then p[R+n]? else if R+t<a/\a<=R+n then p[a-1]? else p[a]?:=λa=>by
    have:=getElem?_bubble (xs:=p) (src:=R+n) (by rw[E.size];lia) (R+n-(R+t)) ⋯ a
    rwa [show R+n-(R+n-(R+t))=R+t by lia]at this
   have aX:∀a,a4 Q (p7 p (R+n)<|R+n-(R+t)) a=if a=R+t then a4 Q p (R+n) else if R+t<a/\a<=R+n then a4 Q p (a-1) else a4 Q p a:=λa=>by
    have M:=M a;by_cases d:a=R+t
    ·rw[aE d]at M ⊢;exact lK M
    ·rw[aI d]at M ⊢;by_cases P:R+t<a/\a<=R+n
     ·rw[aE P]at M ⊢;exact lK M
     ·rw[aI P]at M ⊢;exact lK M
   refine a8 ⟨rfl,rfl,⋯,_,E.II _ _,be,λa S=>by rw[M,aI ⋯,aI ⋯];exact ap a S,CA λi f I=>?_⟩;rw[aX,aX];by_cases T:i-1=R+t
   ·rw[aE T,aI ⋯,aE ⋯];exact lB (i-1) ⋯ ⋯
   ·rw[aI T];by_cases U:i=R+t
    ·rw[aE U,aI ⋯];exact ks (i-1) ⋯ ⋯
    ·rw[aI U];by_cases ce:R+t<i-1
     ·rw[aE ⋯,aE ⋯];exact up _ _ ⋯ ⋯ ⋯
     ·rw[aI ⋯,aI ⋯];exact up _ _ ⋯ ⋯ ⋯
def dY(Q:Nat->Int)(q:Array Nat):Nat->List (Nat×Nat×Nat)->Nat->Prop
 |g,[],e=>g=e
 |g,(f,t,_)::w,e=>f=g/\0<t/\g4 Q q f t/\dY Q q (g+t) w e
variable{q:Array Nat}
theorem dY.le:∀{w:List (Nat×Nat×Nat)}{g e:Nat},dY Q q g w e->g+w.length<=e
 |[],g,e,c=>by rw[show e=g from c.symm];exact bf _
 | (f,t,_)::w,g,e,c=>by
  have:=c.2.2.2.le;have:=c.2.1;rw[er];lia
theorem dY.congr{p:Array Nat}:∀{w:List (Nat×Nat×Nat)}{g e:Nat},dY Q q g w e->(∀a,g<=a->a<e->a4 Q p a=a4 Q q a)->dY Q p g w e
 |[],g,e,c,_=>c
 | (f,t,_)::w,g,e,c,M=>by
  have:=c.2.2.2.le;let@⟨rfl,D,b,d⟩:=c;refine⟨rfl,D,λa i S h j=>?_,d.congr λa g e=>M a ⋯ e⟩;rw[M a S ⋯,M i ⋯ ⋯];exact b a i S h j
theorem dY.app{q:Array Nat}:∀{w L:List (Nat×Nat×Nat)}{g e:Nat},dY Q q g (w++L) e↔∃m,dY Q q g w m/\dY Q q m L e
 |[],L,g,e=>⟨λc=>⟨g,rfl,c⟩,λ⟨m,d,c⟩=>by rw[show g=m from d];exact c⟩
 | (f,t,H)::w,L,g,e=>by
  show (f=g/\0<t/\g4 Q q f t/\dY Q q (g+t) (w++L) e)↔_;rw[dY.app];constructor
  ·rintro⟨l,D,a,m,b,h⟩;exact⟨m,⟨l,D,a,b⟩,h⟩
  ·rintro⟨m,⟨l,D,a,b⟩,h⟩;exact⟨l,D,a,m,b,h⟩
def Na{QG:Type}{t:List QG}{a:Nat}(c:a+1<t.length):∃aZ f I bh,t=aZ++f::I::bh/\aZ.length=a:=by
 refine⟨t.take a,t[a]'⋯,t[a+1],t.drop<|a+2,?_,by rw[f5];lia⟩;have b:=i2 (l:=t) (i:=a) ⋯;have d:=i2 (l:=t) (i:=a+1) c;rw[<-d,<-b,fc]
def tg(t:List Nat)(a:Nat):a4 Q t.toArray a=Q (t.getD a 0):=by unfold a4;rw[k3]
def zJ(L:fs r Q (eK Ql x O QC it) h){q:Array Nat}(A:cM r q){N:br}(j:eh QC it o N q){R a:Nat}(S:a+1<o.size)(Qg:dY Q q 0 o.toList R)(ci:R<=r){C:Bool->br->ah->Prop}(c:∀E s u,cM r s->eh QC it E u s->E.size+1=o.size->dY Q s 0 E.toList R->(∀a,R<=a->a4 Q s a=a4 Q q a)->C X u h):kasC (aN Ql x) O Qh (rT a) C N h:=by
 let⟨aZ,⟨aG,z,b⟩,⟨cn,F,v⟩,@bh,d,rfl⟩:=Na (t:=o.toList) (a:=a) ⇑S;rw[d]at Qg;let⟨@m,M,rfl,P,T,rfl,U,al,bQ⟩:=dY.app.mp Qg;have dc:=bQ.le;have w:o=(aZ++(aG,z,b)::(aG+z,F,v)::bh).toArray:=by rw[<-d]
 have am:q.size=r:=A.size;have an:∀f∈q.toList,f<r:=λf ap=>eX.mp (A.mem_iff.mp ap);have y:∀a,a4 Q q a=Q (q.toList.getD a 0):=λa=>tg q.toList a;have bg:q.toList.length=r:=by rw[di,am]
 have G:∀g k,g+k<=r->g4 Q q g k->cc Q ((q.toList.drop g).take k):=λg k cl c=>by
  refine me.mpr λa i S as co=>?_;have a1:=S;have a2:=as;rw[f5,gb,bg]at a1 a2;have:=c (g+a) (g+i) ⋯ ⋯ ⋯;rw[y,y]at this;rw[sd,ot,sd,ot];rw[cx,cx,eb ⋯,eb ⋯]at this;exact this
 refine IW L (j:=q.toList) an (a:=aZ.length) (aG:=aG) (z:=z) (F:=F) (bn:=b) (fr:=v) j.k (by rw[j.a];apply jM;simp) j.f (by rw[j.p,w];simp) (by rw[j.p,w];simp) P U ⋯ (G _ _ ⋯ T) (G _ _ ⋯ al) ?_;intro mid u QN bd be H bi bm;have bn:mid.length=z+F:=by rw[H.length_eq,f5,gb,bg];lia
 have bs:q.toList.take aG++(q.toList.drop aG).take (z+F)++q.toList.drop (aG+(z+F))=q.toList:=by rw[nC,fc]
 have bv:cM r (q.toList.take aG++mid++q.toList.drop (aG+(z+F))).toArray:=by
  show (q.toList.take aG++mid++q.toList.drop (aG+(z+F))).Perm (range r);refine List.Perm.trans (e8 _<|dT _ H) ?_;rw[bs];exact A
 have Rr:(q.toList.take aG).length=aG:=by rw[f5,bg];lia
 have ca:∀a,a<aG->a4 Q (q.toList.take aG++mid++q.toList.drop (aG+(z+F))).toArray a=a4 Q q a:=λa S=>by
  rw[tg,y];congr 1;rw[cx,cx,bz,ij ⋯,mw,aE S]
 have I:∀a,aG+(z+F)<=a->a4 Q (q.toList.take aG++mid++q.toList.drop (aG+(z+F))).toArray a=a4 Q q a:=λa S=>by
  rw[tg,y];congr 1;rw[cx,cx,jo (by rw[dF];lia),lI,dF,Rr,bn];congr 2;lia
 have J:∀a,aG<=a->a<aG+(z+F)->a4 Q (q.toList.take aG++mid++q.toList.drop (aG+(z+F))).toArray a=Q (mid.getD (a-aG) 0):=λa l D=>by
  rw[tg];congr 1;rw[cx,cx,bz,jo ⋯,Rr,ij ⋯]
 have cd:((aZ++(aG,z,b)::(aG+z,F,v)::bh).toArray.setIfInBounds aZ.length (aG,z+F,b)).eraseIdxIfInBounds (aZ.length+1)=(aZ++(aG,z+F,b)::bh).toArray:=by
  rw[Bl,List.set_append_right _ _<|bf _,sA,List.set_cons_zero];rw[u0,List.eraseIdx_append_of_length_le ⋯,show aZ.length+1-aZ.length=1 by lia];rfl
 refine c ((aZ++(aG,z+F,b)::bh).toArray) _ u bv ⟨QN,by rw[bm];apply jM;simp,by rw[be,j.p,w,cd],bd⟩ (by rw[w];simp;lia) ?_ (λa S=>I a ⋯);have ce:dY Q q (aG+(z+F)) bh R:=by rw[<-qx];exact bQ
 refine dY.app.mpr ⟨aG,M.congr λa W e=>ca a e,rfl,⋯,λa i l D ch=>?_,ce.congr λa g e=>I a g⟩
 ·rw[J a l ⋯,J i ⋯ ch];exact nt bi ⋯ ⋯
end
section
variable{Ql:bA}{x:bc}{O:bj}{Qh:ae->ah->Prop}{QC:fZ}{it:Array a9}{Q:Nat->Int}{r:Nat}{h:ah}{o:Array (Nat×Nat×Nat)}
variable{p:Array Nat}
def r_(b:cM r p){a i:Nat}(c:i<=r)(n:Nat):(lb p a i)[n]?=if a<=n/\n<i then p[a+i-1-n]? else p[n]?:=by
 unfold lb;rw[getElem?_mirror_all (by rw[b.size];lia)]
def HJ(b:cM r p){a i:Nat}(e:i<=r)(d:∀n,a<=n->n<i->a4 Q p n=a4 Q p a)(n:Nat):a4 Q (lb p a i) n=a4 Q p n:=by
 by_cases c:a<=n/\n<i
 ·rw[lK (show (lb p a i)[n]?=p[a+i-1-n]? by rw[r_ b e,aE c]),d _ ⋯ ⋯,d n c.1 c.2]
 ·exact lK (by rw[r_ b e,aI c])
structure lE(Q:Nat->Int)(r R:Nat)(q p:Array Nat):Prop where
 l1:cM r p
 be:∀a,a<R->p[a]?=q[a]?
 aX:∀n,a4 Q p n=a4 Q q n
def lE.rev{R:Nat}{q:Array Nat}(Qo:lE Q r R q p){a i:Nat}(S:R<=a)(b:i<=r)(d:∀n,a<=n->n<i->a4 Q q n=a4 Q q a):lE Q r R q (lb p a i):=
 ⟨Qo.l1.rev a i,λn c=>by rw[r_ Qo.l1 b,aI ⋯];exact Qo.be n c,λn=>by
  rw[HJ Qo.l1 b (λn g e=>by rw[Qo.aX,Qo.aX];exact d n g e)];exact Qo.aX n⟩
theorem Ec{B:Nat->Int}{g e:Nat}(c:∀i,g+1<=i->i<e->B i=B (i-1)):∀v,g+v<e->B (g+v)=B g
 |0,_=>rfl
 |v+1,a=>(c (g+(v+1)) ⋯ a).trans (Ec c v ⋯)
def DH(n:fs r Q (eK Ql x O QC it) h){R a:Nat}(w:R+a<=r){p:Array Nat}{e:br}{g:Nat}(q:cM r p)(Qm:eh QC it o e p)(y:1<=g)(z:g<=a)(t:∀i,R+1<=i->i<R+g->a4 Q p (i-1)<=a4 Q p i):
   kasC (aN Ql x) O Qh (forIn [g:a] ((Y:Option (Option Nat)),g) λf m=>m8 (R+m.2) (R+m.2-1) >>= λs=>match s with
    |some u=>if u=X then pure (ForInStep.done (Y,m.2)) else pure (ForInStep.yield (Y,m.2+1))
    |f=>pure<|ForInStep.done (Z Y,m.2))
    (λm b Qd=>h=Qd/\e=b/\∃k,m=(Y,k)/\g<=k/\k<=a/\(∀i,R+1<=i->i<R+k->a4 Q p (i-1)<=a4 Q p i)/\(k=a\/a4 Q p (R+k)<a4 Q p (R+k-1))) e h:=by
 refine fj (ri (λf m b Qd=>h=Qd/\e=b/\m=(Y,f)/\g<=f/\∀i,R+1<=i->i<R+f->a4 Q p (i-1)<=a4 Q p i) a ?_ _ _ _ _ _ ⋯ ?_ ⟨rfl,rfl,rfl,bf _,t⟩)
 ·rintro f m b Qd A ⟨rfl,rfl,rfl,l,c⟩;dsimp only;refine a_ (qf n q ⋯ ⋯ Qm ?_);dsimp only;by_cases j:a4 Q p (R+f)<a4 Q p (R+f-1)
  ·rw[aE ⇑j];exact a8 ⟨rfl,rfl,f,rfl,l,⋯,c,.inr j⟩
  ·rw[aI ⇑j];refine a8 ⟨rfl,rfl,rfl,⋯,λi v B=>?_⟩;by_cases d:i=R+f
   ·subst d;lia
   ·exact c i v ⋯
 ·rintro m b Qd ⟨rfl,rfl,rfl,l,c⟩;rw[show g+(a-g)=a by lia]at c ⊢;exact⟨rfl,rfl,a,rfl,⋯,bf _,c,.inl rfl⟩
def sH(R a k:Nat): StateT br dA (Option Nat):=(q5 R (R+k) >>= λ_ => (forIn [k:a] ((Y:Option (Option Nat)),k) λf m => m8 (R+m.2) (R+m.2-1) >>= λs => match s with
    |some b => if b=X then pure (ForInStep.done (Y,m.2)) else pure (ForInStep.yield (Y,m.2+1))
    |f => pure<|ForInStep.done (Z Y,m.2)) >>= λm => match m.1 with
    |some s => pure s
    |none => pure (Z m.2))
def yJ(R f:Nat)(m:Option (Option Nat)×Nat×Nat):StateT br dA (ForInStep<|Option (Option Nat)×Nat×Nat):=(m8 (R+m.2.1) (R+m.2.1-1) >>= λs=>match s with
 |some a=>if a=X then (if m.2.2>0 then q5 (R+m.2.1-(m.2.2+1)) (R+m.2.1) >>= λ_=>pure (.yield (Y,m.2.1+1,0)) else pure (.yield (Y,m.2.1+1,0)))
  else m8 (R+m.2.1-1) (R+m.2.1) >>= λs=>match s with
   |some b=>if b=X then pure (.done (Y,m.2.1,m.2.2)) else pure (.yield (Y,m.2.1+1,m.2.2+1))
   |f=>pure (.done (Z Y,m.2.1,m.2.2))
 |f=>pure (.done (Z Y,m.2.1,m.2.2)))
def tv(R a k:Nat):StateT br dA (Option Nat):=(liftM (PySem.rule "list.sort.descending-run") >>= λ_=>forIn [k+1:a] ((Y:Option (Option Nat)),k+1,0) (yJ R) >>= λm=>match m.1 with
 |some s=>pure s
 |none=>if m.2.2>0 then q5 (R+m.2.1-(m.2.2+1)) (R+m.2.1) >>= λ_=>sH R a m.2.1 else sH R a m.2.1)
def Es(l:fs r Q (eK Ql x O QC it) h){R d k:Nat}(n:R+d<=r){q p:Array Nat}{N:br}(Qo:lE Q r R q p)(j:eh QC it o N p)(s:1<=k)(t:k<=d)(u:∀i,R+1<=i->i<R+k->a4 Q q i<=a4 Q q (i-1)){C:Option Nat->br->ah->Prop}(c:∀k b f,1<=k->k<=d->cM r b->eh QC it o f b->(∀a,a<R->b[a]?=q[a]?)->(∀i,R+1<=i->i<R+k->a4 Q b (i-1)<=a4 Q b i)->C (Z k) f h):kasC (aN Ql x) O Qh (sH R d k) C N h:=by
 unfold sH;refine a_ (tJ j λz Qz=>?_);have M:=r_ Qo.l1 (a:=R) (i:=R+k) ⋯;have aX:∀a,R<=a->a<R+k->a4 Q (lb p R<|R+k) a=a4 Q q (R+(R+k)-1-a):=λa g e=>(lK (by rw[M,aE ⟨g,e⟩])).trans (Qo.aX _);refine a_ (gZ (DH l n (Qo.l1.rev R<|R+k) Qz s t λi A B=>?_) ?_)
 ·rw[aX _ ⋯ ⋯,aX _ ⋯ ⋯];have:=u (R+(R+k)-1-(i-1)) ⋯ ⋯;rw[show R+(R+k)-1-(i-1)-1=R+(R+k)-1-i by lia]at this;exact this
 ·rintro m f Qd ⟨rfl,rfl,v,rfl,D,w,y,E⟩;dsimp only;exact a8 (c v _ _ ⋯ w (Qo.l1.rev R<|R+k) Qz (λa S=>by rw[M,aI ⋯];exact Qo.be a S) y)
def B7(D:fs r Q (eK Ql x O QC it) h){R s k:Nat}(H:R+s<=r){q p:Array Nat}{N:br}(Qo:lE Q r R q p)(j:eh QC it o N p)(am:1<=k)(an:k<s)(S:∀i,R+1<=i->i<R+(k+1)->a4 Q q i<=a4 Q q (i-1)){C:Option Nat->br->ah->Prop}(c:∀k A t,1<=k->k<=s->cM r A->eh QC it o t A->(∀a,a<R->A[a]?=q[a]?)->(∀i,R+1<=i->i<R+k->a4 Q A (i-1)<=a4 Q A i)->C (Z k) t h):kasC (aN Ql x) O Qh (tv R s k) C N h:=by
 have aQ:∀{f v:Nat},v+1<=f->(∀i,R+f-v<=i->i<R+f->a4 Q q i=a4 Q q (i-1))->∀n,R+f-(v+1)<=n->n<R+f->a4 Q q n=a4 Q q (R+f-(v+1)):=λ{f v} y d n g e=>by
  have:=Ec (B:=a4 Q q) (g:=R+f-(v+1)) (e:=R+f) (λi f I=>d i ⋯ I) (n-(R+f-(v+1))) ⋯
  rwa [show R+f-(v+1)+(n-(R+f-(v+1)))=n by lia]at this
 unfold tv;refine a_ (m1<|i5 ?_);refine a_ (gZ (a:=λm t Qd=>h=Qd/\∃l f v,m=(Y,f,v)/\eh QC it o t l/\lE Q r R q l/\k+1<=f/\f<=s/\v+1<=f/\(∀i,R+1<=i->i<R+f->a4 Q q i<=a4 Q q (i-1))/\∀i,R+f-v<=i->i<R+f->a4 Q q i=a4 Q q (i-1))
  (fj (ri (λf m t Qd=>h=Qd/\∃l v,m=(Y,f,v)/\eh QC it o t l/\lE Q r R q l/\k+1<=f/\v+1<=f/\(∀i,R+1<=i->i<R+f->a4 Q q i<=a4 Q q (i-1))/\∀i,R+f-v<=i->i<R+f->a4 Q q i=a4 Q q (i-1)) s ?QZ _ _ _ _ _ ⋯ ?Q2 ⟨rfl,p,0,rfl,j,Qo,bf _,⋯,S,λi g e=>⋯⟩)) ?T)
 case QZ=>
  rintro f m t Qd as ⟨rfl,l,v,rfl,F,b,E,z,u,w⟩;unfold yJ;dsimp only;refine a_ (qf D b.l1 ⋯ ⋯ F ?_);dsimp only;rw[b.aX,b.aX];by_cases J:a4 Q q (R+f)<a4 Q q (R+f-1)
  ·rw[aE ⇑J];have L:∀i,R+1<=i->i<R+(f+1)->a4 Q q i<=a4 Q q (i-1):=λi G U=>by
    by_cases d:i=R+f
    ·subst d;lia
    ·exact u i G ⋯
   by_cases y:v>0
   ·rw[aE y];refine a_ (tJ F λal Qz=>?_);exact a8 ⟨rfl,_,0,rfl,Qz,b.rev ⋯ ⋯<|aQ z w,⋯,⋯,L,λi g e=>⋯⟩
   ·rw[aI y];exact a8 ⟨rfl,l,0,rfl,F,b,⋯,⋯,L,λi g e=>⋯⟩
  ·rw[aI ⇑J];refine a_ (qf D b.l1 ⋯ ⋯ F ?_);dsimp only;rw[b.aX,b.aX];by_cases M:a4 Q q (R+f-1)<a4 Q q (R+f)
   ·rw[aE ⇑M];exact a8 ⟨rfl,l,f,v,rfl,F,b,E,⋯,z,u,w⟩
   ·rw[aI ⇑M];refine a8 ⟨rfl,l,v+1,rfl,F,b,⋯,⋯,λi G U=>?_,λi g e=>?_⟩
    ·by_cases d:i=R+f
     ·subst d;lia
     ·exact u i G ⋯
    ·by_cases d:i=R+f
     ·subst d;lia
     ·exact w i ⋯ ⋯
 case Q2=>
  rintro m t Qd ⟨rfl,l,v,rfl,F,b,E,z,u,w⟩;rw[show k+1+(s-(k+1))=s by lia] at *;exact⟨rfl,l,s,v,rfl,F,b,E,bf _,z,u,w⟩
 case T=>
  rintro m t Qd ⟨rfl,l,f,v,rfl,F,b,E,P,z,u,w⟩;dsimp only;by_cases y:v>0
  ·rw[aE y];refine a_ (tJ F λal Qz=>?_);exact Es D H (b.rev ⋯ ⋯<|aQ z w) Qz ⋯ P u c
  ·rw[aI y];exact Es D H b F ⋯ P u c
def CP(R a:Nat): StateT br dA (Option Nat):=((forIn [1:a] ((Y:Option (Option Nat)),1) λf m => m8 (R+m.2) (R+m.2-1) >>= λs => match s with
    |some b => if b=X then pure (ForInStep.done (Y,m.2)) else pure (ForInStep.yield (Y,m.2+1))
    |f => pure<|ForInStep.done (Z Y,m.2)) >>= λm => match m.1 with
    |some s => pure s
    |none => if (m.2==a)=X then pure (Z m.2) else if m.2>1 then m8 R (R+m.2-1) >>= λs => match s with
      |some c => if c=X then pure (Z m.2) else q5 R (R+m.2) >>= λ_ => tv R a m.2
      |f => pure Y
      else tv R a m.2)
def IE(R a:Nat):countRun' R a=CP R a:=by
 kernel_rfl
def Gq(s:fs r Q (eK Ql x O QC it) h){q:Array Nat}(b:cM r q){R f:Nat}(l:1<=f)(u:R+f<=r){N:br}(j:eh QC it o N q){C:Option Nat->br->ah->Prop}(c:∀k p w,1<=k->k<=f->cM r p->eh QC it o w p->(∀a,a<R->p[a]?=q[a]?)->(∀i,R+1<=i->i<R+k->a4 Q p (i-1)<=a4 Q p i)->C (Z k) w h):
  kasC (aN Ql x) O Qh (countRun' R f) C N h:=by
 rw[IE];unfold CP;have D:lE Q r R q q:=⟨b,λ_ W=>rfl,λ_=>rfl⟩;refine a_ (gZ (DH s u b j (bf _) l λi g e=>⋯) ?_);rintro m w Qd ⟨rfl,rfl,k,rfl,y,E,t,H⟩;dsimp only;by_cases d:k=f
 ·rw[aE ⇑d];exact a8 (c k q _ y E b j (λ_ W=>rfl) t)
 rw[aI ⇑d];have I:a4 Q q (R+k)<a4 Q q (R+k-1):=H.resolve_left d;by_cases F:k>1
 ·rw[aE F];refine a_ (qf s b ⋯ ⋯ j ?_);dsimp only;by_cases G:a4 Q q R<a4 Q q (R+k-1)
  ·rw[aE ⇑G];exact a8 (c k q _ y E b j (λ_ W=>rfl) t)
  ·rw[aI ⇑G];have up:∀v,v<k->a4 Q q R<=a4 Q q (R+v)/\a4 Q q (R+v)<=a4 Q q (R+k-1):=by
    have J:∀v,v<k->a4 Q q R<=a4 Q q (R+v):=λv=>by
     induction v with
     |zero=>intro W;exact kW _
     |succ v z=>
      intro A;have g:=t (R+(v+1)) ⋯ ⋯;rw[show R+(v+1)-1=R+v by lia]at g;have:=z ⋯;lia
    have L:∀v,v<k->a4 Q q (R+k-1-v)<=a4 Q q (R+k-1):=λv=>by
     induction v with
     |zero=>intro W;exact kW _
     |succ v z=>
      intro A;have g:=t (R+k-1-v) ⋯ ⋯;rw[show R+k-1-v-1=R+k-1-(v+1) by lia]at g;have:=z ⋯;lia
    intro v A;refine⟨J v A,?_⟩;have:=L (k-1-v) ⋯
    rwa [show R+k-1-(k-1-v)=R+v by lia]at this
   have B:∀n,R<=n->n<R+k->a4 Q q n=a4 Q q R:=λn g e=>by
    have:=up (n-R) ⋯;rw[show R+(n-R)=n by lia]at this;lia
   refine a_ (tJ j λS Qz=>?_);exact B7 (q:=q) s u (D.rev (bf _) ⋯ B) Qz y ⋯ (λi M P=>by
    by_cases d:i=R+k
    ·subst d;lia
    ·rw[B i ⋯ ⋯,B (i-1) ⋯ ⋯];exact kW _) c
 rw[aI F];obtain rfl:k=1:=⋯
 exact B7 (q:=q) s u D j (bf _) ⋯ (λi M P=>by
  obtain rfl:i=R+1:=⋯
  exact Int.le_of_lt I) c
end
section
variable{Ql:bA}{x:bc}{O:bj}{Qh:ae->ah->Prop}{QC:fZ}{it:Array a9}{Q:Nat->Int}{r:Nat}{h:ah}{o:Array (Nat×Nat×Nat)}
variable{q:Array Nat}
theorem dY.same:∀{w L:List (Nat×Nat×Nat)}{g e:Nat},dY Q q g w e->(w.map λf=>(f.1,f.2.1))=(L.map λf=>(f.1,f.2.1))->dY Q q g L e
 |[],[],g,e,c,_=>c
 |[],_::_,g,e,c,d=>by cases d
 |_::_,[],g,e,c,d=>by cases d
 | (f,t,H)::w,(j,k,l)::L,g,e,c,d=>by
  rw[cH,cH]at d;injection d with h i;injection h with a b;dsimp only at a b;subst a;subst b;exact⟨c.1,c.2.1,c.2.2.1,c.2.2.2.same i⟩
def Ig(y:Array (Nat×Nat×Nat))(a H:Nat):(y.toList.map λf=>(f.1,f.2.1))=((y.modify a λf=>(f.1,f.2.1,H)).toList.map λf=>(f.1,f.2.1)):=by
 apply pb;intro i;rw[eG,eG,eu,eu,Array.getElem?_modify];split
 ·rw[Option.map_map];rfl
 ·rfl
def g4.congr{p:Array Nat}{R k:Nat}(c:g4 Q q R k)(M:∀a,R<=a->a4 Q p a=a4 Q q a):g4 Q p R k:=λa i g e m=>by
 rw[M a g,M i ⋯];exact c a i g e m
def IY{ay:gO}{O:bj}{Qh:ae->ah->Prop}{z QG:Type}{m:Nat->Prop}{d:∀k,Decidable (m k)}{b R:Nat->StateT z dA QG}{C:QG->z->ah->Prop}{h:ah}(Qf:Nat->z->Prop)(j:∀k N,Qf k N->kasC ay O Qh (R k) C N h)(a:(∀k N,Qf k N->kasC ay O Qh (R k) C N h)->∀k N,m k->Qf k N->kasC ay O Qh (b k) C N h):∀k N,Qf k N->kasC ay O Qh (if m k then b k else R k) C N h:=λk N q=>
 if c:m k then by rw[aE c];exact a j k N c q else by rw[aI c];exact j k N q
variable{C:Unit->br->ah->Prop}
def K5(z:fs r Q (eK Ql x O QC it) h)(D:2<=r)(as:∀s b,cM r s->km Q s r->arrOf b=s.map (a7 it)->ho b=Y->C () b h):kasC (aN Ql x) O Qh sortRuns' C (rA QC it (range r).toArray) h:=by
 rw[sortRuns'_eq];refine a_ (jw ?_);dsimp only;have a1:(arrOf<|rA QC it (range r).toArray).size=r:=by
  show ((range r).toArray.map<|a7 it).size=r;simp
 simp only[a1];refine a_ (gZ (a:=λm b Qd=>h=Qd/\m=(Y,r)/\∃o q,cM r q/\eh QC it o b q/\dY Q q 0 o.toList r)
  (fj (gd (λf m b Qd=>h=Qd/\∃R o q,m=(Y,R)/\f<=R/\R<=r/\cM r q/\eh QC it o b q/\dY Q q 0 o.toList R) ?step _ 0 _ _ _ ?fin ⟨rfl,0,#[],(range r).toArray,rfl,bf _,⋯,List.Perm.refl _,⟨rfl,rfl,rfl,rfl⟩,rfl⟩)) ?after)
 case fin=>
  rintro m b Qd ⟨rfl,R,o,q,rfl,g,e,v,d,B⟩;have:R=r:=⋯
  subst this;exact⟨rfl,rfl,o,q,v,d,B⟩
 case after=>
  rintro m b Qd ⟨rfl,rfl,o,q,l,j,Qg⟩;dsimp only;refine a_ (gZ (a:=λm b Qd=>h=Qd/\m=(Y,())/\∃q,cM r q/\km Q q r/\arrOf b=q.map (a7 it)/\ho b=Y)
   (fj (gd (λf m b Qd=>h=Qd/\m=(Y,())/\∃o q,cM r q/\eh QC it o b q/\dY Q q 0 o.toList r/\o.size+f<=r) ?A _ 0 _ _ _ ?f2 ⟨rfl,rfl,o,q,l,j,Qg,by have:=Qg.le;rw[di]at this;lia⟩)) ?a2)
  case a2=>
   rintro m b Qd ⟨rfl,rfl,q,g,e,m,v⟩;exact a8 (as q _ g e m v)
  case f2=>
   rintro m b Qd ⟨rfl,rfl,o,q,l,j,Qg,bd⟩;have d:o.toList=[]:=oR (by rw[di];lia);rw[d]at Qg;have:0=r:=Qg;lia
  case A=>
   rintro f m b Qd ⟨rfl,rfl,o,q,l,j,Qg,bd⟩;refine a_ (jw ?_);by_cases d:(hh b).size<=1
   ·rw[aE d];refine a8 ⟨rfl,rfl,q,l,?_,j.a,j.f⟩;rw[j.p]at d;have be:o.toList.length<=1:=by rw[di];exact d
    match T:o.toList,be with
    |[],_=>
     rw[T]at Qg;have:0=r:=Qg;lia
    |[(f,t,H)],_=>
     rw[T]at Qg;let@⟨rfl,_,bi,bm⟩:=Qg;have:0+t=r:=bm;exact λa i bn cl=>bi a i (fv _) bn ⋯
    |_::_::_,c=>exact absurd c ↥0
   ·rw[aI d];rw[j.p]at d;have bs:∀M,M+1<o.size->kasC (aN Ql x) O Qh (rT M) (λe u A=>e=X/\h=A/\∃o q,cM r q/\eh QC it o u q/\dY Q q 0 o.toList r/\o.size+(f+1)<=r) b h:=λM bv=>
     zJ z l j bv Qg (bf _) λN s ca g e m v U=>⟨rfl,rfl,N,s,g,e,v,⋯⟩;refine a_ (gZ (bs _ ?_) ?_)
    ·rw[j.p];have:∀(m:Prop) [Decidable m],(if m then o.size-2-1 else o.size-2)+1<o.size:=λm W=>by split<;>lia
     exact this _
    ·rintro e u A ⟨rfl,rfl,cd⟩;rw[aI ∅];exact a8 ⟨rfl,rfl,cd⟩
 case step=>
  rintro f m b Qd ⟨rfl,R,o,q,rfl,co,cr,l,j,Qg⟩;dsimp only;by_cases al:R >= r
  ·rw[aE al];have:R=r:=⋯
   subst this;exact a8 ⟨rfl,rfl,o,q,l,j,Qg⟩
  rw[aI al];refine a_ (Gq z l ⋯ ⋯ j ?_);intro k am y w E F Qm an G;have p:k<=r-R/\1<=k/\∃q,cM r q/\eh QC it o y q/\dY Q q 0 o.toList R/\g4 Q q R k:=⟨E,w,am,F,Qm,Qg.congr λa W e=>lK<|an a e,CA G⟩;dsimp only;clear G an Qm F w E;revert k y;refine IY (λk y=>k<=r-R/\1<=k/\∃q,cM r q/\eh QC it o y q/\dY Q q 0 o.toList R/\g4 Q q R k) ?_ ?_
  ·intro k u p;let@⟨E,w,⟨@Q3,J,Qz,bQ,L⟩⟩:=p;refine a_ (jw ?_);rcases cs:(hh u).back? with _|⟨db,ds,dL⟩
   ·dsimp only;refine a_ (kd ?_);refine a8 ⟨rfl,R+k,o.push (R,k,0),Q3,rfl,⋯,⋯,J,⟨Qz.k,Qz.a,by show (hh u).push _=_;rw[Qz.p],Qz.f⟩,?_⟩;rw[EJ];exact dY.app.mpr ⟨R,bQ,rfl,⋯,L,rfl⟩
   ·dsimp only;refine a_ (gZ (a:=λm b Qd=>h=Qd/\m=(Y,())/\∃o q,cM r q/\eh QC it o b q/\dY Q q 0 o.toList R/\g4 Q q R (k))
     (fj<|gd (λf m b Qd=>h=Qd/\m=(Y,())/\∃o q,cM r q/\eh QC it o b q/\dY Q q 0 o.toList R/\g4 Q q R (k)) ?_ _ 0 _ _ _ (λ_ W W H=>H) ⟨rfl,rfl,o,Q3,J,Qz,bQ,L⟩) ?_)
    ·rintro I m b Qd ⟨rfl,rfl,o,q,l,j,Qg,O⟩;refine a_ (jw ?_);by_cases d:(hh b).size>1
     ·rw[aE d];rcases eq:(hh b)[(hh b).size-2]? with _|⟨g,e,ev⟩
      ·dsimp only;exact a8 ⟨rfl,rfl,o,q,l,j,Qg,O⟩
      ·dsimp only;split
       ·exact a8 ⟨rfl,rfl,o,q,l,j,Qg,O⟩
       ·refine a_ (zJ z l j (by rw[j.p]at d ⊢;lia) Qg ⋯ ?_);intro N s ca g e m v U;rw[aI ∅];exact a8 ⟨rfl,rfl,N,s,g,e,v,O.congr U⟩
     ·rw[aI d];dsimp only;exact a8 ⟨rfl,rfl,o,q,l,j,Qg,O⟩
    ·rintro m b Qd ⟨rfl,rfl,o,q,l,j,Qg,O⟩;dsimp only;refine a_ (kd ?_);refine a_ (kd ?_);refine a8 ⟨rfl,R+k,(o.modify (o.size-1) _).push (R,k,0),q,rfl,⋯,⋯,l,⟨j.k,j.a,by show ((hh b).modify ((hh b).size-1) _).push _=_;rw[j.p],j.f⟩,?_⟩;rw[EJ];exact dY.app.mpr ⟨R,Qg.same<|Ig _ _ _,rfl,⋯,O,rfl⟩
  ·intro Qc k y ex p;let@⟨E,w,⟨@am,F,Qm,ce,G⟩⟩:=p;refine a_ (m1<|i5 ?_);have P:k<=min (r-R) (minRun' r r 0):=⋯
   have ap:min (r-R) (minRun' r r 0)<=r-R:=⋯
   generalize min (r-R) (minRun' r r 0)=ch at P ap ⊢;refine a_ (H8 z F ⋯ w P G Qm ?_);intro Q3 u J Qz ci L;rw[aI ∅];exact Qc ch u ⟨ap,eU w P,Q3,J,Qz,ce.congr λa W e=>lK<|ci a e,L⟩
def MP(c:fs r Q (eK Ql x O QC it) h)(D:2<=r)(up:r<1001\/∀i,1<=i->i<r->Q (i-1)<=Q i)(d:∀a b,cM r a->km Q a r->arrOf b=a.map (a7 it)->ho b=Y->C () b h):kasC (aN Ql x) O Qh sortRuns' C (rA QC it (range r).toArray) h:=K5 c D d
end
end L2
namespace L2
open Spec PyProof.Rows
section
variable{b:aK}{G:List (ao×a0)}{z:aU}{j:aw}{h:ah}{T:aV}
variable{Rh:List ao}{QM:Nat}
def aA.K_{Qc:ao}{y:List af}(E:aA b G z j h)(a:∀e∈Rh,jd b G j e)(n:∀e o,e∉Rh->h.heap.get? e=Z o->T.get? e=Z o)(l:h.heap.objs.size<=Qc)(new:eB b.prog b.w (upd j Qc<|.tup y) T Qc (.tup y)):aA b G z (upd j Qc<|.tup y) {h with heap:=T,toks:=QM}:=by
 have f:j Qc=Y:=E.a3.fresh l;have t:∀e o,h.heap.get? e=Z o->e≠Qc:=λe o d=>c2 (eZ (bZ d) l);have m:∀e L,j e=Z L->e∉Rh:=λe L d H=>by rw[(a e H).1]at d;cases d
 refine E.step (J:=h.gens) (al:=h.drawn) (Rh:=Rh) (λe c=>⟨(a e c).2.2.2.1,(a e c).2.1,(a e c).2.2.2.2.1,(a e c).2.2.2.2.2⟩) (λe o W W i d W=>n e o i d) (λe o W W i d W=>⟨o.slots,n e o i d⟩)
  (λe o W d r=>by rw[cS (t e o d)];exact r) (λe o i d=>⟨o,n e o i d⟩) (λe Qw d=>by rw[cS (gJ d f)];exact d) (λe o L d=>by rw[cS (gJ d f)];exact d)
  (λe Qr d=>⟨#[],by rw[cS (gJ d f),d];simp⟩) (λk u=>?_) (λg o d=>?_) E.bare
 ·let⟨o,Qe,@Q0,v,s⟩:=u;exact⟨o,Qe,Q0,n _ o (λH=>(a _ H).2.1 rfl) v,s⟩
 ·by_cases q:g=Qc
  ·subst q;rw[fb]at d;cases d;exact new
  ·rw[cS q]at d;refine (E.a3 g o d).iL (λe L c p=>n e L ?_ p) (λe p=>by rw[cS (gJ p f)];exact p) λe Qw p=>by rw[cS (gJ p f)];exact p
   rcases c with H|H
   ·rw[H];exact m g o d
   ·exact m e _ H
def aA.GN(E:aA b G z j h)(a:∀e∈Rh,jd b G j e)(n:∀e o,e∉Rh->h.heap.get? e=Z o->T.get? e=Z o):aA b G z j {h with heap:=T,toks:=QM}:=by
 have i:∀e L,j e=Z L->e∉Rh:=λe L d H=>by rw[(a e H).1]at d;cases d
 refine E.step (J:=h.gens) (al:=h.drawn) (Rh:=Rh) (λe c=>⟨(a e c).2.2.2.1,(a e c).2.1,(a e c).2.2.2.2.1,(a e c).2.2.2.2.2⟩) (λe o W W f d W=>n e o f d) (λe o W W f d W=>⟨o.slots,n e o f d⟩)
  (λe o W W r=>r) (λe o f d=>⟨o,n e o f d⟩) (λe Qw d=>d) (λe o L d=>d) (λe Qr d=>⟨#[],by rw[d];simp⟩) (λk l=>?_) (λg o d=>?_) E.bare
 ·let⟨o,Qe,@Q0,m,s⟩:=l;exact⟨o,Qe,Q0,n _ o (λH=>(a _ H).2.1 rfl) m,s⟩
 ·refine (E.a3 g o d).iL (λe L c p=>n e L ?_ p) (λe p=>p) λe Qw p=>p;rcases c with H|H
  ·rw[H];exact i g o d
  ·exact i e _ H
end
section
variable{Ql:bA}{x:bc}{O:bj}{Qh:ae->ah->Prop}{h:ah}
variable{a:Nat}{Qy:Array ae}{C:ae->ah->Prop}
def xi{it w:ao}{f:ae}(d:h.heap.IsTupleIter it w a)(ba:h.heap.IsTuple w Qy)(e:Qy[a]?=Z f)(p:∀T,T.IsTupleIter it w (a+1)->aV.SameBut it h.heap T->C f {h with heap:=T}):wpAny (aN Ql x) O (bl.SmallTypes.nextOf<|.ref it) C Qh h:=by
 let⟨@o,c,g,b⟩:=id d;let⟨@ol,g1,W,⟨@i,j⟩⟩:=ba;unfold bl.SmallTypes.nextOf;refine av (lU (name:=aC.ofString "__next__") d.typeIs uw<|iB uw d.typeIs Ag ?H<|DT _)
 case H=>
  show wpAny _ _ (lC (.ref it) 0 >>= _) _ _ h;refine av (hg c b (x:=.ref w) rfl ?_);show wpAny _ _ (if (ae.ref w==ae.none)=X then _ else _) _ _ h;rw[aI (show ¬ (ae.ref w==ae.none)=X by intro H;cases H)];show wpAny _ _ (lC (.ref it) 1 >>= _) _ _ h;refine av (hg c b (x:=.int a 0) rfl ?_);show wpAny _ _ (oY (.ref w) >>= _) _ _ h;refine av (ha g1 j ?_);simp only[qU,e];refine av (sS c b ↥0 (aR ⟨f,rfl,aR (p _ ⟨_,n3 _ c<|An<|sV b _,(zf ..).trans g,by rw[sV b];simp[jS]⟩<|oh ..)⟩))
def Dg{it w:ao}(j:O.handled=Y)(b:h.heap.IsTupleIter it w a)(ba:h.heap.IsTuple w Qy)(l:Qy[a]?=Y)(p:∀T d,aV.ExtBut it h.heap T->(∃o,T.get? d=Z o/\o.cls=.type "StopIteration")->Qh (.ref d) {h with heap:=T}):wpAny (aN Ql x) O (bl.SmallTypes.nextOf<|.ref it) C Qh h:=by
 let⟨@o,c,n,e⟩:=id b;let⟨@ol,g1,W,⟨@i,m⟩⟩:=ba;unfold bl.SmallTypes.nextOf;refine av (lU (name:=aC.ofString "__next__") b.typeIs uw<|iB uw b.typeIs Ag ?H<|DT _)
 case H=>
  show wpAny _ _ (lC (.ref it) 0 >>= _) _ _ h;refine av (hg c e (x:=.ref w) rfl ?_);show wpAny _ _ (if (ae.ref w==ae.none)=X then _ else _) _ _ h;rw[aI (show ¬ (ae.ref w==ae.none)=X by intro H;cases H)];show wpAny _ _ (lC (.ref it) 1 >>= _) _ _ h;refine av (hg c e (x:=.int a 0) rfl ?_);show wpAny _ _ (oY (.ref w) >>= _) _ _ h;refine av (ha g1 m ?_);simp only[qU,l];refine av (i5 (av (sS c e ↥0 ?_)));show wpAny _ _ (s7 (.type "StopIteration") [] >>= _) _ _ _;apply av;simp only[s7,x5];refine av (hM (av (m:=r1 _ _) (qV (a:=ae.none) (by first|rfl|(simp only[r1];rfl)) (hM ?_ (by size_fits)))) (by size_fits));simp only[raiseNew];apply av;apply CJ;rw[show O.in1.handled=Y from j];refine av (m:=pure _) (aR<|wpAny_throw ?_);exact p _ _ (((oh ..).extBut.push _).push _) ⟨_,c9 _ rfl,rfl⟩
end
section
variable{Ql:bA}{x:bc}{O:bj}{Qh:ae->ah->Prop}{h:ah}
variable{c T:aV}{g:ao}
def ip{w:ao}{a:Nat}(f:c.IsTupleIter g w a)(n:∀o,c.get? g=Z o->T.get? g=Z o):T.IsTupleIter g w a:=let ⟨o,d,s⟩:=f;⟨o,n o d,s⟩
variable{y:Array ae}
def oy(f:c.IsTuple g y)(n:∀o,c.get? g=Z o->T.get? g=Z o):T.IsTuple g y:=let ⟨o,d,s⟩:=f;⟨o,n o d,s⟩
variable{g e:ae}{QN QW:Nat}{Qw:Array ae}
def Js{H cU cI b c aZ bh:ao}{f I:ae}{C:ae->ah->Prop}(A:tT H cU cI b c aZ bh)(p:iZ h.heap H cU cI .none)(am:hO h.heap cU (.ref b) (.ref c))(an:hO h.heap cI g e)(l:h.heap.IsTupleIter b aZ QN)(D:h.heap.IsTupleIter c bh QW)(ap:h.heap.IsTuple aZ y)(as:h.heap.IsTuple bh Qw)(a1:y[QN]?=Z f)(a2:Qw[QW]?=Z I)(bd:∀T,iZ T H cU cI (jS h.heap.objs.size)->hO T cI f I->T.IsTupleIter b aZ (QN+1)->T.IsTupleIter c bh (QW+1)->hO T h.heap.objs.size f I->
   (∀m o,m≠H->m≠cI->m≠b->m≠c->h.heap.get? m=Z o->T.get? m=Z o)->C (.ref h.heap.objs.size) {h with heap:=T}):
  wpAny (aN Ql x) O (bl.«zip.__next__» ⟨[.ref H],[]⟩) (λbe Qd=>∃u,be=.done (.ret u)/\C u Qd) Qh h:=by
 show wpAny _ _ (lC (.ref H) 2 >>= _) _ _ _;refine av (hg p rfl (x:=.bool aq) rfl ?_);show wpAny _ _ (lC (.ref H) 3 >>= _) _ _ _;refine av (hg p rfl (x:=.ref cU) rfl<|av<|ha am rfl ?_);show wpAny _ _ (bl.SmallTypes.ownedTupleIsFree (.ref H) >>= _) _ _ _;apply av;unfold bl.SmallTypes.ownedTupleIsFree;refine av (hg p rfl (x:=.none) rfl<|aR ?_);simp only[gR];refine av (i5 (av (hg p rfl (x:=.ref cI) rfl (av (oa p ↥0 λJ w i=>?_)))));replace w:iZ J H cU cI .ellipsis:=w;apply av;simp only[xI,Au,sP,A1];refine av (av<|tV ?_);show wpAny _ _ (bl.SmallTypes.nextOf (.ref b) >>= _) _ _ _;refine av (xi (h:={h with heap:=J}) (ip l λo d=>i.extBut _ o A.i1z d) (oy ap λo d=>i.extBut _ o A.l1z d) a1 λz bi k=>aR ?_);have Q4:hO z cI g e:=k.extBut _ _ A.TOi1 (i.extBut _ _ A.TOz an);refine av (ha (s:={h with heap:=z}) Q4 rfl<|av<|xt (s:={h with heap:=z}) Q4 λL U n=>?_);replace U:hO L cI f e:=U;refine av (mE<|aR<|av<|av<|tV ?_);show wpAny _ _ (bl.SmallTypes.nextOf (.ref c) >>= _) _ _ _;refine av (xi (h:={h with heap:=L}) (ip D λo d=>n.extBut _ o A.TOi2.symm<|k.extBut _ o A.i12.symm<|i.extBut _ o A.i2z d) (oy as λo d=>n.extBut _ o A.l2TO<|k.extBut _ o A.l2i1<|i.extBut _ o A.l2z d) a2 λB bm q=>aR ?_);have M:hO B cI f e:=q.extBut _ _ A.TOi2 U;refine av (ha (s:={h with heap:=B}) M rfl<|av<|xt (s:={h with heap:=B}) M λa QX r=>?_);replace QX:hO a cI f I:=QX;refine av (mE<|aR<|aR<|av<|ha (s:={h with heap:=a}) QX rfl<|av<|A0 ?_);have N:a.objs.size=h.heap.objs.size:=by rw[r.1,q.1,n.1,k.1,i.1]
 have P:iZ a H cU cI .ellipsis:=r.extBut _ _ A.TOz.symm (q.extBut _ _ A.i2z.symm<|n.extBut _ _ A.TOz.symm<|k.extBut _ _ A.i1z.symm w);have bn:∀m o,m≠H->m≠cI->m≠b->m≠c->h.heap.get? m=Z o->a.get? m=Z o:=λm o j s E F d=>r.extBut _ _ s (q.extBut _ _ F<|n.extBut _ _ s<|k.extBut _ _ E<|i.extBut _ _ j d);have dR:a.IsTupleIter b aZ (QN+1):=ip bi λo d=>r.extBut _ o A.TOi1.symm (q.extBut _ o A.i12<|n.extBut _ o A.TOi1.symm d);have dc:a.IsTupleIter c bh (QW+1):=ip bm λo d=>r.extBut _ o A.TOi2.symm d;have Q:H<a.objs.size:=bZ P;show wpAny _ _ (bl.SmallTypes.ownedTupleHandOut (.ref H) (.ref a.objs.size) >>= _) _ _ _;apply av;unfold bl.SmallTypes.ownedTupleHandOut;have bs:iZ (a.push {cls:=.type "tuple",data:=.seq #[f,I]}) H cU cI .ellipsis:=b3 _ P;refine av (oa bs ↥0 λbv G R=>?_);replace G:iZ bv H cU cI (jS a.objs.size):=G;refine oa G ↥0 λt v S=>?_;replace v:iZ t H cU cI (jS a.objs.size):=v;have up:∀m o,m≠H->a.get? m=Z o->t.get? m=Z o:=λm o j d=>S.extBut _ _ j (R.extBut _ _ j<|b3 _ d);have al:hO t a.objs.size f I:=S.extBut _ _ (mM Q) (R.extBut _ _ (mM Q)<|c9 _ rfl);rw[N]at v al;refine aR ⟨_,rfl,?_⟩;show C (.ref a.objs.size) _;rw[N];exact bd t v (up _ _ A.TOz QX) (ip dR λo d=>up _ o A.i1z d) (ip dc λo d=>up _ o A.i2z d) al λm o j s E F d=>up m o j (bn m o j s E F d)
def Om{H cU cI k n aZ bh:ao}{C:PySem.Fin->ah->Prop}(I:O.handled=Y)(A:tT H cU cI k n aZ bh)(q:iZ h.heap H cU cI .none)(R:hO h.heap cU (.ref k) (.ref n))(S:hO h.heap cI g e)(l:h.heap.IsTupleIter k aZ QN)(D:h.heap.IsTupleIter n bh QW)(J:h.heap.IsTuple aZ y)(al:h.heap.IsTuple bh Qw)(am:y[QN]?=Y\/Qw[QW]?=Y)(L:∀T d,(∀m o,m≠H->m≠cI->m≠k->m≠n->h.heap.get? m=Z o->T.get? m=Z o)->(∃o,T.get? d=Z o/\o.cls=.type "StopIteration")->Qh (.ref d) {h with heap:=T}):
  wpAny (aN Ql x) O (bl.«zip.__next__» ⟨[.ref H],[]⟩) C Qh h:=by
 show wpAny _ _ (lC (.ref H) 2 >>= _) _ _ _;refine av (hg q rfl (x:=.bool aq) rfl ?_);show wpAny _ _ (lC (.ref H) 3 >>= _) _ _ _;refine av (hg q rfl (x:=.ref cU) rfl<|av<|ha R rfl ?_);show wpAny _ _ (bl.SmallTypes.ownedTupleIsFree (.ref H) >>= _) _ _ _;apply av;unfold bl.SmallTypes.ownedTupleIsFree;refine av (hg q rfl (x:=.none) rfl<|aR ?_);simp only[gR];refine av (i5 (av (hg q rfl (x:=.ref cI) rfl (av (oa q ↥0 λv u a=>?_)))));replace u:iZ v H cU cI .ellipsis:=u;apply av;simp only[xI,Au,sP,A1];refine av (av<|tV ?_);show wpAny _ _ (bl.SmallTypes.nextOf (.ref k) >>= _) _ _ _;cases w:y[QN]? with
 |none=>
  refine av (Dg (h:={h with heap:=v}) I (ip l λo d=>a.extBut _ o A.i1z d) (oy J λo d=>a.extBut _ o A.l1z d) w λr d b z=>?_);let⟨@B,i,s⟩:=z;have M:iZ r H cU cI .ellipsis:=b _ _ A.i1z.symm u;have E:d≠H:=λp=>by subst p;rw[M]at i;cases i;simp at s
  refine oa M ↥0 λF W j=>L F d (λm o t W G W p=>j.extBut _ _ t<|b _ _ G<|a.extBut _ _ t p) ⟨B,j.extBut _ _ E i,s⟩
 |some f=>
  have an:Qw[QW]?=Y:=by
   rcases am with c|c
   ·rw[w]at c;cases c
   ·exact c
  refine av (xi (h:={h with heap:=v}) (ip l λo d=>a.extBut _ o A.i1z d) (oy J λo d=>a.extBut _ o A.l1z d) w λr bd b=>aR ?_);have Q4:hO r cI g e:=b.extBut _ _ A.TOi1 (a.extBut _ _ A.TOz S);refine av (ha (s:={h with heap:=r}) Q4 rfl<|av<|xt (s:={h with heap:=r}) Q4 λF U j=>?_);refine av (mE<|aR<|av<|av<|tV ?_);show wpAny _ _ (bl.SmallTypes.nextOf (.ref n) >>= _) _ _ _;refine av (Dg (h:={h with heap:=F}) I (ip D λo d=>j.extBut _ o A.TOi2.symm<|b.extBut _ o A.i12.symm<|a.extBut _ o A.i2z d) (oy al λo d=>j.extBut _ o A.l2TO<|b.extBut _ o A.l2i1<|a.extBut _ o A.l2z d) an λap d N z=>?_);let⟨@B,i,s⟩:=z;have P:iZ ap H cU cI .ellipsis:=N _ _ A.i2z.symm (j.extBut _ _ A.TOz.symm<|b.extBut _ _ A.i1z.symm u);have E:d≠H:=λp=>by subst p;rw[P]at i;cases i;simp at s
  refine oa P ↥0 λas W Q=>L as d (λm o t a1 G a2 p=>Q.extBut _ _ t<|N _ _ a2<|j.extBut _ _ a1<|b.extBut _ _ G<|a.extBut _ _ t p) ⟨B,Q.extBut _ _ E i,s⟩
end
variable{h:ah}{Q1:bQ}{QJ Q7 QK:List Nat}{own Qr:List aC}{Q_ QL m d e g:bo}{Ro:List cK}{Qh:mu}{N:cK}{Rp z:aU}{fd:gh}{f:aC}{r Ru:Nat}{U y:List af}{J:List V}{aM QA O Qg QI QB QQ Qq P:List ao}{C:cz}{s Qe:List bo}{QM:d0}{b:aK}{Qz Qm F j:aw}{u:af}{q Qx:Pos}{Qk:Φ}
def jx(c:aV)(aZ bh:ao):aV:=(((((c.push {cls:=.type "tuple_iterator",data:=.fields #[.ref aZ,.int 0 0]}).push {cls:=.type "tuple_iterator",data:=.fields #[.ref bh,.int 0 0]}).push
 {cls:=.type "tuple",data:=.seq #[.ref c.objs.size,.ref (c.push {cls:=.type "tuple_iterator",data:=.fields #[.ref aZ,.int 0 0]}).objs.size]}).push {cls:=.type "tuple",data:=.seq #[.none,.none]}))
def O7(aZ bh:ao)(y Qw:Array ae):
    Meets (bl.«zip.__new__» ⟨[.type "zip", .ref aZ,.ref bh],[]⟩) (λ_ Qg h => h.heap.IsTuple aZ y /\ h.heap.IsTuple bh Qw /\
      Qg (.ok<|.ret<|.ref (jx h.heap aZ bh).objs.size) {h with heap:=(jx h.heap aZ bh).push {cls:=.type "zip", data:=.fields #[.none,.bool aq,.bool aq,.ref ((h.heap.push {cls:=.type "tuple_iterator", data:=.fields #[.ref aZ,.int 0 0]}).push {cls:=.type "tuple_iterator", data:=.fields #[.ref bh,.int 0 0]}).objs.size,
        .ref (((h.heap.push {cls:=.type "tuple_iterator", data:=.fields #[.ref aZ,.int 0 0]}).push {cls:=.type "tuple_iterator", data:=.fields #[.ref bh,.int 0 0]}).push
  {cls:=.type "tuple", data:=.seq #[.ref h.heap.objs.size,.ref (h.heap.push {cls:=.type "tuple_iterator", data:=.fields #[.ref aZ,.int 0 0]}).objs.size]}).objs.size]} }) :=
  .of_wp λQl x O Qg h c => by
    let⟨a,M,v,QP,Q⟩:=h;let@⟨b,e,c⟩:=c;have i:=sub_zip;have f:aV.IsTuple (ah.heap ⟨a,M,v,QP,Q⟩) aZ y:=b;have g:aV.IsTuple (ah.heap ⟨a.push {cls:=.type "tuple_iterator", data:=.fields #[.ref aZ,.int 0 0]}, M,v,QP,Q⟩) bh Qw:=oy e λo d => b3 _ d
    wp_walk using wpAny_pyIter_tuple f,wpAny_pyIter_tuple g
    exact ⟨_,rfl,c⟩
def sf(Qk:Φ)(g e:ao):eL:=(
 ⟨λa j=>∃y Qw f I,cb Qk j g y/\cb Qk j e Qw/\y[a]?=Z f/\Qw[a]?=Z I,
  λa j u F=>∃Qc f I,j Qc=Y/\u=.ref Qc/\F=upd j Qc (.tup [f,I])/\(∀y,cb Qk j g y->y[a]?=Z f)/\(∀Qw,cb Qk j e Qw->Qw[a]?=Z I),
  λa j=>∃y Qw,cb Qk j g y/\cb Qk j e Qw/\(y.length<=a\/Qw.length<=a)⟩)
def DB(g e H cU cI b d:ao)(a:Nat)(c:aV):Prop:=(iZ c H cU cI .none/\hO c cU (.ref b) (.ref d)/\(∃q p,hO c cI q p)/\c.IsTupleIter b g a/\c.IsTupleIter d e a)
theorem Pj{Qf:bA}{x:bc}(g e H cU cI r t:ao)(A:tT H cU cI r t g e):
  rp Qf x Qk (.Tuple Qe Ru Qx) (sf Qk g e) [H,cU,cI,r,t] H (DB g e H cU cI r t) where
 mem:=by simp
 obj:=λa c N m i=>by
  let@⟨l,D,⟨q,@p,k⟩,⟨@M,am,_,ca⟩,⟨@QX,an,_,cd⟩⟩:=N;simp only[cj,m_,jl]at i;rcases i with rfl|rfl|rfl|rfl|rfl
  ·exact⟨_,l,λu d=>by cases d⟩
  ·exact⟨_,D,λu d=>by cases d⟩
  ·exact⟨_,k,λu d=>by cases d⟩
  ·exact⟨_,am,λu d=>by rw[ca]at d;cases d⟩
  ·exact⟨_,an,λu d=>by rw[cd]at d;cases d⟩
 keep:=λa c T N n=>by
  let@⟨l,D,⟨q,@p,k⟩,v,B⟩:=N;exact⟨n H ↥0 _ l,n cU ↥0 _ D,⟨q,p,n cI ↥0 _ k⟩,ip v λo d=>n r ↥0 o d,ip B λo d=>n t ↥0 o d⟩
 item:=by
  intro b ap as a1 i a G h z j Qh E R N a2;subst ap as a1;let⟨y,Qw,f,@I,S,U,bm,bn⟩:=a2;let⟨@Qp,bd,q,J⟩:=E.tuple S;let⟨@be,bi,Q3,ce⟩:=E.tuple U;let⟨@L,ch,ci⟩:=bd.get bm;let⟨@bs,cl,co⟩:=bi.get bn;have cr:=N;let@⟨l,D,⟨bK,@i6,k⟩,v,B⟩:=N;have P:h.TypeIs (.ref H) "zip" := ⟨_,l,rfl⟩;unfold gx;refine av (qC (lU (name:=aC.ofString "__next__") P r5 (iB r5 P Bb
   (Js (C:=λu Qd=>wpAny (aN b.prog b.w) b.A (pure<|Z u) (λs cs=>∃L,s=Z L/\wpAny (aN b.prog b.w) b.A (ro (.Tuple Qe Ru Qx) (.ref H) L) (λ_ bv=>∃f F,aA b G z F bv/\b5 f L/\(sf b.K g e).pg a j f F/\DB g e H cU cI r t (a+1) bv.heap/\∀e∈[H,cU,cI,r,t],F e=Y) Qh cs) Qh Qd)
    A l D k v B (show h.heap.IsTuple g Qp.toArray from q) (show h.heap.IsTuple e be.toArray from Q3) (f:=L) (I:=bs) ⇑ch ⇑cl λT db ds dL eq ev al=>aR ⟨_,rfl,?_⟩) (Fu _))));refine wpAny_letOwnedTupleGo_zip db λex fd cn=>?_;have lt:∀m∈[H,cU,cI,r,t],m<h.heap.objs.size:=λm i=>by
   let@⟨l,D,⟨q,@p,k⟩,⟨@M,am,_⟩,⟨@QX,an,_⟩⟩:=cr;simp only[cj,m_,jl]at i;rcases i with rfl|rfl|rfl|rfl|rfl
   ·exact bZ l
   ·exact bZ D
   ·exact bZ k
   ·exact bZ am
   ·exact bZ an
  have c6:∀m o,m∉[H,cU,cI,r,t]->h.heap.get? m=Z o->ex.get? m=Z o:=λm o i d=>by
   simp only[cj,m_,jl,not_or]at i;exact cn.extBut _ _ i.1 (al m o i.1 i.2.2.1 i.2.2.2.1 i.2.2.2.2 d)
  have fn:h.heap.objs.size≠H:=mM (lt H ↥0);have fr:j h.heap.objs.size=Y:=E.a3.fresh (bf _);refine⟨.ref h.heap.objs.size,upd j h.heap.objs.size<|.tup [f,I],E.K_ (QM:=h.toks) R c6 (bf _) ⟨by show 2<=sizeLine;decide,[L,bs],.cons ci<|.cons co .nil,?_⟩,rfl,⟨_,f,I,fr,rfl,rfl,λQ J=>?_,λQ J=>?_⟩,?_,λm i=>?_⟩
  ·exact⟨_,cn.extBut _ _ fn ev,rfl,0,rfl⟩
  ·rw[E.uR J S];exact bm
  ·rw[E.uR J U];exact bn
  ·exact⟨fd,cn.extBut _ _ A.TIz<|al _ _ A.TIz A.TITO A.TIi1 A.TIi2 D,⟨_,_,cn.extBut _ _ A.TOz ds⟩,ip dL λo d=>cn.extBut _ o A.i1z d,ip eq λo d=>cn.extBut _ o A.i2z d⟩
  ·rw[cS (c2<|lt m i)];exact (R m i).1
 done:=by
  intro b ap as a1 i a G h z j Qh E R N a2;subst ap as a1;let⟨y,@Qw,S,U,f0⟩:=a2;let⟨@Qp,bd,q,J⟩:=E.tuple S;let⟨@be,bi,Q3,ce⟩:=E.tuple U;let@⟨l,D,⟨bK,@i6,k⟩,v,B⟩:=N;have P:h.TypeIs (.ref H) "zip" := ⟨_,l,rfl⟩;have aZ:=bd.length;have bh:=bi.length;unfold gx;refine av (qC (lU (name:=aC.ofString "__next__") P r5 (iB r5 P Bb
   (Om (E.ok.hd i) A l D k v B (show h.heap.IsTuple g Qp.toArray from q) (show h.heap.IsTuple e be.toArray from Q3) (by
    rcases f0 with c|c
    ·exact .inl (by simp;lia)
    ·exact .inr (by simp;lia)) λT d al ⟨o,f1,f2⟩=>?_) (Fu _))))
  refine av (tn (T := "StopIteration") (b:=X) ⟨o,f1,f2⟩ E2<|aR ⟨rfl,E.GN (QM:=h.toks) R λm o i d=>?_⟩);simp only[cj,m_,jl,not_or]at i;exact al m o i.1 i.2.2.1 i.2.2.2.1 i.2.2.2.2 d
 self:=λ_ W W W W N c=>Fm N.1 c
section
variable{b:aK}
def OP(Qk:Φ)(QY:eR):cU:=(λz j Qg=>QY z j λU Qm=>∃g e,U=[.ref g,.ref e]/\(∃y,cb Qk Qm g y)/\(∃Qw,cb Qk Qm e Qw)/\Qg (sf Qk g e) Qm)
def FN{QY:eR}{Qr:Pos}(D:ed b "zip")(H:b.aH "zip" = Y)(I:hp b [g,e] QY)(Qj:bU [g,e] b.env=[(aq,b_ g b.env),(aq,b_ e b.env)]:=by rfl)(r:bU [e] b.env=[(aq,b_ e b.env)]:=by rfl):
  ki b (.Tuple Qe Ru Qr) (.Call (.Name "zip" q) [g,e] [] Qx) (OP b.K QY):=by
 intro G h z j Qg E c;refine Call_ (ku E D H boot_zip (oX (bS (I Qx G h z j _ E c) λQD a ⟨U,Qm,f,J,L⟩=>?_) (by rw[Qj,r]) (by rw[r];rfl)));let⟨aZ,@bh,d,⟨@y,M⟩,⟨@Qw,N⟩,p⟩:=L;subst d;cases J with
 |cons s l=>
  cases l with
  |cons Q1 l=>
   cases l;cases s;cases Q1;let⟨@Qp,T,q,al⟩:=f.tuple M;let⟨@O,am,Q3,an⟩:=f.tuple N;have Q:aZ<a.heap.objs.size:=by let⟨@o,d,P⟩:=q;exact bZ d
   have R:bh<a.heap.objs.size:=by let⟨@o,d,P⟩:=Q3;exact bZ d
   refine callType_new F.called_zip ∅ (F.typeCall_zip_2 _ _) (F.newCall_zip_2 _ _) (λS=>F.args_object_init_3 S _ _) F.entry_zip_new (O7 aZ bh Qp.toArray O.toArray) ⟨q,Q3,?_⟩;have n:(a.heap.push {cls:=.type "tuple_iterator",data:=.fields #[.ref aZ,.int 0 0]}).objs.size=a.heap.objs.size+1:=mG ..;have i:((a.heap.push {cls:=.type "tuple_iterator",data:=.fields #[.ref aZ,.int 0 0]}).push {cls:=.type "tuple_iterator",data:=.fields #[.ref bh,.int 0 0]}).objs.size=a.heap.objs.size+2:=by rw[mG,n]
   have k:(((a.heap.push {cls:=.type "tuple_iterator",data:=.fields #[.ref aZ,.int 0 0]}).push {cls:=.type "tuple_iterator",data:=.fields #[.ref bh,.int 0 0]}).push
    {cls:=.type "tuple",data:=.seq #[.ref a.heap.objs.size,.ref (a.heap.push {cls:=.type "tuple_iterator",data:=.fields #[.ref aZ,.int 0 0]}).objs.size]}).objs.size=a.heap.objs.size+3:=by rw[mG,i]
   have t:(jx a.heap aZ bh).objs.size=a.heap.objs.size+4:=by unfold jx;rw[mG,k]
   show _/\_;refine⟨⟨_,c9 _ rfl,rfl⟩,Fm (TI:=a.heap.objs.size+2) (TO:=a.heap.objs.size+3) (f0:=.none) ?_ ?_⟩
   ·rw[i,k];exact c9 _ rfl
   ·rw[i,k,t];have u:((jx a.heap aZ bh).push {cls:=.type "zip",data:=.fields #[.none,.bool aq,.bool aq,.ref<|a.heap.objs.size+2,.ref<|a.heap.objs.size+3]}).get? (a.heap.objs.size+4)=Z {cls:=.type "zip",data:=.fields #[.none,.bool aq,.bool aq,.ref<|a.heap.objs.size+2,.ref<|a.heap.objs.size+3]}:=by rw[<-t];exact c9 _ rfl
    have v:((jx a.heap aZ bh).push {cls:=.type "zip",data:=.fields #[.none,.bool aq,.bool aq,.ref<|a.heap.objs.size+2,.ref<|a.heap.objs.size+3]}).get? (a.heap.objs.size+3)=Z {cls:=.type "tuple",data:=.seq #[.none,.none]}:=by
     rw[<-k];exact b3 _ (c9 _ rfl)
    have w:((jx a.heap aZ bh).push {cls:=.type "zip",data:=.fields #[.none,.bool aq,.bool aq,.ref<|a.heap.objs.size+2,.ref<|a.heap.objs.size+3]}).get? (a.heap.objs.size+2)=Z {cls:=.type "tuple",data:=.seq #[.ref a.heap.objs.size,.ref<|a.heap.objs.size+1]}:=by
     rw[<-i,<-n];exact b3 _ (b3 _<|c9 _ rfl)
    have x:((jx a.heap aZ bh).push {cls:=.type "zip",data:=.fields #[.none,.bool aq,.bool aq,.ref<|a.heap.objs.size+2,.ref<|a.heap.objs.size+3]}).get? (a.heap.objs.size+1)=Z {cls:=.type "tuple_iterator",data:=.fields #[.ref bh,.int 0 0]}:=by
     rw[<-n];exact b3 _ (b3 _<|b3 _<|c9 _ rfl)
    have B:((jx a.heap aZ bh).push {cls:=.type "zip",data:=.fields #[.none,.bool aq,.bool aq,.ref<|a.heap.objs.size+2,.ref<|a.heap.objs.size+3]}).get? a.heap.objs.size=Z {cls:=.type "tuple_iterator",data:=.fields #[.ref aZ,.int 0 0]}:=
     b3 _ (b3 _<|b3 _<|b3 _<|c9 _ rfl);have c6:∀m o,a.heap.get? m=Z o->((jx a.heap aZ bh).push {cls:=.type "zip",data:=.fields #[.none,.bool aq,.bool aq,.ref<|a.heap.objs.size+2,.ref<|a.heap.objs.size+3]}).get? m=Z o:=λm o d=>
     b3 _ (b3 _<|b3 _<|b3 _<|b3 _ d);generalize ((jx a.heap aZ bh).push {cls:=.type "zip",data:=.fields #[.none,.bool aq,.bool aq,.ref<|a.heap.objs.size+2,.ref<|a.heap.objs.size+3]})=as at B x w v u c6 ⊢;have A:tT (a.heap.objs.size+4) (a.heap.objs.size+2) (a.heap.objs.size+3) a.heap.objs.size (a.heap.objs.size+1) aZ bh:=PySem.W.ktu_apart _ _ _ Q R;refine⟨_,_,_,_,Qm,rfl,f.kept (QM:=a.toks) c6,Pj aZ bh _ _ _ _ _ A,⟨u,w,⟨_,_,v⟩,⟨_,B,rfl,rfl⟩,⟨_,x,rfl,rfl⟩⟩,λm C=>?_,p⟩;have:a.heap.objs.size<=m:=by
     simp only[cj,m_,jl]at C;rcases C with rfl|rfl|rfl|rfl|rfl
     ·exact lR _ _
     ·exact lR _ _
     ·exact lR _ _
     ·exact bf _
     ·exact lR _ _
    exact f.ts this (f.a3.fresh this)
end
def BW(Qk:Φ)(j:aw)(f:af)(Qc:String)(e:Bool):Prop:=(
 (∃a,f=.int a/\((Qc = "int" /\ e=X)\/(Qc = "tuple" /\ e=aq)\/(Qc = "str" /\ e=aq)\/(Qc = "bool" /\ e=aq)\/(Qc = "list" /\ e=aq)))\/
 (∃a,f=.ax a/\((Qc = "bool" /\ e=X)\/(Qc = "int" /\ e=X)\/(Qc = "tuple" /\ e=aq)\/(Qc = "str" /\ e=aq)\/(Qc = "list" /\ e=aq)))\/
 (∃a,f=.str a/\((Qc = "str" /\ e=X)\/(Qc = "int" /\ e=aq)\/(Qc = "tuple" /\ e=aq)\/(Qc = "bool" /\ e=aq)\/(Qc = "list" /\ e=aq)))\/
 (∃g y,f=.ref g/\cb Qk j g y/\((Qc = "tuple" /\ e=X)\/(Qc = "int" /\ e=aq)\/(Qc = "str" /\ e=aq)\/(Qc = "bool" /\ e=aq)\/(Qc = "list" /\ e=aq)))\/
 (∃g y,f=.ref g/\cQ Qk j g y/\((Qc = "list" /\ e=X)\/(Qc = "int" /\ e=aq)\/(Qc = "str" /\ e=aq)\/(Qc = "bool" /\ e=aq)\/(Qc = "tuple" /\ e=aq))))
section
variable{b:aK}
def Me:en b (.builtin "isinstance") (λy j C=>∃f Qc e,y=[f,.ty Qc]/\BW b.K j f Qc e/\C (.ax e) j):=by
 intro G h z j y QD C E s c;let⟨f,Qc,@e,rfl,S,p⟩:=c;cases s with
 |cons s m=>
  cases m with
  |cons Q1 m=>
   cases m;cases Q1;have l:∀{e:Bool},C (.ax e) j->d5 b G z C (.bool e) h:=λ{e} p=>⟨.ax e,j,E,rfl,p⟩;have d:∀{e:Bool},C (.ax e) j->d5 b G z C (.bool e) {h with toks:=h.toks+1}:=λ{e} p=>⟨.ax e,j,E.tok _,rfl,p⟩;rcases S with ⟨a,rfl,S⟩|⟨a,rfl,S⟩|⟨a,rfl,S⟩|⟨g,y,rfl,Qj,S⟩|⟨g,y,rfl,Qj,S⟩
   ·let⟨@w,rfl⟩:=s;rcases S with ⟨rfl,rfl⟩|⟨rfl,rfl⟩|⟨rfl,rfl⟩|⟨rfl,rfl⟩|⟨rfl,rfl⟩
    ·exact IsiPair.int_int (l p)
    ·exact IsiPair.int_tuple (d p)
    ·exact IsiPair.int_str (d p)
    ·exact IsiPair.int_bool (d p)
    ·exact IsiPair.int_list (d p)
   ·cases s;rcases S with ⟨rfl,rfl⟩|⟨rfl,rfl⟩|⟨rfl,rfl⟩|⟨rfl,rfl⟩|⟨rfl,rfl⟩
    ·exact IsiPair.bool_bool (l p)
    ·exact IsiPair.bool_int (l p)
    ·exact IsiPair.bool_tuple (d p)
    ·exact IsiPair.bool_str (d p)
    ·exact IsiPair.bool_list (d p)
   ·let⟨@w,rfl⟩:=s;rcases S with ⟨rfl,rfl⟩|⟨rfl,rfl⟩|⟨rfl,rfl⟩|⟨rfl,rfl⟩|⟨rfl,rfl⟩
    ·exact IsiPair.str_str (l p)
    ·exact IsiPair.str_int (d p)
    ·exact IsiPair.str_tuple (d p)
    ·exact IsiPair.str_bool (d p)
    ·exact IsiPair.str_list (d p)
   ·cases s;let⟨@Qp,n,⟨@o,i,k,W⟩,r⟩:=E.tuple Qj;rcases S with ⟨rfl,rfl⟩|⟨rfl,rfl⟩|⟨rfl,rfl⟩|⟨rfl,rfl⟩|⟨rfl,rfl⟩
    ·exact IsiPair.tuple_tuple i k (l p)
    ·exact IsiPair.tuple_int i k (d p)
    ·exact IsiPair.tuple_str i k (d p)
    ·exact IsiPair.tuple_bool i k (d p)
    ·exact IsiPair.tuple_list i k (d p)
   ·cases s;let⟨@Qp,n,q,r⟩:=E.list Qj;let⟨@o,i,k,W⟩:=q.isList;rcases S with ⟨rfl,rfl⟩|⟨rfl,rfl⟩|⟨rfl,rfl⟩|⟨rfl,rfl⟩|⟨rfl,rfl⟩
    ·exact IsiPair.list_list i k (l p)
    ·exact IsiPair.list_int i k (d p)
    ·exact IsiPair.list_str i k (d p)
    ·exact IsiPair.list_bool i k (d p)
    ·exact IsiPair.list_tuple i k (d p)
def F5:∀{bs:List Bool}{QD:List ae},bM (bs.map af.ax) QD->∀(a:Nat) (u:ae),QD[a]?=Z u->∃e,bs[a]?=Z e/\u=ae.bool e:=by
 intro bs QD s a u c;have b:=s.length;rw[bq]at b;have S:a<bs.length:=by rw[b];exact (e9.mp c).1
 let⟨@L,d,g⟩:=s.get (a:=a) (f:=af.ax bs[a]) (by simp[S]);rw[c]at d;cases d;exact⟨bs[a],by simp[S],g⟩
def Jq(k:b.calm=X):en b (.builtin "all") (λy j C=>∃t bs,y=[.ref t]/\j t=Z (.lst<|List.map af.ax bs)/\C (.ax<|bs.all id) j):=by
 intro G h z j y QD C E s c;let⟨t,@bs,rfl,l,p⟩:=c;let⟨@L,rfl,m⟩:=hX s;cases m;let@⟨H,⟨Qp,@r,f,d⟩⟩:=E.a3 t _ l;have g:h.heap.IsList t Qp.toArray:=⟨_,d,rfl,r,rfl⟩;refine call_all_walk (qm g ⟨h.heap.objs.size,[h.heap.objs.size,t],[h.heap.objs.size],Qp.toArray.size,_,_,λa=>(bs[a]?).getD X,rfl,kR.list (A:=b.A.in1) (E.ok.hd k) _ t (c2<|bZ d) Qp.toArray,
  ⟨⟨_,c9 _ rfl,rfl,rfl⟩,g.push _⟩,λa u Qd w x n i=>?_,λT QP o=>?_⟩)
 ·let⟨@e,q,rfl⟩:=F5 f a u ⇑n;simp only[q,uF]at i;exact ly i
 ·have v:Qp.toArray.size=bs.length:=by
   have:=f.length;rw[bq]at this;rw[cB,this]
  rw[v,LSm.range_all];exact⟨.ax _,j,E.kept<|LSm.kept_iter o,rfl,p⟩
def J_:dC b (fG .Mult) (o2 IntMulOk λa i=>.int<|a*i):=rY λ_ W W W W W W c p=>mul_int p c
end
inductive aj where
 | im (v:V)
 | dZ
 | cN (J:List V)
 | lst (J:List V)
 | dj (Qt:List (d_×V))
 | aJ (Qt:List (List V×V))
 | hz (y:List aj)
 | oJ (y:List aj)
variable{QV:List aj->Option aj}{B:aj->aj->Option aj}{o:Option aj}{v:aj}
abbrev a6:=List (Option aj)
variable{QE A:a6}{c:List aj->a6->Option a6}
abbrev el{QC:Type}(j:aw):List (QC×V)->List (QC×af)->Prop:=d1 λq p=>q.1=p.1/\cp j q.2 p.2
def el.mono{QC:Type}{t:List (QC×V)}{k:List (QC×af)}(w:oW j F)(c:el j t k):el F t k:=d1.se c λ_ W H=>⟨H.1,H.2.mono w⟩
structure fy(j F:aw):Prop where
 tup:oW j F
 dJ:∀g o L,j g=Z (.dJ o L)->F g=Z (.dJ o L)
mutual
def cw(j:aw):aj->af->List ao->Prop
 |.im v,u,P=>cp j v u/\P=[]
 |.dZ,_,P=>P=[]
 |.cN J,u,P=>∃g y o,u=.ref g/\j g=Z (.dJ o<|.lst y)/\bx j J y/\P=[]
 |.lst J,u,P=>∃g y,u=.ref g/\j g=Z (.lst y)/\bx j J y/\P=[g]
 |.dj Qt,u,P=>∃g i,u=.ref g/\j g=Z (.dj i)/\el j Qt i/\P=[g]
 |.aJ Qt,u,P=>∃g i,u=.ref g/\j g=Z (.aJ i)/\el j Qt i/\P=[g]
 |.hz J,u,P=>∃g y Qq,u=.ref g/\j g=Z (.lst y)/\dV j J y Qq/\P=g::Qq
 |.oJ J,u,P=>∃g y,u=.ref g/\j g=Z (.tup y)/\dV j J y P
def dV(j:aw):List aj->List af->List ao->Prop
 |[],U,P=>U=[]/\P=[]
 |v::J,U,P=>∃u s QB QI,U=u::s/\cw j v u QB/\dV j J s QI/\P=QB++QI
end
mutual
theorem cw.mono{j F:aw}(w:fy j F):∀{v:aj}{u:af}{P:List ao},cw j v u P->(∀g∈P,∀o,j g=Z o->F g=Z o)->cw F v u P
 |.im v,u,P,c,_=>⟨c.1.mono w.tup,c.2⟩
 |.dZ,u,P,c,_=>c
 |.cN J,u,P,c,_=>by
  let⟨g,y,@o,rfl,l,D,rfl⟩:=c;exact⟨g,y,o,rfl,w.dJ _ _ _ l,D.mono w.tup,rfl⟩
 |.lst J,u,P,c,n=>by
  let⟨g,@y,rfl,l,D,rfl⟩:=c;exact⟨g,y,rfl,n g (.head _) _ l,D.mono w.tup,rfl⟩
 |.dj Qt,u,P,c,n=>by
  let⟨g,@y,rfl,l,D,rfl⟩:=c;exact⟨g,y,rfl,n g (.head _) _ l,D.mono w.tup,rfl⟩
 |.aJ Qt,u,P,c,n=>by
  let⟨g,@y,rfl,l,D,rfl⟩:=c;exact⟨g,y,rfl,n g (.head _) _ l,D.mono w.tup,rfl⟩
 |.hz J,u,P,c,n=>by
  let⟨g,y,@Qq,rfl,l,D,rfl⟩:=c;exact⟨g,y,Qq,rfl,n g (.head _) _ l,dV.mono w D λe a=>n e<|.tail _ a,rfl⟩
 |.oJ J,u,P,c,n=>by
  let⟨g,@y,rfl,l,D⟩:=c;exact⟨g,y,rfl,w.tup g y l,dV.mono w D n⟩
theorem dV.mono{j F:aw}(w:fy j F):∀{J:List aj}{U:List af}{P:List ao},dV j J U P->(∀g∈P,∀o,j g=Z o->F g=Z o)->dV F J U P
 |[],U,P,c,_=>c
 |v::J,U,P,c,n=>by
  let⟨u,s,QB,@QI,rfl,l,D,rfl⟩:=c;exact⟨u,s,QB,QI,rfl,cw.mono w l λg a=>n g<|dQ _ a,dV.mono w D λg a=>n g<|dP _ a,rfl⟩
end
def gi(j:aw)(g:ao):Prop:=(∃o,j g=Z o/\(∀y,o≠.tup y)/\∀q L,o≠.dJ q L)
mutual
theorem cw.chg{j:aw}:∀{v:aj}{u:af}{P:List ao},cw j v u P->∀g∈P,gi j g
 |.im v,u,P,c,g,b=>by rw[c.2]at b;cases b
 |.dZ,u,P,c,g,b=>by rw[show P=[] from c]at b;cases b
 |.cN J,u,P,c,e,a=>by
  let⟨g,y,@o,rfl,l,D,rfl⟩:=c;cases a
 |.lst J,u,P,c,e,a=>by
  let⟨g,@y,rfl,l,D,rfl⟩:=c;rw[cV.mp a];exact⟨_,l,(λ_ d=>by cases d),(λ_ W d=>by cases d)⟩
 |.dj Qt,u,P,c,e,a=>by
  let⟨g,@y,rfl,l,D,rfl⟩:=c;rw[cV.mp a];exact⟨_,l,(λ_ d=>by cases d),(λ_ W d=>by cases d)⟩
 |.aJ Qt,u,P,c,e,a=>by
  let⟨g,@y,rfl,l,D,rfl⟩:=c;rw[cV.mp a];exact⟨_,l,(λ_ d=>by cases d),(λ_ W d=>by cases d)⟩
 |.hz J,u,P,c,e,a=>by
  let⟨g,y,@Qq,rfl,l,D,rfl⟩:=c;rcases cj.mp a with rfl|a
  ·exact⟨_,l,(λ_ d=>by cases d),(λ_ W d=>by cases d)⟩
  ·exact dV.chg D e a
 |.oJ J,u,P,c,e,a=>by
  let⟨g,@y,rfl,l,D⟩:=c;exact dV.chg D e a
theorem dV.chg{j:aw}:∀{J:List aj}{U:List af}{P:List ao},dV j J U P->∀g∈P,gi j g
 |[],U,P,c,g,a=>by rw[c.2]at a;cases a
 |v::J,U,P,c,g,a=>by
  let⟨u,s,QB,@QI,rfl,l,D,rfl⟩:=c;rcases dK.mp a with a|a
  ·exact cw.chg l g a
  ·exact dV.chg D g a
end
theorem dV.length:∀{J:List aj}{U:List af}{P:List ao},dV j J U P->J.length=U.length
 |[],U,P,c=>by rw[c.1];rfl
 |v::J,U,P,c=>by
  let⟨u,s,QB,@QI,rfl,l,D,rfl⟩:=c;rw[er,er,D.length]
theorem bx.length:∀{J:List V}{U:List af},bx j J U->J.length=U.length
 |[],U,c=>by rw[show U=[] from c];rfl
 |v::J,U,c=>by
  let⟨u,@s,rfl,l,D⟩:=c;rw[er,er,D.length]
def lV(j:aw):Option aj->Option af->List ao->Prop
 |none,_,P=>P=[]
 |some v,f,P=>∃u,f=Z u/\cw j v u P
def bu(j:aw):a6->aU->List ao->Prop
 |[],z,P=>z=[]/\P=[]
 |o::A,z,P=>∃f s QB QI,z=f::s/\lV j o f QB/\bu j A s QI/\P=QB++QI
structure bk(j:aw)(P:List ao)(F:aw)(QQ:List ao):Prop where
 keep:∀g o,j g=Z o->g∉P->F g=Z o
 sub:∀g∈QQ,g∈P\/j g=Y
 ak:QQ.Nodup
 tup:fy j F
 grow:∀g o,j g=Z o->∃QU,F g=Z QU
theorem lV.mono(w:fy j F):∀{o:Option aj}{f:Option af}{P:List ao},lV j o f P->(∀g∈P,∀o,j g=Z o->F g=Z o)->lV F o f P
 |none,_,_,c,_=>c
 |some v,f,P,c,n=>by
  let⟨@u,rfl,c⟩:=c;exact⟨u,rfl,c.mono w n⟩
theorem bu.mono{j F:aw}(w:fy j F):∀{A:a6}{z:aU}{P:List ao},bu j A z P->(∀g∈P,∀o,j g=Z o->F g=Z o)->bu F A z P
 |[],z,P,c,_=>c
 |o::A,z,P,c,n=>by
  let⟨f,s,QB,@QI,rfl,l,D,rfl⟩:=c;exact⟨f,s,QB,QI,rfl,l.mono w λg a=>n g<|dQ _ a,bu.mono w D λg a=>n g<|dP _ a,rfl⟩
theorem lV.chg:∀{o:Option aj}{f:Option af}{P:List ao},lV j o f P->∀g∈P,gi j g
 |none,_,P,c,g,a=>by rw[show P=[] from c]at a;cases a
 |some v,f,P,c,g,a=>by
  let⟨@u,rfl,c⟩:=c;exact c.chg g a
theorem bu.chg{j:aw}:∀{A:a6}{z:aU}{P:List ao},bu j A z P->∀g∈P,gi j g
 |[],z,P,c,g,a=>by rw[c.2]at a;cases a
 |o::A,z,P,c,g,a=>by
  let⟨f,s,QB,@QI,rfl,l,D,rfl⟩:=c;rcases dK.mp a with a|a
  ·exact l.chg g a
  ·exact bu.chg D g a
theorem bu.len{j:aw}:∀{A:a6}{z:aU}{P:List ao},bu j A z P->A.length=z.length
 |[],z,P,c=>by rw[c.1];rfl
 |o::A,z,P,c=>by
  let⟨f,s,QB,@QI,rfl,l,D,rfl⟩:=c;rw[er,er,bu.len D]
def aj.ee:aj->Bool
 |.im _=>X
 |.cN _=>X
 |_=>aq
def cw.ee(c:cw j v u P)(m:v.ee=X):P=[]:=by
 cases v with
 |im v=>exact c.2
 |cN J=>let⟨g,y,@o,rfl,l,D,rfl⟩:=c;rfl
 |_=>cases m
theorem bu.out{j:aw}:∀{A:a6}{z:aU}{P:List ao}{a:Nat}{v:aj},bu j A z P->A[a]?=Z (Z v)->∃u QB QI,z[a]?=Z (Z u)/\cw j v u QB/\bu j (A.set a<|Z .dZ) z QI/\(QI++QB).Perm P
 |[],z,P,a,v,c,d=>by simp at d
 |o::A,z,P,0,v,c,d=>by
  let⟨f,s,QB,@QI,rfl,l,D,rfl⟩:=c;simp at d;subst d;let⟨@u,rfl,l⟩:=l;exact⟨u,QB,QI,rfl,l,⟨Z u,s,[],QI,rfl,⟨u,rfl,rfl⟩,D,rfl⟩,c4⟩
 |o::A,z,P,a+1,v,c,d=>by
  let⟨f,s,QB,@QI,rfl,l,D,rfl⟩:=c;let⟨u,e,@b,g,h,i,k⟩:=bu.out (a:=a) D ⇑d;refine⟨u,e,QB++b,by simpa using g,h,⟨f,s,QB,b,rfl,l,i,rfl⟩,?_⟩;rw[bz];exact dT _ k
theorem bu.put{j:aw}:∀{A:a6}{z:aU}{P:List ao}{a:Nat}{v:aj}{u:af}{Qq:List ao},bu j A z P->cw j v u Qq->a<A.length->∃QB QI,bu j (A.set a<|Z v) (z.set a<|Z u) QB/\(QB++QI).Perm (P++Qq)
 |[],z,P,a,v,u,Qq,c,x,t=>by simp at t
 |o::A,z,P,0,v,u,Qq,c,x,t=>by
  let⟨f,s,QB,@QI,rfl,l,D,rfl⟩:=c;refine⟨Qq++QI,QB,⟨Z u,s,Qq,QI,rfl,⟨u,rfl,x⟩,D,rfl⟩,?_⟩;refine c4.trans ?_;rw[bz];exact dT _ c4
 |o::A,z,P,a+1,v,u,Qq,c,x,t=>by
  let⟨f,s,QB,@QI,rfl,l,D,rfl⟩:=c;let⟨b,@d,e,g⟩:=bu.put (a:=a) D x ⇑t;refine⟨QB++b,d,⟨f,_,QB,b,rfl,l,e,rfl⟩,?_⟩;rw[bz,bz];exact dT _ g
def bu.ee{a:Nat}(c:bu j A z P)(d:A[a]?=Z (Z v))(m:v.ee=X):∃u,z[a]?=Z (Z u)/\cw j v u []:=by
 let⟨u,QB,@QI,e,b,W⟩:=c.out d;obtain rfl:=b.ee m;exact⟨u,e,b⟩
def Pc{a:Nat}(c:z[a]?=Z (Z u)):z.set a (Z u)=z:=by
 refine pb λi=>?_;by_cases d:a=i
 ·subst d;rw[c,tj (e9.mp c).1]
 ·rw[mC d]
def bu.back{a:Nat}(c:bu j A z P)(x:cw j v u Qq)(b:z[a]?=Z (Z u)):∃QB QI,bu j (A.set a<|Z v) z QB/\(QB++QI).Perm (P++Qq):=by
 have t:a<A.length:=by rw[c.len];exact (e9.mp b).1
 let⟨QB,@QI,l,D⟩:=c.put (a:=a) x t;rw[Pc b]at l;exact⟨QB,QI,l,D⟩
def fy.of(B:p6 j F)(M:∀g o L,j g=Z (.dJ o L)->F g=Z (.dJ o L)):fy j F:=⟨⟨B,M⟩,M⟩
def HP(j:aw):fy j j:=⟨⟨λ_ W d=>d,λ_ W W d=>d⟩,λ_ W W d=>d⟩
def fy.trans(g:fy j Qm)(e:fy Qm Qz):fy j Qz:=⟨⟨λf y d=>e.tup.t f y<|g.tup.t f y d,λf o L d=>e.dJ f o L<|g.dJ f o L d⟩,λf o L d=>e.dJ f o L<|g.dJ f o L d⟩
def bk.refl(c:QQ.Nodup)(h:∀g∈QQ,g∈P):bk j P j QQ:=⟨λ_ W d W=>d,λg a=>.inl<|h g a,c,HP j,λ_ o d=>⟨o,d⟩⟩
def bk.perm(c:P.Nodup)(q:QQ.Perm P):bk j P j QQ:=bk.refl ((q.nodup_iff).mpr c) λg a=>q.mem_iff.mp a
def bk.trans(g:bk j P Qm (QB++Qg))(e:bk Qm QB Qz QI)(i:∀f∈Qg,gi Qm f):bk j P Qz (QI++Qg):=by
 have ak:=dp.mp g.ak;have k:∀f∈QI,f∉Qg:=λf a h=>by
  rcases e.sub f a with c|c
  ·exact ak.2.2 f c f h rfl
  ·let⟨@o,d,W⟩:=i f h;rw[d]at c;cases c
 refine⟨λf o d a=>?_,λf a=>?_,dp.mpr ⟨e.ak,ak.2.1,λf a I m d=>k f a<|d ▸ m⟩,g.tup.trans e.tup,λf o d=>let ⟨QU,b⟩:=g.grow f o d;e.grow f QU b⟩
 ·refine e.keep f o (g.keep f o d a) λl=>?_;rcases g.sub f (dQ _ l) with c|c
  ·exact a c
  ·rw[d]at c;cases c
 ·rcases dK.mp a with a|a
  ·rcases e.sub f a with c|c
   ·exact g.sub f (dQ _ c)
   ·refine .inr ?_;cases d:j f with
    |none=>rfl
    |some o=>
     let⟨@QU,b⟩:=g.grow f o d;rw[b]at c;cases c
  ·exact g.sub f (dP _ a)
def cP.tupS(h:cP j F):fy j F:=⟨⟨λg y d=>h g _ d,λg o L d=>h g _ d⟩,λg o L d=>h g _ d⟩
def Du{g e:ao}{o L:fX}(d:j e=Z o)(c:j g=Y):L2.upd j g L e=Z o:=by rw[cS (gJ d c)];exact d
def cP.upd(h:cP j F){g:ao}{o:fX}(c:F g=Y):cP j (L2.upd F g o):=λe L d=>Du (h e L d) c
abbrev ay(QG:Type):=a6->Option (QG×a6)
variable{Rq:ay aj}{cY n:ay Bool}
inductive bI where
 | aS (a:Nat)
 | cm (v:aj)
variable{Q8 Rc:ay bI}{M:ay (List bI)}
def ep(A:a6):bI->Option aj
 |.aS a=>(A[a]?).getD Y
 |.cm v=>Z v
def hr(j:aw)(z:aU):bI->af->List ao->Prop
 |.aS a,u,Qg=>z[a]?=Z (Z u)/\Qg=[]
 |.cm v,u,Qg=>cw j v u Qg
def la(M:ay aj):bX:=(λz j C=>∃A P s QE,bu j A z P/\P.Nodup/\M A=Z (s,QE)/\∀u F QQ Qg,bu F QE z QQ->cw F s u Qg->bk j P F (QQ++Qg)->C u F)
def lQ(M:ay bI):bX:=(λz j C=>∃A P s QE,bu j A z P/\P.Nodup/\M A=Z (s,QE)/\∀u F QQ Qg,bu F QE z QQ->hr F z s u Qg->bk j P F (QQ++Qg)->C u F)
def ix(M:ay Bool):d0:=(λz j C=>∃A P e QE,bu j A z P/\P.Nodup/\M A=Z (e,QE)/\∀F QQ,bu F QE z QQ->bk j P F QQ->C e F)
def ck(b:aK)(d:bo)(M:ay aj):Prop:=(∀ ⦃q⦄,vU b d (la M) q)
def dz(b:aK)(d:bo)(M:ay bI):Prop:=(∀ ⦃q⦄,vU b d (lQ M) q)
def hH(b:aK)(d:bo)(M:ay Bool):Prop:=(∀ ⦃q⦄,BA b d (ix M) q)
def ej{w QM:bX}(c:bN b d w)(a:∀z j C,QM z j C->w z j C):bN b d QM:=λG h z j C E e=>c G h z j C E (a z j C e)
def tZ{w:d0}(c:gI b d w)(a:∀z j C,QM z j C->w z j C):gI b d QM:=λG h z j C E e=>c G h z j C E (a z j C e)
def hr.mono{s:bI}(c:hr j z s u Qg)(w:fy j F)(n:∀g∈Qg,∀o,j g=Z o->F g=Z o):hr F z s u Qg:=by
 cases s with
 |aS a=>exact c
 |cm v=>exact cw.mono w c n
def hr.chg{s:bI}(c:hr j z s u Qg):∀g∈Qg,gi j g:=by
 cases s with
 |aS a=>intro g b;rw[c.2]at b;cases b
 |cm v=>exact cw.chg c
def eI(j:aw)(v:aj)(u:af):Prop:=(∃Qg,cw j v u Qg)
def hr.read{s:bI}(c:hr j z s u Qg)(N:bu j A z P)(d:ep A s=Z v):eI j v u:=by
 cases s with
 |cm g=>cases d;exact⟨Qg,c⟩
 |aS a=>
  have e:A[a]?=Z (Z v):=by
   have:(A[a]?).getD Y=Z v:=d;cases p:A[a]? with
   |none=>rw[p]at this;cases this
   |some o=>rw[p]at this;rw[show o=Z v from this]
  let⟨h,QB,@QI,b,f,W⟩:=N.out e;rw[c.1]at b;cases b;exact⟨QB,f⟩
@[simp] def eY(a:Nat):ay aj:=λA=>match A[a]? with
 |some (Z v)=>if v.ee=X then Z (v,A) else Z (v,A.set a<|Z .dZ)
 |_=>Y
def aB(v:V):ay aj:=(λA=>Z (.im v,A))
@[simp] def ai(a:Nat):ay bI:=λA=>match A[a]? with
 |some (Z _)=>Z (.aS a,A)
 |_=>Y
@[simp] def ag(M:ay aj):ay bI:=λA=>(M A).map λq=>(.cm q.1,q.2)
section
variable{b:aK}
variable{a:Nat}
def gK(c:bN b d (nh a)):ck b d (eY a):=by
 refine ej c λz j C g=>?_;let⟨A,P,s,@QE,N,ak,e,p⟩:=g;unfold eY at e;split at e
 ·rename_i v f;split at e
  ·rename_i h;cases e;let⟨@u,l,D⟩:=N.ee f h;exact⟨u,l,p u j P [] N D (by rw[cD];exact bk.perm ak (List.Perm.refl _))⟩
  ·cases e;let⟨u,QB,@QI,l,D,i,k⟩:=N.out f;exact⟨u,l,p u j QI QB i D<|bk.perm ak k⟩
 ·cases e
def L_(c:bN b d (nh a)):dz b d (ai a):=by
 refine ej c λz j C f=>?_;let⟨A,P,s,@QE,N,ak,e,p⟩:=f;unfold ai at e;split at e
 ·rename_i v g;cases e;let⟨u,QB,@QI,l,D,h,i⟩:=N.out g;exact⟨u,l,p u j P [] N ⟨l,rfl⟩ (by rw[cD];exact bk.perm ak (List.Perm.refl _))⟩
 ·cases e
def aW{M:ay aj}(c:ck b d M):dz b d (ag M):=by
 refine ej c λz j C e=>?_;let⟨A,P,s,@QE,N,ak,a,p⟩:=e;unfold ag at a;let⟨@⟨Q1,Qn⟩,l,D⟩:=cu.mp a;cases D;exact⟨A,P,Q1,_,N,ak,l,p⟩
def rK{v:V}(c:bN b d (od u))(a:∀j,cp j v u):ck b d (aB v):=by
 refine ej c λz j C e=>?_;let⟨A,P,s,@QE,N,ak,f,p⟩:=e;cases f;exact p u j P [] N ⟨a j,rfl⟩ (by rw[cD];exact bk.perm ak (List.Perm.refl _))
def hY{a:Int}{i Qx}:ck b (.Constant (.int a) i Qx) (aB<|.int a):=rK K4 λ_=>rfl
def gr{e:Bool}{i Qx}:ck b (.Constant (.bool e) i Qx) (aB<|.ax e):=rK MB λ_=>rfl
def sD{i Qx}:ck b (.Constant .none i Qx) (aB .aT):=rK Gd λ_=>rfl
def vr{Qn QR:a6}{f I:bI}{Qk:af->af->aw->Prop}(N:bu j A z P)(ak:P.Nodup)(b:Rc A=Z (f,Qn))(i:Q8 Qn=Z (I,QR))(n:∀u L F QQ a bQ,bu F QR z QQ->hr F z f u a->hr F z I L bQ->bk j P F ((QQ++bQ)++a)->Qk u L F):lQ Rc z j λu Qm=>lQ Q8 z Qm λL Qz=>Qk u L Qz:=by
 refine⟨A,P,f,Qn,N,ak,b,λu Qm QB a k QT e=>⟨Qn,QB,I,QR,k,(dp.mp e.ak).1,i,λL Qz QI bQ l Q4 h=>?_⟩⟩;refine n u L Qz QI a bQ l (QT.mono h.tup λg b o d=>h.keep g o d λc=>?_) Q4 (e.trans h QT.chg);exact (dp.mp e.ak).2.2 g c g b rfl
def bk.new{c:List ao}(g:bk j P Qm (QB++Qg))(h:cP Qm Qz)(ak:c.Nodup)(e:∀f∈c,Qm f=Y)(m:∀f∈QB,gi Qm f):bk j P Qz (QB++c):=by
 refine⟨λf o d a=>h _ _<|g.keep f o d a,λf a=>?_,dp.mpr ⟨(dp.mp g.ak).1,ak,λf a I i d=>?_⟩,g.tup.trans h.tupS,λf o d=>let ⟨QU,b⟩:=g.grow f o d;⟨QU,h _ _ b⟩⟩
 ·rcases dK.mp a with a|a
  ·exact g.sub f (dQ _ a)
  ·refine .inr ?_;cases d:j f with
   |none=>rfl
   |some o=>
    let⟨@QU,b⟩:=g.grow f o d;rw[e f a]at b;cases b
 ·subst d;let⟨@o,d,W⟩:=m f a;rw[e f i]at d;cases d
def e6(b:aK)(B:ae->ae->dA ae)(QV:aj->aj->Option aj):Prop:=(
 dC b B λf I j C=>∃QZ Q2 v,eI j QZ f/\eI j Q2 I/\QV QZ Q2=Z v/\∀u F Qg,cP j F->cw F v u Qg->Qg.Nodup->(∀g∈Qg,j g=Y)->C u F)
@[simp] def az(QV:aj->aj->Option aj)(Rc Q8:ay bI):ay aj:=λA=>(Rc A).bind λq=>(Q8 q.2).bind λp=>(ep p.2 q.1).bind λQZ=>(ep p.2 p.1).bind λQ2=>(QV QZ Q2).map λv=>(v,p.2)
def ur{QV:aj->aj->Option aj}(c:la (az QV Rc Q8) z j C):
  lQ Rc z j λf Qm=>lQ Q8 z Qm λI Qz=>∃QZ Q2 v,eI Qz QZ f/\eI Qz Q2 I/\QV QZ Q2=Z v/\∀u F Qg,cP Qz F->cw F v u Qg->Qg.Nodup->(∀g∈Qg,Qz g=Y)->C u F:=by
 let⟨A,P,s,@QE,N,ak,a,p⟩:=c;unfold az at a;let⟨@⟨f,Qn⟩,i,a⟩:=bD.mp a;let⟨@⟨I,QR⟩,k,a⟩:=bD.mp a;let⟨@QZ,l,a⟩:=bD.mp a;let⟨@Q2,D,a⟩:=bD.mp a;let⟨@v,m,a⟩:=cu.mp a;cases a;refine vr N ak i k λu L Qz QI t bQ b QT Q4 h=>⟨QZ,Q2,_,QT.read b l,Q4.read b D,m,λx n Qg e QH q r=>?_⟩;rw[bz]at h;exact p x n QI Qg (b.mono e.tupS λg W o d=>e g o d) QH (h.new e q r b.chg)
def hx{QV:x9}(a:e6 b (fG QV) B)(d:dz b g Rc)(f:dz b e Q8):ck b (.BinOp g QV e Qx) (az B Rc Q8):=
 ej (KA a d f) λ_ W W c=>ur c
variable{QV:jV}
def kV(a:e6 b (d4 QV) B)(d:dz b g Rc)(f:dz b e Q8)(h:oM QV e=aq):ck b (.Compare g [QV] [e] Qx) (az B Rc Q8):=
 ej (Ov a d f h) λ_ W W c=>ur c
def I2(a:h4 b (λf I j C=>∃QZ Q2 v,eI j QZ f/\eI j Q2 I/\B QZ Q2=Z v/\∀u F Qg,cP j F->cw F v u Qg->Qg.Nodup->(∀g∈Qg,j g=Y)->C u F))(d:dz b g Rc)(h:dz b e Q8)(Qj:ua e):ck b (.Subscript g e Qx) (az B Rc Q8):=
 ej (Ju a d h Qj) λ_ W W c=>ur c
@[simp] def mm:aj->Option Bool
 |.im (.ax e)=>Z e
 |_=>Y
@[simp] def bt(M:ay aj):ay Bool:=λA=>(M A).bind λq=>(mm q.1).map λe=>(e,q.2)
def qd{e:Bool}(c:mm v=Z e):v=.im (.ax e):=by
 unfold mm at c;split at c
 ·cases c;rfl
 ·cases c
def cX(a:e6 b (d4 QV) B)(c:dz b g Rc)(d:dz b e Q8)(f:oM QV e=aq):hH b (.Compare g [QV] [e] Qx) (bt<|az B Rc Q8):=by
 refine tZ (Po a c d f) λz j C i=>?_;let⟨A,P,m,@QE,N,ak,k,p⟩:=i;refine ur ⟨A,P,.im<|.ax m,QE,N,ak,?_,λu F QQ Qg n QH h=>⟨m,QH.1,p F QQ n (by rw[QH.2,cD]at h;exact h)⟩⟩;let⟨@q,l,D⟩:=bD.mp k;let⟨@s,o,r⟩:=cu.mp D;cases r;rw[l,<-qd o]
@[simp] def gB(M:ay Bool):ay Bool:=λA=>(M A).map λq=>(!q.1,q.2)
variable{M:ay Bool}
def i8(c:hH b g M):hH b (.UnaryOp .Not g Qx) (gB M):=by
 refine tZ (O3 c) λz j C a=>?_;let⟨A,P,m,@QE,N,ak,d,p⟩:=a;let⟨@q,l,D⟩:=cu.mp d;cases D;exact⟨A,P,q.1,_,N,ak,l,p⟩
@[simp] def e0(M c:ay Bool):ay Bool:=λA=>(M A).bind λq=>if q.1=X then c q.2 else Z (aq,q.2)
@[simp] def fK(M c:ay Bool):ay Bool:=λA=>(M A).bind λq=>if q.1=X then Z (X,q.2) else c q.2
variable{C:Bool->aw->Prop}{c:ay Bool}
def Ff(x:ix (e0 M c) z j C):Eo (ix M) (ix c) z j C:=by
 let⟨A,P,m,@QE,N,ak,d,p⟩:=x;let⟨@⟨e,Qn⟩,l,D⟩:=bD.mp d;refine⟨A,P,e,Qn,N,ak,l,λQm QB b a=>?_⟩;cases e with
 |true=>
  rw[aE rfl];rw[aE rfl]at D;exact⟨Qn,QB,m,QE,b,a.ak,D,λQz QI g h=>p Qz QI g (by
   have:=bk.trans (Qg:=[]) (by rw[cD];exact a) h (λf i=>nomatch i)
   rwa [cD]at this)⟩
 |false=>
  rw[aI df]at D ⊢;cases D;exact p Qm QB b a
def Ga(x:ix (fK M c) z j C):zp (ix M) (ix c) z j C:=by
 let⟨A,P,m,@QE,N,ak,d,p⟩:=x;let⟨@⟨e,Qn⟩,l,D⟩:=bD.mp d;refine⟨A,P,e,Qn,N,ak,l,λQm QB b a=>?_⟩;cases e with
 |false=>
  rw[aI df]at D ⊢;exact⟨Qn,QB,m,QE,b,a.ak,D,λQz QI g h=>p Qz QI g (by
   have:=bk.trans (Qg:=[]) (by rw[cD];exact a) h (λf i=>nomatch i)
   rwa [cD]at this)⟩
 |true=>
  rw[aE rfl]at D ⊢;cases D;exact p Qm QB b a
def e4(b:aK)(d:bo)(M:ay Bool):Prop:=(∀ ⦃q⦄,C9 b d (ix M) q)
def CD{w:d0}(c:ju b d w)(a:∀z j C,QM z j C->w z j C):ju b d QM:=λe G h z j C E f=>c e G h z j C E (a z j C f)
def qO(c:hH b g M):e4 b (.BoolOp .And [g] Qx) M:=Mr c
def jX(c:hH b g M):e4 b (.BoolOp .Or [g] Qx) M:=Ng c
def m6(c:hH b g M)(a:e4 b (.BoolOp .And (e::s) Qx) n):e4 b (.BoolOp .And (g::e::s) Qx) (e0 M n):=CD (Pb c a) λ_ W W x=>Ff x
def hF(c:hH b g M)(a:e4 b (.BoolOp .Or (e::s) Qx) n):e4 b (.BoolOp .Or (g::e::s) Qx) (fK M n):=CD (ML c a) λ_ W W x=>Ga x
def e4.g_(c:e4 b d M):hH b d M:=ju.pt c
@[simp] def gW(M:ay Bool):ay aj:=λA=>(M A).map λq=>(.im<|.ax q.1,q.2)
def v8(c:ck b d (gW M)):bN b d λz j C=>ix M z j λe F=>C (.ax e) F:=by
 refine ej c λz j C a=>?_;let⟨A,P,m,@QE,N,ak,f,p⟩:=a;refine⟨A,P,.im<|.ax m,QE,N,ak,by unfold gW;rw[f];rfl,λu F QQ Qg g QH h=>?_⟩;rw[show u=.ax m from QH.1];exact p F QQ g (by rw[QH.2,cD]at h;exact h)
def yX(c:bN b d λz j C=>ix M z j λe F=>C (.ax e) F):ck b d (gW M):=by
 refine ej c λz j C a=>?_;let⟨A,P,s,@QE,N,ak,f,p⟩:=a;let⟨@q,l,D⟩:=cu.mp f;cases D;exact⟨A,P,q.1,_,N,ak,l,λF QQ g h=>p _ F QQ [] g ⟨rfl,rfl⟩ (by rw[cD];exact h)⟩
def lq{M:ay aj}(c:ck b d M):ck b d (gW<|bt M):=by
 refine ej c λz j C a=>?_;let⟨A,P,s,@QE,N,ak,e,p⟩:=a;let⟨@q,l,D⟩:=cu.mp e;let⟨@f,g,h⟩:=bD.mp l;let⟨@m,i,k⟩:=cu.mp h;cases k;cases D;exact⟨A,P,f.1,_,N,ak,g,by rw[qd i];exact p⟩
def MK(c:ck b g (gW M)):ck b (.UnaryOp .Not g Qx) (gW<|gB M):=by
 refine yX (ej (Hz<|v8 c) λz j C a=>?_);let⟨A,P,m,@QE,N,ak,d,p⟩:=a;let⟨@q,l,D⟩:=cu.mp d;cases D;exact⟨A,P,q.1,_,N,ak,l,λF QQ e h=>⟨_,rfl,p F QQ e h⟩⟩
def vX{QV}{M:ay aj}(c:ck b g M):ck b (.BoolOp QV [g] Qx) M:=Gh c
def ud(c:ck b g (gW M))(a:ck b (.BoolOp .And (e::s) Qx) (gW n)):ck b (.BoolOp .And (g::e::s) Qx) (gW<|e0 M n):=by
 refine yX (ej (MH (v8 c)<|v8 a) λz j C x=>?_);have:=Ff x;let⟨A,P,m,@QE,N,ak,d,p⟩:=this;exact⟨A,P,m,QE,N,ak,d,λF QQ f h=>⟨m,rfl,p F QQ f h⟩⟩
@[simp] def ys(m:ay Bool)(g e:ay aj):ay aj:=λA=>(m A).bind λq=>if q.1=X then g q.2 else e q.2
def bk.seq(g:bk j P Qm QB)(e:bk Qm QB Qz QI):bk j P Qz QI:=by
 have:=bk.trans (Qg:=[]) (by rw[cD];exact g) e (λf a=>nomatch a)
 rwa [cD]at this
def IV{Rc Q8:ay aj}(h:hH b m cY)(i:ck b g Rc)(k:ck b e Q8):ck b (.IfExp m g e Qx) (ys cY Rc Q8):=by
 refine ej (Jv h i k) λz j C n=>?_;let⟨A,P,s,@QE,N,ak,o,p⟩:=n;let⟨@⟨w,Qn⟩,l,D⟩:=bD.mp o;refine⟨A,P,w,Qn,N,ak,l,λQm QB f a=>?_⟩;cases w with
 |true=>
  rw[aE rfl]at D ⊢;exact⟨Qn,QB,s,QE,f,a.ak,D,λu Qz QI Qg c QH d=>p u Qz QI Qg c QH<|a.seq d⟩
 |false=>
  rw[aI df]at D ⊢;exact⟨Qn,QB,s,QE,f,a.ak,D,λu Qz QI Qg c QH d=>p u Qz QI Qg c QH<|a.seq d⟩
end
def jN(j:aw)(z:aU):List bI->List af->List ao->Prop
 |[],U,Qg=>U=[]/\Qg=[]
 |o::Q,U,Qg=>∃u s a bQ,U=u::s/\hr j z o u a/\jN j z Q s bQ/\Qg=a++bQ
def gv(M:ay (List bI)):eR:=(λz j C=>∃A P s QE,bu j A z P/\P.Nodup/\M A=Z (s,QE)/\∀U F QQ Qg,bu F QE z QQ->jN F z s U Qg->bk j P F (QQ++Qg)->C U F)
def fA(b:aK)(Qe:List bo)(M:ay (List bI)):Prop:=(∀ ⦃q⦄,EV b Qe (gv M) q)
def C4{w QM:eR}(c:hp b Qe w)(a:∀z j C,QM z j C->w z j C):hp b Qe QM:=λQx G h z j C E d=>c Qx G h z j C E (a z j C d)
def aD:ay (List bI):=(λA=>Z ([],A))
@[simp] def ar(M:ay bI)(c:ay (List bI)):ay (List bI):=λA=>(M A).bind λq=>(c q.2).map λp=>(q.1::p.1,p.2)
def bk.k6(h:bk j P F O)(q:O.Perm QA):bk j P F QA:=⟨h.keep,λg a=>h.sub g<|q.mem_iff.mpr a,(q.nodup_iff).mp h.ak,h.tup,h.grow⟩
def bk.less(h:bk j P F O)(q:(QA++aM).Perm O):bk j P F QA:=
 ⟨h.keep,λg a=>h.sub g<|q.mem_iff.mp<|dQ _ a,(dp.mp<|(q.nodup_iff).mpr h.ak).1,h.tup,h.grow⟩
section
variable{b:aK}
def nx:fA b [] aD:=by
 refine C4 DC λz j C a=>?_;let⟨A,P,s,@QE,N,ak,c,p⟩:=a;cases c;exact p [] j P [] N ⟨rfl,rfl⟩ (by rw[cD];exact bk.perm ak (List.Perm.refl _))
def iy{M:ay bI}{c:ay (List bI)}(i:dz b d M)(k:fA b Qe c)(Qj:bU (d::Qe) b.env=(aq,b_ d b.env)::bU Qe b.env:=by rfl):fA b (d::Qe) (ar M c):=by
 refine C4 (wI i k Qj) λz j C m=>?_;let⟨A,P,s,@QE,N,ak,n,p⟩:=m;let⟨@⟨f,Qn⟩,l,D⟩:=bD.mp n;let⟨@⟨Qw,QR⟩,q,r⟩:=cu.mp D;cases r;refine⟨A,P,f,Qn,N,ak,l,λu Qm QB h t QT a=>⟨Qn,QB,Qw,_,t,(dp.mp a.ak).1,q,λU Qz QI bQ v Q4 e=>?_⟩⟩;refine p (u::U) Qz QI (h++bQ) v ⟨u,U,h,bQ,rfl,QT.mono e.tup λg w o d=>e.keep g o d λc=>?_,Q4,rfl⟩ ((a.trans e QT.chg).k6 ?_)
 ·exact (dp.mp a.ak).2.2 g c g w rfl
 ·rw[bz];exact dT _ c4
end
def gC(A:a6):List bI->Option (List aj)
 |[]=>Z []
 |o::Q=>(ep A o).bind λv=>(gC A Q).map λJ=>v::J
def l7(j:aw):List aj->List af->Prop
 |[],U=>U=[]
 |v::J,U=>∃u s,U=u::s/\eI j v u/\l7 j J s
theorem jN.read{j:aw}{A:a6}{z:aU}{P:List ao}(N:bu j A z P):∀{Q:List bI}{U:List af}{Qg:List ao}{J:List aj},jN j z Q U Qg->gC A Q=Z J->l7 j J U
 |[],_,_,_,c,d=>by cases d;exact c.1
 |o::Q,_,_,_,c,d=>by
  let⟨u,s,g,@bQ,rfl,l,D,rfl⟩:=c;let⟨@v,a,b⟩:=bD.mp d;let⟨@J,e,f⟩:=cu.mp b;cases f;exact⟨u,s,rfl,l.read N a,jN.read N D e⟩
def eW:List bI->a6->Option (List aj×a6)
 |[],A=>Z ([],A)
 |.cm v::Q,A=>(eW Q A).map λq=>(v::q.1,q.2)
 |.aS a::Q,A=>(eY a A).bind λq=>(eW Q q.2).map λp=>(q.1::p.1,p.2)
def BE{a:Nat}(N:bu j A z P)(c:eY a A=Z (v,QE)):∃u QB Qg,z[a]?=Z (Z u)/\cw j v u Qg/\bu j QE z QB/\(QB++Qg).Perm P:=by
 unfold eY at c;split at c
 ·rename_i d b;split at c
  ·rename_i e;cases c;let⟨@u,l,D⟩:=N.ee b e;exact⟨u,P,[],l,D,N,by rw[cD]⟩
  ·cases c;let⟨u,QB,@QI,l,D,f,g⟩:=N.out b;exact⟨u,QI,QB,l,D,f,g⟩
 ·cases c
def j5:(O++(QA++aM)).Perm (QA++(O++aM)):=by
 rw[<-bz,<-bz];exact e8 _ c4
theorem oH{j:aw}{z:aU}:∀{Q:List bI}{U:List af}{Qg P:List ao}{A QE:a6}{J:List aj},bu j A z P->jN j z Q U Qg->eW Q A=Z (J,QE)->∃QB b,bu j QE z QB/\dV j J U b/\(QB++b).Perm (P++Qg)
 |[],_,_,P,_,_,_,N,c,d=>by
  cases d;exact⟨P,[],N,⟨c.1,rfl⟩,by rw[c.2]⟩
 |.cm v::Q,_,_,P,A,_,_,N,c,d=>by
  let⟨u,s,b,@bQ,rfl,l,D,rfl⟩:=c;rw[eW]at d;let⟨@q,g,h⟩:=cu.mp d;cases h;let⟨QB,@e,f,i,k⟩:=oH (QE:=q.2) (J:=q.1) N D g;exact⟨QB,b++e,f,⟨u,s,b,e,rfl,l,i,rfl⟩,j5.trans<|(dT _ k).trans j5⟩
 |.aS a::Q,_,_,P,A,_,_,N,c,d=>by
  let⟨u,s,b,@bQ,rfl,@⟨l,rfl⟩,D,rfl⟩:=c;rw[eW]at d;let⟨@⟨v,Qn⟩,n,o⟩:=bD.mp d;let⟨@q,g,h⟩:=cu.mp o;cases h;let⟨t,QB,@e,f,i,k,p⟩:=BE N n;rw[l]at f;cases f;let⟨QI,@m,QN,QW,r⟩:=oH (QE:=q.2) (J:=q.1) k D g;refine⟨QI,e++m,QN,⟨u,s,e,m,rfl,i,QW,rfl⟩,j5.trans<|(dT _ r).trans ?_⟩;rw[<-bz];exact e8 _ (c4.trans p)
@[simp] def hZ:List bI->List aj->a6->a6
 |.aS a::Q,v::J,A=>hZ Q J (match A[a]? with|some (Z .dZ)=>A.set a (Z v)|_=>A)
 |.cm _::Q,_::J,A=>hZ Q J A
 |_,_,A=>A
theorem tF{j k:aw}{z:aU}:∀{Q:List bI}{J:List aj}{U:List af}{Qg P Qu:List ao}{A:a6},bu j A z P->jN k z Q U Qu->dV j J U Qg->∃QB b,bu j (hZ Q J A) z QB/\(QB++b).Perm (P++Qg)
 |[],J,_,Qg,P,_,A,N,_,_=>⟨P,Qg,by unfold hZ;exact N,List.Perm.refl _⟩
 |.cm _::Q,[],_,Qg,P,_,A,N,_,_=>⟨P,Qg,by unfold hZ;exact N,List.Perm.refl _⟩
 |.aS _::Q,[],_,Qg,P,_,A,N,_,_=>⟨P,Qg,by unfold hZ;exact N,List.Perm.refl _⟩
 |.cm _::Q,v::J,_,Qg,P,_,A,N,c,x=>by
  let⟨u,s,m,@n,rfl,l,D,rfl⟩:=c;let⟨o,Q1,b,@bQ,d,i,h,rfl⟩:=x;cases d;let⟨QB,@e,f,g⟩:=tF (A:=A) N D h;refine⟨QB,b++e,by rw[hZ];exact f,j5.trans<|(dT _ g).trans j5⟩
 |.aS a::Q,v::J,_,Qg,P,_,A,N,c,x=>by
  let⟨u,s,m,@n,rfl,@⟨l,W⟩,D,rfl⟩:=c;let⟨o,Q1,b,@bQ,d,i,h,rfl⟩:=x;cases d;rw[hZ];split
  ·let⟨QB,@Qq,f,g⟩:=N.back i l;let⟨QI,@e,QN,QW⟩:=tF f D h;refine⟨QI,e++Qq,QN,?_⟩;rw[<-bz,<-bz];refine (e8 _ QW).trans ?_;rw[bz];refine (dT _ c4).trans ?_;rw[<-bz];exact e8 _ g
  ·let⟨QB,@e,f,g⟩:=tF N D h;exact⟨QB,b++e,f,j5.trans<|(dT _ g).trans j5⟩
def hl:List aj->Option (List V)
 |[]=>Z []
 |.im v::J=>(hl J).map λs=>v::s
 |_::_=>Y
@[simp] def tX(J:List aj):aj:=match hl J with
 |some is=>.im (.tup is)
 |none=>.oJ J
@[simp] def rH(J:List aj):aj:=match hl J with
 |some is=>.lst is
 |none=>.hz J
theorem x7{j:aw}:∀{J:List aj}{U:List af}{Qg:List ao}{is:List V},dV j J U Qg->hl J=Z is->bx j is U/\Qg=[]
 |[],_,_,_,c,d=>by cases d;exact c
 |.im v::J,_,_,_,c,d=>by
  let⟨u,s,f,@bQ,rfl,@⟨l,rfl⟩,D,rfl⟩:=c;rw[hl]at d;let⟨@q,a,b⟩:=cu.mp d;cases b;let@⟨e,rfl⟩:=x7 D a;exact⟨⟨u,s,rfl,l,e⟩,rfl⟩
 |.dZ::_,_,_,_,_,d=>by rw[hl]at d;cases d;all_goals (intro W H;cases H)
 |.cN _::_,_,_,_,_,d=>by rw[hl]at d;cases d;all_goals (intro W H;cases H)
 |.lst _::_,_,_,_,_,d=>by rw[hl]at d;cases d;all_goals (intro W H;cases H)
 |.dj _::_,_,_,_,_,d=>by rw[hl]at d;cases d;all_goals (intro W H;cases H)
 |.aJ _::_,_,_,_,_,d=>by rw[hl]at d;cases d;all_goals (intro W H;cases H)
 |.hz _::_,_,_,_,_,d=>by rw[hl]at d;cases d;all_goals (intro W H;cases H)
 |.oJ _::_,_,_,_,_,d=>by rw[hl]at d;cases d;all_goals (intro W H;cases H)
@[simp] def c7(M:ay (List bI)):ay aj:=λA=>(M A).bind λq=>(eW q.1 q.2).bind λp=>if p.1.length<=100000 then Z (tX p.1,p.2) else Y
@[simp] def e_(M:ay (List bI)):ay aj:=λA=>(M A).bind λq=>(eW q.1 q.2).bind λp=>if p.1.length<=100000 then Z (rH p.1,p.2) else Y
def Gb{J:List aj}{q:ao}(h:cP j F)(c:dV j J U Qg)(d:F q=Z (.tup U)):∃a,cw F (tX J) (.ref q) a/\a=Qg:=by
 unfold tX;split
 ·rename_i is S;let@⟨b,rfl⟩:=x7 c S;exact⟨[],⟨⟨q,U,rfl,d,b.mono h.tupS.tup⟩,rfl⟩,rfl⟩
 ·exact⟨Qg,⟨q,U,rfl,d,c.mono h.tupS λg W o p=>h g o p⟩,rfl⟩
def FQ{J:List aj}{q:ao}(h:cP j F)(c:dV j J U Qg)(d:F q=Z (.lst U)):cw F (rH J) (.ref q) (q::Qg):=by
 unfold rH;split
 ·rename_i is S;let@⟨a,rfl⟩:=x7 c S;exact⟨q,U,rfl,d,a.mono h.tupS.tup,rfl⟩
 ·exact⟨q,U,Qg,rfl,d,c.mono h.tupS λg W o p=>h g o p,rfl⟩
def m2(c:r<=100000):r<=sizeLine:=eU c ∅
def bk.add{q:ao}{o:fX}(g:bk j P Qm O)(a:Qm q=Y)(m:∀f∈O,gi Qm f):bk j P (upd Qm q o) (O++[q]):=by
 have h:cP Qm (upd Qm q o):=(cP.refl Qm).upd a;have:=bk.new (Qg:=[]) (c:=[q]) (by rw[cD];exact g) h (fi _ _) (λf b=>by rw[cV.mp b];exact a) m;exact this
def bk.same(g:bk j P Qm O)(h:cP Qm Qz):bk j P Qz O:=
 ⟨λf o d a=>h _ _<|g.keep f o d a,g.sub,g.ak,g.tup.trans h.tupS,λf o d=>let ⟨QU,b⟩:=g.grow f o d;⟨QU,h _ _ b⟩⟩
section
variable{b:aK}
def iM{e}(c:fA b Qe M):ck b (.Tuple Qe e Qx) (c7 M):=by
 refine ej (Mu c) λz j C f=>?_;let⟨A,P,s,@QE,N,ak,i,p⟩:=f;let⟨@⟨Q,Qn⟩,l,D⟩:=bD.mp i;let⟨@⟨J,QR⟩,k,a⟩:=bD.mp D;refine⟨A,P,Q,Qn,N,ak,l,λU Qm QB y m QT n=>?_⟩;let⟨QI,@bQ,r,QH,T⟩:=oH m QT k;split at a
 ·rename_i t;cases a;have u:U.length<=100000:=by rw[<-QH.length];exact t
  refine⟨m2 u,λq v=>?_⟩;have h:cP Qm (upd Qm q<|.tup U):=(cP.refl Qm).upd v;let⟨@w,x,rfl⟩:=Gb h QH fb;exact p _ _ QI w (r.mono h.tupS λg W o d=>h g o d) x ((n.k6 T.symm).same h)
 ·cases a
def gy(c:fA b Qe M):ck b (.List Qe Qx) (e_ M):=by
 refine ej (Hs c) λz j C m=>?_;let⟨A,P,s,@QE,N,ak,n,p⟩:=m;let⟨@⟨Q,Qn⟩,l,D⟩:=bD.mp n;let⟨@⟨J,QR⟩,r,e⟩:=bD.mp D;refine⟨A,P,Q,Qn,N,ak,l,λU Qm QB y t QT u=>?_⟩;let⟨QI,@bQ,i,QH,T⟩:=oH t QT r;split at e
 ·rename_i v;cases e;have w:U.length<=100000:=by rw[<-QH.length];exact v
  refine⟨m2 w,λq k=>?_⟩;have h:cP Qm (upd Qm q<|.lst U):=(cP.refl Qm).upd k;have x:=FQ h QH (q:=q) fb;refine p _ _ QI (q::bQ) (i.mono h.tupS λg W o d=>h g o d) x (((u.k6 T.symm).add k λf a=>?_).k6 ?_)
  ·rcases dK.mp a with a|a
   ·exact i.chg f a
   ·exact QH.chg f a
  ·rw[bz];exact dT _ c4
 ·cases e
def g8(b:aK)(B:ae)(QV:List aj->Option aj):Prop:=(
 en b B λy j C=>∃J v,l7 j J y/\QV J=Z v/\∀u F Qg,cP j F->cw F v u Qg->Qg.Nodup->(∀g∈Qg,j g=Y)->C u F)
@[simp] def b2(QV:List aj->Option aj)(M:ay (List bI)):ay aj:=λA=>(M A).bind λq=>(gC q.2 q.1).bind λJ=>(QV J).map λv=>(v,q.2)
def AH(c:la (b2 QV M) z j C):
  gv M z j λy Qm=>∃J v,l7 Qm J y/\QV J=Z v/\∀u F Qg,cP Qm F->cw F v u Qg->Qg.Nodup->(∀g∈Qg,Qm g=Y)->C u F:=by
 let⟨A,P,s,@QE,N,ak,e,p⟩:=c;let⟨@⟨Q,Qn⟩,l,D⟩:=bD.mp e;let⟨@J,f,h⟩:=bD.mp D;let⟨@v,i,k⟩:=cu.mp h;cases k;refine⟨A,P,Q,Qn,N,ak,l,λU Qm QB r a QT m=>⟨J,_,QT.read a f,i,λu Qz Qg b QH n q=>?_⟩⟩;exact p u Qz QB Qg (a.mono b.tupS λg W o d=>b g o d) QH (m.new b n q a.chg)
def MD{id:String}(a:g8 b (.builtin id) QV)(e:ed b f)(g:b.aH f=Y)(h:ez f=Z (.builtin id))(i:fA b (d::Qe) M)(j:f ≠ "__name__" := by decide)(k:(f==("__debug__" : aC))=aq:=by decide)(l:bU (d::Qe) b.env=(aq,b_ d b.env)::bU Qe b.env:=by rfl)(m:(gz Qx<|bU Qe b.env).any (·.1)=aq:=by rfl):
  ck b (.Call (.Name f q) (d::Qe) [] Qx) (b2 QV M):=ej (Fd a e g h i j k l m) λ_ W W c=>AH c
def hE{Qc:String}(a:g8 b (.type Qc) QV)(e:ed b f)(g:b.aH f=Y)(h:ez f=Z (.type Qc))(i:fA b (d::Qe) M)(j:f ≠ "__name__" := by decide)(k:(f==("__debug__" : aC))=aq:=by decide)(l:bU (d::Qe) b.env=(aq,b_ d b.env)::bU Qe b.env:=by rfl)(m:(gz Qx<|bU Qe b.env).any (·.1)=aq:=by rfl):
  ck b (.Call (.Name f q) (d::Qe) [] Qx) (b2 QV M):=ej (Lx a e g h i j k l m) λ_ W W c=>AH c
abbrev d2:=List aj->Option (aj×List aj)
def kg(r:Nat)(Qq:d2):cF:=(λU j C W=>U.length=r/\∃J P s G,dV j J U P/\P.Nodup/\Qq J=Z (s,G)/\∀u F Qg a,cw F s u Qg->dV F G U a->bk j P F (Qg++a)->C u F)
@[simp] def bP(r:Nat)(Qq:d2)(M:ay (List bI)):ay aj:=λA=>(M A).bind λq=>if q.1.length=r then (eW q.1 q.2).bind λp=>(Qq p.1).map λs=>(s.1,hZ q.1 s.2 p.2) else Y
theorem jN.length{j:aw}{z:aU}:∀{Q:List bI}{U:List af}{Qg:List ao},jN j z Q U Qg->Q.length=U.length
 |[],_,_,c=>by rw[c.1];rfl
 |o::Q,_,_,c=>by
  let⟨u,s,a,@bQ,rfl,l,D,rfl⟩:=c;rw[er,er,jN.length D]
def FV{Qq:d2}{Qh:f3}(c:la (bP r Qq M) z j C):yH (kg r Qq) [] Qh (gv M) z j C:=by
 let⟨A,P,s,@QE,N,ak,i,p⟩:=c;let⟨@⟨Q,Qn⟩,l,D⟩:=bD.mp i;split at D
 ·rename_i k;let⟨@⟨J,QR⟩,m,n⟩:=bD.mp D;let⟨@⟨Q1,G⟩,q,t⟩:=cu.mp n;cases t;refine⟨A,P,Q,Qn,N,ak,l,λU Qm QB S v QT w=>?_⟩;let⟨QI,bQ,f,QH,T⟩:=oH v QT m;have a:=w.k6 (T.symm.trans c4);rw[cD];refine⟨by rw[<-QT.length];exact k,J,bQ,_,G,QH,(dp.mp a.ak).1,q,λu h Qg al x y b=>?_⟩;have B:=a.trans b f.chg;have E:∀g∈QI,g∉bQ:=λg e F=>(dp.mp a.ak).2.2 g F g e rfl;have H:bu h QR z QI:=f.mono b.tup λg e o d=>b.keep g o d (E g e);let⟨I,@L,O,R⟩:=tF H QT y;refine p u h I Qg O x (B.less (aM:=L) ?_);refine List.Perm.trans ?_ c4;rw[bz];refine (dT _ c4).trans ?_;rw[<-bz];refine (e8 _ R).trans ?_;rw[bz];exact dT _ c4
 ·cases D
variable{n:Nat}
def GP{Qq:d2}{B:ao}(P:h1 b.prog b.w b.K b.aH b.base hR n B fd Qr (kg r Qq))(a:eC n b.A)(e:ed b f)(g:b.aH f=Z (.ref B))(h:Θ b.K (.ref B)=X)(i:h_ b.K fd Qr [])(j:fA b (d::Qe) M)(k:(f==("__debug__" : aC))=aq:=by decide)(l:bU (d::Qe) b.env=(aq,b_ d b.env)::bU Qe b.env:=by rfl)(m:(gz Qx<|bU Qe b.env).any (·.1)=aq:=by rfl):
  ck b (.Call (.Name f q) (d::Qe) [] Qx) (bP r Qq M):=ej (OG P a e g h i .nil Pw j k l m) λ_ U U c=>FV c
inductive mI where
 | bp|et (v:aj)|eD|bV
abbrev bR:=a6->Option (mI×a6)
def du(QK:List Nat)(z b:aU):Prop:=(b.length=z.length/\∀a∈QK,b[a]?=z[a]?)
def du.refl:du QK z z:=⟨rfl,λ_ W=>rfl⟩
def du.trans{b:aU}(g:du QK z Rp)(e:du QK Rp b):du QK z b:=⟨e.1.trans g.1,λa S=>(e.2 a S).trans<|g.2 a S⟩
def du.set{i:Nat}{u:Option af}(c:i∉QK):du QK z (z.set i u):=⟨x3,λa S=>mC λd=>c (by rw[d];exact S)⟩
def q9(QK:List Nat)(Qh:mu)(z:aU)(j:aw)(P:List ao)(QE:a6):mI->Prop
 |.bp=>∀a F QQ,du QK z a->bu F QE a QQ->bk j P F QQ->Qh.bp a F
 |.eD=>∀a F QQ,du QK z a->bu F QE a QQ->bk j P F QQ->Qh.eD a F
 |.bV=>∀a F QQ,du QK z a->bu F QE a QQ->bk j P F QQ->Qh.bV a F
 |.et v=>∀u a F QQ Qg,du QK z a->bu F QE a QQ->cw F v u Qg->bk j P F (QQ++Qg)->Qh.et u F
def oi(QK:List Nat)(M:bR):eO:=(λQh z j=>∃A P aQ QE,bu j A z P/\P.Nodup/\M A=Z (aQ,QE)/\q9 QK Qh z j P QE aQ)
def ik(b:aK)(QK:List Nat)(N:cK)(M:bR):Prop:=(∀ ⦃q⦄,Dt b N (oi QK M) q)
def iV(b:aK)(QK:List Nat)(a:List cK)(M:bR):Prop:=(∀ ⦃q⦄,Bu b a (oi QK M) q)
variable{QM:eO}
def kp{w:eO}(c:hG b N w)(a:∀Qh z j,QM Qh z j->w Qh z j):hG b N QM:=λG h z j A E d=>c G h z j A E (a A z j d)
def CU{N:List cK}{w:eO}(c:gX b N w)(a:∀Qh z j,QM Qh z j->w Qh z j):gX b N QM:=λG h z j A E d=>c G h z j A E (a A z j d)
def q9.on{aQ:mI}(c:q9 QK Qh z j P QE aQ)(Q7:du QK z Rp)(h:bk j P Qm QB):q9 QK Qh Rp Qm QB QE aQ:=by
 cases aQ with
 |bp=>exact λa F QQ B N Qd=>c a F QQ (Q7.trans B) N (h.seq Qd)
 |eD=>exact λa F QQ B N Qd=>c a F QQ (Q7.trans B) N (h.seq Qd)
 |bV=>exact λa F QQ B N Qd=>c a F QQ (Q7.trans B) N (h.seq Qd)
 |et v=>exact λu a F QQ Qg B N QH Qd=>c u a F QQ Qg (Q7.trans B) N QH (h.seq Qd)
def eo:bR:=(λA=>Z (.bp,A))
@[simp] def bE(M c:bR):bR:=λA=>(M A).bind λq=>match q.1 with
 |.bp=>c q.2
 |aQ=>Z (aQ,q.2)
def ff:iV b QK [] eo:=by
 refine CU Kw λQh z j a=>?_;let⟨A,P,aQ,@QE,N,ak,c,p⟩:=a;cases c;exact p z j P du.refl N (bk.perm ak<|List.Perm.refl _)
variable{M:bR}
def b9(c:ik b QK N M):iV b QK [N] M:=HX c
def JN{c:bR}(x:oi QK (bE M c) Qh z j):DY (oi QK M) (oi QK c) Qh z j:=by
 let⟨A,P,aQ,@QE,N,ak,a,p⟩:=x;let⟨@⟨b,Qn⟩,l,D⟩:=bD.mp a;cases b with
 |bp=>exact⟨A,P,.bp,Qn,N,ak,l,λe F QQ Q7 d h=>⟨Qn,QQ,aQ,QE,d,h.ak,D,p.on Q7 h⟩⟩
 |eD=>cases D;exact⟨A,P,.eD,Qn,N,ak,l,p⟩
 |bV=>cases D;exact⟨A,P,.bV,Qn,N,ak,l,p⟩
 |et v=>cases D;exact⟨A,P,.et v,Qn,N,ak,l,p⟩
def bO{a:List cK}{c:bR}(l:ik b QK N M)(D:iV b QK a c):iV b QK (N::a) (bE M c):=CU (IT l D) λ_ W W x=>JN x
def EP:bR:=(λ_=>Y)
def J2:ik b QK N EP:=kp HG λ_ _ _ ⟨_,_,_,_,_,_,c,_⟩=>by cases c
@[simp] def j6(M:ay aj):bR:=λA=>(M A).map λq=>(.bp,q.2)
variable{M:ay aj}
def mD(c:ck b d M)(Qj:mJ d Y Qx.line b.env=pure aq:=by rfl):ik b QK (.Expr d Qx) (j6 M):=by
 refine kp (IP c Qj) λQh z j a=>?_;let⟨A,P,aQ,@QE,N,ak,e,p⟩:=a;let⟨@⟨s,Qn⟩,l,D⟩:=cu.mp e;cases D;exact⟨A,P,s,_,N,ak,l,λu F QQ Qg f QH h=>p z F QQ du.refl f<|h.less<|List.Perm.refl _⟩
@[simp] def dw(M:ay aj):bR:=λA=>(M A).map λq=>(.et q.1,q.2)
def dM(c:ck b d M):ik b QK (.Return (Z d) Qx) (dw M):=by
 refine kp (G3 c) λQh z j a=>?_;let⟨A,P,aQ,@QE,N,ak,e,p⟩:=a;let⟨@⟨s,Qn⟩,l,D⟩:=cu.mp e;cases D;exact⟨A,P,s,_,N,ak,l,λu F QQ Qg f QH h=>p u z F QQ Qg du.refl f QH h⟩
@[simp] def dy(m:ay Bool)(g e:bR):bR:=λA=>(m A).bind λq=>if q.1=X then g q.2 else e q.2
variable{Q8:bR}
def eQ{g e:List cK}{Rc:bR}(d:hH b m cY)(f:iV b QK g Rc)(h:iV b QK e Q8):ik b QK (.If m g e Qx) (dy cY Rc Q8):=by
 refine kp (Ie d f h) λQh z j i=>?_;let⟨A,P,aQ,@QE,N,ak,k,p⟩:=i;let⟨@⟨w,Qn⟩,l,D⟩:=bD.mp k;refine⟨A,P,w,Qn,N,ak,l,λQm QB c a=>?_⟩;cases w with
 |true=>
  rw[aE rfl]at D ⊢;exact⟨Qn,QB,aQ,QE,c,a.ak,D,p.on du.refl a⟩
 |false=>
  rw[aI df]at D ⊢;exact⟨Qn,QB,aQ,QE,c,a.ak,D,p.on du.refl a⟩
@[simp] def bY(a:Nat)(M:ay aj):bR:=λA=>(M A).bind λq=>if a<q.2.length then Z (.bp,q.2.set a<|Z q.1) else Y
variable{a:Nat}
def ma{i:Pos}(c:b.N.Nodup)(S:b.N[a]?=Z f)(e:jk b.env.scope f)(g:ck b d M)(h:a∉QK)(Qj:mJ d (Z<|.Name f i) Qx.line b.env=pure aq:=by rfl)(k:b.fn f=X\/b.env.scope.names.lookup f=Z .local:=by first|exact .inl rfl|exact .inr rfl|assumption):ik b QK (.Assign [.Name f i] d Qx) (bY a M):=by
 refine kp (Mz c S e g Qj k) λQh z j m=>?_;let⟨A,P,aQ,@QE,N,ak,n,p⟩:=m;let⟨@⟨s,Qn⟩,l,D⟩:=bD.mp n;split at D
 ·rename_i o;cases D;refine⟨A,P,s,_,N,ak,l,λu Qm QB Qg q QH r=>?_⟩;let⟨QI,@bQ,t,T⟩:=q.put (a:=a) QH o;exact p _ Qm QI (du.set h) t (r.less T)
 ·cases D
abbrev fa:=aj->a6->Option a6
def ve(QK:List Nat)(M:fa):fJ:=(λu z j C=>∃A P v Qg QE,bu j A z P/\cw j v u Qg/\(P++Qg).Nodup/\M v A=Z QE/\∀a F QQ,du QK z a->bu F QE a QQ->bk j (P++Qg) F QQ->C a F)
def gN(b:aK)(QK:List Nat)(d:bo)(M:fa):Prop:=(∀ ⦃q⦄,EA b d (ve QK M) q)
def sG{w QM:fJ}(c:iK b d w)(a:∀u z j C,QM u z j C->w u z j C):iK b d QM:=λG h z j f u C E s e=>c G h z j f u C E s (a f z j C e)
@[simp] def bJ(a:Nat):fa:=λv A=>if a<A.length then Z (A.set a<|Z v) else Y
def tw(d:b.N.Nodup)(S:b.N[a]?=Z f)(e:jk b.env.scope f)(g:a∉QK)(h:b.fn f=X\/b.env.scope.names.lookup f=Z .local:=by first|exact .inl rfl|exact .inr rfl|assumption):gN b QK (.Name f Qx) (bJ a):=by
 refine sG (N7 d S e h) λu z j C i=>?_;let⟨A,P,v,Qg,@QE,N,QH,ak,c,p⟩:=i;unfold bJ at c;split at c
 ·rename_i k;cases c;let⟨QI,@bQ,l,T⟩:=N.put (a:=a) QH k;exact p _ j QI (du.set g) l ((bk.perm ak<|List.Perm.refl _).less T)
 ·cases c
def F_(QK:List Nat)(M:List aj->a6->Option a6):iD:=(λU z j C=>∃A P J Qg QE,bu j A z P/\dV j J U Qg/\(P++Qg).Nodup/\M J A=Z QE/\∀a F QQ,du QK z a->bu F QE a QQ->bk j (P++Qg) F QQ->C a F)
def px(b:aK)(QK:List Nat)(Qe:List bo)(M:List aj->a6->Option a6):Prop:=(∀ ⦃q⦄,Eh b Qe (F_ QK M) q)
@[simp] def lA:List aj->a6->Option a6
 |[],A=>Z A
 |_,_=>Y
@[simp] def hk(M:fa)(c:List aj->a6->Option a6):List aj->a6->Option a6
 |v::J,A=>(M v A).bind (c J)
 |_,_=>Y
def E1{w QM:iD}(c:mR b Qe w)(a:∀u z j C,QM u z j C->w u z j C):mR b Qe QM:=λG h z j y U C E s d=>c G h z j y U C E s (a y z j C d)
def yB:px b QK [] lA:=by
 refine E1 Pt λU z j C c=>?_;let⟨A,P,J,Qg,@QE,N,QH,ak,a,p⟩:=c;cases J with
 |cons v J=>cases a
 |nil=>
  cases a;exact⟨QH.1,p z j P du.refl N<|(bk.perm ak<|List.Perm.refl _).less<|List.Perm.refl _⟩
def sJ{M:fa}(l:gN b QK d M)(D:px b QK Qe c)(Qj:(eT (d::Qe) b.env).map (·.2)=hJ d b.env::(eT Qe b.env).map (·.2):=by rfl):px b QK (d::Qe) (hk M c):=by
 refine E1 (L0 l D Qj) λU z j C t=>?_;let⟨A,P,J,Qg,@QE,N,QH,ak,m,p⟩:=t;cases J with
 |nil=>cases m
 |cons v J=>
  let⟨u,s,h,@bQ,rfl,w,n,rfl⟩:=QH;let⟨@Qn,x,y⟩:=bD.mp (show (M v A).bind (c J)=Z QE from m);have k:((P++h)++bQ).Nodup:=by rw[bz];exact ak
  refine⟨u,s,rfl,A,P,v,h,Qn,N,w,(dp.mp k).1,x,λRp Qm QB Q7 B f=>?_⟩;have q:∀g∈bQ,g∉P++h:=λg a i=>(dp.mp k).2.2 g i g a rfl;have E:dV Qm J s bQ:=n.mono f.tup λg a o d=>f.keep g o d (q g a);have r:bk j (P++(h++bQ)) Qm (QB++bQ):=by
   refine⟨λg o d a=>f.keep g o d λc=>a ?_,λg a=>?_,dp.mpr ⟨f.ak,(dp.mp k).2.1,λg a e i d=>?_⟩,f.tup,f.grow⟩
   ·rw[<-bz];exact dQ _ c
   ·rcases dK.mp a with a|a
    ·rcases f.sub g a with c|c
     ·left;rw[<-bz];exact dQ _ c
     ·exact .inr c
    ·left;rw[<-bz];exact dP _ a
   ·subst d;rcases f.sub g a with c|c
    ·exact q g i c
    ·let⟨@o,d,W⟩:=n.chg g i;rw[d]at c;cases c
  exact⟨Qn,QB,J,bQ,QE,B,E,r.ak,y,λF Qz QI G H I=>p F Qz QI (Q7.trans G) H<|r.seq I⟩
@[simp] def mY(r:Nat)(c:List aj->a6->Option a6):fa:=λv A=>match v with
 |.im (.tup is)=>if is.length=r then c (is.map .im) A else Y
 |.oJ J=>if J.length=r then c J A else Y
 |_=>Y
theorem vc{j:aw}:∀{is:List V}{U:List af},bx j is U->dV j (is.map .im) U []
 |[],U,c=>⟨c,rfl⟩
 |v::is,U,c=>by
  let⟨u,@s,rfl,l,D⟩:=c;exact⟨u,s,[],[],rfl,⟨l,rfl⟩,vc D,rfl⟩
def Mk(e:b.calm=X)(Qj:px b QK Qe c)(f:(eT Qe b.env).length=r:=by rfl)(h:(eT Qe b.env).findIdx? (·.1)=Y:=by rfl):gN b QK (.Tuple Qe n Qx) (mY r c):=by
 refine sG (KZ e Qj f h) λu z j C i=>?_;let⟨A,P,v,Qg,@QE,N,QH,ak,a,p⟩:=i;unfold mY at a;split at a
 ·rename_i is;split at a
  ·rename_i d;let@⟨⟨g,@y,rfl,l,D⟩,rfl⟩:=QH;exact⟨g,y,rfl,cb.of l,by rw[<-D.length];exact d,A,P,_,[],QE,N,vc D,ak,a,p⟩
  ·cases a
 ·rename_i J;split at a
  ·rename_i d;let⟨g,@y,rfl,l,D⟩:=QH;exact⟨g,y,rfl,cb.of l,by rw[<-D.length];exact d,A,P,_,Qg,QE,N,D,ak,a,p⟩
  ·cases a
 ·cases a
@[simp] def hU(M:ay aj)(c:fa):bR:=λA=>(M A).bind λq=>(c q.1 q.2).map λQE=>(.bp,QE)
def k4{c:fa}(e:ck b d M)(f:gN b QK QL c)(Qj:DE [QL] d Qx.line b.env=pure aq:=by rfl)(g:Ah [QL] d b.env=pure Y:=by rfl)(l:(eT [QL] b.env).map (·.2)=[hJ QL b.env]:=by rfl):ik b QK (.Assign [QL] d Qx) (hU M c):=by
 refine kp (O1 e f Qj g l) λQh z j h=>?_;let⟨A,P,aQ,@QE,N,ak,i,p⟩:=h;let⟨@⟨s,Qn⟩,g1,g2⟩:=bD.mp i;let⟨@QR,k,m⟩:=cu.mp g2;cases m;exact⟨A,P,s,Qn,N,ak,g1,λu Qm QB Qg n QH a=>⟨Qn,QB,s,Qg,_,n,QH,a.ak,k,λo F QQ Q7 q r=>p o F QQ Q7 q<|a.seq r⟩⟩
def h2(m:ay Bool)(e:bR):Nat->bR
 |0=>λ_=>Y
 |r+1=>λA=>(m A).bind λq=>if q.1=X then (e q.2).bind λp=>match p.1 with
  |.bp=>h2 m e r p.2
  |.bV=>h2 m e r p.2
  |.eD=>Z (.bp,p.2)
  |.et v=>Z (.et v,p.2) else Z (.bp,q.2)
def rq(r:Nat)(o:rb (aN b.prog b.w) b.A b.env b.cE)(q:hH b m cY)(s:iV b QK Ro Q8):ik b QK (.While m Ro [] Qx) (h2 cY Q8 r):=by
 refine kp (HM o q s) λQh z j t=>?_;let⟨A,P,aQ,@QE,N,ak,y,p⟩:=t;refine⟨λk a F=>∃g QQ,bu F g a QQ/\du QK z a/\bk j P F QQ/\h2 cY Q8 k g=Z (aQ,QE),⟨r,A,P,N,du.refl,bk.perm ak<|List.Perm.refl _,y⟩,?_⟩;rintro k Rp Qm ⟨Qn,QB,C,h,e,x⟩;cases k with
 |zero=>cases x
 |succ k=>
  rw[h2]at x;let⟨@⟨w,QR⟩,D,i⟩:=bD.mp x;refine⟨Qn,QB,w,QR,C,e.ak,D,λQz QI n f=>?_⟩;cases w with
  |false=>
   rw[aI df]at i ⊢;cases i;exact p Rp Qz QI h n (e.seq f)
  |true=>
   rw[aE rfl]at i ⊢;let⟨@⟨B,Rg⟩,E,l⟩:=bD.mp i;refine⟨λa F=>∃g QQ,bu F g a QQ/\du QK z a/\bk j P F QQ/\h2 cY Q8 k g=Z (aQ,QE),λa F c=>⟨k,oD k,c⟩,QR,QI,B,Rg,n,f.ak,E,?_⟩;cases B with
   |bp=>exact λa F QQ Q7 d Qd=>⟨Rg,QQ,d,h.trans Q7,(e.seq f).seq Qd,l⟩
   |bV=>exact λa F QQ Q7 d Qd=>⟨Rg,QQ,d,h.trans Q7,(e.seq f).seq Qd,l⟩
   |eD=>
    cases l;exact λa F QQ Q7 d Qd=>p a F QQ (h.trans Q7) d ((e.seq f).seq Qd)
   |et v=>
    cases l;exact λu a F QQ Qg Q7 d QH Qd=>p u a F QQ Qg (h.trans Q7) d QH ((e.seq f).seq Qd)
structure lG(R:eL)(j:aw)(Qg:List ao)(J:List V):Prop where
 go:∀F,fy j F->(∀g∈Qg,∀o,j g=Z o->F g=Z o)->∀(a:Nat) (v:V),J[a]?=Z v->R.go a F/\∀f wM,R.pg a F f wM->cP F wM/\cp wM v f
 stop:∀F,fy j F->(∀g∈Qg,∀o,j g=Z o->F g=Z o)->R.stop J.length F
def pl(j:aw)(z:aU)(Qg:List ao):Option (Nat×aj)->Prop
 |none=>True
 |some (a,v)=>∃u,z[a]?=Z (Z u)/\cw j v u Qg
def x6(M:ay (List V×Option (Nat×aj))):cU:=(λz j a=>∃A P s QE,bu j A z P/\P.Nodup/\M A=Z (s,QE)/\∀R F QQ Qg,bu F QE z QQ->lG R F Qg s.1->pl F z Qg s.2->(∀g∈Qg,gi F g)->bk j P F (QQ++Qg)->a R F)
def lF(b:aK)(QL Q_:bo)(M:ay (List V×Option (Nat×aj))):Prop:=(∀ ⦃q⦄,Ap b QL Q_ (x6 M) q)
def xT{w QM:cU}(c:ki b QL Q_ w)(a:∀z j Qg,QM z j Qg->w z j Qg):ki b QL Q_ QM:=λG h z j Qg E d=>c G h z j Qg E (a z j Qg d)
def ek(QL:fa)(e:bR):List V->bR
 |[]=>λA=>Z (.bp,A)
 |f::s=>λA=>(QL (.im f) A).bind λQn=>(e Qn).bind λp=>match p.1 with
  |.bp=>ek QL e s p.2
  |.bV=>ek QL e s p.2
  |.eD=>Z (.bp,p.2)
  |.et v=>Z (.et v,p.2)
@[simp] def kX:Option (Nat×aj)->a6->a6
 |none,A=>A
 |some (a,v),A=>match A[a]? with
  |some (Z .dZ)=>A.set a (Z v)
  |_=>A
@[simp] def gD(M:ay (List V×Option (Nat×aj)))(QL:fa)(e:bR):bR:=λA=>(M A).bind λq=>(ek QL e q.1.1 q.2).map λp=>(p.1,kX q.1.2 p.2)
def u3{o:Option (Nat×aj)}(N:bu j A z P)(c:pl j z Qg o):∃QB Qq,bu j (kX o A) z QB/\(QB++Qq).Perm (P++Qg):=by
 cases o with
 |none=>exact⟨P,Qg,N,List.Perm.refl _⟩
 |some q=>
  let⟨a,v⟩:=q;let⟨@u,l,D⟩:=c;unfold kX;dsimp only;split
  ·exact N.back D l
  ·exact⟨P,Qg,N,List.Perm.refl _⟩
def mB(Q7:List Nat):Option (Nat×aj)->Prop
 |none=>True
 |some (a,_)=>a∈Q7
def GS{M:ay (List V×Option (Nat×aj))}{I:fa}(hf:rb (aN b.prog b.w) b.A b.env b.cE)(hm:b.calm=X)(S:lF b QL Q_ M)(hw:gN b Q7 QL I)(h0:iV b Q7 Ro Q8)(cs:∀a∈QK,a∈Q7)(Qj:∀A s QE,M A=Z (s,QE)->mB Q7 s.2)(db:hG b (.For QL Q_ Ro [] Qx) (yW (x6 M) (ve Q7 I)<|oi Q7 Q8)):ik b QK (.For QL Q_ Ro [] Qx) (gD M I Q8):=by
 refine kp db λQh z j ds=>?_;let⟨A,P,aQ,@QE,N,ak,dL,p⟩:=ds;let⟨@⟨⟨J,o⟩,Qn⟩,l,D⟩:=bD.mp dL;let⟨@⟨B,QR⟩,eq,ev⟩:=cu.mp D;cases ev;refine⟨A,P,(J,o),Qn,N,ak,l,λR Qm QB Qg ex it fd bi an=>?_⟩;have fn:mB Q7 o:=Qj A _ _ l;have bm:=dp.mp an.ak;have ap:∀{Qz:aw}{QI:List ao},bk Qm QB Qz QI->∀g∈Qg,∀L,Qm g=Z L->Qz g=Z L:=λh g fr L d=>h.keep g L d λc=>bm.2.2 g c g fr rfl;have bn:∀{Qz:aw}{QI:List ao}{e:aU},bk Qm QB Qz QI->du Q7 z e->pl Qz e Qg o:=λ{Qz QI e} h B=>by
  cases o with
  |none=>trivial
  |some q=>
   let⟨a,v⟩:=q;let⟨@u,f0,f1⟩:=fd;exact⟨u,(B.2 a fn).trans f0,f1.mono h.tup<|ap h⟩
 have bs:∀{e:aU},du Q7 z e->du QK z e:=λB=>⟨B.1,λa S=>B.2 a<|cs a S⟩;have bv:∀{e:aU}{Qz:aw}{QI:List ao}{QR:a6},q9 QK Qh z j P (kX o QR) .bp->du Q7 z e->bu Qz QR e QI->bk Qm QB Qz QI->Qh.bp e Qz:=λ{e Qz QI QR} p B as t=>by
  let⟨G,@Qq,a1,T⟩:=u3 as (bn t B);exact p e Qz G (bs B) a1 ((an.trans t bi).less T)
 refine⟨λa k a2 F=>k+a=J.length/\∃i QQ,du Q7 z a2/\bu F i a2 QQ/\bk Qm QB F QQ/\ek I Q8 (J.drop a) i=Z (B,QR),⟨J.length,rfl,Qn,QB,du.refl,ex,bk.perm bm.1<|List.Perm.refl _,eq⟩,?_⟩;rintro a k a2 F ⟨ii,i,QQ,y,ca,Qd,H⟩;by_cases cd:a<J.length
 ·let@⟨f2,f4⟩:=it.go F Qd.tup (ap Qd) a J[a] (by simp[cd]);rw[i2 cd,ek]at H;let⟨@Rg,f8,ga⟩:=bD.mp H;let⟨@⟨ce,bd⟩,ge,Q⟩:=bD.mp ga;refine .inr ⟨f2,λe Qz=>(k-1)+(a+1)=J.length/\∃i QQ,du Q7 z e/\bu Qz i e QQ/\bk Qm QB Qz QQ/\ek I Q8 (J.drop<|a+1) i=Z (B,QR),λe Qz c=>⟨k-1,⋯,c⟩,λf Qz gl=>?_⟩;let@⟨be,gt⟩:=f4 f Qz gl;have as:=ca.mono be.tupS λg W o d=>be g o d;have t:=Qd.same be;refine⟨i,QQ,.im J[a],[],Rg,as,⟨gt,rfl⟩,by rw[cD];exact t.ak,f8,λio g1 G U a1 ch=>?_⟩;have C:bk Qm QB g1 G:=t.seq (by rw[cD]at ch;exact ch);refine⟨Rg,G,ce,bd,a1,C.ak,ge,?_⟩;cases ce with
  |bp=>exact λal am E m n r=>⟨⋯,bd,E,(y.trans U).trans m,n,C.seq r,Q⟩
  |bV=>exact λal am E m n r=>⟨⋯,bd,E,(y.trans U).trans m,n,C.seq r,Q⟩
  |eD=>
   cases Q;exact λal am E m n r=>bv p ((y.trans U).trans m) n (C.seq r)
  |et v=>
   cases Q;intro u al am E ci m n g2 r;have cl:=C.seq r;have co:=(y.trans U).trans m;let⟨cr,@g3,hd,he⟩:=u3 (Qg:=Qg) n (bn cl co);refine p u al am cr ci (bs co) hd g2 ((an.trans cl bi).less (aM:=g3) ?_);rw[bz];refine (dT cr c4).trans ?_;rw[<-bz];refine (e8 ci he).trans ?_;rw[bz,bz];exact dT _ c4
 ·have S:a=J.length:=⋯
  subst S;refine .inl ⟨it.stop F Qd.tup<|ap Qd,?_⟩;rw[mS (bf _)]at H;cases H;exact bv p y ca Qd
end
section
variable{b:aK}
variable{I:fa}
def kz{M:ay (List V×Option (Nat×aj))}{Q8:bR}(c:rb (aN b.prog b.w) b.A b.env b.cE)(d:b.calm=X)(S:lF b QL Q_ M)(e:gN b Q7 QL I)(g:iV b Q7 Ro Q8)(h:∀a∈QK,a∈Q7)(Qj:∀A s QE,M A=Z (s,QE)->mB Q7 s.2)(i:∀f,lM Q_ b.env f=pure f:=by intro W;rfl):ik b QK (.For QL Q_ Ro [] Qx) (gD M I Q8):=
 GS c d S e g h Qj (G5 c d S e g i)
def JA(Qk:Φ)(Rr:bX):cU:=(λz j Qg=>Rr z j λf Qm=>∃g,f=.ref g/\(((∃y,cQ Qk Qm g y)/\Qg (ra Qk g) Qm)\/((∃y,cb Qk Qm g y)/\Qg (sh Qk g) Qm)))
variable{t:bo}
def Hr{Rr:bX}(m:bN b t Rr):ki b QL t (JA b.K Rr):=by
 intro G h z j Qg E c;refine bS (m G h z j _ E c) λu a n=>?_;let⟨f,@Qm,i,r,s⟩:=n;let⟨@g,d,p⟩:=s;subst d;cases r;rcases p with ⟨⟨y,k⟩,p⟩|⟨⟨y,k⟩,p⟩
 ·let⟨@Qp,v,q,w⟩:=i.list k;refine qm q.isList ?_;refine⟨a.heap.objs.size,[a.heap.objs.size],_,_,Qm,rfl,i.kept (QM:=a.toks) λe o d=>b3 _ d,IH g _,⟨_,c9 _ rfl,rfl,rfl⟩,λe l=>?_,p⟩;have d:e=a.heap.objs.size:=by simpa using l
  subst d;exact i.ts (bf _) (i.a3.fresh<|bf _)
 ·let⟨@Qp,v,q,w⟩:=i.tuple k;refine wpAny_pyIter_tuple (show a.heap.IsTuple g Qp.toArray from q) ?_;refine⟨a.heap.objs.size,[a.heap.objs.size],_,_,Qm,rfl,i.kept (QM:=a.toks) λe o d=>b3 _ d,Mx g _,⟨_,c9 _ rfl,rfl,rfl⟩,λe l=>?_,p⟩;have d:e=a.heap.objs.size:=by simpa using l
  subst d;exact i.ts (bf _) (i.a3.fresh<|bf _)
theorem bx.get{j:aw}:∀{J:List V}{U:List af}{a:Nat}{v:V},bx j J U->J[a]?=Z v->∃u,U[a]?=Z u/\cp j v u
 |[],_,_,_,_,d=>by simp at d
 |v::J,_,0,_,c,d=>by
  let⟨u,@s,rfl,l,D⟩:=c;simp at d;subst d;exact⟨u,rfl,l⟩
 |v::J,_,a+1,_,c,d=>by
  let⟨u,@s,rfl,l,D⟩:=c;let⟨@L,b,e⟩:=bx.get (a:=a) D ⇑d;exact⟨L,by simpa using b,e⟩
variable{g:ao}
theorem NU(c:j g=Z (.lst y))(e:bx j J y):lG (ra Qk g) j [g] J where
 go:=λF w n a v d=>by
  let⟨@u,b,h⟩:=e.get d;have T:=cQ.of (Qk:=Qk) (n g (.head _) _ c);refine⟨⟨y,u,T,b⟩,λf l ⟨i,k⟩=>?_⟩;subst i;rw[k y T]at b;cases b;exact⟨cP.refl _,h.mono w.tup⟩
 stop:=λF w n=>⟨y,cQ.of<|n g (.head _) _ c,by rw[<-e.length];exact bf _⟩
theorem KN{o:a0}(c:j g=Z (.dJ o<|.lst y))(e:bx j J y):lG (ra Qk g) j [] J where
 go:=λF w n a v d=>by
  let⟨@u,b,h⟩:=e.get d;have T:cQ Qk F g y:=.inl (.inr ⟨o,w.dJ _ _ _ c⟩);refine⟨⟨y,u,T,b⟩,λf l ⟨i,k⟩=>?_⟩;subst i;rw[k y T]at b;cases b;exact⟨cP.refl _,h.mono w.tup⟩
 stop:=λF w n=>⟨y,.inl<|.inr ⟨o,w.dJ _ _ _ c⟩,by rw[<-e.length];exact bf _⟩
theorem Gp(c:j g=Z (.tup y))(e:bx j J y):lG (sh Qk g) j [] J where
 go:=λF w n a v d=>by
  let⟨@u,b,h⟩:=e.get d;have T:=cb.of (Qk:=Qk) (w.tup g _ c);refine⟨⟨y,u,T,b⟩,λf l ⟨i,k⟩=>?_⟩;subst i;rw[k y T]at b;cases b;exact⟨cP.refl _,h.mono w.tup⟩
 stop:=λF w n=>⟨y,cb.of<|w.tup g _ c,by rw[<-e.length];exact bf _⟩
abbrev jy:=ay (List V×Option (Nat×aj))
@[simp] def jG(v:aj):Option (List V):=match v with
 |.im (.tup J)=>Z J
 |.lst J=>Z J
 |.cN J=>Z J
 |_=>Y
@[simp] def cR(M:ay bI):jy:=λA=>(M A).bind λq=>match q.1 with
 |.cm v=>(jG v).map λJ=>((J,Y),q.2)
 |.aS a=>(eY a q.2).bind λp=>(jG p.1).map λJ=>((J,if p.1.ee=X then Y else Z (a,p.1)),p.2)
def E6(x:cw j v u Qg)(d:jG v=Z J):
  ∃g,u=.ref g/\(((∃y,cQ Qk j g y)/\lG (ra Qk g) j Qg J)\/((∃y,cb Qk j g y)/\lG (sh Qk g) j Qg J)):=by
 unfold jG at d;split at d
 ·cases d;let@⟨⟨g,@y,rfl,l,D⟩,rfl⟩:=x;exact⟨g,rfl,.inr ⟨⟨y,cb.of l⟩,Gp l D⟩⟩
 ·cases d;let⟨g,@y,rfl,l,D,rfl⟩:=x;exact⟨g,rfl,.inl ⟨⟨y,cQ.of l⟩,NU l D⟩⟩
 ·cases d;let⟨g,y,@o,rfl,l,D,rfl⟩:=x;exact⟨g,rfl,.inl ⟨⟨y,.inl<|.inr ⟨o,l⟩⟩,KN l D⟩⟩
 ·cases d
def fo{M:ay bI}(c:dz b t M):lF b QL t (cR M):=by
 refine xT (Hr c) λz j F x=>?_;let⟨A,P,s,@QE,N,ak,y,p⟩:=x;let⟨@⟨f,Qn⟩,l,D⟩:=bD.mp y;refine⟨A,P,f,Qn,N,ak,l,λu Qm QB Qg i QT e=>?_⟩;cases f with
 |cm v=>
  let⟨@J,k,m⟩:=cu.mp D;cases m;let⟨@g,rfl,n⟩:=E6 (Qk:=b.K) QT k;refine⟨g,rfl,?_⟩;rcases n with ⟨d,it⟩|⟨d,it⟩
  ·exact .inl ⟨d,p _ Qm QB Qg i it trivial (cw.chg QT) e⟩
  ·exact .inr ⟨d,p _ Qm QB Qg i it trivial (cw.chg QT) e⟩
 |aS a=>
  let⟨@⟨v,QR⟩,k,m⟩:=bD.mp D;let⟨@J,B,C⟩:=cu.mp m;cases C;let⟨G,QI,@bQ,o,h,q,E⟩:=BE i k;let@⟨QT,rfl⟩:=QT;rw[QT]at o;cases o;rw[cD]at e;have r:=e.k6 E.symm;let⟨@g,rfl,n⟩:=E6 (Qk:=b.K) h B;have w:pl Qm z bQ (if v.ee=X then Y else Z (a,v)):=by
   split
   ·trivial
   ·exact⟨_,QT,h⟩
  refine⟨g,rfl,?_⟩;rcases n with ⟨d,it⟩|⟨d,it⟩
  ·exact .inl ⟨d,p _ Qm QI bQ q it w h.chg r⟩
  ·exact .inr ⟨d,p _ Qm QI bQ q it w h.chg r⟩
def w5{M:ay aj}:∀A s QE,cR (ag M) A=Z (s,QE)->mB Q7 s.2:=by
 intro A s QE c;let⟨@⟨f,Qn⟩,l,D⟩:=bD.mp c;unfold ag at l;let⟨@q,d,a⟩:=cu.mp l;cases a;let⟨@J,e,b⟩:=cu.mp D;cases b
 trivial
variable{a:Nat}
def vW(S:a∈Q7):∀A s QE,cR (ai a) A=Z (s,QE)->mB Q7 s.2:=by
 intro A s QE c;let⟨@⟨f,Qn⟩,l,D⟩:=bD.mp c;unfold ai at l;split at l
 ·cases l;let⟨@⟨v,QR⟩,e,b⟩:=bD.mp D;let⟨@J,g,d⟩:=cu.mp b;cases d;show mB Q7 (if v.ee=X then Y else Z (a,v));split
  ·trivial
  ·exact S
 ·cases l
def fN(R:Int)(r:Nat):List V:=((range r).map λ(n:Nat)=>V.int (R+(n:Int)))
theorem Jf{R:Int}:lG (sE R r) j [] (fN R r) where
 go:=λF w n a v d=>by
  have S:a<r:=by
   have:=(e9.mp d).1
   rwa [fN,bq,hb]at this
  refine⟨S,λf e ⟨b,c⟩=>?_⟩;subst b;rw[fN,eG,List.getElem?_range S]at d;cases d;exact⟨cP.refl _,c⟩
 stop:=λF w n=>by
  show r<=_;rw[fN,bq,hb];exact bf _
def pk(a:Int):Prop :=( -1000000<=a/\a<=1000000)
noncomputable instance (a:Int):Decidable (pk a):=inferInstanceAs (Decidable<|_/\_)
@[simp] def iz(M:ay (List bI)):jy:=λA=>(M A).bind λq=>(gC q.2 q.1).bind λJ=>match J with
 |[.im (.int i)]=>if pk i then Z ((fN 0 i.toNat,Y),q.2) else Y
 |_=>Y
def zb{v:V}(c:l7 j [.im v] U):∃u,U=[u]/\cp j v u:=by
 let⟨u,@s,rfl,⟨@Qg,l,W⟩,D⟩:=c;cases (show s=[] from D);exact⟨u,rfl,l⟩
def w1{v d:V}(c:l7 j [.im v,.im d] U):∃u L,U=[u,L]/\cp j v u/\cp j d L:=by
 let⟨u,@s,rfl,⟨@Qg,l,W⟩,D⟩:=c;let⟨@L,rfl,a⟩:=zb D;exact⟨u,L,rfl,l,a⟩
def qc{g:bo}(h:ed b "range")(k:b.aH "range" = Y)(c:fA b [g] M)(Qj:bU [g] b.env=[(aq,b_ g b.env)]:=by rfl):lF b QL (.Call (.Name "range" q) [g] [] Qx) (iz M):=by
 refine xT (GB h k c Qj) λz j v m=>?_;let⟨A,P,s,@QE,N,ak,n,p⟩:=m;let⟨@⟨Q,Qn⟩,l,D⟩:=bD.mp n;let⟨@J,o,a⟩:=bD.mp D;refine⟨A,P,Q,Qn,N,ak,l,λU Qm QB w e QT r=>?_⟩;have t:=QT.read e o;split at a
 ·rename_i i;split at a
  ·rename_i f;cases a;let⟨@u,rfl,d⟩:=zb t;cases (show u=.int i from d);exact⟨i,rfl,by have:=f.1;lia,by have:=f.2;lia,p _ Qm QB [] e Jf trivial (λg c=>nomatch c) (by rw[cD];exact r.less (List.Perm.refl _))⟩
  ·cases a
 ·cases a
def vn:∀A s QE,iz M A=Z (s,QE)->mB Q7 s.2:=by
 intro A s QE c;let⟨@⟨Q,Qn⟩,l,D⟩:=bD.mp c;let⟨@J,b,a⟩:=bD.mp D;split at a
 ·split at a
  ·cases a;trivial
  ·cases a
 ·cases a
def sZ(b:aK)(Rl:List bo)(M:ay Bool):Prop:=(∀ ⦃q⦄,EI b Rl (ix M) q)
def dW:ay Bool:=(λA=>Z (X,A))
def xE:sZ b [] dW:=by
 intro G h z j C E a;let⟨A,P,e,@QE,N,ak,c,p⟩:=a;cases c;exact HQ G h z j C E (p j P N<|bk.perm ak<|List.Perm.refl _)
def nL{M:ay Bool}(c:hH b m M):sZ b [m] M:=JQ c
@[simp] def js(QJ:List Nat)(A:a6):a6:=QJ.map λa=>A.getD a Y
def jW:List Nat->a6->a6
 |[],A=>A
 |a::s,A=>jW s (match A[a]? with|some (Z _)=>A.set a (Z .dZ)|_=>A)
@[simp] def h3:List Nat->a6->a6->a6
 |a::s,o::aM,A=>h3 s aM (A.set a o)
 |_,_,A=>A
def gu(own:Nat)(QL:fa)(m:ay Bool)(d:ay aj): List V -> List V -> a6 -> Option (List V × a6)
  |[],a,aM => Z (a,aM)
  |f :: s,a,aM => (QL (.im f)<|List.replicate own Y ++ aM).bind λQn => (m Qn).bind λq => if q.1=X then (d q.2).bind λp => match p.1 with
      |.im v => if a.length<100000 then gu own QL m d s (a ++ [v]) (p.2.drop own) else Y
      |_ => Y
    else gu own QL m d s a (q.2.drop own)
@[simp] def cO(own:Nat)(QJ:List Nat)(Rn:jy)(QL:fa)(m:ay Bool)(d:ay aj):ay aj:=λA=>(Rn A).bind λq=>(gu own QL m d q.1.1 []<|js QJ q.2).map λp=>(.lst p.1,kX q.1.2<|h3 QJ p.2 q.2)
def nV(own r:Nat):List Nat:=((range r).map (·+own))
def Ld(c:A[a]?=Z o):A.getD a Y=o:=by rw[cx,c];rfl
def bu.void(N:bu j A z P)(a:Nat):∃QB QI,bu j (match A[a]? with|some (Z _)=>A.set a (Z .dZ)|_=>A) z QB/\lV j (A.getD a Y) (z.getD a Y) QI/\(QB++QI).Perm P:=by
 split
 ·rename_i v b;let⟨u,QB,@QI,l,D,c,e⟩:=N.out b;refine⟨QI,QB,c,?_,e⟩;rw[Ld b,cx,l];exact⟨u,rfl,D⟩
 ·rename_i f;refine⟨P,[],N,?_,by rw[cD]⟩;have:A.getD a Y=Y:=by
   rw[cx];cases d:A[a]? with
   |none=>rfl
   |some o=>
    cases o with
    |none=>rfl
    |some v=>exact absurd d (f v)
  rw[this];exact rfl
theorem y9{j:aw}{z:aU}:∀{QJ:List Nat}{A:a6}{P:List ao},QJ.Nodup->bu j A z P->∃QB QI,bu j (jW QJ A) z QB/\bu j (js QJ A) (QJ.map λa=>z.getD a Y) QI/\(QB++QI).Perm P
 |[],A,P,_,N=>⟨P,[],N,⟨rfl,rfl⟩,by rw[cD]⟩
 |a::s,A,P,ak,N=>by
  let⟨QB,@QI,l,D,f⟩:=N.void a;have b:=iw.mp ak;let⟨g,@c,h,e,k⟩:=y9 (QJ:=s) b.2 l;refine⟨g,QI++c,h,⟨_,_,QI,c,rfl,D,?_,rfl⟩,j5.trans<|(dT _ k).trans<|c4.trans f⟩;have d:js s (match A[a]? with|some (Z _)=>A.set a (Z .dZ)|_=>A)=js s A:=by
   unfold js;refine oK λi m=>?_;split
   ·rw[cx,cx,mC];rintro rfl;exact b.1 m
   ·rfl
  rw[d]at e;exact e
def bu.OT(N:bu j A z P)(c:lV j o (z.getD a Y) Qq):∃QB QI,bu j (A.set a o) z QB/\(QB++QI).Perm (P++Qq):=by
 cases o with
 |some v=>
  let⟨@u,d,x⟩:=c;refine N.back x ?_;rw[cx]at d;cases p:z[a]? with
  |none=>rw[p]at d;cases d
  |some f=>rw[p]at d;rw[show f=Z u from d]
 |none=>
  cases (show Qq=[] from c);rw[cD];by_cases S:a<A.length
  ·cases p:A[a]? with
   |none=>exact absurd (List.getElem?_eq_none_iff.mp p) ⋯
   |some f=>
    cases f with
    |none=>
     refine⟨P,[],?_,by rw[cD]⟩;have:A.set a Y=A:=by
      refine pb λi=>?_;by_cases d:a=i
      ·subst d;rw[p,tj S]
      ·rw[mC d]
     rw[this];exact N
    |some v=>
     let⟨u,QB,@QI,l,D,m,n⟩:=N.out p;have gen:∀{A:a6}{z:aU}{P:List ao}{a:Nat},bu j A z P->∃QB QI,bu j (A.set a Y) z QB/\(QB++QI).Perm P:=by
      intro A;induction A with
      |nil=>intro z P a N;exact⟨P,[],by simpa using N,by rw[cD]⟩
      |cons o A e=>
       intro z P a N;let⟨f,s,O,@QA,rfl,g,b,rfl⟩:=N;cases a with
       |zero=>exact⟨QA,O,⟨f,s,[],QA,rfl,rfl,b,rfl⟩,c4⟩
       |succ a=>
        let⟨aM,@Qh,h,k⟩:=e (a:=a) b;refine⟨O++aM,Qh,⟨f,s,O,aM,rfl,g,h,rfl⟩,?_⟩;rw[bz];exact dT _ k
     exact gen N
  ·refine⟨P,[],?_,by rw[cD]⟩;rw[List.set_eq_of_length_le ⋯];exact N
theorem C_{j:aw}{z:aU}:∀{QJ:List Nat}{aM A:a6}{P Qq:List ao},bu j A z P->bu j aM (QJ.map λa=>z.getD a Y) Qq->∃QB QI,bu j (h3 QJ aM A) z QB/\(QB++QI).Perm (P++Qq)
 |[],aM,A,P,Qq,N,_=>⟨P,Qq,by cases aM<;>exact N,List.Perm.refl _⟩
 |a::s,[],A,P,Qq,N,c=>⟨P,Qq,N,List.Perm.refl _⟩
 |a::s,o::aM,A,P,Qq,N,c=>by
  let⟨f,w,g,@h,d,l,D,rfl⟩:=c;cases d;let⟨QB,@O,b,e⟩:=N.OT l;let⟨QI,@QA,QN,QW⟩:=C_ (QJ:=s) (aM:=aM) b D;refine⟨QI,QA++O,QN,?_⟩;rw[<-bz,<-bz];refine (e8 O QW).trans ?_;rw[bz];refine (dT QB c4).trans ?_;rw[<-bz];exact e8 _ e
def LY:∀{QJ:List Nat}{aM A:a6},QJ.length=aM.length->QJ.Nodup->h3 QJ aM (jW QJ A)=h3 QJ aM A:=by
 have k:∀{s:List Nat}{aM A:a6}{a:Nat}{o:Option aj},a∉s->h3 s aM (A.set a o)=(h3 s aM A).set a o:=by
  intro s;induction s with
  |nil=>intro aM A a o W;cases aM<;>rfl
  |cons i s b=>
   intro aM A a o c;cases aM with
   |nil=>rfl
   |cons m aM=>
    have f:a≠i:=λd=>c (by rw[d];exact .head _);show h3 s aM ((A.set a o).set i m)=(h3 s aM<|A.set i m).set a o;rw[B4 _ _ f,b λH=>c<|.tail _ H]
 have g:∀{s:List Nat}{A:a6}{a:Nat}{o:Option aj},a∉s->jW s (A.set a o)=(jW s A).set a o:=by
  intro s;induction s with
  |nil=>intro A a o W;rfl
  |cons i s b=>
   intro A a o c;have f:a≠i:=λd=>c (by rw[d];exact .head _);show jW s (match (A.set a o)[i]? with|some (Z _)=>(A.set a o).set i (Z .dZ)|_=>A.set a o)=(jW s (match A[i]? with|some (Z _)=>A.set i (Z .dZ)|_=>A)).set a o;rw[mC f];cases A[i]? with
   |none=>exact b λH=>c (.tail _ H)
   |some p=>
    cases p with
    |none=>exact b λH=>c (.tail _ H)
    |some v=>
     show jW s ((A.set a o).set i<|Z .dZ)=_;rw[B4 _ _ f];exact b λH=>c (.tail _ H)
 intro QJ;induction QJ with
 |nil=>intro aM A W W;cases aM<;>rfl
 |cons a s b=>
  intro aM A h ak;have e:=iw.mp ak;cases aM with
  |nil=>cases h
  |cons m aM=>
   have j:s.length=aM.length:=by simpa using h
   show h3 s aM ((jW s (match A[a]? with|some (Z _)=>A.set a (Z .dZ)|_=>A)).set a m)=h3 s aM (A.set a m);split
   ·rw[g e.1,xW,<-g e.1,b j e.2]
   ·rw[<-g e.1,b j e.2]
theorem Bw{j:aw}{A:a6}{s:aU}{P:List ao}(c:bu j A s P):∀{own:List aC},bu j (List.replicate own.length Y++A) (own.map (λ_=>Y)++s) P
 |[]=>c
 |f::own=>⟨Y,_,[],P,rfl,rfl,Bw c (own:=own),rfl⟩
theorem xl{j:aw}:∀{r:Nat}{A:a6}{z:aU}{P:List ao},bu j A z P->∃QB QI,bu j (A.drop r) (z.drop r) QB/\(QB++QI).Perm P
 |0,A,z,P,c=>⟨P,[],c,by rw[cD]⟩
 |r+1,[],z,P,c=>by
  cases c.1;exact⟨[],P,⟨rfl,rfl⟩,List.Perm.refl _⟩
 |r+1,o::A,z,P,c=>by
  let⟨f,s,O,@QA,rfl,l,D,rfl⟩:=c;let⟨QB,@QI,a,b⟩:=xl (r:=r) D;exact⟨QB,QI++O,a,by rw[<-bz];exact (e8 O b).trans c4⟩
def bk.both(g:bk j P Qm (QB++Qg)):bk j P Qm QB:=g.less (List.Perm.refl _)
theorem bx.snoc:∀{J:List V}{U:List af}{v:V}{u:af},bx j J U->cp j v u->bx j (J++[v]) (U++[u])
 |[],U,v,u,c,x=>by cases (show U=[] from c);exact⟨u,[],rfl,x,rfl⟩
 |d::J,U,v,u,c,x=>by
  let⟨L,@s,rfl,l,D⟩:=c;exact⟨L,s++[u],rfl,l,D.snoc x⟩
variable{Rn:jy}
def Ab(ak:QJ.Nodup)(c:la (cO own.length QJ Rn I cY Rq) z j C):
  tH own QJ (x6 Rn) (λ_=>ve (nV own.length QJ.length) I) (λ_=>ix cY) (λ_=>la Rq) z j C:=by
 let⟨A,P,s,@QE,N,f4,f8,p⟩:=c;let⟨@⟨⟨y,o⟩,Qn⟩,l,D⟩:=bD.mp f8;let⟨@⟨J,cd⟩,ga,ge⟩:=cu.mp D;cases ge;refine⟨A,P,(y,o),Qn,N,f4,l,λR Qm QB Qg gl it gt g1 g2 mb=>?_⟩;let⟨am,@G,ce,w,T⟩:=y9 ak gl;have ch:bk j P Qm (G++(am++Qg)):=g2.k6 (by
  refine (e8 Qg T.symm).trans ?_;rw[bz];exact j5)
 have ci:=dp.mp ch.ak;have g3:∀f∈am++Qg,gi Qm f:=λf B=>by
  rcases dK.mp B with B|B
  ·exact ce.chg f B
  ·exact g1 f B
 have an:∀{Qz:aw}{QI:List ao},bk Qm G Qz QI->∀g∈am++Qg,∀L,Qm g=Z L->Qz g=Z L:=λh g b L d=>h.keep g L d λc=>ci.2.2 g c g b rfl;refine⟨λa k Qw F=>k+a=y.length/\∃n aM E,bu F aM (QJ.map λa=>z.getD a Y) E/\aM.length=QJ.length/\bk Qm G F E/\bx F n Qw/\gu own.length I cY Rq (y.drop a) n aM=Z (J,cd),
  ⟨y.length,rfl,[],js QJ Qn,G,w,by rw[js,bq],bk.perm ci.1<|List.Perm.refl _,rfl,ga⟩,?_⟩;rintro a k Qw F ⟨ap,n,aM,E,cl,hd,Qd,co,as⟩;by_cases cr:a<y.length
 ·let@⟨he,hf⟩:=it.go F Qd.tup (λg b=>an Qd g<|dP _ b) a y[a] (by simp[cr]);rw[i2 cr,gu]at as;let⟨@Rg,hm,hw⟩:=bD.mp as;let⟨@⟨e,bd⟩,h0,Q⟩:=bD.mp hw;refine .inr ⟨he,λcs Qz=>(k-1)+(a+1)=y.length/\∃n aM E,bu Qz aM (QJ.map λa=>z.getD a Y) E/\aM.length=QJ.length/\bk Qm G Qz E/\bx Qz n cs/\gu own.length I cY Rq (y.drop<|a+1) n aM=Z (J,cd),λcs Qz c=>⟨k-1,⋯,c⟩,λf Qz B=>?_⟩;let@⟨t,ii⟩:=hf f Qz B;have io:=cl.mono t.tupS λg W o d=>t g o d;have db:=Qd.same t;have a1:=co.mono t.tupS.tup;refine⟨List.replicate own.length Y++aM,E,.im y[a],[],Rg,Bw io,⟨ii,rfl⟩,by rw[cD];exact db.ak,hm,λbe jp ds a2 dL bi=>⟨λi u m=>?_,?_⟩⟩
  ·
   have mo:own.length<=i:=by
    by_cases kt:i<own.length
    ·rw[ja,ij ⇑kt,eG]at m;cases d:own[i]? with
     |none=>rw[d]at m;cases m
     |some H=>rw[d]at m;cases m
    ·lia
   have ms:i<own.length+QJ.length:=by
    have:=(e9.mp m).1
    rwa [ja,dF,bq,bq]at this
   have ap:i∈nV own.length QJ.length:=cJ.mpr ⟨i-own.length,eX.mpr ⋯,⋯⟩;exact (a2.2 i ap).trans m
  ·have eq:bk Qm G jp ds:=db.seq (by rw[cD]at bi;exact bi);have a1:=a1.mono bi.tup.tup;have ev:be.drop own.length=QJ.map λa=>z.getD a Y:=by
    have m0:=dL.len;refine pb λi=>?_;by_cases m:i<QJ.length
    ·have ap:i+own.length∈nV own.length QJ.length:=cJ.mpr ⟨i,eX.mpr m,rfl⟩;have:=a2.2 _ ap;rw[lI,BG,this,ja,jo ↥0,bq,Nat.add_sub_cancel]
    ·have aZ:be.length<=own.length+QJ.length:=by
      rw[a2.1,ja,dF,bq,bq];exact bf _
     rw[tB (by rw[gb];lia),tB (by rw[bq];lia)]
   have ex:be.length=own.length+QJ.length:=by rw[a2.1,ja,dF,bq,bq]
   refine⟨Rg,ds,e,bd,dL,eq.ak,h0,λna bm M bn=>?_⟩;have U:=eq.seq bn;dsimp only at Q ⊢;cases e with
   |false=>
    rw[aI df]at Q ⊢;let⟨al,@fd,x,bs⟩:=xl (r:=own.length) M;rw[ev]at x;exact⟨⋯,n,bd.drop own.length,al,x,by rw[gb,M.len,ex];lia,U.less bs,a1.mono bn.tup.tup,Q⟩
   |true=>
    rw[aE rfl]at Q ⊢;let⟨@⟨u,fn⟩,kw,O⟩:=bD.mp Q;dsimp only at O;split at O
    ·rename_i v;split at O
     ·rename_i nb;refine⟨bd,bm,.im v,fn,M,U.ak,kw,λL ne al nl x QH bv=>?_⟩;let@⟨lc,rfl⟩:=QH;rw[cD]at bv;have fr:=(a1.mono bn.tup.tup).mono bv.tup.tup;refine⟨uj (show Qw.length<=100000 by rw[<-fr.length];lia) ∅,?_⟩;let⟨lf,@nm,f0,li⟩:=xl (r:=own.length) x;rw[ev]at f0;exact⟨⋯,n++[v],fn.drop own.length,lf,f0,by rw[gb,x.len,ex];lia,(U.seq bv).less li,fr.snoc lc,O⟩
     ·cases O
    ·cases O
 ·have S:a=y.length:=⋯
  subst S;refine .inl ⟨it.stop F Qd.tup<|λg b=>an Qd g<|dP _ b,λca f1=>?_⟩;rw[mS (bf _),gu]at as;cases as;have lm:bu F (jW QJ Qn) z am:=ce.mono Qd.tup λg b=>an Qd g (dQ _ b);let⟨bm,@f2,M,ln⟩:=C_ lm cl;rw[LY (by rw[hd]) ak]at M;have ls:pl F z Qg o:=by
   cases o with
   |none=>trivial
   |some q=>
    let⟨a,v⟩:=q;let⟨@u,lv,lw⟩:=gt;exact⟨u,lv,lw.mono Qd.tup λg b=>an Qd g<|dP _ b⟩
  let⟨al,@fd,x,bs⟩:=u3 (Qg:=Qg) M ls;have t:cP F (upd F ca<|.lst Qw):=(cP.refl F).upd f1;have U:bk j P F al:=(ch.trans Qd g3).less (aM:=fd++f2) (by
   rw[<-bz];refine (e8 f2 bs).trans ?_;rw[bz];refine (dT bm c4).trans ?_;rw[<-bz];refine (e8 Qg ln).trans ?_;rw[bz];exact j5)
  exact p _ _ al [ca] (x.mono t.tupS λg W o d=>t g o d) ⟨ca,Qw,rfl,fb,co.mono t.tupS.tup,rfl⟩ (U.add f1 x.chg)
def uu{Rm:bo}{Rl:List bo}{QF:gf}(d:b.calm=X)(Qu:i0 b QF own QJ)(ak:QJ.Nodup)(S:lF b QL Q_ Rn)(e:∀a,gN (b.fl (ft b own QJ) QF a) (nV own.length QJ.length) QL I)(ba:∀a,sZ (b.fl (ft b own QJ) QF a) Rl cY)(g:∀a,ck (b.fl (ft b own QJ) QF a) Rm Rq)(Qj:∀f,lM Q_ b.env f=pure f:=by intro W;rfl):ck b (.ListComp Rm [⟨QL,Q_,Rl,0⟩] QF Qx) (cO own.length QJ Rn I cY Rq):=
 ej (FY d Qu S e ba g Qj) λz j C c=>Ab ak c
end
@[simp] def ia(QK:List Nat):List aj->a6->Nat->List aj
 |v::J,o::A,i=>(if v.ee=X then v else if i∈QK then o.getD .dZ else .dZ)::ia QK J A (i+1)
 |v::J,[],i=>(if v.ee=X then v else .dZ)::ia QK J [] (i+1)
 |[],_,_=>[]
@[simp] def d6(r k:Nat)(QK:List Nat)(M:bR):d2:=λJ=>if J.length=r then match M (J.map Z++List.replicate (k-r) Y) with
 |some (.et s,A)=>Z (s,ia QK J A 0)
 |some (.bp,A)=>Z (.im .aT,ia QK J A 0)
 |_=>Y else Y
theorem y2{j:aw}:∀{J:List aj}{U:List af}{P:List ao}{k:Nat},dV j J U P->bu j (J.map Z++List.replicate k Y) (U.map Z++List.replicate k Y) P
 |[],U,P,k,c=>by
  let@⟨rfl,rfl⟩:=c;show bu j (List.replicate k Y) (List.replicate k Y) [];induction k with
  |zero=>exact⟨rfl,rfl⟩
  |succ k a=>exact⟨Y,_,[],[],rfl,rfl,a,rfl⟩
 |v::J,U,P,k,c=>by
  let⟨u,s,QB,@QI,rfl,l,D,rfl⟩:=c;exact⟨Z u,_,QB,QI,rfl,⟨u,rfl,l⟩,y2 D,rfl⟩
theorem v7{j F:aw}{QK:List Nat}(w:fy j F):∀{J:List aj}{U:List af}{p:List ao}{A:a6}{z:aU}{P:List ao}{a:Nat},dV j J U p->bu F A z P->(∀(i:Nat) (u:af),(a+i)∈QK->U[i]?=Z u->z[i]?=Z (Z u))->
  ∃Qg Qq,dV F (ia QK J A a) U Qg/\(Qg++Qq).Perm P
 |[],U,p,A,z,P,a,c,N,_=>⟨[],P,by unfold ia;exact⟨c.1,rfl⟩,List.Perm.refl _⟩
 |v::J,U,p,[],z,P,a,c,N,n=>by
  let⟨u,s,O,@QA,rfl,l,D,rfl⟩:=c;let@⟨rfl,rfl⟩:=N;let⟨Qg,@Qq,b,e⟩:=v7 (A:=[]) (z:=[]) (P:=[]) (a:=a+1) w D ⟨rfl,rfl⟩ λi u q r=>by
   have:=n (i+1) u (by rw[show a+(i+1)=a+1+i by lia];exact q) ⇑r;simp at this
  rw[ia];refine⟨Qg,Qq,⟨u,s,[],Qg,rfl,?_,b,rfl⟩,e⟩;split
  ·rename_i k;have:=l.mono w λg m=>by rw[l.ee k]at m;cases m
   rw[l.ee k]at this;exact this
  ·exact rfl
 |v::J,U,p,o::A,z,P,a,c,N,n=>by
  let⟨u,s,O,@QA,rfl,l,D,rfl⟩:=c;let⟨f,h,aM,@Qh,rfl,y,B,rfl⟩:=N;let⟨Qg,@Qq,b,e⟩:=v7 (A:=A) (z:=h) (a:=a+1) w D B λi u q r=>by
   have:=n (i+1) u (by rw[show a+(i+1)=a+1+i by lia];exact q) ⇑r;simpa using this
  rw[ia];split
  ·rename_i k;have t:=l.mono w λg m=>by rw[l.ee k]at m;cases m
   rw[l.ee k]at t;refine⟨Qg,Qq++aM,⟨u,s,[],Qg,rfl,t,b,rfl⟩,?_⟩;rw[<-bz];exact (e8 aM e).trans c4
  ·split
   ·rename_i C;have E:f=Z u:=by
     have:=n 0 u C rfl;simpa using this
    subst E;cases o with
    |none=>
     refine⟨Qg,Qq++aM,⟨u,s,[],Qg,rfl,rfl,b,rfl⟩,?_⟩;rw[<-bz];exact (e8 aM e).trans c4
    |some d=>
     let⟨@H,G,x⟩:=y;cases G;refine⟨aM++Qg,Qq,⟨u,s,aM,Qg,rfl,x,b,rfl⟩,?_⟩;rw[bz];exact dT _ e
   ·refine⟨Qg,Qq++aM,⟨u,s,[],Qg,rfl,rfl,b,rfl⟩,?_⟩;rw[<-bz];exact (e8 aM e).trans c4
section
variable{Qf:bA}{x:bc}{Qk:Φ}{aH:aC->Option ae}{Qv:aV}
def KJ{Rb:aC}{B:ao}{QO:List aC}{n:Nat}{M:bR}(P:fD Qk f Rb N B fd)(Qu:nj QO Qr (dr N))(w:Qr.length=r)(L:∀a∈QK,a<r)(y:∀(H:ae) (O:bj) (Q5:List ew) (h:ah) (j:aw) (Qh:f3),eC n (O.deeper<|iP Rb (dr N) h.heap.objs.size B H)->iV (kl hR Qf x Qk aH Qv QO Rb (dr N) B H O Q5 h j Qh).nu QK (fF N) M):
  h1 Qf x Qk aH Qv hR (n+1) B fd Qr (kg r<|d6 r QO.length QK M):=by
 refine P.ok Qu (λU j C Qh c=>c.1.trans w.symm) (λH O Q5 h j U C Qh z c=>⟨_,y H O Q5 h j Qh z,?_⟩);let@⟨m,⟨J,l,s,@G,QH,ak,b,p⟩⟩:=c;have A:J.length=r:=QH.length.trans m;unfold d6 at b;rw[aE A]at b;have N:=y2 (k:=QO.length-r) QH;have Qe:start QO U=U.map Z++List.replicate (QO.length-r) Y:=by unfold start;rw[m]
 rw[Qe];have o:∀{e:aU}{F:aw}{QQ:List ao}{QE:a6}{u:af}{Qg:List ao},ia QK J QE 0=G->du QK (U.map Z++List.replicate (QO.length-r) Y) e->bu F QE e QQ->cw F s u Qg->bk j l F (QQ++Qg)->C u F:=λ{e F QQ QE u Qg} D Q7 g I Qd=>by
  let⟨bQ,@Qq,q,E⟩:=v7 (QK:=QK) (a:=0) Qd.tup QH g λi u t v=>by
   rw[Nat.zero_add]at t;rw[Q7.2 i t,ij (by rw[bq];exact (e9.mp v).1),eG,v];rfl
  rw[D]at q;refine p u F Qg bQ I q (Qd.less (aM:=Qq) ?_);rw[bz];exact (dT Qg E).trans c4
 split at b
 ·rename_i Q1 QE d;cases b;exact⟨_,l,.et s,QE,N,ak,d,λu e F QQ Qg Q7 g I Qd=>o rfl Q7 g I Qd⟩
 ·rename_i QE d;cases b;exact⟨_,l,.bp,QE,N,ak,d,λe F QQ Q7 g Qd=>o rfl Q7 g ⟨rfl,rfl⟩ (by rw[cD];exact Qd)⟩
 ·cases b
end
def b4(j:aw)(v:aj)(C:cz):Prop:=(∀u F Qg,cP j F->cw F v u Qg->Qg.Nodup->(∀g∈Qg,j g=Y)->C u F)
def b4.AB{v:V}(p:b4 j (.im v) C)(h:cP j F)(c:cp F v u):C u F:=p u F [] h ⟨c,rfl⟩ hi (λg a=>nomatch a)
def b4.i{j:aw}{v:V}{C:cz}{u:af}(p:b4 j (.im v) C)(c:cp j v u):C u j:=p.AB (cP.refl j) c
def b4.l{q:ao}(p:b4 j (.lst J) C)(a:j q=Y)(c:bx j J y):C (.ref q) (upd j q<|.lst y):=by
 have h:cP j (upd j q<|.lst y):=(cP.refl j).upd a;exact p _ _ [q] h ⟨q,y,rfl,fb,c.mono h.tupS.tup,rfl⟩ (fi _ _) λg b=>by rw[cV.mp b];exact a
def b4.t{j:aw}{J:List V}{y:List af}{C:cz}{q:ao}(p:b4 j (.im<|.tup J) C)(a:j q=Y)(c:bx j J y):C (.ref q) (upd j q<|.tup y):=by
 have h:cP j (upd j q<|.tup y):=(cP.refl j).upd a;exact p.AB h ⟨q,y,rfl,fb,c.mono h.tupS.tup⟩
section
variable{b:aK}
def dC.imp{B:ae->ae->dA ae}{s:bQ}(c:dC b B s)(a:∀f I j C,Q1 f I j C->s f I j C):dC b B Q1:=λG h z j f I u L C E d e g=>c G h z j f I u L C E d e (a f I j C g)
def en.imp{B:ae}{s Q1:List af->aw->cz->Prop}(c:en b B s)(a:∀y j C,Q1 y j C->s y j C):en b B Q1:=λG h z j y QD C E d e=>c G h z j y QD C E d (a y j C e)
def h4.imp{s:bQ}(c:h4 b s)(a:∀f I j C,Q1 f I j C->s f I j C):h4 b Q1:=λd e G h z j f I u L C E g i k=>c d e G h z j f I u L C E g i (a f I j C k)
def eI.i{j:aw}{v:V}{u:af}(c:eI j (.im v) u):cp j v u:=c.elim λ_ x=>x.1
end
abbrev fV:=aj->aj->Option aj
@[simp] def ih(aM:Int->Int->Bool)(M:Int->Int->V):fV:=λg e=>match g,e with
 |.im (.int a),.im (.int i)=>if aM a i=X then Z (.im<|M a i) else Y
 |_,_=>Y
def Bo{aM:Int->Int->Bool}{M:Int->Int->V}{g e:aj}(c:ih aM M g e=Z v):∃a i,g=.im (.int a)/\e=.im (.int i)/\aM a i=X/\v=.im (M a i):=by
 unfold ih at c;split at c
 ·rename_i a i;split at c
  ·rename_i b;cases c;exact⟨a,i,rfl,rfl,b,rfl⟩
  ·cases c
 ·cases c
section
variable{b:aK}
variable{B:ae->ae->dA ae}{M:Int->Int->af}{c:Int->Int->V}
def sM{aM:Int->Int->Prop}{QA:Int->Int->Bool}(o:dC b B (o2 aM M))(e:∀a i,QA a i=X->aM a i)(g:∀j a i,cp j (c a i)<|M a i):e6 b B (ih QA c):=
 o.imp λf I j C ⟨QZ,Q2,v,h,k,d,p⟩=>by
  let⟨a,@i,rfl,rfl,l,rfl⟩:=Bo d;exact⟨a,i,h.i,k.i,e a i l,b4.i p<|g j a i⟩
def qA(o:dC b B (kQ M))(e:∀j a i,cp j (c a i)<|M a i):e6 b B (ih (λ_ W=>X) c):=
 o.imp λf I j C ⟨QZ,Q2,v,g,h,d,p⟩=>by
  let⟨a,@i,rfl,rfl,k,rfl⟩:=Bo d;exact⟨a,i,g.i,h.i,b4.i p<|e j a i⟩
@[simp] def lp:fV:=ih (λ_ W=>X) λa i=>.int (a-i)
def gH(a i:Int):Bool:=(!(decide (bl.Int.intBits a>tO)&&decide (bl.Int.intBits i>tO)&&bl.Int.intTooBig (bl.Int.intBits a+bl.Int.intBits i)))
@[simp] def h8:fV:=ih gH λa i=>.int (a*i)
@[simp] def l5:fV:=ih (λ_ i=>decide (0<i/\i<1073741824)) λa i=>.int (a/i)
@[simp] def hj:fV:=ih (λ_ i=>decide (0<i)) λa i=>.int (a%i)
@[simp] def q6:fV:=ih (λa i=>decide (0<=i/\i<=1000000/\a.natAbs<2^64)) λa i=>.int (a^i.toNat)
@[simp] def v3:fV:=ih (λ_ W=>X) λa i=>.ax (decide (a<i))
@[simp] def h5:fV:=ih (λ_ W=>X) λa i=>.ax (decide (a<=i))
@[simp] def nF:fV:=ih (λ_ W=>X) λa i=>.ax (decide (i<a))
@[simp] def BC:fV:=ih (λ_ W=>X) λa i=>.ax (decide (i<=a))
def pY:e6 b (fG .Sub) lp:=qA I8 λ_ W W=>rfl
def j1:e6 b (fG .Mult) h8:=sM J_ (λa i c=>by unfold gH at c;unfold IntMulOk;rw[jC]at c;rw[c];exact df) λ_ W W=>rfl
def qS:e6 b (fG .FloorDiv) l5:=sM NK (λa i c=>show 0<i/\i<1073741824 from hS c) λ_ W W=>rfl
def ig:e6 b (fG .Mod) hj:=sM Hd (λa i c=>hS c) λ_ W W=>rfl
def sx:e6 b (fG .Pow) q6:=sM Ml (λa i c=>show 0<=i/\i<=1000000/\a.natAbs<2^64 from hS c) λ_ W W=>rfl
def PE:e6 b (d4 .Lt) v3:=qA Oy λ_ W W=>rfl
def rJ:e6 b (d4 .LtE) h5:=qA Nz λ_ W W=>rfl
def vY:e6 b (d4 .Gt) nF:=qA Km λ_ W W=>rfl
def O4:e6 b (d4 .GtE) BC:=qA KQ λ_ W W=>rfl
def KC:dC b (fG .Add) (λf I j C=>∃g e Qw,f=.ref g/\I=.ref e/\cb b.K j g []/\cb b.K j e Qw/\C (.ref e) j):=by
 intro G h z j f I u L C E o q c;let⟨g,e,@Qw,rfl,rfl,s,t,p⟩:=c;cases o;cases q;let⟨@Qp,v,w,W⟩:=E.tuple s;let⟨@D,F,Q3,W⟩:=E.tuple t;have d:Qp=[]:=v.t4.mpr rfl;subst d;let⟨@⟨cls,x,data,aS⟩,a,i,⟨@r,k⟩⟩:=id w;let⟨@⟨H,y,data2,A⟩,l,m,⟨@B,n⟩⟩:=id Q3;simp only at i k m n;subst i k m n;exact vR ⟨_,a,rfl⟩ ⟨_,l,rfl⟩ we vf wN wR (xF _ _) (tuple_addW0 g e _ _ r B x y aS A rfl) ⟨a,l,.ref e,j,E,rfl,p⟩
@[simp] def eE:fV:=λg e=>match g,e with
 |.im (.int a),.im (.int i)=>Z (.im<|.int<|a+i)
 |.im (.tup f),.im (.tup I)=>if f.length+I.length<=100000 then Z (.im<|.tup<|f++I) else Y
 |.lst f,.lst I=>if f.length+I.length<=100000 then Z (.lst<|f++I) else Y
 |.im (.str f),.im (.str I)=>if f.length+I.length<=100000 then Z (.im<|.str<|f++I) else Y
 |_,_=>Y
theorem bx.app:∀{g e:List V}{f I:List af},bx j g f->bx j e I->bx j (g++e) (f++I)
 |[],e,f,I,c,n=>by cases (show f=[] from c);exact n
 |v::g,e,f,I,c,n=>by
  let⟨u,@s,rfl,l,D⟩:=c;exact⟨u,s++I,rfl,l,D.app n⟩
def bx.nil{j:aw}{g:List V}(c:bx j g []):g=[]:=by
 cases g with
 |nil=>rfl
 |cons v g=>let⟨W,@W,d,W⟩:=c;cases d
def gm:e6 b (fG .Add) eE:=by
 refine (HC.or<|KC.or<|Ij.or<|It.or Kj).imp λf I j C z=>?_;let⟨QZ,Q2,@v,n,o,d,p⟩:=z;unfold eE at d;split at d
 ·cases d;exact .inl ⟨_,_,n.i,o.i,b4.i p rfl⟩
 ·rename_i g e;split at d
  ·rename_i h;cases d;let⟨q,@y,rfl,l,D⟩:=n.i;let⟨k,@Qw,rfl,m,c⟩:=o.i;refine .inr ?_;by_cases u:y=[]
   ·subst u;cases D.nil;exact .inl ⟨q,k,Qw,rfl,rfl,cb.of l,cb.of m,b4.i p ⟨k,Qw,rfl,m,c⟩⟩
   ·refine .inr (.inl ⟨q,k,y,Qw,rfl,rfl,cb.of l,cb.of m,u,m2 (by rw[<-D.length,<-c.length];exact h),λx=>?_,λx r s=>b4.t p s<|D.app c⟩);subst x;cases c.nil;rw[cD]at p;exact b4.i p ⟨q,y,rfl,l,D⟩
  ·cases d
 ·rename_i g e;split at d
  ·rename_i h;cases d;let⟨W,q,@y,rfl,l,D,W⟩:=n;let⟨W,k,@Qw,rfl,m,c,W⟩:=o;exact .inr (.inr (.inr (.inl ⟨q,k,y,Qw,rfl,rfl,l,m,m2 (by rw[<-D.length,<-c.length];exact h),λr s=>b4.l p s<|D.app c⟩)))
  ·cases d
 ·rename_i g e;split at d
  ·rename_i h;cases d;exact .inr (.inr<|.inr<|.inr ⟨g,e,n.i,o.i,m2 h,b4.i p rfl⟩)
  ·cases d
 ·cases d
def Gm(r:Nat){O:bj}{f I:V}{L u:ae}(n:V.bg r f=X)(aX:V.bg r I=X)(Q:O.units+r+2<bL)(q:dq h.heap f L)(b:dq h.heap I u):SeqAt.RcAt O h L u (cf f I):=by
 cases f with
 |aT=>
  cases (show L=.none from q);cases I with
  |aT=>cases (show u=.none from b);exact Ic
  |ax e=>cases (show u=.bool e from b);exact Gn e
  |int i=>let⟨@w,rfl⟩:=b;exact Nr i w
  |str H=>let⟨@w,rfl⟩:=b;exact F2 H w
  |tup J=>let⟨g,o,Qy,@k,rfl,l,D,j,W⟩:=b;exact G2 ⟨o,l,D,k,j⟩ ⋯
  |fn g=>cases r<;>cases aX
  |aQ g=>cases r<;>cases aX
  |fd=>cases r<;>cases aX
 |ax e=>
  cases (show L=.bool e from q);cases I with
  |aT=>cases (show u=.none from b);exact OK e
  |ax m=>cases (show u=.bool m from b);exact H5 e m
  |int i=>let⟨@w,rfl⟩:=b;exact H6 e i w
  |str H=>let⟨@w,rfl⟩:=b;exact LQ e H w
  |tup J=>let⟨g,o,Qy,@k,rfl,l,D,j,W⟩:=b;exact HZ e ⟨o,l,D,k,j⟩ ⋯
  |fn g=>cases r<;>cases aX
  |aQ g=>cases r<;>cases aX
  |fd=>cases r<;>cases aX
 |int a=>
  let⟨@c,rfl⟩:=q;cases I with
  |aT=>cases (show u=.none from b);exact Iz a c
  |ax m=>cases (show u=.bool m from b);exact Ip a c m
  |int i=>let⟨@w,rfl⟩:=b;exact OM a c i w
  |str H=>let⟨@w,rfl⟩:=b;exact Ib a c H w
  |tup J=>let⟨g,o,Qy,@k,rfl,l,D,j,W⟩:=b;exact J7 a c ⟨o,l,D,k,j⟩ ⋯
  |fn g=>cases r<;>cases aX
  |aQ g=>cases r<;>cases aX
  |fd=>cases r<;>cases aX
 |str a=>
  let⟨@c,rfl⟩:=q;cases I with
  |aT=>cases (show u=.none from b);exact F8 a c
  |ax m=>cases (show u=.bool m from b);exact KU a c m
  |int i=>let⟨@w,rfl⟩:=b;exact IC a c i w
  |str H=>let⟨@w,rfl⟩:=b;exact IL a c H w
  |tup J=>let⟨g,o,Qy,@k,rfl,l,D,j,W⟩:=b;exact Gw a c ⟨o,l,D,k,j⟩ ⋯
  |fn g=>cases r<;>cases aX
  |aQ g=>cases r<;>cases aX
  |fd=>cases r<;>cases aX
 |fn g=>cases r<;>cases n
 |aQ g=>cases r<;>cases n
 |fd=>cases r<;>cases n
 |tup J=>
  cases r with
  |zero=>cases n
  |succ r=>
  let⟨g,o,Qy,@k,rfl,l,D,j,t⟩:=q;have QY:h.heap.IsTuple g Qy:=⟨o,l,D,k,j⟩;cases I with
  |aT=>cases (show u=.none from b);exact GF QY ⋯
  |ax m=>cases (show u=.bool m from b);exact GL m QY ⋯
  |int i=>let⟨@w,rfl⟩:=b;exact MN i w QY ⋯
  |str H=>let⟨@w,rfl⟩:=b;exact Mt H w QY ⋯
  |fn g=>cases aX
  |aQ g=>cases aX
  |fd=>cases aX
  |tup Qe=>
   let⟨e,QU,s,@z,rfl,A,B,C,v⟩:=b;have Rd:h.heap.IsTuple e s:=⟨QU,A,B,z,C⟩;have aZ:=t.length;have bh:=v.length;have E:Qy.toList.length=Qy.size:=by simp
   have F:s.toList.length=s.size:=by simp
   rw[E]at aZ;rw[F]at bh;have p:=BF (A:=O) (e:=λi=>cf (J.getD i .aT)<|Qe.getD i .aT) QY Rd ⋯ λi G M=>by
    let⟨@QZ,x,N⟩:=t.get (i:=i) (u:=Qy[i]) (by rw[eu];simp[G]);let⟨@Q2,y,P⟩:=v.get (i:=i) (u:=s[i]) (by rw[eu];simp[M]);rw[cx,x,cx,y];exact ir r (jz n x) (jz aX y) (by show O.units+1+r+1<bL;lia) N P
   rw[<-aZ,<-bh,pG (J:=J) (Qe:=Qe) (λi f I g e=>by rw[cx,g,cx,e];rfl)]at p;rw[cf];exact p
@[simp] def dS:fV:=λg e=>match g,e with
 |.im f,.im I=>if (V.bg 8 f&&V.bg 8 I)=X then Z (.im<|.ax<|cf f I) else Y
 |.lst f,.lst I=>if (V.cg 8 f&&V.cg 8 I)=X then Z (.im<|.ax<|dB f I) else Y
 |_,_=>Y
theorem wz:∀{f I:List V},f.length≠I.length->dB f I=aq
 |[],[],c=>absurd rfl c
 |[],_::_,_=>rfl
 |_::_,[],_=>rfl
 |g::f,e::I,c=>by
  rw[dB,wz (λd=>c (by rw[er,er,d])),Bool.and_false]
def nQ{G:List (ao×a0)}(E:aA b G z j h){g:ao}{y:List af}{J:List V}(l:j g=Z (.lst y))(D:bx j J y):∃Qp:List ae,h.heap.IsList g Qp.toArray/\dv h.heap J Qp/\Qp.length=J.length:=by
 let@⟨H,⟨Qp,@r,a,d⟩⟩:=E.a3 g _ l;have:=D.e7 E.a3 a;exact⟨Qp,⟨_,d,rfl,r,rfl⟩,this,this.length.symm⟩
def hy(am:b.A.units+20<bL):e6 b (d4 .Eq) dS:=by
 intro G h z j f I u L C E r s P;let⟨QZ,Q2,@v,k,m,d,p⟩:=P;unfold dS at d;split at d
 ·rename_i g e;split at d
  ·rename_i c;cases d;rw[cG]at c;exact Gm 8 c.1 c.2 ⋯ (k.i.e7 E.a3 r) (m.i.e7 E.a3 s) b.prog b.w _ _ ⟨.ax _,j,E,rfl,b4.i p rfl⟩
  ·cases d
 ·rename_i g e;split at d
  ·rename_i c;cases d;rw[cG]at c;let⟨W,q,@y,rfl,l,D,W⟩:=k;let⟨W,an,@Qw,rfl,Q,R,W⟩:=m;cases r;cases s;let⟨@S,aZ,T,o⟩:=nQ E l D;let⟨@U,bh,al,t⟩:=nQ E Q R;by_cases n:g.length=e.length
   ·have:=GV (A:=b.A) (e:=λi=>cf (g.getD i .aT)<|e.getD i .aT) aZ bh (by rw[cB,cB,o,t];exact n) ⋯ λi B F=>by
     let⟨@QZ,H,k⟩:=T.get (i:=i) (u:=S.toArray[i]) (by simp at B;simp[B]);let⟨@Q2,M,m⟩:=al.get (i:=i) (u:=U.toArray[i]) (by simp at F;simp[F]);rw[cx,H,cx,M];exact ir 8 (jz c.1 H) (jz c.2 M) (by show b.A.units+1+8+1<bL;lia) k m
    refine this b.prog b.w _ _ ⟨.ax _,j,E,rfl,?_⟩;have N:=pG (J:=g) (Qe:=e) (d:=λi=>cf (g.getD i .aT)<|e.getD i .aT) (λi f I g e=>by rw[cx,g,cx,e];rfl);rw[<-n,zv,kA,CT]at N;rw[cB,o,N];exact b4.i p rfl
   ·refine Mc (A:=b.A) aZ bh (by rw[cB,cB,o,t];simpa using n) ⋯ b.prog b.w _ _ ⟨.ax _,j,E,rfl,?_⟩;rw[wz n]at p;exact b4.i p rfl
  ·cases d
 ·cases d
end
section
variable{b:aK}
def Ls(r:Nat){O:bj}{f I:V}{L u:ae}(n:V.bg r f=X)(aX:V.bg r I=X)(Q:O.units+r+2<bL)(q:dq h.heap f L)(b:dq h.heap I u):SeqAt.RcNeAt O h L u (!cf f I):=by
 cases f with
 |aT=>
  cases (show L=.none from q);cases I with
  |aT=>cases (show u=.none from b);exact Hj
  |ax e=>cases (show u=.bool e from b);exact Kk e
  |int i=>let⟨@w,rfl⟩:=b;exact Im i w
  |str H=>let⟨@w,rfl⟩:=b;exact OB H w
  |tup J=>let⟨g,o,Qy,@k,rfl,l,D,j,W⟩:=b;exact Lv ⟨o,l,D,k,j⟩ ⋯
  |fn g=>cases r<;>cases aX
  |aQ g=>cases r<;>cases aX
  |fd=>cases r<;>cases aX
 |ax e=>
  cases (show L=.bool e from q);cases I with
  |aT=>cases (show u=.none from b);exact Mh e
  |ax m=>cases (show u=.bool m from b);exact Li e m
  |int i=>let⟨@w,rfl⟩:=b;exact JT e i w
  |str H=>let⟨@w,rfl⟩:=b;exact G1 e H w
  |tup J=>let⟨g,o,Qy,@k,rfl,l,D,j,W⟩:=b;exact Jc e ⟨o,l,D,k,j⟩ ⋯
  |fn g=>cases r<;>cases aX
  |aQ g=>cases r<;>cases aX
  |fd=>cases r<;>cases aX
 |int a=>
  let⟨@c,rfl⟩:=q;cases I with
  |aT=>cases (show u=.none from b);exact MI a c
  |ax m=>cases (show u=.bool m from b);exact Gv a c m
  |int i=>let⟨@w,rfl⟩:=b;exact Mf a c i w
  |str H=>let⟨@w,rfl⟩:=b;exact LH a c H w
  |tup J=>let⟨g,o,Qy,@k,rfl,l,D,j,W⟩:=b;exact HB a c ⟨o,l,D,k,j⟩ ⋯
  |fn g=>cases r<;>cases aX
  |aQ g=>cases r<;>cases aX
  |fd=>cases r<;>cases aX
 |str a=>
  let⟨@c,rfl⟩:=q;cases I with
  |aT=>cases (show u=.none from b);exact IM a c
  |ax m=>cases (show u=.bool m from b);exact OE a c m
  |int i=>let⟨@w,rfl⟩:=b;exact FH a c i w
  |str H=>let⟨@w,rfl⟩:=b;exact JF a c H w
  |tup J=>let⟨g,o,Qy,@k,rfl,l,D,j,W⟩:=b;exact ND a c ⟨o,l,D,k,j⟩ ⋯
  |fn g=>cases r<;>cases aX
  |aQ g=>cases r<;>cases aX
  |fd=>cases r<;>cases aX
 |fn g=>cases r<;>cases n
 |aQ g=>cases r<;>cases n
 |fd=>cases r<;>cases n
 |tup J=>
  cases r with
  |zero=>cases n
  |succ r=>
  let⟨g,o,Qy,@k,rfl,l,D,j,t⟩:=q;have QY:h.heap.IsTuple g Qy:=⟨o,l,D,k,j⟩;cases I with
  |aT=>cases (show u=.none from b);exact IZ QY ⋯
  |ax m=>cases (show u=.bool m from b);exact Kn m QY ⋯
  |int i=>let⟨@w,rfl⟩:=b;exact FZ i w QY ⋯
  |str H=>let⟨@w,rfl⟩:=b;exact ID H w QY ⋯
  |fn g=>cases aX
  |aQ g=>cases aX
  |fd=>cases aX
  |tup Qe=>
   let⟨e,QU,s,@z,rfl,A,B,C,v⟩:=b;have Rd:h.heap.IsTuple e s:=⟨QU,A,B,z,C⟩;have aZ:=t.length;have bh:=v.length;have E:Qy.toList.length=Qy.size:=by simp
   have F:s.toList.length=s.size:=by simp
   rw[E]at aZ;rw[F]at bh;have p:=Kg (A:=O) (e:=λi=>cf (J.getD i .aT)<|Qe.getD i .aT) QY Rd ⋯ λi G M=>by
    let⟨@QZ,x,N⟩:=t.get (i:=i) (u:=Qy[i]) (by rw[eu];simp[G]);let⟨@Q2,y,P⟩:=v.get (i:=i) (u:=s[i]) (by rw[eu];simp[M]);rw[cx,x,cx,y];exact ir r (jz n x) (jz aX y) (by show O.units+1+r+1<bL;lia) N P
   rw[<-aZ,<-bh,pG (J:=J) (Qe:=Qe) (λi f I g e=>by rw[cx,g,cx,e];rfl)]at p;rw[cf];exact p
@[simp] def es:fV:=λg e=>match g,e with
 |.im f,.im I=>if (V.bg 8 f&&V.bg 8 I)=X then Z (.im<|.ax<|!cf f I) else Y
 |.lst f,.lst I=>if (V.cg 8 f&&V.cg 8 I)=X then Z (.im<|.ax<|!dB f I) else Y
 |_,_=>Y
def iR(am:b.A.units+20<bL):e6 b (d4 .NotEq) es:=by
 intro G h z j f I u L C E r s P;let⟨QZ,Q2,@v,k,m,d,p⟩:=P;unfold es at d;split at d
 ·rename_i g e;split at d
  ·rename_i c;cases d;rw[cG]at c;exact Ls 8 c.1 c.2 ⋯ (k.i.e7 E.a3 r) (m.i.e7 E.a3 s) b.prog b.w _ _ ⟨.ax _,j,E,rfl,b4.i p rfl⟩
  ·cases d
 ·rename_i g e;split at d
  ·rename_i c;cases d;rw[cG]at c;let⟨W,q,@y,rfl,l,D,W⟩:=k;let⟨W,an,@Qw,rfl,Q,R,W⟩:=m;cases r;cases s;let⟨@S,aZ,T,o⟩:=nQ E l D;let⟨@U,bh,al,t⟩:=nQ E Q R;by_cases n:g.length=e.length
   ·have:=NJ (A:=b.A) (e:=λi=>cf (g.getD i .aT)<|e.getD i .aT) aZ bh (by rw[cB,cB,o,t];exact n) ⋯ λi B F=>by
     let⟨@QZ,H,k⟩:=T.get (i:=i) (u:=S.toArray[i]) (by simp at B;simp[B]);let⟨@Q2,M,m⟩:=al.get (i:=i) (u:=U.toArray[i]) (by simp at F;simp[F]);rw[cx,H,cx,M];exact ir 8 (jz c.1 H) (jz c.2 M) (by show b.A.units+1+8+1<bL;lia) k m
    refine this b.prog b.w _ _ ⟨.ax _,j,E,rfl,?_⟩;have N:=pG (J:=g) (Qe:=e) (d:=λi=>cf (g.getD i .aT)<|e.getD i .aT) (λi f I g e=>by rw[cx,g,cx,e];rfl);rw[<-n,zv,kA,CT]at N;rw[cB,o,N];exact b4.i p rfl
   ·refine JO (A:=b.A) aZ bh (by rw[cB,cB,o,t];simpa using n) ⋯ b.prog b.w _ _ ⟨.ax _,j,E,rfl,?_⟩;rw[wz n]at p;exact b4.i p rfl
  ·cases d
 ·cases d
@[simp] def uz(r:Bool):fV:=λg e=>match g,e with
 |.im f,.im .aT=>Z (.im<|.ax<|r != decide (f=.aT))
 |.im (.ax f),.im (.ax I)=>Z (.im<|.ax<|r != (f==I))
 |_,_=>Y
def PI{v:V}(c:cp j v u):decide (u=.aT)=decide (v=.aT):=by
 cases v with
 |aT=>cases (show u=.aT from c);rfl
 |ax e=>cases (show u=.ax e from c);rfl
 |int e=>cases (show u=.int e from c);rfl
 |str e=>cases (show u=.str e from c);rfl
 |fn e=>cases (show u=.ref e from c);rfl
 |tup J=>let⟨g,@y,rfl,W⟩:=c;rfl
 |aQ J=>let⟨g,y,@o,rfl,W⟩:=c;rfl
 |fd=>let⟨g,@o,rfl,W⟩:=c;rfl
def Hh:dC b (d4 .IsNot) (λf I j C=>∃g e,f=.ax g/\I=.ax e/\C (.ax<|!(g==e)) j):=by
 intro G h z j f I u L C E a c d;let⟨g,@e,i,k,p⟩:=d;subst i k;cases a;cases c;refine wpAny_isNot_plain (by cases g<;>cases e<;>rfl) ⟨.ax<|!(g==e),j,E,?_,p⟩;cases g<;>cases e<;>rfl
def B8:e6 b (d4 .IsNot) (uz X):=by
 refine (OZ.or Hh).imp λf I j C h=>?_;let⟨QZ,Q2,@v,c,e,d,p⟩:=h;unfold uz at d;split at d
 ·rename_i g;cases d;refine .inl ⟨e.i,?_⟩;rw[PI c.i];refine b4.i p ?_;show _=_;rw[zc]
 ·cases d;refine .inr ⟨_,_,c.i,e.i,b4.i p ?_⟩;show _=_;rw[zc]
 ·cases d
def dH{QC:Type}[DecidableEq QC](Qt:List (QC×V))(n:QC):Option V:=((Qt.find? λq=>decide (q.1=n)).map (·.2))
theorem n6{QC:Type}[DecidableEq QC]{j:aw}{n:QC}:∀{Qt:List (QC×V)}{i:List (QC×af)},el j Qt i->(∀v,dH Qt n=Z v->∃u,g5 i n=Z u/\cp j v u)/\(dH Qt n=Y->g5 i n=Y)
 |_,_,.nil=>⟨(λv d=>by cases d),(λ_=>rfl)⟩
 |_,_,.cons (a:=q) (b:=p) c w=>by
  let@⟨l,D⟩:=n6 (n:=n) w;by_cases d:q.1=n
  ·have a:p.1=n:=c.1.symm.trans d;refine⟨λv b=>?_,λf=>?_⟩
   ·have:∀s,dH (q::s) n=Z q.2:=λs=>by simp[dH,jm,d]
    rw[this]at b;cases b;exact⟨p.2,rZ a,c.2⟩
   ·have:∀s,dH (q::s) n=Z q.2:=λs=>by simp[dH,jm,d]
    rw[this]at f;cases f
  ·have a:¬ p.1=n:=λH=>d (c.1.trans H);have:∀s,dH (q::s) n=dH s n:=λs=>by simp[dH,jm,d]
   rw[this,tN a];exact⟨l,D⟩
@[simp] def bG:fV:=λg e=>match g,e with
 |.im (.tup J),.im (.int a)=>(dx J a).map .im
 |.lst J,.im (.int a)=>(dx J a).map .im
 |.cN J,.im (.int a)=>(dx J a).map .im
 |.aJ Qt,.im (.tup n)=>if V.keys 7 n=X then (dH Qt n).map .im else Y
 |.dj Qt,.im (.int a)=>(dH Qt<|.inl a).map .im
 |.dj Qt,.im (.str a)=>(dH Qt<|.inr a).map .im
 |_,_=>Y
def HT(a:b.A.units+20<bL):h4 b (λf I j C=>∃g u,f=.ref g/\f9 j g I (Z u)/\C u j):=by
 intro k m G h z j f I u L C E c e ⟨g,H,d,M,p⟩ Qj;subst d;cases c;exact tail_any (IQ E M) PySem.F.slot_dict_getitem.lookup (Mm a E M e λn o i l=>⟨H,j,i,l,p⟩) Qj
def vP{a:Int}{v:V}(c:bx j J y)(d:dx J a=Z v):∃u,dx y a=Z u/\cp j v u:=by
 unfold dx at d ⊢;rw[<-c.length];let⟨@i,b,e⟩:=bD.mp d;let⟨@u,f,g⟩:=c.get e;exact⟨u,by rw[b];exact f,g⟩
def KX(B:b.A.units+20<bL):h4 b (λf I j C=>∃QZ Q2 v,eI j QZ f/\eI j Q2 I/\bG QZ Q2=Z v/\∀u F Qg,cP j F->cw F v u Qg->Qg.Nodup->(∀g∈Qg,j g=Y)->C u F):=by
 refine (JW.or<|Ho.or<|HT B).imp λf I j C E=>?_;let⟨QZ,Q2,@v,x,z,d,p⟩:=E;unfold bG at d;split at d
 ·let⟨@s,c,h⟩:=cu.mp d;cases h;let⟨q,@y,rfl,l,D⟩:=x.i;let⟨@u,m,r⟩:=vP D c;exact .inr (.inl ⟨q,y,_,u,rfl,z.i,cb.of l,m,b4.i p r⟩)
 ·let⟨@s,c,h⟩:=cu.mp d;cases h;let⟨W,q,@y,rfl,l,D,W⟩:=x;let⟨@u,m,r⟩:=vP D c;exact .inl ⟨q,y,_,u,rfl,z.i,cQ.of l,m,b4.i p r⟩
 ·let⟨@s,c,h⟩:=cu.mp d;cases h;let⟨W,q,y,@o,rfl,l,D,W⟩:=x;let⟨@u,m,r⟩:=vP D c;exact .inl ⟨q,y,_,u,rfl,z.i,.inl<|.inr ⟨o,l⟩,m,b4.i p r⟩
 ·rename_i Qt n;split at d
  ·rename_i G;let⟨@s,c,h⟩:=cu.mp d;cases h;let⟨W,q,@i,rfl,l,D,W⟩:=x;let⟨@u,m,r⟩:=(n6 D).1 s c;let⟨e,@y,rfl,QN,QW⟩:=z.i;exact .inr (.inr ⟨q,u,rfl,by rw[<-m];exact f9.t l ⟨G,e,y,rfl,QN,QW⟩,b4.i p r⟩)
  ·cases d
 ·rename_i Qt a;let⟨@s,c,h⟩:=cu.mp d;cases h;let⟨W,q,@i,rfl,l,D,W⟩:=x;let⟨@u,m,r⟩:=(n6 D).1 s c;refine .inr (.inr ⟨q,u,rfl,?_,b4.i p r⟩);rw[show I=bW (.inl a) from z.i,<-m];exact f9.k l
 ·rename_i Qt a;let⟨@s,c,h⟩:=cu.mp d;cases h;let⟨W,q,@i,rfl,l,D,W⟩:=x;let⟨@u,m,r⟩:=(n6 D).1 s c;refine .inr (.inr ⟨q,u,rfl,?_,b4.i p r⟩);rw[show I=bW (.inr a) from z.i,<-m];exact f9.k l
 ·cases d
end
end L2
namespace c_
open Spec PyProof.Rows
section
variable{Ql:bA}{x:bc}{O:bj}{Qh:ae->ah->Prop}{h:ah}
def FT{w aS:ao}{Qp:Array ae}{cm H:ae}{R S:Option Int}{C:ae->ah->Prop}(q:ny h.heap w Qp)(Qj:h.heap.IsSliceOf aS cm H .none)(bg:j2 cm R)(a:j2 H S)(b:b1 Qp.size 0 R=0)(l:b1 Qp.size Qp.size S=Qp.size)(p:C (.ref w) h):wpAny (aN Ql x) O (lu (.ref w)<|.ref aS) C Qh h:=by
 let⟨@Q,c,d,e⟩:=id Qj;have ty:h.TypeIs (.ref aS) "slice" := ⟨Q,c,d⟩;unfold lu;try with_reducible refine e3 ?_
 first|refine av (aR ?_)|skip
 refine av (Fl q.typeIs ∅ ?_);refine av (lU (name:=aC.ofString "__getitem__") q.typeIs o1<|iB o1 q.typeIs zR ?_<|DK _ _);show wpAny _ _ (bl.Tuple.tupleItemsOf (.ref w) >>= _) _ _ h;refine av (zX q ?_);refine av (wpAny_typeOf ty ?_);rw[aE ∅];refine av (zw Qj bg a ?_);rw[b,l];show wpAny _ _ (if (((0:Nat):Int)==0&&(1:Int)==1&&(Qp.size-0)==Qp.size)=X then _ else _) _ _ h;rw[aE ↥0];refine av (m:=bl.Tuple.tupleIsExact _) (av<|wpAny_typeOf q.typeIs<|aR ?_);show wpAny _ _ (if (ae.type "tuple" == ae.type "tuple")=X then _ else _) _ _ h;rw[aE ∅];exact av (i5<|aR ⟨_,rfl,aR p⟩)
end
end c_
namespace L2
open Spec PyProof.Rows
section
variable{b:aK}
@[simp] def oA(M:ay aj):ay aj:=λA=>(M A).bind λq=>match q.1 with
 |.im (.int a)=>Z (.im<|.int<|-a,q.2)
 |_=>Y
variable{M:ay aj}{Qx:Pos}
def qE{g:bo}(c:ck b g M):ck b (.UnaryOp .USub g Qx) (oA M):=by
 refine ej (Hf Nv c) λz j C d=>?_;let⟨A,P,s,@QE,N,ak,e,p⟩:=d;let⟨@⟨f,Qn⟩,l,D⟩:=bD.mp e;refine⟨A,P,f,Qn,N,ak,l,λu Qm QB Qg h QH i=>?_⟩;dsimp only at D;split at D
 ·rename_i a;cases D;exact⟨a,QH.1,p _ Qm QB [] h ⟨rfl,rfl⟩ (by rw[cD];exact i.both)⟩
 ·cases D
def Jd(M:ay (Option Int)):cI:=(λz j C=>∃A P t QE,bu j A z P/\P.Nodup/\M A=Z (t,QE)/\∀F QQ,bu F QE z QQ->bk j P F QQ->C t F)
def r3(b:aK)(d:Option bo)(M:ay (Option Int)):Prop:=(∀ ⦃q⦄,Bd b d (Jd M) q)
def zU{d:Option bo}{w QM:cI}(c:nT b d w)(a:∀z j C,QM z j C->w z j C):nT b d QM:=λG h z j C E e=>c G h z j C E (a z j C e)
def oL:ay (Option Int):=(λA=>Z (Y,A))
@[simp] def mz(M:ay aj):ay (Option Int):=λA=>(M A).bind λq=>match q.1 with
 |.im (.int a)=>Z (Z a,q.2)
 |_=>Y
def A3:r3 b Y oL:=by
 refine zU Hi λz j C a=>?_;let⟨A,P,s,@QE,N,ak,c,p⟩:=a;cases c;exact p j P N (bk.perm ak<|List.Perm.refl _)
variable{d:bo}
def sI(c:ck b d M):r3 b (Z d) (mz M):=by
 refine zU (LV c) λz j C e=>?_;let⟨A,P,s,@QE,N,ak,g,p⟩:=e;let⟨@⟨f,Qn⟩,l,D⟩:=bD.mp g;refine⟨A,P,f,Qn,N,ak,l,λu Qm QB Qg h QH i=>?_⟩;dsimp only at D;split at D
 ·rename_i a;cases D;exact⟨a,QH.1,p Qm QB h i.both⟩
 ·cases D
def gk{QG:Type}(y:List QG)(R S:Option Int):List QG:=((y.drop<|c_.b1 y.length 0 R).take (c_.b1 y.length y.length S-c_.b1 y.length 0 R))
variable{j:aw}
theorem bx.drop:∀{J:List V}{y:List af} (r:Nat),bx j J y->bx j (J.drop r) (y.drop r)
 |J,y,0,c=>c
 |[],y,r+1,c=>by cases (show y=[] from c);exact rfl
 |v::J,y,r+1,c=>by
  let⟨u,@s,rfl,l,D⟩:=c;exact D.drop r
theorem bx.take:∀{J:List V}{y:List af} (r:Nat),bx j J y->bx j (J.take r) (y.take r)
 |J,y,0,c=>rfl
 |[],y,r+1,c=>by cases (show y=[] from c);exact rfl
 |v::J,y,r+1,c=>by
  let⟨u,@s,rfl,l,D⟩:=c;exact⟨u,_,rfl,l,D.take r⟩
def bx.cut{J:List V}{y:List af}(R S:Option Int)(c:bx j J y):bx j (gk J R S) (lZ y R S):=by
 unfold gk lZ;rw[c.length];exact (c.drop _).take _
@[simp] def oo(v:aj)(R S:Option Int):Option aj:=match v with
 |.im (.tup J)=>Z (.im<|.tup<|gk J R S)
 |.lst J=>Z (.lst<|gk J R S)
 |.cN J=>Z (.lst<|gk J R S)
 |_=>Y
def Px(Qk:Φ):af->Option Int->Option Int->aw->cz->Prop:=(λf R S j C=>∃g y,f=.ref g/\cb Qk j g y/\c_.b1 y.length 0 R=0/\c_.b1 y.length y.length S=y.length/\C (.ref g) j)
def Hc:qY b (λf R S j C=>∃v s,eI j v f/\oo v R S=Z s/\b4 j s C):=by
 have all:qY b (Px b.K):=by
  intro G h z j f u cm H R S aS C E e Qj bg k c;let⟨g,@y,rfl,B,F,l,p⟩:=c;cases e;let⟨@Qp,s,ba,L⟩:=E.tuple B;have A:Qp.toArray.size=y.length:=by rw[cB];exact s.length.symm
  exact⟨"tuple",_,o1.lookup,ba.typeIs,c_.FT ba Qj bg k (by rw[A];exact F) (by rw[A];exact l) ⟨.ref g,j,E,rfl,p⟩⟩
 intro G h z j f u cm H R S aS C E e Qj bg k I;let⟨v,@s,x,d,p⟩:=I;unfold oo at d;split at d
 ·rename_i J;cases d;let⟨q,@y,rfl,l,D⟩:=x.i;by_cases m:c_.b1 y.length 0 R=0/\c_.b1 y.length y.length S=y.length
  ·refine all G h z j _ u cm H R S aS C E e Qj bg k ⟨q,y,rfl,cb.of l,m.1,m.2,b4.i p ⟨q,y,rfl,l,?_⟩⟩;have:gk J R S=J:=by
    unfold gk;rw[D.length,m.1,m.2,kE,Nat.sub_zero,<-D.length,pw]
   rw[this];exact D
  ·exact Oi G h z j _ u cm H R S aS C E e Qj bg k ⟨q,y,rfl,cb.of l,m,λr n=>b4.t p n<|D.cut R S⟩
 ·cases d;let⟨W,q,@y,rfl,l,D,W⟩:=x;exact DM G h z j _ u cm H R S aS C E e Qj bg k ⟨q,y,rfl,cQ.of l,λr n=>b4.l p n<|D.cut R S⟩
 ·cases d;let⟨W,q,y,@o,rfl,l,D,W⟩:=x;exact DM G h z j _ u cm H R S aS C E e Qj bg k ⟨q,y,rfl,.inl<|.inr ⟨o,l⟩,λr n=>b4.l p n<|D.cut R S⟩
 ·cases d
@[simp] def lD(M:ay bI)(t c:ay (Option Int)):ay aj:=λA=>(M A).bind λq=>(t q.2).bind λp=>(c p.2).bind λs=>(ep s.2 q.1).bind λv=>(oo v p.1 s.1).map λa=>(a,s.2)
def wL{R S:Option bo}{M:ay bI}{k m:ay (Option Int)}{Q3:Pos}(q:dz b d M)(r:r3 b R k)(w:r3 b S m):ck b (.Subscript d (.Slice R S Y Q3) Qx) (lD M k m):=by
 refine ej (Gg Hc q r w) λz j C y=>?_;let⟨A,P,s,@QE,N,ak,B,p⟩:=y;let⟨@⟨f,Qn⟩,l,D⟩:=bD.mp B;let⟨@⟨t,QR⟩,E,F⟩:=bD.mp D;let⟨@⟨L,Rg⟩,G,H⟩:=bD.mp F;let⟨@v,I,J⟩:=bD.mp H;let⟨@bm,O,Q⟩:=cu.mp J;cases Q;refine⟨A,P,f,Qn,N,ak,l,λu Qm QB Qg T QT a=>⟨Qn,QB,t,QR,T,(dp.mp a.ak).1,E,λQz QI al n=>⟨QR,QI,L,Rg,al,n.ak,G,λam an e ap=>?_⟩⟩⟩;have h:=n.seq ap;have U:hr am z f u Qg:=QT.mono h.tup λg as o d=>h.keep g o d λc=>(dp.mp a.ak).2.2 g c g as rfl;have a1:=a.trans h QT.chg;exact⟨v,_,U.read e I,O,λx a2 bd i QH be bi=>p x a2 an bd (e.mono i.tupS λg W o d=>i g o d) QH<|a1.new i be bi e.chg⟩
abbrev h6:=List aj->Option aj
@[simp] def dg:h6:=λJ=>match J with
 |[.im (.tup f)]=>Z (.im<|.int f.length)
 |[.lst f]=>Z (.im<|.int f.length)
 |[.cN f]=>Z (.im<|.int f.length)
 |[.hz f]=>Z (.im<|.int f.length)
 |[.dj f]=>Z (.im<|.int f.length)
 |[.im (.str f)]=>if f.length<=100000 then Z (.im<|.int f.length) else Y
 |_=>Y
variable{U:List af}
def fP{v:aj}(c:l7 j [v] U):∃u,U=[u]/\eI j v u:=by
 let⟨u,@s,rfl,l,D⟩:=c;cases (show s=[] from D);exact⟨u,rfl,l⟩
def CQ{v d:aj}(c:l7 j [v,d] U):∃u L,U=[u,L]/\eI j v u/\eI j d L:=by
 let⟨u,@s,rfl,l,D⟩:=c;let⟨@L,rfl,a⟩:=fP D;exact⟨u,L,rfl,l,a⟩
def el.length{QC:Type}{t:List (QC×V)}{k:List (QC×af)}(c:el j t k):t.length=k.length:=d1.length c
def fR:g8 b (.builtin "len") dg:=by
 refine (Iy.or<|Hk.or OS).imp λy j C f=>?_;let⟨J,@v,e,d,p⟩:=f;unfold dg at d;split at d
 ·cases d;let⟨@u,rfl,c⟩:=fP e;let⟨q,@y,rfl,l,D⟩:=c.i;exact .inl ⟨q,y,rfl,.inr<|cb.of l,by rw[<-D.length];exact b4.i p rfl⟩
 ·cases d;let⟨@u,rfl,⟨W,q,@y,rfl,l,D,W⟩⟩:=fP e;exact .inl ⟨q,y,rfl,.inl<|cQ.of l,by rw[<-D.length];exact b4.i p rfl⟩
 ·cases d;let⟨@u,rfl,⟨W,q,y,@o,rfl,l,D,W⟩⟩:=fP e;exact .inl ⟨q,y,rfl,.inl<|.inl<|.inr ⟨o,l⟩,by rw[<-D.length];exact b4.i p rfl⟩
 ·cases d;let⟨@u,rfl,⟨W,q,y,@Qq,rfl,l,D,W⟩⟩:=fP e;exact .inl ⟨q,y,rfl,.inl<|cQ.of l,by rw[<-D.length];exact b4.i p rfl⟩
 ·cases d;let⟨@u,rfl,⟨W,q,@i,rfl,l,D,W⟩⟩:=fP e;exact .inr (.inr ⟨q,i,rfl,l,by rw[<-D.length];exact b4.i p rfl⟩)
 ·split at d
  ·rename_i g;cases d;let⟨@u,rfl,c⟩:=fP e;cases (show u=_ from c.i);exact .inr (.inl ⟨_,rfl,m2 g,b4.i p rfl⟩)
  ·cases d
 ·cases d
@[simp] def kL:h6:=λJ=>match J with
 |[v]=>(jG v).map λf=>.im (.tup f)
 |_=>Y
@[simp] def pA:h6:=λJ=>match J with
 |[v]=>(jG v).map .lst
 |_=>Y
def pn:g8 b (.type "tuple") kL:=by
 refine Kl.imp λy j C h=>?_;let⟨J,@v,k,d,p⟩:=h;unfold kL at d;split at d
 ·let⟨@f,e,m⟩:=cu.mp d;cases m;let⟨@u,rfl,c⟩:=fP k;unfold jG at e;split at e
  ·cases e;let⟨q,@y,rfl,l,D⟩:=c.i;exact⟨q,y,rfl,.inr ⟨cb.of l,b4.i p ⟨q,y,rfl,l,D⟩⟩⟩
  ·cases e;let⟨W,q,@y,rfl,l,D,W⟩:=c;exact⟨q,y,rfl,.inl ⟨cQ.of l,λt g=>b4.t p g D⟩⟩
  ·cases e;let⟨W,q,y,@o,rfl,l,D,W⟩:=c;exact⟨q,y,rfl,.inl ⟨.inl<|.inr ⟨o,l⟩,λt g=>b4.t p g D⟩⟩
  ·cases e
 ·cases d
def uU:g8 b (.type "list") pA:=by
 refine I6.imp λy j C h=>?_;let⟨J,@v,k,d,p⟩:=h;unfold pA at d;split at d
 ·let⟨@f,e,m⟩:=cu.mp d;cases m;let⟨@u,rfl,c⟩:=fP k;unfold jG at e;split at e
  ·cases e;let⟨q,@y,rfl,l,D⟩:=c.i;exact⟨q,y,rfl,.inr<|cb.of l,λt g=>b4.l p g D⟩
  ·cases e;let⟨W,q,@y,rfl,l,D,W⟩:=c;exact⟨q,y,rfl,.inl<|cQ.of l,λt g=>b4.l p g D⟩
  ·cases e;let⟨W,q,y,@o,rfl,l,D,W⟩:=c;exact⟨q,y,rfl,.inl<|.inl<|.inr ⟨o,l⟩,λt g=>b4.l p g D⟩
  ·cases e
 ·cases d
@[simp] def vInt:h6:=λJ=>match J with
 |[.im (.int a)]=>Z (.im<|.int a)
 |[.im (.ax e)]=>Z (.im<|.int<|if e then 1 else 0)
 |_=>Y
def Cs:g8 b (.type "int") vInt:=by
 refine Mg.imp λy j C f=>?_;let⟨J,@v,e,d,p⟩:=f;unfold vInt at d;split at d
 ·cases d;let⟨@u,rfl,c⟩:=fP e;cases (show u=_ from c.i);exact .inl ⟨_,rfl,b4.i p rfl⟩
 ·cases d;let⟨@u,rfl,c⟩:=fP e;cases (show u=_ from c.i);exact .inr ⟨_,rfl,b4.i p rfl⟩
 ·cases d
@[simp] def wb:h6:=λJ=>match J with
 |[.im (.int a),.im<|.int i]=>Z (.im<|.int<|if i>a then i else a)
 |_=>Y
@[simp] def w2:h6:=λJ=>match J with
 |[.im (.int a),.im<|.int i]=>Z (.im<|.int<|if i<a then i else a)
 |_=>Y
def Nt(e:b.calm=X):g8 b (.builtin "max") wb:=by
 refine (KV e).imp λy j C f=>?_;let⟨J,@v,g,d,p⟩:=f;unfold wb at d;split at d
 ·cases d;let⟨u,@L,rfl,c,n⟩:=CQ g;cases (show u=_ from c.i);cases (show L=_ from n.i);exact⟨_,_,rfl,b4.i p rfl⟩
 ·cases d
def Kt(e:b.calm=X):g8 b (.builtin "min") w2:=by
 refine (Ow e).imp λy j C f=>?_;let⟨J,@v,g,d,p⟩:=f;unfold w2 at d;split at d
 ·cases d;let⟨u,@L,rfl,c,n⟩:=CQ g;cases (show u=_ from c.i);cases (show L=_ from n.i);exact⟨_,_,rfl,b4.i p rfl⟩
 ·cases d
@[simp] def m5:List V->Option (List Bool)
 |[]=>Z []
 |.ax e::J=>(m5 J).map λs=>e::s
 |_::_=>Y
theorem Dc{j:aw}:∀{J:List V}{y:List af}{bs:List Bool},bx j J y->m5 J=Z bs->y=bs.map af.ax
 |[],y,bs,c,d=>by cases d;exact c
 |.ax e::J,y,bs,c,d=>by
  let⟨u,@s,rfl,l,D⟩:=c;rw[m5]at d;let⟨@q,a,b⟩:=cu.mp d;cases b;cases (show u=.ax e from l);rw[Dc D a];rfl
 |.aT::_,_,_,_,d=>by cases d
 |.int _::_,_,_,_,d=>by cases d
 |.str _::_,_,_,_,d=>by cases d
 |.tup _::_,_,_,_,d=>by cases d
 |.fn _::_,_,_,_,d=>by cases d
 |.aQ _::_,_,_,_,d=>by cases d
 |.fd::_,_,_,_,d=>by cases d
@[simp] def lL:h6:=λJ=>match J with
 |[.lst f]=>(m5 f).map λbs=>.im (.ax<|bs.all id)
 |_=>Y
def tl(c:b.calm=X):g8 b (.builtin "all") lL:=by
 refine (Jq c).imp λy j C e=>?_;let⟨J,@v,g,d,p⟩:=e;unfold lL at d;split at d
 ·let⟨@f,h,k⟩:=cu.mp d;cases k;let⟨@u,rfl,⟨W,q,@y,rfl,l,D,W⟩⟩:=fP g;rw[Dc D h]at l;exact⟨q,f,rfl,l,b4.i p rfl⟩
 ·cases d
end
section
variable{b:aK}
def xb:aj->Option Nat
 |.im (.int _)=>Z 0
 |.im (.ax _)=>Z 1
 |.im (.str _)=>Z 2
 |.im (.tup _)=>Z 3
 |.im .aT=>Z 4
 |.lst _=>Z 4
 |.im (.aQ _)=>Z 4
 |.im .fd=>Z 4
 |.aJ _=>Z 4
 |.dj _=>Z 4
 |_=>Y
@[simp] def u1(Qc:String)(v:aj):Option Bool:=
 (xb v).bind λn=>if Qc = "int" then Z (n==0 || n==1) else if Qc = "bool" then Z (n==1) else if Qc = "str" then Z (n==2) else if Qc = "tuple" then Z (n==3) else Y
variable{Qc:String}{e:Bool}
def MW{v:aj}(c:u1 Qc v=Z e):∃n,xb v=Z n/\((Qc = "int" /\ e=(n==0 || n==1))\/(Qc = "bool" /\ e=(n==1))\/(Qc = "str" /\ e=(n==2))\/(Qc = "tuple" /\ e=(n==3))):=by
 let⟨@n,d,c⟩:=bD.mp c;refine⟨n,d,?_⟩;by_cases l:Qc = "int"
 ·rw[aE l]at c;cases c;exact .inl ⟨l,rfl⟩
 rw[aI l]at c;by_cases D:Qc = "bool"
 ·rw[aE D]at c;cases c;exact .inr (.inl ⟨D,rfl⟩)
 rw[aI D]at c;by_cases a:Qc = "str"
 ·rw[aE a]at c;cases c;exact .inr (.inr<|.inl ⟨a,rfl⟩)
 rw[aI a]at c;by_cases b:Qc = "tuple"
 ·rw[aE b]at c;cases c;exact .inr (.inr<|.inr ⟨b,rfl⟩)
 rw[aI b]at c;cases c
def nf{O QA aM A Qf:Prop}(c:O\/QA\/aM\/A)(g:O->Qf)(e:QA->Qf)(m:aM->Qf)(v:A->Qf):Qf:=c.elim g λc=>c.elim e λc=>c.elim m v
variable{G:List (ao×a0)}{j:aw}{h:ah}
def yG{z:aU}(E:aA b G z j h){g:ao}(c:(∃n,j g=Z (.aJ n))\/∃n,j g=Z (.dj n)):∃o,h.heap.get? g=Z o/\o.cls=.type "dict" := by
 rcases c with ⟨n,c⟩|⟨n,c⟩
 ·let@⟨_,_,⟨@y,_,⟨o,Qe,@Q0,l,D,_⟩⟩⟩:=(show eB b.prog b.w j h.heap g (.aJ n) from E.a3 g _ c);exact⟨o,l,D.1⟩
 ·let@⟨_,_,⟨@U,_,⟨o,Qe,@Q0,l,D,_⟩⟩⟩:=(show eB b.prog b.w j h.heap g (.dj n) from E.a3 g _ c);exact⟨o,l,D.1⟩
def Je{z:aU}(E:aA b G z j h){g:ao}{q:a0}(c:j g=Z (.dJ q<|.aJ [])):∃o,h.heap.get? g=Z o/\o.cls=.type "dict" := by
 let@⟨_,_,_,⟨@y,_,⟨o,Qe,@Q0,l,D,_⟩⟩⟩:=(show eB b.prog b.w j h.heap g (.dJ q<|.aJ []) from E.a3 g _ c);exact⟨o,l,D.1⟩
def OH:en b (.builtin "isinstance") (λy j C=>∃f Qc v e,y=[f,.ty Qc]/\eI j v f/\u1 Qc v=Z e/\C (.ax e) j):=by
 intro G h z j y QD C E s c;let⟨f,Qc,v,@e,rfl,m,S,p⟩:=c;have hP:=s;cases s with
 |cons s J=>
  cases J with
  |cons Q1 J=>
   cases J;cases Q1;have q:∀{e:Bool},C (.ax e) j->d5 b G z C (.bool e) {h with toks:=h.toks+1}:=λ{e} p=>⟨.ax e,j,E.tok _,rfl,p⟩;let⟨@n,k,t⟩:=MW S;have r:e=aq->C (.ax aq) j:=λd=>d ▸ p;have L:∀{g:ao},n=4->(∃o,h.heap.get? g=Z o/\o.cls=.type "dict")->wpAny (aN b.prog b.w) b.A (call (.builtin "isinstance") [.ref g,.type Qc]) (d5 b G z C) b.cE h:=by
    rintro g rfl ⟨o,F,I⟩;refine nf t (λ⟨d,B⟩=>d ▸ IsiPair.dict_int F I (q<|r B)) (λ⟨d,B⟩=>d ▸ IsiPair.dict_bool F I (q<|r B)) (λ⟨d,B⟩=>d ▸ IsiPair.dict_str F I (q<|r B)) λM=>?_;let@⟨d,B⟩:=M;exact d ▸ IsiPair.dict_tuple F I (q<|r B)
   have u:BW b.K j f Qc e->wpAny (aN b.prog b.w) b.A (call (.builtin "isinstance") [_,.type Qc]) (d5 b G z C) b.cE h:=λP=>Me G h z j _ _ C E hP ⟨f,Qc,e,rfl,P,p⟩;have N:∀{g:ao}{y:List af},n=4->f=.ref g->cQ b.K j g y->wpAny (aN b.prog b.w) b.A (call (.builtin "isinstance") [_,.type Qc]) (d5 b G z C) b.cE h:=λ{g y} k d H=>by
    subst k;exact u (.inr<|.inr<|.inr<|.inr ⟨g,y,d,H,nf t (λc=>.inr<|.inl c) (λc=>.inr<|.inr<|.inr<|.inl c) (λc=>.inr<|.inr<|.inl c) λc=>.inr<|.inr<|.inr<|.inr c⟩)
   unfold xb at k;split at k
   ·cases k;exact u (.inl ⟨_,m.i,nf t .inl (λc=>.inr<|.inr<|.inr<|.inl c) (λc=>.inr<|.inr<|.inl c) λc=>.inr<|.inl c⟩)
   ·cases k;exact u (.inr<|.inl ⟨_,m.i,nf t (λc=>.inr<|.inl c) .inl (λc=>.inr<|.inr<|.inr<|.inl c) λc=>.inr<|.inr<|.inl c⟩)
   ·cases k;exact u (.inr<|.inr<|.inl ⟨_,m.i,nf t (λc=>.inr<|.inl c) (λc=>.inr<|.inr<|.inr<|.inl c) .inl λc=>.inr<|.inr<|.inl c⟩)
   ·cases k;let⟨g,@y,d,l,D⟩:=m.i;exact u (.inr<|.inr<|.inr<|.inl ⟨g,y,d,cb.of l,nf t (λc=>.inr<|.inl c) (λc=>.inr<|.inr<|.inr<|.inl c) (λc=>.inr<|.inr<|.inl c) .inl⟩)
   ·cases k;cases (show f=.aT from m.i);cases s;refine nf t (λ⟨d,B⟩=>d ▸ IsiPair.NoneType_int (q<|r B)) (λ⟨d,B⟩=>d ▸ IsiPair.NoneType_bool (q<|r B)) (λ⟨d,B⟩=>d ▸ IsiPair.NoneType_str (q<|r B)) λM=>?_;let@⟨d,B⟩:=M;exact d ▸ IsiPair.NoneType_tuple (q<|r B)
   ·cases k;let⟨W,g,@y,d,l,D,W⟩:=m;exact N rfl d (cQ.of l)
   ·cases k;let⟨g,y,@o,d,l,D⟩:=m.i;exact N rfl d (.inl<|.inr ⟨o,l⟩)
   ·cases k;let⟨g,@o,rfl,l⟩:=m.i;cases s;exact L rfl (Je E l)
   ·cases k;let⟨W,g,@y,rfl,l,D,W⟩:=m;cases s;exact L rfl (yG E<|.inl ⟨_,l⟩)
   ·cases k;let⟨W,g,@y,rfl,l,D,W⟩:=m;cases s;exact L rfl (yG E<|.inr ⟨_,l⟩)
   ·cases k
@[simp] def mU(Qc:String)(M:ay bI):ay aj:=λA=>(M A).bind λq=>(ep q.2 q.1).bind λv=>(u1 Qc v).map λe=>(.im<|.ax e,q.2)
variable{f:aC}{d:bo}{M:ay bI}{Qx:Pos}
def nY{q Q3:Pos}(h:ed b "isinstance")(i:b.aH "isinstance" = Y)(k:ez "isinstance" = Z (.builtin "isinstance"))(m:ed b f)(n:b.aH f=Y)(r:ez f=Z (.type Qc))(c:dz b d M)(t:f ≠ "__name__" := by decide)(w:(f==("__debug__" : aC))=aq:=by decide)(a:bU [d,.Name f Q3] b.env=(aq,b_ d b.env)::bU [.Name f Q3] b.env:=by rfl)(x:bU [.Name f Q3] b.env=(aq,b_ (.Name f Q3) b.env)::bU [] b.env:=by rfl)(y:(gz Qx<|bU [.Name f Q3] b.env).any (·.1)=aq:=by rfl):ck b (.Call (.Name "isinstance" q) [d,.Name f Q3] [] Qx) (mU Qc M):=by
 refine ej (Fd OH h i k (wI c (wI (Gl (u:=.ty Qc) m n r rfl t w) DC x) a) ∅ ∅ a y) λz j C B=>?_;let⟨A,P,s,@QE,N,ak,E,p⟩:=B;let⟨@⟨o,Qn⟩,l,D⟩:=bD.mp E;let⟨@v,F,G⟩:=bD.mp D;let⟨@e,H,I⟩:=cu.mp G;cases I;exact⟨A,P,o,Qn,N,ak,l,λu Qm QB Qg g QT J=>⟨u,Qc,v,e,rfl,QT.read g F,H,p _ Qm QB [] g ⟨rfl,rfl⟩ (by rw[cD];exact J.both)⟩⟩
@[simp] def nN:aj->Option Bool
 |.im .aT=>Z aq
 |.im (.ax e)=>Z e
 |.im (.int a)=>Z (a != 0)
 |.im (.str f)=>if f.length<=100000 then Z ((f.length:Int) != 0) else Y
 |.im (.tup J)=>Z (!J.isEmpty)
 |.lst J=>Z (!J.isEmpty)
 |.cN J=>Z (!J.isEmpty)
 |.dj Qt=>Z (!Qt.isEmpty)
 |_=>Y
def bx.emp{J:List V}{y:List af}(c:bx j J y):(!y.isEmpty)=!J.isEmpty:=by
 cases J with
 |nil=>cases (show y=[] from c);rfl
 |cons v J=>let⟨u,@s,rfl,W⟩:=c;rfl
def Ge{v:aj}{u:af}(c:eI j v u)(d:nN v=Z e):vx b.K u j e:=by
 unfold nN at d;split at d
 ·cases d;cases (show u=_ from c.i);rfl
 ·cases d;cases (show u=_ from c.i);rfl
 ·cases d;cases (show u=_ from c.i);rfl
 ·split at d
  ·rename_i f;cases d;cases (show u=_ from c.i);exact⟨m2 f,rfl⟩
  ·cases d
 ·cases d;let⟨q,@y,rfl,l,D⟩:=c.i;exact .inr (.inl ⟨y,cb.of l,D.emp.symm⟩)
 ·cases d;let⟨W,q,@y,rfl,l,D,W⟩:=c;exact .inl ⟨y,cQ.of l,D.emp.symm⟩
 ·cases d;let⟨W,q,y,@o,rfl,l,D,W⟩:=c;exact .inl ⟨y,.inl<|.inr ⟨o,l⟩,D.emp.symm⟩
 ·cases d;let⟨W,q,@i,rfl,l,D,W⟩:=c;refine .inr (.inr ⟨i,l,?_⟩);cases D<;>rfl
 ·cases d
@[simp] def gU(M:ay bI):ay Bool:=λA=>(M A).bind λq=>(ep q.2 q.1).bind λv=>(nN v).map λe=>(e,q.2)
def iH(c:dz b d M)(g:∀a,oG d b.env a=(do let u <-a;standAt d.pos;holding [u] (truthy u)):=by intro W;rfl):hH b d (gU M):=by
 refine tZ (Lw c g) λz j C h=>?_;let⟨A,P,e,@QE,N,ak,i,p⟩:=h;let⟨@⟨o,Qn⟩,l,D⟩:=bD.mp i;let⟨@v,k,m⟩:=bD.mp D;let⟨@s,n,q⟩:=cu.mp m;cases q;exact⟨A,P,o,Qn,N,ak,l,λu Qm QB Qg f QT r=>⟨_,Ge (QT.read f k) n,p Qm QB f r.both⟩⟩
def jn{a:aC}{w:hq}(c:ed b f)(d:b.aH f=Z (.str a w))(e:(f==("__debug__" : aC))=aq:=by decide):ck b (.Name f Qx) (aB<|.str a):=rK (L1 (u:=.str a) c d ⟨w,rfl⟩ e) λ_=>rfl
end
variable{t R:Pos}{o:bo}{id Qc:String}{name:aC}{M:ay (List bI)}{a:Nat}{ty:aj->Bool}{Qk:Φ}{QU:fX}{g:ao}{j:aw}
def bk.chg{P QB:List ao}(b:g∈P)(m:gi j g)(ak:QB.Nodup)(cn:∀f∈QB,f∈P):bk j P (upd j g QU) QB:=by
 let⟨@o,d,ba,c⟩:=m;refine⟨λf L Q6 a=>?_,λf a=>.inl<|cn f a,ak,fy.of (λf y Q6=>?_)<|λf q L Q6=>?_,λf L Q6=>?_⟩
 ·rw[cS (λH=>a (by rw[H];exact b))];exact Q6
 ·rw[cS]
  ·exact Q6
  ·rintro rfl;rw[d]at Q6;exact ba y (Option.some.inj Q6)
 ·rw[cS]
  ·exact Q6
  ·rintro rfl;rw[d]at Q6;exact c q L (Option.some.inj Q6)
 ·by_cases a:f=g
  ·subst a;exact⟨QU,fb⟩
  ·exact⟨L,(cS a).trans Q6⟩
theorem cp.lx(m:gi j g):oW j (upd j g QU):=(bk.chg (P:=[g]) (QB:=[]) (.head _) m hi<|λf a=>nomatch a).tup.tup
def qw(b:aK)(id:String)(cv:aj->List aj->Option (aj×aj)):Prop:=(
 vj b id λf U j C=>∃m J s a Qg Qu,cw j m f Qg/\dV j J U Qu/\(Qg++Qu).Nodup/\cv m J=Z (s,a)/\∀u F c bQ,cw F s u c->cw F a f bQ->bk j (Qg++Qu) F (c++bQ)->C u F)
@[simp] def iA:aj->Bool
 |.lst _=>X
 |.hz _=>X
 |_=>aq
@[simp] def hA(ty:aj->Bool)(a:Nat)(cv:aj->List aj->Option (aj×aj))(M:ay (List bI)):ay aj:=λA=>match A[a]? with
 |some (Z b)=>if ty b=X then (M A).bind λq=>(eW q.1 q.2).bind λp=>match p.2[a]? with
   |some (Z m)=>(cv m p.1).map λs=>(s.1,p.2.set a<|Z s.2)
   |_=>Y
  else Y
 |_=>Y
def Em{cv:aj->List aj->Option (aj×aj)}{z:aU}{C:cz}(B:∀j m f Qg,cw j m f Qg->ty m=X->l4 Qk Qc f j)(c:la (hA ty a cv M) z j C):∃f,z[a]?=Z (Z f)/\l4 Qk Qc f j/\gv M z j λU Qz=>∃m J s e Qg Qu,cw Qz m f Qg/\dV Qz J U Qu/\(Qg++Qu).Nodup/\cv m J=Z (s,e)/\∀u F i bQ,cw F s u i->cw F e f bQ->bk Qz (Qg++Qu) F (i++bQ)->C u F:=by
 let⟨A,P,s,@QE,N,ak,b,p⟩:=c;unfold hA at b;split at b
 ·rename_i E G;split at b
  ·rename_i ba;let⟨f,bi,@bm,k,H,W,W⟩:=N.out G;refine⟨f,k,B j E f _ H ba,?_⟩;let⟨@⟨Q,Qn⟩,l,D⟩:=bD.mp b;let⟨@⟨J,QR⟩,I,h⟩:=bD.mp D;refine⟨A,P,Q,Qn,N,ak,l,λU Qm QB i L QT R=>?_⟩;let⟨QI,@Qu,S,QH,T⟩:=oH L QT I;dsimp only at h;split at h
   ·rename_i m al;let⟨@⟨Q1,e⟩,am,an⟩:=cu.mp h;cases an;let⟨bn,Qg,@q,r,ap,t,as⟩:=S.out al;rw[k]at r;cases r;have v:bk j P Qm ((Qg++Qu)++q):=R.k6 (T.symm.trans ((e8 Qu as.symm).trans (by
     rw[bz];exact c4)))
    have w:=dp.mp v.ak;refine⟨m,J,_,e,Qg,Qu,ap,QH,w.1,am,λu F O QA a1 hZ n=>?_⟩;have a2:bu F (QR.set a<|Z .dZ) z q:=t.mono n.tup λg bd o d=>n.keep g o d λc=>w.2.2 g c g bd rfl;let⟨x,@Qq,y,be⟩:=a2.back hZ k;rw[xW]at y;refine p u F x O y a1 ((v.trans n t.chg).less (aM:=Qq) ?_);rw[bz];refine (dT x c4).trans ?_;rw[<-bz];refine (e8 O be).trans ?_;rw[bz];refine c4.trans ?_;rw[bz];refine c4.trans ?_;rw[bz,bz];refine (dT O ?_);exact c4
   ·cases h
  ·cases b
 ·cases b
section
variable{b:aK}
def mg:∀(j:aw) (m:aj) (f:af) (Qg:List ao),cw j m f Qg->iA m=X->l4 Qk "list" f j:=by
 intro j m f Qg c d;cases m with
 |lst J=>let⟨g,@y,rfl,l,W⟩:=c;exact .inl ⟨rfl,y,cQ.of l⟩
 |hz J=>let⟨g,y,@Qq,rfl,l,W⟩:=c;exact .inl ⟨rfl,y,cQ.of l⟩
 |_=>cases d
def o3{cv:aj->List aj->Option (aj×aj)}{d:bo}{Qe:List bo}(e:∀j m f Qg,cw j m f Qg->ty m=X->l4 b.K Qc f j)(bK:si Qc)(g:Slot Qc name id)(ba:rr (.builtin id)=pure (.type "method_descriptor"))(h:qw b id cv)(i:bN b o (nh a))(k:fA b (d::Qe) M)(n:rM o name b.env (b_ o b.env)=b_ o b.env:=by rfl)(p:((gz t<|bU (d::Qe) b.env).all (λf=>!f.1)&&(backToKw t<|keywordEach [] b.env).all (λf=>f.1.isSome)
   && decide ((d::Qe).length+([]:List qB).length+(if ([]:List qB).isEmpty then 0 else 1)<30))=X:=by rfl)(q:(R.endLine==t.line)=X:=by rfl)(Qj:bU (d::Qe) b.env=(aq,b_ d b.env)::bU Qe b.env:=by rfl)(r:(gz t<|bU Qe b.env).any (·.1)=aq:=by rfl):
  ck b (.Call (.Attribute o name R) (d::Qe) [] t) (hA ty a cv M):=
 ej (L4 bK g ba h i k n p q Qj r) λz j C c=>by
  let⟨@f,s,l,D⟩:=Em e c;exact⟨f,s,l,D⟩
def K8{cv:aj->List aj->Option (aj×aj)}(d:∀j m f Qg,cw j m f Qg->ty m=X->l4 b.K Qc f j)(bK:si Qc)(e:Slot Qc name id)(ba:rr (.builtin id)=pure (.type "method_descriptor"))(g:qw b id cv)(h:bN b o (nh a))(i:rM o name b.env (b_ o b.env)=b_ o b.env:=by rfl)(k:(R.endLine==t.line)=X:=by rfl):
  ck b (.Call (.Attribute o name R) [] [] t) (hA ty a cv aD):=
 ej (Gj bK e ba g h i k) λz j C c=>by
  let⟨@f,n,l,D⟩:=Em d c;refine⟨f,n,l,?_⟩;let⟨A,P,s,@QE,N,ak,q,p⟩:=D;cases q;exact p [] j P [] N ⟨rfl,rfl⟩ (by rw[cD];exact bk.perm ak (List.Perm.refl _))
@[simp] def lg:aj->List aj->Option (aj×aj):=λm J=>match m,J with
 |.lst y,[.im v]=>if y.length<100000 then Z (.im .aT,.lst<|y++[v]) else Y
 |_,_=>Y
def vJ{r:Nat}(c:r<100000):r<sizeLine:=eZ c ∅
def qv:qw b "list.append" lg:=by
 intro G h z j f U u QD C E a c e;let⟨m,J,s,r,Qg,@Qu,i,k,ak,d,p⟩:=e;unfold lg at d;split at d
 ·split at d
  ·rename_i n;cases d;let⟨g,@Qw,rfl,l,D,rfl⟩:=i;let⟨I,w,t,@v,rfl,@⟨o,rfl⟩,@⟨rfl,rfl⟩,rfl⟩:=k;have m:gi j g:=⟨_,l,(λ_ d=>by cases d),(λ_ W d=>by cases d)⟩;refine NC G h z j _ _ u QD C E a c ⟨g,Qw,I,rfl,rfl,l,vJ (by rw[<-D.length];exact n),p .aT _ [] [g] ⟨rfl,rfl⟩ ?_ (bk.chg (.head _) m (fi _ _) λf q=>by simpa using q)⟩;exact⟨g,_,rfl,fb,(D.snoc o).mono<|cp.lx m,rfl⟩
  ·cases d
 ·cases d
@[simp] def tY:aj->List aj->Option (aj×aj):=λm J=>match m,J with
 |.lst y,[]=>(y.getLast?).map λv=>(.im v,.lst y.dropLast)
 |_,_=>Y
def bx.last{J:List V}{y:List af}{v:V}(c:bx j J y)(d:J.getLast?=Z v):∃u,y[y.length-1]?=Z u/\cp j v u/\bx j J.dropLast y.dropLast:=by
 rw[Ak]at d;let⟨@u,a,b⟩:=c.get d;refine⟨u,by rw[<-c.length];exact a,b,?_⟩;rw[yF,yF,<-c.length];exact c.take _
def G_:qw b "list.pop" tY:=by
 intro G h z j f U u QD C E a c e;let⟨m,J,s,x,Qg,@Qu,i,k,ak,d,p⟩:=e;unfold tY at d;split at d
 ·let⟨@v,n,o⟩:=cu.mp d;cases o;let⟨g,@Qw,rfl,l,D,rfl⟩:=i;let@⟨rfl,rfl⟩:=k;let⟨@I,q,r,t⟩:=D.last n;have m:gi j g:=⟨_,l,(λ_ d=>by cases d),(λ_ W d=>by cases d)⟩;refine NL G h z j _ _ u QD C E a c ⟨g,Qw,I,rfl,rfl,l,q,p I _ [] [g] ⟨r.mono<|cp.lx m,rfl⟩ ?_ (bk.chg (.head _) m (fi _ _) λf w=>by simpa using w)⟩;exact⟨g,_,rfl,fb,t.mono<|cp.lx m,rfl⟩
 ·cases d
@[simp] def pD:aj->List aj->Option (aj×aj):=λm J=>match m,J with
 |.lst y,[.im (.int a)]=>if 0<=a/\a<y.length then (y[a.toNat]?).map λv=>(.im v,.lst<|y.eraseIdx a.toNat) else Y
 |_,_=>Y
theorem bx.erase:∀{J:List V}{y:List af} (r:Nat),bx j J y->bx j (J.eraseIdx r) (y.eraseIdx r)
 |[],y,r,c=>by cases (show y=[] from c);exact rfl
 |v::J,y,0,c=>by let⟨u,@s,rfl,l,D⟩:=c;exact D
 |v::J,y,r+1,c=>by let⟨u,@s,rfl,l,D⟩:=c;exact⟨u,_,rfl,l,D.erase r⟩
def Gs:qw b "list.pop" pD:=by
 intro G h z j f U u QD C E c e i;let⟨m,J,s,A,Qg,@Qu,k,n,ak,d,p⟩:=i;unfold pD at d;split at d
 ·rename_i a;split at d
  ·rename_i S;let⟨@v,o,q⟩:=cu.mp d;cases q;let⟨g,@Qw,rfl,l,D,rfl⟩:=k;let⟨I,w,B,@F,rfl,@⟨r,rfl⟩,@⟨rfl,rfl⟩,rfl⟩:=n;cases (show I=.int a from r);let⟨@I,t,x⟩:=D.get o;have m:gi j g:=⟨_,l,(λ_ d=>by cases d),(λ_ W d=>by cases d)⟩;have H:Qw.length<=sizeLine:=(E.a3 g _ l).1;have L:=mr;refine MQ G h z j _ _ u QD C E c e ⟨g,Qw,a,a.toNat,I,rfl,rfl,l,⋯,by have:=D.length;lia,sv S.1 (by rw[<-D.length];exact S.2),t,p I _ [] [g] ⟨x.mono<|cp.lx m,rfl⟩ ?_ (bk.chg (.head _) m (fi _ _) λf y=>by simpa using y)⟩;exact⟨g,_,rfl,fb,(D.erase _).mono<|cp.lx m,rfl⟩
  ·cases d
 ·cases d
def s_(b:aK)(pt:aj->aj->aj->Option aj):Prop:=(
 xx b λo a u j C=>∃m n v c Qg Qu,cw j m o Qg/\cw j n a []/\cw j v u Qu/\(Qg++Qu).Nodup/\pt m n v=Z c/\∀F d,cw F c o d->bk j (Qg++Qu) F d->C F)
@[simp] def nJ(m n v:aj):Option aj:=match m,n,v with
 |.lst y,.im<|.int a,.im v=>(i_ y.length a).map λi=>.lst (y.set i v)
 |_,_,_=>Y
theorem bx.set{j:aw}{v:V}{u:af}(x:cp j v u):∀{J:List V}{y:List af} (r:Nat),bx j J y->bx j (J.set r v) (y.set r u)
 |[],y,r,c=>by cases (show y=[] from c);exact rfl
 |d::J,y,0,c=>by let⟨L,@s,rfl,l,D⟩:=c;exact⟨u,s,rfl,x,D⟩
 |d::J,y,r+1,c=>by let⟨L,@s,rfl,l,D⟩:=c;exact⟨L,_,rfl,l,bx.set x r D⟩
def Bs:s_ b nJ:=by
 intro G h z j o a u c e L C E k q r s;let⟨m,n,v,F,Qg,@Qu,t,gM,w,ak,d,p⟩:=s;unfold nJ at d;split at d
 ·let⟨@i,x,y⟩:=cu.mp d;cases y;let⟨g,@Qw,rfl,l,D,rfl⟩:=t;let@⟨A,rfl⟩:=w;have m:gi j g:=⟨_,l,(λ_ d=>by cases d),(λ_ W d=>by cases d)⟩;refine Nd G h z j _ _ _ c e L C E k q r ⟨g,Qw,_,i,rfl,gM.1,l,by rw[<-D.length];exact x,p _ [g] ?_ (bk.chg (.head _) m (fi _ _) λf B=>by simpa using B)⟩;exact⟨g,_,rfl,fb,(bx.set A i D).mono<|cp.lx m,rfl⟩
 ·cases d
@[simp] def j9(a:Nat)(b:ay aj)(pt:aj->aj->aj->Option aj):fa:=λv A=>match A[a]? with
 |some (Z _)=>(b A).bind λq=>if q.1.ee=X then match q.2[a]? with
   |some (Z m)=>(pt m q.1 v).map λc=>q.2.set a (Z c)
   |_=>Y
  else Y
 |_=>Y
def n0{QK:List Nat}{n:bo}{w:ay aj}{pt:aj->aj->aj->Option aj}{Qx:Pos}(J:bN b o (nh a))(L:ck b n w)(M:s_ b pt)(e:∀u,hJ (.Subscript o n Qx) b.env u=(do
   let i <-holding [u] (b_ o b.env)
   let r <-holding [u,i] (b_ n b.env)
   standAt Qx
   holding [u,i,r] (sC i r u)
   release [u,i,r] []):=by intro W;rfl):gN b QK (.Subscript o n Qx) (j9 a w pt):=by
 refine sG (H_ J L M e) λu z j C O=>?_;let⟨A,P,v,Qg,@QE,N,QH,ak,k,p⟩:=O;unfold j9 at k;split at k
 ·rename_i bn Q;let⟨f,bs,@bv,s,ca,W,W⟩:=N.out Q;let⟨@⟨h,Qn⟩,l,D⟩:=bD.mp k;split at D
  ·rename_i R;refine⟨f,s,A,P,h,Qn,N,(dp.mp ak).1,l,λcd Qm QB ce S gM q=>?_⟩;obtain rfl:=gM.ee R;rw[cD]at q;have T:=dp.mp ak;dsimp only at D;split at D
   ·rename_i m U;let⟨@al,am,an⟩:=cu.mp D;cases an;let⟨ch,x,@y,B,ap,E,as⟩:=S.out U;rw[s]at B;cases B;have a1:cw Qm v u Qg:=QH.mono q.tup λg e o d=>q.keep g o d λc=>T.2.2 g c g e rfl;have G:bk j (P++Qg) Qm ((x++Qg)++y):=by
     have a2:bk j (P++Qg) j (P++Qg):=bk.perm ak (List.Perm.refl _);have:=bk.trans (QB:=P) (Qg:=Qg) a2 q QH.chg;refine this.k6 ((e8 Qg as.symm).trans ?_);rw[bz];exact c4
    have H:=dp.mp G.ak;refine⟨m,h,v,al,x,Qg,ap,gM,a1,H.1,am,λF ci bd t=>?_⟩;have be:bu F (Qn.set a<|Z .dZ) z y:=E.mono t.tup λg e o d=>t.keep g o d λc=>H.2.2 g c g e rfl;let⟨bi,@Qq,I,bm⟩:=be.back bd s;rw[xW]at I;exact p z F bi du.refl I ((G.trans t E.chg).less<|bm.trans c4)
   ·cases D
  ·cases D
 ·cases k
end
end L2
namespace L2
open Spec PyProof.Rows PySem.W
variable{R:List Int}{q:Array Nat}{QG:Type}
def Ht(t:List QG)(v:QG):(range t.length).map (λa=>t.getD a v)=t:=by
 apply Ar
 ·simp
 ·intro a l D;simp[List.getD,D]
def xq{t:List QG}{v:QG}(c:cM t.length q):(q.toList.map λa=>t.getD a v).Perm t:=by
 have:=u4 (λa=>t.getD a v) c;rw[Ht]at this;exact this
theorem r2{QG Q9:Type}{P:QG->Q9->Prop}:∀{b:List QG}{d:List Q9},b.length=d.length->(∀(a:Nat) g e,b[a]?=Z g->d[a]?=Z e->P g e)->d1 P b d
 |[],[],_,_=>.nil
 |g::t,e::k,c,B=>.cons (B 0 g e rfl rfl) (r2 ⇑c λa f I l D=>B (a+1) f I ⇑l ⇑D)
 |[],_::_,c,_=>by simp at c
 |_::_,[],c,_=>by simp at c
section
variable{Ql:bA}{x:bc}{O:bj}{Qh:ae->ah->Prop}{h:ah}{U:List ae}
def AO{QA:ao}{n:Nat}{Qf:PySem.Fin->ah->Prop}(Q:Nat->Int)(QC:fZ)(f:h.heap.get? QA=Z (fQ "list" U.toArray n))(F:2<=U.length->∀b:aV,(∀e o,e≠QA->h.heap.get? e=Z o->b.get? e=Z o)->∀C:fZ->ah->Prop,C QC {h with heap:=b}->wpAny (aN Ql x) O (wo U.toArray) C Qh {h with heap:=b})(G:∀b:aV,(∀e o,e≠QA->h.heap.get? e=Z o->b.get? e=Z o)->fs U.length Q (eK Ql x O QC<|U.toArray.zip U.toArray) {h with heap:=b})(up:U.length<1001\/∀i,1<=i->i<U.length->Q (i-1)<=Q i)(H:U.length<=1000)(c:∀(q:Array Nat) (T:aV),cM U.length q->km Q q U.length->(∀e o,e≠QA->h.heap.get? e=Z o->T.get? e=Z o)->(∃d,T.get? QA=Z (fQ "list" (q.toList.map λa=>U.getD a ae.none).toArray d))->
   Qf (.done<|.ret .none) {h with heap:=T}):wpAny (aN Ql x) O (bl.«list.sort» ⟨[.ref QA],[]⟩) Qf Qh h:=by
 have y:U.length<=sizeLine:=eU H ∅;rw[list_sort_plain];have al:QA<h.heap.objs.size:=bZ f;refine av (listItems_at f rfl (av (B3 f rfl ?_ (hsz:=by rw[cB];exact y) (hsz2:=by show 0<=_;exact fv _))));have p:=C7 f (λ_=>#[]);generalize am:(if (#[]:Array ae).size==U.toArray.size then n else n+1)=A at p;refine av (seqEpoch_at p rfl (av (A0 (av<|vy<|e3 ?_) ⇑y)));have j:∀e o,e≠QA->h.heap.get? e=Z o->(((h.heap.update QA<|a0.mapSeq λ_=>#[]).push<|fQ "tuple" U.toArray.toList.toArray 0).push<|fQ "list" ([]:List ae).toArray 0).get? e=Z o:=λe o k d=>
  b3 _ (b3 _<|(jQ _ _<|fz k).trans d);have z:(((h.heap.update QA<|a0.mapSeq λ_=>#[]).push<|fQ "tuple" U.toArray.toList.toArray 0).push<|fQ "list" ([]:List ae).toArray 0).get? QA=Z (fQ "list" #[] A):=
  b3 _ (b3 _ p);show wpAny (aN Ql x) O _ Qf Qh {h with heap:=((h.heap.update QA<|a0.mapSeq λ_=>#[]).push<|fQ "tuple" U.toArray.toList.toArray 0).push (fQ "list" ([]:List ae).toArray 0)};generalize ((h.heap.update QA<|a0.mapSeq λ_=>#[]).push<|fQ "tuple" U.toArray.toList.toArray 0).push (fQ "list" ([]:List ae).toArray 0)=b at j z ⊢;have B:∀(N:br) (q:Array Nat),cM U.length q->km Q q U.length->arrOf N=q.map (a7<|U.toArray.zip U.toArray)->ho N=Y->
   wpAny (aN Ql x) O (do
    let M:=(<-seqEpoch QA) != A
    bl.List.listUpdate (.ref QA) λ_=>(arrOf N).map (·.2)
    if let Z d:=ho N then rule "list.sort.comparison-raised";throw d
    if M then rule "list.sort.modified";raiseError "ValueError" "list modified during sort"
    ret .none) Qf Qh {h with heap:=b}:=λN q l r t u=>by
  have out:=kat_snds (ks:=U) (vs:=U) rfl t;rw[out,u];refine av (seqEpoch_at (s:={h with heap:=b}) z rfl (av (B3 (s:={h with heap:=b}) z rfl ?_ (hsz:=fv _) (hsz2:=by
   show (List.toArray<|q.toList.map λa=>U.getD a ae.none).size<=_;rw[cB,bq,di,l.size];lia))))
  simp only[bne_self_eq_false,gp,e2];refine aR (c q _ l r (λe o k d=>(jQ _ _<|fz k).trans<|j e o k d) ⟨_,C7 z λ_=>_⟩)
 dsimp only;by_cases D:U.toArray.size<2
 ·rw[aE D,aE D];refine av (aR ?_);rw[StateT.run_pure];apply av;apply aR;have w:U.length<2:=by simpa using D
  refine B (br.mk' general' (U.toArray.zip U.toArray) #[] 7 Y) (range U.length).toArray (List.Perm.refl _) (λa i an ap=>?_) ?_ rfl
  ·have:a=i:=⋯
   subst this;exact kW _
  ·have:=kas_range (U.toArray.zip U.toArray);rw[show (U.toArray.zip U.toArray).size=U.length by simp]at this;exact this.symm
 ·rw[aI D,aI D];have w:2<=U.length:=by simpa using D
  refine av (F w b j _ ?_)
  ·have P:=G b j;have E:=kas_range (U.toArray.zip U.toArray);rw[show (U.toArray.zip U.toArray).size=U.length by simp]at E;have run:=MP (Qh:=Qh) (C:=λ_ N Qd=>Qd={h with heap:=b}/\∃q,cM U.length q/\km Q q U.length/\arrOf N=q.map (a7<|U.toArray.zip U.toArray)/\ho N=Y) P
    w up λR as g e m v=>⟨rfl,R,g,e,m,v⟩;unfold rA at run;rw[E]at run;refine av (gS run (λs Qd S=>?_) λ_ W d=>d);let⟨L,N⟩:=s;let@⟨rfl,⟨@q,l,r,t,u⟩⟩:=S;exact B N q l r t u
end
section
variable{b:aK}{G:List (ao×a0)}{z:L2.aU}{j:aw}{h:ah}
def Bk(bm:b.calm=X){g:ao}{Qw:List af}{Qp:List ae}{r:Nat}{Qc:String}{o:a0}{C:cz}(Q:Nat->Int)(QC:fZ)(E:aA b G z j h)(J:bM Qw Qp)(U:Qc = "list" \/ Qc = "tuple")(d:h.heap.get? g=Z o)(aB:o.cls=.type Qc)(al:o.data=.seq Qp.toArray r)(bn:Qw.length<=1000)(am:2<=Qp.length->∀(c:aV) (QP:Nat),(∀e o,h.heap.get? e=Z o->c.get? e=Z o)->∀(O:bj) (Qh:ae->ah->Prop) (C:fZ->ah->Prop),C QC {h with heap:=c,toks:=QP}->wpAny (aN b.prog b.w) O (wo Qp.toArray) C Qh {h with heap:=c,toks:=QP})(an:∀(c:aV) (QP:Nat),(∀e o,h.heap.get? e=Z o->c.get? e=Z o)->fs Qp.length Q (eK b.prog b.w b.A.in1.in1 QC<|Qp.toArray.zip Qp.toArray) {h with heap:=c,toks:=QP})(up:Qp.length<1001\/∀i,1<=i->i<Qp.length->Q (i-1)<=Q i)(p:∀(q:Array Nat) t,cM Qp.length q->km Q q Qp.length->j t=Y->C (.ref t) (upd j t<|.lst<|q.toList.map λa=>Qw.getD a .aT)):
  wpAny (aN b.prog b.w) b.A (call (.builtin "sorted") [.ref g]) (d5 b G z C) b.cE h:=by
 have bs:Qw.length=Qp.length:=J.length;have M:Qp.length<=sizeLine:=eU ⋯ (show 1000<=sizeLine by decide);refine Cy kind_sorted Cc Ac (AX _) ?H
 case H=>
  unfold bl.«sorted»;refine av (m:=checkCount "sorted" 1 1 _) (aR (av (wpAny_collect_seq g U d aB al (λT v=>?_) (by rw[cB];exact M))));show wpAny _ _ (qJ Qp >>= _) _ _ _;refine av (vy ?_ M);have N:(T.push<|fQ "list" Qp.toArray 0).get? T.objs.size=Z (fQ "list" Qp.toArray 0):=c9 _ rfl;have bt:∀e o,h.heap.get? e=Z o->(T.push<|fQ "list" Qp.toArray 0).get? e=Z o:=λe o d=>b3 _ (v e o d);have P:aA b G z j {h with heap:=T}:=E.kept (QM:=h.toks) v;have R:∀e o,h.heap.get? e=Z o->e≠T.objs.size:=λe o d=>c2 (bZ<|v e o d);refine av (e3<|iB BO ⟨_,N,rfl⟩ E4 ?I<|Cf _)
  case I=>
   refine AO (h:={h with heap:=T.push (fQ "list" Qp.toArray 0)}) Q QC N (λD c y C ap=>am D c h.toks (λe o m=>y e o (R e o m)<|bt e o m) _ _ C ap) (λc y=>an c h.toks λe o m=>y e o (R e o m)<|bt e o m) up ⋯ λq D B as QW ⟨a1,a2⟩=>⟨_,rfl,aR ⟨_,rfl,?_⟩⟩;have bd:j T.objs.size=Y:=P.a3.fresh (bf _);have be:∀e o,T.get? e=Z o->e≠T.objs.size:=λe o d=>c2 (bZ d);refine⟨.ref T.objs.size,upd j T.objs.size<|.lst<|q.toList.map λa=>Qw.getD a .aT,?_,rfl,p q _ B as bd⟩;refine P.laid (QM:=h.toks) (λe L d=>QW e L (be e L d)<|b3 _ d) (bf _) ⟨?_,_,a1,?_,a2⟩
   ·rw[bq,di,B.size];lia
   ·refine r2 ↥0 λa u L l D=>?_;rw[eG]at l D;cases F:q.toList[a]? with
    |none=>rw[F]at l;cases l
    |some n=>
     rw[F]at l D;cases l;cases D;have S:n<Qp.length:=eX.mp (B.mem_iff.mp<|fu F);let⟨@L,s,bi⟩:=J.get (a:=n) (f:=Qw[n]'⋯) (by simp[show n<Qw.length by lia]);rw[eb S]at s;have s:=Option.some.inj s;simp only[List.getD,eb S,eb (show n<Qw.length by lia),uF];rw[s];exact bi
end
def oI(R:List Int)(a:Nat):Int:=(R.getD a 0)
def F1(ak:R.Nodup):∀a i,a<R.length->i<R.length->oI R a=oI R i->a=i:=λa i S b d=>by
 unfold oI at d;rw[cx,cx,eb S,eb b]at d;have e:R[a]=R[i]:=d;rcases m7 a i with c|c|c
 ·exact absurd e ((me.mp ak) a i S b c)
 ·exact c
 ·exact absurd e.symm ((me.mp ak) i a b S c)
def N2(b:cM R.length q)(up:km (oI R) q R.length)(ak:R.Nodup):(q.toList.map λa=>R.getD a 0).Pairwise (· < ·):=by
 rw[me];intro a i S c f;have Qj:=b.size;have h:a<R.length:=by simpa [Qj] using S
 have d:i<R.length:=by simpa [Qj] using c
 have ne:=b.ne (F1 ak) f d;have le:=up a i ⋯ d;have M:∀n (e:n<(q.toList.map λa=>R.getD a 0).length),(q.toList.map λa=>R.getD a 0)[n]=a4 (oI R) q n:=λn e=>by
  have g:n<q.size:=by simpa using e
  rw[zz,yC];show _=R.getD (q.getD n 0) 0;simp[Array.getD,g]
 rw[M a S,M i c];lia
section
variable{b:aK}
theorem uo{j:aw}:∀{R:List Int}{Qp:List ae},bM (R.map af.int) Qp->∀(a:Nat),a<R.length->∃w,Qp[a]?=Z (.int (R.getD a 0) w)
 |r::s,_,.cons g e,0,c=>by let⟨@w,rfl⟩:=g;exact⟨w,rfl⟩
 |r::s,_,.cons g e,a+1,c=>by
  let⟨@w,d⟩:=uo (j:=j) e a ⇑c;exact⟨w,by simpa using d⟩
def Hy(v:b.calm=X):en b (.builtin "sorted") (λy j C=>∃(g:ao) (R:List Int),y=[.ref g]/\j g=Z (.lst<|R.map af.int)/\R.Nodup/\R.length<=1000/\
  ∀t (k:List Int),j t=Y->k.Perm R->k.Pairwise (· < ·)->C (.ref t) (upd j t<|.lst<|k.map af.int)):=by
 intro G h z j y QD C E s c;let⟨g,@R,rfl,x,ak,A,p⟩:=c;let⟨@L,rfl,B⟩:=hX s;cases B;let@⟨H,⟨Qp,@r,e,d⟩⟩:=E.a3 g _ x;have m:Qp.length=R.length:=by rw[<-e.length,bq]
 refine Bk v (oI R) oneType' E e (.inl rfl) d rfl rfl (by rw[bq];exact A) (λD F QP n O Qh C I=>?_) (λF QP n=>?_) (.inl ⋯) λq t f o aQ=>?_
 ·refine kas_kind (T:=ae.type "int") D (λu J=>?_) ∅ ∅ I;let⟨@a,S⟩:=rR J;let⟨@w,ba⟩:=uo (j:=j) e a (by rw[<-m];exact (e9.mp S).1);rw[S]at ba;cases ba;exact Az rfl
 ·intro a i aM S Q p;let⟨@w,l⟩:=uo (j:=j) e a ⋯;let⟨@L,D⟩:=uo (j:=j) e i ⋯;unfold eK;rw[tr rfl,tr rfl,cx,cx,l,D];show wpAny _ _ (keyLt' oneType' (.int _ w)<|.int _ L) _ _ _;rw[keyLt'_oneType];exact oneLt_int p
 ·rw[m]at f o;have M:(q.toList.map λa=>(R.map af.int).getD a .aT)=(q.toList.map λa=>R.getD a 0).map af.int:=by
   rw[gs];refine oK λn N=>?_;have P:n<R.length:=eX.mp (f.mem_iff.mp N);show (R.map af.int).getD n .aT=af.int (R.getD n 0);simp[List.getD,P]
  rw[M];exact p t _ aQ (xq f) (N2 f o ak)
end
end L2
namespace L2
open Spec PyProof.Rows
section
variable{b:aK}
def gg:List V->List V->List V
 |f::y,I::Qw=>.tup [f,I]::gg y Qw
 |_,_=>[]
theorem Ct:∀(y Qw:List V),(gg y Qw).length=min y.length Qw.length
 |[],Qw=>by simp[gg]
 |f::y,[]=>by simp[gg]
 |f::y,I::Qw=>by simp[gg,Ct y Qw]
theorem Ft:∀(y Qw:List V) (a:Nat) (v:V),(gg y Qw)[a]?=Z v->∃f I,y[a]?=Z f/\Qw[a]?=Z I/\v=.tup [f,I]
 |[],Qw,a,v,c=>by simp[gg]at c
 |f::y,[],a,v,c=>by simp[gg]at c
 |f::y,I::Qw,0,v,c=>by simp[gg]at c;exact⟨f,I,rfl,rfl,c.symm⟩
 |f::y,I::Qw,a+1,v,c=>by
  let⟨g,e,l,D,b⟩:=Ft y Qw a v (by simpa [gg] using c);exact⟨g,e,by simpa using l,by simpa using D,b⟩
@[simp] def q8(M:ay (List bI)):jy:=λA=>(M A).bind λq=>(gC q.2 q.1).bind λJ=>match J with
 |[.im (.tup f),.im<|.tup I]=>Z ((gg f I,Y),q.2)
 |_=>Y
theorem Pa{Qk:Φ}{j:aw}{g e:ao}{y Qw:List af}{J Qe:List V}(c:j g=Z (.tup y))(b:bx j J y)(T:j e=Z (.tup Qw))(i:bx j Qe Qw):lG (sf Qk g e) j [] (gg J Qe) where
 go:=λF w n a v d=>by
  let⟨f,I,q,r,rfl⟩:=Ft J Qe a v d;let⟨u,k,s⟩:=b.get q;let⟨L,QN,QW⟩:=i.get r;have l:=cb.of (Qk:=Qk) (w.tup g _ c);have m:=cb.of (Qk:=Qk) (w.tup e _ T);refine⟨⟨y,Qw,u,L,l,m,k,QN⟩,λH C ⟨Qc,D,E,B,t,x,z,A⟩=>?_⟩;subst t x;have o:=z y l;have p:=A Qw m;rw[k]at o;rw[QN]at p;cases o;cases p;have h:cP F (upd F Qc<|.tup [u,L]):=(cP.refl F).upd B;exact⟨h,Qc,[u,L],rfl,fb,⟨u,[L],rfl,(s.mono w.tup).mono h.tupS.tup,L,[],rfl,(QW.mono w.tup).mono h.tupS.tup,rfl⟩⟩
 stop:=λF w n=>⟨y,Qw,cb.of<|w.tup g _ c,cb.of<|w.tup e _ T,by rw[Ct,<-b.length,<-i.length];lia⟩
def PH{g e:bo}{M:ay (List bI)}{q Qx:Pos}{Qe:List bo}{Ru:Nat}{Qr:Pos}(i:ed b "zip")(k:b.aH "zip" = Y)(a:fA b [g,e] M)(Qj:bU [g,e] b.env=[(aq,b_ g b.env),(aq,b_ e b.env)]:=by rfl)(m:bU [e] b.env=[(aq,b_ e b.env)]:=by rfl):
  lF b (.Tuple Qe Ru Qr) (.Call (.Name "zip" q) [g,e] [] Qx) (q8 M):=by
 refine xT (FN i k a Qj m) λz j x ⟨A,P,s,QE,N,ak,n,p⟩=>?_;let⟨⟨Q,Qn⟩,l,D⟩:=bD.mp n;let⟨J,o,c⟩:=bD.mp D;refine⟨A,P,Q,Qn,N,ak,l,λU Qm QB B f QT r=>?_⟩;have t:=QT.read f o;split at c
 ·cases c;let⟨u,L,rfl,d,v⟩:=w1 t;let⟨g,y,rfl,QN,QW⟩:=d;let⟨e,Qw,rfl,h,w⟩:=v;exact⟨g,e,rfl,⟨y,cb.of QN⟩,⟨Qw,cb.of h⟩,p _ Qm QB [] f (Pa QN QW h w) trivial (λg a=>nomatch a) (by rw[cD];exact r.both)⟩
 ·cases c
@[simp] def P6:h6:=λJ=>match J with
 |[.im (.int a),.im<|.int i,.im<|.int n]=>Z (.im<|.int<|min (min a i) n)
 |_=>Y
def j7(lt:V->V->Bool)(f:V):List V->List V
 |[]=>[f]
 |I::s=>if lt f I=X then f::I::s else I::j7 lt f s
def hs(lt:V->V->Bool):List V->List V
 |[]=>[]
 |f::s=>j7 lt f (hs lt s)
def tx:V->V->Bool
 |.int a,.int i=>decide (a<i)
 |_,_=>aq
def qe:List V->Option (List Int)
 |[]=>Z []
 |.int a::s=>(qe s).map λh=>a::h
 |_::_=>Y
@[simp] def xf:h6:=λJ=>match J with
 |[.lst f]=>(qe f).bind λR=>if R.Nodup/\R.length<=1000 then Z (.lst<|hs tx f) else Y
 |_=>Y
def lS(f:Int):List Int->List Int
 |[]=>[f]
 |I::s=>if f<I then f::I::s else I::lS f s
def oe:List Int->List Int
 |[]=>[]
 |f::s=>lS f (oe s)
theorem CF(f:Int):∀t:List Int,j7 tx (.int f) (t.map .int)=(lS f t).map .int
 |[]=>rfl
 |I::s=>by
  rw[cH,j7,lS,tx];by_cases c:f<I
  ·rw[aE ⇑c,aE c];rfl
  ·rw[aI ⇑c,aI c,CF f s];rfl
theorem EZ:∀t:List Int,hs tx (t.map .int)=(oe t).map .int
 |[]=>rfl
 |f::s=>by rw[cH,hs,EZ s,CF];rfl
theorem vF(f:Int):∀t:List Int,(lS f t).Perm (f::t)
 |[]=>List.Perm.refl _
 |I::s=>by
  rw[lS];split
  ·exact List.Perm.refl _
  ·exact ((vF f s).cons I).trans (List.Perm.swap f I s)
theorem xn:∀t:List Int,(oe t).Perm t
 |[]=>List.Perm.refl _
 |f::s=>(vF f _).trans ((xn s).cons f)
theorem z8(f:Int):∀t:List Int,t.Pairwise (·<=·)->(lS f t).Pairwise (·<=·)
 |[],_=>fi _ _
 |I::s,c=>by
  let⟨l,D⟩:=gE.mp c;rw[lS];split
  ·rename_i b;refine gE.mpr ⟨λH a=>?_,c⟩;rcases cj.mp a with rfl|a
   ·lia
   ·have:=l H a;lia
  ·rename_i b;refine gE.mpr ⟨λH a=>?_,z8 f s D⟩;rcases cj.mp ((vF f s).mem_iff.mp a) with rfl|a
   ·lia
   ·exact l H a
theorem tU:∀t:List Int,(oe t).Pairwise (·<=·)
 |[]=>List.Pairwise.nil
 |f::s=>z8 f _ (tU s)
def MZ{t:List Int}(c:t.Nodup):(oe t).Pairwise (· < ·):=by
 have l:=tU t;have D:(oe t).Nodup:=(xn t).nodup_iff.mpr c;exact IA (λg e f I=>⋯) l D
theorem zu:∀{t k:List Int},t.Perm k->t.Pairwise (· < ·)->k.Pairwise (· < ·)->t=k
 |[],k,c,_,_=>c.nil_eq
 |g::t,[],c,_,_=>absurd c.length_eq ↥0
 |g::t,e::k,c,f,h=>by
  have a:=gE.mp f;have b:=gE.mp h;have d:g=e:=by
   rcases cj.mp (c.mem_iff.mp<|.head _) with H|H
   ·exact H
   ·rcases cj.mp (c.mem_iff.mpr<|.head _) with I|I
    ·exact I.symm
    ·have l:=a.1 e I;have D:=b.1 g H;omega
  subst d;rw[zu c.cons_inv a.2 b.2]
theorem EY:∀{f:List V}{R:List Int},qe f=Z R->f=R.map .int
 |[],R,c=>by cases c;rfl
 |.int a::s,R,c=>by
  rw[qe]at c;let⟨h,l,rfl⟩:=cu.mp c;rw[EY l];rfl
 |.aT::_,_,c=>by cases c
 |.ax _::_,_,c=>by cases c
 |.str _::_,_,c=>by cases c
 |.tup _::_,_,c=>by cases c
 |.fn _::_,_,c=>by cases c
 |.aQ _::_,_,c=>by cases c
 |.fd::_,_,c=>by cases c
theorem Di{j:aw}:∀{R:List Int}{U:List af},bx j (R.map .int) U->U=R.map af.int
 |[],U,c=>c
 |r::s,U,c=>by
  let⟨u,w,rfl,l,D⟩:=c;cases (show u=.int r from l);rw[Di D];rfl
theorem AV{j:aw}:∀R:List Int,bx j (R.map .int) (R.map af.int)
 |[]=>rfl
 |r::s=>⟨.int r,_,rfl,rfl,AV s⟩
def Gr(e:b.calm=X)(i:b.A.units+20<bL):g8 b (.builtin "sorted") xf:=by
 refine (Hy e).imp λy j C ⟨J,v,g,d,p⟩=>?_;unfold xf at d;split at d
 ·rename_i f;let⟨R,h,a⟩:=bD.mp d;split at a
  ·rename_i c;cases a;let⟨u,rfl,W,q,y,rfl,l,D,W⟩:=fP g;cases EY h;cases Di D;refine⟨q,R,rfl,l,c.1,c.2,λt k aQ T up=>?_⟩;rw[EZ]at p;rw[zu (T.trans (xn R).symm) up (MZ c.1)];exact b4.l p aQ (AV _)
  ·cases a
 ·cases d
def yj(a:b.A.units+20<bL):s_ b nJ:=Bs
end
end L2
namespace L2
variable{g c M e:bR}{d:ay aj}{own k r:Nat}{J:List aj}{QK:List Nat}{o:Option (Nat×aj)}{y:List V}{v:aj}{Qn A:a6}{m:ay Bool}{QL:fa}{QG:Type}{i a:Int}
@[simp] theorem Qa(v:V)(A:a6):aB v A=Z (.im v,A):=rfl
@[simp] theorem BD(A:a6):aD A=Z ([],A):=rfl
@[simp] theorem P8(A:a6):eo A=Z (.bp,A):=rfl
@[simp] theorem P1(A:a6):oL A=Z (Y,A):=rfl
@[simp] theorem P9(A:a6):dW A=Z (X,A):=rfl
@[simp] theorem PL(v:V):(aj.im v).ee=X:=rfl
@[simp] theorem PY(v:List V):(aj.cN v).ee=X:=rfl
@[simp] theorem PN(v:List V):(aj.lst v).ee=aq:=rfl
@[simp] theorem PZ(v:List (List V×V)):(aj.aJ v).ee=aq:=rfl
@[simp] theorem P7(v:List (d_×V)):(aj.dj v).ee=aq:=rfl
@[simp] theorem Gf(A:a6)(v:aj):ep A (.cm v)=Z v:=rfl
@[simp] theorem PT(A:a6)(a:Nat):ep A (.aS a)=(A[a]?).getD Y:=rfl
@[simp] theorem L5(A:a6):gC A []=Z []:=rfl
@[simp] theorem HN(A:a6)(o:bI)(Q:List bI):gC A (o::Q)=(ep A o).bind λv=>(gC A Q).map λJ=>v::J:=rfl
@[simp] theorem H3(A:a6):eW [] A=Z ([],A):=rfl
@[simp] theorem Ki(v:aj)(Q:List bI)(A:a6):eW (.cm v::Q) A=(eW Q A).map λq=>(v::q.1,q.2):=rfl
@[simp] theorem PX(a:Nat)(Q:List bI)(A:a6):eW (.aS a::Q) A=(eY a A).bind λq=>(eW Q q.2).map λp=>(q.1::p.1,p.2):=rfl
@[simp] theorem P0:hl []=Z []:=rfl
@[simp] theorem PQ(v:V)(J:List aj):hl (.im v::J)=(hl J).map λs=>v::s:=rfl
@[simp] theorem PJ(e:Bool):mm (.im<|.ax e)=Z e:=rfl
def mN(l : -(2^64)<i)(D:i<2^64):gH a i=X:=by
 have:bl.Int.intBits i<=64:=ED l D;have T:¬ (bl.Int.intBits i>tO):=tP.mpr this;unfold gH;rw[cW T];simp
def Pf(l : -(2^64)<a)(D:a<2^64):gH a i=X:=by
 have:bl.Int.intBits a<=64:=ED l D;have T:¬ (bl.Int.intBits a>tO):=tP.mpr this;unfold gH;rw[cW T];simp
def Jk{y:List QG}(c:y.length<=r):y.take r=y:=rt c
def Hl(y:List QG)(n:Nat):gk y (Z (n:Int)) Y=y.drop n:=by
 unfold gk;rw[c_.MM,c_.O2];by_cases c:n<=y.length
 ·rw[qb c,Jk (by rw[gb];lia)]
 ·rw[Nat.min_eq_right ⋯,sA,sY,mS ⋯]
def wY{y:List QG}{v:QG}(b:0<=a)(c:y[a.toNat]?=Z v):dx y a=Z v:=by
 unfold dx i_;have S:a.toNat<y.length:=(e9.mp c).1;rw[aE b,aE ⋯];exact c
def u_{y:List QG}{v:QG}(c:y.getLast?=Z v):dx y (-1)=Z v:=by
 rw[Ak]at c;have S:y.length-1<y.length:=(e9.mp c).1;unfold dx i_;rw[aI ∅,aE ⋯];show y[(-1+(y.length:Int)).toNat]?=Z v;rw[show (-1+(y.length:Int)).toNat=y.length-1 by lia];exact c
def HD(E:Nat->a6->Prop)(Qg:aj->a6->Prop):∀{y:List V}{A:a6},E 0 A->
  (∀(a:Nat) (f:V) (A:a6),y[a]?=Z f->E a A->∃Qn aQ QR,QL (.im f) A=Z Qn/\e Qn=Z (aQ,QR)/\(((aQ=.bp\/aQ=.bV)/\E (a+1) QR)\/∃v,aQ=.et v/\Qg v QR))->
  (∃QE,ek QL e y A=Z (.bp,QE)/\E y.length QE)\/∃v QE,ek QL e y A=Z (.et v,QE)/\Qg v QE:=by
 intro y;induction y generalizing E with
 |nil=>intro A b W;exact .inl ⟨A,rfl,b⟩
 |cons f s g=>
  intro A b c;let⟨Qn,aQ,@QR,l,D,h⟩:=c 0 f A rfl b;rcases h with ⟨i,j⟩|⟨v,rfl,k⟩
  ·have:=g (λa=>E<|a+1) (A:=QR) j λa I QE m n=>c (a+1) I QE ⇑m n;have d:ek QL e (f::s) A=ek QL e s QR:=by
    rw[ek];dsimp only;rw[l];show (e Qn).bind _=_;rw[D];rcases i with rfl|rfl<;>rfl
   rw[d];exact this
  ·refine .inr ⟨v,QR,?_,k⟩;rw[ek];dsimp only;rw[l];show (e Qn).bind _=_;rw[D];rfl
def sQ(E:Nat->a6->Prop){y:List V}{A:a6}(b:E 0 A)(c:∀(a:Nat) (f:V) (A:a6),y[a]?=Z f->E a A->∃Qn aQ QR,QL (.im f) A=Z Qn/\e Qn=Z (aQ,QR)/\(aQ=.bp\/aQ=.bV)/\E (a+1) QR):
  ∃QE,ek QL e y A=Z (.bp,QE)/\E y.length QE:=by
 rcases HD E (λ_ W=>False) b (λa f A d g=>by
  let⟨Qn,aQ,@QR,l,D,h,i⟩:=c a f A d g;exact⟨Qn,aQ,QR,l,D,.inl ⟨h,i⟩⟩) with c|⟨_,_,_,c⟩
 ·exact c
 ·exact c.elim
def qF(E:Nat->a6->Prop)(b:a6->Prop)(step:∀k A,E k A->∃w Qn,m A=Z (w,Qn)/\(w=X->∃aQ QR,e Qn=Z (aQ,QR)/\(aQ=.bp\/aQ=.bV)/\∃a,a<k/\E a QR)/\(w=aq->b Qn)):
  ∀(r k:Nat) (A:a6),E k A->k<r->∃QE,h2 m e r A=Z (.bp,QE)/\b QE:=by
 intro r;induction r with
 |zero=>intro k A W c;lia
 |succ r d=>
  intro k A f o;let⟨w,@Qn,l,D,g⟩:=step k A f;rw[h2];dsimp only;rw[l];cases w with
  |false=>exact⟨Qn,rfl,g rfl⟩
  |true=>
   let⟨aQ,@QR,h,hf,⟨@a,p,i⟩⟩:=D rfl;let⟨@QE,j,n⟩:=d a QR i ⋯;refine⟨QE,?_,n⟩;simp only[qW,gR,h];rcases hf with rfl|rfl<;>exact j
def Pq(y:List QG):y.filter (λ_=>X)=y:=List.filter_eq_self.mpr λ_ W=>rfl
def gF(d:M A=Z (.bp,Qn)):bE M c A=c Qn:=by unfold bE;rw[d];rfl
def zk(d:M A=Z (.et v,Qn)):bE M c A=Z (.et v,Qn):=by unfold bE;rw[d];rfl
def sz{M:jy}{QR:a6}{aQ:mI}(d:M A=Z ((y,o),Qn))(c:ek QL e y Qn=Z (aQ,QR)):gD M QL e A=Z (aQ,kX o QR):=by
 unfold gD;rw[d];show (ek QL e y Qn).map _=_;rw[c];rfl
def NZ{s:aj}(a:J.length=r)(d:M (J.map Z++List.replicate (k-r) Y)=Z (.et s,A)):d6 r k QK M J=Z (s,ia QK J A 0):=by
 unfold d6;rw[aE a,d]
def mh{QJ:List Nat}{Rn:jy}{a:a6}{J:List V}(l:Rn A=Z ((y,o),Qn))(D:gu own QL m d y [] (js QJ Qn)=Z (J,a)):cO own QJ Rn QL m d A=Z (.lst J,kX o<|h3 QJ a Qn):=by
 unfold cO;rw[l];show (gu own QL m d y []<|js QJ Qn).map _=_;rw[D];rfl
def jc{M:ay aj}(d:M A=Z (v,Qn)):dw M A=Z (.et v,Qn):=by unfold dw;rw[d];rfl
def vg{a:Nat}{M:ay aj}(d:M A=Z (v,Qn))(c:a<Qn.length):bY a M A=Z (.bp,Qn.set a<|Z v):=by unfold bY;rw[d];show (if a<Qn.length then _ else _)=_;rw[aE c]
def yz(d:m A=Z (X,Qn)):dy m g e A=g Qn:=by unfold dy;rw[d];rfl
def Dy(d:m A=Z (aq,Qn)):dy m g e A=e Qn:=by unfold dy;rw[d];rfl
def tM(A:a6){s:aj}{G:List aj}(a:J.length=r)(d:M (J.map Z++List.replicate (k-r) Y)=Z (.et s,A))(b:ia QK J A 0=G):d6 r k QK M J=Z (s,G):=by
 rw[NZ a d,b]
theorem k8{QG:Type}{own:Nat}{QL:fa}{m:ay Bool}{d:ay aj}{aM:a6}(b:QG->V)(q:QG->Bool)(B:QG->V):∀(y:List QG) (a:List V),(∀f∈y,∃Qn QR,QL (.im<|b f) (List.replicate own Y++aM)=Z Qn/\m Qn=Z (q f,QR)/\(q f=aq->QR.drop own=aM)/\(q f=X->∃Rg,d QR=Z (.im<|B f,Rg)/\Rg.drop own=aM))->
  a.length+y.length<=100000->gu own QL m d (y.map b) a aM=Z (a++(y.filter q).map B,aM)
 |[],a,_,_=>by simp[gu]
 |f::s,a,c,h=>by
  let⟨Qn,@QR,l,D,i,j⟩:=c f (.head _);rw[er]at h;rw[cH,gu,l];show (m Qn).bind _=_;rw[D];show (if q f=X then _ else _)=_;cases e:q f with
  |false=>
   rw[aI df];show gu own QL m d (s.map b) a (QR.drop own)=_;rw[i e,k8 b q B s a (λI g=>c I<|.tail _ g) ⋯,De,e];rfl
  |true=>
   let⟨@Rg,k,n⟩:=j e;rw[aE rfl];show (d QR).bind _=_;rw[k];show (if a.length<100000 then gu own QL m d (s.map b) (a++[B f]) (Rg.drop own) else Y)=_;rw[aE ⋯,n,k8 b q B s (a++[B f]) (λI g=>c I<|.tail _ g) (by rw[dF,gq];lia),De,e];simp
def je{aM:a6}(a:QG->V)(B:QG->V)(y:List QG)(c:∀f∈y,∃Qn QR Rg,QL (.im<|a f) (List.replicate own Y++aM)=Z Qn/\m Qn=Z (X,QR)/\d QR=Z (.im<|B f,Rg)/\Rg.drop own=aM)(h:y.length<=100000):gu own QL m d (y.map a) [] aM=Z (y.map B,aM):=by
 have:=k8 (own:=own) (QL:=QL) (m:=m) (d:=d) (aM:=aM) a (λ_=>X) B y [] (λf b=>by
  let⟨Qn,QR,@Rg,l,D,e,g⟩:=c f b;exact⟨Qn,QR,l,D,(λH=>by cases H),(λ_=>⟨Rg,e,g⟩)⟩) (by rw[jI];lia)
 rw[Pq]at this;exact this
theorem yD{QG Q9:Type}(a:QG->V)(b:Q9->V):∀(y:List QG) (Qw:List Q9),gg (y.map a) (Qw.map b)=(y.zip Qw).map λq=>.tup [a q.1,b q.2]
 |[],Qw=>by simp[gg]
 |f::y,[]=>by simp[gg]
 |f::y,I::Qw=>by simp[gg,yD a b y Qw]
def vI{Q9:Type}(B:QG->Q9)(y:List QG)(R S:Option Int):gk (y.map B) R S=(gk y R S).map B:=by
 unfold gk;rw[bq,iJ,iX]
end L2
namespace G
open L2
abbrev aF(a:Int):aj:=.im (.int a)
end G
namespace L2
open Spec PyProof.Rows
section
variable{b:aK}
def rn:V->Option d_
 |.int a=>Z (.inl a)
 |.str f=>Z (.inr f)
 |_=>Y
@[simp] theorem PO(a:Int):rn (.int a)=Z (.inl a):=rfl
@[simp] theorem PS(f:aC):rn (.str f)=Z (.inr f):=rfl
def Dl:d_->V
 |.inl a=>.int a
 |.inr f=>.str f
@[simp] theorem P_(a:Int):Dl (.inl a)=.int a:=rfl
@[simp] theorem PM(f:aC):Dl (.inr f)=.str f:=rfl
def O5{j:aw}{v:V}{u:af}{n:d_}(c:cp j v u)(d:rn v=Z n):u=bW n:=by
 cases v with
 |int a=>cases d;exact c
 |str f=>cases d;exact c
 |_=>cases d
def fO{QC:Type}[DecidableEq QC](Qt:List (QC×V))(n:QC)(v:V):List (QC×V):=(
 if (Qt.any λa=>decide (a.1=n))=X then Qt.map (λa=>if a.1=n then (a.1,v) else a) else Qt++[(n,v)])
variable{QC:Type}
def el.any[DecidableEq QC]{j:aw}{n:QC}{t:List (QC×V)}{k:List (QC×af)}(c:el j t k):(t.any λa=>decide (a.1=n))=(k.any λa=>decide (a.1=n)):=by
 unfold el at c;induction c with
 |nil=>rfl
 |cons s _ b=>rw[k_,k_,b,s.1]
def el.upd[DecidableEq QC]{j:aw}{n:QC}{v:V}{u:af}(x:cp j v u){t:List (QC×V)}{k:List (QC×af)}(c:el j t k):el j (t.map λa=>if a.1=n then (a.1,v) else a) (k.map λa=>if a.1=n then (a.1,u) else a):=by
 unfold el at c;induction c with
 |nil=>exact .nil
 |@cons q p _ _ s _ e=>
  rw[cH,cH];refine .cons ?_ e;by_cases d:q.1=n
  ·have b:p.1=n:=s.1.symm.trans d;rw[aE d,aE b];exact⟨s.1,x⟩
  ·have b:¬ p.1=n:=λH=>d (s.1.trans H);rw[aI d,aI b];exact s
def JZ{QG Q9:Type}{P:QG->Q9->Prop}{t:List QG}{k:List Q9}{g:QG}{e:Q9}(c:d1 P t k)(f:P g e):d1 P (t++[g]) (k++[e]):=by
 induction c with
 |nil=>exact .cons f .nil
 |cons s _ a=>exact .cons s a
def el.put[DecidableEq QC]{j:aw}{n:QC}{v:V}{u:af}(x:cp j v u){t:List (QC×V)}{k:List (QC×af)}(c:el j t k):el j (fO t n v) (gQ k n u):=by
 unfold fO gQ;rw[c.any];split
 ·exact c.upd x
 ·exact JZ c ⟨rfl,x⟩
@[simp] def PV(a b:ay aj):ay aj:=λA=>(a A).bind λq=>(b q.2).bind λp=>match q.1,p.1 with
 |.im n,.im v=>(rn n).map λc=>(.dj [(c,v)],p.2)
 |_,_=>Y
@[simp] def jh(m n v:aj):Option aj:=match m,n,v with
 |.lst y,.im<|.int a,.im v=>(i_ y.length a).map λi=>.lst (y.set i v)
 |.dj Qt,.im n,.im v=>(rn n).bind λb=>if Qt.length<100000 then Z (.dj<|fO Qt b v) else Y
 |.aJ Qt,.im<|.tup n,.im v=>if V.keys 7 n=X/\Qt.length<100000 then Z (.aJ<|fO Qt n v) else Y
 |_,_,_=>Y
def yf(I:b.A.units+20<bL):s_ b jh:=by
 intro G h z j o a u J M L C E k i q N;let⟨m,n,v,P,Qg,@Qu,r,gM,s,ak,d,p⟩:=N;unfold jh at d;split at d
 ·exact Bs G h z j o a u J M L C E k i q ⟨_,_,_,P,Qg,Qu,r,gM,s,ak,d,p⟩
 ·let⟨@S,Q,x⟩:=bD.mp d;split at x
  ·rename_i c;cases x;let⟨g,@Qw,rfl,l,D,rfl⟩:=r;let@⟨B,rfl⟩:=s;have m:gi j g:=⟨_,l,(λ_ d=>by cases d),(λ_ W d=>by cases d)⟩;cases k;have R:=O5 gM.1 Q;subst R;refine Ew I E (l_.k l (by rw[<-D.length];exact vJ c)) i q λQd F=>⟨_,F,p _ [g] ?_ (bk.chg (.head _) m (fi _ _) λf H=>by simpa using H)⟩;exact⟨g,_,rfl,fb,(el.put B D).mono<|cp.lx m,rfl⟩
  ·cases x
 ·split at d
  ·rename_i c;cases d;let⟨g,@Qw,rfl,l,D,rfl⟩:=r;let@⟨B,rfl⟩:=s;have m:gi j g:=⟨_,l,(λ_ d=>by cases d),(λ_ W d=>by cases d)⟩;cases k;let⟨e,@y,rfl,QN,QW⟩:=gM.1;refine Ew I E (l_.t l ⟨c.1,e,y,rfl,QN,QW⟩ (by rw[<-D.length];exact vJ c.2)) i q λQd F=>⟨_,F,p _ [g] ?_ (bk.chg (.head _) m (fi _ _) λf H=>by simpa using H)⟩;exact⟨g,_,rfl,fb,(el.put B D).mono<|cp.lx m,rfl⟩
  ·cases d
 ·cases d
end
section
variable{b:aK}
def BL:bI->aj->Option (Nat×aj)
 |.aS a,v=>Z (a,v)
 |.cm _,_=>Y
@[simp] theorem PU(a:Nat)(v:aj):BL (.aS a) v=Z (a,v):=rfl
@[simp] theorem Qb(m v:aj):BL (.cm m) v=Y:=rfl
def LM{n:Nat}{a:aC}{i r:Pos}{QL Q_ Rm:bo}{Rl:List bo}{QF:gf}{Qx:Pos}{own:List aC}{QJ:List Nat}{eS:cU}{M:jr->fJ}{J:jr->d0}{Rf:jr->bX}(v:b.N.Nodup)(w:b.N[n]?=Z a)(x:jk b.env.scope a)(y:b.calm=X)(Qu:i0 b QF own QJ)(S:ki b QL Q_ eS)(C:∀l,iK (b.fl (ft b own QJ) QF l) QL<|M l)(ba:∀l,qZ (b.fl (ft b own QJ) QF l) Rl<|J l)(D:∀l,bN (b.fl (ft b own QJ) QF l) Rm<|Rf l)(Qj:∀f,lM Q_ b.env f=pure f:=by intro W;rfl)(F:mJ (.ListComp Rm [⟨QL,Q_,Rl,0⟩] QF Qx) (Z<|.Name a i) r.line b.env=pure X:=by rfl)(I:b.fn a=X\/b.env.scope.names.lookup a=Z .local:=by first|exact .inl rfl|exact .inr rfl|assumption):
  hG b (.Assign [.Name a i] (.ListComp Rm [⟨QL,Q_,Rl,0⟩] QF Qx) r) (v5 (tH own QJ eS M J Rf)<|w7 n):=by
 intro G h z j L E c;rw[exec_Assign_Name_used _ _ _ _ F];refine av (r8<|av ?_);show wpAny _ b.A (do let _ <-u9 (.ListComp Rm [⟨QL,Q_,Rl,0⟩] QF Qx) QF b.env _ (qJ []) aq (b_ Q_ b.env) (Z<|hJ (.Name a i) b.env)) _ _ h;refine av (gS (BP (use:=Z (hJ (.Name a i) b.env)) (f2:=λ_ Qd=>oE b G L .next Qd) y Qu S C ba D Qj E c λA aM bd P k Q R B s t H q p=>?_) (λ_ Qd U=>aR<|aR U) λ_ W d=>d);show wpAny _ b.A (hJ (.Name a i) b.env<|.ref A) _ _ P;refine Ex (AU Q v w x (u:=.ref A) rfl (λal am an=>?_) I);let⟨@g,ap,m⟩:=an;have as:aM≠g:=by
  rcases m with rfl|m
  ·exact fz s
  ·exact fz (t _ _ m)
 exact⟨k,R.sameBut ap as,λT cn=>⟨_,_,am.turned (it:=aM) (QM:=al.toks) (λe o a1 d=>(cn.2 e a1).trans d) B (fz s) (.inr H) t q,p⟩⟩
def qh{QK:List Nat}{a:Nat}{c:aC}{i e:Pos}{QL Q_ Rm:bo}{Rl:List bo}{QF:gf}{Qx:Pos}{own:List aC}{QJ:List Nat}{Rn:jy}{I:fa}{cY:ay Bool}{Rq:ay aj}(g:b.N.Nodup)(h:b.N[a]?=Z c)(k:jk b.env.scope c)(m:b.calm=X)(Qu:i0 b QF own QJ)(ak:QJ.Nodup)(S:lF b QL Q_ Rn)(n:∀d,gN (b.fl (ft b own QJ) QF d) (nV own.length QJ.length) QL I)(ba:∀d,sZ (b.fl (ft b own QJ) QF d) Rl cY)(o:∀d,ck (b.fl (ft b own QJ) QF d) Rm Rq)(q:a∉QK)(Qj:∀f,lM Q_ b.env f=pure f:=by intro W;rfl)(r:mJ (.ListComp Rm [⟨QL,Q_,Rl,0⟩] QF Qx) (Z<|.Name c i) e.line b.env=pure X:=by rfl)(t:b.fn c=X\/b.env.scope.names.lookup c=Z .local:=by first|exact .inl rfl|exact .inr rfl|assumption):
  ik b QK (.Assign [.Name c i] (.ListComp Rm [⟨QL,Q_,Rl,0⟩] QF Qx) e) (bY a<|cO own.length QJ Rn I cY Rq):=by
 refine kp (LM g h k m Qu S n ba o Qj r t) λQh z j v=>?_;let⟨A,P,aQ,@QE,N,w,x,p⟩:=v;let⟨@⟨s,Qn⟩,l,D⟩:=bD.mp x;split at D
 ·rename_i y;cases D;refine Ab ak ⟨A,P,s,_,N,w,l,λu Qm QB Qg B QH C=>?_⟩;let⟨QI,@bQ,E,T⟩:=B.put (a:=a) QH y;exact p _ Qm QI (du.set q) E (C.less T)
 ·cases D
def Fx:aj->aj
 |.lst f=>.im (.aQ f)
 |.aJ []=>.im .fd
 |v=>v
@[simp] theorem P2(f:List V):Fx (.lst f)=.im (.aQ f):=rfl
@[simp] theorem PK(v:V):Fx (.im v)=.im v:=rfl
end
end L2
namespace c_
open Spec PyProof.Rows
end c_
namespace L2
open Spec PyProof.Rows
section
variable{b:aK}
theorem bx.rev{j:aw}:∀{J:List V}{y:List af},bx j J y->bx j J.reverse y.reverse
 |[],y,c=>by cases (show y=[] from c);rfl
 |v::J,y,c=>by
  let⟨u,@s,rfl,l,D⟩:=c;rw[yk,yk];exact D.rev.app ⟨u,[],rfl,l,rfl⟩
end
variable{cY Q8 Rc:ay bI}{R B:fV}{C:ae->ah->Prop}{e:Bool}{Q2:aj}{L u:ae}{I f:af}{h:ah}{z:aU}{G:List (ao×a0)}{v:V}{j:aw}
theorem yM{c:aV}:∀(r:Nat) {f I:V}{u:ae},V.bg r f=X->V.bg r I=X->dq c f u->dq c I u->f=I
 |r,.aT,I,u,_,aX,h,b=>by
  cases (show u=.none from h);cases I with
  |aT=>rfl
  |ax e=>cases b
  |int i=>let⟨@L,d⟩:=b;cases d
  |str H=>let⟨@L,d⟩:=b;cases d
  |tup J=>let⟨W,W,W,@W,d,W⟩:=b;cases d
  |fn g=>cases r<;>cases aX
  |aQ g=>cases r<;>cases aX
  |fd=>cases r<;>cases aX
 |r,.ax e,I,u,_,aX,h,b=>by
  cases (show u=.bool e from h);cases I with
  |aT=>cases b
  |ax m=>cases b;rfl
  |int i=>let⟨@L,d⟩:=b;cases d
  |str H=>let⟨@L,d⟩:=b;cases d
  |tup J=>let⟨W,W,W,@W,d,W⟩:=b;cases d
  |fn g=>cases r<;>cases aX
  |aQ g=>cases r<;>cases aX
  |fd=>cases r<;>cases aX
 |r,.int a,I,u,_,aX,h,b=>by
  let⟨@w,rfl⟩:=h;cases I with
  |aT=>cases b
  |ax m=>cases b
  |int i=>let⟨@L,d⟩:=b;injection d with d;rw[d]
  |str H=>let⟨@L,d⟩:=b;cases d
  |tup J=>let⟨W,W,W,@W,d,W⟩:=b;cases d
  |fn g=>cases r<;>cases aX
  |aQ g=>cases r<;>cases aX
  |fd=>cases r<;>cases aX
 |r,.str a,I,u,_,aX,h,b=>by
  let⟨@w,rfl⟩:=h;cases I with
  |aT=>cases b
  |ax m=>cases b
  |int i=>let⟨@L,d⟩:=b;cases d
  |str H=>let⟨@L,d⟩:=b;injection d with d;rw[d]
  |tup J=>let⟨W,W,W,@W,d,W⟩:=b;cases d
  |fn g=>cases r<;>cases aX
  |aQ g=>cases r<;>cases aX
  |fd=>cases r<;>cases aX
 |r+1,.tup J,I,u,t,aX,h,b=>by
  let⟨g,o,Qy,@k,rfl,l,D,x,y⟩:=h;cases I with
  |aT=>cases b
  |ax m=>cases b
  |int i=>let⟨@L,d⟩:=b;cases d
  |str H=>let⟨@L,d⟩:=b;cases d
  |fn g=>cases aX
  |aQ g=>cases aX
  |fd=>cases aX
  |tup Qe=>
   let⟨E,QU,F,@G,d,q,M,j,z⟩:=b;cases d;rw[l]at q;cases q;rw[x]at j;injection j with j _;subst j;have all:∀(J Qe:List V) (U:List ae),V.cg r J=X->V.cg r Qe=X->dv c J U->dv c Qe U->J=Qe:=by
    intro J;induction J with
    |nil=>
     intro Qe U W W g e;cases Qe with
     |nil=>rfl
     |cons d Qe=>let⟨W,@W,p,W⟩:=e;rw[show U=[] from g]at p;cases p
    |cons v J A=>
     intro Qe U QN QW g e;let⟨u,@s,rfl,B,C⟩:=g;cases Qe with
     |nil=>cases (show u::s=[] from e)
     |cons d Qe=>
      let⟨N,@Q1,p,dR,dc⟩:=e;cases p;rw[V.cg,cG]at QN QW;rw[yM r QN.1 QW.1 B dR,A Qe s QN.2 QW.2 C dc]
   rw[all J Qe _ t aX y z]
 |0,.tup _,_,_,n,_,_,_=>by cases n
 |r,.fn _,_,_,n,_,_,_=>by cases r<;>cases n
 |r,.aQ _,_,_,n,_,_,_=>by cases r<;>cases n
 |r,.fd,_,_,n,_,_,_=>by cases r<;>cases n
open Classical in
def mf(c:aV)(v:V)(u:ae):Bool:=(if H:∃f,V.bg 8 f=X/\dq c f u then cf H.choose v else aq)
def pR{c:aV}{f:V}(n:V.bg 8 f=X)(a:dq c f u):mf c v u=cf f v:=by
 unfold mf;have H:∃f,V.bg 8 f=X/\dq c f u:=⟨f,n,a⟩;rw[dif_pos H,yM 8 H.choose_spec.1 n H.choose_spec.2 a]
theorem pP{c:aV}{v:V}:∀{J:List V}{U:List ae},V.cg 8 J=X->dv c J U->U.any (mf c v)=J.any λf=>cf f v
 |[],U,_,d=>by rw[show U=[] from d];rfl
 |f::J,U,n,d=>by
  let⟨u,@s,rfl,l,D⟩:=d;rw[V.cg,cG]at n;rw[k_,k_,pR n.1 l,pP n.2 D]
theorem pF{c:aV}:∀{J:List V}{U:List ae}{u:ae},V.cg 8 J=X->dv c J U->u∈U->∃f,V.bg 8 f=X/\dq c f u
 |[],U,u,_,d,k=>by rw[show U=[] from d]at k;cases k
 |f::J,U,u,n,d,k=>by
  let⟨L,@s,rfl,l,D⟩:=d;rw[V.cg,cG]at n;rcases cj.mp k with rfl|k
  ·exact⟨f,n.1,l⟩
  ·exact pF n.2 D k
section
variable{b:aK}
def eH(v:V):aj->Option Bool
 |.im (.tup J)=>if (V.bg 8 v&&V.cg 8 J)=X then Z (J.any λf=>cf f v) else Y
 |.lst J=>if (V.bg 8 v&&V.cg 8 J)=X then Z (J.any λf=>cf f v) else Y
 |.aJ Qt=>match v with
  |.tup n=>if V.keys 7 n=X then Z (dH Qt n).isSome else Y
  |_=>Y
 |.dj Qt=>match v with
  |.int a=>Z (dH Qt<|.inl a).isSome
  |.str f=>Z (dH Qt<|.inr f).isSome
  |_=>Y
 |_=>Y
@[simp] theorem H2(v:V)(J:List V):eH v (.im<|.tup J)=if (V.bg 8 v&&V.cg 8 J)=X then Z (J.any λf=>cf f v) else Y:=rfl
@[simp] theorem MX(v:V)(J:List V):eH v (.lst J)=if (V.bg 8 v&&V.cg 8 J)=X then Z (J.any λf=>cf f v) else Y:=rfl
@[simp] theorem A5(n:List V)(Qt:List (List V×V)):eH (.tup n) (.aJ Qt)=if V.keys 7 n=X then Z (dH Qt n).isSome else Y:=rfl
@[simp] def g6:fV:=λg e=>match g with
 |.im v=>(eH v e).map λs=>.im (.ax s)
 |_=>Y
@[simp] def eJ:fV:=λg e=>match g with
 |.im v=>(eH v e).map λs=>.im (.ax<|!s)
 |_=>Y
def nP{QC:Type}[DecidableEq QC]{j:aw}{n:QC}{Qt:List (QC×V)}{i:List (QC×af)}(c:el j Qt i):(g5 i n).isSome=(dH Qt n).isSome:=by
 cases d:dH Qt n with
 |none=>rw[(n6 c).2 d];rfl
 |some v=>let⟨@u,l,W⟩:=(n6 c).1 v d;rw[l];rfl
def JY(N:b.A.units+20<bL)(E:aA b G z j h)(m:b5 f u)(o:b5 I L)(r:cp j v f)(s:eI j Q2 I)(d:eH v Q2=Z e)(p:∀Qd,aA b G z j Qd->C (.bool e) Qd):wpAny (aN b.prog b.w) b.A (d4 .In u L) C b.cE h:=by
 unfold eH at d;split at d
 ·rename_i J;split at d
  ·rename_i c;cases d;rw[cG]at c;let⟨g,@y,rfl,l,D⟩:=s.i;cases o;let⟨@Qp,Q,q,W⟩:=E.tuple (cb.of l);have B:=D.e7 E.a3 Q;refine SeqAt.in_tupleAt (mf h.heap v) (show h.heap.IsTuple g Qp.toArray from q) (λx P=>?_) ?_
   ·let⟨@H,F,M⟩:=pF c.2 B ⇑P;rw[pR F M];exact ir 8 F c.1 (by show b.A.units+1+8+1<bL;lia) M (r.e7 E.a3 m)
   ·rw[tD,pP c.2 B];exact p h E
  ·cases d
 ·rename_i J;split at d
  ·rename_i c;cases d;rw[cG]at c;let⟨W,g,@y,rfl,l,D,W⟩:=s;cases o;let⟨@Qp,q,B,W⟩:=nQ E l D;refine SeqAt.in_listAt (mf h.heap v) q (λx P=>?_) ?_
   ·let⟨@H,F,M⟩:=pF c.2 B ⇑P;rw[pR F M];exact ir 8 F c.1 (by show b.A.units+1+8+1<bL;lia) M (r.e7 E.a3 m)
   ·rw[tD,pP c.2 B];exact p h E
  ·cases d
 ·rename_i Qt;split at d
  ·rename_i n;split at d
   ·rename_i R;cases d;let⟨W,g,@i,rfl,l,D,W⟩:=s;cases o;let⟨e,@Qw,rfl,S,T⟩:=r;rw[<-nP D]at p;exact vN N E (f9.t l ⟨R,e,Qw,rfl,S,T⟩) m p
   ·cases d
  ·cases d
 ·rename_i Qt;split at d
  ·rename_i a;cases d;let⟨W,g,@i,rfl,l,D,W⟩:=s;cases o;rw[<-nP D]at p;cases (show f=bW (.inl a) from r);exact vN N E (f9.k l) m p
  ·rename_i a;cases d;let⟨W,g,@i,rfl,l,D,W⟩:=s;cases o;rw[<-nP D]at p;cases (show f=bW (.inr a) from r);exact vN N E (f9.k l) m p
  ·cases d
 ·cases d
def lW(c:b.A.units+20<bL):e6 b (d4 .In) g6:=by
 intro G h z j f I u L C E g k l;let⟨QZ,Q2,@v,m,n,d,p⟩:=l;unfold g6 at d;split at d
 ·let⟨@e,o,q⟩:=cu.mp d;cases q;exact JY c E g k m.i n o λQd r=>⟨.ax e,j,r,rfl,b4.i p rfl⟩
 ·cases d
def LZ(N:b.A.units+20<bL)(E:aA b G z j h)(m:b5 f u)(o:b5 I L)(r:cp j v f)(s:eI j Q2 I)(d:eH v Q2=Z e)(p:∀Qd,aA b G z j Qd->C (.bool<|!e) Qd):wpAny (aN b.prog b.w) b.A (d4 .NotIn u L) C b.cE h:=by
 unfold eH at d;split at d
 ·rename_i J;split at d
  ·rename_i c;cases d;rw[cG]at c;let⟨g,@y,rfl,l,D⟩:=s.i;cases o;let⟨@Qp,Q,q,W⟩:=E.tuple (cb.of l);have B:=D.e7 E.a3 Q;refine SeqAt.notIn_tupleAt (mf h.heap v) (show h.heap.IsTuple g Qp.toArray from q) (λx P=>?_) ?_
   ·let⟨@H,F,M⟩:=pF c.2 B ⇑P;rw[pR F M];exact ir 8 F c.1 (by show b.A.units+1+8+1<bL;lia) M (r.e7 E.a3 m)
   ·rw[tD,pP c.2 B];exact p h E
  ·cases d
 ·rename_i J;split at d
  ·rename_i c;cases d;rw[cG]at c;let⟨W,g,@y,rfl,l,D,W⟩:=s;cases o;let⟨@Qp,q,B,W⟩:=nQ E l D;refine SeqAt.notIn_listAt (mf h.heap v) q (λx P=>?_) ?_
   ·let⟨@H,F,M⟩:=pF c.2 B ⇑P;rw[pR F M];exact ir 8 F c.1 (by show b.A.units+1+8+1<bL;lia) M (r.e7 E.a3 m)
   ·rw[tD,pP c.2 B];exact p h E
  ·cases d
 ·rename_i Qt;split at d
  ·rename_i n;split at d
   ·rename_i R;cases d;let⟨W,g,@i,rfl,l,D,W⟩:=s;cases o;let⟨e,@Qw,rfl,S,T⟩:=r;rw[<-nP D]at p;exact wG N E (f9.t l ⟨R,e,Qw,rfl,S,T⟩) m p
   ·cases d
  ·cases d
 ·rename_i Qt;split at d
  ·rename_i a;cases d;let⟨W,g,@i,rfl,l,D,W⟩:=s;cases o;rw[<-nP D]at p;cases (show f=bW (.inl a) from r);exact wG N E (f9.k l) m p
  ·rename_i a;cases d;let⟨W,g,@i,rfl,l,D,W⟩:=s;cases o;rw[<-nP D]at p;cases (show f=bW (.inr a) from r);exact wG N E (f9.k l) m p
  ·cases d
 ·cases d
def jA(c:b.A.units+20<bL):e6 b (d4 .NotIn) eJ:=by
 intro G h z j f I u L C E g k l;let⟨QZ,Q2,@v,m,n,d,p⟩:=l;unfold eJ at d;split at d
 ·let⟨@e,o,q⟩:=cu.mp d;cases q;exact LZ c E g k m.i n o λQd r=>⟨.ax<|!e,j,r,rfl,b4.i p rfl⟩
 ·cases d
@[simp] def lO(B R:fV)(Rc Q8 cY:ay bI):ay aj:=λA=>(Rc A).bind λq=>(Q8 q.2).bind λp=>(ep p.2 q.1).bind λQZ=>(ep p.2 p.1).bind λQ2=>(B QZ Q2).bind λv=>(mm v).bind λn=>
 if n=X then (cY p.2).bind λs=>(ep s.2 p.1).bind λa=>(ep s.2 s.1).bind λb=>(R a b).bind λH=>(mm H).map λe=>(.im<|.ax e,s.2) else Z (.im<|.ax aq,p.2)
def I4{C:cz}(c:la (lO B R Rc Q8 cY) z j C):
  Ea (λf I j C=>∃QZ Q2 v,eI j QZ f/\eI j Q2 I/\B QZ Q2=Z v/\b4 j v C) (λf I j C=>∃QZ Q2 v,eI j QZ f/\eI j Q2 I/\R QZ Q2=Z v/\b4 j v C) (lQ Rc) (lQ Q8) (lQ cY) z j C:=by
 let⟨A,P,s,@QE,N,ak,a,p⟩:=c;let⟨@⟨QT,Qn⟩,l,a⟩:=bD.mp a;let⟨@⟨Q4,QR⟩,D,a⟩:=bD.mp a;let⟨@QZ,M,a⟩:=bD.mp a;let⟨@Q2,O,a⟩:=bD.mp a;let⟨@v,Q,a⟩:=bD.mp a;let⟨@n,S,i⟩:=bD.mp a;have T:=qd S;subst T;refine⟨A,P,QT,Qn,N,ak,l,λf Qm QB al am E t=>⟨Qn,QB,Q4,QR,am,(dp.mp t.ak).1,D,λI Qz QI bQ k F m=>?_⟩⟩;have an:hr Qz z QT f al:=E.mono m.tup λg b o d=>m.keep g o d λc=>(dp.mp t.ak).2.2 g c g b rfl;refine⟨QZ,Q2,_,an.read k M,F.read k O,Q,λu G ap h QH db ds=>?_⟩;let@⟨rfl,rfl⟩:=(show u=.ax n/\ap=[] from QH);refine⟨n,rfl,?_⟩;have J:=t.trans m E.chg;rw[bz]at J;have q:=J.new h hi (λg b=>nomatch b) k.chg;have L:bu G QR z QI:=k.mono h.tupS λg W o d=>h g o d;cases n with
 |false=>
  rw[aI df]at i ⊢;cases i;exact p _ G QI [] L ⟨rfl,rfl⟩ q
 |true=>
  rw[aE rfl]at i ⊢;let⟨@⟨U,Rg⟩,as,QN⟩:=bD.mp i;let⟨@a1,a2,QW⟩:=bD.mp QN;let⟨@bd,be,bi⟩:=bD.mp QW;let⟨@H,bm,bn⟩:=bD.mp bi;let⟨@e,bs,bv⟩:=cu.mp bn;cases bv;have ca:=qd bs;subst ca;rw[cD]at q;refine⟨QR,QI,U,Rg,L,q.ak,as,λx cd ce dL r ch w=>?_⟩;have ci:=dp.mp m.ak;have cl:hr cd z Q4 I bQ:=(F.mono h.tupS λg W o d=>h g o d).mono w.tup λg b o d=>w.keep g o d λc=>ci.2.2 g c g b rfl;refine⟨a1,bd,_,cl.read r a2,ch.read r be,bm,λu co cr y cs eq ev=>?_⟩;let@⟨rfl,rfl⟩:=(show u=.ax e/\cr=[] from cs);exact p _ co ce [] (r.mono y.tupS λg W o d=>y g o d) ⟨rfl,rfl⟩ ((q.seq w).new y hi (λg b=>nomatch b) r.chg)
def BY{QV a:jV}{g e m:bo}{Qx:Pos}(c:e6 b (d4 QV) B)(d:e6 b (d4 a) R)(f:dz b g Rc)(i:dz b e Q8)(k:dz b m cY)(o:lastMarks [QV,a] [e,m]=aq:=by with_unfolding_all rfl):hH b (.Compare g [QV,a] [e,m] Qx) (bt<|lO B R Rc Q8 cY):=by
 refine tZ (O9 c d f i k o) λz j C r=>?_;let⟨A,P,n,@QE,N,ak,s,p⟩:=r;refine I4 ⟨A,P,.im<|.ax n,QE,N,ak,?_,λu F QQ Qg t QH h=>⟨n,QH.1,p F QQ t (by rw[QH.2,cD]at h;exact h)⟩⟩;let⟨@q,l,D⟩:=bD.mp s;let⟨@x,v,w⟩:=cu.mp D;cases w;rw[l,<-qd v]
end
mutual
def bC:V->V->Bool
 |.int a,.int i=>decide (a<i)
 |.tup g,.tup e=>fC g e
 |_,_=>aq
def fC:List V->List V->Bool
 |[],[]=>aq
 |[],_::_=>X
 |_::_,[]=>aq
 |g::s,e::w=>if V.beq g e=X then fC s w else bC g e
end
mutual
def eN:Nat->V->V->Bool
 |_,.int _,.int _=>X
 |r+1,.tup g,.tup e=>fg r g e
 |_,_,_=>aq
def fg:Nat->List V->List V->Bool
 |_,[],[]=>X
 |r,g::s,e::w=>eN r g e&&fg r s w
 |r,[],e::w=>V.cg r (e::w)
 |r,g::s,[]=>V.cg r (g::s)
end
mutual
theorem og:∀{r:Nat}{g e:V},eN r g e=X->V.bg r g=X/\V.bg r e=X/\cf g e=V.beq g e
 |r,.int a,.int i,_=>by
  refine⟨by cases r<;>rfl,by cases r<;>rfl,?_⟩;rw[cf,V.beq];by_cases c:a=i<;>simp[c]
 |r+1,.tup g,.tup e,c=>by
  rw[eN]at c;let@⟨l,D,b⟩:=zg c;exact⟨l,D,by rw[cf,V.beq];exact b⟩
theorem zg:∀{r:Nat}{g e:List V},fg r g e=X->V.cg r g=X/\V.cg r e=X/\dB g e=V.kk g e
 |r,[],[],_=>⟨by cases r<;>rfl,by cases r<;>rfl,rfl⟩
 |r,[],e::w,c=>⟨by cases r<;>rfl,c,rfl⟩
 |r,g::s,[],c=>⟨c,by cases r<;>rfl,rfl⟩
 |r,g::s,e::w,c=>by
  rw[fg,cG]at c;let@⟨l,D,a⟩:=og c.1;let@⟨b,d,f⟩:=zg c.2;exact⟨by rw[V.cg,l,b];rfl,by rw[V.cg,D,d];rfl,by rw[dB,V.kk,a,f]⟩
end
def mV{g e:V}(c:¬ g=e):V.beq g e=aq:=by
 cases d:V.beq g e with
 |false=>rfl
 |true=>exact absurd ((V.beq_iff g e).mp d) c
mutual
theorem pN:∀g:V,bC g g=aq
 |.int a=>by simp[bC]
 |.tup g=>by rw[bC];exact A2 g
 |.aT=>rfl
 |.ax _=>rfl
 |.str _=>rfl
 |.fn _=>rfl
 |.aQ _=>rfl
 |.fd=>rfl
theorem A2:∀g:List V,fC g g=aq
 |[]=>rfl
 |g::s=>by rw[fC,aE<|(V.beq_iff g g).mpr rfl];exact A2 s
end
mutual
theorem o6:∀{r:Nat}{g e:V},eN r g e=X->g≠e->bC g e=!(bC e g)
 |r,.int a,.int i,_,c=>by
  have:a≠i:=λd=>c (by rw[d]);rw[bC,bC];rcases Int.lt_or_gt_of_ne this with M|M
  ·simp[M];lia
  ·simp[M];lia
 |r+1,.tup g,.tup e,c,d=>by
  rw[eN]at c;rw[bC,bC];exact y_ c λH=>d (by rw[H])
theorem y_:∀{r:Nat}{g e:List V},fg r g e=X->g≠e->fC g e=!(fC e g)
 |r,[],[],_,c=>absurd rfl c
 |r,[],e::w,_,_=>rfl
 |r,g::s,[],_,_=>rfl
 |r,g::s,e::w,c,d=>by
  rw[fg,cG]at c;rw[fC,fC];by_cases H:g=e
  ·subst H;rw[aE ((V.beq_iff g g).mpr rfl),aE<|(V.beq_iff g g).mpr rfl];exact y_ c.2 λx=>d (by rw[x])
  ·rw[mV H,mV<|λx=>H x.symm,aI df,aI df];exact o6 c.1 H
end
mutual
theorem r6:∀{r:Nat}{g e m:V},eN r g e=X->eN r e m=X->bC g e=X->bC e m=X->bC g m=X
 |r,.int a,.int i,.int n,_,_,l,D=>by
  rw[bC]at l D ⊢;have:=hS l;have:=hS D;exact dk (by omega)
 |r+1,.tup g,.tup e,.tup m,aZ,bh,l,D=>by
  rw[eN]at aZ bh;rw[bC]at l D ⊢;exact DW aZ bh l D
theorem DW:∀{r:Nat}{g e m:List V},fg r g e=X->fg r e m=X->fC g e=X->fC e m=X->fC g m=X
 |r,[],_,_::_,_,_,_,_=>rfl
 |r,[],[],[],_,_,c,_=>c
 |r,_::_,[],_,_,_,c,_=>by cases c
 |r,_,_::_,[],_,_,_,c=>by cases c
 |r,g::s,e::w,m::L,aZ,bh,l,D=>by
  rw[fg,cG]at aZ bh;rw[fC]at l D ⊢;by_cases b:g=e
  ·subst b;rw[aE ((V.beq_iff g g).mpr rfl)]at l;by_cases a:g=m
   ·subst a;rw[aE ((V.beq_iff g g).mpr rfl)]at D ⊢;exact DW aZ.2 bh.2 l D
   ·rw[mV a,aI df]at D ⊢;exact D
  ·rw[mV b,aI df]at l;by_cases a:e=m
   ·subst a;rw[mV b,aI df];exact l
   ·rw[mV a,aI df]at D;have d:=r6 aZ.1 bh.1 l D;have f:¬ g=m:=λx=>by
     subst x;have:=o6 bh.1 a;rw[l,D]at this;cases this
    rw[mV f,aI df];exact d
end
def uN(O:bj)(h:ah)(I f:ae)(n:Bool):Prop:=(∀(Ql:bA) (x:bc) (Qh:ae->ah->Prop) (C:ae->ah->Prop),C (.bool n) h->wpAny (aN Ql x) O (mH .Lt I f) C Qh h)
def g0(B:Bool):List (Bool×Bool)->Bool
 |[]=>B
 | (d,n)::s=>if d=X then g0 B s else n
section
open PySem.SeqAt
open PySem.AutoSeq1 (wpAny_loadPart')
open PySem.MeetsSeq PySem.MeetsSeq2 PySem.MeetsSeq3
def J8(t e:ao)(Qy b:Array ae)(r z:Nat)(A B:Option ao)(aS C:Array (Option ae))(Qr:List (Bool×Bool))(R:Qr.length=min Qy.size b.size):
  Meets (bl.«tuple.__lt__» ⟨[.ref t,.ref e],[]⟩)
   (λO Qg h=>h.heap.get? t=Z {cls:=.type "tuple",dict:=A,data:=.seq Qy r,slots:=aS}/\h.heap.get? e=Z {cls:=.type "tuple",dict:=B,data:=.seq b z,slots:=C}/\
    (∀i (l:i<Qy.size) (D:i<b.size) (o:i<Qr.length),EqAt O.in1 h Qy[i] b[i] (Qr[i]).1/\((Qr[i]).1=aq->uN O.in1 h Qy[i] b[i] (Qr[i]).2))/\
    Qg (.ok<|.ret<|.bool<|g0 (decide (Qy.size<b.size)) Qr) h):=
 .of_wp λQl x O Qg h c=>by
  let⟨k,M,v,QP,Q⟩:=h;let@⟨E,F,G,c⟩:=c;have S:=Bh;have q:(Qy.toList.zip b.toList).length=min Qy.size b.size:=by simp
  wp_walk using wpAny_loadPart' E,wpAny_loadPart' F,mA _ (λcL e Qd=>e.1=Y/\Qd=⟨k,M,v,QP,Q⟩/\∃a,cL=(Qy.toList.zip b.toList).drop a/\
   Qg (.ok<|.ret<|.bool<|g0 (decide (Qy.size<b.size))<|Qr.drop a) ⟨k,M,v,QP,Q⟩) _
  case turn=>
   rintro⟨I,f⟩ cL e Qd ⟨p,rfl,a,g,j⟩;have s:a<(Qy.toList.zip b.toList).length:=by
    rcases e5 a (Qy.toList.zip b.toList).length with T|T
    ·exact T
    ·rw[mS T]at g;cases g
   have U:a<min Qy.size b.size:=q ▸ s;have l:a<Qy.size:=⋯
   have D:a<b.size:=⋯
   have o:a<Qr.length:=⋯
   rw[i2 s]at g;injection g with u H;have J:I=Qy[a]:=by have:=congrArg Prod.fst u;simpa using this
   have L:f=b[a]:=by have:=congrArg Prod.snd u;simpa using this
   subst J L;rw[i2 o]at j;let@⟨w,y⟩:=G a l D o;generalize Qr[a]=N at j w y;let⟨d,n⟩:=N;refine av (w Ql x _ _ ?_);cases d with
   |true=>
    have m:Qg (.ok<|.ret<|.bool<|g0 (decide (Qy.size<b.size))<|Qr.drop<|a+1) ⟨k,M,v,QP,Q⟩:=j
    wp_walk
    exact⟨rfl,rfl,a+1,H,m⟩
   |false=>
    have m:Qg (.ok<|.ret<|.bool n) ⟨k,M,v,QP,Q⟩:=j;have P:=y rfl Ql x
    wp_walk using P
    exact⟨_,rfl,by simpa using m⟩
  case fin=>
   rintro⟨dR,dc⟩ Qd ⟨p,rfl,a,g,j⟩;simp only at p;subst p;have al:min Qy.size b.size<=a:=by
    rcases e5 a (Qy.toList.zip b.toList).length with T|T
    ·rw[i2 T]at g;cases g
    ·exact q ▸ T
   rw[mS ⋯]at j;have m:Qg (.ok<|.ret<|.bool<|decide (Qy.size<b.size)) ⟨k,M,v,QP,Q⟩:=j
   wp_walk
   exact⟨_,rfl,by simpa [bl.Tuple.tupleCompareSizes] using m⟩
  case h=>
   exact⟨rfl,rfl,0,rfl,by simpa using c⟩
end
def ka(J Qe:List V):List (Bool×Bool):=((J.zip Qe).map λq=>(cf q.1 q.2,bC q.1 q.2))
theorem BX:∀{r:Nat}{J Qe:List V},fg r J Qe=X->g0 (decide (J.length<Qe.length)) (ka J Qe)=fC J Qe
 |_,[],[],_=>rfl
 |r,g::s,e::w,c=>by
  rw[fg,cG]at c;show (if cf g e=X then g0 (decide (s.length+1<w.length+1)) (ka s w) else bC g e)=fC (g::s) (e::w);rw[fC,(og c.1).2.2,<-BX c.2,xD.mpr xd]
 |_,[],_::_,_=>rfl
 |_,_::_,[],_=>rfl
theorem xU{r:Nat}:∀{J Qe:List V}{i:Nat}{g e:V},fg r J Qe=X->J[i]?=Z g->Qe[i]?=Z e->eN r g e=X
 |[],Qe,i,g,e,_,c,_=>by simp at c
 |v::J,[],i,g,e,_,_,c=>by simp at c
 |v::J,d::Qe,0,g,e,c,l,D=>by
  rw[fg,cG]at c;cases l;cases D;exact c.1
 |v::J,d::Qe,i+1,g,e,c,l,D=>by
  rw[fg,cG]at c;exact xU (i:=i) c.2 ⇑l ⇑D
def yv{O:bj}{a i:Int}(b:dq h.heap (.int a) L)(c:dq h.heap (.int i) u):uN O h L u (bC (.int a)<|.int i):=by
 let⟨@w,rfl⟩:=b;let⟨@QM,rfl⟩:=c;intro Ql x Qh C p;rw[bC]at p;exact c_.H4 O h a w i QM Ql x Qh C p
def qD:∀{r:Nat}{f I:V},eN r f I=X->(∃a i,f=.int a/\I=.int i)\/∃k g e,r=k+1/\f=.tup g/\I=.tup e/\fg k g e=X:=by
 intro r f I c;unfold eN at c;split at c
 ·exact .inl ⟨_,_,rfl,rfl⟩
 ·exact .inr ⟨_,_,_,rfl,rfl,rfl,c⟩
 ·cases c
def y4(r:Nat):∀{O:bj}{f I:V}{L u:ae},eN r f I=X->O.units+r+2<bL->dq h.heap f L->dq h.heap I u->uN O h L u (bC f I):=by
 induction r with
 |zero=>
  intro O f I L u c G b j;rcases qD c with ⟨a,i,rfl,rfl⟩|⟨k,_,_,d,_⟩
  ·exact yv b j
  ·cases d
 |succ r M=>
  intro O f I L u c G b j;rcases qD c with ⟨a,i,rfl,rfl⟩|⟨k,J,Qe,d,rfl,rfl,c⟩
  ·exact yv b j
  cases d;let⟨g,o,Qp,@k,rfl,l,D,m,n⟩:=b;let⟨e,QU,A,@N,rfl,q,s,t,v⟩:=j;let⟨cls,Q,data,aS⟩:=o;let⟨ap,R,as,S⟩:=QU;simp only at D m s t;subst D m s t;have aZ:J.length=Qp.size:=by rw[n.length,di]
  have bh:Qe.length=A.size:=by rw[v.length,di]
  intro Ql x Qh C p;rw[bC,<-BX c,aZ,bh]at p;have T:(ka J Qe).length=min Qp.size A.size:=by rw[ka,bq,wF,aZ,bh]
  refine Eu (op:=.Lt) ⟨_,l,rfl⟩ ⟨_,q,rfl⟩ PySem.F.slot_tuple_lt PySem.F.entry_tuple_lt (PySem.F.args_tuple_lt_2 _ _) (J8 g e Qp A k N Q R aS S (ka J Qe) T)
   ⟨l,q,λi U al am=>?_,show ae.bool (g0 (decide (Qp.size<A.size))<|ka J Qe)≠ae.notImplemented/\C (.bool<|g0 (decide (Qp.size<A.size))<|ka J Qe) h from ⟨(λf=>nomatch f),p⟩⟩ ⋯;let⟨@QZ,w,y⟩:=n.get (i:=i) (u:=Qp[i]) (by rw[eu];simp[U]);let⟨@Q2,z,B⟩:=v.get (i:=i) (u:=A[i]) (by rw[eu];simp[al]);have lk:=xU c w z;have E:=og lk;have an:(ka J Qe)[i]=(cf QZ Q2,bC QZ Q2):=by
   have:(ka J Qe)[i]?=Z (cf QZ Q2,bC QZ Q2):=by
    rw[ka,eG,(uq (z:=(QZ,Q2))).mpr ⟨w,z⟩];rfl
   rw[eb am]at this;exact Option.some.inj this
  rw[an];exact⟨ir r E.1 E.2.1 (by show O.units+1+r+1<bL;lia) y B,λ_=>M lk (by show O.units+1+r+2<bL;lia) y B⟩
end L2
namespace L2
open Spec PyProof.Rows PySem.W
variable{Qp:List ae}{t J:List V}
theorem wh{QG:Type}{q p:QG->Bool}:∀{t:List QG},(∀f∈t,q f=X->p f=X)->(∃f∈t,p f=X/\q f=aq)->t.countP q<t.countP p
 |[],_,c=>by let⟨@f,a,W⟩:=c;cases a
 |g::t,c,⟨f,a,l,D⟩=>by
  rw[Fb,Fb];have le:t.countP q<=t.countP p:=List.countP_mono_left λI b=>c I (.tail _ b);rcases cj.mp a with rfl|a
  ·rw[l,D];simp;omega
  ·have:=wh (λI b=>c I<|.tail _ b) ⟨f,a,l,D⟩;have d:=c g (.head _);cases e:q g<;>cases h:p g<;>rw[e,h]at d<;>simp at d ⊢<;>omega
structure mc(J:List V):Prop where
 dO:J.length<=1000
 iQ:∀g∈J,∀e∈J,eN 6 g e=X
structure tK(J:List V):Prop where
 dO:J.length<=1000
 iQ:∀g∈J,∀e∈J,eN 6 g e=X
 ak:J.Nodup
def tK.w{J:List V}(o:tK J):mc J:=⟨o.dO,o.iQ⟩
def oB(J:List V)(f:V):Nat:=(J.countP λv=>bC v f)
def CR(o:mc J){f I:V}(a:f∈J)(b:I∈J)(c:bC f I=X):oB J f<oB J I:=
 wh (λH e d=>r6 (o.iQ H e f a) (o.iQ f a I b) d c) ⟨f,a,c,pN f⟩
def zh(o:mc J){f I:V}(a:f∈J)(b:I∈J):decide ((oB J f:Int)<(oB J I:Int))=bC f I:=by
 cases d:bC f I with
 |true=>exact dk (by have:=CR o a b d;lia)
 |false=>
  refine cW λH=>?_;by_cases c:f=I
  ·subst c;lia
  ·have w:=o6 (o.iQ f a I b) c;rw[d]at w;have QM:bC I f=X:=by cases p:bC I f<;>rw[p]at w<;>simp at w ⊢
   have:=CR o b a QM;lia
def oZ(J:List V)(a:Nat):Int:=(oB J (J.getD a .aT))
def sl{a:Nat}(c:a<J.length):J.getD a .aT∈J:=by
 rw[cx,eb c];exact rx c
def CI(o:mc J){q:Array Nat}(b:cM J.length q)(up:km (oZ J) q J.length):(q.toList.map λa=>J.getD a .aT).Pairwise (λg e=>bC e g=aq):=by
 rw[me];intro a i S c l;have Qj:=b.size;have j:a<J.length:=by simpa [Qj] using S
 have f:i<J.length:=by simpa [Qj] using c
 have le:=up a i ⋯ f;have M:∀n (h:n<(q.toList.map λa=>J.getD a .aT).length),(q.toList.map λa=>J.getD a .aT)[n]=J.getD (q.getD n 0) .aT:=λn h=>by
  have k:n<q.size:=by simpa using h
  rw[zz,yC];simp[Array.getD,k]
 rw[M a S,M i c];rw[<-zh o (sl<|b.lt f) (sl<|b.lt j)];refine cW ?_;have d:∀n,(oB J (J.getD (q.getD n 0) .aT):Int)=a4 (oZ J) q n:=λ_=>rfl;rw[d a,d i];lia
theorem yP:∀{t k:List V},t.Perm k->t.Pairwise (λg e=>bC g e=X)->k.Pairwise (λg e=>bC g e=X)->(∀g∈t,∀e∈t,bC g e=X->bC e g=aq)->t=k
 |[],k,q,_,_,_=>(List.nil_perm.mp q).symm
 |g::t,k,q,l,D,a=>by
  cases k with
  |nil=>exact absurd q.length_eq ↥0
  |cons e k=>
   have d:g=e:=by
    by_cases d:g=e
    ·exact d
    ·have h:g∈k:=by
      rcases cj.mp (q.mem_iff.mp<|.head _) with H|H
      ·exact absurd H d
      ·exact H
     have b:e∈t:=by
      rcases cj.mp (q.mem_iff.mpr<|.head _) with H|H
      ·exact absurd H.symm d
      ·exact H
     have i:=(gE.mp l).1 e b;have c:=(gE.mp D).1 g h;rw[a g (.head _) e (.tail _ b) i]at c;cases c
   subst d;rw[yP (K3 q) (gE.mp l).2 (gE.mp D).2 λf j I m=>a f (.tail _ j) I<|.tail _ m]
theorem rv(f:V):∀t:List V,(j7 bC f t).Perm (f::t)
 |[]=>List.Perm.refl _
 |I::s=>by
  rw[j7];split
  ·exact List.Perm.refl _
  ·exact (List.Perm.cons I<|rv f s).trans (List.Perm.swap f I s)
theorem jD:∀t:List V,(hs bC t).Perm t
 |[]=>List.Perm.refl _
 |f::s=>(rv f _).trans (List.Perm.cons f<|jD s)
theorem CO{f:V}:∀{t:List V},t.Pairwise (λg e=>bC g e=X)->(∀I∈t,f≠I)->(∀g∈f::t,∀e∈f::t,eN 6 g e=X)->(j7 bC f t).Pairwise (λg e=>bC g e=X)
 |[],_,_,_=>fi _ _
 |I::s,c,r,lk=>by
  have T:=gE.mp c;rw[j7];split
  ·rename_i d;refine gE.mpr ⟨λH a=>?_,c⟩;rcases cj.mp a with rfl|a
   ·exact d
   ·exact r6 (lk f (.head _) I<|.tail _<|.head _) (lk I (.tail _<|.head _) H<|.tail _<|.tail _ a) d (T.1 H a)
  ·rename_i d;refine gE.mpr ⟨λH a=>?_,CO T.2 (λH a=>r H<|.tail _ a) λg b e h=>lk g ?_ e ?_⟩
   ·rcases cj.mp ((rv f s).mem_iff.mp a) with rfl|a
    ·have w:=o6 (lk H (.head _) I<|.tail _<|.head _) (r I<|.head _);cases p:bC I H with
     |true=>rfl
     |false=>rw[p]at w;exact absurd w d
    ·exact T.1 H a
   ·rcases cj.mp b with rfl|b
    ·exact .head _
    ·exact .tail _ (.tail _ b)
   ·rcases cj.mp h with rfl|h
    ·exact .head _
    ·exact .tail _ (.tail _ h)
theorem tb:∀{t:List V},t.Nodup->(∀g∈t,∀e∈t,eN 6 g e=X)->(hs bC t).Pairwise (λg e=>bC g e=X)
 |[],_,_=>.nil
 |f::s,ak,lk=>by
  have c:=iw.mp ak;refine CO (tb c.2 λg a e b=>lk g (.tail _ a) e<|.tail _ b) (λI h d=>c.1 (by rw[d];exact (jD s).mem_iff.mp h)) λg a e b=>lk g ?_ e ?_
  ·rcases cj.mp a with rfl|a
   ·exact .head _
   ·exact .tail _ ((jD s).mem_iff.mp a)
  ·rcases cj.mp b with rfl|b
   ·exact .head _
   ·exact .tail _ ((jD s).mem_iff.mp b)
def yx(o:tK J)(q:t.Perm J)(c:t.Pairwise (λg e=>bC g e=X)):t=hs bC J:=by
 refine yP (q.trans (jD J).symm) c (tb o.ak o.iQ) λg a e b d=>?_;have w:=o6 (o.iQ g (q.mem_iff.mp a) e<|q.mem_iff.mp b) (λH=>by subst H;rw[pN]at d;cases d);rw[d]at w;cases p:bC e g with
 |false=>rfl
 |true=>rw[p]at w;cases w
theorem C0{f:V}:∀{t:List V},t.Pairwise (λg e=>bC e g=aq)->(∀g∈f::t,∀e∈f::t,eN 6 g e=X)->(j7 bC f t).Pairwise (λg e=>bC e g=aq)
 |[],_,_=>fi _ _
 |I::s,c,lk=>by
  have T:=gE.mp c;unfold j7;split
  ·rename_i d;refine gE.mpr ⟨λH a=>?_,c⟩;cases p:bC H f with
   |false=>rfl
   |true=>
    have w:=r6 (lk H (.tail _ a) f<|.head _) (lk f (.head _) I<|.tail _<|.head _) p d;rcases cj.mp a with rfl|a
    ·rw[pN]at w;cases w
    ·rw[T.1 H a]at w;cases w
  ·rename_i d;refine gE.mpr ⟨λH a=>?_,C0 T.2 λg b e h=>lk g ?_ e ?_⟩
   ·rcases cj.mp ((rv f s).mem_iff.mp a) with rfl|a
    ·cases p:bC H I with
     |false=>rfl
     |true=>exact absurd p d
    ·exact T.1 H a
   ·rcases cj.mp b with rfl|b
    ·exact .head _
    ·exact .tail _ (.tail _ b)
   ·rcases cj.mp h with rfl|h
    ·exact .head _
    ·exact .tail _ (.tail _ h)
theorem EE:∀{t:List V},(∀g∈t,∀e∈t,eN 6 g e=X)->(hs bC t).Pairwise (λg e=>bC e g=aq)
 |[],_=>.nil
 |f::s,lk=>by
  refine C0 (EE λg a e b=>lk g (.tail _ a) e<|.tail _ b) λg a e b=>lk g ?_ e ?_
  ·rcases cj.mp a with rfl|a
   ·exact .head _
   ·exact .tail _ ((jD s).mem_iff.mp a)
  ·rcases cj.mp b with rfl|b
   ·exact .head _
   ·exact .tail _ ((jD s).mem_iff.mp b)
def Aj(o:mc J)(q:t.Perm J)(c:t.Pairwise (λg e=>bC e g=aq)):t=hs bC J:=by
 refine Jt (λg e a b f I=>?_) c (EE o.iQ) (q.trans (jD J).symm);by_cases d:g=e
 ·exact d
 ·have w:=o6 (o.iQ g (q.mem_iff.mp a) e<|(jD J).mem_iff.mp b) d;rw[f,I]at w;cases w
def hD:V->Bool
 |.tup (.int _::_)=>X
 |_=>aq
def lH:V->Bool
 |.tup (.tup _::_)=>X
 |_=>aq
section
variable{Ql:bA}{x:bc}{O:bj}{Qh:ae->ah->Prop}{h:ah}
theorem zm{e B:Bool}(r:Nat)(j:O.units+r+2<bL){C:Bool->ah->Prop}:∀{J Qe:List V}{U QS:List ae}{a:Nat},fg r J Qe=X->B=decide (J.length<Qe.length)->dv h.heap J U->dv h.heap Qe QS->(e=X->a=0->∃n s,J=.int n::s)->C (fC J Qe) h->KatLex Ql x O e B C (U.zip QS) a h
 |[],Qe,U,QS,a,_,b,l,D,_,p=>by
  rw[show U=[] from l,b];exact kat_nil (by cases Qe<;>exact p)
 |v::J,[],U,QS,a,_,b,l,D,_,p=>by
  rw[show QS=[] from D,b,D9];exact kat_nil p
 |v::J,d::Qe,U,QS,a,c,m,l,D,o,p=>by
  rw[fg,cG]at c;let⟨u,@U,rfl,f,q⟩:=l;let⟨L,@QS,rfl,dR,dc⟩:=D;rw[yi];let@⟨t,Q3,y⟩:=og c.1;refine kat_cons (ir r t Q3 ⋯ f dR Ql x _ _ ?_);rw[y];rw[fC]at p;cases k:V.beq v d with
  |true=>
   rw[k,aE rfl]at p;exact kat_yes (zm r j c.2 (m.trans<|xD.mpr xd) q dc (λ_ H=>⋯) p)
  |false=>
   rw[k,aI df]at p;refine kat_no ?_;by_cases b:(e&&a==0)=X
   ·rw[b];rw[cG]at b;let⟨n,@s,H⟩:=o b.1 ⇑(b.2);cases H;rcases qD c.1 with ⟨A,i,g,z⟩|⟨_,_,_,_,g,_⟩
    ·cases g;cases z;let⟨@w,rfl⟩:=f;let⟨@QM,rfl⟩:=dR;rw[bC]at p;exact oneLt_int p
    ·cases g
   ·rw[show (e&&a==0)=aq by simpa using b];exact kat_one _ _ (y4 r c.1 j f dR Ql x _ _ p)
def AI{e:Bool}(o:mc J)(j:dv h.heap J Qp)(ba:∀v∈J,∃s,v=.tup s)(t:e=X->∀v∈J,hD v=X)(M:O.units+9<bL):
  fs Qp.length (oZ J) (eK Ql x O (rm e)<|Qp.toArray.zip Qp.toArray) h:=by
 intro a i aM S w p;have N:=j.length;have b:=sl (J:=J) (a:=a) ⋯;have d:=sl (J:=J) (a:=i) ⋯;unfold oZ at p;rw[zh o b d]at p;let⟨@QZ,l,z⟩:=j.get (i:=a) (u:=Qp[a]) ↥0;let⟨@Q2,m,A⟩:=j.get (i:=i) (u:=Qp[i]) ↥0;rw[cx,l,cx,m]at p;rw[cx,l]at b;rw[cx,m]at d;let⟨@g,B⟩:=ba QZ b;let⟨@k,C⟩:=ba Q2 d;subst B C;have lk:fg 5 g k=X:=o.iQ _ b _ d;unfold eK;rw[tr rfl,tr rfl,cx,cx,eb S,eb w];show wpAny _ _ (keyLt' (rm e) Qp[a] Qp[i]) _ _ _;let⟨f,P,y,@Q,D,E,R,F,n⟩:=z;let⟨I,T,Qw,@U,G,QN,QW,H,q⟩:=A;rw[D,G];refine kat_lt (b:=e) E F QN H ?_;have aZ:g.length=y.size:=by rw[n.length,di]
 have bh:k.length=Qw.size:=by rw[q.length,di]
 refine zm 5 ⋯ lk (by rw[aZ,bh]) n q (λL W=>?_) (by have r:aM (bC (.tup g)<|.tup k) h:=p;rw[bC]at r;exact r);have:=t L _ b;unfold hD at this;split at this
 ·rename_i c;cases c;exact⟨_,_,rfl⟩
 ·cases this
theorem DI:∀{J:List V}{Qp:List ae},dv h.heap J Qp->(∀v∈J,hD v=X)\/(∀v∈J,lH v=X)->∃aa,KatTups h.heap Qp aa/\aa.length=Qp.length/\
  ((∀v∈J,hD v=X)->∀u∈aa,∃a w,u=ae.int a w)/\((∀v∈J,lH v=X)->∀u∈aa,∃g i,u=ae.ref g/\h.heap.get? g=Z i/\i.cls=.type "tuple")
 |[],Qp,c,_=>by
  rw[show Qp=[] from c];exact⟨[],trivial,rfl,(λ_ W c=>nomatch c),(λ_ W c=>nomatch c)⟩
 |v::J,Qp,c,j=>by
  let⟨u,@s,rfl,l,D⟩:=c;let⟨@aa,n,q,t,x⟩:=DI D (j.imp (λH f b=>H f<|.tail _ b) λH f b=>H f<|.tail _ b);have m4:∃B Q1,v=.tup (B::Q1):=by
   rcases j with H|H
   ·have:=H v (.head _);unfold hD at this;split at this
    ·exact⟨_,_,rfl⟩
    ·cases this
   ·have:=H v (.head _);unfold lH at this;split at this
    ·exact⟨_,_,rfl⟩
    ·cases this
  let⟨B,@Q1,rfl⟩:=m4;let⟨g,o,Qy,@r,rfl,y,z,A,C⟩:=l;let⟨k,@I,d,m,M⟩:=C;have E:Qy[0]?=Z k:=by
   rw[<-eu,d];rfl
  refine⟨k::aa,KatTups.cons y z A E n,by simp[q],λH L e=>?_,λH L e=>?_⟩
  ·rcases cj.mp e with rfl|e
   ·have:=H _ (.head _);unfold hD at this;split at this
    ·rename_i p;cases p;exact⟨_,m⟩
    ·cases this
   ·exact t (λf b=>H f<|.tail _ b) L e
  ·rcases cj.mp e with rfl|e
   ·have:=H _ (.head _);unfold lH at this;split at this
    ·rename_i p;cases p;let⟨F,QU,W,@W,G,QN,QW,W⟩:=m;exact⟨F,QU,G,QN,QW⟩
    ·cases this
   ·exact x (λf b=>H f<|.tail _ b) L e
end
section
variable{b:aK}
theorem bx.pick{j:aw}{Qw:List af}(c:bx j J Qw):∀{q:List Nat},(∀n∈q,n<J.length)->bx j (q.map λa=>J.getD a .aT) (q.map λa=>Qw.getD a .aT)
 |[],_=>rfl
 |n::q,b=>by
  let⟨@u,d,e⟩:=c.get (a:=n) (v:=J.getD n .aT) (by
   have:=b n (.head _);rw[cx,eb this];rfl)
  refine⟨u,_,?_,e,c.pick λi f=>b i<|.tail _ f⟩;rw[cH,cx,d];rfl
structure md(J:List V):Prop where
 ord:tK J
 fst:(∀v∈J,hD v=X)\/(∀v∈J,lH v=X)
structure pC(J:List V):Prop where
 ord:mc J
 fst:(∀v∈J,hD v=X)\/(∀v∈J,lH v=X)
def md.w{J:List V}(o:md J):pC J:=⟨o.ord.w,o.fst⟩
def pC.tup(o:pC J):∀v∈J,∃s,v=.tup s:=λv a=>by
 rcases o.fst with H|H
 ·have:=H v a;unfold hD at this;split at this
  ·exact⟨_,rfl⟩
  ·cases this
 ·have:=H v a;unfold lH at this;split at this
  ·exact⟨_,rfl⟩
  ·cases this
def dv.sN{c T:aV}(n:∀e o,c.get? e=Z o->T.get? e=Z o){J:List V}{U:List ae}(f:dv c J U):dv T J U:=f.keep λg o W W d W W=>n g o d
def zD{c:aV}{h:ah}(o:pC J)(D:2<=Qp.length)(i:dv h.heap J Qp)(O:bj)(Qh:ae->ah->Prop)(C:fZ->ah->Prop)(d:C (rm<|decide (∀v∈J,hD v=X)) h):
  wpAny (aN b.prog b.w) O (wo Qp.toArray) C Qh h:=by
 let⟨@aa,j,r,k,l⟩:=DI i o.fst;have s:=i.length;by_cases e:∀v∈J,hD v=X
 ·rw[dk e]at d;refine kat_kind (T:=ae.type "int") j ⋯ (λu f=>?_) rfl ?_
  ·let⟨a,@w,rfl⟩:=k e u f;exact Az rfl
  ·rw[show (ae.type "int" != ae.type "tuple")=X by decide];exact d
 ·rw[cW e]at d;have m:=o.fst.resolve_left e;refine kat_kind (T:=ae.type "tuple") j ⋯ (λu f=>?_) rfl ?_
  ·let⟨g,@n,rfl,p,q⟩:=l m u f;have:Looks (aN b.prog b.w) h.heap (rr<|.ref g) n.cls:=(Looks.ld p).andThen .now;rw[q]at this;exact this
  ·rw[show (ae.type "tuple" != ae.type "tuple")=aq by decide];exact d
def Fo(B:b.calm=X)(U:b.A.units+20<bL):en b (.builtin "sorted") (λy j C=>∃(g:ao) (J:List V) (Qw:List af),y=[.ref g]/\(cQ b.K j g Qw\/cb b.K j g Qw)/\bx j J Qw/\pC J/\
  ∀t Q,j t=Y->bx j (hs bC J) Q->C (.ref t) (upd j t<|.lst Q)):=by
 intro G h z j y QD C E s c;let⟨g,J,@Qw,rfl,Qj,S,o,p⟩:=c;let⟨@L,rfl,F⟩:=hX s;cases F;have H:Qw.length<=1000:=by rw[<-S.length];exact o.ord.dO
 have go:∀{Qc:String}{Qp:List ae}{r:Nat}{e:a0},(Qc = "list" \/ Qc = "tuple")->bM Qw Qp->h.heap.get? g=Z e->e.cls=.type Qc->e.data=.seq Qp.toArray r->wpAny (aN b.prog b.w) b.A (call (.builtin "sorted") [.ref g]) (d5 b G z C) b.cE h:=by
  intro Qc Qp r e I f d aB i;have l:=S.e7 E.a3 f;have M:Qp.length=J.length:=l.length.symm;refine Bk B (oZ J) (rm<|decide (∀v∈J,hD v=X)) E f I d aB i H (λD m QP n O Qh C N=>zD (c:=m) o D (l.sN n) O Qh C N) (λm QP n=>?_) (.inl (by have:=o.ord.dO;lia)) λq t k u aQ=>?_
  ·refine AI (h:={h with heap:=m,toks:=QP}) o.ord (l.sN n) o.tup (λP=>?_) (by show b.A.units+1+1+9<bL;lia);exact hS P
  ·rw[M]at k u;have R:(q.toList.map λa=>J.getD a .aT)=hs bC J:=Aj o.ord (xq k) (CI o.ord k u);refine p t _ aQ ?_;rw[<-R];exact S.pick λn T=>eX.mp (k.mem_iff.mp T)
 rcases Qj with Qj|Qj
 ·let⟨@Qp,f,q,W⟩:=E.list Qj;let⟨@e,d,aB,⟨@r,i⟩⟩:=q.isList;exact go (.inl rfl) f d aB i
 ·let⟨@Qp,f,q,W⟩:=E.tuple Qj;let⟨@e,d,aB,⟨@r,i⟩⟩:=q;exact go (.inr rfl) f d aB i
theorem Bi{j:aw}:∀{Qt:List (List V×af)}{Qe:List (List V×ao×ae)},d1 (λ(q:List V×af) (p:List V×ao×ae)=>q.1=p.1/\gY j q.1 p.2.1/\b5 q.2 p.2.2) Qt Qe->
  bx j (Qt.map λq=>.tup q.1) (Qe.map λf=>af.ref f.2.1)/\bM (Qe.map λf=>af.ref f.2.1) (Qe.map λf=>ae.ref f.2.1)
 |_,_,.nil=>⟨rfl,.nil⟩
 |_,_,.cons s w=>by
  let@⟨l,D⟩:=Bi w;exact⟨⟨_,_,rfl,s.2.1.2,l⟩,.cons rfl D⟩
def OV(bm:b.calm=X)(eq:b.A.units+20<bL):en b (.builtin "sorted") (λy j C=>∃(v:ao) (Qt:List (List V×af)),y=[.ref v]/\j v=Z (.aJ Qt)/\md (Qt.map λq=>.tup q.1)/\
  ∀t Q,j t=Y->bx j (hs bC<|Qt.map λq=>.tup q.1) Q->C (.ref t) (upd j t<|.lst Q)):=by
 intro G h z j y QD C E s c;let⟨v,@Qt,rfl,bn,g,p⟩:=c;let⟨@L,rfl,bs⟩:=hX s;cases bs;let@⟨H,R,⟨@Qe,rel,⟨o,bv,@Q0,ca,cd,ce,ch,ak⟩⟩⟩:=E.a3 v _ bn;let@⟨S,m⟩:=Bi rel;have an:ic h.heap v (Qe.map λf=>ae.ref f.2.1) Q0:=⟨o,bv,ca,cd,ce,by rw[ch,gs];rfl⟩;generalize (Qe.map λf=>ae.ref f.2.1)=Qp at m an;generalize (Qe.map λf=>af.ref f.2.1)=Qw at S m;generalize ev:(Qt.map λq=>V.tup q.1)=J at S g p;have M:=S.e7 E.a3 m;have ap:Qp.length=J.length:=M.length.symm;have dO:=g.ord.dO;have ex:Qw.length=Qp.length:=m.length;have as:Qp.length<=sizeLine:=eU ⋯ (show 1000<=sizeLine by decide);refine Cy kind_sorted Cc Ac (AX _) ?H
 case H=>
  unfold bl.«sorted»;refine av (m:=checkCount "sorted" 1 1 _) (aR<|av<|kdu_collect (A:=b.A.in1) (FL R) (E.ok.hd bm) an as λT QP N P a1=>?_);have ci:N.toList=Qp:=by
   apply Ar
   ·rw[di];exact a1.1
   ·intro a l D;have:=a1.2 a N.toList[a] (by rw[<-eu];exact eb l);have this:Qp[a]?=Z N.toList[a]:=this;rw[eb D]at this;exact (Option.some.inj this).symm
  rw[ci];refine av (vy ?_ as);have a2:(T.push<|fQ "list" Qp.toArray 0).get? T.objs.size=Z (fQ "list" Qp.toArray 0):=c9 _ rfl;have bt:∀e o,h.heap.get? e=Z o->(T.push<|fQ "list" Qp.toArray 0).get? e=Z o:=λe o d=>b3 _ (P e o d);have bd:aA b G z j {h with heap:=T,toks:=QP}:=E.kept P;have be:∀e o,h.heap.get? e=Z o->e≠T.objs.size:=λe o d=>c2 (bZ<|P e o d);refine av (e3<|iB BO ⟨_,a2,rfl⟩ E4 ?I<|Cf _)
  case I=>
   refine AO (h:={h with heap:=T.push (fQ "list" Qp.toArray 0),toks:=QP}) (oZ J) (rm<|decide (∀v∈J,hD v=X)) a2
    (λD U al C cl=>zD (b:=b) (c:=U) g.w D (M.sN λe o r=>al e o (be e o r)<|bt e o r) _ _ C cl)
    (λU al=>AI (h:={h with heap:=U,toks:=QP}) g.w.ord (M.sN λe o r=>al e o (be e o r)<|bt e o r) g.w.tup (λco=>hS co) (by show b.A.units+1+1+9<bL;lia))
    (.inl ⋯) ⋯ λq D i bi QW ⟨cr,cs⟩=>⟨_,rfl,aR ⟨_,rfl,?_⟩⟩;have db:j T.objs.size=Y:=bd.a3.fresh (bf _);have ds:∀e o,T.get? e=Z o->e≠T.objs.size:=λe o d=>c2 (bZ d);rw[ap]at i bi;refine⟨.ref T.objs.size,upd j T.objs.size<|.lst<|q.toList.map λa=>Qw.getD a .aT,?_,rfl,p _ _ db ?_⟩
   ·refine bd.laid (QM:=QP) (λe L d=>QW e L (ds e L d)<|b3 _ d) (bf _) ⟨?_,_,cr,?_,cs⟩
    ·rw[bq,di,i.size];lia
    ·refine r2 ↥0 λa u L l D=>?_;rw[eG]at l D;cases am:q.toList[a]? with
     |none=>rw[am]at l;cases l
     |some n=>
      rw[am]at l D;cases l;cases D;have B:n<Qp.length:=by rw[ap];exact eX.mp (i.mem_iff.mp<|fu am)
      let⟨@L,F,dL⟩:=m.get (a:=n) (f:=Qw[n]'⋯) (by simp[show n<Qw.length by lia]);rw[eb B]at F;have F:=Option.some.inj F;simp only[List.getD,eb B,eb (show n<Qw.length by lia),uF];rw[F];exact dL
   ·rw[<-Aj g.w.ord (xq i) (CI g.w.ord i bi)];exact S.pick λn B=>eX.mp (i.mem_iff.mp B)
def x8(J:List V):Bool:=(decide (J.length<=1000)&&J.all (λg=>J.all λe=>eN 6 g e)&&decide J.Nodup&&(J.all hD || J.all lH))
def qQ:x8 J=X↔md J:=by
 unfold x8;rw[cG,cG,cG,vl,jF,jF,iI,iI,iI];constructor
 ·rintro⟨⟨⟨l,D⟩,a⟩,b⟩;exact⟨⟨l,λg c e d=>iI.mp (D g c) e d,a⟩,b⟩
 ·rintro⟨⟨l,D,a⟩,b⟩;exact⟨⟨⟨l,λg c=>iI.mpr λe d=>D g c e d⟩,a⟩,b⟩
def hB(J:List V):Option aj:=(if x8 J=X then Z (.lst<|hs bC J) else Y)
def kc:h6:=(λJ=>match J with
 |[.lst f]=>match qe f with
  |some R=>xf [.lst f]
  |none=>hB f
 |[.im (.tup f)]=>hB f
 |[.aJ Qt]=>hB (Qt.map λq=>.tup q.1)
 |_=>Y)
def wt{v:aj}(c:hB J=Z v):md J/\v=.lst (hs bC J):=by
 unfold hB at c;split at c
 ·rename_i d;cases c;exact⟨qQ.mp d,rfl⟩
 ·cases c
theorem DR{j:aw}:∀{Qt:List (List V×V)}{i:List (List V×af)},el j Qt i->(Qt.map λq=>V.tup q.1)=i.map λq=>V.tup q.1
 |_,_,.nil=>rfl
 |_,_,.cons s w=>by rw[cH,cH,DR w,s.1]
def uy(g:b.calm=X)(k:b.A.units+20<bL):g8 b (.builtin "sorted") kc:=by
 intro G h z j y QD C E s n;let⟨J,@v,m,d,p⟩:=n;unfold kc at d;split at d
 ·rename_i f;split at d
  ·exact Gr g k G h z j y QD C E s ⟨_,v,m,d,p⟩
  ·let@⟨c,rfl⟩:=wt d;let⟨@u,rfl,⟨W,q,@Qw,rfl,l,D,W⟩⟩:=fP m;exact Fo g k G h z j _ QD C E s ⟨q,f,Qw,rfl,.inl<|cQ.of l,D,c.w,λt Q aQ e=>b4.l p aQ e⟩
 ·rename_i f;let@⟨c,rfl⟩:=wt d;let⟨@u,rfl,o⟩:=fP m;let⟨q,@Qw,rfl,l,D⟩:=o.i;exact Fo g k G h z j _ QD C E s ⟨q,f,Qw,rfl,.inr<|cb.of l,D,c.w,λt Q aQ e=>b4.l p aQ e⟩
 ·rename_i Qt;let@⟨c,rfl⟩:=wt d;let⟨@u,rfl,⟨W,q,@i,rfl,l,D,W⟩⟩:=fP m;rw[DR D]at c p;exact OV g k G h z j _ QD C E s ⟨q,i,rfl,l,c,λt Q aQ e=>b4.l p aQ e⟩
 ·cases d
end
end L2
namespace PySem
open PySem.Sem (wp)
def JX:tS (.type "list") "keys" = pure Y:=by rw[wy,vL];kernel_rfl
def Lp{Ql:bA}{x:bc}{O:bj}{Qh:ae->ah->Prop}{h:ah}{g:ao}{y:Array ae}{n:Nat}{C:Option ae->ah->Prop}(a:h.heap.get? g=Z {cls:=.type "list",data:=.seq y n})(j:O.handled=Y)(c:∀T QP,(∀e o,h.heap.get? e=Z o->T.get? e=Z o)->C Y {h with heap:=T,toks:=QP}):wpAny (aN Ql x) O (getAttr? (.ref g) "keys") C Qh h:=by
 let⟨k,M,v,QP,Q⟩:=h;have b:∀f,(⟨k,M,v,f,Q⟩:ah).TypeIs (.ref g) "list" := λ_=>⟨_,a,rfl⟩;have q:=sub_AttributeError;have r:=vT.lookup;have s:=vT.bind (.ref g);have t:=am_list_getattr_none;unfold getAttr? getAttrBy? getAttrBy;repeat (any_goals (first|assumption|exact b _|((with_reducible show wpAny _ _ (call (ae.builtin "list.__getattribute__") _ _) _ _ _);refine p4 vT (b _) am_entry_list_getattribute (F.args_list_getattribute_2 _ _) (meets_getattribute_miss_list g y n _ "keys" _ JX (by decide +kernel) ∅) ⟨a,j,λT f d i=>?_⟩)|wp_step))
 let⟨QM,@u,l⟩:=i.there;show wpAny _ _ (zQ _ _ _ _ _ _ _) _ _ _;unfold zQ;have m:∀p,(⟨T,M,v,p,Q⟩:ah).TypeIs (.ref d) "AttributeError" := λ_=>⟨_,l,rfl⟩;repeat (any_goals (first|assumption|exact m _|wp_step))
 exact c T _ i.keeps
end PySem
namespace PySem
namespace F
def zB:wk table "dict.update.loop" = Z bl.«dict.update.loop»:=entryFor_of_tree (by kernel_rfl)
def tq:plainId "dict.update.loop" = X:=by decide +kernel
end F
end PySem
namespace L2
open Spec PyProof.Rows PySem.W
variable{r:Nat}{Qe:List bo}{Qy:Array ae}{w:ao}{h:ah}{Qx:Pos}{u n:bo}
theorem wc{QG Q9:Type}{P:QG->Q9->Prop}:∀{b:List QG}{d:List Q9},d1 P b d->∀(a:Nat),a<b.length->∃g e,b[a]?=Z g/\d[a]?=Z e/\P g e
 |_,_,.nil,a,c=>by simp at c
 |_,_,.cons s w,0,c=>⟨_,_,rfl,rfl,s⟩
 |_,_,.cons s w,a+1,c=>by
  let⟨g,@e,f,I,H⟩:=wc w a ⇑c;exact⟨g,e,by simpa using f,by simpa using I,H⟩
def il:List V->Option (List<|List V×V)
 |[]=>Z []
 |.tup [.tup n,v]::s=>(il s).map λh=>(n,v)::h
 |_=>Y
def OD:∀{f:List V}{Qr:List (List V×V)},il f=Z Qr->f=Qr.map λq=>.tup [.tup q.1,q.2]:=by
 intro f;induction f with
 |nil=>intro Qr c;cases c;rfl
 |cons g f a=>
  intro Qr c;unfold il at c;split at c
  ·cases c;rename_i d;cases d
  ·rename_i n v s d;cases d;let⟨@h,b,e⟩:=cu.mp c;cases e;rw[cH,<-a b]
  ·cases c
def fw(Qr:List (List V×V)):List (List V×V):=(Qr.foldl (λg q=>fO g q.1 q.2) [])
def vu(j:aw)(u:af)(q:List V×V):Prop:=(∃w g I,u=.ref w/\j w=Z (.tup [.ref g,I])/\gY j q.1 g/\cp j q.2 I)
theorem C2{j:aw}:∀{Qr:List (List V×V)}{Qw:List af},(∀q∈Qr,V.keys 7 q.1=X)->bx j (Qr.map λq=>.tup [.tup q.1,q.2]) Qw->d1 (vu j) Qw Qr
 |[],Qw,_,c=>by rw[show Qw=[] from c];exact .nil
 |q::Qr,Qw,a,c=>by
  let⟨u,@s,rfl,⟨w,@Q,rfl,l,⟨v1,@n,rfl,D,⟨b,@d,rfl,e,f⟩⟩⟩,h⟩:=c;cases (show d=[] from f);let⟨g,@QS,rfl,i,k⟩:=D;exact .cons ⟨w,g,b,rfl,l,⟨a q<|.head _,g,QS,rfl,i,k⟩,e⟩ (C2 (λp m=>a p<|.tail _ m) h)
section
variable{b:aK}{G:List (ao×a0)}{z:L2.aU}{j:aw}{Ri:ah}
def fm.is{Qt:List (List V×af)}{y:List (List V×ao×ae)}(s:fm j Qt y):∀f∈y,gY j f.1 f.2.1:=by
 intro f b;let⟨a,S,rfl⟩:=k5.mp b;let⟨q,@p,l,D,c,d,W⟩:=wc s a (by rw[d1.length s];exact S);rw[eb S]at D;have D:=Option.some.inj D;subst D;rw[<-c];exact d
def xm(a:aA b G z j Ri){A:ao}{c T:aV}{Qt:List (List V×af)}{y:List (List V×ao×ae)}(d:c.DictOfH (d8 b.prog b.w) A y)(i:fm j Qt y)(c6:∀e o,Ri.heap.get? e=Z o->T.get? e=Z o)(g:∀o,c.get? A=Z o->T.get? A=Z o):T.DictOfH (d8 b.prog b.w) A y:=by
 let⟨o,Qe,@Q0,l,D,h,k,W,m⟩:=d;have n:aA b G z j {Ri with heap:=T}:=a.kept (QM:=Ri.toks) c6;exact⟨o,Qe,Q0,g o l,D,h,k,λf p=>l0 (c:=T) n.a3<|i.is f p,m⟩
def HA(s:aA b G z j Ri){O:bj}(bi:O.units+20<bL){A eL t:ao}{U:List ae}{Qw:List af}{Qr:List (List V×V)}{aU:Nat->aV->Prop}{Qg:n8->ah->Prop}(v:bM Qw U)(am:d1 (vu j) Qw Qr)(f4:Qr.length<=1000)(W:kR b.prog b.w O.in1 eL [eL,t] [eL] U.length (λa u=>U[a]?=Z u) aU)(bm:Ri.heap.get? A=Y)(B:Ri.heap.get? eL=Y)(C:A≠eL)(bn:A≠t)(bs:∀(h:ah) (y:List (List V×ao×ae)) (Qt:List (List V×af)),(∀e o,Ri.heap.get? e=Z o->h.heap.get? e=Z o)->h.heap.DictOfH (d8 b.prog b.w) A y->fm j Qt y->el j (fw Qr) Qt->Qt.length<=1000->
   h.gens=Ri.gens->h.drawn=Ri.drawn->h.os=Ri.os->Qg (.ok<|.ret .none) h):
  ∀(k a:Nat) (w:hq) (h:ah) (y:List (List V×ao×ae)) (Qt:List (List V×af)),U.length-a=k->a<=U.length->aU a h.heap->(∀e o,Ri.heap.get? e=Z o->h.heap.get? e=Z o)->
   h.heap.DictOfH (d8 b.prog b.w) A y->fm j Qt y->el j (fw<|Qr.take a) Qt->Qt.length<=a->h.gens=Ri.gens->h.drawn=Ri.drawn->h.os=Ri.os->
   codeAny (aN b.prog b.w) O (.builtin "dict.update.loop" ⟨[.ref A,.ref eL,.int a w,.none],[]⟩) Qg h:=by
 have f8:U.length=Qr.length:=by rw[<-v.length,d1.length am]
 intro k;induction k with
 |zero=>
  intro a w h y Qt bv S N c6 D i p ca E J M;have cd:a=U.length:=⋯
  refine i4 F.zB ?_;rw[jb F.tq _];refine av (m:=gx (.ref eL)) (W.done h _ _ (cd ▸ N) λT QP keep=>?_);refine av (m:=bl.Dict.addKeywords A []) (aR<|aR ?_);have l:∀e o,e≠eL->h.heap.get? e=Z o->T.get? e=Z o:=λe o f d=>keep e o ⇑f d;refine bs _ y Qt (λe o d=>l e o (λH=>by rw[H,B]at d;cases d)<|c6 e o d) ?_ i (by rw[rt ⋯]at p;exact p) ⋯ E J M;exact xm s D i (λe o d=>l e o (λH=>by rw[H,B]at d;cases d)<|c6 e o d) λo d=>l A o C d
 |succ k ce=>
  intro a w h y Qt bv S N c6 D i p ca E J M;have lt:a<U.length:=⋯
  refine i4 F.zB ?_;rw[jb F.tq _];refine av (m:=gx (.ref eL)) (W.item a h _ _ lt N λu T QP ch ci keep=>?_);have l:∀e o,e≠eL->h.heap.get? e=Z o->T.get? e=Z o:=λe o f d=>keep e o ⇑f d;let⟨I,@m,cl,co,⟨q,g,@an,rfl,cr,ap,cs⟩⟩:=wc am a (by rw[v.length];exact lt);let⟨@L,as,db⟩:=v.get cl;rw[ch]at as;cases as;cases db;have R:∀e o,Ri.heap.get? e=Z o->T.get? e=Z o:=λe o d=>l e o (λH=>by rw[H,B]at d;cases d) (c6 e o d);have a1:aA b G z j {Ri with heap:=T}:=s.kept (QM:=Ri.toks) R;have ds:=xm s D i R λo d=>l A o C d;let@⟨_,⟨@Qp,dL,⟨@o,a2,eq,⟨@r,ev⟩⟩⟩⟩:=a1.a3 _ _ cr;let⟨ga,@al,rfl,ex,fd⟩:=q0 dL;cases ex;show wpAny (aN b.prog b.w) O.in1 (holding [.ref q] _ >>= λ_=>again _) _ _ _;refine av (e3<|av<|pe ?_);unfold bl.Dict.pairItems;refine av (wpAny_typeOf (s:={h with heap:=T,toks:=QP}) (⟨o,a2,(Prod.mk.inj eq).1⟩:ah.TypeIs {h with heap:=T,toks:=QP} (.ref q) "tuple") ?_);rw[aE ∅];refine av (ha (s:={h with heap:=T,toks:=QP}) a2 ev<|aR ?_);show wpAny (aN b.prog b.w) O.in1 (holding [.ref g,al]<|dictSet A (.ref g) al) _ _ _;refine e3 (Co (s:={h with heap:=T,toks:=QP}) (k:=m.1) (knd:=d8 b.prog b.w) (pj bi) (l0 (c:=T) a1.a3 ap) ds (λfn fr cn=>?_) (by
   have:=d1.length i;exact eU (show y.length<=1000 by lia) ∅))
  have bd:∀e o,e≠A->T.get? e=Z o->fn.get? e=Z o:=λe o f d=>(cn.2 e f).trans d;have f0:=i.put m.1 (e:=g) (I:=an) (L:=al) ap fd;have f1:Qr.take (a+1)=Qr.take a++[m]:=by
   have be:=(e9.mp co);rw[yK be.1,be.2]
  have f2:el j (fw<|Qr.take<|a+1) (gQ Qt m.1 an):=by
   rw[f1];unfold fw;rw[wd];exact el.put cs p
  refine aR ⟨jq F.tq _,ce (a+1) 0 _ _ _ ⋯ lt (W.frame _ _ _ ci λe f o d=>bd e o (λH=>by
    subst H;rcases cj.mp f with H|f
    ·exact C H
    ·exact bn (cV.mp f)) d) (λe o d=>bd e o (λH=>by rw[H,bm]at d;cases d)<|R e o d) fr f0 f2 ?_ E J M⟩
  unfold gQ;split
  ·rw[bq];lia
  ·simp;lia
def Iv(B:b.calm=X)(co:b.A.units+30<bL):en b (.type "dict") (λy j C=>∃(t:ao) (Qw:List af) (Qr:List (List V×V)),y=[.ref t]/\j t=Z (.lst Qw)/\d1 (vu j) Qw Qr/\Qr.length<=1000/\
  ∀(v:ao) (Qt:List (List V×af)),j v=Y->el j (fw Qr) Qt->C (.ref v) (upd j v<|.aJ Qt)):=by
 intro G h z j y QD C E s c;let⟨t,Qw,@Qr,rfl,S,U,al,p⟩:=c;let⟨@L,rfl,am⟩:=hX s;cases am;let@⟨H,⟨Qp,@r,an,d⟩⟩:=E.a3 t _ S;have D:t<h.heap.objs.size:=bZ d;refine Cg (Q₁:=λI J=>I=.ref h.heap.objs.size/\J={h with heap:=h.heap.push {cls:=.type "dict",data:=.dict #[]} }) PySem.F.kt_called_dict (PySem.F.kt_typeCall_dict_1 _) PySem.F.entry_dict_init (kt_code_dict_new _ ⟨rfl,rfl⟩) ?_;rintro I J ⟨rfl,rfl⟩;have ap:(h.heap.push {cls:=.type "dict",data:=.dict #[]}).DictOfH (d8 b.prog b.w) h.heap.objs.size []:=aV.DictOfH.new h.heap;have M:ah.TypeIs {h with heap:=h.heap.push {cls:=.type "dict",data:=.dict #[]} } (.ref h.heap.objs.size) "dict" := ⟨_,c9 _ rfl,rfl⟩;have f:(h.heap.push {cls:=.type "dict",data:=.dict #[]}).get? t=Z {cls:=.type "list",data:=.seq Qp.toArray r}:=b3 _ d;refine⟨M,PySem.F.args_dict_init_2 _ _,?_⟩;unfold bl.«dict.__init__»;refine av ?_;unfold bl.Dict.selfAndRest;refine av (AN M ?_);show wpAny _ _ (pure (h.heap.objs.size,[ae.ref t])) _ _ _;refine aR ?_;show wpAny _ _ (bl.Dict.updateFrom "dict.__init__" h.heap.objs.size (.ref t) [] .none) _ _ _;unfold bl.Dict.updateFrom;refine av (wpAny_typeOf (⟨_,f,rfl⟩:ah.TypeIs {h with heap:=h.heap.push {cls:=.type "dict",data:=.dict #[]} } (.ref t) "list") ?_);rw[aE ∅];refine av (Lp (h:={h with heap:=h.heap.push {cls:=.type "dict",data:=.dict #[]} }) f (E.ok.hd B) λl QP QN=>?_);rw[aE (show (Y:Option ae).isNone=X from rfl)];refine av (m:=rule _) (i5 ?_);have N:l.IsList t Qp.toArray:=⟨_,QN _ _ f,rfl,r,rfl⟩;refine av (qm (s:={h with heap:=l,toks:=QP}) N ?_);have g:h.heap.objs.size<l.objs.size:=bZ (QN _ _<|c9 _ rfl);have c6:∀e o,h.heap.get? e=Z o->(l.push {cls:=.type "list_iterator",data:=.fields #[.ref t,.int 0 0]}).get? e=Z o:=λe o i=>b3 _ (QN e o<|b3 _ i);refine aR ⟨jq PySem.F.tq _,?_⟩;have as:(l.push {cls:=.type "list_iterator",data:=.fields #[.ref t,.int 0 0]}).DictOfH (d8 b.prog b.w) h.heap.objs.size []:=xm E (Qt:=[]) ap .nil c6 λo a1=>b3 _ (QN _ _ a1);have a2:t≠l.objs.size:=c2 (nA D g);refine HA E (O:=b.A.in1) (by show b.A.units+1+20<bL;lia) (A:=h.heap.objs.size) (eL:=l.objs.size) (t:=t) (aU:=λa c=>c.IsListIter l.objs.size t a/\c.IsList t Qp.toArray) an U al ?_ (xw<|bf _) (xw<|my g) (c2 g) (mM D)
  (λQd y Qt bd be bi bm cs m n q=>?_) Qp.length 0 0 _ [] [] rfl (fv _) ?_ c6 as .nil .nil (bf _) rfl rfl rfl
 ·have W:=kR.list (prog:=b.prog) (w:=b.w) (A:=b.A.in1.in1) (E.ok.hd B) l.objs.size t a2 Qp.toArray;have bn:(λ(a:Nat) (u:ae)=>Qp.toArray[a]?=Z u)=λa u=>Qp[a]?=Z u:=by
   funext a u;rw[w_]
  rw[bn,cB]at W;exact W
 ·let⟨T,bs,bv,QM,ca⟩:=Qd;have m:bs=h.gens:=m;have n:bv=h.drawn:=n;have q:ca=h.os:=q;subst m n q;have R:j h.heap.objs.size=Y:=E.a3.fresh (bf _);let⟨o,Qe,@Q0,cd,ce,ch,ci,Q,cl⟩:=be;refine⟨rfl,.ref h.heap.objs.size,_,E.laid (o:=.aJ Qt) (T:=T) (QM:=QM) bd (bf _) ⟨eU (show Qt.length<=1000 by lia) ∅,uL.mpr<|fz<|c2 E.big,y,bi.keeps λe Qw i=>Du i R,o,Qe,Q0,cd,ce,ch,ci,cl⟩,rfl,p _ Qt R bm⟩
 ·exact⟨⟨_,c9 _ rfl,rfl,rfl⟩,N.push _⟩
@[simp] def jv:h6:=λJ=>match J with
 |[.lst f]=>(il f).bind λQr=>if (Qr.all λq=>V.keys 7 q.1)=X/\Qr.length<=1000 then Z (.aJ<|fw Qr) else Y
 |_=>Y
def rL(i:b.calm=X)(k:b.A.units+30<bL):g8 b (.type "dict") jv:=by
 refine (Iv i k).imp λy j C m=>?_;let⟨J,@v,n,d,p⟩:=m;unfold jv at d;split at d
 ·rename_i f;let⟨@Qr,o,a⟩:=bD.mp d;split at a
  ·rename_i c;cases a;let⟨@u,rfl,⟨W,q,@Qw,rfl,l,D,W⟩⟩:=fP n;rw[OD o]at D;refine⟨q,Qw,Qr,rfl,l,C2 (λp r=>iI.mp c.1 p r) D,c.2,λv Qt e s=>?_⟩;have h:cP j (upd j v<|.aJ Qt):=(cP.refl j).upd e;exact p _ _ [v] h ⟨v,Qt,rfl,fb,s.mono h.tupS.tup,rfl⟩ (fi _ _) λg t=>by rw[cV.mp t];exact e
  ·cases a
 ·cases d
end
section
variable{b:aK}
def HF(QP l:bX):bX:=(λz j C=>∀q,j q=Y->QP z (upd j q<|.aJ []) λf Qm=>l z Qm λI Qz=>∃e n,f=.ref e/\gY Qz n e/\Qz q=Z (.aJ [])/\C (.ref q) (upd Qz q<|.aJ [(n,I)]))
def FG{QP l:bX}(as:b.A.units+20<bL)(s:bN b n QP)(t:bN b u l):bN b (.Dict [Z n] [u] Qx) (HF QP l):=by
 intro G h z j C E p;have v:=E.a3.fresh (bf h.heap.objs.size);have B:=E.laid (g:=h.heap.objs.size) (o:=.aJ []) (T:=h.heap.push {cls:=.type "dict",data:=.dict #[]}) (QM:=h.toks) (λ_ W p=>b3 _ p) (bf _) (JK h.heap E.big);refine wpAny_Dict_any rfl rfl ↥0 ↥0 ?_;refine pairTrees_cons_walk (bS (s G _ z _ _ B<|p _ v) λL F ⟨f,Qm,J,M,N⟩=>bS (t G F z Qm _ J N) λa1 P ⟨I,Qz,a,Q,e,m,Q6,d,c,R⟩=>pairTrees_nil_walk ?_);subst Q6;cases M;let@⟨H,S,⟨@y,i,U⟩⟩:=Bj a.a3 c;cases i;unfold storeAll;rw[sP];refine av (av (Co (k:=m) (knd:=d8 b.prog b.w) (show b.A.units+10<bL by lia) (l0 a.a3 d) U (λT al cn=>aR ?_)<|fv _));refine aR ⟨.ref h.heap.objs.size,_,?_,rfl,R⟩;let⟨k,Qe,@Q0,q,D,am,an,W,ap⟩:=al;refine w9 (h:=P) a (by rw[c];exact True.intro) cn ⟨k,q⟩ ⟨(show 1<=sizeLine by decide),S,_,fm.keeps (fm.put (Qt:=[]) (y:=[]) .nil m (e:=e) d Q) λbd Qw r=>?_,k,Qe,Q0,q,D,am,an,ap⟩;rw[cS (BN r c<|λH=>nomatch H)];exact r
@[simp] def wU(a b:ay aj):ay aj:=λA=>(a A).bind λq=>(b q.2).bind λp=>match q.1,p.1 with
 |.im (.tup n),.im v=>if V.keys 7 n=X then Z (.aJ [(n,v)],p.2) else Y
 |_,_=>Y
def AR{x B:ay aj}(M:b.A.units+20<bL)(Q:ck b n x)(R:ck b u B):ck b (.Dict [Z n] [u] Qx) (wU x B):=by
 refine ej (FG M Q R) λz j C ⟨A,P,s,QE,N,ak,S,p⟩ q m=>?_;let⟨@⟨QZ,Qn⟩,l,D⟩:=bD.mp S;let⟨@⟨Q2,QR⟩,U,i⟩:=bD.mp D;have h:cP j (L2.upd j q<|.aJ []):=(cP.refl j).upd m;have E:q∉P:=λH=>by let⟨@o,d,W⟩:=N.chg q H;rw[m]at d;cases d
 refine⟨A,P,QZ,Qn,N.mono h.tupS λg W o d=>h g o d,ak,l,λf Qm QB be al QT r=>?_⟩;have am:=dp.mp r.ak;refine⟨Qn,QB,Q2,QR,al,am.1,U,λI Qz QI bQ an Q4 k=>?_⟩;dsimp only at i;split at i
 ·rename_i t bi;split at i
  ·rename_i ap;cases i;let@⟨as,rfl⟩:=QT;let@⟨a1,rfl⟩:=Q4;rw[cD]at r k;have v:=r.seq k;have F:Qm q=Z (.aJ []):=r.keep q _ fb E;have G:q∉QB:=λH=>by
    rcases r.sub q H with c|c
    ·exact E c
    ·rw[fb]at c;cases c
   have w:Qz q=Z (.aJ []):=k.keep q _ F G;have J:q∉QI:=λH=>by
    rcases k.sub q H with c|c
    ·exact G c
    ·rw[F]at c;cases c
   let⟨e,@y,rfl,QN,QW⟩:=(show cp Qz (.tup t) f from as.mono k.tup.tup);refine⟨e,t,rfl,⟨ap,e,y,rfl,QN,QW⟩,w,?_⟩;have iL:fy Qz (L2.upd Qz q<|.aJ [(t,I)]):=fy.of (λg y d=>by
    have:g≠q:=λH=>by subst H;rw[w]at d;cases d
    rw[cS this];exact d) λg o L d=>by
    have:g≠q:=λH=>by subst H;rw[w]at d;cases d
    rw[cS this];exact d
   refine p _ _ QI [q] (an.mono iL λg a o d=>by
    have ne:g≠q:=λH=>by subst H;exact J a
    rw[cS ne];exact d) ⟨q,[(t,I)],rfl,fb,.cons ⟨rfl,a1.mono iL.tup⟩ .nil,rfl⟩ ?_
   refine⟨λg o d a=>?_,λg a=>?_,?_,?_,λg o d=>?_⟩
   ·have:g≠q:=λH=>by subst H;rw[m]at d;cases d
    rw[cS this];exact v.keep g o (by rw[cS this];exact d) a
   ·rcases dK.mp a with c|c
    ·rcases v.sub g c with T|T
     ·exact .inl T
     ·by_cases d:g=q
      ·exact .inr (d ▸ m)
      ·rw[cS d]at T;exact .inr T
    ·exact .inr (by rw[cV.mp c];exact m)
   ·exact dp.mpr ⟨k.ak,fi _ _,λg a e a2 d=>J (by rw[cV.mp a2]at d;rw[<-d];exact a)⟩
   ·exact (h.tupS.trans v.tup).trans iL
   ·by_cases H:g=q
    ·exact⟨_,by rw[H];exact fb⟩
    ·let⟨@QU,bd⟩:=v.grow g o (by rw[cS H];exact d);exact⟨QU,by rw[cS H];exact bd⟩
  ·cases i
 ·cases i
end
def F6:String->bl:=((⟨_,rfl⟩:{B:String->bl // B "max" = bl.«max» }).1)
def N9:String->jV->bl:=((⟨_,rfl⟩:{B:String->jV->bl // B "max" .Gt=bl.«max.loop» }).1)
section
variable{Ql:bA}{x:bc}{O:bj}{Qh:ae->ah->Prop}{h:ah}
def Ai{t j:String}{QV:jV}(k:(toString t++toString ".loop" : String)=j)(al:builtinKind t=Y)(am:plainId t=X)(an:wk table t=Z (F6 t))(ap:∀g e:ae,argsOk t ⟨[g,e],[]⟩)(a:plainId j=X)(q:wk table j=Z (N9 t QV)){g e:ae}{n:Bool}{C:ae->ah->Prop}(as:O.handled=Y)(a1:∀Qd:ah,(∀m o,h.heap.get? m=Z o->Qd.heap.get? m=Z o)->∀(C:ae->ah->Prop) (Qh:ae->ah->Prop),C (.bool n) Qd->wpAny (aN Ql x) O.in1 (mH QV e g) C Qh Qd)(c:∀T QP,(∀m o,h.heap.get? m=Z o->T.get? m=Z o)->C (if n=X then e else g) {h with heap:=T,toks:=QP}):wpAny (aN Ql x) O (call (.builtin t) [g,e]) C Qh h:=by
 refine call_function_tree al am an (ap _ _) ?_;show wpAny _ O.in1 (bl.Builtins.bindParams t ["key","default"] 0 ⟨[],[]⟩ >>= _) _ _ h;refine av (qV (show bl.Builtins.bindParams t ["key","default"] 0 ⟨[],[]⟩=pure [Y,Y] from rfl) ?_);show wpAny _ O.in1 (x5 [g,e] >>= _) _ _ h;refine av (hM ?_);have A:(h.heap.push {cls:=.type "tuple",data:=.seq #[g,e]}).IsTuple h.heap.objs.size #[g,e]:=⟨_,c9 _ rfl,rfl,0,rfl⟩;refine av (wpAny_pyIter_tuple A<|av<|hM ?_);have p:(h.heap.push {cls:=.type "tuple",data:=.seq #[g,e]}).objs.size=h.heap.objs.size+1:=mG ..;have W:=kR.tuple (prog:=Ql) (w:=x) (A:=O.in1) as (h.heap.push {cls:=.type "tuple",data:=.seq #[g,e]}).objs.size h.heap.objs.size (by rw[p];exact c2 (oD _)) #[g,e];rw[k];refine aR ⟨jq a _,?_⟩;have r:((h.heap.push {cls:=.type "tuple",data:=.seq #[g,e]}).push {cls:=.type "tuple_iterator",data:=.fields #[.ref h.heap.objs.size,.int 0 0]}).IsTupleIter (h.heap.push {cls:=.type "tuple",data:=.seq #[g,e]}).objs.size h.heap.objs.size 0:=⟨_,c9 _ rfl,rfl,rfl⟩;have B:=A.push {cls:=.type "tuple_iterator",data:=.fields #[.ref h.heap.objs.size,.int 0 0]};have s:((h.heap.push {cls:=.type "tuple",data:=.seq #[g,e]}).push {cls:=.type "tuple_iterator",data:=.fields #[.ref h.heap.objs.size,.int 0 0]}).objs.size=h.heap.objs.size+2:=by rw[mG,p]
 have c6:∀m o,h.heap.get? m=Z o->((h.heap.push {cls:=.type "tuple",data:=.seq #[g,e]}).push {cls:=.type "tuple_iterator",data:=.fields #[.ref h.heap.objs.size,.int 0 0]}).get? m=Z o:=λm o d=>b3 _ (b3 _ d);rw[p]at W r;rw[p,s];generalize ce:((h.heap.push {cls:=.type "tuple",data:=.seq #[g,e]}).push {cls:=.type "tuple_iterator",data:=.fields #[.ref h.heap.objs.size,.int 0 0]})=g2 at r B s c6 ⊢;have E:(g2.push {cls:=.type "list",data:=.seq ([]:List ae).toArray}).get? (h.heap.objs.size+2)=Z {cls:=.type "list",data:=.seq ([]:List ae).toArray}:=by rw[<-s];exact c9 _ rfl
 have v:h.heap.objs.size+2∉[h.heap.objs.size+1]:=by simp
 have F:∀m∈[h.heap.objs.size+1,h.heap.objs.size],h.heap.objs.size+2≠m:=λm b H=>by
  simp only[cj,m_,jl]at b;rcases b with d|d
  ·rw[d]at H;exact absurd H (mM<|oD _)
  ·rw[d]at H;exact absurd H (mM (C5 ∅))
 have f:∀m o,h.heap.get? m=Z o->m∉[h.heap.objs.size+1]/\m≠h.heap.objs.size+2:=λm o d=>by
  have lt:=bZ d;refine⟨λH=>?_,c2<|eZ lt<|lR _ _⟩;rw[cV.mp H]at lt;exact kh _ (Nat.lt_of_succ_lt lt)
 have G:∀(T:aV) (QP:Nat) (i:ae) (I:Nat),(∀m o,h.heap.get? m=Z o->T.get? m=Z o)->T.get? (h.heap.objs.size+2)=Z {cls:=.type "list",dict:=Y,data:=.seq #[i,i] I,slots:=#[]}->
   T.IsTupleIter (h.heap.objs.size+1) h.heap.objs.size 2/\T.IsTuple h.heap.objs.size #[g,e]->i=(if n=X then e else g)->
   codeAny (aN Ql x) O (.builtin j ⟨[.ref (h.heap.objs.size+1),.none,.ref<|h.heap.objs.size+2],[]⟩) (wants C Qh) {h with heap:=T,toks:=QP}:=by
  intro T QP i I QN J N a2;refine i4 q ?_;rw[jb a _];show wpAny _ O.in1 (oY (.ref<|h.heap.objs.size+2) >>= _) _ _ _;refine av (ha (s:={h with heap:=T,toks:=QP}) J rfl ?_);show wpAny _ O.in1 (tryCatch (gx<|.ref<|h.heap.objs.size+1) _ >>= _) _ _ _;refine av (pe<|W.done {h with heap:=T,toks:=QP} _ _ N λD bd L=>?_);have be:=L _ _ v J;show wpAny _ O.in1 (updateSeq (h.heap.objs.size+2) (λ_=>#[]) >>= _) _ _ _;refine av (vA be rfl<|av<|mE<|aR ?_);show C i _;rw[a2];exact c _ bd λm o d=>(jQ _ _<|fz (f m o d).2).trans (L m o (f m o d).1 (QN m o d))
 refine i4 q ?_;rw[jb a _];show wpAny _ O.in1 (oY (.ref<|h.heap.objs.size+2) >>= _) _ _ _;refine av (ha (s:={h with heap:=g2.push {cls:=.type "list",data:=.seq ([]:List ae).toArray} }) E rfl ?_);show wpAny _ O.in1 (tryCatch (gx<|.ref<|h.heap.objs.size+1) _ >>= _) _ _ _;refine av (pe (W.item 0 {h with heap:=g2.push {cls:=.type "list",data:=.seq ([]:List ae).toArray} } _ _ ↥0 ⟨let ⟨o,bi,bm⟩:=r;⟨o,b3 _ bi,bm⟩,B.push _⟩ λu l ch w bn QN=>?_));cases w;have M:=QN _ _ v E;show wpAny _ O.in1 (updateSeq (h.heap.objs.size+2) (λ_=>#[g,g]) >>= _) _ _ _;refine av (vA M rfl ?_);rw[k];refine aR ⟨jq a _,i4 q ?_⟩;have P:=n3 (a0.mapSeq<|λ_=>(#[g,g]:Array ae)) M rfl;have bs:=W.frame _ _ (l.update (h.heap.objs.size+2)<|a0.mapSeq<|λ_=>(#[g,g]:Array ae)) bn λm b o d=>(jQ _ _<|F m b).trans d;have bv:∀m o,h.heap.get? m=Z o->(l.update (h.heap.objs.size+2)<|a0.mapSeq<|λ_=>(#[g,g]:Array ae)).get? m=Z o:=λm o d=>(jQ _ _<|fz (f m o d).2).trans (QN m o (f m o d).1 (b3 _<|c6 m o d));rw[jb a _];show wpAny _ O.in1 (oY (.ref<|h.heap.objs.size+2) >>= _) _ _ _;refine av (ha P rfl ?_);show wpAny _ O.in1 (tryCatch (gx<|.ref<|h.heap.objs.size+1) _ >>= _) _ _ _;refine av (pe (W.item 1 _ _ _ ↥0 bs λu ca Q w R S=>?_));cases w;have y:=S _ _ v P;have z:∀m o,h.heap.get? m=Z o->ca.get? m=Z o:=λm o d=>S m o (f m o d).1 (bv m o d);show wpAny _ O.in1 (tryCatch (holding [e,e]<|mH QV e g >>= _) _ >>= _) _ _ _;refine av (pe<|e3<|av<|a1 _ z _ _ ?_);refine av (e3<|ly ?_);refine av (mE<|aR ?_);cases U:n with
 |true=>
  simp only[gR];refine av (vA y rfl<|av<|mE ?_);rw[k];have cd:=n3 (a0.mapSeq<|λ_=>(#[e,e]:Array ae)) y rfl;refine aR ⟨jq a _,G _ Q e _ (λm o d=>(jQ _ _<|fz (f m o d).2).trans<|z m o d) cd (W.frame _ _ _ R λm b o d=>(jQ _ _<|F m b).trans d) (by rw[U];rfl)⟩
 |false=>
  simp only[gp,e2];refine av (mE ?_);rw[k];exact aR ⟨jq a _,G _ Q g _ z y R (by rw[U];rfl)⟩
end
section
variable{Ql:bA}{x:bc}{O:bj}{Qh:ae->ah->Prop}{h:ah}{g e:ae}{n:Bool}{C:ae->ah->Prop}
def M3(a:O.handled=Y)(b:∀Qd:ah,(∀m o,h.heap.get? m=Z o->Qd.heap.get? m=Z o)->∀(C:ae->ah->Prop) (Qh:ae->ah->Prop),C (.bool n) Qd->wpAny (aN Ql x) O.in1 (mH .Gt e g) C Qh Qd)(c:∀T QP,(∀m o,h.heap.get? m=Z o->T.get? m=Z o)->C (if n=X then e else g) {h with heap:=T,toks:=QP}):wpAny (aN Ql x) O (call (.builtin "max") [g,e]) C Qh h:=
 Ai ∅ F.kind_max F.plain_max F.entry_max F.args_max2 F.plain_max_loop F.entry_max_loop a b c
def Ia(a:O.handled=Y)(b:∀Qd:ah,(∀m o,h.heap.get? m=Z o->Qd.heap.get? m=Z o)->∀(C:ae->ah->Prop) (Qh:ae->ah->Prop),C (.bool n) Qd->wpAny (aN Ql x) O.in1 (mH .Lt e g) C Qh Qd)(c:∀T QP,(∀m o,h.heap.get? m=Z o->T.get? m=Z o)->C (if n=X then e else g) {h with heap:=T,toks:=QP}):wpAny (aN Ql x) O (call (.builtin "min") [g,e]) C Qh h:=
 Ai ∅ F.kind_min F.plain_min F.entry_min F.args_min2 F.plain_min_loop F.entry_min_loop a b c
end
def x2(O:bj)(h:ah)(I f:ae)(n:Bool):Prop:=(∀(Ql:bA) (x:bc) (Qh:ae->ah->Prop) (C:ae->ah->Prop),C (.bool n) h->wpAny (aN Ql x) O (mH .Gt I f) C Qh h)
section
open PySem.SeqAt
open PySem.AutoSeq1 (wpAny_loadPart')
open PySem.MeetsSeq PySem.MeetsSeq2 PySem.MeetsSeq3
def LN(t e:ao)(Qy b:Array ae)(r z:Nat)(A B:Option ao)(aS C:Array (Option ae))(Qr:List (Bool×Bool))(R:Qr.length=min Qy.size b.size):
  Meets (bl.«tuple.__gt__» ⟨[.ref t,.ref e],[]⟩)
   (λO Qg h=>h.heap.get? t=Z {cls:=.type "tuple",dict:=A,data:=.seq Qy r,slots:=aS}/\h.heap.get? e=Z {cls:=.type "tuple",dict:=B,data:=.seq b z,slots:=C}/\
    (∀i (l:i<Qy.size) (D:i<b.size) (o:i<Qr.length),EqAt O.in1 h Qy[i] b[i] (Qr[i]).1/\((Qr[i]).1=aq->x2 O.in1 h Qy[i] b[i] (Qr[i]).2))/\
    Qg (.ok<|.ret<|.bool<|g0 (decide (b.size<Qy.size)) Qr) h):=
 .of_wp λQl x O Qg h c=>by
  let⟨k,M,v,QP,Q⟩:=h;let@⟨E,F,G,c⟩:=c;have S:=Bh;have q:(Qy.toList.zip b.toList).length=min Qy.size b.size:=by simp
  wp_walk using wpAny_loadPart' E,wpAny_loadPart' F,mA _ (λcL e Qd=>e.1=Y/\Qd=⟨k,M,v,QP,Q⟩/\∃a,cL=(Qy.toList.zip b.toList).drop a/\
   Qg (.ok<|.ret<|.bool<|g0 (decide (b.size<Qy.size))<|Qr.drop a) ⟨k,M,v,QP,Q⟩) _
  case turn=>
   rintro⟨I,f⟩ cL e Qd ⟨p,rfl,a,g,j⟩;have s:a<(Qy.toList.zip b.toList).length:=by
    rcases e5 a (Qy.toList.zip b.toList).length with T|T
    ·exact T
    ·rw[mS T]at g;cases g
   have U:a<min Qy.size b.size:=q ▸ s;have l:a<Qy.size:=⋯
   have D:a<b.size:=⋯
   have o:a<Qr.length:=⋯
   rw[i2 s]at g;injection g with u H;have J:I=Qy[a]:=by have:=congrArg Prod.fst u;simpa using this
   have L:f=b[a]:=by have:=congrArg Prod.snd u;simpa using this
   subst J L;rw[i2 o]at j;let@⟨w,y⟩:=G a l D o;generalize Qr[a]=N at j w y;let⟨d,n⟩:=N;refine av (w Ql x _ _ ?_);cases d with
   |true=>
    have m:Qg (.ok<|.ret<|.bool<|g0 (decide (b.size<Qy.size))<|Qr.drop<|a+1) ⟨k,M,v,QP,Q⟩:=j
    wp_walk
    exact⟨rfl,rfl,a+1,H,m⟩
   |false=>
    have m:Qg (.ok<|.ret<|.bool n) ⟨k,M,v,QP,Q⟩:=j;have P:=y rfl Ql x
    wp_walk using P
    exact⟨_,rfl,by simpa using m⟩
  case fin=>
   rintro⟨dR,dc⟩ Qd ⟨p,rfl,a,g,j⟩;simp only at p;subst p;have al:min Qy.size b.size<=a:=by
    rcases e5 a (Qy.toList.zip b.toList).length with T|T
    ·rw[i2 T]at g;cases g
    ·exact q ▸ T
   rw[mS ⋯]at j;have m:Qg (.ok<|.ret<|.bool<|decide (b.size<Qy.size)) ⟨k,M,v,QP,Q⟩:=j
   wp_walk
   exact⟨_,rfl,by simpa [bl.Tuple.tupleCompareSizes] using m⟩
  case h=>
   exact⟨rfl,rfl,0,rfl,by simpa using c⟩
end
def jR(J Qe:List V):List (Bool×Bool):=((J.zip Qe).map λq=>(cf q.1 q.2,bC q.2 q.1))
def FI(g e:V):V.beq g e=V.beq e g:=by
 rw[qK,V.beq_iff,V.beq_iff];exact⟨λc=>c.symm,λc=>c.symm⟩
theorem D4:∀{r:Nat}{J Qe:List V},fg r J Qe=X->g0 (decide (Qe.length<J.length)) (jR J Qe)=fC Qe J
 |_,[],[],_=>rfl
 |r,g::s,e::w,c=>by
  rw[fg,cG]at c;show (if cf g e=X then g0 (decide (w.length+1<s.length+1)) (jR s w) else bC e g)=fC (e::w) (g::s);rw[fC,(og c.1).2.2,<-D4 c.2,FI,xD.mpr xd]
 |_,[],_::_,_=>rfl
 |_,_::_,[],_=>rfl
def Bf{O:bj}{a i:Int}{L u:ae}(b:dq h.heap (.int a) L)(c:dq h.heap (.int i) u):x2 O h L u (bC (.int i)<|.int a):=by
 let⟨@w,rfl⟩:=b;let⟨@QM,rfl⟩:=c;intro Ql x Qh C p;rw[bC]at p;exact (JI p:wpAny (aN Ql x) O (d4 .Gt (.int a w)<|.int i QM) C Qh h)
def Lb(r:Nat):∀{O:bj}{f I:V}{L u:ae},eN r f I=X->O.units+r+2<bL->dq h.heap f L->dq h.heap I u->x2 O h L u (bC I f):=by
 induction r with
 |zero=>
  intro O f I L u c G b j;rcases qD c with ⟨a,i,rfl,rfl⟩|⟨k,_,_,d,_⟩
  ·exact Bf b j
  ·cases d
 |succ r M=>
  intro O f I L u c G b j;rcases qD c with ⟨a,i,rfl,rfl⟩|⟨k,J,Qe,d,rfl,rfl,c⟩
  ·exact Bf b j
  cases d;let⟨g,o,Qp,@k,rfl,l,D,m,n⟩:=b;let⟨e,QU,A,@N,rfl,q,s,t,v⟩:=j;let⟨cls,Q,data,aS⟩:=o;let⟨ap,R,as,S⟩:=QU;simp only at D m s t;subst D m s t;have aZ:J.length=Qp.size:=by rw[n.length,di]
  have bh:Qe.length=A.size:=by rw[v.length,di]
  intro Ql x Qh C p;rw[bC,<-D4 c,aZ,bh]at p;have T:(jR J Qe).length=min Qp.size A.size:=by rw[jR,bq,wF,aZ,bh]
  refine Eu (op:=.Gt) ⟨_,l,rfl⟩ ⟨_,q,rfl⟩ PySem.F.slot_tuple_gt PySem.F.entry_tuple_gt (PySem.F.args_tuple_gt_2 _ _) (LN g e Qp A k N Q R aS S (jR J Qe) T)
   ⟨l,q,λi U al am=>?_,show ae.bool (g0 (decide (A.size<Qp.size))<|jR J Qe)≠ae.notImplemented/\C (.bool<|g0 (decide (A.size<Qp.size))<|jR J Qe) h from ⟨(λf=>nomatch f),p⟩⟩ ⋯;let⟨@QZ,w,y⟩:=n.get (i:=i) (u:=Qp[i]) (by rw[eu];simp[U]);let⟨@Q2,z,B⟩:=v.get (i:=i) (u:=A[i]) (by rw[eu];simp[al]);have lk:=xU c w z;have E:=og lk;have an:(jR J Qe)[i]=(cf QZ Q2,bC Q2 QZ):=by
   have:(jR J Qe)[i]?=Z (cf QZ Q2,bC Q2 QZ):=by
    rw[jR,eG,(uq (z:=(QZ,Q2))).mpr ⟨w,z⟩];rfl
   rw[eb am]at this;exact Option.some.inj this
  rw[an];exact⟨ir r E.1 E.2.1 (by show O.units+1+r+1<bL;lia) y B,λ_=>M lk (by show O.units+1+r+2<bL;lia) y B⟩
section
variable{b:aK}
def HO(f:b.calm=X)(k:b.A.units+20<bL):en b (.builtin "max") (λy j C=>∃(v d:V) (u L:af),y=[u,L]/\eN 6 d v=X/\cp j v u/\cp j d L/\C (if bC v d=X then L else u) j):=by
 intro G h z j y QD C E s c;let⟨v,d,u,@L,rfl,lk,l,D,p⟩:=c;let⟨m,@q,rfl,a,e⟩:=q0 s;refine M3 (n:=bC v d) (E.ok.hd f) (λQd n C Qh i=>?_) λT QP n=>⟨if bC v d=X then L else u,j,E.kept n,?_,p⟩
 ·exact Lb 6 lk (by show b.A.units+1+6+2<bL;lia) ((D.e7 E.a3 e).keep λg o W W d W W=>n g o d) ((l.e7 E.a3 a).keep λg o W W d W W=>n g o d) b.prog b.w Qh C i
 ·split
  ·exact e
  ·exact a
def Hg(f:b.calm=X)(k:b.A.units+20<bL):en b (.builtin "min") (λy j C=>∃(v d:V) (u L:af),y=[u,L]/\eN 6 d v=X/\cp j v u/\cp j d L/\C (if bC d v=X then L else u) j):=by
 intro G h z j y QD C E s c;let⟨v,d,u,@L,rfl,lk,l,D,p⟩:=c;let⟨m,@q,rfl,a,e⟩:=q0 s;refine Ia (n:=bC d v) (E.ok.hd f) (λQd n C Qh i=>?_) λT QP n=>⟨if bC d v=X then L else u,j,E.kept n,?_,p⟩
 ·exact y4 6 lk (by show b.A.units+1+6+2<bL;lia) ((D.e7 E.a3 e).keep λg o W W d W W=>n g o d) ((l.e7 E.a3 a).keep λg o W W d W W=>n g o d) b.prog b.w Qh C i
 ·split
  ·exact e
  ·exact a
def qn:h6:=(λJ=>match J with
 |[.im (.int a),.im<|.int i]=>wb [.im (.int a),.im<|.int i]
 |[.im (.tup g),.im<|.tup e]=>if eN 6 (.tup e) (.tup g)=X then Z (.im<|if bC (.tup g) (.tup e)=X then .tup e else .tup g) else Y
 |_=>Y)
def q2:h6:=(λJ=>match J with
 |[.im (.int a),.im<|.int i]=>w2 [.im (.int a),.im<|.int i]
 |[.im (.tup g),.im<|.tup e]=>if eN 6 (.tup e) (.tup g)=X then Z (.im<|if bC (.tup e) (.tup g)=X then .tup e else .tup g) else Y
 |_=>Y)
def Lc(c:b.calm=X)(k:b.A.units+20<bL):g8 b (.builtin "max") qn:=by
 intro G h z j y QD C E s m;let⟨J,@v,f,d,p⟩:=m;unfold qn at d;split at d
 ·exact Nt c G h z j y QD C E s ⟨_,v,f,d,p⟩
 ·split at d
  ·rename_i g e lk;cases d;let⟨u,@L,rfl,l,D⟩:=w1 f;refine HO c k G h z j _ QD C E s ⟨_,_,u,L,rfl,lk,l,D,b4.i p ?_⟩;split
   ·exact D
   ·exact l
  ·cases d
 ·cases d
def GX(c:b.calm=X)(k:b.A.units+20<bL):g8 b (.builtin "min") q2:=by
 intro G h z j y QD C E s m;let⟨J,@v,f,d,p⟩:=m;unfold q2 at d;split at d
 ·exact Kt c G h z j y QD C E s ⟨_,v,f,d,p⟩
 ·split at d
  ·rename_i g e lk;cases d;let⟨u,@L,rfl,l,D⟩:=w1 f;refine Hg c k G h z j _ QD C E s ⟨_,_,u,L,rfl,lk,l,D,b4.i p ?_⟩;split
   ·exact D
   ·exact l
  ·cases d
 ·cases d
end
mutual
def tm:V->rd
 |.int a=>.int a
 |.ax e=>.bool e
 |.str f=>.str f
 |.tup J=>.tuple (pO J)
 |_=>.none
def pO:List V->List rd
 |[]=>[]
 |v::s=>tm v::pO s
end
mutual
theorem PC{c:aV}:∀{r:Nat}{v:V}{L:ae},V.bg r v=X->dq c v L->Reads c L (tm v) []
 |_,.aT,L,_,d=>by cases (show L=.none from d);exact .none
 |_,.ax e,L,_,d=>by cases (show L=.bool e from d);exact .bool e
 |_,.int a,L,_,d=>by let⟨@w,rfl⟩:=d;exact .int a w
 |_,.str f,L,_,d=>by let⟨@w,rfl⟩:=d;exact .str f w
 |r+1,.tup J,L,n,d=>by
  let⟨g,o,Qy,@k,rfl,l,D,b,h⟩:=d;exact .tuple l D b (Ey (r:=r) n h)
 |0,.tup J,L,n,d=>by cases n
 |r,.fn g,L,n,d=>by cases r<;>cases n
 |r,.aQ g,L,n,d=>by cases r<;>cases n
 |r,.fd,L,n,d=>by cases r<;>cases n
theorem Ey{c:aV}:∀{r:Nat}{J:List V}{QD:List ae},V.cg r J=X->dv c J QD->ReadsAll c QD (pO J) []
 |_,[],QD,_,d=>by rw[show QD=[] from d];exact .nil
 |r,v::J,QD,n,d=>by
  let⟨u,@s,rfl,l,D⟩:=d;rw[V.cg,cG]at n;exact .cons (PC n.1 l) (Ey n.2 D)
end
mutual
theorem J3:∀v:V,rd.hasDict (tm v)=aq
 |.aT=>rfl
 |.ax _=>rfl
 |.int _=>rfl
 |.str _=>rfl
 |.fn _=>rfl
 |.aQ _=>rfl
 |.fd=>rfl
 |.tup J=>Be J
theorem Be:∀J:List V,rd.hasDictAll (pO J)=aq
 |[]=>rfl
 |v::s=>by
  show (rd.hasDict (tm v) || PyData.hasDictAll (pO s))=aq;rw[J3 v,Be s];rfl
end
section
variable{Ql:bA}{x:bc}{O:bj}{Qh:ae->ah->Prop}{h:ah}
theorem zl{it w:ao}{Qy:Array ae}(d:w≠it):∀(r a:Nat) (h:ah) (C:List ae->ah->Prop),h.heap.IsListIter it w a->h.heap.IsList w Qy->a+r<=Qy.size->
  (∀T,T.IsListIter it w (a+r)->aV.SameBut it h.heap T->C ((Qy.toList.drop a).take r) {h with heap:=T})->wpAny (aN Ql x) O (draw (.ref it) r) C Qh h
 |0,a,h,C,b,_,_,c=>by
  show wpAny _ _ (pure []) C Qh h;exact aR ⇑(c h.heap b (aV.SameBut.refl ..))
 |r+1,a,h,C,b,ba,n,c=>by
  have e:a<Qy.size:=⋯
  show wpAny _ _ (gx (.ref it) >>= _) C Qh h;refine av (DP b ba (x:=Qy[a]) (by simp[e]) λo i g=>?_);refine av (e3 (zl d r (a+1) _ _ i (ba.extBut g.extBut d) ⋯ λj k l=>aR ?_));have m:Qy.toList.drop a=Qy[a]::Qy.toList.drop (a+1):=by simp[i2,e]
  have:=c j (by rw[show a+(r+1)=a+1+r by lia];exact k) (g.trans l);rw[m,List.take_succ_cons]at this;exact this
def Np{C:List ae->ah->Prop}(f:O.handled=Y)(ba:h.heap.IsList w Qy)(g:∀T,aV.ExtBut h.heap.objs.size h.heap T->C Qy.toList {h with heap:=T}):wpAny (aN Ql x) O (unpackItems (.ref w) Qy.size Y) C Qh h:=by
 have a:w≠h.heap.objs.size:=by let⟨@o,i,W⟩:=ba;exact c2 (bZ i)
 unfold unpackItems;refine av ?_
 ·unfold notIterableAtAll;refine av (l9 ba.typeIs F.slot_list_iter.lookup ?_);refine aR ?_;simp only[gp,e2];refine av (e3<|qm ba ?_);refine av (e3 (zl a Qy.size 0 _ _ ⟨_,c9 _ rfl,rfl,rfl⟩ (ba.push _) ⋯ λj k b=>?_));have l:List.take Qy.size (List.drop 0 Qy.toList)=Qy.toList:=by
   rw[kE];exact rt ↥0
  rw[l];rw[aI ↥0];have m:j.IsList w Qy:=(ba.push _).extBut b.extBut a;refine av (e3 (Ed f k m ↥0 λn p=>?_));simp only[Option.isSome_none,gp,e2];refine aR (g n λe o c d=>p e o c<|b.extBut e o c<|b3 _ d)
def He{Qi:ew}{a:List bo}{b}{C:Unit->ah->Prop}(d:O.handled=Y)(ba:h.heap.IsList w Qy)(e:(eT a Qi).length=Qy.size)(f:(eT a Qi).findIdx? (·.1)=Y)(c:∀T,aV.ExtBut h.heap.objs.size h.heap T->wpAny (aN Ql x) O (AD ((eT a Qi).map (·.2)) Qy.toList) C Qh {h with heap:=T}):
  wpAny (aN Ql x) O (hJ (.Tuple a b Qx) Qi<|.ref w) C Qh h:=by
 rw[assign_Tuple];refine av (r8 ?_);unfold unpack;rw[e,f];exact av (e3<|Np d ba c)
end
section
variable{b:aK}
def Lg(Qk:Φ)(r:Nat)(w:iD):fJ:=(λu z j C=>∃g y,u=.ref g/\cQ Qk j g y/\y.length=r/\w y z j C)
variable{n:Nat}
def KW{w:iD}(i:b.calm=X)(c:mR b Qe w)(k:(eT Qe b.env).length=r:=by rfl)(l:(eT Qe b.env).findIdx? (·.1)=Y:=by rfl):iK b (.Tuple Qe n Qx) (Lg b.K r w):=by
 intro G h z j u L C E s a;let⟨g,@y,m,p,q,a⟩:=a;subst m;cases s;let⟨@Qp,f,ba,x⟩:=E.list p;refine He (E.ok.hd i) ba.isList (by simp[k,<-q,f.length]) l λT t=>?_;have v:aA b G z j {h with heap:=T}:=E.kept (QM:=h.toks) λe o d=>t e o (c2<|bZ d) d;exact c G _ z j y _ C v ⇑f a
@[simp] def ue(r:Nat)(c:List aj->a6->Option a6):fa:=λv A=>match v with
 |.lst is=>if is.length=r then c (is.map .im) A else Y
 |_=>Y
def F9{QK:List Nat}{c:List aj->a6->Option a6}(i:b.calm=X)(Qj:px b QK Qe c)(k:(eT Qe b.env).length=r:=by rfl)(m:(eT Qe b.env).findIdx? (·.1)=Y:=by rfl):gN b QK (.Tuple Qe n Qx) (ue r c):=by
 refine sG (KW i Qj k m) λu z j C q=>?_;let⟨A,P,v,Qg,@QE,N,QH,ak,a,p⟩:=q;unfold ue at a;split at a
 ·rename_i is;split at a
  ·rename_i s;let⟨g,@y,rfl,l,D,rfl⟩:=QH;have t:=dp.mp ak;refine⟨g,y,rfl,cQ.of l,by rw[<-D.length];exact s,A,P,_,[],QE,N,vc D,by rw[cD];exact t.1,a,λw F QQ Q7 x h=>p w F QQ Q7 x ?_⟩;rw[cD]at h;exact⟨λe o d f=>h.keep e o d λH=>f<|dQ _ H,λe f=>(h.sub e f).imp (λH=>dQ _ H) id,h.ak,h.tup,h.grow⟩
  ·cases a
 ·cases a
end
end L2
namespace G
open L2
variable{U P Ra O z QX Q4 QT b M:Option aj}{x k:Int}{E Qs:List (Int×Int)}{m e g:Int×Int}{n:List V}{Qt:List (List V×V)}{c:aj}{r:Nat}
def oV:bR:=((bY 2<|az hj (ag<|az eE (ag<|az eE (ag<|az h8 (ai 2)<|ag<|aB<|.int 69621)<|ag<|az hj (ai 3)<|ag<|aB<|.int 2147483587)<|ag<|aB<|.int 13)<|ag<|aB<|.int 2305843009213693951))
def Cb:bR:=((bE (bY 2<|az eE (ag<|aB<|.int 7)<|ag<|az h8 (ag<|aB<|.int 7919)<|ai 1)<|bE (gD (cR<|ag<|lD (ai 0) oL<|mz<|aB<|.int 63) (bJ 3) G.oV)<|bE (bY 3<|ys (bt<|az nF (ag<|b2 dg<|ar (ai 0) aD)<|ag<|aB<|.int 0) (az bG (ai 0)<|ag<|az hj (ai 1)<|ag<|b2 dg<|ar (ai 0) aD)<|aB<|.int 0)<|bE (bY 4<|az h8 (ag<|az h8 (ag<|az q6 (ag<|aB<|.int 10)<|ag<|aB<|.int 60)<|ag<|az q6 (ag<|aB<|.int 10)<|ag<|aB<|.int 60)<|ag<|az q6 (ag<|aB<|.int 10)<|ag<|aB<|.int 60)<|dw<|e_<|ar (ag<|az h8 (ag<|az hj (ai 3)<|ai 4)<|ag<|b2 vInt<|ar (ag<|az BC (ai 3)<|ag<|az q6 (ag<|aB<|.int 10)<|ag<|aB<|.int 18) aD)<|ar (ai 2)<|ar (ag<|aB<|.int 0) aD))
def nM:d2:=(d6 2 5 [0,1] Cb)
def yn:bR:=((bE (dy (bt<|az nF (ag<|az bG (ai 0)<|ag<|aB<|.int 0)<|ag<|aB<|.int 0) (bE (bY 2<|az hj (ag<|az bG (ai 0)<|ag<|aB<|.int 0)<|ai 1)<|bE (hU (az l5 (ag<|az bG (ai 0)<|ag<|aB<|.int 0)<|ai 1)<|j9 0 (aB<|.int 0) nJ)<|dw<|eY 2) eo)<|bE (hU (az eE (ag<|az bG (ai 0)<|ag<|aB<|.int 2)<|ag<|aB<|.int 1)<|j9 0 (aB<|.int 2) nJ)<|bE (bY 3<|az hj (ag<|az h8 (ag<|az eE (ag<|az bG (ai 0)<|ag<|aB<|.int 1)<|ag<|az h8 (ag<|az bG (ai 0)<|ag<|aB<|.int 2)<|ag<|aB<|.int 104729)<|ag<|aB<|.int 48271)<|ag<|aB<|.int 2305843009213693951)<|bE (hU (az hj (ag<|az h8 (ai 3)<|ag<|az eE (ag<|az hj (ai 3)<|ag<|aB<|.int 1009)<|ag<|aB<|.int 69621)<|ag<|aB<|.int 2305843009213693951)<|j9 0 (aB<|.int 1) nJ)<|dw<|az hj (ag<|az l5 (ag<|az bG (ai 0)<|ag<|aB<|.int 1)<|ag<|aB<|.int 1000003)<|ai 1))
def eA:d2:=(d6 2 4 [0,1] yn)
def Et:bR:=((dw<|e_<|ar (ag<|c7<|ar (ag<|az lp (ag<|az bG (ai 0)<|ag<|aB<|.int 0)<|ag<|aB<|.int 1)<|ar (ag<|az bG (ai 0)<|ag<|aB<|.int 1) aD)<|ar (ag<|c7<|ar (ag<|az bG (ai 0)<|ag<|aB<|.int 0)<|ar (ag<|az lp (ag<|az bG (ai 0)<|ag<|aB<|.int 1)<|ag<|aB<|.int 1) aD)<|ar (ag<|c7<|ar (ag<|az bG (ai 0)<|ag<|aB<|.int 0)<|ar (ag<|az eE (ag<|az bG (ai 0)<|ag<|aB<|.int 1)<|ag<|aB<|.int 1) aD)<|ar (ag<|c7<|ar (ag<|az eE (ag<|az bG (ai 0)<|ag<|aB<|.int 0)<|ag<|aB<|.int 1)<|ar (ag<|az bG (ai 0)<|ag<|aB<|.int 1) aD) aD))
def k7:d2:=(d6 1 1 [0] Et)
def r7:ay aj:=((c7<|ar (ai 0)<|ar (ag<|aB<|.ax X) aD))
def mi:bR:=((dy (e0 (bt<|az g6 (ai 5)<|ai 2)<|bt<|az eJ (ai 5)<|ai 3) (bE (hU (aB<|.ax X)<|j9 3 (eY 5) jh)<|j6<|hA iA 4 lg<|ar (ai 5) aD) eo))
def vq:ay Bool:=((bt<|az es (ai 4)<|ag<|e_ aD))
def yr:bR:=((gD (cR<|ag<|bP 1 G.k7<|ar (ag<|hA iA 4 tY aD) aD) (bJ 5) G.mi))
def DJ:bR:=((bE (bY 2<|b2 jv<|ar (ag<|cO 1 [] (cR<|ai 0) (bJ 0) dW G.r7) aD)<|bE (bY 3<|wU (eY 1)<|aB<|.ax X)<|bE (bY 4<|e_<|ar (ai 1) aD)<|bE (h2 G.vq G.yr 1000000)<|dw<|b2 kL<|ar (ag<|b2 kc<|ar (ai 3) aD) aD))
def lh:d2:=(d6 2 6 [0,1] DJ)
def s8:bR:=((bE (bY 4<|az bG (ag<|bP 1 G.k7<|ar (ag<|az bG (ai 2)<|ag<|bP 2 G.eA<|ar (ai 0)<|ar (ag<|b2 dg<|ar (ai 2) aD) aD) aD)<|ag<|bP 2 G.eA<|ar (ai 0)<|ar (ag<|aB<|.int 4) aD)<|dy (e0 (bt<|az eJ (ai 4)<|ai 2)<|e0 (bt<|lO h5 h5 (ag<|aB<|.int 0) (ag<|az bG (ai 4)<|ag<|aB<|.int 0)<|ag<|aB<|.int 24)<|bt<|lO h5 h5 (ag<|aB<|.int 0) (ag<|az bG (ai 4)<|ag<|aB<|.int 1)<|ag<|aB<|.int 24) (j6<|hA iA 2 lg<|ar (ai 4) aD) eo))
def Eb:bR:=((bE (bY 2<|e_<|ar (ag<|c7<|ar (ag<|aB<|.int 12)<|ar (ag<|aB<|.int 12) aD) aD)<|bE (gD (iz<|ar (ag<|bP 2 G.eA<|ar (ai 0)<|ar (ai 1) aD) aD) (bJ 3) G.s8)<|dw<|eY 2))
def o7:d2:=(d6 2 5 [0,1] Eb)
def xk:ay aj:=((c7<|ar (ag<|az l5 (ai 0)<|ai 1)<|ar (ag<|az hj (ai 0)<|ai 1) aD))
def nG:bR:=((j6<|hA iA 5 pD<|ar (ag<|bP 2 G.eA<|ar (ai 0)<|ar (ag<|b2 dg<|ar (ai 5) aD) aD) aD))
def xR:ay aj:=((eY 0))
def tW:ay Bool:=((bt<|az dS (ag<|az h8 (ag<|az hj (ag<|az bG (ai 0)<|ag<|aB<|.int 0)<|ag<|aB<|.int 2)<|ag<|az hj (ag<|az hj (ag<|az bG (ai 0)<|ag<|aB<|.int 1)<|ag<|aB<|.int 3)<|ag<|aB<|.int 2)<|ag<|aB<|.int 0))
def m9:ay aj:=((az bG (ag<|e_<|ar (ag<|aB<|.int 0)<|ar (ag<|aB<|.int 0)<|ar (ag<|aB<|.int 6)<|ar (ag<|aB<|.int 3) aD)<|ag<|bP 2 G.eA<|ar (ai 1)<|ar (ag<|aB<|.int 4) aD))
def tA:ay aj:=((c7<|ar (ag<|az eE (ag<|az bG (ai 0)<|ag<|aB<|.int 0)<|ai 1)<|ar (ag<|az eE (ag<|az bG (ai 0)<|ag<|aB<|.int 1)<|ai 2) aD))
def DG:bR:=((bE (bY 2<|bP 2 G.eA<|ar (ai 0)<|ar (ag<|aB<|.int 6) aD)<|bE (bY 3<|az eE (ag<|aB<|.int 1)<|ag<|bP 2 G.eA<|ar (ai 0)<|ar (ag<|aB<|.int 7) aD)<|bE (bY 4<|az eE (ag<|aB<|.int 1)<|ag<|bP 2 G.eA<|ar (ai 0)<|ar (ag<|b2 qn<|ar (ag<|aB<|.int 1)<|ar (ag<|b2 q2<|ar (ag<|aB<|.int 7)<|ar (ag<|az l5 (ai 1)<|ai 3) aD) aD) aD)<|bE (bY 5<|cO 1 [3] (iz<|ar (ag<|az h8 (ai 4)<|ai 3) aD) (bJ 0) dW G.xk)<|bE (dy (fK (bt<|az dS (ai 2)<|ag<|aB<|.int 1)<|bt<|az dS (ai 2)<|ag<|aB<|.int 2) (gD (iz<|ar (ag<|bP 2 G.eA<|ar (ai 0)<|ar (ag<|az eE (ag<|aB<|.int 1)<|ag<|az l5 (ag<|b2 dg<|ar (ai 5) aD)<|ag<|aB<|.int 2) aD) aD) (bJ 6) G.nG)<|dy (bt<|az dS (ai 2)<|ag<|aB<|.int 3) (bY 5<|cO 1 [] (cR<|ai 5) (bJ 0) G.tW G.xR)<|dy (bt<|az nF (ai 2)<|ag<|aB<|.int 3) (bY 5<|bP 2 G.o7<|ar (ai 0)<|ar (ai 1) aD) eo)<|bE (bY 7<|bP 2 G.lh<|ar (ai 5)<|ar (ag<|az bG (ai 5)<|ag<|bP 2 G.eA<|ar (ai 0)<|ar (ag<|b2 dg<|ar (ai 5) aD) aD) aD)<|bE (hU (cO 1 [0] (iz<|ar (ag<|aB<|.int 2) aD) (bJ 0) dW G.m9)<|ue 2<|hk (bJ 8)<|hk (bJ 9) lA)<|dw<|b2 kL<|ar (ag<|cO 1 [8,9] (cR<|ai 7) (bJ 0) dW G.tA) aD))
def pU:d2:=(d6 2 10 [0,1] DG)
def ab(q:Int×Int):V:=(.tup [.int q.1,.int q.2])
abbrev aO(Qr:List (Int×Int)):aj:=.im (.tup<|Qr.map ab)
abbrev a5(Qr:List (Int×Int)):aj:=.lst (Qr.map ab)
abbrev pQ(v h w:Int):aj:=.lst [.int v,.int h,.int w]
def dX(r:Nat)(c:aj):Prop:=(∃v h w,c=pQ v h w/\0<=v/\0<=h/\h<2^62/\0<=w/\w+r<2^40)
def dX.mono{k:Nat}(f:dX r c)(d:k<=r):dX k c:=by
 let⟨v,h,@w,rfl,l,D,a,b,e⟩:=f;exact⟨v,h,w,rfl,l,D,a,b,⋯⟩
def dX.lst(f:dX r c):∃p,c=.lst p:=by
 let⟨v,h,@w,rfl,W⟩:=f;exact⟨_,rfl⟩
def hW(f:dX (r+1) c)(b:0<k)(g:k<1073741824):∃u T,eA [c,aF k]=Z (aF u,[T,aF k])/\0<=u/\u<k/\dX r T:=by
 let⟨v,h,@w,rfl,l,D,j,m,B⟩:=f;have C:∀v:Int,dx [V.int v,.int h,.int w] 0=Z (.int v):=λv=>rfl;have E:¬ k=0:=⋯
 by_cases i:0<v
 ·refine⟨v%k,pQ (v/k) h w,?_,jZ _ ⋯,kY _ b,v/k,h,w,rfl,CH l ⋯,D,j,m,⋯⟩;have d:dx [V.int v,.int h,.int w] 0=Z (.int v):=rfl;simp -implicitDefEqProofs [eA,yn,i,b,g,d,i_]
 ·obtain⟨a,n⟩:∃a:Int,a=(h+(w+1)*104729)*48271%2305843009213693951:=⟨_,rfl⟩;obtain⟨Qd,e⟩:∃Qd:Int,Qd=a*(a%1009+69621)%2305843009213693951:=⟨_,rfl⟩;have o:0<=Qd:=by rw[e];exact jZ _ ∅
  have p:Qd<2^62:=by
   rw[e];have:=kY (a*(a%1009+69621)) (show (0:Int)<2305843009213693951 by decide);lia
  have q:gH (w+1) 104729=X:=mN ∅ ∅;have s:gH (h+(w+1)*104729) 48271=X:=mN ∅ ∅;have t:gH a (a%1009+69621)=X:=by
   have F:=jZ a (show (1009:Int)≠0 by decide);have G:=kY a (show (0:Int)<1009 by decide);exact mN ⋯ ⋯
  refine⟨Qd/1000003%k,pQ v Qd<|w+1,?_,jZ _ ⋯,kY _ b,v,Qd,w+1,rfl,l,o,p,⋯,⋯⟩;have d:dx [V.int v,.int h,.int w] 0=Z (.int v):=rfl;have x:dx [V.int v,.int h,.int w] 2=Z (.int w):=rfl;have y:dx [V.int v,.int h,.int<|w+1] 1=Z (.int h):=rfl;have z:dx [V.int v,.int h,.int<|w+1] 2=Z (.int<|w+1):=rfl;have A:dx [V.int v,.int Qd,.int<|w+1] 1=Z (.int Qd):=rfl;simp -implicitDefEqProofs [eA,yn,i,b,g,d,x,y,z,A,i_,q,s,t,<-n,<-e]
theorem zS:∀(y:List Int) (b QT U M:Option aj) (h:Int),0<=h->h<2^62->∃c Qd,0<=Qd/\Qd<2^62/\ek (bJ 3) oV (y.map .int) [b,QT,Z<|aF h,U,M]=Z (.bp,[b,QT,Z<|aF Qd,c,M])
 |[],b,QT,U,M,h,e,l=>⟨U,h,e,l,rfl⟩
 |f::y,b,QT,U,M,h,e,l=>by
  obtain⟨a,d⟩:∃a:Int,a=(h*69621+f%2147483587+13)%2305843009213693951:=⟨_,rfl⟩;have g:0<=a:=by rw[d];exact jZ _ ∅
  have i:a<2^62:=by
   rw[d];have:=kY (h*69621+f%2147483587+13) (show (0:Int)<2305843009213693951 by decide);lia
  let⟨c,@Qd,j,k,m⟩:=zS y b QT (Z<|aF f) M a g i;refine⟨c,Qd,j,k,?_⟩;have n:gH h 69621=X:=mN ∅ ∅;rw[cH,ek];dsimp only;rw[show bJ 3 (.im<|.int f) [b,QT,Z<|aF h,U,M]=Z [b,QT,Z<|aF h,Z<|aF f,M] from rfl];show (oV _).bind _=_;rw[show oV [b,QT,Z<|aF h,Z<|aF f,M]=Z (.bp,[b,QT,Z<|aF a,Z<|aF f,M]) by simp -implicitDefEqProofs [oV,n,<-d]];exact m
def MR{R:List Int}{n:Int}(A:0<=n)(B:n<1000):∃c,nM [.cN (R.map .int),aF n]=Z (c,[.cN (R.map .int),aF n])/\dX 1000000 c:=by
 obtain⟨y,g⟩:∃y,gk (R.map V.int) Y (Z 63)=y.map .int:=⟨gk R Y<|Z 63,vI _ _ _ _⟩;let⟨U,@h,Ri,j,k⟩:=zS y (Z<|.cN<|R.map .int) (Z<|aF n) Y Y (7+7919*n) ⋯ ⋯;have p:gH 7919 n=X:=Pf ∅ ∅;have q:gH (10^60) (10^60)=X:=by decide +kernel
 have Q3:gH (10^60*10^60) (10^60)=X:=by decide +kernel
 have r:∀f m:Int,gH f (if 10^18<=m then 1 else 0)=X:=λf m=>mN (by split<;>decide) (by split<;>decide);have e:(10:Nat)<2^64:=by decide
 have s:(0:Int)<10^60*10^60*10^60:=by decide
 have Q:∀m:Int,dX 1000000 (pQ (m%(10^60*10^60*10^60)*(if 10^18<=m then 1 else 0)) h 0):=λm=>by
  have l:=jZ m (show (10^60*10^60*10^60:Int)≠0 by decide);refine⟨_,_,_,rfl,?_,Ri,j,kW 0,by decide⟩;split
  ·rw[Fz];exact l
  ·rw[Int.mul_zero];exact kW 0
 have t:bY 2 (az eE (ag<|aB<|.int 7)<|ag<|az h8 (ag<|aB<|.int 7919)<|ai 1) [Z (.cN<|R.map .int),Z<|aF n,Y,Y,Y]=Z (.bp,[Z (.cN<|R.map .int),Z<|aF n,Z<|aF<|7+7919*n,Y,Y]):=by
  simp -implicitDefEqProofs [p]
 have u:gD (cR<|ag<|lD (ai 0) oL<|mz<|aB<|.int 63) (bJ 3) G.oV [Z (.cN<|R.map .int),Z<|aF n,Z<|aF<|7+7919*n,Y,Y]=Z (.bp,[Z (.cN<|R.map .int),Z<|aF n,Z<|aF h,U,Y]):=
  (sz (o:=Y) (y:=y.map .int) (Qn:=[Z (.cN<|R.map .int),Z<|aF n,Z<|aF<|7+7919*n,Y,Y]) (by simp -implicitDefEqProofs [g]) k).trans rfl;have cL:∀m:Int,bY 3 (ys (bt<|az nF (ag<|b2 dg<|ar (ai 0) aD)<|ag<|aB<|.int 0) (az bG (ai 0)<|ag<|az hj (ai 1)<|ag<|b2 dg<|ar (ai 0) aD)<|aB<|.int 0) [Z (.cN<|R.map .int),Z<|aF n,Z<|aF h,U,Y]=Z (.bp,[Z (.cN<|R.map .int),Z<|aF n,Z<|aF h,Z<|aF m,Y])->
   ∃c,nM [.cN (R.map .int),aF n]=Z (c,[.cN (R.map .int),aF n])/\dX 1000000 c:=λm a=>by
  refine⟨_,?_,Q m⟩;unfold nM Cb;refine tM [Z (.cN<|R.map .int),Z<|aF n,Z<|aF h,Z<|aF m,Z<|aF<|10^60*10^60*10^60] rfl ((gF t).trans<|(gF u).trans<|(gF a).trans<|(gF (Qn:=[Z (.cN<|R.map .int),Z<|aF n,Z<|aF h,Z<|aF m,Z<|aF<|10^60*10^60*10^60]) ?_).trans ?_) rfl
  ·simp -implicitDefEqProofs [q,Q3,e,-Int.reducePow,-Nat.reducePow]
  ·simp -implicitDefEqProofs [r,e,s,-Int.reducePow,-Nat.reducePow]
 by_cases v:0<(R.length:Int)
 ·obtain⟨i,b⟩:∃i:Int,i=n%(R.length:Int):=⟨_,rfl⟩;have w:0<=i:=by rw[b];exact jZ _ ⋯
  have C:i<R.length:=by rw[b];exact kY _ v
  obtain⟨m,a⟩:∃m,R[i.toNat]?=Z m:=⟨R[i.toNat]'⋯,by simp⟩;have x:dx (R.map V.int) i=Z (.int m):=wY w (by rw[eG,a];rfl);refine cL m ?_;have z:0<R.length:=⋯
  simp -implicitDefEqProofs [z,<-b,x]
 ·refine cL 0 ?_;have d:R=[]:=List.length_eq_zero_iff.mp ⋯;subst d;simp -implicitDefEqProofs
def c0(q:Int×Int):List (Int×Int):=([(q.1-1,q.2),(q.1,q.2-1),(q.1,q.2+1),(q.1+1,q.2)])
def rI(q:Int×Int):k7 [.im (ab q)]=Z (a5<|c0 q,[.im (ab q)]):=by
 have a:dx [V.int q.1,.int q.2] 0=Z (.int q.1):=rfl;have b:dx [V.int q.1,.int q.2] 1=Z (.int q.2):=rfl;simp -implicitDefEqProofs [k7,Et,ab,c0,a,b]
def c8(q:Int×Int):List V:=([.int q.1,.int q.2])
def o5(q:Int×Int):ab q=.tup (c8 q):=rfl
def lJ(c:c8 g=c8 e):g=e:=by
 unfold c8 at c;simp at c;exact Cn c.1 c.2
def Dw(c:ab g=ab e):g=e:=by
 rw[o5,o5]at c;exact lJ (by injection c)
def mL(q:Int×Int):V.keys 7 (c8 q)=X:=rfl
def nq:V->Int×Int
 |.tup [.int g,.int e]=>(g,e)
 |_=>(0,0)
def u2(q:Int×Int):nq (ab q)=q:=rfl
def ni(q:Int×Int):V.bg 8 (ab q)=X:=rfl
theorem n2:∀Qr:List (Int×Int),V.cg 8 (Qr.map ab)=X
 |[]=>rfl
 |q::s=>by rw[cH,V.cg,ni,n2 s];rfl
def qj(g e:Int×Int):cf (ab g) (ab e)=decide (g=e):=by
 show ((g.1==e.1)&&((g.2==e.2)&&X))=_;let⟨a,b⟩:=g;let⟨dR,dc⟩:=e;by_cases l:a=dR<;>by_cases D:b=dc<;>simp[l,D]
def BQ(Qr:List (Int×Int))(m:Int×Int):((Qr.map ab).any λf=>cf f<|ab m)=decide (m∈Qr):=by
 rw[xV,qK,qN,jF];constructor
 ·rintro⟨f,a,d⟩;have:decide (f=m)=X:=by rw[<-qj];exact d
  rw[<-hS this];exact a
 ·intro c;refine⟨m,c,?_⟩;show cf (ab m) (ab m)=X;rw[qj];exact dk rfl
theorem zP:∀(t:List V) (Qs:List (Int×Int)),(∀f∈t,f∈Qs.map ab)->t=(t.map nq).map ab
 |[],_,_=>rfl
 |f::t,Qs,c=>by
  let⟨@q,W,d⟩:=cJ.mp (c f<|.head _);rw[cH,cH,<-zP t Qs λI a=>c I<|.tail _ a,<-d,u2]
def GY{t:List V}(c:t.Perm (Qs.map ab)):∃a:List (Int×Int),a.Perm Qs/\t=a.map ab:=by
 refine⟨t.map nq,?_,zP t Qs λf b=>c.mem_iff.mp b⟩;have:=u4 nq c;rw[gs]at this;have d:(nq ∘ ab:Int×Int->Int×Int)=id:=funext u2;rw[d,sL]at this;exact this
def Bv(ak:Qs.Nodup)(a:Qs.length<=1000):md (Qs.map ab):=by
 refine⟨⟨by rw[bq];exact a,λg b e c=>?_,?_⟩,.inl λv h=>?_⟩
 ·let⟨@f,W,rfl⟩:=cJ.mp b;let⟨@I,W,rfl⟩:=cJ.mp c;rfl
 ·exact MT ab (λg e r d=>r<|Dw d) ak
 ·let⟨@f,W,rfl⟩:=cJ.mp h;rfl
def qR:(dH Qt n).isSome=Qt.any λq=>decide (q.1=n):=by
 unfold dH;rw[t_,List.isSome_find?]
def Of{a:List V}{v:V}:((fO Qt n v).any λq=>decide (q.1=a))=((Qt.any λq=>decide (q.1=a)) || decide (n=a)):=by
 unfold fO;split
 ·rename_i c;have d:((Qt.map λb=>if b.1=n then (b.1,v) else b).any λq=>decide (q.1=a))=Qt.any λq=>decide (q.1=a):=by
   rw[xV];congr 1;funext q;show decide ((if q.1=n then (q.1,v) else q).1=a)=_;split<;>rfl
  rw[d];by_cases H:n=a
  ·subst H;rw[c];rfl
  ·rw[cW H,Bool.or_false]
 ·rw[List.any_append];simp
theorem z3:∀(Qr a:List (List V×V)) (n:List V),((Qr.foldl (λg q=>fO g q.1 q.2) a).any λq=>decide (q.1=n))=((a.any λq=>decide (q.1=n)) || Qr.any λq=>decide (q.1=n))
 |[],a,n=>by simp
 |q::Qr,a,n=>by
  rw[lP,z3 Qr _ n,Of,k_,Bool.or_assoc]
def cv(Qs:List (Int×Int)):List (List V×V):=(Qs.map λm=>(c8 m,.ax X))
def vC(Qs:List (Int×Int))(m:Int×Int):((cv Qs).any λq=>decide (q.1=c8 m))=decide (m∈Qs):=by
 unfold cv;rw[xV,qK,qN,jF];constructor
 ·rintro⟨f,a,d⟩;have:c8 f=c8 m:=hS d;rw[<-lJ this];exact a
 ·intro c;exact⟨m,c,dk rfl⟩
def NI(E:List (Int×Int))(m:Int×Int):(dH (fw<|cv E)<|c8 m).isSome=decide (m∈E):=by
 rw[qR];unfold fw;rw[z3,vC];rfl
def Pr(Qs:List (Int×Int))(m:Int×Int):(dH (cv Qs)<|c8 m).isSome=decide (m∈Qs):=by rw[qR,vC]
def N8(c:m∉Qs):fO (cv Qs) (c8 m) (.ax X)=cv (Qs++[m]):=by
 unfold fO;rw[aI (by rw[vC];simpa using c)];unfold cv;rw[fp];rfl
def D2(E:List (Int×Int)):il (E.map λm=>.tup [ab m,.ax X])=Z (cv E):=by
 induction E with
 |nil=>rfl
 |cons m s a=>
  rw[cH,o5,il,a];rfl
def AW(Qs:List (Int×Int)):((cv Qs).map λq=>V.tup q.1)=Qs.map ab:=by
 unfold cv;rw[gs];rfl
def EU(Qs:List (Int×Int)):((cv Qs).all λq=>V.keys 7 q.1)=X:=by
 unfold cv;rw[vQ,iI];intro m W;rfl
def i3(E Qs:List (Int×Int)):Nat:=(E.countP λm=>decide (m∉Qs))
def Lr(l:m∈E)(D:m∉Qs):i3 E (Qs++[m])<i3 E Qs:=by
 unfold i3;refine wh (λf a d=>?_) ⟨m,l,dk D,cW λH=>H<|dP _<|.head _⟩;exact dk λH=>hS d (dQ _ H)
def JR{QG:Type}{QS:List QG}(c:QS≠[]):∃a x,QS=a++[x]:=⟨QS.dropLast,QS.getLast c,(List.dropLast_concat_getLast c).symm⟩
def xO(q:Int×Int):dx [V.int q.1,.int q.2] 0=Z (.int q.1):=rfl
def k9(q:Int×Int):dx [V.int q.1,.int q.2] 1=Z (.int q.2):=rfl
def n4{a:Int}(b:0<=a)(c:E[a.toNat]?=Z m):dx (E.map ab) a=Z (ab m):=wY b (by rw[eG,c];rfl)
def s9(Qr:List (Int×Int))(m:Int×Int):eH (ab m) (a5 Qr)=Z (decide (m∈Qr)):=by
 rw[MX,ni,n2,BQ];rfl
def C1(Qr:List (Int×Int))(m:Int×Int):eH (ab m) (aO Qr)=Z (decide (m∈Qr)):=by
 rw[H2,ni,n2,BQ];rfl
def iT(m:Int×Int):Prop:=(0<=m.1/\m.1<50/\0<=m.2/\m.2<50)
def F4{n:Option aj}(j:dX (r+2) c)(p:E≠[])(am:E.length<=500)(Qj:∀m∈E,iT m):
  ∃T f w,s8 [Z c,Z<|aF k,Z<|a5 E,n,M]=Z (.bp,[Z T,Z<|aF k,Z<|a5 f,n,w])/\dX r T/\f≠[]/\f.length<=E.length+1/\∀m∈f,iT m:=by
 have an:=n7.mpr p;let⟨t,@l,x,y,ap,Qm⟩:=hW (r:=r+1) (k:=(E.length:Int)) j ⋯ ⋯;obtain⟨m,a⟩:∃m,E[t.toNat]?=Z m:=⟨E[t.toNat]'⋯,by simp⟩;let⟨h,@D,z,dR,dc,Qz⟩:=hW (r:=r) (k:=4) Qm ⋯ ⋯;obtain⟨o,B⟩:∃o,(c0 m)[h.toNat]?=Z o:=⟨(c0 m)[h.toNat]'(by show h.toNat<4;lia),by simp⟩;have C:=n4 y a;have F:=n4 dR B;have J:=rI m;let⟨@L,rfl⟩:=j.lst;let⟨@as,rfl⟩:=Qm.lst;let⟨@d,rfl⟩:=Qz.lst;have i:bY 4 (az bG (ag<|bP 1 G.k7<|ar (ag<|az bG (ai 2)<|ag<|bP 2 G.eA<|ar (ai 0)<|ar (ag<|b2 dg<|ar (ai 2) aD) aD) aD)<|ag<|bP 2 G.eA<|ar (ai 0)<|ar (ag<|aB<|.int 4) aD) [Z (.lst L),Z<|aF k,Z<|a5 E,n,M]=Z (.bp,[Z (.lst d),Z<|aF k,Z<|a5 E,n,Z<|.im<|ab o]):=by
  simp -implicitDefEqProofs [x,C,J,z,F]
 have N:=s9 E o;have O:=xO o;have P:=k9 o;obtain⟨A,b⟩:∃A:a6,A=[Z (.lst d),Z<|aF k,Z<|a5 E,n,Z<|.im<|ab o]:=⟨_,rfl⟩;rw[<-b]at i;have Q:bt (az eJ (ai 4)<|ai 2) A=Z (!decide (o∈E),A):=by
  rw[b];show (((eH (ab o)<|a5 E).map λs=>aj.im<|.ax<|!s).map λv=>(v,[Z (.lst d),Z<|aF k,Z<|a5 E,n,Z<|.im<|ab o])).bind (λq=>(mm q.1).map λe=>(e,q.2))=_;rw[N];rfl
 have R:bt (lO h5 h5 (ag<|aB<|.int 0) (ag<|az bG (ai 4)<|ag<|aB<|.int 0)<|ag<|aB<|.int 24) A=Z (decide (0<=o.1)&&decide (o.1<=24),A):=by
  rw[b];by_cases H:0<=o.1<;>simp -implicitDefEqProofs [ab,O,H]
 have S:bt (lO h5 h5 (ag<|aB<|.int 0) (ag<|az bG (ai 4)<|ag<|aB<|.int 1)<|ag<|aB<|.int 24) A=Z (decide (0<=o.2)&&decide (o.2<=24),A):=by
  rw[b];by_cases H:0<=o.2<;>simp -implicitDefEqProofs [ab,P,H]
 have u:∀e:Bool,e=(!decide (o∈E)&&((decide (0<=o.1)&&decide (o.1<=24))&&(decide (0<=o.2)&&decide (o.2<=24))))->
   e0 (bt<|az eJ (ai 4)<|ai 2) (e0 (bt<|lO h5 h5 (ag<|aB<|.int 0) (ag<|az bG (ai 4)<|ag<|aB<|.int 0)<|ag<|aB<|.int 24)<|bt<|lO h5 h5 (ag<|aB<|.int 0) (ag<|az bG (ai 4)<|ag<|aB<|.int 1)<|ag<|aB<|.int 24) A=Z (e,A):=by
  intro e U;rw[U];simp -implicitDefEqProofs only[e0,Q,R,S,qW];generalize (decide (0<=o.1)&&decide (o.1<=24))=I;generalize (decide (0<=o.2)&&decide (o.2<=24))=H;cases decide (o∈E)<;>cases I<;>rfl
 unfold s8;by_cases g:o∉E/\0<=o.1/\o.1<=24/\0<=o.2/\o.2<=24
 ·have ba:=u X (by simp[g]);refine⟨.lst d,E++[o],Z<|.im<|ab o,(gF i).trans<|(yz ba).trans ?_,Qz,by simp,by simp,λm a=>?_⟩
  ·have bh:E.length<100000:=⋯
   rw[b];simp -implicitDefEqProofs [iA,bh]
  ·rcases dK.mp a with a|a
   ·exact Qj m a
   ·rw[cV.mp a];exact⟨g.2.1,⋯,g.2.2.2.1,⋯⟩
 ·have al:=u aq (by
   cases H:(!decide (o∈E)&&((decide (0<=o.1)&&decide (o.1<=24))&&(decide (0<=o.2)&&decide (o.2<=24)))) with
   |false=>rfl
   |true=>
    simp at H;exact absurd ⟨H.1,H.2.1.1,H.2.1.2,H.2.2.1,H.2.2.2⟩ g)
  exact⟨.lst d,E,Z<|.im<|ab o,(gF i).trans ((Dy al).trans (by rw[b];rfl)),Qz,p,⋯,Qj⟩
def GH(a i:Int):qn [.im (.int a),.im<|.int i]=Z (.im<|.int<|if i>a then i else a):=rfl
def Jj(a i:Int):q2 [.im (.int a),.im<|.int i]=Z (.im<|.int<|if i<a then i else a):=rfl
theorem z_{QG Q9:Type}(B:QG->Q9):∀(t:List QG) (n:Nat),(t.map B).eraseIdx n=(t.eraseIdx n).map B
 |[],_=>rfl
 |_::_,0=>rfl
 |g::t,n+1=>by simp[z_ B t n]
def kF(x:Int)(r:Nat):List (Int×Int):=((range r).map λ(n:Nat)=>((0+(n:Int))/x,(0+(n:Int))%x))
def KO(x:Int)(r:Nat):(kF x r).length=r:=by rw[kF,bq,hb]
def Mq(a:0<x)(e:x<=7)(f:r<=49):∀m∈kF x r,iT m:=by
 intro m b;let⟨@n,c,rfl⟩:=cJ.mp b;have:=eX.mp c;have jK:0<=(0+(n:Int))/x:=CH ⋯ ⋯;have QZ:(0+(n:Int))/x<=0+(n:Int):=Int.ediv_le_self _ ⋯;have d:=jZ (0+(n:Int)) (show x≠0 by lia);have g:=kY (0+(n:Int)) a;exact⟨jK,by show (0+(n:Int))/x<50;lia,d,by show (0+(n:Int))%x<50;lia⟩
def M4{a:Int}(d:0<x)(e:x<=7)(f:0<a)(g:a<=7):
  bY 5 (cO 1 [3] (iz<|ar (ag<|az h8 (ai 4)<|ai 3) aD) (bJ 0) dW G.xk) [b,QT,Q4,Z<|aF x,Z<|aF a,QX,z,O,Ra,P]=Z (.bp,[b,QT,Q4,Z<|aF x,Z<|aF a,Z<|a5<|kF x (a*x).toNat,z,O,Ra,P]):=by
 obtain⟨r,c⟩:∃r:Int,r=a*x:=⟨_,rfl⟩;have j:0<r:=by rw[c];exact EW f d
 have k:r<=49:=by
  rw[c];have:=Ce g e ⋯ ⋯;lia
 have h:pk r:=⟨⋯,⋯⟩;have mk:gH a x=X:=mN ⋯ ⋯;rw[<-c];refine (vg (v:=a5 (kF x r.toNat)) (Qn:=[b,QT,Q4,Z<|aF x,Z<|aF a,QX,z,O,Ra,P]) ?_ (show 5<10 by decide)).trans rfl;refine (mh (y:=fN 0 r.toNat) (o:=Y) (Qn:=[b,QT,Q4,Z<|aF x,Z<|aF a,QX,z,O,Ra,P]) ?_ (je _ (λ(n:Nat)=>ab ((0+(n:Int))/x,(0+(n:Int))%x)) _ (λn l=>?_) (by rw[hb];lia))).trans ?_
 ·simp -implicitDefEqProofs [mk,<-c,h]
 ·have i:x<1073741824:=⋯
  exact⟨[Z (aF<|0+(n:Int)),Z<|aF x],_,[Z (aF<|0+(n:Int)),Z<|aF x],rfl,rfl,by simp -implicitDefEqProofs [xk,d,i,ab],rfl⟩
 ·show Z (aj.lst _,_)=Z (aj.lst<|(kF x r.toNat).map ab,_);unfold kF;rw[gs];rfl
def GW(u:Nat){c:aj}{E:List (Int×Int)}{z:Option aj}(j:dX (r+200) c)(R:u<E.length)(al:E.length<=100)(Qj:∀m∈E,iT m):
  ∃T d o,ek (bJ 6) nG (fN 0 u) [Z c,QT,Q4,U,M,Z<|a5 E,z,O,Ra,P]=Z (.bp,[Z T,QT,Q4,U,M,Z<|a5 d,o,O,Ra,P])/\dX r T/\d≠[]/\d.length<=E.length/\∀m∈d,iT m:=by
 let⟨@QE,p,⟨D,b,@q,rfl,Qz,g,s⟩⟩:=sQ (QL:=bJ 6) (e:=nG) (y:=fN 0 u) (λa A=>∃c b z,A=[Z c,QT,Q4,U,M,Z<|a5 b,z,O,Ra,P]/\dX (r+200-a) c/\b.length+a=E.length/\∀m∈b,iT m) (A:=[Z c,QT,Q4,U,M,Z<|a5 E,z,O,Ra,P]) ⟨c,E,z,rfl,j,rfl,Qj⟩
  (λa f A t v=>by
   let⟨c,b,@z,rfl,i,QZ,w⟩:=v;have S:a<u:=by
    have:=(e9.mp t).1
    rwa [fN,bq,hb]at this
   let⟨x,@l,B,C,F,Qm⟩:=hW (r:=r+200-(a+1)) (k:=(b.length:Int)) (i.mono ⋯) ⋯ ⋯;obtain⟨m,h⟩:∃m,b[x.toNat]?=Z m:=⟨b[x.toNat]'⋯,by simp⟩;let⟨@G,rfl⟩:=i.lst;let⟨@n,rfl⟩:=Qm.lst;refine⟨[Z (.lst G),QT,Q4,U,M,Z<|a5 b,Z<|.im f,O,Ra,P],.bp,[Z (.lst n),QT,Q4,U,M,Z<|a5<|b.eraseIdx x.toNat,Z<|.im f,O,Ra,P],rfl,?_,.inl rfl,.lst n,b.eraseIdx x.toNat,_,rfl,Qm,?_,λm h=>w m<|List.mem_of_mem_eraseIdx h⟩
   ·have I:(b.map ab)[x.toNat]?=Z (ab m):=by rw[eG,h];rfl
    have J:(0<=x/\x<((b.map ab).length:Int)):=⟨C,by rw[bq];exact F⟩;have L:=z_ ab b x.toNat;have N:pD (a5 b) [aF x]=Z (.im<|ab m,a5<|b.eraseIdx x.toNat):=by
     show (if 0<=x/\x<((b.map ab).length:Int) then _ else Y)=_;rw[aE J,I,L];rfl
    simp -implicitDefEqProofs [nG,iA,B,N,-pD]
   ·rw[List.length_eraseIdx,aE ⋯];lia)
 have Q:(fN 0 u).length=u:=by rw[fN,bq,hb]
 rw[Q]at Qz g;exact⟨D,b,q,p,Qz.mono ⋯,λH=>by rw[H]at g;simp at g;lia,⋯,s⟩
def nR(m:Int×Int):Bool:=(decide (m.1%2*(m.2%3%2)=0))
def M1(d:E.length<=1000):
  bY 5 (cO 1 [] (cR<|ai 5) (bJ 0) G.tW G.xR) [b,QT,Q4,U,M,Z<|a5 E,z,O,Ra,P]=Z (.bp,[b,QT,Q4,U,M,Z<|a5<|E.filter nR,z,O,Ra,P]):=by
 refine (vg (v:=a5 (E.filter nR)) (Qn:=[b,QT,Q4,U,M,Z<|a5 E,z,O,Ra,P]) ?_ (show 5<10 by decide)).trans rfl;refine (mh (y:=E.map ab) (o:=Z (5,a5 E)) (Qn:=[b,QT,Q4,U,M,Z .dZ,z,O,Ra,P]) rfl (k8 _ nR ab _ _ (λm e=>?_) (by rw[jI];lia))).trans rfl;have a:=xO m;have c:=k9 m;have mk:gH (m.1%2) (m.2%3%2)=X:=by
  have:=jZ (m.2%3) (show (2:Int)≠0 by decide);have:=kY (m.2%3) (show (0:Int)<2 by decide);exact mN ⋯ ⋯
 refine⟨[Z (.im<|ab m)],[Z (.im<|ab m)],rfl,?_,λ_=>rfl,λ_=>⟨[Z (.im<|ab m)],rfl,rfl⟩⟩;simp -implicitDefEqProofs [tW,ab,a,c,mk,nR];rfl
def PB(c:0<r):(0,0)∈kF x r:=by
 refine cJ.mpr ⟨0,eX.mpr c,?_⟩;show ((0:Int)/x,(0:Int)%x)=_;rw[Int.zero_ediv,Int.zero_emod]
def mid:bR:=((dy (fK (bt<|az dS (ai 2)<|ag<|aB<|.int 1)<|bt<|az dS (ai 2)<|ag<|aB<|.int 2) (gD (iz<|ar (ag<|bP 2 G.eA<|ar (ai 0)<|ar (ag<|az eE (ag<|aB<|.int 1)<|ag<|az l5 (ag<|b2 dg<|ar (ai 5) aD)<|ag<|aB<|.int 2) aD) aD) (bJ 6) G.nG)<|dy (bt<|az dS (ai 2)<|ag<|aB<|.int 3) (bY 5<|cO 1 [] (cR<|ai 5) (bJ 0) G.tW G.xR)<|dy (bt<|az nF (ai 2)<|ag<|aB<|.int 3) (bY 5<|bP 2 G.o7<|ar (ai 0)<|ar (ai 1) aD) eo))
def DO(j:dX (r+1) c):∃(h:Int) (T:aj),m9 [b,Z c]=Z (aF h,[b,Z T])/\0<=h/\h<7/\dX r T:=by
 let⟨u,@l,a,g,i,Qm⟩:=hW (r:=r) (k:=4) j ⋯ ⋯;let⟨@m,rfl⟩:=j.lst;let⟨@d,rfl⟩:=Qm.lst;have e:u=0\/u=1\/u=2\/u=3:=⋯
 obtain⟨h,Qj,Ri,f⟩:∃h:Int,dx [V.int 0,.int 0,.int 6,.int 3] u=Z (.int h)/\0<=h/\h<7:=by
  rcases e with rfl|rfl|rfl|rfl
  ·exact⟨0,rfl,by decide,by decide⟩
  ·exact⟨0,rfl,by decide,by decide⟩
  ·exact⟨6,rfl,by decide,by decide⟩
  ·exact⟨3,rfl,by decide,by decide⟩
 exact⟨h,.lst d,by simp -implicitDefEqProofs [m9,a,Qj],Ri,f,Qm⟩
def Nc(j:dX (r+2) c):∃(h w:Int) (T:aj),hU (cO 1 [0] (iz<|ar (ag<|aB<|.int 2) aD) (bJ 0) dW G.m9) (ue 2<|hk (bJ 8)<|hk (bJ 9) lA) [Z c,QT,Q4,U,M,QX,z,O,Ra,P]=Z (.bp,[Z T,QT,Q4,U,M,QX,z,O,Z<|aF h,Z<|aF w])/\(0<=h/\h<7/\0<=w/\w<7)/\dX r T:=by
 let⟨h,@l,a,Ri,d,Qm⟩:=DO (r:=r+1) (b:=Z (aF 0)) j;let⟨w,@D,e,f,g,Qz⟩:=DO (r:=r) (b:=Z (aF 1)) Qm;refine⟨h,w,D,?_,⟨Ri,d,f,g⟩,Qz⟩;have ee:gu 1 (bJ 0) dW m9 [.int 0,.int 1] [] [Z c]=Z ([.int h,.int w],[Z D]):=by
  show (m9 [Z (aF 0),Z c]).bind _=_;rw[a];show (m9 [Z (aF 1),Z l]).bind _=_;rw[e];rfl
 have i:=mh (QJ:=[0]) (Rn:=iz (ar (ag<|aB<|.int 2) aD)) (A:=[Z c,QT,Q4,U,M,QX,z,O,Ra,P]) (Qn:=[Z c,QT,Q4,U,M,QX,z,O,Ra,P]) (o:=Y) (y:=[.int 0,.int 1]) rfl ee;unfold hU;rw[i];rfl
def Jh{a:List (Int×Int)}{h w:Int}(f:a.length<=1000):
  b2 kL (ar (ag<|cO 1 [8,9] (cR<|ai 7) (bJ 0) dW G.tA) aD) [b,QT,Q4,U,M,QX,z,Z<|aO a,Z<|aF h,Z<|aF w]=Z (aO<|a.map λm=>(m.1+h,m.2+w),[b,QT,Q4,U,M,QX,z,Z<|aO a,Z<|aF h,Z<|aF w]):=by
 have c:cO 1 [8,9] (cR<|ai 7) (bJ 0) dW G.tA [b,QT,Q4,U,M,QX,z,Z<|aO a,Z<|aF h,Z<|aF w]=Z (a5<|a.map λm=>(m.1+h,m.2+w),[b,QT,Q4,U,M,QX,z,Z<|aO a,Z<|aF h,Z<|aF w]):=by
  refine (mh (y:=a.map ab) (o:=Y) (Qn:=[b,QT,Q4,U,M,QX,z,Z<|aO a,Z<|aF h,Z<|aF w]) rfl (je _ (λm=>ab (m.1+h,m.2+w)) _ (λm g=>?_) ⋯)).trans ?_
  ·have d:=xO m;have e:=k9 m;exact⟨[Z (.im<|ab m),Z<|aF h,Z<|aF w],_,[Z (.im<|ab m),Z<|aF h,Z<|aF w],rfl,rfl,by simp -implicitDefEqProofs [tA,ab,d,e],rfl⟩
  ·show Z (aj.lst _,_)=Z (aj.lst<|(a.map λm=>(m.1+h,m.2+w)).map ab,_);rw[gs];rfl
 simp -implicitDefEqProofs only[b2,ar,ag,c,qW,rQ,BD,HN,L5,Gf,kL,jG]
end G
namespace L2
open Spec PyProof.Rows PySem.W
variable{Qk:Φ}{Qf:bA}{x:bc}
end L2
namespace L2
open Spec PyProof.Rows PySem.W
def yA:aj->aj
 |.im (.aQ f)=>.cN f
 |v=>v
@[simp] theorem PR(f:List V):yA (.im<|.aQ f)=.cN f:=rfl
@[simp] theorem P5(f:List V):yA (.im<|.tup f)=.im (.tup f):=rfl
end L2
namespace L2
section
variable{A Qn QR:a6}
variable{v:aj}
def jE{M:ay aj}(c:M A=Z (v,Qn)):ag M A=Z (.cm v,Qn):=by unfold ag;rw[c];rfl
variable{f:bI}
def nH{M:ay bI}{c:ay (List bI)}{y:List bI}(a:M A=Z (f,Qn))(b:c Qn=Z (y,QR)):ar M c A=Z (f::y,QR):=by unfold ar;rw[a];show (c Qn).map _=_;rw[b];rfl
def ng{QV:aj->aj->Option aj}{Rc Q8:ay bI}{I:bI}{QZ Q2:aj}(a:Rc A=Z (f,Qn))(b:Q8 Qn=Z (I,QR))(c:ep QR f=Z QZ)(d:ep QR I=Z Q2)(e:QV QZ Q2=Z v):az QV Rc Q8 A=Z (v,QR):=by
 unfold az;rw[a];show (Q8 Qn).bind _=_;rw[b];show (ep QR f).bind _=_;rw[c];show (ep QR I).bind _=_;rw[d];show (QV QZ Q2).map _=_;rw[e];rfl
variable{M:ay (List bI)}{r:Nat}{Q:List bI}{J G:List aj}
def OF{Qq:d2}{s:aj}(a:M A=Z (Q,Qn))(b:Q.length=r)(c:eW Q Qn=Z (J,QR))(d:Qq J=Z (s,G)):bP r Qq M A=Z (s,hZ Q G QR):=by
 unfold bP;rw[a];show (if Q.length=r then _ else _)=_;rw[aE b];show (eW Q Qn).bind _=_;rw[c];show (Qq J).map _=_;rw[d];rfl
def Fc{QV:List aj->Option aj}(a:M A=Z (Q,Qn))(b:gC Qn Q=Z J)(c:QV J=Z v):b2 QV M A=Z (v,Qn):=by
 unfold b2;rw[a];show (gC Qn Q).bind _=_;rw[b];show (QV J).map _=_;rw[c];rfl
variable{e:Bool}
def Mn{M:ay aj}(d:M A=Z (.im<|.ax e,Qn)):bt M A=Z (e,Qn):=by unfold bt;rw[d];rfl
def FO{M:ay Bool}(d:M A=Z (e,Qn)):gB M A=Z (!e,Qn):=by unfold gB;rw[d];rfl
def HU{M:ay bI}(d:M A=Z (f,Qn))(a:ep Qn f=Z v)(b:nN v=Z e):gU M A=Z (e,Qn):=by
 unfold gU;rw[d];show (ep Qn f).bind _=_;rw[a];show (nN v).map _=_;rw[b];rfl
def wg{M:ay aj}{c:fa}(d:M A=Z (v,Qn))(a:c v Qn=Z QR):hU M c A=Z (.bp,QR):=by unfold hU;rw[d];show (c v Qn).map _=_;rw[a];rfl
def tE{M:ay aj}(d:M A=Z (v,Qn)):j6 M A=Z (.bp,Qn):=by unfold j6;rw[d];rfl
variable{Rg:a6}{a:Nat}
def yl{ty:aj->Bool}{cv:aj->List aj->Option (aj×aj)}{b m s c:aj}(d:A[a]?=Z (Z b))(e:ty b=X)(f:M A=Z (Q,Qn))(g:eW Q Qn=Z (J,QR))(h:QR[a]?=Z (Z m))(i:cv m J=Z (s,c))(n:QR.set a (Z c)=Rg):hA ty a cv M A=Z (s,Rg):=by
 subst n;unfold hA;rw[d];show (if ty b=X then _ else _)=_;rw[aE e,f];show (eW Q Qn).bind _=_;rw[g];show (match QR[a]? with|some (Z m)=>_|_=>Y)=_;rw[h];show (cv m J).map _=_;rw[i];rfl
def sb(a:M A=Z (Q,Qn))(b:eW Q Qn=Z (J,QR))(c:J.length<=100000)(n:tX J=v):c7 M A=Z (v,QR):=by
 unfold c7;rw[a];show (eW Q Qn).bind _=_;rw[b];show (if _ then _ else _)=_;rw[aE c,n]
def FK(a:M A=Z (Q,Qn))(b:eW Q Qn=Z (J,QR))(c:J.length<=100000)(n:rH J=v):e_ M A=Z (v,QR):=by
 unfold e_;rw[a];show (eW Q Qn).bind _=_;rw[b];show (if _ then _ else _)=_;rw[aE c,n]
def uM{f:List V}{v:V}(c:f.length<100000):lg (.lst f) [.im v]=Z (.im .aT,.lst<|f++[v]):=aE c
def rN(a i:Int):dS (.im<|.int a) (.im<|.int i)=Z (.im<|.ax<|decide (a=i)):=by
 show Z (aj.im<|.ax<|a==i)=_;by_cases c:a=i<;>simp[c]
def Kz(a i:Int):es (.im<|.int a) (.im<|.int i)=Z (.im<|.ax<|!decide (a=i)):=by
 show Z (aj.im<|.ax<|!(a==i))=_;by_cases c:a=i<;>simp[c]
variable{s:Option (mI×a6)}{e:bR}{m:ay Bool}
theorem oj{g:bR}(d:m A=Z (X,Qn))(c:g Qn=s):dy m g e A=s:=(yz d).trans c
theorem fU{g:bR}(d:m A=Z (aq,Qn))(c:e Qn=s):dy m g e A=s:=(Dy d).trans c
theorem cq{M c:bR}(d:M A=Z (.bp,Qn))(n:c Qn=s):bE M c A=s:=(gF d).trans n
theorem jH{M:ay aj}(d:M A=Z (v,Qn))(c:a<Qn.length)(n:Qn.set a (Z v)=QR):bY a M A=Z (.bp,QR):=(vg d c).trans (by rw[n])
variable{y:List V}{QL:fa}{o:Option (Nat×aj)}
theorem o9{M:jy}{aQ:mI}(d:M A=Z ((y,o),Qn))(c:ek QL e y Qn=Z (aQ,QR))(n:kX o QR=Rg):gD M QL e A=Z (aQ,Rg):=(sz d c).trans (by rw[n])
theorem iW{own:Nat}{QJ:List Nat}{Rn:jy}{d:ay aj}{a:a6}{J:List V}(l:Rn A=Z ((y,o),Qn))(D:gu own QL m d y [] (js QJ Qn)=Z (J,a))(n:kX o (h3 QJ a Qn)=Rg):cO own QJ Rn QL m d A=Z (.lst J,Rg):=(mh l D).trans (by rw[n])
variable{s:Option (Bool×a6)}{e g:ay Bool}
def h7(d:g A=Z (aq,Qn))(c:e Qn=s):fK g e A=s:=by unfold fK;rw[d];exact c
def ke(d:g A=Z (X,Qn))(c:e Qn=s):e0 g e A=s:=by unfold e0;rw[d];exact c
def s6(d:g A=Z (aq,Qn)):e0 g e A=Z (aq,Qn):=by unfold e0;rw[d];rfl
def Fn{M:ay Bool}{e:Bool}(d:M A=Z (e,Qn)):gW M A=Z (.im<|.ax e,Qn):=by unfold gW;rw[d];rfl
variable{s:aj}
def d7{Qq:d2}(a:M A=Z (Q,Qn))(b:Q.length=r)(c:eW Q Qn=Z (J,QR))(d:Qq J=Z (s,G))(n:hZ Q G QR=Rg):bP r Qq M A=Z (s,Rg):=by rw[<-n];exact OF a b c d
def ov{M:ay Bool}(d:M A=Z (X,Qn)):gB M A=Z (aq,Qn):=FO d
def NB{f I:List V}(a:M A=Z (Q,Qn))(b:gC Qn Q=Z [.im (.tup f),.im<|.tup I]):q8 M A=Z ((gg f I,Y),Qn):=by
 unfold q8;rw[a];show (gC Qn Q).bind _=_;rw[b];rfl
def Fi{M:ay bI}{t c:ay (Option Int)}{R S:Option Int}{a:aj}(b:M A=Z (f,Qn))(d:t Qn=Z (R,QR))(e:c QR=Z (S,Rg))(g:ep Rg f=Z v)(h:oo v R S=Z a):lD M t c A=Z (a,Rg):=by
 unfold lD;rw[b];show (t Qn).bind _=_;rw[d];show (c QR).bind _=_;rw[e];show (ep Rg f).bind _=_;rw[g];show (oo v R S).map _=_;rw[h];rfl
def hI{k:Nat}{QK:List Nat}{M:bR}(a:J.length=r)(d:M (J.map Z++List.replicate (k-r) Y)=Z (.et s,A))(b:ia QK J A 0=G):d6 r k QK M J=Z (s,G):=tM A a d b
end
section
variable{A Qn:a6}
variable{M:ay aj}{v:aj}
def bF(c:M A=Z (v,A)):ag M A=Z (.cm v,A):=jE c
variable{f:bI}
def cA{M:ay bI}{c:ay (List bI)}{y:List bI}(a:M A=Z (f,A))(b:c A=Z (y,A)):ar M c A=Z (f::y,A):=nH a b
variable{QV:aj->aj->Option aj}{Rc Q8:ay bI}{I:bI}{QZ Q2:aj}
def dm(a:Rc A=Z (f,A))(b:Q8 A=Z (I,A))(c:ep A f=Z QZ)(d:ep A I=Z Q2)(e:QV QZ Q2=Z v):az QV Rc Q8 A=Z (v,A):=ng a b c d e
def eM(a:QV QZ Q2=Z v)(b:Rc A=Z (f,A):=by rfl)(c:Q8 A=Z (I,A):=by rfl)(d:ep A f=Z QZ:=by rfl)(e:ep A I=Z Q2:=by rfl):az QV Rc Q8 A=Z (v,A):=ng b c d e a
def d3{QV:List aj->Option aj}{M:ay (List bI)}{Q:List bI}{J:List aj}(a:M A=Z (Q,A))(b:gC A Q=Z J)(c:QV J=Z v):b2 QV M A=Z (v,A):=Fc a b c
variable{e:Bool}
def dn(d:M A=Z (.im<|.ax e,A)):bt M A=Z (e,A):=Mn d
def oP{M:ay bI}(d:M A=Z (f,A))(a:ep A f=Z v)(b:nN v=Z e):gU M A=Z (e,A):=HU d a b
def k0{a:Nat}(d:M A=Z (v,A))(c:a<A.length)(n:A.set a (Z v)=Qn):bY a M A=Z (.bp,Qn):=jH d c n
end
end L2
namespace G
open L2
def fY{r k:Nat}(c:Nat.ble (r+1) k=X):r<k:=mn c
abbrev aL:=Int×Int
variable{e:aL}{E Qs:List aL}
inductive dI (E:List aL) (h:aL):aL->Prop
 | self:dI E h h
 | step {g e:aL}:dI E h g->e∈E->e∈c0 g->dI E h e
def jB(E:List aL):Prop:=(E.Pairwise λg e=>bC (ab g) (ab e)=X)
def Hp(ak:Qs.Nodup)(a:Qs.length<=1000):∃E:List aL,hB (Qs.map ab)=Z (a5 E)/\E.Perm Qs/\jB E:=by
 have o:=Bv ak a;let⟨E,l,D⟩:=GY (jD<|Qs.map ab);refine⟨E,?_,l,?_⟩
 ·unfold hB;rw[aE (qQ.mpr o),D]
 ·have:=tb o.ord.ak o.ord.iQ;rw[D]at this;exact kx.mp this
structure l3(E:List aL)(e:aL)(Qs QS:List aL)(x:aL)(R:List aL):Prop where
 ak:Qs.Nodup
 qa:e∈Qs
 con:∀m∈Qs,dI E e m
 dO:Qs.length+i3 E Qs<=E.length+1
 wl:QS.length<=Qs.length
 eS:∀m∈QS,m∈Qs
 cl:∀m∈Qs,m∉QS->∀v∈c0 m,v∈E->v∈Qs\/(m=x/\v∈R)
abbrev gT(b:Option aj)(E:List aL)(e:aL)(Qs QS:List aL)(QX:Option aj):a6:=[b,Z<|.im<|ab e,Z<|.aJ<|fw<|cv E,Z<|.aJ<|cv Qs,Z<|a5 QS,QX]
def F3{m x:aL}{QS R:List aL}{b:Option aj}(w:E.length<=500)(k:x∈Qs)(r:m∈c0 x)(Qf:l3 E e Qs QS x (m::R)):
  ∃n p,mi (gT b E e Qs QS<|Z<|.im<|ab m)=Z (.bp,gT b E e n p<|Z<|.im<|ab m)/\l3 E e n p x R/\x∈n/\2*i3 E n+p.length<=2*i3 E Qs+QS.length:=by
 have g:(dH (fw<|cv E)<|c8 m).isSome=decide (m∈E):=NI E m;have o:(dH (cv Qs)<|c8 m).isSome=decide (m∈Qs):=Pr Qs m;have q:=mL m;have y:=Qf.dO;have z:=Qf.wl;by_cases l:m∈E
 ·by_cases D:m∈Qs
  ·refine⟨Qs,QS,?_,⟨Qf.ak,Qf.qa,Qf.con,Qf.dO,Qf.wl,Qf.eS,λf a h v j i=>?_⟩,k,bf _⟩
   ·rw[dk l]at g;rw[dk D]at o;simp -implicitDefEqProofs [mi,o5,q,g,o]
   ·rcases Qf.cl f a h v j i with c|⟨c,T⟩
    ·exact .inl c
    ·rcases cj.mp T with rfl|T
     ·exact .inl D
     ·exact .inr ⟨c,T⟩
  ·rw[dk l]at g;rw[cW D]at o;have L:=Lr l D;refine⟨Qs++[m],QS++[m],?_,⟨?_,dQ _ Qf.qa,λf a=>?_,?_,by simp;exact Qf.wl,λf a=>?_,λf a h v j i=>?_⟩,dQ _ k,by simp;lia⟩
   ·have s:=N8 D;have aZ:(cv Qs).length<100000:=by unfold cv;rw[bq];lia
    have bh:QS.length<100000:=⋯
    simp -implicitDefEqProofs [mi,o5,q,g,o,s,aZ,bh,iA]
   ·exact dp.mpr ⟨Qf.ak,fi _ _,λf a I t d=>D (by rw[cV.mp t]at d;rw[<-d];exact a)⟩
   ·rcases dK.mp a with a|a
    ·exact Qf.con f a
    ·rw[cV.mp a];exact .step (Qf.con x k) l r
   ·rw[dF,gq];lia
   ·rcases dK.mp a with a|a
    ·exact dQ _ (Qf.eS f a)
    ·exact dP _ a
   ·have u:f∈Qs:=by
     rcases dK.mp a with a|a
     ·exact a
     ·exact absurd (dP _ a) h
    rcases Qf.cl f u (λH=>h<|dQ _ H) v j i with c|⟨c,T⟩
    ·exact .inl (dQ _ c)
    ·rcases cj.mp T with rfl|T
     ·exact .inl (dP _<|.head _)
     ·exact .inr ⟨c,T⟩
 ·refine⟨Qs,QS,?_,⟨Qf.ak,Qf.qa,Qf.con,Qf.dO,Qf.wl,Qf.eS,λf a h v j i=>?_⟩,k,bf _⟩
  ·rw[cW l]at g;simp -implicitDefEqProofs [mi,o5,q,g]
  ·rcases Qf.cl f a h v j i with c|⟨c,T⟩
   ·exact .inl c
   ·rcases cj.mp T with rfl|T
    ·exact absurd i l
    ·exact .inr ⟨c,T⟩
theorem E3{E:List aL}{e x:aL}{b:Option aj}(d:E.length<=500):∀(R:List aL) {Qs QS:List aL} (QX:Option aj),x∈Qs->(∀m∈R,m∈c0 x)->l3 E e Qs QS x R->
  ∃a c h,ek (bJ 5) mi (R.map ab) (gT b E e Qs QS QX)=Z (.bp,gT b E e a c h)/\l3 E e a c x []/\2*i3 E a+c.length<=2*i3 E Qs+QS.length
 |[],Qs,QS,QX,_,_,Qf=>⟨Qs,QS,QX,rfl,Qf,bf _⟩
 |m::R,Qs,QS,QX,i,g,Qf=>by
  let⟨QN,t,j,k,l,n⟩:=F3 (m:=m) (b:=b) d i (g m<|.head _) Qf;let⟨QW,o,Q4,p,q,r⟩:=E3 d R (Z<|.im<|ab m) l (λf s=>g f<|.tail _ s) k;refine⟨QW,o,Q4,?_,q,eU r n⟩;rw[cH,ek];dsimp only;rw[show bJ 5 (.im<|ab m) (gT b E e Qs QS QX)=Z (gT b E e Qs QS<|Z<|.im<|ab m) from rfl];show (mi _).bind _=_;rw[j];exact p
def za(f:aj)(E:List aL):Prop:=(f=a5 E\/f=aO E)
def vH{f:aj}(t:za f E)(C:E.length<=500):∃i:List aL,lh [f,.im<|ab e]=Z (aO i,[f,.im<|ab e])/\jB i/\(∀k,k∈i↔dI E e k)/\i.length<=E.length+1/\i.Nodup:=by
 have u:∀m∈E,∃Qn QR Rg,bJ 0 (.im<|ab m) (List.replicate 1 Y++js [] [Z f,Z<|.im<|ab e,Y,Y,Y,Y])=Z Qn/\dW Qn=Z (X,QR)/\r7 QR=Z (.im<|.tup [ab m,.ax X],Rg)/\Rg.drop 1=[]:=λm W=>⟨[Z (.im<|ab m)],_,[Z (.im<|ab m)],rfl,rfl,rfl,rfl⟩;have D:cO 1 [] (cR<|ai 0) (bJ 0) dW G.r7 [Z f,Z<|.im<|ab e,Y,Y,Y,Y]=Z (.lst<|E.map λm=>.tup [ab m,.ax X],[Z f,Z<|.im<|ab e,Y,Y,Y,Y]):=by
  rcases t with rfl|rfl
  ·exact (mh (y:=E.map ab) (o:=Z (0,a5 E)) (Qn:=[Z .dZ,Z<|.im<|ab e,Y,Y,Y,Y]) rfl (je _ (λm=>.tup [ab m,.ax X]) _ u ⋯)).trans rfl
  ·exact (mh (y:=E.map ab) (o:=Y) (Qn:=[Z (aO E),Z<|.im<|ab e,Y,Y,Y,Y]) rfl (je _ (λm=>.tup [ab m,.ax X]) _ u ⋯)).trans rfl
 have n:((cv E).all λq=>V.keys 7 q.1)=X/\(cv E).length<=1000:=⟨EU E,by unfold cv;rw[bq];lia⟩;have F:bY 2 (b2 jv<|ar (ag<|cO 1 [] (cR<|ai 0) (bJ 0) dW G.r7) aD) [Z f,Z<|.im<|ab e,Y,Y,Y,Y]=Z (.bp,[Z f,Z<|.im<|ab e,Z<|.aJ<|fw<|cv E,Y,Y,Y]):=by
  refine k0 (v:=.aJ (fw<|cv E)) (d3 (cA (bF D) rfl) rfl ?_) (fY rfl) rfl;simp -implicitDefEqProofs only[qW,rQ,jv,D2,n.1,n.2,and_self,gR]
 have w:l3 E e [e] [e] e []:=⟨fi _ _,.head _,λm a=>by rw[cV.mp a];exact .self,by
  have:E.countP (λm=>decide (m∉[e]))<=E.length:=List.countP_le_length;show 1+i3 E [e]<=E.length+1;unfold i3;lia,bf _,λm a=>a,λm a l=>absurd a l⟩
 let⟨QE,I,⟨Qs,x,QX,rfl,Qf⟩⟩:=qF (m:=vq) (e:=yr) (λk A=>∃Qs QS x QX,A=gT (Z f) E e Qs QS QX/\l3 E e Qs QS x []/\2*i3 E Qs+QS.length<=k) (λA=>∃Qs x QX,A=gT (Z f) E e Qs [] QX/\l3 E e Qs [] x [])
  (λk A J=>by
   let⟨Qs,QS,L,QX,rfl,Qf,n⟩:=J;by_cases z:QS=[]
   ·subst z;exact⟨aq,gT (Z f) E e Qs [] QX,rfl,(λH=>by cases H),λ_=>⟨Qs,L,QX,rfl,Qf⟩⟩
   ·let⟨h,x,rfl⟩:=JR z;have p:vq (gT (Z f) E e Qs (h++[x]) QX)=Z (X,gT (Z f) E e Qs (h++[x]) QX):=by
     have M:=n2 (h++[x]);have l:dB ((h++[x]).map ab) []=aq:=by
      cases h with
      |nil=>rfl
      |cons g s=>rfl
     have N:es (a5<|h++[x]) (.lst [])=Z (.im<|.ax X):=by
      simp only[es,M,l];rfl
     exact dn (eM N)
    refine⟨X,_,p,λ_=>?_,(λH=>by cases H)⟩;have O:l3 E e Qs h x (c0 x):=⟨Qf.ak,Qf.qa,Qf.con,Qf.dO,by have:=Qf.wl;simp at this;lia,λm a=>Qf.eS m<|dQ _ a,λm a l v j P=>by
     by_cases B:m=x
     ·subst B;exact .inr ⟨rfl,j⟩
     ·rcases Qf.cl m a (λH=>(dK.mp H).elim l λH=>B<|cV.mp H) v j P with c|⟨_,c⟩
      ·exact .inl c
      ·cases c⟩
    let⟨QW,r,Q4,Q,R,am⟩:=E3 (b:=Z f) C (c0 x) QX (Qf.eS x<|dP _<|.head _) (λm a=>a) O;refine⟨.bp,gT (Z f) E e QW r Q4,?_,.inl rfl,2*i3 E QW+r.length,?_,QW,r,x,Q4,rfl,R,bf _⟩
    ·unfold yr;refine o9 (o:=Y) (y:=(c0 x).map ab) (Qn:=gT (Z f) E e Qs h QX) ?_ Q rfl;have S:((h++[x]).map ab).getLast?=Z (ab x):=by simp
     have j:((h++[x]).map ab).dropLast=h.map ab:=by simp
     have d:=rI x;simp -implicitDefEqProofs only[cR,ag,bP,ar,hA,List.getElem?_cons_zero,List.getElem?_cons_succ,iA,gR,BD,qW,H3,tY,S,j,rQ,Ki,er,jI,d];simp -implicitDefEqProofs [d,jG]
    ·simp at n;lia) 1000000 _ (gT (Z f) E e [e] [e] Y) ⟨[e],[e],e,Y,rfl,w,bf _⟩ (by
    have:=w.dO;simp;simp at this;lia)
 let⟨i,U,T,up⟩:=Hp Qf.ak (by have:=Qf.dO;lia);refine⟨i,?_,up,λk=>T.mem_iff.trans ⟨Qf.con k,λc=>?_⟩,by rw[T.length_eq];have:=Qf.dO;lia,T.nodup_iff.mpr Qf.ak⟩
 ·have Qj:kc [.aJ (cv Qs)]=Z (a5 i):=by
   show hB ((cv Qs).map λq=>.tup q.1)=Z (a5 i);rw[AW];exact U
  unfold lh DJ;exact hI (A:=gT (Z f) E e Qs [] QX) rfl (cq F<|cq (Qn:=[Z f,Z<|.im<|ab e,Z<|.aJ<|fw<|cv E,Z<|.aJ<|cv [e],Y,Y]) rfl<|cq (Qn:=gT (Z f) E e [e] [e] Y) rfl<|cq I<|jc<|d3 (cA (bF<|d3 (cA rfl rfl) rfl Qj) rfl) rfl rfl) (by rcases t with rfl|rfl<;>rfl)
 ·induction c with
  |self=>exact Qf.qa
  |step _ p j al=>
   rcases Qf.cl _ al (λH=>nomatch H) _ j p with c|⟨_,c⟩
   ·exact c
   ·cases c
end G
namespace L2
open Spec PyProof.Rows
variable{Qf:List V->ao->Prop}{x:bc}{Q0 r a k:Nat}{o:a0}{g f:ao}{Qs:List (List V)}{C:Bool->ah->Prop}{n:List V}{h:ah}{Qe:Array (Int×ae)}{QH:Array (Option Nat)}{QG:Type}{Qj:List Int}{c:aV}{b:Bool}{w:aP}{y:Array Nat}
abbrev jj(y:Array Nat):Prop:=y.toList.Pairwise (· < ·)
def sa(s:jj y){a n:Nat}{v:Nat}(c:a<n)(e:n<y.size):y.getD a v<y.getD n v:=by
 have S:a<y.size:=nA c e;have d:∀k (b:k<y.size),y.getD k v=y.toList[k]'⇑b:=λk b=>by simp[Array.getD,b]
 rw[d a S,d n e];exact me.mp s a n _ _ c
theorem vZ(y:Array Nat)(s:jj y)(i:Nat):∀(fuel R S:Nat),S-R<=fuel->R<=S->S<=y.size->(∀a,a<R->y.getD a i<i)->(∀a,S<=a->a<y.size->i<=y.getD a i)->
  (aP.below.go y i fuel R S<=y.size/\(∀a,a<aP.below.go y i fuel R S->y.getD a i<i)/\∀a,aP.below.go y i fuel R S<=a->a<y.size->i<=y.getD a i)
 |0,R,S,l,D,f,g,e=>by
  have d:R=S:=⋯
  subst d;exact⟨f,g,e⟩
 |fuel+1,R,S,l,D,f,g,e=>by
  unfold aP.below.go;by_cases c:R<S
  ·rw[aE c];dsimp only;by_cases b:y.getD ((R+S)/2) i<i
   ·rw[aE b];refine vZ y s i fuel _ _ ⋯ ⋯ f (λa h=>?_) e;rcases e5 a ((R+S)/2) with T|T
    ·exact nA (sa s T ⋯) b
    ·have:a=(R+S)/2:=⋯
     rw[this];exact b
   ·rw[aI b];refine vZ y s i fuel _ _ ⋯ ⋯ ⋯ g (λa h j=>?_);rcases e5 ((R+S)/2) a with T|T
    ·exact my (uj (tP.mp b)<|sa s T j)
    ·have:a=(R+S)/2:=⋯
     rw[this];exact tP.mp b
  ·rw[aI c];have d:R=S:=⋯
   subst d;exact⟨f,g,e⟩
def AJ(s:jj y)(i:Nat):aP.below y i<=y.size/\(∀a,a<aP.below y i->y.getD a i<i)/\∀a,aP.below y i<=a->a<y.size->i<=y.getD a i:=
 vZ y s i y.size 0 y.size ⋯ ⋯ ⋯ (λa c=>absurd c<|rz _) λa c T=>absurd T ⋯
def uO(s:jj y){a i:Nat}(c:y[a]?=Z i):aP.below y i=a:=by
 let@⟨g,e,m⟩:=AJ s i;let⟨@S,d⟩:=nX.mp c;have b:y.getD a i=i:=by simp[Array.getD,S,d]
 rcases m7 (aP.below y i) a with l|l|l
 ·have D:=m _ (bf _) (nA l S);have f:=sa s (v:=i) l S;omega
 ·exact l
 ·have:=e a l;omega
def JS(s:jj y){i:Nat}(c:¬ (y[aP.below y i]?=Z i)):jj (aP.insertAt y (aP.below y i) i):=by
 let@⟨g,e,m⟩:=AJ s i;unfold jj;rw[Bx];refine Fs.mpr ⟨D3 (pM _ _) s,gE.mpr ⟨λI a=>?_,D3 (tG _ _) s⟩,λf o I a=>?_⟩
 ·let⟨n,b,rfl⟩:=k5.mp a;rw[ot];have Qj:aP.below y i+n<y.size:=by simp at b;lia
  have l:=m (aP.below y i+n) (lR _ _) Qj;have d:y.getD (aP.below y i+n) i=y.toList[aP.below y i+n]:=by simp[Array.getD,Qj]
  rw[d]at l;refine Nat.lt_of_le_of_ne l λh=>?_;rcases yL n with h0|h0
  ·subst h0;apply c;rw[nX];exact⟨⋯,by simpa using h.symm⟩
  ·have D:=sa s (v:=i) (C5 (n:=aP.below y i) h0) Qj;have p:=m (aP.below y i) (bf _) ⋯;rw[d]at D;exact absurd h (c2<|uj p D)
 ·let⟨n,b,rfl⟩:=k5.mp o;rw[sd];have q:n<aP.below y i:=by simp at b;lia
  have Qj:n<y.size:=⋯
  have l:=e n q;have d:y.getD n i=y.toList[n]:=by simp[Array.getD,Qj]
  rw[d]at l;rcases cj.mp a with rfl|a
  ·exact l
  ·let⟨k,t,rfl⟩:=k5.mp a;rw[ot];have j:aP.below y i+k<y.size:=by simp at t;lia
   have D:=m (aP.below y i+k) (lR _ _) j;have u:y.getD (aP.below y i+k) i=y.toList[aP.below y i+k]:=by simp[Array.getD,j]
   rw[u]at D;exact eZ l D
structure jO(w:aP)(led:Bool):Prop where
 rise:jj w.place
 om:w.dummies=#[]
 led:w.led=led
def jO.Gi(c:jO w b)(e:Bool):jO {w with plain:=e} b:=⟨c.rise,c.om,c.led⟩
def yI(i:Nat):aP.has #[] i=aq:=rfl
def Ou(b:w.dummies=#[])(i:Nat):(∃a,w.slot i=.live a)\/(w.slot i=.empty/\¬ (w.place[aP.below w.place i]?=Z i)):=by
 unfold aP.slot;dsimp only;by_cases c:(w.place[aP.below w.place i]? == Z i)=X
 ·rw[aE c];exact .inl ⟨_,rfl⟩
 ·rw[aI c,b,yI];exact .inr ⟨rfl,λd=>c (by rw[d];exact kA _)⟩
def jO.put(c:jO w b){i:Nat}(a:¬ (w.place[aP.below w.place i]?=Z i)):jO (w.put i).1 b:=by
 refine⟨JS c.rise a,?_,c.led⟩;show (if aP.has w.dummies i=X then _ else w.dummies)=#[];rw[c.om,yI];rfl
def Nu{j m n:Nat}{p:Bool}{Qj:Array Int}{o:Array Nat}(d:aP.laid j m n b p Qj=Z (w,o)):jO w b:=by
 unfold aP.laid at d;cases c:aP.layClean j Qj with
 |none=>rw[c]at d;cases d
 |some QH=>
  rw[c]at d;cases d;refine⟨?_,rfl,rfl⟩;show (List.map (λf:Nat×Nat=>f.1)<|List.filterMap (λi=>Option.map (λf=>(i,f))<|QH.getD i Y)<|range<|j+1).Pairwise (· < ·);rw[List.map_filterMap];refine Lk _ (R:=(· < ·)) (λg e q f a I h=>?_) uK;cases k:QH.getD g Y with
  |none=>rw[k]at a;cases a
  |some L=>
   cases l:QH.getD e Y with
   |none=>rw[l]at h;cases h
   |some u=>
    rw[k]at a;rw[l]at h;cases a;cases h;exact q
def oS(k:Nat)(q:aP.Probe):aP.Probe:=(
 if q.more>0 then {q with j:=q.j+1,more:=q.more-1} else
 {q with j:=(aP.leap k q.i q.perturb).1,more:=aP.runEnd k (aP.leap k q.i q.perturb).1-(aP.leap k q.i q.perturb).1,i:=(aP.leap k q.i q.perturb).1,perturb:=(aP.leap k q.i q.perturb).2})
def nW(k a pt:Nat):aP.Probe:=({j:=a,more:=aP.runEnd k a-a,i:=a,perturb:=pt,dummy:=Y})
def b6(k:Nat)(c:Int):Nat->aP.Probe
 |0=>nW k (aP.bits c%(k+1)) (aP.bits c)
 |n+1=>oS k (b6 k c n)
def cT(k:Nat)(c:Int):Nat->Nat×Nat
 |0=>(aP.bits c%(k+1),aP.bits c)
 |p+1=>aP.leap k (cT k c p).1 (cT k c p).2
theorem uZ(k:Nat)(c:Int):∀n,(b6 k c n).dummy=Y
 |0=>rfl
 |n+1=>by
  rw[b6,oS];split
  ·exact uZ k c n
  ·exact uZ k c n
def KI(k a:Nat):aP.runEnd k a-a<=9:=by
 unfold aP.runEnd;split<;>lia
theorem oq{k:Nat}{c:Int}{n a pt:Nat}(d:b6 k c n=nW k a pt):∀s,s<=aP.runEnd k a-a->b6 k c (n+s)={nW k a pt with j:=a+s,more:=aP.runEnd k a-a-s}
 |0,_=>d
 |s+1,b=>by
  show oS k (b6 k c<|n+s)=_;rw[oq d s ⋯,oS,aE (show aP.runEnd k a-a-s>0 by lia)];rfl
def NG{c:Int}{n pt:Nat}(d:b6 k c n=nW k a pt):b6 k c (n+(aP.runEnd k a-a)+1)=nW k (aP.leap k a pt).1 (aP.leap k a pt).2:=by
 show oS k (b6 k c<|n+(aP.runEnd k a-a))=_;rw[oq d _ (bf _),oS,aI (show ¬ (aP.runEnd k a-a-(aP.runEnd k a-a)>0) by lia)];rfl
def fk(k:Nat)(c:Int):Nat->Nat
 |0=>0
 |p+1=>fk k c p+(aP.runEnd k (cT k c p).1-(cT k c p).1)+1
theorem ou(k:Nat)(c:Int):∀p,b6 k c (fk k c p)=nW k (cT k c p).1 (cT k c p).2
 |0=>rfl
 |p+1=>NG (ou k c p)
theorem Cq(k:Nat)(c:Int):∀p,fk k c p<=10*p
 |0=>bf _
 |p+1=>by
  have:=Cq k c p;have:=KI k (cT k c p).1;show fk k c p+_+1<=_;lia
theorem AS(k:Nat)(c:Int):∀n,∃p s,n=fk k c p+s/\s<=aP.runEnd k (cT k c p).1-(cT k c p).1
 |0=>⟨0,0,rfl,fv _⟩
 |n+1=>by
  let⟨p,@s,d,a⟩:=AS k c n;by_cases H:s+1<=aP.runEnd k (cT k c p).1-(cT k c p).1
  ·exact⟨p,s+1,⋯,H⟩
  ·exact⟨p+1,0,by show _=fk k c p+_+1+0;lia,fv _⟩
def ie(k:Nat):Nat->Nat->Nat
 |0,f=>f
 |n+1,f=>(ie k n f*5+1)%(k+1)
theorem p2(k:Nat)(g f:Nat):∀e,ie k (g+e) f=ie k e (ie k g f)
 |0=>rfl
 |e+1=>by
  show (ie k (g+e) f*5+1)%(k+1)=_;rw[p2 k g f e];rfl
def um(k:Nat):Nat->Nat->Nat->Nat
 |0,_,a=>a
 |n+1,f,a=>um k n ((f*5+1)%(k+1)) (a ||| 2^f)
def OR(k n f:Nat):ie k n ((f*5+1)%(k+1))=ie k (n+1) f:=by
 rw[BG n 1,p2];rfl
theorem FA{k:Nat}:∀{r f I a:Nat},(um k r f a).testBit I=X->a.testBit I=X\/∃n,n<r/\ie k n f=I
 |0,_,_,_,c=>.inl c
 |r+1,f,I,a,c=>by
  rcases FA (r:=r) c with c|⟨n,l,D⟩
  ·rw[Nat.testBit_or,vl]at c;rcases c with c|c
   ·exact .inl c
   ·rw[Nat.testBit_two_pow,jF]at c;exact .inr ⟨0,xy _,c⟩
  ·exact .inr ⟨n+1,Nat.succ_lt_succ l,by rw[<-OR];exact D⟩
def wB(k:Nat):Bool:=(beq (um k (k+1) 0 0) (2^(k+1)-1)&&beq (ie k (k+1) 0) 0)
def LW(m:wB k=X){g f:Nat}(d:g<=k)(e:f<=k):∃n,n<=k/\ie k n g=f:=by
 rw[wB,cG]at m;have H:=Dx m.2;have all:∀I,I<=k->∃n,n<k+1/\ie k n 0=I:=λI h=>by
  have p:(um k (k+1) 0 0).testBit I=X:=by
   rw[Dx m.1,Nat.testBit_two_pow_sub_one];exact dk (DS h)
  rcases FA p with c|c
  ·rw[Nat.zero_testBit]at c;cases c
  ·exact c
 let⟨@a,l,rfl⟩:=all g d;let⟨@b,D,rfl⟩:=all f e;rcases e5 b a with c|c
 ·refine⟨b+(k+1-a),by omega,?_⟩;rw[<-p2,show a+(b+(k+1-a))=(k+1)+b by omega,p2,H]
 ·refine⟨b-a,by omega,?_⟩;rw[<-p2,show a+(b-a)=b by omega]
def hC(k:Nat):Prop:=(k=7\/k=31\/k=127\/k=511)
def hC.I9(M:hC k):wB k=X:=by
 rcases M with rfl|rfl|rfl|rfl<;>decide +kernel
def K0(c:Int):aP.bits c<2^64:=by
 unfold aP.bits;have l:=jZ c (show (2^64:Int)≠0 by decide);have D:=kY c (show (0:Int)<2^64 by decide);lia
theorem yY(k:Nat)(c:Int):∀p,(cT k c p).2=aP.bits c/32^p
 |0=>by rw[Nat.pow_zero,Nat.div_one];rfl
 |p+1=>by
  show (cT k c p).2/32=_;rw[yY k c p,Nat.div_div_eq_div_mul];rfl
theorem uY(k:Nat)(c:Int):∀p,(cT k c p).1<=k
 |0=>qz (z0 _<|xy _)
 |p+1=>qz (z0 _<|xy _)
theorem Dj(k:Nat)(c:Int):∀n,cT k c (13+n)=(ie k n (cT k c 13).1,0)
 |0=>by
  have d:(cT k c 13).2=0:=by
   rw[yY];exact Nat.div_eq_of_lt (nA (K0 c) ∅)
  show cT k c 13=((cT k c 13).1,0);rw[<-d]
 |n+1=>by
  show aP.leap k (cT k c<|13+n).1 (cT k c<|13+n).2=_;rw[Dj k c n];show ((ie k n (cT k c 13).1*5+1+0/32)%(k+1),0/32)=_;rw[Nat.zero_div,Bc];rfl
def Cv(M:hC k)(c:Int){f:Nat}(a:f<=k):∃p,p+1<aP.turns k/\(cT k c p).1=f:=by
 let⟨@n,l,D⟩:=LW M.I9 (uY k c 13) a;exact⟨13+n,by unfold aP.turns;lia,by rw[Dj];exact D⟩
def Ka(M:hC k)(c:Int){f:Nat}(a:f<=k):∃n,n<10*aP.turns k/\(b6 k c n).j=f:=by
 let⟨@p,l,D⟩:=Cv M c a;refine⟨fk k c p,by have:=Cq k c p;lia,?_⟩;rw[ou];exact D
def FC(c:a<=k):aP.runEnd k a<=k:=by unfold aP.runEnd;split<;>omega
def zy(k:Nat)(c:Int)(n:Nat):(b6 k c n).j<=k:=by
 let⟨p,@s,rfl,a⟩:=AS k c n;rw[oq (ou k c p) s a];have:=FC (uY k c p);have d:aP.runEnd k (cT k c p).1 >= (cT k c p).1:=by unfold aP.runEnd;split<;>lia
 show (cT k c p).1+s<=k;lia
theorem xK{QG:Type}[DecidableEq QG]:∀{t k:List QG},t.Nodup->(∀f∈t,f∈k)->t.length<=k.length
 |[],k,_,_=>fv _
 |g::t,k,ak,c=>by
  have a:=iw.mp ak;have p:=xK (t:=t) (k:=k.erase g) a.2 λf b=>(List.mem_erase_of_ne (λd:f=g=>a.1<|d ▸ b)).mpr (c f<|.tail _ b);have e:=c g (.head _);rw[List.length_erase_of_mem e]at p;have:=Cj e;rw[er];lia
def kB(k:Nat)(hu:Nat->Prop)(c:Int)(i:Nat):Prop:=(∃n,(b6 k c n).j=i/\∀a,a<n->hu (b6 k c a).j)
def kB.mono{hu b:Nat->Prop}{c:Int}{i:Nat}(s:kB k hu c i)(a:∀f,hu f->b f):kB k b c i:=let ⟨n,d,g⟩:=s;⟨n,d,λe H=>a _<|g e H⟩
structure ox(w:aP)(Qj:List Int):Prop where
 lY:hC w.mask
 len:w.place.size=Qj.length
 loose:w.place.size*5<w.mask*3
 le:∀i∈w.place.toList,i<=w.mask
 l8:∀q∈w.place.toList.zip Qj,kB w.mask (·∈w.place.toList) q.2 q.1
def hC.pos(M:hC k):7<=k/\k<=511/\k%2=1:=by rcases M with rfl|rfl|rfl|rfl<;>decide
def Lz(s:jj w.place){i:Nat}(c:i∈w.place.toList):∃a,w.slot i=.live a/\w.place[a]?=Z i:=by
 let⟨a,S,d⟩:=k5.mp c;have b:w.place[a]?=Z i:=by
  rw[<-eu,eb S,d]
 refine⟨a,?_,b⟩;unfold aP.slot;dsimp only;rw[uO s b,b,aE<|kA _]
def F7(e:w.dummies=#[]){i:Nat}(c:i∉w.place.toList):w.slot i=.empty:=by
 rcases Ou e i with ⟨a,d⟩|⟨d,_⟩
 ·unfold aP.slot at d;dsimp only at d;split at d
  ·next p=>
   have b:=eq_of_beq p;refine absurd ?_ c;rw[<-eu]at b;exact fu b
  ·split at d<;>cases d
 ·exact d
def ox.some(j:ox w Qj)(c:Int):∃n,n<10*aP.turns w.mask/\(b6 w.mask c n).j∉w.place.toList:=by
 have:∃f,f<=w.mask/\f∉w.place.toList:=by
  refine ko λm=>?_;have p:=xK (t:=range (w.mask+1)) (k:=w.place.toList) tQ λf a=>ko λH=>m ⟨f,qz<|eX.mp a,H⟩;rw[hb,di]at p;have:=j.loose;lia
 let⟨@f,l,D⟩:=this;let⟨@n,QN,QW⟩:=Ka j.lY c l;exact⟨n,QN,by rw[QW];exact D⟩
theorem Ci{w:aP}(s:jj w.place)(k:w.dummies = #[])(f:Nat -> Int)(c:Int): ∀(fuel b:Nat),(∃n,b <= n /\ n<b+fuel /\ (b6 w.mask c n).j ∉ w.place.toList) ->
    ∃QN,b <= QN /\ (∀n,b <= n -> n<QN -> ∃a,w.place[a]? = Z (b6 w.mask c n).j /\ f a ≠ c) /\
      ((aP.probe.go w f c fuel (b6 w.mask c b)=Z (.empty (b6 w.mask c QN).j Y) /\ (b6 w.mask c QN).j ∉ w.place.toList) \/
        ∃a,aP.probe.go w f c fuel (b6 w.mask c b)=Z (.candidate (b6 w.mask c QN).j a<|b6 w.mask c<|QN+1) /\ w.slot (b6 w.mask c QN).j=.live a /\ w.place[a]? = Z (b6 w.mask c QN).j /\ f a=c)
  |0,b,⟨n,g,e,_⟩ => absurd g ⋯
  |fuel+1,b,⟨n,g,e,m⟩ => by
    by_cases H:(b6 w.mask c b).j ∈ w.place.toList
    · let⟨@a,h,o⟩:=Lz s H
      by_cases p:f a=c
      · refine ⟨b,bf _,λn l D => absurd l ⋯,.inr ⟨a, ?_,h,o,p⟩⟩
        unfold aP.probe.go;rw [h];dsimp only;rw [aE (by rw [p]; exact kA _)];rfl
      · have ne:n ≠ b:=λd => m (d ▸ H)
        let⟨@QN,l,D,q⟩:=Ci s k f c fuel (b+1) ⟨n,⋯,⋯,m⟩;have d:aP.probe.go w f c (fuel+1) (b6 w.mask c b)=aP.probe.go w f c fuel (b6 w.mask c<|b+1):=by
          rw [aP.probe.go,h];dsimp only;rw [aI (by rw [pI]; exact p)];rfl
        refine ⟨QN,⋯,λn t r => ?_,by rw [d]; exact q⟩;rcases e5 b n with M|M
        · exact D n M r
        · rw [show n=b by lia]; exact ⟨a,o,p⟩
    · refine ⟨b,bf _,λn l D => absurd l ⋯,.inl ⟨?_,H⟩⟩
      unfold aP.probe.go;rw [F7 k H];dsimp only;rw [uZ]
def uW(y:Array QG)(q:Nat)(f:QG):(aP.insertAt y q f).toList=y.toList.take q++f::y.toList.drop q:=Bx y q f
def ph{t:List QG}{q:Nat}{f I:QG}:I∈t.take q++f::t.drop q↔I=f\/I∈t:=by
 constructor
 ·intro c;rcases dK.mp c with c|c
  ·exact .inr (nr c)
  ·rcases cj.mp c with c|c
   ·exact .inl c
   ·exact .inr (lX c)
 ·rintro (rfl|c)
  ·exact dP _ (.head _)
  ·rw[<-fc q t]at c;rcases dK.mp c with c|c
   ·exact dQ _ c
   ·exact dP _ (.tail _ c)
def OL{Q9:Type}{g:List QG}{e:List Q9}(b:g.length=e.length)(q:Nat)(f:QG)(I:Q9):(g.take q++f::g.drop q).zip (e.take q++I::e.drop q)=(g.zip e).take q++(f,I)::(g.zip e).drop q:=by
 rw[Ao (by rw[f5,f5,b]),yi];have c:∀(q:Nat) (g:List QG) (e:List Q9),(g.take q).zip (e.take q)=(g.zip e).take q:=λq=>by
  induction q with
  |zero=>intro g e;rfl
  |succ q a=>intro g e;cases g with
   |nil=>rfl
   |cons f g=>cases e with
    |nil=>rfl
    |cons I e=>exact congrArg ((f,I)::·) (a g e)
 have d:∀(q:Nat) (g:List QG) (e:List Q9),(g.drop q).zip (e.drop q)=(g.zip e).drop q:=λq=>by
  induction q with
  |zero=>intro g e;rfl
  |succ q a=>intro g e;cases g with
   |nil=>rfl
   |cons f g=>cases e with
    |nil=>show (g.drop q).zip []=_;rw[D9];rfl
    |cons I e=>exact a g e
 rw[c,d]
def ox.put(j:ox w Qj){c:Int}{n:Nat}(k:(b6 w.mask c n).j∉w.place.toList)(g:∀a,a<n->(b6 w.mask c a).j∈w.place.toList):
  (∀i∈(w.put (b6 w.mask c n).j).1.place.toList,i<=w.mask)/\∀q∈(w.put (b6 w.mask c n).j).1.place.toList.zip (Qj.take (w.put (b6 w.mask c n).j).2++c::Qj.drop (w.put (b6 w.mask c n).j).2),kB w.mask (·∈(w.put (b6 w.mask c n).j).1.place.toList) q.2 q.1:=by
 have d:(w.put (b6 w.mask c n).j).1.place.toList=w.place.toList.take (w.put (b6 w.mask c n).j).2++(b6 w.mask c n).j::w.place.toList.drop (w.put (b6 w.mask c n).j).2:=uW _ _ _;rw[d];refine⟨λi e=>?_,λq b=>?_⟩
 ·rcases ph.mp e with rfl|e
  ·exact zy _ _ _
  ·exact j.le i e
 ·rw[OL (by rw[di];exact j.len)]at b;rcases ph.mp b with rfl|b
  ·exact⟨n,rfl,λa H=>ph.mpr<|.inr<|g a H⟩
  ·exact (j.l8 q b).mono λf h=>ph.mpr (.inr h)
def kJ(QH:Array (Option Nat))(i:Nat):Prop:=((QH.getD i<|Z 0).isSome=X)
theorem D5{k:Nat}(QH:Array (Option Nat))(c:Int):∀(fuel p:Nat),(∀a,a<fk k c p->kJ QH (b6 k c a).j)->(∃b,p<=b/\b<p+fuel/\¬ kJ QH (cT k c b).1)->
  ∃i,aP.layClean.free k QH fuel (cT k c p).1 (cT k c p).2=Z i/\i<=k/\¬ kJ QH i/\kB k (kJ QH) c i
 |0,p,_,⟨b,g,e,_⟩=>absurd g ⋯
 |fuel+1,p,f,⟨b,g,e,m⟩=>by
  unfold aP.layClean.free;have le:aP.runEnd k (cT k c p).1<=k:=FC (uY k c p);have Rq:(cT k c p).1<=aP.runEnd k (cT k c p).1:=by unfold aP.runEnd;split<;>lia
  cases h:(range<|aP.runEnd k (cT k c p).1+1-(cT k c p).1).find? (λn=>(QH.getD ((cT k c p).1+n)<|Z 0).isNone) with
  |some n=>
   dsimp only;rw[List.find?_range_eq_some]at h;let@⟨l,D,q⟩:=h;have r:n<aP.runEnd k (cT k c p).1+1-(cT k c p).1:=eX.mp D;refine⟨_,rfl,⋯,?_,fk k c p+n,?_,λa o=>?_⟩
   ·unfold kJ;intro H;rw[Option.isNone_iff_eq_none]at l;rw[l]at H;cases H
   ·rw[oq (ou k c p) n ⋯]
   ·rcases e5 a (fk k c p) with H|H
    ·exact f a H
    ·have d:a=fk k c p+(a-fk k c p):=⋯
     rw[d,oq (ou k c p) (a-fk k c p) ⋯];have:=q (a-fk k c p) ⋯;show (QH.getD ((cT k c p).1+(a-fk k c p))<|Z 0).isSome=X;cases x:QH.getD ((cT k c p).1+(a-fk k c p)) (Z 0) with
     |none=>rw[x]at this;cases this
     |some _=>rfl
  |none=>
   dsimp only;rw[List.find?_range_eq_none]at h;have hu:∀n,n<aP.runEnd k (cT k c p).1+1-(cT k c p).1->kJ QH ((cT k c p).1+n):=λn f=>by
    have:=h n f;unfold kJ;cases x:QH.getD ((cT k c p).1+n) (Z 0) with
    |none=>rw[x]at this;cases this
    |some _=>rfl
   have ne:b≠p:=λd=>m (by rw[d];exact hu 0 ⋯);refine D5 QH c fuel (p+1) (λa o=>?_) ⟨b,⋯,⋯,m⟩;rcases e5 a (fk k c p) with H|H
   ·exact f a H
   ·have s:a<fk k c p+(aP.runEnd k (cT k c p).1-(cT k c p).1)+1:=o;have d:a=fk k c p+(a-fk k c p):=⋯
    rw[d,oq (ou k c p) (a-fk k c p) ⋯];exact hu _ ⋯
structure kv(k:Nat)(QH:Array (Option Nat))(Qr:List Nat)(Qj:List Int):Prop where
 size:QH.size=k+1
 len:Qr.length=Qj.length
 ak:Qr.Nodup
 le:∀i∈Qr,i<=k
 own:∀(i n:Nat),QH[i]?=Z (Z n)↔Qr[n]?=Z i
 l8:∀q∈Qr.zip Qj,kB k (·∈Qr) q.2 q.1
def kv.hu{Qr:List Nat}(E:kv k QH Qr Qj){i:Nat}(c:i<=k):kJ QH i↔i∈Qr:=by
 have b:i<QH.size:=by rw[E.size];lia
 unfold kJ;rw[show QH.getD i (Z 0)=QH[i] by simp[Array.getD,b]];have d:QH[i]?=Z QH[i]:=mj b;constructor
 ·intro H;let⟨@n,a⟩:=Dz.mp H;rw[a]at d;exact fu ((E.own i n).mp d)
 ·intro H;let⟨@n,a⟩:=rR H;have:=(E.own i n).mpr a;rw[d]at this;rw[Option.some.inj this];rfl
def kv.step{k:Nat}(M:hC k){QH:Array (Option Nat)}{Qr:List Nat}{Qj:List Int}(E:kv k QH Qr Qj)(D:Qj.length<=k)(c:Int):
  ∃i,aP.layClean.free k QH (aP.turns k) (aP.bits c%(k+1)) (aP.bits c)=Z i/\kv k (QH.setIfInBounds i<|Z Qj.length) (Qr++[i]) (Qj++[c]):=by
 have room:∃f,f<=k/\f∉Qr:=by
  refine ko λm=>?_;have p:=xK (t:=range (k+1)) (k:=Qr) tQ λf h=>ko λH=>m ⟨f,qz<|eX.mp h,H⟩;rw[hb,E.len]at p;lia
 let⟨@f,l,v⟩:=room;let⟨@p,F,w⟩:=Cv M c l;let⟨@i,y,o,z,A⟩:=D5 (k:=k) QH c (aP.turns k) 0 (λr j=>absurd j<|rz _) ⟨p,fv _,⋯,by rw[w];exact λH=>v<|(E.hu l).mp H⟩;have s:i∉Qr:=λH=>z ((E.hu o).mpr H);have B:i<QH.size:=by rw[E.size];lia
 refine⟨i,y,by rw[Array.size_setIfInBounds,E.size],by rw[dF,dF,E.len];rfl,?_,?_,λu n=>?_,?_⟩
 ·exact dp.mpr ⟨E.ak,fi _ _,λg a e C d=>s (by rw[<-cV.mp C,<-d];exact a)⟩
 ·intro g a;rcases dK.mp a with a|a
  ·exact E.le g a
  ·rw[cV.mp a];exact o
 ·rw[Array.getElem?_setIfInBounds];by_cases d:i=u
  ·subst d;rw[aE rfl,aE B];constructor
   ·intro H;cases H;rw[<-E.len,jo<|bf _,sA];rfl
   ·intro H;rcases e5 n Qr.length with x|x
    ·rw[ij x]at H;exact absurd (fu H) s
    ·rw[jo x]at H;have:n-Qr.length=0:=by
      have:=(e9.mp H).1;rw[gq]at this;lia
     rw[show n=Qj.length by rw[<-E.len];lia]
  ·rw[aI d,E.own u n];rcases e5 n Qr.length with x|x
   ·rw[ij x]
   ·rw[jo x,tB x];constructor
    ·intro H;cases H
    ·intro H;have:=fu H;exact absurd (cV.mp this) (λH=>d H.symm)
 ·intro q b;rw[Ao E.len]at b;rcases dK.mp b with b|b
  ·exact (E.l8 q b).mono λf h=>dQ _ h
  ·rw[yi,List.zip_nil_left]at b;rw[cV.mp b];let⟨@n,d,g⟩:=A;exact⟨n,d,λr j=>dQ _<|(E.hu<|zy _ _ _).mp<|g r j⟩
theorem Av{k:Nat}(M:hC k):∀(cL Qj:List Int) (QH:Array (Option Nat)) (Qr:List Nat),kv k QH Qr Qj->(Qj++cL).length<=k->
  ∃a b,cL.foldl (λ(j:Option (Array (Option Nat)×Nat)) c=>do
   let (f,n) <-j
   let i <-aP.layClean.free k f (aP.turns k) (aP.bits c%(k+1)) (aP.bits c)
   pure (f.setIfInBounds i<|Z n,n+1)) (Z (QH,Qj.length))=Z (a,(Qj++cL).length)/\kv k a b (Qj++cL)
 |[],Qj,QH,Qr,E,_=>⟨QH,Qr,by rw[cD];rfl,by rw[cD];exact E⟩
 |c::cL,Qj,QH,Qr,E,g=>by
  let⟨@i,d,l⟩:=E.step M (by rw[dF]at g;lia) c;let⟨a,@b,e,h⟩:=Av M cL (Qj++[c]) _ _ l (by rw[bz];exact g);rw[bz]at e h;refine⟨a,b,?_,h⟩;rw[lP];rw[show (Qj++[c]).length=Qj.length+1 from dF]at e;refine Eq.trans (congrArg (λH=>List.foldl _ H cL) ?_) e;show (aP.layClean.free k QH (aP.turns k) (aP.bits c%(k+1))<|aP.bits c).bind _=_;rw[d];rfl
def x4(M:hC k)(Qj:Array Int)(a:Qj.size<=k):∃QH Qr,aP.layClean k Qj=Z QH/\kv k QH Qr Qj.toList:=by
 have b:kv k (Array.replicate (k+1) Y) [] []:=by
  refine⟨Array.size_replicate,rfl,hi,λ_ c=>(i9 c).elim,λi n=>⟨λH=>?_,λH=>?_⟩,λ_ c=>(i9 c).elim⟩
  ·have:=(nX.mp H).2;rw[Array.getElem_replicate]at this;cases this
  ·simp at H
 let⟨QH,@Qr,d,E⟩:=Av M Qj.toList [] _ _ b (by rw[uQ,di];exact a);refine⟨QH,Qr,?_,E⟩;unfold aP.layClean;rw[<-Array.foldl_toList];exact congrArg (Option.map (·.1)) d
def FR{q:Nat×Nat}:q∈(range<|k+1).filterMap (λi=>(QH.getD i Y).map (i,·))↔q.1<=k/\QH[q.1]?=Z (Z q.2):=by
 rw[t6];constructor
 ·rintro⟨i,l,D⟩;let⟨@n,a,rfl⟩:=cu.mp D;refine⟨qz<|eX.mp l,?_⟩;show QH[i]?=Z (Z n);by_cases H:i<QH.size
  ·rw[show QH.getD i Y=QH[i] by simp[Array.getD,H]]at a;rw[mj H,a]
  ·rw[show QH.getD i Y=Y by simp[Array.getD,H]]at a;cases a
 ·rintro⟨l,D⟩;refine⟨q.1,eX.mpr<|DS l,?_⟩;let⟨@H,d⟩:=nX.mp D;rw[show QH.getD q.1 Y=QH[q.1] by simp[Array.getD,H],d];rfl
theorem zH{QG Q9:Type}:∀{t:List (QG×Q9)},(t.map (·.1)).Nodup->(∀g∈t,∀e∈t,g.2=e.2->g.1=e.1)->(t.map (·.2)).Nodup
 |[],_,_=>hi
 |f::t,c,a=>by
  rw[cH]at c ⊢;have T:=iw.mp c;refine iw.mpr ⟨λH=>?_,zH T.2 λg h e i=>a g (.tail _ h) e<|.tail _ i⟩;let⟨@I,b,d⟩:=cJ.mp H;have:=a I (.tail _ b) f (.head _) d;exact T.1 (by rw[<-this];exact BI b)
theorem D0{QG Q9 Rv:Type}(B:QG->Q9)(M:QG->Rv):∀t:List QG,(t.map B).zip (t.map M)=t.map λf=>(B f,M f)
 |[]=>rfl
 |f::t=>congrArg (_::·) (D0 B M t)
def Ny{m:Nat}(M:hC (aP.sizeAbove m-1))(B:Qe.size*5<(aP.sizeAbove m-1)*3){b:Bool}(n:w.led=b):
  ∃QM v,w.relaid (Qe.map (·.1)) m=Z (QM,v)/\v.toList.Perm (range Qe.size)/\jO QM b/\ox QM ((v.filterMap (Qe[·]?)).toList.map (·.1)):=by
 let⟨QH,@Qr,d,E⟩:=x4 M (Qe.map (·.1)) (by rw[uX];lia);generalize C:aP.sizeAbove m-1=k at *;have s:w.relaid (Qe.map (·.1)) m=Z ({mask:=k,place:=(((range<|k+1).filterMap λi=>(QH.getD i Y).map (i,·)).map (·.1)).toArray,dummies:=#[],finger:=w.finger,led:=w.led,moves:=w.movedTo k,plain:=w.plain},(((range<|k+1).filterMap λi=>(QH.getD i Y).map (i,·)).map (·.2)).toArray):=by
  unfold aP.relaid aP.laid;rw[C,d];rfl
 have j:=λ(q:Nat×Nat)=>FR (k:=k) (QH:=QH) (q:=q);have t:(((range<|k+1).filterMap λi=>(QH.getD i Y).map (i,·)).map (·.1)).Pairwise (· < ·):=by
  have:=(Nu (w:=_) (o:=_) s);exact this.rise
 generalize F:(range<|k+1).filterMap (λi=>(QH.getD i Y).map (i,·))=Qo at s j t;have Qx:∀q∈Qo,Qr[q.2]?=Z q.1:=λq h=>(E.own _ _).mp ((j q).mp h).2;have lt:∀q∈Qo,q.2<Qe.size:=λq h=>by
  have:=(e9.mp<|Qx q h).1;rw[E.len,di,uX]at this;exact this
 have x:(Qo.map (·.1)).Nodup:=t.imp λc=>c2 c;have y:(Qo.map (·.2)).Nodup:=zH x λg G e H d=>by
  have l:=Qx g G;have D:=Qx e H;rw[d]at l;exact Option.some.inj (l.symm.trans D)
 have perm:(Qo.map (·.2)).Perm (range Qe.size):=by
  refine (yt y tQ).mpr λf=>?_;rw[eX];constructor
  ·intro c;let⟨@q,h,rfl⟩:=cJ.mp c;exact lt q h
  ·intro c;have r:f<Qr.length:=by rw[E.len,di,uX];exact c
   have l:Qr[f]?=Z Qr[f]:=eb r;exact cJ.mpr ⟨(Qr[f],f),(j _).mpr ⟨E.le _<|rx r,(E.own _ _).mpr l⟩,rfl⟩
 have z:Qo.length=Qe.size:=by
  have:=perm.length_eq
  rwa [bq,hb]at this
 have A:((Qo.map (·.2)).filterMap (Qe[·]?)).map (·.1)=Qo.map λq=>(Qe.getD q.2 (0,.none)).1:=by
  clear j t Qx x y perm z s F;induction Qo with
  |nil=>rfl
  |cons q Qo I=>
   have h:=lt q (.head _);rw[cH,List.filterMap_cons_some<|mj h,cH,cH,I λp u=>lt p<|.tail _ u];congr 1;simp[Array.getD,h]
 refine⟨_,_,s,?_,⟨?_,rfl,n⟩,⟨M,?_,?_,?_,?_⟩⟩
 ·exact perm
 ·exact t
 ·rw[yd];show (Qo.map (·.1)).toArray.size=(((Qo.map (·.2)).filterMap (Qe[·]?)).map (·.1)).length;rw[A,cB,bq,bq]
 ·show (Qo.map (·.1)).toArray.size*5<k*3;rw[cB,bq,z];exact B
 ·intro i J;let⟨@q,h,rfl⟩:=cJ.mp J;exact ((j q).mp h).1
 ·rw[yd];show ∀q∈(Qo.map (·.1)).zip (((Qo.map (·.2)).filterMap (Qe[·]?)).map (·.1)),kB k (·∈Qo.map (·.1)) q.2 q.1;rw[A,D0];intro q h;let⟨@p,u,rfl⟩:=cJ.mp h;have l:=Qx p u;have D:((Qe.map (·.1)).toList)[p.2]?=Z (Qe.getD p.2 (0,.none)).1:=by
   have:=lt p u;rw[eu,Array.getElem?_map,mj this];simp[Array.getD,this]
  have L:(p.1,(Qe.getD p.2 (0,.none)).1)∈Qr.zip (Qe.map (·.1)).toList:=by
   refine fu (i:=p.2) ?_;rw[uq];exact⟨l,D⟩
  refine (E.l8 _ L).mono λf r=>?_;let⟨@n,N⟩:=rR r;exact cJ.mpr ⟨(f,n),(j _).mpr ⟨E.le f r,(E.own _ _).mpr N⟩,rfl⟩
def JG(M:hC k)(l:r*5<k*3)(D:(r+1)*5 >= k*3)(a:r+1<=300):hC (aP.sizeAbove (aP.grown<|r+1)-1)/\(r+1)*5<(aP.sizeAbove (aP.grown<|r+1)-1)*3/\aP.sizeAbove (aP.grown<|r+1)<=512:=by
 rcases M with rfl|rfl|rfl|rfl
 ·rw[show r=4 by lia];exact⟨.inr (.inl ∅),by decide,by decide⟩
 ·rw[show r=18 by lia];exact⟨.inr (.inr (.inl ∅)),by decide,by decide⟩
 ·rw[show r=76 by lia];exact⟨.inr (.inr (.inr ∅)),by decide,by decide⟩
 ·lia
section
variable{Ql:bA}{x:bc}
theorem Ez:∀(r:Nat) {O:bj}{Qh:ae->ah->Prop}{h:ah}{v:V}{u:ae}{C:Bool->ah->Prop},V.key r v=X->dq h.heap v u->(∀e,C e h)->wpAny (aN Ql x) O (sj r u) C Qh h
 |r,O,Qh,h,.int a,u,C,_,b,c=>by
  let⟨@w,rfl⟩:=b;rw[show sj r (.int a w)=pure X from by cases r<;>rfl];exact aR (c _)
 |r,O,Qh,h,.str a,u,C,_,b,c=>by
  let⟨@w,rfl⟩:=b;rw[show sj r (.str a w)=pure aq from by cases r<;>rfl];exact aR (c _)
 |r+1,O,Qh,h,.tup J,u,C,n,b,c=>by
  let⟨g,o,Qy,@k,rfl,i,m,p,S⟩:=b;have q:h.TypeIs (.ref g) "tuple" := ⟨o,i,m⟩;unfold sj;refine av (l9 q q1.lookup ?_);show wpAny _ _ (oY (.ref g) >>= _) _ _ h;refine av (ha i p ?_);refine av ?_;show wpAny _ _ (forIn Qy _ _) _ _ h;rw[<-rB];rw[V.key]at n;refine mA _ (λcL s Qd=>Qd=h/\∃left,V.keys r left=X/\dv h.heap left cL) _ ?_ ?_ _ _ ⟨rfl,J,n,S⟩
  ·rintro u cL s Qd ⟨rfl,left,f,j⟩;cases left with
   |nil=>cases (show u::cL=[] from j)
   |cons v left=>
    let⟨z,@Q1,d,l,t⟩:=j;cases d;rw[V.keys,cG]at f;refine av (Ez r f.1 l λe=>?_);cases e
    ·show wpAny _ _ (pure<|ForInStep.done _) _ _ _;exact aR (aR<|c _)
    ·show wpAny _ _ (pure<|ForInStep.yield _) _ _ _;exact aR ⟨rfl,left,f.2,t⟩
  ·rintro⟨y,A⟩ Qd ⟨rfl,W⟩;cases y with
   |none=>exact aR (c _)
   |some e=>exact aR (c _)
 |_,_,_,_,.aT,_,_,n,_,_=>by cases ‹Nat›<;>cases n
 |_,_,_,_,.ax _,_,_,n,_,_=>by cases ‹Nat›<;>cases n
 |_,_,_,_,.fn _,_,_,n,_,_=>by cases ‹Nat›<;>cases n
 |_,_,_,_,.aQ _,_,_,n,_,_=>by cases ‹Nat›<;>cases n
 |_,_,_,_,.fd,_,_,n,_,_=>by cases ‹Nat›<;>cases n
 |0,_,_,_,.tup _,_,_,n,_,_=>by cases n
theorem vD:∀(r:Nat) {O:bj}{Qh:ae->ah->Prop}{h:ah}{v:V}{u:ae}{C:Bool->ah->Prop},V.key r v=X->dq h.heap v u->C aq h->wpAny (aN Ql x) O (r0 r u) C Qh h
 |r,O,Qh,h,.int a,u,C,_,b,c=>by
  let⟨@w,rfl⟩:=b;rw[show r0 r (.int a w)=pure aq from by cases r<;>rfl];exact aR c
 |r,O,Qh,h,.str a,u,C,_,b,c=>by
  let⟨@w,rfl⟩:=b;rw[show r0 r (.str a w)=pure aq from by cases r<;>rfl];exact aR c
 |r+1,O,Qh,h,.tup J,u,C,n,b,c=>by
  let⟨g,o,Qy,@k,rfl,i,m,p,S⟩:=b;have q:h.TypeIs (.ref g) "tuple" := ⟨o,i,m⟩;unfold r0;refine av (wpAny_typeOf q ?_);dsimp only;rw[aE (show ("tuple" == "tuple")=X by decide)];refine av (aR ?_);simp only[nZ,gp,e2];refine av (ha i p ?_);dsimp only;refine av ?_;show wpAny _ _ (forIn Qy _ _) _ _ h;rw[<-rB];rw[V.key]at n;refine mA _ (λcL s Qd=>s.1=Y/\Qd=h/\∃left,V.keys r left=X/\dv h.heap left cL) _ ?_ ?_ _ _ ⟨rfl,rfl,J,n,S⟩
  ·rintro u cL s Qd ⟨e,rfl,left,f,j⟩;cases left with
   |nil=>cases (show u::cL=[] from j)
   |cons v left=>
    let⟨y,@Q1,d,l,t⟩:=j;cases d;rw[V.keys,cG]at f;refine av (vD r f.1 l ?_);simp only[gp,e2];exact aR ⟨rfl,rfl,left,f.2,t⟩
  ·rintro⟨z,A⟩ Qd ⟨e,rfl,W⟩;simp only at e;subst e;exact aR c
 |_,_,_,_,.aT,_,_,n,_,_=>by cases ‹Nat›<;>cases n
 |_,_,_,_,.ax _,_,_,n,_,_=>by cases ‹Nat›<;>cases n
 |_,_,_,_,.fn _,_,_,n,_,_=>by cases ‹Nat›<;>cases n
 |_,_,_,_,.aQ _,_,_,n,_,_=>by cases ‹Nat›<;>cases n
 |_,_,_,_,.fd,_,_,n,_,_=>by cases ‹Nat›<;>cases n
 |0,_,_,_,.tup _,_,_,n,_,_=>by cases n
def O8{O:bj}{Qh:ae->ah->Prop}(b:(d8 Ql x).is h.heap n f){U:List ae}(g:∀u∈U,∃e a,u=.ref e/\(d8 Ql x).is h.heap a e)(c:C aq h):
  wpAny (aN Ql x) O (Fg (.ref f) U) C Qh h:=by
 unfold Fg;refine av ?_;refine mA _ (λcL s Qd=>s.1=Y/\Qd=h/\∀u∈cL,∃e a,u=.ref e/\(d8 Ql x).is h.heap a e) _ ?_ ?_ _ _ ⟨rfl,rfl,g⟩
 ·rintro u cL s Qd ⟨i,rfl,j⟩;let⟨e,@a,rfl,d⟩:=j u (.head _);have k:∀u∈cL,∃e a,u=.ref e/\(d8 Ql x).is Qd.heap a e:=λu g=>j u (.tail _ g);dsimp only;cases l:(f==e) with
  |true=>
   simp only[B0,gR];exact aR ⟨rfl,rfl,k⟩
  |false=>
   simp only[zO];rw[aI (show ¬ ((E_ (ae.ref f)&&E_ (ae.ref e))=X) from λH=>df H)];refine av (t7 8 (v:=.tup _) b.1 b.2 ?_);simp only[nZ,gp,e2];refine av (t7 8 (v:=.tup _) d.1 d.2 ?_);simp only[nZ,gp,e2];refine av (vD 8 (v:=.tup _) b.1 b.2 ?_);simp only[gp,e2];refine av (vD 8 (v:=.tup _) d.1 d.2 ?_);simp only[gp,e2];exact aR ⟨rfl,rfl,k⟩
 ·rintro⟨m,o⟩ Qd ⟨i,rfl,W⟩;simp only at i;subst i;exact aR c
end
section
variable(x:bc)(Qf:List V->ao->Prop)
def wC(H:List V×Int×ae):Prop:=(∃e,H.2.2=.ref e/\H.2.1=da x (.tup H.1)/\Qf H.1 e)
structure kP(Qe:Array (Int×ae))(w:aP)(b:Bool)(Qs:List (List V)):Prop where
 q7:∃Q:List (List V×Int×ae),Q.map (·.2)=Qe.toList/\(Q.map (·.1)).Perm Qs/\∀H∈Q,wC x Qf H
 tab:jO w b
 ba:ox w (Qe.toList.map (·.1))
 ak:Qs.Nodup
def f_(c:aV)(g:ao)(b:Bool)(Qs:List (List V)):Prop:=(∃o Qe Q0 w,c.get? g=Z o/\o.ExactSet/\o.data=.set Qe Q0 w/\kP x Qf Qe w b Qs)
end
section
variable{Ql:bA}{x:bc}{Qf:List V->ao->Prop}{O:bj}{Qh:ae->ah->Prop}
def kP.size(A:kP x Qf Qe w b Qs):w.place.size=Qe.size:=by
 rw[A.ba.len,bq,di]
def kP.fit(A:kP x Qf Qe w b Qs):w.fits Qe.size=X:=by
 have:=A.ba.loose;unfold aP.fits aP.fill;rw[A.tab.om,A.size,cG,pI,jF];rw[A.size]at this;exact⟨rfl,by show Qe.size+0<=_;lia⟩
def kP.num(A:kP x Qf Qe w b Qs):Qe.size=Qs.length:=by
 let⟨@Q,l,D,W⟩:=A.q7;rw[<-D.length_eq,bq,<-di,<-l,bq]
def z9(s:jj y){a b i:Nat}(g:y[a]?=Z i)(e:y[b]?=Z i):a=b:=by
 rw[<-uO s g,<-uO s e]
def JD{ay:gO}{m:Bool}{k:dA Bool}{L s:dA QG}{C:QG->ah->Prop}(l:∀a:Bool->ah->Prop,a aq h->wpAny ay O k a Qh h)(D:wpAny ay O s C Qh h):
  wpAny ay O (if m=X then (do let e <-k;if e=X then L else s) else s) C Qh h:=by
 cases m
 ·rw[aI df];exact D
 ·rw[aE rfl];refine av (l _ ?_);rw[aI df];exact D
theorem D1{g f:ao}{n:List V}{b:Bool}{Qs:List (List V)}{o:a0}{Qe:Array (Int×ae)}{Q0:Nat}{w:aP}{h:ah}{C:SetFound->ah->Prop}{Q:List (List V×Int×ae)}(cd:O.units+20<bL)(I:h.heap.get? g=Z o)(J:o.data=.set Qe Q0 w)(A:kP x Qf Qe w b Qs)(L:(d8 Ql x).is h.heap n f)(P:∀p e,Qf p e->(d8 Ql x).is h.heap p e)(B:Q.map (·.2)=Qe.toList)(R:(Q.map (·.1)).Perm Qs)(T:∀H∈Q,wC x Qf H)(a1:n∈Qs->C (.there Y) h)(a2:n∉Qs->∀U,(b6 w.mask (da x<|.tup n) U).j∉w.place.toList->(∀c,c<U->(b6 w.mask (da x<|.tup n) c).j∈w.place.toList)->C (.free (b6 w.mask (da x<|.tup n) U).j aq) h){s:Nat}(E:(b6 w.mask (da x<|.tup n) s).j∉w.place.toList)(ce:s<10*aP.turns w.mask):
  ∀(fuel k:Nat) (N:Option aP.Probe),N.getD (w.probeStart<|da x<|.tup n)=b6 w.mask (da x<|.tup n) k->s<k+fuel->(∀c,c<k->(b6 w.mask (da x<|.tup n) c).j∈w.place.toList)->
   (∀(a c:Nat),c<k->w.place[a]?=Z (b6 w.mask (da x<|.tup n) c).j->(Q.map (·.1))[a]?≠Z n)->
   wpAny (aN Ql x) O (Ef g (.ref f) (da x<|.tup n) X fuel N) C Qh h
 |0,k,N,_,ch,F,_=>by
  refine absurd (F s ⋯) E
 |fuel+1,k,N,ci,ch,F,Qj=>by
  have cl:k<=s:=by
   rcases e5 s k with H|H
   ·exact absurd (F s H) E
   ·exact H
  have co:Q.length=Qe.size:=by rw[<-di,<-B,bq]
  have al:∀(a:Nat) (p:List V),(Q.map (·.1))[a]?=Z p->∃d e,Qe[a]?=Z d/\d.2=.ref e/\d.1=da x (.tup p)/\(d8 Ql x).is h.heap p e:=λa p m=>by
   let⟨@H,bd,am⟩:=cu.mp (by rw[eG]at m;exact m);let⟨@e,q,t,y⟩:=T H (fu bd);subst am;refine⟨H.2,e,?_,q,t,P _ _ y⟩;rw[<-eu,<-B,eG,bd];rfl
  unfold Ef;refine av (pJ I J A.fit ?_);dsimp only;rw[aI (by unfold aP.gaveWay;rw[pI];have:=A.ba.lY.pos;lia)];rw[ci];unfold aP.probe;let⟨@QN,f1,be,cr⟩:=Ci A.tab.rise A.tab.om (λa=>(Qe[a]?.map (·.1)).getD 0) (da x<|.tup n) (10*aP.turns w.mask) k ⟨s,cl,⋯,E⟩;have hu:∀c,c<QN->(b6 w.mask (da x<|.tup n) c).j∈w.place.toList:=λc z=>by
   rcases e5 c k with H|H
   ·exact F c H
   ·let⟨@a,l,W⟩:=be c H z;rw[<-eu]at l;exact fu l
  have bi:∀(a c:Nat),c<QN->w.place[a]?=Z (b6 w.mask (da x<|.tup n) c).j->(Q.map (·.1))[a]?≠Z n:=λa c z r m=>by
   rcases e5 c k with H|H
   ·exact Qj a c H r m
   ·let⟨@bm,l,D⟩:=be c H z;have:=z9 A.tab.rise r l;subst this;let⟨d,@e,q,y,t,an⟩:=al a n m;rw[q]at D;exact D t
  generalize bn:aP.probe.go w _ (da x<|.tup n) _ (b6 w.mask (da x<|.tup n) k)=M;rcases cr with ⟨d,ap⟩|⟨a,d,am,G,f2⟩
  ·cases bn.symm.trans d;refine aR (a2 (λcs=>?_) QN ap hu);have db:=R.mem_iff.mpr cs;let⟨@a,S⟩:=rR db;let⟨d,@e,q,y,t,an⟩:=al a n S;have v:a<Qe.size:=(nX.mp q).1;have r:w.place[a]?=Z (w.place[a]'(by rw[A.size];exact v)):=mj (by rw[A.size];exact v);have ds:(w.place[a]'(by rw[A.size];exact v),da x<|.tup n)∈w.place.toList.zip (Qe.toList.map (·.1)):=by
    refine fu (i:=a) ?_;rw[uq];refine⟨by rw[eu];exact r,?_⟩;rw[eG,eu,q,<-t];rfl
   let⟨@as,bs,dL⟩:=A.ba.l8 _ ds;have eq:as<QN:=by
    rcases m7 as QN with H|H|H
    ·exact H
    ·refine absurd ?_ ap;rw[<-H,bs];exact Array.getElem_mem_toList ..
    ·exact absurd (dL QN H) ap
   exact bi a as eq (by rw[r,bs]) S
  ·cases bn.symm.trans d;have v:a<Q.length:=by rw[co,<-A.size];exact (nX.mp G).1
   have bv:(Q.map (·.1))[a]?=Z Q[a].1:=by rw[eG,eb v];rfl
   let⟨ev,@e,q,y,t,an⟩:=al a _ bv;dsimp only;refine JD (λf4 p=>O8 L (λu ex=>?_) p) ?_
   ·let⟨@fd,fn,rfl⟩:=cJ.mp ex;have ca:fd∈Qe.toList:=Fw.mpr (Array.mem_filter.mp<|Fw.mp fn).1;rw[<-B]at ca;let⟨@H,fr,rfl⟩:=cJ.mp ca;let⟨@f0,QZ,W,Q2⟩:=T H fr;exact⟨f0,H.1,QZ,P _ _ Q2⟩
   ·let⟨f8,ga⟩:=ev;cases y;rw[q];dsimp only;refine av (e3 ((d8 Ql x).eqBool (show O.units+10<bL by lia) an L ?_));refine av (pJ I J A.fit ?_);by_cases m:Q[a].1=n
    ·rw[dk m,aE<|show (X&&X)=X from rfl];exact aR (a1 (R.mem_iff.mp (by rw[<-m];exact BI (rx v))))
    ·rw[cW m,aI ∅];dsimp only;rw[show w.sameMemory w.moves w.mask=Z X by unfold aP.sameMemory;rw[aE (kA _)]];dsimp only;rw[aE rfl,am];dsimp only;rw[q];dsimp only;refine av (wpAny_isSame_ref_self<|av<|aR ?_);rw[aE rfl];dsimp only;rw[aI df];refine D1 cd I J A L P B R T a1 a2 E ce fuel (QN+1) _ rfl ⋯ (λc z=>?_) λbm c z r=>?_
     ·rcases e5 c QN with H|H
      ·exact hu c H
      ·rw[show c=QN by lia];rw[<-eu]at G;exact fu G
     ·rcases e5 c QN with H|H
      ·exact bi bm c H r
      ·rw[show c=QN by lia]at r;have:=z9 A.tab.rise r G;subst this;rw[bv];exact λd=>m (Option.some.inj d)
end
def gL(Qs:List (List V))(n:List V):List (List V):=(if n∈Qs then Qs else Qs++[n])
section
variable{Ql:bA}{x:bc}{Qf:List V->ao->Prop}{O:bj}{Qh:ae->ah->Prop}{h:ah}
structure pa(x:bc)(Qf:List V->ao->Prop)(Qe:Array (Int×ae))(w:aP)(b:Bool)(Qs:List (List V))(r:Nat):Prop where
 q7:∃Q:List (List V×Int×ae),Q.map (·.2)=Qe.toList/\(Q.map (·.1)).Perm Qs/\∀H∈Q,wC x Qf H
 tab:jO w b
 lY:hC w.mask
 len:w.place.size=Qe.size
 le:∀i∈w.place.toList,i<=w.mask
 l8:∀q∈w.place.toList.zip (Qe.toList.map (·.1)),kB w.mask (·∈w.place.toList) q.2 q.1
 ak:Qs.Nodup
 iE:Qe.size=r+1
 zE:r*5<w.mask*3
def pa.dO(A:pa x Qf Qe w b Qs r):w.fits Qe.size=X:=by
 have:=A.zE;have:=A.lY.pos;unfold aP.fits aP.fill;rw[A.tab.om,A.len,A.iE,cG,pI,jF];exact⟨rfl,by show r+1+0<=_;lia⟩
def pa.done(A:pa x Qf Qe w b Qs r)(a:¬ ((r+1)*5 >= w.mask*3)):kP x Qf Qe w b Qs:=
 ⟨A.q7,A.tab,⟨A.lY,by rw[A.len,bq,di],by rw[A.len,A.iE];lia,A.le,A.l8⟩,A.ak⟩
def CS{a:Array (Int×ae)}{QM:aP}(d:c.get? g=Z o)(b:o.data=.set Qe Q0 w):
  (c.update g<|a0.putSet a QM).get? g=Z {o with data:=.set a (Q0+1) QM}:=by
 have:=n3 (a0.putSet a QM) d (by rw[putSet_of a QM b];rfl);rw[putSet_of a QM b]at this;exact this
theorem xh{QG Q9:Type}(B:QG->Q9)(t:List QG)(k:List Q9)(b:t.map B=k):∀is:List Nat,(is.filterMap (t[·]?)).map B=is.filterMap (k[·]?)
 |[]=>rfl
 |a::is=>by
  subst b;rw[qo,qo,eG];cases t[a]? with
  |none=>exact xh B t _ rfl is
  |some f=>exact congrArg (B f::·) (xh B t _ rfl is)
def zC(t:List QG):(range t.length).filterMap (t[·]?)=t:=by
 have:=filterMap_getElem?_range t.toArray;simpa using this
def wj{Qe e:Array (Int × ae)}{f:aP}{Qg:Bool -> ah -> Prop}(n:h.heap.get? g=Z o)(p:o.ExactSet)(q:o.data=.set Qe Q0 w)(B:Qe.size=r)(m:r+1 <= 300)(A:pa x Qf e f b Qs r)(c : ∀T,aV.SameBut g h.heap T -> f_ x Qf T g b Qs -> Qg X {h with heap:=T}):
    wpAny (aN Ql x) O (do
        storeSet g e f
        if (!aq&&f.tooFull)=X then do
            setRelay g (aP.grown<|Qe.size+1)
            pure X
          else pure X) Qg Qh h:=by
  refine av (yV n q ?_ (by rw [A.iE]; exact eU m ∅));have j:=CS (a:=e) (QM:=f) n q;have s:=oh h.heap g (a0.putSet e f);have t:f.tooFull=decide ((r+1)*5 >= f.mask*3):=by
    unfold aP.tooFull aP.fill;rw [A.tab.om,A.len,A.iE];rfl
  by_cases l:(r+1)*5 >= f.mask*3
  · rw [t,dk l,aE<|show (!aq&&X)=X from rfl]
    let@⟨C,D,E⟩:=JG A.lY A.zE l m;unfold setRelay;refine av (av<|pJ j rfl A.dO ?_);dsimp only;rw [B,aI (λH => absurd (eZ H E) ∅)];let⟨QM, @i,F,u,G,I⟩:=Ny (w:=f) (Qe:=e) (m:=aP.grown (r+1)) C (by rw [A.iE]; exact D) A.tab.led;rw [F];have v:(i.filterMap (e[·]?)).toList=i.toList.filterMap (e.toList[·]?):=by
      rw [yd];simp
    have J:(i.filterMap (e[·]?)).toList.Perm e.toList:=by
      rw [v];refine (u.filterMap _).trans ?_;rw [<-di,zC]
    have y:(i.filterMap (e[·]?)).size=e.size:=by rw [<-di,J.length_eq,di]
    refine av (m:=if ((i.filterMap (e[·]?)).size != e.size)=X then _ else _) ?_;rw [y,aI ↥0];refine aR ?_;dsimp only;refine yV j rfl ?_ (by rw [y,A.iE]; exact eU m ∅);refine aR (c _ (s.trans<|oh _ g _) ⟨_,_,_,_,CS j rfl,p,rfl, ?_,G,I,A.ak⟩);let⟨@Q,z,L,M⟩:=A.q7;refine ⟨i.toList.filterMap (Q[·]?), ?_, ?_,λH N => ?_⟩
    · rw [v]
      exact xh (·.2) Q _ z _
    · refine (u4 _ ?_).trans L
      refine (u.filterMap _).trans ?_;rw [show e.size=Q.length by rw [<-di, <-z,bq],zC]
    · let⟨@a,W,d⟩:=t6.mp N
      exact M H (fu d)
  · rw [t,cW l,aI (show ¬ ((!aq&&aq)=X) from by decide)]
    refine aR (c _ s ⟨_,_,_,_,j,p,rfl,A.done l⟩)
def Lj(M:O.units+20<bL)(Qu:f_ x Qf h.heap g b Qs)(t:(d8 Ql x).is h.heap n f)(N:Qf n f)(P:∀p e,Qf p e->(d8 Ql x).is h.heap p e)(R:Qs.length+1<=300)(c:∀e T,aV.SameBut g h.heap T->f_ x Qf T g b (gL Qs n)->C e {h with heap:=T}):
  wpAny (aN Ql x) O (setAddHashed g (.ref f)<|da x<|.tup n) C Qh h:=by
 let⟨o,Qe,Q0,@w,l,r,m,A⟩:=Qu;have be:=A;let⟨@Q,D,E,F⟩:=A.q7;let⟨@bi,G,S⟩:=A.ba.some (da x<|.tup n);have bm:=A.ba.lY.pos;unfold setAddHashed setAddHashedIn;refine e3 (av<|pJ l m A.fit ?_);dsimp only;rw[aI (show ¬ (byScan (ae.ref f) Qe=X) from λH=>df H)];unfold setSearch;refine av (D1 M l m A t P D E F (λs=>?_) (λs k J U=>?_) S G 100000 0 Y rfl (by unfold aP.turns at G;lia) (λal H=>absurd H<|rz _) λa al H=>absurd H<|rz _)
 ·refine aR ?_;have d:h={h with heap:=h.heap}:=by cases h;rfl
  rw[d];refine c _ _ (aV.SameBut.refl g h.heap) ?_;rw[gL,aE s];exact⟨o,Qe,Q0,w,l,r,m,A⟩
 ·dsimp only;refine av (pJ l m A.fit ?_);dsimp only;let@⟨am,Q3⟩:=A.ba.put (c:=da x (.tup n)) J U;have an:¬ (w.place[aP.below w.place (b6 w.mask (da x<|.tup n) k).j]?=Z (b6 w.mask (da x<|.tup n) k).j):=λH=>J (by rw[<-eu]at H;exact fu H);have ap:=A.tab.put an;have u:∀e:Bool,pa x Qf (aP.insertAt Qe (w.put (b6 w.mask (da x<|.tup n) k).j).2 (da x<|.tup n,.ref f)) { (w.put (b6 w.mask (da x<|.tup n) k).j).1 with plain:=e} b (Qs++[n]) Qe.size:=λe=>by
   have y:(aP.insertAt Qe (w.put (b6 w.mask (da x<|.tup n) k).j).2 (da x<|.tup n,ae.ref f)).toList=_:=uW _ _ _;have as:(w.put (b6 w.mask (da x<|.tup n) k).j).1.place.toList=_:=uW _ _ _;have L:(aP.insertAt Qe (w.put (b6 w.mask (da x<|.tup n) k).j).2 (da x<|.tup n,ae.ref f)).size=Qe.size+1:=by
    rw[<-di,y,dF,er,f5,gb,di];lia
   refine⟨⟨Q.take (w.put (b6 w.mask (da x<|.tup n) k).j).2++(n,da x<|.tup n,.ref f)::Q.drop (w.put (b6 w.mask (da x<|.tup n) k).j).2,?_,?_,λH q=>?_⟩,ap.Gi e,A.ba.lY,?_,am,?_,?_,L,?_⟩
   ·rw[y,<-D,fp,cH,iJ,iX]
   ·rw[fp,cH,iJ,iX];refine List.perm_middle.trans ?_;rw[fc];exact (E.cons n).trans (c4 (l₁:=[n]))
   ·rcases ph.mp q with rfl|q
    ·exact⟨f,rfl,rfl,N⟩
    ·exact F H q
   ·show (w.put (b6 w.mask (da x<|.tup n) k).j).1.place.size=_;rw[L,<-di,as,dF,er,f5,gb,di,A.size];lia
   ·rw[y,fp,cH,iJ,iX];exact Q3
   ·exact dp.mpr ⟨A.ak,fi _ n,λI a1 H q=>by cases cV.mp q;exact λd=>s<|d ▸ a1⟩
   ·have:=A.ba.loose;rw[A.size]at this;exact this
  have z:∀T,aV.SameBut g h.heap T->f_ x Qf T g b (Qs++[n])->C X {h with heap:=T}:=λT a2 bd=>c X T a2 (by rw[gL,aI s];exact bd);have B:Qe.size+1<=300:=by rw[A.num];exact R
  split
  ·refine av (Ez 8 (v:=.tup n) t.1 t.2 λe=>?_);cases e
   ·exact wj l r m rfl B (u aq) z
   ·exact wj l r m rfl B (u _) z
  ·refine av (aR ?_);exact wj l r m rfl B (u _) z
end
def jU(x:bc):Bool:=(!x.params.followText "set-order")
def kn(b:Bool):a0:=({cls:=.type "set",dict:=Y,data:=.set #[] 0 (.fresh 0 0 b)})
section
variable{Ql:bA}{x:bc}{O:bj}{Qh:ae->ah->Prop}{h:ah}
def FW(g:ae){a:ae->ah->Prop}(c:a (.ref h.heap.objs.size) {h with heap:=h.heap.push (kn<|jU x)}):
  codeAny (aN Ql x) O (.call (.builtin "set.__new__") ⟨[.type "set",g],[]⟩) (wants a Qh) h:=by
 refine wm ?_;show wpAny _ O.in1 (do y5 "set.__new__" ⟨[.type "set",g],[]⟩;again (.builtin "set.__new__" ⟨[.type "set",g],[]⟩)) _ _ h;refine av (qV (PySem.F.newCall_set_1 g)<|aR ⟨jq BM _,i4 PySem.F.entry_set_new ?_⟩);rw[jb BM _];unfold bl.«set.__new__» bl.Frozenset.newClass;have b:=sub_set_self;let⟨d,M,v,QP,Q⟩:=h;dsimp only
 wp_walk
 refine wpAny_askSetting (aR ?_);dsimp only;simp only[newObj];refine av (wpAny_alloc<|aR ?_);exact aR c
end
def h9(val:Nat->List V):Nat->List (List V)
 |0=>[]
 |a+1=>gL (h9 val a) (val a)
def f_.fresh(b:Bool):f_ x Qf (c.push<|kn b) c.objs.size b []:=
 ⟨_,#[],0,_,c9 _ rfl,⟨rfl,rfl,rfl⟩,rfl,⟨[],rfl,.nil,λH a=>(i9 a).elim⟩,⟨List.Pairwise.nil,rfl,rfl⟩,⟨.inl rfl,rfl,show 0*5<7*3 by decide,λi d=>(i9 d).elim,λq e=>(i9 e).elim⟩,hi⟩
def f_.at{T:aV}(Qu:f_ x Qf c g b Qs)(n:∀o,c.get? g=Z o->T.get? g=Z o):f_ x Qf T g b Qs:=by
 let⟨o,Qe,Q0,@w,a,s⟩:=Qu;exact⟨o,Qe,Q0,w,n o a,s⟩
section
variable{Ql:bA}{x:bc}{Qf:List V->ao->Prop}{O:bj}{Qh:ae->ah->Prop}{h:ah}
def GO{Qg:n8->ah->Prop}{E Qu:ao}{b0 I:List ao}{F:Nat->ae->Prop}{aU:Nat->aV->Prop}{j:aV}(bi:O.units+25<bL)(W:kR Ql x O.in1 E b0 I r F aU)(G:Qu∉b0)(val:Nat->List V)(P:∀a u,F a u->∃e,u=.ref e/\Qf (val a) e)(J:∀p e,Qf p e->(d8 Ql x).is j p e)(g:∀e o,j.get? e=Z o->e∉I)(Q:∀L Qy k,j.get? Qu=Z L->L.data=.seq Qy k->False)(R:∀a,a<r->(h9 val a).length+1<=300):
  ∀(n a:Nat) (h:ah),r-a=n->a<=r->t9 j h.heap->aU a h.heap->f_ x Qf h.heap Qu b (h9 val a)->
   (∀T QP,(∀e o,e≠Qu->e∉I->h.heap.get? e=Z o->T.get? e=Z o)->f_ x Qf T Qu b (h9 val r)->Qg (.ok<|.ret .none) {h with heap:=T,toks:=QP})->
   codeAny (aN Ql x) O (.builtin "set.update.loop" ⟨[.ref Qu,.ref E],[]⟩) Qg h:=by
 have M:Qu∉I:=λc=>G (W.sub _ c);intro n;induction n with
 |zero=>
  intro a h U S Qc t v w;have al:a=r:=⋯
  subst al;refine i4 Eg ?_;rw[jb xo _];show wpAny _ O.in1 (gx (.ref E) >>= _) _ _ h;refine av (W.done h _ _ t λT QP i=>?_);show wpAny _ O.in1 (ret ae.none) _ _ _;exact aR (w T QP (λe o K g d=>i e o g d)<|v.at λo d=>i Qu o M d)
 |succ n am=>
  intro a h U S Qc t v w;have y:a<r:=⋯
  refine i4 Eg ?_;rw[jb xo _];show wpAny _ O.in1 (gx (.ref E) >>= _) _ _ h;refine av (W.item a h _ _ y t λu l bm an ap i=>?_);let⟨@f,rfl,z⟩:=P a u an;have N:t9 j l:=λe o Qy k m A q=>i e o (g e o m) (Qc e o Qy k m A q);have B:∀p e,Qf p e->(d8 Ql x).is l p e:=λp e H=>⟨(J p e H).1,(J p e H).2.keep N⟩;show wpAny _ O.in1 (holding [ae.ref f] (setAdd Qu<|.ref f) >>= _) _ _ _;refine av (e3 ?_);unfold setAdd;refine e3 ?_;refine av ((d8 Ql x).pyHash (k:=val a) (show O.units+1+10<bL by lia) (B _ _ z) ?_);refine Lj (h:={h with heap:=l,toks:=_}) (show O.units+1+20<bL by lia) (v.at λo d=>i Qu o M d) (B _ _ z) z B (R a y) λe D C as=>?_;refine aR ⟨jq xo _,am (a+1) _ ⋯ y (λe o Qy k m A q=>?_) (W.frame _ l D ap λe s o d=>?_) as λa1 a2 bd be=>?_⟩
  ·show D.get? e=Z o;rw[C.2 e (λc:e=Qu=>Q o Qy k (c ▸ m) q)];exact N e o Qy k m A q
  ·rw[C.2 e (λc:e=Qu=>G (by rw[<-c];exact s))];exact d
  ·refine w a1 a2 (λe o s g d=>bd e o s g ?_) be;show D.get? e=Z o;rw[C.2 e s];exact i e o g d
end
end L2
namespace L2
open Spec PyProof.Rows PySem.W
section
variable{b:aK}{G:List (ao×a0)}{z:aU}{j:aw}{h:ah}{Qf:List V->ao->Prop}
def f6(Qs:List (List V)):List (List V):=(Qs.foldl gL [])
theorem uP(Qs:List (List V)):∀a,a<=Qs.length->h9 (λa=>Qs.getD a []) a=(Qs.take a).foldl gL []
 |0,_=>by rw[sY];rfl
 |a+1,c=>by
  rw[yK (show a<Qs.length from c),wd,<-uP Qs a (Nat.le_of_succ_le c)];show gL _ (Qs.getD a [])=gL _ Qs[a];rw[cx,eb<|show a<Qs.length from c];rfl
def Ly(t:List (List V)):∀(a:List (List V)) (f:List V),f∈t.foldl gL a↔f∈a\/f∈t:=by
 induction t with
 |nil=>intro a f;simp
 |cons n s d=>
  intro a f;rw[lP,d];unfold gL;by_cases b:n∈a
  ·rw[aE b,cj];constructor
   ·rintro (c|c)
    ·exact .inl c
    ·exact .inr (.inr c)
   ·rintro (c|c|c)
    ·exact .inl c
    ·exact .inl (c ▸ b)
    ·exact .inr c
  ·rw[aI b,dK,cV,cj,or_assoc]
variable{Qs:List (List V)}
def HY{f:List V}:f∈f6 Qs↔f∈Qs:=by
 rw[f6,Ly];simp
def K7(t:List (List V)):∀a:List (List V),a.Nodup->(t.foldl gL a).Nodup:=by
 induction t with
 |nil=>intro a c;exact c
 |cons n s b=>
  intro a c;refine b _ ?_;unfold gL;split
  ·exact c
  ·next e=>exact dp.mpr ⟨c,fi _ n,λf g I h=>by cases cV.mp h;exact λd=>e<|d ▸ g⟩
def Ih(Qs:List (List V)):(f6 Qs).Nodup:=K7 Qs [] hi
def Kv(t:List (List V)):∀a:List (List V),a.length<=(t.foldl gL a).length:=by
 induction t with
 |nil=>intro a;exact bf _
 |cons n s b=>
  intro a;refine eU ?_ (b _);unfold gL;split
  ·exact bf _
  ·rw[dF];exact lR _ _
def N_{a:Nat}(c:a<=Qs.length):(h9 (λa=>Qs.getD a []) a).length<=(f6 Qs).length:=by
 rw[uP Qs a c];have d:f6 Qs=(Qs.drop a).foldl gL ((Qs.take a).foldl gL []):=by
  rw[f6,<-wd,fc]
 rw[d];exact Kv _ _
def GZ(Qs:List (List V)):h9 (λa=>Qs.getD a []) Qs.length=f6 Qs:=by
 rw[uP Qs _ (bf _),pw];rfl
theorem bx.at{j:aw}:∀{J:List V}{U:List af}{a:Nat}{u:af},bx j J U->U[a]?=Z u->∃v,J[a]?=Z v/\cp j v u
 |[],U,a,u,c,d=>by rw[show U=[] from c]at d;simp at d
 |v::J,U,0,u,c,d=>by
  let⟨L,@s,rfl,l,D⟩:=c;cases d;exact⟨v,rfl,l⟩
 |v::J,U,a+1,u,c,d=>by
  let⟨L,@s,rfl,l,D⟩:=c;let⟨@b,e,f⟩:=bx.at (a:=a) D ⇑d;exact⟨b,by simpa using e,f⟩
end
def oN:List V->Option (List<|List V)
 |[]=>Z []
 |.tup g::s=>(oN s).map (g::·)
 |_=>Y
theorem E8:∀{f:List V}{Qs:List (List V)},oN f=Z Qs->f=Qs.map .tup
 |[],Qs,c=>by cases c;rfl
 |.tup g::s,Qs,c=>by
  let⟨@n,l,rfl⟩:=cu.mp c;rw[E8 l];rfl
 |.aT::_,_,c=>by cases c
 |.ax _::_,_,c=>by cases c
 |.int _::_,_,c=>by cases c
 |.str _::_,_,c=>by cases c
 |.fn _::_,_,c=>by cases c
 |.aQ _::_,_,c=>by cases c
 |.fd::_,_,c=>by cases c
theorem zL:∀Qs:List (List V),oN (Qs.map .tup)=Z Qs
 |[]=>rfl
 |n::Qs=>by
  show (oN<|Qs.map .tup).map (n::·)=_;rw[zL Qs];rfl
def q4(Qs:List (List V)):Bool:=(Qs.all (V.keys 7)&&decide ((f6 Qs).length<300))
def BZ{Qs:List (List V)}:q4 Qs=X↔(∀n∈Qs,V.keys 7 n=X)/\(f6 Qs).length<300:=by
 unfold q4;rw[cG,iI,jF]
end L2
namespace L2
open Spec PyProof.Rows
variable{c Q8 Rc:ay bI}{e g d:bo}{Qe:List bo}{Qx q:Pos}{k n r:Nat}{M:ay (List bI)}{QK:List Nat}{QO Qr:List aC}{B:ao}{N:cK}{Rb f:aC}{Qk:Φ}{Qq:d2}
def NH:tS (.type "list_reverseiterator") "__len__" = pure Y:=by rw[wy,vL];kernel_rfl
def LX:tS (.type "list_reverseiterator") "__length_hint__" = pure (Z<|.builtin "list_reverseiterator.__length_hint__"):=by rw[wy,vL];kernel_rfl
section
variable{Ql:bA}{x:bc}{O:bj}{h:ah}{Qg:n8->ah->Prop}{E:ao}{b0 I:List ao}{Qq:Array oF->Array oF->Prop}{r:Nat}{Qf:Nat->ae->Prop}{aU:Nat->ah->Prop}
def MG(W:WalksS Ql x O.in1 E b0 I Qq r Qf aU)(f:∀a h,aU a h->h.TypeIs (.ref E) "list_reverseiterator")(Qu:ao)(j:ae)(n:Nat)(b:aU 0 h)(k:Qu∉b0)(o:E∈b0)(p:h.heap.get? Qu=Z {cls:=.type "list",data:=.seq #[] n})(q:∀Qd g c,Moved (Qu::I) Qq h Qd->Qd.heap.get? Qu=Z {cls:=.type "list",dict:=Y,data:=.seq g c,slots:=#[]}->pT Qf g r->Qg (.ok<|.ret j) Qd)(s:r<=sizeLine):
  wpAny (aN Ql x) O.in1 (bl.List.listExtendWith (.ref Qu) (.ref E) j)
   (λt Qd=>match t with | .done B=>Qg (.ok B) Qd | .again c=>c.quiet=X/\codeAny (aN Ql x) O c Qg Qd) (λd Qd=>Qg (.error d) Qd) h:=by
 have u:Qu≠E:=λd=>k (d ▸ o);have l:bl.List.listSameRef (.ref Qu) (.ref E)=aq:=by simp[bl.List.listSameRef,u]
 unfold bl.List.listExtendWith;refine av (wpAny_typeOf (f 0 _ b) ?_);rw[aI (by rw[l];decide)];refine av (W.self 0 _ _ _ b<|av<|e3 ?_);unfold bl.List.listLengthHint;refine av (l9 (f 0 _ b) NH ?_);show wpAny _ O.in1 (specialOf (ae.ref E) (aC.ofString "__length_hint__") >>= _) _ _ _;refine av (l9 (f 0 _ b) LX ?_)
 (generalize i:("list_reverseiterator.__length_hint__" : String)=m;(fail_if_success (clear i m));wp_delta;rw[show splitId m=Z ("list_reverseiterator","__length_hint__") from by subst i;decide +kernel];subst i)
 refine av (tn (b:=X) (f 0 _ b) (by rw[xc];kernel_rfl) ?_);refine aR ?_;rw[aI ∅];exact aR ⟨jq F.plain_extend_loop _,codeAny_extend_loopS W s _ k _ r 0 _ _ _ rfl (fv _) b p (pT.nil Qf) λQd g c v w y=>q Qd g c v w y⟩
end
def pH:List (ao×a0)->Bool
 |[]=>X
 | (_,o)::s=>(match o.data with
  |.seq _ _=>(match o.cls with | .type r=>r != "list" |_=>X)
  |_=>X)&&pH s
def Ja{Qk:List (ao×a0)}{g:ao}{o:a0}{Qp:Array ae}(c:pH Qk=X)(d:Qk.lookup g=Z o)(a:o.cls=.type "list")(b:o.data=.seq Qp r):False:=by
 induction Qk with
 |nil=>cases d
 |cons q s h=>
  let⟨e,f⟩:=q;rw[pH,cG]at c;simp only[List.lookup]at d;split at d
  ·cases d;have l:=c.1;rw[b]at l;dsimp only at l;rw[a]at l;exact absurd l ∅
  ·exact h c.2 d
theorem zG{j:aw}:∀R:List Int,bx j (R.map .int) (R.map af.int)
 |[]=>rfl
 |r::s=>⟨.int r,_,rfl,rfl,zG s⟩
def HR(a:pH Qk=X)(j:aw)(g:ao)(R:List Int)(b:td j)(e:cQ Qk j g (R.map af.int))(ba:∃G,Qq [.cN (R.map .int)]=Z (.im<|.ax X,G)){Qh:f3}:kg 1 Qq [.ref g] j (λu W=>u=.ax X) Qh:=by
 let⟨@G,ba⟩:=ba;have f:∃o,j g=Z (.dJ o<|.lst<|R.map af.int):=by
  rcases e with (c|c)|⟨o,Qp,r,l,D,k,h,_⟩
  ·rcases b g with d|⟨o,y,d⟩
   ·rw[d]at c;cases c
   ·rw[d]at c;cases c
  ·exact c
  ·exact (Ja a l D h).elim
 let⟨@o,i⟩:=f;refine⟨rfl,[.cN (R.map .int)],[],.im<|.ax X,G,⟨_,_,[],[],rfl,⟨g,_,o,rfl,i,zG R,rfl⟩,⟨rfl,rfl⟩,rfl⟩,hi,ba,λu F Qg m c W W=>?_⟩;exact c.1
def g9{QD:List ae}(c:QD.length=r+1):∃g s,QD=g::s/\s.length=r:=by
 cases QD with
 |nil=>cases c
 |cons g s=>exact⟨g,s,rfl,Nat.succ.inj c⟩
def fD.Ox{fd:gh}(P:fD Qk f Rb N B fd)(c:∀(bW i T:ae) (A:Option ao) (H bV:ae) (g:ae),iO (Ξ f Rb (gP N) (fF N) (dr N) .none bW i T A H bV) ⟨[g],[]⟩=pure (Qr.zip [g]))(b:Qr.length=1:=by rfl):h_ Qk fd Qr []:=
 P.binds λbW i T A H bV QD a=>by
  replace a:=a.trans b;let⟨g,@d,rfl,l⟩:=g9 a;obtain rfl:=oR l;exact c bW i T A H bV g
def fD.IX{fd:gh}(P:fD Qk f Rb N B fd)(c:∀(bW i T:ae) (A:Option ao) (H bV:ae) (g e:ae),iO (Ξ f Rb (gP N) (fF N) (dr N) .none bW i T A H bV) ⟨[g,e],[]⟩=pure (Qr.zip [g,e]))(b:Qr.length=2:=by rfl):h_ Qk fd Qr []:=
 P.binds λbW i T A H bV QD a=>by
  replace a:=a.trans b;let⟨g,@d,rfl,l⟩:=g9 a;let⟨e,@h,rfl,D⟩:=g9 l;obtain rfl:=oR D;exact c bW i T A H bV g e
def fD.G0{fd:gh}(P:fD Qk f Rb N B fd)(c:∀(bW i T:ae) (A:Option ao) (H bV:ae) (g e m:ae),iO (Ξ f Rb (gP N) (fF N) (dr N) .none bW i T A H bV) ⟨[g,e,m],[]⟩=pure (Qr.zip [g,e,m]))(b:Qr.length=3:=by rfl):h_ Qk fd Qr []:=
 P.binds λbW i T A H bV QD a=>by
  replace a:=a.trans b;let⟨g,@h,rfl,l⟩:=g9 a;let⟨e,@j,rfl,D⟩:=g9 l;let⟨m,@k,rfl,d⟩:=g9 D;obtain rfl:=oR d;exact c bW i T A H bV g e m
def fD.Oo{fd:gh}(P:fD Qk f Rb N B fd)(c:∀(bW i T:ae) (A:Option ao) (H bV:ae) (g e m v:ae),iO (Ξ f Rb (gP N) (fF N) (dr N) .none bW i T A H bV) ⟨[g,e,m,v],[]⟩=pure (Qr.zip [g,e,m,v]))(b:Qr.length=4:=by rfl):h_ Qk fd Qr []:=
 P.binds λbW i T A H bV QD a=>by
  replace a:=a.trans b;let⟨g,@j,rfl,l⟩:=g9 a;let⟨e,@k,rfl,D⟩:=g9 l;let⟨m,@n,rfl,d⟩:=g9 D;let⟨v,@o,rfl,h⟩:=g9 d;obtain rfl:=oR h;exact c bW i T A H bV g e m v
def fD.JP{fd:gh}(P:fD Qk f Rb N B fd)(c:∀(bW i T:ae) (A:Option ao) (H bV:ae) (g e m v d:ae),iO (Ξ f Rb (gP N) (fF N) (dr N) .none bW i T A H bV) ⟨[g,e,m,v,d],[]⟩=pure (Qr.zip [g,e,m,v,d]))(b:Qr.length=5:=by rfl):h_ Qk fd Qr []:=
 P.binds λbW i T A H bV QD a=>by
  replace a:=a.trans b;let⟨g,@n,rfl,l⟩:=g9 a;let⟨e,@o,rfl,D⟩:=g9 l;let⟨m,@p,rfl,h⟩:=g9 D;let⟨v,@q,rfl,j⟩:=g9 h;let⟨d,@r,rfl,k⟩:=g9 j;obtain rfl:=oR k;exact c bW i T A H bV g e m v d
structure fe where
 P:bA
 w:bc
 K:Φ
 aH:aC->Option ae
 base:aV
def dU(Qk:Φ)(f:aC)(N:cK)(B:ao):Prop:=(∃fd,fD Qk f f N B fd/\Ψ Qk dh f=Z (Z<|.ref B))
def ey(Qk:Φ)(aH:aC->Option ae)(f:aC)(N:cK)(B:ao)(Qr:List aC):Prop:=(∃fd,fD Qk f f N B fd/\h_ Qk fd Qr []/\aH f=Z (.ref B))
def l2(Qf:bA)(x:bc)(Qk:Φ)(aH:aC->Option ae)(Qv:aV)(n:Nat)(f:aC)(N:cK)(B:ao)(Qr:List aC)(r:Nat)(Qq:d2):Prop:=(∃fd,fD Qk f f N B fd/\h_ Qk fd Qr []/\aH f=Z (.ref B)/\h1 Qf x Qk aH Qv hR n B fd Qr (kg r Qq))
abbrev fL(m:fe):=l2 m.P m.w m.K m.aH m.base
def Cr{D:ae}{l A:Option ao}{J:Array (Option ae)}{bW i T H bV:ae}(g:Ψ Qk dh f=Z (Z<|.ref B))(t:Qk.lookup B=Z ⟨D,l,.func<|Ξ f f (gP N) (fF N) (dr N) .none bW i T A H bV,J⟩)(m:Δ Qk H f=X)(n:Θ Qk (.ref B)=X):dU Qk f N B:=⟨_,NV t m n,g⟩
section
variable{Qf:bA}{x:bc}{Qk:Φ}{aH:aC->Option ae}{Qv c:aV}{n r:Nat}{f:aC}{N:cK}{B:ao}{Qr:List aC}{Qq:d2}
def dU.dR(s:dU Qk f N B)(b:Qk.In c)(d:c.Ns dh aH)(e:∀(bW i T:ae) (A:Option ao) (H bV g:ae),iO (Ξ f f (gP N) (fF N) (dr N) .none bW i T A H bV) ⟨[g],[]⟩=pure (Qr.zip [g]):=by intros;rfl)(h:Qr.length=1:=by rfl):ey Qk aH f N B Qr:=
 have ⟨_,a,g⟩:=s
 ⟨_,a,a.Ox e h,lr b d g⟩
def dU.dc(s:dU Qk f N B)(b:Qk.In c)(d:c.Ns dh aH)(h:∀(bW i T:ae) (A:Option ao) (H bV g e:ae),iO (Ξ f f (gP N) (fF N) (dr N) .none bW i T A H bV) ⟨[g,e],[]⟩=pure (Qr.zip [g,e]):=by intros;rfl)(j:Qr.length=2:=by rfl):ey Qk aH f N B Qr:=
 have ⟨_,a,g⟩:=s
 ⟨_,a,a.IX h j,lr b d g⟩
def dU.pf(s:dU Qk f N B)(b:Qk.In c)(d:c.Ns dh aH)(h:∀(bW i T:ae) (A:Option ao) (H bV g e m:ae),iO (Ξ f f (gP N) (fF N) (dr N) .none bW i T A H bV) ⟨[g,e,m],[]⟩=pure (Qr.zip [g,e,m]):=by intros;rfl)(j:Qr.length=3:=by rfl):ey Qk aH f N B Qr:=
 have ⟨_,a,g⟩:=s
 ⟨_,a,a.G0 h j,lr b d g⟩
def dU.ks(s:dU Qk f N B)(b:Qk.In c)(d:c.Ns dh aH)(h:∀(bW i T:ae) (A:Option ao) (H bV g e m v:ae),iO (Ξ f f (gP N) (fF N) (dr N) .none bW i T A H bV) ⟨[g,e,m,v],[]⟩=pure (Qr.zip [g,e,m,v]):=by intros;rfl)(j:Qr.length=4:=by rfl):ey Qk aH f N B Qr:=
 have ⟨_,a,g⟩:=s
 ⟨_,a,a.Oo h j,lr b d g⟩
def dU.lB(s:dU Qk f N B)(b:Qk.In c)(h:c.Ns dh aH)(j:∀(bW i T:ae) (A:Option ao) (H bV g e m v d:ae),iO (Ξ f f (gP N) (fF N) (dr N) .none bW i T A H bV) ⟨[g,e,m,v,d],[]⟩=pure (Qr.zip [g,e,m,v,d]):=by intros;rfl)(k:Qr.length=5:=by rfl):ey Qk aH f N B Qr:=
 have ⟨_,a,g⟩:=s
 ⟨_,a,a.JP j k,lr b h g⟩
def l2.fd{fd:gh}(aM:l2 Qf x Qk aH Qv n f N B Qr r Qq)(b:fD Qk f f N B fd):h1 Qf x Qk aH Qv hR n B fd Qr (kg r Qq):=by
 let⟨@e,c,W,W,M⟩:=aM;let⟨D,l,bW,i,T,A,H,bV,@J,d,t,W⟩:=b.ex;let⟨g,h,j,k,m,o,p,q,@s,u,a,W⟩:=c.ex;rw[t]at a;cases a;exact M
def F0(s:dU Qk f N B)(b:Qk.In c)(d:c.Ns dh aH){eg:ao}(j:aH f=Z (.ref eg)){q:aC}(k:∀(bW i T:ae) (A:Option ao) (H bV:ae) (h:ah) (u:ae),l6 h (Ξ f f (gP N) (fF N) (dr N) .none bW i T A H bV) ⟨[u],[]⟩ [(q,u)])(aM:∀Qv,l2 Qf x Qk aH Qv n f N B [q] r Qq):
  ∃fd:gh,(∀(h:ah) (u:ae),l6 h fd ⟨[u],[]⟩ [(q,u)])/\∀Qv:aV,Qk.In Qv->Qv.Ns dh aH->h1 Qf x Qk aH Qv hR n eg fd [q] (kg r Qq):=by
 let⟨@fd,a,g⟩:=s;cases j.symm.trans (lr b d g);refine⟨fd,?_,λe U U=>(aM e).fd a⟩;let⟨D,l,bW,i,T,A,H,bV,@J,rfl,t,U⟩:=a.ex;exact k bW i T A H bV
def KP{M:bR}(P:ey Qk aH f N B Qr)(Qu:nj QO Qr (dr N))(c:Qr.length=r)(d:∀a∈QK,a<r)(g:QO.Nodup->∀(H:ae) (O:bj) (Q5:List ew) (h:ah) (j:aw) (Qh:f3),eC n (O.deeper<|iP f (dr N) h.heap.objs.size B H)->iV (kl hR Qf x Qk aH Qv QO f (dr N) B H O Q5 h j Qh).nu QK (fF N) M):
  l2 Qf x Qk aH Qv (n+1) f N B Qr r (d6 r QO.length QK M):=
 have ⟨_,b,e,k⟩:=P
 ⟨_,b,e,k,KJ b Qu c d<|g Qu.ak⟩
end
section
variable{b:aK}
def GR(aM:l2 b.prog b.w b.K b.aH b.base n f N B Qr r Qq)(a:eC k b.A)(c:ed b f)(g:fA b (d::Qe) M)(h:n<=k:=by decide)(i:(f==("__debug__" : aC))=aq:=by decide)(j:bU (d::Qe) b.env=(aq,b_ d b.env)::bU Qe b.env:=by rfl)(l:(gz Qx<|bU Qe b.env).any (·.1)=aq:=by rfl):
  ck b (.Call (.Name f q) (d::Qe) [] Qx) (bP r Qq M):=
 have ⟨_,m,e,k,P⟩:=aM
 GP P (a.mono h) c k m.c6 e g i j l
def bb{a:Int}{i Qx}:dz b (.Constant (.int a) i Qx) (ag<|aB<|.int a):=aW hY
def au(a:Nat){f:aC}{Qx:Pos}(c:b.N[a]?=Z f:=by rfl)(d:tf b.env.scope f:=by first|exact Or.inl rfl|exact Or.inr (Or.inl rfl)|exact Or.inr (Or.inr rfl))(e:(f==("__debug__" : aC))=aq:=by decide)(g:(f==("__classdict__" : aC))=aq:=by decide):dz b (.Name f Qx) (ai a):=L_ (ES c d e g)
def bT{M:ay bI}(a:dz b d M)(Qj:bU [d] b.env=(aq,b_ d b.env)::bU [] b.env:=by rfl):fA b [d] (ar M aD):=iy a nx Qj
def iF(a:eC k b.A)(c:dz b g Rc)(d:dz b e Q8)(Qj:ua e:=by exact λ_ W=>rfl):ck b (.Subscript g e Qx) (az bG Rc Q8):=I2 (KX (by have:=a.un;lia)) c d Qj
def b7{B:bo}{M:ay bI}(a:dz b d M)(e:dz b B c)(Qj:bU [d,B] b.env=(aq,b_ d b.env)::bU [B] b.env:=by rfl)(D:bU [B] b.env=(aq,b_ B b.env)::bU [] b.env:=by rfl):fA b [d,B] (ar M<|ar c aD):=iy a (bT e D) Qj
def hV{B v:bo}{M n:ay bI}(a:dz b d M)(e:dz b B c)(f:dz b v n)(Qj:bU [d,B,v] b.env=(aq,b_ d b.env)::bU [B,v] b.env:=by rfl)(l:bU [B,v] b.env=(aq,b_ B b.env)::bU [v] b.env:=by rfl)(D:bU [v] b.env=(aq,b_ v b.env)::bU [] b.env:=by rfl):fA b [d,B,v] (ar M<|ar c<|ar n aD):=iy a (b7 e f l D) Qj
def dE(a:Nat){f:aC}{d:bo}{M:ay aj}{Qx i:Pos}(c:b.N.Nodup)(e:ck b d M)(S:b.N[a]?=Z f:=by rfl)(g:jk b.env.scope f:=by exact Or.inl rfl)(h:a∉QK:=by decide)(Qj:mJ d (Z<|.Name f i) Qx.line b.env=pure aq:=by rfl)(j:b.fn f=X\/b.env.scope.names.lookup f=Z .local:=by first|exact .inl rfl|exact .inr rfl|assumption):ik b QK (.Assign [.Name f i] d Qx) (bY a M):=ma c S g e h Qj j
def iu(a:Nat){f:aC}{Qx:Pos}(c:b.N.Nodup)(S:b.N[a]?=Z f:=by rfl)(d:jk b.env.scope f:=by exact Or.inl rfl)(e:a∉QK:=by decide)(g:b.fn f=X\/b.env.scope.names.lookup f=Z .local:=by first|exact .inl rfl|exact .inr rfl|assumption):gN b QK (.Name f Qx) (bJ a):=tw c S d e g
def tC:List aC->Bool
 |[]=>X
 |f::t=>!t.contains f&&tC t
theorem DL:∀{t:List aC},tC t=X->t.Nodup
 |[],_=>hi
 |f::t,c=>by
  rw[tC,cG,jC]at c;refine iw.mpr ⟨λH=>?_,DL c.2⟩;rw[List.contains_iff_mem.mpr H]at c;cases c.1
def fM(a:Nat){f:aC}{Qx:Pos}(S:b.N[a]?=Z f:=by rfl)(c:tC b.N=X:=by kernel_rfl)(d:jk b.env.scope f:=by exact Or.inl rfl)(e:a∉QK:=by decide)(g:b.fn f=X\/b.env.scope.names.lookup f=Z .local:=by first|exact .inl rfl|exact .inr rfl|assumption):gN b QK (.Name f Qx) (bJ a):=tw (DL c) S d e g
def jL{QL Q_ Rm:bo}{QF:gf}(own:List aC)(QJ:List Nat){Rn:jy}{I:fa}{Rq:ay aj}(S:lF b QL Q_ Rn)(c:∀a,gN (b.fl (ft b own QJ) QF a) (nV own.length QJ.length) QL I)(d:∀a,ck (b.fl (ft b own QJ) QF a) Rm Rq)(Qu:vs b.env.scope b.N QF QJ=X:=by kernel_rfl)(e:b.calm=X:=by rfl)(ak:QJ.Nodup:=by decide)(Qj:∀f,lM Q_ b.env f=pure f:=by intro W;rfl):ck b (.ListComp Rm [⟨QL,Q_,[],0⟩] QF Qx) (cO own.length QJ Rn I dW Rq):=
 uu e (kD _ _ Qu rfl rfl) ak S c (λ_=>xE) d Qj
def vm{M c:fa}{a}(d:gN b QK g M)(f:gN b QK e c)(h:b.calm=X:=by rfl)(l:(eT [g,e] b.env).map (·.2)=hJ g b.env::(eT [e] b.env).map (·.2):=by rfl)(D:(eT [e] b.env).map (·.2)=hJ e b.env::(eT [] b.env).map (·.2):=by rfl)(i:(eT [g,e] b.env).length=2:=by rfl)(j:(eT [g,e] b.env).findIdx? (·.1)=Y:=by rfl):gN b QK (.Tuple [g,e] a Qx) (mY 2<|hk M<|hk c lA):=Mk h (sJ d (sJ f yB D) l) i j
def ea{id:String}{QV:List aj->Option aj}(a:g8 b (.builtin id) QV)(c:b.aH f=Y)(e:ez f=Z (.builtin id))(g:fA b (d::Qe) M)(h:ed b f:=by rfl)(i:f ≠ "__name__" := by decide)(j:(f==("__debug__" : aC))=aq:=by decide)(k:bU (d::Qe) b.env=(aq,b_ d b.env)::bU Qe b.env:=by rfl)(l:(gz Qx<|bU Qe b.env).any (·.1)=aq:=by rfl):
  ck b (.Call (.Name f q) (d::Qe) [] Qx) (b2 QV M):=MD a h c e g i j k l
def cZ(aM:l2 b.prog b.w b.K b.aH b.base n f N B Qr r Qq)(a:eC k b.A)(c:fA b (d::Qe) M)(e:ed b f:=by rfl)(g:n<=k:=by decide)(h:(f==("__debug__" : aC))=aq:=by decide)(i:bU (d::Qe) b.env=(aq,b_ d b.env)::bU Qe b.env:=by rfl)(j:(gz Qx<|bU Qe b.env).any (·.1)=aq:=by rfl):
  ck b (.Call (.Name f q) (d::Qe) [] Qx) (bP r Qq M):=GR aM a e c g h i j
def c3(a:eC k b.A)(c:dz b g Rc)(d:dz b e Q8)(Qj:ua e:=by exact λ_ W=>rfl):dz b (.Subscript g e Qx) (ag<|az bG Rc Q8):=aW (iF a c d Qj)
def c1{QV:x9}{B:aj->aj->Option aj}(a:e6 b (fG QV) B)(c:dz b g Rc)(d:dz b e Q8):dz b (.BinOp g QV e Qx) (ag<|az B Rc Q8):=aW (hx a c d)
def f7{a}(c:fA b Qe M):dz b (.Tuple Qe a Qx) (ag<|c7 M):=aW (iM c)
end
section
variable{Qf:bA}{x:bc}{Qk:Φ}{aH:aC->Option ae}{Qv c:aV}{n r:Nat}{f:aC}{N:cK}{B:ao}{Qr:List aC}{Qq:d2}
def Ot{Qf:List aC}{w:gf}(g:w.kind=.function:=by rfl)(e:w.isCoroutine=aq:=by rfl)(m:w.isGenerator=aq:=by rfl)(v:QO.Nodup:=by decide +kernel)(d:QO.take Qf.length=Qf:=by rfl)(B:∀f∈Qf,w.names.lookup f=Z .local\/w.names.lookup f=Z .cell:=by decide +kernel)(M:∀I∈w.names,I.2≠.free:=by decide +kernel):nj QO Qf w:=⟨g,e,m,v,d,B,M⟩
def fT{M:bR}(QO:List aC)(P:ey Qk aH f N B Qr)(b:QO.Nodup->∀(H:ae) (O:bj) (Q5:List ew) (h:ah) (j:aw) (Qh:f3),eC n (O.deeper<|iP f (dr N) h.heap.objs.size B H)->iV (kl hR Qf x Qk aH Qv QO f (dr N) B H O Q5 h j Qh).nu QK (fF N) M)(Qu:nj QO Qr (dr N):=by exact Ot)(c:Qr.length=r:=by rfl)(d:∀a∈QK,a<r:=by decide):l2 Qf x Qk aH Qv (n+1) f N B Qr r (d6 r QO.length QK M):=KP P Qu c d b
end
end L2
namespace L2
open Spec PyProof.Rows PySem.W
variable{i:Nat}{o:a0}{Qs:List (List V)}{M:ay (List bI)}{F Qx Q3 q:Pos}{QY:eR}{g:bo}{C:ae->ah->Prop}{Qy:Array ae}{t E:ao}
def Hv:isSubtype (.type "list") (.type "set")=pure aq:=by rw[xc];kernel_rfl
def K2:isSubtype (.type "list") (.type "frozenset")=pure aq:=by rw[xc];kernel_rfl
section
variable{Ql:bA}{x:bc}{O:bj}{h:ah}{Qh:ae->ah->Prop}
def I0{Qg:n8->ah->Prop}{b0 I:List ao}{Qq:Array oF->Array oF->Prop}{r:Nat}{Qf:Nat->ae->Prop}{aU:Nat->ah->Prop}(W:WalksS Ql x O.in1 E b0 I Qq r Qf aU)(d:∀a h,aU a h->h.TypeIs (.ref E) "list_reverseiterator")(Qu:ao)(b:Nat)(e:aU 0 h)(f:Qu∉b0)(g:E∈b0)(i:h.heap.get? Qu=Z {cls:=.type "list",data:=.seq #[] b})(j:∀Qd c k,Moved (Qu::I) Qq h Qd->Qd.heap.get? Qu=Z {cls:=.type "list",dict:=Y,data:=.seq c k,slots:=#[]}->pT Qf c r->Qg (.ok<|.ret<|.ref Qu) Qd)(l:r<=sizeLine):codeAny (aN Ql x) O (.builtin "list.__iadd__" ⟨[.ref Qu,.ref E],[]⟩) Qg h:=by
 refine i4 F.entry_list_iadd ?_;rw[jb EM _];show wpAny _ O.in1 (bl.List.listExtendWith (.ref Qu) (.ref E)<|.ref Qu) _ _ _;exact MG W d Qu _ b e f g i j l
def Md{C:List ae->ah->Prop}(p:O.handled=Y)(q:t≠E)(k:h.heap.IsList t Qy)(l:h.heap.IsRevIter E t ((Qy.size:Int)-1))(r:Qy.size<=sizeLine)(s:∀(T:aV) (QP:Nat) (g:Array ae),(∀e o,e≠E->h.heap.get? e=Z o->T.get? e=Z o)->h.heap.objs.size<=T.objs.size->pT (λa u=>Qy[Qy.size-1-a]?=Z u) g Qy.size->C g.toList {h with heap:=T,toks:=QP}):
  wpAny (aN Ql x) O (collect<|.ref E) C Qh h:=by
 have B:E<h.heap.objs.size:=let ⟨o,d,_⟩:=l;bZ d
 have D:t<h.heap.objs.size:=let ⟨o,d,_⟩:=k;bZ d
 have v:h.heap.objs.size∉[E,t]:=λb=>by
  simp only[cj,m_,jl]at b;rcases b with c|c<;>lia
 unfold collect;refine av (Dp<|i4 F.entry_proto_collect ?_);rw[jb F.plain_proto_collect _];show wpAny _ O.in1 (qJ [] >>= λt=>again<|.builtin "list.__iadd__" ⟨[t,.ref E],[]⟩) _ _ h;refine av (hM<|aR ⟨jq EM _,?_⟩);have i:∀m o,h.heap.get? m=Z o->(h.heap.push {cls:=.type "list",data:=.seq ([]:List ae).toArray}).get? m=Z o:=λm o d=>b3 _ d;have w:(h.heap.push {cls:=.type "list",data:=.seq ([]:List ae).toArray}).get? h.heap.objs.size=Z {cls:=.type "list",data:=.seq ([]:List ae).toArray}:=c9 _ rfl;refine I0 (h:={h with heap:=h.heap.push {cls:=.type "list",data:=.seq ([]:List ae).toArray} }) (O:=O) (kR.listRev (prog:=Ql) (w:=x) (A:=O.in1) p E t q Qy).toS (λa h f=>f.2.1.typeIs) h.heap.objs.size _ ⟨fv _,?_,k.at λo d=>i _ o d⟩ v (.head _) w (λQd g G b n y=>?_) r
 ·have:(Qy.size:Int)-1-((0:Nat):Int)=(Qy.size:Int)-1:=⋯
  rw[this];exact l.at λo d=>i _ o d
 ·show wpAny _ O (load h.heap.objs.size >>= _) _ _ Qd;refine av (wpAny_load n<|aR ?_);rw[Moved.eq_with b];refine s Qd.heap Qd.toks g (λe o z d=>b.heap e o (λj=>?_)<|i e o d) (my<|bZ n) y;rcases cj.mp j with A|j
  ·exact c2 (bZ d) A
  ·exact z (cV.mp j)
def Ob(k:O.handled=Y)(l:t≠E)(m:h.heap.IsList t Qy)(g:h.heap.IsRevIter E t ((Qy.size:Int)-1))(i:Qy.size<=sizeLine)(n:∀(T:aV) (QP:Nat) (j:Array ae),(∀e o,e≠E->h.heap.get? e=Z o->T.get? e=Z o)->h.heap.objs.size<=T.objs.size->pT (λa u=>Qy[Qy.size-1-a]?=Z u) j Qy.size->C (.ref T.objs.size) {h with heap:=T.push {cls:=.type "tuple",data:=.seq j},toks:=QP}):
  wpAny (aN Ql x) O (call (.type "tuple") [.ref E]) C Qh h:=by
 refine Cg (Q₁:=λb c=>c.TypeIs b "tuple" /\ C b c) wO (F.typeCall_tuple_1 _) F.entry_object_init (wm ?_) λb c d=>⟨d.1,F.args_object_init_2 b _,object_init_meets wO.init.lookup wO.made ∅ Ql x O.in1 _ c ⟨d.1,rfl,d.2⟩⟩;show wpAny _ _ (do y5 "tuple.__new__" ⟨[.type "tuple",.ref E],[]⟩;again (.builtin "tuple.__new__" ⟨[.type "tuple",.ref E],[]⟩)) _ _ h;refine av (qV (F.newCall_tuple_1 _)<|aR ⟨jq yw _,i4 F.entry_tuple_new ?_⟩);rw[jb yw _];have s:=sub_tuple_self;have v:=init_tuple_lookup;have w:=madeHere_tuple;have p:h.TypeIs (.ref E) "list_reverseiterator" := g.typeIs
 wp_walk using wpAny_typeOf p,Md (O:=O.in1.in1) k l m g i
 intro T QP f c6 le it;have q:f.size<=sizeLine:=by rw[it.1];exact i
 show wpAny _ _ (bl.Tuple.tupleExact f.toList.toArray >>= λu=>ret u) _ _ _;unfold bl.Tuple.tupleExact;refine av (hM (aR ?_) (by show f.toList.toArray.size<=sizeLine;simpa using q));rw[CX];exact⟨⟨_,c9 _ rfl,rfl⟩,n _ _ _ c6 le it⟩
end
section
variable{b:aK}
def LJ(Qk:Φ)(QY:eR):bX:=(λz j C=>QY z j λU Qm=>∃q Qw,U=[.ref q]/\cQ Qk Qm q Qw/\∀t,Qm t=Y->C (.ref t) (upd Qm t<|.tup Qw.reverse))
def G8(s:b.calm=X)(v:ed b "tuple")(w:b.aH "tuple" = Y)(x:ed b "reversed")(y:b.aH "reversed" = Y)(A:hp b [g] QY)(Qj:bU [g] b.env=[(aq,b_ g b.env)]:=by rfl):
  bN b (.Call (.Name "tuple" Q3) [.Call (.Name "reversed" q) [g] [] Qx] [] F) (LJ b.K QY):=by
 intro G h z j C E c;refine qI (ku E v w (show ez "tuple" = Z (.type "tuple") by decide +kernel) (oX ?_ rfl rfl) ∅ ∅);refine ym ?_;refine Call_ (ku E x y (show ez "reversed" = Z (.type "reversed") by decide +kernel)<|oX (bS (A Qx G h z j _ E c) λQD e ⟨U,Qm,f,B,H⟩=>?_) Qj rfl);let⟨t,Qw,d,I,p⟩:=H;subst d;let⟨L,rfl,J⟩:=hX B;cases J;let⟨Qp,Q1,bg,M⟩:=f.list I;have n:=Q1.length;have i:=bg.isList;refine call_reversed_list i (uV ?_);have ne:t≠e.heap.objs.size:=let ⟨o,d,_⟩:=i;c2 (bZ d)
 have up:∀m o,e.heap.get? m=Z o->(e.heap.push<|revObj t<|(Qp.toArray.size:Int)-1).get? m=Z o:=λm o d=>b3 _ d;have le:e.heap.objs.size<=(e.heap.push<|revObj t<|(Qp.toArray.size:Int)-1).objs.size:=by show _<=(e.heap.objs.push _).size;rw[Array.size_push];lia
 refine Ob (Qy:=Qp.toArray) (f.ok.hd s) ne (i.at λo d=>up _ o d) ⟨_,c9 _ rfl,rfl,rfl⟩ (by simp only[cB];lia) λT QP k c6 N it=>?_;have O:bM Qw.reverse k.toList:=by
  refine r2 (show Qw.reverse.length=k.toList.length from (by rw[sX];exact n.trans ⇑(it.1.symm))) λa u L l D=>?_;have S:a<Qw.length:=by
   have:=(e9.mp l).1
   rwa [sX]at this
  rw[List.getElem?_reverse S]at l;let⟨R,P,Q⟩:=Q1.get l;have:=it.2 a L ⇑D;simp only[cB,w_]at this;rw[<-n,P]at this;cases this;exact Q
 have r:=eU le N;exact⟨.ref _,_,f.laid (QM:=QP) (o:=.tup Qw.reverse) (λm o d=>b3 _<|c6 m o (c2<|bZ d)<|up m o d) r ⟨by rw[sX];exact M,k.toList,O,⟨_,c9 _ rfl,rfl,0,by rw[CX]⟩⟩,rfl,p _<|f.a3.fresh r⟩
@[simp] def vp(M:ay (List bI)):ay aj:=λA=>(M A).bind λq=>(gC q.2 q.1).bind λJ=>match J with
 |[.lst f]=>Z (.im<|.tup f.reverse,q.2)
 |_=>Y
def OC(h:ed b "tuple")(i:b.aH "tuple" = Y)(k:ed b "reversed")(m:b.aH "reversed" = Y)(c:fA b [g] M)(Qj:bU [g] b.env=[(aq,b_ g b.env)]:=by rfl)(n:b.calm=X:=by rfl):
  ck b (.Call (.Name "tuple" Q3) [.Call (.Name "reversed" q) [g] [] Qx] [] F) (vp M):=by
 refine ej (G8 n h i k m c Qj) λz j C r=>?_;let⟨A,P,s,QE,N,ak,v,p⟩:=r;let⟨⟨Q,Qn⟩,l,D⟩:=bD.mp v;let⟨J,w,e⟩:=bD.mp D;refine⟨A,P,Q,Qn,N,ak,l,λU Qm QB E f QT x=>?_⟩;have B:=QT.read f w;split at e
 ·cases e;let⟨u,rfl,⟨W,q,y,rfl,QN,QW,W⟩⟩:=fP B;refine⟨q,y,rfl,cQ.of QN,λt aQ=>?_⟩;have a:cP Qm (upd Qm t<|.tup y.reverse):=(cP.refl Qm).upd aQ;exact p _ _ QB [] (f.mono a.tupS λg W o d=>a g o d) ⟨⟨t,_,rfl,fb,(QW.mono a.tupS.tup).rev⟩,rfl⟩ (x.new a hi (λg c=>nomatch c) f.chg)
 ·cases e
end
section
variable{Ql:bA}{x:bc}{Qf:List V->ao->Prop}{O:bj}{Qh:ae->ah->Prop}{h:ah}
def G6{Qu:ao}{b:Bool}(v:O.handled=Y)(l:h.heap.get? t=Z o)(m:o.cls=.type "list")(n:o.data=.seq Qy i)(J:O.units+28<bL)(S:∀a u,Qy[a]?=Z u->∃e,u=.ref e/\Qf (Qs.getD a []) e)(w:∀p e,Qf p e->(d8 Ql x).is h.heap p e)(g:∀a,a<Qy.size->(h9 (λa=>Qs.getD a []) a).length+1<=300)(y:t≠Qu)(j:h.heap.get? Qu=Z (kn b))(z:f_ x Qf h.heap Qu b [])(c:∀T QP,f_ x Qf T Qu b (h9 (λa=>Qs.getD a []) Qy.size)->(∀e o,e≠Qu->h.heap.get? e=Z o->T.get? e=Z o)->C .none {h with heap:=T,toks:=QP}):
  wpAny (aN Ql x) O (bl.«set.__init__» ⟨[.ref Qu,.ref t],[]⟩) (λA Qd=>∃s,A=.done (.ret s)/\C s Qd) Qh h:=by
 let⟨M,N,P,Q⟩:=o;simp only at m n;subst m;subst n;have R:=Hv;have U:=K2;have al:(ae.type "list" == ae.type "dict")=aq:=by decide
 unfold kn at j;have q:h.heap.IsList t Qy:=⟨_,l,rfl,i,rfl⟩;unfold bl.«set.__init__» noKeywords bl.Frozenset.updateFrom;generalize B:p_=ki
 wp_walk
 subst B;refine qm q ?_;refine av (Dp ?_);have D:t<h.heap.objs.size:=bZ l;have E:Qu<h.heap.objs.size:=bZ j;have F:O.in1.handled=Y:=by simp[v]
 refine GO (b:=b) (Qf:=Qf) (j:=h.heap) (show O.units+25<bL by lia) (kR.list F _ t (c2 D) Qy) ?_ (λa=>Qs.getD a []) S w ?_ ?_ g (Qy.size-0) 0 _ ⋯ (fv _) ?_ ⟨⟨_,c9 _ rfl,rfl,rfl⟩,?_⟩ ?_ λT QP G H=>?_
 ·simp only[cj,i9,jl,not_or];exact⟨c2 E,λd=>y d.symm⟩
 ·intro e o d;rw[cV];exact c2 (bZ d)
 ·intro L Qy k f r;rw[j]at f;cases f;cases r
 ·intro e o Qy k f r an;exact b3 _ f
 ·let⟨o,I,s⟩:=q;exact⟨o,b3 _ I,s⟩
 ·exact z.at λo d=>b3 _ d
 ·show wpAny _ _ _ _ _ _;refine aR ?_;show wpAny _ _ (ret ae.none) _ _ _;refine aR ⟨_,rfl,c T QP H λe o g d=>G e o g ?_<|b3 _ d⟩;rw[cV];exact c2 (bZ d)
def Nw(y:O.handled=Y)(n:h.heap.get? t=Z o)(z:o.cls=.type "list")(A:o.data=.seq Qy i)(M:O.units+30<bL)(S:∀a u,Qy[a]?=Z u->∃e,u=.ref e/\Qf (Qs.getD a []) e)(q:∀p e,Qf p e->(d8 Ql x).is h.heap p e)(B:∀a,a<Qy.size->(h9 (λa=>Qs.getD a []) a).length+1<=300)(c:∀T QP,f_ x Qf T h.heap.objs.size (jU x) (h9 (λa=>Qs.getD a []) Qy.size)->(∀e o,h.heap.get? e=Z o->T.get? e=Z o)->C (.ref h.heap.objs.size) {h with heap:=T,toks:=QP}):
  wpAny (aN Ql x) O (call (.type "set") [.ref t]) C Qh h:=by
 let⟨m,Rr,N⟩:=lj.mro;have Q:=lj.made;have R:=lj.sub;refine wpAny_call (wm ?_);show wpAny _ _ (callAny (.type "set") _) _ _ _;refine aR ⟨Code.quiet_builtin _ (by decide +kernel),i4 F.entry_type_call ?_⟩;rw[bj.under_plain (weight_type_call_type "set" [.ref t] []) rfl];have l:=lj.notType;have D:=lj.canCreate;have U:=PySem.F.typeCall_set_1 (.ref t);repeat (any_goals (first|assumption|wp_step))
 refine rj (FW (.ref t) (Qh:=Qh) (a:=λr v=>r=.ref h.heap.objs.size/\v={h with heap:=h.heap.push (kn<|jU x)}) ⟨rfl,rfl⟩) λs v f=>?_;cases s with
 |error d=>exact f
 |ok aQ=>
  cases aQ with
  |ret r=>
   let⟨rfl,rfl⟩:=f;have w:(h.heap.push<|kn<|jU x).get? h.heap.objs.size=Z (kn<|jU x):=c9 _ rfl;have E:ah.TypeIs {h with heap:=h.heap.push (kn<|jU x)} (.ref h.heap.objs.size) "set" := ⟨_,w,rfl⟩;have am:=lj.init.lookup;have an:=lj.init.bind (.ref h.heap.objs.size);repeat (any_goals (first|assumption|wp_step))
   refine rj (codeAny_call_builtin (R:=wants (λs b=>s=.none/\∃T QP,b={h with heap:=T,toks:=QP}/\
     f_ x Qf T h.heap.objs.size (jU x) (h9 (λa=>Qs.getD a []) Qy.size)/\(∀e o,h.heap.get? e=Z o->T.get? e=Z o)) Qh) lj.init.plain PySem.F.entry_set_init<|check_set_init_1 E ?_) λG b g=>?_
   ·refine gS (G6 (h:={h with heap:=h.heap.push (kn<|jU x)}) (by simp[y]) (b3 _ n) z A (by show O.in1.in1.units+28<bL;show O.units+1+1+28<bL;omega) S (λp e H=>⟨(q p e H).1,(q p e H).2.keep λe o W W d W W=>b3 _ d⟩) B (c2<|bZ n) w (f_.fresh _) (C:=λs b=>s=.none/\∃T QP,b={h with heap:=T,toks:=QP}/\
     f_ x Qf T h.heap.objs.size (jU x) (h9 (λa=>Qs.getD a []) Qy.size)/\(∀e o,h.heap.get? e=Z o->T.get? e=Z o)) λT QP j I=>⟨rfl,T,QP,rfl,j,λe o d=>I e o (c2<|bZ d)<|b3 _ d⟩) (λap Qd k=>?_) λ_ W d=>d;let⟨s,rfl,k⟩:=k;exact k
   ·cases G with
    |error d=>exact g
    |ok J=>
     cases J with
     |ret s=>
      let⟨rfl,⟨T,QP,rfl,j,L⟩⟩:=g;repeat (any_goals (first|assumption|wp_step))
      exact c _ _ j L
     |_=>exact g.elim
  |_=>exact f.elim
end
section
variable{b:aK}{G:List (ao×a0)}{z:aU}{j:aw}{h:ah}{Qf:List V->ao->Prop}
def M8(F:b.calm=X)(I:b.A.units+30<bL){t:ao}{Qs:List (List V)}{Qw:List af}{C:ae->ah->Prop}(E:aA b G z j h)(J:j t=Z (.lst Qw))(S:bx j (Qs.map .tup) Qw)(M:∀n∈Qs,V.keys 7 n=X)(al:(f6 Qs).length<300)(c:∀T QP Qu,aA b G z j {h with heap:=T,toks:=QP}->f_ b.w (λn e=>V.keys 7 n=X/\cp j (.tup n) (.ref e)) T Qu (jU b.w) (f6 Qs)->C (.ref Qu) {h with heap:=T,toks:=QP}):
  wpAny (aN b.prog b.w) b.A (call (.type "set") [.ref t]) C b.cE h:=by
 let⟨Qp,d,bg,W⟩:=E.list (cQ.of J);let⟨o,N,P,r,Q⟩:=bg.isList;have R:Qp.length=Qs.length:=by rw[<-d.length,<-S.length,bq]
 have k:Qp.toArray.size=Qs.length:=by rw[cB,R]
 refine Nw (Qf:=λn e=>V.keys 7 n=X/\cp j (.tup n) (.ref e)) (Qy:=Qp.toArray) (Qs:=Qs) (E.ok.hd F) N P Q I (λa u g=>?_) (λp e H=>⟨H.1,H.2.e7 E.a3 rfl⟩) (λa S=>?_) λT QP l c6=>?_
 ·rw[w_]at g;have m:a<Qw.length:=by rw[d.length];exact (e9.mp g).1
  let⟨L,q,s⟩:=d.get (a:=a) (f:=Qw[a]) (eb m);rw[g]at q;cases q;let⟨v,B,i⟩:=S.at (a:=a) (u:=Qw[a]) (eb m);rw[eG]at B;let⟨n,D,rfl⟩:=cu.mp B;let⟨e,y,U,am,an⟩:=id i;rw[U]at s i;refine⟨e,s,?_⟩;rw[cx,D];exact⟨M n<|fu D,i⟩
 ·rw[k]at S;have:=N_ (Qs:=Qs) (my S);lia
 ·rw[k,GZ]at l;exact c T QP _ (E.kept (QM:=QP) c6) l
def NA(QY:eR):bX:=(λz j C=>QY z j λU Qm=>∃(g:ao) (Qs:List (List V)) (Qw:List af),U=[.ref g]/\Qm g=Z (.lst Qw)/\bx Qm (Qs.map .tup) Qw/\(∀n∈Qs,V.keys 7 n=X)/\(f6 Qs).length<300/\C (.int (f6 Qs).length) Qm)
def LP(e:b.calm=X)(f:b.A.units+30<bL)(i:ed b "len")(k:b.aH "len" = Y)(l:ed b "set")(m:b.aH "set" = Y)(n:hp b [g] QY)(Qj:bU [g] b.env=[(aq,b_ g b.env)]:=by rfl):
  bN b (.Call (.Name "len" Q3) [.Call (.Name "set" q) [g] [] Qx] [] F) (NA QY):=by
 intro G h z j C E c;refine qI (ku E i k (show ez "len" = Z (.builtin "len") by decide +kernel) (DA ?_ rfl rfl) ∅ ∅);refine ym ?_;refine Call_ (ku E l m (show ez "set" = Z (.type "set") by decide +kernel)<|oX (bS (n Qx G h z j _ E c) λQD a ⟨U,Qm,r,s,u⟩=>?_) Qj rfl);let⟨t,Qs,Qw,rfl,v,S,y,B,p⟩:=u;let⟨L,rfl,D⟩:=hX s;cases D;refine M8 e f r v S y B λT QP Qu H I=>uV ?_;let⟨o,Qe,Q0,w,J,M,N,A⟩:=I;have d:Qe.size=(f6 Qs).length:=A.num;have P:w.fits Qe.size=X:=A.fit;have Q:d5 b G z C (.int Qe.size<|QP+1) {a with heap:=T,toks:=QP+1+1}:=⟨.int (f6 Qs).length,Qm,H.tok _,⟨QP+1,by rw[d]⟩,p⟩;exact call_len_set (prog:=b.prog) (w:=b.w) (s:={a with heap:=T,toks:=QP}) J M N P (by rw[d];lia) Q
def uc(M:ay (List bI)):ay aj:=(λA=>(M A).bind λq=>(gC q.2 q.1).bind λJ=>match J with
 |[.lst f]=>(oN f).bind λQs=>if q4 Qs=X then Z (.im<|.int (f6 Qs).length,q.2) else Y
 |_=>Y)
def O6(i:b.A.units+30<bL)(k:ed b "len")(m:b.aH "len" = Y)(n:ed b "set")(o:b.aH "set" = Y)(a:fA b [g] M)(Qj:bU [g] b.env=[(aq,b_ g b.env)]:=by rfl)(r:b.calm=X:=by rfl):
  ck b (.Call (.Name "len" Q3) [.Call (.Name "set" q) [g] [] Qx] [] F) (uc M):=by
 refine ej (LP r i k m n o a Qj) λz j C t=>?_;let⟨A,P,s,QE,N,ak,v,p⟩:=t;let⟨⟨Q,Qn⟩,l,D⟩:=bD.mp v;let⟨J,w,c⟩:=bD.mp D;refine⟨A,P,Q,Qn,N,ak,l,λU Qm QB I d QT x=>?_⟩;have B:=QT.read d w;split at c
 ·rename_i f;let⟨Qs,E,h⟩:=bD.mp c;split at h
  ·rename_i G;cases h;let⟨u,rfl,⟨W,e,y,rfl,H,S,W⟩⟩:=fP B;cases E8 E;let⟨QN,QW⟩:=BZ.mp G;refine⟨e,Qs,y,rfl,H,S,QN,QW,?_⟩;exact p _ _ QB [] d ⟨rfl,rfl⟩ (x.new (cP.refl Qm) hi (λg a=>(i9 a).elim) d.chg)
  ·cases h
 ·cases c
end
end L2
namespace G
open L2
def HK:bR:=((bE (bY 1<|az bG (ai 0)<|ag<|aB<|.int 0)<|bE (bY 2<|az bG (ai 0)<|ag<|aB<|.int 1)<|dw<|e_<|ar (ag<|c7<|ar (ag<|az lp (ai 1)<|ag<|aB<|.int 1)<|ar (ai 2) aD)<|ar (ag<|c7<|ar (ai 1)<|ar (ag<|az lp (ai 2)<|ag<|aB<|.int 1) aD)<|ar (ag<|c7<|ar (ai 1)<|ar (ag<|az eE (ai 2)<|ag<|aB<|.int 1) aD)<|ar (ag<|c7<|ar (ag<|az eE (ai 1)<|ag<|aB<|.int 1)<|ar (ai 2) aD) aD))
def n5:d2:=(d6 1 3 [0] HK)
def zY:ay aj:=((c7<|ar (ai 0)<|ar (ag<|aB<|.str "in") aD))
def zq:ay Bool:=((bt<|az g6 (ai 0)<|ai 1))
def xv:bR:=((bE (bY 2<|az bG (ai 1)<|ag<|aB<|.int 0)<|bE (dy (bt<|az dS (ag<|az bG (ai 1)<|ag<|aB<|.int 1)<|ag<|aB<|.str "in") (dw<|e_<|ar (ag<|c7<|ar (ag<|az bG (ai 0)<|ai 2)<|ar (ag<|aB<|.str "out") aD) aD) eo)<|dw<|az eE (ag<|e_<|ar (ag<|c7<|ar (ai 2)<|ar (ag<|aB<|.str "in") aD) aD)<|ag<|cO 1 [0] (cR<|ag<|bP 1 G.n5<|ar (ai 2) aD) (bJ 0) G.zq G.zY))
def oC:d2:=(d6 2 3 [0,1] xv)
def qL:bR:=((dy (bt<|az eJ (ai 7)<|ai 3) (bE (hU (eY 6)<|j9 3 (eY 7) jh)<|j6<|hA iA 5 lg<|ar (ai 7) aD) eo))
def qs:bR:=((gD (cR<|ag<|bP 2 G.oC<|ar (ai 0)<|ar (ai 6) aD) (bJ 7) G.qL))
def BV:ay Bool:=((gU<|ai 4))
def xM:bR:=((bE (bY 5<|e_ aD)<|bE (gD (cR<|ai 4) (bJ 6) G.qs)<|bY 4<|eY 5))
def DZ:bR:=((bE (bY 2<|c7<|ar (ai 1)<|ar (ag<|aB<|.str "out") aD)<|bE (bY 3<|wU (eY 2)<|aB .aT)<|bE (bY 4<|e_<|ar (ai 2) aD)<|bE (h2 G.BV G.xM 1000000)<|dw<|eY 3))
def qM:d2:=(d6 2 8 [0,1] DZ)
def Fe:ay Bool:=((bt<|az (uz X) (ag<|az bG (ai 1)<|ai 3)<|ag<|aB .aT))
def uv:bR:=((bE (dy (bt<|az dS (ag<|az bG (ai 3)<|ag<|aB<|.int 1)<|ag<|aB<|.str "in") (hU (az bG (ag<|az bG (ai 1)<|ai 3)<|ag<|aB<|.int 0)<|j9 0 (az bG (ai 3)<|ag<|aB<|.int 0) jh) eo)<|bY 3<|az bG (ai 1)<|ai 3))
def A9:bR:=((bE (bY 3<|c7<|ar (ai 2)<|ar (ag<|aB<|.str "out") aD)<|h2 G.Fe G.uv 1000000))
def p3:d2:=(d6 3 4 [0,1,2] A9)
def x1:ay Bool:=((bt<|az es (ag<|az bG (ai 3)<|ag<|oA<|aB<|.int 1)<|ai 1))
def E0:bR:=((j6<|hA iA 3 lg<|ar (ag<|az bG (ai 0)<|ag<|az bG (ai 3)<|ag<|oA<|aB<|.int 1) aD))
def EG:bR:=((bE (bY 3<|e_<|ar (ai 2) aD)<|bE (h2 G.x1 G.E0 1000000)<|dw<|eY 3))
def oO:d2:=(d6 3 4 [0,1,2] EG)
def zZ:ay aj:=((c7<|ar (ai 0)<|ar (ai 0) aD))
def vt:ay Bool:=((bt<|az g6 (ag<|c7<|ar (ai 2)<|ar (ag<|aB<|.str "in") aD)<|ai 5))
def sW:bR:=((bE (j6<|hA iA 4 lg<|ar (ag<|az bG (ag<|az bG (ai 5)<|ag<|c7<|ar (ai 2)<|ar (ag<|aB<|.str "in") aD)<|ag<|aB<|.int 0) aD)<|bE (j6<|bP 3 G.p3<|ar (ai 3)<|ar (ai 5)<|ar (ag<|az bG (ai 4)<|ag<|oA<|aB<|.int 1) aD)<|bY 5<|bP 2 G.qM<|ar (ai 3)<|ar (ai 1) aD))
def By:ay aj:=((eY 0))
def vv:ay Bool:=((e0 (bt<|az g6 (ag<|c7<|ar (ai 0)<|ar (ag<|aB<|.str "in") aD)<|ai 1)<|bt<|az eJ (ag<|c7<|ar (ai 0)<|ar (ag<|aB<|.str "out") aD)<|ai 1))
def te:ay aj:=((vp<|ar (ag<|az eE (ag<|e_<|ar (ai 1) aD)<|ag<|bP 3 G.oO<|ar (ai 2)<|ar (ai 3)<|ar (ai 0) aD) aD))
def En:bR:=((bE (dy (fK (bt<|az dS (ai 1)<|ai 2)<|bt<|az g6 (ai 2)<|ag<|bP 1 G.n5<|ar (ai 1) aD) EP eo)<|bE (bY 3<|b2 jv<|ar (ag<|cO 1 [] (cR<|ai 0) (bJ 0) dW G.zZ) aD)<|bE (bY 4<|e_ aD)<|bE (bY 5<|bP 2 G.qM<|ar (ai 3)<|ar (ai 1) aD)<|bE (h2 G.vt G.sW 1000000)<|bE (bY 6<|cO 1 [5] (cR<|ai 0) (bJ 0) G.vv G.By)<|bE (bY 7<|cO 1 [2,3,1] (cR<|ai 4) (bJ 0) dW G.te)<|dw<|c7<|ar (ag<|b2 kL<|ar (ai 6) aD)<|ar (ag<|b2 kL<|ar (ag<|b2 kc<|ar (ai 7) aD) aD) aD))
def kG:d2:=(d6 3 8 [0,1,2] En)
def MJ:ay aj:=((gW<|e0 (bt<|mU "int"<|ai 0)<|bt<|gW<|gB<|bt<|mU "bool"<|ai 0))
def su:bR:=((bE (dy (fK (gB<|gU<|ag<|mU "tuple"<|ai 2)<|fK (bt<|az es (ag<|b2 dg<|ar (ai 2) aD)<|ag<|aB<|.int 2)<|bt<|az eJ (ai 2)<|ai 0) (dw<|aB<|.ax aq) eo)<|dy (gB<|gU<|ag<|b2 lL<|ar (ag<|cO 1 [] (cR<|ai 2) (bJ 0) dW G.MJ) aD) (dw<|aB<|.ax aq) eo))
def Dh:ay aj:=((az g6 (ai 1)<|ag<|bP 1 G.k7<|ar (ai 0) aD))
def EO:bR:=((bE (dy (fK (gB<|gU<|ag<|mU "tuple"<|ai 1)<|bt<|az dS (ag<|b2 dg<|ar (ai 1) aD)<|ag<|aB<|.int 0) (dw<|aB<|.ax aq) eo)<|bE (gD (cR<|ai 1) (bJ 2) G.su)<|dw<|b2 lL<|ar (ag<|cO 2 [] (q8<|ar (ai 1)<|ar (ag<|lD (ai 1) (mz<|aB<|.int 1) oL) aD) (mY 2<|hk (bJ 0)<|hk (bJ 1) lA) dW G.Dh) aD))
def pV:d2:=(d6 2 3 [0,1] EO)
def yh:ay aj:=((eY 0))
def rU:ay Bool:=((e0 (bt<|az es (ai 0)<|ai 1)<|bt<|az eJ (ai 0)<|ag<|bP 1 G.k7<|ar (ai 1) aD))
def uB:bR:=((bE (bY 2<|az bG (ai 1)<|ag<|bP 2 G.eA<|ar (ai 0)<|ar (ag<|b2 dg<|ar (ai 1) aD) aD)<|bE (bY 3<|cO 1 [2] (cR<|ai 1) (bJ 0) G.rU G.yh)<|bE (dy (bt<|az dS (ai 3)<|ag<|e_ aD) (dw<|aB .aT) eo)<|dw<|c7<|ar (ai 2)<|ar (ag<|az bG (ai 3)<|ag<|bP 2 G.eA<|ar (ai 0)<|ar (ag<|b2 dg<|ar (ai 3) aD) aD) aD))
def nD:d2:=(d6 2 4 [0,1] uB)
def yE:ay aj:=((eY 0))
def zd:ay Bool:=((bt<|az eJ (ai 0)<|ai 1))
def D6:bR:=((dw<|az eJ (ai 2)<|ag<|bP 2 G.lh<|ar (ag<|cO 1 [3] (cR<|ai 0) (bJ 0) G.zd G.yE)<|ar (ai 1) aD))
def sy:d2:=(d6 4 4 [0,1,2,3] D6)
def Fp:ay aj:=((bP 2 G.pV<|ar (ai 1)<|ar (ag<|c7<|ar (ai 0) aD) aD))
def zx:ay aj:=((c7<|ar (ai 0)<|ar (ag<|aB<|.ax X) aD))
def EC:bR:=((bE (dy (fK (gB<|gU<|ag<|mU "tuple"<|ai 1)<|gB<|gU<|ag<|b2 lL<|ar (ag<|cO 1 [0] (cR<|ai 1) (bJ 0) dW G.Fp) aD) (dw<|aB<|.ax aq) eo)<|dw<|az dS (ag<|b2 pA<|ar (ai 1) aD)<|ag<|b2 kc<|ar (ag<|b2 jv<|ar (ag<|cO 1 [] (cR<|ai 1) (bJ 0) dW G.zx) aD) aD))
def sF:d2:=(d6 2 2 [0,1] EC)
def z6:ay aj:=((bP 2 G.pV<|ar (ai 1)<|ar (ai 0) aD))
def A_:ay aj:=((c7<|ar (ai 0)<|ar (ag<|aB<|.ax X) aD))
def qX:bR:=((bE (dy (fK (bt<|az v3 (ag<|b2 dg<|ar (ai 5) aD)<|ag<|aB<|.int 2)<|fK (bt<|az es (ag<|az bG (ai 5)<|ag<|aB<|.int 0)<|ai 1)<|bt<|az es (ag<|az bG (ai 5)<|ag<|oA<|aB<|.int 1)<|ai 2) (dw<|aB<|.ax aq) eo)<|bY 4<|az eE (ai 4)<|ag<|b2 pA<|ar (ag<|lD (ai 5) (mz<|aB<|.int 1)<|mz<|oA<|aB<|.int 1) aD))
def yZ:bR:=((bE (dy (fK (gB<|gU<|ag<|mU "tuple"<|ai 3)<|gB<|gU<|ag<|b2 lL<|ar (ag<|cO 1 [0] (cR<|ai 3) (bJ 0) dW G.z6) aD) (dw<|aB<|.ax aq) eo)<|bE (dy (bt<|az es (ag<|b2 pA<|ar (ai 3) aD)<|ag<|b2 kc<|ar (ag<|b2 jv<|ar (ag<|cO 1 [] (cR<|ai 3) (bJ 0) dW G.A_) aD) aD) (dw<|aB<|.ax aq) eo)<|bE (bY 4<|e_ aD)<|bE (gD (cR<|ai 3) (bJ 5) G.qX)<|dw<|gW<|e0 (bt<|az dS (ag<|b2 dg<|ar (ai 4) aD)<|ag<|uc<|ar (ai 4) aD)<|e0 (bt<|az eJ (ai 1)<|ai 4)<|bt<|az eJ (ai 2)<|ai 4))
def r4:d2:=(d6 4 6 [0,1,2,3] yZ)
def Am:bR:=((bE (dy (fK (gB<|gU<|ag<|bP 2 G.sF<|ar (ai 0)<|ar (ai 3) aD)<|fK (bt<|az g6 (ai 1)<|ai 3)<|fK (bt<|az g6 (ai 2)<|ai 3)<|gB<|gU<|ag<|bP 4 G.sy<|ar (ai 0)<|ar (ai 1)<|ar (ai 2)<|ar (ai 3) aD) (dw<|aB<|.ax aq) eo)<|dw<|gW<|e0 (bt<|bP 4 G.r4<|ar (ai 0)<|ar (ai 1)<|ar (ai 2)<|ar (ai 4) aD)<|bt<|az dS (ag<|b2 dg<|ar (ai 4) aD)<|ag<|b2 dg<|ar (ai 3) aD))
def nS:d2:=(d6 5 5 [0,1,2,3,4] Am)
end G
namespace bH
variable{af:Type}[DecidableEq af]
structure de(P:List af)(b:af->af->Prop)(g e:af)(B:af->af)(C:List af):Prop where
 eg:B g=g
 va:B e=e
 fh:∀m,B m≠m->m∈P/\B m∈P/\b (B m) m
 one:∀m v,B m≠m->B v≠v->B m=B v->B m≠g->m=v
 on:∀m,B m≠m->B m≠g->B (B m)≠B m
 ak:C.Nodup
 last:∀t∈C,B t≠t/\b t e/\∀v,B v≠v->B v≠t
 ends:∀m,B m≠m->(∀v,B v≠v->B v≠m)->m∈C
structure Rs(P:List af)(b:af->af->Prop)(g e:af)(B:af->af)(Qu:af->Bool->Prop):Prop where
 start:Qu g X
 back:∀m,Qu m aq->Qu (B m) X
 dt:∀m,Qu m X->Qu m aq
 next:∀m v,Qu m X->b m v->Qu v aq
 yo:¬ Qu e aq
variable{P:List af}{b:af->af->Prop}{g e:af}{B:af->af}{C:List af}{Qu:af->Bool->Prop}
def Cut(Qu:af->Bool->Prop)(m:af):Prop:=(Qu m aq/\¬ Qu m X)
def Cut.fh(Qg:Rs P b g e B Qu){m:af}(c:Cut Qu m):B m≠m:=λd=>c.2 (by have:=Qg.back m c.1;rwa [d]at this)
def it(B:af->af):Nat->af->af
 |0,m=>m
 |r+1,m=>it B r (B m)
theorem iv(B:af->af):∀(r:Nat) (m:af),it B (r+1) m=B (it B r m)
 |0,m=>rfl
 |r+1,m=>iv B r (B m)
theorem up(Qg:Rs P b g e B Qu){m:af}(c:Qu m X):∀r,Qu (it B r m) X
 |0=>c
 |r+1=>by rw[iv];exact Qg.back _ (Qg.dt _<|up Qg c r)
theorem kC(B:af->af)(k:Nat):∀(r:Nat) (m:af),it B (k+r) m=it B k (it B r m)
 |0,m=>rfl
 |r+1,m=>kC B k r (B m)
def de.ne(W:de P b g e B C){m:af}(c:B m≠m):m≠g:=λd=>c (d ▸ W.eg)
theorem de.pull(W:de P b g e B C){m v:af}:∀r:Nat,(∀a,a<=r->B (it B a m)≠it B a m)->(∀a,a<=r->B (it B a v)≠it B a v)->it B r m=it B r v->m=v
 |0,_,_,d=>d
 |r+1,c,f,d=>by
  rw[iv,iv]at d;refine W.pull r (λa S=>c a (by omega)) (λa S=>f a (by omega)) (W.one _ _ (c r (by omega)) (f r (by omega)) d λH=>?_);have:=c (r+1) (bf _);rw[iv,H]at this;exact this W.eg
def de.dist(W:de P b g e B C){t:af}(f:t∈C){a i:Nat}(j:a<i)(c:∀n,n<=i->B (it B n t)≠it B n t):it B a t≠it B i t:=λd=>by
 obtain⟨n,rfl⟩:∃n,i=a+(n+1):=⟨i-a-1,by omega⟩;rw[kC]at d;have:=W.pull a (m:=t) (v:=it B (n+1) t) (λk h=>c k (by omega)) (λk h=>by rw[<-kC];exact c _ (by omega)) d;rw[iv]at this;exact (W.last t f).2.2 _ (c n (by omega)) this.symm
def rW{P:List af}{M:Nat->af}{r:Nat}(d:∀a<r,M a∈P)(e:∀a i,a<i->i<r->M a≠M i):r<=P.length:=by
 have ak:((range r).map M).Nodup:=by
  rw[nk,kx];exact uK.imp_of_mem λ{f I} b g c=>e f I c (eX.mp g)
 have:=ak.length_le_of_subset (l₂:=P) (by
  intro f b;let⟨a,S,rfl⟩:=cJ.mp b;exact d a (eX.mp S))
 rwa [bq,hb]at this
def de.comes(W:de P b g e B C){t:af}(j:t∈C):∃r,it B (r+1) t=g/\∀n,n<=r->B (it B n t)≠it B n t:=by
 have Q6:∃k,B (it B k t)=it B k t:=ko λH=>by
  have all:∀n,B (it B n t)≠it B n t:=λn d=>H ⟨n,d⟩;have:=rW (P:=P) (M:=λn=>it B n t) (r:=P.length+1) (λa U=>(W.fh _<|all a).1) λa i l U=>W.dist j l λn U=>all n;omega
 obtain⟨k,f,lt⟩:∃k,B (it B k t)=it B k t/\∀n<k,B (it B n t)≠it B n t:=by
  let⟨k,f⟩:=Q6;induction k using Nat.strongRecOn with
  |ind k m=>
   by_cases c:∃n<k,B (it B n t)=it B n t
   ·let⟨n,h,d⟩:=c;exact m n h d
   ·exact⟨k,f,λn h d=>c ⟨n,h,d⟩⟩
 cases k with
 |zero=>exact absurd f (W.last t j).1
 |succ r=>
  refine⟨r,ko λH=>?_,λn h=>lt n (by omega)⟩;rw[iv]at f H;exact W.on _ (lt r (by omega)) H f
def de.meets(W:de P b g e B C)(Qg:Rs P b g e B Qu){t:af}(h:t∈C):∃r,Cut Qu (it B r t)/\∀n,n<=r->B (it B n t)≠it B n t:=by
 let⟨QO,j,fh⟩:=W.comes h;have l:¬ Qu (it B 0 t) X:=λH=>Qg.yo (Qg.next _ _ H (W.last t h).2.1);have Q:∀r,r<=QO+1->(∀n,n<=r->¬ Qu (it B n t) X)\/∃n<r,¬ Qu (it B n t) X/\Qu (it B (n+1) t) X:=λr=>by
  induction r with
  |zero=>exact λ_=>.inl λn f=>by rw[wq.mp f];exact l
  |succ r m=>
   intro q;rcases m (by omega) with c|⟨n,f,d⟩
   ·by_cases H:Qu (it B (r+1) t) X
    ·exact .inr ⟨r,by omega,c r<|bf _,H⟩
    ·refine .inl λn f=>?_;rcases e5 n (r+1) with p|p
     ·exact c n (by omega)
     ·rw[show n=r+1 by omega];exact H
   ·exact .inr ⟨n,by omega,d⟩
 rcases Q (QO+1) (bf _) with c|⟨n,f,o,i⟩
 ·exact absurd Qg.start (by have:=c (QO+1) (bf _);rwa [j]at this)
 ·have k:=fh n (by omega);rw[iv]at i;exact⟨n,⟨Qg.next _ _ i (W.fh _ k).2.2,o⟩,λa S=>fh a (by omega)⟩
def Rs.once(Qg:Rs P b g e B Qu){t:af}{r k:Nat}(l:Cut Qu (it B r t))(D:Cut Qu (it B k t)):r=k:=by
 have Q:∀{r k:Nat},r<k->Cut Qu (it B r t)->Cut Qu (it B k t)->False:=λ{r k} c l D=>by
  obtain⟨n,rfl⟩:∃n,k=n+(r+1):=⟨k-r-1,by omega⟩;rw[kC,iv]at D;exact D.2 (up Qg (Qg.back _ l.1) n)
 rcases m7 r k with c|c|c
 ·exact absurd (Q c l D) id
 ·exact c
 ·exact absurd (Q c D l) id
def de.inj(W:de P b g e B C){t k:af}(f:t∈C)(h:k∈C){a i:Nat}(l:∀n,n<=a->B (it B n t)≠it B n t)(D:∀n,n<=i->B (it B n k)≠it B n k)(d:it B a t=it B i k):t=k:=by
 have Q:∀{t k:af},t∈C->k∈C->∀{a i:Nat},a<=i->(∀n,n<=a->B (it B n t)≠it B n t)->(∀n,n<=i->B (it B n k)≠it B n k)->it B a t=it B i k->t=k:=λ{t k} f h {a i} j l D d=>by
  obtain⟨n,rfl⟩:∃n,i=a+n:=⟨i-a,by omega⟩;rw[kC]at d;have:=W.pull a l (λp m=>by rw[<-kC];exact D _ (by omega)) d;cases n with
  |zero=>exact this
  |succ n=>
   rw[iv]at this;exact absurd this.symm ((W.last t f).2.2 _ (D n (by omega)))
 rcases Nat.le_total a i with c|c
 ·exact Q f h c l D d
 ·exact (Q h f c D l d.symm).symm
def de.I3(W:de P b g e B C)(Qg:Rs P b g e B Qu){m:af}(j:Cut Qu m):∃t∈C,∃r,it B r t=m/\∀n,n<=r->B (it B n t)≠it B n t:=by
 have go:∀(h n:Nat) (v:af),P.length+1<=h+n->it B n v=m->(∀a,a<=n->B (it B a v)≠it B a v)->∃t∈C,∃r,it B r t=m/\∀n,n<=r->B (it B n t)≠it B n t:=λh=>by
  induction h with
  |zero=>
   intro n v l d fh;exfalso;have:=rW (P:=P) (M:=λa=>it B a v) (r:=n+1) (λa S=>(W.fh _ (fh a (by omega))).1) λa i w x H=>by
    have H:it B a v=it B i v:=H;obtain⟨p,rfl⟩:∃p,n=p+i:=⟨n-i,by omega⟩;obtain⟨s,rfl⟩:∃s,i=a+(s+1):=⟨i-a-1,by omega⟩;have o:it B (p+a) v=m:=by rw[kC,H,<-kC];exact d
    have q:it B (s+1) m=m:=by
     have:it B ((s+1)+(p+a)) v=m:=by rw[show s+1+(p+a)=p+(a+(s+1)) by omega];exact d
     rw[kC,o]at this;exact this
    exact j.2 (by rw[<-q];exact up Qg (Qg.back _ j.1) s)
   omega
  |succ h u=>
   intro n v l d fh;by_cases c:∃f,B f≠f/\B f=v
   ·let⟨f,k,rfl⟩:=c;refine u (n+1) f (by omega) d λa S=>?_;cases a with
    |zero=>exact k
    |succ a=>exact fh a (by omega)
   ·exact⟨v,W.ends v (fh 0<|fv _) λf k H=>c ⟨f,k,H⟩,n,d,fh⟩
 exact go (P.length+1) 0 m (by omega) rfl λa S=>by rw[wq.mp S];exact Cut.fh Qg j
def de.many(W:de P b g e B C)(Qg:Rs P b g e B Qu)(x:P.Nodup){p:af->Bool}(j:∀m∈P,p m=X↔Cut Qu m):(P.filter p).length=C.length:=by
 have o:∀t:af,∃m:af,t∈C->Cut Qu m/\∃r,it B r t=m/\∀n,n<=r->B (it B n t)≠it B n t:=λt=>by
  by_cases c:t∈C
  ·let⟨r,l,D⟩:=W.meets Qg c;exact⟨_,λ_=>⟨l,r,rfl,D⟩⟩
  ·exact⟨t,λH=>absurd H c⟩
 obtain⟨a,h⟩:∃a:af->af,∀t,t∈C->Cut Qu (a t)/\∃r,it B r t=a t/\∀n,n<=r->B (it B n t)≠it B n t:=⟨λt=>(o t).choose,λt=>(o t).choose_spec⟩;have ak:(C.map a).Nodup:=by
  rw[nk,kx];refine (nk.mp W.ak).imp_of_mem λ{f I} q s c d=>c ?_;let⟨U,r,y,z⟩:=h f q;let⟨U,k,A,E⟩:=h I s;exact W.inj q s z E (by rw[y,A,d])
 have T:(P.filter p).Perm (C.map a):=(yt (x.filter _) ak).mpr λm=>by
  rw[gn,cJ];constructor
  ·rintro⟨l,D⟩;have u:=(j m l).mp D;let⟨t,i,r,d,fh⟩:=W.I3 Qg u;let⟨F,k,v,U⟩:=h t i;refine⟨t,i,?_⟩;rw[<-v,<-d,Qg.once (t:=t) (r:=k) (k:=r) (by rw[v];exact F) (by rw[d];exact u)]
  ·rintro⟨t,i,rfl⟩;have:=(h t i).1;have w:=(W.fh _<|Cut.fh Qg this).1;exact⟨w,(j _ w).mpr this⟩
 rw[T.length_eq,bq]
end bH
namespace bH
variable{af:Type}[DecidableEq af]{P:List af}{b:af->af->Prop}{g e:af}{B M:af->af}{C:List af}
structure ow(P:List af)(b:af->af->Prop)(g e:af)(B M:af->af)(n:Nat)(m v:Nat->af):Prop where
 jK:v 0=g
 ds:∀a<n,v (a+1)=B (m a)
 step:∀a<n,m a=v a\/b (v a) (m a)
 ci:∀a i,a<n->i<n->m a=m i->a=i
 p5:∀a i,a<=n->i<=n->v a=v i->a=i
 nb:∀a<n,m a≠e
 cY:∀a<n,M (m a)=v a
 e1:∀f,(∀a<n,m a≠f)->M f=B f
variable{n:Nat}{m v:Nat->af}
def ow.na(W:de P b g e B C)(Qf:ow P b g e B M n m v){a:Nat}(S:a<n):m a≠g:=λd=>by
 have:=Qf.ds a S;rw[d,W.eg,<-Qf.jK]at this;exact absurd (Qf.p5 _ _ (by omega) (by omega) this) (by omega)
def ow.out(Qf:ow P b g e B M n m v){a:Nat}(S:a<=n)(c:v a≠g):∃i<n,a=i+1/\v a=B (m i):=by
 cases a with
 |zero=>exact absurd Qf.jK c
 |succ i=>exact⟨i,by omega,rfl,Qf.ds i (by omega)⟩
def lay(W:de P b g e B C)(Qf:ow P b g e B M n m v)(D:∀f I,b f I->f∈P/\I∈P)(E:b (v n) e)(O:¬ b g e):de P b g e M (C++[v n]):=by
 have G:v n≠g:=λd=>O (by rw[<-d];exact E);have r:∀f,(∃a<n,m a=f)\/∀a<n,m a≠f:=λf=>by
  by_cases c:∃a<n,m a=f
  ·exact .inl c
  ·exact .inr λa S d=>c ⟨a,S,d⟩
 have y:∀t∈C,∀a,a<=n->v a≠t:=λt q a S d=>by
  have A:=(W.last t q).1;let⟨i,j,rfl,o⟩:=Qf.out S (by rw[d];exact W.ne A);rw[d]at o;by_cases k:B (m i)=m i
  ·rw[k]at o;rw[o]at A;exact A k
  ·exact (W.last t q).2.2 _ k o.symm
 have x:∀f,B f≠f->(∀a<n,m a≠f)->B f≠g->∀a,a<=n->v a≠B f:=λf h bp z a S d=>by
  let⟨i,j,rfl,o⟩:=Qf.out S (by rw[d];exact z);rw[d]at o;by_cases k:B (m i)=m i
  ·have:=W.on f h z;rw[o,k,k]at this;exact this rfl
  ·exact bp i j (W.one _ _ k h o.symm (by rw[<-o];exact z))
 have L:∀a,a<=n->v a≠g->(∀i<n,m i≠v a)->B (v a)≠v a:=λa S z Q=>by
  let⟨i,j,rfl,o⟩:=Qf.out S z;by_cases k:B (m i)=m i
  ·rw[k]at o;exact absurd o.symm (Q i j)
  ·rw[o];exact W.on _ k (by rw[<-o];exact z)
 refine⟨?_,?_,λf h=>?_,λf I h s d z=>?_,λf h z=>?_,?_,λt q=>?_,λf h bp=>?_⟩
 ·rw[Qf.e1 g λa S=>Qf.na W S];exact W.eg
 ·rw[Qf.e1 e λa S=>Qf.nb a S];exact W.va
 ·rcases r f with ⟨a,S,rfl⟩|c
  ·rw[Qf.cY a S]at h ⊢;have ad:=(Qf.step a S).resolve_left λH=>h H.symm;exact⟨(D _ _ ad).2,(D _ _ ad).1,ad⟩
  ·rw[Qf.e1 f c]at h ⊢;exact W.fh f h
 ·rcases r f with ⟨a,S,rfl⟩|u<;>rcases r I with ⟨i,j,rfl⟩|l
  ·rw[Qf.cY a S,Qf.cY i j]at d;rw[Qf.p5 a i (by omega) (by omega) d]
  ·rw[Qf.cY a S,Qf.e1 I l]at d;rw[Qf.cY a S,d]at z;rw[Qf.e1 I l]at s;exact absurd d (x I s l z a (by omega))
  ·rw[Qf.e1 f u,Qf.cY i j]at d;rw[Qf.e1 f u]at z h;exact absurd d.symm (x f h u z i (by omega))
  ·rw[Qf.e1 f u,Qf.e1 I l]at d;rw[Qf.e1 f u]at z h;rw[Qf.e1 I l]at s;exact W.one f I h s d z
 ·rcases r f with ⟨a,S,rfl⟩|u
  ·rw[Qf.cY a S]at h z ⊢;rcases r (v a) with ⟨i,j,w⟩|c
   ·rw[<-w,Qf.cY i j,w];intro H;have:=Qf.p5 i a (by omega) (by omega) H;subst this;exact h w.symm
   ·rw[Qf.e1 _ c];exact L a (by omega) z c
  ·rw[Qf.e1 f u]at h z ⊢;rcases r (B f) with ⟨i,j,w⟩|c
   ·rw[<-w,Qf.cY i j,w];exact x f h u z i (by omega)
   ·rw[Qf.e1 _ c];exact W.on f h z
 ·refine dp.mpr ⟨W.ak,by simp,λf u I l d=>?_⟩;rw[cV]at l;subst d l;exact y _ u n (bf _) rfl
 ·rcases dK.mp q with q|q
  ·refine⟨?_,(W.last t q).2.1,λI s d=>?_⟩
   ·rcases r t with ⟨a,S,rfl⟩|c
    ·rw[Qf.cY a S];exact y _ q a (by omega)
    ·rw[Qf.e1 t c];exact (W.last t q).1
   ·rcases r I with ⟨i,j,rfl⟩|l
    ·rw[Qf.cY i j]at d;exact y t q i (by omega) d
    ·rw[Qf.e1 I l]at d s;exact (W.last t q).2.2 I s d
  ·rw[cV]at q;subst q;refine⟨?_,E,λI s d=>?_⟩
   ·rcases r (v n) with ⟨i,j,w⟩|c
    ·rw[<-w,Qf.cY i j,w];intro H;exact absurd (Qf.p5 i n (by omega) (bf _) H) (by omega)
    ·rw[Qf.e1 _ c];exact L n (bf _) G c
   ·rcases r I with ⟨i,j,rfl⟩|l
    ·rw[Qf.cY i j]at d;exact absurd (Qf.p5 i n (by omega) (bf _) d) (by omega)
    ·rw[Qf.e1 I l]at d s;exact x I s l (by rw[d];exact G) n (bf _) d.symm
 ·by_cases N:∃a,a<=n/\v a=f
  ·let⟨a,S,rfl⟩:=N;rcases e5 a n with p|p
   ·exfalso;refine bp (m a) ?_ (Qf.cY a p);rw[Qf.cY a p];intro H;rw[H,Qf.cY a p,H]at h;exact h rfl
   ·rw[show a=n by omega];exact dP _ (.head _)
  ·have ak:∀a,a<=n->v a≠f:=λa S d=>N ⟨a,S,d⟩;refine dQ _ (W.ends f ?_ λI s d=>?_)
   ·rcases r f with ⟨a,S,rfl⟩|c
    ·exact λH=>ak (a+1) (by omega) ((Qf.ds a S).trans H)
    ·rw[Qf.e1 f c]at h;exact h
   ·rcases r I with ⟨i,j,rfl⟩|l
    ·exact ak (i+1) (by omega) ((Qf.ds i j).trans d)
    ·exact bp I (by rw[Qf.e1 I l];exact s) (by rw[Qf.e1 I l];exact d)
end bH
namespace bH
variable{af:Type}[DecidableEq af]{P:List af}{b:af->af->Prop}{g e:af}{B M:af->af}{C:List af}
def uA(B:af->af)(b:af->af->Prop)(q h:af×Bool):Prop:=((q.2=aq/\h=(B q.1,X))\/(q.2=X/\h.2=aq/\(h.1=q.1\/b q.1 h.1)))
structure kI(B:af->af)(b:af->af->Prop)(g:af)(Qo:List ((af×Bool)×Option (af×Bool))):Prop where
 ak:(Qo.map (·.1)).Nodup
 par:∀(a:Nat) (h q:af×Bool),Qo[a]?=Z (h,Z q)->∃i<a,∃p,Qo[i]?=Z (q,p)/\uA B b q h
 root:∀(a:Nat) (h:af×Bool),Qo[a]?=Z (h,Y)->h=(g,X)
variable{Qo:List ((af×Bool)×Option (af×Bool))}
structure mq(B:af->af)(b:af->af->Prop)(g:af)(Qo:List ((af×Bool)×Option (af×Bool)))(n:Nat)(m v:Nat->af)(s j:Nat->Nat):Prop where
 jK:v 0=g
 hP:Qo[j 0]?=Z ((g,X),Y)
 ds:∀a<n,v (a+1)=B (m a)
 step:∀a<n,m a=v a\/b (v a) (m a)
 lc:∀a<n,Qo[s a]?=Z ((m a,aq),Z (v a,X))
 ld:∀a<n,Qo[j (a+1)]?=Z ((v<|a+1,X),Z (m a,aq))
 aZ:∀a<n,j a<s a
 bh:∀a<n,s a<j (a+1)
def kI.path(Qc:kI B b g Qo):∀(a:Nat) {f:af}{p:Option (af×Bool)},Qo[a]?=Z ((f,X),p)->∃n m v s j,mq B b g Qo n m v s j/\v n=f/\j n=a:=by
 intro a;induction a using Nat.strongRecOn with
 |ind a x=>
  intro f p c;cases p with
  |none=>
   have d:=Qc.root a _ c;have Q6:f=g:=congrArg Prod.fst d;subst Q6;exact⟨0,λ_=>f,λ_=>f,λ_=>a,λ_=>a,⟨rfl,c,λ_ H=>absurd H (by omega),λ_ H=>absurd H (by omega),λ_ H=>absurd H (by omega),λ_ H=>absurd H (by omega),λ_ H=>absurd H (by omega),λ_ H=>absurd H (by omega)⟩,rfl,rfl⟩
  |some q=>
   let⟨i,y,z,o,d⟩:=Qc.par a _ q c;let⟨I,A⟩:=q;rcases d with ⟨r,t⟩|⟨_,t,_⟩
   ·have r:A=aq:=r;subst r;have Q6:f=B I:=congrArg Prod.fst t;cases z with
    |none=>have:=congrArg Prod.snd (Qc.root i _ o);cases this
    |some u=>
     let⟨C,D,N,E,F⟩:=Qc.par i _ u o;let⟨H,G⟩:=u;rcases F with ⟨_,e⟩|⟨e,_,L⟩
     ·have:=congrArg Prod.snd e;cases this
     ·have e:G=X:=e;subst e;let⟨n,m,v,s,j,Qf,w,M⟩:=x C (by omega) E;refine⟨n+1,λk=>if k<n then m k else I,λk=>if k<=n then v k else f,λk=>if k<n then s k else i,λk=>if k<=n then j k else a,⟨?_,?_,λk h=>?_,λk h=>?_,λk h=>?_,λk h=>?_,λk h=>?_,λk h=>?_⟩,?_,?_⟩
      ·simpa using Qf.jK
      ·simpa using Qf.hP
      ·by_cases l:k<n
       ·simp only[aE l,aE (show k+1<=n by omega)];exact Qf.ds k l
       ·simp only[aI l,aI (show ¬ k+1<=n by omega)];exact Q6
      ·by_cases l:k<n
       ·simp only[aE l,aE (show k<=n by omega)];exact Qf.step k l
       ·simp only[aI l,aE (show k<=n by omega)];rw[show k=n by omega,w];exact L
      ·by_cases l:k<n
       ·simp only[aE l,aE (show k<=n by omega)];exact Qf.lc k l
       ·simp only[aI l,aE (show k<=n by omega)];rw[show k=n by omega,w];exact o
      ·by_cases l:k<n
       ·simp only[aE l,aE (show k+1<=n by omega)];exact Qf.ld k l
       ·simp only[aI l,aI (show ¬ k+1<=n by omega)];exact c
      ·by_cases l:k<n
       ·simp only[aE l,aE (show k<=n by omega)];exact Qf.aZ k l
       ·simp only[aI l,aE (show k<=n by omega)];rw[show k=n by omega,M];exact D
      ·by_cases l:k<n
       ·simp only[aE l,aE (show k+1<=n by omega)];exact Qf.bh k l
       ·simp only[aI l,aI (show ¬ k+1<=n by omega)];exact y
      ·simp only[aI (show ¬ n+1<=n by omega)]
      ·simp only[aI (show ¬ n+1<=n by omega)]
   ·cases t
def kI.k9(Qc:kI B b g Qo){a i:Nat}{h:af×Bool}{p s:Option (af×Bool)}(l:Qo[a]?=Z (h,p))(D:Qo[i]?=Z (h,s)):a=i:=by
 have lt:a<(Qo.map (·.1)).length:=by rw[bq];exact (e9.mp l).1
 exact (List.getElem?_inj lt Qc.ak).mp (by rw[eG,eG,l,D];rfl)
section
variable{n:Nat}{m v:Nat->af}{s j:Nat->Nat}
theorem mq.up(Qf:mq B b g Qo n m v s j){a:Nat}:∀{i:Nat},a<=i->i<=n->j a<=j i
 |0,c,_=>by rw[wq.mp c];exact bf _
 |i+1,c,d=>by
  rcases e5 a (i+1) with p|p
  ·have:=Qf.up (a:=a) (i:=i) (by omega) (by omega);have:=Qf.aZ i (by omega);have:=Qf.bh i (by omega);omega
  ·rw[show a=i+1 by omega];exact bf _
def mq.xY(Qf:mq B b g Qo n m v s j){a:Nat}(S:a<=n):∃p,Qo[j a]?=Z ((v a,X),p):=by
 cases a with
 |zero=>exact⟨Y,by rw[Qf.jK];exact Qf.hP⟩
 |succ a=>exact⟨_,Qf.ld a (by omega)⟩
def kI.bK(Qc:kI B b g Qo)(Qf:mq B b g Qo n m v s j)(F:∀a<n,m a≠e)(cY:∀a<n,M (m a)=v a)(e1:∀f,(∀a<n,m a≠f)->M f=B f):ow P b g e B M n m v:=by
 refine⟨Qf.jK,Qf.ds,Qf.step,λa i S c d=>?_,λa i S c d=>?_,F,cY,e1⟩
 ·have l:=Qf.lc a S;rw[d]at l;have:=Qc.k9 l (Qf.lc i c);rcases m7 a i with p|p|p
  ·have:=Qf.up (a:=a+1) (i:=i) (by omega) (by omega);have:=Qf.bh a S;have:=Qf.aZ i c;omega
  ·exact p
  ·have:=Qf.up (a:=i+1) (i:=a) (by omega) (by omega);have:=Qf.bh i c;have:=Qf.aZ a S;omega
 ·let⟨W,l⟩:=Qf.xY S;let⟨W,D⟩:=Qf.xY c;rw[d]at l;have:=Qc.k9 l D;rcases m7 a i with p|p|p
  ·have:=Qf.up (a:=a+1) (i:=i) (by omega) (by omega);have:=Qf.bh a (by omega);have:=Qf.aZ a (by omega);omega
  ·exact p
  ·have:=Qf.up (a:=i+1) (i:=a) (by omega) (by omega);have:=Qf.bh i (by omega);have:=Qf.aZ i (by omega);omega
end
end bH
namespace bH
variable{af:Type}[DecidableEq af]{P:List af}{b:af->af->Prop}{g e:af}{B M:af->af}{C:List af}
def dt(B:af->af)(t:af)(r:Nat):List af:=((range<|r+1).map λa=>it B a t)
def kS(B:af->af)(g t:af)(r:Nat):Prop:=(it B (r+1) t=g/\∀n,n<=r->B (it B n t)≠it B n t)
def de.nb(W:de P b g e B C){m:af}(c:B m≠m):m≠e:=λd=>c (d ▸ W.va)
def qH{t f:af}{r:Nat}:f∈dt B t r↔∃a,a<=r/\it B a t=f:=by
 unfold dt;rw[cJ];exact⟨λ⟨a,S,d⟩=>⟨a,by rw[eX]at S;omega,d⟩,λ⟨a,S,d⟩=>⟨a,eX.mpr (by omega),d⟩⟩
def de.M0(W:de P b g e B C){t:af}(a:t∈C){r:Nat}(c:kS B g t r):(dt B t r).Nodup:=by
 unfold dt;rw[nk,kx];exact uK.imp_of_mem λ{f I} h d p=>W.dist a p λn i=>c.2 n (by rw[eX]at d;omega)
def de.C8(W:de P b g e B C){t f:af}{r:Nat}(c:kS B g t r)(d:f∈dt B t r):f∈P/\f≠g/\f≠e:=by
 let⟨a,S,rfl⟩:=qH.mp d;have k:=c.2 a S;exact⟨(W.fh _ k).1,W.ne k,W.nb k⟩
def de.apart(W:de P b g e B C){t k f:af}(c:t∈C)(d:k∈C){a i:Nat}(l:kS B g t a)(D:kS B g k i)(h:f∈dt B t a)(j:f∈dt B k i):t=k:=by
 let⟨q,s,m⟩:=qH.mp h;let⟨p,u,o⟩:=qH.mp j;exact W.inj c d (λn r=>l.2 n (by omega)) (λn r=>D.2 n (by omega)) (m.trans o.symm)
def de.Kf(W:de P b g e B C){r:af->Nat}(c:∀t∈C,kS B g t<|r t):(C.flatMap λt=>dt B t<|r t).Nodup:=by
 have Q:∀h:List af,h.Nodup->(∀t∈h,t∈C)->(h.flatMap λt=>dt B t<|r t).Nodup:=λh=>by
  induction h with
  |nil=>intro U U;exact hi
  |cons k h j=>
   intro ak sub;rw[iw]at ak;rw[q_];refine dp.mpr ⟨W.M0 (sub k<|.head _)<|c k<|sub k<|.head _,j ak.2 λt a=>sub t<|.tail _ a,λf l I i d=>?_⟩;subst d;let⟨t,a,i⟩:=y6.mp i;exact ak.1 (W.apart (sub k<|.head _) (sub t<|.tail _ a) (c k<|sub k<|.head _) (c t<|sub t<|.tail _ a) l i ▸ a)
 exact Q C W.ak λt a=>a
def de.steps(W:de P b g e B C){t:af}{r:Nat}(c:kS B g t r){a:Nat}(S:a<=r):b (it B (a+1) t) (it B a t):=by
 rw[iv];exact (W.fh _<|c.2 a S).2.2
def de.dO(W:de P b g e B C){bs:List af}(c:∀f,b f e->f∈bs):C.length<=bs.length:=by
 have:=W.ak.length_le_of_subset (l₂:=bs) λf a=>c f (W.last f a).2.1;exact this
def de.nil:de P b g e id []:=⟨rfl,rfl,λm c=>absurd rfl c,λm v c=>absurd rfl c,λm c=>absurd rfl c,hi,(λt a=>absurd a i9),λm c=>absurd rfl c⟩
def Rs.of{Qu:af->Bool->Prop}(f:Qu g X)(a:∀h w,Qu h.1 h.2->uA B b h w->Qu w.1 w.2)(F:¬ Qu e aq):Rs P b g e B Qu:=
 ⟨f,λm c=>a (m,aq) (B m,X) c<|.inl ⟨rfl,rfl⟩,λm c=>a (m,X) (m,aq) c<|.inr ⟨rfl,rfl,.inl rfl⟩,λm v c d=>a (m,X) (v,aq) c<|.inr ⟨rfl,rfl,.inr d⟩,F⟩
end bH
namespace G
open L2
variable{J E C aa:List aL}{k:Int}{H e t g I f m:aL}{U:Option aj}{QG:Type}{r a:Nat}{A:a6}{B:aL->aL}
abbrev cF:=aL×Bool
variable{R QA W:List cF}{x w h:cF}
def uf:Bool->V
 |false=>.str "in"
 |true=>.str "out"
def gV(h:cF):List V:=([ab h.1,uf h.2])
def bB(h:cF):V:=(.tup (gV h))
def CM(c:gV h=gV w):h=w:=by
 let⟨m,o⟩:=h;let⟨v,q⟩:=w;unfold gV at c;simp only[Nk,and_true]at c;rw[BB];refine⟨Dw c.1,?_⟩;cases o<;>cases q
 ·rfl
 ·exact absurd c.2 ∅
 ·exact absurd c.2 ∅
 ·rfl
def xB(h:cF):V.keys 7 (gV h)=X:=by let⟨m,o⟩:=h;cases o<;>rfl
def bw(aa:List aL)(B:aL->aL):List (List V×V):=(aa.map λm=>(c8 m,ab<|B m))
def xA(c:m∈aa):dH (bw aa B) (c8 m)=Z (ab<|B m):=by
 induction aa with
 |nil=>cases c
 |cons f s a=>
  unfold dH bw;rw[cH,jm];by_cases d:f=m
  ·subst d;simp
  ·have:decide (c8 f=c8 m)=aq:=cW λH=>d (lJ H);rw[this];exact a ((cj.mp c).resolve_left λH=>d H.symm)
def Aw(aa:List aL)(B:aL->aL)(m:aL):(dH (bw aa B)<|c8 m).isSome=decide (m∈aa):=by
 by_cases c:m∈aa
 ·rw[xA c,dk c];rfl
 ·rw[cW c,qR,Bool.eq_false_iff];intro H;let⟨q,a,d⟩:=qN.mp H;let⟨f,b,rfl⟩:=cJ.mp a;exact c (lJ (hS d) ▸ b)
def kf(B:aL->aL)(f I:aL):aL->aL:=(λH=>if H=f then I else B H)
def OY(c:f∈aa):fO (bw aa B) (c8 f) (ab I)=bw aa (kf B f I):=by
 unfold fO;have:=Aw aa B f;rw[qR,dk c]at this;rw[aE this];unfold bw;rw[gs];refine oK λm W=>?_;show (if c8 m=c8 f then (c8 m,ab I) else (c8 m,ab<|B m))=(c8 m,ab<|kf B f I m);unfold kf;by_cases d:m=f
 ·rw[aE (by rw[d]),aE d]
 ·rw[aI λH=>d<|lJ H,aI d]
abbrev fx:=List (cF×Option cF)
variable{Qo:fx}
def qP:Option cF->V
 |none=>.aT
 |some h=>bB h
def ct(Qo:fx):List (List V×V):=(Qo.map λq=>(gV q.1,qP q.2))
abbrev cy(Qo:fx):List cF:=Qo.map (·.1)
def Gx(ak:(cy Qo).Nodup){h:cF}{p:Option cF}(c:(h,p)∈Qo):dH (ct Qo) (gV h)=Z (qP p):=by
 induction Qo with
 |nil=>cases c
 |cons f s a=>
  unfold dH ct;rw[cH,jm];replace ak:=iw.mp (show (f.1::cy s).Nodup from ak);by_cases d:f.1=h
  ·have:f=(h,p):=by
    rcases cj.mp c with c|c
    ·exact c.symm
    ·exact absurd (cJ.mpr ⟨_,c,rfl⟩) (d ▸ ak.1)
   subst this;simp
  ·have:decide (gV f.1=gV h)=aq:=cW λH=>d (CM H);rw[this];exact a ak.2 ((cj.mp c).resolve_left λH=>d (by rw[<-H]))
def BS(Qo:fx)(h:cF):((ct Qo).any λq=>decide (q.1=gV h))=decide (h∈cy Qo):=by
 rw[qK,qN,jF,cJ];constructor
 ·rintro⟨q,b,d⟩;let⟨f,a,rfl⟩:=cJ.mp b;exact⟨f,a,CM<|hS d⟩
 ·rintro⟨f,a,rfl⟩;exact⟨_,cJ.mpr ⟨f,a,rfl⟩,dk rfl⟩
def JC(Qo:fx)(h:cF):(dH (ct Qo)<|gV h).isSome=decide (h∈cy Qo):=by rw[qR,BS]
def Kh{p:Option cF}(c:h∉cy Qo):fO (ct Qo) (gV h) (qP p)=ct (Qo++[(h,p)]):=by
 unfold fO;rw[aI (by rw[BS,cW c];exact df)];unfold ct;rw[fp];rfl
def wJ(Qo:fx)(h:cF):eH (bB h) (.aJ<|ct Qo)=Z (decide (h∈cy Qo)):=by
 unfold bB;rw[A5,aE<|xB h,JC]
def Nm(aa:List aL)(B:aL->aL)(m:aL):eH (ab m) (.aJ<|bw aa B)=Z (decide (m∈aa)):=by
 show eH (.tup<|c8 m) _=_;rw[A5,aE<|mL m,Aw]
def OA(m:aL):n5 [.im (ab m)]=Z (a5<|c0 m,[.im (ab m)]):=rfl
def hT(aa:List aL)(B:aL->aL)(h:cF):List cF:=(if h.2 then (h.1,aq)::((c0 h.1).filter λv=>decide (v∈aa)).map λv=>(v,aq) else [(B h.1,X)])
def Oa(m:aL):(c0 m).length=4:=rfl
def LA(Qj:h.1∈aa):oC [.aJ (bw aa B),.im<|bB h]=Z (.lst<|(hT aa B h).map bB,[.aJ (bw aa B),.im<|bB h]):=by
 let⟨m,o⟩:=h;have a:bG (.aJ<|bw aa B) (.im<|ab m)=Z (.im<|ab<|B m):=by
  show (if V.keys 7 (c8 m)=X then (dH (bw aa B)<|c8 m).map aj.im else Y)=_;rw[aE (mL m),xA Qj];rfl
 cases o with
 |false=>
  unfold oC xv;refine hI (A:=[Z (.aJ<|bw aa B),Z<|.im<|bB (m,aq),Z<|.im<|ab m]) rfl (cq (Qn:=[Z (.aJ<|bw aa B),Z<|.im<|bB (m,aq),Z<|.im<|ab m]) rfl ?_) rfl;refine zk ?_;refine oj (Qn:=[Z (.aJ<|bw aa B),Z<|.im<|bB (m,aq),Z<|.im<|ab m]) rfl (jc<|FK (cA (bF<|sb (cA (bF<|eM a) rfl) rfl (mn rfl) rfl) rfl) rfl (mn rfl) rfl)
 |true=>
  unfold oC xv;refine hI (A:=[Z (.aJ<|bw aa B),Z<|.im<|bB (m,X),Z<|.im<|ab m]) rfl (cq (Qn:=[Z (.aJ<|bw aa B),Z<|.im<|bB (m,X),Z<|.im<|ab m]) rfl<|cq (Qn:=[Z (.aJ<|bw aa B),Z<|.im<|bB (m,X),Z<|.im<|ab m]) rfl<|jc ?_) rfl;have ee:cO 1 [0] (cR<|ag<|bP 1 G.n5<|ar (ai 2) aD) (bJ 0) G.zq G.zY [Z (.aJ<|bw aa B),Z<|.im<|bB (m,X),Z<|.im<|ab m]=Z (.lst<|((c0 m).filter λv=>decide (v∈aa)).map λv=>bB (v,aq),[Z (.aJ<|bw aa B),Z<|.im<|bB (m,X),Z<|.im<|ab m]):=by
   refine iW (y:=(c0 m).map ab) (o:=Y) (Qn:=[Z (.aJ<|bw aa B),Z<|.im<|bB (m,X),Z<|.im<|ab m]) rfl (k8 ab (λv=>decide (v∈aa)) (λv=>bB (v,aq)) _ [] (λv W=>?_) (by rw[Oa];decide)) rfl;refine⟨[Z (.im<|ab v),Z<|.aJ<|bw aa B],[Z (.im<|ab v),Z<|.aJ<|bw aa B],rfl,dn<|eM ?_,λ_=>rfl,λ_=>⟨[Z (.im<|ab v),Z<|.aJ<|bw aa B],rfl,rfl⟩⟩;show (eH (ab v)<|.aJ<|bw aa B).map (λs=>aj.im<|.ax s)=_;rw[Nm];rfl
  refine dm (bF rfl) (bF ee) rfl rfl ?_;have b:(((c0 m).filter λv=>decide (v∈aa)).map λv=>bB (v,aq)).length<=4:=by
   rw[bq];exact rh _ _
  show (if [bB (m,aq)].length+_<=100000 then Z (aj.lst<|[bB (m,aq)]++_) else Y)=_;rw[aE (by rw[gq];lia)];unfold hT;rw[aE rfl,cH,gs];rfl
def AA{M:ay aj}{Qn:a6}{m b v:aj}{n:V}(d:M A=Z (.im n,A))(c:A[a]?=Z (Z m))(e:jh m (.im n) v=Z b)(f:A.set a (Z b)=Qn):j9 a M jh v A=Z Qn:=by
 unfold j9;rw[c];show (M A).bind _=_;rw[d];show (match A[a]? with|some (Z m)=>(jh m (.im n) v).map λb=>A.set a (Z b)|_=>Y)=_;rw[c];show (jh m (.im n) v).map _=_;rw[e,<-f];rfl
def iG(aa:List aL)(f I:aL):Prop:=(f∈aa/\I∈aa/\I∈c0 f)
structure gj(aa:List aL)(B:aL->aL)(g:aL)(Qo:fx)(W QA:List cF)(x:cF)(R:List cF):Prop where
 fS:bH.kI B (iG aa) g Qo
 hP:Qo[0]?=Z ((g,X),Y)
 inf:∀h∈cy Qo,h.1∈aa
 gM:∀h∈W,h∈cy Qo
 eD:∀h∈QA,h∈cy Qo
 cl:∀h∈cy Qo,h∉W->h∉QA->∀w∈hT aa B h,w∈cy Qo\/(h=x/\w∈R)
def zi(Qj:h.1∈aa)(c:w∈hT aa B h):bH.uA B (iG aa) h w:=by
 let⟨m,o⟩:=h;cases o with
 |false=>exact .inl ⟨rfl,cV.mp c⟩
 |true=>
  rcases cj.mp c with rfl|c
  ·exact .inr ⟨rfl,rfl,.inl rfl⟩
  ·let⟨v,a,rfl⟩:=cJ.mp c;let⟨l,D⟩:=gn.mp a;exact .inr ⟨rfl,rfl,.inr ⟨Qj,hS D,l⟩⟩
def GU(c:bH.uA B (iG aa) h w):w∈hT aa B h:=by
 let⟨m,o⟩:=h;rcases c with ⟨l,D⟩|⟨l,D,a⟩
 ·cases l;rw[D];exact .head _
 ·cases l;let⟨v,q⟩:=w;cases D;rcases a with a|⟨_,b,d⟩
  ·cases a;exact .head _
  ·exact .tail _ (cJ.mpr ⟨v,gn.mpr ⟨d,dk b⟩,rfl⟩)
def Ph(a:∀m∈aa,B m∈aa){h w:cF}(Qj:h.1∈aa)(c:w∈hT aa B h):w.1∈aa:=by
 rcases zi Qj c with ⟨_,d⟩|⟨_,_,d|d⟩
 ·rw[d];exact a _ Qj
 ·rw[d];exact Qj
 ·exact d.2.1
def gj.len(Qu:gj aa B g Qo W QA x R):Qo.length<=2*aa.length:=by
 have:=Qu.fS.ak.length_le_of_subset (l₂:=(aa.map λm=>(m,aq))++aa.map λm=>(m,X)) λh Qj=>by
  have c:=Qu.inf h Qj;let⟨m,o⟩:=h;cases o with
  |false=>exact dQ _ (cJ.mpr ⟨m,c,rfl⟩)
  |true=>exact dP _ (cJ.mpr ⟨m,c,rfl⟩)
 rw[dF,bq,bq,bq]at this;lia
def gj.skip(Qu:gj aa B g Qo W QA x (w::R))(c:w∈cy Qo):gj aa B g Qo W QA x R:=
 ⟨Qu.fS,Qu.hP,Qu.inf,Qu.gM,Qu.eD,λh Qj l D L b=>by
  rcases Qu.cl h Qj l D L b with H|⟨H,a⟩
  ·exact .inl H
  ·rcases cj.mp a with rfl|a
   ·exact .inl c
   ·exact .inr ⟨H,a⟩⟩
def gj.put(s:∀m∈aa,B m∈aa){g:aL}{Qo:fx}{W QA:List cF}{x w:cF}{R:List cF}(Qu:gj aa B g Qo W QA x (w::R))(n:x∈cy Qo)(ba:w∈hT aa B x)(c:w∉cy Qo):gj aa B g (Qo++[(w,Z x)]) W (QA++[w]) x R:=by
 have b:cy (Qo++[(w,Z x)])=cy Qo++[w]:=by unfold cy;rw[fp];rfl
 have o:=Qu.inf x n;refine⟨⟨?_,λa h q d=>?_,λa h d=>?_⟩,?_,λh Qj=>?_,λh Qj=>?_,λh Qj=>?_,λh Qj l D L t=>?_⟩
 ·show (cy<|Qo++[(w,Z x)]).Nodup;rw[b];exact dp.mpr ⟨Qu.fS.ak,fi _ _,λf j I u d=>c (by rw[cV.mp u]at d;rw[<-d];exact j)⟩
 ·rcases e5 a Qo.length with S|S
  ·rw[ij S]at d;let⟨i,e,p,v,y⟩:=Qu.fS.par a h q d;exact⟨i,e,p,by rw[ij ⋯];exact v,y⟩
  ·have z:a=Qo.length:=by
    have:=(e9.mp d).1;rw[dF,gq]at this;lia
   subst z;rw[jo (bf _),sA]at d;cases d;let⟨f,j,d⟩:=cJ.mp n;let⟨i,e,A⟩:=k5.mp j;refine⟨i,e,f.2,?_,zi o ba⟩;rw[ij e,eb e,A,<-d]
 ·rcases e5 a Qo.length with S|S
  ·rw[ij S]at d;exact Qu.fS.root a h d
  ·rw[jo S]at d;rcases yL (a-Qo.length) with H|H
   ·rw[H]at d;cases d
   ·obtain⟨r,C⟩:∃r,a-Qo.length=r+1:=⟨a-Qo.length-1,⋯⟩;rw[C]at d;cases d
 ·have:0<Qo.length:=(e9.mp Qu.hP).1;rw[ij this];exact Qu.hP
 ·rw[b]at Qj;rcases dK.mp Qj with Qj|Qj
  ·exact Qu.inf h Qj
  ·rw[cV.mp Qj];exact Ph s o ba
 ·rw[b];exact dQ _ (Qu.gM h Qj)
 ·rw[b];rcases dK.mp Qj with Qj|Qj
  ·exact dQ _ (Qu.eD h Qj)
  ·exact dP _ Qj
 ·rw[b]at Qj ⊢;have E:h∈cy Qo:=(dK.mp Qj).resolve_right λH=>D (dP _ H);rcases Qu.cl h E l (λH=>D<|dQ _ H) L t with H|⟨H,k⟩
  ·exact .inl (dQ _ H)
  ·rcases cj.mp k with rfl|k
   ·exact .inl (dP _<|.head _)
   ·exact .inr ⟨H,k⟩
abbrev gA(aa:List aL)(B:aL->aL)(g:aL)(Qo:fx)(M:Option aj)(QA:List cF)(z O:Option aj):a6:=[Z (.aJ<|bw aa B),Z<|.im<|ab g,Z<|.im<|bB (g,X),Z<|.aJ<|ct Qo,M,Z<|.lst<|QA.map bB,z,O]
def M6(n:aa.length<=1000)(f:∀m∈aa,B m∈aa){g:aL}{Qo:fx}{W QA:List cF}{x w:cF}{R:List cF}{M:Option aj}(Qu:gj aa B g Qo W QA x (w::R))(i:x∈cy Qo)(ba:w∈hT aa B x)(o:QA.length<=Qo.length):
  ∃a e,qL (gA aa B g Qo M QA (Z<|.im<|bB x)<|Z<|.im<|bB w)=Z (.bp,gA aa B g a M e (Z<|.im<|bB x)<|Z<|.im<|bB w)/\gj aa B g a W e x R/\(∀h∈cy Qo,h∈cy a)/\a.length+QA.length=Qo.length+e.length:=by
 have q:=Qu.len;have b:eJ (.im<|bB w) (.aJ<|ct Qo)=Z (.im<|.ax<|!decide (w∈cy Qo)):=by
  show (eH (bB w)<|.aJ<|ct Qo).map (λs=>aj.im<|.ax<|!s)=_;rw[wJ];rfl
 by_cases c:w∈cy Qo
 ·rw[dk c]at b;exact⟨Qo,QA,fU (dn<|eM b) rfl,Qu.skip c,λh Qj=>Qj,rfl⟩
 ·rw[cW c]at b;refine⟨Qo++[(w,Z x)],QA++[w],?_,Qu.put f i ba c,λh Qj=>?_,by rw[dF,dF,gq,gq];lia⟩
  ·unfold qL;refine oj (dn<|eM b) (cq (Qn:=gA aa B g (Qo++[(w,Z x)]) M QA (Z<|.im<|bB x) (Z<|.im<|bB w)) (wg (v:=.im (bB x)) (Qn:=gA aa B g Qo M QA (Z<|.im<|bB x) (Z<|.im<|bB w)) rfl ?_) (tE (yl (m:=.lst (QA.map bB)) rfl rfl (cA rfl rfl) rfl rfl (uM (by rw[bq];lia)) ?_)))
   ·have d:=Kh (p:=Z x) c;have j:=xB w;have k:(ct Qo).length<100000:=by unfold ct;rw[bq];lia
    have l:jh (.aJ<|ct Qo) (.im<|bB w) (.im<|bB x)=Z (.aJ<|ct<|Qo++[(w,Z x)]):=by
     show (if V.keys 7 (gV w)=X/\(ct Qo).length<100000 then Z (aj.aJ<|fO (ct Qo) (gV w)<|bB x) else Y)=_;rw[aE ⟨j,k⟩];exact congrArg (λH=>Z<|aj.aJ H) d
    exact AA rfl rfl l rfl
   ·show _=[Z (.aJ<|bw aa B),Z<|.im<|ab g,Z<|.im<|bB (g,X),Z<|.aJ<|ct<|Qo++[(w,Z x)],M,Z<|.lst<|(QA++[w]).map bB,Z<|.im<|bB x,Z<|.im<|bB w];rw[fp];rfl
  ·show h∈cy (Qo++[(w,Z x)]);unfold cy;rw[fp];exact dQ _ Qj
theorem CY{aa:List aL}{B:aL->aL}(c:aa.length<=1000)(d:∀m∈aa,B m∈aa){g:aL}{W:List cF}{x:cF}{M:Option aj}:∀(R:List cF) {Qo:fx}{QA:List cF} (O:Option aj),gj aa B g Qo W QA x R->x∈cy Qo->(∀w∈R,w∈hT aa B x)->QA.length<=Qo.length->
  ∃a b f,ek (bJ 7) qL (R.map bB) (gA aa B g Qo M QA (Z<|.im<|bB x) O)=Z (.bp,gA aa B g a M b (Z<|.im<|bB x) f)/\gj aa B g a W b x []/\(∀h∈cy Qo,h∈cy a)/\a.length+QA.length=Qo.length+b.length
 |[],Qo,QA,O,Qu,_,_,_=>⟨Qo,QA,O,rfl,Qu,λh Qj=>Qj,rfl⟩
 |w::R,Qo,QA,O,Qu,e,ba,i=>by
  let⟨q,r,j,k,QN,aZ⟩:=M6 (M:=M) c d Qu e (ba w<|.head _) i;let⟨L2,l,Q4,n,o,QW,bh⟩:=CY c d R (Z<|.im<|bB w) k (QN x e) (λL p=>ba L<|.tail _ p) ⋯;refine⟨L2,l,Q4,?_,o,λh Qj=>QW h<|QN h Qj,⋯⟩;rw[cH,ek];show (qL<|gA aa B g Qo M QA (Z<|.im<|bB x)<|Z<|.im<|bB w).bind _=_;rw[j];exact n
theorem Aa{aa:List aL}{B:aL->aL}(e:aa.length<=1000)(f:∀m∈aa,B m∈aa){g:aL}{M:Option aj}:∀(W:List cF) {Qo:fx}{QA:List cF}{a:cF} (z O:Option aj),gj aa B g Qo W QA a []->QA.length<=Qo.length->
  ∃b c k n p,ek (bJ 6) qs (W.map bB) (gA aa B g Qo M QA z O)=Z (.bp,gA aa B g b M c n p)/\gj aa B g b [] c k []/\b.length+QA.length=Qo.length+c.length
 |[],Qo,QA,a,z,O,Qu,_=>⟨Qo,QA,a,z,O,rfl,Qu,rfl⟩
 |x::W,Qo,QA,a,z,O,Qu,q=>by
  have i:=Qu.gM x (.head _);have r:gj aa B g Qo W QA x (hT aa B x):=⟨Qu.fS,Qu.hP,Qu.inf,λh Qj=>Qu.gM h<|.tail _ Qj,Qu.eD,λh Qj l D L j=>by
   by_cases d:h=x
   ·subst d;exact .inr ⟨rfl,j⟩
   ·rcases Qu.cl h Qj (λH=>(cj.mp H).elim d l) D L j with H|⟨_,H⟩
    ·exact .inl H
    ·cases H⟩
  let⟨s,t,QT,u,v,QN,aZ⟩:=CY (M:=M) e f (hT aa B x) O r i (λw ba=>ba) q;let⟨L2,A,C,E,F,I,J,bh⟩:=Aa e f W (Z<|.im<|bB x) QT v ⋯;refine⟨L2,A,C,E,F,?_,J,⋯⟩;rw[cH,ek];show (qs<|gA aa B g Qo M QA (Z<|.im<|bB x) O).bind _=_;have N:qs (gA aa B g Qo M QA (Z<|.im<|bB x) O)=Z (.bp,gA aa B g s M t (Z<|.im<|bB x) QT):=by
   unfold qs;refine o9 (o:=Y) (y:=(hT aa B x).map bB) (Qn:=gA aa B g Qo M QA (Z<|.im<|bB x) O) ?_ u rfl;have on:=LA (B:=B) (Qu.inf x i);have P:bP 2 G.oC (ar (ai 0)<|ar (ai 6) aD) (gA aa B g Qo M QA (Z<|.im<|bB x) O)=Z (.lst<|(hT aa B x).map bB,gA aa B g Qo M QA (Z<|.im<|bB x) O):=d7 (Q:=[.aS 0,.aS 6]) rfl rfl rfl on rfl;unfold cR;rw[jE P];rfl
  rw[N];exact I
structure uT(aa:List aL)(B:aL->aL)(g:aL)(Qo:fx):Prop where
 fS:bH.kI B (iG aa) g Qo
 hP:Qo[0]?=Z ((g,X),Y)
 inf:∀h∈cy Qo,h.1∈aa
 cl:∀h∈cy Qo,∀w∈hT aa B h,w∈cy Qo
def BK(n:aa.length<=1000)(p:∀m∈aa,B m∈aa){g:aL}(r:g∈aa):∃Qo,qM [.aJ (bw aa B),.im<|ab g]=Z (.aJ<|ct Qo,[.aJ (bw aa B),.im<|ab g])/\uT aa B g Qo:=by
 have s:bH.kI B (iG aa) g [((g,X),Y)]:=by
  refine⟨fi _ _,λa h q d=>?_,λa h d=>?_⟩
  ·cases a with
   |zero=>cases d
   |succ a=>cases d
  ·cases a with
   |zero=>cases d;rfl
   |succ a=>cases d
 have t:gj aa B g [((g,X),Y)] [(g,X)] [] (g,X) []:=⟨s,rfl,λh Qj=>by rw[cV.mp Qj];exact r,λh Qj=>Qj,(λh Qj=>nomatch Qj),λh Qj l=>absurd Qj l⟩;let⟨QE,v,⟨Qo,x,QX,z,O,rfl,Qu⟩⟩:=qF (m:=BV) (e:=xM) (λk A=>∃Qo W x QX z O,A=[Z (.aJ<|bw aa B),Z<|.im<|ab g,Z<|.im<|bB (g,X),Z<|.aJ<|ct Qo,Z<|.lst<|W.map bB,QX,z,O]/\gj aa B g Qo W [] x []/\2*(2*aa.length-Qo.length)+W.length<=k) (λA=>∃Qo x QX z O,A=[Z (.aJ<|bw aa B),Z<|.im<|ab g,Z<|.im<|bB (g,X),Z<|.aJ<|ct Qo,Z<|.lst [],QX,z,O]/\gj aa B g Qo [] [] x [])
  (λk A y=>by
   let⟨Qo,W,x,QX,z,O,rfl,Qu,C⟩:=y;cases W with
   |nil=>exact⟨aq,_,rfl,(λH=>by cases H),λ_=>⟨Qo,x,QX,z,O,rfl,Qu⟩⟩
   |cons u W=>
    refine⟨X,_,rfl,λ_=>?_,(λH=>by cases H)⟩;let⟨c,f,D,i,j,E,b,aZ⟩:=Aa (M:=Z .dZ) n p (u::W) z O Qu (fv _);have le:=b.len;rw[jI]at aZ;rw[er]at C;refine⟨.bp,[Z (.aJ<|bw aa B),Z<|.im<|ab g,Z<|.im<|bB (g,X),Z<|.aJ<|ct c,Z<|.lst<|f.map bB,Z .dZ,i,j],?_,.inl rfl,2*(2*aa.length-c.length)+f.length,⋯,c,f,D,Z .dZ,i,j,rfl,⟨b.fS,b.hP,b.inf,b.eD,(λh Qj=>nomatch Qj),λh Qj l U=>b.cl h Qj (λH=>nomatch H) l⟩,bf _⟩;unfold xM;refine cq (Qn:=gA aa B g Qo (Z<|.lst<|(u::W).map bB) [] z O) rfl (cq (o9 (o:=Z (4,.lst<|(u::W).map bB)) (Qn:=gA aa B g Qo (Z .dZ) [] z O) rfl E rfl) rfl)) 1000000 _ [Z (.aJ<|bw aa B),Z<|.im<|ab g,Z<|.im<|bB (g,X),Z<|.aJ<|ct [((g,X),Y)],Z<|.lst<|[(g,X)].map bB,Y,Y,Y] ⟨_,_,_,Y,Y,Y,rfl,t,bf _⟩ (by rw[gq,gq];lia)
 refine⟨Qo,?_,Qu.fS,Qu.hP,Qu.inf,λh Qj w ba=>?_⟩
 ·unfold qM DZ;exact hI (A:=[Z (.aJ<|bw aa B),Z<|.im<|ab g,Z<|.im<|bB (g,X),Z .dZ,Z<|.lst [],QX,z,O]) rfl (cq (Qn:=[Z (.aJ<|bw aa B),Z<|.im<|ab g,Z<|.im<|bB (g,X),Y,Y,Y,Y,Y]) rfl<|cq (Qn:=[Z (.aJ<|bw aa B),Z<|.im<|ab g,Z<|.im<|bB (g,X),Z<|.aJ<|ct [((g,X),Y)],Y,Y,Y,Y]) rfl<|cq (Qn:=[Z (.aJ<|bw aa B),Z<|.im<|ab g,Z<|.im<|bB (g,X),Z<|.aJ<|ct [((g,X),Y)],Z<|.lst<|[(g,X)].map bB,Y,Y,Y]) rfl<|cq v rfl) rfl
 ·rcases Qu.cl h Qj (λH=>nomatch H) (λH=>nomatch H) w ba with H|⟨_,H⟩
  ·exact H
  ·cases H
def Jm{k:Nat}{QK:List Nat}{M:bR}{J G:List aj}(a:J.length=r)(d:M (J.map Z++List.replicate (k-r) Y)=Z (.bp,A))(b:ia QK J A 0=G):d6 r k QK M J=Z (.im .aT,G):=by
 unfold d6;rw[aE a,d,<-b]
def sq(ak:(cy Qo).Nodup){h:cF}{p:Option cF}(c:(h,p)∈Qo):bG (.aJ<|ct Qo) (.im<|bB h)=Z (.im<|qP p):=by
 show (if V.keys 7 (gV h)=X then (dH (ct Qo)<|gV h).map aj.im else Y)=_;rw[aE (xB h),Gx ak c];rfl
def J5(c:m∈aa):bG (.aJ<|bw aa B) (.im<|ab m)=Z (.im<|ab<|B m):=by
 show (if V.keys 7 (c8 m)=X then (dH (bw aa B)<|c8 m).map aj.im else Y)=_;rw[aE (mL m),xA c];rfl
def mF(f I:aL):es (.im<|ab f) (.im<|ab I)=Z (.im<|.ax<|!decide (f=I)):=by
 show (if (V.bg 8 (ab f)&&V.bg 8 (ab I))=X then Z (aj.im<|.ax<|!cf (ab f) (ab I)) else Y)=_;rw[ni,ni,aE<|show (X&&X)=X from rfl,qj]
def LO(f I:aL):dS (.im<|ab f) (.im<|ab I)=Z (.im<|.ax<|decide (f=I)):=by
 show (if (V.bg 8 (ab f)&&V.bg 8 (ab I))=X then Z (aj.im<|.ax<|cf (ab f)<|ab I) else Y)=_;rw[ni,ni,aE<|show (X&&X)=X from rfl,qj]
def Ay(c:iG aa f I):iG aa I f:=by
 refine⟨c.2.1,c.1,?_⟩;have:=c.2.2;let⟨g,e⟩:=f;let⟨m,v⟩:=I;unfold c0 at this ⊢;simp only[cj,i9,jl,BB]at this ⊢;lia
def x4{n:Nat}{m v:Nat->aL}{s j:Nat->Nat}(L:aa.length<=1000)(E:∀f∈aa,B f∈aa)(Qu:uT aa B g Qo)(Qf:bH.mq B (iG aa) g Qo n m v s j)(F:v n=t):
  ∃M:aL->aL,p3 [.aJ (bw aa B),.aJ<|ct Qo,.im<|ab t]=Z (.im .aT,[.aJ (bw aa M),.aJ<|ct Qo,.im<|ab t])/\(∀f∈aa,M f∈aa)/\(∀a<n,M (m a)=v a)/\∀f,(∀a<n,m a≠f)->M f=B f:=by
 have ak:=Qu.fS.ak;have y:∀a i,a<n->i<n->m a=m i->a=i:=λa i S b d=>by
  have l:=Qf.lc a S;rw[d]at l;have:=Qu.fS.k9 l (Qf.lc i b);rcases m7 a i with p|p|p
  ·have:=Qf.up (a:=a+1) (i:=i) ⋯ ⋯;have:=Qf.bh a S;have:=Qf.aZ i b;lia
  ·exact p
  ·have:=Qf.up (a:=i+1) (i:=a) ⋯ ⋯;have:=Qf.bh i b;have:=Qf.aZ a S;lia
 have o:∀{a:Nat}{h:cF}{p:Option cF},Qo[a]?=Z (h,p)->(h,p)∈Qo:=λd=>fu d;have z:∀a<n,m a∈aa:=λa S=>Qu.inf _ (cJ.mpr ⟨_,o<|Qf.lc a S,rfl⟩);have G:∀a,a<=n->v a∈aa:=λa S=>by
  let⟨p,d⟩:=Qf.xY S;exact Qu.inf _ (cJ.mpr ⟨_,o d,rfl⟩)
 let⟨QE,C,⟨M,U,rfl,q,u,w⟩⟩:=qF (m:=Fe) (e:=uv) (λk A=>∃(M:aL->aL) (h:cF),A=[Z (.aJ<|bw aa M),Z<|.aJ<|ct Qo,Z<|.im<|ab t,Z<|.im<|bB h]/\(∀f∈aa,M f∈aa)/\∃i,(∀a,i<=a->a<n->M (m a)=v a)/\(∀f,(∀a,i<=a->a<n->m a≠f)->M f=B f)/\((i<=n/\k=2*i/\h=(v i,X))\/(∃r,i=r+1/\r<n/\k=2*r+1/\h=(m r,aq))))
  (λA=>∃(M:aL->aL) (U:Option aj),A=[Z (.aJ<|bw aa M),Z<|.aJ<|ct Qo,Z<|.im<|ab t,U]/\(∀f∈aa,M f∈aa)/\(∀a<n,M (m a)=v a)/\∀f,(∀a<n,m a≠f)->M f=B f)
  (λk A I=>by
   obtain⟨M,h,rfl,q,i,u,w,⟨b,rfl,rfl⟩|⟨r,rfl,x,rfl,rfl⟩⟩:=I
   ·cases i with
    |zero=>
     have d:=sq ak (o Qf.hP);rw[Qf.jK];exact⟨aq,_,dn<|dm (bF<|eM d) rfl rfl rfl rfl,(λH=>by cases H),λ_=>⟨M,_,rfl,q,λa S=>u a (fv _) S,λf c=>w f λa W S=>c a S⟩⟩
    |succ r=>
     have d:=sq ak (o<|Qf.ld r b);refine⟨X,_,dn<|dm (bF<|eM d) rfl rfl rfl rfl,λ_=>?_,(λH=>by cases H)⟩;refine⟨.bp,[Z (.aJ<|bw aa M),Z<|.aJ<|ct Qo,Z<|.im<|ab t,Z<|.im<|bB (m r,aq)],?_,.inl rfl,2*r+1,⋯,M,_,rfl,q,r+1,u,w,.inr ⟨r,rfl,b,rfl,rfl⟩⟩;unfold uv;exact cq (fU (Qn:=[Z (.aJ<|bw aa M),Z<|.aJ<|ct Qo,Z<|.im<|ab t,Z<|.im<|bB (v<|r+1,X)]) rfl rfl) (k0 (eM d) (fY rfl) rfl)
   ·have d:=sq ak (o<|Qf.lc r x);refine⟨X,_,dn<|dm (bF<|eM d) rfl rfl rfl rfl,λ_=>?_,(λH=>by cases H)⟩;refine⟨.bp,[Z (.aJ<|bw aa<|kf M (m r)<|v r),Z<|.aJ<|ct Qo,Z<|.im<|ab t,Z<|.im<|bB (v r,X)],?_,.inl rfl,2*r,⋯,kf M (m r)<|v r,_,rfl,λf c=>?_,r,λa l D=>?_,λf c=>?_,.inl ⟨⋯,rfl,rfl⟩⟩
    ·unfold uv;have J:jh (.aJ<|bw aa M) (.im<|ab<|m r) (.im<|ab<|v r)=Z (.aJ<|bw aa<|kf M (m r)<|v r):=by
      show (if V.keys 7 (c8<|m r)=X/\(bw aa M).length<100000 then Z (aj.aJ<|fO (bw aa M) (c8<|m r)<|ab<|v r) else Y)=_;rw[aE ⟨mL _,by unfold bw;rw[bq];lia⟩,OY<|z r x]
     refine cq (Qn:=[Z (.aJ<|bw aa<|kf M (m r)<|v r),Z<|.aJ<|ct Qo,Z<|.im<|ab t,Z<|.im<|bB (m r,aq)]) (oj (Qn:=[Z (.aJ<|bw aa M),Z<|.aJ<|ct Qo,Z<|.im<|ab t,Z<|.im<|bB (m r,aq)]) rfl<|wg (dm (bF<|eM d) rfl rfl rfl<|show bG (.im<|qP<|Z (v r,X)) (aF 0)=Z (.im<|ab<|v r) from rfl)<|AA (n:=ab (m r)) rfl rfl J rfl) (k0 (eM d) (fY rfl) rfl)
    ·unfold kf;split
     ·exact G r ⋯
     ·exact q f c
    ·unfold kf;by_cases H:a=r
     ·rw[H,aE rfl]
     ·rw[aI λp=>H<|y a r D x p];exact u a ⋯ D
    ·unfold kf;rw[aI λp=>c r (bf _) x p.symm];exact w f λa l D=>c a ⋯ D) 1000000 (2*n) [Z (.aJ<|bw aa B),Z<|.aJ<|ct Qo,Z<|.im<|ab t,Z<|.im<|bB (v n,X)] ⟨B,_,rfl,E,n,λa l D=>⋯,λf W=>rfl,.inl ⟨bf _,rfl,rfl⟩⟩ (by
   have:n<=aa.length:=by
    refine bH.rW (M:=m) z λa i l D d=>?_;have:=y a i ⋯ D d;lia
   lia)
 refine⟨M,?_,q,u,w⟩;unfold p3 A9;refine Jm (A:=[Z (.aJ<|bw aa M),Z<|.aJ<|ct Qo,Z<|.im<|ab t,U]) rfl (cq (Qn:=[Z (.aJ<|bw aa B),Z<|.aJ<|ct Qo,Z<|.im<|ab t,Z<|.im<|bB (t,X)]) rfl ?_) rfl;rw[<-F]at C ⊢;exact C
theorem Ek{aa:List aL}{B:aL->aL}(a:∀f∈aa,B f∈aa){t:aL}(b:t∈aa):∀r,bH.it B r t∈aa
 |0=>b
 |r+1=>by rw[bH.iv];exact a _ (Ek a b r)
def Ku(q:r<10000)(d:∀f∈aa,B f∈aa)(h:t∈aa)(l:bH.it B (r+1) t=g)(D:∀a,a<=r->bH.it B a t≠g):
  oO [.aJ (bw aa B),.im<|ab g,.im<|ab t]=Z (a5<|bH.dt B t r++[g],[.aJ (bw aa B),.im<|ab g,.im<|ab t]):=by
 have rs:∀k,(range<|k+1+1).map (λa=>bH.it B a t)=(range<|k+1).map (λa=>bH.it B a t)++[bH.it B (k+1) t]:=λk=>by rw[xQ,fp];rfl
 have j:∀k,dx (((range<|k+1).map<|λa=>bH.it B a t).map ab) (-1)=Z (ab<|bH.it B k t):=λk=>u_ (by
  rw[xQ,fp,fp];simp)
 let⟨QE,n,rfl⟩:=qF (m:=x1) (e:=E0) (λk A=>∃i,i<=r+1/\k=r+1-i/\A=[Z (.aJ<|bw aa B),Z<|.im<|ab g,Z<|.im<|ab t,Z<|a5<|(range<|i+1).map λa=>bH.it B a t])
  (λA=>A=[Z (.aJ<|bw aa B),Z<|.im<|ab g,Z<|.im<|ab t,Z<|a5<|(range<|r+1+1).map λa=>bH.it B a t])
  (λk A o=>by
   let⟨i,s,rfl,rfl⟩:=o;have p:=mF (bH.it B i t) g;have c:bG (a5<|(range<|i+1).map λa=>bH.it B a t) (aF<|-1)=Z (.im<|ab<|bH.it B i t):=by
    show (dx (((range<|i+1).map<|λa=>bH.it B a t).map ab)<|-1).map aj.im=_;rw[j];rfl
   have b:x1 [Z (.aJ<|bw aa B),Z<|.im<|ab g,Z<|.im<|ab t,Z<|a5<|(range<|i+1).map λa=>bH.it B a t]=Z (!decide (bH.it B i t=g),[Z (.aJ<|bw aa B),Z<|.im<|ab g,Z<|.im<|ab t,Z<|a5<|(range<|i+1).map λa=>bH.it B a t]):=dn (dm (bF<|dm rfl (bF rfl) rfl rfl c) rfl rfl rfl p);rcases e5 i (r+1) with u|v
   ·rw[cW (D i ⋯)]at b;refine⟨X,_,b,λ_=>?_,(λH=>by cases H)⟩;refine⟨.bp,_,tE (yl (m:=a5 ((range<|i+1).map λa=>bH.it B a t)) rfl rfl (cA (bF<|dm rfl (bF<|dm rfl (bF rfl) rfl rfl c) rfl rfl<|J5<|Ek d h i) rfl) rfl rfl (uM (by rw[bq,bq,hb];lia)) rfl),.inl rfl,r+1-(i+1),⋯,i+1,⋯,rfl,?_⟩;rw[rs];show [_,_,_,Z<|aj.lst<|((range<|i+1).map λa=>bH.it B a t).map ab++[ab (B<|bH.it B i t)]]=[_,_,_,Z<|aj.lst<|(((range<|i+1).map λa=>bH.it B a t)++[bH.it B (i+1) t]).map ab];rw[fp,bH.iv];rfl
   ·have:i=r+1:=⋯
    subst this;rw[dk l]at b;exact⟨aq,_,b,(λH=>by cases H),λ_=>rfl⟩) 1000000 (r+1) [Z (.aJ<|bw aa B),Z<|.im<|ab g,Z<|.im<|ab t,Z<|a5 [t]] ⟨0,fv _,rfl,rfl⟩ ⋯
 unfold oO EG;refine hI (A:=[Z (.aJ<|bw aa B),Z<|.im<|ab g,Z<|.im<|ab t,Z .dZ]) rfl (cq (Qn:=[Z (.aJ<|bw aa B),Z<|.im<|ab g,Z<|.im<|ab t,Z<|a5 [t]]) rfl<|cq n ?_) rfl;rw[rs,l];rfl
theorem Cu:∀(Qr a:List (List V×V)),((a++Qr).map (·.1)).Nodup->Qr.foldl (λg q=>fO g q.1 q.2) a=a++Qr
 |[],a,_=>(cD a).symm
 |q::Qr,a,c=>by
  rw[lP];have d:fO a q.1 q.2=a++[q]:=by
   unfold fO;rw[aI];intro H;let⟨f,b,e⟩:=qN.mp H;rw[fp]at c;exact (dp.mp c).2.2 f.1 (cJ.mpr ⟨f,b,rfl⟩) q.1 (.head _) (hS e)
  rw[d,Cu Qr (a++[q]) (by rw[bz];exact c),bz];rfl
def wH{Qr:List (List V×V)}(c:(Qr.map (·.1)).Nodup):fw Qr=Qr:=Cu Qr [] c
def nc{Q9:Type}{M:QG->Q9}{t:List QG}(inj:∀f∈t,∀I∈t,M f=M I->f=I)(ak:t.Nodup):(t.map M).Nodup:=by
 rw[nk,kx];exact ak.imp_of_mem λ{f I} a b c d=>c (inj f a I b d)
def NS(aa:List aL):il (aa.map λm=>.tup [ab m,ab m])=Z (bw aa id):=by
 induction aa with
 |nil=>rfl
 |cons m s a=>
  rw[cH];show (il<|s.map λm=>.tup [ab m,ab m]).map (λh=>(c8 m,ab m)::h)=_;rw[a];rfl
def JE(ak:aa.Nodup)(a:aa.length<=1000):jv [.lst (aa.map λm=>.tup [ab m,ab m])]=Z (.aJ<|bw aa id):=by
 have l:((bw aa id).all λq=>V.keys 7 q.1)=X:=by
  rw[iI];intro q b;let⟨f,e,rfl⟩:=cJ.mp b;exact mL f
 have D:(bw aa id).length<=1000:=by unfold bw;rw[bq];exact a
 have c:fw (bw aa id)=bw aa id:=wH (by
  unfold bw;rw[gs];exact nc (λf W I W d=>lJ d) ak)
 show (il<|aa.map λm=>.tup [ab m,ab m]).bind _=_;rw[NS];show (if ((bw aa id).all λq=>V.keys 7 q.1)=X/\(bw aa id).length<=1000 then Z (aj.aJ<|fw<|bw aa id) else Y)=_;rw[aE ⟨l,D⟩,c]
abbrev dD:=List aL
variable{Qc QS:List dD}
def aY(x:dD):V:=(.tup (x.map ab))
def qg:V->dD
 |.tup t=>t.map nq
 |_=>[]
def ti(x:dD):qg (aY x)=x:=by
 show (x.map ab).map nq=x;rw[gs];exact (oK λm W=>u2 m).trans (sL x)
def BJ{L u:dD}(c:aY L=aY u):L=u:=by rw[<-ti L,c,ti]
def IB{t:List V}{Qs:List dD}(c:t.Perm (Qs.map aY)):∃a:List dD,a.Perm Qs/\t=a.map aY:=by
 have d:t=(t.map qg).map aY:=by
  rw[gs];refine (sL t).symm.trans (oK λf b=>?_);let⟨x,W,rfl⟩:=cJ.mp (c.mem_iff.mp b);show aY x=aY (qg<|aY x);rw[ti]
 refine⟨t.map qg,?_,d⟩;have:=c.map qg;rw[gs]at this;exact this.trans (zA<|(oK λx W=>ti x).trans<|sL Qs)
theorem ta:∀Qr:dD,V.cg 5 (Qr.map ab)=X
 |[]=>rfl
 |m::Qr=>by rw[cH,V.cg,ta Qr];rfl
theorem zF:∀L u:dD,fg 5 (L.map ab) (u.map ab)=X
 |[],[]=>rfl
 |[],e::u=>ta (e::u)
 |g::L,[]=>ta (g::L)
 |g::L,e::u=>by
  rw[cH,cH,fg,zF L u];rfl
def z2(ak:QS.Nodup)(b:QS.length<=1000)(ne:∀x∈QS,x≠[]):md (QS.map aY):=by
 refine⟨⟨by rw[bq];exact b,λf a I c=>?_,nc (λf W I W d=>BJ d) ak⟩,.inr λf a=>?_⟩
 ·let⟨L,W,rfl⟩:=cJ.mp a;let⟨u,W,rfl⟩:=cJ.mp c;exact zF L u
 ·let⟨L,e,rfl⟩:=cJ.mp a;cases L with
  |nil=>exact absurd rfl (ne _ e)
  |cons m s=>rfl
def nd(QS:List dD):Prop:=(QS.Pairwise λg e=>bC (aY g) (aY e)=X)
def H9(ak:QS.Nodup)(a:QS.length<=1000)(ne:∀x∈QS,x≠[]):∃Qc:List dD,hB (QS.map aY)=Z (.lst<|Qc.map aY)/\Qc.Perm QS/\nd Qc:=by
 have o:=z2 ak a ne;let⟨Qc,l,D⟩:=IB (jD<|QS.map aY);refine⟨Qc,?_,l,?_⟩
 ·unfold hB;rw[aE (qQ.mpr o),D]
 ·have:=tb o.ord.ak o.ord.iQ;rw[D]at this;exact kx.mp this
open Classical in
def ef(B:aL->aL)(g t:aL):Nat:=(if c:∃r,bH.kS B g t r then c.choose else 0)
def hv(B:aL->aL)(g e t:aL):dD:=(g::((bH.dt B t<|ef B g t).reverse++[e]))
def gG(Qo:fx)(m:aL):Bool:=(decide ((m,aq)∈cy Qo) && !decide ((m,X)∈cy Qo))
structure d9(aa:List aL)(g e:aL)(B:aL->aL)(C:List aL)(Qo:fx):Prop where
 w:bH.de aa (iG aa) g e B C
 hf:∀f∈aa,B f∈aa
 s:uT aa B g Qo
def d9.jf(QA:d9 aa g e B C Qo){t:aL}(a:t∈C):bH.kS B g t (ef B g t):=by
 have c:∃r,bH.kS B g t r:=QA.w.comes a;unfold ef;rw[dif_pos c];exact c.choose_spec
def d9.dO(QA:d9 aa g e B C Qo):C.length<=4:=QA.w.dO (bs:=c0 e) λf c=>(Ay c).2.2
def d9.CB(QA:d9 aa g e B C Qo){t:aL}(b:t∈C):ef B g t+1<=aa.length:=by
 have c:=QA.jf b;exact bH.rW (M:=λa=>bH.it B a t) (λa S=>(QA.w.fh _ (c.2 a ⋯)).1) λa i l D=>QA.w.dist b l λn d=>c.2 n ⋯
def d9.MS(QA:d9 aa g e B C Qo):(C.map<|hv B g e).Nodup:=by
 refine nc (λf a I b d=>?_) QA.w.ak;unfold hv at d;have h:=List.append_inj_left' (List.cons.inj d).2 rfl;have i:bH.dt B f (ef B g f)=bH.dt B I (ef B g I):=List.reverse_inj.mp h;have c:f∈bH.dt B f (ef B g f):=bH.qH.mpr ⟨0,fv _,rfl⟩;exact QA.w.apart a b (QA.jf a) (QA.jf b) c (i ▸ c)
def d9.next(E:aa.length<=1000)(z:g≠e)(F:e∉c0 g)(QA:d9 aa g e B C Qo)(c:(e,aq)∈cy Qo):
  ∃(t:aL) (M:aL->aL),((e,aq),Z (t,X))∈Qo/\p3 [.aJ (bw aa B),.aJ<|ct Qo,.im<|ab t]=Z (.im .aT,[.aJ (bw aa M),.aJ<|ct Qo,.im<|ab t])/\bH.de aa (iG aa) g e M (C++[t])/\∀f∈aa,M f∈aa:=by
 let⟨⟨h,p⟩,A,d⟩:=cJ.mp c;cases d;let⟨a,S,G⟩:=k5.mp A;have y:Qo[a]?=Z ((e,aq),p):=by rw[eb S,G]
 cases p with
 |none=>exact absurd (QA.s.fS.root a _ y) ↥0
 |some q=>
  let⟨i,am,an,L,N⟩:=QA.s.fS.par a _ _ y;let⟨t,o⟩:=q;rcases N with ⟨_,d⟩|⟨O,_,b⟩
  ·exact absurd d ↥0
  ·cases O;let⟨n,m,v,s,j,Qf,k,ap⟩:=QA.s.fS.path i L;have D:∀r<n,m r≠e:=λr T H=>by
    have l:=Qf.lc r T;rw[H]at l;have:=QA.s.fS.k9 l y;have:=Qf.bh r T;have:=Qf.up (a:=r+1) (i:=n) ⋯ (bf _);lia
   have P:iG aa t e:=by
    rcases b with b|b
    ·exfalso;have b:e=t:=b;cases n with
     |zero=>exact z (Qf.jK.symm.trans<|k.trans b.symm)
     |succ n=>
      have u:=Qf.ds n (oD _);rw[k,<-b]at u;have Q:=D n (oD _);have:=QA.w.on (m n) (λH=>Q (by rw[<-H,<-u])) (by rw[<-u];exact λH=>z H.symm);rw[<-u]at this;exact this QA.w.va
    ·exact b
   let⟨M,d,R,U,al⟩:=x4 E QA.hf QA.s Qf k;refine⟨t,M,A,d,?_,R⟩;have:=bH.lay QA.w (QA.s.fS.bK Qf D U al) (λf I H=>⟨H.1,H.2.1⟩) (by rw[k];exact P) λH=>F H.2.2;rw[k]at this;exact this
def sr(e:aL)(o:Bool){A:a6}{a:Nat}(c:A[a]?=Z (Z<|.im<|ab e)):c7 (ar (ai a)<|ar (ag<|aB<|uf o) aD) A=Z (.im<|bB (e,o),A):=by
 refine sb (Q:=[.aS a,.cm<|.im<|uf o]) (J:=[.im (ab e),.im<|uf o]) (Qn:=A) ?_ ?_ (mn rfl) rfl
 ·simp -implicitDefEqProofs [c]
 ·simp -implicitDefEqProofs [c]
abbrev fI(aa:List aL)(g e:aL)(B:aL->aL)(C:List aL)(Qo:fx)(z O:Option aj):a6:=[Z (aO aa),Z<|.im<|ab g,Z<|.im<|ab e,Z<|.aJ<|bw aa B,Z<|a5 C,Z<|.aJ<|ct Qo,z,O]
def yN(m:aL)(o:Bool)(Qo:fx):g6 (.im<|bB (m,o)) (.aJ<|ct Qo)=Z (.im<|.ax<|decide ((m,o)∈cy Qo)):=by
 show (eH (bB (m,o))<|.aJ<|ct Qo).map (λs=>aj.im<|.ax s)=_;rw[wJ];rfl
def Ky(m:aL)(o:Bool)(Qo:fx):eJ (.im<|bB (m,o)) (.aJ<|ct Qo)=Z (.im<|.ax<|!decide ((m,o)∈cy Qo)):=by
 show (eH (bB (m,o))<|.aJ<|ct Qo).map (λs=>aj.im<|.ax<|!s)=_;rw[wJ];rfl
def FE(b:aa.length<=1000)(i:g∈aa)(j:g≠e)(F:e∉c0 g)(QA:d9 aa g e B C Qo)(c:(e,aq)∈cy Qo):
  ∃(t:aL) (M:aL->aL) (a:fx),sW (fI aa g e B C Qo Y Y)=Z (.bp,fI aa g e M (C++[t]) a Y Y)/\d9 aa g e M (C++[t]) a:=by
 let⟨t,M,k,l,W,d⟩:=QA.next b j F c;let⟨a,n,Qu⟩:=BK b d i;refine⟨t,M,a,?_,W,d,Qu⟩;have r:=QA.dO;unfold sW;have o:c7 (ar (ai 2)<|ar (ag<|aB<|.str "in") aD) (fI aa g e B C Qo Y Y)=Z (.im<|bB (e,aq),fI aa g e B C Qo Y Y):=sr e aq rfl;have p:az bG (ag<|az bG (ai 5)<|ag<|c7<|ar (ai 2)<|ar (ag<|aB<|.str "in") aD) (ag<|aB<|.int 0) (fI aa g e B C Qo Y Y)=Z (.im<|ab t,fI aa g e B C Qo Y Y):=
  dm (bF<|dm rfl (bF o) rfl rfl<|sq QA.s.fS.ak k) rfl rfl rfl rfl;have f:(C.map ab)++[ab t]=(C++[t]).map ab:=by rw[fp];rfl
 refine cq (Qn:=fI aa g e B (C++[t]) Qo Y Y) (tE (yl (m:=a5 C) rfl rfl (cA (bF p) rfl) rfl rfl (uM (by rw[bq];lia)) (by rw[f];rfl))) ?_;have q:bG (a5<|C++[t]) (aF<|-1)=Z (.im<|ab t):=by
  show (dx ((C++[t]).map ab)<|-1).map aj.im=_;rw[<-f,u_<|Fh];rfl
 refine cq (Qn:=fI aa g e M (C++[t]) Qo Y Y) (tE<|d7 (Q:=[.aS 3,.aS 5,.cm<|.im<|ab t]) (cA rfl<|cA rfl<|cA (bF<|dm rfl (bF rfl) rfl rfl q) rfl) rfl rfl l rfl) ?_;exact jH (d7 (Q:=[.aS 3,.aS 1]) rfl rfl rfl n rfl) (fY rfl) rfl
def G7(h:aa.length<=1000)(QA:d9 aa g e B C Qo){t:aL}(b:t∈C):te [Z (.im<|ab t),Z<|.im<|ab e,Z<|.aJ<|bw aa B,Z<|.im<|ab g]=Z (.im<|aY<|hv B g e t,[Z (.im<|ab t),Z<|.im<|ab e,Z<|.aJ<|bw aa B,Z<|.im<|ab g]):=by
 have P:=QA.jf b;have i:=QA.CB b;have d:=Ku (aa:=aa) (B:=B) (g:=g) (t:=t) (r:=ef B g t) ⋯ QA.hf (QA.w.fh t<|P.2 0<|fv _).1 P.1 λa S=>QA.w.ne (P.2 a S);have c:(bH.dt B t<|ef B g t).length=ef B g t+1:=by unfold bH.dt;rw[bq,hb]
 have f:bP 3 G.oO (ar (ai 2)<|ar (ai 3)<|ar (ai 0) aD) [Z (.im<|ab t),Z<|.im<|ab e,Z<|.aJ<|bw aa B,Z<|.im<|ab g]=Z (a5<|bH.dt B t (ef B g t)++[g],[Z (.im<|ab t),Z<|.im<|ab e,Z<|.aJ<|bw aa B,Z<|.im<|ab g]):=d7 (Q:=[.aS 2,.aS 3,.aS 0]) rfl rfl rfl d rfl;have ad:az eE (ag<|e_<|ar (ai 1) aD) (ag<|bP 3 G.oO<|ar (ai 2)<|ar (ai 3)<|ar (ai 0) aD) [Z (.im<|ab t),Z<|.im<|ab e,Z<|.aJ<|bw aa B,Z<|.im<|ab g]=Z (a5 (e::(bH.dt B t (ef B g t)++[g])),[Z (.im<|ab t),Z<|.im<|ab e,Z<|.aJ<|bw aa B,Z<|.im<|ab g]):=by
  refine dm (bF rfl) (bF f) rfl rfl ?_;show (if [ab e].length+((bH.dt B t (ef B g t)++[g]).map ab).length<=100000 then Z (aj.lst<|[ab e]++(bH.dt B t (ef B g t)++[g]).map ab) else Y)=_;rw[aE (by rw[bq,dF,c,gq,gq];lia)];rfl
 unfold te vp;rw[cA (bF ad) rfl];show Z (aj.im<|.tup ((e::(bH.dt B t (ef B g t)++[g])).map ab).reverse,_)=_;rw[<-List.map_reverse];unfold aY hv;rw[yk,CW];rfl
def Mp(ak:aa.Nodup)(a:aa.length<=1000)(h:g∈aa)(R:e∈aa)(i:g≠e)(F:e∉c0 g):
  ∃(B:aL->aL) (C:List aL) (Qo:fx) (Qc:List dD),kG [aO aa,.im<|ab g,.im<|ab e]=Z (.im<|.tup [.tup ((aa.filter<|gG Qo).map ab),.tup<|Qc.map aY],[aO aa,.im<|ab g,.im<|ab e])/\d9 aa g e B C Qo/\(e,aq)∉cy Qo/\Qc.Perm (C.map<|hv B g e)/\nd Qc:=by
 let⟨b,q,r⟩:=BK (B:=id) a (λm c=>c) h;have u:d9 aa g e id [] b:=⟨bH.de.nil,λm c=>c,r⟩;have v:cO 1 [] (cR<|ai 0) (bJ 0) dW G.zZ [Z (aO aa),Z<|.im<|ab g,Z<|.im<|ab e,Y,Y,Y,Y,Y]=Z (.lst<|aa.map λm=>.tup [ab m,ab m],[Z (aO aa),Z<|.im<|ab g,Z<|.im<|ab e,Y,Y,Y,Y,Y]):=by
  refine iW (y:=aa.map ab) (o:=Y) (Qn:=[Z (aO aa),Z<|.im<|ab g,Z<|.im<|ab e,Y,Y,Y,Y,Y]) rfl (je ab (λm=>.tup [ab m,ab m]) _ (λm W=>?_) ⋯) rfl;exact⟨[Z (.im<|ab m)],_,[Z (.im<|ab m)],rfl,rfl,rfl,rfl⟩
 let⟨QE,w,⟨B,C,Qo,rfl,QA,z⟩⟩:=qF (m:=vt) (e:=sW) (λk A=>∃B C Qo,A=fI aa g e B C Qo Y Y/\d9 aa g e B C Qo/\4-C.length<=k) (λA=>∃B C Qo,A=fI aa g e B C Qo Y Y/\d9 aa g e B C Qo/\(e,aq)∉cy Qo)
  (λk A D=>by
   let⟨B,C,Qo,rfl,QA,j⟩:=D;have f:vt (fI aa g e B C Qo Y Y)=Z (decide ((e,aq)∈cy Qo),fI aa g e B C Qo Y Y):=dn (dm (bF<|sr e aq rfl) rfl rfl rfl<|yN e aq Qo);by_cases c:(e,aq)∈cy Qo
   ·rw[dk c]at f;let⟨t,M,E,d,l⟩:=FE a h i F QA c;have:=l.dO;rw[dF,gq]at this;exact⟨X,_,f,λ_=>⟨.bp,_,d,.inl rfl,4-(C++[t]).length,by rw[dF,gq];lia,M,_,E,rfl,l,bf _⟩,(λH=>by cases H)⟩
   ·rw[cW c]at f;exact⟨aq,_,f,(λH=>by cases H),λ_=>⟨B,C,Qo,rfl,QA,c⟩⟩) 1000000 4 (fI aa g e id [] b Y Y) ⟨id,[],b,rfl,u,Nat.sub_le _ _⟩ ⋯
 have dO:=QA.dO;have S:(C.map<|hv B g e).length=C.length:=bq _;let⟨Qc,n,T,up⟩:=H9 QA.MS ⋯ (λx I=>by
  let⟨t,W,rfl⟩:=cJ.mp I;exact uD _ _)
 refine⟨B,C,Qo,Qc,?_,QA,z,T,up⟩;have J:cO 1 [5] (cR<|ai 0) (bJ 0) G.vv G.By (fI aa g e B C Qo Y Y)=Z (a5<|aa.filter<|gG Qo,fI aa g e B C Qo Y Y):=by
  refine iW (y:=aa.map ab) (o:=Y) (Qn:=fI aa g e B C Qo Y Y) rfl (k8 ab (gG Qo) ab _ [] (λm W=>?_) (by rw[jI];lia)) rfl;refine⟨[Z (.im<|ab m),Z<|.aJ<|ct Qo],[Z (.im<|ab m),Z<|.aJ<|ct Qo],rfl,?_,λ_=>rfl,λ_=>⟨[Z (.im<|ab m),Z<|.aJ<|ct Qo],rfl,rfl⟩⟩;have QN:bt (az g6 (ag<|c7<|ar (ai 0)<|ar (ag<|aB<|.str "in") aD)<|ai 1) [Z (.im<|ab m),Z<|.aJ<|ct Qo]=Z (decide ((m,aq)∈cy Qo),[Z (.im<|ab m),Z<|.aJ<|ct Qo]):=dn (dm (bF<|sr m aq rfl) rfl rfl rfl<|yN m aq Qo);have QW:bt (az eJ (ag<|c7<|ar (ai 0)<|ar (ag<|aB<|.str "out") aD)<|ai 1) [Z (.im<|ab m),Z<|.aJ<|ct Qo]=Z (!decide ((m,X)∈cy Qo),[Z (.im<|ab m),Z<|.aJ<|ct Qo]):=dn (dm (bF<|sr m X rfl) rfl rfl rfl<|Ky m X Qo);unfold vv gG;cases p:decide ((m,aq)∈cy Qo) with
  |false=>rw[p]at QN;exact s6 QN
  |true=>rw[p]at QN;exact ke QN (QW.trans (by rw[B_]))
 have L:cO 1 [2,3,1] (cR<|ai 4) (bJ 0) dW G.te (fI aa g e B C Qo (Z<|a5<|aa.filter<|gG Qo) Y)=Z (.lst<|C.map λt=>aY<|hv B g e t,fI aa g e B C Qo (Z<|a5<|aa.filter<|gG Qo) Y):=by
  refine iW (y:=C.map ab) (o:=Z (4,a5 C)) (Qn:=[Z (aO aa),Z<|.im<|ab g,Z<|.im<|ab e,Z<|.aJ<|bw aa B,Z .dZ,Z<|.aJ<|ct Qo,Z<|a5<|aa.filter<|gG Qo,Y]) rfl (je ab (λt=>aY<|hv B g e t) _ (λt j=>?_) ⋯) rfl;exact⟨[Z (.im<|ab t),Z<|.im<|ab e,Z<|.aJ<|bw aa B,Z<|.im<|ab g],_,[Z (.im<|ab t),Z<|.im<|ab e,Z<|.aJ<|bw aa B,Z<|.im<|ab g],rfl,rfl,G7 a QA j,rfl⟩
 have N:kc [.lst (C.map λt=>aY<|hv B g e t)]=Z (.lst<|Qc.map aY):=by
  rw[gs]at n;cases C with
  |nil=>
   have:Qc=[]:=List.perm_nil.mp T;rw[this];rfl
  |cons t s=>exact n
 have O:bt (az dS (ai 1)<|ai 2) [Z (aO aa),Z<|.im<|ab g,Z<|.im<|ab e,Y,Y,Y,Y,Y]=Z (aq,[Z (aO aa),Z<|.im<|ab g,Z<|.im<|ab e,Y,Y,Y,Y,Y]):=dn (eM ((LO g e).trans (by rw[cW i])));have P:bt (az g6 (ai 2)<|ag<|bP 1 G.n5<|ar (ai 1) aD) [Z (aO aa),Z<|.im<|ab g,Z<|.im<|ab e,Y,Y,Y,Y,Y]=Z (aq,[Z (aO aa),Z<|.im<|ab g,Z<|.im<|ab e,Y,Y,Y,Y,Y]):=by
  refine dn (dm rfl (bF<|d7 (Q:=[.aS 1]) rfl rfl rfl (OA g) rfl) rfl rfl ?_);show (eH (ab e)<|a5<|c0 g).map (λs=>aj.im<|.ax s)=_;rw[s9,cW F];rfl
 unfold kG En;refine hI (A:=fI aa g e B C Qo (Z<|a5<|aa.filter<|gG Qo) (Z<|.lst<|C.map λt=>aY<|hv B g e t)) rfl ?_ rfl;refine cq (fU (h7 O P) rfl) (cq (Qn:=[Z (aO aa),Z<|.im<|ab g,Z<|.im<|ab e,Z<|.aJ<|bw aa id,Y,Y,Y,Y]) (k0 (d3 (cA (bF v) rfl) rfl<|JE ak a) (fY rfl) rfl) ?_);refine cq (Qn:=[Z (aO aa),Z<|.im<|ab g,Z<|.im<|ab e,Z<|.aJ<|bw aa id,Z<|a5 [],Y,Y,Y]) rfl (cq (Qn:=fI aa g e id [] b Y Y) (jH (d7 (Q:=[.aS 3,.aS 1]) rfl rfl rfl q rfl) (fY rfl) rfl)<|cq w ?_);refine cq (k0 J (fY rfl) rfl) (cq (k0 L (fY rfl) rfl)<|jc<|sb (cA (bF<|d3 (cA rfl rfl) rfl rfl)<|cA (bF<|d3 (cA (bF<|d3 (cA rfl rfl) rfl N) rfl) rfl rfl) rfl) rfl (mn rfl) rfl)
def wx(t:List aL)(m:aL):eJ (.im<|ab m) (aO t)=Z (.im<|.ax<|!decide (m∈t)):=by
 show (eH (ab m)<|aO t).map (λs=>aj.im<|.ax<|!s)=_;rw[C1];rfl
def tL(t:List aL)(m:aL):eJ (.im<|ab m) (a5 t)=Z (.im<|.ax<|!decide (m∈t)):=by
 show (eH (ab m)<|a5 t).map (λs=>aj.im<|.ax<|!s)=_;rw[s9];rfl
def Dn(t:List aL)(m:aL):g6 (.im<|ab m) (aO t)=Z (.im<|.ax<|decide (m∈t)):=by
 show (eH (ab m)<|aO t).map (λs=>aj.im<|.ax s)=_;rw[C1];rfl
def Pm(t:List aL)(m:aL):g6 (.im<|ab m) (a5 t)=Z (.im<|.ax<|decide (m∈t)):=by
 show (eH (ab m)<|a5 t).map (λs=>aj.im<|.ax s)=_;rw[s9];rfl
def LG(bs:List aL):dS (a5 bs) (.lst [])=Z (.im<|.ax<|decide (bs=[])):=by
 show (if (V.cg 8 (bs.map ab)&&V.cg 8 [])=X then Z (aj.im<|.ax<|dB (bs.map ab) []) else Y)=_;rw[n2,aE<|show (X&&V.cg 8 [])=X from rfl];cases bs with
 |nil=>rfl
 |cons g s=>rfl
def HE{c:aj}(j:dX (r+2) c)(M:aa.length<=1000)(w:aa≠[]):∃T,dX r T/\(nD [c,aO aa]=Z (.im .aT,[T,aO aa])\/∃g e,g∈aa/\e∈aa/\g≠e/\e∉c0 g/\nD [c,aO aa]=Z (.im<|.tup [ab g,ab e],[T,aO aa])):=by
 have N:=n7.mpr w;let⟨u,l,x,z,O,Qm⟩:=hW (r:=r+1) (k:=(aa.length:Int)) j ⋯ ⋯;obtain⟨g,i⟩:∃g,aa[u.toNat]?=Z g:=⟨aa[u.toNat]'⋯,by simp⟩;let⟨n,rfl⟩:=j.lst;let⟨b,rfl⟩:=Qm.lst;have B:dg [aO aa]=Z (aF (aa.length:Int)):=by
  show Z (aj.im<|.int ((aa.map ab).length:Int))=_;rw[bq]
 have C:bG (aO aa) (aF u)=Z (.im<|ab g):=by
  show (dx (aa.map ab) u).map aj.im=_;rw[n4 z i];rfl
 have p:bY 2 (az bG (ai 1)<|ag<|bP 2 G.eA<|ar (ai 0)<|ar (ag<|b2 dg<|ar (ai 1) aD) aD) [Z (.lst n),Z<|aO aa,Y,Y]=Z (.bp,[Z (.lst b),Z<|aO aa,Z<|.im<|ab g,Y]):=
  jH (ng (Qn:=[Z (.lst n),Z<|aO aa,Y,Y]) (QR:=[Z (.lst b),Z<|aO aa,Y,Y]) rfl (jE<|d7 (Q:=[.aS 0,.cm<|aF (aa.length:Int)]) (cA rfl<|cA (bF<|d3 (cA rfl rfl) rfl B) rfl) rfl rfl x rfl) rfl rfl C) (fY rfl) rfl;have E:cO 1 [2] (cR<|ai 1) (bJ 0) G.rU G.yh [Z (.lst b),Z<|aO aa,Z<|.im<|ab g,Y]=Z (a5<|aa.filter λm=>!decide (m=g) && !decide (m∈c0 g),[Z (.lst b),Z<|aO aa,Z<|.im<|ab g,Y]):=by
  refine iW (y:=aa.map ab) (o:=Y) (Qn:=[Z (.lst b),Z<|aO aa,Z<|.im<|ab g,Y]) rfl (k8 ab (λm=>!decide (m=g) && !decide (m∈c0 g)) ab _ [] (λm W=>?_) (by rw[jI];lia)) rfl;refine⟨[Z (.im<|ab m),Z<|.im<|ab g],[Z (.im<|ab m),Z<|.im<|ab g],rfl,?_,λ_=>rfl,λ_=>⟨[Z (.im<|ab m),Z<|.im<|ab g],rfl,rfl⟩⟩;have QN:bt (az es (ai 0)<|ai 1) [Z (.im<|ab m),Z<|.im<|ab g]=Z (!decide (m=g),[Z (.im<|ab m),Z<|.im<|ab g]):=dn (eM<|mF m g);have QW:bt (az eJ (ai 0)<|ag<|bP 1 G.k7<|ar (ai 1) aD) [Z (.im<|ab m),Z<|.im<|ab g]=Z (!decide (m∈c0 g),[Z (.im<|ab m),Z<|.im<|ab g]):=dn (dm rfl (bF<|d7 (Q:=[.aS 1]) rfl rfl rfl (rI g) rfl) rfl rfl<|tL (c0 g) m);unfold rU;cases q:(!decide (m=g)) with
  |false=>rw[q]at QN;exact s6 QN
  |true=>rw[q]at QN;exact ke QN (QW.trans (by rw[B_]))
 have f:bY 3 (cO 1 [2] (cR<|ai 1) (bJ 0) G.rU G.yh) [Z (.lst b),Z<|aO aa,Z<|.im<|ab g,Y]=Z (.bp,[Z (.lst b),Z<|aO aa,Z<|.im<|ab g,Z<|a5<|aa.filter λm=>!decide (m=g) && !decide (m∈c0 g)]):=k0 E (fY rfl) rfl;generalize s:(aa.filter λm=>!decide (m=g) && !decide (m∈c0 g))=a at f;have d:bt (az dS (ai 3)<|ag<|e_ aD) [Z (.lst b),Z<|aO aa,Z<|.im<|ab g,Z<|a5 a]=Z (decide (a=[]),[Z (.lst b),Z<|aO aa,Z<|.im<|ab g,Z<|a5 a]):=dn (dm rfl (bF rfl) rfl rfl<|LG a);by_cases Qj:a=[]
 ·rw[dk Qj]at d;refine⟨.lst b,Qm.mono ⋯,.inl ?_⟩;unfold nD uB;exact hI (A:=[Z (.lst b),Z<|aO aa,Z<|.im<|ab g,Z<|a5 a]) rfl (cq p<|cq f<|zk<|oj d rfl) rfl
 ·rw[cW Qj]at d;have Rk:=n7.mpr Qj;have aS:a.length<=aa.length:=by rw[<-s];exact rh _ _
  let⟨L,D,F,I,P,Qz⟩:=hW (r:=r) (k:=(a.length:Int)) Qm ⋯ ⋯;obtain⟨e,t⟩:∃e,a[L.toNat]?=Z e:=⟨a[L.toNat]'⋯,by simp⟩;let⟨h,rfl⟩:=Qz.lst;have v:=fu t;rw[<-s]at v;let⟨dR,dc⟩:=gn.mp v;rw[cG,jC,jC,kb,kb]at dc;refine⟨.lst h,Qz,.inr ⟨g,e,fu i,dR,λH=>dc.1 H.symm,dc.2,?_⟩⟩;have aZ:dg [a5 a]=Z (aF (a.length:Int)):=by
   show Z (aj.im<|.int ((a.map ab).length:Int))=_;rw[bq]
  have J:bG (a5 a) (aF L)=Z (.im<|ab e):=by
   show (dx (a.map ab) L).map aj.im=_;rw[n4 I t];rfl
  unfold nD uB;refine hI (A:=[Z (.lst h),Z<|aO aa,Z<|.im<|ab g,Z<|a5 a]) rfl (cq p<|cq f<|cq (fU d rfl)<|jc<|sb (Q:=[.aS 2,.cm<|.im<|ab e]) (Qn:=[Z (.lst h),Z<|aO aa,Z<|.im<|ab g,Z<|a5 a]) (nH rfl<|nH (jE<|ng (Qn:=[Z (.lst b),Z<|aO aa,Z<|.im<|ab g,Z<|a5 a]) rfl (jE<|d7 (Q:=[.aS 0,.cm<|aF (a.length:Int)]) (cA rfl<|cA (bF<|d3 (cA rfl rfl) rfl aZ) rfl) rfl rfl F rfl) rfl rfl J) rfl) rfl (mn rfl) rfl) rfl
def Le{f:aj}(a:za f E)(i:aa.length<=200):∃w:Bool,sy [aO aa,.im<|ab g,.im<|ab e,f]=Z (.im<|.ax w,[aO aa,.im<|ab g,.im<|ab e,f])/\(w=X↔¬ dI (aa.filter λm=>!decide (m∈E)) g e):=by
 have pQ:=rh (λm=>!decide (m∈E)) aa;let⟨b,d,W,c,W⟩:=vH (f:=a5 (aa.filter λm=>!decide (m∈E))) (E:=aa.filter λm=>!decide (m∈E)) (e:=g) (.inl rfl) ⋯;have h:cO 1 [3] (cR<|ai 0) (bJ 0) G.zd G.yE [Z (aO aa),Z<|.im<|ab g,Z<|.im<|ab e,Z f]=Z (a5<|aa.filter λm=>!decide (m∈E),[Z (aO aa),Z<|.im<|ab g,Z<|.im<|ab e,Z f]):=by
  refine iW (y:=aa.map ab) (o:=Y) (Qn:=[Z (aO aa),Z<|.im<|ab g,Z<|.im<|ab e,Z f]) rfl (k8 ab (λm=>!decide (m∈E)) ab _ [] (λm W=>?_) (by rw[jI];lia)) rfl;refine⟨[Z (.im<|ab m),Z f],[Z (.im<|ab m),Z f],rfl,dn ?_,λ_=>rfl,λ_=>⟨[Z (.im<|ab m),Z f],rfl,rfl⟩⟩;rcases a with rfl|rfl
  ·exact eM (tL E m)
  ·exact eM (wx E m)
 refine⟨!decide (e∈b),?_,?_⟩
 ·unfold sy D6;refine hI (A:=[Z (aO aa),Z<|.im<|ab g,Z<|.im<|ab e,Z f]) rfl (jc<|dm rfl (bF<|d7 (Q:=[.cm (a5<|aa.filter λm=>!decide (m∈E)),.aS 1]) (cA (bF h) rfl) rfl rfl d rfl) rfl rfl<|wx b e) ?_;rcases a with rfl|rfl<;>rfl
 ·rw[jC,kb,c]
theorem B9{QG:Type}(B:QG->Bool):∀y:List QG,m5 (y.map λs=>.ax<|B s)=Z (y.map B)
 |[]=>rfl
 |f::y=>by
  show (m5<|y.map λs=>.ax<|B s).map _=_;rw[B9 B y];rfl
def BU(B:QG->Bool)(y:List QG):lL [.lst (y.map λs=>.ax<|B s)]=Z (.im<|.ax<|y.all B):=by
 show (m5 _).map _=_;rw[B9,rQ,vQ];rfl
def mZ(x:dD):Bool:=((x.zip<|x.drop 1).all λq=>decide (q.2∈c0 q.1))
def NT{QT:Option aj}(a:m∈aa):su [Z (aO aa),QT,Z<|.im<|ab m]=Z (.bp,[Z (aO aa),QT,Z<|.im<|ab m]):=by
 have b:bt (az eJ (ai 2)<|ai 0) [Z (aO aa),QT,Z<|.im<|ab m]=Z (aq,[Z (aO aa),QT,Z<|.im<|ab m]):=dn (eM ((wx aa m).trans (by rw[dk a];rfl)));unfold su;refine cq (fU (h7 (Qn:=[Z (aO aa),QT,Z<|.im<|ab m]) rfl<|h7 (Qn:=[Z (aO aa),QT,Z<|.im<|ab m]) rfl b) rfl) (fU (Qn:=[Z (aO aa),QT,Z<|.im<|ab m]) rfl rfl)
def Fv{x:dD}(p:x.length<=1000)(c:x≠[])(d:∀m∈x,m∈aa)(b:mZ x=X):pV [aO aa,.im<|aY x]=Z (.im<|.ax X,[aO aa,.im<|aY x]):=by
 let⟨QE,g,Q4,rfl⟩:=sQ (QL:=bJ 2) (e:=su) (y:=x.map ab) (λ_ A=>∃Q4,A=[Z (aO aa),Z<|.im<|aY x,Q4]) (A:=[Z (aO aa),Z<|.im<|aY x,Y]) ⟨Y,rfl⟩ (λa f A h i=>by
  let⟨Q4,rfl⟩:=i;let⟨m,j,rfl⟩:=cJ.mp (fu h);exact⟨_,.bp,_,rfl,NT<|d m j,.inl rfl,_,rfl⟩)
 have k:dg [.im (aY x)]=Z (aF (x.length:Int)):=by
  show Z (aj.im<|.int ((x.map ab).length:Int))=_;rw[bq]
 have r:=n7.mpr c;have QW:bt (az dS (ag<|b2 dg<|ar (ai 1) aD)<|ag<|aB<|.int 0) [Z (aO aa),Z<|.im<|aY x,Y]=Z (aq,[Z (aO aa),Z<|.im<|aY x,Y]):=dn (dm (bF<|d3 (cA rfl rfl) rfl k) rfl rfl rfl ((rN _ _).trans (by rw[cW ⋯])));have l:gg (x.map ab) (gk (x.map ab) (Z 1) Y)=(x.zip<|x.drop 1).map λq=>.tup [ab q.1,ab q.2]:=by
  rw[vI,show (1:Int)=((1:Nat):Int) from rfl,Hl,yD]
 have s:(x.zip<|x.drop 1).length<=1000:=by rw[wF];lia
 have n:cO 2 [] (q8<|ar (ai 1)<|ar (ag<|lD (ai 1) (mz<|aB<|.int 1) oL) aD) (mY 2<|hk (bJ 0)<|hk (bJ 1) lA) dW G.Dh [Z (aO aa),Z<|.im<|aY x,Q4]=Z (.lst<|(x.zip<|x.drop 1).map λq=>.ax<|decide (q.2∈c0 q.1),[Z (aO aa),Z<|.im<|aY x,Q4]):=by
  refine iW (y:=(x.zip<|x.drop 1).map λq=>.tup [ab q.1,ab q.2]) (o:=Y) (Qn:=[Z (aO aa),Z<|.im<|aY x,Q4]) ?_ (je (λq:aL×aL=>.tup [ab q.1,ab q.2]) (λq=>.ax<|decide (q.2∈c0 q.1)) _ (λq W=>?_) ⋯) rfl
  ·rw[<-l];exact NB (cA rfl<|cA (bF<|Fi rfl rfl rfl rfl rfl) rfl) rfl
  ·refine⟨[Z (.im<|ab q.1),Z<|.im<|ab q.2],_,[Z (.im<|ab q.1),Z<|.im<|ab q.2],rfl,rfl,?_,rfl⟩;exact dm rfl (bF<|d7 (Q:=[.aS 0]) rfl rfl rfl (rI q.1) rfl) rfl rfl (Pm (c0 q.1) q.2)
 unfold pV EO;refine hI (A:=[Z (aO aa),Z<|.im<|aY x,Q4]) rfl (cq (fU (h7 (Qn:=[Z (aO aa),Z<|.im<|aY x,Y]) rfl QW) rfl)<|cq (o9 (o:=Y) (y:=x.map ab) (Qn:=[Z (aO aa),Z<|.im<|aY x,Y]) rfl g rfl)<|jc<|d3 (cA (bF n) rfl) rfl<|(BU _ _).trans ?_) rfl;unfold mZ at b;rw[b]
theorem t8:∀E:List aL,dB (E.map ab) (E.map ab)=X
 |[]=>rfl
 |m::E=>by rw[cH,dB,qj,dk rfl,t8 E];rfl
theorem xX:∀Qc:List dD,dB (Qc.map aY) (Qc.map aY)=X
 |[]=>rfl
 |x::Qc=>by
  rw[cH,dB,xX Qc];show (dB (x.map ab) (x.map ab)&&X)=X;rw[t8];rfl
theorem uS:∀Qr:dD,V.cg 7 (Qr.map ab)=X
 |[]=>rfl
 |m::Qr=>by rw[cH,V.cg,uS Qr];rfl
theorem A6:∀Qc:List dD,V.cg 8 (Qc.map aY)=X
 |[]=>rfl
 |x::Qc=>by
  rw[cH,V.cg,A6 Qc];show (V.cg 7 (x.map ab)&&X)=X;rw[uS];rfl
def jB.ak(c:jB E):E.Nodup:=by
 refine nk.mpr (c.imp λ{f I} d H=>?_);rw[H,pN]at d;cases d
def nd.ak(c:nd Qc):Qc.Nodup:=by
 refine nk.mpr (c.imp λ{f I} d H=>?_);rw[H,pN]at d;cases d
def tU(c:jB E)(a:E.length<=1000):kc [.aJ (cv E)]=Z (a5 E):=by
 have o:=Bv c.ak a;show hB ((cv E).map λq=>.tup q.1)=Z (a5 E);rw[AW];unfold hB;rw[aE (qQ.mpr o),<-yx o.ord (List.Perm.refl _) (kx.mpr c)]
def Mo(ak:E.Nodup)(a:E.length<=1000):jv [.lst (E.map λm=>.tup [ab m,.ax X])]=Z (.aJ<|cv E):=by
 have b:fw (cv E)=cv E:=wH (by
  unfold cv;rw[gs];exact nc (λf W I W d=>lJ d) ak)
 show (il<|E.map λm=>.tup [ab m,.ax X]).bind _=_;rw[D2];show (if ((cv E).all λq=>V.keys 7 q.1)=X/\(cv E).length<=1000 then Z (aj.aJ<|fw<|cv E) else Y)=_;rw[aE ⟨EU E,by unfold cv;rw[bq];exact a⟩,b]
theorem zj(y:List QG):lL [.lst (y.map λ_=>.ax X)]=Z (.im<|.ax X):=(BU (λ_=>X) y).trans (by rw[iI.mpr λ_ W=>rfl])
def Pn(c:∀m∈E,m∈aa)(up:jB E)(a:E.length<=1000):sF [aO aa,aO E]=Z (.im<|.ax X,[aO aa,aO E]):=by
 have d:cO 1 [0] (cR<|ai 1) (bJ 0) dW G.Fp [Z (aO aa),Z<|aO E]=Z (.lst<|E.map λ_=>.ax X,[Z (aO aa),Z<|aO E]):=by
  refine iW (y:=E.map ab) (o:=Y) (Qn:=[Z (aO aa),Z<|aO E]) rfl (je ab (λ_=>.ax X) _ (λm b=>?_) ⋯) rfl;exact⟨[Z (.im<|ab m),Z<|aO aa],_,[Z (.im<|ab m),Z<|aO aa],rfl,rfl,d7 (Q:=[.aS 1,.cm<|.im<|aY [m]]) (cA rfl<|cA (bF rfl) rfl) rfl rfl (Fv (x:=[m]) (mn rfl) (uD _ _) (λf e=>by rw[cV.mp e];exact c m b) rfl) rfl,rfl⟩
 have g:cO 1 [] (cR<|ai 1) (bJ 0) dW G.zx [Z (aO aa),Z<|aO E]=Z (.lst<|E.map λm=>.tup [ab m,.ax X],[Z (aO aa),Z<|aO E]):=by
  refine iW (y:=E.map ab) (o:=Y) (Qn:=[Z (aO aa),Z<|aO E]) rfl (je ab (λm=>.tup [ab m,.ax X]) _ (λm b=>?_) ⋯) rfl;exact⟨[Z (.im<|ab m)],_,[Z (.im<|ab m)],rfl,rfl,rfl,rfl⟩
 have h:dS (a5 E) (a5 E)=Z (.im<|.ax X):=by
  show (if (V.cg 8 (E.map ab)&&V.cg 8 (E.map ab))=X then Z (aj.im<|.ax<|dB (E.map ab)<|E.map ab) else Y)=_;rw[n2,aE<|show (X&&X)=X from rfl,t8]
 unfold sF EC;refine hI (A:=[Z (aO aa),Z<|aO E]) rfl (cq (fU (h7 (Qn:=[Z (aO aa),Z<|aO E]) rfl<|ov<|oP (bF<|d3 (cA (bF d) rfl) rfl<|zj E) rfl rfl) rfl)<|jc<|dm (bF<|d3 (cA rfl rfl) rfl rfl) (bF<|d3 (cA (bF<|d3 (cA (bF g) rfl) rfl<|Mo up.ak a) rfl) rfl<|tU up a) rfl rfl h) rfl
def hL(x:dD):dD:=((x.drop 1).dropLast)
def xC(g e:aL)(k:dD):hL (g::(k++[e]))=k:=by
 unfold hL;rw[List.drop_one,List.tail_cons,List.dropLast_concat]
def I_(f I:QG)(k:List QG):gk (f::(k++[I])) (Z 1) (Z<|-1)=k:=by
 unfold gk c_.b1;have:(f::(k++[I])).length=k.length+2:=by simp
 rw[this];have b:∀n:Nat,n=1->((f::(k++[I])).drop n)=k++[I]:=λn a=>by rw[a];rfl
 simp only[];rw[b _ (by split<;>lia)];have c:∀n:Nat,n=k.length->(k++[I]).take n=k:=λn a=>by rw[a,List.take_left]
 exact c _ (by split<;>split<;>lia)
def hN(Qc:List dD):List (List V×V):=(Qc.map λx=>(x.map ab,.ax X))
theorem y3:∀Qr:dD,V.keys 7 (Qr.map ab)=X
 |[]=>rfl
 |m::Qr=>by rw[cH,V.keys,y3 Qr];rfl
def Nn(Qc:List dD):il (Qc.map λx=>.tup [aY x,.ax X])=Z (hN Qc):=by
 induction Qc with
 |nil=>rfl
 |cons m s a=>
  rw[cH];show (il<|s.map λx=>.tup [aY x,.ax X]).map (λh=>(m.map ab,.ax X)::h)=_;rw[a];rfl
def J9(ak:Qc.Nodup)(a:Qc.length<=1000):jv [.lst (Qc.map λx=>.tup [aY x,.ax X])]=Z (.aJ<|hN Qc):=by
 have l:((hN Qc).all λq=>V.keys 7 q.1)=X:=by
  rw[iI];intro q b;let⟨f,e,rfl⟩:=cJ.mp b;exact y3 f
 have c:fw (hN Qc)=hN Qc:=wH (by
  unfold hN;rw[gs];exact nc (λf W I W d=>BJ<|congrArg V.tup d) ak)
 show (il<|Qc.map λx=>.tup [aY x,.ax X]).bind _=_;rw[Nn];show (if ((hN Qc).all λq=>V.keys 7 q.1)=X/\(hN Qc).length<=1000 then Z (aj.aJ<|fw<|hN Qc) else Y)=_;rw[aE ⟨l,by unfold hN;rw[bq];exact a⟩,c]
def HS(c:nd Qc)(a:Qc.length<=1000)(ne:∀x∈Qc,x≠[]):kc [.aJ (hN Qc)]=Z (.lst<|Qc.map aY):=by
 have o:=z2 c.ak a ne;have d:((hN Qc).map λq=>V.tup q.1)=Qc.map aY:=by unfold hN;rw[gs];rfl
 show hB ((hN Qc).map λq=>.tup q.1)=_;rw[d];unfold hB;rw[aE (qQ.mpr o),<-yx o.ord (List.Perm.refl _) (kx.mpr c)]
def yS{QS:List aL}(ak:QS.Nodup):(f6<|QS.map c8).length=QS.length:=by
 have a:(QS.map c8).Nodup:=nc (λf W I W d=>lJ d) ak;rw[((yt (Ih _) a).mpr λf=>HY).length_eq,bq]
def N6{QS:List aL}(c:A[a]?=Z (Z<|a5 QS))(ak:QS.Nodup)(b:QS.length<300):uc (ar (ai a) aD) A=Z (aF (QS.length:Int),A):=by
 have d:QS.map ab=(QS.map c8).map .tup:=by rw[gs];rfl
 have e:q4 (QS.map c8)=X:=BZ.mpr ⟨λn g=>by
  let⟨f,W,rfl⟩:=cJ.mp g;exact mL f,by rw[yS ak];exact b⟩
 have h:ar (ai a) aD A=Z ([.aS a],A):=by simp -implicitDefEqProofs [c]
 have i:gC A [.aS a]=Z [a5 QS]:=by simp -implicitDefEqProofs [c]
 unfold uc;rw[h];show (gC A [.aS a]).bind _=_;rw[i];show (oN<|QS.map ab).bind _=_;rw[d,zL];show (if q4 (QS.map c8)=X then Z (aj.im<|.int ((f6<|QS.map c8).length:Int),A) else Y)=_;rw[aE e,yS ak]
structure rg(aa:List aL)(g e:aL)(Qc:List dD):Prop where
 up:nd Qc
 dO:Qc.length<=1000
 len:∀x∈Qc,x.length<=1000
 dt:∀x∈Qc,∀m∈x,m∈aa
 ch:∀x∈Qc,mZ x=X
 m4:∀x∈Qc,∃k,x=g::(k++[e])
 ak:(Qc.flatMap hL).Nodup
 aQ:(Qc.flatMap hL).length<300
 na:g∉Qc.flatMap hL
 nb:e∉Qc.flatMap hL
def rg.ne(O:rg aa g e Qc):∀x∈Qc,x≠[]:=λx a=>by
 let⟨k,rfl⟩:=O.m4 x a;exact uD _ _
def Ll{k QS:dD}(c:k.length<=1000)(i:QS.length<=1000):qX [Z (aO aa),Z<|.im<|ab g,Z<|.im<|ab e,U,Z<|a5 QS,Z<|.im<|aY (g::(k++[e]))]=Z (.bp,[Z (aO aa),Z<|.im<|ab g,Z<|.im<|ab e,U,Z<|a5<|QS++k,Z<|.im<|aY (g::(k++[e]))]):=by
 have aZ:dg [.im (aY (g::(k++[e])))]=Z (aF ((k.length+2:Nat):Int)):=by
  show Z (aj.im<|.int (((g::(k++[e])).map ab).length:Int))=_;rw[bq,er,dF,gq]
 have bh:v3 (aF ((k.length+2:Nat):Int)) (aF 2)=Z (.im<|.ax aq):=by
  show Z (aj.im<|.ax<|decide (((k.length+2:Nat):Int)<2))=_;rw[cW ⋯]
 have a:bG (.im<|aY (g::(k++[e]))) (aF<|-1)=Z (.im<|ab e):=by
  show (dx ((g::(k++[e])).map ab)<|-1).map aj.im=_;rw[u_ (v:=ab e) (by rw[<-qt,fp];exact Fh)];rfl
 have b:bG (.im<|aY (g::(k++[e]))) (aF 0)=Z (.im<|ab g):=by
  show (dx ((g::(k++[e])).map ab) 0).map aj.im=_;rw[wY (kW 0) (v:=ab g) rfl];rfl
 have d:es (.im<|ab g) (.im<|ab g)=Z (.im<|.ax aq):=(mF g g).trans (by rw[dk rfl];rfl);have f:es (.im<|ab e) (.im<|ab e)=Z (.im<|.ax aq):=(mF e e).trans (by rw[dk rfl];rfl);have h:oo (.im<|aY (g::(k++[e]))) (Z 1) (Z<|-1)=Z (aO k):=by
  show Z (aj.im<|.tup<|gk ((g::(k++[e])).map ab) (Z 1)<|Z<|-1)=_;rw[vI,I_]
 have ad:eE (a5 QS) (a5 k)=Z (a5<|QS++k):=by
  show (if (QS.map ab).length+(k.map ab).length<=100000 then Z (aj.lst<|QS.map ab++k.map ab) else Y)=_;rw[aE (by rw[bq,bq];lia),<-fp]
 unfold qX;exact cq (fU (h7 (dn<|dm (bF<|d3 (cA rfl rfl) rfl aZ) rfl rfl rfl bh)<|h7 (dn<|dm (bF<|eM b) rfl rfl rfl d)<|dn<|dm (bF<|dm rfl (bF rfl) rfl rfl a) rfl rfl rfl f) rfl) (k0 (dm rfl (bF<|d3 (cA (bF<|Fi rfl rfl rfl rfl h) rfl) rfl rfl) rfl rfl ad) (fY rfl) rfl)
theorem zt{aa:List aL}{g e:aL}{U:Option aj}:∀(Qc:List dD) (QS:dD) (QX:Option aj),(∀x∈Qc,∃k,x=g::(k++[e]))->QS.length+(Qc.flatMap hL).length<=1000->
  ∃a,ek (bJ 5) qX (Qc.map aY) [Z (aO aa),Z<|.im<|ab g,Z<|.im<|ab e,U,Z<|a5 QS,QX]=Z (.bp,[Z (aO aa),Z<|.im<|ab g,Z<|.im<|ab e,U,Z<|a5<|QS++Qc.flatMap hL,a])
 |[],QS,QX,_,_=>⟨QX,by rw[List.flatMap_nil,cD];rfl⟩
 |x::Qc,QS,QX,m4,b=>by
  let⟨k,rfl⟩:=m4 x (.head _);rw[q_,xC,dF]at b;let⟨a,c⟩:=zt (aa:=aa) (U:=U) Qc (QS++k) (Z<|.im<|aY (g::(k++[e]))) (λx d=>m4 x<|.tail _ d) (by rw[dF];lia);refine⟨a,?_⟩;rw[cH,ek];show (qX [Z (aO aa),Z<|.im<|ab g,Z<|.im<|ab e,U,Z<|a5 QS,Z<|.im<|aY (g::(k++[e]))]).bind _=_;rw[Ll ⋯ ⋯,q_,xC,<-bz];exact c
def LR(O:rg aa g e Qc):r4 [aO aa,.im<|ab g,.im<|ab e,.im<|.tup<|Qc.map aY]=Z (.im<|.ax X,[aO aa,.im<|ab g,.im<|ab e,.im<|.tup<|Qc.map aY]):=by
 have dO:=O.dO;have c:cO 1 [0] (cR<|ai 3) (bJ 0) dW G.z6 [Z (aO aa),Z<|.im<|ab g,Z<|.im<|ab e,Z<|.im<|.tup<|Qc.map aY,Y,Y]=Z (.lst<|Qc.map λ_=>.ax X,[Z (aO aa),Z<|.im<|ab g,Z<|.im<|ab e,Z<|.im<|.tup<|Qc.map aY,Y,Y]):=by
  refine iW (y:=Qc.map aY) (o:=Y) (Qn:=[Z (aO aa),Z<|.im<|ab g,Z<|.im<|ab e,Z<|.im<|.tup<|Qc.map aY,Y,Y]) rfl (je aY (λ_=>.ax X) _ (λx a=>?_) ⋯) rfl;exact⟨[Z (.im<|aY x),Z<|aO aa],_,[Z (.im<|aY x),Z<|aO aa],rfl,rfl,d7 (Q:=[.aS 1,.aS 0]) rfl rfl rfl (Fv (O.len x a) (O.ne x a) (O.dt x a)<|O.ch x a) rfl,rfl⟩
 have d:cO 1 [] (cR<|ai 3) (bJ 0) dW G.A_ [Z (aO aa),Z<|.im<|ab g,Z<|.im<|ab e,Z<|.im<|.tup<|Qc.map aY,Y,Y]=Z (.lst<|Qc.map λx=>.tup [aY x,.ax X],[Z (aO aa),Z<|.im<|ab g,Z<|.im<|ab e,Z<|.im<|.tup<|Qc.map aY,Y,Y]):=by
  refine iW (y:=Qc.map aY) (o:=Y) (Qn:=[Z (aO aa),Z<|.im<|ab g,Z<|.im<|ab e,Z<|.im<|.tup<|Qc.map aY,Y,Y]) rfl (je aY (λx=>.tup [aY x,.ax X]) _ (λx a=>?_) ⋯) rfl;exact⟨[Z (.im<|aY x)],_,[Z (.im<|aY x)],rfl,rfl,rfl,rfl⟩
 have ne:es (.lst<|Qc.map aY) (.lst<|Qc.map aY)=Z (.im<|.ax aq):=by
  show (if (V.cg 8 (Qc.map aY)&&V.cg 8 (Qc.map aY))=X then Z (aj.im<|.ax<|!dB (Qc.map aY) (Qc.map aY)) else Y)=_;rw[A6,aE<|show (X&&X)=X from rfl,xX];rfl
 let⟨QX,b⟩:=zt (aa:=aa) (g:=g) (e:=e) (U:=Z (.im<|.tup<|Qc.map aY)) Qc [] Y O.m4 (by have:=O.aQ;rw[jI];lia);rw[uQ]at b;have aQ:=O.aQ;have aZ:dg [a5 (Qc.flatMap hL)]=Z (aF ((Qc.flatMap hL).length:Int)):=by
  show Z (aj.im<|.int (((Qc.flatMap hL).map ab).length:Int))=_;rw[bq]
 unfold r4 yZ;refine hI (A:=[Z (aO aa),Z<|.im<|ab g,Z<|.im<|ab e,Z<|.im<|.tup<|Qc.map aY,Z<|a5<|Qc.flatMap hL,QX]) rfl ?_ rfl;refine cq (fU (h7 (Qn:=[Z (aO aa),Z<|.im<|ab g,Z<|.im<|ab e,Z<|.im<|.tup<|Qc.map aY,Y,Y]) rfl<|ov<|oP (bF<|d3 (cA (bF c) rfl) rfl<|zj Qc) rfl rfl) rfl) ?_;refine cq (fU (dn<|dm (bF<|d3 (cA rfl rfl) rfl rfl) (bF<|d3 (cA (bF<|d3 (cA (bF d) rfl) rfl<|J9 O.up.ak dO) rfl) rfl<|HS O.up dO O.ne) rfl rfl ne) rfl) ?_;refine cq (Qn:=[Z (aO aa),Z<|.im<|ab g,Z<|.im<|ab e,Z<|.im<|.tup<|Qc.map aY,Z<|a5 [],Y]) rfl (cq (o9 (o:=Y) (y:=Qc.map aY) (Qn:=[Z (aO aa),Z<|.im<|ab g,Z<|.im<|ab e,Z<|.im<|.tup<|Qc.map aY,Z<|a5 [],Y]) rfl b rfl)<|jc<|Fn ?_);refine ke (dn (dm (bF<|d3 (cA rfl rfl) rfl aZ) (bF<|N6 rfl O.ak aQ) rfl rfl ((rN _ _).trans (by rw[dk rfl])))) (ke (dn (eM ((tL _ g).trans (by rw[cW O.na];rfl)))) (dn (eM ((tL _ e).trans (by rw[cW O.nb];rfl)))))
def LK(b:aa.length<=200)(c:∀m∈E,m∈aa)(up:jB E)(d:E.length<=1000)(z:g∉E)(F:e∉E)(h:¬ dI (aa.filter λm=>!decide (m∈E)) g e)(O:rg aa g e Qc)(i:Qc.length=E.length):
  nS [aO aa,.im<|ab g,.im<|ab e,aO E,.im<|.tup<|Qc.map aY]=Z (.im<|.ax X,[aO aa,.im<|ab g,.im<|ab e,aO E,.im<|.tup<|Qc.map aY]):=by
 let⟨w,a,ba⟩:=Le (aa:=aa) (g:=g) (e:=e) (f:=aO E) (.inr rfl) b;rw[ba.mpr h]at a;have j:=Pn c up d;have k:=LR O;have aZ:dg [.im (.tup<|Qc.map aY)]=Z (aF (Qc.length:Int)):=by
  show Z (aj.im<|.int ((Qc.map aY).length:Int))=_;rw[bq]
 have bh:dg [aO E]=Z (aF (E.length:Int)):=by
  show Z (aj.im<|.int ((E.map ab).length:Int))=_;rw[bq]
 unfold nS Am;refine hI (A:=[Z (aO aa),Z<|.im<|ab g,Z<|.im<|ab e,Z<|aO E,Z<|.im<|.tup<|Qc.map aY]) rfl (cq (fU (h7 (ov<|oP (bF<|d7 (Q:=[.aS 0,.aS 3]) rfl rfl rfl j rfl) rfl rfl) (h7 (dn (eM ((Dn E g).trans (by rw[cW z])))) (h7 (dn (eM ((Dn E e).trans (by rw[cW F]))))<|ov<|oP (bF<|d7 (Q:=[.aS 0,.aS 1,.aS 2,.aS 3]) rfl rfl rfl a rfl) rfl rfl))) rfl) (jc (Fn (ke (dn<|d7 (Q:=[.aS 0,.aS 1,.aS 2,.aS 4]) rfl rfl rfl k rfl) (dn (dm (bF<|d3 (cA rfl rfl) rfl aZ) (bF<|d3 (cA rfl rfl) rfl bh) rfl rfl ((rN _ _).trans (by rw[i,dk rfl]))))))))  rfl
def d9.rs(QA:d9 aa g e B C Qo)(a:(e,aq)∉cy Qo):bH.Rs aa (iG aa) g e B λm o=>(m,o)∈cy Qo:=
 bH.Rs.of (cJ.mpr ⟨_,fu QA.s.hP,rfl⟩) (λh w c d=>QA.s.cl h c w<|GU d) a
def tR:gG Qo m=X↔bH.Cut (λm o=>(m,o)∈cy Qo) m:=by
 unfold gG bH.Cut;rw[cG,jC,jF,kb]
def d9.bar(QA:d9 aa g e B C Qo)(i:(e,aq)∉cy Qo):¬ dI (aa.filter λm=>!decide (m∈aa.filter (gG Qo))) g e:=λc=>by
 have Qg:=QA.rs i;have Q:∀f,dI (aa.filter λm=>!decide (m∈aa.filter (gG Qo))) g f->(f,X)∈cy Qo:=λf c=>by
  induction c with
  |self=>exact Qg.start
  |@step I f _ j k a=>
   let⟨b,d⟩:=gn.mp j;rw[jC,kb]at d;have l:=Qg.next I f a ⟨QA.s.inf _ a,b,k⟩;exact ko λH=>d (gn.mpr ⟨b,tR.mpr ⟨l,H⟩⟩)
 exact Qg.yo (Qg.dt _<|Q e c)
def d9.many(QA:d9 aa g e B C Qo)(ak:aa.Nodup)(a:(e,aq)∉cy Qo):(aa.filter<|gG Qo).length=C.length:=QA.w.many (QA.rs a) ak λm W=>tR
def d9.ON(QA:d9 aa g e B C Qo)(a:(e,aq)∉cy Qo):g∉aa.filter (gG Qo)/\e∉aa.filter (gG Qo):=by
 have Qg:=QA.rs a;exact⟨λc=>(tR.mp (gn.mp c).2).2 Qg.start,λc=>Qg.yo (tR.mp (gn.mp c).2).1⟩
def d9.free(QA:d9 aa g e B C Qo)(r:e∈aa){E:List aL}(z:E.length<C.length)(j:∀m∈E,m≠g/\m≠e):dI (aa.filter λm=>!decide (m∈E)) g e:=by
 have q:∀{f},f∈aa->f∉E->f∈aa.filter λm=>!decide (m∈E):=λl D=>gn.mpr ⟨l,by rw[cW D];rfl⟩;obtain⟨t,b,s⟩:∃t∈C,∀m∈E,m∉bH.dt B t (ef B g t):=by
  refine ko λH=>?_;have h:∀t,∃m,t∈C->m∈E/\m∈bH.dt B t (ef B g t):=λt=>by
   by_cases b:t∈C
   ·refine ko λI=>H ⟨t,b,λm l D=>I ⟨m,λ_=>⟨l,D⟩⟩⟩
   ·exact⟨g,λc=>absurd c b⟩
  have k:∀t,t∈C->(h t).choose∈E/\(h t).choose∈bH.dt B t (ef B g t):=λt=>(h t).choose_spec;have u:(C.map λt=>(h t).choose).Nodup:=nc (λf n I o d=>QA.w.apart n o (QA.jf n) (QA.jf o) (k f n).2 (by rw[show (h f).choose=(h I).choose from d];exact (k I o).2)) QA.w.ak;have:=u.length_le_of_subset (l₂:=E) λm j=>by
   let⟨t,b,rfl⟩:=cJ.mp j;exact (k t b).1
  rw[bq]at this;lia
 have P:=QA.jf b;have Q:∀i a,a+i=ef B g t+1->dI (aa.filter λm=>!decide (m∈E)) g (bH.it B a t):=λi=>by
  induction i with
  |zero=>
   intro a S;have:a=ef B g t+1:=⋯
   rw[this,P.1];exact .self
  |succ i v=>
   intro a S;have N:=QA.w.steps P (a:=a) ⋯;have y:bH.it B a t∈bH.dt B t (ef B g t):=bH.qH.mpr ⟨a,⋯,rfl⟩;exact .step (v (a+1) ⋯) (q N.2.1 λp=>s _ p y) N.2.2
 exact .step (Q (ef B g t+1) 0 ⋯) (q r λp=>(j e p).2 rfl) ((QA.w.last t b).2.1).2.2
theorem E7{QG Q9:Type}(M:QG->List Q9):∀C:List QG,(C.flatMap λt=>(M t).reverse).Perm (C.flatMap M)
 |[]=>List.Perm.refl _
 |t::C=>by
  rw[q_,q_];exact (List.reverse_perm _).append (E7 M C)
def LB(f I:aL)(s:dD):mZ (f::I::s)=(decide (I∈c0 f)&&mZ (I::s)):=rfl
def d9.FF(QA:d9 aa g e B C Qo)(p:aa.length<=200)(l:g∈aa)(n:e∈aa){Qc:List dD}(T:Qc.Perm (C.map<|hv B g e))(up:nd Qc):rg aa g e Qc:=by
 have dO:=QA.dO;have i:∀x∈Qc,∃t∈C,x=hv B g e t:=λx h=>by
  let⟨t,c,d⟩:=cJ.mp (T.mem_iff.mp h);exact⟨t,c,d.symm⟩
 have j:(Qc.flatMap hL).Perm (C.flatMap λt=>bH.dt B t<|ef B g t):=by
  refine (T.flatMap_right hL).trans ?_;rw[List.flatMap_map];refine List.Perm.trans (zA ?_) (E7 (λt=>bH.dt B t<|ef B g t) C);congr 1;funext t;exact xC g e _
 have ak:=QA.w.Kf (r:=ef B g) λt f=>QA.jf f;have sub:∀m∈C.flatMap λt=>bH.dt B t<|ef B g t,m∈aa/\m≠g/\m≠e:=λm b=>by
  let⟨t,f,c⟩:=y6.mp b;exact QA.w.C8 (QA.jf f) c
 have aQ:=ak.length_le_of_subset (l₂:=aa) λm b=>(sub m b).1;refine⟨up,by rw[T.length_eq,bq];lia,λx h=>?_,λx h m b=>?_,λx h=>?_,λx h=>?_,j.nodup_iff.mpr ak,by rw[j.length_eq];lia,λc=>(sub g<|j.mem_iff.mp c).2.1 rfl,λc=>(sub e<|j.mem_iff.mp c).2.2 rfl⟩
 ·let⟨t,f,rfl⟩:=i x h;have:=QA.CB f;unfold hv bH.dt;rw[er,dF,sX,bq,hb,gq];lia
 ·let⟨t,f,rfl⟩:=i x h;unfold hv at b;rcases cj.mp b with rfl|b
  ·exact l
  ·rcases dK.mp b with b|b
   ·exact (QA.w.C8 (QA.jf f)<|List.mem_reverse.mp b).1
   ·rw[cV.mp b];exact n
 ·let⟨t,f,rfl⟩:=i x h;have P:=QA.jf f;have Q:∀k,k<=ef B g t+1->mZ (bH.it B k t::(((range k).map λa=>bH.it B a t).reverse++[e]))=X:=λk=>by
   induction k with
   |zero=>
    intro W;show (decide (e∈c0 t)&&X)=X;rw[dk (QA.w.last t f).2.1.2.2];rfl
   |succ k o=>
    intro c;rw[xQ,fp,CW];show mZ (bH.it B (k+1) t::bH.it B k t::(((range k).map λa=>bH.it B a t).reverse++[e]))=X;rw[LB,o ⋯,dk (QA.w.steps P (a:=k) ⋯).2.2];rfl
  have:=Q (ef B g t+1) (bf _);rw[P.1]at this;exact this
 ·let⟨t,f,rfl⟩:=i x h;exact⟨_,rfl⟩
def dI.trans(c:dI aa f I)(n:dI aa I H):dI aa f H:=by
 induction n with
 |self=>exact c
 |step _ l D a=>exact .step a l D
def dI.dt(a:f∈aa)(c:dI aa f I):I∈aa:=by
 cases c with
 |self=>exact a
 |step _ l _=>exact l
theorem AQ(c:I∈c0 f):f∈c0 I:=(Ay (aa:=[f,I]) ⟨.head _,.tail _<|.head _,c⟩).2.2
def dI.sym(a:f∈aa)(c:dI aa f I):dI aa I f:=by
 induction c with
 |self=>exact .self
 |step b l D d=>exact (dI.step .self (dI.dt a b)<|AQ D).trans d
theorem Cm:∀Qr:dD,V.cg 6 (Qr.map ab)=X
 |[]=>rfl
 |m::Qr=>by rw[cH,V.cg,Cm Qr];rfl
theorem A7:∀Qc:List dD,V.cg 6 (Qc.map aY)=X
 |[]=>rfl
 |x::Qc=>by
  rw[cH,V.cg,A7 Qc];show (V.cg 5 (x.map ab)&&X)=X;rw[ta];rfl
def LF(E:List aL)(Qc:List dD):es (.im<|.tup [.tup (E.map ab),.tup<|Qc.map aY]) (.im<|.tup [.tup (E.map ab),.tup<|Qc.map aY])=Z (.im<|.ax aq):=by
 have c:V.bg 8 (.tup [.tup (E.map ab),.tup<|Qc.map aY])=X:=by
  show (V.cg 6 (E.map ab)&&(V.cg 6 (Qc.map aY)&&X))=X;rw[Cm,A7];rfl
 have d:cf (.tup [.tup (E.map ab),.tup<|Qc.map aY]) (.tup [.tup (E.map ab),.tup<|Qc.map aY])=X:=by
  show (dB (E.map ab) (E.map ab)&&(dB (Qc.map aY) (Qc.map aY)&&X))=X;rw[t8,xX];rfl
 show (if (V.bg 8 (.tup [.tup (E.map ab),.tup<|Qc.map aY])&&V.bg 8 (.tup [.tup (E.map ab),.tup<|Qc.map aY]))=X then Z (aj.im<|.ax<|!cf (.tup [.tup (E.map ab),.tup<|Qc.map aY]) (.tup [.tup (E.map ab),.tup<|Qc.map aY])) else Y)=_;rw[c,aE<|show (X&&X)=X from rfl,d];rfl
def KL(f I:aL)(h w:Int):bC (ab (f.1+h,f.2+w)) (ab (I.1+h,I.2+w))=bC (ab f) (ab I):=by
 have e:∀a i:Int,V.beq (.int<|a) (.int i)=decide (a=i):=λa i=>by rw[V.beq]
 have d:∀f I:aL,bC (ab f) (ab I)=if f.1=I.1 then decide (f.2<I.2) else decide (f.1<I.1):=λf I=>by
  show (if V.beq (.int f.1) (.int I.1)=X then (if V.beq (.int f.2) (.int I.2)=X then aq else decide (f.2<I.2)) else decide (f.1<I.1))=_;rw[e,e];by_cases l:f.1=I.1
  ·rw[dk l,aE rfl,aE l];by_cases D:f.2=I.2
   ·rw[dk D,aE rfl,D,cW<|Int.lt_irrefl _]
   ·rw[cW D,aI df]
  ·rw[cW l,aI df,aI l]
 rw[d,d];simp only[Int.add_left_inj,Int.add_lt_add_iff_right]
def FJ(h w:Int)(c:dI E g f):dI (E.map λm=>(m.1+h,m.2+w)) (g.1+h,g.2+w) (f.1+h,f.2+w):=by
 induction c with
 |self=>exact .self
 |step _ l D a=>
  refine .step a (cJ.mpr ⟨_,l,rfl⟩) ?_;unfold c0 at D ⊢;simp only[cj,i9,jl,pB]at D ⊢;lia
def Hn{h w:Int}(c:dI (E.map λm=>(m.1+h,m.2+w)) (g.1+h,g.2+w) f):dI E g (f.1-h,f.2-w):=by
 induction c with
 |self=>
  have:(((g.1+h,g.2+w):aL).1-h,((g.1+h,g.2+w):aL).2-w)=g:=by rw[pB];exact⟨ub _ _,ub _ _⟩
  rw[this];exact .self
 |@step I H _ l D a=>
  let⟨m,b,rfl⟩:=cJ.mp l;have:(((m.1+h,m.2+w):aL).1-h,((m.1+h,m.2+w):aL).2-w)=m:=by rw[pB];exact⟨ub _ _,ub _ _⟩
  rw[this];refine .step a b ?_;unfold c0 at D ⊢;simp only[cj,i9,jl,pB]at D ⊢;lia
def HV(b:0<k)(N:k<=140){c:aj}(j:dX (r+400) c):∃T E,o7 [c,aF k]=Z (a5 E,[T,aF k])/\dX r T/\E≠[]/\E.length<=160/\∀m∈E,iT m:=by
 let⟨u,l,g,O,P,Qm⟩:=hW (r:=r+399) (k:=k) j b ⋯;have h:pk u:=⟨⋯,⋯⟩;let⟨QE,i,⟨D,E,U,M,rfl,Qz,p,q,s⟩⟩:=sQ (QL:=bJ 3) (e:=s8) (y:=fN 0 u.toNat) (λa A=>∃c E U M,A=[Z c,Z<|aF k,Z<|a5 E,U,M]/\dX (r+398-2*a) c/\E≠[]/\E.length<=a+1/\∀m∈E,iT m) (A:=[Z l,Z<|aF k,Z<|a5 [(12,12)],Y,Y]) ⟨l,[(12,12)],Y,Y,rfl,Qm.mono ⋯,by simp,by simp,λm t=>by rw[cV.mp t];exact⟨by decide,by decide,by decide,by decide⟩⟩
  (λa f A v w=>by
   let⟨c,E,U,M,rfl,x,QZ,Q2,z⟩:=w;have S:a<u.toNat:=by
    have:=(e9.mp v).1
    rwa [fN,bq,hb]at this
   let⟨T,B,Q,d,F,C,R,G⟩:=F4 (r:=r+398-2*(a+1)) (k:=k) (n:=Z (.im f)) (M:=M) (x.mono ⋯) QZ ⋯ z;exact⟨[Z c,Z<|aF k,Z<|a5 E,Z<|.im f,M],.bp,_,rfl,d,.inl rfl,T,B,_,_,rfl,F,C,⋯,G⟩)
 have H:(fN 0 u.toNat).length=u.toNat:=by rw[fN,bq,hb]
 rw[H]at Qz q;refine⟨D,E,?_,Qz.mono ⋯,p,⋯,s⟩;let⟨I,rfl⟩:=j.lst;let⟨J,rfl⟩:=Qm.lst;let⟨L,rfl⟩:=Qz.lst;unfold o7 Eb;refine tM [Z (.lst L),Z<|aF k,Z .dZ,U,M] rfl ((gF (Qn:=[Z (.lst I),Z<|aF k,Z<|a5 [(12,12)],Y,Y]) rfl).trans<|(gF<|sz (o:=Y) (y:=fN 0 u.toNat) (Qn:=[Z (.lst J),Z<|aF k,Z<|a5 [(12,12)],Y,Y]) ?_ i).trans rfl) rfl;simp -implicitDefEqProofs [g,h]
def H0(t:0<k)(v:k<=140){c:aj}{b x e:Int}{E:List (Int×Int)}(j:dX (r+402) c)(J:0<=b)(L:b<6)(f:(0,0)∈E)(N:E.length<=60)(Qj:∀m∈E,iT m):
  ∃T a z,mid [Z c,Z<|aF k,Z<|aF b,Z<|aF x,Z<|aF e,Z<|a5 E,Y,Y,Y,Y]=Z (.bp,[Z T,Z<|aF k,Z<|aF b,Z<|aF x,Z<|aF e,Z<|a5 a,z,Y,Y,Y])/\dX r T/\a≠[]/\a.length<=160/\∀m∈a,iT m:=by
 have Q:=Cj f;have n:∀b:Int,∃T a z,gD (iz<|ar (ag<|bP 2 G.eA<|ar (ai 0)<|ar (ag<|az eE (ag<|aB<|.int 1)<|ag<|az l5 (ag<|b2 dg<|ar (ai 5) aD)<|ag<|aB<|.int 2) aD) aD) (bJ 6) G.nG [Z c,Z<|aF k,Z<|aF b,Z<|aF x,Z<|aF e,Z<|a5 E,Y,Y,Y,Y]=Z (.bp,[Z T,Z<|aF k,Z<|aF b,Z<|aF x,Z<|aF e,Z<|a5 a,z,Y,Y,Y])/\dX r T/\a≠[]/\a.length<=160/\∀m∈a,iT m:=λb=>by
  let⟨u,l,w,R,S,Qm⟩:=hW (r:=r+200) (k:=1+(E.length:Int)/2) (j.mono ⋯) ⋯ ⋯;have A:pk u:=⟨⋯,⋯⟩;let⟨D,g,z,B,Qz,h,p,i⟩:=GW (QT:=Z (aF k)) (Q4:=Z (aF b)) (U:=Z (aF x)) (M:=Z (aF e)) (O:=Y) (Ra:=Y) (P:=Y) (z:=Y) u.toNat Qm (E:=E) ⋯ ⋯ Qj;refine⟨D,g,z,?_,Qz,h,⋯,i⟩;let⟨C,rfl⟩:=j.lst;let⟨F,rfl⟩:=Qm.lst;refine (sz (o:=Y) (y:=fN 0 u.toNat) (Qn:=[Z (.lst F),Z<|aF k,Z<|aF b,Z<|aF x,Z<|aF e,Z<|a5 E,Y,Y,Y,Y]) ?_ B).trans rfl;simp -implicitDefEqProofs [w,A]
 have q:∀b:Int,∃T a z,bY 5 (bP 2 G.o7<|ar (ai 0)<|ar (ai 1) aD) [Z c,Z<|aF k,Z<|aF b,Z<|aF x,Z<|aF e,Z<|a5 E,Y,Y,Y,Y]=Z (.bp,[Z T,Z<|aF k,Z<|aF b,Z<|aF x,Z<|aF e,Z<|a5 a,z,Y,Y,Y])/\dX r T/\a≠[]/\a.length<=160/\∀m∈a,iT m:=λb=>by
  let⟨D,g,d,Qz,h,p,i⟩:=HV (r:=r) t v (j.mono ⋯);refine⟨D,g,Y,?_,Qz,h,p,i⟩;let⟨C,rfl⟩:=j.lst;let⟨al,rfl⟩:=Qz.lst;simp -implicitDefEqProofs [d]
 have H:b=0\/b=1\/b=2\/b=3\/b=4\/b=5:=⋯
 unfold mid;rcases H with rfl|rfl|rfl|rfl|rfl|rfl
 ·exact⟨c,E,Y,rfl,j.mono ⋯,EF f,⋯,Qj⟩
 ·let⟨T,a,z,d,s⟩:=n 1;exact⟨T,a,z,d,s⟩
 ·let⟨T,a,z,d,s⟩:=n 2;exact⟨T,a,z,d,s⟩
 ·exact⟨c,E.filter nR,Y,M1 ⋯,j.mono ⋯,EF (gn.mpr ⟨f,by decide⟩),by have:=rh nR E;lia,λm I=>Qj m (gn.mp I).1⟩
 ·let⟨T,a,z,d,s⟩:=q 4;exact⟨T,a,z,d,s⟩
 ·let⟨T,a,z,d,s⟩:=q 5;exact⟨T,a,z,d,s⟩
def JJ(J:0<k)(N:k<=140){c:aj}(j:dX (r+500) c):∃T b,pU [c,aF k]=Z (aO b,[T,aF k])/\dX r T/\b≠[]/\b.length<=200/\jB b/\∃(Q:List aL) (H:aL),∀f,f∈b↔dI Q H f:=by
 let⟨d,l,R,S,al,Qm⟩:=hW (r:=r+499) (k:=6) j ⋯ ⋯;let⟨x,D,am,dR,dc,Qz⟩:=hW (r:=r+498) (k:=7) Qm ⋯ ⋯;obtain⟨o,an⟩:∃o:Int,o=k/(1+x):=⟨_,rfl⟩;obtain⟨g,s⟩:∃g:Int,g=(if o<7 then o else 7):=⟨_,rfl⟩;obtain⟨n,t⟩:∃n:Int,n=(if g>1 then g else 1):=⟨_,rfl⟩;have co:g<=7:=by rw[s];split<;>lia
 have cr:n<=7/\0<n:=by rw[t];split<;>lia
 let⟨a,cs,ap,db,ds,u⟩:=hW (r:=r+497) (k:=n) Qz ⋯ ⋯;have p:0<1+x:=⋯
 have q:1+x<=7:=⋯
 have v:0<1+a:=⋯
 have y:1+a<=7:=⋯
 have dL:0<(1+a)*(1+x):=EW v p;have i:(1+a)*(1+x)<=49:=Ce y q ⋯ ⋯;let⟨eq,E,z,as,A,QZ,Q2,ev⟩:=H0 (r:=r+3) J N (b:=d) (x:=1+x) (e:=1+a) (E:=kF (1+x) ((1+a)*(1+x)).toNat) (u.mono ⋯) S al (PB ⋯) (by rw[KO];lia) (Mq p q ⋯);have ex:=n7.mpr QZ;let⟨B,fd,a1,a2,fn,C⟩:=hW (r:=r+2) (k:=(E.length:Int)) A ⋯ ⋯;obtain⟨e,bd⟩:∃e,E[B.toNat]?=Z e:=⟨E[B.toNat]'⋯,by simp⟩;let⟨b,be,QN,QW,fr,W⟩:=vH (f:=a5 E) (E:=E) (e:=e) (.inl rfl) ⋯;let⟨h,w,bi,bm,⟨Ri,f0,f1,F⟩,G⟩:=Nc (r:=r) (QT:=Z (aF k)) (Q4:=Z (aF d)) (U:=Z (aF<|1+x)) (M:=Z (aF<|1+a)) (QX:=Z (a5 E)) (z:=z) (O:=Z (aO b)) (Ra:=Y) (P:=Y) C;refine⟨bi,b.map λm=>(m.1+h,m.2+w),?_,G,?_,by rw[bq];lia,kx.mpr (QN.imp λ{f I} c=>by rw[KL];exact c),E.map λm=>(m.1+h,m.2+w),(e.1+h,e.2+w),λf=>?_⟩
 ·let⟨f2,rfl⟩:=j.lst;let⟨bn,rfl⟩:=Qm.lst;let⟨bs,rfl⟩:=Qz.lst;let⟨bv,rfl⟩:=u.lst;let⟨f4,rfl⟩:=A.lst;let⟨ca,rfl⟩:=C.lst;let⟨cd,rfl⟩:=G.lst;have F:=n4 a2 bd;unfold pU DG;refine tM [Z (.lst cd),Z<|aF k,Z<|aF d,Z<|aF<|1+x,Z<|aF<|1+a,Z<|a5 E,z,Z<|aO b,Z<|aF h,Z<|aF w] rfl
   ((gF (Qn:=[Z (.lst bn),Z<|aF k,Z<|aF d,Y,Y,Y,Y,Y,Y,Y]) ?_).trans
   ((gF (Qn:=[Z (.lst bs),Z<|aF k,Z<|aF d,Z<|aF<|1+x,Y,Y,Y,Y,Y,Y]) ?_).trans
   ((gF (Qn:=[Z (.lst bv),Z<|aF k,Z<|aF d,Z<|aF<|1+x,Z<|aF<|1+a,Y,Y,Y,Y,Y]) ?_).trans
   ((gF<|M4 p q v y).trans
   ((gF as).trans
   ((gF (Qn:=[Z (.lst ca),Z<|aF k,Z<|aF d,Z<|aF<|1+x,Z<|aF<|1+a,Z<|a5 E,z,Z<|aO b,Y,Y]) ?_).trans
   ((gF bm).trans (jc (Jh ⋯))))))))) rfl
  ·simp -implicitDefEqProofs [R]
  ·simp -implicitDefEqProofs [am]
  ·have ce:1+x<1073741824:=⋯
   have ch:q2 [aF 7,aF o]=Z (aF g):=by rw[Jj,<-s]
   have ci:qn [aF 1,aF g]=Z (aF n):=by rw[GH,<-t]
   simp -implicitDefEqProofs [ap,p,ce,<-an,ch,ci]
  ·simp -implicitDefEqProofs [a1,F,be]
 ·have:=(QW e).mpr .self;exact λH=>by rw[List.map_eq_nil_iff]at H;rw[H]at this;cases this
 ·rw[cJ];constructor
  ·rintro⟨L,cl,rfl⟩;exact FJ h w ((QW L).mp cl)
  ·intro c;refine⟨(f.1-h,f.2-w),(QW _).mpr ?_,by rw[pB];exact⟨E9 _ _,E9 _ _⟩⟩;exact Hn c
def DX:ay aj:=((eY 0))
def EH:ay Bool:=((bt<|az es (ai 0)<|ai 1))
def rS:bR:=((bE (bY 2<|bP 2 G.nM<|ar (ai 0)<|ar (ai 1) aD)<|bE (bY 3<|bP 2 G.pU<|ar (ai 2)<|ar (ag<|az bG (ag<|e_<|ar (ag<|aB<|.int 60)<|ar (ag<|aB<|.int 140) aD)<|ag<|b2 vInt<|ar (ag<|az dS (ag<|bP 2 G.eA<|ar (ai 2)<|ar (ag<|aB<|.int 8) aD)<|ag<|aB<|.int 0) aD) aD)<|bE (bY 4<|bP 2 G.nD<|ar (ai 2)<|ar (ai 3) aD)<|dy (bt<|az (uz X) (ai 4)<|ag<|aB .aT) (bE (hU (eY 4)<|mY 2<|hk (bJ 5)<|hk (bJ 6) lA)<|bE (hU (bP 3 G.kG<|ar (ai 3)<|ar (ai 5)<|ar (ai 6) aD)<|mY 2<|hk (bJ 7)<|hk (bJ 8) lA)<|bE (dy (fK (gB<|gU<|ag<|bP 5 G.nS<|ar (ai 3)<|ar (ai 5)<|ar (ai 6)<|ar (ai 7)<|ar (ai 8) aD)<|bt<|az es (ag<|bP 3 G.kG<|ar (ai 3)<|ar (ai 5)<|ar (ai 6) aD)<|ag<|c7<|ar (ai 7)<|ar (ai 8) aD) (dw<|aB<|.ax aq) eo)<|bE (bY 9<|bP 3 G.kG<|ar (ai 3)<|ar (ai 6)<|ar (ai 5) aD)<|bE (dy (fK (gB<|gU<|ag<|bP 5 G.nS<|ar (ai 3)<|ar (ai 6)<|ar (ai 5)<|ar (ag<|az bG (ai 9)<|ag<|aB<|.int 0)<|ar (ag<|az bG (ai 9)<|ag<|aB<|.int 1) aD)<|bt<|az es (ag<|b2 dg<|ar (ag<|az bG (ai 9)<|ag<|aB<|.int 0) aD)<|ag<|b2 dg<|ar (ai 7) aD) (dw<|aB<|.ax aq) eo)<|bE (bY 10<|az bG (ai 3)<|ag<|bP 2 G.eA<|ar (ai 2)<|ar (ag<|b2 dg<|ar (ai 3) aD) aD)<|bE (bY 11<|b2 kL<|ar (ag<|cO 1 [10] (cR<|ai 3) (bJ 0) G.EH G.DX) aD)<|dy (e0 (bt<|az es (ai 10)<|ai 5)<|e0 (bt<|az es (ai 10)<|ai 6)<|bt<|az dS (ag<|bP 2 G.lh<|ar (ai 11)<|ar (ai 5) aD)<|ai 11) (dy (bt<|az eJ (ag<|az lp (ag<|b2 dg<|ar (ai 7) aD)<|ag<|b2 dg<|ar (ag<|az bG (ag<|bP 3 G.kG<|ar (ai 11)<|ar (ai 5)<|ar (ai 6) aD)<|ag<|aB<|.int 0) aD)<|ag<|c7<|ar (ag<|aB<|.int 0)<|ar (ag<|aB<|.int 1) aD) (dw<|aB<|.ax aq) eo) eo) eo))
def C3:bR:=((bE (gD (iz<|ar (ag<|aB<|.int 3) aD) (bJ 1) G.rS)<|dw<|aB<|.ax X))
def nO:d2:=(d6 1 12 [0] C3)
def dI.mono(h:∀m∈E,m∈J)(c:dI E g f):dI J g f:=by
 induction c with
 |self=>exact .self
 |step _ l D a=>exact .step a (h _ l) D
structure iY(aa:List aL)(g e:aL)(E:List aL):Prop where
 bar:¬ dI (aa.filter λm=>!decide (m∈E)) g e
 na:g∉E
 nb:e∉E
 free:∀y:List aL,y.length<E.length->(∀m∈y,m≠g/\m≠e)->dI (aa.filter λm=>!decide (m∈y)) g e
def n_:(f∈aa.filter λm=>!decide (m∈E))↔f∈aa/\f∉E:=by
 rw[gn,jC,kb]
def iY.ne(QA:iY aa g e E):∀m∈E,m≠g/\m≠e:=λm a=>⟨λd=>QA.na<|d ▸ a,λd=>QA.nb<|d ▸ a⟩
def iY.le(QA:iY aa g e E)(Qg:iY aa e g J)(b:g∈aa):E.length<=J.length:=by
 refine sU λc=>?_;exact Qg.bar (dI.sym (n_.mpr ⟨b,Qg.nb⟩)<|QA.free J c λm a=>⟨(Qg.ne m a).2,(Qg.ne m a).1⟩)
def iY.same(QA:iY aa g e E)(Qg:iY aa e g J)(a:g∈aa)(b:e∈aa):E.length=J.length:=Nat.le_antisymm (QA.le Qg a) (Qg.le QA b)
def iY.less(QA:iY aa g e E)(Qg:iY (aa.filter λm=>!decide (m=H)) g e J)(h:H≠g)(i:H≠e):J.length<=E.length/\E.length<=J.length+1:=by
 have b:∀{f},(f∈aa.filter λm=>!decide (m=H))↔f∈aa/\f≠H:=λ{f}=>by rw[gn,jC,kb]
 refine⟨sU λc=>?_,sU λc=>?_⟩
 ·exact QA.bar ((Qg.free E c QA.ne).mono λm a=>n_.mpr ⟨(b.mp (n_.mp a).1).1,(n_.mp a).2⟩)
 ·refine Qg.bar ((QA.free (H::J) (by rw[er];exact c) λm a=>?_).mono λm a=>?_)
  ·rcases cj.mp a with rfl|a
   ·exact⟨h,i⟩
   ·exact Qg.ne m a
  ·let⟨l,D⟩:=n_.mp a;exact n_.mpr ⟨b.mpr ⟨l,λd=>D<|d ▸ .head _⟩,λd=>D<|.tail _ d⟩
def yq(up:jB aa)(d:aa.length<=200)(f:g∈aa)(c:e∈aa)(i:g≠e)(F:e∉c0 g):
  ∃(E:List aL) (Qc:List dD),kG [aO aa,.im<|ab g,.im<|ab e]=Z (.im<|.tup [.tup (E.map ab),.tup<|Qc.map aY],[aO aa,.im<|ab g,.im<|ab e])/\nS [aO aa,.im<|ab g,.im<|ab e,aO E,.im<|.tup<|Qc.map aY]=Z (.im<|.ax X,[aO aa,.im<|ab g,.im<|ab e,aO E,.im<|.tup<|Qc.map aY])/\iY aa g e E:=by
 have ak:=up.ak;let⟨B,C,Qo,Qc,j,QA,a,T,k⟩:=Mp ak ⋯ f c i F;have dO:=QA.dO;have h:=QA.many ak a;have b:=QA.ON a;have n:=LK (Qc:=Qc) d (λm o=>(gn.mp o).1) (yU _ up:jB (aa.filter<|gG Qo)) ⋯ b.1 b.2 (QA.bar a) (QA.FF d f c T k) (by rw[T.length_eq,bq,h]);exact⟨_,Qc,j,n,QA.bar a,b.1,b.2,λy l D=>QA.free c (by rw[<-h];exact l) D⟩
def DN(E:List aL):V.bg 8 (.tup<|E.map ab)=X:=uS E
def rl(E:List aL):dg [aO E]=Z (aF (E.length:Int)):=by
 show Z (aj.im<|.int ((E.map ab).length:Int))=_;rw[bq]
abbrev gw(R:List Int)(n:Int)(c:aj)(aa:List aL)(M QX z O Ra P a b:Option aj):a6:=[Z (.cN<|R.map .int),Z<|aF n,Z c,Z<|aO aa,M,QX,z,O,Ra,P,a,b]
def FD{R:List Int}{n:Int}{Q4 M QX z O Ra P h a:Option aj}(be:0<=n)(g1:n<3):∃QR bi Q3 bm bn bs bv ca cd ce ch ci,rS [Z (.cN<|R.map .int),Z<|aF n,Q4,U,M,QX,z,O,Ra,P,h,a]=Z (.bp,QR)/\QR=[Z (.cN<|R.map .int),bi,Q3,bm,bn,bs,bv,ca,cd,ce,ch,ci]:=by
 let⟨c,cl,j⟩:=MR (R:=R) be ⋯;let⟨u,g2,co,W,W,al⟩:=hW (r:=503) (k:=8) (j.mono ⋯) ⋯ ⋯;obtain⟨k,cr,cs,im⟩:∃k:Int,0<k/\k<=140/\∀w,vInt [.im (.ax<|decide (u=0))]=Z w->bG (.lst [.int 60,.int 140]) w=Z (aF k):=by
  by_cases am:u=0
  ·rw[dk am];exact⟨140,by decide,by decide,λw ba=>by cases ba;rfl⟩
  ·rw[cW am];exact⟨60,by decide,by decide,λw ba=>by cases ba;rfl⟩
 obtain⟨db,an⟩:∃w,vInt [.im (.ax<|decide (u=0))]=Z w:=by cases decide (u=0)<;>exact⟨_,rfl⟩
 have ds:=im db an;let⟨l,aa,dL,Qm,ap,aQ,up,W⟩:=JJ (r:=3) cr cs (al.mono ⋯);let⟨D,Qz,vr⟩:=HE (r:=1) (aa:=aa) Qm ⋯ ap;let⟨I,rfl⟩:=j.lst;let⟨oU,rfl⟩:=al.lst;let⟨as,rfl⟩:=Qm.lst;let⟨p,rfl⟩:=Qz.lst;have eq:az dS (ag<|bP 2 G.eA<|ar (ai 2)<|ar (ag<|aB<|.int 8) aD) (ag<|aB<|.int 0) [Z (.cN<|R.map .int),Z<|aF n,Z<|.lst I,U,M,QX,z,O,Ra,P,h,a]=Z (.im<|.ax<|decide (u=0),[Z (.cN<|R.map .int),Z<|aF n,Z<|.lst oU,U,M,QX,z,O,Ra,P,h,a]):=
  ng (jE<|d7 (Q:=[.aS 2,.cm<|aF 8]) rfl rfl rfl co rfl) rfl rfl rfl (rN u 0);have N:∀{b:bR}{Qg:Option (mI×a6)},b (gw R n (.lst as) aa M QX z O Ra P h a)=Qg->bE (bY 2<|bP 2 G.nM<|ar (ai 0)<|ar (ai 1) aD) (bE (bY 3<|bP 2 G.pU<|ar (ai 2)<|ar (ag<|az bG (ag<|e_<|ar (ag<|aB<|.int 60)<|ar (ag<|aB<|.int 140) aD)<|ag<|b2 vInt<|ar (ag<|az dS (ag<|bP 2 G.eA<|ar (ai 2)<|ar (ag<|aB<|.int 8) aD)<|ag<|aB<|.int 0) aD) aD) b) [Z (.cN<|R.map .int),Z<|aF n,Q4,U,M,QX,z,O,Ra,P,h,a]=Qg:=λev=>
  cq (Qn:=[Z (.cN<|R.map .int),Z<|aF n,Z<|.lst I,U,M,QX,z,O,Ra,P,h,a]) (jH (d7 (Q:=[.aS 0,.aS 1]) rfl rfl rfl cl rfl) (fY rfl) rfl) (cq (Qn:=gw R n (.lst as) aa M QX z O Ra P h a) (jH (d7 (Q:=[.aS 2,.cm<|aF k]) (Qn:=[Z (.cN<|R.map .int),Z<|aF n,Z<|.lst oU,U,M,QX,z,O,Ra,P,h,a]) (nH rfl<|nH (jE<|ng (Qn:=[Z (.cN<|R.map .int),Z<|aF n,Z<|.lst I,U,M,QX,z,O,Ra,P,h,a]) (jE rfl) (jE<|Fc (nH (jE eq) rfl) rfl an) rfl rfl ds) rfl) rfl rfl dL rfl) (fY rfl) rfl) ev);unfold rS;rcases vr with S|⟨g,e,x,A,T,F,S⟩
 ·exact⟨_,_,_,_,_,_,_,_,_,_,_,_,N<|cq (Qn:=gw R n (.lst p) aa (Z<|.im .aT) QX z O Ra P h a) (jH (d7 (Q:=[.aS 2,.aS 3]) rfl rfl rfl S rfl) (fY rfl) rfl)<|fU (Qn:=gw R n (.lst p) aa (Z<|.im .aT) QX z O Ra P h a) rfl rfl,rfl⟩
 ·let⟨E,Qc,a1,ex,QA⟩:=yq up aQ x A T F;let⟨J,s,fd,fn,Qg⟩:=yq up aQ A x T.symm λH=>F (AQ H);have same:=QA.same Qg x A;have g3:=n7.mpr ap;let⟨L,hd,fr,f0,he,f1⟩:=hW (r:=0) (k:=(aa.length:Int)) Qz ⋯ ⋯;let⟨a2,rfl⟩:=f1.lst;obtain⟨H,f2⟩:∃H,aa[L.toNat]?=Z H:=⟨aa[L.toNat]'⋯,by simp⟩;have f4:bG (aO aa) (aF L)=Z (.im<|ab H):=by
   show (dx (aa.map ab) L).map aj.im=_;rw[n4 f0 f2];rfl
  generalize t:(aa.filter λm=>!decide (m=H))=i;have hf:i.length<=aa.length:=by rw[<-t];exact rh _ _
  have f8:jB i:=by rw[<-t];exact yU _ up
  have ga:∀{c:aj}{M QX z O Ra P a:Option aj},cO 1 [10] (cR<|ai 3) (bJ 0) G.EH G.DX (gw R n c aa M QX z O Ra P (Z<|.im<|ab H) a)=Z (a5 i,gw R n c aa M QX z O Ra P (Z<|.im<|ab H) a):=λ{c M QX z O Ra P a}=>by
   rw[<-t];refine iW (y:=aa.map ab) (o:=Y) (Qn:=gw R n c aa M QX z O Ra P (Z<|.im<|ab H) a) rfl (k8 ab (λm=>!decide (m=H)) ab _ [] (λm W=>?_) (by rw[jI];lia)) rfl;exact⟨[Z (.im<|ab m),Z<|.im<|ab H],[Z (.im<|ab m),Z<|.im<|ab H],rfl,dn<|eM<|mF m H,λ_=>rfl,λ_=>⟨[Z (.im<|ab m),Z<|.im<|ab H],rfl,rfl⟩⟩
  let⟨pt,Q0,W⟩:=vH (f:=aO i) (E:=i) (e:=g) (.inr rfl) ⋯;have ge:dS (aO pt) (aO i)=Z (.im<|.ax<|dB (pt.map ab)<|i.map ab):=by
   show (if (V.bg 8 (.tup<|pt.map ab)&&V.bg 8 (.tup<|i.map ab))=X then Z (aj.im<|.ax<|dB (pt.map ab)<|i.map ab) else Y)=_;rw[DN,DN,aE<|show (X&&X)=X from rfl]
  let q:a6:=gw R n (.lst a2) aa (Z<|.im<|.tup [ab g,ab e]) (Z<|.im<|ab g) (Z<|.im<|ab e) (Z<|aO E) (Z<|.im<|.tup<|Qc.map aY) (Z<|.im<|.tup [.tup (J.map ab),.tup<|s.map aY]) (Z<|.im<|ab H) (Z<|aO i)
  have gl:dy (e0 (bt<|az es (ai 10)<|ai 5)<|e0 (bt<|az es (ai 10)<|ai 6)<|bt<|az dS (ag<|bP 2 G.lh<|ar (ai 11)<|ar (ai 5) aD)<|ai 11) (dy (bt<|az eJ (ag<|az lp (ag<|b2 dg<|ar (ai 7) aD)<|ag<|b2 dg<|ar (ag<|az bG (ag<|bP 3 G.kG<|ar (ai 11)<|ar (ai 5)<|ar (ai 6) aD)<|ag<|aB<|.int 0) aD)<|ag<|c7<|ar (ag<|aB<|.int 0)<|ar (ag<|aB<|.int 1) aD) (dw<|aB<|.ax aq) eo) eo q=Z (.bp,q):=by
   have QN:bt (az es (ai 10)<|ai 5) q=Z (!decide (H=g),q):=dn (eM<|mF H g);have QW:bt (az es (ai 10)<|ai 6) q=Z (!decide (H=e),q):=dn (eM<|mF H e);have B:bt (az dS (ag<|bP 2 G.lh<|ar (ai 11)<|ar (ai 5) aD)<|ai 11) q=Z (dB (pt.map ab)<|i.map ab,q):=dn (dm (bF<|d7 (Q:=[.aS 11,.aS 5]) rfl rfl rfl Q0 rfl) rfl rfl rfl ge);by_cases v:H=g
   ·rw[dk v]at QN;exact fU (s6 QN) rfl
   by_cases C:H=e
   ·rw[cW v]at QN;rw[dk C]at QW;exact fU (ke QN<|s6 QW) rfl
   rw[cW v]at QN;rw[cW C]at QW;cases bd:dB (pt.map ab) (i.map ab) with
   |false=>rw[bd]at B;exact fU (ke QN<|ke QW B) rfl
   |true=>
    rw[bd]at B;have Rc:g∈i:=by rw[<-t];exact gn.mpr ⟨x,by rw[cW λd=>v d.symm];rfl⟩
    have Q8:e∈i:=by rw[<-t];exact gn.mpr ⟨A,by rw[cW λd=>C d.symm];rfl⟩
    let⟨Qe,af,go,W,Qu⟩:=yq f8 ⋯ Rc Q8 T F;rw[<-t]at Qu;let⟨hm,hw⟩:=QA.less Qu v C;have cn:lp (aF (E.length:Int)) (aF (Qe.length:Int))=Z (aF<|(E.length:Int)-(Qe.length:Int)):=rfl;have gt:eJ (aF<|(E.length:Int)-(Qe.length:Int)) (.im<|.tup [.int 0,.int 1])=Z (.im<|.ax aq):=by
     have:(E.length:Int)-(Qe.length:Int)=0\/(E.length:Int)-(Qe.length:Int)=1:=⋯
     rcases this with d|d<;>rw[d]<;>rfl
    exact oj (ke QN<|ke QW B) (fU (dn<|dm (bF<|dm (bF<|d3 (cA rfl rfl) rfl<|rl E) (bF<|d3 (cA (bF<|dm (bF<|d7 (Q:=[.aS 11,.aS 5,.aS 6]) rfl rfl rfl go rfl) rfl rfl rfl rfl) rfl) rfl<|rl Qe) rfl rfl cn) rfl rfl rfl gt) rfl)
  refine⟨q,_,_,_,_,_,_,_,_,_,_,_,N<|cq (Qn:=gw R n (.lst p) aa (Z<|.im<|.tup [ab g,ab e]) QX z O Ra P h a) (jH (d7 (Q:=[.aS 2,.aS 3]) rfl rfl rfl S rfl) (fY rfl) rfl)<|oj (Qn:=gw R n (.lst p) aa (Z<|.im<|.tup [ab g,ab e]) QX z O Ra P h a) rfl ?_,rfl⟩;refine cq (Qn:=gw R n (.lst p) aa (Z<|.im<|.tup [ab g,ab e]) (Z<|.im<|ab g) (Z<|.im<|ab e) O Ra P h a) rfl ?_;refine cq (Qn:=gw R n (.lst p) aa (Z<|.im<|.tup [ab g,ab e]) (Z<|.im<|ab g) (Z<|.im<|ab e) (Z<|aO E) (Z<|.im<|.tup<|Qc.map aY) P h a) (wg (d7 (Q:=[.aS 3,.aS 5,.aS 6]) rfl rfl rfl a1 rfl) rfl) ?_;refine cq (fU (h7 (Qn:=gw R n (.lst p) aa (Z<|.im<|.tup [ab g,ab e]) (Z<|.im<|ab g) (Z<|.im<|ab e) (Z<|aO E) (Z<|.im<|.tup<|Qc.map aY) P h a) (ov<|oP (bF<|d7 (Q:=[.aS 3,.aS 5,.aS 6,.aS 7,.aS 8]) rfl rfl rfl ex rfl) rfl rfl)<|dn<|dm (bF<|d7 (Q:=[.aS 3,.aS 5,.aS 6]) rfl rfl rfl a1 rfl) (bF rfl) rfl rfl<|LF E Qc) rfl) ?_;refine cq (Qn:=gw R n (.lst p) aa (Z<|.im<|.tup [ab g,ab e]) (Z<|.im<|ab g) (Z<|.im<|ab e) (Z<|aO E) (Z<|.im<|.tup<|Qc.map aY) (Z<|.im<|.tup [.tup (J.map ab),.tup<|s.map aY]) h a) (jH (d7 (Q:=[.aS 3,.aS 6,.aS 5]) rfl rfl rfl fd rfl) (fY rfl) rfl) ?_;refine cq (fU (h7 (Qn:=gw R n (.lst p) aa (Z<|.im<|.tup [ab g,ab e]) (Z<|.im<|ab g) (Z<|.im<|ab e) (Z<|aO E) (Z<|.im<|.tup<|Qc.map aY) (Z<|.im<|.tup [.tup (J.map ab),.tup<|s.map aY]) h a) (ov<|oP (bF<|d7 (Q:=[.aS 3,.aS 6,.aS 5,.cm<|aO J,.cm<|.im<|.tup<|s.map aY]) rfl rfl rfl fn rfl) rfl rfl) (dn (dm (bF<|d3 (cA (bF rfl) rfl) rfl<|rl J) (bF<|d3 (cA rfl rfl) rfl<|rl E) rfl rfl ((Kz _ _).trans (by rw[same,dk rfl];rfl))))) rfl) ?_;refine cq (Qn:=gw R n (.lst a2) aa (Z<|.im<|.tup [ab g,ab e]) (Z<|.im<|ab g) (Z<|.im<|ab e) (Z<|aO E) (Z<|.im<|.tup<|Qc.map aY) (Z<|.im<|.tup [.tup (J.map ab),.tup<|s.map aY]) (Z<|.im<|ab H) a) (jH (ng (Qn:=gw R n (.lst p) aa (Z<|.im<|.tup [ab g,ab e]) (Z<|.im<|ab g) (Z<|.im<|ab e) (Z<|aO E) (Z<|.im<|.tup<|Qc.map aY) (Z<|.im<|.tup [.tup (J.map ab),.tup<|s.map aY]) h a) rfl (jE<|d7 (Q:=[.aS 2,.cm<|aF (aa.length:Int)]) (cA rfl<|cA (bF<|d3 (cA rfl rfl) rfl<|rl aa) rfl) rfl rfl fr rfl) rfl rfl f4) (fY rfl) rfl) ?_;exact cq (Qn:=q) (k0 (d3 (cA (bF ga) rfl) rfl rfl) (fY rfl) rfl) gl
def ME(R:List Int)(j:R.length<100000):∃G,nO [.cN (R.map .int)]=Z (.im<|.ax X,G):=by
 let⟨QE,h,QT,Q4,U,M,QX,z,O,Ra,P,c,g,rfl⟩:=sQ (QL:=bJ 1) (e:=rS) (y:=fN 0 3) (λa A=>∃QT Q4 U M QX z O Ra P c g,A=[Z (.cN<|R.map .int),QT,Q4,U,M,QX,z,O,Ra,P,c,g]) (A:=[Z (.cN<|R.map .int),Y,Y,Y,Y,Y,Y,Y,Y,Y,Y,Y]) ⟨Y,Y,Y,Y,Y,Y,Y,Y,Y,Y,Y,rfl⟩
  (λa f A b i=>by
   let⟨QT,Q4,U,M,QX,z,O,Ra,P,c,g,rfl⟩:=i;obtain⟨S,rfl⟩:a<3/\f=.int (0+(a:Int)):=by
    match a,b with
    |0,b=>exact⟨by decide,(Option.some.inj b).symm⟩
    |1,b=>exact⟨by decide,(Option.some.inj b).symm⟩
    |2,b=>exact⟨by decide,(Option.some.inj b).symm⟩
    |r+3,b=>cases b
   let⟨QR,k,Q3,l,m,p,q,s,t,u,v,w,d,rfl⟩:=FD (R:=R) (n:=0+(a:Int)) (Q4:=Q4) (U:=U) (M:=M) (QX:=QX) (z:=z) (O:=O) (Ra:=Ra) (P:=P) (h:=c) (a:=g) ⋯ ⋯;exact⟨[Z (.cN<|R.map .int),Z<|aF<|0+(a:Int),Q4,U,M,QX,z,O,Ra,P,c,g],.bp,_,rfl,d,.inl rfl,_,_,_,_,_,_,_,_,_,_,_,rfl⟩)
 refine⟨[.cN (R.map .int)],?_⟩;unfold nO C3;exact hI (A:=[Z (.cN<|R.map .int),QT,Q4,U,M,QX,z,O,Ra,P,c,g]) rfl (cq (o9 (o:=Y) (y:=fN 0 3) (Qn:=[Z (.cN<|R.map .int),Y,Y,Y,Y,Y,Y,Y,Y,Y,Y,Y]) rfl h rfl) rfl) rfl
end G
namespace L2
end L2
set_option maxHeartbeats 4000000
namespace K33
open L2 PyProof.Rows
variable{t:PySem.W.OpenLaw}{B:ao}{m:fe}{n:Nat}{O:bj}
def ei(a:Nat):cK:=(PySem.Challenge.pw_mowfloor_k33_ways_apart.main.body.getD a (.Pass ⟨0,0,0,0⟩))
structure fE(aH:aC->Option ae):Prop where
 sT:aH "all" = Y
 GJ:aH "bool" = Y
 t2:aH "dict" = Y
 uE:aH "int" = Y
 nU:aH "isinstance" = Y
 fB:aH "len" = Y
 vM:aH "list" = Y
 I7:aH "max" = Y
 Jy:aH "min" = Y
 pK:aH "range" = Y
 OJ:aH "reversed" = Y
 Ln:aH "set" = Y
 sk:aH "sorted" = Y
 jJ:aH "tuple" = Y
 LS:aH "zip" = Y
 mW:∃w,aH "IN" = Z (.str "in" w)
 ug:∃w,aH "OUT" = Z (.str "out" w)
def rP:ez "all" = Z (.builtin "all"):=by decide +kernel
def Hm:ez "bool" = Z (.type "bool"):=by decide +kernel
def uk:ez "dict" = Z (.type "dict"):=by decide +kernel
def xr:ez "int" = Z (.type "int"):=by decide +kernel
def pd:ez "isinstance" = Z (.builtin "isinstance"):=by decide +kernel
def fW:ez "len" = Z (.builtin "len"):=by decide +kernel
def wK:ez "list" = Z (.type "list"):=by decide +kernel
def Ji:ez "max" = Z (.builtin "max"):=by decide +kernel
def G4:ez "min" = Z (.builtin "min"):=by decide +kernel
def so:ez "sorted" = Z (.builtin "sorted"):=by decide +kernel
def k1:ez "tuple" = Z (.type "tuple"):=by decide +kernel
def b8(a:eC n O):O.units+20<bL:=by have:=a.un;omega
def pZ(a:eC n O):O.units+30<bL:=by have:=a.un;omega
abbrev vG:cK:=ei 1
abbrev Mj:List aC:=["cell","row","column"]
abbrev sR:cK:=ei 8
abbrev AZ:List aC:=["ahead","spot","cell"]
abbrev u5:cK:=ei 9
abbrev Lm:List aC:=["ahead","a","start","came","layer","behind","spot","further"]
abbrev ya:cK:=ei 10
abbrev MO:List aC:=["ahead","came","last","spot"]
abbrev vk:cK:=ei 11
abbrev Nj:List aC:=["ahead","a","last","way"]
abbrev ql:cK:=ei 12
abbrev vS:List aC:=["field","a","b","ahead","lasts","came","cells","ways"]
abbrev wD:cK:=ei 14
abbrev N4:List aC:=["_law_script","_law_turn","_law_seed","_law_cell","_law_bound"]
abbrev vo:cK:=ei 15
abbrev JL:List aC:=["_law_left_here","_law_many","_law_digit","_law_mixed"]
abbrev u7:cK:=ei 16
abbrev Hb:List aC:=["_law_cell"]
abbrev wZ:cK:=ei 17
abbrev M9:List aC:=["_law_some","_law_begin","_law_there","_law_met","_law_waiting","_law_other"]
abbrev wa:cK:=ei 18
abbrev GI:List aC:=["_law_left_here","_law_most","_law_cells","_law_k","_law_other"]
abbrev qr:cK:=ei 19
abbrev vi:List aC:=["_law_left_here","_law_most","_law_way","_law_wide","_law_high","_law_cells","_law_k","_law_part_here","_law_row","_law_column"]
abbrev yb:cK:=ei 20
abbrev Iw:List aC:=["_law_field_here","_law_thing","_law_cell"]
abbrev rC:cK:=ei 21
abbrev EL:List aC:=["_law_left_here","_law_field_here","_law_a","_law_some"]
abbrev rG:cK:=ei 22
abbrev Fq:List aC:=["_law_field_here","_law_a","_law_b","_law_cells"]
abbrev xu:cK:=ei 23
abbrev GD:List aC:=["_law_field_here","_law_thing"]
abbrev vb:cK:=ei 24
abbrev Io:List aC:=["_law_field_here","_law_a","_law_b","_law_ways","_law_within","_law_way"]
abbrev vO:cK:=ei 25
abbrev L8:List aC:=["_law_field_here","_law_a","_law_b","_law_cells","_law_ways"]
abbrev ui:cK:=ei 26
abbrev yy:List aC:=["_law_script","_law_turn","_law_left_here","_law_field_here","_law_two","_law_a","_law_b","_law_cells","_law_ways","_law_back","_law_less","_law_fewer"]
section
variable{Qf:bA}{x:bc}{Qk:Φ}{aH:aC->Option ae}{Qv:aV}
abbrev xN(m:fe)(B:ao):Prop:=fL m 1 "around" vG B ["cell"] 1 G.n5
def Jn(P:ey m.K m.aH "around" vG B ["cell"])(Qc:fE m.aH):xN m B:=by
 refine fT Mj P λak H O Q5 h j Qh a=>?_;exact (bO (dE 1 ak<|iF a (au 0) bb) (bO (dE 2 ak<|iF a (au 0) bb) (b9 (dM (gy (by exact (iy (f7 (by exact (b7 (c1 pY (au 1) bb)<|au 2))) (by exact (hV (f7 (by exact (b7 (au 1)<|c1 pY (au 2) bb))) (f7 (by exact (b7 (au 1)<|c1 gm (au 2) bb))) (f7 (by exact (b7 (c1 gm (au 1) bb)<|au 2))))))))))))
abbrev Ck(m:fe)(B:ao):Prop:=fL m 2 "onward" sR B ["ahead","spot"] 2 G.oC
def NM(P:ey m.K m.aH "onward" sR B ["ahead","spot"])(Qc:fE m.aH){c:ao}(d:xN m c):Ck m B:=by
 refine fT AZ P λak H O Q5 h j Qh a=>?_;exact (bO (dE 2 ak<|iF a (au 1) bb) (bO (eQ (cX (hy<|b8 a) (c3 a (au 1) bb) (aW<|jn rfl Qc.mW.choose_spec)<|dG _) (b9 (dM (gy (by exact (bT (f7 (by exact (b7 (c3 a (au 0)<|au 2)<|aW<|jn rfl Qc.ug.choose_spec)))))))) ff) (b9 (dM (hx gm (aW (gy (by exact (bT (f7 (by exact (b7 (au 2)<|aW<|jn rfl Qc.mW.choose_spec))))))) (aW (uu (own:=["beside"]) (QJ:=[0]) rfl (kD (dr sR) AZ (by decide +kernel)) ∅ (fo<|aW<|cZ d a<|bT<|au 2) (λb=>(fM 0)) (λb=>(nL<|cX (lW<|b8 a) (au 0) (au 1) rfl)) (λb=>(iM (by exact (b7 (au 0)<|aW<|jn rfl Qc.mW.choose_spec)))))))))))
abbrev z5(m:fe)(B:ao):Prop:=fL m 3 "search" u5 B ["ahead","a"] 2 G.qM
def MA(P:ey m.K m.aH "search" u5 B ["ahead","a"])(Qc:fE m.aH){b:ao}(c:Ck m b):z5 m B:=by
 refine fT Lm P λak H O Q5 h j Qh a=>?_;exact (bO (dE 2 ak (iM (by exact (b7 (au 1)<|aW<|jn rfl Qc.ug.choose_spec)))) (bO (dE 3 ak<|AR (b8 a) (gK<|ec 2) sD) (bO (dE 4 ak (gy (by exact (bT<|au 2)))) (bO (rq 1000000 hK (iH<|au 4) (bO (dE 5 ak (gy (by exact nx))) (bO (kz (Q7:=[4,0,1]) hK rfl (fo<|au 4) (iu 6 ak) (b9 (kz (Q7:=[4,0,1]) hK rfl (fo<|aW<|cZ c a<|b7 (au 0)<|au 6) (iu 7 ak) (b9<|eQ (cX (jA<|b8 a) (au 7) (au 3) rfl) (bO (k4 (gK<|ec 6)<|n0 (ec 3) (gK<|ec 7)<|yf<|b8 a)<|b9<|mD<|o3 mg mT pX qG qv (ec 5)<|bT<|au 7) ff) ∅ w5)) ∅ (vW ∅))<|b9<|dE 4 ak<|gK<|ec 5)))<|b9<|dM<|gK<|ec 3))))
abbrev Ba(m:fe)(B:ao):Prop:=fL m 1 "lay_way" ya B ["ahead","came","last"] 3 G.p3
def Ks(P:ey m.K m.aH "lay_way" ya B ["ahead","came","last"])(Qc:fE m.aH):Ba m B:=by
 refine fT MO P λak H O Q5 h j Qh a=>?_;exact (bO (dE 3 ak (iM (by exact (b7 (au 2)<|aW<|jn rfl Qc.ug.choose_spec))))<|b9<|rq 1000000 hK (cX B8 (c3 a (au 1)<|au 3) (aW sD)<|dG _)<|bO (eQ (cX (hy<|b8 a) (c3 a (au 3) bb) (aW<|jn rfl Qc.mW.choose_spec)<|dG _) (b9<|k4 (iF a (c3 a (au 1)<|au 3) bb)<|n0 (ec 0) (iF a (au 3) bb)<|yf<|b8 a) ff)<|b9<|dE 3 ak<|iF a (au 1)<|au 3)
abbrev ze(m:fe)(B:ao):Prop:=fL m 1 "way_back" vk B ["ahead","a","last"] 3 G.oO
def Py(P:ey m.K m.aH "way_back" vk B ["ahead","a","last"])(Qc:fE m.aH):ze m B:=by
 refine fT Nj P λak H O Q5 h j Qh a=>?_;exact (bO (dE 3 ak (gy (by exact (bT<|au 2))))<|bO (rq 1000000 hK (cX (iR<|b8 a) (c3 a (au 3)<|aW<|qE hY) (au 1)<|dG _)<|b9<|mD<|o3 mg mT pX qG qv (ec 3)<|bT<|c3 a (au 0)<|c3 a (au 3)<|aW<|qE hY)<|b9<|dM<|gK<|ec 3)
abbrev Bt(m:fe)(B:ao):Prop:=fL m 4 "barred" ql B ["field","a","b"] 3 G.kG
def NW(P:ey m.K m.aH "barred" ql B ["field","a","b"])(Qc:fE m.aH){e:ao}(f:xN m e){g:ao}(d:z5 m g){i:ao}(aL:Ba m i){k:ao}(l:ze m k):Bt m B:=by
 refine fT vS P λak H O Q5 h j Qh b=>?_;exact (bO (eQ (e4.g_<|hF (cX (hy<|b8 b) (au 1) (au 2)<|dG _)<|jX<|cX (lW<|b8 b) (au 2) (aW<|cZ f b<|bT<|au 1) rfl) (b9 J2) ff) (bO (ma (a:=3) ak rfl (Or.inr rfl) (hE (rL rfl<|pZ b) rfl Qc.t2 uk (bT (aW (jL ["cell"] [] (fo<|au 0) (λc=>(fM 0)) (λc=>(iM (by exact (b7 (au 0)<|au 0)))))))) ∅) (bO (dE 4 ak (gy (by exact nx))) (bO (ma (a:=5) ak rfl (Or.inr rfl) (cZ d b<|b7 (au 3)<|au 1) ∅) (bO (rq 1000000 hK (cX (lW<|b8 b) (f7 (by exact (b7 (au 2)<|aW<|jn rfl Qc.mW.choose_spec))) (au 5) rfl) (bO (mD (o3 mg mT pX qG qv (ec 4) (bT (c3 b (c3 b (au 5) (f7 (by exact (b7 (au 2)<|aW<|jn rfl Qc.mW.choose_spec)))) bb)))) (bO (mD<|cZ aL b<|hV (au 3) (au 5)<|c3 b (au 4)<|aW<|qE hY) (b9 (ma (a:=5) ak rfl (Or.inr rfl) (cZ d b<|b7 (au 3)<|au 1) ∅))))) (bO (qh (a:=6) (own:=["cell"]) (QJ:=[5]) ak rfl (Or.inl rfl) rfl (kD (dr ql) vS (by decide +kernel)) ∅ (fo<|au 0) (λc=>(fM 0)) (λc=>(nL (e4.g_ (m6 (cX (lW<|b8 b) (f7 (by exact (b7 (au 0)<|aW<|jn rfl Qc.mW.choose_spec))) (au 1) rfl) (qO (cX (jA<|b8 b) (f7 (by exact (b7 (au 0)<|aW<|jn rfl Qc.ug.choose_spec))) (au 1) rfl)))))) (λc=>(gK<|ec 0)) ∅) (bO (qh (a:=7) (own:=["last"]) (QJ:=[2,3,1]) ak rfl (Or.inl rfl) rfl (kD (dr ql) vS (by decide +kernel)) ∅ (fo<|au 4) (λc=>(fM 0)) (λc=>xE) (λc=>(OC rfl Qc.jJ rfl Qc.OJ (bT (c1 gm (aW (gy (by exact (bT<|au 1))))<|aW<|cZ l b<|hV (au 2) (au 3)<|au 0)))) ∅) (b9 (dM (iM (by exact (b7 (aW<|hE pn rfl Qc.jJ k1<|bT<|au 6)<|aW<|hE pn rfl Qc.jJ k1<|bT<|aW<|ea (uy rfl<|b8 b) Qc.sk so<|bT<|au 7))))))))))))
abbrev zV(m:fe)(B:ao):Prop:=fL m 1 "_law_left" wD B ["_law_script","_law_turn"] 2 G.nM
def NR(P:ey m.K m.aH "_law_left" wD B ["_law_script","_law_turn"])(Qc:fE m.aH):zV m B:=by
 refine fT N4 P λak H O Q5 h j Qh a=>?_;exact (bO (dE 2 ak<|hx gm bb<|c1 j1 bb<|au 1) (bO (kz (Q7:=[0,1]) hK rfl (fo<|aW<|wL (au 0) A3<|sI hY) (iu 3 ak) (b9<|dE 2 ak<|hx ig (c1 gm (c1 gm (c1 j1 (au 2) bb)<|c1 ig (au 3) bb) bb) bb) ∅ w5) (bO (dE 3 ak<|IV (cX vY (aW<|ea fR Qc.fB fW<|bT<|au 0) bb<|dG _) (iF a (au 0)<|c1 ig (au 1)<|aW<|ea fR Qc.fB fW<|bT<|au 0) hY) (bO (dE 4 ak<|hx j1 (c1 j1 (c1 sx bb bb)<|c1 sx bb bb)<|c1 sx bb bb) (b9 (dM (gy (by exact (hV (c1 j1 (c1 ig (au 3)<|au 4)<|aW<|hE Cs rfl Qc.uE xr<|bT<|aW<|kV O4 (au 3) (c1 sx bb bb)<|dG _) (au 2) bb)))))))))
abbrev rf(m:fe)(B:ao):Prop:=fL m 1 "_law_pick" vo B ["_law_left_here","_law_many"] 2 G.eA
def FP(P:ey m.K m.aH "_law_pick" vo B ["_law_left_here","_law_many"])(Qc:fE m.aH):rf m B:=by
 refine fT JL P λak H O Q5 h j Qh a=>?_;exact (bO (eQ (cX vY (c3 a (au 0) bb) bb<|dG _) (bO (dE 2 ak<|hx ig (c3 a (au 0) bb)<|au 1)<|bO (k4 (hx qS (c3 a (au 0) bb)<|au 1)<|n0 (ec 0) hY<|yj<|b8 a)<|b9<|dM<|gK<|ec 2) ff)<|bO (k4 (hx gm (c3 a (au 0) bb) bb)<|n0 (ec 0) hY<|yj<|b8 a)<|bO (dE 3 ak<|hx ig (c1 j1 (c1 gm (c3 a (au 0) bb)<|c1 j1 (c3 a (au 0) bb) bb) bb) bb)<|bO (k4 (hx ig (c1 j1 (au 3)<|c1 gm (c1 ig (au 3) bb) bb) bb)<|n0 (ec 0) hY<|yj<|b8 a)<|b9<|dM<|hx ig (c1 qS (c3 a (au 0) bb) bb)<|au 1)
abbrev qu(m:fe)(B:ao):Prop:=fL m 1 "_law_beside" u7 B ["_law_cell"] 1 G.k7
def KR(P:ey m.K m.aH "_law_beside" u7 B ["_law_cell"])(Qc:fE m.aH):qu m B:=by
 refine fT Hb P λak H O Q5 h j Qh a=>?_;exact (b9 (dM (gy (by exact (iy (f7 (by exact (b7 (c1 pY (c3 a (au 0) bb) bb)<|c3 a (au 0) bb))) (by exact (hV (f7 (by exact (b7 (c3 a (au 0) bb)<|c1 pY (c3 a (au 0) bb) bb))) (f7 (by exact (b7 (c3 a (au 0) bb)<|c1 gm (c3 a (au 0) bb) bb))) (f7 (by exact (b7 (c1 gm (c3 a (au 0) bb) bb)<|c3 a (au 0) bb))))))))))
abbrev t5(m:fe)(B:ao):Prop:=fL m 2 "_law_part" wZ B ["_law_some","_law_begin"] 2 G.lh
def Hq(P:ey m.K m.aH "_law_part" wZ B ["_law_some","_law_begin"])(Qc:fE m.aH){b:ao}(c:qu m b):t5 m B:=by
 refine fT M9 P λak H O Q5 h j Qh a=>?_;exact (bO (dE 2 ak (hE (rL rfl<|pZ a) rfl Qc.t2 uk (bT (aW (jL ["_law_cell"] [] (fo<|au 0) (λd=>(fM 0)) (λd=>(iM (by exact (b7 (au 0)<|aW gr))))))))) (bO (dE 3 ak<|AR (b8 a) (gK<|ec 1) gr) (bO (dE 4 ak (gy (by exact (bT<|au 1)))) (bO (rq 1000000 hK (cX (iR<|b8 a) (au 4) (aW (gy (by exact nx)))<|dG _) (b9 (kz (Q7:=[0,1]) hK rfl (fo<|aW<|cZ c a<|bT<|aW<|K8 mg mT Ca D_ G_<|ec 4) (iu 5 ak) (b9<|eQ (e4.g_<|m6 (cX (lW<|b8 a) (au 5) (au 2) rfl)<|qO<|cX (jA<|b8 a) (au 5) (au 3) rfl) (bO (k4 gr<|n0 (ec 3) (gK<|ec 5)<|yf<|b8 a)<|b9<|mD<|o3 mg mT pX qG qv (ec 4)<|bT<|au 5) ff) ∅ w5)))<|b9<|dM<|hE pn rfl Qc.jJ k1<|bT<|aW<|ea (uy rfl<|b8 a) Qc.sk so<|bT<|au 3))))
abbrev z7(m:fe)(B:ao):Prop:=fL m 2 "_law_grown" wa B ["_law_left_here","_law_most"] 2 G.o7
def H7(P:ey m.K m.aH "_law_grown" wa B ["_law_left_here","_law_most"])(Qc:fE m.aH){c:ao}(b:rf m c){d:ao}(e:qu m d):z7 m B:=by
 refine fT GI P λak H O Q5 h j Qh a=>?_;exact (bO (dE 2 ak (gy (by exact (bT (f7 (by exact (b7 bb bb))))))) (bO (kz (Q7:=[0,1]) hK rfl (qc rfl Qc.pK<|bT<|aW<|cZ b a<|b7 (au 0)<|au 1) (iu 3 ak) (bO (dE 4 ak<|iF a (aW<|cZ e a<|bT<|c3 a (au 2)<|aW<|cZ b a<|b7 (au 0)<|aW<|ea fR Qc.fB fW<|bT<|au 2)<|aW<|cZ b a<|b7 (au 0) bb)<|b9<|eQ (e4.g_<|m6 (cX (jA<|b8 a) (au 4) (au 2) rfl)<|m6 (BY rJ rJ bb (c3 a (au 4) bb) bb)<|qO<|BY rJ rJ bb (c3 a (au 4) bb) bb) (b9<|mD<|o3 mg mT pX qG qv (ec 2)<|bT<|au 4) ff) ∅ vn)<|b9<|dM<|gK<|ec 2))
abbrev DQ(m:fe)(B:ao):Prop:=fL m 3 "_law_field" qr B ["_law_left_here","_law_most"] 2 G.pU
def J6(P:ey m.K m.aH "_law_field" qr B ["_law_left_here","_law_most"])(Qc:fE m.aH){e:ao}(d:rf m e){f:ao}(g:z7 m f){i:ao}(k:t5 m i):DQ m B:=by
 refine fT vi P λak H O Q5 h j Qh b=>?_;exact (bO (dE 2 ak<|cZ d b<|b7 (au 0) bb) (bO (ma (a:=3) ak rfl (Or.inr rfl) (hx gm bb<|aW<|cZ d b<|b7 (au 0) bb) ∅) (bO (dE 4 ak<|hx gm bb<|aW<|cZ d b<|b7 (au 0)<|aW<|ea (Lc rfl<|b8 b) Qc.I7 Ji<|b7 bb<|aW<|ea (GX rfl<|b8 b) Qc.Jy G4<|b7 bb<|c1 qS (au 1)<|au 3) (bO (qh (a:=5) (own:=["_law_k"]) (QJ:=[3]) ak rfl (Or.inl rfl) rfl (kD (dr qr) vi (by decide +kernel)) ∅ (qc rfl Qc.pK<|bT<|c1 j1 (au 4)<|au 3) (λc=>(fM 0)) (λc=>xE) (λc=>(iM (by exact (b7 (c1 qS (au 0)<|au 1)<|c1 ig (au 0)<|au 1)))) ∅) (bO (eQ (e4.g_<|hF (cX (hy<|b8 b) (au 2) bb<|dG _)<|jX<|cX (hy<|b8 b) (au 2) bb<|dG _) (b9 (kz (Q7:=[0,1]) hK rfl (qc rfl Qc.pK<|bT<|aW<|cZ d b<|b7 (au 0)<|c1 gm bb<|c1 qS (aW<|ea fR Qc.fB fW<|bT<|au 5) bb) (iu 6 ak) (b9<|mD<|o3 mg mT Ca D_ Gs (ec 5)<|bT<|aW<|cZ d b<|b7 (au 0)<|aW<|ea fR Qc.fB fW<|bT<|au 5) ∅ vn)) (b9 (eQ (cX (hy<|b8 b) (au 2) bb<|dG _) (b9 (qh (a:=5) (own:=["_law_cell"]) (QJ:=[]) ak rfl (Or.inl rfl) rfl (kD (dr qr) vi (by decide +kernel)) ∅ (fo<|au 5) (λc=>(fM 0)) (λc=>(nL<|cX (hy<|b8 b) (c1 j1 (c1 ig (c3 b (au 0) bb) bb)<|c1 ig (c1 ig (c3 b (au 0) bb) bb) bb) bb<|dG _)) (λc=>(gK<|ec 0)) ∅))<|b9<|eQ (cX vY (au 2) bb<|dG _) (b9<|dE 5 ak<|cZ g b<|b7 (au 0)<|au 1) ff))) (bO (dE 7 ak<|cZ k b<|b7 (au 5)<|c3 b (au 5)<|aW<|cZ d b<|b7 (au 0)<|aW<|ea fR Qc.fB fW<|bT<|au 5) (bO (k4 (jL ["_law_k"] [0] (qc rfl Qc.pK<|bT bb) (λc=>(fM 0)) (λc=>(iF b (aW (gy (by exact (iy bb (by exact (hV bb bb bb))))))<|aW<|cZ d b<|b7 (au 1) bb))) (F9 rfl (sJ (tw (a:=8) ak rfl (Or.inr rfl) ∅) (sJ (tw (a:=9) ak rfl (Or.inr rfl) ∅) yB)))) (b9 (dM (hE pn rfl Qc.jJ k1 (bT (aW (jL ["_law_cell"] [8,9] (fo<|au 7) (λc=>(fM 0)) (λc=>(iM (by exact (b7 (c1 gm (c3 b (au 0) bb)<|au 1)<|c1 gm (c3 b (au 0) bb)<|au 2)))))))))))))))))
abbrev vK(m:fe)(B:ao):Prop:=fL m 2 "_law_is_walk" yb B ["_law_field_here","_law_thing"] 2 G.pV
def Nb(P:ey m.K m.aH "_law_is_walk" yb B ["_law_field_here","_law_thing"])(Qc:fE m.aH){c:ao}(d:qu m c):vK m B:=by
 refine fT Iw P λak H O Q5 h j Qh a=>?_;exact (bO (eQ (e4.g_<|hF (i8<|iH<|aW<|nY rfl Qc.nU pd rfl Qc.jJ k1<|au 1)<|jX<|cX (hy<|b8 a) (aW<|ea fR Qc.fB fW<|bT<|au 1) bb<|dG _) (b9<|dM gr) ff) (bO (kz (Q7:=[0,1]) hK rfl (fo<|au 1) (iu 2 ak) (bO (eQ (e4.g_<|hF (i8<|iH<|aW<|nY rfl Qc.nU pd rfl Qc.jJ k1<|au 2)<|hF (cX (iR<|b8 a) (aW<|ea fR Qc.fB fW<|bT<|au 2) bb<|dG _)<|jX<|cX (jA<|b8 a) (au 2) (au 0) rfl) (b9<|dM gr) ff)<|b9<|eQ (i8<|iH<|aW<|ea (tl rfl) Qc.sT rP<|bT<|aW<|jL ["_law_number"] [] (fo<|au 2) (λb=>(fM 0))<|λb=>(ud (lq<|nY rfl Qc.nU pd rfl Qc.uE xr<|au 0)<|lq<|vX<|MK<|lq<|nY rfl Qc.nU pd rfl Qc.GJ Hm<|au 0)) (b9<|dM gr) ff) ∅ (vW ∅))<|b9<|dM<|ea (tl rfl) Qc.sT rP<|bT<|aW<|jL ["_law_one" ,"_law_other"] [] (PH rfl Qc.LS<|b7 (au 1)<|aW<|wL (au 1) (sI hY) A3) (λb=>(vm (fM 0)<|fM 1))<|λb=>(kV (lW<|b8 a) (au 1) (aW<|cZ d a<|bT<|au 0) rfl)))
abbrev Aq(m:fe)(B:ao):Prop:=fL m 2 "_law_apart" rC B ["_law_left_here","_law_field_here"] 2 G.nD
def NN(P:ey m.K m.aH "_law_apart" rC B ["_law_left_here","_law_field_here"])(Qc:fE m.aH){e:ao}(c:rf m e){f:ao}(g:qu m f):Aq m B:=by
 refine fT EL P λak H O Q5 h j Qh b=>?_;exact (bO (ma (a:=2) ak rfl (Or.inr rfl) (iF b (au 1)<|aW<|cZ c b<|b7 (au 0)<|aW<|ea fR Qc.fB fW<|bT<|au 1) ∅) (bO (qh (a:=3) (own:=["_law_cell"]) (QJ:=[2]) ak rfl (Or.inl rfl) rfl (kD (dr rC) EL (by decide +kernel)) ∅ (fo<|au 1) (λd=>(fM 0)) (λd=>(nL<|e4.g_<|m6 (cX (iR<|b8 b) (au 0) (au 1)<|dG _)<|qO<|cX (jA<|b8 b) (au 0) (aW<|cZ g b<|bT<|au 1) rfl)) (λd=>(gK<|ec 0)) ∅) (bO (eQ (cX (hy<|b8 b) (au 3) (aW (gy (by exact nx)))<|dG _) (b9<|dM sD) ff) (b9 (dM (iM (by exact (b7 (au 2)<|c3 b (au 3)<|aW<|cZ c b<|b7 (au 0)<|aW<|ea fR Qc.fB fW<|bT<|au 3))))))))
abbrev Bq(m:fe)(B:ao):Prop:=fL m 3 "_law_bars" rG B ["_law_field_here","_law_a","_law_b","_law_cells"] 4 G.sy
def Oh(P:ey m.K m.aH "_law_bars" rG B ["_law_field_here","_law_a","_law_b","_law_cells"])(Qc:fE m.aH){c:ao}(d:t5 m c):Bq m B:=by
 refine fT Fq P λak H O Q5 h j Qh a=>?_;exact (b9 (dM (kV (jA<|b8 a) (au 2) (aW (cZ d a (b7 (aW (uu (own:=["_law_cell"]) (QJ:=[3]) rfl (kD (dr rG) Fq (by decide +kernel)) ∅ (fo<|au 0) (λb=>(fM 0)) (λb=>(nL<|cX (jA<|b8 a) (au 0) (au 1) rfl))<|λb=>(gK<|ec 0)))<|au 1))) rfl)))
abbrev CC(m:fe)(B:ao):Prop:=fL m 3 "_law_are_cells" xu B ["_law_field_here","_law_thing"] 2 G.sF
def IS(P:ey m.K m.aH "_law_are_cells" xu B ["_law_field_here","_law_thing"])(Qc:fE m.aH){c:ao}(d:vK m c):CC m B:=by
 refine fT GD P λak H O Q5 h j Qh a=>?_;exact (bO (eQ (e4.g_ (hF (i8<|iH<|aW<|nY rfl Qc.nU pd rfl Qc.jJ k1<|au 1) (jX (i8 (iH (aW (ea (tl rfl) Qc.sT rP (bT (aW (jL ["_law_cell"] [0] (fo<|au 1) (λb=>(fM 0)) (λb=>(cZ d a (b7 (au 1) (f7 (by exact (bT<|au 0)))))))))))))))) (b9<|dM gr) ff) (b9 (dM (kV (hy<|b8 a) (aW<|hE uU rfl Qc.vM wK<|bT<|au 1) (aW (ea (uy rfl<|b8 a) Qc.sk so (bT (aW (hE (rL rfl<|pZ a) rfl Qc.t2 uk (bT (aW (jL ["_law_cell"] [] (fo<|au 1) (λb=>(fM 0)) (λb=>(iM (by exact (b7 (au 0)<|aW gr))))))))))))<|dG _))))
abbrev BR(m:fe)(B:ao):Prop:=fL m 3 "_law_are_apart" vb B ["_law_field_here","_law_a","_law_b","_law_ways"] 4 G.r4
def LC(P:ey m.K m.aH "_law_are_apart" vb B ["_law_field_here","_law_a","_law_b","_law_ways"])(Qc:fE m.aH){c:ao}(d:vK m c):BR m B:=by
 refine fT Io P λak H O Q5 h j Qh a=>?_;exact (bO (eQ (e4.g_<|hF (i8<|iH<|aW<|nY rfl Qc.nU pd rfl Qc.jJ k1<|au 3)<|jX<|i8<|iH<|aW<|ea (tl rfl) Qc.sT rP<|bT<|aW<|jL ["_law_way"] [0] (fo<|au 3) (λb=>(fM 0))<|λb=>(cZ d a<|b7 (au 1)<|au 0)) (b9<|dM gr) ff) (bO (eQ (cX (iR<|b8 a) (aW<|hE uU rfl Qc.vM wK<|bT<|au 3) (aW (ea (uy rfl<|b8 a) Qc.sk so (bT (aW (hE (rL rfl<|pZ a) rfl Qc.t2 uk (bT (aW (jL ["_law_way"] [] (fo<|au 3) (λb=>(fM 0)) (λb=>(iM (by exact (b7 (au 0)<|aW gr))))))))))))<|dG _) (b9<|dM gr) ff) (bO (dE 4 ak (gy (by exact nx))) (bO (kz (Q7:=[0,1,2,3]) hK rfl (fo<|au 3) (iu 5 ak) (bO (eQ (e4.g_<|hF (cX PE (aW<|ea fR Qc.fB fW<|bT<|au 5) bb<|dG _)<|hF (cX (iR<|b8 a) (c3 a (au 5) bb) (au 1)<|dG _)<|jX<|cX (iR<|b8 a) (c3 a (au 5)<|aW<|qE hY) (au 2)<|dG _) (b9<|dM gr) ff)<|b9<|dE 4 ak<|hx gm (au 4)<|aW<|hE uU rfl Qc.vM wK<|bT<|aW<|wL (au 5) (sI hY)<|sI<|qE hY) ∅ (vW ∅))<|b9<|dM<|ud (lq<|kV (hy<|b8 a) (aW<|ea fR Qc.fB fW<|bT<|au 4) (aW<|O6 (pZ a) rfl Qc.fB rfl Qc.Ln<|bT<|au 4)<|dG _)<|ud (lq<|kV (jA<|b8 a) (au 1) (au 4) rfl)<|lq<|vX<|kV (jA<|b8 a) (au 2) (au 4) rfl))))
abbrev zI(m:fe)(B:ao):Prop:=fL m 4 "_law_is_shown" vO B ["_law_field_here","_law_a","_law_b","_law_cells","_law_ways"] 5 G.nS
def IK(P:ey m.K m.aH "_law_is_shown" vO B ["_law_field_here","_law_a","_law_b","_law_cells","_law_ways"])(Qc:fE m.aH){b:ao}(c:CC m b){d:ao}(e:Bq m d){f:ao}(g:BR m f):zI m B:=by
 refine fT L8 P λak H O Q5 h j Qh a=>?_;exact (bO (eQ (e4.g_ (hF (i8<|iH<|aW<|cZ c a<|b7 (au 0)<|au 3) (hF (cX (lW<|b8 a) (au 1) (au 3) rfl) (hF (cX (lW<|b8 a) (au 2) (au 3) rfl) (jX (i8 (iH (aW (cZ e a (iy (au 0) (by exact (hV (au 1) (au 2)<|au 3)))))))))))) (b9<|dM gr) ff) (b9 (dM (ud (lq (cZ g a (iy (au 0) (by exact (hV (au 1) (au 2)<|au 4)))))<|lq<|vX<|kV (hy<|b8 a) (aW<|ea fR Qc.fB fW<|bT<|au 4) (aW<|ea fR Qc.fB fW<|bT<|au 3)<|dG _))))
abbrev FU(m:fe)(B:ao):Prop:=fL m 5 "law" ui B ["_law_script"] 1 G.nO
def L3(P:ey m.K m.aH "law" ui B ["_law_script"])(Qc:fE m.aH){g:ao}(i:zV m g){k:ao}(l:DQ m k){n:ao}(d:rf m n){o:ao}(p:Aq m o){q:ao}(c:Bt m q){r:ao}(e:zI m r){s:ao}(t:t5 m s):FU m B:=by
 refine fT yy P λak H O Q5 h j Qh b=>?_;exact (bO (kz (Q7:=[0]) hK rfl (qc rfl Qc.pK<|bT bb) (iu 1 ak) (bO (dE 2 ak<|cZ i b<|b7 (au 0)<|au 1) (bO (dE 3 ak (cZ l b (b7 (au 2) (c3 b (aW (gy (by exact (b7 bb bb))))<|aW<|hE Cs rfl Qc.uE xr<|bT<|aW<|kV (hy<|b8 b) (aW<|cZ d b<|b7 (au 2) bb) bb<|dG _)))) (bO (dE 4 ak<|cZ p b<|b7 (au 2)<|au 3) (b9 (eQ (cX B8 (au 4) (aW sD)<|dG _) (bO (k4 (gK<|ec 4)<|vm (iu 5 ak)<|iu 6 ak) (bO (k4 (cZ c b<|hV (au 3) (au 5)<|au 6)<|vm (iu 7 ak)<|iu 8 ak) (bO (eQ (e4.g_ (hF (i8 (iH (aW (cZ e b (iy (au 3) (by exact (iy (au 5) (by exact (hV (au 6) (au 7)<|au 8))))))))) (jX (cX (iR<|b8 b) (aW<|cZ c b<|hV (au 3) (au 5)<|au 6) (f7 (by exact (b7 (au 7)<|au 8)))<|dG _)))) (b9<|dM gr) ff) (bO (dE 9 ak<|cZ c b<|hV (au 3) (au 6)<|au 5) (bO (eQ (e4.g_ (hF (i8 (iH (aW (cZ e b (iy (au 3) (by exact (iy (au 6) (by exact (hV (au 5) (c3 b (au 9) bb)<|c3 b (au 9) bb)))))))))<|jX<|cX (iR<|b8 b) (aW<|ea fR Qc.fB fW<|bT<|c3 b (au 9) bb) (aW<|ea fR Qc.fB fW<|bT<|au 7)<|dG _)) (b9<|dM gr) ff) (bO (ma (a:=10) ak rfl (Or.inr rfl) (iF b (au 3)<|aW<|cZ d b<|b7 (au 2)<|aW<|ea fR Qc.fB fW<|bT<|au 3) ∅) (bO (dE 11 ak (hE pn rfl Qc.jJ k1 (bT (aW (uu (own:=["_law_cell"]) (QJ:=[10]) rfl (kD (dr ui) yy (by decide +kernel)) ∅ (fo<|au 3) (λf=>(fM 0)) (λf=>(nL<|cX (iR<|b8 b) (au 0) (au 1)<|dG _))<|λf=>(gK<|ec 0)))))) (b9 (eQ (e4.g_<|m6 (cX (iR<|b8 b) (au 10) (au 5)<|dG _)<|m6 (cX (iR<|b8 b) (au 10) (au 6)<|dG _)<|qO<|cX (hy<|b8 b) (aW<|cZ t b<|b7 (au 11)<|au 5) (au 11)<|dG _) (b9 (eQ (cX (jA<|b8 b) (c1 pY (aW<|ea fR Qc.fB fW<|bT<|au 7)<|aW<|ea fR Qc.fB fW<|bT<|c3 b (aW<|cZ c b<|hV (au 11) (au 5)<|au 6) bb) (f7 (by exact (b7 bb bb))) rfl) (b9<|dM gr) ff)) ff))))))))) ff))))) ∅ vn)<|b9<|dM gr)
end
def all_mk{x:bc}{Qk:Φ}{c:aV}{aH:aC->Option ae}{eg n o p q r s v w y z A B C D E F H I J:ao}(b:Qk.In c)(a:c.Ns dh aH)(L:aH "law" = Z (.ref eg)){g i:hq}(M:dU Qk "around" vG n)(N:dU Qk "onward" sR o)(O:dU Qk "search" u5 p)(P:dU Qk "lay_way" ya q)(Q:dU Qk "way_back" vk r)(R:dU Qk "barred" ql s)(S:dU Qk "_law_left" wD v)(T:dU Qk "_law_pick" vo w)(U:dU Qk "_law_beside" u7 y)(al:dU Qk "_law_part" wZ z)(am:dU Qk "_law_grown" wa A)(an:dU Qk "_law_field" qr B)(ap:dU Qk "_law_is_walk" yb C)(as:dU Qk "_law_apart" rC D)(a1:dU Qk "_law_bars" rG E)(a2:dU Qk "_law_are_cells" xu F)(bd:dU Qk "_law_are_apart" vb H)(be:dU Qk "_law_is_shown" vO I)(j:dU Qk "law" ui J)(bi:Ψ Qk dh "IN" = Z (Z<|.str "in" g))(bm:Ψ Qk dh "OUT" = Z (Z<|.str "out" i))(bn:Ψ Qk dh "all" = Z Y)(bs:Ψ Qk dh "bool" = Z Y)(bv:Ψ Qk dh "dict" = Z Y)(ca:Ψ Qk dh "int" = Z Y)(cd:Ψ Qk dh "isinstance" = Z Y)(ce:Ψ Qk dh "len" = Z Y)(ch:Ψ Qk dh "list" = Z Y)(ci:Ψ Qk dh "max" = Z Y)(cl:Ψ Qk dh "min" = Z Y)(co:Ψ Qk dh "range" = Z Y)(cr:Ψ Qk dh "reversed" = Z Y)(cs:Ψ Qk dh "set" = Z Y)(db:Ψ Qk dh "sorted" = Z Y)(ds:Ψ Qk dh "tuple" = Z Y)(dL:Ψ Qk dh "zip" = Z Y):
  ∃fd:gh,(∀(h:ah) (u:ae),l6 h fd ⟨[u],[]⟩ [("_law_script",u)])/\∀Qv:aV,Qk.In Qv->Qv.Ns dh aH->h1 t.prog x Qk aH Qv hR 5 eg fd ["_law_script"] (kg 1 G.nO):=by
 have Qc:fE aH:=⟨g7 b a bn,g7 b a bs,g7 b a bv,g7 b a ca,g7 b a cd,g7 b a ce,g7 b a ch,g7 b a ci,g7 b a cl,g7 b a co,g7 b a cr,g7 b a cs,g7 b a db,g7 b a ds,g7 b a dL,⟨g,lr b a bi⟩,⟨i,lr b a bm⟩⟩;refine F0 j b a L (λ_ K K K K K K K=>.of_eq rfl) λQv=>?_;let m:fe:=⟨t.prog,x,Qk,aH,Qv⟩
 have k:=Jn (m:=m) (M.dR b a) Qc;have eq:=NM (m:=m) (N.dc b a) Qc k;have ev:=MA (m:=m) (O.dc b a) Qc eq;have ex:=Ks (m:=m) (P.pf b a) Qc;have fn:=Py (m:=m) (Q.pf b a) Qc;have fr:=NW (m:=m) (R.pf b a) Qc k ev ex fn;have f0:=NR (m:=m) (S.dc b a) Qc;have d:=FP (m:=m) (T.dc b a) Qc;have e:=KR (m:=m) (U.dR b a) Qc;have f:=Hq (m:=m) (al.dc b a) Qc e;have f1:=H7 (m:=m) (am.dc b a) Qc d e;have f2:=J6 (m:=m) (an.dc b a) Qc d f1 f;have l:=Nb (m:=m) (ap.dc b a) Qc e;have f4:=NN (m:=m) (as.dc b a) Qc d e;have f8:=Oh (m:=m) (a1.ks b a) Qc f;have ga:=IS (m:=m) (a2.dc b a) Qc l;have ge:=LC (m:=m) (bd.ks b a) Qc l;have gl:=IK (m:=m) (be.lB b a) Qc ga f8 ge;exact L3 (m:=m) (j.dR b a) Qc f0 f2 d f4 fr gl f
def walk{p:bA}{b:List aC}{d:(aC->Option ae)->aV->Prop}{a:bc->aV->Prop}{v:DefRec}{Qk:rX->Φ}(e:t.most=Z 63)(i:v.params.defaults=[])(k:∀(x:bc) (c:aV),a x c->(Qk x.params).In c)(l:∀q,pH (Qk q)=X)(P:∀(x:bc) (aH:aC->Option ae) (eg:ao) (c:aV),(Qk x.params).In c->c.Ns dh aH->aH v.name=Z (.ref eg)->
   ∃fd:gh,(∀(h:ah) (L:ae),l6 h fd ⟨[L],[]⟩ [("_law_script",L)])/\∀Qv:aV,(Qk x.params).In Qv->Qv.Ns dh aH->h1 t.prog x (Qk x.params) aH Qv hR 5 eg fd ["_law_script"] (kg 1 G.nO)):
  PySem.W.WalkO p b d a t.row.toRowW v [] (λB U=>PySem.call B U):=
 L2.Kx (r:=63) (n:=5) (f := "_law_script") (Rj:=λ_=>hR) (Rk:=λx=>kg 1 G.nO) e ∅ i ⟨rfl,by decide,by decide,rfl⟩ k P (λx j g R m o s=>HR (l x.params) j g R o s (G.ME R (uj m ∅))) λ_ T T T T H=>H
end K33
namespace PySem.W.Fast
def tw10417422854090340520:=(0)
def tw8617857810437461024:=(0)
def tw17860795127511343328:=(0)
def tw8809366227061546400:=(0)
def tw13595433590049752000:=(0)
def tw3021307809960619297:=(0)
def tw14106427738235815361:=(0)
def tw9291359807981073953:=(0)
def tw15657353274539527105:=(0)
def tw6878997903357390978:=(0)
def tw12663814671506158914:=(0)
def tw9850390059270998531:=(0)
def tw790347632368800965:=(0)
def tw14373064040093149637:=(0)
def tw1784776460619075077:=(0)
def tw10783980437614012997:=(0)
def tw6420895418373244517:=(0)
def tw1568102033768409286:=(0)
def tw6382348902308092198:=(0)
def tw7159475215162539782:=(0)
def tw5735426130149403526:=(0)
def tw11157734152665083878:=(0)
def tw11289868355793687783:=(0)
def tw13650241988877965639:=(0)
def tw15951277889725710408:=(0)
def tw18016705563212698857:=(0)
def tw9203028522384673417:=(0)
def tw15664149564369231689:=(0)
def tw4052129991230422474:=(0)
def tw13371388246315630346:=(0)
def tw15999784021325611147:=(0)
def tw320460355633274603:=(0)
def tw5358496752769275819:=(0)
def tw713906709170492812:=(0)
def tw18127434543458442541:=(0)
def tw14990499073972624717:=(0)
def tw9286460096105862509:=(0)
def tw6261013170357765390:=(0)
def tw16135048716581028238:=(0)
def tw213055968036411054:=(0)
def tw17152435370849171310:=(0)
def tw2473560555275256782:=(0)
def tw16737599285176332303:=(0)
def tw10967888449065747535:=(0)
def tw13125350659165971247:=(0)
def tw15879161475099376591:=(0)
def tw1665465069299661104:=(0)
def tw10521814607895559504:=(0)
def tw845838908417422704:=(0)
def tw15243447349828546192:=(0)
def tw8976153938341913745:=(0)
def tw6523164566761853265:=(0)
def tw4640560228550799761:=(0)
def tw9323661554472864529:=(0)
def tw10768990195046673778:=(0)
def tw798018447608698003:=(0)
def tw9898571793293662643:=(0)
def tw7418298924141898004:=(0)
def tw1490984014350242484:=(0)
def tw4683851002644153685:=(0)
def tw11925928786337236501:=(0)
def tw6493004236938818133:=(0)
def tw16386305483895769143:=(0)
def tw3613162600547769559:=(0)
def tw9705366546820001559:=(0)
def tw1310785818149091255:=(0)
def tw3941574915432364760:=(0)
def tw804646889535844761:=(0)
def tw3263757441141371962:=(0)
def tw10412100550412220506:=(0)
def tw15563353308357470490:=(0)
def tw9215785915971970682:=(0)
def tw3389251902868587162:=(0)
def tw18144085843863627803:=(0)
def tw4302295469426884667:=(0)
def tw17719377346592652443:=(0)
def tw3637980662425000763:=(0)
def tw13398385059442613372:=(0)
def tw16415146976181868668:=(0)
def tw10627950881672424732:=(0)
def tw12216575987313783100:=(0)
def tw7688289238287846812:=(0)
def tw3047448139488240316:=(0)
def tw2147376703508745278:=(0)
def tw9008571182021812606:=(0)
def tw5251198811263649150:=(0)
def tw16718617866373453598:=(0)
def tw3035857982723654079:=(0)
def tw8080985062011812831:=(0)
end PySem.W.Fast
end
open PySem PySem.W PyProof.Rows
set_option maxRecDepth 100000 in
set_option maxHeartbeats 0 in
theorem PySem.Challenge.cw_mowfloor_k33_ways_apart_holds : PySem.Challenge.rw_mowfloor_k33_ways_apart.Holds := by
  w_on; o_law; k_head; (case hw => w_witness2)
  k_fill
  refine K33.walk (t := PySem.Challenge.rw_mowfloor_k33_ways_apart) rfl rfl (fun w h Y => PySem.W.kIn_of Y) ?hK ?F
  case hK => intro p; rfl
  case F =>
    intro w mg fa h KX G hmg
    apply K33.all_mk KX G hmg
    iterate 19 (apply L2.Cr; iterate 4 k_is)
    iterate 17 k_is
