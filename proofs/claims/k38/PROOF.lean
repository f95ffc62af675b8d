import PyProof.Rows.All
import Wide.All
import OpenK.AllK
import Wide.FinOn
import Lean
import PyProof.EqAt
import PyProof.EqKinds
import PyProof.TupleCall
import PyProof.IsiNone
import PyProof.NeKinds
import PyProof.MaxThree
import PyProof.NsDelKeeps
import KE.KTryMore
import KE.KIsAll
import PyProof.ExcAttrAll.ValueError
import PyProof.Rows.SetFrom
import PyProof.WalksMore
import PyProof.CallStr
import PySem.Challenge.RW_mowfloor_k38_trees_or_not
set_option maxHeartbeats 4000000
set_option Elab.async false
set_option linter.all false
set_option maxRecDepth 100000
open List (range range')
open Nat (beq)
noncomputable section
open PySem renaming wpAny_bind->ao,wpAny_pure->aJ,wpAny_newObj_type->fq,wpAny_call_entry->gW,wpAny_callSpecial?_slot->jf,wpAny_holding->gf,wpAny_seqItems->ib,wpAny_field->gu,wpAny_mono->fY,wpAny_setState_of->ka,wpAny_truthy_bool->lE,wpAny_rule->h4,wpAny_typeNameOfWhole_keyiter->vg,codeAny_builtin->ma,wpAny_Call_Name_kw->oJ,wpAny_setField_rec->o8,wpAny_passesOwn->m4,wpAny_typeOf->lD,wpAny_setEntries_of->qL,wpAny_forIn_list->ou,wpAny_setField->nd,wpAny_execs_nil->pq,plainId_quiet->nJ,wpAny_fieldsOf->ov,wpAny_isInstance->p7,wpAny_attempt->n8,wpAny_specialOf->qg,codeAny_mono->n1,wpAny_dictEntries->tR,wpAny_pyIter_list->u7,isSubtype_type->rg,builtinLookup_eq_fast->wk,wpAny_updateSeq_pair->wR,call_meets->oG,wpAny_sequenceKey->yc,wpAny_pyIter_slot->v4,wpAny_standAt->uv,wpAny_onRaise->sh,wpAny_newList->rV,filterMap_getElem?_range->Ef,noFill_tuple_add->yR,wpAny_askSetting->xv,wpAny_dictEpoch->vV,typeLookup_type->vl,wpAny_ite_split->zs,wpAny_notOrdered_dict->BU,wpAny_isOneOf_keyiter->B4,wpAny_setFlight_noneW->C4,sizeLine_eq->tS,seqIndex_of->u4,wpAny_of_eq->uk,isSubtype_stop->vz,wpAny_letGo->tc,wpAny_Assign_stores->GP,seq_tuple_add->yJ,evalPart_none->w1,wpAny_handled->zj,wpAny_dictSet_heap->GO,eqIsQuiet_byValue->AL,wpAny_assign_Name->CM,concat_meets->v6,seqIndex_neg->wi,slot_list_getitem->Ej,list_append->CC,wpAny_storeSet_of->D9,wpAny_setEpoch_of->DX,wpAny_pyHash_int->EC,wpAny_pyHash_str->D6,wpAny_execs_cons->Bs,wpAny_pyIter_zip->Gc,entryFor_of_tree->Dm,wpAny_Try_except->EV,wpAny_throw->yh,wpAny_ret_mkInt->B1,codeAny_of_tree->CY,wpAny_updateSeq->AP,wpAny_Name->wa,wpAny_bindName->Ds,wpAny_load->wn,wpAny_call->vA,wpAny_newTuple->B6,entryFor_alias->B8,wpAny_runValue->CI,evalPart_some->zM,call_list_seq->C1,intBits_le_64->ER,signature?_of->FG
open Option renaming bind_eq_some_iff->bB,map_eq_some_iff->ch,getD_some->n2,bind_some->oM,map_some->pA,isSome_iff_exists->yi,isSome_map->r4,getD_none->Fb
open List renaming append_assoc->a_,length_map->a5,getD_eq_getElem?_getD->cp,mem_singleton->bW,length_append->cb,mem_cons->bI,append_nil->bU,getElem?_eq_getElem->dh,perm_append_comm->cW,size_toArray->cr,nodup_append->cF,mem_append_right->dH,mem_append->cx,mem_append_left->dI,map_cons->ci,length_cons->c7,pairwise_singleton->er,getElem?_eq_some_iff->fw,getElem?_map->d3,mem_map->cX,take_append_drop->e9,mem_of_getElem?->e5,length_drop->e4,all_eq_true->fk,pairwise_cons->gk,map_append->fe,not_mem_nil->fZ,length_take->gb,mem_filter->ge,mem_range->f2,getElem?_append_right->kY,length_singleton->jq,getElem?_append_left->lf,drop_eq_getElem_cons->kL,nodup_cons->hL,lookup_cons->iG,mem_cons_of_mem->kx,mem_of_mem_drop->ky,map_map->gJ,eq_nil_of_length_eq_zero->o4,pairwise_iff_getElem->mJ,nodup_nil->io,nil_append->i7,filterMap_cons->lC,length_range->kE,mem_cons_self->kW,mem_of_mem_take->lW,mem_iff_getElem->l7,find?_cons->jE,foldl_cons->jF,map_drop->iv,map_take->iu,getElem?_drop->mB,getElem?_set_ne->ni,mem_flatMap->k3,drop_zero->kG,drop_of_length_le->o6,length_pos_iff->nC,getElem?_take->nq,any_eq_true->nw,getElem?_eq_none->p3,of_mem_zip->no,take_sublist->op,getElem_drop->pO,ext_getElem?->oa,pairwise_map->n5,eraseIdxIfInBounds_toArray->vs,map_congr_left->q2,drop_drop->mN,take_length->n4,getElem?_set_self->uq,take_of_length_le->sX,length_pos_of_mem->tJ,any_cons->mX,getElem?_toArray->sx,length_filter_le->uS,drop_sublist->qd,flatMap_cons->rL,length_dropLast->tZ,getElem?_of_mem->te,getElem_mem->qe,mem_nil_iff->qG,getElem?_zip_eq_some->y6,mem_map_of_mem->sj,length_erase_of_mem->zg,filterMap_cons_some->wU,length_set->qY,mem_filterMap->tl,reverse_cons->uu,getElem_take->u6,drop_take->rr,take_succ_eq_append_getElem->FA,foldl_append->sa,dropLast_eq_take->xI,cons_append->tp,nodup_range->tf,any_toArray->uL,countP_cons->uP,mem_erase_of_ne->x_,length_eraseIdx->xe,map_eq_cons_iff->zl,length_nil->sL,forIn_cons->tw,filter_sublist->vt,take_take->ui,take_zero->ug,setIfInBounds_toArray->Gw,zip_cons_cons->y8,perm_ext_iff_of_nodup->BH,length_eraseIdx_of_lt->AD,getLast?_eq_getElem?->AA,map_id->rs,mem_of_mem_eraseIdx->Ab,drop_length->xm,zipIdx_cons->wr,ext_getElem->vR,any_map->t0,length_zip->vN,eq_nil_or_concat->zT,concat_eq_append->Cp,pairwise_append->EE,extract_toArray->Gq,dropLast_concat->C0,getElem?_range->zX,set_comm->vw,filterMap_map->CU,map_filterMap->G7,map_inj_right->F7,all_map->vL,getElem?_set->FH,set_set->xE,countP_congr->Bv,getElem_inj->Dz,map_toArray->Gy,getElem_map->EN,filter_cons->F4,flatMap_nil->GV,zipIdx_nil->Ex,zip_append->Ce,forIn_nil->Ey,map_nil->DP
open PySem.Heap renaming get?_push_of_some->bS,get?_push_size->da,lt_size->bX,get?_update_other->k7,get?_update_self->nc,size_push->jW,get?_none_of_le->wA
open Nat renaming le_refl->bm,le_of_ble_eq_true->dN,ne_of_lt->cT,lt_of_lt_of_le->fs,le_trans->ed,zero_le->gV,lt_or_ge->hJ,lt_irrefl->kg,le_add_right->m1,le_of_lt->mh,ne_of_gt->l2,lt_of_le_of_lt->rQ,min_eq_left->oW,not_lt_zero->pr,le_of_lt_succ->ra,lt_succ_self->qV,lt_trans->oC,lt_trichotomy->sR,lt_of_succ_lt_succ->yy,add_assoc->q8,succ_pos->qD,not_lt->pa,add_comm->tt,eq_of_beq_eq_true->Br,eq_zero_or_pos->GD,mod_lt->tY,lt_succ_of_lt->ES,add_zero->xq,sub_self->vB,sub_zero->w4,lt_succ_of_le->BO,min_eq_right->Dr,le_succ->wf,le_antisymm->GK,min_self->GM
open Bool renaming and_eq_true->cd,false_ne_true->c9,false_eq_true->g7,not_true->pU,eq_iff_iff->qC,or_eq_true->u9,not_eq_true'->y0,and_true->wJ,and_false->FB,false_bne->z4,false_or->EI,true_bne->AI,true_or->FR
open PySem.W renaming kasC_pure->bf,kasC_bind->bi,mg_none_of->g9,kasC_range->fR,hideAll_none->nT,kasC_modify->kJ,hideAll_get->rH,mg_of->nN,kasC_get->jg,of_hideAll->ux,kasC_lift->nQ,callWith_K->y7,cellsFrom_some->Ai,kat_item->va,kas_swaps_map->Fd
open Array renaming length_toList->db,getElem?_toList->ev,getElem?_eq_getElem->jk,getElem?_eq_some_iff->nI,ext'->ks,forIn_toList->tA,getElem?_eq_none->wL,toList_filterMap->v8,getD_eq_getD_getElem?->FI,perm_iff_toList_perm->Fu,toList_push->vv,getElem_toList->DC,size_map->yD,mem_toList_iff->BV,append_assoc->Bw
open List.Perm renaming append_left->dL,append_right->eB,map->vf,eq_of_pairwise->Bt,cons_inv->Lm
open PyProof.Rows renaming slot_tuple_getitem->k_,callWith_type1->tE,callWith_builtin1->Be,entry_tuple_getitem->x8,assignInOrder_cons->yC,slicePart_none->rW,args_tuple_getitem->yp,subscriptTail_builtinR->Ff,entry_list_sort->wM,slot_list_sort->za,args_list_sort->wO,tupleItemsOf_->y1,assign_Tuple_tuple->FN,assignInOrder_nil->AO,plain_sorted->ws,entry_sorted->xD,args_sorted1->zc,kind_sorted->y4,get?_update_seq->Dq,Subscript_->xx,elem'_eq->sQ,slicePart_int->Gj,listUpdate_at->DA,tail_any->w8,lt_int->RW
open PySem.F renaming plainAttrs_list->jy,slot_list_append->oc,type_list_append->oS,slot_dict_keyiterator_next->qT,called_set->mz,slot_tuple_iterator_next->sO,slot_tuple_hash->qW,args_tuple_add_2->x6,slot_list_getattribute->yM,slot_list_extend->xh,type_list_extend->wV,entry_tuple_add->wm,slot_tuple_add->v0,args_dict_keyiterator_next_1->Ee,entry_dict_keyiterator_next->Ha,args_tuple_iterator_next_1->D5,slot_zip_next->r_,entry_tuple_iterator_next->E5,excBase_ValueError->Cg,plain_extend_loop->EF,plain_list_iadd->As,plain_set_new->GT,slot_set_iter->El,slot_list_pop->Fg,type_list_pop->Bh,args_list_append_2->GB,entry_list_append->He,slot_list_append->zS,args_zip_next_1->BM,entry_list_pop->Ek,slot_dict_iter->z0,entry_zip_next->CR,slot_list_pop->Fp,slot_dict_len->C5
open PySem.PassesOwn renaming never->hX
open PySem.Heap.SameBut renaming update->ls
open PySem.Around renaming under_plainId->nu
open Int renaming toNat_natCast->mj,le_refl->lb,emod_lt_of_pos->p0,emod_nonneg->py,le_trans->xK,not_lt->vW,ediv_one->BQ,mul_one->Ch
open Ne renaming symm->fB
open PyProof.Rows.F renaming plain_set_update_loop->wx,entry_set_update_loop->Bo
open PySem.Obj renaming data_mapFields->pI,isFreed_of_fields->x9,cls_mapFields->vS
open PySem.Calls renaming call_function_entry->tN,Name_function_global->Gh,callWith_builtin->Fo,evalArgs_plain->FS,spliced_cons->Ay,spliced_nil->Fj
open Classical renaming byContradiction->uo
open Prod renaming ext->i_
open PySem.SetTable renaming toList_insertAt->GR
open List.Pairwise renaming sublist->CS,map->Hb,imp_of_mem->LV,filterMap->KI,filter->Mb,imp₂->M7
open PySem.SeqAt.EqAt renaming int_str->G_,str_int->Gf,none_tuple->M9,bool_tuple->Oj,tuple_none->QS,tuple_bool->JM,none_bool->Pl,bool_none->Ky,bool_bool->LW,int_tuple->Lh,str_tuple->RS,tuple_int->Lf,tuple_str->Oh,none_int->IE,none_str->RD,bool_int->RO,bool_str->Ng,int_none->RM,int_bool->N0,str_none->Md,str_bool->PR,int_int->H3,str_str->Mp,of_refs->Pf
open PySem.SeqAt.RcAt renaming tuples->DE,lists_lengths->IG,none_tuple->Oq,bool_tuple->Mo,tuple_none->Nz,tuple_bool->Oo,none_none->IH,none_bool->Mv,bool_none->JP,bool_bool->Jl,int_tuple->Ro,str_tuple->Kq,tuple_int->P4,tuple_str->M6,none_int->P3,none_str->QZ,bool_int->Rs,bool_str->Lw,int_none->NX,int_bool->No,str_none->Oi,str_bool->Kn,int_int->Lc,int_str->J_,str_int->NY,str_str->Mz,lists->K0
open PySem.IsL renaming update->CB
open PySem.SeqAt.RcNeAt renaming lists_lengths->KG,none_tuple->Hz,bool_tuple->IT,tuple_none->P1,tuple_bool->HQ,none_none->R8,none_bool->Iy,bool_none->Mn,bool_bool->N4,int_tuple->Kf,str_tuple->Ke,tuple_int->Ip,tuple_str->H2,none_int->Qx,none_str->HG,bool_int->NG,bool_str->I7,int_none->OG,int_bool->LO,str_none->IR,str_bool->K8,int_int->Hk,int_str->Qp,str_int->NV,str_str->HM,tuples->OV,lists->Hx
open PyProof.Rows.LSm renaming kept_iter->Ew
open PySem.W.Looks renaming of_pure->FO,ld->Mk
open Prod.mk renaming injEq->Ao
open List.Sublist renaming append_left->P8
open List.cons renaming injEq->ND
open PySem renaming Scope->gs,Str->ay,Heap->aT,Value->ae,CmpOp->oo,Sem->dr,Addr->ai,Stmt->bz,Expr->a8,Obj->a0,Shared->ak,Around->bp,World->a9,Program->bw,Builtin->ba,cLine->bP,model->aM,isInstance->yG,Tok->gR,Paired->dX,sysModules->ie,mainGlobals->du,builtinsNs->w3,bootBuiltins->eE,Env->dP,Model->fz,eval->bQ,isTrue->o2,backTo->eJ,starEach->bG,swapsWith->lg,assign->ho,assignInOrder->zx,assignEach->fb,setItem->tM,swapsWithSole->o1,swappedStores->pG,bindName->se,PassesOwn->oP,pyNext->gd,letOwnedTupleGo->ry,pyIter->mZ,rawInt->en,Walks->i1,foldedSetIterable->lY,Operator->w0,binaryOp->fW,compareOp->dG,behindInMarks->nV,lastMarks->uQ,recursionLimit->Dy,Result->rj,FuncData->gp,BindsTo->lP,bindArgs->l1,Keyword->lv,NameKind->dp,cellsFrom->zr,IsPart->ku,getItem->j2,typeLookup->yQ,seqIndex?->xV,sliceBounds->na,PlainAttrs->ul,typeOf->n_,attributeBase->oA,backToKw->s8,keywordEach->sN,valueAt->mR,atKey->k8,Params->sz,callerA->mV,cellOf->sM,compEnvC->th,comprehension->zn,newList->ow,setField->vj,newExc->pv,newTuple->vF,firstArgMember->pi,seqItems?->qI,ZipApart->sK,IsZip->iX,IsPair->hT,shortFactorBits->r1,checkCount->v_,getattributeRaised->Gb,entryFor->tF,PyData->qn,ExceptHandler->vX,SetTable->aO,hashByValue->ut,ofAClassStatement->ua,searchCouldBeSeen->DB,carriedByValue->Bf,setSearchFrom->CP,argsOk->tB,drawOrder->x1,setNext->mH,setEntries->r6,pickOrder->iZ
open Bool renaming true->aa,false->al
open Option renaming some->Z,none->X
open PyProof.Rows renaming IsTup->lp,AllBare->j0,envOfC->hS,subscriptTail->xA,IntsAre->q7,bubble->rG,SortKind->gB,Keyed->bD,SortSt->br,pendingOf->hy,failedOf->hs,mergeAt'->ur,ltAt'->mM,reverseSlice'->p_,seqObj->ff,keyKind'->wF,tuples'->n9
open PySem.W renaming WData->q6,WShape->qu,kas_rev->mA,kas_cmp->eW,kas_item->bh,kas_st->s_
abbrev aB:=@if_pos
abbrev aG:=@if_neg
abbrev cU:=@decide_eq_true
abbrev dT:=@of_decide_eq_true
abbrev dA:=@decide_eq_false
abbrev jJ:=@decide_eq_true_iff
abbrev fF:=@if_false
abbrev lz:=@beq_self_eq_true
abbrev hk:=@or_false
abbrev kB:=@beq_iff_eq
abbrev hQ:=@if_true
abbrev wc:=@decide_eq_false_iff_not
abbrev uZ:=@decide_eq_true_eq
abbrev sW:=@decide_eq_decide
abbrev vC:=@beq_eq_false_iff_ne
namespace L2
open PySem PySem.Spec PyProof.Rows
variable{S9:gs}{TU e:ay}{SW d:aT}{aw:ay->Option ae}{SO Tb:List ay}{Uh Tx:oo}{P:ae->ae->dr ae}{b0 T7:List ai}{T9:List bz}{u v o b Tk:Nat}{J:Int->Int->Int}{To q a:a8}{Q:List a8}{SK:PySem.W.Frag}{G:List (ai×a0)}{S1:Pos}{j SN:ak}{A SM:ae->ak->Prop}{O:bp}{SP c g:ai}{TV:Drawn}{Uf:Array GenState}{D:a9}{SS:bw}{I:ae}{S7:List ae}
inductive ab where
 | aR|ax (c:Bool)|int (b:Int)|str (e:ay)|tup (E:List ab)|fn (g:ai)|aN (E:List ab)|fd
mutual
noncomputable def ab.beq:ab->ab->Bool
 |.aR,.aR=>aa
 |.ax g,.ax c=>g==c
 |.int b,.int u=>decide (b=u)
 |.str e,.str t=>decide (e=t)
 |.tup g,.tup c=>ab.k4 g c
 |.fn g,.fn c=>decide (g=c)
 |.aN g,.aN c=>ab.k4 g c
 |.fd,.fd=>aa
 |_,_=>al
noncomputable def ab.k4:List ab->List ab->Bool
 |[],[]=>aa
 |g::r,c::B=>ab.beq g c&&ab.k4 r B
 |_,_=>al
end
mutual
theorem ab.beq_iff:∀g c:ab,ab.beq g c=aa↔g=c
 |.aR,c=>by cases c<;>simp[ab.beq]
 |.ax g,c=>by cases c<;>simp[ab.beq]
 |.int b,c=>by cases c<;>simp[ab.beq]
 |.str e,c=>by cases c<;>simp[ab.beq]
 |.tup e,c=>by
  cases c with
  |tup t=>rw[ab.beq,ab.xF e t];simp
  |_=>simp[ab.beq]
 |.fn g,c=>by cases c<;>simp[ab.beq]
 |.aN e,c=>by
  cases c with
  |aN t=>rw[ab.beq,ab.xF e t];simp
  |_=>simp[ab.beq]
 |.fd,c=>by cases c<;>simp[ab.beq]
theorem ab.xF:∀g c:List ab,ab.k4 g c=aa↔g=c
 |[],c=>by cases c<;>simp[ab.k4]
 |e::r,c=>by
  cases c with
  |nil=>simp[ab.k4]
  |cons t B=>rw[ab.k4,cd,ab.beq_iff e t,ab.xF r B];simp
end
noncomputable instance:DecidableEq ab:=λg c=>decidable_of_iff (ab.beq g c=aa) (ab.beq_iff g c)
mutual
def dR(d:aT):ab->ae->Prop
 |.aR,s=>s=.none
 |.ax c,s=>s=.bool c
 |.int b,s=>∃B,s=.int b B
 |.str e,s=>∃B,s=.str e B
 |.fn g,s=>s=.ref g
 |.aN _,s=>∃g,s=.ref g
 |.fd,s=>∃g,s=.ref g
 |.tup E,s=>∃g m S_ v,s=.ref g/\d.get? g=Z m/\m.cls=.type "tuple" /\ m.data=.seq S_ v/\dw d E S_.toList
def dw(d:aT):List ab->List ae->Prop
 |[],T=>T=[]
 |k::E,T=>∃s r,T=s::r/\dR d k s/\dw d E r
end
mutual
noncomputable def ab.key:Nat->ab->Bool
 |_,.int _=>aa
 |_,.str _=>aa
 |v+1,.tup E=>ab.keys v E
 |_,_=>al
noncomputable def ab.keys:Nat->List ab->Bool
 |_,[]=>aa
 |v,k::E=>ab.key v k&&ab.keys v E
end
mutual
noncomputable def dk(D:a9):ab->Int
 |.int b=>hashInt b
 |.str e=>hashStr D e
 |.tup E=>reduceHash (ba.Tuple.tupleHashOf<|hP D E)
 |_=>0
noncomputable def hP(D:a9):List ab->List Int
 |[]=>[]
 |k::E=>dk D k::hP D E
end
mutual
noncomputable def tx:ab->Nat
 |.tup E=>jh E+1
 |_=>1
noncomputable def jh:List ab->Nat
 |[]=>0
 |k::E=>tx k+jh E
end
theorem yH(D:a9):∀g c:List ab,hP D (g++c)=hP D g++hP D c
 |[],c=>rfl
 |k::g,c=>by rw[tp,hP,hP,yH D g c,tp]
theorem ya:∀g c:List ab,jh (g++c)=jh g+jh c
 |[],c=>by simp[jh]
 |k::g,c=>by rw[tp,jh,jh,ya g c];lia
theorem AQ{v:Nat}:∀{g c:List ab},ab.keys v (g++c)=aa->ab.keys v c=aa
 |[],c,d=>d
 |k::g,c,d=>by rw[tp,ab.keys,cd]at d;exact AQ d.2
theorem dw.length{d:aT}:∀{E:List ab}{T:List ae},dw d E T->E.length=T.length
 |[],T,a=>by rw[show T=[] from a];rfl
 |k::E,T,a=>by
  obtain⟨s,r,rfl,Y,a⟩:=a;rw[c7,c7,dw.length a]
def tD(d U:aT):Prop:=∀g m S_ v,d.get? g=Z m->m.cls=.type "tuple" -> m.data=.seq S_ v->U.get? g=Z m
mutual
theorem dR.keep{d U:aT}(o:tD d U):∀{k:ab}{s:ae},dR d k s->dR U k s
 |.aR,_,a=>a
 |.ax _,_,a=>a
 |.int _,_,a=>a
 |.str _,_,a=>a
 |.fn _,_,a=>a
 |.aN _,_,a=>a
 |.fd,_,a=>a
 |.tup E,_,a=>by
  obtain⟨g,m,S_,v,rfl,l,C,b,c⟩:=a;exact⟨g,m,S_,v,rfl,o g m S_ v l C b,C,b,dw.keep o c⟩
theorem dw.keep{d U:aT}(o:tD d U):∀{E:List ab}{T:List ae},dw d E T->dw U E T
 |[],_,a=>a
 |k::E,_,a=>by
  obtain⟨s,r,rfl,l,C⟩:=a;exact⟨s,r,rfl,dR.keep o l,dw.keep o C⟩
end
theorem GX{d:aT}:∀(v:Nat) {e t:ab}{s:ae},ab.key v e=aa->ab.key v t=aa->dR d e s->dR d t s->e=t
 |v,.int b,t,s,_,a6,h,f=>by
  obtain⟨B,rfl⟩:=h;cases t with
  |int u=>obtain⟨I,a⟩:=f;injection a with a;rw[a]
  |str j=>obtain⟨I,a⟩:=f;cases a
  |tup E=>obtain⟨Y,Y,Y,Y,a,Y⟩:=f;cases a
  |_=>cases v<;>cases a6
 |v,.str j,t,s,_,a6,h,f=>by
  obtain⟨B,rfl⟩:=h;cases t with
  |int u=>obtain⟨I,a⟩:=f;cases a
  |str j=>obtain⟨I,a⟩:=f;injection a with a;rw[a]
  |tup E=>obtain⟨Y,Y,Y,Y,a,Y⟩:=f;cases a
  |_=>cases v<;>cases a6
 |v+1,.tup E,t,s,q,a6,h,f=>by
  obtain⟨g,m,S_,i,rfl,l,C,w,x⟩:=h;cases t with
  |int u=>obtain⟨I,a⟩:=f;cases a
  |str j=>obtain⟨I,a⟩:=f;cases a
  |tup Q=>
   obtain⟨D,Tq,F,G,a,n,Tc,TE,y⟩:=f;cases a;rw[l]at n;cases n;rw[w]at TE;injection TE with TE _;subst TE;have all:∀(E Q:List ab) (T:List ae),ab.keys v E=aa->ab.keys v Q=aa->dw d E T->dw d Q T->E=Q:=by
    intro E;induction E with
    |nil=>
     intro Q T Y Y g c;cases Q with
     |nil=>rfl
     |cons a Q=>obtain⟨Y,Y,p,Y⟩:=c;rw[show T=[] from g]at p;cases p
    |cons k E z=>
     intro Q T Tj Tr g c;obtain⟨s,r,rfl,A,TP⟩:=g;cases Q with
     |nil=>cases (show s::r=[] from c)
     |cons a Q=>
      obtain⟨H,TG,p,cz,b3⟩:=c;cases p;rw[ab.keys,cd]at Tj Tr;rw[GX v Tj.1 Tr.1 A cz,z Q r Tj.2 Tr.2 TP b3]
   rw[all E Q _ q a6 x y]
  |_=>cases a6
 |_,.aR,_,_,o,_,_,_=>by cases ‹Nat›<;>cases o
 |_,.ax _,_,_,o,_,_,_=>by cases ‹Nat›<;>cases o
 |_,.fn _,_,_,o,_,_,_=>by cases ‹Nat›<;>cases o
 |_,.aN _,_,_,o,_,_,_=>by cases ‹Nat›<;>cases o
 |_,.fd,_,_,o,_,_,_=>by cases ‹Nat›<;>cases o
 |0,.tup _,_,_,o,_,_,_=>by cases o
section
variable{SR:bw}{D:a9}
theorem BJ:∀(v:Nat) {O:bp}{SM:ae->ak->Prop}{j:ak}{k:ab}{s:ae}{A:Int->ak->Prop},ab.key v k=aa->O.units+v<bP->dR j.heap k s->A (dk D k) {j with toks:=j.toks+tx k}->
  wpAny (aM SR D) O (pyHash s) A SM j
 |v,O,SM,j,.int b,s,A,_,_,f,d=>by
  obtain⟨B,rfl⟩:=f;exact EC d
 |v,O,SM,j,.str b,s,A,_,_,f,d=>by
  obtain⟨B,rfl⟩:=f;exact D6 d
 |v+1,O,SM,j,.tup E,s,A,o,x,f,d=>by
  obtain⟨g,m,S_,i,rfl,t,w,hd,SJ⟩:=f;have h:j.TypeIs (.ref g) "tuple" := ⟨m,t,w⟩;unfold pyHash;first|unfold pyHashByItsType|skip
  first|refine ao (wpAny_cRoomFor_or (.inr (by lia)) ?_)|skip
  refine ao (qg h qW.lookup ?_);show wpAny _ _ (if (Z (ae.builtin "tuple.__hash__")==Z ae.none)=aa then _ else _) A SM j;rw[aG (by rw[beq_builtin_none];exact c9)];refine ao (qg h qW.lookup ?_);show wpAny _ _ (callSpecialIfBoundUnlessNone? (.ref g) "__hash__" _ >>= _) A SM j;refine ao (wpAny_callSpecialIfBoundUnlessNone?_slot h qW<|gW qW h F.entry_tuple_hash ?_<|F.args_tuple_hash_1 _);show wpAny _ _ (ba.Tuple.tupleItemsOf (.ref g) >>= _) _ _ j;refine ao (wpAny_tupleItemsOf t hd ?_);refine ao ?_;rw[<-tA];refine ou _
   (λcf (c:Array Int) SN=>∃done left,E=done++left/\dw j.heap left cf/\c.toList=hP D done/\SN={j with toks:=j.toks+jh done})
   _ ?_ ?_ _ _ ⟨[],E,rfl,SJ,rfl,rfl⟩
  ·rintro e cf c SN ⟨done,left,rfl,n,p,rfl⟩;cases left with
   |nil=>cases (show e::cf=[] from n)
   |cons k left=>
    obtain⟨s,r,a,l,u⟩:=n;cases a;have Tr:=AQ (g:=done) (show ab.keys v (done++k::left)=aa from o);rw[ab.keys,cd]at Tr;refine ao (BJ v Tr.1 (by show O.units+1+v<bP;lia) l ?_);first
     | exact aJ ⟨done++[k],left,by simp,u,by simp[p,yH,hP],by simp[ya,jh,q8]⟩
     | exact ao (aJ (aJ ⟨done++[k],left,by simp,u,by simp[p,yH,hP],by simp[ya,jh,q8]⟩))
  ·rintro c SN ⟨done,left,rfl,n,p,rfl⟩;cases left with
   |cons k left=>obtain⟨Y,Y,a,Y⟩:=n;cases a
   |nil=>
   rw[bU]at d;show wpAny _ _ (retInt<|ba.Tuple.tupleHashOf c.toList) _ _ _;rw[p];refine B1 ?_;show wpAny _ _ (if (decide (-(2:Int)^63<=ba.Tuple.tupleHashOf (hP D done))&&decide (ba.Tuple.tupleHashOf (hP D done)<2^63))=aa then _ else _) A SM _;rw[dk,tx]at d;unfold reduceHash at d;by_cases q:(decide (-(2:Int)^63<=ba.Tuple.tupleHashOf (hP D done))&&decide (ba.Tuple.tupleHashOf (hP D done)<2^63))=aa
   ·rw[aB q];rw[aB q]at d;exact aJ (by simpa [q8] using d)
   ·rw[aG q];rw[aG q]at d;exact ao (h4 (aJ (by simpa [q8] using d)))
 |_,_,_,_,.aR,_,_,o,_,_,_=>by cases ‹Nat›<;>cases o
 |_,_,_,_,.ax _,_,_,o,_,_,_=>by cases ‹Nat›<;>cases o
 |_,_,_,_,.fn _,_,_,o,_,_,_=>by cases ‹Nat›<;>cases o
 |_,_,_,_,.aN _,_,_,o,_,_,_=>by cases ‹Nat›<;>cases o
 |_,_,_,_,.fd,_,_,o,_,_,_=>by cases ‹Nat›<;>cases o
 |0,_,_,_,.tup _,_,_,o,_,_,_=>by cases o
mutual
noncomputable def ck:ab->ab->Bool
 |.aR,.aR=>aa
 |.ax g,.ax c=>g==c
 |.ax g,.int u=>(if g then 1 else 0)==u
 |.int b,.ax c=>b==(if c then 1 else 0)
 |.int b,.int u=>b==u
 |.str e,.str t=>e==t
 |.tup g,.tup c=>e2 g c
 |_,_=>al
noncomputable def e2:List ab->List ab->Bool
 |[],[]=>aa
 |g::r,c::B=>ck g c&&e2 r B
 |_,_=>al
end
mutual
noncomputable def ab.bk:Nat->ab->Bool
 |_,.aR=>aa
 |_,.ax _=>aa
 |_,.int _=>aa
 |_,.str _=>aa
 |v+1,.tup E=>ab.cQ v E
 |_,_=>al
noncomputable def ab.cQ:Nat->List ab->Bool
 |_,[]=>aa
 |v,k::E=>ab.bk v k&&ab.cQ v E
end
theorem jr{v:Nat}:∀{E:List ab}{u:Nat}{k:ab},ab.cQ v E=aa->E[u]?=Z k->ab.bk v k=aa
 |[],u,k,_,d=>by simp at d
 |a::E,0,k,o,d=>by
  rw[ab.cQ,cd]at o;simp at d;subst d;exact o.1
 |a::E,u+1,k,o,d=>by
  rw[ab.cQ,cd]at o;exact jr o.2 (by simpa using d)
theorem dw.get{d:aT}:∀{E:List ab}{T:List ae}{u:Nat}{s:ae},dw d E T->T[u]?=Z s->∃k,E[u]?=Z k/\dR d k s
 |[],T,u,s,g,a=>by rw[show T=[] from g]at a;simp at a
 |k::E,T,0,s,g,a=>by
  obtain⟨I,r,rfl,b,TP⟩:=g;simp at a;subst a;exact⟨k,rfl,b⟩
 |k::E,T,u+1,s,g,a=>by
  obtain⟨I,r,rfl,b,TP⟩:=g;obtain⟨TV,l,C⟩:=dw.get (u:=u) TP (by simpa using a);exact⟨TV,by simpa using l,C⟩
theorem B7{d:aT}:∀(v:Nat) {e t:ab}{s:ae},ab.bk v e=aa->ab.bk v t=aa->dR d e s->dR d t s->ck e t=aa
 |v,.aR,t,s,_,a6,h,f=>by
  cases (show s=.none from h);cases t with
  |aR=>rfl
  |ax c=>cases f
  |int u=>obtain⟨I,a⟩:=f;cases a
  |str j=>obtain⟨I,a⟩:=f;cases a
  |tup E=>obtain⟨Y,Y,Y,Y,a,Y⟩:=f;cases a
  |fn g=>cases v<;>cases a6
  |aN g=>cases v<;>cases a6
  |fd=>cases v<;>cases a6
 |v,.ax c,t,s,_,a6,h,f=>by
  cases (show s=.bool c from h);cases t with
  |aR=>cases f
  |ax q=>cases f;simp[ck]
  |int u=>obtain⟨I,a⟩:=f;cases a
  |str j=>obtain⟨I,a⟩:=f;cases a
  |tup E=>obtain⟨Y,Y,Y,Y,a,Y⟩:=f;cases a
  |fn g=>cases v<;>cases a6
  |aN g=>cases v<;>cases a6
  |fd=>cases v<;>cases a6
 |v,.int b,t,s,_,a6,h,f=>by
  obtain⟨B,rfl⟩:=h;cases t with
  |aR=>cases f
  |ax q=>cases f
  |int u=>obtain⟨I,a⟩:=f;cases a;simp[ck]
  |str j=>obtain⟨I,a⟩:=f;cases a
  |tup E=>obtain⟨Y,Y,Y,Y,a,Y⟩:=f;cases a
  |fn g=>cases v<;>cases a6
  |aN g=>cases v<;>cases a6
  |fd=>cases v<;>cases a6
 |v,.str b,t,s,_,a6,h,f=>by
  obtain⟨B,rfl⟩:=h;cases t with
  |aR=>cases f
  |ax q=>cases f
  |int u=>obtain⟨I,a⟩:=f;cases a
  |str j=>obtain⟨I,a⟩:=f;cases a;simp[ck]
  |tup E=>obtain⟨Y,Y,Y,Y,a,Y⟩:=f;cases a
  |fn g=>cases v<;>cases a6
  |aN g=>cases v<;>cases a6
  |fd=>cases v<;>cases a6
 |v+1,.tup E,t,s,w,a6,h,f=>by
  obtain⟨g,m,S_,i,rfl,l,C,x,y⟩:=h;cases t with
  |aR=>cases f
  |ax q=>cases f
  |int u=>obtain⟨I,a⟩:=f;cases a
  |str j=>obtain⟨I,a⟩:=f;cases a
  |fn g=>cases a6
  |aN g=>cases a6
  |fd=>cases a6
  |tup Q=>
   obtain⟨F,Tq,G,H,a,n,Tc,TE,z⟩:=f;cases a;rw[l]at n;cases n;rw[x]at TE;injection TE with TE _;subst TE;have all:∀(E Q:List ab) (T:List ae),ab.cQ v E=aa->ab.cQ v Q=aa->dw d E T->dw d Q T->e2 E Q=aa:=by
    intro E;induction E with
    |nil=>
     intro Q T Y Y g c;cases Q with
     |nil=>rfl
     |cons a Q=>obtain⟨Y,Y,p,Y⟩:=c;rw[show T=[] from g]at p;cases p
    |cons k E A=>
     intro Q T Tj Tr g c;obtain⟨s,r,rfl,D,TP⟩:=g;cases Q with
     |nil=>cases (show s::r=[] from c)
     |cons a Q=>
      obtain⟨J,TG,p,cz,b3⟩:=c;cases p;rw[ab.cQ,cd]at Tj Tr;rw[e2,B7 v Tj.1 Tr.1 D cz,A Q r Tj.2 Tr.2 TP b3];rfl
   rw[ck];exact all E Q _ w a6 y z
 |v,.fn _,_,_,o,_,_,_=>by cases v<;>cases o
 |v,.aN _,_,_,o,_,_,_=>by cases v<;>cases o
 |v,.fd,_,_,o,_,_,_=>by cases v<;>cases o
 |0,.tup _,_,_,o,_,_,_=>by cases o
theorem ri{a:Nat->Bool}:∀{E Q:List ab},(∀(u:Nat) (e t:ab),E[u]?=Z e->Q[u]?=Z t->a u=ck e t)->((range<|min E.length Q.length).all a&&E.length==Q.length)=e2 E Q:=by
 have M:∀(E Q:List ab) (P:Nat->Bool),(∀(u:Nat) (e t:ab),E[u]?=Z e->Q[u]?=Z t->P u=ck e t)->((range<|min E.length Q.length).all P&&E.length==Q.length)=e2 E Q:=by
  intro E;induction E with
  |nil=>intro Q P Y;cases Q<;>simp[e2]
  |cons k E b=>
   intro Q P d;cases Q with
   |nil=>simp[e2]
   |cons q Q=>
    have:=b Q (λu=>P<|u+1) λu e t g c=>d (u+1) e t (by simpa using g) (by simpa using c);rw[e2,<-this,<-d 0 k q rfl rfl];rw[c7,c7,show min (E.length+1) (Q.length+1)=min E.length Q.length+1 by lia,List.range_succ_eq_map,List.all_cons,vL,Bool.and_assoc];congr 2;rw[qC];simp
 exact λ{E Q} d=>M E Q a d
theorem i3{j:ak}:∀(v:Nat) {O:bp}{e t:ab}{I s:ae},ab.bk v e=aa->ab.bk v t=aa->O.units+v+1<bP->dR j.heap e I->dR j.heap t s->SeqAt.EqAt O j I s (ck e t)
 |v,O,.aR,t,I,s,_,a6,r,h,d=>by
  cases (show I=.none from h);cases t with
  |aR=>cases (show s=.none from d);exact SeqAt.EqAt.same _
  |ax c=>cases (show s=.bool c from d);exact Pl c
  |int u=>obtain⟨B,rfl⟩:=d;exact IE u B
  |str k=>obtain⟨B,rfl⟩:=d;exact RD k B
  |tup E=>obtain⟨g,m,S_,i,rfl,l,C,n,Y⟩:=d;exact M9 ⟨m,l,C,i,n⟩ (by lia)
  |fn g=>cases v<;>cases a6
  |aN g=>cases v<;>cases a6
  |fd=>cases v<;>cases a6
 |v,O,.ax c,t,I,s,_,a6,r,h,d=>by
  cases (show I=.bool c from h);cases t with
  |aR=>cases (show s=.none from d);exact Ky c
  |ax q=>cases (show s=.bool q from d);exact LW c q
  |int u=>obtain⟨B,rfl⟩:=d;exact RO c u B
  |str k=>obtain⟨B,rfl⟩:=d;exact Ng c k B
  |tup E=>obtain⟨g,m,S_,i,rfl,l,C,n,Y⟩:=d;exact Oj c ⟨m,l,C,i,n⟩ (by lia)
  |fn g=>cases v<;>cases a6
  |aN g=>cases v<;>cases a6
  |fd=>cases v<;>cases a6
 |v,O,.int b,t,I,s,_,a6,r,h,d=>by
  obtain⟨f,rfl⟩:=h;cases t with
  |aR=>cases (show s=.none from d);exact RM b f
  |ax q=>cases (show s=.bool q from d);exact N0 b f q
  |int u=>obtain⟨B,rfl⟩:=d;exact H3 b f u B
  |str k=>obtain⟨B,rfl⟩:=d;exact G_ b f k B
  |tup E=>obtain⟨g,m,S_,i,rfl,l,C,n,Y⟩:=d;exact Lh b f ⟨m,l,C,i,n⟩ (by lia)
  |fn g=>cases v<;>cases a6
  |aN g=>cases v<;>cases a6
  |fd=>cases v<;>cases a6
 |v,O,.str b,t,I,s,_,a6,r,h,d=>by
  obtain⟨f,rfl⟩:=h;cases t with
  |aR=>cases (show s=.none from d);exact Md b f
  |ax q=>cases (show s=.bool q from d);exact PR b f q
  |int u=>obtain⟨B,rfl⟩:=d;exact Gf b f u B
  |str k=>obtain⟨B,rfl⟩:=d;exact Mp b f k B
  |tup E=>obtain⟨g,m,S_,i,rfl,l,C,n,Y⟩:=d;exact RS b f ⟨m,l,C,i,n⟩ (by lia)
  |fn g=>cases v<;>cases a6
  |aN g=>cases v<;>cases a6
  |fd=>cases v<;>cases a6
 |v+1,O,.tup E,t,I,s,x,a6,r,h,d=>by
  have H:=h;obtain⟨g,m,S_,i,rfl,l,C,n,y⟩:=h;have TB:j.heap.IsTuple g S_:=⟨m,l,C,i,n⟩;cases t with
  |aR=>cases (show s=.none from d);exact QS TB (by lia)
  |ax q=>cases (show s=.bool q from d);exact JM q TB (by lia)
  |int u=>obtain⟨B,rfl⟩:=d;exact Lf u B TB (by lia)
  |str k=>obtain⟨B,rfl⟩:=d;exact Oh k B TB (by lia)
  |fn g=>cases a6
  |aN g=>cases a6
  |fd=>cases a6
  |tup Q=>
   have J:=d;obtain⟨c,Tq,w,L,rfl,M,Tc,TE,z⟩:=d;by_cases a:g=c
   ·subst a;rw[B7 (v+1) x a6 H J];exact SeqAt.EqAt.same _
   ·have TY:j.heap.IsTuple c w:=⟨Tq,M,Tc,L,TE⟩;have A:=y.length;have D:=z.length;have N:S_.toList.length=S_.size:=by simp
    have P:w.toList.length=w.size:=by simp
    rw[N]at A;rw[P]at D;have p:=Pf (A:=O) a (DE (e:=λu=>ck (E.getD u .aR)<|Q.getD u .aR) TB TY (by lia) λu bE R=>by
     obtain⟨TD,F,S⟩:=y.get (u:=u) (s:=S_[u]) (by rw[ev];simp[bE]);obtain⟨TA,G,T⟩:=z.get (u:=u) (s:=w[u]) (by rw[ev];simp[R]);rw[cp,F,cp,G];exact i3 v (jr x F) (jr a6 G) (by show O.units+1+v+1<bP;lia) S T)
    rw[<-A,<-D,ri (E:=E) (Q:=Q) (λu e t g c=>by rw[cp,g,cp,c];rfl)]at p;rw[ck];exact p
 |v,O,.fn _,_,_,_,o,_,_,_,_=>by cases v<;>cases o
 |v,O,.aN _,_,_,_,o,_,_,_,_=>by cases v<;>cases o
 |v,O,.fd,_,_,_,o,_,_,_,_=>by cases v<;>cases o
 |0,O,.tup _,_,_,_,o,_,_,_,_=>by cases o
mutual
theorem vI:∀{v:Nat}{k:ab},ab.key v k=aa->ab.bk v k=aa
 |v,.int _,_=>by cases v<;>rfl
 |v,.str _,_=>by cases v<;>rfl
 |v+1,.tup E,d=>by rw[ab.key]at d;rw[ab.bk];exact FW d
 |0,.tup _,d=>by cases d
 |v,.aR,d=>by cases v<;>cases d
 |v,.ax _,d=>by cases v<;>cases d
 |v,.fn _,d=>by cases v<;>cases d
 |v,.aN _,d=>by cases v<;>cases d
 |v,.fd,d=>by cases v<;>cases d
theorem FW:∀{v:Nat}{E:List ab},ab.keys v E=aa->ab.cQ v E=aa
 |v,[],_=>by rw[ab.cQ]
 |v,k::E,d=>by rw[ab.keys,cd]at d;rw[ab.cQ,vI d.1,FW d.2];rfl
end
mutual
theorem GJ:∀{v:Nat}{e t:ab},ab.key v e=aa->ab.key v t=aa->ck e t=decide (e=t)
 |v,.int b,t,_,c=>by
  cases t with
  |int u=>rw[ck];by_cases a:b=u<;>simp[a]
  |str f=>simp[ck]
  |tup f=>simp[ck]
  |_=>cases v<;>cases c
 |v,.str b,t,_,c=>by
  cases t with
  |int u=>simp[ck]
  |str f=>rw[ck];by_cases a:b=f<;>simp[a]
  |tup f=>simp[ck]
  |_=>cases v<;>cases c
 |v+1,.tup E,t,g,c=>by
  cases t with
  |int u=>simp[ck]
  |str f=>simp[ck]
  |tup Q=>
   rw[ab.key]at g c;rw[ck,FV g c];simp
  |_=>cases c
 |0,.tup _,_,d,_=>by cases d
 |v,.aR,_,d,_=>by cases v<;>cases d
 |v,.ax _,_,d,_=>by cases v<;>cases d
 |v,.fn _,_,d,_=>by cases v<;>cases d
 |v,.aN _,_,d,_=>by cases v<;>cases d
 |v,.fd,_,d,_=>by cases v<;>cases d
theorem FV:∀{v:Nat}{e t:List ab},ab.keys v e=aa->ab.keys v t=aa->e2 e t=decide (e=t)
 |v,[],t,_,_=>by cases t<;>simp[e2]
 |v,k::E,[],_,_=>by simp[e2]
 |v,k::E,a::Q,b,c=>by
  rw[ab.keys,cd]at b c;rw[e2,GJ b.1 c.1,FV b.2 c.2];by_cases l:k=a<;>by_cases C:E=Q<;>simp[l,C]
end
theorem uU:∀(v:Nat) {O:bp}{SM:ae->ak->Prop}{j:ak}{k:ab}{s:ae}{A:Bool->ak->Prop},ab.key v k=aa->dR j.heap k s->A aa j->wpAny (aM SR D) O (eqIsQuiet v s) A SM j
 |v,O,SM,j,.int b,s,A,_,c,d=>by
  obtain⟨B,rfl⟩:=c;rw[AL v rfl];exact aJ d
 |v,O,SM,j,.str b,s,A,_,c,d=>by
  obtain⟨B,rfl⟩:=c;rw[AL v rfl];exact aJ d
 |v+1,O,SM,j,.tup E,s,A,o,c,d=>by
  obtain⟨g,m,S_,i,rfl,h,q,hd,SJ⟩:=c;have n:j.TypeIs (.ref g) "tuple" := ⟨m,h,q⟩;unfold eqIsQuiet;refine ao (qg n F.slot_tuple_eq.lookup ?_);show wpAny _ _ (yG (.ref g) (.type "tuple") >>= _) _ _ j;refine ao (p7 n isSubtype_tuple_tuple ?_);simp only[pU,g7,fF];refine ao (ib h hd ?_);refine ao ?_;show wpAny _ _ (forIn S_ _ _) _ _ j;rw[<-tA];rw[ab.key]at o;refine ou _ (λcf r SN=>r.1=X/\SN=j/\∃left,ab.keys v left=aa/\dw j.heap left cf) _ ?_ ?_ _ _ ⟨rfl,rfl,E,o,SJ⟩
  ·rintro s cf r SN ⟨e,rfl,left,f,p⟩;cases left with
   |nil=>cases (show s::cf=[] from p)
   |cons k left=>
    obtain⟨u,TG,a,l,t⟩:=p;cases a;rw[ab.keys,cd]at f;refine ao (uU v f.1 l ?_);simp only[pU,g7,fF];exact aJ ⟨rfl,rfl,left,f.2,t⟩
  ·rintro⟨w,x⟩ SN ⟨e,rfl,Y⟩;simp only at e;subst e;exact aJ d
 |_,_,_,_,.aR,_,_,o,_,_=>by cases ‹Nat›<;>cases o
 |_,_,_,_,.ax _,_,_,o,_,_=>by cases ‹Nat›<;>cases o
 |_,_,_,_,.fn _,_,_,o,_,_=>by cases ‹Nat›<;>cases o
 |_,_,_,_,.aN _,_,_,o,_,_=>by cases ‹Nat›<;>cases o
 |_,_,_,_,.fd,_,_,o,_,_=>by cases ‹Nat›<;>cases o
 |0,_,_,_,.tup _,_,_,o,_,_=>by cases o
def eb(SR:bw)(D:a9):HeapKind SR D (List ab) where
 is:=λd E g=>ab.keys 7 E=aa/\dR d (.tup E) (.ref g)
 hash:=λE=>dk D (.tup E)
 draws:=λE=>tx (.tup E)
 room:=λO=>O.units+10<bP
 inj:=λa b=>by
  have:=GX 8 (e:=.tup _) (t:=.tup _) a.1 b.1 a.2 b.2;injection this
 keeps:=λ{d U o g k m Q Td} e n hd SX=>⟨e.1,e.2.keep λc I S_ v h r l=>by
  have q:c≠k:=by
   rintro rfl;rw[n]at h;cases h;rw[hd]at l;cases l
  exact (SX.2 c q).trans h⟩
 pyHash:=λi f d=>BJ 8 (k:=.tup _) f.1 (show _<_ by have:_+10<bP:=i;lia) f.2 d
 eqBool:=λ{O SM j e t g c A} i a b d=>by
  have p:=i3 (j:=j) 8 (O:=O) (e:=.tup e) (t:=.tup t) (vI (v:=8) (k:=.tup e) a.1) (vI (v:=8) (k:=.tup t) b.1) (show _<_ by have:O.units+10<bP:=i;lia) a.2 b.2;rw[GJ (v:=8) (e:=.tup e) (t:=.tup t) a.1 b.1]at p;exact p _ _ SM A (by simpa using d)
 quiet:=λf d=>uU 8 (k:=.tup _) f.1 f.2 d
end
abbrev d_:=Sum Int ay
noncomputable def oU:d_->ae->Bool
 |.inl o,s=>ae.isInt o s
 |.inr e,s=>ae.isStrOf e s
noncomputable def PY(D:a9):d_->Int
 |.inl o=>hashInt o
 |.inr e=>hashStr D e
theorem kP:∀{o:d_}{s:ae},oU o s=aa->(∃b B,o=Sum.inl b/\s=ae.int b B)\/(∃e B,o=Sum.inr e/\s=ae.str e B)
 |.inl b,s,d=>by
  obtain⟨B,a⟩:=ae.isInt_shape (k:=b) (v:=s) d;exact .inl ⟨b,B,rfl,a⟩
 |.inr e,s,d=>by
  obtain⟨B,a⟩:=ae.isStrOf_shape (x:=e) (v:=s) d;exact .inr ⟨e,B,rfl,a⟩
theorem PE(b:Int)(B:gR):oU (.inl b) (.int b B)=aa:=by simp[oU,ae.isInt]
theorem O8(e:ay)(B:gR):oU (.inr e) (.str e B)=aa:=by simp[oU,ae.isStrOf]
theorem Rx(g c:Int):decide ((Sum.inl g:d_)=Sum.inl c)=(g==c):=by
 by_cases a:g=c
 ·subst a;simp
 ·have d:¬ (Sum.inl g:d_)=Sum.inl c:=λp=>a (Sum.inl.inj p);rw[dA d];exact (vC.mpr a).symm
theorem OM(g c:ay):decide ((Sum.inr g:d_)=Sum.inr c)=decide (g=c):=by
 by_cases a:g=c
 ·subst a;simp
 ·have d:¬ (Sum.inr g:d_)=Sum.inr c:=λp=>a (Sum.inr.inj p);rw[dA d,dA a]
theorem Hl(g:Int)(c:ay):decide ((Sum.inl g:d_)=Sum.inr c)=al:=dA (λp=>nomatch p)
theorem R5(g:ay)(c:Int):decide ((Sum.inr g:d_)=Sum.inl c)=al:=dA (λp=>nomatch p)
def lN(SR:bw)(D:a9):PySem.KeyKind SR D d_ where
 is:=oU
 hash:=PY D
 inj:=λs g c j i=>by
  rcases kP j with ⟨b,B,rfl,rfl⟩|⟨e,B,rfl,rfl⟩
  ·rcases kP i with ⟨u,I,rfl,a⟩|⟨t,I,rfl,a⟩
   ·injection a with f _;rw[f]
   ·exact nomatch a
  ·rcases kP i with ⟨u,I,rfl,a⟩|⟨t,I,rfl,a⟩
   ·exact nomatch a
   ·injection a with f _;rw[f]
 byValue:=λo s d=>by
  rcases kP d with ⟨b,B,rfl,rfl⟩|⟨e,B,rfl,rfl⟩<;>rfl
 pyHash:=λh d=>by
  rcases kP h with ⟨b,B,rfl,rfl⟩|⟨e,B,rfl,rfl⟩
  ·exact EC d
  ·exact D6 d
 eqBool:=λk h d=>by
  rcases kP k with ⟨b,B,rfl,rfl⟩|⟨e,B,rfl,rfl⟩
  ·rcases kP h with ⟨u,I,rfl,rfl⟩|⟨t,I,rfl,rfl⟩
   ·rw[Rx]at d;exact wpAny_eqBool_int d
   ·rw[Hl]at d;exact G_ b B t I _ _ _ _ d
  ·rcases kP h with ⟨u,I,rfl,rfl⟩|⟨t,I,rfl,rfl⟩
   ·rw[R5]at d;exact Gf e B u I _ _ _ _ d
   ·rw[OM]at d;exact wpAny_eqBool_str d
 «strs»:=λo e B s d=>by
  rcases kP d with ⟨b,I,rfl,a⟩|⟨t,I,rfl,a⟩
  ·exact nomatch a
  ·injection a with f _;subst f;cases s<;>rfl
theorem Js(SR:bw)(D:a9)(b:Int)(B:gR):(lN SR D).is (.inl b) (.int b B)=aa:=PE b B
theorem Py(SR:bw)(D:a9)(e:ay)(B:gR):(lN SR D).is (.inr e) (.str e B)=aa:=O8 e B
inductive as where
 | aR|ax (c:Bool)|int (b:Int)|str (e:ay)|qq (c:Array UInt8)|yl (c:UInt64)|ref (g:ai)|ty (v:String)
 deriving DecidableEq
variable{T x:List as}{t s:as}
def bZ:as->ae->Prop
 |.aR,I=>I=ae.none
 |.ax c,I=>I=ae.bool c
 |.int b,I=>∃B,I=ae.int b B
 |.str e,I=>∃B,I=ae.str e B
 |.qq c,I=>∃B,I=ae.bytes c B
 |.yl c,I=>∃B,I=ae.float c B
 |.ref g,I=>I=ae.ref g
 |.ty v,I=>I=ae.type v
abbrev bK:List as->List ae->Prop:=dX bZ
theorem bK.length(r:bK x S7):x.length=S7.length:=dX.length r
theorem bK.get:∀{x:List as}{S7:List ae}{b:Nat}{e:as},bK x S7->x[b]?=Z e->∃I,S7[b]?=Z I/\bZ e I
 |_,_,_,_,.nil,a=>by simp at a
 |_,_,0,_,.cons r _,a=>by simp at a;subst a;exact⟨_,rfl,r⟩
 |_,_,b+1,e,.cons _ B,a=>by
  obtain⟨I,l,C⟩:=bK.get (b:=b) (e:=e) B (by simpa using a);exact⟨I,by simpa using l,C⟩
theorem bK.set{e:as}{I:ae}(r:bZ e I):∀{x:List as}{S7:List ae} (b:Nat),bK x S7->bK (x.set b e) (S7.set b I)
 |_,_,_,.nil=>.nil
 |_,_,0,.cons _ B=>.cons r B
 |_,_,b+1,.cons p B=>.cons p (bK.set r b B)
theorem bK.append:∀{x S2:List as}{S7 a:List ae},bK x S7->bK S2 a->bK (x++S2) (S7++a)
 |_,_,_,_,.nil,j=>j
 |_,_,_,_,.cons r B,j=>.cons r (bK.append B j)
theorem bK.take:∀{x:List as}{S7:List ae} (v:Nat),bK x S7->bK (x.take v) (S7.take v)
 |_,_,0,_=>.nil
 |_,_,_+1,.nil=>.nil
 |_,_,v+1,.cons r B=>.cons r (bK.take v B)
theorem bK.drop:∀{x:List as}{S7:List ae} (v:Nat),bK x S7->bK (x.drop v) (S7.drop v)
 |_,_,0,r=>r
 |_,_,_+1,.nil=>.nil
 |_,_,v+1,.cons _ B=>bK.drop v B
def kt:Option as->Option ae->Prop
 |some s,Z I=>bZ s I
 |none,X=>True
 |_,_=>False
def fQ{F:Type}:List (F×as)->List (F×ae)->Prop:=dX λ(n:F×as) (p:F×ae)=>n.1=p.1/\bZ n.2 p.2
noncomputable def ct:d_->as
 |.inl b=>.int b
 |.inr e=>.str e
inductive fM where
 | lst (x:List as)
 | tup (x:List as)
 | dm (M:List (d_×as))|aL (M:List (List ab×as))
 | set (S0:Int->Bool) (v:Nat)
 | ins (az z:ai) (aA:List (ay×as))
 | own (e:ai)
 | uF (aA:List (ay×as))
 | met (P e:ai)
 | jN (S SJ:Int)
 | de (m:a0) (I:fM)
 | lS (SO:Array ae)
 | ext (Sn:aT->Prop)
variable{m:fM}
abbrev au:=ai->Option fM
variable{R h:au}
noncomputable def upd(h:au)(g:ai)(m:fM):au:=λc=>if c=g then Z m else h c
theorem ec:upd h g m g=Z m:=by unfold upd;rw[aB rfl]
theorem cB(d:c≠g):upd h g m c=h c:=by unfold upd;rw[aG d]
theorem EY{I:fM}(d:h g=Z m)(U:h c=Z I)(k:m≠I):g≠c:=by
 intro a;subst a;rw[d]at U;exact k (Option.some.inj U)
theorem hh(d:h g=Z m)(U:h c=X):g≠c:=by
 intro a;subst a;rw[d]at U;cases U
mutual
def cq(h:au):ab->as->Prop
 |.aR,s=>s=.aR
 |.ax c,s=>s=.ax c
 |.int b,s=>s=.int b
 |.str e,s=>s=.str e
 |.fn g,s=>s=.ref g
 |.aN E,s=>∃g x m,s=.ref g/\h g=Z (.de m<|.lst x)/\bu h E x
 |.fd,s=>∃g m,s=.ref g/\h g=Z (.de m<|.aL [])
 |.tup E,s=>∃g x,s=.ref g/\h g=Z (.tup x)/\bu h E x
def bu(h:au):List ab->List as->Prop
 |[],T=>T=[]
 |k::E,T=>∃s r,T=s::r/\cq h k s/\bu h E r
end
def rP(h R:au):Prop:=∀g x,h g=Z (.tup x)->R g=Z (.tup x)
structure pl(h R:au):Prop where
 t:rP h R
 z:∀g m I,h g=Z (.de m I)->R g=Z (.de m I)
noncomputable instance {h R:au}:CoeFun (pl h R) (λ_=>∀g x,h g=Z (.tup x)->R g=Z (.tup x)):=⟨λB=>B.t⟩
mutual
theorem cq.mono{h R:au}(o:pl h R):∀{k:ab}{s:as},cq h k s->cq R k s
 |.aR,_,a=>a
 |.ax _,_,a=>a
 |.int _,_,a=>a
 |.str _,_,a=>a
 |.fn _,_,a=>a
 |.tup E,_,a=>by
  obtain⟨g,x,rfl,l,C⟩:=a;exact⟨g,x,rfl,o.t g x l,bu.mono o C⟩
 |.aN E,_,a=>by
  obtain⟨g,x,m,rfl,l,C⟩:=a;exact⟨g,x,m,rfl,o.z g _ _ l,bu.mono o C⟩
 |.fd,_,a=>by
  obtain⟨g,m,rfl,l⟩:=a;exact⟨g,m,rfl,o.z g _ _ l⟩
theorem bu.mono{h R:au}(o:pl h R):∀{E:List ab}{T:List as},bu h E T->bu R E T
 |[],_,a=>a
 |k::E,_,a=>by
  obtain⟨s,r,rfl,l,C⟩:=a;exact⟨s,r,rfl,cq.mono o l,bu.mono o C⟩
end
def hB(h:au)(o:List ab)(c:ai):Prop:=ab.keys 7 o=aa/\cq h (.tup o) (.ref c)
mutual
theorem cq.qf{h R:au}(o:rP h R):∀{k:ab}{v:Nat}{s:as},ab.key v k=aa->cq h k s->cq R k s
 |.aR,_,_,_,a=>a
 |.ax _,_,_,_,a=>a
 |.int _,_,_,_,a=>a
 |.str _,_,_,_,a=>a
 |.fn _,_,_,_,a=>a
 |.tup E,v+1,_,p,a=>by
  obtain⟨g,x,rfl,l,C⟩:=a;exact⟨g,x,rfl,o g x l,bu.qf o p C⟩
 |.tup E,0,_,p,a=>nomatch p
 |.aN E,0,_,p,a=>nomatch p
 |.aN E,v+1,_,p,a=>nomatch p
 |.fd,0,_,p,a=>nomatch p
 |.fd,v+1,_,p,a=>nomatch p
theorem bu.qf{h R:au}(o:rP h R):∀{E:List ab}{v:Nat}{T:List as},ab.keys v E=aa->bu h E T->bu R E T
 |[],_,_,_,a=>a
 |k::E,v,_,p,a=>by
  obtain⟨s,r,rfl,l,C⟩:=a;rw[ab.keys,cd]at p;exact⟨s,r,rfl,cq.qf o p.1 l,bu.qf o p.2 C⟩
end
theorem hB.mono{o:List ab}(d:hB h o c)(B:rP h R):hB R o c:=by
 obtain⟨TN,g,x,a,l,C⟩:=d;exact⟨TN,g,x,a,B g x l,C.qf B TN⟩
def lL(d:aT)(g:ai)(S_:Array ae):Prop:=∃m,d.get? g=Z m/\(m.cls,m.dict)=(.type "tuple",X)/\∃v,m.data=.seq S_ v
theorem lL.tup{S_:Array ae}(e:lL d g S_):lp d g S_:=let ⟨m,a,q,r⟩:=e;⟨m,a,(Prod.mk.inj q).1,r⟩
theorem lL.new(d:aT)(S_:Array ae):lL (d.push {cls:=.type "tuple",data:=.seq S_}) d.objs.size S_:=⟨_,da _ rfl,rfl,_,rfl⟩
section
variable(SS:bw)(D:a9)
def eU(h:au)(d:aT)(g:ai):fM->Prop
 |.lst x=>x.length<=sizeLine/\∃(SZ:List ae) (v:Nat),bK x SZ/\d.get? g=Z {cls:=.type "list",data:=.seq SZ.toArray v}
 |.tup x=>x.length<=sizeLine/\∃SZ:List ae,bK x SZ/\lL d g SZ.toArray
 |.dm M=>M.length<=sizeLine/\(g==ie)=al/\∃T,fQ M T/\d.DictOf (lN SS D) g T
 |.aL M=>M.length<=sizeLine/\(g==ie)=al/\∃x:List (List ab×ai×ae),
   dX (λ(n:List ab×as) (p:List ab×ai×ae)=>n.1=p.1/\hB h n.1 p.2.1/\bZ n.2 p.2.2) M x/\
   ∃m Q Td,d.get? g=Z m/\m.ExactDict/\m.data=.dict Q Td/\Q.toList=x.map (entryOfKey<|eb SS D)/\(x.map (·.1)).Nodup
 |.set S0 v=>d.SetOf (intKind SS D) g S0 v
 |.ins az z aA=>h z=Z (.own g)/\aA.length<=1000/\z≠g/\d.get? g=Z (PySem.W.instObj az z)/\
   ∃L,d.Ns1 z L/\(∀P,kt (aA.lookup P)<|L P)/\PySem.Within L (aA.map (·.1))
 |.own _=>∃m,d.get? g=Z m
 |.uF aA=>∃L,d.Ns1 g L/\∀P,kt (aA.lookup P) (L P)
 |.jN S SJ=>∃B I s,d.get? g=Z {cls:=.type "range",data:=.fields #[.int S B,.int SJ I,.int 1 s]}
 |.de m I=>d.get? g=Z m/\eU h d g I
 |.lS SO=>d.get? g=Z {cls:=.none,data:=.fields SO}
 |.met P e=>d.get? g=Z (PySem.W.methodObj (.ref P)<|.ref e)
 |.ext a=>a d/\(∃m,d.get? g=Z m)/\∀l C:aT,a l->(∀m,l.get? g=Z m->C.get? g=Z m)->a C
def c_(h:au)(d:aT):Prop:=∀g m,h g=Z m->eU SS D h d g m
end
section
variable{SS:bw}{D:a9}{h R:au}{d U:aT}{g:ai}{m:fM}
theorem eU.lt(e:eU SS D h d g m):g<d.objs.size:=by
 cases m with
 |lst x=>obtain⟨Y,Y,Y,Y,a⟩:=e;exact bX a
 |tup x=>obtain⟨Y,Y,Y,n⟩:=e;exact n.tup.lt
 |dm M=>obtain⟨Y,Y,Y,Y,m,Y,Y,a,Y⟩:=e;exact bX a
 |aL M=>obtain⟨Y,Y,Y,Y,m,Y,Y,a,Y⟩:=e;exact bX a
 |set S0 v=>obtain⟨m,Y,Y,Y,a,Y⟩:=e;exact bX a
 |ins az z aA=>obtain⟨Y,Y,Y,a,Y⟩:=e;exact bX a
 |own t=>obtain⟨Y,a⟩:=e;exact bX a
 |uF aA=>obtain⟨Y,⟨Y,Y,Y,a,Y⟩,Y⟩:=e;exact bX a
 |jN S SJ=>obtain⟨Y,Y,Y,a⟩:=e;exact bX a
 |de b I=>obtain⟨a,Y⟩:=e;exact bX a
 |lS SO=>exact bX (show d.get? g=Z _ from e)
 |met P t=>exact bX (show d.get? g=Z _ from e)
 |ext c=>obtain⟨Y,⟨Y,a⟩,Y⟩:=e;exact bX a
theorem dX.sD{Ta z:Type}{N SV:Ta->z->Prop}:∀{a:List Ta}{b:List z},dX N a b->(∀g c,N g c->SV g c)->dX SV a b
 |_,_,.nil,_=>.nil
 |_,_,.cons r B,P=>.cons (P _ _ r) (dX.sD B P)
theorem eU.gl(e:eU SS D h d g m)(o:∀c I,(c=g\/h c=Z (.own g))->d.get? c=Z I->U.get? c=Z I)(i:∀c,h c=Z (.own g)->R c=Z (.own g))(bt:∀c x,h c=Z (.tup x)->R c=Z (.tup x)):eU SS D R U g m:=by
 induction m with
 |lst x=>obtain⟨b,SZ,v,r,a⟩:=e;exact⟨b,SZ,v,r,o _ _ (.inl rfl) a⟩
 |tup x=>obtain⟨b,SZ,r,f,a,q⟩:=e;exact⟨b,SZ,r,f,o _ _ (.inl rfl) a,q⟩
 |dm M=>obtain⟨b,t,T,r,f,Q,Td,a,q⟩:=e;exact⟨b,t,T,r,f,Q,Td,o _ _ (.inl rfl) a,q⟩
 |aL M=>
  obtain⟨b,t,x,r,f,Q,Td,a,q⟩:=e;exact⟨b,t,x,dX.sD r λn p b=>⟨b.1,b.2.1.mono bt,b.2.2⟩,f,Q,Td,o _ _ (.inl rfl) a,q⟩
 |set S0 v=>obtain⟨f,Q,Td,B,a,q⟩:=e;exact⟨f,Q,Td,B,o _ _ (.inl rfl) a,q⟩
 |ins az z aA=>
  obtain⟨k,b,ne,a,L,⟨l,Q,Td,j,q⟩,r⟩:=e;exact⟨i _ k,b,ne,o _ _ (.inl rfl) a,L,⟨l,Q,Td,o _ _ (.inr k) j,q⟩,r⟩
 |own t=>obtain⟨f,a⟩:=e;exact⟨f,o _ _ (.inl rfl) a⟩
 |uF aA=>obtain⟨L,⟨l,Q,Td,a,q⟩,r⟩:=e;exact⟨L,⟨l,Q,Td,o _ _ (.inl rfl) a,q⟩,r⟩
 |jN S SJ=>obtain⟨B,I,s,a⟩:=e;exact⟨B,I,s,o _ _ (.inl rfl) a⟩
 |de f I u=>obtain⟨a,p⟩:=e;exact⟨o _ _ (.inl rfl) a,u p⟩
 |lS SO=>
  have a:d.get? g=Z {cls:=.none,data:=.fields SO}:=e;show U.get? g=Z {cls:=.none,data:=.fields SO};exact o g _ (.inl rfl) a
 |met P t=>
  have a:d.get? g=Z (PySem.W.methodObj (.ref P)<|.ref t):=e;show U.get? g=Z (PySem.W.methodObj (.ref P)<|.ref t);exact o g _ (.inl rfl) a
 |ext w=>obtain⟨n,⟨m,a⟩,st⟩:=e;exact⟨st _ _ n λm p=>o _ _ (.inl rfl) p,⟨m,o _ _ (.inl rfl) a⟩,st⟩
theorem c_.lt(e:c_ SS D h d)(a:h g=Z m):g<d.objs.size:=(e g m a).lt
theorem c_.fresh(e:c_ SS D h d)(a:d.objs.size<=g):h g=X:=by
 cases p:h g with
 |none=>rfl
 |some I=>exact absurd (fs (e.lt p) a) (kg _)
theorem c_.kept(e:c_ SS D h d)(o:∀c I,d.get? c=Z I->U.get? c=Z I):c_ SS D h U:=λg m a=>
 (e g m a).gl (λc I Y p=>o c I p) (λ_ p=>p) λ_ Y p=>p
theorem c_.laid(e:c_ SS D h d)(o:∀c I,d.get? c=Z I->U.get? c=Z I)(i:d.objs.size<=g)(new:eU SS D (upd h g m) U g m):c_ SS D (upd h g m) U:=λc I a=>by
 have b:=e.fresh i;by_cases f:c=g
 ·subst f;rw[ec]at a;cases a;exact new
 ·rw[cB f]at a;exact (e c I a).gl (λq s Y p=>o q s p) (λq p=>by rw[cB (hh p b)];exact p) λq x p=>by rw[cB (hh p b)];exact p
end
def j1(h:au)(g:ai)(I:fM):Prop:=h g=Z I\/∃m,h g=Z (.de m I)
theorem j1.ok{I:fM}(r:j1 h g I)(e:c_ SS D h d):eU SS D h d g I:=by
 rcases r with r|⟨m,r⟩
 ·exact e g I r
 ·obtain⟨Y,p⟩:=e g _ r;exact p
def q5:Option fM->Prop
 |some (.lst _)=>True
 |some (.dm _)=>True
 |some (.aL _)=>True
 |some (.set _ _)=>True
 |some (.ins _ _ _)=>True
 |some (.ext _)=>True
 |_=>False
section
variable{SS:bw}{D:a9}{h:au}{d U:aT}{e a:ai}{Tq:fM}
theorem c_.write(ok:c_ SS D h d)(b:q5 (h e))(j:a=e\/h a=Z (.own e))(o:∀c I,c≠a->d.get? c=Z I->U.get? c=Z I)(m:∃I,U.get? a=Z I)(new:eU SS D (upd h e Tq) U e Tq):c_ SS D (upd h e Tq) U:=λc I p=>by
 have k:∀q t,h q=Z (.own t)->q≠e:=λq t r z=>by subst z;rw[r]at b;exact b
 have n:∀q x,h q=Z (.tup x)->q≠e:=λq x r z=>by subst z;rw[r]at b;exact b
 by_cases f:c=e
 ·subst f;rw[ec]at p;cases p;exact new
 ·rw[cB f]at p;by_cases g:c=a
  ·have l:h c=Z (.own e):=by
    rcases j with z|z
    ·exact absurd (g.trans z) f
    ·rw[g];exact z
   rw[p]at l;cases l;obtain⟨s,u⟩:=m;exact⟨s,by rw[g];exact u⟩
  ·refine (ok c I p).gl (λq s i r=>o q s ?_ r) (λq r=>by rw[cB (k q c r)];exact r) λq x r=>by rw[cB (n q x r)];exact r
   rcases i with rfl|i
   ·exact g
   ·rintro rfl;rcases j with z|z
    ·exact k q c i z
    ·rw[i]at z;cases z;exact f rfl
end
structure dz(aA Tz:List ai)(h R:au)(d U:aT):Prop where
 keep:∀c m,d.get? c=Z m->h c=X->c∉aA->c∉Tz->U.get? c=Z m
 slot:∀c m,d.get? c=Z m->h c=X->c∈aA->c∉Tz->∃aW,U.get? c=Z {m with slots:=aW}
 free:∀c m,d.get? c=Z m->h c=X->c∉Tz->R c=X
 there:∀c m,d.get? c=Z m->c∉Tz->∃Tq,U.get? c=Z Tq
 hR:∀c x,h c=Z (.tup x)->R c=Z (.tup x)
 hM:∀c m I,h c=Z (.de m I)->R c=Z (.de m I)
 iz:∀c SO,h c=Z (.lS SO)->∃more,R c=Z (.lS<|SO++more)
section
variable{aA i Tz f:List ai}{h SU S5:au}{d l C U:aT}{g e a:ai}{m:fM}
theorem dz.any(I:dz aA Tz h SU d l){c:ai}{a:a0}(p:d.get? c=Z a)(v:h c=X)(b:c∉Tz):∃aW,l.get? c=Z {a with slots:=aW}:=by
 by_cases e:c∈aA
 ·exact I.slot c a p v e b
 ·exact⟨a.slots,I.keep c a p v e b⟩
theorem dz.kept(o:∀c I,d.get? c=Z I->U.get? c=Z I):dz aA Tz h h d U:=
 ⟨λc a p Y Y Y=>o c a p,λc a p Y Y Y=>⟨a.slots,o c a p⟩,λ_ Y Y v Y=>v,λc a p Y=>⟨a,o c a p⟩,λ_ Y p=>p,λ_ Y Y p=>p,λ_ SO p=>⟨#[],by rw[p];simp⟩⟩
theorem dz.refl:dz aA Tz h h d d:=dz.kept λ_ Y p=>p
theorem dz.laid(o:∀c I,d.get? c=Z I->U.get? c=Z I)(b:d.objs.size<=g)(a:h g=X):dz aA Tz h (upd h g m) d U where
 keep:=λc I p Y Y Y=>o c I p
 slot:=λc I p Y Y Y=>⟨I.slots,o c I p⟩
 free:=λc I p v Y=>by rw[cB (cT<|fs (bX p) b)];exact v
 there:=λc I p Y=>⟨I,o c I p⟩
 hR:=λc x p=>by rw[cB (hh p a)];exact p
 hM:=λc I x p=>by rw[cB (hh p a)];exact p
 iz:=λc SO p=>⟨#[],by rw[cB (hh p a),p];simp⟩
theorem dz.write(f:q5 (h e))(n:a=e\/h a=Z (.own e))(o:∀c I,c≠a->d.get? c=Z I->U.get? c=Z I)(q:∃I,U.get? a=Z I):dz aA Tz h (upd h e m) d U:=by
 have i:∀c,h c=X->c≠e:=λc v b=>by subst b;rw[v]at f;exact f
 have j:∀c,h c=X->c≠a:=λc v b=>by
  subst b;rcases n with r|r
  ·exact i c v r
  ·rw[v]at r;cases r
 have g:∀c I,h c=Z I->¬ q5 (Z I)->c≠e:=λc I p k b=>by subst b;rw[p]at f;exact k f
 refine⟨λc I p v Y Y=>o c I (j c v) p,λc I p v Y Y=>⟨I.slots,o c I (j c v) p⟩,λc I p v Y=>by rw[cB (i c v)];exact v,λc I p Y=>?_,
  λc x p=>by rw[cB (g c _ p λb=>b)];exact p,λc I x p=>by rw[cB (g c _ p λb=>b)];exact p,λc SO p=>⟨#[],by rw[cB (g c _ p λb=>b),p];simp⟩⟩;by_cases l:c=a
 ·subst l;exact q
 ·exact⟨I,o c I l p⟩
theorem dz.mono(I:dz aA Tz h SU d l)(SX:∀c∈aA,c∈i)(g:∀c∈Tz,c∈f):dz i f h SU d l:=
 ⟨λc e p v j b=>I.keep c e p v (λa=>j<|SX c a) λa=>b<|g c a,λ_ Y p v Y b=>I.any p v λa=>b<|g _ a,λc e p v b=>I.free c e p v λa=>b<|g c a,λc e p b=>I.there c e p λa=>b<|g c a,I.hR,I.hM,I.iz⟩
end
noncomputable def uc(d:aT)(h:au):List ai:=(range d.objs.size).filter λg=>(h g).isSome
def lc(d:aT)(h:au):aT:=PySem.W.hideAll d (uc d h)
theorem KX(d:aT)(h:au):(lc d h).objs.size=d.objs.size:=PySem.W.hideAll_size _ _
theorem Km{m:a0}(a:d.get? c=Z m)(v:h c=X):(lc d h).get? c=Z m:=
 rH _ a λb=>by
  have p:(h c).isSome=aa:=(ge.mp b).2;rw[v]at p;simp at p
theorem Jy{m:a0}(a:(lc d h).get? c=Z m):d.get? c=Z m/\h c=X:=by
 have b:d.get? c=Z m:=ux (uc d h) a;refine⟨b,?_⟩;cases p:h c with
 |none=>rfl
 |some e=>
  have f:c∈uc d h:=ge.mpr ⟨f2.mpr<|bX b,by simp[p]⟩;have g:(lc d h).get? c=X:=nT (uc d h) f;rw[g]at a;cases a
noncomputable def KA(J d:aT)(Tw:ai):List (ai×a0):=(range d.objs.size).filterMap λg=>if g=Tw\/(J.get? g).isSome=aa then X else (d.get? g).map λm=>(g,m)
def cf(J d:aT)(Tw k:ai):List (ai×a0):=(KA J d Tw).filter λn=>decide (n.1≠k)
structure Mod(SK:PySem.W.Frag)(aw:ay->Option ae)(SW:aT):Prop where
 pn:SK.In SW
 glob:SW.Ns du aw
 blt:∃Cu,SW.Ns w3 Cu/\∀e:ay,e ≠ "__name__" -> Cu e=eE e
 nolimit:SW.NoLimit
structure aH where
 prog:bw
 w:a9
 K:PySem.W.Frag
 aw:ay->Option ae
 base:aT
 A:bp
 N:List ay
 ea:ak
 oz:au
 env:dP
 outer:List dP
 stack:List dP
 ex:List ai
 fn:ay->Bool
 calm:Bool
 gt:List (ai×a0)
 ce:ae->ak->Prop
variable{f:aH}
noncomputable def ds(H:List dP):List ai:=H.filterMap (·.frame)
abbrev aH.aA(f:aH):List ai:=ds f.outer
def tb(B:gs)(e:ay):Prop:=B.names.lookup e=Z .local\/B.names.lookup e=Z .cell\/B.names.lookup e=Z .free
def Loc(B:gs)(e:ay):Prop:=B.names.lookup e=Z .local\/B.names.lookup e=Z .cell
def Pb(SL:dP)(d:aT)(i:ay->Option ae)(e:ay)(I:ae):Prop:=
 (SL.kindOf e=Z .local/\i e=Z I)\/((SL.kindOf e=Z .cell\/SL.kindOf e=Z .free)/\∃q,SL.cells.lookup e=Z q/\d.IsCell q (Z I))
structure aH.Ok(f:aH):Prop where
 mod:Mod f.K f.aw f.base
 kind:f.env.scope.kind=.function
 glob:f.env.globals=du
 blt:f.env.builtins=w3
 above:f.ea.heap.objs.size<=f.env.locals
 inj:∀e t q,f.env.cells.lookup e=Z q->f.env.cells.lookup t=Z q->e=t
 has:∀e,(f.env.kindOf e=Z .cell\/f.env.kindOf e=Z .free)->∃q,f.env.cells.lookup e=Z q
 jX:∀e q,f.fn e=aa->f.env.cells.lookup e=Z q->f.ea.heap.objs.size<=q
 hd:f.calm=aa->f.A.handled=X
 frames:f.A.frames=Z f.stack
 kZ:f.stack=f.outer\/(f.stack=f.env::f.outer/\f.env.frame=Z f.env.locals)
 mQ:∀c∈f.ex,c≠f.env.locals/\∀e q,f.env.cells.lookup e=Z q->q≠c
 bs:∀c m,f.base.get? c=Z m->f.ea.heap.get? c=Z m/\f.oz c=X
 ii:f.base.objs.size<=f.ea.heap.objs.size
 kd:∀c m,f.base.get? c=Z m->c∉f.ex
 jU:∀c∈f.ex,c∉f.aA
 f9:f.ea.heap.FunFrames f.base f.outer
 jG:∀c∈f.aA,f.oz c=X
structure Inv(f:aH)(G:List (ai×a0))(y:List (Option as))(h:au)(j:ak):Prop where
 ok:f.Ok
 os:j.os=f.ea.os
 bare:j0 j.gens
 base:dz f.aA f.ex f.oz h f.ea.heap j.heap
 loc:∃i,j.heap.Ns f.env.locals i/\∀(b:Nat) (e:ay) (s:as),f.N[b]?=Z e->y[b]?=Z (Z s)->tb f.env.scope e->∃I,bZ s I/\Pb f.env j.heap i e I
 cell:∀e q,f.env.cells.lookup e=Z q->∃s,j.heap.IsCell q s
 free:h f.env.locals=X
 gh:∀e q,f.env.cells.lookup e=Z q->h q=X
 pin:∀n∈f.gt++G,j.heap.get? n.1=Z n.2/\h n.1=X/\n.1≠f.env.locals/\n.1∉f.aA/\∀s,n.2.data≠.cell s
 aV:c_ f.prog f.w h j.heap
 len:y.length=f.N.length
section
variable{f:aH}{G:List (ai×a0)}{y:List (Option as)}{h R:au}{j:ak}{U:aT}
theorem aH.Ok.KV(ok:f.Ok){c:ai}{m:a0}(a:f.base.get? c=Z m):c∉f.aA:=λb=>by
 have:=(ok.f9.mem b).1;rw[a]at this;cases this
theorem Inv.bs(Y:Inv f G y h j):∀c m,f.base.get? c=Z m->j.heap.get? c=Z m/\h c=X:=λc m a=>
 ⟨Y.base.keep c m (Y.ok.bs c m a).1 (Y.ok.bs c m a).2 (Y.ok.KV a) (Y.ok.kd c m a),Y.base.free c m (Y.ok.bs c m a).1 (Y.ok.bs c m a).2 (Y.ok.kd c m a)⟩
theorem Inv.cK(Y:Inv f G y h j):∀c m,f.base.get? c=Z m->j.heap.get? c=Z m:=λc m a=>(Y.bs c m a).1
theorem Inv.mod(Y:Inv f G y h j):Mod f.K f.aw f.base:=Y.ok.mod
theorem Inv.kp(Y:Inv f G y h j):f.K.In j.heap:=Y.ok.mod.pn.keeps Y.cK
theorem Inv.lt(Y:Inv f G y h j):f.env.locals<j.heap.objs.size:=let ⟨_,a,_⟩:=Y.loc;a.lt
theorem Inv.iQ(Y:Inv f G y h j):f.ea.heap.objs.size<=j.heap.objs.size:=ed Y.ok.above (mh Y.lt)
theorem Inv.Rz(Y:Inv f G y h j){g:ai}(d:j.heap.objs.size<=g):g∉f.aA:=λa=>by
 obtain⟨W,m,b,W⟩:=Y.ok.f9.mem a;exact absurd (fs (bX b)<|ed Y.iQ d) (kg _)
theorem Inv.nH(Y:Inv f G y h j):∀e q,f.env.cells.lookup e=Z q->q≠f.env.locals:=λe q a c=>by
 obtain⟨s,m,b,hd⟩:=Y.cell e q a;obtain⟨i,⟨Tq,Q,Td,d,g,W⟩,W⟩:=Y.loc;rw[c,d]at b;cases b;rw[g]at hd;cases hd
theorem Inv.f9(Y:Inv f G y h j):j.heap.FunFrames f.base f.outer:=by
 have all:∀(H:List dP),(∀c∈ds H,c∈f.aA)->f.ea.heap.FunFrames f.base H->j.heap.FunFrames f.base H:=by
  intro H;induction H with
  |nil=>intro W W;trivial
  |cons SL r g=>
   intro SX i;obtain⟨k,⟨Tw,m,b,l,n,hd⟩,o⟩:=i;have d:Tw∈f.aA:=SX Tw (by unfold ds;rw[lC,b];exact kW);obtain⟨aW,a⟩:=Y.base.slot Tw m n (Y.ok.jG Tw d) d λp=>Y.ok.jU Tw p d;exact⟨k,⟨Tw,_,b,l,a,hd⟩,g (λc e=>SX c (by unfold ds;rw[lC,b];exact kx _ e)) o⟩
 exact all f.outer (λ_ e=>e) Y.ok.f9
theorem Inv.stack(Y:Inv f G y h j):j.heap.FunFrames f.base f.stack:=by
 rcases Y.ok.kZ with a|⟨a,b⟩
 ·rw[a];exact Y.f9
 ·rw[a];obtain⟨i,c,W⟩:=Y.loc;refine .cons (by rw[Y.ok.kind];decide) b c ?_ Y.f9;exact wA (ed Y.ok.ii Y.ok.above)
theorem Inv.wu(Y:Inv f G y h j):∀c∈ds f.stack,c∈f.env.locals::f.aA:=λc b=>by
 rcases Y.ok.kZ with a|⟨a,d⟩
 ·rw[a]at b;exact kx _ b
 ·rw[a]at b;unfold ds at b;rw[lC,d]at b;exact b
theorem Inv.rz(Y:Inv f G y h j):∀c∈ds f.stack,h c=X:=λc b=>by
 rcases bI.mp (Y.wu c b) with a|b
 ·rw[a];exact Y.free
 ·obtain⟨W,m,d,W⟩:=Y.ok.f9.mem b;exact Y.base.free c m d (Y.ok.jG c b) λe=>Y.ok.jU c e b
theorem Inv.step(Y:Inv f G y h j)(u:∀c∈T7,(c∈f.ex\/f.ea.heap.objs.size<=c)/\c≠f.env.locals/\(∀e q,f.env.cells.lookup e=Z q->q≠c)/\∀n∈f.gt++G,n.1≠c)(keep:∀c m,c≠f.env.locals->c∉f.aA->c∉T7->j.heap.get? c=Z m->h c=X->U.get? c=Z m)(T1:∀c m,c≠f.env.locals->c∈f.aA->c∉T7->j.heap.get? c=Z m->h c=X->∃aW,U.get? c=Z {m with slots:=aW})(C:∀c m,c∉T7->j.heap.get? c=Z m->h c=X->R c=X)(O:∀c m,c∉T7->j.heap.get? c=Z m->∃Tq,U.get? c=Z Tq)(hR:∀c x,h c=Z (.tup x)->R c=Z (.tup x))(hM:∀c m I,h c=Z (.de m I)->R c=Z (.de m I))(iz:∀c SO,h c=Z (.lS SO)->∃P,R c=Z (.lS<|SO++P))(S:∀i,j.heap.Ns f.env.locals i->U.Ns f.env.locals i)(aV:c_ f.prog f.w R U)(Q:j0 Uf):
  Inv f G y R {j with heap:=U,gens:=Uf,drawn:=TV,toks:=Tk}:=by
 have F:∀c m,f.ea.heap.get? c=Z m->c≠f.env.locals:=λc m a=>cT (fs (bX a) Y.ok.above);have E:∀c m,f.ea.heap.get? c=Z m->c∉f.ex->c∉T7:=λc m a d l=>by
  rcases (u c l).1 with z|z
  ·exact d z
  ·exact absurd (fs (bX a) z) (kg _)
 have J:∀e q,f.env.cells.lookup e=Z q->∀s,j.heap.IsCell q s->U.IsCell q s:=λe q a s ⟨m,t,hd⟩=>by
  have A:q∉T7:=λz=>(u q z).2.2.1 e q a rfl;by_cases L:q∈f.aA
  ·obtain⟨aW,p⟩:=T1 q m (Y.nH e q a) L A t (Y.gh e q a);exact⟨_,p,hd⟩
  ·exact⟨m,keep q m (Y.nH e q a) L A t<|Y.gh e q a,hd⟩
 refine⟨Y.ok,Y.os,Q,⟨λc m a v l d=>?_,λc m a v l d=>?_,λc m a v d=>?_,λc m a d=>?_,λc x a=>hR c x<|Y.base.hR c x a,λc m x a=>hM c m x<|Y.base.hM c m x a,λc SO a=>?_⟩,?_,λe q a=>?_,?_,λe q a=>?_,λn M=>?_,aV,Y.len⟩
 ·exact keep c m (F c m a) l (E c m a d) (Y.base.keep c m a v l d) (Y.base.free c m a v d)
 ·obtain⟨aW,g⟩:=Y.base.slot c m a v l d;obtain⟨T,B⟩:=T1 c _ (F c m a) l (E c m a d) g (Y.base.free c m a v d);exact⟨T,B⟩
 ·obtain⟨Tq,g⟩:=Y.base.there c m a d;exact C c Tq (E c m a d) g (Y.base.free c m a v d)
 ·obtain⟨Tq,g⟩:=Y.base.there c m a d;exact O c Tq (E c m a d) g
 ·obtain⟨be,g⟩:=Y.base.iz c SO a;obtain⟨bs,B⟩:=iz c _ g;exact⟨be++bs,by rw[B,Bw]⟩
 ·obtain⟨i,cl,co⟩:=Y.loc;refine⟨i,S i cl,λb e s g B eq=>?_⟩;obtain⟨I,r,H⟩:=co b e s g B eq;refine⟨I,r,?_⟩;rcases H with H|⟨o,q,a,z⟩
  ·exact .inl H
  ·exact .inr ⟨o,q,a,J e q a _ z⟩
 ·obtain⟨s,z⟩:=Y.cell e q a;exact⟨s,J e q a s z⟩
 ·obtain⟨i,⟨m,W,W,t,W⟩,W⟩:=Y.loc;exact C _ m (λz=>(u _ z).2.1 rfl) t Y.free
 ·obtain⟨s,m,t,hd⟩:=Y.cell e q a;exact C q m (λz=>(u q z).2.2.1 e q a rfl) t (Y.gh e q a)
 ·obtain⟨a,v,ne,N,k⟩:=Y.pin n M;have A:n.1∉T7:=λz=>(u n.1 z).2.2.2 n M rfl;exact⟨keep n.1 n.2 ne N A a v,C n.1 n.2 A a v,ne,N,k⟩
theorem Inv.un(Y:Inv f G y h j)(I:dz f.aA [] h R j.heap U)(aV:c_ f.prog f.w R U):Inv f G y R {j with heap:=U,toks:=Tk}:=by
 obtain⟨i,⟨m,Q,Td,d,r⟩,W⟩:=id Y.loc;obtain⟨aW,g⟩:=I.any d Y.free (by simp);exact Y.step (Uf:=j.gens) (TV:=j.drawn) (T7:=[]) (λ_ k=>nomatch k) (λc m W b W a v=>I.keep c m a v b (by simp)) (λc m W b W a v=>I.slot c m a v b (by simp)) (λc m W a v=>I.free c m a v (by simp)) (λc m W a=>I.there c m a (by simp)) I.hR I.hM I.iz (λp l=>by
  obtain⟨Tq,n,o,e,TG⟩:=l;rw[d]at e;cases e;exact⟨_,n,o,g,TG⟩) aV Y.bare
theorem Inv.call(Y:Inv f G y h j)(I:dz (ds f.stack) T7 h R j.heap U)(aV:c_ f.prog f.w R U)(p:j0 Uf)(k:∀c∈T7,(c∈f.ex\/f.ea.heap.objs.size<=c)/\c≠f.env.locals/\(∀e q,f.env.cells.lookup e=Z q->q≠c)/\∀n∈f.gt++G,n.1≠c):
  Inv f G y R {j with heap:=U,gens:=Uf,drawn:=TV,toks:=Tk}:=by
 obtain⟨i,⟨m,Q,Td,l,r⟩,W⟩:=id Y.loc;obtain⟨aW,d⟩:=I.any l Y.free λg=>(k _ g).2.1 rfl;exact Y.step (T7:=T7) k (λc m d s b a v=>I.keep c m a v (λg=>(bI.mp<|Y.wu c g).elim d s) b) (λc m W W b a v=>I.any a v b) (λc m b a v=>I.free c m a v b) (λc m b a=>I.there c m a b) I.hR I.hM I.iz (λz t=>by
  obtain⟨Tq,u,x,o,TG⟩:=t;rw[l]at o;cases o;exact⟨_,u,x,d,TG⟩) aV p
theorem Inv.turned(Y:Inv f G y h j)(o:∀c m,c≠SP->j.heap.get? c=Z m->U.get? c=Z m)(k:h SP=X)(d:SP≠f.env.locals)(l:SP∈f.ex\/f.ea.heap.objs.size<=SP)(C:∀e q,f.env.cells.lookup e=Z q->q≠SP)(t:∀n∈f.gt++G,n.1≠SP):Inv f G y h {j with heap:=U,toks:=Tk}:=by
 have g:∀c I,h c=Z I->c≠SP:=λc I a z=>by rw[z,k]at a;cases a
 refine Y.step (Uf:=j.gens) (TV:=j.drawn) (T7:=[SP]) (λc u=>?_) (λc m W W b a W=>o c m (λz=>b (by simp[z])) a) (λc m W W b a W=>⟨m.slots,o c m (λz=>b (by simp[z])) a⟩) (λ_ W W W v=>v)
  (λc m b a=>⟨m,o c m (λz=>b (by simp[z])) a⟩) (λ_ W a=>a) (λ_ W W a=>a) (λc SO a=>⟨#[],by rw[a];simp⟩) (λi w=>?_) (λc I a=>?_) Y.bare
 ·have a:c=SP:=by simpa using u
  subst a;exact⟨l,d,C,t⟩
 ·obtain⟨m,Q,Td,x,r⟩:=w;exact⟨m,Q,Td,o _ m (fB d) x,r⟩
 ·refine (Y.aV c I a).gl (λq s b p=>o q s ?_ p) (λ_ p=>p) λ_ W p=>p;rcases b with z|z
  ·rw[z];exact g c I a
  ·exact g q _ z
theorem Inv.tok(Y:Inv f G y h j)(B:Nat):Inv f G y h {j with toks:=B}:=Y.un (U:=j.heap) (Tk:=B) dz.refl Y.aV
theorem Inv.kept(Y:Inv f G y h j)(o:∀c I,j.heap.get? c=Z I->U.get? c=Z I):Inv f G y h {j with heap:=U,toks:=Tk}:=Y.un (dz.kept o) (Y.aV.kept o)
theorem Inv.laid(Y:Inv f G y h j)(o:∀c I,j.heap.get? c=Z I->U.get? c=Z I)(a:j.heap.objs.size<=g)(new:eU f.prog f.w (upd h g m) U g m):
  Inv f G y (upd h g m) {j with heap:=U,toks:=Tk}:=Y.un (dz.laid o a<|Y.aV.fresh a) (Y.aV.laid o a new)
theorem Inv.write{e a:ai}(Y:Inv f G y h j)(b:q5 (h e))(d:a=e\/h a=Z (.own e))(o:∀c I,c≠a->j.heap.get? c=Z I->U.get? c=Z I)(g:∃I,U.get? a=Z I)(new:eU f.prog f.w (upd h e m) U e m):Inv f G y (upd h e m) {j with heap:=U,toks:=Tk}:=Y.un (dz.write b d o g) (Y.aV.write b d o g new)
theorem Inv.weak{a:List (Option as)}(Y:Inv f G y h j)(c:a.length=y.length)(D:∀(b:Nat) s,a[b]?=Z (Z s)->y[b]?=Z (Z s)):Inv f G a h j:=
 ⟨Y.ok,Y.os,Y.bare,Y.base,let ⟨i,d,g⟩:=Y.loc;⟨i,d,λb e s k l m=>g b e s k (D b s l) m⟩,Y.cell,Y.free,Y.gh,Y.pin,Y.aV,c.trans Y.len⟩
theorem Inv.px{a:List (ai×a0)}(Y:Inv f G y h j)(d:∀n∈a,j.heap.get? n.1=Z n.2/\h n.1=X/\n.1≠f.env.locals/\n.1∉f.aA/\∀s,n.2.data≠.cell s):Inv f a y h j:=
 ⟨Y.ok,Y.os,Y.bare,Y.base,Y.loc,Y.cell,Y.free,Y.gh,λn b=>(cx.mp b).elim (λc=>Y.pin n<|dI _ c)<|d n,Y.aV,Y.len⟩
theorem F1(a:Tb.Nodup){b u:Nat}{e:ay}(g:Tb[b]?=Z e)(c:Tb[u]?=Z e):b=u:=by
 obtain⟨l,d⟩:=fw.mp g;obtain⟨C,f⟩:=fw.mp c;exact (Dz a).mp (d.trans f.symm)
variable{A:Unit->ak->Prop}
theorem Di{av:fz}(Y:Inv f G y h j)(cl:f.N.Nodup)(SJ:f.N[b]?=Z e)(B:Loc f.env.scope e)(r:bZ s I)(d:∀SN,Inv f G (y.set b<|Z s) h SN->(∃g,aT.SameBut g j.heap SN.heap/\(g=f.env.locals\/f.env.cells.lookup e=Z g))->A () SN)(hd:f.fn e=aa\/f.env.scope.names.lookup e=Z .local:=by first|exact .inl rfl|exact .inr rfl|assumption):wpAny av O (storeName f.env e I) A SM j:=by
 obtain⟨i,P,co⟩:=id Y.loc;have im:(f.env.scope.kind==.class || (f.env.scope.kind==.module&&f.env.locals != f.env.globals))=al:=by rw[Y.ok.kind];rfl
 have eq:b<y.length:=by rw[Y.len];exact (fw.mp SJ).1
 have nH:=Y.nH;have ex:∀{g:ai}{U:aT},(∃m,j.heap.get? g=Z m/\h g=X)->aT.SameBut g j.heap U->c_ f.prog f.w h U:=λ{g U} mb SX c of a=>by
  obtain⟨W,W,fd⟩:=mb;refine (Y.aV c of a).gl (λq L x p=>(SX.2 q ?_).trans p) (λ_ p=>p) λ_ W p=>p;rintro rfl;rcases x with rfl|x
  ·rw[fd]at a;cases a
  ·rw[fd]at x;cases x
 rcases B with F|F
 ·refine wpAny_storeName_local F P (λU on SX=>?_) im;obtain⟨pm,W,W,pt,W⟩:=id P;refine d _ ⟨Y.ok,Y.os,Y.bare,⟨λc m a v H B=>?_,λc m a v H B=>?_,Y.base.free,λc m a B=>?_,Y.base.hR,Y.base.hM,Y.base.iz⟩,⟨_,on,λu t Q l E R=>?_⟩,λt q a=>?_,Y.free,Y.gh,λn S=>?_,ex ⟨pm,pt,Y.free⟩ SX,by simpa using Y.len⟩ ⟨_,SX,.inl rfl⟩
  ·exact (SX.2 c<|cT<|fs (bX a) Y.ok.above).trans (Y.base.keep c m a v H B)
  ·obtain⟨aW,l⟩:=Y.base.slot c m a v H B;exact⟨aW,(SX.2 c<|cT<|fs (bX a) Y.ok.above).trans l⟩
  ·obtain⟨Tq,l⟩:=Y.base.there c m a B;exact⟨Tq,(SX.2 c<|cT<|fs (bX a) Y.ok.above).trans l⟩
  ·by_cases J:u=b
   ·subst J;rw[SJ]at l;cases l;rw[uq eq]at E;cases E;exact⟨I,r,.inl ⟨F,by simp⟩⟩
   ·rw[ni (fB J)]at E;obtain⟨T,TG,p⟩:=co u t Q l E R;refine⟨T,TG,?_⟩;rcases p with ⟨o,a⟩|⟨o,q,a,z⟩
    ·refine .inl ⟨o,?_⟩;have:t≠e:=λa=>J (F1 cl l<|a ▸ SJ);simp[this,a]
    ·exact .inr ⟨o,q,a,z.sameBut SX<|nH t q a⟩
  ·obtain⟨L,z⟩:=Y.cell t q a;exact⟨L,z.sameBut SX<|nH t q a⟩
  ·obtain⟨a,v,ne,be,k⟩:=Y.pin n S;exact⟨(SX.2 n.1 ne).trans a,v,ne,be,k⟩
 ·have bs:f.fn e=aa:=by
   rcases hd with z|z
   ·exact z
   ·rw[z]at F;cases F
  obtain⟨q,x⟩:=Y.ok.has e (.inl F);obtain⟨L,z⟩:=Y.cell e q x;refine wpAny_storeName_cell Y.ok.kind F x z (λU f1 SX=>?_);obtain⟨C,go,sp⟩:=id z;refine d {j with heap:=U} ⟨Y.ok,Y.os,Y.bare,⟨λc m a v H B=>?_,λc m a v H B=>?_,Y.base.free,λc m a B=>?_,Y.base.hR,Y.base.hM,Y.base.iz⟩,⟨i,P.sameBut SX<|fB<|nH e q x,λu t Q l E R=>?_⟩,λt M a=>?_,Y.free,Y.gh,λn S=>?_,ex ⟨C,go,Y.gh e q x⟩ SX,by simpa using Y.len⟩ ⟨q,SX,.inr x⟩
  ·exact (SX.2 c<|cT<|fs (bX a)<|Y.ok.jX e q bs x).trans (Y.base.keep c m a v H B)
  ·obtain⟨aW,l⟩:=Y.base.slot c m a v H B;exact⟨aW,(SX.2 c<|cT<|fs (bX a)<|Y.ok.jX e q bs x).trans l⟩
  ·obtain⟨Tq,l⟩:=Y.base.there c m a B;exact⟨Tq,(SX.2 c<|cT<|fs (bX a)<|Y.ok.jX e q bs x).trans l⟩
  ·by_cases J:u=b
   ·subst J;rw[SJ]at l;cases l;rw[uq eq]at E;cases E;exact⟨I,r,.inr ⟨.inl F,q,x,f1⟩⟩
   ·rw[ni (fB J)]at E;obtain⟨T,TG,p⟩:=co u t Q l E R;refine⟨T,TG,?_⟩;rcases p with p|⟨o,M,a,s1⟩
    ·exact .inl p
    ·refine .inr ⟨o,M,a,s1.sameBut SX ?_⟩;rintro rfl;exact J (F1 cl l<|Y.ok.inj _ _ _ a x ▸ SJ)
  ·by_cases g1:M=q
   ·subst g1;exact⟨_,f1⟩
   ·obtain⟨s2,ty⟩:=Y.cell t M a;exact⟨s2,ty.sameBut SX g1⟩
  ·obtain⟨a,v,ne,be,k⟩:=Y.pin n S;refine⟨(SX.2 n.1 ?_).trans a,v,ne,be,k⟩;intro p;rw[p,go]at a;have un:C=n.2:=Option.some.inj a;exact k L (by rw[<-un];exact sp)
theorem uO{av:fz}(Y:Inv f G y h j)(a:f.N.Nodup)(SJ:f.N[b]?=Z e)(c:Loc f.env.scope e)(r:bZ s I)(d:∀SN,Inv f G (y.set b<|Z s) h SN->A () SN)(g:f.fn e=aa\/f.env.scope.names.lookup e=Z .local:=by first|exact .inl rfl|exact .inr rfl|assumption):wpAny av O (storeName f.env e I) A SM j:=
 Di Y a SJ c r (λSN i W=>d SN i) g
theorem Inv.Au(Y:Inv f G y h j)(b:SN.os=j.os)(I:dz (ds f.stack) T7 h R j.heap SN.heap)(aV:c_ f.prog f.w R SN.heap)(d:j0 SN.gens)(g:∀c∈T7,(c∈f.ex\/f.ea.heap.objs.size<=c)/\c≠f.env.locals/\(∀e q,f.env.cells.lookup e=Z q->q≠c)/\∀n∈f.gt++G,n.1≠c):Inv f G y R SN:=by
 obtain⟨U,Uf,TV,Tk,Tq⟩:=SN;have a:Tq=j.os:=b;subst a;exact Y.call (Uf:=Uf) (Tk:=Tk) (TV:=TV) I aV d g
end
abbrev fA:=ae->Option ai->au->Prop
abbrev St:=List (Option as)
variable{y:St}
abbrev cw:=as->au->Prop
abbrev bR:=St->au->cw->Prop
variable{TW:bR}
abbrev d0:=St->au->(Bool->au->Prop)->Prop
variable{Ui:d0}
abbrev eL:=St->au->(List as->au->Prop)->Prop
variable{TB:eL}
structure kn where
 aZ:St->au->Prop
 dO:cw
 cK:St->au->Prop:=λ_ _=>False
 ca:St->au->Prop:=λ_ _=>False
abbrev eh:=kn->St->au->Prop
variable{TY:eh}
def d4(f:aH)(G:List (ai×a0))(y:St)(A:cw)(I:ae)(SN:ak):Prop:=∃s R,Inv f G y R SN/\bZ s I/\A s R
def sk(f:aH)(G:List (ai×a0))(y:St)(A:Bool->au->Prop)(c:Bool)(SN:ak):Prop:=∃R,Inv f G y R SN/\A c R
def NH(f:aH)(G:List (ai×a0))(y:St)(A:List as->au->Prop)(S7:List ae)(SN:ak):Prop:=∃T R,Inv f G y R SN/\bK T S7/\A T R
def iO(f:aH)(G:List (ai×a0))(w:kn)(P:Flow)(SN:ak):Prop:=
 match P with
 |.next=>∃a R,Inv f G a R SN/\w.aZ a R
 |.brk=>∃a R,Inv f G a R SN/\w.cK a R
 |.cont=>∃a R,Inv f G a R SN/\w.ca a R
 |.ret I=>∃s a R,Inv f G a R SN/\bZ s I/\w.dO s R
def v3(f:aH)(a:a8)(B:bR)(G:List (ai×a0)):Prop:=
 ∀(j:ak) (y:St) (h:au) (A:cw),Inv f G y h j->B y h A->wpAny (aM f.prog f.w) f.A (bQ a f.env) (d4 f G y A) f.ce j
def bC(f:aH)(a:a8)(B:bR):Prop:=∀G,v3 f a B G
def Dl(f:aH)(a:a8)(B:d0)(G:List (ai×a0)):Prop:=
 ∀(j:ak) (y:St) (h:au) (A:Bool->au->Prop),Inv f G y h j->B y h A->wpAny (aM f.prog f.w) f.A (o2 a f.env<|bQ a f.env) (sk f G y A) f.ce j
def g2(f:aH)(a:a8)(B:d0):Prop:=∀G,Dl f a B G
def B9(f:aH)(a:a8)(B:d0)(b:dr ae):Prop:=
 ∀(G:List (ai×a0)) (j:ak) (y:St) (h:au) (A:Bool->au->Prop),Inv f G y h j->B y h A->wpAny (aM f.prog f.w) f.A (o2 a f.env b) (sk f G y A) f.ce j
def jz(f:aH)(a:a8)(B:d0):Prop:=∀b,B9 f a B b
theorem jz.pt{B:d0}(d:jz f a B):g2 f a B:=d _
def FE(f:aH)(Q:List a8)(B:eL)(S1:Pos):Prop:=
 ∀(G:List (ai×a0)) (j:ak) (y:St) (h:au) (A:List as->au->Prop),Inv f G y h j->B y h A->wpAny (aM f.prog f.w) f.A (spliced<|eJ S1<|bG Q f.env) (NH f G y A) f.ce j
def gG(f:aH)(Q:List a8)(B:eL):Prop:=∀S1,FE f Q B S1
def Ad(f:aH)(st:bz)(B:eh)(G:List (ai×a0)):Prop:=
 ∀(j:ak) (y:St) (h:au) (w:kn),Inv f G y h j->B w y h->wpAny (aM f.prog f.w) f.A (exec st f.env) (iO f G w) f.ce j
def gD(f:aH)(st:bz)(B:eh):Prop:=∀G,Ad f st B G
def z9(f:aH)(st:List bz)(B:eh)(G:List (ai×a0)):Prop:=
 ∀(j:ak) (y:St) (h:au) (w:kn),Inv f G y h j->B w y h->wpAny (aM f.prog f.w) f.A (execs st f.env) (iO f G w) f.ce j
def gm(f:aH)(st:List bz)(B:eh):Prop:=∀G,z9 f st B G
theorem bJ{Ta:Type}{B:dr Ta}{A a:Ta->ak->Prop}{av:fz}(d:wpAny av O B A SM j)(b:∀g j,A g j->a g j):wpAny av O B a SM j:=fY d b λ_ Y e=>e
section
variable{f:aH}
noncomputable def lq(b:Nat):bR:=λy h A=>∃s,y[b]?=Z (Z s)/\A s h
noncomputable def mC(s:as):bR:=λ_ h A=>A s h
theorem zV(l:f.N[b]?=Z e)(m:tb f.env.scope e)(hd:(e==("__debug__" : ay))=al:=by decide)(n:(e==("__classdict__" : ay))=al:=by decide):bC f (.Name e S1) (lq b):=by
 intro G j y h A Y d;obtain⟨s,a,d⟩:=d;obtain⟨i,o,p⟩:=Y.loc;obtain⟨I,r,H⟩:=p b e s l a m;have fin:d4 f G y A I j:=⟨s,h,Y,r,d⟩;rcases H with ⟨c,t⟩|⟨c,q,g,k⟩
 ·exact wa (wpAny_loadName_local Y.ok.kind c o t fin) hd
 ·rcases c with c|c
  ·exact wa (wpAny_loadName_cell Y.ok.kind c g k fin) hd
  ·exact wa (wpAny_loadName_free Y.ok.kind c g k fin n) hd
theorem Oz{b u S1}:bC f (.Constant (.int b) u S1) (mC<|.int b):=λ_ W W h W Y d=>wpAny_Constant_int ⟨.int b,h,Y.tok _,⟨_,rfl⟩,d⟩
theorem JI{c u S1}:bC f (.Constant (.bool c) u S1) (mC<|.ax c):=λ_ W W h W Y d=>Constant_bool ⟨.ax c,h,Y,rfl,d⟩
theorem PC{u S1}:bC f (.Constant .none u S1) (mC .aR):=λ_ W W h W Y d=>Constant_none ⟨.aR,h,Y,rfl,d⟩
theorem E8{e u S1}:bC f (.Constant (.str e) u S1) (mC<|.str e):=λ_ W W h W Y d=>Calls.Constant_str ⟨.str e,h,Y.tok _,⟨_,rfl⟩,d⟩
def dU(f:aH)(e:ay):Prop:=f.env.kindOf e=Z .globalImplicit
theorem uj(Y:Inv f G y h j)(a:dU f e)(b:f.aw e=Z I)(d:A I j)(hd:(e==("__debug__" : ay))=al:=by decide):wpAny (aM f.prog f.w) f.A (bQ (.Name e S1) f.env) A SM j:=
 Gh Y.ok.kind a (Calls.loadGlobal_global (by rw[Y.ok.glob];exact Y.mod.glob.keeps Y.cK) b d) hd
theorem nv(Y:Inv f G y h j)(a:dU f e)(b:f.aw e=X)(c:eE e=Z I)(d:A I j)(g:e ≠ "__name__" := by decide)(hd:(e==("__debug__" : ay))=al:=by decide):wpAny (aM f.prog f.w) f.A (bQ (.Name e S1) f.env) A SM j:=by
 obtain⟨i,l,C⟩:=Y.mod.blt;exact Gh Y.ok.kind a (Calls.loadGlobal_builtin (by rw[Y.ok.glob];exact Y.mod.glob.keeps Y.cK) b (by rw[Y.ok.blt];exact l.keeps Y.cK) ((C e g).trans c) d) hd
theorem yE(a:dU f e)(b:f.aw e=Z I)(r:bZ s I)(hd:(e==("__debug__" : ay))=al:=by decide):bC f (.Name e S1) (mC s):=
 λ_ W W h W Y d=>uj Y a b ⟨s,h,Y,r,d⟩ hd
theorem RZ(a:dU f e)(b:f.aw e=X)(c:eE e=Z I)(r:bZ s I)(g:e ≠ "__name__" := by decide)(hd:(e==("__debug__" : ay))=al:=by decide):bC f (.Name e S1) (mC s):=
 λ_ W W h W Y d=>nv Y a b c ⟨s,h,Y,r,d⟩ g hd
variable{g c:a8}{TB TY:bR}{S1:Pos}
noncomputable def Ft(B:bR):d0:=λy h A=>B y h λe SU=>∃q,e=.ax q/\A q SU
variable{f8 i:d0}{cf:List a8}
noncomputable def D_(B I:d0):d0:=λy h A=>B y h λq SU=>if q=aa then I y SU A else A al SU
noncomputable def CA(B I:d0):d0:=λy h A=>B y h λq SU=>if q=aa then A aa SU else I y SU A
noncomputable def I2(B:d0):d0:=λy h A=>B y h λq SU=>A (!q) SU
theorem Q_(b:g2 f g f8):jz f (.BoolOp .And [g] S1) f8:=by
 intro c G j y h A Y d;refine isTrue_and (bJ (b G j y h A Y d) λq e a=>?_);cases q with
 |true=>exact isTrue_and_nil a
 |false=>exact a
theorem O2(b:g2 f g f8):jz f (.BoolOp .Or [g] S1) f8:=by
 intro c G j y h A Y d;refine isTrue_or (bJ (b G j y h A Y d) λq e a=>?_);cases q with
 |false=>exact isTrue_or_nil a
 |true=>exact a
theorem MF(e:g2 f g f8)(k:jz f (.BoolOp .And (c::cf) S1) i):jz f (.BoolOp .And (g::c::cf) S1) (D_ f8 i):=by
 intro l G j y h A Y d;refine isTrue_and (bJ (e G j y h _ Y d) λq m n=>?_);obtain⟨SU,a,b⟩:=n;cases q with
 |true=>exact k l G m y SU A a b
 |false=>exact⟨SU,a,b⟩
theorem H1(e:g2 f g f8)(k:jz f (.BoolOp .Or (c::cf) S1) i):jz f (.BoolOp .Or (g::c::cf) S1) (CA f8 i):=by
 intro l G j y h A Y d;refine isTrue_or (bJ (e G j y h _ Y d) λq m n=>?_);obtain⟨SU,a,b⟩:=n;cases q with
 |true=>exact⟨SU,a,b⟩
 |false=>exact k l G m y SU A a b
theorem OH(a:g2 f g f8):g2 f (.UnaryOp .Not g S1) (I2 f8):=by
 intro G j y h A Y d;exact isTrue_not (a G j y h (λq SU=>A (!q) SU) Y d)
noncomputable def HZ(TB TY:bR):bR:=λy h A=>TB y h λe SU=>∃q,e=.ax q/\if q=aa then TY y SU A else A (.ax al) SU
noncomputable def L0(TB:bR):bR:=λy h A=>TB y h λe SU=>∃q,e=.ax q/\A (.ax<|!q) SU
theorem Qn{Tx}{B:bR}(d:bC f g B):bC f (.BoolOp Tx [g] S1) B:=λG j y h A Y a=>BoolOp_one (d G j y h A Y a)
theorem J3(i:bC f g TB)(k:bC f (.BoolOp .And (c::cf) S1) TY):bC f (.BoolOp .And (g::c::cf) S1) (HZ TB TY):=by
 intro G j y h A Y d;refine BoolOp_and (bJ (i G j y h _ Y d) λs l m=>?_);obtain⟨e,SU,b,n,a⟩:=m;obtain⟨q,rfl,a⟩:=a;cases n;refine lE ?_;cases q with
 |true=>exact k G l y SU A b a
 |false=>exact⟨.ax al,SU,b,rfl,a⟩
theorem Ow(b:bC f g TB):bC f (.UnaryOp .Not g S1) (L0 TB):=by
 intro G j y h A Y d;refine UnaryOp_ (bJ (b G j y h _ Y d) λs l c=>?_);obtain⟨e,SU,i,k,a⟩:=c;obtain⟨q,rfl,a⟩:=a;cases k;exact not_of (lE ⟨.ax<|!q,SU,i,rfl,a⟩)
noncomputable def K9(B:d0)(TB TY:bR):bR:=λy h A=>B y h λq SU=>if q=aa then TB y SU A else TY y SU A
theorem Ht(i:g2 f q f8)(l:bC f g TB)(m:bC f c TY):bC f (.IfExp q g c S1) (K9 f8 TB TY):=by
 intro G j y h A Y d;refine wpAny_IfExp (bJ (i G j y h _ Y d) λk a n=>?_);obtain⟨SU,b,e⟩:=n;cases k with
 |true=>exact l G a y SU A b e
 |false=>exact m G a y SU A b e
end
def c5(SK:PySem.W.Frag)(h:au)(g:ai)(x:List as):Prop:=
 j1 h g (.lst x)\/
  ∃(m:a0) (SZ:Array ae) (v:Nat),SK.lookup g=Z m/\m.cls=.type "list" /\ m.dict=X/\m.data=.seq SZ v/\SZ.size<=sizeLine/\bK x SZ.toList
def b7(SK:PySem.W.Frag)(h:au)(g:ai)(x:List as):Prop:=
 j1 h g (.tup x)\/
  ∃(m:a0) (SZ:Array ae) (v:Nat),SK.lookup g=Z m/\m.cls=.type "tuple" /\ m.data=.seq SZ v/\SZ.size<=sizeLine/\bK x SZ.toList
noncomputable def Ik:ae->Option as
 |.none=>Z .aR
 |.bool c=>Z (.ax c)
 |.int b _=>Z (.int b)
 |.str e _=>Z (.str e)
 |.bytes c _=>Z (.qq c)
 |.float c _=>Z (.yl c)
 |.ref g=>Z (.ref g)
 |.type v=>Z (.ty v)
 |_=>X
theorem bZ.abs{e:as}(r:bZ e I):Ik I=Z e:=by
 cases e with
 |aR=>cases r;rfl
 |ax _=>cases r;rfl
 |int _=>obtain⟨B,rfl⟩:=r;rfl
 |str _=>obtain⟨B,rfl⟩:=r;rfl
 |qq _=>obtain⟨B,rfl⟩:=r;rfl
 |yl _=>obtain⟨B,rfl⟩:=r;rfl
 |ref _=>cases r;rfl
 |ty _=>cases r;rfl
theorem bZ.inj{e:as}(r:bZ e I)(p:bZ t I):e=t:=Option.some.inj (r.abs.symm.trans p.abs)
theorem bK.inj:∀{x S2:List as}{S7:List ae},bK x S7->bK S2 S7->x=S2
 |_,_,_,.nil,.nil=>rfl
 |_,_,_,.cons r B,.cons TG Tk=>by rw[r.inj TG,bK.inj B Tk]
section
variable{f:aH}{G:List (ai×a0)}{y:St}{h:au}{j:ak}{g:ai}{x S2:List as}
theorem c5.of(d:h g=Z (.lst x)):c5 SK h g x:=.inl (.inl d)
theorem b7.of(d:h g=Z (.tup x)):b7 SK h g x:=.inl (.inl d)
theorem Inv.list(Y:Inv f G y h j)(d:c5 f.K h g x):∃SZ:List ae,bK x SZ/\PlainL j.heap g SZ.toArray/\x.length<=sizeLine:=by
 rcases d with d|⟨m,SZ,v,b,c,hd,SX,i,r⟩
 ·obtain⟨e,SZ,v,r,a⟩:=d.ok Y.aV;exact⟨SZ,r,⟨_,v,a,rfl,rfl,rfl⟩,e⟩
 ·refine⟨SZ.toList,r,⟨m,v,Y.kp g m b,c,hd,by simpa using SX⟩,?_⟩;have a:=r.length;simp only[db]at a;lia
theorem Inv.tuple(Y:Inv f G y h j)(d:b7 f.K h g x):∃SZ:List ae,bK x SZ/\lp j.heap g SZ.toArray/\x.length<=sizeLine:=by
 rcases d with d|⟨m,SZ,v,b,c,SX,i,r⟩
 ·obtain⟨e,SZ,r,n⟩:=d.ok Y.aV;exact⟨SZ,r,n.tup,e⟩
 ·refine⟨SZ.toList,r,⟨m,Y.kp g m b,c,v,by simpa using SX⟩,?_⟩;have a:=r.length;simp only[db]at a;lia
theorem Inv.Pm(Y:Inv f G y h j)(d:c5 f.K h g x)(U:c5 f.K h g S2):x=S2:=by
 obtain⟨SZ,r,⟨m,v,a,W,W,k⟩,W⟩:=Y.list d;obtain⟨w,TG,⟨Tq,c,b,W,W,TV⟩,W⟩:=Y.list U;rw[a]at b;cases b;rw[k]at TV;injection TV with TD _;have:SZ=w:=by simpa using congrArg Array.toList TD
 subst this;exact r.inj TG
theorem Inv.wg(Y:Inv f G y h j)(d:b7 f.K h g x)(U:b7 f.K h g S2):x=S2:=by
 obtain⟨SZ,r,⟨m,a,W,v,k⟩,W⟩:=Y.tuple d;obtain⟨w,TG,⟨Tq,b,W,c,TV⟩,W⟩:=Y.tuple U;rw[a]at b;cases b;rw[k]at TV;injection TV with TD _;have:SZ=w:=by simpa using congrArg Array.toList TD
 subst this;exact r.inj TG
end
noncomputable abbrev aH.kf(f:aH)(SM:ae->ak->Prop):aH:={f with ce:=SM}
noncomputable abbrev aH.nB(f:aH):aH:=f.kf λ_ _=>False
theorem aH.Ok.kf(ok:f.Ok)(SM:ae->ak->Prop):(f.kf SM).Ok:=
 ⟨ok.mod,ok.kind,ok.glob,ok.blt,ok.above,ok.inj,ok.has,ok.jX,ok.hd,ok.frames,ok.kZ,ok.mQ,ok.bs,ok.ii,ok.kd,ok.jU,ok.f9,ok.jG⟩
theorem aH.Ok.mo(ok:(f.kf SM).Ok):f.Ok:=
 ⟨ok.mod,ok.kind,ok.glob,ok.blt,ok.above,ok.inj,ok.has,ok.jX,ok.hd,ok.frames,ok.kZ,ok.mQ,ok.bs,ok.ii,ok.kd,ok.jU,ok.f9,ok.jG⟩
section
variable{f:aH}{G:List (ai×a0)}{y:St}{h:au}{j:ak}{SM:ae->ak->Prop}
theorem Inv.kf(Y:Inv f G y h j)(SM:ae->ak->Prop):Inv (f.kf SM) G y h j:=⟨Y.ok.kf SM,Y.os,Y.bare,Y.base,Y.loc,Y.cell,Y.free,Y.gh,Y.pin,Y.aV,Y.len⟩
theorem Inv.mo(Y:Inv (f.kf SM) G y h j):Inv f G y h j:=⟨Y.ok.mo,Y.os,Y.bare,Y.base,Y.loc,Y.cell,Y.free,Y.gh,Y.pin,Y.aV,Y.len⟩
theorem iO.mo{w:kn}{P:Flow}(d:iO (f.kf SM) G w P SN):iO f G w P SN:=by
 cases P with
 |next=>obtain⟨a,R,Y,p⟩:=d;exact⟨a,R,Y.mo,p⟩
 |brk=>obtain⟨a,R,Y,p⟩:=d;exact⟨a,R,Y.mo,p⟩
 |cont=>obtain⟨a,R,Y,p⟩:=d;exact⟨a,R,Y.mo,p⟩
 |ret I=>obtain⟨s,a,R,Y,r,p⟩:=d;exact⟨s,a,R,Y.mo,r,p⟩
theorem gm.nB{st:List bz}{B:eh}(d:gm f.nB st B):gm f st B:=λG j y h w Y a=>
 fY (d G j y h w (Y.kf _) a) (λ_ W p=>p.mo) λ_ W b=>False.elim b
end
section
variable{f:aH}{st:bz}{cf:List bz}{B I:eh}{a:a8}{TW:bR}{S1:Pos}
noncomputable def Rp:eh:=λw y h=>w.aZ y h
noncomputable def Bb(B I:eh):eh:=λw y h=>B {w with aZ:=I w} y h
theorem Nt:gm f [] Rp:=λ_ W y h W Y d=>pq ⟨y,h,Y,d⟩
theorem qM(l:gD f st B)(C:gm f cf I):gm f (st::cf) (Bb B I):=by
 intro G j y h w Y d;refine Bs (bJ (l G j y h {w with aZ:=I w} Y d) λP a p=>?_);cases P with
 |next=>
  obtain⟨b,R,c,p⟩:=p;exact C G a b R w c p
 |ret s=>exact p
 |brk=>exact p
 |cont=>exact p
theorem QE(l:gD f st B):gm f [st] B:=by
 intro G j y h w Y d;refine Bs (bJ (l G j y h w Y d) λP a p=>?_);cases P with
 |next=>exact pq p
 |ret s=>exact p
 |brk=>exact p
 |cont=>exact p
theorem Inv.quiet(Y:Inv f G y h j):interactive f.env=al:=by simp[interactive,Y.ok.kind]
noncomputable def JF(TW:bR):eh:=λw y h=>TW y h λ_ SU=>w.aZ y SU
theorem Jp(b:bC f a TW)(SX:lg a X S1.line f.env=pure al:=by rfl):gD f (.Expr a S1) (JF TW):=by
 intro G j y h w Y d;exact wpAny_Expr_any (bJ (b G j y h _ Y d) λs i ⟨e,SU,c,k,g⟩=>⟨y,SU,c,g⟩) Y.quiet SX
noncomputable def Nk(TW:bR):eh:=λw y h=>TW y h w.dO
theorem Rr(b:bC f a TW):gD f (.Return (Z a) S1) (Nk TW):=by
 intro G j y h w Y d;exact wpAny_Return_some (bJ (b G j y h _ Y d) λs k ⟨e,SU,c,g,i⟩=>⟨e,y,SU,c,g,i⟩)
noncomputable def L8(q:d0)(B I:eh):eh:=λw y h=>q y h λc SU=>if c=aa then B w y SU else I w y SU
theorem FZ{g c:List bz}(i:g2 f q Ui)(l:gm f g B)(m:gm f c I):gD f (.If q g c S1) (L8 Ui B I):=by
 intro G j y h w Y d;refine wpAny_If (bJ (i G j y h _ Y d) λk a n=>?_);obtain⟨SU,b,e⟩:=n;cases k with
 |true=>exact l G a y SU w b e
 |false=>exact m G a y SU w b e
noncomputable def Jw:eh:=λ_ Y Y=>False
theorem LU:gD f st Jw:=λ_ Y Y Y Y Y d=>d.elim
end
abbrev gr:=as->St->au->(St->au->Prop)->Prop
abbrev kh:=List as->St->au->(St->au->Prop)->Prop
def DR(f:aH)(b:a8)(B:gr)(G:List (ai×a0)):Prop:=
 ∀(j:ak) (y:St) (h:au) (s:as) (I:ae) (A:St->au->Prop),Inv f G y h j->bZ s I->B s y h A->
  wpAny (aM f.prog f.w) f.A (ho b f.env I) (λ_ SN=>∃a R,Inv f G a R SN/\A a R) f.ce j
def jn(f:aH)(a:a8)(B:gr):Prop:=∀G,DR f a B G
def CW(f:aH)(Tn:List a8)(B:kh)(G:List (ai×a0)):Prop:=
 ∀(j:ak) (y:St) (h:au) (T:List as) (S7:List ae) (A:St->au->Prop),Inv f G y h j->bK T S7->B T y h A->
  wpAny (aM f.prog f.w) f.A (zx ((fb Tn f.env).map (·.2)) S7) (λ_ SN=>∃a R,Inv f G a R SN/\A a R) f.ce j
def ns(f:aH)(Tn:List a8)(B:kh):Prop:=∀G,CW f Tn B G
abbrev vx:=as->as->as->au->(au->Prop)->Prop
def ym(f:aH)(B:vx):Prop:=
 ∀(G:List (ai×a0)) (j:ak) (y:St) (h:au) (m b s:as) (a c I:ae) (A:au->Prop),Inv f G y h j->bZ m a->bZ b c->bZ s I->B m b s h A->
  wpAny (aM f.prog f.w) f.A (tM a c I) (λ_ SN=>∃R,Inv f G y R SN/\A R) f.ce j
section
variable{f:aH}{S1:Pos}
noncomputable def wQ(b:Nat):gr:=λs y h A=>A (y.set b<|Z s) h
theorem wz(a:f.N.Nodup)(SJ:f.N[b]?=Z e)(c:Loc f.env.scope e)(g:f.fn e=aa\/f.env.scope.names.lookup e=Z .local:=by first|exact .inl rfl|exact .inr rfl|assumption):jn f (.Name e S1) (wQ b):=by
 intro G j y h s I A Y r d;exact CM (uO Y a SJ c r (λSN i=>⟨_,h,i,d⟩) g)
noncomputable def ME:kh:=λT y h A=>T=[]/\A y h
noncomputable def Pd(B:gr)(I:kh):kh:=λT y h A=>∃s r,T=s::r/\B s y h λa R=>I r a R A
theorem EX:ns f [] ME:=by
 intro G j y h T S7 A Y r d;obtain⟨a,d⟩:=d;subst a;cases r;exact AO ⟨y,h,Y,d⟩
theorem zu{B:gr}{I:kh}(l:jn f a B)(C:ns f Q I)(SX:(fb (a::Q) f.env).map (·.2)=ho a f.env::(fb Q f.env).map (·.2):=by rfl):ns f (a::Q) (Pd B I):=by
 intro G j y h T S7 A Y r d;obtain⟨s,m,b,d⟩:=d;subst b;cases r with
 |cons r c=>
  rw[SX];refine yC (bJ (l G j y h _ _ _ Y r d) λ_ e g=>?_);obtain⟨Ug,SU,i,k⟩:=g;exact C G e Ug SU _ _ A i c k
noncomputable def IA(SK:PySem.W.Frag)(v:Nat)(B:kh):gr:=λs y h A=>∃g x,s=.ref g/\b7 SK h g x/\x.length=v/\B x y h A
theorem Ml{B:kh}(i:f.calm=aa)(d:ns f Q B)(k:(fb Q f.env).length=v:=by rfl)(l:(fb Q f.env).findIdx? (·.1)=X:=by rfl):jn f (.Tuple Q o S1) (IA f.K v B):=by
 intro G j y h s I A Y r b;obtain⟨g,x,n,p,q,b⟩:=b;subst n;cases r;obtain⟨SZ,e,bt,w⟩:=Y.tuple p;refine FN (Y.ok.hd i) bt (by simp[k,<-q,e.length]) l λU t=>?_;have u:Inv f G y h {j with heap:=U}:=Y.kept (Tk:=j.toks) λc m a=>t c m (cT<|bX a) a;exact d G _ y h x _ A u (by simpa using e) b
noncomputable def LM(i a:bR)(B:vx):gr:=λs y h A=>i y h λm SU=>a y SU λb S5=>B m b s S5 λc=>A y c
theorem Rc{m b:a8}{i k:bR}{B:vx}(l:bC f m i)(SJ:bC f b k)(SX:ym f B)(n:∀s,ho (.Subscript m b S1) f.env s=(do
   let a <-holding [s] (bQ m f.env)
   let c <-holding [s,a] (bQ b f.env)
   standAt S1
   holding [s,a,c] (tM a c s)
   release [s,a,c] []):=by intro W;rfl):jn f (.Subscript m b S1) (LM i k B):=by
 intro G j y h s I A Y r d;rw[n];refine ao (gf<|bJ (l G j y h _ Y d) λa o g=>?_);obtain⟨e,SU,p,q,u⟩:=g;refine ao (gf<|bJ (SJ G o y SU _ p u) λc v g=>?_);obtain⟨t,S5,w,x,z⟩:=g;refine ao (uv<|ao<|gf<|bJ (SX G v y S5 e t s a c I _ w q x r z) λ_ F g=>?_);obtain⟨C,D,E⟩:=g;exact wpAny_release ⟨y,C,D,E⟩
noncomputable def wI(TW:bR)(J:gr):eh:=λw y h=>TW y h λe SU=>J e y SU w.aZ
theorem KR{J:gr}(b:bC f a TW)(c:jn f To J)(SX:o1 [To] a S1.line f.env=pure al:=by rfl)(g:pG [To] a f.env=pure X:=by rfl)(l:(fb [To] f.env).map (·.2)=[ho To f.env]:=by rfl):gD f (.Assign [To] a S1) (wI TW J):=by
 intro G j y h w Y d;refine GP (bJ (b G j y h _ Y d) λs i ⟨e,SU,k,m,n⟩=>?_) SX g;rw[l];exact bJ (c G i y SU e s _ k m n) λ_ o p=>p
theorem BB{L:Pos}(c:f.N.Nodup)(SJ:f.N[b]?=Z e)(g:Loc f.env.scope e)(i:bC f a TW)(SX:lg a (Z<|.Name e L) S1.line f.env=pure al:=by rfl)(k:f.fn e=aa\/f.env.scope.names.lookup e=Z .local:=by first|exact .inl rfl|exact .inr rfl|assumption):
  gD f (.Assign [.Name e L] a S1) (wI TW<|wQ b):=by
 intro G j y h w Y d;refine wpAny_Assign_Name (bJ (i G j y h _ Y d) λs p ⟨t,SU,l,m,n⟩=>?_) SX;exact uO l c SJ g m (λq o=>⟨_,SU,o,n⟩) k
noncomputable def Fh(b u:Nat)(TB:eL):eh:=λw y h=>TB y h λT SU=>∃s D,T=[s,D]/\w.aZ ((y.set b<|Z s).set u<|Z D) SU
theorem Nl{t:ay}{g c:a8}{eH o pt:Pos}{L Tr q}(C:f.calm=aa)(v:f.N.Nodup)(SJ:f.N[b]?=Z e)(E:f.N[u]?=Z t)(F:b≠u)(x:f.env.scope.names.lookup e=Z .local)(z:f.env.scope.names.lookup t=Z .local)(H:gG f [g,c] TB)(I:pG [.Tuple [.Name e eH,.Name t o] L pt] (.Tuple [g,c] Tr q) f.env=pure (Z [e,t]))(SX:o1 [.Tuple [.Name e eH,.Name t o] L pt] (.Tuple [g,c] Tr q) S1.line f.env=pure al:=by rfl):
  gD f (.Assign [.Tuple [.Name e eH,.Name t o] L pt] (.Tuple [g,c] Tr q) S1) (Fh b u TB):=by
 intro G j y h w Y d;rw[exec_Assign_arm];refine ao (uv ?_);rw[SX];refine ao (aJ ?_);rw[aG (by decide)];refine ao (Tuple_<|bJ (H _ G j y h _ Y d) λS7 i J=>?_);obtain⟨T,SU,M,P,r⟩:=J;obtain⟨s,D,Q,r⟩:=r;subst Q;obtain⟨k,l,rfl,R,S⟩:∃k l,S7=[k,l]/\bZ s k/\bZ D l:=by
  cases P with
  |cons n p=>
   cases p with
   |cons be bs=>
    cases bs;exact⟨_,_,rfl,n,be⟩
 refine fq ?_ (by show 2<=sizeLine;decide);have cl:Inv f G y SU {i with heap:=i.heap.push {cls:=.type "tuple",data:=.seq [k,l].toArray} }:=M.kept (Tk:=i.toks) λc m a=>bS _ a;rw[I];refine ao (aJ ?_);show wpAny (aM f.prog f.w) f.A (do rule "assign.swapped-stores";let S_ <-unpackItems (.ref i.heap.objs.size) 2 X;zx [λs=>se f.env t s,λs=>se f.env e s] S_.reverse;pure Flow.next) _ _ _;refine ao (h4<|ao<|unpackItems_tuple (items:=#[k,l]) (Y.ok.hd C) (lp.new i.heap _) λU co=>?_);have eq:=cl.kept (U:=U) (Tk:=i.toks) λc m a=>co c m (cT<|bX a) a;show wpAny _ _ (zx [λs=>se f.env t s,λs=>se f.env e s] [l,k] >>= λ_=>pure Flow.next) _ _ _;refine ao (yC<|Ds<|uO eq v E (.inl z) S (λfd ex=>?_)<|.inr z);refine yC (Ds<|uO ex v SJ (.inl x) R (λfn B=>AO<|aJ ?_)<|.inr x);rw[vw _ _ (fB F)]at B;exact⟨_,SU,B,r⟩
end
section
variable{f:aH}{S1:Pos}
noncomputable def KC(q:d0)(TY:eh):eh:=λw y h=>∃W:Nat->St->au->Prop,(∃i,W i y h)/\∀i y h,W i y h->
 q y h λc SU=>if c=aa then ∃Tb:St->au->Prop,(∀a R,Tb a R->∃b,b<i/\W b a R)/\TY {w with aZ:=Tb,ca:=Tb,cK:=w.aZ} y SU else w.aZ y SU
theorem QX(o:oP (aM f.prog f.w) f.A f.env f.ce)(u:g2 f q Ui)(x:gm f T9 TY):gD f (.While q T9 [] S1) (KC Ui TY):=by
 intro G j y h w Y d;obtain⟨W,⟨z,B⟩,turn⟩:=d;refine wpAny_While (codeAny_whileLoop (λv SN=>∃p R,Inv f G p R SN/\W v p R) ?_ z ⟨y,h,Y,B⟩);rintro v C ⟨Ug,SU,E,F⟩;refine m4 o (bJ (u G C Ug SU _ E<|turn v Ug SU F) λc H I=>?_);obtain⟨S5,r,e⟩:=I;cases c with
 |true=>
  obtain⟨Tb,t,e⟩:=e;rw[aB rfl];refine m4 o (bJ (x G H Ug S5 _ r e) λP J g=>?_);cases P with
  |next=>
   obtain⟨a,b,i,k⟩:=g;obtain⟨l,m,n⟩:=t a b k;exact⟨l,m,a,b,i,n⟩
  |cont=>
   obtain⟨a,b,i,k⟩:=g;obtain⟨l,m,n⟩:=t a b k;exact⟨l,m,a,b,i,n⟩
  |brk=>exact g
  |ret s=>exact g
 |false=>
  rw[aG c9];exact pq ⟨Ug,S5,r,e⟩
end
structure e3 where
 go:Nat->au->Prop
 qA:Nat->au->as->au->Prop
 stop:Nat->au->Prop
def jx(f:aH)(G:List (ai×a0))(h:au)(c:ai):Prop:=
 h c=X/\c≠f.env.locals/\c∉f.aA/\(c∈f.ex\/f.ea.heap.objs.size<=c)/\(∀e q,f.env.cells.lookup e=Z q->q≠c)/\∀n∈f.gt++G,n.1≠c
theorem Inv.tm(Y:Inv f G y h j)(b:j.heap.objs.size<=c)(g:R c=X):jx f G R c:=by
 refine⟨g,l2<|fs Y.lt b,Y.Rz b,.inr<|ed Y.iQ b,λe q a d=>?_,λn i d=>?_⟩
 ·obtain⟨s,p⟩:=Y.cell e q a;exact absurd (fs p.lt (by rw[d];exact b)) (kg _)
 ·exact absurd (fs (bX (Y.pin n i).1) (by rw[d];exact b)) (kg _)
structure rq(SS:bw)(D:a9)(SK:PySem.W.Frag)(To:a8)(Tt:e3)(b0:List ai)(SP:ai)(B:Nat->aT->Prop):Prop where
 mem:SP∈b0
 obj:∀b d,B b d->∀c∈b0,∃m,d.get? c=Z m/\∀s,m.data≠.cell s
 keep:∀b d U,B b d->(∀c∈b0,∀m,d.get? c=Z m->U.get? c=Z m)->B b U
 item:∀(f:aH),f.prog=SS->f.w=D->f.K=SK->f.calm=aa->∀(b:Nat) (G:List (ai×a0)) (j:ak) (y:St) (h:au) (SM:ae->ak->Prop),Inv f G y h j->(∀c∈b0,jx f G h c)->B b j.heap->Tt.go b h->
  wpAny (aM SS D) f.A (gd<|.ref SP) (λr s1=>∃I,r=Z I/\
   wpAny (aM SS D) f.A (ry To (.ref SP) I) (λ_ s2=>∃e R,Inv f G y R s2/\bZ e I/\Tt.qA b h e R/\B (b+1) s2.heap/\∀c∈b0,R c=X) SM s1) SM j
 done:∀(f:aH),f.prog=SS->f.w=D->f.K=SK->f.calm=aa->∀(b:Nat) (G:List (ai×a0)) (j:ak) (y:St) (h:au) (SM:ae->ak->Prop),Inv f G y h j->(∀c∈b0,jx f G h c)->B b j.heap->Tt.stop b h->
  wpAny (aM SS D) f.A (gd<|.ref SP) (λr s1=>r=X/\Inv f G y h s1) SM j
 self:∀(O:bp) (b:Nat) (j:ak) (A:ae->ak->Prop) (SM:ae->ak->Prop),B b j.heap->A (.ref SP) j->wpAny (aM SS D) O (mZ<|.ref SP) A SM j
abbrev c0:=St->au->(e3->au->Prop)->Prop
def FQ(f:aH)(G:List (ai×a0))(y:St)(To:a8)(SQ:e3->au->Prop)(b:ae)(a:ak):Prop:=
 ∃(SP:ai) (b0:List ai) (B:Nat->aT->Prop) (Tt:e3) (R:au),b=.ref SP/\Inv f G y R a/\rq f.prog f.w f.K To Tt b0 SP B/\B 0 a.heap/\(∀c∈b0,jx f G R c)/\SQ Tt R
def Cn(f:aH)(To TQ:a8)(E:c0)(G:List (ai×a0)):Prop:=
 ∀(j:ak) (y:St) (h:au) (SQ:e3->au->Prop),Inv f G y h j->E y h SQ->
  wpAny (aM f.prog f.w) f.A (bQ TQ f.env) (λs a=>wpAny (aM f.prog f.w) f.A (mZ s) (FQ f G y To SQ) f.ce a) f.ce j
def ke(f:aH)(To TQ:a8)(E:c0):Prop:=∀G,Cn f To TQ E G
theorem x0{av:fz}{SM:ae -> ak -> Prop}{m:a0}{v:String}{T:Array ae}{A:Unit -> ak -> Prop}(b:j.heap.get? SP=Z m)(c:m.cls=.type v)(hd:m.data=.fields T)(e:["enumerate", "zip", "dict_itemiterator", "dict_reverseitemiterator", "odict_iterator", "itertools.zip_longest", "itertools.pairwise"].contains v=al)(a:A () j): wpAny av O (ry To (.ref SP) I) A SM j:=by
  unfold ry;cases To <;> first
    | exact aJ a
    | (cases I <;> first
        | exact aJ a
        | (refine ao (wn b ?_)
           rw [c,hd];show wpAny av O (if (["enumerate", "zip", "dict_itemiterator", "dict_reverseitemiterator", "odict_iterator", "itertools.zip_longest", "itertools.pairwise"].contains v&&T[0]? == Z (en _))=aa then _ else _) A SM j;rw [aG (by intro d; rw [e,Bool.false_and]at d; cases d)];exact aJ a))
noncomputable def p9(SK:PySem.W.Frag)(g:ai):e3:=
 ⟨λb h=>∃x e,c5 SK h g x/\x[b]?=Z e,λb h e R=>R=h/\∀x,c5 SK h g x->x[b]?=Z e,λb h=>∃x,c5 SK h g x/\x.length<=b⟩
noncomputable def uf(SK:PySem.W.Frag)(g:ai):e3:=
 ⟨λb h=>∃x e,b7 SK h g x/\x[b]?=Z e,λb h e R=>R=h/\∀x,b7 SK h g x->x[b]?=Z e,λb h=>∃x,b7 SK h g x/\x.length<=b⟩
noncomputable def uV(S:Int)(v:Nat):e3:=⟨λb Y=>b<v,λb h e R=>R=h/\e=.int (S+b),λb Y=>v<=b⟩
theorem K6(g SP:ai):rq SS D SK To (p9 SK g) [SP] SP (λb d=>d.IsListIter SP g b) where
 mem:=by simp
 obj:=λb d st c i=>by
  have a:c=SP:=by simpa using i
  subst a;obtain⟨m,a,q,k⟩:=st;exact⟨m,a,λs F=>by rw[k]at F;cases F⟩
 keep:=λb d U st o=>st.at λm a=>o SP (by simp) m a
 item:=by
  intro f r t u H b G j y h SM Y l st v;subst r t u;obtain⟨x,e,p,w⟩:=v;obtain⟨SZ,z,n,L⟩:=Y.list p;obtain⟨I,M,N⟩:=z.get w;obtain⟨T3,A,Ts,B,C,E⟩:=l SP (by simp);refine wpAny_pyNext_list_item st n.isList (x:=I) (by simpa using M) λU J b9=>?_;have O:Inv f G y h {j with heap:=U}:=Y.turned (Tk:=j.toks) (λc m i a=>(b9.2 c i).trans a) T3 A B C E;obtain⟨m,a,q,k⟩:=id J;exact⟨I,rfl,x0 (j:={j with heap:=U}) a q k (by decide) ⟨e,h,O,N,⟨rfl,λS2 P=>by rw[Y.Pm P p];exact w⟩,J,λc i=>(l c i).1⟩⟩
 done:=by
  intro f r t u H b G j y h SM Y l st v;subst r t u;obtain⟨x,p,w⟩:=v;obtain⟨SZ,z,n,L⟩:=Y.list p;obtain⟨T3,A,Ts,B,C,E⟩:=l SP (by simp);have R:=z.length;exact wpAny_pyNext_list_end (Y.ok.hd H) st n.isList (by simp;lia) λU Q=>⟨rfl,Y.turned (Tk:=j.toks) (λc m i a=>Q c m i a) T3 A B C E⟩
 self:=λ_ W W W W st d=>wpAny_pyIter_listiter st d
theorem IY(g SP:ai):rq SS D SK To (uf SK g) [SP] SP (λb d=>d.IsTupleIter SP g b) where
 mem:=by simp
 obj:=λb d st c i=>by
  have a:c=SP:=by simpa using i
  subst a;obtain⟨m,a,q,k⟩:=st;exact⟨m,a,λs F=>by rw[k]at F;cases F⟩
 keep:=λb d U st o=>st.at λm a=>o SP (by simp) m a
 item:=by
  intro f r t u H b G j y h SM Y l st v;subst r t u;obtain⟨x,e,p,w⟩:=v;obtain⟨SZ,z,n,L⟩:=Y.tuple p;obtain⟨I,M,N⟩:=z.get w;obtain⟨T3,A,Ts,B,C,E⟩:=l SP (by simp);refine wpAny_pyNext_tuple_item st (show j.heap.IsTuple g SZ.toArray from n) (x:=I) (by simpa using M) λU J b9=>?_;have O:Inv f G y h {j with heap:=U}:=Y.turned (Tk:=j.toks) (λc m i a=>(b9.2 c i).trans a) T3 A B C E;obtain⟨m,a,q,k⟩:=id J;exact⟨I,rfl,x0 (j:={j with heap:=U}) a q k (by decide) ⟨e,h,O,N,⟨rfl,λS2 P=>by rw[Y.wg P p];exact w⟩,J,λc i=>(l c i).1⟩⟩
 done:=by
  intro f r t u H b G j y h SM Y l st v;subst r t u;obtain⟨x,p,w⟩:=v;obtain⟨SZ,z,n,L⟩:=Y.tuple p;obtain⟨T3,A,Ts,B,C,E⟩:=l SP (by simp);have R:=z.length;exact wpAny_pyNext_tuple_end (Y.ok.hd H) st (show j.heap.IsTuple g SZ.toArray from n) (by simp;lia) λU Q=>⟨rfl,Y.turned (Tk:=j.toks) (λc m i a=>Q c m i a) T3 A B C E⟩
 self:=λ_ W W W W st d=>wpAny_pyIter_tupleiter st d
theorem LF(SP:ai)(S:Int)(v:Nat):rq SS D SK To (uV S v) [SP] SP (λb d=>IsRangeIter d SP (S+(b:Nat)*1) ((v:Int)-(b:Nat)) 1) where
 mem:=by simp
 obj:=λb d st c e=>by
  have a:c=SP:=by simpa using e
  subst a;exact⟨_,st,λs z=>by
   have A:Data.fields _=Data.cell s:=z;cases A⟩
 keep:=λb d U st o=>o SP (by simp) _ st
 item:=by
  intro f i k l n b G j y h SM Y g st p;subst i k l;obtain⟨T3,q,Ts,r,t,u⟩:=g SP (by simp);have W:=i1.range (prog:=f.prog) (w:=f.w) (Y.ok.hd n) SP S 1 v;refine W.item b j _ _ p st λs U Tu C x es=>?_;obtain⟨B,rfl⟩:=C;have E:Inv f G y h {j with heap:=U,toks:=Tu}:=Y.turned (λc m e a=>es c m (by simpa using e) a) T3 q r t u;refine⟨_,rfl,x0 (j:={j with heap:=U,toks:=Tu}) (v := "range_iterator") x rfl rfl (by decide) ⟨.int<|S+b,h,E,⟨B,?_⟩,⟨rfl,rfl⟩,x,λc e=>(g c e).1⟩⟩;rw[Ch]
 done:=by
  intro f i k l n b G j y h SM Y g st p;subst i k l;obtain⟨T3,q,Ts,r,t,u⟩:=g SP (by simp);exact wpAny_pyNext_range_end (Y.ok.hd n) st (by have:v<=b:=p;lia) λU F=>⟨rfl,Y.turned (Tk:=j.toks) (λc m e a=>F c m e a) T3 q r t u⟩
 self:=λ_ T T T T st d=>wpAny_pyIter_rangeiter st d
section
variable{f:aH}{To:a8}
theorem Rn{SQ:e3->au->Prop}{S SJ:Int}{B I s:gR}{Tu:Nat}(Y:Inv f G y h j)(l : -(2^62)<=S)(C:S<2^62)(d : -(2^62)<=SJ)(e:SJ<2^62)(p:SQ (uV S (SJ-S).toNat) h):wpAny (aM f.prog f.w) f.A (mZ<|.ref j.heap.objs.size) (FQ f G y To SQ) SM {j with heap:=j.heap.push {cls:=.type "range",data:=.fields #[.int S B,.int SJ I,.int 1 s]},toks:=Tu}:=by
 refine wpAny_pyIter_range (IsRange.new ..) (small_one l C d e) ?_;have b:Inv f G y h {j with heap:=j.heap.push {cls:=.type "range",data:=.fields #[.int S B,.int SJ I,.int 1 s]},toks:=Tu}:=Y.kept λc m a=>bS _ a;refine⟨(j.heap.push {cls:=.type "range",data:=.fields #[.int S B,.int SJ I,.int 1 s]}).objs.size,[(j.heap.push {cls:=.type "range",data:=.fields #[.int S B,.int SJ I,.int 1 s]}).objs.size],_,_,h,rfl,
  b.kept (Tk:=Tu) λc m a=>bS _ a,LF _ S (SJ-S).toNat,?_,λc g=>?_,p⟩
 ·have i:S+((0:Nat):Int)*1=S:=by simp
  have k:(((SJ-S).toNat:Nat):Int)-((0:Nat):Int)=ba.Range.rangeSize S SJ 1:=by rw[rangeSize_one];split<;>lia
  show IsRangeIter _ _ (S+((0:Nat):Int)*1) ((((SJ-S).toNat:Nat):Int)-((0:Nat):Int)) 1;rw[i,k];exact da _ rfl
 ·have a:c=(j.heap.push {cls:=.type "range",data:=.fields #[.int S B,.int SJ I,.int 1 s]}).objs.size:=by simpa using g
  subst a;exact b.tm (bm _) (b.aV.fresh<|bm _)
def Ih(TB:eL):c0:=λy h SQ=>TB y h λT SU=>∃u:Int,T=[.int u] /\ -(2^62)<=u/\u<2^62/\SQ (uV 0 u.toNat) SU
theorem Rd{g:a8}{n:Pos}(c:dU f "range")(e:f.aw "range" = X)(i:gG f [g] TB)(SX:bG [g] f.env=[(al,bQ g f.env)]:=by rfl):ke f To (.Call (.Name "range" n) [g] [] S1) (Ih TB):=by
 intro G j y h SQ Y d;refine Call_ (nv Y c e boot_range<|tE (bJ (i S1 G j y h _ Y d) λS7 q ⟨T,SU,k,l,b⟩=>?_) SX rfl);obtain⟨u,a,b,m,p⟩:=b;subst a;cases l with
 |cons r o=>
  cases o;obtain⟨B,rfl⟩:=r;exact call_range_1 (Rn k (by lia) (by lia) b m (by simpa using p))
noncomputable def Ap(E:c0)(J:gr)(TY:eh):eh:=λw y h=>E y h λTt SU=>∃W:Nat->Nat->St->au->Prop,(∃i,W 0 i y SU)/\∀b i y h,W b i y h->
 (Tt.stop b h/\w.aZ y h)\/(Tt.go b h/\∃Tb:St->au->Prop,(∀a R,Tb a R->∃c,c<i/\W (b+1) c a R)/\∀e R,Tt.qA b h e R->J e y R λd S5=>TY {w with aZ:=Tb,ca:=Tb,cK:=w.aZ} d S5)
noncomputable def l6(b0:List ai)(d:aT):List (ai×a0):=b0.filterMap λc=>(d.get? c).map λm=>(c,m)
theorem s7{m:a0}(b:c∈b0)(a:d.get? c=Z m):(c,m)∈l6 b0 d:=tl.mpr ⟨c,b,by rw[a];rfl⟩
theorem At{n:ai×a0}(b:n∈l6 b0 d):n.1∈b0/\d.get? n.1=Z n.2:=by
 obtain⟨c,e,a⟩:=tl.mp b;cases p:d.get? c with
 |none=>rw[p]at a;cases a
 |some m=>
  rw[p]at a;have f:(c,m)=n:=Option.some.inj a;subst f;exact⟨e,p⟩
theorem Inv.pinned(Y:Inv f G y h j)(g:∀c∈b0,jx f G h c)(i:∀c∈b0,∃m,j.heap.get? c=Z m/\∀s,m.data≠.cell s):Inv f (G++l6 b0 j.heap) y h j:=
 Y.px λn l=>(cx.mp l).elim (λb=>Y.pin n<|dH _ b) λb=>by
  obtain⟨d,a⟩:=At b;obtain⟨T3,o,Ts,W⟩:=g n.1 d;obtain⟨m,e,k⟩:=i n.1 d;rw[a]at e;cases e;exact⟨a,T3,o,Ts,k⟩
theorem Inv.xi{bk:List (ai×a0)}(Y:Inv f (G++bk) y h j):Inv f G y h j:=Y.px λn a=>Y.pin n (dH _<|dI _ a)
theorem Cm{TQ:a8}{E:c0}{J:gr}(u:oP (aM f.prog f.w) f.A f.env f.ce)(T:f.calm=aa)(SJ:ke f To TQ E)(ex:jn f To J)(g:gm f T9 TY)(SX:∀e,lY TQ f.env e=pure e:=by intro O;rfl):gD f (.For To TQ T9 [] S1) (Ap E J TY):=by
 intro G j y h w Y d;refine wpAny_For (bJ (SJ G j y h _ Y d) λs SO l=>bJ l λSQ SS C=>?_) SX;obtain⟨SP,b0,B,Tt,S5,a,fd,L,fn,Ts,W,⟨f1,g1⟩,turn⟩:=C;subst a;have M:∀{R:au},(∀c∈b0,R c=X)->∀c∈b0,jx f G R c:=λhd c g=>⟨hd c g,(Ts c g).2⟩;refine codeAny_forLoop_any (λv SN=>∃b x R,Inv f G x R SN/\B b SN.heap/\(∀c∈b0,R c=X)/\W b v x R) ?_ f1 ⟨0,y,S5,fd,fn,λc g=>(Ts c g).1,g1⟩;rintro v U ⟨b,z,H,be,bs,cl,im⟩;rcases turn b v z H im with ⟨stop,mb⟩|⟨go,Tb,mp,step⟩
 ·refine m4 u (bJ (L.done f rfl rfl rfl T b G U z H f.ce be (M cl) bs stop) λr ne t=>?_);obtain⟨N,of⟩:=t;subst N;exact pq ⟨z,H,of,mb⟩
 ·refine m4 u (bJ (L.item f rfl rfl rfl T b G U z H f.ce be (M cl) bs go) λr ne t=>?_);obtain⟨I,N,on⟩:=t;subst N;refine m4 u (bJ on λ_ co t=>?_);obtain⟨e,eq,pm,pt,sp,Q,s1⟩:=t;have s2:=pm.pinned (M s1) (L.obj _ _ Q);refine m4 u (bJ (ex _ co z eq e I _ s2 pt<|step e eq sp) λ_ ty t=>?_);obtain⟨un,up,Gt,If⟩:=t;refine m4 u (bJ (g _ ty un up _ Gt If) λP S q=>?_);have again:∀{n:St}{o:au},Inv f (G++l6 b0 co.heap) n o S->Tb n o->∃i,i<v/\∃b x R,Inv f G x R S/\B b S.heap/\(∀c∈b0,R c=X)/\W b i x R:=λ{n o} p F=>by
   obtain⟨Is,Lt,Ok⟩:=mp n o F;refine⟨Is,Lt,b+1,n,o,p.xi,L.keep _ _ _ Q λc g m a=>(p.pin (c,m)<|dH _<|dH _<|s7 g a).1,λc g=>?_,Ok⟩;obtain⟨m,a,k⟩:=L.obj _ _ Q c g;exact (p.pin (c,m)<|dH _<|dH _<|s7 g a).2.1
  cases P with
  |next=>obtain⟨n,o,p,F⟩:=q;exact again p F
  |cont=>obtain⟨n,o,p,F⟩:=q;exact again p F
  |brk=>obtain⟨n,o,p,q⟩:=q;exact⟨n,o,p.xi,q⟩
  |ret s=>obtain⟨SK,n,o,p,SM,q⟩:=q;exact⟨SK,n,o,p.xi,SM,q⟩
end
abbrev bO:=as->as->au->cw->Prop
variable{TG r:bO}
def dj(f:aH)(P:ae->ae->dr ae)(r:bO):Prop:=
 ∀(G:List (ai×a0)) (j:ak) (y:St) (h:au) (e t:as) (s I:ae) (A:cw),Inv f G y h j->bZ e s->bZ t I->r e t h A->
  wpAny (aM f.prog f.w) f.A (P s I) (d4 f G y A) f.ce j
def ye(f:aH)(P:ae->dr ae)(r:as->au->cw->Prop):Prop:=
 ∀(G:List (ai×a0)) (j:ak) (y:St) (h:au) (e:as) (s:ae) (A:cw),Inv f G y h j->bZ e s->r e h A->
  wpAny (aM f.prog f.w) f.A (P s) (d4 f G y A) f.ce j
def eu(f:aH)(P:ae)(r:List as->au->cw->Prop):Prop:=
 ∀(G:List (ai×a0)) (j:ak) (y:St) (h:au) (x:List as) (S7:List ae) (A:cw),Inv f G y h j->bK x S7->r x h A->
  wpAny (aM f.prog f.w) f.A (call P S7) (d4 f G y A) f.ce j
def Iw(f:aH)(r:as->au->(Bool->au->Prop)->Prop):Prop:=
 ∀(G:List (ai×a0)) (j:ak) (y:St) (h:au) (e:as) (s:ae) (A:Bool->au->Prop),Inv f G y h j->bZ e s->r e h A->
  wpAny (aM f.prog f.w) f.A (truthy s) (sk f G y A) f.ce j
noncomputable def tC(r:bO)(TB TY:bR):bR:=λy h A=>TB y h λe SU=>TY y SU λt S5=>r e t S5 A
noncomputable def Ry(r:as->au->cw->Prop)(TB:bR):bR:=λy h A=>TB y h λe SU=>r e SU A
noncomputable def pH(az:Int->Int->Prop)(J:Int->Int->as):bO:=λe t h A=>∃b u,e=.int b/\t=.int u/\az b u/\A (J b u) h
noncomputable def lI(J:Int->Int->as):bO:=λe t h A=>∃b u,e=.int b/\t=.int u/\A (J b u) h
def GZ(J:Int->as):as->au->cw->Prop:=λe h A=>∃b,e=.int b/\A (J b) h
section
variable{f:aH}{g c q:a8}{TB TY Ui:bR}{S1:Pos}
theorem xY(i:bC f g TB)(k:bC f c TY){G:List (ai×a0)}{j:ak}{y:St}{h:au}{SQ:as->as->au->Prop}(Y:Inv f G y h j)(d:TB y h λe SU=>TY y SU λt S5=>SQ e t S5){A:ae->ak->Prop}{P:ae->ae->dr ae}(l:∀s I a e t S5,Inv f G y S5 a->bZ e s->bZ t I->SQ e t S5->wpAny (aM f.prog f.w) f.A (P s I) A f.ce a):
  wpAny (aM f.prog f.w) f.A (bQ g f.env) (λs m=>wpAny (aM f.prog f.w) f.A (bQ c f.env) (λI n=>wpAny (aM f.prog f.w) f.A (P s I) A f.ce n) f.ce m) f.ce j:=by
 refine bJ (i G j y h _ Y d) λs o b=>?_;obtain⟨e,SU,p,q,r⟩:=b;refine bJ (k G o y SU _ p r) λI a b=>?_;obtain⟨t,S5,u,v,x⟩:=b;exact l s I a e t S5 u q v x
theorem Rm{Tx:w0}(a:dj f (fW Tx) r)(b:bC f g TB)(i:bC f c TY):bC f (.BinOp g Tx c S1) (tC r TB TY):=by
 intro G j y h A Y d;exact wpAny_BinOp (xY b i Y d λs I k e t S5 l m n p=>a G k y S5 e t s I A l m n p)
theorem Jm{Tx:UnaryOp}{r:as->au->cw->Prop}(a:ye f (unaryOp Tx) r)(b:bC f g TB):bC f (.UnaryOp Tx g S1) (Ry r TB):=by
 intro G j y h A Y d;exact UnaryOp_ (bJ (b G j y h _ Y d) λs c ⟨e,SU,i,k,l⟩=>a G c y SU e s A i k l)
theorem sP{az:Int->Int->Prop}(a:∀(b u:Int) (B I:gR) (j:ak) (A:ae->ak->Prop) (SM:ae->ak->Prop),az b u->A (.int (J b u) j.toks) {j with toks:=j.toks+1}->wpAny (aM f.prog f.w) f.A (P (.int b B)<|.int u I) A SM j):
  dj f P (pH az λb u=>.int<|J b u):=by
 intro G j y h e t s I A Y c g d;obtain⟨b,u,rfl,rfl,i,p⟩:=d;obtain⟨B,rfl⟩:=c;obtain⟨Tk,rfl⟩:=g;exact a b u B Tk j _ _ i ⟨.int<|J b u,h,Y.tok _,⟨_,rfl⟩,p⟩
theorem Fa(a:∀(b u:Int) (B I:gR) (j:ak) (A:ae->ak->Prop) (SM:ae->ak->Prop),A (.int (J b u) j.toks) {j with toks:=j.toks+1}->wpAny (aM f.prog f.w) f.A (P (.int b B)<|.int u I) A SM j):
  dj f P (lI λb u=>.int<|J b u):=by
 intro G j y h e t s I A Y c g d;obtain⟨b,u,rfl,rfl,p⟩:=d;obtain⟨B,rfl⟩:=c;obtain⟨Tk,rfl⟩:=g;exact a b u B Tk j _ _ ⟨.int<|J b u,h,Y.tok _,⟨_,rfl⟩,p⟩
theorem sq{J:Int->Int->Bool}(a:∀(b u:Int) (B I:gR) (j:ak) (A:ae->ak->Prop) (SM:ae->ak->Prop),A (.bool<|J b u) j->wpAny (aM f.prog f.w) f.A (P (.int b B)<|.int u I) A SM j):
  dj f P (lI λb u=>.ax<|J b u):=by
 intro G j y h e t s I A Y c g d;obtain⟨b,u,rfl,rfl,p⟩:=d;obtain⟨B,rfl⟩:=c;obtain⟨Tk,rfl⟩:=g;exact a b u B Tk j _ _ ⟨.ax<|J b u,h,Y,rfl,p⟩
def Ll(b u:Int):Prop:=0<u/\u<1073741824
def KO(b u:Int):Prop:=0<=u/\u<=1000000/\b.natAbs<2^64
theorem Q9:dj f (fW .Add) (lI λb u=>.int<|b+u):=Fa λ_ Y Y Y Y Y Y p=>add_int p
theorem KT:dj f (fW .Sub) (lI λb u=>.int<|b-u):=Fa λ_ Y Y Y Y Y Y p=>sub_int p
theorem IQ:dj f (fW .FloorDiv) (pH Ll λb u=>.int<|b/u):=sP λb u Y Y Y Y Y a p=>by
 have l:(0:Int)<u:=a.1;have C:u<1073741824:=a.2;exact floordiv_int (by lia) (by rw[Int.fdiv_eq_ediv_of_nonneg b (by lia)];exact p) (.inl (PyProof.noPylong_small (by lia)))
theorem Nf:dj f (fW .Mod) (pH (λ_ u=>0<u) λb u=>.int<|b%u):=sP λb u Y Y Y Y Y a p=>by
 have l:(0:Int)<u:=a;exact mod_int' (by lia) (by rw[Int.fmod_eq_emod_of_nonneg b (by lia)];exact p)
theorem OD:dj f (fW .Pow) (pH KO λb u=>.int<|b^u.toNat):=sP λ_ Y Y Y Y Y Y a p=>pow_int_small a.1 a.2.1 a.2.2 p
theorem It{P:ae->dr ae}{J:Int->Int}(a:∀(b:Int) (B:gR) (j:ak) (A:ae->ak->Prop) (SM:ae->ak->Prop),A (.int (J b) j.toks) {j with toks:=j.toks+1}->wpAny (aM f.prog f.w) f.A (P<|.int b B) A SM j):
  ye f P (GZ λb=>.int<|J b):=by
 intro G j y h e s A Y c d;obtain⟨b,rfl,p⟩:=d;obtain⟨B,rfl⟩:=c;exact a b B j _ _ ⟨.int<|J b,h,Y.tok _,⟨_,rfl⟩,p⟩
theorem Lq:ye f (unaryOp .USub) (GZ λb=>.int<|-b):=It λ_ Y Y Y Y p=>neg_int p
end
section
variable{f:aH}{g c q:a8}{TB TY Ui:bR}{S1:Pos}
theorem EJ{A:cw}{o b:Bool}(Y:Inv f G y h j)(p:A (.ax o) h)(a:o=b):d4 f G y A (.bool b) j:=by
 subst a;exact⟨.ax o,h,Y,rfl,p⟩
theorem Pe:dj f (dG .Lt) (lI λb u=>.ax<|decide (b<u)):=sq λ_ Y Y Y Y Y Y p=>lt_int p
theorem KN:dj f (dG .LtE) (lI λb u=>.ax<|decide (b<=u)):=sq λ_ Y Y Y Y Y Y p=>le_int p
theorem QP:dj f (dG .Gt) (lI λb u=>.ax<|decide (u<b)):=sq λ_ Y Y Y Y Y Y p=>gt_int p
theorem OF:dj f (dG .GtE) (lI λb u=>.ax<|decide (u<=b)):=sq λ_ Y Y Y Y Y Y p=>ge_int p
theorem Ly:dj f (dG .Is) (λe t h A=>t=.aR/\A (.ax<|decide (e=.aR)) h):=by
 intro G j y h e t s I A Y a b d;obtain⟨rfl,p⟩:=d;cases b;refine is_none_gen (EJ Y p ?_);cases e<;>first
  | (cases a;rfl)
  | (obtain⟨B,rfl⟩:=a;rfl)
theorem MC:dj f (dG .IsNot) (λe t h A=>t=.aR/\A (.ax<|!decide (e=.aR)) h):=by
 intro G j y h e t s I A Y a b d;obtain⟨rfl,p⟩:=d;cases b;refine isnot_none_gen (EJ Y p ?_);cases e<;>first
  | (cases a;rfl)
  | (obtain⟨B,rfl⟩:=a;rfl)
theorem dj.or(d:dj f P r)(U:dj f P TG):dj f P (λe t h A=>r e t h A\/TG e t h A):=by
 intro G j y h e t s I A Y a b p;rcases p with p|p
 ·exact d G j y h e t s I A Y a b p
 ·exact U G j y h e t s I A Y a b p
theorem dK(c:a8){Tx:oo}(d:Tx≠.In:=by decide)(C:Tx≠.NotIn:=by decide):nV Tx c=al:=by
 have a:(Tx==oo.In)=al:=by cases Tx<;>first|rfl|exact absurd rfl d
 have b:(Tx==oo.NotIn)=al:=by cases Tx<;>first|rfl|exact absurd rfl C
 cases c<;>simp[nV,a,b]
theorem RP(a:dj f (dG Tx) r)(b:bC f g TB)(i:bC f c TY)(k:nV Tx c=al):bC f (.Compare g [Tx] [c] S1) (tC r TB TY):=by
 intro G j y h A Y d;exact wpAny_Compare1 (xY b i Y d λs I l e t S5 m n o p=>a G l y S5 e t s I A m n o p) k
noncomputable def CF(B:bR):d0:=λy h A=>B y h λe R=>∃o,e=.ax o/\A o R
theorem Re(b:dj f (dG Tx) r)(i:bC f g TB)(k:bC f c TY)(l:nV Tx c=al):g2 f (.Compare g [Tx] [c] S1) (CF<|tC r TB TY):=by
 intro G j y h A Y d;refine wpAny_isTrue_Compare1 (bJ (i G j y h _ Y d) λs m ⟨e,SU,n,p,u⟩=>bJ (k G m y SU _ n u) λI v ⟨t,S5,w,x,z⟩=>
  bJ (b G v y S5 e t s I _ w p x z) λq F ⟨H,B,C,D,o,a,E⟩=>?_) l;subst a;cases D;exact lE ⟨B,C,E⟩
noncomputable def xB(r TG:bO)(TB TY Ui:bR):bR:=λy h A=>TB y h λe SU=>TY y SU λt S5=>r e t S5 λb a=>∃o,b=.ax o/\
 (if o=aa then Ui y a λc d=>TG t c d A else A (.ax al) a)
theorem M4(n:dj f (dG Tx) r)(p:dj f (dG Uh) TG)(u:bC f g TB)(v:bC f c TY)(w:bC f q Ui)(x:uQ [Tx,Uh] [c,q]=al:=by with_unfolding_all rfl):bC f (.Compare g [Tx,Uh] [c,q] S1) (xB r TG TB TY Ui):=by
 intro G j y h A Y d;refine Compare_chain (bJ (u G j y h _ Y d) λs z ⟨e,SU,B,C,D⟩=>chain_link (bJ (v G z y SU _ B D) λI E ⟨t,S5,F,b,H⟩=>
  bJ (n G E y S5 e t s I _ F C b H) λk J ⟨T,i,l,L,o,a,m⟩=>?_)) x;subst a;cases L;refine lE ?_;cases o with
 |false=>exact ite_ff ⟨.ax al,i,l,rfl,m⟩
 |true=>exact ite_tt (chain_last<|bJ (w G J y i _ l m) λM N ⟨O,P,Q,R,S⟩=>p G N y P t O I M A Q b R S)
theorem NO(n:dj f (dG Tx) r)(p:dj f (dG Uh) TG)(u:bC f g TB)(v:bC f c TY)(w:bC f q Ui)(x:uQ [Tx,Uh] [c,q]=al:=by with_unfolding_all rfl):g2 f (.Compare g [Tx,Uh] [c,q] S1) (CF<|xB r TG TB TY Ui):=by
 intro G j y h A Y d;refine isTrue_chain (bJ (u G j y h _ Y d) λs z ⟨e,SU,B,C,D⟩=>test_link (bJ (v G z y SU _ B D) λI E ⟨t,S5,F,b,H⟩=>
  bJ (n G E y S5 e t s I _ F C b H) λk J ⟨fd,i,l,L,o,a,m⟩=>?_)) x;subst a;cases L;refine lE ?_;cases o with
 |false=>
  obtain⟨fn,M,N⟩:=m;cases M;exact ite_ff ⟨i,l,N⟩
 |true=>
  refine ite_tt (test_last<|bJ (w G J y i _ l m) λO P ⟨Q,R,S,T,U⟩=>bJ (p G P y R t Q I O _ S b T U) λTV f1 be=>?_);obtain⟨go,bs,cl,co,Tr,eq,ex⟩:=be;subst eq;cases co;exact lE ⟨bs,cl,ex⟩
def wb(SK:PySem.W.Frag)(e:as)(h:au)(o:Bool):Prop:=
 match e with
 |.aR=>o=al
 |.ax c=>o=c
 |.int b=>o=(b != 0)
 |.str t=>t.length<=sizeLine/\o=((t.length:Int) != 0)
 |.qq t=>t.size<=sizeLine/\o=((t.size:Int) != 0)
 |.ref n=>(∃x,c5 SK h n x/\o=!x.isEmpty)\/(∃x,b7 SK h n x/\o=!x.isEmpty)\/∃M,h n=Z (.dm M)/\o=!M.isEmpty
 |_=>False
theorem NN{F:Type}{M:List (F×as)}{T:List (F×ae)}(r:fQ M T):(!T.isEmpty)=!M.isEmpty:=by
 cases r<;>rfl
theorem F6{SZ:List ae}(r:bK x SZ):(!SZ.toArray.isEmpty)=!x.isEmpty:=by
 cases r<;>simp
theorem mS:(sizeLine:Nat)<2^63:=by rw[tS];decide
theorem NU:Iw f (λe h A=>∃o,wb f.K e h o/\A o h):=by
 intro G j y h e s A Y k d;obtain⟨o,a,p⟩:=d;have z:=mS;have SX:sizeLine=16777216:=tS;cases e with
 |aR=>
  cases k;have g:o=al:=a;subst g;exact truthy_none ⟨h,Y,p⟩
 |ax c=>
  cases k;have g:o=c:=a;subst g;exact lE ⟨h,Y,p⟩
 |int b=>
  obtain⟨B,rfl⟩:=k;have g:o=(b != 0):=a;subst g;exact PySem.P.truthy_int ⟨h,Y,p⟩
 |str t=>
  obtain⟨B,rfl⟩:=k;obtain⟨u,g⟩:t.length<=sizeLine/\o=((t.length:Int) != 0):=a;subst g;exact PySem.P.truthy_str (by lia) ⟨h,Y.tok _,p⟩
 |qq t=>
  obtain⟨B,rfl⟩:=k;obtain⟨u,g⟩:t.size<=sizeLine/\o=((t.size:Int) != 0):=a;subst g;exact PySem.W.truthy_bytes (by lia) ⟨h,Y.tok _,p⟩
 |ref n=>
  cases k;have g:(∃x,c5 f.K h n x/\o=!x.isEmpty)\/(∃x,b7 f.K h n x/\o=!x.isEmpty)\/∃M,h n=Z (.dm M)/\o=!M.isEmpty:=a;rcases g with ⟨x,l,g⟩|⟨x,l,g⟩|⟨M,l,g⟩
  ·subst g;obtain⟨SZ,r,bk,m⟩:=Y.list l;have q:=r.length;exact wpAny_truthy_list bk.isList (by simp only[cr];lia) ⟨h,Y.tok _,by rw[F6 r];exact p⟩
  ·subst g;obtain⟨SZ,r,bk,m⟩:=Y.tuple l;have q:=r.length;exact truthy_tuple bk (by simp only[cr];lia) ⟨h,Y.tok _,by rw[F6 r];exact p⟩
  ·subst g;obtain⟨m,v,T,r,i⟩:M.length<=sizeLine/\(n==ie)=al/\∃T,fQ M T/\j.heap.DictOf (lN f.prog f.w) n T:=Y.aV n _ l;have q:M.length=T.length:=dX.length r;exact wpAny_truthy_dict v i (by lia) ⟨h,Y.tok _,by rw[NN r];exact p⟩
 |_=>exact (show False from a).elim
theorem R6(b:bC f g TB)(c:∀a,o2 g f.env a=(do let s <-a;standAt g.pos;holding [s] (truthy s))):
  g2 f g (λy h A=>TB y h λe R=>∃o,wb f.K e R o/\A o R):=by
 intro G j y h A Y d;exact isTrue_plain (bJ (b G j y h _ Y d) λs i ⟨e,SU,k,l,m⟩=>NU G i y SU e s A k l m) (c _)
theorem Hp:dj f (fW .Add) (λe t h A=>∃b u,e=.str b/\t=.str u/\b.length+u.length<=sizeLine/\A (.str<|b++u) h):=by
 intro G j y h e t s I A Y a c d;obtain⟨b,u,rfl,rfl,g,p⟩:=d;obtain⟨B,rfl⟩:=a;obtain⟨Tk,rfl⟩:=c;exact add_str (λTk Tu=>⟨.str<|b++u,h,Y.tok _,⟨_,rfl⟩,p⟩) g
theorem he{e:as}(r:bK [e] S7):∃I,S7=[I]/\bZ e I:=by
 cases r with
 |cons a b=>cases b;exact⟨_,rfl,a⟩
theorem zw{e:as}(r:bK [e,t] S7):∃I a,S7=[I,a]/\bZ e I/\bZ t a:=by
 cases r with
 |cons b c=>
  cases c with
  |cons d f=>cases f;exact⟨_,_,rfl,b,d⟩
theorem QK(c:f.calm=aa):eu f (.builtin "max") (λx h A=>∃b u,x=[.int b,.int u]/\A (.int<|if u>b then u else b) h):=by
 intro G j y h x S7 A Y r d;obtain⟨b,u,rfl,p⟩:=d;obtain⟨I,e,rfl,⟨B,rfl⟩,⟨Tk,rfl⟩⟩:=zw r;refine max_two_ints (Y.ok.hd c) λU Tu o=>⟨_,h,Y.kept o,?_,p⟩;by_cases a:u>b
 ·rw[aB a,aB a];exact⟨_,rfl⟩
 ·rw[aG a,aG a];exact⟨_,rfl⟩
theorem P6(c:f.calm=aa):eu f (.builtin "min") (λx h A=>∃b u,x=[.int b,.int u]/\A (.int<|if u<b then u else b) h):=by
 intro G j y h x S7 A Y r d;obtain⟨b,u,rfl,p⟩:=d;obtain⟨I,e,rfl,⟨B,rfl⟩,⟨Tk,rfl⟩⟩:=zw r;refine min_two_ints (Y.ok.hd c) λU Tu o=>⟨_,h,Y.kept o,?_,p⟩;by_cases a:u<b
 ·rw[aB a,aB a];exact⟨_,rfl⟩
 ·rw[aG a,aG a];exact⟨_,rfl⟩
theorem Se:eu f (.type "int") (λx h A=>(∃b,x=[.int b]/\A (.int b) h)\/∃o,x=[.ax o]/\A (.int<|if o then 1 else 0) h):=by
 intro G j y h x S7 A Y r d;rcases d with ⟨b,rfl,p⟩|⟨o,rfl,p⟩
 ·obtain⟨I,rfl,B,rfl⟩:=he r;exact call_int_int ⟨.int b,h,Y,⟨_,rfl⟩,p⟩
 ·obtain⟨I,rfl,a⟩:=he r;cases a;exact call_int_bool ⟨.int<|if o then 1 else 0,h,Y.tok _,⟨_,rfl⟩,p⟩
end
section
variable{SR:bw}{D:a9}{O:bp}{SM:ae->ak->Prop}{j:ak}{SK:PySem.W.Frag}{e z az P:ai}{L:ay->Option ae}{name:ay}{s:ae}
end
theorem kt.some_of{m:Option ae}(r:kt (Z s) m):∃I,m=Z I/\bZ s I:=by
 cases m with
 |none=>exact (show False from r).elim
 |some I=>exact⟨I,rfl,r⟩
section
variable{SS:bw}{D:a9}{h R:au}{d U:aT}{g az z:ai}{aA i:List (ay×as)}
end
section
variable{f:aH}{G:List (ai×a0)}{y:St}{h:au}{j:ak}{g az z:ai}{aA:List (ay×as)}{P:ay}{s:as}{O:bp}{SM:ae->ak->Prop}
end
section
variable{f:aH}{m a i:a8}{P:ay}{S1 L k:Pos}{TB l:bR}
end
section
variable{f:aH}{G:List (ai×a0)}{y:St}{h:au}{j:ak}{O:bp}{SM:ae->ak->Prop}{A:ae->ak->Prop}{q:ae}{c:Bool}
end
structure dV(o:Nat)(O:bp):Prop where
 hd:O.handled=X
 yT:O.depth+3*o+5<Dy
 un:O.units+16*o+200<bP
 EO:O.guards=Z []
theorem dV.mono(r:dV o O)(d:u<=o):dV u O:=⟨r.hd,by have:=r.yT;lia,by have:=r.un;lia,r.EO⟩
theorem dV.deeper(r:dV (o+1) O)(SL:dP):dV o (O.deeper SL):=
 ⟨r.hd,by have:=r.yT;show O.depth+1+3*o+5<_;lia,by have:=r.un;show O.units+3+16*o+200<_;lia,r.EO⟩
theorem dV.depth(r:dV o O):O.depth<Dy:=by have:=r.yT;lia
noncomputable def QG:eL:=λ_ h A=>A [] h
noncomputable def H8(TB:bR)(a:eL):eL:=λy h A=>TB y h λe SU=>a y SU λx S5=>A (e::x) S5
section
variable{f:aH}{a:a8}{Q:List a8}{TW:bR}{B:eL}{S1:Pos}
theorem wy:gG f [] QG:=λ_ W W W h A Y d=>Fj ⟨[],h,Y,.nil,d⟩
theorem sZ(c:bC f a TW)(g:gG f Q B)(SX:bG (a::Q) f.env=(al,bQ a f.env)::bG Q f.env:=by rfl):gG f (a::Q) (H8 TW B):=by
 intro S1 G j y h A Y d;rw[SX];show wpAny _ _ (spliced ((al,bQ a f.env)::eJ S1 (bG Q f.env))) _ _ j;refine Ay (bJ (c G j y h _ Y d) λI i b=>?_);obtain⟨e,SU,k,l,m⟩:=b;refine bJ (g S1 G i y SU _ k m) λS7 q b=>?_;obtain⟨x,S5,n,o,p⟩:=b;exact⟨e::x,S5,n,.cons l o,p⟩
def I_(B:eL):bR:=λy h A=>B y h λx SU=>x.length<=sizeLine/\∀n,SU n=X->A (.ref n) (upd SU n<|.tup x)
def Op(B:eL):bR:=λy h A=>B y h λx SU=>x.length<=sizeLine/\∀n,SU n=X->A (.ref n) (upd SU n<|.lst x)
theorem OS{i}(d:gG f Q B):bC f (.Tuple Q i S1) (I_ B):=by
 intro G j y h A Y k;refine wpAny_Tuple_spliced (bJ (d S1 G j y h _ Y k) λS7 b ⟨x,SU,e,r,g,p⟩=>⟨by rw[<-r.length];exact g,?_⟩);have l:SU b.heap.objs.size=X:=e.aV.fresh (bm _);refine⟨.ref b.heap.objs.size,upd SU b.heap.objs.size<|.tup x,e.laid (Tk:=b.toks) (λc I a=>bS _ a) (bm _) ?_,rfl,p _ l⟩;exact⟨g,S7,r,⟨_,da _ rfl,rfl,_,rfl⟩⟩
theorem PO(d:gG f Q B):bC f (.List Q S1) (Op B):=by
 intro G j y h A Y i;refine wpAny_List_spliced (bJ (d S1 G j y h _ Y i) λS7 b ⟨x,SU,e,r,g,p⟩=>⟨by rw[<-r.length];exact g,?_⟩);have k:SU b.heap.objs.size=X:=e.aV.fresh (bm _);refine⟨.ref b.heap.objs.size,upd SU b.heap.objs.size<|.lst x,e.laid (Tk:=b.toks) (λc I a=>bS _ a) (bm _) ?_,rfl,p _ k⟩;exact⟨g,S7,0,r,da _ rfl⟩
end
abbrev kr:=List as->au->cw->fA->Prop
abbrev jd:=List dP->au->ak->fA->ae->ak->Prop
variable{M:jd}
structure sC(SS:bw)(D:a9)(SK:PySem.W.Frag)(aw:ay->Option ae)(SW:aT)(O:bp)(Tp:List dP)(j:ak)(h:au):Prop where
 frames:O.frames=Z Tp
 mod:Mod SK aw SW
 bs:∀c m,SW.get? c=Z m->j.heap.get? c=Z m/\h c=X
 ii:SW.objs.size<=j.heap.objs.size
 f9:j.heap.FunFrames SW Tp
 jG:∀c∈ds Tp,h c=X
 aV:c_ SS D h j.heap
 bare:j0 j.gens
def yS(Tp:List dP)(SS:bw)(D:a9)(h:au)(j:ak)(A:cw)(I:ae)(SN:ak):Prop:=
 ∃s R,SN.os=j.os/\j0 SN.gens/\dz (ds Tp) [] h R j.heap SN.heap/\c_ SS D R SN.heap/\bZ s I/\A s R
def NC(M:jd)(Tp:List dP)(SS:bw)(D:a9)(h:au)(j:ak)(A:cw)(SM:fA)(r:rj)(SN:ak):Prop:=
 match r with
 |.ok (.ret I)=>yS Tp SS D h j A I SN
 |.ok _=>False
 |.error a=>M Tp h j SM a SN
structure gx(SS:bw)(D:a9)(SK:PySem.W.Frag)(aw:ay->Option ae)(SW:aT)(M:jd)(o:Nat)(P:ai)(fd:gp)(SO:List ay)(T0:kr):Prop where
 len:∀T h A SM,T0 T h A SM->T.length=SO.length
 run:∀(O:bp) (Tp:List dP) (j:ak) (h:au) (args:Args) (S7:List ae) (T:List as) (A:cw) (SM:fA),dV o O->sC SS D SK aw SW O Tp j h->lP j fd args (SO.zip S7)->bK T S7->T0 T h A SM->
  codeAny (aM SS D) O (.call (.ref P) args) (NC M Tp SS D h j A SM) j
section
variable{f:aH}{G:List (ai×a0)}{y:St}{h:au}{j SN:ak}
theorem Inv.EB(Y:Inv f G y h j):sC f.prog f.w f.K f.aw f.base f.A f.stack j h:=
 ⟨Y.ok.frames,Y.ok.mod,Y.bs,ed Y.ok.ii Y.iQ,Y.stack,Y.rz,Y.aV,Y.bare⟩
theorem Inv.after{A:cw}(Y:Inv f G y h j)(d:yS f.stack f.prog f.w h j A I SN):d4 f G y A I SN:=by
 obtain⟨s,R,S3,a,un,aV,r,p⟩:=d;obtain⟨b,J,k,B,e⟩:=SN;obtain rfl:e=j.os:=S3;exact⟨s,R,Y.call (U:=b) (Uf:=J) (TV:=k) (Tk:=B) (T7:=[]) un aV a (λc g=>absurd g (by simp)),r,p⟩
end
noncomputable def yb(T0:kr)(k:List as)(SM:fA)(B:eL):bR:=λy h A=>B y h λT SU=>T0 (T++k) SU A SM
def hv(SK:PySem.W.Frag)(fd:gp)(SO:List ay)(E:List ae):Prop:=
 ∀(j:ak) (S7:List ae),SK.In j.heap->(S7++E).length=SO.length->lP j fd ⟨S7,[]⟩ (SO.zip<|S7++E)
theorem hv.all{fd:gp}(d:∀S7:List ae,S7.length=SO.length->l1 fd ⟨S7,[]⟩=pure (SO.zip S7)):hv SK fd SO []:=λj S7 Y a=>by
 rw[bU]at a ⊢;exact .of_eq (d S7 a)
def td(M:jd)(f:aH)(SM:fA):Prop:=∀(G:List (ai×a0)) (y:St) (h:au) (j:ak) (a:ae) (SN:ak),Inv f G y h j->M f.stack h j SM a SN->f.ce a SN
section
variable{f:aH}{M:jd}{o:Nat}{P az:ai}{fd:gp}{SO:List ay}{T0:kr}{k:List as}{E:List ae}{SM:fA}{e i:ay}{n S1 H:Pos}{a m:a8}{Q:List a8}{TB:bR}{B:eL}
theorem Gz{A:cw}(N:gx f.prog f.w f.K f.aw f.base M o P fd SO T0)(e:dV o f.A)(g:hv f.K fd SO E)(hd:bK k E)(i:td M f SM)(Y:Inv f G y h j)(r:bK T S7)(d:T0 (T++k) h A SM):wpAny (aM f.prog f.w) f.A (call (.ref P) S7) (d4 f G y A) f.ce j:=by
 have c:bK (T++k) (S7++E):=r.append hd;have l:(S7++E).length=SO.length:=by rw[<-c.length];exact N.len _ _ _ _ d
 refine vA (n1 (N.run f.A f.stack j h ⟨S7,[]⟩ (S7++E) (T++k) A SM e Y.EB (g j S7 Y.kp l) c d) λr SN b=>?_);cases r with
 |error a=>exact i G y h j a SN Y b
 |ok aN=>
  cases aN with
  |ret I=>exact Y.after b
  |next=>exact False.elim b
  |brk=>exact False.elim b
  |cont=>exact False.elim b
theorem K3(N:gx f.prog f.w f.K f.aw f.base M o P fd SO T0)(c:dV o f.A)(g:dU f e)(i:f.aw e=Z (.ref P))(l:PySem.W.keepIn f.K (.ref P)=aa)(m:hv f.K fd SO E)(hd:bK k E)(q:td M f SM)(s:gG f (a::Q) B)(t:(e==("__debug__" : ay))=al:=by decide)(u:bG (a::Q) f.env=(al,bQ a f.env)::bG Q f.env:=by rfl)(v:(eJ S1<|bG Q f.env).any (·.1)=al:=by rfl):
  bC f (.Call (.Name e n) (a::Q) [] S1) (yb T0 k SM B):=by
 intro G j y h A Y d;refine oJ (uj Y g i ?_ t);refine y7 (h₀:=f.base) Y.ok.mod.pn l (bJ (s S1 G j y h _ Y d) λS7 z ⟨T,SU,b,r,p⟩=>⟨b.kp,?_⟩) u v;exact Gz N c m hd q b r p
end
section
variable{f:aH}{M:jd}{o:Nat}{P az:ai}{fd:gp}{SO SY:List ay}{T0:kr}{SM:fA}{e i:ay}{n S1 H l:Pos}{a m:a8}{Q:List a8}{T2:List lv}{TW TB:bR}{B Tu:eL}{k:Option ay}
variable{J:List ae->List ae->List ae}{p:List as->List as->List as}
end
structure ki(Tb SS:List ay)(B:gs):Prop where
 kind:B.kind=.function
 co:B.isCoroutine=al
 gen:B.isGenerator=al
 ah:Tb.Nodup
 pre:Tb.take SS.length=SS
 par:∀e∈SS,B.names.lookup e=Z .local\/B.names.lookup e=Z .cell
 Ij:∀t∈B.names,t.2≠.free
theorem Cf{a:ay->Option dp}{e:ay}:∀{binds:List (ay×ae)}{i:ay->Option ae},(∀s,(e,s)∉binds)->bindL a binds i e=i e
 |[],_,_=>rfl
 | (v,s)::r,i,d=>by
  unfold bindL;rw[Cf λD b=>d D<|kx _ b];split
  ·have:e≠v:=by rintro rfl;exact d s kW
   simp[this]
  ·rfl
theorem Ak{a:ay->Option dp}{e:ay}:∀{binds:List (ay×ae)}{i:ay->Option ae},(∀s,(e,s)∉binds)->bindC a binds i e=i e
 |[],_,_=>rfl
 | (v,s)::r,i,d=>by
  unfold bindC;rw[Ak λD b=>d D<|kx _ b];split
  ·rfl
  ·have:e≠v:=by rintro rfl;exact d s kW
   simp[this]
theorem FF{a:ay->Option dp}{e:ay}{s:ae}:∀{SS:List ay}{T:List ae}{b:Nat}{i:ay->Option ae},SS.Nodup->SS[b]?=Z e->T[b]?=Z s->a e=Z .local->
  bindL a (SS.zip T) i e=Z s
 |[],_,_,_,_,d,_,_=>by simp at d
 |_::_,[],_,_,_,_,d,_=>by simp at d
 |n::SS,D::T,0,i,ah,l,C,c=>by
  simp at l C;subst l;subst C;show bindL a ((n,D)::SS.zip T) i n=_;unfold bindL;rw[Cf λs f=>(hL.mp ah).1 (no f).1,aB c];simp
 |n::SS,D::T,b+1,i,ah,l,C,c=>by
  show bindL a ((n,D)::SS.zip T) i e=_;unfold bindL;exact FF (b:=b) (hL.mp ah).2 (by simpa using l) (by simpa using C) c
theorem GI{a:ay->Option dp}{e:ay}{s:ae}:∀{SS:List ay}{T:List ae}{b:Nat}{i:ay->Option ae},SS.Nodup->SS[b]?=Z e->T[b]?=Z s->a e≠Z .local->
  bindC a (SS.zip T) i e=Z s
 |[],_,_,_,_,d,_,_=>by simp at d
 |_::_,[],_,_,_,_,d,_=>by simp at d
 |n::SS,D::T,0,i,ah,l,C,c=>by
  simp at l C;subst l;subst C;show bindC a ((n,D)::SS.zip T) i n=_;unfold bindC;rw[Ak λs f=>(hL.mp ah).1 (no f).1,aG c];simp
 |n::SS,D::T,b+1,i,ah,l,C,c=>by
  show bindC a ((n,D)::SS.zip T) i e=_;unfold bindC;exact GI (b:=b) (hL.mp ah).2 (by simpa using l) (by simpa using C) c
noncomputable def start(Tb:List ay)(T:List as):St:=T.map Z++List.replicate (Tb.length-T.length) X
noncomputable def ia(M:jd)(SS:bw)(D:a9)(SK:PySem.W.Frag)(aw:ay->Option ae)(SW:aT)(Tb:List ay)(TU:ay)(S9:gs)(P:ai)(Ud:ae)(O:bp)(Tp:List dP)(j:ak)(h:au)(SM:fA):aH where
 prog:=SS
 w:=D
 K:=SK
 aw:=aw
 base:=SW
 A:=O.deeper (hS TU S9 j.heap.objs.size P Ud)
 N:=Tb
 ea:=j
 oz:=h
 env:=hS TU S9 j.heap.objs.size P Ud
 outer:=Tp
 stack:=hS TU S9 j.heap.objs.size P Ud::Tp
 ex:=[]
 calm:=aa
 fn:=λ_=>aa
 gt:=[]
 ce:=λa SN=>wpAny (aM SS D) (O.deeper<|hS TU S9 j.heap.objs.size P Ud) (leaving (hS TU S9 j.heap.objs.size P Ud) a) (λ_ b=>M Tp h j SM a b) (λc b=>M Tp h j SM c b) SN
theorem GU{B:gs}(d:B.names.lookup e=Z .cell):∃q,(zr v B.names []).lookup e=Z q:=by
 have p:=Ai B.names v [] (.inl d);exact yi.mp p
theorem OT{P:ai}{Ud:ae}{Tp:List dP}{w:ak}{SM:fA}(S0:ki Tb SO S9)(hd:O.handled=X)(f:sC SS D SK aw SW O Tp j h)(E:T.length=SO.length)(r:bK T S7)(e:InCallC j j.heap.objs.size (bindL (hS TU S9 j.heap.objs.size P Ud).kindOf (SO.zip S7) λ_=>X) (zr (j.heap.objs.size+1) S9.names []) (bindC (hS TU S9 j.heap.objs.size P Ud).kindOf (SO.zip S7) λ_=>X) w):
  Inv (ia M SS D SK aw SW Tb TU S9 P Ud O Tp j h SM) [] (start Tb T) h w:=by
 have G:SO.length<=Tb.length:=by have:=congrArg List.length S0.pre;rw[gb]at this;lia
 obtain⟨l,Tu,rfl,x⟩:=e.done;have u:∀c:ai,c∉(ia M SS D SK aw SW Tb TU S9 P Ud O Tp j h SM).ex:=λc k=>absurd (show c∈([]:List ai) from k) (by simp);refine⟨⟨f.mod,S0.kind,rfl,rfl,bm _,λt k q l C=>?_,λt i=>?_,λt q Y d=>?_,λ_=>hd,bp.frames_deeper f.frames,.inr ⟨rfl,rfl⟩,λc k=>absurd k<|u c,f.bs,f.ii,λc Y Y=>u c,λc k=>absurd k<|u c,f.f9,f.jG⟩,
  rfl,f.bare,dz.kept x,⟨_,e.toInCall.ns,λb t s l C H=>?_⟩,λt q d=>⟨_,e.cell t q d⟩,f.aV.fresh<|bm _,λt q d=>?_,λn m=>absurd (show n∈([]:List (ai×a0)) from m) (by simp),f.aV.kept x,?_⟩
 ·exact name_of_addr e.apart (PySem.mem_of_lookup l) (PySem.mem_of_lookup C)
 ·have i:S9.names.lookup t=Z .cell\/S9.names.lookup t=Z .free:=i;rcases i with i|i
  ·exact GU i
  ·exact absurd rfl (S0.Ij _<|PySem.mem_of_lookup i)
 ·exact mh (e.above t q<|PySem.mem_of_lookup d)
 ·have SJ:b<T.length:=by
   unfold start at C;by_cases SJ:b<T.length
   ·exact SJ
   ·rw[kY (by simpa using SJ)]at C;rw[List.getElem?_replicate]at C;split at C<;>cases C
  have A:T[b]?=Z s:=by
   unfold start at C;rw[lf (by simpa using SJ),d3]at C;cases a:T[b]? with
   |none=>rw[a]at C;cases C
   |some g=>rw[a]at C;cases C;rfl
  obtain⟨I,y,B⟩:=r.get A;have m:SO[b]?=Z t:=by
   rw[<-S0.pre,List.getElem?_take_of_lt (by lia)];exact l
  have z:SO.Nodup:=by rw[<-S0.pre];exact S0.ah.sublist (op _ _)
  refine⟨I,B,?_⟩;rcases S0.par t (e5 m) with o|o
  ·exact .inl ⟨o,FF z m y o⟩
  ·obtain⟨q,a⟩:=GU (v:=j.heap.objs.size+1) o;refine .inr ⟨.inl o,q,a,?_⟩;have p:=e.cell t q a;rw[GI z m y (by show S9.names.lookup t≠_;rw[o];decide)]at p;exact p
 ·exact f.aV.fresh (mh<|e.above t q<|PySem.mem_of_lookup d)
 ·unfold start;show _=Tb.length;rw[cb,a5,List.length_replicate];lia
theorem Ck{P:ai}{name:ay}{i:Arguments}{n ct w Te z ca C:ae}{k l:Option ai}{L:Array (Option ae)}{T0:kr}(lk:SK.lookup P=Z ⟨C,l,.func<|PySem.W.fnOf name TU i T9 S9 n ct w Te k z ca,L⟩)(y:PySem.W.codeIn SK z TU=aa)(S0:ki Tb SO S9)(len:∀T h A SM,T0 T h A SM->T.length=SO.length)(E:∀(O:bp) (Tp:List dP) (j:ak) (h:au) (T:List as) (A:cw) (SM:fA),dV o (O.deeper<|hS TU S9 j.heap.objs.size P z)->T0 T h A SM->
   ∃B,gm (ia M SS D SK aw SW Tb TU S9 P z O Tp j h SM) T9 B/\B {aZ:=λ_ R=>A .aR R,dO:=A} (start Tb T) h):
  gx SS D SK aw SW M (o+1) P (PySem.W.fnOf name TU i T9 S9 n ct w Te k z ca) SO T0:=by
 refine⟨len,λO Tp j h args S7 T A SM f b G r q=>?_⟩;have H:=len _ _ _ _ q;have u:SK.In j.heap:=b.mod.pn.keeps λc m a=>(b.bs c m a).1;have J:j.heap.NoLimit:=b.mod.nolimit.keeps λc m a=>(b.bs c m a).1;have N:∀t∈SO.zip S7,S9.names.lookup t.1=Z .local\/(S9.names.lookup t.1=Z .cell/\((zr (j.heap.objs.size+1) S9.names []).lookup t.1).isSome=aa):=λ⟨v,s⟩ Q=>by
  rcases S0.par v (no Q).1 with p|p
  ·exact .inl p
  ·exact .inr ⟨p,Ai _ _ _<|.inl p⟩
 refine codeAny_call_function f.depth (u _ _ lk) rfl S0.co S0.gen rfl (PySem.W.codeRec_of u y) (G _ _ _ _ ?_);refine wpAny_newFunctionEnv_cells S0.kind N λSL S x e=>?_;subst S;refine⟨J.keeps e.toInCall.keep,codeAny_func ?_⟩;obtain⟨B,bt,U⟩:=E O Tp j h T A SM (f.deeper _) q;have Y:Inv (ia M SS D SK aw SW Tb TU S9 P z O Tp j h SM) [] (start Tb T) h x:=OT S0 f.hd b H r e;refine fY (bt [] x (start Tb T) h _ Y U) (λaN SN SX=>?_) λa SN SX=>SX;have fin:∀{d:St}{R:au}{s:as}{I:ae},Inv (ia M SS D SK aw SW Tb TU S9 P z O Tp j h SM) [] d R SN->bZ s I->A s R->yS Tp SS D h j A I SN:=
  λ{d R s I} Tt g p=>⟨s,R,Tt.os,Tt.bare,Tt.base,Tt.aV,g,p⟩;cases aN with
 |ret I=>
  obtain⟨s,d,R,Tt,g,p⟩:=SX;exact fin Tt g p
 |next=>
  obtain⟨d,R,Tt,p⟩:=SX;exact fin (s:=as.aR) (I:=ae.none) Tt rfl p
 |brk=>
  obtain⟨K,K,K,p⟩:=SX;exact False.elim p
 |cont=>
  obtain⟨K,K,K,p⟩:=SX;exact False.elim p
section
variable{f:aH}{e:ay}{n S1:Pos}{a:a8}{Q:List a8}{B:eL}{id L:String}{r:List as->au->cw->Prop}
noncomputable def Ct(r:List as->au->cw->Prop)(B:eL):bR:=λy h A=>B y h λT SU=>r T SU A
theorem BI(b:eu f (.builtin id) r)(c:dU f e)(g:f.aw e=X)(i:eE e=Z (.builtin id))(k:gG f (a::Q) B)(l:e ≠ "__name__" := by decide)(m:(e==("__debug__" : ay))=al:=by decide)(o:bG (a::Q) f.env=(al,bQ a f.env)::bG Q f.env:=by rfl)(p:(eJ S1<|bG Q f.env).any (·.1)=al:=by rfl):bC f (.Call (.Name e n) (a::Q) [] S1) (Ct r B):=by
 intro G j y h A Y d;refine oJ (nv Y c g i ?_ l m);exact Be (bJ (k S1 G j y h _ Y d) λS7 q ⟨T,SU,s,t,u⟩=>b G q y SU T S7 A s t u) o p
theorem Rb(b:eu f (.type L) r)(c:dU f e)(g:f.aw e=X)(i:eE e=Z (.type L))(k:gG f (a::Q) B)(l:e ≠ "__name__" := by decide)(m:(e==("__debug__" : ay))=al:=by decide)(o:bG (a::Q) f.env=(al,bQ a f.env)::bG Q f.env:=by rfl)(p:(eJ S1<|bG Q f.env).any (·.1)=al:=by rfl):bC f (.Call (.Name e n) (a::Q) [] S1) (Ct r B):=by
 intro G j y h A Y d;refine oJ (nv Y c g i ?_ l m);exact tE (bJ (k S1 G j y h _ Y d) λS7 q ⟨T,SU,s,t,u⟩=>b G q y SU T S7 A s t u) o p
end
end L2
namespace cY
open PySem PyProof.Rows
variable{SJ S:Option Int}{t b8:ae}{aW B:ai}{A:ae->ak->Prop}
theorem J8(O:bp)(j:ak)(g:Int)(B:gR)(q:Int)(I:gR)(SR:bw)(D:a9)(SM:ae->ak->Prop)(A:ae->ak->Prop)(d:A (.bool<|decide (g<q)) j):
  wpAny (aM SR D) O (richCompare .Lt (.int g B)<|.int q I) A SM j:=
 (RW d:wpAny (aM SR D) O (dG .Lt (.int g B)<|.int q I) A SM j)
section
open PySem.SeqAt
open PySem.AutoSeq1 (wpAny_loadPart')
open PySem.MeetsSeq PySem.MeetsSeq2 PySem.MeetsSeq3
end
section
variable{SR:bw}{D:a9}{O:bp}{SM:ae->ak->Prop}{j:ak}
theorem L7{c:ai}{T b:List ae}(bt:lp j.heap B T.toArray)(o:lp j.heap c b.toArray)(g:T≠[])(l:b=[]->A (.ref B) j)(C:b≠[]->A (.ref j.heap.objs.size) {j with heap:=j.heap.push {cls:=.type "tuple",data:=.seq (T++b).toArray} })(p:T.length+b.length<=sizeLine):wpAny (aM SR D) O (fW .Add (.ref B)<|.ref c) A SM j:=by
 obtain⟨⟨cls,h,data,aW⟩,d,i,v,hd⟩:=id bt;obtain⟨⟨q,k,data2,m⟩,e,n,TZ,hd2⟩:=id o;simp only at i hd n hd2;subst i hd n hd2;have a:T.toArray++b.toArray=(T++b).toArray:=by simp
 by_cases f:b=[]
 ·exact v6 ⟨_,d,rfl⟩ ⟨_,e,rfl⟩ yR yJ v0 wm (x6 _ _)
   (tuple_addW1 B c T.toArray b.toArray v TZ h k aW m (by simpa using g) (by simp[f])) ⟨d,e,l f⟩
 ·refine v6 ⟨_,d,rfl⟩ ⟨_,e,rfl⟩ yR yJ v0 wm (x6 _ _)
   (tuple_addW2 B c T.toArray b.toArray v TZ h k aW m (by simpa using g) (by simpa using f) (by rw[cr,cr];exact p)) ⟨d,e,?_⟩;rw[a];exact C f
noncomputable def b5(v k:Nat):Option Int->Nat
 |none=>k
 |some s=>if s<0 then (s+(v:Int)).toNat else min s.toNat v
theorem FT(v k:Nat):b5 v k X=k:=rfl
theorem FC(v k o:Nat):b5 v k (Z (o:Int))=min o v:=by
 show (if (o:Int)<0 then ((o:Int)+(v:Int)).toNat else min (o:Int).toNat v)=min o v;rw[aG (by lia),mj]
theorem MH(v k:Nat)(hd:k<=v)(m:Option Int):b5 v k m<=v:=by
 cases m with
 |none=>exact hd
 |some s=>
  show (if s<0 then (s+(v:Int)).toNat else min s.toNat v)<=v;by_cases a:s<0
  ·rw[aB a];lia
  ·rw[aG a];exact Nat.min_le_right _ _
theorem C6(s:Int)(v k:Nat):(if s<0 then max (s+(v:Int)) 0 else min s (v:Int))=((b5 v k (Z s):Nat):Int):=by
 show (if s<0 then max (s+(v:Int)) 0 else min s (v:Int))=(((if s<0 then (s+(v:Int)).toNat else min s.toNat v):Nat):Int);by_cases a:s<0
 ·simp only[aB a];lia
 ·simp only[aG a];lia
theorem JN(S SJ:Option Int)(v:Nat):ba.Slice.sliceAdjust S SJ 1 (v:Int)=(((b5 v 0 S:Nat):Int),((b5 v v SJ:Nat):Int)):=by
 have l:¬ ((1:Int)<0):=by lia
 unfold ba.Slice.sliceAdjust;simp only[l,fF];refine i_ ?_ ?_
 ·cases S with
  |none=>rfl
  |some s=>exact C6 s v 0
 ·cases SJ with
  |none=>rfl
  |some s=>exact C6 s v v
theorem R3(b u:Nat):ba.Slice.slicePlaces (b:Int) (u:Int) 1=u-b:=by
 unfold ba.Slice.slicePlaces;have l:(1:Int)>0:=by lia
 simp only[l,hQ,BQ];split<;>lia
theorem DT{s:ae}{m:Option Int}{A:Option Int->ak->Prop}(n:ku s m)(d:A m j):wpAny (aM SR D) O (ba.Slice.slicePartIndex s) A SM j:=by
 cases n with
 |none=>exact rW d
 |int b B=>exact Gj d
theorem C2{v:Nat}{A:Int×Int×Nat->ak->Prop}(SX:j.heap.IsSliceOf aW b8 t .none)(bk:ku b8 S)(c:ku t SJ)(d:A (((b5 v 0 S:Nat):Int),1,b5 v v SJ-b5 v 0 S) j):wpAny (aM SR D) O (ba.Slice.sliceApplied (.ref aW)<|pure (v:Int)) A SM j:=by
 obtain⟨S3,a,f,b⟩:=id SX;unfold ba.Slice.sliceApplied ba.Slice.sliceFields;refine ao (ao<|gu a b (x:=b8) rfl<|ao<|gu a b (x:=t) rfl<|ao<|gu a b (x:=.none) rfl<|aJ ?_);refine ao (rW ?_);show wpAny _ _ (if ((1:Int)==0)=aa then _ else _) _ _ j;rw[aG (by decide)];refine ao (DT bk<|ao<|DT c<|ao<|aJ ?_);show wpAny _ _ (match ba.Slice.sliceAdjust S SJ 1 (v:Int) with|(S,SJ)=>pure (S,(1:Int),ba.Slice.slicePlaces S SJ 1)) _ _ j;rw[JN S SJ v];show wpAny _ _ (pure (((b5 v 0 S:Nat):Int),(1:Int),ba.Slice.slicePlaces ((b5 v 0 S:Nat):Int) ((b5 v v SJ:Nat):Int) 1)) _ _ j;rw[R3];exact aJ d
theorem Kh(x:Array ae)(b o:Nat):((range o).filterMap λ(i:Nat)=>x[((b:Int)+(i:Int)*1).toNat]?).toArray=((x.toList.drop b).take o).toArray:=by
 have a:(λ(i:Nat)=>x[((b:Int)+(i:Int)*1).toNat]?)=λi=>x[b+i]?:=by
  funext i;have:((b:Int)+(i:Int)*1).toNat=b+i:=by lia
  rw[this]
 rw[a];have:=pick_run x b o;rw[CU]at this;have c:((λe=>x[e]?) ∘ λe=>b+e)=λi=>x[b+i]?:=rfl;rw[c]at this;rw[this]
theorem QC{S_:Array ae}(bt:lp j.heap B S_)(SX:j.heap.IsSliceOf aW b8 t .none)(bk:ku b8 S)(b:ku t SJ)(c:¬ (b5 S_.size 0 S=0/\b5 S_.size S_.size SJ=S_.size))(d:A (.ref j.heap.objs.size) {j with heap:=j.heap.push {cls:=.type "tuple",data:=.seq ((S_.toList.drop<|b5 S_.size 0 S).take<|b5 S_.size S_.size SJ-b5 S_.size 0 S).toArray} })(k:S_.size<=sizeLine):wpAny (aM SR D) O (j2 (.ref B)<|.ref aW) A SM j:=by
 have a:sizeOk (.seq ((S_.toList.drop<|b5 S_.size 0 S).take<|b5 S_.size S_.size SJ-b5 S_.size 0 S).toArray):=by
  show ((S_.toList.drop<|b5 S_.size 0 S).take<|b5 S_.size S_.size SJ-b5 S_.size 0 S).toArray.size<=sizeLine;rw[cr,gb,e4,db];lia
 have l:b5 S_.size S_.size SJ<=S_.size:=MH _ _ (bm _) SJ;obtain⟨S3,e,f,m⟩:=id SX;have g:j.TypeIs (.ref aW) "slice" := ⟨S3,e,f⟩;unfold j2;try with_reducible refine gf ?_
 first|refine ao (aJ ?_)|skip
 refine ao (yc bt.typeIs (by decide) ?_);refine ao (jf (name:=ay.ofString "__getitem__") bt.typeIs k_
  (gW k_ bt.typeIs x8 ?_<|yp _ _));show wpAny _ _ (ba.Tuple.tupleItemsOf (.ref B) >>= _) _ _ j;refine ao (y1 bt ?_);refine ao (lD g ?_);rw[aB (by decide)];refine ao (C2 SX bk b ?_);have h:¬ ((((b5 S_.size 0 S:Nat):Int)==0&&(1:Int)==1&&(b5 S_.size S_.size SJ-b5 S_.size 0 S)==S_.size)=aa):=by
  intro p;rw[cd,cd]at p;have n:((b5 S_.size 0 S:Nat):Int)=0:=eq_of_beq p.1.1;have o:b5 S_.size S_.size SJ-b5 S_.size 0 S=S_.size:=eq_of_beq p.2;exact c ⟨by lia,by lia⟩
 show wpAny _ _ (if (((b5 S_.size 0 S:Nat):Int)==0&&(1:Int)==1&&(b5 S_.size S_.size SJ-b5 S_.size 0 S)==S_.size)=aa then _ else _) _ _ j;rw[aG h,Kh];first
  | exact ao (m:=ba.Tuple.tupleExact _) (fq (aJ ⟨_,rfl,aJ d⟩) a)
  | exact ao (m:=ba.Tuple.tupleExact _) (fq (ao<|aJ<|aJ ⟨_,rfl,aJ d⟩) a)
  | exact ao (ao (m:=ba.Tuple.tupleExact _)<|fq (aJ<|aJ ⟨_,rfl,aJ d⟩) a)
  | exact ao (ao (m:=ba.Tuple.tupleExact _)<|fq (aJ ⟨_,rfl,aJ d⟩) a)
end
end cY
namespace L2
open PySem PySem.Spec PyProof.Rows
variable{U:aT}{A:ae->ak->Prop}{c g n:ai}{R h:au}{M:List (List ab×as)}{D:a9}{SS:bw}{m:Option as}{Tk v:Nat}{w SZ S7:List ae}{j:ak}{y:St}{G:List (ai×a0)}{r:bO}{Ta:Type}{b:Int}{x:List (List ab×ai×ae)}
abbrev cH:=St->au->(Option Int->au->Prop)->Prop
def A2(f:aH)(a:Option a8)(B:cH)(G:List (ai×a0)):Prop:=
 ∀(j:ak) (y:St) (h:au) (A:Option Int->au->Prop),Inv f G y h j->B y h A->
  wpAny (aM f.prog f.w) f.A (evalPart a f.env) (λI SN=>∃m R,Inv f G y R SN/\ku I m/\A m R) f.ce j
def nY(f:aH)(a:Option a8)(B:cH):Prop:=∀G,A2 f a B G
noncomputable def OW:cH:=λ_ h A=>A X h
noncomputable def H_(B:bR):cH:=λy h A=>B y h λe SU=>∃b,e=.int b/\A (Z b) SU
section
variable{f:aH}{a:a8}{TW:bR}{S SJ:Option a8}{Ub n7:cH}{S1 Tv:Pos}
theorem H4:nY f X OW:=by
 intro G j y h A Y d;rw[w1];exact aJ ⟨X,h,Y,.none,d⟩
theorem HN(d:bC f a TW):nY f (Z a) (H_ TW):=by
 intro G j y h A Y c;rw[zM];refine bJ (d G j y h _ Y c) λI m g=>?_;obtain⟨e,SU,i,k,l⟩:=g;obtain⟨b,rfl,p⟩:=l;obtain⟨B,rfl⟩:=k;exact⟨Z b,SU,i,.int b B,p⟩
def p5(f:aH)(r:as->Option Int->Option Int->au->cw->Prop):Prop:=
 ∀(G:List (ai×a0)) (j:ak) (y:St) (h:au) (e:as) (s b8 t:ae) (S SJ:Option Int) (aW:ai) (A:cw),Inv f G y h j->bZ e s->j.heap.IsSliceOf aW b8 t .none->ku b8 S->ku t SJ->r e S SJ h A->
  ∃L id,yQ (.type L) "__getitem__" = pure (Z<|.builtin id)/\j.TypeIs s L/\wpAny (aM f.prog f.w) f.A (j2 s<|.ref aW) (d4 f G y A) f.ce j
noncomputable def Jv(r:as->Option Int->Option Int->au->cw->Prop)(TW:bR)(Ub n7:cH):bR:=λy h A=>TW y h λe SU=>Ub y SU λH S5=>n7 y S5 λI a=>r e H I a A
theorem RU{r:as->Option Int->Option Int->au->cw->Prop}(k:p5 f r)(l:bC f a TW)(m:nY f S Ub)(n:nY f SJ n7):bC f (.Subscript a (.Slice S SJ X Tv) S1) (Jv r TW Ub n7):=by
 intro G j y h A Y d;refine xx (bJ (l G j y h _ Y d) λs o g=>?_);obtain⟨e,SU,q,u,v⟩:=g;refine wpAny_Slice (bJ (m G o y SU _ q v) λb8 x ⟨H,S5,z,bk,B⟩=>bJ (n G x y S5 _ z B) λt b g=>?_);obtain⟨I,i,C,E,F⟩:=g;rw[w1];refine aJ ?_;have J:Inv f G y i {b with heap:=b.heap.push {cls:=.type "slice",data:=.fields #[b8,t,.none]} }:=C.kept (Tk:=b.toks) λc P p=>bS _ p;obtain⟨L,id,M,bt,N⟩:=k G {b with heap:=b.heap.push {cls:=.type "slice",data:=.fields #[b8,t,.none]} } y i e s b8 t H I b.heap.objs.size A J u (aT.IsSliceOf.new ..) bk E F;show wpAny (aM f.prog f.w) f.A (xA a (.Slice S SJ X Tv) s<|.ref b.heap.objs.size) (d4 f G y A) f.ce {b with heap:=b.heap.push {cls:=.type "slice",data:=.fields #[b8,t,.none]} };exact w8 (ops:=[.ref b.heap.objs.size,s]) bt M N (by with_unfolding_all rfl)
noncomputable def mv(x:List as)(S SJ:Option Int):List as:=(x.drop<|cY.b5 x.length 0 S).take (cY.b5 x.length x.length SJ-cY.b5 x.length 0 S)
theorem Cr(x:List as)(S SJ:Option Int):(mv x S SJ).length<=x.length:=by
 unfold mv;rw[gb,e4];lia
def JJ(SK:PySem.W.Frag):as->Option Int->Option Int->au->cw->Prop:=λe S SJ h A=>∃g x,e=.ref g/\b7 SK h g x/\
 ¬ (cY.b5 x.length 0 S=0/\cY.b5 x.length x.length SJ=x.length)/\∀n,h n=X->A (.ref n) (upd h n<|.tup<|mv x S SJ)
theorem LK:p5 f (JJ f.K):=by
 intro G j y h e s b8 t S SJ aW A Y i SX bk k d;obtain⟨g,x,rfl,l,n,p⟩:=d;cases i;obtain⟨SZ,r,bt,b⟩:=Y.tuple l;have a:SZ.toArray.size=x.length:=by rw[cr];exact r.length.symm
 refine⟨"tuple",_,k_.lookup,bt.typeIs,?_⟩;refine cY.QC bt SX bk k (by rw[a];exact n) ?_ (by rw[a];exact b);rw[a];refine⟨.ref j.heap.objs.size,_,Y.laid (Tk:=j.toks) (m:=.tup (mv x S SJ)) (λc o p=>bS _ p) (bm _) ?_,rfl,p _<|Y.aV.fresh<|bm _⟩;exact⟨ed (Cr x S SJ) b,_,(r.drop<|cY.b5 x.length 0 S).take<|cY.b5 x.length x.length SJ-cY.b5 x.length 0 S,lL.new _ _⟩
def Qf(SK:PySem.W.Frag):bO:=λe t h A=>∃g c x S2,e=.ref g/\t=.ref c/\b7 SK h g x/\b7 SK h c S2/\x≠[]/\x.length+S2.length<=sizeLine/\
 (S2=[]->A (.ref g) h)/\(S2≠[]->∀n,h n=X->A (.ref n) (upd h n<|.tup<|x++S2))
theorem bK.ts{x:List as}(r:bK x S7):S7=[]↔x=[]:=by
 cases r with
 |nil=>simp
 |cons _ _=>simp
theorem Jz:dj f (fW .Add) (Qf f.K):=by
 intro G j y h e t s I A Y l n d;obtain⟨g,c,x,S2,rfl,rfl,o,q,r,k,u,v⟩:=d;cases l;cases n;obtain⟨SZ,i,w,W⟩:=Y.tuple o;obtain⟨z,b,Tv,W⟩:=Y.tuple q;refine cY.L7 w Tv (λa=>r<|i.ts.mp a) (λa=>⟨.ref g,h,Y,rfl,u<|b.ts.mp a⟩) (λa=>?_) (by rw[<-i.length,<-b.length];exact k);refine⟨.ref j.heap.objs.size,_,Y.laid (Tk:=j.toks) (m:=.tup (x++S2)) (λc B p=>bS _ p) (bm _) ?_,rfl,v (λD=>a<|b.ts.mpr D) _<|Y.aV.fresh<|bm _⟩;exact⟨by rw[cb];exact k,_,i.append b,lL.new _ _⟩
end
noncomputable def ju(v:Nat)(b:Int):Option Nat:=if 0<=b then (if b<v then Z b.toNat else X) else if -(v:Int)<=b then Z (b+v).toNat else X
def d9{Ta:Type}(x:List Ta)(b:Int):Option Ta:=(ju x.length b).bind λu=>x[u]?
theorem BL{u:Nat}(d:ju v b=Z u):xV b v=Z u/\u<v /\ -(v:Int)<=b/\b<v:=by
 unfold ju at d;by_cases TN:0<=b
 ·rw[aB TN]at d;by_cases l:b<v
  ·rw[aB l]at d;have a:b.toNat=u:=Option.some.inj d;exact⟨by rw[u4 TN l,a],by lia,by lia,l⟩
  ·rw[aG l]at d;cases d
 ·rw[aG TN]at d;by_cases l : -(v:Int)<=b
  ·rw[aB l]at d;have a:(b+v).toNat=u:=Option.some.inj d;exact⟨by rw[wi (by lia) l,a],by lia,l,by lia⟩
  ·rw[aG l]at d;cases d
theorem GF{x:List Ta}{s:Ta}(d:d9 x b=Z s):∃u,xV b x.length=Z u/\x[u]?=Z s/\u<x.length /\ -(x.length:Int)<=b/\b<x.length:=by
 unfold d9 at d;cases a:ju x.length b with
 |none=>rw[a]at d;cases d
 |some u=>
  rw[a]at d;obtain⟨l,C,c,e⟩:=BL a;exact⟨u,l,d,C,c,e⟩
theorem LN(x:List Ta)(s:Ta):d9 (x++[s]) (-1)=Z s:=by
 have b:(x++[s]).length=x.length+1:=by simp
 have a:ju (x++[s]).length (-1)=Z x.length:=by
  unfold ju;rw[b,aG (by decide),aB (by lia)];congr 1;lia
 unfold d9;rw[a];show (x++[s])[x.length]?=Z s;simp
def sS(c:a8):Prop:=∀m b,subscripted c al m b=operate [m,b] (j2 m b)
def ij(f:aH)(r:bO):Prop:=
 ∀(i a:a8) (G:List (ai×a0)) (j:ak) (y:St) (h:au) (e t:as) (s I:ae) (A:cw),Inv f G y h j->bZ e s->bZ t I->r e t h A->
  subscripted a al s I=operate [s,I] (j2 s I)->wpAny (aM f.prog f.w) f.A (xA i a s I) (d4 f G y A) f.ce j
def wT(f:aH)(id:String)(r:as->List as->au->cw->Prop):Prop:=
 ∀(G:List (ai×a0)) (j:ak) (y:St) (h:au) (e:as) (x:List as) (s:ae) (S7:List ae) (A:cw),Inv f G y h j->bZ e s->bK x S7->r e x h A->
  wpAny (aM f.prog f.w) f.A (call (.builtin id) (s::S7)) (d4 f G y A) f.ce j
section
variable{f:aH}{g c:a8}{TB TY:bR}{S1:Pos}
theorem ij.or{TG:bO}(d:ij f r)(U:ij f TG):ij f (λe t h A=>r e t h A\/TG e t h A):=by
 intro i a G j y h e t s I A Y b c p SX;rcases p with p|p
 ·exact d i a G j y h e t s I A Y b c p SX
 ·exact U i a G j y h e t s I A Y b c p SX
theorem Ji(a:ij f r)(b:bC f g TB)(i:bC f c TY)(SX:sS c):bC f (.Subscript g c S1) (tC r TB TY):=by
 intro G j y h A Y d;exact xx (xY b i Y d λs I k e t S5 l m n p=>a g c G k y S5 e t s I A l m n p<|SX _ _)
def R1(SK:PySem.W.Frag):bO:=λe t h A=>∃n x b s,e=.ref n/\t=.int b/\c5 SK h n x/\d9 x b=Z s/\A s h
def Px(SK:PySem.W.Frag):bO:=λe t h A=>∃n x b s,e=.ref n/\t=.int b/\b7 SK h n x/\d9 x b=Z s/\A s h
theorem KP:ij f (R1 f.K):=by
 intro i F G j y h e t s I A Y g k d SX;obtain⟨n,x,b,m,rfl,rfl,o,q,p⟩:=d;cases g;obtain⟨B,rfl⟩:=k;obtain⟨SZ,r,bk,H⟩:=Y.list o;obtain⟨u,l,C,J,v,w⟩:=GF q;obtain⟨D,c,z⟩:=r.get C;have E:=r.length;have L:=mS;have fin:d4 f G y A D j:=⟨m,h,Y,z,p⟩;by_cases TN:0<=b
 ·have a:b.toNat=u:=by
   rw[u4 TN w]at l;exact Option.some.inj l
  exact item_listR bk.isList TN (by lia) (by rw[a];simpa using c) fin SX
 ·have a:(b+(SZ.toArray.size:Int)).toNat=u:=by
   rw[wi (by lia) v]at l;rw[cr,<-E];exact Option.some.inj l
  exact Ff (x:=D) bk.isList.typeIs Ej.lookup
   (wpAny_getItem_list_neg (Q:=λr SN=>r=D/\d4 f G y A r SN) bk.isList (by lia) (by rw[cr]<;>lia) (by lia) (by rw[a];simpa using c) ⟨rfl,fin⟩) SX
theorem Iq:ij f (Px f.K):=by
 intro i w G j y h e t s I A Y a c d SX;obtain⟨n,x,b,g,rfl,rfl,k,m,p⟩:=d;cases a;obtain⟨B,rfl⟩:=c;obtain⟨SZ,r,bk,z⟩:=Y.tuple k;obtain⟨u,l,C,E,F,H⟩:=GF m;obtain⟨D,o,q⟩:=r.get C;have v:=r.length;have J:=mS;have fin:d4 f G y A D j:=⟨g,h,Y,q,p⟩;exact Ff (x:=D) bk.typeIs slot_tuple_getitem.lookup
  (getItem_tuple (j:=u) (Q:=λr SN=>r=D/\d4 f G y A r SN) bk (by lia) (by lia) (by rw[cr,<-v];exact l) (by simpa using o) ⟨rfl,fin⟩) SX
theorem BT(SZ:List ae)(v u:Nat)(I:ae):a0.mapSeq (·.setIfInBounds u I) {cls:=.type "list",data:=.seq SZ.toArray v}={cls:=.type "list",data:=.seq (SZ.set u I).toArray v}:=by
 simp[a0.mapSeq]
variable{x:List as}
theorem Inv.lst(Y:Inv f G y h j)(d:h n=Z (.lst x)):
  ∃(SZ:List ae) (v:Nat),bK x SZ/\j.heap.get? n=Z {cls:=.type "list",data:=.seq SZ.toArray v}/\x.length<=sizeLine:=by
 obtain⟨b,SZ,v,r,a⟩:=Y.aV n _ d;exact⟨SZ,v,r,a,b⟩
theorem Inv.HH{S2:List as}{b:Nat}{P:a0->a0}(Y:Inv f G y h j)(d:h n=Z (.lst x))(i:j.heap.get? n=Z {cls:=.type "list",data:=.seq SZ.toArray v})(g:P {cls:=.type "list",data:=.seq SZ.toArray v}={cls:=.type "list",data:=.seq w.toArray b})(r:bK S2 w)(k:S2.length<=sizeLine)(B:Nat):
  Inv f G y (upd h n<|.lst S2) {j with heap:=j.heap.update n P,toks:=B}:=by
 have a:(j.heap.update n P).get? n=Z {cls:=.type "list",data:=.seq w.toArray b}:=by
  rw[nc P i (by rw[g]<;>rfl),g]
 refine Y.write (e:=n) (a:=n) (by rw[d];trivial) (.inl rfl) (λc I l p=>(k7 _ _<|fB l).trans p) ⟨_,a⟩ ?_;exact⟨k,w,b,r,a⟩
def Lz:as->as->as->au->(au->Prop)->Prop:=λm b s h A=>∃n x o u,m=.ref n/\b=.int o/\h n=Z (.lst x)/\ju x.length o=Z u/\A (upd h n<|.lst<|x.set u s)
theorem LJ:ym f Lz:=by
 intro G j y h m b s F H I A Y i w z d;obtain⟨n,x,o,u,rfl,rfl,g,D,p⟩:=d;cases i;obtain⟨B,rfl⟩:=w;obtain⟨SZ,v,r,a,E⟩:=Y.lst g;obtain⟨l,C,k,q⟩:=BL D;have c:=r.length;have J:=mS;have t:Inv f G y (upd h n<|.lst<|x.set u s) {j with heap:=j.heap.update n (a0.mapSeq (·.setIfInBounds u I))}:=
  Y.HH g a (BT SZ v u I) (r.set z u) (by rw[qY];exact E) j.toks;by_cases TN:0<=o
 ·have e:o.toNat=u:=by
   rw[u4 TN q]at l;exact Option.some.inj l
  exact PySem.W.ki_setAt a TN (by lia) (by rw[cr,<-c];exact q) (by rw[e];exact⟨_,t,p⟩)
 ·have e:(o+(SZ.toArray.size:Int)).toNat=u:=by
   rw[wi (by lia) k]at l;rw[cr,<-c];exact Option.some.inj l
  exact PySem.W.ki_setBack a (by lia) (by rw[cr,<-c];exact k) (by lia) (by rw[e];exact⟨_,t,p⟩)
theorem Pu(S SJ:Option Int)(v:Nat):(na S SJ X v).1=((cY.b5 v 0 S:Nat):Int)/\(na S SJ X v).2.1=((cY.b5 v v SJ:Nat):Int)/\(na S SJ X v).2.2=1:=by
 refine⟨?_,?_,rfl⟩
 ·cases S with
  |none=>simp[na,cY.b5]
  |some b=>
   simp only[na,cY.b5,Fb,show (1:Int)>0 by decide,hQ];by_cases d:b<0
   ·simp only[d,hQ]<;>lia
   ·simp only[d,fF]<;>lia
 ·cases SJ with
  |none=>simp[na,cY.b5]
  |some b=>
   simp only[na,cY.b5,Fb,show (1:Int)>0 by decide,hQ];by_cases d:b<0
   ·simp only[d,hQ]<;>lia
   ·simp only[d,fF]<;>lia
theorem Ho(SZ:List ae)(S SJ:Option Int):slicePick SZ.toArray S SJ X=((SZ.drop<|cY.b5 SZ.length 0 S).take<|cY.b5 SZ.length SZ.length SJ-cY.b5 SZ.length 0 S).toArray:=by
 obtain⟨l,C,a⟩:=Pu S SJ SZ.toArray.size;unfold slicePick;rw[l,C,a];simp only[sliceRange_one,pick_run,cr]<;>rfl
def KU(SK:PySem.W.Frag):as->Option Int->Option Int->au->cw->Prop:=λe S SJ h A=>∃g x,e=.ref g/\c5 SK h g x/\∀n,h n=X->A (.ref n) (upd h n<|.lst<|mv x S SJ)
theorem Gs:p5 f (KU f.K):=by
 intro G j y h e s b8 t S SJ aW A Y a SX bk b d;obtain⟨g,x,rfl,i,p⟩:=d;cases a;obtain⟨SZ,r,bt,k⟩:=Y.list i;have l:=r.length;refine⟨"list",_,Ej.lookup,bt.isList.typeIs,?_⟩;refine wpAny_getItem_list_slice bt.isList SX bk b .none (by simp) ?_ (by rw[cr]<;>lia);rw[Ho,<-l];refine⟨.ref j.heap.objs.size,_,Y.laid (Tk:=j.toks) (m:=.lst (mv x S SJ)) (λc n p=>bS _ p) (bm _) ?_,rfl,p _<|Y.aV.fresh<|bm _⟩;exact⟨ed (Cr x S SJ) k,_,0,(r.drop<|cY.b5 x.length 0 S).take<|cY.b5 x.length x.length SJ-cY.b5 x.length 0 S,da _ rfl⟩
theorem QB:eu f (.builtin "len") (λx h A=>∃n S2,x=[.ref n]/\(c5 f.K h n S2\/b7 f.K h n S2)/\A (.int S2.length) h):=by
 intro G j y h x S7 A Y r d;obtain⟨n,S2,rfl,a,p⟩:=d;obtain⟨I,rfl,c⟩:=he r;cases c;have g:=mS;rcases a with a|a
 ·obtain⟨SZ,TG,bk,e⟩:=Y.list a;have b:=TG.length;exact Calls.call_len_list bk.isList (by simp only[cr]<;>lia) ⟨.int S2.length,h,Y.tok _,⟨j.toks+1,by rw[cr,b]⟩,p⟩
 ·obtain⟨SZ,TG,bk,e⟩:=Y.tuple a;have b:=TG.length;exact len_tuple bk (by simp only[cr]<;>lia) ⟨.int S2.length,h,Y.tok _,⟨j.toks+1,by rw[cr,b]⟩,p⟩
theorem Qi:eu f (.builtin "len") (λx h A=>∃a,x=[.str a]/\a.length<=sizeLine/\A (.int a.length) h):=by
 intro G j y h x S7 A Y r d;obtain⟨a,rfl,b,p⟩:=d;obtain⟨I,rfl,B,rfl⟩:=he r;have c:=mS;exact len_str (by lia) ⟨.int a.length,h,Y.tok _,⟨_,rfl⟩,p⟩
theorem eu.or{P:ae}{r TG:List as->au->cw->Prop}(d:eu f P r)(U:eu f P TG):eu f P (λx h A=>r x h A\/TG x h A):=by
 intro G j y h x S7 A Y TJ p;rcases p with p|p
 ·exact d G j y h x S7 A Y TJ p
 ·exact U G j y h x S7 A Y TJ p
theorem Kk:eu f (.type "list") (λx h A=>∃n S2,x=[.ref n]/\(c5 f.K h n S2\/b7 f.K h n S2)/\∀H,h H=X->A (.ref H) (upd h H<|.lst S2)):=by
 intro G j y h x S7 A Y r d;obtain⟨n,S2,rfl,e,p⟩:=d;obtain⟨I,rfl,l⟩:=he r;cases l;have fin:∀(SZ:List ae),bK S2 SZ->S2.length<=sizeLine->∀(U:aT) (b:Nat),(∀c Tq,j.heap.get? c=Z Tq->U.get? c=Z Tq)->
   U.get? j.heap.objs.size=Z {cls:=.type "list",dict:=X,data:=.seq SZ.toArray b,slots:=#[]}->d4 f G y A (.ref j.heap.objs.size) {j with heap:=U}:=λSZ TG g U b cP a=>
  ⟨.ref j.heap.objs.size,_,Y.laid (Tk:=j.toks) cP (bm _)<|show eU f.prog f.w _ U _ (.lst S2) from ⟨g,SZ,b,TG,a⟩,rfl,p _<|Y.aV.fresh<|bm _⟩;rcases e with e|e
 ·obtain⟨SZ,TG,bk,g⟩:=Y.list e;have o:=TG.length;obtain⟨m,i,k,v,hd⟩:=bk.isList;exact C1 n (.inl rfl) i k hd (λU b cP a=>fin SZ TG g U b cP a) (by simp only[cr]<;>lia)
 ·obtain⟨SZ,TG,bk,g⟩:=Y.tuple e;have o:=TG.length;obtain⟨m,i,k,v,hd⟩:=bk;exact C1 n (.inr rfl) i k hd (λU b cP a=>fin SZ TG g U b cP a) (by simp only[cr]<;>lia)
theorem Ie:eu f (.type "tuple") (λx h A=>∃n S2,x=[.ref n]/\((c5 f.K h n S2/\∀H,h H=X->A (.ref H) (upd h H<|.tup S2))\/(b7 f.K h n S2/\A (.ref n) h))):=by
 intro G j y h x S7 A Y r d;obtain⟨n,S2,rfl,d⟩:=d;obtain⟨I,rfl,i⟩:=he r;cases i;rcases d with ⟨b,p⟩|⟨b,p⟩
 ·obtain⟨SZ,TG,bk,e⟩:=Y.list b;have l:=TG.length;refine call_tuple_list bk.isList (λU cP=>?_) (by simp only[cr]<;>lia);have g:Inv f G y h {j with heap:=U}:=Y.kept (Tk:=j.toks) cP;have k:Inv f G y (upd h U.objs.size<|.tup S2) {j with heap:=U.push {cls:=.type "tuple",data:=.seq SZ.toArray} }:=
   g.laid (Tk:=j.toks) (λc m a=>bS _ a) (bm _) (show eU f.prog f.w _ _ _ (.tup S2) from ⟨e,SZ,TG,lL.new _ _⟩);exact⟨.ref U.objs.size,_,k,rfl,p _<|g.aV.fresh<|bm _⟩
 ·obtain⟨SZ,TG,bk,e⟩:=Y.tuple b;exact call_tuple_same bk ⟨.ref n,h,Y,rfl,p⟩
def mE(SK:PySem.W.Frag)(L:String)(e:as)(h:au):Prop:=match e with
 |.str _=>L = "str"
 |.int _=>L = "int"
 |.ref n=>(L = "list" /\ ∃x,c5 SK h n x)\/(L = "tuple" /\ ∃m,SK.lookup n=Z m/\m.cls=.type "tuple" /\ m.dict=X)\/
   (L = "dict" /\ ((∃M,h n=Z (.dm M))\/∃M,h n=Z (.aL M)))\/(L = "set" /\ ∃S0 v,h n=Z (.set S0 v))
 |_=>False
theorem Fx{L:String}{e:as}{s:ae}(Y:Inv f G y h j)(r:bZ e s)(ty:mE f.K L e h):
  j.TypeIs s L/\∀g,s=.ref g->∃k,j.heap.get? g=Z k/\k.dict=X:=by
 cases e with
 |str d=>
  obtain⟨B,rfl⟩:=r;cases (show L = "str" from ty);exact⟨typeIs_str j d B,λ_ a=>nomatch a⟩
 |int b=>
  obtain⟨B,rfl⟩:=r;cases (show L = "int" from ty);exact⟨typeIs_int j b B,λ_ a=>nomatch a⟩
 |ref n=>
  cases r;rcases ty with ⟨rfl,x,l⟩|⟨rfl,m,c,o,hd⟩|⟨rfl,c⟩|⟨rfl,S0,v,c⟩
  ·obtain⟨SZ,W,bk,W⟩:=Y.list l;refine⟨bk.isList.typeIs,λg a=>?_⟩;cases a;obtain⟨m,v,a,q,hd,W⟩:=bk;exact⟨m,a,hd⟩
  ·refine⟨⟨m,Y.kp n m c,o⟩,λg a=>?_⟩;cases a;exact⟨m,Y.kp _ m c,hd⟩
  ·have d:∃m,j.heap.get? n=Z m/\m.ExactDict:=by
    rcases c with ⟨M,c⟩|⟨M,c⟩
    ·obtain⟨W,W,W,W,m,W,W,a,Tz,W⟩:=Y.aV n _ c;exact⟨m,a,Tz⟩
    ·obtain⟨W,W,W,W,m,W,W,a,Tz,W⟩:=Y.aV n _ c;exact⟨m,a,Tz⟩
   obtain⟨m,a,Tz⟩:=d;refine⟨⟨m,a,Tz.1⟩,λg i=>?_⟩;cases i;exact⟨m,a,Tz.2.1⟩
  ·obtain⟨m,W,W,W,a,Tz,W⟩:=Y.aV n _ c;refine⟨⟨m,a,Tz.1⟩,λg i=>?_⟩;cases i;exact⟨m,a,Tz.2.1⟩
 |_=>exact False.elim ty
noncomputable def M1(SK:PySem.W.Frag)(L:String)(r:as->List as->au->cw->Prop)(i:bR):bR:=λy h A=>i y h λe SU=>mE SK L e SU/\r e [] SU A
noncomputable def O7(SK:PySem.W.Frag)(L:String)(r:as->List as->au->cw->Prop)(i:bR)(B:eL):bR:=λy h A=>i y h λe SU=>mE SK L e SU/\B y SU λx S5=>r e x S5 A
variable{m a:a8}{Q:List a8}{i:bR}{B:eL}{name:ay}{H T6:Pos}{L id:String}{r:as->List as->au->cw->Prop}
theorem Hj(bN:ul L)(T1:Slot L name id)(c:n_ (.builtin id)=pure (.type "method_descriptor"))(g:wT f id r)(k:bC f m i)(n:oA m name f.env (bQ m f.env)=bQ m f.env:=by rfl)(o:(H.endLine==T6.line)=aa:=by rfl):bC f (.Call (.Attribute m name H) [] [] T6) (M1 f.K L r i):=by
 intro G j y h A Y d;refine wpAny_Call_method0_late n o (bJ (k G j y h _ Y d) λs p q=>?_);obtain⟨e,SU,a,b,ty,t⟩:=q;obtain⟨l,C⟩:=Fx a b ty;exact⟨L,id,bN,T1,c,l,C,Fo rfl<|PySem.evalArgs_none<|g G p y SU e [] s [] A a b .nil t⟩
theorem HD(bN:ul L)(T1:Slot L name id)(n:n_ (.builtin id)=pure (.type "method_descriptor"))(o:wT f id r)(p:bC f m i)(q:gG f (a::Q) B)(t:oA m name f.env (bQ m f.env)=bQ m f.env:=by rfl)(u:((eJ T6<|bG (a::Q) f.env).all (λe=>!e.1)&&(s8 T6<|sN [] f.env).all (λe=>e.1.isSome)
   && decide ((a::Q).length+([]:List lv).length+(if ([]:List lv).isEmpty then 0 else 1)<30))=aa:=by rfl)(v:(H.endLine==T6.line)=aa:=by rfl)(SX:bG (a::Q) f.env=(al,bQ a f.env)::bG Q f.env:=by rfl)(w:(eJ T6<|bG Q f.env).any (·.1)=al:=by rfl):
  bC f (.Call (.Attribute m name H) (a::Q) [] T6) (O7 f.K L r i B):=by
 intro G j y h A Y d;refine wpAny_Call_method_late t u v rfl (bJ (p G j y h _ Y d) λs x b=>?_);obtain⟨e,SU,c,g,ty,z⟩:=b;obtain⟨l,C⟩:=Fx c g ty;refine⟨L,id,bN,T1,n,l,C,?_⟩;have k:=q T6 G x y SU _ c z;rw[SX]at k ⊢;refine Fo (by show (al || (eJ T6<|bG Q f.env).any (·.1))=al;rw[w]<;>rfl) (FS ?_);refine bJ k λS7 D b=>?_;obtain⟨T,S5,E,F,I⟩:=b;exact o G D y S5 e T s S7 A E g F I
end
def sY(f:aH)(id:String)(r:as->List as->au->cw->Prop):Prop:=
 ∀(G:List (ai×a0)) (j:ak) (y:St) (h:au) (e:as) (x:List as) (s:ae) (S7:List ae) (A:cw),Inv f G y h j->bZ e s->bK x S7->r e x h A->
  wpAny (aM f.prog f.w) f.A (call (.builtin id) (s::S7)) (d4 f G y A) f.ce j
theorem bK.one:∀{e:as}{S7:List ae},bK [e] S7->∃I,S7=[I]/\bZ e I
 |_,_,.cons r .nil=>⟨_,rfl,r⟩
theorem bK.zero:∀{S7:List ae},bK [] S7->S7=[]
 |_,.nil=>rfl
theorem bK.dropLast{x:List as}(d:bK x S7):bK x.dropLast S7.dropLast:=by
 induction d with
 |nil=>exact .nil
 |cons r B a=>
  cases B with
  |nil=>exact .nil
  |cons p Tk=>exact .cons r a
theorem bK.eraseIdx:∀{x:List as}{S7:List ae} (b:Nat),bK x S7->bK (x.eraseIdx b) (S7.eraseIdx b)
 |_,_,_,.nil=>.nil
 |_,_,0,.cons _ B=>B
 |_,_,b+1,.cons r B=>.cons r (bK.eraseIdx b B)
theorem bK.reverse{x:List as}(d:bK x S7):bK x.reverse S7.reverse:=by
 induction d with
 |nil=>exact .nil
 |cons r B a=>rw[uu,uu];exact bK.append a (.cons r .nil)
theorem I3(H:List Ta):H.eraseIdx (H.length-1)=H.dropLast:=by
 induction H with
 |nil=>rfl
 |cons g r b=>
  cases r with
  |nil=>rfl
  |cons c r=>
   have a:(g::c::r).length-1=((c::r).length-1)+1:=by
    have l:(g::c::r).length=r.length+2:=rfl;have C:(c::r).length=r.length+1:=rfl;lia
   rw[a,List.eraseIdx_cons_succ,b];all_goals rfl
theorem E_{Ta:Type}:∀(H:List Ta) (b:Nat),(H.eraseIdx b).length<=H.length
 |[],_=>bm _
 |_::_,0=>wf _
 |_::r,b+1=>Nat.succ_le_succ (E_ r b)
section
variable{f:aH}{G:List (ai×a0)}{y:St}{h:au}{j:ak}{H c:ai}{x S2 TF:List as}
theorem Inv.um{P:Array ae->Array ae}(Y:Inv f G y h j)(b:h H=Z (.lst x))(a:j.heap.get? H=Z {cls:=.type "list",data:=.seq SZ.toArray v})(c:P SZ.toArray=w.toArray)(d:bK S2 w)(g:S2.length<=sizeLine):
  Inv f G y (upd h H<|.lst S2) {j with heap:=j.heap.update H (a0.mapSeq P),toks:=Tk}:=by
 have p:=CB a P;rw[c]at p;refine Y.write (e:=H) (a:=H) (by rw[b];exact trivial) (.inl rfl) (λl I i k=>(k7 j.heap (a0.mapSeq P)<|fB i).trans k) ⟨_,p⟩ ?_;exact⟨g,w,_,d,p⟩
theorem Inv.Nm(Y:Inv f G y h j)(a:bK S2 SZ)(b:S2.length<=sizeLine):
  Inv f G y (upd h j.heap.objs.size<|.lst S2) {j with heap:=j.heap.push {cls:=.type "list",data:=.seq SZ.toArray},toks:=Tk}:=
 Y.laid (λ_ W p=>bS _ p) (bm _) ⟨b,SZ,0,a,da _ rfl⟩
theorem Inv.fresh(Y:Inv f G y h j):h j.heap.objs.size=X:=Y.aV.fresh (bm _)
theorem Inv.hg(Y:Inv f G y h j)(b:h H=Z (.lst x)):x.length<=sizeLine/\∃(SZ:List ae) (v:Nat),bK x SZ/\x.length=SZ.length/\j.heap.get? H=Z {cls:=.type "list",data:=.seq SZ.toArray v}:=by
 obtain⟨c,SZ,v,r,a⟩:=Y.aV H _ b;exact⟨c,SZ,v,r,r.length,a⟩
theorem O1(d:v<=sizeLine):ba.List.listTooLong v=al:=by
 unfold ba.List.listTooLong;exact dA (by lia)
end
section
variable{f:aH}
def N8:as->List as->au->cw->Prop:=λe T h A=>∃H x t,e=.ref H/\T=[t]/\h H=Z (.lst x)/\x.length<sizeLine/\A .aR (upd h H<|.lst<|x++[t])
theorem PV:sY f "list.append" N8:=by
 intro G j y h e T s S7 A Y c g d;obtain⟨H,x,t,rfl,rfl,b,k,p⟩:=d;cases c;obtain⟨I,rfl,i⟩:=g.one;obtain⟨l,SZ,v,r,m,a⟩:=Y.hg b;refine oG zS ⟨_,a,rfl⟩ He (GB _ _) (CC H SZ.toArray v I (by rw[cr];lia)) ⟨a,?_⟩;refine⟨.aR,_,Y.um (w:=SZ++[I]) b a (by simp) (r.append<|.cons i .nil) ?_,rfl,p⟩;rw[cb,jq];lia
def QJ:as->List as->au->cw->Prop:=λe T h A=>∃H c x TF,e=.ref H/\T=[.ref c]/\h H=Z (.lst x)/\h c=Z (.lst TF)/\x.length+TF.length<=sizeLine/\A .aR (upd h H<|.lst<|x++TF)
theorem Q6:sY f "list.extend" QJ:=by
 intro G j y h e T s S7 A Y i k d;obtain⟨H,c,x,TF,rfl,rfl,g,l,u,p⟩:=d;cases i;obtain⟨I,rfl,m⟩:=k.one;cases m;obtain⟨z,SZ,v,r,B,a⟩:=Y.hg g;obtain⟨C,b,TZ,n,D,o⟩:=Y.hg l;have q:SZ.toArray.size+b.toArray.size<=sizeLine:=by rw[cr,cr];lia
 have t:¬ (!SZ.toArray.isEmpty&&ba.List.listTooLong (SZ.toArray.size+b.toArray.size))=aa:=by
  rw[O1 q,FB];exact c9
 refine oG F.slot_list_extend ⟨_,a,rfl⟩ F.entry_list_extend (F.args_list_extend_2 _ _)
  (AutoSeq1.list_extend_list_list_0 H SZ.toArray v c b.toArray TZ t (by rw[cr];lia) (by lia)) ⟨a,o,?_⟩;refine⟨.aR,_,Y.um (w:=SZ++b) g a (by simp) (r.append n) ?_,rfl,p⟩;rw[cb];lia
def LG:as->List as->au->cw->Prop:=λe T h A=>∃H x t,e=.ref H/\T=[]/\h H=Z (.lst x)/\x[x.length-1]?=Z t/\A t (upd h H<|.lst x.dropLast)
theorem Mr:sY f "list.pop" LG:=by
 intro G j y h e T s S7 A Y c g d;obtain⟨H,x,t,rfl,rfl,b,i,p⟩:=d;cases c;have k:=g.zero;subst k;obtain⟨q,SZ,v,r,l,a⟩:=Y.hg b;obtain⟨I,m,n⟩:=r.get i;have o:SZ.toArray[SZ.toArray.size-1]?=Z I:=by
  show SZ.toArray[SZ.length-1]?=Z I;rw[<-ev,<-l];exact m
 refine oG Fp ⟨_,a,rfl⟩ Ek (F.args_list_pop_1 _) (MeetsSeq.list_pop_last H SZ.toArray v I o (by rw[cr];lia)) ⟨a,?_⟩;refine⟨t,_,Y.um (w:=SZ.dropLast) b a ?_ r.dropLast ?_,n,p⟩
 ·show SZ.toArray.eraseIdxIfInBounds (SZ.toArray.size-1)=SZ.dropLast.toArray;rw[cr,vs,I3]
 ·rw[tZ];lia
def NK:as->List as->au->cw->Prop:=λe T h A=>∃H x b o t,e=.ref H/\T=[.int b]/\h H=Z (.lst x) /\ -(2^63)<=b/\b<2^63/\xV b x.length=Z o/\x[o]?=Z t/\A t (upd h H<|.lst<|x.eraseIdx o)
theorem Le:sY f "list.pop" NK:=by
 intro G j y h e T s S7 A Y g i d;obtain⟨H,x,b,o,t,rfl,rfl,c,l,C,k,m,p⟩:=d;cases g;obtain⟨I,rfl,n⟩:=i.one;obtain⟨B,rfl⟩:=n;obtain⟨E,SZ,v,r,q,a⟩:=Y.hg c;obtain⟨D,u,z⟩:=r.get m;refine oG Fp ⟨_,a,rfl⟩ Ek (F.args_list_pop_2 _ _)
  (MeetsSeq.list_pop_at H SZ.toArray v b B o D (fitsIndex_both l C) (by rw[cr,<-q];exact k) (by rw[<-ev];exact u) (by rw[cr];lia)) ⟨a,?_⟩;refine⟨t,_,Y.um (w:=SZ.eraseIdx o) c a ?_ (r.eraseIdx o) ?_,z,p⟩
 ·show SZ.toArray.eraseIdxIfInBounds o=(SZ.eraseIdx o).toArray;rw[vs]
 ·have:=E_ x o;lia
def Lg:bO:=λe t h A=>∃H c x TF,e=.ref H/\t=.ref c/\h H=Z (.lst x)/\h c=Z (.lst TF)/\x.length+TF.length<=sizeLine/\∀n,h n=X->A (.ref n) (upd h n<|.lst<|x++TF)
theorem QU:dj f (fW .Add) Lg:=by
 intro G j y h e t s I A Y g i d;obtain⟨H,c,x,TF,rfl,rfl,k,l,q,p⟩:=d;cases g;cases i;obtain⟨u,SZ,v,r,w,a⟩:=Y.hg k;obtain⟨z,b,TZ,m,B,n⟩:=Y.hg l;refine PySem.P.add_list a n ?_ (by rw[cr,cr];lia);have o:SZ.toArray++b.toArray=(SZ++b).toArray:=by simp
 rw[o];exact⟨.ref _,_,Y.Nm (Tk:=j.toks) (r.append m) (by rw[cb];lia),rfl,p _ Y.fresh⟩
end
section
variable{SR:bw}{D:a9}{O:bp}{SM:ae->ak->Prop}{j:ak}
end
section
variable{f:aH}
end
section
variable{F:Type}[DecidableEq F]
noncomputable def hu(M:List (F×as))(o:F):Option as:=(M.find? λa=>decide (a.1=o)).map (·.2)
noncomputable def hp(M:List (F×as))(o:F)(s:as):List (F×as):=
 if (M.any λa=>decide (a.1=o))=aa then M.map (λa=>if a.1=o then (a.1,s) else a) else M++[(o,s)]
theorem uK{n:F×as}{r:List (F×as)}{o:F}(a:n.1=o):hu (n::r) o=Z n.2:=by simp[hu,jE,a]
theorem tu{n:F×as}{r:List (F×as)}{o:F}(a:¬ n.1=o):hu (n::r) o=hu r o:=by simp[hu,jE,a]
theorem Fe(o:F):∀M:List (F×as),(M.any λb=>decide (b.1=o))=(hu M o).isSome
 |[]=>rfl
 |n::r=>by
  rw[mX];by_cases a:n.1=o
  ·simp only[uK a,cU a,FR,Option.isSome_some]
  ·rw[tu a,dA a,EI];exact Fe o r
theorem zP(M:List (F×as))(o:F)(s:as):(hp M o s).length<=M.length+1:=by
 unfold hp;split
 ·rw[a5];lia
 ·rw[cb,c7,sL];lia
theorem kt.rM{I:Option ae}(r:kt m I):m.isSome=I.isSome:=by
 cases m with
 |none=>cases I with
  |none=>rfl
  |some _=>exact (show False from r).elim
 |some _=>cases I with
  |none=>exact (show False from r).elim
  |some _=>rfl
theorem fQ.val{M:List (F×as)}{T:List (F×ae)}(r:fQ M T)(o:F):kt (hu M o) (mR T o):=by
 unfold fQ at r;induction r with
 |nil=>exact True.intro
 |@cons n p SO b d B f=>
  obtain⟨l,C⟩:=d;by_cases a:n.1=o
  ·have e:p.1=o:=l.symm.trans a;have c:mR (p::b) o=Z p.2:=by simp[mR,jE,e]
   rw[uK a,c];exact C
  ·have e:¬ p.1=o:=λg=>a (l.trans g);have c:mR (p::b) o=mR b o:=by simp[mR,jE,e]
   rw[tu a,c];exact f
theorem fQ.any{M:List (F×as)}{T:List (F×ae)}(r:fQ M T)(o:F):(M.any λa=>decide (a.1=o))=T.any λa=>decide (a.1=o):=by
 unfold fQ at r;induction r with
 |nil=>rfl
 |cons d B b=>rw[mX,mX,b,d.1]
theorem fQ.vk{M:List (F×as)}{T:List (F×ae)}(r:fQ M T)(o:F){t:as}{I:ae}(c:bZ t I):
  fQ (M.map λb=>if b.1=o then (b.1,t) else b) (T.map λb=>if b.1=o then (b.1,I) else b):=by
 unfold fQ at r ⊢;induction r with
 |nil=>exact .nil
 |@cons n p SO g d B e=>
  rw[ci,ci];refine .cons ?_ e;obtain⟨l,C⟩:=d;by_cases a:n.1=o
  ·rw[aB a,aB<|l.symm.trans a];exact⟨l,c⟩
  ·rw[aG a,aG<|λf=>a<|l.trans f];exact⟨l,C⟩
theorem fQ.put{M:List (F×as)}{T:List (F×ae)}(r:fQ M T)(o:F){t:as}{I:ae}(b:bZ t I):fQ (hp M o t) (stored T o I):=by
 unfold hp stored;rw[r.any o];by_cases a:(T.any λc=>decide (c.1=o))=aa
 ·rw[aB a,aB a];exact r.vk o b
 ·rw[aG a,aG a];exact dX.snoc r ⟨rfl,b⟩
theorem fQ.length{M:List (F×as)}{T:List (F×ae)}(r:fQ M T):M.length=T.length:=dX.length r
end
theorem vd{o:d_}{I:ae}(r:bZ (ct o) I):(lN SS D).is o I=aa:=by
 cases o with
 |inl b=>obtain⟨B,a⟩:=(show ∃B,I=ae.int b B from r);subst a;exact Js SS D b B
 |inr e=>obtain⟨B,a⟩:=(show ∃B,I=ae.str e B from r);subst a;exact Py SS D e B
abbrev fO(h:au):List (List ab×as)->List (List ab×ai×ae)->Prop:=dX λn p=>n.1=p.1/\hB h n.1 p.2.1/\bZ n.2 p.2.2
theorem fO.val(r:fO h M x)(o:List ab):kt (hu M o) ((k8 x o).map (·.2)):=by
 induction r with
 |nil=>exact True.intro
 |@cons n p SO b d B f=>
  obtain⟨l,Y,C⟩:=d;by_cases a:n.1=o
  ·have e:p.1=o:=l.symm.trans a;have c:k8 (p::b) o=Z p.2:=by simp[k8,jE,e]
   rw[uK a,c];exact C
  ·have e:¬ p.1=o:=λg=>a (l.trans g);have c:k8 (p::b) o=k8 b o:=by simp[k8,jE,e]
   rw[tu a,c];exact f
theorem fO.vk(r:fO h M x)(o:List ab){t:as}{I:ae}(c:bZ t I):
  fO h (M.map λb=>if b.1=o then (b.1,t) else b) (x.map<|putAt o I):=by
 induction r with
 |nil=>exact .nil
 |@cons n p SO i d B e=>
  rw[ci,ci];refine .cons ?_ e;obtain⟨l,C,f⟩:=d;unfold putAt;by_cases a:n.1=o
  ·rw[aB a,aB<|l.symm.trans a];exact⟨l,C,c⟩
  ·rw[aG a,aG<|λg=>a<|l.trans g];exact⟨l,C,f⟩
theorem fO.put(r:fO h M x)(o:List ab){c:ai}{t:as}{I:ae}(d:hB h o c)(b:bZ t I):
  fO h (hp M o t) (storedH x o c I):=by
 have a:(M.any λe=>decide (e.1=o))=(k8 x o).isSome:=by
  rw[Fe,(r.val o).rM,r4]
 unfold hp storedH;rw[a];by_cases p:(k8 x o).isSome=aa
 ·rw[aB p,aB p];exact r.vk o b
 ·rw[aG p,aG p];exact dX.snoc r ⟨rfl,d,b⟩
theorem fO.keeps(r:fO h M x)(bt:∀c S2,h c=Z (.tup S2)->R c=Z (.tup S2)):fO R M x:=
 dX.sD r λ_ Y a=>⟨a.1,a.2.1.mono bt,a.2.2⟩
section
variable{SS:bw}{D:a9}{h:au}{d:aT}{g:ai}
theorem Ba{I:fM}(ok:c_ SS D h d)(a:j1 h g I):eU SS D h d g I:=a.ok ok
theorem pF{M:List (d_×as)}(ok:c_ SS D h d)(a:j1 h g (.dm M)):M.length<=sizeLine/\(g==ie)=al/\∃T,fQ M T/\d.DictOf (lN SS D) g T:=
 show eU SS D h d g (.dm M) from Ba ok a
theorem NM{M:List (d_×as)}(ok:c_ SS D h d)(a:h g=Z (.dm M)):M.length<=sizeLine/\(g==ie)=al/\∃T,fQ M T/\d.DictOf (lN SS D) g T:=pF ok (.inl a)
mutual
theorem cq.fx(ok:c_ SS D h d):∀{k:ab}{s:as}{I:ae},cq h k s->bZ s I->dR d k I
 |.aR,_,_,a,r=>by cases (show _=as.aR from a);exact r
 |.ax c,_,_,a,r=>by cases (show _=as.ax c from a);exact r
 |.int b,_,_,a,r=>by cases (show _=as.int b from a);exact r
 |.str e,_,_,a,r=>by cases (show _=as.str e from a);exact r
 |.fn g,_,_,a,r=>by cases (show _=as.ref g from a);exact r
 |.tup E,_,_,a,r=>by
  obtain⟨g,x,rfl,l,C⟩:=a;cases r;obtain⟨Y,SZ,f,m,i,Tc,v,TE⟩:=(show eU SS D h d g (.tup x) from ok g _ l);exact⟨g,m,SZ.toArray,v,rfl,i,(Prod.mk.inj Tc).1,TE,by simpa using bu.fx ok C f⟩
 |.aN E,_,_,a,r=>by
  obtain⟨g,x,m,rfl,l,C⟩:=a;cases r;exact⟨g,rfl⟩
 |.fd,_,_,a,r=>by
  obtain⟨g,m,rfl,l⟩:=a;cases r;exact⟨g,rfl⟩
theorem bu.fx(ok:c_ SS D h d):∀{E:List ab}{T:List as}{S7:List ae},bu h E T->bK T S7->dw d E S7
 |[],_,_,a,r=>by cases (show _=[] from a);cases r;rfl
 |k::E,_,_,a,r=>by
  obtain⟨s,B,rfl,l,C⟩:=a;cases r with
  |cons b c=>exact⟨_,_,rfl,cq.fx ok l b,bu.fx ok C c⟩
end
theorem mr{SY:List ab}(ok:c_ SS D h d)(a:hB h SY g):(eb SS D).is d SY g:=⟨a.1,a.2.fx ok rfl⟩
theorem qS{SS:bw}{D:a9}{O:bp}(d:O.units+20<bP):(eb SS D).room O.in1:=show O.units+1+10<bP by lia
theorem rm(ok:c_ SS D h d)(a:j1 h g (.aL M)):M.length<=sizeLine/\(g==ie)=al/\
  ∃x,fO h M x/\d.DictOfH (eb SS D) g x:=by
 obtain⟨f,t,x,r,m,Q,Td,l,C,j,k,o⟩:=(show eU SS D h d g (.aL M) from Ba ok a);refine⟨f,t,x,r,m,Q,Td,l,C,j,k,λe b=>?_,o⟩;have all:∀{H:List (List ab×as)}{i:List (List ab×ai×ae)},fO h H i->∀e∈i,(eb SS D).is d e.1 e.2.1:=by
  intro H i p;induction p with
  |nil=>intro e b;exact nomatch b
  |@cons n p SO s c B q=>
   intro e b;rcases bI.mp b with a|b
   ·subst a;exact mr ok (by rw[<-c.1];exact c.2.1)
   ·exact q e b
 exact all r e b
theorem wX(ok:c_ SS D h d)(a:h g=Z (.aL M)):M.length<=sizeLine/\(g==ie)=al/\
  ∃x,fO h M x/\d.DictOfH (eb SS D) g x:=rm ok (.inl a)
end
def gz(h:au)(g:ai)(t:as)(r:Option as):Prop:=
 (∃M o,j1 h g (.dm M)/\t=ct o/\r=hu M o)\/∃M o c,j1 h g (.aL M)/\t=.ref c/\hB h o c/\r=hu M o
def nA(h:au)(g:ai)(t s:as)(R:au):Prop:=
 (∃M o,h g=Z (.dm M)/\t=ct o/\M.length<sizeLine/\R=upd h g (.dm<|hp M o s))\/
 ∃M o c,h g=Z (.aL M)/\t=.ref c/\hB h o c/\M.length<sizeLine/\R=upd h g (.aL<|hp M o s)
theorem gz.k{h:au}{g:ai}{M:List (d_×as)}{o:d_}(a:h g=Z (.dm M)):gz h g (ct o) (hu M o):=.inl ⟨M,o,.inl a,rfl,rfl⟩
theorem gz.t{o:List ab}(a:h g=Z (.aL M))(b:hB h o c):gz h g (.ref c) (hu M o):=.inr ⟨M,o,c,.inl a,rfl,b,rfl⟩
theorem nA.k{h:au}{g:ai}{M:List (d_×as)}{o:d_}{s:as}(a:h g=Z (.dm M))(b:M.length<sizeLine):nA h g (ct o) s (upd h g<|.dm<|hp M o s):=.inl ⟨M,o,a,rfl,b,rfl⟩
theorem nA.t{o:List ab}{s:as}(a:h g=Z (.aL M))(b:hB h o c)(d:M.length<sizeLine):
  nA h g (.ref c) s (upd h g<|.aL<|hp M o s):=.inr ⟨M,o,c,a,rfl,b,d,rfl⟩
section
variable{f:aH}{G:List (ai×a0)}{y:St}{h:au}{j:ak}{g:ai}{t s:as}{I r:ae}{m:Option as}{O:bp}{SM:ae->ak->Prop}
theorem Inv.big(Y:Inv f G y h j):ie<j.heap.objs.size:=by
 have d:du<j.heap.objs.size:=(Y.mod.glob.keeps Y.cK).lt;exact oC (by decide) d
theorem LQ(r:O.units+20<bP)(Y:Inv f G y h j)(J:gz h g t (Z s))(q:bZ t I)(d:∀b SN,Inv f G y h SN->bZ s b->A b SN):
  wpAny (aM f.prog f.w) O (j2 (.ref g) I) A SM j:=by
 rcases J with ⟨M,o,a,e,H⟩|⟨M,o,c,a,e,u,H⟩
 ·subst e;obtain⟨v,hd,T,i,k⟩:=pF Y.aV a;obtain⟨b,l,p⟩:=kt.some_of (s:=s) (m:=mR T o) (by rw[H];exact i.val o);exact wpAny_getItem_of (vd q) k.mapOf l (d b _ (Y.tok _) p)
 ·subst e;cases (show I=ae.ref c from q);obtain⟨v,hd,x,i,k⟩:=rm Y.aV a;obtain⟨b,l,p⟩:=kt.some_of (s:=s) (m:=(k8 x o).map (·.2)) (by rw[H];exact i.val o);obtain⟨n,z,B⟩:=ch.mp l;refine wpAny_getItem_heap (qS r) (mr Y.aV u) k z ?_;rw[B];exact d b _ (Y.tok _) p
theorem wd(l:O.units+20<bP)(Y:Inv f G y h j)(J:gz h g t m)(k:bZ t I)(d:∀SN,Inv f G y h SN->A (.bool m.isSome) SN):
  wpAny (aM f.prog f.w) O (dG .In I<|.ref g) A SM j:=by
 rcases J with ⟨M,o,a,b,H⟩|⟨M,o,c,a,b,n,H⟩
 ·subst b;obtain⟨q,hd,T,e,i⟩:=pF Y.aV a;refine wpAny_in_of (vd k) hd i.mapOf ?_;rw[<-(e.val o).rM,<-H];exact d _ (Y.tok _)
 ·subst b;cases (show I=ae.ref c from k);obtain⟨q,hd,x,e,i⟩:=rm Y.aV a;refine wpAny_in_heap (qS l) (mr Y.aV n) hd i ?_;have p:=(e.val o).rM;rw[r4]at p;rw[<-p,<-H];exact d _ (Y.tok _)
theorem zm(l:O.units+20<bP)(Y:Inv f G y h j)(J:gz h g t m)(k:bZ t I)(d:∀SN,Inv f G y h SN->A (.bool<|!m.isSome) SN):
  wpAny (aM f.prog f.w) O (dG .NotIn I<|.ref g) A SM j:=by
 rcases J with ⟨M,o,a,b,H⟩|⟨M,o,c,a,b,n,H⟩
 ·subst b;obtain⟨q,hd,T,e,i⟩:=pF Y.aV a;refine wpAny_notIn_of (vd k) hd i.mapOf ?_;rw[<-(e.val o).rM,<-H];exact d _ (Y.tok _)
 ·subst b;cases (show I=ae.ref c from k);obtain⟨q,hd,x,e,i⟩:=rm Y.aV a;refine wpAny_notIn_heap (qS l) (mr Y.aV n) hd i ?_;have p:=(e.val o).rM;rw[r4]at p;rw[<-p,<-H];exact d _ (Y.tok _)
theorem zk{b:fM}(Y:Inv f G y h j)(d:q5 (h g))(SX:aT.SameBut g j.heap U)(i:∃p,U.get? g=Z p)(new:eU f.prog f.w (upd h g b) U g b):
  Inv f G y (upd h g b) {j with heap:=U,toks:=Tk}:=
 Y.write (e:=g) (a:=g) d (.inl rfl) (λc p k l=>(SX.2 c k).trans l) i new
theorem Jd{M:List (d_×as)}{T:List (d_×ae)}(a:M.length<=sizeLine)(hd:(g==ie)=al)(b:fQ M T)(c:U.DictOf (lN SS D) g T):
  eU SS D R U g (.dm M):=⟨a,hd,T,b,c⟩
theorem CO{A:Unit->ak->Prop}(L:O.units+20<bP)(Y:Inv f G y h j)(J:nA h g t s R)(z:bZ t I)(B:bZ s r)(d:∀SN,Inv f G y R SN->A () SN):
  wpAny (aM f.prog f.w) O (tM (.ref g) I r) A SM j:=by
 rcases J with ⟨M,o,a,l,H,m⟩|⟨M,o,c,a,l,E,H,m⟩
 ·subst l m;obtain⟨b,hd,T,e,n⟩:=NM Y.aV a;have u:T.length<=sizeLine:=by rw[<-e.length];exact b
  have v:(hp M o s).length<=sizeLine:=by have:=zP M o s;lia
  refine wpAny_setItem_pairs (hsz:=u) (vd z) n λU i SX=>d _ ?_;have P:∃p,U.get? g=Z p:=let ⟨p,_,_,k,_⟩:=i;⟨p,k⟩
  exact zk Y (by rw[a];exact True.intro) SX P (Jd v hd (e.put o B) i)
 ·subst l m;cases (show I=ae.ref c from z);obtain⟨b,hd,x,e,n⟩:=wX Y.aV a;have u:x.length<=sizeLine:=by rw[<-dX.length e];exact b
  have v:(hp M o s).length<=sizeLine:=by have:=zP M o s;lia
  refine wpAny_setItem_heap (hsz:=u) (qS L) (mr Y.aV E) n λU i SX=>d _ ?_;obtain⟨p,Q,Td,k,C,S,be,W,bs⟩:=i;refine zk Y (by rw[a];exact True.intro) SX ⟨p,k⟩ ⟨v,hd,_,(e.put o E B).keeps λq S2 F=>?_,p,Q,Td,k,C,S,be,bs⟩;rw[cB (EY F a<|λb=>nomatch b)];exact F
end
section
variable{f:aH}{G:List (ai×a0)}{y:St}{h:au}{j:ak}{g:ai}{M:List (d_×as)}{o:d_}{I:ae}{O:bp}{SM:ae->ak->Prop}
theorem NR(Y:Inv f G y h j)(a:j1 h g (.dm M))(d:∀B SN,Inv f G y h SN->A (.int M.length B) SN):wpAny (aM f.prog f.w) O (call (.builtin "len") [.ref g]) A SM j:=by
 obtain⟨c,hd,T,b,e⟩:=pF Y.aV a;refine call_len_dict hd e (by rw[<-b.length];rw[tS]at c;lia) ?_;rw[<-b.length];exact d _ _ (Y.tok _)
end
theorem IM{f:aH}{t:as}(Y:Inv f G y h j)(J:gz h g t m):j.TypeIs (.ref g) "dict" := by
 rcases J with ⟨M,o,a,_,_⟩|⟨M,o,c,a,_,_,_⟩
 ·obtain⟨W,W,T,W,b⟩:=pF Y.aV a;exact b.typeIs
 ·obtain⟨W,W,x,W,b⟩:=rm Y.aV a;exact b.typeIs
section
variable{f:aH}{m b a i:a8}{S1 L k:Pos}{d ty l:bR}
end
theorem G4(d:aT)(a:ie<d.objs.size):eU SS D h (d.push {cls:=.type "dict",data:=.dict #[]}) d.objs.size (.aL []):=
 ⟨gV _,vC.mpr<|fB<|cT a,[],.nil,_,#[],0,da _ rfl,⟨rfl,rfl,rfl⟩,rfl,rfl,io⟩
def R_:bR:=λ_ h A=>∀n,h n=X->A (.ref n) (upd h n<|.aL [])
section
variable{f:aH}{S1:Pos}
theorem QQ:bC f (.Dict [] [] S1) R_:=λG j y h A Y d=>
 wpAny_Dict_empty ⟨.ref j.heap.objs.size,_,Y.laid (g:=j.heap.objs.size) (m:=.aL []) (Tk:=j.toks) (λ_ W p=>bS _ p) (bm _)<|G4 j.heap Y.big,rfl,d _<|Y.aV.fresh<|bm _⟩
end
structure kD(f:aH)(m:a8)(i:ay)(H:Pos)(a:a8)(T6:Pos):Prop where
 base:oA m i f.env (bQ m f.env)=bQ m f.env
 jR:((eJ T6<|bG [a] f.env).all (λe=>!e.1)&&(s8 T6<|sN [] f.env).all (λe=>e.1.isSome)
  && decide (([a]:List a8).length+([]:List lv).length+(if ([]:List lv).isEmpty then 0 else 1)<30))=aa
 line:(H.endLine==T6.line)=aa
 trees:eJ T6 (bG [a] f.env)=[(al,bQ a f.env)]
structure nt(f:aH)(m:a8)(i:ay)(H:Pos)(a P:a8)(T6:Pos):Prop where
 base:oA m i f.env (bQ m f.env)=bQ m f.env
 jR:((eJ T6<|bG [a,P] f.env).all (λe=>!e.1)&&(s8 T6<|sN [] f.env).all (λe=>e.1.isSome)
  && decide (([a,P]:List a8).length+([]:List lv).length+(if ([]:List lv).isEmpty then 0 else 1)<30))=aa
 line:(H.endLine==T6.line)=aa
 trees:eJ T6 (bG [a,P] f.env)=[(al,bQ a f.env),(al,bQ P f.env)]
section
variable{f:aH}{G:List (ai×a0)}{y:St}{h:au}{j:ak}{g:ai}{t k:as}{I r:ae}{m:Option as}{O:bp}{SM:ae->ak->Prop}
end
section
variable{f:aH}{m a P:a8}{H T6:Pos}{d ty e:bR}
end
section
variable{f:aH}{G:List (ai×a0)}{y:St}{h:au}{j:ak}{g:ai}{M:List (d_×as)}{O:bp}{SM:ae->ak->Prop}
end
section
variable{f:aH}{G:List (ai×a0)}{y:St}{h:au}{j:ak}{g:ai}{t:as}{I:ae}{O:bp}{SM:ae->ak->Prop}
end
end L2
namespace Gk
open PySem PySem.W PySem.Calls PyProof.Rows
variable{v:Nat}{H:OpenLaw}
theorem PT{SS:sz}{d:aT}:∀(S:List Int) (T:List ae),WellAll SS d T (S.map q6.int)->q7 T S:=by
 intro S;induction S with
 |nil=>
  intro T D;rw[DP]at D;cases D;exact .nil
 |cons v S a=>
  intro T D;rw[ci]at D;cases D with
  |cons g c=>
   cases g;exact .cons _ _ (a _ c)
theorem Cl(h:H.most=Z v){SS:sz}{d:aT}{args:List q6}{c:List ae}(e:H.row.toRowW.claim.pre args=aa)(i:WellAll SS d c args):
  ∃g T S,c=[ae.ref g]/\args=[q6.list (S.map q6.int)]/\d.get? g=Z {cls:=.type "list",data:=.seq T.toArray}/\q7 T S/\S.length<=v:=by
 have j:qu.hasAll [] args [.list .int]=aa:=(pre_splitW e).1;have f:H.pre.holds [] {args:=args}=aa:=(pre_splitW e).2;obtain⟨k,r,rfl,l,C⟩:=hasAllW_cons j;obtain rfl:=hasAllW_nil C;obtain⟨x,rfl,m⟩:=hasW_list l;obtain⟨S,rfl⟩:=items_int m;have n:S.length<=v:=by
  unfold OpenLaw.pre at f;have a:(WTm.not<|.lt (.lit<|.int (v:Int))<|.len<|.arg 0).holds [] {args:=[.list (S.map .int)]}=aa:=by
   have a:=(holds_andW f).1;rw[h]at a;exact a
  have b:=condW_of a (w_not<|w_lt w_lit<|w_len_list<|w_arg rfl);rw[a5]at b;refine Nat.le_of_not_lt λp=>?_;have o:(v:Int)<((S.length:Nat):Int):=by lia
  first
   | (rw[cU o]at b;exact absurd b (by decide))
   | (simp at b;lia)
 cases i with
 |cons q s=>
  cases s;cases q with
  |list t u=>exact⟨_,_,S,rfl,rfl,t,PT S _ u,n⟩
theorem IX(H:OpenLaw)(args:List q6):H.row.toRowW.claim.post args (.bool aa) args=aa:=
 postW_of (r:=H.row.toRowW) (X:=(aa==aa))
  (show qu.has [] (.bool aa) .bool=aa by first|rfl|decide|simp[qu.has,qu.arms,qu.armsAll])
  (show (WTm.eq .res<|.lit<|.bool aa).value [] {args:=args,res:=Z (.bool aa),after:=args}=Z (.bool<|aa==aa) from w_eq_bool (w_res rfl) w_lit) rfl
theorem MZ{p:bw}{d:List ay}{e:(ay->Option ae)->aT->Prop}{f:a9->aT->Prop}{k:DefRec}(i:H.most=Z v)(j:k.params.defaults=[])(call:∀(D:a9) (ea a:ak) (aw c:ay->Option ae) (b:ai) (m:a0) (Te Ud w:ae) (g:ai) (T:List ae) (S:List Int),
   Ground p d [] e D ea aw c a.heap->f D a.heap->
   a.heap.get? b=Z m->m.data=.func (docDef k.name k.params k.body k.scope Te Ud w)->a.heap.CodeRec Ud k.name->aw k.name=Z (.ref b)->
   a.heap.get? g=Z {cls:=.type "list",data:=.seq T.toArray}->q7 T S->S.length<=v->a.gens=#[]->
   codeAny (aM H.prog D) mV (.call (.ref b) ⟨[.ref g],[]⟩) (λr SN=>r=.ok (.ret<|.bool aa)/\OldK a.heap SN.heap/\SN.os=a.os/\j0 SN.gens) a):
  WalkO p d e f H.row.toRowW k [] (λP T=>PySem.call P T):=by
 intro D ea a aw c SV l b m Te Ud w n ct o hd q h s t args I J u L M x N;obtain rfl:n=.none:=Dflts.none h j;obtain rfl:ct=.none:=Dflts.noKw h;obtain⟨g,T,S,rfl,rfl,y,z,A⟩:=Cl i u x;refine enter_call (n1 (call D ea a aw c b m Te Ud w g T S SV l o (fd_plain hd) q s y z A t) λr SN B=>?_);obtain⟨rfl,C,E,F⟩:=B;exact⟨.inl ⟨.bool aa,.bool aa,[],rfl,λ_=>rfl,.bool aa,IX H _,λ_=>⟨List.Pairwise.nil,λ_ G=>(nomatch G)⟩⟩,C,E,F⟩
section
variable{SR:bw}{D:a9}{O:bp}{SM:ae->ak->Prop}{j:ak}{SK:Frag}
end
end Gk
namespace L2
open PySem PySem.Spec PyProof.Rows
variable{SO:List ay}{P:ai}{TU e:ay}{T0:kr}{fd:gp}{o:Nat}
theorem Db:∀{T:List ae}{S:List Int},q7 T S->bK (S.map as.int) T
 |_,_,.nil=>.nil
 |_,_,.cons v B d=>.cons ⟨B,rfl⟩ (Db d)
def sd(h:au):Prop:=∀c,h c=X\/∃m x,h c=Z (.de m<|.lst x)
theorem IL{SS:bw}{D:a9}{SK:PySem.W.Frag}{aw w:ay->Option ae}{M:jd}{y g:ai}{b:ak}{T:List ae}{S:List Int}(B:SK.In b.heap)(E:b.heap.Ns du aw)(n:b.heap.Ns w3 w)(be:∀e:ay,e ≠ "__name__" -> w e=eE e)(bs:b.heap.NoLimit)(cl:b.gens=#[])(t:b.heap.get? g=Z {cls:=.type "list",data:=.seq T.toArray})(SJ:q7 T S)(F:S.length<=sizeLine)(co:dV o mV)(N:∀SW:aT,SK.In SW->SW.Ns du aw->gx SS D SK aw SW M o y fd [e] T0)(eq:∀(j:ak) (I:ae),lP j fd ⟨[I],[]⟩ [(e,I)])(ex:∀h:au,sd h->c5 SK h g (S.map as.int)->T0 [.ref g] h (λs Y=>s=.ax aa) λ_ Y Y=>False)(fn:∀h a SN,M [] h b (λ_ Y Y=>False) a SN->False):
  codeAny (aM SS D) mV (.call (.ref y) ⟨[.ref g],[]⟩) (λr SN=>r=.ok (.ret<|.bool aa)/\OldK b.heap SN.heap/\SN.os=b.os/\j0 SN.gens) b:=by
 have G:=Db SJ;have f1:=SJ.length;have H:∀h:au,sd h->c5 SK h g (S.map as.int)->c_ SS D h b.heap->(∀c,h c≠X->c=g)->(h g≠X->SK.lookup g=X)->
   codeAny (aM SS D) mV (.call (.ref y) ⟨[.ref g],[]⟩) (λr SN=>r=.ok (.ret<|.bool aa)/\OldK b.heap SN.heap/\SN.os=b.os/\j0 SN.gens) b:=by
  intro h J go aV L g1;have O:∀{c:ai}{m:a0},b.heap.get? c=Z m->h c=X->(lc b.heap h).get? c=Z m:=λa v=>Km a v;have hd:∀{c:ai}{m:a0}{Q:Array DictEntry}{Td:Nat},b.heap.get? c=Z m->m.data=.dict Q Td->h c=X:=λ{c m Q Td} a k=>by
   cases p:h c with
   |none=>rfl
   |some I=>
    have z:c=g:=L c (by rw[p];simp);subst z;rw[t]at a;cases a;have TV:Data.seq T.toArray _=Data.dict Q Td:=k;cases TV
  have u:∀{c:ai}{i:ay->Option ae},b.heap.Ns c i->(lc b.heap h).Ns c i:=λ{c i} ⟨m,Q,Td,a,k,r⟩=>⟨m,Q,Td,O a<|hd a k,k,r⟩;have P:SK.In (lc b.heap h):=λc m a=>O (B c m a) (by
   cases p:h c with
   |none=>rfl
   |some I=>
    have z:c=g:=L c (by rw[p];simp);subst z;rw[g1 (by rw[p];simp)]at a;cases a)
  have im:Mod SK aw (lc b.heap h):=⟨P,u E,⟨w,u n,be⟩,let ⟨mb,l,C⟩:=bs;⟨mb,u l,C⟩⟩;have mp:sC SS D SK aw (lc b.heap h) mV [] b h:=⟨rfl,im,λc m a=>Jy a,Nat.le_of_eq<|KX _ _,trivial,λc n=>absurd (show c∈([]:List ai) from n) (by simp),aV,.of_eq cl⟩;refine n1 ((N _ P<|u E).run mV [] b h ⟨[.ref g],[]⟩ [.ref g] [.ref g] _ _ co mp (eq b<|.ref g) (.cons rfl .nil)<|ex h J go) λr SN d=>?_;cases r with
  |error a=>exact (fn h a SN d).elim
  |ok aN=>
   cases aN with
   |next=>exact False.elim d
   |brk=>exact False.elim d
   |cont=>exact False.elim d
   |ret I=>
    obtain⟨s,R,S3,ne,un,of,TG,p⟩:=d;have on:s=.ax aa:=p;subst on;obtain rfl:I=ae.bool aa:=TG;refine⟨rfl,OldK.of_keep λc m a=>?_,S3,ne⟩;cases p:h c with
    |none=>exact un.keep c m a p (by intro f;exact absurd (show c∈([]:List ai) from f) (by simp)) (by simp)
    |some I=>
     rcases J c with f|⟨pm,x,f⟩
     ·rw[p]at f;cases f
     ·have pt:=un.hM c pm _ f;obtain⟨U,Y⟩:=aV c _ f;obtain⟨sp,Y⟩:=of c _ pt;rw[a]at U;cases U;exact sp
 cases A:SK.lookup g with
 |some m=>
  have a:=B g m A;rw[t]at a;cases a;refine H (λ_=>X) (λ_=>.inl rfl) (.inr ⟨_,T.toArray,_,A,rfl,rfl,rfl,by rw[cr,f1];exact F,by simpa using G⟩) (λc I f=>by have q:(X:Option fM)=Z I:=f;cases q) (λc f=>absurd rfl f) λf=>absurd rfl f
 |none=>
  refine H (λc=>if c=g then Z (.de {cls:=.type "list",data:=.seq T.toArray} (.lst<|S.map as.int)) else X) (λc=>?_) (.inl<|.inr ⟨{cls:=.type "list",data:=.seq T.toArray},aB rfl⟩) (λc I f=>?_) (λc f=>?_) λ_=>A
  ·by_cases n:c=g
   ·exact .inr ⟨_,_,aB n⟩
   ·exact .inl (aG n)
  ·by_cases n:c=g
   ·have q:=(aB n).symm.trans f;cases q;subst n;exact⟨t,by rw[a5];exact F,T,_,G,t⟩
   ·have q:=(aG n).symm.trans f;cases q
  ·by_cases n:c=g
   ·exact n
   ·exact absurd (aG n) f
theorem HR{H:PySem.W.OpenLaw}{v:Nat}{p:bw}{q:List ay}{r:(ay->Option ae)->aT->Prop}{i:a9->aT->Prop}{k:DefRec}{SK:sz->PySem.W.Frag}{M:a9->jd}{T0:a9->kr}(t:H.most=Z v)(u:v<=sizeLine)(x:k.params.defaults=[])(y:dV o mV)(z:∀(D:a9) (d:aT),i D d->(SK D.params).In d)(N:∀(D:a9) (aw:ay->Option ae) (f:ai) (d:aT),(SK D.params).In d->d.Ns du aw->aw k.name=Z (.ref f)->
   ∃fd:gp,(∀(j:ak) (I:ae),lP j fd ⟨[I],[]⟩ [(e,I)])/\
    ∀SW:aT,(SK D.params).In SW->SW.Ns du aw->gx H.prog D (SK D.params) aw SW (M D) o f fd [e] (T0 D))(A:∀(D:a9) (h:au) (g:ai) (S:List Int),S.length<=v->sd h->c5 (SK D.params) h g (S.map as.int)->T0 D [.ref g] h (λs Y=>s=.ax aa) λ_ Y Y=>False)(B:∀(D:a9) (h:au) (j:ak) (a:ae) (SN:ak),M D [] h j (λ_ Y Y=>False) a SN->False):
  PySem.W.WalkO p q r i H.row.toRowW k [] (λP T=>PySem.call P T):=by
 refine Gk.MZ t x λD ea C aw cl f m Te Ud w g T S SV E co hd eq F G O l Q=>?_;have n:=z D _ E;obtain⟨fd,R,U⟩:=N D aw f _ n SV.T.g F;exact IL n SV.T.g SV.T.b SV.T.builtins SV.T.nolimit Q G O (ed l u) y U R (λh be bs=>A D h g S l be bs) λh a SN=>B D h C a SN
noncomputable def iW(j:bz):Arguments:=match j with
 |.FunctionDef _ g _ _ _ _ _ _ _ _=>g
 |_=>{posonlyargs:=[],args:=[],vararg:=X,kwonlyargs:=[],kw_defaults:=[],kwarg:=X,defaults:=[]}
noncomputable def gE(j:bz):List bz:=match j with
 |.FunctionDef _ _ c _ _ _ _ _ _ _=>c
 |_=>[]
noncomputable def cL(j:bz):gs:=match j with
 |.FunctionDef _ _ _ _ _ _ B _ _ _=>B
 |_=>{kind:=.function,names:=[],isGenerator:=al,isCoroutine:=al}
noncomputable abbrev hA:jd:=λ_ _ _ _ _ _=>False
noncomputable abbrev wP:fA:=λ_ _ _=>False
theorem Cq{f:aH}:td hA f wP:=λ_ Y Y Y Y Y Y d=>d.elim
structure gq(SK:PySem.W.Frag)(e TU:ay)(st:bz)(P:ai)(fd:gp):Prop where
 ex:∃(C:ae) (l:Option ai) (ct w Te:ae) (k:Option ai) (z ca:ae) (L:Array (Option ae)),
  fd=PySem.W.fnOf e TU (iW st) (gE st) (cL st) .none ct w Te k z ca/\SK.lookup P=Z ⟨C,l,.func fd,L⟩/\PySem.W.codeIn SK z TU=aa
 cP:PySem.W.keepIn SK (.ref P)=aa
section
variable{SS:bw}{D:a9}{SK:PySem.W.Frag}{aw:ay->Option ae}{SW:aT}
theorem gq.ok{st:bz}{Tb:List ay}(N:gq SK e TU st P fd)(S0:ki Tb SO (cL st))(len:∀T h A SM,T0 T h A SM->T.length=SO.length)(a:∀(z:ae) (O:bp) (Tp:List dP) (j:ak) (h:au) (T:List as) (A:cw) (SM:fA),dV o (O.deeper<|hS TU (cL st) j.heap.objs.size P z)->T0 T h A SM->
   ∃B,gm (ia hA SS D SK aw SW Tb TU (cL st) P z O Tp j h SM).nB (gE st) B/\B {aZ:=λ_ R=>A .aR R,dO:=A} (start Tb T) h):gx SS D SK aw SW hA (o+1) P fd SO T0:=by
 obtain⟨C,l,ct,w,Te,k,z,ca,L,rfl,lk,b⟩:=N.ex;refine Ck lk b S0 len λO Tp j h T A SM c f=>?_;obtain⟨B,d,p⟩:=a z O Tp j h T A SM c f;exact⟨B,d.nB,p⟩
theorem gq.binds{st:bz}(N:gq SK e TU st P fd)(d:∀(ct w Te:ae) (k:Option ai) (z ca:ae) (S7:List ae),S7.length=SO.length->l1 (PySem.W.fnOf e TU (iW st) (gE st) (cL st) .none ct w Te k z ca) ⟨S7,[]⟩=pure (SO.zip S7)):hv SK fd SO []:=by
 obtain⟨C,l,ct,w,Te,k,z,ca,L,rfl,lk,a⟩:=N.ex;exact .all (d ct w Te k z ca)
theorem Lu{st:bz}{C:ae}{l k:Option ai}{L:Array (Option ae)}{ct w Te z ca:ae}(H:SK.lookup P=Z ⟨C,l,.func<|PySem.W.fnOf e TU (iW st) (gE st) (cL st) .none ct w Te k z ca,L⟩)(q:PySem.W.codeIn SK z TU=aa)(o:PySem.W.keepIn SK (.ref P)=aa):gq SK e TU st P (PySem.W.fnOf e TU (iW st) (gE st) (cL st) .none ct w Te k z ca):=⟨⟨C,l,ct,w,Te,k,z,ca,L,rfl,H,q⟩,o⟩
end
section
variable{f:aH}
theorem c8(b:Nat){e:ay}{S1:Pos}(a:f.N[b]?=Z e:=by rfl)(c:tb f.env.scope e:=by first|exact Or.inl rfl|exact Or.inr (Or.inl rfl)|exact Or.inr (Or.inr rfl))(hd:(e==("__debug__" : ay))=al:=by decide)(d:(e==("__classdict__" : ay))=al:=by decide):bC f (.Name e S1) (lq b):=zV a c hd d
end
def cG(h R:au):Prop:=∀c m,h c=Z m->R c=Z m
theorem cG.refl(h:au):cG h h:=λ_ Y d=>d
end L2
namespace L2
section
variable{f:aH}
theorem H0:eu f (.builtin "len") (λx h A=>∃g M,x=[as.ref g]/\h g=Z (.dm M)/\A (.int M.length) h):=by
 intro G j y h x S7 A Y r d;obtain⟨g,M,rfl,a,p⟩:=d;obtain⟨I,rfl,b⟩:=he r;cases b;exact NR Y (.inl a) λB SN c=>⟨.int M.length,h,c,⟨B,rfl⟩,p⟩
end
section
variable{F:Type}[DecidableEq F]
end
end L2
namespace L2
open PySem PySem.Spec PyProof.Rows
variable{A:Option ae->ak->Prop}{b Td:Nat}{SP k az:ai}{d:aT}{SY:List ae}{E:c0}{To TQ Ue:a8}{b0:List ai}{h:au}{y:St}{G:List (ai×a0)}{Tl:List Nat}{own:List ay}{SL:dP}{S1:Pos}{S9:gs}{T_:List a8}{j:ak}
theorem Ps{SR:bw}{D:a9}{O:bp}{SQ:rj->ak->Prop}{b:a8}{SP f:ae}(Y:Nat->ak->Prop)(n:∀v j,Y v j->wpAny (aM SR D) O (gd SP) (λr a=>match r with
   |none=>SQ (.ok .next) a
   |some s=>wpAny (aM SR D) O (ry b SP s) (λ_ a=>wpAny (aM SR D) O (ho b SL s) (λ_ h=>
     wpAny (aM SR D) O (forIn T_ aa λq r=>if r=aa then do let ok <-o2 q SL (bQ q SL);pure (ForInStep.yield ok) else pure (ForInStep.yield r)) (λok g=>
      if ok=aa then wpAny (aM SR D) O (bQ Ue SL) (λe k=>
       wpAny (aM SR D) O (call (.builtin "list.append") [f,e]) (λ_ l=>∃i,i<v/\Y i l) (λ_ W=>False) k) (λ_ W=>False) g
      else ∃i,i<v/\Y i g) (λ_ W=>False) h) (λ_ W=>False) a) (λ_ W=>False) a) (λ_ W=>False) j)(v:Nat)(d:Y v j):
  codeAny (aM SR D) O (.compLoop (.ListComp Ue [⟨b,TQ,T_,0⟩] S9 S1) 0 SP f SL) SQ j:=by
 refine codeAny_loop rfl Y (λv j o=>?_) v d;show wpAny _ O ((compTurn (.ListComp Ue [⟨b,TQ,T_,0⟩] S9 S1) 0 SP f SL).onRaise (λe=>do noteFrame e SL;theTreesLotGoes e)) _ _ j;refine wpAny_noted ?_;rw[compTurn_list];refine ao (uv<|ao<|fY (n v j o) (λr a c=>?_) λ_ W U=>U.elim);cases r with
 |none=>exact aJ c
 |some s=>
  refine ao (fY c (λ_ a c=>?_) λ_ W U=>U.elim);refine ao (fY c (λ_ h p=>ao<|fY p (λok g m=>?_) λ_ W U=>U.elim) λ_ W U=>U.elim);cases ok with
  |false=>exact aJ ⟨rfl,m⟩
  |true=>
   exact ao (ao<|fY m (λe k t=>ao<|fY t (λ_ l u=>aJ<|aJ ⟨rfl,u⟩) λ_ W U=>U.elim) λ_ W U=>U.elim)
noncomputable def nO(SL:dP)(a:List (ay×dp)):List (ay×ai):=a.foldl (λR t=>if t.2==.free then (t.1,(SL.cells.lookup t.1).getD 0)::R else R) []
theorem xc{SL:dP}:∀(b:List (ay×dp)) (R:List (ay×ai)),(∀t∈b,t.2=.free->∃q,SL.cells.lookup t.1=Z q)->
  (forIn b R λ(t:ay×dp) R=>if t.2==.free then (do let q <-sM SL t.1;pure (ForInStep.yield ((t.1,q)::R))) else pure (ForInStep.yield R):dr _)=
   pure (b.foldl (λR t=>if t.2==.free then (t.1,(SL.cells.lookup t.1).getD 0)::R else R) R)
 |[],R,_=>rfl
 |t::r,R,d=>by
  rw[tw,jF];by_cases c:t.2=.free
  ·obtain⟨q,g⟩:=d t kW c;have a:(t.2==dp.free)=aa:=by simp[c]
   rw[aB a,aB a];have h:sM SL t.1=pure q:=by unfold sM;rw[g]
   rw[h,g];show (forIn r ((t.1,q)::R) _:dr _)=_;exact xc r _ λe f=>d e (kx _ f)
  ·have a:¬ (t.2==dp.free)=aa:=by simp[c]
   rw[aG a,aG a];show (forIn r R _:dr _)=_;exact xc r _ λe f=>d e (kx _ f)
theorem Jq(d:∀t∈S9.names,t.2=.free->∃q,SL.cells.lookup t.1=Z q):closureFor S9 SL=pure (nO SL S9.names):=by
 have:=xc (SL:=SL) S9.names [] d;unfold closureFor;dsimp only;have a:(forIn S9.names ([]:List (ay×ai))<|λ(e:ay×dp) (r:List (ay×ai))=>(if e.2==.free then (do let q <-sM SL e.1;pure (ForInStep.yield ((e.1,q)::r))) else pure (ForInStep.yield r):dr (ForInStep<|List<|ay×ai)))=pure (nO SL S9.names):=this;rw[a];rfl
theorem Ar{SL:dP}:∀(c:List (ay×dp)) (R:List (ay×ai)) (e:ay) (q:ai),
  (c.foldl (λR t=>if t.2==.free then (t.1,(SL.cells.lookup t.1).getD 0)::R else R) R).lookup e=Z q->
  (q=(SL.cells.lookup e).getD 0/\(e,dp.free)∈c)\/R.lookup e=Z q
 |[],R,e,q,d=>.inr d
 |t::r,R,e,q,d=>by
  rw[jF]at d;rcases Ar r _ e q d with ⟨a,i⟩|d
  ·exact .inl ⟨a,kx _ i⟩
  ·by_cases b:t.2=.free
   ·rw[aB (by simp[b])]at d;rw[iG]at d;by_cases f:e=t.1
    ·subst f;rw[lz]at d;refine .inl ⟨(Option.some.inj d).symm,?_⟩;rw[<-b];exact kW
    ·have:(e==t.1)=al:=by simpa using f
     rw[this]at d;exact .inr d
   ·rw[aG (by simp[b])]at d;exact .inr d
theorem wH{SL:dP}:∀(b:List (ay×dp)) (R:List (ay×ai)) (e:ay),(e,dp.free)∈b\/(∃q,R.lookup e=Z q)->
  ∃q,(b.foldl (λR t=>if t.2==.free then (t.1,(SL.cells.lookup t.1).getD 0)::R else R) R).lookup e=Z q
 |[],R,e,d=>by
  rcases d with d|d
  ·cases d
  ·exact d
 |t::r,R,e,d=>by
  rw[jF];apply wH r _ e;rcases d with d|⟨q,d⟩
  ·rcases bI.mp d with a|d
   ·right;subst a;rw[aB (by rfl),iG,lz];exact⟨_,rfl⟩
   ·exact .inl d
  ·right;by_cases c:(t.2==dp.free)=aa
   ·rw[aB c,iG];cases e==t.1
    ·exact⟨q,d⟩
    ·exact⟨_,rfl⟩
   ·rw[aG c];exact⟨q,d⟩
structure ji where
 az:ai
 s:ak
 H:au
 b0:List ai
variable{TW:ji->bR}{T:ji->d0}{J:ji->gr}
def aH.f7(f:aH)(b:List ay)(S9:gs)(a:ji): aH :=
  {prog:=f.prog,w:=f.w,K:=f.K,aw:=f.aw,base:=f.base,A:=f.A,N:=b,ea:=a.s,oz:=a.H,env:=th S9 (nO f.env S9.names) a.az f.env,outer:=f.stack,stack:=f.stack,
    ex:=a.b0,fn:=λ_ => al,calm:=f.calm,gt:=[],ce:=λ_ Y => False}
theorem xu{SL:dP}:∀{g:List (ay×dp)}{e:ay}{o:dp},
  (g.map λ(v,o)=>if (o==dp.free&&SL.scope.kind==.function&&SL.kindOf v==Z .cell) then (v,dp.cell) else (v,o)).lookup e=Z o->
  (o=.cell\/o=.free)->(∀t∈g,t.2≠.cell)->(e,dp.free)∈g
 |[],e,o,d,_,_=>by simp at d
 | (v,f)::r,e,o,d,b,h=>by
  rw[ci]at d;dsimp only at d;by_cases i:e=v
  ·subst i;by_cases c:(f==dp.free&&SL.scope.kind==.function&&SL.kindOf e==Z .cell)=aa
   ·have:f=dp.free:=by
     simp only[cd]at c;exact by simpa using c.1.1
    subst this;exact kW
   ·simp only[c]at d;have a:f=o:=by simpa [iG] using d
    subst a;rcases b with b|b
    ·exact absurd b (h (e,f) kW)
    ·rw[b];exact kW
  ·have j:(e==v)=al:=by simpa using i
   have U:(r.map λ(v,o)=>if (o==dp.free&&SL.scope.kind==.function&&SL.kindOf v==Z .cell) then (v,dp.cell) else (v,o)).lookup e=Z o:=by
    by_cases c:(f==dp.free&&SL.scope.kind==.function&&SL.kindOf v==Z .cell)=aa
    ·rw[aB c,iG,j]at d;exact d
    ·rw[aG c,iG,j]at d;exact d
   exact kx _ (xu U b λt k=>h t<|kx _ k)
section
variable{f:aH}
structure iJ(f:aH)(S9:gs)(own:List ay)(Tl:List Nat):Prop where
 kind:S9.kind=.function
 cell:∀t∈S9.names,t.2≠.cell
 free:∀t∈S9.names,t.2=.free->f.env.scope.names.lookup t.1=Z .cell
 loc:∀t∈S9.names,t.2=.local->S9.names.lookup t.1=Z .local
 Pz:∀b∈Tl,∃e,f.N[b]?=Z e/\(e,dp.free)∈S9.names/\S9.names.lookup e=Z .free
noncomputable def gj(f:aH)(own:List ay)(Tl:List Nat):List ay:=own++Tl.map λb=>f.N.getD b ""
noncomputable def jI(own:List ay)(Tl:List Nat)(y:St):St:=own.map (λ_=>X)++Tl.map λb=>y.getD b X
theorem iJ.cells(S0:iJ f S9 own Tl)(ok:f.Ok):∀t∈S9.names,t.2=.free->∃q,f.env.cells.lookup t.1=Z q:=
 λt a b=>ok.has t.1 (.inl<|S0.free t a b)
theorem iJ.sub(S0:iJ f S9 own Tl)(ok:f.Ok){e:ay}{q:ai}(d:(nO f.env S9.names).lookup e=Z q):f.env.cells.lookup e=Z q/\(e,dp.free)∈S9.names:=by
 rcases Ar S9.names [] e q d with ⟨a,i⟩|d
 ·obtain⟨c,b⟩:=S0.cells ok (e,.free) i rfl;rw[show (List.lookup e f.env.cells)=Z c from b]at a;refine⟨?_,i⟩;rw[a];exact b
 ·simp at d
theorem Dj(S0:iJ f S9 own Tl)(Y:Inv f G y h j)(n:j.heap.objs.size<=az)(k:∀c∈b0,jx f G h c)(o:∀c∈b0,c<j.heap.objs.size):(f.f7 (gj f own Tl) S9 ⟨az,j,h,b0⟩).Ok where
 mod:=Y.ok.mod
 kind:=S0.kind
 glob:=Y.ok.glob
 blt:=Y.ok.blt
 above:=n
 inj:=λe t q l C=>Y.ok.inj e t q (S0.sub Y.ok l).1 (S0.sub Y.ok C).1
 has:=λe g=>by
  have i:(e,dp.free)∈S9.names:=by
   rcases g with g|g
   ·exact xu g (.inl rfl) S0.cell
   ·exact xu g (.inr rfl) S0.cell
  exact wH S9.names [] e (.inl i)
 jX:=λe q d W=>nomatch d
 hd:=Y.ok.hd
 frames:=Y.ok.frames
 kZ:=.inl rfl
 mQ:=λc b=>⟨cT<|fs (o c b) n,λe q d=>(k c b).2.2.2.2.1 e q (S0.sub Y.ok d).1⟩
 bs:=Y.bs
 ii:=ed Y.ok.ii Y.iQ
 kd:=λc m a b=>by
  rcases (k c b).2.2.2.1 with z|z
  ·exact Y.ok.kd c m a z
  ·exact absurd (fs (bX a)<|ed Y.ok.ii z) (kg _)
 jU:=λc b z=>by
  rcases bI.mp (Y.wu c z) with a|a
  ·exact (k c b).2.1 a
  ·exact (k c b).2.2.1 a
 f9:=Y.stack
 jG:=Y.rz
theorem KF{l:aT}{Tu:Nat}{i:ay->Option ae}(S0:iJ f S9 own Tl)(Y:Inv f G y h j)(D:j.heap.objs.size<=az)(Q:∀c∈b0,jx f G h c)(R:∀c∈b0,c<j.heap.objs.size)(z:∀c m,j.heap.get? c=Z m->l.get? c=Z m)(S:l.Ns az i):
  Inv (f.f7 (gj f own Tl) S9 ⟨az,j,h,b0⟩) [] (jI own Tl y) h {j with heap:=l,toks:=Tu} where
 ok:=Dj S0 Y D Q R
 os:=rfl
 bare:=Y.bare
 base:=dz.kept z
 loc:=by
  obtain⟨ex,fd,T⟩:=Y.loc;refine⟨i,S,λu e s g a w=>?_⟩;have g:(own++Tl.map λb=>f.N.getD b "")[u]?=Z e:=g;have a:(own.map (λ_=>(X:Option as))++Tl.map λb=>y.getD b X)[u]?=Z (Z s):=a;by_cases U:u<own.length
  ·rw[lf (by rw[a5];exact U),d3]at a;cases p:own[u]? with
   |none=>rw[p]at a;cases a
   |some E=>rw[p]at a;cases a
  ·rw[kY (by lia),d3]at g;rw[kY (by rw[a5];lia),d3,a5]at a;cases p:Tl[u-own.length]? with
   |none=>rw[p]at g;cases g
   |some b=>
    rw[p]at g a;have g:f.N.getD b "" = e:=Option.some.inj g;have a:y.getD b X=Z s:=Option.some.inj a;obtain⟨k,F,H,be⟩:=S0.Pz b (e5 p);have Tz:k=e:=by
     rw[<-g,cp,F];rfl
    subst Tz;have SX:y[b]?=Z (Z s):=by
     rw[cp]at a;cases J:y[b]? with
     |none=>rw[J]at a;cases a
     |some E=>rw[J]at a;rw[show E=Z s from a]
    have L:=S0.free (k,.free) H rfl;obtain⟨I,r,lk⟩:=T b k s F SX (.inr<|.inl L);refine⟨I,r,.inr ⟨?_,?_⟩⟩
    ·rcases w with w|w|w
     ·
      exfalso;have:∀{A:List (ay×dp)},A.lookup k=Z .free->(A.map λ(v,o)=>if (o==dp.free&&f.env.scope.kind==.function&&f.env.kindOf v==Z .cell) then (v,dp.cell) else (v,o)).lookup k≠Z .local:=by
       intro A;induction A with
       |nil=>intro d;simp at d
       |cons t r M=>
        obtain⟨v,o⟩:=t;intro d;rw[ci];dsimp only;by_cases O:k=v
        ·subst O;have Ul:o=.free:=by simpa [iG] using d
         subst Ul;by_cases x:(dp.free==dp.free&&f.env.scope.kind==ScopeKind.function&&f.env.kindOf k==Z dp.cell)=aa
         ·rw[aB x];simp[iG]
         ·rw[aG x];simp[iG]
        ·have B:(k==v)=al:=by simpa using O
         rw[iG,B]at d;by_cases x:(o==dp.free&&f.env.scope.kind==ScopeKind.function&&f.env.kindOf v==Z dp.cell)=aa
         ·rw[aB x,iG,B];exact M d
         ·rw[aG x,iG,B];exact M d
      exact this be w
     ·exact .inl w
     ·exact .inr w
    ·rcases lk with ⟨bs,_⟩|⟨_,q,cl,co⟩
     ·exact absurd (bs.symm.trans L) (by simp)
     ·obtain⟨fn,P⟩:=wH (SL:=f.env) S9.names [] k (.inl H);have:=(S0.sub Y.ok P).1;rw[cl]at this;cases this;obtain⟨m,C,hd⟩:=co;exact⟨q,P,m,z _ _ C,hd⟩
 cell:=λe q d=>by
  obtain⟨s,m,C,hd⟩:=Y.cell e q (S0.sub Y.ok d).1;exact⟨s,m,z _ _ C,hd⟩
 free:=Y.aV.fresh D
 gh:=λe q d=>Y.gh e q (S0.sub Y.ok d).1
 pin:=λn eq=>nomatch eq
 aV:=Y.aV.kept z
 len:=by simp[jI,gj,aH.f7]
end
section
variable{f:aH}
def zZ(f:aH)(T_:List a8)(B:d0)(G:List (ai×a0)):Prop:=
 ∀(j:ak) (y:St) (h:au) (A:Bool->au->Prop),Inv f G y h j->B y h A->
  wpAny (aM f.prog f.w) f.A (forIn T_ aa λq r=>if r=aa then do let ok <-o2 q f.env (bQ q f.env);pure (ForInStep.yield ok) else pure (ForInStep.yield r)) (sk f G y A) f.ce j
def rp(f:aH)(T_:List a8)(B:d0):Prop:=∀G,zZ f T_ B G
noncomputable def Lp:d0:=λ_ h A=>A aa h
theorem J7:rp f [] Lp:=λG j y h A Y d=>wpAny_tests_nil ⟨h,Y,d⟩
theorem Rh{q:a8}{B:d0}(d:g2 f q B):rp f [q] B:=λG j y h A Y a=>wpAny_tests_one (d G j y h A Y a)
def Ra(own:List ay)(Tl:List Nat)(J:gr)(T:d0)(TW:bR)(y:St)(Tb:List as->au->Prop)(S2:List as)(e:as)(R:au):Prop:=
 J e (jI own Tl y) R λa S5=>(∀(u:Nat) (s:as),(jI own Tl y)[u]?=Z (Z s)->a[u]?=Z (Z s))/\T a S5 λc b=>if c=aa then TW a b λs d=>S2.length<sizeLine/\Tb (S2++[s]) d else Tb S2 b
def OK(Tt:e3)(own:List ay)(Tl:List Nat)(J:gr)(T:d0)(TW:bR)(y:St)(SU:au)(A:cw):Prop:=
 ∃W:Nat->Nat->List as->au->Prop,(∃i,W 0 i [] SU)/\∀b i S2 h,W b i S2 h->(Tt.stop b h/\∀w,h w=X->A (.ref w) (upd h w<|.lst S2))\/
  (Tt.go b h/\∃Tb:List as->au->Prop,(∀a R,Tb a R->∃c,c<i/\W (b+1) c a R)/\∀e R,Tt.qA b h e R->Ra own Tl J T TW y Tb S2 e R)
noncomputable def ue(own:List ay)(Tl:List Nat)(E:c0)(J:ji->gr)(T:ji->d0)(TW:ji->bR):bR:=λy h A=>E y h λTt SU=>∀a:ji,OK Tt own Tl (J a) (T a) (TW a) y SU A
noncomputable def GQ(B:gs)(Tb:List ay)(S9:gs)(Tl:List Nat):Bool:=
 S9.kind==.function&&S9.names.all (λt=>t.2 != .cell)&&S9.names.all (λt=>t.2 != .free || B.names.lookup t.1==Z .cell)&&S9.names.all (λt=>t.2 != .local || S9.names.lookup t.1==Z .local) &&
  Tl.all (λb=>match Tb[b]? with|some e=>S9.names.lookup e==Z .free|none=>al)
theorem mem_of_lookup:∀{H:List (ay×dp)}{e:ay}{o:dp},H.lookup e=Z o->(e,o)∈H
 |[],_,_,d=>by simp at d
 | (v,b)::r,e,o,d=>by
  rw[iG]at d;by_cases a:e=v
  ·subst a;rw[lz]at d;cases d;exact kW
  ·rw[show (e==v)=al by simpa using a]at d;exact kx _ (mem_of_lookup d)
theorem hi{f:aH}(B:gs)(Tb:List ay)(d:GQ B Tb S9 Tl=aa)(a:f.env.scope=B:=by rfl)(j:f.N=Tb:=by rfl):iJ f S9 own Tl:=by
 unfold GQ at d;simp only[cd,fk,bne_iff_ne,ne_eq,u9,kB]at d;obtain⟨⟨⟨⟨l,C⟩,k⟩,m⟩,n⟩:=d;refine⟨l,C,λt c g=>?_,λt c g=>?_,λb SJ=>?_⟩
 ·rw[a];exact (k t c).resolve_left λh=>h g
 ·exact (m t c).resolve_left λh=>h g
 ·have:=n b SJ;rw[j];cases p:Tb[b]? with
  |none=>rw[p]at this;cases this
  |some e=>
   rw[p]at this;have i:S9.names.lookup e=Z .free:=by simpa using this
   exact⟨e,rfl,mem_of_lookup i,i⟩
theorem FP{Tv:Pos}{use:Option (ae->dr Unit)}{SM:ae->ak->Prop}{Tx:cw}(T3:f.calm=aa)(S0:iJ f S9 own Tl)(SJ:ke f To TQ E)(T4:∀bs,jn (f.f7 (gj f own Tl) S9 bs) To<|J bs)(bt:∀bs,rp (f.f7 (gj f own Tl) S9 bs) T_<|T bs)(T5:∀bs,bC (f.f7 (gj f own Tl) S9 bs) Ue<|TW bs)(SX:∀e,lY TQ f.env e=pure e)(Y:Inv f G y h j)(d:ue own Tl E J T TW y h Tx)(T6:∀(w az:ai) (SQ:au) (M:ak) (i:ay->Option ae),Inv f G y SQ M->M.heap.Ns az i->SQ az=X->f.env.locals≠az->(∀e q,f.env.cells.lookup e=Z q->q≠az)->f.ea.heap.objs.size<=az->(∀n∈f.gt++G,n.1≠az)->Tx (.ref w) SQ->compPost (aM f.prog f.w) f.A f.ce use SM (.ref w) az (.ok .next) M):
  wpAny (aM f.prog f.w) f.A (zn (.ListComp Ue [⟨To,TQ,T_,0⟩] S9 S1) S9 f.env Tv (ow []) al (bQ TQ f.env) use) SM f.ce j:=by
 refine wpAny_comprehension_free (use:=use) rfl SX (Jq<|S0.cells Y.ok) S0.kind S0.loc (bJ (SJ G j y h _ Y d) λs UM l=>bJ l λUN F C=>?_);obtain⟨SP,b0,B,Tt,S5,a,U,L,SS,Ts,T8⟩:=C;subst a;have s1:∀c∈b0,c<F.heap.objs.size:=λc k=>by
  obtain⟨m,a,O⟩:=L.obj _ _ SS c k;exact bX a
 refine fq (wpAny_newFunctionEnv S0.cell (by intro t T9;simp at T9) (λSU s2 mp=>?_) S0.kind);dsimp only at s2 mp ⊢;generalize SV:F.heap.push {cls:=.type "list",dict:=X,data:=.seq ([]:List ae).toArray}=ty at s2 mp ⊢;have ne:ty.objs.size=F.heap.objs.size+1:=by rw[<-SV,jW]
 have fd:F.heap.objs.size≠ty.objs.size:=by rw[ne];exact cT (qV _)
 have SY:F.heap.objs.size<=ty.objs.size:=by rw[ne];exact wf _
 have S4:∀c m,F.heap.get? c=Z m->SU.get? c=Z m:=λc m a=>
  mp.extBut c m (by rw[ne];exact cT (ES<|bX a)) (bS _<|SV ▸ bS _ a);have TA:SU.get? F.heap.objs.size=Z {cls:=.type "list",data:=.seq ([]:List ae).toArray 0}:=mp.extBut _ _ fd (bS _<|SV ▸ da _ rfl);generalize UO:ty.objs.size=az at s2 mp ne fd SY ⊢;generalize fn:F.heap.objs.size=w at TA ne fd SY ⊢;have of:F.heap.objs.size<=az:=by rw[fn];exact SY
 obtain⟨W,⟨Ua,Ub⟩,turn⟩:=T8 ⟨az,F,S5,b0⟩;have TB:=λ(Tu:Nat)=>KF (Tu:=Tu) S0 U of Ts s1 S4 s2;have TC:=T4 ⟨az,F,S5,b0⟩;have TD:=bt ⟨az,F,S5,b0⟩;have TE:=T5 ⟨az,F,S5,b0⟩;have S6:=Dj S0 U of Ts s1;generalize N:f.f7 (gj f own Tl) S9 ⟨az,F,S5,b0⟩=u at TB TC TD TE S6;have g1:u.prog=f.prog:=by rw[<-N];rfl
 have hd:u.w=f.w:=by rw[<-N];rfl
 have TF:u.K=f.K:=by rw[<-N];rfl
 have on:u.A=f.A:=by rw[<-N];rfl
 have TG:u.calm=aa:=by rw[<-N];exact T3
 have aS:u.env.locals=az:=by rw[<-N];rfl
 have S7:u.ex=b0:=by rw[<-N];rfl
 have un:u.ea=F:=by rw[<-N];rfl
 have Uc:u.oz=S5:=by rw[<-N];rfl
 have Ud:u.aA=ds f.stack:=by rw[<-N];rfl
 have up:u.gt=[]:=by rw[<-N];rfl
 have S8:u.ce=λ_ O=>False:=by rw[<-N];rfl
 have TH:u.env=th S9 (nO f.env S9.names) az f.env:=by rw[<-N];rfl
 have TI:∀e q,u.env.cells.lookup e=Z q->f.env.cells.lookup e=Z q:=λe q d=>(S0.sub U.ok (by rw[TH]at d;exact d)).1;have Uf:∀e q,u.env.cells.lookup e=Z q->q≠w:=λe q d z=>by
  obtain⟨s,m,cl,O⟩:=U.cell e q (TI e q d);have:=bX cl;rw[z,<-fn]at this;exact kg _ this
 have S_:∀c∈b0,c≠w:=λc k z=>by
  have:=s1 c k;rw[z,<-fn]at this;exact kg _ this
 have Ug:w∉u.aA:=λz=>by
  obtain⟨O,m,cl,O⟩:=S6.f9.mem z;rw[un]at cl;have:=bX cl;rw[fn]at this;exact kg _ this
 have Ta:∀(R:au) (m:a0),(∀c∈b0,R c=X)->∀c∈b0,jx u [(w,m)] R c:=λR m Tc c k=>by
  refine⟨Tc c k,?_,?_,.inl (by rw[S7];exact k),λe q d=>(Ts c k).2.2.2.2.1 e q (TI e q d),λn H=>?_⟩
  ·rw[aS];exact cT (fs (s1 c k) of)
  ·exact S6.jU c (by rw[S7];exact k)
  ·rw[up]at H;have:n=(w,m):=by simpa using H
   rw[this];exact fB (S_ c k)
 have TJ:∀Td:ak,Td={F with heap:=SU,toks:=F.toks+([]:List (ay×ae)).length}->
   codeAny (aM f.prog f.w) f.A (.compLoop (.ListComp Ue [⟨To,TQ,T_,0⟩] S9 S1) 0 (.ref SP) (.ref w) u.env)
    (compPost (aM f.prog f.w) f.A f.ce use SM (.ref w) az) Td:=by
  rintro Td rfl;refine Ps (λv SN=>∃(b:Nat) (S2:List as) (R:au) (SZ:List ae) (o:Nat),Inv u [(w,{cls:=.type "list",data:=.seq SZ.toArray o})] (jI own Tl y) R SN/\bK S2 SZ/\S2.length<=sizeLine/\B b SN.heap/\
   (∀c∈b0,R c=X)/\W b v S2 R) ?_ Ua ?_
  ·rintro v TK ⟨b,S2,P,SZ,o,Te,Gt,TL,TM,TN,Uh⟩;rcases turn b v S2 P Uh with ⟨stop,Ui⟩|⟨go,Tb,TO,step⟩
   ·have:=L.done u g1 hd TF TG b _ TK _ P (λ_ O=>False) Te (Ta P _ TN) TM stop;rw[on]at this;refine bJ this λr M Q=>?_;obtain⟨Tf,co⟩:=Q;subst Tf;obtain⟨i,Tc,O⟩:=co.loc;have Uj:M.heap.Ns az i:=by rw[<-aS];exact Tc
    have H:=co.pin (w,{cls:=.type "list",data:=.seq SZ.toArray o}) (by rw[up];simp);have im:P w=X:=H.2.1;have cP:∀c,c≠az->M.heap.get? c=M.heap.get? c:=λc k=>rfl;have mb:∀c m,F.heap.get? c=Z m->c≠az:=λc m a=>cT (fs (bX a) of);have Uk:∀c m,F.heap.get? c=Z m->c≠w:=λc m a=>by rw[<-fn];exact cT (bX a)
    have be:dz (ds f.stack) b0 S5 P F.heap M.heap:=by
     have:=co.base;rw[Ud,S7,Uc,un]at this;exact this
    have I:dz (ds f.stack) b0 S5 (upd P w<|.lst S2) F.heap M.heap:=
     ⟨λc m a v k f1=>(cP c<|mb c m a).trans<|be.keep c m a v k f1,
      λc m a v k f1=>by
      obtain⟨aW,p⟩:=be.slot c m a v k f1;exact⟨aW,(cP c<|mb c m a).trans p⟩,
      λc m a v f1=>by rw[cB (Uk c m a)];exact be.free c m a v f1,
      λc m a f1=>by
      obtain⟨Tq,p⟩:=be.there c m a f1;exact⟨Tq,(cP c<|mb c m a).trans p⟩,
      λc x a=>by rw[cB (hh (be.hR c x a) im)];exact be.hR c x a,
      λc m x a=>by rw[cB (hh (be.hM c m x a) im)];exact be.hM c m x a,
      λc SO a=>by
      obtain⟨Ul,p⟩:=be.iz c SO a;exact⟨Ul,by rw[cB (hh p im)];exact p⟩⟩
    have TP:∀c m,P c=Z m->c≠az:=λc m a z=>by
     have:=co.free;rw[aS,<-z,a]at this;cases this
    have Um:c_ f.prog f.w (upd P w<|.lst S2) M.heap:=λg m a=>by
     by_cases TR:g=w
     ·subst TR;rw[ec]at a;cases a;exact⟨TL,SZ,o,Gt,(cP _ fd).trans H.1⟩
     ·rw[cB TR]at a;have:=co.aV g m a;rw[g1,hd]at this;refine this.gl (λc I k p=>(cP c ?_).trans p) (λc p=>by rw[cB (hh p im)];exact p) λc x p=>by rw[cB (hh p im)];exact p
      rcases k with z|z
      ·rw[z];exact TP g m a
      ·exact TP c _ z
    have Un:Inv f G y (upd P w<|.lst S2) M:=U.Au (SN:=M) (T7:=b0) (by have:=co.os;rw[un]at this;exact this) I Um co.bare λc k=>⟨(Ts c k).2.2.2.1,(Ts c k).2.1,(Ts c k).2.2.2.2.1,(Ts c k).2.2.2.2.2⟩;have Uo:f.env.locals≠az:=by
     obtain⟨UP,Up,O⟩:=U.loc;obtain⟨m,O,O,cl,O⟩:=Up;exact mb _ _ cl
    have Uq:∀e q,f.env.cells.lookup e=Z q->q≠az:=λe q d=>by
     obtain⟨s,m,cl,O⟩:=U.cell e q d;exact mb _ _ cl
    refine T6 w az _ M i Un Uj ?_ Uo Uq ?_ (λn H=>mb _ _ (U.pin n H).1) (Ui w im)
    ·rw[cB (fB fd)];have:=co.free
     rwa [aS]at this
    ·exact ed U.iQ of
   ·have:=L.item u g1 hd TF TG b _ TK _ P (λ_ O=>False) Te (Ta P _ TN) TM go;rw[on]at this;refine bJ this λr M Q=>?_;obtain⟨I,Tf,Ur⟩:=Q;subst Tf;refine bJ Ur λ_ pm Q=>?_;obtain⟨e,Tg,Us,Ut,Uu,Th,Uv⟩:=Q;have Uw:=Us.pinned (Ta Tg _ Uv) (L.obj _ _ Th);have TS:=TC _ pm _ Tg e I _ Uw Ut (step e Tg Uu);rw[g1,hd,on,S8]at TS;refine bJ TS λ_ Ux Q=>?_;obtain⟨pt,Uy,Uz,UA,UB⟩:=Q;have TT:=TD _ Ux pt Uy _ Uz UB;rw[g1,hd,on,S8]at TT;refine bJ TT λc UC Q=>?_;obtain⟨TU,If,Is⟩:=Q;have TV:∀{TX:St}{R:au}{SN:ak},Inv u ([(w,{cls:=.type "list",data:=.seq SZ.toArray o})]++l6 b0 pm.heap) TX R SN->(∀c∈b0,R c=X)/\B (b+1) SN.heap:=λ{TX R SN} sp=>by
     refine⟨λc k=>?_,L.keep _ _ _ Th λc k m a=>(sp.pin (c,m)<|dH _<|dH _<|s7 k a).1⟩;obtain⟨m,a,O⟩:=L.obj _ _ Th c k;exact (sp.pin (c,m)<|dH _<|dH _<|s7 k a).2.1
    have TY:∀{Ti:List (ai×a0)}{R:au}{SN:ak},Inv u Ti pt R SN->Inv u Ti (jI own Tl y) R SN:=λ{Ti R SN} sp=>
     sp.weak (by rw[sp.len,Te.len]) UA;cases c with
    |false=>
     rw[aG c9]at Is;obtain⟨Tk,Tn,UD⟩:=TO _ _ Is;rw[aG c9];obtain⟨Tj,Tr⟩:=TV If;exact⟨Tk,Tn,b+1,S2,TU,SZ,o,TY (If.px λn H=>If.pin n (by
      rw[up];simp at H ⊢;exact .inl H)),Gt,TL,Tr,Tj,UD⟩
    |true=>
     rw[aB rfl]at Is ⊢;have TZ:=TE _ UC pt TU _ If Is;rw[g1,hd,on,S8]at TZ;refine bJ TZ λS eq Q=>?_;obtain⟨UE,Tp,Lt,UF,UQ,UG⟩:=Q;obtain⟨Tk,Tn,UH⟩:=TO _ _ UG;have H:=Lt.pin (w,{cls:=.type "list",data:=.seq SZ.toArray o}) (dH _ (dI _ (by simp)));have Tw:=H.1;refine oG zS ⟨_,Tw,rfl⟩ He (GB _ _) (CC w SZ.toArray o S (by rw[cr,<-Gt.length];lia)) ⟨Tw,?_⟩;have p:=CB Tw (λg=>g.push S);obtain⟨Tj,Tr⟩:=TV Lt;have UI:Inv u (l6 b0 pm.heap) pt Tp eq:=Lt.px λn H=>Lt.pin n (dH _<|dH _ H);have T0:∀c m,c≠w->eq.heap.get? c=Z m->(eq.heap.update w<|a0.mapSeq λg=>g.push S).get? c=Z m:=λc m k a=>(k7 eq.heap _<|fB k).trans a;have UJ:Inv u (l6 b0 pm.heap) pt Tp {eq with heap:=eq.heap.update w (a0.mapSeq λg=>g.push S),toks:=eq.toks}:=
      UI.turned (SP:=w) T0 H.2.1 (by rw[aS];exact fd) (.inr (by rw[un,fn];exact bm _)) Uf λn Ok=>by
       rw[up]at Ok;obtain⟨k,O⟩:=At (show n∈l6 b0 pm.heap by simpa using Ok);exact S_ _ k
     refine⟨Tk,Tn,b+1,S2++[UE],Tp,SZ++[S],o+1,TY<|UJ.px λn Ok=>?_,Gt.append<|.cons UF .nil,?_,?_,Tj,UH⟩
     ·have a:n=(w,{cls:=.type "list",data:=.seq (SZ++[S]).toArray (o+1)}):=by simpa using Ok
      subst a;refine⟨?_,H.2.1,H.2.2.1,H.2.2.2.1,λs z=>by cases z⟩;have UK:SZ.toArray.push S=(SZ++[S]).toArray:=by simp
      rw[<-UK];have T2:IsL (eq.heap.update w<|a0.mapSeq λg=>g.push S) w (SZ.toArray.push S) (if (SZ.toArray.push S).size==SZ.toArray.size then o else o+1):=p;rw[aG (by simp)]at T2;exact T2
     ·rw[cb,jq];lia
     ·refine L.keep _ _ _ Tr λc k m a=>T0 c m (S_ c k) a
  ·refine⟨0,[],S5,[],0,?_,.nil,gV _,L.keep _ _ _ SS λc O m a=>S4 c m a,λc k=>(Ts c k).1,Ub⟩;refine (TB _).px λn H=>?_;have a:n=(w,{cls:=.type "list",data:=.seq ([]:List ae).toArray 0}):=by simpa using H
   subst a;exact⟨TA,U.aV.fresh (by rw[fn];exact bm _),by rw[aS];exact fd,Ug,λs z=>by cases z⟩
 have UL:th S9 (nO f.env S9.names) az f.env=u.env:=TH.symm;show codeAny (aM f.prog f.w) f.A (.compStart _ 0 (.ref SP) (.ref w)<|th S9 (nO f.env S9.names) az f.env) _ _;rw[UL];exact codeAny_compStart_list (TJ _ rfl) (L.self f.A 0 _ _ _ (L.keep _ _ _ SS λc O m a=>S4 c m a)<|TJ _ rfl)
theorem HW(k:f.calm=aa)(S0:iJ f S9 own Tl)(SJ:ke f To TQ E)(l:∀b,jn (f.f7 (gj f own Tl) S9 b) To<|J b)(bt:∀b,rp (f.f7 (gj f own Tl) S9 b) T_<|T b)(o:∀b,bC (f.f7 (gj f own Tl) S9 b) Ue<|TW b)(SX:∀e,lY TQ f.env e=pure e:=by intro W;rfl):bC f (.ListComp Ue [⟨To,TQ,T_,0⟩] S9 S1) (ue own Tl E J T TW):=by
 intro G j y h A Y d;show wpAny _ f.A (zn (.ListComp Ue [⟨To,TQ,T_,0⟩] S9 S1) S9 f.env _ (ow []) al (bQ TQ f.env) X) _ _ j;refine FP (use:=X) (SM:=d4 f G y A) k S0 SJ l bt o SX Y d λw az r g i s t P H q u n p=>?_;show ∃i,g.heap.Ns az i/\∀U,aT.SameBut az g.heap U->d4 f G y A (.ref w) {g with heap:=U};refine⟨i,t,λU b9=>⟨.ref w,r,?_,rfl,p⟩⟩;exact s.turned (SP:=az) (Tk:=g.toks) (λc m v a=>(b9.2 c v).trans a) P (fB H) (.inr u) q n
end
def iB(d:aT)(k:ai)(SY:List ae)(Td:Nat):Prop:=∃m Q,d.get? k=Z m/\m.ExactDict/\m.data=.dict Q Td/\Q.toList.map (·.key)=SY
theorem iB.ty(e:iB j.heap k SY Td):j.TypeIs (.ref k) "dict" := let ⟨m,_,a,q,_⟩:=e;⟨m,a,q.1⟩
theorem iB.lt(e:iB d k SY Td):k<d.objs.size:=let ⟨_,_,a,_⟩:=e;bX a
theorem iB.go{U:aT}(e:iB d k SY Td)(o:∀m,d.get? k=Z m->U.get? k=Z m):iB U k SY Td:=let ⟨m,Q,a,r⟩:=e;⟨m,Q,o m a,r⟩
section
variable{SR:bw}{D:a9}{O:bp}{SM:ae->ak->Prop}{j:ak}
theorem Kz{A:ae->ak->Prop}(S:(k==ie)=al)(e:iB j.heap k SY Td)(p:A (.ref j.heap.objs.size) {j with heap:=j.heap.push {cls:=.type "dict_keyiterator",data:=.fields #[.ref k,.int 0 0,.int SY.length 0,.int Td 0]} }):wpAny (aM SR D) O (mZ<|.ref k) A SM j:=by
 have ty:=e.ty;obtain⟨m,Q,a,d,b,c⟩:=e;have v:Q.size=SY.length:=by rw[<-c,a5,db]
 refine v4 ty z0 (gW z0 ty F.entry_dict_iter ?z<|F.args_dict_iter_1 _)
 case z=>
  unfold ba.«dict.__iter__» ba.Dict.dictSlotNone;refine ao (ao<|BU ty ?_);show wpAny _ _ (pure<|ae.ref k) _ _ j;apply aJ;show wpAny _ _ (ba.Dict.showsAll k >>= _) _ _ j;unfold ba.Dict.showsAll;rw[aG (by rw[S];simp)];refine ao (aJ<|ao<|tR a b<|ao<|vV a b<|ao<|fq<|aJ ⟨_,rfl,"dict_keyiterator",_,⟨_,da _ rfl,rfl⟩,qT.lookup,?_⟩);simpa [en,v] using p
theorem J0{s:ae}(a:j.heap.IsKeyIter SP k b SY.length Td)(e:iB j.heap k SY Td)(d:SY[b]?=Z s)(p:∀U,U.IsKeyIter SP k (b+1) SY.length Td->aT.SameBut SP j.heap U->A (Z s) {j with heap:=U}):wpAny (aM SR D) O (gd<|.ref SP) A SM j:=by
 obtain⟨o,f,Ts,c⟩:=id a;obtain⟨m,Q,h,q,i,l⟩:=e;have v:Q.size=SY.length:=by rw[<-l,a5,db]
 have SJ:b<Q.size:=by
  have:b<SY.length:=(fw.mp d).1;lia
 have Ul:Q[b].key=s:=by
  rw[<-l,d3,ev,jk SJ]at d;exact Option.some.inj d
 unfold gd;refine ao (n8<|jf (name:=ay.ofString "__next__") a.typeIs qT<|gW qT a.typeIs Ha ?g<|Ee _)
 case g=>
  refine ao (aJ<|ao<|ao ?_);refine ao (vg a.typeIs<|aJ<|ao<|ov f c ?_);simp only[show ba.Dict_items.ownsTuple "dict_keyiterator" = al by decide,g7,fF];show wpAny _ _ (if (ae.ref k==ae.none)=aa then _ else _) _ _ j;rw[aG (show ¬ (ae.ref k==ae.none)=aa by intro g;cases g)];refine ao (aJ<|ao<|tR h i ?_);rw[aG (by simp[v])];refine ao (aJ<|ao<|vV h i ?_);rw[aG (by simp)];apply aJ;simp only[show ¬ ((b:Int)<0) by lia,fF,mj,jk SJ];refine ao (ao<|vg a.typeIs<|aJ<|ao<|B4 a.typeIs ?_);show wpAny _ _ (vj (.ref SP) 1 (en<|(b:Int)+1) >>= _) _ _ j;have n:(j.heap.update SP (a0.mapFields (·.setIfInBounds 1 (en<|(b:Int)+1)))).IsKeyIter SP k (b+1) SY.length Td:=
   ⟨_,nc _ f<|x9<|pI c _,(vS ..).trans Ts,by rw[pI c];simp[en]⟩;refine ao (nd f c (by simp) (ao (gf (ao (B4 (s:={j with heap:=j.heap.update SP (a0.mapFields (·.setIfInBounds 1 (en<|(b:Int)+1)))}) n.typeIs ?_)))));show wpAny _ _ (pure Q[b].key) _ _ _;rw[Ul];exact aJ (aJ ⟨_,rfl,aJ<|p _ n<|ls ..⟩)
theorem HA(o:O.handled=X)(a:j.heap.IsKeyIter SP k b SY.length Td)(e:iB j.heap k SY Td)(r:SY.length<=b)(p:∀U,aT.ExtBut SP j.heap U->A X {j with heap:=U}):wpAny (aM SR D) O (gd<|.ref SP) A SM j:=by
 obtain⟨s,f,Ts,h⟩:=id a;obtain⟨m,Q,l,t,n,q⟩:=e;have v:Q.size=SY.length:=by rw[<-q,a5,db]
 unfold gd;refine ao (n8<|jf (name:=ay.ofString "__next__") a.typeIs qT<|gW qT a.typeIs Ha ?d<|Ee _)
 case d=>
  refine ao (aJ<|ao<|ao ?_);refine ao (vg a.typeIs<|aJ<|ao<|ov f h ?_);simp only[show ba.Dict_items.ownsTuple "dict_keyiterator" = al by decide,g7,fF];show wpAny _ _ (if (ae.ref k==ae.none)=aa then _ else _) _ _ j;rw[aG (show ¬ (ae.ref k==ae.none)=aa by intro d;cases d)];refine ao (aJ<|ao<|tR l n ?_);rw[aG (by simp[v])];refine ao (aJ<|ao<|vV l n ?_);rw[aG (by simp)];apply aJ;simp only[show ¬ ((b:Int)<0) by lia,fF,mj,wL (show Q.size<=b by lia)];refine ao (ao<|vg a.typeIs<|aJ ?_);show wpAny _ _ (vj (.ref SP) 0 .none >>= _) _ _ j;refine ao (nd f h (by simp) ?_);show wpAny _ _ (pv (.type "StopIteration") [] >>= _) _ _ _;apply ao;simp only[pv,vF];refine ao (fq (ao (m:=pi _ _) (uk (a:=ae.none) (by first|rfl|(simp only[pi];rfl)) (fq ?_ (by size_fits)))) (by size_fits));simp only[raiseNew];apply ao;apply zj;rw[show O.in1.handled=X from o];refine ao (m:=pure _) (aJ<|yh ?_);apply ao;refine p7 (T := "StopIteration") (b:=aa) ⟨_,da _ rfl,rfl⟩ vz ?_;exact aJ (p _<|((ls ..).extBut.push _).push _)
theorem PF(i:O.handled=X)(SP k:ai)(ne:k≠SP)(SY:List ae)(Td:Nat):i1 SR D O SP [SP,k] [SP] SY.length (λb s=>SY[b]?=Z s) (λb d=>d.IsKeyIter SP k b SY.length Td/\iB d k SY Td) where
 sub:=λc l=>by
  have:c=SP:=by simpa using l
  simp[this]
 frame:=λb d U st o=>⟨let ⟨m,a,r⟩:=st.1;⟨m,o SP (by simp) m a,r⟩,st.2.go (o k (by simp))⟩
 item:=λb j A SM SJ st e=>by
  have h:SY[b]?=Z SY[b]:=by simp[SJ]
  refine J0 st.1 st.2 h λU g c=>e _ U j.toks h ⟨g,st.2.go λm a=>c.extBut k m ne a⟩ λq m f a=>c.extBut q m (by simpa using f) a
 done:=λj A SM st e=>HA i st.1 st.2 (bm _) λU c=>e U j.toks λq m f a=>c q m (by simpa using f) a
 self:=λb j A SM st e=>wpAny_pyIter_keyiter st.1 e
theorem QV(S:(k==ie)=al):PySem.W.KdlSrc SR D "dict" k k SY.length (λb s=>SY[b]?=Z s) (λd=>iB d k SY Td) where
 type:=λj e=>e.ty
 there:=λd e=>⟨e.lt,e.lt⟩
 keep:=λd U e o=>e.go (o k<|.inl rfl)
 notList:=by decide
 notTuple:=by decide
 hint:=λO SM j A e p=>PySem.W.kdl_hint_dict e.ty p
 iter:=λO j c e=>⟨_,_,(λSM A p=>Kz S e p),PF c _ k (cT e.lt) SY Td,⟨⟨_,da _ rfl,rfl,rfl⟩,e.go λm a=>bS _ a⟩⟩
end
end L2
namespace L2
open PySem PySem.Spec PyProof.Rows PySem.W
section
variable{v:Nat}{M:Nat->Int}{c:Nat->Nat->(Bool->ak->Prop)->ak->Prop}
noncomputable def bc(M:Nat->Int)(n:Array Nat)(b:Nat):Int:=M (n.getD b 0)
def hF(M:Nat->Int)(n:Array Nat)(i:Nat):Prop:=∀b u,b<=u->u<i->bc M n b<=bc M n u
def fK(v:Nat)(M:Nat->Int)(c:Nat->Nat->(Bool->ak->Prop)->ak->Prop)(j:ak):Prop:=∀b u az,b<v->u<v->az (decide (M b<M u)) j->c b u az j
def cM(v:Nat)(n:Array Nat):Prop:=n.toList.Perm (range v)
variable{n:Array Nat}
theorem cM.size(d:cM v n):n.size=v:=by
 have:=d.length_eq;simpa using this
theorem cM.lt(d:cM v n){b:Nat}(SJ:b<v):n.getD b 0<v:=by
 have SX:=d.size;have a:n.getD b 0=n[b]:=by simp[Array.getD,SX,SJ]
 rw[a];have:n[b]∈n.toList:=by simp
 exact f2.mp (d.mem_iff.mp this)
theorem cM.ne(d:cM v n)(inj:∀b u,b<v->u<v->M b=M u->b=u){b u:Nat}(i:b<u)(c:u<v):bc M n b≠bc M n u:=by
 intro a;have SX:=d.size;have e:=inj _ _ (d.lt (by lia)) (d.lt c) a;have f:n.getD b 0=n[b]:=by simp[Array.getD,SX,show b<v by lia]
 have g:n.getD u 0=n[u]:=by simp[Array.getD,SX,c]
 rw[f,g]at e;have ah:n.toList.Nodup:=d.nodup_iff.mpr tf;have h:n.toList[b]'(by simpa [SX] using (show b<v by lia))=n.toList[u]'(by simpa [SX] using c):=by simpa using e
 have:=(Dz ah).mp h;lia
theorem mq{p:Array Nat}{b u:Nat}(a:n[b]?=p[u]?):bc M n b=bc M p u:=by
 unfold bc;rw[FI,FI,a]
theorem cM.rev(d:cM v n)(b u:Nat):cM v (mA n b u):=(Fu.mp<|mirror_perm n b u _).trans d
theorem cM.M0(d:cM v n)(b u:Nat):cM v (rG n b u):=(Fu.mp<|bubble_perm n b u).trans d
end
section
variable{SR:bw}{D:a9}{O:bp}{SM:ae->ak->Prop}{F:gB}{SP:Array bD}{M:Nat->Int}
end
section
variable{SR:bw}{D:a9}{O:bp}{SM:ae->ak->Prop}{F:gB}{SP:Array bD}{M:Nat->Int}{v:Nat}{j:ak}
noncomputable def pM:Bool->bD->Array bD->Nat->Nat->Nat->StateT br dr (Option Nat):=sortPriv% PySem.Builtin.gallop
theorem qN(a:fK v M (eW SR D O F SP) j){b u:Nat}(SJ:b<v)(c:u<v){st:br}(e:kindOf st=F){A:Option Bool->br->ak->Prop}(d:A (Z<|decide (M b<M u)) st j):
  kasC (aM SR D) O SM (lt' (bh SP b)<|bh SP u) A st j:=by
 rw[lt'_eq];apply bi;apply jg;have:=a b u (λq SN=>SN=j/\q=decide (M b<M u)) SJ c ⟨rfl,rfl⟩;unfold eW at this;rw[e];refine bi (nQ<|n8<|fY this (λq SN f=>?_) λ_ Y g=>g.elim);obtain⟨rfl,rfl⟩:=f;exact bf d
theorem gC{y z:Type}{av:fz}{P:Nat->z->StateT y dr (ForInStep z)}{A:z->y->ak->Prop}(Y:Nat->z->y->ak->Prop)(step:∀e q st SN,Y e q st SN->kasC av O SM (P e q) (λr c f=>match r with | .yield b=>Y (e+1) b c f | .done b=>A b c f) st SN):∀(i g:Nat) (q:z) (st:y) (SN:ak),(∀q st SN,Y (g+i) q st SN->A q st SN)->Y g q st SN->
   kasC av O SM (forIn (range' g i) q P) A st SN
 |0,g,q,st,SN,fin,d=>by
  show kasC av O SM (forIn ([]:List Nat) q P) A st SN;exact kasC_nil (fin q st SN d)
 |i+1,g,q,st,SN,fin,d=>by
  show kasC av O SM (forIn (g::range' (g+1) i) q P) A st SN;refine kasC_cons (fY (step g q st SN d) (λr f U=>?_) λ_ W a=>a);obtain⟨r,c⟩:=r;cases r with
  |done b=>exact U
  |yield b=>exact gC Y step i (g+1) b c f (λq st SN SJ=>fin q st SN (by rw[show g+(i+1)=g+1+i by lia];exact SJ)) U
noncomputable def cy(M:Nat->Int)(left:Bool)(o:Nat)(bN:Array Nat)(SW b:Nat):Bool:=if left=aa then decide (M (bN.getD (SW+b) 0)<M o) else !decide (M o<M (bN.getD (SW+b) 0))
theorem Ax(Q:fK v M (eW SR D O F SP) j){left:Bool}{o:Nat}(R:o<v){bN:Array Nat}(bs:∀b,b<bN.size->bN.getD b 0<v){SW i f:Nat}(ex:SW+i<=bN.size)(cl:f<i)(mono:∀b u,b<=u->u<i->cy M left o bN SW u=aa->cy M left o bN SW b=aa){st:br}(T:kindOf st=F){A:Option Nat->br->ak->Prop}(d:∀r,r<=i->(∀b,b<r->cy M left o bN SW b=aa)->(∀b,r<=b->b<i->cy M left o bN SW b=al)->A (Z r) st j):
  kasC (aM SR D) O SM (pM left (bh SP o) (bN.map<|bh SP) SW i f) A st j:=by
 have co:∀b,b<i->(bN.map<|bh SP)[SW+b]?=Z (bh SP<|bN.getD (SW+b) 0):=λb SJ=>by
  have:SW+b<bN.size:=by lia
  simp[Array.getD,this]
 have ask:∀b,b<i->∀P:Option Bool->br->ak->Prop,P (Z<|cy M left o bN SW b) st j->
   kasC (aM SR D) O SM (do let e <-elem' (bN.map<|bh SP) (SW+b);if left=aa then lt' e (bh SP o) else do let r <-lt' (bh SP o) e;pure (r.map λe=>!e)) P st j:=λb SJ P J=>by
  rw[sQ,co b SJ];apply bi;apply bf;have U:=bs (SW+b) (by lia);unfold cy at J;cases left with
  |true=>
   rw[aB rfl]at J ⊢;exact qN Q U R T J
  |false=>
   rw[aG c9]at J ⊢;exact bi (qN Q R U T<|bf J)
 unfold pM;with_unfolding_all refine bi ?_;refine ask f cl _ ?_;dsimp only;cases be:cy M left o bN SW f with
 |true=>
  rw[aB rfl];apply bi;apply fR;have H:∀last h,last<h->f+last<i->cy M left o bN SW (f+last)=aa->(h >= i-f\/cy M left o bN SW (f+h)=al)->
    f+last+1<=f+min h (i-f)/\f+min h (i-f)<=i/\(∀b,b<f+last+1->cy M left o bN SW b=aa)/\(∀b,f+min h (i-f)<=b->b<i->cy M left o bN SW b=al)/\f+min h (i-f)-(f+last+1)<=i-0:=λlast h eq TP N G=>by
   refine⟨by lia,by lia,λb SJ=>mono b (f+last) (by lia) TP N,λb l C=>?_,by lia⟩;rcases G with G|G
   ·lia
   ·cases x:cy M left o bN SW b with
    |false=>rfl
    |true=>rw[mono (f+h) b (by lia) C x]at G;cases G
  refine gC (λe q n SN=>n=st/\SN=j/\∃last h,q=(X,last,h)/\last<h/\e<h/\f+last<i/\cy M left o bN SW (f+last)=aa) ?_ _ 0 _ _ _ ?_ ⟨rfl,rfl,0,1,rfl,by lia,by lia,by lia,be⟩
  ·rintro e q n SN ⟨p,s,last,h,rfl,l,C,k,m⟩;rw[p,s];dsimp only;by_cases I:h >= i-f
   ·rw[aB I];apply bf;dsimp only;have y:=H last h l k m (.inl I);apply bi;apply fR;refine gC (λe q n SN=>n=st/\SN=j/\∃S SJ,q=(X,S,SJ)/\S<=SJ/\SJ<=i/\(∀b,b<S->cy M left o bN SW b=aa)/\(∀b,SJ<=b->b<i->cy M left o bN SW b=al)/\SJ-S<=i-e) ?_ _ 0 _ _ _ ?_ ⟨rfl,rfl,_,_,rfl,y⟩
    ·rintro e q n SN ⟨p,s,S,SJ,rfl,l,C,k,m,z⟩;rw[p,s];dsimp only;by_cases w:S >= SJ
     ·rw[aB w];apply bf;dsimp only;have a:S=SJ:=by lia
      subst a;exact bf (d S C k m)
     ·rw[aG w];have B:S<=S+(SJ-S)/2:=by lia
      have E:S+(SJ-S)/2<SJ:=by lia
      generalize S+(SJ-S)/2=mid at B E ⊢;refine bi (ask mid (by lia) _ ?_);dsimp only;cases t:cy M left o bN SW mid with
      |true=>
       rw[aB rfl];exact bf ⟨rfl,rfl,mid+1,SJ,rfl,by lia,C,λb L=>mono b mid (by lia) (by lia) t,m,by lia⟩
      |false=>
       rw[aG c9];refine bf ⟨rfl,rfl,S,mid,rfl,by lia,by lia,k,λb g c=>?_,by lia⟩;cases x:cy M left o bN SW b with
       |false=>rfl
       |true=>rw[mono mid b g c x]at t;cases t
    ·rintro q n SN ⟨p,s,S,SJ,rfl,l,C,k,m,z⟩;rw[p,s];dsimp only;have a:S=SJ:=by lia
     subst a;exact bf (d S C k m)
   ·rw[aG I];refine bi (ask (f+h) (by lia) _ ?_);dsimp only;cases t:cy M left o bN SW (f+h) with
    |true=>
     simp only[pU,g7,fF];exact bf ⟨rfl,rfl,h,2*h+1,rfl,by lia,by lia,by lia,t⟩
    |false=>
     simp only[Bool.not_false,hQ];apply bf;dsimp only;have y:=H last h l k m (.inr t);apply bi;apply fR;refine gC (λe q n SN=>n=st/\SN=j/\∃S SJ,q=(X,S,SJ)/\S<=SJ/\SJ<=i/\(∀b,b<S->cy M left o bN SW b=aa)/\(∀b,SJ<=b->b<i->cy M left o bN SW b=al)/\SJ-S<=i-e) ?_ _ 0 _ _ _ ?_ ⟨rfl,rfl,_,_,rfl,y⟩
     ·rintro e q n SN ⟨p,s,S,SJ,rfl,l,C,k,m,z⟩;rw[p,s];dsimp only;by_cases w:S >= SJ
      ·rw[aB w];apply bf;dsimp only;have a:S=SJ:=by lia
       subst a;exact bf (d S C k m)
      ·rw[aG w];have B:S<=S+(SJ-S)/2:=by lia
       have E:S+(SJ-S)/2<SJ:=by lia
       generalize S+(SJ-S)/2=mid at B E ⊢;refine bi (ask mid (by lia) _ ?_);dsimp only;cases t:cy M left o bN SW mid with
       |true=>
        rw[aB rfl];exact bf ⟨rfl,rfl,mid+1,SJ,rfl,by lia,C,λb L=>mono b mid (by lia) (by lia) t,m,by lia⟩
       |false=>
        rw[aG c9];refine bf ⟨rfl,rfl,S,mid,rfl,by lia,by lia,k,λb g c=>?_,by lia⟩;cases x:cy M left o bN SW b with
        |false=>rfl
        |true=>rw[mono mid b g c x]at t;cases t
     ·rintro q n SN ⟨p,s,S,SJ,rfl,l,C,k,m,z⟩;rw[p,s];dsimp only;have a:S=SJ:=by lia
      subst a;exact bf (d S C k m)
  ·rintro q n SN ⟨p,s,last,h,rfl,l,C,k,m⟩;rw[p,s];dsimp only;have y:=H last h l k m (.inl (by lia));apply bi;apply fR;refine gC (λe q n SN=>n=st/\SN=j/\∃S SJ,q=(X,S,SJ)/\S<=SJ/\SJ<=i/\(∀b,b<S->cy M left o bN SW b=aa)/\(∀b,SJ<=b->b<i->cy M left o bN SW b=al)/\SJ-S<=i-e) ?_ _ 0 _ _ _ ?_ ⟨rfl,rfl,_,_,rfl,y⟩
   ·rintro e q n SN ⟨p,s,S,SJ,rfl,l,C,k,m,z⟩;rw[p,s];dsimp only;by_cases w:S >= SJ
    ·rw[aB w];apply bf;dsimp only;have a:S=SJ:=by lia
     subst a;exact bf (d S C k m)
    ·rw[aG w];have B:S<=S+(SJ-S)/2:=by lia
     have E:S+(SJ-S)/2<SJ:=by lia
     generalize S+(SJ-S)/2=mid at B E ⊢;refine bi (ask mid (by lia) _ ?_);dsimp only;cases t:cy M left o bN SW mid with
     |true=>
      rw[aB rfl];exact bf ⟨rfl,rfl,mid+1,SJ,rfl,by lia,C,λb L=>mono b mid (by lia) (by lia) t,m,by lia⟩
     |false=>
      rw[aG c9];refine bf ⟨rfl,rfl,S,mid,rfl,by lia,by lia,k,λb g c=>?_,by lia⟩;cases x:cy M left o bN SW b with
      |false=>rfl
      |true=>rw[mono mid b g c x]at t;cases t
   ·rintro q n SN ⟨p,s,S,SJ,rfl,l,C,k,m,z⟩;rw[p,s];dsimp only;have a:S=SJ:=by lia
    subst a;exact bf (d S C k m)
 |false=>
  rw[aG c9];apply bi;apply fR;have H:∀last h,last<h->last<=f->cy M left o bN SW (f-last)=al->(h >= f+1\/cy M left o bN SW (f-h)=aa)->
    f+1-min h (f+1)<=f-last/\f-last<=i/\(∀b,b<f+1-min h (f+1)->cy M left o bN SW b=aa)/\(∀b,f-last<=b->b<i->cy M left o bN SW b=al)/\f-last-(f+1-min h (f+1))<=i-0:=λlast h eq TP N G=>by
   refine⟨by lia,by lia,λb SJ=>?_,λb l C=>?_,by lia⟩
   ·rcases G with G|G
    ·lia
    ·exact mono b (f-h) (by lia) (by lia) G
   ·cases x:cy M left o bN SW b with
    |false=>rfl
    |true=>rw[mono (f-last) b (by lia) C x]at N;cases N
  refine gC (λe q n SN=>n=st/\SN=j/\∃last h,q=(X,last,h)/\last<h/\e<h/\last<=f/\cy M left o bN SW (f-last)=al) ?_ _ 0 _ _ _ ?_ ⟨rfl,rfl,0,1,rfl,by lia,by lia,by lia,be⟩
  ·rintro e q n SN ⟨p,s,last,h,rfl,l,C,k,m⟩;rw[p,s];dsimp only;by_cases I:h >= f+1
   ·rw[aB I];apply bf;dsimp only;have y:=H last h l k m (.inl I);apply bi;apply fR;refine gC (λe q n SN=>n=st/\SN=j/\∃S SJ,q=(X,S,SJ)/\S<=SJ/\SJ<=i/\(∀b,b<S->cy M left o bN SW b=aa)/\(∀b,SJ<=b->b<i->cy M left o bN SW b=al)/\SJ-S<=i-e) ?_ _ 0 _ _ _ ?_ ⟨rfl,rfl,_,_,rfl,y⟩
    ·rintro e q n SN ⟨p,s,S,SJ,rfl,l,C,k,m,z⟩;rw[p,s];dsimp only;by_cases w:S >= SJ
     ·rw[aB w];apply bf;dsimp only;have a:S=SJ:=by lia
      subst a;exact bf (d S C k m)
     ·rw[aG w];have B:S<=S+(SJ-S)/2:=by lia
      have E:S+(SJ-S)/2<SJ:=by lia
      generalize S+(SJ-S)/2=mid at B E ⊢;refine bi (ask mid (by lia) _ ?_);dsimp only;cases t:cy M left o bN SW mid with
      |true=>
       rw[aB rfl];exact bf ⟨rfl,rfl,mid+1,SJ,rfl,by lia,C,λb L=>mono b mid (by lia) (by lia) t,m,by lia⟩
      |false=>
       rw[aG c9];refine bf ⟨rfl,rfl,S,mid,rfl,by lia,by lia,k,λb g c=>?_,by lia⟩;cases x:cy M left o bN SW b with
       |false=>rfl
       |true=>rw[mono mid b g c x]at t;cases t
    ·rintro q n SN ⟨p,s,S,SJ,rfl,l,C,k,m,z⟩;rw[p,s];dsimp only;have a:S=SJ:=by lia
     subst a;exact bf (d S C k m)
   ·rw[aG I];refine bi (ask (f-h) (by lia) _ ?_);dsimp only;cases t:cy M left o bN SW (f-h) with
    |false=>
     rw[aG c9];exact bf ⟨rfl,rfl,h,2*h+1,rfl,by lia,by lia,by lia,t⟩
    |true=>
     rw[aB rfl];apply bf;dsimp only;have y:=H last h l k m (.inr t);apply bi;apply fR;refine gC (λe q n SN=>n=st/\SN=j/\∃S SJ,q=(X,S,SJ)/\S<=SJ/\SJ<=i/\(∀b,b<S->cy M left o bN SW b=aa)/\(∀b,SJ<=b->b<i->cy M left o bN SW b=al)/\SJ-S<=i-e) ?_ _ 0 _ _ _ ?_ ⟨rfl,rfl,_,_,rfl,y⟩
     ·rintro e q n SN ⟨p,s,S,SJ,rfl,l,C,k,m,z⟩;rw[p,s];dsimp only;by_cases w:S >= SJ
      ·rw[aB w];apply bf;dsimp only;have a:S=SJ:=by lia
       subst a;exact bf (d S C k m)
      ·rw[aG w];have B:S<=S+(SJ-S)/2:=by lia
       have E:S+(SJ-S)/2<SJ:=by lia
       generalize S+(SJ-S)/2=mid at B E ⊢;refine bi (ask mid (by lia) _ ?_);dsimp only;cases t:cy M left o bN SW mid with
       |true=>
        rw[aB rfl];exact bf ⟨rfl,rfl,mid+1,SJ,rfl,by lia,C,λb L=>mono b mid (by lia) (by lia) t,m,by lia⟩
       |false=>
        rw[aG c9];refine bf ⟨rfl,rfl,S,mid,rfl,by lia,by lia,k,λb g c=>?_,by lia⟩;cases x:cy M left o bN SW b with
        |false=>rfl
        |true=>rw[mono mid b g c x]at t;cases t
     ·rintro q n SN ⟨p,s,S,SJ,rfl,l,C,k,m,z⟩;rw[p,s];dsimp only;have a:S=SJ:=by lia
      subst a;exact bf (d S C k m)
  ·rintro q n SN ⟨p,s,last,h,rfl,l,C,k,m⟩;rw[p,s];dsimp only;have y:=H last h l k m (.inl (by lia));apply bi;apply fR;refine gC (λe q n SN=>n=st/\SN=j/\∃S SJ,q=(X,S,SJ)/\S<=SJ/\SJ<=i/\(∀b,b<S->cy M left o bN SW b=aa)/\(∀b,SJ<=b->b<i->cy M left o bN SW b=al)/\SJ-S<=i-e) ?_ _ 0 _ _ _ ?_ ⟨rfl,rfl,_,_,rfl,y⟩
   ·rintro e q n SN ⟨p,s,S,SJ,rfl,l,C,k,m,z⟩;rw[p,s];dsimp only;by_cases w:S >= SJ
    ·rw[aB w];apply bf;dsimp only;have a:S=SJ:=by lia
     subst a;exact bf (d S C k m)
    ·rw[aG w];have B:S<=S+(SJ-S)/2:=by lia
     have E:S+(SJ-S)/2<SJ:=by lia
     generalize S+(SJ-S)/2=mid at B E ⊢;refine bi (ask mid (by lia) _ ?_);dsimp only;cases t:cy M left o bN SW mid with
     |true=>
      rw[aB rfl];exact bf ⟨rfl,rfl,mid+1,SJ,rfl,by lia,C,λb L=>mono b mid (by lia) (by lia) t,m,by lia⟩
     |false=>
      rw[aG c9];refine bf ⟨rfl,rfl,S,mid,rfl,by lia,by lia,k,λb g c=>?_,by lia⟩;cases x:cy M left o bN SW b with
      |false=>rfl
      |true=>rw[mono mid b g c x]at t;cases t
   ·rintro q n SN ⟨p,s,S,SJ,rfl,l,C,k,m,z⟩;rw[p,s];dsimp only;have a:S=SJ:=by lia
    subst a;exact bf (d S C k m)
end
section
variable{M:Nat->Int}
def cc(M:Nat->Int)(H:List Nat):Prop:=H.Pairwise λe t=>M e<=M t
structure Lr(M:Nat->Int)(f s:List Nat)(k:List Nat)(x G:Nat):Prop where
 perm:k.Perm (f.take x++s.take G)
 aI:cc M (k++f.drop x)
 b9:cc M (k++s.drop G)
 bN:x+1<f.length
 h5:G<s.length
variable{H i:List Nat}
theorem e_:cc M (H++i)↔cc M H/\cc M i/\∀e∈H,∀t∈i,M e<=M t:=EE
theorem oV(H:List Nat)(b o:Nat):H.take b++(H.drop b).take o=H.take (b+o):=by rw[List.take_add]
variable{f s k:List Nat}{x G:Nat}
theorem tP(o:Nat)(perm:k.Perm (f.take x++s.take G))(aI:cc M (k++f.drop x))(b9:cc M (k++s.drop G))(d:∀e∈(f.drop x).take o,∀t∈s.drop G,M e<=M t):
  (k++(f.drop x).take o).Perm (f.take (x+o)++s.take G)/\cc M (k++(f.drop x).take o++f.drop (x+o))/\cc M (k++(f.drop x).take o++s.drop G):=by
 refine⟨?_,?_,?_⟩
 ·rw[<-oV f x o];refine (perm.append_right _).trans ?_;rw[a_,a_];exact dL _ cW
 ·rw[a_,<-mN,e9];exact aI
 ·rw[a_];have b:=e_.mp aI;have c:=e_.mp b9;refine e_.mpr ⟨b.1,e_.mpr ⟨b.2.1.sublist<|op _ _,c.2.1,d⟩,λe g t a=>?_⟩;rcases cx.mp a with a|a
  ·exact b.2.2 e g t (lW a)
  ·exact c.2.2 e g t a
theorem yd(o:Nat)(perm:k.Perm (f.take x++s.take G))(aI:cc M (k++f.drop x))(b9:cc M (k++s.drop G))(d:∀e∈(s.drop G).take o,∀t∈f.drop x,M e<=M t):
  (k++(s.drop G).take o).Perm (f.take x++s.take (G+o))/\cc M (k++(s.drop G).take o++f.drop x)/\cc M (k++(s.drop G).take o++s.drop (G+o)):=by
 have:=tP (f:=s) (s:=f) o (perm.trans cW) b9 aI d;exact⟨this.1.trans cW,this.2.2,this.2.1⟩
variable{b:Nat}
theorem js(d:b<H.length):(H.drop b).take 1=[H.getD b 0]:=by
 rw[kL d,cp,dh d];rfl
variable{t:Nat}
theorem jH(d:t∈H.drop b):∃u,b<=u/\u<H.length/\t=H.getD u 0:=by
 obtain⟨u,c,a⟩:=l7.mp d;have e:=c;rw[e4]at e;exact⟨b+u,by lia,by lia,by rw[<-a,pO];simp[List.getD,show b+u<H.length by lia]⟩
variable{o:Nat}
theorem pe(d:t∈(H.drop b).take o):∃u,u<o/\b+u<H.length/\t=H.getD (b+u) 0:=by
 obtain⟨u,c,a⟩:=l7.mp d;have e:=c;rw[gb,e4]at e;exact⟨u,by lia,by lia,by rw[<-a,u6,pO];simp[List.getD,show b+u<H.length by lia]⟩
theorem mU(d:cc M H){b u:Nat}(c:b<=u)(a:u<H.length):M (H.getD b 0)<=M (H.getD u 0):=by
 rcases Nat.lt_or_eq_of_le c with e|rfl
 ·have:=mJ.mp d b u (by lia) a e;simpa [List.getD,a,show b<H.length by lia] using this
 ·exact lb _
theorem F_(d:cc M (H++i)):cc M i:=(e_.mp d).2.1
theorem oQ{u:Nat}(d:cc M (k++H.drop b))(a:b<=u)(c:u<=o)(e:o<H.length):M (H.getD u 0)<=M (H.getD o 0):=by
 have:=mU (F_ d) (b:=u-b) (u:=o-b) (by lia) (by rw[e4];lia);simpa [List.getD,mB,show b+(u-b)=u by lia,show b+(o-b)=o by lia] using this
def gA(M:Nat->Int)(SP:Array bD)(f s:List Nat)(TR:Array bD):Prop:=∃k:List Nat,TR=(k.map<|bh SP).toArray/\k.Perm (f++s)/\cc M k
variable{SP:Array bD}
theorem qP(perm:k.Perm (f.take x++s.take G))(aI:cc M (k++f.drop x))(b9:cc M (k++s.drop G))(b:G=s.length\/x=f.length):
  gA M SP f s ((k.map<|bh SP).toArray++(f.map<|bh SP).toArray.extract x (f.map<|bh SP).toArray.size++(s.map<|bh SP).toArray.extract G (s.map<|bh SP).toArray.size):=by
 refine⟨k++f.drop x++s.drop G,?_,?_,?_⟩
 ·apply ks;simp[iv,sX]
 ·rw[a_];refine (perm.append_right _).trans ?_;have:(f.take x++s.take G++(f.drop x++s.drop G)).Perm ((f.take x++f.drop x)++(s.take G++s.drop G)):=by
   rw[a_,a_];refine dL _ ?_;rw[<-a_,<-a_];exact eB _ cW
  rw[e9,e9]at this;exact this
 ·rcases b with a|a
  ·rw[a,xm,bU];exact aI
  ·rw[a,xm,bU];exact b9
theorem uR(perm:k.Perm (f.take x++s.take G))(aI:cc M (k++f.drop x))(b9:cc M (k++s.drop G))(c:x+1=f.length)(dn:∀e∈s,M e<=M (f.getD (f.length-1) 0)):
  gA M SP f s ((k.map<|bh SP).toArray++(s.map<|bh SP).toArray.extract G (s.map<|bh SP).toArray.size++(f.map<|bh SP).toArray.extract x (f.map<|bh SP).toArray.size):=by
 refine⟨k++s.drop G++f.drop x,?_,?_,?_⟩
 ·apply ks;simp[iv,sX]
 ·rw[a_];refine (perm.append_right _).trans ?_;have:(f.take x++s.take G++(s.drop G++f.drop x)).Perm ((f.take x++f.drop x)++(s.take G++s.drop G)):=by
   rw[a_,a_];refine dL _ ?_;rw[<-a_];exact cW
  rw[e9,e9]at this;exact this
 ·refine e_.mpr ⟨b9,F_ aI,λe a t b=>?_⟩;rcases cx.mp a with a|a
  ·exact (e_.mp aI).2.2 e a t b
  ·obtain⟨u,l,C,rfl⟩:=jH b;have:u=f.length-1:=by lia
   rw[this];exact dn e (ky a)
end
section
variable{SR:bw}{D:a9}{O:bp}{SM:ae->ak->Prop}{F:gB}{SP:Array bD}{M:Nat->Int}{v:Nat}{j:ak}
noncomputable def E3:Array bD->Array bD->StateT br dr (Array bD):=sortPriv% PySem.Builtin.mergeLo
structure dc(z st:br):Prop where
 k:kindOf st=kindOf z
 a:arrOf st=arrOf z
 p:hy st=hy z
 f:hs st=hs z
theorem dc.refl(st:br):dc st st:=⟨rfl,rfl,rfl,rfl⟩
theorem hx{y Ta:Type}{av:fz}{i:StateT y dr Ta}{A b:Ta->y->ak->Prop}{st:y}{SN:ak}(d:kasC av O SM i b st SN)(J:∀g st SN,b g st SN->A g st SN):kasC av O SM i A st SN:=
 fY d (λr SN e=>J r.1 r.2 SN e) λ_ Y a=>a
variable{H:List Nat}
theorem fT{b:Nat}(SJ:b<H.length){st:br}{A:bD->br->ak->Prop}(d:A (bh SP<|H.getD b 0) st j):kasC (aM SR D) O SM (elem' (H.map<|bh SP).toArray b) A st j:=by
 rw[sQ,show ((H.map<|bh SP).toArray)[b]?=Z (bh SP<|H.getD b 0) by simp[List.getD,SJ]];exact bf d
theorem jc(a:∀e∈H,e<v){b:Nat}(SJ:b<H.length):H.getD b 0<v:=by
 rw[cp,dh SJ];exact a _ (qe SJ)
theorem k6(H:List Nat)(b:Nat):H.toArray.getD b 0=H.getD b 0:=by simp[Array.getD,List.getD];split<;>simp_all
theorem wC(f:fK v M (eW SR D O F SP) j){o:Nat}(h:o<v){H:List Nat}(k:∀e∈H,e<v){SW i a:Nat}(m:SW+i<=H.length)(n:a<i)(mono:∀b u,SW<=b->b<=u->u<SW+i->M (H.getD b 0)<=M (H.getD u 0)){st:br}(p:kindOf st=F){A:Option Nat->br->ak->Prop}(d:∀r,r<=i->(∀b,SW<=b->b<SW+r->M (H.getD b 0)<=M o)->(∀b,SW+r<=b->b<SW+i->M o<M (H.getD b 0))->A (Z r) st j):
  kasC (aM SR D) O SM (pM al (bh SP o) (H.map<|bh SP).toArray SW i a) A st j:=by
 rw[<-Gy];refine Ax f h (λb SJ=>by rw[k6];exact jc k (by simpa using SJ)) (by simpa using m) n (λb u t w q=>?_) p λr s g c=>d r s (λb l C=>?_) (λb l C=>?_)
 ·simp only[cy,k6,g7,fF,y0,wc,vW]at q ⊢;have:=mono (SW+b) (SW+u) (by lia) (by lia) (by lia);lia
 ·have:=g (b-SW) (by lia);simp only[cy,k6,g7,fF,y0,wc,vW]at this
  rwa [show SW+(b-SW)=b by lia]at this
 ·have:=c (b-SW) (by lia) (by lia);simp only[cy,k6,g7,fF,Bool.not_eq_false',uZ]at this
  rwa [show SW+(b-SW)=b by lia]at this
theorem yA(f:fK v M (eW SR D O F SP) j){o:Nat}(h:o<v){H:List Nat}(k:∀e∈H,e<v){SW i a:Nat}(m:SW+i<=H.length)(n:a<i)(mono:∀b u,SW<=b->b<=u->u<SW+i->M (H.getD b 0)<=M (H.getD u 0)){st:br}(p:kindOf st=F){A:Option Nat->br->ak->Prop}(d:∀r,r<=i->(∀b,SW<=b->b<SW+r->M (H.getD b 0)<M o)->(∀b,SW+r<=b->b<SW+i->M o<=M (H.getD b 0))->A (Z r) st j):
  kasC (aM SR D) O SM (pM aa (bh SP o) (H.map<|bh SP).toArray SW i a) A st j:=by
 rw[<-Gy];refine Ax f h (λb SJ=>by rw[k6];exact jc k (by simpa using SJ)) (by simpa using m) n (λb u t w q=>?_) p λr s g c=>d r s (λb l C=>?_) (λb l C=>?_)
 ·simp only[cy,k6,hQ,uZ]at q ⊢;have:=mono (SW+b) (SW+u) (by lia) (by lia) (by lia);lia
 ·have:=g (b-SW) (by lia);simp only[cy,k6,hQ,uZ]at this
  rwa [show SW+(b-SW)=b by lia]at this
 ·have:=c (b-SW) (by lia) (by lia);simp only[cy,k6,hQ,wc,vW]at this
  rwa [show SW+(b-SW)=b by lia]at this
theorem ol(k:List Nat)(t:Nat):(k.map<|bh SP).toArray.push (bh SP t)=((k++[t]).map<|bh SP).toArray:=by simp
theorem Bu(k H:List Nat)(b o:Nat):(k.map<|bh SP).toArray++(H.map<|bh SP).toArray.extract b (b+o)=((k++(H.drop b).take o).map<|bh SP).toArray:=by
 apply ks;simp[iv,iu,rr]
end
section
variable{SR:bw}{D:a9}{O:bp}{SM:ae->ak->Prop}{F:gB}{SP:Array bD}{M:Nat->Int}{v:Nat}{j:ak}
def hE(M:Nat->Int)(SP:Array bD)(f s:List Nat)(TR:Array bD)(x G:Nat):Prop:=∃k:List Nat,TR=(k.map<|bh SP).toArray/\Lr M f s k x G
variable{y Ta:Type}
theorem FM{av:fz}{O:bp}{SM:ae->ak->Prop}{q:Nat->Prop}{b:∀J,Decidable (q J)}{g SS:Nat->StateT y dr Ta}{A:Ta->y->ak->Prop}{st:y}{j:ak}(e:Nat->Nat)(a:∀J,g J=SS (e J))(h:∀J,kasC av O SM (SS J) A st j):∀J,kasC av O SM (if q J then g J else SS J) A st j:=by
 intro J;rw[a];split
 ·exact h _
 ·exact h _
variable{q:Prop}
theorem sn{av:fz}{O:bp}{SM:ae->ak->Prop}{i:Decidable q}{f Tt:Array bD->Nat->StateT y dr Ta}{A:Ta->y->ak->Prop}{st:y}{j:ak}(a c:Array bD->Nat->Prop)(h:∀m b,c m b->kasC av O SM (Tt m b) A st j)(e:¬ q->∀m b,a m b->c m b)(g:(∀m b,c m b->kasC av O SM (Tt m b) A st j)->q->∀m b,a m b->kasC av O SM (f m b) A st j):∀m b,a m b->kasC av O SM (if q then f m b else Tt m b) A st j:=λm b n=>
 if d:q then by rw[aB d];exact g h d m b n else by rw[aG d];exact h m b (e d m b n)
theorem AX{av:fz}{O:bp}{SM:ae->ak->Prop}{P:br->br}{A:PUnit->br->ak->Prop}{z st:br}{j:ak}(SX:dc z (P st))(d:∀a,dc z a->A ⟨⟩ a j):kasC av O SM (modify P:StateT br dr PUnit) A st j:=kJ (d _ SX)
def qm(M:Nat->Int)(SP:Array bD)(f s:List Nat)(st:br)(j:ak): Option (Array bD)×Array bD×Nat×Nat×Nat->br->ak->Prop:=λq b SN=>j=SN/\dc st b/\∃a n p r J,q=(Z a,n,p,r,J)/\gA M SP f s a
def rE(M:Nat->Int)(SP:Array bD)(f s:List Nat)(st:br)(j:ak)(e:Nat):Option (Array bD)×Array bD×Nat×Nat×Nat->br->ak->Prop:=λq a SN=>j=SN/\dc st a/\∃m x G J,q=(X,m,x,G,J)/\hE M SP f s m x G/\e+1<=x+G
def j7(M:Nat->Int)(SP:Array bD)(f s:List Nat)(st:br)(j:ak)(e:Nat):Option (Array bD)×Array bD×Nat×Nat×Nat×Nat->br->ak->Prop:=λq c SN=>j=SN/\dc st c/\((∃b n p r ac a,q=(Z b,n,p,r,ac,a)/\gA M SP f s b)\/∃m x G ac a,q=(X,m,x,G,ac,a)/\hE M SP f s m x G/\e+2<=x+G)
def nX(M:Nat->Int)(SP:Array bD)(f s:List Nat)(st:br)(j:ak)(e t:Nat):Option (Array bD)×Array bD×Nat×Nat×Nat×Nat->br->ak->Prop:=λq a SN=>j=SN/\dc st a/\∃m x G ac b,q=(X,m,x,G,ac,b)/\hE M SP f s m x G/\e+1+t<=x+G
def i6(M:Nat->Int)(SP:Array bD)(f s:List Nat)(st:br)(j:ak)(e:Nat):Option (Array bD)×Array bD×Nat×Nat×Nat×Nat×Nat->br->ak->Prop:=λq c SN=>j=SN/\dc st c/\((∃b n p r J ac a,q=(Z b,n,p,r,J,ac,a)/\gA M SP f s b)\/∃m x G J ac a,q=(X,m,x,G,J,ac,a)/\hE M SP f s m x G/\e+2<=x+G)
def ro(M:Nat->Int)(SP:Array bD)(f s:List Nat)(st:br)(j:ak)(e t:Nat):Option (Array bD)×Array bD×Nat×Nat×Nat×Nat×Nat->br->ak->Prop:=λq a SN=>j=SN/\dc st a/\∃m x G J ac b,q=(X,m,x,G,J,ac,b)/\hE M SP f s m x G/\e+2<=x+G
variable{f s:List Nat}{TR n:Array bD}{p r J:Nat}
theorem qm.a{M:Nat->Int}{SP:Array bD}{st b:br}{j:ak}(d:dc st b)(i:gA M SP f s TR):qm M SP f s st j (Z TR,n,p,r,J) b j:=⟨rfl,d,_,_,_,_,_,rfl,i⟩
variable{e x G:Nat}{m:Array bD}
theorem rE.k{M:Nat->Int}{SP:Array bD}{st b:br}{j:ak}(d:dc st b)(u:hE M SP f s m x G)(a:e+1<=x+G):rE M SP f s st j e (X,m,x,G,J) b j:=⟨rfl,d,_,_,_,_,rfl,u,a⟩
variable{Tc:Nat}
theorem j7.a{M:Nat->Int}{SP:Array bD}{st b:br}{j:ak}(d:dc st b)(i:gA M SP f s TR):j7 M SP f s st j e (Z TR,n,p,r,J,Tc) b j:=⟨rfl,d,.inl ⟨_,_,_,_,_,_,rfl,i⟩⟩
theorem j7.b{M:Nat->Int}{SP:Array bD}{st g:br}{j:ak}(d:dc st g)(u:hE M SP f s m x G)(a:e+2<=x+G):j7 M SP f s st j e (X,m,x,G,J,Tc) g j:=⟨rfl,d,.inr ⟨_,_,_,_,_,rfl,u,a⟩⟩
variable{t:Nat}
theorem nX.k{M:Nat->Int}{SP:Array bD}{st b:br}{j:ak}(d:dc st b)(u:hE M SP f s m x G)(a:e+1+t<=x+G):nX M SP f s st j e t (X,m,x,G,J,Tc) b j:=⟨rfl,d,_,_,_,_,_,rfl,u,a⟩
variable{TE:Nat}
theorem i6.a{M:Nat->Int}{SP:Array bD}{st b:br}{j:ak}(d:dc st b)(i:gA M SP f s TR):i6 M SP f s st j e (Z TR,n,p,r,J,Tc,TE) b j:=⟨rfl,d,.inl ⟨_,_,_,_,_,_,_,rfl,i⟩⟩
theorem i6.b{M:Nat->Int}{SP:Array bD}{st g:br}{j:ak}(d:dc st g)(u:hE M SP f s m x G)(a:e+2<=x+G):i6 M SP f s st j e (X,m,x,G,J,Tc,TE) g j:=⟨rfl,d,.inr ⟨_,_,_,_,_,_,rfl,u,a⟩⟩
theorem ro.k{M:Nat->Int}{SP:Array bD}{st b:br}{j:ak}(d:dc st b)(u:hE M SP f s m x G)(a:e+2<=x+G):ro M SP f s st j e t (X,m,x,G,J,Tc,TE) b j:=⟨rfl,d,_,_,_,_,_,_,rfl,u,a⟩
theorem PN{g c:Nat}(d:g=c):(g==c)=aa:=by simp[d]
theorem NP{g c:Nat}(d:¬ g=c):¬ (g==c)=aa:=by simp[d]
theorem kM{av:fz}{O:bp}{SM:ae->ak->Prop}{g:Nat}{H:List Nat}{e t:StateT y dr Ta}{A:Ta->y->ak->Prop}{st:y}{j:ak}(bt:g=H.length->kasC av O SM e A st j)(a:¬ g=H.length->kasC av O SM t A st j):kasC av O SM (if (g==(List.map (bh SP) H).toArray.size)=aa then e else t) A st j:=by
 rw[show (List.map (bh SP) H).toArray.size=H.length by simp];by_cases d:g=H.length
 ·rw[aB (PN d)];exact bt d
 ·rw[aG (NP d)];exact a d
theorem lM{av:fz}{O:bp}{SM:ae->ak->Prop}{b:Decidable q}{e t:StateT y dr Ta}{A:Ta->y->ak->Prop}{st:y}{j:ak}(bt:q->kasC av O SM e A st j)(a:¬ q->kasC av O SM t A st j):kasC av O SM (if q then e else t) A st j:=if d:q then by rw[aB d];exact bt d else by rw[aG d];exact a d
theorem MS(a:fK v M (eW SR D O F SP) j){o:Nat}(f:o<v){H:List Nat}(h:∀e∈H,e<v){SW:Nat}(m:SW<H.length)(mono:∀b u,SW<=b->b<=u->u<H.length->M (H.getD b 0)<=M (H.getD u 0)){st:br}(i:kindOf st=F){A:Option Nat->br->ak->Prop}(d:∀r,SW+r<=H.length->(∀b,SW<=b->b<SW+r->M (H.getD b 0)<=M o)->(∀b,SW+r<=b->b<H.length->M o<M (H.getD b 0))->A (Z r) st j):
  kasC (aM SR D) O SM (pM al (bh SP o) (H.map<|bh SP).toArray SW ((H.map<|bh SP).toArray.size-SW) 0) A st j:=by
 rw[show (H.map<|bh SP).toArray.size=H.length by simp];exact wC a f h (by lia) (by lia) (λb u g c q=>mono b u g c (by lia)) i λr l C k=>d r (by lia) C λb g c=>k b g (by lia)
theorem Hu(a:fK v M (eW SR D O F SP) j){o:Nat}(f:o<v){H:List Nat}(h:∀e∈H,e<v){SW:Nat}(m:SW<H.length)(mono:∀b u,SW<=b->b<=u->u<H.length->M (H.getD b 0)<=M (H.getD u 0)){st:br}(i:kindOf st=F){A:Option Nat->br->ak->Prop}(d:∀r,SW+r<=H.length->(∀b,SW<=b->b<SW+r->M (H.getD b 0)<M o)->(∀b,SW+r<=b->b<H.length->M o<=M (H.getD b 0))->A (Z r) st j):
  kasC (aM SR D) O SM (pM aa (bh SP o) (H.map<|bh SP).toArray SW ((H.map<|bh SP).toArray.size-SW) 0) A st j:=by
 rw[show (H.map<|bh SP).toArray.size=H.length by simp];exact yA a f h (by lia) (by lia) (λb u g c q=>mono b u g c (by lia)) i λr l C k=>d r (by lia) C λb g c=>k b g (by lia)
theorem IU(go:fK v M (eW SR D O F SP) j){f s:List Nat}(g1:∀e∈f,e<v)(hd:∀e∈s,e<v)(Ok:cc M f)(SJ:cc M s)(TN:0<f.length)(l:0<s.length)(first:∀e∈f,M (s.getD 0 0)<=M e)(dn:∀e∈s,M e<=M (f.getD (f.length-1) 0)){st:br}(pm:kindOf st=F){A:Array bD->br->ak->Prop}(d:∀TR E,gA M SP f s TR->dc st E->A TR E j):
  kasC (aM SR D) O SM (E3 (f.map<|bh SP).toArray (s.map<|bh SP).toArray) A st j:=by
 have im:[s.getD 0 0].Perm (f.take 0++s.take 1):=by
  have:=js (H:=s) (b:=0) l;simp only[kG]at this;rw[this];exact List.Perm.refl _
 have mb:cc M ([s.getD 0 0]++s.drop 1):=by
  have:=js (H:=s) (b:=0) l;simp only[kG]at this;rw[<-this,e9];exact SJ
 have ne:cc M ([s.getD 0 0]++f.drop 0):=e_.mpr ⟨er _ _,by rw[kG];exact Ok,λe r t w=>by
  rw[bW.mp r];exact first t (by rwa [kG]at w)⟩
 have S8:(List.map (bh SP) f).toArray.size=f.length:=by simp
 have S9:(List.map (bh SP) s).toArray.size=s.length:=by simp
 unfold E3;with_unfolding_all refine bi (nQ<|h4 ?_);refine bi (fT l ?_);refine kM (λpt=>bf<|d _ _ (qP im ne mb<|.inl pt)<|dc.refl st) λpt=>?_;refine kM (λsp=>bf<|d _ _ (uR im ne mb sp dn)<|dc.refl st) λsp=>?_;refine bi (jg ?_);refine bi (hx (b:=qm M SP f s st j) (fR (gC (rE M SP f s st j) ?step _ 0 _ _ _ ?fin (rE.k (dc.refl st) ⟨_,rfl,im,ne,mb,by lia,by lia⟩ (by lia)))) ?after)
 case after=>
  rintro q E SN ⟨rfl,SX,s2,m,x,G,J,rfl,bs⟩;exact bf (d _ _ bs SX)
 case fin=>
  rintro q E SN ⟨rfl,SX,m,x,G,J,rfl,⟨k,rfl,i⟩,r⟩;have:=i.bN;have:=i.h5;lia
 case step=>
  rintro e q E SN ⟨rfl,SX,m,x,G,J,rfl,I,r⟩;refine bi (hx (b:=j7 M SP f s st j e)
   (fR (gC (nX M SP f s st j e) ?SK _ 0 _ _ _ ?SL (nX.k SX I (by lia)))) ?SO)
  case SL=>
   rintro q E SN ⟨rfl,SX,m,x,G,ac,S,rfl,I,r⟩;exact j7.b SX I (by lia)
  case SK=>
   rintro t q E SN ⟨rfl,SX,m,x,G,ac,S,rfl,⟨k,rfl,i⟩,r⟩;have cl:=i.bN;have y:=i.h5;have fd:kindOf E=F:=SX.k.trans pm;have C:x<f.length:=by lia
   have cz:M (s.getD G 0)<M (f.getD x 0)->(k++[s.getD G 0]).Perm (f.take x++s.take (G+1))/\cc M (k++[s.getD G 0]++f.drop x)/\cc M (k++[s.getD G 0]++s.drop (G+1)):=λco=>by
    have:=yd 1 i.perm i.aI i.b9 (λe r t w=>by
     rw[js y,bW]at r;obtain⟨u,bE,T,rfl⟩:=jH w;have:=oQ i.aI (bm _) bE T;rw[r];lia)
    rwa [js y]at this
   have b3:¬ M (s.getD G 0)<M (f.getD x 0)->(k++[f.getD x 0]).Perm (f.take (x+1)++s.take G)/\cc M (k++[f.getD x 0]++f.drop (x+1))/\cc M (k++[f.getD x 0]++s.drop G):=λco=>by
    have:=tP 1 i.perm i.aI i.b9 (λe r t w=>by
     rw[js C,bW]at r;obtain⟨u,bE,T,rfl⟩:=jH w;have:=oQ i.b9 (bm _) bE T;rw[r];lia)
    rwa [js C]at this
   refine bi (fT y<|bi<|fT C<|bi<|qN go (jc hd y) (jc g1 C) fd ?_);refine lM (λco=>?_) λco=>?_
   ·have c:=cz (by simpa using co);refine bi (fT y (kM (λN=>bf (j7.a SX (by rw[ol];exact qP c.1 c.2.1 c.2.2 (.inl N)))) λN=>?_));have Q:hE M SP f s ((k.map<|bh SP).toArray.push<|bh SP<|s.getD G 0) x (G+1):=⟨_,ol _ _,c.1,c.2.1,c.2.2,cl,by lia⟩;exact lM (λ_=>bf (j7.b SX Q (by lia))) λ_=>bf (nX.k SX Q (by lia))
   ·have c:=b3 (by simpa using co);refine bi (fT C (kM (λN=>bf (j7.a SX (by rw[ol];exact uR c.1 c.2.1 c.2.2 N dn))) λN=>?_));have Q:hE M SP f s ((k.map<|bh SP).toArray.push<|bh SP<|f.getD x 0) (x+1) G:=⟨_,ol _ _,c.1,c.2.1,c.2.2,by lia,y⟩;exact lM (λ_=>bf (j7.b SX Q (by lia))) λ_=>bf (nX.k SX Q (by lia))
  case SO=>
   rintro q E SN ⟨rfl,SX,⟨s2,m,x,G,ac,S,rfl,bs⟩|⟨m,x,G,ac,S,rfl,I,r⟩⟩
   ·exact bf (qm.a SX bs)
   ·refine bi (nQ<|h4 ?_);refine bi (hx (b:=i6 M SP f s st j e)
     (fR (gC (ro M SP f s st j e) ?SQ _ 0 _ _ _ ?fin2 (ro.k SX I (by lia)))) ?SV)
    case fin2=>
     rintro q E SN ⟨rfl,SX,m,x,G,J,ac,S,rfl,I,r⟩;exact i6.b SX I (by lia)
    case SV=>
     rintro q E SN ⟨rfl,SX,⟨s2,m,x,G,J,ac,S,rfl,bs⟩|⟨m,x,G,J,ac,S,rfl,I,r⟩⟩
     ·exact bf (qm.a SX bs)
     ·refine bi (kJ ?_);exact bf (rE.k ⟨SX.k,SX.a,SX.p,SX.f⟩ I (by lia))
    case SQ=>
     rintro t q E SN ⟨rfl,SX,m,x,G,J,ac,S,rfl,⟨k,ty,i⟩,r⟩;have cl:=i.bN;have y:=i.h5;dsimp only;revert J;refine FM (λJ=>J-1) ?C ?_
     case C=>exact λJ=>rfl
     intro J;refine bi (AX (z:=st) ⟨SX.k,SX.a,SX.p,SX.f⟩ λS_ R=>?_);have fd:=R.k.trans pm;refine bi (fT y ?_);refine bi (MS go (jc hd y) g1 (show x<f.length by lia) (λb u g c q=>oQ i.aI g c q) fd ?_);intro o Ta SW un;dsimp only;generalize eq:m=Tq;generalize ex:x=b;have SS:Tq=m/\b=x:=⟨eq.symm,ex.symm⟩;clear eq ex;revert Tq b;refine sn (λTq b=>Tq=m/\b=x) (λTq b=>hE M SP f s Tq b G/\x<=b/\∀u,b<=u->u<f.length->M (s.getD G 0)<M (f.getD u 0)) ?SU ?f1 ?SY
     case f1=>
      rintro SZ Tq b ⟨rfl,rfl⟩;exact⟨⟨k,ty,i⟩,bm _,λu g c=>un u (by lia) c⟩
     case SY=>
      rintro h _ Tq b ⟨rfl,rfl⟩;try dsimp only
      have L:=tP o i.perm i.aI i.b9 (λe r t w=>by
       obtain⟨u,S0,bE,rfl⟩:=pe r;obtain⟨S1,of,TP,rfl⟩:=jH w;have:=SW (b+u) (by lia) (by lia);have:=oQ i.b9 (bm _) of TP;lia)
      rw[ty,Bu];refine kM (λN=>bf<|i6.a R<|uR L.1 L.2.1 L.2.2 N dn) λN=>?_;refine kM (λup=>bf<|i6.a R<|qP L.1 L.2.1 L.2.2<|.inr up) λup=>?_;exact h _ _ ⟨⟨_,rfl,L.1,L.2.1,L.2.2,by lia,y⟩,by lia,λu g c=>un u g c⟩
     case SU=>
      rintro Tq b ⟨⟨k,rfl,i⟩,le,S2⟩;have cl:=i.bN;try dsimp only
      refine bi (fT y ?_);have Tv:=yd 1 i.perm i.aI i.b9 (λe r t w=>by
       rw[js y,bW]at r;obtain⟨u,bE,T,rfl⟩:=jH w;have:=S2 u bE T;rw[r];lia)
      rw[js y]at Tv;rw[ol];refine kM (λGt=>bf<|i6.a R<|qP Tv.1 Tv.2.1 Tv.2.2<|.inl Gt) λGt=>?_;have C:b<f.length:=by lia
      refine bi (fT C ?_);refine bi (Hu go (jc g1 C) hd (show G+1<s.length by lia) (λb u g c q=>oQ Tv.2.2 g c q) fd ?_);intro Tr Tb S3 If;dsimp only;generalize k++[s.getD G 0]=on at *;generalize Tc:G+1=fn at *;generalize eq:(List.map (bh SP) on).toArray=Tq;generalize ex:fn=u;have SS:Tq=(List.map (bh SP) on).toArray/\u=fn:=⟨eq.symm,ex.symm⟩;clear eq ex;revert Tq u;refine sn (λTq u=>Tq=(List.map (bh SP) on).toArray/\u=fn) (λTq u=>hE M SP f s Tq b u/\fn<=u/\∀B,u<=B->B<s.length->M (f.getD b 0)<=M (s.getD B 0)) ?S5 ?Ts ?S4
      case Ts=>
       rintro SZ Tq u ⟨rfl,rfl⟩;exact⟨⟨_,rfl,Tv.1,Tv.2.1,Tv.2.2,cl,by lia⟩,bm _,λB g c=>If B (by lia) c⟩
      case S4=>
       rintro h _ Tq u ⟨rfl,rfl⟩;try dsimp only
       have be:=yd Tr Tv.1 Tv.2.1 Tv.2.2 (λe r t w=>by
        obtain⟨B,S0,bE,rfl⟩:=pe r;obtain⟨S1,of,TP,rfl⟩:=jH w;have:=S3 (u+B) (by lia) (by lia);have:=oQ Tv.2.1 (bm _) of TP;lia)
       rw[Bu];refine kM (λIs=>bf<|i6.a R<|qP be.1 be.2.1 be.2.2<|.inl Is) λIs=>?_;exact h _ _ ⟨⟨_,rfl,be.1,be.2.1,be.2.2,cl,by lia⟩,by lia,λB g c=>If B g c⟩
      case S5=>
       rintro Tq u ⟨⟨k,rfl,i⟩,xR,S6⟩;have S7:=i.h5;try dsimp only
       refine bi (fT C ?_);have U:=tP 1 i.perm i.aI i.b9 (λe r t w=>by
        rw[js C,bW]at r;obtain⟨B,bE,T,rfl⟩:=jH w;rw[r];exact S6 B bE T)
       rw[js C]at U;rw[ol];refine kM (λLt=>bf<|i6.a R<|uR U.1 U.2.1 U.2.2 Lt dn) λLt=>?_;have Q:hE M SP f s ((k++[f.getD b 0]).map<|bh SP).toArray (b+1) u:=⟨_,rfl,U.1,U.2.1,U.2.2,by lia,S7⟩;exact lM (λ_=>bf (i6.b R Q (by lia))) λ_=>bf (ro.k R Q (by lia))
end
section
variable{SR:bw}{D:a9}{O:bp}{SM:ae->ak->Prop}{F:gB}{SP:Array bD}{M:Nat->Int}{v:Nat}{j:ak}
noncomputable def D7:Array bD->Array bD->StateT br dr (Array bD):=sortPriv% PySem.Builtin.mergeHi
variable{H:List Nat}{b u:Nat}
theorem wZ(c:b<=u)(d:u<=H.length):H.drop b=(H.take u).drop b++H.drop u:=by
 have a:H.drop b=(H.take u++H.drop u).drop b:=by rw[e9]
 rw[a,List.drop_append_of_le_length (by rw[gb];lia)]
theorem IC(a:b<=u):H.take b++(H.take u).drop b=H.take u:=by
 have:=e9 b (H.take u)
 rwa [ui,oW a]at this
variable{f s i:List Nat}{E w:Nat}
theorem tH(o:Nat)(g:o<=E)(j:E<=f.length)(perm:i.Perm (f.drop E++s.drop w))(aI:cc M (f.take E++i))(b9:cc M (s.take w++i))(d:∀e∈(f.take E).drop o,∀t∈s.take w,M t<=M e):
  ((f.take E).drop o++i).Perm (f.drop o++s.drop w)/\cc M (f.take o++((f.take E).drop o++i))/\cc M (s.take w++((f.take E).drop o++i)):=by
 refine⟨?_,?_,?_⟩
 ·rw[wZ g j,a_];exact dL _ perm
 ·rw[<-a_,IC g];exact aI
 ·have h:=e_.mp aI;have c:=e_.mp b9;refine e_.mpr ⟨c.1,e_.mpr ⟨h.1.sublist<|qd _ _,c.2.1,λe b t a=>h.2.2 e (ky b) t a⟩,λe b t a=>?_⟩;rcases cx.mp a with a|a
  ·exact d t a e b
  ·exact c.2.2 e b t a
theorem vn(o:Nat)(a:o<=w)(b:w<=s.length)(perm:i.Perm (f.drop E++s.drop w))(aI:cc M (f.take E++i))(b9:cc M (s.take w++i))(d:∀e∈(s.take w).drop o,∀t∈f.take E,M t<=M e):
  ((s.take w).drop o++i).Perm (f.drop E++s.drop o)/\cc M (f.take E++((s.take w).drop o++i))/\cc M (s.take o++((s.take w).drop o++i)):=by
 have:=tH (f:=s) (s:=f) o a b (perm.trans cW) b9 aI d;exact⟨this.1.trans cW,this.2.2,this.2.1⟩
theorem ln(TN:0<b)(d:b<=H.length):(H.take b).drop (b-1)=[H.getD (b-1) 0]:=by
 rw[rr,show b-(b-1)=1 by lia];exact js (by lia)
variable{t:Nat}
theorem kO(d:t∈H.take b):∃u,u<b/\u<H.length/\t=H.getD u 0:=by
 have:=pe (b:=0) (o:=b) (t:=t) (H:=H) (by rwa [kG]);obtain⟨u,g,c,a⟩:=this;exact⟨u,g,by lia,by rw[a];congr 1;lia⟩
variable{o:Nat}
theorem A7(d:t∈(H.take o).drop b):∃u,b<=u/\u<o/\u<H.length/\t=H.getD u 0:=by
 rw[rr]at d;obtain⟨u,g,c,a⟩:=pe d;exact⟨b+u,by lia,by lia,c,a⟩
theorem oj(d:cc M (H.take b++i))(a:u<=o)(c:o<b)(e:o<H.length):M (H.getD u 0)<=M (H.getD o 0):=by
 have:=mU (e_.mp d).1 (b:=u) (u:=o) a (by rw[gb];lia);simpa [List.getD,nq,show u<b by lia,c] using this
theorem q9(perm:i.Perm (f.drop E++s.drop w))(aI:cc M (f.take E++i))(b9:cc M (s.take w++i))(b:E=0\/w=0):
  gA M SP f s ((f.map<|bh SP).toArray.extract 0 E++(s.map<|bh SP).toArray.extract 0 w++(i.reverse.map<|bh SP).toArray.reverse):=by
 refine⟨f.take E++s.take w++i,?_,?_,?_⟩
 ·apply ks;simp[iu]
 ·refine (dL _ perm).trans ?_;have:(f.take E++s.take w++(f.drop E++s.drop w)).Perm ((f.take E++f.drop E)++(s.take w++s.drop w)):=by
   rw[a_,a_];refine dL _ ?_;rw[<-a_,<-a_];exact eB _ cW
  rw[e9,e9]at this;exact this
 ·rcases b with a|a
  ·rw[a,ug,i7];exact b9
  ·rw[a,ug,bU];exact aI
theorem sI(perm:i.Perm (f.drop E++s.drop w))(aI:cc M (f.take E++i))(b9:cc M (s.take w++i))(c:w=1)(first:∀e∈f,M (s.getD 0 0)<=M e):
  gA M SP f s ((s.map<|bh SP).toArray.extract 0 w++(f.map<|bh SP).toArray.extract 0 E++(i.reverse.map<|bh SP).toArray.reverse):=by
 refine⟨s.take w++f.take E++i,?_,?_,?_⟩
 ·apply ks;simp[iu]
 ·refine (dL _ perm).trans ?_;have:(s.take w++f.take E++(f.drop E++s.drop w)).Perm ((f.take E++f.drop E)++(s.take w++s.drop w)):=by
   rw[a_,<-a_ (f.take E),<-a_ (f.take E++f.drop E)];rw[<-a_ (s.take w)];exact eB _ cW
  rw[e9,e9]at this;exact this
 ·rw[a_];refine e_.mpr ⟨(e_.mp b9).1,aI,λe b t a=>?_⟩;rcases cx.mp a with a|a
  ·obtain⟨u,l,C,rfl⟩:=kO b;have:u=0:=by lia
   rw[this];exact first t (lW a)
  ·exact (e_.mp b9).2.2 e b t a
theorem po(i:List Nat)(t:Nat):(i.reverse.map<|bh SP).toArray.push (bh SP t)=(([t]++i).reverse.map<|bh SP).toArray:=by simp
theorem B5(i H:List Nat)(b o:Nat):(i.reverse.map<|bh SP).toArray++((H.map<|bh SP).toArray.extract b o).reverse=(((H.take o).drop b++i).reverse.map<|bh SP).toArray:=by
 apply ks;simp[iv,iu,rr]
structure KZ(M:Nat->Int)(f s:List Nat)(i:List Nat)(E w:Nat):Prop where
 perm:i.Perm (f.drop E++s.drop w)
 aI:cc M (f.take E++i)
 b9:cc M (s.take w++i)
 bN:0<E
 h5:1<w
 yB:E<=f.length
 ze:w<=s.length
def hK(M:Nat->Int)(SP:Array bD)(f s:List Nat)(TR:Array bD)(E w:Nat):Prop:=∃i:List Nat,TR=(i.reverse.map<|bh SP).toArray/\KZ M f s i E w
end
section
variable{SR:bw}{D:a9}{O:bp}{SM:ae->ak->Prop}{F:gB}{SP:Array bD}{M:Nat->Int}{v:Nat}{j:ak}
def qy(M:Nat->Int)(SP:Array bD)(f s:List Nat)(st:br)(j:ak): Option (Array bD)×Nat×Nat×Array bD×Nat->br->ak->Prop:=λq b SN=>j=SN/\dc st b/\∃a n p r J,q=(Z a,n,p,r,J)/\gA M SP f s a
def rc(M:Nat->Int)(SP:Array bD)(f s:List Nat)(st:br)(j:ak)(e:Nat):Option (Array bD)×Nat×Nat×Array bD×Nat->br->ak->Prop:=λq a SN=>j=SN/\dc st a/\∃E w m J,q=(X,E,w,m,J)/\hK M SP f s m E w/\E+w+e+1<=f.length+s.length
def kw(M:Nat->Int)(SP:Array bD)(f s:List Nat)(st:br)(j:ak)(e:Nat):Option (Array bD)×Nat×Nat×Array bD×Nat×Nat->br->ak->Prop:=λq c SN=>j=SN/\dc st c/\((∃b n p r ac a,q=(Z b,n,p,r,ac,a)/\gA M SP f s b)\/∃E w m ac a,q=(X,E,w,m,ac,a)/\hK M SP f s m E w/\E+w+e+2<=f.length+s.length)
def oE(M:Nat->Int)(SP:Array bD)(f s:List Nat)(st:br)(j:ak)(e t:Nat):Option (Array bD)×Nat×Nat×Array bD×Nat×Nat->br->ak->Prop:=λq a SN=>j=SN/\dc st a/\∃E w m ac b,q=(X,E,w,m,ac,b)/\hK M SP f s m E w/\E+w+e+1+t<=f.length+s.length
def iV(M:Nat->Int)(SP:Array bD)(f s:List Nat)(st:br)(j:ak)(e:Nat):Option (Array bD)×Nat×Nat×Array bD×Nat×Nat×Nat->br->ak->Prop:=λq c SN=>j=SN/\dc st c/\((∃b n p r J ac a,q=(Z b,n,p,r,J,ac,a)/\gA M SP f s b)\/∃E w m J ac a,q=(X,E,w,m,J,ac,a)/\hK M SP f s m E w/\E+w+e+2<=f.length+s.length)
def pX(M:Nat->Int)(SP:Array bD)(f s:List Nat)(st:br)(j:ak)(e t:Nat):Option (Array bD)×Nat×Nat×Array bD×Nat×Nat×Nat->br->ak->Prop:=λq a SN=>j=SN/\dc st a/\∃E w m J ac b,q=(X,E,w,m,J,ac,b)/\hK M SP f s m E w/\E+w+e+2<=f.length+s.length
variable{f s:List Nat}{TR r:Array bD}{n p J:Nat}
theorem qy.a{M:Nat->Int}{SP:Array bD}{st b:br}{j:ak}(d:dc st b)(i:gA M SP f s TR):qy M SP f s st j (Z TR,n,p,r,J) b j:=⟨rfl,d,_,_,_,_,_,rfl,i⟩
variable{e E w:Nat}{m:Array bD}
theorem rc.k{M:Nat->Int}{SP:Array bD}{st b:br}{j:ak}(d:dc st b)(u:hK M SP f s m E w)(a:E+w+e+1<=f.length+s.length):rc M SP f s st j e (X,E,w,m,J) b j:=⟨rfl,d,_,_,_,_,rfl,u,a⟩
variable{Tc:Nat}
theorem kw.a{M:Nat->Int}{SP:Array bD}{st b:br}{j:ak}(d:dc st b)(i:gA M SP f s TR):kw M SP f s st j e (Z TR,n,p,r,J,Tc) b j:=⟨rfl,d,.inl ⟨_,_,_,_,_,_,rfl,i⟩⟩
theorem kw.b{M:Nat->Int}{SP:Array bD}{st g:br}{j:ak}(d:dc st g)(u:hK M SP f s m E w)(a:E+w+e+2<=f.length+s.length):kw M SP f s st j e (X,E,w,m,J,Tc) g j:=⟨rfl,d,.inr ⟨_,_,_,_,_,rfl,u,a⟩⟩
variable{t:Nat}
theorem oE.k{M:Nat->Int}{SP:Array bD}{st b:br}{j:ak}(d:dc st b)(u:hK M SP f s m E w)(a:E+w+e+1+t<=f.length+s.length):oE M SP f s st j e t (X,E,w,m,J,Tc) b j:=⟨rfl,d,_,_,_,_,_,rfl,u,a⟩
variable{TE:Nat}
theorem iV.a{M:Nat->Int}{SP:Array bD}{st b:br}{j:ak}(d:dc st b)(i:gA M SP f s TR):iV M SP f s st j e (Z TR,n,p,r,J,Tc,TE) b j:=⟨rfl,d,.inl ⟨_,_,_,_,_,_,_,rfl,i⟩⟩
theorem iV.b{M:Nat->Int}{SP:Array bD}{st g:br}{j:ak}(d:dc st g)(u:hK M SP f s m E w)(a:E+w+e+2<=f.length+s.length):iV M SP f s st j e (X,E,w,m,J,Tc,TE) g j:=⟨rfl,d,.inr ⟨_,_,_,_,_,_,rfl,u,a⟩⟩
theorem pX.k{M:Nat->Int}{SP:Array bD}{st b:br}{j:ak}(d:dc st b)(u:hK M SP f s m E w)(a:E+w+e+2<=f.length+s.length):pX M SP f s st j e t (X,E,w,m,J,Tc,TE) b j:=⟨rfl,d,_,_,_,_,_,_,rfl,u,a⟩
theorem lj{av:fz}{O:bp}{SM:ae->ak->Prop}{y Ta:Type}{g c:Nat}{e t:StateT y dr Ta}{A:Ta->y->ak->Prop}{st:y}{j:ak}(bt:g=c->kasC av O SM e A st j)(a:¬ g=c->kasC av O SM t A st j):kasC av O SM (if (g==c)=aa then e else t) A st j:=lM (λd=>bt (by simpa using d)) λd=>a (by simpa using d)
theorem JC(ne:fK v M (eW SR D O F SP) j){f s:List Nat}(of:∀e∈f,e<v)(on:∀e∈s,e<v)(SY:cc M f)(SZ:cc M s)(TN:0<f.length)(l:0<s.length)(first:∀e∈f,M (s.getD 0 0)<=M e)(dn:∀e∈s,M e<=M (f.getD (f.length-1) 0)){st:br}(If:kindOf st=F){A:Array bD->br->ak->Prop}(d:∀TR C,gA M SP f s TR->dc st C->A TR C j):
  kasC (aM SR D) O SM (D7 (f.map<|bh SP).toArray (s.map<|bh SP).toArray) A st j:=by
 have hd:(List.map (bh SP) f).toArray.size=f.length:=by simp
 have im:(List.map (bh SP) s).toArray.size=s.length:=by simp
 have pm:=ln TN (bm _);rw[n4]at pm;have pt:[f.getD (f.length-1) 0].Perm (f.drop (f.length-1)++s.drop s.length):=by
  rw[pm,xm];exact List.Perm.refl _
 have sp:cc M (f.take (f.length-1)++[f.getD (f.length-1) 0]):=by
  rw[<-pm,e9];exact SY
 have s1:cc M (s.take s.length++[f.getD (f.length-1) 0]):=e_.mpr ⟨by rw[n4];exact SZ,er _ _,λe r t y=>by
  rw[bW.mp y];exact dn e (by rwa [n4]at r)⟩
 unfold D7;with_unfolding_all refine bi (nQ<|h4 ?_);refine bi (fT (show (List.map (bh SP) f).toArray.size-1<f.length by lia) ?_);refine lj (λs2=>bf (d _ _ (by rw[hd]at s2;rw[hd,im];exact q9 pt sp s1 (.inl s2))<|dc.refl st)) λs2=>?_;refine lj (λty=>bf (d _ _ (by rw[im]at ty;rw[hd,im];exact sI pt sp s1 ty first)<|dc.refl st)) λty=>?_;refine bi (jg ?_);refine bi (hx (b:=qy M SP f s st j) (fR (gC (rc M SP f s st j) ?step _ 0 _ _ _ ?fin (rc.k (dc.refl st) (by rw[hd,im];exact⟨_,rfl,pt,sp,s1,by lia,by lia,by lia,by lia⟩) (by lia)))) ?after)
 case after=>
  rintro q C SN ⟨rfl,SX,Lt,m,x,G,J,rfl,eq⟩;exact bf (d _ _ eq SX)
 case fin=>
  rintro q C SN ⟨rfl,SX,E,w,m,J,rfl,⟨k,rfl,i⟩,r⟩;have:=i.bN;have:=i.h5;lia
 case step=>
  rintro e q C SN ⟨rfl,SX,E,w,m,J,rfl,I,r⟩;refine bi (hx (b:=kw M SP f s st j e)
   (fR (gC (oE M SP f s st j e) ?S0 _ 0 _ _ _ ?S1 (oE.k SX I (by lia)))) ?S2)
  case S1=>
   rintro q C SN ⟨rfl,SX,E,w,m,ac,be,rfl,I,r⟩;exact kw.b SX I (by lia)
  case S0=>
   rintro t q C SN ⟨rfl,SX,E,w,m,ac,be,rfl,⟨k,rfl,i⟩,r⟩;have L:=i.bN;have un:=i.h5;have H:=i.yB;have N:=i.ze;have mb:kindOf C=F:=SX.k.trans If;have Q:E-1<f.length:=by lia
   have bs:w-1<s.length:=by lia
   have cz:M (s.getD (w-1) 0)<M (f.getD (E-1) 0)->_:=λex=>by
    have:=tH (E-1) (by lia) H i.perm i.aI i.b9 (λe r t y=>by
     rw[ln L H,bW]at r;obtain⟨u,bE,fd,rfl⟩:=kO y;have:=oj i.b9 (show u<=w-1 by lia) (by lia) (by lia);rw[r];lia)
    rw[ln L H]at this;exact this
   have b3:¬ M (s.getD (w-1) 0)<M (f.getD (E-1) 0)->_:=λex=>by
    have:=vn (w-1) (by lia) N i.perm i.aI i.b9 (λe r t y=>by
     rw[ln (by lia) N,bW]at r;obtain⟨u,bE,fd,rfl⟩:=kO y;have:=oj i.aI (show u<=E-1 by lia) (by lia) (by lia);rw[r];lia)
    rw[ln (by lia) N]at this;exact this
   refine bi (fT bs<|bi<|fT Q<|bi<|qN ne (jc on bs) (jc of Q) mb ?_);refine lM (λex=>?_) λex=>?_
   ·have c:=cz (by simpa using ex);refine bi (fT Q (lj (λS=>bf (kw.a SX (by rw[po];exact q9 c.1 c.2.1 c.2.2 (.inl S)))) λS=>?_));have T:hK M SP f s ((k.reverse.map<|bh SP).toArray.push<|bh SP<|f.getD (E-1) 0) (E-1) w:=⟨_,po _ _,c.1,c.2.1,c.2.2,by lia,un,by lia,N⟩;exact lM (λ_=>bf (kw.b SX T (by lia))) λ_=>bf (oE.k SX T (by lia))
   ·have c:=b3 (by simpa using ex);refine bi (fT bs (lj (λS=>bf (kw.a SX (by rw[po];exact sI c.1 c.2.1 c.2.2 S first))) λS=>?_));have T:hK M SP f s ((k.reverse.map<|bh SP).toArray.push<|bh SP<|s.getD (w-1) 0) E (w-1):=⟨_,po _ _,c.1,c.2.1,c.2.2,L,by lia,H,by lia⟩;exact lM (λ_=>bf (kw.b SX T (by lia))) λ_=>bf (oE.k SX T (by lia))
  case S2=>
   rintro q C SN ⟨rfl,SX,⟨Lt,m,x,G,ac,be,rfl,eq⟩|⟨E,w,m,ac,be,rfl,I,r⟩⟩
   ·exact bf (qy.a SX eq)
   ·refine bi (nQ<|h4 ?_);refine bi (hx (b:=iV M SP f s st j e)
     (fR (gC (pX M SP f s st j e) ?S3 _ 0 _ _ _ ?fin2 (pX.k SX I (by lia)))) ?S4)
    case fin2=>
     rintro q C SN ⟨rfl,SX,E,w,m,J,ac,be,rfl,I,r⟩;exact iV.b SX I (by lia)
    case S4=>
     rintro q C SN ⟨rfl,SX,⟨Lt,m,x,G,J,ac,be,rfl,eq⟩|⟨E,w,m,J,ac,be,rfl,I,r⟩⟩
     ·exact bf (qy.a SX eq)
     ·refine bi (kJ ?_);exact bf (rc.k ⟨SX.k,SX.a,SX.p,SX.f⟩ I (by lia))
    case S3=>
     rintro t q C SN ⟨rfl,SX,E,w,m,J,ac,be,rfl,⟨k,Ok,i⟩,r⟩;have L:=i.bN;have un:=i.h5;have H:=i.yB;have N:=i.ze;have bs:w-1<s.length:=by lia
     dsimp only;revert J;refine FM (λJ=>J-1) ?Q ?_
     case Q=>exact λJ=>rfl
     intro J;refine bi (AX (z:=st) ⟨SX.k,SX.a,SX.p,SX.f⟩ λTf U=>?_);have mb:=U.k.trans If;refine bi (fT bs ?_);refine bi (wC ne (jc on bs) of (SW:=0) (i:=E) (a:=E-1) (by lia) (by lia) (λb u g c q=>oj i.aI c (by lia) (by lia)) mb ?_);intro o Tg SJ S7;dsimp only;generalize Th:E-o=Ti;generalize fn:m=Tq;generalize go:E=b;have SS:Tq=m/\b=E:=⟨fn.symm,go.symm⟩;clear fn go;revert Tq b;refine sn (λTq b=>Tq=m/\b=E) (λTq b=>hK M SP f s Tq b w/\b<=E/\∀u,u<b->M (f.getD u 0)<=M (s.getD (w-1) 0)) ?SU ?f1 ?S8
     case f1=>
      rintro S9 Tq b ⟨rfl,rfl⟩;exact⟨⟨k,Ok,i⟩,bm _,λu g=>SJ u (by lia) (by lia)⟩
     case S8=>
      rintro h _ Tq b ⟨rfl,rfl⟩;try dsimp only
      have co:=tH o (by lia) H i.perm i.aI i.b9 (λe r t y=>by
       obtain⟨u,S_,bE,fd,rfl⟩:=A7 r;obtain⟨up,Ta,TP,rfl⟩:=kO y;have:=S7 u (by lia) (by lia);have:=oj i.b9 (show up<=w-1 by lia) (by lia) (by lia);lia)
      rw[Ok,B5];refine lj (λS=>bf<|iV.a U<|q9 co.1 co.2.1 co.2.2<|.inl S) λS=>?_;exact h _ _ ⟨⟨_,rfl,co.1,co.2.1,co.2.2,by lia,un,by lia,N⟩,by lia,λu g=>SJ u (by lia) (by lia)⟩
     case SU=>
      rintro Tq b ⟨⟨k,rfl,i⟩,le,Tb⟩;have L:=i.bN;have H:=i.yB;have Q:b-1<f.length:=by lia
      try dsimp only
      refine bi (fT bs ?_);have Tv:=vn (w-1) (by lia) N i.perm i.aI i.b9 (λe r t y=>by
       rw[ln (by lia) N,bW]at r;obtain⟨u,bE,fd,rfl⟩:=kO y;rw[r];exact Tb u bE)
      rw[ln (by lia) N]at Tv;rw[po];refine lj (λSK=>bf<|iV.a U<|sI Tv.1 Tv.2.1 Tv.2.2 SK first) λSK=>?_;refine bi (fT Q ?_);refine bi (yA ne (jc of Q) on (SW:=0) (i:=w-1) (a:=w-1-1) (by lia) (by lia) (λb u g c q=>oj Tv.2.2 c (by lia) (by lia)) mb ?_);intro Tr Tj SL Tc;dsimp only;generalize [s.getD (w-1) 0]++k=Gt at *;generalize Tk:w-1=g1 at *;generalize Tl:g1-Tr=cK;generalize fn:(List.map (bh SP) Gt.reverse).toArray=Tq;generalize go:g1=u;have SS:Tq=(List.map (bh SP) Gt.reverse).toArray/\u=g1:=⟨fn.symm,go.symm⟩;clear fn go;revert Tq u;refine sn (λTq u=>Tq=(List.map (bh SP) Gt.reverse).toArray/\u=g1) (λTq u=>hK M SP f s Tq b u/\u<=g1/\∀B,B<u->M (s.getD B 0)<M (f.getD (b-1) 0)) ?S5 ?Ts ?Td
      case Ts=>
       rintro S9 Tq u ⟨rfl,rfl⟩;exact⟨⟨_,rfl,Tv.1,Tv.2.1,Tv.2.2,L,by lia,H,by lia⟩,bm _,λB g=>SL B (by lia) (by lia)⟩
      case Td=>
       rintro h _ Tq u ⟨rfl,rfl⟩;try dsimp only
       have R:=vn Tr (by lia) (show u<=s.length by lia) Tv.1 Tv.2.1 Tv.2.2 (λe r t y=>by
        obtain⟨B,S_,bE,fd,rfl⟩:=A7 r;obtain⟨up,Ta,TP,rfl⟩:=kO y;have:=Tc B (by lia) (by lia);have:=oj Tv.2.1 (show up<=b-1 by lia) (by lia) (by lia);lia)
       rw[B5];refine lj (λSO=>bf<|iV.a U<|sI R.1 R.2.1 R.2.2 SO first) λSO=>?_;refine lj (λSQ=>bf<|iV.a U<|q9 R.1 R.2.1 R.2.2<|.inr SQ) λSQ=>?_;exact h _ _ ⟨⟨_,rfl,R.1,R.2.1,R.2.2,L,by lia,H,by lia⟩,by lia,λB g=>SL B (by lia) (by lia)⟩
      case S5=>
       rintro Tq u ⟨⟨k,rfl,i⟩,xR,Te⟩;try dsimp only
       refine bi (fT Q ?_);have cl:=tH (b-1) (by lia) H i.perm i.aI i.b9 (λe r t y=>by
        rw[ln L H,bW]at r;obtain⟨B,bE,fd,rfl⟩:=kO y;have:=Te B bE;rw[r];lia)
       rw[ln L H]at cl;rw[po];refine lj (λSV=>bf<|iV.a U<|q9 cl.1 cl.2.1 cl.2.2<|.inl SV) λSV=>?_;have T:hK M SP f s (([f.getD (b-1) 0]++k).reverse.map<|bh SP).toArray (b-1) u:=⟨_,rfl,cl.1,cl.2.1,cl.2.2,by lia,i.h5,by lia,i.ze⟩;exact lM (λ_=>bf (iV.b U T (by lia))) λ_=>bf (pX.k U T (by lia))
end
section
variable{SR:bw}{D:a9}{O:bp}{SM:ae->ak->Prop}{F:gB}{SP:Array bD}{M:Nat->Int}{v:Nat}{j:ak}
theorem LA{y:Type}{av:fz}{A:PUnit->y->ak->Prop}{st a:y}{j:ak}(d:A ⟨⟩ a j):kasC av O SM (set a:StateT y dr PUnit) A st j:=by
 unfold kasC;rw[StateT.run_set];exact aJ d
theorem yr{Ta:Type}:∀(H:List Ta) (c:List Ta) (p f T5:Nat),p+H.length<=c.length->p=T5+f->((H.zipIdx f).foldl (λ(g:Array Ta) (e:Ta×Nat)=>g.setIfInBounds (T5+e.2) e.1) c.toArray)=(c.take p++H++c.drop (p+H.length)).toArray
 |[],c,p,f,T5,d,a=>by simp
 |e::H,c,p,f,T5,d,a=>by
  rw[c7]at d;rw[wr,jF];dsimp only;rw[<-a,Gw,yr H (c.set p e) (p+1) (f+1) T5 (by rw[qY];lia) (by lia)];congr 1;have h:(c.set p e).take (p+1)=c.take p++[e]:=by
   apply oa;intro b;rw[nq,List.getElem?_append,gb,nq,FH];by_cases l:b<p
   ·rw[aB (by lia),aG (by lia),aB (by lia),aB l]
   ·by_cases C:b=p
    ·subst C;rw[aB (by lia),aB rfl,aB (by lia),aG (by lia)];simp[show b-min b c.length=0 by lia]
    ·rw[aG (by lia),aG (by lia)];rw[p3];rw[jq];lia
  have i:(c.set p e).drop (p+1+H.length)=c.drop (p+(H.length+1)):=by
   apply oa;intro b;rw[mB,mB,FH,aG (by lia)];congr 1;lia
  rw[h,i,c7,a_,a_,a_];rfl
theorem DH{a c k:List Nat}{o i:Nat}(p:cc M a)(q:cc M c)(v:0<c.length)(w:0<a.length)(l:∀e∈a.take o,M e<=M (c.getD 0 0))(r:∀e∈c.drop i,M (a.getD (a.length-1) 0)<=M e)(m:k.Perm (a.drop o++c.take i))(T0:cc M k):cc M (a.take o++k++c.drop i)/\(a.take o++k++c.drop i).Perm (a++c):=by
 have g:∀t∈c,M (c.getD 0 0)<=M t:=λt f=>by
  obtain⟨u,Y,n,rfl⟩:=jH (b:=0) (H:=c) (by rwa [kG]);exact mU q (gV _) n
 have s:∀e∈a,M e<=M (a.getD (a.length-1) 0):=λe d=>by
  obtain⟨u,Y,n,rfl⟩:=jH (b:=0) (H:=a) (by rwa [kG]);exact mU p (by lia) (by lia)
 have h:cc M (a.take o++a.drop o):=by rwa [e9]
 have j:cc M (c.take i++c.drop i):=by rwa [e9]
 have h:=e_.mp h;have j:=e_.mp j;refine⟨e_.mpr ⟨e_.mpr ⟨h.1,T0,λe d t f=>?_⟩,j.2.1,λe d t f=>?_⟩,?_⟩
 ·rcases cx.mp (m.mem_iff.mp f) with f|f
  ·exact h.2.2 e d t f
  ·exact xK (l e d) (g t<|lW f)
 ·rcases cx.mp d with d|d
  ·exact xK (l e d) (g t<|ky f)
  ·rcases cx.mp (m.mem_iff.mp d) with d|d
   ·exact xK (s e<|ky d) (r t f)
   ·exact j.2.2 e d t f
 ·refine (eB _<|dL _ m).trans ?_;rw[<-a_,e9,a_,e9]
theorem Lj(S:fK v M (eW SR D O F SP) j){h:List Nat}(C:∀e∈h,e<v){b aI E w hd Ok:Nat}{st:br}(y:PyProof.Rows.kindOf st=F)(SK:arrOf st=(h.map<|bh SP).toArray)(T:hs st=X)(SJ:(hy st)[b]?=Z (aI,E,hd))(J:(hy st)[b+1]?=Z (aI+E,w,Ok))(SL:0<E)(im:0<w)(SY:aI+E+w<=h.length)(z:cc M ((h.drop aI).take E))(B:cc M ((h.drop<|aI+E).take w)){A:Bool->br->ak->Prop}(d:∀mid s,PyProof.Rows.kindOf s=F->hs s=X->hy s=((hy st).setIfInBounds b (aI,E+w,hd)).eraseIdxIfInBounds (b+1)->mid.Perm ((h.drop aI).take<|E+w)->cc M mid->
   arrOf s=((h.take aI++mid++h.drop (aI+(E+w))).map<|bh SP).toArray->A aa s j):
  kasC (aM SR D) O SM (ur b) A st j:=by
 have mb:((h.drop aI).take E).length=E:=by rw[gb,e4];lia
 have SN:((h.drop<|aI+E).take w).length=w:=by rw[gb,e4];lia
 have G:∀u,u<E->((h.drop aI).take E).getD u 0=h.getD (aI+u) 0:=λu J=>by simp[List.getD,nq,mB,J]
 have I:∀u,u<w->((h.drop<|aI+E).take w).getD u 0=h.getD (aI+E+u) 0:=λu J=>by simp[List.getD,nq,mB,J]
 have U:(h.drop aI).take E++(h.drop<|aI+E).take w=(h.drop aI).take (E+w):=by rw[<-mN,oV]
 have mp:h.take aI++(h.drop aI).take (E+w)++h.drop (aI+(E+w))=h:=by rw[oV,e9]
 have ne:∀b u,aI<=b->b<=u->u<aI+E->M (h.getD b 0)<=M (h.getD u 0):=λb u g c q=>by
  have:=mU z (b:=b-aI) (u:=u-aI) (by lia) (by lia)
  rwa [G _ (by lia),G _ (by lia),show aI+(b-aI)=b by lia,show aI+(u-aI)=u by lia]at this
 have of:∀b u,aI+E<=b->b<=u->u<aI+E+w->M (h.getD b 0)<=M (h.getD u 0):=λb u g c q=>by
  have:=mU B (b:=b-(aI+E)) (u:=u-(aI+E)) (by lia) (by lia)
  rwa [I _ (by lia),I _ (by lia),show aI+E+(b-(aI+E))=b by lia,show aI+E+(u-(aI+E))=u by lia]at this
 have L:∀e∈(h.drop aI).take E,∃u,aI<=u/\u<aI+E/\e=h.getD u 0:=λe r=>by
  obtain⟨u,N,bE,rfl⟩:=pe r;exact⟨aI+u,by lia,by lia,rfl⟩
 have on:∀e∈(h.drop<|aI+E).take w,∃u,aI+E<=u/\u<aI+E+w/\e=h.getD u 0:=λe r=>by
  obtain⟨u,N,bE,rfl⟩:=pe r;exact⟨aI+E+u,by lia,by lia,rfl⟩
 unfold ur;with_unfolding_all refine bi (jg ?_);simp only[SJ,J,SK];refine bi (LA ?_);refine bi (fT (show aI+E<h.length by lia) ?_);refine bi (wC S (jc C (show aI+E<h.length by lia)) C (SW:=aI) (i:=E) (a:=0) (by lia) SL ne (by exact y) ?_);intro o pm pt SQ;dsimp only;by_cases sp:E-o=0
 ·rw[aB (by simpa using sp)];refine bf (d _ _ (by exact y) (by exact T) rfl (List.Perm.refl _) ?_ ?_)
  ·rw[<-U];refine e_.mpr ⟨z,B,λe r t be=>?_⟩;obtain⟨u,bE,SS,rfl⟩:=L e r;obtain⟨bs,s1,cl,rfl⟩:=on t be;have:=pt u bE (by lia);have:=of (aI+E) bs (by lia) s1 cl;lia
  ·rw[mp]
 rw[aG (by simpa using sp)];rw[show aI+o+(E-o)-1=aI+E-1 by lia];refine bi (fT (show aI+E-1<h.length by lia) ?_);refine bi (yA S (jc C (show aI+E-1<h.length by lia)) C (SW:=aI+E) (i:=w) (a:=w-1) (by lia) (by lia) of (by exact y) ?_);intro m co SU s2;dsimp only;by_cases ty:m=0
 ·rw[aB (by simpa using ty)];refine bf (d _ _ (by exact y) (by exact T) rfl (List.Perm.refl _) ?_ ?_)
  ·rw[<-U];refine e_.mpr ⟨z,B,λe r t be=>?_⟩;obtain⟨u,bE,SS,rfl⟩:=L e r;obtain⟨bs,s1,cl,rfl⟩:=on t be;have:=s2 bs (by lia) cl;have:=ne u (aI+E-1) bE (by lia) (by lia);lia
  ·rw[mp]
 rw[aG (by simpa using ty)];have SV:(h.map<|bh SP).toArray.extract (aI+o) (aI+E)=((((h.drop aI).take E).drop o).map<|bh SP).toArray:=by
  apply ks;simp only[Gq,List.extract_eq_drop_take,iv,iu];rw[rr,mN,show aI+E-(aI+o)=E-o by lia]
 have SX:(h.map<|bh SP).toArray.extract (aI+E) (aI+E+m)=((((h.drop<|aI+E).take w).take m).map<|bh SP).toArray:=by
  apply ks;simp only[Gq,List.extract_eq_drop_take,iv,iu];rw[ui,oW co,show aI+E+m-(aI+E)=m by lia]
 rw[SV,SX];have l:∀e∈((h.drop aI).take E).take o,M e<=M (((h.drop<|aI+E).take w).getD 0 0):=λe r=>by
  rw[I 0 im];obtain⟨u,N,bE,rfl⟩:=kO r;rw[G u (by lia)];exact pt _ (by lia) (by lia)
 have un:∀e∈((h.drop<|aI+E).take w).drop m,M (((h.drop aI).take E).getD (((h.drop aI).take E).length-1) 0)<=M e:=λe r=>by
  rw[mb,G _ (by lia)];obtain⟨u,N,bE,rfl⟩:=jH r;rw[I u (by lia),show aI+(E-1)=aI+E-1 by lia];exact s2 _ (by lia) (by lia)
 have up:∀e∈((h.drop aI).take E).drop o,M ((((h.drop<|aI+E).take w).take m).getD 0 0)<=M e:=λe r=>by
  rw[show (((h.drop<|aI+E).take w).take m).getD 0 0=((h.drop<|aI+E).take w).getD 0 0 by simp only[List.getD,nq,aB (show 0<m by lia)],I 0 im];obtain⟨u,N,bE,rfl⟩:=jH r;rw[G u (by lia)];have:=SQ (aI+u) (by lia) (by lia);rw[xq];lia
 have eq:(((h.drop aI).take E).drop o).length=E-o:=by rw[e4,mb]
 have Gt:(((h.drop<|aI+E).take w).take m).length=m:=by rw[gb,SN];lia
 have Ts:∀e∈((h.drop<|aI+E).take w).take m,M e<=M ((((h.drop aI).take E).drop o).getD ((((h.drop aI).take E).drop o).length-1) 0):=λe r=>by
  rw[eq,show (((h.drop aI).take E).drop o).getD (E-o-1) 0=((h.drop aI).take E).getD (E-1) 0 by simp only[List.getD,mB,show o+(E-o-1)=E-1 by lia],G _ (by lia),show aI+(E-1)=aI+E-1 by lia];obtain⟨u,N,bE,rfl⟩:=kO r;rw[I u (by lia)];have:=SU (aI+E+u) (by lia) (by lia);lia
 have If:∀e∈((h.drop aI).take E).drop o,e<v:=λe r=>C e (ky<|lW<|ky r);have Is:∀e∈((h.drop<|aI+E).take w).take m,e<v:=λe r=>C e (ky<|lW<|lW r);by_cases Lt:E-o<=m
 ·rw[aB Lt];refine bi (IU S If Is (z.sublist<|qd _ _) (B.sublist<|op _ _) (by lia) (by lia) up Ts (by exact y) ?_);intro TR s ex x;obtain⟨k,rfl,Q,fd⟩:=ex;have R:=DH (M:=M) z B (by lia) (by lia) l un Q fd;refine bi (kJ ?_);refine bi (jg ?_);refine bf ?_;have a:hs s=X:=x.f.trans T;show A (hs s).isNone _ j;rw[a];refine d (((h.drop aI).take E).take o++k++((h.drop<|aI+E).take w).drop m) _ (x.k.trans y) (by first|rfl|exact a) (by exact x.p) (by rw[<-U];exact R.2) R.1 ?_;have fn:arrOf s=(h.map<|bh SP).toArray:=x.a;have bk:k.length=E-o+m:=by rw[Q.length_eq,cb,eq,Gt]
  have f1:=yr (k.map<|bh SP) (h.map<|bh SP) (aI+o) 0 (aI+o) (by rw[a5,a5,bk];lia) rfl;show List.foldl (λg e=>g.setIfInBounds (aI+o+e.2) e.1) (arrOf s) (k.map<|bh SP).toArray.toList.zipIdx=_;rw[fn];refine f1.trans ?_;rw[a5,bk,<-iu,<-iv,<-fe,<-fe];congr 2;have go:h.take (aI+o)=h.take aI++((h.drop aI).take E).take o:=by
   rw[ui,oW pm,oV]
  have g1:h.drop (aI+o+(E-o+m))=((h.drop<|aI+E).take w).drop m++h.drop (aI+(E+w)):=by
   have:=wZ (H:=h.drop (aI+E)) (b:=m) (u:=w) co (by rw[e4];lia);rw[mN,mN]at this;rw[show aI+o+(E-o+m)=aI+E+m by lia,this,show aI+E+w=aI+(E+w) by lia]
  rw[go,g1];simp only[a_]
 ·rw[aG Lt];refine bi (JC S If Is (z.sublist<|qd _ _) (B.sublist<|op _ _) (by lia) (by lia) up Ts (by exact y) ?_);intro TR s ex x;obtain⟨k,rfl,Q,fd⟩:=ex;have R:=DH (M:=M) z B (by lia) (by lia) l un Q fd;refine bi (kJ ?_);refine bi (jg ?_);refine bf ?_;have a:hs s=X:=x.f.trans T;show A (hs s).isNone _ j;rw[a];refine d (((h.drop aI).take E).take o++k++((h.drop<|aI+E).take w).drop m) _ (x.k.trans y) (by first|rfl|exact a) (by exact x.p) (by rw[<-U];exact R.2) R.1 ?_;have fn:arrOf s=(h.map<|bh SP).toArray:=x.a;have bk:k.length=E-o+m:=by rw[Q.length_eq,cb,eq,Gt]
  have f1:=yr (k.map<|bh SP) (h.map<|bh SP) (aI+o) 0 (aI+o) (by rw[a5,a5,bk];lia) rfl;show List.foldl (λg e=>g.setIfInBounds (aI+o+e.2) e.1) (arrOf s) (k.map<|bh SP).toArray.toList.zipIdx=_;rw[fn];refine f1.trans ?_;rw[a5,bk,<-iu,<-iv,<-fe,<-fe];congr 2;have go:h.take (aI+o)=h.take aI++((h.drop aI).take E).take o:=by
   rw[ui,oW pm,oV]
  have g1:h.drop (aI+o+(E-o+m))=((h.drop<|aI+E).take w).drop m++h.drop (aI+(E+w)):=by
   have:=wZ (H:=h.drop (aI+E)) (b:=m) (u:=w) co (by rw[e4];lia);rw[mN,mN]at this;rw[show aI+o+(E-o+m)=aI+E+m by lia,this,show aI+E+w=aI+(E+w) by lia]
  rw[go,g1];simp only[a_]
end
section
variable{SR:bw}{D:a9}{O:bp}{SM:ae->ak->Prop}{F:gB}{SP:Array bD}{M:Nat->Int}{v:Nat}{j:ak}{m:Array (Nat×Nat×Nat)}
structure eo(F:gB)(SP:Array bD)(m:Array (Nat×Nat×Nat))(st:br)(p:Array Nat):Prop where
 k:PyProof.Rows.kindOf st=F
 a:arrOf st=p.map (bh SP)
 p:hy st=m
 f:hs st=X
theorem qx(i:fK v M (eW SR D O F SP) j){n:Array Nat}(c:cM v n){b u:Nat}(SJ:b<v)(e:u<v){st:br}(h:eo F SP m st n){A:Option Bool->br->ak->Prop}(d:A (Z<|decide (bc M n b<bc M n u)) st j):
  kasC (aM SR D) O SM (mM b u) A st j:=by
 have f:∀b,b<v->(n.map<|bh SP)[b]?=Z (bh SP<|n.getD b 0):=λb SJ=>by
  have:b<n.size:=by rw[c.size];exact SJ
  simp[Array.getD,this]
 rw[ltAt'_eq];refine bi (jg ?_);rw[h.a];dsimp only;rw[sQ,sQ,f b SJ,f u e];refine bi (bf ?_);refine bi (bf ?_);exact qN i (c.lt SJ) (c.lt e) h.k d
variable{n:Array Nat}
theorem tW{st:br}(h:eo F SP m st n){b u:Nat}{A:Unit->br->ak->Prop}(d:∀c,eo F SP m c (mA n b u)->A () c j):kasC (aM SR D) O SM (p_ b u) A st j:=by
 rw[reverseSlice'_eq];refine kJ (d _ ⟨h.k,?_,h.p,h.f⟩);show mirror (arrOf st) b u ((u-b)/2)=_;rw[h.a];exact Fd (bh SP) (λo=>b+o) (λo=>u-1-o) _ n
theorem QO{st:br}(h:eo F SP m st n){b u:Nat}{A:Unit->br->ak->Prop}(d:∀c,eo F SP m c (rG n b<|b-u)->A () c j):kasC (aM SR D) O SM (moveDown' b u) A st j:=by
 rw[moveDown'_eq];refine kJ (d _ ⟨h.k,?_,h.p,h.f⟩);show rG (arrOf st) b (b-u)=_;rw[h.a];exact Fd (bh SP) (λo=>b-o) (λo=>b-o-1) _ n
theorem rv{y z:Type}{av:fz}{P:Nat->z->StateT y dr (ForInStep z)}{A:z->y->ak->Prop}(Y:Nat->z->y->ak->Prop)(Tf:Nat)(step:∀e q st SN,e<Tf->Y e q st SN->kasC av O SM (P e q) (λr c f=>match r with | .yield b=>Y (e+1) b c f | .done b=>A b c f) st SN):∀(i g:Nat) (q:z) (st:y) (SN:ak),g+i<=Tf->(∀q st SN,Y (g+i) q st SN->A q st SN)->Y g q st SN->
   kasC av O SM (forIn (range' g i) q P) A st SN
 |0,g,q,st,SN,h,fin,d=>by
  show kasC av O SM (forIn ([]:List Nat) q P) A st SN;exact kasC_nil (fin q st SN d)
 |i+1,g,q,st,SN,h,fin,d=>by
  show kasC av O SM (forIn (g::range' (g+1) i) q P) A st SN;refine kasC_cons (fY (step g q st SN (by lia) d) (λr f U=>?_) λ_ W a=>a);obtain⟨r,c⟩:=r;cases r with
  |done b=>exact U
  |yield b=>exact rv Y Tf step i (g+1) b c f (by lia) (λq st SN SJ=>fin q st SN (by rw[show g+(i+1)=g+1+i by lia];exact SJ)) U
end
section
variable{SR:bw}{D:a9}{O:bp}{SM:ae->ak->Prop}{F:gB}{SP:Array bD}{M:Nat->Int}{v:Nat}{j:ak}{m:Array (Nat×Nat×Nat)}
def hr(M:Nat->Int)(n:Array Nat)(S i:Nat):Prop:=∀b u,S<=b->b<=u->u<S+i->bc M n b<=bc M n u
theorem FL{n:Array Nat}{S i:Nat}(d:∀u,S+1<=u->u<S+i->bc M n (u-1)<=bc M n u):hr M n S i:=by
 intro b u SJ a e;obtain⟨k,rfl⟩:∃k,u=b+k:=⟨u-b,by lia⟩;clear a;induction k with
 |zero=>exact lb _
 |succ k f=>
  have g:=f (by lia);have c:=d (b+(k+1)) (by lia) e;rw[show b+(k+1)-1=b+k by lia]at c;lia
theorem Ov(cl:fK v M (eW SR D O F SP) j){n:Array Nat}(co:cM v n){S i k:Nat}(g1:S+i<=v)(l:1<=k)(hd:k<=i)(s:hr M n S k){st:br}(h:eo F SP m st n){A:Bool->br->ak->Prop}(d:∀B f,cM v B->eo F SP m f B->(∀b,b<S->B[b]?=n[b]?)->hr M B S i->A aa f j):
  kasC (aM SR D) O SM (binarySort' S i k) A st j:=by
 rw[binarySort'_eq];rw[show max k 1=k by lia];with_unfolding_all refine bi (hx (b:=λq f SN=>j=SN/\q=(X,())/\∃p,cM v p/\eo F SP m f p/\(∀b,b<S->p[b]?=n[b]?)/\hr M p S i)
  (fR (rv (λe q f SN=>j=SN/\q=(X,())/\1<=e/\∃p,cM v p/\eo F SP m f p/\(∀b,b<S->p[b]?=n[b]?)/\hr M p S e) i ?step _ _ _ _ _ (by lia) ?fin ⟨rfl,rfl,l,n,co,h,λ_ Y=>rfl,s⟩)) ?after)
 case after=>
  rintro q f SN ⟨rfl,rfl,p,E,G,I,C⟩;exact bf (d p _ E G I C)
 case fin=>
  rintro q f SN ⟨rfl,rfl,im,p,E,G,I,C⟩;rw[show k+(i-k)=i by lia]at C;exact⟨rfl,rfl,p,E,G,I,C⟩
 case step=>
  rintro o q f SN mb ⟨rfl,rfl,Tj,p,L,R,ex,s⟩;dsimp only;have fd:∀b,S<=b->b<S+0->bc M p b<=bc M p (S+o):=λb g c=>by lia
  have fn:∀b,S+o<=b->b<S+o->bc M p (S+o)<=bc M p b:=λb g c=>by lia
  refine bi (hx (b:=λq w SN=>j=SN/\f=w/\∃H r,q=(X,H,r)/\H<=o/\(∀b,S<=b->b<S+H->bc M p b<=bc M p (S+o))/\(∀b,S+H<=b->b<S+o->bc M p (S+o)<=bc M p b))
   (fR (rv (λe q w SN=>j=SN/\f=w/\∃H r,q=(X,H,r)/\H<=r/\r<=o/\r-H<=o-e/\(∀b,S<=b->b<S+H->bc M p b<=bc M p (S+o))/\(∀b,S+r<=b->b<S+o->bc M p (S+o)<=bc M p b)) o ?s2 _ _ _ _ _ (by lia) ?Ts ⟨rfl,rfl,0,o,rfl,by lia,by lia,by lia,fd,fn⟩)) ?TP)
  case Ts=>
   rintro q w SN ⟨rfl,rfl,H,r,rfl,cz,b3,rn,y,z⟩;exact⟨rfl,rfl,H,r,rfl,by lia,y,λb e t=>z b (by lia) t⟩
  case s2=>
   rintro e q w SN mp ⟨rfl,rfl,H,r,rfl,cz,b3,rn,y,z⟩;dsimp only;by_cases a:H >= r
   ·rw[aB a];exact bf ⟨rfl,rfl,H,r,rfl,by lia,y,λb e t=>z b (by lia) t⟩
   rw[aG a];have N:H<=(H+r)/2:=by lia
   have f1:(H+r)/2<r:=by lia
   have P:(H+r)/2-H<=o-(e+1):=by lia
   have Q:r-((H+r)/2+1)<=o-(e+1):=by lia
   generalize (H+r)/2=mid at N f1 P Q ⊢;refine bi (qx cl L (by lia) (by lia) R ?_);dsimp only;by_cases T:bc M p (S+o)<bc M p (S+mid)
   ·rw[aB (by simpa using T)];refine bf ⟨rfl,rfl,H,mid,rfl,N,by lia,P,y,λb e t=>?_⟩;have:=s (S+mid) b (by lia) e t;lia
   ·rw[aG (by simpa using T)];refine bf ⟨rfl,rfl,mid+1,r,rfl,by lia,b3,Q,λb e t=>?_,z⟩;have:=s b (S+mid) e (by lia) (by lia);lia
  case TP=>
   rintro q w SN ⟨rfl,rfl,H,r,rfl,cz,y,z⟩;dsimp only;refine bi (QO R ?_);intro ne go;have J:∀b,(rG p (S+o)<|S+o-(S+H))[b]?=if b=S+H then p[S+o]? else if S+H<b/\b<=S+o then p[b-1]? else p[b]?:=λb=>by
    have:=getElem?_bubble (xs:=p) (src:=S+o) (by rw[L.size];lia) (S+o-(S+H)) (by lia) b
    rwa [show S+o-(S+o-(S+H))=S+H by lia]at this
   have a6:∀b,bc M (rG p (S+o)<|S+o-(S+H)) b=if b=S+H then bc M p (S+o) else if S+H<b/\b<=S+o then bc M p (b-1) else bc M p b:=λb=>by
    have J:=J b;by_cases a:b=S+H
    ·rw[aB a]at J ⊢;exact mq J
    ·rw[aG a]at J ⊢;by_cases U:S+H<b/\b<=S+o
     ·rw[aB U]at J ⊢;exact mq J
     ·rw[aG U]at J ⊢;exact mq J
   refine bf ⟨rfl,rfl,by lia,_,L.M0 _ _,go,λb SJ=>by rw[J,aG (by lia),aG (by lia)];exact ex b SJ,FL λu e t=>?_⟩;rw[a6,a6];by_cases be:u-1=S+H
   ·rw[aB be,aG (by lia),aB (by lia)];exact z (u-1) (by lia) (by lia)
   ·rw[aG be];by_cases bs:u=S+H
    ·rw[aB bs,aG (by lia)];exact y (u-1) (by lia) (by lia)
    ·rw[aG bs];by_cases on:S+H<u-1
     ·rw[aB (by lia),aB (by lia)];exact s _ _ (by lia) (by lia) (by lia)
     ·rw[aG (by lia),aG (by lia)];exact s _ _ (by lia) (by lia) (by lia)
end
section
variable{SR:bw}{D:a9}{O:bp}{SM:ae->ak->Prop}{F:gB}{SP:Array bD}{M:Nat->Int}{v:Nat}{j:ak}{m:Array (Nat×Nat×Nat)}
def d7(M:Nat->Int)(n:Array Nat):Nat->List (Nat×Nat×Nat)->Nat->Prop
 |g,[],c=>g=c
 |g,(e,H,_)::B,c=>e=g/\0<H/\hr M n e H/\d7 M n (g+H) B c
variable{n:Array Nat}
theorem d7.le:∀{B:List (Nat×Nat×Nat)}{g c:Nat},d7 M n g B c->g+B.length<=c
 |[],g,c,d=>by rw[show c=g from d.symm];exact bm _
 | (e,H,_)::B,g,c,d=>by
  have:=d.2.2.2.le;have:=d.2.1;rw[c7];lia
theorem d7.congr{p:Array Nat}:∀{B:List (Nat×Nat×Nat)}{g c:Nat},d7 M n g B c->(∀b,g<=b->b<c->bc M p b=bc M n b)->d7 M p g B c
 |[],g,c,d,_=>d
 | (e,H,_)::B,g,c,d,J=>by
  have:=d.2.2.2.le;obtain⟨rfl,C,a,f⟩:=d;refine⟨rfl,C,λb u SJ h i=>?_,f.congr λb g c=>J b (by lia) c⟩;rw[J b SJ (by lia),J u (by lia) (by lia)];exact a b u SJ h i
theorem d7.app{n:Array Nat}:∀{B I:List (Nat×Nat×Nat)}{g c:Nat},d7 M n g (B++I) c↔∃q,d7 M n g B q/\d7 M n q I c
 |[],I,g,c=>⟨λd=>⟨g,rfl,d⟩,λ⟨q,a,d⟩=>by rw[show g=q from a];exact d⟩
 | (e,H,i)::B,I,g,c=>by
  show (e=g/\0<H/\hr M n e H/\d7 M n (g+H) (B++I) c)↔_;rw[d7.app];constructor
  ·rintro⟨l,C,b,q,f,h⟩;exact⟨q,⟨l,C,b,f⟩,h⟩
  ·rintro⟨q,⟨l,C,b,f⟩,h⟩;exact⟨l,C,b,q,f,h⟩
theorem R7{Ta:Type}{H:List Ta}{b:Nat}(d:b+1<H.length):∃a e t c,H=a++e::t::c/\a.length=b:=by
 refine⟨H.take b,H[b]'(by lia),H[b+1],H.drop<|b+2,?_,by rw[gb];lia⟩;have f:=kL (l:=H) (i:=b) (by lia);have g:=kL (l:=H) (i:=b+1) d;rw[<-g,<-f,e9]
theorem uG(H:List Nat)(b:Nat):bc M H.toArray b=M (H.getD b 0):=by unfold bc;rw[k6]
theorem Dv(T:fK v M (eW SR D O F SP) j){n:Array Nat}(I:cM v n){st:br}(h:eo F SP m st n){S b:Nat}(SJ:b+1<m.size)(SQ:d7 M n 0 m.toList S)(s2:S<=v){A:Bool->br->ak->Prop}(d:∀J x y,cM v x->eo F SP J y x->J.size+1=m.size->d7 M x 0 J.toList S->(∀b,S<=b->bc M x b=bc M n b)->A aa y j):kasC (aM SR D) O SM (ur b) A st j:=by
 obtain⟨r,⟨aI,E,s⟩,⟨b9,w,z⟩,t,a,rfl⟩:=R7 (H:=m.toList) (b:=b) (by simpa using SJ);rw[a]at SQ;obtain⟨q,U,rfl,be,bs,rfl,cl,co,bO⟩:=d7.app.mp SQ;have b3:=bO.le;have B:m=(r++(aI,E,s)::(aI+E,w,z)::t).toArray:=by rw[<-a]
 have eq:n.size=v:=I.size;have ex:∀e∈n.toList,e<v:=λe fd=>f2.mp (I.mem_iff.mp fd);have G:∀b,bc M n b=M (n.toList.getD b 0):=λb=>uG n.toList b;have bk:n.toList.length=v:=by rw[db,eq]
 have L:∀g i,g+i<=v->hr M n g i->cc M ((n.toList.drop g).take i):=λg i ty d=>by
  refine mJ.mpr λb u SJ fn un=>?_;have f1:=SJ;have go:=fn;rw[gb,e4,bk]at f1 go;have:=d (g+b) (g+u) (by lia) (by lia) (by lia);rw[G,G]at this;rw[u6,pO,u6,pO];rw[cp,cp,dh (by lia),dh (by lia)]at this;exact this
 refine Lj T (h:=n.toList) ex (b:=r.length) (aI:=aI) (E:=E) (w:=w) (hd:=s) (Ok:=z) h.k (by rw[h.a];apply ks;simp) h.f (by rw[h.p,B];simp) (by rw[h.p,B];simp) be cl (by lia) (L _ _ (by lia) bs) (L _ _ (by lia) co) ?_;intro mid y Tj g1 hd N im mb;have ne:mid.length=E+w:=by rw[N.length_eq,gb,e4,bk];lia
 have of:n.toList.take aI++(n.toList.drop aI).take (E+w)++n.toList.drop (aI+(E+w))=n.toList:=by rw[oV,e9]
 have on:cM v (n.toList.take aI++mid++n.toList.drop (aI+(E+w))).toArray:=by
  show (n.toList.take aI++mid++n.toList.drop (aI+(E+w))).Perm (range v);refine List.Perm.trans (eB _<|dL _ N) ?_;rw[of];exact I
 have Ub:(n.toList.take aI).length=aI:=by rw[gb,bk];lia
 have pm:∀b,b<aI->bc M (n.toList.take aI++mid++n.toList.drop (aI+(E+w))).toArray b=bc M n b:=λb SJ=>by
  rw[uG,G];congr 1;rw[cp,cp,a_,lf (by lia),nq,aB SJ]
 have Q:∀b,aI+(E+w)<=b->bc M (n.toList.take aI++mid++n.toList.drop (aI+(E+w))).toArray b=bc M n b:=λb SJ=>by
  rw[uG,G];congr 1;rw[cp,cp,kY (by rw[cb];lia),mB,cb,Ub,ne];congr 2;lia
 have R:∀b,aI<=b->b<aI+(E+w)->bc M (n.toList.take aI++mid++n.toList.drop (aI+(E+w))).toArray b=M (mid.getD (b-aI) 0):=λb l C=>by
  rw[uG];congr 1;rw[cp,cp,a_,kY (by lia),Ub,lf (by lia)]
 have pt:((r++(aI,E,s)::(aI+E,w,z)::t).toArray.setIfInBounds r.length (aI,E+w,s)).eraseIdxIfInBounds (r.length+1)=(r++(aI,E+w,s)::t).toArray:=by
  rw[Gw,List.set_append_right _ _<|bm _,vB,List.set_cons_zero];rw[vs,List.eraseIdx_append_of_length_le (by lia),show r.length+1-r.length=1 by lia];rfl
 refine d ((r++(aI,E+w,s)::t).toArray) _ y on ⟨Tj,by rw[mb];apply ks;simp,by rw[hd,h.p,B,pt],g1⟩ (by rw[B];simp;lia) ?_ (λb SJ=>Q b (by lia));have sp:d7 M n (aI+(E+w)) t S:=by rw[<-q8];exact bO
 refine d7.app.mpr ⟨aI,U.congr λb Y c=>pm b c,rfl,by lia,λb u l C s1=>?_,sp.congr λb g c=>Q b g⟩
 ·rw[R b l (by lia),R u (by lia) s1];exact mU im (by lia) (by lia)
end
section
variable{SR:bw}{D:a9}{O:bp}{SM:ae->ak->Prop}{F:gB}{SP:Array bD}{M:Nat->Int}{v:Nat}{j:ak}{m:Array (Nat×Nat×Nat)}
variable{p:Array Nat}
theorem to(a:cM v p){b u:Nat}(c:u<=v)(o:Nat):(mA p b u)[o]?=if b<=o/\o<u then p[b+u-1-o]? else p[o]?:=by
 unfold mA;rw[getElem?_mirror_all (by rw[a.size];lia)]
theorem Np(c:cM v p){b u:Nat}(e:u<=v)(a:∀o,b<=o->o<u->bc M p o=bc M p b)(o:Nat):bc M (mA p b u) o=bc M p o:=by
 by_cases d:b<=o/\o<u
 ·rw[mq (show (mA p b u)[o]?=p[b+u-1-o]? by rw[to c e,aB d]),a _ (by lia) (by lia),a o d.1 d.2]
 ·exact mq (by rw[to c e,aG d])
structure lT(M:Nat->Int)(v S:Nat)(n p:Array Nat):Prop where
 f6:cM v p
 be:∀b,b<S->p[b]?=n[b]?
 a6:∀o,bc M p o=bc M n o
theorem lT.rev{S:Nat}{n:Array Nat}(Tw:lT M v S n p){b u:Nat}(SJ:S<=b)(d:u<=v)(a:∀o,b<=o->o<u->bc M n o=bc M n b):lT M v S n (mA p b u):=
 ⟨Tw.f6.rev b u,λo e=>by rw[to Tw.f6 d,aG (by lia)];exact Tw.be o e,λo=>by
  rw[Np Tw.f6 d (λo g c=>by rw[Tw.a6,Tw.a6];exact a o g c)];exact Tw.a6 o⟩
theorem Gr{P:Nat->Int}{g c:Nat}(d:∀u,g+1<=u->u<c->P u=P (u-1)):∀k,g+k<c->P (g+k)=P g
 |0,_=>rfl
 |k+1,hd=>(d (g+(k+1)) (by lia) hd).trans (Gr d k (by lia))
theorem Ga(l:fK v M (eW SR D O F SP) j){S b:Nat}(t:S+b<=v){p:Array Nat}{f:br}{g:Nat}(n:cM v p)(SU:eo F SP m f p)(w:1<=g)(TP:g<=b)(o:∀u,S+1<=u->u<S+g->bc M p (u-1)<=bc M p u):
   kasC (aM SR D) O SM (forIn [g:b] ((X:Option (Option Nat)),g) λe q=>mM (S+q.2) (S+q.2-1) >>= λr=>match r with
    |some s=>if s=aa then pure (ForInStep.done (X,q.2)) else pure (ForInStep.yield (X,q.2+1))
    |e=>pure<|ForInStep.done (Z X,q.2))
    (λq c SN=>j=SN/\f=c/\∃i,q=(X,i)/\g<=i/\i<=b/\(∀u,S+1<=u->u<S+i->bc M p (u-1)<=bc M p u)/\(i=b\/bc M p (S+i)<bc M p (S+i-1))) f j:=by
 refine fR (rv (λe q c SN=>j=SN/\f=c/\q=(X,e)/\g<=e/\∀u,S+1<=u->u<S+e->bc M p (u-1)<=bc M p u) b ?_ _ _ _ _ _ (by lia) ?_ ⟨rfl,rfl,rfl,bm _,o⟩)
 ·rintro e q c SN x ⟨rfl,rfl,rfl,k,d⟩;dsimp only;refine bi (qx l n (by lia) (by lia) SU ?_);dsimp only;by_cases h:bc M p (S+e)<bc M p (S+e-1)
  ·rw[aB (by simpa using h)];exact bf ⟨rfl,rfl,e,rfl,k,by lia,d,.inr h⟩
  ·rw[aG (by simpa using h)];refine bf ⟨rfl,rfl,rfl,by lia,λu bE y=>?_⟩;by_cases a:u=S+e
   ·subst a;lia
   ·exact d u bE (by lia)
 ·rintro q c SN ⟨rfl,rfl,rfl,k,d⟩;rw[show g+(b-g)=b by lia]at d ⊢;exact⟨rfl,rfl,b,rfl,by lia,bm _,d,.inl rfl⟩
noncomputable def u_(S a i:Nat): StateT br dr (Option Nat):=p_ S (S+i) >>= λ_ => (forIn [i:a] ((X:Option (Option Nat)),i) λe q => mM (S+q.2) (S+q.2-1) >>= λr => match r with
    |some b => if b=aa then pure (ForInStep.done (X,q.2)) else pure (ForInStep.yield (X,q.2+1))
    |e => pure<|ForInStep.done (Z X,q.2)) >>= λq => match q.1 with
    |some r => pure r
    |none => pure (Z q.2)
noncomputable def Cj(S e:Nat)(q:Option (Option Nat)×Nat×Nat):StateT br dr (ForInStep<|Option (Option Nat)×Nat×Nat):=mM (S+q.2.1) (S+q.2.1-1) >>= λr=>match r with
 |some a=>if a=aa then (if q.2.2>0 then p_ (S+q.2.1-(q.2.2+1)) (S+q.2.1) >>= λ_=>pure (.yield (X,q.2.1+1,0)) else pure (.yield (X,q.2.1+1,0)))
  else mM (S+q.2.1-1) (S+q.2.1) >>= λr=>match r with
   |some b=>if b=aa then pure (.done (X,q.2.1,q.2.2)) else pure (.yield (X,q.2.1+1,q.2.2+1))
   |e=>pure (.done (Z X,q.2.1,q.2.2))
 |e=>pure (.done (Z X,q.2.1,q.2.2))
def uC(S a i:Nat):StateT br dr (Option Nat):=liftM (PySem.rule "list.sort.descending-run") >>= λ_=>forIn [i+1:a] ((X:Option (Option Nat)),i+1,0) (Cj S) >>= λq=>match q.1 with
 |some r=>pure r
 |none=>if q.2.2>0 then p_ (S+q.2.1-(q.2.2+1)) (S+q.2.1) >>= λ_=>u_ S a q.2.1 else u_ S a q.2.1
theorem BK(k:fK v M (eW SR D O F SP) j){S e i:Nat}(l:S+e<=v){n p:Array Nat}{st:br}(Tw:lT M v S n p)(h:eo F SP m st p)(o:1<=i)(r:i<=e)(s:∀u,S+1<=u->u<S+i->bc M n u<=bc M n (u-1)){A:Option Nat->br->ak->Prop}(d:∀i a f,1<=i->i<=e->cM v a->eo F SP m f a->(∀b,b<S->a[b]?=n[b]?)->(∀u,S+1<=u->u<S+i->bc M a (u-1)<=bc M a u)->A (Z i) f j):kasC (aM SR D) O SM (u_ S e i) A st j:=by
 unfold u_;refine bi (tW h λy S5=>?_);have J:=to Tw.f6 (b:=S) (u:=S+i) (by lia);have a6:∀b,S<=b->b<S+i->bc M (mA p S<|S+i) b=bc M n (S+(S+i)-1-b):=λb g c=>(mq (by rw[J,aB ⟨g,c⟩])).trans (Tw.a6 _);refine bi (hx (Ga k l (Tw.f6.rev S<|S+i) S5 o r λu bE z=>?_) ?_)
 ·rw[a6 _ (by lia) (by lia),a6 _ (by lia) (by lia)];have:=s (S+(S+i)-1-(u-1)) (by lia) (by lia);rw[show S+(S+i)-1-(u-1)-1=S+(S+i)-1-u by lia]at this;exact this
 ·rintro q f SN ⟨rfl,rfl,t,rfl,B,w,x,C⟩;dsimp only;exact bf (d t _ _ (by lia) w (Tw.f6.rev S<|S+i) S5 (λb SJ=>by rw[J,aG (by lia)];exact Tw.be b SJ) x)
theorem Fi(B:fK v M (eW SR D O F SP) j){S r i:Nat}(E:S+r<=v){n p:Array Nat}{st:br}(Tw:lT M v S n p)(h:eo F SP m st p)(U:1<=i)(be:i<r)(L:∀u,S+1<=u->u<S+(i+1)->bc M n u<=bc M n (u-1)){A:Option Nat->br->ak->Prop}(d:∀i z s,1<=i->i<=r->cM v z->eo F SP m s z->(∀b,b<S->z[b]?=n[b]?)->(∀u,S+1<=u->u<S+i->bc M z (u-1)<=bc M z u)->A (Z i) s j):kasC (aM SR D) O SM (uC S r i) A st j:=by
 have aN:∀{e k:Nat},k+1<=e->(∀u,S+e-k<=u->u<S+e->bc M n u=bc M n (u-1))->∀o,S+e-(k+1)<=o->o<S+e->bc M n o=bc M n (S+e-(k+1)):=λ{e k} hd a o g c=>by
  have:=Gr (P:=bc M n) (g:=S+e-(k+1)) (c:=S+e) (λu e t=>a u (by lia) t) (o-(S+e-(k+1))) (by lia)
  rwa [show S+e-(k+1)+(o-(S+e-(k+1)))=o by lia]at this
 unfold uC;refine bi (nQ<|h4 ?_);refine bi (hx (b:=λq s SN=>j=SN/\∃l e k,q=(X,e,k)/\eo F SP m s l/\lT M v S n l/\i+1<=e/\e<=r/\k+1<=e/\(∀u,S+1<=u->u<S+e->bc M n u<=bc M n (u-1))/\∀u,S+e-k<=u->u<S+e->bc M n u=bc M n (u-1))
  (fR (rv (λe q s SN=>j=SN/\∃l k,q=(X,e,k)/\eo F SP m s l/\lT M v S n l/\i+1<=e/\k+1<=e/\(∀u,S+1<=u->u<S+e->bc M n u<=bc M n (u-1))/\∀u,S+e-k<=u->u<S+e->bc M n u=bc M n (u-1)) r ?TD _ _ _ _ _ (by lia) ?TA ⟨rfl,p,0,rfl,h,Tw,bm _,by lia,L,λu g c=>by lia⟩)) ?N)
 case TD=>
  rintro e q s SN cl ⟨rfl,l,k,rfl,R,f,C,y,w,x⟩;unfold Cj;dsimp only;refine bi (qx B f.f6 (by lia) (by lia) R ?_);dsimp only;rw[f.a6,f.a6];by_cases G:bc M n (S+e)<bc M n (S+e-1)
  ·rw[aB (by simpa using G)];have H:∀u,S+1<=u->u<S+(e+1)->bc M n u<=bc M n (u-1):=λu bE Q=>by
    by_cases a:u=S+e
    ·subst a;lia
    ·exact w u bE (by lia)
   by_cases hd:k>0
   ·rw[aB hd];refine bi (tW R λT S5=>?_);exact bf ⟨rfl,_,0,rfl,S5,f.rev (by lia) (by lia)<|aN y x,by lia,by lia,H,λu g c=>by lia⟩
   ·rw[aG hd];exact bf ⟨rfl,l,0,rfl,R,f,by lia,by lia,H,λu g c=>by lia⟩
  ·rw[aG (by simpa using G)];refine bi (qx B f.f6 (by lia) (by lia) R ?_);dsimp only;rw[f.a6,f.a6];by_cases I:bc M n (S+e-1)<bc M n (S+e)
   ·rw[aB (by simpa using I)];exact bf ⟨rfl,l,e,k,rfl,R,f,C,by lia,y,w,x⟩
   ·rw[aG (by simpa using I)];refine bf ⟨rfl,l,k+1,rfl,R,f,by lia,by lia,λu bE Q=>?_,λu g c=>?_⟩
    ·by_cases a:u=S+e
     ·subst a;lia
     ·exact w u bE (by lia)
    ·by_cases a:u=S+e
     ·subst a;lia
     ·exact x u (by lia) (by lia)
 case TA=>
  rintro q s SN ⟨rfl,l,k,rfl,R,f,C,y,w,x⟩;rw[show i+1+(r-(i+1))=r by lia] at *;exact⟨rfl,l,r,k,rfl,R,f,C,bm _,y,w,x⟩
 case N=>
  rintro q s SN ⟨rfl,l,e,k,rfl,R,f,C,J,y,w,x⟩;dsimp only;by_cases hd:k>0
  ·rw[aB hd];refine bi (tW R λT S5=>?_);exact BK B E (f.rev (by lia) (by lia)<|aN y x) S5 (by lia) J w d
  ·rw[aG hd];exact BK B E f R (by lia) J w d
def C8(S a:Nat): StateT br dr (Option Nat):=(forIn [1:a] ((X:Option (Option Nat)),1) λe q => mM (S+q.2) (S+q.2-1) >>= λr => match r with
    |some b => if b=aa then pure (ForInStep.done (X,q.2)) else pure (ForInStep.yield (X,q.2+1))
    |e => pure<|ForInStep.done (Z X,q.2)) >>= λq => match q.1 with
    |some r => pure r
    |none => if (q.2==a)=aa then pure (Z q.2) else if q.2>1 then mM S (S+q.2-1) >>= λr => match r with
      |some c => if c=aa then pure (Z q.2) else p_ S (S+q.2) >>= λ_ => uC S a q.2
      |e => pure X
      else uC S a q.2
theorem QI(S a:Nat):countRun' S a=C8 S a:=by
 kernel_rfl
theorem MI(r:fK v M (eW SR D O F SP) j){n:Array Nat}(e:cM v n){S f:Nat}(l:1<=f)(t:S+f<=v){st:br}(h:eo F SP m st n){A:Option Nat->br->ak->Prop}(d:∀i p w,1<=i->i<=f->cM v p->eo F SP m w p->(∀b,b<S->p[b]?=n[b]?)->(∀u,S+1<=u->u<S+i->bc M p (u-1)<=bc M p u)->A (Z i) w j):
  kasC (aM SR D) O SM (countRun' S f) A st j:=by
 rw[QI];unfold C8;have B:lT M v S n n:=⟨e,λ_ Y=>rfl,λ_=>rfl⟩;refine bi (hx (Ga r t e h (bm _) l λu g c=>by lia) ?_);rintro q w SN ⟨rfl,rfl,i,rfl,x,C,s,H⟩;dsimp only;by_cases a:i=f
 ·rw[aB (by simpa using a)];exact bf (d i n _ x C e h (λ_ Y=>rfl) s)
 rw[aG (by simpa using a)];have I:bc M n (S+i)<bc M n (S+i-1):=H.resolve_left a;by_cases E:i>1
 ·rw[aB E];refine bi (qx r e (by lia) (by lia) h ?_);dsimp only;by_cases G:bc M n S<bc M n (S+i-1)
  ·rw[aB (by simpa using G)];exact bf (d i n _ x C e h (λ_ Y=>rfl) s)
  ·rw[aG (by simpa using G)];have J:∀k,k<i->bc M n S<=bc M n (S+k)/\bc M n (S+k)<=bc M n (S+i-1):=by
    have L:∀k,k<i->bc M n S<=bc M n (S+k):=λk=>by
     induction k with
     |zero=>intro Y;exact lb _
     |succ k y=>
      intro hd;have g:=s (S+(k+1)) (by lia) (by lia);rw[show S+(k+1)-1=S+k by lia]at g;have:=y (by lia);lia
    have N:∀k,k<i->bc M n (S+i-1-k)<=bc M n (S+i-1):=λk=>by
     induction k with
     |zero=>intro Y;exact lb _
     |succ k y=>
      intro hd;have g:=s (S+i-1-k) (by lia) (by lia);rw[show S+i-1-k-1=S+i-1-(k+1) by lia]at g;have:=y (by lia);lia
    intro k hd;refine⟨L k hd,?_⟩;have:=N (i-1-k) (by lia)
    rwa [show S+i-1-(i-1-k)=S+k by lia]at this
   have z:∀o,S<=o->o<S+i->bc M n o=bc M n S:=λo g c=>by
    have:=J (o-S) (by lia);rw[show S+(o-S)=o by lia]at this;lia
   refine bi (tW h λQ S5=>?_);exact Fi (n:=n) r t (B.rev (bm _) (by lia) z) S5 x (by lia) (λu bE P=>by
    by_cases a:u=S+i
    ·subst a;lia
    ·rw[z u (by lia) (by lia),z (u-1) (by lia) (by lia)];exact lb _) d
 rw[aG E];obtain rfl:i=1:=by lia
 exact Fi (n:=n) r t B h (bm _) (by lia) (λu bE P=>by
  obtain rfl:u=S+1:=by lia
  exact Int.le_of_lt I) d
end
section
variable{SR:bw}{D:a9}{O:bp}{SM:ae->ak->Prop}{F:gB}{SP:Array bD}{M:Nat->Int}{v:Nat}{j:ak}{m:Array (Nat×Nat×Nat)}
variable{n:Array Nat}
theorem d7.same:∀{B I:List (Nat×Nat×Nat)}{g c:Nat},d7 M n g B c->(B.map λe=>(e.1,e.2.1))=(I.map λe=>(e.1,e.2.1))->d7 M n g I c
 |[],[],g,c,d,_=>d
 |[],_::_,g,c,d,a=>by cases a
 |_::_,[],g,c,d,a=>by cases a
 | (e,H,j)::B,(k,l,m)::I,g,c,d,a=>by
  rw[ci,ci]at a;injection a with h i;injection h with b f;dsimp only at b f;subst b;subst f;exact⟨d.1,d.2.1,d.2.2.1,d.2.2.2.same i⟩
theorem J1(x:Array (Nat×Nat×Nat))(b a:Nat):(x.toList.map λe=>(e.1,e.2.1))=((x.modify b λe=>(e.1,e.2.1,a)).toList.map λe=>(e.1,e.2.1)):=by
 apply oa;intro u;rw[d3,d3,ev,ev,Array.getElem?_modify];split
 ·rw[Option.map_map];rfl
 ·rfl
theorem hr.congr{p:Array Nat}{S i:Nat}(d:hr M n S i)(J:∀b,S<=b->bc M p b=bc M n b):hr M p S i:=λb u g c q=>by
 rw[J b g,J u (by lia)];exact d b u g c q
theorem N1{av:fz}{O:bp}{SM:ae->ak->Prop}{y Ta:Type}{q:Nat->Prop}{b:∀i,Decidable (q i)}{f Tt:Nat->StateT y dr Ta}{A:Ta->y->ak->Prop}{j:ak}(SS:Nat->y->Prop)(h:∀i st,SS i st->kasC av O SM (Tt i) A st j)(a:(∀i st,SS i st->kasC av O SM (Tt i) A st j)->∀i st,q i->SS i st->kasC av O SM (f i) A st j):∀i st,SS i st->kasC av O SM (if q i then f i else Tt i) A st j:=λi st n=>
 if d:q i then by rw[aB d];exact a h i st d n else by rw[aG d];exact h i st n
variable{A:Unit->br->ak->Prop}
theorem RQ(z:fK v M (eW SR D O F SP) j)(C:2<=v)(fn:∀s l,cM v s->hF M s v->arrOf l=s.map (bh SP)->hs l=X->A () l j):kasC (aM SR D) O SM sortRuns' A (s_ F SP (range v).toArray) j:=by
 rw[sortRuns'_eq];refine bi (jg ?_);dsimp only;have f1:(arrOf<|s_ F SP (range v).toArray).size=v:=by
  show ((range v).toArray.map<|bh SP).size=v;simp
 simp only[f1];refine bi (hx (b:=λq l SN=>j=SN/\q=(X,v)/\∃m n,cM v n/\eo F SP m l n/\d7 M n 0 m.toList v)
  (fR (gC (λe q l SN=>j=SN/\∃S m n,q=(X,S)/\e<=S/\S<=v/\cM v n/\eo F SP m l n/\d7 M n 0 m.toList S) ?step _ 0 _ _ _ ?fin ⟨rfl,0,#[],(range v).toArray,rfl,bm _,by lia,List.Perm.refl _,⟨rfl,rfl,rfl,rfl⟩,rfl⟩)) ?after)
 case fin=>
  rintro q l SN ⟨rfl,S,m,n,rfl,g,c,k,a,P⟩;have:S=v:=by lia
  subst this;exact⟨rfl,rfl,m,n,k,a,P⟩
 case after=>
  rintro q l SN ⟨rfl,rfl,m,n,r,h,SQ⟩;dsimp only;refine bi (hx (b:=λq l SN=>j=SN/\q=(X,())/\∃n,cM v n/\hF M n v/\arrOf l=n.map (bh SP)/\hs l=X)
   (fR (gC (λe q l SN=>j=SN/\q=(X,())/\∃m n,cM v n/\eo F SP m l n/\d7 M n 0 m.toList v/\m.size+e<=v) ?B _ 0 _ _ _ ?Ts ⟨rfl,rfl,m,n,r,h,SQ,by have:=SQ.le;rw[db]at this;lia⟩)) ?TP)
  case TP=>
   rintro q l SN ⟨rfl,rfl,n,g,c,q,k⟩;exact bf (fn n _ g c q k)
  case Ts=>
   rintro q l SN ⟨rfl,rfl,m,n,r,h,SQ,go⟩;have a:m.toList=[]:=o4 (by rw[db];lia);rw[a]at SQ;have:0=v:=SQ;lia
  case B=>
   rintro e q l SN ⟨rfl,rfl,m,n,r,h,SQ,go⟩;refine bi (jg ?_);by_cases a:(hy l).size<=1
   ·rw[aB a];refine bf ⟨rfl,rfl,n,r,?_,h.a,h.f⟩;rw[h.p]at a;have g1:m.toList.length<=1:=by rw[db];exact a
    match be:m.toList,g1 with
    |[],_=>
     rw[be]at SQ;have:0=v:=SQ;lia
    |[(e,H,bs)],_=>
     rw[be]at SQ;obtain⟨rfl,Y,hd,im⟩:=SQ;have:0+H=v:=im;exact λb u mb s1=>hd b u (gV _) mb (by lia)
    |_::_::_,d=>exact absurd d (by simp)
   ·rw[aG a];rw[h.p]at a;have mp:∀Q,Q+1<m.size->kasC (aM SR D) O SM (ur Q) (λc w B=>c=aa/\j=B/\∃m n,cM v n/\eo F SP m w n/\d7 M n 0 m.toList v/\m.size+(e+1)<=v) l j:=λQ ne=>
     Dv z r h ne SQ (bm _) λR s of g c q k cl=>⟨rfl,rfl,R,s,g,c,k,by lia⟩;refine bi (hx (mp _ ?_) ?_)
    ·rw[h.p];have:∀(q:Prop) [Decidable q],(if q then m.size-2-1 else m.size-2)+1<m.size:=λq Y=>by split<;>lia
     exact this _
    ·rintro c w B ⟨rfl,rfl,on⟩;rw[aG (by decide)];exact bf ⟨rfl,rfl,on⟩
 case step=>
  rintro e q l SN ⟨rfl,S,m,n,rfl,s2,ty,r,h,SQ⟩;dsimp only;by_cases co:S >= v
  ·rw[aB co];have:S=v:=by lia
   subst this;exact bf ⟨rfl,rfl,m,n,r,h,SQ⟩
  rw[aG co];refine bi (MI z r (by lia) (by lia) h ?_);intro i eq y x E G SU ex I;have p:i<=v-S/\1<=i/\∃n,cM v n/\eo F SP m y n/\d7 M n 0 m.toList S/\hr M n S i:=⟨E,x,eq,G,SU,SQ.congr λb Y c=>mq<|ex b c,FL I⟩;dsimp only;clear I ex SU G x E;revert i y;refine N1 (λi y=>i<=v-S/\1<=i/\∃n,cM v n/\eo F SP m y n/\d7 M n 0 m.toList S/\hr M n S i) ?_ ?_
  ·intro i w p;obtain⟨E,x,Tv,J,S5,bO,N⟩:=p;refine bi (jg ?_);rcases un:(hy w).back? with _|⟨up,Gt,If⟩
   ·dsimp only;refine bi (kJ ?_);refine bf ⟨rfl,S+i,m.push (S,i,0),Tv,rfl,by lia,by lia,J,⟨S5.k,S5.a,by show (hy w).push _=_;rw[S5.p],S5.f⟩,?_⟩;rw[vv];exact d7.app.mpr ⟨S,bO,rfl,by lia,N,rfl⟩
   ·dsimp only;refine bi (hx (b:=λq l SN=>j=SN/\q=(X,())/\∃m n,cM v n/\eo F SP m l n/\d7 M n 0 m.toList S/\hr M n S (i))
     (fR<|gC (λe q l SN=>j=SN/\q=(X,())/\∃m n,cM v n/\eo F SP m l n/\d7 M n 0 m.toList S/\hr M n S (i)) ?_ _ 0 _ _ _ (λ_ Y Y bs=>bs) ⟨rfl,rfl,m,Tv,J,S5,bO,N⟩) ?_)
    ·rintro t q l SN ⟨rfl,rfl,m,n,r,h,SQ,O⟩;refine bi (jg ?_);by_cases a:(hy l).size>1
     ·rw[aB a];rcases Is:(hy l)[(hy l).size-2]? with _|⟨g,c,Lt⟩
      ·dsimp only;exact bf ⟨rfl,rfl,m,n,r,h,SQ,O⟩
      ·dsimp only;split
       ·exact bf ⟨rfl,rfl,m,n,r,h,SQ,O⟩
       ·refine bi (Dv z r h (by rw[h.p]at a ⊢;lia) SQ (by lia) ?_);intro R s of g c q k cl;rw[aG (by decide)];exact bf ⟨rfl,rfl,R,s,g,c,k,O.congr cl⟩
     ·rw[aG a];dsimp only;exact bf ⟨rfl,rfl,m,n,r,h,SQ,O⟩
    ·rintro q l SN ⟨rfl,rfl,m,n,r,h,SQ,O⟩;dsimp only;refine bi (kJ ?_);refine bi (kJ ?_);refine bf ⟨rfl,S+i,(m.modify (m.size-1) _).push (S,i,0),n,rfl,by lia,by lia,r,⟨h.k,h.a,by show ((hy l).modify ((hy l).size-1) _).push _=_;rw[h.p],h.f⟩,?_⟩;rw[vv];exact d7.app.mpr ⟨S,SQ.same<|J1 _ _ _,rfl,by lia,O,rfl⟩
  ·intro L i y Ok p;obtain⟨E,x,eq,G,SU,pm,I⟩:=p;refine bi (nQ<|h4 ?_);have T:i<=min (v-S) (minRun' v v 0):=by lia
   have fd:min (v-S) (minRun' v v 0)<=v-S:=by lia
   generalize min (v-S) (minRun' v v 0)=pt at T fd ⊢;refine bi (Ov z G (by lia) x T I SU ?_);intro Tv w J S5 sp N;rw[aG (by decide)];exact L pt w ⟨fd,ed x T,Tv,J,S5,pm.congr λb Y c=>mq<|sp b c,N⟩
theorem Ir(c:fK v M (eW SR D O F SP) j)(C:2<=v)(e:v<1001\/∀u,1<=u->u<v->M (u-1)<=M u)(d:∀a b,cM v a->hF M a v->arrOf b=a.map (bh SP)->hs b=X->A () b j):kasC (aM SR D) O SM sortRuns' A (s_ F SP (range v).toArray) j:=RQ c C d
end
end L2
namespace L2
open PySem PySem.Spec PyProof.Rows
section
variable{f:aH}{G:List (ai×a0)}{y:St}{h:au}{j:ak}{U:aT}
variable{T7:List ai}{Tk:Nat}
theorem Inv.Ib{L:ai}{x:List as}(Y:Inv f G y h j)(b:∀c∈T7,jx f G h c)(o:∀c m,c∉T7->j.heap.get? c=Z m->U.get? c=Z m)(l:j.heap.objs.size<=L)(new:eU f.prog f.w (upd h L<|.tup x) U L (.tup x)):Inv f G y (upd h L<|.tup x) {j with heap:=U,toks:=Tk}:=by
 have e:h L=X:=Y.aV.fresh l;have s:∀c m,j.heap.get? c=Z m->c≠L:=λc m a=>cT (fs (bX a) l);have n:∀c I,h c=Z I->c∉T7:=λc I a z=>by rw[(b c z).1]at a;cases a
 refine Y.step (Uf:=j.gens) (TV:=j.drawn) (T7:=T7) (λc d=>⟨(b c d).2.2.2.1,(b c d).2.1,(b c d).2.2.2.2.1,(b c d).2.2.2.2.2⟩) (λc m W W k a W=>o c m k a) (λc m W W k a W=>⟨m.slots,o c m k a⟩)
  (λc m W a v=>by rw[cB (s c m a)];exact v) (λc m k a=>⟨m,o c m k a⟩) (λc S2 a=>by rw[cB (hh a e)];exact a) (λc m I a=>by rw[cB (hh a e)];exact a)
  (λc SO a=>⟨#[],by rw[cB (hh a e),a];simp⟩) (λi t=>?_) (λg m a=>?_) Y.bare
 ·obtain⟨m,Q,Td,u,r⟩:=t;exact⟨m,Q,Td,o _ m (λz=>(b _ z).2.1 rfl) u,r⟩
 ·by_cases q:g=L
  ·subst q;rw[ec]at a;cases a;exact new
  ·rw[cB q]at a;refine (Y.aV g m a).gl (λc I d p=>o c I ?_ p) (λc p=>by rw[cB (hh p e)];exact p) λc S2 p=>by rw[cB (hh p e)];exact p
   rcases d with z|z
   ·rw[z];exact n g m a
   ·exact n c _ z
theorem Inv.Ot(Y:Inv f G y h j)(b:∀c∈T7,jx f G h c)(o:∀c m,c∉T7->j.heap.get? c=Z m->U.get? c=Z m):Inv f G y h {j with heap:=U,toks:=Tk}:=by
 have k:∀c I,h c=Z I->c∉T7:=λc I a z=>by rw[(b c z).1]at a;cases a
 refine Y.step (Uf:=j.gens) (TV:=j.drawn) (T7:=T7) (λc d=>⟨(b c d).2.2.2.1,(b c d).2.1,(b c d).2.2.2.2.1,(b c d).2.2.2.2.2⟩) (λc m W W e a W=>o c m e a) (λc m W W e a W=>⟨m.slots,o c m e a⟩)
  (λc m W W v=>v) (λc m e a=>⟨m,o c m e a⟩) (λc S2 a=>a) (λc m I a=>a) (λc SO a=>⟨#[],by rw[a];simp⟩) (λi l=>?_) (λg m a=>?_) Y.bare
 ·obtain⟨m,Q,Td,n,r⟩:=l;exact⟨m,Q,Td,o _ m (λz=>(b _ z).2.1 rfl) n,r⟩
 ·refine (Y.aV g m a).gl (λc I d p=>o c I ?_ p) (λc p=>p) λc S2 p=>p;rcases d with z|z
  ·rw[z];exact k g m a
  ·exact k c _ z
end
section
variable{SR:bw}{D:a9}{O:bp}{SM:ae->ak->Prop}{j:ak}
variable{SP B:ai}{b:Nat}{S_:Array ae}{A:ae->ak->Prop}
theorem xz{e:ae}(d:j.heap.IsTupleIter SP B b)(bt:j.heap.IsTuple B S_)(g:S_[b]?=Z e)(p:∀U,U.IsTupleIter SP B (b+1)->aT.SameBut SP j.heap U->A e {j with heap:=U}):wpAny (aM SR D) O (ba.SmallTypes.nextOf<|.ref SP) A SM j:=by
 obtain⟨m,c,Ts,a⟩:=id d;obtain⟨i,h,Y,G,Tc⟩:=bt;unfold ba.SmallTypes.nextOf;refine ao (jf (name:=ay.ofString "__next__") d.typeIs sO<|gW sO d.typeIs E5 ?f<|D5 _)
 case f=>
  show wpAny _ _ (field (.ref SP) 0 >>= _) _ _ j;refine ao (gu c a (x:=.ref B) rfl ?_);show wpAny _ _ (if (ae.ref B==ae.none)=aa then _ else _) _ _ j;rw[aG (show ¬ (ae.ref B==ae.none)=aa by intro f;cases f)];show wpAny _ _ (field (.ref SP) 1 >>= _) _ _ j;refine ao (gu c a (x:=.int b 0) rfl ?_);show wpAny _ _ (qI (.ref B) >>= _) _ _ j;refine ao (ib h Tc ?_);simp only[mj,g];refine ao (nd c a (by simp) (aJ ⟨e,rfl,aJ (p _ ⟨_,nc _ c<|x9<|pI a _,(vS ..).trans Ts,by rw[pI a];simp[en]⟩<|ls ..)⟩))
theorem CZ(k:O.handled=X)(c:j.heap.IsTupleIter SP B b)(bt:j.heap.IsTuple B S_)(l:S_[b]?=X)(p:∀U a,aT.ExtBut SP j.heap U->(∃m,U.get? a=Z m/\m.cls=.type "StopIteration")->SM (.ref a) {j with heap:=U}):wpAny (aM SR D) O (ba.SmallTypes.nextOf<|.ref SP) A SM j:=by
 obtain⟨m,d,Ts,f⟩:=id c;obtain⟨o,n,Y,G,Tc⟩:=bt;unfold ba.SmallTypes.nextOf;refine ao (jf (name:=ay.ofString "__next__") c.typeIs sO<|gW sO c.typeIs E5 ?h<|D5 _)
 case h=>
  show wpAny _ _ (field (.ref SP) 0 >>= _) _ _ j;refine ao (gu d f (x:=.ref B) rfl ?_);show wpAny _ _ (if (ae.ref B==ae.none)=aa then _ else _) _ _ j;rw[aG (show ¬ (ae.ref B==ae.none)=aa by intro h;cases h)];show wpAny _ _ (field (.ref SP) 1 >>= _) _ _ j;refine ao (gu d f (x:=.int b 0) rfl ?_);show wpAny _ _ (qI (.ref B) >>= _) _ _ j;refine ao (ib n Tc ?_);simp only[mj,l];refine ao (h4 (ao (nd d f (by simp) ?_)));show wpAny _ _ (pv (.type "StopIteration") [] >>= _) _ _ _;apply ao;simp only[pv,vF];refine ao (fq (ao (m:=pi _ _) (uk (a:=ae.none) (by first|rfl|(simp only[pi];rfl)) (fq ?_ (by size_fits)))) (by size_fits));simp only[raiseNew];apply ao;apply zj;rw[show O.in1.handled=X from k];refine ao (m:=pure _) (aJ<|yh ?_);exact p _ _ (((ls ..).extBut.push _).push _) ⟨_,da _ rfl,rfl⟩
end
section
variable{SR:bw}{D:a9}{O:bp}{SM:ae->ak->Prop}{j:ak}
variable{d U:aT}{g:ai}
theorem iC{B:ai}{b:Nat}(e:d.IsTupleIter g B b)(o:∀m,d.get? g=Z m->U.get? g=Z m):U.IsTupleIter g B b:=let ⟨m,a,r⟩:=e;⟨m,o m a,r⟩
variable{x:Array ae}
theorem pD(e:d.IsTuple g x)(o:∀m,d.get? g=Z m->U.get? g=Z m):U.IsTuple g x:=let ⟨m,a,r⟩:=e;⟨m,o m a,r⟩
variable{g c:ae}{Tj Tr:Nat}{S2:Array ae}
theorem Kx{b c0 cH f h p r:ai}{e t:ae}{A:ae->ak->Prop}(w:sK b c0 cH f h p r)(u:iX j.heap b c0 cH .none)(cl:hT j.heap c0 (.ref f) (.ref h))(co:hT j.heap cH g c)(l:j.heap.IsTupleIter f p Tj)(C:j.heap.IsTupleIter h r Tr)(eq:j.heap.IsTuple p x)(ex:j.heap.IsTuple r S2)(fd:x[Tj]?=Z e)(fn:S2[Tr]?=Z t)(f1:∀U,iX U b c0 cH (en j.heap.objs.size)->hT U cH e t->U.IsTupleIter f p (Tj+1)->U.IsTupleIter h r (Tr+1)->hT U j.heap.objs.size e t->
   (∀q m,q≠b->q≠cH->q≠f->q≠h->j.heap.get? q=Z m->U.get? q=Z m)->A (.ref j.heap.objs.size) {j with heap:=U}):
  wpAny (aM SR D) O (ba.«zip.__next__» ⟨[.ref b],[]⟩) (λfin SN=>∃s,fin=.done (.ret s)/\A s SN) SM j:=by
 show wpAny _ _ (field (.ref b) 2 >>= _) _ _ _;refine ao (gu u rfl (x:=.bool al) rfl ?_);show wpAny _ _ (field (.ref b) 3 >>= _) _ _ _;refine ao (gu u rfl (x:=.ref c0) rfl<|ao<|ib cl rfl ?_);show wpAny _ _ (ba.SmallTypes.ownedTupleIsFree (.ref b) >>= _) _ _ _;apply ao;unfold ba.SmallTypes.ownedTupleIsFree;refine ao (gu u rfl (x:=.none) rfl<|aJ ?_);simp only[hQ];refine ao (h4 (ao (gu u rfl (x:=.ref cH) rfl (ao (o8 u (by simp) λbE G i=>?_)))));replace G:iX bE b c0 cH .ellipsis:=G;apply ao;simp only[wr,Ex,tw,Ey];refine ao (ao<|sh ?_);show wpAny _ _ (ba.SmallTypes.nextOf (.ref f) >>= _) _ _ _;refine ao (xz (j:={j with heap:=bE}) (iC l λm a=>i.extBut _ m w.i1z a) (pD eq λm a=>i.extBut _ m w.l1z a) fd λH TP n=>aJ ?_);have TM:hT H cH g c:=n.extBut _ _ w.TOi1 (i.extBut _ _ w.TOz co);refine ao (ib (s:={j with heap:=H}) TM rfl<|ao<|wR (s:={j with heap:=H}) TM λP I o=>?_);replace I:hT P cH e c:=I;refine ao (tc<|aJ<|ao<|ao<|sh ?_);show wpAny _ _ (ba.SmallTypes.nextOf (.ref h) >>= _) _ _ _;refine ao (xz (j:={j with heap:=P}) (iC C λm a=>o.extBut _ m w.TOi2.symm<|n.extBut _ m w.i12.symm<|i.extBut _ m w.i2z a) (pD ex λm a=>o.extBut _ m w.l2TO<|n.extBut _ m w.l2i1<|i.extBut _ m w.l2z a) fn λJ go v=>aJ ?_);have TK:hT J cH e c:=v.extBut _ _ w.TOi2 I;refine ao (ib (s:={j with heap:=J}) TK rfl<|ao<|wR (s:={j with heap:=J}) TK λd TC y=>?_);replace TC:hT d cH e t:=TC;refine ao (tc<|aJ<|aJ<|ao<|ib (s:={j with heap:=d}) TC rfl<|ao<|B6 ?_);have Q:d.objs.size=j.heap.objs.size:=by rw[y.1,v.1,o.1,n.1,i.1]
 have R:iX d b c0 cH .ellipsis:=y.extBut _ _ w.TOz.symm (v.extBut _ _ w.i2z.symm<|o.extBut _ _ w.TOz.symm<|n.extBut _ _ w.i1z.symm G);have g1:∀q m,q≠b->q≠cH->q≠f->q≠h->j.heap.get? q=Z m->d.get? q=Z m:=λq m k z L M a=>y.extBut _ _ z (v.extBut _ _ M<|o.extBut _ _ z<|n.extBut _ _ L<|i.extBut _ _ k a);have cz:d.IsTupleIter f p (Tj+1):=iC TP λm a=>y.extBut _ m w.TOi1.symm (v.extBut _ m w.i12<|o.extBut _ m w.TOi1.symm a);have b3:d.IsTupleIter h r (Tr+1):=iC go λm a=>y.extBut _ m w.TOi2.symm a;have S:b<d.objs.size:=bX R;show wpAny _ _ (ba.SmallTypes.ownedTupleHandOut (.ref b) (.ref d.objs.size) >>= _) _ _ _;apply ao;unfold ba.SmallTypes.ownedTupleHandOut;have hd:iX (d.push {cls:=.type "tuple",data:=.seq #[e,t]}) b c0 cH .ellipsis:=bS _ R;refine ao (o8 hd (by simp) λim N T=>?_);replace N:iX im b c0 cH (en d.objs.size):=N;refine o8 N (by simp) λB E be=>?_;replace E:iX B b c0 cH (en d.objs.size):=E;have F:∀q m,q≠b->d.get? q=Z m->B.get? q=Z m:=λq m k a=>be.extBut _ _ k (T.extBut _ _ k<|bS _ a);have bs:hT B d.objs.size e t:=be.extBut _ _ (l2 S) (T.extBut _ _ (l2 S)<|da _ rfl);rw[Q]at E bs;refine aJ ⟨_,rfl,?_⟩;show A (.ref d.objs.size) _;rw[Q];exact f1 B E (F _ _ w.TOz TC) (iC cz λm a=>F _ m w.i1z a) (iC b3 λm a=>F _ m w.i2z a) bs λq m k z L M a=>F q m k (g1 q m k z L M a)
theorem Rk{b c0 cH n o y z:ai}{A:PySem.Fin->ak->Prop}(I:O.handled=X)(w:sK b c0 cH n o y z)(r:iX j.heap b c0 cH .none)(R:hT j.heap c0 (.ref n) (.ref o))(S:hT j.heap cH g c)(l:j.heap.IsTupleIter n y Tj)(C:j.heap.IsTupleIter o z Tr)(J:j.heap.IsTuple y x)(T:j.heap.IsTuple z S2)(be:x[Tj]?=X\/S2[Tr]?=X)(L:∀U a,(∀q m,q≠b->q≠cH->q≠n->q≠o->j.heap.get? q=Z m->U.get? q=Z m)->(∃m,U.get? a=Z m/\m.cls=.type "StopIteration")->SM (.ref a) {j with heap:=U}):
  wpAny (aM SR D) O (ba.«zip.__next__» ⟨[.ref b],[]⟩) A SM j:=by
 show wpAny _ _ (field (.ref b) 2 >>= _) _ _ _;refine ao (gu r rfl (x:=.bool al) rfl ?_);show wpAny _ _ (field (.ref b) 3 >>= _) _ _ _;refine ao (gu r rfl (x:=.ref c0) rfl<|ao<|ib R rfl ?_);show wpAny _ _ (ba.SmallTypes.ownedTupleIsFree (.ref b) >>= _) _ _ _;apply ao;unfold ba.SmallTypes.ownedTupleIsFree;refine ao (gu r rfl (x:=.none) rfl<|aJ ?_);simp only[hQ];refine ao (h4 (ao (gu r rfl (x:=.ref cH) rfl (ao (o8 r (by simp) λbE v f=>?_)))));replace v:iX bE b c0 cH .ellipsis:=v;apply ao;simp only[wr,Ex,tw,Ey];refine ao (ao<|sh ?_);show wpAny _ _ (ba.SmallTypes.nextOf (.ref n) >>= _) _ _ _;cases B:x[Tj]? with
 |none=>
  refine ao (CZ (j:={j with heap:=bE}) I (iC l λm a=>f.extBut _ m w.i1z a) (pD J λm a=>f.extBut _ m w.l1z a) B λs a h E=>?_);obtain⟨TO,i,t⟩:=E;have M:iX s b c0 cH .ellipsis:=h _ _ w.i1z.symm v;have F:a≠b:=λp=>by subst p;rw[M]at i;cases i;simp at t
  refine o8 M (by simp) λG Y k=>L G a (λq m u Y H Y p=>k.extBut _ _ u<|h _ _ H<|f.extBut _ _ u p) ⟨TO,k.extBut _ _ F i,t⟩
 |some e=>
  have bs:S2[Tr]?=X:=by
   rcases be with d|d
   ·rw[B]at d;cases d
   ·exact d
  refine ao (xz (j:={j with heap:=bE}) (iC l λm a=>f.extBut _ m w.i1z a) (pD J λm a=>f.extBut _ m w.l1z a) B λs TP h=>aJ ?_);have TM:hT s cH g c:=h.extBut _ _ w.TOi1 (f.extBut _ _ w.TOz S);refine ao (ib (s:={j with heap:=s}) TM rfl<|ao<|wR (s:={j with heap:=s}) TM λG fd k=>?_);refine ao (tc<|aJ<|ao<|ao<|sh ?_);show wpAny _ _ (ba.SmallTypes.nextOf (.ref o) >>= _) _ _ _;refine ao (CZ (j:={j with heap:=G}) I (iC C λm a=>k.extBut _ m w.TOi2.symm<|h.extBut _ m w.i12.symm<|f.extBut _ m w.i2z a) (pD T λm a=>k.extBut _ m w.l2TO<|h.extBut _ m w.l2i1<|f.extBut _ m w.l2z a) bs λcl a N E=>?_);obtain⟨TO,i,t⟩:=E;have P:iX cl b c0 cH .ellipsis:=N _ _ w.i2z.symm (k.extBut _ _ w.TOz.symm<|h.extBut _ _ w.i1z.symm v);have F:a≠b:=λp=>by subst p;rw[P]at i;cases i;simp at t
  refine o8 P (by simp) λco Y Q=>L co a (λq m u eq H ex p=>Q.extBut _ _ u<|N _ _ ex<|k.extBut _ _ eq<|h.extBut _ _ H<|f.extBut _ _ u p) ⟨TO,Q.extBut _ _ F i,t⟩
end
variable{j:ak}{TG:bO}{Tl TH S8:List Nat}{own SO:List ay}{TQ To q a c g:a8}{T9:List bz}{SM:kn}{u v Ul:Nat}{Ug y:St}{fd:gp}{T x:List as}{E:List ab}{az Tf O SQ Tg S6 Ti SV N:List ai}{A:cw}{e:ay}{r Q:List a8}{Tk:d0}{f:aH}{S5 SU R h:au}{s:as}{n S1:Pos}{SK:PySem.W.Frag}
noncomputable def jD(d:aT)(a b:ai):aT:=((((d.push {cls:=.type "tuple_iterator",data:=.fields #[.ref a,.int 0 0]}).push {cls:=.type "tuple_iterator",data:=.fields #[.ref b,.int 0 0]}).push
 {cls:=.type "tuple",data:=.seq #[.ref d.objs.size,.ref (d.push {cls:=.type "tuple_iterator",data:=.fields #[.ref a,.int 0 0]}).objs.size]}).push {cls:=.type "tuple",data:=.seq #[.none,.none]})
theorem Kr(b c:ai)(x S2:Array ae):
    Meets (ba.«zip.__new__» ⟨[.type "zip", .ref b,.ref c],[]⟩) (λ_ SQ j => j.heap.IsTuple b x /\ j.heap.IsTuple c S2 /\
      SQ (.ok<|.ret<|.ref (jD j.heap b c).objs.size) {j with heap:=(jD j.heap b c).push {cls:=.type "zip", data:=.fields #[.none,.bool al,.bool al,.ref ((j.heap.push {cls:=.type "tuple_iterator", data:=.fields #[.ref b,.int 0 0]}).push {cls:=.type "tuple_iterator", data:=.fields #[.ref c,.int 0 0]}).objs.size,
        .ref (((j.heap.push {cls:=.type "tuple_iterator", data:=.fields #[.ref b,.int 0 0]}).push {cls:=.type "tuple_iterator", data:=.fields #[.ref c,.int 0 0]}).push
  {cls:=.type "tuple", data:=.seq #[.ref j.heap.objs.size,.ref (j.heap.push {cls:=.type "tuple_iterator", data:=.fields #[.ref b,.int 0 0]}).objs.size]}).objs.size]} }) :=
  .of_wp λSR D O SQ j d => by
    obtain ⟨e,J,k,Tu,S3⟩:=j;obtain ⟨f,g,d⟩:=d;have l:=sub_zip;have h:aT.IsTuple (ak.heap ⟨e,J,k,Tu,S3⟩) b x:=f;have i:aT.IsTuple (ak.heap ⟨e.push {cls:=.type "tuple_iterator", data:=.fields #[.ref b,.int 0 0]}, J,k,Tu,S3⟩) c S2:=pD g λm a => bS _ a
    wp_walk using wpAny_pyIter_tuple h,wpAny_pyIter_tuple i
    exact ⟨_,rfl,d⟩
def u3(SK:PySem.W.Frag)(g c:ai):e3:=
 ⟨λb h=>∃x S2 e t,b7 SK h g x/\b7 SK h c S2/\x[b]?=Z e/\S2[b]?=Z t,
  λb h s R=>∃L e t,h L=X/\s=.ref L/\R=upd h L (.tup [e,t])/\(∀x,b7 SK h g x->x[b]?=Z e)/\(∀S2,b7 SK h c S2->S2[b]?=Z t),
  λb h=>∃x S2,b7 SK h g x/\b7 SK h c S2/\(x.length<=b\/S2.length<=b)⟩
def zR(g c f c0 cH a e:ai)(b:Nat)(d:aT):Prop:=iX d f c0 cH .none/\hT d c0 (.ref a) (.ref e)/\(∃n p,hT d cH n p)/\d.IsTupleIter a g b/\d.IsTupleIter e c b
theorem L9{SS:bw}{D:a9}(g c k c0 cH v z:ai)(w:sK k c0 cH v z g c):
  rq SS D SK (.Tuple Q Ul S1) (u3 SK g c) [k,c0,cH,v,z] k (zR g c k c0 cH v z) where
 mem:=by simp
 obj:=λb d st q i=>by
  obtain⟨l,C,⟨n,p,u⟩,⟨TK,P,W,g1⟩,⟨TC,S,W,im⟩⟩:=st;simp only[bI,qG,hk]at i;rcases i with rfl|rfl|rfl|rfl|rfl
  ·exact⟨_,l,λs a=>by cases a⟩
  ·exact⟨_,C,λs a=>by cases a⟩
  ·exact⟨_,u,λs a=>by cases a⟩
  ·exact⟨_,P,λs a=>by rw[g1]at a;cases a⟩
  ·exact⟨_,S,λs a=>by rw[im]at a;cases a⟩
 keep:=λb d U st o=>by
  obtain⟨l,C,⟨n,p,u⟩,B,E⟩:=st;exact⟨o k (by simp) _ l,o c0 (by simp) _ C,⟨n,p,o cH (by simp) _ u⟩,iC B λm a=>o v (by simp) m a,iC E λm a=>o z (by simp) m a⟩
 item:=by
  intro f T be bs i b G j y h SM Y J st cl;subst T be bs;obtain⟨x,S2,e,t,M,N,fd,fn⟩:=cl;obtain⟨SZ,co,n,F⟩:=Y.tuple M;obtain⟨eq,ex,Tv,mb⟩:=Y.tuple N;obtain⟨I,mp,ne⟩:=co.get fd;obtain⟨f1,of,on⟩:=ex.get fn;have pm:=st;obtain⟨l,C,⟨bN,h5,u⟩,B,E⟩:=st;have H:j.TypeIs (.ref k) "zip" := ⟨_,l,rfl⟩;unfold gd;refine ao (n8 (jf (name:=ay.ofString "__next__") H r_ (gW r_ H CR
   (Kx (A:=λs SN=>wpAny (aM f.prog f.w) f.A (pure<|Z s) (λr pt=>∃I,r=Z I/\wpAny (aM f.prog f.w) f.A (ry (.Tuple Q Ul S1) (.ref k) I) (λ_ go=>∃e R,Inv f G y R go/\bZ e I/\(u3 f.K g c).qA b h e R/\zR g c k c0 cH v z (b+1) go.heap/\∀c∈[k,c0,cH,v,z],R c=X) SM pt) SM SN)
    w l C u B E (show j.heap.IsTuple g SZ.toArray from n) (show j.heap.IsTuple c eq.toArray from Tv) (e:=I) (t:=f1) (by simpa using mp) (by simpa using of) λU sp Tc TE s1 s2 es=>aJ ⟨_,rfl,?_⟩) (BM _))));refine wpAny_letOwnedTupleGo_zip sp λty un b9=>?_;have lt:∀q∈[k,c0,cH,v,z],q<j.heap.objs.size:=λq i=>by
   obtain⟨l,C,⟨n,p,u⟩,⟨TK,P,W⟩,⟨TC,S,W⟩⟩:=pm;simp only[bI,qG,hk]at i;rcases i with rfl|rfl|rfl|rfl|rfl
   ·exact bX l
   ·exact bX C
   ·exact bX u
   ·exact bX P
   ·exact bX S
  have cP:∀q m,q∉[k,c0,cH,v,z]->j.heap.get? q=Z m->ty.get? q=Z m:=λq m i a=>by
   simp only[bI,qG,hk,not_or]at i;exact b9.extBut _ _ i.1 (es q m i.1 i.2.2.1 i.2.2.2.1 i.2.2.2.2 a)
  have up:j.heap.objs.size≠k:=l2 (lt k (by simp));have Gt:h j.heap.objs.size=X:=Y.aV.fresh (bm _);refine⟨.ref j.heap.objs.size,upd h j.heap.objs.size<|.tup [e,t],Y.Ib (Tk:=j.toks) J cP (bm _) ⟨by show 2<=sizeLine;decide,[I,f1],.cons ne<|.cons on .nil,?_⟩,rfl,⟨_,e,t,Gt,rfl,rfl,λTF F=>?_,λTF F=>?_⟩,?_,λq i=>?_⟩
  ·exact⟨_,b9.extBut _ _ up s2,rfl,0,rfl⟩
  ·rw[Y.wg F M];exact fd
  ·rw[Y.wg F N];exact fn
  ·exact⟨un,b9.extBut _ _ w.TIz<|es _ _ w.TIz w.TITO w.TIi1 w.TIi2 C,⟨_,_,b9.extBut _ _ w.TOz Tc⟩,iC TE λm a=>b9.extBut _ m w.i1z a,iC s1 λm a=>b9.extBut _ m w.i2z a⟩
  ·rw[cB (cT<|lt q i)];exact (J q i).1
 done:=by
  intro f T be bs i b G j y h SM Y J st cl;subst T be bs;obtain⟨x,S2,M,N,If⟩:=cl;obtain⟨SZ,co,n,F⟩:=Y.tuple M;obtain⟨eq,ex,Tv,mb⟩:=Y.tuple N;obtain⟨l,C,⟨bN,h5,u⟩,B,E⟩:=st;have H:j.TypeIs (.ref k) "zip" := ⟨_,l,rfl⟩;have Ok:=co.length;have SJ:=ex.length;unfold gd;refine ao (n8 (jf (name:=ay.ofString "__next__") H r_ (gW r_ H CR
   (Rk (Y.ok.hd i) w l C u B E (show j.heap.IsTuple g SZ.toArray from n) (show j.heap.IsTuple c eq.toArray from Tv) (by
    rcases If with d|d
    ·exact .inl (by simp;lia)
    ·exact .inr (by simp;lia)) λU a es ⟨m,Is,Lt⟩=>?_) (BM _))))
  refine ao (p7 (T := "StopIteration") (b:=aa) ⟨m,Is,Lt⟩ vz<|aJ ⟨rfl,Y.Ot (Tk:=j.toks) J λq m i a=>?_⟩);simp only[bI,qG,hk,not_or]at i;exact es q m i.1 i.2.2.1 i.2.2.2.1 i.2.2.2.2 a
 self:=λ_ W W W W st d=>Gc st.1 d
section
variable{f:aH}
def OX(SK:PySem.W.Frag)(TB:eL):c0:=λy h SQ=>TB y h λT SU=>∃g c,T=[.ref g,.ref c]/\(∃x,b7 SK SU g x)/\(∃S2,b7 SK SU c S2)/\SQ (u3 SK g c) SU
theorem LI{TB:eL}{SO:Pos}(D:dU f "zip")(E:f.aw "zip" = X)(H:gG f [g,c] TB)(SX:bG [g,c] f.env=[(al,bQ g f.env),(al,bQ c f.env)]:=by rfl)(u:bG [c] f.env=[(al,bQ c f.env)]:=by rfl):
  ke f (.Tuple Q Ul SO) (.Call (.Name "zip" n) [g,c] [] S1) (OX f.K TB):=by
 intro G j y h SQ Y d;refine Call_ (nv Y D E boot_zip (tE (bJ (H S1 G j y h _ Y d) λS7 b ⟨T,SU,k,I,J⟩=>?_) (by rw[SX,u]) (by rw[u];rfl)));obtain⟨e,i,a,⟨x,L⟩,⟨S2,M⟩,p⟩:=J;subst a;cases I with
 |cons r s=>
  cases s with
  |cons TG s=>
   cases s;cases r;cases TG;obtain⟨SZ,S,n,U⟩:=k.tuple L;obtain⟨O,be,Tv,bs⟩:=k.tuple M;have P:e<b.heap.objs.size:=by obtain⟨m,a,N⟩:=n;exact bX a
   have R:i<b.heap.objs.size:=by obtain⟨m,a,N⟩:=Tv;exact bX a
   refine callType_new F.called_zip (by decide) (F.typeCall_zip_2 _ _) (F.newCall_zip_2 _ _) (λobj=>F.args_object_init_3 obj _ _) F.entry_zip_new (Kr e i SZ.toArray O.toArray) ⟨n,Tv,?_⟩;have t:(b.heap.push {cls:=.type "tuple_iterator",data:=.fields #[.ref e,.int 0 0]}).objs.size=b.heap.objs.size+1:=jW ..;have l:((b.heap.push {cls:=.type "tuple_iterator",data:=.fields #[.ref e,.int 0 0]}).push {cls:=.type "tuple_iterator",data:=.fields #[.ref i,.int 0 0]}).objs.size=b.heap.objs.size+2:=by rw[jW,t]
   have o:(((b.heap.push {cls:=.type "tuple_iterator",data:=.fields #[.ref e,.int 0 0]}).push {cls:=.type "tuple_iterator",data:=.fields #[.ref i,.int 0 0]}).push
    {cls:=.type "tuple",data:=.seq #[.ref b.heap.objs.size,.ref (b.heap.push {cls:=.type "tuple_iterator",data:=.fields #[.ref e,.int 0 0]}).objs.size]}).objs.size=b.heap.objs.size+3:=by rw[jW,l]
   have v:(jD b.heap e i).objs.size=b.heap.objs.size+4:=by unfold jD;rw[jW,o]
   show _/\_;refine⟨⟨_,da _ rfl,rfl⟩,Gc (TI:=b.heap.objs.size+2) (TO:=b.heap.objs.size+3) (f0:=.none) ?_ ?_⟩
   ·rw[l,o];exact da _ rfl
   ·rw[l,o,v];have z:((jD b.heap e i).push {cls:=.type "zip",data:=.fields #[.none,.bool al,.bool al,.ref<|b.heap.objs.size+2,.ref<|b.heap.objs.size+3]}).get? (b.heap.objs.size+4)=Z {cls:=.type "zip",data:=.fields #[.none,.bool al,.bool al,.ref<|b.heap.objs.size+2,.ref<|b.heap.objs.size+3]}:=by rw[<-v];exact da _ rfl
    have A:((jD b.heap e i).push {cls:=.type "zip",data:=.fields #[.none,.bool al,.bool al,.ref<|b.heap.objs.size+2,.ref<|b.heap.objs.size+3]}).get? (b.heap.objs.size+3)=Z {cls:=.type "tuple",data:=.seq #[.none,.none]}:=by
     rw[<-o];exact bS _ (da _ rfl)
    have TE:((jD b.heap e i).push {cls:=.type "zip",data:=.fields #[.none,.bool al,.bool al,.ref<|b.heap.objs.size+2,.ref<|b.heap.objs.size+3]}).get? (b.heap.objs.size+2)=Z {cls:=.type "tuple",data:=.seq #[.ref b.heap.objs.size,.ref<|b.heap.objs.size+1]}:=by
     rw[<-l,<-t];exact bS _ (bS _<|da _ rfl)
    have Tc:((jD b.heap e i).push {cls:=.type "zip",data:=.fields #[.none,.bool al,.bool al,.ref<|b.heap.objs.size+2,.ref<|b.heap.objs.size+3]}).get? (b.heap.objs.size+1)=Z {cls:=.type "tuple_iterator",data:=.fields #[.ref i,.int 0 0]}:=by
     rw[<-t];exact bS _ (bS _<|bS _<|da _ rfl)
    have B:((jD b.heap e i).push {cls:=.type "zip",data:=.fields #[.none,.bool al,.bool al,.ref<|b.heap.objs.size+2,.ref<|b.heap.objs.size+3]}).get? b.heap.objs.size=Z {cls:=.type "tuple_iterator",data:=.fields #[.ref e,.int 0 0]}:=
     bS _ (bS _<|bS _<|bS _<|da _ rfl);have cP:∀q m,b.heap.get? q=Z m->((jD b.heap e i).push {cls:=.type "zip",data:=.fields #[.none,.bool al,.bool al,.ref<|b.heap.objs.size+2,.ref<|b.heap.objs.size+3]}).get? q=Z m:=λq m a=>
     bS _ (bS _<|bS _<|bS _<|bS _ a);generalize ((jD b.heap e i).push {cls:=.type "zip",data:=.fields #[.none,.bool al,.bool al,.ref<|b.heap.objs.size+2,.ref<|b.heap.objs.size+3]})=cl at B Tc TE A z cP ⊢;have w:sK (b.heap.objs.size+4) (b.heap.objs.size+2) (b.heap.objs.size+3) b.heap.objs.size (b.heap.objs.size+1) e i:=PySem.W.ktu_apart _ _ _ P R;refine⟨_,_,_,_,SU,rfl,k.kept (Tk:=b.toks) cP,L9 e i _ _ _ _ _ w,⟨z,TE,⟨_,_,A⟩,⟨_,B,rfl,rfl⟩,⟨_,Tc,rfl,rfl⟩⟩,λq C=>?_,p⟩;have:b.heap.objs.size<=q:=by
     simp only[bI,qG,hk]at C;rcases C with rfl|rfl|rfl|rfl|rfl
     ·exact m1 _ _
     ·exact m1 _ _
     ·exact m1 _ _
     ·exact bm _
     ·exact m1 _ _
    exact k.tm this (k.aV.fresh this)
end
def Cz(SK:PySem.W.Frag)(h:au)(e:as)(L:String)(c:Bool):Prop:=
 (∃b,e=.int b/\((L = "int" /\ c=aa)\/(L = "tuple" /\ c=al)\/(L = "str" /\ c=al)\/(L = "bool" /\ c=al)\/(L = "list" /\ c=al)))\/
 (∃b,e=.ax b/\((L = "bool" /\ c=aa)\/(L = "int" /\ c=aa)\/(L = "tuple" /\ c=al)\/(L = "str" /\ c=al)\/(L = "list" /\ c=al)))\/
 (∃b,e=.str b/\((L = "str" /\ c=aa)\/(L = "int" /\ c=al)\/(L = "tuple" /\ c=al)\/(L = "bool" /\ c=al)\/(L = "list" /\ c=al)))\/
 (∃g x,e=.ref g/\b7 SK h g x/\((L = "tuple" /\ c=aa)\/(L = "int" /\ c=al)\/(L = "str" /\ c=al)\/(L = "bool" /\ c=al)\/(L = "list" /\ c=al)))\/
 (∃g x,e=.ref g/\c5 SK h g x/\((L = "list" /\ c=aa)\/(L = "int" /\ c=al)\/(L = "str" /\ c=al)\/(L = "bool" /\ c=al)\/(L = "tuple" /\ c=al)))
section
variable{f:aH}
theorem J6:eu f (.builtin "isinstance") (λx h A=>∃e L c,x=[e,.ty L]/\Cz f.K h e L c/\A (.ax c) h):=by
 intro G j y h x S7 A Y r d;obtain⟨e,L,c,rfl,SJ,p⟩:=d;cases r with
 |cons r l=>
  cases l with
  |cons TG l=>
   cases l;cases TG;have T3:∀{c:Bool},A (.ax c) h->d4 f G y A (.bool c) j:=λ{c} p=>⟨.ax c,h,Y,rfl,p⟩;have a:∀{c:Bool},A (.ax c) h->d4 f G y A (.bool c) {j with toks:=j.toks+1}:=λ{c} p=>⟨.ax c,h,Y.tok _,rfl,p⟩;rcases SJ with ⟨b,rfl,SJ⟩|⟨b,rfl,SJ⟩|⟨b,rfl,SJ⟩|⟨g,x,rfl,SX,SJ⟩|⟨g,x,rfl,SX,SJ⟩
   ·obtain⟨B,rfl⟩:=r;rcases SJ with ⟨rfl,rfl⟩|⟨rfl,rfl⟩|⟨rfl,rfl⟩|⟨rfl,rfl⟩|⟨rfl,rfl⟩
    ·exact IsiPair.int_int (T3 p)
    ·exact IsiPair.int_tuple (a p)
    ·exact IsiPair.int_str (a p)
    ·exact IsiPair.int_bool (a p)
    ·exact IsiPair.int_list (a p)
   ·cases r;rcases SJ with ⟨rfl,rfl⟩|⟨rfl,rfl⟩|⟨rfl,rfl⟩|⟨rfl,rfl⟩|⟨rfl,rfl⟩
    ·exact IsiPair.bool_bool (T3 p)
    ·exact IsiPair.bool_int (T3 p)
    ·exact IsiPair.bool_tuple (a p)
    ·exact IsiPair.bool_str (a p)
    ·exact IsiPair.bool_list (a p)
   ·obtain⟨B,rfl⟩:=r;rcases SJ with ⟨rfl,rfl⟩|⟨rfl,rfl⟩|⟨rfl,rfl⟩|⟨rfl,rfl⟩|⟨rfl,rfl⟩
    ·exact IsiPair.str_str (T3 p)
    ·exact IsiPair.str_int (a p)
    ·exact IsiPair.str_tuple (a p)
    ·exact IsiPair.str_bool (a p)
    ·exact IsiPair.str_list (a p)
   ·cases r;obtain⟨SZ,o,⟨m,i,k,W⟩,q⟩:=Y.tuple SX;rcases SJ with ⟨rfl,rfl⟩|⟨rfl,rfl⟩|⟨rfl,rfl⟩|⟨rfl,rfl⟩|⟨rfl,rfl⟩
    ·exact IsiPair.tuple_tuple i k (T3 p)
    ·exact IsiPair.tuple_int i k (a p)
    ·exact IsiPair.tuple_str i k (a p)
    ·exact IsiPair.tuple_bool i k (a p)
    ·exact IsiPair.tuple_list i k (a p)
   ·cases r;obtain⟨SZ,o,n,q⟩:=Y.list SX;obtain⟨m,i,k,W⟩:=n.isList;rcases SJ with ⟨rfl,rfl⟩|⟨rfl,rfl⟩|⟨rfl,rfl⟩|⟨rfl,rfl⟩|⟨rfl,rfl⟩
    ·exact IsiPair.list_list i k (T3 p)
    ·exact IsiPair.list_int i k (a p)
    ·exact IsiPair.list_str i k (a p)
    ·exact IsiPair.list_bool i k (a p)
    ·exact IsiPair.list_tuple i k (a p)
theorem A4:∀{F:List Bool}{S7:List ae},bK (F.map as.ax) S7->∀(b:Nat) (s:ae),S7[b]?=Z s->∃c,F[b]?=Z c/\s=ae.bool c:=by
 intro F S7 r b s d;have a:=r.length;rw[a5]at a;have SJ:b<F.length:=by rw[a];exact (fw.mp d).1
 obtain⟨I,f,g⟩:=r.get (b:=b) (e:=as.ax F[b]) (by simp[SJ]);rw[d]at f;cases f;exact⟨F[b],by simp[SJ],g⟩
theorem Nb(k:f.calm=aa):eu f (.builtin "all") (λx h A=>∃H F,x=[.ref H]/\h H=Z (.lst<|List.map as.ax F)/\A (.ax<|F.all id) h):=by
 intro G j y h x S7 A Y r d;obtain⟨H,F,rfl,l,p⟩:=d;obtain⟨I,rfl,m⟩:=he r;cases m;obtain⟨u,SZ,v,e,a⟩:=Y.aV H _ l;have g:j.heap.IsList H SZ.toArray:=⟨_,a,rfl,v,rfl⟩;refine call_all_walk (u7 g ⟨j.heap.objs.size,[j.heap.objs.size,H],[j.heap.objs.size],SZ.toArray.size,_,_,λb=>(F[b]?).getD aa,rfl,i1.list (A:=f.A.in1) (Y.ok.hd k) _ H (cT<|bX a) SZ.toArray,
  ⟨⟨_,da _ rfl,rfl,rfl⟩,g.push _⟩,λb s SN w z n i=>?_,λU Tu o=>?_⟩)
 ·obtain⟨c,q,rfl⟩:=A4 e b s (by simpa using n);simp only[q,n2]at i;exact lE i
 ·have t:SZ.toArray.size=F.length:=by
   have:=e.length;rw[a5]at this;rw[cr,this]
  rw[t,LSm.range_all];exact⟨.ax _,h,Y.kept<|Ew o,rfl,p⟩
theorem MV:dj f (fW .Mult) (pH IntMulOk λb u=>.int<|b*u):=sP λ_ Y Y Y Y Y Y a p=>mul_int p a
end
inductive aj where
 | im (k:ab)
 | dy
 | cO (E:List ab)
 | lst (E:List ab)
 | dm (M:List (d_×ab))
 | aL (M:List (List ab×ab))
 | hg (x:List aj)
 | u0 (SY:List (List ab)) (x:List aj)
 | ph (x:List aj)
 | obj (az:ai) (S:List ay) (x:List aj)
variable{m:Option aj}{Tx:List aj->Option aj}{P:aj->aj->Option aj}{k:aj}
abbrev aU:=List (Option aj)
variable{S4 w:aU}{d:List aj->aU->Option aU}
abbrev eC{F:Type}(h:au):List (F×ab)->List (F×as)->Prop:=dX λn p=>n.1=p.1/\cq h n.2 p.2
theorem eC.mono{F:Type}{H:List (F×ab)}{i:List (F×as)}(B:pl h R)(d:eC h H i):eC R H i:=dX.sD d λ_ Y a=>⟨a.1,a.2.mono B⟩
structure eO(h R:au):Prop where
 tup:pl h R
 de:∀g m I,h g=Z (.de m I)->R g=Z (.de m I)
mutual
def cn(h:au):aj->as->List ai->Prop
 |.im k,s,N=>cq h k s/\N=[]
 |.dy,_,N=>N=[]
 |.cO E,s,N=>∃g x m,s=.ref g/\h g=Z (.de m<|.lst x)/\bu h E x/\N=[]
 |.lst E,s,N=>∃g x,s=.ref g/\h g=Z (.lst x)/\bu h E x/\N=[g]
 |.dm M,s,N=>∃g T2,s=.ref g/\h g=Z (.dm T2)/\eC h M T2/\N=[g]
 |.aL M,s,N=>∃g T2,s=.ref g/\h g=Z (.aL T2)/\eC h M T2/\N=[g]
 |.hg E,s,N=>∃g x SV,s=.ref g/\h g=Z (.lst x)/\di h E x SV/\N=g::SV
 |.u0 SY E,s,N=>∃g T2 SV,s=.ref g/\h g=Z (.aL T2)/\T2.map (·.1)=SY/\di h E (T2.map (·.2)) SV/\N=g::SV
 |.ph E,s,N=>∃g x,s=.ref g/\h g=Z (.tup x)/\di h E x N
 |.obj az S E,s,N=>∃g z aA SV,s=.ref g/\h g=Z (.ins az z aA)/\aA.map (·.1)=S/\di h E (aA.map (·.2)) SV/\N=g::SV
def di(h:au):List aj->List as->List ai->Prop
 |[],T,N=>T=[]/\N=[]
 |k::E,T,N=>∃s r S6 Tg,T=s::r/\cn h k s S6/\di h E r Tg/\N=S6++Tg
end
mutual
theorem cn.mono{h R:au}(B:eO h R):∀{k:aj}{s:as}{N:List ai},cn h k s N->(∀g∈N,∀m,h g=Z m->R g=Z m)->cn R k s N
 |.im k,s,N,d,_=>⟨d.1.mono B.tup,d.2⟩
 |.dy,s,N,d,_=>d
 |.cO E,s,N,d,_=>by
  obtain⟨g,x,m,rfl,l,C,rfl⟩:=d;exact⟨g,x,m,rfl,B.de _ _ _ l,C.mono B.tup,rfl⟩
 |.lst E,s,N,d,o=>by
  obtain⟨g,x,rfl,l,C,rfl⟩:=d;exact⟨g,x,rfl,o g (.head _) _ l,C.mono B.tup,rfl⟩
 |.dm M,s,N,d,o=>by
  obtain⟨g,x,rfl,l,C,rfl⟩:=d;exact⟨g,x,rfl,o g (.head _) _ l,C.mono B.tup,rfl⟩
 |.aL M,s,N,d,o=>by
  obtain⟨g,x,rfl,l,C,rfl⟩:=d;exact⟨g,x,rfl,o g (.head _) _ l,C.mono B.tup,rfl⟩
 |.hg E,s,N,d,o=>by
  obtain⟨g,x,SV,rfl,l,C,rfl⟩:=d;exact⟨g,x,SV,rfl,o g (.head _) _ l,di.mono B C λc a=>o c<|.tail _ a,rfl⟩
 |.u0 SY E,s,N,d,o=>by
  obtain⟨g,x,SV,rfl,l,b,C,rfl⟩:=d;exact⟨g,x,SV,rfl,o g (.head _) _ l,b,di.mono B C λc a=>o c<|.tail _ a,rfl⟩
 |.ph E,s,N,d,o=>by
  obtain⟨g,x,rfl,l,C⟩:=d;exact⟨g,x,rfl,B.tup g x l,di.mono B C o⟩
 |.obj az S E,s,N,d,o=>by
  obtain⟨g,z,aA,SV,rfl,l,b,C,rfl⟩:=d;exact⟨g,z,aA,SV,rfl,o g (.head _) _ l,b,di.mono B C λc a=>o c<|.tail _ a,rfl⟩
theorem di.mono{h R:au}(B:eO h R):∀{E:List aj}{T:List as}{N:List ai},di h E T N->(∀g∈N,∀m,h g=Z m->R g=Z m)->di R E T N
 |[],T,N,d,_=>d
 |k::E,T,N,d,o=>by
  obtain⟨s,r,S6,Tg,rfl,l,C,rfl⟩:=d;exact⟨s,r,S6,Tg,rfl,cn.mono B l λg a=>o g<|dI _ a,di.mono B C λg a=>o g<|dH _ a,rfl⟩
end
def gn(h:au)(g:ai):Prop:=∃m,h g=Z m/\(∀x,m≠.tup x)/\∀n I,m≠.de n I
mutual
theorem cn.chg{h:au}:∀{k:aj}{s:as}{N:List ai},cn h k s N->∀g∈N,gn h g
 |.im k,s,N,d,g,e=>by rw[d.2]at e;cases e
 |.dy,s,N,d,g,e=>by rw[show N=[] from d]at e;cases e
 |.cO E,s,N,d,c,b=>by
  obtain⟨g,x,m,rfl,l,C,rfl⟩:=d;cases b
 |.lst E,s,N,d,c,b=>by
  obtain⟨g,x,rfl,l,C,rfl⟩:=d;rw[bW.mp b];exact⟨_,l,(λ_ a=>by cases a),(λ_ Y a=>by cases a)⟩
 |.dm M,s,N,d,c,b=>by
  obtain⟨g,x,rfl,l,C,rfl⟩:=d;rw[bW.mp b];exact⟨_,l,(λ_ a=>by cases a),(λ_ Y a=>by cases a)⟩
 |.aL M,s,N,d,c,b=>by
  obtain⟨g,x,rfl,l,C,rfl⟩:=d;rw[bW.mp b];exact⟨_,l,(λ_ a=>by cases a),(λ_ Y a=>by cases a)⟩
 |.hg E,s,N,d,c,b=>by
  obtain⟨g,x,SV,rfl,l,C,rfl⟩:=d;rcases bI.mp b with rfl|b
  ·exact⟨_,l,(λ_ a=>by cases a),(λ_ Y a=>by cases a)⟩
  ·exact di.chg C c b
 |.u0 SY E,s,N,d,c,b=>by
  obtain⟨g,x,SV,rfl,l,f,C,rfl⟩:=d;rcases bI.mp b with rfl|b
  ·exact⟨_,l,(λ_ a=>by cases a),(λ_ Y a=>by cases a)⟩
  ·exact di.chg C c b
 |.ph E,s,N,d,c,b=>by
  obtain⟨g,x,rfl,l,C⟩:=d;exact di.chg C c b
 |.obj az S E,s,N,d,c,b=>by
  obtain⟨g,z,aA,SV,rfl,l,f,C,rfl⟩:=d;rcases bI.mp b with rfl|b
  ·exact⟨_,l,(λ_ a=>by cases a),(λ_ Y a=>by cases a)⟩
  ·exact di.chg C c b
theorem di.chg{h:au}:∀{E:List aj}{T:List as}{N:List ai},di h E T N->∀g∈N,gn h g
 |[],T,N,d,g,a=>by rw[d.2]at a;cases a
 |k::E,T,N,d,g,a=>by
  obtain⟨s,r,S6,Tg,rfl,l,C,rfl⟩:=d;rcases cx.mp a with a|a
  ·exact cn.chg l g a
  ·exact di.chg C g a
end
theorem di.length:∀{E:List aj}{T:List as}{N:List ai},di h E T N->E.length=T.length
 |[],T,N,d=>by rw[d.1];rfl
 |k::E,T,N,d=>by
  obtain⟨s,r,S6,Tg,rfl,l,C,rfl⟩:=d;rw[c7,c7,C.length]
theorem bu.length:∀{E:List ab}{T:List as},bu h E T->E.length=T.length
 |[],T,d=>by rw[show T=[] from d];rfl
 |k::E,T,d=>by
  obtain⟨s,r,rfl,l,C⟩:=d;rw[c7,c7,C.length]
def mf(h:au):Option aj->Option as->List ai->Prop
 |none,_,N=>N=[]
 |some k,e,N=>∃s,e=Z s/\cn h k s N
def bo(h:au):aU->St->List ai->Prop
 |[],y,N=>y=[]/\N=[]
 |m::w,y,N=>∃e r S6 Tg,y=e::r/\mf h m e S6/\bo h w r Tg/\N=S6++Tg
structure bd(h:au)(N:List ai)(R:au)(Ti:List ai):Prop where
 keep:∀g m,h g=Z m->g∉N->R g=Z m
 sub:∀g∈Ti,g∈N\/h g=X
 ah:Ti.Nodup
 tup:eO h R
 grow:∀g m,h g=Z m->∃Tq,R g=Z Tq
theorem mf.mono(B:eO h R):∀{m:Option aj}{e:Option as}{N:List ai},mf h m e N->(∀g∈N,∀m,h g=Z m->R g=Z m)->mf R m e N
 |none,_,_,d,_=>d
 |some k,e,N,d,o=>by
  obtain⟨s,rfl,d⟩:=d;exact⟨s,rfl,d.mono B o⟩
theorem bo.mono{h R:au}(B:eO h R):∀{w:aU}{y:St}{N:List ai},bo h w y N->(∀g∈N,∀m,h g=Z m->R g=Z m)->bo R w y N
 |[],y,N,d,_=>d
 |m::w,y,N,d,o=>by
  obtain⟨e,r,S6,Tg,rfl,l,C,rfl⟩:=d;exact⟨e,r,S6,Tg,rfl,l.mono B λg a=>o g<|dI _ a,bo.mono B C λg a=>o g<|dH _ a,rfl⟩
theorem mf.chg:∀{m:Option aj}{e:Option as}{N:List ai},mf h m e N->∀g∈N,gn h g
 |none,_,N,d,g,a=>by rw[show N=[] from d]at a;cases a
 |some k,e,N,d,g,a=>by
  obtain⟨s,rfl,d⟩:=d;exact d.chg g a
theorem bo.chg{h:au}:∀{w:aU}{y:St}{N:List ai},bo h w y N->∀g∈N,gn h g
 |[],y,N,d,g,a=>by rw[d.2]at a;cases a
 |m::w,y,N,d,g,a=>by
  obtain⟨e,r,S6,Tg,rfl,l,C,rfl⟩:=d;rcases cx.mp a with a|a
  ·exact l.chg g a
  ·exact bo.chg C g a
theorem bo.len{h:au}:∀{w:aU}{y:St}{N:List ai},bo h w y N->w.length=y.length
 |[],y,N,d=>by rw[d.1];rfl
 |m::w,y,N,d=>by
  obtain⟨e,r,S6,Tg,rfl,l,C,rfl⟩:=d;rw[c7,c7,bo.len C]
noncomputable def aj.dJ:aj->Bool
 |.im _=>aa
 |.cO _=>aa
 |_=>al
theorem cn.dJ(d:cn h k s N)(q:k.dJ=aa):N=[]:=by
 cases k with
 |im k=>exact d.2
 |cO E=>obtain⟨g,x,m,rfl,l,C,rfl⟩:=d;rfl
 |_=>cases q
theorem bo.out{h:au}:∀{w:aU}{y:St}{N:List ai}{b:Nat}{k:aj},bo h w y N->w[b]?=Z (Z k)->∃s S6 Tg,y[b]?=Z (Z s)/\cn h k s S6/\bo h (w.set b<|Z .dy) y Tg/\(Tg++S6).Perm N
 |[],y,N,b,k,d,a=>by simp at a
 |m::w,y,N,0,k,d,a=>by
  obtain⟨e,r,S6,Tg,rfl,l,C,rfl⟩:=d;simp at a;subst a;obtain⟨s,rfl,l⟩:=l;exact⟨s,S6,Tg,rfl,l,⟨Z s,r,[],Tg,rfl,⟨s,rfl,rfl⟩,C,rfl⟩,cW⟩
 |m::w,y,N,b+1,k,d,a=>by
  obtain⟨e,r,S6,Tg,rfl,l,C,rfl⟩:=d;obtain⟨s,f,c,g,Tc,TE,i⟩:=bo.out (b:=b) C (by simpa using a);refine⟨s,f,S6++c,by simpa using g,Tc,⟨e,r,S6,c,rfl,l,TE,rfl⟩,?_⟩;rw[a_];exact dL _ i
theorem bo.put{h:au}:∀{w:aU}{y:St}{N:List ai}{b:Nat}{k:aj}{s:as}{SV:List ai},bo h w y N->cn h k s SV->b<w.length->∃S6 Tg,bo h (w.set b<|Z k) (y.set b<|Z s) S6/\(S6++Tg).Perm (N++SV)
 |[],y,N,b,k,s,SV,d,D,H=>by simp at H
 |m::w,y,N,0,k,s,SV,d,D,H=>by
  obtain⟨e,r,S6,Tg,rfl,l,C,rfl⟩:=d;refine⟨SV++Tg,S6,⟨Z s,r,SV,Tg,rfl,⟨s,rfl,D⟩,C,rfl⟩,?_⟩;refine cW.trans ?_;rw[a_];exact dL _ cW
 |m::w,y,N,b+1,k,s,SV,d,D,H=>by
  obtain⟨e,r,S6,Tg,rfl,l,C,rfl⟩:=d;obtain⟨a,c,f,Tc⟩:=bo.put (b:=b) C D (by simpa using H);refine⟨S6++a,c,⟨e,_,S6,a,rfl,l,f,rfl⟩,?_⟩;rw[a_,a_];exact dL _ Tc
theorem bo.dJ{b:Nat}(d:bo h w y N)(a:w[b]?=Z (Z k))(q:k.dJ=aa):∃s,y[b]?=Z (Z s)/\cn h k s []:=by
 obtain⟨s,S6,Tg,c,Tc,Y⟩:=d.out a;obtain rfl:=Tc.dJ q;exact⟨s,c,Tc⟩
theorem Nn{b:Nat}(d:y[b]?=Z (Z s)):y.set b (Z s)=y:=by
 refine oa λu=>?_;by_cases a:b=u
 ·subst a;rw[d,uq (fw.mp d).1]
 ·rw[ni a]
theorem bo.back{b:Nat}(d:bo h w y N)(D:cn h k s SV)(a:y[b]?=Z (Z s)):∃S6 Tg,bo h (w.set b<|Z k) y S6/\(S6++Tg).Perm (N++SV):=by
 have H:b<w.length:=by rw[d.len];exact (fw.mp a).1
 obtain⟨S6,Tg,l,C⟩:=d.put (b:=b) D H;rw[Nn a]at l;exact⟨S6,Tg,l,C⟩
theorem eO.of(P:rP h R)(J:∀g m I,h g=Z (.de m I)->R g=Z (.de m I)):eO h R:=⟨⟨P,J⟩,J⟩
theorem PM(h:au):eO h h:=⟨⟨λ_ Y a=>a,λ_ Y Y a=>a⟩,λ_ Y Y a=>a⟩
theorem eO.trans(g:eO h SU)(c:eO SU S5):eO h S5:=⟨⟨λe x a=>c.tup.t e x<|g.tup.t e x a,λe m I a=>c.de e m I<|g.de e m I a⟩,λe m I a=>c.de e m I<|g.de e m I a⟩
theorem bd.refl(d:Ti.Nodup)(j:∀g∈Ti,g∈N):bd h N h Ti:=⟨λ_ Y a Y=>a,λg b=>.inl<|j g b,d,PM h,λ_ m a=>⟨m,a⟩⟩
theorem bd.perm(d:N.Nodup)(n:Ti.Perm N):bd h N h Ti:=bd.refl ((n.nodup_iff).mpr d) λg a=>n.mem_iff.mp a
theorem bd.trans(g:bd h N SU (S6++SQ))(c:bd SU S6 S5 Tg)(j:∀e∈SQ,gn SU e):bd h N S5 (Tg++SQ):=by
 have ah:=cF.mp g.ah;have k:∀e∈Tg,e∉SQ:=λe b i=>by
  rcases c.sub e b with d|d
  ·exact ah.2.2 e d e i rfl
  ·obtain⟨m,a,Y⟩:=j e i;rw[a]at d;cases d
 refine⟨λe m a b=>?_,λe b=>?_,cF.mpr ⟨c.ah,ah.2.1,λe b t n a=>k e b<|a ▸ n⟩,g.tup.trans c.tup,λe m a=>let ⟨Tq,f⟩:=g.grow e m a;c.grow e Tq f⟩
 ·refine c.keep e m (g.keep e m a b) λl=>?_;rcases g.sub e (dI _ l) with d|d
  ·exact b d
  ·rw[a]at d;cases d
 ·rcases cx.mp b with b|b
  ·rcases c.sub e b with d|d
   ·exact g.sub e (dI _ d)
   ·refine .inr ?_;cases a:h e with
    |none=>rfl
    |some m=>
     obtain⟨Tq,f⟩:=g.grow e m a;rw[f]at d;cases d
  ·exact g.sub e (dH _ b)
theorem cG.tupS(j:cG h R):eO h R:=⟨⟨λg x a=>j g _ a,λg m I a=>j g _ a⟩,λg m I a=>j g _ a⟩
theorem Dc{g c:ai}{m I:fM}(a:h c=Z m)(d:h g=X):L2.upd h g I c=Z m:=by rw[cB (hh a d)];exact a
theorem cG.upd(j:cG h R){g:ai}{m:fM}(d:R g=X):cG h (L2.upd R g m):=λc I a=>Dc (j c I a) d
abbrev av(Ta:Type):=aU->Option (Ta×aU)
variable{Uk:av aj}{TX o:av Bool}
inductive bl where
 | aW (b:Nat)
 | b8 (k:aj)
variable{TI TT:av bl}{J:av (List bl)}
noncomputable def cV(w:aU):bl->Option aj
 |.aW b=>(w[b]?).getD X
 |.b8 k=>Z k
def hw(h:au)(y:St):bl->as->List ai->Prop
 |.aW b,s,SQ=>y[b]?=Z (Z s)/\SQ=[]
 |.b8 k,s,SQ=>cn h k s SQ
noncomputable def l3(J:av aj):bR:=λy h A=>∃w N r S4,bo h w y N/\N.Nodup/\J w=Z (r,S4)/\∀s R Ti SQ,bo R S4 y Ti->cn R r s SQ->bd h N R (Ti++SQ)->A s R
noncomputable def mD(J:av bl):bR:=λy h A=>∃w N r S4,bo h w y N/\N.Nodup/\J w=Z (r,S4)/\∀s R Ti SQ,bo R S4 y Ti->hw R y r s SQ->bd h N R (Ti++SQ)->A s R
noncomputable def ja(J:av Bool):d0:=λy h A=>∃w N c S4,bo h w y N/\N.Nodup/\J w=Z (c,S4)/\∀R Ti,bo R S4 y Ti->bd h N R Ti->A c R
def b4(f:aH)(a:a8)(J:av aj):Prop:=∀ ⦃n⦄,v3 f a (l3 J) n
def dd(f:aH)(a:a8)(J:av bl):Prop:=∀ ⦃n⦄,v3 f a (mD J) n
def g0(f:aH)(a:a8)(J:av Bool):Prop:=∀ ⦃n⦄,Dl f a (ja J) n
theorem dY{B Tk:bR}(d:bC f a B)(b:∀y h A,Tk y h A->B y h A):bC f a Tk:=λG j y h A Y c=>d G j y h A Y (b y h A c)
theorem sT{B:d0}(d:g2 f a B)(b:∀y h A,Tk y h A->B y h A):g2 f a Tk:=λG j y h A Y c=>d G j y h A Y (b y h A c)
theorem hw.mono{r:bl}(d:hw h y r s SQ)(B:eO h R)(o:∀g∈SQ,∀m,h g=Z m->R g=Z m):hw R y r s SQ:=by
 cases r with
 |aW b=>exact d
 |b8 k=>exact cn.mono B d o
theorem hw.chg{r:bl}(d:hw h y r s SQ):∀g∈SQ,gn h g:=by
 cases r with
 |aW b=>intro g a;rw[d.2]at a;cases a
 |b8 k=>exact cn.chg d
def eY(h:au)(k:aj)(s:as):Prop:=∃SQ,cn h k s SQ
theorem hw.read{r:bl}(d:hw h y r s SQ)(st:bo h w y N)(a:cV w r=Z k):eY h k s:=by
 cases r with
 |b8 TV=>cases a;exact⟨SQ,d⟩
 |aW b=>
  have e:w[b]?=Z (Z k):=by
   have:(w[b]?).getD X=Z k:=a;cases p:w[b]? with
   |none=>rw[p]at this;cases this
   |some m=>rw[p]at this;rw[show m=Z k from this]
  obtain⟨f,S6,Tg,c,Tc,Y⟩:=st.out e;rw[d.1]at c;cases c;exact⟨S6,Tc⟩
@[simp] noncomputable def dQ(b:Nat):av aj:=λw=>match w[b]? with
 |some (Z k)=>if k.dJ=aa then Z (k,w) else Z (k,w.set b<|Z .dy)
 |_=>X
noncomputable def aq(k:ab):av aj:=λw=>Z (.im k,w)
@[simp] noncomputable def af(b:Nat):av bl:=λw=>match w[b]? with
 |some (Z _)=>Z (.aW b,w)
 |_=>X
@[simp] noncomputable def V(J:av aj):av bl:=λw=>(J w).map λn=>(.b8 n.1,n.2)
section
variable{f:aH}
variable{b:Nat}
theorem f0(d:bC f a (lq b)):b4 f a (dQ b):=by
 refine dY d λy h A e=>?_;obtain⟨w,N,r,S4,st,ah,c,p⟩:=e;unfold dQ at c;split at c
 ·rename_i k hd;split at c
  ·rename_i g;cases c;obtain⟨s,l,C⟩:=st.dJ hd g;exact⟨s,l,p s h N [] st C (by rw[bU];exact bd.perm ah (List.Perm.refl _))⟩
  ·cases c;obtain⟨s,S6,Tg,l,C,i,j⟩:=st.out hd;exact⟨s,l,p s h Tg S6 i C<|bd.perm ah j⟩
 ·cases c
theorem PJ(d:bC f a (lq b)):dd f a (af b):=by
 refine dY d λy h A e=>?_;obtain⟨w,N,r,S4,st,ah,c,p⟩:=e;unfold af at c;split at c
 ·rename_i k hd;cases c;obtain⟨s,S6,Tg,l,C,g,i⟩:=st.out hd;exact⟨s,l,p s h N [] st ⟨l,rfl⟩ (by rw[bU];exact bd.perm ah (List.Perm.refl _))⟩
 ·cases c
theorem aK{J:av aj}(d:b4 f a J):dd f a (V J):=by
 refine dY d λy h A c=>?_;obtain⟨w,N,r,S4,st,ah,b,p⟩:=c;unfold V at b;obtain⟨⟨TG,z⟩,l,C⟩:=ch.mp b;cases C;exact⟨w,N,TG,_,st,ah,l,p⟩
theorem oT{k:ab}(d:bC f a (mC s))(hd:∀h,cq h k s):b4 f a (aq k):=by
 refine dY d λy h A b=>?_;obtain⟨w,N,r,S4,st,ah,c,p⟩:=b;cases c;exact p s h N [] st ⟨hd h,rfl⟩ (by rw[bU];exact bd.perm ah (List.Perm.refl _))
theorem fE{b:Int}{u S1}:b4 f (.Constant (.int b) u S1) (aq<|.int b):=oT Oz λ_=>rfl
theorem gg{c:Bool}{u S1}:b4 f (.Constant (.bool c) u S1) (aq<|.ax c):=oT JI λ_=>rfl
theorem o5{u S1}:b4 f (.Constant .none u S1) (aq .aR):=oT PC λ_=>rfl
theorem tr{u S1}:b4 f (.Constant (.str e) u S1) (aq<|.str e):=oT E8 λ_=>rfl
theorem LS{z M:aU}{e t:bl}{SK:as->as->au->Prop}(st:bo h w y N)(ah:N.Nodup)(c:TT w=Z (e,z))(j:TI z=Z (t,M))(o:∀s I R Ti b bO,bo R M y Ti->hw R y e s b->hw R y t I bO->bd h N R ((Ti++bO)++b)->SK s I R):mD TT y h λs SU=>mD TI y SU λI S5=>SK s I S5:=by
 refine⟨w,N,e,z,st,ah,c,λs SU S6 b k Th f=>⟨z,S6,t,M,k,(cF.mp f.ah).1,j,λI S5 Tg bO l TM i=>?_⟩⟩;refine o s I S5 Tg b bO l (Th.mono i.tup λg c m a=>i.keep g m a λd=>?_) TM (f.trans i Th.chg);exact (cF.mp f.ah).2.2 g d g c rfl
theorem bd.new{B:List ai}(g:bd h N SU (S6++SQ))(j:cG SU S5)(ah:B.Nodup)(d:∀e∈B,SU e=X)(q:∀e∈S6,gn SU e):bd h N S5 (S6++B):=by
 refine⟨λe m a b=>j _ _<|g.keep e m a b,λe b=>?_,cF.mpr ⟨(cF.mp g.ah).1,ah,λe b t f a=>?_⟩,g.tup.trans j.tupS,λe m a=>let ⟨Tq,c⟩:=g.grow e m a;⟨Tq,j _ _ c⟩⟩
 ·rcases cx.mp b with b|b
  ·exact g.sub e (dI _ b)
  ·refine .inr ?_;cases a:h e with
   |none=>rfl
   |some m=>
    obtain⟨Tq,c⟩:=g.grow e m a;rw[d e b]at c;cases c
 ·subst a;obtain⟨m,a,Y⟩:=q e b;rw[d e f]at a;cases a
def eA(f:aH)(P:ae->ae->dr ae)(Tx:aj->aj->Option aj):Prop:=
 dj f P λe t h A=>∃TD TA k,eY h TD e/\eY h TA t/\Tx TD TA=Z k/\∀s R SQ,cG h R->cn R k s SQ->SQ.Nodup->(∀g∈SQ,h g=X)->A s R
@[simp] def ap(Tx:aj->aj->Option aj)(TT TI:av bl):av aj:=λw=>(TT w).bind λn=>(TI n.2).bind λp=>(cV p.2 n.1).bind λTD=>(cV p.2 p.1).bind λTA=>(Tx TD TA).map λk=>(k,p.2)
theorem tT{Tx:aj->aj->Option aj}(d:l3 (ap Tx TT TI) y h A):
  mD TT y h λe SU=>mD TI y SU λt S5=>∃TD TA k,eY S5 TD e/\eY S5 TA t/\Tx TD TA=Z k/\∀s R SQ,cG S5 R->cn R k s SQ->SQ.Nodup->(∀g∈SQ,S5 g=X)->A s R:=by
 obtain⟨w,N,r,S4,st,ah,b,p⟩:=d;unfold ap at b;obtain⟨⟨e,z⟩,j,b⟩:=bB.mp b;obtain⟨⟨t,M⟩,n,b⟩:=bB.mp b;obtain⟨TD,l,b⟩:=bB.mp b;obtain⟨TA,C,b⟩:=bB.mp b;obtain⟨k,o,b⟩:=ch.mp b;cases b;refine LS st ah j n λs I S5 Tg x bO c Th TM i=>⟨TD,TA,_,Th.read c l,TM.read c C,o,λD q SQ f F u v=>?_⟩;rw[a_]at i;exact p D q Tg SQ (c.mono f.tupS λg Y m a=>f g m a) F (i.new f u v c.chg)
theorem fi{Tx:w0}(a:eA f (fW Tx) P)(b:dd f g TT)(e:dd f c TI):b4 f (.BinOp g Tx c S1) (ap P TT TI):=
 dY (Rm a b e) λ_ Y Y d=>tT d
variable{Tx:oo}
theorem ig(a:eA f (dG Tx) P)(b:dd f g TT)(e:dd f c TI)(h:nV Tx c=al):b4 f (.Compare g [Tx] [c] S1) (ap P TT TI):=
 dY (RP a b e h) λ_ Y Y d=>tT d
theorem Mh(a:ij f (λe t h A=>∃TD TA k,eY h TD e/\eY h TA t/\P TD TA=Z k/\∀s R SQ,cG h R->cn R k s SQ->SQ.Nodup->(∀g∈SQ,h g=X)->A s R))(b:dd f g TT)(i:dd f c TI)(SX:sS c):b4 f (.Subscript g c S1) (ap P TT TI):=
 dY (Ji a b i SX) λ_ Y Y d=>tT d
@[simp] noncomputable def kU:aj->Option Bool
 |.im (.ax c)=>Z c
 |_=>X
@[simp] def bg(J:av aj):av Bool:=λw=>(J w).bind λn=>(kU n.1).map λc=>(c,n.2)
theorem qh{c:Bool}(d:kU k=Z c):k=.im (.ax c):=by
 unfold kU at d;split at d
 ·cases d;rfl
 ·cases d
theorem d6(a:eA f (dG Tx) P)(b:dd f g TT)(d:dd f c TI)(e:nV Tx c=al):g0 f (.Compare g [Tx] [c] S1) (bg<|ap P TT TI):=by
 refine sT (Re a b d e) λy h A i=>?_;obtain⟨w,N,q,S4,st,ah,k,p⟩:=i;refine tT ⟨w,N,.im<|.ax q,S4,st,ah,?_,λs R Ti SQ m F j=>⟨q,F.1,p R Ti m (by rw[F.2,bU]at j;exact j)⟩⟩;obtain⟨n,l,C⟩:=bB.mp k;obtain⟨t,o,r⟩:=ch.mp C;cases r;rw[l,<-qh o]
@[simp] noncomputable def fD(J:av Bool):av Bool:=λw=>(J w).map λn=>(!n.1,n.2)
variable{J:av Bool}
theorem lG(d:g0 f g J):g0 f (.UnaryOp .Not g S1) (fD J):=by
 refine sT (OH d) λy h A a=>?_;obtain⟨w,N,q,S4,st,ah,b,p⟩:=a;obtain⟨n,l,C⟩:=ch.mp b;cases C;exact⟨w,N,n.1,_,st,ah,l,p⟩
@[simp] noncomputable def ei(J d:av Bool):av Bool:=λw=>(J w).bind λn=>if n.1=aa then d n.2 else Z (al,n.2)
@[simp] noncomputable def ga(J d:av Bool):av Bool:=λw=>(J w).bind λn=>if n.1=aa then Z (aa,n.2) else d n.2
variable{A:Bool->au->Prop}{d:av Bool}
theorem Gm(D:ja (ei J d) y h A):D_ (ja J) (ja d) y h A:=by
 obtain⟨w,N,q,S4,st,ah,f,p⟩:=D;obtain⟨⟨c,z⟩,l,C⟩:=bB.mp f;refine⟨w,N,c,z,st,ah,l,λSU S6 b a=>?_⟩;cases c with
 |true=>
  rw[aB rfl];rw[aB rfl]at C;exact⟨z,S6,q,S4,b,a.ah,C,λS5 Tg g i=>p S5 Tg g (by
   have:=bd.trans (SQ:=[]) (by rw[bU];exact a) i (λe j=>nomatch j)
   rwa [bU]at this)⟩
 |false=>
  rw[aG c9]at C ⊢;cases C;exact p SU S6 b a
theorem IJ(D:ja (ga J d) y h A):CA (ja J) (ja d) y h A:=by
 obtain⟨w,N,q,S4,st,ah,f,p⟩:=D;obtain⟨⟨c,z⟩,l,C⟩:=bB.mp f;refine⟨w,N,c,z,st,ah,l,λSU S6 b a=>?_⟩;cases c with
 |false=>
  rw[aG c9]at C ⊢;exact⟨z,S6,q,S4,b,a.ah,C,λS5 Tg g i=>p S5 Tg g (by
   have:=bd.trans (SQ:=[]) (by rw[bU];exact a) i (λe j=>nomatch j)
   rwa [bU]at this)⟩
 |true=>
  rw[aB rfl]at C ⊢;cases C;exact p SU S6 b a
def gU(f:aH)(a:a8)(J:av Bool):Prop:=∀ ⦃n⦄,B9 f a (ja J) n
theorem Dk{B:d0}(d:jz f a B)(b:∀y h A,Tk y h A->B y h A):jz f a Tk:=λc G j y h A Y e=>d c G j y h A Y (b y h A e)
theorem Fz(d:g0 f g J):gU f (.BoolOp .And [g] S1) J:=Q_ d
theorem m2(d:g0 f g J):gU f (.BoolOp .Or [g] S1) J:=O2 d
theorem t7(d:g0 f g J)(a:gU f (.BoolOp .And (c::r) S1) o):gU f (.BoolOp .And (g::c::r) S1) (ei J o):=Dk (MF d a) λ_ Y Y D=>Gm D
theorem l5(d:g0 f g J)(a:gU f (.BoolOp .Or (c::r) S1) o):gU f (.BoolOp .Or (g::c::r) S1) (ga J o):=Dk (H1 d a) λ_ Y Y D=>IJ D
theorem gU.lA(d:gU f a J):g0 f a J:=jz.pt d
@[simp] noncomputable def gS(J:av Bool):av aj:=λw=>(J w).map λn=>(.im<|.ax n.1,n.2)
theorem yP(d:b4 f a (gS J)):bC f a λy h A=>ja J y h λc R=>A (.ax c) R:=by
 refine dY d λy h A b=>?_;obtain⟨w,N,q,S4,st,ah,e,p⟩:=b;refine⟨w,N,.im<|.ax q,S4,st,ah,by unfold gS;rw[e];rfl,λs R Ti SQ g F j=>?_⟩;rw[show s=.ax q from F.1];exact p R Ti g (by rw[F.2,bU]at j;exact j)
theorem BZ(d:bC f a λy h A=>ja J y h λc R=>A (.ax c) R):b4 f a (gS J):=by
 refine dY d λy h A b=>?_;obtain⟨w,N,r,S4,st,ah,e,p⟩:=b;obtain⟨n,l,C⟩:=ch.mp e;cases C;exact⟨w,N,n.1,_,st,ah,l,λR Ti g j=>p _ R Ti [] g ⟨rfl,rfl⟩ (by rw[bU];exact j)⟩
theorem g6{J:av aj}(d:b4 f a J):b4 f a (gS<|bg J):=by
 refine dY d λy h A b=>?_;obtain⟨w,N,r,S4,st,ah,c,p⟩:=b;obtain⟨n,l,C⟩:=ch.mp c;obtain⟨e,g,i⟩:=bB.mp l;obtain⟨q,j,k⟩:=ch.mp i;cases k;cases C;exact⟨w,N,e.1,_,st,ah,g,by rw[qh j];exact p⟩
theorem Pg(d:b4 f g (gS J)):b4 f (.UnaryOp .Not g S1) (gS<|fD J):=by
 refine BZ (dY (Ow<|yP d) λy h A a=>?_);obtain⟨w,N,q,S4,st,ah,b,p⟩:=a;obtain⟨n,l,C⟩:=ch.mp b;cases C;exact⟨w,N,n.1,_,st,ah,l,λR Ti c j=>⟨_,rfl,p R Ti c j⟩⟩
theorem qw{Tx}{J:av aj}(d:b4 f g J):b4 f (.BoolOp Tx [g] S1) J:=Qn d
theorem j4(d:b4 f g (gS J))(a:b4 f (.BoolOp .And (c::r) S1) (gS o)):b4 f (.BoolOp .And (g::c::r) S1) (gS<|ei J o):=by
 refine BZ (dY (J3 (yP d)<|yP a) λy h A D=>?_);have:=Gm D;obtain⟨w,N,q,S4,st,ah,b,p⟩:=this;exact⟨w,N,q,S4,st,ah,b,λR Ti e j=>⟨q,rfl,p R Ti e j⟩⟩
@[simp] noncomputable def pV(q:av Bool)(g c:av aj):av aj:=λw=>(q w).bind λn=>if n.1=aa then g n.2 else c n.2
theorem bd.seq(g:bd h N SU S6)(c:bd SU S6 S5 Tg):bd h N S5 Tg:=by
 have:=bd.trans (SQ:=[]) (by rw[bU];exact g) c (λe a=>nomatch a)
 rwa [bU]at this
theorem PQ{TT TI:av aj}(i:g0 f q TX)(j:b4 f g TT)(k:b4 f c TI):b4 f (.IfExp q g c S1) (pV TX TT TI):=by
 refine dY (Ht i j k) λy h A m=>?_;obtain⟨w,N,r,S4,st,ah,n,p⟩:=m;obtain⟨⟨B,z⟩,l,C⟩:=bB.mp n;refine⟨w,N,B,z,st,ah,l,λSU S6 e a=>?_⟩;cases B with
 |true=>
  rw[aB rfl]at C ⊢;exact⟨z,S6,r,S4,e,a.ah,C,λs S5 Tg SQ b F d=>p s S5 Tg SQ b F<|a.seq d⟩
 |false=>
  rw[aG c9]at C ⊢;exact⟨z,S6,r,S4,e,a.ah,C,λs S5 Tg SQ b F d=>p s S5 Tg SQ b F<|a.seq d⟩
end
def kc(h:au)(y:St):List bl->List as->List ai->Prop
 |[],T,SQ=>T=[]/\SQ=[]
 |m::S3,T,SQ=>∃s r a bO,T=s::r/\hw h y m s a/\kc h y S3 r bO/\SQ=a++bO
noncomputable def f8(J:av (List bl)):eL:=λy h A=>∃w N r S4,bo h w y N/\N.Nodup/\J w=Z (r,S4)/\∀T R Ti SQ,bo R S4 y Ti->kc R y r T SQ->bd h N R (Ti++SQ)->A T R
def eR(f:aH)(Q:List a8)(J:av (List bl)):Prop:=∀ ⦃n⦄,FE f Q (f8 J) n
theorem Gx{B Tk:eL}(d:gG f Q B)(b:∀y h A,Tk y h A->B y h A):gG f Q Tk:=λS1 G j y h A Y a=>d S1 G j y h A Y (b y h A a)
noncomputable def am:av (List bl):=λw=>Z ([],w)
@[simp] noncomputable def ag(J:av bl)(d:av (List bl)):av (List bl):=λw=>(J w).bind λn=>(d n.2).map λp=>(n.1::p.1,p.2)
theorem bd.iT(j:bd h N R O)(n:O.Perm Tf):bd h N R Tf:=⟨j.keep,λg a=>j.sub g<|n.mem_iff.mpr a,(n.nodup_iff).mp j.ah,j.tup,j.grow⟩
theorem bd.less(j:bd h N R O)(n:(Tf++az).Perm O):bd h N R Tf:=
 ⟨j.keep,λg a=>j.sub g<|n.mem_iff.mp<|dI _ a,(cF.mp<|(n.nodup_iff).mpr j.ah).1,j.tup,j.grow⟩
section
variable{f:aH}
theorem i8:eR f [] am:=by
 refine Gx wy λy h A a=>?_;obtain⟨w,N,r,S4,st,ah,b,p⟩:=a;cases b;exact p [] h N [] st ⟨rfl,rfl⟩ (by rw[bU];exact bd.perm ah (List.Perm.refl _))
theorem fL{J:av bl}{d:av (List bl)}(j:dd f a J)(k:eR f Q d)(SX:bG (a::Q) f.env=(al,bQ a f.env)::bG Q f.env:=by rfl):eR f (a::Q) (ag J d):=by
 refine Gx (sZ j k SX) λy h A n=>?_;obtain⟨w,N,r,S4,st,ah,o,p⟩:=n;obtain⟨⟨e,z⟩,l,C⟩:=bB.mp o;obtain⟨⟨S2,M⟩,q,t⟩:=ch.mp C;cases t;refine⟨w,N,e,z,st,ah,l,λs SU S6 i u Th b=>⟨z,S6,S2,_,u,(cF.mp b.ah).1,q,λT S5 Tg bO v TM c=>?_⟩⟩;refine p (s::T) S5 Tg (i++bO) v ⟨s,T,i,bO,rfl,Th.mono c.tup λg x m a=>c.keep g m a λd=>?_,TM,rfl⟩ ((b.trans c Th.chg).iT ?_)
 ·exact (cF.mp b.ah).2.2 g d g x rfl
 ·rw[a_];exact dL _ cW
end
def fX(w:aU):List bl->Option (List aj)
 |[]=>Z []
 |m::S3=>(cV w m).bind λk=>(fX w S3).map λE=>k::E
def me(h:au):List aj->List as->Prop
 |[],T=>T=[]
 |k::E,T=>∃s r,T=s::r/\eY h k s/\me h E r
theorem kc.read{h:au}{w:aU}{y:St}{N:List ai}(st:bo h w y N):∀{S3:List bl}{T:List as}{SQ:List ai}{E:List aj},kc h y S3 T SQ->fX w S3=Z E->me h E T
 |[],_,_,_,d,a=>by cases a;exact d.1
 |m::S3,_,_,_,d,a=>by
  obtain⟨s,r,g,bO,rfl,l,C,rfl⟩:=d;obtain⟨k,b,c⟩:=bB.mp a;obtain⟨E,e,f⟩:=ch.mp c;cases f;exact⟨s,r,rfl,l.read st b,kc.read st C e⟩
def dZ:List bl->aU->Option (List aj×aU)
 |[],w=>Z ([],w)
 |.b8 k::S3,w=>(dZ S3 w).map λn=>(k::n.1,n.2)
 |.aW b::S3,w=>(dQ b w).bind λn=>(dZ S3 n.2).map λp=>(n.1::p.1,p.2)
theorem Dp{b:Nat}(st:bo h w y N)(d:dQ b w=Z (k,S4)):∃s S6 SQ,y[b]?=Z (Z s)/\cn h k s SQ/\bo h S4 y S6/\(S6++SQ).Perm N:=by
 unfold dQ at d;split at d
 ·rename_i a hd;split at d
  ·rename_i c;cases d;obtain⟨s,l,C⟩:=st.dJ hd c;exact⟨s,N,[],l,C,st,by rw[bU]⟩
  ·cases d;obtain⟨s,S6,Tg,l,C,e,f⟩:=st.out hd;exact⟨s,Tg,S6,l,C,e,f⟩
 ·cases d
theorem kF:(O++(Tf++az)).Perm (Tf++(O++az)):=by
 rw[<-a_,<-a_];exact eB _ cW
theorem kV{h:au}{y:St}:∀{S3:List bl}{T:List as}{SQ N:List ai}{w S4:aU}{E:List aj},bo h w y N->kc h y S3 T SQ->dZ S3 w=Z (E,S4)->∃S6 c,bo h S4 y S6/\di h E T c/\(S6++c).Perm (N++SQ)
 |[],_,_,N,_,_,_,st,d,a=>by
  cases a;exact⟨N,[],st,⟨d.1,rfl⟩,by rw[d.2]⟩
 |.b8 k::S3,_,_,N,w,_,_,st,d,a=>by
  obtain⟨s,r,c,bO,rfl,l,C,rfl⟩:=d;rw[dZ]at a;obtain⟨n,g,i⟩:=ch.mp a;cases i;obtain⟨S6,e,f,Tc,TE⟩:=kV (S4:=n.2) (E:=n.1) st C g;exact⟨S6,c++e,f,⟨s,r,c,e,rfl,l,Tc,rfl⟩,kF.trans<|(dL _ TE).trans kF⟩
 |.aW b::S3,_,_,N,w,_,_,st,d,a=>by
  obtain⟨s,r,c,bO,rfl,⟨l,rfl⟩,C,rfl⟩:=d;rw[dZ]at a;obtain⟨⟨k,z⟩,m,o⟩:=bB.mp a;obtain⟨n,g,i⟩:=ch.mp o;cases i;obtain⟨t,S6,e,f,Tc,TE,p⟩:=Dp st m;rw[l]at f;cases f;obtain⟨Tg,j,Tj,Tr,q⟩:=kV (S4:=n.2) (E:=n.1) TE C g;refine⟨Tg,e++j,Tj,⟨s,r,e,j,rfl,Tc,Tr,rfl⟩,kF.trans<|(dL _ q).trans ?_⟩;rw[<-a_];exact eB _ (cW.trans p)
@[simp] noncomputable def il:List bl->List aj->aU->aU
 |.aW b::S3,k::E,w=>il S3 E (match w[b]? with|some (Z .dy)=>w.set b (Z k)|_=>w)
 |.b8 _::S3,_::E,w=>il S3 E w
 |_,_,w=>w
theorem sw{h Uj:au}{y:St}:∀{S3:List bl}{E:List aj}{T:List as}{SQ N S0:List ai}{w:aU},bo h w y N->kc Uj y S3 T S0->di h E T SQ->∃S6 c,bo h (il S3 E w) y S6/\(S6++c).Perm (N++SQ)
 |[],E,_,SQ,N,_,w,st,_,_=>⟨N,SQ,by unfold il;exact st,List.Perm.refl _⟩
 |.b8 _::S3,[],_,SQ,N,_,w,st,_,_=>⟨N,SQ,by unfold il;exact st,List.Perm.refl _⟩
 |.aW _::S3,[],_,SQ,N,_,w,st,_,_=>⟨N,SQ,by unfold il;exact st,List.Perm.refl _⟩
 |.b8 _::S3,k::E,_,SQ,N,_,w,st,d,D=>by
  obtain⟨s,r,j,m,rfl,l,C,rfl⟩:=d;obtain⟨n,TG,c,bO,a,i,g,rfl⟩:=D;cases a;obtain⟨S6,e,f,Tc⟩:=sw (w:=w) st C g;refine⟨S6,c++e,by rw[il];exact f,kF.trans<|(dL _ Tc).trans kF⟩
 |.aW b::S3,k::E,_,SQ,N,_,w,st,d,D=>by
  obtain⟨s,r,j,m,rfl,⟨l,Y⟩,C,rfl⟩:=d;obtain⟨n,TG,c,bO,a,i,g,rfl⟩:=D;cases a;rw[il];split
  ·obtain⟨S6,SV,f,Tc⟩:=st.back i l;obtain⟨Tg,e,Tj,Tr⟩:=sw f C g;refine⟨Tg,e++SV,Tj,?_⟩;rw[<-a_,<-a_];refine (eB _ Tr).trans ?_;rw[a_];refine (dL _ cW).trans ?_;rw[<-a_];exact eB _ Tc
  ·obtain⟨S6,e,f,Tc⟩:=sw st C g;exact⟨S6,c++e,f,kF.trans<|(dL _ Tc).trans kF⟩
noncomputable def gL:List aj->Option (List ab)
 |[]=>Z []
 |.im k::E=>(gL E).map λr=>k::r
 |_::_=>X
@[simp] def qz(E:List aj):aj:=match gL E with
 |some is=>.im (.tup is)
 |none=>.ph E
@[simp] def om(E:List aj):aj:=match gL E with
 |some is=>.lst is
 |none=>.hg E
theorem xd{h:au}:∀{E:List aj}{T:List as}{SQ:List ai}{is:List ab},di h E T SQ->gL E=Z is->bu h is T/\SQ=[]
 |[],_,_,_,d,a=>by cases a;exact d
 |.im k::E,_,_,_,d,a=>by
  obtain⟨s,r,g,bO,rfl,⟨l,rfl⟩,C,rfl⟩:=d;rw[gL]at a;obtain⟨n,c,e⟩:=ch.mp a;cases e;obtain⟨f,rfl⟩:=xd C c;exact⟨⟨s,r,rfl,l,f⟩,rfl⟩
 |.dy::_,_,_,_,_,a=>by rw[gL]at a;cases a;all_goals (intro Y b;cases b)
 |.cO _::_,_,_,_,_,a=>by rw[gL]at a;cases a;all_goals (intro Y b;cases b)
 |.lst _::_,_,_,_,_,a=>by rw[gL]at a;cases a;all_goals (intro Y b;cases b)
 |.dm _::_,_,_,_,_,a=>by rw[gL]at a;cases a;all_goals (intro Y b;cases b)
 |.aL _::_,_,_,_,_,a=>by rw[gL]at a;cases a;all_goals (intro Y b;cases b)
 |.hg _::_,_,_,_,_,a=>by rw[gL]at a;cases a;all_goals (intro Y b;cases b)
 |.u0 _ _::_,_,_,_,_,a=>by rw[gL]at a;cases a;all_goals (intro Y b;cases b)
 |.ph _::_,_,_,_,_,a=>by rw[gL]at a;cases a;all_goals (intro Y b;cases b)
 |.obj _ _ _::_,_,_,_,_,a=>by rw[gL]at a;cases a;all_goals (intro Y b;cases b)
@[simp] def bv(J:av (List bl)):av aj:=λw=>(J w).bind λn=>(dZ n.1 n.2).bind λp=>if p.1.length<=100000 then Z (qz p.1,p.2) else X
@[simp] def dq(J:av (List bl)):av aj:=λw=>(J w).bind λn=>(dZ n.1 n.2).bind λp=>if p.1.length<=100000 then Z (om p.1,p.2) else X
theorem Mu{E:List aj}{n:ai}(j:cG h R)(d:di h E T SQ)(a:R n=Z (.tup T)):∃B,cn R (qz E) (.ref n) B/\B=SQ:=by
 unfold qz;split
 ·rename_i is SJ;obtain⟨b,rfl⟩:=xd d SJ;exact⟨[],⟨⟨n,T,rfl,a,b.mono j.tupS.tup⟩,rfl⟩,rfl⟩
 ·exact⟨SQ,⟨n,T,rfl,a,d.mono j.tupS λg Y m p=>j g m p⟩,rfl⟩
theorem Mm{E:List aj}{n:ai}(j:cG h R)(d:di h E T SQ)(a:R n=Z (.lst T)):cn R (om E) (.ref n) (n::SQ):=by
 unfold om;split
 ·rename_i is SJ;obtain⟨b,rfl⟩:=xd d SJ;exact⟨n,T,rfl,a,b.mono j.tupS.tup,rfl⟩
 ·exact⟨n,T,SQ,rfl,a,d.mono j.tupS λg Y m p=>j g m p,rfl⟩
theorem ms(d:v<=100000):v<=sizeLine:=ed d (by decide)
theorem bd.add{h SU:au}{N O:List ai}{n:ai}{m:fM}(g:bd h N SU O)(a:SU n=X)(q:∀e∈O,gn SU e):bd h N (upd SU n m) (O++[n]):=by
 have j:cG SU (upd SU n m):=(cG.refl SU).upd a;have:=bd.new (SQ:=[]) (B:=[n]) (by rw[bU];exact g) j (er _ _) (λe b=>by rw[bW.mp b];exact a) q;exact this
theorem bd.same(g:bd h N SU O)(j:cG SU S5):bd h N S5 O:=
 ⟨λe m a b=>j _ _<|g.keep e m a b,g.sub,g.ah,g.tup.trans j.tupS,λe m a=>let ⟨Tq,c⟩:=g.grow e m a;⟨Tq,j _ _ c⟩⟩
section
variable{f:aH}
theorem ko{c}(d:eR f Q J):b4 f (.Tuple Q c S1) (bv J):=by
 refine dY (OS d) λy h A e=>?_;obtain⟨w,N,r,S4,st,ah,i,p⟩:=e;obtain⟨⟨S3,z⟩,l,C⟩:=bB.mp i;obtain⟨⟨E,M⟩,k,b⟩:=bB.mp C;refine⟨w,N,S3,z,st,ah,l,λT SU S6 D o Th q=>?_⟩;obtain⟨Tg,bO,s,F,Te⟩:=kV o Th k;split at b
 ·rename_i t;cases b;have u:T.length<=100000:=by rw[<-F.length];exact t
  refine⟨ms u,λn v=>?_⟩;have j:cG SU (upd SU n<|.tup T):=(cG.refl SU).upd v;obtain⟨B,x,rfl⟩:=Mu j F ec;exact p _ _ Tg B (s.mono j.tupS λg Y m a=>j g m a) x ((q.iT Te.symm).same j)
 ·cases b
theorem eD(d:eR f Q J):b4 f (.List Q S1) (dq J):=by
 refine dY (PO d) λy h A o=>?_;obtain⟨w,N,r,S4,st,ah,q,p⟩:=o;obtain⟨⟨S3,z⟩,l,C⟩:=bB.mp q;obtain⟨⟨E,M⟩,s,c⟩:=bB.mp C;refine⟨w,N,S3,z,st,ah,l,λT SU S6 D t Th u=>?_⟩;obtain⟨Tg,bO,i,F,Te⟩:=kV t Th s;split at c
 ·rename_i v;cases c;have x:T.length<=100000:=by rw[<-F.length];exact v
  refine⟨ms x,λn k=>?_⟩;have j:cG SU (upd SU n<|.lst T):=(cG.refl SU).upd k;have B:=Mm j F (n:=n) ec;refine p _ _ Tg (n::bO) (i.mono j.tupS λg Y m a=>j g m a) B (((u.iT Te.symm).add k λe b=>?_).iT ?_)
  ·rcases cx.mp b with b|b
   ·exact i.chg e b
   ·exact F.chg e b
  ·rw[a_];exact dL _ cW
 ·cases c
def gQ(f:aH)(P:ae)(Tx:List aj->Option aj):Prop:=
 eu f P λx h A=>∃E k,me h E x/\Tx E=Z k/\∀s R SQ,cG h R->cn R k s SQ->SQ.Nodup->(∀g∈SQ,h g=X)->A s R
@[simp] def bn(Tx:List aj->Option aj)(J:av (List bl)):av aj:=λw=>(J w).bind λn=>(fX n.2 n.1).bind λE=>(Tx E).map λk=>(k,n.2)
theorem Gl(d:l3 (bn Tx J) y h A):
  f8 J y h λx SU=>∃E k,me SU E x/\Tx E=Z k/\∀s R SQ,cG SU R->cn R k s SQ->SQ.Nodup->(∀g∈SQ,SU g=X)->A s R:=by
 obtain⟨w,N,r,S4,st,ah,e,p⟩:=d;obtain⟨⟨S3,z⟩,l,C⟩:=bB.mp e;obtain⟨E,f,i⟩:=bB.mp C;obtain⟨k,j,n⟩:=ch.mp i;cases n;refine⟨w,N,S3,z,st,ah,l,λT SU S6 u b Th o=>⟨E,_,Th.read b f,j,λs S5 SQ c F q t=>?_⟩⟩;exact p s S5 S6 SQ (b.mono c.tupS λg Y m a=>c g m a) F (o.new c q t b.chg)
theorem Mi{id:String}(b:gQ f (.builtin id) Tx)(c:dU f e)(g:f.aw e=X)(h:eE e=Z (.builtin id))(i:eR f (a::Q) J)(j:e ≠ "__name__" := by decide)(k:(e==("__debug__" : ay))=al:=by decide)(l:bG (a::Q) f.env=(al,bQ a f.env)::bG Q f.env:=by rfl)(m:(eJ S1<|bG Q f.env).any (·.1)=al:=by rfl):
  b4 f (.Call (.Name e n) (a::Q) [] S1) (bn Tx J):=dY (BI b c g h i j k l m) λ_ Y Y d=>Gl d
theorem hn{L:String}(b:gQ f (.type L) Tx)(c:dU f e)(g:f.aw e=X)(h:eE e=Z (.type L))(i:eR f (a::Q) J)(j:e ≠ "__name__" := by decide)(k:(e==("__debug__" : ay))=al:=by decide)(l:bG (a::Q) f.env=(al,bQ a f.env)::bG Q f.env:=by rfl)(m:(eJ S1<|bG Q f.env).any (·.1)=al:=by rfl):
  b4 f (.Call (.Name e n) (a::Q) [] S1) (bn Tx J):=dY (Rb b c g h i j k l m) λ_ Y Y d=>Gl d
abbrev cN:=List aj->Option (aj×List aj)
noncomputable def jm(v:Nat)(SV:cN):kr:=λT h A Y=>T.length=v/\∃E N r Ua,di h E T N/\N.Nodup/\SV E=Z (r,Ua)/\∀s R SQ B,cn R r s SQ->di R Ua T B->bd h N R (SQ++B)->A s R
@[simp] def bq(v:Nat)(SV:cN)(J:av (List bl)):av aj:=λw=>(J w).bind λn=>if n.1.length=v then (dZ n.1 n.2).bind λp=>(SV p.1).map λr=>(r.1,il n.1 r.2 p.2) else X
theorem kc.length{h:au}{y:St}:∀{S3:List bl}{T:List as}{SQ:List ai},kc h y S3 T SQ->S3.length=T.length
 |[],_,_,d=>by rw[d.1];rfl
 |m::S3,_,_,d=>by
  obtain⟨s,r,a,bO,rfl,l,C,rfl⟩:=d;rw[c7,c7,kc.length C]
theorem F5{SV:cN}{SM:fA}(d:l3 (bq v SV J) y h A):yb (jm v SV) [] SM (f8 J) y h A:=by
 obtain⟨w,N,r,S4,st,ah,j,p⟩:=d;obtain⟨⟨S3,z⟩,l,C⟩:=bB.mp j;split at C
 ·rename_i k;obtain⟨⟨E,M⟩,n,o⟩:=bB.mp C;obtain⟨⟨TG,Ua⟩,q,t⟩:=ch.mp o;cases t;refine⟨w,N,S3,z,st,ah,l,λT SU S6 U u Th x=>?_⟩;obtain⟨Tg,bO,f,F,Te⟩:=kV u Th n;have b:=x.iT (Te.symm.trans cW);rw[bU];refine⟨by rw[<-Th.length];exact k,E,bO,_,Ua,F,(cF.mp b.ah).1,q,λs i SQ B D G c=>?_⟩;have H:=b.trans c f.chg;have I:∀g∈Tg,g∉bO:=λg e L=>(cF.mp b.ah).2.2 g L g e rfl;have O:bo i M y Tg:=f.mono c.tup λg e m a=>c.keep g m a (I g e);obtain⟨P,Q,R,S⟩:=sw O Th G;refine p s i P SQ R D (H.less (az:=Q) ?_);refine List.Perm.trans ?_ cW;rw[a_];refine (dL _ cW).trans ?_;rw[<-a_];refine (eB _ S).trans ?_;rw[a_];exact dL _ cW
 ·cases C
end
section
variable{f:aH}
variable{o:Nat}
theorem Jf{SV:cN}{P:ai}(N:gx f.prog f.w f.K f.aw f.base hA o P fd SO (jm v SV))(b:dV o f.A)(c:dU f e)(g:f.aw e=Z (.ref P))(h:PySem.W.keepIn f.K (.ref P)=aa)(i:hv f.K fd SO [])(j:eR f (a::Q) J)(k:(e==("__debug__" : ay))=al:=by decide)(l:bG (a::Q) f.env=(al,bQ a f.env)::bG Q f.env:=by rfl)(m:(eJ S1<|bG Q f.env).any (·.1)=al:=by rfl):
  b4 f (.Call (.Name e n) (a::Q) [] S1) (bq v SV J):=dY (K3 N b c g h i .nil Cq j k l m) λ_ Y Y d=>F5 d
inductive mG where
 | aZ|dO (k:aj)|cK|ca
abbrev bj:=aU->Option (mG×aU)
def cI(S8:List Nat)(y a:St):Prop:=a.length=y.length/\∀b∈S8,a[b]?=y[b]?
theorem cI.refl:cI S8 y y:=⟨rfl,λ_ Y=>rfl⟩
theorem cI.trans{a:St}(g:cI S8 y Ug)(c:cI S8 Ug a):cI S8 y a:=⟨c.1.trans g.1,λb SJ=>(c.2 b SJ).trans<|g.2 b SJ⟩
theorem cI.set{s:Option as}(d:u∉S8):cI S8 y (y.set u s):=⟨qY,λb SJ=>ni λa=>d (by rw[a];exact SJ)⟩
def q_(S8:List Nat)(SM:kn)(y:St)(h:au)(N:List ai)(S4:aU):mG->Prop
 |.aZ=>∀a R Ti,cI S8 y a->bo R S4 a Ti->bd h N R Ti->SM.aZ a R
 |.cK=>∀a R Ti,cI S8 y a->bo R S4 a Ti->bd h N R Ti->SM.cK a R
 |.ca=>∀a R Ti,cI S8 y a->bo R S4 a Ti->bd h N R Ti->SM.ca a R
 |.dO k=>∀s a R Ti SQ,cI S8 y a->bo R S4 a Ti->cn R k s SQ->bd h N R (Ti++SQ)->SM.dO s R
noncomputable def nM(S8:List Nat)(J:bj):eh:=λSM y h=>∃w N aN S4,bo h w y N/\N.Nodup/\J w=Z (aN,S4)/\q_ S8 SM y h N S4 aN
def fU(f:aH)(S8:List Nat)(st:bz)(J:bj):Prop:=∀ ⦃n⦄,Ad f st (nM S8 J) n
def g_(f:aH)(S8:List Nat)(F:List bz)(J:bj):Prop:=∀ ⦃n⦄,z9 f F (nM S8 J) n
variable{Tk:eh}
theorem iS{st:bz}{B:eh}(d:gD f st B)(b:∀SM y h,Tk SM y h->B SM y h):gD f st Tk:=λG j y h w Y a=>d G j y h w Y (b w y h a)
theorem np{st:List bz}{B:eh}(d:gm f st B)(b:∀SM y h,Tk SM y h->B SM y h):gm f st Tk:=λG j y h w Y a=>d G j y h w Y (b w y h a)
theorem q_.on{aN:mG}(d:q_ S8 SM y h N S4 aN)(TH:cI S8 y Ug)(j:bd h N SU S6):q_ S8 SM Ug SU S6 S4 aN:=by
 cases aN with
 |aZ=>exact λa R Ti P st SN=>d a R Ti (TH.trans P) st (j.seq SN)
 |cK=>exact λa R Ti P st SN=>d a R Ti (TH.trans P) st (j.seq SN)
 |ca=>exact λa R Ti P st SN=>d a R Ti (TH.trans P) st (j.seq SN)
 |dO k=>exact λs a R Ti SQ P st F SN=>d s a R Ti SQ (TH.trans P) st F (j.seq SN)
noncomputable def ee:bj:=λw=>Z (.aZ,w)
@[simp] noncomputable def a7(J d:bj):bj:=λw=>(J w).bind λn=>match n.1 with
 |.aZ=>d n.2
 |aN=>Z (aN,n.2)
theorem fH:g_ f S8 [] ee:=by
 refine np Nt λSM y h a=>?_;obtain⟨w,N,aN,S4,st,ah,b,p⟩:=a;cases b;exact p y h N cI.refl st (bd.perm ah<|List.Perm.refl _)
variable{J:bj}
theorem bY{st:bz}(d:fU f S8 st J):g_ f S8 [st] J:=QE d
theorem Q8{d:bj}(D:nM S8 (a7 J d) SM y h):Bb (nM S8 J) (nM S8 d) SM y h:=by
 obtain⟨w,N,aN,S4,st,ah,a,p⟩:=D;obtain⟨⟨b,z⟩,l,C⟩:=bB.mp a;cases b with
 |aZ=>exact⟨w,N,.aZ,z,st,ah,l,λe R Ti TH c j=>⟨z,Ti,aN,S4,c,j.ah,C,p.on TH j⟩⟩
 |cK=>cases C;exact⟨w,N,.cK,z,st,ah,l,p⟩
 |ca=>cases C;exact⟨w,N,.ca,z,st,ah,l,p⟩
 |dO k=>cases C;exact⟨w,N,.dO k,z,st,ah,l,p⟩
theorem bA{st:bz}{F:List bz}{d:bj}(l:fU f S8 st J)(C:g_ f S8 F d):g_ f S8 (st::F) (a7 J d):=np (qM l C) λ_ Y Y D=>Q8 D
noncomputable def Em:bj:=λ_=>X
theorem Mf{st:bz}:fU f S8 st Em:=iS LU λ_ _ _ ⟨_,_,_,_,_,_,d,_⟩=>by cases d
@[simp] noncomputable def ic(J:av aj):bj:=λw=>(J w).map λn=>(.aZ,n.2)
variable{J:av aj}
theorem kR(d:b4 f a J)(SX:lg a X S1.line f.env=pure al:=by rfl):fU f S8 (.Expr a S1) (ic J):=by
 refine iS (Jp d SX) λSM y h b=>?_;obtain⟨w,N,aN,S4,st,ah,c,p⟩:=b;obtain⟨⟨r,z⟩,l,C⟩:=ch.mp c;cases C;exact⟨w,N,r,_,st,ah,l,λs R Ti SQ e F j=>p y R Ti cI.refl e<|j.less<|List.Perm.refl _⟩
@[simp] noncomputable def cv(J:av aj):bj:=λw=>(J w).map λn=>(.dO n.1,n.2)
theorem c1(d:b4 f a J):fU f S8 (.Return (Z a) S1) (cv J):=by
 refine iS (Rr d) λSM y h b=>?_;obtain⟨w,N,aN,S4,st,ah,c,p⟩:=b;obtain⟨⟨r,z⟩,l,C⟩:=ch.mp c;cases C;exact⟨w,N,r,_,st,ah,l,λs R Ti SQ e F j=>p s y R Ti SQ cI.refl e F j⟩
@[simp] noncomputable def dB(q:av Bool)(g c:bj):bj:=λw=>(q w).bind λn=>if n.1=aa then g n.2 else c n.2
variable{TI:bj}
theorem fJ{g c:List bz}{TT:bj}(d:g0 f q TX)(e:g_ f S8 g TT)(i:g_ f S8 c TI):fU f S8 (.If q g c S1) (dB TX TT TI):=by
 refine iS (FZ d e i) λSM y h j=>?_;obtain⟨w,N,aN,S4,st,ah,k,p⟩:=j;obtain⟨⟨B,z⟩,l,C⟩:=bB.mp k;refine⟨w,N,B,z,st,ah,l,λSU S6 b a=>?_⟩;cases B with
 |true=>
  rw[aB rfl]at C ⊢;exact⟨z,S6,aN,S4,b,a.ah,C,p.on cI.refl a⟩
 |false=>
  rw[aG c9]at C ⊢;exact⟨z,S6,aN,S4,b,a.ah,C,p.on cI.refl a⟩
@[simp] noncomputable def bL(b:Nat)(J:av aj):bj:=λw=>(J w).bind λn=>if b<n.2.length then Z (.aZ,n.2.set b<|Z n.1) else X
variable{b:Nat}
theorem l_{L:Pos}(c:f.N.Nodup)(SJ:f.N[b]?=Z e)(d:Loc f.env.scope e)(g:b4 f a J)(i:b∉S8)(SX:lg a (Z<|.Name e L) S1.line f.env=pure al:=by rfl)(j:f.fn e=aa\/f.env.scope.names.lookup e=Z .local:=by first|exact .inl rfl|exact .inr rfl|assumption):fU f S8 (.Assign [.Name e L] a S1) (bL b J):=by
 refine iS (BB c SJ d g SX j) λSM y h k=>?_;obtain⟨w,N,aN,S4,st,ah,m,p⟩:=k;obtain⟨⟨r,z⟩,l,C⟩:=bB.mp m;split at C
 ·rename_i n;cases C;refine⟨w,N,r,_,st,ah,l,λs SU S6 SQ o F q=>?_⟩;obtain⟨Tg,bO,t,Te⟩:=o.put (b:=b) F n;exact p _ SU Tg (cI.set i) t (q.less Te)
 ·cases C
abbrev eX:=aj->aU->Option aU
noncomputable def xN(S8:List Nat)(J:eX):gr:=λs y h A=>∃w N k SQ S4,bo h w y N/\cn h k s SQ/\(N++SQ).Nodup/\J k w=Z S4/\∀a R Ti,cI S8 y a->bo R S4 a Ti->bd h (N++SQ) R Ti->A a R
def h1(f:aH)(S8:List Nat)(a:a8)(J:eX):Prop:=∀ ⦃n⦄,DR f a (xN S8 J) n
theorem yF{B Tk:gr}(d:jn f a B)(b:∀s y h A,Tk s y h A->B s y h A):jn f a Tk:=λG j y h e s A Y r c=>d G j y h e s A Y r (b e y h A c)
@[simp] noncomputable def bb(b:Nat):eX:=λk w=>if b<w.length then Z (w.set b<|Z k) else X
theorem eM(c:f.N.Nodup)(SJ:f.N[b]?=Z e)(d:Loc f.env.scope e)(g:b∉S8)(i:f.fn e=aa\/f.env.scope.names.lookup e=Z .local:=by first|exact .inl rfl|exact .inr rfl|assumption):h1 f S8 (.Name e S1) (bb b):=by
 refine yF (wz c SJ d i) λs y h A j=>?_;obtain⟨w,N,k,SQ,S4,st,F,ah,a,p⟩:=j;unfold bb at a;split at a
 ·rename_i l;cases a;obtain⟨Tg,bO,m,Te⟩:=st.put (b:=b) F l;exact p _ h Tg (cI.set g) m ((bd.perm ah<|List.Perm.refl _).less Te)
 ·cases a
noncomputable def Ln(S8:List Nat)(J:List aj->aU->Option aU):kh:=λT y h A=>∃w N E SQ S4,bo h w y N/\di h E T SQ/\(N++SQ).Nodup/\J E w=Z S4/\∀a R Ti,cI S8 y a->bo R S4 a Ti->bd h (N++SQ) R Ti->A a R
def sm(f:aH)(S8:List Nat)(Q:List a8)(J:List aj->aU->Option aU):Prop:=∀ ⦃n⦄,CW f Q (Ln S8 J) n
@[simp] noncomputable def ey:List aj->aU->Option aU
 |[],w=>Z w
 |_,_=>X
@[simp] noncomputable def cu(J:eX)(d:List aj->aU->Option aU):List aj->aU->Option aU
 |k::E,w=>(J k w).bind (d E)
 |_,_=>X
theorem An{B Tk:kh}(d:ns f Q B)(b:∀s y h A,Tk s y h A->B s y h A):ns f Q Tk:=λG j y h x T A Y r a=>d G j y h x T A Y r (b x y h A a)
theorem OY:sm f S8 [] ey:=by
 refine An EX λT y h A b=>?_;obtain⟨w,N,E,SQ,S4,st,F,ah,a,p⟩:=b;cases E with
 |cons k E=>cases a
 |nil=>
  cases a;exact⟨F.1,p y h N cI.refl st<|(bd.perm ah<|List.Perm.refl _).less<|List.Perm.refl _⟩
theorem Cs{J:eX}(l:h1 f S8 a J)(C:sm f S8 Q d)(SX:(fb (a::Q) f.env).map (·.2)=ho a f.env::(fb Q f.env).map (·.2):=by rfl):sm f S8 (a::Q) (cu J d):=by
 refine An (zu l C SX) λT y h A v=>?_;obtain⟨w,N,E,SQ,S4,st,F,ah,o,p⟩:=v;cases E with
 |nil=>cases o
 |cons k E=>
  obtain⟨s,r,i,bO,rfl,x,q,rfl⟩:=F;obtain⟨z,B,Tc⟩:=bB.mp (show (J k w).bind (d E)=Z S4 from o);have n:((N++i)++bO).Nodup:=by rw[a_];exact ah
  refine⟨s,r,rfl,w,N,k,i,z,st,x,(cF.mp n).1,B,λUg SU S6 TH D e=>?_⟩;have t:∀g∈bO,g∉N++i:=λg b j=>(cF.mp n).2.2 g j g b rfl;have G:di SU E r bO:=q.mono e.tup λg b m a=>e.keep g m a (t g b);have u:bd h (N++(i++bO)) SU (S6++bO):=by
   refine⟨λg m a b=>e.keep g m a λd=>b ?_,λg b=>?_,cF.mpr ⟨e.ah,(cF.mp n).2.1,λg b c j a=>?_⟩,e.tup,e.grow⟩
   ·rw[<-a_];exact dI _ d
   ·rcases cx.mp b with b|b
    ·rcases e.sub g b with d|d
     ·left;rw[<-a_];exact dI _ d
     ·exact .inr d
    ·left;rw[<-a_];exact dH _ b
   ·subst a;rcases e.sub g b with d|d
    ·exact t g j d
    ·obtain⟨m,a,Y⟩:=q.chg g j;rw[a]at d;cases d
  exact⟨z,S6,E,bO,S4,D,G,u.ah,Tc,λH S5 Tg I L M=>p H S5 Tg (TH.trans I) L<|u.seq M⟩
@[simp] noncomputable def el(v:Nat)(d:List aj->aU->Option aU):eX:=λk w=>match k with
 |.im (.tup is)=>if is.length=v then d (is.map .im) w else X
 |.ph E=>if E.length=v then d E w else X
 |_=>X
theorem A9{h:au}:∀{is:List ab}{T:List as},bu h is T->di h (is.map .im) T []
 |[],T,d=>⟨d,rfl⟩
 |k::is,T,d=>by
  obtain⟨s,r,rfl,l,C⟩:=d;exact⟨s,r,[],[],rfl,⟨l,rfl⟩,A9 C,rfl⟩
theorem Qw(c:f.calm=aa)(SX:sm f S8 Q d)(e:(fb Q f.env).length=v:=by rfl)(i:(fb Q f.env).findIdx? (·.1)=X:=by rfl):h1 f S8 (.Tuple Q o S1) (el v d):=by
 refine yF (Ml c SX e i) λs y h A j=>?_;obtain⟨w,N,k,SQ,S4,st,F,ah,a,p⟩:=j;unfold el at a;split at a
 ·rename_i is;split at a
  ·rename_i b;obtain⟨⟨g,x,rfl,l,C⟩,rfl⟩:=F;exact⟨g,x,rfl,b7.of l,by rw[<-C.length];exact b,w,N,_,[],S4,st,A9 C,ah,a,p⟩
  ·cases a
 ·rename_i E;split at a
  ·rename_i b;obtain⟨g,x,rfl,l,C⟩:=F;exact⟨g,x,rfl,b7.of l,by rw[<-C.length];exact b,w,N,_,SQ,S4,st,C,ah,a,p⟩
  ·cases a
 ·cases a
@[simp] noncomputable def eP(J:av aj)(d:eX):bj:=λw=>(J w).bind λn=>(d n.1 n.2).map λS4=>(.aZ,S4)
theorem hD{d:eX}(c:b4 f a J)(e:h1 f S8 To d)(SX:o1 [To] a S1.line f.env=pure al:=by rfl)(g:pG [To] a f.env=pure X:=by rfl)(l:(fb [To] f.env).map (·.2)=[ho To f.env]:=by rfl):fU f S8 (.Assign [To] a S1) (eP J d):=by
 refine iS (KR c e SX g l) λSM y h i=>?_;obtain⟨w,N,aN,S4,st,ah,j,p⟩:=i;obtain⟨⟨r,z⟩,g1,Tc⟩:=bB.mp j;obtain⟨M,TE,k⟩:=ch.mp Tc;cases k;exact⟨w,N,r,z,st,ah,g1,λs SU S6 SQ m F b=>⟨z,S6,r,SQ,_,m,F,b.ah,TE,λn R Ti TH o q=>p n R Ti TH o<|b.seq q⟩⟩
@[simp] def kq(b u:Nat)(J:av (List bl)):bj:=λw=>(J w).bind λn=>(dZ n.1 n.2).bind λp=>match p.1 with
 |[TD,TA]=>if b<p.2.length/\u<p.2.length then Z (.aZ,(p.2.set b<|Z TD).set u<|Z TA) else X
 |_=>X
theorem KJ{t:ay}{J:av (List bl)}{eH i pt S1:Pos}{L Tr j}(n:f.calm=aa)(o:f.N.Nodup)(SJ:f.N[b]?=Z e)(q:f.N[u]?=Z t)(v:b≠u)(x:f.env.scope.names.lookup e=Z .local)(A:f.env.scope.names.lookup t=Z .local)(B:eR f [g,c] J)(D:b∉S8)(G:u∉S8)(H:pG [.Tuple [.Name e eH,.Name t i] L pt] (.Tuple [g,c] Tr j) f.env=pure (Z [e,t]))(SX:o1 [.Tuple [.Name e eH,.Name t i] L pt] (.Tuple [g,c] Tr j) S1.line f.env=pure al:=by rfl):
  fU f S8 (.Assign [.Tuple [.Name e eH,.Name t i] L pt] (.Tuple [g,c] Tr j) S1) (kq b u J):=by
 refine iS (Nl n o SJ q v x A B H SX) λSM y h P=>?_;obtain⟨w,N,aN,S4,st,ah,Q,p⟩:=P;obtain⟨⟨S3,z⟩,l,C⟩:=bB.mp Q;obtain⟨⟨E,M⟩,R,d⟩:=bB.mp C;refine⟨w,N,S3,z,st,ah,l,λT SU S6 hd S Th U=>?_⟩;obtain⟨Tg,bO,be,F,Te⟩:=kV S Th R;dsimp only at d;split at d
 ·rename_i TD TA a;split at d
  ·rename_i k;cases d;obtain⟨s,r,O,Tf,rfl,bs,cl,rfl⟩:=F;obtain⟨I,TG,im,mb,rfl,co,⟨rfl,rfl⟩,rfl⟩:=cl;obtain⟨eq,m,ex,fd⟩:=be.put (b:=b) bs k.1;obtain⟨fn,f1,go,g1⟩:=ex.put (b:=u) co (by rw[qY];exact k.2);refine⟨s,I,rfl,p _ SU fn ((cI.set D).trans<|cI.set G) go<|(U.iT Te.symm).less (az:=f1++m) ?_⟩;rw[<-a_,bU,<-a_];refine (eB m g1).trans ?_;rw[a_];refine (dL eq cW).trans ?_;rw[<-a_];exact eB _ fd
  ·cases d
 ·cases d
noncomputable def jK(q:av Bool)(c:bj):Nat->bj
 |0=>λ_=>X
 |v+1=>λw=>(q w).bind λn=>if n.1=aa then (c n.2).bind λp=>match p.1 with
  |.aZ=>jK q c v p.2
  |.ca=>jK q c v p.2
  |.cK=>Z (.aZ,p.2)
  |.dO k=>Z (.dO k,p.2) else Z (.aZ,n.2)
theorem xr(v:Nat)(o:oP (aM f.prog f.w) f.A f.env f.ce)(r:g0 f q TX)(t:g_ f S8 T9 TI):fU f S8 (.While q T9 [] S1) (jK TX TI v):=by
 refine iS (QX o r t) λSM y h u=>?_;obtain⟨w,N,aN,S4,st,ah,x,p⟩:=u;refine⟨λi a R=>∃g Ti,bo R g a Ti/\cI S8 y a/\bd h N R Ti/\jK TX TI i g=Z (aN,S4),⟨v,w,N,st,cI.refl,bd.perm ah<|List.Perm.refl _,x⟩,?_⟩;rintro i Ug SU ⟨z,S6,C,j,c,D⟩;cases i with
 |zero=>cases D
 |succ i=>
  rw[jK]at D;obtain⟨⟨B,M⟩,E,l⟩:=bB.mp D;refine⟨z,S6,B,M,C,c.ah,E,λS5 Tg n e=>?_⟩;cases B with
  |false=>
   rw[aG c9]at l ⊢;cases l;exact p Ug S5 Tg j n (c.seq e)
  |true=>
   rw[aB rfl]at l ⊢;obtain⟨⟨P,U⟩,G,m⟩:=bB.mp l;refine⟨λa R=>∃g Ti,bo R g a Ti/\cI S8 y a/\bd h N R Ti/\jK TX TI i g=Z (aN,S4),λa R d=>⟨i,qV i,d⟩,M,Tg,P,U,n,e.ah,G,?_⟩;cases P with
   |aZ=>exact λa R Ti TH b SN=>⟨U,Ti,b,j.trans TH,(c.seq e).seq SN,m⟩
   |ca=>exact λa R Ti TH b SN=>⟨U,Ti,b,j.trans TH,(c.seq e).seq SN,m⟩
   |cK=>
    cases m;exact λa R Ti TH b SN=>p a R Ti (j.trans TH) b ((c.seq e).seq SN)
   |dO k=>
    cases m;exact λs a R Ti SQ TH b F SN=>p s a R Ti SQ (j.trans TH) b F ((c.seq e).seq SN)
structure lZ(Tt:e3)(h:au)(SQ:List ai)(E:List ab):Prop where
 go:∀R,eO h R->(∀g∈SQ,∀m,h g=Z m->R g=Z m)->∀(b:Nat) (k:ab),E[b]?=Z k->Tt.go b R/\∀e wG,Tt.qA b R e wG->cG R wG/\cq wG k e
 stop:∀R,eO h R->(∀g∈SQ,∀m,h g=Z m->R g=Z m)->Tt.stop E.length R
def qa(h:au)(y:St)(SQ:List ai):Option (Nat×aj)->Prop
 |none=>True
 |some (b,k)=>∃s,y[b]?=Z (Z s)/\cn h k s SQ
noncomputable def vo(J:av (List ab×Option (Nat×aj))):c0:=λy h a=>∃w N r S4,bo h w y N/\N.Nodup/\J w=Z (r,S4)/\∀Tt R Ti SQ,bo R S4 y Ti->lZ Tt R SQ r.1->qa R y SQ r.2->(∀g∈SQ,gn R g)->bd h N R (Ti++SQ)->a Tt R
def ng(f:aH)(To TQ:a8)(J:av (List ab×Option (Nat×aj))):Prop:=∀ ⦃n⦄,Cn f To TQ (vo J) n
theorem wB{B Tk:c0}(d:ke f To TQ B)(b:∀y h SQ,Tk y h SQ->B y h SQ):ke f To TQ Tk:=λG j y h SQ Y a=>d G j y h SQ Y (b y h SQ a)
noncomputable def dW(To:eX)(c:bj):List ab->bj
 |[]=>λw=>Z (.aZ,w)
 |e::r=>λw=>(To (.im e) w).bind λz=>(c z).bind λp=>match p.1 with
  |.aZ=>dW To c r p.2
  |.ca=>dW To c r p.2
  |.cK=>Z (.aZ,p.2)
  |.dO k=>Z (.dO k,p.2)
@[simp] noncomputable def k0:Option (Nat×aj)->aU->aU
 |none,w=>w
 |some (b,k),w=>match w[b]? with
  |some (Z .dy)=>w.set b (Z k)
  |_=>w
@[simp] def gI(J:av (List ab×Option (Nat×aj)))(To:eX)(c:bj):bj:=λw=>(J w).bind λn=>(dW To c n.1.1 n.2).map λp=>(p.1,k0 n.1.2 p.2)
theorem v9{m:Option (Nat×aj)}(st:bo h w y N)(d:qa h y SQ m):∃S6 SV,bo h (k0 m w) y S6/\(S6++SV).Perm (N++SQ):=by
 cases m with
 |none=>exact⟨N,SQ,st,List.Perm.refl _⟩
 |some n=>
  obtain⟨b,k⟩:=n;obtain⟨s,l,C⟩:=d;unfold k0;dsimp only;split
  ·exact st.back C l
  ·exact⟨N,SQ,st,List.Perm.refl _⟩
def m_(TH:List Nat):Option (Nat×aj)->Prop
 |none=>True
 |some (b,_)=>b∈TH
theorem LX{J:av (List ab×Option (Nat×aj))}{t:eX}(Tf:oP (aM f.prog f.w) f.A f.env f.ce)(Th:f.calm=aa)(SJ:ng f To TQ J)(Tj:h1 f TH To t)(Tk:g_ f TH T9 TI)(ty:∀b∈S8,b∈TH)(SX:∀w r S4,J w=Z (r,S4)->m_ TH r.2)(un:gD f (.For To TQ T9 [] S1) (Ap (vo J) (xN TH t)<|nM TH TI)):fU f S8 (.For To TQ T9 [] S1) (gI J t TI):=by
 refine iS un λSM y h up=>?_;obtain⟨w,N,aN,S4,st,ah,Gt,p⟩:=up;obtain⟨⟨⟨E,m⟩,z⟩,l,C⟩:=bB.mp Gt;obtain⟨⟨P,M⟩,If,Is⟩:=ch.mp C;cases Is;refine⟨w,N,(E,m),z,st,ah,l,λTt SU S6 SQ Lt SP Ok f1 bs=>?_⟩;have SK:m_ TH m:=SX w _ _ l;have g1:=cF.mp bs.ah;have cl:∀{S5:au}{Tg:List ai},bd SU S6 S5 Tg->∀g∈SQ,∀I,SU g=Z I->S5 g=Z I:=λj g SO I a=>j.keep g I a λd=>g1.2.2 g d g SO rfl;have hd:∀{S5:au}{Tg:List ai}{c:St},bd SU S6 S5 Tg->cI TH y c->qa S5 c SQ m:=λ{S5 Tg c} j P=>by
  cases m with
  |none=>trivial
  |some n=>
   obtain⟨b,k⟩:=n;obtain⟨s,SS,SW⟩:=Ok;exact⟨s,(P.2 b SK).trans SS,SW.mono j.tup<|cl j⟩
 have mb:∀{c:St},cI TH y c->cI S8 y c:=λP=>⟨P.1,λb SJ=>P.2 b<|ty b SJ⟩;have ne:∀{c:St}{S5:au}{Tg:List ai}{M:aU},q_ S8 SM y h N (k0 m M) .aZ->cI TH y c->bo S5 M c Tg->bd SU S6 S5 Tg->SM.aZ c S5:=λ{c S5 Tg M} p P co x=>by
  obtain⟨H,SV,eq,Te⟩:=v9 co (hd x P);exact p c S5 H (mb P) eq ((bs.trans x f1).less Te)
 refine⟨λb i ex R=>i+b=E.length/\∃o Ti,cI TH y ex/\bo R o ex Ti/\bd SU S6 R Ti/\dW t TI (E.drop b) o=Z (P,M),⟨E.length,rfl,z,S6,cI.refl,Lt,bd.perm g1.1<|List.Perm.refl _,If⟩,?_⟩;rintro b i ex R ⟨Tl,o,Ti,B,of,SN,L⟩;by_cases on:b<E.length
 ·obtain⟨SY,SZ⟩:=SP.go R SN.tup (cl SN) b E[b] (by simp[on]);rw[kL on,dW]at L;obtain⟨U,S0,S2⟩:=bB.mp L;obtain⟨⟨Ts,fd⟩,S3,Q⟩:=bB.mp S2;refine .inr ⟨SY,λc S5=>(i-1)+(b+1)=E.length/\∃o Ti,cI TH y c/\bo S5 o c Ti/\bd SU S6 S5 Ti/\dW t TI (E.drop<|b+1) o=Z (P,M),λc S5 d=>⟨i-1,by lia,d⟩,λe S5 S7=>?_⟩;obtain⟨fn,S9⟩:=SZ e S5 S7;have co:=of.mono fn.tupS λg Y m a=>fn g m a;have x:=SN.same fn;refine⟨o,Ti,.im E[b],[],U,co,⟨S9,rfl⟩,by rw[bU];exact x.ah,S0,λTn S_ H S eq pm=>?_⟩;have F:bd SU S6 S_ H:=x.seq (by rw[bU]at pm;exact pm);refine⟨U,H,Ts,fd,eq,F.ah,S3,?_⟩;cases Ts with
  |aZ=>exact λT be G q u v=>⟨by lia,fd,G,(B.trans S).trans q,u,F.seq v,Q⟩
  |ca=>exact λT be G q u v=>⟨by lia,fd,G,(B.trans S).trans q,u,F.seq v,Q⟩
  |cK=>
   cases Q;exact λT be G q u v=>ne p ((B.trans S).trans q) u (F.seq v)
  |dO k=>
   cases Q;intro s T be G pt q u Ta v;have sp:=F.seq v;have s1:=(B.trans S).trans q;obtain⟨s2,Tb,Tc,Td⟩:=v9 (SQ:=SQ) u (hd sp s1);refine p s T be s2 pt (mb s1) Tc Ta ((bs.trans sp f1).less (az:=Tb) ?_);rw[a_];refine (dL s2 cW).trans ?_;rw[<-a_];refine (eB pt Td).trans ?_;rw[a_,a_];exact dL _ cW
 ·have SJ:b=E.length:=by lia
  subst SJ;refine .inl ⟨SP.stop R SN.tup<|cl SN,?_⟩;rw[o6 (bm _)]at L;cases L;exact ne p B of SN
end
section
variable{f:aH}
variable{t:eX}
theorem kI{J:av (List ab×Option (Nat×aj))}{TI:bj}(a:oP (aM f.prog f.w) f.A f.env f.ce)(c:f.calm=aa)(SJ:ng f To TQ J)(d:h1 f TH To t)(g:g_ f TH T9 TI)(h:∀b∈S8,b∈TH)(SX:∀w r S4,J w=Z (r,S4)->m_ TH r.2)(i:∀e,lY TQ f.env e=pure e:=by intro Y;rfl):fU f S8 (.For To TQ T9 [] S1) (gI J t TI):=
 LX a c SJ d g h SX (Cm a c SJ d g i)
def Jo(SK:PySem.W.Frag)(Ub:bR):c0:=λy h SQ=>Ub y h λe SU=>∃g,e=.ref g/\(((∃x,c5 SK SU g x)/\SQ (p9 SK g) SU)\/((∃x,b7 SK SU g x)/\SQ (uf SK g) SU))
variable{H:a8}
theorem GG{Ub:bR}(o:bC f H Ub):ke f To H (Jo f.K Ub):=by
 intro G j y h SQ Y d;refine bJ (o G j y h _ Y d) λs b q=>?_;obtain⟨e,SU,i,r,t⟩:=q;obtain⟨g,a,p⟩:=t;subst a;cases r;rcases p with ⟨⟨x,k⟩,p⟩|⟨⟨x,k⟩,p⟩
 ·obtain⟨SZ,u,n,v⟩:=i.list k;refine u7 n.isList ?_;refine⟨b.heap.objs.size,[b.heap.objs.size],_,_,SU,rfl,i.kept (Tk:=b.toks) λc m a=>bS _ a,K6 g _,⟨_,da _ rfl,rfl,rfl⟩,λc l=>?_,p⟩;have a:c=b.heap.objs.size:=by simpa using l
  subst a;exact i.tm (bm _) (i.aV.fresh<|bm _)
 ·obtain⟨SZ,u,n,v⟩:=i.tuple k;refine wpAny_pyIter_tuple (show b.heap.IsTuple g SZ.toArray from n) ?_;refine⟨b.heap.objs.size,[b.heap.objs.size],_,_,SU,rfl,i.kept (Tk:=b.toks) λc m a=>bS _ a,IY g _,⟨_,da _ rfl,rfl,rfl⟩,λc l=>?_,p⟩;have a:c=b.heap.objs.size:=by simpa using l
  subst a;exact i.tm (bm _) (i.aV.fresh<|bm _)
theorem bu.get{h:au}:∀{E:List ab}{T:List as}{b:Nat}{k:ab},bu h E T->E[b]?=Z k->∃s,T[b]?=Z s/\cq h k s
 |[],_,_,_,_,a=>by simp at a
 |k::E,_,0,_,d,a=>by
  obtain⟨s,r,rfl,l,C⟩:=d;simp at a;subst a;exact⟨s,rfl,l⟩
 |k::E,_,b+1,_,d,a=>by
  obtain⟨s,r,rfl,l,C⟩:=d;obtain⟨I,c,Tc⟩:=bu.get (b:=b) C (by simpa using a);exact⟨I,by simpa using c,Tc⟩
variable{g:ai}
theorem xt(d:h g=Z (.lst x))(hd:bu h E x):lZ (p9 SK g) h [g] E where
 go:=λR B o b k a=>by
  obtain⟨s,c,Tc⟩:=hd.get a;have U:=c5.of (SK:=SK) (o g (.head _) _ d);refine⟨⟨x,s,U,c⟩,λe j ⟨f,i⟩=>?_⟩;subst f;rw[i x U]at c;cases c;exact⟨cG.refl _,Tc.mono B.tup⟩
 stop:=λR B o=>⟨x,c5.of<|o g (.head _) _ d,by rw[<-hd.length];exact bm _⟩
theorem ON{m:a0}(d:h g=Z (.de m<|.lst x))(hd:bu h E x):lZ (p9 SK g) h [] E where
 go:=λR B o b k a=>by
  obtain⟨s,c,Tc⟩:=hd.get a;have U:c5 SK R g x:=.inl (.inr ⟨m,B.de _ _ _ d⟩);refine⟨⟨x,s,U,c⟩,λe j ⟨f,i⟩=>?_⟩;subst f;rw[i x U]at c;cases c;exact⟨cG.refl _,Tc.mono B.tup⟩
 stop:=λR B o=>⟨x,.inl<|.inr ⟨m,B.de _ _ _ d⟩,by rw[<-hd.length];exact bm _⟩
theorem MQ(d:h g=Z (.tup x))(hd:bu h E x):lZ (uf SK g) h [] E where
 go:=λR B o b k a=>by
  obtain⟨s,c,Tc⟩:=hd.get a;have U:=b7.of (SK:=SK) (B.tup g _ d);refine⟨⟨x,s,U,c⟩,λe j ⟨f,i⟩=>?_⟩;subst f;rw[i x U]at c;cases c;exact⟨cG.refl _,Tc.mono B.tup⟩
 stop:=λR B o=>⟨x,b7.of<|B.tup g _ d,by rw[<-hd.length];exact bm _⟩
abbrev h6:=av (List ab×Option (Nat×aj))
@[simp] noncomputable def jl(k:aj):Option (List ab):=match k with
 |.im (.tup E)=>Z E
 |.lst E=>Z E
 |.cO E=>Z E
 |_=>X
@[simp] def cA(J:av bl):h6:=λw=>(J w).bind λn=>match n.1 with
 |.b8 k=>(jl k).map λE=>((E,X),n.2)
 |.aW b=>(dQ b n.2).bind λp=>(jl p.1).map λE=>((E,if p.1.dJ=aa then X else Z (b,p.1)),p.2)
theorem D8(D:cn h k s SQ)(a:jl k=Z E):
  ∃g,s=.ref g/\(((∃x,c5 SK h g x)/\lZ (p9 SK g) h SQ E)\/((∃x,b7 SK h g x)/\lZ (uf SK g) h SQ E)):=by
 unfold jl at a;split at a
 ·cases a;obtain⟨⟨g,x,rfl,l,C⟩,rfl⟩:=D;exact⟨g,rfl,.inr ⟨⟨x,b7.of l⟩,MQ l C⟩⟩
 ·cases a;obtain⟨g,x,rfl,l,C,rfl⟩:=D;exact⟨g,rfl,.inl ⟨⟨x,c5.of l⟩,xt l C⟩⟩
 ·cases a;obtain⟨g,x,m,rfl,l,C,rfl⟩:=D;exact⟨g,rfl,.inl ⟨⟨x,.inl<|.inr ⟨m,l⟩⟩,ON l C⟩⟩
 ·cases a
theorem fC{J:av bl}(d:dd f H J):ng f To H (cA J):=by
 refine wB (GG d) λy h D u=>?_;obtain⟨w,N,r,S4,st,ah,v,p⟩:=u;obtain⟨⟨e,z⟩,l,C⟩:=bB.mp v;refine⟨w,N,e,z,st,ah,l,λs SU S6 SQ i Th c=>?_⟩;cases e with
 |b8 k=>
  obtain⟨E,j,m⟩:=ch.mp C;cases m;obtain⟨g,rfl,n⟩:=D8 (SK:=f.K) Th j;refine⟨g,rfl,?_⟩;rcases n with ⟨a,SP⟩|⟨a,SP⟩
  ·exact .inl ⟨a,p _ SU S6 SQ i SP trivial (cn.chg Th) c⟩
  ·exact .inr ⟨a,p _ SU S6 SQ i SP trivial (cn.chg Th) c⟩
 |aW b=>
  obtain⟨⟨k,M⟩,j,m⟩:=bB.mp C;obtain⟨E,x,A⟩:=ch.mp m;cases A;obtain⟨F,Tg,bO,o,Tc,TE,B⟩:=Dp i j;obtain⟨Th,rfl⟩:=Th;rw[Th]at o;cases o;rw[bU]at c;have q:=c.iT B.symm;obtain⟨g,rfl,n⟩:=D8 (SK:=f.K) Tc x;have t:qa SU y bO (if k.dJ=aa then X else Z (b,k)):=by
   split
   ·trivial
   ·exact⟨_,Th,Tc⟩
  refine⟨g,rfl,?_⟩;rcases n with ⟨a,SP⟩|⟨a,SP⟩
  ·exact .inl ⟨a,p _ SU Tg bO TE SP t Tc.chg q⟩
  ·exact .inr ⟨a,p _ SU Tg bO TE SP t Tc.chg q⟩
theorem Pw{J:av aj}:∀w r S4,cA (V J) w=Z (r,S4)->m_ TH r.2:=by
 intro w r S4 d;obtain⟨⟨e,z⟩,l,C⟩:=bB.mp d;unfold V at l;obtain⟨n,c,a⟩:=ch.mp l;cases a;obtain⟨E,f,b⟩:=ch.mp C;cases b
 trivial
variable{b:Nat}
theorem og(SJ:b∈TH):∀w r S4,cA (af b) w=Z (r,S4)->m_ TH r.2:=by
 intro w r S4 d;obtain⟨⟨e,z⟩,l,C⟩:=bB.mp d;unfold af at l;split at l
 ·cases l;obtain⟨⟨k,M⟩,f,a⟩:=bB.mp C;obtain⟨E,g,c⟩:=ch.mp a;cases c;show m_ TH (if k.dJ=aa then X else Z (b,k));split
  ·trivial
  ·exact SJ
 ·cases l
noncomputable def hq(S:Int)(v:Nat):List ab:=(range v).map λ(o:Nat)=>ab.int (S+(o:Int))
theorem Rt{S:Int}:lZ (uV S v) h [] (hq S v) where
 go:=λR B o b k a=>by
  have SJ:b<v:=by
   have:=(fw.mp a).1
   rwa [hq,a5,kE]at this
  refine⟨SJ,λe f ⟨c,d⟩=>?_⟩;subst c;rw[hq,d3,zX SJ]at a;cases a;exact⟨cG.refl _,d⟩
 stop:=λR B o=>by
  show v<=_;rw[hq,a5,kE];exact bm _
def ru(b:Int):Prop := -1000000<=b/\b<=1000000
noncomputable instance (b:Int):Decidable (ru b):=inferInstanceAs (Decidable<|_/\_)
@[simp] def lB(J:av (List bl)):h6:=λw=>(J w).bind λn=>(fX n.2 n.1).bind λE=>match E with
 |[.im (.int u)]=>if ru u then Z ((hq 0 u.toNat,X),n.2) else X
 |_=>X
theorem vO{k:ab}(d:me h [.im k] T):∃s,T=[s]/\cq h k s:=by
 obtain⟨s,r,rfl,⟨SQ,l,Y⟩,C⟩:=d;cases (show r=[] from C);exact⟨s,rfl,l⟩
theorem KY{k a:ab}(d:me h [.im k,.im a] T):∃s I,T=[s,I]/\cq h k s/\cq h a I:=by
 obtain⟨s,r,rfl,⟨SQ,l,Y⟩,C⟩:=d;obtain⟨I,rfl,b⟩:=vO C;exact⟨s,I,rfl,l,b⟩
theorem xo{g:a8}(i:dU f "range")(j:f.aw "range" = X)(c:eR f [g] J)(SX:bG [g] f.env=[(al,bQ g f.env)]:=by rfl):ng f To (.Call (.Name "range" n) [g] [] S1) (lB J):=by
 refine wB (Rd i j c SX) λy h v k=>?_;obtain⟨w,N,r,S4,st,ah,m,p⟩:=k;obtain⟨⟨S3,z⟩,l,C⟩:=bB.mp m;obtain⟨E,o,b⟩:=bB.mp C;refine⟨w,N,S3,z,st,ah,l,λT SU S6 x d Th q=>?_⟩;have t:=Th.read d o;split at b
 ·rename_i u;split at b
  ·rename_i e;cases b;obtain⟨s,rfl,a⟩:=vO t;cases (show s=.int u from a);exact⟨u,rfl,by have:=e.1;lia,by have:=e.2;lia,p _ SU S6 [] d Rt trivial (λg c=>nomatch c) (by rw[bU];exact q.less (List.Perm.refl _))⟩
  ·cases b
 ·cases b
theorem ys:∀w r S4,lB J w=Z (r,S4)->m_ TH r.2:=by
 intro w r S4 d;obtain⟨⟨S3,z⟩,l,C⟩:=bB.mp d;obtain⟨E,b,a⟩:=bB.mp C;split at a
 ·split at a
  ·cases a;trivial
  ·cases a
 ·cases a
def t9(f:aH)(T_:List a8)(J:av Bool):Prop:=∀ ⦃n⦄,zZ f T_ (ja J) n
noncomputable def d2:av Bool:=λw=>Z (aa,w)
theorem jp:t9 f [] d2:=by
 intro G j y h A Y ⟨w,N,c,S4,st,ah,a,p⟩;cases a;exact J7 G j y h A Y (p h N st<|bd.perm ah<|List.Perm.refl _)
theorem qi{J:av Bool}(d:g0 f q J):t9 f [q] J:=Rh d
@[simp] noncomputable def kj(Tl:List Nat)(w:aU):aU:=Tl.map λb=>w.getD b X
noncomputable def kv:List Nat->aU->aU
 |[],w=>w
 |b::r,w=>kv r (match w[b]? with|some (Z _)=>w.set b (Z .dy)|_=>w)
@[simp] noncomputable def iD:List Nat->aU->aU->aU
 |b::r,m::az,w=>iD r az (w.set b m)
 |_,_,w=>w
noncomputable def hj(own:Nat)(To:eX)(q:av Bool)(a:av aj): List ab -> List ab -> aU -> Option (List ab × aU)
  |[],b,az => Z (b,az)
  |e :: r,b,az => (To (.im e)<|List.replicate own X ++ az).bind λz => (q z).bind λn => if n.1=aa then (a n.2).bind λp => match p.1 with
      |.im k => if b.length<100000 then hj own To q a r (b ++ [k]) (p.2.drop own) else X
      |_ => X
    else hj own To q a r b (n.2.drop own)
@[simp] def cJ(own:Nat)(Tl:List Nat)(D:h6)(To:eX)(q:av Bool)(a:av aj):av aj:=λw=>(D w).bind λn=>(hj own To q a n.1.1 []<|kj Tl n.2).map λp=>(.lst p.1,k0 n.1.2<|iD Tl p.2 n.2)
noncomputable def qk(own v:Nat):List Nat:=(range v).map (·+own)
theorem I9(d:w[b]?=Z m):w.getD b X=m:=by rw[cp,d];rfl
theorem bo.void(st:bo h w y N)(b:Nat):∃S6 Tg,bo h (match w[b]? with|some (Z _)=>w.set b (Z .dy)|_=>w) y S6/\mf h (w.getD b X) (y.getD b X) Tg/\(S6++Tg).Perm N:=by
 split
 ·rename_i k hd;obtain⟨s,S6,Tg,l,C,c,d⟩:=st.out hd;refine⟨Tg,S6,c,?_,d⟩;rw[I9 hd,cp,l];exact⟨s,rfl,C⟩
 ·rename_i e;refine⟨N,[],st,?_,by rw[bU]⟩;have:w.getD b X=X:=by
   rw[cp];cases a:w[b]? with
   |none=>rfl
   |some m=>
    cases m with
    |none=>rfl
    |some k=>exact absurd a (e k)
  rw[this];exact rfl
theorem EU{h:au}{y:St}:∀{Tl:List Nat}{w:aU}{N:List ai},Tl.Nodup->bo h w y N->∃S6 Tg,bo h (kv Tl w) y S6/\bo h (kj Tl w) (Tl.map λb=>y.getD b X) Tg/\(S6++Tg).Perm N
 |[],w,N,_,st=>⟨N,[],st,⟨rfl,rfl⟩,by rw[bU]⟩
 |b::r,w,N,ah,st=>by
  obtain⟨S6,Tg,l,C,e⟩:=st.void b;have c:=hL.mp ah;obtain⟨f,d,g,Tc,TE⟩:=EU (Tl:=r) c.2 l;refine⟨f,Tg++d,g,⟨_,_,Tg,d,rfl,C,?_,rfl⟩,kF.trans<|(dL _ TE).trans<|cW.trans e⟩;have a:kj r (match w[b]? with|some (Z _)=>w.set b (Z .dy)|_=>w)=kj r w:=by
   unfold kj;refine q2 λu i=>?_;split
   ·rw[cp,cp,ni];rintro rfl;exact c.1 i
   ·rfl
  rw[a]at Tc;exact Tc
theorem bo.Pj(st:bo h w y N)(d:mf h m (y.getD b X) SV):∃S6 Tg,bo h (w.set b m) y S6/\(S6++Tg).Perm (N++SV):=by
 cases m with
 |some k=>
  obtain⟨s,a,D⟩:=d;refine st.back D ?_;rw[cp]at a;cases p:y[b]? with
  |none=>rw[p]at a;cases a
  |some e=>rw[p]at a;rw[show e=Z s from a]
 |none=>
  cases (show SV=[] from d);rw[bU];by_cases SJ:b<w.length
  ·cases p:w[b]? with
   |none=>exact absurd (List.getElem?_eq_none_iff.mp p) (by lia)
   |some e=>
    cases e with
    |none=>
     refine⟨N,[],?_,by rw[bU]⟩;have:w.set b X=w:=by
      refine oa λu=>?_;by_cases a:b=u
      ·subst a;rw[p,uq SJ]
      ·rw[ni a]
     rw[this];exact st
    |some k=>
     obtain⟨s,S6,Tg,l,C,n,o⟩:=st.out p;have gen:∀{w:aU}{y:St}{N:List ai}{b:Nat},bo h w y N->∃S6 Tg,bo h (w.set b X) y S6/\(S6++Tg).Perm N:=by
      intro w;induction w with
      |nil=>intro y N b st;exact⟨N,[],by simpa using st,by rw[bU]⟩
      |cons m w f=>
       intro y N b st;obtain⟨e,r,O,Tf,rfl,g,c,rfl⟩:=st;cases b with
       |zero=>exact⟨Tf,O,⟨e,r,[],Tf,rfl,rfl,c,rfl⟩,cW⟩
       |succ b=>
        obtain⟨az,SM,i,j⟩:=f (b:=b) c;refine⟨O++az,SM,⟨e,r,O,az,rfl,g,i,rfl⟩,?_⟩;rw[a_];exact dL _ j
     exact gen st
  ·refine⟨N,[],?_,by rw[bU]⟩;rw[List.set_eq_of_length_le (by lia)];exact st
theorem EW{h:au}{y:St}:∀{Tl:List Nat}{az w:aU}{N SV:List ai},bo h w y N->bo h az (Tl.map λb=>y.getD b X) SV->∃S6 Tg,bo h (iD Tl az w) y S6/\(S6++Tg).Perm (N++SV)
 |[],az,w,N,SV,st,_=>⟨N,SV,by cases az<;>exact st,List.Perm.refl _⟩
 |b::r,[],w,N,SV,st,d=>⟨N,SV,st,List.Perm.refl _⟩
 |b::r,m::az,w,N,SV,st,d=>by
  obtain⟨e,B,f,g,a,l,C,rfl⟩:=d;cases a;obtain⟨S6,O,c,Tc⟩:=st.Pj l;obtain⟨Tg,Tf,Tj,Tr⟩:=EW (Tl:=r) (az:=az) c C;refine⟨Tg,Tf++O,Tj,?_⟩;rw[<-a_,<-a_];refine (eB O Tr).trans ?_;rw[a_];refine (dL S6 cW).trans ?_;rw[<-a_];exact eB _ Tc
theorem Ig:∀{Tl:List Nat}{az w:aU},Tl.length=az.length->Tl.Nodup->iD Tl az (kv Tl w)=iD Tl az w:=by
 have l:∀{r:List Nat}{az w:aU}{b:Nat}{m:Option aj},b∉r->iD r az (w.set b m)=(iD r az w).set b m:=by
  intro r;induction r with
  |nil=>intro az w b m Y;cases az<;>rfl
  |cons u r c=>
   intro az w b m d;cases az with
   |nil=>rfl
   |cons q az=>
    have g:b≠u:=λa=>d (by rw[a];exact .head _);show iD r az ((w.set b m).set u q)=(iD r az<|w.set u q).set b m;rw[vw _ _ g,c λe=>d<|.tail _ e]
 have h:∀{r:List Nat}{w:aU}{b:Nat}{m:Option aj},b∉r->kv r (w.set b m)=(kv r w).set b m:=by
  intro r;induction r with
  |nil=>intro w b m Y;rfl
  |cons u r c=>
   intro w b m d;have g:b≠u:=λa=>d (by rw[a];exact .head _);show kv r (match (w.set b m)[u]? with|some (Z _)=>(w.set b m).set u (Z .dy)|_=>w.set b m)=(kv r (match w[u]? with|some (Z _)=>w.set u (Z .dy)|_=>w)).set b m;rw[ni g];cases w[u]? with
   |none=>exact c λe=>d (.tail _ e)
   |some p=>
    cases p with
    |none=>exact c λe=>d (.tail _ e)
    |some k=>
     show kv r ((w.set b m).set u<|Z .dy)=_;rw[vw _ _ g];exact c λe=>d (.tail _ e)
 intro Tl;induction Tl with
 |nil=>intro az w Y Y;cases az<;>rfl
 |cons b r c=>
  intro az w i ah;have f:=hL.mp ah;cases az with
  |nil=>cases i
  |cons q az=>
   have j:r.length=az.length:=by simpa using i
   show iD r az ((kv r (match w[b]? with|some (Z _)=>w.set b (Z .dy)|_=>w)).set b q)=iD r az (w.set b q);split
   ·rw[h f.1,xE,<-h f.1,c j f.2]
   ·rw[<-h f.1,c j f.2]
theorem BD{h:au}{w:aU}{r:St}{N:List ai}(d:bo h w r N):∀{own:List ay},bo h (List.replicate own.length X++w) (own.map (λ_=>X)++r) N
 |[]=>d
 |e::own=>⟨X,_,[],N,rfl,rfl,BD d (own:=own),rfl⟩
theorem wo{h:au}:∀{v:Nat}{w:aU}{y:St}{N:List ai},bo h w y N->∃S6 Tg,bo h (w.drop v) (y.drop v) S6/\(S6++Tg).Perm N
 |0,w,y,N,d=>⟨N,[],d,by rw[bU]⟩
 |v+1,[],y,N,d=>by
  cases d.1;exact⟨[],N,⟨rfl,rfl⟩,List.Perm.refl _⟩
 |v+1,m::w,y,N,d=>by
  obtain⟨e,r,O,Tf,rfl,l,C,rfl⟩:=d;obtain⟨S6,Tg,a,Tc⟩:=wo (v:=v) C;exact⟨S6,Tg++O,a,by rw[<-a_];exact (eB O Tc).trans cW⟩
theorem bd.both(g:bd h N SU (S6++SQ)):bd h N SU S6:=g.less (List.Perm.refl _)
theorem bu.snoc:∀{E:List ab}{T:List as}{k:ab}{s:as},bu h E T->cq h k s->bu h (E++[k]) (T++[s])
 |[],T,k,s,d,D=>by cases (show T=[] from d);exact⟨s,[],rfl,D,rfl⟩
 |a::E,T,k,s,d,D=>by
  obtain⟨I,r,rfl,l,C⟩:=d;exact⟨I,r++[s],rfl,l,C.snoc D⟩
variable{D:h6}
theorem EA(ah:Tl.Nodup)(d:l3 (cJ own.length Tl D t TX Uk) y h A):
  ue own Tl (vo D) (λ_=>xN (qk own.length Tl.length) t) (λ_=>ja TX) (λ_=>l3 Uk) y h A:=by
 obtain⟨w,N,r,S4,st,SS,SV,p⟩:=d;obtain⟨⟨⟨x,m⟩,z⟩,l,C⟩:=bB.mp SV;obtain⟨⟨E,of⟩,SW,SX⟩:=ch.mp C;cases SX;refine⟨w,N,(x,m),z,st,SS,l,λTt SU S6 SQ SY SP SZ S0 S1 Tu=>?_⟩;obtain⟨gF,M,on,B,Te⟩:=EU ah SY;have pm:bd h N SU (M++(gF++SQ)):=S1.iT (by
  refine (eB SQ Te.symm).trans ?_;rw[a_];exact kF)
 have pt:=cF.mp pm.ah;have S3:∀e∈gF++SQ,gn SU e:=λe J=>by
  rcases cx.mp J with J|J
  ·exact on.chg e J
  ·exact S0 e J
 have be:∀{S5:au}{Tg:List ai},bd SU M S5 Tg->∀g∈gF++SQ,∀I,SU g=Z I->S5 g=Z I:=λj g f I a=>j.keep g I a λd=>pt.2.2 g d g f rfl;refine⟨λb i S2 R=>i+b=x.length/\∃q az L,bo R az (Tl.map λb=>y.getD b X) L/\az.length=Tl.length/\bd SU M R L/\bu R q S2/\hj own.length t TX Uk (x.drop b) q az=Z (E,of),
  ⟨x.length,rfl,[],kj Tl z,M,B,by rw[kj,a5],bd.perm pt.1<|List.Perm.refl _,rfl,SW⟩,?_⟩;rintro b i S2 R ⟨bs,q,az,L,sp,S7,SN,s1,cl⟩;by_cases s2:b<x.length
 ·obtain⟨S8,S9⟩:=SP.go R SN.tup (λg f=>be SN g<|dH _ f) b x[b] (by simp[s2]);rw[kL s2,hj]at cl;obtain⟨U,S_,Ta⟩:=bB.mp cl;obtain⟨⟨c,ex⟩,Tb,Q⟩:=bB.mp Ta;refine .inr ⟨S8,λty S5=>(i-1)+(b+1)=x.length/\∃q az L,bo S5 az (Tl.map λb=>y.getD b X) L/\az.length=Tl.length/\bd SU M S5 L/\bu S5 q ty/\hj own.length t TX Uk (x.drop<|b+1) q az=Z (E,of),λty S5 d=>⟨i-1,by lia,d⟩,λe S5 J=>?_⟩;obtain⟨G,Tc⟩:=S9 e S5 J;have Td:=sp.mono G.tupS λg Y m a=>G g m a;have un:=SN.same G;have co:=s1.mono G.tupS.tup;refine⟨List.replicate own.length X++az,L,.im x[b],[],U,BD Td,⟨Tc,rfl⟩,by rw[bU];exact un.ah,S_,λfd Tf up eq Gt fn=>⟨λu s o=>?_,?_⟩⟩
  ·
   have Tv:own.length<=u:=by
    by_cases Th:u<own.length
    ·rw[jI,lf (by simpa using Th),d3]at o;cases a:own[u]? with
     |none=>rw[a]at o;cases o
     |some Tw=>rw[a]at o;cases o
    ·lia
   have Tx:u<own.length+Tl.length:=by
    have:=(fw.mp o).1
    rwa [jI,cb,a5,a5]at this
   have bs:u∈qk own.length Tl.length:=cX.mpr ⟨u-own.length,f2.mpr (by lia),by lia⟩;exact (eq.2 u bs).trans o
  ·have If:bd SU M Tf up:=un.seq (by rw[bU]at fn;exact fn);have co:=co.mono fn.tup.tup;have Is:fd.drop own.length=Tl.map λb=>y.getD b X:=by
    have Tz:=Gt.len;refine oa λu=>?_;by_cases o:u<Tl.length
    ·have bs:u+own.length∈qk own.length Tl.length:=cX.mpr ⟨u,f2.mpr o,rfl⟩;have:=eq.2 _ bs;rw[mB,tt,this,jI,kY (by simp),a5,Nat.add_sub_cancel]
    ·have TA:fd.length<=own.length+Tl.length:=by
      rw[eq.1,jI,cb,a5,a5];exact bm _
     rw[p3 (by rw[e4];lia),p3 (by rw[a5];lia)]
   have Lt:fd.length=own.length+Tl.length:=by rw[eq.1,jI,cb,a5,a5]
   refine⟨U,up,c,ex,Gt,If.ah,Tb,λTB f1 O g1=>?_⟩;have S:=If.seq g1;dsimp only at Q ⊢;cases c with
   |false=>
    rw[aG c9]at Q ⊢;obtain⟨T,Ok,H,hd⟩:=wo (v:=own.length) O;rw[Is]at H;exact⟨by lia,q,ex.drop own.length,T,H,by rw[e4,O.len,Lt];lia,S.less hd,co.mono g1.tup.tup,Q⟩
   |true=>
    rw[aB rfl]at Q ⊢;obtain⟨⟨s,SK⟩,Ti,P⟩:=bB.mp Q;dsimp only at P;split at P
    ·rename_i k;split at P
     ·rename_i TC;refine⟨ex,f1,.im k,SK,O,S.ah,Ti,λI TD T TE H F mb=>?_⟩;obtain⟨Tj,rfl⟩:=F;rw[bU]at mb;have SL:=(co.mono g1.tup.tup).mono mb.tup.tup;refine⟨rQ (show S2.length<=100000 by rw[<-SL.length];lia) (by decide),?_⟩;obtain⟨Tk,TF,SM,Tn⟩:=wo (v:=own.length) H;rw[Is]at SM;exact⟨by lia,q++[k],SK.drop own.length,Tk,SM,by rw[e4,H.len,Lt];lia,(S.seq mb).less Tn,SL.snoc Tj,P⟩
     ·cases P
    ·cases P
 ·have SJ:b=x.length:=by lia
  subst SJ;refine .inl ⟨SP.stop R SN.tup<|λg f=>be SN g<|dH _ f,λne SO=>?_⟩;rw[o6 (bm _),hj]at cl;cases cl;have To:bo R (kv Tl z) y gF:=on.mono SN.tup λg f=>be SN g (dI _ f);obtain⟨f1,SR,O,Tp⟩:=EW To sp;rw[Ig (by rw[S7]) ah]at O;have Tq:qa R y SQ m:=by
   cases m with
   |none=>trivial
   |some n=>
    obtain⟨b,k⟩:=n;obtain⟨s,Tr,Ts⟩:=SZ;exact⟨s,Tr,Ts.mono SN.tup λg f=>be SN g<|dH _ f⟩
  obtain⟨T,Ok,H,hd⟩:=v9 (SQ:=SQ) O Tq;have G:cG R (upd R ne<|.lst S2):=(cG.refl R).upd SO;have S:bd h N R T:=(pm.trans SN S3).less (az:=Ok++SR) (by
   rw[<-a_];refine (eB SR hd).trans ?_;rw[a_];refine (dL f1 cW).trans ?_;rw[<-a_];refine (eB SQ Tp).trans ?_;rw[a_];exact kF)
  exact p _ _ T [ne] (H.mono G.tupS λg Y m a=>G g m a) ⟨ne,S2,rfl,ec,s1.mono G.tupS.tup,rfl⟩ (S.add SO H.chg)
theorem hG{Ue:a8}{T_:List a8}{S9:gs}(b:f.calm=aa)(S0:iJ f S9 own Tl)(ah:Tl.Nodup)(SJ:ng f To TQ D)(c:∀a,h1 (f.f7 (gj f own Tl) S9 a) (qk own.length Tl.length) To t)(bt:∀a,t9 (f.f7 (gj f own Tl) S9 a) T_ TX)(g:∀a,b4 (f.f7 (gj f own Tl) S9 a) Ue Uk)(SX:∀e,lY TQ f.env e=pure e:=by intro Y;rfl):b4 f (.ListComp Ue [⟨To,TQ,T_,0⟩] S9 S1) (cJ own.length Tl D t TX Uk):=
 dY (HW b S0 SJ c bt g SX) λy h A d=>EA ah d
end
@[simp] noncomputable def h8(S8:List Nat):List aj->aU->Nat->List aj
 |k::E,m::w,u=>(if k.dJ=aa then k else if u∈S8 then m.getD .dy else .dy)::h8 S8 E w (u+1)
 |k::E,[],u=>(if k.dJ=aa then k else .dy)::h8 S8 E [] (u+1)
 |[],_,_=>[]
@[simp] def c6(v i:Nat)(S8:List Nat)(J:bj):cN:=λE=>if E.length=v then match J (E.map Z++List.replicate (i-v) X) with
 |some (.dO r,w)=>Z (r,h8 S8 E w 0)
 |some (.aZ,w)=>Z (.im .aR,h8 S8 E w 0)
 |_=>X else X
theorem xb{h:au}:∀{E:List aj}{T:List as}{N:List ai}{i:Nat},di h E T N->bo h (E.map Z++List.replicate i X) (T.map Z++List.replicate i X) N
 |[],T,N,i,d=>by
  obtain⟨rfl,rfl⟩:=d;show bo h (List.replicate i X) (List.replicate i X) [];induction i with
  |zero=>exact⟨rfl,rfl⟩
  |succ i a=>exact⟨X,_,[],[],rfl,rfl,a,rfl⟩
 |k::E,T,N,i,d=>by
  obtain⟨s,r,S6,Tg,rfl,l,C,rfl⟩:=d;exact⟨Z s,_,S6,Tg,rfl,⟨s,rfl,l⟩,xb C,rfl⟩
theorem zp{h R:au}{S8:List Nat}(B:eO h R):∀{E:List aj}{T:List as}{n:List ai}{w:aU}{y:St}{N:List ai}{b:Nat},di h E T n->bo R w y N->(∀(u:Nat) (s:as),(b+u)∈S8->T[u]?=Z s->y[u]?=Z (Z s))->
  ∃SQ SV,di R (h8 S8 E w b) T SQ/\(SQ++SV).Perm N
 |[],T,n,w,y,N,b,d,st,_=>⟨[],N,by unfold h8;exact⟨d.1,rfl⟩,List.Perm.refl _⟩
 |k::E,T,n,[],y,N,b,d,st,o=>by
  obtain⟨s,r,O,Tf,rfl,l,C,rfl⟩:=d;obtain⟨rfl,rfl⟩:=st;obtain⟨SQ,SV,c,Tc⟩:=zp (w:=[]) (y:=[]) (N:=[]) (b:=b+1) B C ⟨rfl,rfl⟩ λu s p q=>by
   have:=o (u+1) s (by rw[show b+(u+1)=b+1+u by lia];exact p) (by simpa using q);simp at this
  rw[h8];refine⟨SQ,SV,⟨s,r,[],SQ,rfl,?_,c,rfl⟩,Tc⟩;split
  ·rename_i f;have:=l.mono B λg i=>by rw[l.dJ f]at i;cases i
   rw[l.dJ f]at this;exact this
  ·exact rfl
 |k::E,T,n,m::w,y,N,b,d,st,o=>by
  obtain⟨s,r,O,Tf,rfl,l,C,rfl⟩:=d;obtain⟨e,j,az,SM,rfl,v,x,rfl⟩:=st;obtain⟨SQ,SV,c,Tc⟩:=zp (w:=w) (y:=j) (b:=b+1) B C x λu s p q=>by
   have:=o (u+1) s (by rw[show b+(u+1)=b+1+u by lia];exact p) (by simpa using q);simpa using this
  rw[h8];split
  ·rename_i f;have t:=l.mono B λg i=>by rw[l.dJ f]at i;cases i
   rw[l.dJ f]at t;refine⟨SQ,SV++az,⟨s,r,[],SQ,rfl,t,c,rfl⟩,?_⟩;rw[<-a_];exact (eB az Tc).trans cW
  ·split
   ·rename_i z;have A:e=Z s:=by
     have:=o 0 s z rfl;simpa using this
    subst A;cases m with
    |none=>
     refine⟨SQ,SV++az,⟨s,r,[],SQ,rfl,rfl,c,rfl⟩,?_⟩;rw[<-a_];exact (eB az Tc).trans cW
    |some a=>
     obtain⟨G,F,D⟩:=v;cases F;refine⟨az++SQ,SV,⟨s,r,az,SQ,rfl,D,c,rfl⟩,?_⟩;rw[a_];exact dL _ Tc
   ·refine⟨SQ,SV++az,⟨s,r,[],SQ,rfl,rfl,c,rfl⟩,?_⟩;rw[<-a_];exact (eB az Tc).trans cW
section
variable{SS:bw}{D:a9}{SK:PySem.W.Frag}{aw:ay->Option ae}{SW:aT}
theorem Ko{TU:ay}{st:bz}{P:ai}{Tb:List ay}{o:Nat}{J:bj}(N:gq SK e TU st P fd)(S0:ki Tb SO (cL st))(w:SO.length=v)(G:∀b∈S8,b<v)(x:∀(z:ae) (O:bp) (Tp:List dP) (j:ak) (h:au) (SM:fA),dV o (O.deeper<|hS TU (cL st) j.heap.objs.size P z)->g_ (ia hA SS D SK aw SW Tb TU (cL st) P z O Tp j h SM).nB S8 (gE st) J):
  gx SS D SK aw SW hA (o+1) P fd SO (jm v<|c6 v Tb.length S8 J):=by
 refine N.ok S0 (λT h A SM d=>d.1.trans w.symm) (λz O Tp j h T A SM y d=>⟨_,x z O Tp j h SM y,?_⟩);obtain⟨m,E,k,r,Ua,F,ah,c,p⟩:=d;have B:E.length=v:=F.length.trans m;unfold c6 at c;rw[aB B]at c;have st:=xb (i:=Tb.length-v) F;have Q:start Tb T=T.map Z++List.replicate (Tb.length-v) X:=by unfold start;rw[m]
 rw[Q];have fin:∀{f:St}{R:au}{Ti:List ai}{S4:aU}{s:as}{SQ:List ai},h8 S8 E S4 0=Ua->cI S8 (T.map Z++List.replicate (Tb.length-v) X) f->bo R S4 f Ti->cn R r s SQ->bd h k R (Ti++SQ)->A s R:=λ{f R Ti S4 s SQ} C TH g l SN=>by
  obtain⟨bO,SV,n,Tc⟩:=zp (S8:=S8) (b:=0) SN.tup F g λu s q t=>by
   rw[Nat.zero_add]at q;rw[TH.2 u q,lf (by rw[a5];exact (fw.mp t).1),d3,t];rfl
  rw[C]at n;refine p s R SQ bO l n (SN.less (az:=SV) ?_);rw[a_];exact (dL SQ Tc).trans cW
 split at c
 ·rename_i TG S4 a;cases c;exact⟨_,k,.dO r,S4,st,ah,a,λs f R Ti SQ TH g l SN=>fin rfl TH g l SN⟩
 ·rename_i S4 a;cases c;exact⟨_,k,.aZ,S4,st,ah,a,λf R Ti TH g SN=>fin rfl TH g ⟨rfl,rfl⟩ (by rw[bU];exact SN)⟩
 ·cases c
end
def bV(h:au)(k:aj)(A:cw):Prop:=∀s R SQ,cG h R->cn R k s SQ->SQ.Nodup->(∀g∈SQ,h g=X)->A s R
theorem bV.DO{k:ab}(p:bV h (.im k) A)(j:cG h R)(d:cq R k s):A s R:=p s R [] j ⟨d,rfl⟩ io (λg a=>nomatch a)
theorem bV.i{k:ab}(p:bV h (.im k) A)(d:cq h k s):A s h:=p.DO (cG.refl h) d
theorem bV.l{n:ai}(p:bV h (.lst E) A)(a:h n=X)(d:bu h E x):A (.ref n) (upd h n<|.lst x):=by
 have j:cG h (upd h n<|.lst x):=(cG.refl h).upd a;exact p _ _ [n] j ⟨n,x,rfl,ec,d.mono j.tupS.tup,rfl⟩ (er _ _) λg b=>by rw[bW.mp b];exact a
theorem bV.t{n:ai}(p:bV h (.im<|.tup E) A)(a:h n=X)(d:bu h E x):A (.ref n) (upd h n<|.tup x):=by
 have j:cG h (upd h n<|.tup x):=(cG.refl h).upd a;exact p.DO j ⟨n,x,rfl,ec,d.mono j.tupS.tup⟩
section
variable{f:aH}
theorem dj.imp{P:ae->ae->dr ae}{r:bO}(d:dj f P r)(b:∀e t h A,TG e t h A->r e t h A):dj f P TG:=λG j y h e t s I A Y a c g=>d G j y h e t s I A Y a c (b e t h A g)
theorem eu.imp{P:ae}{r TG:List as->au->cw->Prop}(d:eu f P r)(b:∀x h A,TG x h A->r x h A):eu f P TG:=λG j y h x S7 A Y a c=>d G j y h x S7 A Y a (b x h A c)
theorem ij.imp{r:bO}(d:ij f r)(b:∀e t h A,TG e t h A->r e t h A):ij f TG:=λa c G j y h e t s I A Y g i k=>d a c G j y h e t s I A Y g i (b e t h A k)
theorem eY.i{k:ab}(d:eY h (.im k) s):cq h k s:=d.elim λ_ D=>D.1
end
abbrev fP:=aj->aj->Option aj
@[simp] noncomputable def ik(az:Int->Int->Bool)(J:Int->Int->ab):fP:=λg c=>match g,c with
 |.im (.int b),.im (.int u)=>if az b u=aa then Z (.im<|J b u) else X
 |_,_=>X
theorem Hi{az:Int->Int->Bool}{J:Int->Int->ab}{g c:aj}(d:ik az J g c=Z k):∃b u,g=.im (.int b)/\c=.im (.int u)/\az b u=aa/\k=.im (J b u):=by
 unfold ik at d;split at d
 ·rename_i b u;split at d
  ·rename_i a;cases d;exact⟨b,u,rfl,rfl,a,rfl⟩
  ·cases d
 ·cases d
section
variable{f:aH}
variable{P:ae->ae->dr ae}{J:Int->Int->as}{d:Int->Int->ab}
theorem r9{az:Int->Int->Prop}{Tf:Int->Int->Bool}(m:dj f P (pH az J))(c:∀b u,Tf b u=aa->az b u)(g:∀h b u,cq h (d b u)<|J b u):eA f P (ik Tf d):=
 m.imp λe t h A ⟨TD,TA,k,j,l,a,p⟩=>by
  obtain⟨b,u,rfl,rfl,n,rfl⟩:=Hi a;exact⟨b,u,j.i,l.i,c b u n,bV.i p<|g h b u⟩
theorem qO(m:dj f P (lI J))(c:∀h b u,cq h (d b u)<|J b u):eA f P (ik (λ_ Y=>aa) d):=
 m.imp λe t h A ⟨TD,TA,k,g,j,a,p⟩=>by
  obtain⟨b,u,rfl,rfl,l,rfl⟩:=Hi a;exact⟨b,u,g.i,j.i,bV.i p<|c h b u⟩
@[simp] def iR:fP:=ik (λ_ Y=>aa) λb u=>.int (b-u)
noncomputable def gO(b u:Int):Bool:=!(decide (ba.Int.intBits b>r1)&&decide (ba.Int.intBits u>r1)&&ba.Int.intTooBig (ba.Int.intBits b+ba.Int.intBits u))
@[simp] def d8:fP:=ik gO λb u=>.int (b*u)
@[simp] def nF:fP:=ik (λ_ u=>decide (0<u/\u<1073741824)) λb u=>.int (b/u)
@[simp] def fy:fP:=ik (λ_ u=>decide (0<u)) λb u=>.int (b%u)
@[simp] def md:fP:=ik (λb u=>decide (0<=u/\u<=1000000/\b.natAbs<2^64)) λb u=>.int (b^u.toNat)
@[simp] def j3:fP:=ik (λ_ Y=>aa) λb u=>.ax (decide (b<u))
@[simp] def ep:fP:=ik (λ_ Y=>aa) λb u=>.ax (decide (b<=u))
@[simp] def pC:fP:=ik (λ_ Y=>aa) λb u=>.ax (decide (u<b))
@[simp] def BR:fP:=ik (λ_ Y=>aa) λb u=>.ax (decide (u<=b))
theorem nK:eA f (fW .Sub) iR:=qO KT λ_ Y Y=>rfl
theorem hZ:eA f (fW .Mult) d8:=r9 MV (λb u d=>by unfold gO at d;unfold IntMulOk;rw[y0]at d;rw[d];exact c9) λ_ Y Y=>rfl
theorem BX:eA f (fW .FloorDiv) nF:=r9 IQ (λb u d=>show 0<u/\u<1073741824 from dT d) λ_ Y Y=>rfl
theorem k9:eA f (fW .Mod) fy:=r9 Nf (λb u d=>dT d) λ_ Y Y=>rfl
theorem tV:eA f (fW .Pow) md:=r9 OD (λb u d=>show 0<=u/\u<=1000000/\b.natAbs<2^64 from dT d) λ_ Y Y=>rfl
theorem tg:eA f (dG .Lt) j3:=qO Pe λ_ Y Y=>rfl
theorem ml:eA f (dG .LtE) ep:=qO KN λ_ Y Y=>rfl
theorem JH:eA f (dG .Gt) pC:=qO QP λ_ Y Y=>rfl
theorem JT:eA f (dG .GtE) BR:=qO OF λ_ Y Y=>rfl
theorem NA:dj f (fW .Add) (λe t h A=>∃g c S2,e=.ref g/\t=.ref c/\b7 f.K h g []/\b7 f.K h c S2/\A (.ref c) h):=by
 intro G j y h e t s I A Y m n d;obtain⟨g,c,S2,rfl,rfl,o,q,p⟩:=d;cases m;cases n;obtain⟨SZ,r,u,W⟩:=Y.tuple o;obtain⟨B,C,Tv,W⟩:=Y.tuple q;have a:SZ=[]:=r.ts.mpr rfl;subst a;obtain⟨⟨cls,w,data,aW⟩,b,i,v,hd⟩:=id u;obtain⟨⟨D,x,data2,z⟩,k,l,TZ,hd2⟩:=id Tv;simp only at i hd l hd2;subst i hd l hd2;exact v6 ⟨_,b,rfl⟩ ⟨_,k,rfl⟩ yR yJ v0 wm (x6 _ _) (tuple_addW0 g c _ _ v TZ w x aW z rfl) ⟨b,k,.ref c,h,Y,rfl,p⟩
@[simp] noncomputable def bH:fP:=λg c=>match g,c with
 |.im (.int b),.im (.int u)=>Z (.im<|.int<|b+u)
 |.im (.tup e),.im (.tup t)=>if e.length+t.length<=100000 then Z (.im<|.tup<|e++t) else X
 |.lst e,.lst t=>if e.length+t.length<=100000 then Z (.lst<|e++t) else X
 |.im (.str e),.im (.str t)=>if e.length+t.length<=100000 then Z (.im<|.str<|e++t) else X
 |_,_=>X
theorem bu.app:∀{g c:List ab}{e t:List as},bu h g e->bu h c t->bu h (g++c) (e++t)
 |[],c,e,t,d,o=>by cases (show e=[] from d);exact o
 |k::g,c,e,t,d,o=>by
  obtain⟨s,r,rfl,l,C⟩:=d;exact⟨s,r++t,rfl,l,C.app o⟩
theorem bu.nil{h:au}{g:List ab}(d:bu h g []):g=[]:=by
 cases g with
 |nil=>rfl
 |cons k g=>obtain⟨Y,Y,a,Y⟩:=d;cases a
theorem cj:eA f (fW .Add) bH:=by
 refine (Q9.or<|NA.or<|Jz.or<|QU.or Hp).imp λe t h A y=>?_;obtain⟨TD,TA,k,q,r,a,p⟩:=y;unfold bH at a;split at a
 ·cases a;exact .inl ⟨_,_,q.i,r.i,bV.i p rfl⟩
 ·rename_i g c;split at a
  ·rename_i j;cases a;obtain⟨n,x,rfl,l,C⟩:=q.i;obtain⟨m,S2,rfl,o,d⟩:=r.i;refine .inr ?_;by_cases u:x=[]
   ·subst u;cases C.nil;exact .inl ⟨n,m,S2,rfl,rfl,b7.of l,b7.of o,bV.i p ⟨m,S2,rfl,o,d⟩⟩
   ·refine .inr (.inl ⟨n,m,x,S2,rfl,rfl,b7.of l,b7.of o,u,ms (by rw[<-C.length,<-d.length];exact j),λw=>?_,λw v s=>bV.t p s<|C.app d⟩);subst w;cases d.nil;rw[bU]at p;exact bV.i p ⟨n,x,rfl,l,C⟩
  ·cases a
 ·rename_i g c;split at a
  ·rename_i j;cases a;obtain⟨Y,n,x,rfl,l,C,Y⟩:=q;obtain⟨Y,m,S2,rfl,o,d,Y⟩:=r;exact .inr (.inr (.inr (.inl ⟨n,m,x,S2,rfl,rfl,l,o,ms (by rw[<-C.length,<-d.length];exact j),λv s=>bV.l p s<|C.app d⟩)))
  ·cases a
 ·rename_i g c;split at a
  ·rename_i j;cases a;exact .inr (.inr<|.inr<|.inr ⟨g,c,q.i,r.i,ms j,bV.i p rfl⟩)
  ·cases a
 ·cases a
theorem NW(v:Nat){O:bp}{e t:ab}{I s:ae}(n:ab.bk v e=aa)(a6:ab.bk v t=aa)(P:O.units+v+2<bP)(o:dR j.heap e I)(d:dR j.heap t s):SeqAt.RcAt O j I s (ck e t):=by
 cases e with
 |aR=>
  cases (show I=.none from o);cases t with
  |aR=>cases (show s=.none from d);exact IH
  |ax c=>cases (show s=.bool c from d);exact Mv c
  |int u=>obtain⟨B,rfl⟩:=d;exact P3 u B
  |str h=>obtain⟨B,rfl⟩:=d;exact QZ h B
  |tup E=>obtain⟨g,m,S_,i,rfl,l,C,k,Y⟩:=d;exact Oq ⟨m,l,C,i,k⟩ (by lia)
  |fn g=>cases v<;>cases a6
  |aN g=>cases v<;>cases a6
  |fd=>cases v<;>cases a6
 |ax c=>
  cases (show I=.bool c from o);cases t with
  |aR=>cases (show s=.none from d);exact JP c
  |ax q=>cases (show s=.bool q from d);exact Jl c q
  |int u=>obtain⟨B,rfl⟩:=d;exact Rs c u B
  |str h=>obtain⟨B,rfl⟩:=d;exact Lw c h B
  |tup E=>obtain⟨g,m,S_,i,rfl,l,C,k,Y⟩:=d;exact Mo c ⟨m,l,C,i,k⟩ (by lia)
  |fn g=>cases v<;>cases a6
  |aN g=>cases v<;>cases a6
  |fd=>cases v<;>cases a6
 |int b=>
  obtain⟨f,rfl⟩:=o;cases t with
  |aR=>cases (show s=.none from d);exact NX b f
  |ax q=>cases (show s=.bool q from d);exact No b f q
  |int u=>obtain⟨B,rfl⟩:=d;exact Lc b f u B
  |str h=>obtain⟨B,rfl⟩:=d;exact J_ b f h B
  |tup E=>obtain⟨g,m,S_,i,rfl,l,C,k,Y⟩:=d;exact Ro b f ⟨m,l,C,i,k⟩ (by lia)
  |fn g=>cases v<;>cases a6
  |aN g=>cases v<;>cases a6
  |fd=>cases v<;>cases a6
 |str b=>
  obtain⟨f,rfl⟩:=o;cases t with
  |aR=>cases (show s=.none from d);exact Oi b f
  |ax q=>cases (show s=.bool q from d);exact Kn b f q
  |int u=>obtain⟨B,rfl⟩:=d;exact NY b f u B
  |str h=>obtain⟨B,rfl⟩:=d;exact Mz b f h B
  |tup E=>obtain⟨g,m,S_,i,rfl,l,C,k,Y⟩:=d;exact Kq b f ⟨m,l,C,i,k⟩ (by lia)
  |fn g=>cases v<;>cases a6
  |aN g=>cases v<;>cases a6
  |fd=>cases v<;>cases a6
 |fn g=>cases v<;>cases n
 |aN g=>cases v<;>cases n
 |fd=>cases v<;>cases n
 |tup E=>
  cases v with
  |zero=>cases n
  |succ v=>
  obtain⟨g,m,S_,i,rfl,l,C,k,w⟩:=o;have TB:j.heap.IsTuple g S_:=⟨m,l,C,i,k⟩;cases t with
  |aR=>cases (show s=.none from d);exact Nz TB (by lia)
  |ax q=>cases (show s=.bool q from d);exact Oo q TB (by lia)
  |int u=>obtain⟨B,rfl⟩:=d;exact P4 u B TB (by lia)
  |str h=>obtain⟨B,rfl⟩:=d;exact M6 h B TB (by lia)
  |fn g=>cases a6
  |aN g=>cases a6
  |fd=>cases a6
  |tup Q=>
   obtain⟨c,Tq,r,F,rfl,G,Tc,TE,x⟩:=d;have TY:j.heap.IsTuple c r:=⟨Tq,G,Tc,F,TE⟩;have y:=w.length;have z:=x.length;have H:S_.toList.length=S_.size:=by simp
   have J:r.toList.length=r.size:=by simp
   rw[H]at y;rw[J]at z;have p:=DE (A:=O) (e:=λu=>ck (E.getD u .aR)<|Q.getD u .aR) TB TY (by lia) λu bE L=>by
    obtain⟨TD,A,M⟩:=w.get (u:=u) (s:=S_[u]) (by rw[ev];simp[bE]);obtain⟨TA,D,N⟩:=x.get (u:=u) (s:=r[u]) (by rw[ev];simp[L]);rw[cp,A,cp,D];exact i3 v (jr n A) (jr a6 D) (by show O.units+1+v+1<bP;lia) M N
   rw[<-y,<-z,ri (E:=E) (Q:=Q) (λu e t g c=>by rw[cp,g,cp,c];rfl)]at p;rw[ck];exact p
@[simp] def dM:fP:=λg c=>match g,c with
 |.im e,.im t=>if (ab.bk 8 e&&ab.bk 8 t)=aa then Z (.im<|.ax<|ck e t) else X
 |.lst e,.lst t=>if (ab.cQ 8 e&&ab.cQ 8 t)=aa then Z (.im<|.ax<|e2 e t) else X
 |_,_=>X
theorem yv:∀{e t:List ab},e.length≠t.length->e2 e t=al
 |[],[],d=>absurd rfl d
 |[],_::_,_=>rfl
 |_::_,[],_=>rfl
 |g::e,c::t,d=>by
  rw[e2,yv (λa=>d (by rw[c7,c7,a])),FB]
theorem pJ{G:List (ai×a0)}(Y:Inv f G y h j){g:ai}{x:List as}{E:List ab}(l:h g=Z (.lst x))(C:bu h E x):∃SZ:List ae,j.heap.IsList g SZ.toArray/\dw j.heap E SZ/\SZ.length=E.length:=by
 obtain⟨c,SZ,v,b,a⟩:=Y.aV g _ l;have:=C.fx Y.aV b;exact⟨SZ,⟨_,a,rfl,v,rfl⟩,this,this.length.symm⟩
theorem hO(be:f.A.units+20<bP):eA f (dG .Eq) dM:=by
 intro G j y h e t s I A Y v z ⟨TD,TA,k,m,o,a,p⟩;unfold dM at a;split at a
 ·rename_i g c;split at a
  ·rename_i d;cases a;rw[cd]at d;exact NW 8 d.1 d.2 (by lia) (m.i.fx Y.aV v) (o.i.fx Y.aV z) f.prog f.w _ _ ⟨.ax _,h,Y,rfl,bV.i p rfl⟩
  ·cases a
 ·rename_i g c;split at a
  ·rename_i d;cases a;rw[cd]at d;obtain⟨W,n,x,rfl,l,C,W⟩:=m;obtain⟨W,bs,S2,rfl,N,P,W⟩:=o;cases v;cases z;obtain⟨R,B,S,r⟩:=pJ Y l C;obtain⟨T,F,U,TZ⟩:=pJ Y N P;by_cases q:g.length=c.length
   ·have:=K0 (A:=f.A) (e:=λu=>ck (g.getD u .aR)<|c.getD u .aR) B F (by rw[cr,cr,r,TZ];exact q) (by lia) λu bE H=>by
     obtain⟨TD,J,m⟩:=S.get (u:=u) (s:=R.toArray[u]) (by simp at bE;simp[bE]);obtain⟨TA,L,o⟩:=U.get (u:=u) (s:=T.toArray[u]) (by simp at H;simp[H]);rw[cp,J,cp,L];exact i3 8 (jr d.1 J) (jr d.2 L) (by show f.A.units+1+8+1<bP;lia) m o
    refine this f.prog f.w _ _ ⟨.ax _,h,Y,rfl,?_⟩;have M:=ri (E:=g) (Q:=c) (a:=λu=>ck (g.getD u .aR)<|c.getD u .aR) (λu e t g c=>by rw[cp,g,cp,c];rfl);rw[<-q,GM,lz,wJ]at M;rw[cr,r,M];exact bV.i p rfl
   ·refine IG (A:=f.A) B F (by rw[cr,cr,r,TZ];simpa using q) (by lia) f.prog f.w _ _ ⟨.ax _,h,Y,rfl,?_⟩;rw[yv q]at p;exact bV.i p rfl
  ·cases a
 ·cases a
end
section
variable{f:aH}
theorem ID(v:Nat){O:bp}{e t:ab}{I s:ae}(n:ab.bk v e=aa)(a6:ab.bk v t=aa)(P:O.units+v+2<bP)(o:dR j.heap e I)(d:dR j.heap t s):SeqAt.RcNeAt O j I s (!ck e t):=by
 cases e with
 |aR=>
  cases (show I=.none from o);cases t with
  |aR=>cases (show s=.none from d);exact R8
  |ax c=>cases (show s=.bool c from d);exact Iy c
  |int u=>obtain⟨B,rfl⟩:=d;exact Qx u B
  |str h=>obtain⟨B,rfl⟩:=d;exact HG h B
  |tup E=>obtain⟨g,m,S_,i,rfl,l,C,k,Y⟩:=d;exact Hz ⟨m,l,C,i,k⟩ (by lia)
  |fn g=>cases v<;>cases a6
  |aN g=>cases v<;>cases a6
  |fd=>cases v<;>cases a6
 |ax c=>
  cases (show I=.bool c from o);cases t with
  |aR=>cases (show s=.none from d);exact Mn c
  |ax q=>cases (show s=.bool q from d);exact N4 c q
  |int u=>obtain⟨B,rfl⟩:=d;exact NG c u B
  |str h=>obtain⟨B,rfl⟩:=d;exact I7 c h B
  |tup E=>obtain⟨g,m,S_,i,rfl,l,C,k,Y⟩:=d;exact IT c ⟨m,l,C,i,k⟩ (by lia)
  |fn g=>cases v<;>cases a6
  |aN g=>cases v<;>cases a6
  |fd=>cases v<;>cases a6
 |int b=>
  obtain⟨f,rfl⟩:=o;cases t with
  |aR=>cases (show s=.none from d);exact OG b f
  |ax q=>cases (show s=.bool q from d);exact LO b f q
  |int u=>obtain⟨B,rfl⟩:=d;exact Hk b f u B
  |str h=>obtain⟨B,rfl⟩:=d;exact Qp b f h B
  |tup E=>obtain⟨g,m,S_,i,rfl,l,C,k,Y⟩:=d;exact Kf b f ⟨m,l,C,i,k⟩ (by lia)
  |fn g=>cases v<;>cases a6
  |aN g=>cases v<;>cases a6
  |fd=>cases v<;>cases a6
 |str b=>
  obtain⟨f,rfl⟩:=o;cases t with
  |aR=>cases (show s=.none from d);exact IR b f
  |ax q=>cases (show s=.bool q from d);exact K8 b f q
  |int u=>obtain⟨B,rfl⟩:=d;exact NV b f u B
  |str h=>obtain⟨B,rfl⟩:=d;exact HM b f h B
  |tup E=>obtain⟨g,m,S_,i,rfl,l,C,k,Y⟩:=d;exact Ke b f ⟨m,l,C,i,k⟩ (by lia)
  |fn g=>cases v<;>cases a6
  |aN g=>cases v<;>cases a6
  |fd=>cases v<;>cases a6
 |fn g=>cases v<;>cases n
 |aN g=>cases v<;>cases n
 |fd=>cases v<;>cases n
 |tup E=>
  cases v with
  |zero=>cases n
  |succ v=>
  obtain⟨g,m,S_,i,rfl,l,C,k,w⟩:=o;have TB:j.heap.IsTuple g S_:=⟨m,l,C,i,k⟩;cases t with
  |aR=>cases (show s=.none from d);exact P1 TB (by lia)
  |ax q=>cases (show s=.bool q from d);exact HQ q TB (by lia)
  |int u=>obtain⟨B,rfl⟩:=d;exact Ip u B TB (by lia)
  |str h=>obtain⟨B,rfl⟩:=d;exact H2 h B TB (by lia)
  |fn g=>cases a6
  |aN g=>cases a6
  |fd=>cases a6
  |tup Q=>
   obtain⟨c,Tq,r,F,rfl,G,Tc,TE,x⟩:=d;have TY:j.heap.IsTuple c r:=⟨Tq,G,Tc,F,TE⟩;have y:=w.length;have z:=x.length;have H:S_.toList.length=S_.size:=by simp
   have J:r.toList.length=r.size:=by simp
   rw[H]at y;rw[J]at z;have p:=OV (A:=O) (e:=λu=>ck (E.getD u .aR)<|Q.getD u .aR) TB TY (by lia) λu bE L=>by
    obtain⟨TD,A,M⟩:=w.get (u:=u) (s:=S_[u]) (by rw[ev];simp[bE]);obtain⟨TA,D,N⟩:=x.get (u:=u) (s:=r[u]) (by rw[ev];simp[L]);rw[cp,A,cp,D];exact i3 v (jr n A) (jr a6 D) (by show O.units+1+v+1<bP;lia) M N
   rw[<-y,<-z,ri (E:=E) (Q:=Q) (λu e t g c=>by rw[cp,g,cp,c];rfl)]at p;rw[ck];exact p
@[simp] def eZ:fP:=λg c=>match g,c with
 |.im e,.im t=>if (ab.bk 8 e&&ab.bk 8 t)=aa then Z (.im<|.ax<|!ck e t) else X
 |.lst e,.lst t=>if (ab.cQ 8 e&&ab.cQ 8 t)=aa then Z (.im<|.ax<|!e2 e t) else X
 |_,_=>X
theorem mF(be:f.A.units+20<bP):eA f (dG .NotEq) eZ:=by
 intro G j y h e t s I A Y v z ⟨TD,TA,k,m,o,a,p⟩;unfold eZ at a;split at a
 ·rename_i g c;split at a
  ·rename_i d;cases a;rw[cd]at d;exact ID 8 d.1 d.2 (by lia) (m.i.fx Y.aV v) (o.i.fx Y.aV z) f.prog f.w _ _ ⟨.ax _,h,Y,rfl,bV.i p rfl⟩
  ·cases a
 ·rename_i g c;split at a
  ·rename_i d;cases a;rw[cd]at d;obtain⟨W,n,x,rfl,l,C,W⟩:=m;obtain⟨W,bs,S2,rfl,N,P,W⟩:=o;cases v;cases z;obtain⟨R,B,S,r⟩:=pJ Y l C;obtain⟨T,F,U,TZ⟩:=pJ Y N P;by_cases q:g.length=c.length
   ·have:=Hx (A:=f.A) (e:=λu=>ck (g.getD u .aR)<|c.getD u .aR) B F (by rw[cr,cr,r,TZ];exact q) (by lia) λu bE H=>by
     obtain⟨TD,J,m⟩:=S.get (u:=u) (s:=R.toArray[u]) (by simp at bE;simp[bE]);obtain⟨TA,L,o⟩:=U.get (u:=u) (s:=T.toArray[u]) (by simp at H;simp[H]);rw[cp,J,cp,L];exact i3 8 (jr d.1 J) (jr d.2 L) (by show f.A.units+1+8+1<bP;lia) m o
    refine this f.prog f.w _ _ ⟨.ax _,h,Y,rfl,?_⟩;have M:=ri (E:=g) (Q:=c) (a:=λu=>ck (g.getD u .aR)<|c.getD u .aR) (λu e t g c=>by rw[cp,g,cp,c];rfl);rw[<-q,GM,lz,wJ]at M;rw[cr,r,M];exact bV.i p rfl
   ·refine KG (A:=f.A) B F (by rw[cr,cr,r,TZ];simpa using q) (by lia) f.prog f.w _ _ ⟨.ax _,h,Y,rfl,?_⟩;rw[yv q]at p;exact bV.i p rfl
  ·cases a
 ·cases a
@[simp] noncomputable def iU(v:Bool):fP:=λg c=>match g,c with
 |.im e,.im .aR=>Z (.im<|.ax<|v != decide (e=.aR))
 |.im (.ax e),.im (.ax t)=>Z (.im<|.ax<|v != (e==t))
 |_,_=>X
theorem BN{k:ab}(d:cq h k s):decide (s=.aR)=decide (k=.aR):=by
 cases k with
 |aR=>cases (show s=.aR from d);rfl
 |ax c=>cases (show s=.ax c from d);rfl
 |int c=>cases (show s=.int c from d);rfl
 |str c=>cases (show s=.str c from d);rfl
 |fn c=>cases (show s=.ref c from d);rfl
 |tup E=>obtain⟨g,x,rfl,Y⟩:=d;rfl
 |aN E=>obtain⟨g,x,m,rfl,Y⟩:=d;rfl
 |fd=>obtain⟨g,m,rfl,Y⟩:=d;rfl
theorem L5:dj f (dG .Is) (λe t h A=>∃g c,e=.ax g/\t=.ax c/\A (.ax<|g==c) h):=by
 intro G j y h e t s I A Y a b ⟨g,c,d,i,p⟩;subst d i;cases a;cases b;refine wpAny_is_plain (by cases g<;>cases c<;>rfl) ⟨.ax<|g==c,h,Y,?_,p⟩;cases g<;>cases c<;>rfl
theorem Io:dj f (dG .IsNot) (λe t h A=>∃g c,e=.ax g/\t=.ax c/\A (.ax<|!(g==c)) h):=by
 intro G j y h e t s I A Y a b ⟨g,c,d,i,p⟩;subst d i;cases a;cases b;refine wpAny_isNot_plain (by cases g<;>cases c<;>rfl) ⟨.ax<|!(g==c),h,Y,?_,p⟩;cases g<;>cases c<;>rfl
theorem Qb:eA f (dG .Is) (iU al):=by
 refine (Ly.or L5).imp λe t h A j=>?_;obtain⟨TD,TA,k,c,d,a,p⟩:=j;unfold iU at a;split at a
 ·rename_i g;cases a;refine .inl ⟨d.i,?_⟩;rw[BN c.i];refine bV.i p ?_;show _=_;rw[z4]
 ·cases a;refine .inr ⟨_,_,c.i,d.i,bV.i p ?_⟩;show _=_;rw[z4]
 ·cases a
theorem uY:eA f (dG .IsNot) (iU aa):=by
 refine (MC.or Io).imp λe t h A j=>?_;obtain⟨TD,TA,k,c,d,a,p⟩:=j;unfold iU at a;split at a
 ·rename_i g;cases a;refine .inl ⟨d.i,?_⟩;rw[BN c.i];refine bV.i p ?_;show _=_;rw[AI]
 ·cases a;refine .inr ⟨_,_,c.i,d.i,bV.i p ?_⟩;show _=_;rw[AI]
 ·cases a
noncomputable def ez{F:Type}[DecidableEq F](M:List (F×ab))(o:F):Option ab:=(M.find? λn=>decide (n.1=o)).map (·.2)
theorem od{F:Type}[DecidableEq F]{h:au}{o:F}:∀{M:List (F×ab)}{T2:List (F×as)},eC h M T2->(∀k,ez M o=Z k->∃s,hu T2 o=Z s/\cq h k s)/\(ez M o=X->hu T2 o=X)
 |_,_,.nil=>⟨(λk a=>by cases a),(λ_=>rfl)⟩
 |_,_,.cons (a:=n) (b:=p) d B=>by
  obtain⟨l,C⟩:=od (o:=o) B;by_cases a:n.1=o
  ·have b:p.1=o:=d.1.symm.trans a;refine⟨λk hd=>?_,λe=>?_⟩
   ·have:∀r,ez (n::r) o=Z n.2:=λr=>by simp[ez,jE,a]
    rw[this]at hd;cases hd;exact⟨p.2,uK b,d.2⟩
   ·have:∀r,ez (n::r) o=Z n.2:=λr=>by simp[ez,jE,a]
    rw[this]at e;cases e
  ·have b:¬ p.1=o:=λf=>a (d.1.trans f);have:∀r,ez (n::r) o=ez r o:=λr=>by simp[ez,jE,a]
   rw[this,tu b];exact⟨l,C⟩
@[simp] def aY:fP:=λg c=>match g,c with
 |.im (.tup E),.im (.int b)=>(d9 E b).map .im
 |.lst E,.im (.int b)=>(d9 E b).map .im
 |.cO E,.im (.int b)=>(d9 E b).map .im
 |.aL M,.im (.tup o)=>if ab.keys 7 o=aa then (ez M o).map .im else X
 |.dm M,.im (.int b)=>(ez M<|.inl b).map .im
 |.dm M,.im (.str b)=>(ez M<|.inr b).map .im
 |_,_=>X
theorem Qg(b:f.A.units+20<bP):ij f (λe t h A=>∃g s,e=.ref g/\gz h g t (Z s)/\A s h):=by
 intro i n G j y h e t s I A Y c d ⟨g,k,a,J,p⟩ SX;subst a;cases c;exact w8 (IM Y J) PySem.F.slot_dict_getitem.lookup (LQ b Y J d λo q l m=>⟨k,h,l,m,p⟩) SX
theorem yY{b:Int}{k:ab}(d:bu h E x)(a:d9 E b=Z k):∃s,d9 x b=Z s/\cq h k s:=by
 unfold d9 at a ⊢;rw[<-d.length];obtain⟨u,c,e⟩:=bB.mp a;obtain⟨s,f,Tc⟩:=d.get e;exact⟨s,by rw[c];exact f,Tc⟩
theorem Po(v:f.A.units+20<bP):ij f (λe t h A=>∃TD TA k,eY h TD e/\eY h TA t/\aY TD TA=Z k/\∀s R SQ,cG h R->cn R k s SQ->SQ.Nodup->(∀g∈SQ,h g=X)->A s R):=by
 refine (KP.or<|Iq.or<|Qg v).imp λe t h A w=>?_;obtain⟨TD,TA,k,r,u,a,p⟩:=w;unfold aY at a;split at a
 ·obtain⟨TV,d,j⟩:=ch.mp a;cases j;obtain⟨n,x,rfl,l,C⟩:=r.i;obtain⟨s,q,Tc⟩:=yY C d;exact .inr (.inl ⟨n,x,_,s,rfl,u.i,b7.of l,q,bV.i p Tc⟩)
 ·obtain⟨TV,d,j⟩:=ch.mp a;cases j;obtain⟨Y,n,x,rfl,l,C,Y⟩:=r;obtain⟨s,q,Tc⟩:=yY C d;exact .inl ⟨n,x,_,s,rfl,u.i,c5.of l,q,bV.i p Tc⟩
 ·obtain⟨TV,d,j⟩:=ch.mp a;cases j;obtain⟨Y,n,x,m,rfl,l,C,Y⟩:=r;obtain⟨s,q,Tc⟩:=yY C d;exact .inl ⟨n,x,_,s,rfl,u.i,.inl<|.inr ⟨m,l⟩,q,bV.i p Tc⟩
 ·rename_i M o;split at a
  ·rename_i y;obtain⟨TV,d,j⟩:=ch.mp a;cases j;obtain⟨Y,n,T2,rfl,l,C,Y⟩:=r;obtain⟨s,q,Tc⟩:=(od C).1 TV d;obtain⟨c,x,rfl,Tj,Tr⟩:=u.i;exact .inr (.inr ⟨n,s,rfl,by rw[<-q];exact gz.t l ⟨y,c,x,rfl,Tj,Tr⟩,bV.i p Tc⟩)
  ·cases a
 ·rename_i M b;obtain⟨TV,d,j⟩:=ch.mp a;cases j;obtain⟨Y,n,T2,rfl,l,C,Y⟩:=r;obtain⟨s,q,Tc⟩:=(od C).1 TV d;refine .inr (.inr ⟨n,s,rfl,?_,bV.i p Tc⟩);rw[show t=ct (.inl b) from u.i,<-q];exact gz.k l
 ·rename_i M b;obtain⟨TV,d,j⟩:=ch.mp a;cases j;obtain⟨Y,n,T2,rfl,l,C,Y⟩:=r;obtain⟨s,q,Tc⟩:=(od C).1 TV d;refine .inr (.inr ⟨n,s,rfl,?_,bV.i p Tc⟩);rw[show t=ct (.inr b) from u.i,<-q];exact gz.k l
 ·cases a
end
end L2
namespace cY
open PySem PySem.Spec PyProof.Rows
section
variable{SR:bw}{D:a9}{O:bp}{SM:ae->ak->Prop}{j:ak}
theorem HE{B aW:ai}{SZ:Array ae}{b8 t:ae}{S SJ:Option Int}{A:ae->ak->Prop}(n:lp j.heap B SZ)(SX:j.heap.IsSliceOf aW b8 t .none)(bk:ku b8 S)(a:ku t SJ)(TN:b5 SZ.size 0 S=0)(l:b5 SZ.size SZ.size SJ=SZ.size)(p:A (.ref B) j):wpAny (aM SR D) O (j2 (.ref B)<|.ref aW) A SM j:=by
 obtain⟨S3,b,c,hd⟩:=id SX;have ty:j.TypeIs (.ref aW) "slice" := ⟨S3,b,c⟩;unfold j2;try with_reducible refine gf ?_
 first|refine ao (aJ ?_)|skip
 refine ao (yc n.typeIs (by decide) ?_);refine ao (jf (name:=ay.ofString "__getitem__") n.typeIs k_<|gW k_ n.typeIs x8 ?_<|yp _ _);show wpAny _ _ (ba.Tuple.tupleItemsOf (.ref B) >>= _) _ _ j;refine ao (y1 n ?_);refine ao (lD ty ?_);rw[aB (by decide)];refine ao (C2 SX bk a ?_);rw[TN,l];show wpAny _ _ (if (((0:Nat):Int)==0&&(1:Int)==1&&(SZ.size-0)==SZ.size)=aa then _ else _) _ _ j;rw[aB (by simp)];refine ao (m:=ba.Tuple.tupleIsExact _) (ao<|lD n.typeIs<|aJ ?_);show wpAny _ _ (if (ae.type "tuple" == ae.type "tuple")=aa then _ else _) _ _ j;rw[aB (by decide)];exact ao (h4<|aJ ⟨_,rfl,aJ p⟩)
end
end cY
namespace L2
open PySem PySem.Spec PyProof.Rows
section
variable{f:aH}
@[simp] noncomputable def gM(J:av aj):av aj:=λw=>(J w).bind λn=>match n.1 with
 |.im (.int b)=>Z (.im<|.int<|-b,n.2)
 |_=>X
variable{J:av aj}{S1:Pos}
theorem jj{g:a8}(d:b4 f g J):b4 f (.UnaryOp .USub g S1) (gM J):=by
 refine dY (Jm Lq d) λy h A a=>?_;obtain⟨w,N,r,S4,st,ah,c,p⟩:=a;obtain⟨⟨e,z⟩,l,C⟩:=bB.mp c;refine⟨w,N,e,z,st,ah,l,λs SU S6 SQ i F j=>?_⟩;dsimp only at C;split at C
 ·rename_i b;cases C;exact⟨b,F.1,p _ SU S6 [] i ⟨rfl,rfl⟩ (by rw[bU];exact j.both)⟩
 ·cases C
noncomputable def Ph(J:av (Option Int)):cH:=λy h A=>∃w N H S4,bo h w y N/\N.Nodup/\J w=Z (H,S4)/\∀R Ti,bo R S4 y Ti->bd h N R Ti->A H R
def s5(f:aH)(a:Option a8)(J:av (Option Int)):Prop:=∀ ⦃n⦄,A2 f a (Ph J) n
theorem BG{a:Option a8}{B Tk:cH}(d:nY f a B)(b:∀y h A,Tk y h A->B y h A):nY f a Tk:=λG j y h A Y c=>d G j y h A Y (b y h A c)
noncomputable def fg:av (Option Int):=λw=>Z (X,w)
@[simp] noncomputable def fp(J:av aj):av (Option Int):=λw=>(J w).bind λn=>match n.1 with
 |.im (.int b)=>Z (Z b,n.2)
 |_=>X
theorem hf:s5 f X fg:=by
 refine BG H4 λy h A a=>?_;obtain⟨w,N,r,S4,st,ah,b,p⟩:=a;cases b;exact p h N st (bd.perm ah<|List.Perm.refl _)
variable{a:a8}
theorem g5(d:b4 f a J):s5 f (Z a) (fp J):=by
 refine BG (HN d) λy h A c=>?_;obtain⟨w,N,r,S4,st,ah,g,p⟩:=c;obtain⟨⟨e,z⟩,l,C⟩:=bB.mp g;refine⟨w,N,e,z,st,ah,l,λs SU S6 SQ i F j=>?_⟩;dsimp only at C;split at C
 ·rename_i b;cases C;exact⟨b,F.1,p SU S6 i j.both⟩
 ·cases C
noncomputable def e6{Ta:Type}(x:List Ta)(S SJ:Option Int):List Ta:=(x.drop<|cY.b5 x.length 0 S).take (cY.b5 x.length x.length SJ-cY.b5 x.length 0 S)
variable{h:au}
theorem bu.drop:∀{E:List ab}{x:List as} (v:Nat),bu h E x->bu h (E.drop v) (x.drop v)
 |E,x,0,d=>d
 |[],x,v+1,d=>by cases (show x=[] from d);exact rfl
 |k::E,x,v+1,d=>by
  obtain⟨s,r,rfl,l,C⟩:=d;exact C.drop v
theorem bu.take:∀{E:List ab}{x:List as} (v:Nat),bu h E x->bu h (E.take v) (x.take v)
 |E,x,0,d=>rfl
 |[],x,v+1,d=>by cases (show x=[] from d);exact rfl
 |k::E,x,v+1,d=>by
  obtain⟨s,r,rfl,l,C⟩:=d;exact⟨s,_,rfl,l,C.take v⟩
theorem bu.cut{E:List ab}{x:List as}(S SJ:Option Int)(d:bu h E x):bu h (e6 E S SJ) (mv x S SJ):=by
 unfold e6 mv;rw[d.length];exact (d.drop _).take _
@[simp] def jO(k:aj)(S SJ:Option Int):Option aj:=match k with
 |.im (.tup E)=>Z (.im<|.tup<|e6 E S SJ)
 |.lst E=>Z (.lst<|e6 E S SJ)
 |.cO E=>Z (.lst<|e6 E S SJ)
 |_=>X
def Oy(SK:PySem.W.Frag):as->Option Int->Option Int->au->cw->Prop:=λe S SJ h A=>∃g x,e=.ref g/\b7 SK h g x/\cY.b5 x.length 0 S=0/\cY.b5 x.length x.length SJ=x.length/\A (.ref g) h
theorem Lb:p5 f (λe S SJ h A=>∃k r,eY h k e/\jO k S SJ=Z r/\bV h r A):=by
 have all:p5 f (Oy f.K):=by
  intro G j y h e s b8 t S SJ aW A Y c SX bk o d;obtain⟨g,x,rfl,D,TN,l,p⟩:=d;cases c;obtain⟨SZ,r,bt,F⟩:=Y.tuple D;have z:SZ.toArray.size=x.length:=by rw[cr];exact r.length.symm
  exact⟨"tuple",_,k_.lookup,bt.typeIs,cY.HE bt SX bk o (by rw[z];exact TN) (by rw[z];exact l) ⟨.ref g,h,Y,rfl,p⟩⟩
 intro G j y h e s b8 t S SJ aW A Y c SX bk o ⟨k,r,w,a,p⟩;unfold jO at a;split at a
 ·rename_i E;cases a;obtain⟨n,x,rfl,l,C⟩:=w.i;by_cases q:cY.b5 x.length 0 S=0/\cY.b5 x.length x.length SJ=x.length
  ·refine all G j y h _ s b8 t S SJ aW A Y c SX bk o ⟨n,x,rfl,b7.of l,q.1,q.2,bV.i p ⟨n,x,rfl,l,?_⟩⟩;have:e6 E S SJ=E:=by
    unfold e6;rw[C.length,q.1,q.2,kG,w4,<-C.length,n4]
   rw[this];exact C
  ·exact LK G j y h _ s b8 t S SJ aW A Y c SX bk o ⟨n,x,rfl,b7.of l,q,λv u=>bV.t p u<|C.cut S SJ⟩
 ·cases a;obtain⟨W,n,x,rfl,l,C,W⟩:=w;exact Gs G j y h _ s b8 t S SJ aW A Y c SX bk o ⟨n,x,rfl,c5.of l,λv u=>bV.l p u<|C.cut S SJ⟩
 ·cases a;obtain⟨W,n,x,m,rfl,l,C,W⟩:=w;exact Gs G j y h _ s b8 t S SJ aW A Y c SX bk o ⟨n,x,rfl,.inl<|.inr ⟨m,l⟩,λv u=>bV.l p u<|C.cut S SJ⟩
 ·cases a
@[simp] def eQ(J:av bl)(H d:av (Option Int)):av aj:=λw=>(J w).bind λn=>(H n.2).bind λp=>(d p.2).bind λr=>(cV r.2 n.1).bind λk=>(jO k p.1 r.1).map λTV=>(TV,r.2)
theorem hl{S SJ:Option a8}{J:av bl}{n o:av (Option Int)}{Tv:Pos}(t:dd f a J)(u:s5 f S n)(v:s5 f SJ o):b4 f (.Subscript a (.Slice S SJ X Tv) S1) (eQ J n o):=by
 refine dY (RU Lb t u v) λy h A x=>?_;obtain⟨w,N,r,S4,st,ah,B,p⟩:=x;obtain⟨⟨e,z⟩,l,C⟩:=bB.mp B;obtain⟨⟨H,M⟩,E,G⟩:=bB.mp C;obtain⟨⟨I,U⟩,L,O⟩:=bB.mp G;obtain⟨k,P,Q⟩:=bB.mp O;obtain⟨TV,R,T⟩:=ch.mp Q;cases T;refine⟨w,N,e,z,st,ah,l,λs SU S6 SQ be Th b=>⟨z,S6,H,M,be,(cF.mp b.ah).1,E,λS5 Tg bs q=>⟨M,Tg,I,U,bs,q.ah,L,λcl co c eq=>?_⟩⟩⟩;have i:=q.seq eq;have ex:hw cl y e s SQ:=Th.mono i.tup λg fd m a=>i.keep g m a λd=>(cF.mp b.ah).2.2 g d g fd rfl;have fn:=b.trans i Th.chg;exact⟨k,_,ex.read c P,R,λD f1 go j F g1 hd=>p D f1 co go (c.mono j.tupS λg Y m a=>j g m a) F<|fn.new j g1 hd c.chg⟩
abbrev hN:=List aj->Option aj
@[simp] noncomputable def cZ:hN:=λE=>match E with
 |[.im (.tup e)]=>Z (.im<|.int e.length)
 |[.lst e]=>Z (.im<|.int e.length)
 |[.cO e]=>Z (.im<|.int e.length)
 |[.hg e]=>Z (.im<|.int e.length)
 |[.dm e]=>Z (.im<|.int e.length)
 |[.im (.str e)]=>if e.length<=100000 then Z (.im<|.int e.length) else X
 |_=>X
variable{T:List as}
theorem ft{k:aj}(d:me h [k] T):∃s,T=[s]/\eY h k s:=by
 obtain⟨s,r,rfl,l,C⟩:=d;cases (show r=[] from C);exact⟨s,rfl,l⟩
theorem Du{k a:aj}(d:me h [k,a] T):∃s I,T=[s,I]/\eY h k s/\eY h a I:=by
 obtain⟨s,r,rfl,l,C⟩:=d;obtain⟨I,rfl,b⟩:=ft C;exact⟨s,I,rfl,l,b⟩
theorem eC.length{F:Type}{H:List (F×ab)}{i:List (F×as)}(d:eC h H i):H.length=i.length:=dX.length d
theorem fj:gQ f (.builtin "len") cZ:=by
 refine (QB.or<|Qi.or H0).imp λx h A e=>?_;obtain⟨E,k,c,a,p⟩:=e;unfold cZ at a;split at a
 ·cases a;obtain⟨s,rfl,d⟩:=ft c;obtain⟨n,x,rfl,l,C⟩:=d.i;exact .inl ⟨n,x,rfl,.inr<|b7.of l,by rw[<-C.length];exact bV.i p rfl⟩
 ·cases a;obtain⟨s,rfl,Y,n,x,rfl,l,C,Y⟩:=ft c;exact .inl ⟨n,x,rfl,.inl<|c5.of l,by rw[<-C.length];exact bV.i p rfl⟩
 ·cases a;obtain⟨s,rfl,Y,n,x,m,rfl,l,C,Y⟩:=ft c;exact .inl ⟨n,x,rfl,.inl<|.inl<|.inr ⟨m,l⟩,by rw[<-C.length];exact bV.i p rfl⟩
 ·cases a;obtain⟨s,rfl,Y,n,x,SV,rfl,l,C,Y⟩:=ft c;exact .inl ⟨n,x,rfl,.inl<|c5.of l,by rw[<-C.length];exact bV.i p rfl⟩
 ·cases a;obtain⟨s,rfl,Y,n,T2,rfl,l,C,Y⟩:=ft c;exact .inr (.inr ⟨n,T2,rfl,l,by rw[<-C.length];exact bV.i p rfl⟩)
 ·split at a
  ·rename_i g;cases a;obtain⟨s,rfl,d⟩:=ft c;cases (show s=_ from d.i);exact .inr (.inl ⟨_,rfl,ms g,bV.i p rfl⟩)
  ·cases a
 ·cases a
@[simp] def i5:hN:=λE=>match E with
 |[k]=>(jl k).map λe=>.im (.tup e)
 |_=>X
@[simp] def lu:hN:=λE=>match E with
 |[k]=>(jl k).map .lst
 |_=>X
theorem mu:gQ f (.type "tuple") i5:=by
 refine Ie.imp λx h A j=>?_;obtain⟨E,k,o,a,p⟩:=j;unfold i5 at a;split at a
 ·obtain⟨e,c,q⟩:=ch.mp a;cases q;obtain⟨s,rfl,d⟩:=ft o;unfold jl at c;split at c
  ·cases c;obtain⟨n,x,rfl,l,C⟩:=d.i;exact⟨n,x,rfl,.inr ⟨b7.of l,bV.i p ⟨n,x,rfl,l,C⟩⟩⟩
  ·cases c;obtain⟨Y,n,x,rfl,l,C,Y⟩:=d;exact⟨n,x,rfl,.inl ⟨c5.of l,λH g=>bV.t p g C⟩⟩
  ·cases c;obtain⟨Y,n,x,m,rfl,l,C,Y⟩:=d;exact⟨n,x,rfl,.inl ⟨.inl<|.inr ⟨m,l⟩,λH g=>bV.t p g C⟩⟩
  ·cases c
 ·cases a
theorem t4:gQ f (.type "list") lu:=by
 refine Kk.imp λx h A j=>?_;obtain⟨E,k,o,a,p⟩:=j;unfold lu at a;split at a
 ·obtain⟨e,c,q⟩:=ch.mp a;cases q;obtain⟨s,rfl,d⟩:=ft o;unfold jl at c;split at c
  ·cases c;obtain⟨n,x,rfl,l,C⟩:=d.i;exact⟨n,x,rfl,.inr<|b7.of l,λH g=>bV.l p g C⟩
  ·cases c;obtain⟨Y,n,x,rfl,l,C,Y⟩:=d;exact⟨n,x,rfl,.inl<|c5.of l,λH g=>bV.l p g C⟩
  ·cases c;obtain⟨Y,n,x,m,rfl,l,C,Y⟩:=d;exact⟨n,x,rfl,.inl<|.inl<|.inr ⟨m,l⟩,λH g=>bV.l p g C⟩
  ·cases c
 ·cases a
@[simp] noncomputable def vInt:hN:=λE=>match E with
 |[.im (.int b)]=>Z (.im<|.int b)
 |[.im (.ax c)]=>Z (.im<|.int<|if c then 1 else 0)
 |_=>X
theorem HC:gQ f (.type "int") vInt:=by
 refine Se.imp λx h A e=>?_;obtain⟨E,k,c,a,p⟩:=e;unfold vInt at a;split at a
 ·cases a;obtain⟨s,rfl,d⟩:=ft c;cases (show s=_ from d.i);exact .inl ⟨_,rfl,bV.i p rfl⟩
 ·cases a;obtain⟨s,rfl,d⟩:=ft c;cases (show s=_ from d.i);exact .inr ⟨_,rfl,bV.i p rfl⟩
 ·cases a
@[simp] noncomputable def tv:hN:=λE=>match E with
 |[.im (.int b),.im<|.int u]=>Z (.im<|.int<|if u>b then u else b)
 |_=>X
@[simp] noncomputable def uN:hN:=λE=>match E with
 |[.im (.int b),.im<|.int u]=>Z (.im<|.int<|if u<b then u else b)
 |_=>X
theorem RH(c:f.calm=aa):gQ f (.builtin "max") tv:=by
 refine (QK c).imp λx h A e=>?_;obtain⟨E,k,g,a,p⟩:=e;unfold tv at a;split at a
 ·cases a;obtain⟨s,I,rfl,d,o⟩:=Du g;cases (show s=_ from d.i);cases (show I=_ from o.i);exact⟨_,_,rfl,bV.i p rfl⟩
 ·cases a
theorem KS(c:f.calm=aa):gQ f (.builtin "min") uN:=by
 refine (P6 c).imp λx h A e=>?_;obtain⟨E,k,g,a,p⟩:=e;unfold uN at a;split at a
 ·cases a;obtain⟨s,I,rfl,d,o⟩:=Du g;cases (show s=_ from d.i);cases (show I=_ from o.i);exact⟨_,_,rfl,bV.i p rfl⟩
 ·cases a
@[simp] noncomputable def k5:List ab->Option (List Bool)
 |[]=>Z []
 |.ax c::E=>(k5 E).map λr=>c::r
 |_::_=>X
theorem v1{h:au}:∀{E:List ab}{x:List as}{F:List Bool},bu h E x->k5 E=Z F->x=F.map as.ax
 |[],x,F,d,a=>by cases a;exact d
 |.ax c::E,x,F,d,a=>by
  obtain⟨s,r,rfl,l,C⟩:=d;rw[k5]at a;obtain⟨n,b,e⟩:=ch.mp a;cases e;cases (show s=.ax c from l);rw[v1 C b];rfl
 |.aR::_,_,_,_,a=>by cases a
 |.int _::_,_,_,_,a=>by cases a
 |.str _::_,_,_,_,a=>by cases a
 |.tup _::_,_,_,_,a=>by cases a
 |.fn _::_,_,_,_,a=>by cases a
 |.aN _::_,_,_,_,a=>by cases a
 |.fd::_,_,_,_,a=>by cases a
@[simp] def h3:hN:=λE=>match E with
 |[.lst e]=>(k5 e).map λF=>.im (.ax<|F.all id)
 |_=>X
@[simp] def qR:hN:=λE=>match E with
 |[.lst e]=>(k5 e).map λF=>.im (.ax<|F.any id)
 |_=>X
theorem pB(c:f.calm=aa):gQ f (.builtin "all") h3:=by
 refine (Nb c).imp λx h A d=>?_;obtain⟨E,k,g,a,p⟩:=d;unfold h3 at a;split at a
 ·obtain⟨e,j,m⟩:=ch.mp a;cases m;obtain⟨s,rfl,Y,n,x,rfl,l,C,Y⟩:=ft g;rw[v1 C j]at l;exact⟨n,e,rfl,l,bV.i p rfl⟩
 ·cases a
end
section
variable{f:aH}
theorem Mw(k:f.calm=aa):eu f (.builtin "any") (λx h A=>∃H F,x=[.ref H]/\h H=Z (.lst<|List.map as.ax F)/\A (.ax<|F.any id) h):=by
 intro G j y h x S7 A Y r d;obtain⟨H,F,rfl,l,p⟩:=d;obtain⟨I,rfl,m⟩:=he r;cases m;obtain⟨u,SZ,v,e,a⟩:=Y.aV H _ l;have g:j.heap.IsList H SZ.toArray:=⟨_,a,rfl,v,rfl⟩;refine call_any_walk (u7 g ⟨j.heap.objs.size,[j.heap.objs.size,H],[j.heap.objs.size],SZ.toArray.size,_,_,λb=>(F[b]?).getD al,rfl,i1.list (A:=f.A.in1) (Y.ok.hd k) _ H (cT<|bX a) SZ.toArray,
  ⟨⟨_,da _ rfl,rfl,rfl⟩,g.push _⟩,λb s SN w z n i=>?_,λU Tu o=>?_⟩)
 ·obtain⟨c,q,rfl⟩:=A4 e b s (by simpa using n);simp only[q,n2]at i;exact lE i
 ·have t:SZ.toArray.size=F.length:=by
   have:=e.length;rw[a5]at this;rw[cr,this]
  rw[t,LSm.range_any];exact⟨.ax _,h,Y.kept<|Ew o,rfl,p⟩
theorem I8(c:f.calm=aa):gQ f (.builtin "any") qR:=by
 refine (Mw c).imp λx h A d=>?_;obtain⟨E,k,g,a,p⟩:=d;unfold qR at a;split at a
 ·obtain⟨e,j,m⟩:=ch.mp a;cases m;obtain⟨s,rfl,Y,n,x,rfl,l,C,Y⟩:=ft g;rw[v1 C j]at l;exact⟨n,e,rfl,l,bV.i p rfl⟩
 ·cases a
noncomputable def vq:aj->Option Nat
 |.im (.int _)=>Z 0
 |.im (.ax _)=>Z 1
 |.im (.str _)=>Z 2
 |.im (.tup _)=>Z 3
 |.im .aR=>Z 4
 |.lst _=>Z 4
 |.im (.aN _)=>Z 4
 |.im .fd=>Z 4
 |.aL _=>Z 4
 |.dm _=>Z 4
 |_=>X
@[simp] def vy(L:String)(k:aj):Option Bool:=
 (vq k).bind λo=>if L = "int" then Z (o==0 || o==1) else if L = "bool" then Z (o==1) else if L = "str" then Z (o==2) else if L = "tuple" then Z (o==3) else X
variable{L:String}{c:Bool}
theorem NL{k:aj}(d:vy L k=Z c):∃o,vq k=Z o/\((L = "int" /\ c=(o==0 || o==1))\/(L = "bool" /\ c=(o==1))\/(L = "str" /\ c=(o==2))\/(L = "tuple" /\ c=(o==3))):=by
 obtain⟨o,a,d⟩:=bB.mp d;refine⟨o,a,?_⟩;by_cases l:L = "int"
 ·rw[aB l]at d;cases d;exact .inl ⟨l,rfl⟩
 rw[aG l]at d;by_cases C:L = "bool"
 ·rw[aB C]at d;cases d;exact .inr (.inl ⟨C,rfl⟩)
 rw[aG C]at d;by_cases b:L = "str"
 ·rw[aB b]at d;cases d;exact .inr (.inr<|.inl ⟨b,rfl⟩)
 rw[aG b]at d;by_cases e:L = "tuple"
 ·rw[aB e]at d;cases d;exact .inr (.inr<|.inr ⟨e,rfl⟩)
 rw[aG e]at d;cases d
theorem nl{O Tf az w SS:Prop}(d:O\/Tf\/az\/w)(g:O->SS)(c:Tf->SS)(q:az->SS)(k:w->SS):SS:=d.elim g λd=>d.elim c λd=>d.elim q k
variable{G:List (ai×a0)}{h:au}{j:ak}
theorem D0{y:St}(Y:Inv f G y h j){g:ai}(d:(∃o,h g=Z (.aL o))\/∃o,h g=Z (.dm o)):∃m,j.heap.get? g=Z m/\m.cls=.type "dict" := by
 rcases d with ⟨o,d⟩|⟨o,d⟩
 ·obtain⟨W,W,x,W,m,Q,Td,l,C,W⟩:=(show eU f.prog f.w h j.heap g (.aL o) from Y.aV g _ d);exact⟨m,l,C.1⟩
 ·obtain⟨W,W,T,W,m,Q,Td,l,C,W⟩:=(show eU f.prog f.w h j.heap g (.dm o) from Y.aV g _ d);exact⟨m,l,C.1⟩
theorem Qv{y:St}(Y:Inv f G y h j){g:ai}{n:a0}(d:h g=Z (.de n<|.aL [])):∃m,j.heap.get? g=Z m/\m.cls=.type "dict" := by
 obtain⟨W,W,W,x,W,m,Q,Td,l,C,W⟩:=(show eU f.prog f.w h j.heap g (.de n<|.aL []) from Y.aV g _ d);exact⟨m,l,C.1⟩
theorem Hw:eu f (.builtin "isinstance") (λx h A=>∃e L k c,x=[e,.ty L]/\eY h k e/\vy L k=Z c/\A (.ax c) h):=by
 intro G j y h x S7 A Y r d;obtain⟨e,L,k,c,rfl,q,SJ,p⟩:=d;have J:=r;cases r with
 |cons r E=>
  cases E with
  |cons TG E=>
   cases E;cases TG;have s:∀{c:Bool},A (.ax c) h->d4 f G y A (.bool c) {j with toks:=j.toks+1}:=λ{c} p=>⟨.ax c,h,Y.tok _,rfl,p⟩;obtain⟨o,n,u⟩:=NL SJ;have t:c=al->A (.ax al) h:=λa=>a ▸ p;have F:∀{g:ai},o=4->(∃m,j.heap.get? g=Z m/\m.cls=.type "dict")->wpAny (aM f.prog f.w) f.A (call (.builtin "isinstance") [.ref g,.type L]) (d4 f G y A) f.ce j:=by
    rintro g rfl ⟨m,z,B⟩;refine nl u (λ⟨a,P⟩=>a ▸ IsiPair.dict_int z B (s<|t P)) (λ⟨a,P⟩=>a ▸ IsiPair.dict_bool z B (s<|t P)) (λ⟨a,P⟩=>a ▸ IsiPair.dict_str z B (s<|t P)) λH=>?_;obtain⟨a,P⟩:=H;exact a ▸ IsiPair.dict_tuple z B (s<|t P)
   have v:Cz f.K h e L c->wpAny (aM f.prog f.w) f.A (call (.builtin "isinstance") [_,.type L]) (d4 f G y A) f.ce j:=λM=>J6 G j y h _ _ A Y J ⟨e,L,c,rfl,M,p⟩;have I:∀{g:ai}{x:List as},o=4->e=.ref g->c5 f.K h g x->wpAny (aM f.prog f.w) f.A (call (.builtin "isinstance") [_,.type L]) (d4 f G y A) f.ce j:=λ{g x} n a N=>by
    subst n;exact v (.inr<|.inr<|.inr<|.inr ⟨g,x,a,N,nl u (λd=>.inr<|.inl d) (λd=>.inr<|.inr<|.inr<|.inl d) (λd=>.inr<|.inr<|.inl d) λd=>.inr<|.inr<|.inr<|.inr d⟩)
   unfold vq at n;split at n
   ·cases n;exact v (.inl ⟨_,q.i,nl u .inl (λd=>.inr<|.inr<|.inr<|.inl d) (λd=>.inr<|.inr<|.inl d) λd=>.inr<|.inl d⟩)
   ·cases n;exact v (.inr<|.inl ⟨_,q.i,nl u (λd=>.inr<|.inl d) .inl (λd=>.inr<|.inr<|.inr<|.inl d) λd=>.inr<|.inr<|.inl d⟩)
   ·cases n;exact v (.inr<|.inr<|.inl ⟨_,q.i,nl u (λd=>.inr<|.inl d) (λd=>.inr<|.inr<|.inr<|.inl d) .inl λd=>.inr<|.inr<|.inl d⟩)
   ·cases n;obtain⟨g,x,a,l,C⟩:=q.i;exact v (.inr<|.inr<|.inr<|.inl ⟨g,x,a,b7.of l,nl u (λd=>.inr<|.inl d) (λd=>.inr<|.inr<|.inr<|.inl d) (λd=>.inr<|.inr<|.inl d) .inl⟩)
   ·cases n;cases (show e=.aR from q.i);cases r;refine nl u (λ⟨a,P⟩=>a ▸ IsiPair.NoneType_int (s<|t P)) (λ⟨a,P⟩=>a ▸ IsiPair.NoneType_bool (s<|t P)) (λ⟨a,P⟩=>a ▸ IsiPair.NoneType_str (s<|t P)) λH=>?_;obtain⟨a,P⟩:=H;exact a ▸ IsiPair.NoneType_tuple (s<|t P)
   ·cases n;obtain⟨W,g,x,a,l,C,W⟩:=q;exact I rfl a (c5.of l)
   ·cases n;obtain⟨g,x,m,a,l,C⟩:=q.i;exact I rfl a (.inl<|.inr ⟨m,l⟩)
   ·cases n;obtain⟨g,m,rfl,l⟩:=q.i;cases r;exact F rfl (Qv Y l)
   ·cases n;obtain⟨W,g,x,rfl,l,C,W⟩:=q;cases r;exact F rfl (D0 Y<|.inl ⟨_,l⟩)
   ·cases n;obtain⟨W,g,x,rfl,l,C,W⟩:=q;cases r;exact F rfl (D0 Y<|.inr ⟨_,l⟩)
   ·cases n
@[simp] def lR(L:String)(J:av bl):av aj:=λw=>(J w).bind λn=>(cV n.2 n.1).bind λk=>(vy L k).map λc=>(.im<|.ax c,n.2)
variable{e:ay}{a:a8}{J:av bl}{S1:Pos}
theorem mY{n Tv:Pos}(i:dU f "isinstance")(j:f.aw "isinstance" = X)(o:eE "isinstance" = Z (.builtin "isinstance"))(q:dU f e)(t:f.aw e=X)(u:eE e=Z (.type L))(d:dd f a J)(v:e ≠ "__name__" := by decide)(hd:(e==("__debug__" : ay))=al:=by decide)(b:bG [a,.Name e Tv] f.env=(al,bQ a f.env)::bG [.Name e Tv] f.env:=by rfl)(x:bG [.Name e Tv] f.env=(al,bQ (.Name e Tv) f.env)::bG [] f.env:=by rfl)(B:(eJ S1<|bG [.Name e Tv] f.env).any (·.1)=al:=by rfl):b4 f (.Call (.Name "isinstance" n) [a,.Name e Tv] [] S1) (lR L J):=by
 refine dY (BI Hw i j o (sZ d (sZ (RZ (s:=.ty L) q t u rfl v hd) wy x) b) (by decide) (by decide) b B) λy h A D=>?_;obtain⟨w,N,r,S4,st,ah,E,p⟩:=D;obtain⟨⟨m,z⟩,l,C⟩:=bB.mp E;obtain⟨k,F,G⟩:=bB.mp C;obtain⟨c,H,I⟩:=ch.mp G;cases I;exact⟨w,N,m,z,st,ah,l,λs SU S6 SQ g Th M=>⟨s,L,k,c,rfl,Th.read g F,H,p _ SU S6 [] g ⟨rfl,rfl⟩ (by rw[bU];exact M.both)⟩⟩
@[simp] noncomputable def oy:aj->Option Bool
 |.im .aR=>Z al
 |.im (.ax c)=>Z c
 |.im (.int b)=>Z (b != 0)
 |.im (.str e)=>if e.length<=100000 then Z ((e.length:Int) != 0) else X
 |.im (.tup E)=>Z (!E.isEmpty)
 |.lst E=>Z (!E.isEmpty)
 |.cO E=>Z (!E.isEmpty)
 |.dm M=>Z (!M.isEmpty)
 |_=>X
theorem bu.emp{E:List ab}{x:List as}(d:bu h E x):(!x.isEmpty)=!E.isEmpty:=by
 cases E with
 |nil=>cases (show x=[] from d);rfl
 |cons k E=>obtain⟨s,r,rfl,Y⟩:=d;rfl
theorem QA{k:aj}{s:as}(d:eY h k s)(a:oy k=Z c):wb f.K s h c:=by
 unfold oy at a;split at a
 ·cases a;cases (show s=_ from d.i);rfl
 ·cases a;cases (show s=_ from d.i);rfl
 ·cases a;cases (show s=_ from d.i);rfl
 ·split at a
  ·rename_i e;cases a;cases (show s=_ from d.i);exact⟨ms e,rfl⟩
  ·cases a
 ·cases a;obtain⟨n,x,rfl,l,C⟩:=d.i;exact .inr (.inl ⟨x,b7.of l,C.emp.symm⟩)
 ·cases a;obtain⟨Y,n,x,rfl,l,C,Y⟩:=d;exact .inl ⟨x,c5.of l,C.emp.symm⟩
 ·cases a;obtain⟨Y,n,x,m,rfl,l,C,Y⟩:=d;exact .inl ⟨x,.inl<|.inr ⟨m,l⟩,C.emp.symm⟩
 ·cases a;obtain⟨Y,n,T2,rfl,l,C,Y⟩:=d;refine .inr (.inr ⟨T2,l,?_⟩);cases C<;>rfl
 ·cases a
@[simp] def fv(J:av bl):av Bool:=λw=>(J w).bind λn=>(cV n.2 n.1).bind λk=>(oy k).map λc=>(c,n.2)
theorem jP(d:dd f a J)(g:∀b,o2 a f.env b=(do let s <-b;standAt a.pos;holding [s] (truthy s)):=by intro Y;rfl):g0 f a (fv J):=by
 refine sT (R6 d g) λy h A i=>?_;obtain⟨w,N,c,S4,st,ah,j,p⟩:=i;obtain⟨⟨m,z⟩,l,C⟩:=bB.mp j;obtain⟨k,n,o⟩:=bB.mp C;obtain⟨u,q,r⟩:=ch.mp o;cases r;exact⟨w,N,m,z,st,ah,l,λs SU S6 SQ e Th t=>⟨_,QA (Th.read e n) q,p SU S6 e t.both⟩⟩
theorem j8{b:Int}{B:gR}(a:dU f e)(c:f.aw e=Z (.int b B))(hd:(e==("__debug__" : ay))=al:=by decide):b4 f (.Name e S1) (aq<|.int b):=oT (yE (s:=.int b) a c ⟨B,rfl⟩ hd) λ_=>rfl
theorem zK{P:ai}(a:dU f e)(b:f.aw e=Z (.ref P))(hd:(e==("__debug__" : ay))=al:=by decide):b4 f (.Name e S1) (aq<|.fn P):=oT (yE (s:=.ref P) a b rfl hd) λ_=>rfl
end
variable{T6 H:Pos}{m:a8}{id L:String}{name:ay}{J:av (List bl)}{b:Nat}{ty:aj->Bool}{SK:PySem.W.Frag}{Tq:fM}{g:ai}{h:au}
theorem bd.chg{N S6:List ai}(c:g∈N)(q:gn h g)(ah:S6.Nodup)(b9:∀e∈S6,e∈N):bd h N (upd h g Tq) S6:=by
 obtain⟨m,a,bt,d⟩:=q;refine⟨λe I Tz b=>?_,λe b=>.inl<|b9 e b,ah,eO.of (λe x Tz=>?_)<|λe n I Tz=>?_,λe I Tz=>?_⟩
 ·rw[cB (λf=>b (by rw[f];exact c))];exact Tz
 ·rw[cB]
  ·exact Tz
  ·rintro rfl;rw[a]at Tz;exact bt x (Option.some.inj Tz)
 ·rw[cB]
  ·exact Tz
  ·rintro rfl;rw[a]at Tz;exact d n I (Option.some.inj Tz)
 ·by_cases b:e=g
  ·subst b;exact⟨Tq,ec⟩
  ·exact⟨I,(cB b).trans Tz⟩
theorem cq.k2(q:gn h g):pl h (upd h g Tq):=(bd.chg (N:=[g]) (S6:=[]) (.head _) q io<|λe a=>nomatch a).tup.tup
def pg(f:aH)(id:String)(mt:aj->List aj->Option (aj×aj)):Prop:=
 wT f id λe T h A=>∃q E r a SQ S0,cn h q e SQ/\di h E T S0/\(SQ++S0).Nodup/\mt q E=Z (r,a)/\∀s R b bO,cn R r s b->cn R a e bO->bd h (SQ++S0) R (b++bO)->A s R
@[simp] noncomputable def hH:aj->Bool
 |.lst _=>aa
 |.hg _=>aa
 |_=>al
@[simp] def fS(ty:aj->Bool)(b:Nat)(mt:aj->List aj->Option (aj×aj))(J:av (List bl)):av aj:=λw=>match w[b]? with
 |some (Z a)=>if ty a=aa then (J w).bind λn=>(dZ n.1 n.2).bind λp=>match p.2[b]? with
   |some (Z q)=>(mt q p.1).map λr=>(r.1,p.2.set b<|Z r.2)
   |_=>X
  else X
 |_=>X
theorem BE{mt:aj->List aj->Option (aj×aj)}{y:St}{A:cw}(G:∀h q e SQ,cn h q e SQ->ty q=aa->mE SK L e h)(d:l3 (fS ty b mt J) y h A):∃e,y[b]?=Z (Z e)/\mE SK L e h/\f8 J y h λT S5=>∃q E r f SQ S0,cn S5 q e SQ/\di S5 E T S0/\(SQ++S0).Nodup/\mt q E=Z (r,f)/\∀s R j bO,cn R r s j->cn R f e bO->bd S5 (SQ++S0) R (j++bO)->A s R:=by
 obtain⟨w,N,r,S4,st,ah,c,p⟩:=d;unfold fS at c;split at c
 ·rename_i H I;split at c
  ·rename_i bt;obtain⟨e,g1,hd,k,P,Y,Y⟩:=st.out I;refine⟨e,k,G h H e _ P bt,?_⟩;obtain⟨⟨S3,z⟩,l,C⟩:=bB.mp c;obtain⟨⟨E,M⟩,Q,i⟩:=bB.mp C;refine⟨w,N,S3,z,st,ah,l,λT SU S6 j S Th U=>?_⟩;obtain⟨Tg,S0,be,F,Te⟩:=kV S Th Q;dsimp only at i;split at i
   ·rename_i q bs;obtain⟨⟨TG,f⟩,cl,co⟩:=ch.mp i;cases co;obtain⟨im,SQ,o,t,eq,u,ex⟩:=be.out bs;rw[k]at t;cases t;have v:bd h N SU ((SQ++S0)++o):=U.iT (Te.symm.trans ((eB S0 ex.symm).trans (by
     rw[a_];exact cW)))
    have x:=cF.mp v.ah;refine⟨q,E,_,f,SQ,S0,eq,F,x.1,cl,λs R O Tf fd il n=>?_⟩;have fn:bo R (M.set b<|Z .dy) y o:=u.mono n.tup λg f1 m a=>n.keep g m a λd=>x.2.2 g d g f1 rfl;obtain⟨B,SV,D,go⟩:=fn.back il k;rw[xE]at D;refine p s R B O D fd ((v.trans n u.chg).less (az:=SV) ?_);rw[a_];refine (dL B cW).trans ?_;rw[<-a_];refine (eB O go).trans ?_;rw[a_];refine cW.trans ?_;rw[a_];refine cW.trans ?_;rw[a_,a_];refine (dL O ?_);exact cW
   ·cases i
  ·cases c
 ·cases c
section
variable{f:aH}
theorem jt:∀(h:au) (q:aj) (e:as) (SQ:List ai),cn h q e SQ->hH q=aa->mE SK "list" e h:=by
 intro h q e SQ d a;cases q with
 |lst E=>obtain⟨g,x,rfl,l,Y⟩:=d;exact .inl ⟨rfl,x,c5.of l⟩
 |hg E=>obtain⟨g,x,SV,rfl,l,Y⟩:=d;exact .inl ⟨rfl,x,c5.of l⟩
 |_=>cases a
theorem kz{mt:aj->List aj->Option (aj×aj)}{a:a8}{Q:List a8}(c:∀h q e SQ,cn h q e SQ->ty q=aa->mE f.K L e h)(bN:ul L)(T1:Slot L name id)(bt:n_ (.builtin id)=pure (.type "method_descriptor"))(g:pg f id mt)(i:bC f m (lq b))(j:eR f (a::Q) J)(k:oA m name f.env (bQ m f.env)=bQ m f.env:=by rfl)(n:((eJ T6<|bG (a::Q) f.env).all (λe=>!e.1)&&(s8 T6<|sN [] f.env).all (λe=>e.1.isSome)
   && decide ((a::Q).length+([]:List lv).length+(if ([]:List lv).isEmpty then 0 else 1)<30))=aa:=by rfl)(o:(H.endLine==T6.line)=aa:=by rfl)(SX:bG (a::Q) f.env=(al,bQ a f.env)::bG Q f.env:=by rfl)(p:(eJ T6<|bG Q f.env).any (·.1)=al:=by rfl):
  b4 f (.Call (.Attribute m name H) (a::Q) [] T6) (fS ty b mt J):=
 dY (HD bN T1 bt g i j k n o SX p) λy h A d=>by
  obtain⟨e,r,l,C⟩:=BE c d;exact⟨e,r,l,C⟩
theorem MO{mt:aj->List aj->Option (aj×aj)}(a:∀h q e SQ,cn h q e SQ->ty q=aa->mE f.K L e h)(bN:ul L)(T1:Slot L name id)(bt:n_ (.builtin id)=pure (.type "method_descriptor"))(c:pg f id mt)(g:bC f m (lq b))(i:oA m name f.env (bQ m f.env)=bQ m f.env:=by rfl)(j:(H.endLine==T6.line)=aa:=by rfl):
  b4 f (.Call (.Attribute m name H) [] [] T6) (fS ty b mt am):=
 dY (Hj bN T1 bt c g i j) λy h A d=>by
  obtain⟨e,k,l,C⟩:=BE a d;refine⟨e,k,l,?_⟩;obtain⟨w,N,r,S4,st,ah,n,p⟩:=C;cases n;exact p [] h N [] st ⟨rfl,rfl⟩ (by rw[bU];exact bd.perm ah (List.Perm.refl _))
@[simp] noncomputable def hm:aj->List aj->Option (aj×aj):=λq E=>match q,E with
 |.lst x,[.im k]=>if x.length<100000 then Z (.im .aR,.lst<|x++[k]) else X
 |_,_=>X
theorem wS{v:Nat}(d:v<100000):v<sizeLine:=fs d (by decide)
theorem pu:pg f "list.append" hm:=by
 intro G j y h e T s S7 A Y b c ⟨q,E,r,o,SQ,S0,d,i,ah,a,p⟩;unfold hm at a;split at a
 ·split at a
  ·rename_i k;cases a;obtain⟨g,S2,rfl,l,C,rfl⟩:=d;obtain⟨t,B,u,v,rfl,⟨m,rfl⟩,⟨rfl,rfl⟩,rfl⟩:=i;have q:gn h g:=⟨_,l,(λ_ a=>by cases a),(λ_ W a=>by cases a)⟩;refine PV G j y h _ _ s S7 A Y b c ⟨g,S2,t,rfl,rfl,l,wS (by rw[<-C.length];exact k),p .aR _ [] [g] ⟨rfl,rfl⟩ ?_ (bd.chg (.head _) q (er _ _) λe n=>by simpa using n)⟩;exact⟨g,_,rfl,ec,(C.snoc m).mono<|cq.k2 q,rfl⟩
  ·cases a
 ·cases a
@[simp] noncomputable def yw:aj->List aj->Option (aj×aj):=λq E=>match q,E with
 |.lst x,[]=>(x.getLast?).map λk=>(.im k,.lst x.dropLast)
 |_,_=>X
theorem bu.last{E:List ab}{x:List as}{k:ab}(d:bu h E x)(a:E.getLast?=Z k):∃s,x[x.length-1]?=Z s/\cq h k s/\bu h E.dropLast x.dropLast:=by
 rw[AA]at a;obtain⟨s,b,Tc⟩:=d.get a;refine⟨s,by rw[<-d.length];exact b,Tc,?_⟩;rw[xI,xI,<-d.length];exact d.take _
theorem HS:pg f "list.pop" yw:=by
 intro G j y h e T s S7 A Y b c ⟨q,E,r,v,SQ,S0,d,i,ah,a,p⟩;unfold yw at a;split at a
 ·obtain⟨k,m,n⟩:=ch.mp a;cases n;obtain⟨g,S2,rfl,l,C,rfl⟩:=d;obtain⟨rfl,rfl⟩:=i;obtain⟨t,o,Tc,TE⟩:=C.last m;have q:gn h g:=⟨_,l,(λ_ a=>by cases a),(λ_ W a=>by cases a)⟩;refine Mr G j y h _ _ s S7 A Y b c ⟨g,S2,t,rfl,rfl,l,o,p t _ [] [g] ⟨Tc.mono<|cq.k2 q,rfl⟩ ?_ (bd.chg (.head _) q (er _ _) λe u=>by simpa using u)⟩;exact⟨g,_,rfl,ec,TE.mono<|cq.k2 q,rfl⟩
 ·cases a
@[simp] noncomputable def ps:aj->List aj->Option (aj×aj):=λq E=>match q,E with
 |.lst x,[.im (.int b)]=>if 0<=b/\b<x.length then (x[b.toNat]?).map λk=>(.im k,.lst<|x.eraseIdx b.toNat) else X
 |_,_=>X
theorem bu.erase:∀{E:List ab}{x:List as} (v:Nat),bu h E x->bu h (E.eraseIdx v) (x.eraseIdx v)
 |[],x,v,d=>by cases (show x=[] from d);exact rfl
 |k::E,x,0,d=>by obtain⟨s,r,rfl,l,C⟩:=d;exact C
 |k::E,x,v+1,d=>by obtain⟨s,r,rfl,l,C⟩:=d;exact⟨s,_,rfl,l,C.erase v⟩
theorem LP:pg f "list.pop" ps:=by
 intro G j y h e T s S7 A Y c d ⟨q,E,r,x,SQ,S0,i,m,ah,a,p⟩;unfold ps at a;split at a
 ·rename_i b;split at a
  ·rename_i SJ;obtain⟨k,n,o⟩:=ch.mp a;cases o;obtain⟨g,S2,rfl,l,C,rfl⟩:=i;obtain⟨t,B,z,D,rfl,⟨u,rfl⟩,⟨rfl,rfl⟩,rfl⟩:=m;cases (show t=.int b from u);obtain⟨t,v,Tc⟩:=C.get n;have q:gn h g:=⟨_,l,(λ_ a=>by cases a),(λ_ W a=>by cases a)⟩;have F:S2.length<=sizeLine:=(Y.aV g _ l).1;have H:=mS;refine Le G j y h _ _ s S7 A Y c d ⟨g,S2,b,b.toNat,t,rfl,rfl,l,by lia,by have:=C.length;lia,u4 SJ.1 (by rw[<-C.length];exact SJ.2),v,p t _ [] [g] ⟨Tc.mono<|cq.k2 q,rfl⟩ ?_ (bd.chg (.head _) q (er _ _) λe w=>by simpa using w)⟩;exact⟨g,_,rfl,ec,(C.erase _).mono<|cq.k2 q,rfl⟩
  ·cases a
 ·cases a
@[simp] noncomputable def lX:aj->List aj->Option (aj×aj):=λq E=>match q,E with
 |.lst x,[.lst S2]=>if x.length+S2.length<=100000 then Z (.im .aR,.lst<|x++S2) else X
 |_,_=>X
theorem y_:pg f "list.extend" lX:=by
 intro G j y h e T s S7 A Y i k ⟨q,E,r,v,SQ,S0,m,n,ah,a,p⟩;unfold lX at a;split at a
 ·split at a
  ·rename_i o;cases a;obtain⟨g,S2,rfl,l,C,rfl⟩:=m;obtain⟨t,B,w,x,rfl,⟨c,TF,rfl,u,b,rfl⟩,⟨rfl,rfl⟩,rfl⟩:=n;have q:gn h g:=⟨_,l,(λ_ a=>by cases a),(λ_ W a=>by cases a)⟩;refine Q6 G j y h _ _ s S7 A Y i k ⟨g,c,S2,TF,rfl,rfl,l,u,ms (by rw[<-C.length,<-b.length];exact o),p .aR _ [] [g] ⟨rfl,rfl⟩ ?_ (bd.chg (.head _) q (er _ _) λe d=>by
    rw[i7]at d;exact dI _ d)⟩
   exact⟨g,_,rfl,ec,(C.app b).mono<|cq.k2 q,rfl⟩
  ·cases a
 ·cases a
def tX(f:aH)(pt:aj->aj->aj->Option aj):Prop:=
 ym f λm b s h A=>∃q o k a SQ S0,cn h q m SQ/\cn h o b []/\cn h k s S0/\(SQ++S0).Nodup/\pt q o k=Z a/\∀R B,cn R a m B->bd h (SQ++S0) R B->A R
@[simp] def ly(q o k:aj):Option aj:=match q,o,k with
 |.lst x,.im<|.int b,.im k=>(ju x.length b).map λu=>.lst (x.set u k)
 |_,_,_=>X
theorem bu.set{h:au}{k:ab}{s:as}(D:cq h k s):∀{E:List ab}{x:List as} (v:Nat),bu h E x->bu h (E.set v k) (x.set v s)
 |[],x,v,d=>by cases (show x=[] from d);exact rfl
 |a::E,x,0,d=>by obtain⟨I,r,rfl,l,C⟩:=d;exact⟨s,r,rfl,D,C⟩
 |a::E,x,v+1,d=>by obtain⟨I,r,rfl,l,C⟩:=d;exact⟨I,_,rfl,l,bu.set D v C⟩
theorem Cy:tX f ly:=by
 intro G j y h m b s c d I A Y i n r ⟨q,o,k,D,SQ,S0,t,v,w,ah,a,p⟩;unfold ly at a;split at a
 ·obtain⟨u,x,z⟩:=ch.mp a;cases z;obtain⟨g,S2,rfl,l,C,rfl⟩:=t;obtain⟨hd,rfl⟩:=w;have q:gn h g:=⟨_,l,(λ_ a=>by cases a),(λ_ W a=>by cases a)⟩;refine LJ G j y h _ _ _ c d I A Y i n r ⟨g,S2,_,u,rfl,v.1,l,by rw[<-C.length];exact x,p _ [g] ?_ (bd.chg (.head _) q (er _ _) λe B=>by simpa using B)⟩;exact⟨g,_,rfl,ec,(bu.set hd u C).mono<|cq.k2 q,rfl⟩
 ·cases a
@[simp] noncomputable def iY(b:Nat)(a:av aj)(pt:aj->aj->aj->Option aj):eX:=λk w=>match w[b]? with
 |some (Z _)=>(a w).bind λn=>if n.1.dJ=aa then match n.2[b]? with
   |some (Z q)=>(pt q n.1 k).map λc=>n.2.set b (Z c)
   |_=>X
  else X
 |_=>X
theorem nL{S8:List Nat}{o:a8}{x:av aj}{pt:aj->aj->aj->Option aj}{S1:Pos}(O:bC f m (lq b))(P:b4 f o x)(Q:tX f pt)(i:∀s,ho (.Subscript m o S1) f.env s=(do
   let j <-holding [s] (bQ m f.env)
   let t <-holding [s,j] (bQ o f.env)
   standAt S1
   holding [s,j,t] (tM j t s)
   release [s,j,t] []):=by intro Y;rfl):h1 f S8 (.Subscript m o S1) (iY b x pt):=by
 refine yF (Rc O P Q i) λs y h A S=>?_;obtain⟨w,N,k,SQ,S4,st,F,ah,n,p⟩:=S;unfold iY at n;split at n
 ·rename_i ne T;obtain⟨e,of,on,u,pm,Y,Y⟩:=st.out T;obtain⟨⟨c,z⟩,l,C⟩:=bB.mp n;split at C
  ·rename_i U;refine⟨e,u,w,N,c,z,st,(cF.mp ah).1,l,λsp SU S6 s1 be D r=>?_⟩;obtain rfl:=D.dJ U;rw[bU]at r;have bs:=cF.mp ah;dsimp only at C;split at C
   ·rename_i q cl;obtain⟨co,eq,ex⟩:=ch.mp C;cases ex;obtain⟨s2,E,G,H,fd,I,fn⟩:=be.out cl;rw[u]at H;cases H;have f1:cn SU k s SQ:=F.mono r.tup λg i m a=>r.keep g m a λd=>bs.2.2 g d g i rfl;have J:bd h (N++SQ) SU ((E++SQ)++G):=by
     have go:bd h (N++SQ) h (N++SQ):=bd.perm ah (List.Perm.refl _);have:=bd.trans (S6:=N) (SQ:=SQ) go r F.chg;refine this.iT ((eB SQ fn.symm).trans ?_);rw[a_];exact cW
    have L:=cF.mp J.ah;refine⟨q,c,k,co,E,SQ,fd,D,f1,L.1,eq,λR B g1 v=>?_⟩;have hd:bo R (z.set b<|Z .dy) y G:=I.mono v.tup λg i m a=>v.keep g m a λd=>L.2.2 g d g i rfl;obtain⟨im,SV,M,mb⟩:=hd.back g1 u;rw[xE]at M;exact p y R im cI.refl M ((J.trans v I.chg).less<|mb.trans cW)
   ·cases C
  ·cases C
 ·cases n
end
section
variable{SR:bw}{D:a9}{O:bp}{SM:ae->ak->Prop}{j:ak}
end
section
variable{f:aH}
end
end L2
namespace L2
open PySem PySem.Spec PyProof.Rows PySem.W
variable{S:List Int}{n:Array Nat}{Ta:Type}
theorem R9(H:List Ta)(k:Ta):(range H.length).map (λb=>H.getD b k)=H:=by
 apply vR
 ·simp
 ·intro b l C;simp[List.getD,C]
theorem u5{H:List Ta}{k:Ta}(d:cM H.length n):(n.toList.map λb=>H.getD b k).Perm H:=by
 have:=vf (λb=>H.getD b k) d;rw[R9]at this;exact this
theorem sA{Ta z:Type}{N:Ta->z->Prop}:∀{a:List Ta}{f:List z},a.length=f.length->(∀(b:Nat) g c,a[b]?=Z g->f[b]?=Z c->N g c)->dX N a f
 |[],[],_,_=>.nil
 |g::H,c::i,d,P=>.cons (P 0 g c rfl rfl) (sA (by simpa using d) λb e t l C=>P (b+1) e t (by simpa using l) (by simpa using C))
 |[],_::_,d,_=>by simp at d
 |_::_,[],d,_=>by simp at d
section
variable{SR:bw}{D:a9}{O:bp}{SM:ae->ak->Prop}{j:ak}{T:List ae}
theorem xM{Tf:ai}{o:Nat}{SS:PySem.Fin->ak->Prop}(M:Nat->Int)(F:gB)(f:j.heap.get? Tf=Z (ff "list" T.toArray o))(z:2<=T.length->∀e:aT,(∀c m,c≠Tf->j.heap.get? c=Z m->e.get? c=Z m)->∀A:gB->ak->Prop,A F {j with heap:=e}->wpAny (aM SR D) O (wF T.toArray) A SM {j with heap:=e})(B:∀e:aT,(∀c m,c≠Tf->j.heap.get? c=Z m->e.get? c=Z m)->fK T.length M (eW SR D O F<|T.toArray.zip T.toArray) {j with heap:=e})(E:T.length<1001\/∀u,1<=u->u<T.length->M (u-1)<=M u)(G:T.length<=1000)(d:∀(n:Array Nat) (U:aT),cM T.length n->hF M n T.length->(∀c m,c≠Tf->j.heap.get? c=Z m->U.get? c=Z m)->(∃a,U.get? Tf=Z (ff "list" (n.toList.map λb=>T.getD b ae.none).toArray a))->
   SS (.done<|.ret .none) {j with heap:=U}):wpAny (aM SR D) O (ba.«list.sort» ⟨[.ref Tf],[]⟩) SS SM j:=by
 have x:T.length<=sizeLine:=ed G (by decide);rw[list_sort_plain];have R:Tf<j.heap.objs.size:=bX f;refine ao (listItems_at f rfl (ao (DA f rfl ?_ (hsz:=by rw[cr];exact x) (hsz2:=by show 0<=_;exact gV _))));have p:=Dq f (λ_=>#[]);generalize S:(if (#[]:Array ae).size==T.toArray.size then o else o+1)=y at p;refine ao (seqEpoch_at p rfl (ao (B6 (ao<|rV<|gf ?_) (by simpa using x))));have h:∀c m,c≠Tf->j.heap.get? c=Z m->(((j.heap.update Tf<|a0.mapSeq λ_=>#[]).push<|ff "tuple" T.toArray.toList.toArray 0).push<|ff "list" ([]:List ae).toArray 0).get? c=Z m:=λc m i a=>
  bS _ (bS _<|(k7 _ _<|fB i).trans a);have TL:(((j.heap.update Tf<|a0.mapSeq λ_=>#[]).push<|ff "tuple" T.toArray.toList.toArray 0).push<|ff "list" ([]:List ae).toArray 0).get? Tf=Z (ff "list" #[] y):=
  bS _ (bS _ p);show wpAny (aM SR D) O _ SS SM {j with heap:=((j.heap.update Tf<|a0.mapSeq λ_=>#[]).push<|ff "tuple" T.toArray.toList.toArray 0).push (ff "list" ([]:List ae).toArray 0)};generalize ((j.heap.update Tf<|a0.mapSeq λ_=>#[]).push<|ff "tuple" T.toArray.toList.toArray 0).push (ff "list" ([]:List ae).toArray 0)=e at h TL ⊢;have fin:∀(st:br) (n:Array Nat),cM T.length n->hF M n T.length->arrOf st=n.map (bh<|T.toArray.zip T.toArray)->hs st=X->
   wpAny (aM SR D) O (do
    let L:=(<-seqEpoch Tf) != y
    ba.List.listUpdate (.ref Tf) λ_=>(arrOf st).map (·.2)
    if let Z a:=hs st then rule "list.sort.comparison-raised";throw a
    if L then rule "list.sort.modified";raiseError "ValueError" "list modified during sort"
    ret .none) SS SM {j with heap:=e}:=λst n l s t v=>by
  have TR:=kat_snds (ks:=T) (vs:=T) rfl t;rw[TR,v];refine ao (seqEpoch_at (s:={j with heap:=e}) TL rfl (ao (DA (s:={j with heap:=e}) TL rfl ?_ (hsz:=gV _) (hsz2:=by
   show (List.toArray<|n.toList.map λb=>T.getD b ae.none).size<=_;rw[cr,a5,db,l.size];lia))))
  simp only[bne_self_eq_false,g7,fF];refine aJ (d n _ l s (λc m i a=>(k7 _ _<|fB i).trans<|h c m i a) ⟨_,Dq TL λ_=>_⟩)
 dsimp only;by_cases C:T.toArray.size<2
 ·rw[aB C,aB C];refine ao (aJ ?_);rw[StateT.run_pure];apply ao;apply aJ;have w:T.length<2:=by simpa using C
  refine fin (br.mk' general' (T.toArray.zip T.toArray) #[] 7 X) (range T.length).toArray (List.Perm.refl _) (λb u be bs=>?_) ?_ rfl
  ·have:b=u:=by lia
   subst this;exact lb _
  ·have:=kas_range (T.toArray.zip T.toArray);rw[show (T.toArray.zip T.toArray).size=T.length by simp]at this;exact this.symm
 ·rw[aG C,aG C];have w:2<=T.length:=by simpa using C
  refine ao (z w e h _ ?_)
  ·have N:=B e h;have lU:=kas_range (T.toArray.zip T.toArray);rw[show (T.toArray.zip T.toArray).size=T.length by simp]at lU;have run:=Ir (SM:=SM) (A:=λ_ st SN=>SN={j with heap:=e}/\∃n,cM T.length n/\hF M n T.length/\arrOf st=n.map (bh<|T.toArray.zip T.toArray)/\hs st=X) N
    w E λP cl g c q k=>⟨rfl,P,g,c,q,k⟩;unfold s_ at run;rw[lU]at run;refine ao (fY run (λr SN Q=>?_) λ_ Y a=>a);obtain⟨I,st⟩:=r;obtain⟨rfl,n,l,s,t,v⟩:=Q;exact fin st n l s t v
end
section
variable{f:aH}{G:List (ai×a0)}{y:L2.St}{h:au}{j:ak}
theorem Ca(hd:f.calm=aa){g:ai}{S2:List as}{SZ:List ae}{v:Nat}{L:String}{m:a0}{A:cw}(M:Nat->Int)(F:gB)(Y:Inv f G y h j)(J:bK S2 SZ)(T:L = "list" \/ L = "tuple")(a:j.heap.get? g=Z m)(aq:m.cls=.type L)(be:m.data=.seq SZ.toArray v)(im:S2.length<=1000)(bs:2<=SZ.length->∀(d:aT) (Tu:Nat),(∀c m,j.heap.get? c=Z m->d.get? c=Z m)->∀(O:bp) (SM:ae->ak->Prop) (A:gB->ak->Prop),A F {j with heap:=d,toks:=Tu}->wpAny (aM f.prog f.w) O (wF SZ.toArray) A SM {j with heap:=d,toks:=Tu})(cl:∀(d:aT) (Tu:Nat),(∀c m,j.heap.get? c=Z m->d.get? c=Z m)->fK SZ.length M (eW f.prog f.w f.A.in1.in1 F<|SZ.toArray.zip SZ.toArray) {j with heap:=d,toks:=Tu})(co:SZ.length<1001\/∀u,1<=u->u<SZ.length->M (u-1)<=M u)(p:∀(n:Array Nat) H,cM SZ.length n->hF M n SZ.length->h H=X->A (.ref H) (upd h H<|.lst<|n.toList.map λb=>S2.getD b .aR)):
  wpAny (aM f.prog f.w) f.A (call (.builtin "sorted") [.ref g]) (d4 f G y A) f.ce j:=by
 have mb:S2.length=SZ.length:=J.length;have N:SZ.length<=sizeLine:=ed (by lia) (show 1000<=sizeLine by decide);refine tN y4 ws xD (zc _) ?z
 case z=>
  unfold ba.«sorted»;refine ao (m:=v_ "sorted" 1 1 _) (aJ (ao (wpAny_collect_seq g T a aq be (λU r=>?_) (by rw[cr];exact N))));show wpAny _ _ (ow SZ >>= _) _ _ _;refine ao (rV ?_ N);have P:(U.push<|ff "list" SZ.toArray 0).get? U.objs.size=Z (ff "list" SZ.toArray 0):=da _ rfl;have bg:∀c m,j.heap.get? c=Z m->(U.push<|ff "list" SZ.toArray 0).get? c=Z m:=λc m a=>bS _ (r c m a);have Q:Inv f G y h {j with heap:=U}:=Y.kept (Tk:=j.toks) r;have R:∀c m,j.heap.get? c=Z m->c≠U.objs.size:=λc m a=>cT (bX<|r c m a);refine ao (gf<|gW za ⟨_,P,rfl⟩ wM ?t<|wO _)
  case t=>
   refine xM (j:={j with heap:=U.push (ff "list" SZ.toArray 0)}) M F P (λC d x A eq=>bs C d j.toks (λc m k=>x c m (R c m k)<|bg c m k) _ _ A eq) (λd x=>cl d j.toks λc m k=>x c m (R c m k)<|bg c m k) co (by lia) λn C B ex Tr ⟨fd,fn⟩=>⟨_,rfl,aJ ⟨_,rfl,?_⟩⟩;have f1:h U.objs.size=X:=Q.aV.fresh (bm _);have go:∀c m,U.get? c=Z m->c≠U.objs.size:=λc m a=>cT (bX a);refine⟨.ref U.objs.size,upd h U.objs.size<|.lst<|n.toList.map λb=>S2.getD b .aR,?_,rfl,p n _ B ex f1⟩;refine Q.laid (Tk:=j.toks) (λc I a=>Tr c I (go c I a)<|bS _ a) (bm _) ⟨?_,_,fd,?_,fn⟩
   ·rw[a5,db,B.size];lia
   ·refine sA (by simp) λb s I l C=>?_;rw[d3]at l C;cases E:n.toList[b]? with
    |none=>rw[E]at l;cases l
    |some o=>
     rw[E]at l C;cases l;cases C;have S:o<SZ.length:=f2.mp (B.mem_iff.mp<|e5 E);obtain⟨I,q,g1⟩:=J.get (b:=o) (e:=S2[o]'(by lia)) (by simp[show o<S2.length by lia]);rw[dh S]at q;have q:=Option.some.inj q;simp only[List.getD,dh S,dh (show o<S2.length by lia),n2];rw[q];exact g1
end
noncomputable def oD(S:List Int)(b:Nat):Int:=S.getD b 0
theorem Nh(ah:S.Nodup):∀b u,b<S.length->u<S.length->oD S b=oD S u->b=u:=λb u SJ c a=>by
 unfold oD at a;rw[cp,cp,dh SJ,dh c]at a;have e:S[b]=S[u]:=a;rcases sR b u with d|d|d
 ·exact absurd e ((mJ.mp ah) b u SJ c d)
 ·exact d
 ·exact absurd e.symm ((mJ.mp ah) u b c SJ d)
theorem MT(a:cM S.length n)(f:hF (oD S) n S.length)(ah:S.Nodup):(n.toList.map λb=>S.getD b 0).Pairwise (· < ·):=by
 rw[mJ];intro b u SJ c g;have SX:=a.size;have i:b<S.length:=by simpa [SX] using SJ
 have d:u<S.length:=by simpa [SX] using c
 have ne:=a.ne (Nh ah) g d;have le:=f b u (by lia) d;have J:∀o (e:o<(n.toList.map λb=>S.getD b 0).length),(n.toList.map λb=>S.getD b 0)[o]=bc (oD S) n o:=λo e=>by
  have h:o<n.size:=by simpa using e
  rw[EN,DC];show _=S.getD (n.getD o 0) 0;simp[Array.getD,h]
 rw[J b SJ,J u c];lia
section
variable{f:aH}
theorem si{h:au}:∀{S:List Int}{SZ:List ae},bK (S.map as.int) SZ->∀(b:Nat),b<S.length->∃B,SZ[b]?=Z (.int (S.getD b 0) B)
 |v::r,_,.cons g c,0,d=>by obtain⟨B,rfl⟩:=g;exact⟨B,rfl⟩
 |v::r,_,.cons g c,b+1,d=>by
  obtain⟨B,a⟩:=si (h:=h) c b (by simpa using d);exact⟨B,by simpa using a⟩
theorem RA(q:f.calm=aa):eu f (.builtin "sorted") (λx h A=>∃(g:ai) (S:List Int),x=[.ref g]/\h g=Z (.lst<|S.map as.int)/\S.Nodup/\S.length<=1000/\
  ∀H (i:List Int),h H=X->i.Perm S->i.Pairwise (· < ·)->A (.ref H) (upd h H<|.lst<|i.map as.int)):=by
 intro G j y h x S7 A Y r d;obtain⟨g,S,rfl,t,ah,w,p⟩:=d;obtain⟨I,rfl,z⟩:=he r;cases z;obtain⟨P,SZ,v,c,a⟩:=Y.aV g _ t;have k:SZ.length=S.length:=by rw[<-c.length,a5]
 refine Ca q (oD S) oneType' Y c (.inl rfl) a rfl rfl (by rw[a5];exact w) (λC D Tu o O SM A E=>?_) (λD Tu o=>?_) (.inl (by lia)) λn H e m aN=>?_
 ·refine kas_kind (T:=ae.type "int") C (λs F=>?_) (by decide) (by decide) E;obtain⟨b,SJ⟩:=te F;obtain⟨B,bt⟩:=si (h:=h) c b (by rw[<-k];exact (fw.mp SJ).1);rw[SJ]at bt;cases bt;exact FO rfl
 ·intro b u az SJ Q p;obtain⟨B,l⟩:=si (h:=h) c b (by lia);obtain⟨I,C⟩:=si (h:=h) c u (by lia);unfold eW;rw[va rfl,va rfl,cp,cp,l,C];show wpAny _ _ (keyLt' oneType' (.int _ B)<|.int _ I) _ _ _;rw[keyLt'_oneType];exact oneLt_int p
 ·rw[k]at e m;have J:(n.toList.map λb=>(S.map as.int).getD b .aR)=(n.toList.map λb=>S.getD b 0).map as.int:=by
   rw[gJ];refine q2 λo M=>?_;have N:o<S.length:=f2.mp (e.mem_iff.mp M);show (S.map as.int).getD o .aR=as.int (S.getD o 0);simp[List.getD,N]
  rw[J];exact p H _ aN (u5 e) (MT e m ah)
end
end L2
namespace L2
open PySem PySem.Spec PyProof.Rows
section
variable{f:aH}
noncomputable def h2:List ab->List ab->List ab
 |e::x,t::S2=>.tup [e,t]::h2 x S2
 |_,_=>[]
theorem B0:∀(x S2:List ab),(h2 x S2).length=min x.length S2.length
 |[],S2=>by simp[h2]
 |e::x,[]=>by simp[h2]
 |e::x,t::S2=>by simp[h2,B0 x S2]
theorem zW:∀(x S2:List ab) (b:Nat) (k:ab),(h2 x S2)[b]?=Z k->∃e t,x[b]?=Z e/\S2[b]?=Z t/\k=.tup [e,t]
 |[],S2,b,k,d=>by simp[h2]at d
 |e::x,[],b,k,d=>by simp[h2]at d
 |e::x,t::S2,0,k,d=>by simp[h2]at d;exact⟨e,t,rfl,rfl,d.symm⟩
 |e::x,t::S2,b+1,k,d=>by
  obtain⟨g,c,l,C,a⟩:=zW x S2 b k (by simpa [h2] using d);exact⟨g,c,by simpa using l,by simpa using C,a⟩
@[simp] def ny(J:av (List bl)):h6:=λw=>(J w).bind λn=>(fX n.2 n.1).bind λE=>match E with
 |[.im (.tup e),.im<|.tup t]=>Z ((h2 e t,X),n.2)
 |_=>X
theorem Li{SK:PySem.W.Frag}{h:au}{g c:ai}{x S2:List as}{E Q:List ab}(d:h g=Z (.tup x))(hd:bu h E x)(U:h c=Z (.tup S2))(f:bu h Q S2):lZ (u3 SK g c) h [] (h2 E Q) where
 go:=λR B o b k a=>by
  obtain⟨e,t,q,r,rfl⟩:=zW E Q b k a;obtain⟨s,i,Tc⟩:=hd.get q;obtain⟨I,Tj,Tr⟩:=f.get r;have l:=b7.of (SK:=SK) (B.tup g _ d);have m:=b7.of (SK:=SK) (B.tup c _ U);refine⟨⟨x,S2,s,I,l,m,i,Tj⟩,λz A ⟨L,C,D,P,u,v,w,y⟩=>?_⟩;subst u v;have n:=w x l;have p:=y S2 m;rw[i]at n;rw[Tj]at p;cases n;cases p;have j:cG R (upd R L<|.tup [s,I]):=(cG.refl R).upd P;exact⟨j,L,[s,I],rfl,ec,⟨s,[I],rfl,(Tc.mono B.tup).mono j.tupS.tup,I,[],rfl,(Tr.mono B.tup).mono j.tupS.tup,rfl⟩⟩
 stop:=λR B o=>⟨x,S2,b7.of<|B.tup g _ d,b7.of<|B.tup c _ U,by rw[B0,<-hd.length,<-f.length];lia⟩
theorem zJ{g c:a8}{J:av (List bl)}{n S1:Pos}{Q:List a8}{Ul:Nat}{SO:Pos}(j:dU f "zip")(k:f.aw "zip" = X)(b:eR f [g,c] J)(SX:bG [g,c] f.env=[(al,bQ g f.env),(al,bQ c f.env)]:=by rfl)(m:bG [c] f.env=[(al,bQ c f.env)]:=by rfl):
  ng f (.Tuple Q Ul SO) (.Call (.Name "zip" n) [g,c] [] S1) (ny J):=by
 refine wB (LI j k b SX m) λy h D o=>?_;obtain⟨w,N,r,S4,st,ah,q,p⟩:=o;obtain⟨⟨S3,z⟩,l,C⟩:=bB.mp q;obtain⟨E,t,d⟩:=bB.mp C;refine⟨w,N,S3,z,st,ah,l,λT SU S6 F e Th u=>?_⟩;have v:=Th.read e t;split at d
 ·cases d;obtain⟨s,I,rfl,a,A⟩:=KY v;obtain⟨g,x,rfl,Tj,Tr⟩:=a;obtain⟨c,S2,rfl,i,B⟩:=A;exact⟨g,c,rfl,⟨x,b7.of Tj⟩,⟨S2,b7.of i⟩,p _ SU S6 [] e (Li Tj Tr i B) trivial (λg b=>nomatch b) (by rw[bU];exact u.both)⟩
 ·cases d
@[simp] noncomputable def Sm:hN:=λE=>match E with
 |[.im (.int b),.im<|.int u,.im<|.int o]=>Z (.im<|.int<|min (min b u) o)
 |_=>X
noncomputable def jZ(lt:ab->ab->Bool)(e:ab):List ab->List ab
 |[]=>[e]
 |t::r=>if lt e t=aa then e::t::r else t::jZ lt e r
def fl(lt:ab->ab->Bool):List ab->List ab
 |[]=>[]
 |e::r=>jZ lt e (fl lt r)
noncomputable def sb:ab->ab->Bool
 |.int b,.int u=>decide (b<u)
 |_,_=>al
noncomputable def q0:List ab->Option (List Int)
 |[]=>Z []
 |.int b::r=>(q0 r).map λj=>b::j
 |_::_=>X
@[simp] def vu:hN:=λE=>match E with
 |[.lst e]=>(q0 e).bind λS=>if S.Nodup/\S.length<=1000 then Z (.lst<|fl sb e) else X
 |_=>X
noncomputable def mw(e:Int):List Int->List Int
 |[]=>[e]
 |t::r=>if e<t then e::t::r else t::mw e r
def ob:List Int->List Int
 |[]=>[]
 |e::r=>mw e (ob r)
theorem Gu(e:Int):∀H:List Int,jZ sb (.int e) (H.map .int)=(mw e H).map .int
 |[]=>rfl
 |t::r=>by
  rw[ci,jZ,mw,sb];by_cases d:e<t
  ·rw[aB (by simpa using d),aB d];rfl
  ·rw[aG (by simpa using d),aG d,Gu e r];rfl
theorem Cc:∀H:List Int,fl sb (H.map .int)=(ob H).map .int
 |[]=>rfl
 |e::r=>by rw[ci,fl,Cc r,Gu];rfl
theorem x4(e:Int):∀H:List Int,(mw e H).Perm (e::H)
 |[]=>List.Perm.refl _
 |t::r=>by
  rw[mw];split
  ·exact List.Perm.refl _
  ·exact ((x4 e r).cons t).trans (List.Perm.swap e t r)
theorem yW:∀H:List Int,(ob H).Perm H
 |[]=>List.Perm.refl _
 |e::r=>(x4 e _).trans ((yW r).cons e)
theorem CQ(e:Int):∀H:List Int,H.Pairwise (·<=·)->(mw e H).Pairwise (·<=·)
 |[],_=>er _ _
 |t::r,d=>by
  obtain⟨l,C⟩:=gk.mp d;rw[mw];split
  ·rename_i c;refine gk.mpr ⟨λb a=>?_,d⟩;rcases bI.mp a with rfl|a
   ·lia
   ·have:=l b a;lia
  ·rename_i c;refine gk.mpr ⟨λb a=>?_,CQ e r C⟩;rcases bI.mp ((x4 e r).mem_iff.mp a) with rfl|a
   ·lia
   ·exact l b a
theorem E2:∀H:List Int,(ob H).Pairwise (·<=·)
 |[]=>List.Pairwise.nil
 |e::r=>CQ e _ (E2 r)
theorem JO{H:List Int}(d:H.Nodup):(ob H).Pairwise (· < ·):=by
 have l:=E2 H;have C:(ob H).Nodup:=(yW H).nodup_iff.mpr d;exact M7 (λg c e t=>by lia) l C
theorem Fw:∀{H i:List Int},H.Perm i->H.Pairwise (· < ·)->i.Pairwise (· < ·)->H=i
 |[],i,d,_,_=>d.nil_eq
 |g::H,[],d,_,_=>absurd d.length_eq (by simp)
 |g::H,c::i,d,f,h=>by
  have b:=gk.mp f;have e:=gk.mp h;have a:g=c:=by
   rcases bI.mp (d.mem_iff.mp<|.head _) with z|z
   ·exact z
   ·rcases bI.mp (d.mem_iff.mpr<|.head _) with t|t
    ·exact t.symm
    ·have l:=b.1 c t;have C:=e.1 g z;lia
  subst a;rw[Fw d.cons_inv b.2 e.2]
theorem DD:∀{e:List ab}{S:List Int},q0 e=Z S->e=S.map .int
 |[],S,d=>by cases d;rfl
 |.int b::r,S,d=>by
  rw[q0]at d;obtain⟨j,l,rfl⟩:=ch.mp d;rw[DD l];rfl
 |.aR::_,_,d=>by cases d
 |.ax _::_,_,d=>by cases d
 |.str _::_,_,d=>by cases d
 |.tup _::_,_,d=>by cases d
 |.fn _::_,_,d=>by cases d
 |.aN _::_,_,d=>by cases d
 |.fd::_,_,d=>by cases d
theorem Fq{h:au}:∀{S:List Int}{T:List as},bu h (S.map .int) T->T=S.map as.int
 |[],T,d=>d
 |v::r,T,d=>by
  obtain⟨s,B,rfl,l,C⟩:=d;cases (show s=.int v from l);rw[Fq C];rfl
theorem AZ{h:au}:∀S:List Int,bu h (S.map .int) (S.map as.int)
 |[]=>rfl
 |v::r=>⟨.int v,_,rfl,rfl,AZ r⟩
theorem Pp(d:f.calm=aa)(o:f.A.units+20<bP):gQ f (.builtin "sorted") vu:=by
 refine (RA d).imp λx h A g=>?_;obtain⟨E,k,i,a,p⟩:=g;unfold vu at a;split at a
 ·rename_i e;obtain⟨S,j,b⟩:=bB.mp a;split at b
  ·rename_i c;cases b;obtain⟨s,rfl,Y,n,x,rfl,l,C,Y⟩:=ft i;cases DD j;cases Fq C;refine⟨n,S,rfl,l,c.1,c.2,λH q aN Te m=>?_⟩;rw[Cc]at p;rw[Fw (Te.trans (yW S).symm) m (JO c.1)];exact bV.l p aN (AZ _)
  ·cases b
 ·cases a
theorem vJ(a:f.A.units+20<bP):tX f ly:=Cy
end
end L2
namespace L2
open PySem
variable{g d J c:bj}{a:av aj}{own i v:Nat}{E:List aj}{S8:List Nat}{m:Option (Nat×aj)}{x:List ab}{k:aj}{z w:aU}{q:av Bool}{To:eX}{Ta:Type}{u b:Int}
@[simp] theorem Sl(k:ab)(w:aU):aq k w=Z (.im k,w):=rfl
@[simp] theorem su(w:aU):am w=Z ([],w):=rfl
@[simp] theorem Sf(w:aU):ee w=Z (.aZ,w):=rfl
@[simp] theorem SI(w:aU):fg w=Z (X,w):=rfl
@[simp] theorem Sx(w:aU):d2 w=Z (aa,w):=rfl
@[simp] theorem Sq(k:ab):(aj.im k).dJ=aa:=rfl
@[simp] theorem SD(k:List ab):(aj.cO k).dJ=aa:=rfl
@[simp] theorem Sz(k:List ab):(aj.lst k).dJ=al:=rfl
@[simp] theorem SG(k:List (List ab×ab)):(aj.aL k).dJ=al:=rfl
@[simp] theorem Si(k:List (d_×ab)):(aj.dm k).dJ=al:=rfl
@[simp] theorem D1(w:aU)(k:aj):cV w (.b8 k)=Z k:=rfl
@[simp] theorem DN(w:aU)(b:Nat):cV w (.aW b)=(w[b]?).getD X:=rfl
@[simp] theorem sv(w:aU):fX w []=Z []:=rfl
@[simp] theorem rZ(w:aU)(m:bl)(S3:List bl):fX w (m::S3)=(cV w m).bind λk=>(fX w S3).map λE=>k::E:=rfl
@[simp] theorem SC(w:aU):dZ [] w=Z ([],w):=rfl
@[simp] theorem Sr(k:aj)(S3:List bl)(w:aU):dZ (.b8 k::S3) w=(dZ S3 w).map λn=>(k::n.1,n.2):=rfl
@[simp] theorem Sk(b:Nat)(S3:List bl)(w:aU):dZ (.aW b::S3) w=(dQ b w).bind λn=>(dZ S3 n.2).map λp=>(n.1::p.1,p.2):=rfl
@[simp] theorem SF:gL []=Z []:=rfl
@[simp] theorem Sv(k:ab)(E:List aj):gL (.im k::E)=(gL E).map λr=>k::r:=rfl
@[simp] theorem So(c:Bool):kU (.im<|.ax c)=Z c:=rfl
theorem nj(l : -(2^64)<u)(C:u<2^64):gO b u=aa:=by
 have:ba.Int.intBits u<=64:=ER l C;have U:¬ (ba.Int.intBits u>r1):=pa.mpr this;unfold gO;rw[dA U];simp
theorem wl(l : -(2^64)<b)(C:b<2^64):gO b u=aa:=by
 have:ba.Int.intBits b<=64:=ER l C;have U:¬ (ba.Int.intBits b>r1):=pa.mpr this;unfold gO;rw[dA U];simp
theorem EK{x:List Ta}(d:x.length<=v):x.take v=x:=sX d
theorem v7(x:List Ta)(o:Nat):e6 x (Z (o:Int)) X=x.drop o:=by
 unfold e6;rw[cY.FC,cY.FT];by_cases d:o<=x.length
 ·rw[oW d,EK (by rw[e4];lia)]
 ·rw[Dr (by lia),vB,ug,o6 (by lia)]
theorem L6(x:List Ta)(o:Nat):e6 x X (Z (o:Int))=x.take o:=by
 unfold e6;rw[cY.FC,cY.FT,kG,w4];by_cases d:o<=x.length
 ·rw[oW d]
 ·rw[Dr (by lia),n4,EK (by lia)]
theorem DU(x:List Ta):e6 x X (Z<|-1)=x.dropLast:=by
 unfold e6 cY.b5;simp only[kG,w4];rw[aB (by decide),xI];congr 1;lia
theorem pL{x:List Ta}{k:Ta}(TN:0<=b)(d:x[b.toNat]?=Z k):d9 x b=Z k:=by
 unfold d9 ju;have SJ:b.toNat<x.length:=(fw.mp d).1;rw[aB TN,aB (by lia)];exact d
theorem Pt{x:List Ta}{k:Ta}(d:x.getLast?=Z k):d9 x (-1)=Z k:=by
 rw[AA]at d;have SJ:x.length-1<x.length:=(fw.mp d).1;unfold d9 ju;rw[aG (by decide),aB (by lia)];show x[(-1+(x.length:Int)).toNat]?=Z k;rw[show (-1+(x.length:Int)).toNat=x.length-1 by lia];exact d
theorem PA(Y:Nat->aU->Prop)(SQ:aj->aU->Prop):∀{x:List ab}{w:aU},Y 0 w->
  (∀(b:Nat) (e:ab) (w:aU),x[b]?=Z e->Y b w->∃z aN M,To (.im e) w=Z z/\c z=Z (aN,M)/\(((aN=.aZ\/aN=.ca)/\Y (b+1) M)\/∃k,aN=.dO k/\SQ k M))->
  (∃S4,dW To c x w=Z (.aZ,S4)/\Y x.length S4)\/∃k S4,dW To c x w=Z (.dO k,S4)/\SQ k S4:=by
 intro x;induction x generalizing Y with
 |nil=>intro w TN W;exact .inl ⟨w,rfl,TN⟩
 |cons e r f=>
  intro w TN d;obtain⟨z,aN,M,l,C,g⟩:=d 0 e w rfl TN;rcases g with ⟨h,i⟩|⟨k,rfl,j⟩
  ·have:=f (λb=>Y<|b+1) (w:=M) i λb t S4 m n=>d (b+1) t S4 (by simpa using m) n;have a:dW To c (e::r) w=dW To c r M:=by
    rw[dW];dsimp only;rw[l];show (c z).bind _=_;rw[C];rcases h with rfl|rfl<;>rfl
   rw[a];exact this
  ·refine .inr ⟨k,M,?_,j⟩;rw[dW];dsimp only;rw[l];show (c z).bind _=_;rw[C];rfl
theorem wW(Y:Nat->aU->Prop){x:List ab}{w:aU}(TN:Y 0 w)(d:∀(b:Nat) (e:ab) (w:aU),x[b]?=Z e->Y b w->∃z aN M,To (.im e) w=Z z/\c z=Z (aN,M)/\(aN=.aZ\/aN=.ca)/\Y (b+1) M):
  ∃S4,dW To c x w=Z (.aZ,S4)/\Y x.length S4:=by
 rcases PA Y (λ_ W=>False) TN (λb e w a f=>by
  obtain⟨z,aN,M,l,C,g,h⟩:=d b e w a f;exact⟨z,aN,M,l,C,.inl ⟨g,h⟩⟩) with d|⟨_,_,_,d⟩
 ·exact d
 ·exact d.elim
theorem xs(Y:Nat->aU->Prop)(b:aU->Prop)(step:∀i w,Y i w->∃B z,q w=Z (B,z)/\(B=aa->∃aN M,c z=Z (aN,M)/\(aN=.aZ\/aN=.ca)/\∃a,a<i/\Y a M)/\(B=al->b z)):
  ∀(v i:Nat) (w:aU),Y i w->i<v->∃S4,jK q c v w=Z (.aZ,S4)/\b S4:=by
 intro v;induction v with
 |zero=>intro i w W d;lia
 |succ v e=>
  intro i w f o;obtain⟨B,z,l,C,g⟩:=step i w f;rw[jK];dsimp only;rw[l];cases B with
  |false=>exact⟨z,rfl,g rfl⟩
  |true=>
   obtain⟨aN,M,h,j,a,p,k⟩:=C rfl;obtain⟨S4,m,n⟩:=e a M k (by lia);refine⟨S4,?_,n⟩;simp only[oM,hQ,h];rcases j with rfl|rfl<;>exact m
theorem Qq(x:List Ta):x.filter (λ_=>aa)=x:=List.filter_eq_self.mpr λ_ Y=>rfl
theorem eI(a:J w=Z (.aZ,z)):a7 J d w=d z:=by unfold a7;rw[a];rfl
theorem kA(a:J w=Z (.dO k,z)):a7 J d w=Z (.dO k,z):=by unfold a7;rw[a];rfl
theorem Fm{J:h6}{M:aU}{aN:mG}(a:J w=Z ((x,m),z))(d:dW To c x z=Z (aN,M)):gI J To c w=Z (aN,k0 m M):=by
 unfold gI;rw[a];show (dW To c x z).map _=_;rw[d];rfl
theorem PS{r:aj}(b:E.length=v)(a:J (E.map Z++List.replicate (i-v) X)=Z (.dO r,w)):c6 v i S8 J E=Z (r,h8 S8 E w 0):=by
 unfold c6;rw[aB b,a]
theorem qX{Tl:List Nat}{D:h6}{b:aU}{E:List ab}(l:D w=Z ((x,m),z))(C:hj own To q a x [] (kj Tl z)=Z (E,b)):cJ own Tl D To q a w=Z (.lst E,k0 m<|iD Tl b z):=by
 unfold cJ;rw[l];show (hj own To q a x []<|kj Tl z).map _=_;rw[C];rfl
theorem d5{J:av aj}(a:J w=Z (k,z)):cv J w=Z (.dO k,z):=by unfold cv;rw[a];rfl
theorem us{b:Nat}{J:av aj}(a:J w=Z (k,z))(d:b<z.length):bL b J w=Z (.aZ,z.set b<|Z k):=by unfold bL;rw[a];show (if b<z.length then _ else _)=_;rw[aB d]
theorem rD(a:q w=Z (aa,z)):dB q g c w=g z:=by unfold dB;rw[a];rfl
theorem q4(a:q w=Z (al,z)):dB q g c w=c z:=by unfold dB;rw[a];rfl
theorem jV(w:aU){r:aj}{Ua:List aj}(b:E.length=v)(a:J (E.map Z++List.replicate (i-v) X)=Z (.dO r,w))(c:h8 S8 E w 0=Ua):c6 v i S8 J E=Z (r,Ua):=by
 rw[PS b a,c]
theorem nm{Ta:Type}{own:Nat}{To:eX}{q:av Bool}{a:av aj}{az:aU}(c:Ta->ab)(n:Ta->Bool)(P:Ta->ab):∀(x:List Ta) (b:List ab),(∀e∈x,∃z M,To (.im<|c e) (List.replicate own X++az)=Z z/\q z=Z (n e,M)/\(n e=al->M.drop own=az)/\(n e=aa->∃U,a M=Z (.im<|P e,U)/\U.drop own=az))->
  b.length+x.length<=100000->hj own To q a (x.map c) b az=Z (b++(x.filter n).map P,az)
 |[],b,_,_=>by simp[hj]
 |e::r,b,d,h=>by
  obtain⟨z,M,l,C,i,j⟩:=d e (.head _);rw[c7]at h;rw[ci,hj,l];show (q z).bind _=_;rw[C];show (if n e=aa then _ else _)=_;cases f:n e with
  |false=>
   rw[aG c9];show hj own To q a (r.map c) b (M.drop own)=_;rw[i f,nm c n P r b (λt g=>d t<|.tail _ g) (by lia),F4,f];rfl
  |true=>
   obtain⟨U,k,m⟩:=j f;rw[aB rfl];show (a M).bind _=_;rw[k];show (if b.length<100000 then hj own To q a (r.map c) (b++[P e]) (U.drop own) else X)=_;rw[aB (by lia),m,nm c n P r (b++[P e]) (λt g=>d t<|.tail _ g) (by rw[cb,jq];lia),F4,f];simp
theorem jA{az:aU}(b:Ta->ab)(P:Ta->ab)(x:List Ta)(d:∀e∈x,∃z M U,To (.im<|b e) (List.replicate own X++az)=Z z/\q z=Z (aa,M)/\a M=Z (.im<|P e,U)/\U.drop own=az)(i:x.length<=100000):hj own To q a (x.map b) [] az=Z (x.map P,az):=by
 have:=nm (own:=own) (To:=To) (q:=q) (a:=a) (az:=az) b (λ_=>aa) P x [] (λe c=>by
  obtain⟨z,M,U,l,C,f,g⟩:=d e c;exact⟨z,M,l,C,(λh=>by cases h),(λ_=>⟨U,f,g⟩)⟩) (by rw[sL];lia)
 rw[Qq]at this;exact this
end L2
namespace G
open PySem L2
noncomputable abbrev aF(b:Int):aj:=.im (.int b)
end G
namespace L2
open PySem PySem.Spec PyProof.Rows
section
variable{SR:bw}{D:a9}{O:bp}{SM:ae->ak->Prop}{j:ak}
end
section
variable{f:aH}
end
section
variable{f:aH}
end
section
variable{f:aH}
noncomputable def rt:ab->Option d_
 |.int b=>Z (.inl b)
 |.str e=>Z (.inr e)
 |_=>X
@[simp] theorem Sh(b:Int):rt (.int b)=Z (.inl b):=rfl
@[simp] theorem Sg(e:ay):rt (.str e)=Z (.inr e):=rfl
noncomputable def FD:d_->ab
 |.inl b=>.int b
 |.inr e=>.str e
@[simp] theorem SH(b:Int):FD (.inl b)=.int b:=rfl
@[simp] theorem SB(e:ay):FD (.inr e)=.str e:=rfl
theorem Qs{h:au}{k:ab}{s:as}{o:d_}(d:cq h k s)(a:rt k=Z o):s=ct o:=by
 cases k with
 |int b=>cases a;exact d
 |str e=>cases a;exact d
 |_=>cases a
noncomputable def gy{F:Type}[DecidableEq F](M:List (F×ab))(o:F)(k:ab):List (F×ab):=
 if (M.any λa=>decide (a.1=o))=aa then M.map (λa=>if a.1=o then (a.1,k) else a) else M++[(o,k)]
variable{F:Type}
theorem eC.any[DecidableEq F]{h:au}{o:F}{H:List (F×ab)}{i:List (F×as)}(d:eC h H i):(H.any λa=>decide (a.1=o))=(i.any λa=>decide (a.1=o)):=by
 unfold eC at d;induction d with
 |nil=>rfl
 |cons r _ b=>rw[mX,mX,b,r.1]
theorem eC.upd[DecidableEq F]{h:au}{o:F}{k:ab}{s:as}(D:cq h k s){H:List (F×ab)}{i:List (F×as)}(d:eC h H i):eC h (H.map λb=>if b.1=o then (b.1,k) else b) (i.map λb=>if b.1=o then (b.1,s) else b):=by
 unfold eC at d;induction d with
 |nil=>exact .nil
 |@cons n p _ _ r _ e=>
  rw[ci,ci];refine .cons ?_ e;by_cases a:n.1=o
  ·have c:p.1=o:=r.1.symm.trans a;rw[aB a,aB c];exact⟨r.1,D⟩
  ·have c:¬ p.1=o:=λf=>a (r.1.trans f);rw[aG a,aG c];exact r
theorem Hs{Ta z:Type}{N:Ta->z->Prop}{H:List Ta}{i:List z}{g:Ta}{c:z}(d:dX N H i)(e:N g c):dX N (H++[g]) (i++[c]):=by
 induction d with
 |nil=>exact .cons e .nil
 |cons r _ a=>exact .cons r a
theorem eC.put[DecidableEq F]{h:au}{o:F}{k:ab}{s:as}(D:cq h k s){H:List (F×ab)}{i:List (F×as)}(d:eC h H i):eC h (gy H o k) (hp i o s):=by
 unfold gy hp;rw[d.any];split
 ·exact d.upd D
 ·exact Hs d ⟨rfl,D⟩
@[simp] noncomputable def tk:av aj:=λw=>Z (.aL [],w)
theorem xC{S1:Pos}:b4 f (.Dict [] [] S1) tk:=by
 refine dY QQ λy h A ⟨w,N,r,S4,st,ah,c,p⟩ n b=>?_;cases c;have j:cG h (L2.upd h n<|.aL []):=(cG.refl h).upd b;have d:bd h N h (N++[]):=by rw[bU];exact bd.perm ah (List.Perm.refl _)
 exact p _ _ N [n] (st.mono j.tupS λg Y m a=>j g m a) ⟨n,[],rfl,ec,.nil,rfl⟩ (d.new j (er _ _) (λg e=>by rw[bW.mp e];exact b) st.chg)
@[simp] def Sy(a b:av aj):av aj:=λw=>(a w).bind λn=>(b n.2).bind λp=>match n.1,p.1 with
 |.im o,.im k=>(rt o).map λc=>(.dm [(c,k)],p.2)
 |_,_=>X
@[simp] def ha(q o k:aj):Option aj:=match q,o,k with
 |.lst x,.im<|.int b,.im k=>(ju x.length b).map λu=>.lst (x.set u k)
 |.dm M,.im o,.im k=>(rt o).bind λa=>if M.length<100000 then Z (.dm<|gy M a k) else X
 |.aL M,.im<|.tup o,.im k=>if ab.keys 7 o=aa/\M.length<100000 then Z (.aL<|gy M o k) else X
 |_,_,_=>X
theorem tz(F:f.A.units+20<bP):tX f ha:=by
 intro G j y h m b s H J I A Y i n r ⟨q,o,k,L,SQ,S0,u,v,w,ah,a,p⟩;unfold ha at a;split at a
 ·exact Cy G j y h m b s H J I A Y i n r ⟨_,_,_,L,SQ,S0,u,v,w,ah,a,p⟩
 ·obtain⟨P,M,z⟩:=bB.mp a;split at z
  ·rename_i d;cases z;obtain⟨g,S2,rfl,l,C,rfl⟩:=u;obtain⟨hd,rfl⟩:=w;have q:gn h g:=⟨_,l,(λ_ a=>by cases a),(λ_ W a=>by cases a)⟩;cases i;have N:=Qs v.1 M;subst N;refine CO F Y (nA.k l (by rw[<-C.length];exact wS d)) n r λSN D=>⟨_,D,p _ [g] ?_ (bd.chg (.head _) q (er _ _) λe E=>by simpa using E)⟩;exact⟨g,_,rfl,ec,(eC.put hd C).mono<|cq.k2 q,rfl⟩
  ·cases z
 ·split at a
  ·rename_i d;cases a;obtain⟨g,S2,rfl,l,C,rfl⟩:=u;obtain⟨hd,rfl⟩:=w;have q:gn h g:=⟨_,l,(λ_ a=>by cases a),(λ_ W a=>by cases a)⟩;cases i;obtain⟨c,x,rfl,Tj,Tr⟩:=v.1;refine CO F Y (nA.t l ⟨d.1,c,x,rfl,Tj,Tr⟩ (by rw[<-C.length];exact wS d.2)) n r λSN D=>⟨_,D,p _ [g] ?_ (bd.chg (.head _) q (er _ _) λe E=>by simpa using E)⟩;exact⟨g,_,rfl,ec,(eC.put hd C).mono<|cq.k2 q,rfl⟩
  ·cases a
 ·cases a
end
section
variable{f:aH}
noncomputable def Ei:bl->aj->Option (Nat×aj)
 |.aW b,k=>Z (b,k)
 |.b8 _,_=>X
@[simp] theorem Su(b:Nat)(k:aj):Ei (.aW b) k=Z (b,k):=rfl
@[simp] theorem Sw(q k:aj):Ei (.b8 q) k=X:=rfl
end
section
variable{SR:bw}{D:a9}{O:bp}{SM:ae->ak->Prop}{j:ak}
end
section
variable{f:aH}
end
section
variable{f:aH}
end
section
variable{SR:bw}{D:a9}{O:bp}{SM:ae->ak->Prop}{j:ak}
end
section
variable{SR:bw}{D:a9}{O:bp}{SM:ae->ak->Prop}{j:ak}
end
section
variable{f:aH}
end
section
variable{f:aH}
end
section
variable{f:aH}
end
section
variable{f:aH}
theorem RT{o:Nat}{b:ay}{L q:Pos}{To TQ Ue:a8}{T_:List a8}{S9:gs}{S1:Pos}{own:List ay}{Tl:List Nat}{E:c0}{J:ji->gr}{T:ji->d0}{TW:ji->bR}(u:f.N.Nodup)(v:f.N[o]?=Z b)(x:Loc f.env.scope b)(z:f.calm=aa)(S0:iJ f S9 own Tl)(SJ:ke f To TQ E)(B:∀k,jn (f.f7 (gj f own Tl) S9 k) To<|J k)(bt:∀k,rp (f.f7 (gj f own Tl) S9 k) T_<|T k)(C:∀k,bC (f.f7 (gj f own Tl) S9 k) Ue<|TW k)(SX:∀e,lY TQ f.env e=pure e:=by intro W;rfl)(D:lg (.ListComp Ue [⟨To,TQ,T_,0⟩] S9 S1) (Z<|.Name b L) q.line f.env=pure aa:=by rfl)(F:f.fn b=aa\/f.env.scope.names.lookup b=Z .local:=by first|exact .inl rfl|exact .inr rfl|assumption):
  gD f (.Assign [.Name b L] (.ListComp Ue [⟨To,TQ,T_,0⟩] S9 S1) q) (wI (ue own Tl E J T TW)<|wQ o):=by
 intro G j y h H Y d;rw[exec_Assign_Name_used _ _ _ _ D];refine ao (uv<|ao ?_);show wpAny _ f.A (do let _ <-zn (.ListComp Ue [⟨To,TQ,T_,0⟩] S9 S1) S9 f.env _ (ow []) al (bQ TQ f.env) (Z<|ho (.Name b L) f.env)) _ _ j;refine ao (fY (FP (use:=Z (ho (.Name b L) f.env)) (SM:=λ_ SN=>iO f G H .next SN) z S0 SJ B bt C SX Y d λw az f1 I i M Q P r t R n p=>?_) (λ_ SN S=>aJ<|aJ S) λ_ W a=>a);show wpAny _ f.A (ho (.Name b L) f.env<|.ref w) _ _ I;refine CM (Di M u v x (s:=.ref w) rfl (λbe bs cl=>?_) F);obtain⟨g,co,l⟩:=cl;have eq:az≠g:=by
  rcases l with rfl|l
  ·exact fB r
  ·exact fB (t _ _ l)
 exact⟨i,Q.sameBut co eq,λU b9=>⟨_,_,bs.turned (SP:=az) (Tk:=be.toks) (λc m ex a=>(b9.2 c ex).trans a) P (fB r) (.inr R) t n,p⟩⟩
end
section
variable{f:aH}
theorem Jb{S8:List Nat}{b:Nat}{a:ay}{L d:Pos}{To TQ Ue:a8}{T_:List a8}{S9:gs}{S1:Pos}{own:List ay}{Tl:List Nat}{D:h6}{t:eX}{TX:av Bool}{Uk:av aj}(g:f.N.Nodup)(i:f.N[b]?=Z a)(j:Loc f.env.scope a)(k:f.calm=aa)(S0:iJ f S9 own Tl)(ah:Tl.Nodup)(SJ:ng f To TQ D)(m:∀c,h1 (f.f7 (gj f own Tl) S9 c) (qk own.length Tl.length) To t)(bt:∀c,t9 (f.f7 (gj f own Tl) S9 c) T_ TX)(n:∀c,b4 (f.f7 (gj f own Tl) S9 c) Ue Uk)(o:b∉S8)(SX:∀e,lY TQ f.env e=pure e:=by intro Y;rfl)(q:lg (.ListComp Ue [⟨To,TQ,T_,0⟩] S9 S1) (Z<|.Name a L) d.line f.env=pure aa:=by rfl)(u:f.fn a=aa\/f.env.scope.names.lookup a=Z .local:=by first|exact .inl rfl|exact .inr rfl|assumption):
  fU f S8 (.Assign [.Name a L] (.ListComp Ue [⟨To,TQ,T_,0⟩] S9 S1) d) (bL b<|cJ own.length Tl D t TX Uk):=by
 refine iS (RT g i j k S0 SJ m bt n SX q u) λSM y h v=>?_;obtain⟨w,N,aN,S4,st,x,A,p⟩:=v;obtain⟨⟨r,z⟩,l,C⟩:=bB.mp A;split at C
 ·rename_i B;cases C;refine EA ah ⟨w,N,r,_,st,x,l,λs SU S6 SQ E F G=>?_⟩;obtain⟨Tg,bO,H,Te⟩:=E.put (b:=b) F B;exact p _ SU Tg (cI.set o) H (G.less Te)
 ·cases C
end
section
variable{f:aH}
noncomputable def zA:aj->aj
 |.lst e=>.im (.aN e)
 |.aL []=>.im .fd
 |k=>k
@[simp] theorem SE(e:List ab):zA (.lst e)=.im (.aN e):=rfl
@[simp] theorem SA(k:ab):zA (.im k)=.im k:=rfl
@[simp] def nE(J:av aj):av aj:=λw=>(J w).map λn=>(zA n.1,n.2)
theorem Ki{h:au}{g:ai}{I:fM}{d:a0}(Tj:h g=Z I)(e:∀x,I≠.tup x)(TZ:∀n s,I≠.de n s):eO h (upd h g<|.de d I):=eO.of (λc x a=>by
  have:c≠g:=λb=>by subst b;rw[Tj]at a;cases a;exact e _ rfl
  rw[cB this];exact a) λc m I a=>by
  have:c≠g:=λb=>by subst b;rw[Tj]at a;cases a;exact TZ _ _ rfl
  rw[cB this];exact a
variable{a:a8}
theorem n6{J:av aj}(d:b4 f a J):b4 f a (nE J):=by
 intro G j y h A Y ⟨w,N,r,S4,st,ah,co,p⟩;obtain⟨⟨T,z⟩,l,C⟩:=ch.mp co;cases C;refine bJ (@d G j y h (λs SU=>∃S6 SQ,bo SU z y S6/\cn SU T s SQ/\bd h N SU (S6++SQ)) Y ⟨w,N,T,z,st,ah,l,λs SU S6 SQ g c q=>⟨S6,SQ,g,c,q⟩⟩) λI u eq=>?_;obtain⟨s,SU,E,P,S6,SQ,be,F,i⟩:=eq;have fin:∀{g:ai}{H:a0}{I:fM}{k:ab},SU g=Z I->(∀x,I≠.tup x)->(∀n D,I≠.de n D)->SQ=[g]->Inv f G y (upd SU g<|.de H I) u->(eO SU (upd SU g<|.de H I)->cq (upd SU g<|.de H I) k (.ref g))->(∀s R Ti B,bo R z y Ti->cn R (.im k) s B->bd h N R (Ti++B)->A s R)->d4 f G y A (.ref g) u:=by
  intro g H I k Tj ex TZ O fn hd p;subst O;have cl:=cF.mp i.ah;have f1:g∉S6:=λb=>cl.2.2 g b g (.head _) rfl;have gl:=Ki (d:=H) Tj ex TZ;refine⟨.ref g,_,fn,rfl,p _ _ S6 [] (be.mono gl λc L m a=>by
    have ne:c≠g:=λb=>by subst b;exact f1 L
    rw[cB ne];exact a) ⟨hd gl,rfl⟩ ?_⟩
  rw[bU];refine⟨λc m a L=>?_,λc L=>i.sub c<|dI _ L,cl.1,i.tup.trans gl,λc m a=>?_⟩
  ·have:c≠g:=λb=>by
    subst b;rcases i.sub c (dH _<|.head _) with d|d
    ·exact L d
    ·rw[a]at d;cases d
   rw[cB this];exact i.keep c m a L
  ·by_cases b:c=g
   ·exact⟨_,by rw[b];exact ec⟩
   ·obtain⟨Tq,go⟩:=i.grow c m a;exact⟨Tq,by rw[cB b];exact go⟩
 cases T with
 |lst e=>
  obtain⟨g,x,rfl,Tj,Tr,O⟩:=F;cases P;obtain⟨b,SZ,v,bs,t⟩:=E.aV g _ Tj;exact fin (k:=.aN e) Tj (λ_ a=>by cases a) (λ_ W a=>by cases a) O (E.write (U:=u.heap) (Tk:=u.toks) (a:=g) (by rw[Tj];trivial) (.inl rfl) (λc I W a=>a) ⟨_,t⟩ ⟨t,b,SZ,v,bs,t⟩) (λgl=>⟨g,x,_,rfl,ec,Tr.mono gl.tup⟩) p
 |aL M=>
  cases M with
  |nil=>
   obtain⟨g,T2,rfl,Tj,Tr,O⟩:=F;cases Tr;cases P;obtain⟨b,S,x,bs,m,Q,Td,t,Ts,g1,mb,of⟩:=E.aV g _ Tj;cases bs;exact fin (k:=.fd) Tj (λ_ a=>by cases a) (λ_ W a=>by cases a) O (E.write (U:=u.heap) (Tk:=u.toks) (a:=g) (by rw[Tj];trivial) (.inl rfl) (λc I W a=>a) ⟨_,t⟩ ⟨t,b,S,[],.nil,m,Q,Td,t,Ts,g1,mb,of⟩) (λ_=>⟨g,_,rfl,ec⟩) p
  |cons o r=>exact⟨s,SU,E,P,p s SU S6 SQ be F i⟩
 |_=>exact⟨s,SU,E,P,p s SU S6 SQ be F i⟩
variable{o:Nat}{P:ai}{fd:gp}{SO:List ay}{e:ay}{n S1:Pos}{Q:List a8}
theorem Mj{M:jd}{T0:kr}{SM:fA}{l:bR}{B:eL}{E:List ae}{k:List as}(N:gx f.prog f.w f.K f.aw f.base M o P fd SO T0)(g:dV o f.A)(i:bC f (.Name e n) l)(m:PySem.W.keepIn f.K (.ref P)=aa)(q:hv f.K fd SO E)(hd:bK k E)(u:td M f SM)(v:gG f (a::Q) B)(x:bG (a::Q) f.env=(al,bQ a f.env)::bG Q f.env:=by rfl)(z:(eJ S1<|bG Q f.env).any (·.1)=al:=by rfl):
  bC f (.Call (.Name e n) (a::Q) [] S1) (λy h A=>l y h λs SU=>s=.ref P/\yb T0 k SM B y SU A):=by
 intro G j y h A Y d;refine oJ (bJ (i G j y h _ Y d) λs C F=>?_);obtain⟨t,SU,b,H,I,J⟩:=F;subst I;cases H;refine y7 (h₀:=f.base) b.ok.mod.pn m (bJ (v S1 G C y SU _ b J) λS7 R ⟨T,S5,c,r,p⟩=>⟨c.kp,?_⟩) x z;exact Gz N g q hd u c r p
@[simp] def qb(b:Nat)(P:ai)(v:Nat)(SV:cN)(J:av (List bl)):av aj:=λw=>match w[b]? with
 |some (Z<|.im<|.fn g)=>if g=P then bq v SV J w else X
 |_=>X
theorem QD{b v:Nat}{SV:cN}{J:av (List bl)}(N:gx f.prog f.w f.K f.aw f.base hA o P fd SO (jm v SV))(i:dV o f.A)(j:bC f (.Name e n) (lq b))(k:PySem.W.keepIn f.K (.ref P)=aa)(m:hv f.K fd SO [])(d:eR f (a::Q) J)(q:bG (a::Q) f.env=(al,bQ a f.env)::bG Q f.env:=by rfl)(t:(eJ S1<|bG Q f.env).any (·.1)=al:=by rfl):
  b4 f (.Call (.Name e n) (a::Q) [] S1) (qb b P v SV J):=by
 refine dY (Mj N i j k m .nil Cq d q t) λy h A u=>?_;obtain⟨w,x,r,S4,st,ah,c,p⟩:=u;unfold qb at c;split at c
 ·rename_i g hd;split at c
  ·rename_i d;subst d;obtain⟨s,S6,Tg,l,C,z,B⟩:=st.out hd;exact⟨s,l,C.1,F5 ⟨w,x,r,S4,st,ah,c,p⟩⟩
  ·cases c
 ·cases c
end
end L2
namespace cY
open PySem PySem.Spec PyProof.Rows
section
variable{SR:bw}{D:a9}{O:bp}{SM:ae->ak->Prop}{j:ak}
theorem MW(v:Nat):ba.Slice.slicePlaces ((v:Int)-1) (-1) (-1)=v:=by
 unfold ba.Slice.slicePlaces;rw[aG (by decide)];split
 ·rw[show (- -1:Int)=1 by decide,BQ];lia
 ·show (0:Int).toNat=v;lia
variable{aW:ai}
theorem NB{B:gR}{v:Nat}{A:Int×Int×Nat->ak->Prop}(SX:j.heap.IsSliceOf aW .none .none (.int (-1) B))(d:A ((v:Int)-1,-1,v) j):wpAny (aM SR D) O (ba.Slice.sliceApplied (.ref aW)<|pure (v:Int)) A SM j:=by
 obtain⟨S3,a,c,b⟩:=id SX;unfold ba.Slice.sliceApplied ba.Slice.sliceFields;refine ao (ao<|gu a b (x:=.none) rfl<|ao<|gu a b (x:=.none) rfl<|ao<|gu a b (x:=.int (-1) B) rfl<|aJ ?_);refine ao (Gj ?_);show wpAny _ _ (if ((-1:Int)==0)=aa then _ else _) _ _ j;rw[aG (by decide)];refine ao (rW<|ao<|rW<|ao<|aJ ?_);show wpAny _ _ (pure ((v:Int)-1,(-1:Int),ba.Slice.slicePlaces ((v:Int)-1) (-1)<|-1)) _ _ j;rw[MW];exact aJ d
theorem E4{Ta z:Type}{P J:Ta->Option z}:∀(H:List Ta),(∀e∈H,P e=J e)->H.filterMap P=H.filterMap J
 |[],_=>rfl
 |e::r,d=>by rw[lC,lC,d e<|.head _,E4 r λt a=>d t<|.tail _ a]
theorem Hn(x:Array ae):((range x.size).filterMap λ(i:Nat)=>x[((x.size:Int)-1+(i:Int)*(-1)).toNat]?).toArray=x.toList.reverse.toArray:=by
 have a:(range x.size).filterMap (λ(i:Nat)=>x[((x.size:Int)-1+(i:Int)*(-1)).toNat]?)=((range x.size).map λo=>x.size-1-o).filterMap (x[·]?):=by
  rw[CU];refine E4 _ λo b=>?_;have:=f2.mp b;show x[_]?=x[x.size-1-o]?;congr 1;lia
 rw[a,PySem.W.krv_range,List.filterMap_reverse,PySem.W.krv_all]
theorem Om{B:ai}{S_:Array ae}{Tu:gR}{A:ae->ak->Prop}(bt:lp j.heap B S_)(SX:j.heap.IsSliceOf aW .none .none (.int (-1) Tu))(d:A (.ref j.heap.objs.size) {j with heap:=j.heap.push {cls:=.type "tuple",data:=.seq S_.toList.reverse.toArray} })(b:S_.size<=sizeLine):wpAny (aM SR D) O (j2 (.ref B)<|.ref aW) A SM j:=by
 obtain⟨S3,c,e,g⟩:=id SX;have f:j.TypeIs (.ref aW) "slice" := ⟨S3,c,e⟩;unfold j2;try with_reducible refine gf ?_
 first|refine ao (aJ ?_)|skip
 refine ao (yc bt.typeIs (by decide) ?_);refine ao (jf (name:=ay.ofString "__getitem__") bt.typeIs k_<|gW k_ bt.typeIs x8 ?_<|yp _ _);show wpAny _ _ (ba.Tuple.tupleItemsOf (.ref B) >>= _) _ _ j;refine ao (y1 bt<|ao<|lD f ?_);rw[aB (by decide)];refine ao (NB SX ?_);show wpAny _ _ (if (((S_.size:Int)-1)==0&&(-1:Int)==1&&S_.size==S_.size)=aa then _ else _) _ _ j;rw[aG (by simp),Hn];have a:sizeOk (.seq S_.toList.reverse.toArray):=by
  show S_.toList.reverse.toArray.size<=sizeLine;simpa using b
 first
  | exact ao (m:=ba.Tuple.tupleExact _) (fq (aJ ⟨_,rfl,aJ d⟩) a)
  | exact ao (m:=ba.Tuple.tupleExact _) (fq (ao<|aJ<|aJ ⟨_,rfl,aJ d⟩) a)
  | exact ao (ao (m:=ba.Tuple.tupleExact _)<|fq (aJ<|aJ ⟨_,rfl,aJ d⟩) a)
  | exact ao (ao (m:=ba.Tuple.tupleExact _)<|fq (aJ ⟨_,rfl,aJ d⟩) a)
end
end cY
namespace L2
open PySem PySem.Spec PyProof.Rows
section
variable{f:aH}
def J5(SK:PySem.W.Frag)(TW Tn:bR):bR:=λy h A=>TW y h λe SU=>Tn y SU λt S5=>t=.int (-1)/\∃g x,e=.ref g/\b7 SK S5 g x/\∀n,S5 n=X->A (.ref n) (upd S5 n<|.tup x.reverse)
variable{Tv S1:Pos}
theorem Lo{a st:a8}{TW Tn:bR}(n:bC f a TW)(SX:bC f st Tn):bC f (.Subscript a (.Slice X X (Z st) Tv) S1) (J5 f.K TW Tn):=by
 intro G j y h A Y d;refine xx (bJ (n G j y h _ Y d) λs o i=>?_);obtain⟨e,SU,q,u,v⟩:=i;refine wpAny_Slice ?_;rw[w1,zM];refine aJ (aJ ?_);refine bJ (SX G o y SU _ q v) λT b i=>?_;obtain⟨t,S5,z,C,E,g,x,Tz,F,p⟩:=i;subst E Tz;cases u;obtain⟨B,rfl⟩:=C;have k:Inv f G y S5 {b with heap:=b.heap.push {cls:=.type "slice",data:=.fields #[.none,.none,.int (-1) B]} }:=z.kept (Tk:=b.toks) λc H p=>bS _ p;obtain⟨SZ,r,bt,l⟩:=k.tuple F;show wpAny (aM f.prog f.w) f.A (xA a (.Slice X X (Z st) Tv) (.ref g)<|.ref b.heap.objs.size) (d4 f G y A) f.ce {b with heap:=b.heap.push {cls:=.type "slice",data:=.fields #[.none,.none,.int (-1) B]} };refine w8 (ops:=[.ref g,.ref b.heap.objs.size]) bt.typeIs k_.lookup (cY.Om bt (aT.IsSliceOf.new ..) ?_ (by rw[cr,<-r.length];exact l)) (by with_unfolding_all rfl);refine⟨.ref _,_,k.laid (Tk:=b.toks) (m:=.tup x.reverse) (λc H p=>bS _ p) (bm _) ?_,rfl,p _<|k.aV.fresh<|bm _⟩;exact⟨by rw[List.length_reverse];exact l,SZ.reverse,r.reverse,lL.new _ _⟩
theorem bu.rev{h:au}:∀{E:List ab}{x:List as},bu h E x->bu h E.reverse x.reverse
 |[],x,d=>by cases (show x=[] from d);rfl
 |k::E,x,d=>by
  obtain⟨s,r,rfl,l,C⟩:=d;rw[uu,uu];exact C.rev.app ⟨s,[],rfl,l,rfl⟩
@[simp] def qB(J:av bl):av aj:=λw=>(J w).bind λn=>(cV n.2 n.1).bind λk=>match k with
 |.im (.tup e)=>Z (.im<|.tup e.reverse,n.2)
 |_=>X
theorem CN{a st:a8}{J:av bl}(v:dd f a J)(SX:b4 f st (gM<|aq<|.int 1)):b4 f (.Subscript a (.Slice X X (Z st) Tv) S1) (qB J):=by
 refine dY (Lo v SX) λy h A B=>?_;obtain⟨w,N,r,S4,st,ah,E,p⟩:=B;obtain⟨⟨e,z⟩,l,C⟩:=bB.mp E;obtain⟨k,F,o⟩:=bB.mp C;split at o
 ·rename_i Q;cases o;refine⟨w,N,e,z,st,ah,l,λs SU S6 SQ G Th q=>⟨z,S6,.im<|.int<|-1,z,G,(cF.mp q.ah).1,rfl,λD S5 Tg bO t I c=>?_⟩⟩;obtain⟨L,rfl⟩:=I;rw[bU]at c;have M:hw S5 y e s SQ:=Th.mono c.tup λg u m a=>c.keep g m a λd=>(cF.mp q.ah).2.2 g d g u rfl;have O:=q.trans c Th.chg;obtain⟨n,x,rfl,Tj,Tr⟩:=(M.read t F).i;refine⟨L,n,x,rfl,b7.of Tj,λH P=>?_⟩;have j:cG S5 (upd S5 H<|.tup x.reverse):=(cG.refl S5).upd P;exact p _ _ Tg [] (t.mono j.tupS λg Y m a=>j g m a) ⟨⟨H,_,rfl,ec,(Tr.mono j.tupS.tup).rev⟩,rfl⟩ (O.new j io (λg u=>nomatch u) t.chg)
 ·cases o
end
variable{q g:a8}{Uh Tx:oo}{TX TI TT:av bl}{S P:fP}{A:ae->ak->Prop}{c:Bool}{TA:aj}{I s:ae}{t e:as}{j:ak}{y:St}{G:List (ai×a0)}{k:ab}{h:au}{S1:Pos}
theorem Ez{d:aT}:∀(v:Nat) {e t:ab}{s:ae},ab.bk v e=aa->ab.bk v t=aa->dR d e s->dR d t s->e=t
 |v,.aR,t,s,_,a6,h,f=>by
  cases (show s=.none from h);cases t with
  |aR=>rfl
  |ax c=>cases f
  |int u=>obtain⟨I,a⟩:=f;cases a
  |str j=>obtain⟨I,a⟩:=f;cases a
  |tup E=>obtain⟨Y,Y,Y,Y,a,Y⟩:=f;cases a
  |fn g=>cases v<;>cases a6
  |aN g=>cases v<;>cases a6
  |fd=>cases v<;>cases a6
 |v,.ax c,t,s,_,a6,h,f=>by
  cases (show s=.bool c from h);cases t with
  |aR=>cases f
  |ax q=>cases f;rfl
  |int u=>obtain⟨I,a⟩:=f;cases a
  |str j=>obtain⟨I,a⟩:=f;cases a
  |tup E=>obtain⟨Y,Y,Y,Y,a,Y⟩:=f;cases a
  |fn g=>cases v<;>cases a6
  |aN g=>cases v<;>cases a6
  |fd=>cases v<;>cases a6
 |v,.int b,t,s,_,a6,h,f=>by
  obtain⟨B,rfl⟩:=h;cases t with
  |aR=>cases f
  |ax q=>cases f
  |int u=>obtain⟨I,a⟩:=f;injection a with a;rw[a]
  |str j=>obtain⟨I,a⟩:=f;cases a
  |tup E=>obtain⟨Y,Y,Y,Y,a,Y⟩:=f;cases a
  |fn g=>cases v<;>cases a6
  |aN g=>cases v<;>cases a6
  |fd=>cases v<;>cases a6
 |v,.str b,t,s,_,a6,h,f=>by
  obtain⟨B,rfl⟩:=h;cases t with
  |aR=>cases f
  |ax q=>cases f
  |int u=>obtain⟨I,a⟩:=f;cases a
  |str j=>obtain⟨I,a⟩:=f;injection a with a;rw[a]
  |tup E=>obtain⟨Y,Y,Y,Y,a,Y⟩:=f;cases a
  |fn g=>cases v<;>cases a6
  |aN g=>cases v<;>cases a6
  |fd=>cases v<;>cases a6
 |v+1,.tup E,t,s,w,a6,h,f=>by
  obtain⟨g,m,S_,i,rfl,l,C,x,y⟩:=h;cases t with
  |aR=>cases f
  |ax q=>cases f
  |int u=>obtain⟨I,a⟩:=f;cases a
  |str j=>obtain⟨I,a⟩:=f;cases a
  |fn g=>cases a6
  |aN g=>cases a6
  |fd=>cases a6
  |tup Q=>
   obtain⟨F,Tq,G,H,a,n,Tc,TE,z⟩:=f;cases a;rw[l]at n;cases n;rw[x]at TE;injection TE with TE _;subst TE;have all:∀(E Q:List ab) (T:List ae),ab.cQ v E=aa->ab.cQ v Q=aa->dw d E T->dw d Q T->E=Q:=by
    intro E;induction E with
    |nil=>
     intro Q T Y Y g c;cases Q with
     |nil=>rfl
     |cons a Q=>obtain⟨Y,Y,p,Y⟩:=c;rw[show T=[] from g]at p;cases p
    |cons k E A=>
     intro Q T Tj Tr g c;obtain⟨s,r,rfl,D,TP⟩:=g;cases Q with
     |nil=>cases (show s::r=[] from c)
     |cons a Q=>
      obtain⟨J,TG,p,cz,b3⟩:=c;cases p;rw[ab.cQ,cd]at Tj Tr;rw[Ez v Tj.1 Tr.1 D cz,A Q r Tj.2 Tr.2 TP b3]
   rw[all E Q _ w a6 y z]
 |0,.tup _,_,_,o,_,_,_=>by cases o
 |v,.fn _,_,_,o,_,_,_=>by cases v<;>cases o
 |v,.aN _,_,_,o,_,_,_=>by cases v<;>cases o
 |v,.fd,_,_,o,_,_,_=>by cases v<;>cases o
open Classical in
def m9(d:aT)(k:ab)(s:ae):Bool:=if z:∃e,ab.bk 8 e=aa/\dR d e s then ck z.choose k else al
theorem rJ{d:aT}{e:ab}(o:ab.bk 8 e=aa)(b:dR d e s):m9 d k s=ck e k:=by
 unfold m9;have a:∃e,ab.bk 8 e=aa/\dR d e s:=⟨e,o,b⟩;rw[dif_pos a,Ez 8 a.choose_spec.1 o a.choose_spec.2 b]
theorem qr{d:aT}{k:ab}:∀{E:List ab}{T:List ae},ab.cQ 8 E=aa->dw d E T->T.any (m9 d k)=E.any λe=>ck e k
 |[],T,_,a=>by rw[show T=[] from a];rfl
 |e::E,T,o,a=>by
  obtain⟨s,r,rfl,l,C⟩:=a;rw[ab.cQ,cd]at o;rw[mX,mX,rJ o.1 l,qr o.2 C]
theorem pY{d:aT}:∀{E:List ab}{T:List ae}{s:ae},ab.cQ 8 E=aa->dw d E T->s∈T->∃e,ab.bk 8 e=aa/\dR d e s
 |[],T,s,_,a,i=>by rw[show T=[] from a]at i;cases i
 |e::E,T,s,o,a,i=>by
  obtain⟨I,r,rfl,l,C⟩:=a;rw[ab.cQ,cd]at o;rcases bI.mp i with rfl|i
  ·exact⟨e,o.1,l⟩
  ·exact pY o.2 C i
section
variable{f:aH}
def gi(k:ab):aj->Option Bool
 |.im (.tup E)=>if (ab.bk 8 k&&ab.cQ 8 E)=aa then Z (E.any λe=>ck e k) else X
 |.lst E=>if (ab.bk 8 k&&ab.cQ 8 E)=aa then Z (E.any λe=>ck e k) else X
 |.aL M=>match k with
  |.tup o=>if ab.keys 7 o=aa then Z (ez M o).isSome else X
  |_=>X
 |.dm M=>match k with
  |.int b=>Z (ez M<|.inl b).isSome
  |.str e=>Z (ez M<|.inr e).isSome
  |_=>X
 |_=>X
@[simp] theorem LR(k:ab)(E:List ab):gi k (.im<|.tup E)=if (ab.bk 8 k&&ab.cQ 8 E)=aa then Z (E.any λe=>ck e k) else X:=rfl
@[simp] theorem PL(k:ab)(E:List ab):gi k (.lst E)=if (ab.bk 8 k&&ab.cQ 8 E)=aa then Z (E.any λe=>ck e k) else X:=rfl
@[simp] theorem Ss(o:List ab)(M:List (List ab×ab)):gi (.tup o) (.aL M)=if ab.keys 7 o=aa then Z (ez M o).isSome else X:=rfl
@[simp] def jL:fP:=λg c=>match g with
 |.im k=>(gi k c).map λr=>.im (.ax r)
 |_=>X
@[simp] def iI:fP:=λg c=>match g with
 |.im k=>(gi k c).map λr=>.im (.ax<|!r)
 |_=>X
theorem oY{F:Type}[DecidableEq F]{h:au}{o:F}{M:List (F×ab)}{T2:List (F×as)}(d:eC h M T2):(hu T2 o).isSome=(ez M o).isSome:=by
 cases a:ez M o with
 |none=>rw[(od d).2 a];rfl
 |some k=>obtain⟨s,l,Y⟩:=(od d).1 k a;rw[l];rfl
theorem Qk(H:f.A.units+20<bP)(Y:Inv f G y h j)(m:bZ e s)(q:bZ t I)(r:cq h k e)(u:eY h TA t)(a:gi k TA=Z c)(p:∀SN,Inv f G y h SN->A (.bool c) SN):wpAny (aM f.prog f.w) f.A (dG .In s I) A f.ce j:=by
 unfold gi at a;split at a
 ·rename_i E;split at a
  ·rename_i d;cases a;rw[cd]at d;obtain⟨g,x,rfl,l,C⟩:=u.i;cases q;obtain⟨SZ,L,n,W⟩:=Y.tuple (b7.of l);have v:=C.fx Y.aV L;refine SeqAt.in_tupleAt (m9 j.heap k) (show j.heap.IsTuple g SZ.toArray from n) (λD J=>?_) ?_
   ·obtain⟨N,z,F⟩:=pY d.2 v (by simpa using J);rw[rJ z F];exact i3 8 z d.1 (by show f.A.units+1+8+1<bP;lia) F (r.fx Y.aV m)
   ·rw[uL,qr d.2 v];exact p j Y
  ·cases a
 ·rename_i E;split at a
  ·rename_i d;cases a;rw[cd]at d;obtain⟨W,g,x,rfl,l,C,W⟩:=u;cases q;obtain⟨SZ,n,v,W⟩:=pJ Y l C;refine SeqAt.in_listAt (m9 j.heap k) n (λD J=>?_) ?_
   ·obtain⟨N,z,F⟩:=pY d.2 v (by simpa using J);rw[rJ z F];exact i3 8 z d.1 (by show f.A.units+1+8+1<bP;lia) F (r.fx Y.aV m)
   ·rw[uL,qr d.2 v];exact p j Y
  ·cases a
 ·rename_i M;split at a
  ·rename_i o;split at a
   ·rename_i P;cases a;obtain⟨W,g,T2,rfl,l,C,W⟩:=u;cases q;obtain⟨c,S2,rfl,Q,Tc⟩:=r;rw[<-oY C]at p;exact wd H Y (gz.t l ⟨P,c,S2,rfl,Q,Tc⟩) m p
   ·cases a
  ·cases a
 ·rename_i M;split at a
  ·rename_i b;cases a;obtain⟨W,g,T2,rfl,l,C,W⟩:=u;cases q;rw[<-oY C]at p;cases (show e=ct (.inl b) from r);exact wd H Y (gz.k l) m p
  ·rename_i b;cases a;obtain⟨W,g,T2,rfl,l,C,W⟩:=u;cases q;rw[<-oY C]at p;cases (show e=ct (.inr b) from r);exact wd H Y (gz.k l) m p
  ·cases a
 ·cases a
theorem q3(d:f.A.units+20<bP):eA f (dG .In) jL:=by
 intro G j y h e t s I A Y g l ⟨TD,TA,k,m,n,a,p⟩;unfold jL at a;split at a
 ·obtain⟨c,o,q⟩:=ch.mp a;cases q;exact Qk d Y g l m.i n o λSN r=>⟨.ax c,h,r,rfl,bV.i p rfl⟩
 ·cases a
theorem Qz(H:f.A.units+20<bP)(Y:Inv f G y h j)(m:bZ e s)(q:bZ t I)(r:cq h k e)(u:eY h TA t)(a:gi k TA=Z c)(p:∀SN,Inv f G y h SN->A (.bool<|!c) SN):wpAny (aM f.prog f.w) f.A (dG .NotIn s I) A f.ce j:=by
 unfold gi at a;split at a
 ·rename_i E;split at a
  ·rename_i d;cases a;rw[cd]at d;obtain⟨g,x,rfl,l,C⟩:=u.i;cases q;obtain⟨SZ,L,n,W⟩:=Y.tuple (b7.of l);have v:=C.fx Y.aV L;refine SeqAt.notIn_tupleAt (m9 j.heap k) (show j.heap.IsTuple g SZ.toArray from n) (λD J=>?_) ?_
   ·obtain⟨N,z,F⟩:=pY d.2 v (by simpa using J);rw[rJ z F];exact i3 8 z d.1 (by show f.A.units+1+8+1<bP;lia) F (r.fx Y.aV m)
   ·rw[uL,qr d.2 v];exact p j Y
  ·cases a
 ·rename_i E;split at a
  ·rename_i d;cases a;rw[cd]at d;obtain⟨W,g,x,rfl,l,C,W⟩:=u;cases q;obtain⟨SZ,n,v,W⟩:=pJ Y l C;refine SeqAt.notIn_listAt (m9 j.heap k) n (λD J=>?_) ?_
   ·obtain⟨N,z,F⟩:=pY d.2 v (by simpa using J);rw[rJ z F];exact i3 8 z d.1 (by show f.A.units+1+8+1<bP;lia) F (r.fx Y.aV m)
   ·rw[uL,qr d.2 v];exact p j Y
  ·cases a
 ·rename_i M;split at a
  ·rename_i o;split at a
   ·rename_i P;cases a;obtain⟨W,g,T2,rfl,l,C,W⟩:=u;cases q;obtain⟨c,S2,rfl,Q,Tc⟩:=r;rw[<-oY C]at p;exact zm H Y (gz.t l ⟨P,c,S2,rfl,Q,Tc⟩) m p
   ·cases a
  ·cases a
 ·rename_i M;split at a
  ·rename_i b;cases a;obtain⟨W,g,T2,rfl,l,C,W⟩:=u;cases q;rw[<-oY C]at p;cases (show e=ct (.inl b) from r);exact zm H Y (gz.k l) m p
  ·rename_i b;cases a;obtain⟨W,g,T2,rfl,l,C,W⟩:=u;cases q;rw[<-oY C]at p;cases (show e=ct (.inr b) from r);exact zm H Y (gz.k l) m p
  ·cases a
 ·cases a
theorem vp(d:f.A.units+20<bP):eA f (dG .NotIn) iI:=by
 intro G j y h e t s I A Y g l ⟨TD,TA,k,m,n,a,p⟩;unfold iI at a;split at a
 ·obtain⟨c,o,q⟩:=ch.mp a;cases q;exact Qz d Y g l m.i n o λSN r=>⟨.ax<|!c,h,r,rfl,bV.i p rfl⟩
 ·cases a
@[simp] def gc(P S:fP)(TT TI TX:av bl):av aj:=λw=>(TT w).bind λn=>(TI n.2).bind λp=>(cV p.2 n.1).bind λTD=>(cV p.2 p.1).bind λTA=>(P TD TA).bind λk=>(kU k).bind λo=>
 if o=aa then (TX p.2).bind λr=>(cV r.2 p.1).bind λa=>(cV r.2 r.1).bind λb=>(S a b).bind λd=>(kU d).map λc=>(.im<|.ax c,r.2) else Z (.im<|.ax al,p.2)
theorem BS{A:cw}(d:l3 (gc P S TT TI TX) y h A):
  xB (λe t h A=>∃TD TA k,eY h TD e/\eY h TA t/\P TD TA=Z k/\bV h k A) (λe t h A=>∃TD TA k,eY h TD e/\eY h TA t/\S TD TA=Z k/\bV h k A) (mD TT) (mD TI) (mD TX) y h A:=by
 obtain⟨w,N,r,S4,st,ah,b,p⟩:=d;obtain⟨⟨Th,z⟩,l,b⟩:=bB.mp b;obtain⟨⟨TM,M⟩,C,b⟩:=bB.mp b;obtain⟨TD,O,b⟩:=bB.mp b;obtain⟨TA,Q,b⟩:=bB.mp b;obtain⟨k,R,b⟩:=bB.mp b;obtain⟨o,T,j⟩:=bB.mp b;have hd:=qh T;subst hd;refine⟨w,N,Th,z,st,ah,l,λe SU S6 be bs G x=>⟨z,S6,TM,M,bs,(cF.mp x.ah).1,C,λt S5 Tg bO n H q=>?_⟩⟩;have cl:hw S5 y Th e be:=G.mono q.tup λg f m a=>q.keep g m a λd=>(cF.mp x.ah).2.2 g d g f rfl;refine⟨TD,TA,_,cl.read n O,H.read n Q,R,λs I co i F un up=>?_⟩;obtain⟨rfl,rfl⟩:=(show s=.ax o/\co=[] from F);refine⟨o,rfl,?_⟩;have J:=x.trans q G.chg;rw[a_]at J;have u:=J.new i io (λg f=>nomatch f) n.chg;have L:bo I M y Tg:=n.mono i.tupS λg Y m a=>i g m a;cases o with
 |false=>
  rw[aG c9]at j ⊢;cases j;exact p _ I Tg [] L ⟨rfl,rfl⟩ u
 |true=>
  rw[aB rfl]at j ⊢;obtain⟨⟨eq,U⟩,ex,Tj⟩:=bB.mp j;obtain⟨fd,Tc,Tr⟩:=bB.mp Tj;obtain⟨fn,TE,f1⟩:=bB.mp Tr;obtain⟨Gt,go,g1⟩:=bB.mp f1;obtain⟨c,im,mb⟩:=ch.mp g1;cases mb;have ne:=qh im;subst ne;rw[bU]at u;refine⟨M,Tg,eq,U,L,u.ah,ex,λD of on If v pm B=>?_⟩;have pt:=cF.mp q.ah;have sp:hw of y TM t bO:=(H.mono i.tupS λg Y m a=>i g m a).mono B.tup λg f m a=>B.keep g m a λd=>pt.2.2 g d g f rfl;refine⟨fd,fn,_,sp.read v Tc,pm.read v TE,go,λs s1 s2 E ty Is Lt=>?_⟩;obtain⟨rfl,rfl⟩:=(show s=.ax c/\s2=[] from ty);exact p _ s1 on [] (v.mono E.tupS λg Y m a=>E g m a) ⟨rfl,rfl⟩ ((u.seq B).new E io (λg f=>nomatch f) v.chg)
variable{c:a8}
theorem AV(a:eA f (dG Tx) P)(b:eA f (dG Uh) S)(e:dd f g TT)(h:dd f c TI)(i:dd f q TX)(j:uQ [Tx,Uh] [c,q]=al:=by with_unfolding_all rfl):b4 f (.Compare g [Tx,Uh] [c,q] S1) (gc P S TT TI TX):=
 dY (M4 a b e h i j) λ_ Y Y d=>BS d
theorem AR(a:eA f (dG Tx) P)(b:eA f (dG Uh) S)(d:dd f g TT)(e:dd f c TI)(i:dd f q TX)(k:uQ [Tx,Uh] [c,q]=al:=by with_unfolding_all rfl):g0 f (.Compare g [Tx,Uh] [c,q] S1) (bg<|gc P S TT TI TX):=by
 refine sT (NO a b d e i k) λy h A m=>?_;obtain⟨w,N,o,S4,st,ah,r,p⟩:=m;refine BS ⟨w,N,.im<|.ax o,S4,st,ah,?_,λs R Ti SQ t F j=>⟨o,F.1,p R Ti t (by rw[F.2,bU]at j;exact j)⟩⟩;obtain⟨n,l,C⟩:=bB.mp r;obtain⟨x,u,v⟩:=ch.mp C;cases v;rw[l,<-qh u]
end
mutual
noncomputable def bx:ab->ab->Bool
 |.int b,.int u=>decide (b<u)
 |.tup g,.tup c=>gP g c
 |_,_=>al
noncomputable def gP:List ab->List ab->Bool
 |[],[]=>al
 |[],_::_=>aa
 |_::_,[]=>al
 |g::r,c::B=>if ab.beq g c=aa then gP r B else bx g c
end
mutual
noncomputable def fG:Nat->ab->ab->Bool
 |_,.int _,.int _=>aa
 |v+1,.tup g,.tup c=>f3 v g c
 |_,_,_=>al
noncomputable def f3:Nat->List ab->List ab->Bool
 |_,[],[]=>aa
 |v,g::r,c::B=>fG v g c&&f3 v r B
 |_,_,_=>al
end
theorem xj:∀{v:Nat}{g c:List ab},f3 v g c=aa->g.length=c.length
 |_,[],[],_=>rfl
 |v,g::r,c::B,d=>by
  rw[f3,cd]at d;rw[c7,c7,xj d.2]
 |_,[],_::_,d=>by cases d
 |_,_::_,[],d=>by cases d
mutual
theorem uI:∀{v:Nat}{g c:ab},fG v g c=aa->ab.bk v g=aa/\ab.bk v c=aa/\ck g c=ab.beq g c
 |v,.int b,.int u,_=>by
  refine⟨by cases v<;>rfl,by cases v<;>rfl,?_⟩;rw[ck,ab.beq];by_cases d:b=u<;>simp[d]
 |v+1,.tup g,.tup c,d=>by
  rw[fG]at d;obtain⟨l,C,a⟩:=DV d;exact⟨l,C,by rw[ck,ab.beq];exact a⟩
theorem DV:∀{v:Nat}{g c:List ab},f3 v g c=aa->ab.cQ v g=aa/\ab.cQ v c=aa/\e2 g c=ab.k4 g c
 |v,[],[],_=>⟨by cases v<;>rfl,by cases v<;>rfl,rfl⟩
 |v,g::r,c::B,d=>by
  rw[f3,cd]at d;obtain⟨l,C,a⟩:=uI d.1;obtain⟨b,Tc,TE⟩:=DV d.2;exact⟨by rw[ab.cQ,l,b];rfl,by rw[ab.cQ,C,Tc];rfl,by rw[e2,ab.k4,a,TE]⟩
end
theorem m5{g c:ab}(d:¬ g=c):ab.beq g c=al:=by
 cases a:ab.beq g c with
 |false=>rfl
 |true=>exact absurd ((ab.beq_iff g c).mp a) d
mutual
theorem t_:∀g:ab,bx g g=al
 |.int b=>by simp[bx]
 |.tup g=>by rw[bx];exact Df g
 |.aR=>rfl
 |.ax _=>rfl
 |.str _=>rfl
 |.fn _=>rfl
 |.aN _=>rfl
 |.fd=>rfl
theorem Df:∀g:List ab,gP g g=al
 |[]=>rfl
 |g::r=>by rw[gP,aB<|(ab.beq_iff g g).mpr rfl];exact Df r
end
mutual
theorem pK:∀{v:Nat}{g c:ab},fG v g c=aa->g≠c->bx g c=!(bx c g)
 |v,.int b,.int u,_,d=>by
  have:b≠u:=λa=>d (by rw[a]);rw[bx,bx];rcases Int.lt_or_gt_of_ne this with J|J
  ·simp[J];lia
  ·simp[J];lia
 |v+1,.tup g,.tup c,d,a=>by
  rw[fG]at d;rw[bx,bx];exact Cb d λe=>a (by rw[e])
theorem Cb:∀{v:Nat}{g c:List ab},f3 v g c=aa->g≠c->gP g c=!(gP c g)
 |v,[],[],_,d=>absurd rfl d
 |v,g::r,c::B,d,a=>by
  rw[f3,cd]at d;rw[gP,gP];by_cases b:g=c
  ·subst b;rw[aB ((ab.beq_iff g g).mpr rfl),aB<|(ab.beq_iff g g).mpr rfl];exact Cb d.2 λD=>a (by rw[D])
  ·rw[m5 b,m5<|λD=>b D.symm,aG c9,aG c9];exact pK d.1 b
end
mutual
theorem u1:∀{v:Nat}{g c q:ab},fG v g c=aa->fG v c q=aa->bx g c=aa->bx c q=aa->bx g q=aa
 |v,.int b,.int u,.int o,_,_,l,C=>by
  rw[bx]at l C ⊢;have:=dT l;have:=dT C;exact cU (by lia)
 |v+1,.tup g,.tup c,.tup q,a,d,l,C=>by
  rw[fG]at a d;rw[bx]at l C ⊢;exact Gn a d l C
theorem Gn:∀{v:Nat}{g c q:List ab},f3 v g c=aa->f3 v c q=aa->gP g c=aa->gP c q=aa->gP g q=aa
 |v,[],[],[],_,_,d,_=>d
 |v,g::r,c::B,q::I,e,b,l,C=>by
  rw[f3,cd]at e b;rw[gP]at l C ⊢;by_cases f:g=c
  ·subst f;rw[aB ((ab.beq_iff g g).mpr rfl)]at l;by_cases a:g=q
   ·subst a;rw[aB ((ab.beq_iff g g).mpr rfl)]at C ⊢;exact Gn e.2 b.2 l C
   ·rw[m5 a,aG c9]at C ⊢;exact C
  ·rw[m5 f,aG c9]at l;by_cases a:c=q
   ·subst a;rw[m5 f,aG c9];exact l
   ·rw[m5 a,aG c9]at C;have h:=u1 e.1 b.1 l C;have i:¬ g=q:=λD=>by
     subst D;have:=pK b.1 a;rw[l,C]at this;cases this
    rw[m5 i,aG c9];exact h
end
def xU(O:bp)(j:ak)(t e:ae)(o:Bool):Prop:=∀(SR:bw) (D:a9) (SM:ae->ak->Prop) (A:ae->ak->Prop),A (.bool o) j->wpAny (aM SR D) O (richCompare .Lt t e) A SM j
noncomputable def mx(P:Bool):List (Bool×Bool)->Bool
 |[]=>P
 | (a,o)::r=>if a=aa then mx P r else o
section
open PySem.SeqAt
open PySem.AutoSeq1 (wpAny_loadPart')
open PySem.MeetsSeq PySem.MeetsSeq2 PySem.MeetsSeq3
theorem L1(H c:ai)(S_ f:Array ae)(v TZ:Nat)(y z:Option ai)(aW A:Array (Option ae))(SO:List (Bool×Bool))(P:SO.length=min S_.size f.size):
  Meets (ba.«tuple.__lt__» ⟨[.ref H,.ref c],[]⟩)
   (λO SQ j=>j.heap.get? H=Z {cls:=.type "tuple",dict:=y,data:=.seq S_ v,slots:=aW}/\j.heap.get? c=Z {cls:=.type "tuple",dict:=z,data:=.seq f TZ,slots:=A}/\
    (∀u (l:u<S_.size) (C:u<f.size) (n:u<SO.length),EqAt O.in1 j S_[u] f[u] (SO[u]).1/\((SO[u]).1=al->xU O.in1 j S_[u] f[u] (SO[u]).2))/\
    SQ (.ok<|.ret<|.bool<|mx (decide (S_.size<f.size)) SO) j):=
 .of_wp λSR D O SQ j d=>by
  obtain⟨i,J,k,Tu,S3⟩:=j;obtain⟨B,E,F,d⟩:=d;have Ts:=AutoSeq1.sub_tuple_tuple;have q:(S_.toList.zip f.toList).length=min S_.size f.size:=by simp
  wp_walk using wpAny_loadPart' B,wpAny_loadPart' E,ou _ (λcf c SN=>c.1=X/\SN=⟨i,J,k,Tu,S3⟩/\∃b,cf=(S_.toList.zip f.toList).drop b/\
   SQ (.ok<|.ret<|.bool<|mx (decide (S_.size<f.size))<|SO.drop b) ⟨i,J,k,Tu,S3⟩) _
  case turn=>
   rintro⟨t,e⟩ cf c SN ⟨p,rfl,b,g,h⟩;have r:b<(S_.toList.zip f.toList).length:=by
    rcases hJ b (S_.toList.zip f.toList).length with U|U
    ·exact U
    ·rw[o6 U]at g;cases g
   have Q:b<min S_.size f.size:=q ▸ r;have l:b<S_.size:=by lia
   have C:b<f.size:=by lia
   have n:b<SO.length:=by lia
   rw[kL r]at g;injection g with s G;have I:t=S_[b]:=by have:=congrArg Prod.fst s;simpa using this
   have L:e=f[b]:=by have:=congrArg Prod.snd s;simpa using this
   subst I L;rw[kL n]at h;obtain⟨w,x⟩:=F b l C n;generalize SO[b]=M at h w x;obtain⟨a,o⟩:=M;refine ao (w SR D _ _ ?_);cases a with
   |true=>
    have m:SQ (.ok<|.ret<|.bool<|mx (decide (S_.size<f.size))<|SO.drop<|b+1) ⟨i,J,k,Tu,S3⟩:=h
    wp_walk
    exact⟨rfl,rfl,b+1,G,m⟩
   |false=>
    have m:SQ (.ok<|.ret<|.bool o) ⟨i,J,k,Tu,S3⟩:=h;have N:=x rfl SR D
    wp_walk using N
    exact⟨_,rfl,by simpa using m⟩
  case fin=>
   rintro⟨cz,b3⟩ SN ⟨p,rfl,b,g,h⟩;simp only at p;subst p;have R:min S_.size f.size<=b:=by
    rcases hJ b (S_.toList.zip f.toList).length with U|U
    ·rw[kL U]at g;cases g
    ·exact q ▸ U
   rw[o6 (by lia)]at h;have m:SQ (.ok<|.ret<|.bool<|decide (S_.size<f.size)) ⟨i,J,k,Tu,S3⟩:=h
   wp_walk
   exact⟨_,rfl,by simpa [ba.Tuple.tupleCompareSizes] using m⟩
  case h=>
   exact⟨rfl,rfl,0,rfl,by simpa using d⟩
end
def j9(E Q:List ab):List (Bool×Bool):=(E.zip Q).map λn=>(ck n.1 n.2,bx n.1 n.2)
theorem z1:∀{v:Nat}{E Q:List ab},f3 v E Q=aa->mx al (j9 E Q)=gP E Q
 |_,[],[],_=>rfl
 |v,g::r,c::B,d=>by
  rw[f3,cd]at d;show (if ck g c=aa then mx al (j9 r B) else bx g c)=gP (g::r) (c::B);rw[gP,(uI d.1).2.2,z1 d.2]
 |_,[],_::_,d=>by cases d
 |_,_::_,[],d=>by cases d
theorem F2{v:Nat}:∀{E Q:List ab}{u:Nat}{g c:ab},f3 v E Q=aa->E[u]?=Z g->Q[u]?=Z c->fG v g c=aa
 |[],Q,u,g,c,_,d,_=>by simp at d
 |k::E,[],u,g,c,d,_,_=>by cases d
 |k::E,a::Q,0,g,c,d,l,C=>by
  rw[f3,cd]at d;cases l;cases C;exact d.1
 |k::E,a::Q,u+1,g,c,d,l,C=>by
  rw[f3,cd]at d;exact F2 (u:=u) d.2 (by simpa using l) (by simpa using C)
theorem Eu{O:bp}{b u:Int}(a:dR j.heap (.int b) I)(c:dR j.heap (.int u) s):xU O j I s (bx (.int b)<|.int u):=by
 obtain⟨B,rfl⟩:=a;obtain⟨Tk,rfl⟩:=c;intro SR D SM A p;rw[bx]at p;exact cY.J8 O j b B u Tk SR D SM A p
theorem xJ:∀{v:Nat}{e t:ab},fG v e t=aa->(∃b u,e=.int b/\t=.int u)\/∃i g c,v=i+1/\e=.tup g/\t=.tup c/\f3 i g c=aa:=by
 intro v e t d;unfold fG at d;split at d
 ·exact .inl ⟨_,_,rfl,rfl⟩
 ·exact .inr ⟨_,_,_,rfl,rfl,rfl,d⟩
 ·cases d
theorem F8(v:Nat):∀{O:bp}{e t:ab}{I s:ae},fG v e t=aa->O.units+v+2<bP->dR j.heap e I->dR j.heap t s->xU O j I s (bx e t):=by
 induction v with
 |zero=>
  intro O e t I s d G f h;rcases xJ d with ⟨b,u,rfl,rfl⟩|⟨i,_,_,a,_⟩
  ·exact Eu f h
  ·cases a
 |succ v H=>
  intro O e t I s d G f h;rcases xJ d with ⟨b,u,rfl,rfl⟩|⟨i,E,Q,a,rfl,rfl,d⟩
  ·exact Eu f h
  cases a;obtain⟨g,m,SZ,i,rfl,l,C,k,n⟩:=f;obtain⟨c,Tq,w,J,rfl,o,Tc,TE,q⟩:=h;obtain⟨cls,L,data,aW⟩:=m;obtain⟨cl,M,co,P⟩:=Tq;simp only at C k Tc TE;subst C k Tc TE;have eq:=xj d;have R:E.length=SZ.size:=by rw[n.length,db]
  have S:Q.length=w.size:=by rw[q.length,db]
  intro SR D SM A p;rw[bx,<-z1 d]at p;have T:(j9 E Q).length=min SZ.size w.size:=by rw[j9,a5,vN,R,S]
  have hd:decide (SZ.size<w.size)=al:=dA (by lia);refine richCompare_meets_room (op:=.Lt) ⟨_,l,rfl⟩ ⟨_,o,rfl⟩ PySem.F.slot_tuple_lt PySem.F.entry_tuple_lt (PySem.F.args_tuple_lt_2 _ _) (L1 g c SZ w i J L M aW P (j9 E Q) T)
   ⟨l,o,λu bE U be=>?_,show ae.bool (mx (decide (SZ.size<w.size))<|j9 E Q)≠ae.notImplemented/\A (.bool<|mx (decide (SZ.size<w.size))<|j9 E Q) j from ⟨(λe=>nomatch e),by rw[hd];exact p⟩⟩ (by lia);obtain⟨TD,r,x⟩:=n.get (u:=u) (s:=SZ[u]) (by rw[ev];simp[bE]);obtain⟨TA,y,z⟩:=q.get (u:=u) (s:=w[u]) (by rw[ev];simp[U]);have lk:=F2 d r y;have B:=uI lk;have bs:(j9 E Q)[u]=(ck TD TA,bx TD TA):=by
   have:(j9 E Q)[u]?=Z (ck TD TA,bx TD TA):=by
    rw[j9,d3,(y6 (z:=(TD,TA))).mpr ⟨r,y⟩];rfl
   rw[dh be]at this;exact Option.some.inj this
  rw[bs];exact⟨i3 v B.1 B.2.1 (by show O.units+1+v+1<bP;lia) x z,λ_=>H lk (by show O.units+1+v+2<bP;lia) x z⟩
end L2
namespace L2
open PySem PySem.Spec PyProof.Rows PySem.W
variable{SZ:List ae}{H E:List ab}
theorem E7{Ta:Type}{n p:Ta->Bool}:∀{H:List Ta},(∀e∈H,n e=aa->p e=aa)->(∃e∈H,p e=aa/\n e=al)->H.countP n<H.countP p
 |[],_,d=>by obtain⟨e,a,Y⟩:=d;cases a
 |g::H,d,⟨e,a,l,C⟩=>by
  rw[uP,uP];have le:H.countP n<=H.countP p:=List.countP_mono_left λt b=>d t (.tail _ b);rcases bI.mp a with rfl|a
  ·rw[l,C];simp;lia
  ·have:=E7 (λt b=>d t<|.tail _ b) ⟨e,a,l,C⟩;have c:=d g (.head _);cases f:n g<;>cases h:p g<;>rw[f,h]at c<;>simp at c ⊢<;>lia
structure nz(E:List ab):Prop where
 jR:E.length<=1000
 jb:∀g∈E,∀c∈E,fG 6 g c=aa
structure ta(E:List ab):Prop where
 jR:E.length<=1000
 jb:∀g∈E,∀c∈E,fG 6 g c=aa
 ah:E.Nodup
theorem ta.w(m:ta E):nz E:=⟨m.jR,m.jb⟩
def pj(E:List ab)(e:ab):Nat:=E.countP λk=>bx k e
theorem AE(m:nz E){e t:ab}(b:e∈E)(c:t∈E)(d:bx e t=aa):pj E e<pj E t:=
 E7 (λf g a=>u1 (m.jb f g e b) (m.jb e b t c) a d) ⟨e,b,d,t_ e⟩
theorem GC(m:nz E){e t:ab}(b:e∈E)(c:t∈E):decide ((pj E e:Int)<(pj E t:Int))=bx e t:=by
 cases a:bx e t with
 |true=>exact cU (by have:=AE m b c a;lia)
 |false=>
  refine dA λf=>?_;by_cases d:e=t
  ·subst d;lia
  ·have B:=pK (m.jb e b t c) d;rw[a]at B;have Tk:bx t e=aa:=by cases p:bx t e<;>rw[p]at B<;>simp at B ⊢
   have:=AE m c b Tk;lia
def nn(E:List ab)(b:Nat):Int:=pj E (E.getD b .aR)
theorem r5{b:Nat}(d:b<E.length):E.getD b .aR∈E:=by
 rw[cp,dh d];exact qe d
theorem x3(m:nz E){n:Array Nat}(d:cM E.length n)(i:hF (nn E) n E.length):(n.toList.map λb=>E.getD b .aR).Pairwise (λg c=>bx c g=al):=by
 rw[mJ];intro b u SJ e l;have SX:=d.size;have j:b<E.length:=by simpa [SX] using SJ
 have f:u<E.length:=by simpa [SX] using e
 have le:=i b u (by lia) f;have J:∀o (h:o<(n.toList.map λb=>E.getD b .aR).length),(n.toList.map λb=>E.getD b .aR)[o]=E.getD (n.getD o 0) .aR:=λo h=>by
  have k:o<n.size:=by simpa using h
  rw[EN,DC];simp[Array.getD,k]
 rw[J b SJ,J u e];rw[<-GC m (r5<|d.lt f) (r5<|d.lt j)];refine dA ?_;have a:∀o,(pj E (E.getD (n.getD o 0) .aR):Int)=bc (nn E) n o:=λ_=>rfl;rw[a b,a u];lia
theorem zQ:∀{H i:List ab},H.Perm i->H.Pairwise (λg c=>bx g c=aa)->i.Pairwise (λg c=>bx g c=aa)->(∀g∈H,∀c∈H,bx g c=aa->bx c g=al)->H=i
 |[],i,n,_,_,_=>(List.nil_perm.mp n).symm
 |g::H,i,n,l,C,b=>by
  cases i with
  |nil=>exact absurd n.length_eq (by simp)
  |cons c i=>
   have a:g=c:=by
    by_cases a:g=c
    ·exact a
    ·have h:g∈i:=by
      rcases bI.mp (n.mem_iff.mp<|.head _) with z|z
      ·exact absurd z a
      ·exact z
     have d:c∈H:=by
      rcases bI.mp (n.mem_iff.mpr<|.head _) with z|z
      ·exact absurd z.symm a
      ·exact z
     have j:=(gk.mp l).1 c d;have f:=(gk.mp C).1 g h;rw[b g (.head _) c (.tail _ d) j]at f;cases f
   subst a;rw[zQ (Lm n) (gk.mp l).2 (gk.mp C).2 λe k t m=>b e (.tail _ k) t<|.tail _ m]
theorem tU(e:ab):∀H:List ab,(jZ bx e H).Perm (e::H)
 |[]=>List.Perm.refl _
 |t::r=>by
  rw[jZ];split
  ·exact List.Perm.refl _
  ·exact (List.Perm.cons t<|tU e r).trans (List.Perm.swap e t r)
theorem hC:∀H:List ab,(fl bx H).Perm H
 |[]=>List.Perm.refl _
 |e::r=>(tU e _).trans (List.Perm.cons e<|hC r)
theorem Ev{e:ab}:∀{H:List ab},H.Pairwise (λg c=>bx g c=aa)->(∀t∈H,e≠t)->(∀g∈e::H,∀c∈e::H,fG 6 g c=aa)->(jZ bx e H).Pairwise (λg c=>bx g c=aa)
 |[],_,_,_=>er _ _
 |t::r,d,v,lk=>by
  have U:=gk.mp d;rw[jZ];split
  ·rename_i a;refine gk.mpr ⟨λf b=>?_,d⟩;rcases bI.mp b with rfl|b
   ·exact a
   ·exact u1 (lk e (.head _) t<|.tail _<|.head _) (lk t (.tail _<|.head _) f<|.tail _<|.tail _ b) a (U.1 f b)
  ·rename_i a;refine gk.mpr ⟨λf b=>?_,Ev U.2 (λf b=>v f<|.tail _ b) λg h c i=>lk g ?_ c ?_⟩
   ·rcases bI.mp ((tU e r).mem_iff.mp b) with rfl|b
    ·have B:=pK (lk f (.head _) t<|.tail _<|.head _) (v t<|.head _);cases p:bx t f with
     |true=>rfl
     |false=>rw[p]at B;exact absurd B a
    ·exact U.1 f b
   ·rcases bI.mp h with rfl|h
    ·exact .head _
    ·exact .tail _ (.tail _ h)
   ·rcases bI.mp i with rfl|i
    ·exact .head _
    ·exact .tail _ (.tail _ i)
theorem m0:∀{H:List ab},H.Nodup->(∀g∈H,∀c∈H,fG 6 g c=aa)->(fl bx H).Pairwise (λg c=>bx g c=aa)
 |[],_,_=>.nil
 |e::r,ah,lk=>by
  have f:=hL.mp ah;refine Ev (m0 f.2 λg b c d=>lk g (.tail _ b) c<|.tail _ d) (λt h a=>f.1 (by rw[a];exact (hC r).mem_iff.mp h)) λg b c d=>lk g ?_ c ?_
  ·rcases bI.mp b with rfl|b
   ·exact .head _
   ·exact .tail _ ((hC r).mem_iff.mp b)
  ·rcases bI.mp d with rfl|d
   ·exact .head _
   ·exact .tail _ ((hC r).mem_iff.mp d)
theorem Cd(m:ta E)(n:H.Perm E)(d:H.Pairwise (λg c=>bx g c=aa)):H=fl bx E:=by
 refine zQ (n.trans (hC E).symm) d (m0 m.ah m.jb) λg b c e a=>?_;have B:=pK (m.jb g (n.mem_iff.mp b) c<|n.mem_iff.mp e) (λf=>by subst f;rw[t_]at a;cases a);rw[a]at B;cases p:bx c g with
 |false=>rfl
 |true=>rw[p]at B;cases B
theorem Ea{e:ab}:∀{H:List ab},H.Pairwise (λg c=>bx c g=al)->(∀g∈e::H,∀c∈e::H,fG 6 g c=aa)->(jZ bx e H).Pairwise (λg c=>bx c g=al)
 |[],_,_=>er _ _
 |t::r,d,lk=>by
  have U:=gk.mp d;unfold jZ;split
  ·rename_i a;refine gk.mpr ⟨λf b=>?_,d⟩;cases p:bx f e with
   |false=>rfl
   |true=>
    have B:=u1 (lk f (.tail _ b) e<|.head _) (lk e (.head _) t<|.tail _<|.head _) p a;rcases bI.mp b with rfl|b
    ·rw[t_]at B;cases B
    ·rw[U.1 f b]at B;cases B
  ·rename_i a;refine gk.mpr ⟨λf b=>?_,Ea U.2 λg h c i=>lk g ?_ c ?_⟩
   ·rcases bI.mp ((tU e r).mem_iff.mp b) with rfl|b
    ·cases p:bx f t with
     |false=>rfl
     |true=>exact absurd p a
    ·exact U.1 f b
   ·rcases bI.mp h with rfl|h
    ·exact .head _
    ·exact .tail _ (.tail _ h)
   ·rcases bI.mp i with rfl|i
    ·exact .head _
    ·exact .tail _ (.tail _ i)
theorem EG:∀{H:List ab},(∀g∈H,∀c∈H,fG 6 g c=aa)->(fl bx H).Pairwise (λg c=>bx c g=al)
 |[],_=>.nil
 |e::r,lk=>by
  refine Ea (EG λg a c b=>lk g (.tail _ a) c<|.tail _ b) λg a c b=>lk g ?_ c ?_
  ·rcases bI.mp a with rfl|a
   ·exact .head _
   ·exact .tail _ ((hC r).mem_iff.mp a)
  ·rcases bI.mp b with rfl|b
   ·exact .head _
   ·exact .tail _ ((hC r).mem_iff.mp b)
theorem xl(m:nz E)(n:H.Perm E)(d:H.Pairwise (λg c=>bx c g=al)):H=fl bx E:=by
 refine Bt (λg c b f e t=>?_) d (EG m.jb) (n.trans (hC E).symm);by_cases a:g=c
 ·exact a
 ·have B:=pK (m.jb g (n.mem_iff.mp b) c<|(hC E).mem_iff.mp f) a;rw[e,t]at B;cases B
noncomputable def g3:ab->Bool
 |.tup (.int _::_)=>aa
 |_=>al
noncomputable def kS:ab->Bool
 |.tup (.tup _::_)=>aa
 |_=>al
section
variable{SR:bw}{D:a9}{O:bp}{SM:ae->ak->Prop}{j:ak}
theorem A0{c:Bool}(v:Nat)(i:O.units+v+2<bP){A:Bool->ak->Prop}:∀{E Q:List ab}{T e:List ae}{b:Nat},f3 v E Q=aa->dw j.heap E T->dw j.heap Q e->(c=aa->b=0->∃o r,E=.int o::r)->A (gP E Q) j->KatLex SR D O c al A (T.zip e) b j
 |[],[],T,e,b,_,l,C,_,p=>by
  rw[show T=[] from l];exact kat_nil p
 |k::E,a::Q,T,e,b,d,l,C,q,p=>by
  rw[f3,cd]at d;obtain⟨s,T,rfl,g,TP⟩:=l;obtain⟨I,e,rfl,cz,b3⟩:=C;rw[y8];obtain⟨t,Tv,w⟩:=uI d.1;refine kat_cons (i3 v t Tv (by lia) g cz SR D _ _ ?_);rw[w];rw[gP]at p;cases m:ab.beq k a with
  |true=>
   rw[m,aB rfl]at p;exact kat_yes (A0 v i d.2 TP b3 (λ_ n=>by lia) p)
  |false=>
   rw[m,aG c9]at p;refine kat_no ?_;by_cases f:(c&&b==0)=aa
   ·rw[f];rw[cd]at f;obtain⟨o,r,n⟩:=q f.1 (by simpa using f.2);cases n;rcases xJ d.1 with ⟨y,u,h,x⟩|⟨_,_,_,_,h,_⟩
    ·cases h;cases x;obtain⟨B,rfl⟩:=g;obtain⟨Tk,rfl⟩:=cz;rw[bx]at p;exact oneLt_int p
    ·cases h
   ·rw[show (c&&b==0)=al by simpa using f];exact kat_one _ _ (F8 v d.1 i g cz SR D _ _ p)
 |[],_::_,_,_,_,d,_,_,_,_=>by cases d
 |_::_,[],_,_,_,d,_,_,_,_=>by cases d
theorem zF{c:Bool}(m:nz E)(h:dw j.heap E SZ)(bt:∀k∈E,∃r,k=.tup r)(w:c=aa->∀k∈E,g3 k=aa)(L:O.units+9<bP):
  fK SZ.length (nn E) (eW SR D O (n9 c)<|SZ.toArray.zip SZ.toArray) j:=by
 intro b u az SJ y p;have M:=h.length;have a:=r5 (E:=E) (b:=b) (by lia);have f:=r5 (E:=E) (b:=u) (by lia);unfold nn at p;rw[GC m a f]at p;obtain⟨TD,l,z⟩:=h.get (u:=b) (s:=SZ[b]) (by simp);obtain⟨TA,n,A⟩:=h.get (u:=u) (s:=SZ[u]) (by simp);rw[cp,l,cp,n]at p;rw[cp,l]at a;rw[cp,n]at f;obtain⟨g,B⟩:=bt TD a;obtain⟨i,C⟩:=bt TA f;subst B C;have lk:f3 5 g i=aa:=m.jb _ a _ f;unfold eW;rw[va rfl,va rfl,cp,cp,dh SJ,dh y];show wpAny _ _ (keyLt' (n9 c) SZ[b] SZ[u]) _ _ _;obtain⟨e,N,x,P,F,G,Tc,TE,o⟩:=z;obtain⟨t,Q,S2,TZ,H,Tj,Tr,I,q⟩:=A;rw[F,H];refine kat_lt (b:=c) G TE Tj I ?_;have R:g.length=x.size:=by rw[o.length,db]
 have S:i.length=S2.size:=by rw[q.length,db]
 rw[show decide (x.size<S2.size)=al from dA (by have:=xj lk;lia)];refine A0 5 (by lia) lk o q (λJ Y=>?_) (by have v:az (bx (.tup g)<|.tup i) j:=p;rw[bx]at v;exact v);have:=w J _ a;unfold g3 at this;split at this
 ·rename_i d;cases d;exact⟨_,_,rfl⟩
 ·cases this
theorem AF:∀{E:List ab}{SZ:List ae},dw j.heap E SZ->(∀k∈E,g3 k=aa)\/(∀k∈E,kS k=aa)->∃aA,KatTups j.heap SZ aA/\aA.length=SZ.length/\
  ((∀k∈E,g3 k=aa)->∀s∈aA,∃b B,s=ae.int b B)/\((∀k∈E,kS k=aa)->∀s∈aA,∃g h,s=ae.ref g/\j.heap.get? g=Z h/\h.cls=.type "tuple")
 |[],SZ,d,_=>by
  rw[show SZ=[] from d];exact⟨[],trivial,rfl,(λ_ Y d=>nomatch d),(λ_ Y d=>nomatch d)⟩
 |k::E,SZ,d,i=>by
  obtain⟨s,r,rfl,l,C⟩:=d;obtain⟨aA,q,t,u,w⟩:=AF C (i.imp (λz e c=>z e<|.tail _ c) λz e c=>z e<|.tail _ c);have x:∃P TG,k=.tup (P::TG):=by
   rcases i with z|z
   ·have:=z k (.head _);unfold g3 at this;split at this
    ·exact⟨_,_,rfl⟩
    ·cases this
   ·have:=z k (.head _);unfold kS at this;split at this
    ·exact⟨_,_,rfl⟩
    ·cases this
  obtain⟨P,TG,rfl⟩:=x;obtain⟨g,m,S_,v,rfl,y,Tc,TE,A⟩:=l;obtain⟨n,H,a,o,J⟩:=A;have D:S_[0]?=Z n:=by
   rw[<-ev,a];rfl
  refine⟨n::aA,KatTups.cons y Tc TE D q,by simp[t],λz I f=>?_,λz I f=>?_⟩
  ·rcases bI.mp f with rfl|f
   ·have:=z _ (.head _);unfold g3 at this;split at this
    ·rename_i p;cases p;exact⟨_,o⟩
    ·cases this
   ·exact u (λe c=>z e<|.tail _ c) I f
  ·rcases bI.mp f with rfl|f
   ·have:=z _ (.head _);unfold kS at this;split at this
    ·rename_i p;cases p;obtain⟨F,Tq,Y,Y,G,Tj,Tr,Y⟩:=o;exact⟨F,Tq,G,Tj,Tr⟩
    ·cases this
   ·exact w (λe c=>z e<|.tail _ c) I f
end
section
variable{f:aH}
theorem bu.pick{h:au}{S2:List as}(d:bu h E S2):∀{n:List Nat},(∀o∈n,o<E.length)->bu h (n.map λb=>E.getD b .aR) (n.map λb=>S2.getD b .aR)
 |[],_=>rfl
 |o::n,a=>by
  obtain⟨s,c,e⟩:=d.get (b:=o) (k:=E.getD o .aR) (by
   have:=a o (.head _);rw[cp,dh this];rfl)
  refine⟨s,_,?_,e,d.pick λu f=>a u<|.tail _ f⟩;rw[ci,cp,c];rfl
structure iM(E:List ab):Prop where
 ord:ta E
 fst:(∀k∈E,g3 k=aa)\/(∀k∈E,kS k=aa)
structure oL(E:List ab):Prop where
 ord:nz E
 fst:(∀k∈E,g3 k=aa)\/(∀k∈E,kS k=aa)
theorem iM.w(m:iM E):oL E:=⟨m.ord.w,m.fst⟩
theorem oL.tup(m:oL E):∀k∈E,∃r,k=.tup r:=λk hd=>by
 rcases m.fst with z|z
 ·have:=z k hd;unfold g3 at this;split at this
  ·exact⟨_,rfl⟩
  ·cases this
 ·have:=z k hd;unfold kS at this;split at this
  ·exact⟨_,rfl⟩
  ·cases this
theorem dw.oi{d U:aT}(o:∀c m,d.get? c=Z m->U.get? c=Z m){E:List ab}{T:List ae}(e:dw d E T):dw U E T:=e.keep λg m Y Y a Y Y=>o g m a
theorem vr{d:aT}{j:ak}(m:oL E)(C:2<=SZ.length)(h:dw j.heap E SZ)(O:bp)(SM:ae->ak->Prop)(A:gB->ak->Prop)(a:A (n9<|decide (∀k∈E,g3 k=aa)) j):
  wpAny (aM f.prog f.w) O (wF SZ.toArray) A SM j:=by
 obtain⟨aA,i,r,l,n⟩:=AF h m.fst;have t:=h.length;by_cases c:∀k∈E,g3 k=aa
 ·rw[cU c]at a;refine kat_kind (T:=ae.type "int") i (by lia) (λs e=>?_) rfl ?_
  ·obtain⟨b,B,rfl⟩:=l c s e;exact FO rfl
  ·rw[show (ae.type "int" != ae.type "tuple")=aa by decide];exact a
 ·rw[dA c]at a;have o:=m.fst.resolve_left c;refine kat_kind (T:=ae.type "tuple") i (by lia) (λs e=>?_) rfl ?_
  ·obtain⟨g,p,rfl,q,Tc⟩:=n o s e;have:Looks (aM f.prog f.w) j.heap (n_<|.ref g) p.cls:=(Looks.ld q).andThen .now;rw[Tc]at this;exact this
  ·rw[show (ae.type "tuple" != ae.type "tuple")=al by decide];exact a
theorem uT(u:f.calm=aa)(R:f.A.units+20<bP):eu f (.builtin "sorted") (λx h A=>∃(g:ai) (E:List ab) (S2:List as),x=[.ref g]/\(c5 f.K h g S2\/b7 f.K h g S2)/\bu h E S2/\oL E/\
  ∀H TF,h H=X->bu h (fl bx E) TF->A (.ref H) (upd h H<|.lst TF)):=by
 intro G j y h x S7 A Y r d;obtain⟨g,E,S2,rfl,SX,SJ,m,p⟩:=d;obtain⟨I,rfl,z⟩:=he r;cases z;have B:S2.length<=1000:=by rw[<-SJ.length];exact m.ord.jR
 have go:∀{L:String}{SZ:List ae}{v:Nat}{c:a0},(L = "list" \/ L = "tuple")->bK S2 SZ->j.heap.get? g=Z c->c.cls=.type L->c.data=.seq SZ.toArray v->wpAny (aM f.prog f.w) f.A (call (.builtin "sorted") [.ref g]) (d4 f G y A) f.ce j:=by
  intro L SZ v c F e a aq i;have q:=SJ.fx Y.aV e;have J:SZ.length=E.length:=q.length.symm;refine Ca u (nn E) (n9<|decide (∀k∈E,g3 k=aa)) Y e F a aq i B (λC s Tu o O SM A M=>vr (d:=s) m C (q.oi o) O SM A M) (λs Tu o=>?_) (.inl (by have:=m.ord.jR;lia)) λn H l t aN=>?_
  ·refine zF (j:={j with heap:=s,toks:=Tu}) m.ord (q.oi o) m.tup (λN=>?_) (by show f.A.units+1+1+9<bP;lia);exact dT N
  ·rw[J]at l t;have P:(n.toList.map λb=>E.getD b .aR)=fl bx E:=xl m.ord (u5 l) (x3 m.ord l t);refine p H _ aN ?_;rw[<-P];exact SJ.pick λo Q=>f2.mp (l.mem_iff.mp Q)
 rcases SX with SX|SX
 ·obtain⟨SZ,e,n,W⟩:=Y.list SX;obtain⟨c,a,aq,v,i⟩:=n.isList;exact go (.inl rfl) e a aq i
 ·obtain⟨SZ,e,n,W⟩:=Y.tuple SX;obtain⟨c,a,aq,v,i⟩:=n;exact go (.inr rfl) e a aq i
end
section
variable{f:aH}
theorem Fk{h:au}:∀{M:List (List ab×as)}{Q:List (List ab×ai×ae)},dX (λ(n:List ab×as) (p:List ab×ai×ae)=>n.1=p.1/\hB h n.1 p.2.1/\bZ n.2 p.2.2) M Q->
  bu h (M.map λn=>.tup n.1) (Q.map λe=>as.ref e.2.1)/\bK (Q.map λe=>as.ref e.2.1) (Q.map λe=>ae.ref e.2.1)
 |_,_,.nil=>⟨rfl,.nil⟩
 |_,_,.cons r B=>by
  obtain⟨l,C⟩:=Fk B;exact⟨⟨_,_,rfl,r.2.1.2,l⟩,.cons rfl C⟩
theorem K4(f1:f.calm=aa)(Gt:f.A.units+20<bP):eu f (.builtin "sorted") (λx h A=>∃(k:ai) (M:List (List ab×as)),x=[.ref k]/\h k=Z (.aL M)/\iM (M.map λn=>.tup n.1)/\
  ∀H TF,h H=X->bu h (fl bx<|M.map λn=>.tup n.1) TF->A (.ref H) (upd h H<|.lst TF)):=by
 intro G j y h x S7 A Y r d;obtain⟨k,M,rfl,hd,g,p⟩:=d;obtain⟨I,rfl,go⟩:=he r;cases go;obtain⟨T,S,Q,g1,m,im,Td,mb,ne,of,on,ah⟩:=Y.aV k _ hd;obtain⟨SJ,u⟩:=Fk g1;have be:iB j.heap k (Q.map λe=>ae.ref e.2.1) Td:=⟨m,im,mb,ne,of,by rw[on,gJ];rfl⟩;generalize (Q.map λe=>ae.ref e.2.1)=SZ at u be;generalize (Q.map λe=>as.ref e.2.1)=S2 at SJ u;generalize If:(M.map λn=>ab.tup n.1)=E at SJ g p;have F:=SJ.fx Y.aV u;have bs:SZ.length=E.length:=F.length.symm;have jR:=g.ord.jR;have Is:S2.length=SZ.length:=u.length;have cl:SZ.length<=sizeLine:=ed (by lia) (show 1000<=sizeLine by decide);refine tN y4 ws xD (zc _) ?T
 case T=>
  unfold ba.«sorted»;refine ao (m:=v_ "sorted" 1 1 _) (aJ<|ao<|kdu_collect (A:=f.A.in1) (QV S) (Y.ok.hd f1) be cl λU Tu J L co=>?_);have pm:J.toList=SZ:=by
   apply vR
   ·rw[db];exact co.1
   ·intro b l C;have:=co.2 b J.toList[b] (by rw[<-ev];exact dh l);have this:SZ[b]?=Z J.toList[b]:=this;rw[dh C]at this;exact (Option.some.inj this).symm
  rw[pm];refine ao (rV ?_ cl);have eq:(U.push<|ff "list" SZ.toArray 0).get? U.objs.size=Z (ff "list" SZ.toArray 0):=da _ rfl;have bg:∀c m,j.heap.get? c=Z m->(U.push<|ff "list" SZ.toArray 0).get? c=Z m:=λc m a=>bS _ (L c m a);have ex:Inv f G y h {j with heap:=U,toks:=Tu}:=Y.kept L;have fd:∀c m,j.heap.get? c=Z m->c≠U.objs.size:=λc m a=>cT (bX<|L c m a);refine ao (gf<|gW za ⟨_,eq,rfl⟩ wM ?t<|wO _)
  case t=>
   refine xM (j:={j with heap:=U.push (ff "list" SZ.toArray 0),toks:=Tu}) (nn E) (n9<|decide (∀k∈E,g3 k=aa)) eq
    (λC N P A pt=>vr (f:=f) (d:=N) g.w C (F.oi λc m v=>P c m (fd c m v)<|bg c m v) _ _ A pt)
    (λN P=>zF (j:={j with heap:=N,toks:=Tu}) g.w.ord (F.oi λc m v=>P c m (fd c m v)<|bg c m v) g.w.tup (λsp=>dT sp) (by show f.A.units+1+1+9<bP;lia))
    (.inl (by lia)) (by lia) λn C q fn Tr ⟨s1,s2⟩=>⟨_,rfl,aJ ⟨_,rfl,?_⟩⟩;have ty:h U.objs.size=X:=ex.aV.fresh (bm _);have un:∀c m,U.get? c=Z m->c≠U.objs.size:=λc m a=>cT (bX a);rw[bs]at q fn;refine⟨.ref U.objs.size,upd h U.objs.size<|.lst<|n.toList.map λb=>S2.getD b .aR,?_,rfl,p _ _ ty ?_⟩
   ·refine ex.laid (Tk:=Tu) (λc I a=>Tr c I (un c I a)<|bS _ a) (bm _) ⟨?_,_,s1,?_,s2⟩
    ·rw[a5,db,q.size];lia
    ·refine sA (by simp) λb s I l C=>?_;rw[d3]at l C;cases R:n.toList[b]? with
     |none=>rw[R]at l;cases l
     |some o=>
      rw[R]at l C;cases l;cases C;have z:o<SZ.length:=by rw[bs];exact f2.mp (q.mem_iff.mp<|e5 R)
      obtain⟨I,B,up⟩:=u.get (b:=o) (e:=S2[o]'(by lia)) (by simp[show o<S2.length by lia]);rw[dh z]at B;have B:=Option.some.inj B;simp only[List.getD,dh z,dh (show o<S2.length by lia),n2];rw[B];exact up
   ·rw[<-xl g.w.ord (u5 q) (x3 g.w.ord q fn)];exact SJ.pick λo z=>f2.mp (q.mem_iff.mp z)
def o3(E:List ab):Bool:=decide (E.length<=1000)&&E.all (λg=>E.all λc=>fG 6 g c)&&decide E.Nodup&&(E.all g3 || E.all kS)
theorem kT:o3 E=aa↔iM E:=by
 unfold o3;rw[cd,cd,cd,u9,jJ,jJ,fk,fk,fk];constructor
 ·rintro⟨⟨⟨l,C⟩,a⟩,b⟩;exact⟨⟨l,λg d c e=>fk.mp (C g d) c e,a⟩,b⟩
 ·rintro⟨⟨l,C,a⟩,b⟩;exact⟨⟨⟨l,λg d=>fk.mpr λc e=>C g d c e⟩,a⟩,b⟩
def g8(E:List ab):Option aj:=if o3 E=aa then Z (.lst<|fl bx E) else X
def fu:hN:=λE=>match E with
 |[.lst e]=>match q0 e with
  |some S=>vu [.lst e]
  |none=>g8 e
 |[.im (.tup e)]=>g8 e
 |[.aL M]=>g8 (M.map λn=>.tup n.1)
 |_=>X
theorem v2{k:aj}(d:g8 E=Z k):iM E/\k=.lst (fl bx E):=by
 unfold g8 at d;split at d
 ·rename_i a;cases d;exact⟨kT.mp a,rfl⟩
 ·cases d
theorem AU{h:au}:∀{M:List (List ab×ab)}{T2:List (List ab×as)},eC h M T2->(M.map λn=>ab.tup n.1)=T2.map λn=>ab.tup n.1
 |_,_,.nil=>rfl
 |_,_,.cons r B=>by rw[ci,ci,AU B,r.1]
theorem mI(g:f.calm=aa)(m:f.A.units+20<bP):gQ f (.builtin "sorted") fu:=by
 intro G j y h x S7 A Y r ⟨E,k,o,a,p⟩;unfold fu at a;split at a
 ·rename_i e;split at a
  ·exact Pp g m G j y h x S7 A Y r ⟨_,k,o,a,p⟩
  ·obtain⟨c,rfl⟩:=v2 a;obtain⟨s,rfl,W,n,S2,rfl,l,C,W⟩:=ft o;exact uT g m G j y h _ S7 A Y r ⟨n,e,S2,rfl,.inl<|c5.of l,C,c.w,λH TF aN d=>bV.l p aN d⟩
 ·rename_i e;obtain⟨c,rfl⟩:=v2 a;obtain⟨s,rfl,q⟩:=ft o;obtain⟨n,S2,rfl,l,C⟩:=q.i;exact uT g m G j y h _ S7 A Y r ⟨n,e,S2,rfl,.inr<|b7.of l,C,c.w,λH TF aN d=>bV.l p aN d⟩
 ·rename_i M;obtain⟨c,rfl⟩:=v2 a;obtain⟨s,rfl,W,n,T2,rfl,l,C,W⟩:=ft o;rw[AU C]at c p;exact K4 g m G j y h _ S7 A Y r ⟨n,T2,rfl,l,c,λH TF aN d=>bV.l p aN d⟩
 ·cases a
def n0(E:List ab):Bool:=decide (E.length<=1000)&&E.all (λg=>E.all λc=>fG 6 g c)&&(E.all g3 || E.all kS)
theorem wD:n0 E=aa↔oL E:=by
 unfold n0;rw[cd,cd,u9,jJ,fk,fk,fk];constructor
 ·rintro⟨⟨l,C⟩,a⟩;exact⟨⟨l,λg b c d=>fk.mp (C g b) c d⟩,a⟩
 ·rintro⟨⟨l,C⟩,a⟩;exact⟨⟨l,λg b=>fk.mpr λc d=>C g b c d⟩,a⟩
def pQ:hN:=λE=>match E with
 |[.im (.tup e)]=>if n0 e=aa then Z (.lst<|fl bx e) else X
 |[.lst e]=>if n0 e=aa then Z (.lst<|fl bx e) else X
 |_=>X
theorem xQ(g:f.calm=aa)(m:f.A.units+20<bP):gQ f (.builtin "sorted") pQ:=by
 intro G j y h x S7 A Y r ⟨E,k,o,a,p⟩;unfold pQ at a;split at a
 ·rename_i e;split at a
  ·rename_i c;cases a;obtain⟨s,rfl,q⟩:=ft o;obtain⟨n,S2,rfl,l,C⟩:=q.i;exact uT g m G j y h _ S7 A Y r ⟨n,e,S2,rfl,.inr<|b7.of l,C,wD.mp c,λH TF aN d=>bV.l p aN d⟩
  ·cases a
 ·rename_i e;split at a
  ·rename_i c;cases a;obtain⟨s,rfl,W,n,S2,rfl,l,C,W⟩:=ft o;exact uT g m G j y h _ S7 A Y r ⟨n,e,S2,rfl,.inl<|c5.of l,C,wD.mp c,λH TF aN d=>bV.l p aN d⟩
  ·cases a
 ·cases a
end
end L2
namespace PySem
open Sem (wp)
theorem P9:yQ (.type "list") "keys" = pure X:=by rw[vl,wk];kernel_rfl
theorem Ka{SR:bw}{D:a9}{O:bp}{SM:ae->ak->Prop}{j:ak}{g:ai}{x:Array ae}{o:Nat}{A:Option ae->ak->Prop}(b:j.heap.get? g=Z {cls:=.type "list",data:=.seq x o})(i:O.handled=X)(d:∀U Tu,(∀c m,j.heap.get? c=Z m->U.get? c=Z m)->A X {j with heap:=U,toks:=Tu}):wpAny (aM SR D) O (getAttr? (.ref g) "keys") A SM j:=by
 obtain⟨l,J,k,Tu,S3⟩:=j;have e:∀f,(⟨l,J,k,f,S3⟩:ak).TypeIs (.ref g) "list" := λ_=>⟨_,b,rfl⟩;have r:=sub_AttributeError;have s:=yM.lookup;have t:=yM.bind (.ref g);have u:=am_list_getattr_none;unfold getAttr? getAttrBy? getAttrBy;repeat (any_goals (first|assumption|exact e _|((with_reducible show wpAny _ _ (call (ae.builtin "list.__getattribute__") _ _) _ _ _);refine oG yM (e _) am_entry_list_getattribute (F.args_list_getattribute_2 _ _) (meets_getattribute_miss_list g x o _ "keys" _ P9 (by decide +kernel) (by decide)) ⟨b,i,λU f a h=>?_⟩)|wp_step))
 obtain⟨Tk,v,n⟩:=h.there;show wpAny _ _ (Gb _ _ _ _ _ _ _) _ _ _;unfold Gb;have p:∀q,(⟨U,J,k,q,S3⟩:ak).TypeIs (.ref a) "AttributeError" := λ_=>⟨_,n,rfl⟩;repeat (any_goals (first|assumption|exact p _|wp_step))
 exact d U _ h.keeps
end PySem
namespace PySem
namespace F
theorem Ag:tF table "dict.update.loop" = Z ba.«dict.update.loop»:=Dm (by kernel_rfl)
theorem tG:plainId "dict.update.loop" = aa:=by decide +kernel
end F
end PySem
namespace L2
open PySem PySem.Spec PyProof.Rows PySem.W
variable{S1:Pos}{s o:a8}
theorem w9{Ta z:Type}{N:Ta->z->Prop}:∀{a:List Ta}{f:List z},dX N a f->∀(b:Nat),b<a.length->∃g c,a[b]?=Z g/\f[b]?=Z c/\N g c
 |_,_,.nil,b,d=>by simp at d
 |_,_,.cons r B,0,d=>⟨_,_,rfl,rfl,r⟩
 |_,_,.cons r B,b+1,d=>by
  obtain⟨g,c,e,t,h⟩:=w9 B b (by simpa using d);exact⟨g,c,by simpa using e,by simpa using t,h⟩
noncomputable def pR:List ab->Option (List<|List ab×ab)
 |[]=>Z []
 |.tup [.tup o,k]::r=>(pR r).map λj=>(o,k)::j
 |_=>X
theorem Nq:∀{e:List ab}{SO:List (List ab×ab)},pR e=Z SO->e=SO.map λn=>.tup [.tup n.1,n.2]:=by
 intro e;induction e with
 |nil=>intro SO d;cases d;rfl
 |cons g e b=>
  intro SO d;unfold pR at d;split at d
  ·cases d;rename_i a;cases a
  ·rename_i o k r a;cases a;obtain⟨j,c,f⟩:=ch.mp d;cases f;rw[ci,<-b c]
  ·cases d
def mm(SO:List (List ab×ab)):List (List ab×ab):=SO.foldl (λg n=>gy g n.1 n.2) []
def zv(h:au)(s:as)(n:List ab×ab):Prop:=∃B g t,s=.ref B/\h B=Z (.tup [.ref g,t])/\hB h n.1 g/\cq h n.2 t
theorem Hh{h:au}:∀{SO:List (List ab×ab)}{S2:List as},(∀n∈SO,ab.keys 7 n.1=aa)->bu h (SO.map λn=>.tup [.tup n.1,n.2]) S2->dX (zv h) S2 SO
 |[],S2,_,d=>by rw[show S2=[] from d];exact .nil
 |n::SO,S2,a,d=>by
  obtain⟨s,r,rfl,⟨B,TF,rfl,l,o,q,rfl,C,b,c,rfl,e,f⟩,i⟩:=d;cases (show c=[] from f);obtain⟨g,j,rfl,k,Tc⟩:=C;exact .cons ⟨B,g,b,rfl,l,⟨a n<|.head _,g,j,rfl,k,Tc⟩,e⟩ (Hh (λp m=>a p<|.tail _ m) i)
section
variable{f:aH}{G:List (ai×a0)}{y:L2.St}{h:au}{T5:ak}
theorem fO.is{M:List (List ab×as)}{x:List (List ab×ai×ae)}(r:fO h M x):∀e∈x,hB h e.1 e.2.1:=by
 intro e a;obtain⟨b,SJ,rfl⟩:=l7.mp a;obtain⟨n,p,l,C,c,d,Y⟩:=w9 r b (by rw[dX.length r];exact SJ);rw[dh SJ]at C;have C:=Option.some.inj C;subst C;rw[<-c];exact d
theorem yV(a:Inv f G y h T5){w:ai}{d U:aT}{M:List (List ab×as)}{x:List (List ab×ai×ae)}(b:d.DictOfH (eb f.prog f.w) w x)(L:fO h M x)(cP:∀c m,T5.heap.get? c=Z m->U.get? c=Z m)(g:∀m,d.get? w=Z m->U.get? w=Z m):U.DictOfH (eb f.prog f.w) w x:=by
 obtain⟨m,Q,Td,l,C,i,j,Y,k⟩:=b;have n:Inv f G y h {T5 with heap:=U}:=a.kept (Tk:=T5.toks) cP;exact⟨m,Q,Td,g m l,C,i,j,λe o=>mr (d:=U) n.aV<|L.is e o,k⟩
theorem Jx(r:Inv f G y h T5){O:bp}(ex:O.units+20<bP){w e3 H:ai}{T:List ae}{S2:List as}{SO:List (List ab×ab)}{St:Nat->aT->Prop}{SQ:rj->ak->Prop}(u:bK S2 T)(Q:dX (zv h) S2 SO)(SK:SO.length<=1000)(W:i1 f.prog f.w O.in1 e3 [e3,H] [e3] T.length (λb s=>T[b]?=Z s) St)(fd:T5.heap.get? w=X)(z:T5.heap.get? e3=X)(A:w≠e3)(fn:w≠H)(fin:∀(j:ak) (x:List (List ab×ai×ae)) (M:List (List ab×as)),(∀c m,T5.heap.get? c=Z m->j.heap.get? c=Z m)->j.heap.DictOfH (eb f.prog f.w) w x->fO h M x->eC h (mm SO) M->M.length<=1000->
   j.gens=T5.gens->j.drawn=T5.drawn->j.os=T5.os->SQ (.ok<|.ret .none) j):
  ∀(i b:Nat) (B:gR) (j:ak) (x:List (List ab×ai×ae)) (M:List (List ab×as)),T.length-b=i->b<=T.length->St b j.heap->(∀c m,T5.heap.get? c=Z m->j.heap.get? c=Z m)->
   j.heap.DictOfH (eb f.prog f.w) w x->fO h M x->eC h (mm<|SO.take b) M->M.length<=b->j.gens=T5.gens->j.drawn=T5.drawn->j.os=T5.os->
   codeAny (aM f.prog f.w) O (.builtin "dict.update.loop" ⟨[.ref w,.ref e3,.int b B,.none],[]⟩) SQ j:=by
 have SL:T.length=SO.length:=by rw[<-u.length,dX.length Q]
 intro i;induction i with
 |zero=>
  intro b B j x M f1 SJ st cP C L p go E Tc TE;have g1:b=T.length:=by lia
  refine ma F.Ag ?_;rw[nu F.tG _];refine ao (m:=gd (.ref e3)) (W.done j _ _ (g1 ▸ st) λU Tu keep=>?_);refine ao (m:=ba.Dict.addKeywords w []) (aJ<|aJ ?_);have l:∀c m,c≠e3->j.heap.get? c=Z m->U.get? c=Z m:=λc m k a=>keep c m (by simpa using k) a;refine fin _ x M (λc m a=>l c m (λe=>by rw[e,z]at a;cases a)<|cP c m a) ?_ L (by rw[sX (by lia)]at p;exact p) (by lia) E Tc TE;exact yV r C L (λc m a=>l c m (λe=>by rw[e,z]at a;cases a)<|cP c m a) λm a=>l w m A a
 |succ i hd=>
  intro b B j x M f1 SJ st cP C L p go E Tc TE;have lt:b<T.length:=by lia
  refine ma F.Ag ?_;rw[nu F.tG _];refine ao (m:=gd (.ref e3)) (W.item b j _ _ lt st λs U Tu im mb keep=>?_);have l:∀c m,c≠e3->j.heap.get? c=Z m->U.get? c=Z m:=λc m k a=>keep c m (by simpa using k) a;obtain⟨t,q,ne,of,n,g,R,rfl,on,S,pm⟩:=w9 Q b (by rw[u.length];exact lt);obtain⟨I,be,pt⟩:=u.get ne;rw[im]at be;cases be;cases pt;have J:∀c m,T5.heap.get? c=Z m->U.get? c=Z m:=λc m a=>l c m (λe=>by rw[e,z]at a;cases a) (cP c m a);have bs:Inv f G y h {T5 with heap:=U}:=r.kept (Tk:=T5.toks) J;have sp:=yV r C L J λm a=>l w m A a;obtain⟨Y,SZ,s1,m,cl,s2,v,ty⟩:=bs.aV _ _ on;obtain⟨SM,P,rfl,un,up⟩:=zw s1;cases un;show wpAny (aM f.prog f.w) O.in1 (holding [.ref n] _ >>= λ_=>again _) _ _ _;refine ao (gf<|ao<|wpAny_tryCatch ?_);unfold ba.Dict.pairItems;refine ao (lD (s:={j with heap:=U,toks:=Tu}) (⟨m,cl,(Prod.mk.inj s2).1⟩:ak.TypeIs {j with heap:=U,toks:=Tu} (.ref n) "tuple") ?_);rw[aB (by decide)];refine ao (ib (s:={j with heap:=U,toks:=Tu}) cl ty<|aJ ?_);show wpAny (aM f.prog f.w) O.in1 (holding [.ref g,P]<|dictSet w (.ref g) P) _ _ _;refine gf (GO (s:={j with heap:=U,toks:=Tu}) (k:=q.1) (knd:=eb f.prog f.w) (qS ex) (mr (d:=U) bs.aV S) sp (λGt If b9=>?_) (by
   have:=dX.length L;exact ed (show x.length<=1000 by lia) (by decide)))
  have co:∀c m,c≠w->U.get? c=Z m->Gt.get? c=Z m:=λc m k a=>(b9.2 c k).trans a;have Is:=L.put q.1 (c:=g) (t:=R) (I:=P) S up;have Lt:SO.take (b+1)=SO.take b++[q]:=by
   have eq:=(fw.mp of);rw[FA eq.1,eq.2]
  have Ok:eC h (mm<|SO.take<|b+1) (hp M q.1 R):=by
   rw[Lt];unfold mm;rw[sa];exact eC.put pm p
  refine aJ ⟨nJ F.tG _,hd (b+1) 0 _ _ _ (by lia) lt (W.frame _ _ _ mb λc k m a=>co c m (λe=>by
    subst e;rcases bI.mp k with e|k
    ·exact A e
    ·exact fn (bW.mp k)) a) (λc m a=>co c m (λe=>by rw[e,fd]at a;cases a)<|J c m a) If Is Ok ?_ E Tc TE⟩
  unfold hp;split
  ·rw[a5];lia
  ·simp;lia
theorem H7(q:f.calm=aa)(mb:f.A.units+30<bP):eu f (.type "dict") (λx h A=>∃(H:ai) (S2:List as) (SO:List (List ab×ab)),x=[.ref H]/\h H=Z (.lst S2)/\dX (zv h) S2 SO/\SO.length<=1000/\
  ∀(k:ai) (M:List (List ab×as)),h k=X->eC h (mm SO) M->A (.ref k) (upd h k<|.aL M)):=by
 intro G j y h x S7 A Y r d;obtain⟨H,S2,SO,rfl,C,E,J,p⟩:=d;obtain⟨I,rfl,L⟩:=he r;cases L;obtain⟨mp,SZ,v,P,a⟩:=Y.aV H _ C;have t:H<j.heap.objs.size:=bX a;refine callType_codes (Q₁:=λobj u=>obj=.ref j.heap.objs.size/\u={j with heap:=j.heap.push {cls:=.type "dict",data:=.dict #[]} }) PySem.F.kt_called_dict (PySem.F.kt_typeCall_dict_1 _) PySem.F.entry_dict_init (kt_code_dict_new _ ⟨rfl,rfl⟩) ?_;rintro obj u ⟨rfl,rfl⟩;have R:(j.heap.push {cls:=.type "dict",data:=.dict #[]}).DictOfH (eb f.prog f.w) j.heap.objs.size []:=aT.DictOfH.new j.heap;have z:ak.TypeIs {j with heap:=j.heap.push {cls:=.type "dict",data:=.dict #[]} } (.ref j.heap.objs.size) "dict" := ⟨_,da _ rfl,rfl⟩;have e:(j.heap.push {cls:=.type "dict",data:=.dict #[]}).get? H=Z {cls:=.type "list",data:=.seq SZ.toArray v}:=bS _ a;refine⟨z,PySem.F.args_dict_init_2 _ _,?_⟩;unfold ba.«dict.__init__»;refine ao ?_;unfold ba.Dict.selfAndRest;refine ao (BU z ?_);show wpAny _ _ (pure (j.heap.objs.size,[ae.ref H])) _ _ _;refine aJ ?_;show wpAny _ _ (ba.Dict.updateFrom "dict.__init__" j.heap.objs.size (.ref H) [] .none) _ _ _;unfold ba.Dict.updateFrom;refine ao (lD (⟨_,e,rfl⟩:ak.TypeIs {j with heap:=j.heap.push {cls:=.type "dict",data:=.dict #[]} } (.ref H) "list") ?_);rw[aB (by decide)];refine ao (Ka (j:={j with heap:=j.heap.push {cls:=.type "dict",data:=.dict #[]} }) e (Y.ok.hd q) λl Tu Tj=>?_);rw[aB (show (X:Option ae).isNone=aa from rfl)];refine ao (m:=rule _) (h4 ?_);have B:l.IsList H SZ.toArray:=⟨_,Tj _ _ e,rfl,v,rfl⟩;refine ao (u7 (s:={j with heap:=l,toks:=Tu}) B ?_);have g:j.heap.objs.size<l.objs.size:=bX (Tj _ _<|da _ rfl);have cP:∀c m,j.heap.get? c=Z m->(l.push {cls:=.type "list_iterator",data:=.fields #[.ref H,.int 0 0]}).get? c=Z m:=λc m n=>bS _ (Tj c m<|bS _ n);refine aJ ⟨nJ PySem.F.tG _,?_⟩;have S:(l.push {cls:=.type "list_iterator",data:=.fields #[.ref H,.int 0 0]}).DictOfH (eb f.prog f.w) j.heap.objs.size []:=yV Y (M:=[]) R .nil cP λm T=>bS _ (Tj _ _ T);have be:H≠l.objs.size:=cT (oC t g);refine Jx Y (O:=f.A.in1) (by show f.A.units+1+20<bP;lia) (w:=j.heap.objs.size) (e3:=l.objs.size) (H:=H) (St:=λb d=>d.IsListIter l.objs.size H b/\d.IsList H SZ.toArray) P E J ?_ (wA<|bm _) (wA<|mh g) (cT g) (l2 t)
  (λSN x M bs cl co eq of o Tc TE=>?_) SZ.length 0 0 _ [] [] rfl (gV _) ?_ cP S .nil .nil (bm _) rfl rfl rfl
 ·have W:=i1.list (prog:=f.prog) (w:=f.w) (A:=f.A.in1.in1) (Y.ok.hd q) l.objs.size H be SZ.toArray;have ex:(λ(b:Nat) (s:ae)=>SZ.toArray[b]?=Z s)=λb s=>SZ[b]?=Z s:=by
   funext b s;rw[sx]
  rw[ex,cr]at W;exact W
 ·obtain⟨U,Uf,TV,Tk,fd⟩:=SN;have o:Uf=j.gens:=o;have Tc:TV=j.drawn:=Tc;have TE:fd=j.os:=TE;subst o Tc TE;have zD:h j.heap.objs.size=X:=Y.aV.fresh (bm _);obtain⟨m,Q,Td,fn,f1,go,g1,N,im⟩:=cl;refine⟨rfl,.ref j.heap.objs.size,_,Y.laid (m:=.aL M) (U:=U) (Tk:=Tk) bs (bm _) ⟨ed (show M.length<=1000 by lia) (by decide),vC.mpr<|fB<|cT Y.big,x,co.keeps λc S2 n=>Dc n zD,m,Q,Td,fn,f1,go,g1,im⟩,rfl,p _ M zD eq⟩
 ·exact⟨⟨_,da _ rfl,rfl,rfl⟩,B.push _⟩
@[simp] def nx:hN:=λE=>match E with
 |[.lst e]=>(pR e).bind λSO=>if (SO.all λn=>ab.keys 7 n.1)=aa/\SO.length<=1000 then Z (.aL<|mm SO) else X
 |_=>X
theorem AT(d:f.calm=aa)(i:f.A.units+30<bP):gQ f (.type "dict") nx:=by
 refine (H7 d i).imp λx h A m=>?_;obtain⟨E,k,o,a,p⟩:=m;unfold nx at a;split at a
 ·rename_i e;obtain⟨SO,q,b⟩:=bB.mp a;split at b
  ·rename_i c;cases b;obtain⟨s,rfl,Y,n,S2,rfl,l,C,Y⟩:=ft o;rw[Nq q]at C;refine⟨n,S2,SO,rfl,l,Hh (λp r=>fk.mp c.1 p r) C,c.2,λk M hd t=>?_⟩;have j:cG h (upd h k<|.aL M):=(cG.refl h).upd hd;exact p _ _ [k] j ⟨k,M,rfl,ec,t.mono j.tupS.tup,rfl⟩ (er _ _) λg u=>by rw[bW.mp u];exact hd
  ·cases b
 ·cases a
end
section
variable{f:aH}
def I5(Tu l:bR):bR:=λy h A=>∀n,h n=X->Tu y (upd h n<|.aL []) λe SU=>l y SU λt S5=>∃c o,e=.ref c/\hB S5 o c/\S5 n=Z (.aL [])/\A (.ref n) (upd S5 n<|.aL [(o,t)])
theorem OO{Tu l:bR}(eq:f.A.units+20<bP)(u:bC f o Tu)(v:bC f s l):bC f (.Dict [Z o] [s] S1) (I5 Tu l):=by
 intro G j y h A Y p;have z:=Y.aV.fresh (bm j.heap.objs.size);have B:=Y.laid (g:=j.heap.objs.size) (m:=.aL []) (U:=j.heap.push {cls:=.type "dict",data:=.dict #[]}) (Tk:=j.toks) (λ_ W p=>bS _ p) (bm _) (G4 j.heap Y.big);refine wpAny_Dict_any rfl rfl (by simp) (by simp) ?_;refine pairTrees_cons_walk (bJ (u G _ y _ _ B<|p _ z) λI E ⟨e,SU,F,H,J⟩=>bJ (v G E y SU _ F J) λex N ⟨t,S5,a,P,c,q,Tz,d,b,R⟩=>pairTrees_nil_walk ?_);subst Tz;cases H;obtain⟨i,S,x,L,T⟩:=wX a.aV b;cases L;unfold storeAll;rw[tw];refine ao (ao (GO (k:=q) (knd:=eb f.prog f.w) (show f.A.units+10<bP by lia) (mr a.aV d) T (λU be b9=>aJ ?_)<|gV _));refine aJ ⟨.ref j.heap.objs.size,_,?_,rfl,R⟩;obtain⟨k,Q,Td,n,C,bs,cl,W,co⟩:=be;refine zk (j:=N) a (by rw[b];exact True.intro) b9 ⟨k,n⟩ ⟨(show 1<=sizeLine by decide),S,_,fO.keeps (fO.put (M:=[]) (x:=[]) .nil q (c:=c) d P) λfn S2 r=>?_,k,Q,Td,n,C,bs,cl,co⟩;rw[cB (EY r b<|λi=>nomatch i)];exact r
@[simp] noncomputable def EH(a b:av aj):av aj:=λw=>(a w).bind λn=>(b n.2).bind λp=>match n.1,p.1 with
 |.im (.tup o),.im k=>if ab.keys 7 o=aa then Z (.aL [(o,k)],p.2) else X
 |_,_=>X
theorem O9{E F:av aj}(P:f.A.units+20<bP)(Q:b4 f o E)(R:b4 f s F):b4 f (.Dict [Z o] [s] S1) (EH E F):=by
 refine dY (OO P Q R) λy h A ⟨w,N,r,S4,st,ah,S,p⟩ n u=>?_;obtain⟨⟨TD,z⟩,l,C⟩:=bB.mp S;obtain⟨⟨TA,M⟩,T,k⟩:=bB.mp C;have j:cG h (L2.upd h n<|.aL []):=(cG.refl h).upd u;have G:n∉N:=λb=>by obtain⟨m,a,Y⟩:=st.chg n b;rw[u]at a;cases a
 refine⟨w,N,TD,z,st.mono j.tupS λg Y m a=>j g m a,ah,l,λe SU S6 f1 be Th v=>?_⟩;have bs:=cF.mp v.ah;refine⟨z,S6,TA,M,be,bs.1,T,λt S5 Tg bO cl TM q=>?_⟩;dsimp only at k;split at k
 ·rename_i es go;split at k
  ·rename_i co;cases k;obtain⟨eq,rfl⟩:=Th;obtain⟨ex,rfl⟩:=TM;rw[bU]at v q;have B:=v.seq q;have H:SU n=Z (.aL []):=v.keep n _ ec G;have J:n∉S6:=λb=>by
    rcases v.sub n b with d|d
    ·exact G d
    ·rw[ec]at d;cases d
   have D:S5 n=Z (.aL []):=q.keep n _ H J;have L:n∉Tg:=λb=>by
    rcases q.sub n b with d|d
    ·exact J d
    ·rw[H]at d;cases d
   obtain⟨c,x,rfl,Tj,Tr⟩:=(show cq S5 (.tup es) e from eq.mono q.tup.tup);refine⟨c,es,rfl,⟨co,c,x,rfl,Tj,Tr⟩,D,?_⟩;have gl:eO S5 (L2.upd S5 n<|.aL [(es,t)]):=eO.of (λg x a=>by
    have:g≠n:=λb=>by subst b;rw[D]at a;cases a
    rw[cB this];exact a) λg m I a=>by
    have:g≠n:=λb=>by subst b;rw[D]at a;cases a
    rw[cB this];exact a
   refine p _ _ Tg [n] (cl.mono gl λg i m a=>by
    have ne:g≠n:=λb=>by subst b;exact L i
    rw[cB ne];exact a) ⟨n,[(es,t)],rfl,ec,.cons ⟨rfl,ex.mono gl.tup⟩ .nil,rfl⟩ ?_
   refine⟨λg m a i=>?_,λg i=>?_,?_,?_,λg m a=>?_⟩
   ·have:g≠n:=λb=>by subst b;rw[u]at a;cases a
    rw[cB this];exact B.keep g m (by rw[cB this];exact a) i
   ·rcases cx.mp i with d|d
    ·rcases B.sub g d with U|U
     ·exact .inl U
     ·by_cases a:g=n
      ·exact .inr (a ▸ u)
      ·rw[cB a]at U;exact .inr U
    ·exact .inr (by rw[bW.mp d];exact u)
   ·exact cF.mpr ⟨q.ah,er _ _,λg i c fd a=>L (by rw[bW.mp fd]at a;rw[<-a];exact i)⟩
   ·exact (j.tupS.trans B.tup).trans gl
   ·by_cases b:g=n
    ·exact⟨_,by rw[b];exact ec⟩
    ·obtain⟨Tq,fn⟩:=B.grow g m (by rw[cB b];exact a);exact⟨Tq,by rw[cB b];exact fn⟩
  ·cases k
 ·cases k
end
section
variable{SR:bw}{D:a9}{O:bp}{SM:ae->ak->Prop}{j:ak}
end
section
variable{SR:bw}{D:a9}{O:bp}{SM:ae->ak->Prop}{j:ak}
end
section
open PySem.SeqAt
open PySem.AutoSeq1 (wpAny_loadPart')
open PySem.MeetsSeq PySem.MeetsSeq2 PySem.MeetsSeq3
end
section
variable{f:aH}
end
section
variable{SR:bw}{D:a9}{O:bp}{SM:ae->ak->Prop}{j:ak}
end
section
variable{SR:bw}{D:a9}{O:bp}{SM:ae->ak->Prop}{j:ak}
end
section
variable{f:aH}
end
section
variable{f:aH}
end
mutual
noncomputable def tO:ab->qn
 |.int b=>.int b
 |.ax c=>.bool c
 |.str e=>.str e
 |.tup E=>.tuple (qJ E)
 |_=>.none
noncomputable def qJ:List ab->List qn
 |[]=>[]
 |k::r=>tO k::qJ r
end
mutual
theorem HU{d:aT}:∀{v:Nat}{k:ab}{I:ae},ab.bk v k=aa->dR d k I->Reads d I (tO k) []
 |_,.aR,I,_,a=>by cases (show I=.none from a);exact .none
 |_,.ax c,I,_,a=>by cases (show I=.bool c from a);exact .bool c
 |_,.int b,I,_,a=>by obtain⟨B,rfl⟩:=a;exact .int b B
 |_,.str e,I,_,a=>by obtain⟨B,rfl⟩:=a;exact .str e B
 |v+1,.tup E,I,o,a=>by
  obtain⟨g,m,S_,i,rfl,l,C,f,h⟩:=a;exact .tuple l C f (E6 (v:=v) o h)
 |0,.tup E,I,o,a=>by cases o
 |v,.fn g,I,o,a=>by cases v<;>cases o
 |v,.aN g,I,o,a=>by cases v<;>cases o
 |v,.fd,I,o,a=>by cases v<;>cases o
theorem E6{d:aT}:∀{v:Nat}{E:List ab}{S7:List ae},ab.cQ v E=aa->dw d E S7->ReadsAll d S7 (qJ E) []
 |_,[],S7,_,a=>by rw[show S7=[] from a];exact .nil
 |v,k::E,S7,o,a=>by
  obtain⟨s,r,rfl,l,C⟩:=a;rw[ab.cQ,cd]at o;exact .cons (HU o.1 l) (E6 o.2 C)
end
mutual
theorem O5:∀k:ab,qn.hasDict (tO k)=al
 |.aR=>rfl
 |.ax _=>rfl
 |.int _=>rfl
 |.str _=>rfl
 |.fn _=>rfl
 |.aN _=>rfl
 |.fd=>rfl
 |.tup E=>CG E
theorem CG:∀E:List ab,qn.hasDictAll (qJ E)=al
 |[]=>rfl
 |k::r=>by
  show (qn.hasDict (tO k) || PyData.hasDictAll (qJ r))=al;rw[O5 k,CG r];rfl
end
section
variable{f:aH}
end
section
variable{SR:bw}{D:a9}{O:bp}{SM:ae->ak->Prop}{j:ak}
end
section
variable{f:aH}
end
end L2
namespace G
open PySem L2
variable{q c g:Int×Int}{SY:List (Int×Int)}{d:aj}{v:Nat}
def OJ:bj:=(a7 (dB (bg<|ap pC (V<|ap aY (af 0)<|V<|aq<|.int 0)<|V<|aq<|.int 0) (a7 (bL 2<|ap fy (V<|ap aY (af 0)<|V<|aq<|.int 0)<|af 1)<|a7 (eP (ap nF (V<|ap aY (af 0)<|V<|aq<|.int 0)<|af 1)<|iY 0 (aq<|.int 0) ly)<|cv<|dQ 2) ee)<|a7 (eP (ap bH (V<|ap aY (af 0)<|V<|aq<|.int 2)<|V<|aq<|.int 1)<|iY 0 (aq<|.int 2) ly)<|a7 (bL 3<|ap fy (V<|ap d8 (V<|ap bH (V<|ap aY (af 0)<|V<|aq<|.int 1)<|V<|ap d8 (V<|ap aY (af 0)<|V<|aq<|.int 2)<|V<|aq<|.int 104729)<|V<|aq<|.int 48271)<|V<|aq<|.int 2305843009213693951)<|a7 (eP (ap fy (V<|ap d8 (af 3)<|V<|ap bH (V<|ap fy (af 3)<|V<|aq<|.int 1009)<|V<|aq<|.int 69621)<|V<|aq<|.int 2305843009213693951)<|iY 0 (aq<|.int 1) ly)<|cv<|ap fy (V<|ap nF (V<|ap aY (af 0)<|V<|aq<|.int 1)<|V<|aq<|.int 1000003)<|af 1)
def re:cN:=c6 2 4 [0,1] OJ
def Pr:bj:=(cv<|dq<|ag (V<|bv<|ag (V<|ap iR (V<|ap aY (af 0)<|V<|aq<|.int 0)<|V<|aq<|.int 1)<|ag (V<|ap aY (af 0)<|V<|aq<|.int 1) am)<|ag (V<|bv<|ag (V<|ap aY (af 0)<|V<|aq<|.int 0)<|ag (V<|ap iR (V<|ap aY (af 0)<|V<|aq<|.int 1)<|V<|aq<|.int 1) am)<|ag (V<|bv<|ag (V<|ap aY (af 0)<|V<|aq<|.int 0)<|ag (V<|ap bH (V<|ap aY (af 0)<|V<|aq<|.int 1)<|V<|aq<|.int 1) am)<|ag (V<|bv<|ag (V<|ap bH (V<|ap aY (af 0)<|V<|aq<|.int 0)<|V<|aq<|.int 1)<|ag (V<|ap aY (af 0)<|V<|aq<|.int 1) am) am)
def H5:cN:=c6 1 1 [0] Pr
def Qo:bj:=(a7 (bL 4<|ap aY (V<|bq 1 G.H5<|ag (V<|ap aY (af 2)<|V<|bq 2 G.re<|ag (af 0)<|ag (V<|bn cZ<|ag (af 2) am) am) am)<|V<|bq 2 G.re<|ag (af 0)<|ag (V<|aq<|.int 4) am)<|dB (ei (bg<|ap iI (af 4)<|af 2)<|ei (bg<|gc ep ep (V<|aq<|.int 0) (V<|ap aY (af 4)<|V<|aq<|.int 0)<|V<|aq<|.int 24)<|bg<|gc ep ep (V<|aq<|.int 0) (V<|ap aY (af 4)<|V<|aq<|.int 1)<|V<|aq<|.int 24) (ic<|fS hH 2 hm<|ag (af 4) am) ee)
def Rg:bj:=(a7 (bL 2<|dq<|ag (V<|bv<|ag (V<|aq<|.int 12)<|ag (V<|aq<|.int 12) am) am)<|a7 (gI (lB<|ag (V<|bq 2 G.re<|ag (af 0)<|ag (af 1) am) am) (bb 3) G.Qo)<|cv<|dQ 2)
def Jc:cN:=c6 2 5 [0,1] Rg
def Ja:bj:=(ic<|fS hH 5 ps<|ag (V<|bq 2 G.re<|ag (af 0)<|ag (V<|bn cZ<|ag (af 5) am) am) am)
def Ql:av aj:=(dQ 0)
def MJ:av Bool:=(bg<|ap dM (V<|ap d8 (V<|ap fy (V<|ap aY (af 0)<|V<|aq<|.int 0)<|V<|aq<|.int 2)<|V<|ap fy (V<|ap fy (V<|ap aY (af 0)<|V<|aq<|.int 1)<|V<|aq<|.int 3)<|V<|aq<|.int 2)<|V<|aq<|.int 0)
noncomputable def ar(n:Int×Int):ab:=.tup [.int n.1,.int n.2]
abbrev aX(SO:List (Int×Int)):aj:=.im (.tup<|SO.map ar)
abbrev aP(SO:List (Int×Int)):aj:=.lst (SO.map ar)
noncomputable abbrev gK(k j B:Int):aj:=.lst [.int k,.int j,.int B]
def eF(v:Nat)(d:aj):Prop:=∃k j B,d=gK k j B/\0<=k/\0<=j/\j<2^62/\0<=B/\B+v<2^40
theorem eF.mono{i:Nat}(e:eF v d)(a:i<=v):eF i d:=by
 obtain⟨k,j,B,rfl,l,C,b,c,f⟩:=e;exact⟨k,j,B,rfl,l,C,b,c,by lia⟩
theorem eF.lst(e:eF v d):∃p,d=.lst p:=by
 obtain⟨k,j,B,rfl,Y⟩:=e;exact⟨_,rfl⟩
noncomputable def dC(n:Int×Int):List ab:=[.int n.1,.int n.2]
theorem yq(n:Int×Int):ar n=.tup (dC n):=rfl
theorem n3(d:dC g=dC c):g=c:=by
 unfold dC at d;simp at d;exact i_ d.1 d.2
theorem wK(d:ar g=ar c):g=c:=by
 rw[yq,yq]at d;exact n3 (by injection d)
theorem Oa(n:Int×Int):ab.keys 7 (dC n)=aa:=rfl
noncomputable def mL:ab->Int×Int
 |.tup [.int g,.int c]=>(g,c)
 |_=>(0,0)
theorem ET(n:Int×Int):mL (ar n)=n:=rfl
theorem rU(n:Int×Int):ab.bk 8 (ar n)=aa:=rfl
theorem BP:∀SO:List (Int×Int),ab.cQ 8 (SO.map ar)=aa
 |[]=>rfl
 |n::r=>by rw[ci,ab.cQ,rU,BP r];rfl
theorem pb(g c:Int×Int):ck (ar g) (ar c)=decide (g=c):=by
 show ((g.1==c.1)&&((g.2==c.2)&&aa))=_;obtain⟨a,TP⟩:=g;obtain⟨cz,b3⟩:=c;by_cases l:a=cz<;>by_cases C:TP=b3<;>simp[l,C]
theorem RB(SO:List (Int×Int))(q:Int×Int):((SO.map ar).any λe=>ck e<|ar q)=decide (q∈SO):=by
 rw[t0,qC,nw,jJ];constructor
 ·rintro⟨e,b,a⟩;have:decide (e=q)=aa:=by rw[<-pb];exact a
  rw[<-dT this];exact b
 ·intro d;refine⟨q,d,?_⟩;show ck (ar q) (ar q)=aa;rw[pb];exact cU rfl
theorem DL:∀(H:List ab) (SY:List (Int×Int)),(∀e∈H,e∈SY.map ar)->H=(H.map mL).map ar
 |[],_,_=>rfl
 |e::H,SY,d=>by
  obtain⟨n,Y,a⟩:=cX.mp (d e<|.head _);rw[ci,ci,<-DL H SY λt b=>d t<|.tail _ b,<-a,ET]
theorem EL{H:List ab}(d:H.Perm (SY.map ar)):∃T:List (Int×Int),T.Perm SY/\H=T.map ar:=by
 refine⟨H.map mL,?_,DL H SY λe b=>d.mem_iff.mp b⟩;have:=vf mL d;rw[gJ]at this;have a:(mL ∘ ar:Int×Int->Int×Int)=id:=funext ET;rw[a,rs]at this;exact this
theorem vQ(ah:SY.Nodup)(b:SY.length<=1000):iM (SY.map ar):=by
 refine⟨⟨by rw[a5];exact b,λg d c f=>?_,?_⟩,.inl λk hd=>?_⟩
 ·obtain⟨e,Y,rfl⟩:=cX.mp d;obtain⟨t,Y,rfl⟩:=cX.mp f;rfl
 ·exact Hb ar (λg c v a=>v<|wK a) ah
 ·obtain⟨e,Y,rfl⟩:=cX.mp hd;rfl
theorem JK{M:List (List ab×ab)}{o:List ab}:(ez M o).isSome=M.any λn=>decide (n.1=o):=by
 unfold ez;rw[r4,List.isSome_find?]
def mt(SY:List (Int×Int)):List (List ab×ab):=SY.map λq=>(dC q,.ax aa)
theorem x5(SY:List (Int×Int))(q:Int×Int):((mt SY).any λn=>decide (n.1=dC q))=decide (q∈SY):=by
 unfold mt;rw[t0,qC,nw,jJ];constructor
 ·rintro⟨e,b,a⟩;have:dC e=dC q:=dT a;rw[<-n3 this];exact b
 ·intro d;exact⟨q,d,cU rfl⟩
theorem NI(SY:List (Int×Int))(q:Int×Int):(ez (mt SY)<|dC q).isSome=decide (q∈SY):=by rw[JK,x5]
theorem Q0(d:q∉SY):gy (mt SY) (dC q) (.ax aa)=mt (SY++[q]):=by
 unfold gy;rw[aG (by rw[x5];simpa using d)];unfold mt;rw[fe];rfl
theorem JV{Ta:Type}{a:List Ta}(d:a≠[]):∃b D,a=b++[D]:=⟨a.dropLast,a.getLast d,(List.dropLast_concat_getLast d).symm⟩
theorem PZ(n:Int×Int):d9 [ab.int n.1,.int n.2] 0=Z (.int n.1):=rfl
theorem Pq(n:Int×Int):d9 [ab.int n.1,.int n.2] 1=Z (.int n.2):=rfl
theorem ot{R:List (Int×Int)}{b:Int}(TN:0<=b)(d:R[b.toNat]?=Z q):d9 (R.map ar) b=Z (ar q):=pL TN (by rw[d3,d];rfl)
theorem wY(SO:List (Int×Int))(q:Int×Int):gi (ar q) (aP SO)=Z (decide (q∈SO)):=by
 rw[PL,rU,BP,RB];rfl
theorem Bg{Ta z:Type}(P:Ta->z):∀(H:List Ta) (o:Nat),(H.map P).eraseIdx o=(H.eraseIdx o).map P
 |[],_=>rfl
 |_::_,0=>rfl
 |g::H,o+1=>by simp[Bg P H o]
def mid:bj:=(dB (ga (bg<|ap dM (af 2)<|V<|aq<|.int 1)<|bg<|ap dM (af 2)<|V<|aq<|.int 2) (gI (lB<|ag (V<|bq 2 G.re<|ag (af 0)<|ag (V<|ap bH (V<|aq<|.int 1)<|V<|ap nF (V<|bn cZ<|ag (af 5) am)<|V<|aq<|.int 2) am) am) (bb 6) G.Ja)<|dB (bg<|ap dM (af 2)<|V<|aq<|.int 3) (bL 5<|cJ 1 [] (cA<|af 5) (bb 0) G.MJ G.Ql)<|dB (bg<|ap pC (af 2)<|V<|aq<|.int 3) (bL 5<|bq 2 G.Jc<|ag (af 0)<|ag (af 1) am) ee)
abbrev a4:=(Int×Int)×(Int×Int)
def dt(a:a4):List ab:=[ar a.1,ar a.2]
theorem yO{g c:a4}(d:dt g=dt c):g=c:=by
 unfold dt at d;injection d with l C;injection C with C _;exact i_ (wK l) (wK C)
def OZ(g c:Int×Int):a4:=(if bx (ar c) (ar g)=aa then c else g,if bx (ar g) (ar c)=aa then c else g)
noncomputable def bump:List (a4×Int)->a4->List (a4×Int)
 |[],a=>[(a,1)]
 | (P,v)::r,a=>if P=a then (P,v+1)::r else (P,v)::bump r a
def cnt(Tw:List (a4×Int))(SO:List a4):List (a4×Int):=SO.foldl (λTw n=>bump Tw<|OZ n.1 n.2) Tw
end G
namespace L2
open PySem PySem.Spec PyProof.Rows PySem.W
section
variable{f:aH}
end
section
variable{f:aH}{L:List (ai×List ab)}{c:List (ai×List (List ab×ai))}
end
variable{SK:PySem.W.Frag}{SS:bw}{D:a9}
end L2
namespace L2
open PySem PySem.Spec PyProof.Rows PySem.W
variable{b:Nat}
noncomputable def nR(w:aU)(b:Nat)(E:List ab):Bool:=match w[b]? with
 |some (Z<|.lst t)=>decide (t=E)
 |_=>al
def jY(b:Nat)(E:List ab)(To:eX)(c:bj):List ab->bj
 |[]=>λw=>if nR w b E=aa then Z (.aZ,w) else X
 |e::r=>λw=>if nR w b E=aa then (To (.im e) w).bind λz=>(c z).bind λp=>match p.1 with
  |.aZ=>jY b E To c r p.2
  |.ca=>jY b E To c r p.2
  |.cK=>Z (.aZ,p.2)
  |.dO k=>Z (.dO k,p.2) else X
def yK(b:Nat)(To:eX)(c:bj):bj:=λw=>match w[b]? with
 |some (Z<|.lst E)=>jY b E To c E w
 |_=>X
theorem z5{w:aU}{E:List ab}(d:nR w b E=aa):w[b]?=Z (Z<|.lst E):=by
 unfold nR at d;split at d
 ·rename_i t a;rw[a,dT d]
 ·cases d
section
variable{f:aH}
theorem Jk{S8 TH:List Nat}{To TQ:a8}{T9:List bz}{t:eX}{TI:bj}{S1:Pos}(mb:oP (aM f.prog f.w) f.A f.env f.ce)(ne:f.calm=aa)(SJ:dd f TQ (af b))(on:h1 f TH To t)(pm:g_ f TH T9 TI)(pt:∀b∈S8,b∈TH)(SX:b∈TH)(sp:∀e,lY TQ f.env e=pure e:=by intro Y;rfl):fU f S8 (.For To TQ T9 [] S1) (yK b t TI):=by
 refine iS (Cm mb ne (GG SJ) on pm sp) λSM y h s1=>?_;obtain⟨w,N,P,M,st,ah,J,p⟩:=s1;unfold yK at J;split at J
 ·rename_i E co;refine⟨w,N,.aW b,w,st,ah,by unfold af;rw[co],λs SU S6 SQ eq Th ex=>?_⟩;obtain⟨Th,rfl⟩:=Th;rw[bU]at ex;have S:∀{R:au}{c:aU}{n:St}{Ti:List ai},bo R c n Ti->n[b]?=Z (Z s)->c[b]?=Z (Z<|.lst E)->∃g x,s=.ref g/\R g=Z (.lst x)/\bu R E x:=λB s2 ty=>by
   obtain⟨S2,S3,S4,fd,Tc,Y⟩:=B.out ty;rw[s2]at fd;cases fd;obtain⟨g,x,a,l,C,Y⟩:=Tc;exact⟨g,x,a,l,C⟩
  obtain⟨g,x,rfl,l,C⟩:=S eq Th co;refine⟨g,rfl,.inl ⟨⟨x,c5.of l⟩,?_⟩⟩;have T:∀{F:St},cI TH y F->cI S8 y F:=λP=>⟨P.1,λb SJ=>P.2 b<|pt b SJ⟩;refine⟨λu i n R=>i+u=E.length/\∃c Ti,cI TH y n/\bo R c n Ti/\bd h N R Ti/\jY b E t TI (E.drop u) c=Z (P,M),⟨E.length,rfl,w,S6,cI.refl,eq,ex,J⟩,?_⟩;rintro u i n R ⟨S7,c,Ti,o,B,SN,j⟩;by_cases fn:u<E.length
  ·rw[kL fn,jY]at j;dsimp only at j;split at j
   ·rename_i be;obtain⟨un,up,a,Tj,Tr⟩:=S B ((o.2 b SX).trans Th) (z5 be);cases a;obtain⟨Gt,If⟩:=(xt (SK:=f.K) Tj Tr).go R (eO.of (λ_ Y a=>a)<|λ_ Y Y a=>a) (λ_ Y Y a=>a) u E[u] (by simp[fn]);obtain⟨U,Is,Lt⟩:=bB.mp j;obtain⟨⟨Ts,bs⟩,Ok,L⟩:=bB.mp Lt;refine .inr ⟨Gt,λF S5=>(i-1)+(u+1)=E.length/\∃c Ti,cI TH y F/\bo S5 c F Ti/\bd h N S5 Ti/\jY b E t TI (E.drop<|u+1) c=Z (P,M),λF S5 d=>⟨i-1,by lia,d⟩,λe S5 SO=>?_⟩;obtain⟨cl,SP⟩:=If e S5 SO;have SS:=B.mono cl.tupS λg Y m a=>cl g m a;have f1:=SN.same cl;refine⟨c,Ti,.im E[u],[],U,SS,⟨SP,rfl⟩,by rw[bU];exact f1.ah,Is,λS9 SV g1 Q SW hd=>?_⟩;have G:bd h N SV g1:=f1.seq (by rw[bU]at hd;exact hd);refine⟨U,g1,Ts,bs,SW,G.ah,Ok,?_⟩;cases Ts with
    |aZ=>exact λH I q r v z=>⟨by lia,bs,q,(o.trans Q).trans r,v,G.seq z,L⟩
    |ca=>exact λH I q r v z=>⟨by lia,bs,q,(o.trans Q).trans r,v,G.seq z,L⟩
    |cK=>
     cases L;exact λH I q r v z=>p H I q (T<|(o.trans Q).trans r) v (G.seq z)
    |dO k=>
     cases L;exact λs H I q SY r v SZ z=>p s H I q SY (T<|(o.trans Q).trans r) v SZ (G.seq z)
   ·cases j
  ·have S0:u=E.length:=by lia
   subst S0;rw[o6 (bm _),jY]at j;dsimp only at j;split at j
   ·rename_i be;cases j;obtain⟨un,up,a,Tj,Tr⟩:=S B ((o.2 b SX).trans Th) (z5 be);cases a;exact .inl ⟨(xt (SK:=f.K) Tj Tr).stop R (eO.of (λ_ Y a=>a)<|λ_ Y Y a=>a)<|λ_ Y Y a=>a,p n R Ti (T o) B SN⟩
   ·cases j
 ·cases J
end
end L2
namespace G
open PySem L2
def Fc:bj:=(cv<|bv<|ag (V<|ap iR (V<|ap aY (af 1)<|V<|aq<|.int 0)<|V<|ap fy (V<|ap iR (V<|ap aY (af 1)<|V<|aq<|.int 0)<|V<|ap aY (V<|ap aY (af 0)<|V<|aq<|.int 0)<|V<|aq<|.int 0)<|V<|aq<|.int 2)<|ag (V<|ap iR (V<|ap aY (af 1)<|V<|aq<|.int 1)<|V<|ap fy (V<|ap iR (V<|ap aY (af 1)<|V<|aq<|.int 1)<|V<|ap aY (V<|ap aY (af 0)<|V<|aq<|.int 0)<|V<|aq<|.int 1)<|V<|aq<|.int 2) am)
def q1:cN:=c6 2 2 [0,1] Fc
def vY:bj:=(a7 (dB (bg<|ap j3 (af 1)<|V<|bn cZ<|ag (af 0) am) (cv<|ap aY (af 0)<|af 1) ee)<|cv<|aq<|.int 0)
def pZ:cN:=c6 2 2 [0,1] vY
def Az:bj:=(a7 (bL 2<|bq 2 G.pZ<|ag (af 0)<|ag (af 1) am)<|a7 (bL 3<|ap d8 (V<|ap d8 (V<|ap md (V<|aq<|.int 10)<|V<|aq<|.int 60)<|V<|ap md (V<|aq<|.int 10)<|V<|aq<|.int 60)<|V<|ap md (V<|aq<|.int 10)<|V<|aq<|.int 60)<|a7 (bL 4<|ap fy (V<|ap d8 (V<|ap bH (V<|ap bH (V<|ap fy (af 2)<|V<|aq<|.int 2147483629)<|V<|ap d8 (V<|ap d8 (V<|aq<|.int 7919)<|af 1)<|af 1)<|V<|aq<|.int 11)<|V<|aq<|.int 48271)<|V<|aq<|.int 2147483647)<|cv<|dq<|ag (V<|ap d8 (V<|ap fy (af 2)<|af 3)<|V<|bn vInt<|ag (V<|ap BR (af 2)<|V<|ap md (V<|aq<|.int 10)<|V<|aq<|.int 18) am)<|ag (af 4)<|ag (V<|aq<|.int 0) am)
def qF:cN:=c6 2 5 [0,1] Az
def xZ:bj:=(a7 (dB (bg<|ap pC (V<|ap aY (af 0)<|V<|aq<|.int 0)<|V<|aq<|.int 0) (a7 (bL 2<|ap fy (V<|ap aY (af 0)<|V<|aq<|.int 0)<|af 1)<|a7 (eP (ap nF (V<|ap aY (af 0)<|V<|aq<|.int 0)<|af 1)<|iY 0 (aq<|.int 0) ly)<|cv<|dQ 2) ee)<|a7 (eP (ap bH (V<|ap aY (af 0)<|V<|aq<|.int 2)<|V<|aq<|.int 1)<|iY 0 (aq<|.int 2) ly)<|a7 (eP (ap fy (V<|ap bH (V<|ap bH (V<|ap d8 (V<|ap aY (af 0)<|V<|aq<|.int 1)<|V<|aq<|.int 48271)<|V<|aq<|.int 12345)<|V<|ap d8 (V<|aq<|.int 7919)<|V<|ap aY (af 0)<|V<|aq<|.int 2)<|V<|aq<|.int 2147483647)<|iY 0 (aq<|.int 1) ly)<|cv<|ap fy (V<|ap nF (V<|ap fy (V<|ap d8 (V<|ap aY (af 0)<|V<|aq<|.int 1)<|V<|ap aY (af 0)<|V<|aq<|.int 1)<|V<|aq<|.int 1999999973)<|V<|aq<|.int 31)<|af 1)
def eN:cN:=c6 2 3 [0,1] xZ
def sH:bj:=(a7 (eP (ap aY (af 2)<|V<|bq 2 G.eN<|ag (af 0)<|ag (V<|bn cZ<|ag (af 2) am) am)<|el 2<|cu (bb 4)<|cu (bb 5) ey)<|a7 (dB (bg<|ap dM (V<|bq 2 G.eN<|ag (af 0)<|ag (V<|aq<|.int 3) am)<|V<|aq<|.int 0) (eP (ap aY (af 2)<|V<|gM<|aq<|.int 1)<|el 2<|cu (bb 4)<|cu (bb 5) ey) ee)<|a7 (eP (ap aY (V<|dq<|ag (V<|bv<|ag (V<|aq<|.int 0)<|ag (V<|aq<|.int 2) am)<|ag (V<|bv<|ag (V<|aq<|.int 2)<|ag (V<|aq<|.int 0) am)<|ag (V<|bv<|ag (V<|aq<|.int 0)<|ag (V<|gM<|aq<|.int 2) am)<|ag (V<|bv<|ag (V<|gM<|aq<|.int 2)<|ag (V<|aq<|.int 0) am) am)<|V<|bq 2 G.eN<|ag (af 0)<|ag (V<|aq<|.int 4) am)<|el 2<|cu (bb 6)<|cu (bb 7) ey)<|a7 (bL 8<|bv<|ag (V<|ap bH (af 4)<|af 6)<|ag (V<|ap bH (af 5)<|af 7) am)<|dB (ei (bg<|ap iI (af 8)<|af 2)<|ei (bg<|ap j3 (V<|bn cZ<|ag (af 2) am)<|af 1)<|ei (bg<|gc ep ep (V<|aq<|.int 0) (V<|ap aY (af 8)<|V<|aq<|.int 0)<|V<|aq<|.int 29)<|bg<|gc ep ep (V<|aq<|.int 0) (V<|ap aY (af 8)<|V<|aq<|.int 1)<|V<|aq<|.int 29) (ic<|fS hH 2 hm<|ag (af 8) am) ee)
def Bj:bj:=(a7 (bL 1<|ap bH (V<|aq<|.int 1)<|V<|bq 2 G.eN<|ag (af 0)<|ag (V<|ap aY (V<|dq<|ag (V<|aq<|.int 3)<|ag (V<|aq<|.int 8)<|ag (V<|aq<|.int 14)<|ag (V<|aq<|.int 40) am)<|V<|bq 2 G.eN<|ag (af 0)<|ag (V<|aq<|.int 4) am) am)<|a7 (bL 2<|dq<|ag (V<|bv<|ag (V<|bq 2 G.eN<|ag (af 0)<|ag (V<|aq<|.int 30) am)<|ag (V<|bq 2 G.eN<|ag (af 0)<|ag (V<|aq<|.int 30) am) am) am)<|a7 (gI (lB<|ag (V<|ap d8 (V<|aq<|.int 3)<|af 1) am) (bb 3) G.sH)<|cv<|bn fu<|ag (af 2) am)
def qZ:cN:=c6 1 9 [0] Bj
def GE:bj:=(a7 (eP (dQ 0)<|el 2<|cu (bb 1)<|cu (bb 2) ey)<|cv<|dq<|ag (V<|bv<|ag (af 1)<|ag (af 2) am)<|ag (V<|bv<|ag (af 1)<|ag (V<|ap bH (af 2)<|V<|aq<|.int 1) am)<|ag (V<|bv<|ag (V<|ap bH (af 1)<|V<|aq<|.int 1)<|ag (V<|ap bH (af 2)<|V<|aq<|.int 1) am)<|ag (V<|bv<|ag (V<|ap bH (af 1)<|V<|aq<|.int 1)<|ag (af 2) am) am)
def rY:cN:=c6 1 3 [0] GE
def t1:bj:=(ic<|fS hH 1 lX<|ag (V<|bq 1 G.rY<|ag (af 2) am) am)
def D2:bj:=(a7 (bL 1<|dq am)<|a7 (gI (cA<|af 0) (bb 2) G.t1)<|cv<|bn i5<|ag (V<|bn fu<|ag (af 1) am) am)
def pf:cN:=c6 1 3 [0] D2
def CE:av aj:=(bv<|ag (V<|bv<|ag (af 2)<|ag (af 3) am)<|ag (af 0) am)
def CL:av Bool:=(bg<|ap jL (af 0)<|af 1)
def rf:bj:=(ic<|fS hH 1 lX<|ag (V<|cJ 1 [0,2,3] (cA<|V<|dq<|ag (V<|bv<|ag (af 2)<|ag (V<|ap bH (af 3)<|V<|aq<|.int 2) am)<|ag (V<|bv<|ag (V<|ap bH (af 2)<|V<|aq<|.int 2)<|ag (af 3) am) am) (bb 0) G.CL G.CE) am)
def Hg:bj:=(a7 (bL 1<|dq am)<|a7 (yK 0 (el 2<|cu (bb 2)<|cu (bb 3) ey) G.rf)<|cv<|bn fu<|ag (af 1) am)
def l9:cN:=c6 1 4 [0] Hg
def zy:av aj:=(bv<|ag (af 0)<|ag (af 0) am)
def F0:av aj:=(bv<|ag (af 0)<|ag (V<|pV (bg<|ap dM (V<|ap aY (af 1)<|af 0)<|af 2) (dQ 3)<|ap aY (af 1)<|af 0) am)
def G2:av Bool:=(bg<|ap eZ (af 2)<|V<|dq am)
def sU:bj:=(a7 (eP (fS hH 2 ps<|ag (V<|bq 2 G.eN<|ag (af 0)<|ag (V<|bn cZ<|ag (af 2) am) am) am)<|el 2<|cu (bb 5)<|cu (bb 6) ey)<|dB (bg<|ap eZ (V<|ap aY (af 4)<|af 5)<|V<|ap aY (af 4)<|af 6) (a7 (ic<|fS hH 3 hm<|ag (V<|bv<|ag (af 5)<|ag (af 6) am) am)<|a7 (eP (bv<|ag (V<|ap aY (af 4)<|af 5)<|ag (V<|ap aY (af 4)<|af 6) am)<|el 2<|cu (bb 7)<|cu (bb 8) ey)<|bL 4<|bn nx<|ag (V<|cJ 1 [4,7,8] (cA<|af 1) (bb 0) d2 G.F0) am) ee)
def zI:bj:=(a7 (kq 2 3<|ag (V<|bq 1 G.l9<|ag (af 1) am)<|ag (V<|dq am) am)<|a7 (bL 4<|bn nx<|ag (V<|cJ 1 [] (cA<|af 1) (bb 0) d2 G.zy) am)<|a7 (jK G.G2 G.sU 1000000)<|cv<|bn i5<|ag (V<|bn fu<|ag (af 3) am) am)
def o7:cN:=c6 2 9 [0,1] zI
end G
namespace L2
open PySem PySem.Spec PyProof.Rows PySem.W
noncomputable def FX:aj->aj
 |.im (.aN e)=>.cO e
 |k=>k
@[simp] theorem Sj(e:List ab):FX (.im<|.aN e)=.cO e:=rfl
@[simp] theorem Sp(e:List ab):FX (.im<|.tup e)=.im (.tup e):=rfl
section
variable{f:aH}
end
end L2
namespace L2
open PySem
section
variable{w z M:aU}
variable{k:aj}
theorem c2{J:av aj}(d:J w=Z (k,z)):V J w=Z (.b8 k,z):=by unfold V;rw[d];rfl
variable{e:bl}
theorem dE{J:av bl}{d:av (List bl)}{x:List bl}(a:J w=Z (e,z))(b:d z=Z (x,M)):ag J d w=Z (e::x,M):=by unfold ag;rw[a];show (d z).map _=_;rw[b];rfl
variable{TD TA:aj}
theorem fm{Tx:aj->aj->Option aj}{TT TI:av bl}{t:bl}(a:TT w=Z (e,z))(b:TI z=Z (t,M))(c:cV M e=Z TD)(d:cV M t=Z TA)(f:Tx TD TA=Z k):ap Tx TT TI w=Z (k,M):=by
 unfold ap;rw[a];show (TI z).bind _=_;rw[b];show (cV M e).bind _=_;rw[c];show (cV M t).bind _=_;rw[d];show (Tx TD TA).map _=_;rw[f];rfl
variable{J:av (List bl)}{v:Nat}{S3:List bl}{E Ua:List aj}
theorem iF{SV:cN}{r:aj}(a:J w=Z (S3,z))(b:S3.length=v)(c:dZ S3 z=Z (E,M))(d:SV E=Z (r,Ua)):bq v SV J w=Z (r,il S3 Ua M):=by
 unfold bq;rw[a];show (if S3.length=v then _ else _)=_;rw[aB b];show (dZ S3 z).bind _=_;rw[c];show (SV E).map _=_;rw[d];rfl
theorem kN{Tx:List aj->Option aj}(a:J w=Z (S3,z))(b:fX z S3=Z E)(c:Tx E=Z k):bn Tx J w=Z (k,z):=by
 unfold bn;rw[a];show (fX z S3).bind _=_;rw[b];show (Tx E).map _=_;rw[c];rfl
variable{c:Bool}
theorem ti{J:av aj}(a:J w=Z (.im<|.ax c,z)):bg J w=Z (c,z):=by unfold bg;rw[a];rfl
theorem xX{J:av Bool}(a:J w=Z (c,z)):fD J w=Z (!c,z):=by unfold fD;rw[a];rfl
theorem Gg{J:av bl}(a:J w=Z (e,z))(b:cV z e=Z k)(d:oy k=Z c):fv J w=Z (c,z):=by
 unfold fv;rw[a];show (cV z e).bind _=_;rw[b];show (oy k).map _=_;rw[d];rfl
theorem hI{J:av aj}{d:eX}(a:J w=Z (k,z))(b:d k z=Z M):eP J d w=Z (.aZ,M):=by unfold eP;rw[a];show (d k z).map _=_;rw[b];rfl
theorem lF{J:av aj}(a:J w=Z (k,z)):ic J w=Z (.aZ,z):=by unfold ic;rw[a];rfl
variable{U:aU}
theorem jv{ty:aj->Bool}{b:Nat}{mt:aj->List aj->Option (aj×aj)}{a q r c:aj}(d:w[b]?=Z (Z a))(e:ty a=aa)(f:J w=Z (S3,z))(g:dZ S3 z=Z (E,M))(h:M[b]?=Z (Z q))(i:mt q E=Z (r,c))(o:M.set b (Z c)=U):fS ty b mt J w=Z (r,U):=by
 subst o;unfold fS;rw[d];show (if ty a=aa then _ else _)=_;rw[aB e,f];show (dZ S3 z).bind _=_;rw[g];show (match M[b]? with|some (Z q)=>_|_=>X)=_;rw[h];show (mt q E).map _=_;rw[i];rfl
theorem yo(a:J w=Z (S3,z))(b:dZ S3 z=Z (E,M))(c:E.length<=100000)(o:qz E=k):bv J w=Z (k,M):=by
 unfold bv;rw[a];show (dZ S3 z).bind _=_;rw[b];show (if _ then _ else _)=_;rw[aB c,o]
theorem uz(a:J w=Z (S3,z))(b:dZ S3 z=Z (E,M))(c:E.length<=100000)(o:om E=k):dq J w=Z (k,M):=by
 unfold dq;rw[a];show (dZ S3 z).bind _=_;rw[b];show (if _ then _ else _)=_;rw[aB c,o]
variable{b:Int}
theorem Jr{J:av aj}(a:J w=Z (.im<|.int b,z)):gM J w=Z (.im<|.int<|-b,z):=by unfold gM;rw[a];rfl
theorem oK{e:List ab}{k:ab}(d:e.length<100000):hm (.lst e) [.im k]=Z (.im .aR,.lst<|e++[k]):=aB d
theorem mK(b u:Int):dM (.im<|.int b) (.im<|.int u)=Z (.im<|.ax<|decide (b=u)):=by
 show Z (aj.im<|.ax<|b==u)=_;by_cases d:b=u<;>simp[d]
theorem Ci(b u:Int):eZ (.im<|.int b) (.im<|.int u)=Z (.im<|.ax<|!decide (b=u)):=by
 show Z (aj.im<|.ax<|!(b==u))=_;by_cases d:b=u<;>simp[d]
variable{u:Int}
theorem iK(d:gO b u=aa):d8 (.im<|.int b) (.im<|.int u)=Z (.im<|.int<|b*u):=aB d
theorem lr(d:0<u):fy (.im<|.int b) (.im<|.int u)=Z (.im<|.int<|b%u):=aB (cU d)
theorem z3(d:0<u)(C:u<1073741824):nF (.im<|.int b) (.im<|.int u)=Z (.im<|.int<|b/u):=aB (cU (⟨d,C⟩:0<u/\u<1073741824))
theorem GS(d:decide (0<=u/\u<=1000000/\b.natAbs<2^64)=aa):md (.im<|.int b) (.im<|.int u)=Z (.im<|.int<|b^u.toNat):=aB d
variable{r:Option (mG×aU)}{c:bj}{q:av Bool}
theorem it{g:bj}(a:q w=Z (aa,z))(d:g z=r):dB q g c w=r:=(rD a).trans d
theorem gX{g:bj}(a:q w=Z (al,z))(d:c z=r):dB q g c w=r:=(q4 a).trans d
theorem cg{J d:bj}(a:J w=Z (.aZ,z))(o:d z=r):a7 J d w=r:=(eI a).trans o
variable{b:Nat}
theorem i2{J:av aj}(a:J w=Z (k,z))(d:b<z.length)(o:z.set b (Z k)=M):bL b J w=Z (.aZ,M):=(us a d).trans (by rw[o])
variable{x:List ab}{To:eX}{m:Option (Nat×aj)}
theorem jw{J:h6}{aN:mG}(a:J w=Z ((x,m),z))(d:dW To c x z=Z (aN,M))(o:k0 m M=U):gI J To c w=Z (aN,U):=(Fm a d).trans (by rw[o])
theorem jS{own:Nat}{Tl:List Nat}{D:h6}{a:av aj}{b:aU}{E:List ab}(l:D w=Z ((x,m),z))(C:hj own To q a x [] (kj Tl z)=Z (E,b))(o:k0 m (iD Tl b z)=U):cJ own Tl D To q a w=Z (.lst E,U):=(qX l C).trans (by rw[o])
variable{c g:av Bool}
theorem r0(a:g w=Z (aa,z)):ga g c w=Z (aa,z):=by unfold ga;rw[a];rfl
variable{r:Option (Bool×aU)}
theorem hb(a:g w=Z (al,z))(d:c z=r):ga g c w=r:=by unfold ga;rw[a];exact d
theorem kQ(a:g w=Z (aa,z))(d:c z=r):ei g c w=r:=by unfold ei;rw[a];exact d
theorem oI(a:g w=Z (al,z)):ei g c w=Z (al,z):=by unfold ei;rw[a];rfl
variable{r:Option (aj×aU)}{c g:av aj}
theorem NF(a:q w=Z (aa,z))(d:g z=r):pV q g c w=r:=by unfold pV;rw[a];exact d
theorem N5(a:q w=Z (al,z))(d:c z=r):pV q g c w=r:=by unfold pV;rw[a];exact d
theorem vM{u:Nat}(a:J w=Z (S3,z))(c:dZ S3 z=Z ([TD,TA],M))(SJ:b<M.length)(d:u<M.length)(o:(M.set b<|Z TD).set u (Z TA)=U):kq b u J w=Z (.aZ,U):=by
 unfold kq;rw[a];show (dZ S3 z).bind _=_;rw[c];show (if b<M.length/\u<M.length then _ else _)=_;rw[aB ⟨SJ,d⟩,o]
theorem r7{J:av Bool}{c:Bool}(a:J w=Z (c,z)):gS J w=Z (.im<|.ax c,z):=by unfold gS;rw[a];rfl
variable{r:aj}
theorem cC{SV:cN}(a:J w=Z (S3,z))(b:S3.length=v)(c:dZ S3 z=Z (E,M))(d:SV E=Z (r,Ua))(o:il S3 Ua M=U):bq v SV J w=Z (r,U):=by rw[<-o];exact iF a b c d
theorem h7{J:av Bool}(a:J w=Z (aa,z)):fD J w=Z (al,z):=xX a
theorem oR{J:av Bool}(a:J w=Z (al,z)):fD J w=Z (aa,z):=xX a
theorem Bz{e t:List ab}(a:J w=Z (S3,z))(b:fX z S3=Z [.im (.tup e),.im<|.tup t]):ny J w=Z ((h2 e t,X),z):=by
 unfold ny;rw[a];show (fX z S3).bind _=_;rw[b];rfl
theorem RJ{J:av bl}{H d:av (Option Int)}{S SJ:Option Int}{TV:aj}(a:J w=Z (e,z))(b:H z=Z (S,M))(c:d M=Z (SJ,U))(f:cV U e=Z k)(g:jO k S SJ=Z TV):eQ J H d w=Z (TV,U):=by
 unfold eQ;rw[a];show (H z).bind _=_;rw[b];show (d M).bind _=_;rw[c];show (cV U e).bind _=_;rw[f];show (jO k S SJ).map _=_;rw[g];rfl
theorem xk(a:J w=Z (S3,z))(b:fX z S3=Z [.im (.int u)])(d:ru u):lB J w=Z ((hq 0 u.toNat,X),z):=by
 unfold lB;rw[a];show (fX z S3).bind _=_;rw[b];show (if ru u then _ else _)=_;rw[aB d]
theorem ej{i:Nat}{S8:List Nat}{J:bj}(b:E.length=v)(a:J (E.map Z++List.replicate (i-v) X)=Z (.dO r,w))(c:h8 S8 E w 0=Ua):c6 v i S8 J E=Z (r,Ua):=jV w b a c
end
end L2
namespace G
open PySem L2
abbrev aD:=Int×Int
variable{F:List aD}{q c:aD}
noncomputable def cl(c:aD):Nat->aD
 |0=>c
 |1=>(c.1,c.2+1)
 |2=>(c.1+1,c.2+1)
 |_=>(c.1+1,c.2)
noncomputable def u8(c:aD):Nat->aD
 |0=>(c.1-2,c.2)
 |1=>(c.1,c.2+2)
 |2=>(c.1+2,c.2)
 |_=>(c.1,c.2-2)
noncomputable def ek(c:aD):List aD:=[c,(c.1,c.2+1),(c.1+1,c.2+1),(c.1+1,c.2)]
noncomputable def DG(L:List a4)(g c:aD):Bool:=decide ((g,c)∈L\/(c,g)∈L)
def aZ(L:List a4)(n:aD×Nat):aD×Nat:=if DG L n.1 (u8 n.1 n.2)=aa then (u8 n.1 n.2,(n.2+3)%4) else (n.1,(n.2+1)%4)
def eH(L:List a4)(n:aD×Nat):aD×Nat:=if DG L n.1 (u8 n.1<|(n.2+3)%4)=aa then (u8 n.1<|(n.2+3)%4,(n.2+1)%4) else (n.1,(n.2+3)%4)
structure f4(F:List aD):Prop where
 ne:F≠[]
 ah:F.Nodup
 len:F.length<=40
 jN:∀c∈F,0<=c.1/\c.1<=29/\0<=c.2/\c.2<=29
 par:∀g∈F,∀c∈F,(g.1-c.1)%2=0/\(g.2-c.2)%2=0
 con:∀n:aD->aD,(∀g∈F,∀c∈F,(c=(g.1,g.2+2)\/c=(g.1+2,g.2))->n g=n c)->∀g∈F,∀c∈F,n g=n c
theorem qc:q∈ek c↔(q.1=c.1\/q.1=c.1+1)/\(q.2=c.2\/q.2=c.2+1):=by
 obtain⟨e,t⟩:=q;obtain⟨I,s⟩:=c;simp only[ek,bI,fZ,hk,Ao];constructor
 ·lia
 ·lia
theorem AB(c:aD){o:Nat}(a:o<4):cl c o∈ek c:=by
 match o,a with
 |0,_=>simp[cl,ek]
 |1,_=>simp[cl,ek]
 |2,_=>simp[cl,ek]
 |3,_=>simp[cl,ek]
theorem IN(d:q∈ek c):∃o,o<4/\q=cl c o:=by
 simp only[ek,bI,fZ,hk]at d;rcases d with d|d|d|d
 ·exact⟨0,by decide,d⟩
 ·exact⟨1,by decide,d⟩
 ·exact⟨2,by decide,d⟩
 ·exact⟨3,by decide,d⟩
theorem f4.one(Tf:f4 F){g c q:aD}(a:g∈F)(b:c∈F)(l:q∈ek g)(C:q∈ek c):g=c:=by
 have n:=Tf.par g a c b;rw[qc]at l C;exact i_ (by lia) (by lia)
noncomputable def ax(m q:aD):aD:=(q.1-(q.1-m.1)%2,q.2-(q.2-m.2)%2)
noncomputable def es(m q:aD):Nat:=if (q.1-m.1)%2=0 then (if (q.2-m.2)%2=0 then 0 else 1) else (if (q.2-m.2)%2=0 then 3 else 2)
def gZ(F:List aD)(a:a4):Prop:=a.1∈F/\a.2∈F/\(a.2=(a.1.1,a.1.2+2)\/a.2=(a.1.1+2,a.1.2))
theorem AG{Ta:Type}[DecidableEq Ta]:∀{H i:List Ta},H.Nodup->(∀e∈H,e∈i)->i.length<=H.length->H.Perm i
 |[],i,_,_,d=>by rw[List.length_eq_zero_iff.mp (Nat.le_zero.mp d)]
 |e::H,i,ah,j,d=>by
  have c:=j e (.head _);obtain⟨f,TZ⟩:=hL.mp ah;have n:=List.perm_cons_erase c;refine .trans (.cons e (AG TZ (λt b=>(x_ (λa=>f (by rw[<-a];exact b))).mpr<|j t<|.tail _ b) ?_)) n.symm;have:=n.length_eq;simp at this d;lia
def cells(F:List aD):List aD:=F.flatMap ek
theorem ED:q∈cells F↔∃c∈F,∃o,o<4/\q=cl c o:=by
 unfold cells;rw[k3];constructor
 ·rintro⟨c,a,d⟩;exact⟨c,a,IN d⟩
 ·rintro⟨c,a,o,b,rfl⟩;exact⟨c,a,AB c b⟩
theorem Im(c:aD):(ek c).Nodup:=by
 obtain⟨e,t⟩:=c;simp[ek,hL];lia
theorem zB{Ta z:Type}{P:Ta->List z}:∀{H:List Ta},H.Nodup->(∀g∈H,(P g).Nodup)->(∀g∈H,∀c∈H,∀e,e∈P g->e∈P c->g=c)->(H.flatMap P).Nodup
 |[],_,_,_=>by simp
 |g::H,ah,l,C=>by
  obtain⟨f,TZ⟩:=hL.mp ah;rw[rL,cF];refine⟨l g<|.head _,zB TZ (λc b=>l c<|.tail _ b)<|λc b q h=>C c (.tail _ b) q<|.tail _ h,λe i t d a=>?_⟩;obtain⟨c,b,d⟩:=k3.mp d;subst a;have:=C g (.head _) c (.tail _ b) e i d;subst this;exact f b
theorem f4.JQ(Tf:f4 F):(cells F).Nodup:=zB Tf.ah (λc Y=>Im c) λg a c b e l C=>Tf.one a b l C
theorem qQ:∀F:List aD,(cells F).length=4*F.length
 |[]=>rfl
 |c::F=>by
  have:=qQ F;unfold cells at *;rw[rL,cb,this];simp[ek];lia
theorem rK{Ta z:Type}{P:Ta->z}{H:List Ta}(ah:H.Nodup)(d:∀g∈H,∀c∈H,P g=P c->g=c):(H.map P).Nodup:=by
 unfold List.Nodup;rw[n5];exact LV (λb e v a=>v<|d _ b _ e a) ah
end G
namespace L2
open PySem
section
variable{w z:aU}
variable{k:aj}
theorem aE{J:av aj}(d:J w=Z (k,w)):V J w=Z (.b8 k,w):=c2 d
variable{e:bl}
theorem a1{J:av bl}{d:av (List bl)}{x:List bl}(a:J w=Z (e,w))(b:d w=Z (x,w)):ag J d w=Z (e::x,w):=dE a b
theorem aQ{Tx:aj->aj->Option aj}{TT TI:av bl}{t:bl}{TD TA:aj}(a:TT w=Z (e,w))(b:TI w=Z (t,w))(c:cV w e=Z TD)(d:cV w t=Z TA)(f:Tx TD TA=Z k):ap Tx TT TI w=Z (k,w):=fm a b c d f
variable{J:av (List bl)}{S3:List bl}{E:List aj}
theorem dv{Tx:List aj->Option aj}(a:J w=Z (S3,w))(b:fX w S3=Z E)(c:Tx E=Z k):bn Tx J w=Z (k,w):=kN a b c
variable{c:Bool}
theorem dg{J:av aj}(a:J w=Z (.im<|.ax c,w)):bg J w=Z (c,w):=ti a
theorem e8{J:av bl}(a:J w=Z (e,w))(b:cV w e=Z k)(d:oy k=Z c):fv J w=Z (c,w):=Gg a b d
theorem hV(a:J w=Z (S3,w))(b:dZ S3 w=Z (E,w))(c:E.length<=100000)(o:qz E=k):bv J w=Z (k,w):=yo a b c o
theorem ox(a:J w=Z (S3,w))(b:dZ S3 w=Z (E,w))(c:E.length<=100000)(o:om E=k):dq J w=Z (k,w):=uz a b c o
theorem g4{J:av bl}{H d:av (Option Int)}{S SJ:Option Int}{TV:aj}(a:J w=Z (e,w))(b:H w=Z (S,w))(c:d w=Z (SJ,w))(f:cV w e=Z k)(g:jO k S SJ=Z TV):eQ J H d w=Z (TV,w):=RJ a b c f g
theorem fh{b:Nat}{J:av aj}(a:J w=Z (k,w))(d:b<w.length)(o:w.set b (Z k)=z):bL b J w=Z (.aZ,z):=i2 a d o
end
end L2
namespace G
open PySem L2
variable{k q c m:aD}{p n:aD->aD}{TJ Tn SY:List a4}{j:(aD->aD)×List a4}{J:av aj}{z w:aU}{b v:Nat}{TS A TL TC:Option aj}{F:List aD}{o i:Int}{S:List Int}{d:aj}
theorem ih(e:eF (v+1) d)(a:0<i)(f:i<1073741824):∃s U,eN [d,aF i]=Z (aF s,[U,aF i])/\0<=s/\s<i/\eF v U:=by
 obtain⟨k,j,B,rfl,l,C,g,h,x⟩:=e;have y:¬ i=0:=by lia
 by_cases hd:0<k
 ·refine⟨k%i,gK (k/i) j B,?_,py _ (by lia),p0 _ a,k/i,j,B,rfl,Int.ediv_nonneg l (by lia),C,g,h,by lia⟩;unfold eN xZ;have t:pC (aF k) (aF 0)=Z (.im<|.ax aa):=congrArg (λc=>Z<|aj.im<|.ax c) (cU hd);refine jV [Z (gK (k/i) j B),Z<|aF i,Z<|aF<|k%i] rfl (kA ((rD<|dg<|aQ (aE<|aQ (k:=aF k) rfl rfl rfl rfl rfl) rfl rfl rfl t).trans ((eI ((us (aQ (aE<|aQ (k:=aF k) rfl rfl rfl rfl rfl) rfl rfl rfl<|lr a) (show 2<3 by decide)).trans rfl)).trans<|(eI<|hI (M:=[Z (gK (k/i) j B),Z<|aF i,Z<|aF<|k%i]) (aQ (aE<|aQ (k:=aF k) rfl rfl rfl rfl rfl) rfl rfl rfl<|z3 a f) rfl).trans rfl))) rfl
 ·obtain⟨SN,b⟩:∃SN:Int,SN=(j*48271+12345+7919*(B+1))%2147483647:=⟨_,rfl⟩;have m:0<=SN:=by rw[b];exact py _ (by decide)
  have z:SN<2147483647:=by
   rw[b];exact p0 _ (by decide)
  have n:gO j 48271=aa:=nj (by decide) (by decide);have o:gO 7919 (B+1)=aa:=wl (by decide) (by decide);have p:gO SN SN=aa:=nj (by lia) (by lia);refine⟨SN*SN%1999999973/31%i,gK k SN<|B+1,?_,py _ (by lia),p0 _ a,k,SN,B+1,rfl,l,m,by lia,by lia,by lia⟩;unfold eN xZ;have t:pC (aF k) (aF 0)=Z (.im<|.ax al):=congrArg (λc=>Z<|aj.im<|.ax c) (dA hd);have q:ap d8 (V<|ap aY (af 0)<|V<|aq<|.int 1) (V<|aq<|.int 48271) [Z (gK k j<|B+1),Z<|aF i,X]=Z (aF<|j*48271,[Z (gK k j<|B+1),Z<|aF i,X]):=aQ (aE<|aQ (k:=aF j) rfl rfl rfl rfl rfl) rfl rfl rfl (iK n);have r:ap d8 (V<|aq<|.int 7919) (V<|ap aY (af 0)<|V<|aq<|.int 2) [Z (gK k j<|B+1),Z<|aF i,X]=Z (aF<|7919*(B+1),[Z (gK k j<|B+1),Z<|aF i,X]):=aQ rfl (aE<|aQ (k:=aF (B+1)) rfl rfl rfl rfl rfl) rfl rfl (iK o);have u:ap fy (V<|ap bH (V<|ap bH (V<|ap d8 (V<|ap aY (af 0)<|V<|aq<|.int 1)<|V<|aq<|.int 48271)<|V<|aq<|.int 12345)<|V<|ap d8 (V<|aq<|.int 7919)<|V<|ap aY (af 0)<|V<|aq<|.int 2) (V<|aq<|.int 2147483647) [Z (gK k j<|B+1),Z<|aF i,X]=Z (aF SN,[Z (gK k j<|B+1),Z<|aF i,X]):=by
   rw[b];exact aQ (aE<|aQ (aE<|aQ (aE q) rfl rfl rfl rfl) (aE r) rfl rfl rfl) rfl rfl rfl (lr (by decide))
  have w:ap d8 (V<|ap aY (af 0)<|V<|aq<|.int 1) (V<|ap aY (af 0)<|V<|aq<|.int 1) [Z (gK k SN<|B+1),Z<|aF i,X]=Z (aF<|SN*SN,[Z (gK k SN<|B+1),Z<|aF i,X]):=aQ (aE<|aQ (k:=aF SN) rfl rfl rfl rfl rfl) (aE<|aQ (k:=aF SN) rfl rfl rfl rfl rfl) rfl rfl (iK p);exact jV [Z (gK k SN<|B+1),Z<|aF i,X] rfl ((eI<|(q4<|dg<|aQ (aE<|aQ (k:=aF k) rfl rfl rfl rfl rfl) rfl rfl rfl t).trans rfl).trans ((eI<|hI (M:=[Z (gK k j<|B+1),Z<|aF i,X]) (aQ (k:=aF (B+1)) (aE<|aQ (k:=aF B) rfl rfl rfl rfl rfl) rfl rfl rfl rfl) rfl).trans ((eI<|hI (M:=[Z (gK k SN<|B+1),Z<|aF i,X]) u rfl).trans (d5 (aQ (aE (aQ (aE (aQ (aE w) rfl rfl rfl (lr (by decide)))) rfl rfl rfl (z3 (by decide) (by decide)))) rfl rfl rfl<|lr a))))) rfl
theorem On(b:0<=o):∃q,pZ [.cO (S.map .int),aF o]=Z (aF q,[.cO (S.map .int),aF o]):=by
 by_cases a:o<(S.length:Int)
 ·obtain⟨q,d⟩:∃q,S[o.toNat]?=Z q:=⟨S[o.toNat]'(by lia),by simp⟩;have e:d9 (S.map ab.int) o=Z (.int q):=pL b (by rw[d3,d];rfl);have lt:j3 (aF o) (aF ((S.map ab.int).length:Int))=Z (.im<|.ax aa):=congrArg (λc=>Z<|aj.im<|.ax c) (cU (by rw[a5];exact a));have f:aY (.cO<|S.map .int) (aF o)=Z (aF q):=congrArg (Option.map aj.im) e;unfold pZ vY;exact⟨q,jV [Z (.cO<|S.map .int),Z<|aF o] rfl (kA<|(rD<|dg<|aQ rfl (aE<|dv rfl rfl rfl) rfl rfl lt).trans<|d5<|aQ rfl rfl rfl rfl f) rfl⟩
 ·have lt:j3 (aF o) (aF ((S.map ab.int).length:Int))=Z (.im<|.ax al):=congrArg (λc=>Z<|aj.im<|.ax c) (dA (by rw[a5];exact a));unfold pZ vY;exact⟨0,jV [Z (.cO<|S.map .int),Z<|aF o] rfl ((eI<|(q4<|dg<|aQ rfl (aE<|dv rfl rfl rfl) rfl rfl lt).trans rfl).trans rfl) rfl⟩
theorem Ny(f:0<=o)(s:o<1000):∃d,qF [.cO (S.map .int),aF o]=Z (d,[.cO (S.map .int),aF o])/\eF 1000000 d:=by
 obtain⟨q,g⟩:=On (S:=S) f;have h:gO 7919 o=aa:=wl (by decide) (by decide);have i:gO (7919*o) o=aa:=nj (by lia) (by lia);have k:gO (q%2147483629+7919*o*o+11) 48271=aa:=nj (by decide) (by decide);obtain⟨j,SX⟩:∃j:Int,j=(q%2147483629+7919*o*o+11)*48271%2147483647:=⟨_,rfl⟩;have T5:0<=j:=by rw[SX];exact py _ (by decide)
 have t:j<2147483647:=by rw[SX];exact p0 _ (by decide)
 have m:gO (10^60) (10^60)=aa:=by decide +kernel
 have Tv:gO (10^60*10^60) (10^60)=aa:=by decide +kernel
 have n:∀(e:Int) (c:Bool),gO e (if c then 1 else 0)=aa:=λe c=>nj (by cases c<;>decide) (by cases c<;>decide);have p:(0:Int)<10^60*10^60*10^60:=by decide
 have a:md (aF 10) (aF 60)=Z (aF<|10^(60:Int).toNat):=GS (by decide);have b:md (aF 10) (aF 18)=Z (aF<|10^(18:Int).toNat):=GS (by decide);rw[show (60:Int).toNat=60 from rfl]at a;rw[show (18:Int).toNat=18 from rfl]at b;have M:eF 1000000 (gK (q%(10^60*10^60*10^60)*(if decide ((10:Int)^18<=q) then 1 else 0)) j 0):=by
  have l:=py q (show (10^60*10^60*10^60:Int)≠0 by decide);refine⟨_,_,_,rfl,?_,T5,by lia,lb 0,by decide⟩;split
  ·rw[Ch];exact l
  ·rw[Int.mul_zero];exact lb 0
 refine⟨_,?_,M⟩;generalize (10:Int)^60=SS at *;generalize (10:Int)^18=SQ at *;unfold qF Az;have r:bL 4 (ap fy (V<|ap d8 (V<|ap bH (V<|ap bH (V<|ap fy (af 2)<|V<|aq<|.int 2147483629)<|V<|ap d8 (V<|ap d8 (V<|aq<|.int 7919)<|af 1)<|af 1)<|V<|aq<|.int 11)<|V<|aq<|.int 48271)<|V<|aq<|.int 2147483647) [Z (.cO<|S.map .int),Z<|aF o,Z<|aF q,Z<|aF<|SS*SS*SS,X]=Z (.aZ,[Z (.cO<|S.map .int),Z<|aF o,Z<|aF q,Z<|aF<|SS*SS*SS,Z<|aF j]):=by
  rw[SX];exact fh (aQ (aE (aQ (aE (aQ (aE (aQ (aE (aQ rfl rfl rfl rfl (lr (by decide)))) (aE<|aQ (aE<|aQ rfl rfl rfl rfl<|iK h) rfl rfl rfl<|iK i) rfl rfl rfl)) rfl rfl rfl rfl)) rfl rfl rfl<|iK k)) rfl rfl rfl (lr (by decide))) (show 4<5 by decide) rfl
 exact ej rfl (cg (i2 (iF rfl rfl rfl g) (show 2<5 by decide) rfl) (cg (i2 (fm (c2<|fm (c2<|fm rfl rfl rfl rfl a) (c2<|fm rfl rfl rfl rfl a) rfl rfl<|iK m) (c2<|fm rfl rfl rfl rfl a) rfl rfl<|iK Tv) (show 3<5 by decide) rfl)<|cg r<|d5<|uz (dE (c2<|fm (c2<|fm rfl rfl rfl rfl<|lr p) (c2<|kN (dE (c2<|fm rfl (c2<|fm rfl rfl rfl rfl b) rfl rfl rfl) rfl) rfl rfl) rfl rfl<|iK<|n _ _) rfl) rfl (dN rfl) rfl)) rfl
structure m8(i:Int)(F:List aD):Prop where
 ne:F≠[]
 ah:F.Nodup
 len:(F.length:Int)<=i
 jN:∀c∈F,0<=c.1/\c.1<=29/\0<=c.2/\c.2<=29
 par:∀g∈F,∀c∈F,(g.1-c.1)%2=0/\(g.2-c.2)%2=0
 con:∀n:aD->aD,(∀g∈F,∀c∈F,(c=(g.1,g.2+2)\/c=(g.1+2,g.2))->n g=n c)->∀g∈F,∀c∈F,n g=n c
noncomputable def rO:List aD:=[(0,2),(2,0),(0,-2),(-2,0)]
theorem m8.add{i:Int}{F:List aD}(J:m8 i F){q k:aD}(p:q∈F)(hd:k∈rO)(s:(q.1+k.1,q.2+k.2)∉F)(y:(F.length:Int)<i)(u:0<=q.1+k.1/\q.1+k.1<=29/\0<=q.2+k.2/\q.2+k.2<=29):m8 i (F++[(q.1+k.1,q.2+k.2)]):=by
 have TA:k.1%2=0/\k.2%2=0:=by
  simp only[rO,bI,fZ,hk]at hd;rcases hd with d|d|d|d<;>subst d<;>exact⟨by decide,by decide⟩
 refine⟨by simp,cF.mpr ⟨J.ah,er _ _,λe f t v a=>s (by rw[bW.mp v]at a;rw[<-a];exact f)⟩,by simp;lia,λc b=>?_,λg h c b=>?_,λn j g h c b=>?_⟩
 ·rcases cx.mp b with d|d
  ·exact J.jN c d
  ·rw[bW.mp d];exact u
 ·have M:∀e∈F,(e.1-(q.1+k.1))%2=0/\(e.2-(q.2+k.2))%2=0:=λe f=>by
   have:=J.par e f q p;exact⟨by lia,by lia⟩
  rcases cx.mp h with l|l<;>rcases cx.mp b with C|C
  ·exact J.par g l c C
  ·rw[bW.mp C];exact M g l
  ·rw[bW.mp l];have:=M c C;exact⟨by show ((q.1+k.1)-c.1)%2=0;lia,by show ((q.2+k.2)-c.2)%2=0;lia⟩
  ·rw[bW.mp l,bW.mp C];exact⟨by simp,by simp⟩
 ·have w:=J.con n λg h c b=>j g (dI _ h) c (dI _ b);have m:q∈F++[(q.1+k.1,q.2+k.2)]:=dI _ p;have o:(q.1+k.1,q.2+k.2)∈F++[(q.1+k.1,q.2+k.2)]:=dH _ (.head _);have x:n q=n (q.1+k.1,q.2+k.2):=by
   simp only[rO,bI,fZ,hk]at hd;rcases hd with d|d|d|d
   ·subst d;exact j _ m _ o (.inl (i_ (by simp) (by simp)))
   ·subst d;exact j _ m _ o (.inr (i_ (by simp) (by simp)))
   ·subst d;exact (j _ o _ m (.inl (i_ (by simp) (by simp;lia)))).symm
   ·subst d;exact (j _ o _ m (.inr (i_ (by simp;lia) (by simp)))).symm
  have r:∀e∈F++[(q.1+k.1,q.2+k.2)],n e=n q:=λe f=>by
   rcases cx.mp f with d|d
   ·exact w e d q p
   ·rw[bW.mp d];exact x.symm
  rw[r g h,r c b]
theorem Nd(d:F.length<100000):hm (aP F) [.im (ar m)]=Z (.im .aR,aP<|F++[m]):=by
 have:hm (aP F) [.im (ar m)]=Z (.im .aR,.lst<|F.map ar++[ar m]):=oK (by rw[a5];exact d);rw[this];simp
theorem mi(F:List aD):cZ [aP F]=Z (aF (F.length:Int)):=by
 show Z (aF ((F.map ar).length:Int))=_;rw[a5]
theorem xR(F:List aD):cZ [aX F]=Z (aF (F.length:Int)):=by
 show Z (aF ((F.map ar).length:Int))=_;rw[a5]
theorem GL{TT TI TX:av bl}{e t a:bl}{g c q:Int}(d:TT w=Z (e,w))(f:TI w=Z (t,w))(h:cV w e=Z (aF g))(b:cV w t=Z (aF c))(i:TX w=Z (a,w))(j:cV w a=Z (aF q):=by rfl):bg (gc ep ep TT TI TX) w=Z (decide (g<=c)&&decide (c<=q),w):=by
 unfold bg gc;rw[d];show ((TI w).bind _).bind _=_;rw[f];show ((cV w e).bind _).bind _=_;rw[h];show ((cV w t).bind _).bind _=_;rw[b];show ((if decide (g<=c)=aa then _ else _):Option (aj×aU)).bind _=_;cases decide (g<=c) with
 |false=>rfl
 |true=>
  rw[aB rfl];show ((TX w).bind _).bind _=_;rw[i];show ((cV w t).bind _).bind _=_;rw[b];show ((cV w a).bind _).bind _=_;rw[j];rfl
noncomputable abbrev h_(d:aj)(i:Int)(F:List aD)(o TK TC TL A TS:Option aj):aU:=[Z d,Z<|aF i,Z<|aP F,o,TK,TC,TL,A,TS]
theorem Fr{o TK:Option aj}(h:eF (v+3) d)(J:m8 i F)(s2:i<=40):
  ∃U y R S T be bs,sH (h_ d i F o TK TC TL A TS)=Z (.aZ,h_ U i y o R S T be bs)/\eF v U/\m8 i y:=by
 have ty:=nC.mpr J.ne;have un:=J.len;obtain⟨z,l,cl,co,TP,SU⟩:=ih (v:=v+2) (i:=(F.length:Int)) h (by lia) (by lia);obtain⟨f,B⟩:∃q,F[z.toNat]?=Z q:=⟨F[z.toNat]'(by lia),by simp⟩;obtain⟨s,C,D,cz,b3,S5⟩:=ih (v:=v+1) (i:=3) SU (by lia) (by lia);obtain⟨j,up,eq,TD,TA,u⟩:=ih (v:=v) (i:=4) S5 (by lia) (by lia);obtain⟨k,hd⟩:∃k,rO[j.toNat]?=Z k:=⟨rO[j.toNat]'(by show j.toNat<4;lia),by simp⟩;have ex:=ot co B;have fd:=ot TD hd;obtain⟨E,H,rfl⟩:=JV J.ne;have fn:d9 ((E++[H]).map ar) (-1)=Z (ar H):=Pt (by simp);obtain⟨f1,rfl⟩:=h.lst;obtain⟨I,rfl⟩:=SU.lst;obtain⟨L,rfl⟩:=S5.lst;obtain⟨g,rfl⟩:=u.lst;generalize go:E++[H]=F at *;have M:eP (ap aY (af 2)<|V<|bq 2 G.eN<|ag (af 0)<|ag (V<|bn cZ<|ag (af 2) am) am) (el 2<|cu (bb 4)<|cu (bb 5) ey) (h_ (.lst f1) i F o TK TC TL A TS)=Z (.aZ,h_ (.lst I) i F o (Z<|aF f.1) (Z<|aF f.2) TL A TS):=by
  exact hI (fm rfl (c2<|iF (dE rfl<|dE (c2<|kN rfl rfl<|mi F) rfl) rfl rfl cl) rfl rfl<|congrArg (Option.map aj.im) ex) rfl
 obtain⟨q,g1,N⟩:∃q∈F,dB (bg<|ap dM (V<|bq 2 G.eN<|ag (af 0)<|ag (V<|aq<|.int 3) am)<|V<|aq<|.int 0) (eP (ap aY (af 2)<|V<|gM<|aq<|.int 1)<|el 2<|cu (bb 4)<|cu (bb 5) ey) ee (h_ (.lst I) i F o (Z<|aF f.1) (Z<|aF f.2) TL A TS)=Z (.aZ,h_ (.lst L) i F o (Z<|aF q.1) (Z<|aF q.2) TL A TS):=by
  by_cases O:s=0
  ·have p:=mK s 0;rw[cU O]at p;exact⟨H,by rw[<-go];simp,it (ti<|fm (c2<|iF rfl rfl rfl D) rfl rfl rfl p)<|hI (fm rfl (c2<|Jr rfl) rfl rfl<|congrArg (Option.map aj.im) fn) rfl⟩
  ·have p:=mK s 0;rw[dA O]at p;exact⟨f,e5 B,gX (ti<|fm (c2<|iF rfl rfl rfl D) rfl rfl rfl p) rfl⟩
 have P:eP (ap aY (V<|dq<|ag (V<|bv<|ag (V<|aq<|.int 0)<|ag (V<|aq<|.int 2) am)<|ag (V<|bv<|ag (V<|aq<|.int 2)<|ag (V<|aq<|.int 0) am)<|ag (V<|bv<|ag (V<|aq<|.int 0)<|ag (V<|gM<|aq<|.int 2) am)<|ag (V<|bv<|ag (V<|gM<|aq<|.int 2)<|ag (V<|aq<|.int 0) am) am)<|V<|bq 2 G.eN<|ag (af 0)<|ag (V<|aq<|.int 4) am) (el 2<|cu (bb 6)<|cu (bb 7) ey) (h_ (.lst L) i F o (Z<|aF q.1) (Z<|aF q.2) TL A TS)=Z (.aZ,h_ (.lst g) i F o (Z<|aF q.1) (Z<|aF q.2) (Z<|aF k.1) (Z<|aF k.2) TS):=by
  have mb:d9 [ab.tup [.int 0,.int 2],.tup [.int 2,.int 0],.tup [.int 0,.int<|-2],.tup [.int (-2),.int 0]] j=Z (.tup [.int k.1,.int k.2]):=fd;exact hI (fm rfl (c2<|iF rfl rfl rfl eq) rfl rfl<|congrArg (Option.map aj.im) mb) rfl
 obtain⟨m,x⟩:∃m:aD,m=(q.1+k.1,q.2+k.2):=⟨_,rfl⟩;obtain⟨w,a⟩:∃w:aU,w=h_ (.lst g) i F o (Z<|aF q.1) (Z<|aF q.2) (Z<|aF k.1) (Z<|aF k.2) (Z<|.im<|ar m):=⟨_,rfl⟩;have Q:bL 8 (bv<|ag (V<|ap bH (af 4)<|af 6)<|ag (V<|ap bH (af 5)<|af 7) am) (h_ (.lst g) i F o (Z<|aF q.1) (Z<|aF q.2) (Z<|aF k.1) (Z<|aF k.2) TS)=Z (.aZ,w):=by
  rw[a,x];rfl
 have mp:=wY F m;have Gt:=PZ m;have If:=Pq m;have of:bg (ap iI (af 8)<|af 2) w=Z (!decide (m∈F),w):=by
  rw[a];show (((gi (ar m)<|aP F).map λr=>aj.im<|.ax<|!r).map λk=>(k,_)).bind (λn=>(kU n.1).map λc=>(c,n.2))=_;rw[mp];rfl
 have TZ:bg (gc ep ep (V<|aq<|.int 0) (V<|ap aY (af 8)<|V<|aq<|.int 0)<|V<|aq<|.int 29) w=Z (decide (0<=m.1)&&decide (m.1<=29),w):=by
  rw[a];exact GL rfl rfl rfl rfl rfl
 have on:bg (gc ep ep (V<|aq<|.int 0) (V<|ap aY (af 8)<|V<|aq<|.int 1)<|V<|aq<|.int 29) w=Z (decide (0<=m.2)&&decide (m.2<=29),w):=by
  rw[a];exact GL rfl rfl rfl rfl rfl
 have pm:bg (ap j3 (V<|bn cZ<|ag (af 2) am)<|af 1) w=Z (decide ((F.length:Int)<i),w):=by
  rw[a];exact dg (aQ (aE<|dv rfl rfl<|mi F) rfl rfl rfl rfl)
 have fin:∀c:Bool,c=(!decide (m∈F)&&(decide ((F.length:Int)<i)&&((decide (0<=m.1)&&decide (m.1<=29))&&(decide (0<=m.2)&&decide (m.2<=29)))))->
   ei (bg<|ap iI (af 8)<|af 2) (ei (bg<|ap j3 (V<|bn cZ<|ag (af 2) am)<|af 1)<|ei (bg<|gc ep ep (V<|aq<|.int 0) (V<|ap aY (af 8)<|V<|aq<|.int 0)<|V<|aq<|.int 29)<|bg<|gc ep ep (V<|aq<|.int 0) (V<|ap aY (af 8)<|V<|aq<|.int 1)<|V<|aq<|.int 29) w=Z (c,w):=by
  intro c pt;rw[pt];simp -implicitDefEqProofs only[ei,of,TZ,on,pm,oM];generalize (decide (0<=m.1)&&decide (m.1<=29))=t;generalize (decide (0<=m.2)&&decide (m.2<=29))=b;cases decide (m∈F)<;>cases decide ((F.length:Int)<i)<;>cases t<;>rfl
 unfold sH;by_cases e:m∉F/\(F.length:Int)<i/\0<=m.1/\m.1<=29/\0<=m.2/\m.2<=29
 ·have bt:=fin aa (by simp[e]);refine⟨.lst g,F++[m],Z<|aF q.1,Z<|aF q.2,Z<|aF k.1,Z<|aF k.2,Z<|.im<|ar m,(eI M).trans<|(eI N).trans<|(eI P).trans<|(eI Q).trans<|(rD bt).trans ?_,u,?_⟩
  ·have sp:F.length<100000:=by lia
   rw[a];exact lF (jv rfl rfl rfl rfl rfl (Nd sp) rfl)
  ·rw[x];rw[x]at e;exact J.add g1 (e5 hd) e.1 e.2.1 e.2.2
 ·have s1:=fin al (by
   cases b:(!decide (m∈F)&&(decide ((F.length:Int)<i)&&((decide (0<=m.1)&&decide (m.1<=29))&&(decide (0<=m.2)&&decide (m.2<=29))))) with
   |false=>rfl
   |true=>
    simp at b;exact absurd ⟨b.1,by lia,b.2.2.1.1,b.2.2.1.2,b.2.2.2.1,b.2.2.2.2⟩ e)
  exact⟨.lst g,F,Z<|aF q.1,Z<|aF q.2,Z<|aF k.1,Z<|aF k.2,Z<|.im<|ar m,(eI M).trans ((eI N).trans ((eI P).trans ((eI Q).trans ((q4 s1).trans (by rw[a];rfl))))),u,J⟩
theorem w7{g:aD}:bx (ar g) (ar c)=aa↔g.1<c.1\/(g.1=c.1/\g.2<c.2):=by
 obtain⟨e,t⟩:=g;obtain⟨I,s⟩:=c;show (if ab.beq (.int e) (.int I)=aa then (if ab.beq (.int t) (.int s)=aa then al else decide (t<s)) else decide (e<I))=aa↔_;have a:∀b u:Int,ab.beq (.int b) (.int u)=decide (b=u):=λb u=>by
  show (b==u)=_;by_cases d:b=u<;>simp[d]
 rw[a,a];by_cases l:e=I<;>by_cases C:t=s<;>simp[l,C]
def et(H:List aD):Prop:=(H.map ar).Pairwise (λg c=>bx g c=aa)
theorem xa{SY:List aD}(ah:SY.Nodup)(c:SY.length<=1000):∃T:List aD,T.Perm SY/\g8 (SY.map ar)=Z (aP T)/\et T:=by
 have a:=vQ ah c;obtain⟨T,Te,b⟩:=EL (hC<|SY.map ar);refine⟨T,Te,?_,?_⟩
 ·unfold g8;rw[aB (kT.mpr a),b]
 ·unfold et;rw[<-b];exact m0 a.1.3 a.1.2
theorem v5:∀{e:List ab},(∀k∈e,∃r,k=.tup r)->fu [.lst e]=g8 e
 |[],_=>rfl
 |k::e,d=>by
  obtain⟨r,rfl⟩:=d k (.head _);rfl
theorem Fy{SY T:List aD}(a:w[b]?=Z (Z<|aP SY))(d:g8 (SY.map ar)=Z (aP T)):bn fu (ag (af b) am) w=Z (aP T,w):=by
 have c:fu [aP SY]=Z (aP T):=by
  rw[v5,d];intro k hd;obtain⟨q,Y,rfl⟩:=cX.mp hd;exact⟨_,rfl⟩
 simp -implicitDefEqProofs only[bn,ag,af,su,a,oM,pA,rZ,sv,DN,n2,c]
theorem mT{e:List ab}(d:J w=Z (.lst e,z)):bn i5 (ag (V J) am) w=Z (.im<|.tup e,z):=by
 simp -implicitDefEqProofs only[bn,ag,V,su,d,oM,pA,rZ,sv,D1,i5,jl]
theorem JZ(h:eF (v+1000) d):∃U F,qZ [d]=Z (aP F,[U])/\eF v U/\f4 F/\et F:=by
 obtain⟨k,TN,z,mb,TP,Uj⟩:=ih (v:=v+999) (i:=4) h (by lia) (by lia);obtain⟨D,B,E,of⟩:∃D:Int,d9 [ab.int 3,.int 8,.int 14,.int 40] k=Z (.int D)/\0<D/\D<=40:=by
  have:k=0\/k=1\/k=2\/k=3:=by lia
  rcases this with rfl|rfl|rfl|rfl
  ·exact⟨3,rfl,by decide,by decide⟩
  ·exact⟨8,rfl,by decide,by decide⟩
  ·exact⟨14,rfl,by decide,by decide⟩
  ·exact⟨40,rfl,by decide,by decide⟩
 obtain⟨H,l,I,cz,b3,SU⟩:=ih (v:=v+998) (i:=D) Uj E (by lia);obtain⟨m,C,L,M,on,S5⟩:=ih (v:=v+997) (i:=30) SU (by lia) (by lia);obtain⟨q,t,N,TD,TA,u⟩:=ih (v:=v+996) (i:=30) S5 (by lia) (by lia);obtain⟨i,O⟩:∃i:Int,i=1+H:=⟨_,rfl⟩;have P:m8 i [(m,q)]:=⟨by simp,by simp,by simp;lia,λc f=>by rw[bW.mp f];exact⟨M,by show m<=29;lia,TD,by show q<=29;lia⟩,λg j c f=>by rw[bW.mp f,bW.mp j];exact⟨by simp,by simp⟩,λn Y g j c f=>by rw[bW.mp f,bW.mp j]⟩;obtain⟨S4,S,be,F,r,TK,TC,TL,A,TS,rfl,s,J⟩:=wW (To:=bb 3) (c:=sH) (x:=hq 0 (3*i).toNat) (λb w=>∃d F r TK TC TL A TS,w=h_ d i F r TK TC TL A TS/\eF (v+996-3*b) d/\m8 i F) (w:=h_ t i [(m,q)] X X X X X X) ⟨t,[(m,q)],X,X,X,X,X,X,rfl,u,P⟩
  (λb e w bs cl=>by
   obtain⟨d,F,r,TK,TC,TL,A,TS,rfl,co,J⟩:=cl;have SJ:b<(3*i).toNat:=by
    have:=(fw.mp bs).1
    rwa [hq,a5,kE]at this
   obtain⟨U,eq,pm,pt,sp,s1,s2,a,R,Uf⟩:=Fr (v:=v+996-3*(b+1)) (o:=Z (.im e)) (TK:=TK) (TC:=TC) (TL:=TL) (A:=A) (TS:=TS) (co.mono (by lia)) J (by lia);exact⟨h_ d i F (Z<|.im e) TK TC TL A TS,.aZ,_,rfl,a,.inl rfl,U,eq,_,_,_,_,_,_,rfl,R,Uf⟩)
 have ex:(hq 0 (3*i).toNat).length=(3*i).toNat:=by rw[hq,a5,kE]
 rw[ex]at s;have ty:=J.len;obtain⟨T,Te,Q,TJ⟩:=xa J.ah (by lia);refine⟨be,T,?_,s.mono (by lia),⟨λfd=>?_,Te.nodup_iff.mpr J.ah,by rw[Te.length_eq];lia,λc f=>J.jN c<|Te.mem_iff.mp f,λg j c f=>J.par g (Te.mem_iff.mp j) c<|Te.mem_iff.mp f,λn fn g j c f=>J.con n (λg j c f=>fn g (Te.mem_iff.mpr j) c<|Te.mem_iff.mpr f) g (Te.mem_iff.mp j) c<|Te.mem_iff.mp f⟩,TJ⟩
 ·obtain⟨p,rfl⟩:=h.lst;obtain⟨un,rfl⟩:=Uj.lst;obtain⟨y,rfl⟩:=SU.lst;obtain⟨up,rfl⟩:=S5.lst;obtain⟨f1,rfl⟩:=u.lst;obtain⟨Gt,rfl⟩:=s.lst;have go:ru (3*i):=⟨by lia,by lia⟩;have mk:gO 3 i=aa:=wl (by decide) (by decide);have g1:bL 1 (ap bH (V<|aq<|.int 1)<|V<|bq 2 G.eN<|ag (af 0)<|ag (V<|ap aY (V<|dq<|ag (V<|aq<|.int 3)<|ag (V<|aq<|.int 8)<|ag (V<|aq<|.int 14)<|ag (V<|aq<|.int 40) am)<|V<|bq 2 G.eN<|ag (af 0)<|ag (V<|aq<|.int 4) am) am) [Z (.lst p),X,X,X,X,X,X,X,X]=Z (.aZ,[Z (.lst y),Z<|aF i,X,X,X,X,X,X,X]):=by
   rw[O];exact i2 (fm rfl (c2<|iF (dE rfl<|dE (c2<|fm (c2<|uz rfl rfl (dN rfl) rfl) (c2<|iF rfl rfl rfl z) rfl rfl<|congrArg (Option.map aj.im) B) rfl) rfl rfl I) rfl rfl rfl) (show 1<9 by decide) rfl
  have hd:bL 2 (dq<|ag (V<|bv<|ag (V<|bq 2 G.eN<|ag (af 0)<|ag (V<|aq<|.int 30) am)<|ag (V<|bq 2 G.eN<|ag (af 0)<|ag (V<|aq<|.int 30) am) am) am) [Z (.lst y),Z<|aF i,X,X,X,X,X,X,X]=Z (.aZ,h_ (.lst f1) i [(m,q)] X X X X X X):=
   i2 (uz (dE (c2<|yo (dE (c2<|iF rfl rfl rfl L)<|dE (c2<|iF rfl rfl rfl N) rfl) rfl (dN rfl) rfl) rfl) rfl (dN rfl) rfl) (show 2<9 by decide) rfl;unfold qZ Bj;exact ej rfl (cg g1<|cg hd<|cg (jw (xk (a1 (aE<|aQ rfl rfl rfl rfl<|iK mk) rfl) rfl go) S rfl)<|d5<|Fy rfl Q) rfl
 ·subst fd;have:=Te.length_eq;have l:=nC.mpr J.ne;simp at this;lia
theorem QN(c:aD):rY [.im (ar c)]=Z (aP<|ek c,[.im (ar c)]):=by
 unfold rY GE;exact jV [Z (.im<|ar c),Z<|aF c.1,Z<|aF c.2] rfl rfl rfl
theorem Ec:∀(F done:List aD) (y TM:Option aj),4*(done.length+F.length)<=1000->∃b,dW (bb 2) t1 (F.map ar) [y,Z<|aP<|cells done,TM]=Z (.aZ,[y,Z<|aP<|cells<|done++F,b])
 |[],done,y,TM,_=>⟨TM,by rw[bU];rfl⟩
 |c::F,done,y,TM,d=>by
  rw[c7]at d;obtain⟨b,e⟩:=Ec F (done++[c]) y (Z<|.im<|ar c) (by rw[cb,jq];lia);refine⟨b,?_⟩;have a:=QN c;have cl:=qQ done;have f:(cells done).length+4<=100000:=by lia
  have g:(cells done).map ar++(ek c).map ar=(cells<|done++[c]).map ar:=by
   unfold cells;rw[List.flatMap_append];simp
  have h:(cells done).length+(ek c).length<=100000:=f;rw[ci,dW];dsimp only;rw[show bb 2 (.im<|ar c) [y,Z<|aP<|cells done,TM]=Z [y,Z<|aP<|cells done,Z<|.im<|ar c] from rfl];show (t1 _).bind _=_;have i:lX (aP<|cells done) [aP (ek c)]=Z (.im .aR,aP<|cells<|done++[c]):=by
   show _=Z (aj.im .aR,aj.lst<|(cells<|done++[c]).map ar);rw[<-g];exact aB (by rw[a5,a5];exact h)
  rw[show t1 [y,Z<|aP<|cells done,Z<|.im<|ar c]=Z (.aZ,[y,Z<|aP<|cells<|done++[c],Z<|.im<|ar c]) from lF (jv rfl rfl (dE (c2<|iF rfl rfl rfl a) rfl) rfl rfl i (by rfl))];rw[show done++c::F=done++[c]++F by simp];exact e
theorem Kb(Tf:f4 F):∃aA,pf [aP F]=Z (aX aA,[aP F])/\aA.Perm (cells F)/\et aA:=by
 have c:=Tf.len;have cl:=qQ F;obtain⟨TM,a⟩:=Ec F [] (Z<|.dy) X (by simp;lia);obtain⟨aA,Te,Q,TJ⟩:=xa Tf.JQ (by lia);refine⟨aA,?_,Te,TJ⟩;unfold pf D2;refine jV [Z (aP F),Z<|aP<|cells F,TM] rfl ((eI (z:=[Z (aP F),Z<|aP<|cells [],X]) rfl).trans<|(eI<|(Fm (m:=Z (0,aP F)) (x:=F.map ar) (z:=[Z .dy,Z<|aP<|cells [],X]) rfl a).trans rfl).trans<|d5 ?_) rfl;exact mT (Fy (w:=[Z (aP F),Z<|aP<|cells F,TM]) (b:=1) rfl Q)
def aC(a:a4):ab:=.tup (dt a)
abbrev aS(Q:List a4):aj:=.lst (Q.map aC)
def p1:ab->a4
 |.tup [g,c]=>(mL g,mL c)
 |_=>((0,0),(0,0))
theorem uH(a:a4):p1 (aC a)=a:=rfl
theorem y9{g c:a4}(d:aC g=aC c):g=c:=by rw[<-uH g,d,uH]
theorem FY:∀(H:List ab) (SY:List a4),(∀e∈H,e∈SY.map aC)->H=(H.map p1).map aC
 |[],_,_=>rfl
 |e::H,SY,d=>by
  obtain⟨n,Y,a⟩:=cX.mp (d e<|.head _);rw[ci,ci,<-FY H SY λt b=>d t<|.tail _ b,<-a,uH]
theorem ve{H:List ab}(d:H.Perm (SY.map aC)):∃T:List a4,T.Perm SY/\H=T.map aC:=by
 refine⟨H.map p1,?_,FY H SY λe b=>d.mem_iff.mp b⟩;have:=vf p1 d;rw[gJ]at this;have a:(p1 ∘ aC:a4->a4)=id:=funext uH;rw[a,rs]at this;exact this
theorem qt(ah:SY.Nodup)(b:SY.length<=1000):iM (SY.map aC):=by
 refine⟨⟨by rw[a5];exact b,λg d c f=>?_,?_⟩,.inr λk hd=>?_⟩
 ·obtain⟨e,Y,rfl⟩:=cX.mp d;obtain⟨t,Y,rfl⟩:=cX.mp f;rfl
 ·exact Hb aC (λg c v a=>v<|y9 a) ah
 ·obtain⟨e,Y,rfl⟩:=cX.mp hd;rfl
theorem DK(ah:SY.Nodup)(e:SY.length<=1000)(f:w[b]?=Z (Z<|aS SY)):∃T:List a4,T.Perm SY/\bn fu (ag (af b) am) w=Z (aS T,w)/\(T.map aC).Pairwise (λg c=>bx g c=aa):=by
 have a:=qt ah e;obtain⟨T,Te,d⟩:=ve (hC<|SY.map aC);refine⟨T,Te,?_,by rw[<-d];exact m0 a.1.3 a.1.2⟩;have h:fu [aS SY]=Z (aS T):=by
  rw[v5]
  ·unfold g8;rw[aB (kT.mpr a),d]
  ·intro k hd;obtain⟨q,Y,rfl⟩:=cX.mp hd;exact⟨_,rfl⟩
 simp -implicitDefEqProofs only[bn,ag,af,su,f,oM,pA,rZ,sv,DN,n2,h]
theorem Sd(ah:SY.Nodup)(a:SY.length<=1000)(c:w[b]?=Z (Z<|aS SY)):∃T:List a4,T.Perm SY/\bn fu (ag (af b) am) w=Z (aS T,w):=by
 obtain⟨T,l,C,Y⟩:=DK ah a c;exact⟨T,l,C⟩
noncomputable def eG(F:List aD)(c:aD):List a4:=([(c.1,c.2+2),(c.1+2,c.2)].filter λm=>decide (m∈F)).map λm=>(c,m)
def df(F:List aD):List a4:=F.flatMap (eG F)
theorem iq{a:a4}:a∈df F↔gZ F a:=by
 unfold df eG gZ;simp only[k3,cX,ge,bI,fZ,hk,uZ];constructor
 ·rintro⟨c,b,m,⟨d,C⟩,rfl⟩;exact⟨b,C,d⟩
 ·rintro⟨l,C,e⟩;exact⟨a.1,l,a.2,⟨e,C⟩,rfl⟩
theorem rA(F:List aD)(c:aD):(eG F c).length<=2:=by
 unfold eG;rw[a5];exact uS _ _
theorem pE(F:List aD):∀H:List aD,(H.flatMap<|eG F).length<=2*H.length
 |[]=>bm _
 |c::H=>by
  rw[rL,cb,c7];have:=pE F H;have:=rA F c;lia
theorem yU(ah:F.Nodup):(df F).Nodup:=by
 refine zB ah (λc Y=>?_) λg Y c Y e l C=>?_
 ·unfold eG;refine rK (Mb _ ?_) λg Y c Y a=>by injection a
  simp;lia
 ·unfold eG at l C;obtain⟨m,Y,rfl⟩:=cX.mp l;obtain⟨Tq,Y,a⟩:=cX.mp C;injection a with b d;exact b.symm
theorem Pv{SO:List a4}(f:SO.length<=1000):rf [Z (aP F),Z<|aS SO,Z<|aF c.1,Z<|aF c.2]=Z (.aZ,[Z (aP F),Z<|aS<|SO++eG F c,Z<|aF c.1,Z<|aF c.2]):=by
 have a:cJ 1 [0,2,3] (cA<|V<|dq<|ag (V<|bv<|ag (af 2)<|ag (V<|ap bH (af 3)<|V<|aq<|.int 2) am)<|ag (V<|bv<|ag (V<|ap bH (af 2)<|V<|aq<|.int 2)<|ag (af 3) am) am) (bb 0) G.CL G.CE [Z (aP F),Z<|aS SO,Z<|aF c.1,Z<|aF c.2]=Z (aS<|eG F c,[Z (aP F),Z<|aS SO,Z<|aF c.1,Z<|aF c.2]):=by
  refine (qX (x:=[(c.1,c.2+2),(c.1+2,c.2)].map ar) (m:=X) (z:=[Z (aP F),Z<|aS SO,Z<|aF c.1,Z<|aF c.2]) ?_ (nm _ (λm=>decide (m∈F)) (λm=>aC (c,m)) [(c.1,c.2+2),(c.1+2,c.2)] [] (λm g=>?_) (by show 0+2<=100000;decide))).trans ?_
  ·rfl
  ·refine⟨[Z (.im<|ar m),Z<|aP F,Z<|aF c.1,Z<|aF c.2],[Z (.im<|ar m),Z<|aP F,Z<|aF c.1,Z<|aF c.2],rfl,?_,λ_=>rfl,λ_=>⟨_,rfl,rfl⟩⟩;have b:=wY F m;show (((gi (ar m)<|aP F).map λr=>aj.im<|.ax r).map λk=>(k,_)).bind (λn=>(kU n.1).map λc=>(c,n.2))=_;rw[b];rfl
  ·show Z (aj.lst _,_)=Z (aj.lst<|(eG F c).map aC,_);unfold eG;rw[gJ];rfl
 have bk:=rA F c;have d:(SO.map aC).length+((eG F c).map aC).length<=100000:=by rw[a5,a5];lia
 have e:lX (aS SO) [aS (eG F c)]=Z (.im .aR,aS<|SO++eG F c):=by
  show (if _ then _ else _)=_;rw[aB d,<-fe]
 unfold rf;exact lF (jv rfl rfl (a1 (aE a) rfl) rfl rfl e rfl)
theorem Bd(F:List aD)(r:aU):nR (Z (aP F)::r) 0 (F.map ar)=aa:=by
 unfold nR;simp
theorem E1{F:List aD}:∀(a:List aD) (SO:List a4) (TM b:Option aj),SO.length+2*a.length<=1000->∃Tv d,jY 0 (F.map ar) (el 2<|cu (bb 2)<|cu (bb 3) ey) rf (a.map ar) [Z (aP F),Z<|aS SO,TM,b]=Z (.aZ,[Z (aP F),Z<|aS<|SO++a.flatMap (eG F),Tv,d])
 |[],SO,TM,b,_=>⟨TM,b,by
  rw[DP,jY];dsimp only;rw[aB (Bd F _),GV,bU]⟩
 |c::a,SO,TM,b,e=>by
  rw[c7]at e;have bk:=rA F c;obtain⟨Tv,d,f⟩:=E1 a (SO++eG F c) (Z<|aF c.1) (Z<|aF c.2) (by rw[cb];lia);refine⟨Tv,d,?_⟩;rw[ci,jY];dsimp only;rw[aB (Bd F _),show el 2 (cu (bb 2)<|cu (bb 3) ey) (.im<|ar c) [Z (aP F),Z<|aS SO,TM,b]=Z [Z (aP F),Z<|aS SO,Z<|aF c.1,Z<|aF c.2] from rfl];show (rf _).bind _=_;rw[Pv (by lia),rL,<-a_];exact f
theorem yN(Tf:f4 F):∃SO,l9 [aP F]=Z (aS SO,[aP F])/\SO.Perm (df F):=by
 have e:=Tf.len;have bk:=pE F F;obtain⟨Tv,c,d⟩:=E1 (F:=F) F [] X X (by simp;lia);rw[i7]at d;obtain⟨SO,Te,a⟩:=Sd (w:=[Z (aP F),Z<|aS<|df F,Tv,c]) (b:=1) (yU Tf.ah) (by show (F.flatMap<|eG F).length<=1000;lia) rfl;refine⟨SO,?_,Te⟩;unfold l9 Hg;exact jV [Z (aP F),Z<|aS<|df F,Tv,c] rfl ((eI (z:=[Z (aP F),Z<|aS [],X,X]) rfl).trans<|(eI (z:=[Z (aP F),Z<|aS<|df F,Tv,c]) d).trans<|d5 a) rfl
def b2(F:List aD)(n:aD->aD):List (List ab×ab):=F.map λc=>(dC c,ar<|n c)
theorem Af:∀(H b:List (List ab×ab)),((b++H).map (·.1)).Nodup->H.foldl (λg n=>gy g n.1 n.2) b=b++H
 |[],b,_=>by simp
 |n::H,b,ah=>by
  have d:¬ (b.any λc=>decide (c.1=n.1))=aa:=λe=>by
   obtain⟨p,f,a⟩:=nw.mp e;have a:=dT a;rw[fe,cF]at ah;exact ah.2.2 p.1 (sj f) n.1 (by simp) a
  rw[jF,show gy b n.1 n.2=b++[n] by unfold gy;rw[aG d],Af H (b++[n]) (by rw[a_];exact ah),a_];rfl
theorem OA(ah:F.Nodup)(n:aD->aD):mm (b2 F n)=b2 F n:=by
 unfold mm;rw[Af _ [] ?_,i7];unfold b2;rw[i7,gJ];exact rK ah λg Y c Y a=>n3 a
theorem Lx(n:aD->aD){q:aD}(d:q∈F):ez (b2 F n) (dC q)=Z (ar<|n q):=by
 induction F with
 |nil=>cases d
 |cons c F e=>
  unfold ez b2;rw[ci,jE];by_cases a:c=q
  ·subst a;simp
  ·rw[show decide (((dC c,ar<|n c):List ab×ab).1=dC q)=al from dA λb=>a<|n3 b];exact e ((bI.mp d).resolve_left λb=>a b.symm)
theorem MD(F:List aD)(n:aD->aD):pR (F.map λc=>.tup [ar c,ar<|n c])=Z (b2 F n):=by
 unfold b2;induction F with
 |nil=>rfl
 |cons q r a=>
  rw[ci,yq,pR,a];rfl
theorem IB(F:List aD)(n:aD->aD):((b2 F n).all λp=>ab.keys 7 p.1)=aa:=by
 unfold b2;rw[vL,fk];intro q Y;rfl
theorem DS(ah:F.Nodup)(a:F.length<=1000)(d:J w=Z (.lst<|F.map λc=>.tup [ar c,ar<|n c],z)):bn nx (ag (V J) am) w=Z (.aL<|b2 F n,z):=by
 have H:(b2 F n).length<=1000:=by unfold b2;rw[a5];exact a
 have m:=IB F n;have P:=OA ah n;have r:=MD F n;simp -implicitDefEqProofs only[bn,ag,V,d,su,oM,pA,rZ,D1,sv,nx,r,m,H,P,and_self,hQ]
inductive je (F:List aD):List a4->(aD->aD)->Prop where
 |nil:je F [] λc=>c
 |add {Tn:List a4}{n:aD->aD}{a:a4}:je F Tn n->gZ F a->n a.1≠n a.2->je F (Tn++[a]) λc=>if n c=n a.1 then n a.2 else n c
theorem je.P0(o:je F Tn n):∀a∈Tn,gZ F a:=by
 induction o with
 |nil=>intro a d;cases d
 |add o l C b=>
  intro a d;rcases cx.mp d with d|d
  ·exact b a d
  ·rw[bW.mp d];exact l
noncomputable def eV(n:aD->aD)(a:a4):aD->aD:=λc=>if n c=n a.2 then n a.1 else n c
def bE(j:(aD->aD)×List a4)(a:a4):(aD->aD)×List a4:=if j.1 a.1=j.1 a.2 then j else (eV j.1 a,j.2++[a])
def ew(Q:List a4)(j:(aD->aD)×List a4):(aD->aD)×List a4:=Q.foldl bE j
structure j_(F:List aD)(j:(aD->aD)×List a4):Prop where
 nf:∀c∈F,j.1 c∈F
 fix:∀c∈F,j.1 (j.1 c)=j.1 c
 cnt:F.countP (λc=>decide (j.1 c=c))+j.2.length=F.length
 gen:∀p:aD->aD,(∀a∈j.2,p a.1=p a.2)->∀c∈F,p (j.1 c)=p c
theorem j_.start(F:List aD):j_ F (λc=>c,[]):=⟨λc d=>d,λ_ Y=>rfl,by show F.countP (λc=>decide (c=c))+0=_;simp,λ_ Y Y Y=>rfl⟩
theorem Bi{n:aD->Bool}{e:aD}(ah:F.Nodup)(d:e∈F)(f:n e=aa):F.countP n=F.countP (λc=>n c && !decide (c=e))+1:=by
 induction F with
 |nil=>cases d
 |cons g r h=>
  obtain⟨i,TZ⟩:=hL.mp ah;by_cases a:g=e
  ·subst a;rw[List.countP_cons_of_pos f,List.countP_cons_of_neg (by simp)];congr 1;refine Bv λc j=>?_;have:c≠g:=λb=>i (b ▸ j);simp[this]
  ·have k:e∈r:=(bI.mp d).resolve_left λb=>a b.symm;have:=h TZ k;rw[uP,uP,this];simp[a];lia
theorem j_.step(Tt:j_ F j)(ah:F.Nodup){a:a4}(l:a.1∈F)(C:a.2∈F):j_ F (bE j a):=by
 unfold bE;split
 ·exact Tt
 ·rename_i ne;obtain⟨n,Tn⟩:=j;have ne:n a.1≠n a.2:=ne;have g:n (n a.1)=n a.1:=Tt.fix _ l;have Ts:n (n a.2)=n a.2:=Tt.fix _ C;refine⟨λc f=>?_,λc f=>?_,?_,λp h c f=>?_⟩
  ·show (if n c=n a.2 then n a.1 else n c)∈F;split
   ·exact Tt.nf _ l
   ·exact Tt.nf _ f
  ·show eV n a (eV n a c)=eV n a c;have i:n (n c)=n c:=Tt.fix c f;unfold eV;by_cases b:n c=n a.2
   ·rw[aB b,g,aG ne]
   ·rw[aG b,i,aG b]
  ·have q:=Tt.cnt;have m:=Bi (n:=λc=>decide (n c=c)) ah (Tt.nf _ C) (cU Ts);have k:F.countP (λc=>decide (eV n a c=c))=F.countP (λc=>decide (n c=c) && !decide (c=n a.2)):=by
    refine Bv λc f=>?_;unfold eV;by_cases b:n c=n a.2
    ·rw[aB b];constructor
     ·intro d;have d:=dT d;rw[<-d,g]at b;exact absurd b ne
     ·intro d;simp at d;exact absurd (d.1.symm.trans b) d.2
    ·rw[aG b];have:n c=c->c≠n a.2:=λd D=>b (d.trans D);simp;exact this
   show F.countP (λc=>decide (eV n a c=c))+(Tn++[a]).length=_;rw[k,cb,jq];dsimp only at q;lia
  ·have J:=Tt.gen p λe o=>h e (dI _ o);have r:p a.1=p a.2:=h a (dH _<|.head _);show p (if n c=n a.2 then n a.1 else n c)=p c;split
   ·rename_i b;rw[J _ l,r,<-J _ C];show p (n a.2)=_;rw[<-b];exact J _ f
   ·exact J _ f
theorem zi{F:List aD}(ah:F.Nodup):∀(Q:List a4) (j:(aD->aD)×List a4),j_ F j->(∀a∈Q,a.1∈F/\a.2∈F)->j_ F (ew Q j)/\(∃S7,(ew Q j).2=j.2++S7/\S7.Sublist Q)/\(∀a∈Q,(ew Q j).1 a.1=(ew Q j).1 a.2)/\∀e t,j.1 e=j.1 t->(ew Q j).1 e=(ew Q j).1 t
 |[],j,Tt,_=>⟨Tt,⟨[],(bU _).symm,.slnil⟩,(λ_ z=>nomatch z),λ_ Y z=>z⟩
 |a::Q,j,Tt,d=>by
  have c:=Tt.step ah (d a<|.head _).1 (d a<|.head _).2;obtain⟨g,⟨S7,cz,b3⟩,q,k⟩:=zi ah Q (bE j a) c λe b=>d e (.tail _ b);have Tj:∀e t,j.1 e=j.1 t->(bE j a).1 e=(bE j a).1 t:=λe t z=>by
   unfold bE;split
   ·exact z
   ·show eV j.1 a e=eV j.1 a t;unfold eV;rw[z]
  have Tr:(bE j a).1 a.1=(bE j a).1 a.2:=by
   unfold bE;split
   ·rename_i z;exact z
   ·rename_i z;show eV j.1 a a.1=eV j.1 a a.2;unfold eV;rw[aG z,aB rfl]
  refine⟨g,?_,λe b=>?_,λe t z=>k e t<|Tj e t z⟩
  ·show ∃S7,(ew Q<|bE j a).2=_/\_;rw[cz];unfold bE;split
   ·exact⟨S7,rfl,b3.cons a⟩
   ·exact⟨a::S7,by rw[a_];rfl,b3.cons₂ a⟩
  ·rcases bI.mp b with z|z
   ·rw[z];exact k _ _ Tr
   ·exact q e z
def sy(F:List aD)(L:List a4):Prop:=∀p:aD->aD,(∀a∈L,p a.1=p a.2)->∀g∈F,∀c∈F,p g=p c
theorem z6(Tt:j_ F j)(ah:F.Nodup)(ne:F≠[])(d:∀g∈F,∀c∈F,j.1 g=j.1 c):j.2.length+1=F.length:=by
 obtain⟨m,b⟩:=List.exists_mem_of_ne_nil _ ne;have a:F.countP (λc=>decide (j.1 c=c))=1:=by
  rw[Bi ah (Tt.nf m b) (cU<|Tt.fix m b)];have:F.countP (λc=>decide (j.1 c=c) && !decide (c=j.1 m))=0:=by
   rw[List.countP_eq_zero];intro c e;simp;intro f;rw[<-f];exact d c e m b
  rw[this]
 have:=Tt.cnt;lia
theorem Bl{n:aD->aD}{Tn:List a4}{F:List aD}(d:∀g∈F,∀c∈F,n g=n c):∀Q:List a4,(∀a∈Q,a.1∈F/\a.2∈F)->ew Q (n,Tn)=(n,Tn)
 |[],_=>rfl
 |a::Q,b=>by
  show ew Q (bE (n,Tn) a)=_;rw[show bE (n,Tn) a=(n,Tn) from aB (d _ (b a<|.head _).1 _ (b a<|.head _).2)];exact Bl d Q λe f=>b e (.tail _ f)
theorem Ox{L:List a4}(Tf:f4 F)(b:∀a∈L,gZ F a)(h:L.length+1=F.length)(SX:sy F L):(ew (L++df F) (λc=>c,[])).2=L:=by
 have e:∀a∈df F,a.1∈F/\a.2∈F:=λa d=>⟨(iq.mp d).1,(iq.mp d).2.1⟩;obtain⟨Tt,⟨S7,f,g⟩,q,Y⟩:=zi Tf.ah L (λc=>c,[]) (j_.start F) λa d=>⟨(b a d).1,(b a d).2.1⟩;have all:=SX _ q;have H:=z6 Tt Tf.ah Tf.ne all;have a:ew (L++df F) (λc=>c,[])=ew (df F) (ew L (λc=>c,[])):=sa;rw[a];generalize ew L (λc=>c,[])=j at *;obtain⟨n,Tn⟩:=j;rw[Bl all _ e];have:Tn=S7:=f;rw[this];exact g.eq_of_length (by rw[<-this];dsimp only at H;lia)
structure jC(F:List aD)(TJ Tn:List a4)(n:aD->aD):Prop where
 lU:je F Tn n
 ah:(Tn++TJ).Nodup
 len:Tn.length+TJ.length<=80
 eS:∀a∈TJ,gZ F a
 yL:∀a,gZ F a->a∈TJ\/n a.1=n a.2
theorem jC.drop(SK:jC F TJ Tn n){u:Nat}{a:a4}(f:TJ[u]?=Z a)(h:n a.1=n a.2):jC F (TJ.eraseIdx u) Tn n:=by
 obtain⟨i,j⟩:=fw.mp f;refine⟨SK.lU,SK.ah.sublist<|P8 (List.eraseIdx_sublist _ _) _,?_,λe c=>SK.eS e<|Ab c,λe c=>?_⟩
 ·have:=SK.len;rw[xe,aB i];lia
 ·rcases SK.yL e c with d|d
  ·by_cases g:e=a
   ·rw[g];exact .inr h
   ·left;rw[List.mem_eraseIdx_iff_getElem?];obtain⟨b,SJ⟩:=List.mem_iff_getElem?.mp d;exact⟨b,λp=>g (by rw[p,f]at SJ;exact (Option.some.inj SJ).symm),SJ⟩
  ·exact .inr d
theorem nS{Ta:Type}:∀{H:List Ta}{u:Nat} (d:u<H.length),(H[u]::H.eraseIdx u).Perm H
 |g::H,0,_=>List.Perm.refl _
 |g::H,u+1,d=>(List.Perm.swap _ _ _).trans (.cons g<|nS<|yy d)
theorem jC.take(SK:jC F TJ Tn n){u:Nat}{a:a4}(f:TJ[u]?=Z a)(j:n a.1≠n a.2):jC F (TJ.eraseIdx u) (Tn++[a]) (λc=>if n c=n a.1 then n a.2 else n c):=by
 obtain⟨g,k⟩:=fw.mp f;have h:(a::TJ.eraseIdx u).Perm TJ:=by
  rw[<-k];exact nS g
 refine⟨.add SK.lU (SK.eS a<|e5 f) j,?_,?_,λe b=>SK.eS e<|Ab b,λe b=>?_⟩
 ·rw[a_];exact (dL Tn h).nodup_iff.mpr SK.ah
 ·have:=SK.len;rw[xe,aB g,cb,jq];lia
 ·by_cases i:e=a
  ·right;subst i;show (if n e.1=n e.1 then _ else _)=(if n e.2=n e.1 then _ else _);rw[aB rfl];split<;>rfl
  ·rcases SK.yL e b with d|d
   ·left;rcases bI.mp (h.mem_iff.mpr d) with d|d
    ·exact absurd d i
    ·exact d
   ·right;show (if n e.1=n a.1 then _ else _)=(if n e.2=n a.1 then _ else _);rw[d]
abbrev hc(d:aj)(F:List aD)(TJ Tn:List a4)(n:aD->aD)(TC TL A TS:Option aj):aU:=[Z d,Z<|aP F,Z<|aS TJ,Z<|aS Tn,Z<|.aL<|b2 F n,TC,TL,A,TS]
theorem Co(g c:aD):eZ (.im<|ar g) (.im<|ar c)=Z (.im<|.ax<|!decide (g=c)):=by
 have d:=pb g c;show (if ab.bk 8 (ar g)=aa then Z (aj.im<|.ax<|!ck (ar g) (ar c)) else X)=_;rw[aB (rU g),d]
theorem ub(g c:aD):dM (.im<|ar g) (.im<|ar c)=Z (.im<|.ax<|decide (g=c)):=by
 have d:=pb g c;show (if ab.bk 8 (ar g)=aa then Z (aj.im<|.ax<|ck (ar g)<|ar c) else X)=_;rw[aB (rU g),d]
theorem o0(n:aD->aD){q:aD}(d:q∈F):aY (.aL<|b2 F n) (.im<|ar q)=Z (.im<|ar<|n q):=by
 have J:=Lx n d;show (if ab.keys 7 (dC q)=aa then (ez (b2 F n)<|dC q).map aj.im else X)=_;rw[aB (Oa q),J];rfl
theorem Q7(F:List a4):cZ [aS F]=Z (aF (F.length:Int)):=by
 show Z (aF ((F.map aC).length:Int))=_;rw[a5]
theorem Mg{D:aD}(f:F.length<=1000):cJ 1 [4,7,8] (cA<|af 1) (bb 0) d2 G.F0 (hc d F TJ Tn n TC TL (Z<|.im<|ar m)<|Z<|.im<|ar D)=Z (.lst<|F.map λc=>.tup [ar c,ar<|if n c=m then D else n c],hc d F TJ Tn n TC TL (Z<|.im<|ar m)<|Z<|.im<|ar D):=by
 refine (qX (x:=F.map ar) (m:=Z (1,aP F)) (z:=[Z d,Z .dy,Z<|aS TJ,Z<|aS Tn,Z<|.aL<|b2 F n,TC,TL,Z<|.im<|ar m,Z<|.im<|ar D]) rfl (jA _ (λc=>.tup [ar c,ar<|if n c=m then D else n c]) F (λc b=>?_) (by lia))).trans rfl;have e:=o0 n b;have p:=ub (n c) m;refine⟨[Z (.im<|ar c),Z<|.aL<|b2 F n,Z<|.im<|ar m,Z<|.im<|ar D],_,[Z (.im<|ar c),Z<|.aL<|b2 F n,Z<|.im<|ar m,Z<|.im<|ar D],rfl,rfl,?_,rfl⟩;by_cases a:n c=m
 ·rw[aB a];rw[cU a]at p;exact hV (a1 rfl<|a1 (aE<|NF (dg<|aQ (aE<|aQ rfl rfl rfl rfl e) rfl rfl rfl p) rfl) rfl) rfl (dN rfl) rfl
 ·rw[aG a];rw[dA a]at p;exact hV (a1 rfl<|a1 (aE<|N5 (dg<|aQ (aE<|aQ rfl rfl rfl rfl e) rfl rfl rfl p)<|aQ rfl rfl rfl rfl e) rfl) rfl (dN rfl) rfl
theorem M8(Tf:f4 F)(h:eF (v+1) d)(SK:jC F TJ Tn n)(x:TJ≠[]):
  ∃U j o p y B C D,sU (hc d F TJ Tn n TC TL A TS)=Z (.aZ,hc U F j o p y B C D)/\eF v U/\jC F j o p/\j.length<TJ.length:=by
 have P:=nC.mpr x;have Q:=SK.len;have ax:=Tf.len;obtain⟨s,l,E,H,TP,SU⟩:=ih (v:=v) (i:=(TJ.length:Int)) h (by lia) (by lia);obtain⟨a,c⟩:∃a,TJ[s.toNat]?=Z a:=⟨TJ[s.toNat]'(by lia),by simp⟩;obtain⟨I,rfl⟩:=h.lst;obtain⟨b,rfl⟩:=SU.lst;have q:=SK.eS a (e5 c);have k:eP (fS hH 2 ps<|ag (V<|bq 2 G.eN<|ag (af 0)<|ag (V<|bn cZ<|ag (af 2) am) am) am) (el 2<|cu (bb 5)<|cu (bb 6) ey) (hc (.lst I) F TJ Tn n TC TL A TS)=Z (.aZ,hc (.lst b) F (TJ.eraseIdx s.toNat) Tn n (Z<|.im<|ar a.1) (Z<|.im<|ar a.2) A TS):=by
  have J:(TJ.map aC)[s.toNat]?=Z (aC a):=by rw[d3,c];rfl
  have L:(0<=s/\s<((TJ.map aC).length:Int)):=⟨H,by rw[a5];exact TP⟩;have M:=Bg aC TJ s.toNat;have m:ps (aS TJ) [aF s]=Z (.im<|aC a,aS<|TJ.eraseIdx s.toNat):=by
   show (if 0<=s/\s<((TJ.map aC).length:Int) then _ else X)=_;rw[aB L,J,M];rfl
  exact hI (jv rfl rfl (dE (c2<|iF (dE rfl<|dE (c2<|kN rfl rfl<|Q7 TJ) rfl) rfl rfl E) rfl) rfl rfl m (by rfl)) (by rfl)
 have r:(TJ.eraseIdx s.toNat).length<TJ.length:=by rw[xe,aB (by lia)];lia
 have t:=o0 n q.1;have u:=o0 n q.2.1;have N:=Co (n a.1) (n a.2);obtain⟨w,e⟩:∃w:aU,w=hc (.lst b) F (TJ.eraseIdx s.toNat) Tn n (Z<|.im<|ar a.1) (Z<|.im<|ar a.2) A TS:=⟨_,rfl⟩;have f:bg (ap eZ (V<|ap aY (af 4)<|af 5)<|V<|ap aY (af 4)<|af 6) w=Z (!decide (n a.1=n a.2),w):=by
  rw[e];exact dg (aQ (aE<|aQ rfl rfl rfl rfl t) (aE<|aQ rfl rfl rfl rfl u) rfl rfl N)
 rw[<-e]at k;unfold sU;by_cases g:n a.1=n a.2
 ·rw[cU g]at f;exact⟨.lst b,_,Tn,n,Z<|.im<|ar a.1,Z<|.im<|ar a.2,A,TS,(eI k).trans ((q4 f).trans (by rw[e];rfl)),SU,SK.drop c g,r⟩
 ·rw[dA g]at f;refine⟨.lst b,_,Tn++[a],_,Z<|.im<|ar a.1,Z<|.im<|ar a.2,Z<|.im<|ar<|n a.1,Z<|.im<|ar<|n a.2,(eI k).trans<|(rD f).trans<|(eI (z:=hc (.lst b) F (TJ.eraseIdx s.toNat) (Tn++[a]) n (Z<|.im<|ar a.1) (Z<|.im<|ar a.2) A TS) ?_).trans<|(eI (z:=hc (.lst b) F (TJ.eraseIdx s.toNat) (Tn++[a]) n (Z<|.im<|ar a.1) (Z<|.im<|ar a.2) (Z<|.im<|ar<|n a.1) (Z<|.im<|ar<|n a.2)) ?_).trans ?_,SU,SK.take c g,r⟩
  ·have O:Tn.length<100000:=by lia
   rw[e];have m:hm (aS Tn) [.im (aC a)]=Z (.im .aR,aS<|Tn++[a]):=by
    have:hm (aS Tn) [.im (aC a)]=Z (.im .aR,.lst<|Tn.map aC++[aC a]):=oK (by rw[a5];exact O);rw[this];simp
   exact lF (jv rfl rfl rfl rfl rfl m rfl)
  ·exact hI (hV (a1 (aE<|aQ rfl rfl rfl rfl t)<|a1 (aE<|aQ rfl rfl rfl rfl u) rfl) rfl (dN rfl) rfl) rfl
  ·refine (us (DS Tf.ah (by lia) (Mg (by lia))) (show 4<9 by decide)).trans rfl
theorem OR(Tf:f4 F)(h:eF (v+100) d):∃(U:aj) (L Tn:List a4) (n:aD->aD),o7 [d,aP F]=Z (.im<|.tup<|L.map aC,[U,aP F])/\eF v U/\L.Perm Tn/\je F Tn n/\(L.map aC).Pairwise (λg c=>bx g c=aa)/\∀a,gZ F a->n a.1=n a.2:=by
 have ax:=Tf.len;have bk:=pE F F;obtain⟨SO,E,Te⟩:=yN Tf;have t:jC F SO [] (λc=>c):=⟨.nil,by rw[i7];exact Te.nodup_iff.mpr (yU Tf.ah),by
  have:SO.length=(F.flatMap<|eG F).length:=Te.length_eq;rw[sL];lia,λa s=>iq.mp<|Te.mem_iff.mp s,λa s=>.inl<|Te.mem_iff.mpr<|iq.mpr s⟩
 obtain⟨o,rfl⟩:=h.lst;have I:kq 2 3 (ag (V<|bq 1 G.l9<|ag (af 1) am)<|ag (V<|dq am) am) [Z (.lst o),Z<|aP F,X,X,X,X,X,X,X]=Z (.aZ,[Z (.lst o),Z<|aP F,Z<|aS SO,Z<|aS [],X,X,X,X,X]):=by
  refine vM (dE (c2<|iF rfl rfl rfl E) rfl) rfl (show 2<9 by decide) (show 3<9 by decide) rfl
 have J:cJ 1 [] (cA<|af 1) (bb 0) d2 G.zy [Z (.lst o),Z<|aP F,Z<|aS SO,Z<|aS [],X,X,X,X,X]=Z (.lst<|F.map λc=>.tup [ar c,ar c],[Z (.lst o),Z<|aP F,Z<|aS SO,Z<|aS [],X,X,X,X,X]):=by
  refine (qX (x:=F.map ar) (m:=Z (1,aP F)) (z:=[Z (.lst o),Z .dy,Z<|aS SO,Z<|aS [],X,X,X,X,X]) rfl (jA _ (λq=>.tup [ar q,ar q]) _ (λq mb=>?_) (by lia))).trans rfl;exact⟨[Z (.im<|ar q)],_,[Z (.im<|ar q)],rfl,rfl,rfl,rfl⟩
 have M:bL 4 (bn nx<|ag (V<|cJ 1 [] (cA<|af 1) (bb 0) d2 G.zy) am) [Z (.lst o),Z<|aP F,Z<|aS SO,Z<|aS [],X,X,X,X,X]=Z (.aZ,hc (.lst o) F SO [] (λc=>c) X X X X):=
  (us (DS (n:=λc=>c) Tf.ah (by lia) J) (show 4<9 by decide)).trans rfl;obtain⟨S4,N,U,Tn,n,e,f,j,l,rfl,R,p⟩:=xs (q:=G2) (c:=sU) (λi w=>∃d TJ Tn n e f j l,w=hc d F TJ Tn n e f j l/\eF (v+TJ.length) d/\jC F TJ Tn n/\TJ.length<=i) (λw=>∃d Tn n e f j l,w=hc d F [] Tn n e f j l/\eF v d/\jC F [] Tn n)
  (λi w O=>by
   obtain⟨d,TJ,Tn,n,e,f,j,l,rfl,y,B,P⟩:=O;cases TJ with
   |nil=>exact⟨al,_,rfl,(λu=>by cases u),λ_=>⟨d,Tn,n,e,f,j,l,rfl,y,B⟩⟩
   |cons r TJ=>
    refine⟨aa,hc d F (r::TJ) Tn n e f j l,?_,λ_=>?_,(λu=>by cases u)⟩
    ·have Q:ab.cQ 8 ((r::TJ).map aC)=aa:=by
      have:∀H:List a4,ab.cQ 8 (H.map aC)=aa:=λH=>by
       induction H with
       |nil=>rfl
       |cons g H S=>rw[ci,ab.cQ,S];rfl
      exact this _
     have T:eZ (aS (r::TJ)) (.lst [])=Z (.im<|.ax aa):=by
      have be:e2 ((r::TJ).map aC) []=al:=rfl;simp only[eZ,Q,be];rfl
     show (((eZ (aS (r::TJ))<|.lst []).map λk=>(k,hc d F (r::TJ) Tn n e f j l)).bind λn=>(kU n.1).map λc=>(c,n.2))=_;rw[T];rfl
    ·obtain⟨U,C,bs,cl,co,eq,ex,fd,a,R,p,H⟩:=M8 (v:=v+TJ.length) (TC:=e) (TL:=f) (A:=j) (TS:=l) Tf y B (by simp);rw[c7]at H P;exact⟨.aZ,_,a,.inl rfl,C.length,by lia,U,C,bs,cl,co,eq,ex,fd,rfl,R.mono (by lia),p,bm _⟩) 1000000 SO.length _ ⟨.lst o,SO,[],_,X,X,X,X,rfl,h.mono (by have:=t.len;simp at this;lia),t,bm _⟩ (by have:=t.len;simp at this;lia)
 have D:=p.ah;have fn:=p.len;rw[bU]at D;rw[sL]at fn;obtain⟨L,f1,go,g1⟩:=DK (w:=hc U F [] Tn n e f j l) (b:=3) D (by lia) rfl;refine⟨U,L,Tn,n,?_,R,f1,p.lU,g1,λa s=>(p.yL a s).resolve_left (by simp)⟩;obtain⟨hd,rfl⟩:=R.lst;unfold o7 zI;exact jV (hc (.lst hd) F [] Tn n e f j l) rfl ((eI I).trans<|(eI M).trans<|(eI N).trans<|d5<|mT go) rfl
theorem Qm(d:q∈F):gy (b2 F p) (dC q) (ar k)=b2 F (λc=>if c=q then k else p c):=by
 have b:((b2 F p).any λe=>decide (e.1=dC q))=aa:=nw.mpr ⟨(dC q,ar<|p q),cX.mpr ⟨q,d,rfl⟩,cU rfl⟩;unfold gy;rw[aB b];unfold b2;rw[gJ];refine q2 λc Y=>?_;show (if dC c=dC q then (dC c,ar k) else (dC c,ar<|p c))=(dC c,ar<|if c=q then k else p c);by_cases a:c=q
 ·rw[aB (congrArg dC a),aB a]
 ·rw[aG λD=>a<|n3 D,aG a]
theorem P7(d:∀c∈F,n c=p c):b2 F n=b2 F p:=q2 λc a=>by rw[d c a]
theorem s3{Ta:Type}{q k:Prop}[Decidable q][Decidable k]{g c:Ta}(d:q↔k):(if q then g else c)=if k then g else c:=by
 by_cases a:q
 ·rw[aB a,aB<|d.mp a]
 ·rw[aG a,aG λD=>a<|d.mpr D]
noncomputable def iP(s I:aD)(p:aD->aD)(q:aD):aD->aD:=λc=>if c=q/\p q=s then I else p c
theorem AJ{s I:aD}(ne:I≠s):∀(d:List aD) (p:aD->aD) (c:aD),d.foldl (iP s I) p c=if c∈d/\p c=s then I else p c
 |[],p,c=>by rw[aG λb=>nomatch b.1];rfl
 |q::d,p,c=>by
  rw[jF,AJ ne d];by_cases b:c=q
  ·subst b;by_cases D:p c=s
   ·have a:iP s I p c c=I:=aB ⟨rfl,D⟩;rw[a,aG λt=>ne t.2,aB ⟨.head _,D⟩]
   ·have a:iP s I p c c=p c:=aG λt=>D t.2;rw[a,aG λt=>D t.2,aG λt=>D t.2]
  ·have a:iP s I p q c=p c:=aG λt=>b t.1;rw[a];refine s3 ?_;rw[bI];exact⟨λt=>⟨.inr t.1,t.2⟩,λt=>⟨t.1.resolve_left b,t.2⟩⟩
theorem Qy(d:q∈F)(a:F.length<=1000):ha (.aL<|b2 F p) (.im<|ar q) (.im<|ar k)=Z (.aL<|b2 F<|λc=>if c=q then k else p c):=by
 rw[<-Qm d];exact aB ⟨rfl,by unfold b2;rw[a5];lia⟩
end G
namespace L2
open PySem PySem.Spec PyProof.Rows
variable{p G:List (ai×a0)}{Um:ae->ak->Prop}{SX:List vX}{TN:vX}{T9:List bz}{T6 dJ Un S1 n:Pos}{az Tw P:ai}{j T5:ak}{y:St}{SM:fA}{Tp H:List dP}{O:bp}{Ud T8:ae}{S9:gs}{Uj h:au}{A:Unit->ak->Prop}{T:Array ae}{TO:a0}{U d:aT}{S0:List ai}{D:a9}{SS:bw}{TI TT:av bl}{c a g:a8}{b o v:Nat}{Q:List a8}{J:av (List bl)}{S8:List Nat}{Tb SO:List ay}{TU e:ay}{SK:PySem.W.Frag}{SV:cN}
noncomputable def p2:List (ai×a0)->Bool
 |[]=>aa
 | (_,m)::r=>(match m.data with
  |.seq _ _=>(match m.cls with | .type v=>v != "list" |_=>aa)
  |_=>aa)&&p2 r
theorem Iu{SK:List (ai×a0)}{g:ai}{m:a0}{SZ:Array ae}(d:p2 SK=aa)(a:SK.lookup g=Z m)(b:m.cls=.type "list")(hd:m.data=.seq SZ v):False:=by
 induction SK with
 |nil=>cases a
 |cons n r f=>
  obtain⟨c,e⟩:=n;rw[p2,cd]at d;simp only[List.lookup]at a;split at a
  ·cases a;have l:=d.1;rw[hd]at l;dsimp only at l;rw[b]at l;exact absurd l (by decide)
  ·exact f d.2 a
theorem CJ{h:au}:∀S:List Int,bu h (S.map .int) (S.map as.int)
 |[]=>rfl
 |v::r=>⟨.int v,_,rfl,rfl,CJ r⟩
theorem N6(b:p2 SK=aa)(h:au)(g:ai)(S:List Int)(c:sd h)(e:c5 SK h g (S.map as.int))(bt:∃Ua,SV [.cO (S.map .int)]=Z (.im<|.ax aa,Ua)){SM:fA}:jm 1 SV [.ref g] h (λs Y=>s=.ax aa) SM:=by
 obtain⟨Ua,bt⟩:=bt;have f:∃m,h g=Z (.de m<|.lst<|S.map as.int):=by
  rcases e with (d|d)|⟨m,SZ,v,l,C,k,i,_⟩
  ·rcases c g with a|⟨m,x,a⟩
   ·rw[a]at d;cases d
   ·rw[a]at d;cases d
  ·exact d
  ·exact (Iu b l C i).elim
 obtain⟨m,j⟩:=f;refine⟨rfl,[.cO (S.map .int)],[],.im<|.ax aa,Ua,⟨_,_,[],[],rfl,⟨g,_,m,rfl,j,CJ S,rfl⟩,⟨rfl,rfl⟩,rfl⟩,io,bt,λs R SQ B d Y Y=>?_⟩;exact d.1
theorem pN{S7:List ae}(d:S7.length=v+1):∃g r,S7=g::r/\r.length=v:=by
 cases S7 with
 |nil=>cases d
 |cons g r=>exact⟨g,r,rfl,Nat.succ.inj d⟩
theorem gq.Jt{st:bz}{fd:gp}(N:gq SK e TU st P fd)(d:∀(ct w Te:ae) (k:Option ai) (z ca:ae) (g:ae),l1 (PySem.W.fnOf e TU (iW st) (gE st) (cL st) .none ct w Te k z ca) ⟨[g],[]⟩=pure (SO.zip [g]))(b:SO.length=1:=by rfl):hv SK fd SO []:=
 N.binds λct w Te k z ca S7 a=>by
  replace a:=a.trans b;obtain⟨g,c,rfl,l⟩:=pN a;obtain rfl:=o4 l;exact d ct w Te k z ca g
theorem gq.I6{st:bz}{fd:gp}(N:gq SK e TU st P fd)(d:∀(ct w Te:ae) (k:Option ai) (z ca:ae) (g c:ae),l1 (PySem.W.fnOf e TU (iW st) (gE st) (cL st) .none ct w Te k z ca) ⟨[g,c],[]⟩=pure (SO.zip [g,c]))(b:SO.length=2:=by rfl):hv SK fd SO []:=
 N.binds λct w Te k z ca S7 a=>by
  replace a:=a.trans b;obtain⟨g,f,rfl,l⟩:=pN a;obtain⟨c,h,rfl,C⟩:=pN l;obtain rfl:=o4 C;exact d ct w Te k z ca g c
theorem gq.Qd{st:bz}{fd:gp}(N:gq SK e TU st P fd)(d:∀(ct w Te:ae) (k:Option ai) (z ca:ae) (g c q:ae),l1 (PySem.W.fnOf e TU (iW st) (gE st) (cL st) .none ct w Te k z ca) ⟨[g,c,q],[]⟩=pure (SO.zip [g,c,q]))(b:SO.length=3:=by rfl):hv SK fd SO []:=
 N.binds λct w Te k z ca S7 a=>by
  replace a:=a.trans b;obtain⟨g,h,rfl,l⟩:=pN a;obtain⟨c,i,rfl,C⟩:=pN l;obtain⟨q,j,rfl,f⟩:=pN C;obtain rfl:=o4 f;exact d ct w Te k z ca g c q
structure eT where
 P:bw
 w:a9
 K:PySem.W.Frag
 aw:ay->Option ae
 base:aT
def dx(SK:PySem.W.Frag)(e:ay)(st:bz)(P:ai):Prop:=∃fd,gq SK e e st P fd/\PySem.W.nsIn SK du e=Z (Z<|.ref P)
def dD(SK:PySem.W.Frag)(aw:ay->Option ae)(e:ay)(st:bz)(P:ai)(SO:List ay):Prop:=∃fd,gq SK e e st P fd/\hv SK fd SO []/\aw e=Z (.ref P)
def cS(SS:bw)(D:a9)(SK:PySem.W.Frag)(aw:ay->Option ae)(SW:aT)(o:Nat)(e:ay)(st:bz)(P:ai)(SO:List ay)(v:Nat)(SV:cN):Prop:=∃fd,gq SK e e st P fd/\hv SK fd SO []/\aw e=Z (.ref P)/\gx SS D SK aw SW hA o P fd SO (jm v SV)
abbrev fa(q:eT):=cS q.P q.w q.K q.aw q.base
theorem FK{st:bz}{C:ae}{l k:Option ai}{L:Array (Option ae)}{ct w Te z ca:ae}(g:PySem.W.nsIn SK du e=Z (Z<|.ref P))(H:SK.lookup P=Z ⟨C,l,.func<|PySem.W.fnOf e e (iW st) (gE st) (cL st) .none ct w Te k z ca,L⟩)(q:PySem.W.codeIn SK z e=aa)(o:PySem.W.keepIn SK (.ref P)=aa):dx SK e st P:=⟨_,Lu H q o,g⟩
section
variable{SS:bw}{D:a9}{SK:PySem.W.Frag}{aw:ay->Option ae}{SW d:aT}{o v:Nat}{e:ay}{st:bz}{P:ai}{SO:List ay}{SV:cN}
theorem dx.cz(r:dx SK e st P)(f:SK.In d)(a:d.Ns du aw)(b:∀(ct w Te:ae) (k:Option ai) (z ca g:ae),l1 (PySem.W.fnOf e e (iW st) (gE st) (cL st) .none ct w Te k z ca) ⟨[g],[]⟩=pure (SO.zip [g]))(c:SO.length=1:=by rfl):dD SK aw e st P SO:=
 have ⟨_,I,g⟩:=r
 ⟨_,I,I.Jt b c,nN f a g⟩
theorem dx.b3(r:dx SK e st P)(f:SK.In d)(a:d.Ns du aw)(b:∀(ct w Te:ae) (k:Option ai) (z ca g c:ae),l1 (PySem.W.fnOf e e (iW st) (gE st) (cL st) .none ct w Te k z ca) ⟨[g,c],[]⟩=pure (SO.zip [g,c]))(h:SO.length=2:=by rfl):dD SK aw e st P SO:=
 have ⟨_,I,g⟩:=r
 ⟨_,I,I.I6 b h,nN f a g⟩
theorem dx.rn(r:dx SK e st P)(f:SK.In d)(a:d.Ns du aw)(b:∀(ct w Te:ae) (k:Option ai) (z ca g c q:ae),l1 (PySem.W.fnOf e e (iW st) (gE st) (cL st) .none ct w Te k z ca) ⟨[g,c,q],[]⟩=pure (SO.zip [g,c,q]))(h:SO.length=3:=by rfl):dD SK aw e st P SO:=
 have ⟨_,I,g⟩:=r
 ⟨_,I,I.Qd b h,nN f a g⟩
theorem cS.m(az:cS SS D SK aw SW o e st P SO v SV):aw e=Z (.ref P):=have ⟨_,_,_,i,_⟩:=az;i
theorem cS.fd{fd:gp}(az:cS SS D SK aw SW o e st P SO v SV)(I:gq SK e e st P fd):gx SS D SK aw SW hA o P fd SO (jm v SV):=by
 obtain⟨d,c,Y,Y,J⟩:=az;obtain⟨C,l,ct,w,Te,k,z,ca,L,a,H,Y⟩:=I.ex;obtain⟨f,g,h,i,j,m,n,p,q,r,b,Y⟩:=c.ex;rw[H]at b;cases b;exact J
theorem QT(r:dx SK e st P)(f:SK.In d)(b:d.Ns du aw){a:ai}(h:aw e=Z (.ref a)){n:ay}(i:∀(ct w Te:ae) (k:Option ai) (z ca:ae) (j:ak) (s:ae),lP j (PySem.W.fnOf e e (iW st) (gE st) (cL st) .none ct w Te k z ca) ⟨[s],[]⟩ [(n,s)])(az:∀SW,cS SS D SK aw SW o e st P [n] v SV):
  ∃fd:gp,(∀(j:ak) (s:ae),lP j fd ⟨[s],[]⟩ [(n,s)])/\∀SW:aT,SK.In SW->SW.Ns du aw->gx SS D SK aw SW hA o a fd [n] (jm v SV):=by
 obtain⟨fd,I,g⟩:=r;cases h.symm.trans (nN f b g);refine⟨fd,?_,λc Y Y=>(az c).fd I⟩;obtain⟨C,l,ct,w,Te,k,z,ca,L,rfl,H,Y⟩:=I.ex;exact i ct w Te k z ca
theorem RY{J:bj}(N:dD SK aw e st P SO)(S0:ki Tb SO (cL st))(a:SO.length=v)(d:∀b∈S8,b<v)(f:Tb.Nodup->∀(z:ae) (O:bp) (Tp:List dP) (j:ak) (h:au) (SM:fA),dV o (O.deeper<|hS e (cL st) j.heap.objs.size P z)->g_ (ia hA SS D SK aw SW Tb e (cL st) P z O Tp j h SM).nB S8 (gE st) J):
  cS SS D SK aw SW (o+1) e st P SO v (c6 v Tb.length S8 J):=
 have ⟨_,I,c,i⟩:=N
 ⟨_,I,c,i,Ko I S0 a d<|f S0.ah⟩
end
section
variable{f:aH}
variable{i:Nat}
theorem H6{st:bz}(az:cS f.prog f.w f.K f.aw f.base o e st P SO v SV)(b:dV i f.A)(d:dU f e)(g:eR f (a::Q) J)(h:o<=i:=by decide)(j:(e==("__debug__" : ay))=al:=by decide)(k:bG (a::Q) f.env=(al,bQ a f.env)::bG Q f.env:=by rfl)(l:(eJ S1<|bG Q f.env).any (·.1)=al:=by rfl):
  b4 f (.Call (.Name e n) (a::Q) [] S1) (bq v SV J):=
 have ⟨_,I,c,i,N⟩:=az
 Jf N (b.mono h) d i I.cP c g j k l
theorem Aa{st:bz}{t:ay}(az:cS f.prog f.w f.K f.aw f.base o t st P SO v SV)(d:dV i f.A)(g:bC f (.Name e n) (lq b))(h:eR f (a::Q) J)(j:o<=i:=by decide)(k:bG (a::Q) f.env=(al,bQ a f.env)::bG Q f.env:=by rfl)(l:(eJ S1<|bG Q f.env).any (·.1)=al:=by rfl):
  b4 f (.Call (.Name e n) (a::Q) [] S1) (qb b P v SV J):=
 have ⟨_,I,c,_,N⟩:=az
 QD N (d.mono j) g I.cP c h k l
theorem a3{b:Int}{u S1}:dd f (.Constant (.int b) u S1) (V<|aq<|.int b):=aK fE
theorem an(b:Nat){e:ay}{S1:Pos}(a:f.N[b]?=Z e:=by rfl)(c:tb f.env.scope e:=by first|exact Or.inl rfl|exact Or.inr (Or.inl rfl)|exact Or.inr (Or.inr rfl))(hd:(e==("__debug__" : ay))=al:=by decide)(d:(e==("__classdict__" : ay))=al:=by decide):dd f (.Name e S1) (af b):=PJ (zV a c hd d)
theorem a2{J:av bl}(b:dd f a J)(SX:bG [a] f.env=(al,bQ a f.env)::bG [] f.env:=by rfl):eR f [a] (ag J am):=fL b i8 SX
theorem h0(a:dV i f.A)(b:dd f g TT)(d:dd f c TI)(SX:sS c:=by exact λ_ Y=>rfl):b4 f (.Subscript g c S1) (ap aY TT TI):=Mh (Po (by have:=a.un;omega)) b d SX
variable{d:av bl}
theorem bF{P:a8}{J:av bl}(b:dd f a J)(c:dd f P d)(SX:bG [a,P] f.env=(al,bQ a f.env)::bG [P] f.env:=by rfl)(C:bG [P] f.env=(al,bQ P f.env)::bG [] f.env:=by rfl):eR f [a,P] (ag J<|ag d am):=fL b (a2 c C) SX
theorem ir{P k:a8}{J o:av bl}(b:dd f a J)(c:dd f P d)(hd:dd f k o)(SX:bG [a,P,k] f.env=(al,bQ a f.env)::bG [P,k] f.env:=by rfl)(l:bG [P,k] f.env=(al,bQ P f.env)::bG [k] f.env:=by rfl)(C:bG [k] f.env=(al,bQ k f.env)::bG [] f.env:=by rfl):eR f [a,P,k] (ag J<|ag d<|ag o am):=fL b (bF c hd l C) SX
theorem c4(b:Nat){e:ay}{a:a8}{J:av aj}{S1 L:Pos}(c:f.N.Nodup)(d:b4 f a J)(SJ:f.N[b]?=Z e:=by rfl)(g:Loc f.env.scope e:=by exact Or.inl rfl)(h:b∉S8:=by decide)(SX:lg a (Z<|.Name e L) S1.line f.env=pure al:=by rfl)(i:f.fn e=aa\/f.env.scope.names.lookup e=Z .local:=by first|exact .inl rfl|exact .inr rfl|assumption):fU f S8 (.Assign [.Name e L] a S1) (bL b J):=l_ c SJ g d h SX i
theorem e7(b:Nat){e:ay}{S1:Pos}(a:f.N.Nodup)(SJ:f.N[b]?=Z e:=by rfl)(c:Loc f.env.scope e:=by exact Or.inl rfl)(d:b∉S8:=by decide)(g:f.fn e=aa\/f.env.scope.names.lookup e=Z .local:=by first|exact .inl rfl|exact .inr rfl|assumption):h1 f S8 (.Name e S1) (bb b):=eM a SJ c d g
theorem iw{J d:eX}{a}(b:h1 f S8 g J)(e:h1 f S8 c d)(h:f.calm=aa:=by rfl)(l:(fb [g,c] f.env).map (·.2)=ho g f.env::(fb [c] f.env).map (·.2):=by rfl)(C:(fb [c] f.env).map (·.2)=ho c f.env::(fb [] f.env).map (·.2):=by rfl)(i:(fb [g,c] f.env).length=2:=by rfl)(j:(fb [g,c] f.env).findIdx? (·.1)=X:=by rfl):h1 f S8 (.Tuple [g,c] a S1) (el 2<|cu J<|cu d ey):=Qw h (Cs b (Cs e OY C) l) i j
theorem c3{id:String}{Tx:List aj->Option aj}(b:gQ f (.builtin id) Tx)(c:f.aw e=X)(d:eE e=Z (.builtin id))(g:eR f (a::Q) J)(h:dU f e:=by rfl)(i:e ≠ "__name__" := by decide)(j:(e==("__debug__" : ay))=al:=by decide)(k:bG (a::Q) f.env=(al,bQ a f.env)::bG Q f.env:=by rfl)(l:(eJ S1<|bG Q f.env).any (·.1)=al:=by rfl):
  b4 f (.Call (.Name e n) (a::Q) [] S1) (bn Tx J):=Mi b h c d g i j k l
theorem cs{st:bz}(az:cS f.prog f.w f.K f.aw f.base o e st P SO v SV)(b:dV i f.A)(c:eR f (a::Q) J)(d:dU f e:=by rfl)(g:o<=i:=by decide)(h:(e==("__debug__" : ay))=al:=by decide)(j:bG (a::Q) f.env=(al,bQ a f.env)::bG Q f.env:=by rfl)(k:(eJ S1<|bG Q f.env).any (·.1)=al:=by rfl):
  b4 f (.Call (.Name e n) (a::Q) [] S1) (bq v SV J):=H6 az b d c g h j k
theorem cD(a:dV i f.A)(b:dd f g TT)(d:dd f c TI)(SX:sS c:=by exact λ_ Y=>rfl):dd f (.Subscript g c S1) (V<|ap aY TT TI):=aK (h0 a b d SX)
theorem bT{Tx:w0}{P:aj->aj->Option aj}(a:eA f (fW Tx) P)(b:dd f g TT)(d:dd f c TI):dd f (.BinOp g Tx c S1) (V<|ap P TT TI):=aK (fi a b d)
theorem b1{a}(d:eR f Q J):dd f (.Tuple Q a S1) (V<|bv J):=aK (ko d)
end
section
variable{SS:bw}{D:a9}{SK:PySem.W.Frag}{aw:ay->Option ae}{SW d:aT}{o v:Nat}{e:ay}{st:bz}{P:ai}{SO:List ay}{SV:cN}
theorem DY{SS:List ay}{B:gs}(g:B.kind=.function:=by rfl)(c:B.isCoroutine=al:=by rfl)(q:B.isGenerator=al:=by rfl)(k:Tb.Nodup:=by decide +kernel)(a:Tb.take SS.length=SS:=by rfl)(P:∀e∈SS,B.names.lookup e=Z .local\/B.names.lookup e=Z .cell:=by decide +kernel)(J:∀t∈B.names,t.2≠.free:=by decide +kernel):ki Tb SS B:=⟨g,c,q,k,a,P,J⟩
theorem ef{J:bj}(Tb:List ay)(N:dD SK aw e st P SO)(a:Tb.Nodup->∀(z:ae) (O:bp) (Tp:List dP) (j:ak) (h:au) (SM:fA),dV o (O.deeper<|hS e (cL st) j.heap.objs.size P z)->g_ (ia hA SS D SK aw SW Tb e (cL st) P z O Tp j h SM).nB S8 (gE st) J)(S0:ki Tb SO (cL st):=by exact DY)(c:SO.length=v:=by rfl)(d:∀b∈S8,b<v:=by decide):cS SS D SK aw SW (o+1) e st P SO v (c6 v Tb.length S8 J):=RY N S0 c d a
end
theorem c_.gone{g:ai}(e:c_ SS D h d)(v:d.get? g=X):h g=X:=by
 cases p:h g with
 |none=>rfl
 |some m=>
  have f:∃I,d.get? g=Z I:=by
   have b:=e g m p;clear p;induction m with
   |lst x=>obtain⟨Y,SZ,i,Y,a⟩:=b;exact⟨_,a⟩
   |tup x=>obtain⟨Y,SZ,Y,c,a,Y⟩:=b;exact⟨_,a⟩
   |dm M=>obtain⟨Y,Y,T,Y,c,Q,Td,a,Y⟩:=b;exact⟨_,a⟩
   |aL M=>obtain⟨Y,Y,x,Y,c,Q,Td,a,Y⟩:=b;exact⟨_,a⟩
   |set S0 i=>obtain⟨c,Q,Td,B,a,Y⟩:=b;exact⟨_,a⟩
   |ins az z aA=>obtain⟨Y,Y,Y,a,Y⟩:=b;exact⟨_,a⟩
   |own _=>exact b
   |uF aA=>obtain⟨L,⟨m,Q,Td,a,Y⟩,Y⟩:=b;exact⟨_,a⟩
   |jN S SJ=>obtain⟨B,I,s,a⟩:=b;exact⟨_,a⟩
   |de c I j=>exact⟨_,b.1⟩
   |lS SO=>exact⟨_,b⟩
   |met P t=>exact⟨_,b⟩
   |ext k=>exact b.2.1
  obtain⟨I,a⟩:=f;rw[v]at a;cases a
section
variable{av:fz}{O:bp}{Um:ae->ak->Prop}{j:ak}{SS:bw}{D:a9}{h:au}{SW:aT}{SL:dP}{Tp:List dP}{Tw a:ai}
theorem wN(b:j.heap.FunFrames SW H)(SX:∀c∈ds H,c∈S0):j.heap.FunFrames (PySem.W.hideAll j.heap S0) H:=by
 induction H with
 |nil=>trivial
 |cons e r d=>
  obtain⟨f,⟨Tw,m,a,Y,g,hd⟩,h⟩:=b;refine⟨f,⟨Tw,m,a,nT S0<|SX Tw ?_,g,hd⟩,d h λc i=>SX c ?_⟩
  ·show Tw∈(e::r).filterMap (·.frame);rw[lC,a];exact .head _
  ·show c∈(e::r).filterMap (·.frame);rw[lC,a];exact .tail _ i
theorem w_(f:j.heap.FunFrames SW H)(i:∀c∈S0,h c=X){x:List ai}(k:∀c∈S0,c∈ds H\/c∈x)(aV:c_ SS D h j.heap)(Tj:(PySem.W.hideAll j.heap S0).StaysIn U)(l:∀c m,j.heap.get? c=Z m->(∀T,m.data≠.fields T)->∃aW,U.get? c=Z {m with slots:=aW}):dz (ds H) x h h j.heap U/\c_ SS D h U:=by
 have keep:∀c m,j.heap.get? c=Z m->c∉S0->U.get? c=Z m:=λc m p v=>Tj c m (rH S0 p v);refine⟨⟨λc m p Y n aZ=>keep c m p λa=>(k c a).elim n aZ,λc m p Y e Y=>?_,λ_ Y Y v Y=>v,λc m p aZ=>?_,λ_ Y p=>p,λ_ Y Y p=>p,λ_ SO p=>⟨#[],by rw[p];simp⟩⟩,λg m p=>?_⟩
 ·obtain⟨Y,Tq,d,hd⟩:=f.mem e;rw[p]at d;cases d;exact l c m p hd
 ·by_cases b:c∈S0
  ·rcases k c b with e|o
   ·obtain⟨Y,Tq,d,hd⟩:=f.mem e;rw[p]at d;cases d;obtain⟨aW,q⟩:=l c m p hd;exact⟨_,q⟩
   ·exact absurd o aZ
  ·exact⟨m,keep c m p b⟩
 ·refine (aV g m p).gl (λc I b r=>keep c I r λa=>?_) (λ_ a=>a) λ_ Y a=>a;rcases b with rfl|b
  ·rw[i c a]at p;cases p
  ·rw[i c a]at b;cases b
def Fn(h:au)(TN d:aT)(a:ai)(cls T8:ae):Prop:=∃TO T L b Tn,d.get? a=Z TO/\(TO.cls=cls/\T[0]?=Z T8)/\TO.data=.fields T/\T[1]?=Z (.ref L)/\TN.get? L=X/\L≠a/\d.get? L=Z b/\b.data=.fields Tn/\Tn[3]?=Z .none/\h L=X
theorem HO(u:O.frames=Z (SL::Tp))(f:j.heap.FunFrames SW (SL::Tp))(v:SL.frame=Z Tw)(w:j.heap.get? a=Z TO)(hd:TO.data=.fields T)(l:T[1]?=Z .none)(TN:T[0]?=Z T8)(y:h a=X)(z:∀c∈ds (SL::Tp),h c=X)(aV:c_ SS D h j.heap)(d:∀U,dz (ds (SL::Tp)) [a] h h j.heap U->c_ SS D h U->Fn h j.heap U a TO.cls T8->A () {j with heap:=U}):wpAny av O (leaving SL<|.ref a) A Um j:=by
 have g:∀c∈a::ds (SL::Tp),c∈ds (SL::Tp)\/c∈[a]:=λc b=>by
  rcases bI.mp b with r|r
  ·rw[r];exact .inr (.head _)
  ·exact .inl r
 refine wpAny_leaving_firstW (base:=PySem.W.hideAll j.heap (a::ds (SL::Tp))) u (wN f λc b=>.tail _ b) v w (λc m p=>ux _ p) (nT _<|.head _) hd l TN λU B=>?_;obtain⟨Tj,Y,C,i⟩:=B;obtain⟨E,F,L,G,Tn,H,J,M,N,k,n,o,q,P⟩:=C;obtain⟨I,Q⟩:=w_ (SS:=SS) (D:=D) f (λc b=>(g c b).elim (z c) λR=>by rw[bW.mp R];exact y) (x:=[a]) g aV Tj i;have e:j.heap.get? L=X:=by
  cases p:j.heap.get? L with
  |none=>rfl
  |some m=>
   by_cases e:L∈a::ds (SL::Tp)
   ·rcases bI.mp e with r|r
    ·exact absurd r n
    ·obtain⟨Y,Tq,S,s⟩:=f.mem r;obtain⟨aW,t⟩:=i L Tq S s;rw[o]at t;cases t;exact absurd q (s Tn)
   ·rw[rH _ p e]at k;cases k
 exact d U I Q ⟨E,F,L,G,Tn,H,J,M,N,e,n,o,q,P,aV.gone e⟩
end
theorem dz.out{aA:List ai}{TN l C:aT}{a:ai}(g:dz aA [] Uj h TN l)(c:dz (Tw::aA) [a] h h l C)(j:∀q m,TN.get? q=Z m->q≠Tw)(k:∀q m,TN.get? q=Z m->q≠a):dz aA [] Uj h TN C:=by
 have aZ:∀q m,TN.get? q=Z m->q∉[a]:=λq m p d=>k q m p (bW.mp d);have n:∀q m,TN.get? q=Z m->q∉aA->q∉Tw::aA:=λq m p v d=>(bI.mp d).elim (j q m p) v;have b:∀q:ai,q∉([]:List ai):=λq d=>by cases d
 refine⟨λq m p v e Y=>c.keep q m (g.keep q m p v e<|b q) (g.free q m p v<|b q) (n q m p e)<|aZ q m p,λq m p v e Y=>?_,λq m p v Y=>g.free q m p v<|b q,λq m p Y=>?_,λq x p=>c.hR q x<|g.hR q x p,λq m I p=>c.hM q m I<|g.hM q m I p,λq SO p=>?_⟩
 ·obtain⟨aW,f⟩:=g.slot q m p v e (b q);obtain⟨o,i⟩:=c.slot q _ f (g.free q m p v<|b q) (.tail _ e) (aZ q m p);exact⟨o,i⟩
 ·obtain⟨Tq,f⟩:=g.there q m p (b q);exact c.there q Tq f (aZ q m p)
 ·obtain⟨r,f⟩:=g.iz q SO p;obtain⟨s,i⟩:=c.iz q _ f;exact⟨r++s,by rw[i,Bw]⟩
def my(SS:bw)(D:a9):jd:=λTp h j SM iL SN=>∃(a az:ai) (T8:ae) (R:au),iL=.ref a/\SN.os=j.os/\j0 SN.gens/\dz (ds Tp) [] h R j.heap SN.heap/\c_ SS D R SN.heap/\j.heap.get? a=X/\R a=X/\Fn R j.heap SN.heap a (.ref az) T8/\SM (.ref az) X R
theorem JG{aw:ay->Option ae}{SW:aT}{a:ai}{Tk:Nat}(Y:Inv (ia (my SS D) SS D SK aw SW Tb TU S9 P Ud O Tp T5 Uj SM) G y h j)(o:∀c I,j.heap.get? c=Z I->U.get? c=Z I)(v:j.heap.get? a=X)(k:U.get? a=Z TO)(n:TO.cls=.ref az)(hd:TO.data=.fields T)(l:T[1]?=Z .none)(TN:T[0]?=Z T8)(r:SM (.ref az) X h):
  (ia (my SS D) SS D SK aw SW Tb TU S9 P Ud O Tp T5 Uj SM).ce (.ref a) {j with heap:=U,toks:=Tk}:=by
 have Tt:=Y.kept (Tk:=Tk) o;have f:h a=X:=Y.aV.gone v;refine HO (SW:=SW) (SS:=SS) (D:=D) (h:=h) (Tw:=T5.heap.objs.size) Tt.ok.frames Tt.stack rfl k hd l TN f Tt.rz Tt.aV λC un s g=>?_;rw[n]at g;obtain⟨t,u,L,w,Tn,x,z,A,B,i,E⟩:=g;have d:∀q m,T5.heap.get? q=Z m->∃Tq,j.heap.get? q=Z Tq:=λq m p=>Y.base.there q m p λe=>by cases e
 refine⟨a,az,T8,h,rfl,Tt.os,Tt.bare,?_,s,?_,f,⟨t,u,L,w,Tn,x,z,A,B,?_,E⟩,r⟩
 ·refine dz.out (Tw:=T5.heap.objs.size) (a:=a) Tt.base un (λq m p=>cT<|bX p) λq m p e=>?_;obtain⟨Tq,b⟩:=d q m p;rw[e,v]at b;cases b
 ·cases p:T5.heap.get? a with
  |none=>rfl
  |some m=>
   obtain⟨Tq,b⟩:=d a m p;rw[v]at b;cases b
 ·cases p:T5.heap.get? L with
  |none=>rfl
  |some m=>
   obtain⟨Tq,b⟩:=d L m p;rw[o L Tq b]at i;cases i
theorem O6{n:List ae}{o:String}(f:SK.In d)(p:PySem.W.excIn SK az n o=aa):∃a Tb k b F c e b9 g cl h i Tj Tr j l q,d.get? az=Z (excClassObj k b az Tb F a c e b9 g cl h i Tj Tr j l o)/\d.Ns Tb q/\q "__init__" = X/\OwnTail d n a:=by
 unfold PySem.W.excIn at p;split at p
 ·rename_i h Ud aW lk;split at p
  ·rename_i A a i Tj Tr j B l r s;rw[cd,cd,cd,cd,cd]at p;obtain⟨⟨⟨⟨⟨v,w⟩,t⟩,x⟩,m⟩,u⟩:=p;cases kB.mp v;cases kB.mp w;obtain⟨k,F,C,y,b,c,e,b9,g,cl,z⟩:=Ud;dsimp only at r t m u;cases z with
   |true=>cases t
   |false=>
    subst r;obtain⟨aW⟩:=aW;dsimp only at s;subst s;exact⟨a,y,k,b,F,c,e,b9,g,cl,h,i,Tj,Tr,j,l,_,f _ _ lk,.of_isNs<|PySem.W.isNs_of_in f m,PySem.W.nsMap_none_of_in f m<|kB.mp u,PySem.W.tail_of_in f x⟩
  ·cases p
 ·cases p
noncomputable def sf(f:aH)(az:ai):eh:=λ_ y h=>∀(G:List (ai×a0)) (j:ak) (a:ai) (U:aT) (TO:a0) (T:Array ae) (T8:ae),Inv f G y h j->(∀c I,j.heap.get? c=Z I->U.get? c=Z I)->j.heap.get? a=X->U.get? a=Z TO->TO.cls=.ref az->TO.data=.fields T->T[1]?=Z .none->T[0]?=Z T8->f.ce (.ref a) {j with heap:=U}
section
variable{f:aH}
theorem Ia{i:ay}{u}(z:f.calm=aa)(A:dU f e)(C:f.aw e=Z (.ref az))(p:PySem.W.excIn f.K az [.type "ValueError",.type "Exception",.type "BaseException",.type "object"] "ValueError.__new__" = aa)(hd:(e==("__debug__" : ay))=al:=by decide):
  gD f (.Raise (Z<|.Call (.Name e Un) [.Constant (.str i) u dJ] [] T6) X S1) (sf f az):=by
 intro G j y h w Y d;have D:bC f (.Name e Un) (mC<|.ref az):=yE (s:=.ref az) A C rfl hd;obtain⟨g,Tb,k,E,F,J,l,b9,m,cl,n,o,Tj,Tr,q,t,v,L,M,N,x⟩:=O6 Y.mod.pn p;have st:bG [a8.Constant (.str i) u dJ] f.env=(al,bQ (.Constant (.str i) u dJ) f.env)::bG [] f.env:=rfl;refine wpAny_Raise_call_subT (C:=az) (nm:=k) (q:=E) (bs:=F) (hdct:=J) (sn:=l) (sub:=b9) (ab:=m) (col:=cl) (dd:=n) (k0:=o) (k1:=Tj) (k2:=Tr) (k3:=q) (k5:=t) (bm:=g) (N:=Tb) (mN:=v) Cg (x.hasType Cg.hasBase) (Y.ok.hd z) (by rw[st];rfl) N (bJ (D G j y h (λs SU=>s=.ref az/\SU=h) Y ⟨rfl,rfl⟩) λI O b=>?_);obtain⟨s,SU,P,r,Q,c⟩:=b;subst Q c;cases r;refine⟨rfl,?_⟩;have bN:gG f [a8.Constant (.str i) u dJ] _:=sZ E8 wy;have T0:=bN T6 G O y SU (λT S5=>T.length=1/\S5=SU) P ⟨rfl,rfl⟩;rw[st]at T0 ⊢;refine FS (bJ T0 λS7 R b=>?_);obtain⟨T,S5,a,S,H,c⟩:=b;subst c;refine⟨rfl,?_,a.cK _ _ L,M.keeps a.cK,x.keeps a.cK,λU Tz mk=>?_⟩
 ·show S7.length<=sizeLine;rw[<-S.length,H];decide
 ·obtain⟨B,be,_,_⟩:=mk.there;exact d G R Tz U _ _ _ a mk.keeps mk.new be rfl rfl rfl rfl
end
def AY(S8:List Nat)(k:St->au->Prop)(SQ:aU->aU->Prop)(y:St)(h:au):Prop:=∃w N S4,bo h w y N/\N.Nodup/\SQ w S4/\∀a R Ti,cI S8 y a->bo R S4 a Ti->bd h N R Ti->k a R
def gT(f:aH)(S8:List Nat)(k:St->au->Prop)(F:List bz)(SQ:aU->aU->Prop):Prop:=gm f F λ_ y h=>AY S8 k SQ y h
def pw(f:aH)(S8:List Nat)(k:St->au->Prop)(a:a8)(SQ:aU->aU->Prop):Prop:=bC f a λy h Y=>AY S8 k SQ y h
section
variable{f:aH}{S8:List Nat}{k:St->au->Prop}{SQ:aU->aU->Prop}
theorem tQ(F:List bz):gm f F λ_ Y Y=>False:=λ_ Y Y Y Y Y d=>d.elim
theorem KW{st:bz}{F:List bz}{J:bj}(l:fU f S8 st J)(C:gT f S8 k F SQ):gT f S8 k (st::F) λw S4=>∃z,J w=Z (.aZ,z)/\SQ z S4:=
 np (qM l C) λSM y h ⟨w,N,S4,st,ah,⟨z,a,b⟩,c⟩=>⟨w,N,.aZ,z,st,ah,a,λn R Ti TH d j=>⟨z,Ti,S4,d,j.ah,b,λe S5 Tg g i m=>c e S5 Tg (TH.trans g) i<|j.seq m⟩⟩
theorem OL{q:a8}{g c cf:List bz}{TX:av Bool}(a:g0 f q TX)(b:gT f S8 k g SQ):gT f S8 k (.If q g c S1::cf) λw S4=>∃z,TX w=Z (aa,z)/\SQ z S4:=
 np (qM (FZ a b<|tQ c)<|tQ cf) λSM y h ⟨w,N,S4,st,ah,⟨z,d,e⟩,i⟩=>⟨w,N,aa,z,st,ah,d,λR Ti l j=>⟨z,Ti,S4,l,j.ah,e,λm S5 Tg n o p=>i m S5 Tg n o<|j.seq p⟩⟩
theorem Kv{i:ay}{u}{cf:List bz}(b:f.calm=aa)(c:dU f e)(d:f.aw e=Z (.ref az))(p:PySem.W.excIn f.K az [.type "ValueError",.type "Exception",.type "BaseException",.type "object"] "ValueError.__new__" = aa)(g:∀w y h,k y h->sf f az w y h)(hd:(e==("__debug__" : ay))=al:=by decide):
  gT f S8 k (.Raise (Z<|.Call (.Name e Un) [.Constant (.str i) u dJ] [] T6) X S1::cf) λw S4=>S4=w:=
 np (qM (Ia b c d p hd)<|tQ cf) λSM y h ⟨w,N,S4,st,ah,a,j⟩=>g _ y h (j y h N cI.refl (by rw[a];exact st)<|bd.perm ah<|List.Perm.refl _)
theorem Ri{cf:List bz}{L:Pos}(c:f.N.Nodup)(SJ:f.N[b]?=Z e)(d:Loc f.env.scope e)(g:pw f S8 k a SQ)(SX:lg a (Z<|.Name e L) S1.line f.env=pure al:=by rfl)(h:f.fn e=aa\/f.env.scope.names.lookup e=Z .local:=by first|exact .inl rfl|exact .inr rfl|assumption):gT f S8 k (.Assign [.Name e L] a S1::cf) SQ:=
 np (qM (BB c SJ d g SX h)<|tQ cf) λ_ Y Y D=>D
noncomputable def sG(v:Nat)(a:List aj->Prop)(az:ai):kr:=λT h Y SM=>T.length=v/\∃E N,di h E T N/\N.Nodup/\a E/\∀R Ti,bd h N R Ti->SM (.ref az) X R
def nr(f:aH)(G:List (ai×a0))(c:ai):Prop:=f.ea.heap.get? c=X/\c≠f.env.locals/\(∀e q,f.env.cells.lookup e=Z q->q≠c)/\∀n∈f.gt++G,n.1≠c
theorem s6{c:ai}(Y:Inv f G y h j)(v:j.heap.get? c=X)(k:c∉f.ex):nr f G c:=by
 refine⟨?_,λa=>?_,λe q d a=>?_,λn l a=>?_⟩
 ·cases p:f.ea.heap.get? c with
  |none=>rfl
  |some m=>
   obtain⟨Tq,g⟩:=Y.base.there c m p k;rw[v]at g;cases g
 ·obtain⟨i,⟨m,Q,Td,b,W⟩,W⟩:=Y.loc;rw[<-a,v]at b;cases b
 ·obtain⟨s,m,b,W⟩:=Y.cell e q d;rw[a,v]at b;cases b
 ·have:=(Y.pin n l).1;rw[a,v]at this;cases this
def kb(f:aH)(G:List (ai×a0))(h:au)(d:aT)(a az:ai)(T8:ae):Prop:=h a=X/\nr f G a/\∃TO T L b Tn,d.get? a=Z TO/\(TO.cls=.ref az/\T[0]?=Z T8)/\TO.data=.fields T/\T[1]?=Z (.ref L)/\L≠a/\d.get? L=Z b/\b.data=.fields Tn/\Tn[3]?=Z .none/\h L=X/\nr f G L
def uB(f:aH)(az:ai)(y:St)(R:au):Prop:=∀(G:List (ai×a0)) (SN:ak) (a:ai) (T8:ae),Inv f G y R SN->kb f G R SN.heap a az T8->f.ce (.ref a) SN
theorem PB{u:List aj->Prop}{fd:gp}(N:gx f.prog f.w f.K f.aw f.base (my f.prog f.w) o P fd SO (sG v u az))(be:dV o f.A)(bs:dU f e)(cl:f.aw e=Z (.ref P))(co:PySem.W.keepIn f.K (.ref P)=aa)(x:hv f.K fd SO [])(eq:f.ex=[])(fn:∀y h,k y h->uB f az y h)(B:eR f (a::Q) J)(f1:(e==("__debug__" : ay))=al:=by decide)(go:bG (a::Q) f.env=(al,bQ a f.env)::bG Q f.env:=by rfl)(g1:(eJ S1<|bG Q f.env).any (·.1)=al:=by rfl):
  pw f S8 k (.Call (.Name e n) (a::Q) [] S1) λw S4=>∃S3 z E,J w=Z (S3,z)/\S3.length=v/\dZ S3 z=Z (E,S4)/\u E:=by
 intro G j y h A Y ⟨w,hd,S4,st,ah,⟨S3,z,E,l,im,mb,ne⟩,b⟩;refine oJ (uj Y bs cl ?_ f1);refine y7 (h₀:=f.base) Y.ok.mod.pn co (bJ (@B S1 G j y h (λT SU=>sG v u az T SU (λ_ O=>False) λq O R=>q=.ref az/\uB f az y R) Y ⟨w,hd,S3,z,st,ah,l,λT SU S6 SY of Th t=>?_⟩) λS7 t ⟨T,SU,d,r,p⟩=>⟨d.kp,?_⟩) go g1
 ·obtain⟨Tg,bO,M,F,Te⟩:=kV of Th mb;have C:=t.iT (Te.symm.trans cW);refine⟨by rw[<-Th.length];exact im,E,bO,F,(cF.mp C.ah).1,ne,λS on H=>⟨rfl,fn y S<|b y S Tg cI.refl ?_ ?_⟩⟩
  ·exact M.mono H.tup λg B m a=>H.keep g m a λx=>(cF.mp C.ah).2.2 g x g B rfl
  ·exact (C.trans H M.chg).less (az:=on) cW
 ·have pm:(S7++[]).length=SO.length:=by rw[bU,<-r.length];exact N.len _ _ _ _ p
  have U:=x t S7 d.kp pm;rw[bU]at U;refine vA (n1 (N.run f.A f.stack t SU ⟨S7,[]⟩ S7 T _ _ be d.EB U r p) λTJ SN i=>?_);cases TJ with
  |error iL=>
   obtain⟨Tz,SZ,T8,R,rfl,pt,bare,un,aV,sp,s1,s2,⟨aq,ty⟩⟩:=i;cases aq;have aZ:∀c:ai,c∉f.ex:=λc b=>by rw[eq]at b;cases b
   obtain⟨TO,up,L,Gt,Tn,If,Is,Lt,Ok,SJ,SM,SP,SQ,SS,SV⟩:=s2;exact ty G SN Tz T8 (d.Au (T7:=[]) pt un aV bare λc b=>by cases b) ⟨s1,s6 d sp<|aZ _,TO,up,L,Gt,Tn,If,Is,Lt,Ok,SM,SP,SQ,SS,SV,s6 d SJ<|aZ _⟩
  |ok aN=>
   cases aN with
   |ret I=>obtain⟨s,R,O,O,O,O,O,aA⟩:=i;exact False.elim aA
   |next=>exact False.elim i
   |brk=>exact False.elim i
   |cont=>exact False.elim i
end
section
variable{SS:bw}{D:a9}{SK:PySem.W.Frag}{aw:ay->Option ae}{SW:aT}
theorem QM(w:kn)(y:St)(h:au)(d:SM (.ref az) X h):sf (ia (my SS D) SS D SK aw SW Tb TU S9 P Ud O Tp T5 Uj SM) az w y h:=
 λG j a U TO T T8 Y o v b c hd l TN=>JG (Tk:=j.toks) Y o v b c hd l TN d
theorem MR{st:bz}{fd:gp}{SQ:aU->aU->Prop}(N:gq SK e TU st P fd)(S0:ki Tb SO (cL st))(a:SO.length=v)(b:∀(z:ae) (O:bp) (Tp:List dP) (j:ak) (h:au) (SM:fA),dV o (O.deeper<|hS TU (cL st) j.heap.objs.size P z)->gT (ia (my SS D) SS D SK aw SW Tb TU (cL st) P z O Tp j h SM) S8 (λ_ R=>SM (.ref az) X R) (gE st) SQ):
  gx SS D SK aw SW (my SS D) (o+1) P fd SO (sG v (λE=>∃S4,SQ (E.map Z++List.replicate (Tb.length-v) X) S4) az):=by
 obtain⟨C,l,ct,w,Te,k,z,ca,L,rfl,lk,c⟩:=N.ex;refine Ck lk c S0 (λT h A SM d=>d.1.trans a.symm) λO Tp j h T A SM f d=>⟨_,b z O Tp j h SM f,?_⟩;obtain⟨g,E,m,F,ah,⟨S4,n⟩,p⟩:=d;have st:=xb (i:=Tb.length-v) F;have Q:start Tb T=T.map Z++List.replicate (Tb.length-v) X:=by unfold start;rw[g]
 rw[Q];exact⟨_,m,S4,st,ah,n,λ_ R Ti Y Y j=>p R Ti j⟩
end
noncomputable abbrev aH.hold(f:aH)(SM:ae->ak->Prop)(SO:List (ai×a0)):aH:={f with ce:=SM,gt:=f.gt++SO}
section
variable{f:aH}{G p:List (ai×a0)}{y:St}{h:au}{j:ak}{SM:ae->ak->Prop}
theorem Inv.hold(Y:Inv f G y h j)(SM:ae->ak->Prop):Inv (f.hold SM G) [] y h j:=
 ⟨⟨Y.ok.mod,Y.ok.kind,Y.ok.glob,Y.ok.blt,Y.ok.above,Y.ok.inj,Y.ok.has,Y.ok.jX,Y.ok.hd,Y.ok.frames,Y.ok.kZ,Y.ok.mQ,Y.ok.bs,Y.ok.ii,Y.ok.kd,Y.ok.jU,Y.ok.f9,Y.ok.jG⟩,Y.os,Y.bare,Y.base,Y.loc,Y.cell,Y.free,Y.gh,λn a=>Y.pin n (by rw[bU]at a;exact a),Y.aV,Y.len⟩
theorem Inv.kl(Y:Inv (f.hold SM G) p y h j):Inv f G y h j:=
 ⟨⟨Y.ok.mod,Y.ok.kind,Y.ok.glob,Y.ok.blt,Y.ok.above,Y.ok.inj,Y.ok.has,Y.ok.jX,Y.ok.hd,Y.ok.frames,Y.ok.kZ,Y.ok.mQ,Y.ok.bs,Y.ok.ii,Y.ok.kd,Y.ok.jU,Y.ok.f9,Y.ok.jG⟩,Y.os,Y.bare,Y.base,Y.loc,Y.cell,Y.free,Y.gh,λn a=>Y.pin n<|dI _ a,Y.aV,Y.len⟩
theorem iO.kl{w:kn}{P:Flow}{SN:ak}(d:iO (f.hold SM G) p w P SN):iO f G w P SN:=by
 cases P with
 |next=>obtain⟨a,R,Y,p⟩:=d;exact⟨a,R,Y.kl,p⟩
 |brk=>obtain⟨a,R,Y,p⟩:=d;exact⟨a,R,Y.kl,p⟩
 |cont=>obtain⟨a,R,Y,p⟩:=d;exact⟨a,R,Y.kl,p⟩
 |ret I=>obtain⟨s,a,R,Y,r,p⟩:=d;exact⟨s,a,R,Y.kl,r,p⟩
theorem Ol{B:eh}(b:∀SM n,gm (f.hold SM n) T9 B):gD f (.Try T9 (TN::SX) [] [] S1) B:=by
 intro G j y h w Y c;refine EV (fY (b _ G [] j y h w (Y.hold _) c) (λP d p=>?_) λa d e=>e);have p:=iO.kl p;cases P with
 |next=>exact pq p
 |brk=>exact p
 |cont=>exact p
 |ret I=>exact p
theorem MM{J:bj}(a:∀SM n,g_ (f.hold SM n) S8 T9 J):fU f S8 (.Try T9 (TN::SX) [] [] S1) J:=Ol λSM n=>a SM n
variable{a:ai}
theorem Inv.z_{L:ai}(Y:Inv f G y h j)(I:dz (ds f.stack) [a,L] h h j.heap U)(aV:c_ f.prog f.w h U)(v:∀c∈[a,L],f.ea.heap.get? c=X/\c≠f.env.locals/\(∀e q,f.env.cells.lookup e=Z q->q≠c)/\∀n∈f.gt++G,n.1≠c):
  Inv f G y h {j with heap:=U}:=by
 have ok:({f with ex:=[a,L]++f.ex}:aH).Ok:=by
  refine⟨Y.ok.mod,Y.ok.kind,Y.ok.glob,Y.ok.blt,Y.ok.above,Y.ok.inj,Y.ok.has,Y.ok.jX,Y.ok.hd,Y.ok.frames,Y.ok.kZ,λc b=>?_,Y.ok.bs,Y.ok.ii,λc m p b=>?_,λc b i=>?_,Y.ok.f9,Y.ok.jG⟩
  ·rcases cx.mp b with z|z
   ·exact⟨(v c z).2.1,(v c z).2.2.1⟩
   ·exact Y.ok.mQ c z
  ·rcases cx.mp b with z|z
   ·have:=(v c z).1;rw[(Y.ok.bs c m p).1]at this;cases this
   ·exact Y.ok.kd c m p z
  ·rcases cx.mp b with z|z
   ·obtain⟨W,m,l,W⟩:=Y.ok.f9.mem i;rw[(v c z).1]at l;cases l
   ·exact Y.ok.jU c z i
 have Tt:Inv {f with ex:=[a,L]++f.ex} G y h j:=⟨ok,Y.os,Y.bare,Y.base.mono (λ_ z=>z) λc z=>dH _ z,Y.loc,Y.cell,Y.free,Y.gh,Y.pin,Y.aV,Y.len⟩;have d:=Tt.call (Uf:=j.gens) (Tk:=j.toks) (TV:=j.drawn) I aV Tt.bare λc b=>⟨.inl<|dI _ b,(v c b).2⟩;have aZ:∀c m,f.ea.heap.get? c=Z m->c∉f.ex->c∉[a,L]++f.ex:=λc m p o b=>by
  rcases cx.mp b with z|z
  ·rw[(v c z).1]at p;cases p
  ·exact o z
 have b3:=d.base;exact⟨Y.ok,d.os,d.bare,⟨λc m p g q k=>b3.keep c m p g q<|aZ c m p k,λc m p g q k=>b3.slot c m p g q<|aZ c m p k,λc m p g k=>b3.free c m p g<|aZ c m p k,λc m p k=>b3.there c m p<|aZ c m p k,b3.hR,b3.hM,b3.iz⟩,d.loc,d.cell,d.free,d.gh,d.pin,d.aV,d.len⟩
theorem MY{av:fz}{A:ak->Prop}(Y:Inv f G y h j)(e:kb f G h j.heap a az T8)(R:O.frames=Z f.stack)(i:f.stack=f.env::Tp)(S:f.env.frame=Z Tw)(be:f.ex=[])(d:∀U,Inv f G y h {j with heap:=U}->kb f G h U a az T8->A {j with heap:=U}):wpAny av O (noteFrame (.ref a) f.env) (λ_ bs=>wpAny av O (setFlight (.ref a) X) (λ_ cl=>A cl) Um bs) Um j:=by
 obtain⟨q,s,TO,T,L,co,Tn,eq,fd,fn,f1,go,g1,hd,im,t,u⟩:=e;have n:j.heap.FunFrames f.base (f.env::Tp):=i ▸ Y.stack;have mb:∀c∈ds (f.env::Tp),h c=X:=λc b=>Y.rz c (i ▸ b);have ne:∀c∈a::L::ds (f.env::Tp),c∈ds (f.env::Tp)\/c∈[a,L]:=λc b=>by
  rcases bI.mp b with r|r
  ·rw[r];exact .inr (.head _)
  ·rcases bI.mp r with r|r
   ·rw[r];exact .inr (.tail _<|.head _)
   ·exact .inl r
 have of:∀c∈a::L::ds (f.env::Tp),h c=X:=λc b=>by
  rcases bI.mp b with r|r
  ·rw[r];exact q
  ·rcases bI.mp r with r|r
   ·rw[r];exact t
   ·exact mb c r
 refine wpAny_noteFrame_onW (base:=PySem.W.hideAll j.heap (a::L::ds (f.env::Tp))) (R.trans (by rw[i])) (wN n λc b=>.tail _<|.tail _ b) S ⟨TO,T,L,co,Tn,eq,fd,fn,f1,nT _<|.tail _<|.head _,go,g1,hd,im⟩ (λc m p=>ux _ p) (nT _<|.head _) λC on=>?_;obtain⟨Tj,Tr,pm,pt⟩:=on;refine C4 (s:={j with heap:=C}) Tj Tr pm λo bE K sp s1=>?_;have z:∀c m,j.heap.get? c=Z m->(∀T,m.data≠.fields T)->∃aW,o.get? c=Z {m with slots:=aW}:=λc m p k=>by
  obtain⟨aW,l⟩:=pt c m p k;exact⟨aW,s1 c _ l k⟩
 obtain⟨I,s2⟩:=w_ (SS:=f.prog) (D:=f.w) (x:=[a,L]) n of ne Y.aV bE z;have Tt:Inv f G y h {j with heap:=o}:=Y.z_ (i ▸ I) s2 λc b=>by
  rcases bI.mp b with r|r
  ·rw[r];exact s
  ·rw[bW.mp r];exact u
 obtain⟨ty,un,g,up,B,Gt,If,Is,Lt,E,F,H,J,Ok⟩:=sp;have M:h g=X/\nr f G g:=by
  by_cases N:g=L
  ·rw[N];exact⟨t,u⟩
  ·have v:j.heap.get? g=X:=by
    cases p:j.heap.get? g with
    |none=>rfl
    |some m=>
     by_cases P:g∈a::L::ds (f.env::Tp)
     ·rcases bI.mp P with r|r
      ·exact absurd r F
      ·rcases bI.mp r with r|r
       ·exact absurd r N
       ·obtain⟨K,Tq,SJ,Q⟩:=n.mem r;obtain⟨aW,l⟩:=z g Tq SJ Q;rw[H]at l;cases l;exact absurd J (Q B)
     ·rw[rH _ p P]at E;cases E
   exact⟨Y.aV.gone v,s6 Y v (by rw[be];exact fZ)⟩
 exact d o Tt ⟨q,s,ty,un,g,up,B,Gt,If,Is,Lt,F,H,J,Ok,M.1,M.2⟩
end
section
variable{f:aH}{G:List (ai×a0)}{y:St}{h:au}{j:ak}
variable{a:ai}
theorem PP{av:fz}(Y:Inv f G y h j)(e:kb f G h j.heap a az T8)(i:f.stack=f.env::Tp)(Q:f.ex=[])(d:∀U,Inv f G y h {j with heap:=U}->kb f G h U a az T8->A () {j with heap:=U}):wpAny av O (setFlight (.ref a) X) A Um j:=by
 obtain⟨o,q,TO,T,L,R,Tn,S,be,bs,cl,co,eq,fd,fn,s,t⟩:=e;have l:j.heap.FunFrames f.base (f.env::Tp):=i ▸ Y.stack;have f1:∀c∈ds (f.env::Tp),h c=X:=λc b=>Y.rz c (i ▸ b);have go:∀c∈a::L::ds (f.env::Tp),c∈ds (f.env::Tp)\/c∈[a,L]:=λc b=>by
  rcases bI.mp b with r|r
  ·rw[r];exact .inr (.head _)
  ·rcases bI.mp r with r|r
   ·rw[r];exact .inr (.tail _<|.head _)
   ·exact .inl r
 have g1:∀c∈a::L::ds (f.env::Tp),h c=X:=λc b=>by
  rcases bI.mp b with r|r
  ·rw[r];exact o
  ·rcases bI.mp r with r|r
   ·rw[r];exact s
   ·exact f1 c r
 refine C4 (base:=PySem.W.hideAll j.heap (a::L::ds (f.env::Tp))) (λc m p=>ux _ p) (wN l λc b=>.tail _<|.tail _ b) ⟨TO,T,L,R,Tn,S,be,bs,cl,nT _<|.tail _<|.head _,co,eq,fd,fn⟩ λn bE K hd im=>?_;have u:∀c m,j.heap.get? c=Z m->(∀T,m.data≠.fields T)->∃aW,n.get? c=Z {m with slots:=aW}:=λc m p k=>⟨m.slots,im c m p k⟩;obtain⟨I,mb⟩:=w_ (SS:=f.prog) (D:=f.w) (x:=[a,L]) l g1 go Y.aV bE u;have Tt:Inv f G y h {j with heap:=n}:=Y.z_ (i ▸ I) mb λc b=>by
  rcases bI.mp b with r|r
  ·rw[r];exact q
  ·rw[bW.mp r];exact t
 obtain⟨ne,of,g,on,z,pm,pt,sp,s1,B,C,E,F,s2⟩:=hd;have H:h g=X/\nr f G g:=by
  by_cases J:g=L
  ·rw[J];exact⟨s,t⟩
  ·have v:j.heap.get? g=X:=by
    cases p:j.heap.get? g with
    |none=>rfl
    |some m=>
     by_cases M:g∈a::L::ds (f.env::Tp)
     ·rcases bI.mp M with r|r
      ·exact absurd r C
      ·rcases bI.mp r with r|r
       ·exact absurd r J
       ·obtain⟨K,Tq,ty,N⟩:=l.mem r;obtain⟨aW,P⟩:=u g Tq ty N;rw[E]at P;cases P;exact absurd F (N z)
     ·rw[rH _ p M]at B;cases B
   exact⟨Y.aV.gone v,s6 Y v (by rw[Q];exact fZ)⟩
 exact d n Tt ⟨o,q,ne,of,g,on,z,pm,pt,sp,s1,C,E,F,s2,H.1,H.2⟩
noncomputable abbrev aH.mW(f:aH)(SO:List (ai×a0))(a:ai)(TO:a0):aH:={f with A:=f.A.mark (Z<|.ref a),calm:=al,ce:=λ_ _=>False,gt:=f.gt++(SO++[(a,TO)])}
theorem Inv.mW(Y:Inv f G y h j)(e:kb f G h j.heap a az T8)(c:j.heap.get? a=Z TO):Inv (f.mW G a TO) [] y h j:=by
 obtain⟨l,d,q,T,L,r,Tn,g,t,o,W⟩:=e;rw[c]at g;cases g;refine⟨⟨Y.ok.mod,Y.ok.kind,Y.ok.glob,Y.ok.blt,Y.ok.above,Y.ok.inj,Y.ok.has,Y.ok.jX,λz=>(by cases z),Y.ok.frames,Y.ok.kZ,Y.ok.mQ,Y.ok.bs,Y.ok.ii,Y.ok.kd,Y.ok.jU,Y.ok.f9,Y.ok.jG⟩,Y.os,Y.bare,Y.base,Y.loc,Y.cell,Y.free,Y.gh,λn b=>?_,Y.aV,Y.len⟩;have b:n∈f.gt++(G++[(a,TO)]):=by rw[bU]at b;exact b
 rw[<-a_]at b;rcases cx.mp b with z|z
 ·exact Y.pin n z
 ·rw[bW.mp z];refine⟨c,l,d.2.1,λp=>?_,λs i=>?_⟩
  ·obtain⟨W,m,k,W⟩:=Y.ok.f9.mem p;rw[d.1]at k;cases k
  ·rw[o]at i;cases i
theorem Inv.vb(ok:f.Ok)(Y:Inv (f.mW G a TO) p y h j):Inv f G y h j:=
 ⟨ok,Y.os,Y.bare,Y.base,Y.loc,Y.cell,Y.free,Y.gh,λn b=>Y.pin n (dI _ (show n∈f.gt++(G++[(a,TO)]) by rw[<-a_];exact dI _ b)),Y.aV,Y.len⟩
end
noncomputable def m6(TI TX:bj):bj:=λw=>match TI w with
 |some r=>Z r
 |none=>TX w
section
variable{f:aH}
theorem kb.kl{SM:ae->ak->Prop}{SO:List (ai×a0)}{a:ai}(e:kb (f.hold SM SO) p h d a az T8):kb f SO h d a az T8:=by
 have P:∀c,nr (f.hold SM SO) p c->nr f SO c:=λc b=>⟨b.1,b.2.1,b.2.2.1,λn g=>b.2.2.2 n<|dI _ g⟩;obtain⟨i,j,TO,T,L,k,Tn,l,m,o,q,r,s,t,u,v,w⟩:=e;exact⟨i,P a j,TO,T,L,k,Tn,l,m,o,q,r,s,t,u,v,P L w⟩
end
end L2
namespace L2
open PySem PySem.Spec PySem.Calls PyProof.Rows
section
variable{f:aH}
end
end L2
namespace L2
open PySem PySem.Spec PyProof.Rows
variable{az:ai}{e:ay}{S1:Pos}{a:a8}{F:List bz}
abbrev hY:=aU->Option aU
abbrev jM(r:hY):aU->aU->Prop:=λw S4=>r w=Z S4
noncomputable def uW(J:bj)(r:hY):hY:=λw=>match J w with
 |some (.aZ,z)=>r z
 |_=>X
noncomputable def r2(q:av Bool)(r:hY):hY:=λw=>match q w with
 |some (aa,z)=>r z
 |_=>X
def rC(v:Nat)(a:List aj->Bool)(J:av (List bl)):hY:=λw=>(J w).bind λn=>if n.1.length=v then (dZ n.1 n.2).bind λp=>if a p.1=aa then Z p.2 else X else X
noncomputable def jB(v i:Nat)(r:hY):List aj->Bool:=λE=>(r<|E.map Z++List.replicate (i-v) X).isSome
section
variable{f:aH}{S8:List Nat}{k:St->au->Prop}{SQ B:aU->aU->Prop}{r:hY}
theorem xn(d:gT f S8 k F SQ)(o:∀w S4,B w S4->SQ w S4):gT f S8 k F B:=np d λSM y h ⟨w,N,S4,st,ah,a,b⟩=>⟨w,N,S4,st,ah,o _ _ a,b⟩
theorem HF(d:pw f S8 k a SQ)(o:∀w S4,B w S4->SQ w S4):pw f S8 k a B:=dY d λy h A ⟨w,N,S4,st,ah,a,b⟩=>⟨w,N,S4,st,ah,o _ _ a,b⟩
theorem Pa{st:bz}{J:bj}(l:fU f S8 st J)(C:gT f S8 k F (jM r)):gT f S8 k (st::F) (jM<|uW J r):=xn (KW l C) λw S4 a=>by
 change (match J w with|some (.aZ,z)=>r z|_=>X)=Z S4 at a;split at a
 ·rename_i z d;exact⟨z,d,a⟩
 ·cases a
theorem Mq{q:a8}{g c cf:List bz}{TX:av Bool}(b:g0 f q TX)(e:gT f S8 k g (jM r)):gT f S8 k (.If q g c S1::cf) (jM<|r2 TX r):=xn (OL b e) λw S4 a=>by
 change (match TX w with|some (aa,z)=>r z|_=>X)=Z S4 at a;split at a
 ·rename_i z d;exact⟨z,d,a⟩
 ·cases a
theorem H9{i:ay}{u}{Un dJ T6:Pos}{cf:List bz}(b:f.calm=aa)(c:dU f e)(d:f.aw e=Z (.ref az))(p:PySem.W.excIn f.K az [.type "ValueError",.type "Exception",.type "BaseException",.type "object"] "ValueError.__new__" = aa)(g:∀w y h,k y h->sf f az w y h)(hd:(e==("__debug__" : ay))=al:=by decide):
  gT f S8 k (.Raise (Z<|.Call (.Name e Un) [.Constant (.str i) u dJ] [] T6) X S1::cf) (jM Z):=xn (Kv b c d p g hd) λw S4 a=>(Option.some.inj a).symm
theorem HL{b:Nat}{cf:List bz}{L:Pos}(c:f.N.Nodup)(SJ:f.N[b]?=Z e)(d:Loc f.env.scope e)(g:pw f S8 k a (jM r))(SX:lg a (Z<|.Name e L) S1.line f.env=pure al:=by rfl)(h:f.fn e=aa\/f.env.scope.names.lookup e=Z .local:=by first|exact .inl rfl|exact .inr rfl|assumption):gT f S8 k (.Assign [.Name e L] a S1::cf) (jM r):=Ri c SJ d g SX h
end
def tK(SS:bw)(D:a9)(SK:PySem.W.Frag)(aw:ay->Option ae)(SW:aT)(o:Nat)(e:ay)(st:bz)(P:ai)(SO:List ay)(v:Nat)(a:List aj->Bool)(az:ai):Prop:=
 ∃fd,gq SK e e st P fd/\hv SK fd SO []/\aw e=Z (.ref P)/\gx SS D SK aw SW (my SS D) o P fd SO (sG v (λE=>a E=aa) az)
section
variable{SS:bw}{D:a9}{SK:PySem.W.Frag}{aw:ay->Option ae}{SW d:aT}{o v:Nat}{e:ay}{st:bz}{P az:ai}{SO:List ay}
theorem Kt{Tb:List ay}{S8:List Nat}{r:hY}(N:dD SK aw e st P SO)(S0:ki Tb SO (cL st))(b:SO.length=v)(d:Tb.Nodup->∀(z:ae) (O:bp) (Tp:List dP) (j:ak) (h:au) (SM:fA),dV o (O.deeper<|hS e (cL st) j.heap.objs.size P z)->gT (ia (my SS D) SS D SK aw SW Tb e (cL st) P z O Tp j h SM) S8 (λ_ R=>SM (.ref az) X R) (gE st) (jM r)):
  tK SS D SK aw SW (o+1) e st P SO v (jB v Tb.length r) az:=
 have ⟨_,I,c,i⟩:=N
 ⟨_,I,c,i,by
  have:=MR I S0 b (d S0.ah);have a:(λE:List aj=>∃S4,jM r (E.map Z++List.replicate (Tb.length-v) X) S4)=λE=>jB v Tb.length r E=aa:=by
   funext E;exact propext (yi.symm)
  rw[a]at this;exact this⟩
end
section
variable{f:aH}{S8:List Nat}{k:St->au->Prop}
theorem P2{v o i:Nat}{d:List aj->Bool}{P:ai}{st:bz}{SO:List ay}{n:Pos}{Q:List a8}{J:av (List bl)}(N:tK f.prog f.w f.K f.aw f.base o e st P SO v d az)(g:dV i f.A)(j:dU f e)(m:f.ex=[])(p:∀y h,k y h->uB f az y h)(q:eR f (a::Q) J)(r:o<=i:=by decide)(s:(e==("__debug__" : ay))=al:=by decide)(t:bG (a::Q) f.env=(al,bQ a f.env)::bG Q f.env:=by rfl)(u:(eJ S1<|bG Q f.env).any (·.1)=al:=by rfl):
  pw f S8 k (.Call (.Name e n) (a::Q) [] S1) (jM<|rC v d J):=by
 obtain⟨fd,I,c,i,N⟩:=N;refine HF (PB N (g.mono r) j i I.cP c m p q s t u) λw S4 a=>?_;obtain⟨⟨S3,z⟩,l,C⟩:=bB.mp a;dsimp only at C;split at C
 ·rename_i x;obtain⟨⟨E,M⟩,B,b⟩:=bB.mp C;dsimp only at b;split at b
  ·rename_i F;cases b;exact⟨S3,z,E,l,x,B,F⟩
  ·cases b
 ·cases C
def xS(SK:PySem.W.Frag)(aw:ay->Option ae)(t:ay)(az:ai):Prop:=aw t=Z (.ref az)/\PySem.W.excIn SK az [.type "ValueError",.type "Exception",.type "BaseException",.type "object"] "ValueError.__new__" = aa
end
section
variable{f:aH}
end
end L2
namespace L2
open PySem PySem.Spec PySem.Calls PyProof.Rows PySem.W
section
variable{SR:bw}{D:a9}{O:bp}{SM:ae->ak->Prop}{SK:PySem.W.Frag}{az a:ai}{TO:a0}{d:aT}{J:Array GenState}{k:Drawn}{B:Nat}{S3:OsState}
end
end L2
namespace L2
open PySem PySem.Spec PySem.Calls PyProof.Rows
section
variable{f:aH}
end
section
variable{SS:bw}{D:a9}{SK:PySem.W.Frag}{aw:ay->Option ae}{SW:aT}
end
section
variable{f:aH}
end
section
variable{f:aH}{S8:List Nat}{k:St->au->Prop}{r:hY}
end
end L2
namespace L2
open PySem PySem.Spec PyProof.Rows
section
variable{av:fz}{O:bp}{Um:ae->ak->Prop}{j:ak}{SS:bw}{D:a9}{h:au}{SW:aT}{SL:dP}{Tp:List dP}{Tw a L:ai}
end
section
variable{f:aH}{S8:List Nat}{k:St->au->Prop}{r:hY}
end
end L2
namespace L2
open PySem PySem.Spec PySem.Calls PyProof.Rows
theorem L_{SR:bw}{D:a9}(k:ai)(hd:(k==ie)=al)(m:a0)(Q:Array DictEntry)(Td:Nat)(a:m.data=.dict Q Td):
  MeetsIn SR D (ba.«dict.__len__» ⟨[.ref k],[]⟩) (λ_ SQ j=>j.heap.get? k=Z m/\SQ (.ok<|.ret<|.int Q.size j.toks) {j with toks:=j.toks+1}):=
 .of_wp λO SQ j ⟨b,d⟩=>by
  show wpAny _ _ (dictSize k >>= _) _ _ j;unfold dictSize;refine ao (ao<|tR b a<|aJ ?_);show wpAny _ _ (ba.Dict.pendingCount k >>= _) _ _ j;refine ao (wpAny_pendingCount_other hd ?_);refine B1 ?_;rw[xq];exact d
section
variable{f:aH}
theorem LH:eu f (.builtin "len") (λx h A=>∃g M,x=[as.ref g]/\h g=Z (.aL M)/\A (.int M.length) h):=by
 intro G j y h x S7 A Y r d;obtain⟨g,M,rfl,c,p⟩:=d;obtain⟨I,rfl,e⟩:=he r;cases e;obtain⟨k,hd,x,n,m,Q,Td,l,C,o,q,W⟩:=wX Y.aV c;have a:j.TypeIs (.ref g) "dict" := ⟨m,l,C.1⟩;have b:Q.size=M.length:=by
  have s:Q.toList.length=x.length:=by rw[q,a5]
  have t:=dX.length n;rw[db]at s;lia
 have u:(Q.size:Int)<2^63:=by rw[b];rw[tS]at k;lia
 refine tN kind_len plain_len entry_len (args_len1 _) ?_;unfold ba.«len»;refine ao (m:=oneArg "len" _) (aJ ?_);refine ao (m:=callSpecial? (.ref g) (ay.ofString "__len__")) (jf (name:=ay.ofString "__len__") a C5
  (call_meetsIn C5 a F.entry_dict_len (F.args_dict_len_1 _) (L_ g hd m Q Td o) ⟨l,?_⟩));show wpAny _ _ _ _ _ {j with toks:=j.toks+1};refine ao (gf<|aJ ?_);refine ao (tc ?_);show wpAny _ _ (if ((Q.size:Nat):Int)<0 then _ else _) _ _ _;rw[aG (by omega)];show wpAny _ _ (if ((Q.size:Nat):Int) >= 2^63 then _ else _) _ _ _;rw[aG (by omega)];refine ao (wpAny_mkInt (aJ ⟨_,rfl,.int M.length,h,Y.tok _,⟨_,by rw[b]⟩,p⟩))
@[simp] noncomputable def oh:hN:=λE=>match E with
 |[.aL e]=>Z (.im<|.int e.length)
 |_=>X
theorem GW:gQ f (.builtin "len") oh:=by
 refine LH.imp λx h A c=>?_;obtain⟨E,k,d,a,p⟩:=c;unfold oh at a;split at a
 ·cases a;obtain⟨s,rfl,Y,n,T2,rfl,l,C,Y⟩:=ft d;exact⟨n,T2,rfl,l,by rw[<-C.length];exact bV.i p rfl⟩
 ·cases a
end
end L2
namespace L2
open PySem PySem.Spec PyProof.Rows
section
variable{f:aH}
variable{b u:Nat}{e t:ay}{g c:a8}
theorem Jj{TB:eL}{eH i pt S1:Pos}{L Tr q}(A:f.calm=aa)(x:f.N.Nodup)(SJ:f.N[b]?=Z e)(B:f.N[u]?=Z t)(C:Loc f.env.scope e)(E:Loc f.env.scope t)(F:gG f [g,c] TB)(H:pG [.Tuple [.Name e eH,.Name t i] L pt] (.Tuple [g,c] Tr q) f.env=pure X)(SX:o1 [.Tuple [.Name e eH,.Name t i] L pt] (.Tuple [g,c] Tr q) S1.line f.env=pure al)(I:(fb [.Tuple [.Name e eH,.Name t i] L pt] f.env).map (·.2)=[ho (.Tuple [.Name e eH,.Name t i] L pt) f.env])(J:(fb [.Name e eH,.Name t i] f.env).length=2)(M:(fb [.Name e eH,.Name t i] f.env).findIdx? (·.1)=X)(TH:f.fn e=aa\/f.env.scope.names.lookup e=Z .local)(O:f.fn t=aa\/f.env.scope.names.lookup t=Z .local):
  gD f (.Assign [.Tuple [.Name e eH,.Name t i] L pt] (.Tuple [g,c] Tr q) S1) (Fh b u TB):=by
 intro G j y h w Y d;refine GP (Tuple_<|bJ (F _ G j y h _ Y d) λS7 k ⟨T,SU,P,Q,r⟩=>?_) SX H;obtain⟨s,D,v,r⟩:=r;subst v;obtain⟨l,o,rfl,S,be⟩:∃l o,S7=[l,o]/\bZ s l/\bZ D o:=by
  cases Q with
  |cons n p=>
   cases p with
   |cons bs cl=>
    cases cl;exact⟨_,_,rfl,n,bs⟩
 refine fq ?_ (by show 2<=sizeLine;decide);have co:Inv f G y SU {k with heap:=k.heap.push {cls:=.type "tuple",data:=.seq [l,o].toArray} }:=P.kept (Tk:=k.toks) λc m a=>bS _ a;rw[I];show wpAny _ _ (ho (.Tuple [.Name e eH,.Name t i] L pt) f.env<|.ref k.heap.objs.size) _ _ _;refine FN (items:=#[l,o]) (Y.ok.hd A) (lp.new k.heap _) (by rw[J];rfl) M λU eq=>?_;have ex:=co.kept (U:=U) (Tk:=k.toks) λc m a=>eq c m (cT<|bX a) a;have fd:ns f [.Name e eH,.Name t i] _:=zu (wz x SJ C TH) (zu (wz x B E O) EX);refine bJ (fd G _ y SU [s,D] [l,o] (λz R=>z=(y.set b<|Z s).set u (Z D)/\R=SU) ex (.cons S<|.cons be .nil) ⟨s,[D],rfl,D,[],rfl,rfl,rfl,rfl⟩) λ_ im f1=>?_;obtain⟨z,R,go,v,g1⟩:=f1;subst v g1;exact⟨_,_,go,r⟩
theorem G3{S8:List Nat}{J:av (List bl)}{eH d pt S1:Pos}{L Tr j}(n:f.calm=aa)(o:f.N.Nodup)(SJ:f.N[b]?=Z e)(q:f.N[u]?=Z t)(v:Loc f.env.scope e)(x:Loc f.env.scope t)(A:eR f [g,c] J)(B:b∉S8)(D:u∉S8)(G:pG [.Tuple [.Name e eH,.Name t d] L pt] (.Tuple [g,c] Tr j) f.env=pure X:=by rfl)(SX:o1 [.Tuple [.Name e eH,.Name t d] L pt] (.Tuple [g,c] Tr j) S1.line f.env=pure al:=by rfl)(H:(fb [.Tuple [.Name e eH,.Name t d] L pt] f.env).map (·.2)=[ho (.Tuple [.Name e eH,.Name t d] L pt) f.env]:=by rfl)(P:(fb [.Name e eH,.Name t d] f.env).length=2:=by rfl)(Q:(fb [.Name e eH,.Name t d] f.env).findIdx? (·.1)=X:=by rfl)(TH:f.fn e=aa\/f.env.scope.names.lookup e=Z .local:=by first|exact .inl rfl|exact .inr rfl|assumption)(R:f.fn t=aa\/f.env.scope.names.lookup t=Z .local:=by first|exact .inl rfl|exact .inr rfl|assumption):
  fU f S8 (.Assign [.Tuple [.Name e eH,.Name t d] L pt] (.Tuple [g,c] Tr j) S1) (kq b u J):=by
 refine iS (Jj n o SJ q v x A G SX H P Q TH R) λSM y h S=>?_;obtain⟨w,N,aN,S4,st,ah,U,p⟩:=S;obtain⟨⟨S3,z⟩,l,C⟩:=bB.mp U;obtain⟨⟨E,M⟩,be,i⟩:=bB.mp C;refine⟨w,N,S3,z,st,ah,l,λT SU S6 of bs Th cl=>?_⟩;obtain⟨Tg,bO,co,F,Te⟩:=kV bs Th be;dsimp only at i;split at i
 ·rename_i TD TA a;split at i
  ·rename_i k;cases i;obtain⟨s,r,O,Tf,rfl,eq,ex,rfl⟩:=F;obtain⟨I,TG,on,pm,rfl,fd,⟨rfl,rfl⟩,rfl⟩:=ex;obtain⟨f1,m,go,g1⟩:=co.put (b:=b) eq k.1;obtain⟨hd,im,mb,ne⟩:=go.put (b:=u) fd (by rw[qY];exact k.2);refine⟨s,I,rfl,p _ SU hd ((cI.set B).trans<|cI.set D) mb<|(cl.iT Te.symm).less (az:=im++m) ?_⟩;rw[<-a_,bU,<-a_];refine (eB m ne).trans ?_;rw[a_];refine (dL f1 cW).trans ?_;rw[<-a_];exact eB _ g1
  ·cases i
 ·cases i
end
section
variable{f:aH}
end
end L2
namespace L2
open PySem PySem.Spec PyProof.Rows PySem.W
section
variable{f:aH}
end
end L2
namespace L2
open PySem PySem.Spec PyProof.Rows
variable{J G TZ T1 Td v b i:Nat}{S_ bk:Array ae}{H TP S0 Y g:ai}{SS:List ab->ai->Prop}{D:a9}{TM m:a0}{T3 e:ae}{U d:aT}{SY:List (List ab)}{A:Option ae->ak->Prop}{j:ak}{Q:Array (Int×ae)}{SO:List Nat}{F:Array (Option Nat)}{z Ta:Type}{SX:List Int}{o:List ab}{f:Bool}{B:aO}{x:Array Nat}
abbrev et(x:Array Nat):Prop:=x.toList.Pairwise (· < ·)
theorem rl(r:et x){b o:Nat}{k:Nat}(d:b<o)(e:o<x.size):x.getD b k<x.getD o k:=by
 have SJ:b<x.size:=oC d e;have a:∀i (c:i<x.size),x.getD i k=x.toList[i]'(by simpa using c):=λi c=>by simp[Array.getD,c]
 rw[a b SJ,a o e];exact mJ.mp r b o _ _ d
theorem zf(x:Array Nat)(r:et x)(u:Nat):∀(fuel S SJ:Nat),SJ-S<=fuel->S<=SJ->SJ<=x.size->(∀b,b<S->x.getD b u<u)->(∀b,SJ<=b->b<x.size->u<=x.getD b u)->
  (aO.below.go x u fuel S SJ<=x.size/\(∀b,b<aO.below.go x u fuel S SJ->x.getD b u<u)/\∀b,aO.below.go x u fuel S SJ<=b->b<x.size->u<=x.getD b u)
 |0,S,SJ,l,C,f,g,c=>by
  have a:S=SJ:=by lia
  subst a;exact⟨f,g,c⟩
 |fuel+1,S,SJ,l,C,f,g,c=>by
  unfold aO.below.go;by_cases d:S<SJ
  ·rw[aB d];dsimp only;by_cases e:x.getD ((S+SJ)/2) u<u
   ·rw[aB e];refine zf x r u fuel _ _ (by lia) (by lia) f (λb h=>?_) c;rcases hJ b ((S+SJ)/2) with U|U
    ·exact oC (rl r U (by lia)) e
    ·have:b=(S+SJ)/2:=by lia
     rw[this];exact e
   ·rw[aG e];refine zf x r u fuel _ _ (by lia) (by lia) (by lia) g (λb h i=>?_);rcases hJ ((S+SJ)/2) b with U|U
    ·exact mh (rQ (pa.mp e)<|rl r U i)
    ·have:b=(S+SJ)/2:=by lia
     rw[this];exact pa.mp e
  ·rw[aG d];have a:S=SJ:=by lia
   subst a;exact⟨f,g,c⟩
theorem t3(r:et x)(u:Nat):aO.below x u<=x.size/\(∀b,b<aO.below x u->x.getD b u<u)/\∀b,aO.below x u<=b->b<x.size->u<=x.getD b u:=
 zf x r u x.size 0 x.size (by lia) (by lia) (by lia) (λb d=>absurd d<|pr _) λb d U=>absurd U (by lia)
theorem wt(r:et x){b u:Nat}(d:x[b]?=Z u):aO.below x u=b:=by
 obtain⟨g,c,q⟩:=t3 r u;obtain⟨SJ,a⟩:=nI.mp d;have e:x.getD b u=u:=by simp[Array.getD,SJ,a]
 rcases sR (aO.below x u) b with l|l|l
 ·have C:=q _ (bm _) (oC l SJ);have f:=rl r (k:=u) l SJ;lia
 ·exact l
 ·have:=c b l;lia
theorem Hv(r:et x){b u:Nat}(d:x[b]?=Z u):aO.below x (u+1)=b+1:=by
 obtain⟨g,c,q⟩:=t3 r (u+1);obtain⟨SJ,a⟩:=nI.mp d;have e:x.getD b (u+1)=u:=by simp[Array.getD,SJ,a]
 rcases sR (aO.below x<|u+1) (b+1) with l|l|l
 ·have:=q b (by lia) SJ;lia
 ·exact l
 ·have C:=c (b+1) l;have f:=rl r (k:=u+1) (qV b) (by lia);lia
theorem KH(r:et x):aO.below x 0=0:=by
 obtain⟨g,c,q⟩:=t3 r 0;rcases GD (aO.below x 0) with d|d
 ·exact d
 ·exact absurd (c 0 d) (pr _)
theorem Il(r:et x){u:Nat}(d:¬ (x[aO.below x u]?=Z u)):et (aO.insertAt x (aO.below x u) u):=by
 obtain⟨g,c,q⟩:=t3 r u;unfold et;rw[GR];refine EE.mpr ⟨CS (op _ _) r,gk.mpr ⟨λt b=>?_,CS (qd _ _) r⟩,λe m t b=>?_⟩
 ·obtain⟨o,f,rfl⟩:=l7.mp b;rw[pO];have SX:aO.below x u+o<x.size:=by simp at f;lia
  have l:=q (aO.below x u+o) (m1 _ _) SX;have a:x.getD (aO.below x u+o) u=x.toList[aO.below x u+o]:=by simp[Array.getD,SX]
  rw[a]at l;refine Nat.lt_of_le_of_ne l λh=>?_;rcases GD o with TN|TN
  ·subst TN;apply d;rw[nI];exact⟨by lia,by simpa using h.symm⟩
  ·have C:=rl r (k:=u) (Nat.lt_add_of_pos_right (n:=aO.below x u) TN) SX;have n:=q (aO.below x u) (bm _) (by lia);rw[a]at C;exact absurd h (cT<|rQ n C)
 ·obtain⟨o,f,rfl⟩:=l7.mp m;rw[u6];have p:o<aO.below x u:=by simp at f;lia
  have SX:o<x.size:=by lia
  have l:=c o p;have a:x.getD o u=x.toList[o]:=by simp[Array.getD,SX]
  rw[a]at l;rcases bI.mp b with rfl|b
  ·exact l
  ·obtain⟨i,s,rfl⟩:=l7.mp b;rw[pO];have j:aO.below x u+i<x.size:=by simp at s;lia
   have C:=q (aO.below x u+i) (m1 _ _) j;have w:x.getD (aO.below x u+i) u=x.toList[aO.below x u+i]:=by simp[Array.getD,j]
   rw[w]at C;exact fs l C
structure kC(B:aO)(led:Bool):Prop where
 rise:et B.place
 pk:B.dummies=#[]
 led:B.led=led
theorem kC.Oe(d:kC B f)(c:Bool):kC {B with plain:=c} f:=⟨d.rise,d.pk,d.led⟩
theorem AS(u:Nat):aO.has #[] u=al:=rfl
theorem NE(hd:B.dummies=#[])(u:Nat):(∃b,B.slot u=.live b)\/(B.slot u=.empty/\¬ (B.place[aO.below B.place u]?=Z u)):=by
 unfold aO.slot;dsimp only;by_cases d:(B.place[aO.below B.place u]? == Z u)=aa
 ·rw[aB d];exact .inl ⟨_,rfl⟩
 ·rw[aG d,hd,AS];exact .inr ⟨rfl,λa=>d (by rw[a];exact lz _)⟩
theorem kC.put(d:kC B f){u:Nat}(a:¬ (B.place[aO.below B.place u]?=Z u)):kC (B.put u).1 f:=by
 refine⟨Il d.rise a,?_,d.led⟩;show (if aO.has B.dummies u=aa then _ else B.dummies)=#[];rw[d.pk,AS];rfl
theorem PW{i l n:Nat}{o:Bool}{SX:Array Int}{m:Array Nat}(a:aO.laid i l n f o SX=Z (B,m)):kC B f:=by
 unfold aO.laid at a;cases d:aO.layClean i SX with
 |none=>rw[d]at a;cases a
 |some F=>
  rw[d]at a;cases a;refine⟨?_,rfl,rfl⟩;show (List.map (λe:Nat×Nat=>e.1)<|List.filterMap (λu=>Option.map (λe=>(u,e))<|F.getD u X)<|range<|i+1).Pairwise (· < ·);rw[G7];refine KI _ (R:=(· < ·)) (λg c p e b t h=>?_) List.pairwise_lt_range;cases j:F.getD g X with
  |none=>rw[j]at b;cases b
  |some I=>
   cases k:F.getD c X with
   |none=>rw[k]at h;cases h
   |some s=>
    rw[j]at b;rw[k]at h;cases b;cases h;exact p
noncomputable def pS(i:Nat)(n:aO.Probe):aO.Probe:=
 if n.more>0 then {n with j:=n.j+1,more:=n.more-1} else
 {n with j:=(aO.leap i n.i n.perturb).1,more:=aO.runEnd i (aO.leap i n.i n.perturb).1-(aO.leap i n.i n.perturb).1,i:=(aO.leap i n.i n.perturb).1,perturb:=(aO.leap i n.i n.perturb).2}
noncomputable def pd(i b pt:Nat):aO.Probe:={j:=b,more:=aO.runEnd i b-b,i:=b,perturb:=pt,dummy:=X}
def b_(i:Nat)(d:Int):Nat->aO.Probe
 |0=>pd i (aO.bits d%(i+1)) (aO.bits d)
 |o+1=>pS i (b_ i d o)
noncomputable def cR(i:Nat)(d:Int):Nat->Nat×Nat
 |0=>(aO.bits d%(i+1),aO.bits d)
 |p+1=>aO.leap i (cR i d p).1 (cR i d p).2
theorem vD(i:Nat)(d:Int):∀o,(b_ i d o).dummy=X
 |0=>rfl
 |o+1=>by
  rw[b_,pS];split
  ·exact vD i d o
  ·exact vD i d o
theorem IF(i b:Nat):aO.runEnd i b-b<=9:=by
 unfold aO.runEnd;split<;>lia
theorem o_{i:Nat}{d:Int}{o b pt:Nat}(a:b_ i d o=pd i b pt):∀r,r<=aO.runEnd i b-b->b_ i d (o+r)={pd i b pt with j:=b+r,more:=aO.runEnd i b-b-r}
 |0,_=>a
 |r+1,c=>by
  show pS i (b_ i d<|o+r)=_;rw[o_ a r (by lia),pS,aB (show aO.runEnd i b-b-r>0 by lia)];rfl
theorem Qh{d:Int}{o pt:Nat}(a:b_ i d o=pd i b pt):b_ i d (o+(aO.runEnd i b-b)+1)=pd i (aO.leap i b pt).1 (aO.leap i b pt).2:=by
 show pS i (b_ i d<|o+(aO.runEnd i b-b))=_;rw[o_ a _ (bm _),pS,aG (show ¬ (aO.runEnd i b-b-(aO.runEnd i b-b)>0) by lia)];rfl
def fN(i:Nat)(d:Int):Nat->Nat
 |0=>0
 |p+1=>fN i d p+(aO.runEnd i (cR i d p).1-(cR i d p).1)+1
theorem oq(i:Nat)(d:Int):∀p,b_ i d (fN i d p)=pd i (cR i d p).1 (cR i d p).2
 |0=>rfl
 |p+1=>Qh (oq i d p)
theorem Ac(i:Nat)(d:Int):∀p,fN i d p<=10*p
 |0=>bm _
 |p+1=>by
  have:=Ac i d p;have:=IF i (cR i d p).1;show fN i d p+_+1<=_;lia
theorem Dn(i:Nat)(d:Int):∀o,∃p r,o=fN i d p+r/\r<=aO.runEnd i (cR i d p).1-(cR i d p).1
 |0=>⟨0,0,rfl,gV _⟩
 |o+1=>by
  obtain⟨p,r,a,c⟩:=Dn i d o;by_cases b:r+1<=aO.runEnd i (cR i d p).1-(cR i d p).1
  ·exact⟨p,r+1,by lia,b⟩
  ·exact⟨p+1,0,by show _=fN i d p+_+1+0;lia,gV _⟩
noncomputable def iA(i:Nat):Nat->Nat->Nat
 |0,e=>e
 |o+1,e=>(iA i o e*5+1)%(i+1)
theorem rk(i:Nat)(g e:Nat):∀c,iA i (g+c) e=iA i c (iA i g e)
 |0=>rfl
 |c+1=>by
  show (iA i (g+c) e*5+1)%(i+1)=_;rw[rk i g e c];rfl
noncomputable def sV(i:Nat):Nat->Nat->Nat->Nat
 |0,_,a=>a
 |o+1,e,a=>sV i o ((e*5+1)%(i+1)) (a ||| 2^e)
theorem Gt(i o e:Nat):iA i o ((e*5+1)%(i+1))=iA i (o+1) e:=by
 rw[tt o 1,rk];rfl
theorem A5{i:Nat}:∀{v e t a:Nat},(sV i v e a).testBit t=aa->a.testBit t=aa\/∃o,o<v/\iA i o e=t
 |0,_,_,_,d=>.inl d
 |v+1,e,t,a,d=>by
  rcases A5 (v:=v) d with d|⟨o,l,C⟩
  ·rw[Nat.testBit_or,u9]at d;rcases d with d|d
   ·exact .inl d
   ·rw[Nat.testBit_two_pow,jJ]at d;exact .inr ⟨0,qD _,d⟩
  ·exact .inr ⟨o+1,Nat.succ_lt_succ l,by rw[<-Gt];exact C⟩
def xO(i:Nat):Bool:=beq (sV i (i+1) 0 0) (2^(i+1)-1)&&beq (iA i (i+1) 0) 0
theorem NQ(q:xO i=aa){g e:Nat}(c:g<=i)(f:e<=i):∃o,o<=i/\iA i o g=e:=by
 rw[xO,cd]at q;have h:=Br q.2;have all:∀t,t<=i->∃o,o<i+1/\iA i o 0=t:=λt j=>by
  have p:(sV i (i+1) 0 0).testBit t=aa:=by
   rw[Br q.1,Nat.testBit_two_pow_sub_one];exact cU (BO j)
  rcases A5 p with d|d
  ·rw[Nat.zero_testBit]at d;cases d
  ·exact d
 obtain⟨a,l,rfl⟩:=all g c;obtain⟨b,C,rfl⟩:=all e f;rcases hJ b a with d|d
 ·refine⟨b+(i+1-a),by lia,?_⟩;rw[<-rk,show a+(b+(i+1-a))=(i+1)+b by lia,rk,h]
 ·refine⟨b-a,by lia,?_⟩;rw[<-rk,show a+(b-a)=b by lia]
def hU(i:Nat):Prop:=i=7\/i=31\/i=127\/i=511
theorem hU.PK(J:hU i):xO i=aa:=by
 rcases J with rfl|rfl|rfl|rfl<;>decide +kernel
theorem PX(d:Int):aO.bits d<2^64:=by
 unfold aO.bits;have l:=py d (show (2^64:Int)≠0 by decide);have C:=p0 d (show (0:Int)<2^64 by decide);lia
theorem DM(i:Nat)(d:Int):∀p,(cR i d p).2=aO.bits d/32^p
 |0=>by rw[Nat.pow_zero,Nat.div_one];rfl
 |p+1=>by
  show (cR i d p).2/32=_;rw[DM i d p,Nat.div_div_eq_div_mul];rfl
theorem zH(i:Nat)(d:Int):∀p,(cR i d p).1<=i
 |0=>ra (tY _<|qD _)
 |p+1=>ra (tY _<|qD _)
theorem Eb(i:Nat)(d:Int):∀o,cR i d (13+o)=(iA i o (cR i d 13).1,0)
 |0=>by
  have a:(cR i d 13).2=0:=by
   rw[DM];exact Nat.div_eq_of_lt (oC (PX d) (by decide))
  show cR i d 13=((cR i d 13).1,0);rw[<-a]
 |o+1=>by
  show aO.leap i (cR i d<|13+o).1 (cR i d<|13+o).2=_;rw[Eb i d o];show ((iA i o (cR i d 13).1*5+1+0/32)%(i+1),0/32)=_;rw[Nat.zero_div,xq];rfl
theorem Dh(J:hU i)(d:Int){e:Nat}(a:e<=i):∃p,p+1<aO.turns i/\(cR i d p).1=e:=by
 obtain⟨o,l,C⟩:=NQ J.PK (zH i d 13) a;exact⟨13+o,by unfold aO.turns;lia,by rw[Eb];exact C⟩
theorem L4(J:hU i)(d:Int){e:Nat}(a:e<=i):∃o,o<10*aO.turns i/\(b_ i d o).j=e:=by
 obtain⟨p,l,C⟩:=Dh J d a;refine⟨fN i d p,by have:=Ac i d p;lia,?_⟩;rw[oq];exact C
theorem Da(d:b<=i):aO.runEnd i b<=i:=by unfold aO.runEnd;split<;>lia
theorem Ge(i:Nat)(d:Int)(o:Nat):(b_ i d o).j<=i:=by
 obtain⟨p,r,rfl,b⟩:=Dn i d o;rw[o_ (oq i d p) r b];have:=Da (zH i d p);have a:aO.runEnd i (cR i d p).1 >= (cR i d p).1:=by unfold aO.runEnd;split<;>lia
 show (cR i d p).1+r<=i;lia
theorem vH{Ta:Type}[DecidableEq Ta]:∀{H i:List Ta},H.Nodup->(∀e∈H,e∈i)->H.length<=i.length
 |[],i,_,_=>gV _
 |g::H,i,ah,d=>by
  have b:=hL.mp ah;have p:=vH (H:=H) (i:=i.erase g) b.2 λe c=>(x_ (λa:e=g=>b.1<|a ▸ c)).mpr (d e<|.tail _ c);have f:=d g (.head _);rw[zg f]at p;have:=tJ f;rw[c7];lia
def lw(i:Nat)(h9:Nat->Prop)(d:Int)(u:Nat):Prop:=∃o,(b_ i d o).j=u/\∀a,a<o->h9 (b_ i d a).j
theorem lw.mono{h9 c:Nat->Prop}{d:Int}{u:Nat}(r:lw i h9 d u)(b:∀e,h9 e->c e):lw i c d u:=let ⟨o,a,g⟩:=r;⟨o,a,λf h=>b _<|g f h⟩
structure oO(B:aO)(SX:List Int):Prop where
 l0:hU B.mask
 len:B.place.size=SX.length
 loose:B.place.size*5<B.mask*3
 le:∀u∈B.place.toList,u<=B.mask
 m7:∀n∈B.place.toList.zip SX,lw B.mask (·∈B.place.toList) n.2 n.1
theorem hU.pos(J:hU i):7<=i/\i<=511/\i%2=1:=by rcases J with rfl|rfl|rfl|rfl<;>decide
theorem RX(r:et B.place){u:Nat}(d:u∈B.place.toList):∃b,B.slot u=.live b/\B.place[b]?=Z u:=by
 obtain⟨b,SJ,a⟩:=l7.mp d;have c:B.place[b]?=Z u:=by
  rw[<-ev,dh SJ,a]
 refine⟨b,?_,c⟩;unfold aO.slot;dsimp only;rw[wt r c,c,aB<|lz _]
theorem J2(hd:B.dummies=#[]){u:Nat}(d:u∉B.place.toList):B.slot u=.empty:=by
 rcases NE hd u with ⟨b,a⟩|⟨a,_⟩
 ·unfold aO.slot at a;dsimp only at a;split at a
  ·next p=>
   have c:=eq_of_beq p;refine absurd ?_ d;rw[<-ev]at c;exact e5 c
  ·split at a<;>cases a
 ·exact a
theorem oO.some(h:oO B SX)(d:Int):∃o,o<10*aO.turns B.mask/\(b_ B.mask d o).j∉B.place.toList:=by
 have:∃e,e<=B.mask/\e∉B.place.toList:=by
  refine uo λq=>?_;have p:=vH (H:=range (B.mask+1)) (i:=B.place.toList) tf λe a=>uo λb=>q ⟨e,ra<|f2.mp a,b⟩;rw[kE,db]at p;have:=h.loose;lia
 obtain⟨e,l,C⟩:=this;obtain⟨o,Tj,Tr⟩:=L4 h.l0 d l;exact⟨o,Tj,by rw[Tr];exact C⟩
theorem CV{B:aO}(r:et B.place)(hd:B.dummies = #[])(f:Nat -> Int)(d:Int): ∀(fuel e:Nat),(∃o,e <= o /\ o<e+fuel /\ (b_ B.mask d o).j ∉ B.place.toList) ->
    ∃Tj,e <= Tj /\ (∀o,e <= o -> o<Tj -> ∃b,B.place[b]? = Z (b_ B.mask d o).j /\ f b ≠ d) /\
      ((aO.probe.go B f d fuel (b_ B.mask d e)=Z (.empty (b_ B.mask d Tj).j X) /\ (b_ B.mask d Tj).j ∉ B.place.toList) \/
        ∃b,aO.probe.go B f d fuel (b_ B.mask d e)=Z (.candidate (b_ B.mask d Tj).j b<|b_ B.mask d<|Tj+1) /\ B.slot (b_ B.mask d Tj).j=.live b /\ B.place[b]? = Z (b_ B.mask d Tj).j /\ f b=d)
  |0,e,⟨o,g,c,_⟩ => absurd g (by lia)
  |fuel+1,e,⟨o,g,c,q⟩ => by
    by_cases h:(b_ B.mask d e).j ∈ B.place.toList
    · obtain ⟨b,i,k⟩:=RX r h
      by_cases p:f b=d
      · refine ⟨e,bm _,λo l C => absurd l (by lia),.inr ⟨b, ?_,i,k,p⟩⟩
        unfold aO.probe.go;rw [i];dsimp only;rw [aB (by rw [p]; exact lz _)];rfl
      · have ne:o ≠ e:=λa => q (a ▸ h)
        obtain ⟨Tj,l,C,m⟩:=CV r hd f d fuel (e+1) ⟨o,by lia,by lia,q⟩;have a:aO.probe.go B f d (fuel+1) (b_ B.mask d e)=aO.probe.go B f d fuel (b_ B.mask d<|e+1):=by
          rw [aO.probe.go,i];dsimp only;rw [aG (by rw [kB]; exact p)];rfl
        refine ⟨Tj,by lia,λo n Tc => ?_,by rw [a]; exact m⟩;rcases hJ e o with J|J
        · exact C o J Tc
        · rw [show o=e by lia]; exact ⟨b,k,p⟩
    · refine ⟨e,bm _,λo l C => absurd l (by lia),.inl ⟨?_,h⟩⟩
      unfold aO.probe.go;rw [J2 hd h];dsimp only;rw [vD]
theorem zh(x:Array Ta)(n:Nat)(e:Ta):(aO.insertAt x n e).toList=x.toList.take n++e::x.toList.drop n:=GR x n e
theorem qj{H:List Ta}{n:Nat}{e t:Ta}:t∈H.take n++e::H.drop n↔t=e\/t∈H:=by
 constructor
 ·intro d;rcases cx.mp d with d|d
  ·exact .inr (lW d)
  ·rcases bI.mp d with d|d
   ·exact .inl d
   ·exact .inr (ky d)
 ·rintro (rfl|d)
  ·exact dH _ (.head _)
  ·rw[<-e9 n H]at d;rcases cx.mp d with d|d
   ·exact dI _ d
   ·exact dH _ (.tail _ d)
theorem LD{g:List Ta}{c:List z}(b:g.length=c.length)(n:Nat)(e:Ta)(t:z):(g.take n++e::g.drop n).zip (c.take n++t::c.drop n)=(g.zip c).take n++(e,t)::(g.zip c).drop n:=by
 rw[Ce (by rw[gb,gb,b]),y8];have d:∀(n:Nat) (g:List Ta) (c:List z),(g.take n).zip (c.take n)=(g.zip c).take n:=λn=>by
  induction n with
  |zero=>intro g c;rfl
  |succ n a=>intro g c;cases g with
   |nil=>rfl
   |cons e g=>cases c with
    |nil=>rfl
    |cons t c=>exact congrArg ((e,t)::·) (a g c)
 have f:∀(n:Nat) (g:List Ta) (c:List z),(g.drop n).zip (c.drop n)=(g.zip c).drop n:=λn=>by
  induction n with
  |zero=>intro g c;rfl
  |succ n a=>intro g c;cases g with
   |nil=>rfl
   |cons e g=>cases c with
    |nil=>show (g.drop n).zip []=_;rw[List.zip_nil_right];rfl
    |cons t c=>exact a g c
 rw[d,f]
theorem oO.put(h:oO B SX){d:Int}{o:Nat}(l:(b_ B.mask d o).j∉B.place.toList)(g:∀b,b<o->(b_ B.mask d b).j∈B.place.toList):
  (∀u∈(B.put (b_ B.mask d o).j).1.place.toList,u<=B.mask)/\∀n∈(B.put (b_ B.mask d o).j).1.place.toList.zip (SX.take (B.put (b_ B.mask d o).j).2++d::SX.drop (B.put (b_ B.mask d o).j).2),lw B.mask (·∈(B.put (b_ B.mask d o).j).1.place.toList) n.2 n.1:=by
 have a:(B.put (b_ B.mask d o).j).1.place.toList=B.place.toList.take (B.put (b_ B.mask d o).j).2++(b_ B.mask d o).j::B.place.toList.drop (B.put (b_ B.mask d o).j).2:=zh _ _ _;rw[a];refine⟨λu f=>?_,λn c=>?_⟩
 ·rcases qj.mp f with rfl|f
  ·exact Ge _ _ _
  ·exact h.le u f
 ·rw[LD (by rw[db];exact h.len)]at c;rcases qj.mp c with rfl|c
  ·exact⟨o,rfl,λb i=>qj.mpr<|.inr<|g b i⟩
  ·exact (h.m7 n c).mono λe k=>qj.mpr (.inr k)
def k1(F:Array (Option Nat))(u:Nat):Prop:=(F.getD u<|Z 0).isSome=aa
theorem By{i:Nat}(F:Array (Option Nat))(d:Int):∀(fuel p:Nat),(∀b,b<fN i d p->k1 F (b_ i d b).j)->(∃e,p<=e/\e<p+fuel/\¬ k1 F (cR i d e).1)->
  ∃u,aO.layClean.free i F fuel (cR i d p).1 (cR i d p).2=Z u/\u<=i/\¬ k1 F u/\lw i (k1 F) d u
 |0,p,_,⟨e,g,c,_⟩=>absurd g (by lia)
 |fuel+1,p,f,⟨e,g,c,q⟩=>by
  unfold aO.layClean.free;have le:aO.runEnd i (cR i d p).1<=i:=Da (zH i d p);have Uk:(cR i d p).1<=aO.runEnd i (cR i d p).1:=by unfold aO.runEnd;split<;>lia
  cases h:(range<|aO.runEnd i (cR i d p).1+1-(cR i d p).1).find? (λo=>(F.getD ((cR i d p).1+o)<|Z 0).isNone) with
  |some o=>
   dsimp only;rw[List.find?_range_eq_some]at h;obtain⟨l,C,m⟩:=h;have n:o<aO.runEnd i (cR i d p).1+1-(cR i d p).1:=f2.mp C;refine⟨_,rfl,by lia,?_,fN i d p+o,?_,λb k=>?_⟩
   ·unfold k1;intro z;rw[Option.isNone_iff_eq_none]at l;rw[l]at z;cases z
   ·rw[o_ (oq i d p) o (by lia)]
   ·rcases hJ b (fN i d p) with z|z
    ·exact f b z
    ·have a:b=fN i d p+(b-fN i d p):=by lia
     rw[a,o_ (oq i d p) (b-fN i d p) (by lia)];have:=m (b-fN i d p) (by lia);show (F.getD ((cR i d p).1+(b-fN i d p))<|Z 0).isSome=aa;cases D:F.getD ((cR i d p).1+(b-fN i d p)) (Z 0) with
     |none=>rw[D]at this;cases this
     |some _=>rfl
  |none=>
   dsimp only;rw[List.find?_range_eq_none]at h;have h9:∀o,o<aO.runEnd i (cR i d p).1+1-(cR i d p).1->k1 F ((cR i d p).1+o):=λo f=>by
    have:=h o f;unfold k1;cases D:F.getD ((cR i d p).1+o) (Z 0) with
    |none=>rw[D]at this;cases this
    |some _=>rfl
   have ne:e≠p:=λa=>q (by rw[a];exact h9 0 (by lia));refine By F d fuel (p+1) (λb k=>?_) ⟨e,by lia,by lia,q⟩;rcases hJ b (fN i d p) with z|z
   ·exact f b z
   ·have r:b<fN i d p+(aO.runEnd i (cR i d p).1-(cR i d p).1)+1:=k;have a:b=fN i d p+(b-fN i d p):=by lia
    rw[a,o_ (oq i d p) (b-fN i d p) (by lia)];exact h9 _ (by lia)
structure ll(i:Nat)(F:Array (Option Nat))(SO:List Nat)(SX:List Int):Prop where
 size:F.size=i+1
 len:SO.length=SX.length
 ah:SO.Nodup
 le:∀u∈SO,u<=i
 own:∀(u o:Nat),F[u]?=Z (Z o)↔SO[o]?=Z u
 m7:∀n∈SO.zip SX,lw i (·∈SO) n.2 n.1
theorem ll.h9(Y:ll i F SO SX){u:Nat}(e:u<=i):k1 F u↔u∈SO:=by
 have d:u<F.size:=by rw[Y.size];lia
 unfold k1;rw[show F.getD u (Z 0)=F[u] by simp[Array.getD,d]];have a:F[u]?=Z F[u]:=jk d;constructor
 ·intro b;obtain⟨o,c⟩:=yi.mp b;rw[c]at a;exact e5 ((Y.own u o).mp a)
 ·intro b;obtain⟨o,c⟩:=te b;have:=(Y.own u o).mpr c;rw[a]at this;rw[Option.some.inj this];rfl
theorem ll.step(J:hU i){F:Array (Option Nat)}{SO:List Nat}{SX:List Int}(Y:ll i F SO SX)(B:SX.length<=i)(d:Int):
  ∃u,aO.layClean.free i F (aO.turns i) (aO.bits d%(i+1)) (aO.bits d)=Z u/\ll i (F.setIfInBounds u<|Z SX.length) (SO++[u]) (SX++[d]):=by
 have room:∃e,e<=i/\e∉SO:=by
  refine uo λq=>?_;have p:=vH (H:=range (i+1)) (i:=SO) tf λe j=>uo λb=>q ⟨e,ra<|f2.mp j,b⟩;rw[kE,Y.len]at p;lia
 obtain⟨e,l,t⟩:=room;obtain⟨p,C,v⟩:=Dh J d l;obtain⟨u,w,Ts,x,y⟩:=By (i:=i) F d (aO.turns i) 0 (λm k=>absurd k<|pr _) ⟨p,gV _,by lia,by rw[v];exact λb=>t<|(Y.h9 l).mp b⟩;have r:u∉SO:=λb=>x ((Y.h9 Ts).mpr b);have z:u<F.size:=by rw[Y.size];lia
 refine⟨u,w,by rw[Array.size_setIfInBounds,Y.size],by rw[cb,cb,Y.len];rfl,?_,?_,λs o=>?_,?_⟩
 ·exact cF.mpr ⟨Y.ah,er _ _,λg f c A a=>r (by rw[<-bW.mp A,<-a];exact f)⟩
 ·intro g f;rcases cx.mp f with f|f
  ·exact Y.le g f
  ·rw[bW.mp f];exact Ts
 ·rw[Array.getElem?_setIfInBounds];by_cases a:u=s
  ·subst a;rw[aB rfl,aB z];constructor
   ·intro b;cases b;rw[<-Y.len,kY<|bm _,vB];rfl
   ·intro b;rcases hJ o SO.length with D|D
    ·rw[lf D]at b;exact absurd (e5 b) r
    ·rw[kY D]at b;have:o-SO.length=0:=by
      have:=(fw.mp b).1;rw[jq]at this;lia
     rw[show o=SX.length by rw[<-Y.len];lia]
  ·rw[aG a,Y.own s o];rcases hJ o SO.length with D|D
   ·rw[lf D]
   ·rw[kY D,p3 D];constructor
    ·intro b;cases b
    ·intro b;have:=e5 b;exact absurd (bW.mp this) (λb=>a b.symm)
 ·intro n h;rw[Ce Y.len]at h;rcases cx.mp h with h|h
  ·exact (Y.m7 n h).mono λe j=>dI _ j
  ·rw[y8,List.zip_nil_left]at h;rw[bW.mp h];obtain⟨o,a,g⟩:=y;exact⟨o,a,λm k=>dI _<|(Y.h9<|Ge _ _ _).mp<|g m k⟩
theorem AN{i:Nat}(J:hU i):∀(cf SX:List Int) (F:Array (Option Nat)) (SO:List Nat),ll i F SO SX->(SX++cf).length<=i->
  ∃b c,cf.foldl (λ(j:Option (Array (Option Nat)×Nat)) d=>do
   let (f,o) <-j
   let u <-aO.layClean.free i f (aO.turns i) (aO.bits d%(i+1)) (aO.bits d)
   pure (f.setIfInBounds u<|Z o,o+1)) (Z (F,SX.length))=Z (b,(SX++cf).length)/\ll i b c (SX++cf)
 |[],SX,F,SO,Y,_=>⟨F,SO,by rw[bU];rfl,by rw[bU];exact Y⟩
 |d::cf,SX,F,SO,Y,g=>by
  obtain⟨u,a,k⟩:=Y.step J (by rw[cb]at g;lia) d;obtain⟨b,c,e,h⟩:=AN J cf (SX++[d]) _ _ k (by rw[a_];exact g);rw[a_]at e h;refine⟨b,c,?_,h⟩;rw[jF];rw[show (SX++[d]).length=SX.length+1 from cb]at e;refine Eq.trans (congrArg (λl=>List.foldl _ l cf) ?_) e;show (aO.layClean.free i F (aO.turns i) (aO.bits d%(i+1))<|aO.bits d).bind _=_;rw[a];rfl
theorem RN(J:hU i)(SX:Array Int)(c:SX.size<=i):∃F SO,aO.layClean i SX=Z F/\ll i F SO SX.toList:=by
 have e:ll i (Array.replicate (i+1) X) [] []:=by
  refine⟨Array.size_replicate,rfl,io,λ_ d=>(fZ d).elim,λu o=>⟨λb=>?_,λb=>?_⟩,λ_ d=>(fZ d).elim⟩
  ·have:=(nI.mp b).2;rw[Array.getElem_replicate]at this;cases this
  ·simp at b
 obtain⟨F,SO,a,Y⟩:=AN J SX.toList [] _ _ e (by rw[i7,db];exact c);refine⟨F,SO,?_,Y⟩;unfold aO.layClean;rw[<-Array.foldl_toList];exact congrArg (Option.map (·.1)) a
theorem PU{n:Nat×Nat}:n∈(range<|i+1).filterMap (λu=>(F.getD u X).map (u,·))↔n.1<=i/\F[n.1]?=Z (Z n.2):=by
 rw[tl];constructor
 ·rintro⟨u,l,C⟩;obtain⟨o,c,rfl⟩:=ch.mp C;refine⟨ra<|f2.mp l,?_⟩;show F[u]?=Z (Z o);by_cases b:u<F.size
  ·rw[show F.getD u X=F[u] by simp[Array.getD,b]]at c;rw[jk b,c]
  ·rw[show F.getD u X=X by simp[Array.getD,b]]at c;cases c
 ·rintro⟨l,C⟩;refine⟨n.1,f2.mpr<|BO l,?_⟩;obtain⟨b,a⟩:=nI.mp C;rw[show F.getD n.1 X=F[n.1] by simp[Array.getD,b],a];rfl
theorem DJ{Ta z:Type}:∀{H:List (Ta×z)},(H.map (·.1)).Nodup->(∀g∈H,∀c∈H,g.2=c.2->g.1=c.1)->(H.map (·.2)).Nodup
 |[],_,_=>io
 |e::H,d,b=>by
  rw[ci]at d ⊢;have U:=hL.mp d;refine hL.mpr ⟨λh=>?_,DJ U.2 λg i c j=>b g (.tail _ i) c<|.tail _ j⟩;obtain⟨t,f,a⟩:=cX.mp h;have:=b t (.tail _ f) e (.head _) a;exact U.1 (by rw[<-this];exact sj f)
theorem Go{Ta z a:Type}(P:Ta->z)(J:Ta->a):∀H:List Ta,(H.map P).zip (H.map J)=H.map λe=>(P e,J e)
 |[]=>rfl
 |e::H=>congrArg (_::·) (Go P J H)
theorem RR{k:Nat}(J:hU (aO.sizeAbove k-1))(A:Q.size*5<(aO.sizeAbove k-1)*3){f:Bool}(o:B.led=f):
  ∃Tk v,B.relaid (Q.map (·.1)) k=Z (Tk,v)/\v.toList.Perm (range Q.size)/\kC Tk f/\oO Tk ((v.filterMap (Q[·]?)).toList.map (·.1)):=by
 obtain⟨F,SO,a,Y⟩:=RN J (Q.map (·.1)) (by rw[yD];lia);generalize D:aO.sizeAbove k-1=i at *;have r:B.relaid (Q.map (·.1)) k=Z ({mask:=i,place:=(((range<|i+1).filterMap λu=>(F.getD u X).map (u,·)).map (·.1)).toArray,dummies:=#[],finger:=B.finger,led:=B.led,moves:=B.movedTo i,plain:=B.plain},(((range<|i+1).filterMap λu=>(F.getD u X).map (u,·)).map (·.2)).toArray):=by
  unfold aO.relaid aO.laid;rw[D,a];rfl
 have j:=λ(n:Nat×Nat)=>PU (i:=i) (F:=F) (n:=n);have s:(((range<|i+1).filterMap λu=>(F.getD u X).map (u,·)).map (·.1)).Pairwise (· < ·):=by
  have:=(PW (B:=_) (m:=_) r);exact this.rise
 generalize E:(range<|i+1).filterMap (λu=>(F.getD u X).map (u,·))=Tw at r j s;have S1:∀n∈Tw,SO[n.2]?=Z n.1:=λn h=>(Y.own _ _).mp ((j n).mp h).2;have lt:∀n∈Tw,n.2<Q.size:=λn h=>by
  have:=(fw.mp<|S1 n h).1;rw[Y.len,db,yD]at this;exact this
 have w:(Tw.map (·.1)).Nodup:=s.imp λd=>cT d;have x:(Tw.map (·.2)).Nodup:=DJ w λg G c H a=>by
  have l:=S1 g G;have C:=S1 c H;rw[a]at l;exact Option.some.inj (l.symm.trans C)
 have perm:(Tw.map (·.2)).Perm (range Q.size):=by
  refine (BH x tf).mpr λe=>?_;rw[f2];constructor
  ·intro d;obtain⟨n,h,rfl⟩:=cX.mp d;exact lt n h
  ·intro d;have q:e<SO.length:=by rw[Y.len,db,yD];exact d
   have l:SO[e]?=Z SO[e]:=dh q;exact cX.mpr ⟨(SO[e],e),(j _).mpr ⟨Y.le _<|qe q,(Y.own _ _).mpr l⟩,rfl⟩
 have y:Tw.length=Q.size:=by
  have:=perm.length_eq
  rwa [a5,kE]at this
 have z:((Tw.map (·.2)).filterMap (Q[·]?)).map (·.1)=Tw.map λn=>(Q.getD n.2 (0,.none)).1:=by
  clear j s S1 w x perm y r E;induction Tw with
  |nil=>rfl
  |cons n Tw I=>
   have h:=lt n (.head _);rw[ci,wU<|jk h,ci,ci,I λp t=>lt p<|.tail _ t];congr 1;simp[Array.getD,h]
 refine⟨_,_,r,?_,⟨?_,rfl,o⟩,⟨J,?_,?_,?_,?_⟩⟩
 ·exact perm
 ·exact s
 ·rw[v8];show (Tw.map (·.1)).toArray.size=(((Tw.map (·.2)).filterMap (Q[·]?)).map (·.1)).length;rw[z,cr,a5,a5]
 ·show (Tw.map (·.1)).toArray.size*5<i*3;rw[cr,a5,y];exact A
 ·intro u L;obtain⟨n,h,rfl⟩:=cX.mp L;exact ((j n).mp h).1
 ·rw[v8];show ∀n∈(Tw.map (·.1)).zip (((Tw.map (·.2)).filterMap (Q[·]?)).map (·.1)),lw i (·∈Tw.map (·.1)) n.2 n.1;rw[z,Go];intro n h;obtain⟨p,t,rfl⟩:=cX.mp h;have l:=S1 p t;have C:((Q.map (·.1)).toList)[p.2]?=Z (Q.getD p.2 (0,.none)).1:=by
   have:=lt p t;rw[ev,Array.getElem?_map,jk this];simp[Array.getD,this]
  have M:(p.1,(Q.getD p.2 (0,.none)).1)∈SO.zip (Q.map (·.1)).toList:=by
   refine e5 (i:=p.2) ?_;rw[y6];exact⟨l,C⟩
  refine (Y.m7 _ M).mono λe q=>?_;obtain⟨o,N⟩:=te q;exact cX.mpr ⟨(e,o),(j _).mpr ⟨Y.le e q,(Y.own _ _).mpr N⟩,rfl⟩
theorem LL(J:hU i)(l:v*5<i*3)(C:(v+1)*5 >= i*3)(a:v+1<=300):hU (aO.sizeAbove (aO.grown<|v+1)-1)/\(v+1)*5<(aO.sizeAbove (aO.grown<|v+1)-1)*3/\aO.sizeAbove (aO.grown<|v+1)<=512:=by
 rcases J with rfl|rfl|rfl|rfl
 ·rw[show v=4 by lia];exact⟨.inr (.inl (by decide)),by decide,by decide⟩
 ·rw[show v=18 by lia];exact⟨.inr (.inr (.inl (by decide))),by decide,by decide⟩
 ·rw[show v=76 by lia];exact⟨.inr (.inr (.inr (by decide))),by decide,by decide⟩
 ·lia
section
variable{SR:bw}{D:a9}{O:bp}{SM:ae->ak->Prop}{j:ak}
end
section
variable{SR:bw}{D:a9}
theorem Hc:∀(v:Nat) {O:bp}{SM:ae->ak->Prop}{j:ak}{k:ab}{s:ae}{A:Bool->ak->Prop},ab.key v k=aa->dR j.heap k s->(∀c,A c j)->wpAny (aM SR D) O (ut v s) A SM j
 |v,O,SM,j,.int b,s,A,_,e,d=>by
  obtain⟨B,rfl⟩:=e;rw[show ut v (.int b B)=pure aa from by cases v<;>rfl];exact aJ (d _)
 |v,O,SM,j,.str b,s,A,_,e,d=>by
  obtain⟨B,rfl⟩:=e;rw[show ut v (.str b B)=pure al from by cases v<;>rfl];exact aJ (d _)
 |v+1,O,SM,j,.tup E,s,A,o,e,d=>by
  obtain⟨g,m,S_,i,rfl,h,p,hd,SJ⟩:=e;have q:j.TypeIs (.ref g) "tuple" := ⟨m,h,p⟩;unfold ut;refine ao (qg q qW.lookup ?_);show wpAny _ _ (qI (.ref g) >>= _) _ _ j;refine ao (ib h hd ?_);refine ao ?_;show wpAny _ _ (forIn S_ _ _) _ _ j;rw[<-tA];rw[ab.key]at o;refine ou _ (λcf r SN=>SN=j/\∃left,ab.keys v left=aa/\dw j.heap left cf) _ ?_ ?_ _ _ ⟨rfl,E,o,SJ⟩
  ·rintro s cf r SN ⟨rfl,left,f,n⟩;cases left with
   |nil=>cases (show s::cf=[] from n)
   |cons k left=>
    obtain⟨w,TG,a,l,t⟩:=n;cases a;rw[ab.keys,cd]at f;refine ao (Hc v f.1 l λc=>?_);cases c
    ·show wpAny _ _ (pure<|ForInStep.done _) _ _ _;exact aJ (aJ<|d _)
    ·show wpAny _ _ (pure<|ForInStep.yield _) _ _ _;exact aJ ⟨rfl,left,f.2,t⟩
  ·rintro⟨u,x⟩ SN ⟨rfl,Y⟩;cases u with
   |none=>exact aJ (d _)
   |some c=>exact aJ (d _)
 |_,_,_,_,.aR,_,_,o,_,_=>by cases ‹Nat›<;>cases o
 |_,_,_,_,.ax _,_,_,o,_,_=>by cases ‹Nat›<;>cases o
 |_,_,_,_,.fn _,_,_,o,_,_=>by cases ‹Nat›<;>cases o
 |_,_,_,_,.aN _,_,_,o,_,_=>by cases ‹Nat›<;>cases o
 |_,_,_,_,.fd,_,_,o,_,_=>by cases ‹Nat›<;>cases o
 |0,_,_,_,.tup _,_,_,o,_,_=>by cases o
theorem vT:∀(v:Nat) {O:bp}{SM:ae->ak->Prop}{j:ak}{k:ab}{s:ae}{A:Bool->ak->Prop},ab.key v k=aa->dR j.heap k s->A al j->wpAny (aM SR D) O (ua v s) A SM j
 |v,O,SM,j,.int b,s,A,_,c,d=>by
  obtain⟨B,rfl⟩:=c;rw[show ua v (.int b B)=pure al from by cases v<;>rfl];exact aJ d
 |v,O,SM,j,.str b,s,A,_,c,d=>by
  obtain⟨B,rfl⟩:=c;rw[show ua v (.str b B)=pure al from by cases v<;>rfl];exact aJ d
 |v+1,O,SM,j,.tup E,s,A,o,c,d=>by
  obtain⟨g,m,S_,i,rfl,h,p,hd,SJ⟩:=c;have q:j.TypeIs (.ref g) "tuple" := ⟨m,h,p⟩;unfold ua;refine ao (lD q ?_);dsimp only;rw[aB (show ("tuple" == "tuple")=aa by decide)];refine ao (aJ ?_);simp only[pU,g7,fF];refine ao (ib h hd ?_);dsimp only;refine ao ?_;show wpAny _ _ (forIn S_ _ _) _ _ j;rw[<-tA];rw[ab.key]at o;refine ou _ (λcf r SN=>r.1=X/\SN=j/\∃left,ab.keys v left=aa/\dw j.heap left cf) _ ?_ ?_ _ _ ⟨rfl,rfl,E,o,SJ⟩
  ·rintro s cf r SN ⟨e,rfl,left,f,n⟩;cases left with
   |nil=>cases (show s::cf=[] from n)
   |cons k left=>
    obtain⟨u,TG,a,l,t⟩:=n;cases a;rw[ab.keys,cd]at f;refine ao (vT v f.1 l ?_);simp only[g7,fF];exact aJ ⟨rfl,rfl,left,f.2,t⟩
  ·rintro⟨w,x⟩ SN ⟨e,rfl,Y⟩;simp only at e;subst e;exact aJ d
 |_,_,_,_,.aR,_,_,o,_,_=>by cases ‹Nat›<;>cases o
 |_,_,_,_,.ax _,_,_,o,_,_=>by cases ‹Nat›<;>cases o
 |_,_,_,_,.fn _,_,_,o,_,_=>by cases ‹Nat›<;>cases o
 |_,_,_,_,.aN _,_,_,o,_,_=>by cases ‹Nat›<;>cases o
 |_,_,_,_,.fd,_,_,o,_,_=>by cases ‹Nat›<;>cases o
 |0,_,_,_,.tup _,_,_,o,_,_=>by cases o
theorem IS{O:bp}{SM:ae->ak->Prop}{e:ai}{A:Bool->ak->Prop}(b:(eb SR D).is j.heap o e){T:List ae}(g:∀s∈T,∃c a,s=.ref c/\(eb SR D).is j.heap a c)(d:A al j):
  wpAny (aM SR D) O (DB (.ref e) T) A SM j:=by
 unfold DB;refine ao ?_;refine ou _ (λcf r SN=>r.1=X/\SN=j/\∀s∈cf,∃c a,s=.ref c/\(eb SR D).is j.heap a c) _ ?_ ?_ _ _ ⟨rfl,rfl,g⟩
 ·rintro s cf r SN ⟨h,rfl,i⟩;obtain⟨c,a,rfl,f⟩:=i s (.head _);have l:∀s∈cf,∃c a,s=.ref c/\(eb SR D).is SN.heap a c:=λs g=>i s (.tail _ g);dsimp only;cases n:(e==c) with
  |true=>
   simp only[FR,hQ];exact aJ ⟨rfl,rfl,l⟩
  |false=>
   simp only[EI];rw[aG (show ¬ ((Bf (ae.ref e)&&Bf (ae.ref c))=aa) from λm=>c9 m)];refine ao (uU 8 (k:=.tup _) b.1 b.2 ?_);simp only[pU,g7,fF];refine ao (uU 8 (k:=.tup _) f.1 f.2 ?_);simp only[pU,g7,fF];refine ao (vT 8 (k:=.tup _) b.1 b.2 ?_);simp only[g7,fF];refine ao (vT 8 (k:=.tup _) f.1 f.2 ?_);simp only[g7,fF];exact aJ ⟨rfl,rfl,l⟩
 ·rintro⟨p,q⟩ SN ⟨h,rfl,Y⟩;simp only at h;subst h;exact aJ d
end
section
variable(D:a9)(SS:List ab->ai->Prop)
def uA(a:List ab×Int×ae):Prop:=∃c,a.2.2=.ref c/\a.2.1=dk D (.tup a.1)/\SS a.1 c
structure lx(Q:Array (Int×ae))(B:aO)(f:Bool)(SY:List (List ab)):Prop where
 oB:∃TF:List (List ab×Int×ae),TF.map (·.2)=Q.toList/\(TF.map (·.1)).Perm SY/\∀z∈TF,uA D SS z
 tab:kC B f
 bt:oO B (Q.toList.map (·.1))
 ah:SY.Nodup
def fo(d:aT)(g:ai)(f:Bool)(SY:List (List ab)):Prop:=∃m Q Td B,d.get? g=Z m/\m.ExactSet/\m.data=.set Q Td B/\lx D SS Q B f SY
end
section
variable{SR:bw}{D:a9}{SS:List ab->ai->Prop}{O:bp}{SM:ae->ak->Prop}
theorem lx.size(w:lx D SS Q B f SY):B.place.size=Q.size:=by
 rw[w.bt.len,a5,db]
theorem lx.fit(w:lx D SS Q B f SY):B.fits Q.size=aa:=by
 have:=w.bt.loose;unfold aO.fits aO.fill;rw[w.tab.pk,w.size,cd,kB,jJ];rw[w.size]at this;exact⟨rfl,by show Q.size+0<=_;lia⟩
theorem lx.num(w:lx D SS Q B f SY):Q.size=SY.length:=by
 obtain⟨TF,l,C,Y⟩:=w.oB;rw[<-C.length_eq,a5,<-db,<-l,a5]
theorem B_(r:et x){b a u:Nat}(g:x[b]?=Z u)(c:x[a]?=Z u):b=a:=by
 rw[<-wt r g,<-wt r c]
theorem KD{av:fz}{q:Bool}{i:dr Bool}{I r:dr Ta}{A:Ta->ak->Prop}(l:∀a:Bool->ak->Prop,a al j->wpAny av O i a SM j)(C:wpAny av O r A SM j):
  wpAny av O (if q=aa then (do let c <-i;if c=aa then I else r) else r) A SM j:=by
 cases q
 ·rw[aG c9];exact C
 ·rw[aB rfl];refine ao (l _ ?_);rw[aG c9];exact C
theorem FJ{g e:ai}{o:List ab}{f:Bool}{SY:List (List ab)}{m:a0}{Q:Array (Int×ae)}{Td:Nat}{B:aO}{j:ak}{A:SetFound->ak->Prop}{TF:List (List ab×Int×ae)}(f1:O.units+20<bP)(G:j.heap.get? g=Z m)(hd:m.data=.set Q Td B)(w:lx D SS Q B f SY)(H:(eb SR D).is j.heap o e)(I:∀p c,SS p c->(eb SR D).is j.heap p c)(x:TF.map (·.2)=Q.toList)(L:(TF.map (·.1)).Perm SY)(M:∀z∈TF,uA D SS z)(U:o∈SY->A (.there X) j)(be:o∉SY->∀es,(b_ B.mask (dk D<|.tup o) es).j∉B.place.toList->(∀d,d<es->(b_ B.mask (dk D<|.tup o) d).j∈B.place.toList)->A (.free (b_ B.mask (dk D<|.tup o) es).j al) j){dt:Nat}(y:(b_ B.mask (dk D<|.tup o) dt).j∉B.place.toList)(g1:dt<10*aO.turns B.mask):
  ∀(fuel h:Nat) (st:Option aO.Probe),st.getD (B.probeStart<|dk D<|.tup o)=b_ B.mask (dk D<|.tup o) h->dt<h+fuel->(∀d,d<h->(b_ B.mask (dk D<|.tup o) d).j∈B.place.toList)->
   (∀(b d:Nat),d<h->B.place[b]?=Z (b_ B.mask (dk D<|.tup o) d).j->(TF.map (·.1))[b]?≠Z o)->
   wpAny (aM SR D) O (CP g (.ref e) (dk D<|.tup o) aa fuel st) A SM j
 |0,h,st,_,im,E,_=>by
  refine absurd (E dt (by lia)) y
 |fuel+1,h,st,mb,im,E,SX=>by
  have ne:h<=dt:=by
   rcases hJ dt h with z|z
   ·exact absurd (E dt z) y
   ·exact z
  have of:TF.length=Q.size:=by rw[<-db,<-x,a5]
  have N:∀(b:Nat) (p:List ab),(TF.map (·.1))[b]?=Z p->∃a c,Q[b]?=Z a/\a.2=.ref c/\a.1=dk D (.tup p)/\(eb SR D).is j.heap p c:=λb p i=>by
   obtain⟨z,bs,P⟩:=ch.mp (by rw[d3]at i;exact i);obtain⟨c,k,q,t⟩:=M z (e5 bs);subst P;refine⟨z.2,c,?_,k,q,I _ _ t⟩;rw[<-ev,<-x,d3,bs];rfl
  unfold CP;refine ao (ka G hd w.fit ?_);dsimp only;rw[aG (by unfold aO.gaveWay;rw[kB];have:=w.bt.l0.pos;lia)];rw[mb];unfold aO.probe;obtain⟨Tj,Is,Tc,TE⟩:=CV w.tab.rise w.tab.pk (λb=>(Q[b]?.map (·.1)).getD 0) (dk D<|.tup o) (10*aO.turns B.mask) h ⟨dt,ne,by lia,y⟩;have h9:∀d,d<Tj->(b_ B.mask (dk D<|.tup o) d).j∈B.place.toList:=λd v=>by
   rcases hJ d h with z|z
   ·exact E d z
   ·obtain⟨b,l,Y⟩:=Tc d z v;rw[<-ev]at l;exact e5 l
  have cl:∀(b d:Nat),d<Tj->B.place[b]?=Z (b_ B.mask (dk D<|.tup o) d).j->(TF.map (·.1))[b]?≠Z o:=λb d v n i=>by
   rcases hJ d h with z|z
   ·exact SX b d z n i
   ·obtain⟨co,l,C⟩:=Tc d z v;have:=B_ w.tab.rise n l;subst this;obtain⟨a,c,k,t,q,R⟩:=N b o i;rw[k]at C;exact C q
  generalize eq:aO.probe.go B _ (dk D<|.tup o) _ (b_ B.mask (dk D<|.tup o) h)=J;rcases TE with ⟨a,S⟩|⟨b,a,P,F,Lt⟩
  ·cases eq.symm.trans a;refine aJ (be (λon=>?_) Tj S h9);have pm:=L.mem_iff.mpr on;obtain⟨b,SJ⟩:=te pm;obtain⟨a,c,k,t,q,R⟩:=N b o SJ;have r:b<Q.size:=(nI.mp k).1;have n:B.place[b]?=Z (B.place[b]'(by rw[w.size];exact r)):=jk (by rw[w.size];exact r);have pt:(B.place[b]'(by rw[w.size];exact r),dk D<|.tup o)∈B.place.toList.zip (Q.toList.map (·.1)):=by
    refine e5 (i:=b) ?_;rw[y6];refine⟨by rw[ev];exact n,?_⟩;rw[d3,ev,k,<-q];rfl
   obtain⟨T,ex,sp⟩:=w.bt.m7 _ pt;have s1:T<Tj:=by
    rcases sR T Tj with z|z|z
    ·exact z
    ·refine absurd ?_ S;rw[<-z,ex];exact Array.getElem_mem_toList ..
    ·exact absurd (sp Tj z) S
   exact cl b T s1 (by rw[n,ex]) SJ
  ·cases eq.symm.trans a;have r:b<TF.length:=by rw[of,<-w.size];exact (nI.mp F).1
   have fd:(TF.map (·.1))[b]?=Z TF[b].1:=by rw[d3,dh r];rfl
   obtain⟨s2,c,k,t,q,R⟩:=N b _ fd;dsimp only;refine KD (λOk p=>IS H (λs ty=>?_) p) ?_
   ·obtain⟨un,up,rfl⟩:=cX.mp ty;have fn:un∈Q.toList:=BV.mpr (Array.mem_filter.mp<|BV.mp up).1;rw[<-x]at fn;obtain⟨z,Gt,rfl⟩:=cX.mp fn;obtain⟨If,TD,Y,TA⟩:=M z Gt;exact⟨If,z.1,TD,I _ _ TA⟩
   ·obtain⟨SK,iL⟩:=s2;cases t;rw[k];dsimp only;refine ao (gf ((eb SR D).eqBool (show O.units+10<bP by lia) R H ?_));refine ao (ka G hd w.fit ?_);by_cases i:TF[b].1=o
    ·rw[cU i,aB<|show (aa&&aa)=aa from rfl];exact aJ (U (L.mem_iff.mp (by rw[<-i];exact sj (qe r))))
    ·rw[dA i,aG (by decide)];dsimp only;rw[show B.sameMemory B.moves B.mask=Z aa by unfold aO.sameMemory;rw[aB (lz _)]];dsimp only;rw[aB rfl,P];dsimp only;rw[k];dsimp only;refine ao (wpAny_isSame_ref_self<|ao<|aJ ?_);rw[aB rfl];dsimp only;rw[aG c9];refine FJ f1 G hd w H I x L M U be y g1 fuel (Tj+1) _ rfl (by lia) (λd v=>?_) λco d v n=>?_
     ·rcases hJ d Tj with z|z
      ·exact h9 d z
      ·rw[show d=Tj by lia];rw[<-ev]at F;exact e5 F
     ·rcases hJ d Tj with z|z
      ·exact cl co d z n
      ·rw[show d=Tj by lia]at n;have:=B_ w.tab.rise n F;subst this;rw[fd];exact λa=>i (Option.some.inj a)
end
noncomputable def gv(SY:List (List ab))(o:List ab):List (List ab):=if o∈SY then SY else SY++[o]
section
variable{SR:bw}{D:a9}{SS:List ab->ai->Prop}{O:bp}{SM:ae->ak->Prop}{j:ak}
structure pp(D:a9)(SS:List ab->ai->Prop)(Q:Array (Int×ae))(B:aO)(f:Bool)(SY:List (List ab))(v:Nat):Prop where
 oB:∃TF:List (List ab×Int×ae),TF.map (·.2)=Q.toList/\(TF.map (·.1)).Perm SY/\∀z∈TF,uA D SS z
 tab:kC B f
 l0:hU B.mask
 len:B.place.size=Q.size
 le:∀u∈B.place.toList,u<=B.mask
 m7:∀n∈B.place.toList.zip (Q.toList.map (·.1)),lw B.mask (·∈B.place.toList) n.2 n.1
 ah:SY.Nodup
 iQ:Q.size=v+1
 G9:v*5<B.mask*3
theorem pp.jR(w:pp D SS Q B f SY v):B.fits Q.size=aa:=by
 have:=w.G9;have:=w.l0.pos;unfold aO.fits aO.fill;rw[w.tab.pk,w.len,w.iQ,cd,kB,jJ];exact⟨rfl,by show v+1+0<=_;lia⟩
theorem pp.done(w:pp D SS Q B f SY v)(a:¬ ((v+1)*5 >= B.mask*3)):lx D SS Q B f SY:=
 ⟨w.oB,w.tab,⟨w.l0,by rw[w.len,a5,db],by rw[w.len,w.iQ];lia,w.le,w.m7⟩,w.ah⟩
theorem DI{a:Array (Int×ae)}{Tk:aO}(b:d.get? g=Z m)(hd:m.data=.set Q Td B):
  (d.update g<|a0.putSet a Tk).get? g=Z {m with data:=.set a (Td+1) Tk}:=by
 have:=nc (a0.putSet a Tk) b (by rw[putSet_of a Tk hd];rfl);rw[putSet_of a Tk hd]at this;exact this
theorem yI{Ta z:Type}(P:Ta->z)(H:List Ta)(i:List z)(a:H.map P=i):∀is:List Nat,(is.filterMap (H[·]?)).map P=is.filterMap (i[·]?)
 |[]=>rfl
 |b::is=>by
  subst a;rw[lC,lC,d3];cases H[b]? with
  |none=>exact yI P H _ rfl is
  |some e=>exact congrArg (P e::·) (yI P H _ rfl is)
theorem Av(H:List Ta):(range H.length).filterMap (H[·]?)=H:=by
 have:=Ef H.toArray;simpa using this
theorem yx{Q c:Array (Int × ae)}{e:aO}{SQ:Bool -> ak -> Prop}(p:j.heap.get? g=Z m)(q:m.ExactSet)(hd:m.data=.set Q Td B)(z:Q.size=v)(n:v+1 <= 300)(w:pp D SS c e f SY v)(d : ∀U,aT.SameBut g j.heap U -> fo D SS U g f SY -> SQ aa {j with heap:=U}):
    wpAny (aM SR D) O (do
        storeSet g c e
        if (!al&&e.tooFull)=aa then do
            setRelay g (aO.grown<|Q.size+1)
            pure aa
          else pure aa) SQ SM j:=by
  refine ao (D9 p hd ?_ (by rw [w.iQ]; exact ed n (by decide)));have k:=DI (a:=c) (Tk:=e) p hd;have r:=ls j.heap g (a0.putSet c e);have s:e.tooFull=decide ((v+1)*5 >= e.mask*3):=by
    unfold aO.tooFull aO.fill;rw [w.tab.pk,w.len,w.iQ];rfl
  by_cases l:(v+1)*5 >= e.mask*3
  · rw [s,cU l,aB<|show (!al&&aa)=aa from rfl]
    obtain ⟨A,Tc,TE⟩:=LL w.l0 w.G9 l n;unfold setRelay;refine ao (ao<|ka k rfl w.jR ?_);dsimp only;rw [z,aG (λo => absurd (fs o TE) (by decide))];obtain ⟨Tk,h,C,t,E,F⟩:=RR (B:=e) (Q:=c) (k:=aO.grown (v+1)) A (by rw [w.iQ]; exact Tc) w.tab.led;rw [C];have u:(h.filterMap (c[·]?)).toList=h.toList.filterMap (c.toList[·]?):=by
      rw [v8];simp
    have G:(h.filterMap (c[·]?)).toList.Perm c.toList:=by
      rw [u];refine (t.filterMap _).trans ?_;rw [<-db,Av]
    have x:(h.filterMap (c[·]?)).size=c.size:=by rw [<-db,G.length_eq,db]
    refine ao (m:=if ((h.filterMap (c[·]?)).size != c.size)=aa then _ else _) ?_;rw [x,aG (by simp)];refine aJ ?_;dsimp only;refine D9 k rfl ?_ (by rw [x,w.iQ]; exact ed n (by decide));refine aJ (d _ (r.trans<|ls _ g _) ⟨_,_,_,_,DI k rfl,q,rfl, ?_,E,F,w.ah⟩);obtain ⟨TF,y,H,I⟩:=w.oB;refine ⟨h.toList.filterMap (TF[·]?), ?_, ?_,λo J => ?_⟩
    · rw [u]
      exact yI (·.2) TF _ y _
    · refine (vf _ ?_).trans H
      refine (t.filterMap _).trans ?_;rw [show c.size=TF.length by rw [<-db, <-y,a5],Av]
    · obtain ⟨b,Y,a⟩:=tl.mp J
      exact I o (e5 a)
  · rw [s,dA l,aG (show ¬ ((!al&&al)=aa) from by decide)]
    refine aJ (d _ r ⟨_,_,_,_,k,q,rfl,w.done l⟩)
theorem R0{e:ai}{A:Bool->ak->Prop}(I:O.units+20<bP)(S0:fo D SS j.heap g f SY)(r:(eb SR D).is j.heap o e)(J:SS o e)(L:∀p c,SS p c->(eb SR D).is j.heap p c)(M:SY.length+1<=300)(d:∀c U,aT.SameBut g j.heap U->fo D SS U g f (gv SY o)->A c {j with heap:=U}):
  wpAny (aM SR D) O (setAddHashed g (.ref e)<|dk D<|.tup o) A SM j:=by
 obtain⟨m,Q,Td,B,i,n,hd,w⟩:=S0;have ex:=w;obtain⟨TF,z,C,E⟩:=w.oB;obtain⟨dt,F,N⟩:=w.bt.some (dk D<|.tup o);have fd:=w.bt.l0.pos;unfold setAddHashed setAddHashedIn;refine gf (ao<|ka i hd w.fit ?_);dsimp only;rw[aG (show ¬ (byScan (ae.ref e) Q=aa) from λh=>c9 h)];unfold setSearch;refine ao (FJ I i hd w r L z C E (λq=>?_) (λq es G P=>?_) N F 100000 0 X rfl (by unfold aO.turns at F;lia) (λR h=>absurd h<|pr _) λb R h=>absurd h<|pr _)
 ·refine aJ ?_;have a:j={j with heap:=j.heap}:=by cases j;rfl
  rw[a];refine d _ _ (aT.SameBut.refl g j.heap) ?_;rw[gv,aB q];exact⟨m,Q,Td,B,i,n,hd,w⟩
 ·dsimp only;refine ao (ka i hd w.fit ?_);dsimp only;obtain⟨S,Tv⟩:=w.bt.put (d:=dk D (.tup o)) G P;have T:¬ (B.place[aO.below B.place (b_ B.mask (dk D<|.tup o) es).j]?=Z (b_ B.mask (dk D<|.tup o) es).j):=λh=>G (by rw[<-ev]at h;exact e5 h);have be:=w.tab.put T;have s:∀c:Bool,pp D SS (aO.insertAt Q (B.put (b_ B.mask (dk D<|.tup o) es).j).2 (dk D<|.tup o,.ref e)) { (B.put (b_ B.mask (dk D<|.tup o) es).j).1 with plain:=c} f (SY++[o]) Q.size:=λc=>by
   have v:(aO.insertAt Q (B.put (b_ B.mask (dk D<|.tup o) es).j).2 (dk D<|.tup o,ae.ref e)).toList=_:=zh _ _ _;have bs:(B.put (b_ B.mask (dk D<|.tup o) es).j).1.place.toList=_:=zh _ _ _;have H:(aO.insertAt Q (B.put (b_ B.mask (dk D<|.tup o) es).j).2 (dk D<|.tup o,ae.ref e)).size=Q.size+1:=by
    rw[<-db,v,cb,c7,gb,e4,db];lia
   refine⟨⟨TF.take (B.put (b_ B.mask (dk D<|.tup o) es).j).2++(o,dk D<|.tup o,.ref e)::TF.drop (B.put (b_ B.mask (dk D<|.tup o) es).j).2,?_,?_,λh l=>?_⟩,be.Oe c,w.bt.l0,?_,S,?_,?_,H,?_⟩
   ·rw[v,<-z,fe,ci,iu,iv]
   ·rw[fe,ci,iu,iv];refine List.perm_middle.trans ?_;rw[e9];exact (C.cons o).trans (cW (l₁:=[o]))
   ·rcases qj.mp l with rfl|l
    ·exact⟨e,rfl,rfl,J⟩
    ·exact E h l
   ·show (B.put (b_ B.mask (dk D<|.tup o) es).j).1.place.size=_;rw[H,<-db,bs,cb,c7,gb,e4,db,w.size];lia
   ·rw[v,fe,ci,iu,iv];exact Tv
   ·exact cF.mpr ⟨w.ah,er _ o,λt cl h l=>by cases bW.mp l;exact λa=>q<|a ▸ cl⟩
   ·have:=w.bt.loose;rw[w.size]at this;exact this
  have x:∀U,aT.SameBut g j.heap U->fo D SS U g f (SY++[o])->A aa {j with heap:=U}:=λU co eq=>d aa U co (by rw[gv,aG q];exact eq);have y:Q.size+1<=300:=by rw[w.num];exact M
  split
  ·refine ao (Hc 8 (k:=.tup o) r.1 r.2 λc=>?_);cases c
   ·exact yx i n hd rfl y (s al) x
   ·exact yx i n hd rfl y (s _) x
  ·refine ao (aJ ?_);exact yx i n hd rfl y (s _) x
end
noncomputable def ht(D:a9):Bool:=!D.params.followText "set-order"
noncomputable def lm(f:Bool):a0:={cls:=.type "set",dict:=X,data:=.set #[] 0 (.fresh 0 0 f)}
theorem P5:isSubtype (.type "tuple") (.type "set")=pure al:=by rw[rg];kernel_rfl
theorem Qu:isSubtype (.type "tuple") (.type "frozenset")=pure al:=by rw[rg];kernel_rfl
section
variable{SR:bw}{D:a9}{O:bp}{SM:ae->ak->Prop}{j:ak}
theorem IZ(g:ae){a:ae->ak->Prop}(d:a (.ref j.heap.objs.size) {j with heap:=j.heap.push (lm<|ht D)}):
  codeAny (aM SR D) O (.call (.builtin "set.__new__") ⟨[.type "set",g],[]⟩) (wants a SM) j:=by
 refine CY ?_;show wpAny _ O.in1 (do checkBuiltinCall "set.__new__" ⟨[.type "set",g],[]⟩;again (.builtin "set.__new__" ⟨[.type "set",g],[]⟩)) _ _ j;refine ao (uk (PySem.F.newCall_set_1 g)<|aJ ⟨nJ GT _,ma PySem.F.entry_set_new ?_⟩);rw[nu GT _];unfold ba.«set.__new__» ba.Frozenset.newClass;have b:=sub_set_self;obtain⟨c,J,k,Tu,S3⟩:=j;dsimp only
 wp_walk
 refine xv (aJ ?_);dsimp only;simp only[newObj];refine ao (wpAny_alloc<|aJ ?_);exact aJ d
end
section
variable{SR:bw}{D:a9}{O:bp}{SM:ae->ak->Prop}{j:ak}
end
theorem qK:Slot "set_iterator" "__next__" "set_iterator.__next__" :=
 .of (owner := "set_iterator") (n := "__next__") (by rw[vl,wk];kernel_rfl) (by decide +kernel) (by decide +kernel) (by decide +kernel)
  (by first|exact .inl (by decide +kernel)|exact .inr (by decide +kernel)) (by rw[rg];kernel_rfl)
theorem Q1:tF table "set_iterator.__next__" = Z ba.«set_iterator.__next__»:=Dm (by kernel_rfl)
theorem CX:Manifest.owners.lookup (String.ofList ['r','o','t','a','r','e','t','i','_','t','e','s'].reverse)=Z Manifest.sig_set_iterator:=by kernel_rfl
theorem Me(g:ae):tB "set_iterator.__next__" ⟨[g],[]⟩:=by
 unfold tB;rw[FG (id := "set_iterator.__next__") (n:=['_','_','t','x','e','n','_','_']) (o:=['r','o','t','a','r','e','t','i','_','t','e','s']) (by kernel_rfl) CX];kernel_rfl
theorem HB:tF table "set.__iter__" = Z ba.«frozenset.__iter__»:=
 B8 (id' := "frozenset.__iter__") (by kernel_rfl) rfl (by decide +kernel) (by kernel_rfl)
theorem GY:Slot "set_iterator" "__iter__" "set_iterator.__iter__" :=
 .of (owner := "set_iterator") (n := "__iter__") (by rw[vl,wk];kernel_rfl) (by decide +kernel) (by decide +kernel) (by decide +kernel)
  (by first|exact .inl (by decide +kernel)|exact .inr (by decide +kernel)) (by rw[rg];kernel_rfl)
theorem JD(g:ae):tB "set_iterator.__iter__" ⟨[g],[]⟩:=by
 unfold tB;rw[FG (id := "set_iterator.__iter__") (n:=['_','_','r','e','t','i','_','_']) (o:=['r','o','t','a','r','e','t','i','_','t','e','s']) (by kernel_rfl) CX];kernel_rfl
theorem R4:tF table "set_iterator.__iter__" = Z ba.«dict_keyiterator.__iter__»:=
 B8 (id' := "dict_keyiterator.__iter__") (by kernel_rfl) (by first|rfl|decide +kernel|(unfold String.splitOn;simp +decide [String.splitOnAux])) (by decide +kernel) (by kernel_rfl)
def f_(d:aT)(Y:ai)(T3:ae)(b:Nat)(S0:ai)(v Td:Nat):Prop:=∃m,d.get? Y=Z m/\m.cls=.type "set_iterator" /\ m.data=.fields #[T3,.int b 0,.ref S0,.int v 0,.int Td 0]
def iy(d:aT)(S0:ai)(Q:Array (Int×ae))(Td:Nat)(B:aO):Prop:=∃m,d.get? S0=Z m/\m.ExactSet/\m.data=.set Q Td B
theorem f_.go(e:f_ d Y T3 b S0 v Td)(o:∀m,d.get? Y=Z m->U.get? Y=Z m):f_ U Y T3 b S0 v Td:=let ⟨m,a,r⟩:=e;⟨m,o m a,r⟩
theorem iy.go(e:iy d S0 Q Td B)(o:∀m,d.get? S0=Z m->U.get? S0=Z m):iy U S0 Q Td B:=let ⟨m,a,r⟩:=e;⟨m,o m a,r⟩
section
variable{SR:bw}{D:a9}{O:bp}{SM:ae->ak->Prop}{j:ak}
theorem f_.ty(e:f_ j.heap Y T3 b S0 v Td):j.TypeIs (.ref Y) "set_iterator" := let ⟨m,a,q,_⟩:=e;⟨m,a,q⟩
theorem MK{av:fz}{a:Source}{A:Nat->ak->Prop}(c:0<v)(d:∀b,b<v->A b {j with drawn:=j.drawn.bump a}):wpAny av O (choose a v) A SM j:=
 λ_ Y Y=>⟨l2 c,d _<|tY _ c⟩
theorem nS{Ta:Type}:∀(H:List Ta) (b:Nat) (d:b<H.length),(H[b]::H.eraseIdx b).Perm H
 |e::x,0,_=>.refl _
 |e::x,b+1,d=>(List.Perm.swap e _ _).trans (List.Perm.cons e<|nS x b<|yy d)
theorem C7{Ta:Type}{av:fz}:∀(v:Nat) (x:List Ta) (j:ak) (A:List Ta->ak->Prop),x.length=v->(∀k S2,List.Perm S2 x->A S2 {j with drawn:=k})->wpAny av O (x1 v x) A SM j
 |0,x,j,A,c,d=>by
  have a:x=[]:=o4 c;subst a;unfold x1;exact aJ (d j.drawn [] .nil)
 |v+1,[],j,A,c,d=>by cases c
 |v+1,e::x,j,A,c,d=>by
  unfold x1;refine ao (MK (by rw[c];exact qD _) λb SJ=>?_);have a:(e::x)[b]?=Z (e::x)[b]:=dh SJ;rw[a];dsimp only;refine ao (C7 v _ _ _ (by rw[AD SJ,c];rfl) λk S2 f=>?_);refine aJ (d k _ ?_);refine (List.Perm.cons _ f).trans ?_;exact nS _ b SJ
theorem s0(e:f_ j.heap Y T3 b S0 v Td)(d:wpAny (aM SR D) O.in1 (ba.«set_iterator.__next__» ⟨[.ref Y],[]⟩) (λfin SN=>∃s,fin=.done (.ret s)/\A (Z s) SN) (λa SN=>wpAny (aM SR D) O (do let c <-yG a (.type "StopIteration");if c=aa then pure X else throw a) A SM SN) j):
  wpAny (aM SR D) O (gd<|.ref Y) A SM j:=by
 unfold gd;refine ao (n8<|jf (name:=ay.ofString "__next__") e.ty qK<|gW qK e.ty Q1 ?z<|Me _)
 case z=>
  refine fY d (λfin SN ⟨s,a,p⟩=>⟨s,a,aJ p⟩) λa SN p=>p
theorem r3{c:ae}{d:Nat}{A:Unit->ak->Prop}{o:Nat}(g:f_ j.heap Y T3 b S0 v Td)(h:o<5)(i:(#[T3,.int b 0,.ref S0,.int v 0,.int Td 0]:Array ae).setIfInBounds o e=#[c,.int d 0,.ref S0,.int v 0,.int Td 0])(p:∀U,f_ U Y c d S0 v Td->aT.SameBut Y j.heap U->A () {j with heap:=U}):wpAny (aM SR D) O (vj (.ref Y) o e) A SM j:=by
 obtain⟨m,f,Ts,a⟩:=g;refine nd f a h (p _ ⟨_,nc _ f<|x9<|pI a _,(vS ..).trans Ts,?_⟩<|ls ..);rw[pI a,i]
theorem Do(b:O.handled=X)(p:∀U,aT.ExtBut Y j.heap U->A X {j with heap:=U}):
  wpAny (aM SR D) O.in1 (pv (.type "StopIteration") [] >>= λe=>(raiseNew e:dr PySem.Fin)) (λfin SN=>∃s,fin=.done (.ret s)/\A (Z s) SN) (λa SN=>wpAny (aM SR D) O (do let c <-yG a (.type "StopIteration");if c=aa then pure X else throw a) A SM SN) j:=by
 apply ao;simp only[pv,vF];refine ao (fq (ao (m:=pi _ _) (uk (a:=ae.none) (by first|rfl|(simp only[pi];rfl)) (fq ?_ (by size_fits)))) (by size_fits));simp only[raiseNew];apply ao;apply zj;rw[show O.in1.handled=X from b];refine ao (m:=pure _) (aJ<|yh ?_);apply ao;refine p7 (T := "StopIteration") (b:=aa) ⟨_,da _ rfl,rfl⟩ vz ?_;exact aJ (p _<|λc m W a=>bS _<|bS _ a)
theorem Ae{next:Nat}(a:f_ j.heap Y (.int T1 0) b S0 v Td)(d:iy j.heap S0 Q Td B)(f:B.fits Q.size=aa)(g:Q.size=v)(h:∀(c:Option (ae×Nat)->ak->Prop) (k:ae->ak->Prop),c (Z (e,next)) j->wpAny (aM SR D) O.in1 (mH S0 T1 b Td) c k j)(p:∀U,f_ U Y (.int next 0) (b+1) S0 v Td->aT.SameBut Y j.heap U->A (Z e) {j with heap:=U}):wpAny (aM SR D) O (gd<|.ref Y) A SM j:=by
 refine s0 a ?_;obtain⟨m,n,Ts,o⟩:=id a;obtain⟨z,q,E,r⟩:=d;unfold ba.«set_iterator.__next__»;refine ao (aJ<|ao<|ov n o ?_);show wpAny _ _ (r6 S0 >>= _) _ _ _;refine ao (qL q r f ?_);dsimp only;rw[aG (by rw[g];simp)];refine ao (m:=mH S0 _ _ _) (h _ _ ?_);dsimp only;refine ao (r3 (c:=.int next 0) (d:=b) a (by decide) rfl λl u w=>?_);refine ao (r3 (j:={j with heap:=l}) (c:=.int next 0) (d:=b+1) u (by decide) rfl λC x y=>?_);exact aJ ⟨_,rfl,p C x<|w.trans y⟩
theorem GH(k:O.handled=X)(d:f_ j.heap Y (.int T1 0) b S0 v Td)(l:iy j.heap S0 Q Td B)(n:B.fits Q.size=aa)(o:Q.size=v)(q:∀(e:Option (ae×Nat)->ak->Prop) (r:ae->ak->Prop),e X j->wpAny (aM SR D) O.in1 (mH S0 T1 b Td) e r j)(p:∀U,aT.ExtBut Y j.heap U->A X {j with heap:=U}):wpAny (aM SR D) O (gd<|.ref Y) A SM j:=by
 refine s0 d ?_;obtain⟨m,f,Ts,g⟩:=id d;obtain⟨w,s,x,t⟩:=l;unfold ba.«set_iterator.__next__»;refine ao (aJ<|ao<|ov f g ?_);show wpAny _ _ (r6 S0 >>= _) _ _ _;refine ao (qL s t n ?_);dsimp only;rw[aG (by rw[o];simp)];refine ao (m:=mH S0 _ _ _) (q _ _ ?_);dsimp only;refine ao (nd f g (show 2<5 by decide) ?_);exact Do (Y:=Y) k λU u=>p U λc m h a=>u c m h ((ls ..).extBut c m h a)
theorem KL{c:Nat}{Tu:gR}{e:Int×ae}(a:f_ j.heap Y (.ref TP) b S0 v Td)(h:iy j.heap S0 Q Td B)(d:B.fits Q.size=aa)(i:Q.size=v)(C:j.heap.get? TP=Z TM)(TA:TM.data=.seq bk TZ)(k:bk[b]?=Z (.int c Tu))(n:Q[c]?=Z e)(p:∀U,f_ U Y (.ref TP) (b+1) S0 v Td->aT.SameBut Y j.heap U->A (Z e.2) {j with heap:=U}):wpAny (aM SR D) O (gd<|.ref Y) A SM j:=by
 refine s0 a ?_;obtain⟨m,o,Ts,q⟩:=id a;obtain⟨t,f,u,g⟩:=h;unfold ba.«set_iterator.__next__»;refine ao (aJ<|ao<|ov o q ?_);show wpAny _ _ (r6 S0 >>= _) _ _ _;refine ao (qL f g d ?_);dsimp only;rw[aG (by rw[i];simp)];show wpAny _ _ (qI (.ref TP) >>= _) _ _ _;refine ao (ib C TA ?_);dsimp only;rw[mj,k];dsimp only;show wpAny _ _ (setNextDrawn S0 _ _ >>= _) _ _ _;unfold setNextDrawn;refine ao (ao<|ka f g d ?_);dsimp only;rw[aG (by simp),mj,n];dsimp only;refine aJ ?_;refine ao (r3 (c:=.ref TP) (d:=b+1) a (by decide) rfl λl r s=>?_);exact aJ ⟨_,rfl,p l r s⟩
theorem HY(f:O.handled=X)(d:f_ j.heap Y (.ref TP) b S0 v Td)(g:iy j.heap S0 Q Td B)(h:B.fits Q.size=aa)(i:Q.size=v)(C:j.heap.get? TP=Z TM)(TA:TM.data=.seq bk TZ)(k:bk[b]?=X)(p:∀U,aT.ExtBut Y j.heap U->A X {j with heap:=U}):wpAny (aM SR D) O (gd<|.ref Y) A SM j:=by
 refine s0 d ?_;obtain⟨m,n,Ts,o⟩:=id d;obtain⟨x,q,y,r⟩:=g;unfold ba.«set_iterator.__next__»;refine ao (aJ<|ao<|ov n o ?_);show wpAny _ _ (r6 S0 >>= _) _ _ _;refine ao (qL q r h ?_);dsimp only;rw[aG (by rw[i];simp)];show wpAny _ _ (qI (.ref TP) >>= _) _ _ _;refine ao (ib C TA ?_);dsimp only;rw[mj,k];dsimp only;refine ao (r3 (c:=.int 0 0) (d:=b) d (by decide) rfl λl s t=>?_);obtain⟨Tq,u,Tc,TE⟩:=s;refine ao (nd (s:={j with heap:=l}) u TE (show 2<5 by decide) ?_);exact Do (Y:=Y) f λU w=>p U λc m e a=>w c m e ((ls ..).extBut c m e<|t.extBut c m e a)
end
def iE(val:Nat->List ab):Nat->List (List ab)
 |0=>[]
 |b+1=>gv (iE val b) (val b)
theorem fo.fresh(f:Bool):fo D SS (d.push<|lm f) d.objs.size f []:=
 ⟨_,#[],0,_,da _ rfl,⟨rfl,rfl,rfl⟩,rfl,⟨[],rfl,.nil,λe a=>(fZ a).elim⟩,⟨List.Pairwise.nil,rfl,rfl⟩,⟨.inl rfl,rfl,show 0*5<7*3 by decide,λu b=>(fZ b).elim,λn c=>(fZ c).elim⟩,io⟩
theorem fo.at(S0:fo D SS d g f SY)(o:∀m,d.get? g=Z m->U.get? g=Z m):fo D SS U g f SY:=by
 obtain⟨m,Q,Td,B,a,r⟩:=S0;exact⟨m,Q,Td,B,o m a,r⟩
section
variable{SR:bw}{D:a9}{SS:List ab->ai->Prop}{O:bp}{SM:ae->ak->Prop}{j:ak}
theorem QH{SQ:rj->ak->Prop}{b0 n:List ai}{E:Nat->ae->Prop}{St:Nat->aT->Prop}{TN:aT}(fn:O.units+25<bP)(W:i1 SR D O.in1 Y b0 n v E St)(F:S0∉b0)(val:Nat->List ab)(N:∀b s,E b s->∃c,s=.ref c/\SS (val b) c)(G:∀p c,SS p c->(eb SR D).is TN p c)(g:∀c m,TN.get? c=Z m->c∉n)(P:∀I S_ i,TN.get? S0=Z I->I.data=.seq S_ i->False)(Q:∀b,b<v->(iE val b).length+1<=300):
  ∀(o b:Nat) (j:ak),v-b=o->b<=v->tD TN j.heap->St b j.heap->fo D SS j.heap S0 f (iE val b)->
   (∀U Tu,(∀c m,c≠S0->c∉n->j.heap.get? c=Z m->U.get? c=Z m)->fo D SS U S0 f (iE val v)->SQ (.ok<|.ret .none) {j with heap:=U,toks:=Tu})->
   codeAny (aM SR D) O (.builtin "set.update.loop" ⟨[.ref S0,.ref Y],[]⟩) SQ j:=by
 have H:S0∉n:=λd=>F (W.sub _ d);intro o;induction o with
 |zero=>
  intro b j R SJ L t u w;have S:b=v:=by lia
  subst S;refine ma Bo ?_;rw[nu wx _];show wpAny _ O.in1 (gd (.ref Y) >>= _) _ _ j;refine ao (W.done j _ _ t λU Tu h=>?_);show wpAny _ O.in1 (ret ae.none) _ _ _;exact aJ (w U Tu (λc m K g a=>h c m g a)<|u.at λm a=>h S0 m H a)
 |succ o T=>
  intro b j R SJ L t u w;have x:b<v:=by lia
  refine ma Bo ?_;rw[nu wx _];show wpAny _ O.in1 (gd (.ref Y) >>= _) _ _ j;refine ao (W.item b j _ _ x t λs l f1 be bs h=>?_);obtain⟨e,rfl,y⟩:=N b s be;have J:tD TN l:=λc m S_ i k z q=>h c m (g c m k) (L c m S_ i k z q);have A:∀p c,SS p c->(eb SR D).is l p c:=λp c M=>⟨(G p c M).1,(G p c M).2.keep J⟩;show wpAny _ O.in1 (holding [ae.ref e] (setAdd S0<|.ref e) >>= _) _ _ _;refine ao (gf ?_);unfold setAdd;refine gf ?_;refine ao ((eb SR D).pyHash (k:=val b) (show O.units+1+10<bP by lia) (A _ _ y) ?_);refine R0 (j:={j with heap:=l,toks:=_}) (show O.units+1+20<bP by lia) (u.at λm a=>h S0 m H a) (A _ _ y) y A (Q b x) λc C B cl=>?_;refine aJ ⟨nJ wx _,T (b+1) _ (by lia) x (λc m S_ i k z q=>?_) (W.frame _ l C bs λc r m a=>?_) cl λco eq ex fd=>?_⟩
  ·show C.get? c=Z m;rw[B.2 c (λd:c=S0=>P m S_ i (d ▸ k) q)];exact J c m S_ i k z q
  ·rw[B.2 c (λd:c=S0=>F (by rw[<-d];exact r))];exact a
  ·refine w co eq (λc m r g a=>ex c m r g ?_) fd;show C.get? c=Z m;rw[B.2 c r];exact h c m g a
end
section
variable{SR:bw}{D:a9}{SS:List ab->ai->Prop}{O:bp}{SM:ae->ak->Prop}{j:ak}
variable{A:ae->ak->Prop}
theorem K7(t:O.handled=X)(k:j.heap.get? H=Z m)(l:m.cls=.type "tuple")(n:m.data=.seq S_ G)(J:O.units+28<bP)(SJ:∀b s,S_[b]?=Z s->∃c,s=.ref c/\SS (SY.getD b []) c)(u:∀p c,SS p c->(eb SR D).is j.heap p c)(g:∀b,b<S_.size->(iE (λb=>SY.getD b []) b).length+1<=300)(v:H≠S0)(h:j.heap.get? S0=Z (lm f))(w:fo D SS j.heap S0 f [])(d:∀U Tu,fo D SS U S0 f (iE (λb=>SY.getD b []) S_.size)->(∀c m,c≠S0->j.heap.get? c=Z m->U.get? c=Z m)->A .none {j with heap:=U,toks:=Tu}):
  wpAny (aM SR D) O (ba.«set.__init__» ⟨[.ref S0,.ref H],[]⟩) (λfin SN=>∃r,fin=.done (.ret r)/\A r SN) SM j:=by
 obtain⟨L,M,N,P⟩:=m;simp only at l n;subst l;subst n;have Q:=P5;have R:=Qu;have S:(ae.type "tuple" == ae.type "dict")=al:=by decide
 unfold lm at h;have o:j.heap.IsTuple H S_:=⟨_,k,rfl,G,rfl⟩;unfold ba.«set.__init__» noKeywords ba.Frozenset.updateFrom;generalize x:mZ=ke
 wp_walk
 subst x;refine wpAny_pyIter_tuple o ?_;refine ao (CI ?_);have y:H<j.heap.objs.size:=bX k;have z:S0<j.heap.objs.size:=bX h;have B:O.in1.handled=X:=by simp[t]
 refine QH (f:=f) (SS:=SS) (TN:=j.heap) (show O.units+25<bP by lia) (i1.tuple B _ H (cT y) S_) ?_ (λb=>SY.getD b []) SJ u ?_ ?_ g (S_.size-0) 0 _ (by lia) (gV _) ?_ ⟨⟨_,da _ rfl,rfl,rfl⟩,?_⟩ ?_ λU Tu C E=>?_
 ·simp only[bI,fZ,hk,not_or];exact⟨cT z,λa=>v a.symm⟩
 ·intro c m a;rw[bW];exact cT (bX a)
 ·intro I S_ i e q;rw[h]at e;cases e;cases q
 ·intro c m S_ i e q T;exact bS _ e
 ·obtain⟨m,F,r⟩:=o;exact⟨m,bS _ F,r⟩
 ·exact w.at λm a=>bS _ a
 ·show wpAny _ _ _ _ _ _;refine aJ ?_;show wpAny _ _ (ret ae.none) _ _ _;refine aJ ⟨_,rfl,d U Tu E λc m g a=>C c m g ?_<|bS _ a⟩;rw[bW];exact cT (bX a)
theorem I1(v:O.handled=X)(k:j.heap.get? H=Z m)(w:m.cls=.type "tuple")(x:m.data=.seq S_ G)(L:O.units+30<bP)(SJ:∀b s,S_[b]?=Z s->∃c,s=.ref c/\SS (SY.getD b []) c)(n:∀p c,SS p c->(eb SR D).is j.heap p c)(y:∀b,b<S_.size->(iE (λb=>SY.getD b []) b).length+1<=300)(d:∀U Tu,fo D SS U j.heap.objs.size (ht D) (iE (λb=>SY.getD b []) S_.size)->(∀c m,j.heap.get? c=Z m->U.get? c=Z m)->A (.ref j.heap.objs.size) {j with heap:=U,toks:=Tu}):
  wpAny (aM SR D) O (call (.type "set") [.ref H]) A SM j:=by
 obtain⟨q,Ub,M⟩:=mz.mro;have P:=mz.made;have Q:=mz.sub;refine vA (CY ?_);show wpAny _ _ (callAny (.type "set") _) _ _ _;refine aJ ⟨Code.quiet_builtin _ (by decide +kernel),ma F.entry_type_call ?_⟩;rw[bp.under_plain (weight_type_call_type "set" [.ref H] []) rfl];have l:=mz.notType;have C:=mz.canCreate;have R:=PySem.F.typeCall_set_1 (.ref H);repeat (any_goals (first|assumption|wp_step))
 refine n1 (IZ (.ref H) (SM:=SM) (a:=λobj o=>obj=.ref j.heap.objs.size/\o={j with heap:=j.heap.push (lm<|ht D)}) ⟨rfl,rfl⟩) λr o f=>?_;cases r with
 |error a=>exact f
 |ok aN=>
  cases aN with
  |ret obj=>
   obtain⟨rfl,rfl⟩:=f;have t:(j.heap.push<|lm<|ht D).get? j.heap.objs.size=Z (lm<|ht D):=da _ rfl;have z:ak.TypeIs {j with heap:=j.heap.push (lm<|ht D)} (.ref j.heap.objs.size) "set" := ⟨_,t,rfl⟩;have T:=mz.init.lookup;have be:=mz.init.bind (.ref j.heap.objs.size);repeat (any_goals (first|assumption|wp_step))
   refine n1 (codeAny_call_builtin (R:=wants (λr e=>r=.none/\∃U Tu,e={j with heap:=U,toks:=Tu}/\
     fo D SS U j.heap.objs.size (ht D) (iE (λb=>SY.getD b []) S_.size)/\(∀c m,j.heap.get? c=Z m->U.get? c=Z m)) SM) mz.init.plain PySem.F.entry_set_init<|check_set_init_1 z ?_) λB e g=>?_
   ·refine fY (K7 (j:={j with heap:=j.heap.push (lm<|ht D)}) (by simp[v]) (bS _ k) w x (by show O.in1.in1.units+28<bP;show O.units+1+1+28<bP;lia) SJ (λp c u=>⟨(n p c u).1,(n p c u).2.keep λc m Y Y a Y Y=>bS _ a⟩) y (cT<|bX k) t (fo.fresh _) (A:=λr e=>r=.none/\∃U Tu,e={j with heap:=U,toks:=Tu}/\
     fo D SS U j.heap.objs.size (ht D) (iE (λb=>SY.getD b []) S_.size)/\(∀c m,j.heap.get? c=Z m->U.get? c=Z m)) λU Tu h E=>⟨rfl,U,Tu,rfl,h,λc m a=>E c m (cT<|bX a)<|bS _ a⟩) (λfin SN i=>?_) λ_ Y a=>a;obtain⟨r,rfl,i⟩:=i;exact i
   ·cases B with
    |error a=>exact g
    |ok I=>
     cases I with
     |ret r=>
      obtain⟨rfl,U,Tu,rfl,h,J⟩:=g;repeat (any_goals (first|assumption|wp_step))
      exact d _ _ h J
     |_=>exact g.elim
  |_=>exact f.elim
end
section
variable{SR:bw}{D:a9}{O:bp}{SM:ae->ak->Prop}{j:ak}
theorem GN{Ta:Type}(next:Nat->Nat):∀(fuel o:Nat) (left:List Ta) (TR:Array Ta),left.length=fuel->(iZ.go next fuel o left TR).toList.Perm (TR.toList++left)
 |0,o,left,TR,d=>by
  have a:left=[]:=o4 d;subst a;unfold iZ.go;rw[bU]
 |fuel+1,o,left,TR,d=>by
  unfold iZ.go;have SJ:next o%left.length<left.length:=tY _ (by rw[d];exact qD _)
  rw[dh SJ];dsimp only;refine (GN next fuel (o+1) _ _ (by rw[AD SJ,d];rfl)).trans ?_;rw[vv,a_];exact dL _ (nS _ _ SJ)
theorem ML(next:Nat->Nat)(x:Array Ta):(iZ next x).toList.Perm x.toList:=GN next x.size 0 x.toList #[] (by rw[db])
theorem t2{A:Bool->ak->Prop}(d:A (D.params.followText "set-order") j):wpAny (aM SR D) O setsByText A SM j:=by
 unfold setsByText;exact ao (xv<|aJ d)
variable{A:Option (ae×Nat)->ak->Prop}
theorem Bn(a:iy j.heap S0 Q Td B)(c:B.fits Q.size=aa)(d:D.params.followText "set-order" = al)(g:(!B.plain&&decide (Q.size>1))=al)(h:B.led=aa)(k:aO.below B.place T1=b)(p:A (match Q[b]?,B.place[b]? with|some (_,e),Z u=>Z (e,u+1)|_,_=>X) j):wpAny (aM SR D) O (mH S0 T1 J Td) A SM j:=by
 obtain⟨m,l,o,n⟩:=a;unfold mH;refine ao (ka l n c ?_);dsimp only;refine ao (t2 ?_);rw[d,aG c9];show wpAny _ _ (if (!B.plain&&decide (Q.size>1))=aa then _ else _) _ _ _;rw[g,aG c9];show wpAny _ _ ((if (!B.led && !Q.isEmpty)=aa then (unsupported "set:maker-not-led" : dr Unit) else pure ()) >>= _) _ _ _;rw[h];refine ao (m:=pure ()) (aJ ?_);rw[k];exact aJ p
theorem AM(f:iy j.heap S0 Q Td B)(b:B.fits Q.size=aa)(c:D.params.followText "set-order" = aa)(p:A (((iZ (D.params.setOrder S0 Td) Q)[J]?).map λa=>(a.2,T1)) j):wpAny (aM SR D) O (mH S0 T1 J Td) A SM j:=by
 obtain⟨m,d,g,e⟩:=f;unfold mH;refine ao (ka d e b ?_);dsimp only;refine ao (t2 ?_);rw[c,aB rfl,aG (by simp)];unfold setWalk;refine ao (ao<|ka d e b ?_);dsimp only;refine ao (t2 ?_);rw[c,aB rfl];exact ao (xv<|aJ<|aJ p)
theorem zG{A:ae->ak->Prop}(a:f_ j.heap Y T3 b S0 v Td)(p:A (.ref Y) j):wpAny (aM SR D) O (mZ<|.ref Y) A SM j:=by
 refine v4 a.ty GY (gW GY a.ty R4 ?_<|JD _);show wpAny _ _ (ret<|.ref Y) _ _ j;exact aJ ⟨_,rfl,"set_iterator",_,a.ty,qK.lookup,p⟩
noncomputable def xH(a:Array Nat):Nat->Nat
 |0=>0
 |b+1=>a.getD b 0+1
theorem zN{c:Array Nat}(r:et c):∀{b:Nat},b<=c.size->aO.below c (xH c b)=b
 |0,_=>KH r
 |b+1,d=>by
  have a:c[b]?=Z (c.getD b 0):=by simp[Array.getD,show b<c.size from d]
  exact Hv r a
noncomputable def kk(Q:Array (Int×ae)):List ae:=Q.toList.map (·.2)
theorem uJ(Q:Array (Int×ae)):(kk Q).length=Q.size:=by rw[kk,a5,db]
theorem R2(v:O.handled=X)(ne:S0≠Y)(h:B.fits Q.size=aa)(l:D.params.followText "set-order" = al)(n:(!B.plain&&decide (Q.size>1))=al)(t:B.led=aa)(r:et B.place):
  i1 SR D O Y [Y,S0] [Y] (kk Q).length (λb s=>(kk Q)[b]?=Z s) (λb d=>f_ d Y (.int (xH B.place b) 0) b S0 Q.size Td/\iy d S0 Q Td B) where
 sub:=λc w=>by
  have:c=Y:=by simpa using w
  simp[this]
 frame:=λb d U st o=>⟨st.1.go (o Y (by simp)),st.2.go (o S0 (by simp))⟩
 item:=λb j A SM SJ st i=>by
  rw[uJ]at SJ;have x:B.place.size=Q.size:=by
   simp only[aO.fits,cd,kB]at h;exact h.1
  have u:Q[b]?=Z Q[b]:=jk SJ;have y:B.place[b]?=Z (B.place.getD b 0):=by simp[Array.getD,show b<B.place.size by lia]
  have z:(kk Q)[b]?=Z Q[b].2:=by rw[kk,d3,ev,u];rfl
  refine Ae (next:=xH B.place (b+1)) (e:=Q[b].2) st.1 st.2 h rfl (λC E p=>Bn st.2 h l n t (zN r (by lia)) ?_) λU g c=>i _ U j.toks z ⟨g,st.2.go λm a=>c.extBut S0 m ne a⟩ λq m k a=>c.extBut q m (by simpa using k) a;rw[u,y];exact p
 done:=λj A SM st i=>by
  rw[uJ]at st;have x:B.place.size=Q.size:=by
   simp only[aO.fits,cd,kB]at h;exact h.1
  refine GH v st.1 st.2 h rfl (λC E p=>Bn st.2 h l n t (zN r (by lia)) ?_) λU c=>i U j.toks λq m k a=>c q m (by simpa using k) a;rw[wL (bm _)];exact p
 self:=λb j A SM st i=>zG st.1 i
theorem Q4(n:O.handled=X)(ne:S0≠Y)(h:B.fits Q.size=aa)(k:D.params.followText "set-order" = aa):
  i1 SR D O Y [Y,S0] [Y] (kk<|iZ (D.params.setOrder S0 Td) Q).length (λb s=>(kk<|iZ (D.params.setOrder S0 Td) Q)[b]?=Z s) (λb d=>f_ d Y (.int (0:Nat) 0) b S0 Q.size Td/\iy d S0 Q Td B) where
 sub:=λc r=>by
  have:c=Y:=by simpa using r
  simp[this]
 frame:=λb d U st o=>⟨st.1.go (o Y (by simp)),st.2.go (o S0 (by simp))⟩
 item:=λb j A SM SJ st f=>by
  rw[uJ]at SJ;have l:(iZ (D.params.setOrder S0 Td) Q)[b]?=Z (iZ (D.params.setOrder S0 Td) Q)[b]:=jk SJ;have t:(kk<|iZ (D.params.setOrder S0 Td) Q)[b]?=Z (iZ (D.params.setOrder S0 Td) Q)[b].2:=by rw[kk,d3,ev,l];rfl
  refine Ae (next:=0) (e:=(iZ (D.params.setOrder S0 Td) Q)[b].2) st.1 st.2 h rfl (λu v p=>AM st.2 h k ?_) λU g c=>f _ U j.toks t ⟨g,st.2.go λm a=>c.extBut S0 m ne a⟩ λq m i a=>c.extBut q m (by simpa using i) a;rw[l];exact p
 done:=λj A SM st f=>by
  rw[uJ]at st;refine GH n st.1 st.2 h rfl (λu v p=>AM st.2 h k ?_) λU c=>f U j.toks λq m i a=>c q m (by simpa using i) a;rw[wL (bm _)];exact p
 self:=λb j A SM st f=>zG st.1 f
noncomputable def m3(SO:List Nat):List ae:=SO.map λ(b:Nat)=>en b
noncomputable def j5(Q:Array (Int×ae))(SO:List Nat):List ae:=SO.filterMap λb=>Q[b]?.map (·.2)
theorem Hf{Q:Array (Int×ae)}:∀{SO:List Nat},(∀n∈SO,n<Q.size)->∀(b:Nat) (d:b<SO.length),∃e,Q[SO[b]]?=Z e/\(j5 Q SO)[b]?=Z e.2
 |[],_,b,d=>by cases d
 |n::SO,f,b,d=>by
  have g:n<Q.size:=f n (.head _);have a:Q[n]?=Z Q[n]:=jk g;have h:j5 Q (n::SO)=Q[n].2::j5 Q SO:=by rw[j5,wU (b:=Q[n].2) (by rw[a];rfl)];rfl
  rw[h];cases b with
  |zero=>exact⟨Q[n],a,rfl⟩
  |succ b=>
   obtain⟨e,l,C⟩:=Hf (λn d=>f n<|.tail _ d) b (yy d);exact⟨e,l,C⟩
theorem wh{Q:Array (Int×ae)}:∀{SO:List Nat},(∀n∈SO,n<Q.size)->(j5 Q SO).length=SO.length
 |[],_=>rfl
 |n::SO,b=>by
  have e:n<Q.size:=b n (.head _);have a:Q[n]?=Z Q[n]:=jk e;rw[j5,wU (b:=Q[n].2) (by rw[a];rfl),c7,c7];exact congrArg (·+1) (wh λn d=>b n<|.tail _ d)
theorem I4(u:O.handled=X)(ne:S0≠Y)(v:TP≠Y)(t:B.fits Q.size=aa)(i:∀n∈SO,n<Q.size):
  i1 SR D O Y [Y,S0,TP] [Y] (j5 Q SO).length (λb s=>(j5 Q SO)[b]?=Z s) (λb d=>f_ d Y (.ref TP) b S0 Q.size Td/\iy d S0 Q Td B/\∃m,d.get? TP=Z m/\m.data=.seq (m3 SO).toArray TZ) where
 sub:=λc w=>by
  have:c=Y:=by simpa using w
  simp[this]
 frame:=λb d U st o=>⟨st.1.go (o Y (by simp)),st.2.1.go (o S0 (by simp)),let ⟨m,a,r⟩:=st.2.2;⟨m,o TP (by simp) m a,r⟩⟩
 item:=λb j A SM SJ st f=>by
  obtain⟨k,h,m,a,r⟩:=st;rw[wh i]at SJ;obtain⟨e,l,C⟩:=Hf i b SJ;refine KL (e:=e) (c:=SO[b]) (Tu:=0) k h t rfl a r ?_ l λU g c=>f _ U j.toks C ⟨g,h.go λm a=>c.extBut S0 m ne a,m,c.extBut TP m v a,r⟩ λq m p a=>c.extBut q m (by simpa using p) a;rw[sx,m3,d3,dh SJ];rfl
 done:=λj A SM st f=>by
  obtain⟨k,h,m,a,r⟩:=st;refine HY u k h t rfl a r ?_ λU c=>f U j.toks λq m p a=>c q m (by simpa using p) a;rw[sx,m3,d3,p3 (by rw[wh i];exact bm _)];rfl
 self:=λb j A SM st f=>zG st.1 f
end
section
variable{SR:bw}{D:a9}{O:bp}{SM:ae->ak->Prop}{j:ak}
theorem Qa{r:ai}{A:Bool->ak->Prop}(a:j.TypeIs (.ref r) "set")(d:A al j):wpAny (aM SR D) O (ba.List.listLengthHint<|.ref r) A SM j:=by
 unfold ba.List.listLengthHint;refine ao (qg a PySem.F.slot_set_len.lookup ?_);generalize e:("set.__len__" : String)=f
 wp_delta
 rw[show splitId f=Z ("set","__len__") from by subst e;decide +kernel];subst e;refine ao (p7 (T := "set") (b:=aa) a (by rw[rg];kernel_rfl) ?_);refine zs (λb=>absurd b (by decide)) (λ_=>?_);refine zs (λ_=>?_) (λb=>absurd (by decide +kernel) b);refine ao (lD a ?_);exact aJ d
theorem Rv(a:SO.Perm (range Q.size)):j5 Q SO=(SO.filterMap λb=>Q[b]?).map (·.2)/\(SO.filterMap λb=>Q[b]?).Perm Q.toList:=by
 refine⟨?_,(a.filterMap _).trans (by rw[Ef])⟩;rw[G7];rfl
end
section
variable{SR:bw}{D:a9}{O:bp}{SM:ae->ak->Prop}{j:ak}
end
theorem RF{P:Ta->z}:∀{d H:List z},d.Perm H->∀TF:List Ta,TF.map P=H->∃b:List Ta,b.Perm TF/\b.map P=d:=by
 intro d H n;induction n with
 |nil=>intro TF a;cases List.map_eq_nil_iff.mp a;exact⟨[],.nil,rfl⟩
 |cons e n j=>
  intro TF a;obtain⟨g,r,rfl,rfl,f⟩:=zl.mp a;obtain⟨b,h,Tv⟩:=j r f;exact⟨g::b,h.cons g,by rw[ci,Tv]⟩
 |swap e t H=>
  intro TF a;obtain⟨g,r,rfl,rfl,f⟩:=zl.mp a;obtain⟨c,i,rfl,rfl,k⟩:=zl.mp f;exact⟨c::g::i,.swap g c i,by rw[ci,ci,k]⟩
 |trans h Tv l m=>
  intro TF a;obtain⟨o,p,q⟩:=m TF a;obtain⟨s,u,v⟩:=l o q;exact⟨s,u.trans p,v⟩
theorem Er{D:a9}{SS:List ab->ai->Prop}:∀TF:List (List ab×Int×ae),(∀z∈TF,uA D SS z)->∃a:List (List ab×ai),TF.map (λz=>z.2.2)=a.map (λz=>ae.ref z.2)/\a.map (·.1)=TF.map (·.1)/\∀z∈a,SS z.1 z.2
 |[],_=>⟨[],rfl,rfl,λ_ d=>(fZ d).elim⟩
 |z::TF,d=>by
  obtain⟨c,e,k,f⟩:=d z (.head _);obtain⟨a,g,h,i⟩:=Er TF λz j=>d z (.tail _ j);refine⟨(z.1,c)::a,by rw[ci,ci,g,e],by rw[ci,ci,h],λt b=>?_⟩;rcases bI.mp b with rfl|b
  ·exact f
  ·exact i t b
section
variable{SR:bw}{D:a9}{SS:List ab->ai->Prop}{O:bp}{SM:ae->ak->Prop}{j:ak}
theorem N7{A:ae->ak->Prop}(z:O.handled=X)(R:fo D SS j.heap S0 (ht D) SY)(C:SY.length<=300)(d:∀(l:aT) (k:_) (Y:ai) (b0:List ai) (T:List ae) (e:List (List ab×ai)) (St:Nat->aT->Prop),(∀c m,j.heap.get? c=Z m->l.get? c=Z m)->j.heap.objs.size<=Y->(∀c∈b0,c=S0\/j.heap.objs.size<=c)->
   i1 SR D O Y b0 [Y] T.length (λb s=>T[b]?=Z s) St->St 0 l->T=e.map (λg=>ae.ref g.2)->(e.map (·.1)).Perm SY->(∀g∈e,SS g.1 g.2)->A (.ref Y) {j with heap:=l,drawn:=k}):
  wpAny (aM SR D) O (mZ<|.ref S0) A SM j:=by
 obtain⟨m,Q,Td,B,o,E,v,w⟩:=R;have ty:j.TypeIs (.ref S0) "set" := ⟨m,o,E.1⟩;have G:S0<j.heap.objs.size:=bX o;have S:Q.size<=sizeLine:=by rw[w.num];exact ed C (by decide)
 have I:∀H:List (Int×ae),H.Perm Q.toList->∃e:List (List ab×ai),H.map (·.2)=e.map (λg=>ae.ref g.2)/\(e.map (·.1)).Perm SY/\∀g∈e,SS g.1 g.2:=λH bk=>by
  obtain⟨TF,U,be,bs⟩:=w.oB;obtain⟨cl,J,Tv⟩:=RF bk TF U;obtain⟨e,q,t,u⟩:=Er (D:=D) (SS:=SS) cl λg C=>bs g (J.mem_iff.mp C);refine⟨e,?_,?_,u⟩
  ·rw[<-Tv,gJ];exact q
  ·rw[t];exact (J.map _).trans be
 refine v4 ty El (gW El ty HB ?g<|PySem.F.args_set_iter_1 _)
 case g=>
  unfold ba.«frozenset.__iter__» ba.Frozenset.slot0 ba.Frozenset.addrOf ba.Frozenset.sizeOf;refine ao (ao<|aJ<|aJ ?_);refine ao (ao<|qL o v w.fit<|aJ ?_);refine ao ?_;unfold setDrawn;refine ao (ka o v w.fit ?_);dsimp only;refine ao (t2<|aJ ?_);have co:D.params.followText "set-order" = aa\/(!B.plain&&decide (Q.size>1))=al->
    wpAny (aM SR D) O.in1 (do let Td <-setEpoch S0;let r <-newFields "set_iterator" [en 0,en 0,.ref S0,en Q.size,en Td];ret r) (λfin SN=>∃r,fin=PySem.Fin.done (.ret r)/\∃L p,SN.TypeIs r L/\yQ (.type L) "__next__" = pure (Z p)/\A r SN) SM j:=by
   intro eq;refine ao (DX o v w.fit<|ao<|fq<|aJ ⟨_,rfl,"set_iterator",_,⟨_,da _ rfl,rfl⟩,qK.lookup,?_⟩);have cP:∀c m,j.heap.get? c=Z m->(j.heap.push {cls:=.type "set_iterator",dict:=X,data:=.fields [en 0,en 0,.ref S0,en Q.size,en Td].toArray}).get? c=Z m:=λc m a=>bS _ a;have M:f_ (j.heap.push {cls:=.type "set_iterator",dict:=X,data:=.fields [en 0,en 0,.ref S0,en Q.size,en Td].toArray}) j.heap.objs.size (.int (0:Nat) 0) 0 S0 Q.size Td:=⟨_,da _ rfl,rfl,rfl⟩;have P:iy (j.heap.push {cls:=.type "set_iterator",dict:=X,data:=.fields [en 0,en 0,.ref S0,en Q.size,en Td].toArray}) S0 Q Td B:=⟨m,cP _ _ o,E,v⟩;have b0:∀c∈[j.heap.objs.size,S0],c=S0\/j.heap.objs.size<=c:=λc h=>by
    rcases bI.mp h with rfl|h
    ·exact .inr (bm _)
    ·exact .inl (bW.mp h)
   cases x:D.params.followText "set-order" with
   |true=>
    have y:=ML (D.params.setOrder S0 Td) Q;obtain⟨e,q,t,u⟩:=I _ y;exact d _ j.drawn _ _ _ _ _ cP (bm _) b0 (Q4 z (cT G) w.fit x) ⟨M,P⟩ q t u
   |false=>
    have ex:=eq.resolve_left (by rw[x];exact c9);obtain⟨e,q,t,u⟩:=I _ (.refl _);exact d _ j.drawn _ _ _ _ _ cP (bm _) b0 (R2 z (cT G) w.fit x ex (by rw[w.tab.led,ht,x];rfl) w.tab.rise) ⟨M,P⟩ q t u
  show wpAny _ _ (if (!D.params.followText "set-order" && (!B.plain&&decide (Q.size>1)))=aa then _ else _) _ _ _;cases hd:(!D.params.followText "set-order" && (!B.plain&&decide (Q.size>1))) with
  |false=>
   rw[aG c9];refine ao (m:=pure (en 0)) (aJ<|co ?_);cases x:D.params.followText "set-order" with
   |true=>exact .inl rfl
   |false=>rw[x]at hd;exact .inr hd
  |true=>
   rw[aB rfl];refine ao (C7 Q.size (range Q.size) j _ kE λk SO y=>?_);have fd:∀n∈SO,n<Q.size:=λn d=>f2.mp (y.mem_iff.mp d);have fn:SO.length=Q.size:=by rw[y.length_eq,kE]
   refine ao (m:=newObj (.type "tuple") (.seq (m3 SO).toArray)) (fq ?_ (show (m3 SO).toArray.size<=sizeLine by rw[cr,m3,a5,fn];exact S));refine ao (DX (bS _ o) v w.fit<|ao<|fq<|aJ ⟨_,rfl,"set_iterator",_,⟨_,da _ rfl,rfl⟩,qK.lookup,?_⟩);obtain⟨f1,go⟩:=Rv y;obtain⟨e,q,t,u⟩:=I _ go;have g1:({j with heap:=j.heap.push {cls:=.type "tuple",dict:=X,data:=.seq (m3 SO).toArray},drawn:=k}:ak).heap.objs.size=j.heap.objs.size+1:=jW ..;refine d _ k _ [_,S0,j.heap.objs.size] (j5 Q SO) e _ (λc m a=>bS _<|bS _ a) ?_ ?_ (I4 (Td:=Td) (B:=B) (TZ:=0) z ?_ ?_ w.fit fd) ⟨⟨_,da _ rfl,rfl,rfl⟩,⟨m,bS _<|bS _ o,E,v⟩,⟨_,bS _<|da _ rfl,rfl⟩⟩ (f1.trans q) t u
   ·exact mh (by rw[jW];exact qV _)
   ·intro c h;rcases bI.mp h with rfl|h
    ·exact .inr (by rw[jW];exact wf _)
    ·rcases bI.mp h with rfl|h
     ·exact .inl rfl
     ·exact .inr (by rw[bW.mp h];exact bm _)
   ·rw[jW];exact cT (ES G)
   ·rw[jW];exact cT (qV _)
theorem Nx{A:List ae->ak->Prop}(cl:O.handled=X)(v:fo D SS j.heap S0 (ht D) SY)(w:SY.length<=300)(d:∀(U:aT) (Tu:Nat) (k:_) (f:List (List ab×ai)),(∀c m,j.heap.get? c=Z m->U.get? c=Z m)->(f.map (·.1)).Perm SY->(∀i∈f,SS i.1 i.2)->A (f.map λi=>ae.ref i.2) {j with heap:=U,toks:=Tu,drawn:=k}):
  wpAny (aM SR D) O (collect<|.ref S0) A SM j:=by
 have x:S0<j.heap.objs.size:=let ⟨_,_,_,_,a,_⟩:=v;bX a
 unfold collect;refine ao (CI<|ma entry_proto_collect' ?_);rw[nu PySem.F.plain_proto_collect _];show wpAny _ O.in1 (ow [] >>= λH=>again<|.builtin "list.__iadd__" ⟨[H,.ref S0],[]⟩) _ _ j;refine ao (fq ?_);refine aJ ⟨nJ As _,ma entry_list_iadd' ?_⟩;rw[nu As _];generalize y:j.heap.push {cls:=.type "list",dict:=X,data:=.seq ([]:List ae).toArray}=SU;have z:∀c m,j.heap.get? c=Z m->SU.get? c=Z m:=λc m a=>by rw[<-y];exact bS _ a
 have B:SU.get? j.heap.objs.size=Z {cls:=.type "list",dict:=X,data:=.seq #[]}:=by rw[<-y];exact da _ rfl
 have E:j.heap.objs.size<SU.objs.size:=bX B;have G:fo D SS SU S0 (ht D) SY:=v.at λm a=>z S0 m a;have ty:ak.TypeIs {j with heap:=SU} (.ref S0) "set" := let ⟨m,_,_,_,a,e,_⟩:=G;⟨m,a,e.1⟩
 show wpAny _ O.in1 (ba.List.listExtendWith (.ref j.heap.objs.size) (.ref S0)<|.ref j.heap.objs.size) _ _ _;unfold ba.List.listExtendWith;refine ao (lD (T := "set") ty ?_);have l:ba.List.listSameRef (.ref j.heap.objs.size) (.ref S0)=al:=by simp[ba.List.listSameRef,l2 x]
 have C:(ae.type "set" == ae.type "list")=al:=by decide
 have co:(ae.type "set" == ae.type "tuple")=al:=by decide
 simp only[l,C,co,Bool.or_false,g7,fF];refine ao (N7 (j:={j with heap:=SU}) cl G w λC k Y b0 T f St Tr eq ex W st iL Te I=>?_);have fd:T.length<=sizeLine:=by rw[iL,a5,<-a5 (f:=(·.1)),Te.length_eq];exact ed w (by decide)
 have J:j.heap.objs.size∉b0:=λn=>by
  rcases ex _ n with a|a
  ·exact absurd a (l2 x)
  ·exact absurd E (pa.mpr a)
 have p:C.get? j.heap.objs.size=Z {cls:=.type "list",dict:=X,data:=.seq #[]}:=Tr _ _ B;have fn:ak.TypeIs {j with heap:=C,drawn:=k} (.ref S0) "set" := let ⟨m,a,q⟩:=ty;⟨m,Tr _ _ a,q⟩
 have M:∀(g:aT) (q:Nat) (SQ:rj->ak->Prop),St 0 g->(∀c m,c≠j.heap.objs.size->C.get? c=Z m->g.get? c=Z m)->g.get? j.heap.objs.size=Z {cls:=.type "list",dict:=X,data:=.seq #[] q}->
   (∀(U:aT) (Tu:Nat) (h:Nat),(∀c m,j.heap.get? c=Z m->U.get? c=Z m)->U.get? j.heap.objs.size=Z {cls:=.type "list",dict:=X,data:=.seq T.toArray h}->SQ (.ok<|.ret<|.ref j.heap.objs.size) {j with heap:=U,toks:=Tu,drawn:=k})->
   codeAny (aM SR D) O (.builtin "list.extend.loop" ⟨[.ref j.heap.objs.size,.ref Y,.ref j.heap.objs.size],[]⟩) SQ {j with heap:=g,drawn:=k}:=λg q SQ st cP f1 go=>
  codeAny_extend_loopS W.toS fd j.heap.objs.size J (.ref j.heap.objs.size) T.length 0 _ #[] q rfl (gV _) st f1 (ItemsOf.nil _) λSN r h n Q R=>by
   rw[show SN={j with heap:=SN.heap,toks:=SN.toks,drawn:=k} from by obtain⟨P,g1,hd,im,P⟩:=n;cases SN;cases g1;cases hd;cases im;rfl];have mb:r=T.toArray:=by
    apply Array.toList_inj.mp;apply vR
    ·rw[db];exact R.1
    ·intro b ne Tc;have:=R.2 b r.toList[b] (by rw[<-ev];exact dh ne);have this:T[b]?=Z r.toList[b]:=this;rw[dh Tc]at this;exact (Option.some.inj this).symm
   rw[mb]at Q;refine go SN.heap SN.toks h (λc m a=>n.heap c m (λs=>?_)<|cP c m (cT<|bX a)<|Tr c m<|z c m a) Q;rcases bI.mp s with of|s
   ·exact absurd (bX a) (by rw[of];exact kg _)
   ·have S:=bX a;rw[bW.mp s]at S;have:j.heap.objs.size<=Y:=ed (mh E) eq;exact absurd S (pa.mpr this)
 refine ao (gf<|Qa (j:={j with heap:=C,drawn:=k}) fn ?_);refine zs (λ_=>?_) (λ_=>aJ ⟨nJ EF _,M _ 0 _ st (λc m P a=>a) p λU Tu h t u=>ao (wn u (aJ (by rw[iL];exact d U Tu k f t Te I)))⟩);refine ao (h4 ?_);refine ao ?_;show wpAny _ _ (updateSeq j.heap.objs.size (·.push .none) >>= λ_=>updateSeq j.heap.objs.size (·.pop)) _ _ _;refine ao (AP (s:={j with heap:=C,drawn:=k}) p rfl ?_);have be:=nc (a0.mapSeq (·.push ae.none)) p rfl;refine AP (hz:=by seq_fits) be rfl ?_;have on:=nc (a0.mapSeq (·.pop)) be rfl;refine aJ ⟨nJ EF _,M _ _ _ ?_ (λc m o a=>?_) on λU Tu h t u=>ao (wn u (aJ (by rw[iL];exact d U Tu k f t Te I)))⟩
 ·refine W.frame 0 _ _ st λc o m a=>?_;have bs:c≠j.heap.objs.size:=λd=>J (d ▸ o);exact (k7 _ _<|fB bs).trans ((k7 _ _<|fB bs).trans a)
 ·exact (k7 _ _<|fB o).trans ((k7 _ _<|fB o).trans a)
end
end L2
namespace L2
open PySem PySem.Spec PyProof.Rows PySem.W
section
variable{f:aH}{G:List (ai×a0)}{y:St}{h:au}{j:ak}
theorem Inv.Kc(Y:Inv f G y h j)(k:Drawn):Inv f G y h {j with drawn:=k}:=⟨Y.ok,Y.os,Y.bare,Y.base,Y.loc,Y.cell,Y.free,Y.gh,Y.pin,Y.aV,Y.len⟩
end
section
variable{f:aH}
end
variable{q S1 Tv n:Pos}{g:a8}{SY:List (List ab)}
theorem iM.perm{E Q:List ab}(m:iM E)(n:Q.Perm E):iM Q:=
 ⟨⟨by rw[n.length_eq];exact m.ord.jR,λg a c b=>m.ord.jb g (n.mem_iff.mp a) c<|n.mem_iff.mp b,n.nodup_iff.mpr m.ord.ah⟩,m.fst.imp (λd k hd=>d k<|n.mem_iff.mp hd) λd k hd=>d k<|n.mem_iff.mp hd⟩
theorem EZ{h:au}:∀{a:List (List ab×ai)},(∀z∈a,cq h (.tup z.1)<|.ref z.2)->bu h ((a.map (·.1)).map .tup) (a.map λz=>as.ref z.2)
 |[],_=>rfl
 |z::a,d=>⟨_,_,rfl,d z<|.head _,EZ λt b=>d t<|.tail _ b⟩
theorem w6:∀a:List (List ab×ai),bK (a.map λz=>as.ref z.2) (a.map λz=>ae.ref z.2)
 |[]=>.nil
 |z::a=>.cons rfl (w6 a)
section
variable{f:aH}{G:List (ai×a0)}{y:St}{h:au}{j:ak}{SS:List ab->ai->Prop}
theorem QY(cl:f.calm=aa)(s1:f.A.units+20<bP){S0:ai}{SY:List (List ab)}{A:cw}(Y:Inv f G y h j)(co:fo f.w SS j.heap S0 (ht f.w) SY)(eq:∀o c,SS o c->cq h (.tup o) (.ref c))(m:iM (SY.map .tup))(B:SY.length<=300)(p:∀H TF,h H=X->bu h (fl bx<|SY.map .tup) TF->A (.ref H) (upd h H<|.lst TF)):
  wpAny (aM f.prog f.w) f.A (call (.builtin "sorted") [.ref S0]) (d4 f G y A) f.ce j:=by
 refine tN y4 ws xD (zc _) ?g
 case g=>
  unfold ba.«sorted»;refine ao (m:=v_ "sorted" 1 1 _) (aJ<|ao<|Nx (O:=f.A.in1) (Y.ok.hd cl) co B λU Tu k q ex Te fd=>?_);have F:Inv f G y h {j with heap:=U,toks:=Tu,drawn:=k}:=(Y.Kc k).kept (Tk:=Tu) ex;have SJ:bu h ((q.map (·.1)).map .tup) (q.map λg=>as.ref g.2):=EZ λg B=>eq _ _ (fd g B);have x:dw U ((q.map (·.1)).map .tup) (q.map λg=>ae.ref g.2):=SJ.fx F.aV (w6 q);have J:((q.map (·.1)).map ab.tup).Perm (SY.map .tup):=Te.map _;have TM:=m.perm J;have fn:q.length<=300:=by rw[<-a5 (f:=(·.1)),Te.length_eq];exact B
  generalize s2:(q.map (·.1)).map ab.tup=E at SJ x J TM;generalize f1:q.map (λg=>as.ref g.2)=S2 at SJ;have L:bK S2 (q.map λg=>ae.ref g.2):=f1 ▸ w6 q;generalize go:q.map (λg=>ae.ref g.2)=SZ at x L ⊢;have R:SZ.length=E.length:=x.length.symm;have g1:SZ.length<=300:=by rw[<-go,a5];exact fn
  show wpAny _ _ (ow SZ >>= _) _ _ _;refine ao (rV ?_ (ed g1 (by decide)));have S:(U.push<|ff "list" SZ.toArray 0).get? U.objs.size=Z (ff "list" SZ.toArray 0):=da _ rfl;refine ao (gf<|gW za ⟨_,S,rfl⟩ wM ?t<|wO _)
  case t=>
   have M:∀r:aT,(∀c u,c≠U.objs.size->(U.push<|ff "list" SZ.toArray 0).get? c=Z u->r.get? c=Z u)->∀c u,U.get? c=Z u->r.get? c=Z u:=λr z c u a=>z c u (cT<|bX a) (bS _ a);refine xM (j:={j with heap:=U.push (ff "list" SZ.toArray 0),toks:=Tu,drawn:=k}) (nn E) (n9<|decide (∀k∈E,g3 k=aa)) S (λC r z A im=>vr (d:=r) (j:={j with heap:=r,toks:=Tu,drawn:=k}) TM.w C (x.oi<|M r z) _ _ A im) (λr z=>?_) (.inl (by lia)) (by lia) λn C v T Tr ⟨mb,ne⟩=>⟨_,rfl,aJ ⟨_,rfl,?_⟩⟩
   ·refine zF (j:={j with heap:=r,toks:=Tu,drawn:=k}) TM.w.ord (x.oi<|M r z) TM.w.tup (λof=>dT of) (by show f.A.units+1+1+9<bP;lia)
   ·have on:h U.objs.size=X:=F.aV.fresh (bm _);rw[R]at v T;have pm:(n.toList.map λb=>E.getD b .aR)=fl bx (SY.map .tup):=xl m.w.ord ((u5 v).trans J) (x3 TM.w.ord v T);have be:=SJ.pick (n:=n.toList) λo N=>f2.mp (v.mem_iff.mp N);rw[pm]at be;refine⟨.ref U.objs.size,upd h U.objs.size<|.lst<|n.toList.map λb=>S2.getD b .aR,?_,rfl,p _ _ on be⟩;refine F.laid (Tk:=Tu) (λc I a=>M C Tr c I a) (bm _) ⟨?_,_,mb,?_,ne⟩
    ·rw[a5,db,v.size];exact ed (by lia:E.length<=300) (by decide)
    ·refine sA (by simp) λb s I l C=>?_;rw[d3]at l C;cases Q:n.toList[b]? with
     |none=>rw[Q]at l;cases l
     |some o=>
      rw[Q]at l C;cases l;cases C;have N:o<E.length:=f2.mp (v.mem_iff.mp<|e5 Q);have bs:o<S2.length:=by rw[L.length,R];exact N
      obtain⟨I,pt,sp⟩:=L.get (b:=o) (e:=S2[o]) (dh bs);show bZ (S2.getD o .aR) (SZ.getD o .none);rw[cp,dh bs,cp,pt];exact sp
def fI(SY:List (List ab)):List (List ab):=SY.foldl gv []
theorem yg(SY:List (List ab)):∀b,b<=SY.length->iE (λb=>SY.getD b []) b=(SY.take b).foldl gv []
 |0,_=>by rw[ug];rfl
 |b+1,d=>by
  rw[FA (show b<SY.length from d),sa,<-yg SY b (Nat.le_of_succ_le d)];show gv _ (SY.getD b [])=gv _ SY[b];rw[cp,dh<|show b<SY.length from d];rfl
theorem Rl(H:List (List ab)):∀(a:List (List ab)) (e:List ab),e∈H.foldl gv a↔e∈a\/e∈H:=by
 induction H with
 |nil=>intro a e;simp
 |cons o r c=>
  intro a e;rw[jF,c];unfold gv;by_cases b:o∈a
  ·rw[aB b,bI];constructor
   ·rintro (d|d)
    ·exact .inl d
    ·exact .inr (.inr d)
   ·rintro (d|d|d)
    ·exact .inl d
    ·exact .inl (d ▸ b)
    ·exact .inr d
  ·rw[aG b,cx,bW,bI,or_assoc]
theorem Dd{e:List ab}:e∈fI SY↔e∈SY:=by
 rw[fI,Rl];simp
theorem LZ(H:List (List ab)):∀b:List (List ab),b.Nodup->(H.foldl gv b).Nodup:=by
 induction H with
 |nil=>intro b d;exact d
 |cons o r c=>
  intro b d;refine c _ ?_;unfold gv;split
  ·exact d
  ·next f=>exact cF.mpr ⟨d,er _ o,λe g t h=>by cases bW.mp h;exact λa=>f<|a ▸ g⟩
theorem BY(SY:List (List ab)):(fI SY).Nodup:=LZ SY [] io
theorem Ms(H:List (List ab)):∀a:List (List ab),a.length<=(H.foldl gv a).length:=by
 induction H with
 |nil=>intro a;exact bm _
 |cons o r b=>
  intro a;refine ed ?_ (b _);unfold gv;split
  ·exact bm _
  ·rw[cb];exact m1 _ _
theorem HT{b:Nat}(d:b<=SY.length):(iE (λb=>SY.getD b []) b).length<=(fI SY).length:=by
 rw[yg SY b d];have a:fI SY=(SY.drop b).foldl gv ((SY.take b).foldl gv []):=by
  rw[fI,<-sa,e9]
 rw[a];exact Ms _ _
theorem Ku(SY:List (List ab)):iE (λb=>SY.getD b []) SY.length=fI SY:=by
 rw[yg SY _ (bm _),n4];rfl
def OB(TB:eL):bR:=λy h A=>TB y h λT SU=>∃(g:ai) (SY:List (List ab)) (S2:List as),T=[.ref g]/\SU g=Z (.tup S2)/\bu SU (SY.map .tup) S2/\(∀o∈SY,ab.keys 7 o=aa)/\iM ((fI SY).map .tup)/\(fI SY).length<300/\
 ∀H TF,SU H=X->bu SU (fl bx<|(fI SY).map .tup) TF->A (.ref H) (upd SU H<|.lst TF)
theorem bu.at{h:au}:∀{E:List ab}{T:List as}{b:Nat}{s:as},bu h E T->T[b]?=Z s->∃k,E[b]?=Z k/\cq h k s
 |[],T,b,s,d,a=>by rw[show T=[] from d]at a;simp at a
 |k::E,T,0,s,d,a=>by
  obtain⟨I,r,rfl,l,C⟩:=d;cases a;exact⟨k,rfl,l⟩
 |k::E,T,b+1,s,d,a=>by
  obtain⟨I,r,rfl,l,C⟩:=d;obtain⟨TV,c,e⟩:=bu.at (b:=b) C (by simpa using a);exact⟨TV,by simpa using c,e⟩
theorem Ld(z:f.calm=aa)(B:f.A.units+30<bP){H:ai}{SY:List (List ab)}{S2:List as}{A:ae->ak->Prop}(Y:Inv f G y h j)(C:h H=Z (.tup S2))(SJ:bu h (SY.map .tup) S2)(E:∀o∈SY,ab.keys 7 o=aa)(P:(fI SY).length<300)(d:∀U Tu S0,Inv f G y h {j with heap:=U,toks:=Tu}->fo f.w (λo c=>ab.keys 7 o=aa/\cq h (.tup o) (.ref c)) U S0 (ht f.w) (fI SY)->A (.ref S0) {j with heap:=U,toks:=Tu}):
  wpAny (aM f.prog f.w) f.A (call (.type "set") [.ref H]) A f.ce j:=by
 obtain⟨a,SZ,g,m,F,J,v,L⟩:=Y.aV H _ C;have M:SZ.length=SY.length:=by rw[<-g.length,<-SJ.length,a5]
 have n:SZ.toArray.size=SY.length:=by rw[cr,M]
 refine I1 (SS:=λo c=>ab.keys 7 o=aa/\cq h (.tup o) (.ref c)) (S_:=SZ.toArray) (SY:=SY) (Y.ok.hd z) F (Prod.mk.inj J).1 L B (λb s i=>?_) (λp c a=>⟨a.1,a.2.fx Y.aV rfl⟩) (λb SJ=>?_) λU Tu q cP=>?_
 ·rw[sx]at i;have r:b<S2.length:=by rw[g.length];exact (fw.mp i).1
  obtain⟨I,t,Tc⟩:=g.get (b:=b) (e:=S2[b]) (dh r);rw[i]at t;cases t;obtain⟨k,TE,l⟩:=SJ.at (b:=b) (s:=S2[b]) (dh r);rw[d3]at TE;obtain⟨o,u,rfl⟩:=ch.mp TE;obtain⟨c,x,N,Q,R⟩:=id l;rw[N]at Tc l;refine⟨c,Tc,?_⟩;rw[cp,u];exact⟨E o<|e5 u,l⟩
 ·rw[n]at SJ;have:=HT (SY:=SY) (mh SJ);lia
 ·rw[n,Ku]at q;exact d U Tu _ (Y.kept (Tk:=Tu) cP) q
theorem JU{TB:eL}(a:f.calm=aa)(b:f.A.units+30<bP)(e:dU f "sorted")(i:f.aw "sorted" = X)(k:dU f "set")(l:f.aw "set" = X)(m:gG f [g] TB)(SX:bG [g] f.env=[(al,bQ g f.env)]:=by rfl):
  bC f (.Call (.Name "sorted" Tv) [.Call (.Name "set" n) [g] [] S1] [] q) (OB TB):=by
 intro G j y h A Y d;refine oJ (nv Y e i (show eE "sorted" = Z (.builtin "sorted") by decide +kernel) (Be ?_ rfl rfl) (by decide) (by decide));refine Ay ?_;refine Call_ (nv Y k l (show eE "set" = Z (.type "set") by decide +kernel)<|tE (bJ (m S1 G j y h _ Y d) λS7 E ⟨T,SU,r,s,t⟩=>?_) SX rfl);obtain⟨H,SY,S2,rfl,u,SJ,v,w,x,p⟩:=t;obtain⟨I,rfl,z⟩:=he s;cases z;exact Ld a b r u SJ v x λU Tu S0 B C=>Fj (QY a (by lia) B C (λo c D=>D.2) w (by lia) p)
end
noncomputable def mP:List ab->Option (List<|List ab)
 |[]=>Z []
 |.tup g::r=>(mP r).map (g::·)
 |_=>X
theorem Bp:∀{e:List ab}{SY:List (List ab)},mP e=Z SY->e=SY.map .tup
 |[],SY,d=>by cases d;rfl
 |.tup g::r,SY,d=>by
  obtain⟨o,l,rfl⟩:=ch.mp d;rw[Bp l];rfl
 |.aR::_,_,d=>by cases d
 |.ax _::_,_,d=>by cases d
 |.int _::_,_,d=>by cases d
 |.str _::_,_,d=>by cases d
 |.fn _::_,_,d=>by cases d
 |.aN _::_,_,d=>by cases d
 |.fd::_,_,d=>by cases d
theorem vZ:∀SY:List (List ab),mP (SY.map .tup)=Z SY
 |[]=>rfl
 |o::SY=>by
  show (mP<|SY.map .tup).map (o::·)=_;rw[vZ SY];rfl
def pW(SY:List (List ab)):Bool:=SY.all (ab.keys 7)&&decide ((fI SY).length<300)
def lV(J:av (List bl)):av aj:=λw=>(J w).bind λn=>(fX n.2 n.1).bind λE=>match E with
 |[.im (.tup e)]=>(mP e).bind λSY=>if pW SY=aa/\o3 ((fI SY).map .tup)=aa then Z (.lst<|fl bx<|(fI SY).map .tup,n.2) else X
 |_=>X
theorem yX:pW SY=aa↔(∀o∈SY,ab.keys 7 o=aa)/\(fI SY).length<300:=by
 unfold pW;rw[cd,fk,jJ]
section
variable{f:aH}
theorem L3{J:av (List bl)}(t:f.A.units+30<bP)(u:dU f "sorted")(v:f.aw "sorted" = X)(B:dU f "set")(D:f.aw "set" = X)(d:eR f [g] J)(SX:bG [g] f.env=[(al,bQ g f.env)]:=by rfl)(F:f.calm=aa:=by rfl):
  b4 f (.Call (.Name "sorted" Tv) [.Call (.Name "set" n) [g] [] S1] [] q) (lV J):=by
 refine dY (JU F t u v B D d SX) λy h A G=>?_;obtain⟨w,N,r,S4,st,ah,I,p⟩:=G;obtain⟨⟨S3,z⟩,l,C⟩:=bB.mp I;obtain⟨E,L,i⟩:=bB.mp C;refine⟨w,N,S3,z,st,ah,l,λT SU S6 U j Th M=>?_⟩;have P:=Th.read j L;split at i
 ·rename_i e;obtain⟨SY,Q,k⟩:=bB.mp i;split at k
  ·rename_i o;cases k;obtain⟨s,rfl,a⟩:=vO P;obtain⟨c,x,rfl,R,SJ⟩:=(show ∃g x,s=as.ref g/\SU g=Z (.tup x)/\bu SU e x from a);cases Bp Q;obtain⟨Tj,Tr⟩:=yX.mp o.1;refine⟨c,SY,x,rfl,R,SJ,Tj,kT.mp o.2,Tr,λH TF aN S=>?_⟩;have b:cG SU (upd SU H<|.lst TF):=(cG.refl SU).upd aN;exact p _ _ S6 [H] (j.mono b.tupS λg Y m a=>b g m a) ⟨H,_,rfl,ec,S.mono b.tupS.tup,rfl⟩ (M.new b (er _ _) (λg d=>by rw[bW.mp d];exact aN) j.chg)
  ·cases k
 ·cases i
end
end L2
namespace L2
open PySem PySem.Spec PyProof.Rows
def sF:fP:=λg c=>match g,c with
 |.im e,.im t=>if fG 6 e t=aa then Z (.im<|.ax<|bx e t) else X
 |_,_=>X
noncomputable def vStr:hN:=λE=>match E with
 |[.im (.int b)]=>if b.natAbs<1000 then Z (.im<|.str<|ay.ofString<|toString b) else X
 |_=>X
section
variable{f:aH}
theorem Ni:gQ f (.type "str") vStr:=by
 intro G j y h x S7 A Y r ⟨E,k,c,a,p⟩;unfold vStr at a;split at a
 ·rename_i b;split at a
  ·rename_i SJ;cases a;obtain⟨s,rfl,d⟩:=ft c;cases (show s=_ from d.i);obtain⟨I,rfl,B,rfl⟩:=he r;refine PySem.P.str_of_int ?_ ⟨.str _,h,Y.tok _,⟨_,rfl⟩,bV.i p rfl⟩;exact rQ (Nat.log2_le_self _) (by lia)
  ·cases a
 ·cases a
theorem zU(n:f.A.units+20<bP):eA f (dG .Lt) sF:=by
 intro G j y h e t s I A Y c d ⟨TD,TA,k,g,l,a,p⟩;unfold sF at a;split at a
 ·split at a
  ·rename_i m;cases a;exact F8 6 m (by lia) (g.i.fx Y.aV c) (l.i.fx Y.aV d) f.prog f.w _ _ ⟨.ax _,h,Y,rfl,bV.i p rfl⟩
  ·cases a
 ·cases a
end
section
variable{f:aH}
end
end L2
namespace G
open PySem L2
def Nr:bj:=(cv<|gS<|ei (bg<|lR "int"<|af 0)<|bg<|gS<|fD<|bg<|lR "bool"<|af 0)
def pc:cN:=c6 1 1 [0] Nr
def Fv:bj:=(cv<|gS<|ei (bg<|lR "tuple"<|af 0)<|ei (bg<|ap dM (V<|bn cZ<|ag (af 0) am)<|V<|aq<|.int 2)<|ei (bg<|bq 1 G.pc<|ag (V<|ap aY (af 0)<|V<|aq<|.int 0) am)<|bg<|bq 1 G.pc<|ag (V<|ap aY (af 0)<|V<|aq<|.int 1) am)
def nh:cN:=c6 1 1 [0] Fv
def Bm:bj:=(cv<|gS<|ei (bg<|bq 1 G.nh<|ag (af 0) am)<|ei (bg<|gc ep ep (V<|aq<|.int 0) (V<|ap aY (af 0)<|V<|aq<|.int 0)<|V<|aq<|.int 30)<|bg<|gc ep ep (V<|aq<|.int 0) (V<|ap aY (af 0)<|V<|aq<|.int 1)<|V<|aq<|.int 30)
def lH:cN:=c6 1 1 [0] Bm
def tq(a:ai):av aj:=(qb 1 a 1 G.lH<|ag (af 0) am)
def G8(a:ai):av aj:=(ap sF (af 0)<|af 1)
def DF(a:ai):bj:=(a7 (dB (ga (fD<|fv<|V<|lR "tuple"<|af 0)<|fD<|fv<|V<|bn h3<|ag (V<|cJ 1 [1] (cA<|af 0) (bb 0) d2<|G.tq a) am) (cv<|aq<|.ax al) ee)<|cv<|bn h3<|ag (V<|cJ 2 [] (ny<|ag (af 0)<|ag (V<|eQ (af 0) (fp<|aq<|.int 1) fg) am) (el 2<|cu (bb 0)<|cu (bb 1) ey) d2<|G.G8 a) am)
def qo(a:ai):cN:=c6 2 2 [0,1] (DF a)
def AC(a:ai):bj:=(cv<|bq 2 (G.qo a)<|ag (af 0)<|ag (V<|aq<|.fn a) am)
def oN(a:ai):cN:=c6 1 1 [0] (AC a)
def li:bj:=(eP (aq<|.ax aa)<|iY 1 (dQ 2) ha)
def sc:bj:=(a7 (bL 1 tk)<|a7 (gI (cA<|af 0) (bb 2) G.li)<|cv<|dQ 1)
def gY:cN:=c6 1 3 [0] sc
def QL:bj:=(a7 (bL 1<|ap aY (af 0)<|V<|aq<|.int 0)<|a7 (bL 2<|ap aY (af 0)<|V<|aq<|.int 1)<|cv<|dq<|ag (V<|bv<|ag (V<|ap iR (af 1)<|V<|aq<|.int 1)<|ag (af 2) am)<|ag (V<|bv<|ag (af 1)<|ag (V<|ap iR (af 2)<|V<|aq<|.int 1) am)<|ag (V<|bv<|ag (af 1)<|ag (V<|ap bH (af 2)<|V<|aq<|.int 1) am)<|ag (V<|bv<|ag (V<|ap bH (af 1)<|V<|aq<|.int 1)<|ag (af 2) am) am)
def yk:cN:=c6 1 3 [0] QL
def uM:av aj:=(bq 2 G.q1<|ag (af 1)<|ag (af 0) am)
def qp:bj:=(a7 (bL 1<|bq 1 G.gY<|ag (V<|cJ 1 [0] (cA<|af 0) (bb 0) d2 G.uM) am)<|a7 (dB (bg<|ap eZ (V<|bn cZ<|ag (af 0) am)<|V<|ap d8 (V<|ap d8 (V<|bn oh<|ag (af 1) am)<|V<|aq<|.int 2)<|V<|aq<|.int 2) Em ee)<|cv<|bn i5<|ag (V<|bn fu<|ag (af 1) am) am)
def i0:cN:=c6 1 2 [0] qp
def lJ:hY:=(uW (bL 1<|bq 1 G.gY<|ag (V<|cJ 1 [0] (cA<|af 0) (bb 0) d2 G.uM) am)<|r2 (bg<|ap eZ (V<|bn cZ<|ag (af 0) am)<|V<|ap d8 (V<|ap d8 (V<|bn oh<|ag (af 1) am)<|V<|aq<|.int 2)<|V<|aq<|.int 2) Z)
end G
namespace cY
noncomputable def iL{Ta:Type}:List Ta->List Ta
 |[]=>[]
 |[g]=>[g]
 |g::_::r=>g::iL r
open PySem PySem.Spec PyProof.Rows
section
variable{SR:bw}{D:a9}{O:bp}{SM:ae->ak->Prop}{j:ak}
end
end cY
namespace L2
open PySem PySem.Spec PyProof.Rows
section
variable{f:aH}
end
end L2
namespace G
open PySem L2
variable{o v:Nat}{met F aA:List aD}{L T Q SO SY:List a4}{SS:ab->Prop}{Th TK y:Option aj}{Ta:Type}{c q m:aD}{k:ab}{J:av aj}{SQ:aj->aU->Prop}{z w:aU}{d:bj}
def p8:bj:=(dB (ei (bg<|ap jL (af 4)<|af 0)<|bg<|ap iI (af 4)<|af 2) (a7 (eP (aq<|.ax aa)<|iY 2 (dQ 4) ha)<|ic<|fS hH 3 hm<|ag (af 4) am) ee)
def DQ:av Bool:=(fv<|af 3)
def sJ:bj:=(gI (cA<|V<|bq 1 G.yk<|ag (V<|fS hH 3 yw am) am) (bb 4) G.p8)
def F9:bj:=(a7 (bL 2<|EH (dQ 1)<|aq<|.ax aa)<|a7 (bL 3<|dq<|ag (af 1) am)<|a7 (jK G.DQ G.sJ 1000000)<|cv<|bn i5<|ag (V<|bn fu<|ag (af 2) am) am)
def nb:cN:=c6 2 5 [0,1] F9
def E0(a:ai):bj:=(a7 (dB (ga (fD<|fv<|V<|bq 1 (G.oN a)<|ag (af 0) am)<|bg<|ap dM (V<|bn cZ<|ag (af 0) am)<|V<|aq<|.int 0) (cv<|aq<|.ax al) ee)<|cv<|ap dM (V<|bn cZ<|ag (V<|bq 2 G.nb<|ag (V<|bq 1 G.gY<|ag (af 0) am)<|ag (V<|ap aY (af 0)<|V<|aq<|.int 0) am) am)<|V<|bn cZ<|ag (af 0) am)
def jT(a:ai):cN:=c6 1 1 [0] (E0 a)
def Ix:bj:=(cv<|gS<|ei (bg<|lR "tuple"<|af 0)<|ei (bg<|ap dM (V<|bn cZ<|ag (af 0) am)<|V<|aq<|.int 2)<|ei (bg<|bq 1 G.nh<|ag (V<|ap aY (af 0)<|V<|aq<|.int 0) am)<|bg<|bq 1 G.nh<|ag (V<|ap aY (af 0)<|V<|aq<|.int 1) am)
def jo:cN:=c6 1 1 [0] Ix
def qE(a:ai):av aj:=(qb 1 a 1 G.jo<|ag (af 0) am)
def BW(a:ai):av aj:=(ap sF (af 0)<|af 1)
def xT(a:ai):bj:=(a7 (dB (ga (fD<|fv<|V<|lR "tuple"<|af 0)<|fD<|fv<|V<|bn h3<|ag (V<|cJ 1 [1] (cA<|af 0) (bb 0) d2<|G.qE a) am) (cv<|aq<|.ax al) ee)<|cv<|bn h3<|ag (V<|cJ 2 [] (ny<|ag (af 0)<|ag (V<|eQ (af 0) (fp<|aq<|.int 1) fg) am) (el 2<|cu (bb 0)<|cu (bb 1) ey) d2<|G.BW a) am)
def kH(a:ai):cN:=c6 2 2 [0,1] (xT a)
def we:av aj:=(bv<|ag (af 2)<|ag (af 0) am)
def wq:av Bool:=(bg<|ap jL (af 0)<|af 1)
def qU:bj:=(a7 (bL 4<|dq<|ag (V<|bv<|ag (V<|ap aY (af 3)<|V<|aq<|.int 0)<|ag (V<|ap bH (V<|ap aY (af 3)<|V<|aq<|.int 1)<|V<|aq<|.int 2) am)<|ag (V<|bv<|ag (V<|ap bH (V<|ap aY (af 3)<|V<|aq<|.int 0)<|V<|aq<|.int 2)<|ag (V<|ap aY (af 3)<|V<|aq<|.int 1) am) am)<|ic<|fS hH 2 lX<|ag (V<|cJ 1 [1,3] (cA<|af 4) (bb 0) G.wq G.we) am)
def Gi:bj:=(a7 (bL 1<|bq 1 G.gY<|ag (af 0) am)<|a7 (bL 2<|dq am)<|a7 (gI (cA<|af 0) (bb 3) G.qU)<|cv<|dQ 2)
def oX:cN:=c6 1 5 [0] Gi
def rh:bj:=(eP (dQ 3)<|iY 2 (dQ 3) ha)
def qv:bj:=(dB (bg<|ap dM (V<|ap aY (af 2)<|af 3)<|af 7) (eP (dQ 6)<|iY 2 (dQ 3) ha) ee)
def rI:bj:=(a7 (bL 6<|ap aY (af 2)<|V<|ap aY (af 5)<|V<|aq<|.int 0)<|a7 (bL 7<|ap aY (af 2)<|V<|ap aY (af 5)<|V<|aq<|.int 1)<|dB (bg<|ap eZ (af 6)<|af 7) (a7 (ic<|fS hH 4 hm<|ag (af 5) am)<|gI (cA<|af 0) (bb 3) G.qv) ee)
def C9:bj:=(a7 (bL 2 tk)<|a7 (gI (cA<|af 0) (bb 3) G.rh)<|a7 (bL 4<|dq am)<|a7 (gI (cA<|af 1) (bb 5) G.rI)<|cv<|bn i5<|ag (V<|bn fu<|ag (af 4) am) am)
def s4:cN:=c6 2 8 [0,1] C9
def zO:bj:=(cv<|bq 2 G.s4<|ag (af 0)<|ag (V<|ap bH (V<|bn lu<|ag (af 1) am)<|V<|bq 1 G.oX<|ag (af 0) am) am)
def o9:cN:=c6 2 2 [0,1] zO
def Bc:av aj:=(dQ 1)
def G0:av Bool:=(bg<|ap dM (af 0)<|V<|ap aY (af 2)<|af 3)
def E9:av aj:=(dQ 0)
def EQ:av Bool:=(bg<|ap dM (af 1)<|V<|ap aY (af 2)<|af 3)
def Et:av aj:=(dQ 0)
def BF:av Bool:=(bg<|ap iI (af 0)<|af 1)
def Es:bj:=(a7 (bL 5<|cJ 2 [3,4] (cA<|af 1) (el 2<|cu (bb 0)<|cu (bb 1) ey) G.G0 G.Bc)<|a7 (bL 5<|ap bH (af 5)<|V<|cJ 2 [3,4] (cA<|af 1) (el 2<|cu (bb 0)<|cu (bb 1) ey) G.EQ G.E9)<|a7 (bL 4<|ap bH (af 4)<|V<|aq<|.int 1)<|bL 3<|ap bH (af 3)<|V<|cJ 1 [3] (cA<|af 5) (bb 0) G.BF G.Et)
theorem MN(b:aA[0]?=Z m):q1 [aX aA,.im<|ar q]=Z (.im<|ar<|ax m q,[aX aA,.im<|ar q]):=by
 have B:d9 (aA.map ar) 0=Z (ar m):=ot (by decide) (by simpa using b);have T8:aY (.im<|ar q) (aF 0)=Z (aF q.1):=rfl;have a:aY (.im<|ar q) (aF 1)=Z (aF q.2):=rfl;have g:aY (.im<|ar m) (aF 0)=Z (aF m.1):=rfl;have cz:aY (.im<|ar m) (aF 1)=Z (aF m.2):=rfl;have Tk:aY (aX aA) (aF 0)=Z (.im<|ar m):=by
  show (d9 (aA.map ar) 0).map aj.im=_;rw[B];rfl
 unfold q1 Fc;exact jV [Z (aX aA),Z<|.im<|ar q] rfl (d5 (hV (a1 (aE (aQ (aE<|aQ rfl rfl rfl rfl T8) (aE (aQ (aE<|aQ (aE<|aQ rfl rfl rfl rfl T8) (aE<|aQ (aE<|aQ rfl rfl rfl rfl Tk) rfl rfl rfl g) rfl rfl rfl) rfl rfl rfl (lr (by decide)))) rfl rfl rfl)) (a1 (aE (aQ (aE<|aQ rfl rfl rfl rfl a) (aE (aQ (aE<|aQ (aE<|aQ rfl rfl rfl rfl a) (aE<|aQ (aE<|aQ rfl rfl rfl rfl Tk) rfl rfl rfl cz) rfl rfl rfl) rfl rfl rfl (lr (by decide)))) rfl rfl rfl)) rfl)) rfl (dN rfl) rfl)) rfl
theorem Aj(a:a4):ab.bk 8 (aC a)=aa:=rfl
theorem t6:∀SO:List a4,ab.cQ 8 (SO.map aC)=aa
 |[]=>rfl
 |n::r=>by rw[ci,ab.cQ,Aj,t6 r];rfl
theorem w5(g c:a4):ck (aC g) (aC c)=decide (g=c):=by
 show (ck (ar g.1) (ar c.1)&&(ck (ar g.2) (ar c.2)&&aa))=_;rw[pb,pb];obtain⟨a,TP⟩:=g;obtain⟨cz,b3⟩:=c;by_cases l:a=cz<;>by_cases C:TP=b3<;>simp[l,C]
theorem RC(SO:List a4)(a:a4):gi (aC a) (.im<|.tup<|SO.map aC)=Z (decide (a∈SO)):=by
 rw[LR,Aj,t6,t0];show (if (aa&&aa)=aa then _ else _)=_;rw[aB (show (aa&&aa)=aa from rfl)];congr 1;rw[qC,nw,jJ];constructor
 ·rintro⟨e,b,d⟩;have:decide (e=a)=aa:=by rw[<-w5];exact d
  rw[<-dT this];exact b
 ·intro d;refine⟨a,d,?_⟩;show ck (aC a) (aC a)=aa;rw[w5];exact cU rfl
noncomputable def st(c:aD):Nat->aD
 |0=>(c.1-1,c.2)
 |1=>(c.1,c.2+1)
 |2=>(c.1+1,c.2)
 |_=>(c.1,c.2-1)
def ql(g c:aD):Prop:=g.1<c.1\/(g.1=c.1/\g.2<c.2)
theorem FU{H:List aD}:et H↔H.Pairwise ql:=by
 unfold et;rw[n5];constructor
 ·exact λd=>d.imp λ{g c} z=>w7.mp z
 ·exact λd=>d.imp λ{g c} z=>w7.mpr z
theorem CH(g:aD):g∈ek g:=.head _
def Mc(m:aD)(Tf:List aD):Prop:=∀c∈Tf,(c.1-m.1)%2=0/\(c.2-m.2)%2=0
noncomputable abbrev hd(k j B:Int):aj:=.lst [.int k,.int j,.int B]
theorem dS{i:Nat}(d:Nat.ble (v+1) i=aa):v<i:=dN d
def kX(J:bj)(w:aU)(SQ:aj->aU->Prop):Prop:=∃r S4,J w=Z (.dO r,S4)/\SQ r S4
theorem fV{J:bj}(a:J w=Z (.aZ,z))(o:kX d z SQ):kX (a7 J d) w SQ:=
 have ⟨r,S4,b,p⟩:=o
 ⟨r,S4,cg a b,p⟩
theorem rd{k:aj}(a:J w=Z (k,z))(p:SQ k z):kX (cv J) w SQ:=⟨k,z,d5 a,p⟩
theorem C3{q:av Bool}{g c:bj}(a:q w=Z (aa,z))(o:kX g z SQ):kX (a7 (dB q g c) d) w SQ:=
 have ⟨r,S4,b,p⟩:=o
 ⟨r,S4,kA<|it a b,p⟩
theorem ww{q:av Bool}{g:bj}(a:q w=Z (al,z))(o:kX d z SQ):kX (a7 (dB q g ee) d) w SQ:=fV (gX a rfl) o
noncomputable abbrev cm(c:Bool):aj:=.im (.ax c)
noncomputable def f5(SY:List (Int×Int))(q:Int×Int):List (Int×Int):=if q∈SY then SY else SY++[q]
theorem De(SY:List (Int×Int))(q:Int×Int):gy (mt SY) (dC q) (.ax aa)=mt (f5 SY q):=by
 unfold f5;by_cases d:q∈SY
 ·rw[aB d];unfold gy;rw[aB (by rw[x5];simpa using d)];unfold mt;rw[gJ];refine q2 λe Y=>?_;show (if dC e=dC q then (dC e,ab.ax aa) else (dC e,ab.ax aa))=_;split<;>rfl
 ·rw[aG d];exact Q0 d
theorem Gd{b:Nat}{e:ab}(d:(hq 0 v)[b]?=Z e):b<v/\e=.int (0+(b:Int)):=by
 have SJ:b<v:=by
  have:=(fw.mp d).1
  rwa [hq,a5,kE]at this
 rw[hq,d3,zX SJ]at d;exact⟨SJ,(Option.some.inj d).symm⟩
abbrev zD(d:aj)(Th:Option aj)(a b c e f:Int)(SY:List (Int×Int))(TS g h i j k:Option aj):aU:=[Z d,Th,Z<|aF a,Z<|aF b,Z<|aF c,Z<|aF e,Z<|aF f,Z<|.aL<|mt SY,TS,g,h,i,j,k]
def hF(R:List (Int×Int)):Prop:=R.Pairwise λg c=>bx (ar g) (ar c)=aa
theorem O3{SY:List (Int×Int)}(ah:SY.Nodup)(a:SY.length<=1000):∃R:List (Int×Int),fl bx (SY.map ar)=R.map ar/\R.Perm SY/\hF R:=by
 have m:=vQ ah a;obtain⟨R,l,C⟩:=EL (hC<|SY.map ar);refine⟨R,C,l,?_⟩;have:=m0 m.ord.ah m.ord.jb;rw[C]at this;exact n5.mp this
abbrev b6:=Int×Int
variable{D P R:List b6}{j e g:b6}{n:List b6×List b6}
theorem vU(y:Option aj):∀(R SY:List b6) (TM:Option aj),SY.length+R.length<100000->∃b,dW (bb 2) li (R.map ar) [y,Z<|.aL<|mt SY,TM]=Z (.aZ,[y,Z<|.aL<|mt<|R.foldl f5 SY,b])
 |[],SY,TM,_=>⟨TM,rfl⟩
 |q::R,SY,TM,c=>by
  have d:ha (.aL<|mt SY) (.im<|.tup<|dC q) (cm aa)=Z (.aL<|mt<|f5 SY q):=by
   rw[<-De];exact aB ⟨rfl,by unfold mt;rw[a5];rw[c7]at c;lia⟩
  have f:(f5 SY q).length<=SY.length+1:=by
   unfold f5;split
   ·lia
   ·rw[cb];exact bm _
  obtain⟨b,e⟩:=vU y R (f5 SY q) (Z<|.im<|ar q) (by rw[c7]at c;lia);refine⟨b,?_⟩;have a:li [y,Z<|.aL<|mt SY,Z<|.im<|ar q]=Z (.aZ,[y,Z<|.aL<|mt<|f5 SY q,Z<|.im<|ar q]):=by
   unfold li;refine hI rfl ?_;show (ha (.aL<|mt SY) (.im<|.tup<|dC q)<|cm aa).map _=_;rw[d];rfl
  rw[ci,dW];show (li [y,Z<|.aL<|mt SY,Z<|.im<|ar q]).bind _=_;rw[a];exact e
theorem AH:∀(R SY:List b6),(SY++R).Nodup->R.foldl f5 SY=SY++R
 |[],SY,_=>by rw[bU];rfl
 |q::R,SY,ah=>by
  have a:q∉SY:=λd=>by
   have:=(cF.mp ah).2.2 q d q (.head _);exact this rfl
  rw[jF,f5,aG a,AH R (SY++[q]) (by rw[a_];exact ah),a_];rfl
theorem Dt(ah:R.Nodup)(b:R.length<10000):gY [aX R]=Z (.aL<|mt R,[aX R]):=by
 obtain⟨m,a⟩:=vU (Z<|aX R) R [] X (by show 0+_<_;lia);rw[AH R [] ah]at a;unfold gY sc;refine ej (w:=[Z (aX R),Z .dy,m]) rfl (cg (z:=[Z (aX R),Z<|.aL [],X]) rfl<|cg (jw (m:=X) rfl a rfl) rfl) rfl
noncomputable def ip(q:b6):List b6:=[(q.1-1,q.2),(q.1,q.2-1),(q.1,q.2+1),(q.1+1,q.2)]
theorem JL(q:b6):yk [.im (ar q)]=Z (aP<|ip q,[.im (ar q)]):=rfl
theorem yz(SY:List b6)(q:b6):jL (.im<|ar q) (.aL<|mt SY)=Z (cm<|decide (q∈SY)):=by
 rw[<-NI];rfl
theorem w2:∀(H SY:List aD),SY.Nodup->(H.foldl f5 SY).Nodup/\∀q,q∈H.foldl f5 SY↔q∈SY\/q∈H
 |[],SY,ah=>⟨ah,λq=>by simp⟩
 |e::H,SY,ah=>by
  have l:(f5 SY e).Nodup/\∀q,q∈f5 SY e↔q∈SY\/q=e:=by
   unfold f5;split
   ·rename_i d;exact⟨ah,λq=>⟨.inl,λb=>b.elim id λa=>by rw[a];exact d⟩⟩
   ·rename_i d;refine⟨cF.mpr ⟨ah,by simp,λg f c h=>?_⟩,λq=>by simp⟩;rw[bW.mp h];exact λa=>d (a ▸ f)
  obtain⟨g,c⟩:=w2 H (f5 SY e) l.1;refine⟨g,λq=>?_⟩;rw[jF,c q,l.2 q,bI,or_assoc]
def cK(m:aD)(aA:List aD):List aD:=(aA.map<|ax m).foldl f5 []
theorem vE(m:aD)(aA:List aD):(cK m aA).Nodup:=(w2 _ [] .nil).1
theorem AK:c∈cK m aA↔∃q∈aA,ax m q=c:=by
 unfold cK;rw[(w2 _ [] .nil).2 c,cX];simp
theorem F3(d:(c.1-m.1)%2=0/\(c.2-m.2)%2=0)(a:q∈ek c):ax m q=c:=by
 have:=qc.mp a;unfold ax;exact i_ (by dsimp only;lia) (by dsimp only;lia)
theorem Pi{S0:List aD}(n:aA.Perm (cells S0))(ah:S0.Nodup)(iL:Mc m S0):(cK m aA).Perm S0:=by
 refine (BH (vE m aA) ah).mpr λc=>?_;rw[AK];constructor
 ·rintro⟨q,b,rfl⟩;obtain⟨j,SX,d⟩:=k3.mp (n.mem_iff.mp b);rw[F3 (iL j SX) d];exact SX
 ·exact λa=>⟨c,n.mem_iff.mpr<|k3.mpr ⟨c,a,CH c⟩,F3 (iL c a)<|CH c⟩
theorem LY{R:List aD}(b:R.length<10000):gY [aP R]=Z (.aL<|mt<|R.foldl f5 [],[aP R]):=by
 obtain⟨m,a⟩:=vU (Z .dy) R [] X (by show 0+_<_;lia);unfold gY sc;refine ej (w:=[Z (aP R),Z .dy,m]) rfl (cg (z:=[Z (aP R),Z<|.aL [],X]) rfl<|cg (jw (m:=Z (0,aP R)) (z:=[Z .dy,Z<|.aL [],X]) rfl a rfl) rfl) rfl
theorem RI(SY:List aD):oh [.aL (mt SY)]=Z (aF (SY.length:Int)):=by
 show Z (aF (((mt SY).length:Nat):Int))=_;rw[mt,a5]
theorem D3(m:aD)(aA:List aD):(cK m aA).length<=aA.length:=by
 have j:∀c∈cK m aA,c∈aA.map (ax m):=λc b=>by
  obtain⟨q,d,a⟩:=AK.mp b;exact cX.mpr ⟨q,d,a⟩
 have:=(vE m aA).length_le_of_subset j
 rwa [a5]at this
theorem yf(a:aA[0]?=Z m)(d:aA.length<=1000):
  bL 1 (bq 1 G.gY<|ag (V<|cJ 1 [0] (cA<|af 0) (bb 0) d2 G.uM) am) [Z (aX aA),X]=Z (.aZ,[Z (aX aA),Z<|.aL<|mt<|cK m aA]):=by
 have b:cJ 1 [0] (cA<|af 0) (bb 0) d2 G.uM [Z (aX aA),X]=Z (aP<|aA.map<|ax m,[Z (aX aA),X]):=by
  refine (qX (x:=aA.map ar) (m:=X) (z:=[Z (aX aA),X]) rfl (jA _ (λq=>ar<|ax m q) aA (λq e=>?_) (by lia))).trans ?_
  ·exact⟨[Z (.im<|ar q),Z<|aX aA],_,[Z (.im<|ar q),Z<|aX aA],rfl,rfl,cC (S3:=[.aW 1,.aW 0]) rfl rfl rfl (MN a) rfl,rfl⟩
  ·show Z (aj.lst _,_)=Z (aj.lst _,_);rw[gJ];rfl
 have c:=LY (R:=aA.map (ax m)) (by rw[a5];lia);exact fh (cC (S3:=[.b8 (aP<|aA.map<|ax m)]) (a1 (aE b) rfl) rfl rfl c rfl) (dS rfl) rfl
theorem Fl{SY:List aD}(l:aA.length<=1000)(C:SY.length<=1000):
  bg (ap eZ (V<|bn cZ<|ag (af 0) am)<|V<|ap d8 (V<|ap d8 (V<|bn oh<|ag (af 1) am)<|V<|aq<|.int 2)<|V<|aq<|.int 2) [Z (aX aA),Z<|.aL<|mt SY]=Z (!decide (aA.length=4*SY.length),[Z (aX aA),Z<|.aL<|mt SY]):=by
 have a:decide ((aA.length:Int)=(SY.length:Int)*2*2)=decide (aA.length=4*SY.length):=by
  rw[sW];lia
 rw[<-a];exact dg (aQ (aE<|dv (a1 rfl rfl) rfl<|xR aA) (aE (aQ (aE (aQ (aE<|dv (a1 rfl rfl) rfl<|RI SY) rfl rfl rfl (iK (nj (by decide) (by decide))))) rfl rfl rfl (iK (nj (by decide) (by decide))))) rfl rfl<|Ci _ _)
theorem N3(b:aA[0]?=Z m)(a:aA.length<=1000)(d:aA.length=4*(cK m aA).length):∃T,i0 [aX aA]=Z (aX T,[aX aA])/\T.Perm (cK m aA)/\et T:=by
 have C:=D3 m aA;obtain⟨T,Te,Q,TJ⟩:=xa (vE m aA) (by lia);refine⟨T,?_,Te,TJ⟩;have bt:=Fl (aA:=aA) (SY:=cK m aA) a (by lia);rw[cU d]at bt;have SX:fu [.aL (mt<|cK m aA)]=Z (aP T):=by
  show g8 ((mt<|cK m aA).map λn=>.tup n.1)=_;rw[mt,gJ];exact Q
 unfold i0 qp;exact ej (w:=[Z (aX aA),Z<|.aL<|mt<|cK m aA]) rfl (cg (yf b a)<|cg (gX bt rfl)<|d5<|mT<|dv (a1 rfl rfl) rfl SX) rfl
theorem Je(b:aA[0]?=Z m)(a:aA.length<=1000)(d:aA.length≠4*(cK m aA).length):i0 [aX aA]=X/\jB 1 2 lJ [aX aA]=aa:=by
 have C:=D3 m aA;have bt:=Fl (aA:=aA) (SY:=cK m aA) a (by lia);rw[dA d]at bt;have c:qp [Z (aX aA),X]=X:=by
  unfold qp;exact cg (yf b a) (by unfold a7;rw[it bt rfl];rfl)
 constructor
 ·unfold i0 c6;rw[aB (show [aX aA].length=1 from rfl),show qp ([aX aA].map Z++List.replicate (2-1) X)=X from c]
 ·unfold jB lJ;show (uW _ _ [Z (aX aA),X]).isSome=aa;unfold uW;rw[yf b a];show (r2 _ _ _).isSome=aa;unfold r2;rw[show bg _ _=_ from bt];rfl
def qH(k:ab):Prop:=∀g,k≠.fn g
def pT(k:ab):Prop:=qH k/\∀Q,k=.tup Q->∀t∈Q,qH t
def sl(k:ab):Prop:=qH k/\∀E,k=.tup E->E.length<=290/\∀e∈E,pT e
noncomputable def lh:ab->Bool
 |.int _=>aa
 |_=>al
theorem Eo(d:qH k):pc [.im k]=Z (cm<|lh k,[.im k]):=by
 cases k with
 |fn g=>exact absurd rfl (d g)
 |_=>rfl
def p6:ab->Bool
 |.tup [g,c]=>lh g&&lh c
 |_=>al
theorem Ep(d:lh k=aa):∃b,k=.int b:=by
 cases k with
 |int b=>exact⟨b,rfl⟩
 |_=>cases d
theorem K_(d:pT k):nh [.im k]=Z (cm<|p6 k,[.im k]):=by
 cases k with
 |fn g=>exact absurd rfl (d.1 g)
 |tup E=>
  unfold nh Fv
  match E,d with
  |[],_=>rfl
  |[g],_=>rfl
  |[g,c],d=>
   have f:=Eo (d.2 _ rfl g<|.head _);have h:=Eo (d.2 _ rfl c<|.tail _<|.head _);refine ej (w:=[Z (.im<|.tup [g,c])]) rfl (d5<|r7<|kQ (dg rfl)<|kQ (dg rfl) ?_) rfl;show _=Z (lh g&&lh c,_);have b:bg (bq 1 G.pc<|ag (V<|ap aY (af 0)<|V<|aq<|.int 0) am) [Z (.im<|.tup [g,c])]=Z (lh g,[Z (.im<|.tup [g,c])]):=dg (cC (a1 (aE<|aQ (k:=.im g) rfl rfl rfl rfl rfl) rfl) rfl rfl f rfl);have i:bg (bq 1 G.pc<|ag (V<|ap aY (af 0)<|V<|aq<|.int 1) am) [Z (.im<|.tup [g,c])]=Z (lh c,[Z (.im<|.tup [g,c])]):=dg (cC (a1 (aE<|aQ (k:=.im c) rfl rfl rfl rfl rfl) rfl) rfl rfl h rfl);cases e:lh g with
   |false=>rw[e]at b;exact oI b
   |true=>rw[e]at b;exact kQ b i
  |g::c::q::r,_=>
   have a:dM (aF ((g::c::q::r).length:Int)) (aF 2)=Z (cm al):=(mK _ _).trans (congrArg (λc=>Z<|cm c) (dA (by rw[c7,c7,c7];lia)));exact ej (w:=[Z (.im<|.tup (g::c::q::r))]) rfl (d5<|r7<|kQ (dg rfl)<|oI<|dg<|aQ (aE<|dv (a1 rfl rfl) rfl rfl) rfl rfl rfl a) rfl
 |_=>rfl
theorem Hd{M U:aU}{P S:fP}{TT TI TX:av bl}{e t a:bl}{TD TA b d:aj}{c f:Bool}(g:TT w=Z (e,z))(h:TI z=Z (t,M))(i:cV M e=Z TD)(j:cV M t=Z TA)(k:P TD TA=Z (cm c))(l:TX M=Z (a,U))(m:cV U t=Z b)(n:cV U a=Z d)(o:S b d=Z (cm f))(p:U=M):gc P S TT TI TX w=Z (cm<|c&&f,M):=by
 subst p;unfold gc;rw[g];show (TI z).bind _=_;rw[h];show (cV U e).bind _=_;rw[i];show (cV U t).bind _=_;rw[j];show (P TD TA).bind _=_;rw[k];cases c
 ·rfl
 ·show (TX U).bind _=_;rw[l];show (cV U t).bind _=_;rw[m];show (cV U a).bind _=_;rw[n];show (S b d).bind _=_;rw[o];rfl
noncomputable def hW:ab->Bool
 |.tup [.int b,.int u]=>(decide (0<=b)&&decide (b<=30))&&(decide (0<=u)&&decide (u<=30))
 |_=>al
theorem yZ(d:hW k=aa):∃q:Int×Int,k=ar q/\0<=q.1/\q.1<=30/\0<=q.2/\q.2<=30:=by
 unfold hW at d;split at d
 ·next b u=>
  rw[cd,cd,cd]at d;exact⟨(b,u),rfl,dT d.1.1,dT d.1.2,dT d.2.1,dT d.2.2⟩
 ·cases d
theorem HK{q:Int×Int}(d:0<=q.1/\q.1<=30/\0<=q.2/\q.2<=30):hW (ar q)=aa:=by
 show ((decide (0<=q.1)&&decide (q.1<=30))&&(decide (0<=q.2)&&decide (q.2<=30)))=aa;rw[cU d.1,cU d.2.1,cU d.2.2.1,cU d.2.2.2];rfl
theorem Jn(d:p6 k=al):hW k=al:=by
 cases a:hW k with
 |false=>rfl
 |true=>
  obtain⟨q,rfl,Y⟩:=yZ a;cases d
theorem II(d:pT k):lH [.im k]=Z (cm<|hW k,[.im k]):=by
 have f:=K_ d;unfold lH Bm;refine ej (w:=[Z (.im k)]) rfl (d5<|r7 ?_) rfl;have cP:bg (bq 1 G.nh<|ag (af 0) am) [Z (.im k)]=Z (p6 k,[Z (.im k)]):=dg (cC (a1 rfl rfl) rfl rfl f rfl);cases a:p6 k with
 |false=>rw[a]at cP;rw[Jn a];exact oI cP
 |true=>
  rw[a]at cP;obtain⟨b,u,rfl⟩:∃b u,k=.tup [.int b,.int u]:=by
   unfold p6 at a;split at a
   ·next g c=>
    rw[cd]at a;obtain⟨b,rfl⟩:=Ep a.1;obtain⟨u,rfl⟩:=Ep a.2;exact⟨b,u,rfl⟩
   ·cases a
  refine kQ cP ?_;have Tj:bg (gc ep ep (V<|aq<|.int 0) (V<|ap aY (af 0)<|V<|aq<|.int 0)<|V<|aq<|.int 30) [Z (.im<|.tup [.int b,.int u])]=Z (decide (0<=b)&&decide (b<=30),[Z (.im<|.tup [.int b,.int u])]):=dg (Hd rfl (aE<|aQ (k:=aF b) rfl rfl rfl rfl rfl) rfl rfl rfl rfl rfl rfl rfl rfl);have Tr:bg (gc ep ep (V<|aq<|.int 0) (V<|ap aY (af 0)<|V<|aq<|.int 1)<|V<|aq<|.int 30) [Z (.im<|.tup [.int b,.int u])]=Z (decide (0<=u)&&decide (u<=30),[Z (.im<|.tup [.int b,.int u])]):=dg (Hd rfl (aE<|aQ (k:=aF u) rfl rfl rfl rfl rfl) rfl rfl rfl rfl rfl rfl rfl rfl);show _=Z ((decide (0<=b)&&decide (b<=30))&&(decide (0<=u)&&decide (u<=30)),_);cases e:(decide (0<=b)&&decide (b<=30)) with
  |false=>rw[e]at Tj;exact oI Tj
  |true=>rw[e]at Tj;exact kQ Tj Tr
def rF(E:List ab):Bool:=(E.zip<|E.drop 1).all λn=>bx n.1 n.2
def xp:ab->Bool
 |.tup E=>E.all hW&&rF E
 |_=>al
theorem x7{Ta:Type}(P:Ta->Bool):∀x:List Ta,k5 (x.map λr=>.ax<|P r)=Z (x.map P)
 |[]=>rfl
 |e::r=>by rw[ci,k5,x7 P r];rfl
theorem nD(P:Ta->Bool)(x:List Ta):h3 [.lst (x.map λr=>.ax<|P r)]=Z (cm<|x.all P):=by
 show (k5 _).map _=_;rw[x7,pA,vL];rfl
theorem Qj(P:Ta->Bool)(x:List Ta):qR [.lst (x.map λr=>.ax<|P r)]=Z (cm<|x.any P):=by
 show (k5 _).map _=_;rw[x7,pA,t0];rfl
theorem vK:∀E Q:List ab,h2 E Q=(E.zip Q).map λn=>.tup [n.1,n.2]
 |[],_=>rfl
 |_::_,[]=>rfl
 |k::E,a::Q=>congrArg (_::·) (vK E Q)
theorem RG{P:ai}(d:sl k):qo P [.im k,.im<|.fn P]=Z (cm<|xp k,[.im k,.im<|.fn P]):=by
 cases k with
 |fn g=>exact absurd rfl (d.1 g)
 |tup E=>
  obtain⟨q,hd⟩:=d.2 E rfl;unfold qo DF;refine ej (w:=[Z (.im<|.tup E),Z<|.im<|.fn P]) rfl ?_ rfl;show a7 _ _ [Z (.im<|.tup E),Z<|.im<|.fn P]=_;have l:cJ 1 [1] (cA<|af 0) (bb 0) d2 (tq P) [Z (.im<|.tup E),Z<|.im<|.fn P]=Z (.lst<|E.map λk=>.ax<|hW k,[Z (.im<|.tup E),Z<|.im<|.fn P]):=by
   refine jS (x:=E.map id) (m:=X) (z:=[Z (.im<|.tup E),Z<|.im<|.fn P]) (by rw[rs];rfl) (jA id (λk=>.ax<|hW k) _ (λe o=>?_) (by lia)) rfl;refine⟨[Z (.im e),Z<|.im<|.fn P],_,[Z (.im e),Z<|.im<|.fn P],rfl,rfl,?_,rfl⟩;unfold tq;show (if P=P then _ else _)=_;rw[aB rfl];exact cC (a1 rfl rfl) rfl rfl (II<|hd e o) rfl
  have a:fD (fv<|V<|bn h3<|ag (V<|cJ 1 [1] (cA<|af 0) (bb 0) d2<|tq P) am) [Z (.im<|.tup E),Z<|.im<|.fn P]=Z (!(E.all hW),[Z (.im<|.tup E),Z<|.im<|.fn P]):=xX (e8 (aE<|dv (a1 (aE l) rfl) rfl<|nD hW E) rfl rfl);show _=Z (mG.dO<|cm<|E.all hW&&rF E,_);cases b:E.all hW with
  |false=>
   rw[b]at a;exact kA (it (hb (h7<|e8 rfl rfl rfl) a) rfl)
  |true=>
   rw[b]at a;refine cg (gX (hb (h7<|e8 rfl rfl rfl) a) rfl) ?_;have f:=fk.mp b;have p:cJ 2 [] (ny<|ag (af 0)<|ag (V<|eQ (af 0) (fp<|aq<|.int 1) fg) am) (el 2<|cu (bb 0)<|cu (bb 1) ey) d2 (G8 P) [Z (.im<|.tup E),Z<|.im<|.fn P]=Z (.lst<|(E.zip<|E.drop 1).map λn=>.ax<|bx n.1 n.2,[Z (.im<|.tup E),Z<|.im<|.fn P]):=by
    refine jS (x:=(E.zip<|E.drop 1).map λn=>.tup [n.1,n.2]) (m:=X) (z:=[Z (.im<|.tup E),Z<|.im<|.fn P]) ?_ (jA (λn:ab×ab=>.tup [n.1,n.2]) (λn=>.ax<|bx n.1 n.2) _ (λn h=>?_) ?_) rfl
    ·rw[<-vK];exact Bz (a1 rfl (a1 (aE (g4 (TV:=.im (.tup<|E.drop 1)) rfl rfl rfl rfl (by show Z (aj.im<|.tup<|e6 E (Z ((1:Nat):Int)) X)=_;rw[v7]))) rfl)) rfl
    ·obtain⟨g,i,Y⟩:=yZ (f n.1 (no h).1);obtain⟨c,j,Y⟩:=yZ (f n.2<|ky (no h).2);obtain⟨e,t⟩:=n;dsimp only at i j ⊢;subst i j;exact⟨[Z (.im<|ar g),Z<|.im<|ar c],_,[Z (.im<|ar g),Z<|.im<|ar c],rfl,rfl,aQ rfl rfl rfl rfl rfl,rfl⟩
    ·rw[vN,e4];lia
   exact d5 (dv (a1 (aE p) rfl) rfl<|nD (λn:ab×ab=>bx n.1 n.2) _)
 |_=>rfl
theorem Pk{P:ai}(d:sl k):oN P [.im k]=Z (cm<|xp k,[.im k]):=by
 unfold oN AC;exact ej (w:=[Z (.im k)]) rfl (d5<|cC (a1 rfl<|a1 rfl rfl) rfl rfl (RG d) rfl) rfl
noncomputable def nR:ab->Bool
 |.int b=>decide (0<=b)&&decide (b<31)
 |_=>al
theorem z2:∀{R:List (Int×Int)},hF R->rF (R.map ar)=aa
 |[],_=>rfl
 |[g],_=>rfl
 |g::c::r,d=>by
  have U:=gk.mp d;show (bx (ar g) (ar c)&&rF ((c::r).map ar))=aa;rw[U.1 c (.head _),z2 U.2];rfl
theorem xP{R:List (Int×Int)}(d:hF R):R.Nodup:=d.imp λ{g c} a z=>by rw[z,t_]at a;cases a
theorem zY{k:aj}{x:List ab}(a:J w=Z (k,z))(o:jl k=Z x):cA (V J) w=Z ((x,X),z):=by
 unfold cA;rw[c2 a];show (jl k).map _=_;rw[o];rfl
noncomputable def oZ(g c:b6):Bool:=decide ((if g.1-c.1<0 then -(g.1-c.1) else g.1-c.1)+(if g.2-c.2<0 then -(g.2-c.2) else g.2-c.2)=1)
theorem D4{c:b6}:oZ g c=aa↔c∈ip g:=by
 obtain⟨a,TP⟩:=g;obtain⟨cz,b3⟩:=c;unfold oZ ip;rw[jJ];simp only[bI,fZ,hk,Ao];lia
def la(H:List a4):Prop:=(H.map aC).Pairwise (λg c=>bx g c=aa)
theorem Gv(SY:List a4):fu [aS SY]=g8 (SY.map aC):=v5 λk hd=>by
 obtain⟨q,Y,rfl⟩:=cX.mp hd;exact⟨_,rfl⟩
theorem Q5(ah:SY.Nodup)(c:SY.length<=1000):∃T:List a4,T.Perm SY/\fu [aS SY]=Z (aS T)/\la T:=by
 have a:=qt ah c;obtain⟨T,Te,b⟩:=ve (hC<|SY.map aC);refine⟨T,Te,?_,?_⟩
 ·rw[Gv];unfold g8;rw[aB (kT.mpr a),b]
 ·unfold la;rw[<-b];exact m0 a.1.3 a.1.2
theorem Ou(ah:SY.Nodup)(b:SY.length<=1000)(r:la SY):fu [aS SY]=Z (aS SY):=by
 have a:=qt ah b;rw[Gv];unfold g8;rw[aB (kT.mpr a),<-Cd a.1 (.refl _) r]
theorem MX(g:SO.length<=1000):qU [y,Z<|.aL<|mt F,Z<|aS SO,Z<|.im<|ar c,TK]=Z (.aZ,[y,Z<|.aL<|mt F,Z<|aS<|SO++eG F c,Z<|.im<|ar c,Z<|aP [(c.1,c.2+2),(c.1+2,c.2)]]):=by
 have b:aY (.im<|ar c) (aF 0)=Z (aF c.1):=rfl;have d:aY (.im<|ar c) (aF 1)=Z (aF c.2):=rfl;have e:cJ 1 [1,3] (cA<|af 4) (bb 0) G.wq G.we [y,Z<|.aL<|mt F,Z<|aS SO,Z<|.im<|ar c,Z<|aP [(c.1,c.2+2),(c.1+2,c.2)]]=Z (aS<|eG F c,[y,Z<|.aL<|mt F,Z<|aS SO,Z<|.im<|ar c,Z<|aP [(c.1,c.2+2),(c.1+2,c.2)]]):=by
  have o:=nm (own:=1) (To:=bb 0) (q:=G.wq) (a:=G.we) (az:=[Z (.aL<|mt F),Z<|.im<|ar c]) ar (λm=>decide (m∈F)) (λm=>aC (c,m)) [(c.1,c.2+2),(c.1+2,c.2)] [] (λm h=>?_) (by show 0+2<=100000;decide)
  ·rw[i7,show (([(c.1,c.2+2),(c.1+2,c.2)].filter λm=>decide (m∈F)).map λm=>aC (c,m))=(eG F c).map aC by unfold eG;rw[gJ];rfl]at o;exact jS (x:=[(c.1,c.2+2),(c.1+2,c.2)].map ar) (m:=Z (4,aP [(c.1,c.2+2),(c.1+2,c.2)])) (z:=[y,Z<|.aL<|mt F,Z<|aS SO,Z<|.im<|ar c,Z .dy]) rfl o rfl
  ·exact⟨[Z (.im<|ar m),Z<|.aL<|mt F,Z<|.im<|ar c],[Z (.im<|ar m),Z<|.aL<|mt F,Z<|.im<|ar c],rfl,dg<|aQ rfl rfl rfl rfl<|yz F m,λ_=>rfl,λ_=>⟨[Z (.im<|ar m),Z<|.aL<|mt F,Z<|.im<|ar c],hV (a1 rfl<|a1 rfl rfl) rfl (dN rfl) rfl,rfl⟩⟩
 have bk:=rA F c;have f:lX (aS SO) [aS (eG F c)]=Z (.im .aR,aS<|SO++eG F c):=by
  show (if _ then _ else _)=_;rw[aB (by rw[a5,a5];lia),<-fe]
 unfold qU;exact cg (z:=[y,Z<|.aL<|mt F,Z<|aS SO,Z<|.im<|ar c,Z<|aP [(c.1,c.2+2),(c.1+2,c.2)]]) (fh (ox (a1 (aE<|hV (a1 (aE<|aQ rfl rfl rfl rfl b)<|a1 (aE<|aQ (aE<|aQ rfl rfl rfl rfl d) rfl rfl rfl rfl) rfl) rfl (dN rfl) rfl)<|a1 (aE<|hV (a1 (aE<|aQ (aE<|aQ rfl rfl rfl rfl b) rfl rfl rfl rfl)<|a1 (aE<|aQ rfl rfl rfl rfl d) rfl) rfl (dN rfl) rfl) rfl) rfl (dN rfl) rfl) (dS rfl) rfl) (lF<|jv rfl rfl (a1 (aE e) rfl) rfl rfl f rfl)
theorem Fs{F:List aD}{y:Option aj}:∀(a:List aD) (SO:List a4) (b TK:Option aj),SO.length+2*a.length<=1000->∃d e,dW (bb 3) qU (a.map ar) [y,Z<|.aL<|mt F,Z<|aS SO,b,TK]=Z (.aZ,[y,Z<|.aL<|mt F,Z<|aS<|SO++a.flatMap (eG F),d,e])
 |[],SO,b,TK,_=>⟨b,TK,by rw[GV,bU];rfl⟩
 |c::a,SO,b,TK,f=>by
  rw[c7]at f;have bk:=rA F c;obtain⟨d,e,g⟩:=Fs (F:=F) (y:=y) a (SO++eG F c) (Z<|.im<|ar c) (Z<|aP [(c.1,c.2+2),(c.1+2,c.2)]) (by rw[cb];lia);refine⟨d,e,?_⟩;rw[ci,dW];show (qU [y,Z<|.aL<|mt F,Z<|aS SO,Z<|.im<|ar c,TK]).bind _=_;rw[MX (by lia),rL,<-a_];exact g
theorem A1(Tf:f4 F):oX [aX F]=Z (aS<|df F,[aX F]):=by
 have d:=Tf.len;obtain⟨b,c,a⟩:=Fs (F:=F) (y:=Z (aX F)) F [] X X (by simp;lia);rw[i7]at a;unfold oX Gi;exact ej (w:=[Z (aX F),Z<|.aL<|mt F,Z .dy,b,c]) rfl (cg (z:=[Z (aX F),Z<|.aL<|mt F,X,X,X]) (fh (cC (S3:=[.aW 0]) rfl rfl rfl (Dt Tf.ah (by lia)) rfl) (dS rfl) rfl)<|cg (z:=[Z (aX F),Z<|.aL<|mt F,Z<|aS [],X,X]) rfl<|cg (jw (m:=X) rfl a rfl)<|d5 rfl) rfl
theorem O_{p:aD->aD}{I s:aD}{TC:Option aj}(d:q∈F)(e:F.length<=1000):qv [y,Th,Z<|.aL<|b2 F p,Z<|.im<|ar q,TK,TC,Z<|.im<|ar I,Z<|.im<|ar s]=Z (.aZ,[y,Th,Z<|.aL<|b2 F<|iP s I p q,Z<|.im<|ar q,TK,TC,Z<|.im<|ar I,Z<|.im<|ar s]):=by
 have B:bg (ap dM (V<|ap aY (af 2)<|af 3)<|af 7) [y,Th,Z<|.aL<|b2 F p,Z<|.im<|ar q,TK,TC,Z<|.im<|ar I,Z<|.im<|ar s]=Z (decide (p q=s),[y,Th,Z<|.aL<|b2 F p,Z<|.im<|ar q,TK,TC,Z<|.im<|ar I,Z<|.im<|ar s]):=dg (aQ (aE<|aQ rfl rfl rfl rfl<|o0 p d) rfl rfl rfl<|ub _ _);unfold qv;by_cases b:p q=s
 ·rw[cU b]at B;have a:iP s I p q=λc=>if c=q then I else p c:=funext λc=>by
   unfold iP;exact s3 ⟨λt=>t.1,λt=>⟨t,b⟩⟩
  rw[a];refine it B (hI rfl ?_);show (ha (.aL<|b2 F p) (.im<|ar q)<|.im<|ar I).map _=_;rw[Qy d e];rfl
 ·rw[dA b]at B;have a:iP s I p q=p:=funext λc=>by
   unfold iP;exact aG λt=>b t.2
  rw[a];exact gX B rfl
theorem Al{F:List aD}{I s:aD}{y Th TK TC:Option aj}(f:F.length<=1000):∀(a:List aD) (p:aD->aD) (b:Option aj),(∀q∈a,q∈F)->∃c,dW (bb 3) qv (a.map ar) [y,Th,Z<|.aL<|b2 F p,b,TK,TC,Z<|.im<|ar I,Z<|.im<|ar s]=Z (.aZ,[y,Th,Z<|.aL<|b2 F<|a.foldl (iP s I) p,c,TK,TC,Z<|.im<|ar I,Z<|.im<|ar s])
 |[],p,b,_=>⟨b,rfl⟩
 |q::a,p,b,d=>by
  obtain⟨c,g⟩:=Al (F:=F) (I:=I) (s:=s) (y:=y) (Th:=Th) (TK:=TK) (TC:=TC) f a (iP s I p q) (Z<|.im<|ar q) λe h=>d e (.tail _ h);refine⟨c,?_⟩;rw[ci,dW];show (qv [y,Th,Z<|.aL<|b2 F p,Z<|.im<|ar q,TK,TC,Z<|.im<|ar I,Z<|.im<|ar s]).bind _=_;rw[O_ (d q<|.head _) f];exact g
theorem Iz{j:(aD->aD)×List a4}{a:a4}{b TL A:Option aj}(i:F.length<=1000)(bt:j.2.length<=1000)(l:a.1∈F)(C:a.2∈F):∃e k o,rI [Z (aX F),Th,Z<|.aL<|b2 F j.1,b,Z<|aS j.2,Z<|.im<|aC a,TL,A]=Z (.aZ,[Z (aX F),Th,Z<|.aL<|b2 F (bE j a).1,e,Z<|aS (bE j a).2,Z<|.im<|aC a,k,o]):=by
 obtain⟨n,Tn⟩:=j;have p:aY (.im<|aC a) (aF 0)=Z (.im<|ar a.1):=rfl;have q:aY (.im<|aC a) (aF 1)=Z (.im<|ar a.2):=rfl;have f:bL 6 (ap aY (af 2)<|V<|ap aY (af 5)<|V<|aq<|.int 0) [Z (aX F),Th,Z<|.aL<|b2 F n,b,Z<|aS Tn,Z<|.im<|aC a,TL,A]=Z (.aZ,[Z (aX F),Th,Z<|.aL<|b2 F n,b,Z<|aS Tn,Z<|.im<|aC a,Z<|.im<|ar<|n a.1,A]):=fh (aQ rfl (aE<|aQ rfl rfl rfl rfl p) rfl rfl<|o0 n l) (dS rfl) rfl;have g:bL 7 (ap aY (af 2)<|V<|ap aY (af 5)<|V<|aq<|.int 1) [Z (aX F),Th,Z<|.aL<|b2 F n,b,Z<|aS Tn,Z<|.im<|aC a,Z<|.im<|ar<|n a.1,A]=Z (.aZ,[Z (aX F),Th,Z<|.aL<|b2 F n,b,Z<|aS Tn,Z<|.im<|aC a,Z<|.im<|ar<|n a.1,Z<|.im<|ar<|n a.2]):=fh (aQ rfl (aE<|aQ rfl rfl rfl rfl q) rfl rfl<|o0 n C) (dS rfl) rfl;have B:bg (ap eZ (af 6)<|af 7) [Z (aX F),Th,Z<|.aL<|b2 F n,b,Z<|aS Tn,Z<|.im<|aC a,Z<|.im<|ar<|n a.1,Z<|.im<|ar<|n a.2]=Z (!decide (n a.1=n a.2),[Z (aX F),Th,Z<|.aL<|b2 F n,b,Z<|aS Tn,Z<|.im<|aC a,Z<|.im<|ar<|n a.1,Z<|.im<|ar<|n a.2]):=dg (aQ rfl rfl rfl rfl<|Co _ _);unfold rI;by_cases d:n a.1=n a.2
 ·rw[cU d]at B;rw[show bE (n,Tn) a=(n,Tn) from aB d];exact⟨_,_,_,cg f<|cg g<|gX B rfl⟩
 ·rw[dA d]at B;rw[show bE (n,Tn) a=(eV n a,Tn++[a]) from aG d];obtain⟨e,h⟩:=Al (F:=F) (I:=n a.1) (s:=n a.2) (y:=Z (aX F)) (Th:=Th) (TK:=Z (aS<|Tn++[a])) (TC:=Z (.im<|aC a)) i F n b λ_ d=>d;have r:b2 F (F.foldl (iP (n a.2)<|n a.1) n)=b2 F (eV n a):=P7 λc u=>by
   rw[AJ d];exact s3 ⟨λt=>t.2,λt=>⟨u,t⟩⟩
  rw[r]at h;have v:hm (aS Tn) [.im (aC a)]=Z (.im .aR,aS<|Tn++[a]):=by
   have:hm (aS Tn) [.im (aC a)]=Z (.im .aR,.lst<|Tn.map aC++[aC a]):=oK (by rw[a5];dsimp only at bt;lia);rw[this];simp
  exact⟨_,_,_,cg f<|cg g<|it B<|cg (lF<|jv rfl rfl (a1 rfl rfl) rfl rfl v rfl)<|jw (m:=X) rfl h rfl⟩
theorem G5{F:List aD}{Th:Option aj}(i:F.length<=1000):∀(Q:List a4) (j:(aD->aD)×List a4) (b TC TL A:Option aj),j.2.length+Q.length<=1000->(∀a∈Q,a.1∈F/\a.2∈F)->∃c f g h,dW (bb 5) rI (Q.map aC) [Z (aX F),Th,Z<|.aL<|b2 F j.1,b,Z<|aS j.2,TC,TL,A]=Z (.aZ,[Z (aX F),Th,Z<|.aL<|b2 F (ew Q j).1,c,Z<|aS (ew Q j).2,f,g,h])
 |[],j,b,TC,TL,A,_,_=>⟨b,TC,TL,A,rfl⟩
 |a::Q,j,b,TC,TL,A,SX,d=>by
  rw[c7]at SX;obtain⟨k,l,m,st⟩:=Iz (Th:=Th) (b:=b) (TL:=TL) (A:=A) (j:=j) i (by lia) (d a<|.head _).1 (d a<|.head _).2;have p:(bE j a).2.length<=j.2.length+1:=by
   unfold bE;split
   ·lia
   ·rw[cb];exact bm _
  obtain⟨c,f,g,h,n⟩:=G5 (F:=F) (Th:=Th) i Q (bE j a) k (Z<|.im<|aC a) l m (by lia) λe o=>d e (.tail _ o);refine⟨c,f,g,h,?_⟩;rw[ci,dW];show (rI [Z (aX F),Th,Z<|.aL<|b2 F j.1,b,Z<|aS j.2,Z<|.im<|aC a,TL,A]).bind _=_;rw[st];exact n
theorem Eg{F:List aD}{y Th:Option aj}(h:F.length<=1000):∀(b done:List aD) (e:Option aj),(done++b)=F->F.Nodup->∃f,dW (bb 3) rh (b.map ar) [y,Th,Z<|.aL<|b2 done λc=>c,e,X,X,X,X]=Z (.aZ,[y,Th,Z<|.aL<|b2 F λc=>c,f,X,X,X,X])
 |[],done,e,a,_=>⟨e,by rw[bU]at a;rw[a];rfl⟩
 |q::b,done,e,a,ah=>by
  have i:q∉done:=λg=>by
   rw[<-a]at ah;exact (cF.mp ah).2.2 q g q (.head _) rfl
  obtain⟨f,j⟩:=Eg (F:=F) (y:=y) (Th:=Th) h b (done++[q]) (Z<|.im<|ar q) (by rw[a_];exact a) ah;refine⟨f,?_⟩;have ld:done.length<=F.length:=by rw[<-a,cb];lia
  have k:ha (.aL<|b2 done λc=>c) (.im<|ar q) (.im<|ar q)=Z (.aL<|b2 (done++[q]) λc=>c):=by
   have:gy (b2 done λc=>c) (dC q) (ar q)=b2 (done++[q]) λc=>c:=by
    unfold gy;rw[aG λg=>by
     obtain⟨p,l,d⟩:=nw.mp g;obtain⟨c,m,rfl⟩:=cX.mp l;exact i (n3 (dT d) ▸ m)]
    unfold b2;rw[fe];rfl
   rw[<-this];exact aB ⟨rfl,by unfold b2;rw[a5];lia⟩
  have st:rh [y,Th,Z<|.aL<|b2 done λc=>c,Z<|.im<|ar q,X,X,X,X]=Z (.aZ,[y,Th,Z<|.aL<|b2 (done++[q]) λc=>c,Z<|.im<|ar q,X,X,X,X]):=by
   unfold rh;refine hI rfl ?_;show (ha (.aL<|b2 done λc=>c) (.im<|ar q)<|.im<|ar q).map _=_;rw[k];rfl
  rw[ci,dW];show (rh [y,Th,Z<|.aL<|b2 done λc=>c,Z<|.im<|ar q,X,X,X,X]).bind _=_;rw[st];exact j
theorem Lv(ah:F.Nodup)(e:F.length<=1000)(SX:Q.length<=1000)(d:∀a∈Q,a.1∈F/\a.2∈F)(f:fu [aS (ew Q (λc=>c,[])).2]=Z (aS T)):s4 [aX F,aS Q]=Z (.im<|.tup<|T.map aC,[aX F,aS Q]):=by
 obtain⟨b,J⟩:=Eg (F:=F) (y:=Z (aX F)) (Th:=Z (aS Q)) e F [] X rfl ah;obtain⟨g,h,i,j,H⟩:=G5 (F:=F) (Th:=Z .dy) e Q (λc=>c,[]) b X X X (by show 0+_<=_;lia) d;unfold s4 C9;exact ej (w:=[Z (aX F),Z<|aS Q,Z<|.aL<|b2 F (ew Q (λc=>c,[])).1,g,Z<|aS (ew Q (λc=>c,[])).2,h,i,j]) rfl (cg (z:=[Z (aX F),Z<|aS Q,Z<|.aL<|b2 [] λc=>c,X,X,X,X,X]) rfl (cg (jw (m:=X) rfl J rfl)<|cg (z:=[Z (aX F),Z<|aS Q,Z<|.aL<|b2 F λc=>c,b,Z<|aS [],X,X,X]) rfl<|cg (jw (m:=Z (1,aS Q)) (z:=[Z (aX F),Z .dy,Z<|.aL<|b2 F λc=>c,b,Z<|aS [],X,X,X]) rfl H rfl)<|d5<|mT<|dv (a1 rfl rfl) rfl f) ) rfl
theorem KB{kept:List a4}(Tf:f4 F)(b:∀a∈kept,gZ F a)(g:kept.length<=100)(e:fu [aS (ew (kept++df F) (λc=>c,[])).2]=Z (aS T)):o9 [aX F,.im<|.tup<|kept.map aC]=Z (.im<|.tup<|T.map aC,[aX F,.im<|.tup<|kept.map aC]):=by
 have ax:=Tf.len;have bk:=pE F F;have h:(df F).length<=2*F.length:=bk;have f:∀a∈kept++df F,a.1∈F/\a.2∈F:=λa d=>by
  rcases cx.mp d with z|z
  ·exact⟨(b a z).1,(b a z).2.1⟩
  ·exact⟨(iq.mp z).1,(iq.mp z).2.1⟩
 have u:=Lv Tf.ah (by lia) (by rw[cb];lia) f e;have ad:bH (aS kept) (aS<|df F)=Z (aS<|kept++df F):=by
  rw[show aS (kept++df F)=.lst (kept.map aC++(df F).map aC) by rw[aS,fe]];exact aB (by rw[a5,a5];lia)
 unfold o9 zO;exact ej (w:=[Z (aX F),Z<|.im<|.tup<|kept.map aC]) rfl (d5<|cC (S3:=[.aW 0,.b8<|aS<|kept++df F]) (a1 rfl<|a1 (aE<|aQ (aE<|dv (a1 rfl rfl) rfl rfl) (aE<|cC (S3:=[.aW 0]) rfl rfl rfl (A1 Tf) rfl) rfl rfl ad) rfl) rfl rfl u rfl) rfl
inductive eg (R:List b6) (j:b6):b6->Prop
 | self:eg R j j
 | step {g c:b6}:eg R j g->c∈R->oZ g c=aa->eg R j c
theorem MU(SY:List b6)(q:b6):iI (.im<|ar q) (.aL<|mt SY)=Z (cm<|!decide (q∈SY)):=by
 have:=yz SY q;show (gi (ar q)<|.aL<|mt SY).map (λr=>aj.im<|.ax<|!r)=_;have C:(gi (ar q)<|.aL<|mt SY).map (λr=>aj.im<|.ax r)=Z (cm<|decide (q∈SY)):=this;obtain⟨r,a,b⟩:=ch.mp C;rw[a];cases b;rfl
theorem tI{Ta:Type}[DecidableEq Ta]:∀{H i:List Ta},H.Nodup->(∀e∈H,e∈i)->H.length<=i.length
 |[],_,_,_=>gV _
 |e::H,i,ah,d=>by
  have aZ:=hL.mp ah;have:=tI (i:=i.erase e) aZ.2 λt b=>(x_ (λa=>aZ.1 (by rw[<-a];exact b))).mpr (d t<|.tail _ b);have a:=zg (d e<|.head _);have n:=tJ (d e<|.head _);rw[c7];lia
noncomputable def dF(R:List b6)(n:List b6×List b6)(q:b6):List b6×List b6:=if q∈R/\q∉n.1 then (n.1++[q],n.2++[q]) else n
abbrev gN(Th:Option aj)(R:List b6)(n:List b6×List b6)(TK:Option aj):aU:=[Z (.aL<|mt R),Th,Z<|.aL<|mt n.1,Z<|aP n.2,TK]
theorem Ru{q:b6}(l:n.1.length<10000)(C:n.2.length<10000):p8 (gN Th R n<|Z<|.im<|ar q)=Z (.aZ,gN Th R (dF R n q)<|Z<|.im<|ar q):=by
 have Tj:bg (ap jL (af 4)<|af 0) (gN Th R n<|Z<|.im<|ar q)=Z (decide (q∈R),gN Th R n<|Z<|.im<|ar q):=dg (aQ rfl rfl rfl rfl<|yz R q);have Tr:bg (ap iI (af 4)<|af 2) (gN Th R n<|Z<|.im<|ar q)=Z (!decide (q∈n.1),gN Th R n<|Z<|.im<|ar q):=dg (aQ rfl rfl rfl rfl<|MU n.1 q);unfold p8 dF;by_cases g:q∈R
 ·rw[cU g]at Tj;by_cases c:q∈n.1
  ·rw[cU c]at Tr;rw[aG λb=>b.2 c];exact gX (kQ Tj Tr) rfl
  ·rw[dA c]at Tr;rw[aB ⟨g,c⟩];have d:ha (.aL<|mt n.1) (.im<|.tup<|dC q) (cm aa)=Z (.aL<|mt<|n.1++[q]):=by
    have a:f5 n.1 q=n.1++[q]:=by unfold f5;rw[aG c]
    rw[<-a,<-De];exact aB ⟨rfl,by unfold mt;rw[a5];lia⟩
   refine it (kQ Tj Tr) (cg (z:=[Z (.aL<|mt R),Th,Z<|.aL<|mt<|n.1++[q],Z<|aP n.2,Z<|.im<|ar q]) ?_ ?_)
   ·refine hI rfl ?_;show (ha (.aL<|mt n.1) (.im<|.tup<|dC q)<|cm aa).map _=_;rw[d];rfl
   ·refine lF (jv rfl rfl (a1 rfl rfl) rfl rfl (oK (by rw[a5];lia)) ?_);show _=[Z (.aL<|mt R),Th,Z<|.aL<|mt<|n.1++[q],Z<|aP<|n.2++[q],Z<|.im<|ar q];unfold aP;rw[fe];rfl
 ·rw[dA g]at Tj;rw[aG λb=>g b.1];exact gX (oI Tj) rfl
theorem PH(R:List b6)(n:List b6×List b6)(q:b6):(dF R n q).1.length<=n.1.length+1/\(dF R n q).2.length<=n.2.length+1:=by
 unfold dF;split
 ·rw[cb,cb];exact⟨bm _,bm _⟩
 ·exact⟨by lia,by lia⟩
theorem Eh{Th:Option aj}{R:List b6}:∀(x:List b6) (n:List b6×List b6) (TK:Option aj),n.1.length+x.length<10000->n.2.length+x.length<10000->∃a,dW (bb 4) p8 (x.map ar) (gN Th R n TK)=Z (.aZ,gN Th R (x.foldl (dF R) n) a)
 |[],n,TK,_,_=>⟨TK,rfl⟩
 |q::x,n,TK,l,C=>by
  rw[c7]at l C;have H:=PH R n q;obtain⟨a,b⟩:=Eh (Th:=Th) x (dF R n q) (Z<|.im<|ar q) (by lia) (by lia);refine⟨a,?_⟩;rw[ci,dW];show (p8<|gN Th R n<|Z<|.im<|ar q).bind _=_;rw[Ru (by lia) (by lia)];exact b
structure lQ(R:List b6)(j:b6)(n:List b6×List b6):Prop where
 ah:n.1.Nodup
 zb:j∈n.1
 con:∀e∈n.1,eg R j e
 sub:∀e∈n.1,e=j\/e∈R
 zC:∀e∈n.2,e∈n.1
theorem lQ.step(SS:lQ R j n)(f:e∈n.1){q:b6}(h:q∈ip e):lQ R j (dF R n q):=by
 unfold dF;split
 ·rename_i d;refine⟨?_,dI _ SS.zb,λt b=>?_,λt b=>?_,λt b=>?_⟩
  ·rw[cF];exact⟨SS.ah,er _ _,λg i c k a=>d.2 (by rw[<-bW.mp k,<-a];exact i)⟩
  ·rcases cx.mp b with z|z
   ·exact SS.con t z
   ·rw[bW.mp z];exact .step (SS.con e f) d.1 (D4.mpr h)
  ·rcases cx.mp b with z|z
   ·exact SS.sub t z
   ·rw[bW.mp z];exact .inr d.1
  ·rcases cx.mp b with z|z
   ·exact dI _ (SS.zC t z)
   ·exact dH _ z
 ·exact SS
theorem Os{q t:b6}:(t∈n.1->t∈(dF R n q).1)/\(t∈n.2->t∈(dF R n q).2)/\(t∈(dF R n q).1->t∈n.1\/t∈(dF R n q).2)/\(q∈R->q∈(dF R n q).1):=by
 unfold dF;split
 ·rename_i d;refine⟨λz=>dI _ z,λz=>dI _ z,λz=>?_,λ_=>dH _<|.head _⟩;rcases cx.mp z with z|z
  ·exact .inl z
  ·exact .inr (dH _ z)
 ·rename_i d;refine⟨λz=>z,λz=>z,.inl,λz=>?_⟩;by_cases p:q∈n.1
  ·exact p
  ·exact absurd ⟨z,p⟩ d
theorem CD{R:List b6}{j e:b6}:∀(x:List b6) (n:List b6×List b6),(∀q∈x,q∈ip e)->e∈n.1->lQ R j n->lQ R j (x.foldl (dF R) n)/\(∀t,t∈n.1->t∈(x.foldl (dF R) n).1)/\(∀t,t∈n.2->t∈(x.foldl (dF R) n).2)/\(∀t,t∈(x.foldl (dF R) n).1->t∈n.1\/t∈(x.foldl (dF R) n).2)/\(∀q∈x,q∈R->q∈(x.foldl (dF R) n).1)/\(x.foldl (dF R) n).1.length+n.2.length=(x.foldl (dF R) n).2.length+n.1.length
 |[],n,_,_,SS=>⟨SS,λ_ d=>d,λ_ d=>d,λ_ d=>.inl d,λq d=>(by cases d),tt _ _⟩
 |q::x,n,b,c,SS=>by
  have i:=λt=>Os (R:=R) (n:=n) (q:=q) (t:=t);obtain⟨h,f,g,l,m,o⟩:=CD x (dF R n q) (λk hd=>b k<|.tail _ hd) ((i e).1 c) (SS.step c<|b q<|.head _);refine⟨h,λt d=>f t<|(i t).1 d,λt d=>g t<|(i t).2.1 d,λt d=>?_,λk hd d=>?_,?_⟩
  ·rcases l t d with z|z
   ·rcases (i t).2.2.1 z with D|D
    ·exact .inl D
    ·exact .inr (g t D)
   ·exact .inr z
  ·rcases bI.mp hd with rfl|hd
   ·exact f k ((i k).2.2.2 d)
   ·exact m k hd d
  ·have a:(dF R n q).1.length+n.2.length=(dF R n q).2.length+n.1.length:=by
    unfold dF;split
    ·rw[cb,cb,jq];lia
    ·exact tt _ _
   show (x.foldl (dF R)<|dF R n q).1.length+n.2.length=(x.foldl (dF R)<|dF R n q).2.length+n.1.length;lia
structure l4(R:List b6)(j:b6)(n:List b6×List b6):Prop where
 i:lQ R j n
 done:∀g∈n.1,g∉n.2->∀c∈R,oZ g c=aa->c∈n.1
theorem lQ.len(SS:lQ R j n):n.1.length<=R.length+1:=
 tI (i:=j::R) SS.ah λe a=>by
  rcases SS.sub e a with d|d
  ·rw[d];exact .head _
  ·exact .tail _ d
theorem l4.next(SS:l4 R j (P,D++[e])):l4 R j ((ip e).foldl (dF R) (P,D))/\((ip e).foldl (dF R) (P,D)).1.length+D.length=((ip e).foldl (dF R) (P,D)).2.length+P.length:=by
 have k:e∈P:=SS.i.zC e (dH _<|.head _);obtain⟨l,m,n,o,p,q⟩:=CD (R:=R) (j:=j) (ip e) (P,D) (λ_ d=>d) k ⟨SS.i.ah,SS.i.zb,SS.i.con,SS.i.sub,λt r=>SS.i.zC t<|dI _ r⟩;refine⟨⟨l,λg s E c f a=>?_⟩,q⟩;have u:g∈P:=(o g s).resolve_right E;by_cases h:g=e
 ·subst h;exact p c (D4.mp a) f
 ·refine m c (SS.done g u (λz=>?_) c f a);rcases cx.mp z with z|z
  ·exact E (n g z)
  ·exact h (bW.mp z)
theorem l4.fin(SS:l4 R j (P,[]))(e:b6):e∈P↔eg R j e:=by
 refine⟨SS.i.con e,λd=>?_⟩;induction d with
 |self=>exact SS.i.zb
 |step _ c a f=>exact SS.done _ f (λg=>by cases g) _ c a
theorem Jh{j e:b6}(l:P.length<5000)(C:D.length<5000):∃a,sJ (gN Th R (P,D++[e]) TK)=Z (.aZ,gN Th R ((ip e).foldl (dF R) (P,D)) a):=by
 obtain⟨a,b⟩:=Eh (Th:=Th) (R:=R) (ip e) (P,D) TK (by show _+4<_;lia) (by show _+4<_;lia);refine⟨a,?_⟩;unfold sJ;refine jw (m:=X) (z:=gN Th R (P,D) TK) (zY (k:=aP (ip e)) (cC (dE (c2<|jv (q:=aP (D++[e])) (c:=aP D) rfl rfl rfl rfl rfl ?_ rfl) rfl) rfl rfl (JL e) rfl) rfl) b rfl;show (((D++[e]).map ar).getLast?).map (λk=>(aj.im k,aj.lst ((D++[e]).map ar).dropLast))=Z (.im<|ar e,aP D);rw[fe,List.map_singleton,List.getLast?_concat,C0];rfl
theorem z7(C:R.length<=900):∃pt,nb [.aL (mt R),.im<|ar j]=Z (aX pt,[.aL (mt R),.im<|ar j])/\hF pt/\(∀e,e∈pt↔eg R j e):=by
 have p:l4 R j ([j],[j]):=⟨⟨er _ _,.head _,λe f=>by rw[bW.mp f];exact .self,λe f=>.inl<|bW.mp f,λe f=>f⟩,λg r E=>absurd r E⟩;obtain⟨S4,s,P,TK,rfl,SS⟩:=xs (q:=DQ) (c:=sJ) (λi w=>∃P D TK,w=gN (Z<|.im<|ar j) R (P,D) TK/\l4 R j (P,D)/\D.length<=P.length/\i+P.length=R.length+1+D.length) (λw=>∃P TK,w=gN (Z<|.im<|ar j) R (P,[]) TK/\l4 R j (P,[])) (λi w ⟨P,D,TK,a,SS,t,u⟩=>by
  subst a;have aN:=SS.i.len;rcases zT D with rfl|⟨D,e,rfl⟩
  ·exact⟨al,_,e8 rfl rfl rfl,λd=>(by cases d),λ_=>⟨P,TK,rfl,SS⟩⟩
  ·rw[Cp] at *;refine⟨aa,_,e8 (k:=aP (D++[e])) rfl rfl ?_,λ_=>?_,λd=>by cases d⟩
   ·show Z (!((D++[e]).map ar).isEmpty)=Z aa;rw[fe,List.isEmpty_eq_false_iff.mpr (by simp)];rfl
   ·rw[cb,jq]at t u;obtain⟨v,h⟩:=Jh (R:=R) (j:=j) (e:=e) (P:=P) (D:=D) (Th:=Z (.im<|ar j)) (TK:=TK) (by show _<_;dsimp only at aN;lia) (by dsimp only at aN;lia);obtain⟨Tb,G⟩:=SS.next;have l:=Tb.i.len;generalize (ip e).foldl (dF R) (P,D)=n at h Tb G l;obtain⟨x,Tv⟩:=n;dsimp only at aN l G;exact⟨.aZ,_,h,.inl rfl,i-1,by omega,x,Tv,v,rfl,Tb,by omega,by omega⟩) 1000000 (R.length+1) (gN (Z<|.im<|ar j) R ([j],[j]) X) ⟨[j],[j],X,rfl,p,bm _,by show _=R.length+1+1;rfl⟩ (by lia)
 have m:=SS.i.ah;have o:=SS.i.len;obtain⟨pt,y,A,B⟩:=O3 m (by dsimp only at o ⊢;lia);refine⟨pt,?_,B,λe=>A.mem_iff.trans<|SS.fin e⟩;have SX:fu [.aL (mt P)]=Z (aP pt):=by
  show g8 ((mt P).map λn=>.tup n.1)=_;have a:((mt P).map λn=>ab.tup n.1)=P.map ar:=by unfold mt;rw[gJ];rfl
  rw[a];unfold g8;rw[aB (kT.mpr (vQ m (by dsimp only at o ⊢;lia))),y]
 unfold nb F9;refine ej (w:=gN (Z<|.im<|ar j) R (P,[]) TK) rfl (cg (z:=[Z (.aL<|mt R),Z<|.im<|ar j,Z<|.aL<|mt [j],X,X]) rfl<|cg (z:=gN (Z<|.im<|ar j) R ([j],[j]) X) rfl<|cg s ?_) rfl;exact (d5<|dv (a1 (aE<|dv (a1 rfl rfl) rfl SX) rfl) rfl rfl)
theorem DZ(b:Int):qH (.int b):=λg a=>by cases a
theorem HV(q:Int×Int):pT (ar q):=⟨(λg a=>by cases a),λQ a t b=>by
 cases a;rcases bI.mp b with rfl|b
 ·exact DZ _
 ·rw[bW.mp b];exact DZ _⟩
theorem LC{R:List (Int×Int)}{e:ab}(d:e∈R.map ar):pT e:=by
 obtain⟨q,Y,rfl⟩:=cX.mp d;exact HV q
theorem Ls{E:List ab}(d:∀e∈E,pT e)(b:E.length<=290):sl (.tup E):=⟨(λg a=>by cases a),λQ a=>by cases a;exact⟨b,d⟩⟩
theorem A6:∀e∈([]:List ab),SS e:=λ_ d=>(fZ d).elim
theorem all_cons{H:List ab}(d:SS k)(o:∀e∈H,SS e):∀e∈k::H,SS e:=λe a=>by
 rcases bI.mp a with rfl|a
 ·exact d
 ·exact o e a
structure iH(R:List b6):Prop where
 up:hF R
 nf:∀q∈R,0<=q.1/\q.1<=30/\0<=q.2/\q.2<=30
 len:R.length<=200
theorem iH.sub{E:List b6}(N:iH R)(d:E.Sublist R):iH E:=⟨N.up.sublist d,λq a=>N.nf q<|d.subset a,ed d.length_le N.len⟩
theorem iH.n7(N:iH R):sl (.tup<|R.map ar):=Ls (λe a=>LC a) (by rw[a5];have:=N.len;lia)
theorem iH.is(N:iH R):xp (.tup<|R.map ar)=aa:=by
 show ((R.map ar).all hW&&rF (R.map ar))=aa;rw[z2 N.up,wJ,fk];intro e a;obtain⟨q,b,rfl⟩:=cX.mp a;exact HK (N.nf q b)
theorem JY(g c:List b6):dM (aF ((g.map ar).length:Int)) (aF ((c.map ar).length:Int))=Z (cm<|decide (g.length=c.length)):=by
 rw[mK,a5,a5];have:decide ((g.length:Int)=(c.length:Int))=decide (g.length=c.length):=sW.mpr ⟨λd=>by lia,λd=>by lia⟩;rw[this]
theorem Nw(j:b6)(r:List b6):aY (aX (j::r)) (aF 0)=Z (.im<|ar j):=by
 show (d9 ((j::r).map ar) 0).map aj.im=_;rw[pL (lb 0) (k:=ar j) rfl];rfl
theorem BA{P:ai}{r b:List b6}(N:iH (j::r))(c:nb [.aL (mt (j::r)),.im<|ar j]=Z (aX b,[.aL (mt (j::r)),.im<|ar j])):jT P [aX (j::r)]=Z (cm<|decide (b.length=(j::r).length),[aX (j::r)]):=by
 have a:=Pk (P:=P) N.n7;rw[N.is]at a;have aN:=N.len;have J:=Dt (R:=j::r) (xP N.up) (by lia);have ne:dM (aF (((j::r).map ar).length:Int)) (aF 0)=Z (cm al):=by
  rw[mK,dA (by rw[a5,c7];lia)]
 have Tj:fv (V<|bq 1 (G.oN P)<|ag (af 0) am) [Z (aX (j::r))]=Z (aa,[Z (aX (j::r))]):=e8 (aE<|cC (S3:=[.aW 0]) (Ua:=[aX (j::r)]) (r:=cm aa) rfl rfl rfl a rfl) rfl rfl;have Tr:bg (ap dM (V<|bn cZ<|ag (af 0) am)<|V<|aq<|.int 0) [Z (aX (j::r))]=Z (al,[Z (aX (j::r))]):=dg (aQ (aE<|dv (a1 rfl rfl) rfl rfl) rfl rfl rfl ne);have d:bq 2 G.nb (ag (V<|bq 1 G.gY<|ag (af 0) am)<|ag (V<|ap aY (af 0)<|V<|aq<|.int 0) am) [Z (aX (j::r))]=Z (aX b,[Z (aX (j::r))]):=cC (S3:=[.b8 (.aL<|mt (j::r)),.b8<|.im<|ar j]) (a1 (aE<|cC (S3:=[.aW 0]) (Ua:=[aX (j::r)]) rfl rfl rfl J rfl)<|a1 (aE<|aQ rfl rfl rfl rfl<|Nw j r) rfl) rfl rfl c rfl;unfold jT E0;exact ej (w:=[Z (aX (j::r))]) rfl (cg (gX (hb (h7 Tj) Tr) rfl)<|d5<|aQ (aE<|dv (a1 (aE d) rfl) rfl rfl) (aE<|dv (a1 rfl rfl) rfl rfl) rfl rfl<|JY b (j::r)) rfl
theorem C_(Tf:f4 F)(Te:aA.Perm (cells F))(TJ:et aA):∃m,aA[0]?=Z m/\m∈F:=by
 cases aA with
 |nil=>
  have l:=Te.length_eq;rw[qQ]at l;have:=nC.mpr Tf.ne;simp at l;lia
 |cons m r=>
  refine⟨m,rfl,?_⟩;obtain⟨c,b,o,e,a⟩:=ED.mp (Te.mem_iff.mp<|.head _);have f:c∈m::r:=Te.mem_iff.mpr (ED.mpr ⟨c,b,0,by decide,rfl⟩);by_cases d:c=m
  ·rw[<-d];exact b
  ·have g:c∈r:=(bI.mp f).resolve_left d;unfold et at TJ;rw[ci,gk]at TJ;have lt:=w7.mp (TJ.1 _<|sj g);have P:=qc.mp (AB c e);rw[<-a]at P;lia
theorem Hy{a b:List aD}(l:a.Pairwise ql)(C:b.Pairwise ql)(n:a.Perm b):a=b:=Bt (le:=ql) (λg c Y Y e t=>by unfold ql at e t;exact i_ (by lia) (by lia)) l C n
structure gF(F aA:List aD):Prop where
 B:f4 F
 zq:et F
 pm:aA.Perm (cells F)
 sg:et aA
theorem gF.len(N:gF F aA):aA.length=4*F.length:=by rw[N.pm.length_eq,qQ]
theorem gF.blocks(N:gF F aA):i0 [aX aA]=Z (aX F,[aX aA]):=by
 obtain⟨m,b,d⟩:=C_ N.B N.pm N.sg;have aN:=N.len;have ax:=N.B.len;have h5:=Pi N.pm N.B.ah (λc e=>N.B.par c e m d);obtain⟨T,a,n,r⟩:=N3 b (by lia) (by rw[aN,h5.length_eq]);cases Hy (FU.mp r) (FU.mp N.zq) (n.trans h5);exact a
structure ss(F:List aD)(L:List a4):Prop where
 eS:∀a∈L,gZ F a
 ah:L.Nodup
 up:la L
 len:L.length+1=F.length
 sp:sy F L
theorem BC(a:a4):jo [.im (aC a)]=Z (cm aa,[.im (aC a)]):=rfl
theorem A_:∀{H:List ab},H.Pairwise (λg c=>bx g c=aa)->((H.zip<|H.drop 1).all λn=>bx n.1 n.2)=aa
 |[],_=>rfl
 |[_],_=>rfl
 |g::c::r,d=>by
  show (bx g c&&(((c::r).zip<|(c::r).drop 1).all λn=>bx n.1 n.2))=aa;obtain⟨l,C⟩:=gk.mp d;rw[l c (.head _),A_ C];rfl
def fc(Q:List a4):List (List ab×ab):=Q.map λa=>(dt a,.ax aa)
theorem Dw{y:Option aj}:∀(b done:List a4) (TM:Option aj),(done++b).Nodup->done.length+b.length<=1000->∃Tv,dW (bb 2) li (b.map aC) [y,Z<|.aL<|fc done,TM]=Z (.aZ,[y,Z<|.aL<|fc<|done++b,Tv])
 |[],done,TM,_,_=>⟨TM,by rw[bU];rfl⟩
 |a::b,done,TM,ah,f=>by
  rw[c7]at f;have g:a∉done:=λe=>(cF.mp ah).2.2 a e a (.head _) rfl;obtain⟨Tv,h⟩:=Dw (y:=y) b (done++[a]) (Z<|.im<|aC a) (by rw[a_];exact ah) (by rw[cb];show done.length+1+_<=_;lia);refine⟨Tv,?_⟩;have i:ha (.aL<|fc done) (.im<|aC a) (.im<|.ax aa)=Z (.aL<|fc<|done++[a]):=by
   have:gy (fc done) (dt a) (.ax aa)=fc (done++[a]):=by
    unfold gy;rw[aG λe=>by
     obtain⟨p,j,d⟩:=nw.mp e;obtain⟨c,k,rfl⟩:=cX.mp j;exact g (yO (dT d) ▸ k)]
    unfold fc;rw[fe];rfl
   rw[<-this];exact aB ⟨rfl,by unfold fc;rw[a5];lia⟩
  have st:li [y,Z<|.aL<|fc done,Z<|.im<|aC a]=Z (.aZ,[y,Z<|.aL<|fc<|done++[a],Z<|.im<|aC a]):=by
   unfold li;refine hI rfl ?_;show (ha (.aL<|fc done) (.im<|aC a)<|.im<|.ax aa).map _=_;rw[i];rfl
  rw[ci,dW];show (li [y,Z<|.aL<|fc done,Z<|.im<|aC a]).bind _=_;rw[st,show done++a::b=done++[a]++b by rw[a_];rfl];exact h
theorem NT(ah:Q.Nodup)(b:Q.length<=1000):gY [aS Q]=Z (.aL<|fc Q,[aS Q]):=by
 obtain⟨m,a⟩:=Dw (y:=Z .dy) Q [] X ah (by show 0+_<=_;lia);unfold gY sc;exact ej (w:=[Z (aS Q),Z .dy,m]) rfl (cg (z:=[Z (aS Q),Z<|.aL<|fc [],X]) rfl<|cg (jw (m:=Z (0,aS Q)) (z:=[Z .dy,Z<|.aL<|fc [],X]) rfl a rfl)<|d5 rfl) rfl
theorem Id(Q:List a4)(a:a4):jL (.im<|aC a) (.aL<|fc Q)=Z (cm<|decide (a∈Q)):=by
 have J:(ez (fc Q)<|dt a).isSome=decide (a∈Q):=by
  unfold ez fc;induction Q with
  |nil=>rfl
  |cons g r c=>
   rw[ci,jE];by_cases b:g=a
   ·subst b;simp
   ·rw[show decide (((dt g,ab.ax aa):List ab×ab).1=dt a)=al from dA λD=>b<|yO D];dsimp only;rw[c,sW,bI];exact⟨.inr,λt=>t.resolve_left λD=>b D.symm⟩
 show ((if ab.keys 7 (dt a)=aa then Z (ez (fc Q)<|dt a).isSome else X).map λr=>aj.im<|.ax r)=_;rw[aB (show ab.keys 7 (dt a)=aa from rfl),J];rfl
theorem kK{c:b6}(d:(g.1=c.1/\(g.2-c.2=1\/g.2-c.2 = -1))\/(g.2=c.2/\(g.1-c.1=1\/g.1-c.1 = -1))):oZ g c=aa:=by
 unfold oZ;refine cU ?_;split<;>split<;>lia
theorem gF.xy(N:gF F aA){m:aD}(n:m∈F):∀e∈aA,eg aA m e:=by
 have f:∀{c q:aD},c∈F->q∈ek c->q∈aA:=λb h=>N.pm.mem_iff.mpr (k3.mpr ⟨_,b,h⟩);have j:∀c:aD,(c.1,c.2+1)∈ek c:=λc=>.tail _ (.head _);have Ts:∀c:aD,(c.1+1,c.2+1)∈ek c:=λc=>.tail _ (.tail _<|.head _);have k:∀c:aD,(c.1+1,c.2)∈ek c:=λc=>.tail _ (.tail _<|.tail _<|.head _);have T3:∀c:aD,c∈ek c:=λc=>.head _;have st:∀c∈F,eg aA m c->∀q∈ek c,eg aA m q:=λc b d q h=>by
  have l:eg aA m (c.1,c.2+1):=.step d (f b<|j c) (kK (by dsimp only;lia));have o:eg aA m (c.1+1,c.2):=.step d (f b<|k c) (kK (by dsimp only;lia));have C:eg aA m (c.1+1,c.2+1):=.step l (f b<|Ts c) (kK (by dsimp only;lia));simp only[ek,bI,fZ,hk]at h;rcases h with z|z|z|z
  ·rw[z];exact d
  ·rw[z];exact l
  ·rw[z];exact C
  ·rw[z];exact o
 have M:∀c∈F,eg aA m c:=by
  classical
  have:=N.B.con (λc=>if eg aA m c then (0,0) else (1,1)) (λg i c b z=>by
   have p:eg aA m g->eg aA m c:=λd=>by
    rcases z with z|z
    ·rw[z];exact .step (st g i d _<|j g) (by rw[<-z];exact f b (T3 c)) (kK (by dsimp only;lia))
    ·rw[z];exact .step (st g i d _<|k g) (by rw[<-z];exact f b (T3 c)) (kK (by dsimp only;lia))
   have r:eg aA m c->eg aA m g:=λd=>by
    rcases z with z|z
    ·have l:eg aA m (g.1,g.2+1):=.step d (f i<|j g) (kK (by rw[z];dsimp only;lia));exact .step l (f i<|T3 g) (kK (by dsimp only;lia))
    ·have l:eg aA m (g.1+1,g.2):=.step d (f i<|k g) (kK (by rw[z];dsimp only;lia));exact .step l (f i<|T3 g) (kK (by dsimp only;lia))
   by_cases t:eg aA m g
   ·show (if eg aA m g then _ else _)=if eg aA m c then _ else _
    rw[aB t,aB<|p t]
   ·show (if eg aA m g then _ else _)=if eg aA m c then _ else _
    rw[aG t,aG λD=>t<|r D])
  intro c b;have a:=this m n c b;by_cases t:eg aA m c
  ·exact t
  ·exfalso;have a:(if eg aA m m then ((0:Int),(0:Int)) else (1,1))=if eg aA m c then (0,0) else (1,1):=a
   rw[aB .self,aG t]at a;exact absurd (congrArg Prod.fst a) (by decide)
 intro e s;obtain⟨c,b,h⟩:=k3.mp (N.pm.mem_iff.mp s);exact st c b (M c b) e h
theorem NJ{aA:List b6}(SX:j∈aA)(d:eg aA j e):e∈aA:=by
 cases d with
 |self=>exact SX
 |step _ a _=>exact a
theorem gF.field(N:gF F aA)(P:ai):jT P [aX aA]=Z (cm aa,[aX aA]):=by
 obtain⟨m,f,h⟩:=C_ N.B N.pm N.sg;have xy:=N.xy h;have aN:=N.len;have ax:=N.B.len;have SM:iH aA:=⟨n5.mp N.sg,λq i=>by
  obtain⟨c,k,l⟩:=k3.mp (N.pm.mem_iff.mp i);have:=N.B.jN c k;have:=qc.mp l;lia,by lia⟩
 cases aA with
 |nil=>cases f
 |cons j r=>
  cases f;obtain⟨n,o,p,g⟩:=z7 (R:=m::r) (j:=m) (by lia);have d:=BA (P:=P) SM o;have a:n.length=(m::r).length:=GK (tI (xP p) λe b=>NJ (.head _)<|(g e).mp b) (tI (xP SM.up) λe b=>(g e).mpr<|xy e b);rw[cU a]at d;exact d
theorem vP:∀L:List a4,ab.cQ 7 (L.map aC)=aa
 |[]=>rfl
 |a::r=>by rw[ci,ab.cQ,vP r];rfl
theorem If(H:List aD)(q:aD):iI (.im<|ar q) (aP H)=Z (cm<|!decide (q∈H)):=by
 show (gi (ar q)<|aP H).map _=_;rw[wY];rfl
theorem EP:∀(H a:List (List ab)),(a++H).Nodup->H.foldl gv a=a++H
 |[],a,_=>by rw[bU];rfl
 |o::H,a,ah=>by
  have b:o∉a:=λc=>(cF.mp ah).2.2 o c o (.head _) rfl;rw[jF,show gv a o=a++[o] from aG b,EP H (a++[o]) (by rw[a_];exact ah),a_];rfl
theorem Of{J:av (List bl)}{S3:List bl}(ah:L.Nodup)(m:L.length<=100)(f:la L)(h:J w=Z (S3,z))(i:fX z S3=Z [.im (.tup<|L.map aC)]):lV J w=Z (aS L,z):=by
 have b:(L.map dt).map ab.tup=L.map aC:=by rw[gJ];rfl
 have d:fI (L.map dt)=L.map dt:=by
  unfold fI;rw[EP _ [] (by rw[i7];exact rK ah λg Y c Y j=>yO j),i7]
 have e:=qt ah (by lia);unfold lV;rw[h];show (fX z S3).bind _=_;rw[i];show (mP<|L.map aC).bind _=_;rw[<-b,vZ];have l:pW (L.map dt)=aa:=by
  rw[yX,d,a5];refine⟨λo k=>?_,by lia⟩;obtain⟨a,Y,rfl⟩:=cX.mp k;rfl
 have C:o3 ((fI<|L.map dt).map .tup)=aa:=by
  rw[d,b];exact kT.mpr e
 refine (aB ⟨l,C⟩).trans ?_;rw[d,b,<-Cd e.1 (.refl _) f]
theorem K1(SO:List a4)(a:a4):jL (.im<|aC a) (aS SO)=Z (cm<|decide (a∈SO)):=by
 have:=RC SO a;show (gi (aC a)<|aS SO).map (λr=>aj.im<|.ax r)=_;have C:gi (aC a) (aS SO)=gi (aC a) (.im<|.tup<|SO.map aC):=rfl;rw[C,this];rfl
noncomputable def eK(L:List a4)(e:aD):List aD:=(L.filter λa=>decide (a.1=e)).map (·.2)++(L.filter λa=>decide (a.2=e)).map (·.1)
theorem sr{e t:aD}:t∈eK L e↔(e,t)∈L\/(t,e)∈L:=by
 unfold eK;rw[cx,cX,cX];constructor
 ·rintro (⟨a,b,rfl⟩|⟨a,b,rfl⟩)
  ·obtain⟨l,C⟩:=ge.mp b;exact .inl (dT C ▸ l)
  ·obtain⟨l,C⟩:=ge.mp b;exact .inr (dT C ▸ l)
 ·rintro (d|d)
  ·exact .inl ⟨(e,t),ge.mpr ⟨d,cU rfl⟩,rfl⟩
  ·exact .inr ⟨(t,e),ge.mpr ⟨d,cU rfl⟩,rfl⟩
abbrev gH(F:List aD)(L SO:List a4)(met:List aD)(o:Int)(TC:Option aj):aU:=[Z (aP F),Z<|.im<|.tup<|L.map aC,Z<|aS SO,Z<|aP met,Z<|aF o,TC]
theorem Ic(f:met[o]?=Z q)(t:met.length<=1000)(u:L.length<=100)(TC:Option aj):
  Es (gH F L SO met (o:Int) TC)=Z (.aZ,gH F L SO (met++(eK L q).filter λe=>!decide (e∈met)) ((o:Int)+1)<|Z<|aP<|eK L q):=by
 have d:aY (aP met) (aF (o:Int))=Z (.im<|ar q):=by
  have B:d9 (met.map ar) (o:Int)=Z (ar q):=ot (by lia) (by simpa using f);show (d9 (met.map ar) (o:Int)).map aj.im=_;rw[B];rfl
 have dJ:∀(TC:Option aj) (b:av Bool) (c:av aj) (n:a4->aD) (r:a4->aD),(∀a:a4,b [Z (.im<|ar a.1),Z<|.im<|ar a.2,Z<|aP met,Z<|aF (o:Int)]=Z (decide (n a=q),[Z (.im<|ar a.1),Z<|.im<|ar a.2,Z<|aP met,Z<|aF (o:Int)]))->(∀a:a4,c [Z (.im<|ar a.1),Z<|.im<|ar a.2,Z<|aP met,Z<|aF (o:Int)]=Z (.im<|ar<|r a,[Z (.im<|ar a.1),Z<|.im<|ar a.2,Z<|aP met,Z<|aF (o:Int)]))->
   cJ 2 [3,4] (cA<|af 1) (el 2<|cu (bb 0)<|cu (bb 1) ey) b c (gH F L SO met (o:Int) TC)=Z (aP<|(L.filter λa=>decide (n a=q)).map r,gH F L SO met (o:Int) TC):=λTC b c n r l C=>by
  have p:=nm (own:=2) (To:=el 2 (cu (bb 0)<|cu (bb 1) ey)) (q:=b) (a:=c) (az:=[Z (aP met),Z<|aF (o:Int)]) aC (λa=>decide (n a=q)) (λa=>ar<|r a) L [] (λa v=>⟨[Z (.im<|ar a.1),Z<|.im<|ar a.2,Z<|aP met,Z<|aF (o:Int)],_,rfl,l a,λ_=>rfl,λ_=>⟨_,C a,rfl⟩⟩) (by show 0+_<=_;lia);rw[i7,show ((L.filter λa=>decide (n a=q)).map λa=>ar<|r a)=((L.filter λa=>decide (n a=q)).map r).map ar by rw[gJ];rfl]at p;exact jS (x:=L.map aC) (m:=X) (z:=gH F L SO met (o:Int) TC) rfl p rfl
 have g:=dJ TC G0 Bc (·.1) (·.2) (λa=>dg<|aQ rfl (aE<|aQ rfl rfl rfl rfl d) rfl rfl<|ub _ _) λa=>rfl;have h:=dJ (Z (aP ((L.filter λa=>decide (a.1=q)).map (·.2)))) EQ E9 (·.2) (·.1) (λa=>dg<|aQ rfl (aE<|aQ rfl rfl rfl rfl d) rfl rfl<|ub _ _) λa=>rfl;have w:(L.filter λa=>decide (a.1=q)).length<=L.length:=uS _ _;have y:(L.filter λa=>decide (a.2=q)).length<=L.length:=uS _ _;have i:bH (aP ((L.filter λa=>decide (a.1=q)).map (·.2))) (aP ((L.filter λa=>decide (a.2=q)).map (·.1)))=Z (aP<|eK L q):=by
  rw[show aP (eK L q)=.lst (((L.filter λa=>decide (a.1=q)).map (·.2)).map ar++((L.filter λa=>decide (a.2=q)).map (·.1)).map ar) by rw[aP,eK,fe]];exact aB (by rw[a5,a5,a5,a5];lia)
 have j:(eK L q).length<=200:=by unfold eK;rw[cb,a5,a5];lia
 have k:cJ 1 [3] (cA<|af 5) (bb 0) G.BF G.Et (gH F L SO met ((o:Int)+1)<|Z<|aP<|eK L q)=Z (aP<|(eK L q).filter λe=>!decide (e∈met),gH F L SO met ((o:Int)+1)<|Z<|aP<|eK L q):=by
  refine jS (x:=(eK L q).map ar) (m:=Z (5,aP<|eK L q)) (z:=gH F L SO met ((o:Int)+1) (Z .dy)) rfl (nm ar (λe=>!decide (e∈met)) ar (eK L q) [] (λe A=>?_) (by show 0+_<=_;lia)) rfl;exact⟨[Z (.im<|ar e),Z<|aP met],[Z (.im<|ar e),Z<|aP met],rfl,dg<|aQ rfl rfl rfl rfl<|If met e,λ_=>rfl,λ_=>⟨[Z (.im<|ar e),Z<|aP met],rfl,rfl⟩⟩
 have aN:((eK L q).filter λe=>!decide (e∈met)).length<=200:=ed (uS _ _) j;have s:bH (aP met) (aP<|(eK L q).filter λe=>!decide (e∈met))=Z (aP<|met++(eK L q).filter λe=>!decide (e∈met)):=by
  rw[show aP (met++(eK L q).filter λe=>!decide (e∈met))=.lst (met.map ar++((eK L q).filter λe=>!decide (e∈met)).map ar) by rw[aP,fe]];exact aB (by rw[a5,a5];lia)
 unfold Es;exact cg (fh g (dS rfl) rfl) (cg (z:=gH F L SO met (o:Int) (Z<|aP<|eK L q)) (fh (aQ rfl (aE h) rfl rfl i) (dS rfl) rfl)<|cg (z:=gH F L SO met ((o:Int)+1) (Z<|aP<|eK L q)) (fh (aQ rfl rfl rfl rfl rfl) (dS rfl) rfl)<|fh (aQ rfl (aE k) rfl rfl s) (dS rfl) rfl)
structure h6(F:List aD)(L:List a4)(met:List aD)(o:Nat):Prop where
 ah:met.Nodup
 sub:∀e∈met,e∈F
 fst:∀m,F[0]?=Z m->m∈met
 cl:∀b e,b<o->met[b]?=Z e->∀t,t∈eK L e->t∈met
theorem h6.full(Y:h6 F L met o)(B:ss F L)(h:F.Nodup)(ne:F≠[])(k:met.length<=o):met.length=F.length:=by
 obtain⟨m,f⟩:∃m,F[0]?=Z m:=by
  cases F with
  |nil=>exact absurd rfl ne
  |cons c r=>exact⟨c,rfl⟩
 have cl:∀e∈met,∀t,t∈eK L e->t∈met:=λe i=>by
  obtain⟨b,SJ,a⟩:=l7.mp i;exact Y.cl b e (by lia) (by rw[dh SJ,a])
 have all:∀c∈F,c∈met:=λc j=>by
  have:=B.sp (λq=>if q∈met then (0,0) else (1,1)) (λa g=>by
   have d:a.1∈met↔a.2∈met:=⟨λd=>cl _ d _<|sr.mpr<|.inl g,λd=>cl _ d _<|sr.mpr<|.inr g⟩;exact s3 d) m (e5 f) c j
  by_cases t:c∈met
  ·exact t
  ·exfalso;have a:(if m∈met then ((0:Int),(0:Int)) else (1,1))=if c∈met then (0,0) else (1,1):=this
   rw[aB (Y.fst m f),aG t]at a;exact absurd (congrArg Prod.fst a) (by decide)
 exact GK (Y.ah.length_le_of_subset Y.sub) (h.length_le_of_subset all)
theorem Bx(L:List a4):cZ [.im (.tup<|L.map aC)]=Z (aF (L.length:Int)):=by
 show Z (aF ((L.map aC).length:Int))=_;rw[a5]
end G
namespace L2
open PySem PySem.Spec PyProof.Rows
section
variable{f:aH}{G:List (ai×a0)}{y:St}{h:au}{j:ak}
variable{az b:ai}{Tp:List dP}{t:ay}{Un i:Pos}{g:bz}{d:List bz}
theorem QR{Um:ae->ak->Prop}{a:ai}{T8:ae}{cf:List vX}{w:kn}{B:eh}(Y:Inv f G y h j)(e:kb f G h j.heap a az T8)(u:f.stack=f.env::Tp)(v:f.ex=[])(x:dU f t)(z:f.aw t=Z (.ref b))(C:PySem.W.exmOne f.K (.ref az) (.ref b)=Z aa)(SX:∀TO:a0,TO.cls=.ref az->gm (f.mW G a TO) (g::d) B)(bt:B w y h)(hd:(t==("__debug__" : ay))=al:=by decide):
  wpAny (aM f.prog f.w) f.A (handleBy (.ref a) f.env (.ExceptHandler (Z<|.Name t Un) X (g::d) i::cf)) (iO f G w) Um j:=by
 refine wpAny_handleBy_cons (codeAny_handlers_test ?_) (by intro p;cases p);obtain⟨TO,o,E⟩:∃TO,j.heap.get? a=Z TO/\TO.cls=.ref az:=by
  obtain⟨T,T,TO,T,T,T,T,k,l,T⟩:=e;exact⟨TO,k,l.1⟩
 have S0:=Y.mW e o;refine uj S0 x z ?_ hd;have LT:PySem.W.Looks (aM f.prog f.w) j.heap (n_<|.ref a) (.ref az):=E ▸ ((Mk o).andThen .now);refine PySem.W.exm_one (M:=aM f.prog f.w) Y.kp LT C _ _ _ j (λc m p=>p) ?_;refine codeAny_handlers_suite (PP Y e u v λU Tt q=>?_);obtain⟨F,H,J⟩:∃TO,U.get? a=Z TO/\TO.cls=.ref az:=by
  obtain⟨T,T,TO,T,T,T,T,k,l,T⟩:=q;exact⟨TO,k,l.1⟩
 refine fY (SX F J [] _ _ h _ (Tt.mW q H) bt) (λP M p=>?_) λ_ T L=>False.elim L;cases P with
 |next=>obtain⟨n,R,SK,p⟩:=p;exact⟨_,R,SK.vb Y.ok,p⟩
 |brk=>obtain⟨n,R,SK,p⟩:=p;exact⟨_,R,SK.vb Y.ok,p⟩
 |cont=>obtain⟨n,R,SK,p⟩:=p;exact⟨_,R,SK.vb Y.ok,p⟩
 |ret I=>obtain⟨s,n,R,SK,r,p⟩:=p;exact⟨s,_,R,SK.vb Y.ok,r,p⟩
noncomputable def rN(r:hY)(J:bj):bj:=λw=>(r w).bind J
theorem O0{S8:List Nat}{T9:List bz}{S1:Pos}{Tw:ai}{TI J:bj}{r:hY}(q:f.stack=f.env::Tp)(u:f.env.frame=Z Tw)(s:f.ex=[])(v:dU f t)(x:f.aw t=Z (.ref b))(A:PySem.W.exmOne f.K (.ref az) (.ref b)=Z aa)(C:∀SM n,g_ (f.hold SM n) S8 T9 TI)(E:∀SM n k,(∀y h,k y h->uB (f.hold SM n) az y h)->gT (f.hold SM n) S8 k T9 (jM r))(SX:∀n a TO,TO.cls=.ref az->g_ (f.mW n a TO) S8 (g::d) J)(hd:(t==("__debug__" : ay))=al:=by decide):
  fU f S8 (.Try T9 [.ExceptHandler (Z<|.Name t Un) X (g::d) i] [] [] S1) (m6 TI<|rN r J):=by
 intro G j y h w Y ⟨l,N,aN,z,st,ah,c,p⟩;unfold m6 at c;cases m:TI l with
 |some r=>
  rw[m]at c;exact (MM (S1:=S1) C) j y h w Y ⟨l,N,aN,z,st,ah,by rw[m];exact c,p⟩
 |none=>
  rw[m]at c;obtain⟨S4,F,H⟩:=bB.mp c;refine EV (fY ((E _ G (λe R=>∃Ti,cI S8 y e/\bo R S4 e Ti/\bd h N R Ti)<|λe R L cl SN a T8 Tt M=>?_) [] j y h w (Y.hold _) ⟨l,N,S4,st,ah,F,λe R Ti TH o T0=>⟨Ti,TH,o,T0⟩⟩) (λP O D=>?_) λa O Q=>Q)
  ·obtain⟨Ti,TH,o,T0⟩:=L;have SK:=Tt.kl;have S:=M.kl;refine MY SK S SK.ok.frames q u s λU T be=>?_;exact QR T be q s v x A (B:=nM S8 J) (λTO bs=>SX G a TO bs) ⟨_,Ti,aN,z,o,T0.ah,H,p.on TH T0⟩ hd
  ·have D:=iO.kl D;cases P with
   |next=>exact pq D
   |brk=>exact D
   |cont=>exact D
   |ret I=>exact D
end
end L2
namespace G
open PySem L2
variable{TS A TL:Option aj}{n:aD->aD}{Tn I O L:List a4}{e:ab}{m:aD}{Uc met aA F:List aD}{c:Bool}{d:aj}{v o:Nat}{H:List ab}{z w:aU}{T4 Ts P:ai}
def xf(a b:ai):av aj:=(ap jL (af 0)<|af 1)
def nk(a b:ai):bj:=(a7 (dB (ga (fD<|fv<|V<|bq 1 (G.jT b)<|ag (af 0) am)<|fD<|fv<|V<|bq 2 (G.kH a)<|ag (af 1)<|ag (V<|aq<|.fn a) am) (cv<|aq<|.ax al) ee)<|a7 (m6 (bL 2<|bq 1 G.i0<|ag (af 0) am)<|rN (rC 1 (jB 1 2 G.lJ)<|ag (af 0) am)<|cv<|aq<|.ax al)<|a7 (bL 3<|bq 1 G.gY<|ag (V<|bq 1 G.oX<|ag (af 2) am) am)<|cv<|gS<|ei (bg<|bn h3<|ag (V<|cJ 1 [3] (cA<|af 1) (bb 0) d2<|G.xf a b) am)<|bg<|ap dM (V<|bq 2 G.o9<|ag (af 2)<|ag (af 1) am)<|af 1)
def gw(a b:ai):cN:=c6 2 4 [0,1] (nk a b)
def tL:av aj:=(ap jL (af 0)<|af 1)
def Hm:av aj:=(dQ 1)
def RV:av Bool:=(bg<|ap dM (af 0)<|V<|ap aY (af 2)<|af 3)
def JA:av aj:=(dQ 0)
def RL:av Bool:=(bg<|ap dM (af 1)<|V<|ap aY (af 2)<|af 3)
def JB:av aj:=(dQ 0)
def Is:av Bool:=(bg<|ap iI (af 0)<|af 1)
def uD:av Bool:=(bg<|ap j3 (af 4)<|V<|bn cZ<|ag (af 3) am)
def GA:bj:=(a7 (bL 5<|cJ 2 [3,4] (cA<|af 1) (el 2<|cu (bb 0)<|cu (bb 1) ey) G.RV G.Hm)<|a7 (bL 5<|ap bH (af 5)<|V<|cJ 2 [3,4] (cA<|af 1) (el 2<|cu (bb 0)<|cu (bb 1) ey) G.RL G.JA)<|a7 (bL 4<|ap bH (af 4)<|V<|aq<|.int 1)<|bL 3<|ap bH (af 3)<|V<|cJ 1 [3] (cA<|af 5) (bb 0) G.Is G.JB)
def wE:bj:=(a7 (bL 2<|bq 1 G.l9<|ag (af 0) am)<|a7 (dB (ga (fD<|fv<|V<|bn h3<|ag (V<|cJ 1 [2] (cA<|af 1) (bb 0) d2 G.tL) am)<|ga (bg<|ap eZ (V<|bn lu<|ag (af 1) am)<|V<|lV<|ag (af 1) am)<|bg<|ap eZ (V<|bn cZ<|ag (af 1) am)<|V<|ap iR (V<|bn cZ<|ag (af 0) am)<|V<|aq<|.int 1) (cv<|aq<|.ax al) ee)<|a7 (kq 3 4<|ag (V<|eQ (af 0) fg<|fp<|aq<|.int 1)<|ag (V<|aq<|.int 0) am)<|a7 (jK G.uD G.GA 1000000)<|cv<|ap dM (V<|bn cZ<|ag (af 3) am)<|V<|bn cZ<|ag (af 0) am)
def nG:cN:=c6 2 6 [0,1] wE
def zE:bj:=(a7 (bL 3<|bq 1 G.l9<|ag (af 1) am)<|a7 (bL 4<|bv<|ag (V<|ap aY (af 1)<|V<|bq 2 G.eN<|ag (af 0)<|ag (V<|bn cZ<|ag (af 1) am) am)<|ag (V<|ap aY (af 1)<|V<|bq 2 G.eN<|ag (af 0)<|ag (V<|bn cZ<|ag (af 1) am) am) am)<|a7 (eP (ap aY (af 4)<|V<|aq<|.int 0)<|el 2<|cu (bb 5)<|cu (bb 6) ey)<|a7 (bL 7<|ap bH (af 3)<|V<|dq<|ag (af 4)<|ag (V<|qB<|af 4)<|ag (V<|bv<|ag (V<|ap aY (af 4)<|V<|aq<|.int 0)<|ag (V<|bv<|ag (af 5)<|ag (V<|ap bH (af 6)<|V<|aq<|.int 2) am) am)<|ag (V<|bv<|ag (V<|ap aY (af 4)<|V<|aq<|.int 0)<|ag (V<|bv<|ag (af 5)<|ag (V<|ap bH (af 6)<|V<|aq<|.int 1) am) am) am)<|a7 (bL 8<|ap aY (af 7)<|V<|bq 2 G.eN<|ag (af 0)<|ag (V<|bn cZ<|ag (af 7) am) am)<|a7 (dB (bg<|ap dM (af 2)<|V<|bv am) (cv<|bv<|ag (af 8) am) ee)<|a7 (bL 9<|bq 2 G.eN<|ag (af 0)<|ag (V<|bn cZ<|ag (af 2) am) am)<|a7 (bL 10<|ap bH (V<|ap bH (V<|eQ (af 2) fg<|fp<|dQ 9)<|V<|bv<|ag (af 8) am)<|V<|eQ (af 2) (fp<|ap bH (af 9)<|V<|aq<|.int 1) fg)<|a7 (bL 11<|ap bH (V<|ap bH (V<|eQ (af 2) fg<|fp<|dQ 9)<|V<|bv<|ag (V<|qB<|V<|ap aY (af 2)<|af 9) am)<|V<|eQ (af 2) (fp<|ap bH (af 9)<|V<|aq<|.int 1) fg)<|a7 (bL 12<|dq<|ag (V<|ap bH (V<|eQ (af 2) fg<|fp<|dQ 9)<|V<|eQ (af 2) (fp<|ap bH (af 9)<|V<|aq<|.int 1) fg)<|ag (V<|bn i5<|ag (V<|bn pQ<|ag (V<|ap bH (af 2)<|V<|bv<|ag (af 8) am) am) am)<|ag (V<|ap bH (af 2)<|V<|eQ (af 2) (fp<|gM<|aq<|.int 1) fg)<|ag (V<|bn i5<|ag (V<|bn pQ<|ag (af 10) am) am)<|ag (af 10)<|ag (af 11) am)<|a7 (bL 12<|ap bH (af 12)<|V<|dq<|ag (V<|bn i5<|ag (V<|bn pQ<|ag (af 11) am) am)<|ag (V<|ap bH (V<|eQ (af 2) (fp<|gM<|aq<|.int 1) fg)<|V<|eQ (af 2) fg<|fp<|gM<|aq<|.int 1)<|ag (V<|ap bH (af 2)<|V<|bv<|ag (af 8) am)<|ag (V<|ap bH (V<|eQ (af 2) (fp<|aq<|.int 1) fg)<|V<|bv<|ag (af 8) am) am)<|cv<|ap aY (af 12)<|V<|bq 2 G.eN<|ag (af 0)<|ag (V<|bn cZ<|ag (af 12) am) am)
def u2:cN:=c6 3 13 [0,1,2] zE
def xg:bj:=(a7 (bL 1<|dq<|ag (V<|aq .aR)<|ag (V<|aq<|.ax aa)<|ag (V<|aq<|.int 0)<|ag (V<|aq<|.str "")<|ag (V<|nE<|dq am)<|ag (V<|nE tk)<|ag (V<|nE<|bn lu<|ag (af 0) am)<|ag (V<|ap bH (af 0)<|V<|bv<|ag (V<|aq .aR) am)<|ag (V<|ap bH (af 0)<|V<|bv<|ag (V<|bv am) am)<|ag (V<|ap bH (af 0)<|V<|bv<|ag (V<|aq<|.int 0) am)<|ag (V<|bv<|ag (V<|bv<|ag (V<|aq .aR)<|ag (V<|aq .aR) am) am)<|ag (V<|nE<|dq<|ag (V<|aq .aR) am) am)<|a7 (bL 1<|ap bH (af 1)<|V<|dq<|ag (V<|aq<|.str "branches")<|ag (V<|bv<|ag (V<|bv<|ag (V<|aq<|.str "a")<|ag (V<|aq<|.str "b") am) am)<|ag (V<|ap bH (af 0)<|V<|bv<|ag (V<|bv<|ag (V<|bv<|ag (V<|aq<|.int 0)<|ag (V<|aq<|.int 0) am) am) am) am)<|a7 (ic<|fS hH 1 hm<|ag (V<|bv<|ag (V<|bv<|ag (V<|aq<|.int 0)<|ag (V<|aq<|.int 0) am)<|ag (V<|bv<|ag (V<|aq<|.int 0)<|ag (V<|aq<|.int 2) am) am) am)<|a7 (dB (bg<|ap dM (af 0)<|V<|bv am) (cv<|dQ 1) ee)<|a7 (eP (ap aY (af 0)<|V<|gM<|aq<|.int 1)<|el 2<|cu (bb 2)<|cu (bb 3) ey)<|a7 (bL 4<|eQ (af 0) fg<|fp<|gM<|aq<|.int 1)<|a7 (bL 1<|ap bH (af 1)<|V<|dq<|ag (V<|ap bH (af 4)<|V<|bv<|ag (V<|nE<|dq<|ag (af 2)<|ag (af 3) am) am)<|ag (V<|ap bH (af 4)<|V<|bv<|ag (V<|bv<|ag (af 2)<|ag (V<|nE<|bn lu<|ag (af 3) am) am) am) am)<|a7 (bL 1<|ap bH (af 1)<|V<|dq<|ag (V<|ap bH (af 4)<|V<|bv<|ag (V<|bv<|ag (af 2)<|ag (af 3)<|ag (af 3) am) am)<|ag (V<|ap bH (af 4)<|V<|bv<|ag (V<|bv<|ag (af 2) am) am) am)<|a7 (bL 1<|ap bH (af 1)<|V<|dq<|ag (V<|ap bH (af 4)<|V<|bv<|ag (V<|bv<|ag (af 2)<|ag (V<|bv<|ag (V<|ap aY (af 3)<|V<|aq<|.int 0)<|ag (V<|bn vStr<|ag (V<|ap aY (af 3)<|V<|aq<|.int 1) am) am) am) am)<|ag (V<|ap bH (af 4)<|V<|bv<|ag (V<|bv<|ag (af 2)<|ag (V<|ap bH (af 3)<|V<|bv<|ag (V<|aq<|.int 0) am) am) am)<|ag (V<|ap bH (af 4)<|V<|bv<|ag (V<|bv<|ag (af 2)<|ag (V<|aq .aR) am) am) am)<|a7 (dB (bg<|ap j3 (V<|ap aY (af 2)<|V<|aq<|.int 0)<|V<|aq<|.int 2) (ic<|fS hH 1 hm<|ag (V<|ap bH (af 4)<|V<|bv<|ag (V<|bv<|ag (V<|bv<|ag (V<|ap dM (V<|ap aY (af 2)<|V<|aq<|.int 0)<|V<|aq<|.int 1)<|ag (V<|ap aY (af 2)<|V<|aq<|.int 1) am)<|ag (af 3) am) am) am) ee)<|cv<|dQ 1)
def oH:cN:=c6 1 5 [0] xg
def ud(a b:ai):bj:=(a7 (bL 7<|bq 3 G.u2<|ag (af 2)<|ag (af 3)<|ag (af 5) am)<|a7 (bL 8<|bq 2 (G.gw a b)<|ag (af 4)<|ag (af 7) am)<|dB (ga (fD<|fv<|V<|lR "bool"<|af 8)<|bg<|ap eZ (af 8)<|V<|bq 2 G.nG<|ag (af 3)<|ag (af 7) am) (cv<|aq<|.ax al) ee)
def rX(a b:ai):av aj:=(ap (iU aa) (V<|bq 2 (G.gw a b)<|ag (af 1)<|ag (af 0) am)<|V<|aq<|.ax al)
def uh(a b:ai):bj:=(a7 (bL 2<|bq 2 G.qF<|ag (af 0)<|ag (af 1) am)<|a7 (bL 3<|bq 1 G.qZ<|ag (af 2) am)<|a7 (kq 4 5<|ag (V<|bq 1 G.pf<|ag (af 3) am)<|ag (V<|bq 2 G.o7<|ag (af 2)<|ag (af 3) am) am)<|a7 (dB (bg<|ap (iU aa) (V<|bq 2 (G.gw a b)<|ag (af 4)<|ag (af 5) am)<|V<|aq<|.ax aa) (cv<|aq<|.ax al) ee)<|a7 (gI (lB<|ag (V<|aq<|.int 6) am) (bb 6)<|G.ud a b)<|a7 (dB (fv<|V<|bn qR<|ag (V<|cJ 1 [4] (cA<|V<|bq 1 G.oH<|ag (af 5) am) (bb 0) d2<|G.rX a b) am) (cv<|aq<|.ax al) ee)<|dB (ga (bg<|ap (iU aa) (V<|bq 2 (G.gw a b)<|ag (V<|eQ (af 4) (fp<|aq<|.int 1) fg)<|ag (af 5) am)<|V<|aq<|.ax al)<|bg<|ap (iU aa) (V<|bq 2 (G.gw a b)<|ag (V<|eQ (af 4) fg<|fp<|gM<|aq<|.int 1)<|ag (af 5) am)<|V<|aq<|.ax al) (cv<|aq<|.ax al) ee)
def y3(a b:ai):bj:=(a7 (gI (lB<|ag (V<|bn tv<|ag (V<|aq<|.int 1)<|ag (V<|bn uN<|ag (V<|aq<|.int 8)<|ag (V<|bn cZ<|ag (af 0) am) am) am) am) (bb 1)<|G.uh a b)<|cv<|ap (iU al) (V<|bq 2 (G.gw a b)<|ag (V<|bv<|ag (V<|bv<|ag (V<|aq<|.int 0)<|ag (V<|aq<|.int 0) am) am)<|ag (V<|bv am) am)<|V<|aq<|.ax al)
def rx(a b:ai):cN:=c6 1 9 [0] (y3 a b)
def so(H:List ab):Bool:=(H.zip<|H.drop 1).all λn=>bx n.1 n.2
theorem B3(l:L.length<=1000):kH P [.im (.tup<|L.map aC),.im<|.fn P]=Z (cm<|so<|L.map aC,[.im (.tup<|L.map aC),.im<|.fn P]):=by
 obtain⟨w,a⟩:∃w:aU,w=[Z (.im<|.tup<|L.map aC),Z<|.im<|.fn P]:=⟨_,rfl⟩;have h:cJ 1 [1] (cA<|af 0) (bb 0) d2 (qE P) w=Z (.lst<|L.map λ_=>.ax aa,w):=by
  rw[a];refine jS (x:=L.map aC) (m:=X) (z:=[Z (.im<|.tup<|L.map aC),Z<|.im<|.fn P]) rfl (jA aC (λ_=>.ax aa) _ (λe o=>?_) (by lia)) rfl;refine⟨[Z (.im<|aC e),Z<|.im<|.fn P],_,[Z (.im<|aC e),Z<|.im<|.fn P],rfl,rfl,?_,rfl⟩;unfold qE;show (if P=P then _ else _)=_;rw[aB rfl];exact cC (S3:=[.aW 0]) rfl rfl rfl (BC e) rfl
 have i:cJ 2 [] (ny<|ag (af 0)<|ag (V<|eQ (af 0) (fp<|aq<|.int 1) fg) am) (el 2<|cu (bb 0)<|cu (bb 1) ey) d2 (BW P) w=Z (.lst<|((L.map aC).zip<|(L.map aC).drop 1).map λn=>.ax<|bx n.1 n.2,w):=by
  rw[a];refine jS (x:=((L.map aC).zip<|(L.map aC).drop 1).map λn=>.tup [n.1,n.2]) (m:=X) (z:=[Z (.im<|.tup<|L.map aC),Z<|.im<|.fn P]) ?_ (jA (λn:ab×ab=>.tup [n.1,n.2]) (λn=>.ax<|bx n.1 n.2) _ (λn b=>?_) ?_) rfl
  ·rw[<-vK];exact Bz (a1 rfl (a1 (aE (g4 (TV:=.im (.tup<|(L.map aC).drop 1)) rfl rfl rfl rfl (by show Z (aj.im<|.tup<|e6 (L.map aC) (Z ((1:Nat):Int)) X)=_;rw[v7]))) rfl)) rfl
  ·obtain⟨g,Y,d⟩:=cX.mp (no b).1;obtain⟨c,Y,f⟩:=cX.mp (ky (no b).2);obtain⟨e,t⟩:=n;dsimp only at d f ⊢;subst d f;exact⟨[Z (.im<|aC g),Z<|.im<|aC c],_,[Z (.im<|aC g),Z<|.im<|aC c],rfl,rfl,aQ rfl rfl rfl rfl rfl,rfl⟩
  ·rw[vN,e4,a5];lia
 have j:h3 [.lst (L.map λ_=>.ax aa)]=Z (cm aa):=by
  rw[nD (λ_:a4=>aa) L,show (L.all λ_=>aa)=aa from fk.mpr λ_ Y=>rfl]
 have k:=nD (λn:ab×ab=>bx n.1 n.2) ((L.map aC).zip<|(L.map aC).drop 1);unfold kH xT;refine ej (w:=w) rfl ?_ (by rw[a];rfl);show a7 _ _ [Z (.im<|.tup<|L.map aC),Z<|.im<|.fn P]=_;rw[<-a];exact cg (gX (hb (h7 (by rw[a];exact e8 rfl rfl rfl))<|h7<|e8 (aE<|dv (a1 (aE h) rfl) rfl j) rfl rfl) rfl) (d5<|dv (a1 (aE i) rfl) rfl k)
theorem Dx:∀(Q:List a4) (j:(aD->aD)×List a4),(∀a∈j.2,j.1 a.1=j.1 a.2)->j.2.Nodup->(ew Q j).2.Nodup
 |[],_,_,d=>d
 |a::Q,j,l,C=>by
  show (ew Q<|bE j a).2.Nodup;refine Dx Q _ ?_ ?_
  ·unfold bE;split
   ·exact l
   ·rename_i b;intro e c;show eV j.1 a e.1=eV j.1 a e.2;rcases cx.mp c with p|p
    ·unfold eV;rw[l e p]
    ·rw[bW.mp p];unfold eV;rw[aG b,aB rfl]
  ·unfold bE;split
   ·exact C
   ·rename_i b;exact cF.mpr ⟨C,er _ _,λe c t f p=>b (by rw[<-bW.mp f,<-p];exact l e c)⟩
theorem IV(Tf:f4 F)(h:∀a∈L,gZ F a):(ew (L++df F) (λc=>c,[])).2.Nodup/\(ew (L++df F) (λc=>c,[])).2.length+1=F.length/\sy F (ew (L++df F) (λc=>c,[])).2:=by
 have j:∀a∈L++df F,a.1∈F/\a.2∈F:=λa d=>by
  rcases cx.mp d with d|d
  ·exact⟨(h a d).1,(h a d).2.1⟩
  ·exact⟨(iq.mp d).1,(iq.mp d).2.1⟩
 obtain⟨Tt,Y,q,Y⟩:=zi Tf.ah (L++df F) (λc=>c,[]) (j_.start F) j;have all:∀g∈F,∀c∈F,(ew (L++df F) (λc=>c,[])).1 g=(ew (L++df F) (λc=>c,[])).1 c:=Tf.con _ λg b c e f=>q (g,c) (dH _<|iq.mpr ⟨b,e,f⟩);refine⟨Dx _ _ (λ_ f=>nomatch f) io,z6 Tt Tf.ah Tf.ne all,λp i g b c e=>?_⟩;rw[<-Tt.gen p i g b,<-Tt.gen p i c e,all g b c e]
theorem Hr{TI TX:bj}{r:mG×aU}(d:TI w=Z r):m6 TI TX w=Z r:=by unfold m6;rw[d]
theorem y2:∀S0 L:List a4,e2 (S0.map aC) (L.map aC)=decide (S0=L)
 |[],[]=>rfl
 |[],_::_=>rfl
 |_::_,[]=>rfl
 |g::S0,c::L=>by
  rw[ci,ci,e2,y2 S0 L,w5,<-Bool.decide_and];exact sW.mpr (by rw[ND])
theorem wj(S0 L:List a4):dM (.im<|.tup<|S0.map aC) (.im<|.tup<|L.map aC)=Z (cm<|decide (S0=L)):=by
 show (if (ab.cQ 7 (S0.map aC)&&ab.cQ 7 (L.map aC))=aa then Z (aj.im<|.ax<|e2 (S0.map aC)<|L.map aC) else X)=_;rw[vP,vP,aB<|show (aa&&aa)=aa from rfl,y2]
theorem MA(S0 L:List a4):eZ (aS S0) (aS L)=Z (cm<|!decide (S0=L)):=by
 show (if (ab.cQ 8 (S0.map aC)&&ab.cQ 8 (L.map aC))=aa then Z (aj.im<|.ax<|!e2 (S0.map aC) (L.map aC)) else X)=_;rw[t6,t6,aB<|show (aa&&aa)=aa from rfl,y2]
theorem A8(N:gF F aA)(r:L.length<=100):∃c,gw Ts T4 [aX aA,.im<|.tup<|L.map aC]=Z (cm c,[aX aA,.im<|.tup<|L.map aC])/\(c=aa↔ss F L):=by
 have ax:=N.B.len;have C:(df F).length<=2*F.length:=pE F F;have n:=N.field T4;have f6:=B3 (P:=Ts) (L:=L) (by lia);unfold gw nk;cases j:so (L.map aC) with
 |false=>
  rw[j]at f6;refine⟨al,ej (w:=[Z (aX aA),Z<|.im<|.tup<|L.map aC,X,X]) rfl (kA<|it (hb (h7<|e8 (aE<|cC (S3:=[.aW 0]) rfl rfl rfl n rfl) rfl rfl)<|oR<|e8 (aE<|cC (S3:=[.aW 1,.b8<|.im<|.fn Ts]) rfl rfl rfl f6 rfl) rfl rfl)<|d5 rfl) rfl,λf=>(by cases f),λB=>?_⟩;rw[show so (L.map aC)=aa from A_ B.up]at j;cases j
 |true=>
  rw[j]at f6;have s:ga (fD<|fv<|V<|bq 1 (G.jT T4)<|ag (af 0) am) (fD<|fv<|V<|bq 2 (G.kH Ts)<|ag (af 1)<|ag (V<|aq<|.fn Ts) am) [Z (aX aA),Z<|.im<|.tup<|L.map aC,X,X]=Z (al,[Z (aX aA),Z<|.im<|.tup<|L.map aC,X,X]):=
   hb (h7<|e8 (aE<|cC (S3:=[.aW 0]) rfl rfl rfl n rfl) rfl rfl) (h7<|e8 (aE<|cC (S3:=[.aW 1,.b8<|.im<|.fn Ts]) rfl rfl rfl f6 rfl) rfl rfl);obtain⟨w,k⟩:∃w:aU,w=[Z (aX aA),Z<|.im<|.tup<|L.map aC,Z<|aX F,Z<|.aL<|fc<|df F]:=⟨_,rfl⟩;have o:cJ 1 [3] (cA<|af 1) (bb 0) d2 (xf Ts T4) w=Z (.lst<|L.map λa=>.ax<|decide (a∈df F),w):=by
   rw[k];refine jS (x:=L.map aC) (m:=X) (z:=[Z (aX aA),Z<|.im<|.tup<|L.map aC,Z<|aX F,Z<|.aL<|fc<|df F]) rfl (jA aC (λa=>.ax<|decide (a∈df F)) _ (λe D=>?_) (by lia)) rfl;exact⟨[Z (.im<|aC e),Z<|.aL<|fc<|df F],_,[Z (.im<|aC e),Z<|.aL<|fc<|df F],rfl,rfl,aQ rfl rfl rfl rfl<|Id (df F) e,rfl⟩
  have l:=nD (λa:a4=>decide (a∈df F)) L;have fin:∀c,ei (bg<|bn h3<|ag (V<|cJ 1 [3] (cA<|af 1) (bb 0) d2<|G.xf Ts T4) am) (bg<|ap dM (V<|bq 2 G.o9<|ag (af 2)<|ag (af 1) am)<|af 1) w=Z (c,w)->c6 2 4 [0,1] (nk Ts T4) [aX aA,.im<|.tup<|L.map aC]=Z (cm c,[aX aA,.im<|.tup<|L.map aC]):=λc t=>by
   unfold nk;refine ej (w:=w) rfl (cg (gX s rfl) (cg (z:=[Z (aX aA),Z<|.im<|.tup<|L.map aC,Z<|aX F,X]) (Hr<|fh (cC (S3:=[.aW 0]) rfl rfl rfl N.blocks rfl) (dS rfl) rfl) (cg (z:=w) (by
    rw[k];exact fh (cC (S3:=[.b8 (aS<|df F)]) (a1 (aE<|cC (S3:=[.aW 2]) rfl rfl rfl (A1 N.B) rfl) rfl) rfl rfl (NT (yU N.B.ah) (by lia)) rfl) (dS rfl) rfl)<|d5<|r7 t))) (by rw[k];rfl)
  cases h:L.all λa=>decide (a∈df F) with
  |false=>
   rw[h]at l;refine⟨al,fin al<|oI<|dg<|dv (a1 (aE o) rfl) rfl l,λf=>(by cases f),λB=>?_⟩;rw[fk.mpr λa i=>cU<|iq.mpr<|B.eS a i]at h;cases h
  |true=>
   rw[h]at l;have eS:∀a∈L,gZ F a:=λa i=>iq.mp (dT<|fk.mp h a i);obtain⟨q,TP,u⟩:=IV N.B eS;obtain⟨S0,Te,b,v⟩:=Q5 q (by lia);have y:=KB N.B eS r b;refine⟨decide (S0=L),fin _ (kQ (dg<|dv (a1 (aE o) rfl) rfl l) (dg (by
    rw[k];exact aQ (aE<|cC (S3:=[.aW 2,.aW 1]) rfl rfl rfl y rfl) rfl rfl rfl (wj S0 L)))),λf=>?_,λB=>cU ?_⟩
   ·have a:=dT f;subst a;exact⟨eS,Te.nodup_iff.mpr q,v,by rw[Te.length_eq];exact TP,λp A=>u p λa i=>A a<|Te.mem_iff.mpr i⟩
   ·rw[Ox N.B B.eS B.len B.sp,Ou B.ah (by lia) B.up]at b;injection b with b;injection b with b;exact ((F7 λg c d=>y9 d).mp b).symm
theorem Cv:∀SY:List (List ab),(∀o∈SY,∃a:a4,o=dt a)->∃I:List a4,SY=I.map dt
 |[],_=>⟨[],rfl⟩
 |o::SY,d=>by
  obtain⟨a,rfl⟩:=d o (.head _);obtain⟨I,rfl⟩:=Cv SY λe b=>d e (.tail _ b);exact⟨a::I,rfl⟩
theorem M5{J:av (List bl)}{S3:List bl}(p:L.length<=100)(j:J w=Z (S3,z))(k:fX z S3=Z [.im (.tup<|L.map aC)]):∃S0,lV J w=Z (aS S0,z)/\la S0/\S0.Nodup:=by
 have m:(L.map dt).map ab.tup=L.map aC:=by rw[gJ];rfl
 obtain⟨I,b⟩:=Cv (fI<|L.map dt) λo c=>by
  obtain⟨a,Y,rfl⟩:=cX.mp (Dd.mp c);exact⟨a,rfl⟩
 have g:I.Nodup:=by
  have:=BY (L.map dt);rw[b]at this;exact (n5.mp this).imp λd a=>d (congrArg dt a)
 have q:I.length<=100:=by
  have:=(BY<|L.map dt).length_le_of_subset (λe n=>Dd.mp n);rw[b,a5,a5]at this;lia
 have h:(I.map dt).map ab.tup=I.map aC:=by rw[gJ];rfl
 have f:=qt g (by lia);obtain⟨T,Te,i⟩:=ve (hC<|I.map aC);refine⟨T,?_,?_,Te.nodup_iff.mpr g⟩
 ·unfold lV;rw[j];show (fX z S3).bind _=_;rw[k];show (mP<|L.map aC).bind _=_;rw[<-m,vZ];have l:pW (L.map dt)=aa:=by
   rw[yX,b,a5];refine⟨λo c=>?_,by lia⟩;obtain⟨a,Y,rfl⟩:=cX.mp c;rfl
  have C:o3 ((fI<|L.map dt).map .tup)=aa:=by
   rw[b,h];exact kT.mpr f
  refine (aB ⟨l,C⟩).trans ?_;rw[b,h,i]
 ·unfold la;rw[<-i];exact m0 f.1.3 f.1.2
theorem IP(eS:∀a∈L,gZ F a)(ah:L.Nodup)(e:aD):(eK L e).Nodup:=by
 refine cF.mpr ⟨rK (ah.sublist vt) λg b c d z=>?_,rK (ah.sublist vt) λg b c d z=>?_,λt i z j a=>?_⟩
 ·exact i_ ((dT (ge.mp b).2).trans (dT (ge.mp d).2).symm) z
 ·exact i_ z ((dT (ge.mp b).2).trans (dT (ge.mp d).2).symm)
 ·subst a;obtain⟨g,b,rfl⟩:=cX.mp i;obtain⟨c,d,k⟩:=cX.mp j;have TP:=dT (ge.mp b).2;have b3:=dT (ge.mp d).2;have f:=(eS g (ge.mp b).1).2.2;have h:=(eS c (ge.mp d).1).2.2;rw[TP]at f;rw[b3,k]at h;rcases f with z|z<;>rcases h with D|D<;>
   (have l:=congrArg Prod.fst z;have m:=congrArg Prod.snd z;have n:=congrArg Prod.fst D;have o:=congrArg Prod.snd D;simp only at l m n o;lia)
structure mg(F:List aD)(L:List a4)(met:List aD)(o:Nat):Prop where
 Y:h6 F L met o
 con:∀p:aD->aD,(∀a∈L,p a.1=p a.2)->∀m,F[0]?=Z m->∀e∈met,p e=p m
theorem mg.next{q:aD}(Tt:mg F L met o)(eS:∀a∈L,gZ F a)(ah:L.Nodup)(i:met[o]?=Z q):mg F L (met++(eK L q).filter λe=>!decide (e∈met)) (o+1):=by
 have Y:=Tt.Y;refine⟨⟨cF.mpr ⟨Y.ah,(IP eS ah q).sublist vt,λe c t f a=>?_⟩,λe c=>?_,λm g=>dI _<|Y.fst m g,λb e SJ c t f=>?_⟩,λp h m g e c=>?_⟩
 ·subst a;have:=(ge.mp f).2;rw[cU c]at this;cases this
 ·rcases cx.mp c with d|d
  ·exact Y.sub e d
  ·rcases sr.mp (ge.mp d).1 with z|z
   ·exact (eS _ z).2.1
   ·exact (eS _ z).1
 ·have k:=(fw.mp i).1;have j:met[b]?=Z e:=by rwa [lf (by lia)]at c
  by_cases z:b<o
  ·exact dI _ (Y.cl b e z j t f)
  ·have:b=o:=by lia
   subst this;rw[i]at j;cases j;by_cases D:t∈met
   ·exact dI _ D
   ·exact dH _ (ge.mpr ⟨f,by rw[dA D];rfl⟩)
 ·rcases cx.mp c with d|d
  ·exact Tt.con p h m g e d
  ·have:=Tt.con p h m g q (e5 i);rcases sr.mp (ge.mp d).1 with z|z
   ·rw[<-this];exact (h _ z).symm
   ·rw[<-this];exact h _ z
theorem mg.all(Tt:mg F L met o)(Tf:f4 F)(d:met.length=F.length):sy F L:=by
 obtain⟨m,a⟩:∃m,F[0]?=Z m:=by
  cases F with
  |nil=>exact absurd rfl Tf.ne
  |cons c r=>exact⟨c,rfl⟩
 have Te:=AG Tt.Y.ah Tt.Y.sub (by lia);intro p b g e c f;rw[Tt.con p b m a g (Te.mem_iff.mpr e),Tt.con p b m a c<|Te.mem_iff.mpr f]
theorem I0(Tf:f4 F)(H:L.length<=100):∃c,nG [aP F,.im<|.tup<|L.map aC]=Z (cm c,[aP F,.im<|.tup<|L.map aC])/\(c=aa↔ss F L):=by
 have ax:=Tf.len;obtain⟨SO,Q,Te⟩:=yN Tf;have M:bL 2 (bq 1 G.l9<|ag (af 0) am) [Z (aP F),Z<|.im<|.tup<|L.map aC,X,X,X,X]=Z (.aZ,[Z (aP F),Z<|.im<|.tup<|L.map aC,Z<|aS SO,X,X,X]):=fh (cC (S3:=[.aW 0]) rfl rfl rfl Q rfl) (dS rfl) rfl;obtain⟨w,f⟩:∃w:aU,w=[Z (aP F),Z<|.im<|.tup<|L.map aC,Z<|aS SO,X,X,X]:=⟨_,rfl⟩;have N:cJ 1 [2] (cA<|af 1) (bb 0) d2 tL w=Z (.lst<|L.map λa=>.ax<|decide (a∈SO),w):=by
  rw[f];refine jS (x:=L.map aC) (m:=X) (z:=[Z (aP F),Z<|.im<|.tup<|L.map aC,Z<|aS SO,X,X,X]) rfl (jA aC (λa=>.ax<|decide (a∈SO)) _ (λe s=>?_) (by lia)) rfl;exact⟨[Z (.im<|aC e),Z<|aS SO],_,[Z (.im<|aC e),Z<|aS SO],rfl,rfl,aQ rfl rfl rfl rfl<|K1 SO e,rfl⟩
 have t:=nD (λa:a4=>decide (a∈SO)) L;obtain⟨S0,O,R,S⟩:=M5 (L:=L) (J:=ag (af 1) am) (w:=w) (z:=w) (S3:=[.aW 1]) H (by rw[f];rfl) (by rw[f];rfl);have j:bg (ap eZ (V<|bn lu<|ag (af 1) am)<|V<|lV<|ag (af 1) am) w=Z (!decide (L=S0),w):=by
  have T:bn lu (ag (af 1) am) w=Z (aS L,w):=by rw[f];exact dv (a1 rfl rfl) rfl rfl
  exact dg (aQ (aE T) (aE O) rfl rfl<|MA L S0)
 have u:bg (ap eZ (V<|bn cZ<|ag (af 1) am)<|V<|ap iR (V<|bn cZ<|ag (af 0) am)<|V<|aq<|.int 1) w=Z (!decide ((L.length:Int)=(F.length:Int)-1),w):=by
  rw[f];exact dg (aQ (aE<|dv (a1 rfl rfl) rfl<|Bx L) (aE<|aQ (aE<|dv (a1 rfl rfl) rfl<|mi F) rfl rfl rfl rfl) rfl rfl<|Ci _ _)
 have y:ga (fD<|fv<|V<|bn h3<|ag (V<|cJ 1 [2] (cA<|af 1) (bb 0) d2 G.tL) am) (ga (bg<|ap eZ (V<|bn lu<|ag (af 1) am)<|V<|lV<|ag (af 1) am)<|bg<|ap eZ (V<|bn cZ<|ag (af 1) am)<|V<|ap iR (V<|bn cZ<|ag (af 0) am)<|V<|aq<|.int 1) w=Z (aa,w)->
   nG [aP F,.im<|.tup<|L.map aC]=Z (cm al,[aP F,.im<|.tup<|L.map aC]):=λd=>by
  unfold nG wE;refine ej (w:=w) rfl (cg M ?_) (by rw[f];rfl);rw[<-f];exact kA (it d<|d5 rfl)
 cases k:L.all λa=>decide (a∈SO) with
 |false=>
  rw[k]at t;refine⟨al,y<|r0<|oR<|e8 (aE<|dv (a1 (aE N) rfl) rfl t) rfl rfl,λh=>(by cases h),λB=>?_⟩;rw[fk.mpr λa A=>cU<|Te.mem_iff.mpr<|iq.mpr<|B.eS a A]at k;cases k
 |true=>
  rw[k]at t;have eS:∀a∈L,gZ F a:=λa A=>iq.mp (Te.mem_iff.mp<|dT<|fk.mp k a A);have C:fD (fv<|V<|bn h3<|ag (V<|cJ 1 [2] (cA<|af 1) (bb 0) d2 G.tL) am) w=Z (al,w):=h7 (e8 (aE<|dv (a1 (aE N) rfl) rfl t) rfl rfl);by_cases l:L=S0
  case neg=>
   rw[dA l]at j;refine⟨al,y<|hb C<|r0 j,λh=>(by cases h),λB=>absurd ?_ l⟩;have P:=Of (J:=ag (af 1) am) (w:=w) (z:=w) (S3:=[.aW 1]) B.ah H B.up (by rw[f];rfl) (by rw[f];rfl);rw[O]at P;injection P with h;injection h with h;injection h with h;exact ((F7 λg c d=>y9 d).mp h).symm
  case pos=>
   rw[cU l]at j;have ah:L.Nodup:=l ▸ S;have U:la L:=l ▸ R;by_cases E:(L.length:Int)=(F.length:Int)-1
   case neg=>
    rw[dA E]at u;exact⟨al,y<|hb C<|hb j u,λh=>(by cases h),λB=>absurd (by have:=B.len;lia) E⟩
   case pos=>
    rw[cU E]at u;have SX:jO (aP F) X (Z 1)=Z (aP<|F.take 1):=by
     show Z (aj.lst<|e6 (F.map ar) X<|Z ((1:Nat):Int))=_;rw[L6,<-iu]
    have be:kq 3 4 (ag (V<|eQ (af 0) fg<|fp<|aq<|.int 1)<|ag (V<|aq<|.int 0) am) w=Z (.aZ,gH F L SO (F.take 1) 0 X):=by
     rw[f];exact vM (a1 (aE<|g4 rfl rfl rfl rfl SX)<|a1 rfl rfl) rfl (dS rfl) (dS rfl) rfl
    have bs:mg F L (F.take 1) 0:=⟨⟨Tf.ah.sublist<|op _ _,λe s=>lW s,λm n=>by
     cases F with
     |nil=>cases n
     |cons c r=>cases n;exact .head _,λb e SJ=>absurd SJ<|pr b⟩,λp W m n e s=>by
     cases F with
     |nil=>cases n
     |cons c r=>
      cases n;rw[bW.mp s]⟩
    obtain⟨S4,D,met,o,TC,rfl,Tt,v⟩:=xs (q:=uD) (c:=GA) (λi w=>∃(o:Nat) (met:List aD) (TC:Option aj),w=gH F L SO met (o:Int) TC/\mg F L met o/\i=F.length-o)
     (λw=>∃(met:List aD) (o:Nat) (TC:Option aj),w=gH F L SO met (o:Int) TC/\mg F L met o/\met.length<=o) (λi w ⟨o,met,TC,f,Tt,co⟩=>by
      subst f;have eq:met.length<=F.length:=Tt.Y.ah.length_le_of_subset Tt.Y.sub;have ca:uD (gH F L SO met (o:Int) TC)=Z (decide ((o:Int)<(met.length:Int)),gH F L SO met (o:Int) TC):=by
       unfold uD;exact dg (aQ rfl (aE<|dv (a1 rfl rfl) rfl<|mi met) rfl rfl rfl)
      refine⟨_,_,ca,λbt=>?_,λcl=>⟨met,o,TC,rfl,Tt,by have:=of_decide_eq_false cl;lia⟩⟩;have v:o<met.length:=by have:=dT bt;lia
      exact⟨_,_,Ic (dh v) (by lia) (by lia) TC,.inl rfl,F.length-(o+1),by lia,o+1,_,_,rfl,Tt.next eS ah<|dh v,rfl⟩) 1000000 F.length (gH F L SO (F.take 1) 0 X) ⟨0,F.take 1,X,rfl,bs,rfl⟩ (by lia)
    refine⟨decide ((met.length:Int)=(F.length:Int)),?_,λh=>⟨eS,ah,U,by lia,Tt.all Tf (by have:=dT h;lia)⟩,λB=>cU (by rw[Tt.Y.full B Tf.ah Tf.ne v])⟩;unfold nG wE;refine ej (w:=gH F L SO met (o:Int) TC) rfl (cg M ?_) rfl;rw[<-f];exact cg (gX (hb C<|hb j u) rfl) (cg be<|cg D<|d5<|aQ (aE<|dv (a1 rfl rfl) rfl<|mi met) (aE<|dv (a1 rfl rfl) rfl<|mi F) rfl rfl<|mK _ _)
abbrev bM(L:List a4):aj:=.im (.tup<|L.map aC)
noncomputable abbrev hz(d:aj)(F:List aD)(L:List a4)(a TK TC TL A TS b c e f:Option aj):aU:=[Z d,Z<|aP F,Z<|bM L,a,TK,TC,TL,A,TS,b,c,e,f]
theorem Bq(L:List a4)(S SJ:Option Int):jO (bM L) S SJ=Z (bM<|e6 L S SJ):=by
 show Z (aj.im<|.tup<|e6 (L.map aC) S SJ)=_;unfold e6;rw[a5,<-iv,<-iu]
theorem RE(L:List a4)(S SJ:Option Int):(e6 L S SJ).length<=L.length:=by
 unfold e6;rw[gb,e4];lia
theorem rB{Tf:List a4}(d:O.length+Tf.length<=100000):bH (bM O) (bM Tf)=Z (bM<|O++Tf):=by
 rw[show bM (O++Tf)=.im (.tup<|O.map aC++Tf.map aC) by rw[bM,fe]];exact aB (by rw[a5,a5];exact d)
theorem xG(a:O.length<=1000):∃S0:List a4,S0.Perm O/\pQ [bM O]=Z (aS S0):=by
 obtain⟨T,Te,b⟩:=ve (hC<|O.map aC);refine⟨T,Te,?_⟩;have d:n0 (O.map aC)=aa:=wD.mpr ⟨⟨by rw[a5];exact a,λg f c h=>by
  obtain⟨e,Y,rfl⟩:=cX.mp f;obtain⟨t,Y,rfl⟩:=cX.mp h;rfl⟩,.inr λk hd=>by
  obtain⟨e,Y,rfl⟩:=cX.mp hd;rfl⟩
 show (if n0 (O.map aC)=aa then Z (aj.lst<|fl bx<|O.map aC) else X)=_;rw[aB d,b]
theorem Na(L:List a4):cZ [aS L]=Z (aF (L.length:Int)):=by
 show Z (aF ((L.map aC).length:Int))=_;rw[a5]
theorem NS(a:List (List a4)):cZ [.lst (a.map λO=>.tup<|O.map aC)]=Z (aF (a.length:Int)):=by
 show Z (aF ((a.map λO=>ab.tup<|O.map aC).length:Int))=_;rw[a5]
theorem rR{Ta:Type}{H:List Ta}{s:Int}(TN:0<=s)(d:s<(H.length:Int)):∃e∈H,H[s.toNat]?=Z e:=by
 have a:s.toNat<H.length:=by lia
 exact⟨H[s.toNat],qe a,dh a⟩
theorem O4{J:av bl}{e:bl}(a:J w=Z (e,z))(b:cV z e=Z (.im<|.tup H)):qB J w=Z (.im<|.tup H.reverse,z):=by
 unfold qB;rw[a];show (cV z e).bind _=_;rw[b];rfl
theorem OQ(Tf:f4 F)(h:eF (v+5) d)(Ub:L.length<=40):∃U p,u2 [d,aP F,bM L]=Z (bM p,[U,aP F,bM L])/\eF v U/\p.length<=100:=by
 have ax:=Tf.len;have S6:=nC.mpr Tf.ne;obtain⟨SO,s2,Te⟩:=yN Tf;have bk:SO.length<=80:=by
  have:(df F).length<=2*F.length:=pE F F;rw[Te.length_eq];lia
 obtain⟨S7,l,ty,eq,cz,SU⟩:=ih (i:=(F.length:Int)) h (by lia) (by lia);obtain⟨S8,C,Tv,TP,b3,S5⟩:=ih (i:=(F.length:Int)) SU (by lia) (by lia);obtain⟨b,S9,un⟩:=rR eq cz;obtain⟨e,S_,Tc⟩:=rR TP b3;obtain⟨f,B⟩:∃f:List a4,f=SO++[(b,e),(e,b),(b,(b.1,b.2+2)),(b,(b.1,b.2+1))]:=⟨_,rfl⟩;have Ta:f.length=SO.length+4:=by rw[B,cb];rfl
 obtain⟨Tb,Td,up,ex,rn,N⟩:=ih (i:=(f.length:Int)) S5 (by lia) (by lia);obtain⟨one,Tg,TE⟩:=rR ex rn;obtain⟨P,rfl⟩:=h.lst;obtain⟨Gt,rfl⟩:=SU.lst;obtain⟨D,rfl⟩:=S5.lst;obtain⟨Q,rfl⟩:=N.lst;have ad:bH (aS SO) (aS [(b,e),(e,b),(b,(b.1,b.2+2)),(b,(b.1,b.2+1))])=Z (aS f):=by
  rw[show aS f=.lst (SO.map aC++[(b,e),(e,b),(b,(b.1,b.2+2)),(b,(b.1,b.2+1))].map aC) by rw[B,aS,fe]];exact aB (by rw[a5,a5];show SO.length+4<=_;lia)
 suffices M:kX zE (hz (.lst P) F L X X X X X X X X X X) λr w=>∃U p,r=bM p/\h8 [0,1,2] [.lst P,aP F,bM L] w 0=[U,aP F,bM L]/\eF v U/\p.length<=100 by
  obtain⟨Y,w,a,U,p,rfl,B,g,c⟩:=M;exact⟨U,p,ej rfl a B,g,c⟩
 unfold zE;refine fV (z:=hz (.lst P) F L (Z<|aS SO) X X X X X X X X X) (fh (cC (S3:=[.aW 1]) rfl rfl rfl s2 rfl) (dS rfl) rfl) ?_;refine fV (z:=hz (.lst D) F L (Z<|aS SO) (Z<|.im<|aC (b,e)) X X X X X X X X) (i2 (yo (z:=hz (.lst D) F L (Z<|aS SO) X X X X X X X X X) (dE (z:=hz (.lst Gt) F L (Z<|aS SO) X X X X X X X X X) (c2<|fm rfl (c2<|cC (S3:=[.aW 0,.b8<|aF (F.length:Int)]) (dE rfl<|dE (c2<|kN (dE rfl rfl) rfl<|mi F) rfl) rfl rfl ty rfl) rfl rfl<|congrArg (Option.map aj.im)<|ot eq un)<|dE (c2<|fm rfl (c2<|cC (S3:=[.aW 0,.b8<|aF (F.length:Int)]) (dE rfl<|dE (c2<|kN (dE rfl rfl) rfl<|mi F) rfl) rfl rfl Tv rfl) rfl rfl<|congrArg (Option.map aj.im)<|ot TP Tc) rfl) rfl (dN rfl) rfl) (dS rfl) rfl) ?_;refine fV (z:=hz (.lst D) F L (Z<|aS SO) (Z<|.im<|aC (b,e)) (Z<|aF b.1) (Z<|aF b.2) X X X X X X) (hI rfl rfl) ?_;refine fV (z:=hz (.lst D) F L (Z<|aS SO) (Z<|.im<|aC (b,e)) (Z<|aF b.1) (Z<|aF b.2) (Z<|aS f) X X X X X) (fh (aQ rfl (aE (k:=aS [(b,e),(e,b),(b,(b.1,b.2+2)),(b,(b.1,b.2+1))]) rfl) rfl rfl ad) (dS rfl) rfl) ?_;generalize Z (aS SO)=j;generalize Z (aj.im<|aC (b,e))=m;generalize Z (aF b.1)=n;generalize Z (aF b.2)=o;refine fV (z:=hz (.lst Q) F L j m n o (Z<|aS f) (Z<|.im<|aC one) X X X X) (i2 (fm rfl (c2<|cC (S3:=[.aW 0,.b8<|aF (f.length:Int)]) (dE rfl<|dE (c2<|kN (dE rfl rfl) rfl<|Na f) rfl) rfl rfl up rfl) rfl rfl (congrArg (Option.map aj.im) (pL ex (by rw[d3,TE];rfl)))) (dS rfl) rfl) ?_;generalize Z (aS f)=q;have E:bg (ap dM (af 2)<|V<|bv am) (hz (.lst Q) F L j m n o q (Z<|.im<|aC one) X X X X)=Z (decide (L=[]),hz (.lst Q) F L j m n o q (Z<|.im<|aC one) X X X X):=
  dg (aQ rfl (aE (k:=bM []) rfl) rfl rfl<|wj L []);by_cases R:L=[]
 ·rw[cU R]at E;exact C3 E (rd (k:=bM [one]) rfl ⟨_,_,rfl,rfl,N.mono (by lia),dN rfl⟩)
 rw[dA R]at E;refine ww E ?_;have Th:=nC.mpr R;obtain⟨s,Ti,If,fd,Is,fn⟩:=ih (i:=(L.length:Int)) N (by lia) (by lia);obtain⟨G,Tj,Lt⟩:=rR fd Is;obtain⟨x,rfl⟩:=fn.lst;have y:∀S SJ,∃O:List a4,O.length<=40/\jO (bM L) S SJ=Z (bM O):=λS SJ=>⟨_,ed (RE L S SJ) Ub,Bq L S SJ⟩;obtain⟨T,H,be⟩:=y X (Z s);obtain⟨bs,f1,cl⟩:=y (Z<|s+1) X;obtain⟨go,Tk,g1⟩:=y (Z<|-1) X;obtain⟨Ok,Tl,SK⟩:=y X (Z<|-1);obtain⟨SL,SM,SN⟩:=y (Z 1) X;refine fV (z:=hz (.lst x) F L j m n o q (Z<|.im<|aC one) (Z<|aF s) X X X) (i2 (cC (S3:=[.aW 0,.b8<|aF (L.length:Int)]) (dE rfl<|dE (c2<|kN (dE rfl rfl) rfl<|Bx L) rfl) rfl rfl If rfl) (dS rfl) rfl) ?_;obtain⟨mk,hd⟩:∃O,O=T++[one]++bs:=⟨_,rfl⟩;obtain⟨cK,mb⟩:∃O,O=T++[(G.2,G.1)]++bs:=⟨_,rfl⟩;have SP:mk.length<=81:=by rw[hd,cb,cb];show _+1+_<=_;lia
 have SR:cK.length<=81:=by rw[mb,cb,cb];show _+1+_<=_;lia
 obtain⟨mp,Ts,SS⟩:=xG (O:=L++[one]) (by rw[cb];show _+1<=_;lia);obtain⟨of,SV,SW⟩:=xG (O:=mk) (by lia);obtain⟨on,SX,SY⟩:=xG (O:=cK) (by lia);have TZ:mp.length<=81:=by rw[Ts.length_eq,cb];show _+1<=_;lia
 have Tn:of.length<=81:=by rw[SV.length_eq];exact SP
 have To:on.length<=81:=by rw[SX.length_eq];exact SR
 have pm:∀(O Tf az:List a4) (a:a4),O.length<=40->Tf.length<=40->az=O++[a]++Tf->bH (bM<|O++[a]) (bM Tf)=Z (bM az):=λO Tf az a SZ Tp S0=>by
  rw[S0];exact rB (by rw[cb];show _+1+_<=_;lia)
 have A:∀(O:List a4) (a:a4),O.length<=40->bH (bM O) (bM [a])=Z (bM<|O++[a]):=λO a SZ=>rB (by show _+1<=_;lia);refine fV (z:=hz (.lst x) F L j m n o q (Z<|.im<|aC one) (Z<|aF s) (Z<|bM mk) X X) (fh (aQ (aE<|aQ (aE<|g4 rfl rfl rfl rfl be) (aE (k:=bM [one]) rfl) rfl rfl<|A _ _ H) (aE<|g4 rfl rfl rfl rfl cl) rfl rfl<|pm _ _ _ _ H f1 hd) (dS rfl) rfl) ?_;refine fV (z:=hz (.lst x) F L j m n o q (Z<|.im<|aC one) (Z<|aF s) (Z<|bM mk) (Z<|bM cK) X) (fh (aQ (aE (aQ (aE<|g4 rfl rfl rfl rfl be) (aE (k:=bM [(G.2,G.1)]) (hV (a1 (aE (O4 (aE (aQ rfl rfl rfl rfl (congrArg (Option.map aj.im) (pL fd (by rw[d3,Lt];rfl))))) rfl)) rfl) rfl (dN rfl) rfl)) rfl rfl<|A _ _ H)) (aE<|g4 rfl rfl rfl rfl cl) rfl rfl<|pm _ _ _ _ H f1 mb) (dS rfl) rfl) ?_;obtain⟨t,I⟩:∃W:List (List a4),W=[T++bs,mp,L++go,of,mk,cK]:=⟨_,rfl⟩;obtain⟨u,J⟩:∃W:List (List a4),W=[on,go++Ok,L++[one],SL++[one]]:=⟨_,rfl⟩;have pt:bH (.lst<|t.map λO=>.tup<|O.map aC) (.lst<|u.map λO=>.tup<|O.map aC)=Z (.lst<|(t++u).map λO=>.tup<|O.map aC):=by
  rw[fe];exact aB (by rw[a5,a5,I,J];exact dN rfl)
 have Tq:(t++u).length=10:=by rw[I,J];rfl
 obtain⟨Tr,Tt,S1,sp,S2,s1⟩:=ih (i:=((t++u).length:Int)) fn (by lia) (by lia);obtain⟨SQ,co,S4⟩:=rR sp S2;obtain⟨Tu,rfl⟩:=s1.lst;have eV:SQ.length<=100:=by
  rw[I,J]at co;have Tw:([one]:List a4).length=1:=rfl;simp only[cx,bI,fZ,hk]at co;rcases co with (rfl|rfl|rfl|rfl|rfl|rfl)|(rfl|rfl|rfl|rfl)<;>(try rw[cb])<;>lia
 refine fV (z:=hz (.lst x) F L j m n o q (Z<|.im<|aC one) (Z<|aF s) (Z<|bM mk) (Z<|bM cK) (Z<|.lst<|t.map λO=>.tup<|O.map aC)) (by
  rw[I];exact fh (ox (a1 (aE (aQ (aE<|g4 rfl rfl rfl rfl be) (aE<|g4 rfl rfl rfl rfl cl) rfl rfl (rB (by lia)))) (a1 (aE<|mT<|dv (a1 (aE<|aQ rfl (aE (k:=bM [one]) rfl) rfl rfl<|A L one Ub) rfl) rfl SS) (a1 (aE (aQ rfl (aE<|g4 rfl rfl rfl rfl g1) rfl rfl (rB (by lia))))<|a1 (aE<|mT<|dv (a1 rfl rfl) rfl SW)<|a1 rfl<|a1 rfl rfl))) rfl (dN rfl) rfl) (dS rfl) rfl) ?_
 refine fV (z:=hz (.lst x) F L j m n o q (Z<|.im<|aC one) (Z<|aF s) (Z<|bM mk) (Z<|bM cK) (Z<|.lst<|(t++u).map λO=>.tup<|O.map aC)) (by
  rw[J]at pt ⊢;exact fh (aQ rfl (aE (ox (a1 (aE<|mT<|dv (a1 rfl rfl) rfl SY) (a1 (aE (aQ (aE<|g4 rfl rfl rfl rfl g1) (aE<|g4 rfl rfl rfl rfl SK) rfl rfl (rB (by lia))))<|a1 (aE<|aQ rfl (aE (k:=bM [one]) rfl) rfl rfl<|A L one Ub)<|a1 (aE<|aQ (aE<|g4 rfl rfl rfl rfl SN) (aE (k:=bM [one]) rfl) rfl rfl<|A _ _ SM) rfl)) rfl (dN rfl) rfl)) rfl rfl pt) (dS rfl) rfl) ?_
 exact rd (fm rfl (c2<|cC (S3:=[.aW 0,.b8<|aF ((t++u).length:Int)]) (dE rfl<|dE (c2<|kN (dE rfl rfl) rfl<|NS _) rfl) rfl rfl S1 rfl) rfl rfl (congrArg (Option.map aj.im) (pL sp (by rw[d3,S4];rfl)))) ⟨_,_,rfl,rfl,s1,eV⟩
def b3(k:ab):Bool:=match jo [.im k] with
 |some (.im<|.ax s,_)=>s
 |_=>al
theorem Ed(j:H.length<=1000)(d:∀k∈H,∃s,jo [.im k]=Z (cm s,[.im k])){e:ab}(b:e∈H)(f:jo [.im e]=Z (cm al,[.im e])):
  kH P [.im (.tup H),.im<|.fn P]=Z (cm al,[.im (.tup H),.im<|.fn P]):=by
 have g:∀k∈H,jo [.im k]=Z (cm<|b3 k,[.im k]):=λk hd=>by
  obtain⟨s,a⟩:=d k hd;unfold b3;rw[a]
 have E:H.all b3=al:=by
  cases h:H.all b3 with
  |false=>rfl
  |true=>
   have:=fk.mp h e b;unfold b3 at this;rw[f]at this;cases this
 have i:cJ 1 [1] (cA<|af 0) (bb 0) d2 (qE P) [Z (.im<|.tup H),Z<|.im<|.fn P]=Z (.lst<|H.map λk=>.ax<|b3 k,[Z (.im<|.tup H),Z<|.im<|.fn P]):=by
  refine jS (x:=H.map id) (m:=X) (z:=[Z (.im<|.tup H),Z<|.im<|.fn P]) (by rw[rs];rfl) (jA id (λk=>.ax<|b3 k) _ (λe b=>?_) (by lia)) rfl;refine⟨[Z (.im e),Z<|.im<|.fn P],_,[Z (.im e),Z<|.im<|.fn P],rfl,rfl,?_,rfl⟩;unfold qE;show (if P=P then _ else _)=_;rw[aB rfl];exact cC (S3:=[.aW 0]) rfl rfl rfl (g e b) rfl
 have c:=nD b3 H;rw[E]at c;unfold kH xT;exact ej (w:=[Z (.im<|.tup H),Z<|.im<|.fn P]) rfl (kA<|it (hb (h7<|e8 rfl rfl rfl)<|oR<|e8 (aE<|dv (a1 (aE i) rfl) rfl c) rfl rfl)<|d5 rfl) rfl
theorem zL{J:List aD}{k:ab}(a:jT T4 [aX J]=Z (cm c,[aX J]))(f6:kH Ts [.im k,.im<|.fn Ts]=Z (cm al,[.im k,.im<|.fn Ts])):gw Ts T4 [aX J,.im k]=Z (cm al,[aX J,.im k]):=by
 unfold gw nk;refine ej (w:=[Z (aX J),Z<|.im k,X,X]) rfl (kA<|it (c:=ee) (z:=[Z (aX J),Z<|.im k,X,X]) ?_<|d5 rfl) rfl;cases c with
 |false=>exact r0 (oR<|e8 (aE<|cC (S3:=[.aW 0]) rfl rfl rfl a rfl) rfl rfl)
 |true=>exact hb (h7<|e8 (aE<|cC (S3:=[.aW 0]) rfl rfl rfl a rfl) rfl rfl) (oR<|e8 (aE<|cC (S3:=[.aW 1,.b8<|.im<|.fn Ts]) rfl rfl rfl f6 rfl) rfl rfl)
theorem zd(a:jT T4 [aX Uc]=Z (cm c,[aX Uc]))(e:Uc[0]?=Z m)(f:Uc.length<=1000)(d:Uc.length%4≠0)(Ub:L.length<=100):gw Ts T4 [aX Uc,bM L]=Z (cm al,[aX Uc,bM L]):=by
 have f6:=B3 (P:=Ts) (L:=L) (by lia);cases b:so (L.map aC) with
 |false=>rw[b]at f6;exact zL a f6
 |true=>
  rw[b]at f6;cases c with
  |false=>
   unfold gw nk;exact ej (w:=[Z (aX Uc),Z<|bM L,X,X]) rfl (kA<|it (r0<|oR<|e8 (aE<|cC (S3:=[.aW 0]) rfl rfl rfl a rfl) rfl rfl)<|d5 rfl) rfl
  |true=>
   obtain⟨cz,b3⟩:=Je e f λj=>d (by lia);have g:bL 2 (bq 1 G.i0<|ag (af 0) am) [Z (aX Uc),Z<|bM L,X,X]=X:=by
    have:bq 1 G.i0 (ag (af 0) am) [Z (aX Uc),Z<|bM L,X,X]=X:=by
     show ((i0 [aX Uc]).map _)=X;rw[cz];rfl
    unfold bL;rw[this];rfl
   have h:rC 1 (jB 1 2 G.lJ) (ag (af 0) am) [Z (aX Uc),Z<|bM L,X,X]=Z [Z (aX Uc),Z<|bM L,X,X]:=by
    show (if jB 1 2 lJ [aX Uc]=aa then Z _ else X)=_;rw[aB b3]
   have i:m6 (bL 2<|bq 1 G.i0<|ag (af 0) am) (rN (rC 1 (jB 1 2 G.lJ)<|ag (af 0) am)<|cv<|aq<|.ax al) [Z (aX Uc),Z<|bM L,X,X]=Z (.dO<|cm al,[Z (aX Uc),Z<|bM L,X,X]):=by
    unfold m6;rw[g];show rN _ _ _=_;unfold rN;rw[h];rfl
   unfold gw nk;exact ej (w:=[Z (aX Uc),Z<|bM L,X,X]) rfl (cg (gX (hb (h7<|e8 (aE<|cC (S3:=[.aW 0]) rfl rfl rfl a rfl) rfl rfl)<|h7<|e8 (aE<|cC (S3:=[.aW 1,.b8<|.im<|.fn Ts]) rfl rfl rfl f6 rfl) rfl rfl) rfl)<|kA i) rfl
def lK(k:ab):Prop:=∀P:ai,kH P [.im k,.im<|.fn P]=Z (cm al,[.im k,.im<|.fn P])
theorem mn(c:I.length<=100)(b:jo [.im e]=Z (cm al,[.im e])):lK (.tup<|I.map aC++[e]):=λP=>by
 refine Ed (by rw[cb,a5];show _+1<=_;lia) (λk hd=>?_) (dH _<|.head _) b;rcases cx.mp hd with d|d
 ·obtain⟨a,Y,rfl⟩:=cX.mp d;exact⟨aa,BC a⟩
 ·rw[bW.mp d];exact⟨al,b⟩
theorem i4(a:I.length<=100):bH (bM I) (.im<|.tup [e])=Z (.im<|.tup<|I.map aC++[e]):=aB (by rw[a5];show _+1<=_;lia)
theorem DW{e t:List ab}(d:e.length+t.length<=100000):bH (.lst e) (.lst t)=Z (.lst<|e++t):=aB d
abbrev ix(I:List a4)(a:a4)(Tw:List ab):aU:=[Z (bM<|I++[a]),Z<|.lst Tw,Z<|.im<|ar a.1,Z<|.im<|ar a.2,Z<|bM I]
theorem Qt(Ub:L.length<=40)(eS:∀a∈L,0<=a.2.2/\a.2.2<=40):∃x,oH [bM L]=Z (.lst x,[bM L])/\(∀k∈x,lK k)/\x.length<=30:=by
 have h:L.length<=100:=by lia
 obtain⟨j,l⟩:∃Tw:List ab,Tw=[.aR,.ax aa,.int 0,.str "",.aN [],.fd,.aN<|L.map aC,.tup<|L.map aC++[.aR],.tup<|L.map aC++[.tup []],.tup<|L.map aC++[.int 0],.tup [.tup [.aR,.aR]],.aN [.aR]]:=⟨_,rfl⟩;obtain⟨L2,C⟩:∃Tw:List ab,Tw=[.str "branches",.tup [.tup [.str "a",.str "b"]],.tup<|L.map aC++[.tup [.tup [.int 0,.int 0]]]]:=⟨_,rfl⟩;obtain⟨v,y⟩:∃e:ab,e=.tup [.tup [.int 0,.int 0],.tup [.int 0,.int 2]]:=⟨_,rfl⟩;have G:∀k∈j,lK k:=by rw[l];exact all_cons (λ_=>rfl) (all_cons (λ_=>rfl)<|all_cons (λ_=>rfl)<|all_cons (λ_=>rfl)<|all_cons (λ_=>rfl)<|all_cons (λ_=>rfl)<|all_cons (λ_=>rfl)<|all_cons (mn h rfl)<|all_cons (mn h rfl)<|all_cons (mn h rfl)<|all_cons (mn (I:=[]) (gV _) rfl)<|all_cons (λ_=>rfl) A6)
 have TZ:∀k∈L2,lK k:=by rw[C];exact all_cons (λ_=>rfl) (all_cons (mn (I:=[]) (gV _) rfl)<|all_cons (mn h rfl) A6)
 have H:lK v:=λP=>by
  rw[y];exact Ed (dN rfl) (λk hd=>⟨al,by
   simp only[bI,fZ,hk]at hd;rcases hd with rfl|rfl<;>rfl⟩) (.head _) rfl
 have p:j.length=12:=by rw[l];rfl
 have A:L2.length=3:=by rw[C];rfl
 suffices M:kX xg [Z (bM L),X,X,X,X] λr w=>∃x,r=.lst x/\h8 [0] [bM L] w 0=[bM L]/\(∀k∈x,lK k)/\x.length<=30 by
  obtain⟨Y,w,a,x,rfl,N,g,c⟩:=M;exact⟨x,ej rfl a N,g,c⟩
 unfold xg;refine fV (z:=[Z (bM L),Z<|.lst j,X,X,X]) (by
  rw[l];exact fh (ox (a1 rfl<|a1 rfl<|a1 rfl<|a1 rfl<|a1 rfl<|a1 rfl<|a1 rfl<|a1 (aE<|aQ rfl (aE rfl) rfl rfl<|i4 h)<|a1 (aE<|aQ rfl (aE rfl) rfl rfl<|i4 h)<|a1 (aE<|aQ rfl (aE rfl) rfl rfl<|i4 h)<|a1 rfl<|a1 rfl rfl) rfl (dN rfl) rfl) (dS rfl) rfl) ?_
 refine fV (z:=[Z (bM L),Z<|.lst<|j++L2,X,X,X]) (by
  rw[C];exact fh (aQ rfl (aE<|ox (a1 rfl<|a1 rfl<|a1 (aE<|aQ rfl (aE rfl) rfl rfl<|i4 h) rfl) rfl (dN rfl) rfl) rfl rfl (DW (by rw[p];exact dN rfl))) (dS rfl) rfl) ?_
 obtain⟨b,q⟩:∃Tw:List ab,Tw=j++L2++[v]:=⟨_,rfl⟩;have O:b.length=16:=by rw[q,cb,cb,p,A];rfl
 have B:∀k∈b,lK k:=λk hd=>by
  rw[q]at hd;rcases cx.mp hd with hd|hd
  ·rcases cx.mp hd with hd|hd
   ·exact G k hd
   ·exact TZ k hd
  ·rw[bW.mp hd];exact H
 refine fV (z:=[Z (bM L),Z<|.lst b,X,X,X]) (by
  rw[q,y];exact lF (jv rfl rfl (a1 (aE rfl) rfl) rfl rfl (oK (by rw[cb,p,A];decide)) rfl)) ?_
 have m:bg (ap dM (af 0)<|V<|bv am) [Z (bM L),Z<|.lst b,X,X,X]=Z (decide (L=[]),[Z (bM L),Z<|.lst b,X,X,X]):=dg (aQ rfl (aE (k:=bM []) rfl) rfl rfl<|wj L []);by_cases s:L=[]
 ·rw[cU s]at m;exact C3 m (rd rfl ⟨b,rfl,rfl,B,by lia⟩)
 rw[dA s]at m;refine ww m ?_;obtain⟨I,a,rfl⟩:∃I a,L=I++[a]:=by
  obtain⟨I,a,Q⟩:=(zT L).resolve_left s;exact⟨I,a,by rw[Q,Cp]⟩
 have d:I.length<=100:=by rw[cb]at Ub;lia
 have ex:=eS a (dH _<|.head _);have f:aY (bM<|I++[a]) (aF<|-1)=Z (.im<|aC a):=by
  show (d9 ((I++[a]).map aC)<|-1).map aj.im=_;rw[fe,show [a].map aC=[aC a] from rfl,LN];rfl
 refine fV (z:=[Z (bM<|I++[a]),Z<|.lst b,Z<|.im<|ar a.1,Z<|.im<|ar a.2,X]) (hI (aQ rfl (aE rfl) rfl rfl f) rfl) ?_;refine fV (z:=ix I a b) (by
  have:=Bq (I++[a]) X (Z<|-1);rw[DU,C0]at this;exact fh (g4 rfl rfl rfl rfl this) (dS rfl) rfl) ?_
 have Tz:∀(Tw Tb:List ab) {J:av (List bl)}{S3:List bl}{E:List aj},Tw.length<=50->Tb.length<=50->J (ix I a Tw)=Z (S3,ix I a Tw)->dZ S3 (ix I a Tw)=Z (E,ix I a Tw)->E.length<=100000->om E=.lst Tb->bL 1 (ap bH (af 1)<|V<|dq J) (ix I a Tw)=Z (.aZ,ix I a<|Tw++Tb):=λTw Tb {_ _ _} fn f1 R S T U=>fh (aQ rfl (aE<|ox R S T U) rfl rfl (DW (by lia))) (dS rfl) rfl;obtain⟨kD,Tj⟩:∃Tw:List ab,Tw=[.tup (I.map aC++[.aN [ar a.1,ar a.2]]),.tup<|I.map aC++[.tup [ar a.1,.aN [.int a.2.1,.int a.2.2]]]]:=⟨_,rfl⟩;obtain⟨nt,Tr⟩:∃Tw:List ab,Tw=[.tup (I.map aC++[.tup [ar a.1,ar a.2,ar a.2]]),.tup<|I.map aC++[.tup [ar a.1]]]:=⟨_,rfl⟩;obtain⟨n,t⟩:∃Tw:List ab,Tw=[.tup (I.map aC++[.tup [ar a.1,.tup [.int a.2.1,.str<|ay.ofString<|toString a.2.2]]]),.tup<|I.map aC++[.tup [ar a.1,.tup [.int a.2.1,.int a.2.2,.int 0]]],.tup<|I.map aC++[.tup [ar a.1,.aR]]]:=⟨_,rfl⟩;have be:∀k∈kD++nt++n,lK k:=λk hd=>by
  rw[Tj,Tr,t]at hd;simp only[cx,bI,fZ,hk]at hd;rcases hd with ((rfl|rfl)|(rfl|rfl))|(rfl|rfl|rfl)<;>exact mn d rfl
 have bs:kD.length=2:=by rw[Tj];rfl
 have cl:nt.length=2:=by rw[Tr];rfl
 have co:n.length=3:=by rw[t];rfl
 have bE:(b++kD).length=18:=by rw[cb,O,bs]
 have eq:(b++kD++nt).length=20:=by rw[cb,bE,cl]
 refine fV (z:=ix I a (b++kD)) (Tz b kD (by lia) (by lia) (a1 (aE<|aQ rfl (aE rfl) rfl rfl<|i4 d)<|a1 (aE<|aQ rfl (aE rfl) rfl rfl<|i4 d) rfl) rfl (dN rfl) (by rw[Tj];rfl)) ?_;refine fV (z:=ix I a (b++kD++nt)) (Tz _ nt (by lia) (by lia) (a1 (aE<|aQ rfl (aE rfl) rfl rfl<|i4 d)<|a1 (aE<|aQ rfl (aE rfl) rfl rfl<|i4 d) rfl) rfl (dN rfl) (by rw[Tr];rfl)) ?_;have st:vStr [aF a.2.2]=Z (.im<|.str<|ay.ofString<|toString a.2.2):=aB (by lia);obtain⟨i,u⟩:∃Tw:List ab,Tw=b++kD++nt++n:=⟨_,rfl⟩;have D:i.length=23:=by rw[u,cb,eq,co]
 have F:∀k∈i,lK k:=λk hd=>by
  rw[u,a_,a_,<-a_ kD]at hd;rcases cx.mp hd with hd|hd
  ·exact B k hd
  ·exact be k hd
 refine fV (z:=ix I a i) (by
  rw[u];exact Tz _ n (by lia) (by lia) (a1 (aE<|aQ rfl (aE (k:=.im (.tup [.tup [ar a.1,.tup [.int a.2.1,.str<|ay.ofString<|toString a.2.2]]]))<|hV (a1 (aE<|hV (a1 rfl<|a1 (aE<|hV (a1 (aE<|aQ (k:=aF a.2.1) rfl rfl rfl rfl rfl)<|a1 (aE<|dv (a1 (aE<|aQ (k:=aF a.2.2) rfl rfl rfl rfl rfl) rfl) rfl st) rfl) rfl (dN rfl) rfl) rfl) rfl (dN rfl) rfl) rfl) rfl (dN rfl) rfl) rfl rfl<|i4 d)<|a1 (aE<|aQ rfl (aE rfl) rfl rfl<|i4 d)<|a1 (aE<|aQ rfl (aE rfl) rfl rfl<|i4 d) rfl) rfl (dN rfl) (by rw[t];rfl)) ?_
 have o:bg (ap j3 (V<|ap aY (af 2)<|V<|aq<|.int 0)<|V<|aq<|.int 2) (ix I a i)=Z (decide (a.1.1<2),ix I a i):=dg (aQ (aE<|aQ (k:=aF a.1.1) rfl rfl rfl rfl rfl) rfl rfl rfl rfl);by_cases lt:a.1.1<2
 ·rw[cU lt]at o;refine fV (z:=ix I a (i++[.tup (I.map aC++[.tup [.tup [.ax (decide (a.1.1=1)),.int a.1.2],ar a.2]])])) (it o (lF (jv rfl rfl (a1 (aE<|aQ rfl (aE<|hV (a1 (aE<|hV (a1 (aE<|hV (a1 (aE<|aQ (aE<|aQ (k:=aF a.1.1) rfl rfl rfl rfl rfl) rfl rfl rfl<|mK _ _)<|a1 (aE<|aQ (k:=aF a.1.2) rfl rfl rfl rfl rfl) rfl) rfl (dN rfl) rfl)<|a1 rfl rfl) rfl (dN rfl) rfl) rfl) rfl (dN rfl) rfl) rfl rfl<|i4 d) rfl) rfl rfl (oK (by rw[D];decide)) rfl))) ?_;refine rd rfl ⟨_,rfl,rfl,λk hd=>?_,by rw[cb,D];exact dN rfl⟩;rcases cx.mp hd with hd|hd
  ·exact F k hd
  ·rw[bW.mp hd];exact mn d rfl
 ·rw[dA lt]at o;exact ww o (rd rfl ⟨i,rfl,rfl,F,by lia⟩)
theorem Pn(ah:F.Nodup){Tn:List a4}{n:aD->aD}(o:je F Tn n):∃T:List aD,T.Nodup/\(∀e,e∈T↔∃c∈F,n c=e)/\T.length+Tn.length=F.length:=by
 induction o with
 |nil=>exact⟨F,ah,λe=>⟨λd=>⟨e,d,rfl⟩,λ⟨c,b,a⟩=>by rw[<-a];exact b⟩,rfl⟩
 |@add Tn n a o f i j=>
  obtain⟨T,g,TZ,m⟩:=j;have h:n a.1∈T:=(TZ _).mpr ⟨a.1,f.1,rfl⟩;refine⟨T.erase<|n a.1,g.erase _,λe=>?_,?_⟩
  ·rw[g.mem_erase_iff,TZ];constructor
   ·rintro⟨l,c,b,rfl⟩;exact⟨c,b,aG l⟩
   ·rintro⟨c,b,d⟩;have d:(if n c=n a.1 then n a.2 else n c)=e:=d;by_cases q:n c=n a.1
    ·rw[aB q]at d;rw[<-d];exact⟨λk=>i k.symm,a.2,f.2.1,rfl⟩
    ·rw[aG q]at d;rw[<-d];exact⟨q,c,b,rfl⟩
  ·rw[zg h,cb,jq];have:=tJ h;lia
theorem HX(Tf:f4 F){Tn:List a4}{n:aD->aD}(o:je F Tn n)(i:∀a,gZ F a->n a.1=n a.2):Tn.length+1=F.length:=by
 obtain⟨T,j,TZ,p⟩:=Pn Tf.ah o;have q:=Tf.con n λg b c f d=>i (g,c) ⟨b,f,d⟩;obtain⟨c,r,f⟩:∃c r,F=c::r:=by
  cases k:F with
  |nil=>exact absurd k Tf.ne
  |cons c r=>exact⟨c,r,rfl⟩
 have h:c∈F:=by rw[f];exact .head _
 have:T.length=1:=by
  have l:n c∈T:=(TZ _).mpr ⟨c,h,rfl⟩;have C:T.length<=[n c].length:=j.length_le_of_subset λe m=>by
   obtain⟨g,b,rfl⟩:=(TZ e).mp m;rw[q g b c h];exact .head _
  have:=tJ l;simp at C;lia
 lia
theorem Rw(o:je F Tn n):(∀a∈Tn,n a.1=n a.2)/\Tn.Nodup:=by
 induction o with
 |nil=>exact⟨λ_ d=>(by cases d),io⟩
 |@add Tn n a o i g c=>
  refine⟨λe f=>?_,cF.mpr ⟨c.2,er _ _,λe f t h b=>g (by rw[bW.mp h]at b;rw[<-b];exact c.1 e f)⟩⟩;show (if n e.1=n a.1 then n a.2 else n e.1)=if n e.2=n a.1 then n a.2 else n e.2
  rcases cx.mp f with d|d
  ·rw[c.1 e d]
  ·rw[bW.mp d,aB rfl,aG λb=>g b.symm]
theorem Rj(o:je F Tn n):∀p:aD->aD,(∀a∈Tn,p a.1=p a.2)->∀c,p (n c)=p c:=by
 induction o with
 |nil=>exact λ_ Y Y=>rfl
 |@add Tn n a o i j f=>
  intro p d c;have b:=f p λe g=>d e (dI _ g);show p (if n c=n a.1 then n a.2 else n c)=p c;split
  ·rename_i h;rw[b,<-d a (dH _<|.head _),<-b a.1,<-h,b]
  ·exact b c
theorem PD(Tf:f4 F)(Te:L.Perm Tn)(o:je F Tn n)(i:la L)(h:∀a,gZ F a->n a.1=n a.2):ss F L:=by
 refine⟨λa b=>o.P0 a<|Te.mem_iff.mp b,Te.nodup_iff.mpr (Rw o).2,i,by rw[Te.length_eq];exact HX Tf o h,λp j g e c f=>?_⟩;have d:=Rj o p λa b=>j a (Te.mem_iff.mpr b);have q:n g=n c:=Tf.con n (λg e c f k=>h (g,c) ⟨e,f,k⟩) g e c f;rw[<-d g,<-d c,q]
theorem gF.P_(N:gF F aA):iH aA:=by
 have aN:=N.len;have ax:=N.B.len;exact⟨n5.mp N.sg,λq a=>by
  obtain⟨c,b,d⟩:=k3.mp (N.pm.mem_iff.mp a);have:=N.B.jN c b;have:=qc.mp d;lia,by lia⟩
theorem y5(SM:iH Uc)(a:Uc[0]?=Z m):∃c,jT T4 [aX Uc]=Z (cm c,[aX Uc]):=by
 have H:=SM.len;cases Uc with
 |nil=>cases a
 |cons j r=>
  obtain⟨d,b,Y,Y⟩:=z7 (R:=j::r) (j:=j) (by lia);exact⟨_,BA SM b⟩
noncomputable abbrev fr(y Th TM a TK TC TL A TS:Option aj):aU:=[y,Th,TM,a,TK,TC,TL,A,TS]
theorem Nj{y Th:Option aj}(N:gF F aA)(h:eF (v+5) d)(Ub:L.length<=40):
  ∃U f g,ud Ts T4 (fr y Th (Z d) (Z<|aP F) (Z<|aX aA) (Z<|bM L) TL A TS)=Z (.aZ,fr y Th (Z U) (Z<|aP F) (Z<|aX aA) (Z<|bM L) TL f g)/\eF v U:=by
 obtain⟨U,SQ,a,R,eV⟩:=OQ N.B h Ub;obtain⟨c,i,G⟩:=A8 (Ts:=Ts) (T4:=T4) N eV;obtain⟨b,lt,j⟩:=I0 N.B eV;have k:b=c:=qC.mpr (j.trans G.symm);subst k;obtain⟨l,rfl⟩:=h.lst;obtain⟨e,rfl⟩:=R.lst;have ne:eZ (cm b) (cm b)=Z (cm al):=by cases b<;>rfl
 refine⟨.lst e,Z<|bM SQ,Z<|cm b,?_,R⟩;unfold ud;exact cg (z:=fr y Th (Z<|.lst e) (Z<|aP F) (Z<|aX aA) (Z<|bM L) TL (Z<|bM SQ) TS) (i2 (cC (S3:=[.aW 2,.aW 3,.aW 5]) rfl rfl rfl a rfl) (dS rfl) rfl) (cg (z:=fr y Th (Z<|.lst e) (Z<|aP F) (Z<|aX aA) (Z<|bM L) TL (Z<|bM SQ) (Z<|cm b)) (i2 (cC (S3:=[.aW 4,.aW 7]) rfl rfl rfl i rfl) (dS rfl) rfl)<|gX (hb (h7<|Gg rfl rfl rfl)<|ti<|fm rfl (c2<|cC (S3:=[.aW 3,.aW 7]) rfl rfl rfl lt rfl) rfl rfl ne) rfl)
theorem PI{S:List Int}{o:Int}{TM s TK TC:Option aj}(M:0<=o)(O:o<1000):
  ∃Tv P Q T j f i,uh Ts T4 (fr (Z<|.cO<|S.map .int) (Z<|aF o) TM s TK TC TL A TS)=Z (.aZ,fr (Z<|.cO<|S.map .int) (Z<|aF o) Tv P Q T j f i):=by
 obtain⟨d,be,h⟩:=Ny (S:=S) M O;obtain⟨l,F,bs,SU,Tf,zq⟩:=JZ (v:=999000) h;obtain⟨aA,cl,Te,TJ⟩:=Kb Tf;have N:gF F aA:=⟨Tf,zq,Te,TJ⟩;obtain⟨C,L,Tn,n,co,S5,eq,lU,ex,fd⟩:=OR (v:=998900) Tf SU;have B:=PD Tf eq lU ex fd;have ax:=Tf.len;have Ub:=B.len;have t:L.length<=40:=by lia
 have aN:=N.len;have ne:=nC.mpr Tf.ne;obtain⟨g,fn,f1⟩:=A8 (Ts:=Ts) (T4:=T4) N (show L.length<=100 by lia);cases f1.mpr B;obtain⟨p,rfl⟩:=h.lst;obtain⟨D,rfl⟩:=SU.lst;obtain⟨k,rfl⟩:=S5.lst;obtain⟨x,go,g1,Ok⟩:=Qt t λa hd=>by
  have l:=(B.eS a hd).2.1;have:=Tf.jN _ l;lia
 have SM:=N.P_;have mb:∃m,(aA.drop 1)[0]?=Z m:=⟨_,dh (by rw[e4];lia)⟩;have mp:∃m,aA.dropLast[0]?=Z m:=⟨_,dh (by rw[tZ];lia)⟩;obtain⟨SK,E⟩:=mb;obtain⟨SL,H⟩:=mp;obtain⟨SN,of⟩:=y5 (T4:=T4) (SM.sub<|qd 1 aA) E;obtain⟨SO,on⟩:=y5 (T4:=T4) (SM.sub<|List.dropLast_sublist aA) H;have pm:=zd (Ts:=Ts) (L:=L) of E (by rw[e4];lia) (by rw[e4];lia) (by lia);have pt:=zd (Ts:=Ts) (L:=L) on H (by rw[tZ];lia) (by rw[tZ];lia) (by lia);have sp:jO (aX aA) (Z 1) X=Z (aX<|aA.drop 1):=by
  show Z (aj.im<|.tup<|e6 (aA.map ar) (Z ((1:Nat):Int)) X)=_;rw[v7,<-iv]
 have s1:jO (aX aA) X (Z<|-1)=Z (aX aA.dropLast):=by
  show Z (aj.im<|.tup<|e6 (aA.map ar) X<|Z<|-1)=_;rw[DU,show (aA.map ar).dropLast=aA.dropLast.map ar from (List.map_dropLast).symm]
 obtain⟨S4,s2,U,j,f,i,rfl,R⟩:=wW (To:=bb 6) (c:=ud Ts T4) (x:=hq 0 6) (λb w=>∃d j f i,w=fr (Z<|.cO<|S.map .int) (Z<|aF o) (Z d) (Z<|aP F) (Z<|aX aA) (Z<|bM L) j f i/\eF (998900-5*b) d) (w:=fr (Z<|.cO<|S.map .int) (Z<|aF o) (Z<|.lst k) (Z<|aP F) (Z<|aX aA) (Z<|bM L) TL A TS)
  ⟨_,_,_,_,rfl,S5⟩ (λb e w r ty=>by
   obtain⟨d,j,f,i,rfl,un⟩:=ty;obtain⟨SJ,rfl⟩:=Gd r;obtain⟨U,up,Gt,a,R⟩:=Nj (v:=998900-5*(b+1)) (Ts:=Ts) (T4:=T4) (y:=Z (.cO<|S.map .int)) (Th:=Z (aF o)) (TL:=Z (aF<|0+(b:Int))) (A:=f) (TS:=i) N (un.mono (by lia)) t;exact⟨_,_,_,rfl,a,.inl rfl,U,_,up,Gt,rfl,R⟩)
 obtain⟨I,rfl⟩:=R.lst;obtain⟨w,q⟩:∃w:aU,w=fr (Z<|.cO<|S.map .int) (Z<|aF o) (Z<|.lst I) (Z<|aP F) (Z<|aX aA) (Z<|bM L) j f i:=⟨_,rfl⟩;have If:cJ 1 [4] (cA<|V<|bq 1 G.oH<|ag (af 5) am) (bb 0) d2 (rX Ts T4) w=Z (.lst<|x.map λ_=>.ax al,w):=by
  rw[q];refine jS (x:=x.map id) (m:=X) (z:=fr (Z<|.cO<|S.map .int) (Z<|aF o) (Z<|.lst I) (Z<|aP F) (Z<|aX aA) (Z<|bM L) j f i) (zY (cC (S3:=[.aW 5]) rfl rfl rfl go rfl) (by rw[rs];rfl)) (jA id (λ_=>.ax al) _ (λe r=>?_) (by lia)) rfl;refine⟨[Z (.im e),Z<|aX aA],_,[Z (.im e),Z<|aX aA],rfl,rfl,?_,rfl⟩;unfold rX;exact aQ (aE<|cC (S3:=[.aW 1,.aW 0]) rfl rfl rfl (zL (N.field T4)<|g1 e r Ts) rfl) rfl rfl rfl rfl
 have J:=Qj (λ_:ab=>al) x;rw[show (x.any λ_=>al)=al by simp]at J;have f8:fv (V<|bn qR<|ag (V<|cJ 1 [4] (cA<|V<|bq 1 G.oH<|ag (af 5) am) (bb 0) d2<|G.rX Ts T4) am) w=Z (al,w):=e8 (aE<|dv (a1 (aE If) rfl) rfl J) rfl rfl;have Ft:ga (bg<|ap (iU aa) (V<|bq 2 (G.gw Ts T4)<|ag (V<|eQ (af 4) (fp<|aq<|.int 1) fg)<|ag (af 5) am)<|V<|aq<|.ax al) (bg<|ap (iU aa) (V<|bq 2 (G.gw Ts T4)<|ag (V<|eQ (af 4) fg<|fp<|gM<|aq<|.int 1)<|ag (af 5) am)<|V<|aq<|.ax al) w=Z (al,w):=by
  rw[q];exact hb (dg<|aQ (aE<|cC (S3:=[.b8 (aX<|aA.drop 1),.aW 5]) (a1 (aE<|g4 rfl rfl rfl rfl sp)<|a1 rfl rfl) rfl rfl pm rfl) rfl rfl rfl rfl) (dg<|aQ (aE<|cC (S3:=[.b8 (aX aA.dropLast),.aW 5]) (a1 (aE<|g4 rfl rfl rfl rfl s1)<|a1 rfl rfl) rfl rfl pt rfl) rfl rfl rfl rfl)
 have Is:kq 4 5 (ag (V<|bq 1 G.pf<|ag (af 3) am)<|ag (V<|bq 2 G.o7<|ag (af 2)<|ag (af 3) am) am) (fr (Z<|.cO<|S.map .int) (Z<|aF o) (Z<|.lst D) (Z<|aP F) TK TC TL A TS)=Z (.aZ,fr (Z<|.cO<|S.map .int) (Z<|aF o) (Z<|.lst k) (Z<|aP F) (Z<|aX aA) (Z<|bM L) TL A TS):=
  vM (dE (c2<|cC (S3:=[.aW 3]) rfl rfl rfl cl rfl)<|dE (c2<|cC (S3:=[.aW 2,.aW 3]) rfl rfl rfl co rfl) rfl) rfl (dS rfl) (dS rfl) rfl;have Lt:bg (ap (iU aa) (V<|bq 2 (G.gw Ts T4)<|ag (af 4)<|ag (af 5) am)<|V<|aq<|.ax aa) (fr (Z<|.cO<|S.map .int) (Z<|aF o) (Z<|.lst k) (Z<|aP F) (Z<|aX aA) (Z<|bM L) TL A TS)=Z (al,fr (Z<|.cO<|S.map .int) (Z<|aF o) (Z<|.lst k) (Z<|aP F) (Z<|aX aA) (Z<|bM L) TL A TS):=
  dg (aQ (aE<|cC (S3:=[.aW 4,.aW 5]) rfl rfl rfl fn rfl) rfl rfl rfl rfl);unfold uh;refine⟨_,_,_,_,_,_,_,cg (z:=fr (Z<|.cO<|S.map .int) (Z<|aF o) (Z<|.lst p) s TK TC TL A TS) (i2 (cC (S3:=[.aW 0,.aW 1]) rfl rfl rfl be rfl) (dS rfl) rfl) (cg (z:=fr (Z<|.cO<|S.map .int) (Z<|aF o) (Z<|.lst D) (Z<|aP F) TK TC TL A TS) (i2 (cC (S3:=[.aW 2]) rfl rfl rfl bs rfl) (dS rfl) rfl) (cg Is (cg (gX Lt rfl) (cg (z:=w) (jw (m:=X) (xk (u:=6) (dE rfl rfl) rfl ⟨by lia,by lia⟩) s2 (by rw[q];rfl)) (cg (gX f8 rfl) (gX Ft (by rw[q];rfl)))))))⟩
theorem Sc(Ts T4:ai)(S:List Int)(y:S.length<100000):∃Ua,rx Ts T4 [.cO (S.map .int)]=Z (.im<|.ax aa,Ua):=by
 obtain⟨v,f,z,B⟩:∃v:Int,bn tv (ag (V<|aq<|.int 1)<|ag (V<|bn uN<|ag (V<|aq<|.int 8)<|ag (V<|bn cZ<|ag (af 0) am) am) am) (fr (Z<|.cO<|S.map .int) X X X X X X X X)=Z (aF v,fr (Z<|.cO<|S.map .int) X X X X X X X X)/\0<=v/\v<=8:=by
  refine⟨_,dv (a1 rfl<|a1 (aE<|dv (a1 rfl<|a1 (aE<|dv (a1 rfl rfl) rfl rfl) rfl) rfl rfl) rfl) rfl rfl,?_,?_⟩
  ·split<;>split<;>lia
  ·split<;>split<;>lia
 obtain⟨S4,g,h,TM,d,TK,TC,TL,A,TS,rfl⟩:=wW (To:=bb 1) (c:=uh Ts T4) (x:=hq 0 v.toNat) (λb w=>∃Th TM d TK TC TL A TS,w=fr (Z<|.cO<|S.map .int) Th TM d TK TC TL A TS) (w:=fr (Z<|.cO<|S.map .int) X X X X X X X X)
  ⟨_,_,_,_,_,_,_,_,rfl⟩ (λb e w i j=>by
   obtain⟨Th,TM,d,TK,TC,TL,A,TS,rfl⟩:=j;obtain⟨SJ,rfl⟩:=Gd i;obtain⟨Tv,k,l,n,p,r,s,a⟩:=PI (S:=S) (o:=0+(b:Int)) (Ts:=Ts) (T4:=T4) (TM:=TM) (s:=d) (TK:=TK) (TC:=TC) (TL:=TL) (A:=A) (TS:=TS) (by lia) (by lia);exact⟨_,_,_,rfl,a,.inl rfl,_,Tv,k,l,n,p,r,s,rfl⟩)
 have wP:iH [((0:Int),(0:Int))]:=⟨er _ _,λq t=>by rw[bW.mp t];decide,by decide⟩;obtain⟨c,T3⟩:=y5 (T4:=T4) wP (m:=(0,0)) rfl;have u:=zd (Ts:=Ts) (L:=[]) T3 (m:=(0,0)) rfl (by decide) (by decide) (by decide);refine⟨_,ej (w:=fr (Z<|.cO<|S.map .int) h TM d TK TC TL A TS) rfl ?_ rfl⟩;show y3 Ts T4 (fr (Z<|.cO<|S.map .int) X X X X X X X X)=_;unfold y3;refine cg (jw (m:=X) (xk (a1 (aE f) rfl) rfl ⟨by lia,by lia⟩) g rfl) ?_;exact d5 (aQ (aE<|cC (S3:=[.b8 (aX [(0,0)]),.b8<|bM []]) rfl rfl rfl u rfl) (aE rfl) rfl rfl rfl)
end G
namespace L2
open PySem
end L2
set_option maxHeartbeats 4000000
namespace K38
open PySem L2 PyProof.Rows
variable{l c P:ai}{H:PySem.W.OpenLaw}{q:eT}{o:Nat}{O:bp}
noncomputable def dn(b:Nat):bz:=PySem.Challenge.pw_mowfloor_k38_trees_or_not.main.body.getD b (.Pass ⟨0,0,0,0⟩)
structure d1(aw:ay->Option ae):Prop where
 oF:aw "all" = X
 HJ:aw "any" = X
 En:aw "bool" = X
 A3:aw "dict" = X
 EM:aw "int" = X
 mO:aw "isinstance" = X
 e1:aw "len" = X
 uX:aw "list" = X
 Kg:aw "max" = X
 La:aw "min" = X
 yu:aw "range" = X
 Rq:aw "set" = X
 jQ:aw "sorted" = X
 IW:aw "str" = X
 iN:aw "tuple" = X
 Am:aw "zip" = X
 Bk:∃B,aw "GREATEST" = Z (.int 30 B)
 lO:∃B,aw "SIDE" = Z (.int 2 B)
theorem oe:eE "all" = Z (.builtin "all"):=by decide +kernel
theorem JS:eE "any" = Z (.builtin "any"):=by decide +kernel
theorem Aq:eE "bool" = Z (.type "bool"):=by decide +kernel
theorem G1:eE "dict" = Z (.type "dict"):=by decide +kernel
theorem Dg:eE "int" = Z (.type "int"):=by decide +kernel
theorem nP:eE "isinstance" = Z (.builtin "isinstance"):=by decide +kernel
theorem e0:eE "len" = Z (.builtin "len"):=by decide +kernel
theorem t5:eE "list" = Z (.type "list"):=by decide +kernel
theorem Q2:eE "max" = Z (.builtin "max"):=by decide +kernel
theorem IO:eE "min" = Z (.builtin "min"):=by decide +kernel
theorem j6:eE "sorted" = Z (.builtin "sorted"):=by decide +kernel
theorem QF:eE "str" = Z (.type "str"):=by decide +kernel
theorem i9:eE "tuple" = Z (.type "tuple"):=by decide +kernel
theorem cE(a:dV o O):O.units+20<bP:=by have:=a.un;omega
theorem vG(a:dV o O):O.units+30<bP:=by have:=a.un;omega
abbrev wv:bz:=dn 2
noncomputable abbrev Ks:List ay:=["thing"]
abbrev zt:bz:=dn 3
noncomputable abbrev Sb:List ay:=["thing"]
abbrev nW:bz:=dn 4
noncomputable abbrev N9:List ay:=["thing"]
abbrev mc:bz:=dn 5
noncomputable abbrev Mt:List ay:=["thing"]
abbrev nU:bz:=dn 6
noncomputable abbrev yj:List ay:=["thing","is_kind"]
abbrev nZ:bz:=dn 6
noncomputable abbrev yt:List ay:=["thing","is_kind"]
abbrev pP:bz:=dn 7
noncomputable abbrev M_:List ay:=["things","found","thing"]
abbrev xL:bz:=dn 8
noncomputable abbrev N_:List ay:=["cell","row","column"]
abbrev sB:bz:=dn 9
abbrev JW:List ay:=["free","start","found","waiting","cell"]
abbrev uE:bz:=dn 15
noncomputable abbrev Ju:List ay:=["field","cell"]
abbrev km:bz:=dn 16
noncomputable abbrev tj:List ay:=["field","found"]
abbrev vc:bz:=dn 18
noncomputable abbrev OE:List ay:=["thing"]
abbrev sE:bz:=dn 19
noncomputable abbrev Nv:List ay:=["thing"]
abbrev p4:bz:=dn 21
noncomputable abbrev Ah:List ay:=["some","every","found","block","onward"]
abbrev x2:bz:=dn 22
noncomputable abbrev LB:List ay:=["some","branches","group","block","found","branch","stays","given_up"]
abbrev uw:bz:=dn 23
noncomputable abbrev Ob:List ay:=["some","kept"]
abbrev rb:bz:=dn 24
noncomputable abbrev Cw:List ay:=["field","thing","some","every"]
abbrev xW:bz:=dn 26
noncomputable abbrev Ii:List ay:=["_law_script","_law_k"]
abbrev rT:bz:=dn 27
noncomputable abbrev NZ:List ay:=["_law_script","_law_k","_law_cell","_law_bound","_law_seed"]
abbrev yn:bz:=dn 28
noncomputable abbrev J9:List ay:=["_law_hand_here","_law_many","_law_digit"]
abbrev vi:bz:=dn 29
noncomputable abbrev JX:List ay:=["_law_hand_here","_law_many","_law_some","_law_turn","_law_row","_law_column","_law_down","_law_right","_law_one"]
abbrev zo:bz:=dn 30
noncomputable abbrev MB:List ay:=["_law_block","_law_row","_law_column"]
abbrev rS:bz:=dn 31
noncomputable abbrev Kd:List ay:=["_law_some","_law_cells","_law_block"]
abbrev uy:bz:=dn 32
noncomputable abbrev CT:List ay:=["_law_some","_law_pairs_here","_law_row","_law_column"]
abbrev pz:bz:=dn 33
noncomputable abbrev xw:List ay:=["_law_hand_here","_law_some","_law_rest","_law_taken","_law_piece","_law_one","_law_other","_law_old","_law_new"]
abbrev l8:bz:=dn 34
noncomputable abbrev qs:List ay:=["_law_some","_law_tree_here","_law_pairs_here","_law_met","_law_at","_law_near"]
abbrev vh:bz:=dn 35
noncomputable abbrev Kp:List ay:=["_law_hand_here","_law_some","_law_tree_here","_law_pairs_here","_law_wild","_law_row","_law_column","_law_others","_law_one","_law_at","_law_made","_law_back","_law_ways"]
abbrev tn:bz:=dn 36
noncomputable abbrev Kj:List ay:=["_law_tree_here","_law_some","_law_one","_law_other","_law_less"]
abbrev r8:bz:=dn 37
noncomputable abbrev Cx:List ay:=["_law_script","_law_k","_law_hand_here","_law_some","_law_field_here","_law_tree_here","_law_turn","_law_other","_law_told"]
section
variable{SS:bw}{D:a9}{SK:PySem.W.Frag}{aw:ay->Option ae}{SW:aT}
abbrev G6(q:eT)(P:ai):Prop:=fa q 1 "is_whole" wv P ["thing"] 1 G.pc
theorem Od(N:dD q.K q.aw "is_whole" wv P ["thing"])(L:d1 q.aw):G6 q P:=by
 refine ef Ks N λah z O Tp j h SM a=>?_;exact (bY<|c1<|j4 (g6<|mY rfl L.mO nP rfl L.EM Dg<|an 0)<|g6<|qw<|Pg<|g6<|mY rfl L.mO nP rfl L.En Aq<|an 0)
abbrev vm(q:eT)(P:ai):Prop:=fa q 2 "is_pair" zt P ["thing"] 1 G.nh
theorem Oc(N:dD q.K q.aw "is_pair" zt P ["thing"])(L:d1 q.aw){c:ai}(b:G6 q c):vm q P:=by
 refine ef Sb N λah z O Tp j h SM a=>?_;exact (bY<|c1<|j4 (g6<|mY rfl L.mO nP rfl L.iN i9<|an 0)<|j4 (g6<|ig (hO<|cE a) (aK<|c3 fj L.e1 e0<|a2<|an 0) a3<|dK _)<|j4 (g6<|cs b a<|a2<|cD a (an 0) a3)<|g6<|qw<|cs b a<|a2<|cD a (an 0) a3)
abbrev K2(q:eT)(P:ai):Prop:=fa q 3 "are_two_pairs" nW P ["thing"] 1 G.jo
theorem MG(N:dD q.K q.aw "are_two_pairs" nW P ["thing"])(L:d1 q.aw){c:ai}(b:vm q c):K2 q P:=by
 refine ef N9 N λah z O Tp j h SM a=>?_;exact (bY<|c1<|j4 (g6<|mY rfl L.mO nP rfl L.iN i9<|an 0)<|j4 (g6<|ig (hO<|cE a) (aK<|c3 fj L.e1 e0<|a2<|an 0) a3<|dK _)<|j4 (g6<|cs b a<|a2<|cD a (an 0) a3)<|g6<|qw<|cs b a<|a2<|cD a (an 0) a3)
abbrev OP(q:eT)(P:ai):Prop:=fa q 3 "is_cell" mc P ["thing"] 1 G.lH
theorem OC(N:dD q.K q.aw "is_cell" mc P ["thing"])(L:d1 q.aw){b:ai}(c:vm q b):OP q P:=by
 refine ef Mt N λah z O Tp j h SM a=>?_;exact (bY<|c1<|j4 (g6<|cs c a<|a2<|an 0)<|j4 (g6<|AV ml ml a3 (cD a (an 0) a3)<|aK<|j8 rfl L.Bk.choose_spec)<|g6<|qw<|AV ml ml a3 (cD a (an 0) a3)<|aK<|j8 rfl L.Bk.choose_spec)
theorem Q3(N:dD SK aw "is_rising" nU P ["thing","is_kind"])(L:d1 aw){c:ai}(e:cS SS D SK aw SW 3 "is_cell" mc c ["thing"] 1 G.lH):
  cS SS D SK aw SW 4 "is_rising" nU P ["thing","is_kind"] 2 (G.qo c):=by
 refine ef yj N λah z O Tp j h SM d=>?_;exact (bA (fJ (gU.lA (l5 (lG<|jP<|aK<|mY rfl L.mO nP rfl L.iN i9<|an 0) (m2 (lG (jP (aK (c3 (pB rfl) L.oF oe (a2 (aK (hG (own:=["part"]) (Tl:=[1]) rfl (hi (cL nU) yj (by decide +kernel)) (by decide) (fC<|an 0) (λa=>(eM (b:=0) (show (["part" ,"is_kind"]:List ay).Nodup by decide +kernel) rfl (Or.inl rfl) (by decide))) (λa=>jp)<|λa=>(Aa e d (c8 1)<|a2<|an 0))))))))))) (bY<|c1 gg) fH) (bY (c1 (c3 (pB rfl) L.oF oe (a2 (aK (hG (own:=["ahead" ,"behind"]) (Tl:=[]) rfl (hi (cL nU) yj (by decide +kernel)) (by decide) (zJ rfl L.Am<|bF (an 0)<|aK<|hl (an 0) (g5 fE) hf) (λa=>(iw (eM (b:=0) (show (["ahead" ,"behind"]:List ay).Nodup by decide +kernel) rfl (Or.inl rfl) (by decide)) (eM (b:=1) (show (["ahead" ,"behind"]:List ay).Nodup by decide +kernel) rfl (Or.inl rfl) (by decide)))) (λa=>jp)<|λa=>(ig (zU<|cE d) (an 0) (an 1)<|dK _))))))))
theorem Jg(N:dD SK aw "is_rising" nZ P ["thing","is_kind"])(L:d1 aw){c:ai}(e:cS SS D SK aw SW 3 "are_two_pairs" nW c ["thing"] 1 G.jo):
  cS SS D SK aw SW 4 "is_rising" nZ P ["thing","is_kind"] 2 (G.kH c):=by
 refine ef yt N λah z O Tp j h SM d=>?_;exact (bA (fJ (gU.lA (l5 (lG<|jP<|aK<|mY rfl L.mO nP rfl L.iN i9<|an 0) (m2 (lG (jP (aK (c3 (pB rfl) L.oF oe (a2 (aK (hG (own:=["part"]) (Tl:=[1]) rfl (hi (cL nZ) yt (by decide +kernel)) (by decide) (fC<|an 0) (λa=>(eM (b:=0) (show (["part" ,"is_kind"]:List ay).Nodup by decide +kernel) rfl (Or.inl rfl) (by decide))) (λa=>jp)<|λa=>(Aa e d (c8 1)<|a2<|an 0))))))))))) (bY<|c1 gg) fH) (bY (c1 (c3 (pB rfl) L.oF oe (a2 (aK (hG (own:=["ahead" ,"behind"]) (Tl:=[]) rfl (hi (cL nZ) yt (by decide +kernel)) (by decide) (zJ rfl L.Am<|bF (an 0)<|aK<|hl (an 0) (g5 fE) hf) (λa=>(iw (eM (b:=0) (show (["ahead" ,"behind"]:List ay).Nodup by decide +kernel) rfl (Or.inl rfl) (by decide)) (eM (b:=1) (show (["ahead" ,"behind"]:List ay).Nodup by decide +kernel) rfl (Or.inl rfl) (by decide)))) (λa=>jp)<|λa=>(ig (zU<|cE d) (an 0) (an 1)<|dK _))))))))
abbrev zz(q:eT)(P:ai):Prop:=fa q 1 "lookup" pP P ["things"] 1 G.gY
theorem IK(N:dD q.K q.aw "lookup" pP P ["things"])(L:d1 q.aw):zz q P:=by
 refine ef M_ N λah z O Tp j h SM a=>?_;exact (bA (c4 1 ah xC) (bA (kI (TH:=[0]) hX rfl (fC<|an 0) (e7 2 ah) (bY<|hD gg<|nL (c8 1) (f0<|c8 2)<|tz<|cE a) (by decide) (og (by decide)))<|bY<|c1<|f0<|c8 1))
abbrev B2(q:eT)(P:ai):Prop:=fa q 1 "around" xL P ["cell"] 1 G.yk
theorem OU(N:dD q.K q.aw "around" xL P ["cell"])(L:d1 q.aw):B2 q P:=by
 refine ef N_ N λah z O Tp j h SM a=>?_;exact (bA (c4 1 ah<|h0 a (an 0) a3)<|bA (c4 2 ah<|h0 a (an 0) a3)<|bY<|c1<|eD<|fL (b1<|bF (bT nK (an 1) a3)<|an 2)<|ir (b1<|bF (an 1)<|bT nK (an 2) a3) (b1<|bF (an 1)<|bT cj (an 2) a3)<|b1<|bF (bT cj (an 1) a3)<|an 2)
abbrev Rf(q:eT)(P:ai):Prop:=fa q 2 "reached" sB P ["free","start"] 2 G.nb
theorem QW(N:dD q.K q.aw "reached" sB P ["free","start"])(L:d1 q.aw){b:ai}(c:B2 q b):Rf q P:=by
 refine ef JW N λah z O Tp j h SM a=>?_;exact (bA (c4 2 ah<|O9 (cE a) (f0<|c8 1) gg) (bA (c4 3 ah<|eD<|a2<|an 1) (bA (xr 1000000 hX (jP<|an 3) (bY (kI (TH:=[0,1]) hX rfl (fC<|aK<|cs c a<|a2<|aK<|MO jt jy Fg Bh HS<|c8 3) (e7 4 ah) (bY<|fJ (gU.lA<|t7 (d6 (q3<|cE a) (an 4) (an 0) rfl)<|Fz<|d6 (vp<|cE a) (an 4) (an 2) rfl) (bA (hD gg<|nL (c8 2) (f0<|c8 4)<|tz<|cE a)<|bY<|kR<|kz jt jy oc oS pu (c8 3)<|a2<|an 4) fH) (by decide) Pw)))<|bY<|c1<|hn mu rfl L.iN i9<|a2<|aK<|c3 (mI rfl<|cE a) L.jQ j6<|a2<|an 2)))
abbrev Gp(q:eT)(P:ai):Prop:=fa q 1 "block_of" uE P ["field","cell"] 2 G.q1
theorem Og(N:dD q.K q.aw "block_of" uE P ["field","cell"])(L:d1 q.aw):Gp q P:=by
 refine ef Ju N λah z O Tp j h SM a=>?_;exact (bY<|c1<|ko<|bF (bT nK (cD a (an 1) a3)<|bT k9 (bT nK (cD a (an 1) a3)<|cD a (cD a (an 0) a3) a3)<|aK<|j8 rfl L.lO.choose_spec)<|bT nK (cD a (an 1) a3)<|bT k9 (bT nK (cD a (an 1) a3)<|cD a (cD a (an 0) a3) a3)<|aK<|j8 rfl L.lO.choose_spec)
theorem Ma:ki tj ["field"] (cL km):=DY
abbrev Lk(q:eT)(P:ai):Prop:=fa q 2 "blocks" km P ["field"] 1 G.i0
theorem OI(N:dD q.K q.aw "blocks" km P ["field"])(L:d1 q.aw){d:ai}(e:zz q d){f:ai}(g:Gp q f):Lk q P:=by
 refine ef tj N λah z O Tp j h SM a=>?_;exact (bA (c4 1 ah (cs e a (a2 (aK (hG (own:=["cell"]) (Tl:=[0]) rfl (hi (cL km) tj (by decide +kernel)) (by decide) (fC<|an 0) (λc=>(eM (b:=0) (show (["cell" ,"field"]:List ay).Nodup by decide +kernel) rfl (Or.inl rfl) (by decide))) (λc=>jp)<|λc=>(cs g a<|bF (an 1)<|an 0))))))<|bA (fJ (d6 (mF<|cE a) (aK<|c3 fj L.e1 e0<|a2<|an 0) (bT hZ (bT hZ (aK<|c3 GW L.e1 e0<|a2<|an 1)<|aK<|j8 rfl L.lO.choose_spec)<|aK<|j8 rfl L.lO.choose_spec)<|dK _) (bY Mf) fH)<|bY<|c1<|hn mu rfl L.iN i9<|a2<|aK<|c3 (mI rfl<|cE a) L.jQ j6<|a2<|an 1)
theorem K5(N:dD SK aw "blocks" km P ["field"])(L:d1 aw){f:ai}(g:cS SS D SK aw SW 1 "lookup" pP f ["things"] 1 G.gY){i:ai}(k:cS SS D SK aw SW 1 "block_of" uE i ["field","cell"] 2 G.q1){c:ai}(d:xS SK aw "NoBlocks" c):
  tK SS D SK aw SW 2 "blocks" km P ["field"] 1 (jB 1 2 G.lJ) c:=by
 refine Kt (S8:=[]) N Ma rfl λah z O Tp j h SM a=>?_;exact (Pa (c4 1 ah (cs g a (a2 (aK (hG (own:=["cell"]) (Tl:=[0]) rfl (hi (cL km) tj (by decide +kernel)) (by decide) (fC<|an 0) (λe=>(eM (b:=0) (show (["cell" ,"field"]:List ay).Nodup by decide +kernel) rfl (Or.inl rfl) (by decide))) (λe=>jp)<|λe=>(cs k a<|bF (an 1)<|an 0))))))<|Mq (d6 (mF<|cE a) (aK<|c3 fj L.e1 e0<|a2<|an 0) (bT hZ (bT hZ (aK<|c3 GW L.e1 e0<|a2<|an 1)<|aK<|j8 rfl L.lO.choose_spec)<|aK<|j8 rfl L.lO.choose_spec)<|dK _)<|H9 rfl rfl d.1 d.2<|λw y h l=>QM w y h l)
theorem N2(N:dD SK aw "is_floor" vc P ["thing"])(L:d1 aw){a:ai}(b:cS SS D SK aw SW 3 "is_cell" mc a ["thing"] 1 G.lH){c:ai}(d:cS SS D SK aw SW 4 "is_rising" nU c ["thing","is_kind"] 2 (G.qo a)):
  cS SS D SK aw SW 5 "is_floor" vc P ["thing"] 1 (G.oN a):=by
 refine ef OE N λah z O Tp j h SM e=>?_;exact (bY<|c1<|cs d e<|bF (an 0)<|aK<|zK rfl b.m)
theorem HP(N:dD SK aw "is_field" sE P ["thing"])(L:d1 aw){b:ai}(k:cS SS D SK aw SW 3 "is_cell" mc b ["thing"] 1 G.lH){c:ai}(d:cS SS D SK aw SW 5 "is_floor" vc c ["thing"] 1 (G.oN b)){e:ai}(f:cS SS D SK aw SW 2 "reached" sB e ["free","start"] 2 G.nb){g:ai}(i:cS SS D SK aw SW 1 "lookup" pP g ["things"] 1 G.gY):
  cS SS D SK aw SW 6 "is_field" sE P ["thing"] 1 (G.jT b):=by
 refine ef Nv N λah z O Tp j h SM a=>?_;exact (bA (fJ (gU.lA<|l5 (lG<|jP<|aK<|cs d a<|a2<|an 0)<|m2<|d6 (hO<|cE a) (aK<|c3 fj L.e1 e0<|a2<|an 0) a3<|dK _) (bY<|c1 gg) fH)<|bY<|c1<|ig (hO<|cE a) (aK<|c3 fj L.e1 e0<|a2<|aK<|cs f a<|bF (aK<|cs i a<|a2<|an 0)<|cD a (an 0) a3) (aK<|c3 fj L.e1 e0<|a2<|an 0)<|dK _)
abbrev AW(q:eT)(P:ai):Prop:=fa q 2 "all_branches" p4 P ["some"] 1 G.oX
theorem RK(N:dD q.K q.aw "all_branches" p4 P ["some"])(L:d1 q.aw){d:ai}(e:zz q d):AW q P:=by
 refine ef Ah N λah z O Tp j h SM a=>?_;exact (bA (l_ (b:=1) ah rfl (Or.inr rfl) (cs e a<|a2<|an 0) (by decide)) (bA (c4 2 ah<|eD i8) (bA (kI (TH:=[0]) hX rfl (fC<|an 0) (eM (b:=3) ah rfl (Or.inr rfl) (by decide)) (bA (c4 4 ah<|eD<|bF (b1<|bF (cD a (an 3) a3)<|bT cj (cD a (an 3) a3)<|aK<|j8 rfl L.lO.choose_spec)<|b1<|bF (bT cj (cD a (an 3) a3)<|aK<|j8 rfl L.lO.choose_spec)<|cD a (an 3) a3) (bY (kR (kz jt jy xh wV y_ (c8 2) (a2 (aK (hG (own:=["other"]) (Tl:=[1,3]) rfl (hi (cL p4) Ah (by decide +kernel)) (by decide) (fC<|an 4) (λc=>(eM (b:=0) (show (["other" ,"every" ,"block"]:List ay).Nodup by decide +kernel) rfl (Or.inl rfl) (by decide))) (λc=>(qi<|d6 (q3<|cE a) (an 0) (an 1) rfl))<|λc=>(ko<|bF (an 2)<|an 0)))))))) (by decide) (og (by decide)))<|bY<|c1<|f0<|c8 2)))
abbrev z8(q:eT)(P:ai):Prop:=fa q 1 "joining" x2 P ["some","branches"] 2 G.s4
theorem Hq(N:dD q.K q.aw "joining" x2 P ["some","branches"])(L:d1 q.aw):z8 q P:=by
 refine ef LB N λah z O Tp j h SM a=>?_;exact (bA (c4 2 ah xC) (bA (kI (TH:=[0,1]) hX rfl (fC<|an 0) (e7 3 ah) (bY<|hD (f0<|c8 3)<|nL (c8 2) (f0<|c8 3)<|tz<|cE a) (by decide) (og (by decide))) (bA (c4 4 ah<|eD i8) (bA (kI (TH:=[0,1]) hX rfl (fC<|an 1) (e7 5 ah) (bA (c4 6 ah<|h0 a (an 2)<|cD a (an 5) a3) (bA (c4 7 ah<|h0 a (an 2)<|cD a (an 5) a3) (bY (fJ (d6 (mF<|cE a) (an 6) (an 7)<|dK _) (bA (kR<|kz jt jy oc oS pu (c8 4)<|a2<|an 5) (bY (kI (TH:=[0,1]) hX rfl (fC<|an 0) (e7 3 ah) (bY<|fJ (d6 (hO<|cE a) (cD a (an 2)<|an 3) (an 7)<|dK _) (bY<|hD (f0<|c8 6)<|nL (c8 2) (f0<|c8 3)<|tz<|cE a) fH) (by decide) (og (by decide))))) fH)))) (by decide) (og (by decide)))<|bY<|c1<|hn mu rfl L.iN i9<|a2<|aK<|c3 (mI rfl<|cE a) L.jQ j6<|a2<|an 4))))
abbrev M2(q:eT)(P:ai):Prop:=fa q 3 "full_tree" uw P ["some","kept"] 2 G.o9
theorem Kl(N:dD q.K q.aw "full_tree" uw P ["some","kept"])(L:d1 q.aw){b:ai}(c:z8 q b){d:ai}(e:AW q d):M2 q P:=by
 refine ef Ob N λah z O Tp j h SM a=>?_;exact (bY<|c1<|cs c a<|bF (an 0)<|bT cj (aK<|hn t4 rfl L.uX t5<|a2<|an 1)<|aK<|cs e a<|a2<|an 0)
theorem Qr(N:dD SK aw "is_tree" rb P ["field","thing"])(L:d1 aw){e:ai}(I:cS SS D SK aw SW 3 "is_cell" mc e ["thing"] 1 G.lH){f:ai}(o:cS SS D SK aw SW 3 "are_two_pairs" nW f ["thing"] 1 G.jo){p:ai}(q:cS SS D SK aw SW 6 "is_field" sE p ["thing"] 1 (G.jT e)){s:ai}(t:cS SS D SK aw SW 4 "is_rising" nZ s ["thing","is_kind"] 2 (G.kH f)){g:ai}(u:cS SS D SK aw SW 2 "blocks" km g ["field"] 1 G.i0){v:ai}(w:cS SS D SK aw SW 1 "lookup" pP v ["things"] 1 G.gY){x:ai}(y:cS SS D SK aw SW 2 "all_branches" p4 x ["some"] 1 G.oX){A:ai}(B:cS SS D SK aw SW 3 "full_tree" uw A ["some","kept"] 2 G.o9){d:ai}(C:xS SK aw "NoBlocks" d)(E:tK SS D SK aw SW 2 "blocks" km g ["field"] 1 (jB 1 2 G.lJ) d)(F:PySem.W.exmOne SK (.ref d) (.ref d)=Z aa):
  cS SS D SK aw SW 7 "is_tree" rb P ["field","thing"] 2 (G.gw f e):=by
 refine ef Cw N λah z O Tp j h SM c=>?_;exact (bA (fJ (gU.lA<|l5 (lG<|jP<|aK<|cs q c<|a2<|an 0)<|m2<|lG<|jP<|aK<|cs t c<|bF (an 1)<|aK<|zK rfl o.m) (bY<|c1 gg) fH) (bA (O0 (r:=(rC 1 (jB 1 2 G.lJ)<|ag (af 0) am)) (J:=(cv<|aq<|.ax al)) rfl rfl rfl rfl C.1 F (λSM n=>(bY<|c4 2 ah<|cs u c<|a2<|an 0)) (λSM n k H=>(HL (b:=2) ah rfl (Or.inl rfl)<|P2 E c rfl rfl H<|a2<|an 0))<|λn a TO M=>(bY<|c1 gg)) (bA (l_ (b:=3) ah rfl (Or.inr rfl) (cs w c<|a2<|aK<|cs y c<|a2<|an 2) (by decide)) (bY (c1 (j4 (g6 (c3 (pB rfl) L.oF oe (a2 (aK (hG (own:=["branch"]) (Tl:=[3]) rfl (hi (cL rb) Cw (by decide +kernel)) (by decide) (fC<|an 1) (λl=>(eM (b:=0) (show (["branch" ,"every"]:List ay).Nodup by decide +kernel) rfl (Or.inl rfl) (by decide))) (λl=>jp)<|λl=>(ig (q3<|cE c) (an 0) (an 1) rfl))))))<|g6<|qw<|ig (hO<|cE c) (aK<|cs B c<|bF (an 2)<|an 1) (an 1)<|dK _))))))
abbrev Aw(q:eT)(P:ai):Prop:=fa q 1 "_law_cell_at" xW P ["_law_script","_law_k"] 2 G.pZ
theorem My(N:dD q.K q.aw "_law_cell_at" xW P ["_law_script","_law_k"])(L:d1 q.aw):Aw q P:=by
 refine ef Ii N λah z O Tp j h SM a=>?_;exact (bA (fJ (d6 tg (an 1) (aK<|c3 fj L.e1 e0<|a2<|an 0)<|dK _) (bY<|c1<|h0 a (an 0)<|an 1) fH)<|bY<|c1 fE)
abbrev Iv(q:eT)(P:ai):Prop:=fa q 2 "_law_hand" rT P ["_law_script","_law_k"] 2 G.qF
theorem Pc(N:dD q.K q.aw "_law_hand" rT P ["_law_script","_law_k"])(L:d1 q.aw){a:ai}(b:Aw q a):Iv q P:=by
 refine ef NZ N λah z O Tp j h SM c=>?_;exact (bA (c4 2 ah<|cs b c<|bF (an 0)<|an 1)<|bA (c4 3 ah<|fi hZ (bT hZ (bT tV a3 a3)<|bT tV a3 a3)<|bT tV a3 a3)<|bA (c4 4 ah<|fi k9 (bT hZ (bT cj (bT cj (bT k9 (an 2) a3)<|bT hZ (bT hZ a3<|an 1)<|an 1) a3) a3) a3)<|bY<|c1<|eD<|ir (bT hZ (bT k9 (an 2)<|an 3)<|aK<|hn HC rfl L.EM Dg<|a2<|aK<|ig JT (an 2) (bT tV a3 a3)<|dK _) (an 4) a3)
abbrev s9(q:eT)(P:ai):Prop:=fa q 1 "_law_pick" yn P ["_law_hand_here","_law_many"] 2 G.eN
theorem HI(N:dD q.K q.aw "_law_pick" yn P ["_law_hand_here","_law_many"])(L:d1 q.aw):s9 q P:=by
 refine ef J9 N λah z O Tp j h SM a=>?_;exact (bA (fJ (d6 JH (cD a (an 0) a3) a3<|dK _) (bA (c4 2 ah<|fi k9 (cD a (an 0) a3)<|an 1)<|bA (hD (fi BX (cD a (an 0) a3)<|an 1)<|nL (c8 0) fE<|vJ<|cE a)<|bY<|c1<|f0<|c8 2) fH)<|bA (hD (fi cj (cD a (an 0) a3) a3)<|nL (c8 0) fE<|vJ<|cE a)<|bA (hD (fi k9 (bT cj (bT cj (bT hZ (cD a (an 0) a3) a3) a3)<|bT hZ a3<|cD a (an 0) a3) a3)<|nL (c8 0) fE<|vJ<|cE a)<|bY<|c1<|fi k9 (bT BX (bT k9 (bT hZ (cD a (an 0) a3)<|cD a (an 0) a3) a3) a3)<|an 1)
abbrev JE(q:eT)(P:ai):Prop:=fa q 2 "_law_some_blocks" vi P ["_law_hand_here"] 1 G.qZ
theorem Sa(N:dD q.K q.aw "_law_some_blocks" vi P ["_law_hand_here"])(L:d1 q.aw){c:ai}(b:s9 q c):JE q P:=by
 refine ef JX N λah z O Tp j h SM a=>?_;exact (bA (c4 1 ah<|fi cj a3<|aK<|cs b a<|bF (an 0)<|cD a (aK<|eD<|fL a3<|ir a3 a3 a3)<|aK<|cs b a<|bF (an 0) a3) (bA (c4 2 ah<|eD<|a2<|b1<|bF (aK<|cs b a<|bF (an 0) a3)<|aK<|cs b a<|bF (an 0) a3) (bA (kI (TH:=[0]) hX rfl (xo rfl L.yu<|a2<|bT hZ a3<|an 1) (e7 3 ah) (bA (hD (h0 a (an 2)<|aK<|cs b a<|bF (an 0)<|aK<|c3 fj L.e1 e0<|a2<|an 2)<|iw (e7 4 ah)<|e7 5 ah)<|bA (fJ (d6 (hO<|cE a) (aK<|cs b a<|bF (an 0) a3) a3<|dK _) (bY<|hD (h0 a (an 2)<|aK<|jj fE)<|iw (e7 4 ah)<|e7 5 ah) fH)<|bA (hD (h0 a (aK<|eD<|fL (b1<|bF a3 a3)<|ir (b1<|bF a3 a3) (b1<|bF a3<|aK<|jj fE)<|b1<|bF (aK<|jj fE) a3)<|aK<|cs b a<|bF (an 0) a3)<|iw (e7 6 ah)<|e7 7 ah)<|bA (c4 8 ah<|ko<|bF (bT cj (an 4)<|an 6)<|bT cj (an 5)<|an 7)<|bY<|fJ (gU.lA<|t7 (d6 (vp<|cE a) (an 8) (an 2) rfl)<|t7 (d6 tg (aK<|c3 fj L.e1 e0<|a2<|an 2) (an 1)<|dK _)<|t7 (AR ml ml a3 (cD a (an 8) a3) a3)<|Fz<|AR ml ml a3 (cD a (an 8) a3) a3) (bY<|kR<|kz jt jy oc oS pu (c8 2)<|a2<|an 8) fH) (by decide) ys)<|bY<|c1<|c3 (mI rfl<|cE a) L.jQ j6<|a2<|an 2)))
abbrev CK(q:eT)(P:ai):Prop:=fa q 1 "_law_four" zo P ["_law_block"] 1 G.rY
theorem Kw(N:dD q.K q.aw "_law_four" zo P ["_law_block"])(L:d1 q.aw):CK q P:=by
 refine ef MB N λah z O Tp j h SM a=>?_;exact (bA (hD (f0<|c8 0)<|iw (e7 1 ah)<|e7 2 ah)<|bY<|c1<|eD<|fL (b1<|bF (an 1)<|an 2)<|ir (b1<|bF (an 1)<|bT cj (an 2) a3) (b1<|bF (bT cj (an 1) a3)<|bT cj (an 2) a3)<|b1<|bF (bT cj (an 1) a3)<|an 2)
abbrev Nu(q:eT)(P:ai):Prop:=fa q 2 "_law_field" rS P ["_law_some"] 1 G.pf
theorem Mx(N:dD q.K q.aw "_law_field" rS P ["_law_some"])(L:d1 q.aw){b:ai}(c:CK q b):Nu q P:=by
 refine ef Kd N λah z O Tp j h SM a=>?_;exact (bA (c4 1 ah<|eD i8) (bA (kI (TH:=[0]) hX rfl (fC<|an 0) (e7 2 ah) (bY<|kR<|kz jt jy xh wV y_ (c8 1)<|a2<|aK<|cs c a<|a2<|an 2) (by decide) (og (by decide)))<|bY<|c1<|hn mu rfl L.iN i9<|a2<|aK<|c3 (mI rfl<|cE a) L.jQ j6<|a2<|an 1))
abbrev t8(q:eT)(P:ai):Prop:=fa q 1 "_law_pairs" uy P ["_law_some"] 1 G.l9
theorem PG(N:dD q.K q.aw "_law_pairs" uy P ["_law_some"])(L:d1 q.aw):t8 q P:=by
 refine ef CT N λah z O Tp j h SM a=>?_;exact (bA (c4 1 ah<|eD i8) (bA (Jk (TH:=[0]) hX rfl (an 0) (iw (eM (b:=2) ah rfl (Or.inr rfl) (by decide)) (eM (b:=3) ah rfl (Or.inr rfl) (by decide))) (bY (kR (kz jt jy xh wV y_ (c8 1) (a2 (aK (hG (own:=["_law_one"]) (Tl:=[0,2,3]) rfl (hi (cL uy) CT (by decide +kernel)) (by decide) (fC<|aK<|eD<|bF (b1<|bF (an 2)<|bT cj (an 3) a3)<|b1<|bF (bT cj (an 2) a3)<|an 3) (λc=>(eM (b:=0) (show (["_law_one" ,"_law_some" ,"_law_row" ,"_law_column"]:List ay).Nodup by decide +kernel) rfl (Or.inl rfl) (by decide))) (λc=>(qi<|d6 (q3<|cE a) (an 0) (an 1) rfl))<|λc=>(ko<|bF (b1<|bF (an 2)<|an 3)<|an 0))))))) (by decide) (by decide))<|bY<|c1<|c3 (mI rfl<|cE a) L.jQ j6<|a2<|an 1))
abbrev MP(q:eT)(P:ai):Prop:=fa q 2 "_law_tree" pz P ["_law_hand_here","_law_some"] 2 G.o7
theorem KM(N:dD q.K q.aw "_law_tree" pz P ["_law_hand_here","_law_some"])(L:d1 q.aw){d:ai}(e:t8 q d){f:ai}(g:s9 q f):MP q P:=by
 refine ef xw N λah z O Tp j h SM a=>?_;exact (bA (KJ (b:=2) (u:=3) rfl ah rfl rfl (by decide) rfl rfl (bF (aK<|cs e a<|a2<|an 1)<|aK<|eD i8) (by decide) (by decide) rfl) (bA (l_ (b:=4) ah rfl (Or.inr rfl) (hn (AT rfl<|vG a) rfl L.A3 G1 (a2 (aK (hG (own:=["_law_block"]) (Tl:=[]) rfl (hi (cL pz) xw (by decide +kernel)) (by decide) (fC<|an 1) (λc=>(eM (b:=0) (show (["_law_block"]:List ay).Nodup by decide +kernel) rfl (Or.inl rfl) (by decide))) (λc=>jp)<|λc=>(ko<|bF (an 0)<|an 0))))) (by decide)) (bA (xr 1000000 hX (d6 (mF<|cE a) (an 2) (aK<|eD i8)<|dK _) (bA (hD (kz jt jy Fg Bh LP (c8 2)<|a2<|aK<|cs g a<|bF (an 0)<|aK<|c3 fj L.e1 e0<|a2<|an 2)<|iw (e7 5 ah)<|e7 6 ah) (bY (fJ (d6 (mF<|cE a) (cD a (an 4)<|an 5) (cD a (an 4)<|an 6)<|dK _) (bA (kR<|kz jt jy oc oS pu (c8 3)<|a2<|b1<|bF (an 5)<|an 6) (bA (hD (ko<|bF (cD a (an 4)<|an 5)<|cD a (an 4)<|an 6) (iw (eM (b:=7) ah rfl (Or.inr rfl) (by decide)) (eM (b:=8) ah rfl (Or.inr rfl) (by decide)))) (bY (l_ (b:=4) ah rfl (Or.inr rfl) (hn (AT rfl<|vG a) rfl L.A3 G1 (a2 (aK (hG (own:=["_law_block"]) (Tl:=[4,7,8]) rfl (hi (cL pz) xw (by decide +kernel)) (by decide) (fC<|an 1) (λc=>(eM (b:=0) (show (["_law_block" ,"_law_piece" ,"_law_old" ,"_law_new"]:List ay).Nodup by decide +kernel) rfl (Or.inl rfl) (by decide))) (λc=>jp)<|λc=>(ko<|bF (an 0)<|aK<|PQ (d6 (hO<|cE a) (cD a (an 1)<|an 0) (an 2)<|dK _) (f0<|c8 3)<|h0 a (an 1)<|an 0))))) (by decide))))) fH))))<|bY<|c1<|hn mu rfl L.iN i9<|a2<|aK<|c3 (mI rfl<|cE a) L.jQ j6<|a2<|an 3)))
abbrev J4(q:eT)(P:ai):Prop:=fa q 2 "_law_is_tree" l8 P ["_law_some","_law_tree_here"] 2 G.nG
theorem KQ(N:dD q.K q.aw "_law_is_tree" l8 P ["_law_some","_law_tree_here"])(L:d1 q.aw){d:ai}(e:t8 q d):J4 q P:=by
 refine ef qs N λah z O Tp j h SM a=>?_;exact (bA (l_ (b:=2) ah rfl (Or.inr rfl) (cs e a<|a2<|an 0) (by decide)) (bA (fJ (gU.lA (l5 (lG (jP (aK (c3 (pB rfl) L.oF oe (a2 (aK (hG (own:=["_law_one"]) (Tl:=[2]) rfl (hi (cL l8) qs (by decide +kernel)) (by decide) (fC<|an 1) (λc=>(eM (b:=0) (show (["_law_one" ,"_law_pairs_here"]:List ay).Nodup by decide +kernel) rfl (Or.inl rfl) (by decide))) (λc=>jp)<|λc=>(ig (q3<|cE a) (an 0) (an 1) rfl))))))))<|l5 (d6 (mF<|cE a) (aK<|hn t4 rfl L.uX t5<|a2<|an 1) (aK<|L3 (vG a) rfl L.jQ rfl L.Rq<|a2<|an 1)<|dK _)<|m2<|d6 (mF<|cE a) (aK<|c3 fj L.e1 e0<|a2<|an 1) (bT nK (aK<|c3 fj L.e1 e0<|a2<|an 0) a3)<|dK _)) (bY<|c1 gg) fH) (bA (G3 (b:=3) (u:=4) rfl ah rfl rfl (Or.inr rfl) (Or.inr rfl) (bF (aK<|hl (an 0) hf<|g5 fE) a3) (by decide) (by decide)) (bA (xr 1000000 hX (d6 tg (an 4) (aK<|c3 fj L.e1 e0<|a2<|an 3)<|dK _) (bA (Jb (b:=5) (own:=["_law_one" ,"_law_other"]) (Tl:=[3,4]) ah rfl (Or.inl rfl) rfl (hi (cL l8) qs (by decide +kernel)) (by decide) (fC<|an 1) (λc=>(iw (eM (b:=0) (show (["_law_one" ,"_law_other" ,"_law_met" ,"_law_at"]:List ay).Nodup by decide +kernel) rfl (Or.inl rfl) (by decide)) (eM (b:=1) (show (["_law_one" ,"_law_other" ,"_law_met" ,"_law_at"]:List ay).Nodup by decide +kernel) rfl (Or.inl rfl) (by decide)))) (λc=>(qi<|d6 (hO<|cE a) (an 0) (cD a (an 2)<|an 3)<|dK _)) (λc=>(f0<|c8 1)) (by decide)) (bA (c4 5 ah (fi cj (an 5) (aK (hG (own:=["_law_one" ,"_law_other"]) (Tl:=[3,4]) rfl (hi (cL l8) qs (by decide +kernel)) (by decide) (fC<|an 1) (λc=>(iw (eM (b:=0) (show (["_law_one" ,"_law_other" ,"_law_met" ,"_law_at"]:List ay).Nodup by decide +kernel) rfl (Or.inl rfl) (by decide)) (eM (b:=1) (show (["_law_one" ,"_law_other" ,"_law_met" ,"_law_at"]:List ay).Nodup by decide +kernel) rfl (Or.inl rfl) (by decide)))) (λc=>(qi<|d6 (hO<|cE a) (an 1) (cD a (an 2)<|an 3)<|dK _))<|λc=>(f0<|c8 0))))) (bA (l_ (b:=4) ah rfl (Or.inr rfl) (fi cj (an 4) a3) (by decide)) (bY (l_ (b:=3) ah rfl (Or.inr rfl) (fi cj (an 3) (aK (hG (own:=["_law_block"]) (Tl:=[3]) rfl (hi (cL l8) qs (by decide +kernel)) (by decide) (fC<|an 5) (λc=>(eM (b:=0) (show (["_law_block" ,"_law_met"]:List ay).Nodup by decide +kernel) rfl (Or.inl rfl) (by decide))) (λc=>(qi<|d6 (vp<|cE a) (an 0) (an 1) rfl))<|λc=>(f0<|c8 0)))) (by decide)))))))<|bY<|c1<|ig (hO<|cE a) (aK<|c3 fj L.e1 e0<|a2<|an 3) (aK<|c3 fj L.e1 e0<|a2<|an 0)<|dK _))))
abbrev Nc(q:eT)(P:ai):Prop:=fa q 2 "_law_otherwise" vh P ["_law_hand_here","_law_some","_law_tree_here"] 3 G.u2
theorem JR(N:dD q.K q.aw "_law_otherwise" vh P ["_law_hand_here","_law_some","_law_tree_here"])(L:d1 q.aw){c:ai}(d:t8 q c){e:ai}(b:s9 q e):Nc q P:=by
 refine ef Kp N λah z O Tp j h SM a=>?_;exact (bA (c4 3 ah<|cs d a<|a2<|an 1)<|bA (c4 4 ah<|ko<|bF (cD a (an 1)<|aK<|cs b a<|bF (an 0)<|aK<|c3 fj L.e1 e0<|a2<|an 1)<|cD a (an 1)<|aK<|cs b a<|bF (an 0)<|aK<|c3 fj L.e1 e0<|a2<|an 1)<|bA (hD (h0 a (an 4) a3)<|iw (e7 5 ah)<|e7 6 ah)<|bA (c4 7 ah<|fi cj (an 3)<|aK<|eD<|fL (an 4)<|ir (aK<|CN (an 4)<|jj fE) (b1<|bF (cD a (an 4) a3)<|b1<|bF (an 5)<|bT cj (an 6) a3)<|b1<|bF (cD a (an 4) a3)<|b1<|bF (an 5)<|bT cj (an 6) a3)<|bA (c4 8 ah<|h0 a (an 7)<|aK<|cs b a<|bF (an 0)<|aK<|c3 fj L.e1 e0<|a2<|an 7)<|bA (fJ (d6 (hO<|cE a) (an 2) (b1 i8)<|dK _) (bY<|c1<|ko<|a2<|an 8) fH)<|bA (c4 9 ah<|cs b a<|bF (an 0)<|aK<|c3 fj L.e1 e0<|a2<|an 2)<|bA (c4 10 ah<|fi cj (bT cj (aK<|hl (an 2) hf<|g5<|f0<|c8 9)<|b1<|a2<|an 8)<|aK<|hl (an 2) (g5<|fi cj (an 9) a3) hf)<|bA (c4 11 ah<|fi cj (bT cj (aK<|hl (an 2) hf<|g5<|f0<|c8 9)<|b1<|a2<|aK<|CN (cD a (an 2)<|an 9)<|jj fE)<|aK<|hl (an 2) (g5<|fi cj (an 9) a3) hf)<|bA (c4 12 ah<|eD<|fL (bT cj (aK<|hl (an 2) hf<|g5<|f0<|c8 9)<|aK<|hl (an 2) (g5<|fi cj (an 9) a3) hf)<|fL (aK<|hn mu rfl L.iN i9<|a2<|aK<|c3 (xQ rfl<|cE a) L.jQ j6<|a2<|bT cj (an 2)<|b1<|a2<|an 8)<|fL (bT cj (an 2)<|aK<|hl (an 2) (g5<|jj fE) hf)<|ir (aK<|hn mu rfl L.iN i9<|a2<|aK<|c3 (xQ rfl<|cE a) L.jQ j6<|a2<|an 10) (an 10)<|an 11)<|bA (c4 12 ah<|fi cj (an 12)<|aK<|eD<|fL (aK<|hn mu rfl L.iN i9<|a2<|aK<|c3 (xQ rfl<|cE a) L.jQ j6<|a2<|an 11)<|ir (bT cj (aK<|hl (an 2) (g5<|jj fE) hf)<|aK<|hl (an 2) hf<|g5<|jj fE) (bT cj (an 2)<|b1<|a2<|an 8)<|bT cj (aK<|hl (an 2) (g5 fE) hf)<|b1<|a2<|an 8)<|bY<|c1<|h0 a (an 12)<|aK<|cs b a<|bF (an 0)<|aK<|c3 fj L.e1 e0<|a2<|an 12)
abbrev Qc(q:eT)(P:ai):Prop:=fa q 1 "_law_odd" tn P ["_law_tree_here"] 1 G.oH
theorem M3(N:dD q.K q.aw "_law_odd" tn P ["_law_tree_here"])(L:d1 q.aw):Qc q P:=by
 refine ef Kj N λah z O Tp j h SM a=>?_;exact (bA (c4 1 ah<|eD<|fL (aK o5)<|fL (aK gg)<|fL a3<|fL (aK tr)<|fL (aK<|n6<|eD i8)<|fL (aK<|n6 xC)<|fL (aK<|n6<|hn t4 rfl L.uX t5<|a2<|an 0)<|fL (bT cj (an 0)<|b1<|a2<|aK o5)<|fL (bT cj (an 0)<|b1<|a2<|b1 i8)<|ir (bT cj (an 0)<|b1<|a2 a3) (b1<|a2<|b1<|bF (aK o5)<|aK o5)<|aK<|n6<|eD<|a2<|aK o5)<|bA (c4 1 ah<|fi cj (an 1)<|aK<|eD<|ir (aK tr) (b1<|a2<|b1<|bF (aK tr)<|aK tr)<|bT cj (an 0)<|b1<|a2<|b1<|a2<|b1<|bF a3 a3)<|bA (kR<|kz jt jy oc oS pu (c8 1)<|a2<|b1<|bF (b1<|bF a3 a3)<|b1<|bF a3 a3)<|bA (fJ (d6 (hO<|cE a) (an 0) (b1 i8)<|dK _) (bY<|c1<|f0<|c8 1) fH)<|bA (hD (h0 a (an 0)<|aK<|jj fE)<|iw (e7 2 ah)<|e7 3 ah)<|bA (c4 4 ah<|hl (an 0) hf<|g5<|jj fE)<|bA (c4 1 ah<|fi cj (an 1)<|aK<|eD<|bF (bT cj (an 4)<|b1<|a2<|aK<|n6<|eD<|bF (an 2)<|an 3)<|bT cj (an 4)<|b1<|a2<|b1<|bF (an 2)<|aK<|n6<|hn t4 rfl L.uX t5<|a2<|an 3)<|bA (c4 1 ah<|fi cj (an 1)<|aK<|eD<|bF (bT cj (an 4)<|b1<|a2<|b1<|ir (an 2) (an 3)<|an 3)<|bT cj (an 4)<|b1<|a2<|b1<|a2<|an 2)<|bA (c4 1 ah<|fi cj (an 1)<|aK<|eD<|ir (bT cj (an 4)<|b1<|a2<|b1<|bF (an 2)<|b1<|bF (cD a (an 3) a3)<|aK<|hn Ni rfl L.IW QF<|a2<|cD a (an 3) a3) (bT cj (an 4)<|b1<|a2<|b1<|bF (an 2)<|bT cj (an 3)<|b1<|a2 a3)<|bT cj (an 4)<|b1<|a2<|b1<|bF (an 2)<|aK o5)<|bA (fJ (d6 tg (cD a (an 2) a3) a3<|dK _) (bY<|kR<|kz jt jy oc oS pu (c8 1)<|a2<|bT cj (an 4)<|b1<|a2<|b1<|bF (b1<|bF (aK<|ig (hO<|cE a) (cD a (an 2) a3) a3<|dK _)<|cD a (an 2) a3)<|an 3) fH)<|bY<|c1<|f0<|c8 1)
theorem Qe(N:dD SK aw "law" r8 P ["_law_script"])(L:d1 aw){d:ai}(y:cS SS D SK aw SW 3 "are_two_pairs" nW d ["thing"] 1 G.jo){e:ai}(A:cS SS D SK aw SW 3 "is_cell" mc e ["thing"] 1 G.lH){g:ai}(i:cS SS D SK aw SW 2 "_law_hand" rT g ["_law_script","_law_k"] 2 G.qF){k:ai}(l:cS SS D SK aw SW 2 "_law_some_blocks" vi k ["_law_hand_here"] 1 G.qZ){m:ai}(n:cS SS D SK aw SW 2 "_law_tree" pz m ["_law_hand_here","_law_some"] 2 G.o7){o:ai}(p:cS SS D SK aw SW 2 "_law_field" rS o ["_law_some"] 1 G.pf){q:ai}(c:cS SS D SK aw SW 7 "is_tree" rb q ["field","thing"] 2 (G.gw d e)){r:ai}(s:cS SS D SK aw SW 2 "_law_otherwise" vh r ["_law_hand_here","_law_some","_law_tree_here"] 3 G.u2){t:ai}(v:cS SS D SK aw SW 2 "_law_is_tree" l8 t ["_law_some","_law_tree_here"] 2 G.nG){w:ai}(x:cS SS D SK aw SW 1 "_law_odd" tn w ["_law_tree_here"] 1 G.oH):
  cS SS D SK aw SW 8 "law" r8 P ["_law_script"] 1 (G.rx d e):=by
 refine ef Cx N λah z O Tp j h SM a=>?_;exact (bA (kI (TH:=[0]) hX rfl (xo rfl L.yu<|a2<|aK<|c3 (RH rfl) L.Kg Q2<|bF a3<|aK<|c3 (KS rfl) L.La IO<|bF a3<|aK<|c3 fj L.e1 e0<|a2<|an 0) (e7 1 ah) (bA (c4 2 ah<|cs i a<|bF (an 0)<|an 1) (bA (c4 3 ah<|cs l a<|a2<|an 2) (bA (G3 (b:=4) (u:=5) rfl ah rfl rfl (Or.inr rfl) (Or.inl rfl) (bF (aK<|cs p a<|a2<|an 3)<|aK<|cs n a<|bF (an 2)<|an 3) (by decide) (by decide)) (bA (fJ (d6 uY (aK<|cs c a<|bF (an 4)<|an 5) (aK gg)<|dK _) (bY<|c1 gg) fH) (bA (kI (TH:=[0]) hX rfl (xo rfl L.yu<|a2 a3) (e7 6 ah) (bA (c4 7 ah<|cs s a<|ir (an 2) (an 3)<|an 5)<|bA (c4 8 ah<|cs c a<|bF (an 4)<|an 7)<|bY<|fJ (gU.lA<|l5 (lG<|jP<|aK<|mY rfl L.mO nP rfl L.En Aq<|an 8)<|m2<|d6 (mF<|cE a) (an 8) (aK<|cs v a<|bF (an 3)<|an 7)<|dK _) (bY<|c1 gg) fH) (by decide) ys) (bA (fJ (jP (aK (c3 (I8 rfl) L.HJ JS (a2 (aK (hG (own:=["_law_thing"]) (Tl:=[4]) rfl (hi (cL r8) Cx (by decide +kernel)) (by decide) (fC<|aK<|cs x a<|a2<|an 5) (λf=>(eM (b:=0) (show (["_law_thing" ,"_law_field_here"]:List ay).Nodup by decide +kernel) rfl (Or.inl rfl) (by decide))) (λf=>jp)<|λf=>(ig uY (aK<|cs c a<|bF (an 1)<|an 0) (aK gg)<|dK _))))))) (bY<|c1 gg) fH)<|bY<|fJ (gU.lA<|l5 (d6 uY (aK<|cs c a<|bF (aK<|hl (an 4) (g5 fE) hf)<|an 5) (aK gg)<|dK _)<|m2<|d6 uY (aK<|cs c a<|bF (aK<|hl (an 4) hf<|g5<|jj fE)<|an 5) (aK gg)<|dK _) (bY<|c1 gg) fH)))))) (by decide) ys)<|bY<|c1<|ig Qb (aK<|cs c a<|bF (b1<|a2<|b1<|bF a3 a3)<|b1 i8) (aK gg)<|dK _)
end
theorem all_mk{D:a9}{SK:PySem.W.Frag}{d:aT}{aw:ay->Option ae}{m w x y z A B C E F I J M N O P Q R S T U be bs cl co eq ex fn:ai}(f:SK.In d)(a:d.Ns du aw)(f1:aw "law" = Z (.ref m)){n o:gR}(go:dx SK "is_whole" wv w)(g1:dx SK "is_pair" zt x)(hd:dx SK "are_two_pairs" nW c)(im:dx SK "is_cell" mc l)(mb:dx SK "is_rising" nU y)(mp:dx SK "is_rising" nZ z)(ne:dx SK "lookup" pP A)(of:dx SK "around" xL B)(on:dx SK "reached" sB C)(pm:dx SK "block_of" uE E)(pt:dx SK "blocks" km F)(sp:dx SK "is_floor" vc I)(s1:dx SK "is_field" sE J)(s2:dx SK "all_branches" p4 M)(ty:dx SK "joining" x2 N)(un:dx SK "full_tree" uw O)(up:dx SK "is_tree" rb P)(Gt:dx SK "_law_cell_at" xW Q)(If:dx SK "_law_hand" rT R)(Is:dx SK "_law_pick" yn S)(Lt:dx SK "_law_some_blocks" vi T)(Ok:dx SK "_law_four" zo U)(SJ:dx SK "_law_field" rS be)(SL:dx SK "_law_pairs" uy bs)(SM:dx SK "_law_tree" pz cl)(SN:dx SK "_law_is_tree" l8 co)(SP:dx SK "_law_otherwise" vh eq)(SQ:dx SK "_law_odd" tn ex)(p:dx SK "law" r8 fn)(SU:PySem.W.nsIn SK du "GREATEST" = Z (Z<|.int 30 n))(SX:PySem.W.nsIn SK du "SIDE" = Z (Z<|.int 2 o)){b:ai}(SY:PySem.W.nsIn SK du "NoBlocks" = Z (Z<|.ref b))(SZ:PySem.W.excIn SK b [.type "ValueError",.type "Exception",.type "BaseException",.type "object"] "ValueError.__new__" = aa)(S0:PySem.W.exmOne SK (.ref b) (.ref b)=Z aa)(S1:PySem.W.nsIn SK du "all" = Z X)(S2:PySem.W.nsIn SK du "any" = Z X)(S3:PySem.W.nsIn SK du "bool" = Z X)(S4:PySem.W.nsIn SK du "dict" = Z X)(S5:PySem.W.nsIn SK du "int" = Z X)(S6:PySem.W.nsIn SK du "isinstance" = Z X)(S7:PySem.W.nsIn SK du "len" = Z X)(S8:PySem.W.nsIn SK du "list" = Z X)(S9:PySem.W.nsIn SK du "max" = Z X)(S_:PySem.W.nsIn SK du "min" = Z X)(Ta:PySem.W.nsIn SK du "range" = Z X)(Tb:PySem.W.nsIn SK du "set" = Z X)(Tc:PySem.W.nsIn SK du "sorted" = Z X)(Td:PySem.W.nsIn SK du "str" = Z X)(Te:PySem.W.nsIn SK du "tuple" = Z X)(Tf:PySem.W.nsIn SK du "zip" = Z X):
  ∃fd:gp,(∀(j:ak) (s:ae),lP j fd ⟨[s],[]⟩ [("_law_script",s)])/\∀SW:aT,SK.In SW->SW.Ns du aw->gx H.prog D SK aw SW hA 8 m fd ["_law_script"] (jm 1<|G.rx c l):=by
 have L:d1 aw:=⟨g9 f a S1,g9 f a S2,g9 f a S3,g9 f a S4,g9 f a S5,g9 f a S6,g9 f a S7,g9 f a S8,g9 f a S9,g9 f a S_,g9 f a Ta,g9 f a Tb,g9 f a Tc,g9 f a Td,g9 f a Te,g9 f a Tf,⟨n,nN f a SU⟩,⟨o,nN f a SX⟩⟩;have h_w0:=go.cz (SO:=["thing"]) f a λ_ Y Y Y Y Y Y=>rfl;have h_w1:=g1.cz (SO:=["thing"]) f a λ_ Y Y Y Y Y Y=>rfl;have h_w2:=hd.cz (SO:=["thing"]) f a λ_ Y Y Y Y Y Y=>rfl;have h_w3:=im.cz (SO:=["thing"]) f a λ_ Y Y Y Y Y Y=>rfl;have h_w4:=mb.b3 (SO:=["thing","is_kind"]) f a λ_ Y Y Y Y Y Y Y=>rfl;have h_w5:=mp.b3 (SO:=["thing","is_kind"]) f a λ_ Y Y Y Y Y Y Y=>rfl;have h_w6:=ne.cz (SO:=["things"]) f a λ_ Y Y Y Y Y Y=>rfl;have h_w7:=of.cz (SO:=["cell"]) f a λ_ Y Y Y Y Y Y=>rfl;have h_w8:=on.b3 (SO:=["free","start"]) f a λ_ Y Y Y Y Y Y Y=>rfl;have h_w9:=pm.b3 (SO:=["field","cell"]) f a λ_ Y Y Y Y Y Y Y=>rfl;have h_w10:=pt.cz (SO:=["field"]) f a λ_ Y Y Y Y Y Y=>rfl;have h_w11:=sp.cz (SO:=["thing"]) f a λ_ Y Y Y Y Y Y=>rfl;have h_w12:=s1.cz (SO:=["thing"]) f a λ_ Y Y Y Y Y Y=>rfl;have h_w13:=s2.cz (SO:=["some"]) f a λ_ Y Y Y Y Y Y=>rfl;have h_w14:=ty.b3 (SO:=["some","branches"]) f a λ_ Y Y Y Y Y Y Y=>rfl;have h_w15:=un.b3 (SO:=["some","kept"]) f a λ_ Y Y Y Y Y Y Y=>rfl;have h_w16:=up.b3 (SO:=["field","thing"]) f a λ_ Y Y Y Y Y Y Y=>rfl;have h_w17:=Gt.b3 (SO:=["_law_script","_law_k"]) f a λ_ Y Y Y Y Y Y Y=>rfl;have h_w18:=If.b3 (SO:=["_law_script","_law_k"]) f a λ_ Y Y Y Y Y Y Y=>rfl;have h_w19:=Is.b3 (SO:=["_law_hand_here","_law_many"]) f a λ_ Y Y Y Y Y Y Y=>rfl;have h_w20:=Lt.cz (SO:=["_law_hand_here"]) f a λ_ Y Y Y Y Y Y=>rfl;have h_w21:=Ok.cz (SO:=["_law_block"]) f a λ_ Y Y Y Y Y Y=>rfl;have h_w22:=SJ.cz (SO:=["_law_some"]) f a λ_ Y Y Y Y Y Y=>rfl;have h_w23:=SL.cz (SO:=["_law_some"]) f a λ_ Y Y Y Y Y Y=>rfl;have h_w24:=SM.b3 (SO:=["_law_hand_here","_law_some"]) f a λ_ Y Y Y Y Y Y Y=>rfl;have h_w25:=SN.b3 (SO:=["_law_some","_law_tree_here"]) f a λ_ Y Y Y Y Y Y Y=>rfl;have h_w26:=SP.rn (SO:=["_law_hand_here","_law_some","_law_tree_here"]) f a λ_ Y Y Y Y Y Y Y Y=>rfl;have h_w27:=SQ.cz (SO:=["_law_tree_here"]) f a λ_ Y Y Y Y Y Y=>rfl;have h_law:=p.cz (SO:=["_law_script"]) f a λ_ Y Y Y Y Y Y=>rfl;have r:xS SK aw "NoBlocks" b:=⟨nN f a SY,SZ⟩;refine QT p f a f1 (λ_ Y Y Y Y Y Y Y=>.of_eq rfl) λSW=>?_;have Tg:=Od (q:=⟨H.prog,D,SK,aw,SW⟩) h_w0 L;have t:=Oc (q:=⟨H.prog,D,SK,aw,SW⟩) h_w1 L Tg;have h:=MG (q:=⟨H.prog,D,SK,aw,SW⟩) h_w2 L t;have e:=OC (q:=⟨H.prog,D,SK,aw,SW⟩) h_w3 L t;have Th:=Q3 (SS:=H.prog) (D:=D) (SW:=SW) h_w4 L e;have Ti:=Jg (SS:=H.prog) (D:=D) (SW:=SW) h_w5 L h;have g:=IK (q:=⟨H.prog,D,SK,aw,SW⟩) h_w6 L;have Tj:=OU (q:=⟨H.prog,D,SK,aw,SW⟩) h_w7 L;have Tk:=QW (q:=⟨H.prog,D,SK,aw,SW⟩) h_w8 L Tj;have u:=Og (q:=⟨H.prog,D,SK,aw,SW⟩) h_w9 L;have Tl:=K5 (SS:=H.prog) (D:=D) (SW:=SW) h_w10 L g u r;have Tn:=OI (q:=⟨H.prog,D,SK,aw,SW⟩) h_w10 L g u;have To:=N2 (SS:=H.prog) (D:=D) (SW:=SW) h_w11 L e Th;have Tp:=HP (SS:=H.prog) (D:=D) (SW:=SW) h_w12 L e To Tk g;have v:=RK (q:=⟨H.prog,D,SK,aw,SW⟩) h_w13 L g;have Tq:=Hq (q:=⟨H.prog,D,SK,aw,SW⟩) h_w14 L;have Tr:=Kl (q:=⟨H.prog,D,SK,aw,SW⟩) h_w15 L Tq v;have Ts:=Qr (SS:=H.prog) (D:=D) (SW:=SW) h_w16 L e h Tp Ti Tn g v Tr r Tl S0;have Tt:=My (q:=⟨H.prog,D,SK,aw,SW⟩) h_w17 L;have Tu:=Pc (q:=⟨H.prog,D,SK,aw,SW⟩) h_w18 L Tt;have i:=HI (q:=⟨H.prog,D,SK,aw,SW⟩) h_w19 L;have Tv:=Sa (q:=⟨H.prog,D,SK,aw,SW⟩) h_w20 L i;have Tw:=Kw (q:=⟨H.prog,D,SK,aw,SW⟩) h_w21 L;have Tx:=Mx (q:=⟨H.prog,D,SK,aw,SW⟩) h_w22 L Tw;have k:=PG (q:=⟨H.prog,D,SK,aw,SW⟩) h_w23 L;have Tz:=KM (q:=⟨H.prog,D,SK,aw,SW⟩) h_w24 L k i;have TA:=KQ (q:=⟨H.prog,D,SK,aw,SW⟩) h_w25 L k;have TB:=JR (q:=⟨H.prog,D,SK,aw,SW⟩) h_w26 L k i;have TC:=M3 (q:=⟨H.prog,D,SK,aw,SW⟩) h_w27 L;exact Qe h_law L h e Tu Tv Tz Tx Ts TB TA TC
theorem walk{p:bw}{f:List ay}{i:(ay->Option ae)->aT->Prop}{a:a9->aT->Prop}{k:DefRec}{SK:sz->PySem.W.Frag}(m:H.most=Z 63)(q:k.params.defaults=[])(r:∀(D:a9) (d:aT),a D d->(SK D.params).In d)(s:∀n,p2 (SK n)=aa)(N:∀(D:a9) (aw:ay->Option ae) (b:ai) (d:aT),(SK D.params).In d->d.Ns du aw->aw k.name=Z (.ref b)->
   ∃fd:gp,(∀(j:ak) (I:ae),lP j fd ⟨[I],[]⟩ [("_law_script",I)])/\∀SW:aT,(SK D.params).In SW->SW.Ns du aw->gx H.prog D (SK D.params) aw SW hA 8 b fd ["_law_script"] (jm 1<|G.rx c l)):
  PySem.W.WalkO p f i a H.row.toRowW k [] (λP T=>PySem.call P T):=
 L2.HR (v:=63) (o:=8) (e := "_law_script") (M:=λ_=>hA) (T0:=λD=>jm 1<|G.rx c l) m (by decide) q ⟨rfl,by decide,by decide,rfl⟩ r N (λD h g S t u w=>N6 (s D.params) h g S u w (G.Sc c l S (rQ t (by decide)))) λ_ Y Y Y Y x=>x
end K38
namespace PySem.W.Fast
def tw9089520002176948581:=0
def tw12846344783906751617:=0
def tw7102045258240064579:=0
def tw7518932294966432579:=0
def tw2503857995602607428:=0
def tw18168482887810203972:=0
def tw11071545828926356004:=0
def tw1959143939742607621:=0
def tw3540266928838389349:=0
def tw7372292076000760838:=0
def tw15022985866529392200:=0
def tw8186721889476755849:=0
def tw5592190826375020938:=0
def tw10356823850250590539:=0
def tw8378790535485233675:=0
def tw141789940005587787:=0
def tw12991220032955133516:=0
def tw10160243476249053005:=0
def tw6756015328890864046:=0
def tw5462178994324457006:=0
def tw16203758598693083663:=0
def tw3679269310665372335:=0
def tw16387205568072677103:=0
def tw15210964930786564432:=0
def tw393149539289952080:=0
def tw11591566299306977682:=0
def tw3140707749920027379:=0
def tw15678484860635680372:=0
def tw16578101054873958356:=0
def tw683639941125525973:=0
def tw5928736525411947029:=0
def tw4962197456872093846:=0
def tw12880088563468510806:=0
def tw5723015687115798166:=0
def tw407164920950513398:=0
def tw14937802630469755481:=0
def tw7677492878444616794:=0
def tw7304536787820343515:=0
def tw11132884852872166684:=0
def tw10629949382060835965:=0
def tw9227282006520704479:=0
def tw10647067257171259327:=0
def tw13302523281419972160:=0
def tw12686895195824412512:=0
def tw2974409706832939553:=0
def tw7430637112994067105:=0
def tw9847755257778953153:=0
def tw9388586308405009345:=0
def tw17305492639069770402:=0
def tw12711406345930432226:=0
def tw147358809359581443:=0
def tw14669348428870807971:=0
def tw17756920210049068356:=0
def tw7865899982374577988:=0
def tw13477454854462052709:=0
def tw14082866818347922085:=0
def tw15374339488053595782:=0
def tw10514427886883630982:=0
def tw15991114212770525062:=0
def tw15396102784820724007:=0
def tw1324274101531855399:=0
def tw10955403573311893159:=0
def tw8512475149579115944:=0
def tw4355582003334410952:=0
def tw2494853464572387433:=0
def tw4613315199455668329:=0
def tw7981114796450826761:=0
def tw5368908601249878857:=0
def tw4977645473070815145:=0
def tw9959747684707398314:=0
def tw4203734159777736554:=0
def tw9783662203211220874:=0
def tw10096235451625836522:=0
def tw3043827379741667435:=0
def tw8582762636886783211:=0
def tw3785835041568899755:=0
def tw1776541879258771115:=0
def tw17464387069339745995:=0
def tw18285393229258739595:=0
def tw17297858904560677100:=0
def tw2164640709767431436:=0
def tw14476111826559618444:=0
def tw12612411562784129677:=0
def tw1102582574164719886:=0
def tw10361092237242302030:=0
def tw4103173598160978191:=0
def tw11849926645717603663:=0
def tw10031559559036778383:=0
def tw8490702022906725968:=0
def tw7717778646239127921:=0
def tw10931681919365135507:=0
def tw5212653638013416307:=0
def tw14452103872955274068:=0
def tw15435830443684425045:=0
def tw8358811153636896117:=0
def tw10570340730305733237:=0
def tw3770044494681340789:=0
def tw17330854209118437430:=0
def tw10570261784153539990:=0
def tw9575637014517408278:=0
def tw10913496503643200055:=0
def tw5114564964787650135:=0
def tw11716435961140561336:=0
def tw17911576643101087640:=0
def tw14333379904132610040:=0
def tw15895776206119149145:=0
def tw153413718028881689:=0
def tw15381662395354903674:=0
def tw696833955131765082:=0
def tw6696570818776592826:=0
def tw654174285272500539:=0
def tw14838241376167087292:=0
def tw7311009399446247709:=0
def tw6396939564903008573:=0
def tw148157584813185725:=0
def tw14671243311750471454:=0
def tw2766358477302507454:=0
def tw5871322697158098111:=0
def tw15035662005528283615:=0
def tw12626698996245533279:=0
def tw15516509532357341919:=0
end PySem.W.Fast
end
open PySem PySem.W PyProof.Rows
set_option maxRecDepth 100000 in
set_option maxHeartbeats 0 in
theorem PySem.Challenge.cw_mowfloor_k38_trees_or_not_holds : PySem.Challenge.rw_mowfloor_k38_trees_or_not.Holds := by
  w_on; o_law; k_head; (case hw => w_witness2)
  k_fill
  refine' K38.walk (H := PySem.Challenge.rw_mowfloor_k38_trees_or_not) rfl rfl (fun w h Y => PySem.W.kIn_of Y) ?hK ?F
  case hK => intro p; rfl
  case F =>
    intro w mg fa h KX G hmg
    refine' K38.all_mk KX G hmg ?r_w0 ?r_w1 ?r_w2 ?r_w3 ?r_w4 ?r_w5 ?r_w6 ?r_w7 ?r_w8 ?r_w9 ?r_w10 ?r_w11 ?r_w12 ?r_w13 ?r_w14 ?r_w15 ?r_w16 ?r_w17 ?r_w18 ?r_w19 ?r_w20 ?r_w21 ?r_w22 ?r_w23 ?r_w24 ?r_w25 ?r_w26 ?r_w27 ?r_law ?g_GREATEST ?g_SIDE ?g_NoBlocks ?x_NoBlocks ?Q_NoBlocks ?z_all ?z_any ?z_bool ?z_dict ?z_int ?z_isinstance ?z_len ?z_list ?z_max ?z_min ?z_range ?z_set ?z_sorted ?z_str ?z_tuple ?z_zip
    case r_w0 | r_w1 | r_w2 | r_w3 | r_w4 | r_w5 | r_w6 | r_w7 | r_w8 | r_w9 | r_w10 | r_w11 | r_w12 | r_w13 | r_w14 | r_w15 | r_w16 | r_w17 | r_w18 | r_w19 | r_w20 | r_w21 | r_w22 | r_w23 | r_w24 | r_w25 | r_w26 | r_w27 | r_law => refine' L2.FK ?a ?l ?c ?k; (case a => k_is); (case l => k_is); (case c => k_is); (case k => k_is)
    case g_GREATEST | g_SIDE | g_NoBlocks | z_all | z_any | z_bool | z_dict | z_int | z_isinstance | z_len | z_list | z_max | z_min | z_range | z_set | z_sorted | z_str | z_tuple | z_zip => k_is
    case x_NoBlocks => k_exc
    case Q_NoBlocks => kts_exm
