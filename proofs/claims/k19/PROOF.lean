import PyProof.Rows.All
import Wide.All
import OpenK.AllK
import Wide.FinOn
import Lean
import PyProof.EqAt
import PyProof.EqKinds
import PyProof.TupleCall
import PyProof.Rows.SetFrom
import PyProof.WalksMore
import PyProof.IsiNone
import PyProof.NeKinds
import PyProof.MaxThree
import PyProof.CallStr
import KE.KRevIter
import KE.KItemsList
import KE.BitLaws
import PySem.Challenge.RW_mowfloor_k19_again_by_all_lanes
set_option maxHeartbeats 4000000
set_option Elab.async false
set_option compiler.extract_closed false
set_option linter.all false
open List (count range range')
open Nat (beq)
noncomputable section
local macro_rules|`(∅)=>`(by decide)
local macro_rules|`(⇑$e)=>`(by simpa using $e)
local macro_rules|`(↥$_)=>`(by simp)
local macro_rules|`(tactic|let $p:term:=$e)=>do
 let q:=p.raw
 let X (s:Lean.Syntax):=s.isOfKind ``Lean.Parser.Term.explicit
 let I (s:String):=Lean.mkIdent (.mkSimple s)
 let l:=(if X q then q[1] else q)[1].getSepArgs
 let n:=l.size
 let j:=if X q then 0 else ((l.findIdx? X).map (·+1)).getD 99
 let mut b:Array Lean.Ident:=#[]
 let mut t:Array (Lean.TSyntax `tactic):=#[]
 let w:=I "ζ"
 let E:=e.raw
 let u:=E.getId
 let c:=j<99&&E.isIdent&&l.any fun s=>s.getId==u||s[1].getId==u
 let h:=I "ξ"
 let u:=u.toString
 let u:=if u.startsWith "ζ" then u else "ζ"
 let d:Lean.Term:=if c then h else e
 let r ←if c then `(tactic|(revert $(⟨e⟩):ident;intro $h:ident)) else `(tactic|skip)
 if j<99&&E.isIdent then t:=t.push (←`(tactic|try clear $(⟨d⟩):ident))
 for i in [0:n] do
  let s:=if i+1==j then l[i]![1] else l[i]!
  let z:=I s!"{u}{i}"
  if s.isIdent&&(j==99||s.getId != `rfl) then b:=b.push ⟨s⟩
  else
   b:=b.push z
   if s.isIdent then t:=t.push (←`(tactic|subst $z))
   else if !s.isOfKind ``Lean.Parser.Term.hole then t:=t.push (←`(tactic|let $(⟨s⟩):term:=$z))
 let A:=b.extract j n
 let B:=b.extract 0 j
 let k:=I s!"xE{j}"
 if j==99 then `(tactic|(obtain ⟨$[$b:ident],*⟩:=$e;$t;*)) else if j==0 then `(tactic|($r;refine $(I s!"xA{n}") ($d :) fun $b* =>?_;$t;*)) else if j+1==n then `(tactic|($r;refine $k ($d :) fun $b* =>?_;$t;*)) else `(tactic|($r;refine $k ($d :) fun $B* $w=>?_;refine $(I s!"xA{n-j}") $w fun $A* =>?_;clear $w;$t;*))
local macro_rules|`(command|def $i:declId $s:optDeclSig:=$v)=>if v.raw.isOfKind ``Lean.Parser.Term.paren then `(command|noncomputable def $i $s:optDeclSig:=$v) else (·.raw.rewriteBottomUp (·.setInfo .none))<$>`(command|theorem $i $(⟨.node .none ``Lean.Parser.Command.declSig #[s.raw[0],s.raw[1][0]]⟩):declSig:=$v)|`(command|def $i:declId $s:optDeclSig $v:matchAlts)=>`(command|noncomputable def $i $s:optDeclSig $v:matchAlts)|`(command|@[simp] def $i:declId $s:optDeclSig:=$v)=>`(command|@[simp] noncomputable def $i $s:optDeclSig:=$v)|`(command|@[simp] def $i:declId $s:optDeclSig $v:matchAlts)=>`(command|@[simp] noncomputable def $i $s:optDeclSig $v:matchAlts)|`(command|abbrev $i:declId $s:optDeclSig:=$v)=>`(command|noncomputable abbrev $i $s:optDeclSig:=$v)
local macro_rules|`(⋯)=>`(by lia)
open PySem renaming wpAny_bind->aw,wpAny_pure->aM,wpAny_newObj_type->gF,wpAny_holding->fS,wpAny_call_entry->iF,codeAny_builtin->hW,plainId_quiet->hz,wpAny_mono->gz,wpAny_setState_of->kL,wpAny_seqItems->jz,wpAny_forIn_list->l6,wpAny_typeNameOfWhole_keyiter->vW,wpAny_tryCatch->k2,wpAny_truthy_bool->oC,wpAny_callSpecial?_slot->q0,wpAny_updateSeq->mi,wpAny_passesOwn->oK,wpAny_setEntries_of->rY,wpAny_letGo->lW,wpAny_typeOf->l7,wpAny_Call_Name_kw->ru,call_meets->kH,wpAny_specialOf->qo,wpAny_dictEntries->rd,wpAny_fieldsOf->pd,isSubtype_type->qX,wpAny_setField->rO,wpAny_pyIter_list->uV,wpAny_notOrdered_dict->x8,builtinLookup_eq_fast->xG,wpAny_rule->ov,wpAny_isInstance->tx,wpAny_of_eq->qy,wpAny_execs_nil->tF,codeAny_mono->qF,wpAny_pyIter_tuple->xp,wpAny_Call_method->w3,wpAny_pyIter_slot->w5,filterMap_getElem?_range->DH,wpAny_attempt->tp,wpAny_newList->tq,wpAny_askSetting->zf,noFill_tuple_add->zi,wpAny_Call_method_late->Br,call_meetsIn->uR,richCompare_meets_room->FQ,wpAny_dictEpoch->Ai,typeLookup_type->yK,wpAny_ite_split->z6,wpAny_isOneOf_keyiter->CJ,sizeLine_eq->tN,seqIndex_of->tL,wpAny_Assign_stores->I1,evalArgs_none->Jq,pairTrees_cons_walk->Ir,wpAny_standAt->zd,seq_tuple_add->zQ,wpAny_tupleItemsOf->HE,pairTrees_nil_walk->GH,wpAny_dictSet_heap->Kp,call_function_tree->GG,eqIsQuiet_byValue->Gi,wpAny_storeSet_of->ER,concat_meets->yW,wpAny_sequenceKey->EV,seqIndex_neg->za,slot_list_getitem->IE,list_append->EH,wpAny_setEpoch_of->Ei,wpAny_pyHash_int->Jh,wpAny_pyHash_str->J4,wpAny_execs_cons->Dm,entryFor_of_tree->EC,wpAny_alloc->x5,wpAny_field->wq,codeAny_of_tree->Ga,size_of_entries->GK,wpAny_Name->xf,wpAny_bindName->Hi,wpAny_load->wX,typeIs_str->Ag,typeIs_int->zL,fitsIndex_both->Iw,isSubtype_stop->II,entryFor_alias->Ed,wpAny_runValue->Kk,evalPart_none->B8,call_list_seq->GV,wpAny_handled->Fm,signature?_of->Hq,intBits_le_64->ED
open Option renaming bind_eq_some_iff->bg,map_eq_some_iff->b5,isSome_iff_exists->zI,isSome_map->ua,getD_none->Hm,getD_some->Cg
open List renaming length_map->a6,append_assoc->bI,getD_eq_getElem?_getD->cY,mem_singleton->cf,map_cons->bz,append_nil->bO,length_cons->b6,length_append->cC,nodup_append->cH,size_toArray->cK,mem_cons->b0,getElem?_eq_getElem->dF,mem_append_right->dH,perm_append_comm->d3,pairwise_singleton->es,getElem?_eq_some_iff->e7,mem_append_left->d6,nodup_cons->df,mem_map->cX,length_singleton->e6,getElem?_map->ef,mem_append->dM,mem_of_getElem?->fi,map_append->fq,find?_cons->fT,map_congr_left->hx,length_nil->gs,pairwise_cons->hv,lookup_cons->gK,mem_filter->gD,getElem?_append_right->kZ,nodup_nil->gB,map_map->fM,mem_range->gJ,not_mem_nil->hP,sum_cons->hg,drop_eq_getElem_cons->mS,countP_cons->i2,mem_cons_of_mem->kW,filter_cons_of_neg->mV,eq_nil_of_length_eq_zero->qv,getElem?_append_left->n3,length_range->j2,filter_cons_of_pos->nM,nil_append->jU,drop_of_length_le->ny,any_cons->i8,foldl_cons->km,mem_cons_self->mP,getElem?_set_ne->nt,all_eq_true->l5,perm_ext_iff_of_nodup->sf,pairwise_map->mg,exists_cons_of_ne_nil->sE,replicate_succ->oz,pairwise_iff_getElem->qM,getElem?_zip_eq_some->sh,length_take->m5,length_drop->m1,any_eq_true->mQ,mem_iff_getElem->pJ,flatMap_cons->ot,flatten_cons->o_,filterMap_cons->ro,map_eq_nil_iff->q8,length_pos_iff->rq,cons_append->qs,mem_flatMap->qd,length_pos_of_mem->uW,getElem?_set_self->uj,getElem?_eq_none->s6,getElem?_toArray->ta,length_filter_le->s7,getElem?_of_mem->vB,length_dropLast->uP,getElem_mem->sm,filter_cons->rD,length_erase_of_mem->zK,filterMap_cons_some->zX,of_mem_zip->rh,mem_filterMap->vh,findIdx?_eq_some_iff_getElem->FF,take_succ_eq_append_getElem->Kf,eraseIdxIfInBounds_toArray->Gh,take_append_drop->Af,nodup_range->tM,take_length->t4,any_toArray->ud,sublist_nil->vM,eq_nil_iff_forall_not_mem->CP,mem_erase_of_ne->xI,map_eq_cons_iff->AA,map_id->pV,length_set->tv,countP_eq_length_filter->Cw,any_map->q6,zip_cons_cons->zS,lookup_append->zv,length_eraseIdx_of_lt->Gz,nodup_iff_pairwise_ne->BZ,mem_of_find?_eq_some->J_,ext_getElem?->wG,foldl_append->wY,countP_congr->xS,filter_congr->yh,map_take->v5,map_drop->u7,getElem_inj->y9,ext_getElem->xl,length_eq_zero_iff->Kx,getElem?_cons_zero->Bu,getElem?_cons_succ->HW,map_fst_zip->y_,set_set->tn,take_of_length_le->Hc,filter_eq_nil_iff->Fs,length_zip->xO,dropLast_eq_take->DF,mem_iff_getElem?->Ej,pairwise_append->Hl,drop_zero->wo,nodup_iff_count->HX,perm_cons_erase->Ca,mem_map_of_mem->Jt,filter_eq_self->C5,countP_eq_zero->Dl,filter_sublist->IX,set_comm->x3,map_filterMap->DC,zip_nil_right->BF,count_pos_iff->I9,find?_eq_none->E6,take_sublist->Cm,getElem_drop->Kg,find?_append->Hu,perm_middle->Jb,getElem_map->Ie,range'_succ->DE,cons_ne_nil->Dq,zip_append->CW,forIn_cons->Dv,count_cons->Fe,sum_append->GO,filter_nil->Gf,find?_some->Hp,take_zero->Cc,all_map->Gv,map_nil->IT,not_lt->Kv
open PySem.Heap renaming get?_push_of_some->cw,lt_size->cn,get?_push_size->dE,get?_update_other->gM,get?_update_self->jB,size_push->iL,get?_none_of_le->zr
open Bool renaming false_ne_true->cB,and_eq_true->cq,false_eq_true->hr,eq_iff_iff->pU,not_eq_true'->sl,not_true->qP,false_or->tm,and_true->sV,or_eq_true->A6,toNat_le->xi,false_and->BH,and_false->Bo,xor_false->JX,decide_or->F0,or_false->C6,xor_self->En,true_and->Dx,true_or->DQ
open Nat renaming le_refl->bk,le_of_ble_eq_true->eH,ne_of_lt->c0,lt_of_lt_of_le->eF,le_trans->dg,zero_le->e9,lt_or_ge->f7,lt_irrefl->gN,lt_succ_self->mX,le_of_lt->lA,ne_of_gt->lg,not_lt_zero->qh,le_of_lt_succ->rN,lt_trans->n1,add_lt_add_iff_right->wD,lt_of_le_of_lt->uK,zero_add->qD,lt_trichotomy->vo,add_comm->pD,le_add_right->u2,succ_le_succ->uD,add_assoc->qG,succ_pos->rF,sub_self->q3,le_of_eq->rP,not_lt->pX,mod_two_eq_zero_or_one->JC,lt_add_of_pos_right->Dp,le_of_not_lt->AQ,min_eq_right->y7,lt_of_succ_lt_succ->GR,min_self->vQ,min_eq_left->wh,eq_of_beq_eq_true->Jj,pow_le_pow_right->I4,eq_zero_or_pos->Fi,mod_lt->vl,lt_succ_of_le->EL,le_succ_of_le->Kc,lt_succ_of_lt->DY,sub_zero->y6,pow_succ->z5,min_le_right->Ik,le_succ->z8,le_antisymm->HA,add_zero->BI,succ_mul->EX
open Array renaming length_toList->dA,getElem?_toList->eU,getElem?_eq_getElem->jk,getElem?_eq_some_iff->og,forIn_toList->vK,toList_filterMap->xd,getElem?_eq_none->wg,getD_eq_getD_getElem?->Cq,perm_iff_toList_perm->GS,size_map->xE,mem_toList_iff->Di,getElem_toList->HT,toList_inj->JO
open List.Perm renaming append_left->eT,append_right->fN,map->sr,eq_of_pairwise->J5
open PySem.PassesOwn renaming never->ft
open PySem.F renaming plainAttrs_list->iv,slot_list_append->jv,type_list_append->jf,slot_dict_keyiterator_next->sa,called_set->m9,slot_dict_get->pR,plain_min_loop->m3,plainAttrs_dict->r8,entry_dict_get->uh,slot_tuple_hash->r7,args_tuple_add_2->yE,slot_list_getattribute->wj,entry_tuple_add->yL,slot_tuple_add->y0,slot_dict_pop->w0,args_dict_keyiterator_next_1->Dt,entry_min_loop->tr,entry_dict_keyiterator_next->HC,slot_dict_getitem->JP,plain_extend_loop->IQ,args_dict_get_2->J2,args_dict_get_3->Jy,plain_list_iadd->Kl,slot_dict_items->J6,plain_set_new->J0,type_dict_get->CI,slot_set_iter->GC,slot_list_pop->Bj,type_list_pop->Bv,type_dict_pop->HH,args_list_append_2->C4,entry_list_append->B6,slot_list_append->DD,slot_tuple_index->Bq,slot_tuple_count->Ko,entry_list_pop->Kd,slot_dict_iter->B2,slot_list_pop->IL,slot_int_rmul->Gn,plain_min->KQ,entry_min->Jw,kind_min->BP
open PySem.W renaming kasC_bind->d1,mg_none_of->iM,kasC_pure->fl,mg_of->pY,kasC_range->oB,kasC_get->nR,kasC_cons->pO,cellsFrom_some->C8,kasC_modify->uI,kat_item->uH,kas_swaps_map->Ih,kasC_lift->zH,kat_kind->AI
open PySem.Around renaming under_plainId->iR
open Ne renaming symm->dn
open PyProof.Rows renaming slot_tuple_getitem->pA,callWith_type1->tk,callWith_builtin1->GF,assignInOrder_cons->Aa,subscriptTail_builtinR->It,entry_list_sort->AS,slot_list_sort->ym,args_list_sort->zw,entry_tuple_getitem->Hr,assign_Tuple_tuple->FI,args_tuple_getitem->GW,assignInOrder_nil->EM,plain_sorted->AZ,entry_sorted->yf,args_sorted1->yu,kind_sorted->w7,get?_update_seq->Gb,slicePart_none->KN,Subscript_->xB,tupleItemsOf_->E0,listUpdate_at->Fq,bitXor_and->MW,lt_int->Nx,gt_int->Pj
open PySem.Heap.SameBut renaming update->lH
open Int renaming toNat_natCast->j5,le_refl->iJ,emod_lt_of_pos->uQ,emod_nonneg->tc,natCast_nonneg->Ay,natCast_add->H0
open PyProof.Rows.F renaming plain_set_update_loop->xY,entry_set_update_loop->EJ
open PySem.Calls renaming callWith_builtin->r4,spliced_cons->pj,spliced_nil->ri,evalArgs_plain->tb,call_function_entry->xn,Name_function_global->D_
open Classical renaming byContradiction->uq
open List.Pairwise renaming imp_of_mem->uw,map->qL,sublist->FD,filterMap->K9,imp₂->SO
open PySem.Obj renaming data_mapFields->tg,isFreed_of_fields->BD,data_mapDictKeys->Jk,cls_mapFields->DG
open Prod renaming ext->lz,ext_iff->GL
open PySem.SetTable renaming toList_insertAt->EO
open PySem.AutoSeq1 renaming sub_tuple_tuple->HS
open Std.Legacy.Range renaming forIn_eq_forIn_range'->UC
open PySem.W.Looks renaming of_pure->wV
open PySem.SeqAt.EqAt renaming int_str->KC,str_int->H5,none_tuple->LK,bool_tuple->RU,tuple_none->Ny,tuple_bool->PR,none_bool->L6,bool_none->L9,bool_bool->SD,int_tuple->RA,str_tuple->VG,tuple_int->P4,tuple_str->LN,none_int->Sf,none_str->K2,bool_int->Rg,bool_str->Qh,int_none->R7,int_bool->Ud,str_none->Vd,str_bool->UW,int_int->LP,str_str->PY,of_refs->PX
open PySem.AutoListH renaming list___mul___list_int_3->RL
open PySem.SeqAt.RcAt renaming tuples->Dr,lists_lengths->RT,none_tuple->Qw,bool_tuple->Pz,tuple_none->VS,tuple_bool->Qq,none_none->MI,none_bool->S4,bool_none->SS,bool_bool->Nk,int_tuple->MG,str_tuple->Rk,tuple_int->Vy,tuple_str->VR,none_int->Ro,none_str->Sm,bool_int->Q5,bool_str->QE,int_none->Ln,int_bool->Q3,str_none->V4,str_bool->Rm,int_int->OL,int_str->Qz,str_int->Nl,str_str->NH,lists->R5
open PySem.IsL renaming update->CX
open PySem.SeqAt.RcNeAt renaming lists_lengths->Mg,none_tuple->M8,bool_tuple->U9,tuple_none->L1,tuple_bool->Np,none_none->VE,none_bool->UZ,bool_none->Vv,bool_bool->PK,int_tuple->Pq,str_tuple->UT,tuple_int->Sw,tuple_str->Vt,none_int->LY,none_str->Lj,bool_int->M0,bool_str->WK,int_none->V1,int_bool->MF,str_none->K1,str_bool->Ve,int_int->Sp,int_str->RK,str_int->WM,str_str->Mk,tuples->Wl,lists->V9
open Decidable renaming byContradiction->R3
open List.Nodup renaming sublist->O_
open PySem renaming Scope->hn,Str->aD,Heap->aV,Value->ag,CmpOp->kA,Sem->eP,Addr->aq,Stmt->cE,Expr->aY,Obj->a5,Shared->au,GenState->zN,World->a9,Program->bB,Around->br,SetTable->aO,reduceHash->xH,Builtin->bc,cLine->bj,model->aN,isInstance->Ac,HeapKind->AN,hashByValue->tQ,seqItems?->k8,ofAClassStatement->t2,searchCouldBeSeen->G4,carriedByValue->Ci,Model->jh,setSearchFrom->Fh,Tok->hT,Paired->dB,sysModules->h4,entryOfKey->xX,mainGlobals->d9,builtinsNs->sY,bootBuiltins->fb,Env->eQ,eval->bP,isTrue->qe,Pos->b9,backTo->ep,starEach->bD,swapsWith->rE,assign->hY,assignInOrder->w8,assignEach->fJ,setItem->sF,swapsWithSole->pf,swappedStores->pB,bindName->tU,PassesOwn->sR,pyNext->fE,letOwnedTupleGo->uv,pyIter->oc,rawInt->fx,Walks->hH,foldedSetIterable->p3,Operator->yp,binaryOp->e5,compareOp->eL,behindInMarks->oX,recursionLimit->Cd,Result->qw,FuncData->gZ,BindsTo->nc,bindArgs->kB,Keyword->g0,NameKind->c7,cellsFrom->zT,richCompare->kX,IsPart->kT,getItem->ke,typeLookup->uZ,seqIndex?->zh,sliceBounds->nz,PlainAttrs->tC,Slot->mW,typeOf->n0,attributeBase->je,backToKw->ma,keywordEach->mE,valueAt->o3,atKey->l2,Params->tT,callerA->oG,DictEntry->xo,cellOf->tK,compEnvC->s9,newFunctionEnv->IB,comprehension->Ks,newList->r9,setField->yd,newExc->ug,newTuple->zZ,firstArgMember->uk,entryFor->pT,table->p6,argsOk->sG,drawOrder->xh,setNext->mz,setEntries->u3,pickOrder->js,updateSeq->pw,shortFactorBits->sW,checkCount->wd,getattributeRaised->JV,PyData->mM,argBest->ib
open Bool renaming true->aa,false->aA
open Option renaming some->Z,none->V
open PyProof.Rows renaming IsTup->nh,AllBare->l1,envOfC->jm,subscriptTail->yQ,IntsAre->sq,bubble->qS,SortKind->gA,Keyed->h1,SortSt->eZ,arrOf->lD,pendingOf->my,failedOf->qk,ltAt'->o2,reverseSlice'->r5,setPending->xC,seqObj->fL,keyKind'->yA,tuples'->p0
open PySem.W renaming WData->rK,WShape->sC,kas_rev->m7,kas_cmp->ix,kas_item->i7,Frag->Φ,fnOf->Ψ,nsIn->Ξ,keepIn->Θ,codeIn->Δ,methodObj->Γ
open PySem
abbrev bG:=@decide_eq_true
abbrev aF:=@if_pos
abbrev ek:=@decide_eq_true_iff
abbrev e_:=@of_decide_eq_true
abbrev fW:=@decide_eq_decide
abbrev iu:=@beq_self_eq_true
abbrev eR:=@if_false
abbrev hl:=@if_true
abbrev ve:=@beq_eq_false_iff_ne
abbrev zY:=@decide_eq_false_iff_not
abbrev oI:=@beq_iff_eq
abbrev td:=@or_false
namespace iS
variable{ai:Type}[DecidableEq ai]
def rr(g d e A:ai):Nat:=(if (g=e/\d=A)\/(g=A/\d=e) then 1 else 0)
def lk(F:List ai)(g e A:ai):Nat:=(match F.getLast? with
 |none=>0
 |some H=>rr g H e A)
variable{XA:ai->ai->Nat}{W:ai->List ai}{D:List ai}{f d:ai}{F:List ai}{m i g:ai}{J:List ai}
end iS
namespace iS
variable{ai:Type}[DecidableEq ai]{o:ai}
def co(o:ai):List ai->Nat
 |g::d::p=>(if g=o\/d=o then 1 else 0)+co o (d::p)
 |_=>0
theorem ra:∀{c:List ai}{d:ai},c.Nodup->d∈c->(c.map λA=>if d=A then 1 else 0).sum=1
 |[],d,_,b=>absurd b ↥0
 |f::c,d,ae,b=>by
  have ae:=df.mp ae;rw[bz,hg];by_cases a:d=f
  ·have:(c.map λA=>if d=A then 1 else 0).sum=0:=by
    have all:∀J:List ai,d∉J->(J.map λA=>if d=A then 1 else 0).sum=0:=λJ=>by
     induction J with
     |nil=>exact λ_=>rfl
     |cons r J g=>
      intro e;rw[bz,hg,if_neg<|show ¬ d=r from λi=>e<|i ▸ .head _,g λi=>e<|.tail _ i]
    exact all c (a ▸ ae.1)
   rw[aF a,this]
  ·rw[if_neg a,ra ae.2<|(b0.mp b).resolve_left a,qD]
theorem sum_add{XR:Type}(F O:XR->Nat):∀J:List XR,(J.map λA=>F A+O A).sum=(J.map F).sum+(J.map O).sum
 |[]=>rfl
 |g::J=>by rw[bz,bz,bz,hg,hg,hg,sum_add F O J];omega
theorem FA{XR:Type}:∀J:List XR,(J.map λ_=>0).sum=0
 |[]=>rfl
 |g::J=>by rw[bz,hg,FA J]
end iS
variable{XR:Sort _}{s:Prop}
def xE1{n:XR->Prop}(b:∃g,n g)(q:∀g,n g->s):s:=have ⟨g,i⟩:=b;q g i
variable{Yv:Sort _}
def xE2{n:XR->Yv->Prop}(b:∃g d,n g d)(q:∀g d,n g d->s):s:=have ⟨g,d,i⟩:=b;q g d i
variable{Zb:Sort _}
def xE3{n:XR->Yv->Zb->Prop}(b:∃g d f,n g d f)(q:∀g d f,n g d f->s):s:=have ⟨g,d,f,i⟩:=b;q g d f i
variable{Zc:Sort _}
def xE4{n:XR->Yv->Zb->Zc->Prop}(b:∃g d f r,n g d f r)(q:∀g d f r,n g d f r->s):s:=have ⟨g,d,f,r,i⟩:=b;q g d f r i
variable{Zd:Sort _}
def xE5{n:XR->Yv->Zb->Zc->Zd->Prop}(b:∃g d f r a,n g d f r a)(q:∀g d f r a,n g d f r a->s):s:=have ⟨g,d,f,r,a,i⟩:=b;q g d f r a i
variable{Ze:Sort _}
def xE6{n:XR->Yv->Zb->Zc->Zd->Ze->Prop}(b:∃g d f r a F,n g d f r a F)(q:∀g d f r a F,n g d f r a F->s):s:=have ⟨g,d,f,r,a,F,i⟩:=b;q g d f r a F i
def xE9{c:Sort _}{X6:Sort _}{e:Sort _}{n:XR->Yv->Zb->Zc->Zd->Ze->c->X6->e->Prop}(b:∃g d f r a F O h k,n g d f r a F O h k)(q:∀g d f r a F O h k,n g d f r a F O h k->s):s:=have ⟨g,d,f,r,a,F,O,h,k,i⟩:=b;q g d f r a F O h k i
variable{g d:Prop}
def xA2(b:g/\d)(q:g->d->s):s:=q b.1 b.2
variable{f:Prop}
def xA3(b:g/\d/\f)(q:g->d->f->s):s:=q b.1 b.2.1 b.2.2
variable{r:Prop}
def xA4(b:g/\d/\f/\r)(q:g->d->f->r->s):s:=q b.1 b.2.1 b.2.2.1 b.2.2.2
variable{a:Prop}
def xA5(b:g/\d/\f/\r/\a)(q:g->d->f->r->a->s):s:=q b.1 b.2.1 b.2.2.1 b.2.2.2.1 b.2.2.2.2
variable{F:Prop}
def xA6(b:g/\d/\f/\r/\a/\F)(q:g->d->f->r->a->F->s):s:=q b.1 b.2.1 b.2.2.1 b.2.2.2.1 b.2.2.2.2.1 b.2.2.2.2.2
variable{O:Prop}
def xA7(b:g/\d/\f/\r/\a/\F/\O)(q:g->d->f->r->a->F->O->s):s:=q b.1 b.2.1 b.2.2.1 b.2.2.2.1 b.2.2.2.2.1 b.2.2.2.2.2.1 b.2.2.2.2.2.2
def xA8{h:Prop}(b:g/\d/\f/\r/\a/\F/\O/\h)(q:g->d->f->r->a->F->O->h->s):s:=q b.1 b.2.1 b.2.2.1 b.2.2.2.1 b.2.2.2.2.1 b.2.2.2.2.2.1 b.2.2.2.2.2.2.1 b.2.2.2.2.2.2.2
set_option maxRecDepth 100000
namespace L2
open Spec PyProof.Rows
variable{X2:hn}{YI e:aD}{X9 b:aV}{aJ:aD->Option ag}{XF Yg:List aD}{Yn:kA}{F:ag->ag->eP ag}{b7 YS:List aq}{YX:List cE}{O:Int->Int->Int}{Yi f a:aY}{U:Φ}{G:List (aq×a5)}{XM m:au}{YE:Drawn}{Yc X8 v k h q E:Nat}{Y0:Array zN}{H:a9}{XI:bB}{I:ag}{d g:aq}{XZ:List ag}{o:a5}{y XA:ag->au->Prop}{L:br}{P:Array (Int×ag)}{X7:Array (Option Nat)}{XR:Type}{XO:List Int}{YC:Bool}{C:aO}{x:Array Nat}
inductive X where
 | aK|aH (d:Bool)|int (h:Int)|str (e:aD)|tup (D:List X)|fn (g:aq)|aW (D:List X)|fd (E:List ((Int×Int)×Int))
mutual
def X.beq:X->X->Bool
 |.aK,.aK=>aa
 |.aH g,.aH d=>g==d
 |.int h,.int k=>decide (h=k)
 |.str e,.str A=>decide (e=A)
 |.tup g,.tup d=>X.lr g d
 |.fn g,.fn d=>decide (g=d)
 |.aW g,.aW d=>X.lr g d
 |.fd g,.fd d=>decide (g=d)
 |_,_=>aA
def X.lr:List X->List X->Bool
 |[],[]=>aa
 |g::p,d::C=>X.beq g d&&X.lr p C
 |_,_=>aA
end
mutual
theorem X.beq_iff:∀g d:X,X.beq g d=aa↔g=d
 |.aK,d=>by cases d<;>simp[X.beq]
 |.aH g,d=>by cases d<;>simp[X.beq]
 |.int h,d=>by cases d<;>simp[X.beq]
 |.str e,d=>by cases d<;>simp[X.beq]
 |.tup e,d=>by
  cases d with
  |tup A=>rw[X.beq,X.AD e A];simp
  |_=>simp[X.beq]
 |.fn g,d=>by cases d<;>simp[X.beq]
 |.aW e,d=>by
  cases d with
  |aW A=>rw[X.beq,X.AD e A];simp
  |_=>simp[X.beq]
 |.fd g,d=>by cases d<;>simp[X.beq]
theorem X.AD:∀g d:List X,X.lr g d=aa↔g=d
 |[],d=>by cases d<;>simp[X.lr]
 |e::p,d=>by
  cases d with
  |nil=>simp[X.lr]
  |cons A C=>rw[X.lr,cq,X.beq_iff e A,X.AD p C];simp
end
variable{M:List (List X)}
noncomputable instance:DecidableEq X:=λg d=>decidable_of_iff (X.beq g d=aa) (X.beq_iff g d)
mutual
def dh(b:aV):X->ag->Prop
 |.aK,u=>u=.none
 |.aH d,u=>u=.bool d
 |.int h,u=>∃C,u=.int h C
 |.str e,u=>∃C,u=.str e C
 |.fn g,u=>u=.ref g
 |.aW _,u=>∃g,u=.ref g
 |.fd _,u=>∃g,u=.ref g
 |.tup D,u=>∃g o X1 v,u=.ref g/\b.get? g=Z o/\o.cls=.type "tuple" /\ o.data=.seq X1 v/\dy b D X1.toList
def dy(b:aV):List X->List ag->Prop
 |[],Q=>Q=[]
 |r::D,Q=>∃u p,Q=u::p/\dh b r u/\dy b D p
end
mutual
def X.key:Nat->X->Bool
 |_,.int _=>aa
 |_,.str _=>aa
 |v+1,.tup D=>X.keys v D
 |_,_=>aA
def X.keys:Nat->List X->Bool
 |_,[]=>aa
 |v,r::D=>X.key v r&&X.keys v D
end
mutual
def dD(H:a9):X->Int
 |.int h=>hashInt h
 |.str e=>hashStr H e
 |.tup D=>xH (bc.Tuple.tupleHashOf<|ig H D)
 |_=>0
def ig(H:a9):List X->List Int
 |[]=>[]
 |r::D=>dD H r::ig H D
end
mutual
def uU:X->Nat
 |.tup D=>jI D+1
 |_=>1
def jI:List X->Nat
 |[]=>0
 |r::D=>uU r+jI D
end
theorem Bg(H:a9):∀g d:List X,ig H (g++d)=ig H g++ig H d
 |[],d=>rfl
 |r::g,d=>by rw[qs,ig,ig,Bg H g d,qs]
theorem A0:∀g d:List X,jI (g++d)=jI g+jI d
 |[],d=>by simp[jI]
 |r::g,d=>by rw[qs,jI,jI,A0 g d];lia
theorem CU{v:Nat}:∀{g d:List X},X.keys v (g++d)=aa->X.keys v d=aa
 |[],d,b=>b
 |r::g,d,b=>by rw[qs,X.keys,cq]at b;exact CU b.2
theorem dy.length{b:aV}:∀{D:List X}{Q:List ag},dy b D Q->D.length=Q.length
 |[],Q,a=>by rw[show Q=[] from a];rfl
 |r::D,Q,a=>by
  let⟨u,@p,rfl,Y,a⟩:=a;rw[b6,b6,dy.length a]
def vP(b ah:aV):Prop:=(∀g o X1 v,b.get? g=Z o->o.cls=.type "tuple" -> o.data=.seq X1 v->ah.get? g=Z o)
mutual
theorem dh.keep{b ah:aV}(q:vP b ah):∀{r:X}{u:ag},dh b r u->dh ah r u
 |.aK,_,a=>a
 |.aH _,_,a=>a
 |.int _,_,a=>a
 |.str _,_,a=>a
 |.fn _,_,a=>a
 |.aW _,_,a=>a
 |.fd _,_,a=>a
 |.tup D,_,a=>by
  let⟨g,o,X1,@v,rfl,l,t,c,d⟩:=a;exact⟨g,o,X1,v,rfl,q g o X1 v l t c,t,c,dy.keep q d⟩
theorem dy.keep{b ah:aV}(q:vP b ah):∀{D:List X}{Q:List ag},dy b D Q->dy ah D Q
 |[],_,a=>a
 |r::D,_,a=>by
  let⟨u,@p,rfl,l,t⟩:=a;exact⟨u,p,rfl,dh.keep q l,dy.keep q t⟩
end
theorem Gy{b:aV}:∀(v:Nat) {e A:X}{u:ag},X.key v e=aa->X.key v A=aa->dh b e u->dh b A u->e=A
 |v,.int h,A,u,_,a4,f,c=>by
  let⟨@C,rfl⟩:=f;cases A with
  |int k=>let⟨@I,a⟩:=c;injection a with a;rw[a]
  |str i=>let⟨@I,a⟩:=c;cases a
  |tup D=>let⟨Y,Y,Y,@Y,a,Y⟩:=c;cases a
  |_=>cases v<;>cases a4
 |v,.str i,A,u,_,a4,f,c=>by
  let⟨@C,rfl⟩:=f;cases A with
  |int k=>let⟨@I,a⟩:=c;cases a
  |str i=>let⟨@I,a⟩:=c;injection a with a;rw[a]
  |tup D=>let⟨Y,Y,Y,@Y,a,Y⟩:=c;cases a
  |_=>cases v<;>cases a4
 |v+1,.tup D,A,u,x,a4,f,c=>by
  let⟨g,o,X1,@E,rfl,l,t,y,z⟩:=f;cases A with
  |int k=>let⟨@I,a⟩:=c;cases a
  |str i=>let⟨@I,a⟩:=c;cases a
  |tup P=>
   let⟨H,Yy,J,@L,a,w,M,j,B⟩:=c;cases a;rw[l]at w;cases w;rw[y]at j;injection j with j _;subst j;have all:∀(D P:List X) (Q:List ag),X.keys v D=aa->X.keys v P=aa->dy b D Q->dy b P Q->D=P:=by
    intro D;induction D with
    |nil=>
     intro P Q Y Y g d;cases P with
     |nil=>rfl
     |cons a P=>let⟨Y,@Y,s,Y⟩:=d;rw[show Q=[] from g]at s;cases s
    |cons r D F=>
     intro P Q m n g d;let⟨u,@p,rfl,G,YH⟩:=g;cases P with
     |nil=>cases (show u::p=[] from d)
     |cons a P=>
      let⟨N,@Yr,s,c2,c6⟩:=d;cases s;rw[X.keys,cq]at m n;rw[Gy v m.1 n.1 G c2,F P p m.2 n.2 YH c6]
   rw[all D P _ x a4 z B]
  |_=>cases a4
 |_,.aK,_,_,q,_,_,_=>by cases ‹Nat›<;>cases q
 |_,.aH _,_,_,q,_,_,_=>by cases ‹Nat›<;>cases q
 |_,.fn _,_,_,q,_,_,_=>by cases ‹Nat›<;>cases q
 |_,.aW _,_,_,q,_,_,_=>by cases ‹Nat›<;>cases q
 |_,.fd _,_,_,q,_,_,_=>by cases ‹Nat›<;>cases q
 |0,.tup _,_,_,q,_,_,_=>by cases q
section
variable{XJ:bB}{H:a9}
theorem Hd:∀(v:Nat) {L:br}{XA:ag->au->Prop}{m:au}{r:X}{u:ag}{y:Int->au->Prop},X.key v r=aa->L.units+v<bj->dh m.heap r u->y (dD H r) {m with toks:=m.toks+uU r}->
  wpAny (aN XJ H) L (pyHash u) y XA m
 |v,L,XA,m,.int h,u,y,_,_,c,b=>by
  let⟨@C,rfl⟩:=c;exact Jh b
 |v,L,XA,m,.str h,u,y,_,_,c,b=>by
  let⟨@C,rfl⟩:=c;exact J4 b
 |v+1,L,XA,m,.tup D,u,y,q,x,c,b=>by
  let⟨g,o,X1,@E,rfl,n,w,hd,XG⟩:=c;have f:m.TypeIs (.ref g) "tuple" := ⟨o,n,w⟩;unfold pyHash;first|unfold pyHashByItsType|skip
  first|refine aw (wpAny_cRoomFor_or (.inr ⋯) ?_)|skip
  refine aw (qo f r7.lookup ?_);show wpAny _ _ (if (Z (ag.builtin "tuple.__hash__")==Z ag.none)=aa then _ else _) y XA m;rw[if_neg (by rw[beq_builtin_none];exact cB)];refine aw (qo f r7.lookup ?_);show wpAny _ _ (callSpecialIfBoundUnlessNone? (.ref g) "__hash__" _ >>= _) y XA m;refine aw (wpAny_callSpecialIfBoundUnlessNone?_slot f r7<|iF r7 f F.entry_tuple_hash ?_<|F.args_tuple_hash_1 _);show wpAny _ _ (bc.Tuple.tupleItemsOf (.ref g) >>= _) _ _ m;refine aw (HE n hd ?_);refine aw ?_;rw[<-vK];refine l6 _
   (λcR (d:Array Int) XM=>∃done left,D=done++left/\dy m.heap left cR/\d.toList=ig H done/\XM={m with toks:=m.toks+jI done})
   _ ?_ ?_ _ _ ⟨[],D,rfl,XG,rfl,rfl⟩
  ·rintro e cR d XM ⟨done,left,rfl,i,j,rfl⟩;cases left with
   |nil=>cases (show e::cR=[] from i)
   |cons r left=>
    let⟨u,@p,a,l,s⟩:=i;cases a;have t:=CU (g:=done) (show X.keys v (done++r::left)=aa from q);rw[X.keys,cq]at t;refine aw (Hd v t.1 (by show L.units+1+v<bj;lia) l ?_);first
     | exact aM ⟨done++[r],left,by simp,s,by simp[j,Bg,ig],by simp[A0,jI,qG]⟩
     | exact aw (aM (aM ⟨done++[r],left,by simp,s,by simp[j,Bg,ig],by simp[A0,jI,qG]⟩))
  ·rintro d XM ⟨done,left,rfl,i,j,rfl⟩;cases left with
   |cons r left=>let⟨Y,@Y,a,Y⟩:=i;cases a
   |nil=>
   rw[bO]at b;show wpAny _ _ (retInt<|bc.Tuple.tupleHashOf d.toList) _ _ _;rw[j];refine wpAny_ret_mkInt ?_;show wpAny _ _ (if (decide (-(2:Int)^63<=bc.Tuple.tupleHashOf (ig H done))&&decide (bc.Tuple.tupleHashOf (ig H done)<2^63))=aa then _ else _) y XA _;rw[dD,uU]at b;unfold xH at b;by_cases k:(decide (-(2:Int)^63<=bc.Tuple.tupleHashOf (ig H done))&&decide (bc.Tuple.tupleHashOf (ig H done)<2^63))=aa
   ·rw[aF k];rw[aF k]at b;exact aM (by simpa [qG] using b)
   ·rw[if_neg k];rw[if_neg k]at b;exact aw (ov (aM (by simpa [qG] using b)))
 |_,_,_,_,.aK,_,_,q,_,_,_=>by cases ‹Nat›<;>cases q
 |_,_,_,_,.aH _,_,_,q,_,_,_=>by cases ‹Nat›<;>cases q
 |_,_,_,_,.fn _,_,_,q,_,_,_=>by cases ‹Nat›<;>cases q
 |_,_,_,_,.aW _,_,_,q,_,_,_=>by cases ‹Nat›<;>cases q
 |_,_,_,_,.fd _,_,_,q,_,_,_=>by cases ‹Nat›<;>cases q
 |0,_,_,_,.tup _,_,_,q,_,_,_=>by cases q
mutual
def b1:X->X->Bool
 |.aK,.aK=>aa
 |.aH g,.aH d=>g==d
 |.aH g,.int k=>(if g then 1 else 0)==k
 |.int h,.aH d=>h==(if d then 1 else 0)
 |.int h,.int k=>h==k
 |.str e,.str A=>e==A
 |.tup g,.tup d=>fs g d
 |_,_=>aA
def fs:List X->List X->Bool
 |[],[]=>aa
 |g::p,d::C=>b1 g d&&fs p C
 |_,_=>aA
end
mutual
def X.bl:Nat->X->Bool
 |_,.aK=>aa
 |_,.aH _=>aa
 |_,.int _=>aa
 |_,.str _=>aa
 |v+1,.tup D=>X.ct v D
 |_,_=>aA
def X.ct:Nat->List X->Bool
 |_,[]=>aa
 |v,r::D=>X.bl v r&&X.ct v D
end
theorem jS{v:Nat}:∀{D:List X}{k:Nat}{r:X},X.ct v D=aa->D[k]?=Z r->X.bl v r=aa
 |[],k,r,_,b=>by simp at b
 |a::D,0,r,q,b=>by
  rw[X.ct,cq]at q;simp at b;subst b;exact q.1
 |a::D,k+1,r,q,b=>by
  rw[X.ct,cq]at q;exact jS q.2 ⇑b
theorem dy.get{b:aV}:∀{D:List X}{Q:List ag}{k:Nat}{u:ag},dy b D Q->Q[k]?=Z u->∃r,D[k]?=Z r/\dh b r u
 |[],Q,k,u,g,a=>by rw[show Q=[] from g]at a;simp at a
 |r::D,Q,0,u,g,a=>by
  let⟨I,@p,rfl,c,YH⟩:=g;simp at a;subst a;exact⟨r,rfl,c⟩
 |r::D,Q,k+1,u,g,a=>by
  let⟨I,@p,rfl,c,YH⟩:=g;let⟨@YE,l,t⟩:=dy.get (k:=k) YH ⇑a;exact⟨YE,by simpa using l,t⟩
theorem JZ{b:aV}:∀(v:Nat) {e A:X}{u:ag},X.bl v e=aa->X.bl v A=aa->dh b e u->dh b A u->b1 e A=aa
 |v,.aK,A,u,_,a4,j,c=>by
  cases (show u=.none from j);cases A with
  |aK=>rfl
  |aH d=>cases c
  |int k=>let⟨@I,a⟩:=c;cases a
  |str i=>let⟨@I,a⟩:=c;cases a
  |tup D=>let⟨Y,Y,Y,@Y,a,Y⟩:=c;cases a
  |fn g=>cases v<;>cases a4
  |aW g=>cases v<;>cases a4
  |fd=>cases v<;>cases a4
 |v,.aH d,A,u,_,a4,j,c=>by
  cases (show u=.bool d from j);cases A with
  |aK=>cases c
  |aH f=>cases c;simp[b1]
  |int k=>let⟨@I,a⟩:=c;cases a
  |str i=>let⟨@I,a⟩:=c;cases a
  |tup D=>let⟨Y,Y,Y,@Y,a,Y⟩:=c;cases a
  |fn g=>cases v<;>cases a4
  |aW g=>cases v<;>cases a4
  |fd=>cases v<;>cases a4
 |v,.int h,A,u,_,a4,j,c=>by
  let⟨@C,rfl⟩:=j;cases A with
  |aK=>cases c
  |aH f=>cases c
  |int k=>let⟨@I,a⟩:=c;cases a;simp[b1]
  |str i=>let⟨@I,a⟩:=c;cases a
  |tup D=>let⟨Y,Y,Y,@Y,a,Y⟩:=c;cases a
  |fn g=>cases v<;>cases a4
  |aW g=>cases v<;>cases a4
  |fd=>cases v<;>cases a4
 |v,.str h,A,u,_,a4,j,c=>by
  let⟨@C,rfl⟩:=j;cases A with
  |aK=>cases c
  |aH f=>cases c
  |int k=>let⟨@I,a⟩:=c;cases a
  |str i=>let⟨@I,a⟩:=c;cases a;simp[b1]
  |tup D=>let⟨Y,Y,Y,@Y,a,Y⟩:=c;cases a
  |fn g=>cases v<;>cases a4
  |aW g=>cases v<;>cases a4
  |fd=>cases v<;>cases a4
 |v+1,.tup D,A,u,y,a4,j,c=>by
  let⟨g,o,X1,@E,rfl,l,t,z,B⟩:=j;cases A with
  |aK=>cases c
  |aH f=>cases c
  |int k=>let⟨@I,a⟩:=c;cases a
  |str i=>let⟨@I,a⟩:=c;cases a
  |fn g=>cases a4
  |aW g=>cases a4
  |fd=>cases a4
  |tup P=>
   let⟨J,Yy,L,@M,a,x,N,m,F⟩:=c;cases a;rw[l]at x;cases x;rw[z]at m;injection m with m _;subst m;have all:∀(D P:List X) (Q:List ag),X.ct v D=aa->X.ct v P=aa->dy b D Q->dy b P Q->fs D P=aa:=by
    intro D;induction D with
    |nil=>
     intro P Q Y Y g d;cases P with
     |nil=>rfl
     |cons a P=>let⟨Y,@Y,s,Y⟩:=d;rw[show Q=[] from g]at s;cases s
    |cons r D G=>
     intro P Q n w g d;let⟨u,@p,rfl,H,YH⟩:=g;cases P with
     |nil=>cases (show u::p=[] from d)
     |cons a P=>
      let⟨O,@Yr,s,c2,c6⟩:=d;cases s;rw[X.ct,cq]at n w;rw[fs,JZ v n.1 w.1 H c2,G P p n.2 w.2 YH c6];rfl
   rw[b1];exact all D P _ y a4 B F
 |v,.fn _,_,_,q,_,_,_=>by cases v<;>cases q
 |v,.aW _,_,_,q,_,_,_=>by cases v<;>cases q
 |v,.fd _,_,_,q,_,_,_=>by cases v<;>cases q
 |0,.tup _,_,_,q,_,_,_=>by cases q
def qQ{a:Nat->Bool}:∀{D P:List X},(∀(k:Nat) (e A:X),D[k]?=Z e->P[k]?=Z A->a k=b1 e A)->((range<|min D.length P.length).all a&&D.length==P.length)=fs D P:=by
 have XX:∀(D P:List X) (F:Nat->Bool),(∀(k:Nat) (e A:X),D[k]?=Z e->P[k]?=Z A->F k=b1 e A)->((range<|min D.length P.length).all F&&D.length==P.length)=fs D P:=by
  intro D;induction D with
  |nil=>intro P F Y;cases P<;>simp[fs]
  |cons r D c=>
   intro P F b;cases P with
   |nil=>simp[fs]
   |cons f P=>
    have:=c P (λk=>F<|k+1) λk e A g d=>b (k+1) e A ⇑g ⇑d;rw[fs,<-this,<-b 0 r f rfl rfl];rw[b6,b6,show min (D.length+1) (P.length+1)=min D.length P.length+1 by lia,List.range_succ_eq_map,List.all_cons,Gv,Bool.and_assoc];congr 2;rw[pU];simp
 exact λ{D P} b=>XX D P a b
theorem hM{m:au}:∀(v:Nat) {L:br}{e A:X}{I u:ag},X.bl v e=aa->X.bl v A=aa->L.units+v+1<bj->dh m.heap e I->dh m.heap A u->SeqAt.EqAt L m I u (b1 e A)
 |v,L,.aK,A,I,u,_,a4,p,j,b=>by
  cases (show I=.none from j);cases A with
  |aK=>cases (show u=.none from b);exact SeqAt.EqAt.same _
  |aH d=>cases (show u=.bool d from b);exact L6 d
  |int k=>let⟨@C,rfl⟩:=b;exact Sf k C
  |str i=>let⟨@C,rfl⟩:=b;exact K2 i C
  |tup D=>let⟨g,o,X1,@E,rfl,l,t,n,Y⟩:=b;exact LK ⟨o,l,t,E,n⟩ ⋯
  |fn g=>cases v<;>cases a4
  |aW g=>cases v<;>cases a4
  |fd=>cases v<;>cases a4
 |v,L,.aH d,A,I,u,_,a4,p,j,b=>by
  cases (show I=.bool d from j);cases A with
  |aK=>cases (show u=.none from b);exact L9 d
  |aH f=>cases (show u=.bool f from b);exact SD d f
  |int k=>let⟨@C,rfl⟩:=b;exact Rg d k C
  |str i=>let⟨@C,rfl⟩:=b;exact Qh d i C
  |tup D=>let⟨g,o,X1,@E,rfl,l,t,n,Y⟩:=b;exact RU d ⟨o,l,t,E,n⟩ ⋯
  |fn g=>cases v<;>cases a4
  |aW g=>cases v<;>cases a4
  |fd=>cases v<;>cases a4
 |v,L,.int h,A,I,u,_,a4,p,j,b=>by
  let⟨@c,rfl⟩:=j;cases A with
  |aK=>cases (show u=.none from b);exact R7 h c
  |aH f=>cases (show u=.bool f from b);exact Ud h c f
  |int k=>let⟨@C,rfl⟩:=b;exact LP h c k C
  |str i=>let⟨@C,rfl⟩:=b;exact KC h c i C
  |tup D=>let⟨g,o,X1,@E,rfl,l,t,n,Y⟩:=b;exact RA h c ⟨o,l,t,E,n⟩ ⋯
  |fn g=>cases v<;>cases a4
  |aW g=>cases v<;>cases a4
  |fd=>cases v<;>cases a4
 |v,L,.str h,A,I,u,_,a4,p,j,b=>by
  let⟨@c,rfl⟩:=j;cases A with
  |aK=>cases (show u=.none from b);exact Vd h c
  |aH f=>cases (show u=.bool f from b);exact UW h c f
  |int k=>let⟨@C,rfl⟩:=b;exact H5 h c k C
  |str i=>let⟨@C,rfl⟩:=b;exact PY h c i C
  |tup D=>let⟨g,o,X1,@E,rfl,l,t,n,Y⟩:=b;exact VG h c ⟨o,l,t,E,n⟩ ⋯
  |fn g=>cases v<;>cases a4
  |aW g=>cases v<;>cases a4
  |fd=>cases v<;>cases a4
 |v+1,L,.tup D,A,I,u,w,a4,p,j,b=>by
  have H:=j;let⟨g,o,X1,@E,rfl,l,t,n,x⟩:=j;have Yx:m.heap.IsTuple g X1:=⟨o,l,t,E,n⟩;cases A with
  |aK=>cases (show u=.none from b);exact Ny Yx ⋯
  |aH f=>cases (show u=.bool f from b);exact PR f Yx ⋯
  |int k=>let⟨@C,rfl⟩:=b;exact P4 k C Yx ⋯
  |str i=>let⟨@C,rfl⟩:=b;exact LN i C Yx ⋯
  |fn g=>cases a4
  |aW g=>cases a4
  |fd=>cases a4
  |tup P=>
   have J:=b;let⟨d,Yy,r,@M,rfl,N,O,Q,y⟩:=b;by_cases a:g=d
   ·subst a;rw[JZ (v+1) w a4 H J];exact SeqAt.EqAt.same _
   ·have Yd:m.heap.IsTuple d r:=⟨Yy,N,O,M,Q⟩;have z:=x.length;have B:=y.length;have R:X1.toList.length=X1.size:=by simp
    have S:r.toList.length=r.size:=by simp
    rw[R]at z;rw[S]at B;have s:=PX (A:=L) a (Dr (e:=λk=>b1 (D.getD k .aK)<|P.getD k .aK) Yx Yd ⋯ λk U al=>by
     let⟨@Ym,F,am⟩:=x.get (k:=k) (u:=X1[k]) (by rw[eU];simp[U]);let⟨@T,G,an⟩:=y.get (k:=k) (u:=r[k]) (by rw[eU];simp[al]);rw[cY,F,cY,G];exact hM v (jS w F) (jS a4 G) (by show L.units+1+v+1<bj;lia) am an)
    rw[<-z,<-B,qQ (D:=D) (P:=P) (λk e A g d=>by rw[cY,g,cY,d];rfl)]at s;rw[b1];exact s
 |v,L,.fn _,_,_,_,q,_,_,_,_=>by cases v<;>cases q
 |v,L,.aW _,_,_,_,q,_,_,_,_=>by cases v<;>cases q
 |v,L,.fd _,_,_,_,q,_,_,_,_=>by cases v<;>cases q
 |0,L,.tup _,_,_,_,q,_,_,_,_=>by cases q
mutual
theorem yO:∀{v:Nat}{r:X},X.key v r=aa->X.bl v r=aa
 |v,.int _,_=>by cases v<;>rfl
 |v,.str _,_=>by cases v<;>rfl
 |v+1,.tup D,b=>by rw[X.key]at b;rw[X.bl];exact DR b
 |0,.tup _,b=>by cases b
 |v,.aK,b=>by cases v<;>cases b
 |v,.aH _,b=>by cases v<;>cases b
 |v,.fn _,b=>by cases v<;>cases b
 |v,.aW _,b=>by cases v<;>cases b
 |v,.fd _,b=>by cases v<;>cases b
theorem DR:∀{v:Nat}{D:List X},X.keys v D=aa->X.ct v D=aa
 |v,[],_=>by rw[X.ct]
 |v,r::D,b=>by rw[X.keys,cq]at b;rw[X.ct,yO b.1,DR b.2];rfl
end
mutual
theorem G7:∀{v:Nat}{e A:X},X.key v e=aa->X.key v A=aa->b1 e A=decide (e=A)
 |v,.int h,A,_,c=>by
  cases A with
  |int k=>rw[b1];by_cases a:h=k<;>simp[a]
  |str i=>simp[b1]
  |tup i=>simp[b1]
  |_=>cases v<;>cases c
 |v,.str h,A,_,c=>by
  cases A with
  |int k=>simp[b1]
  |str i=>rw[b1];by_cases a:h=i<;>simp[a]
  |tup i=>simp[b1]
  |_=>cases v<;>cases c
 |v+1,.tup D,A,d,c=>by
  cases A with
  |int k=>simp[b1]
  |str i=>simp[b1]
  |tup P=>
   rw[X.key]at d c;rw[b1,G9 d c];simp
  |_=>cases c
 |0,.tup _,_,b,_=>by cases b
 |v,.aK,_,b,_=>by cases v<;>cases b
 |v,.aH _,_,b,_=>by cases v<;>cases b
 |v,.fn _,_,b,_=>by cases v<;>cases b
 |v,.aW _,_,b,_=>by cases v<;>cases b
 |v,.fd _,_,b,_=>by cases v<;>cases b
theorem G9:∀{v:Nat}{e A:List X},X.keys v e=aa->X.keys v A=aa->fs e A=decide (e=A)
 |v,[],A,_,_=>by cases A<;>simp[fs]
 |v,r::D,[],_,_=>by simp[fs]
 |v,r::D,a::P,b,c=>by
  rw[X.keys,cq]at b c;rw[fs,G7 b.1 c.1,G9 b.2 c.2];by_cases l:r=a<;>by_cases t:D=P<;>simp[l,t]
end
theorem u9:∀(v:Nat) {L:br}{XA:ag->au->Prop}{m:au}{r:X}{u:ag}{y:Bool->au->Prop},X.key v r=aa->dh m.heap r u->y aa m->wpAny (aN XJ H) L (eqIsQuiet v u) y XA m
 |v,L,XA,m,.int h,u,y,_,c,b=>by
  let⟨@C,rfl⟩:=c;rw[Gi v rfl];exact aM b
 |v,L,XA,m,.str h,u,y,_,c,b=>by
  let⟨@C,rfl⟩:=c;rw[Gi v rfl];exact aM b
 |v+1,L,XA,m,.tup D,u,y,q,c,b=>by
  let⟨g,o,X1,@E,rfl,f,k,hd,XG⟩:=c;have i:m.TypeIs (.ref g) "tuple" := ⟨o,f,k⟩;unfold eqIsQuiet;refine aw (qo i F.slot_tuple_eq.lookup ?_);show wpAny _ _ (Ac (.ref g) (.type "tuple") >>= _) _ _ m;refine aw (tx i isSubtype_tuple_tuple ?_);simp only[qP,hr,eR];refine aw (jz f hd ?_);refine aw ?_;show wpAny _ _ (forIn X1 _ _) _ _ m;rw[<-vK];rw[X.key]at q;refine l6 _ (λcR p XM=>p.1=V/\XM=m/\∃left,X.keys v left=aa/\dy m.heap left cR) _ ?_ ?_ _ _ ⟨rfl,rfl,D,q,XG⟩
  ·rintro u cR p XM ⟨d,rfl,left,e,j⟩;cases left with
   |nil=>cases (show u::cR=[] from j)
   |cons r left=>
    let⟨s,@Yr,a,l,n⟩:=j;cases a;rw[X.keys,cq]at e;refine aw (u9 v e.1 l ?_);simp only[qP,hr,eR];exact aM ⟨rfl,rfl,left,e.2,n⟩
  ·rintro⟨t,w⟩ XM ⟨d,rfl,Y⟩;simp only at d;subst d;exact aM b
 |_,_,_,_,.aK,_,_,q,_,_=>by cases ‹Nat›<;>cases q
 |_,_,_,_,.aH _,_,_,q,_,_=>by cases ‹Nat›<;>cases q
 |_,_,_,_,.fn _,_,_,q,_,_=>by cases ‹Nat›<;>cases q
 |_,_,_,_,.aW _,_,_,q,_,_=>by cases ‹Nat›<;>cases q
 |_,_,_,_,.fd _,_,_,q,_,_=>by cases ‹Nat›<;>cases q
 |0,_,_,_,.tup _,_,_,q,_,_=>by cases q
def ea(XJ:bB)(H:a9):AN XJ H (List X) where
 is:=λb D g=>X.keys 7 D=aa/\dh b (.tup D) (.ref g)
 hash:=λD=>dD H (.tup D)
 draws:=λD=>uU (.tup D)
 room:=λL=>L.units+10<bj
 inj:=λa c=>by
  have:=Gy 8 (e:=.tup _) (A:=.tup _) a.1 c.1 a.2 c.2;injection this
 keeps:=λ{b ah q g r o P X8} e k hd XO=>⟨e.1,e.2.keep λd I X1 v h n j=>by
  have l:d≠r:=by
   rintro rfl;rw[k]at h;cases h;rw[hd]at j;cases j
  exact (XO.2 d l).trans h⟩
 pyHash:=λi f b=>Hd 8 (r:=.tup _) f.1 (show _<_ by have:_+10<bj:=i;lia) f.2 b
 eqBool:=λ{L XA m e A g d y} i a c b=>by
  have s:=hM (m:=m) 8 (L:=L) (e:=.tup e) (A:=.tup A) (yO (v:=8) (r:=.tup e) a.1) (yO (v:=8) (r:=.tup A) c.1) (show _<_ by have:L.units+10<bj:=i;lia) a.2 c.2;rw[G7 (v:=8) (e:=.tup e) (A:=.tup A) a.1 c.1]at s;exact s _ _ XA y ⇑b
 quiet:=λf b=>u9 8 (r:=.tup _) f.1 f.2 b
end
abbrev hK(x:Array Nat):Prop:=x.toList.Pairwise (· < ·)
def q7(p:hK x){h q:Nat}{r:Nat}(b:h<q)(d:q<x.size):x.getD h r<x.getD q r:=by
 have XG:h<x.size:=n1 b d;have a:∀E (c:E<x.size),x.getD E r=x.toList[E]'⇑c:=λE c=>by simp[Array.getD,c]
 rw[a h XG,a q d];exact qM.mp p h q _ _ b
theorem zk(x:Array Nat)(p:hK x)(k:Nat):∀(fuel XB XG:Nat),XG-XB<=fuel->XB<=XG->XG<=x.size->(∀h,h<XB->x.getD h k<k)->(∀h,XG<=h->h<x.size->k<=x.getD h k)->
  (aO.below.go x k fuel XB XG<=x.size/\(∀h,h<aO.below.go x k fuel XB XG->x.getD h k<k)/\∀h,aO.below.go x k fuel XB XG<=h->h<x.size->k<=x.getD h k)
 |0,XB,XG,l,t,e,g,d=>by
  have a:XB=XG:=⋯
  subst a;exact⟨e,g,d⟩
 |fuel+1,XB,XG,l,t,e,g,d=>by
  unfold aO.below.go;by_cases b:XB<XG
  ·rw[aF b];dsimp only;by_cases c:x.getD ((XB+XG)/2) k<k
   ·rw[aF c];refine zk x p k fuel _ _ ⋯ ⋯ e (λh f=>?_) d;rcases f7 h ((XB+XG)/2) with ah|ah
    ·exact n1 (q7 p ah ⋯) c
    ·have:h=(XB+XG)/2:=⋯
     rw[this];exact c
   ·rw[if_neg c];refine zk x p k fuel _ _ ⋯ ⋯ ⋯ g (λh f i=>?_);rcases f7 ((XB+XG)/2) h with ah|ah
    ·exact lA (uK (pX.mp c)<|q7 p ah i)
    ·have:h=(XB+XG)/2:=⋯
     rw[this];exact pX.mp c
  ·rw[if_neg b];have a:XB=XG:=⋯
   subst a;exact⟨e,g,d⟩
def th(p:hK x)(k:Nat):aO.below x k<=x.size/\(∀h,h<aO.below x k->x.getD h k<k)/\∀h,aO.below x k<=h->h<x.size->k<=x.getD h k:=
 zk x p k x.size 0 x.size ⋯ ⋯ ⋯ (λh b=>absurd b<|qh _) λh b ah=>absurd ah ⋯
def Be(p:hK x){h k:Nat}(b:x[h]?=Z k):aO.below x k=h:=by
 let@⟨g,d,f⟩:=th p k;let⟨@XG,a⟩:=og.mp b;have c:x.getD h k=k:=by simp[Array.getD,XG,a]
 rcases vo (aO.below x k) h with l|l|l
 ·have t:=f _ (bk _) (n1 l XG);have e:=q7 p (r:=k) l XG;omega
 ·exact l
 ·have:=d h l;omega
def TG(p:hK x){h k:Nat}(b:x[h]?=Z k):aO.below x (k+1)=h+1:=by
 let@⟨g,d,f⟩:=th p (k+1);let⟨@XG,a⟩:=og.mp b;have c:x.getD h (k+1)=k:=by simp[Array.getD,XG,a]
 rcases vo (aO.below x<|k+1) (h+1) with l|l|l
 ·have:=f h ⋯ XG;lia
 ·exact l
 ·have t:=d (h+1) l;have e:=q7 p (r:=k+1) (mX h) ⋯;lia
def Wi(p:hK x):aO.below x 0=0:=by
 let@⟨g,d,f⟩:=th p 0;rcases Fi (aO.below x 0) with b|b
 ·exact b
 ·exact absurd (d 0 b) (qh _)
def OQ(p:hK x){k:Nat}(b:¬ (x[aO.below x k]?=Z k)):hK (aO.insertAt x (aO.below x k) k):=by
 let@⟨g,d,f⟩:=th p k;unfold hK;rw[EO];refine Hl.mpr ⟨FD (Cm _ _) p,hv.mpr ⟨λA c=>?_,FD (List.drop_sublist _ _) p⟩,λe m A c=>?_⟩
 ·let⟨q,h,rfl⟩:=pJ.mp c;rw[Kg];have XO:aO.below x k+q<x.size:=by simp at h;lia
  have l:=f (aO.below x k+q) (u2 _ _) XO;have a:x.getD (aO.below x k+q) k=x.toList[aO.below x k+q]:=by simp[Array.getD,XO]
  rw[a]at l;refine Nat.lt_of_le_of_ne l λi=>?_;rcases Fi q with h0|h0
  ·subst h0;apply b;rw[og];exact⟨⋯,by simpa using i.symm⟩
  ·have t:=q7 p (r:=k) (Dp (n:=aO.below x k) h0) XO;have n:=f (aO.below x k) (bk _) ⋯;rw[a]at t;exact absurd i (c0<|uK n t)
 ·let⟨q,h,rfl⟩:=pJ.mp m;rw[List.getElem_take];have o:q<aO.below x k:=by simp at h;lia
  have XO:q<x.size:=⋯
  have l:=d q o;have a:x.getD q k=x.toList[q]:=by simp[Array.getD,XO]
  rw[a]at l;rcases b0.mp c with rfl|c
  ·exact l
  ·let⟨E,s,rfl⟩:=pJ.mp c;rw[Kg];have j:aO.below x k+E<x.size:=by simp at s;lia
   have t:=f (aO.below x k+E) (u2 _ _) j;have u:x.getD (aO.below x k+E) k=x.toList[aO.below x k+E]:=by simp[Array.getD,j]
   rw[u]at t;exact eF l t
structure ko(C:aO)(led:Bool):Prop where
 rise:hK C.place
 o5:C.dummies=#[]
 led:C.led=led
def ko.Ui(b:ko C YC)(d:Bool):ko {C with plain:=d} YC:=⟨b.rise,b.o5,b.led⟩
def HK(k:Nat):aO.has #[] k=aA:=rfl
def TF(hd:C.dummies=#[])(k:Nat):(∃h,C.slot k=.live h)\/(C.slot k=.empty/\¬ (C.place[aO.below C.place k]?=Z k)):=by
 unfold aO.slot;dsimp only;by_cases b:(C.place[aO.below C.place k]? == Z k)=aa
 ·rw[aF b];exact .inl ⟨_,rfl⟩
 ·rw[if_neg b,hd,HK];exact .inr ⟨rfl,λa=>b (by rw[a];exact iu _)⟩
def ko.put(b:ko C YC){k:Nat}(a:¬ (C.place[aO.below C.place k]?=Z k)):ko (C.put k).1 YC:=by
 refine⟨OQ b.rise a,?_,b.led⟩;show (if aO.has C.dummies k=aa then _ else C.dummies)=#[];rw[b.o5,HK];rfl
def LV{h l m:Nat}{n:Bool}{XO:Array Int}{o:Array Nat}(a:aO.laid h l m YC n XO=Z (C,o)):ko C YC:=by
 unfold aO.laid at a;cases b:aO.layClean h XO with
 |none=>rw[b]at a;cases a
 |some X7=>
  rw[b]at a;cases a;refine⟨?_,rfl,rfl⟩;show (List.map (λe:Nat×Nat=>e.1)<|List.filterMap (λk=>Option.map (λe=>(k,e))<|X7.getD k V)<|range<|h+1).Pairwise (· < ·);rw[DC];refine K9 _ (R:=(· < ·)) (λg d p e c A f=>?_) List.pairwise_lt_range;cases i:X7.getD g V with
  |none=>rw[i]at c;cases c
  |some I=>
   cases j:X7.getD d V with
   |none=>rw[j]at f;cases f
   |some u=>
    rw[i]at c;rw[j]at f;cases c;cases f;exact p
def pF(E:Nat)(n:aO.Probe):aO.Probe:=(
 if n.more>0 then {n with j:=n.j+1,more:=n.more-1} else
 {n with j:=(aO.leap E n.i n.perturb).1,more:=aO.runEnd E (aO.leap E n.i n.perturb).1-(aO.leap E n.i n.perturb).1,i:=(aO.leap E n.i n.perturb).1,perturb:=(aO.leap E n.i n.perturb).2})
def pb(E h J:Nat):aO.Probe:=({j:=h,more:=aO.runEnd E h-h,i:=h,perturb:=J,dummy:=V})
def cA(E:Nat)(b:Int):Nat->aO.Probe
 |0=>pb E (aO.bits b%(E+1)) (aO.bits b)
 |q+1=>pF E (cA E b q)
def dc(E:Nat)(b:Int):Nat->Nat×Nat
 |0=>(aO.bits b%(E+1),aO.bits b)
 |s+1=>aO.leap E (dc E b s).1 (dc E b s).2
theorem xU(E:Nat)(b:Int):∀q,(cA E b q).dummy=V
 |0=>rfl
 |q+1=>by
  rw[cA,pF];split
  ·exact xU E b q
  ·exact xU E b q
def WJ(E h:Nat):aO.runEnd E h-h<=9:=by
 unfold aO.runEnd;split<;>lia
theorem pl{E:Nat}{b:Int}{q h J:Nat}(a:cA E b q=pb E h J):∀p,p<=aO.runEnd E h-h->cA E b (q+p)={pb E h J with j:=h+p,more:=aO.runEnd E h-h-p}
 |0,_=>a
 |p+1,c=>by
  show pF E (cA E b<|q+p)=_;rw[pl a p ⋯,pF,aF (show aO.runEnd E h-h-p>0 by lia)];rfl
def P1{b:Int}{J:Nat}(a:cA E b q=pb E h J):cA E b (q+(aO.runEnd E h-h)+1)=pb E (aO.leap E h J).1 (aO.leap E h J).2:=by
 show pF E (cA E b<|q+(aO.runEnd E h-h))=_;rw[pl a _ (bk _),pF,if_neg (show ¬ (aO.runEnd E h-h-(aO.runEnd E h-h)>0) by lia)];rfl
def gb(E:Nat)(b:Int):Nat->Nat
 |0=>0
 |s+1=>gb E b s+(aO.runEnd E (dc E b s).1-(dc E b s).1)+1
theorem pM(E:Nat)(b:Int):∀s,cA E b (gb E b s)=pb E (dc E b s).1 (dc E b s).2
 |0=>rfl
 |s+1=>P1 (pM E b s)
theorem Bm(E:Nat)(b:Int):∀s,gb E b s<=10*s
 |0=>bk _
 |s+1=>by
  have:=Bm E b s;have:=WJ E (dc E b s).1;show gb E b s+_+1<=_;lia
theorem BA(E:Nat)(b:Int):∀q,∃s p,q=gb E b s+p/\p<=aO.runEnd E (dc E b s).1-(dc E b s).1
 |0=>⟨0,0,rfl,e9 _⟩
 |q+1=>by
  let⟨s,@p,a,c⟩:=BA E b q;by_cases i:p+1<=aO.runEnd E (dc E b s).1-(dc E b s).1
  ·exact⟨s,p+1,⋯,i⟩
  ·exact⟨s+1,0,by show _=gb E b s+_+1+0;lia,e9 _⟩
def iY(E:Nat):Nat->Nat->Nat
 |0,e=>e
 |q+1,e=>(iY E q e*5+1)%(E+1)
theorem qU(E:Nat)(g e:Nat):∀d,iY E (g+d) e=iY E d (iY E g e)
 |0=>rfl
 |d+1=>by
  show (iY E (g+d) e*5+1)%(E+1)=_;rw[qU E g e d];rfl
def vf(E:Nat):Nat->Nat->Nat->Nat
 |0,_,a=>a
 |q+1,e,a=>vf E q ((e*5+1)%(E+1)) (a ||| 2^e)
def Mq(E q e:Nat):iY E q ((e*5+1)%(E+1))=iY E (q+1) e:=by
 rw[pD q 1,qU];rfl
theorem C9{E:Nat}:∀{v e A a:Nat},(vf E v e a).testBit A=aa->a.testBit A=aa\/∃q,q<v/\iY E q e=A
 |0,_,_,_,b=>.inl b
 |v+1,e,A,a,b=>by
  rcases C9 (v:=v) b with b|⟨q,l,t⟩
  ·rw[Nat.testBit_or,A6]at b;rcases b with b|b
   ·exact .inl b
   ·rw[Nat.testBit_two_pow,ek]at b;exact .inr ⟨0,rF _,b⟩
  ·exact .inr ⟨q+1,Nat.succ_lt_succ l,by rw[<-Mq];exact t⟩
def wA(E:Nat):Bool:=(beq (vf E (E+1) 0 0) (2^(E+1)-1)&&beq (iY E (E+1) 0) 0)
def TO(f:wA E=aa){g e:Nat}(d:g<=E)(h:e<=E):∃q,q<=E/\iY E q g=e:=by
 rw[wA,cq]at f;have i:=Jj f.2;have all:∀A,A<=E->∃q,q<E+1/\iY E q 0=A:=λA j=>by
  have s:(vf E (E+1) 0 0).testBit A=aa:=by
   rw[Jj f.1,Nat.testBit_two_pow_sub_one];exact bG (EL j)
  rcases C9 s with b|b
  ·rw[Nat.zero_testBit]at b;cases b
  ·exact b
 let⟨@a,l,rfl⟩:=all g d;let⟨@c,t,rfl⟩:=all e h;rcases f7 c a with b|b
 ·refine⟨c+(E+1-a),by omega,?_⟩;rw[<-qU,show a+(c+(E+1-a))=(E+1)+c by omega,qU,i]
 ·refine⟨c-a,by omega,?_⟩;rw[<-qU,show a+(c-a)=c by omega]
def iy(E:Nat):Prop:=(E=7\/E=31\/E=127\/E=511)
def iy.L7(O:iy E):wA E=aa:=by
 rcases O with rfl|rfl|rfl|rfl<;>decide +kernel
def K6(b:Int):aO.bits b<2^64:=by
 unfold aO.bits;have l:=tc b (show (2^64:Int)≠0 by decide);have t:=uQ b (show (0:Int)<2^64 by decide);lia
theorem E4(E:Nat)(b:Int):∀s,(dc E b s).2=aO.bits b/32^s
 |0=>by rw[Nat.pow_zero,Nat.div_one];rfl
 |s+1=>by
  show (dc E b s).2/32=_;rw[E4 E b s,Nat.div_div_eq_div_mul];rfl
theorem AV(E:Nat)(b:Int):∀s,(dc E b s).1<=E
 |0=>rN (vl _<|rF _)
 |s+1=>rN (vl _<|rF _)
theorem C0(E:Nat)(b:Int):∀q,dc E b (13+q)=(iY E q (dc E b 13).1,0)
 |0=>by
  have a:(dc E b 13).2=0:=by
   rw[E4];exact Nat.div_eq_of_lt (n1 (K6 b) ∅)
  show dc E b 13=((dc E b 13).1,0);rw[<-a]
 |q+1=>by
  show aO.leap E (dc E b<|13+q).1 (dc E b<|13+q).2=_;rw[C0 E b q];show ((iY E q (dc E b 13).1*5+1+0/32)%(E+1),0/32)=_;rw[Nat.zero_div,BI];rfl
def FO(O:iy E)(b:Int){e:Nat}(a:e<=E):∃s,s+1<aO.turns E/\(dc E b s).1=e:=by
 let⟨@q,l,t⟩:=TO O.L7 (AV E b 13) a;exact⟨13+q,by unfold aO.turns;lia,by rw[C0];exact t⟩
def LW(O:iy E)(b:Int){e:Nat}(a:e<=E):∃q,q<10*aO.turns E/\(cA E b q).j=e:=by
 let⟨@s,l,t⟩:=FO O b a;refine⟨gb E b s,by have:=Bm E b s;lia,?_⟩;rw[pM];exact t
def D7(b:h<=E):aO.runEnd E h<=E:=by unfold aO.runEnd;split<;>omega
def Jz(E:Nat)(b:Int)(q:Nat):(cA E b q).j<=E:=by
 let⟨s,@p,rfl,c⟩:=BA E b q;rw[pl (pM E b s) p c];have:=D7 (AV E b s);have a:aO.runEnd E (dc E b s).1 >= (dc E b s).1:=by unfold aO.runEnd;split<;>lia
 show (dc E b s).1+p<=E;lia
theorem A2{XR:Type}[DecidableEq XR]:∀{J E:List XR},J.Nodup->(∀e∈J,e∈E)->J.length<=E.length
 |[],E,_,_=>e9 _
 |g::J,E,ae,b=>by
  have c:=df.mp ae;have s:=A2 (J:=J) (E:=E.erase g) c.2 λe d=>(xI (λa:e=g=>c.1<|a ▸ d)).mpr (b e<|.tail _ d);have f:=b g (.head _);rw[zK f]at s;have:=uW f;rw[b6];lia
def lj(E:Nat)(iD:Nat->Prop)(b:Int)(k:Nat):Prop:=(∃q,(cA E b q).j=k/\∀a,a<q->iD (cA E b a).j)
def lj.mono{iD c:Nat->Prop}{b:Int}(p:lj E iD b k)(h:∀e,iD e->c e):lj E c b k:=let ⟨q,a,g⟩:=p;⟨q,a,λd i=>h _<|g d i⟩
structure qi(C:aO)(XO:List Int):Prop where
 kC:iy C.mask
 len:C.place.size=XO.length
 loose:C.place.size*5<C.mask*3
 le:∀k∈C.place.toList,k<=C.mask
 oW:∀n∈C.place.toList.zip XO,lj C.mask (·∈C.place.toList) n.2 n.1
def iy.pos(O:iy E):7<=E/\E<=511/\E%2=1:=by rcases O with rfl|rfl|rfl|rfl<;>decide
def We(p:hK C.place){k:Nat}(b:k∈C.place.toList):∃h,C.slot k=.live h/\C.place[h]?=Z k:=by
 let⟨h,XG,a⟩:=pJ.mp b;have c:C.place[h]?=Z k:=by
  rw[<-eU,dF XG,a]
 refine⟨h,?_,c⟩;unfold aO.slot;dsimp only;rw[Be p c,c,aF<|iu _]
def T5(hd:C.dummies=#[]){k:Nat}(b:k∉C.place.toList):C.slot k=.empty:=by
 rcases TF hd k with ⟨h,a⟩|⟨a,_⟩
 ·unfold aO.slot at a;dsimp only at a;split at a
  ·next s=>
   have cU:=eq_of_beq s;refine absurd ?_ b;rw[<-eU]at cU;exact fi cU
  ·split at a<;>cases a
 ·exact a
def qi.some(j:qi C XO)(b:Int):∃q,q<10*aO.turns C.mask/\(cA C.mask b q).j∉C.place.toList:=by
 have:∃e,e<=C.mask/\e∉C.place.toList:=by
  refine uq λf=>?_;have s:=A2 (J:=range (C.mask+1)) (E:=C.place.toList) tM λe a=>uq λi=>f ⟨e,rN<|gJ.mp a,i⟩;rw[j2,dA]at s;have:=j.loose;lia
 let⟨@e,l,t⟩:=this;let⟨@q,c,d⟩:=LW j.kC b l;exact⟨q,c,by rw[d];exact t⟩
theorem B9{C:aO}(p:hK C.place)(hd:C.dummies = #[])(m:Nat -> Int)(b:Int): ∀(fuel c:Nat),(∃q,c <= q /\ q<c+fuel /\ (cA C.mask b q).j ∉ C.place.toList) ->
    ∃e,c <= e /\ (∀q,c <= q -> q<e -> ∃h,C.place[h]? = Z (cA C.mask b q).j /\ m h ≠ b) /\
      ((aO.probe.go C m b fuel (cA C.mask b c)=Z (.empty (cA C.mask b e).j V) /\ (cA C.mask b e).j ∉ C.place.toList) \/
        ∃h,aO.probe.go C m b fuel (cA C.mask b c)=Z (.candidate (cA C.mask b e).j h<|cA C.mask b<|e+1) /\ C.slot (cA C.mask b e).j=.live h /\ C.place[h]? = Z (cA C.mask b e).j /\ m h=b)
  |0,c,⟨q,g,d,_⟩ => absurd g ⋯
  |fuel+1,c,⟨q,g,d,f⟩ => by
    by_cases i:(cA C.mask b c).j ∈ C.place.toList
    · let⟨@h,n,o⟩:=We p i
      by_cases s:m h=b
      · refine ⟨c,bk _,λq l t => absurd l ⋯,.inr ⟨h, ?_,n,o,s⟩⟩
        unfold aO.probe.go;rw [n];dsimp only;rw [aF (by rw [s]; exact iu _)];rfl
      · have ne:q ≠ c:=λa => f (a ▸ i)
        let⟨@e,l,t,r⟩:=B9 p hd m b fuel (c+1) ⟨q,⋯,⋯,f⟩;have a:aO.probe.go C m b (fuel+1) (cA C.mask b c)=aO.probe.go C m b fuel (cA C.mask b<|c+1):=by
          rw [aO.probe.go,n];dsimp only;rw [if_neg (by rw [oI]; exact s)];rfl
        refine ⟨e,⋯,λq v u => ?_,by rw [a]; exact r⟩;rcases f7 c q with O|O
        · exact t q O u
        · rw [show q=c by lia]; exact ⟨h,o,s⟩
    · refine ⟨c,bk _,λq l t => absurd l ⋯,.inl ⟨?_,i⟩⟩
      unfold aO.probe.go;rw [T5 hd i];dsimp only;rw [xU]
def Ax(x:Array XR)(n:Nat)(e:XR):(aO.insertAt x n e).toList=x.toList.take n++e::x.toList.drop n:=EO x n e
def q1{J:List XR}{n:Nat}{e A:XR}:A∈J.take n++e::J.drop n↔A=e\/A∈J:=by
 constructor
 ·intro b;rcases dM.mp b with b|b
  ·exact .inr (List.mem_of_mem_take b)
  ·rcases b0.mp b with b|b
   ·exact .inl b
   ·exact .inr (List.mem_of_mem_drop b)
 ·rintro (rfl|b)
  ·exact dH _ (.head _)
  ·rw[<-Af n J]at b;rcases dM.mp b with b|b
   ·exact d6 _ b
   ·exact dH _ (.tail _ b)
def Mf{Yv:Type}{g:List XR}{d:List Yv}(b:g.length=d.length)(n:Nat)(e:XR)(A:Yv):(g.take n++e::g.drop n).zip (d.take n++A::d.drop n)=(g.zip d).take n++(e,A)::(g.zip d).drop n:=by
 rw[CW (by rw[m5,m5,b]),zS];have c:∀(n:Nat) (g:List XR) (d:List Yv),(g.take n).zip (d.take n)=(g.zip d).take n:=λn=>by
  induction n with
  |zero=>intro g d;rfl
  |succ n a=>intro g d;cases g with
   |nil=>rfl
   |cons e g=>cases d with
    |nil=>rfl
    |cons A d=>exact congrArg ((e,A)::·) (a g d)
 have f:∀(n:Nat) (g:List XR) (d:List Yv),(g.drop n).zip (d.drop n)=(g.zip d).drop n:=λn=>by
  induction n with
  |zero=>intro g d;rfl
  |succ n a=>intro g d;cases g with
   |nil=>rfl
   |cons e g=>cases d with
    |nil=>show (g.drop n).zip []=_;rw[BF];rfl
    |cons A d=>exact a g d
 rw[c,f]
def qi.put(j:qi C XO){b:Int}{q:Nat}(l:(cA C.mask b q).j∉C.place.toList)(g:∀c,c<q->(cA C.mask b c).j∈C.place.toList):
  (∀k∈(C.put (cA C.mask b q).j).1.place.toList,k<=C.mask)/\∀n∈(C.put (cA C.mask b q).j).1.place.toList.zip (XO.take (C.put (cA C.mask b q).j).2++b::XO.drop (C.put (cA C.mask b q).j).2),lj C.mask (·∈(C.put (cA C.mask b q).j).1.place.toList) n.2 n.1:=by
 have a:(C.put (cA C.mask b q).j).1.place.toList=C.place.toList.take (C.put (cA C.mask b q).j).2++(cA C.mask b q).j::C.place.toList.drop (C.put (cA C.mask b q).j).2:=Ax _ _ _;rw[a];refine⟨λk f=>?_,λn d=>?_⟩
 ·rcases q1.mp f with rfl|f
  ·exact Jz _ _ _
  ·exact j.le k f
 ·rw[Mf (by rw[dA];exact j.len)]at d;rcases q1.mp d with rfl|d
  ·exact⟨q,rfl,λc i=>q1.mpr<|.inr<|g c i⟩
  ·exact (j.oW n d).mono λe h=>q1.mpr (.inr h)
def k6(X7:Array (Option Nat))(k:Nat):Prop:=((X7.getD k<|Z 0).isSome=aa)
theorem FN{E:Nat}(X7:Array (Option Nat))(b:Int):∀(fuel s:Nat),(∀c,c<gb E b s->k6 X7 (cA E b c).j)->(∃cU,s<=cU/\cU<s+fuel/\¬ k6 X7 (dc E b cU).1)->
  ∃k,aO.layClean.free E X7 fuel (dc E b s).1 (dc E b s).2=Z k/\k<=E/\¬ k6 X7 k/\lj E (k6 X7) b k
 |0,s,_,⟨cU,g,d,_⟩=>absurd g ⋯
 |fuel+1,s,e,⟨cU,g,d,f⟩=>by
  unfold aO.layClean.free;have le:aO.runEnd E (dc E b s).1<=E:=D7 (AV E b s);have Za:(dc E b s).1<=aO.runEnd E (dc E b s).1:=by unfold aO.runEnd;split<;>lia
  cases h:(range<|aO.runEnd E (dc E b s).1+1-(dc E b s).1).find? (λq=>(X7.getD ((dc E b s).1+q)<|Z 0).isNone) with
  |some q=>
   dsimp only;rw[List.find?_range_eq_some]at h;let@⟨l,t,n⟩:=h;have o:q<aO.runEnd E (dc E b s).1+1-(dc E b s).1:=gJ.mp t;refine⟨_,rfl,⋯,?_,gb E b s+q,?_,λc m=>?_⟩
   ·unfold k6;intro i;rw[Option.isNone_iff_eq_none]at l;rw[l]at i;cases i
   ·rw[pl (pM E b s) q ⋯]
   ·rcases f7 c (gb E b s) with i|i
    ·exact e c i
    ·have a:c=gb E b s+(c-gb E b s):=⋯
     rw[a,pl (pM E b s) (c-gb E b s) ⋯];have:=n (c-gb E b s) ⋯;show (X7.getD ((dc E b s).1+(c-gb E b s))<|Z 0).isSome=aa;cases H:X7.getD ((dc E b s).1+(c-gb E b s)) (Z 0) with
     |none=>rw[H]at this;cases this
     |some _=>rfl
  |none=>
   dsimp only;rw[List.find?_range_eq_none]at h;have iD:∀q,q<aO.runEnd E (dc E b s).1+1-(dc E b s).1->k6 X7 ((dc E b s).1+q):=λq e=>by
    have:=h q e;unfold k6;cases H:X7.getD ((dc E b s).1+q) (Z 0) with
    |none=>rw[H]at this;cases this
    |some _=>rfl
   have ne:cU≠s:=λa=>f (by rw[a];exact iD 0 ⋯);refine FN X7 b fuel (s+1) (λc m=>?_) ⟨cU,⋯,⋯,f⟩;rcases f7 c (gb E b s) with i|i
   ·exact e c i
   ·have p:c<gb E b s+(aO.runEnd E (dc E b s).1-(dc E b s).1)+1:=m;have a:c=gb E b s+(c-gb E b s):=⋯
    rw[a,pl (pM E b s) (c-gb E b s) ⋯];exact iD _ ⋯
structure k3(E:Nat)(X7:Array (Option Nat))(XF:List Nat)(XO:List Int):Prop where
 size:X7.size=E+1
 len:XF.length=XO.length
 ae:XF.Nodup
 le:∀k∈XF,k<=E
 own:∀(k q:Nat),X7[k]?=Z (Z q)↔XF[q]?=Z k
 oW:∀n∈XF.zip XO,lj E (·∈XF) n.2 n.1
def k3.iD{XF:List Nat}(z:k3 E X7 XF XO){k:Nat}(d:k<=E):k6 X7 k↔k∈XF:=by
 have c:k<X7.size:=by rw[z.size];lia
 unfold k6;rw[show X7.getD k (Z 0)=X7[k] by simp[Array.getD,c]];have a:X7[k]?=Z X7[k]:=jk c;constructor
 ·intro i;let⟨@q,b⟩:=zI.mp i;rw[b]at a;exact fi ((z.own k q).mp a)
 ·intro i;let⟨@q,b⟩:=vB i;have:=(z.own k q).mpr b;rw[a]at this;rw[Option.some.inj this];rfl
def k3.step(O:iy E){X7:Array (Option Nat)}{XF:List Nat}{XO:List Int}(z:k3 E X7 XF XO)(C:XO.length<=E)(b:Int):
  ∃k,aO.layClean.free E X7 (aO.turns E) (aO.bits b%(E+1)) (aO.bits b)=Z k/\k3 E (X7.setIfInBounds k<|Z XO.length) (XF++[k]) (XO++[b]):=by
 have room:∃e,e<=E/\e∉XF:=by
  refine uq λf=>?_;have s:=A2 (J:=range (E+1)) (E:=XF) tM λe j=>uq λi=>f ⟨e,rN<|gJ.mp j,i⟩;rw[j2,z.len]at s;lia
 let⟨@e,m,u⟩:=room;let⟨@s,D,v⟩:=FO O b m;let⟨@k,w,o,x,y⟩:=FN (E:=E) X7 b (aO.turns E) 0 (λp l=>absurd l<|qh _) ⟨s,e9 _,⋯,by rw[v];exact λi=>u<|(z.iD m).mp i⟩;have r:k∉XF:=λi=>x ((z.iD o).mpr i);have A:k<X7.size:=by rw[z.size];lia
 refine⟨k,w,by rw[Array.size_setIfInBounds,z.size],by rw[cC,cC,z.len];rfl,?_,?_,λt q=>?_,?_⟩
 ·exact cH.mpr ⟨z.ae,es _ _,λg c d B a=>r (by rw[<-cf.mp B,<-a];exact c)⟩
 ·intro g c;rcases dM.mp c with c|c
  ·exact z.le g c
  ·rw[cf.mp c];exact o
 ·rw[Array.getElem?_setIfInBounds];by_cases a:k=t
  ·subst a;rw[aF rfl,aF A];constructor
   ·intro i;cases i;rw[<-z.len,kZ<|bk _,q3];rfl
   ·intro i;rcases f7 q XF.length with H|H
    ·rw[n3 H]at i;exact absurd (fi i) r
    ·rw[kZ H]at i;have:q-XF.length=0:=by
      have:=(e7.mp i).1;rw[e6]at this;lia
     rw[show q=XO.length by rw[<-z.len];lia]
  ·rw[if_neg a,z.own t q];rcases f7 q XF.length with H|H
   ·rw[n3 H]
   ·rw[kZ H,s6 H];constructor
    ·intro i;cases i
    ·intro i;have:=fi i;exact absurd (cf.mp this) (λi=>a i.symm)
 ·intro n h;rw[CW z.len]at h;rcases dM.mp h with h|h
  ·exact (z.oW n h).mono λe j=>d6 _ j
  ·rw[zS,List.zip_nil_left]at h;rw[cf.mp h];let⟨@q,a,g⟩:=y;exact⟨q,a,λp l=>d6 _<|(z.iD<|Jz _ _ _).mp<|g p l⟩
theorem Dk{E:Nat}(O:iy E):∀(cR XO:List Int) (X7:Array (Option Nat)) (XF:List Nat),k3 E X7 XF XO->(XO++cR).length<=E->
  ∃c d,cR.foldl (λ(j:Option (Array (Option Nat)×Nat)) b=>do
   let (f,q) <-j
   let k <-aO.layClean.free E f (aO.turns E) (aO.bits b%(E+1)) (aO.bits b)
   pure (f.setIfInBounds k<|Z q,q+1)) (Z (X7,XO.length))=Z (c,(XO++cR).length)/\k3 E c d (XO++cR)
 |[],XO,X7,XF,z,_=>⟨X7,XF,by rw[bO];rfl,by rw[bO];exact z⟩
 |b::cR,XO,X7,XF,z,g=>by
  let⟨@k,a,l⟩:=z.step O (by rw[cC]at g;lia) b;let⟨c,@d,e,h⟩:=Dk O cR (XO++[b]) _ _ l (by rw[bI];exact g);rw[bI]at e h;refine⟨c,d,?_,h⟩;rw[km];rw[show (XO++[b]).length=XO.length+1 from cC]at e;refine Eq.trans (congrArg (λi=>List.foldl _ i cR) ?_) e;show (aO.layClean.free E X7 (aO.turns E) (aO.bits b%(E+1))<|aO.bits b).bind _=_;rw[a];rfl
def VT(O:iy E)(XO:Array Int)(c:XO.size<=E):∃X7 XF,aO.layClean E XO=Z X7/\k3 E X7 XF XO.toList:=by
 have d:k3 E (Array.replicate (E+1) V) [] []:=by
  refine⟨Array.size_replicate,rfl,gB,λ_ b=>(hP b).elim,λk q=>⟨λi=>?_,λi=>?_⟩,λ_ b=>(hP b).elim⟩
  ·have:=(og.mp i).2;rw[Array.getElem_replicate]at this;cases this
  ·simp at i
 let⟨X7,@XF,a,z⟩:=Dk O XO.toList [] _ _ d (by rw[jU,dA];exact c);refine⟨X7,XF,?_,z⟩;unfold aO.layClean;rw[<-Array.foldl_toList];exact congrArg (Option.map (·.1)) a
def R9{n:Nat×Nat}:n∈(range<|E+1).filterMap (λk=>(X7.getD k V).map (k,·))↔n.1<=E/\X7[n.1]?=Z (Z n.2):=by
 rw[vh];constructor
 ·rintro⟨k,l,t⟩;let⟨@q,b,rfl⟩:=b5.mp t;refine⟨rN<|gJ.mp l,?_⟩;show X7[k]?=Z (Z q);by_cases i:k<X7.size
  ·rw[show X7.getD k V=X7[k] by simp[Array.getD,i]]at b;rw[jk i,b]
  ·rw[show X7.getD k V=V by simp[Array.getD,i]]at b;cases b
 ·rintro⟨l,t⟩;refine⟨n.1,gJ.mpr<|EL l,?_⟩;let⟨@i,a⟩:=og.mp t;rw[show X7.getD n.1 V=X7[n.1] by simp[Array.getD,i],a];rfl
theorem BL{XR Yv:Type}:∀{J:List (XR×Yv)},(J.map (·.1)).Nodup->(∀g∈J,∀d∈J,g.2=d.2->g.1=d.1)->(J.map (·.2)).Nodup
 |[],_,_=>gB
 |e::J,b,h=>by
  rw[bz]at b ⊢;have ah:=df.mp b;refine df.mpr ⟨λi=>?_,BL ah.2 λg f d j=>h g (.tail _ f) d<|.tail _ j⟩;let⟨@A,c,a⟩:=cX.mp i;have:=h A (.tail _ c) e (.head _) a;exact ah.1 (by rw[<-this];exact Jt c)
theorem BM{XR Yv Zb:Type}(F:XR->Yv)(O:XR->Zb):∀J:List XR,(J.map F).zip (J.map O)=J.map λe=>(F e,O e)
 |[]=>rfl
 |e::J=>congrArg (_::·) (BM F O J)
def OJ{i:Nat}(O:iy (aO.sizeAbove i-1))(A:P.size*5<(aO.sizeAbove i-1)*3){YC:Bool}(q:C.led=YC):
  ∃Yc u,C.relaid (P.map (·.1)) i=Z (Yc,u)/\u.toList.Perm (range P.size)/\ko Yc YC/\qi Yc ((u.filterMap (P[·]?)).toList.map (·.1)):=by
 let⟨X7,@XF,a,z⟩:=VT O (P.map (·.1)) (by rw[xE];lia);generalize B:aO.sizeAbove i-1=E at *;have m:C.relaid (P.map (·.1)) i=Z ({mask:=E,place:=(((range<|E+1).filterMap λk=>(X7.getD k V).map (k,·)).map (·.1)).toArray,dummies:=#[],finger:=C.finger,led:=C.led,moves:=C.movedTo E,plain:=C.plain},(((range<|E+1).filterMap λk=>(X7.getD k V).map (k,·)).map (·.2)).toArray):=by
  unfold aO.relaid aO.laid;rw[B,a];rfl
 have f:=λ(n:Nat×Nat)=>R9 (E:=E) (X7:=X7) (n:=n);have p:(((range<|E+1).filterMap λk=>(X7.getD k V).map (k,·)).map (·.1)).Pairwise (· < ·):=by
  have:=(LV (C:=_) (o:=_) m);exact this.rise
 generalize D:(range<|E+1).filterMap (λk=>(X7.getD k V).map (k,·))=XQ at m f p;have XP:∀n∈XQ,XF[n.2]?=Z n.1:=λn c=>(z.own _ _).mp ((f n).mp c).2;have lt:∀n∈XQ,n.2<P.size:=λn c=>by
  have:=(e7.mp<|XP n c).1;rw[z.len,dA,xE]at this;exact this
 have v:(XQ.map (·.1)).Nodup:=p.imp λb=>c0 b;have w:(XQ.map (·.2)).Nodup:=BL v λg F d G a=>by
  have l:=XP g F;have t:=XP d G;rw[a]at l;exact Option.some.inj (l.symm.trans t)
 have perm:(XQ.map (·.2)).Perm (range P.size):=by
  refine (sf w tM).mpr λe=>?_;rw[gJ];constructor
  ·intro b;let⟨@n,c,rfl⟩:=cX.mp b;exact lt n c
  ·intro b;have j:e<XF.length:=by rw[z.len,dA,xE];exact b
   have l:XF[e]?=Z XF[e]:=dF j;exact cX.mpr ⟨(XF[e],e),(f _).mpr ⟨z.le _<|sm j,(z.own _ _).mpr l⟩,rfl⟩
 have x:XQ.length=P.size:=by
  have:=perm.length_eq
  rwa [a6,j2]at this
 have y:((XQ.map (·.2)).filterMap (P[·]?)).map (·.1)=XQ.map λn=>(P.getD n.2 (0,.none)).1:=by
  clear f p XP v w perm x m D;induction XQ with
  |nil=>rfl
  |cons n XQ H=>
   have c:=lt n (.head _);rw[bz,zX<|jk c,bz,bz,H λs r=>lt s<|.tail _ r];congr 1;simp[Array.getD,c]
 refine⟨_,_,m,?_,⟨?_,rfl,q⟩,⟨O,?_,?_,?_,?_⟩⟩
 ·exact perm
 ·exact p
 ·rw[xd];show (XQ.map (·.1)).toArray.size=(((XQ.map (·.2)).filterMap (P[·]?)).map (·.1)).length;rw[y,cK,a6,a6]
 ·show (XQ.map (·.1)).toArray.size*5<E*3;rw[cK,a6,x];exact A
 ·intro k I;let⟨@n,c,rfl⟩:=cX.mp I;exact ((f n).mp c).1
 ·rw[xd];show ∀n∈(XQ.map (·.1)).zip (((XQ.map (·.2)).filterMap (P[·]?)).map (·.1)),lj E (·∈XQ.map (·.1)) n.2 n.1;rw[y,BM];intro n c;let⟨@s,r,rfl⟩:=cX.mp c;have l:=XP s r;have t:((P.map (·.1)).toList)[s.2]?=Z (P.getD s.2 (0,.none)).1:=by
   have:=lt s r;rw[eU,Array.getElem?_map,jk this];simp[Array.getD,this]
  have J:(s.1,(P.getD s.2 (0,.none)).1)∈XF.zip (P.map (·.1)).toList:=by
   refine fi (i:=s.2) ?_;rw[sh];exact⟨l,t⟩
  refine (z.oW _ J).mono λe j=>?_;let⟨@q,L⟩:=vB j;exact cX.mpr ⟨(e,q),(f _).mpr ⟨z.le e j,(z.own _ _).mpr L⟩,rfl⟩
def TM(O:iy E)(l:v*5<E*3)(t:(v+1)*5 >= E*3)(a:v+1<=300):iy (aO.sizeAbove (aO.grown<|v+1)-1)/\(v+1)*5<(aO.sizeAbove (aO.grown<|v+1)-1)*3/\aO.sizeAbove (aO.grown<|v+1)<=512:=by
 rcases O with rfl|rfl|rfl|rfl
 ·rw[show v=4 by lia];exact⟨.inr (.inl ∅),by decide,by decide⟩
 ·rw[show v=18 by lia];exact⟨.inr (.inr (.inl ∅)),by decide,by decide⟩
 ·rw[show v=76 by lia];exact⟨.inr (.inr (.inr ∅)),by decide,by decide⟩
 ·lia
section
variable{XJ:bB}{H:a9}
theorem Fj:∀(v:Nat) {L:br}{XA:ag->au->Prop}{m:au}{r:X}{u:ag}{y:Bool->au->Prop},X.key v r=aa->dh m.heap r u->(∀d,y d m)->wpAny (aN XJ H) L (tQ v u) y XA m
 |v,L,XA,m,.int h,u,y,_,c,b=>by
  let⟨@C,rfl⟩:=c;rw[show tQ v (.int h C)=pure aa from by cases v<;>rfl];exact aM (b _)
 |v,L,XA,m,.str h,u,y,_,c,b=>by
  let⟨@C,rfl⟩:=c;rw[show tQ v (.str h C)=pure aA from by cases v<;>rfl];exact aM (b _)
 |v+1,L,XA,m,.tup D,u,y,q,c,b=>by
  let⟨g,o,X1,@E,rfl,f,j,hd,XG⟩:=c;have k:m.TypeIs (.ref g) "tuple" := ⟨o,f,j⟩;unfold tQ;refine aw (qo k r7.lookup ?_);show wpAny _ _ (k8 (.ref g) >>= _) _ _ m;refine aw (jz f hd ?_);refine aw ?_;show wpAny _ _ (forIn X1 _ _) _ _ m;rw[<-vK];rw[X.key]at q;refine l6 _ (λcR p XM=>XM=m/\∃left,X.keys v left=aa/\dy m.heap left cR) _ ?_ ?_ _ _ ⟨rfl,D,q,XG⟩
  ·rintro u cR p XM ⟨rfl,left,e,i⟩;cases left with
   |nil=>cases (show u::cR=[] from i)
   |cons r left=>
    let⟨t,@Yr,a,l,n⟩:=i;cases a;rw[X.keys,cq]at e;refine aw (Fj v e.1 l λd=>?_);cases d
    ·show wpAny _ _ (pure<|ForInStep.done _) _ _ _;exact aM (aM<|b _)
    ·show wpAny _ _ (pure<|ForInStep.yield _) _ _ _;exact aM ⟨rfl,left,e.2,n⟩
  ·rintro⟨s,w⟩ XM ⟨rfl,Y⟩;cases s with
   |none=>exact aM (b _)
   |some d=>exact aM (b _)
 |_,_,_,_,.aK,_,_,q,_,_=>by cases ‹Nat›<;>cases q
 |_,_,_,_,.aH _,_,_,q,_,_=>by cases ‹Nat›<;>cases q
 |_,_,_,_,.fn _,_,_,q,_,_=>by cases ‹Nat›<;>cases q
 |_,_,_,_,.aW _,_,_,q,_,_=>by cases ‹Nat›<;>cases q
 |_,_,_,_,.fd _,_,_,q,_,_=>by cases ‹Nat›<;>cases q
 |0,_,_,_,.tup _,_,_,q,_,_=>by cases q
theorem zg:∀(v:Nat) {L:br}{XA:ag->au->Prop}{m:au}{r:X}{u:ag}{y:Bool->au->Prop},X.key v r=aa->dh m.heap r u->y aA m->wpAny (aN XJ H) L (t2 v u) y XA m
 |v,L,XA,m,.int h,u,y,_,c,b=>by
  let⟨@C,rfl⟩:=c;rw[show t2 v (.int h C)=pure aA from by cases v<;>rfl];exact aM b
 |v,L,XA,m,.str h,u,y,_,c,b=>by
  let⟨@C,rfl⟩:=c;rw[show t2 v (.str h C)=pure aA from by cases v<;>rfl];exact aM b
 |v+1,L,XA,m,.tup D,u,y,q,c,b=>by
  let⟨g,o,X1,@E,rfl,f,j,hd,XG⟩:=c;have k:m.TypeIs (.ref g) "tuple" := ⟨o,f,j⟩;unfold t2;refine aw (l7 k ?_);dsimp only;rw[aF (show ("tuple" == "tuple")=aa by decide)];refine aw (aM ?_);simp only[qP,hr,eR];refine aw (jz f hd ?_);dsimp only;refine aw ?_;show wpAny _ _ (forIn X1 _ _) _ _ m;rw[<-vK];rw[X.key]at q;refine l6 _ (λcR p XM=>p.1=V/\XM=m/\∃left,X.keys v left=aa/\dy m.heap left cR) _ ?_ ?_ _ _ ⟨rfl,rfl,D,q,XG⟩
  ·rintro u cR p XM ⟨d,rfl,left,e,i⟩;cases left with
   |nil=>cases (show u::cR=[] from i)
   |cons r left=>
    let⟨s,@Yr,a,l,n⟩:=i;cases a;rw[X.keys,cq]at e;refine aw (zg v e.1 l ?_);simp only[hr,eR];exact aM ⟨rfl,rfl,left,e.2,n⟩
  ·rintro⟨t,w⟩ XM ⟨d,rfl,Y⟩;simp only at d;subst d;exact aM b
 |_,_,_,_,.aK,_,_,q,_,_=>by cases ‹Nat›<;>cases q
 |_,_,_,_,.aH _,_,_,q,_,_=>by cases ‹Nat›<;>cases q
 |_,_,_,_,.fn _,_,_,q,_,_=>by cases ‹Nat›<;>cases q
 |_,_,_,_,.aW _,_,_,q,_,_=>by cases ‹Nat›<;>cases q
 |_,_,_,_,.fd _,_,_,q,_,_=>by cases ‹Nat›<;>cases q
 |0,_,_,_,.tup _,_,_,q,_,_=>by cases q
def Pm{e:aq}{q:List X}{y:Bool->au->Prop}(c:(ea XJ H).is m.heap q e){Q:List ag}(g:∀u∈Q,∃d a,u=.ref d/\(ea XJ H).is m.heap a d)(b:y aA m):
  wpAny (aN XJ H) L (G4 (.ref e) Q) y XA m:=by
 unfold G4;refine aw ?_;refine l6 _ (λcR p XM=>p.1=V/\XM=m/\∀u∈cR,∃d a,u=.ref d/\(ea XJ H).is m.heap a d) _ ?_ ?_ _ _ ⟨rfl,rfl,g⟩
 ·rintro u cR p XM ⟨h,rfl,j⟩;let⟨d,@a,rfl,f⟩:=j u (.head _);have k:∀u∈cR,∃d a,u=.ref d/\(ea XJ H).is XM.heap a d:=λu g=>j u (.tail _ g);dsimp only;cases l:(e==d) with
  |true=>
   simp only[DQ,hl];exact aM ⟨rfl,rfl,k⟩
  |false=>
   simp only[tm];rw[if_neg (show ¬ ((Ci (ag.ref e)&&Ci (ag.ref d))=aa) from λi=>cB i)];refine aw (u9 8 (r:=.tup _) c.1 c.2 ?_);simp only[qP,hr,eR];refine aw (u9 8 (r:=.tup _) f.1 f.2 ?_);simp only[qP,hr,eR];refine aw (zg 8 (r:=.tup _) c.1 c.2 ?_);simp only[hr,eR];refine aw (zg 8 (r:=.tup _) f.1 f.2 ?_);simp only[hr,eR];exact aM ⟨rfl,rfl,k⟩
 ·rintro⟨n,o⟩ XM ⟨h,rfl,Y⟩;simp only at h;subst h;exact aM b
end
section
variable(H:a9)(XI:List X->aq->Prop)
def vO(i:List X×Int×ag):Prop:=(∃d,i.2.2=.ref d/\i.2.1=dD H (.tup i.1)/\XI i.1 d)
structure lO(P:Array (Int×ag))(C:aO)(YC:Bool)(M:List (List X)):Prop where
 pk:∃Yt:List (List X×Int×ag),Yt.map (·.2)=P.toList/\(Yt.map (·.1)).Perm M/\∀i∈Yt,vO H XI i
 tab:ko C YC
 bV:qi C (P.toList.map (·.1))
 ae:M.Nodup
def fR(b:aV)(g:aq)(YC:Bool)(M:List (List X)):Prop:=(∃o P X8 C,b.get? g=Z o/\o.ExactSet/\o.data=.set P X8 C/\lO H XI P C YC M)
end
section
variable{XJ:bB}{H:a9}{XI:List X->aq->Prop}{L:br}{XA:ag->au->Prop}
def lO.size(w:lO H XI P C YC M):C.place.size=P.size:=by
 rw[w.bV.len,a6,dA]
def lO.fit(w:lO H XI P C YC M):C.fits P.size=aa:=by
 have:=w.bV.loose;unfold aO.fits aO.fill;rw[w.tab.o5,w.size,cq,oI,ek];rw[w.size]at this;exact⟨rfl,by show P.size+0<=_;lia⟩
def lO.num(w:lO H XI P C YC M):P.size=M.length:=by
 let⟨@Yt,l,t,Y⟩:=w.pk;rw[<-t.length_eq,a6,<-dA,<-l,a6]
def Jm(p:hK x){h a k:Nat}(g:x[h]?=Z k)(d:x[a]?=Z k):h=a:=by
 rw[<-Be p g,<-Be p d]
def Se{aC:jh}{f:Bool}{E:eP Bool}{I p:eP XR}{y:XR->au->Prop}(l:∀a:Bool->au->Prop,a aA m->wpAny aC L E a XA m)(t:wpAny aC L p y XA m):
  wpAny aC L (if f=aa then (do let d <-E;if d=aa then I else p) else p) y XA m:=by
 cases f
 ·rw[if_neg cB];exact t
 ·rw[aF rfl];refine aw (l _ ?_);rw[if_neg cB];exact t
theorem Bt{g e:aq}{q:List X}{YC:Bool}{M:List (List X)}{o:a5}{P:Array (Int×ag)}{X8:Nat}{C:aO}{m:au}{y:SetFound->au->Prop}{Yt:List (List X×Int×ag)}(ca:L.units+20<bj)(G:m.heap.get? g=Z o)(hd:o.data=.set P X8 C)(w:lO H XI P C YC M)(I:(ea XJ H).is m.heap q e)(J:∀s d,XI s d->(ea XJ H).is m.heap s d)(B:Yt.map (·.2)=P.toList)(N:(Yt.map (·.1)).Perm M)(Q:∀i∈Yt,vO H XI i)(as:q∈M->y (.there V) m)(a1:q∉M->∀S,(cA C.mask (dD H<|.tup q) S).j∉C.place.toList->(∀b,b<S->(cA C.mask (dD H<|.tup q) b).j∈C.place.toList)->y (.free (cA C.mask (dD H<|.tup q) S).j aA) m){ji:Nat}(D:(cA C.mask (dD H<|.tup q) ji).j∉C.place.toList)(cd:ji<10*aO.turns C.mask):
  ∀(fuel c:Nat) (R:Option aO.Probe),R.getD (C.probeStart<|dD H<|.tup q)=cA C.mask (dD H<|.tup q) c->ji<c+fuel->(∀b,b<c->(cA C.mask (dD H<|.tup q) b).j∈C.place.toList)->
   (∀(h b:Nat),b<c->C.place[h]?=Z (cA C.mask (dD H<|.tup q) b).j->(Yt.map (·.1))[h]?≠Z q)->
   wpAny (aN XJ H) L (Fh g (.ref e) (dD H<|.tup q) aa fuel R) y XA m
 |0,c,R,_,ce,E,_=>by
  refine absurd (E ji ⋯) D
 |fuel+1,c,R,ch,ce,E,XO=>by
  have ci:c<=ji:=by
   rcases f7 ji c with i|i
   ·exact absurd (E ji i) D
   ·exact i
  have cl:Yt.length=P.size:=by rw[<-dA,<-B,a6]
  have U:∀(h:Nat) (s:List X),(Yt.map (·.1))[h]?=Z s->∃a d,P[h]?=Z a/\a.2=.ref d/\a.1=dD H (.tup s)/\(ea XJ H).is m.heap s d:=λh s n=>by
   let⟨@i,a2,al⟩:=b5.mp (by rw[ef]at n;exact n);let⟨@d,p,v,z⟩:=Q i (fi a2);subst al;refine⟨i.2,d,?_,p,v,J _ _ z⟩;rw[<-eU,<-B,ef,a2];rfl
  unfold Fh;refine aw (kL G hd w.fit ?_);dsimp only;rw[if_neg (by unfold aO.gaveWay;rw[oI];have:=w.bV.kC.pos;lia)];rw[ch];unfold aO.probe;let⟨@f,f0,bd,co⟩:=B9 w.tab.rise w.tab.o5 (λh=>(P[h]?.map (·.1)).getD 0) (dD H<|.tup q) (10*aO.turns C.mask) c ⟨ji,ci,⋯,D⟩;have iD:∀b,b<f->(cA C.mask (dD H<|.tup q) b).j∈C.place.toList:=λb A=>by
   rcases f7 b c with i|i
   ·exact E b i
   ·let⟨@h,l,Y⟩:=bd b i A;rw[<-eU]at l;exact fi l
  have be:∀(h b:Nat),b<f->C.place[h]?=Z (cA C.mask (dD H<|.tup q) b).j->(Yt.map (·.1))[h]?≠Z q:=λh b A r n=>by
   rcases f7 b c with i|i
   ·exact XO h b i r n
   ·let⟨@bi,l,t⟩:=bd b i A;have:=Jm w.tab.rise r l;subst this;let⟨a,@d,p,z,v,am⟩:=U h q n;rw[p]at t;exact t v
  generalize bm:aO.probe.go C _ (dD H<|.tup q) _ (cA C.mask (dD H<|.tup q) c)=O;rcases co with ⟨a,an⟩|⟨h,a,al,F,f1⟩
  ·cases bm.symm.trans a;refine aM (a1 (λcr=>?_) f an iD);have cs:=N.mem_iff.mpr cr;let⟨@h,XG⟩:=vB cs;let⟨a,@d,p,z,v,am⟩:=U h q XG;have x:h<P.size:=(og.mp p).1;have r:C.place[h]?=Z (C.place[h]'(by rw[w.size];exact x)):=jk (by rw[w.size];exact x);have db:(C.place[h]'(by rw[w.size];exact x),dD H<|.tup q)∈C.place.toList.zip (P.toList.map (·.1)):=by
    refine fi (i:=h) ?_;rw[sh];refine⟨by rw[eU];exact r,?_⟩;rw[ef,eU,p,<-v];rfl
   let⟨@ap,bn,ds⟩:=w.bV.oW _ db;have dL:ap<f:=by
    rcases vo ap f with i|i|i
    ·exact i
    ·refine absurd ?_ an;rw[<-i,bn];exact Array.getElem_mem_toList ..
    ·exact absurd (ds f i) an
   exact be h ap dL (by rw[r,bn]) XG
  ·cases bm.symm.trans a;have x:h<Yt.length:=by rw[cl,<-w.size];exact (og.mp F).1
   have bs:(Yt.map (·.1))[h]?=Z Yt[h].1:=by rw[ef,dF x];rfl
   let⟨eq,@d,p,z,v,am⟩:=U h _ bs;dsimp only;refine Se (λf2 s=>Pm I (λu ev=>?_) s) ?_
   ·let⟨@ex,fd,rfl⟩:=cX.mp ev;have bv:ex∈P.toList:=Di.mpr (Array.mem_filter.mp<|Di.mp fd).1;rw[<-B]at bv;let⟨@i,fn,rfl⟩:=cX.mp bv;let⟨@fr,Ym,Y,T⟩:=Q i fn;exact⟨fr,i.1,Ym,J _ _ T⟩
   ·let⟨f4,gn⟩:=eq;cases z;rw[p];dsimp only;refine aw (fS ((ea XJ H).eqBool (show L.units+10<bj by lia) am I ?_));refine aw (kL G hd w.fit ?_);by_cases n:Yt[h].1=q
    ·rw[bG n,aF<|show (aa&&aa)=aa from rfl];exact aM (as (N.mem_iff.mp (by rw[<-n];exact Jt (sm x))))
    ·rw[decide_eq_false n,if_neg ∅];dsimp only;rw[show C.sameMemory C.moves C.mask=Z aa by unfold aO.sameMemory;rw[aF (iu _)]];dsimp only;rw[aF rfl,al];dsimp only;rw[p];dsimp only;refine aw (wpAny_isSame_ref_self<|aw<|aM ?_);rw[aF rfl];dsimp only;rw[if_neg cB];refine Bt ca G hd w I J B N Q as a1 D cd fuel (f+1) _ rfl ⋯ (λb A=>?_) λbi b A r=>?_
     ·rcases f7 b f with i|i
      ·exact iD b i
      ·rw[show b=f by lia];rw[<-eU]at F;exact fi F
     ·rcases f7 b f with i|i
      ·exact be bi b i r
      ·rw[show b=f by lia]at r;have:=Jm w.tab.rise r F;subst this;rw[bs];exact λa=>n (Option.some.inj a)
end
def iC(M:List (List X))(q:List X):List (List X):=(if q∈M then M else M++[q])
section
variable{XJ:bB}{H:a9}{XI:List X->aq->Prop}{L:br}{XA:ag->au->Prop}{m:au}
structure qp(H:a9)(XI:List X->aq->Prop)(P:Array (Int×ag))(C:aO)(YC:Bool)(M:List (List X))(v:Nat):Prop where
 pk:∃Yt:List (List X×Int×ag),Yt.map (·.2)=P.toList/\(Yt.map (·.1)).Perm M/\∀i∈Yt,vO H XI i
 tab:ko C YC
 kC:iy C.mask
 len:C.place.size=P.size
 le:∀k∈C.place.toList,k<=C.mask
 oW:∀n∈C.place.toList.zip (P.toList.map (·.1)),lj C.mask (·∈C.place.toList) n.2 n.1
 ae:M.Nodup
 cS:P.size=v+1
 EE:v*5<C.mask*3
def qp.dY(w:qp H XI P C YC M v):C.fits P.size=aa:=by
 have:=w.EE;have:=w.kC.pos;unfold aO.fits aO.fill;rw[w.tab.o5,w.len,w.cS,cq,oI,ek];exact⟨rfl,by show v+1+0<=_;lia⟩
def qp.done(w:qp H XI P C YC M v)(a:¬ ((v+1)*5 >= C.mask*3)):lO H XI P C YC M:=
 ⟨w.pk,w.tab,⟨w.kC,by rw[w.len,a6,dA],by rw[w.len,w.cS];lia,w.le,w.oW⟩,w.ae⟩
def B7{a:Array (Int×ag)}{Yc:aO}(c:b.get? g=Z o)(hd:o.data=.set P X8 C):
  (b.update g<|a5.putSet a Yc).get? g=Z {o with data:=.set a (X8+1) Yc}:=by
 have:=jB (a5.putSet a Yc) c (by rw[putSet_of a Yc hd];rfl);rw[putSet_of a Yc hd]at this;exact this
theorem yi{XR Yv:Type}(F:XR->Yv)(J:List XR)(E:List Yv)(a:J.map F=E):∀is:List Nat,(is.filterMap (J[·]?)).map F=is.filterMap (E[·]?)
 |[]=>rfl
 |h::is=>by
  subst a;rw[ro,ro,ef];cases J[h]? with
  |none=>exact yi F J _ rfl is
  |some e=>exact congrArg (F e::·) (yi F J _ rfl is)
def GX(J:List XR):(range J.length).filterMap (J[·]?)=J:=by
 have:=DH J.toArray;simpa using this
def A4{P c:Array (Int × ag)}{d:aO}{Xz:Bool -> au -> Prop}(l:m.heap.get? g=Z o)(n:o.ExactSet)(hd:o.data=.set P X8 C)(x:P.size=v)(k:v+1 <= 300)(w:qp H XI c d YC M v)(b : ∀ah,aV.SameBut g m.heap ah -> fR H XI ah g YC M -> Xz aa {m with heap:=ah}):
    wpAny (aN XJ H) L (do
        storeSet g c d
        if (!aA&&d.tooFull)=aa then do
            setRelay g (aO.grown<|P.size+1)
            pure aa
          else pure aa) Xz XA m:=by
  refine aw (ER l hd ?_ (by rw [w.cS]; exact dg k ∅));have f:=B7 (a:=c) (Yc:=d) l hd;have p:=lH m.heap g (a5.putSet c d);have q:d.tooFull=decide ((v+1)*5 >= d.mask*3):=by
    unfold aO.tooFull aO.fill;rw [w.tab.o5,w.len,w.cS];rfl
  by_cases j:(v+1)*5 >= d.mask*3
  · rw [q,bG j,aF<|show (!aA&&aa)=aa from rfl]
    let@⟨y,z,A⟩:=TM w.kC w.EE j k;unfold setRelay;refine aw (aw<|kL f rfl w.dY ?_);dsimp only;rw [x,if_neg (λi => absurd (eF i A) ∅)];let⟨Yc, @e,B,r,D,F⟩:=OJ (C:=d) (P:=c) (i:=aO.grown (v+1)) y (by rw [w.cS]; exact z) w.tab.led;rw [B];have s:(e.filterMap (c[·]?)).toList=e.toList.filterMap (c.toList[·]?):=by
      rw [xd];simp
    have G:(e.filterMap (c[·]?)).toList.Perm c.toList:=by
      rw [s];refine (r.filterMap _).trans ?_;rw [<-dA,GX]
    have t:(e.filterMap (c[·]?)).size=c.size:=by rw [<-dA,G.length_eq,dA]
    refine aw (m:=if ((e.filterMap (c[·]?)).size != c.size)=aa then _ else _) ?_;rw [t,if_neg ↥0];refine aM ?_;dsimp only;refine ER f rfl ?_ (by rw [t,w.cS]; exact dg k ∅);refine aM (b _ (p.trans<|lH _ g _) ⟨_,_,_,_,B7 f rfl,n,rfl, ?_,D,F,w.ae⟩);let⟨@Yt,u,I,J⟩:=w.pk;refine ⟨e.toList.filterMap (Yt[·]?), ?_, ?_,λi N => ?_⟩
    · rw [s]
      exact yi (·.2) Yt _ u _
    · refine (sr _ ?_).trans I
      refine (r.filterMap _).trans ?_;rw [show c.size=Yt.length by rw [<-dA, <-u,a6],GX]
    · let⟨@h,Y,a⟩:=vh.mp N
      exact J i (fi a)
  · rw [q,decide_eq_false j,if_neg (show ¬ ((!aA&&aA)=aa) from by decide)]
    refine aM (b _ p ⟨_,_,_,_,f,n,rfl,w.done j⟩)
def Wb{e:aq}{q:List X}{y:Bool->au->Prop}(J:L.units+20<bj)(XC:fR H XI m.heap g YC M)(t:(ea XJ H).is m.heap q e)(N:XI q e)(O:∀s d,XI s d->(ea XJ H).is m.heap s d)(Q:M.length+1<=300)(b:∀d ah,aV.SameBut g m.heap ah->fR H XI ah g YC (iC M q)->y d {m with heap:=ah}):
  wpAny (aN XJ H) L (setAddHashed g (.ref e)<|dD H<|.tup q) y XA m:=by
 let⟨o,P,X8,@C,f,n,hd,w⟩:=XC;have a2:=w;let⟨@Yt,B,D,E⟩:=w.pk;let⟨@ji,F,R⟩:=w.bV.some (dD H<|.tup q);have bd:=w.bV.kC.pos;unfold setAddHashed setAddHashedIn;refine fS (aw<|kL f hd w.fit ?_);dsimp only;rw[if_neg (show ¬ (byScan (ag.ref e) P=aa) from λi=>cB i)];unfold setSearch;refine aw (Bt J f hd w t O B D E (λp=>?_) (λp c G S=>?_) R F 100000 0 V rfl (by unfold aO.turns at F;lia) (λT i=>absurd i<|qh _) λh T i=>absurd i<|qh _)
 ·refine aM ?_;have a:m={m with heap:=m.heap}:=by cases m;rfl
  rw[a];refine b _ _ (aV.SameBut.refl g m.heap) ?_;rw[iC,aF p];exact⟨o,P,X8,C,f,n,hd,w⟩
 ·dsimp only;refine aw (kL f hd w.fit ?_);dsimp only;let@⟨U,YG⟩:=w.bV.put (b:=dD H (.tup q)) G S;have al:¬ (C.place[aO.below C.place (cA C.mask (dD H<|.tup q) c).j]?=Z (cA C.mask (dD H<|.tup q) c).j):=λi=>G (by rw[<-eU]at i;exact fi i);have am:=w.tab.put al;have u:∀d:Bool,qp H XI (aO.insertAt P (C.put (cA C.mask (dD H<|.tup q) c).j).2 (dD H<|.tup q,.ref e)) { (C.put (cA C.mask (dD H<|.tup q) c).j).1 with plain:=d} YC (M++[q]) P.size:=λd=>by
   have v:(aO.insertAt P (C.put (cA C.mask (dD H<|.tup q) c).j).2 (dD H<|.tup q,ag.ref e)).toList=_:=Ax _ _ _;have an:(C.put (cA C.mask (dD H<|.tup q) c).j).1.place.toList=_:=Ax _ _ _;have I:(aO.insertAt P (C.put (cA C.mask (dD H<|.tup q) c).j).2 (dD H<|.tup q,ag.ref e)).size=P.size+1:=by
    rw[<-dA,v,cC,b6,m5,m1,dA];lia
   refine⟨⟨Yt.take (C.put (cA C.mask (dD H<|.tup q) c).j).2++(q,dD H<|.tup q,.ref e)::Yt.drop (C.put (cA C.mask (dD H<|.tup q) c).j).2,?_,?_,λi l=>?_⟩,am.Ui d,w.bV.kC,?_,U,?_,?_,I,?_⟩
   ·rw[v,<-B,fq,bz,v5,u7]
   ·rw[fq,bz,v5,u7];refine Jb.trans ?_;rw[Af];exact (D.cons q).trans (d3 (l₁:=[q]))
   ·rcases q1.mp l with rfl|l
    ·exact⟨e,rfl,rfl,N⟩
    ·exact E i l
   ·show (C.put (cA C.mask (dD H<|.tup q) c).j).1.place.size=_;rw[I,<-dA,an,cC,b6,m5,m1,dA,w.size];lia
   ·rw[v,fq,bz,v5,u7];exact YG
   ·exact cH.mpr ⟨w.ae,es _ q,λA ap i l=>by cases cf.mp l;exact λa=>p<|a ▸ ap⟩
   ·have:=w.bV.loose;rw[w.size]at this;exact this
  have x:∀ah,aV.SameBut g m.heap ah->fR H XI ah g YC (M++[q])->y aa {m with heap:=ah}:=λah as a1=>b aa ah as (by rw[iC,if_neg p];exact a1);have z:P.size+1<=300:=by rw[w.num];exact Q
  split
  ·refine aw (Fj 8 (r:=.tup q) t.1 t.2 λd=>?_);cases d
   ·exact A4 f n hd rfl z (u aA) x
   ·exact A4 f n hd rfl z (u _) x
  ·refine aw (aM ?_);exact A4 f n hd rfl z (u _) x
end
def hC(H:a9):Bool:=(!H.params.followText "set-order")
def lI(YC:Bool):a5:=({cls:=.type "set",dict:=V,data:=.set #[] 0 (.fresh 0 0 YC)})
def VY:isSubtype (.type "tuple") (.type "set")=pure aA:=by rw[qX];kernel_rfl
def Lb:isSubtype (.type "tuple") (.type "frozenset")=pure aA:=by rw[qX];kernel_rfl
section
variable{XJ:bB}{H:a9}{L:br}{XA:ag->au->Prop}{m:au}
def Wd(g:ag){a:ag->au->Prop}(b:a (.ref m.heap.objs.size) {m with heap:=m.heap.push (lI<|hC H)}):
  codeAny (aN XJ H) L (.call (.builtin "set.__new__") ⟨[.type "set",g],[]⟩) (wants a XA) m:=by
 refine Ga ?_;show wpAny _ L.in1 (do checkBuiltinCall "set.__new__" ⟨[.type "set",g],[]⟩;again (.builtin "set.__new__" ⟨[.type "set",g],[]⟩)) _ _ m;refine aw (qy (PySem.F.newCall_set_1 g)<|aM ⟨hz J0 _,hW PySem.F.entry_set_new ?_⟩);rw[iR J0 _];unfold bc.«set.__new__» bc.Frozenset.newClass;have c:=sub_set_self;let⟨d,O,r,Yb,XU⟩:=m;dsimp only
 wp_walk
 refine zf (aM ?_);dsimp only;simp only[newObj];refine aw (x5<|aM ?_);exact aM b
end
abbrev cy:=Sum Int aD
def oU:cy->ag->Bool
 |.inl q,u=>ag.isInt q u
 |.inr e,u=>ag.isStrOf e u
def R_(H:a9):cy->Int
 |.inl q=>hashInt q
 |.inr e=>hashStr H e
theorem kV:∀{q:cy}{u:ag},oU q u=aa->(∃h C,q=Sum.inl h/\u=ag.int h C)\/(∃e C,q=Sum.inr e/\u=ag.str e C)
 |.inl h,u,b=>by
  let⟨@C,a⟩:=ag.isInt_shape (k:=h) (v:=u) b;exact .inl ⟨h,C,rfl,a⟩
 |.inr e,u,b=>by
  let⟨@C,a⟩:=ag.isStrOf_shape (x:=e) (v:=u) b;exact .inr ⟨e,C,rfl,a⟩
def SP(h:Int)(C:hT):oU (.inl h) (.int h C)=aa:=by simp[oU,ag.isInt]
def Rt(e:aD)(C:hT):oU (.inr e) (.str e C)=aa:=by simp[oU,ag.isStrOf]
def LJ(g d:Int):decide ((Sum.inl g:cy)=Sum.inl d)=(g==d):=by
 by_cases a:g=d
 ·subst a;simp
 ·have b:¬ (Sum.inl g:cy)=Sum.inl d:=λs=>a (Sum.inl.inj s);rw[decide_eq_false b];exact (ve.mpr a).symm
def Lz(g d:aD):decide ((Sum.inr g:cy)=Sum.inr d)=decide (g=d):=by
 by_cases a:g=d
 ·subst a;simp
 ·have b:¬ (Sum.inr g:cy)=Sum.inr d:=λs=>a (Sum.inr.inj s);rw[decide_eq_false b,decide_eq_false a]
def PW(g:Int)(d:aD):decide ((Sum.inl g:cy)=Sum.inr d)=aA:=decide_eq_false (λs=>nomatch s)
def Lp(g:aD)(d:Int):decide ((Sum.inr g:cy)=Sum.inl d)=aA:=decide_eq_false (λs=>nomatch s)
def ip(XJ:bB)(H:a9):PySem.KeyKind XJ H cy where
 is:=oU
 hash:=R_ H
 inj:=λu g d j i=>by
  rcases kV j with ⟨h,C,rfl,rfl⟩|⟨e,C,rfl,rfl⟩
  ·rcases kV i with ⟨k,I,rfl,a⟩|⟨A,I,rfl,a⟩
   ·injection a with c _;rw[c]
   ·exact nomatch a
  ·rcases kV i with ⟨k,I,rfl,a⟩|⟨A,I,rfl,a⟩
   ·exact nomatch a
   ·injection a with c _;rw[c]
 byValue:=λq u b=>by
  rcases kV b with ⟨h,C,rfl,rfl⟩|⟨e,C,rfl,rfl⟩<;>rfl
 pyHash:=λf b=>by
  rcases kV f with ⟨h,C,rfl,rfl⟩|⟨e,C,rfl,rfl⟩
  ·exact Jh b
  ·exact J4 b
 eqBool:=λl f b=>by
  rcases kV l with ⟨h,C,rfl,rfl⟩|⟨e,C,rfl,rfl⟩
  ·rcases kV f with ⟨k,I,rfl,rfl⟩|⟨A,I,rfl,rfl⟩
   ·rw[LJ]at b;exact wpAny_eqBool_int b
   ·rw[PW]at b;exact KC h C A I _ _ _ _ b
  ·rcases kV f with ⟨k,I,rfl,rfl⟩|⟨A,I,rfl,rfl⟩
   ·rw[Lp]at b;exact H5 e C k I _ _ _ _ b
   ·rw[Lz]at b;exact wpAny_eqBool_str b
 «strs»:=λq e C u b=>by
  rcases kV b with ⟨h,I,rfl,a⟩|⟨A,I,rfl,a⟩
  ·exact nomatch a
  ·injection a with c _;subst c;cases u<;>rfl
def UX(XJ:bB)(H:a9)(h:Int)(C:hT):(ip XJ H).is (.inl h) (.int h C)=aa:=SP h C
def P8(XJ:bB)(H:a9)(e:aD)(C:hT):(ip XJ H).is (.inr e) (.str e C)=aa:=Rt e C
inductive ai where
 | aK|aH (d:Bool)|int (h:Int)|str (e:aD)|rz (d:Array UInt8)|z4 (d:UInt64)|ref (g:aq)|ty (v:String)
 deriving DecidableEq
variable{Q:List ai}{A u:ai}
def bU:ai->ag->Prop
 |.aK,I=>I=ag.none
 |.aH d,I=>I=ag.bool d
 |.int h,I=>∃C,I=ag.int h C
 |.str e,I=>∃C,I=ag.str e C
 |.rz d,I=>∃C,I=ag.bytes d C
 |.z4 d,I=>∃C,I=ag.float d C
 |.ref g,I=>I=ag.ref g
 |.ty v,I=>I=ag.type v
abbrev bN:List ai->List ag->Prop:=dB bU
def bN.length{x:List ai}(p:bN x XZ):x.length=XZ.length:=dB.length p
theorem bN.get:∀{x:List ai}{XZ:List ag}{h:Nat}{e:ai},bN x XZ->x[h]?=Z e->∃I,XZ[h]?=Z I/\bU e I
 |_,_,_,_,.nil,a=>by simp at a
 |_,_,0,_,.cons p _,a=>by simp at a;subst a;exact⟨_,rfl,p⟩
 |_,_,h+1,e,.cons _ C,a=>by
  let⟨@I,l,t⟩:=bN.get (h:=h) (e:=e) C ⇑a;exact⟨I,by simpa using l,t⟩
theorem bN.set{e:ai}{I:ag}(p:bU e I):∀{x:List ai}{XZ:List ag} (h:Nat),bN x XZ->bN (x.set h e) (XZ.set h I)
 |_,_,_,.nil=>.nil
 |_,_,0,.cons _ C=>.cons p C
 |_,_,h+1,.cons s C=>.cons s (bN.set p h C)
theorem bN.append:∀{x XW:List ai}{XZ a:List ag},bN x XZ->bN XW a->bN (x++XW) (XZ++a)
 |_,_,_,_,.nil,m=>m
 |_,_,_,_,.cons p C,m=>.cons p (bN.append C m)
theorem bN.take:∀{x:List ai}{XZ:List ag} (v:Nat),bN x XZ->bN (x.take v) (XZ.take v)
 |_,_,0,_=>.nil
 |_,_,_+1,.nil=>.nil
 |_,_,v+1,.cons p C=>.cons p (bN.take v C)
theorem bN.drop:∀{x:List ai}{XZ:List ag} (v:Nat),bN x XZ->bN (x.drop v) (XZ.drop v)
 |_,_,0,p=>p
 |_,_,_+1,.nil=>.nil
 |_,_,v+1,.cons _ C=>bN.drop v C
def i6:Option ai->Option ag->Prop
 |some u,Z I=>bU u I
 |none,V=>True
 |_,_=>False
def eE{X6:Type}:List (X6×ai)->List (X6×ag)->Prop:=(dB λ(n:X6×ai) (s:X6×ag)=>n.1=s.1/\bU n.2 s.2)
def bR:cy->ai
 |.inl h=>.int h
 |.inr e=>.str e
inductive eY where
 | lst (x:List ai)
 | tup (x:List ai)
 | cb (Xy:List (cy×ai))|aE (Xy:List (List X×ai))
 | set (XC:Int->Bool) (v:Nat)
 | ins (aL z:aq) (Y:List (aD×ai))
 | own (e:aq)
 | rB (Y:List (aD×ai))
 | met (F e:aq)
 | xm (XB XG:Int)
 | dw (o:a5) (I:eY)
 | nA (XF:Array ag)
 | ext (Xb:aV->Prop)
abbrev ax:=aq->Option eY
variable{S j:ax}
def upd(j:ax)(g:aq)(o:eY):ax:=(λd=>if d=g then Z o else j d)
def dx{o:eY}:upd j g o g=Z o:=by unfold upd;rw[aF rfl]
def cm{o:eY}(b:d≠g):upd j g o d=j d:=by unfold upd;rw[if_neg b]
def Ab{o I:eY}(b:j g=Z o)(ah:j d=Z I)(r:o≠I):g≠d:=by
 intro a;subst a;rw[b]at ah;exact r (Option.some.inj ah)
def j0{o:eY}(b:j g=Z o)(ah:j d=V):g≠d:=by
 intro a;subst a;rw[b]at ah;cases ah
mutual
def b8(j:ax):X->ai->Prop
 |.aK,u=>u=.aK
 |.aH d,u=>u=.aH d
 |.int h,u=>u=.int h
 |.str e,u=>u=.str e
 |.fn g,u=>u=.ref g
 |.aW D,u=>∃g x o,u=.ref g/\j g=Z (.dw o<|.lst x)/\bt j D x
 |.fd E,u=>∃g o Yk,u=.ref g/\j g=Z (.dw o<|.aE Yk)/\Yk=E.map λn=>([X.int n.1.1,X.int n.1.2],ai.int n.2)
 |.tup D,u=>∃g x,u=.ref g/\j g=Z (.tup x)/\bt j D x
def bt(j:ax):List X->List ai->Prop
 |[],Q=>Q=[]
 |r::D,Q=>∃u p,Q=u::p/\b8 j r u/\bt j D p
end
def qI(j S:ax):Prop:=(∀g x,j g=Z (.tup x)->S g=Z (.tup x))
structure qx(j S:ax):Prop where
 t:qI j S
 z:∀g o I,j g=Z (.dw o I)->S g=Z (.dw o I)
noncomputable instance {j S:ax}:CoeFun (qx j S) (λ_=>∀g x,j g=Z (.tup x)->S g=Z (.tup x)):=⟨λC=>C.t⟩
mutual
theorem b8.mono{j S:ax}(q:qx j S):∀{r:X}{u:ai},b8 j r u->b8 S r u
 |.aK,_,a=>a
 |.aH _,_,a=>a
 |.int _,_,a=>a
 |.str _,_,a=>a
 |.fn _,_,a=>a
 |.tup D,_,a=>by
  let⟨g,@x,rfl,l,t⟩:=a;exact⟨g,x,rfl,q.t g x l,bt.mono q t⟩
 |.aW D,_,a=>by
  let⟨g,x,@o,rfl,l,t⟩:=a;exact⟨g,x,o,rfl,q.z g _ _ l,bt.mono q t⟩
 |.fd E,_,a=>by
  let⟨g,o,@Yk,rfl,l,t⟩:=a;exact⟨g,o,Yk,rfl,q.z g _ _ l,t⟩
theorem bt.mono{j S:ax}(q:qx j S):∀{D:List X}{Q:List ai},bt j D Q->bt S D Q
 |[],_,a=>a
 |r::D,_,a=>by
  let⟨u,@p,rfl,l,t⟩:=a;exact⟨u,p,rfl,b8.mono q l,bt.mono q t⟩
end
def hk(j:ax)(q:List X)(d:aq):Prop:=(X.keys 7 q=aa/\b8 j (.tup q) (.ref d))
mutual
theorem b8.sj{j S:ax}(q:qI j S):∀{r:X}{v:Nat}{u:ai},X.key v r=aa->b8 j r u->b8 S r u
 |.aK,_,_,_,a=>a
 |.aH _,_,_,_,a=>a
 |.int _,_,_,_,a=>a
 |.str _,_,_,_,a=>a
 |.fn _,_,_,_,a=>a
 |.tup D,v+1,_,s,a=>by
  let⟨g,@x,rfl,l,t⟩:=a;exact⟨g,x,rfl,q g x l,bt.sj q s t⟩
 |.tup D,0,_,s,a=>nomatch s
 |.aW D,0,_,s,a=>nomatch s
 |.aW D,v+1,_,s,a=>nomatch s
 |.fd _,0,_,s,a=>nomatch s
 |.fd _,v+1,_,s,a=>nomatch s
theorem bt.sj{j S:ax}(q:qI j S):∀{D:List X}{v:Nat}{Q:List ai},X.keys v D=aa->bt j D Q->bt S D Q
 |[],_,_,_,a=>a
 |r::D,v,_,s,a=>by
  let⟨u,@p,rfl,l,t⟩:=a;rw[X.keys,cq]at s;exact⟨u,p,rfl,b8.sj q s.1 l,bt.sj q s.2 t⟩
end
def hk.mono{q:List X}(b:hk j q d)(C:qI j S):hk S q d:=by
 let@⟨c,⟨g,@x,a,l,t⟩⟩:=b;exact⟨c,g,x,a,C g x l,t.sj C c⟩
def mL(b:aV)(g:aq)(X1:Array ag):Prop:=(∃o,b.get? g=Z o/\(o.cls,o.dict)=(.type "tuple",V)/\∃v,o.data=.seq X1 v)
def mL.tup{X1:Array ag}(e:mL b g X1):nh b g X1:=let ⟨o,a,f,p⟩:=e;⟨o,a,(Prod.mk.inj f).1,p⟩
def mL.new(b:aV)(X1:Array ag):mL (b.push {cls:=.type "tuple",data:=.seq X1}) b.objs.size X1:=⟨_,dE _ rfl,rfl,_,rfl⟩
section
variable(XI:bB)(H:a9)
def en(j:ax)(b:aV)(g:aq):eY->Prop
 |.lst x=>x.length<=sizeLine/\∃(XN:List ag) (v:Nat),bN x XN/\b.get? g=Z {cls:=.type "list",data:=.seq XN.toArray v}
 |.tup x=>x.length<=sizeLine/\∃XN:List ag,bN x XN/\mL b g XN.toArray
 |.cb Xy=>Xy.length<=sizeLine/\(g==h4)=aA/\∃Q,eE Xy Q/\b.DictOf (ip XI H) g Q
 |.aE Xy=>Xy.length<=sizeLine/\(g==h4)=aA/\∃x:List (List X×aq×ag),
   dB (λ(n:List X×ai) (s:List X×aq×ag)=>n.1=s.1/\hk j n.1 s.2.1/\bU n.2 s.2.2) Xy x/\
   ∃o P X8,b.get? g=Z o/\o.ExactDict/\o.data=.dict P X8/\P.toList=x.map (xX<|ea XI H)/\(x.map (·.1)).Nodup
 |.set XC v=>b.SetOf (intKind XI H) g XC v
 |.ins aL z Y=>j z=Z (.own g)/\Y.length<=1000/\z≠g/\b.get? g=Z (PySem.W.instObj aL z)/\
   ∃w,b.Ns1 z w/\(∀F,i6 (Y.lookup F)<|w F)/\PySem.Within w (Y.map (·.1))
 |.own _=>∃o,b.get? g=Z o
 |.rB Y=>∃w,b.Ns1 g w/\∀F,i6 (Y.lookup F) (w F)
 |.xm XB XG=>∃C I u,b.get? g=Z {cls:=.type "range",data:=.fields #[.int XB C,.int XG I,.int 1 u]}
 |.dw o I=>b.get? g=Z o/\en j b g I
 |.nA XF=>b.get? g=Z {cls:=.none,data:=.fields XF}
 |.met F e=>b.get? g=Z (Γ (.ref F)<|.ref e)
 |.ext a=>a b/\(∃o,b.get? g=Z o)/\∀l t:aV,a l->(∀o,l.get? g=Z o->t.get? g=Z o)->a t
def ee(j:ax)(b:aV):Prop:=(∀g o,j g=Z o->en XI H j b g o)
end
section
variable{XI:bB}{H:a9}{j S:ax}{b ah:aV}{g:aq}{o:eY}
def en.lt(e:en XI H j b g o):g<b.objs.size:=by
 cases o with
 |lst x=>let@⟨_,⟨_,@_,_,a⟩⟩:=e;exact cn a
 |tup x=>let@⟨_,⟨@_,_,n⟩⟩:=e;exact n.tup.lt
 |cb Xy=>let@⟨_,_,⟨@_,_,⟨o,_,@_,a,_⟩⟩⟩:=e;exact cn a
 |aE Xy=>let@⟨_,_,⟨@_,_,⟨o,_,@_,a,_⟩⟩⟩:=e;exact cn a
 |set XC v=>let⟨o,W,W,@W,a,W⟩:=e;exact cn a
 |ins aL z Y=>let@⟨_,_,_,a,_⟩:=e;exact cn a
 |own A=>let⟨@W,a⟩:=e;exact cn a
 |rB Y=>let⟨@W,⟨W,W,@W,a,W⟩,W⟩:=e;exact cn a
 |xm XB XG=>let⟨W,W,@W,a⟩:=e;exact cn a
 |dw Yo I=>let@⟨a,_⟩:=e;exact cn a
 |nA XF=>exact cn (show b.get? g=Z _ from e)
 |met F A=>exact cn (show b.get? g=Z _ from e)
 |ext c=>let@⟨_,⟨@_,a⟩,_⟩:=e;exact cn a
theorem dB.sP{XR Yv:Type}{N XH:XR->Yv->Prop}:∀{a:List XR}{b:List Yv},dB N a b->(∀g d,N g d->XH g d)->dB XH a b
 |_,_,.nil,_=>.nil
 |_,_,.cons p C,F=>.cons (F _ _ p) (dB.sP C F)
def en.fB(e:en XI H j b g o)(q:∀d I,(d=g\/j d=Z (.own g))->b.get? d=Z I->ah.get? d=Z I)(c:∀d,j d=Z (.own g)->S d=Z (.own g))(bV:∀d x,j d=Z (.tup x)->S d=Z (.tup x)):en XI H S ah g o:=by
 induction o with
 |lst x=>let@⟨i,⟨XN,@v,p,a⟩⟩:=e;exact⟨i,XN,v,p,q _ _ (.inl rfl) a⟩
 |tup x=>let@⟨i,⟨@XN,p,⟨@Yo,a,f⟩⟩⟩:=e;exact⟨i,XN,p,Yo,q _ _ (.inl rfl) a,f⟩
 |cb Xy=>let@⟨i,A,⟨@Q,p,⟨Yo,P,@X8,a,f⟩⟩⟩:=e;exact⟨i,A,Q,p,Yo,P,X8,q _ _ (.inl rfl) a,f⟩
 |aE Xy=>
  let@⟨i,A,⟨@x,p,⟨Yo,P,@X8,a,f⟩⟩⟩:=e;exact⟨i,A,x,dB.sP p λn s i=>⟨i.1,i.2.1.mono bV,i.2.2⟩,Yo,P,X8,q _ _ (.inl rfl) a,f⟩
 |set XC v=>let⟨Yo,P,X8,@C,a,f⟩:=e;exact⟨Yo,P,X8,C,q _ _ (.inl rfl) a,f⟩
 |ins aL z Y=>
  let@⟨r,i,ne,a,⟨@w,⟨l,P,@X8,h,f⟩,p⟩⟩:=e;exact⟨c _ r,i,ne,q _ _ (.inl rfl) a,w,⟨l,P,X8,q _ _ (.inr r) h,f⟩,p⟩
 |own A=>let⟨@Yo,a⟩:=e;exact⟨Yo,q _ _ (.inl rfl) a⟩
 |rB Y=>let⟨@w,⟨l,P,@X8,a,f⟩,p⟩:=e;exact⟨w,⟨l,P,X8,q _ _ (.inl rfl) a,f⟩,p⟩
 |xm XB XG=>let⟨C,I,@u,a⟩:=e;exact⟨C,I,u,q _ _ (.inl rfl) a⟩
 |dw Yo I k=>let@⟨a,s⟩:=e;exact⟨q _ _ (.inl rfl) a,k s⟩
 |nA XF=>
  have a:b.get? g=Z {cls:=.none,data:=.fields XF}:=e;show ah.get? g=Z {cls:=.none,data:=.fields XF};exact q g _ (.inl rfl) a
 |met F A=>
  have a:b.get? g=Z (Γ (.ref F)<|.ref A):=e;show ah.get? g=Z (Γ (.ref F)<|.ref A);exact q g _ (.inl rfl) a
 |ext m=>let@⟨n,⟨@o,a⟩,R⟩:=e;exact⟨R _ _ n λo s=>q _ _ (.inl rfl) s,⟨o,q _ _ (.inl rfl) a⟩,R⟩
theorem ee.lt(e:ee XI H j b)(a:j g=Z o):g<b.objs.size:=(e g o a).lt
def ee.fresh(e:ee XI H j b)(a:b.objs.size<=g):j g=V:=by
 cases s:j g with
 |none=>rfl
 |some I=>exact absurd (eF (e.lt s) a) (gN _)
def ee.kept(e:ee XI H j b)(q:∀d I,b.get? d=Z I->ah.get? d=Z I):ee XI H j ah:=λg o a=>
 (e g o a).fB (λd I Y s=>q d I s) (λ_ s=>s) λ_ Y s=>s
def ee.laid(e:ee XI H j b)(q:∀d I,b.get? d=Z I->ah.get? d=Z I)(i:b.objs.size<=g)(new:en XI H (upd j g o) ah g o):ee XI H (upd j g o) ah:=λd I a=>by
 have c:=e.fresh i;by_cases h:d=g
 ·subst h;rw[dx]at a;cases a;exact new
 ·rw[cm h]at a;exact (e d I a).fB (λf u Y s=>q f u s) (λf s=>by rw[cm (j0 s c)];exact s) λf x s=>by rw[cm (j0 s c)];exact s
end
def g9(j:ax)(g:aq)(I:eY):Prop:=(j g=Z I\/∃o,j g=Z (.dw o I))
def g9.ok{I:eY}(p:g9 j g I)(e:ee XI H j b):en XI H j b g I:=by
 rcases p with p|⟨o,p⟩
 ·exact e g I p
 ·let@⟨_,s⟩:=e g _ p;exact s
def sL:Option eY->Prop
 |some (.lst _)=>True
 |some (.cb _)=>True
 |some (.aE _)=>True
 |some (.set _ _)=>True
 |some (.ins _ _ _)=>True
 |some (.ext _)=>True
 |_=>False
section
variable{XI:bB}{H:a9}{j:ax}{b ah:aV}{e a:aq}{Yy:eY}
def ee.write(ok:ee XI H j b)(c:sL (j e))(l:a=e\/j a=Z (.own e))(q:∀d I,d≠a->b.get? d=Z I->ah.get? d=Z I)(n:∃I,ah.get? a=Z I)(new:en XI H (upd j e Yy) ah e Yy):ee XI H (upd j e Yy) ah:=λd I s=>by
 have m:∀f A,j f=Z (.own A)->f≠e:=λf A p i=>by subst i;rw[p]at c;exact c
 have o:∀f x,j f=Z (.tup x)->f≠e:=λf x p i=>by subst i;rw[p]at c;exact c
 by_cases g:d=e
 ·subst g;rw[dx]at s;cases s;exact new
 ·rw[cm g]at s;by_cases h:d=a
  ·have cU:j d=Z (.own e):=by
    rcases l with i|i
    ·exact absurd (h.trans i) g
    ·rw[h];exact i
   rw[s]at cU;cases cU;let⟨@u,r⟩:=n;exact⟨u,by rw[h];exact r⟩
  ·refine (ok d I s).fB (λf u k p=>q f u ?_ p) (λf p=>by rw[cm (m f d p)];exact p) λf x p=>by rw[cm (o f x p)];exact p
   rcases k with rfl|k
   ·exact h
   ·rintro rfl;rcases l with i|i
    ·exact m f d k i
    ·rw[k]at i;cases i;exact g rfl
end
structure eS(Y Yp:List aq)(j S:ax)(b ah:aV):Prop where
 keep:∀d o,b.get? d=Z o->j d=V->d∉Y->d∉Yp->ah.get? d=Z o
 slot:∀d o,b.get? d=Z o->j d=V->d∈Y->d∉Yp->∃aR,ah.get? d=Z {o with slots:=aR}
 free:∀d o,b.get? d=Z o->j d=V->d∉Yp->S d=V
 jc:∀d o x,b.get? d=Z o->j d=Z (.tup x)->d∉Yp->ah.get? d=Z o
 there:∀d o,b.get? d=Z o->d∉Yp->∃Yy,ah.get? d=Z Yy
 iG:∀d x,j d=Z (.tup x)->S d=Z (.tup x)
 i_:∀d o I,j d=Z (.dw o I)->S d=Z (.dw o I)
 kn:∀d XF,j d=Z (.nA XF)->∃more,S d=Z (.nA<|XF++more)
section
variable{Y n Yp c:List aq}{j XE XS:ax}{b l t ah:aV}{g e a:aq}{o:eY}
def eS.any(I:eS Y Yp j XE b l){d:aq}{Yo:a5}(s:b.get? d=Z Yo)(v:j d=V)(a:d∉Yp):∃aR,l.get? d=Z {Yo with slots:=aR}:=by
 by_cases c:d∈Y
 ·exact I.slot d Yo s v c a
 ·exact⟨Yo.slots,I.keep d Yo s v c a⟩
def eS.kept(q:∀d I,b.get? d=Z I->ah.get? d=Z I):eS Y Yp j j b ah:=
 ⟨λd Yo s W W W=>q d Yo s,λd Yo s W W W=>⟨Yo.slots,q d Yo s⟩,λ_ W W v W=>v,λd Yo W s W W=>q d Yo s,λd Yo s W=>⟨Yo,q d Yo s⟩,λ_ W s=>s,λ_ W W s=>s,λ_ XF s=>⟨#[],by rw[s];simp⟩⟩
def eS.refl:eS Y Yp j j b b:=eS.kept λ_ W s=>s
theorem eS.laid(q:∀d I,b.get? d=Z I->ah.get? d=Z I)(c:b.objs.size<=g)(a:j g=V):eS Y Yp j (upd j g o) b ah where
 keep:=λd I s W W W=>q d I s
 slot:=λd I s W W W=>⟨I.slots,q d I s⟩
 free:=λd I s v W=>by rw[cm (c0<|eF (cn s) c)];exact v
 jc:=λd I W s W W=>q d I s
 there:=λd I s W=>⟨I,q d I s⟩
 iG:=λd x s=>by rw[cm (j0 s a)];exact s
 i_:=λd I x s=>by rw[cm (j0 s a)];exact s
 kn:=λd XF s=>⟨#[],by rw[cm (j0 s a),s];simp⟩
def eS.write(c:sL (j e))(g:a=e\/j a=Z (.own e))(q:∀d I,d≠a->b.get? d=Z I->ah.get? d=Z I)(m:∃I,ah.get? a=Z I):eS Y Yp j (upd j e o) b ah:=by
 have h:∀d,j d=V->d≠e:=λd v i=>by subst i;rw[v]at c;exact c
 have k:∀d,j d=V->d≠a:=λd v i=>by
  subst i;rcases g with p|p
  ·exact h d v p
  ·rw[v]at p;cases p
 have f:∀d I,j d=Z I->¬ sL (Z I)->d≠e:=λd I s w i=>by subst i;rw[s]at c;exact w c
 refine⟨λd I s v W W=>q d I (k d v) s,λd I s v W W=>⟨I.slots,q d I (k d v) s⟩,λd I s v W=>by rw[cm (h d v)];exact v,λd I x s C W=>q d I (λi=>by
   subst i;rcases g with p|p
   ·exact f d _ C (λi=>i) p
   ·rw[C]at p;cases p) s,λd I s W=>?_,
  λd x s=>by rw[cm (f d _ s λi=>i)];exact s,λd I x s=>by rw[cm (f d _ s λi=>i)];exact s,λd XF s=>⟨#[],by rw[cm (f d _ s λi=>i),s];simp⟩⟩
 by_cases l:d=a
 ·subst l;exact m
 ·exact⟨I,q d I l s⟩
end
def s_(b:aV)(j:ax):List aq:=((range b.objs.size).filter λg=>(j g).isSome)
def JK:List ag->Option (List ai)
 |[.int h _,.int k _]=>Z [.int h,.int k]
 |_=>V
def rj(o:a5):Option (List ai):=(
 match o.cls,o.dict,o.data with
 | .type "tuple",V,.seq XN _=>JK XN.toList
 |_,_,_=>V)
def kk(o:a5):Option eY:=((rj o).map .tup)
def lb(b:aV)(j:ax):aV:=(PySem.W.hideAll b (s_ b j))
def VM(b:aV)(j:ax):(lb b j).objs.size=b.objs.size:=PySem.W.hideAll_size _ _
def Ru(a:b.get? d=Z o)(v:j d=V):(lb b j).get? d=Z o:=
 PySem.W.hideAll_get _ a λc=>by
  have s:(j d).isSome=aa:=(gD.mp c).2;rw[v]at s;simp at s
def zG(a:(lb b j).get? d=Z o):b.get? d=Z o/\j d=V:=by
 have c:b.get? d=Z o:=PySem.W.of_hideAll (s_ b j) a;refine⟨c,?_⟩;cases s:j d with
 |none=>rfl
 |some e=>
  have f:d∈s_ b j:=gD.mpr ⟨gJ.mpr<|cn c,by simp[s]⟩;have i:(lb b j).get? d=V:=PySem.W.hideAll_none (s_ b j) f;rw[i]at a;cases a
def PT(O b:aV)(XQ:aq):List (aq×a5):=((range b.objs.size).filterMap λg=>if g=XQ\/(O.get? g).isSome=aa then V else (b.get? g).map λo=>(g,o))
def cR(O b:aV)(XQ r:aq):List (aq×a5):=((PT O b XQ).filter λn=>decide (n.1≠r))
structure Mod(U:Φ)(aJ:aD->Option ag)(X9:aV):Prop where
 ze:U.In X9
 glob:X9.Ns d9 aJ
 blt:∃Io,X9.Ns sY Io/\∀e:aD,e ≠ "__name__" -> Io e=fb e
 nolimit:X9.NoLimit
structure aI where
 prog:bB
 w:a9
 K:Φ
 aJ:aD->Option ag
 base:aV
 A:br
 N:List aD
 fa:au
 mh:ax
 env:eQ
 outer:List eQ
 stack:List eQ
 ex:List aq
 fn:aD->Bool
 calm:Bool
 j3:List (aq×a5)
 cP:ag->au->Prop
variable{c:aI}
def ic(J:List eQ):List aq:=(J.filterMap (·.frame))
abbrev aI.Y(c:aI):List aq:=ic c.outer
def tH(T:hn)(e:aD):Prop:=(T.names.lookup e=Z .local\/T.names.lookup e=Z .cell\/T.names.lookup e=Z .free)
def iO(T:hn)(e:aD):Prop:=(T.names.lookup e=Z .local\/T.names.lookup e=Z .cell)
def OX(Xx:eQ)(b:aV)(E:aD->Option ag)(e:aD)(I:ag):Prop:=(
 (Xx.kindOf e=Z .local/\E e=Z I)\/((Xx.kindOf e=Z .cell\/Xx.kindOf e=Z .free)/\∃f,Xx.cells.lookup e=Z f/\b.IsCell f (Z I)))
structure aI.Ok(c:aI):Prop where
 mod:Mod c.K c.aJ c.base
 kind:c.env.scope.kind=.function
 glob:c.env.globals=d9
 blt:c.env.builtins=sY
 above:c.fa.heap.objs.size<=c.env.locals
 inj:∀e A f,c.env.cells.lookup e=Z f->c.env.cells.lookup A=Z f->e=A
 has:∀e,(c.env.kindOf e=Z .cell\/c.env.kindOf e=Z .free)->∃f,c.env.cells.lookup e=Z f
 nD:∀e f,c.fn e=aa->c.env.cells.lookup e=Z f->c.fa.heap.objs.size<=f
 hd:c.calm=aa->c.A.handled=V
 frames:c.A.frames=Z c.stack
 sN:c.stack=c.outer\/(c.stack=c.env::c.outer/\c.env.frame=Z c.env.locals)
 wQ:∀d∈c.ex,d≠c.env.locals/\∀e f,c.env.cells.lookup e=Z f->f≠d
 bs:∀d o,c.base.get? d=Z o->c.fa.heap.get? d=Z o/\c.mh d=kk o
 l4:c.base.objs.size<=c.fa.heap.objs.size
 oZ:∀d o,c.base.get? d=Z o->d∉c.ex
 pK:∀d∈c.ex,d∉c.Y
 i5:c.fa.heap.FunFrames c.base c.outer
 nH:∀d∈c.Y,c.mh d=V
structure aG(c:aI)(G:List (aq×a5))(B:List (Option ai))(j:ax)(m:au):Prop where
 ok:c.Ok
 os:m.os=c.fa.os
 bare:l1 m.gens
 base:eS c.Y c.ex c.mh j c.fa.heap m.heap
 loc:∃E,m.heap.Ns c.env.locals E/\∀(h:Nat) (e:aD) (u:ai),c.N[h]?=Z e->B[h]?=Z (Z u)->tH c.env.scope e->∃I,bU u I/\OX c.env m.heap E e I
 cell:∀e f,c.env.cells.lookup e=Z f->∃u,m.heap.IsCell f u
 free:j c.env.locals=V
 iX:∀e f,c.env.cells.lookup e=Z f->j f=V
 pin:∀n∈c.j3++G,m.heap.get? n.1=Z n.2/\j n.1=V/\n.1≠c.env.locals/\n.1∉c.Y/\∀u,n.2.data≠.cell u
 aU:ee c.prog c.w j m.heap
 len:B.length=c.N.length
section
variable{c:aI}{G:List (aq×a5)}{B:List (Option ai)}{j S:ax}{m:au}{ah:aV}
def aI.Ok.Mo(ok:c.Ok){d:aq}{o:a5}(a:c.base.get? d=Z o):d∉c.Y:=λb=>by
 have:=(ok.i5.mem b).1;rw[a]at this;cases this
def aG.bs(z:aG c G B j m):∀d o,c.base.get? d=Z o->m.heap.get? d=Z o/\j d=kk o:=λd o a=>by
 let⟨l,t⟩:=z.ok.bs d o a;cases f:rj o with
 |none=>
  have v:c.mh d=V:=t.trans (by rw[kk,f];rfl);exact⟨z.base.keep d o l v (z.ok.Mo a)<|z.ok.oZ d o a,(z.base.free d o l v<|z.ok.oZ d o a).trans<|v.symm.trans t⟩
 |some x=>
  have C:c.mh d=Z (.tup x):=t.trans (by rw[kk,f];rfl);exact⟨z.base.jc d o x l C<|z.ok.oZ d o a,(z.base.iG d x C).trans<|C.symm.trans t⟩
def aG.gG(z:aG c G B j m):∀d o,c.base.get? d=Z o->m.heap.get? d=Z o:=λd o a=>(z.bs d o a).1
def aG.mod(z:aG c G B j m):Mod c.K c.aJ c.base:=z.ok.mod
def aG.o6(z:aG c G B j m):c.K.In m.heap:=z.ok.mod.ze.keeps z.gG
def aG.lt(z:aG c G B j m):c.env.locals<m.heap.objs.size:=let ⟨_,a,_⟩:=z.loc;a.lt
def aG.cS(z:aG c G B j m):c.fa.heap.objs.size<=m.heap.objs.size:=dg z.ok.above (lA z.lt)
def aG.RB(z:aG c G B j m){g:aq}(b:m.heap.objs.size<=g):g∉c.Y:=λa=>by
 let@⟨_,⟨@o,d,_⟩⟩:=z.ok.i5.mem a;exact absurd (eF (cn d)<|dg z.cS b) (gN _)
def aG.oy(z:aG c G B j m):∀e f,c.env.cells.lookup e=Z f->f≠c.env.locals:=λe f a i=>by
 let⟨u,@o,b,hd⟩:=z.cell e f a;let⟨@E,⟨Yy,P,@X8,d,g,Y⟩,Y⟩:=z.loc;rw[i,d]at b;cases b;rw[g]at hd;cases hd
def aG.i5(z:aG c G B j m):m.heap.FunFrames c.base c.outer:=by
 have all:∀(J:List eQ),(∀d∈ic J,d∈c.Y)->c.fa.heap.FunFrames c.base J->m.heap.FunFrames c.base J:=by
  intro J;induction J with
  |nil=>intro W W;trivial
  |cons Xx p g=>
   intro XO h;let@⟨k,⟨XQ,@o,b,l,n,hd⟩,q⟩:=h;have e:XQ∈c.Y:=XO XQ (by unfold ic;rw[ro,b];exact mP);let⟨@aR,a⟩:=z.base.slot XQ o n (z.ok.nH XQ e) e λi=>z.ok.pK XQ i e;exact⟨k,⟨XQ,_,b,l,a,hd⟩,g (λd f=>XO d (by unfold ic;rw[ro,b];exact kW _ f)) q⟩
 exact all c.outer (λ_ f=>f) z.ok.i5
def aG.stack(z:aG c G B j m):m.heap.FunFrames c.base c.stack:=by
 rcases z.ok.sN with a|⟨a,b⟩
 ·rw[a];exact z.i5
 ·rw[a];let⟨@E,d,Y⟩:=z.loc;refine .cons (by rw[z.ok.kind];decide) b d ?_ z.i5;exact zr (dg z.ok.l4 z.ok.above)
def aG.zD(z:aG c G B j m):∀d∈ic c.stack,d∈c.env.locals::c.Y:=λd b=>by
 rcases z.ok.sN with a|⟨a,e⟩
 ·rw[a]at b;exact kW _ b
 ·rw[a]at b;unfold ic at b;rw[ro,e]at b;exact b
def aG.Ji(z:aG c G B j m):∀d∈ic c.stack,j d=V:=λd b=>by
 rcases b0.mp (z.zD d b) with a|b
 ·rw[a];exact z.free
 ·let@⟨_,⟨@o,e,_⟩⟩:=z.ok.i5.mem b;exact z.base.free d o e (z.ok.nH d b) λi=>z.ok.pK d i b
def aG.step(z:aG c G B j m)(t:∀d∈YS,(d∈c.ex\/c.fa.heap.objs.size<=d)/\d≠c.env.locals/\(∀e f,c.env.cells.lookup e=Z f->f≠d)/\∀n∈c.j3++G,n.1≠d)(keep:∀d o,d≠c.env.locals->d∉c.Y->d∉YS->m.heap.get? d=Z o->j d=V->ah.get? d=Z o)(YM:∀d o,d≠c.env.locals->d∈c.Y->d∉YS->m.heap.get? d=Z o->j d=V->∃aR,ah.get? d=Z {o with slots:=aR})(L:∀d o,d∉YS->m.heap.get? d=Z o->j d=V->S d=V)(R:∀d o,d∉YS->m.heap.get? d=Z o->∃Yy,ah.get? d=Z Yy)(jc:∀d o x,d∉YS->m.heap.get? d=Z o->j d=Z (.tup x)->ah.get? d=Z o)(iG:∀d x,j d=Z (.tup x)->S d=Z (.tup x))(i_:∀d o I,j d=Z (.dw o I)->S d=Z (.dw o I))(kn:∀d XF,j d=Z (.nA XF)->∃T,S d=Z (.nA<|XF++T))(XY:∀E,m.heap.Ns c.env.locals E->ah.Ns c.env.locals E)(aU:ee c.prog c.w S ah)(U:l1 Y0):
  aG c G B S {m with heap:=ah,gens:=Y0,drawn:=YE,toks:=Yc}:=by
 have M:∀d o,c.fa.heap.get? d=Z o->d≠c.env.locals:=λd o a=>c0 (eF (cn a) z.ok.above);have y:∀d o,c.fa.heap.get? d=Z o->d∉c.ex->d∉YS:=λd o a b k=>by
  rcases (t d k).1 with i|i
  ·exact b i
  ·exact absurd (eF (cn a) i) (gN _)
 have N:∀e f,c.env.cells.lookup e=Z f->∀u,m.heap.IsCell f u->ah.IsCell f u:=λe f a u ⟨o,l,hd⟩=>by
  have A:f∉YS:=λi=>(t f i).2.2.1 e f a rfl;by_cases O:f∈c.Y
  ·let⟨@aR,s⟩:=YM f o (z.oy e f a) O A l (z.iX e f a);exact⟨_,s,hd⟩
  ·exact⟨o,keep f o (z.oy e f a) O A l<|z.iX e f a,hd⟩
 refine⟨z.ok,z.os,U,⟨λd o a v k b=>?_,λd o a v k b=>?_,λd o a v b=>?_,λd o x a C b=>jc d o x (y d o a b) (z.base.jc d o x a C b)<|z.base.iG d x C,λd o a b=>?_,λd x a=>iG d x<|z.base.iG d x a,λd o x a=>i_ d o x<|z.base.i_ d o x a,λd XF a=>?_⟩,?_,λe f a=>?_,?_,λe f a=>?_,λn P=>?_,aU,z.len⟩
 ·exact keep d o (M d o a) k (y d o a b) (z.base.keep d o a v k b) (z.base.free d o a v b)
 ·let⟨@aR,g⟩:=z.base.slot d o a v k b;let⟨@al,F⟩:=YM d _ (M d o a) k (y d o a b) g (z.base.free d o a v b);exact⟨al,F⟩
 ·let⟨@Yy,g⟩:=z.base.there d o a b;exact L d Yy (y d o a b) g (z.base.free d o a v b)
 ·let⟨@Yy,g⟩:=z.base.there d o a b;exact R d Yy (y d o a b) g
 ·let⟨@am,g⟩:=z.base.kn d XF a;let⟨@an,F⟩:=kn d _ g;exact⟨am++an,by rw[F,Array.append_assoc]⟩
 ·let⟨@E,ap,as⟩:=z.loc;refine⟨E,XY E ap,λh e u g F a1=>?_⟩;let⟨@I,p,J⟩:=as h e u g F a1;refine⟨I,p,?_⟩;rcases J with J|⟨q,f,a,i⟩
  ·exact .inl J
  ·exact .inr ⟨q,f,a,N e f a _ i⟩
 ·let⟨@u,i⟩:=z.cell e f a;exact⟨u,N e f a u i⟩
 ·let⟨@E,⟨o,W,@W,l,W⟩,W⟩:=z.loc;exact L _ o (λi=>(t _ i).2.1 rfl) l z.free
 ·let⟨u,@o,l,hd⟩:=z.cell e f a;exact L f o (λi=>(t f i).2.2.1 e f a rfl) l (z.iX e f a)
 ·let@⟨a,v,ne,Q,r⟩:=z.pin n P;have A:n.1∉YS:=λi=>(t n.1 i).2.2.2 n P rfl;exact⟨keep n.1 n.2 ne Q A a v,L n.1 n.2 A a v,ne,Q,r⟩
def aG.un(z:aG c G B j m)(I:eS c.Y [] j S m.heap ah)(aU:ee c.prog c.w S ah):aG c G B S {m with heap:=ah,toks:=Yc}:=by
 let⟨@E,⟨o,P,@X8,e,p⟩,W⟩:=id z.loc;let⟨@aR,g⟩:=I.any e z.free ↥0;exact z.step (Y0:=m.gens) (YE:=m.drawn) (YS:=[]) (λ_ i=>nomatch i) (λd o W b W a v=>I.keep d o a v b ↥0) (λd o W b W a v=>I.slot d o a v b ↥0) (λd o W a v=>I.free d o a v ↥0) (λd o W a=>I.there d o a ↥0) (λd o x W a C=>I.jc d o x a C ↥0) I.iG I.i_ I.kn (λn h=>by
  let⟨Yy,k,@l,f,Yr⟩:=h;rw[e]at f;cases f;exact⟨_,k,l,g,Yr⟩) aU z.bare
def aG.call(z:aG c G B j m)(I:eS (ic c.stack) YS j S m.heap ah)(aU:ee c.prog c.w S ah)(q:l1 Y0)(h:∀d∈YS,(d∈c.ex\/c.fa.heap.objs.size<=d)/\d≠c.env.locals/\(∀e f,c.env.cells.lookup e=Z f->f≠d)/\∀n∈c.j3++G,n.1≠d):
  aG c G B S {m with heap:=ah,gens:=Y0,drawn:=YE,toks:=Yc}:=by
 let⟨@E,⟨o,P,@X8,k,p⟩,Y⟩:=id z.loc;let⟨@aR,g⟩:=I.any k z.free λi=>(h _ i).2.1 rfl;exact z.step (YS:=YS) h (λd o g r b a v=>I.keep d o a v (λi=>(b0.mp<|z.zD d i).elim g r) b) (λd o Y Y b a v=>I.any a v b) (λd o b a v=>I.free d o a v b) (λd o b a=>I.there d o a b) (λd o x b a C=>I.jc d o x a C b) I.iG I.i_ I.kn (λy s=>by
  let⟨Yy,t,@u,l,Yr⟩:=s;rw[k]at l;cases l;exact⟨_,t,u,g,Yr⟩) aU q
def aG.turned{aP:aq}(z:aG c G B j m)(q:∀d o,d≠aP->m.heap.get? d=Z o->ah.get? d=Z o)(k:j aP=V)(g:aP≠c.env.locals)(l:aP∈c.ex\/c.fa.heap.objs.size<=aP)(t:∀e f,c.env.cells.lookup e=Z f->f≠aP)(r:∀n∈c.j3++G,n.1≠aP):aG c G B j {m with heap:=ah,toks:=Yc}:=by
 have h:∀d I,j d=Z I->d≠aP:=λd I a i=>by rw[i,k]at a;cases a
 refine z.step (Y0:=m.gens) (YE:=m.drawn) (YS:=[aP]) (λd w=>?_) (λd o Y Y b a Y=>q d o (λi=>b (by simp[i])) a) (λd o Y Y b a Y=>⟨o.slots,q d o (λi=>b (by simp[i])) a⟩) (λ_ Y Y Y v=>v)
  (λd o b a=>⟨o,q d o (λi=>b (by simp[i])) a⟩) (λd o Y b a Y=>q d o (λi=>b (by simp[i])) a) (λ_ Y a=>a) (λ_ Y Y a=>a) (λd XF a=>⟨#[],by rw[a];simp⟩) (λE x=>?_) (λd I a=>?_) z.bare
 ·have a:d=aP:=by simpa using w
  subst a;exact⟨l,g,t,r⟩
 ·let⟨o,P,@X8,y,p⟩:=x;exact⟨o,P,X8,q _ o (dn g) y,p⟩
 ·refine (z.aU d I a).fB (λf u b s=>q f u ?_ s) (λ_ s=>s) λ_ Y s=>s;rcases b with i|i
  ·rw[i];exact h d I a
  ·exact h f _ i
def aG.tok(z:aG c G B j m)(C:Nat):aG c G B j {m with toks:=C}:=z.un (ah:=m.heap) (Yc:=C) eS.refl z.aU
def aG.kept(z:aG c G B j m)(q:∀d I,m.heap.get? d=Z I->ah.get? d=Z I):aG c G B j {m with heap:=ah,toks:=Yc}:=z.un (eS.kept q) (z.aU.kept q)
def aG.laid{o:eY}(z:aG c G B j m)(q:∀d I,m.heap.get? d=Z I->ah.get? d=Z I)(a:m.heap.objs.size<=g)(new:en c.prog c.w (upd j g o) ah g o):
  aG c G B (upd j g o) {m with heap:=ah,toks:=Yc}:=z.un (eS.laid q a<|z.aU.fresh a) (z.aU.laid q a new)
def aG.write{e a:aq}{o:eY}(z:aG c G B j m)(b:sL (j e))(f:a=e\/j a=Z (.own e))(q:∀d I,d≠a->m.heap.get? d=Z I->ah.get? d=Z I)(g:∃I,ah.get? a=Z I)(new:en c.prog c.w (upd j e o) ah e o):aG c G B (upd j e o) {m with heap:=ah,toks:=Yc}:=z.un (eS.write b f q g) (z.aU.write b f q g new)
def aG.weak{a:List (Option ai)}(z:aG c G B j m)(b:a.length=B.length)(H:∀(h:Nat) u,a[h]?=Z (Z u)->B[h]?=Z (Z u)):aG c G a j m:=
 ⟨z.ok,z.os,z.bare,z.base,let ⟨E,d,f⟩:=z.loc;⟨E,d,λh e u g i k=>f h e u g (H h u i) k⟩,z.cell,z.free,z.iX,z.pin,z.aU,b.trans z.len⟩
def aG.p8{a:List (aq×a5)}(z:aG c G B j m)(b:∀n∈a,m.heap.get? n.1=Z n.2/\j n.1=V/\n.1≠c.env.locals/\n.1∉c.Y/\∀u,n.2.data≠.cell u):aG c a B j m:=
 ⟨z.ok,z.os,z.bare,z.base,z.loc,z.cell,z.free,z.iX,λn d=>(dM.mp d).elim (λi=>z.pin n<|d6 _ i)<|b n,z.aU,z.len⟩
def Fv(a:Yg.Nodup){h k:Nat}{e:aD}(g:Yg[h]?=Z e)(d:Yg[k]?=Z e):h=k:=by
 let⟨@l,b⟩:=e7.mp g;let⟨@t,c⟩:=e7.mp d;exact (y9 a).mp (b.trans c.symm)
variable{y:Unit->au->Prop}
def M1{aC:jh}(z:aG c G B j m)(a1:c.N.Nodup)(XG:c.N[h]?=Z e)(l:iO c.env.scope e)(p:bU u I)(b:∀XM,aG c G (B.set h<|Z u) j XM->(∃g,aV.SameBut g m.heap XM.heap/\(g=c.env.locals\/c.env.cells.lookup e=Z g))->y () XM)(bv:c.fn e=aa\/c.env.scope.names.lookup e=Z .local:=by first|exact .inl rfl|exact .inr rfl|assumption):wpAny aC L (storeName c.env e I) y XA m:=by
 let⟨@E,U,a2⟩:=id z.loc;have ca:(c.env.scope.kind==.class || (c.env.scope.kind==.module&&c.env.locals != c.env.globals))=aA:=by rw[z.ok.kind];rfl
 have bd:h<B.length:=by rw[z.len];exact (e7.mp XG).1
 have oy:=z.oy;have be:∀{g:aq}{ah:aV},(∃o,m.heap.get? g=Z o/\j g=V)->aV.SameBut g m.heap ah->ee c.prog c.w j ah:=λ{g ah} cd XO d Yo a=>by
  let⟨@Y,Y,bi⟩:=cd;refine (z.aU d Yo a).fB (λf R J s=>(XO.2 f ?_).trans s) (λ_ s=>s) λ_ Y s=>s;rintro rfl;rcases J with rfl|J
  ·rw[bi]at a;cases a
  ·rw[bi]at J;cases J
 rcases l with O|O
 ·refine wpAny_storeName_local O U (λah ce XO=>?_) ca;let⟨ch,Y,@Y,ci,Y⟩:=id U;refine b _ ⟨z.ok,z.os,z.bare,⟨λd o a v P l=>?_,λd o a v P l=>?_,z.base.free,λd o x a C l=>(XO.2 d<|c0<|eF (cn a) z.ok.above).trans<|z.base.jc d o x a C l,λd o a l=>?_,z.base.iG,z.base.i_,z.base.kn⟩,⟨_,ce,λk A al F M am=>?_⟩,λA f a=>?_,z.free,z.iX,λn an=>?_,be ⟨ch,ci,z.free⟩ XO,by simpa using z.len⟩ ⟨_,XO,.inl rfl⟩
  ·exact (XO.2 d<|c0<|eF (cn a) z.ok.above).trans (z.base.keep d o a v P l)
  ·let⟨@aR,F⟩:=z.base.slot d o a v P l;exact⟨aR,(XO.2 d<|c0<|eF (cn a) z.ok.above).trans F⟩
  ·let⟨@Yy,F⟩:=z.base.there d o a l;exact⟨Yy,(XO.2 d<|c0<|eF (cn a) z.ok.above).trans F⟩
  ·by_cases Q:k=h
   ·subst Q;rw[XG]at F;cases F;rw[uj bd]at M;cases M;exact⟨I,p,.inl ⟨O,by simp⟩⟩
   ·rw[nt (dn Q)]at M;let⟨@ap,Yr,s⟩:=a2 k A al F M am;refine⟨ap,Yr,?_⟩;rcases s with ⟨q,a⟩|⟨q,f,a,i⟩
    ·refine .inl ⟨q,?_⟩;have:A≠e:=λa=>Q (Fv a1 F<|a ▸ XG);simp[this,a]
    ·exact .inr ⟨q,f,a,i.sameBut XO<|oy A f a⟩
  ·let⟨@R,i⟩:=z.cell A f a;exact⟨R,i.sameBut XO<|oy A f a⟩
  ·let@⟨a,v,ne,as,r⟩:=z.pin n an;exact⟨(XO.2 n.1 ne).trans a,v,ne,as,r⟩
 ·have S:c.fn e=aa:=by
   rcases bv with i|i
   ·exact i
   ·rw[i]at O;cases O
  let⟨@f,J⟩:=z.ok.has e (.inl O);let⟨@R,i⟩:=z.cell e f J;refine wpAny_storeName_cell z.ok.kind O J i (λah bm XO=>?_);let⟨@t,bn,cl⟩:=id i;refine b {m with heap:=ah} ⟨z.ok,z.os,z.bare,⟨λd o a v P l=>?_,λd o a v P l=>?_,z.base.free,λd o x a C l=>(XO.2 d<|c0<|eF (cn a)<|z.ok.nD e f S J).trans<|z.base.jc d o x a C l,λd o a l=>?_,z.base.iG,z.base.i_,z.base.kn⟩,⟨E,U.sameBut XO<|dn<|oy e f J,λk A al F M am=>?_⟩,λA T a=>?_,z.free,z.iX,λn an=>?_,be ⟨t,bn,z.iX e f J⟩ XO,by simpa using z.len⟩ ⟨f,XO,.inr J⟩
  ·exact (XO.2 d<|c0<|eF (cn a)<|z.ok.nD e f S J).trans (z.base.keep d o a v P l)
  ·let⟨@aR,F⟩:=z.base.slot d o a v P l;exact⟨aR,(XO.2 d<|c0<|eF (cn a)<|z.ok.nD e f S J).trans F⟩
  ·let⟨@Yy,F⟩:=z.base.there d o a l;exact⟨Yy,(XO.2 d<|c0<|eF (cn a)<|z.ok.nD e f S J).trans F⟩
  ·by_cases Q:k=h
   ·subst Q;rw[XG]at F;cases F;rw[uj bd]at M;cases M;exact⟨I,p,.inr ⟨.inl O,f,J,bm⟩⟩
   ·rw[nt (dn Q)]at M;let⟨@ap,Yr,s⟩:=a2 k A al F M am;refine⟨ap,Yr,?_⟩;rcases s with s|⟨q,T,a,co⟩
    ·exact .inl s
    ·refine .inr ⟨q,T,a,co.sameBut XO ?_⟩;rintro rfl;exact Q (Fv a1 F<|z.ok.inj _ _ _ a J ▸ XG)
  ·by_cases bs:T=f
   ·subst bs;exact⟨_,bm⟩
   ·let⟨@cr,cs⟩:=z.cell A T a;exact⟨cr,cs.sameBut XO bs⟩
  ·let@⟨a,v,ne,as,r⟩:=z.pin n an;refine⟨(XO.2 n.1 ?_).trans a,v,ne,as,r⟩;intro s;rw[s,bn]at a;have cU:t=n.2:=Option.some.inj a;exact r R (by rw[<-cU];exact cl)
def uN{aC:jh}(z:aG c G B j m)(a:c.N.Nodup)(XG:c.N[h]?=Z e)(d:iO c.env.scope e)(p:bU u I)(b:∀XM,aG c G (B.set h<|Z u) j XM->y () XM)(f:c.fn e=aa\/c.env.scope.names.lookup e=Z .local:=by first|exact .inl rfl|exact .inr rfl|assumption):wpAny aC L (storeName c.env e I) y XA m:=
 M1 z a XG d p (λXM g Y=>b XM g) f
def aG.OT(z:aG c G B j m)(b:XM.os=m.os)(I:eS (ic c.stack) YS j S m.heap XM.heap)(aU:ee c.prog c.w S XM.heap)(g:l1 XM.gens)(h:∀d∈YS,(d∈c.ex\/c.fa.heap.objs.size<=d)/\d≠c.env.locals/\(∀e f,c.env.cells.lookup e=Z f->f≠d)/\∀n∈c.j3++G,n.1≠d):aG c G B S XM:=by
 let⟨ah,Y0,YE,Yc,Yy⟩:=XM;have a:Yy=m.os:=b;subst a;exact z.call (Y0:=Y0) (Yc:=Yc) (YE:=YE) I aU g h
end
abbrev gT:=ag->Option aq->ax->Prop
abbrev aZ:=List (Option ai)
variable{B:aZ}
abbrev cI:=ai->ax->Prop
abbrev bL:=aZ->ax->cI->Prop
variable{YQ:bL}
abbrev eG:=aZ->ax->(Bool->ax->Prop)->Prop
variable{Y_:eG}
abbrev fk:=aZ->ax->(List ai->ax->Prop)->Prop
variable{Yx:fk}
structure nu where
 bA:aZ->ax->Prop
 eO:cI
 gG:aZ->ax->Prop:=λ_ _=>False
 cv:aZ->ax->Prop:=λ_ _=>False
abbrev fe:=nu->aZ->ax->Prop
variable{Yd:fe}
def eA(c:aI)(G:List (aq×a5))(B:aZ)(y:cI)(I:ag)(XM:au):Prop:=(∃u S,aG c G B S XM/\bU u I/\y u S)
def vT(c:aI)(G:List (aq×a5))(B:aZ)(y:Bool->ax->Prop)(d:Bool)(XM:au):Prop:=(∃S,aG c G B S XM/\y d S)
def Pt(c:aI)(G:List (aq×a5))(B:aZ)(y:List ai->ax->Prop)(XZ:List ag)(XM:au):Prop:=(∃Q S,aG c G B S XM/\bN Q XZ/\y Q S)
def sH(c:aI)(G:List (aq×a5))(w:nu)(F:Flow)(XM:au):Prop:=(
 match F with
 |.next=>∃a S,aG c G a S XM/\w.bA a S
 |.brk=>∃a S,aG c G a S XM/\w.gG a S
 |.cont=>∃a S,aG c G a S XM/\w.cv a S
 |.ret I=>∃u a S,aG c G a S XM/\bU u I/\w.eO u S)
def zB(c:aI)(a:aY)(C:bL)(G:List (aq×a5)):Prop:=(
 ∀(m:au) (B:aZ) (j:ax) (y:cI),aG c G B j m->C B j y->wpAny (aN c.prog c.w) c.A (bP a c.env) (eA c G B y) c.cP m)
def bu(c:aI)(a:aY)(C:bL):Prop:=(∀G,zB c a C G)
def JH(c:aI)(a:aY)(C:eG)(G:List (aq×a5)):Prop:=(
 ∀(m:au) (B:aZ) (j:ax) (y:Bool->ax->Prop),aG c G B j m->C B j y->wpAny (aN c.prog c.w) c.A (qe a c.env<|bP a c.env) (vT c G B y) c.cP m)
def hS(c:aI)(a:aY)(C:eG):Prop:=(∀G,JH c a C G)
def Jo(c:aI)(a:aY)(C:eG)(b:eP ag):Prop:=(
 ∀(G:List (aq×a5)) (m:au) (B:aZ) (j:ax) (y:Bool->ax->Prop),aG c G B j m->C B j y->wpAny (aN c.prog c.w) c.A (qe a c.env b) (vT c G B y) c.cP m)
def jC(c:aI)(a:aY)(C:eG):Prop:=(∀b,Jo c a C b)
def jC.pt{C:eG}(b:jC c a C):hS c a C:=b _
def Ip(c:aI)(P:List aY)(C:fk)(XP:b9):Prop:=(
 ∀(G:List (aq×a5)) (m:au) (B:aZ) (j:ax) (y:List ai->ax->Prop),aG c G B j m->C B j y->wpAny (aN c.prog c.w) c.A (spliced<|ep XP<|bD P c.env) (Pt c G B y) c.cP m)
def hp(c:aI)(P:List aY)(C:fk):Prop:=(∀XP,Ip c P C XP)
def B5(c:aI)(R:cE)(C:fe)(G:List (aq×a5)):Prop:=(
 ∀(m:au) (B:aZ) (j:ax) (w:nu),aG c G B j m->C w B j->wpAny (aN c.prog c.w) c.A (exec R c.env) (sH c G w) c.cP m)
def hy(c:aI)(R:cE)(C:fe):Prop:=(∀G,B5 c R C G)
def KA(c:aI)(R:List cE)(C:fe)(G:List (aq×a5)):Prop:=(
 ∀(m:au) (B:aZ) (j:ax) (w:nu),aG c G B j m->C w B j->wpAny (aN c.prog c.w) c.A (execs R c.env) (sH c G w) c.cP m)
def hU(c:aI)(R:List cE)(C:fe):Prop:=(∀G,KA c R C G)
def bK{C:eP XR}{y a:XR->au->Prop}{aC:jh}(b:wpAny aC L C y XA m)(c:∀g m,y g m->a g m):wpAny aC L C a XA m:=gz b c λ_ Y e=>e
section
variable{c:aI}
def hZ(h:Nat):bL:=(λB j y=>∃u,B[h]?=Z (Z u)/\y u j)
def lT(u:ai):bL:=(λ_ j y=>y u j)
variable{XP:b9}
def BJ(l:c.N[h]?=Z e)(n:tH c.env.scope e)(hd:(e==("__debug__" : aD))=aA:=by decide)(o:(e==("__classdict__" : aD))=aA:=by decide):bu c (.Name e XP) (hZ h):=by
 intro G m B j y z b;let⟨@u,a,b⟩:=b;let⟨@E,q,r⟩:=z.loc;let⟨@I,p,J⟩:=r h e u l a n;have g:eA c G B y I m:=⟨u,j,z,p,b⟩;rcases J with ⟨d,s⟩|⟨d,f,i,k⟩
 ·exact xf (wpAny_loadName_local z.ok.kind d q s g) hd
 ·rcases d with d|d
  ·exact xf (wpAny_loadName_cell z.ok.kind d i k g) hd
  ·exact xf (wpAny_loadName_free z.ok.kind d i k g o) hd
def pn{h k XP}:bu c (.Constant (.int h) k XP) (lT<|.int h):=λ_ Y Y j Y z b=>wpAny_Constant_int ⟨.int h,j,z.tok _,⟨_,rfl⟩,b⟩
def Pa{d k XP}:bu c (.Constant (.bool d) k XP) (lT<|.aH d):=λ_ Y Y j Y z b=>Constant_bool ⟨.aH d,j,z,rfl,b⟩
def ou{e k XP}:bu c (.Constant (.str e) k XP) (lT<|.str e):=λ_ Y Y j Y z b=>Calls.Constant_str ⟨.str e,j,z.tok _,⟨_,rfl⟩,b⟩
def fc(c:aI)(e:aD):Prop:=(c.env.kindOf e=Z .globalImplicit)
def CV(z:aG c G B j m)(a:fc c e)(d:c.aJ e=Z I)(b:y I m)(hd:(e==("__debug__" : aD))=aA:=by decide):wpAny (aN c.prog c.w) c.A (bP (.Name e XP) c.env) y XA m:=
 D_ z.ok.kind a (Calls.loadGlobal_global (by rw[z.ok.glob];exact z.mod.glob.keeps z.gG) d b) hd
def nX(z:aG c G B j m)(a:fc c e)(d:c.aJ e=V)(f:fb e=Z I)(b:y I m)(g:e ≠ "__name__" := by decide)(hd:(e==("__debug__" : aD))=aA:=by decide):wpAny (aN c.prog c.w) c.A (bP (.Name e XP) c.env) y XA m:=by
 let⟨@h,l,t⟩:=z.mod.blt;exact D_ z.ok.kind a (Calls.loadGlobal_builtin (by rw[z.ok.glob];exact z.mod.glob.keeps z.gG) d (by rw[z.ok.blt];exact l.keeps z.gG) ((t e g).trans f) b) hd
def Uw(a:fc c e)(d:c.aJ e=Z I)(p:bU u I)(hd:(e==("__debug__" : aD))=aA:=by decide):bu c (.Name e XP) (lT u):=
 λ_ Y Y j Y z b=>CV z a d ⟨u,j,z,p,b⟩ hd
def Vw(a:fc c e)(d:c.aJ e=V)(f:fb e=Z I)(p:bU u I)(g:e ≠ "__name__" := by decide)(hd:(e==("__debug__" : aD))=aA:=by decide):bu c (.Name e XP) (lT u):=
 λ_ Y Y j Y z b=>nX z a d f ⟨u,j,z,p,b⟩ g hd
variable{g d:aY}{Yx Yd:bL}{XP:b9}
variable{hs i:eG}{cR:List aY}
def KO(C I:eG):eG:=(λB j y=>C B j λf XE=>if f=aa then I B XE y else y aA XE)
def HB(C I:eG):eG:=(λB j y=>C B j λf XE=>if f=aa then y aa XE else I B XE y)
def SY(C:eG):eG:=(λB j y=>C B j λf XE=>y (!f) XE)
def Nb(d:hS c g hs):jC c (.BoolOp .And [g] XP) hs:=by
 intro e G m B j y z b;refine isTrue_and (bK (d G m B j y z b) λf h a=>?_);cases f with
 |true=>exact isTrue_and_nil a
 |false=>exact a
def UO(d:hS c g hs):jC c (.BoolOp .Or [g] XP) hs:=by
 intro e G m B j y z b;refine isTrue_or (bK (d G m B j y z b) λf h a=>?_);cases f with
 |false=>exact isTrue_or_nil a
 |true=>exact a
def Uo(h:hS c g hs)(k:jC c (.BoolOp .And (d::cR) XP) i):jC c (.BoolOp .And (g::d::cR) XP) (KO hs i):=by
 intro l G m B j y z b;refine isTrue_and (bK (h G m B j _ z b) λf n o=>?_);let⟨@XE,a,e⟩:=o;cases f with
 |true=>exact k l G n B XE y a e
 |false=>exact⟨XE,a,e⟩
def Sr(h:hS c g hs)(k:jC c (.BoolOp .Or (d::cR) XP) i):jC c (.BoolOp .Or (g::d::cR) XP) (HB hs i):=by
 intro l G m B j y z b;refine isTrue_or (bK (h G m B j _ z b) λf n o=>?_);let⟨@XE,a,e⟩:=o;cases f with
 |true=>exact⟨XE,a,e⟩
 |false=>exact k l G n B XE y a e
def LA(a:hS c g hs):hS c (.UnaryOp .Not g XP) (SY hs):=by
 intro G m B j y z b;exact isTrue_not (a G m B j (λf XE=>y (!f) XE) z b)
def MM(Yx Yd:bL):bL:=(λB j y=>Yx B j λe XE=>∃f,e=.aH f/\if f=aa then y (.aH aa) XE else Yd B XE y)
def PV{Yn}{C:bL}(b:bu c g C):bu c (.BoolOp Yn [g] XP) C:=λG m B j y z a=>BoolOp_one (b G m B j y z a)
def Rz(i:bu c g Yx)(k:bu c (.BoolOp .Or (d::cR) XP) Yd):bu c (.BoolOp .Or (g::d::cR) XP) (MM Yx Yd):=by
 intro G m B j y z b;refine BoolOp_or (bK (i G m B j _ z b) λu l n=>?_);let⟨e,@XE,h,o,a⟩:=n;let⟨@f,rfl,a⟩:=a;cases o;refine oC ?_;cases f with
 |false=>exact k G l B XE y h a
 |true=>exact⟨.aH aa,XE,h,rfl,a⟩
end
def dm(U:Φ)(j:ax)(g:aq)(x:List ai):Prop:=(
 g9 j g (.lst x)\/
  ∃(o:a5) (XN:Array ag) (v:Nat),U.lookup g=Z o/\o.cls=.type "list" /\ o.dict=V/\o.data=.seq XN v/\XN.size<=sizeLine/\bN x XN.toList)
def da(U:Φ)(j:ax)(g:aq)(x:List ai):Prop:=(
 g9 j g (.tup x)\/
  ∃(o:a5) (XN:Array ag) (v:Nat),U.lookup g=Z o/\o.cls=.type "tuple" /\ o.data=.seq XN v/\XN.size<=sizeLine/\bN x XN.toList)
def PE:ag->Option ai
 |.none=>Z .aK
 |.bool d=>Z (.aH d)
 |.int h _=>Z (.int h)
 |.str e _=>Z (.str e)
 |.bytes d _=>Z (.rz d)
 |.float d _=>Z (.z4 d)
 |.ref g=>Z (.ref g)
 |.type v=>Z (.ty v)
 |_=>V
def bU.abs{e:ai}(p:bU e I):PE I=Z e:=by
 cases e with
 |aK=>cases p;rfl
 |aH _=>cases p;rfl
 |int _=>let⟨@C,rfl⟩:=p;rfl
 |str _=>let⟨@C,rfl⟩:=p;rfl
 |rz _=>let⟨@C,rfl⟩:=p;rfl
 |z4 _=>let⟨@C,rfl⟩:=p;rfl
 |ref _=>cases p;rfl
 |ty _=>cases p;rfl
def bU.inj{e:ai}(p:bU e I)(s:bU A I):e=A:=Option.some.inj (p.abs.symm.trans s.abs)
theorem bN.inj:∀{x XW:List ai}{XZ:List ag},bN x XZ->bN XW XZ->x=XW
 |_,_,_,.nil,.nil=>rfl
 |_,_,_,.cons p C,.cons Yr Yc=>by rw[p.inj Yr,bN.inj C Yc]
section
variable{c:aI}{G:List (aq×a5)}{B:aZ}{j:ax}{m:au}{g:aq}{x XW:List ai}
def dm.of(b:j g=Z (.lst x)):dm U j g x:=.inl (.inl b)
def da.of(b:j g=Z (.tup x)):da U j g x:=.inl (.inl b)
def aG.list(z:aG c G B j m)(b:dm c.K j g x):∃XN:List ag,bN x XN/\PlainL m.heap g XN.toArray/\x.length<=sizeLine:=by
 rcases b with b|⟨o,XN,v,d,e,hd,XO,f,p⟩
 ·let@⟨i,⟨XN,@v,p,a⟩⟩:=b.ok z.aU;exact⟨XN,p,⟨_,v,a,rfl,rfl,rfl⟩,i⟩
 ·refine⟨XN.toList,p,⟨o,v,z.o6 g o d,e,hd,by simpa using XO⟩,?_⟩;have a:=p.length;simp only[dA]at a;lia
def aG.tuple(z:aG c G B j m)(b:da c.K j g x):∃XN:List ag,bN x XN/\nh m.heap g XN.toArray/\x.length<=sizeLine:=by
 rcases b with b|⟨o,XN,v,d,e,XO,f,p⟩
 ·let@⟨i,⟨@XN,p,n⟩⟩:=b.ok z.aU;exact⟨XN,p,n.tup,i⟩
 ·refine⟨XN.toList,p,⟨o,z.o6 g o d,e,v,by simpa using XO⟩,?_⟩;have a:=p.length;simp only[dA]at a;lia
def aG.WA(z:aG c G B j m)(b:dm c.K j g x)(ah:dm c.K j g XW):x=XW:=by
 let⟨@XN,p,⟨o,@v,a,Y,Y,r⟩,Y⟩:=z.list b;let⟨@w,Yr,⟨Yy,@e,d,Y,Y,YE⟩,Y⟩:=z.list ah;rw[a]at d;cases d;rw[r]at YE;injection YE with Ym _;have:XN=w:=by simpa using congrArg Array.toList Ym
 subst this;exact p.inj Yr
def aG.Og(z:aG c G B j m)(b:da c.K j g x)(ah:da c.K j g XW):x=XW:=by
 let⟨@XN,p,⟨@o,a,Y,⟨@v,r⟩⟩,Y⟩:=z.tuple b;let⟨@w,Yr,⟨@Yy,d,Y,⟨@e,YE⟩⟩,Y⟩:=z.tuple ah;rw[a]at d;cases d;rw[r]at YE;injection YE with Ym _;have:XN=w:=by simpa using congrArg Array.toList Ym
 subst this;exact p.inj Yr
end
abbrev aI.kj(c:aI)(XA:ag->au->Prop):aI:={c with cP:=XA}
abbrev aI.oq(c:aI):aI:=c.kj λ_ _=>False
def aI.Ok.kj(ok:c.Ok)(XA:ag->au->Prop):(c.kj XA).Ok:=
 ⟨ok.mod,ok.kind,ok.glob,ok.blt,ok.above,ok.inj,ok.has,ok.nD,ok.hd,ok.frames,ok.sN,ok.wQ,ok.bs,ok.l4,ok.oZ,ok.pK,ok.i5,ok.nH⟩
def aI.Ok.mm(ok:(c.kj XA).Ok):c.Ok:=
 ⟨ok.mod,ok.kind,ok.glob,ok.blt,ok.above,ok.inj,ok.has,ok.nD,ok.hd,ok.frames,ok.sN,ok.wQ,ok.bs,ok.l4,ok.oZ,ok.pK,ok.i5,ok.nH⟩
section
variable{c:aI}{G:List (aq×a5)}{B:aZ}{j:ax}{m:au}{XA:ag->au->Prop}
def aG.kj(z:aG c G B j m)(XA:ag->au->Prop):aG (c.kj XA) G B j m:=⟨z.ok.kj XA,z.os,z.bare,z.base,z.loc,z.cell,z.free,z.iX,z.pin,z.aU,z.len⟩
def aG.mm(z:aG (c.kj XA) G B j m):aG c G B j m:=⟨z.ok.mm,z.os,z.bare,z.base,z.loc,z.cell,z.free,z.iX,z.pin,z.aU,z.len⟩
def sH.mm{w:nu}{F:Flow}(b:sH (c.kj XA) G w F XM):sH c G w F XM:=by
 cases F with
 |next=>let⟨a,@S,z,s⟩:=b;exact⟨a,S,z.mm,s⟩
 |brk=>let⟨a,@S,z,s⟩:=b;exact⟨a,S,z.mm,s⟩
 |cont=>let⟨a,@S,z,s⟩:=b;exact⟨a,S,z.mm,s⟩
 |ret I=>let⟨u,a,@S,z,p,s⟩:=b;exact⟨u,a,S,z.mm,p,s⟩
def hU.oq{R:List cE}{C:fe}(b:hU c.oq R C):hU c R C:=λG m B j w z a=>
 gz (b G m B j w (z.kj _) a) (λ_ Y s=>s.mm) λ_ Y i=>False.elim i
end
section
variable{c:aI}{R:cE}{cR:List cE}{C I:fe}{a:aY}{YQ:bL}{XP:b9}
def U8:fe:=(λw B j=>w.bA B j)
def EG(C I:fe):fe:=(λw B j=>C {w with bA:=I w} B j)
def TU:hU c [] U8:=λ_ Y B j Y z b=>tF ⟨B,j,z,b⟩
def Uz(l:hy c R C)(t:hU c cR I):hU c (R::cR) (EG C I):=by
 intro G m B j w z b;refine Dm (bK (l G m B j {w with bA:=I w} z b) λF a s=>?_);cases F with
 |next=>
  let⟨d,@S,e,s⟩:=s;exact t G a d S w e s
 |ret u=>exact s
 |brk=>exact s
 |cont=>exact s
def Rn(l:hy c R C):hU c [R] C:=by
 intro G m B j w z b;refine Dm (bK (l G m B j w z b) λF a s=>?_);cases F with
 |next=>exact tF s
 |ret u=>exact s
 |brk=>exact s
 |cont=>exact s
def aG.quiet(z:aG c G B j m):interactive c.env=aA:=by simp[interactive,z.ok.kind]
def Oi(YQ:bL):fe:=(λw B j=>YQ B j λ_ XE=>w.bA B XE)
def Qs(d:bu c a YQ)(XO:rE a V XP.line c.env=pure aA:=by rfl):hy c (.Expr a XP) (Oi YQ):=by
 intro G m B j w z b;exact wpAny_Expr_any (bK (d G m B j _ z b) λu h ⟨e,XE,f,i,g⟩=>⟨B,XE,f,g⟩) z.quiet XO
def QK(YQ:bL):fe:=(λw B j=>YQ B j w.eO)
def R1(d:bu c a YQ):hy c (.Return (Z a) XP) (QK YQ):=by
 intro G m B j w z b;exact wpAny_Return_some (bK (d G m B j _ z b) λu i ⟨e,XE,f,g,h⟩=>⟨e,B,XE,f,g,h⟩)
def Tn(f:eG)(C I:fe):fe:=(λw B j=>f B j λd XE=>if d=aa then C w B XE else I w B XE)
def PU{g d:List cE}(i:hS c f Y_)(k:hU c g C)(l:hU c d I):hy c (.If f g d XP) (Tn Y_ C I):=by
 intro G m B j w z b;refine wpAny_If (bK (i G m B j _ z b) λr a n=>?_);let⟨@XE,e,h⟩:=n;cases r with
 |true=>exact k G a B XE w e h
 |false=>exact l G a B XE w e h
def QP:fe:=(λ_ Y Y=>False)
def Q_:hy c R QP:=λ_ Y Y Y Y Y b=>b.elim
end
abbrev g7:=ai->aZ->ax->(aZ->ax->Prop)->Prop
abbrev k0:=List ai->aZ->ax->(aZ->ax->Prop)->Prop
def Ka(c:aI)(b:aY)(C:g7)(G:List (aq×a5)):Prop:=(
 ∀(m:au) (B:aZ) (j:ax) (u:ai) (I:ag) (y:aZ->ax->Prop),aG c G B j m->bU u I->C u B j y->
  wpAny (aN c.prog c.w) c.A (hY b c.env I) (λ_ XM=>∃a S,aG c G a S XM/\y a S) c.cP m)
def kh(c:aI)(a:aY)(C:g7):Prop:=(∀G,Ka c a C G)
def Dj(c:aI)(b:List aY)(C:k0)(G:List (aq×a5)):Prop:=(
 ∀(m:au) (B:aZ) (j:ax) (Q:List ai) (XZ:List ag) (y:aZ->ax->Prop),aG c G B j m->bN Q XZ->C Q B j y->
  wpAny (aN c.prog c.w) c.A (w8 ((fJ b c.env).map (·.2)) XZ) (λ_ XM=>∃a S,aG c G a S XM/\y a S) c.cP m)
def oo(c:aI)(a:List aY)(C:k0):Prop:=(∀G,Dj c a C G)
abbrev AF:=ai->ai->ai->ax->(ax->Prop)->Prop
def AE(c:aI)(C:AF):Prop:=(
 ∀(G:List (aq×a5)) (m:au) (B:aZ) (j:ax) (o h u:ai) (a b I:ag) (y:ax->Prop),aG c G B j m->bU o a->bU h b->bU u I->C o h u j y->
  wpAny (aN c.prog c.w) c.A (sF a b I) (λ_ XM=>∃S,aG c G B S XM/\y S) c.cP m)
section
variable{c:aI}{XP:b9}
def Fl(h:Nat):g7:=(λu B j y=>y (B.set h<|Z u) j)
def z0(a:c.N.Nodup)(XG:c.N[h]?=Z e)(d:iO c.env.scope e)(f:c.fn e=aa\/c.env.scope.names.lookup e=Z .local:=by first|exact .inl rfl|exact .inr rfl|assumption):kh c (.Name e XP) (Fl h):=by
 intro G m B j u I y z p b;exact wpAny_assign_Name (uN z a XG d p (λXM g=>⟨_,j,g,b⟩) f)
def N2:k0:=(λQ B j y=>Q=[]/\y B j)
def MK(C:g7)(I:k0):k0:=(λQ B j y=>∃u p,Q=u::p/\C u B j λa S=>I p a S y)
def EF:oo c [] N2:=by
 intro G m B j Q XZ y z p b;let@⟨a,b⟩:=b;subst a;cases p;exact EM ⟨B,j,z,b⟩
variable{P:List aY}
def zV{C:g7}{I:k0}(l:kh c a C)(t:oo c P I)(XO:(fJ (a::P) c.env).map (·.2)=hY a c.env::(fJ P c.env).map (·.2):=by rfl):oo c (a::P) (MK C I):=by
 intro G m B j Q XZ y z p b;let⟨u,@k,d,b⟩:=b;subst d;cases p with
 |cons p e=>
  rw[XO];refine Aa (bK (l G m B j _ _ _ z p b) λ_ f g=>?_);let⟨Y3,@XE,h,i⟩:=g;exact t G f Y3 XE _ _ y h e i
def PL(U:Φ)(v:Nat)(C:k0):g7:=(λu B j y=>∃g x,u=.ref g/\da U j g x/\x.length=v/\C x B j y)
def ON{C:k0}(h:c.calm=aa)(b:oo c P C)(i:(fJ P c.env).length=v:=by rfl)(k:(fJ P c.env).findIdx? (·.1)=V:=by rfl):kh c (.Tuple P q XP) (PL c.K v C):=by
 intro G m B j u I y z p e;let⟨g,@x,l,n,r,e⟩:=e;subst l;cases p;let⟨@XN,f,bV,w⟩:=z.tuple n;refine FI (z.ok.hd h) bV (by simp[i,<-r,f.length]) k λah s=>?_;have t:aG c G B j {m with heap:=ah}:=z.kept (Yc:=m.toks) λd o a=>s d o (c0<|cn a) a;exact b G _ B j x _ y t ⇑f e
def K7(D a:bL)(C:AF):g7:=(λu B j y=>D B j λo XE=>a B XE λh XS=>C o h u XS λb=>y B b)
def I3{o h:aY}{D g:bL}{C:AF}(i:bu c o D)(XG:bu c h g)(XO:AE c C)(k:∀u,hY (.Subscript o h XP) c.env u=(do
   let a <-holding [u] (bP o c.env)
   let d <-holding [u,a] (bP h c.env)
   standAt XP
   holding [u,a,d] (sF a d u)
   release [u,a,d] []):=by intro Y;rfl):kh c (.Subscript o h XP) (K7 D g C):=by
 intro G m B j u I y z p b;rw[k];refine aw (fS<|bK (i G m B j _ z b) λa l f=>?_);let⟨e,@XE,n,q,r⟩:=f;refine aw (fS<|bK (XG G l B XE _ n r) λd s f=>?_);let⟨A,@XS,t,v,w⟩:=f;refine aw (zd<|aw<|fS<|bK (XO G s B XS e A u a d I _ t q v p w) λ_ H f=>?_);let⟨@x,E,F⟩:=f;exact wpAny_release ⟨B,x,E,F⟩
def Kz(YQ:bL)(O:g7):fe:=(λw B j=>YQ B j λe XE=>O e B XE w.bA)
def Te{O:g7}(d:bu c a YQ)(f:kh c Yi O)(XO:pf [Yi] a XP.line c.env=pure aA:=by rfl)(g:pB [Yi] a c.env=pure V:=by rfl)(l:(fJ [Yi] c.env).map (·.2)=[hY Yi c.env]:=by rfl):hy c (.Assign [Yi] a XP) (Kz YQ O):=by
 intro G m B j w z b;refine I1 (bK (d G m B j _ z b) λu h ⟨e,XE,i,k,n⟩=>?_) XO g;rw[l];exact bK (f G h B XE e u _ i k n) λ_ o s=>s
def Q1{i:b9}(d:c.N.Nodup)(XG:c.N[h]?=Z e)(f:iO c.env.scope e)(g:bu c a YQ)(XO:rE a (Z<|.Name e i) XP.line c.env=pure aA:=by rfl)(k:c.fn e=aa\/c.env.scope.names.lookup e=Z .local:=by first|exact .inl rfl|exact .inr rfl|assumption):
  hy c (.Assign [.Name e i] a XP) (Kz YQ<|Fl h):=by
 intro G m B j w z b;refine wpAny_Assign_Name (bK (g G m B j _ z b) λu q ⟨A,XE,l,n,o⟩=>?_) XO;exact uN l d XG f n (λr p=>⟨_,XE,p,o⟩) k
def BE(h k:Nat)(Yx:fk):fe:=(λw B j=>Yx B j λQ XE=>∃u H,Q=[u,H]/\w.bA ((B.set h<|Z u).set k<|Z H) XE)
def Nt{A:aD}{g d:aY}{YU i J:b9}{YP q r}(D:c.calm=aa)(v:c.N.Nodup)(XG:c.N[h]?=Z e)(E:c.N[k]?=Z A)(F:h≠k)(x:c.env.scope.names.lookup e=Z .local)(y:c.env.scope.names.lookup A=Z .local)(I:hp c [g,d] Yx)(M:pB [.Tuple [.Name e YU,.Name A i] YP J] (.Tuple [g,d] q r) c.env=pure (Z [e,A]))(XO:pf [.Tuple [.Name e YU,.Name A i] YP J] (.Tuple [g,d] q r) XP.line c.env=pure aA:=by rfl):
  hy c (.Assign [.Tuple [.Name e YU,.Name A i] YP J] (.Tuple [g,d] q r) XP) (BE h k Yx):=by
 intro G m B j w z b;rw[exec_Assign_arm];refine aw (zd ?_);rw[XO];refine aw (aM ?_);rw[if_neg ∅];refine aw (Tuple_<|bK (I _ G m B j _ z b) λXZ f O=>?_);let⟨Q,@XE,P,R,t⟩:=O;let⟨u,@H,S,t⟩:=t;subst S;obtain⟨l,p,rfl,T,U⟩:∃l p,XZ=[l,p]/\bU u l/\bU H p:=by
  cases R with
  |cons n s=>
   cases s with
   |cons c5 cU=>
    cases cU;exact⟨_,_,rfl,n,c5⟩
 refine gF ?_ (by show 2<=sizeLine;decide);have al:aG c G B XE {f with heap:=f.heap.push {cls:=.type "tuple",data:=.seq [l,p].toArray} }:=P.kept (Yc:=f.toks) λd o a=>cw _ a;rw[M];refine aw (aM ?_);show wpAny (aN c.prog c.w) c.A (do rule "assign.swapped-stores";let X1 <-unpackItems (.ref f.heap.objs.size) 2 V;w8 [λu=>tU c.env A u,λu=>tU c.env e u] X1.reverse;pure Flow.next) _ _ _;refine aw (ov<|aw<|unpackItems_tuple (items:=#[l,p]) (z.ok.hd D) (nh.new f.heap _) λah am=>?_);have an:=al.kept (ah:=ah) (Yc:=f.toks) λd o a=>am d o (c0<|cn a) a;show wpAny _ _ (w8 [λu=>tU c.env A u,λu=>tU c.env e u] [p,l] >>= λ_=>pure Flow.next) _ _ _;refine aw (Aa<|Hi<|uN an v E (.inl y) U (λas ap=>?_)<|.inr y);refine Aa (Hi<|uN ap v XG (.inl x) T (λa1 C=>EM<|aM ?_)<|.inr x);rw[x3 _ _ (dn F)]at C;exact⟨_,XE,C,t⟩
end
section
variable{c:aI}{XP:b9}
def P0(f:eG)(Yd:fe):fe:=(λw B j=>∃W:Nat->aZ->ax->Prop,(∃E,W E B j)/\∀E B j,W E B j->
 f B j λd XE=>if d=aa then ∃Yg:aZ->ax->Prop,(∀a S,Yg a S->∃b,b<E/\W b a S)/\Yd {w with bA:=Yg,cv:=Yg,gG:=w.bA} B XE else w.bA B XE)
def QH(p:sR (aN c.prog c.w) c.A c.env c.cP)(t:hS c f Y_)(x:hU c YX Yd):hy c (.While f YX [] XP) (P0 Y_ Yd):=by
 intro G m B j w z b;let⟨@W,⟨@y,C⟩,turn⟩:=b;refine wpAny_While (codeAny_whileLoop (λv XM=>∃q S,aG c G q S XM/\W v q S) ?_ y ⟨B,j,z,C⟩);rintro v D ⟨Y3,XE,E,cc⟩;refine oK p (bK (t G D Y3 XE _ E<|turn v Y3 XE cc) λd I J=>?_);let⟨@XS,r,g⟩:=J;cases d with
 |true=>
  let⟨@Yg,s,g⟩:=g;rw[aF rfl];refine oK p (bK (x G I Y3 XS _ r g) λF M h=>?_);cases F with
  |next=>
   let⟨a,@e,i,k⟩:=h;let⟨@l,n,o⟩:=s a e k;exact⟨l,n,a,e,i,o⟩
  |cont=>
   let⟨a,@e,i,k⟩:=h;let⟨@l,n,o⟩:=s a e k;exact⟨l,n,a,e,i,o⟩
  |brk=>exact h
  |ret u=>exact h
 |false=>
  rw[if_neg cB];exact tF ⟨Y3,XS,r,g⟩
end
structure fI where
 go:Nat->ax->Prop
 va:Nat->ax->ai->ax->Prop
 stop:Nat->ax->Prop
def hX(c:aI)(G:List (aq×a5))(j:ax)(d:aq):Prop:=(
 j d=V/\d≠c.env.locals/\d∉c.Y/\(d∈c.ex\/c.fa.heap.objs.size<=d)/\(∀e f,c.env.cells.lookup e=Z f->f≠d)/\∀n∈c.j3++G,n.1≠d)
def aG.yP(z:aG c G B j m)(b:m.heap.objs.size<=d)(g:S d=V):hX c G S d:=by
 refine⟨g,lg<|eF z.lt b,z.RB b,.inr<|dg z.cS b,λe f a i=>?_,λn h i=>?_⟩
 ·let⟨@u,s⟩:=z.cell e f a;exact absurd (eF s.lt (by rw[i];exact b)) (gN _)
 ·exact absurd (eF (cn (z.pin n h).1) (by rw[i];exact b)) (gN _)
structure vA(XI:bB)(H:a9)(U:Φ)(Yi:aY)(YB:fI)(b7:List aq)(aP:aq)(N:Nat->aV->Prop):Prop where
 mem:aP∈b7
 obj:∀h b,N h b->∀d∈b7,∃o,b.get? d=Z o/\∀u,o.data≠.cell u
 keep:∀h b ah,N h b->(∀d∈b7,∀o,b.get? d=Z o->ah.get? d=Z o)->N h ah
 item:∀(c:aI),c.prog=XI->c.w=H->c.K=U->c.calm=aa->∀(h:Nat) (G:List (aq×a5)) (m:au) (B:aZ) (j:ax) (XA:ag->au->Prop),aG c G B j m->(∀d∈b7,hX c G j d)->N h m.heap->YB.go h j->
  wpAny (aN XI H) c.A (fE<|.ref aP) (λp s1=>∃I,p=Z I/\
   wpAny (aN XI H) c.A (uv Yi (.ref aP) I) (λ_ s2=>∃e S,aG c G B S s2/\bU e I/\YB.va h j e S/\N (h+1) s2.heap/\∀d∈b7,S d=V) XA s1) XA m
 done:∀(c:aI),c.prog=XI->c.w=H->c.K=U->c.calm=aa->∀(h:Nat) (G:List (aq×a5)) (m:au) (B:aZ) (j:ax) (XA:ag->au->Prop),aG c G B j m->(∀d∈b7,hX c G j d)->N h m.heap->YB.stop h j->
  wpAny (aN XI H) c.A (fE<|.ref aP) (λp s1=>p=V/\aG c G B j s1) XA m
 self:∀(L:br) (h:Nat) (m:au) (y:ag->au->Prop) (XA:ag->au->Prop),N h m.heap->y (.ref aP) m->wpAny (aN XI H) L (oc<|.ref aP) y XA m
abbrev ki:=aZ->ax->(fI->ax->Prop)->Prop
def Ii(c:aI)(G:List (aq×a5))(B:aZ)(Yi:aY)(Xz:fI->ax->Prop)(b:ag)(a:au):Prop:=(
 ∃(aP:aq) (b7:List aq) (N:Nat->aV->Prop) (YB:fI) (S:ax),b=.ref aP/\aG c G B S a/\vA c.prog c.w c.K Yi YB b7 aP N/\N 0 a.heap/\(∀d∈b7,hX c G S d)/\Xz YB S)
def HU(c:aI)(Yi YO:aY)(YZ:ki)(G:List (aq×a5)):Prop:=(
 ∀(m:au) (B:aZ) (j:ax) (Xz:fI->ax->Prop),aG c G B j m->YZ B j Xz->
  wpAny (aN c.prog c.w) c.A (bP YO c.env) (λu a=>wpAny (aN c.prog c.w) c.A (oc u) (Ii c G B Yi Xz) c.cP a) c.cP m)
def mG(c:aI)(Yi YO:aY)(YZ:ki):Prop:=(∀G,HU c Yi YO YZ G)
def xF{aC:jh}{XA:ag -> au -> Prop}{aP:aq}{v:String}{Q:Array ag}{y:Unit -> au -> Prop}(c:m.heap.get? aP=Z o)(d:o.cls=.type v)(hd:o.data=.fields Q)(e:["enumerate", "zip", "dict_itemiterator", "dict_reverseitemiterator", "odict_iterator", "itertools.zip_longest", "itertools.pairwise"].contains v=aA)(a:y () m): wpAny aC L (uv Yi (.ref aP) I) y XA m:=by
  unfold uv;cases Yi <;> first
    | exact aM a
    | (cases I <;> first
        | exact aM a
        | (refine aw (wX c ?_)
           rw [d,hd];show wpAny aC L (if (["enumerate", "zip", "dict_itemiterator", "dict_reverseitemiterator", "odict_iterator", "itertools.zip_longest", "itertools.pairwise"].contains v&&Q[0]? == Z (fx _))=aa then _ else _) y XA m;rw [if_neg (by intro b; rw [e,BH]at b; cases b)];exact aM a))
def rx(U:Φ)(g:aq):fI:=(
 ⟨λh j=>∃x e,dm U j g x/\x[h]?=Z e,λh j e S=>S=j/\∀x,dm U j g x->x[h]?=Z e,λh j=>∃x,dm U j g x/\x.length<=h⟩)
def u4(U:Φ)(g:aq):fI:=(
 ⟨λh j=>∃x e,da U j g x/\x[h]?=Z e,λh j e S=>S=j/\∀x,da U j g x->x[h]?=Z e,λh j=>∃x,da U j g x/\x.length<=h⟩)
def vv(XB:Int)(v:Nat):fI:=(⟨λh Y=>h<v,λh j e S=>S=j/\e=.int (XB+h),λh Y=>v<=h⟩)
theorem Nf(g aP:aq):vA XI H U Yi (rx U g) [aP] aP (λh b=>b.IsListIter aP g h) where
 mem:=by simp
 obj:=λh b R d k=>by
  have a:d=aP:=by simpa using k
  subst a;let⟨@o,a,f,r⟩:=R;exact⟨o,a,λu i=>by rw[r]at i;cases i⟩
 keep:=λh b ah R q=>R.at λo a=>q aP ↥0 o a
 item:=by
  intro c s t v J h G m B j XA z l R w;subst s t v;let⟨x,@e,p,y⟩:=w;let⟨@XN,A,n,M⟩:=z.list p;let⟨@I,N,O⟩:=A.get y;let@⟨YL,C,P,D,E,F⟩:=l aP ↥0;refine wpAny_pyNext_list_item R n.isList (x:=I) ⇑N λah L Q=>?_;have S:aG c G B j {m with heap:=ah}:=z.turned (Yc:=m.toks) (λd o k a=>(Q.2 d k).trans a) YL C D E F;let⟨@o,a,f,r⟩:=id L;exact⟨I,rfl,xF (m:={m with heap:=ah}) a f r ∅ ⟨e,j,S,O,⟨rfl,λXW T=>by rw[z.WA T p];exact y⟩,L,λd k=>(l d k).1⟩⟩
 done:=by
  intro c s t v J h G m B j XA z l R w;subst s t v;let⟨@x,p,y⟩:=w;let⟨@XN,A,n,M⟩:=z.list p;let@⟨YL,C,P,D,E,F⟩:=l aP ↥0;have am:=A.length;exact wpAny_pyNext_list_end (z.ok.hd J) R n.isList (by simp;lia) λah al=>⟨rfl,z.turned (Yc:=m.toks) (λd o k a=>al d o k a) YL C D E F⟩
 self:=λ_ Y Y Y Y R b=>wpAny_pyIter_listiter R b
theorem Mi(g aP:aq):vA XI H U Yi (u4 U g) [aP] aP (λh b=>b.IsTupleIter aP g h) where
 mem:=by simp
 obj:=λh b R d k=>by
  have a:d=aP:=by simpa using k
  subst a;let⟨@o,a,f,r⟩:=R;exact⟨o,a,λu i=>by rw[r]at i;cases i⟩
 keep:=λh b ah R q=>R.at λo a=>q aP ↥0 o a
 item:=by
  intro c s t v J h G m B j XA z l R w;subst s t v;let⟨x,@e,p,y⟩:=w;let⟨@XN,A,n,M⟩:=z.tuple p;let⟨@I,N,O⟩:=A.get y;let@⟨YL,C,P,D,E,F⟩:=l aP ↥0;refine wpAny_pyNext_tuple_item R (show m.heap.IsTuple g XN.toArray from n) (x:=I) ⇑N λah L Q=>?_;have S:aG c G B j {m with heap:=ah}:=z.turned (Yc:=m.toks) (λd o k a=>(Q.2 d k).trans a) YL C D E F;let⟨@o,a,f,r⟩:=id L;exact⟨I,rfl,xF (m:={m with heap:=ah}) a f r ∅ ⟨e,j,S,O,⟨rfl,λXW T=>by rw[z.Og T p];exact y⟩,L,λd k=>(l d k).1⟩⟩
 done:=by
  intro c s t v J h G m B j XA z l R w;subst s t v;let⟨@x,p,y⟩:=w;let⟨@XN,A,n,M⟩:=z.tuple p;let@⟨YL,C,P,D,E,F⟩:=l aP ↥0;have am:=A.length;exact wpAny_pyNext_tuple_end (z.ok.hd J) R (show m.heap.IsTuple g XN.toArray from n) (by simp;lia) λah al=>⟨rfl,z.turned (Yc:=m.toks) (λd o k a=>al d o k a) YL C D E F⟩
 self:=λ_ Y Y Y Y R b=>wpAny_pyIter_tupleiter R b
theorem Qp(aP:aq)(XB:Int)(v:Nat):vA XI H U Yi (vv XB v) [aP] aP (λh b=>IsRangeIter b aP (XB+(h:Nat)*1) ((v:Int)-(h:Nat)) 1) where
 mem:=by simp
 obj:=λh b R d e=>by
  have a:d=aP:=by simpa using e
  subst a;exact⟨_,R,λu i=>by
   have A:Data.fields _=Data.cell u:=i;cases A⟩
 keep:=λh b ah R q=>q aP ↥0 _ R
 item:=by
  intro c g k l n h G m B j XA z f R p;subst g k l;let@⟨YL,r,E,s,t,x⟩:=f aP ↥0;have W:=hH.range (prog:=c.prog) (w:=c.w) (z.ok.hd n) aP XB 1 v;refine W.item h m _ _ p R λu ah Yb F y I=>?_;let⟨@C,rfl⟩:=F;have J:aG c G B j {m with heap:=ah,toks:=Yb}:=z.turned (λd o e a=>I d o ⇑e a) YL r s t x;refine⟨_,rfl,xF (m:={m with heap:=ah,toks:=Yb}) (v := "range_iterator") y rfl rfl ∅ ⟨.int<|XB+h,j,J,⟨C,?_⟩,⟨rfl,rfl⟩,y,λd e=>(f d e).1⟩⟩;rw[Int.mul_one]
 done:=by
  intro c g k l n h G m B j XA z f R p;subst g k l;let@⟨YL,r,E,s,t,x⟩:=f aP ↥0;exact wpAny_pyNext_range_end (z.ok.hd n) R (by have:v<=h:=p;lia) λah L=>⟨rfl,z.turned (Yc:=m.toks) (λd o e a=>L d o e a) YL r s t x⟩
 self:=λ_ Y Y Y Y R b=>wpAny_pyIter_rangeiter R b
section
variable{c:aI}{Yi:aY}
def OY{Xz:fI->ax->Prop}{XB XG:Int}{C I u:hT}{Yb:Nat}(z:aG c G B j m)(l : -(2^62)<=XB)(t:XB<2^62)(e : -(2^62)<=XG)(f:XG<2^62)(s:Xz (vv XB (XG-XB).toNat) j):wpAny (aN c.prog c.w) c.A (oc<|.ref m.heap.objs.size) (Ii c G B Yi Xz) XA {m with heap:=m.heap.push {cls:=.type "range",data:=.fields #[.int XB C,.int XG I,.int 1 u]},toks:=Yb}:=by
 refine wpAny_pyIter_range (IsRange.new ..) (small_one l t e f) ?_;have b:aG c G B j {m with heap:=m.heap.push {cls:=.type "range",data:=.fields #[.int XB C,.int XG I,.int 1 u]},toks:=Yb}:=z.kept λd o a=>cw _ a;refine⟨(m.heap.push {cls:=.type "range",data:=.fields #[.int XB C,.int XG I,.int 1 u]}).objs.size,[(m.heap.push {cls:=.type "range",data:=.fields #[.int XB C,.int XG I,.int 1 u]}).objs.size],_,_,j,rfl,
  b.kept (Yc:=Yb) λd o a=>cw _ a,Qp _ XB (XG-XB).toNat,?_,λd g=>?_,s⟩
 ·have h:XB+((0:Nat):Int)*1=XB:=by simp
  have i:(((XG-XB).toNat:Nat):Int)-((0:Nat):Int)=bc.Range.rangeSize XB XG 1:=by rw[rangeSize_one];split<;>lia
  show IsRangeIter _ _ (XB+((0:Nat):Int)*1) ((((XG-XB).toNat:Nat):Int)-((0:Nat):Int)) 1;rw[h,i];exact dE _ rfl
 ·have a:d=(m.heap.push {cls:=.type "range",data:=.fields #[.int XB C,.int XG I,.int 1 u]}).objs.size:=by simpa using g
  subst a;exact b.yP (bk _) (b.aU.fresh<|bk _)
def Mw(Yx:fk):ki:=(λB j Xz=>Yx B j λQ XE=>∃k:Int,Q=[.int k] /\ -(2^62)<=k/\k<2^62/\Xz (vv 0 k.toNat) XE)
variable{XP:b9}
def Oq{g:aY}{n:b9}(e:fc c "range")(f:c.aJ "range" = V)(h:hp c [g] Yx)(XO:bD [g] c.env=[(aA,bP g c.env)]:=by rfl):mG c Yi (.Call (.Name "range" n) [g] [] XP) (Mw Yx):=by
 intro G m B j Xz z b;refine Call_ (nX z e f boot_range<|tk (bK (h XP G m B j _ z b) λXZ r ⟨Q,XE,i,l,d⟩=>?_) XO rfl);let⟨@k,a,d,o,s⟩:=d;subst a;cases l with
 |cons p q=>
  cases q;let⟨@C,rfl⟩:=p;exact call_range_1 (OY i ⋯ ⋯ d o ⇑s)
def Ew(YZ:ki)(O:g7)(Yd:fe):fe:=(λw B j=>YZ B j λYB XE=>∃W:Nat->Nat->aZ->ax->Prop,(∃E,W 0 E B XE)/\∀h E B j,W h E B j->
 (YB.stop h j/\w.bA B j)\/(YB.go h j/\∃Yg:aZ->ax->Prop,(∀a S,Yg a S->∃b,b<E/\W (h+1) b a S)/\∀e S,YB.va h j e S->O e B S λc XS=>Yd {w with bA:=Yg,cv:=Yg,gG:=w.bA} c XS))
def m_(b7:List aq)(b:aV):List (aq×a5):=(b7.filterMap λd=>(b.get? d).map λo=>(d,o))
def uG(c:d∈b7)(a:b.get? d=Z o):(d,o)∈m_ b7 b:=vh.mpr ⟨d,c,by rw[a];rfl⟩
def J7{n:aq×a5}(c:n∈m_ b7 b):n.1∈b7/\b.get? n.1=Z n.2:=by
 let⟨@d,e,a⟩:=vh.mp c;cases s:b.get? d with
 |none=>rw[s]at a;cases a
 |some o=>
  rw[s]at a;have f:(d,o)=n:=Option.some.inj a;subst f;exact⟨e,s⟩
def aG.pinned(z:aG c G B j m)(f:∀d∈b7,hX c G j d)(g:∀d∈b7,∃o,m.heap.get? d=Z o/\∀u,o.data≠.cell u):aG c (G++m_ b7 m.heap) B j m:=
 z.p8 λn h=>(dM.mp h).elim (λi=>z.pin n<|dH _ i) λi=>by
  let@⟨b,a⟩:=J7 i;let@⟨YL,k,l,_⟩:=f n.1 b;let⟨@o,e,r⟩:=g n.1 b;rw[a]at e;cases e;exact⟨a,YL,k,l,r⟩
def aG.v_{bl:List (aq×a5)}(z:aG c (G++bl) B j m):aG c G B j m:=z.p8 λn a=>z.pin n (dH _<|d6 _ a)
def Pu{YO:aY}{YZ:ki}{O:g7}(s:sR (aN c.prog c.w) c.A c.env c.cP)(R:c.calm=aa)(XG:mG c Yi YO YZ)(a2:kh c Yi O)(f:hU c YX Yd)(XO:∀e,p3 YO c.env e=pure e:=by intro Y;rfl):hy c (.For Yi YO YX [] XP) (Ew YZ O Yd):=by
 intro G m B j w z b;refine wpAny_For (bK (XG G m B j _ z b) λu f1 l=>bK l λf2 f4 t=>?_) XO;let⟨aP,b7,N,YB,@XS,a,bd,T,be,U,⟨@W,⟨@bi,bm⟩,turn⟩⟩:=t;subst a;have J:∀{S:ax},(∀d∈b7,S d=V)->∀d∈b7,hX c G S d:=λbn d f=>⟨bn d f,(U d f).2⟩;refine codeAny_forLoop_any (λv XM=>∃h x S,aG c G x S XM/\N h XM.heap/\(∀d∈b7,S d=V)/\W h v x S) ?_ bi ⟨0,B,XS,bd,be,λd f=>(U d f).1,bm⟩;rintro v al ⟨h,y,D,am,an,ap,bs⟩;rcases turn h v y D bs with ⟨stop,bv⟩|⟨go,Yg,ca,step⟩
 ·refine oK s (bK (T.done c rfl rfl rfl R h G al y D c.cP am (J ap) an stop) λp cd q=>?_);let@⟨M,ce⟩:=q;subst M;exact tF ⟨y,D,ce,bv⟩
 ·refine oK s (bK (T.item c rfl rfl rfl R h G al y D c.cP am (J ap) an go) λp cd q=>?_);let⟨@I,M,ch⟩:=q;subst M;refine oK s (bK ch λ_ as q=>?_);let⟨e,@a1,ci,cl,co,P,cr⟩:=q;have cs:=ci.pinned (J cr) (T.obj _ _ P);refine oK s (bK (a2 _ as y a1 e I _ cs cl<|step e a1 co) λ_ db q=>?_);let⟨ds,@dL,eq,ev⟩:=q;refine oK s (bK (f _ db ds dL _ eq ev) λF Q n=>?_);have again:∀{g:aZ}{i:ax},aG c (G++m_ b7 as.heap) g i Q->Yg g i->∃E,E<v/\∃h x S,aG c G x S Q/\N h Q.heap/\(∀d∈b7,S d=V)/\W h E x S:=λ{g i} k C=>by
   let⟨@ex,fd,fn⟩:=ca g i C;refine⟨ex,fd,h+1,g,i,k.v_,T.keep _ _ _ P λd f o a=>(k.pin (d,o)<|dH _<|dH _<|uG f a).1,λd f=>?_,fn⟩;let⟨@o,a,r⟩:=T.obj _ _ P d f;exact (k.pin (d,o)<|dH _<|dH _<|uG f a).2.1
  cases F with
  |next=>let⟨g,@i,k,C⟩:=n;exact again k C
  |cont=>let⟨g,@i,k,C⟩:=n;exact again k C
  |brk=>let⟨g,@i,k,n⟩:=n;exact⟨g,i,k.v_,n⟩
  |ret u=>let⟨fr,g,@i,k,f0,n⟩:=n;exact⟨fr,g,i,k.v_,f0,n⟩
end
abbrev bJ:=ai->ai->ax->cI->Prop
variable{Yr p:bJ}
def dU(c:aI)(F:ag->ag->eP ag)(p:bJ):Prop:=(
 ∀(G:List (aq×a5)) (m:au) (B:aZ) (j:ax) (e A:ai) (u I:ag) (y:cI),aG c G B j m->bU e u->bU A I->p e A j y->
  wpAny (aN c.prog c.w) c.A (F u I) (eA c G B y) c.cP m)
def Az(c:aI)(F:ag->eP ag)(p:ai->ax->cI->Prop):Prop:=(
 ∀(G:List (aq×a5)) (m:au) (B:aZ) (j:ax) (e:ai) (u:ag) (y:cI),aG c G B j m->bU e u->p e j y->
  wpAny (aN c.prog c.w) c.A (F u) (eA c G B y) c.cP m)
def eK(c:aI)(F:ag)(p:List ai->ax->cI->Prop):Prop:=(
 ∀(G:List (aq×a5)) (m:au) (B:aZ) (j:ax) (x:List ai) (XZ:List ag) (y:cI),aG c G B j m->bN x XZ->p x j y->
  wpAny (aN c.prog c.w) c.A (call F XZ) (eA c G B y) c.cP m)
def Ri(c:aI)(p:ai->ax->(Bool->ax->Prop)->Prop):Prop:=(
 ∀(G:List (aq×a5)) (m:au) (B:aZ) (j:ax) (e:ai) (u:ag) (y:Bool->ax->Prop),aG c G B j m->bU e u->p e j y->
  wpAny (aN c.prog c.w) c.A (truthy u) (vT c G B y) c.cP m)
def vr(p:bJ)(Yx Yd:bL):bL:=(λB j y=>Yx B j λe XE=>Yd B XE λA XS=>p e A XS y)
def T6(p:ai->ax->cI->Prop)(Yx:bL):bL:=(λB j y=>Yx B j λe XE=>p e XE y)
def oe(aL:Int->Int->Prop)(O:Int->Int->ai):bJ:=(λe A j y=>∃h k,e=.int h/\A=.int k/\aL h k/\y (O h k) j)
def kd(O:Int->Int->ai):bJ:=(λe A j y=>∃h k,e=.int h/\A=.int k/\y (O h k) j)
def DX(O:Int->ai):ai->ax->cI->Prop:=(λe j y=>∃h,e=.int h/\y (O h) j)
section
variable{c:aI}{g d f:aY}{Yx Yd Y_:bL}{XP:b9}
def yv(h:bu c g Yx)(i:bu c d Yd){G:List (aq×a5)}{m:au}{B:aZ}{j:ax}{Xz:ai->ai->ax->Prop}(z:aG c G B j m)(b:Yx B j λe XE=>Yd B XE λA XS=>Xz e A XS){y:ag->au->Prop}{F:ag->ag->eP ag}(k:∀u I a e A XS,aG c G B XS a->bU e u->bU A I->Xz e A XS->wpAny (aN c.prog c.w) c.A (F u I) y c.cP a):
  wpAny (aN c.prog c.w) c.A (bP g c.env) (λu l=>wpAny (aN c.prog c.w) c.A (bP d c.env) (λI n=>wpAny (aN c.prog c.w) c.A (F u I) y c.cP n) c.cP l) c.cP m:=by
 refine bK (h G m B j _ z b) λu o f=>?_;let⟨e,@XE,p,q,r⟩:=f;refine bK (i G o B XE _ p r) λI a f=>?_;let⟨A,@XS,s,t,v⟩:=f;exact k u I a e A XS s q t v
def Qm{Yn:yp}(a:dU c (e5 Yn) p)(f:bu c g Yx)(h:bu c d Yd):bu c (.BinOp g Yn d XP) (vr p Yx Yd):=by
 intro G m B j y z b;exact wpAny_BinOp (yv f h z b λu I i e A XS k l n s=>a G i B XS e A u I y k l n s)
def LG{Yn:UnaryOp}{p:ai->ax->cI->Prop}(a:Az c (unaryOp Yn) p)(d:bu c g Yx):bu c (.UnaryOp Yn g XP) (T6 p Yx):=by
 intro G m B j y z b;exact UnaryOp_ (bK (d G m B j _ z b) λu f ⟨e,XE,h,i,k⟩=>a G f B XE e u y h i k)
def rb{aL:Int->Int->Prop}(a:∀(h k:Int) (C I:hT) (m:au) (y:ag->au->Prop) (XA:ag->au->Prop),aL h k->y (.int (O h k) m.toks) {m with toks:=m.toks+1}->wpAny (aN c.prog c.w) c.A (F (.int h C)<|.int k I) y XA m):
  dU c F (oe aL λh k=>.int<|O h k):=by
 intro G m B j e A u I y z d f b;let⟨h,@k,rfl,rfl,g,s⟩:=b;let⟨@C,rfl⟩:=d;let⟨@Yc,rfl⟩:=f;exact a h k C Yc m _ _ g ⟨.int<|O h k,j,z.tok _,⟨_,rfl⟩,s⟩
def Ad(a:∀(h k:Int) (C I:hT) (m:au) (y:ag->au->Prop) (XA:ag->au->Prop),y (.int (O h k) m.toks) {m with toks:=m.toks+1}->wpAny (aN c.prog c.w) c.A (F (.int h C)<|.int k I) y XA m):
  dU c F (kd λh k=>.int<|O h k):=by
 intro G m B j e A u I y z d f b;let⟨h,@k,rfl,rfl,s⟩:=b;let⟨@C,rfl⟩:=d;let⟨@Yc,rfl⟩:=f;exact a h k C Yc m _ _ ⟨.int<|O h k,j,z.tok _,⟨_,rfl⟩,s⟩
def uO{O:Int->Int->Bool}(a:∀(h k:Int) (C I:hT) (m:au) (y:ag->au->Prop) (XA:ag->au->Prop),y (.bool<|O h k) m->wpAny (aN c.prog c.w) c.A (F (.int h C)<|.int k I) y XA m):
  dU c F (kd λh k=>.aH<|O h k):=by
 intro G m B j e A u I y z d f b;let⟨h,@k,rfl,rfl,s⟩:=b;let⟨@C,rfl⟩:=d;let⟨@Yc,rfl⟩:=f;exact a h k C Yc m _ _ ⟨.aH<|O h k,j,z,rfl,s⟩
def Lk(h k:Int):Prop:=(0<k/\k<1073741824)
def CZ(h k:Int):Prop:=(0<=k/\k<=1000000/\h.natAbs<2^64)
def Vn:dU c (e5 .Add) (kd λh k=>.int<|h+k):=Ad λ_ Y Y Y Y Y Y s=>add_int s
def NR:dU c (e5 .Sub) (kd λh k=>.int<|h-k):=Ad λ_ Y Y Y Y Y Y s=>sub_int s
def QF:dU c (e5 .FloorDiv) (oe Lk λh k=>.int<|h/k):=rb λh k Y Y Y Y Y a s=>by
 have l:(0:Int)<k:=a.1;have t:k<1073741824:=a.2;exact floordiv_int ⋯ (by rw[Int.fdiv_eq_ediv_of_nonneg h ⋯];exact s) (.inl (PyProof.noPylong_small ⋯))
def O3:dU c (e5 .Mod) (oe (λ_ k=>0<k) λh k=>.int<|h%k):=rb λh k Y Y Y Y Y a s=>by
 have l:(0:Int)<k:=a;exact mod_int' ⋯ (by rw[Int.fmod_eq_emod_of_nonneg h ⋯];exact s)
def U7:dU c (e5 .Pow) (oe CZ λh k=>.int<|h^k.toNat):=rb λ_ Y Y Y Y Y Y a s=>pow_int_small a.1 a.2.1 a.2.2 s
def Nu:dU c (e5 .LShift) (oe CZ λh k=>.int<|h*2^k.toNat):=rb λ_ Y Y Y Y Y Y a s=>lshift_int_small a.1 a.2.1 a.2.2 s
def Wt:dU c (e5 .BitXor) (kd λh k=>.int<|bc.bitXor h k):=Ad λ_ Y Y Y Y Y Y s=>xor_int s
def WV{F:ag->eP ag}{O:Int->Int}(a:∀(h:Int) (C:hT) (m:au) (y:ag->au->Prop) (XA:ag->au->Prop),y (.int (O h) m.toks) {m with toks:=m.toks+1}->wpAny (aN c.prog c.w) c.A (F<|.int h C) y XA m):
  Az c F (DX λh=>.int<|O h):=by
 intro G m B j e u y z d b;let⟨@h,rfl,s⟩:=b;let⟨@C,rfl⟩:=d;exact a h C m _ _ ⟨.int<|O h,j,z.tok _,⟨_,rfl⟩,s⟩
def TX:Az c (unaryOp .USub) (DX λh=>.int<|-h):=WV λ_ Y Y Y Y s=>neg_int s
def Ra:dU c (eL .Lt) (kd λh k=>.aH<|decide (h<k)):=uO λ_ Y Y Y Y Y Y s=>lt_int s
def Wu:dU c (eL .LtE) (kd λh k=>.aH<|decide (h<=k)):=uO λ_ Y Y Y Y Y Y s=>le_int s
def UP:dU c (eL .Gt) (kd λh k=>.aH<|decide (k<h)):=uO λ_ Y Y Y Y Y Y s=>gt_int s
def Q0:dU c (eL .GtE) (kd λh k=>.aH<|decide (k<=h)):=uO λ_ Y Y Y Y Y Y s=>ge_int s
def dU.or(b:dU c F p)(ah:dU c F Yr):dU c F (λe A j y=>p e A j y\/Yr e A j y):=by
 intro G m B j e A u I y z a d s;rcases s with s|s
 ·exact b G m B j e A u I y z a d s
 ·exact ah G m B j e A u I y z a d s
def dt(d:aY){Yn:kA}(b:Yn≠.In:=by decide)(t:Yn≠.NotIn:=by decide):oX Yn d=aA:=by
 have a:(Yn==kA.In)=aA:=by cases Yn<;>first|rfl|exact absurd rfl b
 have c:(Yn==kA.NotIn)=aA:=by cases Yn<;>first|rfl|exact absurd rfl t
 cases d<;>simp[oX,a,c]
def Ur(a:dU c (eL Yn) p)(f:bu c g Yx)(h:bu c d Yd)(i:oX Yn d=aA):bu c (.Compare g [Yn] [d] XP) (vr p Yx Yd):=by
 intro G m B j y z b;exact wpAny_Compare1 (yv f h z b λu I k e A XS l n o s=>a G k B XS e A u I y l n o s) i
def ET(C:bL):eG:=(λB j y=>C B j λe S=>∃q,e=.aH q/\y q S)
def I0(h:dU c (eL Yn) p)(k:bu c g Yx)(l:bu c d Yd)(n:oX Yn d=aA):hS c (.Compare g [Yn] [d] XP) (ET<|vr p Yx Yd):=by
 intro G m B j y z b;refine wpAny_isTrue_Compare1 (bK (k G m B j _ z b) λu o ⟨e,XE,r,s,t⟩=>bK (l G o B XE _ r t) λI v ⟨A,XS,w,x,C⟩=>
  bK (h G v B XS e A u I _ w s x C) λf J ⟨i,D,E,F,q,a,H⟩=>?_) n;subst a;cases F;exact oC ⟨D,E,H⟩
def JU(p Yr:bJ)(Yx Yd Y_:bL):bL:=(λB j y=>Yx B j λe XE=>Yd B XE λA XS=>p e A XS λi a=>∃q,i=.aH q/\
 (if q=aa then Y_ B a λb c=>Yr A b c y else y (.aH aA) a))
def QN{h:kA}(s:dU c (eL Yn) p)(t:dU c (eL h) Yr)(v:bu c g Yx)(w:bu c d Yd)(x:bu c f Y_)(C:lastMarks [Yn,h] [d,f]=aA:=by with_unfolding_all rfl):hS c (.Compare g [Yn,h] [d,f] XP) (ET<|JU p Yr Yx Yd Y_):=by
 intro G m B j y z b;refine isTrue_chain (bK (v G m B j _ z b) λu D ⟨e,XE,E,F,H⟩=>test_link (bK (w G D B XE _ E H) λI J ⟨A,XS,L,k,M⟩=>
  bK (s G J B XS e A u I _ L F k M) λr N ⟨i,l,n,O,q,a,o⟩=>?_)) C;subst a;cases O;refine oC ?_;cases q with
 |false=>
  let⟨@be,P,cU⟩:=o;cases P;exact ite_ff ⟨l,n,cU⟩
 |true=>
  refine ite_tt (test_last<|bK (x G N B l _ n o) λQ R ⟨S,T,U,al,am⟩=>bK (t G R B T A S I Q _ U k al am) λYE bi an=>?_);let⟨bm,@ap,as,a1,⟨@bn,a2,bd⟩⟩:=an;subst a2;cases a1;exact oC ⟨ap,as,bd⟩
def AG(U:Φ)(e:ai)(j:ax)(q:Bool):Prop:=(
 match e with
 |.aK=>q=aA
 |.aH d=>q=d
 |.int h=>q=(h != 0)
 |.str A=>A.length<=sizeLine/\q=((A.length:Int) != 0)
 |.rz A=>A.size<=sizeLine/\q=((A.size:Int) != 0)
 |.ref n=>(∃x,dm U j n x/\q=!x.isEmpty)\/(∃x,da U j n x/\q=!x.isEmpty)\/∃Xy,j n=Z (.cb Xy)/\q=!Xy.isEmpty
 |_=>False)
def Tf{X6:Type}{Xy:List (X6×ai)}{Q:List (X6×ag)}(p:eE Xy Q):(!Q.isEmpty)=!Xy.isEmpty:=by
 cases p<;>rfl
def Ex{x:List ai}{XN:List ag}(p:bN x XN):(!XN.toArray.isEmpty)=!x.isEmpty:=by
 cases p<;>simp
def oF:(sizeLine:Nat)<2^63:=by rw[tN];decide
def M6:Ri c (λe j y=>∃q,AG c.K e j q/\y q j):=by
 intro G m B j e u y z g b;let⟨@q,a,s⟩:=b;have t:=oF;have XO:sizeLine=16777216:=tN;cases e with
 |aK=>
  cases g;have f:q=aA:=a;subst f;exact truthy_none ⟨j,z,s⟩
 |aH d=>
  cases g;have f:q=d:=a;subst f;exact oC ⟨j,z,s⟩
 |int h=>
  let⟨@C,rfl⟩:=g;have f:q=(h != 0):=a;subst f;exact PySem.P.truthy_int ⟨j,z,s⟩
 |str A=>
  let⟨@C,rfl⟩:=g;obtain⟨o,f⟩:A.length<=sizeLine/\q=((A.length:Int) != 0):=a;subst f;exact PySem.P.truthy_str ⋯ ⟨j,z.tok _,s⟩
 |rz A=>
  let⟨@C,rfl⟩:=g;obtain⟨o,f⟩:A.size<=sizeLine/\q=((A.size:Int) != 0):=a;subst f;exact PySem.W.truthy_bytes ⋯ ⟨j,z.tok _,s⟩
 |ref n=>
  cases g;have f:(∃x,dm c.K j n x/\q=!x.isEmpty)\/(∃x,da c.K j n x/\q=!x.isEmpty)\/∃Xy,j n=Z (.cb Xy)/\q=!Xy.isEmpty:=a;rcases f with ⟨x,i,f⟩|⟨x,i,f⟩|⟨Xy,i,f⟩
  ·subst f;let⟨@XN,p,bl,k⟩:=z.list i;have l:=p.length;exact wpAny_truthy_list bl.isList (by simp only[cK];lia) ⟨j,z.tok _,by rw[Ex p];exact s⟩
  ·subst f;let⟨@XN,p,bl,k⟩:=z.tuple i;have l:=p.length;exact truthy_tuple bl (by simp only[cK];lia) ⟨j,z.tok _,by rw[Ex p];exact s⟩
  ·subst f;obtain⟨k,r,Q,p,E⟩:Xy.length<=sizeLine/\(n==h4)=aA/\∃Q,eE Xy Q/\m.heap.DictOf (ip c.prog c.w) n Q:=z.aU n _ i;have l:Xy.length=Q.length:=dB.length p;exact wpAny_truthy_dict r E ⋯ ⟨j,z.tok _,by rw[Tf p];exact s⟩
 |_=>exact (show False from a).elim
def NK(d:bu c g Yx)(f:∀a,qe g c.env a=(do let u <-a;standAt g.pos;holding [u] (truthy u))):
  hS c g (λB j y=>Yx B j λe S=>∃q,AG c.K e S q/\y q S):=by
 intro G m B j y z b;exact isTrue_plain (bK (d G m B j _ z b) λu h ⟨e,XE,i,k,l⟩=>M6 G h B XE e u y i k l) (f _)
def U0:dU c (e5 .Add) (λe A j y=>∃h k,e=.str h/\A=.str k/\h.length+k.length<=sizeLine/\y (.str<|h++k) j):=by
 intro G m B j e A u I y z a d b;let⟨h,@k,rfl,rfl,f,s⟩:=b;let⟨@C,rfl⟩:=a;let⟨@Yc,rfl⟩:=d;exact add_str (λYc Yb=>⟨.str<|h++k,j,z.tok _,⟨_,rfl⟩,s⟩) f
def hD{e:ai}(p:bN [e] XZ):∃I,XZ=[I]/\bU e I:=by
 cases p with
 |cons a b=>cases b;exact⟨_,rfl,a⟩
def r2{e:ai}(p:bN [e,A] XZ):∃I a,XZ=[I,a]/\bU e I/\bU A a:=by
 cases p with
 |cons b c=>
  cases c with
  |cons d f=>cases f;exact⟨_,_,rfl,b,d⟩
def VB:eK c (.builtin "abs") (λx j y=>∃h,x=[.int h]/\y (.int<|if h<0 then -h else h) j):=by
 intro G m B j x XZ y z p b;let⟨@h,rfl,s⟩:=b;let⟨@I,rfl,⟨@C,rfl⟩⟩:=hD p;exact call_abs_int λI Yb=>⟨.int<|if h<0 then -h else h,j,z.tok _,⟨_,rfl⟩,s⟩
def LB(d:c.calm=aa):eK c (.builtin "max") (λx j y=>∃h k,x=[.int h,.int k]/\y (.int<|if k>h then k else h) j):=by
 intro G m B j x XZ y z p b;let⟨h,@k,rfl,s⟩:=b;let⟨I,@e,rfl,⟨@C,rfl⟩,⟨@Yc,rfl⟩⟩:=r2 p;refine max_two_ints (z.ok.hd d) λah Yb q=>⟨_,j,z.kept q,?_,s⟩;by_cases a:k>h
 ·rw[aF a,aF a];exact⟨_,rfl⟩
 ·rw[if_neg a,if_neg a];exact⟨_,rfl⟩
def Mn(d:c.calm=aa):eK c (.builtin "min") (λx j y=>∃h k,x=[.int h,.int k]/\y (.int<|if k<h then k else h) j):=by
 intro G m B j x XZ y z p b;let⟨h,@k,rfl,s⟩:=b;let⟨I,@e,rfl,⟨@C,rfl⟩,⟨@Yc,rfl⟩⟩:=r2 p;refine min_two_ints (z.ok.hd d) λah Yb q=>⟨_,j,z.kept q,?_,s⟩;by_cases a:k<h
 ·rw[aF a,aF a];exact⟨_,rfl⟩
 ·rw[if_neg a,if_neg a];exact⟨_,rfl⟩
def SV:eK c (.type "int") (λx j y=>(∃h,x=[.int h]/\y (.int h) j)\/∃q,x=[.aH q]/\y (.int<|if q then 1 else 0) j):=by
 intro G m B j x XZ y z p b;rcases b with ⟨h,rfl,s⟩|⟨q,rfl,s⟩
 ·let⟨@I,rfl,⟨@C,rfl⟩⟩:=hD p;exact call_int_int ⟨.int h,j,z,⟨_,rfl⟩,s⟩
 ·let⟨@I,rfl,a⟩:=hD p;cases a;exact call_int_bool ⟨.int<|if q then 1 else 0,j,z.tok _,⟨_,rfl⟩,s⟩
end
def i6.some_of{o:Option ag}(p:i6 (Z u) o):∃I,o=Z I/\bU u I:=by
 cases o with
 |none=>exact (show False from p).elim
 |some I=>exact⟨I,rfl,p⟩
structure e0(q:Nat)(L:br):Prop where
 hd:L.handled=V
 wi:L.depth+3*q+5<Cd
 un:L.units+16*q+200<bj
 ox:L.guards=Z []
def e0.mono(p:e0 q L)(b:k<=q):e0 k L:=⟨p.hd,by have:=p.wi;lia,by have:=p.un;lia,p.ox⟩
def e0.deeper(p:e0 (q+1) L)(Xx:eQ):e0 q (L.deeper Xx):=
 ⟨p.hd,by have:=p.wi;show L.depth+1+3*q+5<_;lia,by have:=p.un;show L.units+3+16*q+200<_;lia,p.ox⟩
def e0.depth(p:e0 q L):L.depth<Cd:=by have:=p.wi;lia
def MP:fk:=(λ_ j y=>y [] j)
def Rw(Yx:bL)(a:fk):fk:=(λB j y=>Yx B j λe XE=>a B XE λx XS=>y (e::x) XS)
section
variable{c:aI}{a:aY}{P:List aY}{YQ:bL}{C:fk}{XP:b9}
def vJ:hp c [] MP:=λ_ Y Y Y j y z b=>ri ⟨[],j,z,.nil,b⟩
def um(f:bu c a YQ)(g:hp c P C)(XO:bD (a::P) c.env=(aA,bP a c.env)::bD P c.env:=by rfl):hp c (a::P) (Rw YQ C):=by
 intro XP G m B j y z b;rw[XO];show wpAny _ _ (spliced ((aA,bP a c.env)::ep XP (bD P c.env))) _ _ m;refine pj (bK (f G m B j _ z b) λI h d=>?_);let⟨e,@XE,i,k,l⟩:=d;refine bK (g XP G h B XE _ i l) λXZ q d=>?_;let⟨x,@XS,n,o,p⟩:=d;exact⟨e::x,XS,n,.cons k o,p⟩
def S6(C:fk):bL:=(λB j y=>C B j λx XE=>x.length<=sizeLine/\∀n,XE n=V->y (.ref n) (upd XE n<|.tup x))
def WO(C:fk):bL:=(λB j y=>C B j λx XE=>x.length<=sizeLine/\∀n,XE n=V->y (.ref n) (upd XE n<|.lst x))
def Wn{g}(b:hp c P C):bu c (.Tuple P g XP) (S6 C):=by
 intro G m B j y z h;refine wpAny_Tuple_spliced (bK (b XP G m B j _ z h) λXZ e ⟨x,XE,f,p,i,s⟩=>⟨by rw[<-p.length];exact i,?_⟩);have k:XE e.heap.objs.size=V:=f.aU.fresh (bk _);refine⟨.ref e.heap.objs.size,upd XE e.heap.objs.size<|.tup x,f.laid (Yc:=e.toks) (λd I a=>cw _ a) (bk _) ?_,rfl,s _ k⟩;exact⟨i,XZ,p,⟨_,dE _ rfl,rfl,_,rfl⟩⟩
def EB(b:hp c P C):bu c (.List P XP) (WO C):=by
 intro G m B j y z g;refine wpAny_List_spliced (bK (b XP G m B j _ z g) λXZ e ⟨x,XE,f,p,i,s⟩=>⟨by rw[<-p.length];exact i,?_⟩);have h:XE e.heap.objs.size=V:=f.aU.fresh (bk _);refine⟨.ref e.heap.objs.size,upd XE e.heap.objs.size<|.lst x,f.laid (Yc:=e.toks) (λd I a=>cw _ a) (bk _) ?_,rfl,s _ h⟩;exact⟨i,XZ,0,p,dE _ rfl⟩
end
abbrev mI:=List ai->ax->cI->gT->Prop
abbrev kY:=List eQ->ax->au->gT->ag->au->Prop
variable{YR:kY}
structure u_(XI:bB)(H:a9)(U:Φ)(aJ:aD->Option ag)(X9:aV)(L:br)(Ys:List eQ)(m:au)(j:ax):Prop where
 frames:L.frames=Z Ys
 mod:Mod U aJ X9
 bs:∀d o,X9.get? d=Z o->m.heap.get? d=Z o/\j d=kk o
 l4:X9.objs.size<=m.heap.objs.size
 i5:m.heap.FunFrames X9 Ys
 nH:∀d∈ic Ys,j d=V
 aU:ee XI H j m.heap
 bare:l1 m.gens
def yw(Ys:List eQ)(XI:bB)(H:a9)(j:ax)(m:au)(y:cI)(I:ag)(XM:au):Prop:=(
 ∃u S,XM.os=m.os/\l1 XM.gens/\eS (ic Ys) [] j S m.heap XM.heap/\ee XI H S XM.heap/\bU u I/\y u S)
def N5(YR:kY)(Ys:List eQ)(XI:bB)(H:a9)(j:ax)(m:au)(y:cI)(XA:gT)(p:qw)(XM:au):Prop:=(
 match p with
 |.ok (.ret I)=>yw Ys XI H j m y I XM
 |.ok _=>False
 |.error a=>YR Ys j m XA a XM)
structure iH(XI:bB)(H:a9)(U:Φ)(aJ:aD->Option ag)(X9:aV)(YR:kY)(q:Nat)(F:aq)(fd:gZ)(XF:List aD)(YT:mI):Prop where
 len:∀Q j y XA,YT Q j y XA->Q.length=XF.length
 run:∀(L:br) (Ys:List eQ) (m:au) (j:ax) (args:Args) (XZ:List ag) (Q:List ai) (y:cI) (XA:gT),e0 q L->u_ XI H U aJ X9 L Ys m j->nc m fd args (XF.zip XZ)->bN Q XZ->YT Q j y XA->
  codeAny (aN XI H) L (.call (.ref F) args) (N5 YR Ys XI H j m y XA) m
section
variable{c:aI}{G:List (aq×a5)}{B:aZ}{j:ax}{m XM:au}
def aG.T_(z:aG c G B j m):u_ c.prog c.w c.K c.aJ c.base c.A c.stack m j:=
 ⟨z.ok.frames,z.ok.mod,z.bs,dg z.ok.l4 z.cS,z.stack,z.Ji,z.aU,z.bare⟩
def aG.after{y:cI}(z:aG c G B j m)(b:yw c.stack c.prog c.w j m y I XM):eA c G B y I XM:=by
 let⟨u,@S,XU,a,un,aU,p,s⟩:=b;let⟨e,O,r,C,f⟩:=XM;obtain rfl:f=m.os:=XU;exact⟨u,S,z.call (ah:=e) (Y0:=O) (YE:=r) (Yc:=C) (YS:=[]) un aU a (λd i=>absurd i ↥0),p,s⟩
end
def FW(YT:mI)(i:List ai)(XA:gT)(C:fk):bL:=(λB j y=>C B j λQ XE=>YT (Q++i) XE y XA)
def i9(U:Φ)(fd:gZ)(XF:List aD)(D:List ag):Prop:=(
 ∀(m:au) (XZ:List ag),U.In m.heap->(XZ++D).length=XF.length->nc m fd ⟨XZ,[]⟩ (XF.zip<|XZ++D))
def i9.all{fd:gZ}(b:∀XZ:List ag,XZ.length=XF.length->kB fd ⟨XZ,[]⟩=pure (XF.zip XZ)):i9 U fd XF []:=λm XZ Y a=>by
 rw[bO]at a ⊢;exact .of_eq (b XZ a)
def v9(YR:kY)(c:aI)(XA:gT):Prop:=(∀(G:List (aq×a5)) (B:aZ) (j:ax) (m:au) (a:ag) (XM:au),aG c G B j m->YR c.stack j m XA a XM->c.cP a XM)
section
variable{c:aI}{YR:kY}{q:Nat}{F aL:aq}{fd:gZ}{XF:List aD}{YT:mI}{i:List ai}{D:List ag}{XA:gT}{e E:aD}{n XP YK:b9}{a o:aY}{P:List aY}{Yx:bL}{C:fk}
def QZ{y:cI}(N:iH c.prog c.w c.K c.aJ c.base YR q F fd XF YT)(f:e0 q c.A)(g:i9 c.K fd XF D)(hd:bN i D)(h:v9 YR c XA)(z:aG c G B j m)(p:bN Q XZ)(b:YT (Q++i) j y XA):wpAny (aN c.prog c.w) c.A (call (.ref F) XZ) (eA c G B y) c.cP m:=by
 have e:bN (Q++i) (XZ++D):=p.append hd;have k:(XZ++D).length=XF.length:=by rw[<-e.length];exact N.len _ _ _ _ b
 refine wpAny_call (qF (N.run c.A c.stack m j ⟨XZ,[]⟩ (XZ++D) (Q++i) y XA f z.T_ (g m XZ z.o6 k) e b) λp XM d=>?_);cases p with
 |error a=>exact h G B j m a XM z d
 |ok aW=>
  cases aW with
  |ret I=>exact z.after d
  |next=>exact False.elim d
  |brk=>exact False.elim d
  |cont=>exact False.elim d
def Vh(N:iH c.prog c.w c.K c.aJ c.base YR q F fd XF YT)(f:e0 q c.A)(g:fc c e)(h:c.aJ e=Z (.ref F))(k:Θ c.K (.ref F)=aa)(l:i9 c.K fd XF D)(hd:bN i D)(o:v9 YR c XA)(r:hp c (a::P) C)(t:(e==("__debug__" : aD))=aA:=by decide)(u:bD (a::P) c.env=(aA,bP a c.env)::bD P c.env:=by rfl)(v:(ep XP<|bD P c.env).any (·.1)=aA:=by rfl):
  bu c (.Call (.Name e n) (a::P) [] XP) (FW YT i XA C):=by
 intro G m B j y z b;refine ru (CV z g h ?_ t);refine PySem.W.callWith_K (h₀:=c.base) z.ok.mod.ze k (bK (r XP G m B j _ z b) λXZ E ⟨Q,XE,d,p,s⟩=>⟨d.o6,?_⟩) u v;exact QZ N f l hd o d p s
end
structure oJ(Yg XI:List aD)(T:hn):Prop where
 kind:T.kind=.function
 co:T.isCoroutine=aA
 gen:T.isGenerator=aA
 ae:Yg.Nodup
 pre:Yg.take XI.length=XI
 par:∀e∈XI,T.names.lookup e=Z .local\/T.names.lookup e=Z .cell
 Lq:∀A∈T.names,A.2≠.free
theorem GY{a:aD->Option c7}{e:aD}:∀{binds:List (aD×ag)}{E:aD->Option ag},(∀u,(e,u)∉binds)->bindL a binds E e=E e
 |[],_,_=>rfl
 | (v,u)::p,E,b=>by
  unfold bindL;rw[GY λH c=>b H<|kW _ c];split
  ·have:e≠v:=by rintro rfl;exact b u mP
   simp[this]
  ·rfl
theorem Dd{a:aD->Option c7}{e:aD}:∀{binds:List (aD×ag)}{E:aD->Option ag},(∀u,(e,u)∉binds)->bindC a binds E e=E e
 |[],_,_=>rfl
 | (v,u)::p,E,b=>by
  unfold bindC;rw[Dd λH c=>b H<|kW _ c];split
  ·rfl
  ·have:e≠v:=by rintro rfl;exact b u mP
   simp[this]
theorem Bz{a:aD->Option c7}{e:aD}{u:ag}:∀{XI:List aD}{Q:List ag}{h:Nat}{E:aD->Option ag},XI.Nodup->XI[h]?=Z e->Q[h]?=Z u->a e=Z .local->
  bindL a (XI.zip Q) E e=Z u
 |[],_,_,_,_,b,_,_=>by simp at b
 |_::_,[],_,_,_,_,b,_=>by simp at b
 |n::XI,H::Q,0,E,ae,l,t,c=>by
  simp at l t;subst l;subst t;show bindL a ((n,H)::XI.zip Q) E n=_;unfold bindL;rw[GY λu d=>(df.mp ae).1 (rh d).1,aF c];simp
 |n::XI,H::Q,h+1,E,ae,l,t,c=>by
  show bindL a ((n,H)::XI.zip Q) E e=_;unfold bindL;exact Bz (h:=h) (df.mp ae).2 ⇑l ⇑t c
theorem FP{a:aD->Option c7}{e:aD}{u:ag}:∀{XI:List aD}{Q:List ag}{h:Nat}{E:aD->Option ag},XI.Nodup->XI[h]?=Z e->Q[h]?=Z u->a e≠Z .local->
  bindC a (XI.zip Q) E e=Z u
 |[],_,_,_,_,b,_,_=>by simp at b
 |_::_,[],_,_,_,_,b,_=>by simp at b
 |n::XI,H::Q,0,E,ae,l,t,c=>by
  simp at l t;subst l;subst t;show bindC a ((n,H)::XI.zip Q) E n=_;unfold bindC;rw[Dd λu d=>(df.mp ae).1 (rh d).1,if_neg c];simp
 |n::XI,H::Q,h+1,E,ae,l,t,c=>by
  show bindC a ((n,H)::XI.zip Q) E e=_;unfold bindC;exact FP (h:=h) (df.mp ae).2 ⇑l ⇑t c
def start(Yg:List aD)(Q:List ai):aZ:=(Q.map Z++List.replicate (Yg.length-Q.length) V)
def lC(YR:kY)(XI:bB)(H:a9)(U:Φ)(aJ:aD->Option ag)(X9:aV)(Yg:List aD)(YI:aD)(X2:hn)(F:aq)(b:ag)(L:br)(Ys:List eQ)(m:au)(j:ax)(XA:gT):aI where
 prog:=XI
 w:=H
 K:=U
 aJ:=aJ
 base:=X9
 A:=L.deeper (jm YI X2 m.heap.objs.size F b)
 N:=Yg
 fa:=m
 mh:=j
 env:=jm YI X2 m.heap.objs.size F b
 outer:=Ys
 stack:=jm YI X2 m.heap.objs.size F b::Ys
 ex:=[]
 calm:=aa
 fn:=λ_=>aa
 j3:=[]
 cP:=λa XM=>wpAny (aN XI H) (L.deeper<|jm YI X2 m.heap.objs.size F b) (leaving (jm YI X2 m.heap.objs.size F b) a) (λ_ c=>YR Ys j m XA a c) (λd c=>YR Ys j m XA d c) XM
def FJ{T:hn}(b:T.names.lookup e=Z .cell):∃f,(zT v T.names []).lookup e=Z f:=by
 have s:=C8 T.names v [] (.inl b);exact zI.mp s
def Li{F:aq}{r:ag}{Ys:List eQ}{x:au}{XA:gT}(XC:oJ Yg XF X2)(hd:L.handled=V)(c:u_ XI H U aJ X9 L Ys m j)(G:Q.length=XF.length)(p:bN Q XZ)(e:InCallC m m.heap.objs.size (bindL (jm YI X2 m.heap.objs.size F r).kindOf (XF.zip XZ) λ_=>V) (zT (m.heap.objs.size+1) X2.names []) (bindC (jm YI X2 m.heap.objs.size F r).kindOf (XF.zip XZ) λ_=>V) x):
  aG (lC YR XI H U aJ X9 Yg YI X2 F r L Ys m j XA) [] (start Yg Q) j x:=by
 have J:XF.length<=Yg.length:=by have:=congrArg List.length XC.pre;rw[m5]at this;lia
 let⟨l,@Yb,rfl,y⟩:=e.done;have w:∀d:aq,d∉(lC YR XI H U aJ X9 Yg YI X2 F r L Ys m j XA).ex:=λd i=>absurd (show d∈([]:List aq) from i) ↥0;refine⟨⟨c.mod,XC.kind,rfl,rfl,bk _,λA i f l t=>?_,λA k=>?_,λA f Y b=>?_,λ_=>hd,br.frames_deeper c.frames,.inr ⟨rfl,rfl⟩,λd i=>absurd i<|w d,c.bs,c.l4,λd Y Y=>w d,λd i=>absurd i<|w d,c.i5,c.nH⟩,
  rfl,c.bare,eS.kept y,⟨_,e.toInCall.ns,λh A u l t M=>?_⟩,λA f b=>⟨_,e.cell A f b⟩,c.aU.fresh<|bk _,λA f b=>?_,λn o=>absurd (show n∈([]:List (aq×a5)) from o) ↥0,c.aU.kept y,?_⟩
 ·exact name_of_addr e.apart (PySem.mem_of_lookup l) (PySem.mem_of_lookup t)
 ·have k:X2.names.lookup A=Z .cell\/X2.names.lookup A=Z .free:=k;rcases k with k|k
  ·exact FJ k
  ·exact absurd rfl (XC.Lq _<|PySem.mem_of_lookup k)
 ·exact lA (e.above A f<|PySem.mem_of_lookup b)
 ·have XG:h<Q.length:=by
   unfold start at t;by_cases XG:h<Q.length
   ·exact XG
   ·rw[kZ ⇑XG]at t;rw[List.getElem?_replicate]at t;split at t<;>cases t
  have C:Q[h]?=Z u:=by
   unfold start at t;rw[n3 ⇑XG,ef]at t;cases a:Q[h]? with
   |none=>rw[a]at t;cases t
   |some g=>rw[a]at t;cases t;rfl
  let⟨@I,z,E⟩:=p.get C;have o:XF[h]?=Z A:=by
   rw[<-XC.pre,List.getElem?_take_of_lt ⋯];exact l
  have B:XF.Nodup:=by rw[<-XC.pre];exact XC.ae.sublist (Cm _ _)
  refine⟨I,E,?_⟩;rcases XC.par A (fi o) with q|q
  ·exact .inl ⟨q,Bz B o z q⟩
  ·let⟨@f,a⟩:=FJ (v:=m.heap.objs.size+1) q;refine .inr ⟨.inl q,f,a,?_⟩;have s:=e.cell A f a;rw[FP B o z (by show X2.names.lookup A≠_;rw[q];decide)]at s;exact s
 ·exact c.aU.fresh (lA<|e.above A f<|PySem.mem_of_lookup b)
 ·unfold start;show _=Yg.length;rw[cC,a6,List.length_replicate];lia
def Lc{F:aq}{name:aD}{h:Arguments}{k bR w X5 i cv t:ag}{T l:Option aq}{Y8:Array (Option ag)}{YT:mI}(lk:U.lookup F=Z ⟨t,l,.func<|Ψ name YI h YX X2 k bR w X5 T i cv,Y8⟩)(E:Δ U i YI=aa)(XC:oJ Yg XF X2)(len:∀Q j y XA,YT Q j y XA->Q.length=XF.length)(G:∀(L:br) (Ys:List eQ) (m:au) (j:ax) (Q:List ai) (y:cI) (XA:gT),e0 q (L.deeper<|jm YI X2 m.heap.objs.size F i)->YT Q j y XA->
   ∃C,hU (lC YR XI H U aJ X9 Yg YI X2 F i L Ys m j XA) YX C/\C {bA:=λ_ S=>y .aK S,eO:=y} (start Yg Q) j):
  iH XI H U aJ X9 YR (q+1) F (Ψ name YI h YX X2 k bR w X5 T i cv) XF YT:=by
 refine⟨len,λL Ys m j args XZ Q y XA f b J p n=>?_⟩;have M:=len _ _ _ _ n;have r:U.In m.heap:=b.mod.ze.keeps λd o a=>(b.bs d o a).1;have N:m.heap.NoLimit:=b.mod.nolimit.keeps λd o a=>(b.bs d o a).1;have O:∀A∈XF.zip XZ,X2.names.lookup A.1=Z .local\/(X2.names.lookup A.1=Z .cell/\((zT (m.heap.objs.size+1) X2.names []).lookup A.1).isSome=aa):=λ⟨v,u⟩ P=>by
  rcases XC.par v (rh P).1 with s|s
  ·exact .inl s
  ·exact .inr ⟨s,C8 _ _ _<|.inl s⟩
 refine codeAny_call_function f.depth (r _ _ lk) rfl XC.co XC.gen rfl (PySem.W.codeRec_of r E) (J _ _ _ _ ?_);refine wpAny_newFunctionEnv_cells XC.kind O λXx R x e=>?_;subst R;refine⟨N.keeps e.toInCall.keep,codeAny_func ?_⟩;let⟨@C,bV,al⟩:=G L Ys m j Q y XA (f.deeper _) n;have z:aG (lC YR XI H U aJ X9 Yg YI X2 F i L Ys m j XA) [] (start Yg Q) j x:=Li XC f.hd b M p e;refine gz (bV [] x (start Yg Q) j _ z al) (λaW XM XO=>?_) λa XM XO=>XO;have B:∀{c:aZ}{S:ax}{u:ai}{I:ag},aG (lC YR XI H U aJ X9 Yg YI X2 F i L Ys m j XA) [] c S XM->bU u I->y u S->yw Ys XI H j m y I XM:=
  λ{c S u I} YB g s=>⟨u,S,YB.os,YB.bare,YB.base,YB.aU,g,s⟩;cases aW with
 |ret I=>
  let⟨u,c,@S,YB,g,s⟩:=XO;exact B YB g s
 |next=>
  let⟨c,@S,YB,s⟩:=XO;exact B (u:=ai.aK) (I:=ag.none) YB rfl s
 |brk=>
  let⟨Y,@Y,Y,s⟩:=XO;exact False.elim s
 |cont=>
  let⟨Y,@Y,Y,s⟩:=XO;exact False.elim s
section
variable{c:aI}{e:aD}{n XP:b9}{a:aY}{P:List aY}{C:fk}{id T:String}{p:List ai->ax->cI->Prop}
def I2(p:List ai->ax->cI->Prop)(C:fk):bL:=(λB j y=>C B j λQ XE=>p Q XE y)
def Ht(d:eK c (.builtin id) p)(f:fc c e)(g:c.aJ e=V)(h:fb e=Z (.builtin id))(i:hp c (a::P) C)(k:e ≠ "__name__" := by decide)(l:(e==("__debug__" : aD))=aA:=by decide)(o:bD (a::P) c.env=(aA,bP a c.env)::bD P c.env:=by rfl)(q:(ep XP<|bD P c.env).any (·.1)=aA:=by rfl):bu c (.Call (.Name e n) (a::P) [] XP) (I2 p C):=by
 intro G m B j y z b;refine ru (nX z f g h ?_ k l);exact GF (bK (i XP G m B j _ z b) λXZ r ⟨Q,XE,s,t,u⟩=>d G r B XE Q XZ y s t u) o q
def K4(d:eK c (.type T) p)(f:fc c e)(g:c.aJ e=V)(h:fb e=Z (.type T))(i:hp c (a::P) C)(k:e ≠ "__name__" := by decide)(l:(e==("__debug__" : aD))=aA:=by decide)(o:bD (a::P) c.env=(aA,bP a c.env)::bD P c.env:=by rfl)(q:(ep XP<|bD P c.env).any (·.1)=aA:=by rfl):bu c (.Call (.Name e n) (a::P) [] XP) (I2 p C):=by
 intro G m B j y z b;refine ru (nX z f g h ?_ k l);exact tk (bK (i XP G m B j _ z b) λXZ r ⟨Q,XE,s,t,u⟩=>d G r B XE Q XZ y s t u) o q
end
end L2
namespace di
open PyProof.Rows
variable{XG XB:Option Int}{i bY:ag}{aR C:aq}{y:ag->au->Prop}
theorem M9(L:br)(m:au)(g:Int)(C:hT)(f:Int)(I:hT)(XJ:bB)(H:a9)(XA:ag->au->Prop)(y:ag->au->Prop)(b:y (.bool<|decide (g<f)) m):
  wpAny (aN XJ H) L (kX .Lt (.int g C)<|.int f I) y XA m:=
 (Nx b:wpAny (aN XJ H) L (eL .Lt (.int g C)<|.int f I) y XA m)
section
open PySem.SeqAt
open PySem.AutoSeq1 (wpAny_loadPart')
open PySem.MeetsSeq PySem.MeetsSeq2 PySem.MeetsSeq3
end
section
variable{XJ:bB}{H:a9}{L:br}{XA:ag->au->Prop}{m:au}
def RP{d:aq}{Q b:List ag}(bV:nh m.heap C Q.toArray)(p:nh m.heap d b.toArray)(g:Q≠[])(l:b=[]->y (.ref C) m)(t:b≠[]->y (.ref m.heap.objs.size) {m with heap:=m.heap.push {cls:=.type "tuple",data:=.seq (Q++b).toArray} })(q:Q.length+b.length<=sizeLine):wpAny (aN XJ H) L (e5 .Add (.ref C)<|.ref d) y XA m:=by
 let⟨@⟨cls,h,data,aR⟩,c,i,⟨@v,hd⟩⟩:=id bV;let⟨@⟨r,j,data2,k⟩,e,n,⟨@YN,o⟩⟩:=id p;simp only at i hd n o;subst i hd n o;have a:Q.toArray++b.toArray=(Q++b).toArray:=by simp
 by_cases f:b=[]
 ·exact yW ⟨_,c,rfl⟩ ⟨_,e,rfl⟩ zi zQ y0 yL (yE _ _)
   (tuple_addW1 C d Q.toArray b.toArray v YN h j aR k ⇑g (by simp[f])) ⟨c,e,l f⟩
 ·refine yW ⟨_,c,rfl⟩ ⟨_,e,rfl⟩ zi zQ y0 yL (yE _ _)
   (tuple_addW2 C d Q.toArray b.toArray v YN h j aR k ⇑g ⇑f (by rw[cK,cK];exact q)) ⟨c,e,?_⟩;rw[a];exact t f
def cu(v r:Nat):Option Int->Nat
 |none=>r
 |some u=>if u<0 then (u+(v:Int)).toNat else min u.toNat v
def Eg(v r:Nat):cu v r V=r:=rfl
def E7(v r q:Nat):cu v r (Z (q:Int))=min q v:=by
 show (if (q:Int)<0 then ((q:Int)+(v:Int)).toNat else min (q:Int).toNat v)=min q v;rw[if_neg ⋯,j5]
def OI(v r:Nat)(hd:r<=v)(o:Option Int):cu v r o<=v:=by
 cases o with
 |none=>exact hd
 |some u=>
  show (if u<0 then (u+(v:Int)).toNat else min u.toNat v)<=v;by_cases a:u<0
  ·rw[aF a];lia
  ·rw[if_neg a];exact Ik _ _
def EP(u:Int)(v r:Nat):(if u<0 then max (u+(v:Int)) 0 else min u (v:Int))=((cu v r (Z u):Nat):Int):=by
 show (if u<0 then max (u+(v:Int)) 0 else min u (v:Int))=(((if u<0 then (u+(v:Int)).toNat else min u.toNat v):Nat):Int);by_cases a:u<0
 ·simp only[aF a];lia
 ·simp only[if_neg a];lia
def Vg(XB XG:Option Int)(v:Nat):bc.Slice.sliceAdjust XB XG 1 (v:Int)=(((cu v 0 XB:Nat):Int),((cu v v XG:Nat):Int)):=by
 have l:¬ ((1:Int)<0):=⋯
 unfold bc.Slice.sliceAdjust;simp only[l,eR];refine lz ?_ ?_
 ·cases XB with
  |none=>rfl
  |some u=>exact EP u v 0
 ·cases XG with
  |none=>rfl
  |some u=>exact EP u v v
def VH(h k:Nat):bc.Slice.slicePlaces (h:Int) (k:Int) 1=k-h:=by
 unfold bc.Slice.slicePlaces;have l:(1:Int)>0:=⋯
 simp only[l,hl,Int.ediv_one];split<;>lia
def BV{u:ag}{o:Option Int}{y:Option Int->au->Prop}(n:kT u o)(b:y o m):wpAny (aN XJ H) L (bc.Slice.slicePartIndex u) y XA m:=by
 cases n with
 |none=>exact KN b
 |int h C=>exact slicePart_int b
def CT{v:Nat}{y:Int×Int×Nat->au->Prop}(XO:m.heap.IsSliceOf aR bY i .none)(bl:kT bY XB)(d:kT i XG)(b:y (((cu v 0 XB:Nat):Int),1,cu v v XG-cu v 0 XB) m):wpAny (aN XJ H) L (bc.Slice.sliceApplied (.ref aR)<|pure (v:Int)) y XA m:=by
 let⟨@XU,a,f,c⟩:=id XO;unfold bc.Slice.sliceApplied bc.Slice.sliceFields;refine aw (aw<|wq a c (x:=bY) rfl<|aw<|wq a c (x:=i) rfl<|aw<|wq a c (x:=.none) rfl<|aM ?_);refine aw (KN ?_);show wpAny _ _ (if ((1:Int)==0)=aa then _ else _) _ _ m;rw[if_neg ∅];refine aw (BV bl<|aw<|BV d<|aw<|aM ?_);show wpAny _ _ (match bc.Slice.sliceAdjust XB XG 1 (v:Int) with|(XB,XG)=>pure (XB,(1:Int),bc.Slice.slicePlaces XB XG 1)) _ _ m;rw[Vg XB XG v];show wpAny _ _ (pure (((cu v 0 XB:Nat):Int),(1:Int),bc.Slice.slicePlaces ((cu v 0 XB:Nat):Int) ((cu v v XG:Nat):Int) 1)) _ _ m;rw[VH];exact aM b
def N7(x:Array ag)(h q:Nat):((range q).filterMap λ(E:Nat)=>x[((h:Int)+(E:Int)*1).toNat]?).toArray=((x.toList.drop h).take q).toArray:=by
 have a:(λ(E:Nat)=>x[((h:Int)+(E:Int)*1).toNat]?)=λE=>x[h+E]?:=by
  funext E;have:((h:Int)+(E:Int)*1).toNat=h+E:=⋯
  rw[this]
 rw[a];have:=pick_run x h q;rw[List.filterMap_map]at this;have b:((λe=>x[e]?) ∘ λe=>h+e)=λE=>x[h+E]?:=rfl;rw[b]at this;rw[this]
def PH{X1:Array ag}(bV:nh m.heap C X1)(XO:m.heap.IsSliceOf aR bY i .none)(bl:kT bY XB)(c:kT i XG)(d:¬ (cu X1.size 0 XB=0/\cu X1.size X1.size XG=X1.size))(b:y (.ref m.heap.objs.size) {m with heap:=m.heap.push {cls:=.type "tuple",data:=.seq ((X1.toList.drop<|cu X1.size 0 XB).take<|cu X1.size X1.size XG-cu X1.size 0 XB).toArray} })(j:X1.size<=sizeLine):wpAny (aN XJ H) L (ke (.ref C)<|.ref aR) y XA m:=by
 have a:sizeOk (.seq ((X1.toList.drop<|cu X1.size 0 XB).take<|cu X1.size X1.size XG-cu X1.size 0 XB).toArray):=by
  show ((X1.toList.drop<|cu X1.size 0 XB).take<|cu X1.size X1.size XG-cu X1.size 0 XB).toArray.size<=sizeLine;rw[cK,m5,m1,dA];lia
 have k:cu X1.size X1.size XG<=X1.size:=OI _ _ (bk _) XG;let⟨@XU,e,f,l⟩:=id XO;have g:m.TypeIs (.ref aR) "slice" := ⟨XU,e,f⟩;unfold ke;try with_reducible refine fS ?_
 first|refine aw (aM ?_)|skip
 refine aw (EV bV.typeIs ∅ ?_);refine aw (q0 (name:=aD.ofString "__getitem__") bV.typeIs pA
  (iF pA bV.typeIs Hr ?_<|GW _ _));show wpAny _ _ (bc.Tuple.tupleItemsOf (.ref C) >>= _) _ _ m;refine aw (E0 bV ?_);refine aw (l7 g ?_);rw[aF ∅];refine aw (CT XO bl c ?_);have h:¬ ((((cu X1.size 0 XB:Nat):Int)==0&&(1:Int)==1&&(cu X1.size X1.size XG-cu X1.size 0 XB)==X1.size)=aa):=by
  intro s;rw[cq,cq]at s;have n:((cu X1.size 0 XB:Nat):Int)=0:=eq_of_beq s.1.1;have o:cu X1.size X1.size XG-cu X1.size 0 XB=X1.size:=eq_of_beq s.2;exact d ⟨⋯,⋯⟩
 show wpAny _ _ (if (((cu X1.size 0 XB:Nat):Int)==0&&(1:Int)==1&&(cu X1.size X1.size XG-cu X1.size 0 XB)==X1.size)=aa then _ else _) _ _ m;rw[if_neg h,N7];first
  | exact aw (m:=bc.Tuple.tupleExact _) (gF (aM ⟨_,rfl,aM b⟩) a)
  | exact aw (m:=bc.Tuple.tupleExact _) (gF (aw<|aM<|aM ⟨_,rfl,aM b⟩) a)
  | exact aw (aw (m:=bc.Tuple.tupleExact _)<|gF (aM<|aM ⟨_,rfl,aM b⟩) a)
  | exact aw (aw (m:=bc.Tuple.tupleExact _)<|gF (aM ⟨_,rfl,aM b⟩) a)
end
end di
namespace L2
open Spec PyProof.Rows
variable{Y5:List (bL×bL)}{g n:aq}{c:aI}{XP:b9}{y:ag->au->Prop}{L:br}{S j:ax}{Xy:List (List X×ai)}{H:a9}{XI:bB}{I:Option ag}{o:Option ai}{Yc v:Nat}{T:String}{w XN XZ:List ag}{m:au}{B:aZ}{G:List (aq×a5)}{p:bJ}{XR:Type}{h:Int}{x:List (List X×aq×ag)}
abbrev mJ:=aZ->ax->(Option Int->ax->Prop)->Prop
def Dn(c:aI)(a:Option aY)(C:mJ)(G:List (aq×a5)):Prop:=(
 ∀(m:au) (B:aZ) (j:ax) (y:Option Int->ax->Prop),aG c G B j m->C B j y->
  wpAny (aN c.prog c.w) c.A (evalPart a c.env) (λI XM=>∃o S,aG c G B S XM/\kT I o/\y o S) c.cP m)
def px(c:aI)(a:Option aY)(C:mJ):Prop:=(∀G,Dn c a C G)
def U6:mJ:=(λ_ j y=>y V j)
def QO(C:bL):mJ:=(λB j y=>C B j λe XE=>∃h,e=.int h/\y (Z h) XE)
section
variable{c:aI}{a:aY}{YQ:bL}{XB XG:Option aY}{E D:mJ}{XP YG:b9}
def VI:px c V U6:=by
 intro G m B j y z b;rw[B8];exact aM ⟨V,j,z,.none,b⟩
def Qc(b:bu c a YQ):px c (Z a) (QO YQ):=by
 intro G m B j y z d;rw[evalPart_some];refine bK (b G m B j _ z d) λI l f=>?_;let⟨e,@XE,g,i,k⟩:=f;let⟨@h,rfl,s⟩:=k;let⟨@C,rfl⟩:=i;exact⟨Z h,XE,g,.int h C,s⟩
def r1(c:aI)(p:ai->Option Int->Option Int->ax->cI->Prop):Prop:=(
 ∀(G:List (aq×a5)) (m:au) (B:aZ) (j:ax) (e:ai) (u bY i:ag) (XB XG:Option Int) (aR:aq) (y:cI),aG c G B j m->bU e u->m.heap.IsSliceOf aR bY i .none->kT bY XB->kT i XG->p e XB XG j y->
  ∃T id,uZ (.type T) "__getitem__" = pure (Z<|.builtin id)/\m.TypeIs u T/\wpAny (aN c.prog c.w) c.A (ke u<|.ref aR) (eA c G B y) c.cP m)
def L8(p:ai->Option Int->Option Int->ax->cI->Prop)(YQ:bL)(E D:mJ):bL:=(λB j y=>YQ B j λe XE=>E B XE λJ XS=>D B XS λI a=>p e J I a y)
def MH{p:ai->Option Int->Option Int->ax->cI->Prop}(k:r1 c p)(l:bu c a YQ)(n:px c XB E)(o:px c XG D):bu c (.Subscript a (.Slice XB XG V YG) XP) (L8 p YQ E D):=by
 intro G m B j y z b;refine xB (bK (l G m B j _ z b) λu q g=>?_);let⟨e,@XE,r,t,v⟩:=g;refine wpAny_Slice (bK (n G q B XE _ r v) λbY x ⟨J,XS,C,bl,F⟩=>bK (o G x B XS _ C F) λi f g=>?_);let⟨I,@h,M,N,O⟩:=g;rw[B8];refine aM ?_;have P:aG c G B h {f with heap:=f.heap.push {cls:=.type "slice",data:=.fields #[bY,i,.none]} }:=M.kept (Yc:=f.toks) λd Yo s=>cw _ s;let⟨T,@id,Q,bV,R⟩:=k G {f with heap:=f.heap.push {cls:=.type "slice",data:=.fields #[bY,i,.none]} } B h e u bY i J I f.heap.objs.size y P t (aV.IsSliceOf.new ..) bl N O;show wpAny (aN c.prog c.w) c.A (yQ a (.Slice XB XG V YG) u<|.ref f.heap.objs.size) (eA c G B y) c.cP {f with heap:=f.heap.push {cls:=.type "slice",data:=.fields #[bY,i,.none]} };exact tail_any (ops:=[.ref f.heap.objs.size,u]) bV Q R (by with_unfolding_all rfl)
def me(x:List ai)(XB XG:Option Int):List ai:=((x.drop<|di.cu x.length 0 XB).take (di.cu x.length x.length XG-di.cu x.length 0 XB))
def EA(x:List ai)(XB XG:Option Int):(me x XB XG).length<=x.length:=by
 unfold me;rw[m5,m1];lia
def U3(U:Φ):ai->Option Int->Option Int->ax->cI->Prop:=(λe XB XG j y=>∃g x,e=.ref g/\da U j g x/\
 ¬ (di.cu x.length 0 XB=0/\di.cu x.length x.length XG=x.length)/\∀n,j n=V->y (.ref n) (upd j n<|.tup<|me x XB XG))
def RD:r1 c (U3 c.K):=by
 intro G m B j e u bY i XB XG aR y z h XO bl k b;let⟨g,@x,rfl,l,n,s⟩:=b;cases h;let⟨@XN,p,bV,f⟩:=z.tuple l;have a:XN.toArray.size=x.length:=by rw[cK];exact p.length.symm
 refine⟨"tuple",_,pA.lookup,bV.typeIs,?_⟩;refine di.PH bV XO bl k (by rw[a];exact n) ?_ (by rw[a];exact f);rw[a];refine⟨.ref m.heap.objs.size,_,z.laid (Yc:=m.toks) (o:=.tup (me x XB XG)) (λd Yo s=>cw _ s) (bk _) ?_,rfl,s _<|z.aU.fresh<|bk _⟩;exact⟨dg (EA x XB XG) f,_,(p.drop<|di.cu x.length 0 XB).take<|di.cu x.length x.length XG-di.cu x.length 0 XB,mL.new _ _⟩
def R8(U:Φ):bJ:=(λe A j y=>∃g d x XW,e=.ref g/\A=.ref d/\da U j g x/\da U j d XW/\x≠[]/\x.length+XW.length<=sizeLine/\
 (XW=[]->y (.ref g) j)/\(XW≠[]->∀n,j n=V->y (.ref n) (upd j n<|.tup<|x++XW)))
def bN.vy{x:List ai}(p:bN x XZ):XZ=[]↔x=[]:=by
 cases p with
 |nil=>simp
 |cons _ _=>simp
def LM:dU c (e5 .Add) (R8 c.K):=by
 intro G m B j e A u I y z k l b;let⟨g,d,x,@XW,rfl,rfl,n,p,q,h,r,t⟩:=b;cases k;cases l;let⟨@XN,f,v,Y⟩:=z.tuple n;let⟨@w,a,YG,Y⟩:=z.tuple p;refine di.RP v YG (λi=>q<|f.vy.mp i) (λi=>⟨.ref g,j,z,rfl,r<|a.vy.mp i⟩) (λi=>?_) (by rw[<-f.length,<-a.length];exact h);refine⟨.ref m.heap.objs.size,_,z.laid (Yc:=m.toks) (o:=.tup (x++XW)) (λd Yo s=>cw _ s) (bk _) ?_,rfl,t (λH=>i<|a.vy.mpr H) _<|z.aU.fresh<|bk _⟩;exact⟨by rw[cC];exact h,_,f.append a,mL.new _ _⟩
end
def jP(v:Nat)(h:Int):Option Nat:=(if 0<=h then (if h<v then Z h.toNat else V) else if -(v:Int)<=h then Z (h+v).toNat else V)
def ed{XR:Type}(x:List XR)(h:Int):Option XR:=((jP x.length h).bind λk=>x[k]?)
def BG{k:Nat}(b:jP v h=Z k):zh h v=Z k/\k<v /\ -(v:Int)<=h/\h<v:=by
 unfold jP at b;by_cases c:0<=h
 ·rw[aF c]at b;by_cases l:h<v
  ·rw[aF l]at b;have a:h.toNat=k:=Option.some.inj b;exact⟨by rw[tL c l,a],⋯,⋯,l⟩
  ·rw[if_neg l]at b;cases b
 ·rw[if_neg c]at b;by_cases l : -(v:Int)<=h
  ·rw[aF l]at b;have a:(h+v).toNat=k:=Option.some.inj b;exact⟨by rw[za ⋯ l,a],⋯,l,⋯⟩
  ·rw[if_neg l]at b;cases b
def CR{x:List XR}{u:XR}(b:ed x h=Z u):∃k,zh h x.length=Z k/\x[k]?=Z u/\k<x.length /\ -(x.length:Int)<=h/\h<x.length:=by
 unfold ed at b;cases a:jP x.length h with
 |none=>rw[a]at b;cases b
 |some k=>
  rw[a]at b;let@⟨l,t,c,d⟩:=BG a;exact⟨k,l,b,t,c,d⟩
def rH(d:aY):Prop:=(∀o h,subscripted d aA o h=operate [o,h] (ke o h))
def iU(c:aI)(p:bJ):Prop:=(
 ∀(Y2 a:aY) (G:List (aq×a5)) (m:au) (B:aZ) (j:ax) (e A:ai) (u I:ag) (y:cI),aG c G B j m->bU e u->bU A I->p e A j y->
  subscripted a aA u I=operate [u,I] (ke u I)->wpAny (aN c.prog c.w) c.A (yQ Y2 a u I) (eA c G B y) c.cP m)
def od(c:aI)(id:String)(p:ai->List ai->ax->cI->Prop):Prop:=(
 ∀(G:List (aq×a5)) (m:au) (B:aZ) (j:ax) (e:ai) (x:List ai) (u:ag) (XZ:List ag) (y:cI),aG c G B j m->bU e u->bN x XZ->p e x j y->
  wpAny (aN c.prog c.w) c.A (call (.builtin id) (u::XZ)) (eA c G B y) c.cP m)
section
variable{c:aI}{g d:aY}{Yx Yd:bL}{XP:b9}
def iU.or{Yr:bJ}(b:iU c p)(ah:iU c Yr):iU c (λe A j y=>p e A j y\/Yr e A j y):=by
 intro Y2 a G m B j e A u I y z d f s XO;rcases s with s|s
 ·exact b Y2 a G m B j e A u I y z d f s XO
 ·exact ah Y2 a G m B j e A u I y z d f s XO
def F2(a:iU c p)(f:bu c g Yx)(h:bu c d Yd)(XO:rH d):bu c (.Subscript g d XP) (vr p Yx Yd):=by
 intro G m B j y z b;exact xB (yv f h z b λu I i e A XS k l n s=>a g d G i B XS e A u I y k l n s<|XO _ _)
def Rr(U:Φ):bJ:=(λe A j y=>∃n x h u,e=.ref n/\A=.int h/\dm U j n x/\ed x h=Z u/\y u j)
def MN(U:Φ):bJ:=(λe A j y=>∃n x h u,e=.ref n/\A=.int h/\da U j n x/\ed x h=Z u/\y u j)
def Wr:iU c (Rr c.K):=by
 intro Y2 J G m B j e A u I y z o q b XO;let⟨n,x,h,@i,rfl,rfl,r,v,s⟩:=b;cases o;let⟨@C,rfl⟩:=q;let⟨@XN,p,bl,L⟩:=z.list r;let⟨@k,l,t,M,w,D⟩:=CR v;let⟨@H,d,E⟩:=p.get t;have F:=p.length;have N:=oF;have f:eA c G B y H m:=⟨i,j,z,E,s⟩;by_cases g:0<=h
 ·have a:h.toNat=k:=by
   rw[tL g D]at l;exact Option.some.inj l
  exact item_listR bl.isList g ⋯ (by rw[a];simpa using d) f XO
 ·have a:(h+(XN.toArray.size:Int)).toNat=k:=by
   rw[za ⋯ w]at l;rw[cK,<-F];exact Option.some.inj l
  exact It (x:=H) bl.isList.typeIs IE.lookup
   (wpAny_getItem_list_neg (Q:=λp XM=>p=H/\eA c G B y p XM) bl.isList ⋯ (by rw[cK]<;>lia) ⋯ (by rw[a];simpa using d) ⟨rfl,f⟩) XO
def Sl:iU c (MN c.K):=by
 intro Y2 w G m B j e A u I y z a d b XO;let⟨n,x,h,@i,rfl,rfl,f,g,s⟩:=b;cases a;let⟨@C,rfl⟩:=d;let⟨@XN,p,bl,D⟩:=z.tuple f;let⟨@k,l,t,E,F,J⟩:=CR g;let⟨@H,o,q⟩:=p.get t;have r:=p.length;have L:=oF;have v:eA c G B y H m:=⟨i,j,z,q,s⟩;exact It (x:=H) bl.typeIs slot_tuple_getitem.lookup
  (getItem_tuple (j:=k) (Q:=λp XM=>p=H/\eA c G B y p XM) bl ⋯ ⋯ (by rw[cK,<-r];exact l) ⇑o ⟨rfl,v⟩) XO
def RN(XN:List ag)(v k:Nat)(I:ag):a5.mapSeq (·.setIfInBounds k I) {cls:=.type "list",data:=.seq XN.toArray v}={cls:=.type "list",data:=.seq (XN.set k I).toArray v}:=by
 simp[a5.mapSeq]
variable{x:List ai}
def aG.lst(z:aG c G B j m)(b:j n=Z (.lst x)):
  ∃(XN:List ag) (v:Nat),bN x XN/\m.heap.get? n=Z {cls:=.type "list",data:=.seq XN.toArray v}/\x.length<=sizeLine:=by
 let@⟨i,⟨XN,@v,p,a⟩⟩:=z.aU n _ b;exact⟨XN,v,p,a,i⟩
def aG.S0{XW:List ai}{f:Nat}{F:a5->a5}(z:aG c G B j m)(b:j n=Z (.lst x))(h:m.heap.get? n=Z {cls:=.type "list",data:=.seq XN.toArray v})(g:F {cls:=.type "list",data:=.seq XN.toArray v}={cls:=.type "list",data:=.seq w.toArray f})(p:bN XW w)(i:XW.length<=sizeLine)(C:Nat):
  aG c G B (upd j n<|.lst XW) {m with heap:=m.heap.update n F,toks:=C}:=by
 have a:(m.heap.update n F).get? n=Z {cls:=.type "list",data:=.seq w.toArray f}:=by
  rw[jB F h (by rw[g]<;>rfl),g]
 refine z.write (e:=n) (a:=n) (by rw[b];trivial) (.inl rfl) (λd I k s=>(gM _ _<|dn k).trans s) ⟨_,a⟩ ?_;exact⟨i,w,f,p,a⟩
def RX:ai->ai->ai->ax->(ax->Prop)->Prop:=(λo h u j y=>∃n x q k,o=.ref n/\h=.int q/\j n=Z (.lst x)/\jP x.length q=Z k/\y (upd j n<|.lst<|x.set k u))
def Q9:AE c RX:=by
 intro G m B j o h u J L I y z A D E b;let⟨n,x,q,@k,rfl,rfl,f,F,s⟩:=b;cases A;let⟨@C,rfl⟩:=D;let⟨XN,@v,p,a,H⟩:=z.lst f;let@⟨l,t,g,i⟩:=BG F;have d:=p.length;have M:=oF;have r:aG c G B (upd j n<|.lst<|x.set k u) {m with heap:=m.heap.update n (a5.mapSeq (·.setIfInBounds k I))}:=
  z.S0 f a (RN XN v k I) (p.set E k) (by rw[tv];exact H) m.toks;by_cases w:0<=q
 ·have e:q.toNat=k:=by
   rw[tL w i]at l;exact Option.some.inj l
  exact PySem.W.ki_setAt a w ⋯ (by rw[cK,<-d];exact i) (by rw[e];exact⟨_,r,s⟩)
 ·have e:(q+(XN.toArray.size:Int)).toNat=k:=by
   rw[za ⋯ g]at l;rw[cK,<-d];exact Option.some.inj l
  exact PySem.W.ki_setBack a ⋯ (by rw[cK,<-d];exact g) ⋯ (by rw[e];exact⟨_,r,s⟩)
def WN(XB XG:Option Int)(v:Nat):(nz XB XG V v).1=((di.cu v 0 XB:Nat):Int)/\(nz XB XG V v).2.1=((di.cu v v XG:Nat):Int)/\(nz XB XG V v).2.2=1:=by
 refine⟨?_,?_,rfl⟩
 ·cases XB with
  |none=>simp[nz,di.cu]
  |some h=>
   simp only[nz,di.cu,Hm,show (1:Int)>0 by decide,hl];by_cases b:h<0
   ·simp only[b,hl]<;>lia
   ·simp only[b,eR]<;>lia
 ·cases XG with
  |none=>simp[nz,di.cu]
  |some h=>
   simp only[nz,di.cu,Hm,show (1:Int)>0 by decide,hl];by_cases b:h<0
   ·simp only[b,hl]<;>lia
   ·simp only[b,eR]<;>lia
def KZ(XN:List ag)(XB XG:Option Int):slicePick XN.toArray XB XG V=((XN.drop<|di.cu XN.length 0 XB).take<|di.cu XN.length XN.length XG-di.cu XN.length 0 XB).toArray:=by
 let@⟨l,t,a⟩:=WN XB XG XN.toArray.size;unfold slicePick;rw[l,t,a];simp only[sliceRange_one,pick_run,cK]<;>rfl
def NV(U:Φ):ai->Option Int->Option Int->ax->cI->Prop:=(λe XB XG j y=>∃g x,e=.ref g/\dm U j g x/\∀n,j n=V->y (.ref n) (upd j n<|.lst<|me x XB XG))
def Gu:r1 c (NV c.K):=by
 intro G m B j e u bY i XB XG aR y z a XO bl f b;let⟨g,@x,rfl,h,s⟩:=b;cases a;let⟨@XN,p,bV,k⟩:=z.list h;have l:=p.length;refine⟨"list",_,IE.lookup,bV.isList.typeIs,?_⟩;refine wpAny_getItem_list_slice bV.isList XO bl f .none ↥0 ?_ (by rw[cK]<;>lia);rw[KZ,<-l];refine⟨.ref m.heap.objs.size,_,z.laid (Yc:=m.toks) (o:=.lst (me x XB XG)) (λd Yo s=>cw _ s) (bk _) ?_,rfl,s _<|z.aU.fresh<|bk _⟩;exact⟨dg (EA x XB XG) k,_,0,(p.drop<|di.cu x.length 0 XB).take<|di.cu x.length x.length XG-di.cu x.length 0 XB,dE _ rfl⟩
def Tw:eK c (.builtin "len") (λx j y=>∃n XW,x=[.ref n]/\(dm c.K j n XW\/da c.K j n XW)/\y (.int XW.length) j):=by
 intro G m B j x XZ y z p b;let⟨n,@XW,rfl,a,s⟩:=b;let⟨@I,rfl,e⟩:=hD p;cases e;have g:=oF;rcases a with a|a
 ·let⟨@XN,Yr,bl,f⟩:=z.list a;have d:=Yr.length;exact Calls.call_len_list bl.isList (by simp only[cK]<;>lia) ⟨.int XW.length,j,z.tok _,⟨m.toks+1,by rw[cK,d]⟩,s⟩
 ·let⟨@XN,Yr,bl,f⟩:=z.tuple a;have d:=Yr.length;exact len_tuple bl (by simp only[cK]<;>lia) ⟨.int XW.length,j,z.tok _,⟨m.toks+1,by rw[cK,d]⟩,s⟩
def K8:eK c (.builtin "len") (λx j y=>∃i,x=[.str i]/\i.length<=sizeLine/\y (.int i.length) j):=by
 intro G m B j x XZ y z p b;let⟨@i,rfl,a,s⟩:=b;let⟨@I,rfl,⟨@C,rfl⟩⟩:=hD p;have d:=oF;exact len_str ⋯ ⟨.int i.length,j,z.tok _,⟨_,rfl⟩,s⟩
def eK.or{F:ag}{p Yr:List ai->ax->cI->Prop}(b:eK c F p)(ah:eK c F Yr):eK c F (λx j y=>p x j y\/Yr x j y):=by
 intro G m B j x XZ y z X3 s;rcases s with s|s
 ·exact b G m B j x XZ y z X3 s
 ·exact ah G m B j x XZ y z X3 s
def OR:eK c (.type "list") (λx j y=>∃n XW,x=[.ref n]/\(dm c.K j n XW\/da c.K j n XW)/\∀J,j J=V->y (.ref J) (upd j J<|.lst XW)):=by
 intro G m B j x XZ y z p b;let⟨n,@XW,rfl,f,s⟩:=b;let⟨@I,rfl,l⟩:=hD p;cases l;have k:∀(XN:List ag),bN XW XN->XW.length<=sizeLine->∀(ah:aV) (e:Nat),(∀d Yy,m.heap.get? d=Z Yy->ah.get? d=Z Yy)->
   ah.get? m.heap.objs.size=Z {cls:=.type "list",dict:=V,data:=.seq XN.toArray e,slots:=#[]}->eA c G B y (.ref m.heap.objs.size) {m with heap:=ah}:=λXN Yr g ah e b3 a=>
  ⟨.ref m.heap.objs.size,_,z.laid (Yc:=m.toks) b3 (bk _)<|show en c.prog c.w _ ah _ (.lst XW) from ⟨g,XN,e,Yr,a⟩,rfl,s _<|z.aU.fresh<|bk _⟩;rcases f with f|f
 ·let⟨@XN,Yr,bl,g⟩:=z.list f;have q:=Yr.length;let⟨@o,h,i,⟨@v,hd⟩⟩:=bl.isList;exact GV n (.inl rfl) h i hd (λah e b3 a=>k XN Yr g ah e b3 a) (by simp only[cK]<;>lia)
 ·let⟨@XN,Yr,bl,g⟩:=z.tuple f;have q:=Yr.length;let⟨@o,h,i,⟨@v,hd⟩⟩:=bl;exact GV n (.inr rfl) h i hd (λah e b3 a=>k XN Yr g ah e b3 a) (by simp only[cK]<;>lia)
def RZ:eK c (.type "tuple") (λx j y=>∃n XW,x=[.ref n]/\((dm c.K j n XW/\∀J,j J=V->y (.ref J) (upd j J<|.tup XW))\/(da c.K j n XW/\y (.ref n) j))):=by
 intro G m B j x XZ y z p b;let⟨n,@XW,rfl,b⟩:=b;let⟨@I,rfl,h⟩:=hD p;cases h;rcases b with ⟨e,s⟩|⟨e,s⟩
 ·let⟨@XN,Yr,bl,f⟩:=z.list e;have k:=Yr.length;refine call_tuple_list bl.isList (λah b3=>?_) (by simp only[cK]<;>lia);have g:aG c G B j {m with heap:=ah}:=z.kept (Yc:=m.toks) b3;have i:aG c G B (upd j ah.objs.size<|.tup XW) {m with heap:=ah.push {cls:=.type "tuple",data:=.seq XN.toArray} }:=
   g.laid (Yc:=m.toks) (λd o a=>cw _ a) (bk _) (show en c.prog c.w _ _ _ (.tup XW) from ⟨f,XN,Yr,mL.new _ _⟩);exact⟨.ref ah.objs.size,_,i,rfl,s _<|g.aU.fresh<|bk _⟩
 ·let⟨@XN,Yr,bl,f⟩:=z.tuple e;exact call_tuple_same bl ⟨.ref n,j,z,rfl,s⟩
def lM(U:Φ)(T:String)(e:ai)(j:ax):Prop:=(match e with
 |.str _=>T = "str"
 |.int _=>T = "int"
 |.ref n=>(T = "list" /\ ∃x,dm U j n x)\/(T = "tuple" /\ ∃o,U.lookup n=Z o/\o.cls=.type "tuple" /\ o.dict=V)\/
   (T = "dict" /\ ((∃Xy,j n=Z (.cb Xy))\/∃Xy,j n=Z (.aE Xy)))\/(T = "set" /\ ∃XC v,j n=Z (.set XC v))
 |_=>False)
def Ke{e:ai}{u:ag}(z:aG c G B j m)(p:bU e u)(ty:lM c.K T e j):
  m.TypeIs u T/\∀g,u=.ref g->∃Yo,m.heap.get? g=Z Yo/\Yo.dict=V:=by
 cases e with
 |str i=>
  let⟨@C,rfl⟩:=p;cases (show T = "str" from ty);exact⟨Ag m i C,λ_ a=>nomatch a⟩
 |int h=>
  let⟨@C,rfl⟩:=p;cases (show T = "int" from ty);exact⟨zL m h C,λ_ a=>nomatch a⟩
 |ref n=>
  cases p;rcases ty with ⟨rfl,x,k⟩|⟨rfl,o,b,l,hd⟩|⟨rfl,b⟩|⟨rfl,XC,v,b⟩
  ·let⟨@XN,Y,bl,Y⟩:=z.list k;refine⟨bl.isList.typeIs,λg a=>?_⟩;cases a;let⟨o,@v,a,f,hd,Y⟩:=bl;exact⟨o,a,hd⟩
  ·refine⟨⟨o,z.o6 n o b,l⟩,λg a=>?_⟩;cases a;exact⟨o,z.o6 _ o b,hd⟩
  ·have i:∃o,m.heap.get? n=Z o/\o.ExactDict:=by
    rcases b with ⟨Xy,b⟩|⟨Xy,b⟩
    ·let@⟨_,_,⟨@_,_,⟨o,_,@_,a,Yp,_⟩⟩⟩:=z.aU n _ b;exact⟨o,a,Yp⟩
    ·let@⟨_,_,⟨@_,_,⟨o,_,@_,a,Yp,_⟩⟩⟩:=z.aU n _ b;exact⟨o,a,Yp⟩
   let⟨@o,a,Yp⟩:=i;refine⟨⟨o,a,Yp.1⟩,λg d=>?_⟩;cases d;exact⟨o,a,Yp.2.1⟩
  ·let⟨o,Y,Y,@Y,a,Yp,Y⟩:=z.aU n _ b;refine⟨⟨o,a,Yp.1⟩,λg d=>?_⟩;cases d;exact⟨o,a,Yp.2.1⟩
 |_=>exact False.elim ty
def PJ(U:Φ)(T:String)(p:ai->List ai->ax->cI->Prop)(D:bL):bL:=(λB j y=>D B j λe XE=>lM U T e XE/\p e [] XE y)
def TV(U:Φ)(T:String)(p:ai->List ai->ax->cI->Prop)(D:bL)(C:fk):bL:=(λB j y=>D B j λe XE=>lM U T e XE/\C B XE λx XS=>p e x XS y)
variable{o a:aY}{P:List aY}{D:bL}{C:fk}{name:aD}{YK YA:b9}{T id:String}{p:ai->List ai->ax->cI->Prop}
def N4(f:tC T)(YM:mW T name id)(g:n0 (.builtin id)=pure (.type "method_descriptor"))(h:od c id p)(i:bu c o D)(k:je o name c.env (bP o c.env)=bP o c.env:=by rfl)(n:(YK.endLine==YA.line)=aa:=by rfl):bu c (.Call (.Attribute o name YK) [] [] YA) (PJ c.K T p D):=by
 intro G m B j y z b;refine wpAny_Call_method0_late k n (bK (i G m B j _ z b) λu q r=>?_);let⟨e,@XE,a,d,ty,s⟩:=r;let@⟨l,t⟩:=Ke a d ty;exact⟨T,id,f,YM,g,l,t,r4 rfl<|Jq<|h G q B XE e [] u [] y a d .nil s⟩
def Cn(i:tC T)(YM:mW T name id)(k:n0 (.builtin id)=pure (.type "method_descriptor"))(n:od c id p)(q:bu c o D)(r:hp c (a::P) C)(s:je o name c.env (bP o c.env)=bP o c.env:=by rfl)(v:((ep YA<|bD (a::P) c.env).all (λe=>!e.1)&&(ma YA<|mE [] c.env).all (λe=>e.1.isSome)
   && decide ((a::P).length+([]:List g0).length+(if ([]:List g0).isEmpty then 0 else 1)<30))=aa:=by rfl)(w:(YK.endLine==YA.line)=aa:=by rfl)(XO:bD (a::P) c.env=(aA,bP a c.env)::bD P c.env:=by rfl)(x:(ep YA<|bD P c.env).any (·.1)=aA:=by rfl):
  bu c (.Call (.Attribute o name YK) (a::P) [] YA) (TV c.K T p D C):=by
 intro G m B j y z b;refine Br s v w rfl (bK (q G m B j _ z b) λu A d=>?_);let⟨e,@XE,f,g,ty,E⟩:=d;let@⟨l,t⟩:=Ke f g ty;refine⟨T,id,i,YM,k,l,t,?_⟩;have h:=r YA G A B XE _ f E;rw[XO]at h ⊢;refine r4 (by show (aA || (ep YA<|bD P c.env).any (·.1))=aA;rw[x]<;>rfl) (tb ?_);refine bK h λXZ F d=>?_;let⟨Q,@XS,H,I,J⟩:=d;exact n G F B XS e Q u XZ y H g I J
end
def u1(c:aI)(id:String)(p:ai->List ai->ax->cI->Prop):Prop:=(
 ∀(G:List (aq×a5)) (m:au) (B:aZ) (j:ax) (e:ai) (x:List ai) (u:ag) (XZ:List ag) (y:cI),aG c G B j m->bU e u->bN x XZ->p e x j y->
  wpAny (aN c.prog c.w) c.A (call (.builtin id) (u::XZ)) (eA c G B y) c.cP m)
theorem bN.one:∀{e:ai}{XZ:List ag},bN [e] XZ->∃I,XZ=[I]/\bU e I
 |_,_,.cons p .nil=>⟨_,rfl,p⟩
theorem bN.zero:∀{XZ:List ag},bN [] XZ->XZ=[]
 |_,.nil=>rfl
def bN.dropLast{x:List ai}(b:bN x XZ):bN x.dropLast XZ.dropLast:=by
 induction b with
 |nil=>exact .nil
 |cons p C a=>
  cases C with
  |nil=>exact .nil
  |cons s Yc=>exact .cons p a
theorem bN.eraseIdx:∀{x:List ai}{XZ:List ag} (h:Nat),bN x XZ->bN (x.eraseIdx h) (XZ.eraseIdx h)
 |_,_,_,.nil=>.nil
 |_,_,0,.cons _ C=>C
 |_,_,h+1,.cons p C=>.cons p (bN.eraseIdx h C)
theorem bN.rep{x:List ai}{XZ:List ag}(b:bN x XZ):∀q:Nat,bN (List.replicate q x).flatten (List.replicate q XZ).flatten
 |0=>.nil
 |q+1=>by
  rw[oz,oz,o_,o_];exact bN.append b (bN.rep b q)
def Wm(J:List XR):J.eraseIdx (J.length-1)=J.dropLast:=by
 induction J with
 |nil=>rfl
 |cons g p b=>
  cases p with
  |nil=>rfl
  |cons d p=>
   have a:(g::d::p).length-1=((d::p).length-1)+1:=by
    have l:(g::d::p).length=p.length+2:=rfl;have t:(d::p).length=p.length+1:=rfl;lia
   rw[a,List.eraseIdx_cons_succ,b];all_goals rfl
theorem By{XR:Type}:∀(J:List XR) (h:Nat),(J.eraseIdx h).length<=J.length
 |[],_=>bk _
 |_::_,0=>z8 _
 |_::p,h+1=>uD (By p h)
theorem H_(XN:List ag):∀(q:Nat) (b:List ag),
  List.foldl (λc d=>c++d) b.toArray (List.replicate q XN.toArray)=(b++(List.replicate q XN).flatten).toArray
 |0,b=>by simp
 |q+1,b=>by
  have a:b.toArray++XN.toArray=(b++XN).toArray:=by simp
  have e:(b++XN)++(List.replicate q XN).flatten=b++(List.replicate (q+1) XN).flatten:=by
   rw[oz,o_,bI]
  rw[<-e,<-H_ XN q (b++XN),<-a,oz,km]
section
variable{c:aI}{G:List (aq×a5)}{B:aZ}{j:ax}{m:au}{J d:aq}{x XW Yt:List ai}
def aG.vG{F:Array ag->Array ag}(z:aG c G B j m)(b:j J=Z (.lst x))(a:m.heap.get? J=Z {cls:=.type "list",data:=.seq XN.toArray v})(d:F XN.toArray=w.toArray)(f:bN XW w)(g:XW.length<=sizeLine):
  aG c G B (upd j J<|.lst XW) {m with heap:=m.heap.update J (a5.mapSeq F),toks:=Yc}:=by
 have s:=CX a F;rw[d]at s;refine z.write (e:=J) (a:=J) (by rw[b];exact trivial) (.inl rfl) (λk I h i=>(gM m.heap (a5.mapSeq F)<|dn h).trans i) ⟨_,s⟩ ?_;exact⟨g,w,_,f,s⟩
def aG.Kr(z:aG c G B j m)(a:bN XW XN)(b:XW.length<=sizeLine):
  aG c G B (upd j m.heap.objs.size<|.lst XW) {m with heap:=m.heap.push {cls:=.type "list",data:=.seq XN.toArray},toks:=Yc}:=
 z.laid (λ_ Y s=>cw _ s) (bk _) ⟨b,XN,0,a,dE _ rfl⟩
def aG.fresh(z:aG c G B j m):j m.heap.objs.size=V:=z.aU.fresh (bk _)
def aG.gY(z:aG c G B j m)(b:j J=Z (.lst x)):x.length<=sizeLine/\∃(XN:List ag) (v:Nat),bN x XN/\x.length=XN.length/\m.heap.get? J=Z {cls:=.type "list",data:=.seq XN.toArray v}:=by
 let@⟨i,⟨XN,@v,p,a⟩⟩:=z.aU J _ b;exact⟨i,XN,v,p,p.length,a⟩
def HF(b:v<=sizeLine):bc.List.listTooLong v=aA:=by
 unfold bc.List.listTooLong;exact decide_eq_false ⋯
end
section
variable{c:aI}
def VD:ai->List ai->ax->cI->Prop:=(λe Q j y=>∃J x A,e=.ref J/\Q=[A]/\j J=Z (.lst x)/\x.length<sizeLine/\y .aK (upd j J<|.lst<|x++[A]))
def R4:u1 c "list.append" VD:=by
 intro G m B j e Q u XZ y z f g b;let⟨J,x,@A,rfl,rfl,d,k,s⟩:=b;cases f;let⟨@I,rfl,h⟩:=g.one;let@⟨i,⟨XN,@v,p,l,a⟩⟩:=z.gY d;refine kH DD ⟨_,a,rfl⟩ B6 (C4 _ _) (EH J XN.toArray v I (by rw[cK];lia)) ⟨a,?_⟩;refine⟨.aK,_,z.vG (w:=XN++[I]) d a ↥0 (p.append<|.cons h .nil) ?_,rfl,s⟩;rw[cC,e6];lia
def Wx:ai->List ai->ax->cI->Prop:=(λe Q j y=>∃J d x Yt,e=.ref J/\Q=[.ref d]/\j J=Z (.lst x)/\j d=Z (.lst Yt)/\x.length+Yt.length<=sizeLine/\y .aK (upd j J<|.lst<|x++Yt))
def QS:u1 c "list.extend" Wx:=by
 intro G m B j e Q u XZ y z h k b;let⟨J,d,x,@Yt,rfl,rfl,g,l,A,s⟩:=b;cases h;let⟨@I,rfl,n⟩:=k.one;cases n;let@⟨i,⟨XN,@v,p,C,a⟩⟩:=z.gY g;let@⟨D,⟨f,@YN,o,E,q⟩⟩:=z.gY l;have r:XN.toArray.size+f.toArray.size<=sizeLine:=by rw[cK,cK];lia
 have t:¬ (!XN.toArray.isEmpty&&bc.List.listTooLong (XN.toArray.size+f.toArray.size))=aa:=by
  rw[HF r,Bo];exact cB
 refine kH F.slot_list_extend ⟨_,a,rfl⟩ F.entry_list_extend (F.args_list_extend_2 _ _)
  (AutoSeq1.list_extend_list_list_0 J XN.toArray v d f.toArray YN t (by rw[cK];lia) ⋯) ⟨a,q,?_⟩;refine⟨.aK,_,z.vG (w:=XN++f) g a ↥0 (p.append o) ?_,rfl,s⟩;rw[cC];lia
def K_:ai->List ai->ax->cI->Prop:=(λe Q j y=>∃J x A,e=.ref J/\Q=[]/\j J=Z (.lst x)/\x[x.length-1]?=Z A/\y A (upd j J<|.lst x.dropLast))
def MY:u1 c "list.pop" K_:=by
 intro G m B j e Q u XZ y z f g b;let⟨J,x,@A,rfl,rfl,d,h,s⟩:=b;cases f;have k:=g.zero;subst k;let@⟨i,⟨XN,@v,p,l,a⟩⟩:=z.gY d;let⟨@I,n,o⟩:=p.get h;have q:XN.toArray[XN.toArray.size-1]?=Z I:=by
  show XN.toArray[XN.length-1]?=Z I;rw[<-eU,<-l];exact n
 refine kH IL ⟨_,a,rfl⟩ Kd (F.args_list_pop_1 _) (MeetsSeq.list_pop_last J XN.toArray v I q (by rw[cK];lia)) ⟨a,?_⟩;refine⟨A,_,z.vG (w:=XN.dropLast) d a ?_ p.dropLast ?_,o,s⟩
 ·show XN.toArray.eraseIdxIfInBounds (XN.toArray.size-1)=XN.dropLast.toArray;rw[cK,Gh,Wm]
 ·rw[uP];lia
def Tq:ai->List ai->ax->cI->Prop:=(λe Q j y=>∃J x h q A,e=.ref J/\Q=[.int h]/\j J=Z (.lst x) /\ -(2^63)<=h/\h<2^63/\zh h x.length=Z q/\x[q]?=Z A/\y A (upd j J<|.lst<|x.eraseIdx q))
def MU:u1 c "list.pop" Tq:=by
 intro G m B j e Q u XZ y z f g b;let⟨J,x,h,q,@A,rfl,rfl,d,l,t,k,n,s⟩:=b;cases f;let⟨@I,rfl,o⟩:=g.one;let⟨@C,rfl⟩:=o;let@⟨i,⟨XN,@v,p,r,a⟩⟩:=z.gY d;let⟨@H,D,E⟩:=p.get n;refine kH IL ⟨_,a,rfl⟩ Kd (F.args_list_pop_2 _ _)
  (MeetsSeq.list_pop_at J XN.toArray v h C q H (Iw l t) (by rw[cK,<-r];exact k) (by rw[<-eU];exact D) (by rw[cK];lia)) ⟨a,?_⟩;refine⟨A,_,z.vG (w:=XN.eraseIdx q) d a ?_ (p.eraseIdx q) ?_,E,s⟩
 ·show XN.toArray.eraseIdxIfInBounds q=(XN.eraseIdx q).toArray;rw[Gh]
 ·have:=By x q;lia
def OA:bJ:=(λe A j y=>∃J d x Yt,e=.ref J/\A=.ref d/\j J=Z (.lst x)/\j d=Z (.lst Yt)/\x.length+Yt.length<=sizeLine/\∀n,j n=V->y (.ref n) (upd j n<|.lst<|x++Yt))
def NZ:dU c (e5 .Add) OA:=by
 intro G m B j e A u I y z g h b;let⟨J,d,x,@Yt,rfl,rfl,k,l,r,s⟩:=b;cases g;cases h;let@⟨i,⟨XN,@v,p,t,a⟩⟩:=z.gY k;let@⟨w,⟨f,@YN,n,C,o⟩⟩:=z.gY l;refine PySem.P.add_list a o ?_ (by rw[cK,cK];lia);have q:XN.toArray++f.toArray=(XN++f).toArray:=by simp
 rw[q];exact⟨.ref _,_,z.Kr (Yc:=m.toks) (p.append n) (by rw[cC];lia),rfl,s _ z.fresh⟩
def Sg:bJ:=(λe A j y=>∃J q x,e=.ref J/\A=.int q/\j J=Z (.lst x) /\ -(2^63)<=q/\q<2^63/\x.length*q.toNat<=sizeLine/\
 ∀n,j n=V->y (.ref n) (upd j n<|.lst (List.replicate q.toNat x).flatten))
def UI(x:List XR)(q:Nat):(List.replicate q x).flatten.length=q*x.length:=by
 induction q with
 |zero=>simp
 |succ q a=>rw[oz,o_,cC,a,EX,pD]
def MX:dU c (e5 .Mult) Sg:=by
 intro G m B j e A u I y z k n b;let⟨J,q,@x,rfl,rfl,o,l,t,h,s⟩:=b;cases k;let⟨@C,rfl⟩:=n;let@⟨i,⟨XN,@v,p,r,a⟩⟩:=z.gY o;have w:XN.toArray.size*q.toNat<=sizeLine:=by rw[cK,<-r];exact h
 have D:¬ XN.toArray.size*q.toNat>(2^63-1)/8:=by
  have:(sizeLine:Nat)<=(2^63-1)/8:=by decide
  lia
 have H:¬ (!bc.List.listFitsIndex q)=aa:=by
  rw[Iw l t];exact cB
 have L:¬ bc.List.listTooLong (XN.toArray.size*q.toNat)=aa:=by
  rw[HF w];exact cB
 have M:List.foldl (λd f=>d++f) #[] (List.replicate (if XN.toArray.isEmpty=aa then 0 else q.toNat) XN.toArray)=(List.replicate q.toNat XN).flatten.toArray:=by
  have YL:∀E:Nat,List.foldl (λd f=>d++f) #[] (List.replicate E XN.toArray)=(List.replicate E XN).flatten.toArray:=λE=>by
   have:=H_ XN E [];rw[jU]at this;exact this
  rw[YL];cases XN with
  |nil=>simp
  |cons g Yr=>rw[if_neg ↥0]
 refine wpAny_binaryOp_repeat_ref (T := "list") (U := "int") ∅ ⟨_,a,rfl⟩ (λXM=>zL XM q C) noFill_list_mul F.fills_int_mul Gn repeat_list F.slot_int_index.lookup
  (kH Gn (zL m q C) F.entry_int_rmul (F.args_int_rmul_2 _ _) (int___rmul___int_list q C J XN.toArray v)
   ⟨a,rfl,⟨_,a,rfl⟩,kH F.slot_list_mul ⟨_,a,rfl⟩ F.entry_list_mul (F.args_list_mul_2 _ _) (RL J XN.toArray v q C H D L) ⟨a,?_⟩⟩);rw[M];exact⟨.ref _,_,z.Kr (Yc:=m.toks) (p.rep q.toNat) (by rw[UI,Nat.mul_comm];exact h),rfl,s _ z.fresh⟩
end
section
variable{X6:Type}[DecidableEq X6]
def f9(Xy:List (X6×ai))(q:X6):Option ai:=((Xy.find? λa=>decide (a.1=q)).map (·.2))
def eM(Xy:List (X6×ai))(q:X6)(u:ai):List (X6×ai):=(
 if (Xy.any λa=>decide (a.1=q))=aa then Xy.map (λa=>if a.1=q then (a.1,u) else a) else Xy++[(q,u)])
def uE{n:X6×ai}{p:List (X6×ai)}{q:X6}(a:n.1=q):f9 (n::p) q=Z n.2:=by simp[f9,fT,a]
def vF{n:X6×ai}{p:List (X6×ai)}{q:X6}(a:¬ n.1=q):f9 (n::p) q=f9 p q:=by simp[f9,fT,a]
theorem JL(q:X6):∀Xy:List (X6×ai),(Xy.any λb=>decide (b.1=q))=(f9 Xy q).isSome
 |[]=>rfl
 |n::p=>by
  rw[i8];by_cases a:n.1=q
  ·simp only[uE a,bG a,DQ,Option.isSome_some]
  ·rw[vF a,decide_eq_false a,tm];exact JL q p
def An(Xy:List (X6×ai))(q:X6)(u:ai):(eM Xy q u).length<=Xy.length+1:=by
 unfold eM;split
 ·rw[a6];lia
 ·rw[cC,b6,gs];lia
def i6.rk(p:i6 o I):o.isSome=I.isSome:=by
 cases o with
 |none=>cases I with
  |none=>rfl
  |some _=>exact (show False from p).elim
 |some _=>cases I with
  |none=>exact (show False from p).elim
  |some _=>rfl
def i6.getD{r:ai}{YE:ag}(p:i6 o I)(a:bU r YE):bU (o.getD r) (I.getD YE):=by
 cases o with
 |none=>cases I with
  |none=>exact a
  |some _=>exact (show False from p).elim
 |some _=>cases I with
  |none=>exact (show False from p).elim
  |some _=>exact p
def eE.val{Xy:List (X6×ai)}{Q:List (X6×ag)}(p:eE Xy Q)(q:X6):i6 (f9 Xy q) (o3 Q q):=by
 unfold eE at p;induction p with
 |nil=>exact True.intro
 |@cons n s XF d5 b C e=>
  let@⟨l,t⟩:=b;by_cases a:n.1=q
  ·have c:s.1=q:=l.symm.trans a;have d:o3 (s::d5) q=Z s.2:=by simp[o3,fT,c]
   rw[uE a,d];exact t
  ·have c:¬ s.1=q:=λi=>a (l.trans i);have d:o3 (s::d5) q=o3 d5 q:=by simp[o3,fT,c]
   rw[vF a,d];exact e
def eE.any{Xy:List (X6×ai)}{Q:List (X6×ag)}(p:eE Xy Q)(q:X6):(Xy.any λa=>decide (a.1=q))=Q.any λa=>decide (a.1=q):=by
 unfold eE at p;induction p with
 |nil=>rfl
 |cons b C c=>rw[i8,i8,c,b.1]
def eE.xq{Xy:List (X6×ai)}{Q:List (X6×ag)}(p:eE Xy Q)(q:X6){A:ai}{I:ag}(d:bU A I):
  eE (Xy.map λc=>if c.1=q then (c.1,A) else c) (Q.map λc=>if c.1=q then (c.1,I) else c):=by
 unfold eE at p ⊢;induction p with
 |nil=>exact .nil
 |@cons n s XF d5 b C e=>
  rw[bz,bz];refine .cons ?_ e;let@⟨l,t⟩:=b;by_cases a:n.1=q
  ·rw[aF a,aF<|l.symm.trans a];exact⟨l,d⟩
  ·rw[if_neg a,if_neg<|λi=>a<|l.trans i];exact⟨l,t⟩
def eE.put{Xy:List (X6×ai)}{Q:List (X6×ag)}(p:eE Xy Q)(q:X6){A:ai}{I:ag}(b:bU A I):eE (eM Xy q A) (stored Q q I):=by
 unfold eM stored;rw[p.any q];by_cases a:(Q.any λc=>decide (c.1=q))=aa
 ·rw[aF a,aF a];exact p.xq q b
 ·rw[if_neg a,if_neg a];exact dB.snoc p ⟨rfl,b⟩
def eE.length{Xy:List (X6×ai)}{Q:List (X6×ag)}(p:eE Xy Q):Xy.length=Q.length:=dB.length p
end
def nx{q:cy}{I:ag}(p:bU (bR q) I):(ip XI H).is q I=aa:=by
 cases q with
 |inl h=>let⟨@C,a⟩:=(show ∃C,I=ag.int h C from p);subst a;exact UX XI H h C
 |inr e=>let⟨@C,a⟩:=(show ∃C,I=ag.str e C from p);subst a;exact P8 XI H e C
abbrev fF(j:ax):List (List X×ai)->List (List X×aq×ag)->Prop:=dB λn s=>n.1=s.1/\hk j n.1 s.2.1/\bU n.2 s.2.2
def fF.val(p:fF j Xy x)(q:List X):i6 (f9 Xy q) ((l2 x q).map (·.2)):=by
 induction p with
 |nil=>exact True.intro
 |@cons n s XF d5 b C e=>
  let@⟨l,_,t⟩:=b;by_cases a:n.1=q
  ·have c:s.1=q:=l.symm.trans a;have d:l2 (s::d5) q=Z s.2:=by simp[l2,fT,c]
   rw[uE a,d];exact t
  ·have c:¬ s.1=q:=λi=>a (l.trans i);have d:l2 (s::d5) q=l2 d5 q:=by simp[l2,fT,c]
   rw[vF a,d];exact e
def fF.xq(p:fF j Xy x)(q:List X){A:ai}{I:ag}(d:bU A I):
  fF j (Xy.map λc=>if c.1=q then (c.1,A) else c) (x.map<|putAt q I):=by
 induction p with
 |nil=>exact .nil
 |@cons n s XF d5 b C e=>
  rw[bz,bz];refine .cons ?_ e;let@⟨l,t,f⟩:=b;unfold putAt;by_cases a:n.1=q
  ·rw[aF a,aF<|l.symm.trans a];exact⟨l,t,d⟩
  ·rw[if_neg a,if_neg<|λi=>a<|l.trans i];exact⟨l,t,f⟩
def fF.put(p:fF j Xy x)(q:List X){d:aq}{A:ai}{I:ag}(c:hk j q d)(b:bU A I):
  fF j (eM Xy q A) (storedH x q d I):=by
 have a:(Xy.any λe=>decide (e.1=q))=(l2 x q).isSome:=by
  rw[JL,(p.val q).rk,ua]
 unfold eM storedH;rw[a];by_cases s:(l2 x q).isSome=aa
 ·rw[aF s,aF s];exact p.xq q b
 ·rw[if_neg s,if_neg s];exact dB.snoc p ⟨rfl,c,b⟩
def fF.keeps(p:fF j Xy x)(bV:∀d XW,j d=Z (.tup XW)->S d=Z (.tup XW)):fF S Xy x:=
 dB.sP p λ_ Y i=>⟨i.1,i.2.1.mono bV,i.2.2⟩
section
variable{XI:bB}{H:a9}{j:ax}{b:aV}{g:aq}
def HI{I:eY}(ok:ee XI H j b)(a:g9 j g I):en XI H j b g I:=a.ok ok
def lL{Xy:List (cy×ai)}(ok:ee XI H j b)(a:g9 j g (.cb Xy)):Xy.length<=sizeLine/\(g==h4)=aA/\∃Q,eE Xy Q/\b.DictOf (ip XI H) g Q:=
 show en XI H j b g (.cb Xy) from HI ok a
def yJ{Xy:List (cy×ai)}(ok:ee XI H j b)(a:j g=Z (.cb Xy)):Xy.length<=sizeLine/\(g==h4)=aA/\∃Q,eE Xy Q/\b.DictOf (ip XI H) g Q:=lL ok (.inl a)
mutual
theorem b8.el(ok:ee XI H j b):∀{r:X}{u:ai}{I:ag},b8 j r u->bU u I->dh b r I
 |.aK,_,_,a,p=>by cases (show _=ai.aK from a);exact p
 |.aH d,_,_,a,p=>by cases (show _=ai.aH d from a);exact p
 |.int h,_,_,a,p=>by cases (show _=ai.int h from a);exact p
 |.str e,_,_,a,p=>by cases (show _=ai.str e from a);exact p
 |.fn g,_,_,a,p=>by cases (show _=ai.ref g from a);exact p
 |.tup D,_,_,a,p=>by
  let⟨g,@x,rfl,l,t⟩:=a;cases p;let@⟨_,⟨@XN,c,⟨@o,f,i,⟨@v,k⟩⟩⟩⟩:=(show en XI H j b g (.tup x) from ok g _ l);exact⟨g,o,XN.toArray,v,rfl,f,(Prod.mk.inj i).1,k,by simpa using bt.el ok t c⟩
 |.aW D,_,_,a,p=>by
  let⟨g,x,@o,rfl,l,t⟩:=a;cases p;exact⟨g,rfl⟩
 |.fd E,_,_,a,p=>by
  let⟨g,o,@Yk,rfl,l,t⟩:=a;cases p;exact⟨g,rfl⟩
theorem bt.el(ok:ee XI H j b):∀{D:List X}{Q:List ai}{XZ:List ag},bt j D Q->bN Q XZ->dy b D XZ
 |[],_,_,a,p=>by cases (show _=[] from a);cases p;rfl
 |r::D,_,_,a,p=>by
  let⟨u,@C,rfl,l,t⟩:=a;cases p with
  |cons c d=>exact⟨_,_,rfl,b8.el ok l c,bt.el ok t d⟩
end
def jJ{M:List X}(ok:ee XI H j b)(a:hk j M g):(ea XI H).is b M g:=⟨a.1,a.2.el ok rfl⟩
def mU{XI:bB}{H:a9}(b:L.units+20<bj):(ea XI H).room L.in1:=show L.units+1+10<bj by lia
def mj(ok:ee XI H j b)(a:g9 j g (.aE Xy)):Xy.length<=sizeLine/\(g==h4)=aA/\
  ∃x,fF j Xy x/\b.DictOfH (ea XI H) g x:=by
 let@⟨i,A,⟨@x,p,⟨o,P,@X8,l,t,f,h,k⟩⟩⟩:=(show en XI H j b g (.aE Xy) from HI ok a);refine⟨i,A,x,p,o,P,X8,l,t,f,h,λe c=>?_,k⟩;have all:∀{J:List (List X×ai)}{E:List (List X×aq×ag)},fF j J E->∀e∈E,(ea XI H).is b e.1 e.2.1:=by
  intro J E s;induction s with
  |nil=>intro e c;exact nomatch c
  |@cons n s XF d5 d C m=>
   intro e c;rcases b0.mp c with a|c
   ·subst a;exact jJ ok (by rw[<-d.1];exact d.2.1)
   ·exact m e c
 exact all p e c
def zb(ok:ee XI H j b)(a:j g=Z (.aE Xy)):Xy.length<=sizeLine/\(g==h4)=aA/\
  ∃x,fF j Xy x/\b.DictOfH (ea XI H) g x:=mj ok (.inl a)
end
def e2(j:ax)(g:aq)(A:ai)(p:Option ai):Prop:=(
 (∃Xy q,g9 j g (.cb Xy)/\A=bR q/\p=f9 Xy q)\/∃Xy q d,g9 j g (.aE Xy)/\A=.ref d/\hk j q d/\p=f9 Xy q)
def mD(j:ax)(g:aq)(A u:ai)(S:ax):Prop:=(
 (∃Xy q,j g=Z (.cb Xy)/\A=bR q/\Xy.length<sizeLine/\S=upd j g (.cb<|eM Xy q u))\/
 ∃Xy q d,j g=Z (.aE Xy)/\A=.ref d/\hk j q d/\Xy.length<sizeLine/\S=upd j g (.aE<|eM Xy q u))
def e2.k{j:ax}{g:aq}{Xy:List (cy×ai)}{q:cy}(a:j g=Z (.cb Xy)):e2 j g (bR q) (f9 Xy q):=.inl ⟨Xy,q,.inl a,rfl,rfl⟩
def e2.t{j:ax}{g d:aq}{Xy:List (List X×ai)}{q:List X}(a:j g=Z (.aE Xy))(b:hk j q d):e2 j g (.ref d) (f9 Xy q):=.inr ⟨Xy,q,d,.inl a,rfl,b,rfl⟩
def mD.k{j:ax}{g:aq}{Xy:List (cy×ai)}{q:cy}{u:ai}(a:j g=Z (.cb Xy))(b:Xy.length<sizeLine):mD j g (bR q) u (upd j g<|.cb<|eM Xy q u):=.inl ⟨Xy,q,a,rfl,b,rfl⟩
def mD.t{j:ax}{g d:aq}{Xy:List (List X×ai)}{q:List X}{u:ai}(a:j g=Z (.aE Xy))(b:hk j q d)(c:Xy.length<sizeLine):
  mD j g (.ref d) u (upd j g<|.aE<|eM Xy q u):=.inr ⟨Xy,q,d,a,rfl,b,c,rfl⟩
section
variable{c:aI}{G:List (aq×a5)}{B:aZ}{j:ax}{m:au}{g:aq}{A u:ai}{I p:ag}{o:Option ai}{L:br}{XA:ag->au->Prop}
def aG.big(z:aG c G B j m):h4<m.heap.objs.size:=by
 have b:d9<m.heap.objs.size:=(z.mod.glob.keeps z.gG).lt;exact n1 ∅ b
def HJ(s:L.units+20<bj)(z:aG c G B j m)(O:e2 j g A (Z u))(r:bU A I)(b:∀e XM,aG c G B j XM->bU u e->y e XM):
  wpAny (aN c.prog c.w) L (ke (.ref g) I) y XA m:=by
 rcases O with ⟨Xy,q,a,f,J⟩|⟨Xy,q,d,a,f,t,J⟩
 ·subst f;let@⟨i,hd,⟨@Q,h,k⟩⟩:=lL z.aU a;let⟨@e,l,p⟩:=i6.some_of (u:=u) (o:=o3 Q q) (by rw[J];exact h.val q);exact wpAny_getItem_of (nx r) k.mapOf l (b e _ (z.tok _) p)
 ·subst f;cases (show I=ag.ref d from r);let@⟨i,hd,⟨@x,h,k⟩⟩:=mj z.aU a;let⟨@e,l,p⟩:=i6.some_of (u:=u) (o:=(l2 x q).map (·.2)) (by rw[J];exact h.val q);let⟨@n,v,C⟩:=b5.mp l;refine wpAny_getItem_heap (mU s) (jJ z.aU t) k v ?_;rw[C];exact b e _ (z.tok _) p
def we(l:L.units+20<bj)(z:aG c G B j m)(O:e2 j g A o)(k:bU A I)(b:∀XM,aG c G B j XM->y (.bool o.isSome) XM):
  wpAny (aN c.prog c.w) L (eL .In I<|.ref g) y XA m:=by
 rcases O with ⟨Xy,q,a,e,J⟩|⟨Xy,q,d,a,e,n,J⟩
 ·subst e;let@⟨i,hd,⟨@Q,f,h⟩⟩:=lL z.aU a;refine wpAny_in_of (nx k) hd h.mapOf ?_;rw[<-(f.val q).rk,<-J];exact b _ (z.tok _)
 ·subst e;cases (show I=ag.ref d from k);let@⟨i,hd,⟨@x,f,h⟩⟩:=mj z.aU a;refine wpAny_in_heap (mU l) (jJ z.aU n) hd h ?_;have s:=(f.val q).rk;rw[ua]at s;rw[<-s,<-J];exact b _ (z.tok _)
def A8(l:L.units+20<bj)(z:aG c G B j m)(O:e2 j g A o)(k:bU A I)(b:∀XM,aG c G B j XM->y (.bool<|!o.isSome) XM):
  wpAny (aN c.prog c.w) L (eL .NotIn I<|.ref g) y XA m:=by
 rcases O with ⟨Xy,q,a,e,J⟩|⟨Xy,q,d,a,e,n,J⟩
 ·subst e;let@⟨i,hd,⟨@Q,f,h⟩⟩:=lL z.aU a;refine wpAny_notIn_of (nx k) hd h.mapOf ?_;rw[<-(f.val q).rk,<-J];exact b _ (z.tok _)
 ·subst e;cases (show I=ag.ref d from k);let@⟨i,hd,⟨@x,f,h⟩⟩:=mj z.aU a;refine wpAny_notIn_heap (mU l) (jJ z.aU n) hd h ?_;have s:=(f.val q).rk;rw[ua]at s;rw[<-s,<-J];exact b _ (z.tok _)
def rV{ah:aV}{Yo:eY}(z:aG c G B j m)(b:sL (j g))(XO:aV.SameBut g m.heap ah)(f:∃s,ah.get? g=Z s)(new:en c.prog c.w (upd j g Yo) ah g Yo):
  aG c G B (upd j g Yo) {m with heap:=ah,toks:=Yc}:=
 z.write (e:=g) (a:=g) b (.inl rfl) (λd s h i=>(XO.2 d h).trans i) f new
def Cv{ah:aV}{Xy:List (cy×ai)}{Q:List (cy×ag)}(i:Xy.length<=sizeLine)(hd:(g==h4)=aA)(a:eE Xy Q)(b:ah.DictOf (ip XI H) g Q):
  en XI H S ah g (.cb Xy):=⟨i,hd,Q,a,b⟩
def xK{y:Unit->au->Prop}(M:L.units+20<bj)(z:aG c G B j m)(O:mD j g A u S)(C:bU A I)(D:bU u p)(b:∀XM,aG c G B S XM->y () XM):
  wpAny (aN c.prog c.w) L (sF (.ref g) I p) y XA m:=by
 rcases O with ⟨Xy,q,a,l,J,n⟩|⟨Xy,q,d,a,l,E,J,n⟩
 ·subst l n;let@⟨i,hd,⟨@Q,e,o⟩⟩:=yJ z.aU a;have r:Q.length<=sizeLine:=by rw[<-e.length];exact i
  have v:(eM Xy q u).length<=sizeLine:=by have:=An Xy q u;lia
  refine wpAny_setItem_pairs (hsz:=r) (nx C) o λah h XO=>b _ ?_;have R:∃s,ah.get? g=Z s:=let ⟨s,_,_,k,_⟩:=h;⟨s,k⟩
  exact rV z (by rw[a];exact True.intro) XO R (Cv v hd (e.put q D) h)
 ·subst l n;cases (show I=ag.ref d from C);let@⟨i,hd,⟨@x,e,o⟩⟩:=zb z.aU a;have r:x.length<=sizeLine:=by rw[<-dB.length e];exact i
  have v:(eM Xy q u).length<=sizeLine:=by have:=An Xy q u;lia
  refine wpAny_setItem_heap (hsz:=r) (mU M) (jJ z.aU E) o λah h XO=>b _ ?_;let⟨s,P,@X8,k,t,T,U,Y,al⟩:=h;refine rV z (by rw[a];exact True.intro) XO ⟨s,k⟩ ⟨v,hd,_,(e.put q E D).keeps λf XW F=>?_,s,P,X8,k,t,T,U,al⟩;rw[cm (Ab F a<|λi=>nomatch i)];exact F
end
section
variable{c:aI}{G:List (aq×a5)}{B:aZ}{j:ax}{m:au}{g:aq}{Xy:List (cy×ai)}{q:cy}{I:ag}{L:br}{XA:ag->au->Prop}
def SI(z:aG c G B j m)(a:g9 j g (.cb Xy))(b:∀C XM,aG c G B j XM->y (.int Xy.length C) XM):wpAny (aN c.prog c.w) L (call (.builtin "len") [.ref g]) y XA m:=by
 let@⟨i,hd,⟨@Q,d,e⟩⟩:=lL z.aU a;refine call_len_dict hd e (by rw[<-d.length];rw[tN]at i;lia) ?_;rw[<-d.length];exact b _ _ (z.tok _)
end
def oN(h:aY):Prop:=(∀a b,subscripted h aA a b=operate [a,b] (ke a b))
def NI{XJ:bB}{XA:ag->au->Prop}{Xx:eQ}{Y2 a:aY}{id:String}(k:uZ (.type T) "__getitem__" = pure (Z<|.builtin id))(XO:oN a)(b:wpAny (aN XJ H) L (bP Y2 Xx) (λo g=>wpAny (aN XJ H) L (bP a Xx) (λh c=>c.TypeIs o T/\wpAny (aN XJ H) L (ke o h) y XA c) XA g) XA m):
  wpAny (aN XJ H) L (bP (.Subscript Y2 a XP) Xx) y XA m:=by
 refine xB (gz b (λo g l=>gz l (λh c d=>?_) λ_ Y e=>e) λ_ Y e=>e);let@⟨i,d⟩:=d;unfold yQ;refine aw ?_;rw[getitemInPython_of_ne i.not_modules];refine aw (qo i k ?_);have f:wpAny (aN XJ H) L (subscripted a aA o h) (λp j=>wpAny (aN XJ H) L (letTemporaryGo Y2 o p >>= λ_=>pure p) y XA j) XA c:=by
  rw[XO o h];exact wpAny_operating (gz d (λp j n=>aw<|wpAny_letTemporaryGo<|aM n) λ_ Y e=>e)
 first
  | exact aM (aw f)
  | exact aw (aM<|aw f)
  | exact aw f
def B1{A:ai}(z:aG c G B j m)(O:e2 j g A o):m.TypeIs (.ref g) "dict" := by
 rcases O with ⟨Xy,q,a,_,_⟩|⟨Xy,q,d,a,_,_,_⟩
 ·let@⟨_,_,⟨@Q,_,b⟩⟩:=lL z.aU a;exact b.typeIs
 ·let@⟨_,_,⟨@x,_,b⟩⟩:=mj z.aU a;exact b.typeIs
def Mv(k ty:bL):bL:=(λB j y=>k B j λe XE=>ty B XE λA XS=>∃g u,e=.ref g/\e2 XS g A (Z u)/\y u XS)
section
variable{c:aI}{o h a Y2:aY}{XP i t:b9}{k ty l:bL}
def sA(d:c.A.units+20<bj)(f:bu c o k)(XG:bu c h ty)(XO:oN h):bu c (.Subscript o h XP) (Mv k ty):=by
 intro G m B j y z b;refine NI JP.lookup XO (bK (f G m B j _ z b) λI i ⟨e,XE,l,n,p⟩=>bK (XG G i B XE _ l p) λw x q=>?_);let⟨A,@XS,a,r,⟨g,@u,Yp,O,s⟩⟩:=q;subst Yp;obtain rfl:I=ag.ref g:=n;exact⟨B1 a O,HJ d a O r λC D t v=>⟨u,XS,t,v,s⟩⟩
end
def TB(b:aV)(a:h4<b.objs.size):en XI H j (b.push {cls:=.type "dict",data:=.dict #[]}) b.objs.size (.cb []):=
 ⟨e9 _,ve.mpr<|dn<|c0 a,[],.nil,aV.DictOf.new b⟩
def Bw(b:aV)(a:h4<b.objs.size):en XI H j (b.push {cls:=.type "dict",data:=.dict #[]}) b.objs.size (.aE []):=
 ⟨e9 _,ve.mpr<|dn<|c0 a,[],.nil,_,#[],0,dE _ rfl,⟨rfl,rfl,rfl⟩,rfl,rfl,gB⟩
def LH:bL:=(λ_ j y=>∀n,j n=V->y (.ref n) (upd j n<|.aE []))
section
variable{c:aI}{XP:b9}
def VL:bu c (.Dict [] [] XP) LH:=λG m B j y z b=>
 wpAny_Dict_empty ⟨.ref m.heap.objs.size,_,z.laid (g:=m.heap.objs.size) (o:=.aE []) (Yc:=m.toks) (λ_ Y s=>cw _ s) (bk _)<|Bw m.heap z.big,rfl,b _<|z.aU.fresh<|bk _⟩
end
def vH:List (bL×bL)->aZ->ax->(List (ai×ai)->ax->Prop)->Prop
 |[],_,j,y=>y [] j
 | (Yb,l)::p,B,j,y=>Yb B j λe XE=>l B XE λA XS=>vH p B XS λXF a=>y ((e,A)::XF) a
abbrev C3:List (ai×ai)->List (ag×ag)->Prop:=dB λn s=>bU n.1 s.1/\bU n.2 s.2
def qE(c:aI)(XP:b9)(Yu:List (Option aY))(E:List aY)(Y5:List (bL×bL)):Prop:=(
 ∀(G:List (aq×a5)) (m:au) (B:aZ) (j:ax) (y:List (ai×ai)->ax->Prop),aG c G B j m->vH Y5 B j y->
  wpAny (aN c.prog c.w) c.A (evalPairs<|pairTrees Yu E c.env XP) (λQ XM=>∃XF S,aG c G B S XM/\C3 XF Q/\y XF S) c.cP m)
def FL:qE c XP [] [] []:=λG m B j y z b=>GH ⟨[],j,z,.nil,b⟩
def Bi{q u:aY}{M:List (Option aY)}{Q:List aY}{Yb l:bL}(a:bu c q Yb)(d:bu c u l)(f:qE c XP M Q Y5):
  qE c XP (Z q::M) (u::Q) ((Yb,l)::Y5):=λG m B j y z b=>
 Ir (bK (a G m B j _ z b) λI g ⟨e,XE,h,i,k⟩=>bK (d G g B XE _ h k) λx n ⟨A,XS,o,p,r⟩=>
  bK (f G n B XS _ o r) λC D ⟨XF,s,t,v,w⟩=>⟨(e,A)::XF,s,t,.cons ⟨i,p⟩ v,w⟩)
def mR(Xy b:List (cy×ai)):List (cy×ai):=(b.foldl (λc a=>eM c a.1 a.2) Xy)
def eE.merge:∀{c:List (cy×ai)}{X3:List (cy×ag)}{Xy:List (cy×ai)}{Q:List (cy×ag)},eE c X3->eE Xy Q->eE (mR Xy c) (merged Q X3):=by
 intro c X3 Xy Q p;unfold eE at p;induction p generalizing Xy Q with
 |nil=>intro s;exact s
 |@cons n s XF d5 b C d=>
  intro e;have a:eE (eM Xy n.1 n.2) (stored Q s.1 s.2):=by
   have:=e.put n.1 b.2;rw[<-b.1];exact this
  exact d a
theorem Bs:∀(a Xy:List (cy×ai)),(mR Xy a).length<=Xy.length+a.length
 |[],Xy=>by show Xy.length<=Xy.length+0;lia
 |n::p,Xy=>by
  have l:=Bs p (eM Xy n.1 n.2);have t:=An Xy n.1 n.2;show (mR (eM Xy n.1 n.2) p).length<=_;rw[b6];lia
theorem Gp{XI:bB}{H:a9}:∀{Xy:List (cy×ai)}{a:List (ag×ag)},C3 (Xy.map λc=>(bR c.1,c.2)) a->∃X3,Carries (ip XI H) a X3/\eE Xy X3
 |[],_,p=>by rw[IT]at p;cases p;exact⟨[],True.intro,.nil⟩
 |n::Xy,_,p=>by
  rw[bz]at p;cases p with
  |@cons g d e bs b C=>
   let⟨@X3,f,s⟩:=Gp (XI:=XI) (H:=H) C;let⟨c2,c6⟩:=d;exact⟨(n.1,c6)::X3,⟨nx b.1,rfl,f⟩,.cons ⟨rfl,b.2⟩ s⟩
def U4(Y5:List (bL×bL)):bL:=(λB j y=>∀n,j n=V->vH Y5 B (upd j n<|.cb []) λXF XS=>XS n=Z (.cb [])/\∃Xy:List (cy×ai),XF=Xy.map (λa=>(bR a.1,a.2))/\Xy.length<=15/\y (.ref n) (upd XS n<|.cb<|mR [] Xy))
def Cu{Yu:List (Option aY)}{E:List aY}(b:qE c XP Yu E Y5)(h:Yu.all (·.isSome)=aa)(k:Yu.length=E.length)(n:Yu≠[])(p:Yu.length<=15):bu c (.Dict Yu E XP) (U4 Y5):=by
 intro G m B j y z s;have q:=z.aU.fresh (bk m.heap.objs.size);have r:=z.laid (g:=m.heap.objs.size) (o:=.cb []) (ah:=m.heap.push {cls:=.type "dict",data:=.dict #[]}) (Yc:=m.toks) (λ_ Y s=>cw _ s) (bk _) (TB m.heap z.big);refine wpAny_Dict_walk (knd:=ip c.prog c.w) h k n p (bK (b G _ B _ _ r<|s _ q) λJ L t=>?_);let⟨XF,@XS,d,rel,a,⟨@Xy,X8,lk,u⟩⟩:=t;subst X8;let⟨@X3,f,v⟩:=Gp (XI:=c.prog) (H:=c.w) rel;let@⟨i,hd,⟨@M,x,A⟩⟩:=yJ d.aU a;cases x;refine⟨X3,f,A,λah e XO=>⟨.ref m.heap.objs.size,_,?_,rfl,u⟩⟩;have C:(mR [] Xy).length<=sizeLine:=by
  have l:=Bs Xy [];rw[gs]at l;rw[tN];lia
 have F:∃s,ah.get? m.heap.objs.size=Z s:=let ⟨s,_,_,I,_⟩:=e;⟨s,I⟩
 exact rV d (by rw[a];exact True.intro) XO F (Cv C hd (v.merge .nil) e)
structure DP(c:aI)(o:aY)(E:aD)(YK:b9)(a:aY)(YA:b9):Prop where
 base:je o E c.env (bP o c.env)=bP o c.env
 dY:((ep YA<|bD [a] c.env).all (λe=>!e.1)&&(ma YA<|mE [] c.env).all (λe=>e.1.isSome)
  && decide (([a]:List aY).length+([]:List g0).length+(if ([]:List g0).isEmpty then 0 else 1)<30))=aa
 line:(YK.endLine==YA.line)=aa
 trees:ep YA (bD [a] c.env)=[(aA,bP a c.env)]
structure He(c:aI)(o:aY)(E:aD)(YK:b9)(a F:aY)(YA:b9):Prop where
 base:je o E c.env (bP o c.env)=bP o c.env
 dY:((ep YA<|bD [a,F] c.env).all (λe=>!e.1)&&(ma YA<|mE [] c.env).all (λe=>e.1.isSome)
  && decide (([a,F]:List aY).length+([]:List g0).length+(if ([]:List g0).isEmpty then 0 else 1)<30))=aa
 line:(YK.endLine==YA.line)=aa
 trees:ep YA (bD [a,F] c.env)=[(aA,bP a c.env),(aA,bP F c.env)]
def tJ(j:ax)(g:aq):Prop:=((∃Xy,g9 j g<|.cb Xy)\/∃Xy,g9 j g (.aE Xy))
def IS(z:aG c G B j m)(r:tJ j g):
  m.TypeIs (.ref g) "dict" /\ (∀d,ag.ref g=.ref d->∃Yo,m.heap.get? d=Z Yo/\Yo.dict=V)/\(g==h4)=aA:=by
 rcases r with ⟨Xy,a⟩|⟨Xy,a⟩
 ·let@⟨_,hd,⟨@Q,_,b⟩⟩:=lL z.aU a;refine⟨b.typeIs,λd s=>?_,hd⟩;cases s;let⟨Yo,Y,@Y,l,t,Y⟩:=b;exact⟨Yo,l,t.2.1⟩
 ·let@⟨_,hd,⟨@x,_,b⟩⟩:=mj z.aU a;refine⟨b.typeIs,λd s=>?_,hd⟩;cases s;let⟨Yo,Y,@Y,l,t,Y⟩:=b;exact⟨Yo,l,t.2.1⟩
section
variable{c:aI}{G:List (aq×a5)}{B:aZ}{j:ax}{m:au}{g:aq}{A r:ai}{I p:ag}{o:Option ai}{L:br}{XA:ag->au->Prop}
def Vs(n:L.units+20<bj)(z:aG c G B j m)(O:e2 j g A o)(k:bU A I)(b:∀l XM,aG c G B j XM->bU (o.getD .aK) l->y l XM):
  wpAny (aN c.prog c.w) L (call (.builtin "dict.get") [.ref g,I]) y XA m:=by
 rcases O with ⟨Xy,q,a,f,J⟩|⟨Xy,q,d,a,f,p,J⟩
 ·subst f;let@⟨i,hd,⟨@Q,h,e⟩⟩:=lL z.aU a;refine uR pR e.typeIs uh (J2 _ _) (meets_dict_get (ip c.prog c.w) g (nx k) hd) ⟨_,e.mapOf,b _ _ (z.tok _) ?_⟩;rw[J];exact (h.val q).getD rfl
 ·subst f;cases (show I=ag.ref d from k);let@⟨i,hd,⟨@x,h,e⟩⟩:=mj z.aU a;refine uR pR e.typeIs uh (J2 _ _) (meetsH_dict_get (ea c.prog c.w) g d hd) ⟨mU n,q,x,jJ z.aU p,e,b _ _ (z.tok _) ?_⟩;rw[J];exact (h.val q).getD rfl
def WE(s:L.units+20<bj)(z:aG c G B j m)(O:e2 j g A o)(k:bU A I)(l:bU r p)(b:∀n XM,aG c G B j XM->bU (o.getD r) n->y n XM):
  wpAny (aN c.prog c.w) L (call (.builtin "dict.get") [.ref g,I,p]) y XA m:=by
 rcases O with ⟨Xy,q,a,f,J⟩|⟨Xy,q,d,a,f,t,J⟩
 ·subst f;let@⟨i,hd,⟨@Q,h,e⟩⟩:=lL z.aU a;refine uR pR e.typeIs uh (Jy _ _ _) (meets_dict_get_default (ip c.prog c.w) g (nx k) hd p) ⟨_,e.mapOf,b _ _ (z.tok _) ?_⟩;rw[J];exact (h.val q).getD l
 ·subst f;cases (show I=ag.ref d from k);let@⟨i,hd,⟨@x,h,e⟩⟩:=mj z.aU a;refine uR pR e.typeIs uh (Jy _ _ _) (meetsH_dict_get_default (ea c.prog c.w) g d hd p) ⟨mU s,q,x,jJ z.aU t,e,b _ _ (z.tok _) ?_⟩;rw[J];exact (h.val q).getD l
end
def NN(k ty:bL):bL:=(λB j y=>k B j λe XE=>∃g,e=.ref g/\tJ XE g/\ty B XE λA XS=>∃o,e2 XS g A o/\y (o.getD .aK) XS)
def Th(k ty l:bL):bL:=(λB j y=>k B j λe XE=>∃g,e=.ref g/\tJ XE g/\ty B XE λA XS=>l B XS λi a=>∃o,e2 a g A o/\y (o.getD i) a)
section
variable{c:aI}{o a F:aY}{YK YA:b9}{k ty l:bL}
def Nh(f:c.A.units+20<bj)(h:bu c o k)(i:bu c a ty)(E:DP c o "get" YK a YA):bu c (.Call (.Attribute o "get" YK) [a] [] YA) (NN k ty):=by
 intro G m B j y z b;refine w3 E.base E.dY E.line r8 pR CI (bK (h G m B j _ z b) λI l n=>?_);let⟨e,@XE,d,p,⟨@g,Yp,r,q⟩⟩:=n;subst Yp;obtain rfl:I=ag.ref g:=p;let@⟨s,t,_⟩:=IS d r;refine⟨s,t,?_⟩;rw[E.trees];refine r4 rfl (tb<|pj<|bK (i G l B XE _ d q) λD F ⟨A,XS,u,v,H,O,w⟩=>ri ?_);exact Vs f u O v λJ M x C=>⟨_,XS,x,C,w⟩
def UQ(f:c.A.units+20<bj)(h:bu c o k)(n:bu c a ty)(p:bu c F l)(E:He c o "get" YK a F YA):bu c (.Call (.Attribute o "get" YK) [a,F] [] YA) (Th k ty l):=by
 intro G m B j y z b;refine w3 E.base E.dY E.line r8 pR CI (bK (h G m B j _ z b) λI q s=>?_);let⟨e,@XE,d,t,⟨@g,Yp,r,u⟩⟩:=s;subst Yp;obtain rfl:I=ag.ref g:=t;let@⟨v,w,_⟩:=IS d r;refine⟨v,w,?_⟩;rw[E.trees];refine r4 rfl (tb<|pj (bK (n G q B XE _ d u) λS x ⟨A,XS,C,D,H⟩=>
  pj (bK (p G x B XS _ C H) λT U ⟨i,J,M,N,al,O,P⟩=>ri ?_)));exact WE f M O D N λam an Q R=>⟨_,J,Q,R,P⟩
end
end L2
namespace D5
open PySem.W PySem.Calls PyProof.Rows
variable{v:Nat}{J:OpenLaw}
def Mm{XI:tT}{b:aV}:∀(XY:List Int) (Q:List ag),WellAll XI b Q (XY.map rK.int)->sq Q XY:=by
 intro XY;induction XY with
 |nil=>
  intro Q H;rw[IT]at H;cases H;exact .nil
 |cons v XY a=>
  intro Q H;rw[bz]at H;cases H with
  |cons g d=>
   cases g;exact .cons _ _ (a _ d)
def RM(h:J.most=Z v){XI:tT}{b:aV}{args:List rK}{d:List ag}(e:J.row.toRowW.claim.pre args=aa)(i:WellAll XI b d args):
  ∃g Q XY,d=[ag.ref g]/\args=[rK.list (XY.map rK.int)]/\b.get? g=Z {cls:=.type "list",data:=.seq Q.toArray}/\sq Q XY/\XY.length<=v:=by
 have Hz:sC.hasAll [] args [.list .int]=aa:=(pre_splitW e).1;have f:J.pre.holds [] {args:=args}=aa:=(pre_splitW e).2;let⟨r,@p,rfl,l,t⟩:=hasAllW_cons Hz;obtain rfl:=hasAllW_nil t;let⟨@x,rfl,j⟩:=hasW_list l;let⟨@XY,rfl⟩:=items_int j;have k:XY.length<=v:=by
  unfold OpenLaw.pre at f;have a:(WTm.not<|.lt (.lit<|.int (v:Int))<|.len<|.arg 0).holds [] {args:=[.list (XY.map .int)]}=aa:=by
   have a:=(holds_andW f).1;rw[h]at a;exact a
  have c:=condW_of a (w_not<|w_lt w_lit<|w_len_list<|w_arg rfl);rw[a6]at c;refine AQ λs=>?_;have cU:(v:Int)<((XY.length:Nat):Int):=⋯
  first
   | (rw[bG cU]at c;exact absurd c ∅)
   | (simp at c;lia)
 cases i with
 |cons cc m=>
  cases m;cases cc with
  |list n o=>exact⟨_,_,XY,rfl,rfl,n,Mm XY _ o,k⟩
def RE(J:OpenLaw)(args:List rK):J.row.toRowW.claim.post args (.bool aa) args=aa:=
 postW_of (r:=J.row.toRowW) (X:=(aa==aa))
  (show sC.has [] (.bool aa) .bool=aa by first|rfl|decide|simp[sC.has,sC.arms,sC.armsAll])
  (show (WTm.eq .res<|.lit<|.bool aa).value [] {args:=args,res:=Z (.bool aa),after:=args}=Z (.bool<|aa==aa) from w_eq_bool (w_res rfl) w_lit) rfl
def Oy{s:bB}{e:List aD}{f:(aD->Option ag)->aV->Prop}{h:a9->aV->Prop}{r:DefRec}(j:J.most=Z v)(k:r.params.defaults=[])(call:∀(H:a9) (fa a:au) (aJ d:aD->Option ag) (b:aq) (o:a5) (X5 c w:ag) (g:aq) (Q:List ag) (XY:List Int),
   Ground s e [] f H fa aJ d a.heap->h H a.heap->
   a.heap.get? b=Z o->o.data=.func (docDef r.name r.params r.body r.scope X5 c w)->a.heap.CodeRec c r.name->aJ r.name=Z (.ref b)->
   a.heap.get? g=Z {cls:=.type "list",data:=.seq Q.toArray}->sq Q XY->XY.length<=v->a.gens=#[]->
   codeAny (aN J.prog H) oG (.call (.ref b) ⟨[.ref g],[]⟩) (λp XM=>p=.ok (.ret<|.bool aa)/\OldK a.heap XM.heap/\XM.os=a.os/\l1 XM.gens) a):
  WalkO s e f h J.row.toRowW r [] (λF Q=>PySem.call F Q):=by
 intro H fa a aJ d XH l b o X5 c w m bR n hd q i u x args L M y N O z P;obtain rfl:m=.none:=Dflts.none i k;obtain rfl:bR=.none:=Dflts.noKw i;let⟨g,Q,@XY,rfl,rfl,A,B,C⟩:=RM j y z;refine enter_call (qF (call H fa a aJ d b o X5 c w g Q XY XH l n (fd_plain hd) q u A B C x) λp XM D=>?_);let@⟨rfl,t,E,G⟩:=D;exact⟨.inl ⟨.bool aa,.bool aa,[],rfl,λ_=>rfl,.bool aa,RE J _,λ_=>⟨List.Pairwise.nil,λ_ I=>(nomatch I)⟩⟩,t,E,G⟩
end D5
namespace L2
open Spec PyProof.Rows
variable{XF:List aD}{F d:aq}{R:cE}{YI e:aD}{YT:mI}{fd:gZ}{q:Nat}{I:eY}{b:aV}{j:ax}{H:a9}{XI:bB}{o:a5}
theorem H9:∀{Q:List ag}{XY:List Int},sq Q XY->bN (XY.map ai.int) Q
 |_,_,.nil=>.nil
 |_,_,.cons v C b=>.cons ⟨C,rfl⟩ (H9 b)
def sk(j:ax):Prop:=(∀d,j d=V\/(∃o x,j d=Z (.dw o<|.lst x))\/∃x,j d=Z (.tup x))
def Lr{x:List ai}(f:rj o=Z x):∃h C k I v,(o.cls,o.dict)=(.type "tuple",V)/\o.data=.seq [.int h C,.int k I].toArray v/\x=[.int h,.int k]:=by
 unfold rj at f;split at f
 ·rename_i XN v l t b;unfold JK at f;split at f
  ·rename_i h C k I a;cases f;exact⟨h,C,k,I,v,lz l t,b.trans (by rw[<-a,Array.toArray_toList]),rfl⟩
  ·cases f
 ·cases f
def De(a:b.get? d=Z o)(f:kk o=Z I):∃x,I=.tup x/\en XI H j b d I:=by
 unfold kk at f;cases r:rj o with
 |none=>rw[r]at f;cases f
 |some x=>
  rw[r]at f;cases f;let⟨h,C,k,u,v,l,t,rfl⟩:=Lr r;exact⟨_,rfl,dg (show 2<=2 from bk 2) ∅,[.int h C,.int k u],.cons ⟨C,rfl⟩<|.cons ⟨u,rfl⟩ .nil,o,a,l,v,t⟩
def h6(b:aV)(j:ax):ax:=(λd=>match j d with
 |some I=>Z I
 |none=>match b.get? d with
  |some o=>kk o
  |none=>V)
def SQ(v:j d=V)(a:b.get? d=Z o):h6 b j d=kk o:=by
 unfold h6;rw[v];dsimp only;rw[a]
def V6(v:j d=Z I):h6 b j d=Z I:=by
 unfold h6;rw[v]
def Il(v:h6 b j d=Z I):j d=Z I\/∃o,b.get? d=Z o/\kk o=Z I:=by
 unfold h6 at v;cases s:j d with
 |some u=>rw[s]at v;cases v;exact .inl rfl
 |none=>
  rw[s]at v;dsimp only at v;cases a:b.get? d with
  |none=>rw[a]at v;cases v
  |some o=>rw[a]at v;exact .inr ⟨o,rfl,v⟩
def S9{U:Φ}{aJ z:aD->Option ag}{YR:kY}{A g:aq}{c:au}{Q:List ag}{XY:List Int}(D:U.In c.heap)(F:c.heap.Ns d9 aJ)(k:c.heap.Ns sY z)(am:∀e:aD,e ≠ "__name__" -> z e=fb e)(an:c.heap.NoLimit)(ap:c.gens=#[])(w:c.heap.get? g=Z {cls:=.type "list",data:=.seq Q.toArray})(XG:sq Q XY)(G:XY.length<=sizeLine)(as:e0 q oG)(N:∀X9:aV,U.In X9->X9.Ns d9 aJ->iH XI H U aJ X9 YR q A fd [e] YT)(a1:∀(m:au) (I:ag),nc m fd ⟨[I],[]⟩ [(e,I)])(a2:∀j:ax,sk j->dm U j g (XY.map ai.int)->YT [.ref g] j (λu Y=>u=.aH aa) λ_ Y Y=>False)(bd:∀j a XM,YR [] j c (λ_ Y Y=>False) a XM->False):
  codeAny (aN XI H) oG (.call (.ref A) ⟨[.ref g],[]⟩) (λp XM=>p=.ok (.ret<|.bool aa)/\OldK c.heap XM.heap/\XM.os=c.os/\l1 XM.gens) c:=by
 have J:=H9 XG;have be:=XG.length;have L:∀h:ax,sk h->dm U (h6 c.heap h) g (XY.map ai.int)->(∀j d I,h d=Z I->en XI H j c.heap d I)->(∀d,h d≠V->d=g)->(h g≠V->U.lookup g=V)->
   codeAny (aN XI H) oG (.call (.ref A) ⟨[.ref g],[]⟩) (λp XM=>p=.ok (.ret<|.bool aa)/\OldK c.heap XM.heap/\XM.os=c.os/\l1 XM.gens) c:=by
  intro h bi bm bn M bs;have O:∀{d:aq}{o:a5},c.heap.get? d=Z o->h d=V->(lb c.heap h).get? d=Z o:=λa v=>Ru a v;have aU:ee XI H (h6 c.heap h) c.heap:=λd I s=>by
   rcases Il s with s|⟨o,a,f⟩
   ·exact bn _ d I s
   ·exact (De a f).choose_spec.2
  have R:sk (h6 c.heap h):=λd=>by
   cases s:h6 c.heap h d with
   |none=>exact .inl rfl
   |some I=>
    rcases Il s with s|⟨o,a,f⟩
    ·rcases bi d with i|i
     ·rw[i]at s;cases s
     ·rw[<-s];exact .inr i
    ·let⟨x,rfl,Y⟩:=De (XI:=XI) (H:=H) (j:=h) a f;exact .inr (.inr ⟨x,rfl⟩)
  have bv:∀{d:aq}{o:a5}{P:Array xo}{X8:Nat},c.heap.get? d=Z o->o.data=.dict P X8->h d=V:=λ{d o P X8} a r=>by
   cases s:h d with
   |none=>rfl
   |some I=>
    have B:d=g:=M d (by rw[s];simp);subst B;rw[w]at a;cases a;have YE:Data.seq Q.toArray _=Data.dict P X8:=r;cases YE
  have y:∀{d:aq}{E:aD->Option ag},c.heap.Ns d E->(lb c.heap h).Ns d E:=λ{d E} ⟨o,P,X8,a,r,p⟩=>⟨o,P,X8,O a<|bv a r,r,p⟩;have T:U.In (lb c.heap h):=λd o a=>O (D d o a) (by
   cases s:h d with
   |none=>rfl
   |some I=>
    have B:d=g:=M d (by rw[s];simp);subst B;rw[bs (by rw[s];simp)]at a;cases a)
  have ca:Mod U aJ (lb c.heap h):=⟨T,y F,⟨z,y k,am⟩,let ⟨cd,l,t⟩:=an;⟨cd,y l,t⟩⟩;have ce:u_ XI H U aJ (lb c.heap h) oG [] c (h6 c.heap h):=⟨rfl,ca,λd o a=>⟨(zG a).1,SQ (zG a).2 (zG a).1⟩,rP<|VM _ _,trivial,λd k=>absurd (show d∈([]:List aq) from k) ↥0,aU,.of_eq ap⟩;refine qF ((N _ T<|y F).run oG [] c (h6 c.heap h) ⟨[.ref g],[]⟩ [.ref g] [.ref g] _ _ as ce (a1 c<|.ref g) (.cons rfl .nil)<|a2 (h6 c.heap h) R bm) λp XM b=>?_;cases p with
  |error a=>exact (bd (h6 c.heap h) a XM b).elim
  |ok aW=>
   cases aW with
   |next=>exact False.elim b
   |brk=>exact False.elim b
   |cont=>exact False.elim b
   |ret I=>
    let⟨u,S,XU,ch,un,ci,Yr,s⟩:=b;have cU:u=.aH aa:=s;subst cU;obtain rfl:I=ag.bool aa:=Yr;refine⟨rfl,OldK.of_keep λd o a=>?_,XU,ch⟩;rcases R d with s|⟨Yo,x,i⟩|⟨x,i⟩
    ·exact un.keep d o a s (by intro i;exact absurd (show d∈([]:List aq) from i) ↥0) ↥0
    ·have cl:=un.i_ d Yo _ i;let⟨al,Y⟩:=aU d _ i;let⟨co,Y⟩:=ci d _ cl;rw[a]at al;cases al;exact co
    ·exact un.jc d o x a i ↥0
 cases C:U.lookup g with
 |some o=>
  have a:=D g o C;rw[w]at a;cases a;refine L (λ_=>V) (λ_=>.inl rfl) (.inr ⟨_,Q.toArray,_,C,rfl,rfl,rfl,by rw[cK,be];exact G,by simpa using J⟩) (λj d I i=>by have n:(V:Option eY)=Z I:=i;cases n) (λd i=>absurd rfl i) λi=>absurd rfl i
 |none=>
  refine L (λd=>if d=g then Z (.dw {cls:=.type "list",data:=.seq Q.toArray} (.lst<|XY.map ai.int)) else V) (λd=>?_) (.inl<|.inr ⟨{cls:=.type "list",data:=.seq Q.toArray},V6<|aF rfl⟩) (λj d I i=>?_) (λd i=>?_) λ_=>C
  ·by_cases k:d=g
   ·exact .inr (.inl ⟨_,_,aF k⟩)
   ·exact .inl (if_neg k)
  ·by_cases k:d=g
   ·have n:=(aF k).symm.trans i;cases n;subst k;exact⟨w,by rw[a6];exact G,Q,_,J,w⟩
   ·have n:=(if_neg k).symm.trans i;cases n
  ·by_cases k:d=g
   ·exact k
   ·exact absurd (if_neg k) i
def N6{J:PySem.W.OpenLaw}{v:Nat}{s:bB}{k:List aD}{l:(aD->Option ag)->aV->Prop}{f:a9->aV->Prop}{r:DefRec}{U:tT->Φ}{YR:a9->kY}{YT:a9->mI}(n:J.most=Z v)(p:v<=sizeLine)(t:r.params.defaults=[])(x:e0 q oG)(y:∀(H:a9) (b:aV),f H b->(U H.params).In b)(N:∀(H:a9) (aJ:aD->Option ag) (c:aq) (b:aV),(U H.params).In b->b.Ns d9 aJ->aJ r.name=Z (.ref c)->
   ∃fd:gZ,(∀(m:au) (I:ag),nc m fd ⟨[I],[]⟩ [(e,I)])/\
    ∀X9:aV,(U H.params).In X9->X9.Ns d9 aJ->iH J.prog H (U H.params) aJ X9 (YR H) q c fd [e] (YT H))(z:∀(H:a9) (j:ax) (g:aq) (XY:List Int),XY.length<=v->sk j->dm (U H.params) j g (XY.map ai.int)->YT H [.ref g] j (λu Y=>u=.aH aa) λ_ Y Y=>False)(A:∀(H:a9) (j:ax) (m:au) (a:ag) (XM:au),YR H [] j m (λ_ Y Y=>False) a XM->False):
  PySem.W.WalkO s k l f J.row.toRowW r [] (λF Q=>PySem.call F Q):=by
 refine D5.Oy n t λH fa B aJ al c o X5 am w g Q XY XH C an hd ap D E G h L=>?_;have i:=y H _ C;let⟨@fd,M,P⟩:=N H aJ c _ i XH.T.g D;exact S9 i XH.T.g XH.T.b XH.T.builtins XH.T.nolimit L E G (dg h p) x P M (λj R S=>z H j g XY h R S) λj a XM=>A H j B a XM
def h3(m:cE):Arguments:=(match m with
 |.FunctionDef _ g _ _ _ _ _ _ _ _=>g
 |_=>{posonlyargs:=[],args:=[],vararg:=V,kwonlyargs:=[],kw_defaults:=[],kwarg:=V,defaults:=[]})
def gI(m:cE):List cE:=(match m with
 |.FunctionDef _ _ d _ _ _ _ _ _ _=>d
 |_=>[])
def d8(m:cE):hn:=(match m with
 |.FunctionDef _ _ _ _ _ _ T _ _ _=>T
 |_=>{kind:=.function,names:=[],isGenerator:=aA,isCoroutine:=aA})
abbrev ih:kY:=λ_ _ _ _ _ _=>False
abbrev UG:gT:=λ_ _ _=>False
def LD{c:aI}:v9 ih c UG:=λ_ Y Y Y Y Y Y b=>b.elim
structure gV(U:Φ)(e YI:aD)(R:cE)(F:aq)(fd:gZ):Prop where
 ex:∃(t:ag) (l:Option aq) (bR w X5:ag) (T:Option aq) (i cv:ag) (Y8:Array (Option ag)),
  fd=Ψ e YI (h3 R) (gI R) (d8 R) .none bR w X5 T i cv/\U.lookup F=Z ⟨t,l,.func fd,Y8⟩/\Δ U i YI=aa
 b3:Θ U (.ref F)=aa
section
variable{XI:bB}{H:a9}{U:Φ}{aJ:aD->Option ag}{X9:aV}
def gV.ok{Yg:List aD}(N:gV U e YI R F fd)(XC:oJ Yg XF (d8 R))(len:∀Q j y XA,YT Q j y XA->Q.length=XF.length)(a:∀(i:ag) (L:br) (Ys:List eQ) (m:au) (j:ax) (Q:List ai) (y:cI) (XA:gT),e0 q (L.deeper<|jm YI (d8 R) m.heap.objs.size F i)->YT Q j y XA->
   ∃C,hU (lC ih XI H U aJ X9 Yg YI (d8 R) F i L Ys m j XA).oq (gI R) C/\C {bA:=λ_ S=>y .aK S,eO:=y} (start Yg Q) j):iH XI H U aJ X9 ih (q+1) F fd XF YT:=by
 let⟨t,l,bR,w,X5,T,i,cv,@Y8,rfl,lk,c⟩:=N.ex;refine Lc lk c XC len λL Ys m j Q y XA d f=>?_;let⟨@C,b,s⟩:=a i L Ys m j Q y XA d f;exact⟨C,b.oq,s⟩
def gV.binds(N:gV U e YI R F fd)(b:∀(bR w X5:ag) (T:Option aq) (i cv:ag) (XZ:List ag),XZ.length=XF.length->kB (Ψ e YI (h3 R) (gI R) (d8 R) .none bR w X5 T i cv) ⟨XZ,[]⟩=pure (XF.zip XZ)):i9 U fd XF []:=by
 let⟨t,l,bR,w,X5,T,i,cv,@Y8,rfl,lk,a⟩:=N.ex;exact .all (b bR w X5 T i cv)
def Tu{t:ag}{l T:Option aq}{Y8:Array (Option ag)}{bR w X5 i cv:ag}(J:U.lookup F=Z ⟨t,l,.func<|Ψ e YI (h3 R) (gI R) (d8 R) .none bR w X5 T i cv,Y8⟩)(f:Δ U i YI=aa)(q:Θ U (.ref F)=aa):gV U e YI R F (Ψ e YI (h3 R) (gI R) (d8 R) .none bR w X5 T i cv):=⟨⟨t,l,bR,w,X5,T,i,cv,Y8,rfl,J,f⟩,q⟩
end
section
variable{c:aI}
def cz(h:Nat){e:aD}{XP:b9}(a:c.N[h]?=Z e:=by rfl)(b:tH c.env.scope e:=by first|exact Or.inl rfl|exact Or.inr (Or.inl rfl)|exact Or.inr (Or.inr rfl))(hd:(e==("__debug__" : aD))=aA:=by decide)(d:(e==("__classdict__" : aD))=aA:=by decide):bu c (.Name e XP) (hZ h):=BJ a b hd d
end
def cN(j S:ax):Prop:=(∀d o,j d=Z o->S d=Z o)
def cN.refl(j:ax):cN j j:=λ_ Y b=>b
end L2
namespace L2
section
variable{c:aI}
def Un:eK c (.builtin "len") (λx j y=>∃g Xy,x=[ai.ref g]/\j g=Z (.cb Xy)/\y (.int Xy.length) j):=by
 intro G m B j x XZ y z p b;let⟨g,@Xy,rfl,a,s⟩:=b;let⟨@I,rfl,d⟩:=hD p;cases d;exact SI z (.inl a) λC XM e=>⟨.int Xy.length,j,e,⟨C,rfl⟩,s⟩
end
end L2
namespace L2
open Spec PyProof.Rows
variable{XF Yh:List Nat}{XR:Type}{o Yq:a5}{X1 bl:Array ag}{J YH XC z r aL:aq}{YC:Bool}{XI:List X->aq->Prop}{YN YM v h X8 Y6:Nat}{e YL:ag}{C:aO}{P:Array (Int×ag)}{y:Option ag->au->Prop}{b l:aV}{M:List ag}{YZ:ki}{Yi YO Y1:aY}{XK:List (aD×aq)}{b7:List aq}{j:ax}{B:aZ}{G:List (aq×a5)}{own:List aD}{Xx:eQ}{XP:b9}{X2:hn}{YW:List aY}{m:au}{Xz:qw->au->Prop}{L:br}{H:a9}
def P_{XJ:bB}{c:aY}{aP g:ag}(z:Nat->au->Prop)(n:∀v m,z v m->wpAny (aN XJ H) L (fE aP) (λp a=>match p with
   |none=>Xz (.ok .next) a
   |some u=>wpAny (aN XJ H) L (uv c aP u) (λ_ a=>wpAny (aN XJ H) L (hY c Xx u) (λ_ i=>
     wpAny (aN XJ H) L (forIn YW aa λf p=>if p=aa then do let ok <-qe f Xx (bP f Xx);pure (ForInStep.yield ok) else pure (ForInStep.yield p)) (λok h=>
      if ok=aa then wpAny (aN XJ H) L (bP Y1 Xx) (λe j=>
       wpAny (aN XJ H) L (call (.builtin "list.append") [g,e]) (λ_ k=>∃E,E<v/\z E k) (λ_ Y=>False) j) (λ_ Y=>False) h
      else ∃E,E<v/\z E h) (λ_ Y=>False) i) (λ_ Y=>False) a) (λ_ Y=>False) a) (λ_ Y=>False) m)(v:Nat)(b:z v m):
  codeAny (aN XJ H) L (.compLoop (.ListComp Y1 [⟨c,YO,YW,0⟩] X2 XP) 0 aP g Xx) Xz m:=by
 refine codeAny_loop rfl z (λv m d4=>?_) v b;show wpAny _ L ((compTurn (.ListComp Y1 [⟨c,YO,YW,0⟩] X2 XP) 0 aP g Xx).onRaise (λe=>do noteFrame e Xx;theTreesLotGoes e)) _ _ m;refine wpAny_noted ?_;rw[compTurn_list];refine aw (zd<|aw<|gz (n v m d4) (λp a d=>?_) λ_ Y ah=>ah.elim);cases p with
 |none=>exact aM d
 |some u=>
  refine aw (gz d (λ_ a d=>?_) λ_ Y ah=>ah.elim);refine aw (gz d (λ_ i o=>aw<|gz o (λok h l=>?_) λ_ Y ah=>ah.elim) λ_ Y ah=>ah.elim);cases ok with
  |false=>exact aM ⟨rfl,l⟩
  |true=>
   exact aw (aw<|gz l (λe j q=>aw<|gz q (λ_ k r=>aM<|aM ⟨rfl,r⟩) λ_ Y ah=>ah.elim) λ_ Y ah=>ah.elim)
def kK(Xx:eQ)(Yl:List (aD×c7)):List (aD×aq):=(Yl.foldl (λXK A=>if A.2==.free then (A.1,(Xx.cells.lookup A.1).getD 0)::XK else XK) [])
theorem w6{Xx:eQ}:∀(Yl:List (aD×c7)) (XK:List (aD×aq)),(∀A∈Yl,A.2=.free->∃f,Xx.cells.lookup A.1=Z f)->
  (forIn Yl XK λ(A:aD×c7) XK=>if A.2==.free then (do let f <-tK Xx A.1;pure (ForInStep.yield ((A.1,f)::XK))) else pure (ForInStep.yield XK):eP _)=
   pure (Yl.foldl (λXK A=>if A.2==.free then (A.1,(Xx.cells.lookup A.1).getD 0)::XK else XK) XK)
 |[],XK,_=>rfl
 |A::p,XK,b=>by
  rw[Dv,km];by_cases c:A.2=.free
  ·let⟨@f,e⟩:=b A mP c;have a:(A.2==c7.free)=aa:=by simp[c]
   rw[aF a,aF a];have g:tK Xx A.1=pure f:=by unfold tK;rw[e]
   rw[g,e];show (forIn p ((A.1,f)::XK) _:eP _)=_;exact w6 p _ λi d=>b i (kW _ d)
  ·have a:¬ (A.2==c7.free)=aa:=by simp[c]
   rw[if_neg a,if_neg a];show (forIn p XK _:eP _)=_;exact w6 p _ λi d=>b i (kW _ d)
def QU(b:∀A∈X2.names,A.2=.free->∃f,Xx.cells.lookup A.1=Z f):closureFor X2 Xx=pure (kK Xx X2.names):=by
 have:=w6 (Xx:=Xx) X2.names [] b;unfold closureFor;dsimp only;have a:(forIn X2.names ([]:List (aD×aq))<|λ(e:aD×c7) (p:List (aD×aq))=>(if e.2==.free then (do let f <-tK Xx e.1;pure (ForInStep.yield ((e.1,f)::p))) else pure (ForInStep.yield p):eP (ForInStep<|List<|aD×aq)))=pure (kK Xx X2.names):=this;rw[a];rfl
theorem CE{Xx:eQ}:∀(Yl:List (aD×c7)) (XK:List (aD×aq)) (e:aD) (f:aq),
  (Yl.foldl (λXK A=>if A.2==.free then (A.1,(Xx.cells.lookup A.1).getD 0)::XK else XK) XK).lookup e=Z f->
  (f=(Xx.cells.lookup e).getD 0/\(e,c7.free)∈Yl)\/XK.lookup e=Z f
 |[],XK,e,f,b=>.inr b
 |A::p,XK,e,f,b=>by
  rw[km]at b;rcases CE p _ e f b with ⟨a,E⟩|b
  ·exact .inl ⟨a,kW _ E⟩
  ·by_cases c:A.2=.free
   ·rw[aF (by simp[c])]at b;rw[gK]at b;by_cases d:e=A.1
    ·subst d;rw[iu]at b;refine .inl ⟨(Option.some.inj b).symm,?_⟩;rw[<-c];exact mP
    ·have:(e==A.1)=aA:=by simpa using d
     rw[this]at b;exact .inr b
   ·rw[if_neg (by simp[c])]at b;exact .inr b
theorem xy{Xx:eQ}:∀(Yl:List (aD×c7)) (XK:List (aD×aq)) (e:aD),(e,c7.free)∈Yl\/(∃f,XK.lookup e=Z f)->
  ∃f,(Yl.foldl (λXK A=>if A.2==.free then (A.1,(Xx.cells.lookup A.1).getD 0)::XK else XK) XK).lookup e=Z f
 |[],XK,e,b=>by
  rcases b with b|b
  ·cases b
  ·exact b
 |A::p,XK,e,b=>by
  rw[km];apply xy p _ e;rcases b with b|⟨f,b⟩
  ·rcases b0.mp b with a|b
   ·right;subst a;rw[aF (by rfl),gK,iu];exact⟨_,rfl⟩
   ·exact .inl b
  ·right;by_cases c:(A.2==c7.free)=aa
   ·rw[aF c,gK];cases e==A.1
    ·exact⟨f,b⟩
    ·exact⟨_,rfl⟩
   ·rw[if_neg c];exact⟨f,b⟩
structure mF where
 aL:aq
 s:au
 H:ax
 b7:List aq
 cs:List (aD×aq)
variable{YQ:mF->bL}{Y9:mF->eG}{O:mF->g7}
def aI.hL(c:aI)(b:List aD)(X2:hn)(a:mF): aI :=(
  {prog:=c.prog,w:=c.w,K:=c.K,aJ:=c.aJ,base:=c.base,A:=c.A,N:=b,fa:=a.s,mh:=a.H,env:=s9 X2 (a.cs ++ kK c.env X2.names) a.aL c.env,outer:=c.stack,stack:=c.stack,
    ex:=a.b7,fn:=λe => X2.names.lookup e==Z .cell,calm:=c.calm,j3:=[],cP:=λ_ Y => False})
structure uL(Y6:Nat)(Yl:List (aD×c7))(XK:List (aD×aq))(b:aV):Prop where
 jG:∀e f,XK.lookup e=Z f->Y6<=f/\b.IsCell f V/\(e,c7.cell)∈Yl
 inj:∀e A f,XK.lookup e=Z f->XK.lookup A=Z f->e=A
def MO{aC:jh}{XA:ag->au->Prop}{t:aq}{p:List (aD×aq)}{YI:aD}{y:eQ->au->Prop}(b:∀ah XK,(∀d o,m.heap.get? d=Z o->ah.get? d=Z o)->ah.Ns m.heap.objs.size (λ_=>V)->uL (m.heap.objs.size+1) X2.names XK ah->(∀e,(e,c7.cell)∈X2.names->∃f,XK.lookup e=Z f)->
   y (newEnv X2 m.heap.objs.size t (XK++p) YI V .none (Z Xx) sY) {m with heap:=ah}):
  wpAny aC L (IB X2 t p [] YI V .none<|Z Xx) y XA m:=by
 unfold IB;refine aw (x5 ?_);have Y6:(m.heap.push {cls:=.type (if (Z Xx).isSome=aa then "dict" else "frame"),data:=.dict #[]}).Ns m.heap.objs.size λ_=>V:=⟨_,#[],_,dE _ rfl,rfl,by intro h XG;simp at XG,λ_=>rfl⟩;refine aw (l6 _ (λcR cells XM=>∃done XK ah,done++cR=X2.names/\cells=XK++p/\XM={m with heap:=ah}/\m.heap.objs.size+1<=ah.objs.size/\(∀d o,m.heap.get? d=Z o->ah.get? d=Z o)/\ah.Ns m.heap.objs.size (λ_=>V)/\uL (m.heap.objs.size+1) X2.names XK ah/\∀e,(e,c7.cell)∈done->∃f,XK.lookup e=Z f) _ ?_ ?_ _ _ ⟨[],[],_,rfl,rfl,rfl,by rw[iL];exact bk _,λd o a=>cw _ a,Y6,⟨(λe f a=>by simp at a),(λe A f a=>by simp at a)⟩,(λe c=>nomatch c)⟩)
 ·rintro⟨w,k⟩ cR cells XM ⟨done,XK,ah,n,rfl,rfl,cS,ext,XY,j,XO⟩;by_cases r:k=.cell
  ·subst r;show wpAny aC L (alloc {cls:=.type "cell",data:=.cell V} >>= λg=>pure<|ForInStep.yield ((w,g)::(XK++p))) _ _ _;refine aw (x5<|aM ?_);have v:∀d o,ah.get? d=Z o->(ah.push {cls:=.type "cell",data:=.cell V}).get? d=Z o:=λd o a=>cw _ a;have x:∀f,(∃u,ah.IsCell f u)->f≠ah.objs.size:=λf ⟨u,o,a,_⟩=>c0 (cn a);refine⟨done++[(w,.cell)],(w,ah.objs.size)::XK,_,by rw[bI];exact n,rfl,rfl,by rw[iL];exact Kc cS,λd o a=>v d o<|ext d o a,XY.push _,⟨λe f a=>?_,λe A f Yp l=>?_⟩,λe c=>?_⟩
   ·rw[gK]at a;by_cases c:e=w
    ·subst c;rw[iu]at a;cases a;exact⟨cS,⟨_,dE _ rfl,rfl⟩,by rw[<-n];exact dH _ (.head _)⟩
    ·rw[show (e==w)=aA by simpa using c]at a;let⟨z,⟨o,B,C⟩,E⟩:=j.jG e f a;exact⟨z,⟨o,v f o B,C⟩,E⟩
   ·rw[gK]at Yp l;by_cases c:e=w
    ·by_cases q:A=w
     ·rw[c,q]
     ·rw[c,iu]at Yp;rw[show (A==w)=aA by simpa using q]at l;cases Yp;exact absurd rfl (x _ ⟨_,(j.jG A _ l).2.1⟩)
    ·rw[show (e==w)=aA by simpa using c]at Yp;by_cases q:A=w
     ·rw[q,iu]at l;cases l;exact absurd rfl (x _ ⟨_,(j.jG e _ Yp).2.1⟩)
     ·rw[show (A==w)=aA by simpa using q]at l;exact j.inj e A f Yp l
   ·rw[gK];by_cases s:e=w
    ·rw[s,iu];exact⟨_,rfl⟩
    ·rw[show (e==w)=aA by simpa using s];refine XO e ((dM.mp c).resolve_right λi=>?_);exact s (Prod.mk.inj<|cf.mp i).1
  ·have a:(k==c7.cell)=aA:=by simpa using r
   show wpAny aC L (if (k==c7.cell)=aa then _ else pure (ForInStep.yield<|XK++p)) _ _ _;rw[if_neg (by rw[a];exact cB)];refine aM ⟨done++[(w,k)],XK,ah,by rw[bI];exact n,rfl,rfl,cS,ext,XY,j,λe c=>XO e<|(dM.mp c).resolve_right λi=>?_⟩;exact r (Prod.mk.inj<|cf.mp i).2.symm
 ·rintro cells XM ⟨done,XK,ah,n,rfl,rfl,cS,ext,XY,j,XO⟩;rw[bO]at n;subst n;exact aw (aM<|aM<|b ah XK ext XY j XO)
theorem mem_of_lookup:∀{J:List (aD×c7)}{e:aD}{q:c7},J.lookup e=Z q->(e,q)∈J
 |[],_,_,b=>by simp at b
 | (v,c)::p,e,q,b=>by
  rw[gK]at b;by_cases a:e=v
  ·subst a;rw[iu]at b;cases b;exact mP
  ·rw[show (e==v)=aA by simpa using a]at b;exact kW _ (mem_of_lookup b)
theorem wa{Xx:eQ}:∀{Yl:List (aD×c7)}{e:aD}{q:c7},
  (Yl.map λ(v,q)=>if (q==c7.free&&Xx.scope.kind==.function&&Xx.kindOf v==Z .cell) then (v,c7.cell) else (v,q)).lookup e=Z q->
  (q=.cell\/q=.free)->(e,c7.free)∈Yl\/Yl.lookup e=Z .cell
 |[],e,q,b,_=>by simp at b
 | (v,f)::p,e,q,b,c=>by
  rw[bz]at b;dsimp only at b;by_cases h:e=v
  ·subst h;by_cases d:(f==c7.free&&Xx.scope.kind==.function&&Xx.kindOf e==Z .cell)=aa
   ·have:f=c7.free:=by
     simp only[cq]at d;exact by simpa using d.1.1
    subst this;exact .inl mP
   ·simp only[d]at b;have a:f=q:=by simpa [gK] using b
    subst a;rcases c with c|c
    ·exact .inr (by rw[gK,iu,c])
    ·rw[c];exact .inl mP
  ·have g:(e==v)=aA:=by simpa using h
   have ah:(p.map λ(v,q)=>if (q==c7.free&&Xx.scope.kind==.function&&Xx.kindOf v==Z .cell) then (v,c7.cell) else (v,q)).lookup e=Z q:=by
    by_cases d:(f==c7.free&&Xx.scope.kind==.function&&Xx.kindOf v==Z .cell)=aa
    ·rw[aF d,gK,g]at b;exact b
    ·rw[if_neg d,gK,g]at b;exact b
   rcases wa ah c with i|i
   ·exact .inl (kW _ i)
   ·exact .inr (by rw[gK,g];exact i)
section
variable{c:aI}
structure jb(c:aI)(X2:hn)(own:List aD)(Yh:List Nat):Prop where
 kind:X2.kind=.function
 Px:∀A∈X2.names,A.2=.cell->X2.names.lookup A.1=Z .cell
 free:∀A∈X2.names,A.2=.free->c.env.scope.names.lookup A.1=Z .cell
 loc:∀A∈X2.names,A.2=.local->X2.names.lookup A.1=Z .local
 LS:∀h∈Yh,∃e,c.N[h]?=Z e/\(e,c7.free)∈X2.names/\X2.names.lookup e=Z .free
def hI(c:aI)(own:List aD)(Yh:List Nat):List aD:=(own++Yh.map λh=>c.N.getD h "")
def jF(own:List aD)(Yh:List Nat)(B:aZ):aZ:=(own.map (λ_=>V)++Yh.map λh=>B.getD h V)
def jb.cells(XC:jb c X2 own Yh)(ok:c.Ok):∀A∈X2.names,A.2=.free->∃f,c.env.cells.lookup A.1=Z f:=
 λA a b=>ok.has A.1 (.inl<|XC.free A a b)
def jb.sub(XC:jb c X2 own Yh)(ok:c.Ok){e:aD}{f:aq}(b:(kK c.env X2.names).lookup e=Z f):c.env.cells.lookup e=Z f/\(e,c7.free)∈X2.names:=by
 rcases CE X2.names [] e f b with ⟨a,E⟩|b
 ·let⟨@g,d⟩:=XC.cells ok (e,.free) E rfl;rw[show (List.lookup e c.env.cells)=Z g from d]at a;refine⟨?_,E⟩;rw[a];exact d
 ·simp at b
def jb.two(XC:jb c X2 own Yh)(ok:c.Ok){XK:List (aD×aq)}{e:aD}{f:aq}(b:(XK++kK c.env X2.names).lookup e=Z f):XK.lookup e=Z f\/(XK.lookup e=V/\c.env.cells.lookup e=Z f):=by
 rw[zv]at b;cases s:XK.lookup e with
 |some r=>rw[s]at b;exact .inl b
 |none=>rw[s]at b;exact .inr ⟨rfl,(XC.sub ok b).1⟩
def aG.zp(z:aG c G B j m){e:aD}{f:aq}(b:c.env.cells.lookup e=Z f):f<m.heap.objs.size:=by
 let⟨u,o,a,Y⟩:=z.cell e f b;exact cn a
theorem HG(XC:jb c X2 own Yh)(z:aG c G B j m)(w:m.heap.objs.size<=aL)(u:∀d∈b7,hX c G j d)(x:∀d∈b7,d<m.heap.objs.size)(k:uL Y6 X2.names XK l)(v:m.heap.objs.size<=Y6)(XO:∀e,(e,c7.cell)∈X2.names->∃f,XK.lookup e=Z f):(c.hL (hI c own Yh) X2 ⟨aL,m,j,b7,XK⟩).Ok where
 mod:=z.ok.mod
 kind:=XC.kind
 glob:=z.ok.glob
 blt:=z.ok.blt
 above:=w
 inj:=λe A f l t=>by
  rcases XC.two z.ok l with n|⟨_,n⟩<;>rcases XC.two z.ok t with p|⟨_,p⟩
  ·exact k.inj e A f n p
  ·exact absurd (eF (z.zp p)<|dg v (k.jG e f n).1) (gN _)
  ·exact absurd (eF (z.zp n)<|dg v (k.jG A f p).1) (gN _)
  ·exact z.ok.inj e A f n p
 has:=λe h=>by
  have E:(e,c7.free)∈X2.names\/X2.names.lookup e=Z .cell:=by
   rcases h with h|h
   ·exact wa h (.inl rfl)
   ·exact wa h (.inr rfl)
  show ∃f,(XK++kK c.env X2.names).lookup e=Z f;rw[zv];cases s:XK.lookup e with
  |some r=>exact⟨r,rfl⟩
  |none=>
   rcases E with E|E
   ·exact xy X2.names [] e (.inl E)
   ·let⟨f,q⟩:=XO e (mem_of_lookup E);rw[s]at q;cases q
 nD:=λe f b y=>by
  have h:X2.names.lookup e=Z .cell:=eq_of_beq b;let⟨C,q⟩:=XO e (mem_of_lookup h);rcases XC.two z.ok y with i|⟨i,_⟩
  ·exact dg v (k.jG e f i).1
  ·rw[i]at q;cases q
 hd:=z.ok.hd
 frames:=z.ok.frames
 sN:=.inl rfl
 wQ:=λd g=>⟨c0<|eF (x d g) w,λe f b=>by
  rcases XC.two z.ok b with i|⟨_,i⟩
  ·exact lg (eF (x d g)<|dg v (k.jG e f i).1)
  ·exact (u d g).2.2.2.2.1 e f i⟩
 bs:=z.bs
 l4:=dg z.ok.l4 z.cS
 oZ:=λd o a g=>by
  rcases (u d g).2.2.2.1 with i|i
  ·exact z.ok.oZ d o a i
  ·exact absurd (eF (cn a)<|dg z.ok.l4 i) (gN _)
 pK:=λd g i=>by
  rcases b0.mp (z.zD d i) with a|a
  ·exact (u d g).2.1 a
  ·exact (u d g).2.2.1 a
 i5:=z.stack
 nH:=z.Ji
theorem O0{Yb:Nat}{E:aD->Option ag}(XC:jb c X2 own Yh)(z:aG c G B j m)(L:m.heap.objs.size<=aL)(al:∀d∈b7,hX c G j d)(am:∀d∈b7,d<m.heap.objs.size)(y:∀d o,m.heap.get? d=Z o->l.get? d=Z o)(an:l.Ns aL E)(C:uL Y6 X2.names XK l)(F:m.heap.objs.size<=Y6)(XO:∀e,(e,c7.cell)∈X2.names->∃f,XK.lookup e=Z f):
  aG (c.hL (hI c own Yh) X2 ⟨aL,m,j,b7,XK⟩) [] (jF own Yh B) j {m with heap:=l,toks:=Yb} where
 ok:=HG XC z L al am C F XO
 os:=rfl
 bare:=z.bare
 base:=eS.kept y
 loc:=by
  let⟨@bn,F,ap⟩:=z.loc;refine⟨E,an,λk e u t a w=>?_⟩;have t:(own++Yh.map λh=>c.N.getD h "")[k]?=Z e:=t;have a:(own.map (λ_=>(V:Option ai))++Yh.map λh=>B.getD h V)[k]?=Z (Z u):=a;by_cases as:k<own.length
  ·rw[n3 (by rw[a6];exact as),ef]at a;cases s:own[k]? with
   |none=>rw[s]at a;cases a
   |some i=>rw[s]at a;cases a
  ·rw[kZ ⋯,ef]at t;rw[kZ (by rw[a6];lia),ef,a6]at a;cases s:Yh[k-own.length]? with
   |none=>rw[s]at t;cases t
   |some h=>
    rw[s]at t a;have t:c.N.getD h "" = e:=Option.some.inj t;have a:B.getD h V=Z u:=Option.some.inj a;let⟨@g,M,O,P⟩:=XC.LS h (fi s);have Yp:g=e:=by
     rw[<-t,cY,M];rfl
    subst Yp;have XO:B[h]?=Z (Z u):=by
     rw[cY]at a;cases Q:B[h]? with
     |none=>rw[Q]at a;cases a
     |some i=>rw[Q]at a;rw[show i=Z u from a]
    have R:=XC.free (g,.free) O rfl;let⟨@I,p,lk⟩:=ap h g u M XO (.inr<|.inl R);refine⟨I,p,.inr ⟨?_,?_⟩⟩
    ·rcases w with w|w|w
     ·
      exfalso;have:∀{Yl:List (aD×c7)},Yl.lookup g=Z .free->(Yl.map λ(v,q)=>if (q==c7.free&&c.env.scope.kind==.function&&c.env.kindOf v==Z .cell) then (v,c7.cell) else (v,q)).lookup g≠Z .local:=by
       intro Yl;induction Yl with
       |nil=>intro b;simp at b
       |cons A p S=>
        let⟨v,q⟩:=A;intro b;rw[bz];dsimp only;by_cases T:g=v
        ·subst T;have a1:q=.free:=by simpa [gK] using b
         subst a1;by_cases x:(c7.free==c7.free&&c.env.scope.kind==ScopeKind.function&&c.env.kindOf g==Z c7.cell)=aa
         ·rw[aF x];simp[gK]
         ·rw[if_neg x];simp[gK]
        ·have H:(g==v)=aA:=by simpa using T
         rw[gK,H]at b;by_cases x:(q==c7.free&&c.env.scope.kind==ScopeKind.function&&c.env.kindOf v==Z c7.cell)=aa
         ·rw[aF x,gK,H];exact S b
         ·rw[if_neg x,gK,H];exact S b
      exact this P w
     ·exact .inl w
     ·exact .inr w
    ·rcases lk with ⟨a2,_⟩|⟨_,f,bd,be⟩
     ·exact absurd (a2.symm.trans R) ↥0
     ·let⟨@bs,U⟩:=xy (Xx:=c.env) X2.names [] g (.inl O);have:=(XC.sub z.ok U).1;rw[bd]at this;cases this;let⟨@o,J,hd⟩:=be;have bi:XK.lookup g=V:=by
       cases s:XK.lookup g with
       |none=>rfl
       |some r=>
        have:=XC.Px _ (C.jG g r s).2.2 rfl;rw[P]at this;cases this
      exact⟨f,by show (XK++kK c.env X2.names).lookup g=Z f;rw[zv,bi];exact U,o,y _ _ J,hd⟩
 cell:=λe f b=>by
  rcases XC.two z.ok b with i|⟨_,i⟩
  ·exact⟨_,(C.jG e f i).2.1⟩
  ·let⟨u,@o,J,hd⟩:=z.cell e f i;exact⟨u,o,y _ _ J,hd⟩
 free:=z.aU.fresh L
 iX:=λe f b=>by
  rcases XC.two z.ok b with i|⟨_,i⟩
  ·exact z.aU.fresh (dg F (C.jG e f i).1)
  ·exact z.iX e f i
 pin:=λn bm=>nomatch bm
 aU:=z.aU.kept y
 len:=by simp[jF,hI,aI.hL]
def F8(c:aI)(YW:List aY)(C:eG)(G:List (aq×a5)):Prop:=(
 ∀(m:au) (B:aZ) (j:ax) (y:Bool->ax->Prop),aG c G B j m->C B j y->
  wpAny (aN c.prog c.w) c.A (forIn YW aa λf p=>if p=aa then do let ok <-qe f c.env (bP f c.env);pure (ForInStep.yield ok) else pure (ForInStep.yield p)) (vT c G B y) c.cP m)
def vn(c:aI)(YW:List aY)(C:eG):Prop:=(∀G,F8 c YW C G)
def LX:eG:=(λ_ j y=>y aa j)
def Nz:vn c [] LX:=λG m B j y z b=>wpAny_tests_nil ⟨j,z,b⟩
def Q2{f:aY}{C:eG}(b:hS c f C):vn c [f] C:=λG m B j y z a=>wpAny_tests_one (b G m B j y z a)
def VW(own:List aD)(Yh:List Nat)(O:g7)(Y9:eG)(YQ:bL)(B:aZ)(Yg:List ai->ax->Prop)(XW:List ai)(e:ai)(S:ax):Prop:=(
 O e (jF own Yh B) S λa XS=>(∀(k:Nat) (u:ai),(jF own Yh B)[k]?=Z (Z u)->a[k]?=Z (Z u))/\Y9 a XS λd b=>if d=aa then YQ a b λu c=>XW.length<sizeLine/\Yg (XW++[u]) c else Yg XW b)
def L3(YB:fI)(own:List aD)(Yh:List Nat)(O:g7)(Y9:eG)(YQ:bL)(B:aZ)(XE:ax)(y:cI):Prop:=(
 ∃W:Nat->Nat->List ai->ax->Prop,(∃E,W 0 E [] XE)/\∀h E XW j,W h E XW j->(YB.stop h j/\∀w,j w=V->y (.ref w) (upd j w<|.lst XW))\/
  (YB.go h j/\∃Yg:List ai->ax->Prop,(∀a S,Yg a S->∃b,b<E/\W (h+1) b a S)/\∀e S,YB.va h j e S->VW own Yh O Y9 YQ B Yg XW e S))
def xM(own:List aD)(Yh:List Nat)(YZ:ki)(O:mF->g7)(Y9:mF->eG)(YQ:mF->bL):bL:=(λB j y=>YZ B j λYB XE=>∀a:mF,L3 YB own Yh (O a) (Y9 a) (YQ a) B XE y)
def x6(T:hn)(Yg:List aD)(X2:hn)(Yh:List Nat):Bool:=(
 X2.kind==.function&&X2.names.all (λA=>A.2 != .cell || X2.names.lookup A.1==Z .cell)&&X2.names.all (λA=>A.2 != .free || T.names.lookup A.1==Z .cell)&&X2.names.all (λA=>A.2 != .local || X2.names.lookup A.1==Z .local) &&
  Yh.all (λh=>match Yg[h]? with|some e=>X2.names.lookup e==Z .free|none=>aA))
def mv{c:aI}(T:hn)(Yg:List aD)(b:x6 T Yg X2 Yh=aa)(a:c.env.scope=T:=by rfl)(j:c.N=Yg:=by rfl):jb c X2 own Yh:=by
 unfold x6 at b;simp only[cq,l5,bne_iff_ne,ne_eq,A6,oI]at b;let@⟨@⟨@⟨@⟨l,t⟩,k⟩,m⟩,n⟩:=b;refine⟨l,λA d f=>(t A d).resolve_left λi=>i f,λA d f=>?_,λA d f=>?_,λh XG=>?_⟩
 ·rw[a];exact (k A d).resolve_left λi=>i f
 ·exact (m A d).resolve_left λi=>i f
 ·have:=n h XG;rw[j];cases s:Yg[h]? with
  |none=>rw[s]at this;cases this
  |some e=>
   rw[s]at this;have g:X2.names.lookup e=Z .free:=by simpa using this
   exact⟨e,rfl,mem_of_lookup g,g⟩
def Qd{YG:b9}{use:Option (ag->eP Unit)}{f4:ag->au->Prop}{lc:cI}(o0:c.calm=aa)(XC:jb c X2 own Yh)(XG:mG c Yi YO YZ)(pc:∀as,kh (c.hL (hI c own Yh) X2 as) Yi<|O as)(bV:∀as,vn (c.hL (hI c own Yh) X2 as) YW<|Y9 as)(pi:∀as,bu (c.hL (hI c own Yh) X2 as) Y1<|YQ as)(XO:∀e,p3 YO c.env e=pure e)(z:aG c G B j m)(b:xM own Yh YZ O Y9 YQ B j lc)(pm:∀(w aL:aq) (f8:ax) (J:au) (E:aD->Option ag),aG c G B f8 J->J.heap.Ns aL E->f8 aL=V->c.env.locals≠aL->(∀e f,c.env.cells.lookup e=Z f->f≠aL)->c.fa.heap.objs.size<=aL->(∀n∈c.j3++G,n.1≠aL)->lc (.ref w) f8->compPost (aN c.prog c.w) c.A c.cP use f4 (.ref w) aL (.ok .next) J):
  wpAny (aN c.prog c.w) c.A (Ks (.ListComp Y1 [⟨Yi,YO,YW,0⟩] X2 XP) X2 c.env YG (r9 []) aA (bP YO c.env) use) f4 c.cP m:=by
 refine wpAny_comprehension_free (use:=use) rfl XO (QU<|XC.cells z.ok) XC.kind XC.loc (bK (XG G m B j _ z b) λu v4 l=>bK l λv6 y t=>?_);let⟨aP,b7,N,YB,@XS,a,al,T,ga,a1,po⟩:=t;subst a;have ch:∀d∈b7,d<y.heap.objs.size:=λd k=>by
  let⟨@o,a,U⟩:=T.obj _ _ ga d k;exact cn a
 refine gF (MO λge XK ext cs bi lf=>?_);dsimp only at cs ext bi ⊢;generalize gl:y.heap.push {cls:=.type "list",dict:=V,data:=.seq ([]:List ag).toArray}=db at cs ext bi ⊢;have ds:db.objs.size=y.heap.objs.size+1:=by rw[<-gl,iL]
 have bm:y.heap.objs.size≠db.objs.size:=by rw[ds];exact c0 (mX _)
 have dL:y.heap.objs.size<=db.objs.size:=by rw[ds];exact z8 _
 have gt:∀d o,y.heap.get? d=Z o->ge.get? d=Z o:=λd o a=>ext d o (gl ▸ cw _ a);have li:ge.get? y.heap.objs.size=Z {cls:=.type "list",data:=.seq ([]:List ag).toArray 0}:=ext _ _ (gl ▸ dE _ rfl);generalize wf:db.objs.size=aL at cs bi ds bm dL ⊢;have eq:y.heap.objs.size<=aL+1:=Kc dL;generalize an:y.heap.objs.size=w at li ds bm dL ⊢;have bn:y.heap.objs.size<=aL:=by rw[an];exact dL
 let⟨@W,⟨@pp,pr⟩,turn⟩:=po ⟨aL,y,XS,b7,XK⟩;have lm:=λ(Yb:Nat)=>O0 (Yb:=Yb) XC al bn a1 ch gt cs bi eq lf;have ln:=pc ⟨aL,y,XS,b7,XK⟩;have ls:=bV ⟨aL,y,XS,b7,XK⟩;have lv:=pi ⟨aL,y,XS,b7,XK⟩;have g1:=HG XC al bn a1 ch bi eq lf;generalize M:c.hL (hI c own Yh) X2 ⟨aL,y,XS,b7,XK⟩=r at lm ln ls lv g1;have bs:r.prog=c.prog:=by rw[<-M];rfl
 have bv:r.w=c.w:=by rw[<-M];rfl
 have lw:r.K=c.K:=by rw[<-M];rfl
 have ci:r.A=c.A:=by rw[<-M];rfl
 have mb:r.calm=aa:=by rw[<-M];exact o0
 have ca:r.env.locals=aL:=by rw[<-M];rfl
 have g2:r.ex=b7:=by rw[<-M];rfl
 have ev:r.fa=y:=by rw[<-M];rfl
 have pt:r.mh=XS:=by rw[<-M];rfl
 have pu:r.Y=ic c.stack:=by rw[<-M];rfl
 have fd:r.j3=[]:=by rw[<-M];rfl
 have g3:r.cP=λ_ U=>False:=by rw[<-M];rfl
 have mo:r.env=s9 X2 (XK++kK c.env X2.names) aL c.env:=by rw[<-M];rfl
 have ms:∀e f,r.env.cells.lookup e=Z f->aL+1<=f\/c.env.cells.lookup e=Z f:=λe f b=>by
  rw[mo]at b;rcases XC.two al.ok b with i|⟨_,i⟩
  ·exact .inl (bi.jG e f i).1
  ·exact .inr i
 have py:∀e f,r.env.cells.lookup e=Z f->f≠w:=λe f b i=>by
  rcases ms e f b with A|A
  ·rw[i,<-an]at A;exact absurd (dg (uD bn) A) (Nat.not_succ_le_self _)
  ·have:=al.zp A;rw[i,<-an]at this;exact gN _ this
 have nv:∀d∈b7,d≠w:=λd k i=>by
  have:=ch d k;rw[i,<-an]at this;exact gN _ this
 have rc:w∉r.Y:=λi=>by
  let@⟨_,⟨@o,cd,_⟩⟩:=g1.i5.mem i;rw[ev]at cd;have:=cn cd;rw[an]at this;exact gN _ this
 have hd:∀(S:ax) (o:a5),(∀d∈b7,S d=V)->∀d∈b7,hX r [(w,o)] S d:=λS o he d k=>by
  refine⟨he d k,?_,?_,.inl (by rw[g2];exact k),λe f b=>(ms e f b).elim (λA=>lg (eF (ch d k) (dg eq (by rw[an]at eq;exact A)))) λA=>(a1 d k).2.2.2.2.1 e f A,λn F=>?_⟩
  ·rw[ca];exact c0 (eF (ch d k) bn)
  ·exact g1.pK d (by rw[g2];exact k)
  ·rw[fd]at F;have:n=(w,o):=by simpa using F
   rw[this];exact dn (nv d k)
 have m0:∀hf:au,hf={y with heap:=ge,toks:=y.toks+([]:List (aD×ag)).length}->
   codeAny (aN c.prog c.w) c.A (.compLoop (.ListComp Y1 [⟨Yi,YO,YW,0⟩] X2 XP) 0 (.ref aP) (.ref w) r.env)
    (compPost (aN c.prog c.w) c.A c.cP use f4 (.ref w) aL) hf:=by
  rintro hf rfl;refine P_ (λv XM=>∃(h:Nat) (XW:List ai) (S:ax) (XN:List ag) (q:Nat),aG r [(w,{cls:=.type "list",data:=.seq XN.toArray q})] (jF own Yh B) S XM/\bN XW XN/\XW.length<=sizeLine/\N h XM.heap/\
   (∀d∈b7,S d=V)/\W h v XW S) ?_ pp ?_
  ·rintro v na ⟨h,XW,P,XN,q,hm,fn,nb,ne,nl,re⟩;rcases turn h v XW P re with ⟨stop,rs⟩|⟨go,Yg,nm,step⟩
   ·have:=T.done r bs bv lw mb h _ na _ P (λ_ U=>False) hm (hd P _ nl) ne stop;rw[ci]at this;refine bK this λp J Q=>?_;let@⟨hw,a2⟩:=Q;subst hw;let⟨@E,he,U⟩:=a2.loc;have sc:J.heap.Ns aL E:=by rw[<-ca];exact he
    have F:=a2.pin (w,{cls:=.type "list",data:=.seq XN.toArray q}) (by rw[fd];simp);have ce:P w=V:=F.2.1;have b3:∀d,d≠aL->J.heap.get? d=J.heap.get? d:=λd k=>rfl;have be:∀d o,y.heap.get? d=Z o->d≠aL:=λd o a=>c0 (eF (cn a) bn);have sn:∀d o,y.heap.get? d=Z o->d≠w:=λd o a=>by rw[<-an];exact c0 (cn a)
    have am:eS (ic c.stack) b7 XS P y.heap J.heap:=by
     have:=a2.base;rw[pu,g2,pt,ev]at this;exact this
    have I:eS (ic c.stack) b7 XS (upd P w<|.lst XW) y.heap J.heap:=
     ⟨λd o a v k ap=>(b3 d<|be d o a).trans<|am.keep d o a v k ap,
      λd o a v k ap=>by
      let⟨@aR,s⟩:=am.slot d o a v k ap;exact⟨aR,(b3 d<|be d o a).trans s⟩,
      λd o a v ap=>by rw[cm (sn d o a)];exact am.free d o a v ap,
      λd o x a C ap=>(b3 d<|be d o a).trans<|am.jc d o x a C ap,
      λd o a ap=>by
      let⟨@Yy,s⟩:=am.there d o a ap;exact⟨Yy,(b3 d<|be d o a).trans s⟩,
      λd x a=>by rw[cm (j0 (am.iG d x a) ce)];exact am.iG d x a,
      λd o x a=>by rw[cm (j0 (am.i_ d o x a) ce)];exact am.i_ d o x a,
      λd XF a=>by
      let⟨@sp,s⟩:=am.kn d XF a;exact⟨sp,by rw[cm (j0 s ce)];exact s⟩⟩
    have nn:∀d o,P d=Z o->d≠aL:=λd o a i=>by
     have:=a2.free;rw[ca,<-i,a]at this;cases this
    have ss:ee c.prog c.w (upd P w<|.lst XW) J.heap:=λg o a=>by
     by_cases no:g=w
     ·subst no;rw[dx]at a;cases a;exact⟨nb,XN,q,fn,(b3 _ bm).trans F.1⟩
     ·rw[cm no]at a;have:=a2.aU g o a;rw[bs,bv]at this;refine this.fB (λd I k s=>(b3 d ?_).trans s) (λd s=>by rw[cm (j0 s ce)];exact s) λd x s=>by rw[cm (j0 s ce)];exact s
      rcases k with i|i
      ·rw[i];exact nn g o a
      ·exact nn d _ i
    have sw:aG c G B (upd P w<|.lst XW) J:=al.OT (XM:=J) (YS:=b7) (by have:=a2.os;rw[ev]at this;exact this) I ss a2.bare λd k=>⟨(a1 d k).2.2.2.1,(a1 d k).2.1,(a1 d k).2.2.2.2.1,(a1 d k).2.2.2.2.2⟩;have sB:c.env.locals≠aL:=by
     let⟨@wl,sK,U⟩:=al.loc;let⟨o,U,@U,cd,U⟩:=sK;exact be _ _ cd
    have s0:∀e f,c.env.cells.lookup e=Z f->f≠aL:=λe f b=>by
     let⟨u,@o,cd,U⟩:=al.cell e f b;exact be _ _ cd
    refine pm w aL _ J E sw sc ?_ sB s0 ?_ (λn F=>be _ _ (al.pin n F).1) (rs w ce)
    ·rw[cm (dn bm)];have:=a2.free
     rwa [ca]at this
    ·exact dg al.cS bn
   ·have:=T.item r bs bv lw mb h _ na _ P (λ_ U=>False) hm (hd P _ nl) ne go;rw[ci]at this;refine bK this λp J Q=>?_;let⟨@I,hw,s1⟩:=Q;subst hw;refine bK s1 λ_ cl Q=>?_;let⟨e,@h0,s2,s3,s4,ii,s5⟩:=Q;have to:=s2.pinned (hd h0 _ s5) (T.obj _ _ ii);have np:=ln _ cl _ h0 e I _ to s3 (step e h0 s4);rw[bs,bv,ci,g3]at np;refine bK np λ_ tt Q=>?_;let⟨co,@ty,tz,t0,t1⟩:=Q;have ns:=ls _ tt co ty _ tz t1;rw[bs,bv,ci,g3]at ns;refine bK ns λd t3 Q=>?_;let⟨@nw,fr,f0⟩:=Q;have of:∀{ol:aZ}{S:ax}{XM:au},aG r ([(w,{cls:=.type "list",data:=.seq XN.toArray q})]++m_ b7 cl.heap) ol S XM->(∀d∈b7,S d=V)/\N (h+1) XM.heap:=λ{ol S XM} cr=>by
     refine⟨λd k=>?_,T.keep _ _ _ ii λd k o a=>(cr.pin (d,o)<|dH _<|dH _<|uG k a).1⟩;let⟨@o,a,U⟩:=T.obj _ _ ii d k;exact (cr.pin (d,o)<|dH _<|dH _<|uG k a).2.1
    have on:∀{im:List (aq×a5)}{S:ax}{XM:au},aG r im co S XM->aG r im (jF own Yh B) S XM:=λ{im S XM} cr=>
     cr.weak (by rw[cr.len,hm.len]) t0;cases d with
    |false=>
     rw[if_neg cB]at f0;let⟨@io,it,ul⟩:=nm _ _ f0;rw[if_neg cB];let@⟨jp,kt⟩:=of fr;exact⟨io,it,h+1,XW,nw,XN,q,on (fr.p8 λn F=>fr.pin n (by
      rw[fd];simp at F ⊢;exact .inl F)),fn,nb,kt,jp,ul⟩
    |true=>
     rw[aF rfl]at f0 ⊢;have op:=lv _ t3 co nw _ fr f0;rw[bs,bv,ci,g3]at op;refine bK op λR bd Q=>?_;let⟨un,@kv,f1,up,wn,us⟩:=Q;let⟨@io,it,ut⟩:=nm _ _ us;have F:=f1.pin (w,{cls:=.type "list",data:=.seq XN.toArray q}) (dH _ (d6 _ ↥0));have kw:=F.1;refine kH DD ⟨_,kw,rfl⟩ B6 (C4 _ _) (EH w XN.toArray q R (by rw[cK,<-fn.length];lia)) ⟨kw,?_⟩;have s:=CX kw (λg=>g.push R);let@⟨jp,kt⟩:=of f1;have u8:aG r (m_ b7 cl.heap) co kv bd:=f1.p8 λn F=>f1.pin n (dH _<|dH _ F);have fQ:∀d o,d≠w->bd.heap.get? d=Z o->(bd.heap.update w<|a5.mapSeq λg=>g.push R).get? d=Z o:=λd o k a=>(gM bd.heap _<|dn k).trans a;have v0:aG r (m_ b7 cl.heap) co kv {bd with heap:=bd.heap.update w (a5.mapSeq λg=>g.push R),toks:=bd.toks}:=
      u8.turned (aP:=w) fQ F.2.1 (by rw[ca];exact bm) (.inr (by rw[ev,an];exact bk _)) py λn f2=>by
       rw[fd]at f2;let@⟨k,_⟩:=J7 (show n∈m_ b7 cl.heap by simpa using f2);exact nv _ k
     refine⟨io,it,h+1,XW++[un],kv,XN++[R],q+1,on<|v0.p8 λn f2=>?_,fn.append<|.cons up .nil,?_,?_,jp,ut⟩
     ·have a:n=(w,{cls:=.type "list",data:=.seq (XN++[R]).toArray (q+1)}):=by simpa using f2
      subst a;refine⟨?_,F.2.1,F.2.2.1,F.2.2.2.1,λu i=>by cases i⟩;have v1:XN.toArray.push R=(XN++[R]).toArray:=by simp
      rw[<-v1];have cU:IsL (bd.heap.update w<|a5.mapSeq λg=>g.push R) w (XN.toArray.push R) (if (XN.toArray.push R).size==XN.toArray.size then q else q+1):=s;rw[if_neg ↥0]at cU;exact cU
     ·rw[cC,e6];lia
     ·refine T.keep _ _ _ kt λd k o a=>fQ d o (nv d k) a
  ·refine⟨0,[],XS,[],0,?_,.nil,e9 _,T.keep _ _ _ ga λd U o a=>gt d o a,λd k=>(a1 d k).1,pr⟩;refine (lm _).p8 λn F=>?_;have a:n=(w,{cls:=.type "list",data:=.seq ([]:List ag).toArray 0}):=by simpa using F
   subst a;exact⟨li,al.aU.fresh (by rw[an];exact bk _),by rw[ca];exact bm,rc,λu i=>by cases i⟩
 have v2:s9 X2 (XK++kK c.env X2.names) aL c.env=r.env:=mo.symm;show codeAny (aN c.prog c.w) c.A (.compStart _ 0 (.ref aP) (.ref w)<|s9 X2 (XK++kK c.env X2.names) aL c.env) _ _;rw[v2];exact codeAny_compStart_list (m0 _ rfl) (T.self c.A 0 _ _ _ (T.keep _ _ _ ga λd U o a=>gt d o a)<|m0 _ rfl)
def PM(k:c.calm=aa)(XC:jb c X2 own Yh)(XG:mG c Yi YO YZ)(l:∀g,kh (c.hL (hI c own Yh) X2 g) Yi<|O g)(bV:∀g,vn (c.hL (hI c own Yh) X2 g) YW<|Y9 g)(p:∀g,bu (c.hL (hI c own Yh) X2 g) Y1<|YQ g)(XO:∀e,p3 YO c.env e=pure e:=by intro Y;rfl):bu c (.ListComp Y1 [⟨Yi,YO,YW,0⟩] X2 XP) (xM own Yh YZ O Y9 YQ):=by
 intro G m B j y z b;show wpAny _ c.A (Ks (.ListComp Y1 [⟨Yi,YO,YW,0⟩] X2 XP) X2 c.env _ (r9 []) aA (bP YO c.env) V) _ _ m;refine Qd (use:=V) (f4:=eA c G B y) k XC XG l bV p XO z b λw aL q h E r t F J f i n s=>?_;show ∃E,h.heap.Ns aL E/\∀ah,aV.SameBut aL h.heap ah->eA c G B y (.ref w) {h with heap:=ah};refine⟨E,t,λah u=>⟨.ref w,q,?_,rfl,s⟩⟩;exact r.turned (aP:=aL) (Yc:=h.toks) (λd o v a=>(u.2 d v).trans a) F (dn J) (.inr i) f n
end
def iQ(b:aV)(r:aq)(M:List ag)(X8:Nat):Prop:=(∃o P,b.get? r=Z o/\o.ExactDict/\o.data=.dict P X8/\P.toList.map (·.key)=M)
def iQ.ty(e:iQ m.heap r M X8):m.TypeIs (.ref r) "dict" := let ⟨o,_,a,f,_⟩:=e;⟨o,a,f.1⟩
def iQ.lt(e:iQ b r M X8):r<b.objs.size:=let ⟨_,_,a,_⟩:=e;cn a
def iQ.go{b ah:aV}(e:iQ b r M X8)(q:∀o,b.get? r=Z o->ah.get? r=Z o):iQ ah r M X8:=let ⟨o,P,a,p⟩:=e;⟨o,P,q o a,p⟩
section
variable{XJ:bB}{H:a9}{L:br}{XA:ag->au->Prop}{m:au}
def Vb{y:ag->au->Prop}(XB:(r==h4)=aA)(e:iQ m.heap r M X8)(s:y (.ref m.heap.objs.size) {m with heap:=m.heap.push {cls:=.type "dict_keyiterator",data:=.fields #[.ref r,.int 0 0,.int M.length 0,.int X8 0]} }):wpAny (aN XJ H) L (oc<|.ref r) y XA m:=by
 have ty:=e.ty;let⟨o,@P,a,d,b,c⟩:=e;have v:P.size=M.length:=by rw[<-c,a6,dA]
 refine w5 ty B2 (iF B2 ty F.entry_dict_iter ?i<|F.args_dict_iter_1 _)
 case i=>
  unfold bc.«dict.__iter__» bc.Dict.dictSlotNone;refine aw (aw<|x8 ty ?_);show wpAny _ _ (pure<|ag.ref r) _ _ m;apply aM;show wpAny _ _ (bc.Dict.showsAll r >>= _) _ _ m;unfold bc.Dict.showsAll;rw[if_neg (by rw[XB];simp)];refine aw (aM<|aw<|rd a b<|aw<|Ai a b<|aw<|gF<|aM ⟨_,rfl,"dict_keyiterator",_,⟨_,dE _ rfl,rfl⟩,sa.lookup,?_⟩);simpa [fx,v] using s
def QW{aP r:aq}{u:ag}(a:m.heap.IsKeyIter aP r h M.length X8)(e:iQ m.heap r M X8)(c:M[h]?=Z u)(s:∀ah,ah.IsKeyIter aP r (h+1) M.length X8->aV.SameBut aP m.heap ah->y (Z u) {m with heap:=ah}):wpAny (aN XJ H) L (fE<|.ref aP) y XA m:=by
 let⟨@p,d,l,b⟩:=id a;let⟨o,@P,f,q,g,j⟩:=e;have v:P.size=M.length:=by rw[<-j,a6,dA]
 have XG:h<P.size:=by
  have:h<M.length:=(e7.mp c).1;lia
 have n:P[h].key=u:=by
  rw[<-j,ef,eU,jk XG]at c;exact Option.some.inj c
 unfold fE;refine aw (tp<|q0 (name:=aD.ofString "__next__") a.typeIs sa<|iF sa a.typeIs HC ?i<|Dt _)
 case i=>
  refine aw (aM<|aw<|aw ?_);refine aw (vW a.typeIs<|aM<|aw<|pd d b ?_);simp only[show bc.Dict_items.ownsTuple "dict_keyiterator" = aA by decide,hr,eR];show wpAny _ _ (if (ag.ref r==ag.none)=aa then _ else _) _ _ m;rw[if_neg (show ¬ (ag.ref r==ag.none)=aa by intro i;cases i)];refine aw (aM<|aw<|rd f g ?_);rw[if_neg (by simp[v])];refine aw (aM<|aw<|Ai f g ?_);rw[if_neg ↥0];apply aM;simp only[show ¬ ((h:Int)<0) by lia,eR,j5,jk XG];refine aw (aw<|vW a.typeIs<|aM<|aw<|CJ a.typeIs ?_);show wpAny _ _ (yd (.ref aP) 1 (fx<|(h:Int)+1) >>= _) _ _ m;have k:(m.heap.update aP (a5.mapFields (·.setIfInBounds 1 (fx<|(h:Int)+1)))).IsKeyIter aP r (h+1) M.length X8:=
   ⟨_,jB _ d<|BD<|tg b _,(DG ..).trans l,by rw[tg b];simp[fx]⟩;refine aw (rO d b ↥0 (aw (fS (aw (CJ (s:={m with heap:=m.heap.update aP (a5.mapFields (·.setIfInBounds 1 (fx<|(h:Int)+1)))}) k.typeIs ?_)))));show wpAny _ _ (pure P[h].key) _ _ _;rw[n];exact aM (aM ⟨_,rfl,aM<|s _ k<|lH ..⟩)
def Tc{aP r:aq}(k:L.handled=V)(a:m.heap.IsKeyIter aP r h M.length X8)(e:iQ m.heap r M X8)(n:M.length<=h)(s:∀ah,aV.ExtBut aP m.heap ah->y V {m with heap:=ah}):wpAny (aN XJ H) L (fE<|.ref aP) y XA m:=by
 let⟨@p,b,q,c⟩:=id a;let⟨o,@P,f,t,j,l⟩:=e;have v:P.size=M.length:=by rw[<-l,a6,dA]
 unfold fE;refine aw (tp<|q0 (name:=aD.ofString "__next__") a.typeIs sa<|iF sa a.typeIs HC ?i<|Dt _)
 case i=>
  refine aw (aM<|aw<|aw ?_);refine aw (vW a.typeIs<|aM<|aw<|pd b c ?_);simp only[show bc.Dict_items.ownsTuple "dict_keyiterator" = aA by decide,hr,eR];show wpAny _ _ (if (ag.ref r==ag.none)=aa then _ else _) _ _ m;rw[if_neg (show ¬ (ag.ref r==ag.none)=aa by intro i;cases i)];refine aw (aM<|aw<|rd f j ?_);rw[if_neg (by simp[v])];refine aw (aM<|aw<|Ai f j ?_);rw[if_neg ↥0];apply aM;simp only[show ¬ ((h:Int)<0) by lia,eR,j5,wg (show P.size<=h by lia)];refine aw (aw<|vW a.typeIs<|aM ?_);show wpAny _ _ (yd (.ref aP) 0 .none >>= _) _ _ m;refine aw (rO b c ↥0 ?_);show wpAny _ _ (ug (.type "StopIteration") [] >>= _) _ _ _;apply aw;simp only[ug,zZ];refine aw (gF (aw (m:=uk _ _) (qy (a:=ag.none) (by first|rfl|(simp only[uk];rfl)) (gF ?_ (by size_fits)))) (by size_fits));simp only[raiseNew];apply aw;apply Fm;rw[show L.in1.handled=V from k];refine aw (m:=pure _) (aM<|wpAny_throw ?_);apply aw;refine tx (T := "StopIteration") (b:=aa) ⟨_,dE _ rfl,rfl⟩ II ?_;exact aM (s _<|((lH ..).extBut.push _).push _)
theorem Ot(j:L.handled=V)(aP r:aq)(ne:r≠aP)(M:List ag)(X8:Nat):hH XJ H L aP [aP,r] [aP] M.length (λh u=>M[h]?=Z u) (λh b=>b.IsKeyIter aP r h M.length X8/\iQ b r M X8) where
 sub:=λd k=>by
  have:d=aP:=by simpa using k
  simp[this]
 frame:=λh b ah R q=>⟨let ⟨o,a,p⟩:=R.1;⟨o,q aP ↥0 o a,p⟩,R.2.go (q r ↥0)⟩
 item:=λh m y XA XG R c=>by
  have i:M[h]?=Z M[h]:=by simp[XG]
  refine QW R.1 R.2 i λah g d=>c _ ah m.toks i ⟨g,R.2.go λo a=>d.extBut r o ne a⟩ λf o e a=>d.extBut f o ⇑e a
 done:=λm y XA R c=>Tc j R.1 R.2 (bk _) λah d=>c ah m.toks λf o e a=>d f o ⇑e a
 self:=λh m y XA R c=>wpAny_pyIter_keyiter R.1 c
theorem TZ(XB:(r==h4)=aA):PySem.W.KdlSrc XJ H "dict" r r M.length (λh u=>M[h]?=Z u) (λb=>iQ b r M X8) where
 type:=λm e=>e.ty
 there:=λb e=>⟨e.lt,e.lt⟩
 keep:=λb ah e q=>e.go (q r<|.inl rfl)
 notList:=by decide
 notTuple:=by decide
 hint:=λL XA m y e s=>PySem.W.kdl_hint_dict e.ty s
 iter:=λL m c e=>⟨_,_,(λXA y s=>Vb XB e s),Ot c _ r (c0 e.lt) M X8,⟨⟨_,dE _ rfl,rfl,rfl⟩,e.go λo a=>cw _ a⟩⟩
end
def se:mW "set_iterator" "__next__" "set_iterator.__next__" :=
 .of (owner := "set_iterator") (n := "__next__") (by rw[yK,xG];kernel_rfl) (by decide +kernel) (by decide +kernel) (by decide +kernel)
  (by first|exact .inl (by decide +kernel)|exact .inr (by decide +kernel)) (by rw[qX];kernel_rfl)
def Mx:pT p6 "set_iterator.__next__" = Z bc.«set_iterator.__next__»:=EC (by kernel_rfl)
def Iq:Manifest.owners.lookup (String.ofList ['r','o','t','a','r','e','t','i','_','t','e','s'].reverse)=Z Manifest.sig_set_iterator:=by kernel_rfl
def Uj(g:ag):sG "set_iterator.__next__" ⟨[g],[]⟩:=by
 unfold sG;rw[Hq (id := "set_iterator.__next__") (n:=['_','_','t','x','e','n','_','_']) (o:=['r','o','t','a','r','e','t','i','_','t','e','s']) (by kernel_rfl) Iq];kernel_rfl
def Wa:pT p6 "set.__iter__" = Z bc.«frozenset.__iter__»:=
 Ed (id' := "frozenset.__iter__") (by kernel_rfl) rfl (by decide +kernel) (by kernel_rfl)
def Ct:mW "set_iterator" "__iter__" "set_iterator.__iter__" :=
 .of (owner := "set_iterator") (n := "__iter__") (by rw[yK,xG];kernel_rfl) (by decide +kernel) (by decide +kernel) (by decide +kernel)
  (by first|exact .inl (by decide +kernel)|exact .inr (by decide +kernel)) (by rw[qX];kernel_rfl)
def VK(g:ag):sG "set_iterator.__iter__" ⟨[g],[]⟩:=by
 unfold sG;rw[Hq (id := "set_iterator.__iter__") (n:=['_','_','r','e','t','i','_','_']) (o:=['r','o','t','a','r','e','t','i','_','t','e','s']) (by kernel_rfl) Iq];kernel_rfl
def T1:pT p6 "set_iterator.__iter__" = Z bc.«dict_keyiterator.__iter__»:=
 Ed (id' := "dict_keyiterator.__iter__") (by kernel_rfl) (by first|rfl|decide +kernel|(unfold String.splitOn;simp +decide [String.splitOnAux])) (by decide +kernel) (by kernel_rfl)
def gC(b:aV)(z:aq)(YL:ag)(h:Nat)(XC:aq)(v X8:Nat):Prop:=(∃o,b.get? z=Z o/\o.cls=.type "set_iterator" /\ o.data=.fields #[YL,.int h 0,.ref XC,.int v 0,.int X8 0])
def iE(b:aV)(XC:aq)(P:Array (Int×ag))(X8:Nat)(C:aO):Prop:=(∃o,b.get? XC=Z o/\o.ExactSet/\o.data=.set P X8 C)
def gC.go{b ah:aV}(e:gC b z YL h XC v X8)(q:∀o,b.get? z=Z o->ah.get? z=Z o):gC ah z YL h XC v X8:=let ⟨o,a,p⟩:=e;⟨o,q o a,p⟩
def iE.go{b ah:aV}(e:iE b XC P X8 C)(q:∀o,b.get? XC=Z o->ah.get? XC=Z o):iE ah XC P X8 C:=let ⟨o,a,p⟩:=e;⟨o,q o a,p⟩
section
variable{XJ:bB}{H:a9}{L:br}{XA:ag->au->Prop}{m:au}
def gC.ty(e:gC m.heap z YL h XC v X8):m.TypeIs (.ref z) "set_iterator" := let ⟨o,a,f,_⟩:=e;⟨o,a,f⟩
def Ww{aC:jh}{a:Source}{y:Nat->au->Prop}(c:0<v)(b:∀h,h<v->y h {m with drawn:=m.drawn.bump a}):wpAny aC L (choose a v) y XA m:=
 λ_ Y Y=>⟨lg c,b _<|vl _ c⟩
theorem w_{XR:Type}:∀(J:List XR) (h:Nat) (b:h<J.length),(J[h]::J.eraseIdx h).Perm J
 |e::x,0,_=>.refl _
 |e::x,h+1,b=>(List.Perm.swap e _ _).trans (List.Perm.cons e<|w_ x h<|GR b)
theorem G8{XR:Type}{aC:jh}:∀(v:Nat) (x:List XR) (m:au) (y:List XR->au->Prop),x.length=v->(∀r XW,List.Perm XW x->y XW {m with drawn:=r})->wpAny aC L (xh v x) y XA m
 |0,x,m,y,c,b=>by
  have a:x=[]:=qv c;subst a;unfold xh;exact aM (b m.drawn [] .nil)
 |v+1,[],m,y,c,b=>by cases c
 |v+1,e::x,m,y,c,b=>by
  unfold xh;refine aw (Ww (by rw[c];exact rF _) λh XG=>?_);have a:(e::x)[h]?=Z (e::x)[h]:=dF XG;rw[a];dsimp only;refine aw (G8 v _ _ _ (by rw[Gz XG,c];rfl) λr XW d=>?_);refine aM (b r _ ?_);refine (List.Perm.cons _ d).trans ?_;exact w_ _ h XG
def t6(c:gC m.heap z YL h XC v X8)(b:wpAny (aN XJ H) L.in1 (bc.«set_iterator.__next__» ⟨[.ref z],[]⟩) (λe XM=>∃u,e=.done (.ret u)/\y (Z u) XM) (λa XM=>wpAny (aN XJ H) L (do let d <-Ac a (.type "StopIteration");if d=aa then pure V else throw a) y XA XM) m):
  wpAny (aN XJ H) L (fE<|.ref z) y XA m:=by
 unfold fE;refine aw (tp<|q0 (name:=aD.ofString "__next__") c.ty se<|iF se c.ty Mx ?i<|Uj _)
 case i=>
  refine gz b (λe XM ⟨u,a,s⟩=>⟨u,a,aM s⟩) λa XM s=>s
def sT{b:ag}{c:Nat}{y:Unit->au->Prop}{q:Nat}(f:gC m.heap z YL h XC v X8)(g:q<5)(i:(#[YL,.int h 0,.ref XC,.int v 0,.int X8 0]:Array ag).setIfInBounds q e=#[b,.int c 0,.ref XC,.int v 0,.int X8 0])(s:∀ah,gC ah z b c XC v X8->aV.SameBut z m.heap ah->y () {m with heap:=ah}):wpAny (aN XJ H) L (yd (.ref z) q e) y XA m:=by
 let⟨@o,d,j,a⟩:=f;refine rO d a g (s _ ⟨_,jB _ d<|BD<|tg a _,(DG ..).trans j,?_⟩<|lH ..);rw[tg a,i]
def Iz(b:L.handled=V)(s:∀ah,aV.ExtBut z m.heap ah->y V {m with heap:=ah}):
  wpAny (aN XJ H) L.in1 (ug (.type "StopIteration") [] >>= λe=>(raiseNew e:eP PySem.Fin)) (λc XM=>∃u,c=.done (.ret u)/\y (Z u) XM) (λa XM=>wpAny (aN XJ H) L (do let d <-Ac a (.type "StopIteration");if d=aa then pure V else throw a) y XA XM) m:=by
 apply aw;simp only[ug,zZ];refine aw (gF (aw (m:=uk _ _) (qy (a:=ag.none) (by first|rfl|(simp only[uk];rfl)) (gF ?_ (by size_fits)))) (by size_fits));simp only[raiseNew];apply aw;apply Fm;rw[show L.in1.handled=V from b];refine aw (m:=pure _) (aM<|wpAny_throw ?_);apply aw;refine tx (T := "StopIteration") (b:=aa) ⟨_,dE _ rfl,rfl⟩ II ?_;exact aM (s _<|λd o Y a=>cw _<|cw _ a)
def Iv{next:Nat}(a:gC m.heap z (.int YM 0) h XC v X8)(c:iE m.heap XC P X8 C)(d:C.fits P.size=aa)(f:P.size=v)(g:∀(b:Option (ag×Nat)->au->Prop) (i:ag->au->Prop),b (Z (e,next)) m->wpAny (aN XJ H) L.in1 (mz XC YM h X8) b i m)(s:∀ah,gC ah z (.int next 0) (h+1) XC v X8->aV.SameBut z m.heap ah->y (Z e) {m with heap:=ah}):wpAny (aN XJ H) L (fE<|.ref z) y XA m:=by
 refine t6 a ?_;let⟨@o,j,B,k⟩:=id a;let⟨@D,n,F,p⟩:=c;unfold bc.«set_iterator.__next__»;refine aw (aM<|aw<|pd j k ?_);show wpAny _ _ (u3 XC >>= _) _ _ _;refine aw (rY n p d ?_);dsimp only;rw[if_neg (by rw[f];simp)];refine aw (m:=mz XC _ _ _) (g _ _ ?_);dsimp only;refine aw (sT (b:=.int next 0) (c:=h) a ∅ rfl λl u w=>?_);refine aw (sT (m:={m with heap:=l}) (b:=.int next 0) (c:=h+1) u ∅ rfl λt x A=>?_);exact aM ⟨_,rfl,s t x<|w.trans A⟩
def Hf(i:L.handled=V)(b:gC m.heap z (.int YM 0) h XC v X8)(j:iE m.heap XC P X8 C)(k:C.fits P.size=aa)(l:P.size=v)(n:∀(c:Option (ag×Nat)->au->Prop) (p:ag->au->Prop),c V m->wpAny (aN XJ H) L.in1 (mz XC YM h X8) c p m)(s:∀ah,aV.ExtBut z m.heap ah->y V {m with heap:=ah}):wpAny (aN XJ H) L (fE<|.ref z) y XA m:=by
 refine t6 b ?_;let⟨@o,e,u,f⟩:=id b;let⟨@w,q,x,r⟩:=j;unfold bc.«set_iterator.__next__»;refine aw (aM<|aw<|pd e f ?_);show wpAny _ _ (u3 XC >>= _) _ _ _;refine aw (rY q r k ?_);dsimp only;rw[if_neg (by rw[l];simp)];refine aw (m:=mz XC _ _ _) (n _ _ ?_);dsimp only;refine aw (rO e f (show 2<5 by decide) ?_);exact Iz (z:=z) i λah t=>s ah λd o g a=>t d o g ((lH ..).extBut d o g a)
def Sz{b:Nat}{Yb:hT}{e:Int×ag}(a:gC m.heap z (.ref YH) h XC v X8)(g:iE m.heap XC P X8 C)(c:C.fits P.size=aa)(i:P.size=v)(t:m.heap.get? YH=Z Yq)(T:Yq.data=.seq bl YN)(j:bl[h]?=Z (.int b Yb))(k:P[b]?=Z e)(s:∀ah,gC ah z (.ref YH) (h+1) XC v X8->aV.SameBut z m.heap ah->y (Z e.2) {m with heap:=ah}):wpAny (aN XJ H) L (fE<|.ref z) y XA m:=by
 refine t6 a ?_;let⟨@o,n,u,p⟩:=id a;let⟨@w,d,x,f⟩:=g;unfold bc.«set_iterator.__next__»;refine aw (aM<|aw<|pd n p ?_);show wpAny _ _ (u3 XC >>= _) _ _ _;refine aw (rY d f c ?_);dsimp only;rw[if_neg (by rw[i];simp)];show wpAny _ _ (k8 (.ref YH) >>= _) _ _ _;refine aw (jz t T ?_);dsimp only;rw[j5,j];dsimp only;show wpAny _ _ (setNextDrawn XC _ _ >>= _) _ _ _;unfold setNextDrawn;refine aw (aw<|kL d f c ?_);dsimp only;rw[if_neg ↥0,j5,k];dsimp only;refine aM ?_;refine aw (sT (b:=.ref YH) (c:=h+1) a ∅ rfl λl q r=>?_);exact aM ⟨_,rfl,s l q r⟩
def UR(e:L.handled=V)(b:gC m.heap z (.ref YH) h XC v X8)(f:iE m.heap XC P X8 C)(g:C.fits P.size=aa)(i:P.size=v)(t:m.heap.get? YH=Z Yq)(T:Yq.data=.seq bl YN)(j:bl[h]?=V)(s:∀ah,aV.ExtBut z m.heap ah->y V {m with heap:=ah}):wpAny (aN XJ H) L (fE<|.ref z) y XA m:=by
 refine t6 b ?_;let⟨@o,k,B,n⟩:=id b;let⟨@D,p,E,q⟩:=f;unfold bc.«set_iterator.__next__»;refine aw (aM<|aw<|pd k n ?_);show wpAny _ _ (u3 XC >>= _) _ _ _;refine aw (rY p q g ?_);dsimp only;rw[if_neg (by rw[i];simp)];show wpAny _ _ (k8 (.ref YH) >>= _) _ _ _;refine aw (jz t T ?_);dsimp only;rw[j5,j];dsimp only;refine aw (sT (b:=.int 0 0) (c:=h) b ∅ rfl λl r u=>?_);let⟨@Yy,w,I,x⟩:=r;refine aw (rO (s:={m with heap:=l}) w x (show 2<5 by decide) ?_);exact Iz (z:=z) e λah A=>s ah λd o c a=>A d o c ((lH ..).extBut d o c<|u.extBut d o c a)
end
def iT(val:Nat->List X):Nat->List (List X)
 |0=>[]
 |h+1=>iC (iT val h) (val h)
def fR.fresh(YC:Bool):fR H XI (b.push<|lI YC) b.objs.size YC []:=
 ⟨_,#[],0,_,dE _ rfl,⟨rfl,rfl,rfl⟩,rfl,⟨[],rfl,.nil,λi a=>(hP a).elim⟩,⟨List.Pairwise.nil,rfl,rfl⟩,⟨.inl rfl,rfl,show 0*5<7*3 by decide,λk c=>(hP c).elim,λn d=>(hP d).elim⟩,gB⟩
def fR.at{b ah:aV}{g:aq}{M:List (List X)}(XC:fR H XI b g YC M)(q:∀o,b.get? g=Z o->ah.get? g=Z o):fR H XI ah g YC M:=by
 let⟨o,P,X8,@C,a,p⟩:=XC;exact⟨o,P,X8,C,q o a,p⟩
section
variable{XJ:bB}{H:a9}{XI:List X->aq->Prop}{L:br}{XA:ag->au->Prop}{m:au}
def TN{YY:List aq}{D:Nat->ag->Prop}{aZ:Nat->aV->Prop}{g:aV}(a2:L.units+25<bj)(W:hH XJ H L.in1 z b7 YY v D aZ)(F:XC∉b7)(val:Nat->List X)(N:∀h u,D h u->∃d,u=.ref d/\XI (val h) d)(G:∀s d,XI s d->(ea XJ H).is g s d)(c:∀d o,g.get? d=Z o->d∉YY)(O:∀I X1 E,g.get? XC=Z I->I.data=.seq X1 E->False)(P:∀h,h<v->(iT val h).length+1<=300):
  ∀(q h:Nat) (m:au),v-h=q->h<=v->vP g m.heap->aZ h m.heap->fR H XI m.heap XC YC (iT val h)->
   (∀ah Yb,(∀d o,d≠XC->d∉YY->m.heap.get? d=Z o->ah.get? d=Z o)->fR H XI ah XC YC (iT val v)->Xz (.ok<|.ret .none) {m with heap:=ah,toks:=Yb})->
   codeAny (aN XJ H) L (.builtin "set.update.loop" ⟨[.ref XC,.ref z],[]⟩) Xz m:=by
 have J:XC∉YY:=λb=>F (W.sub _ b);intro q;induction q with
 |zero=>
  intro h m Q XG T p r w;have R:h=v:=⋯
  subst R;refine hW EJ ?_;rw[iR xY _];show wpAny _ L.in1 (fE (.ref z) >>= _) _ _ m;refine aw (W.done m _ _ p λah Yb f=>?_);show wpAny _ L.in1 (ret ag.none) _ _ _;exact aM (w ah Yb (λd o Y c a=>f d o c a)<|r.at λo a=>f XC o J a)
 |succ q S=>
  intro h m Q XG T p r w;have x:h<v:=⋯
  refine hW EJ ?_;rw[iR xY _];show wpAny _ L.in1 (fE (.ref z) >>= _) _ _ m;refine aw (W.item h m _ _ x p λu l bd U al f=>?_);let⟨@e,rfl,y⟩:=N h u U;have M:vP g l:=λd o X1 E j A k=>f d o (c d o j) (T d o X1 E j A k);have B:∀s d,XI s d->(ea XJ H).is l s d:=λs d i=>⟨(G s d i).1,(G s d i).2.keep M⟩;show wpAny _ L.in1 (holding [ag.ref e] (setAdd XC<|.ref e) >>= _) _ _ _;refine aw (fS ?_);unfold setAdd;refine fS ?_;refine aw ((ea XJ H).pyHash (k:=val h) (show L.units+1+10<bj by lia) (B _ _ y) ?_);refine Wb (m:={m with heap:=l,toks:=_}) (show L.units+1+20<bj by lia) (r.at λo a=>f XC o J a) (B _ _ y) y B (P h x) λd t C am=>?_;refine aM ⟨hz xY _,S (h+1) _ ⋯ x (λd o X1 E j A k=>?_) (W.frame _ l t al λd n o a=>?_) am λan ap as a1=>?_⟩
  ·show t.get? d=Z o;rw[C.2 d (λb:d=XC=>O o X1 E (b ▸ j) k)];exact M d o X1 E j A k
  ·rw[C.2 d (λb:d=XC=>F (by rw[<-b];exact n))];exact a
  ·refine w an ap (λd o n c a=>as d o n c ?_) a1;show t.get? d=Z o;rw[C.2 d n];exact f d o c a
variable{M:List (List X)}{y:ag->au->Prop}
def SA{nC:Nat}(n:L.handled=V)(g:m.heap.get? J=Z o)(i:o.cls=.type "tuple")(j:o.data=.seq X1 nC)(F:L.units+28<bj)(XG:∀h u,X1[h]?=Z u->∃d,u=.ref d/\XI (M.getD h []) d)(q:∀s d,XI s d->(ea XJ H).is m.heap s d)(e:∀h,h<X1.size->(iT (λh=>M.getD h []) h).length+1<=300)(r:J≠XC)(f:m.heap.get? XC=Z (lI YC))(t:fR H XI m.heap XC YC [])(b:∀ah Yb,fR H XI ah XC YC (iT (λh=>M.getD h []) X1.size)->(∀d o,d≠XC->m.heap.get? d=Z o->ah.get? d=Z o)->y .none {m with heap:=ah,toks:=Yb}):
  wpAny (aN XJ H) L (bc.«set.__init__» ⟨[.ref XC,.ref J],[]⟩) (λv XM=>∃p,v=.done (.ret p)/\y p XM) XA m:=by
 let⟨G,N,O,P⟩:=o;simp only at i j;subst i;subst j;have Q:=VY;have R:=Lb;have S:(ag.type "tuple" == ag.type "dict")=aA:=by decide
 unfold lI at f;have k:m.heap.IsTuple J X1:=⟨_,g,rfl,nC,rfl⟩;unfold bc.«set.__init__» noKeywords bc.Frozenset.updateFrom;generalize w:oc=mG
 wp_walk
 subst w;refine xp k ?_;refine aw (Kk ?_);have x:J<m.heap.objs.size:=cn g;have z:XC<m.heap.objs.size:=cn f;have A:L.in1.handled=V:=by simp[n]
 refine TN (YC:=YC) (XI:=XI) (g:=m.heap) (show L.units+25<bj by lia) (hH.tuple A _ J (c0 x) X1) ?_ (λh=>M.getD h []) XG q ?_ ?_ e (X1.size-0) 0 _ ⋯ (e9 _) ?_ ⟨⟨_,dE _ rfl,rfl,rfl⟩,?_⟩ ?_ λah Yb B C=>?_
 ·simp only[b0,hP,td,not_or];exact⟨c0 z,λa=>r a.symm⟩
 ·intro d o a;rw[cf];exact c0 (cn a)
 ·intro I X1 E c l;rw[f]at c;cases c;cases l
 ·intro d o X1 E c l U;exact cw _ c
 ·let⟨@o,D,p⟩:=k;exact⟨o,cw _ D,p⟩
 ·exact t.at λo a=>cw _ a
 ·show wpAny _ _ _ _ _ _;refine aM ?_;show wpAny _ _ (ret ag.none) _ _ _;refine aM ⟨_,rfl,b ah Yb C λd o e a=>B d o e ?_<|cw _ a⟩;rw[cf];exact c0 (cn a)
def Mu{nC:Nat}(x:L.handled=V)(n:m.heap.get? J=Z o)(z:o.cls=.type "tuple")(A:o.data=.seq X1 nC)(P:L.units+30<bj)(XG:∀h u,X1[h]?=Z u->∃d,u=.ref d/\XI (M.getD h []) d)(q:∀s d,XI s d->(ea XJ H).is m.heap s d)(B:∀h,h<X1.size->(iT (λh=>M.getD h []) h).length+1<=300)(b:∀ah Yb,fR H XI ah m.heap.objs.size (hC H) (iT (λh=>M.getD h []) X1.size)->(∀d o,m.heap.get? d=Z o->ah.get? d=Z o)->y (.ref m.heap.objs.size) {m with heap:=ah,toks:=Yb}):
  wpAny (aN XJ H) L (call (.type "set") [.ref J]) y XA m:=by
 let⟨f,@E,Q⟩:=m9.mro;have R:=m9.made;have S:=m9.sub;refine wpAny_call (Ga ?_);show wpAny _ _ (callAny (.type "set") _) _ _ _;refine aM ⟨Code.quiet_builtin _ (by decide +kernel),hW F.entry_type_call ?_⟩;rw[br.under_plain (weight_type_call_type "set" [.ref J] []) rfl];have l:=m9.notType;have t:=m9.canCreate;have T:=PySem.F.typeCall_set_1 (.ref J);repeat (any_goals (first|assumption|wp_step))
 refine qF (Wd (.ref J) (XA:=XA) (a:=λr v=>r=.ref m.heap.objs.size/\v={m with heap:=m.heap.push (lI<|hC H)}) ⟨rfl,rfl⟩) λp v e=>?_;cases p with
 |error a=>exact e
 |ok aW=>
  cases aW with
  |ret r=>
   let@⟨rfl,rfl⟩:=e;have w:(m.heap.push<|lI<|hC H).get? m.heap.objs.size=Z (lI<|hC H):=dE _ rfl;have C:au.TypeIs {m with heap:=m.heap.push (lI<|hC H)} (.ref m.heap.objs.size) "set" := ⟨_,w,rfl⟩;have al:=m9.init.lookup;have am:=m9.init.bind (.ref m.heap.objs.size);repeat (any_goals (first|assumption|wp_step))
   refine qF (codeAny_call_builtin (R:=wants (λp c=>p=.none/\∃ah Yb,c={m with heap:=ah,toks:=Yb}/\
     fR H XI ah m.heap.objs.size (hC H) (iT (λh=>M.getD h []) X1.size)/\(∀d o,m.heap.get? d=Z o->ah.get? d=Z o)) XA) m9.init.plain PySem.F.entry_set_init<|check_set_init_1 C ?_) λD c g=>?_
   ·refine gz (SA (m:={m with heap:=m.heap.push (lI<|hC H)}) (by simp[x]) (cw _ n) z A (by show L.in1.in1.units+28<bj;show L.units+1+1+28<bj;omega) XG (λs d i=>⟨(q s d i).1,(q s d i).2.keep λd o Y Y a Y Y=>cw _ a⟩) B (c0<|cn n) w (fR.fresh _) (y:=λp c=>p=.none/\∃ah Yb,c={m with heap:=ah,toks:=Yb}/\
     fR H XI ah m.heap.objs.size (hC H) (iT (λh=>M.getD h []) X1.size)/\(∀d o,m.heap.get? d=Z o->ah.get? d=Z o)) λah Yb j G=>⟨rfl,ah,Yb,rfl,j,λd o a=>G d o (c0<|cn a)<|cw _ a⟩) (λan XM k=>?_) λ_ Y a=>a;let⟨@p,rfl,k⟩:=k;exact k
   ·cases D with
    |error a=>exact g
    |ok I=>
     cases I with
     |ret p=>
      let@⟨rfl,⟨ah,@Yb,rfl,j,O⟩⟩:=g;repeat (any_goals (first|assumption|wp_step))
      exact b _ _ j O
     |_=>exact g.elim
  |_=>exact e.elim
end
section
variable{XJ:bB}{H:a9}{L:br}{XA:ag->au->Prop}{m:au}
theorem Jn{XR:Type}(next:Nat->Nat):∀(fuel q:Nat) (left:List XR) (out:Array XR),left.length=fuel->(js.go next fuel q left out).toList.Perm (out.toList++left)
 |0,q,left,out,b=>by
  have a:left=[]:=qv b;subst a;unfold js.go;rw[bO]
 |fuel+1,q,left,out,b=>by
  unfold js.go;have XG:next q%left.length<left.length:=vl _ (by rw[b];exact rF _)
  rw[dF XG];dsimp only;refine (Jn next fuel (q+1) _ _ (by rw[Gz XG,b];rfl)).trans ?_;rw[Array.toList_push,bI];exact eT _ (w_ _ _ XG)
def Qu(next:Nat->Nat)(x:Array XR):(js next x).toList.Perm x.toList:=Jn next x.size 0 x.toList #[] (by rw[dA])
def s8{y:Bool->au->Prop}(b:y (H.params.followText "set-order") m):wpAny (aN XJ H) L setsByText y XA m:=by
 unfold setsByText;exact aw (zf<|aM b)
variable{y:Option (ag×Nat)->au->Prop}{O:Nat}
def F7(a:iE m.heap XC P X8 C)(b:C.fits P.size=aa)(c:H.params.followText "set-order" = aA)(d:(!C.plain&&decide (P.size>1))=aA)(f:C.led=aa)(g:aO.below C.place YM=h)(s:y (match P[h]?,C.place[h]? with|some (_,e),Z k=>Z (e,k+1)|_,_=>V) m):wpAny (aN XJ H) L (mz XC YM O X8) y XA m:=by
 let⟨@o,i,l,j⟩:=a;unfold mz;refine aw (kL i j b ?_);dsimp only;refine aw (s8 ?_);rw[c,if_neg cB];show wpAny _ _ (if (!C.plain&&decide (P.size>1))=aa then _ else _) _ _ _;rw[d,if_neg cB];show wpAny _ _ ((if (!C.led && !P.isEmpty)=aa then (unsupported "set:maker-not-led" : eP Unit) else pure ()) >>= _) _ _ _;rw[f];refine aw (m:=pure ()) (aM ?_);rw[g];exact aM s
def Ck(f:iE m.heap XC P X8 C)(b:C.fits P.size=aa)(c:H.params.followText "set-order" = aa)(s:y (((js (H.params.setOrder XC X8) P)[O]?).map λa=>(a.2,YM)) m):wpAny (aN XJ H) L (mz XC YM O X8) y XA m:=by
 let⟨@o,d,g,e⟩:=f;unfold mz;refine aw (kL d e b ?_);dsimp only;refine aw (s8 ?_);rw[c,aF rfl,if_neg ↥0];unfold setWalk;refine aw (aw<|kL d e b ?_);dsimp only;refine aw (s8 ?_);rw[c,aF rfl];exact aw (zf<|aM<|aM s)
def xN{y:ag->au->Prop}(a:gC m.heap z YL h XC v X8)(s:y (.ref z) m):wpAny (aN XJ H) L (oc<|.ref z) y XA m:=by
 refine w5 a.ty Ct (iF Ct a.ty T1 ?_<|VK _);show wpAny _ _ (ret<|.ref z) _ _ m;exact aM ⟨_,rfl,"set_iterator",_,a.ty,se.lookup,s⟩
def xW(a:Array Nat):Nat->Nat
 |0=>0
 |h+1=>a.getD h 0+1
theorem Ee{c:Array Nat}(p:hK c):∀{h:Nat},h<=c.size->aO.below c (xW c h)=h
 |0,_=>Wi p
 |h+1,b=>by
  have a:c[h]?=Z (c.getD h 0):=by simp[Array.getD,show h<c.size from b]
  exact TG p a
def j9(P:Array (Int×ag)):List ag:=(P.toList.map (·.2))
def uy(P:Array (Int×ag)):(j9 P).length=P.size:=by rw[j9,a6,dA]
theorem Ls(t:L.handled=V)(ne:XC≠z)(c:C.fits P.size=aa)(k:H.params.followText "set-order" = aA)(l:(!C.plain&&decide (P.size>1))=aA)(n:C.led=aa)(p:hK C.place):
  hH XJ H L z [z,XC] [z] (j9 P).length (λh u=>(j9 P)[h]?=Z u) (λh b=>gC b z (.int (xW C.place h) 0) h XC P.size X8/\iE b XC P X8 C) where
 sub:=λd v=>by
  have:d=z:=by simpa using v
  simp[this]
 frame:=λh b ah R q=>⟨R.1.go (q z ↥0),R.2.go (q XC ↥0)⟩
 item:=λh m y XA XG R i=>by
  rw[uy]at XG;have w:C.place.size=P.size:=by
   simp only[aO.fits,cq,oI]at c;exact c.1
  have r:P[h]?=Z P[h]:=jk XG;have x:C.place[h]?=Z (C.place.getD h 0):=by simp[Array.getD,show h<C.place.size by lia]
  have A:(j9 P)[h]?=Z P[h].2:=by rw[j9,ef,eU,r];rfl
  refine Iv (next:=xW C.place (h+1)) (e:=P[h].2) R.1 R.2 c rfl (λB D s=>F7 R.2 c k l n (Ee p ⋯) ?_) λah g d=>i _ ah m.toks A ⟨g,R.2.go λo a=>d.extBut XC o ne a⟩ λf o j a=>d.extBut f o ⇑j a;rw[r,x];exact s
 done:=λm y XA R i=>by
  rw[uy]at R;have w:C.place.size=P.size:=by
   simp only[aO.fits,cq,oI]at c;exact c.1
  refine Hf t R.1 R.2 c rfl (λB D s=>F7 R.2 c k l n (Ee p ⋯) ?_) λah d=>i ah m.toks λf o j a=>d f o ⇑j a;rw[wg (bk _)];exact s
 self:=λh m y XA R i=>xN R.1 i
theorem WB(n:L.handled=V)(ne:XC≠z)(i:C.fits P.size=aa)(k:H.params.followText "set-order" = aa):
  hH XJ H L z [z,XC] [z] (j9<|js (H.params.setOrder XC X8) P).length (λh u=>(j9<|js (H.params.setOrder XC X8) P)[h]?=Z u) (λh b=>gC b z (.int (0:Nat) 0) h XC P.size X8/\iE b XC P X8 C) where
 sub:=λd p=>by
  have:d=z:=by simpa using p
  simp[this]
 frame:=λh b ah R q=>⟨R.1.go (q z ↥0),R.2.go (q XC ↥0)⟩
 item:=λh m y XA XG R c=>by
  rw[uy]at XG;have l:(js (H.params.setOrder XC X8) P)[h]?=Z (js (H.params.setOrder XC X8) P)[h]:=jk XG;have r:(j9<|js (H.params.setOrder XC X8) P)[h]?=Z (js (H.params.setOrder XC X8) P)[h].2:=by rw[j9,ef,eU,l];rfl
  refine Iv (next:=0) (e:=(js (H.params.setOrder XC X8) P)[h].2) R.1 R.2 i rfl (λt v s=>Ck R.2 i k ?_) λah g d=>c _ ah m.toks r ⟨g,R.2.go λo a=>d.extBut XC o ne a⟩ λf o j a=>d.extBut f o ⇑j a;rw[l];exact s
 done:=λm y XA R c=>by
  rw[uy]at R;refine Hf n R.1 R.2 i rfl (λt v s=>Ck R.2 i k ?_) λah d=>c ah m.toks λf o j a=>d f o ⇑j a;rw[wg (bk _)];exact s
 self:=λh m y XA R c=>xN R.1 c
def nr(XF:List Nat):List ag:=(XF.map λ(h:Nat)=>fx h)
def j8(P:Array (Int×ag))(XF:List Nat):List ag:=(XF.filterMap λh=>P[h]?.map (·.2))
theorem I5{P:Array (Int×ag)}:∀{XF:List Nat},(∀n∈XF,n<P.size)->∀(h:Nat) (b:h<XF.length),∃e,P[XF[h]]?=Z e/\(j8 P XF)[h]?=Z e.2
 |[],_,h,b=>by cases b
 |n::XF,c,h,b=>by
  have f:n<P.size:=c n (.head _);have a:P[n]?=Z P[n]:=jk f;have g:j8 P (n::XF)=P[n].2::j8 P XF:=by rw[j8,zX (b:=P[n].2) (by rw[a];rfl)];rfl
  rw[g];cases h with
  |zero=>exact⟨P[n],a,rfl⟩
  |succ h=>
   let⟨@e,l,t⟩:=I5 (λn b=>c n<|.tail _ b) h (GR b);exact⟨e,l,t⟩
theorem Al{P:Array (Int×ag)}:∀{XF:List Nat},(∀n∈XF,n<P.size)->(j8 P XF).length=XF.length
 |[],_=>rfl
 |n::XF,c=>by
  have e:n<P.size:=c n (.head _);have a:P[n]?=Z P[n]:=jk e;rw[j8,zX (b:=P[n].2) (by rw[a];rfl),b6,b6];exact congrArg (·+1) (Al λn b=>c n<|.tail _ b)
theorem Tz(v:L.handled=V)(ne:XC≠z)(w:YH≠z)(s:C.fits P.size=aa)(j:∀n∈XF,n<P.size):
  hH XJ H L z [z,XC,YH] [z] (j8 P XF).length (λh u=>(j8 P XF)[h]?=Z u) (λh b=>gC b z (.ref YH) h XC P.size X8/\iE b XC P X8 C/\∃o,b.get? YH=Z o/\o.data=.seq (nr XF).toArray YN) where
 sub:=λd x=>by
  have:d=z:=by simpa using x
  simp[this]
 frame:=λh b ah R q=>⟨R.1.go (q z ↥0),R.2.1.go (q XC ↥0),let ⟨o,a,p⟩:=R.2.2;⟨o,q YH ↥0 o a,p⟩⟩
 item:=λh m y XA XG R c=>by
  let@⟨k,i,⟨@o,a,p⟩⟩:=R;rw[Al j]at XG;let⟨@e,l,t⟩:=I5 j h XG;refine Sz (e:=e) (b:=XF[h]) (Yb:=0) k i s rfl a p ?_ l λah g d=>c _ ah m.toks t ⟨g,i.go λo a=>d.extBut XC o ne a,o,d.extBut YH o w a,p⟩ λf o r a=>d.extBut f o ⇑r a;rw[ta,nr,ef,dF XG];rfl
 done:=λm y XA R c=>by
  let@⟨k,i,⟨@o,a,p⟩⟩:=R;refine UR v k i s rfl a p ?_ λah d=>c ah m.toks λf o r a=>d f o ⇑r a;rw[ta,nr,ef,s6 (by rw[Al j];exact bk _)];rfl
 self:=λh m y XA R c=>xN R.1 c
end
section
variable{XJ:bB}{H:a9}{L:br}{XA:ag->au->Prop}{m:au}
def Rj{p:aq}{y:Bool->au->Prop}(a:m.TypeIs (.ref p) "set")(b:y aA m):wpAny (aN XJ H) L (bc.List.listLengthHint<|.ref p) y XA m:=by
 unfold bc.List.listLengthHint;refine aw (qo a PySem.F.slot_set_len.lookup ?_);generalize e:("set.__len__" : String)=f
 wp_delta
 rw[show splitId f=Z ("set","__len__") from by subst e;decide +kernel];subst e;refine aw (tx (T := "set") (b:=aa) a (by rw[qX];kernel_rfl) ?_);refine z6 (λc=>absurd c ∅) (λ_=>?_);refine z6 (λ_=>?_) (λc=>absurd (by decide +kernel) c);refine aw (l7 a ?_);exact aM b
def S2(a:XF.Perm (range P.size)):j8 P XF=(XF.filterMap λh=>P[h]?).map (·.2)/\(XF.filterMap λh=>P[h]?).Perm P.toList:=by
 refine⟨?_,(a.filterMap _).trans (by rw[DH])⟩;rw[DC];rfl
end
def N_{Yv:Type}{F:XR->Yv}:∀{c J:List Yv},c.Perm J->∀Yt:List XR,Yt.map F=J->∃b:List XR,b.Perm Yt/\b.map F=c:=by
 intro c J n;induction n with
 |nil=>intro Yt a;cases q8.mp a;exact⟨[],.nil,rfl⟩
 |cons e n j=>
  intro Yt a;let⟨g,@p,rfl,rfl,f⟩:=AA.mp a;let⟨@b,h,YG⟩:=j p f;exact⟨g::b,h.cons g,by rw[bz,YG]⟩
 |swap e A J=>
  intro Yt a;let⟨g,@p,rfl,rfl,f⟩:=AA.mp a;let⟨d,@i,rfl,rfl,k⟩:=AA.mp f;exact⟨d::g::i,.swap g d i,by rw[bz,bz,k]⟩
 |trans h YG l m=>
  intro Yt a;let⟨@o,q,r⟩:=m Yt a;let⟨@s,t,u⟩:=l o r;exact⟨s,t.trans q,u⟩
theorem JG{H:a9}{XI:List X->aq->Prop}:∀Yt:List (List X×Int×ag),(∀i∈Yt,vO H XI i)->∃a:List (List X×aq),Yt.map (λi=>i.2.2)=a.map (λi=>ag.ref i.2)/\a.map (·.1)=Yt.map (·.1)/\∀i∈a,XI i.1 i.2
 |[],_=>⟨[],rfl,rfl,λ_ b=>(hP b).elim⟩
 |i::Yt,b=>by
  let⟨@d,e,k,f⟩:=b i (.head _);let⟨@a,cc,g,h⟩:=JG Yt λi j=>b i (.tail _ j);refine⟨(i.1,d)::a,by rw[bz,bz,cc,e],by rw[bz,bz,g],λA c=>?_⟩;rcases b0.mp c with rfl|c
  ·exact f
  ·exact h A c
section
variable{XJ:bB}{H:a9}{XI:List X->aq->Prop}{L:br}{XA:ag->au->Prop}{m:au}
variable{M:List (List X)}
def NG{y:ag->au->Prop}(v:L.handled=V)(S:fR H XI m.heap XC (hC H) M)(x:M.length<=300)(b:∀(l:aV) (r:_) (z:aq) (b7:List aq) (Q:List ag) (c:List (List X×aq)) (aZ:Nat->aV->Prop),(∀d o,m.heap.get? d=Z o->l.get? d=Z o)->m.heap.objs.size<=z->(∀d∈b7,d=XC\/m.heap.objs.size<=d)->
   hH XJ H L z b7 [z] Q.length (λh u=>Q[h]?=Z u) aZ->aZ 0 l->Q=c.map (λi=>ag.ref i.2)->(c.map (·.1)).Perm M->(∀i∈c,XI i.1 i.2)->y (.ref z) {m with heap:=l,drawn:=r}):
  wpAny (aN XJ H) L (oc<|.ref XC) y XA m:=by
 let⟨o,P,X8,@C,f,A,k,w⟩:=S;have ty:m.TypeIs (.ref XC) "set" := ⟨o,f,A.1⟩;have B:XC<m.heap.objs.size:=cn f;have T:P.size<=sizeLine:=by rw[w.num];exact dg x ∅
 have D:∀J:List (Int×ag),J.Perm P.toList->∃c:List (List X×aq),J.map (·.2)=c.map (λi=>ag.ref i.2)/\(c.map (·.1)).Perm M/\∀i∈c,XI i.1 i.2:=λJ bl=>by
  let⟨@Yt,U,al,am⟩:=w.pk;let⟨@an,G,YG⟩:=N_ bl Yt U;let⟨@c,cc,g,j⟩:=JG (H:=H) (XI:=XI) an λi x=>am i (G.mem_iff.mp x);refine⟨c,?_,?_,j⟩
  ·rw[<-YG,fM];exact cc
  ·rw[g];exact (G.map _).trans al
 refine w5 ty GC (iF GC ty Wa ?i<|PySem.F.args_set_iter_1 _)
 case i=>
  unfold bc.«frozenset.__iter__» bc.Frozenset.slot0 bc.Frozenset.addrOf bc.Frozenset.sizeOf;refine aw (aw<|aM<|aM ?_);refine aw (aw<|rY f k w.fit<|aM ?_);refine aw ?_;unfold setDrawn;refine aw (kL f k w.fit ?_);dsimp only;refine aw (s8<|aM ?_);have ap:H.params.followText "set-order" = aa\/(!C.plain&&decide (P.size>1))=aA->
    wpAny (aN XJ H) L.in1 (do let X8 <-setEpoch XC;let p <-newFields "set_iterator" [fx 0,fx 0,.ref XC,fx P.size,fx X8];ret p) (λas XM=>∃p,as=PySem.Fin.done (.ret p)/\∃I s,XM.TypeIs p I/\uZ (.type I) "__next__" = pure (Z s)/\y p XM) XA m:=by
   intro a1;refine aw (Ei f k w.fit<|aw<|gF<|aM ⟨_,rfl,"set_iterator",_,⟨_,dE _ rfl,rfl⟩,se.lookup,?_⟩);have b3:∀d o,m.heap.get? d=Z o->(m.heap.push {cls:=.type "set_iterator",dict:=V,data:=.fields [fx 0,fx 0,.ref XC,fx P.size,fx X8].toArray}).get? d=Z o:=λd o a=>cw _ a;have O:gC (m.heap.push {cls:=.type "set_iterator",dict:=V,data:=.fields [fx 0,fx 0,.ref XC,fx P.size,fx X8].toArray}) m.heap.objs.size (.int (0:Nat) 0) 0 XC P.size X8:=⟨_,dE _ rfl,rfl,rfl⟩;have R:iE (m.heap.push {cls:=.type "set_iterator",dict:=V,data:=.fields [fx 0,fx 0,.ref XC,fx P.size,fx X8].toArray}) XC P X8 C:=⟨o,b3 _ _ f,A,k⟩;have b7:∀d∈[m.heap.objs.size,XC],d=XC\/m.heap.objs.size<=d:=λd e=>by
    rcases b0.mp e with rfl|e
    ·exact .inr (bk _)
    ·exact .inl (cf.mp e)
   cases q:H.params.followText "set-order" with
   |true=>
    have t:=Qu (H.params.setOrder XC X8) P;let⟨@c,cc,g,j⟩:=D _ t;exact b _ m.drawn _ _ _ _ _ b3 (bk _) b7 (WB v (c0 B) w.fit q) ⟨O,R⟩ cc g j
   |false=>
    have a2:=a1.resolve_left (by rw[q];exact cB);let⟨@c,cc,g,j⟩:=D _ (.refl _);exact b _ m.drawn _ _ _ _ _ b3 (bk _) b7 (Ls v (c0 B) w.fit q a2 (by rw[w.tab.led,hC,q];rfl) w.tab.rise) ⟨O,R⟩ cc g j
  show wpAny _ _ (if (!H.params.followText "set-order" && (!C.plain&&decide (P.size>1)))=aa then _ else _) _ _ _;cases hd:(!H.params.followText "set-order" && (!C.plain&&decide (P.size>1))) with
  |false=>
   rw[if_neg cB];refine aw (m:=pure (fx 0)) (aM<|ap ?_);cases q:H.params.followText "set-order" with
   |true=>exact .inl rfl
   |false=>rw[q]at hd;exact .inr hd
  |true=>
   rw[aF rfl];refine aw (G8 P.size (range P.size) m _ j2 λr XF t=>?_);have bd:∀n∈XF,n<P.size:=λn b=>gJ.mp (t.mem_iff.mp b);have be:XF.length=P.size:=by rw[t.length_eq,j2]
   refine aw (m:=newObj (.type "tuple") (.seq (nr XF).toArray)) (gF ?_ (show (nr XF).toArray.size<=sizeLine by rw[cK,nr,a6,be];exact T));refine aw (Ei (cw _ f) k w.fit<|aw<|gF<|aM ⟨_,rfl,"set_iterator",_,⟨_,dE _ rfl,rfl⟩,se.lookup,?_⟩);let@⟨bi,bm⟩:=S2 t;let⟨@c,cc,g,j⟩:=D _ bm;have d4:({m with heap:=m.heap.push {cls:=.type "tuple",dict:=V,data:=.seq (nr XF).toArray},drawn:=r}:au).heap.objs.size=m.heap.objs.size+1:=iL ..;refine b _ r _ [_,XC,m.heap.objs.size] (j8 P XF) c _ (λd o a=>cw _<|cw _ a) ?_ ?_ (Tz (X8:=X8) (C:=C) (YN:=0) v ?_ ?_ w.fit bd) ⟨⟨_,dE _ rfl,rfl,rfl⟩,⟨o,cw _<|cw _ f,A,k⟩,⟨_,cw _<|dE _ rfl,rfl⟩⟩ (bi.trans cc) g j
   ·exact lA (by rw[iL];exact mX _)
   ·intro d e;rcases b0.mp e with rfl|e
    ·exact .inr (by rw[iL];exact z8 _)
    ·rcases b0.mp e with rfl|e
     ·exact .inl rfl
     ·exact .inr (by rw[cf.mp e];exact bk _)
   ·rw[iL];exact c0 (DY B)
   ·rw[iL];exact c0 (mX _)
def Vx{y:List ag->au->Prop}(ap:L.handled=V)(x:fR H XI m.heap XC (hC H) M)(A:M.length<=300)(b:∀(ah:aV) (Yb:Nat) (r:_) (c:List (List X×aq)),(∀d o,m.heap.get? d=Z o->ah.get? d=Z o)->(c.map (·.1)).Perm M->(∀i∈c,XI i.1 i.2)->y (c.map λi=>ag.ref i.2) {m with heap:=ah,toks:=Yb,drawn:=r}):
  wpAny (aN XJ H) L (collect<|.ref XC) y XA m:=by
 have B:XC<m.heap.objs.size:=let ⟨_,_,_,_,a,_⟩:=x;cn a
 unfold collect;refine aw (Kk<|hW entry_proto_collect' ?_);rw[iR PySem.F.plain_proto_collect _];show wpAny _ L.in1 (r9 [] >>= λJ=>again<|.builtin "list.__iadd__" ⟨[J,.ref XC],[]⟩) _ _ m;refine aw (gF ?_);refine aM ⟨hz Kl _,hW entry_list_iadd' ?_⟩;rw[iR Kl _];generalize C:m.heap.push {cls:=.type "list",dict:=V,data:=.seq ([]:List ag).toArray}=XE;have D:∀d o,m.heap.get? d=Z o->XE.get? d=Z o:=λd o a=>by rw[<-C];exact cw _ a
 have E:XE.get? m.heap.objs.size=Z {cls:=.type "list",dict:=V,data:=.seq #[]}:=by rw[<-C];exact dE _ rfl
 have G:m.heap.objs.size<XE.objs.size:=cn E;have I:fR H XI XE XC (hC H) M:=x.at λo a=>D XC o a;have ty:au.TypeIs {m with heap:=XE} (.ref XC) "set" := let ⟨o,_,_,_,a,e,_⟩:=I;⟨o,a,e.1⟩
 show wpAny _ L.in1 (bc.List.listExtendWith (.ref m.heap.objs.size) (.ref XC)<|.ref m.heap.objs.size) _ _ _;unfold bc.List.listExtendWith;refine aw (l7 (T := "set") ty ?_);have l:bc.List.listSameRef (.ref m.heap.objs.size) (.ref XC)=aA:=by simp[bc.List.listSameRef,lg B]
 have t:(ag.type "set" == ag.type "list")=aA:=by decide
 have as:(ag.type "set" == ag.type "tuple")=aA:=by decide
 simp only[l,t,as,C6,hr,eR];refine aw (NG (m:={m with heap:=XE}) ap I A λt r z b7 Q c aZ p d4 a1 W R gn X5 O=>?_);have a2:Q.length<=sizeLine:=by rw[gn,a6,<-a6 (f:=(·.1)),X5.length_eq];exact dg A ∅
 have P:m.heap.objs.size∉b7:=λk=>by
  rcases a1 _ k with a|a
  ·exact absurd a (lg B)
  ·exact absurd G (pX.mpr a)
 have q:t.get? m.heap.objs.size=Z {cls:=.type "list",dict:=V,data:=.seq #[]}:=p _ _ E;have bd:au.TypeIs {m with heap:=t,drawn:=r} (.ref XC) "set" := let ⟨o,a,f⟩:=ty;⟨o,p _ _ a,f⟩
 have XX:∀(g:aV) (f:Nat) (Xz:qw->au->Prop),aZ 0 g->(∀d o,d≠m.heap.objs.size->t.get? d=Z o->g.get? d=Z o)->g.get? m.heap.objs.size=Z {cls:=.type "list",dict:=V,data:=.seq #[] f}->
   (∀(ah:aV) (Yb:Nat) (j:Nat),(∀d o,m.heap.get? d=Z o->ah.get? d=Z o)->ah.get? m.heap.objs.size=Z {cls:=.type "list",dict:=V,data:=.seq Q.toArray j}->Xz (.ok<|.ret<|.ref m.heap.objs.size) {m with heap:=ah,toks:=Yb,drawn:=r})->
   codeAny (aN XJ H) L (.builtin "list.extend.loop" ⟨[.ref m.heap.objs.size,.ref z,.ref m.heap.objs.size],[]⟩) Xz {m with heap:=g,drawn:=r}:=λg f Xz R b3 be bi=>
  codeAny_extend_loopS W.toS a2 m.heap.objs.size P (.ref m.heap.objs.size) Q.length 0 _ #[] f rfl (e9 _) R be (ItemsOf.nil _) λXM s j k S U=>by
   rw[show XM={m with heap:=XM.heap,toks:=XM.toks,drawn:=r} from by let⟨Y,bm,bn,bs,Y⟩:=k;cases XM;cases bm;cases bn;cases bs;rfl];have bv:s=Q.toArray:=by
    apply JO.mp;apply xl
    ·rw[dA];exact U.1
    ·intro h ca cd;have:=U.2 h s.toList[h] (by rw[<-eU];exact dF ca);have this:Q[h]?=Z s.toList[h]:=this;rw[dF cd]at this;exact (Option.some.inj this).symm
   rw[bv]at S;refine bi XM.heap XM.toks j (λd o a=>k.heap d o (λu=>?_)<|b3 d o (c0<|cn a)<|p d o<|D d o a) S;rcases b0.mp u with ce|u
   ·exact absurd (cn a) (by rw[ce];exact gN _)
   ·have al:=cn a;rw[cf.mp u]at al;have:m.heap.objs.size<=z:=dg (lA G) d4;exact absurd al (pX.mpr this)
 refine aw (fS<|Rj (m:={m with heap:=t,drawn:=r}) bd ?_);refine z6 (λ_=>?_) (λ_=>aM ⟨hz IQ _,XX _ 0 _ R (λd o Y a=>a) q λah Yb j v w=>aw (wX w (aM (by rw[gn];exact b ah Yb r c v X5 O)))⟩);refine aw (ov ?_);refine aw ?_;show wpAny _ _ (pw m.heap.objs.size (·.push .none) >>= λ_=>pw m.heap.objs.size (·.pop)) _ _ _;refine aw (mi (s:={m with heap:=t,drawn:=r}) q rfl ?_);have am:=jB (a5.mapSeq (·.push ag.none)) q rfl;refine mi (hz:=by seq_fits) am rfl ?_;have ch:=jB (a5.mapSeq (·.pop)) am rfl;refine aM ⟨hz IQ _,XX _ _ _ ?_ (λd o n a=>?_) ch λah Yb j v w=>aw (wX w (aM (by rw[gn];exact b ah Yb r c v X5 O)))⟩
 ·refine W.frame 0 _ _ R λd n o a=>?_;have an:d≠m.heap.objs.size:=λb=>P (b ▸ n);exact (gM _ _<|dn an).trans ((gM _ _<|dn an).trans a)
 ·exact (gM _ _<|dn n).trans ((gM _ _<|dn n).trans a)
end
end L2
namespace L2
open Spec PyProof.Rows PySem.W
section
variable{v:Nat}{XX:Nat->Int}{e:Nat->Nat->(Bool->au->Prop)->au->Prop}
def bw(XX:Nat->Int)(n:Array Nat)(h:Nat):Int:=(XX (n.getD h 0))
def lN(XX:Nat->Int)(n:Array Nat)(E:Nat):Prop:=(∀h k,h<=k->k<E->bw XX n h<=bw XX n k)
def jE(v:Nat)(XX:Nat->Int)(e:Nat->Nat->(Bool->au->Prop)->au->Prop)(m:au):Prop:=(∀h k aL,h<v->k<v->aL (decide (XX h<XX k)) m->e h k aL m)
def dS(v:Nat)(n:Array Nat):Prop:=(n.toList.Perm (range v))
variable{n:Array Nat}
def dS.size(b:dS v n):n.size=v:=by
 have:=b.length_eq;simpa using this
def dS.lt(b:dS v n){h:Nat}(XG:h<v):n.getD h 0<v:=by
 have XO:=b.size;have a:n.getD h 0=n[h]:=by simp[Array.getD,XO,XG]
 rw[a];have:n[h]∈n.toList:=by simp
 exact gJ.mp (b.mem_iff.mp this)
def dS.ne(b:dS v n)(inj:∀h k,h<v->k<v->XX h=XX k->h=k){h k:Nat}(i:h<k)(c:k<v):bw XX n h≠bw XX n k:=by
 intro a;have XO:=b.size;have d:=inj _ _ (b.lt (by omega)) (b.lt c) a;have e:n.getD h 0=n[h]:=by simp[Array.getD,XO,show h<v by omega]
 have f:n.getD k 0=n[k]:=by simp[Array.getD,XO,c]
 rw[e,f]at d;have ae:n.toList.Nodup:=b.nodup_iff.mpr tM;have g:n.toList[h]'(by simpa [XO] using (show h<v by omega))=n.toList[k]'(by simpa [XO] using c):=by simpa using d
 have:=(y9 ae).mp g;omega
def pE{s:Array Nat}{h k:Nat}(a:n[h]?=s[k]?):bw XX n h=bw XX s k:=by
 unfold bw;rw[Cq,Cq,a]
theorem dS.rev(b:dS v n)(h k:Nat):dS v (m7 n h k):=(GS.mp<|mirror_perm n h k _).trans b
theorem dS.Qe(b:dS v n)(h k:Nat):dS v (qS n h k):=(GS.mp<|bubble_perm n h k).trans b
end
section
variable{XJ:bB}{H:a9}{L:br}{XA:ag->au->Prop}{X6:gA}{aP:Array h1}{XX:Nat->Int}{v:Nat}{m:au}
def K0(a:jE v XX (ix XJ H L X6 aP) m){h k:Nat}(XG:h<v)(c:k<v){R:eZ}(d:kindOf R=X6){y:Option Bool->eZ->au->Prop}(b:y (Z<|decide (XX h<XX k)) R m):
  kasC (aN XJ H) L XA (lt' (i7 aP h)<|i7 aP k) y R m:=by
 rw[lt'_eq];apply d1;apply nR;have:=a h k (λf XM=>XM=m/\f=decide (XX h<XX k)) XG c ⟨rfl,rfl⟩;unfold ix at this;rw[d];refine d1 (zH<|tp<|gz this (λf XM e=>?_) λ_ Y g=>g.elim);let@⟨rfl,rfl⟩:=e;exact fl b
def rg{B XR:Type}{aC:jh}{E:StateT B eP XR}{y c:XR->B->au->Prop}{R:B}{XM:au}(b:kasC aC L XA E c R XM)(O:∀g R XM,c g R XM->y g R XM):kasC aC L XA E y R XM:=
 gz b (λp XM e=>O p.1 p.2 XM e) λ_ Y a=>a
end
section
variable{XJ:bB}{H:a9}{L:br}{XA:ag->au->Prop}{X6:gA}{aP:Array h1}{XX:Nat->Int}{v:Nat}{m:au}{i:Array (Nat×Nat×Nat)}
structure gy(X6:gA)(aP:Array h1)(i:Array (Nat×Nat×Nat))(R:eZ)(p:Array Nat):Prop where
 k:PyProof.Rows.kindOf R=X6
 a:lD R=p.map (i7 aP)
 p:my R=i
 f:qk R=V
def sQ(f:jE v XX (ix XJ H L X6 aP) m){n:Array Nat}(c:dS v n){h k:Nat}(XG:h<v)(d:k<v){R:eZ}(j:gy X6 aP i R n){y:Option Bool->eZ->au->Prop}(b:y (Z<|decide (bw XX n h<bw XX n k)) R m):
  kasC (aN XJ H) L XA (o2 h k) y R m:=by
 have e:∀h,h<v->(n.map<|i7 aP)[h]?=Z (i7 aP<|n.getD h 0):=λh XG=>by
  have:h<n.size:=by rw[c.size];exact XG
  simp[Array.getD,this]
 rw[ltAt'_eq];refine d1 (nR ?_);rw[j.a];dsimp only;rw[elem'_eq,elem'_eq,e h XG,e k d];refine d1 (fl ?_);refine d1 (fl ?_);exact K0 f (c.lt XG) (c.lt d) j.k b
variable{n:Array Nat}{R:eZ}
def uz(j:gy X6 aP i R n){h k:Nat}{y:Unit->eZ->au->Prop}(b:∀c,gy X6 aP i c (m7 n h k)->y () c m):kasC (aN XJ H) L XA (r5 h k) y R m:=by
 rw[reverseSlice'_eq];refine uI (b _ ⟨j.k,?_,j.p,j.f⟩);show mirror (lD R) h k ((k-h)/2)=_;rw[j.a];exact Ih (i7 aP) (λq=>h+q) (λq=>k-1-q) _ n
def Na(j:gy X6 aP i R n){h k:Nat}{y:Unit->eZ->au->Prop}(b:∀c,gy X6 aP i c (qS n h<|h-k)->y () c m):kasC (aN XJ H) L XA (moveDown' h k) y R m:=by
 rw[moveDown'_eq];refine uI (b _ ⟨j.k,?_,j.p,j.f⟩);show qS (lD R) h (h-k)=_;rw[j.a];exact Ih (i7 aP) (λq=>h-q) (λq=>h-q-1) _ n
theorem rl{B Yv:Type}{aC:jh}{F:Nat->Yv->StateT B eP (ForInStep Yv)}{y:Yv->B->au->Prop}(z:Nat->Yv->B->au->Prop)(Ya:Nat)(step:∀e f R XM,e<Ya->z e f R XM->kasC aC L XA (F e f) (λp d h=>match p with | .yield c=>z (e+1) c d h | .done c=>y c d h) R XM):∀(E g:Nat) (f:Yv) (R:B) (XM:au),g+E<=Ya->(∀f R XM,z (g+E) f R XM->y f R XM)->z g f R XM->
   kasC aC L XA (forIn (range' g E) f F) y R XM
 |0,g,f,R,XM,j,i,b=>by
  show kasC aC L XA (forIn ([]:List Nat) f F) y R XM;exact kasC_nil (i f R XM b)
 |E+1,g,f,R,XM,j,i,b=>by
  show kasC aC L XA (forIn (g::range' (g+1) E) f F) y R XM;refine pO (gz (step g f R XM ⋯ b) (λp h ah=>?_) λ_ Y a=>a);let⟨p,d⟩:=p;cases p with
  |done c=>exact ah
  |yield c=>exact rl z Ya step E (g+1) c d h ⋯ (λf R XM XG=>i f R XM (by rw[show g+(E+1)=g+1+E by lia];exact XG)) ah
end
section
variable{XJ:bB}{H:a9}{L:br}{XA:ag->au->Prop}{X6:gA}{aP:Array h1}{XX:Nat->Int}{v:Nat}{m:au}{i:Array (Nat×Nat×Nat)}
def o9(XX:Nat->Int)(n:Array Nat)(XB E:Nat):Prop:=(∀h k,XB<=h->h<=k->k<XB+E->bw XX n h<=bw XX n k)
def BW{n:Array Nat}{XB E:Nat}(b:∀k,XB+1<=k->k<XB+E->bw XX n (k-1)<=bw XX n k):o9 XX n XB E:=by
 intro h k XG a c;obtain⟨r,rfl⟩:∃r,k=h+r:=⟨k-h,⋯⟩;clear a;induction r with
 |zero=>exact iJ _
 |succ r e=>
  have g:=e ⋯;have d:=b (h+(r+1)) ⋯ c;rw[show h+(r+1)-1=h+r by lia]at d;lia
def Sd(T:jE v XX (ix XJ H L X6 aP) m){n:Array Nat}(U:dS v n){XB E o:Nat}(a2:XB+E<=v)(l:1<=o)(bd:o<=E)(r:o9 XX n XB o){R:eZ}(j:gy X6 aP i R n){y:Bool->eZ->au->Prop}(b:∀c5 c,dS v c5->gy X6 aP i c c5->(∀h,h<XB->c5[h]?=n[h]?)->o9 XX c5 XB E->y aa c m):
  kasC (aN XJ H) L XA (binarySort' XB E o) y R m:=by
 rw[binarySort'_eq];rw[show max o 1=o by lia];with_unfolding_all refine d1 (rg (c:=λf c XM=>m=XM/\f=(V,())/\∃s,dS v s/\gy X6 aP i c s/\(∀h,h<XB->s[h]?=n[h]?)/\o9 XX s XB E)
  (oB (rl (λe f c XM=>m=XM/\f=(V,())/\1<=e/\∃s,dS v s/\gy X6 aP i c s/\(∀h,h<XB->s[h]?=n[h]?)/\o9 XX s XB e) E ?step _ _ _ _ _ ⋯ ?fin ⟨rfl,rfl,l,n,U,j,λ_ Y=>rfl,r⟩)) ?after)
 case after=>
  rintro f c XM ⟨rfl,rfl,s,z,B,C,w⟩;exact fl (b s _ z B C w)
 case fin=>
  rintro f c XM ⟨rfl,rfl,be,s,z,B,C,w⟩;rw[show o+(E-o)=E by lia]at w;exact⟨rfl,rfl,s,z,B,C,w⟩
 case step=>
  rintro q f c XM bi ⟨rfl,rfl,bm,s,D,S,am,r⟩;dsimp only;have an:∀h,XB<=h->h<XB+0->bw XX s h<=bw XX s (XB+q):=λh g d=>⋯
  have ap:∀h,XB+q<=h->h<XB+q->bw XX s (XB+q)<=bw XX s h:=λh g d=>⋯
  refine d1 (rg (c:=λf t XM=>m=XM/\c=t/\∃J p,f=(V,J,p)/\J<=q/\(∀h,XB<=h->h<XB+J->bw XX s h<=bw XX s (XB+q))/\(∀h,XB+J<=h->h<XB+q->bw XX s (XB+q)<=bw XX s h))
   (oB (rl (λe f t XM=>m=XM/\c=t/\∃J p,f=(V,J,p)/\J<=p/\p<=q/\p-J<=q-e/\(∀h,XB<=h->h<XB+J->bw XX s h<=bw XX s (XB+q))/\(∀h,XB+p<=h->h<XB+q->bw XX s (XB+q)<=bw XX s h)) q ?s2 _ _ _ _ _ ⋯ ?f2 ⟨rfl,rfl,0,q,rfl,⋯,⋯,⋯,an,ap⟩)) ?YH)
  case f2=>
   rintro f t XM ⟨rfl,rfl,J,p,rfl,c2,c6,fO,e8,u⟩;exact⟨rfl,rfl,J,p,rfl,⋯,e8,λh e A=>u h ⋯ A⟩
  case s2=>
   rintro e f t XM bn ⟨rfl,rfl,J,p,rfl,c2,c6,fO,e8,u⟩;dsimp only;by_cases a:J >= p
   ·rw[aF a];exact fl ⟨rfl,rfl,J,p,rfl,⋯,e8,λh e A=>u h ⋯ A⟩
   rw[if_neg a];have F:J<=(J+p)/2:=⋯
   have as:(J+p)/2<p:=⋯
   have G:(J+p)/2-J<=q-(e+1):=⋯
   have I:p-((J+p)/2+1)<=q-(e+1):=⋯
   generalize (J+p)/2=mid at F as G I ⊢;refine d1 (sQ T D ⋯ ⋯ S ?_);dsimp only;by_cases M:bw XX s (XB+q)<bw XX s (XB+mid)
   ·rw[aF ⇑M];refine fl ⟨rfl,rfl,J,mid,rfl,F,⋯,G,e8,λh e A=>?_⟩;have:=r (XB+mid) h ⋯ e A;lia
   ·rw[if_neg ⇑M];refine fl ⟨rfl,rfl,mid+1,p,rfl,⋯,c6,I,λh e A=>?_,u⟩;have:=r h (XB+mid) e ⋯ ⋯;lia
  case YH=>
   rintro f t XM ⟨rfl,rfl,J,p,rfl,c2,e8,u⟩;dsimp only;refine d1 (Na S ?_);intro bs a1;have O:∀h,(qS s (XB+q)<|XB+q-(XB+J))[h]?=if h=XB+J then s[XB+q]? else if XB+J<h/\h<=XB+q then s[h-1]? else s[h]?:=λh=>by
    have:=getElem?_bubble (xs:=s) (src:=XB+q) (by rw[D.size];lia) (XB+q-(XB+J)) ⋯ h
    rwa [show XB+q-(XB+q-(XB+J))=XB+J by lia]at this
   have a4:∀h,bw XX (qS s (XB+q)<|XB+q-(XB+J)) h=if h=XB+J then bw XX s (XB+q) else if XB+J<h/\h<=XB+q then bw XX s (h-1) else bw XX s h:=λh=>by
    have O:=O h;by_cases a:h=XB+J
    ·rw[aF a]at O ⊢;exact pE O
    ·rw[if_neg a]at O ⊢;by_cases N:XB+J<h/\h<=XB+q
     ·rw[aF N]at O ⊢;exact pE O
     ·rw[if_neg N]at O ⊢;exact pE O
   refine fl ⟨rfl,rfl,⋯,_,D.Qe _ _,a1,λh XG=>by rw[O,if_neg ⋯,if_neg ⋯];exact am h XG,BW λk e A=>?_⟩;rw[a4,a4];by_cases P:k-1=XB+J
   ·rw[aF P,if_neg ⋯,aF ⋯];exact u (k-1) ⋯ ⋯
   ·rw[if_neg P];by_cases Q:k=XB+J
    ·rw[aF Q,if_neg ⋯];exact e8 (k-1) ⋯ ⋯
    ·rw[if_neg Q];by_cases ca:XB+J<k-1
     ·rw[aF ⋯,aF ⋯];exact r _ _ ⋯ ⋯ ⋯
     ·rw[if_neg ⋯,if_neg ⋯];exact r _ _ ⋯ ⋯ ⋯
variable{s:Array Nat}
def t5(a:dS v s){h k:Nat}(b:k<=v)(q:Nat):(m7 s h k)[q]?=if h<=q/\q<k then s[h+k-1-q]? else s[q]?:=by
 unfold m7;rw[getElem?_mirror_all (by rw[a.size];lia)]
def SM(c:dS v s){h k:Nat}(d:k<=v)(a:∀q,h<=q->q<k->bw XX s q=bw XX s h)(q:Nat):bw XX (m7 s h k) q=bw XX s q:=by
 by_cases b:h<=q/\q<k
 ·rw[pE (show (m7 s h k)[q]?=s[h+k-1-q]? by rw[t5 c d,aF b]),a _ ⋯ ⋯,a q b.1 b.2]
 ·exact pE (by rw[t5 c d,if_neg b])
structure mB(XX:Nat->Int)(v XB:Nat)(n s:Array Nat):Prop where
 ng:dS v s
 be:∀h,h<XB->s[h]?=n[h]?
 a4:∀q,bw XX s q=bw XX n q
def mB.rev{XB:Nat}{n:Array Nat}(XQ:mB XX v XB n s){h k:Nat}(XG:XB<=h)(b:k<=v)(a:∀q,h<=q->q<k->bw XX n q=bw XX n h):mB XX v XB n (m7 s h k):=
 ⟨XQ.ng.rev h k,λq c=>by rw[t5 XQ.ng b,if_neg ⋯];exact XQ.be q c,λq=>by
  rw[SM XQ.ng b (λq g d=>by rw[XQ.a4,XQ.a4];exact a q g d)];exact XQ.a4 q⟩
theorem CO{F:Nat->Int}{g d:Nat}(b:∀k,g+1<=k->k<d->F k=F (k-1)):∀r,g+r<d->F (g+r)=F g
 |0,_=>rfl
 |r+1,hd=>(b (g+(r+1)) ⋯ hd).trans (CO b r ⋯)
def El(n:jE v XX (ix XJ H L X6 aP) m){XB b:Nat}(u:XB+b<=v){s:Array Nat}{h:eZ}{g:Nat}(o:dS v s)(XE:gy X6 aP i h s)(w:1<=g)(YH:g<=b)(q:∀k,XB+1<=k->k<XB+g->bw XX s (k-1)<=bw XX s k):
   kasC (aN XJ H) L XA (forIn [g:b] ((V:Option (Option Nat)),g) λe f=>o2 (XB+f.2) (XB+f.2-1) >>= λp=>match p with
    |some r=>if r=aa then pure (ForInStep.done (V,f.2)) else pure (ForInStep.yield (V,f.2+1))
    |e=>pure<|ForInStep.done (Z V,f.2))
    (λf c XM=>m=XM/\h=c/\∃E,f=(V,E)/\g<=E/\E<=b/\(∀k,XB+1<=k->k<XB+E->bw XX s (k-1)<=bw XX s k)/\(E=b\/bw XX s (XB+E)<bw XX s (XB+E-1))) h m:=by
 refine oB (rl (λe f c XM=>m=XM/\h=c/\f=(V,e)/\g<=e/\∀k,XB+1<=k->k<XB+e->bw XX s (k-1)<=bw XX s k) b ?_ _ _ _ _ _ ⋯ ?_ ⟨rfl,rfl,rfl,bk _,q⟩)
 ·rintro e f c XM x ⟨rfl,rfl,rfl,l,d⟩;dsimp only;refine d1 (sQ n o ⋯ ⋯ XE ?_);dsimp only;by_cases j:bw XX s (XB+e)<bw XX s (XB+e-1)
  ·rw[aF ⇑j];exact fl ⟨rfl,rfl,e,rfl,l,⋯,d,.inr j⟩
  ·rw[if_neg ⇑j];refine fl ⟨rfl,rfl,rfl,⋯,λk t y=>?_⟩;by_cases a:k=XB+e
   ·subst a;lia
   ·exact d k t ⋯
 ·rintro f c XM ⟨rfl,rfl,rfl,l,d⟩;rw[show g+(b-g)=b by lia]at d ⊢;exact⟨rfl,rfl,b,rfl,⋯,bk _,d,.inl rfl⟩
def vV(XB a E:Nat): StateT eZ eP (Option Nat):=(r5 XB (XB+E) >>= λ_ => (forIn [E:a] ((V:Option (Option Nat)),E) λe f => o2 (XB+f.2) (XB+f.2-1) >>= λp => match p with
    |some b => if b=aa then pure (ForInStep.done (V,f.2)) else pure (ForInStep.yield (V,f.2+1))
    |e => pure<|ForInStep.done (Z V,f.2)) >>= λf => match f.1 with
    |some p => pure p
    |none => pure (Z f.2))
def B4(XB e:Nat)(f:Option (Option Nat)×Nat×Nat):StateT eZ eP (ForInStep<|Option (Option Nat)×Nat×Nat):=(o2 (XB+f.2.1) (XB+f.2.1-1) >>= λp=>match p with
 |some a=>if a=aa then (if f.2.2>0 then r5 (XB+f.2.1-(f.2.2+1)) (XB+f.2.1) >>= λ_=>pure (.yield (V,f.2.1+1,0)) else pure (.yield (V,f.2.1+1,0)))
  else o2 (XB+f.2.1-1) (XB+f.2.1) >>= λp=>match p with
   |some b=>if b=aa then pure (.done (V,f.2.1,f.2.2)) else pure (.yield (V,f.2.1+1,f.2.2+1))
   |e=>pure (.done (Z V,f.2.1,f.2.2))
 |e=>pure (.done (Z V,f.2.1,f.2.2)))
def vi(XB a E:Nat):StateT eZ eP (Option Nat):=(liftM (PySem.rule "list.sort.descending-run") >>= λ_=>forIn [E+1:a] ((V:Option (Option Nat)),E+1,0) (B4 XB) >>= λf=>match f.1 with
 |some p=>pure p
 |none=>if f.2.2>0 then r5 (XB+f.2.1-(f.2.2+1)) (XB+f.2.1) >>= λ_=>vV XB a f.2.1 else vV XB a f.2.1)
def EN(e:jE v XX (ix XJ H L X6 aP) m){XB a E:Nat}(l:XB+a<=v){n s:Array Nat}{R:eZ}(XQ:mB XX v XB n s)(j:gy X6 aP i R s)(o:1<=E)(p:E<=a)(q:∀k,XB+1<=k->k<XB+E->bw XX n k<=bw XX n (k-1)){y:Option Nat->eZ->au->Prop}(b:∀E c5 c,1<=E->E<=a->dS v c5->gy X6 aP i c c5->(∀h,h<XB->c5[h]?=n[h]?)->(∀k,XB+1<=k->k<XB+E->bw XX c5 (k-1)<=bw XX c5 k)->y (Z E) c m):kasC (aN XJ H) L XA (vV XB a E) y R m:=by
 unfold vV;refine d1 (uz j λw XS=>?_);have O:=t5 XQ.ng (h:=XB) (k:=XB+E) ⋯;have a4:∀h,XB<=h->h<XB+E->bw XX (m7 s XB<|XB+E) h=bw XX n (XB+(XB+E)-1-h):=λh g d=>(pE (by rw[O,aF ⟨g,d⟩])).trans (XQ.a4 _);refine d1 (rg (El e l (XQ.ng.rev XB<|XB+E) XS o p λk x z=>?_) ?_)
 ·rw[a4 _ ⋯ ⋯,a4 _ ⋯ ⋯];have:=q (XB+(XB+E)-1-(k-1)) ⋯ ⋯;rw[show XB+(XB+E)-1-(k-1)-1=XB+(XB+E)-1-k by lia]at this;exact this
 ·rintro f c XM ⟨rfl,rfl,r,rfl,A,t,u,B⟩;dsimp only;exact fl (b r _ _ ⋯ t (XQ.ng.rev XB<|XB+E) XS (λh XG=>by rw[O,if_neg ⋯];exact XQ.be h XG) u)
def Ff(w:jE v XX (ix XJ H L X6 aP) m){XB l E:Nat}(B:XB+l<=v){n s:Array Nat}{R:eZ}(XQ:mB XX v XB n s)(j:gy X6 aP i R s)(P:1<=E)(Q:E<l)(J:∀k,XB+1<=k->k<XB+(E+1)->bw XX n k<=bw XX n (k-1)){y:Option Nat->eZ->au->Prop}(b:∀E c5 o,1<=E->E<=l->dS v c5->gy X6 aP i o c5->(∀h,h<XB->c5[h]?=n[h]?)->(∀k,XB+1<=k->k<XB+E->bw XX c5 (k-1)<=bw XX c5 k)->y (Z E) o m):kasC (aN XJ H) L XA (vi XB l E) y R m:=by
 have aW:∀{e r:Nat},r+1<=e->(∀k,XB+e-r<=k->k<XB+e->bw XX n k=bw XX n (k-1))->∀q,XB+e-(r+1)<=q->q<XB+e->bw XX n q=bw XX n (XB+e-(r+1)):=λ{e r} hd a q g d=>by
  have:=CO (F:=bw XX n) (g:=XB+e-(r+1)) (d:=XB+e) (λk e A=>a k ⋯ A) (q-(XB+e-(r+1))) ⋯
  rwa [show XB+e-(r+1)+(q-(XB+e-(r+1)))=q by lia]at this
 unfold vi;refine d1 (zH<|ov ?_);refine d1 (rg (c:=λf o XM=>m=XM/\∃cU e r,f=(V,e,r)/\gy X6 aP i o cU/\mB XX v XB n cU/\E+1<=e/\e<=l/\r+1<=e/\(∀k,XB+1<=k->k<XB+e->bw XX n k<=bw XX n (k-1))/\∀k,XB+e-r<=k->k<XB+e->bw XX n k=bw XX n (k-1))
  (oB (rl (λe f o XM=>m=XM/\∃cU r,f=(V,e,r)/\gy X6 aP i o cU/\mB XX v XB n cU/\E+1<=e/\r+1<=e/\(∀k,XB+1<=k->k<XB+e->bw XX n k<=bw XX n (k-1))/\∀k,XB+e-r<=k->k<XB+e->bw XX n k=bw XX n (k-1)) l ?Ym _ _ _ _ _ ⋯ ?T ⟨rfl,s,0,rfl,j,XQ,bk _,⋯,J,λk g d=>⋯⟩)) ?M)
 case Ym=>
  rintro e f o XM al ⟨rfl,cU,r,rfl,S,c,x,u,p,t⟩;unfold B4;dsimp only;refine d1 (sQ w c.ng ⋯ ⋯ S ?_);dsimp only;rw[c.a4,c.a4];by_cases C:bw XX n (XB+e)<bw XX n (XB+e-1)
  ·rw[aF ⇑C];have D:∀k,XB+1<=k->k<XB+(e+1)->bw XX n k<=bw XX n (k-1):=λk z N=>by
    by_cases a:k=XB+e
    ·subst a;lia
    ·exact p k z ⋯
   by_cases hd:r>0
   ·rw[aF hd];refine d1 (uz S λO XS=>?_);exact fl ⟨rfl,_,0,rfl,XS,c.rev ⋯ ⋯<|aW u t,⋯,⋯,D,λk g d=>⋯⟩
   ·rw[if_neg hd];exact fl ⟨rfl,cU,0,rfl,S,c,⋯,⋯,D,λk g d=>⋯⟩
  ·rw[if_neg ⇑C];refine d1 (sQ w c.ng ⋯ ⋯ S ?_);dsimp only;rw[c.a4,c.a4];by_cases G:bw XX n (XB+e-1)<bw XX n (XB+e)
   ·rw[aF ⇑G];exact fl ⟨rfl,cU,e,r,rfl,S,c,x,⋯,u,p,t⟩
   ·rw[if_neg ⇑G];refine fl ⟨rfl,cU,r+1,rfl,S,c,⋯,⋯,λk z N=>?_,λk g d=>?_⟩
    ·by_cases a:k=XB+e
     ·subst a;lia
     ·exact p k z ⋯
    ·by_cases a:k=XB+e
     ·subst a;lia
     ·exact t k ⋯ ⋯
 case T=>
  rintro f o XM ⟨rfl,cU,r,rfl,S,c,x,u,p,t⟩;rw[show E+1+(l-(E+1))=l by lia] at *;exact⟨rfl,cU,l,r,rfl,S,c,x,bk _,u,p,t⟩
 case M=>
  rintro f o XM ⟨rfl,cU,e,r,rfl,S,c,x,I,u,p,t⟩;dsimp only;by_cases hd:r>0
  ·rw[aF hd];refine d1 (uz S λO XS=>?_);exact EN w B (c.rev ⋯ ⋯<|aW u t) XS ⋯ I p b
  ·rw[if_neg hd];exact EN w B c S ⋯ I p b
def G1(XB a:Nat): StateT eZ eP (Option Nat):=((forIn [1:a] ((V:Option (Option Nat)),1) λe f => o2 (XB+f.2) (XB+f.2-1) >>= λp => match p with
    |some b => if b=aa then pure (ForInStep.done (V,f.2)) else pure (ForInStep.yield (V,f.2+1))
    |e => pure<|ForInStep.done (Z V,f.2)) >>= λf => match f.1 with
    |some p => pure p
    |none => if (f.2==a)=aa then pure (Z f.2) else if f.2>1 then o2 XB (XB+f.2-1) >>= λp => match p with
      |some c => if c=aa then pure (Z f.2) else r5 XB (XB+f.2) >>= λ_ => vi XB a f.2
      |e => pure V
      else vi XB a f.2)
def KX(XB a:Nat):countRun' XB a=G1 XB a:=by
 kernel_rfl
def N0(o:jE v XX (ix XJ H L X6 aP) m){n:Array Nat}(c:dS v n){XB e:Nat}(l:1<=e)(s:XB+e<=v){R:eZ}(j:gy X6 aP i R n){y:Option Nat->eZ->au->Prop}(b:∀E c5 t,1<=E->E<=e->dS v c5->gy X6 aP i t c5->(∀h,h<XB->c5[h]?=n[h]?)->(∀k,XB+1<=k->k<XB+E->bw XX c5 (k-1)<=bw XX c5 k)->y (Z E) t m):
  kasC (aN XJ H) L XA (countRun' XB e) y R m:=by
 rw[KX];unfold G1;have z:mB XX v XB n n:=⟨c,λ_ Y=>rfl,λ_=>rfl⟩;refine d1 (rg (El o s c j (bk _) l λk g d=>⋯) ?_);rintro f t XM ⟨rfl,rfl,E,rfl,u,A,p,D⟩;dsimp only;by_cases a:E=e
 ·rw[aF ⇑a];exact fl (b E n _ u A c j (λ_ Y=>rfl) p)
 rw[if_neg ⇑a];have F:bw XX n (XB+E)<bw XX n (XB+E-1):=D.resolve_left a;by_cases B:E>1
 ·rw[aF B];refine d1 (sQ o c ⋯ ⋯ j ?_);dsimp only;by_cases C:bw XX n XB<bw XX n (XB+E-1)
  ·rw[aF ⇑C];exact fl (b E n _ u A c j (λ_ Y=>rfl) p)
  ·rw[if_neg ⇑C];have G:∀r,r<E->bw XX n XB<=bw XX n (XB+r)/\bw XX n (XB+r)<=bw XX n (XB+E-1):=by
    have I:∀r,r<E->bw XX n XB<=bw XX n (XB+r):=λr=>by
     induction r with
     |zero=>intro Y;exact iJ _
     |succ r w=>
      intro hd;have g:=p (XB+(r+1)) ⋯ ⋯;rw[show XB+(r+1)-1=XB+r by lia]at g;have:=w ⋯;lia
    have J:∀r,r<E->bw XX n (XB+E-1-r)<=bw XX n (XB+E-1):=λr=>by
     induction r with
     |zero=>intro Y;exact iJ _
     |succ r w=>
      intro hd;have g:=p (XB+E-1-r) ⋯ ⋯;rw[show XB+E-1-r-1=XB+E-1-(r+1) by lia]at g;have:=w ⋯;lia
    intro r hd;refine⟨I r hd,?_⟩;have:=J (E-1-r) ⋯
    rwa [show XB+E-1-(E-1-r)=XB+r by lia]at this
   have x:∀q,XB<=q->q<XB+E->bw XX n q=bw XX n XB:=λq g d=>by
    have:=G (q-XB) ⋯;rw[show XB+(q-XB)=q by lia]at this;lia
   refine d1 (uz j λO XS=>?_);exact Ff (n:=n) o s (z.rev (bk _) ⋯ x) XS u ⋯ (λk M N=>by
    by_cases a:k=XB+E
    ·subst a;lia
    ·rw[x k ⋯ ⋯,x (k-1) ⋯ ⋯];exact iJ _) b
 rw[if_neg B];obtain rfl:E=1:=⋯
 exact Ff (n:=n) o s z j (bk _) ⋯ (λk M N=>by
  obtain rfl:k=XB+1:=⋯
  exact Int.le_of_lt F) b
end
section
variable{XJ:bB}{H:a9}{L:br}{XA:ag->au->Prop}{X6:gA}{aP:Array h1}{XX:Nat->Int}{v:Nat}{m:au}{i:Array (Nat×Nat×Nat)}
def WZ{aC:jh}{L:br}{XA:ag->au->Prop}{B XR:Type}{f:Nat->Prop}{d:∀E,Decidable (f E)}{c YB:Nat->StateT B eP XR}{y:XR->B->au->Prop}{m:au}(XI:Nat->B->Prop)(j:∀E R,XI E R->kasC aC L XA (YB E) y R m)(a:(∀E R,XI E R->kasC aC L XA (YB E) y R m)->∀E R,f E->XI E R->kasC aC L XA (c E) y R m):∀E R,XI E R->kasC aC L XA (if f E then c E else YB E) y R m:=λE R n=>
 if b:f E then by rw[aF b];exact a j E R b n else by rw[if_neg b];exact j E R n
end
end L2
namespace L2
open Spec PyProof.Rows
variable{m:au}{Yr:bJ}{Yh Yw Ye:List Nat}{own XF:List aD}{x Q:List ai}{U:Φ}{YO Yi f d a g:aY}{YX:List cE}{XA:nu}{R:cE}{k v:Nat}{Y3 B:aZ}{fd:gZ}{n:aq}{D:List X}{aL Ya L Xz X4 XT Yf XH N:List aq}{P p:List aY}{XP:b9}{y:cI}{e:aD}{Yc:eG}{c:aI}{XS XE S j:ax}{u:ai}
def Gl(U:Φ)(j:ax)(e:ai)(T:String)(d:Bool):Prop:=(
 (∃h,e=.int h/\((T = "int" /\ d=aa)\/(T = "tuple" /\ d=aA)\/(T = "str" /\ d=aA)\/(T = "bool" /\ d=aA)\/(T = "list" /\ d=aA)))\/
 (∃h,e=.aH h/\((T = "bool" /\ d=aa)\/(T = "int" /\ d=aa)\/(T = "tuple" /\ d=aA)\/(T = "str" /\ d=aA)\/(T = "list" /\ d=aA)))\/
 (∃h,e=.str h/\((T = "str" /\ d=aa)\/(T = "int" /\ d=aA)\/(T = "tuple" /\ d=aA)\/(T = "bool" /\ d=aA)\/(T = "list" /\ d=aA)))\/
 (∃g x,e=.ref g/\da U j g x/\((T = "tuple" /\ d=aa)\/(T = "int" /\ d=aA)\/(T = "str" /\ d=aA)\/(T = "bool" /\ d=aA)\/(T = "list" /\ d=aA)))\/
 (∃g x,e=.ref g/\dm U j g x/\((T = "list" /\ d=aa)\/(T = "int" /\ d=aA)\/(T = "str" /\ d=aA)\/(T = "bool" /\ d=aA)\/(T = "tuple" /\ d=aA))))
section
variable{c:aI}
def V_:eK c (.builtin "isinstance") (λx j y=>∃e T d,x=[e,.ty T]/\Gl c.K j e T d/\y (.aH d) j):=by
 intro G m B j x XZ y z p b;let⟨e,T,@d,rfl,XG,s⟩:=b;cases p with
 |cons p k=>
  cases k with
  |cons Yr k=>
   cases k;cases Yr;have YL:∀{d:Bool},y (.aH d) j->eA c G B y (.bool d) m:=λ{d} s=>⟨.aH d,j,z,rfl,s⟩;have a:∀{d:Bool},y (.aH d) j->eA c G B y (.bool d) {m with toks:=m.toks+1}:=λ{d} s=>⟨.aH d,j,z.tok _,rfl,s⟩;rcases XG with ⟨h,rfl,XG⟩|⟨h,rfl,XG⟩|⟨h,rfl,XG⟩|⟨g,x,rfl,XO,XG⟩|⟨g,x,rfl,XO,XG⟩
   ·let⟨@C,rfl⟩:=p;rcases XG with ⟨rfl,rfl⟩|⟨rfl,rfl⟩|⟨rfl,rfl⟩|⟨rfl,rfl⟩|⟨rfl,rfl⟩
    ·exact IsiPair.int_int (YL s)
    ·exact IsiPair.int_tuple (a s)
    ·exact IsiPair.int_str (a s)
    ·exact IsiPair.int_bool (a s)
    ·exact IsiPair.int_list (a s)
   ·cases p;rcases XG with ⟨rfl,rfl⟩|⟨rfl,rfl⟩|⟨rfl,rfl⟩|⟨rfl,rfl⟩|⟨rfl,rfl⟩
    ·exact IsiPair.bool_bool (YL s)
    ·exact IsiPair.bool_int (YL s)
    ·exact IsiPair.bool_tuple (a s)
    ·exact IsiPair.bool_str (a s)
    ·exact IsiPair.bool_list (a s)
   ·let⟨@C,rfl⟩:=p;rcases XG with ⟨rfl,rfl⟩|⟨rfl,rfl⟩|⟨rfl,rfl⟩|⟨rfl,rfl⟩|⟨rfl,rfl⟩
    ·exact IsiPair.str_str (YL s)
    ·exact IsiPair.str_int (a s)
    ·exact IsiPair.str_tuple (a s)
    ·exact IsiPair.str_bool (a s)
    ·exact IsiPair.str_list (a s)
   ·cases p;let⟨@XN,l,⟨@o,f,i,Y⟩,q⟩:=z.tuple XO;rcases XG with ⟨rfl,rfl⟩|⟨rfl,rfl⟩|⟨rfl,rfl⟩|⟨rfl,rfl⟩|⟨rfl,rfl⟩
    ·exact IsiPair.tuple_tuple f i (YL s)
    ·exact IsiPair.tuple_int f i (a s)
    ·exact IsiPair.tuple_str f i (a s)
    ·exact IsiPair.tuple_bool f i (a s)
    ·exact IsiPair.tuple_list f i (a s)
   ·cases p;let⟨@XN,l,n,q⟩:=z.list XO;let⟨@o,f,i,Y⟩:=n.isList;rcases XG with ⟨rfl,rfl⟩|⟨rfl,rfl⟩|⟨rfl,rfl⟩|⟨rfl,rfl⟩|⟨rfl,rfl⟩
    ·exact IsiPair.list_list f i (YL s)
    ·exact IsiPair.list_int f i (a s)
    ·exact IsiPair.list_str f i (a s)
    ·exact IsiPair.list_bool f i (a s)
    ·exact IsiPair.list_tuple f i (a s)
def Qj:dU c (e5 .Mult) (oe IntMulOk λh k=>.int<|h*k):=rb λ_ Y Y Y Y Y Y a s=>mul_int s a
end
inductive ak where
 | im (r:X)
 | c8
 | eo (D:List X)
 | lst (D:List X)
 | cb (Xy:List (cy×X))
 | aE (Xy:List (List X×X))
 | gY (x:List ak)
 | pa (x:List ak)
 | dN (Xy:List (List X×X))
 | dL (Xy:List (List X×List X))
 | gm (M:List cy) (D:List ak)
variable{Yn:List ak->Option ak}{F:ak->ak->Option ak}{o:Option ak}{r:ak}
abbrev aQ:=List (Option ak)
variable{X0 w:aQ}{b:List ak->aQ->Option aQ}
abbrev dW{X6:Type}(j:ax):List (X6×X)->List (X6×ai)->Prop:=dB λn s=>n.1=s.1/\b8 j n.2 s.2
def dW.mono{X6:Type}{J:List (X6×X)}{E:List (X6×ai)}(C:qx j S)(b:dW j J E):dW S J E:=dB.sP b λ_ Y i=>⟨i.1,i.2.mono C⟩
structure eC(j S:ax):Prop where
 tup:qx j S
 dw:∀g o I,j g=Z (.dw o I)->S g=Z (.dw o I)
def lh(j:ax):List (List X×List X)->List (List X×ai)->List aq->Prop
 |[],a,XH=>a=[]/\XH=[]
 |n::p,a,XH=>∃d x H b,a=(n.1,.ref d)::H/\j d=Z (.lst x)/\bt j n.2 x/\lh j p H b/\XH=d::b
theorem lh.mono{j S:ax}(C:eC j S):∀{J:List (List X×List X)}{c:List (List X×ai)}{XH:List aq},lh j J c XH->(∀g∈XH,∀o,j g=Z o->S g=Z o)->lh S J c XH
 |[],_,_,b,_=>b
 |n::p,c,XH,b,q=>by
  let⟨d,x,H,@e,a,l,t,f,rfl⟩:=b;exact⟨d,x,H,e,a,q d (.head _) _ l,t.mono C.tup,lh.mono C f λg h=>q g<|.tail _ h,rfl⟩
mutual
def b_(j:ax):ak->ai->List aq->Prop
 |.im r,u,N=>b8 j r u/\N=[]
 |.c8,_,N=>N=[]
 |.eo D,u,N=>∃g x o,u=.ref g/\j g=Z (.dw o<|.lst x)/\bt j D x/\N=[]
 |.lst D,u,N=>∃g x,u=.ref g/\j g=Z (.lst x)/\bt j D x/\N=[g]
 |.cb Xy,u,N=>∃g Yk,u=.ref g/\j g=Z (.cb Yk)/\dW j Xy Yk/\N=[g]
 |.aE Xy,u,N=>∃g Yk,u=.ref g/\j g=Z (.aE Yk)/\dW j Xy Yk/\N=[g]
 |.gY D,u,N=>∃g x XH,u=.ref g/\j g=Z (.lst x)/\dj j D x XH/\N=g::XH
 |.pa D,u,N=>∃g x,u=.ref g/\j g=Z (.tup x)/\dj j D x N
 |.dN Xy,u,N=>∃g Yk o,u=.ref g/\j g=Z (.dw o<|.aE Yk)/\dW j Xy Yk/\N=[]
 |.dL Xy,u,N=>∃g Yk XH,u=.ref g/\j g=Z (.aE Yk)/\lh j Xy Yk XH/\N=g::XH
 |.gm M D,u,N=>∃g Yk Q XH,u=.ref g/\j g=Z (.cb Yk)/\(Yk.map (·.1)=M/\M.Nodup/\Yk.map (·.2)=Q)/\dj j D Q XH/\N=g::XH
def dj(j:ax):List ak->List ai->List aq->Prop
 |[],Q,N=>Q=[]/\N=[]
 |r::D,Q,N=>∃u p XT X4,Q=u::p/\b_ j r u XT/\dj j D p X4/\N=XT++X4
end
mutual
theorem b_.mono{j S:ax}(C:eC j S):∀{r:ak}{u:ai}{N:List aq},b_ j r u N->(∀g∈N,∀o,j g=Z o->S g=Z o)->b_ S r u N
 |.im r,u,N,b,_=>⟨b.1.mono C.tup,b.2⟩
 |.c8,u,N,b,_=>b
 |.eo D,u,N,b,_=>by
  let⟨g,x,@o,rfl,l,t,rfl⟩:=b;exact⟨g,x,o,rfl,C.dw _ _ _ l,t.mono C.tup,rfl⟩
 |.lst D,u,N,b,q=>by
  let⟨g,@x,rfl,l,t,rfl⟩:=b;exact⟨g,x,rfl,q g (.head _) _ l,t.mono C.tup,rfl⟩
 |.cb Xy,u,N,b,q=>by
  let⟨g,@x,rfl,l,t,rfl⟩:=b;exact⟨g,x,rfl,q g (.head _) _ l,t.mono C.tup,rfl⟩
 |.aE Xy,u,N,b,q=>by
  let⟨g,@x,rfl,l,t,rfl⟩:=b;exact⟨g,x,rfl,q g (.head _) _ l,t.mono C.tup,rfl⟩
 |.gY D,u,N,b,q=>by
  let⟨g,x,@XH,rfl,l,t,rfl⟩:=b;exact⟨g,x,XH,rfl,q g (.head _) _ l,dj.mono C t λd a=>q d<|.tail _ a,rfl⟩
 |.pa D,u,N,b,q=>by
  let⟨g,@x,rfl,l,t⟩:=b;exact⟨g,x,rfl,C.tup g x l,dj.mono C t q⟩
 |.dN Xy,u,N,b,_=>by
  let⟨g,x,@o,rfl,l,t,rfl⟩:=b;exact⟨g,x,o,rfl,C.dw _ _ _ l,t.mono C.tup,rfl⟩
 |.dL Xy,u,N,b,q=>by
  let⟨g,Yk,@XH,rfl,l,t,rfl⟩:=b;exact⟨g,Yk,XH,rfl,q g (.head _) _ l,t.mono C λd a=>q d<|.tail _ a,rfl⟩
 |.gm M D,u,N,b,q=>by
  let⟨g,Yk,Q,@XH,rfl,l,t,c,rfl⟩:=b;exact⟨g,Yk,Q,XH,rfl,q g (.head _) _ l,t,dj.mono C c λd a=>q d<|.tail _ a,rfl⟩
theorem dj.mono{j S:ax}(C:eC j S):∀{D:List ak}{Q:List ai}{N:List aq},dj j D Q N->(∀g∈N,∀o,j g=Z o->S g=Z o)->dj S D Q N
 |[],Q,N,b,_=>b
 |r::D,Q,N,b,q=>by
  let⟨u,p,XT,@X4,rfl,l,t,rfl⟩:=b;exact⟨u,p,XT,X4,rfl,b_.mono C l λg a=>q g<|d6 _ a,dj.mono C t λg a=>q g<|dH _ a,rfl⟩
end
def fu(j:ax)(g:aq):Prop:=(∃o,j g=Z o/\(∀x,o≠.tup x)/\∀n I,o≠.dw n I)
theorem lh.chg{j:ax}:∀{J:List (List X×List X)}{e:List (List X×ai)}{XH:List aq},lh j J e XH->∀g∈XH,fu j g
 |[],_,XH,b,g,c=>by rw[b.2]at c;cases c
 |n::p,e,XH,b,g,c=>by
  let⟨d,x,H,@h,a,l,t,f,rfl⟩:=b;rcases b0.mp c with rfl|c
  ·exact⟨_,l,(λ_ a=>by cases a),(λ_ Y a=>by cases a)⟩
  ·exact lh.chg f g c
mutual
theorem b_.chg{j:ax}:∀{r:ak}{u:ai}{N:List aq},b_ j r u N->∀g∈N,fu j g
 |.im r,u,N,b,g,e=>by rw[b.2]at e;cases e
 |.c8,u,N,b,g,e=>by rw[show N=[] from b]at e;cases e
 |.eo D,u,N,b,d,c=>by
  let⟨g,x,@o,rfl,l,t,rfl⟩:=b;cases c
 |.lst D,u,N,b,d,c=>by
  let⟨g,@x,rfl,l,t,rfl⟩:=b;rw[cf.mp c];exact⟨_,l,(λ_ a=>by cases a),(λ_ Y a=>by cases a)⟩
 |.cb Xy,u,N,b,d,c=>by
  let⟨g,@x,rfl,l,t,rfl⟩:=b;rw[cf.mp c];exact⟨_,l,(λ_ a=>by cases a),(λ_ Y a=>by cases a)⟩
 |.aE Xy,u,N,b,d,c=>by
  let⟨g,@x,rfl,l,t,rfl⟩:=b;rw[cf.mp c];exact⟨_,l,(λ_ a=>by cases a),(λ_ Y a=>by cases a)⟩
 |.gY D,u,N,b,d,c=>by
  let⟨g,x,@XH,rfl,l,t,rfl⟩:=b;rcases b0.mp c with rfl|c
  ·exact⟨_,l,(λ_ a=>by cases a),(λ_ Y a=>by cases a)⟩
  ·exact dj.chg t d c
 |.pa D,u,N,b,d,c=>by
  let⟨g,@x,rfl,l,t⟩:=b;exact dj.chg t d c
 |.dN Xy,u,N,b,d,c=>by
  let⟨g,x,@o,rfl,l,t,rfl⟩:=b;cases c
 |.dL Xy,u,N,b,d,c=>by
  let⟨g,Yk,@XH,rfl,l,t,rfl⟩:=b;rcases b0.mp c with rfl|c
  ·exact⟨_,l,(λ_ a=>by cases a),(λ_ Y a=>by cases a)⟩
  ·exact t.chg d c
 |.gm M D,u,N,b,d,c=>by
  let⟨g,Yk,Q,@XH,rfl,l,t,f,rfl⟩:=b;rcases b0.mp c with rfl|c
  ·exact⟨_,l,(λ_ a=>by cases a),(λ_ Y a=>by cases a)⟩
  ·exact dj.chg f d c
theorem dj.chg{j:ax}:∀{D:List ak}{Q:List ai}{N:List aq},dj j D Q N->∀g∈N,fu j g
 |[],Q,N,b,g,a=>by rw[b.2]at a;cases a
 |r::D,Q,N,b,g,a=>by
  let⟨u,p,XT,@X4,rfl,l,t,rfl⟩:=b;rcases dM.mp a with a|a
  ·exact b_.chg l g a
  ·exact dj.chg t g a
end
theorem dj.length:∀{D:List ak}{Q:List ai}{N:List aq},dj j D Q N->D.length=Q.length
 |[],Q,N,b=>by rw[b.1];rfl
 |r::D,Q,N,b=>by
  let⟨u,p,XT,@X4,rfl,l,t,rfl⟩:=b;rw[b6,b6,t.length]
theorem bt.length:∀{D:List X}{Q:List ai},bt j D Q->D.length=Q.length
 |[],Q,b=>by rw[show Q=[] from b];rfl
 |r::D,Q,b=>by
  let⟨u,@p,rfl,l,t⟩:=b;rw[b6,b6,t.length]
def nq(j:ax):Option ak->Option ai->List aq->Prop
 |none,_,N=>N=[]
 |some r,e,N=>∃u,e=Z u/\b_ j r u N
def bq(j:ax):aQ->aZ->List aq->Prop
 |[],B,N=>B=[]/\N=[]
 |o::w,B,N=>∃e p XT X4,B=e::p/\nq j o e XT/\bq j w p X4/\N=XT++X4
structure a8(j:ax)(N:List aq)(S:ax)(Yf:List aq):Prop where
 keep:∀g o,j g=Z o->g∉N->S g=Z o
 sub:∀g∈Yf,g∈N\/j g=V
 ae:Yf.Nodup
 tup:eC j S
 grow:∀g o,j g=Z o->∃Yy,S g=Z Yy
theorem nq.mono(C:eC j S):∀{o:Option ak}{e:Option ai}{N:List aq},nq j o e N->(∀g∈N,∀o,j g=Z o->S g=Z o)->nq S o e N
 |none,_,_,b,_=>b
 |some r,e,N,b,q=>by
  let⟨@u,rfl,b⟩:=b;exact⟨u,rfl,b.mono C q⟩
theorem bq.mono{j S:ax}(C:eC j S):∀{w:aQ}{B:aZ}{N:List aq},bq j w B N->(∀g∈N,∀o,j g=Z o->S g=Z o)->bq S w B N
 |[],B,N,b,_=>b
 |o::w,B,N,b,q=>by
  let⟨e,p,XT,@X4,rfl,l,t,rfl⟩:=b;exact⟨e,p,XT,X4,rfl,l.mono C λg a=>q g<|d6 _ a,bq.mono C t λg a=>q g<|dH _ a,rfl⟩
theorem nq.chg:∀{o:Option ak}{e:Option ai}{N:List aq},nq j o e N->∀g∈N,fu j g
 |none,_,N,b,g,a=>by rw[show N=[] from b]at a;cases a
 |some r,e,N,b,g,a=>by
  let⟨@u,rfl,b⟩:=b;exact b.chg g a
theorem bq.chg{j:ax}:∀{w:aQ}{B:aZ}{N:List aq},bq j w B N->∀g∈N,fu j g
 |[],B,N,b,g,a=>by rw[b.2]at a;cases a
 |o::w,B,N,b,g,a=>by
  let⟨e,p,XT,@X4,rfl,l,t,rfl⟩:=b;rcases dM.mp a with a|a
  ·exact l.chg g a
  ·exact bq.chg t g a
theorem bq.len{j:ax}:∀{w:aQ}{B:aZ}{N:List aq},bq j w B N->w.length=B.length
 |[],B,N,b=>by rw[b.1];rfl
 |o::w,B,N,b=>by
  let⟨e,p,XT,@X4,rfl,l,t,rfl⟩:=b;rw[b6,b6,bq.len t]
def ak.c1:ak->Bool
 |.im _=>aa
 |.eo _=>aa
 |.dN _=>aa
 |_=>aA
def b_.c1(b:b_ j r u N)(f:r.c1=aa):N=[]:=by
 cases r with
 |im r=>exact b.2
 |eo D=>let⟨g,x,@o,rfl,l,t,rfl⟩:=b;rfl
 |dN D=>let⟨g,x,@o,rfl,l,t,rfl⟩:=b;rfl
 |_=>cases f
theorem bq.out{j:ax}:∀{w:aQ}{B:aZ}{N:List aq}{h:Nat}{r:ak},bq j w B N->w[h]?=Z (Z r)->∃u XT X4,B[h]?=Z (Z u)/\b_ j r u XT/\bq j (w.set h<|Z .c8) B X4/\(X4++XT).Perm N
 |[],B,N,h,r,b,a=>by simp at a
 |o::w,B,N,0,r,b,a=>by
  let⟨e,p,XT,@X4,rfl,l,t,rfl⟩:=b;simp at a;subst a;let⟨@u,rfl,l⟩:=l;exact⟨u,XT,X4,rfl,l,⟨Z u,p,[],X4,rfl,⟨u,rfl,rfl⟩,t,rfl⟩,d3⟩
 |o::w,B,N,h+1,r,b,a=>by
  let⟨e,p,XT,@X4,rfl,l,t,rfl⟩:=b;let⟨u,d,@c,f,g,i,k⟩:=bq.out (h:=h) t ⇑a;refine⟨u,d,XT++c,by simpa using f,g,⟨e,p,XT,c,rfl,l,i,rfl⟩,?_⟩;rw[bI];exact eT _ k
theorem bq.put{j:ax}:∀{w:aQ}{B:aZ}{N:List aq}{h:Nat}{r:ak}{u:ai}{XH:List aq},bq j w B N->b_ j r u XH->h<w.length->∃XT X4,bq j (w.set h<|Z r) (B.set h<|Z u) XT/\(XT++X4).Perm (N++XH)
 |[],B,N,h,r,u,XH,b,H,J=>by simp at J
 |o::w,B,N,0,r,u,XH,b,H,J=>by
  let⟨e,p,XT,@X4,rfl,l,t,rfl⟩:=b;refine⟨XH++X4,XT,⟨Z u,p,XH,X4,rfl,⟨u,rfl,H⟩,t,rfl⟩,?_⟩;refine d3.trans ?_;rw[bI];exact eT _ d3
 |o::w,B,N,h+1,r,u,XH,b,H,J=>by
  let⟨e,p,XT,@X4,rfl,l,t,rfl⟩:=b;let⟨a,@c,d,f⟩:=bq.put (h:=h) t H ⇑J;refine⟨XT++a,c,⟨e,_,XT,a,rfl,l,d,rfl⟩,?_⟩;rw[bI,bI];exact eT _ f
def bq.c1{h:Nat}(b:bq j w B N)(a:w[h]?=Z (Z r))(f:r.c1=aa):∃u,B[h]?=Z (Z u)/\b_ j r u []:=by
 let⟨u,XT,@X4,d,c,Y⟩:=b.out a;obtain rfl:=c.c1 f;exact⟨u,d,c⟩
def WI{h:Nat}(b:B[h]?=Z (Z u)):B.set h (Z u)=B:=by
 refine wG λk=>?_;by_cases a:h=k
 ·subst a;rw[b,uj (e7.mp b).1]
 ·rw[nt a]
def bq.back{h:Nat}(b:bq j w B N)(H:b_ j r u XH)(a:B[h]?=Z (Z u)):∃XT X4,bq j (w.set h<|Z r) B XT/\(XT++X4).Perm (N++XH):=by
 have J:h<w.length:=by rw[b.len];exact (e7.mp a).1
 let⟨XT,@X4,l,t⟩:=b.put (h:=h) H J;rw[WI a]at l;exact⟨XT,X4,l,t⟩
def eC.of(F:qI j S)(O:∀g o I,j g=Z (.dw o I)->S g=Z (.dw o I)):eC j S:=⟨⟨F,O⟩,O⟩
def Wc(j:ax):eC j j:=⟨⟨λ_ Y a=>a,λ_ Y Y a=>a⟩,λ_ Y Y a=>a⟩
def eC.trans(g:eC j XE)(d:eC XE XS):eC j XS:=⟨⟨λe x a=>d.tup.t e x<|g.tup.t e x a,λe o I a=>d.dw e o I<|g.dw e o I a⟩,λe o I a=>d.dw e o I<|g.dw e o I a⟩
def a8.refl(b:Yf.Nodup)(m:∀g∈Yf,g∈N):a8 j N j Yf:=⟨λ_ Y a Y=>a,λg c=>.inl<|m g c,b,Wc j,λ_ o a=>⟨o,a⟩⟩
def a8.perm(b:N.Nodup)(n:Yf.Perm N):a8 j N j Yf:=a8.refl ((n.nodup_iff).mpr b) λg a=>n.mem_iff.mp a
def a8.trans(g:a8 j N XE (XT++Xz))(d:a8 XE XT XS X4)(i:∀e∈Xz,fu XE e):a8 j N XS (X4++Xz):=by
 have ae:=cH.mp g.ae;have k:∀e∈X4,e∉Xz:=λe c h=>by
  rcases d.sub e c with b|b
  ·exact ae.2.2 e b e h rfl
  ·let⟨@o,a,Y⟩:=i e h;rw[a]at b;cases b
 refine⟨λe o a c=>?_,λe c=>?_,cH.mpr ⟨d.ae,ae.2.1,λe c A m a=>k e c<|a ▸ m⟩,g.tup.trans d.tup,λe o a=>let ⟨Yy,f⟩:=g.grow e o a;d.grow e Yy f⟩
 ·refine d.keep e o (g.keep e o a c) λl=>?_;rcases g.sub e (d6 _ l) with b|b
  ·exact c b
  ·rw[a]at b;cases b
 ·rcases dM.mp c with c|c
  ·rcases d.sub e c with b|b
   ·exact g.sub e (d6 _ b)
   ·refine .inr ?_;cases a:j e with
    |none=>rfl
    |some o=>
     let⟨@Yy,f⟩:=g.grow e o a;rw[f]at b;cases b
  ·exact g.sub e (dH _ c)
def cN.tupS(m:cN j S):eC j S:=⟨⟨λg x a=>m g _ a,λg o I a=>m g _ a⟩,λg o I a=>m g _ a⟩
def J3{g d:aq}{o I:eY}(a:j d=Z o)(b:j g=V):L2.upd j g I d=Z o:=by rw[cm (j0 a b)];exact a
def cN.upd(m:cN j S){g:aq}{o:eY}(b:S g=V):cN j (L2.upd S g o):=λd I a=>J3 (m d I a) b
abbrev aC(XR:Type):=aQ->Option (XR×aQ)
variable{Za:aC ak}{YV q:aC Bool}
inductive bo where
 | aR (h:Nat)
 | bY (r:ak)
variable{YD YF:aC bo}{O:aC (List bo)}
def dC(w:aQ):bo->Option ak
 |.aR h=>(w[h]?).getD V
 |.bY r=>Z r
def ia(j:ax)(B:aZ):bo->ai->List aq->Prop
 |.aR h,u,Xz=>B[h]?=Z (Z u)/\Xz=[]
 |.bY r,u,Xz=>b_ j r u Xz
def ml(O:aC ak):bL:=(λB j y=>∃w N p X0,bq j w B N/\N.Nodup/\O w=Z (p,X0)/\∀u S Yf Xz,bq S X0 B Yf->b_ S p u Xz->a8 j N S (Yf++Xz)->y u S)
def mA(O:aC bo):bL:=(λB j y=>∃w N p X0,bq j w B N/\N.Nodup/\O w=Z (p,X0)/\∀u S Yf Xz,bq S X0 B Yf->ia S B p u Xz->a8 j N S (Yf++Xz)->y u S)
def jg(O:aC Bool):eG:=(λB j y=>∃w N d X0,bq j w B N/\N.Nodup/\O w=Z (d,X0)/\∀S Yf,bq S X0 B Yf->a8 j N S Yf->y d S)
def bZ(c:aI)(a:aY)(O:aC ak):Prop:=(∀ ⦃n⦄,zB c a (ml O) n)
def du(c:aI)(a:aY)(O:aC bo):Prop:=(∀ ⦃n⦄,zB c a (mA O) n)
def iw(c:aI)(a:aY)(O:aC Bool):Prop:=(∀ ⦃n⦄,JH c a (jg O) n)
def dR{C Yc:bL}(b:bu c a C)(h:∀B j y,Yc B j y->C B j y):bu c a Yc:=λG m B j y z d=>b G m B j y z (h B j y d)
def si{C:eG}(b:hS c a C)(h:∀B j y,Yc B j y->C B j y):hS c a Yc:=λG m B j y z d=>b G m B j y z (h B j y d)
def ia.mono{p:bo}(b:ia j B p u Xz)(C:eC j S)(q:∀g∈Xz,∀o,j g=Z o->S g=Z o):ia S B p u Xz:=by
 cases p with
 |aR h=>exact b
 |bY r=>exact b_.mono C b q
def ia.chg{p:bo}(b:ia j B p u Xz):∀g∈Xz,fu j g:=by
 cases p with
 |aR h=>intro g a;rw[b.2]at a;cases a
 |bY r=>exact b_.chg b
def fy(j:ax)(r:ak)(u:ai):Prop:=(∃Xz,b_ j r u Xz)
def ia.read{p:bo}(b:ia j B p u Xz)(R:bq j w B N)(a:dC w p=Z r):fy j r u:=by
 cases p with
 |bY YE=>cases a;exact⟨Xz,b⟩
 |aR h=>
  have d:w[h]?=Z (Z r):=by
   have:(w[h]?).getD V=Z r:=a;cases s:w[h]? with
   |none=>rw[s]at this;cases this
   |some o=>rw[s]at this;rw[show o=Z r from this]
  let⟨f,XT,@X4,c,e,Y⟩:=R.out d;rw[b.1]at c;cases c;exact⟨XT,e⟩
@[simp] def dQ(h:Nat):aC ak:=λw=>match w[h]? with
 |some (Z r)=>if r.c1=aa then Z (r,w) else Z (r,w.set h<|Z .c8)
 |_=>V
def av(r:X):aC ak:=(λw=>Z (.im r,w))
@[simp] def aj(h:Nat):aC bo:=λw=>match w[h]? with
 |some (Z _)=>Z (.aR h,w)
 |_=>V
@[simp] def ab(O:aC ak):aC bo:=λw=>(O w).map λn=>(.bY n.1,n.2)
section
variable{c:aI}
variable{h:Nat}
def fj(b:bu c a (hZ h)):bZ c a (dQ h):=by
 refine dR b λB j y e=>?_;let⟨w,N,p,@X0,R,ae,d,s⟩:=e;unfold dQ at d;split at d
 ·rename_i r hd;split at d
  ·rename_i f;cases d;let⟨@u,l,t⟩:=R.c1 hd f;exact⟨u,l,s u j N [] R t (by rw[bO];exact a8.perm ae (List.Perm.refl _))⟩
  ·cases d;let⟨u,XT,@X4,l,t,g,i⟩:=R.out hd;exact⟨u,l,s u j X4 XT g t<|a8.perm ae i⟩
 ·cases d
def O4(b:bu c a (hZ h)):du c a (aj h):=by
 refine dR b λB j y e=>?_;let⟨w,N,p,@X0,R,ae,d,s⟩:=e;unfold aj at d;split at d
 ·rename_i r hd;cases d;let⟨u,XT,@X4,l,t,f,g⟩:=R.out hd;exact⟨u,l,s u j N [] R ⟨l,rfl⟩ (by rw[bO];exact a8.perm ae (List.Perm.refl _))⟩
 ·cases d
def aX{O:aC ak}(b:bZ c a O):du c a (ab O):=by
 refine dR b λB j y e=>?_;let⟨w,N,p,@X0,R,ae,d,s⟩:=e;unfold ab at d;let⟨@⟨Yr,XD⟩,l,t⟩:=b5.mp d;cases t;exact⟨w,N,Yr,_,R,ae,l,s⟩
def tV{r:X}(b:bu c a (lT u))(hd:∀j,b8 j r u):bZ c a (av r):=by
 refine dR b λB j y d=>?_;let⟨w,N,p,@X0,R,ae,e,s⟩:=d;cases e;exact s u j N [] R ⟨hd j,rfl⟩ (by rw[bO];exact a8.perm ae (List.Perm.refl _))
def jw{h:Int}{k XP}:bZ c (.Constant (.int h) k XP) (av<|.int h):=tV pn λ_=>rfl
def jj{d:Bool}{k XP}:bZ c (.Constant (.bool d) k XP) (av<|.aH d):=tV Pa λ_=>rfl
def Qx{k XP}:bZ c (.Constant (.str e) k XP) (av<|.str e):=tV ou λ_=>rfl
def two{XD X_:aQ}{e A:bo}{U:ai->ai->ax->Prop}(R:bq j w B N)(ae:N.Nodup)(d:YF w=Z (e,XD))(k:YD XD=Z (A,X_))(q:∀u I S Yf c bJ,bq S X_ B Yf->ia S B e u c->ia S B A I bJ->a8 j N S ((Yf++bJ)++c)->U u I S):mA YF B j λu XE=>mA YD B XE λI XS=>U u I XS:=by
 refine⟨w,N,e,XD,R,ae,d,λu XE XT c l i f=>⟨XD,XT,A,X_,l,(cH.mp f.ae).1,k,λI XS X4 bJ m Yq h=>?_⟩⟩;refine q u I XS X4 c bJ m (i.mono h.tup λg d o a=>h.keep g o a λb=>?_) Yq (f.trans h i.chg);exact (cH.mp f.ae).2.2 g b g d rfl
def a8.new{d:List aq}(g:a8 j N XE (XT++Xz))(m:cN XE XS)(ae:d.Nodup)(h:∀e∈d,XE e=V)(f:∀e∈XT,fu XE e):a8 j N XS (XT++d):=by
 refine⟨λe o a b=>m _ _<|g.keep e o a b,λe b=>?_,cH.mpr ⟨(cH.mp g.ae).1,ae,λe b A i a=>?_⟩,g.tup.trans m.tupS,λe o a=>let ⟨Yy,c⟩:=g.grow e o a;⟨Yy,m _ _ c⟩⟩
 ·rcases dM.mp b with b|b
  ·exact g.sub e (d6 _ b)
  ·refine .inr ?_;cases a:j e with
   |none=>rfl
   |some o=>
    let⟨@Yy,c⟩:=g.grow e o a;rw[h e b]at c;cases c
 ·subst a;let⟨@o,a,Y⟩:=f e b;rw[h e i]at a;cases a
def e3(c:aI)(F:ag->ag->eP ag)(Yn:ak->ak->Option ak):Prop:=(
 dU c F λe A j y=>∃Ym T r,fy j Ym e/\fy j T A/\Yn Ym T=Z r/\∀u S Xz,cN j S->b_ S r u Xz->Xz.Nodup->(∀g∈Xz,j g=V)->y u S)
@[simp] def ac(Yn:ak->ak->Option ak)(YF YD:aC bo):aC ak:=λw=>(YF w).bind λn=>(YD n.2).bind λs=>(dC s.2 n.1).bind λYm=>(dC s.2 s.1).bind λT=>(Yn Ym T).map λr=>(r,s.2)
def t9{Yn:ak->ak->Option ak}(b:ml (ac Yn YF YD) B j y):
  mA YF B j λe XE=>mA YD B XE λA XS=>∃Ym T r,fy XS Ym e/\fy XS T A/\Yn Ym T=Z r/\∀u S Xz,cN XS S->b_ S r u Xz->Xz.Nodup->(∀g∈Xz,XS g=V)->y u S:=by
 let⟨w,N,p,@X0,R,ae,c,s⟩:=b;unfold ac at c;let⟨@⟨e,XD⟩,i,c⟩:=bg.mp c;let⟨@⟨A,X_⟩,k,c⟩:=bg.mp c;let⟨@Ym,l,c⟩:=bg.mp c;let⟨@T,t,c⟩:=bg.mp c;let⟨@r,m,c⟩:=b5.mp c;cases c;refine two R ae i k λu I XS X4 z bJ d n Yq h=>⟨Ym,T,_,n.read d l,Yq.read d t,m,λH q Xz f X7 v x=>?_⟩;rw[bI]at h;exact s H q X4 Xz (d.mono f.tupS λg Y o a=>f g o a) X7 (h.new f v x d.chg)
def ha{Yn:yp}(a:e3 c (e5 Yn) F)(e:du c g YF)(f:du c d YD):bZ c (.BinOp g Yn d XP) (ac F YF YD):=
 dR (Qm a e f) λ_ Y Y b=>t9 b
variable{Yn:kA}
def kF(a:e3 c (eL Yn) F)(e:du c g YF)(f:du c d YD)(h:oX Yn d=aA):bZ c (.Compare g [Yn] [d] XP) (ac F YF YD):=
 dR (Ur a e f h) λ_ Y Y b=>t9 b
def Ol(a:iU c (λe A j y=>∃Ym T r,fy j Ym e/\fy j T A/\F Ym T=Z r/\∀u S Xz,cN j S->b_ S r u Xz->Xz.Nodup->(∀g∈Xz,j g=V)->y u S))(f:du c g YF)(h:du c d YD)(XO:rH d):bZ c (.Subscript g d XP) (ac F YF YD):=
 dR (F2 a f h XO) λ_ Y Y b=>t9 b
@[simp] def qc:ak->Option Bool
 |.im (.aH d)=>Z d
 |_=>V
@[simp] def bb(O:aC ak):aC Bool:=λw=>(O w).bind λn=>(qc n.1).map λd=>(d,n.2)
def q5{d:Bool}(b:qc r=Z d):r=.im (.aH d):=by
 unfold qc at b;split at b
 ·cases b;rfl
 ·cases b
def de(a:e3 c (eL Yn) F)(b:du c g YF)(e:du c d YD)(h:oX Yn d=aA):iw c (.Compare g [Yn] [d] XP) (bb<|ac F YF YD):=by
 refine si (I0 a b e h) λB j y i=>?_;let⟨w,N,f,@X0,R,ae,k,s⟩:=i;refine t9 ⟨w,N,.im<|.aH f,X0,R,ae,?_,λu S Yf Xz o X7 m=>⟨f,X7.1,s S Yf o (by rw[X7.2,bO]at m;exact m)⟩⟩;let⟨@n,l,t⟩:=bg.mp k;let⟨@r,p,q⟩:=b5.mp t;cases q;rw[l,<-q5 p]
@[simp] def qu(O:aC Bool):aC Bool:=λw=>(O w).map λn=>(!n.1,n.2)
variable{O:aC Bool}
def ID(b:iw c g O):iw c (.UnaryOp .Not g XP) (qu O):=by
 refine si (LA b) λB j y a=>?_;let⟨w,N,f,@X0,R,ae,d,s⟩:=a;let⟨@n,l,t⟩:=b5.mp d;cases t;exact⟨w,N,n.1,_,R,ae,l,s⟩
@[simp] def eb(O b:aC Bool):aC Bool:=λw=>(O w).bind λn=>if n.1=aa then b n.2 else Z (aA,n.2)
@[simp] def fV(O b:aC Bool):aC Bool:=λw=>(O w).bind λn=>if n.1=aa then Z (aa,n.2) else b n.2
variable{y:Bool->ax->Prop}{b:aC Bool}
def Of(H:jg (eb O b) B j y):KO (jg O) (jg b) B j y:=by
 let⟨w,N,f,@X0,R,ae,g,s⟩:=H;let⟨@⟨d,XD⟩,l,t⟩:=bg.mp g;refine⟨w,N,d,XD,R,ae,l,λXE XT c a=>?_⟩;cases d with
 |true=>
  rw[aF rfl];rw[aF rfl]at t;exact⟨XD,XT,f,X0,c,a.ae,t,λXS X4 h i=>s XS X4 h (by
   have:=a8.trans (Xz:=[]) (by rw[bO];exact a) i (λe k=>nomatch k)
   rwa [bO]at this)⟩
 |false=>
  rw[if_neg cB]at t ⊢;cases t;exact s XE XT c a
def Cf(H:jg (fV O b) B j y):HB (jg O) (jg b) B j y:=by
 let⟨w,N,f,@X0,R,ae,g,s⟩:=H;let⟨@⟨d,XD⟩,l,t⟩:=bg.mp g;refine⟨w,N,d,XD,R,ae,l,λXE XT c a=>?_⟩;cases d with
 |false=>
  rw[if_neg cB]at t ⊢;exact⟨XD,XT,f,X0,c,a.ae,t,λXS X4 h i=>s XS X4 h (by
   have:=a8.trans (Xz:=[]) (by rw[bO];exact a) i (λe k=>nomatch k)
   rwa [bO]at this)⟩
 |true=>
  rw[aF rfl]at t ⊢;cases t;exact s XE XT c a
def fh(c:aI)(a:aY)(O:aC Bool):Prop:=(∀ ⦃n⦄,Jo c a (jg O) n)
def Kh{C:eG}(b:jC c a C)(h:∀B j y,Yc B j y->C B j y):jC c a Yc:=λd G m B j y z e=>b d G m B j y z (h B j y e)
def jK(b:iw c g O):fh c (.BoolOp .And [g] XP) O:=Nb b
def qt(b:iw c g O):fh c (.BoolOp .Or [g] XP) O:=UO b
def iI(b:iw c g O)(a:fh c (.BoolOp .And (d::p) XP) q):fh c (.BoolOp .And (g::d::p) XP) (eb O q):=Kh (Uo b a) λ_ Y Y H=>Of H
def qj(b:iw c g O)(a:fh c (.BoolOp .Or (d::p) XP) q):fh c (.BoolOp .Or (g::d::p) XP) (fV O q):=Kh (Sr b a) λ_ Y Y H=>Cf H
def fh.g5(b:fh c a O):iw c a O:=jC.pt b
@[simp] def iP(O:aC Bool):aC ak:=λw=>(O w).map λn=>(.im<|.aH n.1,n.2)
def J1(b:bZ c a (iP O)):bu c a λB j y=>jg O B j λd S=>y (.aH d) S:=by
 refine dR b λB j y e=>?_;let⟨w,N,f,@X0,R,ae,g,s⟩:=e;refine⟨w,N,.im<|.aH f,X0,R,ae,by unfold iP;rw[g];rfl,λu S Yf Xz h X7 m=>?_⟩;rw[show u=.aH f from X7.1];exact s S Yf h (by rw[X7.2,bO]at m;exact m)
def RG(b:bu c a λB j y=>jg O B j λd S=>y (.aH d) S):bZ c a (iP O):=by
 refine dR b λB j y e=>?_;let⟨w,N,p,@X0,R,ae,f,s⟩:=e;let⟨@n,l,t⟩:=b5.mp f;cases t;exact⟨w,N,n.1,_,R,ae,l,λS Yf g m=>s _ S Yf [] g ⟨rfl,rfl⟩ (by rw[bO];exact m)⟩
def HV{O:aC ak}(b:bZ c a O):bZ c a (iP<|bb O):=by
 refine dR b λB j y d=>?_;let⟨w,N,p,@X0,R,ae,e,s⟩:=d;let⟨@n,l,t⟩:=b5.mp e;let⟨@c5,g,h⟩:=bg.mp l;let⟨@f,i,k⟩:=b5.mp h;cases k;cases t;exact⟨w,N,c5.1,_,R,ae,g,by rw[q5 i];exact s⟩
def Ws{Yn}{O:aC ak}(b:bZ c g O):bZ c (.BoolOp Yn [g] XP) O:=PV b
def S8(b:bZ c g (iP O))(a:bZ c (.BoolOp .Or (d::p) XP) (iP q)):bZ c (.BoolOp .Or (g::d::p) XP) (iP<|fV O q):=by
 refine RG (dR (Rz (J1 b)<|J1 a) λB j y H=>?_);have:=Cf H;let⟨w,N,f,@X0,R,ae,e,s⟩:=this;exact⟨w,N,f,X0,R,ae,e,λS Yf h m=>⟨f,rfl,s S Yf h m⟩⟩
def a8.seq(g:a8 j N XE XT)(d:a8 XE XT XS X4):a8 j N XS X4:=by
 have:=a8.trans (Xz:=[]) (by rw[bO];exact g) d (λe a=>nomatch a)
 rwa [bO]at this
end
def kU(j:ax)(B:aZ):List bo->List ai->List aq->Prop
 |[],Q,Xz=>Q=[]/\Xz=[]
 |o::XU,Q,Xz=>∃u p a bJ,Q=u::p/\ia j B o u a/\kU j B XU p bJ/\Xz=a++bJ
def hs(O:aC (List bo)):fk:=(λB j y=>∃w N p X0,bq j w B N/\N.Nodup/\O w=Z (p,X0)/\∀Q S Yf Xz,bq S X0 B Yf->kU S B p Q Xz->a8 j N S (Yf++Xz)->y Q S)
def f6(c:aI)(P:List aY)(O:aC (List bo)):Prop:=(∀ ⦃n⦄,Ip c P (hs O) n)
def Hb{C Yc:fk}(b:hp c P C)(h:∀B j y,Yc B j y->C B j y):hp c P Yc:=λXP G m B j y z a=>b XP G m B j y z (h B j y a)
def az:aC (List bo):=(λw=>Z ([],w))
@[simp] def ao(O:aC bo)(b:aC (List bo)):aC (List bo):=λw=>(O w).bind λn=>(b n.2).map λs=>(n.1::s.1,s.2)
def a8.jn(m:a8 j N S L)(n:L.Perm Ya):a8 j N S Ya:=⟨m.keep,λg a=>m.sub g<|n.mem_iff.mpr a,(n.nodup_iff).mp m.ae,m.tup,m.grow⟩
def a8.less(m:a8 j N S L)(n:(Ya++aL).Perm L):a8 j N S Ya:=
 ⟨m.keep,λg a=>m.sub g<|n.mem_iff.mp<|d6 _ a,(cH.mp<|(n.nodup_iff).mpr m.ae).1,m.tup,m.grow⟩
section
variable{c:aI}
def h2:f6 c [] az:=by
 refine Hb vJ λB j y a=>?_;let⟨w,N,p,@X0,R,ae,b,s⟩:=a;cases b;exact s [] j N [] R ⟨rfl,rfl⟩ (by rw[bO];exact a8.perm ae (List.Perm.refl _))
def ks{O:aC bo}{b:aC (List bo)}(k:du c a O)(m:f6 c P b)(XO:bD (a::P) c.env=(aA,bP a c.env)::bD P c.env:=by rfl):f6 c (a::P) (ao O b):=by
 refine Hb (um k m XO) λB j y n=>?_;let⟨w,N,p,@X0,R,ae,q,s⟩:=n;let⟨@⟨e,XD⟩,l,t⟩:=bg.mp q;let⟨@⟨XW,X_⟩,r,v⟩:=b5.mp t;cases v;refine⟨w,N,e,XD,R,ae,l,λu XE XT h x i d=>⟨XD,XT,XW,_,x,(cH.mp d.ae).1,r,λQ XS X4 bJ z Yq f=>?_⟩⟩;refine s (u::Q) XS X4 (h++bJ) z ⟨u,Q,h,bJ,rfl,i.mono f.tup λg A o a=>f.keep g o a λb=>?_,Yq,rfl⟩ ((d.trans f i.chg).jn ?_)
 ·exact (cH.mp d.ae).2.2 g b g A rfl
 ·rw[bI];exact eT _ d3
end
def hq(w:aQ):List bo->Option (List ak)
 |[]=>Z []
 |o::XU=>(dC w o).bind λr=>(hq w XU).map λD=>r::D
def mx(j:ax):List ak->List ai->Prop
 |[],Q=>Q=[]
 |r::D,Q=>∃u p,Q=u::p/\fy j r u/\mx j D p
theorem kU.read{j:ax}{w:aQ}{B:aZ}{N:List aq}(R:bq j w B N):∀{XU:List bo}{Q:List ai}{Xz:List aq}{D:List ak},kU j B XU Q Xz->hq w XU=Z D->mx j D Q
 |[],_,_,_,b,a=>by cases a;exact b.1
 |o::XU,_,_,_,b,a=>by
  let⟨u,p,g,@bJ,rfl,l,t,rfl⟩:=b;let⟨@r,c,d⟩:=bg.mp a;let⟨@D,e,f⟩:=b5.mp d;cases f;exact⟨u,p,rfl,l.read R c,kU.read R t e⟩
def eB:List bo->aQ->Option (List ak×aQ)
 |[],w=>Z ([],w)
 |.bY r::XU,w=>(eB XU w).map λn=>(r::n.1,n.2)
 |.aR h::XU,w=>(dQ h w).bind λn=>(eB XU n.2).map λs=>(n.1::s.1,s.2)
def FE{h:Nat}(R:bq j w B N)(b:dQ h w=Z (r,X0)):∃u XT Xz,B[h]?=Z (Z u)/\b_ j r u Xz/\bq j X0 B XT/\(XT++Xz).Perm N:=by
 unfold dQ at b;split at b
 ·rename_i a hd;split at b
  ·rename_i c;cases b;let⟨@u,l,t⟩:=R.c1 hd c;exact⟨u,N,[],l,t,R,by rw[bO]⟩
  ·cases b;let⟨u,XT,@X4,l,t,d,e⟩:=R.out hd;exact⟨u,X4,XT,l,t,d,e⟩
 ·cases b
def ka:(L++(Ya++aL)).Perm (Ya++(L++aL)):=by
 rw[<-bI,<-bI];exact fN _ d3
theorem k_{j:ax}{B:aZ}:∀{XU:List bo}{Q:List ai}{Xz N:List aq}{w X0:aQ}{D:List ak},bq j w B N->kU j B XU Q Xz->eB XU w=Z (D,X0)->∃XT c,bq j X0 B XT/\dj j D Q c/\(XT++c).Perm (N++Xz)
 |[],_,_,N,_,_,_,R,b,a=>by
  cases a;exact⟨N,[],R,⟨b.1,rfl⟩,by rw[b.2]⟩
 |.bY r::XU,_,_,N,w,_,_,R,b,a=>by
  let⟨u,p,c,@bJ,rfl,l,t,rfl⟩:=b;rw[eB]at a;let⟨@n,f,g⟩:=b5.mp a;cases g;let⟨XT,@d,e,i,k⟩:=k_ (X0:=n.2) (D:=n.1) R t f;exact⟨XT,c++d,e,⟨u,p,c,d,rfl,l,i,rfl⟩,ka.trans<|(eT _ k).trans ka⟩
 |.aR h::XU,_,_,N,w,_,_,R,b,a=>by
  let⟨u,p,c,@bJ,rfl,@⟨l,rfl⟩,t,rfl⟩:=b;rw[eB]at a;let⟨@⟨r,XD⟩,o,q⟩:=bg.mp a;let⟨@n,f,g⟩:=b5.mp q;cases g;let⟨z,XT,@d,e,i,k,s⟩:=FE R o;rw[l]at e;cases e;let⟨X4,@m,v,x,y⟩:=k_ (X0:=n.2) (D:=n.1) k t f;refine⟨X4,d++m,v,⟨u,p,d,m,rfl,i,x,rfl⟩,ka.trans<|(eT _ y).trans ?_⟩;rw[<-bI];exact fN _ (d3.trans s)
@[simp] def i0:List bo->List ak->aQ->aQ
 |.aR h::XU,r::D,w=>i0 XU D (match w[h]? with|some (Z .c8)=>w.set h (Z r)|_=>w)
 |.bY _::XU,_::D,w=>i0 XU D w
 |_,_,w=>w
theorem vj{j i:ax}{B:aZ}:∀{XU:List bo}{D:List ak}{Q:List ai}{Xz N XC:List aq}{w:aQ},bq j w B N->kU i B XU Q XC->dj j D Q Xz->∃XT c,bq j (i0 XU D w) B XT/\(XT++c).Perm (N++Xz)
 |[],D,_,Xz,N,_,w,R,_,_=>⟨N,Xz,by unfold i0;exact R,List.Perm.refl _⟩
 |.bY _::XU,[],_,Xz,N,_,w,R,_,_=>⟨N,Xz,by unfold i0;exact R,List.Perm.refl _⟩
 |.aR _::XU,[],_,Xz,N,_,w,R,_,_=>⟨N,Xz,by unfold i0;exact R,List.Perm.refl _⟩
 |.bY _::XU,r::D,_,Xz,N,_,w,R,b,H=>by
  let⟨u,p,k,@m,rfl,l,t,rfl⟩:=b;let⟨n,Yr,c,@bJ,a,cc,g,rfl⟩:=H;cases a;let⟨XT,@d,e,f⟩:=vj (w:=w) R t g;refine⟨XT,c++d,by rw[i0];exact e,ka.trans<|(eT _ f).trans ka⟩
 |.aR h::XU,r::D,_,Xz,N,_,w,R,b,H=>by
  let⟨u,p,k,@m,rfl,@⟨l,Y⟩,t,rfl⟩:=b;let⟨n,Yr,c,@bJ,a,cc,g,rfl⟩:=H;cases a;rw[i0];split
  ·let⟨XT,@XH,e,f⟩:=R.back cc l;let⟨X4,@d,o,q⟩:=vj e t g;refine⟨X4,d++XH,o,?_⟩;rw[<-bI,<-bI];refine (fN _ q).trans ?_;rw[bI];refine (eT _ d3).trans ?_;rw[<-bI];exact fN _ f
  ·let⟨XT,@d,e,f⟩:=vj R t g;exact⟨XT,c++d,e,ka.trans<|(eT _ f).trans ka⟩
def gO:List ak->Option (List X)
 |[]=>Z []
 |.im r::D=>(gO D).map λp=>r::p
 |_::_=>V
@[simp] def rI(D:List ak):ak:=match gO D with
 |some is=>.im (.tup is)
 |none=>.pa D
@[simp] def rA(D:List ak):ak:=match gO D with
 |some is=>.lst is
 |none=>.gY D
theorem zu{j:ax}:∀{D:List ak}{Q:List ai}{Xz:List aq}{is:List X},dj j D Q Xz->gO D=Z is->bt j is Q/\Xz=[]
 |[],_,_,_,b,a=>by cases a;exact b
 |.im r::D,_,_,_,b,a=>by
  let⟨u,p,f,@bJ,rfl,@⟨l,rfl⟩,t,rfl⟩:=b;rw[gO]at a;let⟨@n,c,d⟩:=b5.mp a;cases d;let@⟨e,rfl⟩:=zu t c;exact⟨⟨u,p,rfl,l,e⟩,rfl⟩
 |.c8::_,_,_,_,_,a=>by rw[gO]at a;cases a;all_goals (intro Y i;cases i)
 |.eo _::_,_,_,_,_,a=>by rw[gO]at a;cases a;all_goals (intro Y i;cases i)
 |.lst _::_,_,_,_,_,a=>by rw[gO]at a;cases a;all_goals (intro Y i;cases i)
 |.cb _::_,_,_,_,_,a=>by rw[gO]at a;cases a;all_goals (intro Y i;cases i)
 |.aE _::_,_,_,_,_,a=>by rw[gO]at a;cases a;all_goals (intro Y i;cases i)
 |.gY _::_,_,_,_,_,a=>by rw[gO]at a;cases a;all_goals (intro Y i;cases i)
 |.pa _::_,_,_,_,_,a=>by rw[gO]at a;cases a;all_goals (intro Y i;cases i)
 |.dN _::_,_,_,_,_,a=>by rw[gO]at a;cases a;all_goals (intro Y i;cases i)
 |.dL _::_,_,_,_,_,a=>by rw[gO]at a;cases a;all_goals (intro Y i;cases i)
 |.gm _ _::_,_,_,_,_,a=>by rw[gO]at a;cases a;all_goals (intro Y i;cases i)
@[simp] def cp(O:aC (List bo)):aC ak:=λw=>(O w).bind λn=>(eB n.1 n.2).bind λs=>if s.1.length<=100000 then Z (rI s.1,s.2) else V
@[simp] def eu(O:aC (List bo)):aC ak:=λw=>(O w).bind λn=>(eB n.1 n.2).bind λs=>if s.1.length<=100000 then Z (rA s.1,s.2) else V
def OG{D:List ak}(m:cN j S)(b:dj j D Q Xz)(a:S n=Z (.tup Q)):∃c,b_ S (rI D) (.ref n) c/\c=Xz:=by
 unfold rI;split
 ·rename_i is XG;let@⟨d,rfl⟩:=zu b XG;exact⟨[],⟨⟨n,Q,rfl,a,d.mono m.tupS.tup⟩,rfl⟩,rfl⟩
 ·exact⟨Xz,⟨n,Q,rfl,a,b.mono m.tupS λg Y o s=>m g o s⟩,rfl⟩
def Qn{D:List ak}(m:cN j S)(b:dj j D Q Xz)(a:S n=Z (.lst Q)):b_ S (rA D) (.ref n) (n::Xz):=by
 unfold rA;split
 ·rename_i is XG;let@⟨c,rfl⟩:=zu b XG;exact⟨n,Q,rfl,a,c.mono m.tupS.tup,rfl⟩
 ·exact⟨n,Q,Xz,rfl,a,b.mono m.tupS λg Y o s=>m g o s,rfl⟩
def kN(b:v<=100000):v<=sizeLine:=dg b ∅
def a8.add{o:eY}(g:a8 j N XE L)(a:XE n=V)(f:∀e∈L,fu XE e):a8 j N (upd XE n o) (L++[n]):=by
 have m:cN XE (upd XE n o):=(cN.refl XE).upd a;have:=a8.new (Xz:=[]) (d:=[n]) (by rw[bO];exact g) m (es _ _) (λe b=>by rw[cf.mp b];exact a) f;exact this
def a8.same(g:a8 j N XE L)(m:cN XE XS):a8 j N XS L:=
 ⟨λe o a b=>m _ _<|g.keep e o a b,g.sub,g.ae,g.tup.trans m.tupS,λe o a=>let ⟨Yy,c⟩:=g.grow e o a;⟨Yy,m _ _ c⟩⟩
section
variable{c:aI}
def kx{e}(b:f6 c P O):bZ c (.Tuple P e XP) (cp O):=by
 refine dR (Wn b) λB j y f=>?_;let⟨w,N,p,@X0,R,ae,h,s⟩:=f;let⟨@⟨XU,XD⟩,l,t⟩:=bg.mp h;let⟨@⟨D,X_⟩,i,d⟩:=bg.mp t;refine⟨w,N,XU,XD,R,ae,l,λQ XE XT E k q r=>?_⟩;let⟨X4,@bJ,u,X7,X5⟩:=k_ k q i;split at d
 ·rename_i v;cases d;have x:Q.length<=100000:=by rw[<-X7.length];exact v
  refine⟨kN x,λn z=>?_⟩;have m:cN XE (upd XE n<|.tup Q):=(cN.refl XE).upd z;let⟨@A,C,rfl⟩:=OG m X7 dx;exact s _ _ X4 A (u.mono m.tupS λg Y o a=>m g o a) C ((r.jn X5.symm).same m)
 ·cases d
def gh(b:f6 c P O):bZ c (.List P XP) (eu O):=by
 refine dR (EB b) λB j y k=>?_;let⟨w,N,p,@X0,R,ae,q,s⟩:=k;let⟨@⟨XU,XD⟩,l,t⟩:=bg.mp q;let⟨@⟨D,X_⟩,r,f⟩:=bg.mp t;refine⟨w,N,XU,XD,R,ae,l,λQ XE XT E u v x=>?_⟩;let⟨X4,@bJ,h,X7,X5⟩:=k_ u v r;split at f
 ·rename_i z;cases f;have A:Q.length<=100000:=by rw[<-X7.length];exact z
  refine⟨kN A,λn i=>?_⟩;have m:cN XE (upd XE n<|.lst Q):=(cN.refl XE).upd i;have C:=Qn m X7 (n:=n) dx;refine s _ _ X4 (n::bJ) (h.mono m.tupS λg Y o a=>m g o a) C (((x.jn X5.symm).add i λe d=>?_).jn ?_)
  ·rcases dM.mp d with d|d
   ·exact h.chg e d
   ·exact X7.chg e d
  ·rw[bI];exact eT _ d3
 ·cases f
def gX(c:aI)(F:ag)(Yn:List ak->Option ak):Prop:=(
 eK c F λx j y=>∃D r,mx j D x/\Yn D=Z r/\∀u S Xz,cN j S->b_ S r u Xz->Xz.Nodup->(∀g∈Xz,j g=V)->y u S)
@[simp] def bQ(Yn:List ak->Option ak)(O:aC (List bo)):aC ak:=λw=>(O w).bind λn=>(hq n.2 n.1).bind λD=>(Yn D).map λr=>(r,n.2)
def Ja(b:ml (bQ Yn O) B j y):
  hs O B j λx XE=>∃D r,mx XE D x/\Yn D=Z r/\∀u S Xz,cN XE S->b_ S r u Xz->Xz.Nodup->(∀g∈Xz,XE g=V)->y u S:=by
 let⟨w,N,p,@X0,R,ae,e,s⟩:=b;let⟨@⟨XU,XD⟩,l,t⟩:=bg.mp e;let⟨@D,f,h⟩:=bg.mp t;let⟨@r,i,k⟩:=b5.mp h;cases k;refine⟨w,N,XU,XD,R,ae,l,λQ XE XT z c m n=>⟨D,_,m.read c f,i,λu XS Xz d X7 q v=>?_⟩⟩;exact s u XS XT Xz (c.mono d.tupS λg Y o a=>d g o a) X7 (n.new d q v c.chg)
variable{n:b9}
def Nw{id:String}(d:gX c (.builtin id) Yn)(f:fc c e)(g:c.aJ e=V)(h:fb e=Z (.builtin id))(i:f6 c (a::P) O)(j:e ≠ "__name__" := by decide)(k:(e==("__debug__" : aD))=aA:=by decide)(l:bD (a::P) c.env=(aA,bP a c.env)::bD P c.env:=by rfl)(m:(ep XP<|bD P c.env).any (·.1)=aA:=by rfl):
  bZ c (.Call (.Name e n) (a::P) [] XP) (bQ Yn O):=dR (Ht d f g h i j k l m) λ_ Y Y b=>Ja b
def gw{T:String}(d:gX c (.type T) Yn)(f:fc c e)(g:c.aJ e=V)(h:fb e=Z (.type T))(i:f6 c (a::P) O)(j:e ≠ "__name__" := by decide)(k:(e==("__debug__" : aD))=aA:=by decide)(l:bD (a::P) c.env=(aA,bP a c.env)::bD P c.env:=by rfl)(m:(ep XP<|bD P c.env).any (·.1)=aA:=by rfl):
  bZ c (.Call (.Name e n) (a::P) [] XP) (bQ Yn O):=dR (K4 d f g h i j k l m) λ_ Y Y b=>Ja b
abbrev cW:=List ak->Option (ak×List ak)
def kl(v:Nat)(XH:cW):mI:=(λQ j y Y=>Q.length=v/\∃D N p A,dj j D Q N/\N.Nodup/\XH D=Z (p,A)/\∀u S Xz a,b_ S p u Xz->dj S A Q a->a8 j N S (Xz++a)->y u S)
@[simp] def bf(v:Nat)(XH:cW)(O:aC (List bo)):aC ak:=λw=>(O w).bind λn=>if n.1.length=v then (eB n.1 n.2).bind λs=>(XH s.1).map λp=>(p.1,i0 n.1 p.2 s.2) else V
theorem kU.length{j:ax}{B:aZ}:∀{XU:List bo}{Q:List ai}{Xz:List aq},kU j B XU Q Xz->XU.length=Q.length
 |[],_,_,b=>by rw[b.1];rfl
 |o::XU,_,_,b=>by
  let⟨u,p,a,@bJ,rfl,l,t,rfl⟩:=b;rw[b6,b6,kU.length t]
def Wg{XH:cW}{XA:gT}(b:ml (bf v XH O) B j y):FW (kl v XH) [] XA (hs O) B j y:=by
 let⟨w,N,p,@X0,R,ae,k,s⟩:=b;let⟨@⟨XU,XD⟩,l,t⟩:=bg.mp k;split at t
 ·rename_i m;let⟨@⟨D,X_⟩,n,q⟩:=bg.mp t;let⟨@⟨Yr,A⟩,r,x⟩:=b5.mp q;cases x;refine⟨w,N,XU,XD,R,ae,l,λQ XE XT S z c C=>?_⟩;let⟨X4,bJ,h,X7,X5⟩:=k_ z c n;have d:=C.jn (X5.symm.trans d3);rw[bO];refine⟨by rw[<-c.length];exact m,D,bJ,_,A,X7,(cH.mp d.ae).1,r,λu i Xz T cc E e=>?_⟩;have F:=d.trans e h.chg;have G:∀g∈X4,g∉bJ:=λg f H=>(cH.mp d.ae).2.2 g H g f rfl;have I:bq i X_ B X4:=h.mono e.tup λg f o a=>e.keep g o a (G g f);let⟨J,@L,M,P⟩:=vj I c E;refine s u i J Xz M cc (F.less (aL:=L) ?_);refine List.Perm.trans ?_ d3;rw[bI];refine (eT _ d3).trans ?_;rw[<-bI];refine (fN _ P).trans ?_;rw[bI];exact eT _ d3
 ·cases t
end
section
variable{c:aI}
variable{q:Nat}
def Pg{XH:cW}{F:aq}{n:b9}(N:iH c.prog c.w c.K c.aJ c.base ih q F fd XF (kl v XH))(d:e0 q c.A)(f:fc c e)(g:c.aJ e=Z (.ref F))(h:Θ c.K (.ref F)=aa)(i:i9 c.K fd XF [])(j:f6 c (a::P) O)(k:(e==("__debug__" : aD))=aA:=by decide)(l:bD (a::P) c.env=(aA,bP a c.env)::bD P c.env:=by rfl)(m:(ep XP<|bD P c.env).any (·.1)=aA:=by rfl):
  bZ c (.Call (.Name e n) (a::P) [] XP) (bf v XH O):=dR (Vh N d f g h i .nil LD j k l m) λ_ Y Y b=>Wg b
inductive l0 where
 | bA|eO (r:ak)|gG|cv
abbrev bx:=aQ->Option (l0×aQ)
def dv(Ye:List Nat)(B a:aZ):Prop:=(a.length=B.length/\∀h∈Ye,a[h]?=B[h]?)
def dv.refl:dv Ye B B:=⟨rfl,λ_ Y=>rfl⟩
def dv.trans{a:aZ}(g:dv Ye B Y3)(d:dv Ye Y3 a):dv Ye B a:=⟨d.1.trans g.1,λh XG=>(d.2 h XG).trans<|g.2 h XG⟩
def dv.set{u:Option ai}(b:k∉Ye):dv Ye B (B.set k u):=⟨tv,λh XG=>nt λa=>b (by rw[a];exact XG)⟩
def rS(Ye:List Nat)(XA:nu)(B:aZ)(j:ax)(N:List aq)(X0:aQ):l0->Prop
 |.bA=>∀a S Yf,dv Ye B a->bq S X0 a Yf->a8 j N S Yf->XA.bA a S
 |.gG=>∀a S Yf,dv Ye B a->bq S X0 a Yf->a8 j N S Yf->XA.gG a S
 |.cv=>∀a S Yf,dv Ye B a->bq S X0 a Yf->a8 j N S Yf->XA.cv a S
 |.eO r=>∀u a S Yf Xz,dv Ye B a->bq S X0 a Yf->b_ S r u Xz->a8 j N S (Yf++Xz)->XA.eO u S
def p7(Ye:List Nat)(O:bx):fe:=(λXA B j=>∃w N aW X0,bq j w B N/\N.Nodup/\O w=Z (aW,X0)/\rS Ye XA B j N X0 aW)
def h7(c:aI)(Ye:List Nat)(R:cE)(O:bx):Prop:=(∀ ⦃n⦄,B5 c R (p7 Ye O) n)
def jr(c:aI)(Ye:List Nat)(a:List cE)(O:bx):Prop:=(∀ ⦃n⦄,KA c a (p7 Ye O) n)
variable{Yc:fe}
def kG{C:fe}(b:hy c R C)(h:∀XA B j,Yc XA B j->C XA B j):hy c R Yc:=λG m B j w z a=>b G m B j w z (h w B j a)
def Ef{R:List cE}{C:fe}(b:hU c R C)(h:∀XA B j,Yc XA B j->C XA B j):hU c R Yc:=λG m B j w z a=>b G m B j w z (h w B j a)
def rS.on{aW:l0}(b:rS Ye XA B j N X0 aW)(Yw:dv Ye B Y3)(m:a8 j N XE XT):rS Ye XA Y3 XE XT X0 aW:=by
 cases aW with
 |bA=>exact λa S Yf F R XM=>b a S Yf (Yw.trans F) R (m.seq XM)
 |gG=>exact λa S Yf F R XM=>b a S Yf (Yw.trans F) R (m.seq XM)
 |cv=>exact λa S Yf F R XM=>b a S Yf (Yw.trans F) R (m.seq XM)
 |eO r=>exact λu a S Yf Xz F R X7 XM=>b u a S Yf Xz (Yw.trans F) R X7 (m.seq XM)
def fC:bx:=(λw=>Z (.bA,w))
@[simp] def ba(O b:bx):bx:=λw=>(O w).bind λn=>match n.1 with
 |.bA=>b n.2
 |aW=>Z (aW,n.2)
def gL:jr c Ye [] fC:=by
 refine Ef TU λXA B j a=>?_;let⟨w,N,aW,@X0,R,ae,b,s⟩:=a;cases b;exact s B j N dv.refl R (a8.perm ae<|List.Perm.refl _)
variable{O:bx}
def bX(b:h7 c Ye R O):jr c Ye [R] O:=Rn b
def Tg{b:bx}(H:p7 Ye (ba O b) XA B j):EG (p7 Ye O) (p7 Ye b) XA B j:=by
 let⟨w,N,aW,@X0,R,ae,a,s⟩:=H;let⟨@⟨c,XD⟩,l,t⟩:=bg.mp a;cases c with
 |bA=>exact⟨w,N,.bA,XD,R,ae,l,λe S Yf Yw d m=>⟨XD,Yf,aW,X0,d,m.ae,t,s.on Yw m⟩⟩
 |gG=>cases t;exact⟨w,N,.gG,XD,R,ae,l,s⟩
 |cv=>cases t;exact⟨w,N,.cv,XD,R,ae,l,s⟩
 |eO r=>cases t;exact⟨w,N,.eO r,XD,R,ae,l,s⟩
def bC{a:List cE}{b:bx}(l:h7 c Ye R O)(t:jr c Ye a b):jr c Ye (R::a) (ba O b):=Ef (Uz l t) λ_ Y Y H=>Tg H
def J8:bx:=(λ_=>V)
def TR:h7 c Ye R J8:=kG Q_ λ_ _ _ ⟨_,_,_,_,_,_,b,_⟩=>by cases b
@[simp] def fD(O:aC ak):bx:=λw=>(O w).map λn=>(.bA,n.2)
variable{O:aC ak}
def hc(b:bZ c a O)(XO:rE a V XP.line c.env=pure aA:=by rfl):h7 c Ye (.Expr a XP) (fD O):=by
 refine kG (Qs b XO) λXA B j d=>?_;let⟨w,N,aW,@X0,R,ae,e,s⟩:=d;let⟨@⟨p,XD⟩,l,t⟩:=b5.mp e;cases t;exact⟨w,N,p,_,R,ae,l,λu S Yf Xz f X7 m=>s B S Yf dv.refl f<|m.less<|List.Perm.refl _⟩
@[simp] def dk(O:aC ak):bx:=λw=>(O w).map λn=>(.eO n.1,n.2)
def dT(b:bZ c a O):h7 c Ye (.Return (Z a) XP) (dk O):=by
 refine kG (R1 b) λXA B j d=>?_;let⟨w,N,aW,@X0,R,ae,e,s⟩:=d;let⟨@⟨p,XD⟩,l,t⟩:=b5.mp e;cases t;exact⟨w,N,p,_,R,ae,l,λu S Yf Xz f X7 m=>s u B S Yf Xz dv.refl f X7 m⟩
@[simp] def d7(f:aC Bool)(g d:bx):bx:=λw=>(f w).bind λn=>if n.1=aa then g n.2 else d n.2
variable{YD:bx}
def fZ{g d:List cE}{YF:bx}(e:iw c f YV)(h:jr c Ye g YF)(i:jr c Ye d YD):h7 c Ye (.If f g d XP) (d7 YV YF YD):=by
 refine kG (PU e h i) λXA B j k=>?_;let⟨w,N,aW,@X0,R,ae,m,s⟩:=k;let⟨@⟨C,XD⟩,l,t⟩:=bg.mp m;refine⟨w,N,C,XD,R,ae,l,λXE XT b a=>?_⟩;cases C with
 |true=>
  rw[aF rfl]at t ⊢;exact⟨XD,XT,aW,X0,b,a.ae,t,s.on dv.refl a⟩
 |false=>
  rw[if_neg cB]at t ⊢;exact⟨XD,XT,aW,X0,b,a.ae,t,s.on dv.refl a⟩
@[simp] def bW(h:Nat)(O:aC ak):bx:=λw=>(O w).bind λn=>if h<n.2.length then Z (.bA,n.2.set h<|Z n.1) else V
variable{h:Nat}
def vq{i:b9}(b:c.N.Nodup)(XG:c.N[h]?=Z e)(d:iO c.env.scope e)(f:bZ c a O)(g:h∉Ye)(XO:rE a (Z<|.Name e i) XP.line c.env=pure aA:=by rfl)(k:c.fn e=aa\/c.env.scope.names.lookup e=Z .local:=by first|exact .inl rfl|exact .inr rfl|assumption):h7 c Ye (.Assign [.Name e i] a XP) (bW h O):=by
 refine kG (Q1 b XG d f XO k) λXA B j m=>?_;let⟨w,N,aW,@X0,R,ae,n,s⟩:=m;let⟨@⟨p,XD⟩,l,t⟩:=bg.mp n;split at t
 ·rename_i o;cases t;refine⟨w,N,p,_,R,ae,l,λu XE XT Xz q X7 r=>?_⟩;let⟨X4,@bJ,v,X5⟩:=q.put (h:=h) X7 o;exact s _ XE X4 (dv.set g) v (r.less X5)
 ·cases t
abbrev fG:=ak->aQ->Option aQ
def zW(Ye:List Nat)(O:fG):g7:=(λu B j y=>∃w N r Xz X0,bq j w B N/\b_ j r u Xz/\(N++Xz).Nodup/\O r w=Z X0/\∀a S Yf,dv Ye B a->bq S X0 a Yf->a8 j (N++Xz) S Yf->y a S)
def hJ(c:aI)(Ye:List Nat)(a:aY)(O:fG):Prop:=(∀ ⦃n⦄,Ka c a (zW Ye O) n)
def vE{C Yc:g7}(b:kh c a C)(h:∀u B j y,Yc u B j y->C u B j y):kh c a Yc:=λG m B j e u y z p d=>b G m B j e u y z p (h e B j y d)
@[simp] def bH(h:Nat):fG:=λr w=>if h<w.length then Z (w.set h<|Z r) else V
def yX(b:c.N.Nodup)(XG:c.N[h]?=Z e)(d:iO c.env.scope e)(f:h∉Ye)(g:c.fn e=aa\/c.env.scope.names.lookup e=Z .local:=by first|exact .inl rfl|exact .inr rfl|assumption):hJ c Ye (.Name e XP) (bH h):=by
 refine vE (z0 b XG d g) λu B j y i=>?_;let⟨w,N,r,Xz,@X0,R,X7,ae,a,s⟩:=i;unfold bH at a;split at a
 ·rename_i k;cases a;let⟨X4,@bJ,l,X5⟩:=R.put (h:=h) X7 k;exact s _ j X4 (dv.set f) l ((a8.perm ae<|List.Perm.refl _).less X5)
 ·cases a
def Vu(Ye:List Nat)(O:List ak->aQ->Option aQ):k0:=(λQ B j y=>∃w N D Xz X0,bq j w B N/\dj j D Q Xz/\(N++Xz).Nodup/\O D w=Z X0/\∀a S Yf,dv Ye B a->bq S X0 a Yf->a8 j (N++Xz) S Yf->y a S)
def vw(c:aI)(Ye:List Nat)(P:List aY)(O:List ak->aQ->Option aQ):Prop:=(∀ ⦃n⦄,Dj c P (Vu Ye O) n)
@[simp] def jH:List ak->aQ->Option aQ
 |[],w=>Z w
 |_,_=>V
@[simp] def fY(O:fG)(b:List ak->aQ->Option aQ):List ak->aQ->Option aQ
 |r::D,w=>(O r w).bind (b D)
 |_,_=>V
def Fo{C Yc:k0}(b:oo c P C)(h:∀u B j y,Yc u B j y->C u B j y):oo c P Yc:=λG m B j x Q y z p a=>b G m B j x Q y z p (h x B j y a)
def RJ:vw c Ye [] jH:=by
 refine Fo EF λQ B j y b=>?_;let⟨w,N,D,Xz,@X0,R,X7,ae,a,s⟩:=b;cases D with
 |cons r D=>cases a
 |nil=>
  cases a;exact⟨X7.1,s B j N dv.refl R<|(a8.perm ae<|List.Perm.refl _).less<|List.Perm.refl _⟩
def Hj{O:fG}(l:hJ c Ye a O)(t:vw c Ye P b)(XO:(fJ (a::P) c.env).map (·.2)=hY a c.env::(fJ P c.env).map (·.2):=by rfl):vw c Ye (a::P) (fY O b):=by
 refine Fo (zV l t XO) λQ B j y x=>?_;let⟨w,N,D,Xz,@X0,R,X7,ae,m,s⟩:=x;cases D with
 |nil=>cases m
 |cons r D=>
  let⟨u,p,h,@bJ,rfl,cc,n,rfl⟩:=X7;let⟨@XD,z,A⟩:=bg.mp (show (O r w).bind (b D)=Z X0 from m);have k:((N++h)++bJ).Nodup:=by rw[bI];exact ae
  refine⟨u,p,rfl,w,N,r,h,XD,R,cc,(cH.mp k).1,z,λY3 XE XT Yw C f=>?_⟩;have q:∀g∈bJ,g∉N++h:=λg e i=>(cH.mp k).2.2 g i g e rfl;have E:dj XE D p bJ:=n.mono f.tup λg e o a=>f.keep g o a (q g e);have v:a8 j (N++(h++bJ)) XE (XT++bJ):=by
   refine⟨λg o a e=>f.keep g o a λb=>e ?_,λg e=>?_,cH.mpr ⟨f.ae,(cH.mp k).2.1,λg e d i a=>?_⟩,f.tup,f.grow⟩
   ·rw[<-bI];exact d6 _ b
   ·rcases dM.mp e with e|e
    ·rcases f.sub g e with b|b
     ·left;rw[<-bI];exact d6 _ b
     ·exact .inr b
    ·left;rw[<-bI];exact dH _ e
   ·subst a;rcases f.sub g e with b|b
    ·exact q g i b
    ·let⟨@o,a,Y⟩:=n.chg g i;rw[a]at b;cases b
  exact⟨XD,XT,D,bJ,X0,C,E,v.ae,A,λF XS X4 G H I=>s F XS X4 (Yw.trans G) H<|v.seq I⟩
@[simp] def jt(v:Nat)(b:List ak->aQ->Option aQ):fG:=λr w=>match r with
 |.im (.tup is)=>if is.length=v then b (is.map .im) w else V
 |.pa D=>if D.length=v then b D w else V
 |_=>V
theorem G3{j:ax}:∀{is:List X}{Q:List ai},bt j is Q->dj j (is.map .im) Q []
 |[],Q,b=>⟨b,rfl⟩
 |r::is,Q,b=>by
  let⟨u,@p,rfl,l,t⟩:=b;exact⟨u,p,[],[],rfl,⟨l,rfl⟩,G3 t,rfl⟩
def QR(e:c.calm=aa)(XO:vw c Ye P b)(f:(fJ P c.env).length=v:=by rfl)(h:(fJ P c.env).findIdx? (·.1)=V:=by rfl):hJ c Ye (.Tuple P q XP) (jt v b):=by
 refine vE (ON e XO f h) λu B j y i=>?_;let⟨w,N,r,Xz,@X0,R,X7,ae,a,s⟩:=i;unfold jt at a;split at a
 ·rename_i is;split at a
  ·rename_i d;let@⟨⟨g,@x,rfl,l,t⟩,rfl⟩:=X7;exact⟨g,x,rfl,da.of l,by rw[<-t.length];exact d,w,N,_,[],X0,R,G3 t,ae,a,s⟩
  ·cases a
 ·rename_i D;split at a
  ·rename_i d;let⟨g,@x,rfl,l,t⟩:=X7;exact⟨g,x,rfl,da.of l,by rw[<-t.length];exact d,w,N,_,Xz,X0,R,t,ae,a,s⟩
  ·cases a
 ·cases a
@[simp] def hB(O:aC ak)(b:fG):bx:=λw=>(O w).bind λn=>(b n.1 n.2).map λX0=>(.bA,X0)
def lK{b:fG}(e:bZ c a O)(f:hJ c Ye Yi b)(XO:pf [Yi] a XP.line c.env=pure aA:=by rfl)(g:pB [Yi] a c.env=pure V:=by rfl)(l:(fJ [Yi] c.env).map (·.2)=[hY Yi c.env]:=by rfl):h7 c Ye (.Assign [Yi] a XP) (hB O b):=by
 refine kG (Te e f XO g l) λXA B j h=>?_;let⟨w,N,aW,@X0,R,ae,i,s⟩:=h;let⟨@⟨p,XD⟩,g1,g2⟩:=bg.mp i;let⟨@X_,k,m⟩:=b5.mp g2;cases m;exact⟨w,N,p,XD,R,ae,g1,λu XE XT Xz n X7 d=>⟨XD,XT,p,Xz,_,n,X7,d.ae,k,λo S Yf Yw q r=>s o S Yf Yw q<|d.seq r⟩⟩
@[simp] def nj(h k:Nat)(O:aC (List bo)):bx:=λw=>(O w).bind λn=>(eB n.1 n.2).bind λs=>match s.1 with
 |[Ym,T]=>if h<s.2.length/\k<s.2.length then Z (.bA,(s.2.set h<|Z Ym).set k<|Z T) else V
 |_=>V
def BY{A:aD}{O:aC (List bo)}{YU i J:b9}{YP f m}(q:c.calm=aa)(r:c.N.Nodup)(XG:c.N[h]?=Z e)(v:c.N[k]?=Z A)(x:h≠k)(y:c.env.scope.names.lookup e=Z .local)(z:c.env.scope.names.lookup A=Z .local)(C:f6 c [g,d] O)(E:h∉Ye)(F:k∉Ye)(G:pB [.Tuple [.Name e YU,.Name A i] YP J] (.Tuple [g,d] f m) c.env=pure (Z [e,A]))(XO:pf [.Tuple [.Name e YU,.Name A i] YP J] (.Tuple [g,d] f m) XP.line c.env=pure aA:=by rfl):
  h7 c Ye (.Assign [.Tuple [.Name e YU,.Name A i] YP J] (.Tuple [g,d] f m) XP) (nj h k O):=by
 refine kG (Nt q r XG v x y z C G XO) λXA B j H=>?_;let⟨w,N,aW,@X0,R,ae,M,s⟩:=H;let⟨@⟨XU,XD⟩,l,t⟩:=bg.mp M;let⟨@⟨D,X_⟩,P,b⟩:=bg.mp t;refine⟨w,N,XU,XD,R,ae,l,λQ XE XT bn S U al=>?_⟩;let⟨X4,@bJ,am,X7,X5⟩:=k_ S U P;dsimp only at b;split at b
 ·rename_i Ym T a;split at b
  ·rename_i n;cases b;let⟨u,p,L,@Ya,rfl,cc,an,rfl⟩:=X7;let⟨I,Yr,bs,@bv,rfl,ap,@⟨rfl,rfl⟩,rfl⟩:=an;let⟨as,@o,a1,a2⟩:=am.put (h:=h) cc n.1;let⟨bd,@be,bi,bm⟩:=a1.put (h:=k) ap (by rw[tv];exact n.2);refine⟨u,I,rfl,s _ XE bd ((dv.set E).trans<|dv.set F) bi<|(al.jn X5.symm).less (aL:=be++o) ?_⟩;rw[<-bI,bO,<-bI];refine (fN o bm).trans ?_;rw[bI];refine (eT as d3).trans ?_;rw[<-bI];exact fN _ a2
  ·cases b
 ·cases b
def ho(f:aC Bool)(d:bx):Nat->bx
 |0=>λ_=>V
 |v+1=>λw=>(f w).bind λn=>if n.1=aa then (d n.2).bind λs=>match s.1 with
  |.bA=>ho f d v s.2
  |.cv=>ho f d v s.2
  |.gG=>Z (.bA,s.2)
  |.eO r=>Z (.eO r,s.2) else Z (.bA,n.2)
def q_(v:Nat)(n:sR (aN c.prog c.w) c.A c.env c.cP)(o:iw c f YV)(p:jr c Ye YX YD):h7 c Ye (.While f YX [] XP) (ho YV YD v):=by
 refine kG (QH n o p) λXA B j q=>?_;let⟨w,N,aW,@X0,R,ae,t,s⟩:=q;refine⟨λE a S=>∃h Yf,bq S h a Yf/\dv Ye B a/\a8 j N S Yf/\ho YV YD E h=Z (aW,X0),⟨v,w,N,R,dv.refl,a8.perm ae<|List.Perm.refl _,t⟩,?_⟩;rintro E Y3 XE ⟨XD,XT,x,i,e,H⟩;cases E with
 |zero=>cases H
 |succ E=>
  rw[ho]at H;let⟨@⟨C,X_⟩,cc,k⟩:=bg.mp H;refine⟨XD,XT,C,X_,x,e.ae,cc,λXS X4 m g=>?_⟩;cases C with
  |false=>
   rw[if_neg cB]at k ⊢;cases k;exact s Y3 XS X4 i m (e.seq g)
  |true=>
   rw[aF rfl]at k ⊢;let⟨@⟨F,Yz⟩,y,l⟩:=bg.mp k;refine⟨λa S=>∃h Yf,bq S h a Yf/\dv Ye B a/\a8 j N S Yf/\ho YV YD E h=Z (aW,X0),λa S b=>⟨E,mX E,b⟩,X_,X4,F,Yz,m,g.ae,y,?_⟩;cases F with
   |bA=>exact λa S Yf Yw d XM=>⟨Yz,Yf,d,i.trans Yw,(e.seq g).seq XM,l⟩
   |cv=>exact λa S Yf Yw d XM=>⟨Yz,Yf,d,i.trans Yw,(e.seq g).seq XM,l⟩
   |gG=>
    cases l;exact λa S Yf Yw d XM=>s a S Yf (i.trans Yw) d ((e.seq g).seq XM)
   |eO r=>
    cases l;exact λu a S Yf Xz Yw d X7 XM=>s u a S Yf Xz (i.trans Yw) d X7 ((e.seq g).seq XM)
structure n8(YB:fI)(j:ax)(Xz:List aq)(D:List X):Prop where
 go:∀S,eC j S->(∀g∈Xz,∀o,j g=Z o->S g=Z o)->∀(h:Nat) (r:X),D[h]?=Z r->YB.go h S/\∀e yb,YB.va h S e yb->cN S yb/\b8 yb r e
 stop:∀S,eC j S->(∀g∈Xz,∀o,j g=Z o->S g=Z o)->YB.stop D.length S
def sM(j:ax)(B:aZ)(Xz:List aq):Option (Nat×ak)->Prop
 |none=>True
 |some (h,r)=>∃u,B[h]?=Z (Z u)/\b_ j r u Xz
def yH(O:aC (List X×Option (Nat×ak))):ki:=(λB j a=>∃w N p X0,bq j w B N/\N.Nodup/\O w=Z (p,X0)/\∀YB S Yf Xz,bq S X0 B Yf->n8 YB S Xz p.1->sM S B Xz p.2->(∀g∈Xz,fu S g)->a8 j N S (Yf++Xz)->a YB S)
def p1(c:aI)(Yi YO:aY)(O:aC (List X×Option (Nat×ak))):Prop:=(∀ ⦃n⦄,HU c Yi YO (yH O) n)
def Fd{C Yc:ki}(b:mG c Yi YO C)(h:∀B j Xz,Yc B j Xz->C B j Xz):mG c Yi YO Yc:=λG m B j Xz z a=>b G m B j Xz z (h B j Xz a)
def dK(Yi:fG)(d:bx):List X->bx
 |[]=>λw=>Z (.bA,w)
 |e::p=>λw=>(Yi (.im e) w).bind λXD=>(d XD).bind λs=>match s.1 with
  |.bA=>dK Yi d p s.2
  |.cv=>dK Yi d p s.2
  |.gG=>Z (.bA,s.2)
  |.eO r=>Z (.eO r,s.2)
@[simp] def jD:Option (Nat×ak)->aQ->aQ
 |none,w=>w
 |some (h,r),w=>match w[h]? with
  |some (Z .c8)=>w.set h (Z r)
  |_=>w
@[simp] def e4(O:aC (List X×Option (Nat×ak)))(Yi:fG)(d:bx):bx:=λw=>(O w).bind λn=>(dK Yi d n.1.1 n.2).map λs=>(s.1,jD n.1.2 s.2)
def yy{o:Option (Nat×ak)}(R:bq j w B N)(b:sM j B Xz o):∃XT XH,bq j (jD o w) B XT/\(XT++XH).Perm (N++Xz):=by
 cases o with
 |none=>exact⟨N,Xz,R,List.Perm.refl _⟩
 |some n=>
  let⟨h,r⟩:=n;let⟨@u,l,t⟩:=b;unfold jD;dsimp only;split
  ·exact R.back t l
  ·exact⟨N,Xz,R,List.Perm.refl _⟩
def n_(Yw:List Nat):Option (Nat×ak)->Prop
 |none=>True
 |some (h,_)=>h∈Yw
def Nm{O:aC (List X×Option (Nat×ak))}{A:fG}(g1:sR (aN c.prog c.w) c.A c.env c.cP)(g2:c.calm=aa)(XG:p1 c Yi YO O)(g3:hJ c Yw Yi A)(hd:jr c Yw YX YD)(ci:∀h∈Ye,h∈Yw)(XO:∀w p X0,O w=Z (p,X0)->n_ Yw p.2)(cl:hy c (.For Yi YO YX [] XP) (Ew (yH O) (zW Yw A)<|p7 Yw YD)):h7 c Ye (.For Yi YO YX [] XP) (e4 O A YD):=by
 refine kG cl λXA B j co=>?_;let⟨w,N,aW,@X0,R,ae,cr,s⟩:=co;let⟨@⟨⟨D,o⟩,XD⟩,l,t⟩:=bg.mp cr;let⟨@⟨F,X_⟩,cs,db⟩:=b5.mp t;cases db;refine⟨w,N,(D,o),XD,R,ae,l,λYB XE XT Xz ds aP dL a1 T=>?_⟩;have eq:n_ Yw o:=XO w _ _ l;have a2:=cH.mp T.ae;have U:∀{XS:ax}{X4:List aq},a8 XE XT XS X4->∀g∈Xz,∀I,XE g=Z I->XS g=Z I:=λm g ev I a=>m.keep g I a λb=>a2.2.2 g b g ev rfl;have bd:∀{XS:ax}{X4:List aq}{d:aZ},a8 XE XT XS X4->dv Yw B d->sM XS d Xz o:=λ{XS X4 d} m F=>by
  cases o with
  |none=>trivial
  |some n=>
   let⟨h,r⟩:=n;let⟨@u,ex,fd⟩:=dL;exact⟨u,(F.2 h eq).trans ex,fd.mono m.tup<|U m⟩
 have be:∀{d:aZ},dv Yw B d->dv Ye B d:=λF=>⟨F.1,λh XG=>F.2 h<|ci h XG⟩;have bi:∀{d:aZ}{XS:ax}{X4:List aq}{X_:aQ},rS Ye XA B j N (jD o X_) .bA->dv Yw B d->bq XS X_ d X4->a8 XE XT XS X4->XA.bA d XS:=λ{d XS X4 X_} s F al v=>by
  let⟨C,@XH,am,X5⟩:=yy al (bd v F);exact s d XS C (be F) am ((T.trans v a1).less X5)
 refine⟨λh E an S=>E+h=D.length/\∃f Yf,dv Yw B an/\bq S f an Yf/\a8 XE XT S Yf/\dK A YD (D.drop h) f=Z (F,X_),⟨D.length,rfl,XD,XT,dv.refl,ds,a8.perm a2.1<|List.Perm.refl _,cs⟩,?_⟩;rintro h E an S ⟨he,f,Yf,x,bm,XM,G⟩;by_cases bn:h<D.length
 ·let@⟨fn,fr⟩:=aP.go S XM.tup (U XM) h D[h] (by simp[bn]);rw[mS bn,dK]at G;let⟨@Yz,cc,f0⟩:=bg.mp G;let⟨@⟨bs,ap⟩,f1,J⟩:=bg.mp f0;refine .inr ⟨fn,λd XS=>(E-1)+(h+1)=D.length/\∃f Yf,dv Yw B d/\bq XS f d Yf/\a8 XE XT XS Yf/\dK A YD (D.drop<|h+1) f=Z (F,X_),λd XS b=>⟨E-1,⋯,b⟩,λe XS f2=>?_⟩;let@⟨as,f4⟩:=fr e XS f2;have al:=bm.mono as.tupS λg Y o a=>as g o a;have v:=XM.same as;refine⟨f,Yf,.im D[h],[],Yz,al,⟨f4,rfl⟩,by rw[bO];exact v.ae,cc,λhf f8 C M am bv=>?_⟩;have y:a8 XE XT f8 C:=v.seq (by rw[bO]at bv;exact bv);refine⟨Yz,C,bs,ap,am,y.ae,f1,?_⟩;cases bs with
  |bA=>exact λP Q z i k q=>⟨⋯,ap,z,(x.trans M).trans i,k,y.seq q,J⟩
  |cv=>exact λP Q z i k q=>⟨⋯,ap,z,(x.trans M).trans i,k,y.seq q,J⟩
  |gG=>
   cases J;exact λP Q z i k q=>bi s ((x.trans M).trans i) k (y.seq q)
  |eO r=>
   cases J;intro u P Q z ca i k ga q;have cd:=y.seq q;have ce:=(x.trans M).trans i;let⟨ch,@ge,gl,gt⟩:=yy (Xz:=Xz) k (bd cd ce);refine s u P Q ch ca (be ce) gl ga ((T.trans cd a1).less (aL:=ge) ?_);rw[bI];refine (eT ch d3).trans ?_;rw[<-bI];refine (fN ca gt).trans ?_;rw[bI,bI];exact eT _ d3
 ·have XG:h=D.length:=⋯
  subst XG;refine .inl ⟨aP.stop S XM.tup<|U XM,?_⟩;rw[ny (bk _)]at G;cases G;exact bi s x bm XM
end
section
variable{c:aI}
variable{A:fG}
def gE{O:aC (List X×Option (Nat×ak))}{YD:bx}(a:sR (aN c.prog c.w) c.A c.env c.cP)(b:c.calm=aa)(XG:p1 c Yi YO O)(d:hJ c Yw Yi A)(f:jr c Yw YX YD)(g:∀h∈Ye,h∈Yw)(XO:∀w p X0,O w=Z (p,X0)->n_ Yw p.2)(i:∀e,p3 YO c.env e=pure e:=by intro Y;rfl):h7 c Ye (.For Yi YO YX [] XP) (e4 O A YD):=
 Nm a b XG d f g XO (Pu a b XG d f i)
def NS(U:Φ)(E:bL):ki:=(λB j Xz=>E B j λe XE=>∃g,e=.ref g/\(((∃x,dm U XE g x)/\Xz (rx U g) XE)\/((∃x,da U XE g x)/\Xz (u4 U g) XE)))
variable{J:aY}
def TA{E:bL}(l:bu c J E):mG c Yi J (NS c.K E):=by
 intro G m B j Xz z b;refine bK (l G m B j _ z b) λu f p=>?_;let⟨e,@XE,h,q,r⟩:=p;let⟨@g,a,s⟩:=r;subst a;cases q;rcases s with ⟨⟨x,i⟩,s⟩|⟨⟨x,i⟩,s⟩
 ·let⟨@XN,t,n,v⟩:=h.list i;refine uV n.isList ?_;refine⟨f.heap.objs.size,[f.heap.objs.size],_,_,XE,rfl,h.kept (Yc:=f.toks) λd o a=>cw _ a,Nf g _,⟨_,dE _ rfl,rfl,rfl⟩,λd k=>?_,s⟩;have a:d=f.heap.objs.size:=by simpa using k
  subst a;exact h.yP (bk _) (h.aU.fresh<|bk _)
 ·let⟨@XN,t,n,v⟩:=h.tuple i;refine xp (show f.heap.IsTuple g XN.toArray from n) ?_;refine⟨f.heap.objs.size,[f.heap.objs.size],_,_,XE,rfl,h.kept (Yc:=f.toks) λd o a=>cw _ a,Mi g _,⟨_,dE _ rfl,rfl,rfl⟩,λd k=>?_,s⟩;have a:d=f.heap.objs.size:=by simpa using k
  subst a;exact h.yP (bk _) (h.aU.fresh<|bk _)
theorem bt.get{j:ax}:∀{D:List X}{Q:List ai}{h:Nat}{r:X},bt j D Q->D[h]?=Z r->∃u,Q[h]?=Z u/\b8 j r u
 |[],_,_,_,_,a=>by simp at a
 |r::D,_,0,_,b,a=>by
  let⟨u,@p,rfl,l,t⟩:=b;simp at a;subst a;exact⟨u,rfl,l⟩
 |r::D,_,h+1,_,b,a=>by
  let⟨u,@p,rfl,l,t⟩:=b;let⟨@I,c,d⟩:=bt.get (h:=h) t ⇑a;exact⟨I,by simpa using c,d⟩
variable{g:aq}
theorem O9(b:j g=Z (.lst x))(hd:bt j D x):n8 (rx U g) j [g] D where
 go:=λS C q h r a=>by
  let⟨@u,c,d⟩:=hd.get a;have ah:=dm.of (U:=U) (q g (.head _) _ b);refine⟨⟨x,u,ah,c⟩,λe k ⟨f,i⟩=>?_⟩;subst f;rw[i x ah]at c;cases c;exact⟨cN.refl _,d.mono C.tup⟩
 stop:=λS C q=>⟨x,dm.of<|q g (.head _) _ b,by rw[<-hd.length];exact bk _⟩
theorem Td{o:a5}(b:j g=Z (.dw o<|.lst x))(hd:bt j D x):n8 (rx U g) j [] D where
 go:=λS C q h r a=>by
  let⟨@u,c,d⟩:=hd.get a;have ah:dm U S g x:=.inl (.inr ⟨o,C.dw _ _ _ b⟩);refine⟨⟨x,u,ah,c⟩,λe k ⟨f,i⟩=>?_⟩;subst f;rw[i x ah]at c;cases c;exact⟨cN.refl _,d.mono C.tup⟩
 stop:=λS C q=>⟨x,.inl<|.inr ⟨o,C.dw _ _ _ b⟩,by rw[<-hd.length];exact bk _⟩
theorem OM(b:j g=Z (.tup x))(hd:bt j D x):n8 (u4 U g) j [] D where
 go:=λS C q h r a=>by
  let⟨@u,c,d⟩:=hd.get a;have ah:=da.of (U:=U) (C.tup g _ b);refine⟨⟨x,u,ah,c⟩,λe k ⟨f,i⟩=>?_⟩;subst f;rw[i x ah]at c;cases c;exact⟨cN.refl _,d.mono C.tup⟩
 stop:=λS C q=>⟨x,da.of<|C.tup g _ b,by rw[<-hd.length];exact bk _⟩
abbrev jW:=aC (List X×Option (Nat×ak))
@[simp] def kb(r:ak):Option (List X):=match r with
 |.im (.tup D)=>Z D
 |.lst D=>Z D
 |.eo D=>Z D
 |_=>V
@[simp] def cL(O:aC bo):jW:=λw=>(O w).bind λn=>match n.1 with
 |.bY r=>(kb r).map λD=>((D,V),n.2)
 |.aR h=>(dQ h n.2).bind λs=>(kb s.1).map λD=>((D,if s.1.c1=aa then V else Z (h,s.1)),s.2)
def CK(H:b_ j r u Xz)(a:kb r=Z D):
  ∃g,u=.ref g/\(((∃x,dm U j g x)/\n8 (rx U g) j Xz D)\/((∃x,da U j g x)/\n8 (u4 U g) j Xz D)):=by
 unfold kb at a;split at a
 ·cases a;let@⟨⟨g,@x,rfl,l,t⟩,rfl⟩:=H;exact⟨g,rfl,.inr ⟨⟨x,da.of l⟩,OM l t⟩⟩
 ·cases a;let⟨g,@x,rfl,l,t,rfl⟩:=H;exact⟨g,rfl,.inl ⟨⟨x,dm.of l⟩,O9 l t⟩⟩
 ·cases a;let⟨g,x,@o,rfl,l,t,rfl⟩:=H;exact⟨g,rfl,.inl ⟨⟨x,.inl<|.inr ⟨o,l⟩⟩,Td l t⟩⟩
 ·cases a
def eV{O:aC bo}(b:du c J O):p1 c Yi J (cL O):=by
 refine Fd (TA b) λB j G z=>?_;let⟨w,N,p,@X0,R,ae,A,s⟩:=z;let⟨@⟨e,XD⟩,l,t⟩:=bg.mp A;refine⟨w,N,e,XD,R,ae,l,λu XE XT Xz k a f=>?_⟩;cases e with
 |bY r=>
  let⟨@D,m,n⟩:=b5.mp t;cases n;let⟨@g,rfl,o⟩:=CK (U:=c.K) a m;refine⟨g,rfl,?_⟩;rcases o with ⟨d,aP⟩|⟨d,aP⟩
  ·exact .inl ⟨d,s _ XE XT Xz k aP trivial (b_.chg a) f⟩
  ·exact .inr ⟨d,s _ XE XT Xz k aP trivial (b_.chg a) f⟩
 |aR h=>
  let⟨@⟨r,X_⟩,m,n⟩:=bg.mp t;let⟨@D,C,E⟩:=b5.mp n;cases E;let⟨H,X4,@bJ,q,i,v,F⟩:=FE k m;let@⟨a,rfl⟩:=a;rw[a]at q;cases q;rw[bO]at f;have x:=f.jn F.symm;let⟨@g,rfl,o⟩:=CK (U:=c.K) i C;have y:sM XE B bJ (if r.c1=aa then V else Z (h,r)):=by
   split
   ·trivial
   ·exact⟨_,a,i⟩
  refine⟨g,rfl,?_⟩;rcases o with ⟨d,aP⟩|⟨d,aP⟩
  ·exact .inl ⟨d,s _ XE X4 bJ v aP y i.chg x⟩
  ·exact .inr ⟨d,s _ XE X4 bJ v aP y i.chg x⟩
def mN{O:aC ak}:∀w p X0,cL (ab O) w=Z (p,X0)->n_ Yw p.2:=by
 intro w p X0 b;let⟨@⟨e,XD⟩,l,t⟩:=bg.mp b;unfold ab at l;let⟨@n,d,a⟩:=b5.mp l;cases a;let⟨@D,f,c⟩:=b5.mp t;cases c
 trivial
variable{h:Nat}
def qC(XG:h∈Yw):∀w p X0,cL (aj h) w=Z (p,X0)->n_ Yw p.2:=by
 intro w p X0 b;let⟨@⟨e,XD⟩,l,t⟩:=bg.mp b;unfold aj at l;split at l
 ·cases l;let⟨@⟨r,X_⟩,d,a⟩:=bg.mp t;let⟨@D,f,c⟩:=b5.mp a;cases c;show n_ Yw (if r.c1=aa then V else Z (h,r));split
  ·trivial
  ·exact XG
 ·cases l
def hh(XB:Int)(v:Nat):List X:=((range v).map λ(q:Nat)=>X.int (XB+(q:Int)))
theorem O8{XB:Int}:n8 (vv XB v) j [] (hh XB v) where
 go:=λS C q h r a=>by
  have XG:h<v:=by
   have:=(e7.mp a).1
   rwa [hh,a6,j2]at this
  refine⟨XG,λe d ⟨b,c⟩=>?_⟩;subst b;rw[hh,ef,List.getElem?_range XG]at a;cases a;exact⟨cN.refl _,c⟩
 stop:=λS C q=>by
  show v<=_;rw[hh,a6,j2];exact bk _
def rv(h:Int):Prop :=( -1000000<=h/\h<=1000000)
noncomputable instance (h:Int):Decidable (rv h):=inferInstanceAs (Decidable<|_/\_)
@[simp] def jO(O:aC (List bo)):jW:=λw=>(O w).bind λn=>(hq n.2 n.1).bind λD=>match D with
 |[.im (.int k)]=>if rv k then Z ((hh 0 k.toNat,V),n.2) else V
 |_=>V
def zz{r:X}(b:mx j [.im r] Q):∃u,Q=[u]/\b8 j r u:=by
 let⟨u,@p,rfl,⟨@Xz,l,Y⟩,t⟩:=b;cases (show p=[] from t);exact⟨u,rfl,l⟩
def CM{r a:X}(b:mx j [.im r,.im a] Q):∃u I,Q=[u,I]/\b8 j r u/\b8 j a I:=by
 let⟨u,@p,rfl,⟨@Xz,l,Y⟩,t⟩:=b;let⟨@I,rfl,c⟩:=zz t;exact⟨u,I,rfl,l,c⟩
def r6{g:aY}{n:b9}(h:fc c "range")(i:c.aJ "range" = V)(d:f6 c [g] O)(XO:bD [g] c.env=[(aA,bP g c.env)]:=by rfl):p1 c Yi (.Call (.Name "range" n) [g] [] XP) (jO O):=by
 refine Fd (Oq h i d XO) λB j y m=>?_;let⟨w,N,p,@X0,R,ae,o,s⟩:=m;let⟨@⟨XU,XD⟩,l,t⟩:=bg.mp o;let⟨@D,q,b⟩:=bg.mp t;refine⟨w,N,XU,XD,R,ae,l,λQ XE XT z e r v=>?_⟩;have x:=r.read e q;split at b
 ·rename_i k;split at b
  ·rename_i f;cases b;let⟨@u,rfl,a⟩:=zz x;cases (show u=.int k from a);exact⟨k,rfl,by have:=f.1;lia,by have:=f.2;lia,s _ XE XT [] e O8 trivial (λg d=>nomatch d) (by rw[bO];exact v.less (List.Perm.refl _))⟩
  ·cases b
 ·cases b
def rp:∀w p X0,jO O w=Z (p,X0)->n_ Yw p.2:=by
 intro w p X0 b;let⟨@⟨XU,XD⟩,l,t⟩:=bg.mp b;let⟨@D,c,a⟩:=bg.mp t;split at a
 ·split at a
  ·cases a;trivial
  ·cases a
 ·cases a
def AJ(c:aI)(YW:List aY)(O:aC Bool):Prop:=(∀ ⦃n⦄,F8 c YW (jg O) n)
def gW:aC Bool:=(λw=>Z (aa,w))
def Ph:AJ c [] gW:=by
 intro G m B j y z a;let⟨w,N,d,@X0,R,ae,b,s⟩:=a;cases b;exact Nz G m B j y z (s j N R<|a8.perm ae<|List.Perm.refl _)
def n5{O:aC Bool}(b:iw c f O):AJ c [f] O:=Q2 b
@[simp] def kD(Yh:List Nat)(w:aQ):aQ:=Yh.map λh=>w.getD h V
def ky:List Nat->aQ->aQ
 |[],w=>w
 |h::p,w=>ky p (match w[h]? with|some (Z _)=>w.set h (Z .c8)|_=>w)
@[simp] def iV:List Nat->aQ->aQ->aQ
 |h::p,o::aL,w=>iV p aL (w.set h o)
 |_,_,w=>w
def gv(own:Nat)(Yi:fG)(f:aC Bool)(a:aC ak): List X -> List X -> aQ -> Option (List X × aQ)
  |[],b,aL => Z (b,aL)
  |e :: p,b,aL => (Yi (.im e)<|List.replicate own V ++ aL).bind λXD => (f XD).bind λn => if n.1=aa then (a n.2).bind λs => match s.1 with
      |.im r => if b.length<100000 then gv own Yi f a p (b ++ [r]) (s.2.drop own) else V
      |_ => V
    else gv own Yi f a p b (n.2.drop own)
@[simp] def d2(own:Nat)(Yh:List Nat)(z:jW)(Yi:fG)(f:aC Bool)(a:aC ak):aC ak:=λw=>(z w).bind λn=>(gv own Yi f a n.1.1 []<|kD Yh n.2).map λs=>(.lst s.1,jD n.1.2<|iV Yh s.2 n.2)
def qH(own v:Nat):List Nat:=((range v).map (·+own))
def Lx(b:w[h]?=Z o):w.getD h V=o:=by rw[cY,b];rfl
def bq.void(R:bq j w B N)(h:Nat):∃XT X4,bq j (match w[h]? with|some (Z _)=>w.set h (Z .c8)|_=>w) B XT/\nq j (w.getD h V) (B.getD h V) X4/\(XT++X4).Perm N:=by
 split
 ·rename_i r hd;let⟨u,XT,@X4,l,t,b,c⟩:=R.out hd;refine⟨X4,XT,b,?_,c⟩;rw[Lx hd,cY,l];exact⟨u,rfl,t⟩
 ·rename_i d;refine⟨N,[],R,?_,by rw[bO]⟩;have:w.getD h V=V:=by
   rw[cY];cases a:w[h]? with
   |none=>rfl
   |some o=>
    cases o with
    |none=>rfl
    |some r=>exact absurd a (d r)
  rw[this];exact rfl
theorem Iu{j:ax}{B:aZ}:∀{Yh:List Nat}{w:aQ}{N:List aq},Yh.Nodup->bq j w B N->∃XT X4,bq j (ky Yh w) B XT/\bq j (kD Yh w) (Yh.map λh=>B.getD h V) X4/\(XT++X4).Perm N
 |[],w,N,_,R=>⟨N,[],R,⟨rfl,rfl⟩,by rw[bO]⟩
 |h::p,w,N,ae,R=>by
  let⟨XT,@X4,l,t,e⟩:=R.void h;have b:=df.mp ae;let⟨f,@c,g,d,i⟩:=Iu (Yh:=p) b.2 l;refine⟨f,X4++c,g,⟨_,_,X4,c,rfl,t,?_,rfl⟩,ka.trans<|(eT _ i).trans<|d3.trans e⟩;have a:kD p (match w[h]? with|some (Z _)=>w.set h (Z .c8)|_=>w)=kD p w:=by
   unfold kD;refine hx λk m=>?_;split
   ·rw[cY,cY,nt];rintro rfl;exact b.1 m
   ·rfl
  rw[a]at d;exact d
def bq.VX(R:bq j w B N)(b:nq j o (B.getD h V) XH):∃XT X4,bq j (w.set h o) B XT/\(XT++X4).Perm (N++XH):=by
 cases o with
 |some r=>
  let⟨@u,a,H⟩:=b;refine R.back H ?_;rw[cY]at a;cases s:B[h]? with
  |none=>rw[s]at a;cases a
  |some e=>rw[s]at a;rw[show e=Z u from a]
 |none=>
  cases (show XH=[] from b);rw[bO];by_cases XG:h<w.length
  ·cases s:w[h]? with
   |none=>exact absurd (List.getElem?_eq_none_iff.mp s) ⋯
   |some e=>
    cases e with
    |none=>
     refine⟨N,[],?_,by rw[bO]⟩;have:w.set h V=w:=by
      refine wG λk=>?_;by_cases a:h=k
      ·subst a;rw[s,uj XG]
      ·rw[nt a]
     rw[this];exact R
    |some r=>
     let⟨u,XT,@X4,l,t,m,n⟩:=R.out s;have gen:∀{w:aQ}{B:aZ}{N:List aq}{h:Nat},bq j w B N->∃XT X4,bq j (w.set h V) B XT/\(XT++X4).Perm N:=by
      intro w;induction w with
      |nil=>intro B N h R;exact⟨N,[],by simpa using R,by rw[bO]⟩
      |cons o w d=>
       intro B N h R;let⟨e,p,L,@Ya,rfl,f,c,rfl⟩:=R;cases h with
       |zero=>exact⟨Ya,L,⟨e,p,[],Ya,rfl,rfl,c,rfl⟩,d3⟩
       |succ h=>
        let⟨aL,@XA,g,i⟩:=d (h:=h) c;refine⟨L++aL,XA,⟨e,p,L,aL,rfl,f,g,rfl⟩,?_⟩;rw[bI];exact eT _ i
     exact gen R
  ·refine⟨N,[],?_,by rw[bO]⟩;rw[List.set_eq_of_length_le ⋯];exact R
theorem Ki{j:ax}{B:aZ}:∀{Yh:List Nat}{aL w:aQ}{N XH:List aq},bq j w B N->bq j aL (Yh.map λh=>B.getD h V) XH->∃XT X4,bq j (iV Yh aL w) B XT/\(XT++X4).Perm (N++XH)
 |[],aL,w,N,XH,R,_=>⟨N,XH,by cases aL<;>exact R,List.Perm.refl _⟩
 |h::p,[],w,N,XH,R,b=>⟨N,XH,R,List.Perm.refl _⟩
 |h::p,o::aL,w,N,XH,R,b=>by
  let⟨e,C,i,@k,a,l,t,rfl⟩:=b;cases a;let⟨XT,@L,c,d⟩:=R.VX l;let⟨X4,@Ya,f,g⟩:=Ki (Yh:=p) (aL:=aL) c t;refine⟨X4,Ya++L,f,?_⟩;rw[<-bI,<-bI];refine (fN L g).trans ?_;rw[bI];refine (eT XT d3).trans ?_;rw[<-bI];exact fN _ d
def SG:∀{Yh:List Nat}{aL w:aQ},Yh.length=aL.length->Yh.Nodup->iV Yh aL (ky Yh w)=iV Yh aL w:=by
 have m:∀{p:List Nat}{aL w:aQ}{h:Nat}{o:Option ak},h∉p->iV p aL (w.set h o)=(iV p aL w).set h o:=by
  intro p;induction p with
  |nil=>intro aL w h o Y;cases aL<;>rfl
  |cons k p c=>
   intro aL w h o b;cases aL with
   |nil=>rfl
   |cons f aL=>
    have e:h≠k:=λa=>b (by rw[a];exact .head _);show iV p aL ((w.set h o).set k f)=(iV p aL<|w.set k f).set h o;rw[x3 _ _ e,c λi=>b<|.tail _ i]
 have g:∀{p:List Nat}{w:aQ}{h:Nat}{o:Option ak},h∉p->ky p (w.set h o)=(ky p w).set h o:=by
  intro p;induction p with
  |nil=>intro w h o Y;rfl
  |cons k p c=>
   intro w h o b;have e:h≠k:=λa=>b (by rw[a];exact .head _);show ky p (match (w.set h o)[k]? with|some (Z _)=>(w.set h o).set k (Z .c8)|_=>w.set h o)=(ky p (match w[k]? with|some (Z _)=>w.set k (Z .c8)|_=>w)).set h o;rw[nt e];cases w[k]? with
   |none=>exact c λi=>b (.tail _ i)
   |some s=>
    cases s with
    |none=>exact c λi=>b (.tail _ i)
    |some r=>
     show ky p ((w.set h o).set k<|Z .c8)=_;rw[x3 _ _ e];exact c λi=>b (.tail _ i)
 intro Yh;induction Yh with
 |nil=>intro aL w Y Y;cases aL<;>rfl
 |cons h p c=>
  intro aL w j ae;have d:=df.mp ae;cases aL with
  |nil=>cases j
  |cons f aL=>
   have l:p.length=aL.length:=by simpa using j
   show iV p aL ((ky p (match w[h]? with|some (Z _)=>w.set h (Z .c8)|_=>w)).set h f)=iV p aL (w.set h f);split
   ·rw[g d.1,tn,<-g d.1,c l d.2]
   ·rw[<-g d.1,c l d.2]
theorem KI{j:ax}{w:aQ}{p:aZ}{N:List aq}(b:bq j w p N):∀{own:List aD},bq j (List.replicate own.length V++w) (own.map (λ_=>V)++p) N
 |[]=>b
 |e::own=>⟨V,_,[],N,rfl,rfl,KI b (own:=own),rfl⟩
theorem x7{j:ax}:∀{v:Nat}{w:aQ}{B:aZ}{N:List aq},bq j w B N->∃XT X4,bq j (w.drop v) (B.drop v) XT/\(XT++X4).Perm N
 |0,w,B,N,b=>⟨N,[],b,by rw[bO]⟩
 |v+1,[],B,N,b=>by
  cases b.1;exact⟨[],N,⟨rfl,rfl⟩,List.Perm.refl _⟩
 |v+1,o::w,B,N,b=>by
  let⟨e,p,L,@Ya,rfl,l,t,rfl⟩:=b;let⟨XT,@X4,a,c⟩:=x7 (v:=v) t;exact⟨XT,X4++L,a,by rw[<-bI];exact (fN L c).trans d3⟩
def a8.both(g:a8 j N XE (XT++Xz)):a8 j N XE XT:=g.less (List.Perm.refl _)
theorem bt.snoc:∀{D:List X}{Q:List ai}{r:X}{u:ai},bt j D Q->b8 j r u->bt j (D++[r]) (Q++[u])
 |[],Q,r,u,b,H=>by cases (show Q=[] from b);exact⟨u,[],rfl,H,rfl⟩
 |a::D,Q,r,u,b,H=>by
  let⟨I,@p,rfl,l,t⟩:=b;exact⟨I,p++[u],rfl,l,t.snoc H⟩
variable{z:jW}
def vC(ae:Yh.Nodup)(b:ml (d2 own.length Yh z A YV Za) B j y):
  xM own Yh (yH z) (λ_=>zW (qH own.length Yh.length) A) (λ_=>jg YV) (λ_=>ml Za) B j y:=by
 let⟨w,N,p,@X0,R,f1,f2,s⟩:=b;let⟨@⟨⟨x,o⟩,XD⟩,l,t⟩:=bg.mp f2;let⟨@⟨D,bv⟩,f4,f8⟩:=b5.mp t;cases f8;refine⟨w,N,(x,o),XD,R,f1,l,λYB XE XT Xz ga aP ge gl gt lm=>?_⟩;let⟨U,@J,ca,T,X5⟩:=Iu ae ga;have cd:a8 j N XE (J++(U++Xz)):=gt.jn (by
  refine (fN Xz X5.symm).trans ?_;rw[bI];exact ka)
 have ce:=cH.mp cd.ae;have g1:∀e∈U++Xz,fu XE e:=λe G=>by
  rcases dM.mp G with G|G
  ·exact ca.chg e G
  ·exact gl e G
 have al:∀{XS:ax}{X4:List aq},a8 XE J XS X4->∀g∈U++Xz,∀I,XE g=Z I->XS g=Z I:=λm g c I a=>m.keep g I a λb=>ce.2.2 g b g c rfl;refine⟨λh E XW S=>E+h=x.length/\∃q aL H,bq S aL (Yh.map λh=>B.getD h V) H/\aL.length=Yh.length/\a8 XE J S H/\bt S q XW/\gv own.length A YV Za (x.drop h) q aL=Z (D,bv),
  ⟨x.length,rfl,[],kD Yh XD,J,T,by rw[kD,a6],a8.perm ce.1<|List.Perm.refl _,rfl,f4⟩,?_⟩;rintro h E XW S ⟨am,q,aL,H,ch,g2,XM,ci,an⟩;by_cases cl:h<x.length
 ·let@⟨g3,hd⟩:=aP.go S XM.tup (λg c=>al XM g<|dH _ c) h x[h] (by simp[cl]);rw[mS cl,gv]at an;let⟨@Yz,cc,he⟩:=bg.mp an;let⟨@⟨d,a1⟩,hf,O⟩:=bg.mp he;refine .inr ⟨g3,λco XS=>(E-1)+(h+1)=x.length/\∃q aL H,bq XS aL (Yh.map λh=>B.getD h V) H/\aL.length=Yh.length/\a8 XE J XS H/\bt XS q co/\gv own.length A YV Za (x.drop<|h+1) q aL=Z (D,bv),λco XS b=>⟨E-1,⋯,b⟩,λe XS G=>?_⟩;let@⟨C,hm⟩:=hd e XS G;have hw:=ch.mono C.tupS λg Y o a=>C g o a;have cr:=XM.same C;have ap:=ci.mono C.tupS.tup;refine⟨List.replicate own.length V++aL,H,.im x[h],[],Yz,KI hw,⟨hm,rfl⟩,by rw[bO];exact cr.ae,cc,λa2 h0 cs as db bd=>⟨λk u f=>?_,?_⟩⟩
  ·
   have ln:own.length<=k:=by
    by_cases ii:k<own.length
    ·rw[jF,n3 ⇑ii,ef]at f;cases a:own[k]? with
     |none=>rw[a]at f;cases f
     |some i=>rw[a]at f;cases f
    ·lia
   have ls:k<own.length+Yh.length:=by
    have:=(e7.mp f).1
    rwa [jF,cC,a6,a6]at this
   have am:k∈qH own.length Yh.length:=cX.mpr ⟨k-own.length,gJ.mpr ⋯,⋯⟩;exact (as.2 k am).trans f
  ·have ds:a8 XE J h0 cs:=cr.seq (by rw[bO]at bd;exact bd);have ap:=ap.mono bd.tup.tup;have dL:a2.drop own.length=Yh.map λh=>B.getD h V:=by
    have lv:=db.len;refine wG λk=>?_;by_cases f:k<Yh.length
    ·have am:k+own.length∈qH own.length Yh.length:=cX.mpr ⟨k,gJ.mpr f,rfl⟩;have:=as.2 _ am;rw[List.getElem?_drop,pD,this,jF,kZ ↥0,a6,Nat.add_sub_cancel]
    ·have lw:a2.length<=own.length+Yh.length:=by
      rw[as.1,jF,cC,a6,a6];exact bk _
     rw[s6 (by rw[m1];lia),s6 (by rw[a6];lia)]
   have eq:a2.length=own.length+Yh.length:=by rw[as.1,jF,cC,a6,a6]
   refine⟨Yz,cs,d,a1,db,ds.ae,hf,λmb be L bi=>?_⟩;have P:=ds.seq bi;dsimp only at O ⊢;cases d with
   |false=>
    rw[if_neg cB]at O ⊢;let⟨Q,@ev,F,bm⟩:=x7 (v:=own.length) L;rw[dL]at F;exact⟨⋯,q,a1.drop own.length,Q,F,by rw[m1,L.len,eq];lia,P.less bm,ap.mono bi.tup.tup,O⟩
   |true=>
    rw[aF rfl]at O ⊢;let⟨@⟨u,ex⟩,io,M⟩:=bg.mp O;dsimp only at M;split at M
    ·rename_i r;split at M
     ·rename_i mo;refine⟨a1,be,.im r,ex,L,P.ae,io,λI ms Q m0 F X7 bn=>?_⟩;let@⟨it,rfl⟩:=X7;rw[bO]at bn;have fd:=(ap.mono bi.tup.tup).mono bn.tup.tup;refine⟨uK (show XW.length<=100000 by rw[<-fd.length];lia) ∅,?_⟩;let⟨jp,@na,fn,kt⟩:=x7 (v:=own.length) F;rw[dL]at fn;exact⟨⋯,q++[r],ex.drop own.length,jp,fn,by rw[m1,F.len,eq];lia,(P.seq bn).less kt,fd.snoc it,M⟩
     ·cases M
    ·cases M
 ·have XG:h=x.length:=⋯
  subst XG;refine .inl ⟨aP.stop S XM.tup<|λg c=>al XM g<|dH _ c,λbs fr=>?_⟩;rw[ny (bk _),gv]at an;cases an;have kv:bq S (ky Yh XD) B U:=ca.mono XM.tup λg c=>al XM g (d6 _ c);let⟨be,@f0,L,kw⟩:=Ki kv ch;rw[SG (by rw[g2]) ae]at L;have lc:sM S B Xz o:=by
   cases o with
   |none=>trivial
   |some n=>
    let⟨h,r⟩:=n;let⟨@u,lf,li⟩:=ge;exact⟨u,lf,li.mono XM.tup λg c=>al XM g<|dH _ c⟩
  let⟨Q,@ev,F,bm⟩:=yy (Xz:=Xz) L lc;have C:cN S (upd S bs<|.lst XW):=(cN.refl S).upd fr;have P:a8 j N S Q:=(cd.trans XM g1).less (aL:=ev++f0) (by
   rw[<-bI];refine (fN f0 bm).trans ?_;rw[bI];refine (eT be d3).trans ?_;rw[<-bI];refine (fN Xz kw).trans ?_;rw[bI];exact ka)
  exact s _ _ Q [bs] (F.mono C.tupS λg Y o a=>C g o a) ⟨bs,XW,rfl,dx,ci.mono C.tupS.tup,rfl⟩ (P.add fr F.chg)
def md{Y1:aY}{YW:List aY}{X2:hn}(d:c.calm=aa)(XC:jb c X2 own Yh)(ae:Yh.Nodup)(XG:p1 c Yi YO z)(f:∀a,hJ (c.hL (hI c own Yh) X2 a) (qH own.length Yh.length) Yi A)(bV:∀a,AJ (c.hL (hI c own Yh) X2 a) YW YV)(g:∀a,bZ (c.hL (hI c own Yh) X2 a) Y1 Za)(XO:∀e,p3 YO c.env e=pure e:=by intro Y;rfl):bZ c (.ListComp Y1 [⟨Yi,YO,YW,0⟩] X2 XP) (d2 own.length Yh z A YV Za):=
 dR (PM d XC XG f bV g XO) λB j y b=>vC ae b
end
@[simp] def jl(Ye:List Nat):List ak->aQ->Nat->List ak
 |r::D,o::w,k=>(if r.c1=aa then r else if k∈Ye then o.getD .c8 else .c8)::jl Ye D w (k+1)
 |r::D,[],k=>(if r.c1=aa then r else .c8)::jl Ye D [] (k+1)
 |[],_,_=>[]
@[simp] def dp(v E:Nat)(Ye:List Nat)(O:bx):cW:=λD=>if D.length=v then match O (D.map Z++List.replicate (E-v) V) with
 |some (.eO p,w)=>Z (p,jl Ye D w 0)
 |some (.bA,w)=>Z (.im .aK,jl Ye D w 0)
 |_=>V else V
theorem BQ{j:ax}:∀{D:List ak}{Q:List ai}{N:List aq}{E:Nat},dj j D Q N->bq j (D.map Z++List.replicate E V) (Q.map Z++List.replicate E V) N
 |[],Q,N,E,b=>by
  let@⟨rfl,rfl⟩:=b;show bq j (List.replicate E V) (List.replicate E V) [];induction E with
  |zero=>exact⟨rfl,rfl⟩
  |succ E a=>exact⟨V,_,[],[],rfl,rfl,a,rfl⟩
 |r::D,Q,N,E,b=>by
  let⟨u,p,XT,@X4,rfl,l,t,rfl⟩:=b;exact⟨Z u,_,XT,X4,rfl,⟨u,rfl,l⟩,BQ t,rfl⟩
theorem A5{j S:ax}{Ye:List Nat}(C:eC j S):∀{D:List ak}{Q:List ai}{n:List aq}{w:aQ}{B:aZ}{N:List aq}{c:Nat},dj j D Q n->bq S w B N->(∀(k:Nat) (u:ai),(c+k)∈Ye->Q[k]?=Z u->B[k]?=Z (Z u))->
  ∃Xz XH,dj S (jl Ye D w c) Q Xz/\(Xz++XH).Perm N
 |[],Q,n,w,B,N,c,b,R,_=>⟨[],N,by unfold jl;exact⟨b.1,rfl⟩,List.Perm.refl _⟩
 |r::D,Q,n,[],B,N,c,b,R,q=>by
  let⟨u,p,L,@Ya,rfl,l,t,rfl⟩:=b;let@⟨rfl,rfl⟩:=R;let⟨Xz,@XH,d,f⟩:=A5 (w:=[]) (B:=[]) (N:=[]) (c:=c+1) C t ⟨rfl,rfl⟩ λk u s v=>by
   have:=q (k+1) u (by rw[show c+(k+1)=c+1+k by lia];exact s) ⇑v;simp at this
  rw[jl];refine⟨Xz,XH,⟨u,p,[],Xz,rfl,?_,d,rfl⟩,f⟩;split
  ·rename_i h;have:=l.mono C λg i=>by rw[l.c1 h]at i;cases i
   rw[l.c1 h]at this;exact this
  ·exact rfl
 |r::D,Q,n,o::w,B,N,c,b,R,q=>by
  let⟨u,p,L,@Ya,rfl,l,t,rfl⟩:=b;let⟨e,m,aL,@XA,rfl,y,z,rfl⟩:=R;let⟨Xz,@XH,d,f⟩:=A5 (w:=w) (B:=m) (c:=c+1) C t z λk u s v=>by
   have:=q (k+1) u (by rw[show c+(k+1)=c+1+k by lia];exact s) ⇑v;simpa using this
  rw[jl];split
  ·rename_i h;have x:=l.mono C λg i=>by rw[l.c1 h]at i;cases i
   rw[l.c1 h]at x;refine⟨Xz,XH++aL,⟨u,p,[],Xz,rfl,x,d,rfl⟩,?_⟩;rw[<-bI];exact (fN aL f).trans d3
  ·split
   ·rename_i A;have E:e=Z u:=by
     have:=q 0 u A rfl;simpa using this
    subst E;cases o with
    |none=>
     refine⟨Xz,XH++aL,⟨u,p,[],Xz,rfl,rfl,d,rfl⟩,?_⟩;rw[<-bI];exact (fN aL f).trans d3
    |some a=>
     let⟨@G,F,H⟩:=y;cases F;refine⟨aL++Xz,XH,⟨u,p,aL,Xz,rfl,H,d,rfl⟩,?_⟩;rw[bI];exact eT _ f
   ·refine⟨Xz,XH++aL,⟨u,p,[],Xz,rfl,rfl,d,rfl⟩,?_⟩;rw[<-bI];exact (fN aL f).trans d3
section
variable{XI:bB}{H:a9}{U:Φ}{aJ:aD->Option ag}{X9:aV}
def Ry{YI:aD}{F:aq}{Yg:List aD}{q:Nat}{O:bx}(N:gV U e YI R F fd)(XC:oJ Yg XF (d8 R))(w:XF.length=v)(I:∀h∈Ye,h<v)(x:∀(i:ag) (L:br) (Ys:List eQ) (m:au) (j:ax) (XA:gT),e0 q (L.deeper<|jm YI (d8 R) m.heap.objs.size F i)->jr (lC ih XI H U aJ X9 Yg YI (d8 R) F i L Ys m j XA).oq Ye (gI R) O):
  iH XI H U aJ X9 ih (q+1) F fd XF (kl v<|dp v Yg.length Ye O):=by
 refine N.ok XC (λQ j y XA b=>b.1.trans w.symm) (λi L Ys m j Q y XA z b=>⟨_,x i L Ys m j XA z,?_⟩);let@⟨l,⟨D,g,p,@A,X7,ae,c,s⟩⟩:=b;have B:D.length=v:=X7.length.trans l;unfold dp at c;rw[aF B]at c;have R:=BQ (E:=Yg.length-v) X7;have P:start Yg Q=Q.map Z++List.replicate (Yg.length-v) V:=by unfold start;rw[l]
 rw[P];have n:∀{d:aZ}{S:ax}{Yf:List aq}{X0:aQ}{u:ai}{Xz:List aq},jl Ye D X0 0=A->dv Ye (Q.map Z++List.replicate (Yg.length-v) V) d->bq S X0 d Yf->b_ S p u Xz->a8 j g S (Yf++Xz)->y u S:=λ{d S Yf X0 u Xz} C Yw f YY XM=>by
  let⟨bJ,@XH,o,G⟩:=A5 (Ye:=Ye) (c:=0) XM.tup X7 f λk u r t=>by
   rw[qD]at r;rw[Yw.2 k r,n3 (by rw[a6];exact (e7.mp t).1),ef,t];rfl
  rw[C]at o;refine s u S Xz bJ YY o (XM.less (aL:=XH) ?_);rw[bI];exact (eT Xz G).trans d3
 split at c
 ·rename_i Yr X0 a;cases c;exact⟨_,g,.eO p,X0,R,ae,a,λu d S Yf Xz Yw f YY XM=>n rfl Yw f YY XM⟩
 ·rename_i X0 a;cases c;exact⟨_,g,.bA,X0,R,ae,a,λd S Yf Yw f XM=>n rfl Yw f ⟨rfl,rfl⟩ (by rw[bO];exact XM)⟩
 ·cases c
end
def ck(j:ax)(r:ak)(y:cI):Prop:=(∀u S Xz,cN j S->b_ S r u Xz->Xz.Nodup->(∀g∈Xz,j g=V)->y u S)
def ck.CH{r:X}(s:ck j (.im r) y)(m:cN j S)(b:b8 S r u):y u S:=s u S [] m ⟨b,rfl⟩ gB (λg a=>nomatch a)
def ck.i{j:ax}{r:X}{y:cI}{u:ai}(s:ck j (.im r) y)(b:b8 j r u):y u j:=s.CH (cN.refl j) b
def ck.l(s:ck j (.lst D) y)(a:j n=V)(b:bt j D x):y (.ref n) (upd j n<|.lst x):=by
 have m:cN j (upd j n<|.lst x):=(cN.refl j).upd a;exact s _ _ [n] m ⟨n,x,rfl,dx,b.mono m.tupS.tup,rfl⟩ (es _ _) λg c=>by rw[cf.mp c];exact a
def ck.t{j:ax}{D:List X}{x:List ai}{y:cI}{n:aq}(s:ck j (.im<|.tup D) y)(a:j n=V)(b:bt j D x):y (.ref n) (upd j n<|.tup x):=by
 have m:cN j (upd j n<|.tup x):=(cN.refl j).upd a;exact s.CH m ⟨n,x,rfl,dx,b.mono m.tupS.tup⟩
section
variable{c:aI}
def dU.imp{F:ag->ag->eP ag}{p:bJ}(b:dU c F p)(h:∀e A j y,Yr e A j y->p e A j y):dU c F Yr:=λG m B j e A u I y z a d f=>b G m B j e A u I y z a d (h e A j y f)
def eK.imp{F:ag}{p Yr:List ai->ax->cI->Prop}(b:eK c F p)(h:∀x j y,Yr x j y->p x j y):eK c F Yr:=λG m B j x XZ y z a d=>b G m B j x XZ y z a (h x j y d)
def iU.imp{p:bJ}(b:iU c p)(h:∀e A j y,Yr e A j y->p e A j y):iU c Yr:=λa d G m B j e A u I y z f g i=>b a d G m B j e A u I y z f g (h e A j y i)
def fy.i{j:ax}{r:X}{u:ai}(b:fy j (.im r) u):b8 j r u:=b.elim λ_ H=>H.1
end
abbrev fp:=ak->ak->Option ak
@[simp] def hO(aL:Int->Int->Bool)(O:Int->Int->X):fp:=λg d=>match g,d with
 |.im (.int h),.im (.int k)=>if aL h k=aa then Z (.im<|O h k) else V
 |_,_=>V
def Cz{aL:Int->Int->Bool}{O:Int->Int->X}{g d:ak}(b:hO aL O g d=Z r):∃h k,g=.im (.int h)/\d=.im (.int k)/\aL h k=aa/\r=.im (O h k):=by
 unfold hO at b;split at b
 ·rename_i h k;split at b
  ·rename_i a;cases b;exact⟨h,k,rfl,rfl,a,rfl⟩
  ·cases b
 ·cases b
section
variable{c:aI}
variable{F:ag->ag->eP ag}{O:Int->Int->ai}{b:Int->Int->X}
def q2{aL:Int->Int->Prop}{Ya:Int->Int->Bool}(o:dU c F (oe aL O))(d:∀h k,Ya h k=aa->aL h k)(f:∀j h k,b8 j (b h k)<|O h k):e3 c F (hO Ya b):=
 o.imp λe A j y ⟨Ym,T,r,g,l,a,s⟩=>by
  let⟨h,@k,rfl,rfl,m,rfl⟩:=Cz a;exact⟨h,k,g.i,l.i,d h k m,ck.i s<|f j h k⟩
def pe(o:dU c F (kd O))(d:∀j h k,b8 j (b h k)<|O h k):e3 c F (hO (λ_ Y=>aa) b):=
 o.imp λe A j y ⟨Ym,T,r,f,g,a,s⟩=>by
  let⟨h,@k,rfl,rfl,l,rfl⟩:=Cz a;exact⟨h,k,f.i,g.i,ck.i s<|d j h k⟩
@[simp] def jd:fp:=hO (λ_ Y=>aa) λh k=>.int (h-k)
def nf(h k:Int):Bool:=(!(decide (bc.Int.intBits h>sW)&&decide (bc.Int.intBits k>sW)&&bc.Int.intTooBig (bc.Int.intBits h+bc.Int.intBits k)))
@[simp] def gc:fp:=hO nf λh k=>.int (h*k)
@[simp] def ll:fp:=hO (λ_ k=>decide (0<k/\k<1073741824)) λh k=>.int (h/k)
@[simp] def d_:fp:=hO (λ_ k=>decide (0<k)) λh k=>.int (h%k)
@[simp] def lX:fp:=hO (λh k=>decide (0<=k/\k<=1000000/\h.natAbs<2^64)) λh k=>.int (h^k.toNat)
@[simp] def ph:fp:=hO (λ_ Y=>aa) λh k=>.aH (decide (h<k))
@[simp] def g6:fp:=hO (λ_ Y=>aa) λh k=>.aH (decide (h<=k))
@[simp] def iB:fp:=hO (λ_ Y=>aa) λh k=>.aH (decide (k<h))
@[simp] def z9:fp:=hO (λ_ Y=>aa) λh k=>.aH (decide (k<=h))
def oM:e3 c (e5 .Sub) jd:=pe NR λ_ Y Y=>rfl
def jo:e3 c (e5 .Mult) gc:=q2 Qj (λh k b=>by unfold nf at b;unfold IntMulOk;rw[sl]at b;rw[b];exact cB) λ_ Y Y=>rfl
def xV:e3 c (e5 .FloorDiv) ll:=q2 QF (λh k b=>show 0<k/\k<1073741824 from e_ b) λ_ Y Y=>rfl
def h9:e3 c (e5 .Mod) d_:=q2 O3 (λh k b=>e_ b) λ_ Y Y=>rfl
def rf:e3 c (e5 .Pow) lX:=q2 U7 (λh k b=>show 0<=k/\k<=1000000/\h.natAbs<2^64 from e_ b) λ_ Y Y=>rfl
def zc:e3 c (eL .Lt) ph:=pe Ra λ_ Y Y=>rfl
def sg:e3 c (eL .LtE) g6:=pe Wu λ_ Y Y=>rfl
def n6:e3 c (eL .Gt) iB:=pe UP λ_ Y Y=>rfl
def Pd:e3 c (eL .GtE) z9:=pe Q0 λ_ Y Y=>rfl
def Sk:dU c (e5 .Add) (λe A j y=>∃g d XW,e=.ref g/\A=.ref d/\da c.K j g []/\da c.K j d XW/\y (.ref d) j):=by
 intro G m B j e A u I y z n o b;let⟨g,d,@XW,rfl,rfl,p,q,s⟩:=b;cases n;cases o;let⟨@XN,r,t,Y⟩:=z.tuple p;let⟨@D,E,YG,Y⟩:=z.tuple q;have a:XN=[]:=r.vy.mpr rfl;subst a;let⟨@⟨cls,w,data,aR⟩,f,h,⟨@v,hd⟩⟩:=id t;let⟨@⟨F,x,data2,C⟩,i,k,⟨@YN,l⟩⟩:=id YG;simp only at h hd k l;subst h hd k l;exact yW ⟨_,f,rfl⟩ ⟨_,i,rfl⟩ zi zQ y0 yL (yE _ _) (tuple_addW0 g d _ _ v YN w x aR C rfl) ⟨f,i,.ref d,j,z,rfl,s⟩
@[simp] def cj:fp:=λg d=>match g,d with
 |.im (.int h),.im (.int k)=>Z (.im<|.int<|h+k)
 |.im (.tup e),.im (.tup A)=>if e.length+A.length<=100000 then Z (.im<|.tup<|e++A) else V
 |.lst e,.lst A=>if e.length+A.length<=100000 then Z (.lst<|e++A) else V
 |.im (.str e),.im (.str A)=>if e.length+A.length<=100000 then Z (.im<|.str<|e++A) else V
 |_,_=>V
theorem bt.app:∀{g d:List X}{e A:List ai},bt j g e->bt j d A->bt j (g++d) (e++A)
 |[],d,e,A,b,q=>by cases (show e=[] from b);exact q
 |r::g,d,e,A,b,q=>by
  let⟨u,@p,rfl,l,t⟩:=b;exact⟨u,p++A,rfl,l,t.app q⟩
def bt.nil{j:ax}{g:List X}(b:bt j g []):g=[]:=by
 cases g with
 |nil=>rfl
 |cons r g=>let⟨Y,@Y,a,Y⟩:=b;cases a
def dX:e3 c (e5 .Add) cj:=by
 refine (Vn.or<|Sk.or<|LM.or<|NZ.or U0).imp λe A j y w=>?_;let⟨Ym,T,@r,m,o,a,s⟩:=w;unfold cj at a;split at a
 ·cases a;exact .inl ⟨_,_,m.i,o.i,ck.i s rfl⟩
 ·rename_i g d;split at a
  ·rename_i f;cases a;let⟨n,@x,rfl,l,t⟩:=m.i;let⟨c5,@XW,rfl,k,b⟩:=o.i;refine .inr ?_;by_cases q:x=[]
   ·subst q;cases t.nil;exact .inl ⟨n,c5,XW,rfl,rfl,da.of l,da.of k,ck.i s ⟨c5,XW,rfl,k,b⟩⟩
   ·refine .inr (.inl ⟨n,c5,x,XW,rfl,rfl,da.of l,da.of k,q,kN (by rw[<-t.length,<-b.length];exact f),λu=>?_,λu v p=>ck.t s p<|t.app b⟩);subst u;cases b.nil;rw[bO]at s;exact ck.i s ⟨n,x,rfl,l,t⟩
  ·cases a
 ·rename_i g d;split at a
  ·rename_i f;cases a;let⟨Y,n,@x,rfl,l,t,Y⟩:=m;let⟨Y,c5,@XW,rfl,k,b,Y⟩:=o;exact .inr (.inr (.inr (.inl ⟨n,c5,x,XW,rfl,rfl,l,k,kN (by rw[<-t.length,<-b.length];exact f),λv p=>ck.l s p<|t.app b⟩)))
  ·cases a
 ·rename_i g d;split at a
  ·rename_i f;cases a;exact .inr (.inr<|.inr<|.inr ⟨g,d,m.i,o.i,kN f,ck.i s rfl⟩)
  ·cases a
 ·cases a
def QV(v:Nat){L:br}{e A:X}{I u:ag}(n:X.bl v e=aa)(a4:X.bl v A=aa)(U:L.units+v+2<bj)(p:dh m.heap e I)(b:dh m.heap A u):SeqAt.RcAt L m I u (b1 e A):=by
 cases e with
 |aK=>
  cases (show I=.none from p);cases A with
  |aK=>cases (show u=.none from b);exact MI
  |aH d=>cases (show u=.bool d from b);exact S4 d
  |int k=>let⟨@C,rfl⟩:=b;exact Ro k C
  |str i=>let⟨@C,rfl⟩:=b;exact Sm i C
  |tup D=>let⟨g,o,X1,@E,rfl,l,t,j,Y⟩:=b;exact Qw ⟨o,l,t,E,j⟩ ⋯
  |fn g=>cases v<;>cases a4
  |aW g=>cases v<;>cases a4
  |fd=>cases v<;>cases a4
 |aH d=>
  cases (show I=.bool d from p);cases A with
  |aK=>cases (show u=.none from b);exact SS d
  |aH f=>cases (show u=.bool f from b);exact Nk d f
  |int k=>let⟨@C,rfl⟩:=b;exact Q5 d k C
  |str i=>let⟨@C,rfl⟩:=b;exact QE d i C
  |tup D=>let⟨g,o,X1,@E,rfl,l,t,j,Y⟩:=b;exact Pz d ⟨o,l,t,E,j⟩ ⋯
  |fn g=>cases v<;>cases a4
  |aW g=>cases v<;>cases a4
  |fd=>cases v<;>cases a4
 |int h=>
  let⟨@c,rfl⟩:=p;cases A with
  |aK=>cases (show u=.none from b);exact Ln h c
  |aH f=>cases (show u=.bool f from b);exact Q3 h c f
  |int k=>let⟨@C,rfl⟩:=b;exact OL h c k C
  |str i=>let⟨@C,rfl⟩:=b;exact Qz h c i C
  |tup D=>let⟨g,o,X1,@E,rfl,l,t,j,Y⟩:=b;exact MG h c ⟨o,l,t,E,j⟩ ⋯
  |fn g=>cases v<;>cases a4
  |aW g=>cases v<;>cases a4
  |fd=>cases v<;>cases a4
 |str h=>
  let⟨@c,rfl⟩:=p;cases A with
  |aK=>cases (show u=.none from b);exact V4 h c
  |aH f=>cases (show u=.bool f from b);exact Rm h c f
  |int k=>let⟨@C,rfl⟩:=b;exact Nl h c k C
  |str i=>let⟨@C,rfl⟩:=b;exact NH h c i C
  |tup D=>let⟨g,o,X1,@E,rfl,l,t,j,Y⟩:=b;exact Rk h c ⟨o,l,t,E,j⟩ ⋯
  |fn g=>cases v<;>cases a4
  |aW g=>cases v<;>cases a4
  |fd=>cases v<;>cases a4
 |fn g=>cases v<;>cases n
 |aW g=>cases v<;>cases n
 |fd=>cases v<;>cases n
 |tup D=>
  cases v with
  |zero=>cases n
  |succ v=>
  let⟨g,o,X1,@E,rfl,l,t,j,r⟩:=p;have Yx:m.heap.IsTuple g X1:=⟨o,l,t,E,j⟩;cases A with
  |aK=>cases (show u=.none from b);exact VS Yx ⋯
  |aH f=>cases (show u=.bool f from b);exact Qq f Yx ⋯
  |int k=>let⟨@C,rfl⟩:=b;exact Vy k C Yx ⋯
  |str i=>let⟨@C,rfl⟩:=b;exact VR i C Yx ⋯
  |fn g=>cases a4
  |aW g=>cases a4
  |fd=>cases a4
  |tup P=>
   let⟨d,Yy,q,@F,rfl,G,H,J,w⟩:=b;have Yd:m.heap.IsTuple d q:=⟨Yy,G,H,F,J⟩;have x:=r.length;have y:=w.length;have M:X1.toList.length=X1.size:=by simp
   have N:q.toList.length=q.size:=by simp
   rw[M]at x;rw[N]at y;have s:=Dr (A:=L) (e:=λk=>b1 (D.getD k .aK)<|P.getD k .aK) Yx Yd ⋯ λk O Q=>by
    let⟨@Ym,z,R⟩:=r.get (k:=k) (u:=X1[k]) (by rw[eU];simp[O]);let⟨@T,B,S⟩:=w.get (k:=k) (u:=q[k]) (by rw[eU];simp[Q]);rw[cY,z,cY,B];exact hM v (jS n z) (jS a4 B) (by show L.units+1+v+1<bj;lia) R S
   rw[<-x,<-y,qQ (D:=D) (P:=P) (λk e A g d=>by rw[cY,g,cY,d];rfl)]at s;rw[b1];exact s
@[simp] def c_:fp:=λg d=>match g,d with
 |.im e,.im A=>if (X.bl 8 e&&X.bl 8 A)=aa then Z (.im<|.aH<|b1 e A) else V
 |.lst e,.lst A=>if (X.ct 8 e&&X.ct 8 A)=aa then Z (.im<|.aH<|fs e A) else V
 |_,_=>V
theorem xe:∀{e A:List X},e.length≠A.length->fs e A=aA
 |[],[],b=>absurd rfl b
 |[],_::_,_=>rfl
 |_::_,[],_=>rfl
 |g::e,d::A,b=>by
  rw[fs,xe (λa=>b (by rw[b6,b6,a])),Bo]
def qq{G:List (aq×a5)}(z:aG c G B j m){g:aq}{x:List ai}{D:List X}(l:j g=Z (.lst x))(t:bt j D x):∃XN:List ag,m.heap.IsList g XN.toArray/\dy m.heap D XN/\XN.length=D.length:=by
 let@⟨i,⟨XN,@v,b,a⟩⟩:=z.aU g _ l;have:=t.el z.aU b;exact⟨XN,⟨_,a,rfl,v,rfl⟩,this,this.length.symm⟩
def gp(as:c.A.units+20<bj):e3 c (eL .Eq) c_:=by
 intro G m B j e A u I y z v C R;let⟨Ym,T,@r,f,o,a,s⟩:=R;unfold c_ at a;split at a
 ·rename_i g d;split at a
  ·rename_i b;cases a;rw[cq]at b;exact QV 8 b.1 b.2 ⋯ (f.i.el z.aU v) (o.i.el z.aU C) c.prog c.w _ _ ⟨.aH _,j,z,rfl,ck.i s rfl⟩
  ·cases a
 ·rename_i g d;split at a
  ·rename_i b;cases a;rw[cq]at b;let⟨Y,n,@x,rfl,l,t,Y⟩:=f;let⟨Y,c5,@XW,rfl,S,U,Y⟩:=o;cases v;cases C;let⟨@al,E,am,q⟩:=qq z l t;let⟨@an,F,ap,YN⟩:=qq z S U;by_cases p:g.length=d.length
   ·have:=R5 (A:=c.A) (e:=λk=>b1 (g.getD k .aK)<|d.getD k .aK) E F (by rw[cK,cK,q,YN];exact p) ⋯ λk J M=>by
     let⟨@Ym,N,f⟩:=am.get (k:=k) (u:=al.toArray[k]) (by simp at J;simp[J]);let⟨@T,O,o⟩:=ap.get (k:=k) (u:=an.toArray[k]) (by simp at M;simp[M]);rw[cY,N,cY,O];exact hM 8 (jS b.1 N) (jS b.2 O) (by show c.A.units+1+8+1<bj;lia) f o
    refine this c.prog c.w _ _ ⟨.aH _,j,z,rfl,?_⟩;have Q:=qQ (D:=g) (P:=d) (a:=λk=>b1 (g.getD k .aK)<|d.getD k .aK) (λk e A g d=>by rw[cY,g,cY,d];rfl);rw[<-p,vQ,iu,sV]at Q;rw[cK,q,Q];exact ck.i s rfl
   ·refine RT (A:=c.A) E F (by rw[cK,cK,q,YN];simpa using p) ⋯ c.prog c.w _ _ ⟨.aH _,j,z,rfl,?_⟩;rw[xe p]at s;exact ck.i s rfl
  ·cases a
 ·cases a
end
section
variable{c:aI}
def TH(v:Nat){L:br}{e A:X}{I u:ag}(n:X.bl v e=aa)(a4:X.bl v A=aa)(U:L.units+v+2<bj)(p:dh m.heap e I)(b:dh m.heap A u):SeqAt.RcNeAt L m I u (!b1 e A):=by
 cases e with
 |aK=>
  cases (show I=.none from p);cases A with
  |aK=>cases (show u=.none from b);exact VE
  |aH d=>cases (show u=.bool d from b);exact UZ d
  |int k=>let⟨@C,rfl⟩:=b;exact LY k C
  |str i=>let⟨@C,rfl⟩:=b;exact Lj i C
  |tup D=>let⟨g,o,X1,@E,rfl,l,t,j,Y⟩:=b;exact M8 ⟨o,l,t,E,j⟩ ⋯
  |fn g=>cases v<;>cases a4
  |aW g=>cases v<;>cases a4
  |fd=>cases v<;>cases a4
 |aH d=>
  cases (show I=.bool d from p);cases A with
  |aK=>cases (show u=.none from b);exact Vv d
  |aH f=>cases (show u=.bool f from b);exact PK d f
  |int k=>let⟨@C,rfl⟩:=b;exact M0 d k C
  |str i=>let⟨@C,rfl⟩:=b;exact WK d i C
  |tup D=>let⟨g,o,X1,@E,rfl,l,t,j,Y⟩:=b;exact U9 d ⟨o,l,t,E,j⟩ ⋯
  |fn g=>cases v<;>cases a4
  |aW g=>cases v<;>cases a4
  |fd=>cases v<;>cases a4
 |int h=>
  let⟨@c,rfl⟩:=p;cases A with
  |aK=>cases (show u=.none from b);exact V1 h c
  |aH f=>cases (show u=.bool f from b);exact MF h c f
  |int k=>let⟨@C,rfl⟩:=b;exact Sp h c k C
  |str i=>let⟨@C,rfl⟩:=b;exact RK h c i C
  |tup D=>let⟨g,o,X1,@E,rfl,l,t,j,Y⟩:=b;exact Pq h c ⟨o,l,t,E,j⟩ ⋯
  |fn g=>cases v<;>cases a4
  |aW g=>cases v<;>cases a4
  |fd=>cases v<;>cases a4
 |str h=>
  let⟨@c,rfl⟩:=p;cases A with
  |aK=>cases (show u=.none from b);exact K1 h c
  |aH f=>cases (show u=.bool f from b);exact Ve h c f
  |int k=>let⟨@C,rfl⟩:=b;exact WM h c k C
  |str i=>let⟨@C,rfl⟩:=b;exact Mk h c i C
  |tup D=>let⟨g,o,X1,@E,rfl,l,t,j,Y⟩:=b;exact UT h c ⟨o,l,t,E,j⟩ ⋯
  |fn g=>cases v<;>cases a4
  |aW g=>cases v<;>cases a4
  |fd=>cases v<;>cases a4
 |fn g=>cases v<;>cases n
 |aW g=>cases v<;>cases n
 |fd=>cases v<;>cases n
 |tup D=>
  cases v with
  |zero=>cases n
  |succ v=>
  let⟨g,o,X1,@E,rfl,l,t,j,r⟩:=p;have Yx:m.heap.IsTuple g X1:=⟨o,l,t,E,j⟩;cases A with
  |aK=>cases (show u=.none from b);exact L1 Yx ⋯
  |aH f=>cases (show u=.bool f from b);exact Np f Yx ⋯
  |int k=>let⟨@C,rfl⟩:=b;exact Sw k C Yx ⋯
  |str i=>let⟨@C,rfl⟩:=b;exact Vt i C Yx ⋯
  |fn g=>cases a4
  |aW g=>cases a4
  |fd=>cases a4
  |tup P=>
   let⟨d,Yy,q,@F,rfl,G,H,J,w⟩:=b;have Yd:m.heap.IsTuple d q:=⟨Yy,G,H,F,J⟩;have x:=r.length;have y:=w.length;have M:X1.toList.length=X1.size:=by simp
   have N:q.toList.length=q.size:=by simp
   rw[M]at x;rw[N]at y;have s:=Wl (A:=L) (e:=λk=>b1 (D.getD k .aK)<|P.getD k .aK) Yx Yd ⋯ λk O Q=>by
    let⟨@Ym,z,R⟩:=r.get (k:=k) (u:=X1[k]) (by rw[eU];simp[O]);let⟨@T,B,S⟩:=w.get (k:=k) (u:=q[k]) (by rw[eU];simp[Q]);rw[cY,z,cY,B];exact hM v (jS n z) (jS a4 B) (by show L.units+1+v+1<bj;lia) R S
   rw[<-x,<-y,qQ (D:=D) (P:=P) (λk e A g d=>by rw[cY,g,cY,d];rfl)]at s;rw[b1];exact s
@[simp] def gd:fp:=λg d=>match g,d with
 |.im e,.im A=>if (X.bl 8 e&&X.bl 8 A)=aa then Z (.im<|.aH<|!b1 e A) else V
 |.lst e,.lst A=>if (X.ct 8 e&&X.ct 8 A)=aa then Z (.im<|.aH<|!fs e A) else V
 |_,_=>V
def lU(as:c.A.units+20<bj):e3 c (eL .NotEq) gd:=by
 intro G m B j e A u I y z v C R;let⟨Ym,T,@r,f,o,a,s⟩:=R;unfold gd at a;split at a
 ·rename_i g d;split at a
  ·rename_i b;cases a;rw[cq]at b;exact TH 8 b.1 b.2 ⋯ (f.i.el z.aU v) (o.i.el z.aU C) c.prog c.w _ _ ⟨.aH _,j,z,rfl,ck.i s rfl⟩
  ·cases a
 ·rename_i g d;split at a
  ·rename_i b;cases a;rw[cq]at b;let⟨Y,n,@x,rfl,l,t,Y⟩:=f;let⟨Y,c5,@XW,rfl,S,U,Y⟩:=o;cases v;cases C;let⟨@al,E,am,q⟩:=qq z l t;let⟨@an,F,ap,YN⟩:=qq z S U;by_cases p:g.length=d.length
   ·have:=V9 (A:=c.A) (e:=λk=>b1 (g.getD k .aK)<|d.getD k .aK) E F (by rw[cK,cK,q,YN];exact p) ⋯ λk J M=>by
     let⟨@Ym,N,f⟩:=am.get (k:=k) (u:=al.toArray[k]) (by simp at J;simp[J]);let⟨@T,O,o⟩:=ap.get (k:=k) (u:=an.toArray[k]) (by simp at M;simp[M]);rw[cY,N,cY,O];exact hM 8 (jS b.1 N) (jS b.2 O) (by show c.A.units+1+8+1<bj;lia) f o
    refine this c.prog c.w _ _ ⟨.aH _,j,z,rfl,?_⟩;have Q:=qQ (D:=g) (P:=d) (a:=λk=>b1 (g.getD k .aK)<|d.getD k .aK) (λk e A g d=>by rw[cY,g,cY,d];rfl);rw[<-p,vQ,iu,sV]at Q;rw[cK,q,Q];exact ck.i s rfl
   ·refine Mg (A:=c.A) E F (by rw[cK,cK,q,YN];simpa using p) ⋯ c.prog c.w _ _ ⟨.aH _,j,z,rfl,?_⟩;rw[xe p]at s;exact ck.i s rfl
  ·cases a
 ·cases a
def cF{X6:Type}[DecidableEq X6](Xy:List (X6×X))(q:X6):Option X:=((Xy.find? λn=>decide (n.1=q)).map (·.2))
theorem mr{X6:Type}[DecidableEq X6]{j:ax}{q:X6}:∀{Xy:List (X6×X)}{Yk:List (X6×ai)},dW j Xy Yk->(∀r,cF Xy q=Z r->∃u,f9 Yk q=Z u/\b8 j r u)/\(cF Xy q=V->f9 Yk q=V)
 |_,_,.nil=>⟨(λr a=>by cases a),(λ_=>rfl)⟩
 |_,_,@dB.cons _ _ _ n s _ _ b C=>by
  let@⟨l,t⟩:=mr (q:=q) C;by_cases a:n.1=q
  ·have c:s.1=q:=b.1.symm.trans a;refine⟨λr hd=>?_,λd=>?_⟩
   ·have:∀p,cF (n::p) q=Z n.2:=λp=>by simp[cF,fT,a]
    rw[this]at hd;cases hd;exact⟨s.2,uE c,b.2⟩
   ·have:∀p,cF (n::p) q=Z n.2:=λp=>by simp[cF,fT,a]
    rw[this]at d;cases d
  ·have c:¬ s.1=q:=λi=>a (b.1.trans i);have:∀p,cF (n::p) q=cF p q:=λp=>by simp[cF,fT,a]
   rw[this,vF c];exact⟨l,t⟩
@[simp] def bh:fp:=λg d=>match g,d with
 |.im (.tup D),.im (.int h)=>(ed D h).map .im
 |.lst D,.im (.int h)=>(ed D h).map .im
 |.eo D,.im (.int h)=>(ed D h).map .im
 |.aE Xy,.im (.tup q)=>if X.keys 7 q=aa then (cF Xy q).map .im else V
 |.cb Xy,.im (.int h)=>(cF Xy<|.inl h).map .im
 |.cb Xy,.im (.str h)=>(cF Xy<|.inr h).map .im
 |.dN Xy,.im (.tup q)=>if X.keys 7 q=aa then (cF Xy q).map .im else V
 |_,_=>V
def NB(b:c.A.units+20<bj):iU c (λe A j y=>∃g u,e=.ref g/\e2 j g A (Z u)/\y u j):=by
 intro Y2 l G m B j e A u I y z d f ⟨g,i,a,O,s⟩ XO;subst a;cases d;exact tail_any (B1 z O) JP.lookup (HJ b z O f λn o h k=>⟨i,j,h,k,s⟩) XO
def zC{h:Int}{r:X}(b:bt j D x)(a:ed D h=Z r):∃u,ed x h=Z u/\b8 j r u:=by
 unfold ed at a ⊢;rw[<-b.length];let⟨@k,c,d⟩:=bg.mp a;let⟨@u,e,f⟩:=b.get d;exact⟨u,by rw[c];exact e,f⟩
def D2(E:c.A.units+20<bj):iU c (λe A j y=>∃Ym T r,fy j Ym e/\fy j T A/\bh Ym T=Z r/\∀u S Xz,cN j S->b_ S r u Xz->Xz.Nodup->(∀g∈Xz,j g=V)->y u S):=by
 refine (Wr.or<|Sl.or<|NB E).imp λe A j y F=>?_;let⟨Ym,T,@r,v,w,a,s⟩:=F;unfold bh at a;split at a
 ·let⟨@YE,b,f⟩:=b5.mp a;cases f;let⟨n,@x,rfl,l,t⟩:=v.i;let⟨@u,m,p⟩:=zC t b;exact .inr (.inl ⟨n,x,_,u,rfl,w.i,da.of l,m,ck.i s p⟩)
 ·let⟨@YE,b,f⟩:=b5.mp a;cases f;let⟨Y,n,@x,rfl,l,t,Y⟩:=v;let⟨@u,m,p⟩:=zC t b;exact .inl ⟨n,x,_,u,rfl,w.i,dm.of l,m,ck.i s p⟩
 ·let⟨@YE,b,f⟩:=b5.mp a;cases f;let⟨Y,n,x,@o,rfl,l,t,Y⟩:=v;let⟨@u,m,p⟩:=zC t b;exact .inl ⟨n,x,_,u,rfl,w.i,.inl<|.inr ⟨o,l⟩,m,ck.i s p⟩
 ·rename_i Xy q;split at a
  ·rename_i z;let⟨@YE,b,f⟩:=b5.mp a;cases f;let⟨Y,n,@Yk,rfl,l,t,Y⟩:=v;let⟨@u,m,p⟩:=(mr t).1 YE b;let⟨d,@x,rfl,B,D⟩:=w.i;exact .inr (.inr ⟨n,u,rfl,by rw[<-m];exact e2.t l ⟨z,d,x,rfl,B,D⟩,ck.i s p⟩)
  ·cases a
 ·rename_i Xy h;let⟨@YE,b,f⟩:=b5.mp a;cases f;let⟨Y,n,@Yk,rfl,l,t,Y⟩:=v;let⟨@u,m,p⟩:=(mr t).1 YE b;refine .inr (.inr ⟨n,u,rfl,?_,ck.i s p⟩);rw[show A=bR (.inl h) from w.i,<-m];exact e2.k l
 ·rename_i Xy h;let⟨@YE,b,f⟩:=b5.mp a;cases f;let⟨Y,n,@Yk,rfl,l,t,Y⟩:=v;let⟨@u,m,p⟩:=(mr t).1 YE b;refine .inr (.inr ⟨n,u,rfl,?_,ck.i s p⟩);rw[show A=bR (.inr h) from w.i,<-m];exact e2.k l
 ·rename_i Xy q;split at a
  ·rename_i z;let⟨@YE,b,f⟩:=b5.mp a;cases f;let⟨Y,n,Yk,@Yo,rfl,l,t,Y⟩:=v;let⟨@u,m,p⟩:=(mr t).1 YE b;let⟨d,@x,rfl,B,D⟩:=w.i;exact .inr (.inr ⟨n,u,rfl,.inr ⟨Yk,q,d,.inr ⟨Yo,l⟩,rfl,⟨z,d,x,rfl,B,D⟩,m.symm⟩,ck.i s p⟩)
  ·cases a
 ·cases a
end
end L2
namespace di
open Spec PyProof.Rows
section
variable{XJ:bB}{H:a9}{L:br}{XA:ag->au->Prop}{m:au}
def VF{C aR:aq}{XN:Array ag}{bY i:ag}{XB XG:Option Int}{y:ag->au->Prop}(n:nh m.heap C XN)(XO:m.heap.IsSliceOf aR bY i .none)(bl:kT bY XB)(a:kT i XG)(b:cu XN.size 0 XB=0)(l:cu XN.size XN.size XG=XN.size)(s:y (.ref C) m):wpAny (aN XJ H) L (ke (.ref C)<|.ref aR) y XA m:=by
 let⟨@XU,c,d,hd⟩:=id XO;have ty:m.TypeIs (.ref aR) "slice" := ⟨XU,c,d⟩;unfold ke;try with_reducible refine fS ?_
 first|refine aw (aM ?_)|skip
 refine aw (EV n.typeIs ∅ ?_);refine aw (q0 (name:=aD.ofString "__getitem__") n.typeIs pA<|iF pA n.typeIs Hr ?_<|GW _ _);show wpAny _ _ (bc.Tuple.tupleItemsOf (.ref C) >>= _) _ _ m;refine aw (E0 n ?_);refine aw (l7 ty ?_);rw[aF ∅];refine aw (CT XO bl a ?_);rw[b,l];show wpAny _ _ (if (((0:Nat):Int)==0&&(1:Int)==1&&(XN.size-0)==XN.size)=aa then _ else _) _ _ m;rw[aF ↥0];refine aw (m:=bc.Tuple.tupleIsExact _) (aw<|l7 n.typeIs<|aM ?_);show wpAny _ _ (if (ag.type "tuple" == ag.type "tuple")=aa then _ else _) _ _ m;rw[aF ∅];exact aw (ov<|aM ⟨_,rfl,aM s⟩)
end
end di
namespace L2
open Spec PyProof.Rows
section
variable{c:aI}
@[simp] def k7(O:aC ak):aC ak:=λw=>(O w).bind λn=>match n.1 with
 |.im (.int h)=>Z (.im<|.int<|-h,n.2)
 |_=>V
variable{O:aC ak}{XP:b9}
def wu{g:aY}(b:bZ c g O):bZ c (.UnaryOp .USub g XP) (k7 O):=by
 refine dR (LG TX b) λB j y a=>?_;let⟨w,N,p,@X0,R,ae,d,s⟩:=a;let⟨@⟨e,XD⟩,l,t⟩:=bg.mp d;refine⟨w,N,e,XD,R,ae,l,λu XE XT Xz f X7 i=>?_⟩;dsimp only at t;split at t
 ·rename_i h;cases t;exact⟨h,X7.1,s _ XE XT [] f ⟨rfl,rfl⟩ (by rw[bO];exact i.both)⟩
 ·cases t
def QT(O:aC (Option Int)):mJ:=(λB j y=>∃w N J X0,bq j w B N/\N.Nodup/\O w=Z (J,X0)/\∀S Yf,bq S X0 B Yf->a8 j N S Yf->y J S)
def vx(c:aI)(a:Option aY)(O:aC (Option Int)):Prop:=(∀ ⦃n⦄,Dn c a (QT O) n)
def BK{a:Option aY}{C Yc:mJ}(b:px c a C)(h:∀B j y,Yc B j y->C B j y):px c a Yc:=λG m B j y z d=>b G m B j y z (h B j y d)
def m6:aC (Option Int):=(λw=>Z (V,w))
@[simp] def oL(O:aC ak):aC (Option Int):=λw=>(O w).bind λn=>match n.1 with
 |.im (.int h)=>Z (Z h,n.2)
 |_=>V
def G5:vx c V m6:=by
 refine BK VI λB j y a=>?_;let⟨w,N,p,@X0,R,ae,b,s⟩:=a;cases b;exact s j N R (a8.perm ae<|List.Perm.refl _)
variable{a:aY}
def E_(b:bZ c a O):vx c (Z a) (oL O):=by
 refine BK (Qc b) λB j y d=>?_;let⟨w,N,p,@X0,R,ae,f,s⟩:=d;let⟨@⟨e,XD⟩,l,t⟩:=bg.mp f;refine⟨w,N,e,XD,R,ae,l,λu XE XT Xz g X7 i=>?_⟩;dsimp only at t;split at t
 ·rename_i h;cases t;exact⟨h,X7.1,s XE XT g i.both⟩
 ·cases t
def g_{XR:Type}(x:List XR)(XB XG:Option Int):List XR:=((x.drop<|di.cu x.length 0 XB).take (di.cu x.length x.length XG-di.cu x.length 0 XB))
variable{j:ax}
theorem bt.drop:∀{D:List X}{x:List ai} (v:Nat),bt j D x->bt j (D.drop v) (x.drop v)
 |D,x,0,b=>b
 |[],x,v+1,b=>by cases (show x=[] from b);exact rfl
 |r::D,x,v+1,b=>by
  let⟨u,@p,rfl,l,t⟩:=b;exact t.drop v
theorem bt.take:∀{D:List X}{x:List ai} (v:Nat),bt j D x->bt j (D.take v) (x.take v)
 |D,x,0,b=>rfl
 |[],x,v+1,b=>by cases (show x=[] from b);exact rfl
 |r::D,x,v+1,b=>by
  let⟨u,@p,rfl,l,t⟩:=b;exact⟨u,_,rfl,l,t.take v⟩
def bt.cut{D:List X}{x:List ai}(XB XG:Option Int)(b:bt j D x):bt j (g_ D XB XG) (me x XB XG):=by
 unfold g_ me;rw[b.length];exact (b.drop _).take _
@[simp] def ni(r:ak)(XB XG:Option Int):Option ak:=match r with
 |.im (.tup D)=>Z (.im<|.tup<|g_ D XB XG)
 |.lst D=>Z (.lst<|g_ D XB XG)
 |.eo D=>Z (.lst<|g_ D XB XG)
 |_=>V
def Ly(U:Φ):ai->Option Int->Option Int->ax->cI->Prop:=(λe XB XG j y=>∃g x,e=.ref g/\da U j g x/\di.cu x.length 0 XB=0/\di.cu x.length x.length XG=x.length/\y (.ref g) j)
def S1:r1 c (λe XB XG j y=>∃r p,fy j r e/\ni r XB XG=Z p/\ck j p y):=by
 have all:r1 c (Ly c.K):=by
  intro G m B j e u bY i XB XG aR y z d XO bl f b;let⟨g,@x,rfl,E,F,l,s⟩:=b;cases d;let⟨@XN,p,bV,I⟩:=z.tuple E;have A:XN.toArray.size=x.length:=by rw[cK];exact p.length.symm
  exact⟨"tuple",_,pA.lookup,bV.typeIs,di.VF bV XO bl f (by rw[A];exact F) (by rw[A];exact l) ⟨.ref g,j,z,rfl,s⟩⟩
 intro G m B j e u bY i XB XG aR y z d XO bl f H;let⟨r,@p,w,a,s⟩:=H;unfold ni at a;split at a
 ·rename_i D;cases a;let⟨n,@x,rfl,l,t⟩:=w.i;by_cases k:di.cu x.length 0 XB=0/\di.cu x.length x.length XG=x.length
  ·refine all G m B j _ u bY i XB XG aR y z d XO bl f ⟨n,x,rfl,da.of l,k.1,k.2,ck.i s ⟨n,x,rfl,l,?_⟩⟩;have:g_ D XB XG=D:=by
    unfold g_;rw[t.length,k.1,k.2,wo,y6,<-t.length,t4]
   rw[this];exact t
  ·exact RD G m B j _ u bY i XB XG aR y z d XO bl f ⟨n,x,rfl,da.of l,k,λv q=>ck.t s q<|t.cut XB XG⟩
 ·cases a;let⟨Y,n,@x,rfl,l,t,Y⟩:=w;exact Gu G m B j _ u bY i XB XG aR y z d XO bl f ⟨n,x,rfl,dm.of l,λv q=>ck.l s q<|t.cut XB XG⟩
 ·cases a;let⟨Y,n,x,@o,rfl,l,t,Y⟩:=w;exact Gu G m B j _ u bY i XB XG aR y z d XO bl f ⟨n,x,rfl,.inl<|.inr ⟨o,l⟩,λv q=>ck.l s q<|t.cut XB XG⟩
 ·cases a
@[simp] def kp(O:aC bo)(J b:aC (Option Int)):aC ak:=λw=>(O w).bind λn=>(J n.2).bind λs=>(b s.2).bind λp=>(dC p.2 n.1).bind λr=>(ni r s.1 p.1).map λYE=>(YE,p.2)
def DJ{XB XG:Option aY}{O:aC bo}{k m:aC (Option Int)}{YG:b9}(v:du c a O)(x:vx c XB k)(z:vx c XG m):bZ c (.Subscript a (.Slice XB XG V YG) XP) (kp O k m):=by
 refine dR (MH S1 v x z) λB j y A=>?_;let⟨w,N,p,@X0,R,ae,C,s⟩:=A;let⟨@⟨e,XD⟩,l,t⟩:=bg.mp C;let⟨@⟨J,X_⟩,D,E⟩:=bg.mp t;let⟨@⟨I,Yz⟩,F,G⟩:=bg.mp E;let⟨@r,L,M⟩:=bg.mp G;let⟨@YE,P,Q⟩:=b5.mp M;cases Q;refine⟨w,N,e,XD,R,ae,l,λu XE XT Xz S n d=>⟨XD,XT,J,X_,S,(cH.mp d.ae).1,D,λXS X4 T q=>⟨X_,X4,I,Yz,T,q.ae,F,λU al f am=>?_⟩⟩⟩;have h:=q.seq am;have an:ia U B e u Xz:=n.mono h.tup λg ap o a=>h.keep g o a λb=>(cH.mp d.ae).2.2 g b g ap rfl;have as:=d.trans h n.chg;exact⟨r,_,an.read f L,P,λH a1 a2 i X7 bd be=>s H a1 al a2 (f.mono i.tupS λg Y o a=>i g o a) X7<|as.new i bd be f.chg⟩
abbrev hu:=List ak->Option ak
@[simp] def dI:hu:=λD=>match D with
 |[.im (.tup e)]=>Z (.im<|.int e.length)
 |[.lst e]=>Z (.im<|.int e.length)
 |[.eo e]=>Z (.im<|.int e.length)
 |[.gY e]=>Z (.im<|.int e.length)
 |[.cb e]=>Z (.im<|.int e.length)
 |[.im (.str e)]=>if e.length<=100000 then Z (.im<|.int e.length) else V
 |_=>V
variable{Q:List ai}
def gq{r:ak}(b:mx j [r] Q):∃u,Q=[u]/\fy j r u:=by
 let⟨u,@p,rfl,l,t⟩:=b;cases (show p=[] from t);exact⟨u,rfl,l⟩
def H6{r a:ak}(b:mx j [r,a] Q):∃u I,Q=[u,I]/\fy j r u/\fy j a I:=by
 let⟨u,@p,rfl,l,t⟩:=b;let⟨@I,rfl,c⟩:=gq t;exact⟨u,I,rfl,l,c⟩
def dW.length{X6:Type}{J:List (X6×X)}{E:List (X6×ai)}(b:dW j J E):J.length=E.length:=dB.length b
def iz:gX c (.builtin "len") dI:=by
 refine (Tw.or<|K8.or Un).imp λx j y e=>?_;let⟨D,@r,d,a,s⟩:=e;unfold dI at a;split at a
 ·cases a;let⟨@u,rfl,b⟩:=gq d;let⟨n,@x,rfl,l,t⟩:=b.i;exact .inl ⟨n,x,rfl,.inr<|da.of l,by rw[<-t.length];exact ck.i s rfl⟩
 ·cases a;let⟨@u,rfl,⟨Y,n,@x,rfl,l,t,Y⟩⟩:=gq d;exact .inl ⟨n,x,rfl,.inl<|dm.of l,by rw[<-t.length];exact ck.i s rfl⟩
 ·cases a;let⟨@u,rfl,⟨Y,n,x,@o,rfl,l,t,Y⟩⟩:=gq d;exact .inl ⟨n,x,rfl,.inl<|.inl<|.inr ⟨o,l⟩,by rw[<-t.length];exact ck.i s rfl⟩
 ·cases a;let⟨@u,rfl,⟨Y,n,x,@XH,rfl,l,t,Y⟩⟩:=gq d;exact .inl ⟨n,x,rfl,.inl<|dm.of l,by rw[<-t.length];exact ck.i s rfl⟩
 ·cases a;let⟨@u,rfl,⟨Y,n,@Yk,rfl,l,t,Y⟩⟩:=gq d;exact .inr (.inr ⟨n,Yk,rfl,l,by rw[<-t.length];exact ck.i s rfl⟩)
 ·split at a
  ·rename_i f;cases a;let⟨@u,rfl,b⟩:=gq d;cases (show u=_ from b.i);exact .inr (.inl ⟨_,rfl,kN f,ck.i s rfl⟩)
  ·cases a
 ·cases a
@[simp] def kM:hu:=λD=>match D with
 |[r]=>(kb r).map λe=>.im (.tup e)
 |_=>V
@[simp] def qW:hu:=λD=>match D with
 |[r]=>(kb r).map .lst
 |_=>V
def nB:gX c (.type "tuple") kM:=by
 refine RZ.imp λx j y g=>?_;let⟨D,@r,k,a,s⟩:=g;unfold kM at a;split at a
 ·let⟨@e,d,m⟩:=b5.mp a;cases m;let⟨@u,rfl,b⟩:=gq k;unfold kb at d;split at d
  ·cases d;let⟨n,@x,rfl,l,t⟩:=b.i;exact⟨n,x,rfl,.inr ⟨da.of l,ck.i s ⟨n,x,rfl,l,t⟩⟩⟩
  ·cases d;let⟨Y,n,@x,rfl,l,t,Y⟩:=b;exact⟨n,x,rfl,.inl ⟨dm.of l,λJ f=>ck.t s f t⟩⟩
  ·cases d;let⟨Y,n,x,@o,rfl,l,t,Y⟩:=b;exact⟨n,x,rfl,.inl ⟨.inl<|.inr ⟨o,l⟩,λJ f=>ck.t s f t⟩⟩
  ·cases d
 ·cases a
def JR:gX c (.type "list") qW:=by
 refine OR.imp λx j y g=>?_;let⟨D,@r,k,a,s⟩:=g;unfold qW at a;split at a
 ·let⟨@e,d,m⟩:=b5.mp a;cases m;let⟨@u,rfl,b⟩:=gq k;unfold kb at d;split at d
  ·cases d;let⟨n,@x,rfl,l,t⟩:=b.i;exact⟨n,x,rfl,.inr<|da.of l,λJ f=>ck.l s f t⟩
  ·cases d;let⟨Y,n,@x,rfl,l,t,Y⟩:=b;exact⟨n,x,rfl,.inl<|dm.of l,λJ f=>ck.l s f t⟩
  ·cases d;let⟨Y,n,x,@o,rfl,l,t,Y⟩:=b;exact⟨n,x,rfl,.inl<|.inl<|.inr ⟨o,l⟩,λJ f=>ck.l s f t⟩
  ·cases d
 ·cases a
@[simp] def vInt:hu:=λD=>match D with
 |[.im (.int h)]=>Z (.im<|.int h)
 |[.im (.aH d)]=>Z (.im<|.int<|if d then 1 else 0)
 |_=>V
def oA:gX c (.type "int") vInt:=by
 refine SV.imp λx j y e=>?_;let⟨D,@r,d,a,s⟩:=e;unfold vInt at a;split at a
 ·cases a;let⟨@u,rfl,b⟩:=gq d;cases (show u=_ from b.i);exact .inl ⟨_,rfl,ck.i s rfl⟩
 ·cases a;let⟨@u,rfl,b⟩:=gq d;cases (show u=_ from b.i);exact .inr ⟨_,rfl,ck.i s rfl⟩
 ·cases a
@[simp] def kS:hu:=λD=>match D with
 |[.im (.int h)]=>Z (.im<|.int<|if h<0 then -h else h)
 |_=>V
def vU:gX c (.builtin "abs") kS:=by
 refine VB.imp λx j y d=>?_;let⟨D,@r,e,a,s⟩:=d;unfold kS at a;split at a
 ·cases a;let⟨@u,rfl,b⟩:=gq e;cases (show u=_ from b.i);exact⟨_,rfl,ck.i s rfl⟩
 ·cases a
@[simp] def Am:hu:=λD=>match D with
 |[.im (.int h),.im<|.int k]=>Z (.im<|.int<|if k>h then k else h)
 |_=>V
@[simp] def wc:hu:=λD=>match D with
 |[.im (.int h),.im<|.int k]=>Z (.im<|.int<|if k<h then k else h)
 |_=>V
def PS(d:c.calm=aa):gX c (.builtin "max") Am:=by
 refine (LB d).imp λx j y e=>?_;let⟨D,@r,f,a,s⟩:=e;unfold Am at a;split at a
 ·cases a;let⟨u,@I,rfl,b,q⟩:=H6 f;cases (show u=_ from b.i);cases (show I=_ from q.i);exact⟨_,_,rfl,ck.i s rfl⟩
 ·cases a
def QX(d:c.calm=aa):gX c (.builtin "min") wc:=by
 refine (Mn d).imp λx j y e=>?_;let⟨D,@r,f,a,s⟩:=e;unfold wc at a;split at a
 ·cases a;let⟨u,@I,rfl,b,q⟩:=H6 f;cases (show u=_ from b.i);cases (show I=_ from q.i);exact⟨_,_,rfl,ck.i s rfl⟩
 ·cases a
end
section
variable{c:aI}
def zR:ak->Option Nat
 |.im (.int _)=>Z 0
 |.im (.aH _)=>Z 1
 |.im (.str _)=>Z 2
 |.im (.tup _)=>Z 3
 |.im .aK=>Z 4
 |.lst _=>Z 4
 |.im (.aW _)=>Z 4
 |.im (.fd _)=>Z 4
 |.aE _=>Z 4
 |.cb _=>Z 4
 |_=>V
@[simp] def yq(T:String)(r:ak):Option Bool:=
 (zR r).bind λq=>if T = "int" then Z (q==0 || q==1) else if T = "bool" then Z (q==1) else if T = "str" then Z (q==2) else if T = "tuple" then Z (q==3) else V
variable{T:String}{d:Bool}
def PD{r:ak}(b:yq T r=Z d):∃q,zR r=Z q/\((T = "int" /\ d=(q==0 || q==1))\/(T = "bool" /\ d=(q==1))\/(T = "str" /\ d=(q==2))\/(T = "tuple" /\ d=(q==3))):=by
 let⟨@q,a,b⟩:=bg.mp b;refine⟨q,a,?_⟩;by_cases l:T = "int"
 ·rw[aF l]at b;cases b;exact .inl ⟨l,rfl⟩
 rw[if_neg l]at b;by_cases t:T = "bool"
 ·rw[aF t]at b;cases b;exact .inr (.inl ⟨t,rfl⟩)
 rw[if_neg t]at b;by_cases c:T = "str"
 ·rw[aF c]at b;cases b;exact .inr (.inr<|.inl ⟨c,rfl⟩)
 rw[if_neg c]at b;by_cases e:T = "tuple"
 ·rw[aF e]at b;cases b;exact .inr (.inr<|.inr ⟨e,rfl⟩)
 rw[if_neg e]at b;cases b
def nT{L Ya aL w XI:Prop}(b:L\/Ya\/aL\/w)(g:L->XI)(d:Ya->XI)(f:aL->XI)(r:w->XI):XI:=b.elim g λb=>b.elim d λb=>b.elim f r
variable{G:List (aq×a5)}{j:ax}{m:au}
def Ge{B:aZ}(z:aG c G B j m){g:aq}(b:(∃q,j g=Z (.aE q))\/∃q,j g=Z (.cb q)):∃o,m.heap.get? g=Z o/\o.cls=.type "dict" := by
 rcases b with ⟨q,b⟩|⟨q,b⟩
 ·let@⟨_,_,⟨@x,_,⟨o,P,@X8,l,t,_⟩⟩⟩:=(show en c.prog c.w j m.heap g (.aE q) from z.aU g _ b);exact⟨o,l,t.1⟩
 ·let@⟨_,_,⟨@Q,_,⟨o,P,@X8,l,t,_⟩⟩⟩:=(show en c.prog c.w j m.heap g (.cb q) from z.aU g _ b);exact⟨o,l,t.1⟩
def UJ{B:aZ}(z:aG c G B j m){g:aq}{n:a5}{Xy:List (List X×ai)}(b:j g=Z (.dw n<|.aE Xy)):∃o,m.heap.get? g=Z o/\o.cls=.type "dict" := by
 let@⟨_,_,_,⟨@x,_,⟨o,P,@X8,l,t,_⟩⟩⟩:=(show en c.prog c.w j m.heap g (.dw n<|.aE Xy) from z.aU g _ b);exact⟨o,l,t.1⟩
def NP:eK c (.builtin "isinstance") (λx j y=>∃e T r d,x=[e,.ty T]/\fy j r e/\yq T r=Z d/\y (.aH d) j):=by
 intro G m B j x XZ y z p b;let⟨e,T,r,@d,rfl,k,XG,s⟩:=b;have M:=p;cases p with
 |cons p E=>
  cases E with
  |cons Yr E=>
   cases E;cases Yr;have n:∀{d:Bool},y (.aH d) j->eA c G B y (.bool d) {m with toks:=m.toks+1}:=λ{d} s=>⟨.aH d,j,z.tok _,rfl,s⟩;let⟨@q,f,v⟩:=PD XG;have u:d=aA->y (.aH aA) j:=λa=>a ▸ s;have I:∀{g:aq},q=4->(∃o,m.heap.get? g=Z o/\o.cls=.type "dict")->wpAny (aN c.prog c.w) c.A (call (.builtin "isinstance") [.ref g,.type T]) (eA c G B y) c.cP m:=by
    rintro g rfl ⟨o,C,D⟩;refine nT v (λ⟨a,F⟩=>a ▸ IsiPair.dict_int C D (n<|u F)) (λ⟨a,F⟩=>a ▸ IsiPair.dict_bool C D (n<|u F)) (λ⟨a,F⟩=>a ▸ IsiPair.dict_str C D (n<|u F)) λJ=>?_;let@⟨a,F⟩:=J;exact a ▸ IsiPair.dict_tuple C D (n<|u F)
   have mK:Gl c.K j e T d->wpAny (aN c.prog c.w) c.A (call (.builtin "isinstance") [_,.type T]) (eA c G B y) c.cP m:=λN=>V_ G m B j _ _ y z M ⟨e,T,d,rfl,N,s⟩;have qY:∀{g:aq}{x:List ai},q=4->e=.ref g->dm c.K j g x->wpAny (aN c.prog c.w) c.A (call (.builtin "isinstance") [_,.type T]) (eA c G B y) c.cP m:=λ{g x} f a i=>by
    subst f;exact mK (.inr<|.inr<|.inr<|.inr ⟨g,x,a,i,nT v (λb=>.inr<|.inl b) (λb=>.inr<|.inr<|.inr<|.inl b) (λb=>.inr<|.inr<|.inl b) λb=>.inr<|.inr<|.inr<|.inr b⟩)
   unfold zR at f;split at f
   ·cases f;exact mK (.inl ⟨_,k.i,nT v .inl (λb=>.inr<|.inr<|.inr<|.inl b) (λb=>.inr<|.inr<|.inl b) λb=>.inr<|.inl b⟩)
   ·cases f;exact mK (.inr<|.inl ⟨_,k.i,nT v (λb=>.inr<|.inl b) .inl (λb=>.inr<|.inr<|.inr<|.inl b) λb=>.inr<|.inr<|.inl b⟩)
   ·cases f;exact mK (.inr<|.inr<|.inl ⟨_,k.i,nT v (λb=>.inr<|.inl b) (λb=>.inr<|.inr<|.inr<|.inl b) .inl λb=>.inr<|.inr<|.inl b⟩)
   ·cases f;let⟨g,@x,a,l,t⟩:=k.i;exact mK (.inr<|.inr<|.inr<|.inl ⟨g,x,a,da.of l,nT v (λb=>.inr<|.inl b) (λb=>.inr<|.inr<|.inr<|.inl b) (λb=>.inr<|.inr<|.inl b) .inl⟩)
   ·cases f;cases (show e=.aK from k.i);cases p;refine nT v (λ⟨a,F⟩=>a ▸ IsiPair.NoneType_int (n<|u F)) (λ⟨a,F⟩=>a ▸ IsiPair.NoneType_bool (n<|u F)) (λ⟨a,F⟩=>a ▸ IsiPair.NoneType_str (n<|u F)) λJ=>?_;let@⟨a,F⟩:=J;exact a ▸ IsiPair.NoneType_tuple (n<|u F)
   ·cases f;let⟨Y,g,@x,a,l,t,Y⟩:=k;exact qY rfl a (dm.of l)
   ·cases f;let⟨g,x,@o,a,l,t⟩:=k.i;exact qY rfl a (.inl<|.inr ⟨o,l⟩)
   ·cases f;let⟨g,o,@Yk,rfl,l,Y⟩:=k.i;cases p;exact I rfl (UJ z l)
   ·cases f;let⟨Y,g,@x,rfl,l,t,Y⟩:=k;cases p;exact I rfl (Ge z<|.inl ⟨_,l⟩)
   ·cases f;let⟨Y,g,@x,rfl,l,t,Y⟩:=k;cases p;exact I rfl (Ge z<|.inr ⟨_,l⟩)
   ·cases f
@[simp] def E2(T:String)(O:aC bo):aC ak:=λw=>(O w).bind λn=>(dC n.2 n.1).bind λr=>(yq T r).map λd=>(.im<|.aH d,n.2)
variable{e:aD}{a:aY}{O:aC bo}{XP:b9}
def NQ{n YG:b9}(h:fc c "isinstance")(i:c.aJ "isinstance" = V)(k:fb "isinstance" = Z (.builtin "isinstance"))(m:fc c e)(q:c.aJ e=V)(v:fb e=Z (.type T))(b:du c a O)(x:e ≠ "__name__" := by decide)(hd:(e==("__debug__" : aD))=aA:=by decide)(f:bD [a,.Name e YG] c.env=(aA,bP a c.env)::bD [.Name e YG] c.env:=by rfl)(z:bD [.Name e YG] c.env=(aA,bP (.Name e YG) c.env)::bD [] c.env:=by rfl)(A:(ep XP<|bD [.Name e YG] c.env).any (·.1)=aA:=by rfl):bZ c (.Call (.Name "isinstance" n) [a,.Name e YG] [] XP) (E2 T O):=by
 refine dR (Ht NP h i k (um b (um (Vw (u:=.ty T) m q v rfl x hd) vJ z) f) ∅ ∅ f A) λB j y C=>?_;let⟨w,N,p,@X0,R,ae,D,s⟩:=C;let⟨@⟨o,XD⟩,l,t⟩:=bg.mp D;let⟨@r,E,F⟩:=bg.mp t;let⟨@d,G,H⟩:=b5.mp F;cases H;exact⟨w,N,o,XD,R,ae,l,λu XE XT Xz g I J=>⟨u,T,r,d,rfl,I.read g E,G,s _ XE XT [] g ⟨rfl,rfl⟩ (by rw[bO];exact J.both)⟩⟩
@[simp] def pP:ak->Option Bool
 |.im .aK=>Z aA
 |.im (.aH d)=>Z d
 |.im (.int h)=>Z (h != 0)
 |.im (.str e)=>if e.length<=100000 then Z ((e.length:Int) != 0) else V
 |.im (.tup D)=>Z (!D.isEmpty)
 |.lst D=>Z (!D.isEmpty)
 |.eo D=>Z (!D.isEmpty)
 |.cb Xy=>Z (!Xy.isEmpty)
 |_=>V
def bt.emp{D:List X}{x:List ai}(b:bt j D x):(!x.isEmpty)=!D.isEmpty:=by
 cases D with
 |nil=>cases (show x=[] from b);rfl
 |cons r D=>let⟨u,@p,rfl,Y⟩:=b;rfl
def Ob{r:ak}{u:ai}(b:fy j r u)(a:pP r=Z d):AG c.K u j d:=by
 unfold pP at a;split at a
 ·cases a;cases (show u=_ from b.i);rfl
 ·cases a;cases (show u=_ from b.i);rfl
 ·cases a;cases (show u=_ from b.i);rfl
 ·split at a
  ·rename_i e;cases a;cases (show u=_ from b.i);exact⟨kN e,rfl⟩
  ·cases a
 ·cases a;let⟨n,@x,rfl,l,t⟩:=b.i;exact .inr (.inl ⟨x,da.of l,t.emp.symm⟩)
 ·cases a;let⟨Y,n,@x,rfl,l,t,Y⟩:=b;exact .inl ⟨x,dm.of l,t.emp.symm⟩
 ·cases a;let⟨Y,n,x,@o,rfl,l,t,Y⟩:=b;exact .inl ⟨x,.inl<|.inr ⟨o,l⟩,t.emp.symm⟩
 ·cases a;let⟨Y,n,@Yk,rfl,l,t,Y⟩:=b;refine .inr (.inr ⟨Yk,l,?_⟩);cases t<;>rfl
 ·cases a
@[simp] def lG(O:aC bo):aC Bool:=λw=>(O w).bind λn=>(dC n.2 n.1).bind λr=>(pP r).map λd=>(d,n.2)
def uu(b:du c a O)(g:∀e,qe a c.env e=(do let u <-e;standAt a.pos;holding [u] (truthy u)):=by intro Y;rfl):iw c a (lG O):=by
 refine si (NK b g) λB j y h=>?_;let⟨w,N,d,@X0,R,ae,i,s⟩:=h;let⟨@⟨o,XD⟩,l,t⟩:=bg.mp i;let⟨@r,k,m⟩:=bg.mp t;let⟨@x,n,p⟩:=b5.mp m;cases p;exact⟨w,N,o,XD,R,ae,l,λu XE XT Xz f q v=>⟨_,Ob (q.read f k) n,s XE XT f v.both⟩⟩
def Lf{h:Int}{C:hT}(a:fc c e)(b:c.aJ e=Z (.int h C))(hd:(e==("__debug__" : aD))=aA:=by decide):bZ c (.Name e XP) (av<|.int h):=tV (Uw (u:=.int h) a b ⟨C,rfl⟩ hd) λ_=>rfl
end
variable{YA YK:b9}{o:aY}{id T:String}{name:aD}{O:aC (List bo)}{h:Nat}{ty:ak->Bool}{U:Φ}{Yy:eY}{g:aq}{j:ax}
def a8.chg{N XT:List aq}(c:g∈N)(f:fu j g)(ae:XT.Nodup)(d:∀e∈XT,e∈N):a8 j N (upd j g Yy) XT:=by
 let⟨@o,a,bV,h⟩:=f;refine⟨λe I Yp b=>?_,λe b=>.inl<|d e b,ae,eC.of (λe x Yp=>?_)<|λe n I Yp=>?_,λe I Yp=>?_⟩
 ·rw[cm (λi=>b (by rw[i];exact c))];exact Yp
 ·rw[cm]
  ·exact Yp
  ·rintro rfl;rw[a]at Yp;exact bV x (Option.some.inj Yp)
 ·rw[cm]
  ·exact Yp
  ·rintro rfl;rw[a]at Yp;exact h n I (Option.some.inj Yp)
 ·by_cases b:e=g
  ·subst b;exact⟨Yy,dx⟩
  ·exact⟨I,(cm b).trans Yp⟩
theorem b8.k9(f:fu j g):qx j (upd j g Yy):=(a8.chg (N:=[g]) (XT:=[]) (.head _) f gB<|λe a=>nomatch a).tup.tup
def mY(c:aI)(id:String)(mt:ak->List ak->Option (ak×ak)):Prop:=(
 od c id λe Q j y=>∃f D p a Xz XC,b_ j f e Xz/\dj j D Q XC/\(Xz++XC).Nodup/\mt f D=Z (p,a)/\∀u S b bJ,b_ S p u b->b_ S a e bJ->a8 j (Xz++XC) S (b++bJ)->y u S)
@[simp] def gQ:ak->Bool
 |.lst _=>aa
 |.gY _=>aa
 |_=>aA
@[simp] def nL:ak->Bool
 |.cb _=>aa
 |.aE _=>aa
 |_=>aA
@[simp] def fg(ty:ak->Bool)(h:Nat)(mt:ak->List ak->Option (ak×ak))(O:aC (List bo)):aC ak:=λw=>match w[h]? with
 |some (Z a)=>if ty a=aa then (O w).bind λn=>(eB n.1 n.2).bind λs=>match s.2[h]? with
   |some (Z f)=>(mt f s.1).map λp=>(p.1,s.2.set h<|Z p.2)
   |_=>V
  else V
 |_=>V
def JI{mt:ak->List ak->Option (ak×ak)}{B:aZ}{y:cI}(E:∀j f e Xz,b_ j f e Xz->ty f=aa->lM U T e j)(b:ml (fg ty h mt O) B j y):∃e,B[h]?=Z (Z e)/\lM U T e j/\hs O B j λQ XS=>∃f D p d Xz XC,b_ XS f e Xz/\dj XS D Q XC/\(Xz++XC).Nodup/\mt f D=Z (p,d)/\∀u S k bJ,b_ S p u k->b_ S d e bJ->a8 XS (Xz++XC) S (k++bJ)->y u S:=by
 let⟨w,N,p,@X0,R,ae,c,s⟩:=b;unfold fg at c;split at c
 ·rename_i F G;split at c
  ·rename_i bV;let⟨e,bi,@bm,m,H,Y,Y⟩:=R.out G;refine⟨e,m,E j F e _ H bV,?_⟩;let⟨@⟨XU,XD⟩,l,t⟩:=bg.mp c;let⟨@⟨D,X_⟩,I,i⟩:=bg.mp t;refine⟨w,N,XU,XD,R,ae,l,λQ XE XT k J M P=>?_⟩;let⟨X4,@XC,al,X7,X5⟩:=k_ J M I;dsimp only at i;split at i
   ·rename_i f am;let⟨@⟨Yr,d⟩,an,ap⟩:=b5.mp i;cases ap;let⟨bn,Xz,@q,r,cc,v,as⟩:=al.out am;rw[m]at r;cases r;have x:a8 j N XE ((Xz++XC)++q):=P.jn (X5.symm.trans ((fN XC as.symm).trans (by
     rw[bI];exact d3)))
    have z:=cH.mp x.ae;refine⟨f,D,_,d,Xz,XC,cc,X7,z.1,an,λu S L Ya a1 i0 n=>?_⟩;have a2:bq S (X_.set h<|Z .c8) B q:=v.mono n.tup λg bd o a=>n.keep g o a λb=>z.2.2 g b g bd rfl;let⟨A,@XH,C,be⟩:=a2.back i0 m;rw[tn]at C;refine s u S A L C a1 ((x.trans n v.chg).less (aL:=XH) ?_);rw[bI];refine (eT A d3).trans ?_;rw[<-bI];refine (fN L be).trans ?_;rw[bI];refine d3.trans ?_;rw[bI];refine d3.trans ?_;rw[bI,bI];refine (eT L ?_);exact d3
   ·cases i
  ·cases c
 ·cases c
section
variable{c:aI}
def h5:∀(j:ax) (f:ak) (e:ai) (Xz:List aq),b_ j f e Xz->gQ f=aa->lM U "list" e j:=by
 intro j f e Xz b a;cases f with
 |lst D=>let⟨g,@x,rfl,l,Y⟩:=b;exact .inl ⟨rfl,x,dm.of l⟩
 |gY D=>let⟨g,x,@XH,rfl,l,Y⟩:=b;exact .inl ⟨rfl,x,dm.of l⟩
 |_=>cases a
def ES:∀(j:ax) (f:ak) (e:ai) (Xz:List aq),b_ j f e Xz->nL f=aa->lM U "dict" e j:=by
 intro j f e Xz b a;cases f with
 |cb D=>let⟨g,@x,rfl,l,Y⟩:=b;exact .inr (.inr<|.inl ⟨rfl,.inl ⟨x,l⟩⟩)
 |aE D=>let⟨g,@x,rfl,l,Y⟩:=b;exact .inr (.inr<|.inl ⟨rfl,.inr ⟨x,l⟩⟩)
 |_=>cases a
def hR{mt:ak->List ak->Option (ak×ak)}{a:aY}{P:List aY}(d:∀j f e Xz,b_ j f e Xz->ty f=aa->lM c.K T e j)(g:tC T)(YM:mW T name id)(bV:n0 (.builtin id)=pure (.type "method_descriptor"))(i:mY c id mt)(k:bu c o (hZ h))(m:f6 c (a::P) O)(n:je o name c.env (bP o c.env)=bP o c.env:=by rfl)(p:((ep YA<|bD (a::P) c.env).all (λe=>!e.1)&&(ma YA<|mE [] c.env).all (λe=>e.1.isSome)
   && decide ((a::P).length+([]:List g0).length+(if ([]:List g0).isEmpty then 0 else 1)<30))=aa:=by rfl)(q:(YK.endLine==YA.line)=aa:=by rfl)(XO:bD (a::P) c.env=(aA,bP a c.env)::bD P c.env:=by rfl)(r:(ep YA<|bD P c.env).any (·.1)=aA:=by rfl):
  bZ c (.Call (.Attribute o name YK) (a::P) [] YA) (fg ty h mt O):=
 dR (Cn g YM bV i k m n p q XO r) λB j y b=>by
  let⟨@e,s,l,t⟩:=JI d b;exact⟨e,s,l,t⟩
def MB{mt:ak->List ak->Option (ak×ak)}(a:∀j f e Xz,b_ j f e Xz->ty f=aa->lM c.K T e j)(d:tC T)(YM:mW T name id)(bV:n0 (.builtin id)=pure (.type "method_descriptor"))(g:mY c id mt)(i:bu c o (hZ h))(k:je o name c.env (bP o c.env)=bP o c.env:=by rfl)(m:(YK.endLine==YA.line)=aa:=by rfl):
  bZ c (.Call (.Attribute o name YK) [] [] YA) (fg ty h mt az):=
 dR (N4 d YM bV g i k m) λB j y b=>by
  let⟨@e,n,l,t⟩:=JI a b;refine⟨e,n,l,?_⟩;let⟨w,N,p,@X0,R,ae,q,s⟩:=t;cases q;exact s [] j N [] R ⟨rfl,rfl⟩ (by rw[bO];exact a8.perm ae (List.Perm.refl _))
@[simp] def eW:ak->List ak->Option (ak×ak):=λf D=>match f,D with
 |.lst x,[.im r]=>if x.length<100000 then Z (.im .aK,.lst<|x++[r]) else V
 |_,_=>V
def y5{v:Nat}(b:v<100000):v<sizeLine:=eF b ∅
def jx:mY c "list.append" eW:=by
 intro G m B j e Q u XZ y z b d h;let⟨f,D,p,r,Xz,@XC,i,k,ae,a,s⟩:=h;unfold eW at a;split at a
 ·split at a
  ·rename_i n;cases a;let⟨g,@XW,rfl,l,t,rfl⟩:=i;let⟨A,C,v,@w,rfl,@⟨o,rfl⟩,@⟨rfl,rfl⟩,rfl⟩:=k;have f:fu j g:=⟨_,l,(λ_ a=>by cases a),(λ_ Y a=>by cases a)⟩;refine R4 G m B j _ _ u XZ y z b d ⟨g,XW,A,rfl,rfl,l,y5 (by rw[<-t.length];exact n),s .aK _ [] [g] ⟨rfl,rfl⟩ ?_ (a8.chg (.head _) f (es _ _) λe q=>by simpa using q)⟩;exact⟨g,_,rfl,dx,(t.snoc o).mono<|b8.k9 f,rfl⟩
  ·cases a
 ·cases a
@[simp] def vz:ak->List ak->Option (ak×ak):=λf D=>match f,D with
 |.lst x,[]=>(x.getLast?).map λr=>(.im r,.lst x.dropLast)
 |_,_=>V
def bt.last{D:List X}{x:List ai}{r:X}(b:bt j D x)(a:D.getLast?=Z r):∃u,x[x.length-1]?=Z u/\b8 j r u/\bt j D.dropLast x.dropLast:=by
 rw[List.getLast?_eq_getElem?]at a;let⟨@u,c,d⟩:=b.get a;refine⟨u,by rw[<-b.length];exact c,d,?_⟩;rw[DF,DF,<-b.length];exact b.take _
def Ta:mY c "list.pop" vz:=by
 intro G m B j e Q u XZ y z b d h;let⟨f,D,p,C,Xz,@XC,i,k,ae,a,s⟩:=h;unfold vz at a;split at a
 ·let⟨@r,n,o⟩:=b5.mp a;cases o;let⟨g,@XW,rfl,l,t,rfl⟩:=i;let@⟨rfl,rfl⟩:=k;let⟨@A,q,v,w⟩:=t.last n;have f:fu j g:=⟨_,l,(λ_ a=>by cases a),(λ_ Y a=>by cases a)⟩;refine MY G m B j _ _ u XZ y z b d ⟨g,XW,A,rfl,rfl,l,q,s A _ [] [g] ⟨v.mono<|b8.k9 f,rfl⟩ ?_ (a8.chg (.head _) f (es _ _) λe x=>by simpa using x)⟩;exact⟨g,_,rfl,dx,w.mono<|b8.k9 f,rfl⟩
 ·cases a
@[simp] def l9:ak->List ak->Option (ak×ak):=λf D=>match f,D with
 |.lst x,[.im (.int h)]=>if 0<=h/\h<x.length then (x[h.toNat]?).map λr=>(.im r,.lst<|x.eraseIdx h.toNat) else V
 |_,_=>V
theorem bt.erase:∀{D:List X}{x:List ai} (v:Nat),bt j D x->bt j (D.eraseIdx v) (x.eraseIdx v)
 |[],x,v,b=>by cases (show x=[] from b);exact rfl
 |r::D,x,0,b=>by let⟨u,@p,rfl,l,t⟩:=b;exact t
 |r::D,x,v+1,b=>by let⟨u,@p,rfl,l,t⟩:=b;exact⟨u,_,rfl,l,t.erase v⟩
def Tv:mY c "list.pop" l9:=by
 intro G m B j e Q u XZ y z b d i;let⟨f,D,p,F,Xz,@XC,k,n,ae,a,s⟩:=i;unfold l9 at a;split at a
 ·rename_i h;split at a
  ·rename_i XG;let⟨@r,o,q⟩:=b5.mp a;cases q;let⟨g,@XW,rfl,l,t,rfl⟩:=k;let⟨A,C,H,@I,rfl,@⟨v,rfl⟩,@⟨rfl,rfl⟩,rfl⟩:=n;cases (show A=.int h from v);let⟨@A,w,x⟩:=t.get o;have f:fu j g:=⟨_,l,(λ_ a=>by cases a),(λ_ Y a=>by cases a)⟩;have J:XW.length<=sizeLine:=(z.aU g _ l).1;have L:=oF;refine MU G m B j _ _ u XZ y z b d ⟨g,XW,h,h.toNat,A,rfl,rfl,l,⋯,by have:=t.length;lia,tL XG.1 (by rw[<-t.length];exact XG.2),w,s A _ [] [g] ⟨x.mono<|b8.k9 f,rfl⟩ ?_ (a8.chg (.head _) f (es _ _) λe E=>by simpa using E)⟩;exact⟨g,_,rfl,dx,(t.erase _).mono<|b8.k9 f,rfl⟩
  ·cases a
 ·cases a
@[simp] def rZ:ak->List ak->Option (ak×ak):=λf D=>match f,D with
 |.lst x,[.lst XW]=>if x.length+XW.length<=100000 then Z (.im .aK,.lst<|x++XW) else V
 |_,_=>V
def Nj:mY c "list.extend" rZ:=by
 intro G m B j e Q u XZ y z i k n;let⟨f,D,p,w,Xz,@XC,o,q,ae,a,s⟩:=n;unfold rZ at a;split at a
 ·split at a
  ·rename_i r;cases a;let⟨g,@XW,rfl,l,t,rfl⟩:=o;let⟨A,C,x,@E,rfl,⟨d,@Yt,rfl,v,b,rfl⟩,@⟨rfl,rfl⟩,rfl⟩:=q;have f:fu j g:=⟨_,l,(λ_ a=>by cases a),(λ_ Y a=>by cases a)⟩;refine QS G m B j _ _ u XZ y z i k ⟨g,d,XW,Yt,rfl,rfl,l,v,kN (by rw[<-t.length,<-b.length];exact r),s .aK _ [] [g] ⟨rfl,rfl⟩ ?_ (a8.chg (.head _) f (es _ _) λe h=>by
    rw[jU]at h;exact d6 _ h)⟩
   exact⟨g,_,rfl,dx,(t.app b).mono<|b8.k9 f,rfl⟩
  ·cases a
 ·cases a
def pg(c:aI)(J:ak->ak->ak->Option ak):Prop:=(
 AE c λo h u j y=>∃f q r a Xz XC,b_ j f o Xz/\b_ j q h []/\b_ j r u XC/\(Xz++XC).Nodup/\J f q r=Z a/\∀S b,b_ S a o b->a8 j (Xz++XC) S b->y S)
@[simp] def kI(f q r:ak):Option ak:=match f,q,r with
 |.lst x,.im<|.int h,.im r=>(jP x.length h).map λk=>.lst (x.set k r)
 |_,_,_=>V
theorem bt.set{j:ax}{r:X}{u:ai}(H:b8 j r u):∀{D:List X}{x:List ai} (v:Nat),bt j D x->bt j (D.set v r) (x.set v u)
 |[],x,v,b=>by cases (show x=[] from b);exact rfl
 |a::D,x,0,b=>by let⟨I,@p,rfl,l,t⟩:=b;exact⟨u,p,rfl,H,t⟩
 |a::D,x,v+1,b=>by let⟨I,@p,rfl,l,t⟩:=b;exact⟨I,_,rfl,l,bt.set H v t⟩
def Eu:pg c kI:=by
 intro G m B j o h u b d I y z i n p v;let⟨f,q,r,F,Xz,@XC,w,x,A,ae,a,s⟩:=v;unfold kI at a;split at a
 ·let⟨@k,C,D⟩:=b5.mp a;cases D;let⟨g,@XW,rfl,l,t,rfl⟩:=w;let@⟨hd,rfl⟩:=A;have f:fu j g:=⟨_,l,(λ_ a=>by cases a),(λ_ Y a=>by cases a)⟩;refine Q9 G m B j _ _ _ b d I y z i n p ⟨g,XW,_,k,rfl,x.1,l,by rw[<-t.length];exact C,s _ [g] ?_ (a8.chg (.head _) f (es _ _) λe E=>by simpa using E)⟩;exact⟨g,_,rfl,dx,(bt.set hd k t).mono<|b8.k9 f,rfl⟩
 ·cases a
@[simp] def iA(h:Nat)(v:aC ak)(J:ak->ak->ak->Option ak):fG:=λr w=>match w[h]? with
 |some (Z _)=>(v w).bind λn=>if n.1.c1=aa then match n.2[h]? with
   |some (Z f)=>(J f n.1 r).map λa=>n.2.set h (Z a)
   |_=>V
  else V
 |_=>V
def oH{Ye:List Nat}{q:aY}{v:aC ak}{J:ak->ak->ak->Option ak}{XP:b9}(L:bu c o (hZ h))(M:bZ c q v)(O:pg c J)(d:∀u,hY (.Subscript o q XP) c.env u=(do
   let i <-holding [u] (bP o c.env)
   let p <-holding [u,i] (bP q c.env)
   standAt XP
   holding [u,i,p] (sF i p u)
   release [u,i,p] []):=by intro Y;rfl):hJ c Ye (.Subscript o q XP) (iA h v J):=by
 refine vE (I3 L M O d) λu B j y P=>?_;let⟨w,N,r,Xz,@X0,R,X7,ae,m,s⟩:=P;unfold iA at m;split at m
 ·rename_i bs Q;let⟨e,bv,@ca,x,cd,Y,Y⟩:=R.out Q;let⟨@⟨k,XD⟩,l,t⟩:=bg.mp m;split at t
  ·rename_i T;refine⟨e,x,w,N,k,XD,R,(cH.mp ae).1,l,λce XE XT ch U A n=>?_⟩;obtain rfl:=A.c1 T;rw[bO]at n;have al:=cH.mp ae;dsimp only at t;split at t
   ·rename_i f am;let⟨@an,ap,as⟩:=b5.mp t;cases as;let⟨ci,C,@D,E,cc,F,a1⟩:=U.out am;rw[x]at E;cases E;have a2:b_ XE r u Xz:=X7.mono n.tup λg d o a=>n.keep g o a λb=>al.2.2 g b g d rfl;have G:a8 j (N++Xz) XE ((C++Xz)++D):=by
     have bd:a8 j (N++Xz) j (N++Xz):=a8.perm ae (List.Perm.refl _);have:=a8.trans (XT:=N) (Xz:=Xz) bd n X7.chg;refine this.jn ((fN Xz a1.symm).trans ?_);rw[bI];exact d3
    have H:=cH.mp G.ae;refine⟨f,k,r,an,C,Xz,cc,A,a2,H.1,ap,λS cl be z=>?_⟩;have bi:bq S (XD.set h<|Z .c8) B D:=F.mono z.tup λg d o a=>z.keep g o a λb=>H.2.2 g b g d rfl;let⟨bm,@XH,I,bn⟩:=bi.back be x;rw[tn]at I;exact s B S bm dv.refl I ((G.trans z F.chg).less<|bn.trans d3)
   ·cases t
  ·cases t
 ·cases m
end
end L2
namespace L2
open Spec PyProof.Rows PySem.W
section
variable{XJ:bB}{H:a9}{L:br}{XA:ag->au->Prop}{X6:gA}{aP:Array h1}{XX:Nat->Int}{m:au}
def HY{p:Nat}{n:Array Nat}{R:eZ}(j:gy X6 aP #[] R n)(c:dS (p+2) n)(d:o9 XX n 0 (p+2)){y:Unit->eZ->au->Prop}(e:∀c5 b,dS (p+2) c5->lN XX c5 (p+2)->lD b=c5.map (i7 aP)->qk b=V->y () b m):
  y () (xC R<|(my R).push (0,p+2,0)) m:=e n _ c (λh k i l=>d h k (e9 _) i ⋯) j.a j.f
def Ll{v:Nat}{y:Unit->eZ->au->Prop}(f:jE v XX (ix XJ H L X6 aP) m)(t:2<=v)(k:v<64)(g:∀c5 c,dS v c5->lN XX c5 v->lD c=c5.map (i7 aP)->qk c=V->y () c m):kasC (aN XJ H) L XA sortRuns' y (kas_st X6 aP (range v).toArray) m:=by
 obtain⟨p,rfl⟩:∃p,v=p+2:=⟨v-2,⋯⟩;rw[sortRuns'_eq];refine d1 (nR ?_);dsimp only;have l:(lD<|kas_st X6 aP<|List.toArray<|range<|p+2).size=p+2:=by
  show ((range<|p+2).toArray.map<|i7 aP).size=p+2;simp
 have o:minRun' (p+2) (p+2) 0=p+2:=by
  have a:minRun' (p+1+1) (p+2) 0=p+2:=by rw[minRun'_succ,aF k]
  exact a
 simp only[l,o];refine d1 (oB ?_);show kasC _ _ _ (forIn (0::1::range' 2 p) _ _) _ _ _;refine pO ?_;dsimp only;rw[if_neg ⋯];simp only[y6,vQ,qD];refine d1 (N0 (i:=#[]) (n:=(range<|p+2).toArray) f (List.Perm.refl _) ⋯ ⋯ ⟨rfl,rfl,rfl,rfl⟩ λE w d q r h XE Y b=>?_);have b:=BW b;dsimp only;by_cases j:E<p+2
 ·rw[aF j];refine d1 (zH<|ov ?_);refine d1 (Sd f h ⋯ q r b XE λYG e s XS Y u=>?_);rw[if_neg ∅];refine d1 (nR ?_);rw[show (my e).back?=V by rw[XS.p];rfl];dsimp only;refine d1 (uI<|fl ?_);show kasC _ _ _ (forIn (1::range' 2 p) _ _) _ _ _;refine pO ?_;dsimp only;rw[aF (bk _)];refine fl ?_;dsimp only;refine d1 (oB ?_);show kasC _ _ _ (forIn (0::1::range' 2 p) _ _) _ _ _;refine pO ?_;refine d1 (nR ?_);rw[aF (show (my<|xC e<|(my e).push (0,p+2,0)).size<=1 by rw[XS.p];exact bk 1)];refine fl ?_;dsimp only;exact fl (HY XS s u g)
 ·rw[if_neg j];obtain rfl:E=p+2:=⋯
  refine d1 (nR ?_);rw[show (my d).back?=V by rw[XE.p];rfl];dsimp only;refine d1 (uI<|fl ?_);show kasC _ _ _ (forIn (1::range' 2 p) _ _) _ _ _;refine pO ?_;dsimp only;rw[aF (bk _)];refine fl ?_;dsimp only;refine d1 (oB ?_);show kasC _ _ _ (forIn (0::1::range' 2 p) _ _) _ _ _;refine pO ?_;refine d1 (nR ?_);rw[aF (show (my<|xC d<|(my d).push (0,p+2,0)).size<=1 by rw[XE.p];exact bk 1)];refine fl ?_;dsimp only;exact fl (HY XE h b g)
end
variable{XY:List Int}{XR:Type}{n:Array Nat}
def Pc(J:List XR)(r:XR):(range J.length).map (λh=>J.getD h r)=J:=by
 apply xl
 ·simp
 ·intro h l t;simp[List.getD,t]
def vL{J:List XR}{r:XR}(b:dS J.length n):(n.toList.map λh=>J.getD h r).Perm J:=by
 have:=sr (λh=>J.getD h r) b;rw[Pc]at this;exact this
theorem rG{XR Yv:Type}{N:XR->Yv->Prop}:∀{a:List XR}{c:List Yv},a.length=c.length->(∀(h:Nat) g d,a[h]?=Z g->c[h]?=Z d->N g d)->dB N a c
 |[],[],_,_=>.nil
 |g::J,d::E,b,F=>.cons (F 0 g d rfl rfl) (rG ⇑b λh e A l t=>F (h+1) e A ⇑l ⇑t)
 |[],_::_,b,_=>by simp at b
 |_::_,[],b,_=>by simp at b
section
variable{XJ:bB}{H:a9}{L:br}{XA:ag->au->Prop}{m:au}{Q:List ag}
def wk{Ya:aq}{Y6:Nat}{XI:PySem.Fin->au->Prop}(XX:Nat->Int)(X6:gA)(e:m.heap.get? Ya=Z (fL "list" Q.toArray Y6))(C:2<=Q.length->∀c:aV,(∀d o,d≠Ya->m.heap.get? d=Z o->c.get? d=Z o)->∀y:gA->au->Prop,y X6 {m with heap:=c}->wpAny (aN XJ H) L (yA Q.toArray) y XA {m with heap:=c})(D:∀c:aV,(∀d o,d≠Ya->m.heap.get? d=Z o->c.get? d=Z o)->jE Q.length XX (ix XJ H L X6<|Q.toArray.zip Q.toArray) {m with heap:=c})(E:Q.length<64)(F:Q.length<=1000)(b:∀(n:Array Nat) (ah:aV),dS Q.length n->lN XX n Q.length->(∀d o,d≠Ya->m.heap.get? d=Z o->ah.get? d=Z o)->(∃a,ah.get? Ya=Z (fL "list" (n.toList.map λh=>Q.getD h ag.none).toArray a))->
   XI (.done<|.ret .none) {m with heap:=ah}):wpAny (aN XJ H) L (bc.«list.sort» ⟨[.ref Ya],[]⟩) XI XA m:=by
 have x:Q.length<=sizeLine:=dg F ∅;rw[list_sort_plain];have S:Ya<m.heap.objs.size:=cn e;refine aw (listItems_at e rfl (aw (Fq e rfl ?_ (hsz:=by rw[cK];exact x) (hsz2:=by show 0<=_;exact e9 _))));have q:=Gb e (λ_=>#[]);generalize T:(if (#[]:Array ag).size==Q.toArray.size then Y6 else Y6+1)=z at q;refine aw (seqEpoch_at q rfl (aw (wpAny_newTuple (aw<|tq<|fS ?_) ⇑x)));have i:∀d o,d≠Ya->m.heap.get? d=Z o->(((m.heap.update Ya<|a5.mapSeq λ_=>#[]).push<|fL "tuple" Q.toArray.toList.toArray 0).push<|fL "list" ([]:List ag).toArray 0).get? d=Z o:=λd o j a=>
  cw _ (cw _<|(gM _ _<|dn j).trans a);have Yj:(((m.heap.update Ya<|a5.mapSeq λ_=>#[]).push<|fL "tuple" Q.toArray.toList.toArray 0).push<|fL "list" ([]:List ag).toArray 0).get? Ya=Z (fL "list" #[] z):=
  cw _ (cw _ q);show wpAny (aN XJ H) L _ XI XA {m with heap:=((m.heap.update Ya<|a5.mapSeq λ_=>#[]).push<|fL "tuple" Q.toArray.toList.toArray 0).push (fL "list" ([]:List ag).toArray 0)};generalize ((m.heap.update Ya<|a5.mapSeq λ_=>#[]).push<|fL "tuple" Q.toArray.toList.toArray 0).push (fL "list" ([]:List ag).toArray 0)=c at i Yj ⊢;have A:∀(R:eZ) (n:Array Nat),dS Q.length n->lN XX n Q.length->lD R=n.map (i7<|Q.toArray.zip Q.toArray)->qk R=V->
   wpAny (aN XJ H) L (do
    let N:=(<-seqEpoch Ya) != z
    bc.List.listUpdate (.ref Ya) λ_=>(lD R).map (·.2)
    if let Z a:=qk R then rule "list.sort.comparison-raised";throw a
    if N then rule "list.sort.modified";raiseError "ValueError" "list modified during sort"
    ret .none) XI XA {m with heap:=c}:=λR n l s u v=>by
  have out:=kat_snds (ks:=Q) (vs:=Q) rfl u;rw[out,v];refine aw (seqEpoch_at (s:={m with heap:=c}) Yj rfl (aw (Fq (s:={m with heap:=c}) Yj rfl ?_ (hsz:=e9 _) (hsz2:=by
   show (List.toArray<|n.toList.map λh=>Q.getD h ag.none).size<=_;rw[cK,a6,dA,l.size];lia))))
  simp only[bne_self_eq_false,hr,eR];refine aM (b n _ l s (λd o j a=>(gM _ _<|dn j).trans<|i d o j a) ⟨_,Gb Yj λ_=>_⟩)
 dsimp only;by_cases t:Q.toArray.size<2
 ·rw[aF t,aF t];refine aw (aM ?_);rw[StateT.run_pure];apply aw;apply aM;have w:Q.length<2:=by simpa using t
  refine A (eZ.mk' general' (Q.toArray.zip Q.toArray) #[] 7 V) (range Q.length).toArray (List.Perm.refl _) (λh k U al=>?_) ?_ rfl
  ·have:h=k:=⋯
   subst this;exact iJ _
  ·have:=kas_range (Q.toArray.zip Q.toArray);rw[show (Q.toArray.zip Q.toArray).size=Q.length by simp]at this;exact this.symm
 ·rw[if_neg t,if_neg t];have w:2<=Q.length:=by simpa using t
  refine aw (C w c i _ ?_)
  ·have O:=D c i;have B:=kas_range (Q.toArray.zip Q.toArray);rw[show (Q.toArray.zip Q.toArray).size=Q.length by simp]at B;have run:=Ll (XA:=XA) (y:=λ_ R XM=>XM={m with heap:=c}/\∃n,dS Q.length n/\lN XX n Q.length/\lD R=n.map (i7<|Q.toArray.zip Q.toArray)/\qk R=V) O
    w E λc5 am g d f r=>⟨rfl,c5,g,d,f,r⟩;unfold kas_st at run;rw[B]at run;refine aw (gz run (λp XM P=>?_) λ_ Y a=>a);let⟨I,R⟩:=p;let@⟨rfl,⟨@n,l,s,u,v⟩⟩:=P;exact A R n l s u v
end
section
variable{c:aI}{G:List (aq×a5)}{B:L2.aZ}{j:ax}{m:au}
def Cs(bi:c.calm=aa){g:aq}{XW:List ai}{XN:List ag}{v:Nat}{T:String}{o:a5}{y:cI}(XX:Nat->Int)(X6:gA)(z:aG c G B j m)(D:bN XW XN)(Q:T = "list" \/ T = "tuple")(a:m.heap.get? g=Z o)(av:o.cls=.type T)(R:o.data=.seq XN.toArray v)(bm:XW.length<=1000)(S:2<=XN.length->∀(b:aV) (Yb:Nat),(∀d o,m.heap.get? d=Z o->b.get? d=Z o)->∀(L:br) (XA:ag->au->Prop) (y:gA->au->Prop),y X6 {m with heap:=b,toks:=Yb}->wpAny (aN c.prog c.w) L (yA XN.toArray) y XA {m with heap:=b,toks:=Yb})(U:∀(b:aV) (Yb:Nat),(∀d o,m.heap.get? d=Z o->b.get? d=Z o)->jE XN.length XX (ix c.prog c.w c.A.in1.in1 X6<|XN.toArray.zip XN.toArray) {m with heap:=b,toks:=Yb})(al:XN.length<64)(s:∀(n:Array Nat) J,dS XN.length n->lN XX n XN.length->j J=V->y (.ref J) (upd j J<|.lst<|n.toList.map λh=>XW.getD h .aK)):
  wpAny (aN c.prog c.w) c.A (call (.builtin "sorted") [.ref g]) (eA c G B y) c.cP m:=by
 have bn:XW.length=XN.length:=D.length;have F:XN.length<=sizeLine:=dg ⋯ (show 1000<=sizeLine by decide);refine xn w7 AZ yf (yu _) ?i
 case i=>
  unfold bc.«sorted»;refine aw (m:=wd "sorted" 1 1 _) (aM (aw (wpAny_collect_seq g Q a av R (λah p=>?_) (by rw[cK];exact F))));show wpAny _ _ (r9 XN >>= _) _ _ _;refine aw (tq ?_ F);have M:(ah.push<|fL "list" XN.toArray 0).get? ah.objs.size=Z (fL "list" XN.toArray 0):=dE _ rfl;have bb:∀d o,m.heap.get? d=Z o->(ah.push<|fL "list" XN.toArray 0).get? d=Z o:=λd o a=>cw _ (p d o a);have N:aG c G B j {m with heap:=ah}:=z.kept (Yc:=m.toks) p;have O:∀d o,m.heap.get? d=Z o->d≠ah.objs.size:=λd o a=>c0 (cn<|p d o a);refine aw (fS<|iF ym ⟨_,M,rfl⟩ AS ?A<|zw _)
  case A=>
   refine wk (m:={m with heap:=ah.push (fL "list" XN.toArray 0)}) XX X6 M (λt b r y am=>S t b m.toks (λd o f=>r d o (O d o f)<|bb d o f) _ _ y am) (λb r=>U b m.toks λd o f=>r d o (O d o f)<|bb d o f) al ⋯ λn t x an ap ⟨as,a1⟩=>⟨_,rfl,aM ⟨_,rfl,?_⟩⟩;have a2:j ah.objs.size=V:=N.aU.fresh (bk _);have bd:∀d o,ah.get? d=Z o->d≠ah.objs.size:=λd o a=>c0 (cn a);refine⟨.ref ah.objs.size,upd j ah.objs.size<|.lst<|n.toList.map λh=>XW.getD h .aK,?_,rfl,s n _ x an a2⟩;refine N.laid (Yc:=m.toks) (λd I a=>ap d I (bd d I a)<|cw _ a) (bk _) ⟨?_,_,as,?_,a1⟩
   ·rw[a6,dA,x.size];lia
   ·refine rG ↥0 λh u I l t=>?_;rw[ef]at l t;cases C:n.toList[h]? with
    |none=>rw[C]at l;cases l
    |some q=>
     rw[C]at l t;cases l;cases t;have P:q<XN.length:=gJ.mp (x.mem_iff.mp<|fi C);let⟨@I,k,be⟩:=D.get (h:=q) (e:=XW[q]'⋯) (by simp[show q<XW.length by lia]);rw[dF P]at k;have k:=Option.some.inj k;simp only[List.getD,dF P,dF (show q<XW.length by lia),Cg];rw[k];exact be
end
def qm(XY:List Int)(h:Nat):Int:=(XY.getD h 0)
def Qb(ae:XY.Nodup):∀h k,h<XY.length->k<XY.length->qm XY h=qm XY k->h=k:=λh k XG c a=>by
 unfold qm at a;rw[cY,cY,dF XG,dF c]at a;have d:XY[h]=XY[k]:=a;rcases vo h k with b|b|b
 ·exact absurd d ((qM.mp ae) h k XG c b)
 ·exact b
 ·exact absurd d.symm ((qM.mp ae) k h c XG b)
def Pe(a:dS XY.length n)(e:lN (qm XY) n XY.length)(ae:XY.Nodup):(n.toList.map λh=>XY.getD h 0).Pairwise (· < ·):=by
 rw[qM];intro h k XG b f;have XO:=a.size;have i:h<XY.length:=by simpa [XO] using XG
 have c:k<XY.length:=by simpa [XO] using b
 have ne:=a.ne (Qb ae) f c;have le:=e h k ⋯ c;have O:∀q (d:q<(n.toList.map λh=>XY.getD h 0).length),(n.toList.map λh=>XY.getD h 0)[q]=bw (qm XY) n q:=λq d=>by
  have g:q<n.size:=by simpa using d
  rw[Ie,HT];show _=XY.getD (n.getD q 0) 0;simp[Array.getD,g]
 rw[O h XG,O k b];lia
section
variable{c:aI}
theorem tj{j:ax}:∀{XY:List Int}{XN:List ag},bN (XY.map ai.int) XN->∀(h:Nat),h<XY.length->∃C,XN[h]?=Z (.int (XY.getD h 0) C)
 |v::p,_,.cons g d,0,b=>by let⟨@C,rfl⟩:=g;exact⟨C,rfl⟩
 |v::p,_,.cons g d,h+1,b=>by
  let⟨@C,a⟩:=tj (j:=j) d h ⇑b;exact⟨C,by simpa using a⟩
def Ou(w:c.calm=aa):eK c (.builtin "sorted") (λx j y=>∃(g:aq) (XY:List Int),x=[.ref g]/\j g=Z (.lst<|XY.map ai.int)/\XY.Nodup/\XY.length<=63/\
  ∀J (f:List Int),j J=V->f.Perm XY->f.Pairwise (· < ·)->y (.ref J) (upd j J<|.lst<|f.map ai.int)):=by
 intro G m B j x XZ y z p b;let⟨g,@XY,rfl,A,ae,P,s⟩:=b;let⟨@I,rfl,D⟩:=hD p;cases D;let@⟨i,⟨XN,@v,d,a⟩⟩:=z.aU g _ A;have o:XN.length=XY.length:=by rw[<-d.length,a6]
 refine Cs w (qm XY) oneType' z d (.inl rfl) a rfl rfl (by rw[a6];lia) (λt E Yb q L XA y F=>?_) (λE Yb q=>?_) ⋯ λn J e r aW=>?_
 ·refine kas_kind (T:=ag.type "int") t (λu H=>?_) ∅ ∅ F;let⟨@h,XG⟩:=vB H;let⟨@C,bV⟩:=tj (j:=j) d h (by rw[<-o];exact (e7.mp XG).1);rw[XG]at bV;cases bV;exact wV rfl
 ·intro h k aL XG Q s;let⟨@C,l⟩:=tj (j:=j) d h ⋯;let⟨@I,t⟩:=tj (j:=j) d k ⋯;unfold ix;rw[uH rfl,uH rfl,cY,cY,l,t];show wpAny _ _ (keyLt' oneType' (.int _ C)<|.int _ I) _ _ _;rw[keyLt'_oneType];exact oneLt_int s
 ·rw[o]at e r;have M:(n.toList.map λh=>(XY.map ai.int).getD h .aK)=(n.toList.map λh=>XY.getD h 0).map ai.int:=by
   rw[fM];refine hx λq N=>?_;have O:q<XY.length:=gJ.mp (e.mem_iff.mp N);show (XY.map ai.int).getD q .aK=ai.int (XY.getD q 0);simp[List.getD,O]
  rw[M];exact s J _ aW (vL e) (Pe e r ae)
end
end L2
namespace L2
open Spec PyProof.Rows
section
variable{c:aI}
def HM:List X->List X->List X
 |e::x,A::XW=>.tup [e,A]::HM x XW
 |_,_=>[]
@[simp] def Xp(O:aC (List bo)):jW:=λw=>(O w).bind λn=>(hq n.2 n.1).bind λD=>match D with
 |[.im (.tup e),.im<|.tup A]=>Z ((HM e A,V),n.2)
 |_=>V
@[simp] def Xi:hu:=λD=>match D with
 |[.im (.int h),.im<|.int k,.im<|.int q]=>Z (.im<|.int<|min (min h k) q)
 |_=>V
def kz(lt:X->X->Bool)(e:X):List X->List X
 |[]=>[e]
 |A::p=>if lt e A=aa then e::A::p else A::kz lt e p
def fU(lt:X->X->Bool):List X->List X
 |[]=>[]
 |e::p=>kz lt e (fU lt p)
def uB:X->X->Bool
 |.int h,.int k=>decide (h<k)
 |_,_=>aA
def lJ:List X->Option (List Int)
 |[]=>Z []
 |.int h::p=>(lJ p).map λm=>h::m
 |_::_=>V
@[simp] def xv:hu:=λD=>match D with
 |[.lst e]=>(lJ e).bind λXY=>if XY.Nodup/\XY.length<=63 then Z (.lst<|fU uB e) else V
 |_=>V
def Pf(XY:List Int):lJ (XY.map .int)=Z XY:=by
 induction XY with
 |nil=>rfl
 |cons v p a=>rw[bz,lJ,a];rfl
def mf(e:Int):List Int->List Int
 |[]=>[e]
 |A::p=>if e<A then e::A::p else A::mf e p
def p2:List Int->List Int
 |[]=>[]
 |e::p=>mf e (p2 p)
theorem DV(e:Int):∀J:List Int,kz uB (.int e) (J.map .int)=(mf e J).map .int
 |[]=>rfl
 |A::p=>by
  rw[bz,kz,mf,uB];by_cases b:e<A
  ·rw[aF ⇑b,aF b];rfl
  ·rw[if_neg ⇑b,if_neg b,DV e p];rfl
theorem HR:∀J:List Int,fU uB (J.map .int)=(p2 J).map .int
 |[]=>rfl
 |e::p=>by rw[bz,fU,HR p,DV];rfl
theorem yN(e:Int):∀J:List Int,(mf e J).Perm (e::J)
 |[]=>List.Perm.refl _
 |A::p=>by
  rw[mf];split
  ·exact List.Perm.refl _
  ·exact ((yN e p).cons A).trans (List.Perm.swap e A p)
theorem zm:∀J:List Int,(p2 J).Perm J
 |[]=>List.Perm.refl _
 |e::p=>(yN e _).trans ((zm p).cons e)
theorem CD(e:Int):∀J:List Int,J.Pairwise (·<=·)->(mf e J).Pairwise (·<=·)
 |[],_=>es _ _
 |A::p,b=>by
  let⟨l,t⟩:=hv.mp b;rw[mf];split
  ·rename_i c;refine hv.mpr ⟨λi a=>?_,b⟩;rcases b0.mp a with rfl|a
   ·lia
   ·have:=l i a;lia
  ·rename_i c;refine hv.mpr ⟨λi a=>?_,CD e p t⟩;rcases b0.mp ((yN e p).mem_iff.mp a) with rfl|a
   ·lia
   ·exact l i a
theorem Df:∀J:List Int,(p2 J).Pairwise (·<=·)
 |[]=>List.Pairwise.nil
 |e::p=>CD e _ (Df p)
def T7{J:List Int}(b:J.Nodup):(p2 J).Pairwise (· < ·):=by
 have l:=Df J;have t:(p2 J).Nodup:=(zm J).nodup_iff.mpr b;exact SO (λg d e A=>⋯) l t
theorem DI:∀{J E:List Int},J.Perm E->J.Pairwise (· < ·)->E.Pairwise (· < ·)->J=E
 |[],E,b,_,_=>b.nil_eq
 |g::J,[],b,_,_=>absurd b.length_eq ↥0
 |g::J,d::E,b,f,h=>by
  have c:=hv.mp f;have e:=hv.mp h;have a:g=d:=by
   rcases b0.mp (b.mem_iff.mp<|.head _) with i|i
   ·exact i
   ·rcases b0.mp (b.mem_iff.mpr<|.head _) with A|A
    ·exact A.symm
    ·have l:=c.1 d A;have t:=e.1 g i;omega
  subst a;rw[DI b.cons_inv c.2 e.2]
theorem x2:∀{e:List X}{XY:List Int},lJ e=Z XY->e=XY.map .int
 |[],XY,b=>by cases b;rfl
 |.int h::p,XY,b=>by
  rw[lJ]at b;let⟨m,l,rfl⟩:=b5.mp b;rw[x2 l];rfl
 |.aK::_,_,b=>by cases b
 |.aH _::_,_,b=>by cases b
 |.str _::_,_,b=>by cases b
 |.tup _::_,_,b=>by cases b
 |.fn _::_,_,b=>by cases b
 |.aW _::_,_,b=>by cases b
 |.fd _::_,_,b=>by cases b
theorem yx{j:ax}:∀{XY:List Int}{Q:List ai},bt j (XY.map .int) Q->Q=XY.map ai.int
 |[],Q,b=>b
 |v::p,Q,b=>by
  let⟨u,C,rfl,l,t⟩:=b;cases (show u=.int v from l);rw[yx t];rfl
theorem C2{j:ax}:∀XY:List Int,bt j (XY.map .int) (XY.map ai.int)
 |[]=>rfl
 |v::p=>⟨.int v,_,rfl,rfl,C2 p⟩
def Uk(f:c.calm=aa)(k:c.A.units+20<bj):gX c (.builtin "sorted") xv:=by
 refine (Ou f).imp λx j y ⟨D,r,g,a,s⟩=>?_;unfold xv at a;split at a
 ·rename_i e;let⟨XY,h,b⟩:=bg.mp a;split at b
  ·rename_i d;cases b;let⟨u,rfl,Y,n,x,rfl,l,t,Y⟩:=gq g;cases x2 h;cases yx t;refine⟨n,XY,rfl,l,d.1,d.2,λJ m aW X5 i=>?_⟩;rw[HR]at s;rw[DI (X5.trans (zm XY).symm) i (T7 d.1)];exact ck.l s aW (C2 _)
  ·cases b
 ·cases a
def Sq(a:c.A.units+20<bj):pg c kI:=Eu
end
end L2
namespace L2
open Spec PyProof.Rows PySem.W
section
variable{c:aI}{G:List (aq×a5)}{B:aZ}{j:ax}{m:au}
def aG.Up(z:aG c G B j m)(r:Drawn):aG c G B j {m with drawn:=r}:=⟨z.ok,z.os,z.bare,z.base,z.loc,z.cell,z.free,z.iX,z.pin,z.aU,z.len⟩
end
end L2
namespace L2
open Spec PyProof.Rows
variable{Yo:a5}{I:eY}{g:aq}{Xz:List aq}{v:aC ak}{XP:b9}{X6:Type}{j:ax}{q:aY}
def S3{q:cy}{I:ag}(b:oU q I=aa):bU (bR q) I:=by
 rcases kV b with ⟨h,C,rfl,rfl⟩|⟨e,C,rfl,rfl⟩
 ·exact⟨C,rfl⟩
 ·exact⟨C,rfl⟩
theorem E1{X6:Type}:∀{Xy:List (X6×ai)}{Q:List (X6×ag)},eE Xy Q->∀{h:Nat}{q:X6}{e:ai},Xy[h]?=Z (q,e)->∃I,Q[h]?=Z (q,I)/\bU e I
 |_,_,.nil,h,q,e,b=>by simp at b
 |_,(a,I)::_,.cons g d,0,q,e,b=>by
  simp at b;subst b;let@⟨rfl,p⟩:=g;exact⟨I,rfl,p⟩
 |_,_::_,.cons g d,h+1,q,e,b=>by
  let⟨@I,l,t⟩:=E1 d (h:=h) ⇑b;exact⟨I,by simpa using l,t⟩
section
variable{c:aI}
def pL:X->Option cy
 |.int h=>Z (.inl h)
 |.str e=>Z (.inr e)
 |_=>V
@[simp] theorem W0(h:Int):pL (.int h)=Z (.inl h):=rfl
@[simp] theorem W4(e:aD):pL (.str e)=Z (.inr e):=rfl
def qn:cy->X
 |.inl h=>.int h
 |.inr e=>.str e
@[simp] theorem Xh(h:Int):qn (.inl h)=.int h:=rfl
@[simp] theorem Xc(e:aD):qn (.inr e)=.str e:=rfl
def U5(q:cy):b8 j (qn q) (bR q):=by cases q<;>rfl
def zP{r:X}{u:ai}{q:cy}(b:b8 j r u)(a:pL r=Z q):u=bR q:=by
 cases r with
 |int h=>cases a;exact b
 |str e=>cases a;exact b
 |_=>cases a
def ei{X6:Type}[DecidableEq X6](Xy:List (X6×X))(q:X6)(r:X):List (X6×X):=(
 if (Xy.any λa=>decide (a.1=q))=aa then Xy.map (λa=>if a.1=q then (a.1,r) else a) else Xy++[(q,r)])
def dW.any[DecidableEq X6]{j:ax}{q:X6}{J:List (X6×X)}{E:List (X6×ai)}(b:dW j J E):(J.any λa=>decide (a.1=q))=(E.any λa=>decide (a.1=q)):=by
 unfold dW at b;induction b with
 |nil=>rfl
 |cons p _ c=>rw[i8,i8,c,p.1]
def dW.upd[DecidableEq X6]{j:ax}{q:X6}{r:X}{u:ai}(H:b8 j r u){J:List (X6×X)}{E:List (X6×ai)}(b:dW j J E):dW j (J.map λc=>if c.1=q then (c.1,r) else c) (E.map λc=>if c.1=q then (c.1,u) else c):=by
 unfold dW at b;induction b with
 |nil=>exact .nil
 |@cons n s _ _ p _ e=>
  rw[bz,bz];refine .cons ?_ e;by_cases a:n.1=q
  ·have d:s.1=q:=p.1.symm.trans a;rw[aF a,aF d];exact⟨p.1,H⟩
  ·have d:¬ s.1=q:=λi=>a (p.1.trans i);rw[if_neg a,if_neg d];exact p
def Me{XR Yv:Type}{N:XR->Yv->Prop}{J:List XR}{E:List Yv}{g:XR}{d:Yv}(b:dB N J E)(e:N g d):dB N (J++[g]) (E++[d]):=by
 induction b with
 |nil=>exact .cons e .nil
 |cons p _ a=>exact .cons p a
def dW.put[DecidableEq X6]{j:ax}{q:X6}{r:X}{u:ai}(H:b8 j r u){J:List (X6×X)}{E:List (X6×ai)}(b:dW j J E):dW j (ei J q r) (eM E q u):=by
 unfold ei eM;rw[b.any];split
 ·exact b.upd H
 ·exact Me b ⟨rfl,H⟩
@[simp] def qg:aC ak:=λw=>Z (.aE [],w)
def xR:bZ c (.Dict [] [] XP) qg:=by
 refine dR VL λB j y ⟨w,N,p,X0,R,ae,d,s⟩ n b=>?_;cases d;have m:cN j (L2.upd j n<|.aE []):=(cN.refl j).upd b;have e:a8 j N j (N++[]):=by rw[bO];exact a8.perm ae (List.Perm.refl _)
 exact s _ _ N [n] (R.mono m.tupS λg Y o a=>m g o a) ⟨n,[],rfl,dx,.nil,rfl⟩ (e.new m (es _ _) (λg f=>by rw[cf.mp f];exact b) R.chg)
@[simp] def KP(v a:aC ak):aC ak:=λw=>(v w).bind λn=>(a n.2).bind λs=>match n.1,s.1 with
 |.im q,.im r=>(pL q).map λb=>(.cb [(b,r)],s.2)
 |_,_=>V
def MT{u:aY}{G:aC ak}(O:bZ c q v)(P:bZ c u G):bZ c (.Dict [Z q] [u] XP) (KP v G):=by
 refine dR (Cu (Bi O P FL) rfl rfl ↥0 (show 1<=15 by decide)) λB j y ⟨w,N,p,X0,R,ae,Q,s⟩ n k=>?_;let⟨@⟨Ym,XD⟩,l,t⟩:=bg.mp Q;let⟨@⟨T,X_⟩,S,C⟩:=bg.mp t;have m:cN j (L2.upd j n<|.cb []):=(cN.refl j).upd k;have H:n∉N:=λi=>by let⟨@o,a,Y⟩:=R.chg n i;rw[k]at a;cases a
 refine⟨w,N,Ym,XD,R.mono m.tupS λg Y o a=>m g o a,ae,l,λe XE XT be U al r=>?_⟩;have am:=cH.mp r.ae;refine⟨XD,XT,T,X_,U,am.1,S,λA XS X4 bJ an Yq z=>?_⟩;dsimp only at C;split at C
 ·rename_i bi bm;let⟨@D,ap,as⟩:=b5.mp C;cases as;let@⟨cc,rfl⟩:=al;let@⟨a1,rfl⟩:=Yq;rw[bO]at r z;have E:=r.seq z;have J:XE n=Z (.cb []):=r.keep n _ dx H;have L:n∉XT:=λi=>by
   rcases r.sub n i with b|b
   ·exact H b
   ·rw[dx]at b;cases b
  have F:XS n=Z (.cb []):=z.keep n _ J L;have M:n∉X4:=λi=>by
   rcases z.sub n i with b|b
   ·exact L b
   ·rw[J]at b;cases b
  have f:fu XS n:=⟨_,F,(λ_ a=>by cases a),(λ_ Y a=>by cases a)⟩;refine⟨F,[(D,A)],?_,(show 1<=15 by decide),?_⟩
  ·show [(e,A)]=[(bR D,A)];rw[zP cc ap]
  ·have fB:eC XS (L2.upd XS n<|.cb [(D,A)]):=eC.of (λg x a=>by
    have:g≠n:=λi=>by subst i;rw[F]at a;cases a
    rw[cm this];exact a) λg o I a=>by
    have:g≠n:=λi=>by subst i;rw[F]at a;cases a
    rw[cm this];exact a
   have mono:=fB.tup;refine s _ _ X4 [n] (an.mono fB λg h o a=>by
    have ne:g≠n:=λi=>by subst i;exact M h
    rw[cm ne];exact a) ⟨n,[(D,A)],rfl,dx,.cons ⟨rfl,a1.mono mono⟩ .nil,rfl⟩ ?_
   refine⟨λg o a h=>?_,λg h=>?_,?_,?_,λg o a=>?_⟩
   ·have:g≠n:=λi=>by subst i;rw[k]at a;cases a
    rw[cm this];exact E.keep g o (by rw[cm this];exact a) h
   ·rcases dM.mp h with b|b
    ·rcases E.sub g b with ah|ah
     ·exact .inl ah
     ·by_cases a:g=n
      ·exact .inr (a ▸ k)
      ·rw[cm a]at ah;exact .inr ah
    ·exact .inr (by rw[cf.mp b];exact k)
   ·exact cH.mpr ⟨z.ae,es _ _,λg h d a2 a=>M (by rw[cf.mp a2]at a;rw[<-a];exact h)⟩
   ·exact (m.tupS.trans E.tup).trans fB
   ·by_cases i:g=n
    ·exact⟨_,by rw[i];exact dx⟩
    ·let⟨@Yy,bd⟩:=E.grow g o (by rw[cm i];exact a);exact⟨Yy,by rw[cm i];exact bd⟩
 ·cases C
@[simp] def hG(f q r:ak):Option ak:=match f,q,r with
 |.lst x,.im<|.int h,.im r=>(jP x.length h).map λk=>.lst (x.set k r)
 |.cb Xy,.im q,.im r=>(pL q).bind λa=>if Xy.length<100000 then Z (.cb<|ei Xy a r) else V
 |.aE Xy,.im<|.tup q,.im r=>if X.keys 7 q=aa/\Xy.length<100000 then Z (.aE<|ei Xy q r) else V
 |_,_,_=>V
def pv(J:c.A.units+20<bj):pg c hG:=by
 intro G m B j o h u M N I y z i n p O;let⟨f,q,r,P,Xz,@XC,v,w,D,ae,a,s⟩:=O;unfold hG at a;split at a
 ·exact Eu G m B j o h u M N I y z i n p ⟨_,_,_,P,Xz,XC,v,w,D,ae,a,s⟩
 ·let⟨@U,Q,E⟩:=bg.mp a;split at E
  ·rename_i b;cases E;let⟨g,@XW,rfl,l,t,rfl⟩:=v;let@⟨hd,rfl⟩:=D;have f:fu j g:=⟨_,l,(λ_ a=>by cases a),(λ_ Y a=>by cases a)⟩;cases i;have R:=zP w.1 Q;subst R;refine xK J z (mD.k l (by rw[<-t.length];exact y5 b)) n p λXM F=>⟨_,F,s _ [g] ?_ (a8.chg (.head _) f (es _ _) λe H=>by simpa using H)⟩;exact⟨g,_,rfl,dx,(dW.put hd t).mono<|b8.k9 f,rfl⟩
  ·cases E
 ·split at a
  ·rename_i b;cases a;let⟨g,@XW,rfl,l,t,rfl⟩:=v;let@⟨hd,rfl⟩:=D;have f:fu j g:=⟨_,l,(λ_ a=>by cases a),(λ_ Y a=>by cases a)⟩;cases i;let⟨d,@x,rfl,S,T⟩:=w.1;refine xK J z (mD.t l ⟨b.1,d,x,rfl,S,T⟩ (by rw[<-t.length];exact y5 b.2)) n p λXM F=>⟨_,F,s _ [g] ?_ (a8.chg (.head _) f (es _ _) λe H=>by simpa using H)⟩;exact⟨g,_,rfl,dx,(dW.put hd t).mono<|b8.k9 f,rfl⟩
  ·cases a
 ·cases a
@[simp] def so(h:Nat)(v ox:aC ak):aC ak:=λw=>match w[h]? with
 |some (Z a)=>if nL a=aa then (v w).bind λn=>(ox n.2).bind λs=>match s.2[h]?,n.1,s.1 with
   |some (Z<|.cb Xy),.im q,.im r=>(pL q).map λb=>(.im<|(cF Xy b).getD r,s.2)
   |some (Z<|.aE Xy),.im<|.tup q,.im r=>if X.keys 7 q=aa then Z (.im<|(cF Xy q).getD r,s.2) else V
   |_,_,_=>V
  else V
 |_=>V
def Rq{f:ak}{e:ai}(b:b_ j f e Xz)(a:nL f=aa):∃g,e=.ref g/\tJ j g:=by
 cases f with
 |cb D=>let⟨g,@x,rfl,l,Y⟩:=b;exact⟨g,rfl,.inl ⟨x,.inl l⟩⟩
 |aE D=>let⟨g,@x,rfl,l,Y⟩:=b;exact⟨g,rfl,.inr ⟨x,.inl l⟩⟩
 |_=>cases a
def y8[DecidableEq X6]{j:ax}{q:X6}{Xy:List (X6×X)}{Yk:List (X6×ai)}{r:X}{u:ai}(b:dW j Xy Yk)(H:b8 j r u):b8 j ((cF Xy q).getD r) ((f9 Yk q).getD u):=by
 let@⟨l,t⟩:=mr (q:=q) b;cases a:cF Xy q with
 |none=>rw[t a];exact H
 |some e=>let⟨@I,c,d⟩:=l e a;rw[c];exact d
def Tb{h:Nat}{o e:aY}{ox:aC ak}{YK YA:b9}(I:c.A.units+20<bj)(J:bu c o (hZ h))(M:bZ c q v)(hd:bZ c e ox)(E:He c o "get" YK q e YA:=by exact⟨rfl,rfl,rfl,rfl⟩):
  bZ c (.Call (.Attribute o "get" YK) [q,e] [] YA) (so h v ox):=by
 refine dR (UQ I J M hd E) λB j y O=>?_;let⟨w,N,p,@X0,R,ae,b,s⟩:=O;unfold so at b;split at b
 ·rename_i ce P;split at b
  ·rename_i Q;let⟨ch,ci,@cl,r,S,Y,Y⟩:=R.out P;let⟨@g,rfl,U⟩:=Rq S Q;let⟨@⟨Ym,XD⟩,l,t⟩:=bg.mp b;let⟨@⟨T,X_⟩,al,a⟩:=bg.mp t;refine⟨_,r,g,rfl,U,w,N,Ym,XD,R,ae,l,λA XE XT co am H f=>?_⟩;have an:=cH.mp f.ae;refine⟨XD,XT,T,X_,am,an.1,al,λi XS X4 bJ n Yq k=>?_⟩;dsimp only at a;split at a
   ·rename_i Xy ap as u;let⟨@a1,a2,bd⟩:=b5.mp a;cases bd;let@⟨cc,rfl⟩:=H;let@⟨z,rfl⟩:=Yq;rw[bO]at f k;let⟨be,Xz,@bi,m,C,bm,bn⟩:=n.out u;rw[r]at m;cases m;let⟨bs,@Yk,D,F,G,Y⟩:=C;cases D;refine⟨_,.inl ⟨Yk,a1,.inl F,zP cc a2,rfl⟩,s _ XS X4 [] n ⟨y8 G z,rfl⟩ (by rw[bO];exact f.seq k)⟩
   ·rename_i Xy ap as u;split at a
    ·rename_i bv;cases a;let@⟨cc,rfl⟩:=H;let@⟨z,rfl⟩:=Yq;rw[bO]at f k;let⟨be,Xz,@bi,m,C,bm,bn⟩:=n.out u;rw[r]at m;cases m;let⟨bs,@Yk,D,F,G,Y⟩:=C;cases D;let⟨d,@x,rfl,ca,cd⟩:=cc.mono k.tup.tup;exact⟨_,.inr ⟨Yk,_,d,.inl F,rfl,⟨bv,d,x,rfl,ca,cd⟩,rfl⟩,s _ XS X4 [] n ⟨y8 G z,rfl⟩ (by rw[bO];exact f.seq k)⟩
    ·cases a
   ·cases a
  ·cases b
 ·cases b
def GI:bo->ak->Option (Nat×ak)
 |.aR h,r=>Z (h,r)
 |.bY _,_=>V
@[simp] theorem W8(h:Nat)(r:ak):GI (.aR h) r=Z (h,r):=rfl
@[simp] theorem Xr(f r:ak):GI (.bY f) r=V:=rfl
def Qf{XY:List Int}{XZ:List ag}(p:bN (XY.map ai.int) XZ)(h:Nat)(u:ag)(b:XZ[h]?=Z u):∃C,u=.int ((XY[h]?).getD 0) C:=by
 have c:=p.length;rw[a6]at c;have XG:h<XY.length:=by rw[c];exact (e7.mp b).1
 let⟨@I,d,⟨@C,a⟩⟩:=p.get (h:=h) (e:=ai.int XY[h]) (by simp[XG]);rw[b]at d;cases d;exact⟨C,by rw[a];simp[XG]⟩
def E5:ak->ak
 |.lst e=>.im (.aW e)
 |.aE []=>.im (.fd [])
 |r=>r
@[simp] theorem W5(e:List X):E5 (.lst e)=.im (.aW e):=rfl
@[simp] theorem Xv(r:X):E5 (.im r)=.im r:=rfl
def Fu(b:j g=Z I)(c:∀x,I≠.tup x)(YN:∀n u,I≠.dw n u):eC j (upd j g<|.dw Yo I):=eC.of (λd x a=>by
  have:d≠g:=λi=>by subst i;rw[b]at a;cases a;exact c _ rfl
  rw[cm this];exact a) λd o I a=>by
  have:d≠g:=λi=>by subst i;rw[b]at a;cases a;exact YN _ _ rfl
  rw[cm this];exact a
def Tx{G:List (aq×a5)}{B:aZ}{XE:ax}{h:au}{y:cI}{N XT:List aq}{XD:aQ}{r:ak}(m:bq XE XD B XT)(e:a8 j N XE (XT++Xz))(p:XE g=Z I)(q:∀x,I≠.tup x)(YN:∀n H,I≠.dw n H)(t:Xz=[g])(v:aG c G B (upd XE g<|.dw Yo I) h)(hd:eC XE (upd XE g<|.dw Yo I)->b_ (upd XE g<|.dw Yo I) r (.ref g) [])(s:∀u S Yf k,bq S XD B Yf->b_ S r u k->a8 j N S (Yf++k)->y u S):eA c G B y (.ref g) h:=by
 subst t;have l:=cH.mp e.ae;have w:g∉XT:=λi=>l.2.2 g i g (.head _) rfl;have fB:=Fu (Yo:=Yo) p q YN;refine⟨.ref g,_,v,rfl,s _ _ XT [] (m.mono fB λd f o a=>by
   have ne:d≠g:=λi=>by subst i;exact w f
   rw[cm ne];exact a) (hd fB) ?_⟩
 rw[bO];refine⟨λd o a f=>?_,λd f=>e.sub d<|d6 _ f,l.1,e.tup.trans fB,λd o a=>?_⟩
 ·have:d≠g:=λi=>by
   subst i;rcases e.sub d (dH _<|.head _) with b|b
   ·exact f b
   ·rw[a]at b;cases b
  rw[cm this];exact e.keep d o a f
 ·by_cases i:d=g
  ·exact⟨_,by rw[i];exact dx⟩
  ·let⟨@Yy,z⟩:=e.grow d o a;exact⟨Yy,by rw[cm i];exact z⟩
end
end L2
namespace di
open Spec PyProof.Rows
end di
namespace L2
open Spec PyProof.Rows
variable{L:br}{YV YD YF:aC bo}{U F:fp}{y:ag->au->Prop}{d:Bool}{T:ak}{I u:ag}{A:ai}{m:au}{j:ax}{B:aZ}{G:List (aq×a5)}{e r:X}
theorem Hy{b:aV}:∀(v:Nat) {e A:X}{u:ag},X.bl v e=aa->X.bl v A=aa->dh b e u->dh b A u->e=A
 |v,.aK,A,u,_,a4,j,c=>by
  cases (show u=.none from j);cases A with
  |aK=>rfl
  |aH d=>cases c
  |int k=>let⟨@I,a⟩:=c;cases a
  |str i=>let⟨@I,a⟩:=c;cases a
  |tup D=>let⟨Y,Y,Y,@Y,a,Y⟩:=c;cases a
  |fn g=>cases v<;>cases a4
  |aW g=>cases v<;>cases a4
  |fd=>cases v<;>cases a4
 |v,.aH d,A,u,_,a4,j,c=>by
  cases (show u=.bool d from j);cases A with
  |aK=>cases c
  |aH f=>cases c;rfl
  |int k=>let⟨@I,a⟩:=c;cases a
  |str i=>let⟨@I,a⟩:=c;cases a
  |tup D=>let⟨Y,Y,Y,@Y,a,Y⟩:=c;cases a
  |fn g=>cases v<;>cases a4
  |aW g=>cases v<;>cases a4
  |fd=>cases v<;>cases a4
 |v,.int h,A,u,_,a4,j,c=>by
  let⟨@C,rfl⟩:=j;cases A with
  |aK=>cases c
  |aH f=>cases c
  |int k=>let⟨@I,a⟩:=c;injection a with a;rw[a]
  |str i=>let⟨@I,a⟩:=c;cases a
  |tup D=>let⟨Y,Y,Y,@Y,a,Y⟩:=c;cases a
  |fn g=>cases v<;>cases a4
  |aW g=>cases v<;>cases a4
  |fd=>cases v<;>cases a4
 |v,.str h,A,u,_,a4,j,c=>by
  let⟨@C,rfl⟩:=j;cases A with
  |aK=>cases c
  |aH f=>cases c
  |int k=>let⟨@I,a⟩:=c;cases a
  |str i=>let⟨@I,a⟩:=c;injection a with a;rw[a]
  |tup D=>let⟨Y,Y,Y,@Y,a,Y⟩:=c;cases a
  |fn g=>cases v<;>cases a4
  |aW g=>cases v<;>cases a4
  |fd=>cases v<;>cases a4
 |v+1,.tup D,A,u,y,a4,j,c=>by
  let⟨g,o,X1,@E,rfl,l,t,z,B⟩:=j;cases A with
  |aK=>cases c
  |aH f=>cases c
  |int k=>let⟨@I,a⟩:=c;cases a
  |str i=>let⟨@I,a⟩:=c;cases a
  |fn g=>cases a4
  |aW g=>cases a4
  |fd=>cases a4
  |tup P=>
   let⟨J,Yy,L,@M,a,x,N,m,F⟩:=c;cases a;rw[l]at x;cases x;rw[z]at m;injection m with m _;subst m;have all:∀(D P:List X) (Q:List ag),X.ct v D=aa->X.ct v P=aa->dy b D Q->dy b P Q->D=P:=by
    intro D;induction D with
    |nil=>
     intro P Q Y Y g d;cases P with
     |nil=>rfl
     |cons a P=>let⟨Y,@Y,s,Y⟩:=d;rw[show Q=[] from g]at s;cases s
    |cons r D G=>
     intro P Q n w g d;let⟨u,@p,rfl,H,YH⟩:=g;cases P with
     |nil=>cases (show u::p=[] from d)
     |cons a P=>
      let⟨O,@Yr,s,c2,c6⟩:=d;cases s;rw[X.ct,cq]at n w;rw[Hy v n.1 w.1 H c2,G P p n.2 w.2 YH c6]
   rw[all D P _ y a4 B F]
 |0,.tup _,_,_,q,_,_,_=>by cases q
 |v,.fn _,_,_,q,_,_,_=>by cases v<;>cases q
 |v,.aW _,_,_,q,_,_,_=>by cases v<;>cases q
 |v,.fd _,_,_,q,_,_,_=>by cases v<;>cases q
open Classical in
def jy(b:aV)(r:X)(u:ag):Bool:=(if i:∃e,X.bl 8 e=aa/\dh b e u then b1 i.choose r else aA)
def kP{b:aV}(q:X.bl 8 e=aa)(h:dh b e u):jy b r u=b1 e r:=by
 unfold jy;have i:∃e,X.bl 8 e=aa/\dh b e u:=⟨e,q,h⟩;rw[dif_pos i,Hy 8 i.choose_spec.1 q i.choose_spec.2 h]
theorem rQ{b:aV}{r:X}:∀{D:List X}{Q:List ag},X.ct 8 D=aa->dy b D Q->Q.any (jy b r)=D.any λe=>b1 e r
 |[],Q,_,a=>by rw[show Q=[] from a];rfl
 |e::D,Q,q,a=>by
  let⟨u,@p,rfl,l,t⟩:=a;rw[X.ct,cq]at q;rw[i8,i8,kP q.1 l,rQ q.2 t]
theorem oQ{b:aV}:∀{D:List X}{Q:List ag}{u:ag},X.ct 8 D=aa->dy b D Q->u∈Q->∃e,X.bl 8 e=aa/\dh b e u
 |[],Q,u,_,a,E=>by rw[show Q=[] from a]at E;cases E
 |e::D,Q,u,q,a,E=>by
  let⟨I,@p,rfl,l,t⟩:=a;rw[X.ct,cq]at q;rcases b0.mp E with rfl|E
  ·exact⟨e,q.1,l⟩
  ·exact oQ q.2 t E
section
variable{c:aI}
def f5(r:X):ak->Option Bool
 |.im (.tup D)=>if (X.bl 8 r&&X.ct 8 D)=aa then Z (D.any λe=>b1 e r) else V
 |.lst D=>if (X.bl 8 r&&X.ct 8 D)=aa then Z (D.any λe=>b1 e r) else V
 |.aE Xy=>match r with
  |.tup q=>if X.keys 7 q=aa then Z (cF Xy q).isSome else V
  |_=>V
 |.cb Xy=>match r with
  |.int h=>Z (cF Xy<|.inl h).isSome
  |.str e=>Z (cF Xy<|.inr e).isSome
  |_=>V
 |_=>V
@[simp] theorem LL(r:X)(D:List X):f5 r (.im<|.tup D)=if (X.bl 8 r&&X.ct 8 D)=aa then Z (D.any λe=>b1 e r) else V:=rfl
@[simp] theorem Rf(r:X)(D:List X):f5 r (.lst D)=if (X.bl 8 r&&X.ct 8 D)=aa then Z (D.any λe=>b1 e r) else V:=rfl
@[simp] theorem Hv(q:List X)(Xy:List (List X×X)):f5 (.tup q) (.aE Xy)=if X.keys 7 q=aa then Z (cF Xy q).isSome else V:=rfl
@[simp] def gr:fp:=λg d=>match g with
 |.im r=>(f5 r d).map λp=>.im (.aH p)
 |_=>V
@[simp] def hb:fp:=λg d=>match g with
 |.im r=>(f5 r d).map λp=>.im (.aH<|!p)
 |_=>V
def p5{X6:Type}[DecidableEq X6]{j:ax}{q:X6}{Xy:List (X6×X)}{Yk:List (X6×ai)}(b:dW j Xy Yk):(f9 Yk q).isSome=(cF Xy q).isSome:=by
 cases a:cF Xy q with
 |none=>rw[(mr b).2 a];rfl
 |some r=>let⟨@u,l,Y⟩:=(mr b).1 r a;rw[l];rfl
def Pw{e:ai}(M:c.A.units+20<bj)(z:aG c G B j m)(f:bU e u)(o:bU A I)(p:b8 j r e)(v:fy j T A)(a:f5 r T=Z d)(s:∀XM,aG c G B j XM->y (.bool d) XM):wpAny (aN c.prog c.w) c.A (eL .In u I) y c.cP m:=by
 unfold f5 at a;split at a
 ·rename_i D;split at a
  ·rename_i b;cases a;rw[cq]at b;let⟨g,@x,rfl,l,t⟩:=v.i;cases o;let⟨@XN,O,n,Y⟩:=z.tuple (da.of l);have E:=t.el z.aU O;refine SeqAt.in_tupleAt (jy m.heap r) (show m.heap.IsTuple g XN.toArray from n) (λH N=>?_) ?_
   ·let⟨@i,F,J⟩:=oQ b.2 E ⇑N;rw[kP F J];exact hM 8 F b.1 (by show c.A.units+1+8+1<bj;lia) J (p.el z.aU f)
   ·rw[ud,rQ b.2 E];exact s m z
  ·cases a
 ·rename_i D;split at a
  ·rename_i b;cases a;rw[cq]at b;let⟨Y,g,@x,rfl,l,t,Y⟩:=v;cases o;let⟨@XN,n,E,Y⟩:=qq z l t;refine SeqAt.in_listAt (jy m.heap r) n (λH N=>?_) ?_
   ·let⟨@i,F,J⟩:=oQ b.2 E ⇑N;rw[kP F J];exact hM 8 F b.1 (by show c.A.units+1+8+1<bj;lia) J (p.el z.aU f)
   ·rw[ud,rQ b.2 E];exact s m z
  ·cases a
 ·rename_i Xy;split at a
  ·rename_i q;split at a
   ·rename_i P;cases a;let⟨Y,g,@Yk,rfl,l,t,Y⟩:=v;cases o;let⟨d,@XW,rfl,Q,R⟩:=p;rw[<-p5 t]at s;exact we M z (e2.t l ⟨P,d,XW,rfl,Q,R⟩) f s
   ·cases a
  ·cases a
 ·rename_i Xy;split at a
  ·rename_i h;cases a;let⟨Y,g,@Yk,rfl,l,t,Y⟩:=v;cases o;rw[<-p5 t]at s;cases (show e=bR (.inl h) from p);exact we M z (e2.k l) f s
  ·rename_i h;cases a;let⟨Y,g,@Yk,rfl,l,t,Y⟩:=v;cases o;rw[<-p5 t]at s;cases (show e=bR (.inr h) from p);exact we M z (e2.k l) f s
  ·cases a
 ·cases a
def nG(b:c.A.units+20<bj):e3 c (eL .In) gr:=by
 intro G m B j e A u I y z f g k;let⟨Ym,T,@r,l,n,a,s⟩:=k;unfold gr at a;split at a
 ·let⟨@d,o,p⟩:=b5.mp a;cases p;exact Pw b z f g l.i n o λXM q=>⟨.aH d,j,q,rfl,ck.i s rfl⟩
 ·cases a
def Ow{e:ai}(M:c.A.units+20<bj)(z:aG c G B j m)(f:bU e u)(o:bU A I)(p:b8 j r e)(v:fy j T A)(a:f5 r T=Z d)(s:∀XM,aG c G B j XM->y (.bool<|!d) XM):wpAny (aN c.prog c.w) c.A (eL .NotIn u I) y c.cP m:=by
 unfold f5 at a;split at a
 ·rename_i D;split at a
  ·rename_i b;cases a;rw[cq]at b;let⟨g,@x,rfl,l,t⟩:=v.i;cases o;let⟨@XN,O,n,Y⟩:=z.tuple (da.of l);have E:=t.el z.aU O;refine SeqAt.notIn_tupleAt (jy m.heap r) (show m.heap.IsTuple g XN.toArray from n) (λH N=>?_) ?_
   ·let⟨@i,F,J⟩:=oQ b.2 E ⇑N;rw[kP F J];exact hM 8 F b.1 (by show c.A.units+1+8+1<bj;lia) J (p.el z.aU f)
   ·rw[ud,rQ b.2 E];exact s m z
  ·cases a
 ·rename_i D;split at a
  ·rename_i b;cases a;rw[cq]at b;let⟨Y,g,@x,rfl,l,t,Y⟩:=v;cases o;let⟨@XN,n,E,Y⟩:=qq z l t;refine SeqAt.notIn_listAt (jy m.heap r) n (λH N=>?_) ?_
   ·let⟨@i,F,J⟩:=oQ b.2 E ⇑N;rw[kP F J];exact hM 8 F b.1 (by show c.A.units+1+8+1<bj;lia) J (p.el z.aU f)
   ·rw[ud,rQ b.2 E];exact s m z
  ·cases a
 ·rename_i Xy;split at a
  ·rename_i q;split at a
   ·rename_i P;cases a;let⟨Y,g,@Yk,rfl,l,t,Y⟩:=v;cases o;let⟨d,@XW,rfl,Q,R⟩:=p;rw[<-p5 t]at s;exact A8 M z (e2.t l ⟨P,d,XW,rfl,Q,R⟩) f s
   ·cases a
  ·cases a
 ·rename_i Xy;split at a
  ·rename_i h;cases a;let⟨Y,g,@Yk,rfl,l,t,Y⟩:=v;cases o;rw[<-p5 t]at s;cases (show e=bR (.inl h) from p);exact A8 M z (e2.k l) f s
  ·rename_i h;cases a;let⟨Y,g,@Yk,rfl,l,t,Y⟩:=v;cases o;rw[<-p5 t]at s;cases (show e=bR (.inr h) from p);exact A8 M z (e2.k l) f s
  ·cases a
 ·cases a
def qb(b:c.A.units+20<bj):e3 c (eL .NotIn) hb:=by
 intro G m B j e A u I y z f g k;let⟨Ym,T,@r,l,n,a,s⟩:=k;unfold hb at a;split at a
 ·let⟨@d,o,p⟩:=b5.mp a;cases p;exact Ow b z f g l.i n o λXM q=>⟨.aH<|!d,j,q,rfl,ck.i s rfl⟩
 ·cases a
@[simp] def kO(F U:fp)(YF YD YV:aC bo):aC ak:=λw=>(YF w).bind λn=>(YD n.2).bind λs=>(dC s.2 n.1).bind λYm=>(dC s.2 s.1).bind λT=>(F Ym T).bind λr=>(qc r).bind λq=>
 if q=aa then (YV s.2).bind λp=>(dC p.2 s.1).bind λa=>(dC p.2 p.1).bind λb=>(U a b).bind λi=>(qc i).map λd=>(.im<|.aH d,p.2) else Z (.im<|.aH aA,s.2)
def OB{y:cI}(b:ml (kO F U YF YD YV) B j y):
  JU (λe A j y=>∃Ym T r,fy j Ym e/\fy j T A/\F Ym T=Z r/\ck j r y) (λe A j y=>∃Ym T r,fy j Ym e/\fy j T A/\U Ym T=Z r/\ck j r y) (mA YF) (mA YD) (mA YV) B j y:=by
 let⟨w,N,p,@X0,R,ae,c,s⟩:=b;let⟨@⟨E,XD⟩,l,c⟩:=bg.mp c;let⟨@⟨Yq,X_⟩,t,c⟩:=bg.mp c;let⟨@Ym,M,c⟩:=bg.mp c;let⟨@T,O,c⟩:=bg.mp c;let⟨@r,P,c⟩:=bg.mp c;let⟨@q,Q,k⟩:=bg.mp c;have hd:=q5 Q;subst hd;refine⟨w,N,E,XD,R,ae,l,λe XE XT S al cc z=>⟨XD,XT,Yq,X_,al,(cH.mp z.ae).1,t,λA XS X4 bJ m G n=>?_⟩⟩;have am:ia XS B E e S:=cc.mono n.tup λg f o a=>n.keep g o a λb=>(cH.mp z.ae).2.2 g b g f rfl;refine⟨Ym,T,_,am.read m M,G.read m O,P,λu I an h X7 dL eq=>?_⟩;let@⟨rfl,rfl⟩:=(show u=.aH q/\an=[] from X7);refine⟨q,rfl,?_⟩;have J:=z.trans n cc.chg;rw[bI]at J;have v:=J.new h gB (λg f=>nomatch f) m.chg;have L:bq I X_ B X4:=m.mono h.tupS λg Y o a=>h g o a;cases q with
 |false=>
  rw[if_neg cB]at k ⊢;cases k;exact s _ I X4 [] L ⟨rfl,rfl⟩ v
 |true=>
  rw[aF rfl]at k ⊢;let⟨@⟨ap,Yz⟩,as,a1⟩:=bg.mp k;let⟨@a2,bd,be⟩:=bg.mp a1;let⟨@bi,bm,bn⟩:=bg.mp be;let⟨@i,bs,bv⟩:=bg.mp bn;let⟨@d,ca,cd⟩:=b5.mp bv;cases cd;have ce:=q5 ca;subst ce;rw[bO]at v;refine⟨X_,X4,ap,Yz,L,v.ae,as,λH ch ci ev x cl C=>?_⟩;have co:=cH.mp n.ae;have cr:ia ch B Yq A bJ:=(G.mono h.tupS λg Y o a=>h g o a).mono C.tup λg f o a=>C.keep g o a λb=>co.2.2 g b g f rfl;refine⟨a2,bi,_,cr.read x bd,cl.read x bm,bs,λu cs db D ds ex fd=>?_⟩;let@⟨rfl,rfl⟩:=(show u=.aH d/\db=[] from ds);exact s _ cs ci [] (x.mono D.tupS λg Y o a=>D g o a) ⟨rfl,rfl⟩ ((v.seq C).new D gB (λg f=>nomatch f) x.chg)
def DL{Yn a:kA}{g d f:aY}{XP:b9}(b:e3 c (eL Yn) F)(e:e3 c (eL a) U)(h:du c g YF)(i:du c d YD)(k:du c f YV)(o:lastMarks [Yn,a] [d,f]=aA:=by with_unfolding_all rfl):iw c (.Compare g [Yn,a] [d,f] XP) (bb<|kO F U YF YD YV):=by
 refine si (QN b e h i k o) λB j y p=>?_;let⟨w,N,q,@X0,R,ae,r,s⟩:=p;refine OB ⟨w,N,.im<|.aH q,X0,R,ae,?_,λu S Yf Xz v X7 m=>⟨q,X7.1,s S Yf v (by rw[X7.2,bO]at m;exact m)⟩⟩;let⟨@n,l,t⟩:=bg.mp r;let⟨@A,x,z⟩:=b5.mp t;cases z;rw[l,<-q5 x]
end
mutual
def a3:X->X->Bool
 |.int h,.int k=>decide (h<k)
 |.str e,.str A=>decide (e.cps.toList<A.cps.toList)
 |.tup g,.tup d=>gg g d
 |_,_=>aA
def gg:List X->List X->Bool
 |[],[]=>aA
 |[],_::_=>aa
 |_::_,[]=>aA
 |g::p,d::C=>if X.beq g d=aa then gg p C else a3 g d
end
mutual
def eg:Nat->X->X->Bool
 |_,.int _,.int _=>aa
 |_,.str _,.str _=>aa
 |v+1,.tup g,.tup d=>fv v g d
 |_,_,_=>aA
def fv:Nat->List X->List X->Bool
 |_,[],[]=>aa
 |v,g::p,d::C=>eg v g d&&fv v p C
 |v,[],d::C=>X.ct v (d::C)
 |v,g::p,[]=>X.ct v (g::p)
end
mutual
theorem pN:∀{v:Nat}{g d:X},eg v g d=aa->X.bl v g=aa/\X.bl v d=aa/\b1 g d=X.beq g d
 |v,.int h,.int k,_=>by
  refine⟨by cases v<;>rfl,by cases v<;>rfl,?_⟩;rw[b1,X.beq];by_cases b:h=k<;>simp[b]
 |v,.str e,.str A,_=>by
  refine⟨by cases v<;>rfl,by cases v<;>rfl,?_⟩;rw[b1,X.beq];by_cases b:e=A<;>simp[b]
 |v+1,.tup g,.tup d,b=>by
  rw[eg]at b;let@⟨l,t,a⟩:=BO b;exact⟨l,t,by rw[b1,X.beq];exact a⟩
theorem BO:∀{v:Nat}{g d:List X},fv v g d=aa->X.ct v g=aa/\X.ct v d=aa/\fs g d=X.lr g d
 |v,[],[],_=>⟨by cases v<;>rfl,by cases v<;>rfl,rfl⟩
 |v,[],d::C,b=>⟨by cases v<;>rfl,b,rfl⟩
 |v,g::p,[],b=>⟨b,by cases v<;>rfl,rfl⟩
 |v,g::p,d::C,b=>by
  rw[fv,cq]at b;let@⟨l,t,a⟩:=pN b.1;let@⟨c,e,f⟩:=BO b.2;exact⟨by rw[X.ct,l,c];rfl,by rw[X.ct,t,e];rfl,by rw[fs,X.lr,a,f]⟩
end
def nY{g d:X}(b:¬ g=d):X.beq g d=aA:=by
 cases a:X.beq g d with
 |false=>rfl
 |true=>exact absurd ((X.beq_iff g d).mp a) b
mutual
theorem rR:∀g:X,a3 g g=aA
 |.int h=>by simp[a3]
 |.tup g=>by rw[a3];exact Ig g
 |.aK=>rfl
 |.aH _=>rfl
 |.str e=>by rw[a3];exact decide_eq_false (List.lt_irrefl _)
 |.fn _=>rfl
 |.aW _=>rfl
 |.fd _=>rfl
theorem Ig:∀g:List X,gg g g=aA
 |[]=>rfl
 |g::p=>by rw[gg,aF<|(X.beq_iff g g).mpr rfl];exact Ig p
end
mutual
theorem ps:∀{v:Nat}{g d:X},eg v g d=aa->g≠d->a3 g d=!(a3 d g)
 |v,.int h,.int k,_,b=>by
  have:h≠k:=λa=>b (by rw[a]);rw[a3,a3];rcases Int.lt_or_gt_of_ne this with O|O
  ·simp[O];lia
  ·simp[O];lia
 |v,.str e,.str A,_,b=>by
  have ne:e.cps.toList≠A.cps.toList:=λa=>b (by
   let⟨e⟩:=e;let⟨A⟩:=A;exact congrArg (λi=>X.str ⟨i⟩) (JO.mp a))
  rw[a3,a3];by_cases O:e.cps.toList<A.cps.toList
  ·rw[bG O,decide_eq_false<|List.lt_asymm O];rfl
  ·rw[decide_eq_false O];by_cases Y0:A.cps.toList<e.cps.toList
   ·rw[bG Y0];rfl
   ·exact absurd (List.le_antisymm (Kv.mp Y0)<|Kv.mp O) ne
 |v+1,.tup g,.tup d,b,a=>by
  rw[eg]at b;rw[a3,a3];exact I7 b λi=>a (by rw[i])
theorem I7:∀{v:Nat}{g d:List X},fv v g d=aa->g≠d->gg g d=!(gg d g)
 |v,[],[],_,b=>absurd rfl b
 |v,[],d::C,_,_=>rfl
 |v,g::p,[],_,_=>rfl
 |v,g::p,d::C,b,a=>by
  rw[fv,cq]at b;rw[gg,gg];by_cases i:g=d
  ·subst i;rw[aF ((X.beq_iff g g).mpr rfl),aF<|(X.beq_iff g g).mpr rfl];exact I7 b.2 λH=>a (by rw[H])
  ·rw[nY i,nY<|λH=>i H.symm,if_neg cB,if_neg cB];exact ps b.1 i
end
mutual
theorem oR:∀{v:Nat}{g d f:X},eg v g d=aa->eg v d f=aa->a3 g d=aa->a3 d f=aa->a3 g f=aa
 |v,.int h,.int k,.int q,_,_,l,t=>by
  rw[a3]at l t ⊢;have:=e_ l;have:=e_ t;exact bG (by omega)
 |v,.str e,.str A,.str i,_,_,l,t=>by
  rw[a3]at l t ⊢;exact bG (List.lt_trans (e_ l)<|e_ t)
 |v+1,.tup g,.tup d,.tup f,a,b,l,t=>by
  rw[eg]at a b;rw[a3]at l t ⊢;exact H3 a b l t
theorem H3:∀{v:Nat}{g d f:List X},fv v g d=aa->fv v d f=aa->gg g d=aa->gg d f=aa->gg g f=aa
 |v,[],_,_::_,_,_,_,_=>rfl
 |v,[],[],[],_,_,b,_=>b
 |v,_::_,[],_,_,_,b,_=>by cases b
 |v,_,_::_,[],_,_,_,b=>by cases b
 |v,g::p,d::C,f::I,e,c,l,t=>by
  rw[fv,cq]at e c;rw[gg]at l t ⊢;by_cases h:g=d
  ·subst h;rw[aF ((X.beq_iff g g).mpr rfl)]at l;by_cases a:g=f
   ·subst a;rw[aF ((X.beq_iff g g).mpr rfl)]at t ⊢;exact H3 e.2 c.2 l t
   ·rw[nY a,if_neg cB]at t ⊢;exact t
  ·rw[nY h,if_neg cB]at l;by_cases a:d=f
   ·subst a;rw[nY h,if_neg cB];exact l
   ·rw[nY a,if_neg cB]at t;have i:=oR e.1 c.1 l t;have j:¬ g=f:=λH=>by
     subst H;have:=ps c.1 a;rw[l,t]at this;cases this
    rw[nY j,if_neg cB];exact i
end
def qK(L:br)(m:au)(A e:ag)(q:Bool):Prop:=(∀(XJ:bB) (H:a9) (XA:ag->au->Prop) (y:ag->au->Prop),y (.bool q) m->wpAny (aN XJ H) L (kX .Lt A e) y XA m)
def hN(F:Bool):List (Bool×Bool)->Bool
 |[]=>F
 | (a,q)::p=>if a=aa then hN F p else q
section
open PySem.SeqAt
open PySem.AutoSeq1 (wpAny_loadPart')
open PySem.MeetsSeq PySem.MeetsSeq2 PySem.MeetsSeq3
def Ux(J d:aq)(X1 c:Array ag)(v YN:Nat)(y z:Option aq)(aR B:Array (Option ag))(XF:List (Bool×Bool))(N:XF.length=min X1.size c.size):
  Meets (bc.«tuple.__lt__» ⟨[.ref J,.ref d],[]⟩)
   (λL Xz m=>m.heap.get? J=Z {cls:=.type "tuple",dict:=y,data:=.seq X1 v,slots:=aR}/\m.heap.get? d=Z {cls:=.type "tuple",dict:=z,data:=.seq c YN,slots:=B}/\
    (∀k (l:k<X1.size) (t:k<c.size) (n:k<XF.length),EqAt L.in1 m X1[k] c[k] (XF[k]).1/\((XF[k]).1=aA->qK L.in1 m X1[k] c[k] (XF[k]).2))/\
    Xz (.ok<|.ret<|.bool<|hN (decide (X1.size<c.size)) XF) m):=
 .of_wp λXJ H L Xz m b=>by
  let⟨i,O,r,Yb,XU⟩:=m;let@⟨C,D,E,b⟩:=b;have P:=HS;have p:(X1.toList.zip c.toList).length=min X1.size c.size:=by simp
  wp_walk using wpAny_loadPart' C,wpAny_loadPart' D,l6 _ (λcR d XM=>d.1=V/\XM=⟨i,O,r,Yb,XU⟩/\∃h,cR=(X1.toList.zip c.toList).drop h/\
   Xz (.ok<|.ret<|.bool<|hN (decide (X1.size<c.size))<|XF.drop h) ⟨i,O,r,Yb,XU⟩) _
  case turn=>
   rintro⟨A,e⟩ cR d XM ⟨o,rfl,h,f,g⟩;have s:h<(X1.toList.zip c.toList).length:=by
    rcases f7 h (X1.toList.zip c.toList).length with ah|ah
    ·exact ah
    ·rw[ny ah]at f;cases f
   have Q:h<min X1.size c.size:=p ▸ s;have l:h<X1.size:=⋯
   have t:h<c.size:=⋯
   have n:h<XF.length:=⋯
   rw[mS s]at f;injection f with u F;have G:A=X1[h]:=by have:=congrArg Prod.fst u;simpa using this
   have I:e=c[h]:=by have:=congrArg Prod.snd u;simpa using this
   subst G I;rw[mS n]at g;let@⟨w,x⟩:=E h l t n;generalize XF[h]=rr at g w x;let⟨a,q⟩:=rr;refine aw (w XJ H _ _ ?_);cases a with
   |true=>
    have j:Xz (.ok<|.ret<|.bool<|hN (decide (X1.size<c.size))<|XF.drop<|h+1) ⟨i,O,r,Yb,XU⟩:=g
    wp_walk
    exact⟨rfl,rfl,h+1,F,j⟩
   |false=>
    have j:Xz (.ok<|.ret<|.bool q) ⟨i,O,r,Yb,XU⟩:=g;have M:=x rfl XJ H
    wp_walk using M
    exact⟨_,rfl,by simpa using j⟩
  case fin=>
   rintro⟨c2,c6⟩ XM ⟨o,rfl,h,f,g⟩;simp only at o;subst o;have R:min X1.size c.size<=h:=by
    rcases f7 h (X1.toList.zip c.toList).length with ah|ah
    ·rw[mS ah]at f;cases f
    ·exact p ▸ ah
   rw[ny ⋯]at g;have j:Xz (.ok<|.ret<|.bool<|decide (X1.size<c.size)) ⟨i,O,r,Yb,XU⟩:=g
   wp_walk
   exact⟨_,rfl,by simpa [bc.Tuple.tupleCompareSizes] using j⟩
  case h=>
   exact⟨rfl,rfl,0,rfl,by simpa using b⟩
end
def j4(D P:List X):List (Bool×Bool):=((D.zip P).map λn=>(b1 n.1 n.2,a3 n.1 n.2))
theorem IC:∀{v:Nat}{D P:List X},fv v D P=aa->hN (decide (D.length<P.length)) (j4 D P)=gg D P
 |_,[],[],_=>rfl
 |v,g::p,d::C,b=>by
  rw[fv,cq]at b;show (if b1 g d=aa then hN (decide (p.length+1<C.length+1)) (j4 p C) else a3 g d)=gg (g::p) (d::C);rw[gg,(pN b.1).2.2,<-IC b.2,fW.mpr wD]
 |_,[],_::_,_=>rfl
 |_,_::_,[],_=>rfl
theorem wt{v:Nat}:∀{D P:List X}{k:Nat}{g d:X},fv v D P=aa->D[k]?=Z g->P[k]?=Z d->eg v g d=aa
 |[],P,k,g,d,_,b,_=>by simp at b
 |r::D,[],k,g,d,_,_,b=>by simp at b
 |r::D,a::P,0,g,d,b,l,t=>by
  rw[fv,cq]at b;cases l;cases t;exact b.1
 |r::D,a::P,k+1,g,d,b,l,t=>by
  rw[fv,cq]at b;exact wt (k:=k) b.2 ⇑l ⇑t
def UK{h k:Int}(a:dh m.heap (.int h) I)(b:dh m.heap (.int k) u):qK L m I u (a3 (.int h)<|.int k):=by
 let⟨@C,rfl⟩:=a;let⟨@Yc,rfl⟩:=b;intro XJ H XA y s;rw[a3]at s;exact di.M9 L m h C k Yc XJ H XA y s
def QA{e A:aD}(a:dh m.heap (.str e) I)(b:dh m.heap (.str A) u):qK L m I u (a3 (.str e)<|.str A):=by
 let⟨C,rfl⟩:=a;let⟨Yc,rfl⟩:=b;intro XJ H XA y s;rw[a3]at s;exact (PySem.P.lt_str s:wpAny (aN XJ H) L (eL .Lt (.str e C)<|.str A Yc) y XA m)
def As(e A:X):Prop:=((∃h k,e=.int h/\A=.int k)\/∃g d,e=.str g/\A=.str d)
def Ia{A:X}(J:As e A)(a:dh m.heap e I)(b:dh m.heap A u):qK L m I u (a3 e A):=by
 rcases J with ⟨h,k,rfl,rfl⟩|⟨g,d,rfl,rfl⟩
 ·exact UK a b
 ·exact QA a b
def nI:∀{v:Nat}{e A:X},eg v e A=aa->As e A\/∃E g d,v=E+1/\e=.tup g/\A=.tup d/\fv E g d=aa:=by
 intro v e A b;unfold eg at b;split at b
 ·exact .inl (.inl ⟨_,_,rfl,rfl⟩)
 ·exact .inl (.inr ⟨_,_,rfl,rfl⟩)
 ·exact .inr ⟨_,_,_,rfl,rfl,rfl,b⟩
 ·cases b
def ue(v:Nat):∀{L:br}{e A:X}{I u:ag},eg v e A=aa->L.units+v+2<bj->dh m.heap e I->dh m.heap A u->qK L m I u (a3 e A):=by
 induction v with
 |zero=>
  intro L e A I u b Q c f;rcases nI b with J|⟨E,_,_,a,_⟩
  ·exact Ia J c f
  ·cases a
 |succ v R=>
  intro L e A I u b Q c f;rcases nI b with J|⟨E,D,P,a,rfl,rfl,b⟩
  ·exact Ia J c f
  cases a;let⟨g,o,XN,@E,rfl,l,t,h,j⟩:=c;let⟨d,Yy,w,@S,rfl,n,p,q,r⟩:=f;let⟨cls,U,data,aR⟩:=o;let⟨bd,al,be,am⟩:=Yy;simp only at t h p q;subst t h p q;have x:D.length=XN.size:=by rw[j.length,dA]
  have z:P.length=w.size:=by rw[r.length,dA]
  intro XJ H XA y s;rw[a3,<-IC b,x,z]at s;have an:(j4 D P).length=min XN.size w.size:=by rw[j4,a6,xO,x,z]
  refine FQ (op:=.Lt) ⟨_,l,rfl⟩ ⟨_,n,rfl⟩ PySem.F.slot_tuple_lt PySem.F.entry_tuple_lt (PySem.F.args_tuple_lt_2 _ _) (Ux g d XN w E S U al aR am (j4 D P) an)
   ⟨l,n,λk ap as a1=>?_,show ag.bool (hN (decide (XN.size<w.size))<|j4 D P)≠ag.notImplemented/\y (.bool<|hN (decide (XN.size<w.size))<|j4 D P) m from ⟨(λe=>nomatch e),s⟩⟩ ⋯;let⟨@Ym,B,C⟩:=j.get (k:=k) (u:=XN[k]) (by rw[eU];simp[ap]);let⟨@T,G,M⟩:=r.get (k:=k) (u:=w[k]) (by rw[eU];simp[as]);have lk:=wt b B G;have O:=pN lk;have a2:(j4 D P)[k]=(b1 Ym T,a3 Ym T):=by
   have:(j4 D P)[k]?=Z (b1 Ym T,a3 Ym T):=by
    rw[j4,ef,(sh (z:=(Ym,T))).mpr ⟨B,G⟩];rfl
   rw[dF a1]at this;exact Option.some.inj this
  rw[a2];exact⟨hM v O.1 O.2.1 (by show L.units+1+v+1<bj;lia) C M,λ_=>R lk (by show L.units+1+v+2<bj;lia) C M⟩
end L2
namespace L2
open Spec PyProof.Rows PySem.W
variable{Y4 XP YG n:b9}{g:aY}{M:List (List X)}{r:X}{XN:List ag}{h:Nat}{D:List X}
theorem IU{XR:Type}{n s:XR->Bool}:∀{J:List XR},(∀e∈J,n e=aa->s e=aa)->(∃e∈J,s e=aa/\n e=aA)->J.countP n<J.countP s
 |[],_,b=>by let⟨@e,a,Y⟩:=b;cases a
 |g::J,b,⟨e,a,l,t⟩=>by
  rw[i2,i2];have le:J.countP n<=J.countP s:=List.countP_mono_left λA c=>b A (.tail _ c);rcases b0.mp a with rfl|a
  ·rw[l,t];simp;omega
  ·have:=IU (λA c=>b A<|.tail _ c) ⟨e,a,l,t⟩;have d:=b g (.head _);cases f:n g<;>cases h:s g<;>rw[f,h]at d<;>simp at d ⊢<;>omega
structure nE(D:List X):Prop where
 dY:D.length<=63
 ij:∀g∈D,∀d∈D,eg 6 g d=aa
structure rU(D:List X):Prop where
 dY:D.length<=63
 ij:∀g∈D,∀d∈D,eg 6 g d=aa
 ae:D.Nodup
def rU.w{D:List X}(o:rU D):nE D:=⟨o.dY,o.ij⟩
def pZ(D:List X)(e:X):Nat:=(D.countP λr=>a3 r e)
def D6(o:nE D){e A:X}(c:e∈D)(d:A∈D)(b:a3 e A=aa):pZ D e<pZ D A:=
 IU (λi f a=>oR (o.ij i f e c) (o.ij e c A d) a b) ⟨e,c,b,rR e⟩
def Im(o:nE D){e A:X}(c:e∈D)(d:A∈D):decide ((pZ D e:Int)<(pZ D A:Int))=a3 e A:=by
 cases a:a3 e A with
 |true=>exact bG (by have:=D6 o c d a;lia)
 |false=>
  refine decide_eq_false λi=>?_;by_cases b:e=A
  ·subst b;lia
  ·have C:=ps (o.ij e c A d) b;rw[a]at C;have Yc:a3 A e=aa:=by cases s:a3 A e<;>rw[s]at C<;>simp at C ⊢
   have:=D6 o d c Yc;lia
def oh(D:List X)(h:Nat):Int:=(pZ D (D.getD h .aK))
def m8(b:h<D.length):D.getD h .aK∈D:=by
 rw[cY,dF b];exact sm b
def wL(o:nE D){n:Array Nat}(b:dS D.length n)(i:lN (oh D) n D.length):(n.toList.map λh=>D.getD h .aK).Pairwise (λg d=>a3 d g=aA):=by
 rw[qM];intro h k XG c m;have XO:=b.size;have j:h<D.length:=by simpa [XO] using XG
 have e:k<D.length:=by simpa [XO] using c
 have le:=i h k ⋯ e;have O:∀q (f:q<(n.toList.map λh=>D.getD h .aK).length),(n.toList.map λh=>D.getD h .aK)[q]=D.getD (n.getD q 0) .aK:=λq f=>by
  have l:q<n.size:=by simpa using f
  rw[Ie,HT];simp[Array.getD,l]
 rw[O h XG,O k c];rw[<-Im o (m8<|b.lt e) (m8<|b.lt j)];refine decide_eq_false ?_;have a:∀q,(pZ D (D.getD (n.getD q 0) .aK):Int)=bw (oh D) n q:=λ_=>rfl;rw[a h,a k];lia
theorem uJ(e:X):∀J:List X,(kz a3 e J).Perm (e::J)
 |[]=>List.Perm.refl _
 |A::p=>by
  rw[kz];split
  ·exact List.Perm.refl _
  ·exact (List.Perm.cons A<|uJ e p).trans (List.Perm.swap e A p)
theorem i4:∀J:List X,(fU a3 J).Perm J
 |[]=>List.Perm.refl _
 |e::p=>(uJ e _).trans (List.Perm.cons e<|i4 p)
theorem Bn{e:X}:∀{J:List X},J.Pairwise (λg d=>a3 g d=aa)->(∀A∈J,e≠A)->(∀g∈e::J,∀d∈e::J,eg 6 g d=aa)->(kz a3 e J).Pairwise (λg d=>a3 g d=aa)
 |[],_,_,_=>es _ _
 |A::p,b,v,lk=>by
  have ah:=hv.mp b;rw[kz];split
  ·rename_i a;refine hv.mpr ⟨λi c=>?_,b⟩;rcases b0.mp c with rfl|c
   ·exact a
   ·exact oR (lk e (.head _) A<|.tail _<|.head _) (lk A (.tail _<|.head _) i<|.tail _<|.tail _ c) a (ah.1 i c)
  ·rename_i a;refine hv.mpr ⟨λi c=>?_,Bn ah.2 (λi c=>v i<|.tail _ c) λg f d h=>lk g ?_ d ?_⟩
   ·rcases b0.mp ((uJ e p).mem_iff.mp c) with rfl|c
    ·have C:=ps (lk i (.head _) A<|.tail _<|.head _) (v A<|.head _);cases s:a3 A i with
     |true=>rfl
     |false=>rw[s]at C;exact absurd C a
    ·exact ah.1 i c
   ·rcases b0.mp f with rfl|f
    ·exact .head _
    ·exact .tail _ (.tail _ f)
   ·rcases b0.mp h with rfl|h
    ·exact .head _
    ·exact .tail _ (.tail _ h)
theorem AK:∀{J:List X},J.Nodup->(∀g∈J,∀d∈J,eg 6 g d=aa)->(fU a3 J).Pairwise (λg d=>a3 g d=aa)
 |[],_,_=>.nil
 |e::p,ae,lk=>by
  have f:=df.mp ae;refine Bn (AK f.2 λg b d c=>lk g (.tail _ b) d<|.tail _ c) (λA h a=>f.1 (by rw[a];exact (i4 p).mem_iff.mp h)) λg b d c=>lk g ?_ d ?_
  ·rcases b0.mp b with rfl|b
   ·exact .head _
   ·exact .tail _ ((i4 p).mem_iff.mp b)
  ·rcases b0.mp c with rfl|c
   ·exact .head _
   ·exact .tail _ ((i4 p).mem_iff.mp c)
theorem CN{e:X}:∀{J:List X},J.Pairwise (λg d=>a3 d g=aA)->(∀g∈e::J,∀d∈e::J,eg 6 g d=aa)->(kz a3 e J).Pairwise (λg d=>a3 d g=aA)
 |[],_,_=>es _ _
 |A::p,b,lk=>by
  have ah:=hv.mp b;unfold kz;split
  ·rename_i a;refine hv.mpr ⟨λi c=>?_,b⟩;cases s:a3 i e with
   |false=>rfl
   |true=>
    have C:=oR (lk i (.tail _ c) e<|.head _) (lk e (.head _) A<|.tail _<|.head _) s a;rcases b0.mp c with rfl|c
    ·rw[rR]at C;cases C
    ·rw[ah.1 i c]at C;cases C
  ·rename_i a;refine hv.mpr ⟨λi c=>?_,CN ah.2 λg f d h=>lk g ?_ d ?_⟩
   ·rcases b0.mp ((uJ e p).mem_iff.mp c) with rfl|c
    ·cases s:a3 i A with
     |false=>rfl
     |true=>exact absurd s a
    ·exact ah.1 i c
   ·rcases b0.mp f with rfl|f
    ·exact .head _
    ·exact .tail _ (.tail _ f)
   ·rcases b0.mp h with rfl|h
    ·exact .head _
    ·exact .tail _ (.tail _ h)
theorem ur:∀{J:List X},(∀g∈J,∀d∈J,eg 6 g d=aa)->(fU a3 J).Pairwise (λg d=>a3 d g=aA)
 |[],_=>.nil
 |e::p,lk=>by
  refine CN (ur λg a d b=>lk g (.tail _ a) d<|.tail _ b) λg a d b=>lk g ?_ d ?_
  ·rcases b0.mp a with rfl|a
   ·exact .head _
   ·exact .tail _ ((i4 p).mem_iff.mp a)
  ·rcases b0.mp b with rfl|b
   ·exact .head _
   ·exact .tail _ ((i4 p).mem_iff.mp b)
def uS{J:List X}(o:nE D)(n:J.Perm D)(b:J.Pairwise (λg d=>a3 d g=aA)):J=fU a3 D:=by
 refine J5 (λg d c f e A=>?_) b (ur o.ij) (n.trans (i4 D).symm);by_cases a:g=d
 ·exact a
 ·have C:=ps (o.ij g (n.mem_iff.mp c) d<|(i4 D).mem_iff.mp f) a;rw[e,A]at C;cases C
def iW:X->Bool
 |.tup (.int _::_)=>aa
 |.tup (.str _::_)=>aa
 |_=>aA
def r0:X->Bool
 |.tup (.int _::_)=>aa
 |_=>aA
def rW:X->Bool
 |.tup (.str _::_)=>aa
 |_=>aA
def nK:X->Bool
 |.tup (.tup _::_)=>aa
 |_=>aA
section
variable{XJ:bB}{H:a9}{L:br}{XA:ag->au->Prop}{m:au}
theorem E3{d F:Bool}(v:Nat)(w:L.units+v+2<bj){y:Bool->au->Prop}:∀{D P:List X}{Q f:List ag}{h:Nat},fv v D P=aa->F=decide (D.length<P.length)->dy m.heap D Q->dy m.heap P f->(d=aa->h=0->∃q p,D=q::p/\∀g,q≠.tup g)->y (gg D P) m->KatLex XJ H L d F y (Q.zip f) h m
 |[],P,Q,f,h,_,c,l,t,_,s=>by
  rw[show Q=[] from l,c];exact kat_nil (by cases P<;>exact s)
 |r::D,[],Q,f,h,_,c,l,t,_,s=>by
  rw[show f=[] from t,c,BF];exact kat_nil s
 |r::D,a::P,Q,f,h,b,z,l,t,B,s=>by
  rw[fv,cq]at b;let⟨u,@Q,rfl,n,YH⟩:=l;let⟨I,@f,rfl,c2,c6⟩:=t;rw[zS];let@⟨E,YG,G⟩:=pN b.1;refine kat_cons (hM v E YG ⋯ n c2 XJ H _ _ ?_);rw[G];rw[gg]at s;cases x:X.beq r a with
  |true=>
   rw[x,aF rfl]at s;exact kat_yes (E3 v w b.2 (z.trans<|fW.mpr wD) YH c6 (λ_ i=>⋯) s)
  |false=>
   rw[x,if_neg cB]at s;refine kat_no ?_;by_cases c:(d&&h==0)=aa
   ·rw[c];rw[cq]at c;let⟨q,@p,i,M⟩:=B c.1 ⇑(c.2);cases i;rcases nI b.1 with J|⟨_,_,_,_,j,_⟩
    ·rcases J with ⟨N,k,j,o⟩|⟨e,A,j,o⟩
     ·cases j;cases o;let⟨@C,rfl⟩:=n;let⟨@Yc,rfl⟩:=c2;rw[a3]at s;exact oneLt_int s
     ·cases j;cases o;let⟨@C,rfl⟩:=n;let⟨@Yc,rfl⟩:=c2;rw[a3]at s;exact oneLt_str s
    ·exact absurd j (M _)
   ·rw[show (d&&h==0)=aA by simpa using c];exact kat_one _ _ (ue v b.1 w n c2 XJ H _ _ s)
def xP{d:Bool}(o:nE D)(f:dy m.heap D XN)(bV:∀r∈D,∃p,r=.tup p)(v:d=aa->∀r∈D,iW r=aa)(Q:L.units+9<bj):
  jE XN.length (oh D) (ix XJ H L (p0 d)<|XN.toArray.zip XN.toArray) m:=by
 intro h k aL XG w s;have R:=f.length;have a:=m8 (D:=D) (h:=h) ⋯;have c:=m8 (D:=D) (h:=k) ⋯;unfold oh at s;rw[Im o a c]at s;let⟨@Ym,l,y⟩:=f.get (k:=h) (u:=XN[h]) ↥0;let⟨@T,n,z⟩:=f.get (k:=k) (u:=XN[k]) ↥0;rw[cY,l,cY,n]at s;rw[cY,l]at a;rw[cY,n]at c;let⟨@g,B⟩:=bV Ym a;let⟨@j,C⟩:=bV T c;subst B C;have lk:fv 5 g j=aa:=o.ij _ a _ c;unfold ix;rw[uH rfl,uH rfl,cY,cY,dF XG,dF w];show wpAny _ _ (keyLt' (p0 d) XN[h] XN[k]) _ _ _;let⟨e,S,x,@U,E,F,al,G,q⟩:=y;let⟨A,am,XW,@YN,I,J,an,M,t⟩:=z;rw[E,I];refine kat_lt (b:=d) F G J M ?_;have N:g.length=x.size:=by rw[q.length,dA]
 have O:j.length=XW.size:=by rw[t.length,dA]
 refine E3 5 ⋯ lk (by rw[N,O]) q t (λP Y=>?_) (by have cU:aL (a3 (.tup g)<|.tup j) m:=s;rw[a3]at cU;exact cU);have:=v P _ a;unfold iW at this;split at this
 ·rename_i b;cases b;exact⟨_,_,rfl,λg i=>nomatch i⟩
 ·rename_i b;cases b;exact⟨_,_,rfl,λg i=>nomatch i⟩
 ·cases this
theorem EI:∀{D:List X}{XN:List ag},dy m.heap D XN->(∀r∈D,∃F p,r=.tup (F::p))->∃Y,KatTups m.heap XN Y/\Y.length=XN.length/\
  ((∀r∈D,r0 r=aa)->∀u∈Y,∃h C,u=ag.int h C)/\((∀r∈D,rW r=aa)->∀u∈Y,∃h C,u=ag.str h C)/\((∀r∈D,nK r=aa)->∀u∈Y,∃g Yo,u=ag.ref g/\m.heap.get? g=Z Yo/\Yo.cls=.type "tuple")
 |[],XN,b,_=>by
  rw[show XN=[] from b];exact⟨[],trivial,rfl,(λ_ W b=>nomatch b),(λ_ W b=>nomatch b),(λ_ W b=>nomatch b)⟩
 |r::D,XN,b,j=>by
  let⟨u,@p,rfl,l,t⟩:=b;let⟨@Y,n,q,w,x,y⟩:=EI t λe d=>j e (.tail _ d);let⟨F,@Yr,rfl⟩:=j r (.head _);let⟨g,o,X1,@v,rfl,z,A,B,E⟩:=l;let⟨k,@N,a,f,O⟩:=E;have G:X1[0]?=Z k:=by
   rw[<-eU,a];rfl
  refine⟨k::Y,KatTups.cons z A B G n,by simp[q],λi I c=>?_,λi I c=>?_,λi I c=>?_⟩
  ·rcases b0.mp c with rfl|c
   ·have:=i _ (.head _);unfold r0 at this;split at this
    ·rename_i s;cases s;exact⟨_,f⟩
    ·cases this
   ·exact w (λe d=>i e<|.tail _ d) I c
  ·rcases b0.mp c with rfl|c
   ·have:=i _ (.head _);unfold rW at this;split at this
    ·rename_i s;cases s;exact⟨_,f⟩
    ·cases this
   ·exact x (λe d=>i e<|.tail _ d) I c
  ·rcases b0.mp c with rfl|c
   ·have:=i _ (.head _);unfold nK at this;split at this
    ·rename_i s;cases s;let⟨H,Yy,W,@W,J,L,M,W⟩:=f;exact⟨H,Yy,J,L,M⟩
    ·cases this
   ·exact y (λe d=>i e<|.tail _ d) I c
def pG(b:iW r=aa):(r0 r=aa\/rW r=aa)/\∃F p,r=.tup (F::p):=by
 unfold iW at b;split at b
 ·exact⟨.inl rfl,_,_,rfl⟩
 ·exact⟨.inr rfl,_,_,rfl⟩
 ·cases b
def Gk(b:nK r=aa):∃F p,r=.tup (F::p):=by
 unfold nK at b;split at b
 ·exact⟨_,_,rfl⟩
 ·cases b
def S7{v:Nat}(h:∀e∈D,∀A∈D,eg v e A=aa)(b:∀r∈D,iW r=aa):(∀r∈D,r0 r=aa)\/∀r∈D,rW r=aa:=by
 cases D with
 |nil=>exact .inl λr hd=>nomatch hd
 |cons e D=>
  have XX:∀A∈e::D,∀{s:X->Bool},(s=r0\/s=rW)->s e=aa->s A=aa:=λA d {s} j a=>by
   have J:=h e (.head _) A d;have k:=(pG<|b A d).1;have g:=pG (b e<|.head _);let⟨F,p,rfl⟩:=g.2;let⟨O,C,rfl⟩:=(pG<|b A d).2;cases v with
   |zero=>cases J
   |succ v=>
    rw[eg,fv,cq]at J;rcases j with rfl|rfl
    ·rcases nI J.1 with J|⟨_,_,_,_,c,_⟩
     ·rcases J with ⟨_,_,_,f⟩|⟨_,_,c,_⟩
      ·rw[f];rfl
      ·rw[c]at a;cases a
     ·rw[c]at a;cases a
    ·rcases nI J.1 with J|⟨_,_,_,_,c,_⟩
     ·rcases J with ⟨_,_,c,_⟩|⟨_,_,_,f⟩
      ·rw[c]at a;cases a
      ·rw[f];rfl
     ·rw[c]at a;cases a
  rcases (pG<|b e<|.head _).1 with i|i
  ·exact .inl λr hd=>XX r hd (.inl rfl) i
  ·exact .inr λr hd=>XX r hd (.inr rfl) i
end
section
variable{c:aI}
theorem bt.pick{j:ax}{XW:List ai}(b:bt j D XW):∀{n:List Nat},(∀q∈n,q<D.length)->bt j (n.map λh=>D.getD h .aK) (n.map λh=>XW.getD h .aK)
 |[],_=>rfl
 |q::n,a=>by
  let⟨@u,c,d⟩:=b.get (h:=q) (r:=D.getD q .aK) (by
   have:=a q (.head _);rw[cY,dF this];rfl)
  refine⟨u,_,?_,d,b.pick λk e=>a k<|.tail _ e⟩;rw[bz,cY,c];rfl
structure jV(D:List X):Prop where
 ord:rU D
 fst:(∀r∈D,iW r=aa)\/(∀r∈D,nK r=aa)
structure pW(D:List X):Prop where
 ord:nE D
 fst:(∀r∈D,iW r=aa)\/(∀r∈D,nK r=aa)
def jV.w{D:List X}(o:jV D):pW D:=⟨o.ord.w,o.fst⟩
def pW.tup(o:pW D):∀r∈D,∃p,r=.tup p:=λr hd=>by
 rcases o.fst with i|i
 ·let⟨F,p,a⟩:=(pG<|i r hd).2;exact⟨_,a⟩
 ·let⟨F,p,a⟩:=Gk (i r hd);exact⟨_,a⟩
def dy.n4{b ah:aV}(q:∀d o,b.get? d=Z o->ah.get? d=Z o){D:List X}{Q:List ag}(e:dy b D Q):dy ah D Q:=e.keep λg o Y Y a Y Y=>q g o a
def Aw{b:aV}{m:au}(o:pW D)(t:2<=XN.length)(f:dy m.heap D XN)(L:br)(XA:ag->au->Prop)(y:gA->au->Prop)(a:y (p0<|decide (∀r∈D,iW r=aa)) m):
  wpAny (aN c.prog c.w) L (yA XN.toArray) y XA m:=by
 let⟨@Y,e,s,j,k,l⟩:=EI f (o.fst.elim (λi r hd=>(pG<|i r hd).2) λi r hd=>Gk<|i r hd);have v:=f.length;by_cases hf:∀r∈D,iW r=aa
 ·rw[bG hf]at a;rcases S7 o.ord.ij hf with hf|hf
  ·refine AI (T:=ag.type "int") e ⋯ (λu d=>?_) rfl ?_
   ·let⟨h,@C,rfl⟩:=j hf u d;exact wV rfl
   ·rw[show (ag.type "int" != ag.type "tuple")=aa by decide];exact a
  ·refine AI (T:=ag.type "str") e ⋯ (λu d=>?_) rfl ?_
   ·let⟨h,@C,rfl⟩:=k hf u d;exact wV rfl
   ·rw[show (ag.type "str" != ag.type "tuple")=aa by decide];exact a
 ·rw[decide_eq_false hf]at a;have n:=o.fst.resolve_left hf;refine AI (T:=ag.type "tuple") e ⋯ (λu d=>?_) rfl ?_
  ·let⟨g,@Yo,rfl,p,q⟩:=l n u d;have:Looks (aN c.prog c.w) m.heap (n0<|.ref g) Yo.cls:=(Looks.ld p).andThen .now;rw[q]at this;exact this
  ·rw[show (ag.type "tuple" != ag.type "tuple")=aA by decide];exact a
def Ic(u:c.calm=aa)(R:c.A.units+20<bj):eK c (.builtin "sorted") (λx j y=>∃(g:aq) (D:List X) (XW:List ai),x=[.ref g]/\(dm c.K j g XW\/da c.K j g XW)/\bt j D XW/\pW D/\
  ∀J Yt,j J=V->bt j (fU a3 D) Yt->y (.ref J) (upd j J<|.lst Yt)):=by
 intro G m B j x XZ y z p b;let⟨g,D,@XW,rfl,XO,XG,o,s⟩:=b;let⟨@I,rfl,C⟩:=hD p;cases C;have E:XW.length<=1000:=by rw[<-XG.length];exact dg o.ord.dY ∅
 have go:∀{T:String}{XN:List ag}{v:Nat}{Yo:a5},(T = "list" \/ T = "tuple")->bN XW XN->m.heap.get? g=Z Yo->Yo.cls=.type T->Yo.data=.seq XN.toArray v->wpAny (aN c.prog c.w) c.A (call (.builtin "sorted") [.ref g]) (eA c G B y) c.cP m:=by
  intro T XN v Yo F d a av e;have i:=XG.el z.aU d;have M:XN.length=D.length:=i.length.symm;refine Cs u (oh D) (p0<|decide (∀r∈D,iW r=aa)) z d F a av e E (λt k Yb q L XA y N=>Aw (b:=k) o t (i.n4 q) L XA y N) (λk Yb q=>?_) (by have:=o.ord.dY;lia) λn J f l aW=>?_
  ·refine xP (m:={m with heap:=k,toks:=Yb}) o.ord (i.n4 q) o.tup (λO=>?_) (by show c.A.units+1+1+9<bj;lia);exact e_ O
  ·rw[M]at f l;have P:(n.toList.map λh=>D.getD h .aK)=fU a3 D:=uS o.ord (vL f) (wL o.ord f l);refine s J _ aW ?_;rw[<-P];exact XG.pick λq Q=>gJ.mp (f.mem_iff.mp Q)
 rcases XO with XO|XO
 ·let⟨@XN,d,n,Y⟩:=z.list XO;let⟨@Yo,a,av,⟨@v,e⟩⟩:=n.isList;exact go (.inl rfl) d a av e
 ·let⟨@XN,d,n,Y⟩:=z.tuple XO;let⟨@Yo,a,av,⟨@v,e⟩⟩:=n;exact go (.inr rfl) d a av e
theorem KJ{j:ax}:∀{Xy:List (List X×ai)}{P:List (List X×aq×ag)},dB (λ(n:List X×ai) (s:List X×aq×ag)=>n.1=s.1/\hk j n.1 s.2.1/\bU n.2 s.2.2) Xy P->
  bt j (Xy.map λn=>.tup n.1) (P.map λe=>ai.ref e.2.1)/\bN (P.map λe=>ai.ref e.2.1) (P.map λe=>ag.ref e.2.1)
 |_,_,.nil=>⟨rfl,.nil⟩
 |_,_,.cons p C=>by
  let@⟨l,t⟩:=KJ C;exact⟨⟨_,_,rfl,p.2.1.2,l⟩,.cons rfl t⟩
def H4(a2:c.calm=aa)(cs:c.A.units+20<bj):eK c (.builtin "sorted") (λx j y=>∃(r:aq) (Xy:List (List X×ai)),x=[.ref r]/\g9 j r (.aE Xy)/\jV (Xy.map λn=>.tup n.1)/\
  ∀J Yt,j J=V->bt j (fU a3<|Xy.map λn=>.tup n.1) Yt->y (.ref J) (upd j J<|.lst Yt)):=by
 intro G m B j x XZ y z p b;let⟨r,@Xy,rfl,hd,f,s⟩:=b;let⟨@I,rfl,bd⟩:=hD p;cases bd;let@⟨i,XB,⟨@P,rel,⟨o,be,@X8,bi,bm,bn,bs,ae⟩⟩⟩:=(show en c.prog c.w j m.heap r (.aE Xy) from hd.ok z.aU);let@⟨XG,k⟩:=KJ rel;have T:iQ m.heap r (P.map λe=>ag.ref e.2.1) X8:=⟨o,be,bi,bm,bn,by rw[bs,fM];rfl⟩;generalize (P.map λe=>ag.ref e.2.1)=XN at k T;generalize (P.map λe=>ai.ref e.2.1)=XW at XG k;generalize db:(Xy.map λn=>X.tup n.1)=D at XG f s;have M:=XG.el z.aU k;have U:XN.length=D.length:=M.length.symm;have dY:=f.ord.dY;have ds:XW.length=XN.length:=k.length;have al:XN.length<=sizeLine:=dg ⋯ (show 1000<=sizeLine by decide);refine xn w7 AZ yf (yu _) ?i
 case i=>
  unfold bc.«sorted»;refine aw (m:=wd "sorted" 1 1 _) (aM<|aw<|kdu_collect (A:=c.A.in1) (TZ XB) (z.ok.hd a2) T al λah Yb N O am=>?_);have bv:N.toList=XN:=by
   apply xl
   ·rw[dA];exact am.1
   ·intro h l t;have:=am.2 h N.toList[h] (by rw[<-eU];exact dF l);have this:XN[h]?=Z N.toList[h]:=this;rw[dF t]at this;exact (Option.some.inj this).symm
  rw[bv];refine aw (tq ?_ al);have an:(ah.push<|fL "list" XN.toArray 0).get? ah.objs.size=Z (fL "list" XN.toArray 0):=dE _ rfl;have bb:∀d o,m.heap.get? d=Z o->(ah.push<|fL "list" XN.toArray 0).get? d=Z o:=λd o a=>cw _ (O d o a);have ap:aG c G B j {m with heap:=ah,toks:=Yb}:=z.kept O;have as:∀d o,m.heap.get? d=Z o->d≠ah.objs.size:=λd o a=>c0 (cn<|O d o a);refine aw (fS<|iF ym ⟨_,an,rfl⟩ AS ?A<|zw _)
  case A=>
   refine wk (m:={m with heap:=ah.push (fL "list" XN.toArray 0),toks:=Yb}) (oh D) (p0<|decide (∀r∈D,iW r=aa)) an
    (λt Q R y ca=>Aw (c:=c) (b:=Q) f.w t (M.n4 λd o v=>R d o (as d o v)<|bb d o v) _ _ y ca)
    (λQ R=>xP (m:={m with heap:=Q,toks:=Yb}) f.w.ord (M.n4 λd o v=>R d o (as d o v)<|bb d o v) f.w.tup (λcd=>e_ cd) (by show c.A.units+1+1+9<bj;lia))
    ⋯ ⋯ λn t g a1 ce ⟨ch,ci⟩=>⟨_,rfl,aM ⟨_,rfl,?_⟩⟩;have cl:j ah.objs.size=V:=ap.aU.fresh (bk _);have co:∀d o,ah.get? d=Z o->d≠ah.objs.size:=λd o a=>c0 (cn a);rw[U]at g a1;refine⟨.ref ah.objs.size,upd j ah.objs.size<|.lst<|n.toList.map λh=>XW.getD h .aK,?_,rfl,s _ _ cl ?_⟩
   ·refine ap.laid (Yc:=Yb) (λd I a=>ce d I (co d I a)<|cw _ a) (bk _) ⟨?_,_,ch,?_,ci⟩
    ·rw[a6,dA,g.size];lia
    ·refine rG ↥0 λh u I l t=>?_;rw[ef]at l t;cases S:n.toList[h]? with
     |none=>rw[S]at l;cases l
     |some q=>
      rw[S]at l t;cases l;cases t;have C:q<XN.length:=by rw[U];exact gJ.mp (g.mem_iff.mp<|fi S)
      let⟨@I,F,cr⟩:=k.get (h:=q) (e:=XW[q]'⋯) (by simp[show q<XW.length by lia]);rw[dF C]at F;have F:=Option.some.inj F;simp only[List.getD,dF C,dF (show q<XW.length by lia),Cg];rw[F];exact cr
   ·rw[<-uS f.w.ord (vL g) (wL f.w.ord g a1)];exact XG.pick λq C=>gJ.mp (g.mem_iff.mp C)
def nF(D:List X):Bool:=(decide (D.length<=63)&&D.all (λg=>D.all λd=>eg 6 g d)&&decide D.Nodup&&(D.all iW || D.all nK))
def nV:nF D=aa↔jV D:=by
 unfold nF;rw[cq,cq,cq,A6,ek,ek,l5,l5,l5];constructor
 ·rintro⟨⟨⟨l,t⟩,a⟩,b⟩;exact⟨⟨l,λg c d e=>l5.mp (t g c) d e,a⟩,b⟩
 ·rintro⟨⟨l,t,a⟩,b⟩;exact⟨⟨⟨l,λg c=>l5.mpr λd e=>t g c d e⟩,a⟩,b⟩
def jR(D:List X):Option ak:=(if nF D=aa then Z (.lst<|fU a3 D) else V)
def hA:hu:=(λD=>match D with
 |[.lst e]=>match lJ e with
  |some XY=>xv [.lst e]
  |none=>jR e
 |[.im (.tup e)]=>jR e
 |[.aE Xy]=>jR (Xy.map λn=>.tup n.1)
 |[.dN Xy]=>jR (Xy.map λn=>.tup n.1)
 |_=>V)
def uf{r:ak}(b:jR D=Z r):jV D/\r=.lst (fU a3 D):=by
 unfold jR at b;split at b
 ·rename_i a;cases b;exact⟨nV.mp a,rfl⟩
 ·cases b
theorem yB{j:ax}:∀{Xy:List (List X×X)}{Yk:List (List X×ai)},dW j Xy Yk->(Xy.map λn=>X.tup n.1)=Yk.map λn=>X.tup n.1
 |_,_,.nil=>rfl
 |_,_,.cons p C=>by rw[bz,bz,yB C,p.1]
def oP(f:c.calm=aa)(g:c.A.units+20<bj):gX c (.builtin "sorted") hA:=by
 intro G m B j x XZ y z p v;let⟨D,@r,k,a,s⟩:=v;unfold hA at a;split at a
 ·rename_i e;split at a
  ·exact Uk f g G m B j x XZ y z p ⟨_,r,k,a,s⟩
  ·let@⟨b,rfl⟩:=uf a;let⟨@u,rfl,⟨Y,n,@XW,rfl,l,t,Y⟩⟩:=gq k;exact Ic f g G m B j _ XZ y z p ⟨n,e,XW,rfl,.inl<|dm.of l,t,b.w,λJ Yt aW d=>ck.l s aW d⟩
 ·rename_i e;let@⟨b,rfl⟩:=uf a;let⟨@u,rfl,q⟩:=gq k;let⟨n,@XW,rfl,l,t⟩:=q.i;exact Ic f g G m B j _ XZ y z p ⟨n,e,XW,rfl,.inr<|da.of l,t,b.w,λJ Yt aW d=>ck.l s aW d⟩
 ·rename_i Xy;let@⟨b,rfl⟩:=uf a;let⟨@u,rfl,⟨Y,n,@Yk,rfl,l,t,Y⟩⟩:=gq k;rw[yB t]at b s;exact H4 f g G m B j _ XZ y z p ⟨n,Yk,rfl,.inl l,b,λJ Yt aW d=>ck.l s aW d⟩
 ·rename_i Xy;let@⟨b,rfl⟩:=uf a;let⟨u,rfl,q⟩:=gq k;let⟨Y,n,Yk,o,rfl,l,t,Y⟩:=q;rw[yB t]at b s;exact H4 f g G m B j _ XZ y z p ⟨n,Yk,rfl,.inr ⟨o,l⟩,b,λJ Yt aW d=>ck.l s aW d⟩
 ·cases a
end
def jV.perm{P:List X}(o:jV D)(n:P.Perm D):jV P:=
 ⟨⟨by rw[n.length_eq];exact o.ord.dY,λg a d c=>o.ord.ij g (n.mem_iff.mp a) d<|n.mem_iff.mp c,n.nodup_iff.mpr o.ord.ae⟩,o.fst.imp (λb r hd=>b r<|n.mem_iff.mp hd) λb r hd=>b r<|n.mem_iff.mp hd⟩
theorem Gw{j:ax}:∀{a:List (List X×aq)},(∀i∈a,b8 j (.tup i.1)<|.ref i.2)->bt j ((a.map (·.1)).map .tup) (a.map λi=>ai.ref i.2)
 |[],_=>rfl
 |i::a,b=>⟨_,_,rfl,b i<|.head _,Gw λA c=>b A<|.tail _ c⟩
theorem y2:∀a:List (List X×aq),bN (a.map λi=>ai.ref i.2) (a.map λi=>ag.ref i.2)
 |[]=>.nil
 |i::a=>.cons rfl (y2 a)
section
variable{c:aI}{G:List (aq×a5)}{B:aZ}{j:ax}{m:au}{XI:List X->aq->Prop}
def NT(as:c.calm=aa)(cr:c.A.units+20<bj){XC:aq}{M:List (List X)}{y:cI}(z:aG c G B j m)(a1:fR c.w XI m.heap XC (hC c.w) M)(a2:∀q d,XI q d->b8 j (.tup q) (.ref d))(o:jV (M.map .tup))(C:M.length<=300)(s:∀J Yt,j J=V->bt j (fU a3<|M.map .tup) Yt->y (.ref J) (upd j J<|.lst Yt)):
  wpAny (aN c.prog c.w) c.A (call (.builtin "sorted") [.ref XC]) (eA c G B y) c.cP m:=by
 refine xn w7 AZ yf (yu _) ?i
 case i=>
  unfold bc.«sorted»;refine aw (m:=wd "sorted" 1 1 _) (aM<|aw<|Vx (L:=c.A.in1) (z.ok.hd as) a1 C λah Yb r f bd X5 be=>?_);have N:aG c G B j {m with heap:=ah,toks:=Yb,drawn:=r}:=(z.Up r).kept (Yc:=Yb) bd;have XG:bt j ((f.map (·.1)).map .tup) (f.map λi=>ai.ref i.2):=Gw λi C=>a2 _ _ (be i C);have v:dy ah ((f.map (·.1)).map .tup) (f.map λi=>ag.ref i.2):=XG.el N.aU (y2 f);have O:((f.map (·.1)).map X.tup).Perm (M.map .tup):=X5.map _;have Yq:=o.perm O;have k:f.length<=300:=by rw[<-a6 (f:=(·.1)),X5.length_eq];exact C
  generalize bi:(f.map (·.1)).map X.tup=D at XG v O Yq;generalize bm:f.map (λi=>ai.ref i.2)=XW at XG;have P:bN XW (f.map λi=>ag.ref i.2):=bm ▸ y2 f;generalize T:f.map (λi=>ag.ref i.2)=XN at v P ⊢;have U:XN.length=D.length:=v.length.symm;have bn:XN.length<=300:=by rw[<-T,a6];exact k
  show wpAny _ _ (r9 XN >>= _) _ _ _;refine aw (tq ?_ (dg bn ∅));have al:(ah.push<|fL "list" XN.toArray 0).get? ah.objs.size=Z (fL "list" XN.toArray 0):=dE _ rfl;refine aw (fS<|iF ym ⟨_,al,rfl⟩ AS ?A<|zw _)
  case A=>
   have Q:∀g:aV,(∀d Yo,d≠ah.objs.size->(ah.push<|fL "list" XN.toArray 0).get? d=Z Yo->g.get? d=Z Yo)->∀d Yo,ah.get? d=Z Yo->g.get? d=Z Yo:=λg x d Yo a=>x d Yo (c0<|cn a) (cw _ a);refine wk (m:={m with heap:=ah.push (fL "list" XN.toArray 0),toks:=Yb,drawn:=r}) (oh D) (p0<|decide (∀r∈D,iW r=aa)) al (λt g x y bs=>Aw (b:=g) (m:={m with heap:=g,toks:=Yb,drawn:=r}) Yq.w t (v.n4<|Q g x) _ _ y bs) (λg x=>?_) (by rw[<-T,a6];have l:=Yq.ord.dY;rw[<-bi,a6,a6]at l;lia) ⋯ λn t p am bv ⟨ca,cd⟩=>⟨_,rfl,aM ⟨_,rfl,?_⟩⟩
   ·refine xP (m:={m with heap:=g,toks:=Yb,drawn:=r}) Yq.w.ord (v.n4<|Q g x) Yq.w.tup (λce=>e_ ce) (by show c.A.units+1+1+9<bj;lia)
   ·have ch:j ah.objs.size=V:=N.aU.fresh (bk _);rw[U]at p am;have ci:(n.toList.map λh=>D.getD h .aK)=fU a3 (M.map .tup):=uS o.w.ord ((vL p).trans O) (wL Yq.w.ord p am);have an:=XG.pick (n:=n.toList) λq R=>gJ.mp (p.mem_iff.mp R);rw[ci]at an;refine⟨.ref ah.objs.size,upd j ah.objs.size<|.lst<|n.toList.map λh=>XW.getD h .aK,?_,rfl,s _ _ ch an⟩;refine N.laid (Yc:=Yb) (λd I a=>Q t bv d I a) (bk _) ⟨?_,_,ca,?_,cd⟩
    ·rw[a6,dA,p.size];exact dg (by lia:D.length<=300) ∅
    ·refine rG ↥0 λh u I l t=>?_;rw[ef]at l t;cases S:n.toList[h]? with
     |none=>rw[S]at l;cases l
     |some q=>
      rw[S]at l t;cases l;cases t;have R:q<D.length:=gJ.mp (p.mem_iff.mp<|fi S);have ap:q<XW.length:=by rw[P.length,U];exact R
      let⟨@I,cl,co⟩:=P.get (h:=q) (e:=XW[q]) (dF ap);show bU (XW.getD q .aK) (XN.getD q .none);rw[cY,dF ap,cY,cl];exact co
def hF(M:List (List X)):List (List X):=(M.foldl iC [])
theorem yC(M:List (List X)):∀h,h<=M.length->iT (λh=>M.getD h []) h=(M.take h).foldl iC []
 |0,_=>by rw[Cc];rfl
 |h+1,b=>by
  rw[Kf (show h<M.length from b),wY,<-yC M h (Nat.le_of_succ_le b)];show iC _ (M.getD h [])=iC _ M[h];rw[cY,dF<|show h<M.length from b];rfl
def Oc(J:List (List X)):∀a:List (List X),a.length<=(J.foldl iC a).length:=by
 induction J with
 |nil=>intro a;exact bk _
 |cons q p b=>
  intro a;refine dg ?_ (b _);unfold iC;split
  ·exact bk _
  ·rw[cC];exact u2 _ _
def TK(b:h<=M.length):(iT (λh=>M.getD h []) h).length<=(hF M).length:=by
 rw[yC M h b];have a:hF M=(M.drop h).foldl iC ((M.take h).foldl iC []):=by
  rw[hF,<-wY,Af]
 rw[a];exact Oc _ _
def U1(M:List (List X)):iT (λh=>M.getD h []) M.length=hF M:=by
 rw[yC M _ (bk _),t4];rfl
def Od(Yx:fk):bL:=(λB j y=>Yx B j λQ XE=>∃(g:aq) (M:List (List X)) (XW:List ai),Q=[.ref g]/\XE g=Z (.tup XW)/\bt XE (M.map .tup) XW/\(∀q∈M,X.keys 7 q=aa)/\jV ((hF M).map .tup)/\(hF M).length<300/\
 ∀J Yt,XE J=V->bt XE (fU a3<|(hF M).map .tup) Yt->y (.ref J) (upd XE J<|.lst Yt))
theorem bt.at{j:ax}:∀{D:List X}{Q:List ai}{h:Nat}{u:ai},bt j D Q->Q[h]?=Z u->∃r,D[h]?=Z r/\b8 j r u
 |[],Q,h,u,b,a=>by rw[show Q=[] from b]at a;simp at a
 |r::D,Q,0,u,b,a=>by
  let⟨I,@p,rfl,l,t⟩:=b;cases a;exact⟨r,rfl,l⟩
 |r::D,Q,h+1,u,b,a=>by
  let⟨I,@p,rfl,l,t⟩:=b;let⟨@YE,c,d⟩:=bt.at (h:=h) t ⇑a;exact⟨YE,by simpa using c,d⟩
def Qy(E:c.calm=aa)(F:c.A.units+30<bj){J:aq}{M:List (List X)}{XW:List ai}{y:ag->au->Prop}(z:aG c G B j m)(N:j J=Z (.tup XW))(XG:bt j (M.map .tup) XW)(O:∀q∈M,X.keys 7 q=aa)(U:(hF M).length<300)(b:∀ah Yb XC,aG c G B j {m with heap:=ah,toks:=Yb}->fR c.w (λq d=>X.keys 7 q=aa/\b8 j (.tup q) (.ref d)) ah XC (hC c.w) (hF M)->y (.ref XC) {m with heap:=ah,toks:=Yb}):
  wpAny (aN c.prog c.w) c.A (call (.type "set") [.ref J]) y c.cP m:=by
 let@⟨i,⟨@XN,a,⟨@o,P,Q,⟨@v,R⟩⟩⟩⟩:=z.aU J _ N;have S:XN.length=M.length:=by rw[<-a.length,<-XG.length,a6]
 have k:XN.toArray.size=M.length:=by rw[cK,S]
 refine Mu (XI:=λq d=>X.keys 7 q=aa/\b8 j (.tup q) (.ref d)) (X1:=XN.toArray) (M:=M) (z.ok.hd E) P (Prod.mk.inj Q).1 R F (λh u f=>?_) (λs d i=>⟨i.1,i.2.el z.aU rfl⟩) (λh XG=>?_) λah Yb l b3=>?_
 ·rw[ta]at f;have n:h<XW.length:=by rw[a.length];exact (e7.mp f).1
  let⟨@I,p,t⟩:=a.get (h:=h) (e:=XW[h]) (dF n);rw[f]at p;cases p;let⟨@r,C,g⟩:=XG.at (h:=h) (u:=XW[h]) (dF n);rw[ef]at C;let⟨@q,D,rfl⟩:=b5.mp C;let⟨d,@x,T,al,am⟩:=id g;rw[T]at t g;refine⟨d,t,?_⟩;rw[cY,D];exact⟨O q<|fi D,g⟩
 ·rw[k]at XG;have:=TK (M:=M) (lA XG);lia
 ·rw[k,U1]at l;exact b ah Yb _ (z.kept (Yc:=Yb) b3) l
def NU{Yx:fk}(a:c.calm=aa)(e:c.A.units+30<bj)(f:fc c "sorted")(h:c.aJ "sorted" = V)(k:fc c "set")(l:c.aJ "set" = V)(o:hp c [g] Yx)(XO:bD [g] c.env=[(aA,bP g c.env)]:=by rfl):
  bu c (.Call (.Name "sorted" YG) [.Call (.Name "set" n) [g] [] XP] [] Y4) (Od Yx):=by
 intro G m B j y z b;refine ru (nX z f h (show fb "sorted" = Z (.builtin "sorted") by decide +kernel) (GF ?_ rfl rfl) ∅ ∅);refine pj ?_;refine Call_ (nX z k l (show fb "set" = Z (.type "set") by decide +kernel)<|tk (bK (o XP G m B j _ z b) λXZ F ⟨Q,XE,p,r,t⟩=>?_) XO rfl);let⟨J,M,@XW,rfl,u,XG,v,w,x,s⟩:=t;let⟨@I,rfl,C⟩:=hD r;cases C;exact Qy a e p u XG v x λah Yb XC D E=>ri (NT a ⋯ D E (λq d i=>i.2) w ⋯ s)
end
def pz:List X->Option (List<|List X)
 |[]=>Z []
 |.tup g::p=>(pz p).map (g::·)
 |_=>V
theorem JN:∀{e:List X}{M:List (List X)},pz e=Z M->e=M.map .tup
 |[],M,b=>by cases b;rfl
 |.tup g::p,M,b=>by
  let⟨@q,l,rfl⟩:=b5.mp b;rw[JN l];rfl
 |.aK::_,_,b=>by cases b
 |.aH _::_,_,b=>by cases b
 |.int _::_,_,b=>by cases b
 |.str _::_,_,b=>by cases b
 |.fn _::_,_,b=>by cases b
 |.aW _::_,_,b=>by cases b
 |.fd _::_,_,b=>by cases b
theorem JA:∀M:List (List X),pz (M.map .tup)=Z M
 |[]=>rfl
 |q::M=>by
  show (pz<|M.map .tup).map (q::·)=_;rw[JA M];rfl
def t_(M:List (List X)):Bool:=(M.all (X.keys 7)&&decide ((hF M).length<300))
def qN(O:aC (List bo)):aC ak:=(λw=>(O w).bind λn=>(hq n.2 n.1).bind λD=>match D with
 |[.im (.tup e)]=>(pz e).bind λM=>if t_ M=aa/\nF ((hF M).map .tup)=aa then Z (.lst<|fU a3<|(hF M).map .tup,n.2) else V
 |_=>V)
def Fn:t_ M=aa↔(∀q∈M,X.keys 7 q=aa)/\(hF M).length<300:=by
 unfold t_;rw[cq,l5,ek]
section
variable{c:aI}
def PF{O:aC (List bo)}(q:c.A.units+30<bj)(r:fc c "sorted")(v:c.aJ "sorted" = V)(z:fc c "set")(C:c.aJ "set" = V)(f:f6 c [g] O)(XO:bD [g] c.env=[(aA,bP g c.env)]:=by rfl)(E:c.calm=aa:=by rfl):
  bZ c (.Call (.Name "sorted" YG) [.Call (.Name "set" n) [g] [] XP] [] Y4) (qN O):=by
 refine dR (NU E q r v z C f XO) λB j y F=>?_;let⟨w,N,p,@X0,R,ae,G,s⟩:=F;let⟨@⟨XU,XD⟩,l,t⟩:=bg.mp G;let⟨@D,H,h⟩:=bg.mp t;refine⟨w,N,XU,XD,R,ae,l,λQ XE XT ap i I P=>?_⟩;have S:=I.read i H;split at h
 ·rename_i e;let⟨@M,T,k⟩:=bg.mp h;split at k
  ·rename_i m;cases k;let⟨@u,rfl,a⟩:=zz S;let⟨d,@x,rfl,U,XG⟩:=(show ∃g x,u=ai.ref g/\XE g=Z (.tup x)/\bt XE e x from a);cases JN T;let@⟨al,am⟩:=Fn.mp m.1;refine⟨d,M,x,rfl,U,XG,al,nV.mp m.2,am,λJ Yt aW an=>?_⟩;have b:cN XE (upd XE J<|.lst Yt):=(cN.refl XE).upd aW;exact s _ _ XT [J] (i.mono b.tupS λg Y o a=>b g o a) ⟨J,_,rfl,dx,an.mono b.tupS.tup,rfl⟩ (P.new b (es _ _) (λg f=>by rw[cf.mp f];exact aW) i.chg)
  ·cases k
 ·cases h
end
end L2
namespace L2
open Spec PyProof.Rows
def vY:fp:=(λg d=>match g,d with
 |.im e,.im A=>if eg 6 e A=aa then Z (.im<|.aH<|a3 e A) else V
 |_,_=>V)
section
variable{c:aI}
def T4(n:c.A.units+20<bj):e3 c (eL .Lt) vY:=by
 intro G m B j e A u I y z b d f;let⟨Ym,T,@r,g,k,a,s⟩:=f;unfold vY at a;split at a
 ·split at a
  ·rename_i l;cases a;exact ue 6 l ⋯ (g.i.el z.aU b) (k.i.el z.aU d) c.prog c.w _ _ ⟨.aH _,j,z,rfl,ck.i s rfl⟩
  ·cases a
 ·cases a
end
end L2
namespace PySem
open PySem.Sem (wp)
def Rc:uZ (.type "list") "keys" = pure V:=by rw[yK,xG];kernel_rfl
def La{XJ:bB}{H:a9}{L:br}{XA:ag->au->Prop}{m:au}{g:aq}{x:Array ag}{q:Nat}{y:Option ag->au->Prop}(c:m.heap.get? g=Z {cls:=.type "list",data:=.seq x q})(i:L.handled=V)(b:∀ah Yb,(∀d o,m.heap.get? d=Z o->ah.get? d=Z o)->y V {m with heap:=ah,toks:=Yb}):wpAny (aN XJ H) L (getAttr? (.ref g) "keys") y XA m:=by
 let⟨j,O,r,Yb,XU⟩:=m;have e:∀f,(⟨j,O,r,f,XU⟩:au).TypeIs (.ref g) "list" := λ_=>⟨_,c,rfl⟩;have p:=sub_AttributeError;have s:=wj.lookup;have t:=wj.bind (.ref g);have u:=am_list_getattr_none;unfold getAttr? getAttrBy? getAttrBy;repeat (any_goals (first|assumption|exact e _|((with_reducible show wpAny _ _ (call (ag.builtin "list.__getattribute__") _ _) _ _ _);refine kH wj (e _) am_entry_list_getattribute (F.args_list_getattribute_2 _ _) (meets_getattribute_miss_list g x q _ "keys" _ Rc (by decide +kernel) ∅) ⟨c,i,λah f a h=>?_⟩)|wp_step))
 let⟨Yc,@v,k⟩:=h.there;show wpAny _ _ (JV _ _ _ _ _ _ _) _ _ _;unfold JV;have l:∀n,(⟨ah,O,r,n,XU⟩:au).TypeIs (.ref a) "AttributeError" := λ_=>⟨_,k,rfl⟩;repeat (any_goals (first|assumption|exact l _|wp_step))
 exact b ah _ h.keeps
end PySem
namespace PySem
namespace F
def Gg:pT p6 "dict.update.loop" = Z bc.«dict.update.loop»:=EC (by kernel_rfl)
def tG:plainId "dict.update.loop" = aa:=by decide +kernel
end F
end PySem
namespace L2
open Spec PyProof.Rows PySem.W
variable{I u:ag}{L:br}{m:au}{XP:b9}{q:aY}
theorem tP{XR Yv:Type}{N:XR->Yv->Prop}:∀{a:List XR}{c:List Yv},dB N a c->∀(h:Nat),h<a.length->∃g d,a[h]?=Z g/\c[h]?=Z d/\N g d
 |_,_,.nil,h,b=>by simp at b
 |_,_,.cons p C,0,b=>⟨_,_,rfl,rfl,p⟩
 |_,_,.cons p C,h+1,b=>by
  let⟨g,@d,e,A,i⟩:=tP C h ⇑b;exact⟨g,d,by simpa using e,by simpa using A,i⟩
def oE:List X->Option (List<|List X×X)
 |[]=>Z []
 |.tup [.tup q,r]::p=>(oE p).map λm=>(q,r)::m
 |_=>V
def M7:∀{e:List X}{XF:List (List X×X)},oE e=Z XF->e=XF.map λn=>.tup [.tup n.1,n.2]:=by
 intro e;induction e with
 |nil=>intro XF b;cases b;rfl
 |cons g e c=>
  intro XF b;unfold oE at b;split at b
  ·cases b;rename_i a;cases a
  ·rename_i q r p a;cases a;let⟨@m,d,f⟩:=b5.mp b;cases f;rw[bz,<-c d]
  ·cases b
def gR(XF:List (List X×X)):List (List X×X):=(XF.foldl (λg n=>ei g n.1 n.2) [])
def AM(j:ax)(u:ai)(n:List X×X):Prop:=(∃C g A,u=.ref C/\j C=Z (.tup [.ref g,A])/\hk j n.1 g/\b8 j n.2 A)
theorem FV{j:ax}:∀{XF:List (List X×X)}{XW:List ai},(∀n∈XF,X.keys 7 n.1=aa)->bt j (XF.map λn=>.tup [.tup n.1,n.2]) XW->dB (AM j) XW XF
 |[],XW,_,b=>by rw[show XW=[] from b];exact .nil
 |n::XF,XW,a,b=>by
  let⟨u,@p,rfl,⟨C,@Yt,rfl,l,⟨v1,@q,rfl,t,⟨c,@d,rfl,e,f⟩⟩⟩,h⟩:=b;cases (show d=[] from f);let⟨g,@i,rfl,k,m⟩:=t;exact .cons ⟨C,g,c,rfl,l,⟨a n<|.head _,g,i,rfl,k,m⟩,e⟩ (FV (λs o=>a s<|.tail _ o) h)
section
variable{c:aI}{G:List (aq×a5)}{B:L2.aZ}{j:ax}{T:au}
def fF.is{Xy:List (List X×ai)}{x:List (List X×aq×ag)}(p:fF j Xy x):∀e∈x,hk j e.1 e.2.1:=by
 intro e a;let⟨h,XG,rfl⟩:=pJ.mp a;let⟨n,@s,l,t,b,c,Y⟩:=tP p h (by rw[dB.length p];exact XG);rw[dF XG]at t;have t:=Option.some.inj t;subst t;rw[<-b];exact c
def yo(a:aG c G B j T){w:aq}{b ah:aV}{Xy:List (List X×ai)}{x:List (List X×aq×ag)}(f:b.DictOfH (ea c.prog c.w) w x)(YP:fF j Xy x)(b3:∀d o,T.heap.get? d=Z o->ah.get? d=Z o)(g:∀o,b.get? w=Z o->ah.get? w=Z o):ah.DictOfH (ea c.prog c.w) w x:=by
 let⟨o,P,@X8,l,t,h,i,Y,k⟩:=f;have m:aG c G B j {T with heap:=ah}:=a.kept (Yc:=T.toks) b3;exact⟨o,P,X8,g o l,t,h,i,λe n=>jJ (b:=ah) m.aU<|YP.is e n,k⟩
def Q4(p:aG c G B j T){L:br}(bd:L.units+20<bj){w fI J:aq}{Q:List ag}{XW:List ai}{XF:List (List X×X)}{aZ:Nat->aV->Prop}{Xz:qw->au->Prop}(r:bN XW Q)(U:dB (AM j) XW XF)(f2:XF.length<=1000)(W:hH c.prog c.w L.in1 fI [fI,J] [fI] Q.length (λh u=>Q[h]?=Z u) aZ)(be:T.heap.get? w=V)(s:T.heap.get? fI=V)(t:w≠fI)(bi:w≠J)(bm:∀(m:au) (x:List (List X×aq×ag)) (Xy:List (List X×ai)),(∀d o,T.heap.get? d=Z o->m.heap.get? d=Z o)->m.heap.DictOfH (ea c.prog c.w) w x->fF j Xy x->dW j (gR XF) Xy->Xy.length<=1000->
   m.gens=T.gens->m.drawn=T.drawn->m.os=T.os->Xz (.ok<|.ret .none) m):
  ∀(E h:Nat) (C:hT) (m:au) (x:List (List X×aq×ag)) (Xy:List (List X×ai)),Q.length-h=E->h<=Q.length->aZ h m.heap->(∀d o,T.heap.get? d=Z o->m.heap.get? d=Z o)->
   m.heap.DictOfH (ea c.prog c.w) w x->fF j Xy x->dW j (gR<|XF.take h) Xy->Xy.length<=h->m.gens=T.gens->m.drawn=T.drawn->m.os=T.os->
   codeAny (aN c.prog c.w) L (.builtin "dict.update.loop" ⟨[.ref w,.ref fI,.int h C,.none],[]⟩) Xz m:=by
 have f4:Q.length=XF.length:=by rw[<-r.length,dB.length U]
 intro E;induction E with
 |zero=>
  intro h C m x Xy bn XG R b3 y YP l bs z M O;have bv:h=Q.length:=⋯
  refine hW F.Gg ?_;rw[iR F.tG _];refine aw (m:=fE (.ref fI)) (W.done m _ _ (bv ▸ R) λah Yb keep=>?_);refine aw (m:=bc.Dict.addKeywords w []) (aM<|aM ?_);have k:∀d o,d≠fI->m.heap.get? d=Z o->ah.get? d=Z o:=λd o e a=>keep d o ⇑e a;refine bm _ x Xy (λd o a=>k d o (λi=>by rw[i,s]at a;cases a)<|b3 d o a) ?_ YP (by rw[Hc ⋯]at l;exact l) ⋯ z M O;exact yo p y YP (λd o a=>k d o (λi=>by rw[i,s]at a;cases a)<|b3 d o a) λo a=>k w o t a
 |succ E ca=>
  intro h C m x Xy bn XG R b3 y YP l bs z M O;have lt:h<Q.length:=⋯
  refine hW F.Gg ?_;rw[iR F.tG _];refine aw (m:=fE (.ref fI)) (W.item h m _ _ lt R λu ah Yb cd ce keep=>?_);have k:∀d o,d≠fI->m.heap.get? d=Z o->ah.get? d=Z o:=λd o e a=>keep d o ⇑e a;let⟨A,@f,ch,ci,⟨n,g,@al,rfl,cl,am,co⟩⟩:=tP U h (by rw[r.length];exact lt);let⟨@I,an,cr⟩:=r.get ch;rw[cd]at an;cases an;cases cr;have P:∀d o,T.heap.get? d=Z o->ah.get? d=Z o:=λd o a=>k d o (λi=>by rw[i,s]at a;cases a) (b3 d o a);have ap:aG c G B j {T with heap:=ah}:=p.kept (Yc:=T.toks) P;have cs:=yo p y YP P λo a=>k w o t a;let@⟨_,⟨@XN,db,⟨@o,as,ds,⟨@v,dL⟩⟩⟩⟩:=ap.aU _ _ cl;let⟨cc,@S,rfl,eq,ev⟩:=r2 db;cases eq;show wpAny (aN c.prog c.w) L.in1 (holding [.ref n] _ >>= λ_=>again _) _ _ _;refine aw (fS<|aw<|k2 ?_);unfold bc.Dict.pairItems;refine aw (l7 (s:={m with heap:=ah,toks:=Yb}) (⟨o,as,(Prod.mk.inj ds).1⟩:au.TypeIs {m with heap:=ah,toks:=Yb} (.ref n) "tuple") ?_);rw[aF ∅];refine aw (jz (s:={m with heap:=ah,toks:=Yb}) as dL<|aM ?_);show wpAny (aN c.prog c.w) L.in1 (holding [.ref g,S]<|dictSet w (.ref g) S) _ _ _;refine fS (Kp (s:={m with heap:=ah,toks:=Yb}) (k:=f.1) (knd:=ea c.prog c.w) (mU bd) (jJ (b:=ah) ap.aU am) cs (λex fd fn=>?_) (by
   have:=dB.length YP;exact dg (show x.length<=1000 by lia) ∅))
  have a1:∀d o,d≠w->ah.get? d=Z o->ex.get? d=Z o:=λd o e a=>(fn.2 d e).trans a;have fr:=YP.put f.1 (d:=g) (A:=al) (I:=S) am ev;have f0:XF.take (h+1)=XF.take h++[f]:=by
   have a2:=(e7.mp ci);rw[Kf a2.1,a2.2]
  have f1:dW j (gR<|XF.take<|h+1) (eM Xy f.1 al):=by
   rw[f0];unfold gR;rw[wY];exact dW.put co l
  refine aM ⟨hz F.tG _,ca (h+1) 0 _ _ _ ⋯ lt (W.frame _ _ _ ce λd e o a=>a1 d o (λi=>by
    subst i;rcases b0.mp e with i|e
    ·exact t i
    ·exact bi (cf.mp e)) a) (λd o a=>a1 d o (λi=>by rw[i,be]at a;cases a)<|P d o a) fd fr f1 ?_ z M O⟩
  unfold eM;split
  ·rw[a6];lia
  ·simp;lia
def PG(C:c.calm=aa)(ce:c.A.units+30<bj):eK c (.type "dict") (λx j y=>∃(J:aq) (XW:List ai) (XF:List (List X×X)),x=[.ref J]/\j J=Z (.lst XW)/\dB (AM j) XW XF/\XF.length<=1000/\
  ∀(r:aq) (Xy:List (List X×ai)),j r=V->dW j (gR XF) Xy->y (.ref r) (upd j r<|.aE Xy)):=by
 intro G m B j x XZ y z p b;let⟨J,XW,@XF,rfl,S,T,U,s⟩:=b;let⟨@I,rfl,al⟩:=hD p;cases al;let@⟨i,⟨XN,@v,am,a⟩⟩:=z.aU J _ S;have D:J<m.heap.objs.size:=cn a;refine callType_codes (Q₁:=λM O=>M=.ref m.heap.objs.size/\O={m with heap:=m.heap.push {cls:=.type "dict",data:=.dict #[]} }) PySem.F.kt_called_dict (PySem.F.kt_typeCall_dict_1 _) PySem.F.entry_dict_init (kt_code_dict_new _ ⟨rfl,rfl⟩) ?_;rintro M O ⟨rfl,rfl⟩;have an:(m.heap.push {cls:=.type "dict",data:=.dict #[]}).DictOfH (ea c.prog c.w) m.heap.objs.size []:=aV.DictOfH.new m.heap;have Q:au.TypeIs {m with heap:=m.heap.push {cls:=.type "dict",data:=.dict #[]} } (.ref m.heap.objs.size) "dict" := ⟨_,dE _ rfl,rfl⟩;have f:(m.heap.push {cls:=.type "dict",data:=.dict #[]}).get? J=Z {cls:=.type "list",data:=.seq XN.toArray v}:=cw _ a;refine⟨Q,PySem.F.args_dict_init_2 _ _,?_⟩;unfold bc.«dict.__init__»;refine aw ?_;unfold bc.Dict.selfAndRest;refine aw (x8 Q ?_);show wpAny _ _ (pure (m.heap.objs.size,[ag.ref J])) _ _ _;refine aM ?_;show wpAny _ _ (bc.Dict.updateFrom "dict.__init__" m.heap.objs.size (.ref J) [] .none) _ _ _;unfold bc.Dict.updateFrom;refine aw (l7 (⟨_,f,rfl⟩:au.TypeIs {m with heap:=m.heap.push {cls:=.type "dict",data:=.dict #[]} } (.ref J) "list") ?_);rw[aF ∅];refine aw (La (m:={m with heap:=m.heap.push {cls:=.type "dict",data:=.dict #[]} }) f (z.ok.hd C) λl Yb e=>?_);rw[aF (show (V:Option ag).isNone=aa from rfl)];refine aw (m:=rule _) (ov ?_);have R:l.IsList J XN.toArray:=⟨_,e _ _ f,rfl,v,rfl⟩;refine aw (uV (s:={m with heap:=l,toks:=Yb}) R ?_);have g:m.heap.objs.size<l.objs.size:=cn (e _ _<|dE _ rfl);have b3:∀d o,m.heap.get? d=Z o->(l.push {cls:=.type "list_iterator",data:=.fields #[.ref J,.int 0 0]}).get? d=Z o:=λd o k=>cw _ (e d o<|cw _ k);refine aM ⟨hz PySem.F.tG _,?_⟩;have ap:(l.push {cls:=.type "list_iterator",data:=.fields #[.ref J,.int 0 0]}).DictOfH (ea c.prog c.w) m.heap.objs.size []:=yo z (Xy:=[]) an .nil b3 λo as=>cw _ (e _ _ as);have qY:J≠l.objs.size:=c0 (n1 D g);refine Q4 z (L:=c.A.in1) (by show c.A.units+1+20<bj;lia) (w:=m.heap.objs.size) (fI:=l.objs.size) (J:=J) (aZ:=λh b=>b.IsListIter l.objs.size J h/\b.IsList J XN.toArray) am T U ?_ (zr<|bk _) (zr<|lA g) (c0 g) (lg D)
  (λXM x Xy a1 a2 bd be ci n q t=>?_) XN.length 0 0 _ [] [] rfl (e9 _) ?_ b3 ap .nil .nil (bk _) rfl rfl rfl
 ·have W:=hH.list (prog:=c.prog) (w:=c.w) (A:=c.A.in1.in1) (z.ok.hd C) l.objs.size J qY XN.toArray;have bi:(λ(h:Nat) (u:ag)=>XN.toArray[h]?=Z u)=λh u=>XN[h]?=Z u:=by
   funext h u;rw[ta]
  rw[bi,cK]at W;exact W
 ·let⟨ah,Y0,YE,Yc,bm⟩:=XM;have n:Y0=m.gens:=n;have q:YE=m.drawn:=q;have t:bm=m.os:=t;subst n q t;have zq:j m.heap.objs.size=V:=z.aU.fresh (bk _);let⟨o,P,@X8,bn,bs,bv,ca,Y,cd⟩:=a2;refine⟨rfl,.ref m.heap.objs.size,_,z.laid (o:=.aE Xy) (ah:=ah) (Yc:=Yc) a1 (bk _) ⟨dg (show Xy.length<=1000 by lia) ∅,ve.mpr<|dn<|c0 z.big,x,bd.keeps λd XW k=>J3 k zq,o,P,X8,bn,bs,bv,ca,cd⟩,rfl,s _ Xy zq be⟩
 ·exact⟨⟨_,dE _ rfl,rfl,rfl⟩,R.push _⟩
@[simp] def n7:hu:=λD=>match D with
 |[.lst e]=>(oE e).bind λXF=>if (XF.all λn=>X.keys 7 n.1)=aa/\XF.length<=1000 then Z (.aE<|gR XF) else V
 |_=>V
def wR(f:c.calm=aa)(h:c.A.units+30<bj):gX c (.type "dict") n7:=by
 refine (PG f h).imp λx j y i=>?_;let⟨D,@r,k,a,s⟩:=i;unfold n7 at a;split at a
 ·rename_i e;let⟨@XF,o,b⟩:=bg.mp a;split at b
  ·rename_i d;cases b;let⟨@u,rfl,⟨Y,n,@XW,rfl,l,t,Y⟩⟩:=gq k;rw[M7 o]at t;refine⟨n,XW,XF,rfl,l,FV (λs p=>l5.mp d.1 s p) t,d.2,λr Xy hd q=>?_⟩;have m:cN j (upd j r<|.aE Xy):=(cN.refl j).upd hd;exact s _ _ [r] m ⟨r,Xy,rfl,dx,q.mono m.tupS.tup,rfl⟩ (es _ _) λg v=>by rw[cf.mp v];exact hd
  ·cases b
 ·cases a
end
section
variable{c:aI}
def Ml(Yb l:bL):bL:=(λB j y=>∀n,j n=V->Yb B (upd j n<|.aE []) λe XE=>l B XE λA XS=>∃d q,e=.ref d/\hk XS q d/\XS n=Z (.aE [])/\y (.ref n) (upd XS n<|.aE [(q,A)]))
variable{u:aY}
def Sj{Yb l:bL}(ap:c.A.units+20<bj)(p:bu c q Yb)(r:bu c u l):bu c (.Dict [Z q] [u] XP) (Ml Yb l):=by
 intro G m B j y z s;have v:=z.aU.fresh (bk m.heap.objs.size);have C:=z.laid (g:=m.heap.objs.size) (o:=.aE []) (ah:=m.heap.push {cls:=.type "dict",data:=.dict #[]}) (Yc:=m.toks) (λ_ Y s=>cw _ s) (bk _) (Bw m.heap z.big);refine wpAny_Dict_any rfl rfl ↥0 ↥0 ?_;refine Ir (bK (p G _ B _ _ C<|s _ v) λI E ⟨e,XE,F,J,M⟩=>bK (r G E B XE _ F M) λas N ⟨A,XS,a,O,d,f,Yp,h,b,Q⟩=>GH ?_);subst Yp;cases J;let@⟨i,R,⟨@x,YP,S⟩⟩:=zb a.aU b;cases YP;unfold storeAll;rw[Dv];refine aw (aw (Kp (k:=f) (knd:=ea c.prog c.w) (show c.A.units+10<bj by lia) (jJ a.aU h) S (λah T U=>aM ?_)<|e9 _));refine aM ⟨.ref m.heap.objs.size,_,?_,rfl,Q⟩;let⟨cU,P,@X8,k,t,al,am,Y,an⟩:=T;refine rV (m:=N) a (by rw[b];exact True.intro) U ⟨cU,k⟩ ⟨(show 1<=sizeLine by decide),R,_,fF.keeps (fF.put (Xy:=[]) (x:=[]) .nil f (d:=d) h O) λa1 XW n=>?_,cU,P,X8,k,t,al,am,an⟩;rw[cm (Ab n b<|λi=>nomatch i)];exact n
@[simp] def xJ(v a:aC ak):aC ak:=λw=>(v w).bind λn=>(a n.2).bind λs=>match n.1,s.1 with
 |.im (.tup q),.im r=>if X.keys 7 q=aa then Z (.aE [(q,r)],s.2) else V
 |_,_=>V
def DZ{v F:aC ak}(O:c.A.units+20<bj)(P:bZ c q v)(Q:bZ c u F):bZ c (.Dict [Z q] [u] XP) (xJ v F):=by
 refine dR (Sj O P Q) λB j y ⟨w,N,p,X0,R,ae,S,s⟩ n r=>?_;let⟨@⟨Ym,XD⟩,l,t⟩:=bg.mp S;let⟨@⟨T,X_⟩,U,h⟩:=bg.mp t;have m:cN j (L2.upd j n<|.aE []):=(cN.refl j).upd r;have G:n∉N:=λi=>by let⟨@o,a,Y⟩:=R.chg n i;rw[r]at a;cases a
 refine⟨w,N,Ym,XD,R.mono m.tupS λg Y o a=>m g o a,ae,l,λe XE XT bm al am z=>?_⟩;have an:=cH.mp z.ae;refine⟨XD,XT,T,X_,al,an.1,U,λA XS X4 bJ ap Yq k=>?_⟩;dsimp only at h;split at h
 ·rename_i C bn;split at h
  ·rename_i as;cases h;let@⟨cc,rfl⟩:=am;let@⟨a1,rfl⟩:=Yq;rw[bO]at z k;have D:=z.seq k;have H:XE n=Z (.aE []):=z.keep n _ dx G;have J:n∉XT:=λi=>by
    rcases z.sub n i with b|b
    ·exact G b
    ·rw[dx]at b;cases b
   have E:XS n=Z (.aE []):=k.keep n _ H J;have M:n∉X4:=λi=>by
    rcases k.sub n i with b|b
    ·exact J b
    ·rw[H]at b;cases b
   let⟨d,@x,rfl,a2,bd⟩:=(show b8 XS (.tup C) e from cc.mono k.tup.tup);refine⟨d,C,rfl,⟨as,d,x,rfl,a2,bd⟩,E,?_⟩;have fB:eC XS (L2.upd XS n<|.aE [(C,A)]):=eC.of (λg x a=>by
    have:g≠n:=λi=>by subst i;rw[E]at a;cases a
    rw[cm this];exact a) λg o I a=>by
    have:g≠n:=λi=>by subst i;rw[E]at a;cases a
    rw[cm this];exact a
   refine s _ _ X4 [n] (ap.mono fB λg f o a=>by
    have ne:g≠n:=λi=>by subst i;exact M f
    rw[cm ne];exact a) ⟨n,[(C,A)],rfl,dx,.cons ⟨rfl,a1.mono fB.tup⟩ .nil,rfl⟩ ?_
   refine⟨λg o a f=>?_,λg f=>?_,?_,?_,λg o a=>?_⟩
   ·have:g≠n:=λi=>by subst i;rw[r]at a;cases a
    rw[cm this];exact D.keep g o (by rw[cm this];exact a) f
   ·rcases dM.mp f with b|b
    ·rcases D.sub g b with ah|ah
     ·exact .inl ah
     ·by_cases a:g=n
      ·exact .inr (a ▸ r)
      ·rw[cm a]at ah;exact .inr ah
    ·exact .inr (by rw[cf.mp b];exact r)
   ·exact cH.mpr ⟨k.ae,es _ _,λg f d be a=>M (by rw[cf.mp be]at a;rw[<-a];exact f)⟩
   ·exact (m.tupS.trans D.tup).trans fB
   ·by_cases i:g=n
    ·exact⟨_,by rw[i];exact dx⟩
    ·let⟨@Yy,bi⟩:=D.grow g o (by rw[cm i];exact a);exact⟨Yy,by rw[cm i];exact bi⟩
  ·cases h
 ·cases h
end
def Tt:String->bc:=((⟨_,rfl⟩:{F:String->bc // F "max" = bc.«max» }).1)
def MR:String->kA->bc:=((⟨_,rfl⟩:{F:String->kA->bc // F "max" .Gt=bc.«max.loop» }).1)
section
variable{XJ:bB}{H:a9}{L:br}{XA:ag->au->Prop}{m:au}
def JT{w k:String}{Yn:kA}(n:(toString w++toString ".loop" : String)=k)(U:builtinKind w=V)(al:plainId w=aa)(am:pT p6 w=Z (Tt w))(an:∀g d:ag,sG w ⟨[g,d],[]⟩)(c:plainId k=aa)(s:pT p6 k=Z (MR w Yn)){g d:ag}{q:Bool}{y:ag->au->Prop}(ap:L.handled=V)(as:∀XM:au,(∀f o,m.heap.get? f=Z o->XM.heap.get? f=Z o)->∀(y:ag->au->Prop) (XA:ag->au->Prop),y (.bool q) XM->wpAny (aN XJ H) L.in1 (kX Yn d g) y XA XM)(b:∀ah Yb,(∀f o,m.heap.get? f=Z o->ah.get? f=Z o)->y (if q=aa then d else g) {m with heap:=ah,toks:=Yb}):wpAny (aN XJ H) L (call (.builtin w) [g,d]) y XA m:=by
 refine GG U al am (an _ _) ?_;show wpAny _ L.in1 (bc.Builtins.bindParams w ["key","default"] 0 ⟨[],[]⟩ >>= _) _ _ m;refine aw (qy (show bc.Builtins.bindParams w ["key","default"] 0 ⟨[],[]⟩=pure [V,V] from rfl) ?_);show wpAny _ L.in1 (zZ [g,d] >>= _) _ _ m;refine aw (gF ?_);have C:(m.heap.push {cls:=.type "tuple",data:=.seq #[g,d]}).IsTuple m.heap.objs.size #[g,d]:=⟨_,dE _ rfl,rfl,0,rfl⟩;refine aw (xp C<|aw<|gF ?_);have p:(m.heap.push {cls:=.type "tuple",data:=.seq #[g,d]}).objs.size=m.heap.objs.size+1:=iL ..;have W:=hH.tuple (prog:=XJ) (w:=H) (A:=L.in1) ap (m.heap.push {cls:=.type "tuple",data:=.seq #[g,d]}).objs.size m.heap.objs.size (by rw[p];exact c0 (mX _)) #[g,d];rw[n];refine aM ⟨hz c _,?_⟩;have d4:((m.heap.push {cls:=.type "tuple",data:=.seq #[g,d]}).push {cls:=.type "tuple_iterator",data:=.fields #[.ref m.heap.objs.size,.int 0 0]}).IsTupleIter (m.heap.push {cls:=.type "tuple",data:=.seq #[g,d]}).objs.size m.heap.objs.size 0:=⟨_,dE _ rfl,rfl,rfl⟩;have D:=C.push {cls:=.type "tuple_iterator",data:=.fields #[.ref m.heap.objs.size,.int 0 0]};have v:((m.heap.push {cls:=.type "tuple",data:=.seq #[g,d]}).push {cls:=.type "tuple_iterator",data:=.fields #[.ref m.heap.objs.size,.int 0 0]}).objs.size=m.heap.objs.size+2:=by rw[iL,p]
 have b3:∀f o,m.heap.get? f=Z o->((m.heap.push {cls:=.type "tuple",data:=.seq #[g,d]}).push {cls:=.type "tuple_iterator",data:=.fields #[.ref m.heap.objs.size,.int 0 0]}).get? f=Z o:=λf o a=>cw _ (cw _ a);rw[p]at W d4;rw[p,v];generalize ca:((m.heap.push {cls:=.type "tuple",data:=.seq #[g,d]}).push {cls:=.type "tuple_iterator",data:=.fields #[.ref m.heap.objs.size,.int 0 0]})=g2 at d4 D v b3 ⊢;have E:(g2.push {cls:=.type "list",data:=.seq ([]:List ag).toArray}).get? (m.heap.objs.size+2)=Z {cls:=.type "list",data:=.seq ([]:List ag).toArray}:=by rw[<-v];exact dE _ rfl
 have x:m.heap.objs.size+2∉[m.heap.objs.size+1]:=by simp
 have F:∀f∈[m.heap.objs.size+1,m.heap.objs.size],m.heap.objs.size+2≠f:=λf e i=>by
  simp only[b0,List.mem_nil_iff,td]at e;rcases e with a|a
  ·rw[a]at i;exact absurd i (lg<|mX _)
  ·rw[a]at i;exact absurd i (lg (Dp ∅))
 have h:∀f o,m.heap.get? f=Z o->f∉[m.heap.objs.size+1]/\f≠m.heap.objs.size+2:=λf o a=>by
  have lt:=cn a;refine⟨λi=>?_,c0<|eF lt<|u2 _ _⟩;rw[cf.mp i]at lt;exact gN _ (Nat.lt_of_succ_lt lt)
 have G:∀(ah:aV) (Yb:Nat) (j:ag) (I:Nat),(∀f o,m.heap.get? f=Z o->ah.get? f=Z o)->ah.get? (m.heap.objs.size+2)=Z {cls:=.type "list",dict:=V,data:=.seq #[j,j] I,slots:=#[]}->
   ah.IsTupleIter (m.heap.objs.size+1) m.heap.objs.size 2/\ah.IsTuple m.heap.objs.size #[g,d]->j=(if q=aa then d else g)->
   codeAny (aN XJ H) L (.builtin k ⟨[.ref (m.heap.objs.size+1),.none,.ref<|m.heap.objs.size+2],[]⟩) (wants y XA) {m with heap:=ah,toks:=Yb}:=by
  intro ah Yb j I r J R gn;refine hW s ?_;rw[iR c _];show wpAny _ L.in1 (k8 (.ref<|m.heap.objs.size+2) >>= _) _ _ _;refine aw (jz (s:={m with heap:=ah,toks:=Yb}) J rfl ?_);show wpAny _ L.in1 (tryCatch (fE<|.ref<|m.heap.objs.size+1) _ >>= _) _ _ _;refine aw (k2<|W.done {m with heap:=ah,toks:=Yb} _ _ R λt a1 M=>?_);have a2:=M _ _ x J;show wpAny _ L.in1 (pw (m.heap.objs.size+2) (λ_=>#[]) >>= _) _ _ _;refine aw (mi a2 rfl<|aw<|lW<|aM ?_);show y j _;rw[gn];exact b _ a1 λf o a=>(gM _ _<|dn (h f o a).2).trans (M f o (h f o a).1 (r f o a))
 refine hW s ?_;rw[iR c _];show wpAny _ L.in1 (k8 (.ref<|m.heap.objs.size+2) >>= _) _ _ _;refine aw (jz (s:={m with heap:=g2.push {cls:=.type "list",data:=.seq ([]:List ag).toArray} }) E rfl ?_);show wpAny _ L.in1 (tryCatch (fE<|.ref<|m.heap.objs.size+1) _ >>= _) _ _ _;refine aw (k2 (W.item 0 {m with heap:=g2.push {cls:=.type "list",data:=.seq ([]:List ag).toArray} } _ _ ↥0 ⟨let ⟨o,bd,be⟩:=d4;⟨o,cw _ bd,be⟩,D.push _⟩ λu l cd z bi r=>?_));cases z;have N:=r _ _ x E;show wpAny _ L.in1 (pw (m.heap.objs.size+2) (λ_=>#[g,g]) >>= _) _ _ _;refine aw (mi N rfl ?_);rw[n];refine aM ⟨hz c _,hW s ?_⟩;have O:=jB (a5.mapSeq<|λ_=>(#[g,g]:Array ag)) N rfl;have bm:=W.frame _ _ (l.update (m.heap.objs.size+2)<|a5.mapSeq<|λ_=>(#[g,g]:Array ag)) bi λf e o a=>(gM _ _<|F f e).trans a;have bn:∀f o,m.heap.get? f=Z o->(l.update (m.heap.objs.size+2)<|a5.mapSeq<|λ_=>(#[g,g]:Array ag)).get? f=Z o:=λf o a=>(gM _ _<|dn (h f o a).2).trans (r f o (h f o a).1 (cw _<|b3 f o a));rw[iR c _];show wpAny _ L.in1 (k8 (.ref<|m.heap.objs.size+2) >>= _) _ _ _;refine aw (jz O rfl ?_);show wpAny _ L.in1 (tryCatch (fE<|.ref<|m.heap.objs.size+1) _ >>= _) _ _ _;refine aw (k2 (W.item 1 _ _ _ ↥0 bm λu bs P z Q S=>?_));cases z;have A:=S _ _ x O;have B:∀f o,m.heap.get? f=Z o->bs.get? f=Z o:=λf o a=>S f o (h f o a).1 (bn f o a);show wpAny _ L.in1 (tryCatch (holding [d,d]<|kX Yn d g >>= _) _ >>= _) _ _ _;refine aw (k2<|fS<|aw<|as _ B _ _ ?_);refine aw (fS<|oC ?_);refine aw (lW<|aM ?_);cases T:q with
 |true=>
  simp only[hl];refine aw (mi A rfl<|aw<|lW ?_);rw[n];have bv:=jB (a5.mapSeq<|λ_=>(#[d,d]:Array ag)) A rfl;refine aM ⟨hz c _,G _ P d _ (λf o a=>(gM _ _<|dn (h f o a).2).trans<|B f o a) bv (W.frame _ _ _ Q λf e o a=>(gM _ _<|F f e).trans a) (by rw[T];rfl)⟩
 |false=>
  simp only[hr,eR];refine aw (lW ?_);rw[n];exact aM ⟨hz c _,G _ P g _ B A Q (by rw[T];rfl)⟩
end
section
variable{XJ:bB}{H:a9}{L:br}{XA:ag->au->Prop}{m:au}{g d:ag}{q:Bool}{y:ag->au->Prop}
def WH(a:L.handled=V)(c:∀XM:au,(∀f o,m.heap.get? f=Z o->XM.heap.get? f=Z o)->∀(y:ag->au->Prop) (XA:ag->au->Prop),y (.bool q) XM->wpAny (aN XJ H) L.in1 (kX .Gt d g) y XA XM)(b:∀ah Yb,(∀f o,m.heap.get? f=Z o->ah.get? f=Z o)->y (if q=aa then d else g) {m with heap:=ah,toks:=Yb}):wpAny (aN XJ H) L (call (.builtin "max") [g,d]) y XA m:=
 JT ∅ F.kind_max F.plain_max F.entry_max F.args_max2 F.plain_max_loop F.entry_max_loop a c b
def Mp(a:L.handled=V)(c:∀XM:au,(∀f o,m.heap.get? f=Z o->XM.heap.get? f=Z o)->∀(y:ag->au->Prop) (XA:ag->au->Prop),y (.bool q) XM->wpAny (aN XJ H) L.in1 (kX .Lt d g) y XA XM)(b:∀ah Yb,(∀f o,m.heap.get? f=Z o->ah.get? f=Z o)->y (if q=aa then d else g) {m with heap:=ah,toks:=Yb}):wpAny (aN XJ H) L (call (.builtin "min") [g,d]) y XA m:=
 JT ∅ BP KQ Jw F.args_min2 m3 tr a c b
end
def u0(L:br)(m:au)(A e:ag)(q:Bool):Prop:=(∀(XJ:bB) (H:a9) (XA:ag->au->Prop) (y:ag->au->Prop),y (.bool q) m->wpAny (aN XJ H) L (kX .Gt A e) y XA m)
section
open PySem.SeqAt
open PySem.AutoSeq1 (wpAny_loadPart')
open PySem.MeetsSeq PySem.MeetsSeq2 PySem.MeetsSeq3
def VZ(J d:aq)(X1 c:Array ag)(v YN:Nat)(y z:Option aq)(aR B:Array (Option ag))(XF:List (Bool×Bool))(N:XF.length=min X1.size c.size):
  Meets (bc.«tuple.__gt__» ⟨[.ref J,.ref d],[]⟩)
   (λL Xz m=>m.heap.get? J=Z {cls:=.type "tuple",dict:=y,data:=.seq X1 v,slots:=aR}/\m.heap.get? d=Z {cls:=.type "tuple",dict:=z,data:=.seq c YN,slots:=B}/\
    (∀k (l:k<X1.size) (t:k<c.size) (n:k<XF.length),EqAt L.in1 m X1[k] c[k] (XF[k]).1/\((XF[k]).1=aA->u0 L.in1 m X1[k] c[k] (XF[k]).2))/\
    Xz (.ok<|.ret<|.bool<|hN (decide (c.size<X1.size)) XF) m):=
 .of_wp λXJ H L Xz m b=>by
  let⟨i,O,r,Yb,XU⟩:=m;let@⟨C,D,E,b⟩:=b;have P:=HS;have p:(X1.toList.zip c.toList).length=min X1.size c.size:=by simp
  wp_walk using wpAny_loadPart' C,wpAny_loadPart' D,l6 _ (λcR d XM=>d.1=V/\XM=⟨i,O,r,Yb,XU⟩/\∃h,cR=(X1.toList.zip c.toList).drop h/\
   Xz (.ok<|.ret<|.bool<|hN (decide (c.size<X1.size))<|XF.drop h) ⟨i,O,r,Yb,XU⟩) _
  case turn=>
   rintro⟨A,e⟩ cR d XM ⟨o,rfl,h,f,g⟩;have s:h<(X1.toList.zip c.toList).length:=by
    rcases f7 h (X1.toList.zip c.toList).length with ah|ah
    ·exact ah
    ·rw[ny ah]at f;cases f
   have Q:h<min X1.size c.size:=p ▸ s;have l:h<X1.size:=⋯
   have t:h<c.size:=⋯
   have n:h<XF.length:=⋯
   rw[mS s]at f;injection f with u F;have G:A=X1[h]:=by have:=congrArg Prod.fst u;simpa using this
   have I:e=c[h]:=by have:=congrArg Prod.snd u;simpa using this
   subst G I;rw[mS n]at g;let@⟨w,x⟩:=E h l t n;generalize XF[h]=rr at g w x;let⟨a,q⟩:=rr;refine aw (w XJ H _ _ ?_);cases a with
   |true=>
    have j:Xz (.ok<|.ret<|.bool<|hN (decide (c.size<X1.size))<|XF.drop<|h+1) ⟨i,O,r,Yb,XU⟩:=g
    wp_walk
    exact⟨rfl,rfl,h+1,F,j⟩
   |false=>
    have j:Xz (.ok<|.ret<|.bool q) ⟨i,O,r,Yb,XU⟩:=g;have M:=x rfl XJ H
    wp_walk using M
    exact⟨_,rfl,by simpa using j⟩
  case fin=>
   rintro⟨c2,c6⟩ XM ⟨o,rfl,h,f,g⟩;simp only at o;subst o;have R:min X1.size c.size<=h:=by
    rcases f7 h (X1.toList.zip c.toList).length with ah|ah
    ·rw[mS ah]at f;cases f
    ·exact p ▸ ah
   rw[ny ⋯]at g;have j:Xz (.ok<|.ret<|.bool<|decide (c.size<X1.size)) ⟨i,O,r,Yb,XU⟩:=g
   wp_walk
   exact⟨_,rfl,by simpa [bc.Tuple.tupleCompareSizes] using j⟩
  case h=>
   exact⟨rfl,rfl,0,rfl,by simpa using b⟩
end
def kr(D P:List X):List (Bool×Bool):=((D.zip P).map λn=>(b1 n.1 n.2,a3 n.2 n.1))
def SK(g d:X):X.beq g d=X.beq d g:=by
 rw[pU,X.beq_iff,X.beq_iff];exact⟨λb=>b.symm,λb=>b.symm⟩
theorem IJ:∀{v:Nat}{D P:List X},fv v D P=aa->hN (decide (P.length<D.length)) (kr D P)=gg P D
 |_,[],[],_=>rfl
 |v,g::p,d::C,b=>by
  rw[fv,cq]at b;show (if b1 g d=aa then hN (decide (C.length+1<p.length+1)) (kr p C) else a3 d g)=gg (d::C) (g::p);rw[gg,(pN b.1).2.2,<-IJ b.2,SK,fW.mpr wD]
 |_,[],_::_,_=>rfl
 |_,_::_,[],_=>rfl
def NW{h k:Int}(a:dh m.heap (.int h) I)(b:dh m.heap (.int k) u):u0 L m I u (a3 (.int k)<|.int h):=by
 let⟨@C,rfl⟩:=a;let⟨@Yc,rfl⟩:=b;intro XJ H XA y s;rw[a3]at s;exact (Pj s:wpAny (aN XJ H) L (eL .Gt (.int h C)<|.int k Yc) y XA m)
def DW{e A:X}(J:As e A)(b:dh m.heap e I)(c:dh m.heap A u):u0 L m I u (a3 A e):=by
 rcases J with ⟨h,k,rfl,rfl⟩|⟨g,d,rfl,rfl⟩
 ·exact NW b c
 ·let⟨C,rfl⟩:=b;let⟨Yc,rfl⟩:=c;intro XJ H XA y s;rw[a3]at s;exact richCompare_gives (op:=.Gt) (Ag m g C) (Ag m d Yc) PySem.F.slot_str_gt PySem.F.entry_str_gt (PySem.F.args_str_gt_2 _ _) (PySem.gives_str_gt g d C Yc) (λa=>nomatch a) s
def MQ(v:Nat):∀{L:br}{e A:X}{I u:ag},eg v e A=aa->L.units+v+2<bj->dh m.heap e I->dh m.heap A u->u0 L m I u (a3 A e):=by
 induction v with
 |zero=>
  intro L e A I u b Q c f;rcases nI b with J|⟨E,_,_,a,_⟩
  ·exact DW J c f
  ·cases a
 |succ v R=>
  intro L e A I u b Q c f;rcases nI b with J|⟨E,D,P,a,rfl,rfl,b⟩
  ·exact DW J c f
  cases a;let⟨g,o,XN,@E,rfl,l,t,h,j⟩:=c;let⟨d,Yy,w,@S,rfl,n,p,q,r⟩:=f;let⟨cls,U,data,aR⟩:=o;let⟨bd,al,be,am⟩:=Yy;simp only at t h p q;subst t h p q;have x:D.length=XN.size:=by rw[j.length,dA]
  have z:P.length=w.size:=by rw[r.length,dA]
  intro XJ H XA y s;rw[a3,<-IJ b,x,z]at s;have an:(kr D P).length=min XN.size w.size:=by rw[kr,a6,xO,x,z]
  refine FQ (op:=.Gt) ⟨_,l,rfl⟩ ⟨_,n,rfl⟩ PySem.F.slot_tuple_gt PySem.F.entry_tuple_gt (PySem.F.args_tuple_gt_2 _ _) (VZ g d XN w E S U al aR am (kr D P) an)
   ⟨l,n,λk ap as a1=>?_,show ag.bool (hN (decide (w.size<XN.size))<|kr D P)≠ag.notImplemented/\y (.bool<|hN (decide (w.size<XN.size))<|kr D P) m from ⟨(λe=>nomatch e),s⟩⟩ ⋯;let⟨@Ym,B,C⟩:=j.get (k:=k) (u:=XN[k]) (by rw[eU];simp[ap]);let⟨@T,G,M⟩:=r.get (k:=k) (u:=w[k]) (by rw[eU];simp[as]);have lk:=wt b B G;have O:=pN lk;have a2:(kr D P)[k]=(b1 Ym T,a3 T Ym):=by
   have:(kr D P)[k]?=Z (b1 Ym T,a3 T Ym):=by
    rw[kr,ef,(sh (z:=(Ym,T))).mpr ⟨B,G⟩];rfl
   rw[dF a1]at this;exact Option.some.inj this
  rw[a2];exact⟨hM v O.1 O.2.1 (by show L.units+1+v+1<bj;lia) C M,λ_=>R lk (by show L.units+1+v+2<bj;lia) C M⟩
section
variable{c:aI}
def M5(f:c.calm=aa)(i:c.A.units+20<bj):eK c (.builtin "max") (λx j y=>∃(r a:X) (u I:ai),x=[u,I]/\eg 6 a r=aa/\b8 j r u/\b8 j a I/\y (if a3 r a=aa then I else u) j):=by
 intro G m B j x XZ y z p b;let⟨r,a,u,@I,rfl,lk,l,t,s⟩:=b;let⟨k,@n,rfl,d,e⟩:=r2 p;refine WH (q:=a3 r a) (z.ok.hd f) (λXM q y XA h=>?_) λah Yb q=>⟨if a3 r a=aa then I else u,j,z.kept q,?_,s⟩
 ·exact MQ 6 lk (by show c.A.units+1+6+2<bj;lia) ((t.el z.aU e).keep λg o Y Y a Y Y=>q g o a) ((l.el z.aU d).keep λg o Y Y a Y Y=>q g o a) c.prog c.w XA y h
 ·split
  ·exact e
  ·exact d
def QM(f:c.calm=aa)(i:c.A.units+20<bj):eK c (.builtin "min") (λx j y=>∃(r a:X) (u I:ai),x=[u,I]/\eg 6 a r=aa/\b8 j r u/\b8 j a I/\y (if a3 a r=aa then I else u) j):=by
 intro G m B j x XZ y z p b;let⟨r,a,u,@I,rfl,lk,l,t,s⟩:=b;let⟨k,@n,rfl,d,e⟩:=r2 p;refine Mp (q:=a3 a r) (z.ok.hd f) (λXM q y XA h=>?_) λah Yb q=>⟨if a3 a r=aa then I else u,j,z.kept q,?_,s⟩
 ·exact ue 6 lk (by show c.A.units+1+6+2<bj;lia) ((t.el z.aU e).keep λg o Y Y a Y Y=>q g o a) ((l.el z.aU d).keep λg o Y Y a Y Y=>q g o a) c.prog c.w XA y h
 ·split
  ·exact e
  ·exact d
def vI:hu:=(λD=>match D with
 |[.im (.int h),.im<|.int k]=>Am [.im (.int h),.im<|.int k]
 |[.im (.tup g),.im<|.tup d]=>if eg 6 (.tup d) (.tup g)=aa then Z (.im<|if a3 (.tup g) (.tup d)=aa then .tup d else .tup g) else V
 |_=>V)
def q9:hu:=(λD=>match D with
 |[.im (.int h),.im<|.int k]=>wc [.im (.int h),.im<|.int k]
 |[.im (.tup g),.im<|.tup d]=>if eg 6 (.tup d) (.tup g)=aa then Z (.im<|if a3 (.tup d) (.tup g)=aa then .tup d else .tup g) else V
 |_=>V)
def NJ(b:c.calm=aa)(f:c.A.units+20<bj):gX c (.builtin "max") vI:=by
 intro G m B j x XZ y z p k;let⟨D,@r,e,a,s⟩:=k;unfold vI at a;split at a
 ·exact PS b G m B j x XZ y z p ⟨_,r,e,a,s⟩
 ·split at a
  ·rename_i g d lk;cases a;let⟨u,@I,rfl,l,t⟩:=CM e;refine M5 b f G m B j _ XZ y z p ⟨_,_,u,I,rfl,lk,l,t,ck.i s ?_⟩;split
   ·exact t
   ·exact l
  ·cases a
 ·cases a
def Gq(b:c.calm=aa)(f:c.A.units+20<bj):gX c (.builtin "min") q9:=by
 intro G m B j x XZ y z p k;let⟨D,@r,e,a,s⟩:=k;unfold q9 at a;split at a
 ·exact QX b G m B j x XZ y z p ⟨_,r,e,a,s⟩
 ·split at a
  ·rename_i g d lk;cases a;let⟨u,@I,rfl,l,t⟩:=CM e;refine QM b f G m B j _ XZ y z p ⟨_,_,u,I,rfl,lk,l,t,ck.i s ?_⟩;split
   ·exact t
   ·exact l
  ·cases a
 ·cases a
end
mutual
def sO:X->mM
 |.int h=>.int h
 |.aH d=>.bool d
 |.str e=>.str e
 |.tup D=>.tuple (mT D)
 |_=>.none
def mT:List X->List mM
 |[]=>[]
 |r::p=>sO r::mT p
end
mutual
theorem P5{b:aV}:∀{v:Nat}{r:X}{I:ag},X.bl v r=aa->dh b r I->Reads b I (sO r) []
 |_,.aK,I,_,a=>by cases (show I=.none from a);exact .none
 |_,.aH d,I,_,a=>by cases (show I=.bool d from a);exact .bool d
 |_,.int h,I,_,a=>by let⟨@C,rfl⟩:=a;exact .int h C
 |_,.str e,I,_,a=>by let⟨@C,rfl⟩:=a;exact .str e C
 |v+1,.tup D,I,q,a=>by
  let⟨g,o,X1,@E,rfl,l,t,c,f⟩:=a;exact .tuple l t c (Fz (v:=v) q f)
 |0,.tup D,I,q,a=>by cases q
 |v,.fn g,I,q,a=>by cases v<;>cases q
 |v,.aW g,I,q,a=>by cases v<;>cases q
 |v,.fd _,I,q,a=>by cases v<;>cases q
theorem Fz{b:aV}:∀{v:Nat}{D:List X}{XZ:List ag},X.ct v D=aa->dy b D XZ->ReadsAll b XZ (mT D) []
 |_,[],XZ,_,a=>by rw[show XZ=[] from a];exact .nil
 |v,r::D,XZ,q,a=>by
  let⟨u,@p,rfl,l,t⟩:=a;rw[X.ct,cq]at q;exact .cons (P5 q.1 l) (Fz q.2 t)
end
mutual
theorem Vl:∀r:X,mM.hasDict (sO r)=aA
 |.aK=>rfl
 |.aH _=>rfl
 |.int _=>rfl
 |.str _=>rfl
 |.fn _=>rfl
 |.aW _=>rfl
 |.fd _=>rfl
 |.tup D=>Ep D
theorem Ep:∀D:List X,mM.hasDictAll (mT D)=aA
 |[]=>rfl
 |r::p=>by
  show (mM.hasDict (sO r) || PyData.hasDictAll (mT p))=aA;rw[Vl r,Ep p];rfl
end
def Nq(D:List X):Bool:=(X.ct 7 D&&mM.showableAll (mT D)&&decide (mM.depthAll (mT D)<=8)&&decide ((tupleText<|mM.shownAll<|mT D).length<=100000))
@[simp] def Xm:hu:=λD=>match D with
 |[.im (.tup e)]=>if Nq e=aa then Z (.im<|.str (sO<|.tup e).shown) else V
 |_=>V
section
variable{c:aI}
def uF(XY:List Int):Int:=(preSum (λh=>(XY[h]?).getD 0) XY.length)
@[simp] def tR:hu:=λD=>match D with
 |[.lst e]=>(lJ e).map λXY=>.im (.int<|uF XY)
 |_=>V
def UL(q:c.calm=aa):gX c (.builtin "sum") tR:=by
 intro G m B j x XZ y z p w;let⟨D,@r,C,a,s⟩:=w;unfold tR at a;split at a
 ·rename_i e;let⟨@XY,E,F⟩:=b5.mp a;cases F;let⟨@u,rfl,⟨Y,J,@XW,rfl,l,t,Y⟩⟩:=gq C;cases x2 E;cases yx t;let⟨@I,rfl,H⟩:=hD p;cases H;let@⟨i,⟨XN,@v,f,a⟩⟩:=z.aU J _ l;have g:m.heap.IsList J XN.toArray:=⟨_,a,rfl,v,rfl⟩;have M:XN.length=XY.length:=by rw[<-f.length,a6]
  refine call_sum_walkAnyS (uV g ⟨m.heap.objs.size,[m.heap.objs.size,J],[m.heap.objs.size],_,XN.toArray.size,_,_,λh=>(XY[h]?).getD 0,rfl,(hH.list (A:=c.A.in1) (z.ok.hd q) _ J (c0<|cn a) XN.toArray).toS,
   ⟨⟨_,dE _ rfl,rfl,rfl⟩,g.push _⟩,λd b=>?_,λh u N=>Qf f h u ⇑N,λXM Yc k=>?_⟩)
  ·show d<(m.heap.push _).objs.size;rw[iL];rcases b0.mp b with rfl|b
   ·exact mX _
   ·rw[cf.mp b];exact DY (cn a)
  ·have O:∀d o,m.heap.get? d=Z o->XM.heap.get? d=Z o:=λd o n=>
    k.heap d o (λd4=>absurd (cn n) (by rw[cf.mp d4];exact gN _)) (cw _ n);rw[Moved.eq_with k,cK,M];exact⟨.int _,j,z.kept O,⟨_,rfl⟩,ck.i s rfl⟩
 ·cases a
end
def ly:List X->X->Option Nat
 |[],_=>V
 |e::p,r=>if b1 e r=aa then Z 0 else (ly p r).map (·+1)
theorem IZ{b:aV}{r:X}:∀{D:List X}{Q:List ag}{k:Nat},X.ct 8 D=aa->dy b D Q->ly D r=Z k->
  ∃u,Q[k]?=Z u/\jy b r u=aa/\∀E I,E<k->Q[E]?=Z I->jy b r I=aA
 |[],Q,k,_,_,a=>by cases a
 |e::D,Q,k,q,f,a=>by
  let⟨u,@p,rfl,l,t⟩:=f;rw[X.ct,cq]at q;unfold ly at a;split at a
  ·rename_i i;cases a;exact⟨u,rfl,by rw[kP q.1 l];exact i,λE I c=>absurd c<|qh E⟩
  ·rename_i i;let⟨@h,g,rfl⟩:=b5.mp a;let⟨@H,j,m,n⟩:=IZ q.2 t g;refine⟨H,j,m,λE I c d=>?_⟩;cases E with
   |zero=>
    cases d;rw[kP q.1 l];exact Bool.eq_false_iff.mpr i
   |succ E=>exact n E I ⋯ d
variable{U:Φ}{XI:bB}{H:a9}
end L2
namespace L2
open Spec PyProof.Rows PySem.W
def Iy:ak->ak
 |.im (.aW e)=>.eo e
 |r=>r
@[simp] theorem Xj(e:List X):Iy (.im<|.aW e)=.eo e:=rfl
@[simp] theorem Xq(e:List X):Iy (.im<|.tup e)=.im (.tup e):=rfl
end L2
namespace L2
open Spec PyProof.Rows
variable{b YD YF:aC bo}{d g a:aY}{P:List aY}{XP n:b9}{E q v:Nat}{O:aC (List bo)}{Ye:List Nat}{Yg XF:List aD}{F:aq}{R:cE}{YI e:aD}{U:Φ}{XH:cW}
def sD:List (aq×a5)->Bool
 |[]=>aa
 | (_,o)::p=>(match o.data with
  |.seq _ _=>(match o.cls with | .type v=>v != "list" |_=>aa)
  |_=>aa)&&sD p
def SH{U:List (aq×a5)}{g:aq}{o:a5}{XN:Array ag}(b:sD U=aa)(a:U.lookup g=Z o)(c:o.cls=.type "list")(hd:o.data=.seq XN v):False:=by
 induction U with
 |nil=>cases a
 |cons n p f=>
  let⟨d,e⟩:=n;rw[sD,cq]at b;simp only[List.lookup]at a;split at a
  ·cases a;have l:=b.1;rw[hd]at l;dsimp only at l;rw[c]at l;exact absurd l ∅
  ·exact f b.2 a
theorem BC{j:ax}:∀XY:List Int,bt j (XY.map .int) (XY.map ai.int)
 |[]=>rfl
 |v::p=>⟨.int v,_,rfl,rfl,BC p⟩
def Uu(c:sD U=aa)(j:ax)(g:aq)(XY:List Int)(d:sk j)(e:dm U j g (XY.map ai.int))(bV:∃A,XH [.eo (XY.map .int)]=Z (.im<|.aH aa,A)){XA:gT}:kl 1 XH [.ref g] j (λu Y=>u=.aH aa) XA:=by
 let⟨@A,bV⟩:=bV;have f:∃o,j g=Z (.dw o<|.lst<|XY.map ai.int):=by
  rcases e with (b|b)|⟨o,XN,v,l,t,k,h,_⟩
  ·rcases d g with a|⟨o,x,a⟩|⟨x,a⟩
   ·rw[a]at b;cases b
   ·rw[a]at b;cases b
   ·rw[a]at b;cases b
  ·exact b
  ·exact (SH c l t h).elim
 let⟨@o,i⟩:=f;refine⟨rfl,[.eo (XY.map .int)],[],.im<|.aH aa,A,⟨_,_,[],[],rfl,⟨g,_,o,rfl,i,BC XY,rfl⟩,⟨rfl,rfl⟩,rfl⟩,gB,bV,λu S Xz m b Y Y=>?_⟩;exact b.1
def kc{XZ:List ag}(b:XZ.length=v+1):∃g p,XZ=g::p/\p.length=v:=by
 cases XZ with
 |nil=>cases b
 |cons g p=>exact⟨g,p,rfl,Nat.succ.inj b⟩
def gV.Ut{fd:gZ}(N:gV U e YI R F fd)(b:∀(bR w X5:ag) (T:Option aq) (i cv:ag) (g:ag),kB (Ψ e YI (h3 R) (gI R) (d8 R) .none bR w X5 T i cv) ⟨[g],[]⟩=pure (XF.zip [g]))(c:XF.length=1:=by rfl):i9 U fd XF []:=
 N.binds λbR w X5 T i cv XZ a=>by
  replace a:=a.trans c;let⟨g,@d,rfl,l⟩:=kc a;obtain rfl:=qv l;exact b bR w X5 T i cv g
def gV.OP{fd:gZ}(N:gV U e YI R F fd)(b:∀(bR w X5:ag) (T:Option aq) (i cv:ag) (g d:ag),kB (Ψ e YI (h3 R) (gI R) (d8 R) .none bR w X5 T i cv) ⟨[g,d],[]⟩=pure (XF.zip [g,d]))(c:XF.length=2:=by rfl):i9 U fd XF []:=
 N.binds λbR w X5 T i cv XZ a=>by
  replace a:=a.trans c;let⟨g,@f,rfl,l⟩:=kc a;let⟨d,@h,rfl,t⟩:=kc l;obtain rfl:=qv t;exact b bR w X5 T i cv g d
def gV.Su{fd:gZ}(N:gV U e YI R F fd)(b:∀(bR w X5:ag) (T:Option aq) (i cv:ag) (g d f:ag),kB (Ψ e YI (h3 R) (gI R) (d8 R) .none bR w X5 T i cv) ⟨[g,d,f],[]⟩=pure (XF.zip [g,d,f]))(c:XF.length=3:=by rfl):i9 U fd XF []:=
 N.binds λbR w X5 T i cv XZ a=>by
  replace a:=a.trans c;let⟨g,@j,rfl,l⟩:=kc a;let⟨d,@k,rfl,t⟩:=kc l;let⟨f,@m,rfl,h⟩:=kc t;obtain rfl:=qv h;exact b bR w X5 T i cv g d f
def gV.VO{fd:gZ}(N:gV U e YI R F fd)(b:∀(bR w X5:ag) (T:Option aq) (i cv:ag) (g d f r:ag),kB (Ψ e YI (h3 R) (gI R) (d8 R) .none bR w X5 T i cv) ⟨[g,d,f,r],[]⟩=pure (XF.zip [g,d,f,r]))(c:XF.length=4:=by rfl):i9 U fd XF []:=
 N.binds λbR w X5 T i cv XZ a=>by
  replace a:=a.trans c;let⟨g,@k,rfl,l⟩:=kc a;let⟨d,@m,rfl,t⟩:=kc l;let⟨f,@n,rfl,h⟩:=kc t;let⟨r,@o,rfl,j⟩:=kc h;obtain rfl:=qv j;exact b bR w X5 T i cv g d f r
structure eD where
 P:bB
 w:a9
 K:Φ
 aJ:aD->Option ag
 base:aV
def dJ(U:Φ)(e:aD)(R:cE)(F:aq):Prop:=(∃fd,gV U e e R F fd/\Ξ U d9 e=Z (Z<|.ref F))
def dZ(U:Φ)(aJ:aD->Option ag)(e:aD)(R:cE)(F:aq)(XF:List aD):Prop:=(∃fd,gV U e e R F fd/\i9 U fd XF []/\aJ e=Z (.ref F))
def kR(XI:bB)(H:a9)(U:Φ)(aJ:aD->Option ag)(X9:aV)(q:Nat)(e:aD)(R:cE)(F:aq)(XF:List aD)(v:Nat)(XH:cW):Prop:=(∃fd,gV U e e R F fd/\i9 U fd XF []/\aJ e=Z (.ref F)/\iH XI H U aJ X9 ih q F fd XF (kl v XH))
abbrev ey(f:eD):=kR f.P f.w f.K f.aJ f.base
def Fw{t:ag}{l T:Option aq}{Y8:Array (Option ag)}{bR w X5 i cv:ag}(g:Ξ U d9 e=Z (Z<|.ref F))(J:U.lookup F=Z ⟨t,l,.func<|Ψ e e (h3 R) (gI R) (d8 R) .none bR w X5 T i cv,Y8⟩)(f:Δ U i e=aa)(q:Θ U (.ref F)=aa):dJ U e R F:=⟨_,Tu J f q,g⟩
section
variable{XI:bB}{H:a9}{U:Φ}{aJ:aD->Option ag}{X9 b:aV}{q v:Nat}{e:aD}{R:cE}{F:aq}{XF:List aD}{XH:cW}
def dJ.c2(p:dJ U e R F)(c:U.In b)(d:b.Ns d9 aJ)(f:∀(bR w X5:ag) (T:Option aq) (i cv g:ag),kB (Ψ e e (h3 R) (gI R) (d8 R) .none bR w X5 T i cv) ⟨[g],[]⟩=pure (XF.zip [g]):=by intros;rfl)(h:XF.length=1:=by rfl):dZ U aJ e R F XF:=
 have ⟨_,a,g⟩:=p
 ⟨_,a,a.Ut f h,pY c d g⟩
def dJ.c6(p:dJ U e R F)(c:U.In b)(f:b.Ns d9 aJ)(h:∀(bR w X5:ag) (T:Option aq) (i cv g d:ag),kB (Ψ e e (h3 R) (gI R) (d8 R) .none bR w X5 T i cv) ⟨[g,d],[]⟩=pure (XF.zip [g,d]):=by intros;rfl)(j:XF.length=2:=by rfl):dZ U aJ e R F XF:=
 have ⟨_,a,g⟩:=p
 ⟨_,a,a.OP h j,pY c f g⟩
def dJ.fO(p:dJ U e R F)(c:U.In b)(h:b.Ns d9 aJ)(j:∀(bR w X5:ag) (T:Option aq) (i cv g d f:ag),kB (Ψ e e (h3 R) (gI R) (d8 R) .none bR w X5 T i cv) ⟨[g,d,f],[]⟩=pure (XF.zip [g,d,f]):=by intros;rfl)(k:XF.length=3:=by rfl):dZ U aJ e R F XF:=
 have ⟨_,a,g⟩:=p
 ⟨_,a,a.Su j k,pY c h g⟩
def dJ.e8(p:dJ U e R F)(c:U.In b)(h:b.Ns d9 aJ)(j:∀(bR w X5:ag) (T:Option aq) (i cv g d f r:ag),kB (Ψ e e (h3 R) (gI R) (d8 R) .none bR w X5 T i cv) ⟨[g,d,f,r],[]⟩=pure (XF.zip [g,d,f,r]):=by intros;rfl)(k:XF.length=4:=by rfl):dZ U aJ e R F XF:=
 have ⟨_,a,g⟩:=p
 ⟨_,a,a.VO j k,pY c h g⟩
def kR.fd{fd:gZ}(aL:kR XI H U aJ X9 q e R F XF v XH)(c:gV U e e R F fd):iH XI H U aJ X9 ih q F fd XF (kl v XH):=by
 let⟨@f,d,Y,Y,O⟩:=aL;let⟨t,l,bR,w,X5,T,i,cv,@Y8,a,J,Y⟩:=c.ex;let⟨g,h,j,k,m,n,o,p,@r,s,b,Y⟩:=d.ex;rw[J]at b;cases b;exact O
def Wq(p:dJ U e R F)(c:U.In b)(h:b.Ns d9 aJ){a:aq}(j:aJ e=Z (.ref a)){n:aD}(k:∀(bR w X5:ag) (T:Option aq) (i cv:ag) (m:au) (u:ag),nc m (Ψ e e (h3 R) (gI R) (d8 R) .none bR w X5 T i cv) ⟨[u],[]⟩ [(n,u)])(aL:∀X9,kR XI H U aJ X9 q e R F [n] v XH):
  ∃fd:gZ,(∀(m:au) (u:ag),nc m fd ⟨[u],[]⟩ [(n,u)])/\∀X9:aV,U.In X9->X9.Ns d9 aJ->iH XI H U aJ X9 ih q a fd [n] (kl v XH):=by
 let⟨@fd,f,g⟩:=p;cases j.symm.trans (pY c h g);refine⟨fd,?_,λd Y Y=>(aL d).fd f⟩;let⟨t,l,bR,w,X5,T,i,cv,@Y8,rfl,J,Y⟩:=f.ex;exact k bR w X5 T i cv
def Oe{O:bx}(N:dZ U aJ e R F XF)(XC:oJ Yg XF (d8 R))(b:XF.length=v)(c:∀h∈Ye,h<v)(f:Yg.Nodup->∀(i:ag) (L:br) (Ys:List eQ) (m:au) (j:ax) (XA:gT),e0 q (L.deeper<|jm e (d8 R) m.heap.objs.size F i)->jr (lC ih XI H U aJ X9 Yg e (d8 R) F i L Ys m j XA).oq Ye (gI R) O):
  kR XI H U aJ X9 (q+1) e R F XF v (dp v Yg.length Ye O):=
 have ⟨_,a,d,E⟩:=N
 ⟨_,a,d,E,Ry a XC b c<|f XC.ae⟩
end
section
variable{c:aI}
def DK(aL:kR c.prog c.w c.K c.aJ c.base q e R F XF v XH)(b:e0 E c.A)(f:fc c e)(g:f6 c (a::P) O)(h:q<=E:=by decide)(i:(e==("__debug__" : aD))=aA:=by decide)(j:bD (a::P) c.env=(aA,bP a c.env)::bD P c.env:=by rfl)(k:(ep XP<|bD P c.env).any (·.1)=aA:=by rfl):
  bZ c (.Call (.Name e n) (a::P) [] XP) (bf v XH O):=
 have ⟨_,l,d,E,N⟩:=aL
 Pg N (b.mono h) f E l.b3 d g i j k
def aT{h:Int}{k XP}:du c (.Constant (.int h) k XP) (ab<|av<|.int h):=aX jw
def ay(h:Nat){e:aD}{XP:b9}(a:c.N[h]?=Z e:=by rfl)(b:tH c.env.scope e:=by first|exact Or.inl rfl|exact Or.inr (Or.inl rfl)|exact Or.inr (Or.inr rfl))(hd:(e==("__debug__" : aD))=aA:=by decide)(d:(e==("__classdict__" : aD))=aA:=by decide):du c (.Name e XP) (aj h):=O4 (BJ a b hd d)
def bE{O:aC bo}(b:du c a O)(XO:bD [a] c.env=(aA,bP a c.env)::bD [] c.env:=by rfl):f6 c [a] (ao O az):=ks b h2 XO
def kg(a:e0 E c.A)(b:du c g YF)(e:du c d YD)(XO:rH d:=by exact λ_ Y=>rfl):bZ c (.Subscript g d XP) (ac bh YF YD):=Ol (D2 (by have:=a.un;lia)) b e XO
def b2{F:aY}{O:aC bo}(d:du c a O)(e:du c F b)(XO:bD [a,F] c.env=(aA,bP a c.env)::bD [F] c.env:=by rfl)(t:bD [F] c.env=(aA,bP F c.env)::bD [] c.env:=by rfl):f6 c [a,F] (ao O<|ao b az):=ks d (bE e t) XO
def gS{F r:aY}{O q:aC bo}(d:du c a O)(e:du c F b)(hd:du c r q)(XO:bD [a,F,r] c.env=(aA,bP a c.env)::bD [F,r] c.env:=by rfl)(l:bD [F,r] c.env=(aA,bP F c.env)::bD [r] c.env:=by rfl)(t:bD [r] c.env=(aA,bP r c.env)::bD [] c.env:=by rfl):f6 c [a,F,r] (ao O<|ao b<|ao q az):=ks d (b2 e hd l t) XO
def cT(h:Nat){e:aD}{a:aY}{O:aC ak}{XP i:b9}(b:c.N.Nodup)(d:bZ c a O)(XG:c.N[h]?=Z e:=by rfl)(f:iO c.env.scope e:=by exact Or.inl rfl)(g:h∉Ye:=by decide)(XO:rE a (Z<|.Name e i) XP.line c.env=pure aA:=by rfl)(j:c.fn e=aa\/c.env.scope.names.lookup e=Z .local:=by first|exact .inl rfl|exact .inr rfl|assumption):h7 c Ye (.Assign [.Name e i] a XP) (bW h O):=vq b XG f d g XO j
def fK(h:Nat){e:aD}{XP:b9}(a:c.N.Nodup)(XG:c.N[h]?=Z e:=by rfl)(b:iO c.env.scope e:=by exact Or.inl rfl)(d:h∉Ye:=by decide)(f:c.fn e=aa\/c.env.scope.names.lookup e=Z .local:=by first|exact .inl rfl|exact .inr rfl|assumption):hJ c Ye (.Name e XP) (bH h):=yX a XG b d f
def v7:List aD->Bool
 |[]=>aa
 |e::J=>!J.contains e&&v7 J
theorem Fx:∀{J:List aD},v7 J=aa->J.Nodup
 |[],_=>gB
 |e::J,b=>by
  rw[v7,cq,sl]at b;refine df.mpr ⟨λi=>?_,Fx b.2⟩;rw[List.contains_iff_mem.mpr i]at b;cases b.1
def h_(h:Nat){e:aD}{XP:b9}(XG:c.N[h]?=Z e:=by rfl)(a:v7 c.N=aa:=by kernel_rfl)(b:iO c.env.scope e:=by exact Or.inl rfl)(d:h∉Ye:=by decide)(f:c.fn e=aa\/c.env.scope.names.lookup e=Z .local:=by first|exact .inl rfl|exact .inr rfl|assumption):hJ c Ye (.Name e XP) (bH h):=yX (Fx a) XG b d f
def pq{Yi YO Y1:aY}{X2:hn}(own:List aD)(Yh:List Nat){z:jW}{A:fG}{Za:aC ak}(XG:p1 c Yi YO z)(b:∀a,hJ (c.hL (hI c own Yh) X2 a) (qH own.length Yh.length) Yi A)(d:∀a,bZ (c.hL (hI c own Yh) X2 a) Y1 Za)(XC:x6 c.env.scope c.N X2 Yh=aa:=by kernel_rfl)(f:c.calm=aa:=by rfl)(ae:Yh.Nodup:=by decide)(XO:∀e,p3 YO c.env e=pure e:=by intro Y;rfl):bZ c (.ListComp Y1 [⟨Yi,YO,[],0⟩] X2 XP) (d2 own.length Yh z A gW Za):=
 md f (mv _ _ XC rfl rfl) ae XG b (λ_=>Ph) d XO
def rt{O b:fG}{a}(e:hJ c Ye g O)(f:hJ c Ye d b)(h:c.calm=aa:=by rfl)(l:(fJ [g,d] c.env).map (·.2)=hY g c.env::(fJ [d] c.env).map (·.2):=by rfl)(t:(fJ [d] c.env).map (·.2)=hY d c.env::(fJ [] c.env).map (·.2):=by rfl)(i:(fJ [g,d] c.env).length=2:=by rfl)(j:(fJ [g,d] c.env).findIdx? (·.1)=V:=by rfl):hJ c Ye (.Tuple [g,d] a XP) (jt 2<|fY O<|fY b jH):=QR h (Hj e (Hj f RJ t) l) i j
def ez{id:String}{Yn:List ak->Option ak}(b:gX c (.builtin id) Yn)(d:c.aJ e=V)(f:fb e=Z (.builtin id))(g:f6 c (a::P) O)(h:fc c e:=by rfl)(i:e ≠ "__name__" := by decide)(j:(e==("__debug__" : aD))=aA:=by decide)(k:bD (a::P) c.env=(aA,bP a c.env)::bD P c.env:=by rfl)(l:(ep XP<|bD P c.env).any (·.1)=aA:=by rfl):
  bZ c (.Call (.Name e n) (a::P) [] XP) (bQ Yn O):=Nw b h d f g i j k l
def cQ(aL:kR c.prog c.w c.K c.aJ c.base q e R F XF v XH)(b:e0 E c.A)(d:f6 c (a::P) O)(f:fc c e:=by rfl)(g:q<=E:=by decide)(h:(e==("__debug__" : aD))=aA:=by decide)(i:bD (a::P) c.env=(aA,bP a c.env)::bD P c.env:=by rfl)(j:(ep XP<|bD P c.env).any (·.1)=aA:=by rfl):
  bZ c (.Call (.Name e n) (a::P) [] XP) (bf v XH O):=DK aL b f d g h i j
def eX(a:e0 E c.A)(b:du c g YF)(e:du c d YD)(XO:rH d:=by exact λ_ Y=>rfl):du c (.Subscript g d XP) (ab<|ac bh YF YD):=aX (kg a b e XO)
def cg{Yn:yp}{F:ak->ak->Option ak}(a:e3 c (e5 Yn) F)(b:du c g YF)(e:du c d YD):du c (.BinOp g Yn d XP) (ab<|ac F YF YD):=aX (ha a b e)
def er{a}(b:f6 c P O):du c (.Tuple P a XP) (ab<|cp O):=aX (kx b)
end
section
variable{XI:bB}{H:a9}{U:Φ}{aJ:aD->Option ag}{X9 b:aV}{q v:Nat}{e:aD}{R:cE}{F:aq}{XF:List aD}{XH:cW}
def Qi{XI:List aD}{T:hn}(g:T.kind=.function:=by rfl)(d:T.isCoroutine=aA:=by rfl)(f:T.isGenerator=aA:=by rfl)(r:Yg.Nodup:=by decide +kernel)(a:Yg.take XI.length=XI:=by rfl)(F:∀e∈XI,T.names.lookup e=Z .local\/T.names.lookup e=Z .cell:=by decide +kernel)(O:∀A∈T.names,A.2≠.free:=by decide +kernel):oJ Yg XI T:=⟨g,d,f,r,a,F,O⟩
def eN{O:bx}(Yg:List aD)(N:dZ U aJ e R F XF)(a:Yg.Nodup->∀(i:ag) (L:br) (Ys:List eQ) (m:au) (j:ax) (XA:gT),e0 q (L.deeper<|jm e (d8 R) m.heap.objs.size F i)->jr (lC ih XI H U aJ X9 Yg e (d8 R) F i L Ys m j XA).oq Ye (gI R) O)(XC:oJ Yg XF (d8 R):=by exact Qi)(b:XF.length=v:=by rfl)(c:∀h∈Ye,h<v:=by decide):kR XI H U aJ X9 (q+1) e R F XF v (dp v Yg.length Ye O):=Oe N XC b c a
end
end L2
namespace L2
open Spec PyProof.Rows PySem.W
section
variable{c:aI}
variable{v q:Nat}{F:aq}{R:cE}{XF:List aD}{e:aD}
def x4{E:Nat}{XH:cW}{n XP:b9}{a:aY}{P:List aY}{O:aC (List bo)}(aL:kR c.prog c.w c.K c.aJ c.base q e R F XF v XH)(b:e0 E c.A)(d:q<=E)(f:f6 c (a::P) O)(g:fc c e:=by rfl)(h:(e==("__debug__" : aD))=aA:=by decide)(i:bD (a::P) c.env=(aA,bP a c.env)::bD P c.env:=by rfl)(j:(ep XP<|bD P c.env).any (·.1)=aA:=by rfl):
  bZ c (.Call (.Name e n) (a::P) [] XP) (bf v XH O):=DK aL b g f d h i j
def Mt{XI:bB}{H:a9}{U:Φ}{aJ:aD->Option ag}{X9:aV}(N:dZ U aJ e R F XF)(c:XF.length=v:=by rfl):kR XI H U aJ X9 q e R F XF v λ_=>V:=
 have ⟨_,f,d,E⟩:=N
 ⟨_,f,d,E,⟨λQ j y XA b=>b.1.trans c.symm,λL Ys m j args XZ Q y XA g h i k b=>absurd b.2 (by rintro⟨Y,Y,Y,Y,Y,Y,a,Y⟩;cases a)⟩⟩
end
end L2
namespace G
open L2
def Hn:bx:=((dk<|cp<|ao (ab<|bQ q9<|ao (aj 0)<|ao (aj 1) az)<|ao (ab<|bQ vI<|ao (aj 0)<|ao (aj 1) az) az))
def vu:cW:=(dp 2 2 [0,1] Hn)
def NC:bx:=((ba (d7 (bb<|ac iB (ab<|ac bh (aj 0)<|ab<|av<|.int 0)<|ab<|av<|.int 0) (ba (bW 2<|ac d_ (ab<|ac bh (aj 0)<|ab<|av<|.int 0)<|aj 1)<|ba (hB (ac ll (ab<|ac bh (aj 0)<|ab<|av<|.int 0)<|aj 1)<|iA 0 (av<|.int 0) kI)<|dk<|dQ 2) fC)<|ba (hB (ac cj (ab<|ac bh (aj 0)<|ab<|av<|.int 2)<|ab<|av<|.int 1)<|iA 0 (av<|.int 2) kI)<|ba (bW 3<|ac d_ (ab<|ac gc (ab<|ac cj (ab<|ac bh (aj 0)<|ab<|av<|.int 1)<|ab<|ac gc (ab<|ac bh (aj 0)<|ab<|av<|.int 2)<|ab<|av<|.int 104729)<|ab<|av<|.int 48271)<|ab<|av<|.int 2305843009213693951)<|ba (hB (ac d_ (ab<|ac gc (aj 3)<|ab<|ac cj (ab<|ac d_ (aj 3)<|ab<|av<|.int 1009)<|ab<|av<|.int 69621)<|ab<|av<|.int 2305843009213693951)<|iA 0 (av<|.int 1) kI)<|dk<|ac d_ (ab<|ac ll (ab<|ac bh (aj 0)<|ab<|av<|.int 1)<|ab<|av<|.int 1000003)<|aj 1))
def rT:cW:=(dp 2 4 [0,1] NC)
def OW:bx:=((dk<|eu<|ao (ab<|cp<|ao (ab<|ac jd (ab<|ac bh (aj 0)<|ab<|av<|.int 0)<|ab<|av<|.int 1)<|ao (ab<|ac bh (aj 0)<|ab<|av<|.int 1) az)<|ao (ab<|cp<|ao (ab<|ac bh (aj 0)<|ab<|av<|.int 0)<|ao (ab<|ac jd (ab<|ac bh (aj 0)<|ab<|av<|.int 1)<|ab<|av<|.int 1) az)<|ao (ab<|cp<|ao (ab<|ac bh (aj 0)<|ab<|av<|.int 0)<|ao (ab<|ac cj (ab<|ac bh (aj 0)<|ab<|av<|.int 1)<|ab<|av<|.int 1) az)<|ao (ab<|cp<|ao (ab<|ac cj (ab<|ac bh (aj 0)<|ab<|av<|.int 0)<|ab<|av<|.int 1)<|ao (ab<|ac bh (aj 0)<|ab<|av<|.int 1) az) az))
def Us:cW:=(dp 1 1 [0] OW)
def NX:bx:=((ba (bW 4<|ac bh (ab<|bf 1 G.Us<|ao (ab<|ac bh (aj 2)<|ab<|bf 2 G.rT<|ao (aj 0)<|ao (ab<|bQ dI<|ao (aj 2) az) az) az)<|ab<|bf 2 G.rT<|ao (aj 0)<|ao (ab<|av<|.int 4) az)<|d7 (eb (bb<|ac hb (aj 4)<|aj 2)<|eb (bb<|kO g6 g6 (ab<|av<|.int 0) (ab<|ac bh (aj 4)<|ab<|av<|.int 0)<|ab<|av<|.int 24)<|bb<|kO g6 g6 (ab<|av<|.int 0) (ab<|ac bh (aj 4)<|ab<|av<|.int 1)<|ab<|av<|.int 24) (fD<|fg gQ 2 eW<|ao (aj 4) az) fC))
def Sn:bx:=((ba (bW 2<|eu<|ao (ab<|cp<|ao (ab<|av<|.int 12)<|ao (ab<|av<|.int 12) az) az)<|ba (e4 (jO<|ao (ab<|bf 2 G.rT<|ao (aj 0)<|ao (aj 1) az) az) (bH 3) G.NX)<|dk<|dQ 2))
def UB:cW:=(dp 2 5 [0,1] Sn)
def V7:bx:=((fD<|fg gQ 5 l9<|ao (ab<|bf 2 G.rT<|ao (aj 0)<|ao (ab<|bQ dI<|ao (aj 5) az) az) az))
def PC:aC ak:=((dQ 0))
def Py:aC Bool:=((bb<|ac c_ (ab<|ac gc (ab<|ac d_ (ab<|ac bh (aj 0)<|ab<|av<|.int 0)<|ab<|av<|.int 2)<|ab<|ac d_ (ab<|ac d_ (ab<|ac bh (aj 0)<|ab<|av<|.int 1)<|ab<|av<|.int 3)<|ab<|av<|.int 2)<|ab<|av<|.int 0))
def qJ:bx:=((hB (av<|.aH aa)<|iA 1 (dQ 2) hG))
def HQ:bx:=((ba (bW 1 qg)<|ba (e4 (cL<|aj 0) (bH 2) G.qJ)<|dk<|dQ 1))
def oY:cW:=(dp 1 3 [0] HQ)
def LF:bx:=((ba (bW 1<|ac bh (aj 0)<|ab<|av<|.int 0)<|ba (bW 2<|ac bh (aj 0)<|ab<|av<|.int 1)<|dk<|eu<|ao (ab<|cp<|ao (ab<|ac jd (aj 1)<|ab<|av<|.int 1)<|ao (aj 2) az)<|ao (ab<|cp<|ao (aj 1)<|ao (ab<|ac jd (aj 2)<|ab<|av<|.int 1) az)<|ao (ab<|cp<|ao (aj 1)<|ao (ab<|ac cj (aj 2)<|ab<|av<|.int 1) az)<|ao (ab<|cp<|ao (ab<|ac cj (aj 1)<|ab<|av<|.int 1)<|ao (aj 2) az) az))
def jT:cW:=(dp 1 3 [0] LF)
end G
namespace L2
open Spec PySem.Calls PyProof.Rows
end L2
namespace L2
open Spec PyProof.Rows
section
open PySem.SeqAt
open PySem.AutoSeq1 (wpAny_loadPart')
open PySem.MeetsSeq PySem.MeetsSeq2 PySem.MeetsSeq3
end
end L2
namespace di
def gn{XR:Type}:List XR->List XR
 |[]=>[]
 |[g]=>[g]
 |g::_::p=>g::gn p
open Spec PyProof.Rows
end di
namespace L2
open Spec PyProof.Rows
end L2
namespace G
open L2
end G
namespace L2
open Spec PyProof.Rows PySem.W
section
variable{c:aI}
def d4(h:Int):Int:=(hashInt h)
def Hz(f:Int×Int):Int:=(xH (bc.Tuple.tupleHashOf [d4 f.1,d4 f.2]))
def mK(f:Int×Int):List X:=([.int f.1,.int f.2])
end
end L2
namespace L2
open Spec PyProof.Rows
abbrev TL:=(Int×Int)×(Int×Int)
def qY(J:TL):List X:=([.tup (mK J.1),.tup<|mK J.2])
end L2
namespace G
open L2
end G
namespace L2
open Spec PyProof.Rows
end L2
namespace L2
@[simp] def j7:fp:=λg d=>match g,d with
 |.im (.tup D),.im r=>if (X.bl 8 r&&X.ct 8 D)=aa/\D.length<=100000 then (ly D r).map λ(k:Nat)=>ak.im (.int (k:Int)) else V
 |_,_=>V
end L2
namespace L2
open Spec PyProof.Rows
def OF:ak->ak
 |.aE Xy=>.dN Xy
 |r=>r
@[simp] def wH(O:aC ak):aC ak:=λw=>(O w).map λn=>(OF n.1,n.2)
section
variable{c:aI}
def RI{a:aY}{O:aC ak}(b:bZ c a O):bZ c a (wH O):=by
 intro G m B j y z h;let⟨w,N,p,X0,R,ae,F,s⟩:=h;let⟨⟨k,XD⟩,l,t⟩:=b5.mp F;cases t;refine bK (@b G m B j (λu XE=>∃XT Xz,bq XE XD B XT/\b_ XE k u Xz/\a8 j N XE (XT++Xz)) z ⟨w,N,k,XD,R,ae,l,λu XE XT Xz g d f=>⟨XT,Xz,g,d,f⟩⟩) λI v h=>?_;let⟨u,XE,n,A,⟨XT,Xz,D,X7,E⟩⟩:=h;cases k with
 |aE Xy=>
  let⟨g,Yk,rfl,e,H,J⟩:=X7;cases A;let⟨i,XB,x,L,o,P,X8,q,M,Q,S,T⟩:=n.aU g _ e;have fB:=Fu (Yo:=o) e (λ_ a=>by cases a) (λ_ Y a=>by cases a);refine Tx (Yo:=o) (r:=.dN Xy) D E e (λ_ a=>by cases a) (λ_ Y a=>by cases a) J (n.write (ah:=v.heap) (Yc:=v.toks) (a:=g) (by rw[e];trivial) (.inl rfl) (λd I Y a=>a) ⟨_,q⟩ ⟨q,i,XB,x,fF.keeps L λd XW a=>fB.tup.t d XW a,o,P,X8,q,M,Q,S,T⟩) (λfB=>⟨g,Yk,_,rfl,dx,H.mono fB.tup,rfl⟩) s
 |_=>exact⟨u,XE,n,A,s u XE XT Xz D X7 E⟩
end
end L2
namespace L2
open Spec PyProof.Rows PySem.W SeqAt
end L2
namespace L2
end L2
namespace L2
open Spec PyProof.Rows PySem.W SeqAt
end L2
namespace L2
open Spec PyProof.Rows PySem.W
end L2
namespace L2
open Spec PyProof.Rows
end L2
namespace L2
open Spec PyProof.Rows PySem.W SeqAt
variable{YA YK:b9}{a o:aY}
def WL{aC:jh}{L:br}{XA:ag->au->Prop}{Yv:Type}{d:Nat}{F:Nat->Yv->eP (ForInStep Yv)}(z:Nat->Yv->au->Prop){y:Yv->au->Prop}(j:∀h f m,h<d->z h f m->wpAny aC L (F h f) (λp XM=>match p with | .done c=>y c XM | .yield c=>z (h+1) c XM) XA m)(k:∀f m,z d f m->y f m){f:Yv}{m:au}(b:z 0 f m):wpAny aC L (forIn [0:d] f F) y XA m:=by
 rw[UC];have l:([0:d]:Std.Legacy.Range).size=d:=by simp[Std.Legacy.Range.size]
 show wpAny aC L (forIn (range' 0 ([0:d]:Std.Legacy.Range).size 1) f F) y XA m;rw[l];refine l6 F (λJ f m=>∃h,h<=d/\J=range' h (d-h) 1/\z h f m) y ?_ ?_ _ f ⟨0,e9 _,rfl,b⟩
 ·rintro e cR f m ⟨h,XG,a,d4⟩;have n:h<d:=by
   rcases f7 h d with ah|ah
   ·exact ah
   ·rw[show d-h=0 by lia]at a;simp at a
  obtain⟨v,g⟩:∃v,d-h=v+1:=⟨d-h-1,⋯⟩;rw[g,DE]at a;let@⟨rfl,rfl⟩:=List.cons.inj a;refine gz (j e f m n d4) (λp XM ah=>?_) λ_ Y i=>i;cases p with
  |done c=>exact ah
  |yield c=>exact⟨e+1,⋯,by congr 1;lia,ah⟩
 ·rintro f m ⟨h,XG,a,d4⟩;have:h=d:=by
   rcases f7 h d with ah|ah
   ·obtain⟨v,g⟩:∃v,d-h=v+1:=⟨d-h-1,⋯⟩;rw[g,DE]at a;simp at a
   ·lia
  subst this;exact k _ _ d4
def NY(J:aq)(Yo:a5)(X1:Array ag)(v:Nat)(e:ag)(a:ag->Bool)(k:Nat)(o:k<X1.size)(hd:Yo.data=.seq X1 v)(d:a X1[k]=aa)(j:∀E (p:E<X1.size),E<k->a X1[E]=aA):
  Meets (bc.«tuple.index» ⟨[.ref J,e],[]⟩)
   (λL Xz m=>m.heap.get? J=Z Yo/\(∀A,A∈X1->EqAt L.in1 m A e (a A))/\Xz (.ok<|.ret<|.int k m.toks) {m with toks:=m.toks+1}):=by
 intro XJ H L Xz m b;let@⟨l,n,b⟩:=b;unfold bc.«tuple.index»;refine aw (m:=selfAndSome _ _ _ _ _) (qy (a:=(ag.ref J,[e])) (by first|rfl|(simp[selfAndSome];rfl)) ?_);refine aw (HE l hd ?_);refine aw (m:=pure _) (aM<|aw (m:=pure _)<|aM ?_);dsimp only;rw[vQ];refine aw (WL (λh f XM=>f=(V,())/\XM=m/\h<=k) ?_ ?_ ⟨rfl,rfl,e9 _⟩)
 ·rintro h f XM XG ⟨rfl,rfl,c⟩;rw[jk XG];refine aw (n _ (Array.getElem_mem XG) XJ H _ _ ?_);by_cases i:h=k
  ·subst i;rw[d,aF rfl];refine aw ?_;unfold retInt
   wp_walk
   exact b
  ·rw[j h XG ⋯,if_neg cB];exact aM ⟨rfl,rfl,⋯⟩
 ·rintro f XM ⟨rfl,rfl,c⟩;exact absurd c ⋯
section
variable{c:aI}
def Wk(a2:c.A.units+20<bj):od c "tuple.index" (λe Q j y=>∃(r:X) (D:List X) (A:ai) (k:Nat),Q=[A]/\b8 j r A/\b8 j (.tup D) e/\X.bl 8 r=aa/\X.ct 8 D=aa/\ly D r=Z k/\y (.int k) j):=by
 intro G m B j e Q u XZ y z M O b;let⟨r,D,A,@k,rfl,P,R,S,n,a,s⟩:=b;let⟨@I,rfl,T⟩:=O.one;let⟨g,@x,rfl,l,t⟩:=R;cases M;let@⟨i,⟨@XN,U,⟨@o,p,f,⟨@v,al⟩⟩⟩⟩:=(show en c.prog c.w j m.heap g (.tup x) from z.aU g _ l);have q:=t.el z.aU U;let⟨@H,am,an,ap⟩:=IZ n q a;let⟨@as,h⟩:=e7.mp am;refine kH Bq ⟨_,p,(Prod.mk.inj f).1⟩ F.entry_tuple_index (F.args_tuple_index_2 _ _) (NY g o XN.toArray v I (jy m.heap r) k ⇑as al (by simpa [h] using an) (λE bd a1=>ap E _ a1 ↥0)) ⟨p,λH h=>?_,?_⟩
 ·let⟨@i,C,J⟩:=oQ n q ⇑h;rw[kP C J];exact hM 8 C S (by show c.A.units+1+8+1<bj;lia) J (P.el z.aU T)
 ·exact⟨.int k,j,z.kept (Yc:=m.toks+1) λd o a=>a,⟨_,rfl⟩,s⟩
def OO(p:ai->List ai->ax->cI->Prop)(D:bL)(C:fk):bL:=(λB j y=>D B j λe XE=>(∃g x,e=.ref g/\XE g=Z (.tup x))/\C B XE λQ XS=>p e Q XS y)
def DT{P:List aY}{D:bL}{C:fk}{name:aD}{id:String}{p:ai->List ai->ax->cI->Prop}(YM:mW "tuple" name id)(r:n0 (.builtin id)=pure (.type "method_descriptor"))(s:od c id p)(t:bu c o D)(A:hp c (a::P) C)(E:je o name c.env (bP o c.env)=bP o c.env:=by rfl)(I:((ep YA<|bD (a::P) c.env).all (λe=>!e.1)&&(ma YA<|mE [] c.env).all (λe=>e.1.isSome)
   && decide ((a::P).length+([]:List g0).length+(if ([]:List g0).isEmpty then 0 else 1)<30))=aa:=by rfl)(J:(YK.endLine==YA.line)=aa:=by rfl)(XO:bD (a::P) c.env=(aA,bP a c.env)::bD P c.env:=by rfl)(L:(ep YA<|bD P c.env).any (·.1)=aA:=by rfl):
  bu c (.Call (.Attribute o name YK) (a::P) [] YA) (OO p D C):=by
 intro G m B j y z b;refine Br E I J rfl (bK (t G m B j _ z b) λu k h=>?_);let⟨e,@XE,l,M,⟨g,@x,Yp,O⟩,R⟩:=h;subst Yp;cases (show u=ag.ref g from M);let@⟨i,⟨@XN,an,⟨@o,n,f,⟨@v,ap⟩⟩⟩⟩:=(show en c.prog c.w XE k.heap g (.tup x) from l.aU g _ O);refine⟨"tuple",id,F.plainAttrs_tuple,YM,r,⟨o,n,(Prod.mk.inj f).1⟩,λd S=>?_,?_⟩
 ·cases S;exact⟨o,n,(Prod.mk.inj f).2⟩
 have q:=A YA G k B XE _ l R;rw[XO]at q ⊢;refine r4 (by show (aA || (ep YA<|bD P c.env).any (·.1))=aA;rw[L]<;>rfl) (tb ?_);refine bK q λXZ T h=>?_;let⟨Q,@XS,U,al,am⟩:=h;exact s G T B XS (.ref g) Q (.ref g) XZ y U rfl al am
def ME{g d r:ak}(b:j7 g d=Z r):∃D a k,g=.im (.tup D)/\d=.im a/\X.bl 8 a=aa/\X.ct 8 D=aa/\ly D a=Z k/\r=.im (.int (k:Nat)):=by
 unfold j7 at b;split at b
 ·rename_i D a;split at b
  ·rename_i c;let⟨@k,e,f⟩:=b5.mp b;rw[cq]at c;exact⟨D,a,k,rfl,rfl,c.1.1,c.1.2,e,f.symm⟩
  ·cases b
 ·cases b
def yM(O:aC bo):Prop:=(∀w p X0,O w=Z (p,X0)->X0=w)
def ux{h:Nat}:yM (aj h):=by
 intro w p X0 b;unfold aj at b;split at b
 ·cases b;rfl
 ·cases b
def Bf{go YF:aC bo}(E:c.A.units+20<bj)(G:du c o go)(f:du c a YF)(H:yM YF)(J:je o "index" c.env (bP o c.env)=bP o c.env:=by rfl)(M:((ep YA<|bD [a] c.env).all (λe=>!e.1)&&(ma YA<|mE [] c.env).all (λe=>e.1.isSome)
   && decide ([a].length+([]:List g0).length+(if ([]:List g0).isEmpty then 0 else 1)<30))=aa:=by rfl)(O:(YK.endLine==YA.line)=aa:=by rfl)(XO:bD [a] c.env=(aA,bP a c.env)::bD [] c.env:=by rfl)(P:(ep YA<|bD [] c.env).any (·.1)=aA:=by rfl):
  bZ c (.Call (.Attribute o "index" YK) [a] [] YA) (ac j7 go YF):=by
 refine dR (DT Bq F.type_tuple_index (Wk E) G (ks f h2 XO) J M O XO P) λB j y S=>?_;let⟨w,N,p,@X0,R,ae,d,s⟩:=S;unfold ac at d;let⟨@⟨e,XD⟩,f,d⟩:=bg.mp d;let⟨@⟨A,X_⟩,z,d⟩:=bg.mp d;let⟨@Ym,l,d⟩:=bg.mp d;let⟨@T,t,d⟩:=bg.mp d;let⟨@r,U,d⟩:=b5.mp d;cases d;have al:X_=XD:=H _ _ _ z;subst al;let⟨D,am,@k,rfl,rfl,an,YG,ap,rfl⟩:=ME U;refine⟨w,N,e,_,R,ae,f,λu XE XT as C m n=>⟨?_,_,XT,[A],_,C,(cH.mp n.ae).1,by unfold ao;rw[z];rfl,λQ XS X4 bJ q Yq v=>?_⟩⟩
 ·let⟨@Xz,⟨g,@x,rfl,a1,Y⟩,Y⟩:=m.read C l;exact⟨g,x,rfl,a1⟩
 ·let⟨I,Yr,a2,@bn,rfl,Yq,@⟨rfl,rfl⟩,rfl⟩:=Yq;have bd:=m.mono v.tup λg f o a=>v.keep g o a λb=>(cH.mp n.ae).2.2 g b g f rfl;have be:=bd.read q l;have bi:=Yq.read q t;refine⟨am,D,I,k,rfl,bi.i,be.i,an,YG,ap,?_⟩;refine s (.int k) XS X4 [] q ⟨rfl,rfl⟩ ?_;have bm:=n.trans v m.chg;exact bm.less (aL:=a2++as) ↥0
end
end L2
namespace L2
open Spec PyProof.Rows PySem.W
def lB(D:List X)(r:X):Nat:=(D.countP λe=>b1 e r)
theorem IA{b:aV}{r:X}:∀{D:List X}{Q:List ag},X.ct 8 D=aa->dy b D Q->Q.countP (jy b r)=lB D r
 |[],Q,_,a=>by cases (show Q=[] from a);rfl
 |e::D,Q,q,a=>by
  let⟨u,p,rfl,l,t⟩:=a;rw[X.ct,cq]at q;unfold lB;rw[i2,i2,kP q.1 l,IA q.2 t];rfl
section
variable{c:aI}
def SU(am:c.A.units+20<bj):od c "tuple.count" (λe Q j y=>∃(r:X) (D:List X) (A:ai),Q=[A]/\b8 j r A/\b8 j (.tup D) e/\X.bl 8 r=aa/\X.ct 8 D=aa/\y (.int<|lB D r) j):=by
 intro G m B j e Q u XZ y z J M b;let⟨r,D,A,rfl,O,P,R,h,s⟩:=b;let⟨I,rfl,S⟩:=M.one;let⟨g,x,rfl,l,t⟩:=P;cases J;let⟨i,XN,T,⟨cls,U,data,aR⟩,k,f,v,n⟩:=(show en c.prog c.w j m.heap g (.tup x) from z.aU g _ l);have p:=(Prod.mk.inj f).1;dsimp only at p n;subst p n;have q:=t.el z.aU T;refine kH Ko ⟨_,k,rfl⟩ F.entry_tuple_count (F.args_tuple_count_2 _ _) (SeqAt.tuple_countAt g XN.toArray v U aR I<|jy m.heap r) ⟨k,λH al=>?_,?_⟩
 ·let⟨i,C,E⟩:=oQ h q ⇑al;rw[kP C E];exact hM 8 C R (by show c.A.units+1+8+1<bj;omega) E (O.el z.aU S)
 ·refine⟨.int<|lB D r,j,z.kept (Yc:=m.toks+1) λd o a=>a,⟨_,by rw[<-IA h q]⟩,s⟩
@[simp] def nJ:fp:=λg d=>match g,d with
 |.im (.tup D),.im r=>if (X.bl 8 r&&X.ct 8 D)=aa then Z (.im<|.int (lB D r:Nat)) else V
 |_,_=>V
def LZ{g d r:ak}(b:nJ g d=Z r):∃D a,g=.im (.tup D)/\d=.im a/\X.bl 8 a=aa/\X.ct 8 D=aa/\r=.im (.int (lB D a:Nat)):=by
 unfold nJ at b;split at b
 ·rename_i D a;split at b
  ·rename_i c;cases b;rw[cq]at c;exact⟨D,a,rfl,rfl,c.1,c.2,rfl⟩
  ·cases b
 ·cases b
def NO{o a:aY}{go YF:aC bo}{YK YA:b9}(E:c.A.units+20<bj)(G:du c o go)(f:du c a YF)(H:yM YF)(J:je o "count" c.env (bP o c.env)=bP o c.env:=by rfl)(M:((ep YA<|bD [a] c.env).all (λe=>!e.1)&&(ma YA<|mE [] c.env).all (λe=>e.1.isSome)
   && decide ([a].length+([]:List g0).length+(if ([]:List g0).isEmpty then 0 else 1)<30))=aa:=by rfl)(O:(YK.endLine==YA.line)=aa:=by rfl)(XO:bD [a] c.env=(aA,bP a c.env)::bD [] c.env:=by rfl)(P:(ep YA<|bD [] c.env).any (·.1)=aA:=by rfl):
  bZ c (.Call (.Attribute o "count" YK) [a] [] YA) (ac nJ go YF):=by
 refine dR (DT Ko F.type_tuple_count (SU E) G (ks f h2 XO) J M O XO P) λB j y S=>?_;let⟨w,N,p,X0,R,ae,d,s⟩:=S;unfold ac at d;let⟨⟨e,XD⟩,f,d⟩:=bg.mp d;let⟨⟨A,X_⟩,v,d⟩:=bg.mp d;let⟨Ym,l,d⟩:=bg.mp d;let⟨T,t,d⟩:=bg.mp d;let⟨r,U,d⟩:=b5.mp d;cases d;have al:X_=XD:=H _ _ _ v;subst al;let⟨D,z,rfl,rfl,am,YG,rfl⟩:=LZ U;refine⟨w,N,e,_,R,ae,f,λu XE XT an C k m=>⟨?_,_,XT,[A],_,C,(cH.mp m.ae).1,by unfold ao;rw[v];rfl,λQ XS X4 bJ n Yq q=>?_⟩⟩
 ·let⟨Xz,⟨g,x,rfl,ap,Y⟩,Y⟩:=k.read C l;exact⟨g,x,rfl,ap⟩
 ·let⟨I,Yr,as,bi,rfl,Yq,⟨rfl,rfl⟩,rfl⟩:=Yq;have a1:=k.mono q.tup λg f o a=>q.keep g o a λb=>(cH.mp m.ae).2.2 g b g f rfl;have a2:=a1.read n l;have bd:=Yq.read n t;refine⟨z,D,I,rfl,bd.i,a2.i,am,YG,?_⟩;refine s (.int (lB D z:Nat)) XS X4 [] n ⟨rfl,rfl⟩ ?_;have be:=m.trans q k.chg;exact be.less (aL:=as++an) ↥0
end
end L2
namespace G
open L2
def Kn:aC ak:=((dQ 0))
def Fy:aC Bool:=((bb<|ac gr (aj 0)<|aj 1))
def Km:bx:=((dk<|bQ kM<|ao (ab<|d2 1 [0] (cL<|ab<|bf 1 G.jT<|ao (aj 1) az) (bH 0) G.Fy G.Kn) az))
def nS:cW:=(dp 2 2 [0,1] Km)
def Hg:aC ak:=((dQ 0))
def yZ:aC Bool:=((bb<|ac c_ (ab<|ac d_ (ab<|ac cj (ab<|bQ dI<|ao (ab<|bf 2 G.nS<|ao (aj 1)<|ao (aj 0) az) az)<|ab<|ac nJ (ab<|cp<|ao (aj 2)<|ao (aj 3) az)<|aj 0)<|ab<|av<|.int 2)<|ab<|av<|.int 1))
def F9:bx:=((ba (bW 3<|bf 1 G.oY<|ao (aj 0) az)<|dk<|bQ kM<|ao (ab<|d2 1 [3,1,2] (cL<|aj 0) (bH 0) G.yZ G.Hg) az))
def sy:cW:=(dp 3 4 [0,1,2] F9)
end G
namespace L2
variable{g b O d:bx}{a:aC ak}{own E v:Nat}{D:List ak}{Ye:List Nat}{o:Option (Nat×ak)}{x:List X}{r:ak}{XD w:aQ}{f:aC Bool}{Yi:fG}{XR:Type}{k h:Int}
@[simp] theorem Xn(r:X)(w:aQ):av r w=Z (.im r,w):=rfl
@[simp] theorem W3(w:aQ):az w=Z ([],w):=rfl
@[simp] theorem WW(w:aQ):fC w=Z (.bA,w):=rfl
@[simp] theorem Xu(w:aQ):m6 w=Z (V,w):=rfl
@[simp] theorem WX(w:aQ):gW w=Z (aa,w):=rfl
@[simp] theorem Xf(r:X):(ak.im r).c1=aa:=rfl
@[simp] theorem W2(r:List X):(ak.eo r).c1=aa:=rfl
@[simp] theorem W9(r:List X):(ak.lst r).c1=aA:=rfl
@[simp] theorem Xw(r:List (List X×X)):(ak.aE r).c1=aA:=rfl
@[simp] theorem W7(r:List (cy×X)):(ak.cb r).c1=aA:=rfl
@[simp] theorem Xt(w:aQ)(r:ak):dC w (.bY r)=Z r:=rfl
@[simp] theorem Xe(w:aQ)(h:Nat):dC w (.aR h)=(w[h]?).getD V:=rfl
@[simp] theorem Xd(w:aQ):hq w []=Z []:=rfl
@[simp] theorem W6(w:aQ)(o:bo)(XU:List bo):hq w (o::XU)=(dC w o).bind λr=>(hq w XU).map λD=>r::D:=rfl
@[simp] theorem Xk(w:aQ):eB [] w=Z ([],w):=rfl
@[simp] theorem KE(r:ak)(XU:List bo)(w:aQ):eB (.bY r::XU) w=(eB XU w).map λn=>(r::n.1,n.2):=rfl
@[simp] theorem Xo(h:Nat)(XU:List bo)(w:aQ):eB (.aR h::XU) w=(dQ h w).bind λn=>(eB XU n.2).map λs=>(n.1::s.1,s.2):=rfl
@[simp] theorem Xs:gO []=Z []:=rfl
@[simp] theorem W_(r:X)(D:List ak):gO (.im r::D)=(gO D).map λp=>r::p:=rfl
@[simp] theorem Xg(d:Bool):qc (.im<|.aH d)=Z d:=rfl
def mq(l : -(2^64)<k)(t:k<2^64):nf h k=aa:=by
 have:bc.Int.intBits k<=64:=ED l t;have ah:¬ (bc.Int.intBits k>sW):=pX.mpr this;unfold nf;rw[decide_eq_false ah];simp
def QI(l : -(2^64)<h)(t:h<2^64):nf h k=aa:=by
 have:bc.Int.intBits h<=64:=ED l t;have ah:¬ (bc.Int.intBits h>sW):=pX.mpr this;unfold nf;rw[decide_eq_false ah];simp
def Jc{x:List XR}(b:x.length<=v):x.take v=x:=Hc b
def Qt(x:List XR)(q:Nat):g_ x (Z (q:Int)) V=x.drop q:=by
 unfold g_;rw[di.E7,di.Eg];by_cases b:q<=x.length
 ·rw[wh b,Jc (by rw[m1];lia)]
 ·rw[y7 ⋯,q3,Cc,ny ⋯]
def O5(x:List XR)(q:Nat):g_ x V (Z (q:Int))=x.take q:=by
 unfold g_;rw[di.E7,di.Eg,wo,y6];by_cases b:q<=x.length
 ·rw[wh b]
 ·rw[y7 ⋯,t4,Jc ⋯]
def kJ{x:List XR}{r:XR}(a:0<=h)(b:x[h.toNat]?=Z r):ed x h=Z r:=by
 unfold ed jP;have XG:h.toNat<x.length:=(e7.mp b).1;rw[aF a,aF ⋯];exact b
def QQ(z:Nat->aQ->Prop)(Xz:ak->aQ->Prop):∀{x:List X}{w:aQ},z 0 w->
  (∀(h:Nat) (e:X) (w:aQ),x[h]?=Z e->z h w->∃XD aW X_,Yi (.im e) w=Z XD/\d XD=Z (aW,X_)/\(((aW=.bA\/aW=.cv)/\z (h+1) X_)\/∃r,aW=.eO r/\Xz r X_))->
  (∃X0,dK Yi d x w=Z (.bA,X0)/\z x.length X0)\/∃r X0,dK Yi d x w=Z (.eO r,X0)/\Xz r X0:=by
 intro x;induction x generalizing z with
 |nil=>intro w c Y;exact .inl ⟨w,rfl,c⟩
 |cons e p f=>
  intro w c b;let⟨XD,aW,@X_,l,t,g⟩:=b 0 e w rfl c;rcases g with ⟨i,d4⟩|⟨r,rfl,j⟩
  ·have:=f (λh=>z<|h+1) (w:=X_) d4 λh A X0 k m=>b (h+1) A X0 ⇑k m;have a:dK Yi d (e::p) w=dK Yi d p X_:=by
    rw[dK];dsimp only;rw[l];show (d XD).bind _=_;rw[t];rcases i with rfl|rfl<;>rfl
   rw[a];exact this
  ·refine .inr ⟨r,X_,?_,j⟩;rw[dK];dsimp only;rw[l];show (d XD).bind _=_;rw[t];rfl
def z2(z:Nat->aQ->Prop){x:List X}{w:aQ}(a:z 0 w)(b:∀(h:Nat) (e:X) (w:aQ),x[h]?=Z e->z h w->∃XD aW X_,Yi (.im e) w=Z XD/\d XD=Z (aW,X_)/\(aW=.bA\/aW=.cv)/\z (h+1) X_):
  ∃X0,dK Yi d x w=Z (.bA,X0)/\z x.length X0:=by
 rcases QQ z (λ_ Y=>False) a (λh e w c d4=>by
  let⟨XD,aW,@X_,l,t,f,g⟩:=b h e w c d4;exact⟨XD,aW,X_,l,t,.inl ⟨f,g⟩⟩) with b|⟨_,_,_,b⟩
 ·exact b
 ·exact b.elim
def ry(z:Nat->aQ->Prop)(c:aQ->Prop)(step:∀E w,z E w->∃C XD,f w=Z (C,XD)/\(C=aa->∃aW X_,d XD=Z (aW,X_)/\(aW=.bA\/aW=.cv)/\∃a,a<E/\z a X_)/\(C=aA->c XD)):
  ∀(v E:Nat) (w:aQ),z E w->E<v->∃X0,ho f d v w=Z (.bA,X0)/\c X0:=by
 intro v;induction v with
 |zero=>intro E w Y b;lia
 |succ v e=>
  intro E w d4 m;let⟨C,@XD,l,t,g⟩:=step E w d4;rw[ho];dsimp only;rw[l];cases C with
  |false=>exact⟨XD,rfl,g rfl⟩
  |true=>
   let⟨aW,@X_,h,hf,⟨@a,n,i⟩⟩:=t rfl;let⟨@X0,j,k⟩:=e a X_ i ⋯;refine⟨X0,?_,k⟩;simp only[Option.bind_some,hl,h];rcases hf with rfl|rfl<;>exact j
def RQ(x:List XR):x.filter (λ_=>aa)=x:=C5.mpr λ_ Y=>rfl
def Uv(a:O w=Z (.bA,XD)):ba O b w=b XD:=by unfold ba;rw[a];rfl
def yz(a:O w=Z (.eO r,XD)):ba O b w=Z (.eO r,XD):=by unfold ba;rw[a];rfl
def VQ{O:jW}{X_:aQ}{aW:l0}(a:O w=Z ((x,o),XD))(b:dK Yi d x XD=Z (aW,X_)):e4 O Yi d w=Z (aW,jD o X_):=by
 unfold e4;rw[a];show (dK Yi d x XD).map _=_;rw[b];rfl
def OC{p:ak}(b:D.length=v)(a:O (D.map Z++List.replicate (E-v) V)=Z (.eO p,w)):dp v E Ye O D=Z (p,jl Ye D w 0):=by
 unfold dp;rw[aF b,a]
def V0{Yh:List Nat}{z:jW}{b:aQ}{D:List X}(l:z w=Z ((x,o),XD))(t:gv own Yi f a x [] (kD Yh XD)=Z (D,b)):d2 own Yh z Yi f a w=Z (.lst D,jD o<|iV Yh b XD):=by
 unfold d2;rw[l];show (gv own Yi f a x []<|kD Yh XD).map _=_;rw[t];rfl
def fz{O:aC ak}(a:O w=Z (r,XD)):dk O w=Z (.eO r,XD):=by unfold dk;rw[a];rfl
def T8{h:Nat}{O:aC ak}(a:O w=Z (r,XD))(b:h<XD.length):bW h O w=Z (.bA,XD.set h<|Z r):=by unfold bW;rw[a];show (if h<XD.length then _ else _)=_;rw[aF b]
def LU(a:f w=Z (aa,XD)):d7 f g d w=g XD:=by unfold d7;rw[a];rfl
def K3(a:f w=Z (aA,XD)):d7 f g d w=d XD:=by unfold d7;rw[a];rfl
def Qg(w:aQ){p:ak}{A:List ak}(b:D.length=v)(a:O (D.map Z++List.replicate (E-v) V)=Z (.eO p,w))(c:jl Ye D w 0=A):dp v E Ye O D=Z (p,A):=by
 rw[OC b a,c]
theorem ku{XR:Type}{own:Nat}{Yi:fG}{f:aC Bool}{a:aC ak}{aL:aQ}(d:XR->X)(n:XR->Bool)(F:XR->X):∀(x:List XR) (c:List X),(∀e∈x,∃XD X_,Yi (.im<|d e) (List.replicate own V++aL)=Z XD/\f XD=Z (n e,X_)/\(n e=aA->X_.drop own=aL)/\(n e=aa->∃Yz,a X_=Z (.im<|F e,Yz)/\Yz.drop own=aL))->
  c.length+x.length<=100000->gv own Yi f a (x.map d) c aL=Z (c++(x.filter n).map F,aL)
 |[],c,_,_=>by simp[gv]
 |e::p,c,b,i=>by
  let⟨XD,@X_,l,t,j,k⟩:=b e (.head _);rw[b6]at i;rw[bz,gv,l];show (f XD).bind _=_;rw[t];show (if n e=aa then _ else _)=_;cases g:n e with
  |false=>
   rw[if_neg cB];show gv own Yi f a (p.map d) c (X_.drop own)=_;rw[j g,ku d n F p c (λA h=>b A<|.tail _ h) ⋯,rD,g];rfl
  |true=>
   let⟨@Yz,m,o⟩:=k g;rw[aF rfl];show (a X_).bind _=_;rw[m];show (if c.length<100000 then gv own Yi f a (p.map d) (c++[F e]) (Yz.drop own) else V)=_;rw[aF ⋯,o,ku d n F p (c++[F e]) (λA h=>b A<|.tail _ h) (by rw[cC,e6];lia),rD,g];simp
def ye{aL:aQ}(c:XR->X)(F:XR->X)(x:List XR)(b:∀e∈x,∃XD X_ Yz,Yi (.im<|c e) (List.replicate own V++aL)=Z XD/\f XD=Z (aa,X_)/\a X_=Z (.im<|F e,Yz)/\Yz.drop own=aL)(j:x.length<=100000):gv own Yi f a (x.map c) [] aL=Z (x.map F,aL):=by
 have:=ku (own:=own) (Yi:=Yi) (f:=f) (a:=a) (aL:=aL) c (λ_=>aa) F x [] (λe d=>by
  let⟨XD,X_,@Yz,l,t,g,h⟩:=b e d;exact⟨XD,X_,l,t,(λi=>by cases i),(λ_=>⟨Yz,g,h⟩)⟩) (by rw[gs];lia)
 rw[RQ]at this;exact this
def FG{Yv:Type}(F:XR->Yv)(x:List XR)(XB XG:Option Int):g_ (x.map F) XB XG=(g_ x XB XG).map F:=by
 unfold g_;rw[a6,v5,u7]
end L2
namespace G
open L2
variable{q:List X}{Xy:List (List X×X)}{M:List (Int×Int)}{d g:Int×Int}
abbrev aB(h:Int):ak:=.im (.int h)
def af(n:Int×Int):X:=(.tup [.int n.1,.int n.2])
abbrev a7(XF:List (Int×Int)):ak:=.im (.tup<|XF.map af)
abbrev a_(XF:List (Int×Int)):ak:=.lst (XF.map af)
def cG(n:Int×Int):List (Int×Int):=([(n.1-1,n.2),(n.1,n.2-1),(n.1,n.2+1),(n.1+1,n.2)])
def b4(n:Int×Int):List X:=([.int n.1,.int n.2])
def AL(n:Int×Int):af n=.tup (b4 n):=rfl
def oi(b:b4 g=b4 d):g=d:=by
 unfold b4 at b;simp at b;exact lz b.1 b.2
def Oj(b:af g=af d):g=d:=by
 rw[AL,AL]at b;exact oi (by injection b)
def lF(n:Int×Int):X.keys 7 (b4 n)=aa:=rfl
def hi:X->Int×Int
 |.tup [.int g,.int d]=>(g,d)
 |_=>(0,0)
def BB(n:Int×Int):hi (af n)=n:=rfl
def mH(n:Int×Int):X.bl 8 (af n)=aa:=rfl
theorem sI:∀XF:List (Int×Int),X.ct 8 (XF.map af)=aa
 |[]=>rfl
 |n::p=>by rw[bz,X.ct,mH,sI p];rfl
def m4(g d:Int×Int):b1 (af g) (af d)=decide (g=d):=by
 show ((g.1==d.1)&&((g.2==d.2)&&aa))=_;let⟨a,YH⟩:=g;let⟨c2,c6⟩:=d;by_cases l:a=c2<;>by_cases t:YH=c6<;>simp[l,t]
def JW(XF:List (Int×Int))(f:Int×Int):((XF.map af).any λe=>b1 e<|af f)=decide (f∈XF):=by
 rw[q6,pU,mQ,ek];constructor
 ·rintro⟨e,c,a⟩;have:decide (e=f)=aa:=by rw[<-m4];exact a
  rw[<-e_ this];exact c
 ·intro b;refine⟨f,b,?_⟩;show b1 (af f) (af f)=aa;rw[m4];exact bG rfl
theorem I6:∀(J:List X) (M:List (Int×Int)),(∀e∈J,e∈M.map af)->J=(J.map hi).map af
 |[],_,_=>rfl
 |e::J,M,b=>by
  let⟨@n,Y,a⟩:=cX.mp (b e<|.head _);rw[bz,bz,<-I6 J M λA c=>b A<|.tail _ c,<-a,BB]
def Vr{J:List X}(b:J.Perm (M.map af)):∃c:List (Int×Int),c.Perm M/\J=c.map af:=by
 refine⟨J.map hi,?_,I6 J M λe d=>b.mem_iff.mp d⟩;have:=sr hi b;rw[fM]at this;have a:(hi ∘ af:Int×Int->Int×Int)=id:=funext BB;rw[a,pV]at this;exact this
def Oa(ae:M.Nodup)(b:M.length<=63):jV (M.map af):=by
 refine⟨⟨by rw[a6];exact b,λg c d f=>?_,?_⟩,.inl λr hd=>?_⟩
 ·let⟨@e,Y,rfl⟩:=cX.mp c;let⟨@A,Y,rfl⟩:=cX.mp f;rfl
 ·exact qL af (λg d v a=>v<|Oj a) ae
 ·let⟨@e,Y,rfl⟩:=cX.mp hd;rfl
def vm:(cF Xy q).isSome=Xy.any λn=>decide (n.1=q):=by
 unfold cF;rw[ua,List.isSome_find?]
def WG{c:List X}{r:X}:((ei Xy q r).any λn=>decide (n.1=c))=((Xy.any λn=>decide (n.1=c)) || decide (q=c)):=by
 unfold ei;split
 ·rename_i b;have a:((Xy.map λd=>if d.1=q then (d.1,r) else d).any λn=>decide (n.1=c))=Xy.any λn=>decide (n.1=c):=by
   rw[q6];congr 1;funext n;show decide ((if n.1=q then (n.1,r) else n).1=c)=_;split<;>rfl
  rw[a];by_cases i:q=c
  ·subst i;rw[b];rfl
  ·rw[decide_eq_false i,C6]
 ·rw[List.any_append];simp
theorem J9:∀(XF a:List (List X×X)) (q:List X),((XF.foldl (λg n=>ei g n.1 n.2) a).any λn=>decide (n.1=q))=((a.any λn=>decide (n.1=q)) || XF.any λn=>decide (n.1=q))
 |[],a,q=>by simp
 |n::XF,a,q=>by
  rw[km,J9 XF _ q,WG,i8,Bool.or_assoc]
def mt(M:List (Int×Int)):List (List X×X):=(M.map λf=>(b4 f,.aH aa))
def r3(M:List (Int×Int))(f:Int×Int):((mt M).any λn=>decide (n.1=b4 f))=decide (f∈M):=by
 unfold mt;rw[q6,pU,mQ,ek];constructor
 ·rintro⟨e,c,a⟩;have:b4 e=b4 f:=e_ a;rw[<-oi this];exact c
 ·intro b;exact⟨f,b,bG rfl⟩
def OK(XK:List (Int×Int))(f:Int×Int):(cF (gR<|mt XK)<|b4 f).isSome=decide (f∈XK):=by
 rw[vm];unfold gR;rw[J9,r3];rfl
def wy(M:List (Int×Int))(f:Int×Int):(cF (mt M)<|b4 f).isSome=decide (f∈M):=by rw[vm,r3]
def yc{f:Int×Int}(b:f∉M):ei (mt M) (b4 f) (.aH aa)=mt (M++[f]):=by
 unfold ei;rw[if_neg (by rw[r3];simpa using b)];unfold mt;rw[fq];rfl
def MS(XK:List (Int×Int)):oE (XK.map λf=>.tup [af f,.aH aa])=Z (mt XK):=by
 induction XK with
 |nil=>rfl
 |cons f p a=>
  rw[bz,AL,oE,a];rfl
def QC(M:List (Int×Int)):((mt M).map λn=>X.tup n.1)=M.map af:=by
 unfold mt;rw[fM];rfl
def PI(M:List (Int×Int)):((mt M).all λn=>X.keys 7 n.1)=aa:=by
 unfold mt;rw[Gv,l5];intro f Y;rfl
end G
namespace L2
section
variable{w XD X_:aQ}
variable{r:ak}
def cO{O:aC ak}(b:O w=Z (r,XD)):ab O w=Z (.bY r,XD):=by unfold ab;rw[b];rfl
variable{e:bo}
def cZ{O:aC bo}{b:aC (List bo)}{x:List bo}(a:O w=Z (e,XD))(c:b XD=Z (x,X_)):ao O b w=Z (e::x,X_):=by unfold ao;rw[a];show (b XD).map _=_;rw[c];rfl
variable{Ym T:ak}
def e1{Yn:ak->ak->Option ak}{YF YD:aC bo}{A:bo}(a:YF w=Z (e,XD))(b:YD XD=Z (A,X_))(c:dC X_ e=Z Ym)(d:dC X_ A=Z T)(f:Yn Ym T=Z r):ac Yn YF YD w=Z (r,X_):=by
 unfold ac;rw[a];show (YD XD).bind _=_;rw[b];show (dC X_ e).bind _=_;rw[c];show (dC X_ A).bind _=_;rw[d];show (Yn Ym T).map _=_;rw[f];rfl
variable{O:aC (List bo)}{v:Nat}{XU:List bo}{D A:List ak}
def WS{XH:cW}{p:ak}(a:O w=Z (XU,XD))(b:XU.length=v)(c:eB XU XD=Z (D,X_))(d:XH D=Z (p,A)):bf v XH O w=Z (p,i0 XU A X_):=by
 unfold bf;rw[a];show (if XU.length=v then _ else _)=_;rw[aF b];show (eB XU XD).bind _=_;rw[c];show (XH D).map _=_;rw[d];rfl
def n9{Yn:List ak->Option ak}(a:O w=Z (XU,XD))(b:hq XD XU=Z D)(c:Yn D=Z r):bQ Yn O w=Z (r,XD):=by
 unfold bQ;rw[a];show (hq XD XU).bind _=_;rw[b];show (Yn D).map _=_;rw[c];rfl
variable{d:Bool}
def FK{O:aC ak}(a:O w=Z (.im<|.aH d,XD)):bb O w=Z (d,XD):=by unfold bb;rw[a];rfl
def PA{O:aC Bool}(a:O w=Z (d,XD)):qu O w=Z (!d,XD):=by unfold qu;rw[a];rfl
def zE{O:aC bo}(a:O w=Z (e,XD))(b:dC XD e=Z r)(c:pP r=Z d):lG O w=Z (d,XD):=by
 unfold lG;rw[a];show (dC XD e).bind _=_;rw[b];show (pP r).map _=_;rw[c];rfl
def mC{O:aC ak}{b:fG}(a:O w=Z (r,XD))(c:b r XD=Z X_):hB O b w=Z (.bA,X_):=by unfold hB;rw[a];show (b r XD).map _=_;rw[c];rfl
def ir{O:aC ak}(a:O w=Z (r,XD)):fD O w=Z (.bA,XD):=by unfold fD;rw[a];rfl
variable{Yz:aQ}
def iK{ty:ak->Bool}{h:Nat}{mt:ak->List ak->Option (ak×ak)}{a f p b:ak}(c:w[h]?=Z (Z a))(d:ty a=aa)(e:O w=Z (XU,XD))(g:eB XU XD=Z (D,X_))(i:X_[h]?=Z (Z f))(j:mt f D=Z (p,b))(q:X_.set h (Z b)=Yz):fg ty h mt O w=Z (p,Yz):=by
 subst q;unfold fg;rw[c];show (if ty a=aa then _ else _)=_;rw[aF d,e];show (eB XU XD).bind _=_;rw[g];show (match X_[h]? with|some (Z f)=>_|_=>V)=_;rw[i];show (mt f D).map _=_;rw[j];rfl
def Hh(a:O w=Z (XU,XD))(b:eB XU XD=Z (D,X_))(c:D.length<=100000)(q:rI D=r):cp O w=Z (r,X_):=by
 unfold cp;rw[a];show (eB XU XD).bind _=_;rw[b];show (if _ then _ else _)=_;rw[aF c,q]
def lE(a:O w=Z (XU,XD))(b:eB XU XD=Z (D,X_))(c:D.length<=100000)(q:rA D=r):eu O w=Z (r,X_):=by
 unfold eu;rw[a];show (eB XU XD).bind _=_;rw[b];show (if _ then _ else _)=_;rw[aF c,q]
variable{h:Int}
def ML{O:aC ak}(a:O w=Z (.im<|.int h,XD)):k7 O w=Z (.im<|.int<|-h,XD):=by unfold k7;rw[a];rfl
def la{e:List X}{r:X}(b:e.length<100000):eW (.lst e) [.im r]=Z (.im .aK,.lst<|e++[r]):=aF b
def ik(h k:Int):c_ (.im<|.int h) (.im<|.int k)=Z (.im<|.aH<|decide (h=k)):=by
 show Z (ak.im<|.aH<|h==k)=_;by_cases b:h=k<;>simp[b]
def EY(h k:Int):gd (.im<|.int h) (.im<|.int k)=Z (.im<|.aH<|!decide (h=k)):=by
 show Z (ak.im<|.aH<|!(h==k))=_;by_cases b:h=k<;>simp[b]
variable{k:Int}
def jZ(b:nf h k=aa):gc (.im<|.int h) (.im<|.int k)=Z (.im<|.int<|h*k):=aF b
def il(b:0<k):d_ (.im<|.int h) (.im<|.int k)=Z (.im<|.int<|h%k):=aF (bG b)
def wb(b:0<k)(t:k<1073741824):ll (.im<|.int h) (.im<|.int k)=Z (.im<|.int<|h/k):=aF (bG (⟨b,t⟩:0<k/\k<1073741824))
def q4(b:decide (0<=k/\k<=1000000/\h.natAbs<2^64)=aa):lX (.im<|.int h) (.im<|.int k)=Z (.im<|.int<|h^k.toNat):=aF b
variable{p:Option (l0×aQ)}{d:bx}{f:aC Bool}
theorem ht{g:bx}(a:f w=Z (aa,XD))(b:g XD=p):d7 f g d w=p:=(LU a).trans b
theorem et{g:bx}(a:f w=Z (aA,XD))(b:d XD=p):d7 f g d w=p:=(K3 a).trans b
theorem bp{O b:bx}(a:O w=Z (.bA,XD))(q:b XD=p):ba O b w=p:=(Uv a).trans q
variable{h:Nat}
theorem gj{O:aC ak}(a:O w=Z (r,XD))(b:h<XD.length)(q:XD.set h (Z r)=X_):bW h O w=Z (.bA,X_):=(T8 a b).trans (by rw[q])
variable{x:List X}{Yi:fG}{o:Option (Nat×ak)}
theorem gk{O:jW}{aW:l0}(a:O w=Z ((x,o),XD))(b:dK Yi d x XD=Z (aW,X_))(q:jD o X_=Yz):e4 O Yi d w=Z (aW,Yz):=(VQ a b).trans (by rw[q])
theorem jM{own:Nat}{Yh:List Nat}{z:jW}{a:aC ak}{b:aQ}{D:List X}(l:z w=Z ((x,o),XD))(t:gv own Yi f a x [] (kD Yh XD)=Z (D,b))(q:jD o (iV Yh b XD)=Yz):d2 own Yh z Yi f a w=Z (.lst D,Yz):=(V0 l t).trans (by rw[q])
variable{d g:aC Bool}
def DN(a:g w=Z (aa,XD)):fV g d w=Z (aa,XD):=by unfold fV;rw[a];rfl
variable{p:Option (Bool×aQ)}
def tE(a:g w=Z (aA,XD))(b:d XD=p):fV g d w=p:=by unfold fV;rw[a];exact b
def l3(a:g w=Z (aa,XD))(b:d XD=p):eb g d w=p:=by unfold eb;rw[a];exact b
def p9(a:g w=Z (aA,XD)):eb g d w=Z (aA,XD):=by unfold eb;rw[a];rfl
def yF{k:Nat}(a:O w=Z (XU,XD))(b:eB XU XD=Z ([Ym,T],X_))(XG:h<X_.length)(c:k<X_.length)(q:(X_.set h<|Z Ym).set k (Z T)=Yz):nj h k O w=Z (.bA,Yz):=by
 unfold nj;rw[a];show (eB XU XD).bind _=_;rw[b];show (if h<X_.length/\k<X_.length then _ else _)=_;rw[aF ⟨XG,c⟩,q]
def Jl{O:aC Bool}{d:Bool}(a:O w=Z (d,XD)):iP O w=Z (.im<|.aH d,XD):=by unfold iP;rw[a];rfl
variable{p:ak}
def dd{XH:cW}(a:O w=Z (XU,XD))(b:XU.length=v)(c:eB XU XD=Z (D,X_))(d:XH D=Z (p,A))(q:i0 XU A X_=Yz):bf v XH O w=Z (p,Yz):=by rw[<-q];exact WS a b c d
def F_{O:aC Bool}(a:O w=Z (aa,XD)):qu O w=Z (aA,XD):=PA a
def Ug{O:aC bo}{J b:aC (Option Int)}{XB XG:Option Int}{YE:ak}(a:O w=Z (e,XD))(c:J XD=Z (XB,X_))(d:b X_=Z (XG,Yz))(f:dC Yz e=Z r)(g:ni r XB XG=Z YE):kp O J b w=Z (YE,Yz):=by
 unfold kp;rw[a];show (J XD).bind _=_;rw[c];show (b X_).bind _=_;rw[d];show (dC Yz e).bind _=_;rw[f];show (ni r XB XG).map _=_;rw[g];rfl
def xT(a:O w=Z (XU,XD))(c:hq XD XU=Z [.im (.int k)])(b:rv k):jO O w=Z ((hh 0 k.toNat,V),XD):=by
 unfold jO;rw[a];show (hq XD XU).bind _=_;rw[c];show (if rv k then _ else _)=_;rw[aF b]
def ew{E:Nat}{Ye:List Nat}{O:bx}(b:D.length=v)(a:O (D.map Z++List.replicate (E-v) V)=Z (.eO p,w))(c:jl Ye D w 0=A):dp v E Ye O D=Z (p,A):=Qg w b a c
end
section
variable{w XD:aQ}
variable{r:ak}
def aS{O:aC ak}(b:O w=Z (r,w)):ab O w=Z (.bY r,w):=cO b
variable{e:bo}
def bS{O:aC bo}{b:aC (List bo)}{x:List bo}(a:O w=Z (e,w))(c:b w=Z (x,w)):ao O b w=Z (e::x,w):=cZ a c
variable{Yn:ak->ak->Option ak}{YF YD:aC bo}{A:bo}{Ym T:ak}
def bF(a:YF w=Z (e,w))(b:YD w=Z (A,w))(c:dC w e=Z Ym)(d:dC w A=Z T)(f:Yn Ym T=Z r):ac Yn YF YD w=Z (r,w):=e1 a b c d f
def c3(a:Yn Ym T=Z r)(b:YF w=Z (e,w):=by rfl)(c:YD w=Z (A,w):=by rfl)(d:dC w e=Z Ym:=by rfl)(f:dC w A=Z T:=by rfl):ac Yn YF YD w=Z (r,w):=e1 b c d f a
variable{O:aC (List bo)}{XU:List bo}{D:List ak}
def dz{Yn:List ak->Option ak}(a:O w=Z (XU,w))(b:hq w XU=Z D)(c:Yn D=Z r):bQ Yn O w=Z (r,w):=n9 a b c
variable{d:Bool}
def dq{O:aC ak}(a:O w=Z (.im<|.aH d,w)):bb O w=Z (d,w):=FK a
def yt{O:aC bo}(a:O w=Z (e,w))(b:dC w e=Z r)(c:pP r=Z d):lG O w=Z (d,w):=zE a b c
def jN(a:O w=Z (XU,w))(b:eB XU w=Z (D,w))(c:D.length<=100000)(q:rI D=r):cp O w=Z (r,w):=Hh a b c q
def pC(a:O w=Z (XU,w))(b:eB XU w=Z (D,w))(c:D.length<=100000)(q:rA D=r):eu O w=Z (r,w):=lE a b c q
def IM{O:aC bo}{J b:aC (Option Int)}{XB XG:Option Int}{YE:ak}(a:O w=Z (e,w))(c:J w=Z (XB,w))(d:b w=Z (XG,w))(f:dC w e=Z r)(g:ni r XB XG=Z YE):kp O J b w=Z (YE,w):=Ug a c d f g
def ff{h:Nat}{O:aC ak}(a:O w=Z (r,w))(b:h<w.length)(q:w.set h (Z r)=XD):bW h O w=Z (.bA,XD):=gj a b q
end
end L2
namespace G
open L2
variable{XR:Type}{X_ XD w:aQ}
def UA(h k:Int):b1 (.int h) (.int k)=decide (h=k):=by
 show (h==k)=_;by_cases b:h=k<;>simp[b]
def TC{bs:List (Int×Int)}{o:Int×Int}(b:bs.length<100000):eW (a_ bs) [.im (af o)]=Z (.im .aK,a_<|bs++[o]):=by
 have:eW (a_ bs) [.im (af o)]=Z (.im .aK,.lst<|bs.map af++[af o]):=la (by rw[a6];exact b);rw[this];simp
def cV{v E:Nat}(b:Nat.ble (v+1) E=aa):v<E:=eH b
def gi{Yi:fG}{d:bx}{e:X}{x:List X}{p:Option (l0×aQ)}(a:Yi (.im e) w=Z XD)(b:d XD=Z (.bA,X_))(q:dK Yi d x X_=p):dK Yi d (e::x) w=p:=by
 rw[dK];show (Yi (.im e) w).bind _=_;rw[a];show (d XD).bind _=_;rw[b];exact q
def qA{h:Nat}{v:aC ak}{J:ak->ak->ak->Option ak}{r q b f a:ak}(c:w[h]?=Z (Z b))(d:v w=Z (q,XD))(e:q.c1=aa)(g:XD[h]?=Z (Z f))(i:J f q r=Z a)(j:XD.set h (Z a)=X_):iA h v J r w=Z X_:=by
 unfold iA;rw[c];show (v w).bind _=_;rw[d];show (if q.c1=aa then _ else _)=_;rw[aF e,g];show (J f q r).map _=_;rw[i,<-j];rfl
abbrev ar:=Int×Int
variable{Y:List ar}{r f:ar}
def jY(W:ar->List ar)(f:ar)(J:List ar):ar->List ar:=(λe=>if e=f then J else W e)
abbrev a0:=ar×ar
def bT(a:a0):X:=(.tup [af a.1,af a.2])
def mO(W:ar->List ar)(a:a0):ar->List ar:=(jY (jY W a.1<|W a.1++[a.2]) a.2 (jY W a.1 (W a.1++[a.2]) a.2++[a.1]))
def vR(P:List a0):ar->List ar:=(P.foldl mO λ_=>[])
def cc(a:a0)(e A:ar):Nat:=((if a.1=e/\a.2=A then 1 else 0)+if a.2=e/\a.1=A then 1 else 0)
def Wz(W:ar->List ar)(a:a0)(e A:ar):@count ar instBEqOfDecidableEq A (mO W a e)=@count ar instBEqOfDecidableEq A (W e)+cc a e A:=by
 have f:∀(J:List ar) (d:ar),@count ar instBEqOfDecidableEq A (J++[d])=@count ar instBEqOfDecidableEq A J+if d=A then 1 else 0:=λJ d=>by
  rw[@List.count_append ar instBEqOfDecidableEq,@Fe ar instBEqOfDecidableEq,@List.count_nil ar instBEqOfDecidableEq];by_cases b:d=A<;>simp[b]
 unfold mO cc;by_cases t:a.2=e<;>by_cases l:a.1=e
 ·simp only[jY,l,t,hl,f];simp only[true_and];omega
 ·have c:¬ e=a.1:=λi=>l i.symm;simp only[jY,t,hl,f,c,eR,l,false_and];simp only[true_and];omega
 ·have g:¬ e=a.2:=λi=>t i.symm;simp only[jY,l,hl,f,g,eR,t,false_and];simp only[true_and];omega
 ·have c:¬ e=a.1:=λi=>l i.symm;have g:¬ e=a.2:=λi=>t i.symm;simp only[jY,c,g,l,t,eR,false_and];omega
theorem Ku(e A:ar):∀(P:List a0) (W:ar->List ar),@count ar instBEqOfDecidableEq A (P.foldl mO W e)=@count ar instBEqOfDecidableEq A (W e)+(P.map λa=>cc a e A).sum
 |[],W=>rfl
 |a::P,W=>by rw[km,Ku e A P<|mO W a,Wz,bz,hg];omega
def TS(P:List a0)(e A:ar):@count ar instBEqOfDecidableEq A (vR P e)=(P.map λa=>cc a e A).sum:=by
 unfold vR;rw[Ku];simp
def ec(g d:ar):Bool:=(a3 (af g) (af d))
def KW(e A:ar):ec e A=if e.1=A.1 then decide (e.2<A.2) else decide (e.1<A.1):=by
 have d:∀h k:Int,X.beq (.int<|h) (.int k)=decide (h=k):=λh k=>by rw[X.beq]
 show (if X.beq (.int e.1) (.int A.1)=aa then (if X.beq (.int e.2) (.int A.2)=aa then aA else decide (e.2<A.2)) else decide (e.1<A.1))=_;rw[d,d];by_cases l:e.1=A.1
 ·rw[bG l,aF rfl,aF l];by_cases t:e.2=A.2
  ·rw[bG t,aF rfl,t,decide_eq_false<|Int.lt_irrefl _]
  ·rw[decide_eq_false t,if_neg cB]
 ·rw[decide_eq_false l,if_neg cB,if_neg l]
def hV(e A:ar):ec e A=aa↔e.1<A.1\/e.1=A.1/\e.2<A.2:=by
 rw[KW];split
 ·rename_i b;rw[ek];omega
 ·rename_i b;rw[ek];omega
def pI:r∈cG f↔(r.1=f.1-1/\r.2=f.2)\/(r.1=f.1/\r.2=f.2-1)\/(r.1=f.1/\r.2=f.2+1)\/(r.1=f.1+1/\r.2=f.2):=by
 unfold cG;simp only[b0,hP,td,GL]
def lQ(b:r∈cG f):f∈cG r:=by
 rw[pI] at *;omega
def lp(b:r∈cG f):r≠f:=λa=>by
 rw[pI,a]at b;omega
def qf(f:ar):(cG f).Nodup:=by
 have v:∀{g d e A:Int},g≠e\/d≠A->((g,d):ar)≠(e,A):=λb a=>b.elim (λb=>b<|congrArg Prod.fst a) λb=>b (congrArg Prod.snd a);unfold cG;refine df.mpr ⟨?_,df.mpr ⟨?_,df.mpr ⟨?_,df.mpr ⟨hP,gB⟩⟩⟩⟩
 ·intro i;rcases b0.mp i with i|i
  ·exact v (.inl (by omega)) i
  rcases b0.mp i with i|i
  ·exact v (.inl (by omega)) i
  ·exact v (.inl (by omega)) (cf.mp i)
 ·intro i;rcases b0.mp i with i|i
  ·exact v (.inr (by omega)) i
  ·exact v (.inl (by omega)) (cf.mp i)
 ·intro i;exact v (.inl (by omega)) (cf.mp i)
def dr(Y:List ar)(f:ar):List ar:=((cG f).filter λr=>decide (r∈Y))
def mc:r∈dr Y f↔r∈cG f/\r∈Y:=by
 unfold dr;rw[gD,ek]
def kq(Y XK:List ar):List a0:=(XK.flatMap λf=>((dr Y f).filter<|ec f).map λr=>(f,r))
abbrev cD(Y:List ar):List a0:=kq Y Y
def eJ{a:a0}:a∈cD Y↔a.1∈Y/\a.2∈Y/\a.2∈cG a.1/\ec a.1 a.2=aa:=by
 unfold cD kq;rw[qd];constructor
 ·rintro⟨f,e,b⟩;let⟨r,hd,rfl⟩:=cX.mp b;let⟨l,t⟩:=gD.mp hd;let⟨c,d⟩:=mc.mp l;exact⟨e,d,c,t⟩
 ·rintro⟨l,t,c,d⟩;exact⟨a.1,l,cX.mpr ⟨a.2,gD.mpr ⟨mc.mpr ⟨c,t⟩,d⟩,rfl⟩⟩
theorem ja{Y:List ar}:∀{XK:List ar},XK.Nodup->(kq Y XK).Nodup
 |[],_=>gB
 |f::XK,ae=>by
  have ae:=df.mp ae;unfold kq;rw[ot];refine cH.mpr ⟨qL _ (λg d v a=>v (Prod.mk.inj a).2)<|((qf f).filter _).filter _,ja ae.2,λe c A h a=>?_⟩;let⟨r,W,rfl⟩:=cX.mp c;let⟨j,i,b⟩:=qd.mp h;let⟨YE,W,rfl⟩:=cX.mp b;exact ae.1 ((Prod.mk.inj a).1 ▸ i)
def c4{XR:Type}[DecidableEq XR](a:XR)(J:List XR):Nat:=((J.map λr=>if r=a then 1 else 0).sum)
def gu[DecidableEq XR](a g:XR)(J:List XR):c4 a (g::J)=(if g=a then 1 else 0)+c4 a J:=by unfold c4;rw[bz,hg]
theorem FT{XR:Type}[DecidableEq XR](a:XR):∀J E:List XR,c4 a (J++E)=c4 a J+c4 a E
 |[],E=>(qD _).symm
 |g::J,E=>by rw[qs,gu,gu,FT a J E,qG]
theorem ql{XR:Type}[DecidableEq XR](a:XR):∀J:List XR,J.count a=c4 a J
 |[]=>rfl
 |g::J=>by
  rw[Fe,gu,ql a J,pD];congr 1;by_cases b:g=a
  ·rw[aF b,aF ⇑b]
  ·rw[if_neg b,if_neg ⇑b]
def p4[DecidableEq XR]{a:XR}{J:List XR}(b:a∉J):c4 a J=0:=by rw[<-ql];exact List.count_eq_zero.mpr b
def sv[DecidableEq XR]{a:XR}{J:List XR}(ae:J.Nodup)(b:a∈J):c4 a J=1:=by
 have l:=HX.mp ae a;have t:=I9.mpr b;rw[ql]at l t;omega
def T3[DecidableEq XR]{J E:List XR}(b:∀a,c4 a J=c4 a E):J.Perm E:=List.perm_iff_count.mpr λa=>by rw[ql,ql,b]
def cM(P:List a0)(e:ar):Nat:=((P.map λa=>(if a.1=e then 1 else 0)+if a.2=e then 1 else 0).sum)
def RC(P:List a0)(e A:ar):(P.map λa=>cc a e A).sum=c4 (e,A) P+c4 (A,e) P:=by
 unfold c4;rw[<-iS.sum_add];congr 1;refine hx λa Y=>?_;unfold cc;have f:∀(g d:ar),(if a.1=g/\a.2=d then 1 else 0)=if a=(g,d) then 1 else 0:=λg d=>by
  by_cases b:a=(g,d)
  ·rw[aF b,aF ⟨congrArg Prod.fst b,congrArg Prod.snd b⟩]
  ·rw[if_neg b,if_neg λi=>b<|lz i.1 i.2]
 rw[f,<-f A e];congr 1;by_cases b:a.2=e/\a.1=A
 ·rw[aF b,aF ⟨b.2,b.1⟩]
 ·rw[if_neg b,if_neg λi=>b ⟨i.2,i.1⟩]
def Om(P:List a0)(e A:ar):c4 A (vR P e)=c4 (e,A) P+c4 (A,e) P:=by
 rw[<-ql,TS,RC]
def Gt(W:ar->List ar)(a:a0)(e:ar):(mO W a e).length=(W e).length+((if a.1=e then 1 else 0)+if a.2=e then 1 else 0):=by
 unfold mO;by_cases t:a.2=e<;>by_cases l:a.1=e
 ·simp only[jY,l,t,hl,cC,e6]
 ·have b:¬ e=a.1:=λi=>l i.symm;simp only[jY,t,hl,b,eR,l,cC,e6]
 ·have c:¬ e=a.2:=λi=>t i.symm;simp only[jY,l,hl,c,eR,t,cC,e6]
 ·have b:¬ e=a.1:=λi=>l i.symm;have c:¬ e=a.2:=λi=>t i.symm;simp only[jY,b,c,l,t,eR];omega
theorem Jr(e:ar):∀(P:List a0) (W:ar->List ar),(P.foldl mO W e).length=(W e).length+cM P e
 |[],W=>rfl
 |a::P,W=>by rw[km,Jr e P,Gt];unfold cM;rw[bz,hg];omega
theorem Ov(P:List a0)(e:ar):(vR P e).length=cM P e:=(Jr e P _).trans (qD _)
def xA(e:ar)(P Y:List a0):cM (P++Y) e=cM P e+cM Y e:=by
 unfold cM;rw[fq,GO]
def Tr(ae:Y.Nodup){e:ar}(a:e∈Y):cM (cD Y) e=(dr Y e).length:=by
 rw[<-Ov];refine (T3 λA=>?_).length_eq;rw[Om];have v:=ja (Y:=Y) ae;have c:(dr Y e).Nodup:=(qf e).filter _;by_cases b:A∈dr Y e
 ·rw[sv c b];let⟨l,t⟩:=mc.mp b;have d:=pI.mp l;cases J:ec e A with
  |true=>
   rw[sv v (eJ.mpr ⟨a,t,l,J⟩),p4];intro i;have:=(hV _ _).mp (eJ.mp i).2.2.2;have:=(hV _ _).mp J;dsimp only at *;omega
  |false=>
   have f:ec A e=aa:=by
    rw[hV];have:¬ ec e A=aa:=by rw[J];exact cB
    rw[hV]at this;omega
   rw[p4,sv v<|eJ.mpr ⟨t,a,lQ l,f⟩];intro i;have:=(eJ.mp i).2.2.2;rw[J]at this;cases this
 ·rw[p4 b,p4,p4]
  ·exact λi=>b (mc.mpr ⟨lQ (eJ.mp i).2.2.1,(eJ.mp i).1⟩)
  ·exact λi=>b (mc.mpr ⟨(eJ.mp i).2.2.1,(eJ.mp i).2.1⟩)
def PB{P:List a0}{e:ar}(b:∀a∈P,a.1≠e/\a.2≠e):cM P e=0:=by
 induction P with
 |nil=>rfl
 |cons a P c=>
  unfold cM at *;rw[bz,hg,if_neg (b a<|.head _).1,if_neg (b a<|.head _).2,c λr hd=>b r<|.tail _ hd]
def Uq(ae:Y.Nodup){P:List a0}(b:∀a∈P,a.1∈Y/\a.2∈Y):(Y.map λe=>cM P e).sum=2*P.length:=by
 induction P with
 |nil=>exact iS.FA Y
 |cons a P c=>
  have c:=c λr hd=>b r (.tail _ hd);have d:(Y.map λe=>cM (a::P) e)=Y.map λe=>((if a.1=e then 1 else 0)+if a.2=e then 1 else 0)+cM P e:=hx λe W=>by unfold cM;rw[bz,hg]
  rw[d,iS.sum_add,iS.sum_add,iS.ra ae (b a<|.head _).1,iS.ra ae (b a<|.head _).2,c,b6];omega
theorem H7(F:ar->Nat):∀J:List ar,(J.map F).sum%2=(J.filter λe=>decide (F e%2=1)).length%2
 |[]=>rfl
 |e::J=>by
  have a:=H7 F J;rw[bz,hg];by_cases b:F e%2=1
  ·rw[nM (by rw[bG b]),b6];omega
  ·rw[mV (by rw[decide_eq_false b];exact cB)];omega
def Sa{a:List XR}(b:a≠[]):∃c H,a=c++[H]:=⟨a.dropLast,a.getLast b,(List.dropLast_concat_getLast b).symm⟩
def Ce(n:Int×Int):ed [X.int n.1,.int n.2] 0=Z (.int n.1):=rfl
def Kj(n:Int×Int):ed [X.int n.1,.int n.2] 1=Z (.int n.2):=rfl
def yR(XF:List (Int×Int))(f:Int×Int):f5 (af f) (a_ XF)=Z (decide (f∈XF)):=by
 rw[Rf,mH,sI,JW];rfl
def U2(XF:List (Int×Int))(f:Int×Int):f5 (af f) (a7 XF)=Z (decide (f∈XF)):=by
 rw[LL,mH,sI,JW];rfl
def odd(f:Int×Int):Bool:=(decide (f.1%2*(f.2%3%2)=0))
def mid:bx:=((d7 (fV (bb<|ac c_ (aj 2)<|ab<|av<|.int 1)<|bb<|ac c_ (aj 2)<|ab<|av<|.int 2) (e4 (jO<|ao (ab<|bf 2 G.rT<|ao (aj 0)<|ao (ab<|ac cj (ab<|av<|.int 1)<|ab<|ac ll (ab<|bQ dI<|ao (aj 5) az)<|ab<|av<|.int 2) az) az) (bH 6) G.V7)<|d7 (bb<|ac c_ (aj 2)<|ab<|av<|.int 3) (bW 5<|d2 1 [] (cL<|aj 5) (bH 0) G.Py G.PC)<|d7 (bb<|ac iB (aj 2)<|ab<|av<|.int 3) (bW 5<|bf 2 G.UB<|ao (aj 0)<|ao (aj 1) az) fC))
abbrev hj:=Int×Int
inductive g8 (XK:List hj) (m:hj):hj->Prop
 | self:g8 XK m m
 | step {g d:hj}:g8 XK m g->d∈XK->d∈cG g->g8 XK m d
def iZ(XK:List hj):Prop:=(XK.Pairwise λg d=>a3 (af g) (af d)=aa)
def Fb{M:List hj}(ae:M.Nodup)(a:M.length<=63):∃XK:List hj,jR (M.map af)=Z (a_ XK)/\XK.Perm M/\iZ XK:=by
 have o:=Oa ae a;let⟨XK,l,t⟩:=Vr (i4<|M.map af);refine⟨XK,?_,l,?_⟩
 ·unfold jR;rw[aF (nV.mpr o),t]
 ·have:=AK o.ord.ae o.ord.ij;rw[t]at this;exact mg.mp this
def te(e:ak)(XK:List hj):Prop:=(e=a_ XK\/e=a7 XK)
end G
namespace ow
variable{ai:Type}[DecidableEq ai]
variable{N:List ai}{b:ai->ai->Prop}{g d:ai}{F:ai->ai}{YJ:List ai}{XC:ai->Bool->Prop}
def nk(b:ai->ai->Prop):ai->List ai->Prop
 |_,[]=>True
 |f,r::n=>b f r/\nk b r n
def aP(F:ai->ai):Nat->ai->ai
 |0,f=>f
 |v+1,f=>aP F v (F f)
end ow
namespace ow
variable{ai:Type}[DecidableEq ai]{N:List ai}{b:ai->ai->Prop}{g d:ai}{F O:ai->ai}{YJ:List ai}
variable{q:Nat}{f r:Nat->ai}
end ow
namespace ow
variable{ai:Type}[DecidableEq ai]{N:List ai}{b:ai->ai->Prop}{g d:ai}{F O:ai->ai}{YJ:List ai}
variable{XQ:List ((ai×Bool)×Option (ai×Bool))}
end ow
namespace ow
variable{ai:Type}[DecidableEq ai]{N:List ai}{b:ai->ai->Prop}{g d:ai}{F O:ai->ai}{YJ:List ai}
end ow
namespace G
open L2
def Ue(e A:hj):gd (.im<|af e) (.im<|af A)=Z (.im<|.aH<|!decide (e=A)):=by
 show (if (X.bl 8 (af e)&&X.bl 8 (af A))=aa then Z (ak.im<|.aH<|!b1 (af e) (af A)) else V)=_;rw[mH,mH,aF<|show (aa&&aa)=aa from rfl,m4]
def SW{XR Yv:Type}{O:XR->Yv}{J:List XR}(inj:∀e∈J,∀A∈J,O e=O A->e=A)(ae:J.Nodup):(J.map O).Nodup:=by
 rw[BZ,mg];exact ae.imp_of_mem λ{e A} c d b a=>b (inj e c A d a)
def MZ(J:List hj)(f:hj):gr (.im<|af f) (a7 J)=Z (.im<|.aH<|decide (f∈J)):=by
 show (f5 (af f)<|a7 J).map (λp=>ak.im<|.aH p)=_;rw[U2];rfl
def iZ.ae{XK:List hj}(b:iZ XK):XK.Nodup:=by
 refine BZ.mpr (b.imp λ{e A} a i=>?_);rw[i,rR]at a;cases a
def g8.trans{Y:List hj}{e A i:hj}(b:g8 Y e A)(q:g8 Y A i):g8 Y e i:=by
 induction q with
 |self=>exact b
 |step _ l t a=>exact .step a l t
abbrev sd:=(Int×Int)×(Int×Int)
def ji(a:sd):List X:=([af a.1,af a.2])
def gf(g d:Int×Int):sd:=((if a3 (af d) (af g)=aa then d else g,if a3 (af g) (af d)=aa then d else g))
def Uc(g d:Int×Int):q9 [.im (af g),.im<|af d]=Z (.im<|af (gf g d).1):=by
 show (if eg 6 (af d) (af g)=aa then Z (ak.im<|if a3 (af d) (af g)=aa then af d else af g) else V)=Z (.im<|af<|if a3 (af d) (af g)=aa then d else g);rw[aF (show eg 6 (af d) (af g)=aa from rfl)];split<;>rfl
def QL(g d:Int×Int):vI [.im (af g),.im<|af d]=Z (.im<|af (gf g d).2):=by
 show (if eg 6 (af d) (af g)=aa then Z (ak.im<|if a3 (af g) (af d)=aa then af d else af g) else V)=Z (.im<|af<|if a3 (af g) (af d)=aa then d else g);rw[aF (show eg 6 (af d) (af g)=aa from rfl)];split<;>rfl
def bump:List (sd×Int)->sd->List (sd×Int)
 |[],a=>[(a,1)]
 | (F,v)::p,a=>if F=a then (F,v+1)::p else (F,v)::bump p a
def Mb(g d:Int×Int):vu [.im (af g),.im<|af d]=Z (.im<|.tup<|ji<|gf g d,[.im (af g),.im<|af d]):=by
 have l:=Uc g d;have t:=QL g d;simp -implicitDefEqProofs [vu,Hn,l,t,ji]
end G
namespace Tj
variable{XR ai Yv:Type}[DecidableEq ai][DecidableEq XR]
def ie(J:List Yv)(F:Yv->Bool):Bool:=(J.foldr (λe d=>xor (F e) d) aA)
def nZ(g:Yv)(J:List Yv)(F:Yv->Bool):ie (g::J) F=xor (F g) (ie J F):=rfl
theorem Ky(F O:Yv->Bool):∀J:List Yv,ie J (λe=>xor (F e)<|O e)=xor (ie J F) (ie J O)
 |[]=>rfl
 |g::J=>by rw[nZ,nZ,nZ,Ky F O J];cases F g<;>cases O g<;>cases ie J F<;>cases ie J O<;>rfl
theorem Gs{F O:Yv->Bool}:∀{J:List Yv},(∀e∈J,F e=O e)->ie J F=ie J O
 |[],_=>rfl
 |g::J,b=>by rw[nZ,nZ,b g<|.head _,Gs λe a=>b e<|.tail _ a]
def wK{F:Yv->Bool}{J:List Yv}(b:∀e∈J,F e=aA):ie J F=aA:=by
 induction J with
 |nil=>rfl
 |cons g J a=>rw[nZ,b g<|.head _,a λe c=>b e<|.tail _ c];rfl
def RF{F:Yv->Bool}{J:List Yv}(b:ie J F=aa):∃e∈J,F e=aa:=by
 refine R3 λv=>?_;rw[wK λe a=>by
  cases s:F e with
  |false=>rfl
  |true=>exact absurd ⟨e,a,s⟩ v]at b
 cases b
theorem EU{F:Yv->Bool}[DecidableEq Yv]{g:Yv}:∀{J:List Yv},J.Nodup->g∈J->(∀e∈J,e≠g->F e=aA)->ie J F=F g
 |d::J,ae,b,q=>by
  have ae:=df.mp ae;rw[nZ];by_cases a:d=g
  ·subst a;rw[wK λe c=>q e (.tail _ c) λi=>ae.1<|i ▸ c];cases F d<;>rfl
  ·rw[q d (.head _) a,EU ae.2 ((b0.mp b).resolve_left λi=>a i.symm) λe c=>q e<|.tail _ c];cases F g<;>rfl
def inc(n s:XR->ai)(a:XR)(u:ai):Bool:=(xor (decide (n a=u)) (decide (s a=u)))
def gU(U XQ:XR->Bool):XR->Bool:=(λa=>xor (U a) (XQ a))
def only(a:XR):XR->Bool:=(λr=>decide (r=a))
def par(P:List XR)(n s:XR->ai)(U:XR->Bool)(u:ai):Bool:=(ie P λa=>U a&&inc n s a u)
abbrev cS(P:List XR)(U:XR->Bool):Nat:=P.countP U
def FU(XC:ai->Bool)(u:ai):ai->Bool:=(λe=>xor (XC e) (decide (e=u)))
section
variable{P:List XR}{n s:XR->ai}{U XQ XI:XR->Bool}
def sX(u:ai):par P n s (gU U XQ) u=xor (par P n s U u) (par P n s XQ u):=by
 unfold par;rw[<-Ky];refine Gs λa Y=>?_;unfold gU;cases U a<;>cases XQ a<;>cases inc n s a u<;>rfl
def sU(ae:P.Nodup){a:XR}(b:a∈P)(u:ai):par P n s (only a) u=inc n s a u:=by
 unfold par;rw[EU ae b λe Y v=>by show (decide (e=a)&&_)=aA;rw[decide_eq_false v];rfl];show (decide (a=a)&&_)=_;rw[bG rfl];rfl
def y1(ae:P.Nodup){a:XR}(b:a∈P):cS P (only a)=1:=by
 have l:=HX.mp ae a;have t:=I9.mpr b;have c:P.count a=cS P (only a):=by
  unfold count;exact xS λe Y=>by show _↔decide (e=a)=aa;simp
 omega
theorem zO:∀P:List XR,cS P (gU U XQ)+2*cS P (λa=>U a&&XQ a)=cS P U+cS P XQ
 |[]=>rfl
 |g::P=>by
  have b:=zO P;unfold cS at *;rw[i2,i2,i2,i2];have e:gU U XQ g=xor (U g) (XQ g):=rfl;rw[e];cases U g<;>cases XQ g<;>simp<;>omega
def GQ(b:∀a,XI a=aa->U a=aa):cS P (gU U XI)+cS P XI=cS P U:=by
 have:=zO (U:=U) (XQ:=XI) P;have a:cS P (λa=>U a&&XI a)=cS P XI:=xS λe Y=>by
  rw[cq];exact⟨λi=>i.2,λi=>⟨b e i,i⟩⟩
 omega
def N1(b:∀a∈P,U a=aa->XI a=aA):cS P (gU U XI)=cS P U+cS P XI:=by
 have:=zO (U:=U) (XQ:=XI) P;have a:cS P (λa=>U a&&XI a)=0:=Dl.mpr λe c=>by
  rw[cq];exact λi=>by rw[b e c i.1]at i;exact absurd i.2 cB
 omega
def JF(ae:P.Nodup){a:XR}(c:a∈P)(b:U a=aa):cS P (gU U<|only a)+1=cS P U:=by
 have:=GQ (P:=P) (U:=U) (XI:=only a) λr hd=>by rw[e_ (show decide (r=a)=aa from hd)];exact b
 rwa [y1 ae c]at this
def E9(ae:P.Nodup){a:XR}(c:a∈P)(b:U a=aA):cS P (gU U<|only a)=cS P U+1:=by
 rw[N1 (XI:=only a) λr Y hd=>decide_eq_false λi=>by rw[i,b]at hd;exact cB hd,y1 ae c]
def t7{a:XR}(b:n a≠s a)(u:ai):inc n s a u=aa↔n a=u\/s a=u:=by
 unfold inc;by_cases l:n a=u<;>by_cases t:s a=u
 ·exact absurd (l.trans t.symm) b
 ·simp[l,t]
 ·simp[l,t]
 ·simp[l,t]
def FX{a:XR}{u:ai}(b:inc n s a u=aa):n a≠s a:=λi=>by
 unfold inc at b;rw[i,En]at b;exact cB b
def fQ(n s:XR->ai)(a:XR)(u:ai):ai:=(if n a=u then s a else n a)
def xb{a:XR}{u:ai}(b:inc n s a u=aa):fQ n s a u≠u:=by
 have v:=FX b;unfold fQ;split
 ·rename_i i;exact λA=>v (i.trans A.symm)
 ·rename_i i;exact i
def PO{a:XR}{u:ai}(b:inc n s a u=aa)(e:ai):inc n s a e=xor (decide (e=u)) (decide (e=fQ n s a u)):=by
 have v:=FX b;have i:=(t7 v u).mp b;unfold inc fQ;by_cases l:n a=u
 ·rw[aF l];congr 1
  ·exact fW.mpr ⟨λA=>A.symm.trans l,λA=>l.trans A.symm⟩
  ·exact fW.mpr ⟨λA=>A.symm,λA=>A.symm⟩
 ·rw[if_neg l,Bool.xor_comm];have t:=i.resolve_left l;congr 1
  ·exact fW.mpr ⟨λA=>A.symm.trans t,λA=>t.trans A.symm⟩
  ·exact fW.mpr ⟨λA=>A.symm,λA=>A.symm⟩
inductive nk (P:List XR) (n s:XR->ai):ai->ai->Nat->Prop
 | nil (g:ai):nk P n s g g 0
 | cons {a:XR}{g d:ai}{v:Nat}:a∈P->inc n s a g=aa->nk P n s (fQ n s a g) d v->nk P n s g d (v+1)
theorem Jp(ae:P.Nodup):∀(v:Nat) (U:XR->Bool) (g:ai),cS P U=v->par P n s U g=aa->
  ∃XI d,(∀a,XI a=aa->U a=aa)/\d≠g/\par P n s U d=aa/\(∀e,par P n s XI e=xor (decide (e=g)) (decide (e=d)))/\nk P n s g d (cS P XI)
 |v,U,g,x,j=>by
  let⟨a,c,b⟩:=RF j;rw[cq]at b;have h:=PO b.2;have XO:=JF ae c b.1;by_cases k:par P n s U (fQ n s a g)=aa
  ·refine⟨only a,fQ n s a g,λr hd=>by rw[e_ (show decide (r=a)=aa from hd)];exact b.1,xb b.2,k,λe=>(sU ae c e).trans<|h e,?_⟩;rw[y1 ae c];exact .cons c b.2 (.nil _)
  ·have ob:∀e,par P n s (gU U<|only a) e=xor (par P n s U e) (xor (decide (e=g))<|decide (e=fQ n s a g)):=λe=>by rw[sX,sU ae c,h]
   let⟨XI,d,l,t,f,p,q⟩:=Jp ae (v-1) (gU U<|only a) (fQ n s a g) (by omega) (by
    rw[ob,bG rfl,decide_eq_false<|xb b.2,eq_false_of_ne_true k];rfl)
   have m:d≠g:=λi=>by
    rw[i,ob,j,bG rfl,decide_eq_false<|dn<|xb b.2]at f;cases f
   have u:XI a=aA:=by
    cases H:XI a with
    |false=>rfl
    |true=>
     have:=l a H;unfold gU only at this;rw[b.1,bG rfl]at this;cases this
   refine⟨gU XI<|only a,d,λr hd=>?_,m,?_,λe=>?_,?_⟩
   ·by_cases i:r=a
    ·rw[i];exact b.1
    ·have o:only a r=aA:=decide_eq_false i;have w:XI r=aa:=by unfold gU at hd;rw[o]at hd;simpa using hd
     have:=l r w;unfold gU at this;rw[o]at this;simpa using this
   ·rw[ob,decide_eq_false m,decide_eq_false t]at f;simpa using f
   ·rw[sX,p,sU ae c,h];cases decide (e=g)<;>cases decide (e=d)<;>cases decide (e=fQ n s a g)<;>rfl
   ·rw[E9 ae c u];exact .cons c b.2 q
 termination_by v=>v
 decreasing_by omega
end
end Tj
namespace Tj
variable{XR ai:Type}[DecidableEq ai][DecidableEq XR]
abbrev Fc(P:List XR)(n s:XR->ai)(U:XR->Bool)(c:ai->Bool):Prop:=∀e,par P n s U e=c e
structure di(P:List XR)(n s:XR->ai)(c:List ai)(f XC:ai->Bool)(b:ai->Nat):Prop where
 ae:P.Nodup
 Xa:c.Nodup
 Xl:∀a∈P,n a∈c/\s a∈c
 col:∀a∈P,n a≠s a->f (n a)≠f (s a)
 ex:∀u∈c,∃U,Fc P n s U (FU XC u)/\cS P U=b u
 le:∀u∈c,∀U,Fc P n s U (FU XC u)->b u<=cS P U
def nC(P:List XR)(n s:XR->ai)(U:XR->Bool):Nat:=(P.countP λa=>U a&&decide (n a≠s a))
section
variable{P:List XR}{n s:XR->ai}{c:List ai}{f XC:ai->Bool}{b:ai->Nat}{U XQ XI:XR->Bool}{C u I:ai}{a:XR}
def JD(P:List XR)(n s:XR->ai)(C:ai):List ai:=((P.filter λa=>inc n s a C).map λa=>fQ n s a C)
end
end Tj
namespace Tj
variable{XR ai:Type}[DecidableEq ai][DecidableEq XR]
section
variable{P:List XR}{n s:XR->ai}{c:List ai}{f XC:ai->Bool}{b:ai->Nat}{U XQ XI:XR->Bool}{C u I:ai}{a:XR}
def vN(a:List ai)(C e:ai):ai:=(if e∈a then C else e)
def D9(XC:ai->Bool)(c a:List ai)(C e:ai):Bool:=(if e=C then !(ie (c.filter λA=>decide (A∉a)&&decide (A≠C)) XC) else if e∈a then aA else XC e)
abbrev c5(P:List XR)(n s:XR->ai)(C:ai):XR->ai:=λa=>vN (JD P n s C) C (n a)
abbrev cU(P:List XR)(n s:XR->ai)(C:ai):XR->ai:=λa=>vN (JD P n s C) C (s a)
def ah(b:ai->Nat)(C e:ai):Nat:=(if e=C then b C else b e-1)
inductive g9 (P:List XR) (n s:XR->ai) (w:ai->Bool) (I:ai):ai->Prop
 | self:g9 P n s w I I
 | step {a:XR}{u:ai}:g9 P n s w I u->a∈P->inc n s a u=aa->w (fQ n s a u)=aa->g9 P n s w I (fQ n s a u)
end
end Tj
namespace Tj
variable{XR ai:Type}[DecidableEq ai][DecidableEq XR]
section
variable{P:List XR}{n s:XR->ai}{c:List ai}{f XC:ai->Bool}{b:ai->Nat}{U XQ XI:XR->Bool}{C u I:ai}{a:XR}
def mn:List Nat->Nat
 |[]=>0
 |[e]=>e
 |e::A::J=>min e (mn (A::J))
theorem Bb:∀{J:List Nat}{e:Nat},e∈J->mn J<=e
 |[g],e,b=>by rw[cf.mp b];exact bk _
 |g::d::J,e,b=>by
  rw[mn];rcases b0.mp b with rfl|b
  ·exact Nat.min_le_left _ _
  ·exact dg (Ik _ _) (Bb b)
theorem GA:∀{J:List Nat},J≠[]->mn J∈J
 |[g],_=>.head _
 |g::d::J,_=>by
  rw[mn];rcases Nat.le_total g (mn (d::J)) with i|i
  ·rw[wh i];exact .head _
  ·rw[y7 i];exact .tail _ (GA<|Dq _ _)
def rm(d:ai)(p:List ai):List ai:=(p.filter λe=>decide (e≠d))
def fo{d e:ai}{p:List ai}:e∈rm d p↔e∈p/\e≠d:=by unfold rm;rw[gD,ek]
def zx{d:ai}{p:List ai}(ae:p.Nodup):(rm d p).Nodup:=ae.filter _
def L4(d:ai)(p:List ai):rm d (d::p)=rm d p:=mV (p:=λe=>decide (e≠d)) λi=>absurd rfl (e_ i)
def Le{g d:ai}(p:List ai)(b:g≠d):rm d (g::p)=g::rm d p:=nM (p:=λe=>decide (e≠d)) (bG b)
def Ld{d:ai}{p:List ai}(b:d∉p):rm d p=p:=C5.mpr λe a=>bG λi:e=d=>b (i ▸ a)
def B3{p:List ai}{d:ai}(ae:p.Nodup)(b:d∈p):(rm d p).length+1=p.length:=by
 induction p with
 |nil=>cases b
 |cons g p c=>
  have ae:=df.mp ae;by_cases a:g=d
  ·rw[a,L4,Ld<|a ▸ ae.1,b6]
  ·rw[Le p a,b6,b6,c ae.2<|(b0.mp b).resolve_left λi=>a i.symm]
def mp(r:ai->ai->Nat):Nat->List ai->Nat
 |v+1,g::p=>mn (p.map λd=>r g d+mp r v (rm d p))
 |_,_=>0
def Ni{g d:ai}{p:List ai}(c:g∉p)(f:d∈p)(e:ai):xor (decide (e∈g::p)) (xor (decide (e=g))<|decide (e=d))=decide (e∈rm d p):=by
 have h:d≠g:=λi=>c (i ▸ f);by_cases a:e=g
 ·have l:decide (e∈g::p)=aa:=bG (a ▸ .head _);have t:decide (e∈rm d p)=aA:=decide_eq_false λi=>c (a ▸ (fo.mp i).1);have j:decide (e=d)=aA:=decide_eq_false λi=>h (i.symm.trans a);rw[l,t,j,bG a];rfl
 ·by_cases b:e=d
  ·have l:decide (e∈g::p)=aa:=bG (.tail _<|b ▸ f);have t:decide (e∈rm d p)=aA:=decide_eq_false λi=>(fo.mp i).2 b;rw[l,t,decide_eq_false a,bG b];rfl
  ·rw[decide_eq_false a,decide_eq_false b,En,JX];exact fW.mpr ⟨λi=>fo.mpr ⟨(b0.mp i).resolve_left a,b⟩,λi=>.tail _ (fo.mp i).1⟩
theorem x9(r:ai->ai->Nat)(ae:P.Nodup)(hd:∀g d v,nk P n s g d v->r g d<=v):∀(v:Nat) (T:List ai) (U:XR->Bool),T.length<=v->T.Nodup->(∀e,par P n s U e=decide (e∈T))->mp r v T<=cS P U
 |0,T,U,_,_,_=>e9 _
 |v+1,[],U,_,_,_=>e9 _
 |v+1,g::p,U,h,a,b=>by
  have a:=df.mp a;let⟨XI,d,sub,i,f,j,H⟩:=Jp ae _ U g rfl (by rw[b];exact bG (.head _));rw[b,ek]at f;have c:d∈p:=(b0.mp f).resolve_left i;have k:=B3 a.2 c;have m:=GQ (P:=P) sub;have l:=x9 r ae hd v (rm d p) (gU U XI) (by rw[b6]at h;omega) (zx a.2) λe=>by
   rw[sX,b,j,Ni a.1 c]
  have o:=hd g d _ H;have:=Bb (cX.mpr ⟨d,c,rfl⟩:r g d+mp r v (rm d p)∈p.map λd=>r g d+mp r v (rm d p));show mn (p.map λd=>r g d+mp r v (rm d p))<=_;omega
end
end Tj
namespace G
open L2
variable{g m:ar}{a:a0}{F:ar->Int}{M Y:List ar}
structure fH(Y:List ar)(m:ar)(M:List ar)(F:ar->Int)(s:List ar):Prop where
 ae:M.Nodup
 sub:∀f∈M,f∈Y
 st:m∈M
 f0:F m=0
 back:∀f∈M,f=m\/∃r∈M,f∈cG r/\F f=F r+1
 pos:∀f∈M,0<=F f
 d5:∀f∈s,f∈M
 z_:∀f∈M,f∈s\/∀r∈cG f,r∈Y->r∈M/\F r<=F f+1
 up:s.Pairwise λg d=>F g<=F d
 top:∀e∈s.head?,∀f∈M,F f<=F e+1
def d0(Y M XY:List ar):List ar:=(XY.filter λr=>decide (r∈Y) && !decide (r∈M))
def sJ{XY:List ar}{r:ar}:r∈d0 Y M XY↔r∈XY/\r∈Y/\r∉M:=by
 unfold d0;rw[gD,cq,ek,sl,zY]
def jq(F:ar->Int)(e:ar)(a:List ar):ar->Int:=(λf=>if f∈a then F e+1 else F f)
def I_(f:ar):f∉cG f:=λb=>lp b rfl
def fH.step{e:ar}{p:List ar}(Ya:fH Y m M F (e::p)):fH Y m (M++d0 Y M (cG e)) (jq F e<|d0 Y M<|cG e) (p++d0 Y M (cG e)):=by
 have n:=Ya.d5 e (.head _);have q:=Ya.top e rfl;have c:∀f∈M,jq F e (d0 Y M<|cG e) f=F f:=λf h=>if_neg λi=>(sJ.mp i).2.2 h;have new:∀f∈d0 Y M (cG e),jq F e (d0 Y M<|cG e) f=F e+1:=λf h=>aF h;have u:(d0 Y M<|cG e).Nodup:=(qf e).filter _;refine⟨cH.mpr ⟨Ya.ae,u,λg j d k a=>(sJ.mp k).2.2 (a ▸ j)⟩,λf h=>?_,d6 _ Ya.st,by rw[c _ Ya.st,Ya.f0],λf h=>?_,λf h=>?_,λf h=>?_,λf h=>?_,?_,λA x f h=>?_⟩
 ·rcases dM.mp h with b|b
  ·exact Ya.sub f b
  ·exact (sJ.mp b).2.1
 ·rcases dM.mp h with b|b
  ·rcases Ya.back f b with a|⟨r,hd,l,t⟩
   ·exact .inl a
   ·exact .inr ⟨r,d6 _ hd,l,by rw[c f b,c r hd,t]⟩
  ·exact .inr ⟨e,d6 _ n,(sJ.mp b).1,by rw[new f b,c e n]⟩
 ·rcases dM.mp h with b|b
  ·rw[c f b];exact Ya.pos f b
  ·rw[new f b];have:=Ya.pos e n;omega
 ·rcases dM.mp h with b|b
  ·exact d6 _ (Ya.d5 f<|.tail _ b)
  ·exact dH _ b
 ·rcases dM.mp h with b|b
  ·rcases Ya.z_ f b with i|i
   ·rcases b0.mp i with a|i
    ·refine .inr λr hd s=>?_;rw[a]at hd;by_cases o:r∈M
     ·refine⟨d6 _ o,?_⟩;rw[c r o,a,c e n];exact q r o
     ·have v:r∈d0 Y M (cG e):=sJ.mpr ⟨hd,s,o⟩;refine⟨dH _ v,?_⟩;rw[new r v,a,c e n];exact iJ _
    ·exact .inl (d6 _ i)
   ·refine .inr λr hd s=>?_;let⟨w,y⟩:=i r hd s;exact⟨d6 _ w,by rw[c r w,c f b];exact y⟩
  ·exact .inl (dH _ b)
 ·refine Hl.mpr ⟨?_,?_,λg j d k=>?_⟩
  ·exact ((hv.mp Ya.up).2).imp_of_mem λ{g d} j k b=>by rw[c g (Ya.d5 g<|.tail _ j),c d<|Ya.d5 d<|.tail _ k];exact b
  ·exact uw (λ{g d} j k _=>by rw[new g j,new d k];exact iJ _) u
  ·rw[c g (Ya.d5 g<|.tail _ j),new d k];exact q g (Ya.d5 g<|.tail _ j)
 ·have B:F e<=jq F e (d0 Y M<|cG e) A:=by
   have z:A∈p++d0 Y M (cG e):=List.mem_of_mem_head? x;rcases dM.mp z with b|b
   ·rw[c A (Ya.d5 A<|.tail _ b)];exact (hv.mp Ya.up).1 A b
   ·rw[new A b];omega
  rcases dM.mp h with b|b
  ·rw[c f b];have:=q f b;omega
  ·rw[new f b];omega
def fH.init(XO:m∈Y){F:ar->Int}(b:F m=0):fH Y m [m] F [m]:=
 ⟨es _ _,λf a=>by rw[cf.mp a];exact XO,.head _,b,λf a=>.inl<|cf.mp a,λf a=>by rw[cf.mp a,b];exact iJ _,λf a=>a,λf a=>.inl a,es _ _,λe c f a=>by
  have:e=m:=by simpa using c.symm
  rw[cf.mp a,this];omega⟩
abbrev nP(Y:List ar):ar->ar->Nat->Prop:=Tj.nk (cD Y) Prod.fst Prod.snd
abbrev Je(a:a0)(u:ar):Bool:=Tj.inc Prod.fst Prod.snd a u
def wJ(b:a∈cD Y):a.1≠a.2:=λi=>by
 have:=(eJ.mp b).2.2.1;rw[i]at this;exact I_ _ this
def QD{d:ar}(c:g∈Y)(e:d∈Y)(b:d∈cG g):∃a∈cD Y,Je a g=aa/\Tj.fQ Prod.fst Prod.snd a g=d:=by
 by_cases J:ec g d=aa
 ·refine⟨(g,d),eJ.mpr ⟨c,e,b,J⟩,(Tj.t7 (n:=Prod.fst) (s:=Prod.snd) (dn<|lp b) g).mpr<|.inl rfl,?_⟩;unfold Tj.fQ;rw[aF rfl]
 ·have f:ec d g=aa:=by
   rw[hV] at *;have:=pI.mp b;omega
  refine⟨(d,g),eJ.mpr ⟨e,c,lQ b,f⟩,(Tj.t7 (n:=Prod.fst) (s:=Prod.snd) (lp b) g).mpr<|.inr rfl,?_⟩;unfold Tj.fQ;rw[if_neg (lp b)]
def Vm(b:a∈cD Y)(XG:Je a g=aa):g∈Y/\Tj.fQ Prod.fst Prod.snd a g∈Y/\Tj.fQ Prod.fst Prod.snd a g∈cG g:=by
 let⟨l,t,c,W⟩:=eJ.mp b;have i:=(Tj.t7 (wJ b) g).mp XG;unfold Tj.fQ;by_cases A:a.1=g
 ·rw[aF A,<-A];exact⟨l,t,c⟩
 ·rw[if_neg A,<-i.resolve_left A];exact⟨t,l,lQ c⟩
structure ts(Y:List ar)(m:ar)(F:ar->Nat):Prop where
 WY:∀f∈Y,nP Y f m (F f)
 le:∀f v,nP Y m f v->F f<=v
def fH.all(Ya:fH Y m M F [])(b:∀f∈Y,g8 Y m f):∀f∈Y,f∈M:=λf a=>by
 have s:=b f a;clear a;induction s with
 |self=>exact Ya.st
 |step n l t c=>
  rcases Ya.z_ _ c with i|i
  ·cases i
  ·exact (i _ t l).1
def fH.ds{Y:List ar}{m:ar}{M:List ar}{F:ar->Int}(Ya:fH Y m M F [])(XO:m∈Y)(j:∀f∈Y,g8 Y m f):ts Y m λf=>(F f).toNat:=by
 have all:=Ya.all j;have b:∀f∈Y,∀r∈cG f,r∈Y->F r<=F f+1:=λf c r hd k=>by
  rcases Ya.z_ f (all f c) with i|i
  ·cases i
  ·exact (i r hd k).2
 refine⟨λf c=>?_,λf v H=>?_⟩
 ·have XX:∀(v:Nat) (f:ar),f∈M->F f=v->nP Y f m v:=λv=>by
   induction v with
   |zero=>
    intro f c a;rcases Ya.back f c with i|⟨r,hd,_,t⟩
    ·rw[i];exact .nil _
    ·have:=Ya.pos r hd;omega
   |succ v e=>
    intro f c a;rcases Ya.back f c with i|⟨r,hd,l,t⟩
    ·rw[i,Ya.f0]at a;omega
    ·let⟨O,n,XG,o⟩:=QD (Ya.sub f c) (Ya.sub r hd) (lQ l);refine .cons n XG ?_;rw[o];exact e r hd (by omega)
  have h:=all f c;exact XX _ f h (by have:=Ya.pos f h;omega)
 ·have XX:∀(g d:ar) (E:Nat),nP Y g d E->g∈Y->F d<=F g+E:=λg d E p=>by
   clear H;induction p with
   |nil g=>intro W;omega
   |cons q XG H e=>
    intro s;let⟨W,l,t⟩:=Vm q XG;have:=e l;have:=b _ s _ t l;omega
  have:=XX m f v H XO;rw[Ya.f0]at this;omega
end G
namespace Tj
variable{XR ai:Type}[DecidableEq ai][DecidableEq XR]{P:List XR}{n s:XR->ai}
end Tj
namespace G
open L2
variable{P A e XF:List a0}{T Y:List ar}{r:ar->ar->Nat}{d g:ar}
def ej(Y:List ar)(g d:ar):List ar:=(Y.filter λf=>decide (((dr Y f).length+c4 f [g,d])%2=1))
def yr(ae:Y.Nodup)(g d:ar):(ej Y g d).Nodup:=ae.filter _
theorem yT{f:ar}(b:f∈ej Y g d):f∈Y:=(gD.mp b).1
def Lm(ae:Y.Nodup){g d:ar}(b:g∈Y)(c:d∈Y):(Y.map λf=>c4 f [g,d]).sum=2:=by
 have a:(Y.map λf=>c4 f [g,d])=Y.map λf=>(if g=f then 1 else 0)+if d=f then 1 else 0:=hx λf W=>by
  rw[gu,gu];rfl
 rw[a,iS.sum_add,iS.ra ae b,iS.ra ae c]
def Wh(ae:Y.Nodup){g d:ar}(f:g∈Y)(h:d∈Y):(ej Y g d).length%2=0:=by
 have b:=Uq ae (P:=cD Y) λa c=>⟨(eJ.mp c).1,(eJ.mp c).2.1⟩;have a:(Y.map λe=>cM (cD Y) e)=Y.map λe=>(dr Y e).length:=hx λe i=>Tr ae i;rw[a]at b;have n:=H7 (λe=>(dr Y e).length+c4 e [g,d]) Y;rw[iS.sum_add,b,Lm ae f h]at n;unfold ej;omega
def hE(XQ:List a0):a0->Bool:=(λa=>decide (c4 a XQ%2=1))
def Bx(a:a0)(XQ:List a0):hE (a::XQ)=Tj.gU (hE XQ) (Tj.only a):=by
 funext r;show decide (c4 r (a::XQ)%2=1)=xor (decide (c4 r XQ%2=1)) (decide (r=a));rw[gu];by_cases b:a=r
 ·rw[aF b,bG b.symm];by_cases i:c4 r XQ%2=1
  ·rw[bG i,decide_eq_false (by omega)];rfl
  ·rw[decide_eq_false i,bG (by omega)];rfl
 ·rw[if_neg b,decide_eq_false<|dn b,qD,JX]
theorem yj{Y:List ar}(ae:Y.Nodup)(e:ar):∀{XQ:List a0},(∀a∈XQ,a∈cD Y)->Tj.par (cD Y) Prod.fst Prod.snd (hE XQ) e=decide (cM XQ e%2=1)
 |[],_=>Tj.wK λ_ W=>rfl
 |a::XQ,b=>by
  have c:=b a (.head _);have v:=wJ c;rw[Bx,Tj.sX,yj ae e λr hd=>b r<|.tail _ hd,Tj.sU (ja ae) c];have Ym:cM (a::XQ) e=((if a.1=e then 1 else 0)+if a.2=e then 1 else 0)+cM XQ e:=by unfold cM;rw[bz,hg]
  rw[Ym];unfold Tj.inc;by_cases l:a.1=e<;>by_cases t:a.2=e
  ·exact absurd (l.trans t.symm) v
  all_goals
   by_cases i:cM XQ e%2=1
   ·simp[l,t,i];try omega
   ·simp[l,t,i];try omega
theorem yU{Y:List ar}(ae:Y.Nodup):∀{XQ:List a0},(∀a∈XQ,a∈cD Y)->Tj.cS (cD Y) (hE XQ)<=XQ.length/\(Tj.cS (cD Y) (hE XQ)=XQ.length->XQ.Nodup)
 |[],_=>⟨by rw[show Tj.cS (cD Y) (hE [])=0 from Dl.mpr λ_ W i=>cB i];exact e9 _,λ_=>gB⟩
 |a::XQ,b=>by
  have c:=b a (.head _);let⟨g,e⟩:=yU ae λr hd=>b r (.tail _ hd);rw[Bx,b6];cases q:hE XQ a with
  |true=>
   have m:Tj.cS (cD Y) (Tj.gU (hE XQ)<|Tj.only a)+1=Tj.cS (cD Y) (hE XQ):=Tj.JF (ja ae) c q;exact⟨by omega,λi=>by omega⟩
  |false=>
   have m:Tj.cS (cD Y) (Tj.gU (hE XQ)<|Tj.only a)=Tj.cS (cD Y) (hE XQ)+1:=Tj.E9 (ja ae) c q;refine⟨by omega,λi=>?_⟩;have d:=e (by omega);refine df.mpr ⟨λf=>?_,d⟩;have:=sv d f;unfold hE at q;rw[this]at q;exact absurd q ∅
open Tj (mp rm fo mn)
theorem Hx(r:ar->ar->Nat):∀(v E:Nat) (T:List ar),T.length<=v->T.length<=E->mp r v T=mp r E T
 |0,0,T,_,_=>rfl
 |0,E+1,[],_,_=>rfl
 |v+1,0,[],_,_=>rfl
 |v+1,E+1,[],_,_=>rfl
 |0,E+1,g::p,b,_=>absurd b (by rw[b6];omega)
 |v+1,0,g::p,_,b=>absurd b (by rw[b6];omega)
 |v+1,E+1,g::p,l,t=>by
  rw[b6]at l t;show mn (p.map λd=>r g d+mp r v (rm d p))=mn (p.map λd=>r g d+mp r E (rm d p));congr 1;refine hx λd Y=>?_;have:(rm d p).length<=p.length:=s7 _ _;rw[Hx r v E (rm d p) (by omega) (by omega)]
def dO(r:ar->ar->Nat)(T:List ar):Nat:=(mp r T.length T)
def V3(r:ar->ar->Nat)(g:ar)(p:List ar):dO r (g::p)=mn (p.map λd=>r g d+dO r (rm d p)):=by
 show mn (p.map λd=>r g d+mp r p.length (rm d p))=_;congr 1;refine hx λd Y=>?_;have:(rm d p).length<=p.length:=s7 _ _;unfold dO;rw[Hx r p.length (rm d p).length (rm d p) this (bk _)]
def lV(XF:List a0):List ar:=(XF.flatMap λn=>[n.1,n.2])
structure gx(r:ar->ar->Nat)(T:List ar)(XF:List a0):Prop where
 cost:(XF.map λn=>r n.1 n.2).sum=dO r T
 pm:(lV XF).Perm T
def gx.nil(r:ar->ar->Nat):gx r [] []:=⟨rfl,.refl _⟩
theorem N3{p:List ar}(ae:p.Nodup)(b:d∈p):(d::rm d p).Perm p:=(sf (df.mpr ⟨λi=>(fo.mp i).2 rfl,Tj.zx ae⟩) ae).mpr λe=>by
 rw[b0,fo];exact⟨λi=>i.elim (λa=>a ▸ b) λi=>i.1,λi=>if a:e=d then .inl a else .inr ⟨i,a⟩⟩
def gx.cons{r:ar->ar->Nat}{g d:ar}{p:List ar}{XF:List a0}(ae:p.Nodup)(c:d∈p)(e:gx r (rm d p) XF)(b:∀f∈p,r g d+dO r (rm d p)<=r g f+dO r (rm f p)):gx r (g::p) ((g,d)::XF):=by
 refine⟨?_,?_⟩
 ·rw[bz,hg,e.cost,V3];refine HA ?_ (Tj.Bb<|cX.mpr ⟨d,c,rfl⟩);let⟨f,h,a⟩:=cX.mp (Tj.GA (J:=p.map λd=>r g d+dO r (rm d p)) λi=>by rw[q8.mp i]at c;cases c);rw[<-a];exact b f h
 ·show ([g,d]++lV XF).Perm (g::p);exact ((e.pm.cons d).trans<|N3 ae c).cons g
def gx.in(a:gx r T XF):∀n∈XF,n.1∈T/\n.2∈T:=λn b=>⟨a.pm.mem_iff.mp<|qd.mpr ⟨n,b,.head _⟩,a.pm.mem_iff.mp<|qd.mpr ⟨n,b,.tail _<|.head _⟩⟩
def VC(XF:List a0):(lV XF).length=2*XF.length:=by
 induction XF with
 |nil=>rfl
 |cons n XF a=>show ([n.1,n.2]++lV XF).length=_;rw[cC,a];show 2+2*XF.length=2*(XF.length+1);omega
def gx.len(a:gx r T XF):T.length=2*XF.length:=by rw[<-a.pm.length_eq,VC]
theorem zt:∀(c:List ar) (J:List (List ar)),J.Nodup->(∀C∈J,C.Sublist c)->J.length<=2^c.length
 |[],J,ae,b=>by
  have all:∀C∈J,C=[]:=λC bV=>vM.mp (b C bV)
  match J,ae,all with
  |[],_,_=>exact e9 _
  |[_],_,_=>exact bk _
  |e::A::p,ae,all=>exact absurd ((all e<|.head _).trans (all A<|.tail _<|.head _).symm) (df.mp ae |>.1 |> λi a=>i<|a ▸ .head _)
 |g::p,J,ae,b=>by
  have h:((J.filter λC=>decide (C.head?=Z g)).map List.tail).Nodup:=by
   refine mg.mpr (uw (λ{e A} d j v a=>v ?_)<|ae.filter _);have Yp:=e_ (gD.mp d).2;have f:=e_ (gD.mp j).2;cases e with
   |nil=>cases Yp
   |cons e x=>
    cases A with
    |nil=>cases f
    |cons A XW=>
     have k:e=g:=by simpa using Yp
     have n:A=g:=by simpa using f
     rw[k,n,show x=XW from a]
  have YN:∀C∈(J.filter λC=>decide (C.head?=Z g)).map List.tail,C.Sublist p:=λC bV=>by
   let⟨e,d,rfl⟩:=cX.mp bV;let⟨l,t⟩:=gD.mp d;have a:=e_ t;have m:=b e l;cases e with
   |nil=>cases a
   |cons e x=>
    have:e=g:=by simpa using a
    rw[this]at m;exact List.cons_sublist_cons.mp m
  have l:=zt p _ h YN;have t:=zt p (J.filter λC=>!decide (C.head?=Z g)) (ae.filter _) λC bV=>by
   let⟨l,t⟩:=gD.mp bV;have m:=b C l;cases m with
   |cons _ m=>exact m
   |cons_cons _ m=>exact absurd t ↥0
  have o:J.length=(J.filter λC=>decide (C.head?=Z g)).length+(J.filter λC=>!decide (C.head?=Z g)).length:=by
   rw[<-Cw,<-Cw];have:=List.length_eq_countP_add_countP (λC:List ar=>decide (C.head?=Z g)) (l:=J);rw[this];congr 1;exact xS λC Y=>by simp
  rw[a6]at l;rw[b6,z5];omega
structure Eb(Y T:List ar)(XQ:List a0)(E:Nat):Prop where
 ae:XQ.Nodup
 sub:∀a∈XQ,a∈cD Y
 odd:∀e,cM XQ e%2=1↔e∈T
 len:XQ.length=E
def My{k:a0->List a0}(ae:Y.Nodup)(c:T.Nodup)(hd:∀g d v,nP Y g d v->r g d<=v)(f:gx r T XF)(l:∀n∈XF,∀a∈k n,a∈cD Y)(t:∀n∈XF,∀e,cM (k n) e%2=c4 e [n.1,n.2]%2)(j:∀n∈XF,(k n).length=r n.1 n.2):Eb Y T (XF.flatMap k) (dO r T):=by
 have sub:∀a∈XF.flatMap k,a∈cD Y:=λa m=>by
  let⟨n,o,b⟩:=qd.mp m;exact l n o a b
 have len:(XF.flatMap k).length=dO r T:=by
  rw[<-f.cost,List.length_flatMap];congr 1;exact hx j
 have p:∀(d5:List a0),(∀n∈d5,∀e,cM (k n) e%2=c4 e [n.1,n.2]%2)->∀e,cM (d5.flatMap k) e%2=c4 e (lV d5)%2:=λd5=>by
  induction d5 with
  |nil=>exact λ_ W=>rfl
  |cons n d5 u=>
   intro b e;have h:=u (λs w=>b s<|.tail _ w) e;have q:=b n (.head _) e;have a:c4 e (lV (n::d5))=c4 e [n.1,n.2]+c4 e (lV d5):=FT e [n.1,n.2] (lV d5);rw[ot,xA,a];omega
 have odd:∀e,cM (XF.flatMap k) e%2=1↔e∈T:=λe=>by
  rw[p XF t e];have a:c4 e (lV XF)=c4 e T:=(f.pm.map _).sum_nat;rw[a];by_cases b:e∈T
  ·rw[sv c b];exact⟨λ_=>b,λ_=>rfl⟩
  ·rw[p4 b];exact⟨λi=>absurd i ∅,λi=>absurd i b⟩
 let⟨y,x⟩:=yU ae sub;have J:=Tj.x9 r (ja ae) hd T.length T (hE<|XF.flatMap k) (bk _) c λe=>by
  rw[yj ae e sub];exact fW.mpr (odd e)
 have J:dO r T<=Tj.cS (cD Y) (hE<|XF.flatMap k):=J;exact⟨x (by omega),sub,odd,len⟩
def GN(b:ec g d=aa):gf g d=(g,d):=by
 have v:¬ ec d g=aa:=by rw[hV] at *;omega
 unfold gf;rw[if_neg (show ¬ a3 (af d) (af g)=aa from v),aF<|show a3 (af g) (af d)=aa from b]
def Gd(b:ec d g=aa):gf g d=(d,g):=by
 have v:¬ ec g d=aa:=by rw[hV] at *;omega
 unfold gf;rw[aF (show a3 (af d) (af g)=aa from b),if_neg<|show ¬ a3 (af g) (af d)=aa from v]
def Dg(b:¬ ec g d=aa)(q:¬ ec d g=aa):g=d:=by
 rw[hV] at *;exact lz (by omega) (by omega)
def Lu(a:g∈Y)(c:d∈Y)(b:d∈cG g):gf g d∈cD Y:=by
 by_cases l:ec g d=aa
 ·rw[GN l];exact eJ.mpr ⟨a,c,b,l⟩
 ·by_cases t:ec d g=aa
  ·rw[Gd t];exact eJ.mpr ⟨c,a,lQ b,t⟩
  ·exact absurd (Dg l t).symm (lp b)
abbrev hd(r m C:Int):ak:=.lst [.int r,.int m,.int C]
abbrev AO(d:Bool):ak:=.im (.aH d)
def j1(M:List (Int×Int))(f:Int×Int):List (Int×Int):=(if f∈M then M else M++[f])
def LQ(M:List (Int×Int))(f:Int×Int):ei (mt M) (b4 f) (.aH aa)=mt (j1 M f):=by
 unfold j1;by_cases b:f∈M
 ·rw[aF b];unfold ei;rw[aF (by rw[r3];simpa using b)];unfold mt;rw[fM];refine hx λe Y=>?_;show (if b4 e=b4 f then (b4 e,X.aH aa) else (b4 e,X.aH aa))=_;split<;>rfl
 ·rw[if_neg b];exact yc b
abbrev zq(b:ak)(a:Option ak)(c d e f g:Int)(M:List (Int×Int))(B h i j k l:Option ak):aQ:=[Z b,a,Z<|aB c,Z<|aB d,Z<|aB e,Z<|aB f,Z<|aB g,Z<|.aE<|mt M,B,h,i,j,k,l]
def lN(XK:List (Int×Int)):Prop:=(XK.Pairwise λg d=>a3 (af g) (af d)=aa)
abbrev m2:=Int×Int
theorem JQ(b:Option ak):∀(XK M:List m2) (Yq:Option ak),M.length+XK.length<100000->∃c,dK (bH 2) qJ (XK.map af) [b,Z<|.aE<|mt M,Yq]=Z (.bA,[b,Z<|.aE<|mt<|XK.foldl j1 M,c])
 |[],M,Yq,_=>⟨Yq,rfl⟩
 |f::XK,M,Yq,d=>by
  have e:hG (.aE<|mt M) (.im<|.tup<|b4 f) (AO aa)=Z (.aE<|mt<|j1 M f):=by
   rw[<-LQ];exact aF ⟨rfl,by unfold mt;rw[a6];rw[b6]at d;lia⟩
  have h:(j1 M f).length<=M.length+1:=by
   unfold j1;split
   ·lia
   ·rw[cC];exact bk _
  let⟨@c,g⟩:=JQ b XK (j1 M f) (Z<|.im<|af f) (by rw[b6]at d;lia);refine⟨c,?_⟩;have a:qJ [b,Z<|.aE<|mt M,Z<|.im<|af f]=Z (.bA,[b,Z<|.aE<|mt<|j1 M f,Z<|.im<|af f]):=by
   unfold qJ;refine mC rfl ?_;show (hG (.aE<|mt M) (.im<|.tup<|b4 f)<|AO aa).map _=_;rw[e];rfl
  rw[bz,dK];show (qJ [b,Z<|.aE<|mt M,Z<|.im<|af f]).bind _=_;rw[a];exact g
theorem DM:∀(XK M:List m2),(M++XK).Nodup->XK.foldl j1 M=M++XK
 |[],M,_=>by rw[bO];rfl
 |f::XK,M,ae=>by
  have a:f∉M:=λb=>by
   have:=(cH.mp ae).2.2 f b f (.head _);exact this rfl
  rw[km,j1,if_neg a,DM XK (M++[f]) (by rw[bI];exact ae),bI];rfl
def FR{XK:List m2}(ae:XK.Nodup)(b:XK.length<10000):oY [a7 XK]=Z (.aE<|mt XK,[a7 XK]):=by
 let⟨@o,a⟩:=JQ (Z<|a7 XK) XK [] V (by show 0+_<_;lia);rw[DM XK [] ae]at a;unfold oY HQ;refine ew (w:=[Z (a7 XK),Z .c8,o]) rfl (bp (XD:=[Z (a7 XK),Z<|.aE [],V]) rfl<|bp (gk (o:=V) rfl a rfl) rfl) rfl
def TJ(f:m2):List m2:=([(f.1-1,f.2),(f.1,f.2-1),(f.1,f.2+1),(f.1+1,f.2)])
def Co(f:m2):jT [.im (af f)]=Z (a_<|TJ f,[.im (af f)]):=rfl
def Gx(M:List m2)(f:m2):gr (.im<|af f) (.aE<|mt M)=Z (AO<|decide (f∈M)):=by
 rw[<-wy];rfl
def fX(P:List a0):ak:=(.im (.tup<|P.map bT))
def c9(P:List a0):ak:=(.lst (P.map bT))
def tB(f:ar):(cG f).length=4:=rfl
def MC(Y:List ar)(f:ar):nS [.aE (mt Y),.im<|af f]=Z (a7<|dr Y f,[.aE (mt Y),.im<|af f]):=by
 have c1:d2 1 [0] (cL<|ab<|bf 1 G.jT<|ao (aj 1) az) (bH 0) G.Fy G.Kn [Z (.aE<|mt Y),Z<|.im<|af f]=Z (a_<|dr Y f,[Z (.aE<|mt Y),Z<|.im<|af f]):=by
  refine jM (x:=(cG f).map af) (o:=V) (XD:=[Z (.aE<|mt Y),Z<|.im<|af f]) rfl (ku af (λr=>decide (r∈Y)) af _ [] (λr W=>?_) (by rw[tB];decide)) rfl;exact⟨[Z (.im<|af r),Z<|.aE<|mt Y],[Z (.im<|af r),Z<|.aE<|mt Y],rfl,dq<|c3<|Gx Y r,λ_=>rfl,λ_=>⟨[Z (.im<|af r),Z<|.aE<|mt Y],rfl,rfl⟩⟩
 unfold nS Km;exact ew (w:=[Z (.aE<|mt Y),Z<|.im<|af f]) rfl (fz<|dz (bS (aS c1) rfl) rfl rfl) rfl
def U_(b:e.length+A.length<=100000):rZ (c9 e) [c9 A]=Z (.im .aK,c9<|e++A):=by
 have:rZ (c9 e) [c9 A]=Z (.im .aK,.lst<|e.map bT++A.map bT):=aF (by rw[a6,a6];exact b);rw[this,<-fq];rfl
def Sy(Y:List ar)(f:ar)(XK:List ar):kq Y (f::XK)=(((dr Y f).filter<|ec f).map λr=>(f,r))++kq Y XK:=ot
def Qk(g d f:ar):nJ (.im<|.tup [af g,af d]) (.im<|af f)=Z (aB ((c4 f [g,d]:Nat):Int)):=by
 have s:∀e A:ar,b1 (af e) (af A)=decide (e=A):=λe A=>by
  have d:∀h k:Int,b1 (.int h) (.int k)=decide (h=k):=λh k=>UA h k;show fs [.int e.1,.int e.2] [.int A.1,.int A.2]=_;show (b1 (.int e.1) (.int A.1)&&(b1 (.int e.2) (.int A.2)&&aa))=_;rw[d,d,sV,pU,cq,ek,ek,ek,GL]
 show Z (ak.im<|.int (lB [af g,af d] (af f):Nat))=_;unfold lB;rw[i2,i2,List.countP_nil,s,s,gu,gu];by_cases l:g=f<;>by_cases t:d=f<;>simp[l,t,c4]
theorem xj(F:ar->Int)(E:Int):∀Y:List ar,∃q:Nat,∀e∈Y,F e<=E+q
 |[]=>⟨0,λ_ b=>absurd b hP⟩
 |A::Y=>by
  let⟨q,b⟩:=xj F E Y;refine⟨q+(F A-E).toNat,λe a=>?_⟩;rcases b0.mp a with rfl|a
  ·omega
  ·have:=b e a;omega
theorem ya{Y:List ar}{O:ar->ar}{F n:ar->Int}(a:∀f,F (O f)=F f+1)(d:∀f,n (O f)=n f):∀(q:Nat) (f:ar),f∈Y->(∀e∈Y,F e<=F f+q)->∃g∈Y,O g∉Y/\n g=n f
 |0,f,c,b=>⟨f,c,λi=>by have:=b _ i;rw[a]at this;omega,rfl⟩
 |q+1,f,c,b=>by
  by_cases i:O f∈Y
  ·let⟨g,l,t,h⟩:=ya a d q (O f) i λe j=>by have:=b e j;rw[a];omega
   exact⟨g,l,t,h.trans<|d f⟩
  ·exact⟨f,c,i,rfl⟩
def OU(L Ya:List ar):(L.flatMap λg=>Ya.map λd=>((g.1,d.2):ar)).length=L.length*Ya.length:=by
 induction L with
 |nil=>rw[gs,Nat.zero_mul];rfl
 |cons g L a=>rw[ot,cC,a,a6,b6,EX,pD]
def O2{L Ya:List ar}(ae:Y.Nodup)(l:∀f∈Y,∃g∈L,g.1=f.1)(t:∀f∈Y,∃d∈Ya,d.2=f.2):Y.length<=L.length*Ya.length:=by
 rw[<-OU];refine ae.length_le_of_subset λf a=>?_;let⟨g,b,c⟩:=l f a;let⟨d,e,h⟩:=t f a;exact qd.mpr ⟨g,b,cX.mpr ⟨d,e,lz c h⟩⟩
theorem A9{n:ar->Bool}:∀J:List ar,J.countP n+(J.filter λf=>!n f).length=J.length
 |[]=>rfl
 |g::J=>by
  have:=A9 (n:=n) J;rw[i2,rD,b6];cases n g<;>simp<;>omega
def oS(f:ar):ar:=((f.1,f.2+1))
def nN(f:ar):ar:=((f.1+1,f.2))
theorem BS{Y:List ar}(a:∀f,(dr Y f).filter (ec f)=((cG f).drop 2).filter λr=>decide (r∈Y)):∀XK:List ar,(kq Y XK).length=XK.countP (λf=>decide (oS f∈Y))+XK.countP λf=>decide (nN f∈Y)
 |[]=>rfl
 |f::XK=>by
  have b:=BS a XK;rw[Sy,cC,a6,b,a,i2,i2];show (List.filter _ [oS f,nN f]).length+_=_;by_cases l:oS f∈Y<;>by_cases t:nN f∈Y<;>simp[rD,l,t]<;>omega
def JB(k:∀f,(dr Y f).filter (ec f)=((cG f).drop 2).filter λr=>decide (r∈Y))(ae:Y.Nodup)(m:Y.length<=36):(cD Y).length<=63:=by
 have a:=BS k Y;have o:=A9 (n:=λf=>decide (oS f∈Y)) Y;have p:=A9 (n:=λf=>decide (nN f∈Y)) Y;have d:=O2 (L:=Y.filter λf=>!decide (oS f∈Y)) (Ya:=Y.filter λf=>!decide (nN f∈Y)) ae (λf c=>by
  let⟨q,h⟩:=xj (·.2) f.2 Y;let⟨g,l,t,j⟩:=ya (Y:=Y) (O:=oS) (F:=(·.2)) (n:=(·.1)) (λ_=>rfl) (λ_=>rfl) q f c h;exact⟨g,gD.mpr ⟨l,by rw[decide_eq_false t];rfl⟩,j⟩) (λf c=>by
  let⟨q,h⟩:=xj (·.1) f.1 Y;let⟨g,l,t,j⟩:=ya (Y:=Y) (O:=nN) (F:=(·.1)) (n:=(·.2)) (λ_=>rfl) (λ_=>rfl) q f c h;exact⟨g,gD.mpr ⟨l,by rw[decide_eq_false t];rfl⟩,j⟩)
 show (kq Y Y).length<=63;rw[a];generalize (Y.filter λf=>!decide (oS f∈Y)).length=e at *;generalize (Y.filter λf=>!decide (nN f∈Y)).length=A at *;refine AQ λi=>?_;have b:e=0\/e=1\/e=2\/e=3\/e=4\/e=5\/e=6\/e=7\/e=8:=by omega
 rcases b with rfl|rfl|rfl|rfl|rfl|rfl|rfl|rfl|rfl<;>omega
def qT:X->a0
 |.tup [g,d]=>(hi g,hi d)
 |_=>((0,0),(0,0))
def uA(a:a0):qT (bT a)=a:=rfl
def vc{g d:a0}(b:bT g=bT d):g=d:=by rw[<-uA g,b,uA]
def Q7{J:List X}{M:List a0}(b:J.Perm (M.map bT)):∃c:List a0,c.Perm M/\J=c.map bT:=by
 have all:∀J:List X,(∀e∈J,e∈M.map bT)->J=(J.map qT).map bT:=λJ=>by
  induction J with
  |nil=>exact λ_=>rfl
  |cons e J d=>
   intro b;let⟨n,Y,a⟩:=cX.mp (b e<|.head _);rw[bz,bz,<-d λA f=>b A<|.tail _ f,<-a,uA]
 refine⟨J.map qT,?_,all J λe g=>b.mem_iff.mp g⟩;have:=sr qT b;rw[fM]at this;have a:(qT ∘ bT:a0->a0)=id:=funext uA;rw[a,pV]at this;exact this
def uY(a:P.length<=63):pW (P.map bT):=⟨⟨by rw[a6];exact a,λg b d c=>by
  let⟨e,Y,rfl⟩:=cX.mp b;let⟨A,Y,rfl⟩:=cX.mp c;rfl⟩,.inr λr hd=>by
  let⟨e,Y,rfl⟩:=cX.mp hd;rfl⟩
def lR(P:List a0):ak:=(.lst (fU a3<|P.map bT))
def HN{Y:List a0}(a:Y.length<=63)(n:P.Perm Y):lR P=lR Y:=by
 unfold lR;congr 1;exact uS (uY a).ord ((i4 _).trans<|n.map bT) (ur (uY (P:=P) (by rw[n.length_eq];exact a)).ord.ij)
def Hk(ae:P.Nodup)(b:P.length<=63):hA [c9 P]=Z (lR P):=by
 cases P with
 |nil=>rfl
 |cons a P=>
  show jR ((a::P).map bT)=_;unfold jR;have o:=uY b;rw[aF (nV.mpr ⟨⟨o.ord.dY,o.ord.ij,qL bT (λg d v a=>v<|vc a) ae⟩,o.fst⟩)];rfl
def v3(P:List a0):∃T:List a0,T.Perm P/\lR P=c9 T:=by
 let⟨T,X5,a⟩:=Q7 (i4<|P.map bT);exact⟨T,X5,congrArg ak.lst a⟩
def CC(Y:List ar)(f:ar):((cG f).drop 2).filter (λr=>decide (r∈Y))=(dr Y f).filter (ec f):=by
 have l:ec f (f.1-1,f.2)=aA:=by
  cases b:ec f (f.1-1,f.2) with
  |false=>rfl
  |true=>have:=(hV _ _).mp b;dsimp only at this;omega
 have t:ec f (f.1,f.2-1)=aA:=by
  cases b:ec f (f.1,f.2-1) with
  |false=>rfl
  |true=>have:=(hV _ _).mp b;dsimp only at this;omega
 have a:ec f (f.1,f.2+1)=aa:=(hV _ _).mpr (by dsimp only;omega);have c:ec f (f.1+1,f.2)=aa:=(hV _ _).mpr (by dsimp only;omega);unfold dr;rw[List.filter_filter];unfold cG;simp only[List.drop_succ_cons,wo,rD,Gf,l,t,a,c,BH,Dx,hr,eR]
def cJ(Y:List ar)(F:ar->Int):List (List X×X):=(Y.map λf=>(b4 f,.int<|F f))
theorem sZ{F:ar->Int}:∀{Y:List ar}{f:ar},f∈Y->cF (cJ Y F) (b4 f)=Z (.int<|F f)
 |g::Y,f,b=>by
  unfold cF cJ;rw[bz,fT];by_cases a:g=f
  ·subst a;rw[show decide ((b4 g,X.int<|F g).1=b4 g)=aa from bG rfl];rfl
  ·rw[show decide ((b4 g,X.int<|F g).1=b4 f)=aA from decide_eq_false λi=>a<|oi i];exact sZ ((b0.mp b).resolve_left λi=>a i.symm)
def j_(F:ar->Int)(f:ar)(u:Int):ar->Int:=(λe=>if e=f then u else F e)
theorem GD{XC T:List a0}(b:XC.Perm T)(e:ar):cM XC e=cM T e:=(b.map _).sum_nat
def Vo(b:e.length+A.length<=100000):cj (fX e) (fX A)=Z (fX<|e++A):=by
 show (if (e.map bT).length+(A.map bT).length<=100000 then Z (ak.im<|.tup<|e.map bT++A.map bT) else V)=_;rw[aF (by rw[a6,a6];exact b),<-fq];rfl
end G
namespace L2
open Spec PyProof.Rows
end L2
namespace L2
open Spec PyProof.Rows PySem.W
section
variable{XJ:bB}{H:a9}{L:br}{Xz:qw->au->Prop}{z:aq}{b7 YY:List aq}{v:Nat}{XI:Nat->ag->Prop}{aZ:Nat->aV->Prop}
def jL(O b:aV):Prop:=(∀f o,O.get? f=Z o->b.get? f=Z o)
def SR(W:hH XJ H L.in1 z b7 YY v XI aZ){O:aV}(e:Nat->Nat->Bool)(N:∀h k I u (m:au) (y:ag->au->Prop) (XA:ag->au->Prop),jL O m.heap->XI h I->XI k u->y (.bool<|e h k) m->wpAny (aN XJ H) L.in1 (kX .Lt I u) y XA m){XC:aq}(s:XC∉b7)(t:∀f o,O.get? f=Z o->f∉YY/\f≠XC):∀(q k:Nat) (m:au) (c:ag) (f:Nat),v-(k+1)=q->k+1<=v->aZ (k+1) m.heap->XI (ib e k) c->
  m.heap.get? XC=Z {cls:=.type "list",dict:=V,data:=.seq #[c,c] f,slots:=#[]}->jL O m.heap->(∀u ah Yb,XI (ib e<|v-1) u->jL O ah->Xz (.ok<|.ret u) {m with heap:=ah,toks:=Yb})->
  codeAny (aN XJ H) L (.builtin "min.loop" ⟨[.ref z,.none,.ref XC],[]⟩) Xz m:=by
 have w:XC∉YY:=λb=>s (W.sub _ b);have x:(toString "min" ++ toString ".loop" : String) = "min.loop" := by decide
 have A:∀{b:aV}{F:a5->a5},jL O b->jL O (b.update XC F):=λq f o a=>(gM _ _<|dn (t f o a).2).trans (q f o a);have B:∀{b ah:aV},jL O b->(∀d o,d∉YY->b.get? d=Z o->ah.get? d=Z o)->jL O ah:=λq C f o a=>C f o (t f o a).1 (q f o a);intro q;induction q with
 |zero=>
  intro k m c f P Q n j g b3 l;have D:k+1=v:=⋯
  refine hW tr ?_;rw[iR m3 _];show wpAny _ L.in1 (k8 (.ref XC) >>= _) _ _ m;refine aw (jz g rfl ?_);show wpAny _ L.in1 (tryCatch (fE<|.ref z) _ >>= _) _ _ m;refine aw (k2<|W.done m _ _ (D ▸ n) λah Yb C=>?_);have i:=C XC _ w g;show wpAny _ L.in1 (pw XC (λ_=>#[]) >>= _) _ _ _;refine aw (mi i rfl<|aw<|lW<|aM ?_);exact l c _ Yb (by rw[<-D];exact j) (A<|B b3 C)
 |succ q E=>
  intro k m c f P Q n j g b3 l;have p:k+1<v:=⋯
  refine hW tr ?_;rw[iR m3 _];show wpAny _ L.in1 (k8 (.ref XC) >>= _) _ _ m;refine aw (jz g rfl ?_);show wpAny _ L.in1 (tryCatch (fE<|.ref z) _ >>= _) _ _ m;refine aw (k2<|W.item (k+1) m _ _ p n λu ah Yb G J C=>?_);have i:=C XC _ w g;have r:=B b3 C;show wpAny _ L.in1 (tryCatch (holding [u,u]<|kX .Lt u c >>= _) _ >>= _) _ _ _;refine aw (k2<|fS<|aw<|N (k+1) (ib e k) u c _ _ _ r G j ?_);refine aw (fS<|oC<|aw<|lW<|aM ?_);cases M:e (k+1) (ib e k) with
  |true=>
   simp only[hl];refine aw (mi i rfl<|aw<|lW ?_);rw[x];refine aM ⟨hz m3 _,E (k+1) _ u _ ⋯ p (W.frame _ _ _ J λd R o a=>(gM _ _ (λb:XC=d=>s (by rw[b];exact R))).trans a) (by simp only[ib,M,hl];exact G) (jB _ i rfl) (A r) l⟩
  |false=>
   simp only[hr,eR];refine aw (lW ?_);rw[x];exact aM ⟨hz m3 _,E (k+1) _ c f ⋯ p J (by simp only[ib,M,hr,eR];exact j) i r l⟩
def VN(W:hH XJ H L.in1 z b7 YY v XI aZ){O:aV}(c:Nat->Nat->Bool)(n:∀h k I u (m:au) (y:ag->au->Prop) (XA:ag->au->Prop),jL O m.heap->XI h I->XI k u->y (.bool<|c h k) m->wpAny (aN XJ H) L.in1 (kX .Lt I u) y XA m){XC:aq}(e:XC∉b7)(g:∀f o,O.get? f=Z o->f∉YY/\f≠XC)(i:0<v){m:au}{f:Nat}(p:aZ 0 m.heap)(j:m.heap.get? XC=Z {cls:=.type "list",dict:=V,data:=.seq #[] f,slots:=#[]})(b3:jL O m.heap)(q:∀u ah Yb,XI (ib c<|v-1) u->jL O ah->Xz (.ok<|.ret u) {m with heap:=ah,toks:=Yb}):codeAny (aN XJ H) L (.builtin "min.loop" ⟨[.ref z,.none,.ref XC],[]⟩) Xz m:=by
 have r:XC∉YY:=λb=>e (W.sub _ b);have s:(toString "min" ++ toString ".loop" : String) = "min.loop" := by decide
 refine hW tr ?_;rw[iR m3 _];show wpAny _ L.in1 (k8 (.ref XC) >>= _) _ _ m;refine aw (jz j rfl ?_);show wpAny _ L.in1 (tryCatch (fE<|.ref z) _ >>= _) _ _ m;refine aw (k2<|W.item 0 m _ _ i p λu ah Yb t w C=>?_);have l:=C XC _ r j;have x:jL O ah:=λf o a=>C f o (g f o a).1 (b3 f o a);show wpAny _ L.in1 (pw XC (λ_=>#[u,u]) >>= _) _ _ _;refine aw (mi l rfl ?_);rw[s];exact aM ⟨hz m3 _,SR W c n e g _ 0 _ u _ rfl i (W.frame _ _ _ w λd A o a=>(gM _ _ (λb:XC=d=>e (by rw[b];exact A))).trans a) t (jB _ l rfl) (λf o a=>(gM _ _<|dn (g f o a).2).trans<|x f o a) q⟩
end
theorem Eh{D:List X}(o:rU D):∀q,q<D.length->ib (λh k=>a3 (D.getD h .aK)<|D.getD k .aK) q<=q/\∀k,k<=q->D.getD k .aK=D.getD (ib (λh k=>a3 (D.getD h .aK)<|D.getD k .aK) q) .aK\/a3 (D.getD (ib (λh k=>a3 (D.getD h .aK)<|D.getD k .aK) q) .aK) (D.getD k .aK)=aa
 |0,b=>⟨bk _,λk e=>.inl (by rw[Nat.le_zero.mp e];rfl)⟩
 |q+1,b=>by
  let⟨l,t⟩:=Eh o q ⋯;rw[ib];have g:=m8 b;have c:D.getD (ib (λh k=>a3 (D.getD h .aK)<|D.getD k .aK) q) .aK∈D:=m8 ⋯;generalize j:ib (λh k=>a3 (D.getD h .aK)<|D.getD k .aK) q=d at l t c ⊢;by_cases f:a3 (D.getD (q+1) .aK) (D.getD d .aK)=aa
  ·rw[aF f];refine⟨bk _,λk e=>?_⟩;rcases f7 k (q+1) with s|s
   ·right;rcases t k ⋯ with a|a
    ·rw[a];exact f
    ·exact oR (o.2 _ g _ c) (o.2 _ c _ (m8 ⋯)) f a
   ·rw[show k=q+1 by lia];exact .inl rfl
  ·rw[if_neg f];refine⟨⋯,λk e=>?_⟩;rcases f7 k (q+1) with s|s
   ·exact t k ⋯
   ·rw[show k=q+1 by lia];by_cases a:D.getD (q+1) .aK=D.getD d .aK
    ·exact .inl a
    ·right;have:=ps (o.2 _ g _ c) a;rw[Bool.not_eq_true]at f;rw[f]at this;cases i:a3 (D.getD d .aK) (D.getD (q+1) .aK) with
     |true=>rfl
     |false=>rw[i]at this;cases this
section
variable{c:aI}
def Rb(al:c.calm=aa)(co:c.A.units+20<bj):eK c (.builtin "min") (λx j y=>∃(g:aq) (D:List X) (XW:List ai),x=[.ref g]/\j g=Z (.lst XW)/\bt j D XW/\rU D/\D≠[]/\
  ∀r A,r∈D->(∀a∈D,a=r\/a3 r a=aa)->b8 j r A->y A j):=by
 intro G m B j x XZ y z p b;let⟨J,D,XW,rfl,am,hd,o,an,s⟩:=b;let⟨I,rfl,ap⟩:=hD p;cases ap;let⟨i,XN,v,l,a⟩:=z.aU J _ am;have E:m.heap.IsList J XN.toArray:=⟨_,a,rfl,v,rfl⟩;have as:=hd.length;have a1:=l.length;have cr:0<D.length:=rq.mpr an;have a2:=hd.el z.aU l;refine GG BP KQ Jw (F.args_min1 _) ?_;show wpAny _ c.A.in1 (bc.Builtins.bindParams "min" ["key","default"] 0 ⟨[],[]⟩ >>= _) _ _ m;refine aw (qy (show bc.Builtins.bindParams "min" ["key","default"] 0 ⟨[],[]⟩=pure [V,V] from rfl) ?_);refine aw (aM ?_);refine aw (uV E ?_);have W:=hH.list (prog:=c.prog) (w:=c.w) (A:=c.A.in1) (z.ok.hd al) m.heap.objs.size J (c0<|cn a) XN.toArray;have bd:(toString "min" ++ toString ".loop" : String) = "min.loop" := by decide
 refine aw (gF ?_);rw[bd];have be:∀f o,m.heap.get? f=Z o->f<m.heap.objs.size:=λf o a=>cn a;refine aM ⟨hz m3 _,VN W (O:=m.heap) (λh k=>a3 (D.getD h .aK)<|D.getD k .aK) ?e ?bi ?bm ?v ?R (dE _ rfl) ?b3 ?Xz⟩
 case e=>
  intro h k I u XM bn bs b3 XG n M;have P:=a2.n4 b3;let⟨g,Q,YH⟩:=P.get (show XN[h]?=Z I by simpa using XG);let⟨d,c2,c6⟩:=P.get (show XN[k]?=Z u by simpa using n);have bv:D.getD h .aK=g:=by rw[cY,Q];rfl
  have ca:D.getD k .aK=d:=by rw[cY,c2];rfl
  rw[bv,ca]at M;exact ue 6 (o.2 g (fi Q) d<|fi c2) (by show c.A.units+1+6+2<bj;lia) YH c6 c.prog c.w bs bn M
 case bi=>
  intro q;simp only[iL,b0,hP,td]at q;have:=cn a;lia
 case bm=>
  intro f S t;have:=be f S t;rw[iL];exact⟨λq=>by rw[cf.mp q]at this;exact gN _ this,⋯⟩
 case v=>rw[cK];lia
 case R=>exact⟨aV.IsListIter.at (h:=m.heap.push _) ⟨_,dE _ rfl,rfl,rfl⟩ λo a=>cw _ a,(E.push _).push _⟩
 case b3=>exact λf S t=>cw _ (cw _ t)
 case Xz=>
  intro u ah Yb C b3;let⟨c2,c6⟩:=Eh o (D.length-1) ⋯;rw[cK,<-a1,<-as]at C;generalize ib (λh k=>a3 (D.getD h .aK)<|D.getD k .aK) (D.length-1)=d at C c2 c6;have T:d<D.length:=⋯
  let⟨A,cd,ce⟩:=hd.get (show D[d]?=Z (D.getD d .aK) by rw[cY,dF T];rfl);let⟨ch,U,ci⟩:=l.get cd;have gn:ch=u:=by
   have:XN[d]?=Z u:=by simpa using C
   rw[this]at U;exact (Option.some.inj U).symm
  subst gn;refine⟨A,j,z.kept (Yc:=Yb) b3,ci,s _ A (m8 T) (λa cl=>?_) ce⟩;let⟨k,n,rfl⟩:=pJ.mp cl;have:=c6 k ⋯;rw[show D.getD k .aK=D[k] by rw[cY,dF n];rfl]at this;exact this
@[simp] def u6:hu:=λD=>match D with
 |[.lst e]=>if nF e=aa then (fU a3 e).head?.map .im else V
 |_=>V
def Rx(k:c.calm=aa)(m:c.A.units+20<bj):gX c (.builtin "min") u6:=by
 refine (Rb k m).imp λx j y ⟨D,r,n,a,s⟩=>?_;unfold u6 at a;split at a
 ·rename_i e;split at a
  ·rename_i o;have d:=nV.mp o;let⟨E,f,q⟩:=b5.mp a;subst q;let⟨u,rfl,b⟩:=gq n;let⟨Xz,g,XW,rfl,l,t,Y⟩:=b;have X5:=i4 e;have lt:=AK d.1.3 d.1.2;cases XO:fU a3 e with
   |nil=>rw[XO]at f;cases f
   |cons F p=>
    rw[XO]at f lt X5;cases f;rw[hv]at lt;have v:∀a∈e,a=E\/a3 E a=aa:=λa w=>by
     rcases b0.mp (X5.mem_iff.mpr w) with i|i
     ·exact .inl i
     ·exact .inr (lt.1 a i)
    refine⟨g,e,XW,rfl,l,t,d.1,λi=>by rw[i]at X5;simpa using X5.length_eq,λr A hd z B=>?_⟩;have:r=E:=by
     rcases v r hd with i|i
     ·exact i
     ·rcases z E (X5.mem_iff.mp<|.head _) with H|H
      ·exact H.symm
      ·have C:=oR (d.1.2 _ hd _<|X5.mem_iff.mp<|.head _) (d.1.2 _ (X5.mem_iff.mp<|.head _) _ hd) H i;rw[rR]at C;cases C
    subst this;exact ck.i s B
  ·cases a
 ·cases a
end
end L2
namespace L2
open Spec PyProof.Rows
variable{O:aC ak}{a:aY}{Xz:List aq}{u:ai}{r:ak}{j:ax}
def lu(E:List ((Int×Int)×Int)):List (List X×X):=(E.map λn=>([X.int n.1.1,X.int n.1.2],X.int n.2))
def o1:List (List X×X)->Option (List<|(Int×Int)×Int)
 |[]=>Z []
 | ([.int g,.int d],.int v)::p=>(o1 p).map λE=>((g,d),v)::E
 |_=>V
theorem FZ:∀E,o1 (lu E)=Z E
 |[]=>rfl
 |n::E=>by
  show (o1<|lu E).map _=_;rw[FZ E];rfl
theorem CF:∀{Xy:List (List X×X)}{E},o1 Xy=Z E->Xy=lu E
 |[],E,b=>by cases b;rfl
 |c::p,E,b=>by
  unfold o1 at b;split at b
  ·cases ‹_::_=[]›
  ·rename_i g d v Yr a;cases a;let⟨e,l,t⟩:=b5.mp b;subst t;rw[CF l];rfl
  ·cases b
theorem Ds{j:ax}:∀{E:List ((Int×Int)×Int)}{Yk:List (List X×ai)},dW j (lu E) Yk->Yk=E.map λn=>([X.int n.1.1,X.int n.1.2],ai.int n.2)
 |[],_,.nil=>rfl
 |n::E,_,.cons p C=>by
  rename_i A XW;let⟨q,u⟩:=A;have l:q=[X.int n.1.1,X.int n.1.2]:=p.1.symm;have t:u=ai.int n.2:=p.2;rw[bz,<-Ds C,l,t]
theorem EK{j:ax}:∀E:List ((Int×Int)×Int),dW j (lu E) (E.map λn=>([X.int n.1.1,X.int n.1.2],ai.int n.2))
 |[]=>.nil
 |n::E=>.cons ⟨rfl,rfl⟩ (EK E)
def w1:ak->ak
 |.dN Xy=>match o1 Xy with
  |some E=>.im (.fd E)
  |none=>.dN Xy
 |r=>r
def z3:ak->ak
 |.im (.fd E)=>.dN (lu E)
 |r=>r
def VP(b:b_ j r u Xz):b_ j (w1 r) u Xz:=by
 unfold w1;split
 ·rename_i Xy;split
  ·rename_i E a;let⟨g,Yk,o,rfl,l,t,rfl⟩:=b;rw[CF a]at t;exact⟨⟨g,o,Yk,rfl,l,Ds t⟩,rfl⟩
  ·exact b
 ·exact b
def M3(b:b_ j r u Xz):b_ j (z3 r) u Xz:=by
 unfold z3;split
 ·rename_i E;let⟨⟨g,o,Yk,rfl,l,t⟩,rfl⟩:=b;rw[t]at l;exact⟨g,_,o,rfl,l,EK E,rfl⟩
 ·exact b
def rn(F:ak->ak)(O:aC ak):aC ak:=(λw=>(O w).map λn=>(F n.1,n.2))
abbrev AU(O:aC ak):aC ak:=rn w1 (wH O)
abbrev qz(O:aC ak):aC ak:=rn z3 O
section
variable{c:aI}
def Ek{F:ak->ak}(e:∀{j:ax}{r:ak}{u:ai}{Xz:List aq},b_ j r u Xz->b_ j (F r) u Xz)(b:bZ c a O):bZ c a (rn F O):=by
 refine dR (@b) λB j y h=>?_;let⟨w,N,p,X0,R,ae,i,s⟩:=h;let⟨⟨k,XD⟩,l,t⟩:=b5.mp i;cases t;exact⟨w,N,k,XD,R,ae,l,λu XE XT Xz g d f=>s u XE XT Xz g (e d) f⟩
def UU(b:bZ c a O):bZ c a (AU O):=Ek VP (RI b)
def Ez(b:bZ c a O):bZ c a (qz O):=Ek M3 b
@[simp] def tS(h:Nat)(v:aC ak):aC ak:=λw=>match w[h]? with
 |some (Z<|.dN _)=>(v w).bind λn=>match n.2[h]?,n.1 with
   |some (Z<|.dN Xy),.im (.tup q)=>if X.keys 7 q=aa then Z (.im<|(cF Xy q).getD .aK,n.2) else V
   |_,_=>V
 |_=>V
def P2{h:Nat}{o q:aY}{v:aC ak}{YK YA:b9}(k:c.A.units+20<bj)(m:bu c o (hZ h))(n:bZ c q v)(E:DP c o "get" YK q YA:=by exact⟨rfl,rfl,rfl,rfl⟩):
  bZ c (.Call (.Attribute o "get" YK) [q] [] YA) (tS h v):=by
 refine dR (Nh k m n E) λB j y r=>?_;let⟨w,N,p,X0,R,ae,b,s⟩:=r;unfold tS at b;split at b
 ·rename_i Q t;let⟨S,T,U,e,u,Y,Y⟩:=R.out t;let⟨g,al,am,rfl,D,Y,Y⟩:=u;let⟨⟨Ym,XD⟩,l,a⟩:=bg.mp b;refine⟨_,e,g,rfl,.inr ⟨_,.inr ⟨_,D⟩⟩,w,N,Ym,XD,R,ae,l,λA XE XT an f z C=>?_⟩;dsimp only at a;split at a
  ·rename_i Xy ap F;split at a
   ·rename_i G;cases a;let⟨cc,rfl⟩:=z;let⟨as,Xz,a1,i,H,a2,bd⟩:=f.out F;rw[e]at i;cases i;let⟨be,Yk,Yy,I,J,M,Y⟩:=H;cases I;let⟨d,x,rfl,O,P⟩:=cc;exact⟨_,.inr ⟨Yk,_,d,.inr ⟨_,J⟩,rfl,⟨G,d,x,rfl,O,P⟩,rfl⟩,s _ XE XT [] f ⟨y8 M (rfl:b8 XE .aK .aK),rfl⟩ C⟩
   ·cases a
  ·cases a
 ·cases b
end
end L2
namespace G
open L2
variable{XF:List a0}{j:List (List X×X)}{c p T XY Y M:List ar}{d g m e f:ar}{XD w:aQ}{O:aC ak}{Yd:ar->List ((Int×Int)×Int)}{r:ar->ar->Nat}{F:ar->Int}
def rX:bx:=((d7 (eb (bb<|ac gr (aj 6)<|aj 0)<|bb<|ac hb (aj 6)<|aj 2) (ba (hB (ac cj (ab<|ac bh (aj 2)<|aj 5)<|ab<|av<|.int 1)<|iA 2 (dQ 6) hG)<|fD<|fg gQ 4 eW<|ao (aj 6) az) fC))
def xr:bx:=((e4 (cL<|ab<|bf 1 G.jT<|ao (aj 5) az) (bH 6) G.rX))
def Jv:aC Bool:=((lG<|aj 3))
def Aj:bx:=((ba (bW 4<|eu az)<|ba (e4 (cL<|aj 3) (bH 5) G.xr)<|bW 3<|dQ 4))
def Dc:bx:=((ba (bW 2<|xJ (dQ 1)<|av<|.int 0)<|ba (bW 3<|eu<|ao (aj 1) az)<|ba (ho G.Jv G.Aj 1000000)<|dk<|dQ 2))
def mw:cW:=(dp 2 7 [0,1] Dc)
def AY:bx:=((hB (AU<|bf 2 G.mw<|ao (aj 0)<|ao (aj 3) az)<|iA 2 (dQ 3) hG))
def I8:bx:=((ba (bW 2 qg)<|ba (e4 (cL<|aj 1) (bH 3) G.AY)<|dk<|dQ 2))
def sz:cW:=(dp 2 4 [0,1] I8)
def F1:aC ak:=((dQ 0))
def AR:aC Bool:=((eb (bb<|ac gd (aj 0)<|aj 1)<|bb<|ac gd (aj 0)<|aj 2))
def Hs:bx:=((dk<|bQ kM<|ao (ab<|d2 1 [1,2] (cL<|aj 0) (bH 0) G.AR G.F1) az))
def pH:cW:=(dp 3 3 [0,1,2] Hs)
def JE(a:cW):bx:=((ba (bW 4<|bf 3 a<|ao (aj 0)<|ao (ab<|bf 3 G.pH<|ao (aj 1)<|ao (ab<|ac bh (aj 1)<|ab<|av<|.int 0)<|ao (aj 2) az)<|ao (aj 3) az)<|dk<|cp<|ao (ab<|ac cj (ab<|ac bh (ab<|qz<|ac bh (aj 0)<|ab<|ac bh (aj 1)<|ab<|av<|.int 0)<|aj 2)<|ab<|ac bh (aj 4)<|ab<|av<|.int 0)<|ao (ab<|ac cj (ab<|cp<|ao (ab<|cp<|ao (ab<|ac bh (aj 1)<|ab<|av<|.int 0)<|ao (aj 2) az) az)<|ab<|ac bh (aj 4)<|ab<|av<|.int 1) az))
def tf(a:cW):cW:=(dp 4 5 [0,1,2,3] (JE a))
def nW(a:cW):aC ak:=((bf 4 (G.tf a)<|ao (aj 1)<|ao (aj 2)<|ao (aj 0)<|ao (aj 3) az))
def oa(a:cW):bx:=((ba (d7 (bb<|ac c_ (ab<|bQ dI<|ao (aj 1) az)<|ab<|av<|.int 0) (dk<|cp<|ao (ab<|av<|.int 0)<|ao (ab<|cp az) az) fC)<|ba (d7 (bb<|ac hb (aj 1)<|aj 2) (hB (bQ u6<|ao (ab<|d2 1 [0,1,2] (cL<|ab<|kp (aj 1) (oL<|av<|.int 1) m6) (bH 0) gW<|G.nW a) az)<|iA 2 (dQ 1) hG) fC)<|dk<|ac bh (aj 2)<|aj 1))
def i1:Nat->cW
 |0=>λ_=>V
 |q+1=>dp 3 3 [0,1,2] (oa<|i1 q)
def IK:bx:=((ba (bW 3<|bf 3 G.sy<|ao (aj 0)<|ao (aj 1)<|ao (aj 2) az)<|ba (d7 (bb<|ac iB (ab<|bQ dI<|ao (aj 3) az)<|ab<|av<|.int 14) J8 fC)<|dk<|dQ 3))
def sS:cW:=(dp 3 4 [0,1,2] IK)
def Kq:aC ak:=((dQ 0))
def GU:aC Bool:=((bb<|ac c_ (ab<|tS 1<|dQ 0)<|ab<|ac jd (ab<|ac bh (aj 1)<|aj 2)<|ab<|av<|.int 1))
def Bd:aC Bool:=((bb<|ac iB (ab<|ac bh (aj 0)<|aj 1)<|ab<|av<|.int 0))
def Ah:bx:=((ba (bW 3<|ac bh (ab<|d2 1 [0,1] (cL<|ab<|bf 1 G.jT<|ao (aj 1) az) (bH 0) G.GU G.Kq)<|ab<|av<|.int 0)<|ba (fD<|fg gQ 2 eW<|ao (ab<|bf 2 G.vu<|ao (aj 1)<|ao (aj 3) az) az)<|bW 1<|dQ 3))
def DS:bx:=((ba (bW 2<|eu az)<|ba (ho G.Bd G.Ah 1000000)<|dk<|dQ 2))
def qr:cW:=(dp 2 4 [0] DS)
def wW:bx:=((fD<|fg gQ 5 rZ<|ao (ab<|bf 2 G.qr<|ao (ab<|qz<|ac bh (aj 4)<|aj 6)<|ao (aj 7) az) az))
def FY:bx:=((ba (bW 3<|bf 3 G.sS<|ao (aj 0)<|ao (aj 1)<|ao (aj 2) az)<|ba (bW 4<|bf 2 G.sz<|ao (ab<|bf 1 G.oY<|ao (aj 0) az)<|ao (aj 3) az)<|ba (bW 5<|eu az)<|ba (e4 (cL<|ab<|ac bh (ab<|bf 3 (G.i1 8)<|ao (aj 4)<|ao (aj 3)<|ao (ab qg) az)<|ab<|av<|.int 1) (jt 2<|fY (bH 6)<|fY (bH 7) jH) G.wW)<|dk<|bQ kM<|ao (ab<|bQ hA<|ao (aj 5) az) az))
def oO:cW:=(dp 3 8 [0,1,2] FY)
def MJ(M:List ar)(F:ar->Int):(cJ M F).length=M.length:=a6 _
def xc(f:ar):((cJ M F).any λn=>decide (n.1=b4 f))=decide (f∈M):=by
 unfold cJ;rw[q6,pU,mQ,ek];constructor
 ·rintro⟨e,c,a⟩;have:b4 e=b4 f:=e_ a;rw[<-oi this];exact c
 ·exact λb=>⟨f,b,bG rfl⟩
def Rl{r:ar}(b:r∉M)(u:Int):ei (cJ M F) (b4 r) (.int u)=cJ (M++[r]) (j_ F r u):=by
 unfold ei;rw[xc,if_neg (by rw[decide_eq_false b];exact cB)];unfold cJ;rw[fq];congr 1
 ·refine hx λf a=>?_;unfold j_;rw[if_neg λi:f=r=>b<|i ▸ a]
 ·show _=[(b4 r,X.int<|j_ F r u r)];unfold j_;rw[aF rfl]
def RV{r:ar}(b:r∉M)(a:M.length<100000)(u:Int):hG (.aE<|cJ M F) (.im<|af r) (aB u)=Z (.aE<|cJ (M++[r])<|j_ F r u):=by
 rw[<-Rl b];exact aF ⟨rfl,by rw[MJ];exact a⟩
def WR(M:List ar)(F:ar->Int)(f:ar):hb (.im<|af f) (.aE<|cJ M F)=Z (.im<|.aH<|!decide (f∈M)):=by
 show (f5 (.tup<|b4 f)<|.aE<|cJ M F).map (λp=>ak.im<|.aH<|!p)=_;rw[Hv,aF<|lF f,vm,xc];rfl
def QJ(b:f∈M):bh (.aE<|cJ M F) (.im<|af f)=Z (aB<|F f):=by
 show (if X.keys 7 (b4 f)=aa then (cF (cJ M F)<|b4 f).map ak.im else V)=_;rw[aF (lF f),sZ b];rfl
def TP{r:ar}(b:r∈Y)(q:r∉M):d0 Y M (r::XY)=r::d0 Y M XY:=by
 unfold d0;rw[nM (by rw[bG b,decide_eq_false q];rfl)]
def GJ{r:ar}(b:¬ (r∈Y/\r∉M)):d0 Y M (r::XY)=d0 Y M XY:=by
 unfold d0;rw[mV];rw[cq,ek,sl,zY];exact b
def N8{r:ar}(b:r∉XY):d0 Y (M++[r]) XY=d0 Y M XY:=by
 unfold d0;refine yh λe c=>?_;congr 2;refine fW.mpr ?_;rw[dM,cf];exact⟨λi=>i.elim id λa=>absurd (a ▸ c) b,.inl⟩
def Pn{r:ar}{a:List ar}(b:e≠r):jq (j_ F r<|F e+1) e a=jq F e (r::a):=by
 funext f;unfold jq j_;rw[if_neg b];by_cases l:f∈a
 ·rw[aF l,aF<|.tail _ l]
 ·by_cases t:f=r
  ·rw[if_neg l,aF t,aF<|t ▸ .head _]
  ·rw[if_neg l,if_neg t,if_neg λi=>(b0.mp i).elim t l]
def UN(F:ar->Int)(e:ar):jq F e []=F:=funext λf=>if_neg hP
abbrev fw(Y:List ar)(m:ar)(M:List ar)(F:ar->Int)(a:Option ak)(b:List ar)(C Yj:Option ak):aQ:=[Z (.aE<|mt Y),Z<|.im<|af m,Z<|.aE<|cJ M F,a,Z<|a_ b,C,Yj]
theorem ui{Y:List ar}{m e:ar}{b:Option ak}:∀(XY M:List ar) (F:ar->Int) (c:List ar) (Yj:Option ak),XY.Nodup->e∈M->e∉XY->M.length+XY.length<5000->c.length+XY.length<5000->
  ∃d,dK (bH 6) rX (XY.map af) (fw Y m M F b c (Z<|.im<|af e) Yj)=Z (.bA,fw Y m (M++d0 Y M XY) (jq F e<|d0 Y M XY) b (c++d0 Y M XY) (Z<|.im<|af e) d)
 |[],M,F,c,Yj,_,_,_,_,_=>⟨Yj,by rw[show d0 Y M []=[] from rfl,bO,bO,UN];rfl⟩
 |r::XY,M,F,c,Yj,ae,h,j,n,o=>by
  have ae:=df.mp ae;rw[b6]at n o;have rB:e≠r:=λa=>j (a ▸ .head _);have g:bb (ac gr (aj 6)<|aj 0) (fw Y m M F b c (Z<|.im<|af e)<|Z<|.im<|af r)=Z (decide (r∈Y),fw Y m M F b c (Z<|.im<|af e)<|Z<|.im<|af r):=dq (c3<|Gx Y r);have k:bb (ac hb (aj 6)<|aj 2) (fw Y m M F b c (Z<|.im<|af e)<|Z<|.im<|af r)=Z (!decide (r∈M),fw Y m M F b c (Z<|.im<|af e)<|Z<|.im<|af r):=dq (c3<|WR M F r);rw[bz];by_cases l:r∈Y
  ·rw[bG l]at g;by_cases t:r∈M
   ·rw[bG t]at k;let⟨d,f⟩:=ui (Y:=Y) (m:=m) (b:=b) XY M F c (Z<|.im<|af r) ae.2 h (λi=>j<|.tail _ i) (by omega) (by omega);refine⟨d,?_⟩;rw[GJ λi=>i.2 t];refine gi (XD:=fw Y m M F b c (Z<|.im<|af e) (Z<|.im<|af r)) (X_:=fw Y m M F b c (Z<|.im<|af e) (Z<|.im<|af r)) rfl ?_ f;unfold rX;exact et (l3 g k) rfl
   ·rw[decide_eq_false t]at k;let⟨d,f⟩:=ui (Y:=Y) (m:=m) (b:=b) XY (M++[r]) (j_ F r<|F e+1) (c++[r]) (Z<|.im<|af r) ae.2 (d6 _ h) (λi=>j<|.tail _ i) (by rw[cC,e6];omega) (by rw[cC,e6];omega);rw[N8 ae.1,Pn rB,bI,bI]at f;refine⟨d,?_⟩;rw[TP l t];refine gi (XD:=fw Y m M F b c (Z<|.im<|af e) (Z<|.im<|af r)) (X_:=fw Y m (M++[r]) (j_ F r<|F e+1) b (c++[r]) (Z<|.im<|af e) (Z<|.im<|af r)) rfl ?_ f;unfold rX;have J:=RV (F:=F) t (by omega) (F e+1);refine ht (l3 g k) (bp (XD:=fw Y m (M++[r]) (j_ F r<|F e+1) b c (Z<|.im<|af e) (Z<|.im<|af r)) (mC (e1 (cO<|e1 rfl rfl rfl rfl<|QJ h) rfl rfl rfl rfl) ?_) (ir (iK rfl rfl (cZ rfl rfl) rfl rfl (TC (by omega)) rfl)));exact qA rfl rfl rfl rfl J rfl
  ·rw[decide_eq_false l]at g;let⟨d,f⟩:=ui (Y:=Y) (m:=m) (b:=b) XY M F c (Z<|.im<|af r) ae.2 h (λi=>j<|.tail _ i) (by omega) (by omega);refine⟨d,?_⟩;rw[GJ λi=>l i.1];refine gi (XD:=fw Y m M F b c (Z<|.im<|af e) (Z<|.im<|af r)) (X_:=fw Y m M F b c (Z<|.im<|af e) (Z<|.im<|af r)) rfl ?_ f;unfold rX;exact et (p9 g) rfl
theorem xg:∀{M Y:List ar},M.Nodup->(∀f∈M,f∈Y)->M.length<=Y.length
 |[],_,_,_=>e9 _
 |g::M,Y,ae,b=>by
  have ae:=df.mp ae;have c:=b g (.head _);have e:=xg (M:=M) (Y:=Y.erase g) ae.2 λf d=>(xI λa:f=g=>ae.1<|a ▸ d).mpr (b f<|.tail _ d);rw[zK c]at e;have:=uW c;rw[b6];omega
def Hw{s:List ar}(Ya:fH Y m M F s):M.length<=Y.length:=xg Ya.ae Ya.sub
theorem Js{Y:List ar}{m:ar}(h:Y.length<=1000):∀(x M:List ar) (F:ar->Int) (a:List ar) (C Yj:Option ak),a.length<=M.length->fH Y m M F (x++a)->
  ∃c U b f d,dK (bH 5) xr (x.map af) (fw Y m M F (Z .c8) a C Yj)=Z (.bA,fw Y m c U (Z .c8) b f d)/\fH Y m c U b/\c.length+a.length=M.length+b.length/\a.length<=b.length
 |[],M,F,a,C,Yj,_,Ya=>⟨M,F,a,C,Yj,rfl,Ya,by omega,bk _⟩
 |e::p,M,F,a,C,Yj,t,Ya=>by
  have g:fH Y m (M++d0 Y M (cG e)) (jq F e<|d0 Y M<|cG e) (p++a++d0 Y M (cG e)):=Ya.step;have u:=Hw Ya;let⟨d,i⟩:=ui (Y:=Y) (m:=m) (e:=e) (b:=Z .c8) (cG e) M F a Yj (qf e) (Ya.d5 e<|.head _) (I_ e) (by rw[tB];omega) (by rw[tB];omega);rw[bI]at g;let⟨c,U,b,f,j,k,l,n,q⟩:=Js h p (M++d0 Y M (cG e)) (jq F e<|d0 Y M<|cG e) (a++d0 Y M (cG e)) (Z<|.im<|af e) d (by rw[cC,cC];omega) g;rw[cC,cC]at n;rw[cC]at q;refine⟨c,U,b,f,j,?_,l,by omega,by omega⟩;rw[bz];refine gi (XD:=fw Y m M F (Z .c8) a (Z<|.im<|af e) Yj) (X_:=fw Y m (M++d0 Y M (cG e)) (jq F e<|d0 Y M<|cG e) (Z .c8) (a++d0 Y M (cG e)) (Z<|.im<|af e) d) rfl ?_ k;unfold xr;have r:bf 1 G.jT (ao (aj 5) az) (fw Y m M F (Z .c8) a (Z<|.im<|af e) Yj)=Z (a_<|cG e,fw Y m M F (Z .c8) a (Z<|.im<|af e) Yj):=dd (XU:=[.aR 5]) rfl rfl rfl (Co e) rfl;have s:cL (ab<|bf 1 G.jT<|ao (aj 5) az) (fw Y m M F (Z .c8) a (Z<|.im<|af e) Yj)=Z (((cG e).map af,V),fw Y m M F (Z .c8) a (Z<|.im<|af e) Yj):=by
   unfold cL;rw[cO r];rfl
  exact gk (o:=V) s i rfl
def R2(XO:m∈Y)(n:Y.length<=1000):∃M F,mw [.aE (mt Y),.im<|af m]=Z (.aE<|cJ M F,[.aE (mt Y),.im<|af m])/\fH Y m M F []:=by
 let⟨X0,p,M,F,e,C,Yj,rfl,Ya⟩:=ry (f:=Jv) (d:=Aj)
  (λE w=>∃M F c e C Yj,w=[Z (.aE<|mt Y),Z<|.im<|af m,Z<|.aE<|cJ M F,Z<|a_ c,e,C,Yj]/\fH Y m M F c/\2*(Y.length-M.length)+(if c=[] then 0 else 1)<=E)
  (λw=>∃M F e C Yj,w=[Z (.aE<|mt Y),Z<|.im<|af m,Z<|.aE<|cJ M F,Z<|a_ [],e,C,Yj]/\fH Y m M F [])
  (λE w d4=>by
   let⟨M,F,c,e,C,Yj,rfl,Ya,q⟩:=d4;by_cases b:c=[]
   ·subst b;exact⟨aA,_,zE rfl rfl rfl,(λi=>by cases i),λ_=>⟨M,F,e,C,Yj,rfl,Ya⟩⟩
   ·let⟨h,U,g,j,k,a,l,r,s⟩:=Js n c M F [] C Yj (e9 _) (by rw[bO];exact Ya);have t:=Hw l;rw[if_neg b]at q;rw[gs]at r;refine⟨aa,_,zE rfl rfl (by cases c with|nil=>exact absurd rfl b|cons=>rfl),λ_=>⟨.bA,[Z (.aE<|mt Y),Z<|.im<|af m,Z<|.aE<|cJ h U,Z<|a_ g,Z .c8,j,k],?_,.inl rfl,E-1,by omega,h,U,g,Z .c8,j,k,rfl,l,?_⟩,(λi=>by cases i)⟩
    ·unfold Aj;exact bp (XD:=fw Y m M F (Z<|a_ c) [] C Yj) (gj (lE rfl rfl (eH rfl) rfl) (cV rfl) rfl) (bp (XD:=fw Y m h U (Z<|a_ c) g j k) (gk (o:=Z (3,a_ c)) (XD:=fw Y m M F (Z .c8) [] C Yj) rfl a rfl) rfl)
    ·by_cases i:g=[]
     ·rw[aF i];omega
     ·rw[if_neg i];have:=rq.mpr i;omega) 1000000 (2*Y.length+1) [Z (.aE<|mt Y),Z<|.im<|af m,Z<|.aE<|cJ [m] λ_=>0,Z<|a_ [m],V,V,V] ⟨[m],λ_=>0,[m],V,V,V,rfl,fH.init XO rfl,by rw[if_neg (Dq _ _)];omega⟩ (by omega)
 refine⟨M,F,?_,Ya⟩;unfold mw Dc;refine ew (w:=[Z (.aE<|mt Y),Z<|.im<|af m,Z .c8,Z<|a_ [],e,C,Yj]) rfl ?_ rfl;exact bp (XD:=[Z (.aE<|mt Y),Z<|.im<|af m,Z<|.aE<|cJ [m] λ_=>0,V,V,V,V]) rfl (bp (XD:=[Z (.aE<|mt Y),Z<|.im<|af m,Z<|.aE<|cJ [m] λ_=>0,Z<|a_ [m],V,V,V]) (gj (lE (cZ rfl rfl) rfl (eH rfl) rfl) (cV rfl) rfl)<|bp p rfl)
def WT{J:List ar}{q:Nat}(b:J[q]?=Z e):bh (a_ J) (aB (q:Int))=Z (.im<|af e):=by
 show (ed (J.map af) (q:Int)).map ak.im=_;rw[kJ (r:=af e) (Ay q) (by rw[j5,ef,b];rfl)];rfl
def ju(M:List ar)(F:ar->Int):List ((Int×Int)×Int):=(M.map λf=>(f,F f))
def Ec(M:List ar)(F:ar->Int):lu (ju M F)=cJ M F:=by
 unfold lu ju cJ;rw[fM];rfl
abbrev dV(T:List ar)(Yd:ar->List ((Int×Int)×Int)):List (List X×X):=T.map λg=>(b4 g,X.fd<|Yd g)
theorem Fp{Yd:ar->List ((Int×Int)×Int)}:∀{T:List ar}{f:ar},f∈T->cF (dV T Yd) (b4 f)=Z (.fd<|Yd f)
 |g::T,f,b=>by
  unfold cF;show ((((b4 g,X.fd<|Yd g)::dV T Yd).find? λn=>decide (n.1=b4 f)).map (·.2))=_;rw[fT];by_cases a:g=f
  ·subst a;rw[show decide ((b4 g,X.fd<|Yd g).1=b4 g)=aa from bG rfl];rfl
  ·rw[show decide ((b4 g,X.fd<|Yd g).1=b4 f)=aA from decide_eq_false λi=>a<|oi i];exact Fp ((b0.mp b).resolve_left λi=>a i.symm)
def Jg(b:f∈T):bh (.aE<|dV T Yd) (.im<|af f)=Z (.im<|.fd<|Yd f):=by
 show (if X.keys 7 (b4 f)=aa then (cF (dV T Yd)<|b4 f).map ak.im else V)=_;rw[aF (lF f),Fp b];rfl
def yY(b:f∈M):bh (.dN<|cJ M F) (.im<|af f)=Z (aB<|F f):=by
 show (if X.keys 7 (b4 f)=aa then (cF (cJ M F)<|b4 f).map ak.im else V)=_;rw[aF (lF f),sZ b];rfl
structure rC(Y T:List ar)(Yd:ar->List ((Int×Int)×Int))(r:ar->ar->Nat):Prop where
 t:∀g∈T,∃M F,Yd g=ju M F/\fH Y g M F []/\(∀f∈Y,f∈M)/\∀f∈Y,F f=(r g f:Int)
 ds:∀g∈T,ts Y g (r g)
def Eo{F:ak->ak}{e:ak}(a:O w=Z (e,XD)):rn F O w=Z (F e,XD):=by
 unfold rn;rw[a];rfl
def Ql(a:O w=Z (.aE<|cJ M F,XD)):AU O w=Z (.im<|.fd<|ju M F,XD):=by
 have b:wH O w=Z (.dN<|cJ M F,XD):=by
  show (O w).map _=_;rw[a];rfl
 refine (Eo b).trans ?_;congr 2;show (match o1 (cJ M F) with|some E=>ak.im (.fd E)|none=>ak.dN<|cJ M F)=_;rw[<-Ec,FZ]
def G2(a:O w=Z (.im<|.fd<|ju M F,XD)):qz O w=Z (.dN<|cJ M F,XD):=by
 refine (Eo a).trans ?_;show Z (ak.dN<|lu<|ju M F,XD)=_;rw[Ec]
def wC(Ya:fH Y m M F [])(XO:m∈Y)(a:∀g∈Y,∀d∈Y,g8 Y g d):(∀f∈Y,f∈M)/\ts Y m (λf=>(F f).toNat)/\∀f∈Y,F f=((F f).toNat:Int):=by
 have all:=Ya.all (a m XO);exact⟨all,Ya.ds XO<|a m XO,λf b=>by have:=Ya.pos f (all f b);omega⟩
def UE(h:∀g∈T,g∈Y)(j:∀g∈Y,∀d∈Y,g8 Y g d){Xz:ar->List ar->(ar->Int)->Prop}(b:∀g∈T,∃M F,Xz g M F/\fH Y g M F []):
  ∃Yd r,rC Y T Yd r/\(∀g∈T,∃M F,Yd g=ju M F/\Xz g M F)/\∀g d v,nP Y g d v->r g d<=v:=by
 classical
 have ah:∀g,∃n:List ar×(ar->Int),g∈T->Xz g n.1 n.2/\fH Y g n.1 n.2 []:=λg=>by
  by_cases c:g∈T
  ·let⟨M,F,l,t⟩:=b g c;exact⟨(M,F),λ_=>⟨l,t⟩⟩
  ·exact⟨([],λ_=>0),λi=>absurd i c⟩
 refine⟨λg=>ju (ah g).choose.1 (ah g).choose.2,λg f=>if g∈T then ((ah g).choose.2 f).toNat else 0,⟨λg c=>?_,λg c=>?_⟩,λg c=>⟨_,_,rfl,((ah g).choose_spec c).1⟩,λg d v H=>?_⟩
 ·have Ya:=((ah g).choose_spec c).2;let⟨k,e,m⟩:=wC Ya (h g c) j;exact⟨_,_,rfl,Ya,k,λf o=>by rw[aF c];exact m f o⟩
 ·have Ya:=((ah g).choose_spec c).2;let⟨k,e,m⟩:=wC Ya (h g c) j;have a:(λf=>if g∈T then ((ah g).choose.2 f).toNat else 0)=λf=>((ah g).choose.2 f).toNat:=funext λf=>aF c;rw[a];exact e
 ·by_cases c:g∈T
  ·have Ya:=((ah g).choose_spec c).2;let⟨k,e,m⟩:=wC Ya (h g c) j;show (if g∈T then ((ah g).choose.2 d).toNat else 0)<=v;rw[aF c];exact e.le d v H
  ·show (if g∈T then ((ah g).choose.2 d).toNat else 0)<=v;rw[if_neg c];exact e9 _
theorem KD{Y:List ar}{c:Option ak}{Yd:ar->List ((Int×Int)×Int)}:∀(e T:List ar) (h:Option ak),(T++e).Nodup->(T++e).length<1000->
  (∀g∈e,∃M F,Yd g=ju M F/\mw [.aE (mt Y),.im<|af g]=Z (.aE<|cJ M F,[.aE (mt Y),.im<|af g]))->
  ∃j,dK (bH 3) AY (e.map af) [Z (.aE<|mt Y),c,Z<|.aE<|dV T Yd,h]=Z (.bA,[Z (.aE<|mt Y),c,Z<|.aE<|dV (T++e) Yd,j])
 |[],T,h,_,_,_=>⟨h,by rw[bO];rfl⟩
 |g::e,T,h,ae,k,b=>by
  have m:g∉T:=λi=>(cH.mp ae).2.2 g i g (.head _) rfl;let⟨M,F,o,p⟩:=b g (.head _);let⟨j,l⟩:=KD (Y:=Y) (c:=c) (Yd:=Yd) e (T++[g]) (Z<|.im<|af g) (by rw[bI];exact ae) (by rw[bI];exact k) λd q=>b d (.tail _ q);rw[bI]at l;refine⟨j,?_⟩;rw[bz];refine gi (XD:=[Z (.aE<|mt Y),c,Z<|.aE<|dV T Yd,Z<|.im<|af g]) (X_:=[Z (.aE<|mt Y),c,Z<|.aE<|dV (T++[g]) Yd,Z<|.im<|af g]) rfl ?_ l;have J:hG (.aE<|dV T Yd) (.im<|af g) (.im<|.fd<|Yd g)=Z (.aE<|dV (T++[g]) Yd):=by
   have a:ei (dV T Yd) (b4 g) (.fd<|Yd g)=dV (T++[g]) Yd:=by
    unfold ei;rw[if_neg]
    ·show _=(T++[g]).map _;rw[fq];rfl
    ·rw[mQ];rintro⟨n,r,i⟩;let⟨f,s,rfl⟩:=cX.mp r;exact m (oi (e_ i) ▸ s)
   rw[<-a];exact aF ⟨rfl,by rw[cC]at k;show (T.map _).length<_;rw[a6];omega⟩
  unfold AY;have t:bf 2 G.mw (ao (aj 0)<|ao (aj 3) az) [Z (.aE<|mt Y),c,Z<|.aE<|dV T Yd,Z<|.im<|af g]=Z (.aE<|cJ M F,[Z (.aE<|mt Y),c,Z<|.aE<|dV T Yd,Z<|.im<|af g]):=dd (XU:=[.aR 0,.aR 3]) rfl rfl rfl p rfl;refine mC (Ql t) ?_;rw[<-o];exact qA rfl rfl rfl rfl J rfl
def QY(a:T.Nodup)(c:T.length<1000)(b:∀g∈T,∃M F,Yd g=ju M F/\mw [.aE (mt Y),.im<|af g]=Z (.aE<|cJ M F,[.aE (mt Y),.im<|af g])):
  sz [.aE (mt Y),a7 T]=Z (.aE<|dV T Yd,[.aE (mt Y),a7 T]):=by
 let⟨d,e⟩:=KD (Y:=Y) (c:=Z (a7 T)) (Yd:=Yd) T [] V a c b;unfold sz I8;exact ew (w:=[Z (.aE<|mt Y),Z<|a7 T,Z .c8,d]) rfl (bp (XD:=[Z (.aE<|mt Y),Z<|a7 T,Z<|.aE [],V]) rfl<|bp (gk (o:=V) (x:=T.map af) rfl e rfl) rfl) rfl
open Tj (mp rm fo mn)
def Ij(f r:ar):gd (.im<|af f) (.im<|af r)=Z (.im<|.aH<|!decide (f=r)):=Ue f r
def Ts(e:g∉p)(k:p.length<1000):pH [a7 (g::p),.im<|af g,.im<|af d]=Z (a7<|rm d p,[a7 (g::p),.im<|af g,.im<|af d]):=by
 have c1:d2 1 [1,2] (cL<|aj 0) (bH 0) G.AR G.F1 [Z (a7 (g::p)),Z<|.im<|af g,Z<|.im<|af d]=Z (a_<|(g::p).filter λf=>!decide (f=g) && !decide (f=d),[Z (a7 (g::p)),Z<|.im<|af g,Z<|.im<|af d]):=by
  refine jM (x:=(g::p).map af) (o:=V) (XD:=[Z (a7 (g::p)),Z<|.im<|af g,Z<|.im<|af d]) rfl (ku af (λf=>!decide (f=g) && !decide (f=d)) af _ [] (λf Y=>?_) (by rw[b6,gs];omega)) rfl;refine⟨[Z (.im<|af f),Z<|.im<|af g,Z<|.im<|af d],[Z (.im<|af f),Z<|.im<|af g,Z<|.im<|af d],rfl,?_,λ_=>rfl,λ_=>⟨[Z (.im<|af f),Z<|.im<|af g,Z<|.im<|af d],rfl,rfl⟩⟩;have c:bb (ac gd (aj 0)<|aj 1) [Z (.im<|af f),Z<|.im<|af g,Z<|.im<|af d]=Z (!decide (f=g),[Z (.im<|af f),Z<|.im<|af g,Z<|.im<|af d]):=dq (c3<|Ij f g);have h:bb (ac gd (aj 0)<|aj 2) [Z (.im<|af f),Z<|.im<|af g,Z<|.im<|af d]=Z (!decide (f=d),[Z (.im<|af f),Z<|.im<|af g,Z<|.im<|af d]):=dq (c3<|Ij f d);unfold AR;cases b:decide (f=g) with
  |true=>rw[b]at c;exact p9 c
  |false=>rw[b]at c;exact l3 c h
 have a:((g::p).filter λf=>!decide (f=g) && !decide (f=d))=rm d p:=by
  rw[mV (by rw[bG rfl];exact cB)];unfold rm;refine yh λf j=>?_;rw[decide_eq_false λi:f=g=>e<|i ▸ j];by_cases i:f=d
  ·rw[bG i,decide_eq_false λH=>H i];rfl
  ·rw[decide_eq_false i,bG i];rfl
 rw[a]at c1;unfold pH Hs;exact ew (w:=[Z (a7 (g::p)),Z<|.im<|af g,Z<|.im<|af d]) rfl (fz<|dz (bS (aS c1) rfl) rfl rfl) rfl
def f3(f:Nat)(XF:List a0):X:=(.tup [.int (f:Int),.tup<|XF.map bT])
structure jA(r:ar->ar->Nat)(c:List ar)(j:List (List X×X)):Prop where
 ok:∀K5∈j,∃T XF,T.Sublist c/\K5=(T.map af,f3 (dO r T) XF)/\gx r T XF
 ae:(j.map (·.1)).Nodup
def PN{XC:List ar}(b:XC.map af=T.map af):XC=T:=by
 have:=congrArg (List.map hi) b;rw[fM,fM]at this;have a:(hi ∘ af:ar->ar)=id:=funext λf=>rfl
 rwa [a,pV,pV]at this
def jA.len(U:jA r c j):j.length<=2^c.length:=by
 have b:=zt c (j.map λd=>d.1.map hi) (by
  have v:=mg.mp U.ae;refine mg.mpr (uw (λ{e A} h i ne a=>ne ?_) v);let⟨XC,Y,Y,g,Y⟩:=U.ok e h;let⟨T,Y,Y,k,Y⟩:=U.ok A i;rw[g,k]at a ⊢;have f:∀J:List ar,(J.map af).map hi=J:=λJ=>by
   rw[fM];have a:(hi ∘ af:ar->ar)=id:=funext λf=>rfl;rw[a,pV]
  have a:(XC.map af).map hi=(T.map af).map hi:=a;rw[f,f]at a;show XC.map af=T.map af;rw[a]) λC bV=>by
   let⟨d,l,rfl⟩:=cX.mp bV;let⟨XC,Y,m,g,Y⟩:=U.ok d l;rw[g];have f:(XC.map af).map hi=XC:=by
    rw[fM];have a:(hi ∘ af:ar->ar)=id:=funext λf=>rfl;rw[a,pV]
   show ((XC.map af).map hi).Sublist c;rw[f];exact m
 rwa [a6]at b
theorem tY:∀T:List ar,X.keys 7 (T.map af)=aa
 |[]=>rfl
 |f::T=>by rw[bz,X.keys,tY T];rfl
theorem Oo(b:(g::p).Sublist c):(rm d p).Sublist c:=(IX.trans<|List.sublist_cons_self g p).trans b
abbrev nv(L c:List ar)(Yd:ar->List ((Int×Int)×Int))(T:List ar)(j:List (List X×X)):aQ:=[Z (.aE<|dV c Yd),Z<|a7 T,Z<|.aE j]
def hX(r:ar->ar->Nat)(c:List ar)(Yd:ar->List ((Int×Int)×Int))(N:cW)(T:List ar):Prop:=(
 ∀j,jA r c j->∃XF a,N [.aE (dV c Yd),a7 T,.aE j]=Z (.im<|f3 (dO r T) XF,[.aE (dV c Yd),a7 T,.aE a])/\jA r c a/\gx r T XF)
def VV{b:cW}(L:rC Y c Yd r)(i:∀e∈c,e∈Y)(XO:(g::p).Sublist c)(ae:(g::p).Nodup)(H:p.length<100)(n:d∈p)(U:jA r c j)(o:hX r c Yd b (rm d p)):
  ∃XF a,tf b [.aE (dV c Yd),a7 (g::p),.im<|af d,.aE j]=Z (.im<|f3 (r g d+dO r (rm d p)) ((g,d)::XF),[.aE (dV c Yd),a7 (g::p),.im<|af d,.aE a])/\jA r c a/\gx r (rm d p) XF:=by
 have ae:=df.mp ae;have k:g∈c:=XO.subset (.head _);have l:d∈c:=XO.subset (.tail _ n);let⟨XF,a,q,s,m⟩:=o j U;let⟨M,F,u,Ya,v,x⟩:=L.t g k;refine⟨XF,a,?_,s,m⟩;have f:bh (a7 (g::p)) (aB 0)=Z (.im<|af g):=by
  show (ed ((g::p).map af) 0).map ak.im=_;rw[kJ (r:=af g) (iJ 0) rfl];rfl
 let h:aQ:=[Z (.aE<|dV c Yd),Z<|a7 (g::p),Z<|.im<|af d,Z<|.aE j,V]
 let XD:aQ:=[Z (.aE<|dV c Yd),Z<|a7 (g::p),Z<|.im<|af d,Z<|.aE a,Z<|.im<|f3 (dO r<|rm d p) XF]
 have cc:bf 3 G.pH (ao (aj 1)<|ao (ab<|ac bh (aj 1)<|ab<|av<|.int 0)<|ao (aj 2) az) h=Z (a7<|rm d p,h):=dd (XU:=[.aR 1,.bY<|.im<|af g,.aR 2]) (bS rfl<|bS (aS<|c3 f) rfl) rfl rfl (Ts ae.1 (by omega)) rfl;have y:bW 4 (bf 3 b<|ao (aj 0)<|ao (ab<|bf 3 G.pH<|ao (aj 1)<|ao (ab<|ac bh (aj 1)<|ab<|av<|.int 0)<|ao (aj 2) az)<|ao (aj 3) az) h=Z (.bA,XD):=gj (dd (XU:=[.aR 0,.bY<|a7<|rm d p,.aR 3]) (cZ rfl<|cZ (cO cc) rfl) rfl rfl q rfl) (cV rfl) rfl;have z:qz (ac bh (aj 0)<|ab<|ac bh (aj 1)<|ab<|av<|.int 0) XD=Z (.dN<|cJ M F,XD):=G2 (by rw[<-u];exact e1 rfl (cO<|e1 rfl rfl rfl rfl f) rfl rfl (Jg k));have ad:cj (aB<|F d) (aB ((dO r (rm d p):Nat):Int))=Z (aB ((r g d+dO r (rm d p):Nat):Int)):=by
  show Z (aB<|F d+((dO r (rm d p):Nat):Int))=_;rw[x d (i d l),<-H0]
 have A:bh (.im<|f3 (dO r<|rm d p) XF) (aB 0)=Z (aB ((dO r (rm d p):Nat):Int)):=rfl;have B:bh (.im<|f3 (dO r<|rm d p) XF) (aB 1)=Z (fX XF):=rfl;have I:(rm d p).length<=p.length:=s7 _ _;have J:=m.len;have E:cj (fX [(g,d)]) (fX XF)=Z (fX ((g,d)::XF)):=Vo (by rw[e6];omega);unfold tf JE;refine ew (w:=XD) rfl (bp y<|fz ?_) rfl;refine jN (D:=[aB ((r g d+dO r (rm d p):Nat):Int),fX ((g,d)::XF)]) (XU:=[.bY (aB ((r g d+dO r (rm d p):Nat):Int)),.bY<|fX ((g,d)::XF)]) (bS (aS<|bF (aS<|bF (aS z) rfl rfl rfl<|yY<|v d<|i d l) (aS<|c3 A) rfl rfl ad)<|bS (aS<|bF (aS<|jN (bS (aS<|jN (bS (aS<|c3 f)<|bS rfl rfl) rfl (eH rfl) rfl) rfl) rfl (eH rfl) rfl) (aS<|c3 B) rfl rfl E) rfl) rfl (eH rfl) rfl
open Tj (mp rm fo mn)
def L0{Xy:List (List X×X)}{q:List X}{u:X}(b:cF Xy q=Z u):(q,u)∈Xy:=by
 unfold cF at b;let⟨n,l,t⟩:=b5.mp b;have c:=Hp l;have d:=J_ l;have a:n=(q,u):=lz (e_ c) t;exact a ▸ d
theorem Dz{q:List X}{r:X}:∀{Xy:List (List X×X)},(Xy.any λn=>decide (n.1=q))=aa->cF (Xy.map λc=>if c.1=q then (c.1,r) else c) q=Z r
 |n::p,b=>by
  unfold cF;rw[bz,fT];by_cases a:n.1=q
  ·rw[aF a,show decide ((n.1,r).1=q)=aa from bG a];rfl
  ·rw[if_neg a,decide_eq_false a];rw[i8,decide_eq_false a,tm]at b;exact Dz b
theorem Ha{q:List X}{r:X}:∀{Xy:List (List X×X)},¬ (Xy.any λn=>decide (n.1=q))=aa->cF (Xy++[(q,r)]) q=Z r
 |[],_=>by
  show Option.map _ (List.find? _ [(q,r)])=_;rw[fT,show decide ((q,r).1=q)=aa from bG rfl];rfl
 |n::p,b=>by
  unfold cF;rw[i8]at b;have a:¬ n.1=q:=λi=>b (by rw[bG i];rfl);rw[qs,fT,decide_eq_false a];exact Ha λi=>b (by rw[i,Bool.or_true])
def UD(Xy:List (List X×X))(q:List X)(r:X):cF (ei Xy q r) q=Z r:=by
 unfold ei;split
 ·rename_i b;exact Dz b
 ·rename_i b;exact Ha b
def jA.put(U:jA r c j)(XO:T.Sublist c)(h:gx r T XF):jA r c (ei j (T.map af)<|f3 (dO r T) XF):=by
 unfold ei;split
 ·refine⟨λd f=>?_,?_⟩
  ·let⟨e,g,rfl⟩:=cX.mp f;split
   ·rename_i a;exact⟨T,XF,XO,by rw[a],h⟩
   ·exact U.ok e g
  ·have a:((j.map λd=>if d.1=T.map af then (d.1,f3 (dO r T) XF) else d).map (·.1))=j.map (·.1):=by
    rw[fM];refine hx λe Y=>?_;show (if e.1=T.map af then (e.1,f3 (dO r T) XF) else e).1=e.1;split<;>rfl
   rw[a];exact U.ae
 ·rename_i b;refine⟨λd f=>?_,?_⟩
  ·rcases dM.mp f with i|i
   ·exact U.ok d i
   ·exact⟨T,XF,XO,cf.mp i,h⟩
  ·rw[fq];refine cH.mpr ⟨U.ae,es _ _,λe g A k a=>b ?_⟩;let⟨n,l,rfl⟩:=cX.mp g;rw[List.map_singleton,cf]at k;rw[mQ];exact⟨n,l,bG<|a.trans k⟩
def fP(r:ar->ar->Nat)(g:ar)(p:List ar)(e:ar×List a0):X:=(f3 (r g e.1+dO r (rm e.1 p)) ((g,e.1)::e.2))
theorem vC{Y c:List ar}{Yd:ar->List ((Int×Int)×Int)}{r:ar->ar->Nat}{h:cW}{g:ar}{p:List ar}(L:rC Y c Yd r)(n:∀e∈c,e∈Y)(XO:(g::p).Sublist c)(ae:(g::p).Nodup)(o:p.length<100)(q:∀d∈p,hX r c Yd h<|rm d p):
  ∀(bs:List ar) (b:List X) (j:List (List X×X)),(∀d∈bs,d∈p)->b.length+bs.length<1000->jA r c j->
   ∃(XQ:List (ar×List a0)) (i:List (List X×X)),gv 1 (bH 0) gW (G.nW h) (bs.map af) b [Z (.aE<|dV c Yd),Z<|a7 (g::p),Z<|.aE j]=Z (b++XQ.map (fP r g p),[Z (.aE<|dV c Yd),Z<|a7 (g::p),Z<|.aE i])/\
    jA r c i/\XQ.map (·.1)=bs/\∀e∈XQ,gx r (rm e.1 p) e.2
 |[],b,j,_,_,U=>⟨[],j,(by show _=Z (b++[],_);rw[bO];rfl),U,rfl,λe k=>by cases k⟩
 |d::bs,b,j,l,t,U=>by
  rw[b6]at t;let⟨XF,m,u,v,w⟩:=VV L n XO ae o (l d<|.head _) U (q d<|l d<|.head _);let⟨XQ,i,x,y,z,A⟩:=vC L n XO ae o q bs (b++[fP r g p (d,XF)]) m (λf B=>l f<|.tail _ B) (by rw[cC,e6];omega) v;refine⟨(d,XF)::XQ,i,?_,y,by rw[bz,z],λe k=>(b0.mp k).elim (λa=>a ▸ w)<|A e⟩;have C:G.nW h [Z (.im<|af d),Z<|.aE<|dV c Yd,Z<|a7 (g::p),Z<|.aE j]=Z (.im<|fP r g p (d,XF),[Z (.im<|af d),Z<|.aE<|dV c Yd,Z<|a7 (g::p),Z<|.aE m]):=dd (XU:=[.aR 1,.aR 2,.aR 0,.aR 3]) rfl rfl rfl u rfl;rw[bz];show ((G.nW h [Z (.im<|af d),Z<|.aE<|dV c Yd,Z<|a7 (g::p),Z<|.aE j]).bind λs=>match s.1 with
   |.im r=>if b.length<100000 then gv 1 (bH 0) gW (G.nW h) (bs.map af) (b++[r]) (s.2.drop 1) else V
   |_=>V)=_;rw[C];show (if b.length<100000 then gv 1 (bH 0) gW (G.nW h) (bs.map af) (b++[fP r g p (d,XF)]) [Z (.aE<|dV c Yd),Z<|a7 (g::p),Z<|.aE m] else V)=_;rw[aF (by omega),x,bz,bI];rfl
theorem rM:∀(v:Nat) (J:List a0),X.ct (v+3) (J.map bT)=aa
 |_,[]=>rfl
 |v,a::J=>by
  rw[bz,X.ct,rM v J];rfl
theorem Ib:∀(J E:List a0),fv 4 (J.map bT) (E.map bT)=aa
 |[],[]=>rfl
 |g::J,[]=>rM 1 (g::J)
 |[],d::E=>rM 1 (d::E)
 |g::J,d::E=>by
  rw[bz,bz,fv,Ib J E];rfl
def Uh{h k:Nat}{d5:List a0}(b:h<k):a3 (f3 h XF) (f3 k d5)=aa:=by
 show (if X.beq (.int (h:Int)) (.int (k:Int))=aa then _ else decide ((h:Int)<(k:Int)))=aa;rw[if_neg (by rw[X.beq_iff];intro i;injection i with i;omega)];exact bG (by omega)
def LC{XQ:List (ar×List a0)}(ae:p.Nodup)(C:p.length<60)(u:p≠[])(l:XQ.map (·.1)=p)(t:∀e∈XQ,gx r (rm e.1 p) e.2):
  ∃XF,u6 [.lst (XQ.map<|fP r g p)]=Z (.im<|f3 (dO r (g::p)) XF)/\gx r (g::p) XF:=by
 have v:XQ.length=p.length:=by rw[<-l,a6]
 have inj:∀e∈XQ,∀A∈XQ,fP r g p e=fP r g p A->e.1=A.1:=λe Y A Y a=>by
  unfold fP f3 at a;injection a with a;have h:=(List.cons.inj (List.cons.inj a).2).1;injection h with h;have w:=(List.cons.inj h).1;exact (Prod.mk.inj<|vc w).2
 have D:XQ.Nodup:=by
  have:=l ▸ ae;exact (mg.mp this).imp λb a=>b (by rw[a])
 have x:(XQ.map<|fP r g p).Nodup:=by
  have y:(XQ.map (·.1)).Nodup:=l ▸ ae;exact mg.mpr (uw (λ{e A} c d b a=>b<|inj e c A d a)<|mg.mp y)
 have lk:∀e∈XQ.map (fP r g p),∀A∈XQ.map (fP r g p),eg 6 e A=aa:=λe c A d=>by
  let⟨n,Y,rfl⟩:=cX.mp c;let⟨s,Y,rfl⟩:=cX.mp d;show (aa&&(fv 4 (((g,n.1)::n.2).map bT) (((g,s.1)::s.2).map bT)&&aa))=aa;rw[Ib];rfl
 have o:nF (XQ.map<|fP r g p)=aa:=nV.mpr ⟨⟨by rw[a6];omega,lk,x⟩,.inl λe c=>by
  let⟨n,Y,rfl⟩:=cX.mp c;rfl⟩
 have X5:=i4 (XQ.map<|fP r g p);have j:=ur lk;have XO:fU a3 (XQ.map<|fP r g p)≠[]:=λi=>by
  rw[i]at X5;have:=X5.length_eq;rw[a6,v]at this;exact u (Kx.mp this.symm)
 let⟨E,cR,k⟩:=sE XO;rw[k]at X5 j;let⟨e,c,Yp⟩:=cX.mp (X5.mem_iff.mp<|List.Mem.head _);have z:e.1∈p:=by rw[<-l];exact cX.mpr ⟨e,c,rfl⟩
 have m:=gx.cons (r:=r) (g:=g) ae z (t e c) λf q=>by
  rw[<-l]at q;let⟨A,d,rfl⟩:=cX.mp q;refine AQ λi=>?_;have J:=Uh (XF:=(g,A.1)::A.2) (d5:=(g,e.1)::e.2) i;have B:fP r g p A∈E::cR:=X5.mem_iff.mpr (cX.mpr ⟨A,d,rfl⟩);rcases b0.mp B with a|b
  ·rw[<-Yp]at a;have:=inj A d e c a;rw[this]at i;exact gN _ i
  ·have:=(hv.mp j).1 _ b;rw[<-Yp]at this;rw[show a3 (fP r g p A) (fP r g p e)=aa from J]at this;cases this
 refine⟨(g,e.1)::e.2,?_,m⟩;show (if nF (XQ.map<|fP r g p)=aa then (fU a3<|XQ.map<|fP r g p).head?.map ak.im else V)=_;rw[aF o,k,<-Yp];show Z (ak.im<|fP r g p e)=_;unfold fP;have a:r g e.1+dO r (rm e.1 p)=dO r (g::p):=by
  rw[<-m.cost,bz,hg,(t e c).cost]
 rw[a]
theorem IG{Y c:List ar}{Yd:ar->List ((Int×Int)×Int)}{r:ar->ar->Nat}(L:rC Y c Yd r)(t:∀e∈c,e∈Y)(v:c.length<=16):∀(q:Nat) (T:List ar),T.Sublist c->T.Nodup->T.length%2=0->T.length<=2*q->hX r c Yd (i1<|q+1) T
 |q,[],_,_,_,_=>λj U=>⟨[],j,by
   show dp 3 3 [0,1,2] (oa<|i1 q) _=_;unfold oa;exact ew (w:=nv [] c Yd [] j) rfl (yz<|ht (XD:=nv [] c Yd [] j) rfl rfl) rfl,U,gx.nil r⟩
 |0,g::p,_,_,_,b=>absurd b (by rw[b6];omega)
 |q+1,g::p,XO,ae,x,B=>λj U=>by
  rw[b6]at x B;have l:=XO.length_le;rw[b6]at l;have o:=df.mp ae;have C:p≠[]:=λi=>by rw[i,gs]at x;omega
  have P:=U.len;have Q:2^c.length<=2^16:=I4 ∅ v;have R:(2:Nat)^16=65536:=by decide
  have D:∀d∈p,hX r c Yd (i1<|q+1) (rm d p):=λd s=>by
   have:=Tj.B3 o.2 s;exact IG L t v q (rm d p) (Oo XO) (Tj.zx o.2) (by omega) (by omega)
  let w (j:List (List X×X)):aQ:=nv [] c Yd (g::p) j
  have E:dI [a7 (g::p)]=Z (aB ((g::p).length:Int)):=by
   show Z (aB (((g::p).map af).length:Int))=_;rw[a6]
  have h:bb (ac c_ (ab<|bQ dI<|ao (aj 1) az)<|ab<|av<|.int 0) (w j)=Z (aA,w j):=dq (bF (aS<|dz (bS rfl rfl) rfl E) rfl rfl rfl ((ik _ _).trans (by rw[decide_eq_false (by rw[b6];omega)])));have k:bb (ac hb (aj 1)<|aj 2) (w j)=Z (!(cF j<|(g::p).map af).isSome,w j):=dq (bF rfl rfl rfl rfl (by
   show (f5 (.tup<|(g::p).map af)<|.aE j).map (λp=>ak.im<|.aH<|!p)=_;rw[Hv,aF<|tY _];rfl))
  have ret:∀{j:List (List X×X)}{u:X},cF j ((g::p).map af)=Z u->ac bh (aj 2) (aj 1) (w j)=Z (.im u,w j):=λ{j u} b=>bF rfl rfl rfl rfl (by
   show (if X.keys 7 ((g::p).map af)=aa then (cF j<|(g::p).map af).map ak.im else V)=_;rw[aF (tY _),b];rfl)
  cases m:cF j ((g::p).map af) with
  |some u=>
   rw[m]at k;let⟨F,XF,XM,a,n⟩:=U.ok _ (L0 m);have y:g::p=F:=PN (Prod.mk.inj a).1;have gn:u=f3 (dO r (g::p)) XF:=by rw[y];exact (Prod.mk.inj a).2
   refine⟨XF,j,?_,U,y ▸ n⟩;rw[<-gn];show dp 3 3 [0,1,2] (oa<|i1<|q+1) _=_;unfold oa;exact ew (w:=w j) rfl (bp (et h rfl)<|bp (et k rfl)<|fz<|ret m) rfl
  |none=>
   rw[m]at k;let⟨XQ,f,z,A,H,I⟩:=vC L t XO ae (by omega) D p [] j (λd s=>s) (by rw[gs];omega) U;let⟨XF,M,n⟩:=LC (g:=g) o.2 (by omega) C H I;refine⟨XF,ei f ((g::p).map af)<|f3 (dO r (g::p)) XF,?_,A.put XO n,n⟩;have S:=A.len;have N:ni (a7 (g::p)) (Z 1) V=Z (a7 p):=by
    show Z (ak.im<|.tup<|g_ ((g::p).map af) (Z 1) V)=_;have h:g_ ((g::p).map af) (Z 1) V=((g::p).drop 1).map af:=(FG _ _ _ _).trans (by rw[show (1:Int)=((1:Nat):Int) from rfl,Qt]);rw[h];rfl
   have O:cL (ab<|kp (aj 1) (oL<|av<|.int 1) m6) (w j)=Z ((p.map af,V),w j):=by
    unfold cL;rw[aS (IM (e:=.aR 1) rfl rfl rfl rfl N)];rfl
   have c1:d2 1 [0,1,2] (cL<|ab<|kp (aj 1) (oL<|av<|.int 1) m6) (bH 0) gW (G.nW<|i1<|q+1) (w j)=Z (.lst<|XQ.map<|fP r g p,w f):=jM O (by rw[jU]at z;exact z) rfl;have J:hG (.aE f) (a7 (g::p)) (.im<|f3 (dO r (g::p)) XF)=Z (.aE<|ei f ((g::p).map af)<|f3 (dO r (g::p)) XF):=aF ⟨tY _,by omega⟩;show dp 3 3 [0,1,2] (oa<|i1<|q+1) _=_;unfold oa;refine ew (w:=w (ei f ((g::p).map af)<|f3 (dO r (g::p)) XF)) rfl (bp (et h rfl)<|bp (ht k<|mC (n9 (cZ (cO c1) rfl) rfl M) ?_)<|fz<|ret<|UD _ _ _) rfl;exact qA rfl rfl rfl rfl J rfl
def KY(f:ar):(cF (cJ M F)<|b4 f).getD .aK=if f∈M then .int (F f) else .aK:=by
 by_cases b:f∈M
 ·rw[sZ b,aF b];rfl
 ·rw[if_neg b];have:cF (cJ M F) (b4 f)=V:=by
   have a:(cF (cJ M F)<|b4 f).isSome=aA:=by rw[vm,xc,decide_eq_false b]
   cases i:cF (cJ M F) (b4 f) with
   |none=>rfl
   |some u=>rw[i]at a;cases a
  rw[this];rfl
def Ua(d:Bool)(h k:Int):c_ (.im<|if d=aa then .int h else .aK) (aB k)=Z (.im<|.aH<|d&&decide (h=k)):=by
 cases d with
 |true=>exact ik h k
 |false=>rfl
structure Cr(Y:List ar)(g d:ar)(F:ar->Int)(D:ar)(N:List a0):Prop where
 c:D∈Y
 len:(N.length:Int)+F D=F d
 sub:∀a∈N,a∈cD Y
 odd:∀e,cM N e%2=c4 e [D,d]%2
abbrev hQ(M:List ar)(F:ar->Int)(D:ar)(N:List a0)(a:Option ak):aQ:=[Z (.dN<|cJ M F),Z<|.im<|af D,Z<|c9 N,a]
def Wv{b:ar}(N:List a0)(e:ar):cM (N++[gf f b]) e=cM N e+((if f=e then 1 else 0)+if b=e then 1 else 0):=by
 rw[xA];congr 1;have Ym:cM [gf f b] e=((if (gf f b).1=e then 1 else 0)+if (gf f b).2=e then 1 else 0)+0:=rfl;rw[Ym,BI];by_cases l:ec f b=aa
 ·rw[GN l]
 ·by_cases t:ec b f=aa
  ·rw[Gd t,pD]
  ·have a:=Dg l t;have c:gf f b=(f,b):=by
    unfold gf;rw[if_neg (show ¬ a3 (af b) (af f)=aa from t),if_neg<|show ¬ a3 (af f) (af b)=aa from l,a]
   rw[c]
def Ox(Ya:fH Y g M F [])(all:∀f∈Y,f∈M)(v:d∈Y)(O:Y.length<=1000)(P:F d<=1000):
  ∃N,qr [.dN (cJ M F),.im<|af d]=Z (c9 N,[.dN (cJ M F),.im<|af d])/\(∀a∈N,a∈cD Y)/\(∀e,cM N e%2=c4 e [g,d]%2)/\(N.length:Int)=F d:=by
 let⟨X0,y,D,N,j,rfl,XQ,YL⟩:=ry (f:=Bd) (d:=Ah)
  (λE w=>∃D N j,w=hQ M F D N j/\Cr Y g d F D N/\(F D).toNat<=E)
  (λw=>∃D N j,w=hQ M F D N j/\Cr Y g d F D N/\F D=0)
  (λE w d4=>by
   let⟨D,N,j,rfl,XQ,Q⟩:=d4;have k:=all D XQ.c;have XP:=Ya.pos D k;have m:Bd (hQ M F D N j)=Z (decide (F D>0),hQ M F D N j):=dq (bF (aS<|c3<|yY k) rfl rfl rfl rfl);by_cases b:F D>0
   ·rw[bG b]at m;let XI:ar->Bool:=λe=>decide (e∈M)&&decide (F e=F D-1)
    have c1:d2 1 [0,1] (cL<|ab<|bf 1 G.jT<|ao (aj 1) az) (bH 0) G.GU G.Kq (hQ M F D N j)=Z (a_<|(cG D).filter XI,hQ M F D N j):=by
     have z:bf 1 G.jT (ao (aj 1) az) (hQ M F D N j)=Z (a_<|cG D,hQ M F D N j):=dd (XU:=[.aR 1]) rfl rfl rfl (Co D) rfl;have A:cL (ab<|bf 1 G.jT<|ao (aj 1) az) (hQ M F D N j)=Z (((cG D).map af,V),hQ M F D N j):=by
      unfold cL;rw[cO z];rfl
     refine jM (x:=(cG D).map af) (o:=V) A (ku af XI af _ [] (λe W=>?_) (by rw[tB];decide)) rfl;refine⟨[Z (.im<|af e),Z<|.dN<|cJ M F,Z<|.im<|af D],[Z (.im<|af e),Z<|.dN<|cJ M F,Z<|.im<|af D],rfl,?_,λ_=>rfl,λ_=>⟨[Z (.im<|af e),Z<|.dN<|cJ M F,Z<|.im<|af D],rfl,rfl⟩⟩;have B:tS 1 (dQ 0) [Z (.im<|af e),Z<|.dN<|cJ M F,Z<|.im<|af D]=Z (.im<|if decide (e∈M)=aa then .int (F e) else .aK,[Z (.im<|af e),Z<|.dN<|cJ M F,Z<|.im<|af D]):=by
      show (if X.keys 7 (b4 e)=aa then Z (ak.im<|(cF (cJ M F)<|b4 e).getD .aK,_) else V)=_;rw[aF (lF e),KY];by_cases i:e∈M
      ·rw[aF i,aF<|bG i]
      ·rw[if_neg i,if_neg (by rw[decide_eq_false i];exact cB)]
     exact dq (bF (aS B) (aS<|bF (aS<|c3<|yY k) rfl rfl rfl rfl) rfl rfl<|Ua (decide (e∈M)) (F e)<|F D-1)
    have ne:(cG D).filter XI≠[]:=λi=>by
     rcases Ya.back D k with a|⟨r,hd,l,t⟩
     ·rw[a,Ya.f0]at b;exact absurd b ∅
     ·have:r∈(cG D).filter XI:=gD.mpr ⟨lQ l,by show (decide (r∈M)&&decide (F r=F D-1))=aa;rw[bG hd,bG (by omega)];rfl⟩;rw[i]at this;cases this
    let⟨h,cR,p⟩:=sE ne;let⟨C,s⟩:=gD.mp (show h∈(cG D).filter XI by rw[p];exact .head _);rw[cq,ek,ek]at s;have u:=Ya.sub h s.1;have H:bh (a_<|(cG D).filter XI) (aB 0)=Z (.im<|af h):=by
     rw[p];exact WT (q:=0) rfl
    refine⟨aa,_,m,λ_=>⟨.bA,hQ M F h (N++[gf D h])<|Z<|.im<|af h,?_,.inl rfl,E-1,by omega,h,N++[gf D h],Z<|.im<|af h,rfl,⟨u,?_,λa n=>?_,λe=>?_⟩,by omega⟩,(λi=>by cases i)⟩
    ·unfold Ah;have I:eW (c9 N) [.im (bT<|gf D h)]=Z (.im .aK,c9<|N++[gf D h]):=by
      have J:N.length<100000:=by have:=XQ.len;omega
      have:eW (c9 N) [.im (bT<|gf D h)]=Z (.im .aK,.lst<|N.map bT++[bT (gf D h)]):=la (by rw[a6];exact J);rw[this];unfold c9;rw[fq];rfl
     exact bp (XD:=hQ M F D N (Z<|.im<|af h)) (ff (bF (aS c1) rfl rfl rfl H) (cV rfl) rfl) (bp (XD:=hQ M F D (N++[gf D h]) (Z<|.im<|af h)) (ir<|iK rfl rfl (cZ (cO<|dd (XU:=[.aR 1,.aR 3]) rfl rfl rfl (Mb D h) rfl) rfl) rfl rfl I rfl) rfl)
    ·have:=XQ.len;rw[cC,e6];omega
    ·rcases dM.mp n with i|i
     ·exact XQ.sub a i
     ·rw[cf.mp i];exact Lu XQ.c u C
    ·have o:=XQ.odd e;rw[Wv];rw[gu,gu]at o ⊢;omega
   ·rw[decide_eq_false b]at m;exact⟨aA,_,m,(λi=>by cases i),λ_=>⟨D,N,j,rfl,XQ,by omega⟩⟩) 1000000 1001 (hQ M F d [] V) ⟨d,[],V,rfl,⟨v,by rw[gs];omega,(λa n=>by cases n),λe=>by
    rw[gu,gu];have:c4 e ([]:List ar)=0:=rfl;have:cM [] e=0:=rfl;omega⟩,by omega⟩ ∅
 have L:D=g:=by
  rcases Ya.back D (all D XQ.c) with a|⟨r,hd,_,t⟩
  ·exact a
  ·have:=Ya.pos r hd;omega
 refine⟨N,?_,XQ.sub,λe=>by rw[<-L];exact XQ.odd e,by have:=XQ.len;omega⟩;unfold qr DS;exact ew (w:=[Z (.dN<|cJ M F),Z<|.im<|af D,Z .c8,j]) rfl (bp (XD:=hQ M F d [] V) (gj (lE rfl rfl (eH rfl) rfl) (cV rfl) rfl)<|bp y rfl) rfl
def Lv(ae:Y.Nodup)(l:Y.length<=1000)(g d:ar):sy [a7 Y,.im<|af g,.im<|af d]=Z (a7<|ej Y g d,[a7 Y,.im<|af g,.im<|af d]):=by
 have c1:d2 1 [3,1,2] (cL<|aj 0) (bH 0) G.yZ G.Hg [Z (a7 Y),Z<|.im<|af g,Z<|.im<|af d,Z<|.aE<|mt Y]=Z (a_<|ej Y g d,[Z (a7 Y),Z<|.im<|af g,Z<|.im<|af d,Z<|.aE<|mt Y]):=by
  refine jM (x:=Y.map af) (o:=V) (XD:=[Z (a7 Y),Z<|.im<|af g,Z<|.im<|af d,Z<|.aE<|mt Y]) rfl (ku af (λf=>decide (((dr Y f).length+c4 f [g,d])%2=1)) af _ [] (λf W=>?_) (by rw[gs];omega)) rfl;refine⟨[Z (.im<|af f),Z<|.aE<|mt Y,Z<|.im<|af g,Z<|.im<|af d],[Z (.im<|af f),Z<|.aE<|mt Y,Z<|.im<|af g,Z<|.im<|af d],rfl,?_,λ_=>rfl,λ_=>⟨[Z (.im<|af f),Z<|.aE<|mt Y,Z<|.im<|af g,Z<|.im<|af d],rfl,rfl⟩⟩;have a:dI [a7 (dr Y f)]=Z (aB ((dr Y f).length:Int)):=by
   show Z (aB (((dr Y f).map af).length:Int))=_;rw[a6]
  have b:d_ (aB<|((dr Y f).length:Int)+(c4 f [g,d]:Nat)) (aB 2)=Z (aB<|(((dr Y f).length:Int)+(c4 f [g,d]:Nat))%2):=il ∅;let w:aQ:=[Z (.im<|af f),Z<|.aE<|mt Y,Z<|.im<|af g,Z<|.im<|af d]
  have c:bf 2 G.nS (ao (aj 1)<|ao (aj 0) az) w=Z (a7<|dr Y f,w):=dd (XU:=[.aR 1,.aR 0]) rfl rfl rfl (MC Y f) rfl;have h:bQ dI (ao (ab<|bf 2 G.nS<|ao (aj 1)<|ao (aj 0) az) az) w=Z (aB ((dr Y f).length:Int),w):=dz (bS (aS c) rfl) rfl a;have i:ac nJ (ab<|cp<|ao (aj 2)<|ao (aj 3) az) (aj 0) w=Z (aB ((c4 f [g,d]:Nat):Int),w):=bF (aS<|jN (bS (e:=.aR 2) (x:=[.aR 3]) rfl<|bS (e:=.aR 3) (x:=[]) rfl rfl) (D:=[.im (af g),.im<|af d]) rfl (eH rfl) rfl) rfl rfl rfl (Qk g d f);generalize c4 f [g,d]=v at *;have j:ac d_ (ab<|ac cj (ab<|bQ dI<|ao (ab<|bf 2 G.nS<|ao (aj 1)<|ao (aj 0) az) az)<|ab<|ac nJ (ab<|cp<|ao (aj 2)<|ao (aj 3) az)<|aj 0) (ab<|av<|.int 2) w=Z (aB<|(((dr Y f).length:Int)+(v:Int))%2,w):=bF (aS<|bF (aS h) (aS i) rfl rfl rfl) rfl rfl rfl b;have k:yZ w=Z (decide ((((dr Y f).length:Int)+(v:Int))%2=1),w):=dq (bF (aS j) rfl rfl rfl<|ik _ _);rw[show decide (((dr Y f).length+v)%2=1)=decide ((((dr Y f).length:Int)+(v:Int))%2=1) from fW.mpr (by omega)];exact k
 unfold sy F9;refine ew (w:=[Z (a7 Y),Z<|.im<|af g,Z<|.im<|af d,Z<|.aE<|mt Y]) rfl ?_ rfl;exact bp (XD:=[Z (a7 Y),Z<|.im<|af g,Z<|.im<|af d,Z<|.aE<|mt Y]) (gj (dd (XU:=[.aR 0]) rfl rfl rfl (FR ae (by omega)) rfl) (cV rfl) rfl) (fz<|dz (bS (aS c1) rfl) rfl rfl)
def P6(ae:Y.Nodup)(a:Y.length<=1000)(g d:ar)(b:(ej Y g d).length<=14):sS [a7 Y,.im<|af g,.im<|af d]=Z (a7<|ej Y g d,[a7 Y,.im<|af g,.im<|af d]):=by
 have c:bW 3 (bf 3 G.sy<|ao (aj 0)<|ao (aj 1)<|ao (aj 2) az) [Z (a7 Y),Z<|.im<|af g,Z<|.im<|af d,V]=Z (.bA,[Z (a7 Y),Z<|.im<|af g,Z<|.im<|af d,Z<|a7<|ej Y g d]):=gj (dd (XU:=[.aR 0,.aR 1,.aR 2]) rfl rfl rfl (Lv ae a g d) rfl) (cV rfl) rfl;have e:dI [a7 (ej Y g d)]=Z (aB ((ej Y g d).length:Int)):=by
  show Z (aB (((ej Y g d).map af).length:Int))=_;rw[a6]
 have O:iB (aB ((ej Y g d).length:Int)) (aB 14)=Z (.im<|.aH aA):=congrArg (λd=>Z<|ak.im<|.aH d) (decide_eq_false (by omega));unfold sS IK;exact ew (w:=[Z (a7 Y),Z<|.im<|af g,Z<|.im<|af d,Z<|a7<|ej Y g d]) rfl (bp c<|bp (et (dq<|bF (aS<|dz (bS rfl rfl) rfl e) rfl rfl rfl O) rfl) rfl) rfl
theorem o8{XR:Type}[DecidableEq XR]:∀{M Y:List XR},M.Nodup->(∀f∈M,f∈Y)->M.length<=Y.length
 |[],_,_,_=>e9 _
 |g::M,Y,ae,b=>by
  have ae:=df.mp ae;have c:=b g (.head _);have e:=o8 (M:=M) (Y:=Y.erase g) ae.2 λf d=>(xI λa:f=g=>ae.1<|a ▸ d).mpr (b f<|.tail _ d);rw[zK c]at e;have:=uW c;rw[b6];omega
def Vk(k:Y.length<=200)(Ya:fH Y g M F [])(all:∀f∈Y,f∈M){A:ar}(c:A∈Y):F A<=200:=by
 have XX:∀(v:Nat) (A:ar),A∈M->F A=v->∃J:List ar,J.Nodup/\(∀f∈J,f∈M/\F f<v)/\J.length=v:=λv=>by
  induction v with
  |zero=>exact λA W W=>⟨[],gB,(λf b=>by cases b),rfl⟩
  |succ v j=>
   intro A c a;rcases Ya.back A c with i|⟨r,hd,_,t⟩
   ·rw[i,Ya.f0]at a;omega
   ·let⟨J,e,d,h⟩:=j r hd (by omega);refine⟨r::J,df.mpr ⟨λi=>by have:=(d r i).2;omega,e⟩,λf b=>?_,by rw[b6,h]⟩;rcases b0.mp b with rfl|b
    ·exact⟨hd,by omega⟩
    ·have:=d f b;exact⟨this.1,by omega⟩
 have XP:=Ya.pos A (all A c);let⟨J,e,d,h⟩:=XX (F A).toNat A (all A c) (by omega);have:=xg e λf b=>Ya.sub f (d f b).1;omega
structure EZ(Y c:List ar)(Yd:ar->List ((Int×Int)×Int))(r:ar->ar->Nat)(k:a0->List a0):Prop where
 f:∀n:a0,n.1∈c->n.2∈c->∃M f,Yd n.1=ju M f/\qr [.dN (cJ M f),.im<|af n.2]=Z (c9<|k n,[.dN (cJ M f),.im<|af n.2])
 sub:∀n:a0,n.1∈c->n.2∈c->∀a∈k n,a∈cD Y
 odd:∀n:a0,n.1∈c->n.2∈c->∀e,cM (k n) e%2=c4 e [n.1,n.2]%2
 len:∀n:a0,n.1∈c->n.2∈c->(k n).length=r n.1 n.2
def Qo(L:rC Y c Yd r)(f:∀e∈c,e∈Y)(s:Y.length<=200)(hd:∀g∈c,∀d∈Y,r g d<=1000):∃k,EZ Y c Yd r k:=by
 classical
 have b:∀n:a0,∃N:List a0,n.1∈c->n.2∈c->(∃M F,Yd n.1=ju M F/\qr [.dN (cJ M F),.im<|af n.2]=Z (c9 N,[.dN (cJ M F),.im<|af n.2]))/\(∀a∈N,a∈cD Y)/\(∀e,cM N e%2=c4 e [n.1,n.2]%2)/\N.length=r n.1 n.2:=λn=>by
  by_cases l:n.1∈c
  ·by_cases t:n.2∈c
   ·let⟨M,F,h,Ya,j,m⟩:=L.t n.1 l;have dl:=hd n.1 l n.2 (f _ t);have Y9:=m _ (f _ t);let⟨N,o,p,q,u⟩:=Ox Ya j (f _ t) (by omega) (by omega);exact⟨N,λ_ W=>⟨⟨M,F,h,o⟩,p,q,by omega⟩⟩
   ·exact⟨[],λ_ i=>absurd i t⟩
  ·exact⟨[],λi=>absurd i l⟩
 exact⟨λn=>(b n).choose,λn g d=>((b n).choose_spec g d).1,λn g d=>((b n).choose_spec g d).2.1,λn g d=>((b n).choose_spec g d).2.2.1,λn g d=>((b n).choose_spec g d).2.2.2⟩
theorem DB{Y c:List ar}{Yd:ar->List ((Int×Int)×Int)}{r:ar->ar->Nat}{k:a0->List a0}{e h Yq i:Option ak}(W:EZ Y c Yd r k)(hd:∀g∈c,∀d∈c,r g d<=1000):
  ∀(XF:List a0) (a:List a0) (Yj z:Option ak),(∀n∈XF,n.1∈c/\n.2∈c)->a.length+1000*XF.length<=50000->
   ∃(j m:Option ak),dK (jt 2<|fY (bH 6)<|fY (bH 7) jH) wW (XF.map bT) [e,h,Yq,i,Z<|.aE<|dV c Yd,Z<|c9 a,Yj,z]=Z (.bA,[e,h,Yq,i,Z<|.aE<|dV c Yd,Z<|c9<|a++XF.flatMap k,j,m])
 |[],a,Yj,z,_,_=>⟨Yj,z,by rw[List.flatMap_nil,bO];rfl⟩
 |n::XF,a,Yj,z,b,p=>by
  rw[b6]at p;let⟨l,t⟩:=b n (.head _);let⟨M,F,q,u⟩:=W.f n l t;have y:=W.len n l t;have dl:=hd n.1 l n.2 t;let⟨j,m,o⟩:=DB (e:=e) (h:=h) (Yq:=Yq) (i:=i) W hd XF (a++k n) (Z<|.im<|af n.1) (Z<|.im<|af n.2) (λs v=>b s<|.tail _ v) (by rw[cC];omega);rw[bI]at o;refine⟨j,m,?_⟩;rw[bz,ot];let w:aQ:=[e,h,Yq,i,Z<|.aE<|dV c Yd,Z<|c9 a,Z<|.im<|af n.1,Z<|.im<|af n.2]
  refine gi (XD:=w) (X_:=[e,h,Yq,i,Z<|.aE<|dV c Yd,Z<|c9<|a++k n,Z<|.im<|af n.1,Z<|.im<|af n.2]) rfl ?_ o;have x:qz (ac bh (aj 4)<|aj 6) w=Z (.dN<|cJ M F,w):=G2 (by rw[<-q];exact e1 rfl rfl rfl rfl (Jg l));unfold wW;exact ir (iK rfl rfl (cZ (cO<|dd (XU:=[.bY (.dN<|cJ M F),.aR 7]) (cZ (cO x)<|cZ rfl rfl) rfl rfl u rfl) rfl) rfl rfl (U_ (by omega)) rfl)
def Q8(f:Nat)(XF:List a0):bh (.im<|f3 f XF) (aB 1)=Z (fX XF):=rfl
def UY(ae:Y.Nodup)(N:∀g∈Y,∀d∈Y,g8 Y g d)(s:Y.length<=36){g d:ar}(O:g∈Y)(P:d∈Y)(bm:(ej Y g d).length<=14):
  ∃(XQ:List a0) (r:ar->ar->Nat),oO [a7 Y,.im<|af g,.im<|af d]=Z (fX XQ,[a7 Y,.im<|af g,.im<|af d])/\Eb Y (ej Y g d) XQ (dO r<|ej Y g d)/\(∀e∈ej Y g d,ts Y e<|r e)/\c9 XQ=lR XQ/\∀g d v,nP Y g d v->r g d<=v:=by
 generalize m:ej Y g d=c at *;have y:c.Nodup:=m ▸ yr ae g d;have p:∀e∈c,e∈Y:=λe h=>yT (m ▸ h);have gn:c.length%2=0:=m ▸ Wh ae O P;let⟨Yd,r,L,Xz,B⟩:=UE p N (Xz:=λe M F=>mw [.aE (mt Y),.im<|af e]=Z (.aE<|cJ M F,[.aE (mt Y),.im<|af e])) λe h=>R2 (p e h) (by omega);have dl:∀e∈c,∀A∈Y,r e A<=1000:=λe h A u=>by
  let⟨M,F,K,Ya,Q,R⟩:=L.t e h;have:=Vk Ya Q u (k:=dg s ∅);have:=R A u;omega
 let⟨k,W⟩:=Qo L p (dg s ∅) dl;have S:=QY (Y:=Y) (Yd:=Yd) y (by omega) Xz;let⟨XF,bn,T,K,z⟩:=IG L p (by omega) 7 c (List.Sublist.refl _) y gn (by omega) [] ⟨(λbs U=>by cases U),gB⟩;have i:=z.in;have bl:=z.len;have j:=My (k:=k) ae y B z (λn b=>W.sub n (i n b).1 (i n b).2) (λn b=>W.odd n (i n b).1 (i n b).2) λn b=>W.len n (i n b).1 (i n b).2;let⟨XQ,X5,E⟩:=v3 (XF.flatMap k);have H:(XF.flatMap k).length<=63:=by
  have l:=o8 j.ae j.sub;have t:=JB (λf=>(CC Y f).symm) ae s;omega
 refine⟨XQ,r,?_,⟨X5.nodup_iff.mpr j.ae,λa al=>j.sub a<|X5.mem_iff.mp al,λe=>by rw[GD X5];exact j.odd e,X5.length_eq.trans j.len⟩,L.ds,E.symm.trans (HN H X5).symm,B⟩;let⟨am,an,I⟩:=DB (e:=Z (a7 Y)) (h:=Z (.im<|af g)) (Yq:=Z (.im<|af d)) (i:=Z (a7 c)) W (λe h A u=>dl e h A<|p A u) XF [] V V i (by rw[gs];omega);rw[jU]at I;let ap:aQ:=[Z (a7 Y),Z<|.im<|af g,Z<|.im<|af d,V,V,V,V,V]
 let Yz:aQ:=[Z (a7 Y),Z<|.im<|af g,Z<|.im<|af d,Z<|a7 c,V,V,V,V]
 let as:aQ:=[Z (a7 Y),Z<|.im<|af g,Z<|.im<|af d,Z<|a7 c,Z<|.aE<|dV c Yd,V,V,V]
 let q:aQ:=[Z (a7 Y),Z<|.im<|af g,Z<|.im<|af d,Z<|a7 c,Z<|.aE<|dV c Yd,Z<|c9 [],V,V]
 have J:=P6 ae (by omega) g d (by rw[m];omega);rw[m]at J;have a1:bW 3 (bf 3 G.sS<|ao (aj 0)<|ao (aj 1)<|ao (aj 2) az) ap=Z (.bA,Yz):=gj (dd (XU:=[.aR 0,.aR 1,.aR 2]) rfl rfl rfl J rfl) (cV rfl) rfl;have lk:bf 1 G.oY (ao (aj 0) az) Yz=Z (.aE<|mt Y,Yz):=dd (XU:=[.aR 0]) rfl rfl rfl (FR ae (by omega)) rfl;have a2:bW 4 (bf 2 G.sz<|ao (ab<|bf 1 G.oY<|ao (aj 0) az)<|ao (aj 3) az) Yz=Z (.bA,as):=gj (dd (XU:=[.bY (.aE<|mt Y),.aR 3]) (cZ (cO lk)<|cZ rfl rfl) rfl rfl S rfl) (cV rfl) rfl;have bd:bf 3 (G.i1 8) (ao (aj 4)<|ao (aj 3)<|ao (ab qg) az) q=Z (.im<|f3 (dO r c) XF,q):=dd (XU:=[.aR 4,.aR 3,.bY<|.aE []]) rfl rfl rfl T rfl;have be:cL (ab<|ac bh (ab<|bf 3 (G.i1 8)<|ao (aj 4)<|ao (aj 3)<|ao (ab qg) az)<|ab<|av<|.int 1) q=Z ((XF.map bT,V),q):=by
  unfold cL;rw[cO (e1 (cO bd) rfl rfl rfl<|Q8 _ _)];rfl
 have bi:hA [c9 (XF.flatMap k)]=Z (c9 XQ):=(Hk j.ae H).trans (by rw[E]);unfold oO FY;refine ew (w:=[Z (a7 Y),Z<|.im<|af g,Z<|.im<|af d,Z<|a7 c,Z<|.aE<|dV c Yd,Z<|c9<|XF.flatMap k,am,an]) rfl ?_ rfl;exact bp a1 (bp a2<|bp (XD:=q) (gj (lE rfl rfl (eH rfl) rfl) (cV rfl) rfl)<|bp (gk (o:=V) (x:=XF.map bT) be I rfl)<|fz<|n9 (cZ (cO<|n9 (cZ rfl rfl) rfl bi) rfl) rfl rfl)
end G
namespace L2
open Spec PyProof.Rows
variable{h k:Nat}{D:List ak}{M:List cy}{E:List aY}{Yu:List (Option aY)}{e:aD}{XP:b9}{q:cy}
theorem ys{q:cy}{u:ai}:∀{Yk:List (cy×ai)}{k:Nat},(Yk.map (·.1)).Nodup->(Yk.map (·.1))[k]?=Z q->(Yk.map (·.2))[k]?=Z u->f9 Yk q=Z u
 |[],k,_,b,_=>by simp at b
 |n::p,0,_,l,t=>by
  let⟨g,d⟩:=n;rw[bz,Bu]at l t;cases l;cases t;unfold f9;rw[fT,show decide ((g,d).1=g)=aa from bG rfl];rfl
 |n::p,k+1,ae,l,t=>by
  rw[bz,HW]at l t;have ae:=df.mp ae;have ne:decide (n.1=q)=aA:=decide_eq_false λi=>ae.1 (by show n.1∈_;rw[i];exact fi l);have a:=ys ae.2 l t;unfold f9 at a ⊢;rw[fT,ne];exact a
def Mr{u:ai}:∀{Yk:List (cy×ai)}{k:Nat},(Yk.map (·.1)).Nodup->(Yk.map (·.1))[k]?=Z q->(eM Yk q u).map (·.1)=Yk.map (·.1)/\(eM Yk q u).map (·.2)=(Yk.map (·.2)).set k u:=by
 intro Yk k ae b;have any:(Yk.any λc=>decide (c.1=q))=aa:=by
  let⟨n,d,a⟩:=cX.mp (fi b);exact mQ.mpr ⟨n,d,bG a⟩
 unfold eM;rw[aF any,fM,fM];refine⟨hx λn Y=>?_,?_⟩
 ·show (if n.1=q then (n.1,u) else n).1=n.1;split<;>rfl
 ·clear any;induction Yk generalizing k with
  |nil=>rfl
  |cons n p e=>
   have ae:=df.mp ae;rw[bz,bz];cases k with
   |zero=>
    rw[bz,Bu]at b;have a:=Option.some.inj b;rw[List.set_cons_zero];congr 1
    ·show (if n.1=q then (n.1,u) else n).2=u;rw[aF a]
    ·refine hx λs f=>?_;show (if s.1=q then (s.1,u) else s).2=s.2;rw[if_neg λi=>ae.1<|cX.mpr ⟨s,f,i.trans a.symm⟩]
   |succ k=>
    rw[bz,HW]at b;rw[List.set_cons_succ];congr 1
    ·show (if n.1=q then (n.1,u) else n).2=n.2;rw[if_neg λi=>ae.1 (by show n.1∈_;rw[i];exact fi b)]
    ·exact e ae.2 b
theorem dj.Au{j:ax}{r:X}:∀{D:List ak}{Q:List ai}{XH:List aq}{k:Nat},dj j D Q XH->D[k]?=Z (.im r)->∃u,Q[k]?=Z u/\b8 j r u/\∀S YE c,eC j S->(∀f∈XH,∀o,j f=Z o->S f=Z o)->b8 S YE c->dj S (D.set k<|.im YE) (Q.set k c) XH
 |[],_,_,_,_,a=>by simp at a
 |e::D,_,_,0,b,a=>by
  let⟨u,p,XT,X4,rfl,l,t,rfl⟩:=b;cases (Option.some.inj a:e=.im r);let⟨l,rfl⟩:=l;exact⟨u,rfl,l,λS YE c C q H=>⟨c,p,[],X4,rfl,⟨H,rfl⟩,t.mono C λf d=>q f d,rfl⟩⟩
 |e::D,_,_,k+1,b,a=>by
  let⟨u,p,XT,X4,rfl,l,t,rfl⟩:=b;let⟨I,g,h,i⟩:=dj.Au (k:=k) t ⇑a;exact⟨I,by simpa using g,h,λS YE c C q H=>⟨u,p.set k c,XT,X4,rfl,l.mono C λf d=>q f<|d6 _ d,i S YE c C (λf d=>q f<|dH _ d) H,rfl⟩⟩
theorem dj.Gj{j:ax}{J:List X}:∀{D:List ak}{Q:List ai}{XH:List aq}{k:Nat},dj j D Q XH->XH.Nodup->D[k]?=Z (.lst J)->∃d x,Q[k]?=Z (.ref d)/\j d=Z (.lst x)/\bt j J x/\d∈XH/\
  ∀S g h,eC j S->(∀f∈XH,f≠d->∀o,j f=Z o->S f=Z o)->S d=Z (.lst g)->bt S h g->dj S (D.set k<|.lst h) Q XH
 |[],_,_,_,_,_,a=>by simp at a
 |e::D,_,_,0,b,ae,a=>by
  let⟨u,p,XT,X4,rfl,l,t,rfl⟩:=b;cases (Option.some.inj a:e=.lst J);let⟨d,x,rfl,r,s,rfl⟩:=l;have ae:=df.mp ae;exact⟨d,x,rfl,r,s,.head _,λS g h C q cc m=>⟨.ref d,p,[d],X4,rfl,⟨d,g,rfl,cc,m,rfl⟩,t.mono C λf c=>q f (.tail _ c) λi=>ae.1<|i ▸ c,rfl⟩⟩
 |e::D,_,_,k+1,b,ae,a=>by
  let⟨u,p,XT,X4,rfl,l,t,rfl⟩:=b;have ae:=cH.mp ae;let⟨d,x,v,w,y,n,z⟩:=dj.Gj (k:=k) t ae.2.1 ⇑a;exact⟨d,x,by simpa using v,w,y,dH _ n,λS g h C q cc m=>⟨u,p,XT,X4,rfl,l.mono C λf c=>q f (d6 _ c) λi=>ae.2.2 f c d n i,z S g h C (λf c=>q f<|dH _ c) cc m,rfl⟩⟩
section
variable{c:aI}
def vp(c:aI)(XP:b9)(Yu:List (Option aY))(E:List aY)(M:List cy)(O:aC (List bo)):Prop:=(
 ∃Y5,qE c XP Yu E Y5/\∀B j (y:List (ai×ai)->ax->Prop),hs O B j (λQ XE=>y ((M.map bR).zip Q) XE)->vH Y5 B j y)
def RW:vp c XP [] [] [] az:=⟨[],FL,λB j y a=>by
 let⟨w,N,p,X0,R,ae,b,s⟩:=a;cases b;exact s [] j N [] R ⟨rfl,rfl⟩ (by rw[bO];exact a8.perm ae (List.Perm.refl _))⟩
def xD{b3:b9}{k}{u:aY}{O:aC bo}{b:aC (List bo)}(m:du c u O)(n:vp c XP Yu E M b):vp c XP (Z (.Constant (.str e) k b3)::Yu) (u::E) (.inr e::M) (ao O b):=by
 let⟨Y5,q,r⟩:=n;refine⟨_,Bi ou m q,λB j y v=>?_⟩;let⟨w,N,p,X0,R,ae,x,s⟩:=v;let⟨⟨e,XD⟩,l,t⟩:=bg.mp x;let⟨⟨XW,X_⟩,z,A⟩:=b5.mp t;cases A;refine⟨w,N,e,XD,R,ae,l,λu XE XT h C i d=>r B XE _ ⟨XD,XT,XW,_,C,(cH.mp d.ae).1,z,λQ XS X4 bJ D Yq f=>?_⟩⟩;refine s (u::Q) XS X4 (h++bJ) D ⟨u,Q,h,bJ,rfl,i.mono f.tup λg F o a=>f.keep g o a λb=>?_,Yq,rfl⟩ ((d.trans f i.chg).jn ?_)
 ·exact (cH.mp d.ae).2.2 g b g F rfl
 ·rw[bI];exact eT _ d3
@[simp] def CY(M:List cy)(O:aC (List bo)):aC ak:=λw=>(O w).bind λn=>(eB n.1 n.2).bind λs=>if M.Nodup/\s.1.length=M.length/\M.length<=15 then Z (.gm M s.1,s.2) else V
theorem D4:∀(b Xy:List (cy×ai)),((Xy++b).map (·.1)).Nodup->mR Xy b=Xy++b
 |[],Xy,_=>(bO Xy).symm
 |n::p,Xy,ae=>by
  have a:eM Xy n.1 n.2=Xy++[n]:=by
   unfold eM;rw[if_neg];intro i;let⟨s,c,a⟩:=mQ.mp i;rw[fq]at ae;exact (cH.mp ae).2.2 s.1 (cX.mpr ⟨s,c,rfl⟩) n.1 (.head _) (e_ a)
  show mR (eM Xy n.1 n.2) p=_;rw[a,D4 p (Xy++[n]) (by rw[bI];exact ae),bI];rfl
def Lh{O:aC (List bo)}(b:vp c XP Yu E M O)(J:Yu.all (·.isSome)=aa:=by rfl)(L:Yu.length=E.length:=by rfl)(P:Yu≠[]:=by exact λi=>nomatch i)(S:Yu.length<=15:=by decide):
  bZ c (.Dict Yu E XP) (CY M O):=by
 let⟨Y5,U,al⟩:=b;refine dR (Cu U J L P S) λB j y am=>?_;let⟨w,N,p,X0,R,ae,an,s⟩:=am;let⟨⟨XU,XD⟩,l,t⟩:=bg.mp an;let⟨⟨D,X_⟩,ap,k⟩:=bg.mp t;dsimp only at k;split at k
 ·rename_i u;cases k;intro n m;have T:cN j (upd j n<|.cb []):=(cN.refl j).upd m;have z:∀g∈N,g≠n:=λg d a=>by
   let⟨o,C,Y⟩:=R.chg g d;rw[a,m]at C;cases C
  refine al B _ _ ⟨w,N,XU,XD,R.mono T.tupS λg Y o a=>T g o a,ae,l,λQ XE XT F as a1 h=>?_⟩;let⟨X4,bJ,a2,X7,X5⟩:=k_ as a1 ap;have bd:n∉XT++F:=λi=>by
   rcases h.sub n i with b|b
   ·exact z n b rfl
   ·rw[dx]at b;cases b
  have G:XE n=Z (.cb []):=h.keep n _ dx λb=>z n b rfl;have bs:Q.length=M.length:=by rw[<-X7.length];exact u.2.1
  have H:(M.zip Q).map (·.1)=M:=y_ (by omega);have be:(M.zip Q).map (·.2)=Q:=List.map_snd_zip (by omega);have bi:(M.map bR).zip Q=(M.zip Q).map λI=>(bR I.1,I.2):=by rw[List.zip_map_left];rfl
  refine⟨G,M.zip Q,bi,by rw[xO];omega,?_⟩;have em:mR [] (M.zip Q)=M.zip Q:=D4 _ [] (by rw[jU,H];exact u.1);rw[em];have YS:fu XE n:=⟨_,G,(λ_ a=>by cases a),(λ_ Y a=>by cases a)⟩;have v:eC XE (upd XE n<|.cb<|M.zip Q):=(a8.chg (Yy:=.cb (M.zip Q)) (N:=[n]) (XT:=[]) (.head _) YS gB<|λe q=>nomatch q).tup;have r:∀g∈X4++bJ,g≠n:=λg d a=>bd (a ▸ X5.mem_iff.mp d);refine s _ _ X4 (n::bJ) (a2.mono v λg d o a=>by rw[cm (r g<|d6 _ d)];exact a) ⟨n,M.zip Q,Q,bJ,rfl,dx,⟨H,u.1,be⟩,X7.mono v (λg d o a=>by rw[cm (r g<|dH _ d)];exact a),rfl⟩ ⟨λg o a d=>?_,λg d=>?_,?_,(T.tupS.trans h.tup).trans v,λg o a=>?_⟩
  ·have f:g≠n:=λi=>by rw[i,m]at a;cases a
   rw[cm f];exact h.keep g o (T g o a) d
  ·by_cases f:g=n
   ·exact .inr (f ▸ m)
   ·have:g∈XT++F:=X5.mem_iff.mp (by
     rcases dM.mp d with b|b
     ·exact d6 _ b
     ·exact dH _ ((b0.mp b).resolve_left f))
    refine (h.sub g this).imp_right λb=>?_
    rwa [cm f]at b
  ·have bm:=(X5.nodup_iff).mpr h.ae;have YN:=cH.mp bm;exact cH.mpr ⟨YN.1,df.mpr ⟨λi=>r n (dH _ i) rfl,YN.2.1⟩,λe q A x a=>by
    rcases b0.mp x with rfl|x
    ·exact r e (d6 _ q) a
    ·exact YN.2.2 e q A x a⟩
  ·let⟨Yy,bn⟩:=h.grow g o (T g o a);by_cases f:g=n
   ·exact⟨_,by rw[f];exact dx⟩
   ·exact⟨Yy,by rw[cm f];exact bn⟩
 ·cases k
def tu(M:List cy)(D:List ak)(k:Nat)(q:cy):Option X:=(if M[k]?=Z q then match D[k]? with
 |some (.im r)=>Z r
 |_=>V else V)
def nO(M:List cy)(D:List ak)(k:Nat)(q:cy):Option (List X):=(if M[k]?=Z q then match D[k]? with
 |some (.lst J)=>Z J
 |_=>V else V)
def HD{r:X}(b:tu M D k q=Z r):M[k]?=Z q/\D[k]?=Z (.im r):=by
 unfold tu at b;split at b
 ·rename_i a;split at b
  ·rename_i s;cases b;exact⟨a,s⟩
  ·cases b
 ·cases b
def M_{r:List X}(b:nO M D k q=Z r):M[k]?=Z q/\D[k]?=Z (.lst r):=by
 unfold nO at b;split at b
 ·rename_i a;split at b
  ·rename_i s;cases b;exact⟨a,s⟩
  ·cases b
 ·cases b
def tX{w:aQ}{B:aZ}{j:ax}{N:List aq}{J:List X}(R:bq j w B N)(ae:N.Nodup)(G:w[h]?=Z (Z<|.gm M D))(H:nO M D k (.inr e)=Z J):
  ∃g d,B[h]?=Z (Z<|.ref g)/\e2 j g (.str e) (Z<|.ref d)/\b_ j (.lst J) (.ref d) [d]/\d∈N/\∀u S b p c bJ,b_ S p u c->c=[]->b_ S (.lst b) (.ref d) bJ->a8 j [d] S (c++bJ)->∃Yf,bq S (w.set h<|Z<|.gm M<|D.set k<|.lst b) B Yf/\a8 j N S Yf:=by
 let⟨I,hd⟩:=M_ H;let⟨v0,ca,X4,v,⟨g,Yk,Q,XH,rfl,l,⟨n,y,z⟩,t,rfl⟩,L,X5⟩:=R.out G;have A:=cH.mp ((X5.nodup_iff).mpr ae);have C:=df.mp A.2.1;let⟨d,x,O,P,U,r,al⟩:=t.Gj C.2 hd;have am:g≠d:=λa=>C.1 (a ▸ r);have s:d∈N:=X5.mem_iff.mp (dH _<|.tail _ r);have gn:f9 Yk (.inr e)=Z (.ref d):=ys (k:=k) (by rw[n];exact y) (by rw[n];exact I) (by rw[z];exact O);refine⟨g,d,v,by rw[<-gn];exact e2.k (q:=.inr e) l,⟨d,x,rfl,P,U,rfl⟩,s,λu S b p c bJ cc an ap m=>?_⟩;subst an;let⟨cd,as,a,a1,a2,rfl⟩:=ap;cases a;have own:b_ S (.gm M<|D.set k<|.lst b) (.ref g) (g::XH):=⟨g,Yk,Q,XH,rfl,m.keep g _ l ⇑am,⟨n,y,z⟩,al S as b m.tup (λf E bd o a=>m.keep f o a ⇑bd) a1 a2,rfl⟩;have be:bq S (w.set h<|Z .c8) B X4:=L.mono m.tup λf E o a=>m.keep f o a (by
  rw[cf];intro i;exact A.2.2 f E d (.tail _ r) i)
 let⟨bi,bm,F,bn⟩:=be.back own v;rw[tn]at F;have T:a8 j N j ([d]++N.erase d):=a8.perm ae (Ca s).symm;have bs:=T.trans (Xz:=N.erase d) m λe bv=>R.chg e (List.mem_of_mem_erase bv);refine⟨bi,F,bs.less (aL:=bm) ?_⟩;exact bn.trans (X5.trans<|Ca s)
@[simp] def lZ(h k:Nat)(e:aD):aC ak:=λw=>match w[h]? with
 |some (Z<|.gm M D)=>(tu M D k<|.inr e).map λr=>(.im r,w)
 |_=>V
def wZ(k:Nat){e:aD}{o:aY}{b}{b3 XP:b9}(f:c.A.units+20<bj)(i:bu c o (hZ h))(XO:oN (.Constant (.str e) b b3):=by exact λ_ Y=>rfl):bZ c (.Subscript o (.Constant (.str e) b b3) XP) (lZ h k e):=by
 refine dR (sA f i ou XO) λB j y m=>?_;let⟨w,N,p,X0,R,ae,a,s⟩:=m;unfold lZ at a;split at a
 ·rename_i M D n;let⟨r,l,t⟩:=b5.mp a;cases t;let⟨v,hd⟩:=HD l;let⟨v0,G,X4,x,⟨g,Yk,Q,XH,rfl,l,⟨d,z,C⟩,t,rfl⟩,H,X5⟩:=R.out n;let⟨u,E,F,Y⟩:=t.Au hd;have gn:f9 Yk (.inr e)=Z u:=ys (k:=k) (by rw[d];exact z) (by rw[d];exact v) (by rw[C];exact E);exact⟨_,x,g,u,rfl,by rw[<-gn];exact e2.k (q:=.inr e) l,s u j N [] R ⟨F,rfl⟩ (by rw[bO];exact a8.perm ae (List.Perm.refl _))⟩
 ·cases a
@[simp] def oD(h k:Nat)(e:aD)(v:Int):aC ak:=λw=>match w[h]? with
 |some (Z<|.gm M D)=>(nO M D k<|.inr e).bind λJ=>(bh (.lst J)<|.im<|.int v).bind λr=>match r with
  |.im r=>Z (.im r,w)
  |_=>V
 |_=>V
def zj(k:Nat){e:aD}{v:Int}{o q:aY}{i}{b3 XP Y4:b9}(n:c.A.units+20<bj)(x:bu c o (hZ h))(z:bu c q (lT<|.int v))(XO:oN (.Constant (.str e) i b3):=by exact λ_ Y=>rfl)(C:rH q:=by exact λ_ Y=>rfl):
  bZ c (.Subscript (.Subscript o (.Constant (.str e) i b3) XP) q Y4) (oD h k e v):=by
 refine dR (F2 (D2 n) (sA n x ou XO) z C) λB j y E=>?_;let⟨w,N,p,X0,R,ae,b,s⟩:=E;unfold oD at b;split at b
 ·rename_i M D F;let⟨J,l,t⟩:=bg.mp b;let⟨r,G,f⟩:=bg.mp t;split at f
  ·rename_i r;cases f;let⟨g,d,I,O,X7,Y,Y⟩:=tX R ae F l;exact⟨_,I,g,_,rfl,O,.lst J,.im<|.int v,.im r,⟨_,X7⟩,⟨[],rfl,rfl⟩,G,λu S Xz m H P Y=>by
    let⟨H,rfl⟩:=H;exact s u S N [] (R.mono m.tupS λg Y o a=>m g o a) ⟨H,rfl⟩ (by rw[bO];exact (a8.perm ae<|List.Perm.refl N).same m)⟩
  ·cases f
 ·cases b
@[simp] def l_(h k:Nat)(e:aD):aC Bool:=λw=>match w[h]? with
 |some (Z<|.gm M D)=>(nO M D k<|.inr e).bind λJ=>if X.ct 8 J=aa then Z (!J.isEmpty,w) else V
 |_=>V
def D0(k:Nat){e:aD}{o:aY}{q}{b3 XP Y4 v:b9}(r:c.A.units+20<bj)(x:bu c o (hZ h))(XO:oN (.Constant (.str e) q b3):=by exact λ_ Y=>rfl)(z:oX .NotEq (.List [] Y4)=aA:=by rfl):
  iw c (.Compare (.Subscript o (.Constant (.str e) q b3) XP) [.NotEq] [.List [] Y4] v) (l_ h k e):=by
 refine si (I0 (lU r) (sA r x ou XO) (EB vJ) z) λB j y C=>?_;let⟨w,N,f,X0,R,ae,b,s⟩:=C;unfold l_ at b;split at b
 ·rename_i M D E;let⟨J,l,t⟩:=bg.mp b;split at t
  ·rename_i i;cases t;let⟨g,d,F,G,X7,O,Y⟩:=tX R ae E l;have I:gd (.lst J) (.lst [])=Z (.im<|.aH<|!J.isEmpty):=by
    show (if (X.ct 8 J&&X.ct 8 [])=aa then Z (ak.im<|.aH<|!fs J []) else V)=_;rw[i,aF<|show (aa&&X.ct 8 [])=aa from rfl];cases J<;>rfl
   refine⟨_,F,g,_,rfl,G,kN (show 0<=100000 by decide),λn i=>?_⟩;have m:cN j (upd j n<|.lst []):=(cN.refl j).upd i;refine⟨.lst J,.lst [],_,⟨_,X7.mono m.tupS λg Y o a=>m g o a⟩,⟨[n],n,[],rfl,dx,rfl,rfl⟩,I,λu S Xz XM H P Y=>?_⟩;let⟨H,rfl⟩:=H;have p:cN j S:=λg o a=>XM g o (m g o a);exact⟨_,H,s S N (R.mono p.tupS λg Y o a=>p g o a)<|(a8.perm ae<|List.Perm.refl N).same p⟩
  ·cases t
 ·cases b
@[simp] def sx(h k:Nat)(e:aD)(mt:ak->List ak->Option (ak×ak))(v:X):aC ak:=λw=>match w[h]? with
 |some (Z<|.gm M D)=>(nO M D k<|.inr e).bind λJ=>match mt (.lst J) [.im v] with
  |some (.im p,.lst a)=>Z (.im p,w.set h<|Z<|.gm M<|D.set k<|.lst a)
  |_=>V
 |_=>V
def OV{name:aD}{id:String}(k:Nat){e:aD}{mt:ak->List ak->Option (ak×ak)}{v:Int}{o a:aY}{b}{b3 XP YK YA:b9}(E:c.A.units+20<bj)(YM:mW "list" name id)(bV:n0 (.builtin id)=pure (.type "method_descriptor"))(n:mY c id mt)(G:bu c o (hZ h))(H:bu c a (lT<|.int v))(XO:oN (.Constant (.str e) b b3):=by exact λ_ Y=>rfl)(I:je (.Subscript o (.Constant (.str e) b b3) XP) name c.env (bP (.Subscript o (.Constant (.str e) b b3) XP) c.env)=bP (.Subscript o (.Constant (.str e) b b3) XP) c.env:=by rfl)(O:((ep YA<|bD [a] c.env).all (λe=>!e.1)&&(ma YA<|mE [] c.env).all (λe=>e.1.isSome)
   && decide ([a].length+([]:List g0).length+(if ([]:List g0).isEmpty then 0 else 1)<30))=aa:=by rfl)(P:(YK.endLine==YA.line)=aa:=by rfl)(p:bD [a] c.env=(aA,bP a c.env)::bD [] c.env:=by rfl)(Q:(ep YA<|bD [] c.env).any (·.1)=aA:=by rfl):
  bZ c (.Call (.Attribute (.Subscript o (.Constant (.str e) b b3) XP) name YK) [a] [] YA) (sx h k e mt<|.int v):=by
 refine dR (Cn F.plainAttrs_list YM bV n (sA E G ou XO) (um H vJ p) I O P p Q) λB j y T=>?_;let⟨w,N,f,X0,R,ae,i,s⟩:=T;unfold sx at i;split at i
 ·rename_i M D U;let⟨J,l,t⟩:=bg.mp i;split at t
  ·rename_i Yr r n;cases t;let⟨g,d,al,am,X7,bd,q⟩:=tX R ae U l;have an:=X7;let⟨be,x,ap,as,bi,Y⟩:=an;cases ap;refine⟨_,al,g,_,rfl,am,.inl ⟨rfl,x,dm.of as⟩,?_⟩;refine⟨.lst J,[.im (.int v)],_,.lst r,[d],[],X7,⟨_,[],[],[],rfl,⟨rfl,rfl⟩,⟨rfl,rfl⟩,rfl⟩,by rw[bO];exact es _ _,n,λu S z bJ cc a1 m=>?_⟩;have C:z=[]:=cc.2;let⟨Yf,a2,XM⟩:=q u S r _ z bJ cc C a1 (by rw[bO]at m;exact m);subst C;exact s u S Yf [] a2 cc (by rw[bO];exact XM)
  ·cases t
 ·cases i
@[simp] def sb(h k:Nat)(e:aD)(v:Int):fG:=λr w=>match w[h]?,r with
 |some (Z<|.gm M D),.im _=>(nO M D k<|.inr e).bind λJ=>match kI (.lst J) (.im<|.int v) r with
  |some (.lst a)=>Z (w.set h<|Z<|.gm M<|D.set k<|.lst a)
  |_=>V
 |_,_=>V
def WQ{Ye:List Nat}(k:Nat){e:aD}{v:Int}{o q:aY}{a}{b3 XP Y4:b9}(x:c.A.units+20<bj)(z:pg c kI)(C:bu c o (hZ h))(E:bu c q (lT<|.int v))(XO:oN (.Constant (.str e) a b3):=by exact λ_ Y=>rfl)(F:∀u,hY (.Subscript (.Subscript o (.Constant (.str e) a b3) XP) q Y4) c.env u=(do
   let b <-holding [u] (bP (.Subscript o (.Constant (.str e) a b3) XP) c.env)
   let i <-holding [u,b] (bP q c.env)
   standAt Y4
   holding [u,b,i] (sF b i u)
   release [u,b,i] []):=by intro Y;rfl):hJ c Ye (.Subscript (.Subscript o (.Constant (.str e) a b3) XP) q Y4) (sb h k e v):=by
 refine vE (I3 (sA x C ou XO) E z F) λu B j y G=>?_;let⟨w,N,r,Xz,X0,R,n,ae,f,s⟩:=G;unfold sb at f;split at f
 ·rename_i M D r I;let⟨J,l,t⟩:=bg.mp f;split at t
  ·rename_i p O;cases t;obtain rfl:Xz=[]:=n.2;rw[bO]at ae s;let⟨g,d,P,Q,X7,am,T⟩:=tX R ae I l;refine⟨_,P,g,_,rfl,Q,.lst J,.im<|.int v,.im r,.lst p,[d],[],X7,⟨rfl,rfl⟩,n,by rw[bO];exact es _ _,O,λS U H m=>?_⟩;let⟨Yf,al,XM⟩:=T (.int 0) S p (.im<|.int 0) [] U ⟨rfl,rfl⟩ rfl H (by rw[bO]at m;exact m);exact s B S Yf dv.refl al XM
  ·cases t
 ·cases f
@[simp] def Bc(k:Nat)(f q r:ak):Option ak:=match f,q,r with
 |.gm M D,.im<|.str e,.im r=>if (tu M D k<|.inr e).isSome=aa/\M.length<1000 then Z (.gm M<|D.set k<|.im r) else V
 |_,_,_=>V
def Pp(k:Nat)(x:c.A.units+20<bj):pg c (Bc k):=by
 intro G m B j o h u a1 a2 I y z C E F H;let⟨f,q,r,bd,Xz,XC,J,d,n,ae,a,s⟩:=H;unfold Bc at a;split at a
 ·rename_i M D e r;split at a
  ·rename_i v;cases a;let⟨be,O⟩:=zI.mp v.1;let⟨P,hd⟩:=HD O;let⟨g,Yk,Q,XH,rfl,l,⟨b,w,S⟩,t,rfl⟩:=J;let⟨d,Y⟩:=d;obtain rfl:h=.str e:=d;let⟨n,rfl⟩:=n;cases C;have YS:fu j g:=⟨_,l,(λ_ a=>by cases a),(λ_ Y a=>by cases a)⟩;have T:Yk.length=M.length:=by rw[<-b,a6]
   let⟨bi,bm,bn,U⟩:=t.Au hd;let⟨al,YG⟩:=Mr (q:=.inr e) (u:=u) (Yk:=Yk) (k:=k) (by rw[b];exact w) (by rw[b];exact P);rw[bO]at ae;have am:=df.mp ae;have lt:M.length<sizeLine:=n1 v.2 ∅;refine xK x z (mD.k (q:=.inr e) l (by rw[T];exact lt)) E F λXM an=>⟨_,an,s _ (g::XH) ?_ ?_⟩
   ·have R:=(a8.chg (Yy:=.cb (eM Yk (.inr e) u)) (N:=[g]) (XT:=[]) (.head _) YS gB<|λe p=>nomatch p).tup;have ap:=U (upd j g<|.cb<|eM Yk (.inr e) u) r u R (λf as o a=>by rw[cm (λi=>am.1 (by rw[<-i];exact as))];exact a) (n.mono R.tup);exact⟨g,_,_,_,rfl,dx,⟨al.trans b,w,YG.trans (by rw[S])⟩,ap,rfl⟩
   ·rw[bO];exact a8.chg (.head _) YS ae λe p=>p
  ·cases a
 ·cases a
end
end L2
namespace L2
open Spec PyProof.Rows PySem.W
section
variable{c:aI}
@[simp] def o4:fp:=hO (λh k=>decide (0<=k/\k<=1000000/\h.natAbs<2^64)) λh k=>.int (h*2^k.toNat)
def AW:e3 c (e5 .LShift) o4:=q2 Nu (λh k b=>show 0<=k/\k<=1000000/\h.natAbs<2^64 from e_ b) λ_ Y Y=>rfl
@[simp] def l8:fp:=hO (λ_ Y=>aa) λh k=>.int (bc.bitXor h k)
def JY:e3 c (e5 .BitXor) l8:=pe Wt λ_ Y Y=>rfl
end
theorem xt{XR Yv:Type}(F:XR->Yv):∀(J:List XR) (k:Nat),(J.map F).eraseIdx k=(J.eraseIdx k).map F
 |[],_=>rfl
 |g::J,0=>rfl
 |g::J,k+1=>by
  show F g::(J.map F).eraseIdx k=F g::(J.eraseIdx k).map F;rw[xt F J k]
theorem x1{XR Yv:Type}{N:XR->Yv->Prop}:∀{J:List XR}{E:List Yv},dB N J E->∀k:Nat,dB N (J.eraseIdx k) (E.eraseIdx k)
 |_,_,.nil,_=>.nil
 |_,_,.cons _ C,0=>C
 |_,_,.cons p C,k+1=>.cons p (x1 C k)
section
variable{XJ:bB}{H:a9}{U:Type}[DecidableEq U]{D:AN XJ H U}{L:br}{XA:ag->au->Prop}{m:au}
def TY{r g:aq}{x:List (U×aq×ag)}{q:U}{y:Option xo->au->Prop}(f:D.room L)(h:D.is m.heap q g)(l:m.heap.DictOfH D r x)(A:x.length<=sizeLine)(p:q∈x.map (·.1))(s:∀(k:Nat) n,x[k]?=Z (q,n)->∀ah,ah.DictOfH D r (x.eraseIdx k)->aV.SameBut r m.heap ah->∀Yb,y (Z<|xX D (q,n)) {m with heap:=ah,toks:=Yb}):wpAny (aN XJ H) L (bc.Dict.takeOut r<|.ref g) y XA m:=by
 let⟨o,P,X8,b,t,hd,c,i,j⟩:=l;unfold bc.Dict.takeOut;try with_reducible refine fS ?_
 refine aw (D.pyHash f h ?_);refine aw (wpAny_dictFind_heap (s:={m with toks:=m.toks+D.draws q}) f h b hd c i j ?_ ?_)
 ·intro u;exact absurd p (not_mem_keys_of_get u)
 ·intro k n d;have v:P.size<=sizeLine:=by have a:=GK c;omega
  dsimp only;refine aw (rd (s:={m with toks:=m.toks+D.draws q}) b hd ?_);rw[entry_at c k,d];have w:k<P.size:=by
   have a:=GK c;have:=(e7.mp d).1;omega
  refine aw (wpAny_updateDictKeys (s:={m with toks:=m.toks+D.draws q}) b hd (aM<|s k n d _ ⟨_,_,X8+1,jB _ b<|a5.isFreed_of_dict<|Jk hd _,t.mapDictKeys _,Jk hd _,?_,?_,?_⟩ (lH ..) _) v (by
   rw[Array.eraseIdxIfInBounds];split
   ·rw[Array.size_eraseIdx];omega
   ·omega))
  ·rw[Array.eraseIdxIfInBounds,dif_pos w,Array.toList_eraseIdx,c,xt]
  ·intro e z;exact D.keeps (i e<|List.mem_of_mem_eraseIdx z) b hd (lH ..)
  ·rw[<-xt];exact O_ (List.eraseIdx_sublist _ _) j
end
section
variable{c:aI}
def Sb(S:c.A.units+20<bj):od c "dict.pop" (λe Q j y=>∃(r d:aq) (Xy:List (List X×ai)) (q:List X),e=.ref r/\Q=[.ref d]/\j r=Z (.aE Xy)/\hk j q d/\q∈Xy.map (·.1)/\
  ∀(k:Nat) (u:ai),(Xy.map (·.1)).Nodup->Xy[k]?=Z (q,u)->y u (upd j r<|.aE<|Xy.eraseIdx k)):=by
 intro G m B j e Q u XZ y z T U b;let⟨r,d,Xy,q,rfl,rfl,hd,al,f,s⟩:=b;cases T;let⟨I,rfl,am⟩:=U.one;cases am;let⟨i,an,x,YP,a⟩:=zb z.aU hd;have g:m.TypeIs (.ref r) "dict" := by
  let⟨o,P,X8,l,t,Y⟩:=a;exact⟨o,l,t.1⟩
 have h:Xy.length=x.length:=dB.length YP;have v:x.map (·.1)=Xy.map (·.1):=by
  clear s a i hd h f;induction YP with
  |nil=>rfl
  |cons p _ ap=>rw[bz,bz,ap,p.1]
 refine iF w0 g PySem.F.entry_dict_pop ?_ (PySem.F.args_dict_pop_2 _ _);unfold bc.«dict.pop»;refine aw ?_;unfold bc.Dict.keyAndDefault;refine aw (x8 g ?_);show wpAny _ _ (pure (r,ag.ref d,V)) _ _ m;refine aM ?_;have as:∀{P:Array xo},P.toList=x.map (xX<|ea c.prog c.w)->P.isEmpty=aA:=λ{P} he=>by
  have a1:0<(Xy.map (·.1)).length:=uW f;have a2:=congrArg List.length he;rw[a6,dA]at a2;rw[a6]at a1;rw[Array.isEmpty];exact decide_eq_false (by omega)
 have bd:=a;let⟨o,P,X8,be,Yq,bi,bm,C,Yj⟩:=a;dsimp only;rw[if_neg (show ¬ (keyPart<|ag.ref d).isSome=aa from cB)];refine aw (rd be bi<|aw<|aM ?_);rw[as bm,if_neg cB];refine aw (TY (mU S) (jJ z.aU al) bd (by omega) (by rw[v];exact f) λk n D ah bn bs Yb=>?_);dsimp only;rw[if_neg ↥0];let⟨bv,db,ca,E,J,cd,M⟩:=tP YP k (by rw[h];exact (e7.mp D).1);rw[D]at E;cases E;let⟨ds,ay⟩:=bv;dsimp only at J cd M;subst J;have ce:aG c G B (upd j r<|.aE<|Xy.eraseIdx k) {m with heap:=ah,toks:=Yb}:=by
  let⟨cU,ch,ci,O,t,cl,co,Y,cr⟩:=bn;have cs:(Xy.eraseIdx k).length<=sizeLine:=dg (List.length_eraseIdx_le _ _) i;refine rV (m:=m) z (by rw[hd];exact True.intro) bs ⟨cU,O⟩ ⟨cs,an,_,fF.keeps (x1 YP k) λdL XW R=>?_,cU,ch,ci,O,t,cl,co,cr⟩;rw[cm (Ab R hd<|λi=>nomatch i)];exact R
 exact aw (lW<|aM ⟨_,rfl,ay,_,ce,M,s k ay (v ▸ Yj) ca⟩)
def r_:ak->List ak->Option (ak×ak):=(λf D=>match f,D with
 |.aE Xy,[.im (.tup q)]=>if X.keys 7 q=aa then (Xy.findIdx? λn=>decide (n.1=q)).bind λk=>(Xy[k]?).map λn=>(.im n.2,.aE<|Xy.eraseIdx k) else V
 |_,_=>V)
theorem F4{j:ax}:∀{J:List (List X×X)}{E:List (List X×ai)}{k:Nat}{n:List X×ai},dW j J E->E[k]?=Z n->∃r,J[k]?=Z (n.1,r)/\b8 j r n.2
 |_,_,_,_,.nil,b=>by simp at b
 |_,_,0,_,@dB.cons _ _ _ g _ _ _ p C,b=>by
  cases b;let⟨c,YH⟩:=g;let⟨rfl,a⟩:=p;exact⟨YH,rfl,a⟩
 |_,_,k+1,_,.cons p C,b=>F4 (k:=k) C ⇑b
theorem A7{j:ax}:∀{d:List (List X×X)}{E:List (List X×ai)},dW j d E->E.map (·.1)=d.map (·.1)
 |_,_,.nil=>rfl
 |_,_,.cons p C=>by rw[bz,bz,A7 C,p.1]
def IW(E:c.A.units+20<bj):mY c "dict.pop" r_:=by
 intro G m B j e Q u XZ y z F H ⟨f,D,p,a2,Xz,XC,I,J,ae,a,s⟩;unfold r_ at a;split at a
 ·rename_i Xy q;split at a
  ·rename_i M;let⟨k,O,P⟩:=bg.mp a;let⟨n,b,R⟩:=b5.mp P;cases R;let⟨r,o,rfl,l,t,rfl⟩:=I;let⟨A,C,bd,be,rfl,⟨⟨d,XW,rfl,S,T⟩,rfl⟩,⟨rfl,rfl⟩,rfl⟩:=J;have v:fu j r:=⟨_,l,(λ_ a=>by cases a),(λ_ Y a=>by cases a)⟩;have w:n.1=q:=by
    let⟨U,al,Y⟩:=FF.mp O;rw[dF U]at b;cases b;exact e_ al
   refine Sb E G m B j _ _ u XZ y z F H ⟨r,d,o,q,rfl,rfl,l,⟨M,d,XW,rfl,S,T⟩,?_,λg am x an=>?_⟩
   ·rw[A7 t,<-w];exact cX.mpr ⟨n,fi b,rfl⟩
   ·let⟨YE,i,ap⟩:=F4 t an;have as:g=k:=by
     rw[A7 t]at x;have a1:(Xy.map (·.1))[g]?=Z q:=by rw[ef,i];rfl
     have YH:(Xy.map (·.1))[k]?=Z q:=by rw[ef,b,<-w];rfl
     let⟨c2,c6⟩:=e7.mp a1;let⟨fO,e8⟩:=e7.mp YH;exact (y9 x).mp (c6.trans e8.symm)
    subst as;rw[b]at i;cases i;have C:=(a8.chg (Yy:=.aE (o.eraseIdx g)) (N:=[r]) (XT:=[]) (.head _) v gB<|λe h=>nomatch h).tup;refine s am _ [] [r] ⟨ap.mono C.tup,rfl⟩ ⟨r,_,rfl,dx,?_,rfl⟩ (a8.chg (.head _) v (es _ _) λe h=>by
     rw[jU]at h;exact d6 _ h)
    exact dW.mono C.tup (x1 t g)
  ·cases a
 ·cases a
end
end L2
namespace L2
open Spec PyProof.Rows
variable{Y4 YA YK n:b9}{o:aY}
theorem eS.many{Y Yp:List aq}{j S:ax}{b ah:aV}(q:∀d I,b.get? d=Z I->ah.get? d=Z I)(c:cN j S)(e:∀d o,b.get? d=Z o->j d=V->S d=V):eS Y Yp j S b ah where
 keep:=λd o a W W W=>q d o a
 slot:=λd o a W W W=>⟨o.slots,q d o a⟩
 free:=λd o a v W=>e d o a v
 jc:=λd o W a W W=>q d o a
 there:=λd o a W=>⟨o,q d o a⟩
 iG:=λd x a=>c _ _ a
 i_:=λd o I a=>c _ _ a
 kn:=λd XF a=>⟨#[],by rw[c _ _ a];simp⟩
def j6(j:ax):List (aq×List ai)->ax
 |[]=>j
 |n::p=>upd (j6 j p) n.1 (.tup n.2)
theorem vd{j:ax}{d:aq}:∀{J:List (aq×List ai)},(∀n∈J,n.1≠d)->j6 j J d=j d
 |[],_=>rfl
 |n::p,b=>by
  unfold j6;rw[cm (dn<|b n<|.head _)];exact vd λs a=>b s (.tail _ a)
theorem FH{j:ax}:∀{J:List (aq×List ai)}{n:aq×List ai},(J.map (·.1)).Nodup->n∈J->j6 j J n.1=Z (.tup n.2)
 |s::p,n,ae,b=>by
  have ae:=df.mp ae;unfold j6;rcases b0.mp b with rfl|b
  ·exact dx
  ·rw[cm λa=>ae.1 (by show s.1∈_;rw[<-a];exact cX.mpr ⟨n,b,rfl⟩)];exact FH ae.2 b
theorem Cp{j:ax}{d:aq}{o:eY}:∀{J:List (aq×List ai)},j6 j J d=Z o->j d=Z o\/∃n∈J,d=n.1/\o=.tup n.2
 |[],a=>.inl a
 |n::p,a=>by
  unfold j6 at a;by_cases c:d=n.1
  ·rw[c,dx]at a;cases a;exact .inr ⟨n,.head _,c,rfl⟩
  ·rw[cm c]at a;rcases Cp a with b|⟨s,e,l,t⟩
   ·exact .inl b
   ·exact .inr ⟨s,.tail _ e,l,t⟩
section
variable{c:aI}
def Mc(D:bL):bL:=(λB j y=>D B j λe XE=>∃g Xy,e=.ref g/\XE g=Z (.cb Xy)/\
 ∀(a:List aq) J,a.length=Xy.length->(J::a).Nodup->(∀d∈J::a,XE d=V)->y (.ref J) (upd (j6 XE<|a.zip<|Xy.map λn=>[bR n.1,n.2]) J<|.lst<|a.map ai.ref))
def SN{D:bL}(J:c.calm=aa)(cd:fc c "list")(ce:c.aJ "list" = V)(ch:bu c o D)(C:je o "items" c.env (bP o c.env)=bP o c.env:=by rfl)(ci:(YK.endLine==YA.line)=aa:=by rfl):
  bu c (.Call (.Name "list" n) [.Call (.Attribute o "items" YK) [] [] YA] [] Y4) (Mc D):=by
 intro G m B j y z b;refine ru (nX z cd ce (show fb "list" = Z (.type "list") by decide +kernel) (tk ?_ rfl rfl) ∅ ∅);refine pj ?_;refine w3 (T := "dict") (id := "dict.items") C rfl ci r8 J6 PySem.F.type_dict_items (bK (ch G m B j _ z b) λI A ⟨e,XE,ap,cl,g,Xy,Yp,co,s⟩=>?_);subst Yp;obtain rfl:I=ag.ref g:=cl;let⟨i,hd,Q,as,L⟩:=yJ ap.aU co;refine⟨L.typeIs,λd a=>?_,?_⟩
 ·cases a;let⟨Yo,a1,X8,U,al,Y⟩:=L;exact⟨Yo,U,al.2.1⟩
 ·refine method_meetsIn J6 PySem.F.entry_dict_items rfl (Jq ⟨rfl,L.typeIs,PySem.F.args_dict_items_1 _,_,meets_dict_items (ip c.prog c.w) g hd,⟨Q,L⟩,?_⟩);refine ri ?_;have M:aG c G B XE {A with heap:=A.heap.push {cls:=.type "dict_items",data:=.fields #[.ref g]} }:=ap.kept (Yc:=A.toks) λd o a=>cw _ a;let⟨Yo,a1,X8,U,al,cr,cs,db,ds⟩:=L;have a2:(A.heap.push {cls:=.type "dict_items",data:=.fields #[.ref g]}).DictAt (ip c.prog c.w) g Q X8:=⟨Yo,a1,cw _ U,al,cr,cs,db,ds⟩;have ge:Xy.length=Q.length:=as.length;refine PySem.W.kdx_call (s:={A with heap:=A.heap.push {cls:=.type "dict_items",data:=.fields #[.ref g]} }) (M.ok.hd J) ⟨_,dE _ rfl,rfl,rfl⟩ a2 (by omega) λah Yb dL f r S bd gl P eq=>?_;generalize am:(A.heap.push {cls:=.type "dict_items",data:=.fields #[.ref g]}).objs.size=XQ at bd P ⊢;dsimp only at S;generalize A.heap.push {cls:=.type "dict_items",data:=.fields #[.ref g]}=O at M a2 S am;have be:r.length=Xy.length:=by omega
  have low:∀d∈XQ::r,O.objs.size<=d:=λd C=>by
   rcases b0.mp C with rfl|C
   ·exact rP am
   ·exact dg (rP am) (lA<|P.above d C)
  have ae:(XQ::r).Nodup:=df.mpr ⟨λi=>gN _<|P.above _ i,P.rise.imp λb=>c0 b⟩;have bi:∀d∈XQ::r,XE d=V:=λd C=>M.aU.fresh (low d C);have ev:r.length=(Xy.map λn=>[bR n.1,n.2]).length:=by rw[a6];exact be
  have go:(r.zip<|Xy.map λn=>[bR n.1,n.2]).map (·.1)=r:=y_ (rP ev);have bm:∀n∈r.zip (Xy.map λn=>[bR n.1,n.2]),n.1∈r:=λn E=>(rh E).1;have an:cN XE (upd (j6 XE<|r.zip<|Xy.map λn=>[bR n.1,n.2]) XQ<|.lst<|r.map ai.ref):=λd o a=>by
   have R:∀f∈XQ::r,f≠d:=λf J i=>by rw[<-i,bi f J]at a;cases a
   rw[cm (dn<|R XQ<|.head _),vd λn E=>R _<|.tail _<|bm n E];exact a
  refine⟨.ref XQ,_,M.un (Yc:=Yb) (eS.many S an λd o a v=>?_)<|λd o a=>?_,rfl,s r XQ be ae bi⟩
  ·have ex:=cn a;have R:∀f∈XQ::r,f≠d:=λf J i=>absurd (eF ex<|low f J) (by rw[i];exact gN _);rw[cm (dn<|R XQ<|.head _),vd λn E=>R _<|.tail _<|bm n E];exact v
  ·by_cases bn:d=XQ
   ·subst bn;rw[dx]at a;cases a;refine⟨by rw[a6];omega,dL.toList,f,?_,by simpa using bd⟩;rw[eq];refine rG ↥0 λh u I l t=>?_;rw[ef]at l t;cases XG:r[h]? with
    |none=>rw[XG]at l;cases l
    |some gt=>rw[XG]at l t;cases l;cases t;exact rfl
   ·have g1:=a;rw[cm bn]at a;rcases Cp a with a|⟨n,E,rfl,rfl⟩
    ·exact (M.aU d o a).fB (λf fd Y s=>S f fd s) (λf s=>an _ _ s) λf x s=>an _ _ s
    ·let⟨k,fn⟩:=Ej.mp E;have bs:=fn;rw[sh]at bs;let⟨fr,bv⟩:=bs;let⟨XX,q,e,ca,f0,f1⟩:=P.pairs k n.1 fr;rw[ef]at bv;let⟨p,f2,f4⟩:=b5.mp bv;let⟨g2,f8,ga⟩:=E1 as (q:=p.1) (e:=p.2) f2;rw[f8]at ca;cases ca;rw[<-f4];exact⟨by show 2<=sizeLine;decide,[XX,_],.cons (S3 f0)<|.cons ga .nil,_,f1,rfl,0,rfl⟩
@[simp] def wF(O:aC bo):aC ak:=λw=>(O w).bind λn=>(dC n.2 n.1).bind λr=>match r with
 |.cb Xy=>Z (.lst<|Xy.map λn=>.tup [qn n.1,n.2],n.2)
 |_=>V
theorem CL{j:ax}:∀{f:List (cy×X)}{Xy:List (cy×ai)}{a:List aq},dW j f Xy->a.length=Xy.length->(∀n∈a.zip (Xy.map λn=>[bR n.1,n.2]),j n.1=Z (.tup n.2))->bt j (f.map λn=>.tup [qn n.1,n.2]) (a.map ai.ref)
 |_,_,[],.nil,_,_=>rfl
 |_,_,_::_,.nil,c,_=>by simp at c
 |_,_,[],.cons _ _,c,_=>by simp at c
 |_,_,d::a,@dB.cons _ _ _ n s _ _ p C,c,b=>by
  refine⟨.ref d,a.map ai.ref,rfl,⟨d,_,rfl,b (d,[bR s.1,s.2])<|.head _,⟨_,_,rfl,?_,_,_,rfl,p.2,rfl⟩⟩,CL C ⇑c λe g=>b e<|.tail _ g⟩;rw[p.1];exact U5 _
def SX{O:aC bo}(E:fc c "list")(F:c.aJ "list" = V)(G:du c o O)(m:c.calm=aa:=by rfl)(H:je o "items" c.env (bP o c.env)=bP o c.env:=by rfl)(I:(YK.endLine==YA.line)=aa:=by rfl):
  bZ c (.Call (.Name "list" n) [.Call (.Attribute o "items" YK) [] [] YA] [] Y4) (wF O):=by
 refine dR (SN m E F G H I) λB j y L=>?_;let⟨w,N,p,X0,R,ae,M,s⟩:=L;let⟨⟨e,XD⟩,l,t⟩:=bg.mp M;let⟨r,P,q⟩:=bg.mp t;split at q
 ·rename_i Xy;cases q;refine⟨w,N,e,XD,R,ae,l,λu XE XT Xz v Q S=>?_⟩;let⟨ap,g,Yk,rfl,T,U,Y⟩:=Q.read v P;refine⟨g,Yk,rfl,T,λb J x nC z=>?_⟩;have al:b.length=(Yk.map λn=>[bR n.1,n.2]).length:=by rw[a6];exact x
  have am:(b.zip<|Yk.map λn=>[bR n.1,n.2]).map (·.1)=b:=y_ (rP al);have A:∀n∈b.zip (Yk.map λn=>[bR n.1,n.2]),n.1∈b:=λn h=>(rh h).1;have C:=df.mp nC;have k:cN XE (upd (j6 XE<|b.zip<|Yk.map λn=>[bR n.1,n.2]) J<|.lst<|b.map ai.ref):=λd o a=>by
   have D:∀f∈J::b,f≠d:=λf m i=>by rw[<-i,z f m]at a;cases a
   rw[cm (dn<|D J<|.head _),vd λn h=>D _<|.tail _<|A n h];exact a
  refine s _ _ XT [J] (v.mono k.tupS λg Y o a=>k g o a) ⟨J,_,rfl,dx,CL (dB.sP U λ_ Y i=>⟨i.1,i.2.mono k.tupS.tup⟩) x λn h=>?_,rfl⟩ (S.new k (es _ _) (λg an=>by rw[cf.mp an];exact z _ (.head _)) v.chg);rw[cm λi=>C.1 (by rw[<-i];exact A n h)];exact FH (by rw[am];exact C.2) h
 ·cases q
theorem bt.Gm{j:ax}{D:List X}{x:List ai}(b:bt j D x):∀v:Nat,bt j (List.replicate v D).flatten (List.replicate v x).flatten
 |0=>rfl
 |v+1=>by
  rw[oz,oz,o_,o_];exact b.app (bt.Gm b v)
def nQ:fp:=(λg d=>match g,d with
 |.lst D,.im (.int q)=>if decide (0<=q/\q<=100/\D.length<=1000)=aa then Z (.lst (List.replicate q.toNat D).flatten) else V
 |_,_=>V)
def H8:e3 c (e5 .Mult) nQ:=by
 refine MX.imp λe A j y d=>?_;let⟨Ym,T,r,f,g,a,s⟩:=d;unfold nQ at a;split at a
 ·rename_i D q;split at a
  ·rename_i b;cases a;have b:=e_ b;let⟨Y,n,x,rfl,l,t,Y⟩:=f;have m:=t.length;refine⟨n,q,x,rfl,g.i,l,by omega,by omega,kN ?_,λv k=>ck.l s k<|t.Gm _⟩;have:q.toNat<=100:=by omega
   calc _<=1000*100:=Nat.mul_le_mul (by omega) this
    _<=_:=by decide
  ·cases a
 ·cases a
end
end L2
namespace G
open L2
variable{Y7 W:List (Int×Int)}{a:a0}{YJ:List a0}{n:Int×Int}{u q p r O H d g E:Int}{Y X3 M XK:List ar}{B z Yj:Option ak}{h v:Nat}{f:ar}{e:Bool}{XD w:aQ}{x:List X}{b:ak}
def Ju:bx:=((ba (bW 1<|ac d_ (ab<|ac cj (ab<|ac cj (ab<|ac gc (aj 1)<|ab<|av<|.int 6364136223846793005)<|ab<|ac d_ (aj 4)<|ab<|ac lX (ab<|av<|.int 10)<|ab<|av<|.int 40)<|ab<|av<|.int 29)<|ab<|av<|.int 2305843009213693951)<|d7 (bb<|ac z9 (ab<|bQ kS<|ao (aj 4) az)<|ab<|ac lX (ab<|av<|.int 10)<|ab<|av<|.int 18) (fD<|fg gQ 2 eW<|ao (ab<|ac d_ (ab<|bQ kS<|ao (aj 4) az)<|aj 3) az) fC))
def SF:bx:=((ba (bW 1<|av<|.int 17)<|ba (bW 2<|eu az)<|ba (bW 3<|ac gc (ab<|ac gc (ab<|ac lX (ab<|av<|.int 10)<|ab<|av<|.int 60)<|ab<|ac lX (ab<|av<|.int 10)<|ab<|av<|.int 60)<|ab<|ac lX (ab<|av<|.int 10)<|ab<|av<|.int 60)<|ba (e4 (cL<|ab<|kp (aj 0) m6<|oL<|av<|.int 63) (bH 4) G.Ju)<|dk<|CY [.inr "own",.inr "seed",.inr "turn"]<|ao (aj 2)<|ao (aj 1)<|ao (ab<|av<|.int 0) az))
def AX:cW:=(dp 1 5 [0] SF)
def yg:aC Bool:=((eb (l_ 0 0 "own")<|bb<|ac c_ (ab<|oD 0 0 "own" 0)<|ab<|av<|.int 0))
def Ae:bx:=((fD<|sx 0 0 "own" l9<|.int 0))
def If:bx:=((ba (ho G.yg G.Ae 1000000)<|ba (d7 (l_ 0 0 "own") (ba (bW 2<|ac d_ (ab<|oD 0 0 "own" 0)<|aj 1)<|ba (hB (ac ll (ab<|oD 0 0 "own" 0)<|aj 1)<|sb 0 0 "own" 0)<|dk<|dQ 2) fC)<|ba (hB (ac cj (ab<|lZ 0 2 "turn")<|ab<|av<|.int 1)<|iA 0 (av<|.str "turn")<|Bc 2)<|ba (bW 3<|lZ 0 2 "turn")<|ba (bW 4<|ac cj (ab<|ac cj (ab<|lZ 0 1 "seed")<|ab<|ac gc (ab<|ac gc (aj 3)<|aj 3)<|ab<|av<|.int 7919)<|ab<|ac gc (aj 3)<|ab<|av<|.int 104729)<|ba (bW 4<|ac d_ (ab<|ac gc (aj 4)<|ab<|av<|.int 48271)<|ab<|av<|.int 2305843009213693921)<|ba (bW 4<|ac d_ (ab<|ac gc (aj 4)<|ab<|ac cj (ab<|ac d_ (aj 4)<|ab<|av<|.int 1000003)<|ab<|av<|.int 69621)<|ab<|av<|.int 2305843009213693907)<|dk<|ac d_ (ab<|ac ll (aj 4)<|ab<|av<|.int 65537)<|aj 1))
def fA:cW:=(dp 2 5 [0,1] If)
def PQ:bx:=((dk<|ac bh (aj 1)<|ab<|bf 2 G.fA<|ao (aj 0)<|ao (ab<|bQ dI<|ao (aj 1) az) az))
def lY:cW:=(dp 2 2 [0,1] PQ)
def Pl:bx:=((dk<|bf 2 G.fA<|ao (aj 0)<|ao (ab<|ac cj (ab<|ac bh (ab<|eu<|ao (aj 1)<|ao (aj 2) az)<|ab<|bQ vInt<|ao (ab<|ac c_ (ab<|bf 2 G.fA<|ao (aj 0)<|ao (ab<|av<|.int 8) az)<|ab<|av<|.int 0) az)<|ab<|av<|.int 1) az))
def y4:cW:=(dp 3 3 [0,1,2] Pl)
def B_:aC ak:=((dQ 0))
def HZ:aC Bool:=((bb<|ac gr (aj 0)<|aj 1))
def RH:bx:=((ba (hB (dQ 1)<|jt 2<|fY (bH 2)<|fY (bH 3) jH)<|ba (bW 4<|eu<|ao (ab<|cp<|ao (ab<|ac jd (aj 2)<|ab<|av<|.int 1)<|ao (aj 3) az)<|ao (ab<|cp<|ao (aj 2)<|ao (ab<|ac jd (aj 3)<|ab<|av<|.int 1) az)<|ao (ab<|cp<|ao (aj 2)<|ao (ab<|ac cj (aj 3)<|ab<|av<|.int 1) az)<|ao (ab<|cp<|ao (ab<|ac cj (aj 2)<|ab<|av<|.int 1)<|ao (aj 3) az) az)<|dk<|d2 1 [0] (cL<|aj 4) (bH 0) G.HZ G.B_))
def lq:cW:=(dp 2 5 [0,1] RH)
def Md:aC ak:=((cp<|ao (aj 0)<|ao (ab<|av<|.aH aa) az))
def DU:bx:=((d7 (bb<|ac c_ (ab<|ac d_ (ab<|ac cj (ab<|ac cj (ab<|bQ dI<|ao (ab<|bf 2 G.lq<|ao (aj 3)<|ao (aj 5) az) az)<|ab<|bQ vInt<|ao (ab<|ac c_ (aj 5)<|aj 1) az)<|ab<|bQ vInt<|ao (ab<|ac c_ (aj 5)<|aj 2) az)<|ab<|av<|.int 2)<|ab<|av<|.int 1) (fD<|fg gQ 4 eW<|ao (aj 5) az) fC))
def WU:bx:=((ba (bW 3<|bQ n7<|ao (ab<|d2 1 [] (cL<|aj 0) (bH 0) gW G.Md) az)<|ba (bW 4<|eu az)<|ba (e4 (cL<|ab<|bQ hA<|ao (aj 0) az) (bH 5) G.DU)<|dk<|dQ 4))
def o7:cW:=(dp 3 6 [0,1,2] WU)
def vb:bx:=((ba (bW 5<|ac bh (ab<|eu<|ao (ab<|ac bh (aj 3)<|ab<|k7<|av<|.int 1)<|ao (ab<|bf 2 G.lY<|ao (aj 0)<|ao (aj 3) az) az)<|ab<|bf 2 G.fA<|ao (aj 0)<|ao (ab<|av<|.int 2) az)<|ba (bW 6<|bf 2 G.lY<|ao (aj 0)<|ao (ab<|eu<|ao (ab<|cp<|ao (ab<|k7<|av<|.int 1)<|ao (ab<|av<|.int 0) az)<|ao (ab<|cp<|ao (ab<|av<|.int 0)<|ao (ab<|k7<|av<|.int 1) az)<|ao (ab<|cp<|ao (ab<|av<|.int 0)<|ao (ab<|av<|.int 1) az)<|ao (ab<|cp<|ao (ab<|av<|.int 1)<|ao (ab<|av<|.int 0) az) az) az)<|ba (bW 7<|cp<|ao (ab<|ac cj (ab<|ac bh (aj 5)<|ab<|av<|.int 0)<|ab<|ac bh (aj 6)<|ab<|av<|.int 0)<|ao (ab<|ac cj (ab<|ac bh (aj 5)<|ab<|av<|.int 1)<|ab<|ac bh (aj 6)<|ab<|av<|.int 1) az)<|d7 (eb (bb<|ac ph (ab<|bQ dI<|ao (aj 3) az)<|aj 1)<|eb (bb<|ac hb (aj 7)<|aj 2)<|eb (bb<|kO g6 g6 (ab<|av<|.int 0) (ab<|ac bh (aj 7)<|ab<|av<|.int 0)<|ab<|av<|.int 22)<|bb<|kO g6 g6 (ab<|av<|.int 0) (ab<|ac bh (aj 7)<|ab<|av<|.int 1)<|ab<|av<|.int 22) (ba (hB (av<|.aH aa)<|iA 2 (dQ 7) hG)<|fD<|fg gQ 3 eW<|ao (aj 7) az) fC))
def O6:bx:=((ba (bW 2<|xJ (cp<|ao (ab<|av<|.int 12)<|ao (ab<|av<|.int 12) az)<|av<|.aH aa)<|ba (bW 3<|eu<|ao (ab<|cp<|ao (ab<|av<|.int 12)<|ao (ab<|av<|.int 12) az) az)<|ba (e4 (jO<|ao (ab<|ac gc (aj 1)<|ab<|av<|.int 3) az) (bH 4) G.vb)<|dk<|dQ 3))
def yG:cW:=(dp 2 8 [0,1] O6)
def vD:bx:=((ba (bW 7<|iP<|fV (bb<|ac gr (aj 5)<|ab<|cp<|ao (ab<|av<|.int 0)<|ao (ab<|ac cj (aj 2)<|ab<|av<|.int 1) az)<|bb<|ac gr (aj 6)<|ab<|cp<|ao (ab<|av<|.int 0)<|ao (ab<|ac cj (aj 3)<|ab<|av<|.int 1) az)<|d7 (fV (bb<|ac ph (aj 1)<|ab<|av<|.int 2)<|eb (bb<|ac c_ (aj 1)<|ab<|av<|.int 2)<|fV (lG<|aj 7)<|bb<|ac c_ (ab<|bf 2 G.fA<|ao (aj 0)<|ao (ab<|av<|.int 9) az)<|ab<|av<|.int 0) (fD<|fg gQ 4 eW<|ao (ab<|cp<|ao (aj 5)<|ao (aj 6) az) az)<|d7 (eb (bb<|ac c_ (aj 1)<|ab<|av<|.int 3)<|fV (bb<|ac c_ (aj 5)<|ab<|av<|.int 0)<|eb (bb<|ac c_ (ab<|ac d_ (aj 6)<|ab<|av<|.int 2)<|ab<|av<|.int 0)<|bb<|ac iB (ab<|bf 2 G.fA<|ao (aj 0)<|ao (ab<|av<|.int 5) az)<|ab<|av<|.int 0) (fD<|fg gQ 4 eW<|ao (ab<|cp<|ao (aj 5)<|ao (aj 6) az) az)<|d7 (eb (bb<|ac c_ (aj 1)<|ab<|av<|.int 4)<|bb<|ac iB (ab<|bf 2 G.fA<|ao (aj 0)<|ao (ab<|av<|.int 5) az)<|ab<|av<|.int 0) (fD<|fg gQ 4 eW<|ao (ab<|cp<|ao (aj 5)<|ao (aj 6) az) az)<|d7 (eb (bb<|ac c_ (aj 1)<|ab<|av<|.int 5)<|fV (bb<|ac c_ (ab<|ac d_ (aj 5)<|ab<|av<|.int 2)<|ab<|av<|.int 0)<|bb<|ac c_ (aj 6)<|ab<|ac gc (ab<|ac cj (aj 3)<|ab<|av<|.int 1)<|ab<|ac d_ (ab<|ac ll (aj 5)<|ab<|av<|.int 2)<|ab<|av<|.int 2) (fD<|fg gQ 4 eW<|ao (ab<|cp<|ao (aj 5)<|ao (aj 6) az) az) fC))
def vs:bx:=((e4 (jO<|ao (ab<|ac cj (aj 3)<|ab<|ac gc (ab<|av<|.int 2)<|ab<|bQ vInt<|ao (ab<|ac iB (aj 1)<|ab<|av<|.int 1) az) az) (bH 6) G.vD))
def To:bx:=((ba (bW 1<|bf 2 G.fA<|ao (aj 0)<|ao (ab<|av<|.int 6) az)<|ba (nj 2 3<|ao (ab<|ac cj (ab<|av<|.int 1)<|ab<|bf 2 G.fA<|ao (aj 0)<|ao (ab<|av<|.int 5) az)<|ao (ab<|ac cj (ab<|av<|.int 1)<|ab<|bf 2 G.fA<|ao (aj 0)<|ao (ab<|av<|.int 6) az) az)<|ba (d7 (bb<|ac c_ (aj 1)<|ab<|av<|.int 1) (dk<|bf 2 G.yG<|ao (aj 0)<|ao (ab<|ac cj (ab<|av<|.int 2)<|ab<|bf 3 G.y4<|ao (aj 0)<|ao (ab<|av<|.int 20)<|ao (ab<|av<|.int 50) az) az) fC)<|ba (bW 4<|eu az)<|ba (e4 (jO<|ao (ab<|ac cj (aj 2)<|ab<|ac gc (ab<|av<|.int 2)<|ab<|bQ vInt<|ao (ab<|ac iB (aj 1)<|ab<|av<|.int 1) az) az) (bH 5) G.vs)<|dk<|ac cj (aj 4)<|ab<|ac nQ (ab<|eu<|ao (ab<|cp<|ao (ab<|av<|.int 0)<|ao (ab<|av<|.int 0) az) az)<|ab<|bQ vInt<|ao (ab<|ac hb (ab<|cp<|ao (ab<|av<|.int 0)<|ao (ab<|av<|.int 0) az)<|aj 4) az))
def yS:cW:=(dp 1 8 [0] To)
def V8:aC ak:=((cp<|ao (aj 0)<|ao (ab<|av<|.aH aa) az))
def KL:bx:=((ba (fD<|fg nL 5 r_<|ao (aj 8) az)<|fD<|fg gQ 6 eW<|ao (aj 8) az))
def ub:aC Bool:=((bb<|ac ph (aj 7)<|ab<|bQ dI<|ao (aj 6) az))
def xx:bx:=((ba (e4 (cL<|ab<|bf 2 G.lq<|ao (aj 5)<|ao (ab<|ac bh (aj 6)<|aj 7) az) (bH 8) G.KL)<|bW 7<|ac cj (aj 7)<|ab<|av<|.int 1))
def uC:aC Bool:=((bb<|ac iB (ab<|bQ dI<|ao (ab<|bf 3 G.o7<|ao (aj 6)<|ao (ab<|ac bh (aj 6)<|ab<|av<|.int 0)<|ao (ab<|ac bh (aj 6)<|ab<|av<|.int 0) az) az)<|aj 1))
def Av:bx:=((fD<|fg gQ 6 vz az))
def Dy:aC ak:=((cp<|ao (ab<|ac cj (aj 0)<|aj 2)<|ao (ab<|ac cj (aj 1)<|aj 3) az))
def Uy:bx:=((ba (bW 2<|bf 1 G.yS<|ao (aj 0) az)<|ba (nj 3 4<|ao (ab<|bf 2 G.fA<|ao (aj 0)<|ao (ab<|av<|.int 8) az)<|ao (ab<|bf 2 G.fA<|ao (aj 0)<|ao (ab<|av<|.int 8) az) az)<|ba (bW 5<|bQ n7<|ao (ab<|d2 1 [] (cL<|aj 2) (bH 0) gW G.V8) az)<|ba (bW 6<|eu<|ao (ab<|bf 2 G.lY<|ao (aj 0)<|ao (ab<|bQ hA<|ao (aj 5) az) az) az)<|ba (fD<|fg nL 5 r_<|ao (ab<|ac bh (aj 6)<|ab<|av<|.int 0) az)<|ba (bW 7<|av<|.int 0)<|ba (ho G.ub G.xx 1000000)<|ba (ho G.uC G.Av 1000000)<|dk<|bQ kM<|ao (ab<|bQ hA<|ao (ab<|d2 2 [3,4] (cL<|aj 6) (jt 2<|fY (bH 0)<|fY (bH 1) jH) gW G.Dy) az) az))
def Ak:cW:=(dp 2 9 [0,1] Uy)
def BR:bx:=((d7 (eb (bb<|ac c_ (ab<|ac cj (ab<|bQ kS<|ao (ab<|ac jd (ab<|ac bh (aj 2)<|ab<|av<|.int 0)<|ab<|ac bh (aj 3)<|ab<|av<|.int 0) az)<|ab<|bQ kS<|ao (ab<|ac jd (ab<|ac bh (aj 2)<|ab<|av<|.int 1)<|ab<|ac bh (aj 3)<|ab<|av<|.int 1) az)<|ab<|av<|.int 1)<|bb<|ac vY (aj 2)<|aj 3) (fD<|fg gQ 1 eW<|ao (ab<|cp<|ao (aj 2)<|ao (aj 3) az) az) fC))
def IH:bx:=((e4 (cL<|aj 0) (bH 3) G.BR))
def V2:bx:=((ba (bW 1<|eu az)<|ba (e4 (cL<|aj 0) (bH 2) G.IH)<|dk<|bQ hA<|ao (aj 1) az))
def pQ:cW:=(dp 1 4 [0] V2)
def AB:aC ak:=((dQ 0))
def wM:aC Bool:=((bb<|ac gr (aj 1)<|aj 0))
def G0:bx:=((d7 (bb<|ac gd (ab<|ac d_ (ab<|bQ dI<|ao (ab<|d2 1 [5] (cL<|aj 3) (bH 0) G.wM G.AB) az)<|ab<|av<|.int 2)<|ab<|bQ vInt<|ao (ab<|ac gr (aj 5)<|aj 4) az) (dk<|av<|.aH aA) fC))
def Vi:bx:=((ba (bW 4<|bf 3 G.o7<|ao (aj 0)<|ao (aj 1)<|ao (aj 2) az)<|ba (e4 (cL<|aj 0) (bH 5) G.G0)<|dk<|av<|.aH aa))
def zl:cW:=(dp 4 6 [0,1,2,3] Vi)
def CB:aC ak:=((cp<|ao (aj 0)<|ao (ab<|av<|.aH aa) az))
def uT:bx:=((d7 (eb (bb<|ac hb (aj 3)<|aj 2)<|bb<|ac gd (ab<|bf 2 G.lq<|ao (ab<|bQ n7<|ao (ab<|d2 1 [] (cL<|aj 2) (bH 0) gW G.CB) az)<|ao (aj 3) az)<|ab<|eu az) (d7 (bb<|ac g6 (ab<|bQ dI<|ao (ab<|bf 1 G.pQ<|ao (ab<|bQ kM<|ao (ab<|bQ hA<|ao (ab<|ac cj (aj 2)<|ab<|eu<|ao (aj 3) az) az) az) az) az)<|ab<|av<|.int 10) (fD<|fg gQ 2 eW<|ao (aj 3) az) fC) fC))
def So:bx:=((ba (bW 1<|bf 2 G.Ak<|ao (aj 0)<|ao (ab<|av<|.int 14) az)<|ba (bW 2<|eu<|ao (ab<|ac bh (aj 1)<|ab<|bf 2 G.fA<|ao (aj 0)<|ao (ab<|bQ dI<|ao (aj 1) az) az) az)<|ba (e4 (cL<|ab<|ac nQ (ab<|bQ qW<|ao (aj 1) az)<|ab<|av<|.int 3) (bH 3) G.uT)<|dk<|bQ kM<|ao (ab<|bQ hA<|ao (aj 2) az) az))
def Bh:cW:=(dp 1 4 [0] So)
def KG:aC ak:=((ac o4 (ab<|av<|.int 1)<|ab<|ac j7 (aj 1)<|aj 0))
def Er:bx:=((hB (bQ q9<|ao (ab<|ac cj (aj 10)<|ab<|av<|.int 1)<|ao (ab<|so 5 (ac l8 (aj 9)<|aj 8)<|av<|.int 99) az)<|iA 5 (ac l8 (aj 9)<|aj 8) hG))
def F5:bx:=((ba (bW 8<|ac cj (ab<|ac o4 (ab<|av<|.int 1)<|ab<|ac j7 (aj 0)<|aj 6)<|ab<|ac o4 (ab<|av<|.int 1)<|ab<|ac j7 (aj 0)<|aj 7)<|e4 (cL<|ab<|wF<|aj 5) (jt 2<|fY (bH 9)<|fY (bH 10) jH) G.Er))
def WC:bx:=((ba (bW 3<|bf 3 G.o7<|ao (aj 0)<|ao (aj 1)<|ao (aj 2) az)<|ba (bW 4<|bQ tR<|ao (ab<|d2 1 [0] (cL<|aj 3) (bH 0) gW G.KG) az)<|ba (bW 5<|KP (av<|.int 0)<|av<|.int 0)<|ba (e4 (cL<|ab<|bf 1 G.pQ<|ao (aj 0) az) (jt 2<|fY (bH 6)<|fY (bH 7) jH) G.F5)<|dk<|ac bh (aj 5)<|aj 4))
def A1:cW:=(dp 3 11 [0,1,2] WC)
def Ey:aC ak:=((dQ 0))
def KU:aC Bool:=((bb<|ac hb (aj 0)<|aj 1))
def xk:bx:=((ba (nj 6 7<|ao (ab<|bf 2 G.lY<|ao (aj 1)<|ao (aj 3) az)<|ao (ab<|bf 2 G.lY<|ao (aj 1)<|ao (aj 3) az) az)<|ba (bW 8<|bf 3 G.oO<|ao (aj 3)<|ao (aj 6)<|ao (aj 7) az)<|ba (d7 (fV (qu<|lG<|ab<|E2 "tuple"<|aj 8)<|bb<|ac gd (ab<|bQ qW<|ao (aj 8) az)<|ab<|qN<|ao (aj 8) az) (dk<|av<|.aH aA) fC)<|ba (d7 (bb<|ac gd (ab<|d2 1 [4] (cL<|aj 8) (bH 0) G.KU G.Ey)<|ab<|eu az) (dk<|av<|.aH aA) fC)<|ba (d7 (fV (qu<|lG<|ab<|bf 4 G.zl<|ao (aj 3)<|ao (aj 6)<|ao (aj 7)<|ao (aj 8) az)<|bb<|ac gd (ab<|bQ dI<|ao (aj 8) az)<|ab<|bf 3 G.A1<|ao (aj 3)<|ao (aj 6)<|ao (aj 7) az) (dk<|av<|.aH aA) fC)<|d7 (bb<|ac gd (ab<|bQ dI<|ao (ab<|bf 3 G.oO<|ao (aj 3)<|ao (aj 7)<|ao (aj 6) az) az)<|ab<|bQ dI<|ao (aj 8) az) (dk<|av<|.aH aA) fC))
def Es:bx:=((ba (bW 3<|bf 1 G.Bh<|ao (aj 1) az)<|ba (bW 4<|bf 1 G.pQ<|ao (aj 3) az)<|e4 (jO<|ao (ab<|av<|.int 4) az) (bH 5) G.xk))
def SE:bx:=((ba (bW 1<|bf 1 G.AX<|ao (aj 0) az)<|ba (e4 (jO<|ao (ab<|av<|.int 4) az) (bH 2) G.Es)<|dk<|ac c_ (ab<|bf 3 G.oO<|ao (ab<|cp<|ao (ab<|cp<|ao (ab<|av<|.int 0)<|ao (ab<|av<|.int 0) az) az)<|ao (ab<|cp<|ao (ab<|av<|.int 0)<|ao (ab<|av<|.int 0) az)<|ao (ab<|cp<|ao (ab<|av<|.int 0)<|ao (ab<|av<|.int 0) az) az)<|ab<|cp az))
def qR:cW:=(dp 1 9 [0] SE)
abbrev ob:List cy:=[.inr "own",.inr "seed",.inr "turn"]
abbrev cx(own:List Int)(m C:Int):ak:=.gm ob [.lst (own.map .int),aB m,aB C]
def dG(v:Nat)(b:ak):Prop:=(∃own m C,b=cx own m C/\own.length<=100/\0<=C/\C+v<2^40)
def dG.mono{E:Nat}(e:dG v b)(a:E<=v):dG E b:=by
 let⟨o,m,C,l,t,c,d⟩:=e;exact⟨o,m,C,l,t,c,by omega⟩
theorem Kb:∀J:List Int,X.ct 8 (J.map X.int)=aa
 |[]=>rfl
 |g::p=>by rw[bz,X.ct,Kb p];rfl
section
variable{w:aQ}{own p:List Int}{g m C u:Int}
def IV(b:w[0]?=Z (Z<|cx [] m C)):l_ 0 0 "own" w=Z (aA,w):=by
 unfold l_;rw[b];rfl
def D8(b:w[0]?=Z (Z<|cx (g::p) m C)):l_ 0 0 "own" w=Z (aa,w):=by
 unfold l_;rw[b];show (if X.ct 8 ((g::p).map X.int)=aa then Z (!((g::p).map X.int).isEmpty,w) else V)=_;rw[aF (Kb _)];rfl
def yn(b:w[0]?=Z (Z<|cx (g::p) m C)):oD 0 0 "own" 0 w=Z (aB g,w):=by
 unfold oD;rw[b];show ((ed (X.int g::p.map X.int) 0).map ak.im).bind _=_;rw[kJ (r:=.int g) (iJ 0) rfl];rfl
def OZ(b:w[0]?=Z (Z<|cx (g::p) m C)):sx 0 0 "own" l9 (.int 0) w=Z (aB g,w.set 0<|Z<|cx p m C):=by
 unfold sx;rw[b];have a:l9 (.lst<|(g::p).map X.int) [.im (.int 0)]=Z (aB g,.lst<|p.map X.int):=by
  unfold l9;dsimp only;rw[aF ⟨iJ 0,by rw[a6,b6];omega⟩];rfl
 show (match l9 (.lst<|(g::p).map X.int) [.im (.int 0)] with
  |some (.im p,.lst c)=>Z (ak.im p,w.set 0<|Z<|.gm ob<|List.set _ 0<|.lst c)
  |_=>V)=_;rw[a];rfl
def Ub(b:w[0]?=Z (Z<|cx (g::p) m C)):sb 0 0 "own" 0 (aB u) w=Z (w.set 0<|Z<|cx (u::p) m C):=by
 unfold sb;rw[b];have a:kI (.lst<|(g::p).map X.int) (.im<|.int 0) (aB u)=Z (.lst<|(u::p).map X.int):=by
  show (jP ((g::p).map X.int).length 0).map _=_;unfold jP;rw[aF (iJ 0)];rw[aF (by rw[a6,b6];omega)];rfl
 show (match kI (.lst<|(g::p).map X.int) (.im<|.int 0) (aB u) with
  |some (.lst c)=>Z (w.set 0<|Z<|.gm ob<|List.set _ 0<|.lst c)
  |_=>V)=_;rw[a];rfl
def RR(b:w[0]?=Z (Z<|cx own m C)):lZ 0 1 "seed" w=Z (aB m,w):=by
 unfold lZ;rw[b];rfl
def IF(b:w[0]?=Z (Z<|cx own m C)):lZ 0 2 "turn" w=Z (aB C,w):=by
 unfold lZ;rw[b];rfl
end
def RO(E:Int):∀(own:List Int) (m C:Int) (q:Nat),own.length<q->∃Yq,ho yg Ae q [Z (cx own m C),Z<|aB E,V,V,V]=Z (.bA,[Z (cx Yq m C),Z<|aB E,V,V,V])/\Yq.length<=own.length:=by
 intro own m C q c;let⟨X0,e,Yq,rfl,h⟩:=ry (f:=yg) (d:=Ae) (λb w=>∃o,w=[Z (cx o m C),Z<|aB E,V,V,V]/\o.length<=own.length/\o.length<=b)
  (λw=>∃o,w=[Z (cx o m C),Z<|aB E,V,V,V]/\o.length<=own.length) (λb w ⟨o,a,l,t⟩=>by
   subst a;cases o with
   |nil=>exact⟨aA,_,p9<|IV rfl,λi=>Bool.noConfusion i,λ_=>⟨[],rfl,l⟩⟩
   |cons g p=>
    refine⟨decide (g=0),_,l3 (D8 rfl)<|dq<|bF (aS<|yn rfl) rfl rfl rfl<|ik g 0,λ_=>⟨.bA,_,ir<|OZ rfl,.inl rfl,p.length,?_,p,rfl,?_,bk _⟩,λ_=>⟨g::p,rfl,l⟩⟩
    ·rw[b6]at t;omega
    ·rw[b6]at l;omega) q own.length _ ⟨own,rfl,bk _,bk _⟩ c
 exact⟨Yq,e,h⟩
def qZ(e:dG (v+1) b)(c:0<E)(i:E<1073741824):∃u ah,fA [b,aB E]=Z (aB u,[ah,aB E])/\0<=u/\u<E/\dG v ah:=by
 let⟨own,m,C,rfl,l,bV,n⟩:=e;let⟨Yq,f,j⟩:=RO E own m C 1000000 (by omega);have XP:∀A:Int,0<=A%E/\A%E<E:=λA=>⟨tc _ (by omega),uQ _ c⟩;cases Yq with
 |cons g p=>
  refine⟨g%E,cx (g/E::p) m C,ew rfl (bp f<|yz<|ht (D8 rfl)<|bp (ff (r:=aB (g%E)) (bF (aS<|yn rfl) rfl rfl rfl<|il c) (cV rfl) rfl)<|bp (mC (bF (aS<|yn rfl) rfl rfl rfl<|wb c i)<|Ub rfl)<|fz rfl) rfl,(XP g).1,(XP g).2,_,_,_,rfl,?_,bV,by omega⟩;rw[b6]at j ⊢;omega
 |nil=>
  let h:Int:=m+(C+1)*(C+1)*7919+(C+1)*104729
  let a:Int:=h*48271%2305843009213693921
  let d:Int:=a*(a%1000003+69621)%2305843009213693907
  have k:nf (C+1) (C+1)=aa:=mq (by omega) (by omega);have o:=tc a (show (1000003:Int)≠0 by decide);have q:=uQ a (show (0:Int)<1000003 by decide);refine⟨d/65537%E,cx [] m<|C+1,ew (w:=[Z (cx [] m<|C+1),Z<|aB E,V,Z<|aB<|C+1,Z<|aB d]) rfl (bp f (bp (et (IV rfl) rfl)
   (bp (XD:=[Z (cx [] m<|C+1),Z<|aB E,V,V,V]) (mC (r:=aB (C+1)) (bF (aS<|IF rfl) rfl rfl rfl rfl)<|qA (a:=cx [] m (C+1)) rfl rfl rfl rfl rfl rfl)
   (bp (ff (IF rfl) (cV rfl) rfl)
   (bp (ff (r:=aB h) (bF (aS (bF (aS<|RR rfl) (aS (bF (aS<|c3<|jZ k) rfl rfl rfl (jZ (mq ∅ ∅)))) rfl rfl rfl)) (aS (c3 (jZ (mq ∅ ∅)))) rfl rfl rfl) (cV rfl) rfl)
   (bp (ff (r:=aB a) (bF (aS (c3 (jZ (mq ∅ ∅)))) rfl rfl rfl (il ∅)) (cV rfl) rfl)
   (bp (ff (r:=aB d) (bF (aS (bF rfl (aS (bF (aS (c3 (il ∅))) rfl rfl rfl rfl)) rfl rfl (jZ (mq (by omega) (by omega))))) rfl rfl rfl (il ∅)) (cV rfl) rfl)
   (fz (bF (aS (c3 (wb ∅ ∅))) rfl rfl rfl<|il c))))))))) rfl,(XP _).1,(XP _).2,[],m,C+1,rfl,by simp,by omega,by omega⟩
def tO(h:Int):kS [aB h]=Z (aB<|if h<0 then -h else h):=rfl
theorem zJ{a:Option ak}{c:Int}(k:0<c):∀(x own:List Int) (m:Int) (h:Option ak),own.length+x.length<=100->∃(d:List Int) (XM:Int) (f:Option ak),dK (bH 4) Ju (x.map .int) [a,Z<|aB m,Z<|.lst<|own.map .int,Z<|aB c,h]=Z (.bA,[a,Z<|aB XM,Z<|.lst<|d.map .int,Z<|aB c,f])/\d.length<=100
 |[],own,m,h,b=>⟨own,m,h,rfl,by rw[gs]at b;omega⟩
 |e::x,own,m,h,b=>by
  rw[b6]at b;let g:Int:=(m*6364136223846793005+e%(10:Int)^(40:Int).toNat+29)%2305843009213693951
  let i:Int:=if e<0 then -e else e
  have n:bb (ac z9 (ab<|bQ kS<|ao (aj 4) az)<|ab<|ac lX (ab<|av<|.int 10)<|ab<|av<|.int 18) [a,Z<|aB g,Z<|.lst<|own.map .int,Z<|aB c,Z<|aB e]=Z (decide ((10:Int)^(18:Int).toNat<=i),[a,Z<|aB g,Z<|.lst<|own.map .int,Z<|aB c,Z<|aB e]):=
   dq (bF (aS<|dz (bS rfl rfl) rfl<|tO e) (aS (c3 (q4 ∅))) rfl rfl rfl);have R:bW 1 (ac d_ (ab<|ac cj (ab<|ac cj (ab<|ac gc (aj 1)<|ab<|av<|.int 6364136223846793005)<|ab<|ac d_ (aj 4)<|ab<|ac lX (ab<|av<|.int 10)<|ab<|av<|.int 40)<|ab<|av<|.int 29)<|ab<|av<|.int 2305843009213693951) [a,Z<|aB m,Z<|.lst<|own.map .int,Z<|aB c,Z<|aB e]=Z (.bA,[a,Z<|aB g,Z<|.lst<|own.map .int,Z<|aB c,Z<|aB e]):=
   ff (bF (aS (bF (aS (bF (aS (c3 (jZ (mq ∅ ∅)))) (aS (bF rfl (aS (c3 (q4 ∅))) rfl rfl (il ∅))) rfl rfl rfl)) rfl rfl rfl rfl)) rfl rfl rfl (il ∅)) (cV rfl) rfl;by_cases o:(10:Int)^(18:Int).toNat<=i
  ·let⟨d,XM,f,j,l⟩:=zJ (a:=a) k x (own++[i%c]) g (Z<|aB e) (by rw[cC];show own.length+1+_<=_;omega);refine⟨d,XM,f,?_,l⟩;rw[bz];refine gi rfl (bp R (ht (n.trans (by rw[bG o]))<|ir<|iK (b:=.lst (own.map X.int++[.int (i%c)])) rfl rfl (bS (aS<|bF (aS<|dz (bS rfl rfl) rfl<|tO e) rfl rfl rfl<|il k) rfl) rfl rfl (la ?_) rfl)) ?_
   ·rw[a6];omega
   ·rw[fq]at j;exact j
  ·let⟨d,XM,f,j,l⟩:=zJ (a:=a) k x own g (Z<|aB e) (by omega);refine⟨d,XM,f,?_,l⟩;rw[bz];exact gi rfl (bp R (et (n.trans (by rw[decide_eq_false o])) rfl)) j
def TQ(XY:List Int):∃b,AX [.eo (XY.map .int)]=Z (b,[.eo (XY.map .int)])/\dG 1000000 b:=by
 let c:Int:=(10:Int)^(60:Int).toNat*(10:Int)^(60:Int).toNat*(10:Int)^(60:Int).toNat
 let⟨own,m,d,e,f⟩:=zJ (a:=Z (.eo<|XY.map .int)) (c:=c) (by decide +kernel) (XY.take 63) [] 17 V (by rw[m5,gs];omega);refine⟨cx own m 0,ew (w:=[Z (.eo<|XY.map .int),Z<|aB m,Z .c8,Z<|aB c,d]) rfl (bp (ff (XD:=[Z (.eo<|XY.map .int),Z<|aB 17,V,V,V]) rfl (cV rfl) rfl) (bp (ff (XD:=[Z (.eo<|XY.map .int),Z<|aB 17,Z<|.lst [],V,V]) rfl (cV rfl) rfl)
  (bp (ff (r:=aB c) (XD:=[Z (.eo<|XY.map .int),Z<|aB 17,Z<|.lst [],Z<|aB c,V]) (bF (aS (bF (aS (c3 (q4 ∅))) (aS (c3 (q4 ∅))) rfl rfl (jZ (by decide +kernel)))) (aS (c3 (q4 ∅))) rfl rfl (jZ (by decide +kernel))) (cV rfl) rfl)
  (bp (gk (x:=(XY.take 63).map .int) (o:=V) (XD:=[Z (.eo<|XY.map .int),Z<|aB 17,Z<|.lst [],Z<|aB c,V]) ?_ e rfl)<|fz ?_)))) rfl,own,m,0,rfl,f,by decide,by decide⟩
 ·have a:ni (.eo<|XY.map X.int) V (Z 63)=Z (.lst<|(XY.take 63).map X.int):=by
   show Z (ak.lst<|g_ (XY.map X.int) V<|Z 63)=_;rw[FG,show (63:Int)=((63:Nat):Int) from rfl,O5]
  have g:kp (aj 0) m6 (oL<|av<|.int 63) [Z (.eo<|XY.map .int),Z<|aB 17,Z<|.lst [],Z<|aB c,V]=Z (.lst<|(XY.take 63).map X.int,[Z (.eo<|XY.map .int),Z<|aB 17,Z<|.lst [],Z<|aB c,V]):=IM rfl rfl rfl rfl a;show (ab (kp (aj 0) m6<|oL<|av<|.int 63) _).bind _=_;rw[aS g];rfl
 ·rfl
def qO{c:ak}(d:c=.lst x\/c=.im (.tup x))(ne:x≠[])(n:x.length<1000000)(j:dG (v+1) b):∃e ah,e∈x/\lY [b,c]=Z (.im e,[ah,c])/\dG v ah:=by
 have o:0<x.length:=rq.mpr ne;let⟨u,ah,a,h,p,S⟩:=qZ (E:=(x.length:Int)) j (by omega) (by omega);have f:u.toNat<x.length:=by omega
 have i:dI [c]=Z (aB (x.length:Int)):=by rcases d with rfl|rfl<;>rfl
 have k:bh c (aB u)=Z (.im x[u.toNat]):=by
  have g:=kJ (x:=x) (r:=x[u.toNat]) h (dF f);rcases d with rfl|rfl
  ·show (ed x u).map _=_;rw[g];rfl
  ·show (ed x u).map _=_;rw[g];rfl
 let⟨q,s,t,rfl,y⟩:=id j;let⟨Yq,l,m,rfl,z⟩:=id S;rcases d with rfl|rfl<;>
 exact⟨x[u.toNat],_,sm f,ew (w:=[Z (cx Yq l m),Z _]) rfl (fz<|e1 rfl (cO<|dd (XU:=[.aR 0,.bY<|aB (x.length:Int)]) (cZ rfl<|cZ (cO<|n9 (cZ rfl rfl) rfl i) rfl) rfl rfl a rfl) rfl rfl k) rfl,S⟩
def SJ(s:0<=g/\g<1000)(x:0<=d/\d<1000)(j:dG (v+2) b):∃u ah,y4 [b,aB g,aB d]=Z (aB u,[ah,aB g,aB d])/\0<=u/\(u<=g\/u<=d)/\dG v ah:=by
 let⟨u,l,e,y,z,XE⟩:=qZ (v:=v+1) (E:=8) j ∅ ∅;have two:∃f:Int,bh (.lst [.int g,.int d]) (aB<|if decide (u=0) then 1 else 0)=Z (aB f)/\(f=g\/f=d):=by
  by_cases a:u=0
  ·refine⟨d,?_,.inr rfl⟩;rw[aF (bG a)];show (ed [X.int g,.int d] 1).map _=_;rw[kJ (r:=.int d) ∅ rfl];rfl
  ·refine⟨g,?_,.inl rfl⟩;rw[if_neg (by rw[decide_eq_false a];exact cB)];show (ed [X.int g,.int d] 0).map _=_;rw[kJ (r:=.int g) ∅ rfl];rfl
 let⟨f,h,c⟩:=two;have A:0<=f/\f<1000:=by rcases c with rfl|rfl<;>assumption
 let⟨I,t,i,k,B,XS⟩:=qZ (v:=v) (E:=f+1) XE (by omega) (by omega);let⟨D,F,G,rfl,H⟩:=id j;let⟨m,n,o,rfl,J⟩:=id XE;let⟨C,p,q,rfl,L⟩:=id XS;refine⟨I,_,ew (w:=[Z (cx C p q),Z<|aB g,Z<|aB d]) rfl (fz<|dd (XU:=[.aR 0,.bY<|aB<|f+1]) (XD:=[Z (cx m n o),Z<|aB g,Z<|aB d]) (cZ rfl<|cZ (cO<|e1 (cO<|e1 (cO<|lE (cZ rfl<|cZ rfl rfl) rfl (eH rfl) rfl) (cO<|n9 (cZ (cO<|e1 (cO<|dd (XU:=[.aR 0,.bY<|aB 8]) (cZ rfl<|cZ rfl rfl) rfl rfl e rfl) rfl rfl rfl<|ik u 0) rfl) rfl rfl) rfl rfl h) rfl rfl rfl rfl) rfl) rfl rfl i rfl) rfl,k,?_,XS⟩;rcases c with rfl|rfl
 ·exact .inl (by omega)
 ·exact .inr (by omega)
theorem y3:∀(XK M:List ar),M.Nodup->∃c:List ar,c.Nodup/\(∀f,f∈c↔f∈M\/f∈XK)/\c.length<=M.length+XK.length/\(mt XK).foldl (λg n=>ei g n.1 n.2) (mt M)=mt c
 |[],M,ae=>⟨M,ae,λf=>⟨.inl,λb=>b.resolve_right hP⟩,by omega,rfl⟩
 |f::XK,M,ae=>by
  by_cases b:f∈M
  ·let⟨c,h,YN,k,j⟩:=y3 XK M ae;refine⟨c,h,λe=>(YN e).trans ⟨λi=>i.imp_right λi=>.tail _ i,λi=>?_⟩,by rw[b6];omega,?_⟩
   ·rcases i with i|i
    ·exact .inl i
    ·rcases b0.mp i with rfl|i
     ·exact .inl b
     ·exact .inr i
   ·have a:ei (mt M) (b4 f) (.aH aa)=mt M:=by
     unfold ei;rw[aF (by rw[r3];exact bG b)];unfold mt;rw[fM];refine hx λe Y=>?_;show (if b4 e=b4 f then (b4 e,X.aH aa) else (b4 e,X.aH aa))=_;split<;>rfl
    show (mt XK).foldl _ (ei (mt M) (b4 f)<|.aH aa)=_;rw[a,j]
  ·let⟨c,h,YN,k,j⟩:=y3 XK (M++[f]) (cH.mpr ⟨ae,es _ _,λg l d m a=>b<|cf.mp m ▸ a ▸ l⟩);refine⟨c,h,λe=>(YN e).trans ?_,by rw[cC,e6]at k;rw[b6];omega,?_⟩
   ·rw[dM,cf,b0,or_assoc]
   ·show (mt XK).foldl _ (ei (mt M) (b4 f)<|.aH aa)=_;rw[yc b,j]
def Qa(XK:List ar):∃M:List ar,M.Nodup/\(∀f,f∈M↔f∈XK)/\M.length<=XK.length/\gR (mt XK)=mt M:=by
 let⟨M,a,YN,c,d⟩:=y3 XK [] gB;exact⟨M,a,λf=>(YN f).trans ⟨λb=>b.resolve_left hP,.inr⟩,by rw[gs]at c;omega,d⟩
def wO{b:jW}{o:Option (Nat×ak)}(a:b w=Z ((XK.map af,o),XD))(c:XK.length<=1000)(q:jD o XD=w):
  bQ n7 (ao (ab<|d2 1 [] b (bH 0) gW<|cp<|ao (aj 0)<|ao (ab<|av<|.aH aa) az) az) w=Z (.aE<|gR<|mt XK,w):=by
 have d:d2 1 [] b (bH 0) gW (cp<|ao (aj 0)<|ao (ab<|av<|.aH aa) az) w=Z (.lst<|XK.map λf=>.tup [af f,.aH aa],w):=
  jM a (ye af (λf=>.tup [af f,.aH aa]) _ (λf Y=>⟨[Z (.im<|af f)],_,[Z (.im<|af f)],rfl,rfl,rfl,rfl⟩) (by omega)) q;refine dz (bS (aS d) rfl) rfl ?_;show (oE<|XK.map λf=>.tup [af f,.aH aa]).bind _=_;rw[MS];show (if ((mt XK).all λn=>X.keys 7 n.1)=aa/\(mt XK).length<=1000 then Z (ak.aE<|gR<|mt XK) else V)=_;rw[aF ⟨PI XK,by unfold mt;rw[a6];exact c⟩]
def p_{O:aC ak}{r:ak}(a:O w=Z (r,XD))(q:kb r=Z x):cL (ab O) w=Z ((x,V),XD):=by
 unfold cL;rw[cO a];show (kb r).map _=_;rw[q];rfl
def lP(Xy:List (List X×X))(M:List ar):Prop:=(∀f,(cF Xy<|b4 f).isSome=decide (f∈M))
def lP.fold(XK:List ar):lP (gR<|mt XK) XK:=OK XK
def lP.mt(M:List ar):lP (mt M) M:=wy M
def Ba{Xy:List (List X×X)}(XI:lP Xy M)(f:ar):lq [.aE Xy,.im<|af f]=Z (a_<|dr M f,[.aE Xy,.im<|af f]):=by
 let X_:aQ:=[Z (.aE Xy),Z<|.im<|af f,Z<|aB f.1,Z<|aB f.2,Z<|a_<|cG f]
 have c1:d2 1 [0] (cL<|aj 4) (bH 0) G.HZ G.B_ X_=Z (a_<|dr M f,X_):=by
  refine jM (x:=(cG f).map af) (o:=Z (4,a_<|cG f)) (XD:=[Z (.aE Xy),Z<|.im<|af f,Z<|aB f.1,Z<|aB f.2,Z .c8]) rfl (ku af (λr=>decide (r∈M)) af _ [] (λr Y=>?_)<|eH rfl) rfl;have h:gr (.im<|af r) (.aE Xy)=Z (.im<|.aH<|decide (r∈M)):=by
   have a:f5 (af r) (.aE Xy)=Z (decide (r∈M)):=show (if X.keys 7 (b4 r)=aa then Z (cF Xy<|b4 r).isSome else V)=_ from (aF<|lF r).trans (congrArg Z<|XI r);show (f5 (af r)<|.aE Xy).map (λp=>ak.im<|.aH p)=_;rw[a];rfl
  exact⟨[Z (.im<|af r),Z<|.aE Xy],[Z (.im<|af r),Z<|.aE Xy],rfl,dq<|c3 h,λ_=>rfl,λ_=>⟨[Z (.im<|af r),Z<|.aE Xy],rfl,rfl⟩⟩
 exact ew (w:=X_) rfl (bp (XD:=[Z (.aE Xy),Z<|.im<|af f,Z<|aB f.1,Z<|aB f.2,V]) rfl<|bp (XD:=X_) rfl<|fz c1) rfl
def vZ{e:ak}(d:te e XK)(ae:XK.Nodup)(g:XK.length<=63):∃a:List ar,hA [e]=Z (a_ a)/\a.Perm XK/\iZ a:=by
 let⟨a,c,X5,b⟩:=Fb ae g;rcases d with rfl|rfl
 ·cases XK with
  |nil=>
   have:a=[]:=List.perm_nil.mp X5;subst this;exact⟨[],rfl,X5,b⟩
  |cons f p=>exact⟨a,c,X5,b⟩
 ·exact⟨a,c,X5,b⟩
def kf(XK:List ar)(g d f:ar):Bool:=(decide (((dr XK f).length+c4 f [g,d])%2=1))
theorem zo{e:ak}{Xy:List (List X×X)}{XK:List ar}{g d:ar}(XI:lP Xy XK):∀(c b:List ar) (C:Option ak),b.length+c.length<=1000->∃h,dK (bH 5) DU (c.map af) [Z e,Z<|.im<|af g,Z<|.im<|af d,Z<|.aE Xy,Z<|a_ b,C]=Z (.bA,[Z e,Z<|.im<|af g,Z<|.im<|af d,Z<|.aE Xy,Z<|a_<|b++c.filter (kf XK g d),h])
 |[],b,C,_=>⟨C,by rw[Gf,bO];rfl⟩
 |f::c,b,C,m=>by
  rw[b6]at m;let w:aQ:=[Z e,Z<|.im<|af g,Z<|.im<|af d,Z<|.aE Xy,Z<|a_ b,Z<|.im<|af f]
  have k:∀I u:ar,c_ (.im<|af I) (.im<|af u)=Z (.im<|.aH<|decide (I=u)):=λI u=>by
   show (if (X.bl 8 (af I)&&X.bl 8 (af u))=aa then Z (ak.im<|.aH<|b1 (af I)<|af u) else V)=_;rw[mH,mH,m4];rfl
  have q:bb (ac c_ (ab<|ac d_ (ab<|ac cj (ab<|ac cj (ab<|bQ dI<|ao (ab<|bf 2 G.lq<|ao (aj 3)<|ao (aj 5) az) az)<|ab<|bQ vInt<|ao (ab<|ac c_ (aj 5)<|aj 1) az)<|ab<|bQ vInt<|ao (ab<|ac c_ (aj 5)<|aj 2) az)<|ab<|av<|.int 2)<|ab<|av<|.int 1) w=Z (kf XK g d f,w):=by
   have n:bQ dI (ao (ab<|bf 2 G.lq<|ao (aj 3)<|ao (aj 5) az) az) w=Z (aB ((dr XK f).length:Int),w):=dz (bS (aS<|dd (XU:=[.aR 3,.aR 5]) rfl rfl rfl (Ba XI f) rfl) rfl) rfl (by show Z (ak.im<|.int (((dr XK f).map af).length:Int))=_;rw[a6]);refine (dq (bF (aS (bF (aS<|bF (aS<|bF (aS n) (aS<|dz (bS (aS<|c3<|k f g) rfl) rfl rfl) rfl rfl rfl) (aS<|dz (bS (aS<|c3<|k f d) rfl) rfl rfl) rfl rfl rfl) rfl rfl rfl (il ∅))) rfl rfl rfl<|ik _ _)).trans ?_;congr 2;unfold kf;refine fW.mpr ?_;rw[gu,gu];have o:c4 f ([]:List ar)=0:=rfl;by_cases l:f=g<;>by_cases t:f=d
   ·rw[aF (bG l),aF<|bG t,aF l.symm,aF t.symm];omega
   ·rw[aF (bG l),if_neg (by rw[decide_eq_false t];exact cB),aF l.symm,if_neg<|dn t];omega
   ·rw[if_neg (by rw[decide_eq_false l];exact cB),aF<|bG t,if_neg<|dn l,aF t.symm];omega
   ·rw[if_neg (by rw[decide_eq_false l];exact cB),if_neg (by rw[decide_eq_false t];exact cB),if_neg<|dn l,if_neg<|dn t];omega
  rw[bz];cases i:kf XK g d f with
  |true=>
   let⟨h,j⟩:=zo (e:=e) (g:=g) (d:=d) XI c (b++[f]) (Z<|.im<|af f) (by rw[cC];show b.length+1+_<=_;omega);refine⟨h,gi (XD:=w) rfl (ht (q.trans (by rw[i]))<|ir<|iK (p:=.im .aK) (b:=a_ (b++[f])) rfl rfl (bS rfl rfl) rfl rfl ?_ rfl) ?_⟩
   ·show eW (.lst<|b.map af) [.im (af f)]=Z (.im .aK,.lst<|(b++[f]).map af);rw[fq];exact la (by rw[a6];omega)
   ·have a:b++(f::c).filter (kf XK g d)=(b++[f])++c.filter (kf XK g d):=by
     rw[nM i,bI];rfl
    rw[a];exact j
  |false=>
   let⟨h,j⟩:=zo (e:=e) (g:=g) (d:=d) XI c b (Z<|.im<|af f) (by omega);refine⟨h,gi (XD:=w) rfl (et (q.trans (by rw[i])) rfl) ?_⟩;rw[mV (by rw[i];exact cB)];exact j
def Du{e:ak}(b:te e XK)(ae:XK.Nodup)(i:XK.length<=63)(g d:ar):∃a:List ar,a.Perm XK/\iZ a/\o7 [e,.im<|af g,.im<|af d]=Z (a_<|a.filter<|kf XK g d,[e,.im<|af g,.im<|af d]):=by
 let⟨a,j,X5,k⟩:=vZ b ae i;refine⟨a,X5,k,?_⟩;let⟨c,f⟩:=zo (e:=e) (g:=g) (d:=d) (lP.fold XK) a [] V (by rw[gs,X5.length_eq];omega);let Yz:aQ:=[Z e,Z<|.im<|af g,Z<|.im<|af d,Z<|.aE<|gR<|mt XK,V,V]
 have l:∃o XD,cL (aj 0) [Z e,Z<|.im<|af g,Z<|.im<|af d,V,V,V]=Z ((XK.map af,o),XD)/\jD o XD=[Z e,Z<|.im<|af g,Z<|.im<|af d,V,V,V]:=by
  rcases b with rfl|rfl
  ·exact⟨Z (0,a_ XK),_,rfl,rfl⟩
  ·exact⟨V,_,rfl,rfl⟩
 let⟨o,XD,m,n⟩:=l;have D:=wO m (by omega) n;have h:bQ hA (ao (aj 0) az) [Z e,Z<|.im<|af g,Z<|.im<|af d,Z<|.aE<|gR<|mt XK,Z<|a_ [],V]=Z (a_ a,[Z e,Z<|.im<|af g,Z<|.im<|af d,Z<|.aE<|gR<|mt XK,Z<|a_ [],V]):=dz (bS rfl rfl) rfl j;rcases b with rfl|rfl
 ·exact ew (w:=[Z (a_ XK),Z<|.im<|af g,Z<|.im<|af d,Z<|.aE<|gR<|mt XK,Z .c8,c]) rfl (bp (XD:=Yz) (ff D (cV rfl) rfl)<|bp (ff (pC rfl rfl (eH rfl) rfl) (cV rfl) rfl)<|bp (gk (o:=V) (p_ h rfl) f rfl)<|fz rfl) rfl
 ·exact ew (w:=[Z (a7 XK),Z<|.im<|af g,Z<|.im<|af d,Z<|.aE<|gR<|mt XK,Z .c8,c]) rfl (bp (XD:=Yz) (ff D (cV rfl) rfl)<|bp (ff (pC rfl rfl (eH rfl) rfl) (cV rfl) rfl)<|bp (gk (o:=V) (p_ h rfl) f rfl)<|fz rfl) rfl
def Lg{XI y:List ar}(I:iZ XI)(u:iZ y)(b:XI.Perm y):XI=y:=
 J5 (λg d Y Y l t=>absurd (oR (v:=6) (g:=af g) (d:=af d) (f:=af g) rfl rfl l t) (by rw[rR];exact cB)) I u b
def Dh(b:iZ XK)(c:XK.length<=63)(g d:ar):o7 [a7 XK,.im<|af g,.im<|af d]=Z (a_<|ej XK g d,[a7 XK,.im<|af g,.im<|af d]):=by
 let⟨e,X5,f,a⟩:=Du (.inr rfl:te (a7 XK) XK) b.ae c g d;have:e=XK:=Lg f b X5;rw[this]at a;exact a
section
variable{w:aQ}
def tw{g d:aC Bool}{A:Bool}(a:g w=Z (e,w))(F:d w=Z (A,w)):eb g d w=Z (e&&A,w):=by
 cases e
 ·exact p9 a
 ·exact (l3 a F).trans (by rw[Dx])
def DO{YF YD YV:aC bo}{e A i:bo}{f:Int}(b:YF w=Z (e,w))(c:YD w=Z (A,w))(h:dC w e=Z (aB g))(a:dC w A=Z (aB d))(j:YV w=Z (i,w))(k:dC w i=Z (aB f):=by rfl):bb (kO g6 g6 YF YD YV) w=Z (decide (g<=d)&&decide (d<=f),w):=by
 refine dq ?_;unfold kO;rw[b];show (YD w).bind _=_;rw[c];show (dC w e).bind _=_;rw[h];show (dC w A).bind _=_;rw[a];show (if decide (g<=d)=aa then _ else _)=_;cases decide (g<=d) with
 |false=>rfl
 |true=>
  rw[aF rfl,j];show (dC w A).bind _=_;rw[a];show (dC w i).bind _=_;rw[k];rfl
end
def oT{Xz:aQ}(j:dG (v+1) b)(c:0<E)(d:E<1073741824):∃u ah,bf 2 G.fA (ao (aj 0)<|ao (ab<|av<|.int E) az) (Z b::Xz)=Z (aB u,Z ah::Xz)/\0<=u/\u<E/\dG v ah:=by
 let⟨u,ah,a,e,f,S⟩:=qZ j c d;let⟨g,h,i,rfl,k⟩:=id j;let⟨Yq,l,m,rfl,n⟩:=id S;exact⟨u,_,dd (XU:=[.aR 0,.bY<|aB E]) rfl rfl rfl a rfl,e,f,S⟩
def lx(f:ar):Prop:=(0<=f.1/\f.1<=22/\0<=f.2/\f.2<=22)
abbrev jX(b:ak)(E:Int)(M:List ar)(a C Yj z:Option ak):aQ:=[Z b,Z<|aB E,Z<|.aE<|mt M,Z<|a_ M,a,C,Yj,z]
abbrev KS:List ar:=[(-1,0),(0,-1),(0,1),(1,0)]
def Um(b:f∉M)(a:M.length<1000):hG (.aE<|mt M) (.im<|af f) (.im<|.aH aa)=Z (.aE<|mt<|M++[f]):=by
 rw[<-yc b];exact aF ⟨lF f,by unfold mt;rw[a6];omega⟩
def US{d C:Option ak}(j:dG (v+3) b)(o:M≠[])(bv:M.length<=500)(XO:∀f∈M,lx f):
  ∃ah h B D F,vb (jX b E M d C Yj z)=Z (.bA,jX ah E h d B D F)/\dG v ah/\h≠[]/\(h.length:Int)<=(if (M.length:Int)<E then E else M.length)/\(∀f∈h,lx f):=by
 let⟨ca,l,J,L,XE⟩:=qO (v:=v+2) (c:=a_ M) (.inl rfl) (λi=>o<|q8.mp i) (by rw[a6];omega) j;let⟨e,N,rfl⟩:=cX.mp J;let⟨P,H,k⟩:=Sa o;let⟨u,t,Q,cd,ce,XS⟩:=oT (v:=v+1) (Xz:=[Z (aB E),Z<|.aE<|mt M,Z<|a_ M,d,C,Yj,z]) XE (show (0:Int)<2 by decide) ∅;have lst:bh (a_ M) (aB<|-1)=Z (.im<|af H):=by
  show (ed (M.map af)<|-1).map _=_;have:ed (M.map af) (-1)=Z (af H):=by
   unfold ed jP;rw[if_neg ∅,a6,aF (by rw[k,cC,e6];omega)];show (M.map af)[(-1+(M.length:Int)).toNat]?=_;have:(-1+(M.length:Int)).toNat=P.length:=by rw[k,cC,e6];omega
   rw[this,k,fq,kZ (by rw[a6];omega),a6,q3];rfl
  rw[this];rfl
 obtain⟨I,R,ch⟩:∃I:ar,bh (.lst [af H,af e]) (aB u)=Z (.im<|af I)/\I∈M:=by
  rcases (show u=0\/u=1 by omega) with rfl|rfl
  ·exact⟨H,by show (ed [af H,af e] 0).map _=_;rw[kJ (r:=af H) ∅ rfl];rfl,by rw[k];exact dH _ (.head _)⟩
  ·exact⟨e,by show (ed [af H,af e] 1).map _=_;rw[kJ (r:=af e) ∅ rfl];rfl,N⟩
 let⟨ci,cl,S,T,q⟩:=qO (v:=v) (c:=a_ KS) (.inl rfl) (λi=>by cases i) ∅ XS;let⟨r,hd,rfl⟩:=cX.mp S;let s:ar:=(I.1+r.1,I.2+r.2)
 let⟨U,al,am,rfl,co⟩:=id j;let⟨an,c2,ap,rfl,cr⟩:=id XE;let⟨YH,c6,cs,rfl,db⟩:=id XS;let⟨w,fO,x,rfl,ds⟩:=id q;have y:∀n:ar,bh (.im<|af n) (aB 0)=Z (aB n.1):=λn=>by show (ed [X.int n.1,.int n.2] 0).map _=_;rw[Ce];rfl
 have A:∀n:ar,bh (.im<|af n) (aB 1)=Z (aB n.2):=λn=>by show (ed [X.int n.1,.int n.2] 1).map _=_;rw[Kj];rfl
 let Yz:aQ:=jX (cx w fO x) E M d (Z<|.im<|af I) (Z<|.im<|af r) (Z<|.im<|af s)
 have start:∀{O:bx}{p:Option (l0×aQ)},O Yz=p->ba (bW 5<|ac bh (ab<|eu<|ao (ab<|ac bh (aj 3)<|ab<|k7<|av<|.int 1)<|ao (ab<|bf 2 G.lY<|ao (aj 0)<|ao (aj 3) az) az)<|ab<|bf 2 G.fA<|ao (aj 0)<|ao (ab<|av<|.int 2) az) (ba (bW 6<|bf 2 G.lY<|ao (aj 0)<|ao (ab<|eu<|ao (ab<|cp<|ao (ab<|k7<|av<|.int 1)<|ao (ab<|av<|.int 0) az)<|ao (ab<|cp<|ao (ab<|av<|.int 0)<|ao (ab<|k7<|av<|.int 1) az)<|ao (ab<|cp<|ao (ab<|av<|.int 0)<|ao (ab<|av<|.int 1) az)<|ao (ab<|cp<|ao (ab<|av<|.int 1)<|ao (ab<|av<|.int 0) az) az) az)<|ba (bW 7<|cp<|ao (ab<|ac cj (ab<|ac bh (aj 5)<|ab<|av<|.int 0)<|ab<|ac bh (aj 6)<|ab<|av<|.int 0)<|ao (ab<|ac cj (ab<|ac bh (aj 5)<|ab<|av<|.int 1)<|ab<|ac bh (aj 6)<|ab<|av<|.int 1) az) O) (jX (cx U al am) E M d C Yj z)=p:=λas=>
  bp (gj (e1 (cO<|lE (cZ (cO<|e1 rfl (cO<|ML rfl) rfl rfl lst)<|cZ (cO<|dd (XU:=[.aR 0,.aR 3]) (Yz:=jX (cx an c2 ap) E M d C Yj z) rfl rfl rfl L rfl) rfl) rfl (eH rfl) rfl) (cO Q) rfl rfl R) (cV rfl) rfl)
   (bp (XD:=jX (cx w fO x) E M d (Z<|.im<|af I) (Z<|.im<|af r) z) (gj (dd (XU:=[.aR 0,.bY<|a_ KS]) rfl rfl rfl T rfl) (cV rfl) rfl)
   (bp (XD:=Yz) (gj (Hh (cZ (cO<|e1 (cO<|e1 rfl rfl rfl rfl<|y I) (cO<|e1 rfl rfl rfl rfl<|y r) rfl rfl rfl)<|cZ (cO<|e1 (cO<|e1 rfl rfl rfl rfl<|A I) (cO<|e1 rfl rfl rfl rfl<|A r) rfl rfl rfl) rfl) rfl (eH rfl) rfl) (cV rfl) rfl) as));have a1:hb (.im<|af s) (.aE<|mt M)=Z (.im<|.aH<|!decide (s∈M)):=by
  have a:f5 (af s) (.aE<|mt M)=Z (decide (s∈M)):=show (if X.keys 7 (b4 s)=aa then Z (cF (mt M)<|b4 s).isSome else V)=_ from (aF<|lF s).trans (congrArg Z<|wy M s);show (f5 (af s)<|.aE<|mt M).map (λp=>ak.im<|.aH<|!p)=_;rw[a];rfl
 have a2:dI [a_ M]=Z (aB (M.length:Int)):=by show Z (ak.im<|.int ((M.map af).length:Int))=_;rw[a6]
 have cond:eb (bb<|ac ph (ab<|bQ dI<|ao (aj 3) az)<|aj 1) (eb (bb<|ac hb (aj 7)<|aj 2)<|eb (bb<|kO g6 g6 (ab<|av<|.int 0) (ab<|ac bh (aj 7)<|ab<|av<|.int 0)<|ab<|av<|.int 22)<|bb<|kO g6 g6 (ab<|av<|.int 0) (ab<|ac bh (aj 7)<|ab<|av<|.int 1)<|ab<|av<|.int 22) Yz
   = Z (decide ((M.length:Int)<E)&&(!decide (s∈M)&&((decide (0<=s.1)&&decide (s.1<=22))&&(decide (0<=s.2)&&decide (s.2<=22)))),Yz):=
  tw (dq<|bF (aS<|dz (bS rfl rfl) rfl a2) rfl rfl rfl rfl) (tw (dq<|c3 a1)<|tw (DO rfl (aS<|c3<|y s) rfl rfl rfl)<|DO rfl (aS<|c3<|A s) rfl rfl rfl);unfold vb;cases m:(decide ((M.length:Int)<E)&&(!decide (s∈M)&&((decide (0<=s.1)&&decide (s.1<=22))&&(decide (0<=s.2)&&decide (s.2<=22))))) with
 |true=>
  rw[m]at cond;simp only[cq,sl,decide_eq_true_eq,zY]at m;let⟨bd,be,⟨bi,bm⟩,bn,bs⟩:=m;refine⟨_,M++[s],_,_,_,start (ht cond (bp (XD:=jX (cx w fO x) E M d (Z<|.im<|af I) (Z<|.im<|af r) (Z<|.im<|af s) |>.set 2 (Z<|.aE<|mt<|M++[s])) (mC rfl (qA rfl rfl rfl rfl (Um be (by omega)) rfl))<|ir<|iK (p:=.im .aK) (b:=a_ (M++[s])) rfl rfl (bS rfl rfl) rfl rfl ?_ rfl)),q,↥0,?_,λf g=>?_⟩
  ·show eW (.lst<|M.map af) [.im (af s)]=Z (.im .aK,.lst<|(M++[s]).map af);rw[fq];exact la (by rw[a6];omega)
  ·rw[aF bd,cC,e6];omega
  ·rcases dM.mp g with g|g
   ·exact XO f g
   ·rw[cf.mp g];exact⟨bi,bm,bn,bs⟩
 |false=>
  rw[m]at cond;refine⟨_,M,_,_,_,start<|et cond rfl,q,o,?_,XO⟩;split<;>omega
def Mh(n:1<=E)(M:E<=60)(j:dG (v+600) b):∃ah XK,yG [b,aB E]=Z (a_ XK,[ah,aB E])/\dG v ah/\XK≠[]/\(XK.length:Int)<=E/\∀f∈XK,lx f:=by
 have p:rv (E*3):=⟨by omega,by omega⟩;have g:(hh 0 (E*3).toNat).length=(E*3).toNat:=by rw[hh,a6,j2]
 let⟨X0,q,t,XK,c,C,Yj,z,rfl,XS,r,s,u⟩:=z2 (Yi:=bH 4) (d:=vb) (x:=hh 0 (E*3).toNat) (λh w=>∃b XK c C Yj z,w=jX b E XK c C Yj z/\dG (v+600-3*h) b/\XK≠[]/\(XK.length:Int)<=E/\∀f∈XK,lx f)
  (w:=jX b E [(12,12)] V V V V) ⟨b,[(12,12)],V,V,V,V,rfl,j,(λi=>by cases i),n,λf y=>by rw[cf.mp y];exact⟨by decide,by decide,by decide,by decide⟩⟩
  (λh e w A d4=>by
   let⟨b,XK,c,C,Yj,z,rfl,B,Ym,T,D⟩:=d4;have XG:h<(E*3).toNat:=by rw[<-g];exact (e7.mp A).1
   let⟨ah,F,N,O,P,a,S,G,H,I⟩:=US (v:=v+600-3*(h+1)) (E:=E) (d:=Z (.im e)) (C:=C) (Yj:=Yj) (z:=z) (B.mono (by omega)) Ym (by omega) D;refine⟨jX b E XK (Z<|.im e) C Yj z,.bA,_,rfl,a,.inl rfl,ah,F,_,_,_,_,rfl,S,G,?_,I⟩;split at H<;>omega)
 rw[g]at XS;refine⟨t,XK,?_,XS.mono (by omega),r,s,u⟩;let⟨k,l,m,rfl,Q⟩:=id j;let⟨J,c2,L,rfl,R⟩:=id XS;exact ew (w:=[Z (cx J c2 L),Z<|aB E,Z<|.aE<|mt XK,Z .c8,c,C,Yj,z]) rfl (bp (XD:=[Z (cx k l m),Z<|aB E,Z<|.aE<|mt [(12,12)],V,V,V,V,V]) rfl (bp (XD:=jX (cx k l m) E [(12,12)] V V V V) rfl (bp (gk (o:=V) (xT (cZ (cO (e1 rfl rfl rfl rfl (jZ (mq ∅ ∅)))) rfl) rfl p) q rfl)<|fz rfl))) rfl
def dP(Xz:aQ)(q:Nat)(f:aC Bool):Prop:=(∀v b,dG (v+q) b->∃d ah,f (Z b::Xz)=Z (d,Z ah::Xz)/\dG v ah)
section
variable{Xz:aQ}{g d:aC Bool}{h k:Nat}
def dP.pure(a:∀b,g (Z b::Xz)=Z (e,Z b::Xz)):dP Xz 0 g:=λv b j=>⟨e,b,a b,j⟩
def dP.and(l:dP Xz h g)(t:dP Xz k d):dP Xz (h+k) (eb g d):=λv b j=>by
 let⟨e,ah,a,XE⟩:=l (v+k) b (j.mono (by omega));cases e with
 |false=>exact⟨aA,ah,p9 a,XE.mono (by omega)⟩
 |true=>
  let⟨A,c,f,XS⟩:=t v ah XE;exact⟨A,c,l3 a f,XS⟩
def dP.or(l:dP Xz h g)(t:dP Xz k d):dP Xz (h+k) (fV g d):=λv b j=>by
 let⟨e,ah,a,XE⟩:=l (v+k) b (j.mono (by omega));cases e with
 |true=>exact⟨aa,ah,DN a,XE.mono (by omega)⟩
 |false=>
  let⟨A,c,f,XS⟩:=t v ah XE;exact⟨A,c,tE a f,XS⟩
def dP.next{Yn:fp}(c:0<E)(e:E<1073741824)(f:∀u:Int,∃d,Yn (aB u) (aB 0)=Z (.im<|.aH d)):dP Xz 1 (bb<|ac Yn (ab<|bf 2 G.fA<|ao (aj 0)<|ao (ab<|av<|.int E) az)<|ab<|av<|.int 0):=λv b j=>by
 let⟨u,ah,a,Y,Y,S⟩:=oT (Xz:=Xz) j c e;let⟨d,g⟩:=f u;exact⟨d,ah,FK<|e1 (cO a) rfl rfl rfl g,S⟩
end
abbrev g4(H O r:Int)(XK:List ar)(C Yj z:Option ak):aQ:=[Z (aB H),Z<|aB O,Z<|aB r,Z<|a_ XK,C,Yj,z]
def Vc{f:Int}(j:dG (v+5) b)(N:XK.length<=1000):∃ah n D,vD (Z b::g4 H O r XK (Z<|aB p) (Z<|aB f) z)=Z (.bA,Z ah::g4 H O r n (Z<|aB p) (Z<|aB f) D)/\dG v ah/\(n=XK\/n=XK++[(p,f)]):=by
 obtain⟨e,a⟩:∃e:Bool,bW 7 (iP<|fV (bb<|ac gr (aj 5)<|ab<|cp<|ao (ab<|av<|.int 0)<|ao (ab<|ac cj (aj 2)<|ab<|av<|.int 1) az)<|bb<|ac gr (aj 6)<|ab<|cp<|ao (ab<|av<|.int 0)<|ao (ab<|ac cj (aj 3)<|ab<|av<|.int 1) az) (Z b::g4 H O r XK (Z<|aB p) (Z<|aB f) z)=Z (.bA,Z b::g4 H O r XK (Z<|aB p) (Z<|aB f) (Z<|.im<|.aH e)):=by
  let w:aQ:=Z b::g4 H O r XK (Z<|aB p) (Z<|aB f) z
  have g:bb (ac gr (aj 5)<|ab<|cp<|ao (ab<|av<|.int 0)<|ao (ab<|ac cj (aj 2)<|ab<|av<|.int 1) az) w=Z ([X.int 0,.int<|O+1].any λe=>b1 e<|.int p,w):=dq (bF rfl (aS<|jN (bS rfl<|bS (aS<|bF rfl rfl rfl rfl rfl) rfl) rfl (eH rfl) rfl) rfl rfl rfl);have E:bb (ac gr (aj 6)<|ab<|cp<|ao (ab<|av<|.int 0)<|ao (ab<|ac cj (aj 3)<|ab<|av<|.int 1) az) w=Z ([X.int 0,.int<|r+1].any λe=>b1 e<|.int f,w):=dq (bF rfl (aS<|jN (bS rfl<|bS (aS<|bF rfl rfl rfl rfl rfl) rfl) rfl (eH rfl) rfl) rfl rfl rfl);cases s:([X.int 0,.int<|O+1].any λe=>b1 e<|.int p) with
  |true=>
   rw[s]at g;exact⟨aa,ff (Jl<|DN g) (cV rfl) rfl⟩
  |false=>
   rw[s]at g;exact⟨_,ff (Jl<|tE g E) (cV rfl) rfl⟩
 let Xz:aQ:=g4 H O r XK (Z<|aB p) (Z<|aB f) (Z<|.im<|.aH e)
 have h:∀b:ak,fD (fg gQ 4 eW<|ao (ab<|cp<|ao (aj 5)<|ao (aj 6) az) az) (Z b::Xz)=Z (.bA,Z b::g4 H O r (XK++[(p,f)]) (Z<|aB p) (Z<|aB f) (Z<|.im<|.aH e)):=λb=>ir (iK (p:=.im .aK) (b:=a_ (XK++[(p,f)])) rfl rfl (bS (aS<|jN (bS rfl<|bS rfl rfl) rfl (eH rfl) rfl) rfl) rfl rfl (by
  show eW (.lst<|XK.map af) [.im (af (p,f))]=Z (.im .aK,.lst<|(XK++[(p,f)]).map af);rw[fq];exact la (by rw[a6];omega)) rfl)
 have F:∀u:Int,∃d,c_ (aB u) (aB 0)=Z (.im<|.aH d):=λu=>⟨_,ik u 0⟩;have y:∀u:Int,∃d,iB (aB u) (aB 0)=Z (.im<|.aH d):=λu=>⟨_,rfl⟩;have i:∀k:Int,dP Xz 0 (bb<|ac c_ (aj 1)<|ab<|av<|.int k):=λk=>dP.pure λb=>dq (c3<|ik H k);have I:dP Xz 1 (fV (bb<|ac ph (aj 1)<|ab<|av<|.int 2)<|eb (bb<|ac c_ (aj 1)<|ab<|av<|.int 2)<|fV (lG<|aj 7)<|bb<|ac c_ (ab<|bf 2 G.fA<|ao (aj 0)<|ao (ab<|av<|.int 9) az)<|ab<|av<|.int 0):=
  dP.or (dP.pure λb=>dq<|bF rfl rfl rfl rfl rfl) (dP.and (i 2) (dP.or (dP.pure λb=>yt rfl rfl rfl) (dP.next ∅ ∅ F)));have J:dP Xz 1 (eb (bb<|ac c_ (aj 1)<|ab<|av<|.int 3)<|fV (bb<|ac c_ (aj 5)<|ab<|av<|.int 0)<|eb (bb<|ac c_ (ab<|ac d_ (aj 6)<|ab<|av<|.int 2)<|ab<|av<|.int 0)<|bb<|ac iB (ab<|bf 2 G.fA<|ao (aj 0)<|ao (ab<|av<|.int 5) az)<|ab<|av<|.int 0):=
  dP.and (i 3) (dP.or (dP.pure λb=>dq<|c3<|ik p 0) (dP.and (dP.pure λb=>dq (bF (aS (c3 (il (show (0:Int)<2 by decide)))) rfl rfl rfl<|ik _ 0)) (dP.next ∅ ∅ y)));have L:dP Xz 1 (eb (bb<|ac c_ (aj 1)<|ab<|av<|.int 4)<|bb<|ac iB (ab<|bf 2 G.fA<|ao (aj 0)<|ao (ab<|av<|.int 5) az)<|ab<|av<|.int 0):=dP.and (i 4) (dP.next ∅ ∅ y);have M:dP Xz 0 (eb (bb<|ac c_ (aj 1)<|ab<|av<|.int 5)<|fV (bb<|ac c_ (ab<|ac d_ (aj 5)<|ab<|av<|.int 2)<|ab<|av<|.int 0)<|bb<|ac c_ (aj 6)<|ab<|ac gc (ab<|ac cj (aj 3)<|ab<|av<|.int 1)<|ab<|ac d_ (ab<|ac ll (aj 5)<|ab<|av<|.int 2)<|ab<|av<|.int 2):=by
  have Q:=tc (p/2) (show (2:Int)≠0 by decide);have R:=uQ (p/2) (show (0:Int)<2 by decide);exact dP.and (i 5) (dP.or (dP.pure λb=>dq (bF (aS (c3 (il (show (0:Int)<2 by decide)))) rfl rfl rfl<|ik _ 0)) (dP.pure λb=>dq (bF rfl (aS (bF (aS<|bF rfl rfl rfl rfl rfl) (aS (bF (aS (c3 (wb (show (0:Int)<2 by decide) (show (2:Int)<1073741824 by decide)))) rfl rfl rfl (il (show (0:Int)<2 by decide)))) rfl rfl (jZ (mq (by omega) (by omega))))) rfl rfl<|ik _ _)))
 let⟨c2,l,c,XE⟩:=I (v+4) b j;let⟨c6,t,m,XS⟩:=J (v+3) l XE;let⟨fO,o,q,A⟩:=L (v+2) t XS;let⟨e8,x,B,C⟩:=M (v+2) o A;unfold vD;cases c2 with
 |true=>exact⟨l,XK++[(p,f)],_,bp a<|ht c<|h l,XE.mono (by omega),.inr rfl⟩
 |false=>cases c6 with
  |true=>exact⟨t,XK++[(p,f)],_,bp a<|et c<|ht m<|h t,XS.mono (by omega),.inr rfl⟩
  |false=>cases fO with
   |true=>exact⟨o,XK++[(p,f)],_,bp a<|et c<|et m<|ht q<|h o,A.mono (by omega),.inr rfl⟩
   |false=>cases e8 with
    |true=>exact⟨x,XK++[(p,f)],_,bp a<|et c<|et m<|et q<|ht B<|h x,C.mono (by omega),.inr rfl⟩
    |false=>exact⟨x,XK,_,bp a<|et c<|et m<|et q<|et B rfl,C.mono (by omega),.inl rfl⟩
def D3{q:Nat}{e:X}(b:(hh 0 q)[h]?=Z e):h<q/\e=.int (h:Int):=by
 unfold hh at b;rw[ef]at b;let⟨k,l,t⟩:=b5.mp b;let⟨a,c⟩:=e7.mp l;rw[List.getElem_range]at c;rw[j2]at a;subst c;exact⟨a,by rw[<-t,Int.zero_add]⟩
def Dw(q:Nat):(hh 0 q).length=q:=by rw[hh,a6,j2]
def Fg(H:Int):gc (aB 2) (aB<|if decide ((1:Int)<H) then 1 else 0)=Z (aB<|2*if decide ((1:Int)<H) then 1 else 0):=jZ (QI ∅ ∅)
def Ms(hd:1<=r/\r<=6)(s:0<=p/\p<=6)(j:dG (v+40) b)(F:XK.length<=500)(XO:∀f∈XK,lx f):∃ah c l i,vs (Z b::g4 H O r XK (Z<|aB p) Yj z)=Z (.bA,Z ah::g4 H O r c (Z<|aB p) l i)/\dG v ah/\c.length<=XK.length+8/\∀f∈c,lx f:=by
 have u:∃q:Nat,r+2*(if decide ((1:Int)<H) then 1 else 0)=(q:Int)/\q<=8:=by
  refine⟨(r+2*(if decide ((1:Int)<H) then 1 else 0)).toNat,?_,?_⟩<;>split<;>omega
 let⟨q,y,G⟩:=u;let⟨X0,A,t,m,l,i,rfl,XS,B,C⟩:=z2 (Yi:=bH 6) (d:=vD) (x:=hh 0 q) (λh w=>∃b c Yj z,w=Z b::g4 H O r c (Z<|aB p) Yj z/\dG (v+40-5*h) b/\c.length<=XK.length+h/\∀f∈c,lx f)
  (w:=Z b::g4 H O r XK (Z<|aB p) Yj z) ⟨b,XK,Yj,z,rfl,j,by omega,XO⟩
  (λh e w D d4=>by
   let⟨b,c,Yj,z,rfl,E,Ym,T⟩:=d4;let⟨XG,rfl⟩:=D3 D;let⟨ah,m,i,a,S,n⟩:=Vc (v:=v+40-5*(h+1)) (H:=H) (O:=O) (r:=r) (p:=p) (f:=(h:Int)) (XK:=c) (z:=z) (E.mono (by omega)) (by omega);refine⟨Z b::g4 H O r c (Z<|aB p) (Z<|aB (h:Int)) z,.bA,_,rfl,a,.inl rfl,ah,m,_,_,rfl,S,?_,λf g=>?_⟩
   ·rcases n with rfl|rfl
    ·omega
    ·rw[cC,e6];omega
   ·rcases n with rfl|rfl
    ·exact T f g
    ·rcases dM.mp g with g|g
     ·exact T f g
     ·rw[cf.mp g];exact⟨s.1,by show p<=22;omega,by show (0:Int)<=(h:Int);omega,by show (h:Int)<=22;omega⟩)
 rw[Dw]at XS B;refine⟨t,m,l,i,?_,XS.mono (by omega),by omega,C⟩;unfold vs;refine gk (o:=V) (xT (k:=(q:Int)) (bS (aS (bF rfl (aS<|bF rfl (aS<|dz (bS (aS<|bF rfl rfl rfl rfl rfl) rfl) rfl rfl) rfl rfl<|Fg H) rfl rfl (by rw[<-y];rfl))) rfl) rfl ⟨by omega,by omega⟩) A rfl
def Wf(j:dG (v+700) b):∃ah XK,yS [b]=Z (a_ XK,[ah])/\dG v ah/\XK≠[]/\XK.length<=57/\∀f∈XK,lx f:=by
 let⟨H,l,R,dL,cc,XE⟩:=oT (v:=v+699) (E:=6) (Xz:=[V,V,V,V,V,V,V]) j ∅ ∅;let⟨O,t,U,D,eq,XS⟩:=oT (v:=v+698) (E:=5) (Xz:=[Z (aB H),V,V,V,V,V,V]) XE ∅ ∅;let⟨r,m,al,ev,Ym,F⟩:=oT (v:=v+697) (E:=6) (Xz:=[Z (aB H),V,V,V,V,V,V]) XS ∅ ∅;let y:aQ:=[Z (aB H),Z<|aB<|1+O,Z<|aB<|1+r,V,V,V,V]
 have start:∀{s:bx}{p:Option (l0×aQ)},s (Z m::y)=p->ba (bW 1<|bf 2 G.fA<|ao (aj 0)<|ao (ab<|av<|.int 6) az) (ba (nj 2 3<|ao (ab<|ac cj (ab<|av<|.int 1)<|ab<|bf 2 G.fA<|ao (aj 0)<|ao (ab<|av<|.int 5) az)<|ao (ab<|ac cj (ab<|av<|.int 1)<|ab<|bf 2 G.fA<|ao (aj 0)<|ao (ab<|av<|.int 6) az) az) s) [Z b,V,V,V,V,V,V,V]=p:=λam=>
  bp (gj R (cV rfl) rfl) (bp (XD:=Z m::y) (yF (Ym:=aB (1+O)) (T:=aB (1+r)) (cZ (cO<|e1 rfl (cO U) rfl rfl rfl)<|cZ (cO<|e1 rfl (cO al) rfl rfl rfl) rfl) rfl (cV rfl) (cV rfl) rfl) am);have B:bb (ac c_ (aj 1)<|ab<|av<|.int 1) (Z m::y)=Z (decide (H=1),Z m::y):=dq (c3<|ik H 1);by_cases L:H=1
 ·rw[bG L]at B;let⟨u,M,an,ex,fd,A⟩:=SJ (v:=v+695) (g:=20) (d:=50) ⟨by decide,by decide⟩ ⟨by decide,by decide⟩ F;let⟨ap,XK,as,N,ne,fn,a1⟩:=Mh (v:=v) (E:=2+u) (by omega) (by omega) (A.mono (by omega));refine⟨ap,XK,?_,N,ne,by omega,a1⟩;let⟨a2,bd,be,rfl,bi⟩:=id j;let⟨fr,fO,f0,rfl,f1⟩:=id F;let⟨I,e8,J,rfl,bm⟩:=id A;let⟨bn,bs,bv,rfl,f2⟩:=id N;exact ew (w:=Z (cx bn bs bv)::y) rfl (start<|yz<|ht B<|fz<|dd (XU:=[.aR 0,.bY<|aB<|2+u]) (XD:=Z (cx I e8 J)::y) (cZ rfl<|cZ (cO<|e1 rfl (cO<|dd (XU:=[.aR 0,.bY<|aB 20,.bY<|aB 50]) rfl rfl rfl an rfl) rfl rfl rfl) rfl) rfl rfl as rfl) rfl
 ·rw[decide_eq_false L]at B;have ca:∃q:Nat,(1+O)+2*(if decide ((1:Int)<H) then 1 else 0)=(q:Int)/\q<=7:=by
   refine⟨((1+O)+2*(if decide ((1:Int)<H) then 1 else 0)).toNat,?_,?_⟩<;>split<;>omega
  let⟨q,cd,f4⟩:=ca;let⟨X0,ce,M,XK,C,Yj,z,rfl,A,ch,ci⟩:=z2 (Yi:=bH 5) (d:=vs) (x:=hh 0 q) (λh w=>∃b XK C Yj z,w=Z b::g4 H (1+O) (1+r) XK C Yj z/\dG (v+600-40*h) b/\XK.length<=8*h/\∀f∈XK,lx f)
   (w:=Z m::g4 H (1+O) (1+r) [] V V V) ⟨m,[],V,V,V,rfl,F.mono (by omega),bk _,λf c=>by cases c⟩
   (λh e w cl d4=>by
    let⟨b,XK,C,Yj,z,rfl,co,Ym,T⟩:=d4;let⟨XG,rfl⟩:=D3 cl;let⟨ah,cr,f8,ga,a,S,ge,cs⟩:=Ms (v:=v+600-40*(h+1)) (H:=H) (O:=1+O) (r:=1+r) (p:=(h:Int)) (XK:=XK) (Yj:=Yj) (z:=z) ⟨by omega,by omega⟩ ⟨by omega,by omega⟩ (co.mono (by omega)) (by omega) T;exact⟨Z b::g4 H (1+O) (1+r) XK (Z<|aB (h:Int)) Yj z,.bA,_,rfl,a,.inl rfl,ah,cr,_,_,_,rfl,S,by omega,cs⟩)
  rw[Dw]at A ch;have db:hb (.im<|af (0,0)) (a_ XK)=Z (.im<|.aH<|!decide ((0,0)∈XK)):=by
   show (f5 (af (0,0))<|a_ XK).map (λp=>ak.im<|.aH<|!p)=_;rw[yR XK (0,0)];rfl
  let P:List ar:=if (0,0)∈XK then [] else [(0,0)]
  have em:nQ (a_ [(0,0)]) (aB<|if (!decide ((0,0)∈XK)) then 1 else 0)=Z (a_ P):=by
   show _=Z (ak.lst<|(if (0,0)∈XK then [] else [(0,0)]).map af);by_cases n:(0,0)∈XK
   ·rw[bG n,aF n];rfl
   ·rw[decide_eq_false n,if_neg n];rfl
  have gl:P.length<=1:=by
   show (if (0,0)∈XK then [] else [(0,0)]).length<=1;split
   ·exact e9 _
   ·exact bk _
  have ds:cj (a_ XK) (a_ P)=Z (a_<|XK++P):=by
   show (if (XK.map af).length+(P.map af).length<=100000 then Z (ak.lst<|XK.map af++P.map af) else V)=_;rw[aF (by rw[a6,a6];omega),<-fq]
  have Q:(0,0)∈XK++P:=by
   by_cases n:(0,0)∈XK
   ·exact d6 _ n
   ·refine dH _ ?_;show _∈(if (0,0)∈XK then [] else [(0,0)]);rw[if_neg n];exact .head _
  refine⟨M,XK++P,?_,A.mono (by omega),(λi=>by rw[i]at Q;cases Q),by rw[cC];omega,λf c=>?_⟩
  ·let⟨a2,bd,be,rfl,bi⟩:=id j;let⟨I,e8,J,rfl,bm⟩:=id A;exact ew (w:=Z (cx I e8 J)::g4 H (1+O) (1+r) XK C Yj z) rfl (start (bp (et B rfl) (bp (XD:=Z m::g4 H (1+O) (1+r) [] V V V) rfl (bp (gk (o:=V) (xT (k:=(q:Int)) (bS (aS (bF rfl (aS<|bF rfl (aS<|dz (bS (aS<|bF rfl rfl rfl rfl rfl) rfl) rfl rfl) rfl rfl<|Fg H) rfl rfl (by rw[<-cd];rfl))) rfl) rfl ⟨by omega,by omega⟩) ce rfl)
    (fz<|bF rfl (aS<|bF (aS<|pC (bS (aS<|jN (bS rfl<|bS rfl rfl) rfl (eH rfl) rfl) rfl) rfl (eH rfl) rfl) (aS<|dz (bS (aS<|bF (aS<|jN (bS rfl<|bS rfl rfl) rfl (eH rfl) rfl) rfl rfl rfl db) rfl) rfl rfl) rfl rfl em) rfl rfl ds))))) rfl
  ·rcases dM.mp c with c|c
   ·exact ci f c
   ·have:f=(0,0):=by
     have c:f∈(if (0,0)∈XK then [] else [(0,0)]):=c;split at c
     ·cases c
     ·exact cf.mp c
    rw[this];exact⟨by decide,by decide,by decide,by decide⟩
theorem H2{XR:Type}(A:XR)(a:List XR):∀c:List XR,(c++A::a).eraseIdx c.length=c++a
 |[]=>rfl
 |e::c=>congrArg (e::·) (H2 A a c)
def JM(ae:M.Nodup)(b:f∈M):∃d:List ar,r_ (.aE<|mt M) [.im (af f)]=Z (.im<|.aH aa,.aE<|mt d)/\(f::d).Perm M:=by
 let⟨L,Ya,rfl⟩:=List.append_of_mem b;have g:f∉L:=λi=>(cH.mp ae).2.2 f i f (.head _) rfl;refine⟨L++Ya,?_,Jb.symm⟩;have em:mt (L++f::Ya)=mt L++(b4 f,.aH aa)::mt Ya:=fq;have c:(mt L).length=L.length:=a6 _;have F:(mt (L++f::Ya)).findIdx? (λn=>decide (n.1=b4 f))=Z L.length:=by
  refine FF.mpr ⟨by rw[em,cC,c,b6];omega,?_,λk e=>?_⟩
  ·refine bG ?_;have:(mt (L++f::Ya))[L.length]?=Z (b4 f,.aH aa):=by rw[em,kZ (by omega),c,q3];rfl
   let⟨Y,a⟩:=e7.mp this;rw[a]
  ·have:(mt (L++f::Ya))[k]?=Z (b4 L[k],.aH aa):=by
    rw[em,n3 (by omega),mt,ef,dF e];rfl
   let⟨Y,a⟩:=e7.mp this;rw[a];rw[ek];exact λi=>g (oi i ▸ sm e)
 show (if X.keys 7 (b4 f)=aa then ((mt (L++f::Ya)).findIdx? λn=>decide (n.1=b4 f)).bind _ else V)=_;rw[aF (lF f),F];show ((mt (L++f::Ya))[L.length]?).map (λn=>(ak.im n.2,ak.aE<|(mt (L++f::Ya)).eraseIdx L.length))=_;rw[em,kZ (by omega),c,q3,<-c,H2];show Z (ak.im<|.aH aa,ak.aE<|mt L++mt Ya)=_;unfold mt;rw[fq]
structure k1(M X3:List ar):Prop where
 ae:(X3++M).Nodup
 dY:(X3++M).length<=57
 ne:X3≠[]
def k1.step{b:List ar}(N:k1 M X3)(n:(f::b).Perm M):k1 b (X3++[f]):=by
 have a:(X3++[f]++b).Perm (X3++M):=by
  rw[bI];exact eT X3 n
 exact⟨a.nodup_iff.mpr N.ae,by rw[a.length_eq];exact N.dY,by simp⟩
abbrev fm(b:ak)(XK:List ar)(r p:Int)(M X3:List ar)(q:Int)(B:Option ak):aQ:=[Z b,Z<|aB 14,Z<|a_ XK,Z<|aB r,Z<|aB p,Z<|.aE<|mt M,Z<|a_ X3,Z<|aB q,B]
theorem Jf{b:ak}{XK:List ar}{r p q:Int}:∀(c M X3:List ar) (B:Option ak),k1 M X3->c.Nodup->(∀f∈c,f∈M)->∃g d j,dK (bH 8) KL (c.map af) (fm b XK r p M X3 q B)=Z (.bA,fm b XK r p g d q j)/\k1 g d/\X3.length<=d.length
 |[],M,X3,B,N,_,_=>⟨M,X3,B,rfl,N,bk _⟩
 |f::c,M,X3,B,N,h,bV=>by
  have h:=df.mp h;let⟨k,a,n⟩:=JM ((cH.mp N.ae).2.1) (bV f<|.head _);have XT:=N.step n;let⟨g,d,j,m,Yf,J⟩:=Jf (b:=b) (XK:=XK) (r:=r) (p:=p) (q:=q) c k (X3++[f]) (Z<|.im<|af f) XT h.2 (λe l=>(b0.mp<|n.mem_iff.mpr<|bV e<|.tail _ l).resolve_left λi=>h.1<|i ▸ l);refine⟨g,d,j,?_,Yf,by rw[cC,e6]at J;omega⟩;have aW:=N.dY;rw[cC]at aW;rw[bz];refine gi (XD:=fm b XK r p M X3 q (Z<|.im<|af f)) rfl (bp (XD:=fm b XK r p k X3 q (Z<|.im<|af f)) (ir<|iK (p:=.im (.aH aa)) (b:=.aE (mt k)) rfl rfl (bS rfl rfl) rfl rfl a rfl)<|ir<|iK (p:=.im .aK) (b:=a_ (X3++[f])) rfl rfl (bS rfl rfl) rfl rfl ?_ rfl) m;show eW (.lst<|X3.map af) [.im (af f)]=Z (.im .aK,.lst<|(X3++[f]).map af);rw[fq];exact la (by rw[a6];omega)
def xQ{J:List ar}{e:ar}(a:0<=q)(b:J[q.toNat]?=Z e):bh (a_ J) (aB q)=Z (.im<|af e):=by
 show (ed (J.map af) q).map _=_;rw[kJ a (by rw[ef,b];rfl)];rfl
def KR(J:List ar):dI [a_ J]=Z (aB (J.length:Int)):=by
 show Z (ak.im<|.int ((J.map af).length:Int))=_;rw[a6]
def Ti(N:k1 M X3):∃c g j h,ho ub xx 1000000 (fm b XK r p M X3 0 B)=Z (.bA,fm b XK r p c g j h)/\k1 c g:=by
 let⟨X0,k,c,g,j,h,rfl,Yf⟩:=ry (f:=ub) (d:=xx) (λE w=>∃M X3 q B,w=fm b XK r p M X3 q B/\k1 M X3/\0<=q/\q<=X3.length/\57-q<=E)
  (λw=>∃M X3 q B,w=fm b XK r p M X3 q B/\k1 M X3) (λE w ⟨M,X3,q,B,a,N,m,u,v⟩=>by
   subst a;have aW:=N.dY;rw[cC]at aW;have f:ub (fm b XK r p M X3 q B)=Z (decide (q<(X3.length:Int)),fm b XK r p M X3 q B):=dq (bF rfl (aS<|dz (bS rfl rfl) rfl<|KR X3) rfl rfl rfl);by_cases l:q<(X3.length:Int)
   ·rw[bG l]at f;refine⟨aa,_,f,λ_=>?_,λi=>Bool.noConfusion i⟩;have n:q.toNat<X3.length:=by omega
    let⟨c,g,h,k,Yf,J⟩:=Jf (b:=b) (XK:=XK) (r:=r) (p:=p) (q:=q) (dr M X3[q.toNat]) M X3 B N ((qf _).filter _) λe s=>(mc.mp s).2;have t:bf 2 G.lq (ao (aj 5)<|ao (ab<|ac bh (aj 6)<|aj 7) az) (fm b XK r p M X3 q B)=Z (a_<|dr M X3[q.toNat],fm b XK r p M X3 q B):=
     dd (XU:=[.aR 5,.bY<|.im<|af X3[q.toNat]]) (cZ rfl<|cZ (cO<|c3<|xQ m<|dF n) rfl) rfl rfl (Ba (lP.mt M) _) rfl;exact⟨.bA,fm b XK r p c g (q+1) h,bp (gk (o:=V) (p_ t rfl) k rfl)<|ff (bF rfl rfl rfl rfl rfl) (cV rfl) rfl,.inl rfl,E-1,by omega,c,g,q+1,h,rfl,Yf,by omega,by omega,by omega⟩
   ·rw[decide_eq_false l]at f;exact⟨aA,_,f,(λi=>Bool.noConfusion i),λ_=>⟨M,X3,q,B,rfl,N⟩⟩) 1000000 57 (fm b XK r p M X3 0 B) ⟨M,X3,0,B,rfl,N,iJ 0,by omega,by omega⟩ (by omega)
 exact⟨c,g,j,h,k,Yf⟩
def UM(f:ar):kf [f] f f f=aA:=by
 have v:dr [f] f=[]:=Fs.mpr λe a i=>lp a (cf.mp<|e_ i);unfold kf;rw[v,gu,gu,aF rfl];show decide ((0+(1+(1+0)))%2=1)=aA;exact decide_eq_false ∅
def O1(ae:X3.Nodup)(dY:X3.length<=57)(ne:X3≠[]):∃e,ho uC Av 1000000 (fm b XK r p M X3 q B)=Z (.bA,fm b XK r p M e q B)/\e.Nodup/\e.length<=57/\e≠[]:=by
 let⟨X0,l,e,rfl,g,d,f⟩:=ry (f:=uC) (d:=Av) (λE w=>∃X3,w=fm b XK r p M X3 q B/\X3.Nodup/\X3.length<=57/\X3≠[]/\X3.length<=E)
  (λw=>∃X3,w=fm b XK r p M X3 q B/\X3.Nodup/\X3.length<=57/\X3≠[]) (λE w ⟨X3,a,ae,dY,ne,m⟩=>by
   subst a;let⟨c,s,rfl⟩:=sE ne;let⟨h,X5,t,a⟩:=Du (.inl rfl:te (a_ (c::s)) (c::s)) ae (by omega) c c;have j:bh (a_ (c::s)) (aB 0)=Z (.im<|af c):=xQ ∅ rfl;have n:uC (fm b XK r p M (c::s) q B)=Z (decide ((14:Int)<((h.filter<|kf (c::s) c c).length:Int)),fm b XK r p M (c::s) q B):=
    dq (bF (aS<|dz (bS (aS<|dd (XU:=[.aR 6,.bY<|.im<|af c,.bY<|.im<|af c]) (cZ rfl<|cZ (cO<|c3 j)<|cZ (cO<|c3 j) rfl) rfl rfl a rfl) rfl) rfl<|KR _) rfl rfl rfl rfl);refine⟨_,_,n,λk=>?_,λ_=>⟨c::s,rfl,ae,dY,ne⟩⟩;have o:s≠[]:=λi=>by
    subst i;have:h=[c]:=List.perm_singleton.mp X5;subst this;rw[mV (by rw[UM];exact cB)]at k;cases k
   have bl:vz (.lst<|(c::s).map af) []=Z (.im<|af<|(c::s).getLast ne,a_ (c::s).dropLast):=by
    show (((c::s).map af).getLast?).map (λr=>(ak.im r,ak.lst ((c::s).map af).dropLast))=_;rw[List.getLast?_map,List.getLast?_eq_some_getLast ne,<-List.map_dropLast];rfl
   have u:0<s.length:=rq.mpr o;refine⟨.bA,_,ir<|iK (b:=a_ (c::s).dropLast) rfl rfl rfl rfl rfl bl rfl,.inl rfl,E-1,?_,(c::s).dropLast,rfl,ae.sublist<|List.dropLast_sublist _,?_,λi=>?_,?_⟩
   ·rw[b6]at m;omega
   ·rw[uP];omega
   ·have:=congrArg List.length i;rw[uP,b6,gs]at this;omega
   ·rw[uP];omega) 1000000 57 (fm b XK r p M X3 q B) ⟨X3,rfl,ae,dY,ne,dY⟩ (by omega)
 exact⟨e,l,g,d,f⟩
def LR(j:dG (v+800) b):∃ah Y,Ak [b,aB 14]=Z (a7 Y,[ah,aB 14])/\dG v ah/\Y≠[]/\Y.length<=57:=by
 let⟨l,XK,P,XE,R,cd,W⟩:=Wf (v:=v+100) j;let⟨r,t,S,ce,Ym,XS⟩:=oT (v:=v+99) (E:=8) (Xz:=[Z (aB 14),Z<|a_ XK,V,V,V,V,V,V]) XE ∅ ∅;let⟨p,ch,U,ci,cl,L⟩:=oT (v:=v+98) (E:=8) (Xz:=[Z (aB 14),Z<|a_ XK,V,V,V,V,V,V]) XS ∅ ∅;let⟨M,F,mk,lk,al⟩:=Qa XK;let⟨u,am,X5,co⟩:=Fb F (by omega);have an:u≠[]:=λi=>by
  let⟨f,s,a⟩:=sE R;have:f∈u:=X5.mem_iff.mpr ((mk f).mpr (by rw[a];exact .head _));rw[i]at this;cases this
 let⟨e,H,ap,as,N⟩:=qO (v:=v) (c:=a_ u) (.inl rfl) (λi=>an<|q8.mp i) (by rw[a6,X5.length_eq];omega) (L.mono (by omega));let⟨f,a1,rfl⟩:=cX.mp ap;let⟨C,X8,O⟩:=JM F (X5.mem_iff.mp a1);have a2:k1 C [f]:=⟨O.nodup_iff.mpr F,by rw[List.singleton_append,O.length_eq];omega,λi=>by cases i⟩;let⟨y,cr,z,A,bd,X4⟩:=Ti (b:=H) (XK:=XK) (r:=r) (p:=p) (B:=V) a2;have be:=X4.dY;rw[cC]at be;let⟨X3,bi,ae,dY,ne⟩:=O1 (b:=H) (XK:=XK) (r:=r) (p:=p) (q:=z) (M:=y) (B:=A) (cH.mp X4.ae).1 (by omega) X4.ne;let⟨Y,bm,bn,W⟩:=vZ (e:=a_ (X3.map λf=>(f.1+r,f.2+p))) (.inl rfl) (SW (λg W d W a=>by
  let⟨cs,db⟩:=Prod.mk.inj a;exact lz (by omega) (by omega)) ae) (by rw[a6];omega)
 have k:Y.length=X3.length:=by rw[bn.length_eq,a6]
 refine⟨H,Y,?_,N,λi=>ne (Kx.mp (by rw[<-k,i];rfl)),by omega⟩;have Q:hA [.aE (mt M)]=Z (a_ u):=by
  show jR ((mt M).map λn=>X.tup n.1)=_;rw[QC];exact am
 let⟨ds,dL,eq,rfl,ev⟩:=id j;let⟨bs,c2,bv,rfl,ex⟩:=id XE;let⟨I,fO,J,rfl,fd⟩:=id L;let⟨h,e8,m,rfl,fn⟩:=id N;let X_:aQ:=[Z (cx I fO J),Z<|aB 14,Z<|a_ XK,Z<|aB r,Z<|aB p,V,V,V,V]
 have D:=wO (w:=X_) (XD:=[Z (cx I fO J),Z<|aB 14,Z .c8,Z<|aB r,Z<|aB p,V,V,V,V]) (b:=cL (aj 2)) (o:=Z (2,a_ XK)) (XK:=XK) rfl (by omega) rfl;rw[al]at D;have ca:bh (a_ [f]) (aB 0)=Z (.im<|af f):=xQ ∅ rfl;have c1:d2 2 [3,4] (cL<|aj 6) (jt 2<|fY (bH 0)<|fY (bH 1) jH) gW G.Dy (fm (cx h e8 m) XK r p y X3 z A)=Z (a_<|X3.map λf=>(f.1+r,f.2+p),fm (cx h e8 m) XK r p y X3 z A):=by
  rw[a_,fM];refine jM (x:=X3.map af) (o:=Z (6,a_ X3)) (XD:=[Z (cx h e8 m),Z<|aB 14,Z<|a_ XK,Z<|aB r,Z<|aB p,Z<|.aE<|mt y,Z .c8,Z<|aB z,A]) rfl (ye af (λf=>af (f.1+r,f.2+p)) _ (λf W=>?_) (by omega)) rfl;exact⟨[Z (aB f.1),Z<|aB f.2,Z<|aB r,Z<|aB p],_,[Z (aB f.1),Z<|aB f.2,Z<|aB r,Z<|aB p],rfl,rfl,jN (bS (aS<|bF rfl rfl rfl rfl rfl)<|bS (aS<|bF rfl rfl rfl rfl rfl) rfl) rfl (eH rfl) rfl,rfl⟩
 exact ew (w:=fm (cx h e8 m) XK r p y X3 z A) rfl (bp (XD:=[Z (cx bs c2 bv),Z<|aB 14,Z<|a_ XK,V,V,V,V,V,V]) (gj (dd (XU:=[.aR 0]) rfl rfl rfl P rfl) (cV rfl) rfl)
  (bp (XD:=X_) (yF (Ym:=aB r) (T:=aB p) (cZ (cO S)<|cZ (cO U) rfl) rfl (cV rfl) (cV rfl) rfl)
  (bp (XD:=[Z (cx I fO J),Z<|aB 14,Z<|a_ XK,Z<|aB r,Z<|aB p,Z<|.aE<|mt M,V,V,V]) (ff D (cV rfl) rfl)
  (bp (XD:=[Z (cx h e8 m),Z<|aB 14,Z<|a_ XK,Z<|aB r,Z<|aB p,Z<|.aE<|mt M,Z<|a_ [f],V,V]) (gj (lE (cZ (cO<|dd (XU:=[.aR 0,.bY<|a_ u]) (cZ rfl<|cZ (cO<|dz (bS rfl rfl) rfl Q) rfl) rfl rfl as rfl) rfl) rfl (eH rfl) rfl) (cV rfl) rfl)
  (bp (XD:=[Z (cx h e8 m),Z<|aB 14,Z<|a_ XK,Z<|aB r,Z<|aB p,Z<|.aE<|mt C,Z<|a_ [f],V,V]) (ir<|iK (p:=.im (.aH aa)) (b:=.aE (mt C)) rfl rfl (bS (aS<|c3 ca) rfl) rfl rfl X8 rfl)
  (bp (XD:=fm (cx h e8 m) XK r p C [f] 0 V) rfl<|bp bd<|bp bi<|fz<|dz (bS (aS<|dz (bS (aS c1) rfl) rfl bm) rfl) rfl rfl))))) ) rfl
def Ap(h:Int):Int:=(if h<0 then -h else h)
def jQ(f o:ar):Bool:=(decide (Ap (f.1-o.1)+Ap (f.2-o.2)=1)&&ec f o)
def Ss(f o:ar):jQ f o=aa↔o∈cG f/\ec f o=aa:=by
 unfold jQ Ap;rw[cq,ek,pI];refine and_congr_left λ_=>?_;split<;>split<;>omega
def qV(Y XK:List ar):List a0:=(XK.flatMap λf=>(Y.filter<|jQ f).map λo=>(f,o))
theorem F6{Y:List ar}(ae:Y.Nodup):∀XK:List ar,(qV Y XK).Perm (kq Y XK)
 |[]=>List.Perm.nil
 |f::XK=>by
  unfold qV kq;rw[ot,ot];refine List.Perm.append (sr _<|(sf (ae.filter _)<|((qf f).filter _).filter _).mpr λo=>?_) (F6 ae XK);rw[gD,gD,Ss,<-dr,mc];exact⟨λb=>⟨⟨b.2.1,b.1⟩,b.2.2⟩,λb=>⟨b.1.2,b.1.1,b.2⟩⟩
theorem wI{Y:List ar}{f:ar}:∀(c:List ar) (b:List a0) (e:Option ak),b.length+c.length<=5000->∃d,dK (bH 3) BR (c.map af) [Z (a7 Y),Z<|c9 b,Z<|.im<|af f,e]=Z (.bA,[Z (a7 Y),Z<|c9<|b++(c.filter<|jQ f).map λo=>(f,o),Z<|.im<|af f,d])
 |[],b,e,_=>⟨e,by rw[show (([]:List ar).filter<|jQ f).map (λo=>(f,o))=[] from rfl,bO];rfl⟩
 |o::c,b,e,k=>by
  rw[b6]at k;let w:aQ:=[Z (a7 Y),Z<|c9 b,Z<|.im<|af f,Z<|.im<|af o]
  have i:∀n:ar,bh (.im<|af n) (aB 0)=Z (aB n.1):=λn=>by show (ed [X.int n.1,.int n.2] 0).map _=_;rw[Ce];rfl
  have j:∀n:ar,bh (.im<|af n) (aB 1)=Z (aB n.2):=λn=>by show (ed [X.int n.1,.int n.2] 1).map _=_;rw[Kj];rfl
  have q:eb (bb<|ac c_ (ab<|ac cj (ab<|bQ kS<|ao (ab<|ac jd (ab<|ac bh (aj 2)<|ab<|av<|.int 0)<|ab<|ac bh (aj 3)<|ab<|av<|.int 0) az)<|ab<|bQ kS<|ao (ab<|ac jd (ab<|ac bh (aj 2)<|ab<|av<|.int 1)<|ab<|ac bh (aj 3)<|ab<|av<|.int 1) az)<|ab<|av<|.int 1) (bb<|ac vY (aj 2)<|aj 3) w=Z (jQ f o,w):=
   tw (dq<|bF (aS<|bF (aS<|dz (bS (aS<|bF (aS<|c3<|i f) (aS<|c3<|i o) rfl rfl rfl) rfl) rfl<|tO _) (aS<|dz (bS (aS<|bF (aS<|c3<|j f) (aS<|c3<|j o) rfl rfl rfl) rfl) rfl<|tO _) rfl rfl rfl) rfl rfl rfl<|ik _ _) (dq<|bF rfl rfl rfl rfl rfl);rw[bz];cases g:jQ f o with
  |true=>
   let⟨d,h⟩:=wI (Y:=Y) (f:=f) c (b++[(f,o)]) (Z<|.im<|af o) (by rw[cC,e6];omega);refine⟨d,gi (XD:=w) rfl (ht (q.trans (by rw[g]))<|ir<|iK (p:=.im .aK) (b:=c9 (b++[(f,o)])) rfl rfl (bS (aS<|jN (bS rfl<|bS rfl rfl) rfl (eH rfl) rfl) rfl) rfl rfl ?_ rfl) ?_⟩
   ·show eW (.lst<|b.map bT) [.im (bT (f,o))]=Z (.im .aK,.lst<|(b++[(f,o)]).map bT);rw[fq];exact la (by rw[a6];omega)
   ·have a:b++((o::c).filter<|jQ f).map (λo=>(f,o))=(b++[(f,o)])++(c.filter<|jQ f).map λo=>(f,o):=by
     rw[nM g,bz,bI];rfl
    rw[a];exact h
  |false=>
   let⟨d,h⟩:=wI (Y:=Y) (f:=f) c b (Z<|.im<|af o) (by omega);refine⟨d,gi (XD:=w) rfl (et (q.trans (by rw[g])) rfl) ?_⟩;rw[mV (by rw[g];exact cB)];exact h
theorem Bk{Y:List ar}(h:Y.length<=36):∀(e:List ar) (c:List a0) (Yq d:Option ak),c.length+36*e.length<=4000->∃YG g,dK (bH 2) IH (e.map af) [Z (a7 Y),Z<|c9 c,Yq,d]=Z (.bA,[Z (a7 Y),Z<|c9<|c++qV Y e,YG,g])
 |[],c,Yq,d,_=>⟨Yq,d,by rw[show qV Y []=[] from rfl,bO];rfl⟩
 |f::e,c,Yq,d,b=>by
  rw[b6]at b;let⟨j,a⟩:=wI (Y:=Y) (f:=f) Y c d (by omega);have k:((Y.filter<|jQ f).map λo=>(f,o)).length<=36:=by rw[a6];exact dg (s7 _ _) h
  let⟨YG,g,i⟩:=Bk h e (c++(Y.filter<|jQ f).map λo=>(f,o)) (Z<|.im<|af f) j (by rw[cC];omega);refine⟨YG,g,?_⟩;rw[bz];refine gi (XD:=[Z (a7 Y),Z<|c9 c,Z<|.im<|af f,d]) rfl (gk (o:=V) (XD:=[Z (a7 Y),Z<|c9 c,Z<|.im<|af f,d]) rfl a rfl) ?_;rw[bI]at i;exact i
def xZ(ae:Y.Nodup)(a:Y.length<=36):pQ [a7 Y]=Z (lR<|cD Y,[a7 Y]):=by
 let⟨YG,d,e⟩:=Bk a Y [] V V (by rw[gs];omega);have X5:=F6 ae Y;have b:(cD Y).length<=63:=JB (λf=>(CC Y f).symm) ae a;have c:=Hk (X5.nodup_iff.mpr<|ja ae) (by rw[X5.length_eq];exact b);rw[HN b X5]at c;exact ew (w:=[Z (a7 Y),Z<|c9<|qV Y Y,YG,d]) rfl (bp (XD:=[Z (a7 Y),Z<|c9 [],V,V]) rfl<|bp (gk (o:=V) (XD:=[Z (a7 Y),Z<|c9 [],V,V]) rfl e rfl)<|fz<|dz (bS rfl rfl) rfl c) rfl
theorem IY{b:List ar}(ae:Y.Nodup)(n:Y.Perm b):(cD Y).Perm (cD b):=
 (sf (ja ae)<|ja<|n.nodup_iff.mp ae).mpr λa=>by rw[eJ,eJ,n.mem_iff,n.mem_iff]
structure gP(X3:List ar):Prop where
 ae:X3.Nodup
 ne:X3≠[]
 con:∀g∈X3,∀d∈X3,g8 X3 g d
 ln:(cD X3).length<=10
 dY:X3.length<=(cD X3).length+1
def tD{D:List ar}{g e:ar}(m:∀f∈XK,f∈D)(b:g8 XK g e):g8 D g e:=by
 induction b with
 |self=>exact .self
 |step _ l t a=>exact .step a (m _ l) t
def gP.perm{a:List ar}(XC:gP X3)(n:a.Perm X3):gP a:=by
 have J:=(IY XC.ae n.symm).length_eq;refine⟨n.nodup_iff.mpr XC.ae,λi=>XC.ne ?_,λg b d c=>tD (λf e=>n.mem_iff.mpr e)<|XC.con g (n.mem_iff.mp b) d<|n.mem_iff.mp c,by rw[<-J];exact XC.ln,by rw[<-J,n.length_eq];exact XC.dY⟩;rw[i]at n;exact List.nil_perm.mp n
def gP.one(f:ar):gP [f]:=by
 have i:cD [f]=[]:=CP.mpr λa b=>by
  let⟨l,t,c,Y⟩:=eJ.mp b;exact lp c ((cf.mp t).trans (cf.mp l).symm)
 refine⟨es _ _,(λi=>by cases i),λg e d h=>?_,by rw[i];exact e9 _,by rw[i];exact bk _⟩;rw[cf.mp e,cf.mp h];exact .self
def gP.add(XC:gP X3)(m:f∉X3)(o:dr X3 f≠[])(J:(cD<|X3++[f]).length<=10):gP (X3++[f]):=by
 let⟨r,s,a⟩:=sE o;let⟨hd,k⟩:=mc.mp (show r∈dr X3 f by rw[a];exact .head _);have ae:(X3++[f]).Nodup:=cH.mpr ⟨XC.ae,es _ _,λg c d h a=>m<|cf.mp h ▸ a ▸ c⟩;have j:∀e∈X3,e∈X3++[f]:=λe p=>d6 _ p;have n:f∈X3++[f]:=dH _ (.head _);have q:g8 (X3++[f]) r f:=.step .self n (lQ hd);have u:g8 (X3++[f]) f r:=.step .self (j r k) hd;refine⟨ae,by simp,λg c d h=>?_,J,?_⟩
 ·rcases dM.mp c with c|c<;>rcases dM.mp h with h|h
  ·exact tD j (XC.con g c d h)
  ·rw[cf.mp h];exact (tD j<|XC.con g c r k).trans q
  ·rw[cf.mp c];exact u.trans (tD j<|XC.con r k d h)
  ·rw[cf.mp c,cf.mp h];exact .self
 ·obtain⟨H,w,x⟩:∃H:a0,H∈cD (X3++[f])/\H∉cD X3:=by
   cases b:ec f r with
   |true=>exact⟨(f,r),eJ.mpr ⟨n,j r k,hd,b⟩,λi=>m (eJ.mp i).1⟩
   |false=>
    refine⟨(r,f),eJ.mpr ⟨j r k,n,lQ hd,?_⟩,λi=>m (eJ.mp i).2.1⟩;rw[hV];show r.1<f.1\/r.1=f.1/\r.2<f.2;have v:¬ (f.1<r.1\/f.1=r.1/\f.2<r.2):=λi=>by rw[(hV f r).mpr i]at b;cases b
    have:=pI.mp hd;omega
  have:=o8 (M:=H::cD X3) (Y:=cD (X3++[f])) (df.mpr ⟨x,ja XC.ae⟩) λa he=>by
   rcases b0.mp he with rfl|he
   ·exact w
   ·let⟨l,t,y⟩:=eJ.mp he;exact eJ.mpr ⟨j _ l,j _ t,y⟩
  rw[b6]at this;rw[cC,e6];have:=XC.dY;omega
def NL(bs:List ar):gd (a_ bs) (.lst [])=Z (.im<|.aH<|!decide (bs=[])):=by
 show (if (X.ct 8 (bs.map af)&&X.ct 8 [])=aa then Z (ak.im<|.aH<|!fs (bs.map af) []) else V)=_;rw[sI,aF<|show (aa&&X.ct 8 [])=aa from rfl];cases bs<;>rfl
abbrev lS(b:ak)(Y X3:List ar)(a:Option ak):aQ:=[Z b,Z<|a7 Y,Z<|a_ X3,a]
def R0(XC:gP X3):∃m,uT (lS b Y X3<|Z<|.im<|af f)=Z (.bA,lS b Y m<|Z<|.im<|af f)/\gP m:=by
 let w:aQ:=lS b Y X3 (Z<|.im<|af f)
 have x:X3.length<=11:=dg XC.dY (uD XC.ln);have c:bb (ac hb (aj 3)<|aj 2) w=Z (!decide (f∈X3),w):=dq (bF rfl rfl rfl rfl (by
  show (f5 (af f)<|a_ X3).map (λp=>ak.im<|.aH<|!p)=_;rw[yR X3 f];rfl))
 have D:=wO (w:=w) (XD:=[Z b,Z<|a7 Y,Z .c8,Z<|.im<|af f]) (b:=cL (aj 2)) (o:=Z (2,a_ X3)) (XK:=X3) rfl (by omega) rfl;have h:bb (ac gd (ab<|bf 2 G.lq<|ao (ab<|bQ n7<|ao (ab<|d2 1 [] (cL<|aj 2) (bH 0) gW G.CB) az)<|ao (aj 3) az)<|ab<|eu az) w=Z (!decide (dr X3 f=[]),w):=
  dq (bF (aS<|dd (XU:=[.bY (.aE<|gR<|mt X3),.aR 3]) (bS (aS D) rfl) rfl rfl (Ba (lP.fold X3) f) rfl) (aS<|pC rfl rfl (eH rfl) rfl) rfl rfl<|NL _);unfold uT;by_cases i:f∈X3
 ·rw[bG i]at c;exact⟨X3,et (p9 c) rfl,XC⟩
 rw[decide_eq_false i]at c;by_cases k:dr X3 f=[]
 ·rw[bG k]at h;exact⟨X3,et (l3 c h) rfl,XC⟩
 rw[decide_eq_false k]at h;have ae:(X3++[f]).Nodup:=cH.mpr ⟨XC.ae,es _ _,λg r d s a=>i<|cf.mp s ▸ a ▸ r⟩;have z:(X3++[f]).length<=12:=by rw[cC,e6];omega
 let⟨l,t,X5,A⟩:=vZ (e:=a_ (X3++[f])) (.inl rfl) ae (by omega);have ad:cj (a_ X3) (a_ [f])=Z (a_<|X3++[f]):=by
  show (if (X3.map af).length+1<=100000 then Z (ak.lst<|X3.map af++[af f]) else V)=_;rw[aF (by rw[a6];omega),a_,fq];rfl
 let⟨T,u,fX⟩:=v3 (cD l);have v:T.length=(cD<|X3++[f]).length:=by rw[u.length_eq,(IY ae X5.symm).length_eq]
 have n:=xZ (Y:=l) (X5.nodup_iff.mpr ae) (by rw[X5.length_eq];omega);rw[fX]at n;have bY:dI [c9 T]=Z (aB ((cD<|X3++[f]).length:Int)):=by
  show Z (ak.im<|.int ((T.map bT).length:Int))=_;rw[a6,v]
 have j:bb (ac g6 (ab<|bQ dI<|ao (ab<|bf 1 G.pQ<|ao (ab<|bQ kM<|ao (ab<|bQ hA<|ao (ab<|ac cj (aj 2)<|ab<|eu<|ao (aj 3) az) az) az) az) az)<|ab<|av<|.int 10) w=Z (decide (((cD<|X3++[f]).length:Int)<=10),w):=
  dq (bF (aS<|dz (bS (aS<|dd (XU:=[.bY (a7 l)]) (bS (aS<|dz (bS (aS<|dz (bS (aS<|bF rfl (aS<|pC (bS rfl rfl) rfl (eH rfl) rfl) rfl rfl ad) rfl) rfl t) rfl) rfl rfl) rfl) rfl rfl n rfl) rfl) rfl bY) rfl rfl rfl rfl);by_cases q:((cD<|X3++[f]).length:Int)<=10
 ·rw[bG q]at j;refine⟨X3++[f],ht (l3 c h)<|ht j<|ir<|iK (p:=.im .aK) (b:=a_ (X3++[f])) rfl rfl (bS rfl rfl) rfl rfl ?_ rfl,XC.add i k (by omega)⟩;show eW (.lst<|X3.map af) [.im (af f)]=Z (.im .aK,.lst<|(X3++[f]).map af);rw[fq];exact la (by rw[a6];omega)
 ·rw[decide_eq_false q]at j;exact⟨X3,ht (l3 c h)<|et j rfl,XC⟩
theorem Jx{b:ak}{Y:List ar}:∀(e X3:List ar) (c:Option ak),gP X3->∃d g,dK (bH 3) uT (e.map af) (lS b Y X3 c)=Z (.bA,lS b Y d g)/\gP d
 |[],X3,c,XC=>⟨X3,c,rfl,XC⟩
 |f::e,X3,c,XC=>by
  let⟨h,a,i⟩:=R0 (b:=b) (Y:=Y) (f:=f) XC;let⟨d,g,j,D9⟩:=Jx (b:=b) (Y:=Y) e h (Z<|.im<|af f) i;exact⟨d,g,gi rfl a j,D9⟩
def Qv(j:dG (v+900) b):∃ah Y,Bh [b]=Z (a7 Y,[ah])/\dG v ah/\gP Y/\iZ Y:=by
 let⟨l,Y,c,XE,ne,z⟩:=LR (v:=v+100) j;have A:0<Y.length:=rq.mpr ne;let⟨u,t,d,f,B,XS⟩:=qZ (v:=v) (E:=(Y.length:Int)) (XE.mono (by omega)) (by omega) (by omega);have g:u.toNat<Y.length:=by omega
 have h:bh (a7 Y) (aB u)=Z (.im<|af Y[u.toNat]):=by
  show (ed (Y.map af) u).map _=_;rw[kJ (r:=af Y[u.toNat]) f (by rw[ef,dF g];rfl)];rfl
 let⟨X3,i,k,XC⟩:=Jx (b:=t) (Y:=Y) (List.replicate 3 Y).flatten [Y[u.toNat]] V (gP.one _);have C:X3.length<=11:=dg XC.dY (uD XC.ln);let⟨m,n,X5,p⟩:=vZ (e:=a_ X3) (.inl rfl) XC.ae (by omega);refine⟨t,m,?_,XS,XC.perm X5,p⟩;have q:dI [a7 Y]=Z (aB (Y.length:Int)):=by show Z (ak.im<|.int ((Y.map af).length:Int))=_;rw[a6]
 let⟨D,F,G,rfl,H⟩:=id j;let⟨s,c2,x,rfl,I⟩:=id XE;let⟨YH,c6,a,rfl,J⟩:=id XS;have mn:nQ (.lst<|Y.map af) (aB 3)=Z (a_ (List.replicate 3 Y).flatten):=by
  show (if decide ((0:Int)<=3/\(3:Int)<=100/\(Y.map af).length<=1000)=aa then Z (ak.lst (List.replicate 3<|Y.map af).flatten) else V)=_;rw[aF (bG ⟨by decide,by decide,by rw[a6];omega⟩),a_,List.map_flatten,List.map_replicate]
 have y:ac nQ (ab<|bQ qW<|ao (aj 1) az) (ab<|av<|.int 3) (lS (cx YH c6 a) Y [Y[u.toNat]] V)=Z (a_ (List.replicate 3 Y).flatten,lS (cx YH c6 a) Y [Y[u.toNat]] V):=bF (aS<|dz (bS rfl rfl) rfl rfl) rfl rfl rfl mn;exact ew (w:=lS (cx YH c6 a) Y X3 i) rfl (bp (XD:=[Z (cx s c2 x),Z<|a7 Y,V,V]) (gj (dd (XU:=[.aR 0,.bY<|aB 14]) rfl rfl rfl c rfl) (cV rfl) rfl)
  (bp (XD:=lS (cx YH c6 a) Y [Y[u.toNat]] V) (gj (lE (cZ (cO<|e1 rfl (cO<|dd (XU:=[.aR 0,.bY<|aB (Y.length:Int)]) (cZ rfl<|cZ (cO<|n9 (cZ rfl rfl) rfl q) rfl) rfl rfl d rfl) rfl rfl h) rfl) rfl (eH rfl) rfl) (cV rfl) rfl)
  (bp (gk (o:=V) (p_ y rfl) k rfl)<|fz<|dz (bS (aS<|dz (bS rfl rfl) rfl n) rfl) rfl rfl))) rfl
def mk(XI:ar->Bool):List ar->Nat
 |[]=>0
 |f::p=>(XI f).toNat+2*mk XI p
theorem Em{XI y:ar->Bool}:∀{Y:List ar},mk XI Y=mk y Y->∀f∈Y,XI f=y f
 |e::p,b,f,a=>by
  unfold mk at b;have l:=xi (XI e);have t:=xi (y e);rcases b0.mp a with rfl|a
  ·cases c:XI f<;>cases d:y f<;>rw[c,d]at b<;>first|rfl|(simp only[Bool.toNat_true,Bool.toNat_false]at b;omega)
  ·exact Em (by omega) f a
theorem oj{XI y:ar->Bool}:∀{Y:List ar},(∀f∈Y,XI f=y f)->mk XI Y=mk y Y
 |[],_=>rfl
 |e::p,b=>by
  unfold mk;rw[b e (.head _),oj λf a=>b f<|.tail _ a]
theorem tA:∀Y:List ar,mk (λ_=>aA) Y=0
 |[]=>rfl
 |f::p=>by
  unfold mk;rw[tA p];rfl
theorem w2{XI y:ar->Bool}:∀{Y:List ar},(∀f∈Y,¬ (XI f=aa/\y f=aa))->mk XI Y+mk y Y=mk (λf=>XI f || y f) Y
 |[],_=>rfl
 |e::p,b=>by
  unfold mk;rw[<-w2 λf a=>b f<|.tail _ a];have:=b e (.head _);cases c:XI e<;>cases d:y e
  ·show 0+_+(0+_)=0+_;omega
  ·show 0+_+(1+_)=1+_;omega
  ·show 1+_+(0+_)=1+_;omega
  ·exact absurd ⟨c,d⟩ this
theorem EW(XI y:ar->Bool):∀Y:List ar,mk XI Y &&& mk y Y=mk (λf=>XI f&&y f) Y
 |[]=>Nat.zero_and 0
 |e::p=>by
  have r:∀(d:Bool) (v:Nat),(d.toNat+2*v)/2=v/\(d.toNat+2*v)%2=d.toNat:=λd v=>by
   have:=xi d;cases d
   ·show (0+2*v)/2=v/\(0+2*v)%2=0;omega
   ·show (1+2*v)/2=v/\(1+2*v)%2=1;omega
  have l:(mk XI (e::p) &&& mk y (e::p))/2=mk (λf=>XI f&&y f) p:=by
   rw[Nat.and_div_two,show mk XI (e::p)/2=mk XI p from (r _ _).1,show mk y (e::p)/2=mk y p from (r _ _).1,EW XI y p]
  have t:(mk XI (e::p) &&& mk y (e::p))%2=(XI e&&y e).toNat:=by
   have s:=Nat.and_mod_two_eq_one (a:=mk XI (e::p)) (b:=mk y (e::p));have a:mk XI (e::p)%2=(XI e).toNat:=(r _ _).2;have b:mk y (e::p)%2=(y e).toNat:=(r _ _).2;rw[a,b]at s;have:=JC (mk XI (e::p) &&& mk y (e::p));cases c:XI e<;>cases h:y e<;>rw[c,h]at s
   ·show _=0;exact this.resolve_right λi=>absurd (s.mp i).1 ∅
   ·show _=0;exact this.resolve_right λi=>absurd (s.mp i).1 ∅
   ·show _=0;exact this.resolve_right λi=>absurd (s.mp i).2 ∅
   ·exact s.mpr ⟨rfl,rfl⟩
  have:=Nat.div_add_mod (mk XI (e::p) &&& mk y (e::p)) 2;rw[l,t]at this;rw[<-this];show _=(XI e&&y e).toNat+2*_;omega
theorem BX(XI y:ar->Bool):∀Y:List ar,mk XI Y+mk y Y=mk (λf=>xor (XI f)<|y f) Y+2*mk (λf=>XI f&&y f) Y
 |[]=>rfl
 |e::p=>by
  have a:=BX XI y p;unfold mk;cases b:XI e<;>cases c:y e
  ·show 0+_+(0+_)=0+_+2*(0+_);omega
  ·show 0+_+(1+_)=1+_+2*(0+_);omega
  ·show 1+_+(0+_)=1+_+2*(0+_);omega
  ·show 1+_+(1+_)=0+_+2*(1+_);omega
def VU(XI y:ar->Bool)(Y:List ar):l8 (aB (mk XI Y:Nat)) (aB (mk y Y:Nat))=Z (aB (mk (λf=>xor (XI f)<|y f) Y:Nat)):=by
 show Z (aB<|bc.bitXor _ _)=_;rw[MW];have a:bc.bitAnd ((mk XI Y:Nat):Int) ((mk y Y:Nat):Int)=((mk (λf=>XI f&&y f) Y:Nat):Int):=by
  unfold bc.bitAnd;rw[bG (Ay _),bG<|Ay _];show ((((mk XI Y:Nat):Int).toNat &&& ((mk y Y:Nat):Int).toNat:Nat):Int)=_;rw[j5,j5,EW]
 rw[a];have:=BX XI y Y;congr 3;omega
theorem KH{f:ar}:∀{Y:List ar}{k:Nat},Y.Nodup->Y[k]?=Z f->mk (λe=>decide (e=f)) Y=2^k
 |e::p,0,ae,b=>by
  cases b;unfold mk;rw[bG rfl,oj (y:=λ_=>aA) λA a=>decide_eq_false λi:A=f=>(df.mp ae).1 (by rw[<-i];exact a),tA];rfl
 |e::p,k+1,ae,b=>by
  have b:p[k]?=Z f:=b;have ae:=df.mp ae;unfold mk;rw[decide_eq_false (λi=>ae.1 (by rw[i];exact fi b)),KH ae.2 b];show 0+2*2^k=_;rw[z5];omega
theorem HL{f:ar}:∀{Y:List ar}{k:Nat},Y.Nodup->Y[k]?=Z f->ly (Y.map af) (af f)=Z k
 |e::p,0,ae,b=>by
  cases b;show (if b1 (af f) (af f)=aa then Z 0 else _)=_;rw[aF (by rw[m4];exact bG rfl)]
 |e::p,k+1,ae,b=>by
  have b:p[k]?=Z f:=b;have ae:=df.mp ae;show (if b1 (af e) (af f)=aa then Z 0 else (ly (p.map af)<|af f).map (·+1))=_;rw[if_neg (by rw[m4,ek];exact λi=>ae.1 (by rw[i];exact fi b)),HL ae.2 b];rfl
def Ao{e:bo}{O:aC bo}(ae:Y.Nodup)(l:Y.length<=1000)(c:f∈Y)(a:aj h w=Z (e,w))(d:dC w e=Z (a7 Y)){A:bo}(g:O w=Z (A,w))(i:dC w A=Z (.im<|af f)):
  ac o4 (ab<|av<|.int 1) (ab<|ac j7 (aj h) O) w=Z (aB (mk (λe=>decide (e=f)) Y:Nat),w):=by
 let⟨k,b⟩:=Ej.mp c;have m:k<Y.length:=(e7.mp b).1;have j:j7 (a7 Y) (.im<|af f)=Z (aB (k:Int)):=by
  show (if (X.bl 8 (af f)&&X.ct 8 (Y.map af))=aa/\(Y.map af).length<=100000 then (ly (Y.map af)<|af f).map λ(k:Nat)=>ak.im (.int (k:Int)) else V)=_;rw[aF ⟨by rw[mH,sI];rfl,by rw[a6];omega⟩,HL ae b];rfl
 refine bF rfl (aS<|bF a g d i j) rfl rfl ?_;show (if decide ((0:Int)<=k/\(k:Int)<=1000000/\(1:Int).natAbs<2^64)=aa then Z (aB<|1*2^(k:Int).toNat) else V)=_;rw[aF (bG ⟨by omega,by omega,by decide⟩),KH ae b,j5,Int.one_mul,Int.natCast_pow];rfl
def f_(W:List (Int×Int)):List (cy×X):=(W.map λn=>(.inl n.1,.int n.2))
def eh(W:List (Int×Int))(q:Int):Option Int:=((W.find? λn=>decide (n.1=q)).map (·.2))
def i3(W:List (Int×Int))(q u:Int):List (Int×Int):=(if (W.any λn=>decide (n.1=q))=aa then W.map (λn=>if n.1=q then (n.1,u) else n) else W++[(q,u)])
def BN(h k:Int):decide ((Sum.inl h:cy)=.inl k)=decide (h=k):=fW.mpr ⟨λb=>Sum.inl.inj b,λb=>b ▸ rfl⟩
theorem v8(q:Int):∀W:List (Int×Int),cF (f_ W) (.inl q)=(eh W q).map X.int
 |[]=>rfl
 |n::p=>by
  have a:=v8 q p;unfold cF eh f_ at *;rw[bz,fT,fT,BN];cases decide (n.1=q)
  ·exact a
  ·rfl
def Rp(W:List (Int×Int))(q u:Int):ei (f_ W) (.inl q) (.int u)=f_ (i3 W q u):=by
 have a:((f_ W).any λn=>decide (n.1=.inl q))=W.any λn=>decide (n.1=q):=by
  unfold f_;rw[q6];exact congrArg (λF=>W.any F) (funext λn=>BN n.1 q)
 unfold ei i3;rw[a];split
 ·unfold f_;rw[fM,fM];refine hx λn Y=>?_;show (if (Sum.inl n.1:cy)=.inl q then ((Sum.inl n.1:cy),X.int u) else (.inl n.1,.int n.2))=(.inl (if n.1=q then (n.1,u) else n).1,.int (if n.1=q then (n.1,u) else n).2);by_cases b:n.1=q
  ·rw[aF b,aF<|congrArg _ b]
  ·rw[if_neg b,if_neg λi=>b<|Sum.inl.inj i]
 ·unfold f_;rw[fq];rfl
def Pr(b:n∈i3 W q u):n∈W\/n=(q,u):=by
 unfold i3 at b;split at b
 ·let⟨s,c,a⟩:=cX.mp b;split at a
  ·rename_i d;exact .inr (by rw[<-a,d])
  ·exact .inl (a ▸ c)
 ·exact (dM.mp b).imp_right cf.mp
def NM(W:List (Int×Int))(q u:Int):(i3 W q u).length<=W.length+1:=by
 unfold i3;split
 ·rw[a6];omega
 ·rw[cC,e6];omega
def wx(b:eh W q=Z u):(q,u)∈W:=by
 unfold eh at b;let⟨n,l,t⟩:=b5.mp b;have:=Hp l;rw[ek]at this;rw[<-this,<-t];exact J_ l
def Nc{k:Int}(b:k≠q):∀W:List (Int×Int),eh (i3 W q u) k=eh W k:=λW=>by
 unfold i3;split
 ·rename_i d;clear d;induction W with
  |nil=>rfl
  |cons n p c=>
   unfold eh at *;rw[bz,fT,fT];by_cases a:n.1=q
   ·rw[aF a,show decide ((n.1,u).1=k)=aA from decide_eq_false λi=>b<|i.symm.trans a];exact c
   ·rw[if_neg a];cases decide (n.1=k)
    ·exact c
    ·rfl
 ·unfold eh;rw[Hu];have:([(q,u)]:List (Int×Int)).find? (λn=>decide (n.1=k))=V:=E6.mpr λe f=>by rw[cf.mp f,ek];exact dn b
  rw[this,Option.or_none]
def CQ:∀W:List (Int×Int),eh (i3 W q u) q=Z u:=λW=>by
 unfold i3;split
 ·rename_i a;induction W with
  |nil=>cases a
  |cons n p c=>
   unfold eh at *;rw[bz,fT];by_cases b:n.1=q
   ·rw[aF b,show decide ((n.1,u).1=q)=aa from bG b];rfl
   ·rw[if_neg b,show decide (n.1=q)=aA from decide_eq_false b];refine c ?_;rw[i8,decide_eq_false b,tm]at a;exact a
 ·rename_i a;unfold eh;rw[Hu];have:W.find? (λn=>decide (n.1=q))=V:=E6.mpr λe d i=>a (mQ.mpr ⟨e,d,i⟩);rw[this,Option.none_or,fT,show decide ((q,u).1=q)=aa from bG rfl];rfl
def gH(Y:List ar)(XC:List a0):Int:=((mk (λf=>decide (cM XC f%2=1)) Y:Nat))
def k5(Y:List ar)(a:a0):Int:=((mk (λf=>decide (f=a.1) || decide (f=a.2)) Y:Nat))
def xw(Y:List ar)(XC:List a0){a:a0}(b:a.1≠a.2):l8 (aB<|gH Y XC) (aB<|k5 Y a)=Z (aB<|gH Y<|XC++[a]):=by
 refine (VU _ _ Y).trans ?_;congr 3;refine oj λf W=>?_;rw[xA];have d:cM [a] f=(if a.1=f then 1 else 0)+if a.2=f then 1 else 0:=rfl
 rw[d];have c:∀v:Nat,decide ((v+1)%2=1)=!decide (v%2=1):=λv=>by
  rcases JC v with s|s
  ·rw[bG (show (v+1)%2=1 by omega),decide_eq_false (show ¬ v%2=1 by omega)];rfl
  ·rw[decide_eq_false (show ¬ (v+1)%2=1 by omega),bG s];rfl
 by_cases l:f=a.1
 ·have t:¬ f=a.2:=λi=>b (l.symm.trans i);rw[aF l.symm,if_neg<|dn t,bG l];show _=decide ((cM XC f+1)%2=1);rw[c];cases decide (cM XC f%2=1)<;>rfl
 ·by_cases t:f=a.2
  ·rw[if_neg (dn l),aF t.symm,decide_eq_false l,bG t];show _=decide ((cM XC f+1)%2=1);rw[c];cases decide (cM XC f%2=1)<;>rfl
  ·rw[if_neg (dn l),if_neg<|dn t,decide_eq_false l,decide_eq_false t];show _=decide (cM XC f%2=1);cases decide (cM XC f%2=1)<;>rfl
structure pS(Y:List ar)(YJ:List a0)(W:List (Int×Int)):Prop where
 snd:∀n∈W,∃XC:List a0,XC.Sublist YJ/\n.1=gH Y XC/\n.2=(XC.length:Int)
 xu:∀XC:List a0,XC.Sublist YJ->∃u,eh W (gH Y XC)=Z u/\u<=(XC.length:Int)
structure kQ(Y:List ar)(YJ:List a0)(a:a0)(Y7 W:List (Int×Int)):Prop where
 snd:∀n∈W,∃XC:List a0,XC.Sublist (YJ++[a])/\n.1=gH Y XC/\n.2=(XC.length:Int)
 old:∀XC:List a0,XC.Sublist YJ->∃u,eh W (gH Y XC)=Z u/\u<=(XC.length:Int)
 new:∀n∈Y7,∀XC:List a0,XC.Sublist YJ->n.1=gH Y XC->∃u,eh W (gH Y<|XC++[a])=Z u/\u<=n.2+1
def kQ.init(XI:pS Y YJ W):kQ Y YJ a [] W:=
 ⟨λn c=>(XI.snd n c).imp λXC b=>⟨b.1.trans<|List.sublist_append_left _ _,b.2⟩,XI.xu,λn c=>by cases c⟩
def kQ.done(XI:pS Y YJ Y7)(y:kQ Y YJ a Y7 W):pS Y (YJ++[a]) W:=by
 refine⟨y.snd,λXC c=>?_⟩;let⟨b,f,rfl,l,t⟩:=List.sublist_append_iff.mp c;cases t with
 |cons _ t=>
  rw[vM.mp t,bO];exact y.old b l
 |cons_cons _ t=>
  rw[vM.mp t];let⟨u,d,g⟩:=XI.xu b l;let⟨I,e,h⟩:=y.new _ (wx d) b l rfl;exact⟨I,e,by rw[cC,e6];omega⟩
def iN(q:Int)(o:Option Int):Int:=(if o.getD 99<q+1 then o.getD 99 else q+1)
def kQ.step{h:List a0}(y:kQ Y YJ a Y7 W)(k:a.1≠a.2)(m:h.Sublist YJ)(l:n.1=gH Y h)(t:n.2=(h.length:Int))(z:YJ.length<=90):kQ Y YJ a (Y7++[n]) (i3 W (gH Y<|h++[a])<|iN n.2<|eh W<|gH Y<|h++[a]):=by
 generalize o:gH Y (h++[a])=A;have aR:=m.length_le;have le:iN n.2 (eh W A)<=n.2+1:=by unfold iN;split<;>omega
 have x:∀u,eh W A=Z u->iN n.2 (eh W A)<=u:=λu c=>by
  rw[c];unfold iN;show (if u<n.2+1 then u else n.2+1)<=u;split<;>omega
 have keep:∀q u (v:Int),eh W q=Z u->u<=v->∃p,eh (i3 W A<|iN n.2<|eh W A) q=Z p/\p<=v:=λq u v c i=>by
  by_cases r:q=A
  ·subst r;exact⟨_,CQ W,Int.le_trans (x u c) i⟩
  ·exact⟨u,(Nc r W).trans c,i⟩
 refine⟨λs e=>?_,λXC j=>?_,λs e XC j w=>?_⟩
 ·rcases Pr e with e|rfl
  ·exact y.snd s e
  ·have this:iN n.2 (eh W A)=n.2+1\/∃u,eh W A=Z u/\iN n.2 (eh W A)=u:=by
    cases B:eh W A with
    |none=>
     refine .inl ?_;unfold iN;rw[if_neg];show ¬ ((99:Int)<n.2+1);omega
    |some u=>
     unfold iN;split
     ·exact .inr ⟨u,rfl,rfl⟩
     ·exact .inl rfl
   rcases this with b|⟨u,c,b⟩
   ·exact⟨h++[a],m.append_right _,o.symm,by rw[b,t,cC,e6];rfl⟩
   ·let⟨XC,g,d,f⟩:=y.snd _ (wx c);exact⟨XC,g,d,b.trans f⟩
 ·let⟨u,c,i⟩:=y.old XC j;exact keep _ u _ c i
 ·rcases dM.mp e with e|e
  ·let⟨u,c,i⟩:=y.new s e XC j w;exact keep _ u _ c i
  ·cases cf.mp e;have:gH Y (XC++[a])=A:=by
    have g:=xw Y XC k;rw[<-w,l,xw Y h k,o]at g;cases g;rfl
   rw[this];exact⟨_,CQ W,le⟩
theorem Ho(XY:List Int):∀k:Nat,preSum (λh=>(XY[h]?).getD 0) k=(XY.take k).sum
 |0=>rfl
 |k+1=>by
  rw[preSum,Ho XY k,List.take_add_one,GO];cases XY[k]? with
  |none=>rfl
  |some u=>show _+u=_+(u+0);omega
def MV(XY:List Int):uF XY=XY.sum:=by
 unfold uF;rw[Ho,t4]
theorem HP{Y:List ar}:∀{T:List ar},T.Nodup->(T.map λf=>((mk (λe=>decide (e=f)) Y:Nat):Int)).sum=(mk (λe=>decide (e∈T)) Y:Nat)
 |[],_=>by
  rw[oj (y:=λ_=>aA) λf W=>decide_eq_false hP,tA];rfl
 |f::p,ae=>by
  have ae:=df.mp ae;rw[bz,hg,HP ae.2];have b:=w2 (XI:=λe=>decide (e=f)) (y:=λe=>decide (e∈p)) (Y:=Y) λe W i=>by
   rw[ek,ek]at i;exact ae.1 (i.1 ▸ i.2)
  rw[oj (XI:=λe=>decide (e∈f::p)) (y:=λe=>decide (e=f) || decide (e∈p)) λe W=>?_,<-b]
  ·omega
  ·rw[<-F0];exact fW.mpr b0
abbrev k4(Y T:List ar)(g d:ar)(O:Int)(W:List (Int×Int))(Yj z B a b:Option ak):aQ:=[Z (a7 Y),Z<|.im<|af g,Z<|.im<|af d,Z<|a_ T,Z<|aB O,Z<|.cb<|f_ W,Yj,z,B,a,b]
def wz(n:Int×Int):X:=(.tup [.int n.1,.int n.2])
theorem Jd{Y T:List ar}{g d:ar}{O:Int}{Yj z:Option ak}{YJ:List a0}{a:a0}(i:a.1≠a.2)(o:YJ.length<=90):∀(c Y7 W:List (Int×Int)) (f h:Option ak),(∀n∈c,∃XC:List a0,XC.Sublist YJ/\n.1=gH Y XC/\n.2=(XC.length:Int))->kQ Y YJ a Y7 W->W.length+c.length<100000->
  ∃e j k,dK (jt 2<|fY (bH 9)<|fY (bH 10) jH) Er (c.map wz) (k4 Y T g d O W Yj z (Z<|aB<|k5 Y a) f h)=Z (.bA,k4 Y T g d O e Yj z (Z<|aB<|k5 Y a) j k)/\kQ Y YJ a (Y7++c) e/\e.length<=W.length+c.length
 |[],Y7,W,f,h,_,y,_=>⟨W,f,h,rfl,by rw[bO];exact y,bk _⟩
 |n::c,Y7,W,f,h,b,y,v=>by
  rw[b6]at v;let⟨p,x,l,t⟩:=b n (.head _);have q:=y.step i x l t o;have m:=xw Y p i;rw[<-l]at m;generalize gH Y (p++[a])=A at q m;have bl:=NM W A (iN n.2<|eh W A);let⟨e,j,k,B,r,E⟩:=Jd (T:=T) (g:=g) (d:=d) (O:=O) (Yj:=Yj) (z:=z) i o c (Y7++[n]) _ (Z<|aB n.1) (Z<|aB n.2) (λs C=>b s<|.tail _ C) q (by omega);rw[bI]at r;refine⟨e,j,k,?_,r,by rw[b6];omega⟩;let w:aQ:=k4 Y T g d O W Yj z (Z<|aB<|k5 Y a) (Z<|aB n.1) (Z<|aB n.2)
  have u:ac l8 (aj 9) (aj 8) w=Z (aB A,w):=c3 m;have D:so 5 (ac l8 (aj 9)<|aj 8) (av<|.int 99) w=Z (aB<|(eh W A).getD 99,w):=by
   unfold so;show (if nL (.cb<|f_ W)=aa then (ac l8 (aj 9) (aj 8) w).bind _ else V)=_;rw[aF (show nL (.cb<|f_ W)=aa from rfl),u];show Z (ak.im<|(cF (f_ W)<|.inl A).getD<|.int 99,w)=_;rw[v8];cases eh W A<;>rfl
  have J:hG (.cb<|f_ W) (aB A) (aB<|iN n.2<|eh W A)=Z (.cb<|f_<|i3 W A<|iN n.2<|eh W A):=by
   show (if (f_ W).length<100000 then Z (ak.cb<|ei (f_ W) (.inl A)<|.int _) else V)=_;rw[aF (by unfold f_;rw[a6];omega),Rp]
  rw[bz];exact gi (XD:=w) rfl (mC (dz (bS (aS<|bF rfl rfl rfl rfl rfl)<|bS (aS D) rfl) rfl rfl)<|qA rfl u rfl rfl J rfl) B
def QG(W:List (Int×Int)):((f_ W).map λn=>X.tup [qn n.1,n.2])=W.map wz:=by
 unfold f_;rw[fM];rfl
theorem GZ{Y T:List ar}{g d:ar}{O:Int}(ae:Y.Nodup)(k:Y.length<=1000):∀(h YJ:List a0) (W:List (Int×Int)) (Yj z B c f:Option ak),(∀a∈h,a∈cD Y)->YJ.length+h.length<=10->pS Y YJ W->W.length<=2^YJ.length->
  ∃j l m n p q,dK (jt 2<|fY (bH 6)<|fY (bH 7) jH) F5 (h.map bT) (k4 Y T g d O W Yj z B c f)=Z (.bA,k4 Y T g d O j l m n p q)/\pS Y (YJ++h) j
 |[],YJ,W,Yj,z,B,c,f,_,_,XI,_=>⟨W,Yj,z,B,c,f,rfl,by rw[bO];exact XI⟩
 |a::h,YJ,W,Yj,z,B,c,f,b,bV,XI,L=>by
  rw[b6]at bV;let⟨x,A,C,U⟩:=eJ.mp (b a<|.head _);have r:a.1≠a.2:=λi=>lp C i.symm;have t:2^YJ.length<=2^9:=I4 ∅ (by omega);have t:2^YJ.length<=512:=t;let⟨D,E,F,G,u,M⟩:=Jd (T:=T) (g:=g) (d:=d) (O:=O) (Yj:=Z (.im<|af a.1)) (z:=Z (.im<|af a.2)) r (by omega) W [] W c f XI.snd (kQ.init XI) (by omega);rw[jU]at u;let⟨j,l,m,n,p,q,H,v⟩:=GZ ae k h (YJ++[a]) D (Z<|.im<|af a.1) (Z<|.im<|af a.2) (Z<|aB<|k5 Y a) E F (λe I=>b e<|.tail _ I) (by rw[cC,e6];omega) (u.done XI) (by rw[cC,e6,z5];omega);rw[bI]at v;refine⟨j,l,m,n,p,q,?_,v⟩;let w:aQ:=k4 Y T g d O W (Z<|.im<|af a.1) (Z<|.im<|af a.2) B c f
  let XD:aQ:=k4 Y T g d O W (Z<|.im<|af a.1) (Z<|.im<|af a.2) (Z<|aB<|k5 Y a) c f
  have ad:cj (aB (mk (λe=>decide (e=a.1)) Y:Nat)) (aB (mk (λe=>decide (e=a.2)) Y:Nat))=Z (aB<|k5 Y a):=by
   have s:=w2 (XI:=λe=>decide (e=a.1)) (y:=λe=>decide (e=a.2)) (Y:=Y) λe U i=>by
    rw[ek,ek]at i;exact r (i.1.symm.trans i.2)
   show Z (aB<|_+_)=_;unfold k5;rw[<-s,H0]
  have J:ac cj (ab<|ac o4 (ab<|av<|.int 1)<|ab<|ac j7 (aj 0)<|aj 6) (ab<|ac o4 (ab<|av<|.int 1)<|ab<|ac j7 (aj 0)<|aj 7) w=Z (aB<|k5 Y a,w):=
   bF (aS<|Ao ae k x rfl rfl rfl rfl) (aS<|Ao ae k A rfl rfl rfl rfl) rfl rfl ad;have aP:wF (aj 5) XD=Z (.lst<|W.map wz,XD):=congrArg (λe=>Z (ak.lst e,XD)) (QG W);rw[bz];exact gi (XD:=w) rfl (bp (XD:=XD) (ff J (cV rfl) rfl)<|gk (o:=V) (p_ aP rfl) G rfl) H
structure qB(Y T:List ar)(XQ:List a0):Prop where
 ae:XQ.Nodup
 sub:∀a∈XQ,a∈cD Y
 odd:∀e,cM XQ e%2=1↔e∈T
 min:∀XC:List a0,(∀a∈XC,a∈cD Y)->(∀e,cM XC e%2=1↔e∈T)->XQ.length<=XC.length
def NA{XC:List a0}(b:∀a∈XC,a∈cD Y){e:ar}(c:e∉Y):cM XC e=0:=
 PB λa d=>by
  let⟨l,t,W⟩:=eJ.mp (b a d);exact⟨λi=>c<|i ▸ l,λi=>c<|i ▸ t⟩
def Pb(p:iZ Y)(am:Y.length<=11)(an:(cD Y).length<=10){g d:ar}{XQ:List a0}(YB:qB Y (ej Y g d) XQ):A1 [a7 Y,.im<|af g,.im<|af d]=Z (aB (XQ.length:Int),[a7 Y,.im<|af g,.im<|af d]):=by
 have ae:=p.ae;have A:=Dh p (by omega) g d;have q:=yr ae g d;have c:∀f∈ej Y g d,f∈Y:=λf h=>yT h;generalize ej Y g d=T at *;have r:=xZ ae (by omega);let⟨k,X5,B⟩:=v3 (cD Y);rw[B]at r;have kC:∀XC:List a0,(∀e,cM XC e%2=1↔e∈T)->gH Y XC=(mk (λe=>decide (e∈T)) Y:Nat):=λXC b=>by
  unfold gH;rw[oj λf K=>fW.mpr<|b f]
 have C:pS Y [] [(0,0)]:=by
  have t:gH Y []=0:=by
   unfold gH;rw[oj (XI:=λf=>decide (cM [] f%2=1)) (y:=λ_=>aA) λf K=>rfl,tA];rfl
  refine⟨λn D=>⟨[],List.Sublist.refl _,?_⟩,λXC E=>⟨0,?_,?_⟩⟩
  ·rw[cf.mp D,t];exact⟨rfl,rfl⟩
  ·rw[vM.mp E,t];rfl
  ·omega
 let⟨W,F,H,I,J,L,M,XI⟩:=GZ (T:=T) (g:=g) (d:=d) (O:=(mk (λe=>decide (e∈T)) Y:Nat)) ae (by omega) k [] [(0,0)] V V V V V (λa j=>X5.mem_iff.mp j) (by rw[X5.length_eq,gs];omega) C (bk _);rw[jU]at XI;have N:eh W (mk (λe=>decide (e∈T)) Y:Nat)=Z (XQ.length:Int):=by
  have s:(k.filter λa=>decide (a∈XQ)).Perm XQ:=(sf ((X5.nodup_iff.mpr<|ja ae).filter _) YB.ae).mpr λa=>by
   rw[gD,ek];exact⟨λb=>b.2,λb=>⟨X5.mem_iff.mpr<|YB.sub a b,b⟩⟩
  let⟨u,l,P⟩:=XI.xu _ (IX (p:=λa=>decide (a∈XQ)));rw[kC _ λe=>by rw[GD s];exact YB.odd e]at l;rw[s.length_eq]at P;let⟨XC,Q,R,v⟩:=XI.snd _ (wx l);have z:∀a∈XC,a∈cD Y:=λa j=>X5.mem_iff.mp (Q.subset j);have:=YB.min XC z λe=>by
   by_cases m:e∈Y
   ·have:=Em (Int.ofNat.inj R) e m;exact (fW.mp this).symm
   ·rw[NA z m];exact⟨λi=>absurd i ∅,λi=>absurd (c e i) m⟩
  rw[l];congr 1;have v:u=(XC.length:Int):=v;omega
 let Yz:aQ:=[Z (a7 Y),Z<|.im<|af g,Z<|.im<|af d,Z<|a_ T,V,V,V,V,V,V,V]
 let S:aQ:=[Z (a7 Y),Z<|.im<|af g,Z<|.im<|af d,Z<|a_ T,Z<|aB (mk (λe=>decide (e∈T)) Y:Nat),V,V,V,V,V,V]
 let U:aQ:=k4 Y T g d (mk (λe=>decide (e∈T)) Y:Nat) [(0,0)] V V V V V
 have c1:d2 1 [0] (cL<|aj 3) (bH 0) gW G.KG Yz=Z (.lst<|T.map λf=>.int (mk (λe=>decide (e=f)) Y:Nat),Yz):=
  jM (x:=T.map af) (o:=Z (3,a_ T)) (XD:=Yz.set 3 (Z .c8)) rfl (ye af (λf=>.int (mk (λe=>decide (e=f)) Y:Nat)) _ (λf h=>⟨[Z (.im<|af f),Z<|a7 Y],_,[Z (.im<|af f),Z<|a7 Y],rfl,rfl,Ao ae (by omega) (c f h) rfl rfl rfl rfl,rfl⟩) (dg (o8 q c) (by omega))) rfl;have al:tR [.lst (T.map λf=>.int (mk (λe=>decide (e=f)) Y:Nat))]=Z (aB (mk (λe=>decide (e∈T)) Y:Nat)):=by
  have a:(T.map λf=>X.int (mk (λe=>decide (e=f)) Y:Nat))=(T.map λf=>((mk (λe=>decide (e=f)) Y:Nat):Int)).map .int:=by rw[fM];rfl
  rw[a];show (lJ _).map _=_;rw[Pf];show Z (aB<|uF _)=_;rw[MV,HP q]
 have vN:bh (.cb<|f_ W) (aB (mk (λe=>decide (e∈T)) Y:Nat))=Z (aB (XQ.length:Int)):=by
  show (cF (f_ W)<|.inl _).map _=_;rw[v8,N];rfl
 exact ew (w:=k4 Y T g d (mk (λe=>decide (e∈T)) Y:Nat) W F H I J L) rfl (bp (XD:=Yz) (ff (dd (XU:=[.aR 0,.aR 1,.aR 2]) rfl rfl rfl A rfl) (cV rfl) rfl)
  (bp (XD:=S) (ff (dz (bS (aS c1) rfl) rfl al) (cV rfl) rfl)
  (bp (XD:=U) (ff rfl (cV rfl) rfl)
  (bp (gk (o:=V) (p_ (dd (XU:=[.aR 0]) rfl rfl rfl r rfl) rfl) M rfl)<|fz<|c3 vN)))) rfl
def x_(XC:gP Y){g d:ar}(h:g∈Y)(i:d∈Y):∃XQ:List a0,oO [a7 Y,.im<|af g,.im<|af d]=Z (fX XQ,[a7 Y,.im<|af g,.im<|af d])/\qB Y (ej Y g d) XQ/\c9 XQ=lR XQ:=by
 have o:=XC.dY;have p:=XC.ln;have b:=yr XC.ae g d;have q:=o8 b λf j=>yT j;let⟨XQ,r,a,L,W,k,hd⟩:=UY XC.ae XC.con (by omega) h i (by omega);refine⟨XQ,a,⟨L.ae,L.sub,L.odd,λXz c m=>?_⟩,k⟩;have l:=Tj.x9 (P:=cD Y) (n:=Prod.fst) (s:=Prod.snd) r (ja XC.ae) hd _ (ej Y g d) (hE Xz) (bk _) b λe=>by
  rw[yj XC.ae e c];exact fW.mpr (m e)
 rw[L.len];exact dg l (yU XC.ae c).1
def Lw(Y:List ar)(g d:ar):ej Y d g=ej Y g d:=
 yh λf W=>by
  rw[gu,gu,gu,gu];refine fW.mpr ?_;omega
def qB.len{T:List ar}{XQ aC:List a0}(YB:qB Y T XQ)(U:qB Y T aC):XQ.length=aC.length:=
 HA (YB.min aC U.sub U.odd) (U.min XQ YB.sub YB.odd)
def Ft(g d:a0):b1 (bT g) (bT d)=decide (g=d):=by
 show (b1 (af g.1) (af d.1)&&(b1 (af g.2) (af d.2)&&aa))=_;rw[m4,m4,sV,<-Bool.decide_and];exact fW.mpr ⟨λb=>lz b.1 b.2,λb=>by rw[b];exact⟨rfl,rfl⟩⟩
theorem Cj:∀XQ:List a0,fs (XQ.map bT) (XQ.map bT)=aa
 |[]=>rfl
 |a::p=>by
  rw[bz,fs,Cj p,Ft,bG rfl];rfl
def S5(XQ:List a0):gd (c9 XQ) (c9 XQ)=Z (.im<|.aH aA):=by
 show (if (X.ct 8 (XQ.map bT)&&X.ct 8 (XQ.map bT))=aa then Z (ak.im<|.aH<|!fs (XQ.map bT) (XQ.map bT)) else V)=_;rw[rM 5,aF<|show (aa&&aa)=aa from rfl,Cj];rfl
theorem Et(a:a0):∀YJ:List a0,((YJ.map bT).any λe=>b1 e<|bT a)=decide (a∈YJ)
 |[]=>rfl
 |g::p=>by
  rw[bz,i8,Et a p,Ft,<-F0];exact fW.mpr ⟨λb=>b.elim (λi=>i ▸ .head _)<|.tail _,λb=>(b0.mp b).imp (·.symm) id⟩
def LI(a:a0)(YJ:List a0):hb (.im<|bT a) (c9 YJ)=Z (.im<|.aH<|!decide (a∈YJ)):=by
 show (if (X.bl 8 (bT a)&&X.ct 8 (YJ.map bT))=aa then Z ((YJ.map bT).any λe=>b1 e<|bT a) else V).map (λp=>ak.im<|.aH<|!p)=_;rw[rM 5,aF<|show (X.bl 8 (bT a)&&aa)=aa from rfl,Et];rfl
theorem Cx:∀(J a:List (List X)),(a++J).Nodup->J.foldl iC a=a++J
 |[],a,_=>by rw[bO];rfl
 |q::J,a,ae=>by
  have b:q∉a:=λi=>(cH.mp ae).2.2 q i q (.head _) rfl;rw[km,show iC a q=a++[q] from if_neg b,Cx J (a++[q]) (by rw[bI];exact ae),bI];rfl
def su(a:a0):List X:=([af a.1,af a.2])
def OE{XQ:List a0}{O:aC (List bo)}{XU:List bo}(ae:XQ.Nodup)(e:XQ.length<=63)(f:O w=Z (XU,XD))(h:hq XD XU=Z [fX XQ]):qN O w=Z (lR XQ,XD):=by
 have b:(XQ.map su).map X.tup=XQ.map bT:=by rw[fM];rfl
 have c:hF (XQ.map su)=XQ.map su:=by
  unfold hF;rw[Cx _ [] ?_,jU];rw[jU];exact qL su (λg d v a=>v<|vc<|congrArg X.tup a) ae
 unfold qN;rw[f];show (hq XD XU).bind _=_;rw[h];show (pz<|XQ.map bT).bind _=_;rw[<-b,JA];have l:t_ (XQ.map su)=aa:=by
  rw[Fn,c,a6];refine⟨λq i=>?_,by omega⟩;let⟨a,Y,rfl⟩:=cX.mp i;rfl
 have o:=uY e;refine (aF ⟨l,?_⟩).trans ?_
 rotate_left
 ·rw[c,b];exact nV.mpr ⟨⟨o.ord.dY,o.ord.ij,qL bT (λg d v a=>v<|vc a) ae⟩,o.fst⟩
 ·rw[c,b];rfl
theorem VJ(f:ar)(a:a0):gr (.im<|af f) (.im<|bT a)=Z (.im<|.aH<|decide (f=a.1\/f=a.2)):=(MZ [a.1,a.2] f).trans (by
 congr 3;exact fW.mpr ⟨λi=>(b0.mp i).elim .inl λi=>.inr<|cf.mp i,λi=>i.elim (λi=>i ▸ .head _) λi=>i ▸ .tail _ (.head _)⟩)
theorem Bl{Y:List ar}(f:ar):∀{T:List a0},(∀a∈T,a∈cD Y)->(T.filter λa=>decide (f=a.1\/f=a.2)).length=cM T f
 |[],_=>rfl
 |a::T,b=>by
  have c:=Bl (Y:=Y) f λr hd=>b r (kW a hd);have v:=wJ (b a<|.head _);have Ym:cM (a::T) f=((if a.1=f then 1 else 0)+if a.2=f then 1 else 0)+cM T f:=by unfold cM;rw[bz,hg]
  rw[Ym,<-c];by_cases l:a.1=f
  ·have t:¬ a.2=f:=λi=>v (l.trans i.symm);rw[nM (by rw[bG (.inl l.symm)]),b6,aF l,if_neg t];omega
  ·by_cases t:a.2=f
   ·rw[nM (by rw[bG (.inr t.symm)]),b6,if_neg l,aF t];omega
   ·rw[mV (by rw[decide_eq_false λi=>i.elim (λi=>l i.symm) λi=>t i.symm];exact cB),if_neg l,if_neg t];omega
abbrev qa(Y T:List ar)(g d:ar)(XQ:List a0)(C:Option ak):aQ:=[Z (a7 Y),Z<|.im<|af g,Z<|.im<|af d,Z<|fX XQ,Z<|a_ T,C]
theorem IP{Y T:List ar}{g d:ar}{XQ:List a0}(sub:∀a∈XQ,a∈cD Y)(odd:∀e,cM XQ e%2=1↔e∈T)(j:XQ.length<=1000):∀(c:List ar) (C:Option ak),∃h,dK (bH 5) G0 (c.map af) (qa Y T g d XQ C)=Z (.bA,qa Y T g d XQ h)
 |[],C=>⟨C,rfl⟩
 |f::c,C=>by
  let⟨h,k⟩:=IP (g:=g) (d:=d) sub odd j c (Z<|.im<|af f);refine⟨h,?_⟩;let w:aQ:=qa Y T g d XQ (Z<|.im<|af f)
  have c1:d2 1 [5] (cL<|aj 3) (bH 0) G.wM G.AB w=Z (.lst<|(XQ.filter λa=>decide (f=a.1\/f=a.2)).map bT,w):=
   jM (x:=XQ.map bT) (o:=V) (XD:=w) rfl (ku bT (λa=>decide (f=a.1\/f=a.2)) bT _ [] (λa W=>⟨[Z (.im<|bT a),Z<|.im<|af f],[Z (.im<|bT a),Z<|.im<|af f],rfl,dq<|c3<|VJ f a,λ_=>rfl,λ_=>⟨[Z (.im<|bT a),Z<|.im<|af f],rfl,rfl⟩⟩) (by rw[gs];omega)) rfl;have l:dI [.lst ((XQ.filter λa=>decide (f=a.1\/f=a.2)).map bT)]=Z (aB (cM XQ f:Nat)):=by
   show Z (ak.im<|.int (((XQ.filter λa=>decide (f=a.1\/f=a.2)).map bT).length:Int))=_;rw[a6,Bl f sub]
  have q:bb (ac gd (ab<|ac d_ (ab<|bQ dI<|ao (ab<|d2 1 [5] (cL<|aj 3) (bH 0) G.wM G.AB) az)<|ab<|av<|.int 2)<|ab<|bQ vInt<|ao (ab<|ac gr (aj 5)<|aj 4) az) w=Z (aA,w):=by
   have m:gr (.im<|af f) (a_ T)=Z (.im<|.aH<|decide (f∈T)):=by
    show (f5 (af f)<|a_ T).map (λp=>ak.im<|.aH p)=_;rw[yR T f];rfl
   refine (dq (bF (aS (bF (aS<|dz (bS (aS c1) rfl) rfl l) rfl rfl rfl (il ∅))) (aS<|dz (bS (aS<|c3 m) rfl) rfl rfl) rfl rfl<|EY _ _)).trans ?_;congr 2;have o:=odd f;by_cases b:f∈T
   ·have:=o.mpr b;rw[aF (bG b),bG (by omega)];rfl
   ·have:¬ cM XQ f%2=1:=λi=>b (o.mp i);rw[if_neg (by rw[decide_eq_false b];exact cB),bG (by omega)];rfl
  rw[bz];exact gi (XD:=w) rfl (et q rfl) k
def UH(a:iZ Y)(b:Y.length<=63){g d:ar}{XQ:List a0}(YB:qB Y (ej Y g d) XQ)(t:XQ.length<=1000):zl [a7 Y,.im<|af g,.im<|af d,fX XQ]=Z (.im<|.aH aa,[a7 Y,.im<|af g,.im<|af d,fX XQ]):=by
 let⟨c,e⟩:=IP (g:=g) (d:=d) YB.sub YB.odd t Y V;exact ew (w:=qa Y (ej Y g d) g d XQ c) rfl (bp (XD:=qa Y (ej Y g d) g d XQ V) (ff (dd (XU:=[.aR 0,.aR 1,.aR 2]) rfl rfl rfl (Dh a b g d) rfl) (cV rfl) rfl)<|bp (gk (o:=V) (XD:=qa Y (ej Y g d) g d XQ V) rfl e rfl)<|fz rfl) rfl
section
variable{T Yq C Yj z B:Option ak}{Y:List ar}{k:List a0}
abbrev kE(T:Option ak)(b:ak)(Yq:Option ak)(Y:List ar)(k:List a0)(C Yj z B:Option ak):aQ:=[T,Z b,Yq,Z<|a7 Y,Z<|c9 k,C,Yj,z,B]
def Ma(XC:gP Y)(n:iZ Y)(X5:k.Perm (cD Y))(j:dG (v+2) b):∃ah u w y,xk (kE T b Yq Y k C Yj z B)=Z (.bA,kE T ah Yq Y k C u w y)/\dG v ah:=by
 have S:=XC.dY;have D:=XC.ln;have ne:Y.map af≠[]:=λi=>XC.ne (q8.mp i);have p:(Y.map af).length<1000000:=by rw[a6];omega
 let⟨e,l,E,F,XE⟩:=qO (v:=v+1) (c:=a7 Y) (.inr rfl) ne p j;let⟨g,q,rfl⟩:=cX.mp E;let⟨A,t,H,I,XS⟩:=qO (v:=v) (c:=a7 Y) (.inr rfl) ne p XE;let⟨d,r,rfl⟩:=cX.mp H;let⟨XQ,J,YB,L⟩:=x_ XC q r;let⟨aC,iP,U,W⟩:=x_ XC r q;rw[Lw]at U;have al:=o8 YB.ae YB.sub;have gn:=UH n (by omega) YB (by omega);have le:=Pb n (by omega) D YB;have M:=U.len YB;have m:∀XQ:List a0,dI [fX XQ]=Z (aB (XQ.length:Int)):=λXQ=>by
  show Z (ak.im<|.int ((XQ.map bT).length:Int))=_;rw[a6]
 let⟨am,an,ap,rfl,as⟩:=id j;let⟨N,c2,O,rfl,a1⟩:=id XE;let⟨YH,c6,f,rfl,a2⟩:=id XS;let X_:aQ:=kE T (cx YH c6 f) Yq Y k C (Z<|.im<|af g) (Z<|.im<|af d) B
 let Yz:aQ:=kE T (cx YH c6 f) Yq Y k C (Z<|.im<|af g) (Z<|.im<|af d) (Z<|fX XQ)
 have P:qN (ao (aj 8) az) Yz=Z (c9 XQ,Yz):=(OE (XU:=[.aR 8]) YB.ae (by omega) rfl rfl).trans (by rw[<-L]);have Q:(XQ.filter λa=>!decide (a∈k))=[]:=Fs.mpr λa R=>by
  rw[bG (X5.mem_iff.mpr<|YB.sub a R)];exact cB
 have c1:d2 1 [4] (cL<|aj 8) (bH 0) G.KU G.Ey Yz=Z (.lst<|(XQ.filter λa=>!decide (a∈k)).map bT,Yz):=
  jM (x:=XQ.map bT) (o:=V) (XD:=Yz) rfl (ku bT (λa=>!decide (a∈k)) bT _ [] (λa W=>⟨[Z (.im<|bT a),Z<|c9 k],[Z (.im<|bT a),Z<|c9 k],rfl,dq<|c3<|LI a k,λ_=>rfl,λ_=>⟨[Z (.im<|bT a),Z<|c9 k],rfl,rfl⟩⟩) (by rw[gs];omega)) rfl;rw[Q]at c1;have s:∀h:Int,gd (aB h) (aB h)=Z (.im<|.aH aA):=λh=>(EY h h).trans (by rw[bG rfl];rfl);refine⟨cx YH c6 f,Z<|.im<|af g,Z<|.im<|af d,Z<|fX XQ,?_,XS⟩;exact bp (XD:=X_) (yF (XU:=[.bY (.im<|af g),.bY<|.im<|af d]) (cZ (cO<|dd (XU:=[.aR 1,.aR 3]) (Yz:=kE T (cx N c2 O) Yq Y k C Yj z B) rfl rfl rfl F rfl)<|cZ (cO<|dd (XU:=[.aR 1,.aR 3]) (Yz:=kE T (cx YH c6 f) Yq Y k C Yj z B) rfl rfl rfl I rfl) rfl) rfl (cV rfl) (cV rfl) rfl)
  (bp (XD:=Yz) (ff (dd (XU:=[.aR 3,.aR 6,.aR 7]) rfl rfl rfl J rfl) (cV rfl) rfl)
  (bp (XD:=Yz) (et (tE (F_<|yt (aS rfl) rfl rfl)<|dq<|bF (aS<|dz (bS rfl rfl) rfl rfl) (aS P) rfl rfl<|S5 XQ) rfl)
  (bp (XD:=Yz) (et (dq<|bF (aS c1) (aS<|pC rfl rfl (eH rfl) rfl) rfl rfl rfl) rfl)
  (bp (XD:=Yz) (et (tE (F_<|yt (aS<|dd (XU:=[.aR 3,.aR 6,.aR 7,.aR 8]) rfl rfl rfl gn rfl) rfl rfl)<|dq<|bF (aS<|dz (bS rfl rfl) rfl<|m XQ) (aS<|dd (XU:=[.aR 3,.aR 6,.aR 7]) rfl rfl rfl le rfl) rfl rfl<|s _) rfl)
  (et (dq (bF (aS (dz (bS (aS<|dd (XU:=[.aR 3,.aR 7,.aR 6]) rfl rfl rfl iP rfl) rfl) rfl ((m aC).trans (by rw[M])))) (aS<|dz (bS rfl rfl) rfl<|m XQ) rfl rfl<|s _)) rfl)))))
theorem G6(XC:gP Y)(i:iZ Y)(X5:k.Perm (cD Y)):∀(c:List X) {v:Nat}{b:ak} (C Yj z B:Option ak),dG (v+2*c.length) b->∃ah d f g h,dK (bH 5) xk c (kE T b Yq Y k C Yj z B)=Z (.bA,kE T ah Yq Y k d f g h)/\dG v ah
 |[],v,b,C,Yj,z,B,j=>⟨b,C,Yj,z,B,rfl,j⟩
 |e::c,v,b,C,Yj,z,B,j=>by
  rw[b6]at j;let⟨l,m,n,o,a,XE⟩:=Ma (v:=v+2*c.length) (T:=T) (Yq:=Yq) (C:=Z (.im e)) (Yj:=Yj) (z:=z) (B:=B) XC i X5 (j.mono (by omega));let⟨ah,d,f,g,h,p,S⟩:=G6 XC i X5 c (Z<|.im e) m n o XE;exact⟨ah,d,f,g,h,gi rfl a p,S⟩
theorem CA:∀(a:List X) {v:Nat}{b:ak} (Yq d c C Yj z B:Option ak),dG (v+908*a.length) b->∃ah YG f g h i m n,dK (bH 2) Es a [T,Z b,Yq,d,c,C,Yj,z,B]=Z (.bA,[T,Z ah,YG,f,g,h,i,m,n])/\dG v ah
 |[],v,b,Yq,d,c,C,Yj,z,B,j=>⟨b,Yq,d,c,C,Yj,z,B,rfl,j⟩
 |e::a,v,b,Yq,d,c,C,Yj,z,B,j=>by
  rw[b6]at j;let⟨l,Y,s,XE,XC,u⟩:=Qv (v:=v+908*a.length+8) (j.mono (by omega));have J:=XC.dY;have L:=XC.ln;have r:=xZ XC.ae (by omega);let⟨k,X5,w⟩:=v3 (cD Y);rw[w]at r;let⟨t,x,y,A,D,E,XS⟩:=G6 (T:=T) (Yq:=Z (.im e)) XC u X5 (hh 0 4) (v:=v+908*a.length) C Yj z B XE;let⟨ah,YG,f,g,h,i,m,n,F,S⟩:=CA a (Z<|.im e) (Z<|a7 Y) (Z<|c9 k) x y A D XS;refine⟨ah,YG,f,g,h,i,m,n,?_,S⟩;let⟨G,H,I,rfl,M⟩:=id j;let⟨p,c2,q,rfl,N⟩:=id XE;refine gi (XD:=[T,Z<|cx G H I,Z<|.im e,d,c,C,Yj,z,B]) rfl ?_ F;exact bp (XD:=[T,Z<|cx p c2 q,Z<|.im e,Z<|a7 Y,c,C,Yj,z,B]) (gj (dd (XU:=[.aR 1]) rfl rfl rfl s rfl) (cV rfl) rfl)
   (bp (XD:=kE T (cx p c2 q) (Z<|.im e) Y k C Yj z B) (ff (dd (XU:=[.aR 3]) rfl rfl rfl r rfl) (cV rfl) rfl)
   (gk (o:=V) (XD:=kE T (cx p c2 q) (Z<|.im e) Y k C Yj z B) rfl E rfl))
end
def RY(XY:List Int)(_:XY.length<100000):∃A,qR [.eo (XY.map .int)]=Z (.im<|.aH aa,A):=by
 let⟨b,c,j⟩:=TQ XY;let⟨ah,YG,e,f,h,k,m,n,p,S⟩:=CA (T:=Z (.eo<|XY.map .int)) (hh 0 4) (v:=0) V V V V V V V (j.mono ∅);have XC:=gP.one (0,0);let⟨XQ,q,YB,Y⟩:=x_ XC (g:=(0,0)) (d:=(0,0)) (.head _) (.head _);have i:XQ=[]:=CP.mpr λa r=>by
  let⟨l,t,s,Y⟩:=eJ.mp (YB.sub a r);exact lp s ((cf.mp t).trans (cf.mp l).symm)
 subst i;let⟨u,x,y,rfl,z⟩:=id j;let XD:aQ:=[Z (.eo<|XY.map .int),Z<|cx u x y,V,V,V,V,V,V,V]
 let X_:aQ:=[Z (.eo<|XY.map .int),Z ah,YG,e,f,h,k,m,n]
 exact⟨_,ew (w:=X_) rfl (bp (XD:=XD) (gj (dd (XU:=[.aR 0]) rfl rfl rfl c rfl) (cV rfl) rfl)
  (bp (XD:=X_) (gk (o:=V) (XD:=XD) rfl p rfl)
  (fz<|bF (aS<|dd (XU:=[.bY (a7 [(0,0)]),.bY<|.im<|af (0,0),.bY<|.im<|af (0,0)]) rfl rfl rfl q rfl) rfl rfl rfl rfl))) rfl⟩
end G
namespace L2
end L2
namespace L2
open Spec PyProof.Rows
section
variable{c:aI}
variable{h k:Nat}{e A:aD}{g d:aY}{YU i J XP:b9}
def VA{Yx:fk}{YP q r}(C:c.calm=aa)(x:c.N.Nodup)(XG:c.N[h]?=Z e)(D:c.N[k]?=Z A)(E:iO c.env.scope e)(F:iO c.env.scope A)(I:hp c [g,d] Yx)(L:pB [.Tuple [.Name e YU,.Name A i] YP J] (.Tuple [g,d] q r) c.env=pure V)(XO:pf [.Tuple [.Name e YU,.Name A i] YP J] (.Tuple [g,d] q r) XP.line c.env=pure aA)(M:(fJ [.Tuple [.Name e YU,.Name A i] YP J] c.env).map (·.2)=[hY (.Tuple [.Name e YU,.Name A i] YP J) c.env])(O:(fJ [.Name e YU,.Name A i] c.env).length=2)(P:(fJ [.Name e YU,.Name A i] c.env).findIdx? (·.1)=V)(Yw:c.fn e=aa\/c.env.scope.names.lookup e=Z .local)(R:c.fn A=aa\/c.env.scope.names.lookup A=Z .local):
  hy c (.Assign [.Tuple [.Name e YU,.Name A i] YP J] (.Tuple [g,d] q r) XP) (BE h k Yx):=by
 intro G m B j w z b;refine I1 (Tuple_<|bK (I _ G m B j _ z b) λXZ f ⟨Q,XE,T,U,t⟩=>?_) XO L;let⟨u,H,v,t⟩:=t;subst v;obtain⟨l,p,rfl,al,am⟩:∃l p,XZ=[l,p]/\bU u l/\bU H p:=by
  cases U with
  |cons n s=>
   cases s with
   |cons c5 cU=>
    cases cU;exact⟨_,_,rfl,n,c5⟩
 refine gF ?_ (by show 2<=sizeLine;decide);have an:aG c G B XE {f with heap:=f.heap.push {cls:=.type "tuple",data:=.seq [l,p].toArray} }:=T.kept (Yc:=f.toks) λd o a=>cw _ a;rw[M];show wpAny _ _ (hY (.Tuple [.Name e YU,.Name A i] YP J) c.env<|.ref f.heap.objs.size) _ _ _;refine FI (items:=#[l,p]) (z.ok.hd C) (nh.new f.heap _) (by rw[O];rfl) P λah ap=>?_;have as:=an.kept (ah:=ah) (Yc:=f.toks) λd o a=>ap d o (c0<|cn a) a;have a1:oo c [.Name e YU,.Name A i] _:=zV (z0 x XG E Yw) (zV (z0 x D F R) EF);refine bK (a1 G _ B XE [u,H] [l,p] (λy S=>y=(B.set h<|Z u).set k (Z H)/\S=XE) as (.cons al<|.cons am .nil) ⟨u,[H],rfl,H,[],rfl,rfl,rfl,rfl⟩) λ_ be ⟨y,S,a2,v,bd⟩=>?_;subst v bd;exact⟨_,_,a2,t⟩
def Lo{Ye:List Nat}{O:aC (List bo)}{YP f m}(q:c.calm=aa)(r:c.N.Nodup)(XG:c.N[h]?=Z e)(v:c.N[k]?=Z A)(x:iO c.env.scope e)(y:iO c.env.scope A)(z:f6 c [g,d] O)(C:h∉Ye)(E:k∉Ye)(F:pB [.Tuple [.Name e YU,.Name A i] YP J] (.Tuple [g,d] f m) c.env=pure V:=by rfl)(XO:pf [.Tuple [.Name e YU,.Name A i] YP J] (.Tuple [g,d] f m) XP.line c.env=pure aA:=by rfl)(G:(fJ [.Tuple [.Name e YU,.Name A i] YP J] c.env).map (·.2)=[hY (.Tuple [.Name e YU,.Name A i] YP J) c.env]:=by rfl)(H:(fJ [.Name e YU,.Name A i] c.env).length=2:=by rfl)(M:(fJ [.Name e YU,.Name A i] c.env).findIdx? (·.1)=V:=by rfl)(Yw:c.fn e=aa\/c.env.scope.names.lookup e=Z .local:=by first|exact .inl rfl|exact .inr rfl|assumption)(P:c.fn A=aa\/c.env.scope.names.lookup A=Z .local:=by first|exact .inl rfl|exact .inr rfl|assumption):
  h7 c Ye (.Assign [.Tuple [.Name e YU,.Name A i] YP J] (.Tuple [g,d] f m) XP) (nj h k O):=by
 refine kG (VA q r XG v x y z F XO G H M Yw P) λXA B j ⟨w,N,aW,X0,R,ae,S,s⟩=>?_;let⟨⟨XU,XD⟩,l,t⟩:=bg.mp S;let⟨⟨D,X_⟩,U,b⟩:=bg.mp t;refine⟨w,N,XU,XD,R,ae,l,λQ XE XT bv al am an=>?_⟩;let⟨X4,bJ,ap,X7,X5⟩:=k_ al am U;dsimp only at b;split at b
 ·rename_i Ym T a;split at b
  ·rename_i n;cases b;let⟨u,p,L,Ya,rfl,cc,as,rfl⟩:=X7;let⟨I,Yr,ca,cd,rfl,a1,⟨rfl,rfl⟩,rfl⟩:=as;let⟨a2,o,bd,be⟩:=ap.put (h:=h) cc n.1;let⟨bi,bm,bn,bs⟩:=bd.put (h:=k) a1 (by rw[tv];exact n.2);refine⟨u,I,rfl,s _ XE bi ((dv.set C).trans<|dv.set E) bn<|(an.jn X5.symm).less (aL:=bm++o) ?_⟩;rw[<-bI,bO,<-bI];refine (fN o bs).trans ?_;rw[bI];refine (eT a2 d3).trans ?_;rw[<-bI];exact fN _ be
  ·cases b
 ·cases b
end
end L2
set_option maxHeartbeats 4000000
namespace K19
open L2 PyProof.Rows
variable{J:PySem.W.OpenLaw}{F:aq}{f:eD}{q:Nat}{L:br}
def top(h:Nat):cE:=(PySem.Challenge.pw_mowfloor_k19_again_by_all_lanes.main.body.getD h (.Pass ⟨0,0,0,0⟩))
structure eI(aJ:aD->Option ag):Prop where
 uc:aJ "abs" = V
 Ar:aJ "dict" = V
 om:aJ "int" = V
 Mz:aJ "isinstance" = V
 iq:aJ "len" = V
 AP:aJ "list" = V
 Pk:aJ "max" = V
 w4:aJ "min" = V
 rJ:aJ "range" = V
 V5:aJ "set" = V
 nd:aJ "sorted" = V
 P9:aJ "sum" = V
 mZ:aJ "tuple" = V
 Nr:∃C,aJ "MOST" = Z (.int 14 C)
def u5:fb "abs" = Z (.builtin "abs"):=by decide +kernel
def yV:fb "dict" = Z (.type "dict"):=by decide +kernel
def oV:fb "int" = Z (.type "int"):=by decide +kernel
def Sh:fb "isinstance" = Z (.builtin "isinstance"):=by decide +kernel
def h8:fb "len" = Z (.builtin "len"):=by decide +kernel
def Bp:fb "list" = Z (.type "list"):=by decide +kernel
def Mj:fb "max" = Z (.builtin "max"):=by decide +kernel
def z7:fb "min" = Z (.builtin "min"):=by decide +kernel
def n2:fb "sorted" = Z (.builtin "sorted"):=by decide +kernel
def OD:fb "sum" = Z (.builtin "sum"):=by decide +kernel
def mu:fb "tuple" = Z (.type "tuple"):=by decide +kernel
def bM(a:e0 q L):L.units+20<bj:=by have:=a.un;omega
def tW(a:e0 q L):L.units+30<bj:=by have:=a.un;omega
abbrev w9:cE:=top 1
abbrev Rd:List aD:=["one","other"]
abbrev xa:cE:=top 2
abbrev T2:List aD:=["things","found","thing"]
abbrev Aq:cE:=top 3
abbrev Sx:List aD:=["cell","row","column"]
abbrev tZ:cE:=top 8
abbrev B0:List aD:=["floor","cell"]
abbrev uM:cE:=top 10
abbrev GB:List aD:=["field","a","b","free"]
abbrev yk:cE:=top 12
abbrev Vj:List aD:=["free","start","steps","layer","behind","cell","beside"]
abbrev wm:cE:=top 13
abbrev Tp:List aD:=["free","cells","away","cell"]
abbrev t8:cE:=top 14
abbrev E8:List aD:=["cells","one","other"]
abbrev tI:cE:=top 15
abbrev ND:List aD:=["away","cells","other","known","fewest"]
abbrev rL:cE:=top 16
abbrev Po:List aD:=["away","cells","known"]
abbrev yI:cE:=top 19
abbrev Va:List aD:=["field","a","b","odd"]
abbrev ti:cE:=top 20
abbrev Kt:List aD:=["steps","cell","found","nearer"]
abbrev A3:cE:=top 21
abbrev Qr:List aD:=["field","a","b","odd","away","found","one","other"]
abbrev wB:cE:=top 23
abbrev LO:List aD:=["_law_script","_law_seed","_law_own","_law_far","_law_cell"]
abbrev wU:cE:=top 24
abbrev Nn:List aD:=["_law_pot_here","_law_many","_law_digit","_law_turn","_law_mixed"]
abbrev wN:cE:=top 25
abbrev OS:List aD:=["_law_pot_here","_law_some"]
abbrev zA:cE:=top 26
abbrev Rv:List aD:=["_law_pot_here","_law_few","_law_most"]
abbrev vS:cE:=top 27
abbrev G_:List aD:=["_law_known","_law_cell","_law_row","_law_column","_law_some"]
abbrev yl:cE:=top 28
abbrev Vq:List aD:=["_law_cells","_law_a","_law_b","_law_known","_law_found","_law_cell"]
abbrev A_:cE:=top 29
abbrev PZ:List aD:=["_law_pot_here","_law_many","_law_cells","_law_row","_law_k","_law_here","_law_step","_law_other"]
abbrev zy:cE:=top 30
abbrev Oh:List aD:=["_law_pot_here","_law_way","_law_high","_law_wide","_law_found","_law_row","_law_column","_law_edge"]
abbrev zF:cE:=top 31
abbrev OH:List aD:=["_law_pot_here","_law_limit","_law_cells","_law_down","_law_right","_law_known","_law_row","_law_at","_law_other"]
abbrev zU:cE:=top 32
abbrev MA:List aD:=["_law_field_here","_law_found","_law_cell","_law_other"]
abbrev vg:cE:=top 33
abbrev F3:List aD:=["_law_field_here","_law_a","_law_b","_law_some","_law_odd_here","_law_cell"]
abbrev AH:cE:=top 34
abbrev Vp:List aD:=["_law_pot_here","_law_field_here","_law_row","_law_cell"]
abbrev z1:cE:=top 35
abbrev QB:List aD:=["_law_field_here","_law_a","_law_b","_law_odd_here","_law_wanted","_law_sets","_law_one","_law_other","_law_bit","_law_mark","_law_many"]
abbrev vt:cE:=top 36
abbrev HO:List aD:=["_law_script","_law_pot_here","_law_turn","_law_field_here","_law_lanes_there","_law_pair","_law_a","_law_b","_law_found"]
section
variable{XI:bB}{H:a9}{U:Φ}{aJ:aD->Option ag}{X9:aV}
abbrev Gr(f:eD)(F:aq):Prop:=ey f 1 "lesser_first" w9 F ["one","other"] 2 G.vu
def Oz(N:dZ f.K f.aJ "lesser_first" w9 F ["one","other"])(T:eI f.aJ):Gr f F:=by
 refine eN Rd N λae i L Ys m j XA a=>?_;exact (bX (dT (kx (by exact (b2 (aX<|ez (Gq rfl<|bM a) T.w4 z7<|b2 (ay 0)<|ay 1)<|aX<|ez (NJ rfl<|bM a) T.Pk Mj<|b2 (ay 0)<|ay 1)))))
abbrev zM(f:eD)(F:aq):Prop:=ey f 1 "lookup" xa F ["things"] 1 G.oY
def Nv(N:dZ f.K f.aJ "lookup" xa F ["things"])(T:eI f.aJ):zM f F:=by
 refine eN T2 N λae i L Ys m j XA a=>?_;exact (bC (cT 1 ae xR) (bC (gE (Yw:=[0]) ft rfl (eV<|ay 0) (fK 2 ae) (bX<|lK jj<|oH (cz 1) (fj<|cz 2)<|pv<|bM a) ∅ (qC ∅))<|bX<|dT<|fj<|cz 1))
abbrev vX(f:eD)(F:aq):Prop:=ey f 1 "around" Aq F ["cell"] 1 G.jT
def Ul(N:dZ f.K f.aJ "around" Aq F ["cell"])(T:eI f.aJ):vX f F:=by
 refine eN Sx N λae i L Ys m j XA a=>?_;exact (bC (cT 1 ae<|kg a (ay 0) aT) (bC (cT 2 ae<|kg a (ay 0) aT) (bX (dT (gh (by exact (ks (er (by exact (b2 (cg oM (ay 1) aT)<|ay 2))) (by exact (gS (er (by exact (b2 (ay 1)<|cg oM (ay 2) aT))) (er (by exact (b2 (ay 1)<|cg dX (ay 2) aT))) (er (by exact (b2 (cg dX (ay 1) aT)<|ay 2))))))))))))
abbrev DA(f:eD)(F:aq):Prop:=ey f 2 "neighbours" tZ F ["floor","cell"] 2 G.nS
def WD(N:dZ f.K f.aJ "neighbours" tZ F ["floor","cell"])(T:eI f.aJ){c:aq}(d:vX f c):DA f F:=by
 refine eN B0 N λae i L Ys m j XA a=>?_;exact (bX (dT (gw nB rfl T.mZ mu (bE (aX (md (own:=["beside"]) (Yh:=[0]) rfl (mv (d8 tZ) B0 (by decide +kernel)) ∅ (eV<|aX<|cQ d a<|bE<|ay 1) (λb=>(h_ 0)) (λb=>(n5<|de (nG<|bM a) (ay 0) (ay 1) rfl))<|λb=>(fj<|cz 0)))))))
abbrev Kw(f:eD)(F:aq):Prop:=ey f 3 "odd_cells" uM F ["field","a","b"] 3 G.sy
def R6(N:dZ f.K f.aJ "odd_cells" uM F ["field","a","b"])(T:eI f.aJ){c:aq}(d:zM f c){e:aq}(hj:DA f e):Kw f F:=by
 refine eN GB N λae i L Ys m j XA a=>?_;exact (bC (vq (h:=3) ae rfl (Or.inr rfl) (cQ d a<|bE<|ay 0) ∅) (bX (dT (gw nB rfl T.mZ mu (bE (aX (md (own:=["cell"]) (Yh:=[3,1,2]) rfl (mv (d8 uM) GB (by decide +kernel)) ∅ (eV<|ay 0) (λb=>(h_ 0)) (λb=>(n5 (de (gp<|bM a) (cg h9 (cg dX (aX<|ez iz T.iq h8<|bE<|aX<|cQ hj a<|b2 (ay 1)<|ay 0) (aX (NO (bM a) (er (by exact (b2 (ay 2)<|ay 3))) (ay 0) ux))) aT) aT<|dt _)))<|λb=>(fj<|cz 0))))))))
abbrev C1(f:eD)(F:aq):Prop:=ey f 2 "steps_from" yk F ["free","start"] 2 G.mw
def RS(N:dZ f.K f.aJ "steps_from" yk F ["free","start"])(T:eI f.aJ){b:aq}(c:vX f b):C1 f F:=by
 refine eN Vj N λae i L Ys m j XA a=>?_;exact (bC (cT 2 ae<|DZ (bM a) (fj<|cz 1) jw) (bC (cT 3 ae (gh (by exact (bE<|ay 1)))) (bC (q_ 1000000 ft (uu<|ay 3) (bC (cT 4 ae (gh (by exact h2))) (bC (gE (Yw:=[3,0,1]) ft rfl (eV<|ay 3) (fK 5 ae) (bX (gE (Yw:=[3,0,1]) ft rfl (eV<|aX<|cQ c a<|bE<|ay 5) (fK 6 ae) (bX<|fZ (fh.g5<|iI (de (nG<|bM a) (ay 6) (ay 0) rfl)<|jK<|de (qb<|bM a) (ay 6) (ay 2) rfl) (bC (lK (ha dX (eX a (ay 2)<|ay 5) aT)<|oH (cz 2) (fj<|cz 6)<|pv<|bM a)<|bX<|hc<|hR h5 iv jv jf jx (cz 4)<|bE<|ay 6) gL) ∅ mN)) ∅ (qC ∅))<|bX<|cT 3 ae<|fj<|cz 4)))<|bX<|dT<|fj<|cz 2)))
abbrev C7(f:eD)(F:aq):Prop:=ey f 3 "steps_from_each" wm F ["free","cells"] 2 G.sz
def M4(N:dZ f.K f.aJ "steps_from_each" wm F ["free","cells"])(T:eI f.aJ){b:aq}(c:C1 f b):C7 f F:=by
 refine eN Tp N λae i L Ys m j XA a=>?_;exact (bC (cT 2 ae xR) (bC (gE (Yw:=[0,1]) ft rfl (eV<|ay 1) (fK 3 ae) (bX<|lK (UU<|cQ c a<|b2 (ay 0)<|ay 3)<|oH (cz 2) (fj<|cz 3)<|pv<|bM a) ∅ (qC ∅))<|bX<|dT<|fj<|cz 2))
abbrev yD(f:eD)(F:aq):Prop:=ey f 1 "without" t8 F ["cells","one","other"] 3 G.pH
def Q6(N:dZ f.K f.aJ "without" t8 F ["cells","one","other"])(T:eI f.aJ):yD f F:=by
 refine eN E8 N λae i L Ys m j XA a=>?_;exact (bX (dT (gw nB rfl T.mZ mu (bE (aX (md (own:=["cell"]) (Yh:=[1,2]) rfl (mv (d8 t8) E8 (by decide +kernel)) ∅ (eV<|ay 0) (λb=>(h_ 0)) (λb=>(n5<|fh.g5<|iI (de (lU<|bM a) (ay 0) (ay 1)<|dt _)<|jK<|de (lU<|bM a) (ay 0) (ay 2)<|dt _))<|λb=>(fj<|cz 0)))))))
abbrev Nd:cE:=top 16
def P7{c:aq}{b:cW}{E:Nat}(N:dZ f.K f.aJ "pairs_with" tI F ["away","cells","other","known"])(T:eI f.aJ){d:aq}(e:yD f d)(g:ey f (2+E) "fewest_pairs" Nd c ["away","cells","known"] 3 b):ey f (2+E+1) "pairs_with" tI F ["away","cells","other","known"] 4 (G.tf b):=by
 refine eN ND N λae i L Ys m j XA a=>?_;exact (bC (cT 4 ae (x4 g a (bk _) (gS (ay 0) (aX (x4 e a (Nat.le_add_right_of_le ∅)<|gS (ay 1) (eX a (ay 1) aT)<|ay 2))<|ay 3))) (bX (dT (kx (by exact (b2 (cg dX (eX a (aX<|Ez<|kg a (ay 0)<|eX a (ay 1) aT)<|ay 2)<|eX a (ay 4) aT) (cg dX (er (by exact (bE (er (by exact (b2 (eX a (ay 1) aT)<|ay 2))))))<|eX a (ay 4) aT)))))))
theorem JS{f:eD}{F d:aq}(N:dZ f.K f.aJ "fewest_pairs" rL F ["away","cells","known"])(T:eI f.aJ)(b:dZ f.K f.aJ "pairs_with" tI d ["away","cells","other","known"]){e:aq}(c:yD f e):∀q,ey f (2+(q+q)) "fewest_pairs" rL F ["away","cells","known"] 3 (G.i1 q)
 |0=>Mt N
 |q+1=>by
  have g:=JS N T b c q;have h:=P7 b T c g;have k:=(show 2+(q+q)+1=2+(q+1+q) by omega) ▸ h;show ey f (2+(q+1+q)+1) "fewest_pairs" rL F ["away","cells","known"] 3 (G.i1<|q+1);refine eN Po N λae i L Ys m j XA a=>?_;exact (bC (fZ (de (gp<|bM a) (aX<|ez iz T.iq h8<|bE<|ay 1) aT<|dt _) (bX (dT (kx (by exact (b2 aT (er (by exact h2))))))) gL) (bC (fZ (de (qb<|bM a) (ay 1) (ay 2) rfl) (bX (lK (ez (Rx rfl<|bM a) T.w4 z7 (bE (aX (pq ["other"] [0,1,2] (eV<|aX<|DJ (ay 1) (E_ jw) G5) (λl=>(h_ 0)) (λl=>(x4 k a (bk _) (ks (ay 1) (by exact (gS (ay 2) (ay 0)<|ay 3)))))))))<|oH (cz 2) (fj<|cz 1)<|pv<|bM a)) gL)<|bX<|dT<|kg a (ay 2)<|ay 1))
abbrev GP(f:eD)(F:aq):Prop:=ey f 4 "few_odd_cells" yI F ["field","a","b"] 3 G.sS
def MD(N:dZ f.K f.aJ "few_odd_cells" yI F ["field","a","b"])(T:eI f.aJ){a:aq}(b:Kw f a):GP f F:=by
 refine eN Va N λae i L Ys m j XA c=>?_;exact (bC (cT 3 ae<|cQ b c<|gS (ay 0) (ay 1)<|ay 2)<|bC (fZ (de n6 (aX<|ez iz T.iq h8<|bE<|ay 3) (aX<|Lf rfl T.Nr.choose_spec)<|dt _) (bX TR) gL)<|bX<|dT<|fj<|cz 3)
abbrev D1(f:eD)(F:aq):Prop:=ey f 2 "lanes_back" ti F ["steps","cell"] 2 G.qr
def Ng(N:dZ f.K f.aJ "lanes_back" ti F ["steps","cell"])(T:eI f.aJ){c:aq}(d:vX f c){e:aq}(g:Gr f e):D1 f F:=by
 refine eN Kt N λae i L Ys m j XA a=>?_;exact (bC (cT 2 ae (gh (by exact h2))) (bC (q_ 1000000 ft (de n6 (eX a (ay 0)<|ay 1) aT<|dt _) (bC (cT 3 ae (kg a (aX (md (own:=["beside"]) (Yh:=[0,1]) rfl (mv (d8 ti) Kt (by decide +kernel)) ∅ (eV<|aX<|cQ d a<|bE<|ay 1) (λb=>(h_ 0)) (λb=>(n5<|de (gp<|bM a) (aX<|P2 (bM a) (cz 1)<|fj<|cz 0) (cg oM (eX a (ay 1)<|ay 2) aT)<|dt _))<|λb=>(fj<|cz 0))) aT)) (bC (hc<|hR h5 iv jv jf jx (cz 2)<|bE<|aX<|cQ g a<|b2 (ay 1)<|ay 3) (bX (vq (h:=1) ae rfl (Or.inr rfl) (fj<|cz 3) ∅)))))<|bX<|dT<|fj<|cz 2))
abbrev JJ(f:eD)(F:aq):Prop:=ey f 19 "again" A3 F ["field","a","b"] 3 G.oO
def Wy(N:dZ f.K f.aJ "again" A3 F ["field","a","b"])(T:eI f.aJ){b:aq}(c:GP f b){d:aq}(e:C7 f d){g:aq}(h:zM f g){k:aq}(l:ey f 18 "fewest_pairs" rL k ["away","cells","known"] 3 (G.i1 8)){n:aq}(o:D1 f n):JJ f F:=by
 refine eN Qr N λae i L Ys m j XA a=>?_;exact (bC (cT 3 ae<|cQ c a<|gS (ay 0) (ay 1)<|ay 2) (bC (cT 4 ae<|cQ e a<|b2 (aX<|cQ h a<|bE<|ay 0)<|ay 3) (bC (cT 5 ae (gh (by exact h2))) (bC (gE (Yw:=[0,1,2]) ft rfl (eV<|eX a (aX<|cQ l a<|gS (ay 4) (ay 3)<|aX xR) aT) (rt (fK 6 ae)<|fK 7 ae) (bX<|hc<|hR h5 iv PySem.F.slot_list_extend PySem.F.type_list_extend Nj (cz 5)<|bE<|aX<|cQ o a<|b2 (aX<|Ez<|kg a (ay 4)<|ay 6)<|ay 7) ∅ mN)<|bX<|dT<|gw nB rfl T.mZ mu<|bE<|aX<|ez (oP rfl<|bM a) T.nd n2<|bE<|ay 5))))
abbrev Ea(f:eD)(F:aq):Prop:=ey f 1 "_law_pot" wB F ["_law_script"] 1 G.AX
def Sv(N:dZ f.K f.aJ "_law_pot" wB F ["_law_script"])(T:eI f.aJ):Ea f F:=by
 refine eN LO N λae i L Ys m j XA a=>?_;exact (bC (cT 1 ae jw) (bC (cT 2 ae (gh (by exact h2))) (bC (cT 3 ae<|ha jo (cg jo (cg rf aT aT)<|cg rf aT aT)<|cg rf aT aT) (bC (gE (Yw:=[0]) ft rfl (eV<|aX<|DJ (ay 0) G5<|E_ jw) (fK 4 ae) (bC (cT 1 ae<|ha h9 (cg dX (cg dX (cg jo (ay 1) aT)<|cg h9 (ay 4)<|cg rf aT aT) aT) aT)<|bX<|fZ (de Pd (aX<|ez vU T.uc u5<|bE<|ay 4) (cg rf aT aT)<|dt _) (bX<|hc<|hR h5 iv jv jf jx (cz 2)<|bE<|cg h9 (aX<|ez vU T.uc u5<|bE<|ay 4)<|ay 3) gL) ∅ mN)<|bX<|dT<|Lh<|xD (ay 2)<|xD (ay 1)<|xD aT RW))))
abbrev nU(f:eD)(F:aq):Prop:=ey f 1 "_law_next" wU F ["_law_pot_here","_law_many"] 2 G.fA
def L_(N:dZ f.K f.aJ "_law_next" wU F ["_law_pot_here","_law_many"])(T:eI f.aJ):nU f F:=by
 refine eN Nn N λae i L Ys m j XA a=>?_;exact (bC (q_ 1000000 ft (fh.g5<|iI (D0 0 (bM a)<|cz 0)<|jK<|de (gp<|bM a) (aX<|zj 0 (bM a) (cz 0) pn) aT<|dt _)<|bX<|hc<|OV 0 (bM a) Bj Bv Tv (cz 0) pn)<|bC (fZ (D0 0 (bM a)<|cz 0) (bC (cT 2 ae<|ha h9 (aX<|zj 0 (bM a) (cz 0) pn)<|ay 1)<|bC (lK (ha xV (aX<|zj 0 (bM a) (cz 0) pn)<|ay 1)<|WQ 0 (bM a) (Sq<|bM a) (cz 0) pn)<|bX<|dT<|fj<|cz 2) gL)<|bC (lK (ha dX (aX<|wZ 2 (bM a)<|cz 0) aT)<|oH (cz 0) Qx<|Pp 2<|bM a)<|bC (cT 3 ae<|wZ 2 (bM a)<|cz 0)<|bC (cT 4 ae<|ha dX (cg dX (aX<|wZ 1 (bM a)<|cz 0)<|cg jo (cg jo (ay 3)<|ay 3) aT)<|cg jo (ay 3) aT)<|bC (cT 4 ae<|ha h9 (cg jo (ay 4) aT) aT)<|bC (cT 4 ae<|ha h9 (cg jo (ay 4)<|cg dX (cg h9 (ay 4) aT) aT) aT)<|bX<|dT<|ha h9 (cg xV (ay 4) aT)<|ay 1)
abbrev vk(f:eD)(F:aq):Prop:=ey f 2 "_law_pick" wN F ["_law_pot_here","_law_some"] 2 G.lY
def NF(N:dZ f.K f.aJ "_law_pick" wN F ["_law_pot_here","_law_some"])(T:eI f.aJ){b:aq}(c:nU f b):vk f F:=by
 refine eN OS N λae i L Ys m j XA a=>?_;exact (bX<|dT<|kg a (ay 1)<|aX<|cQ c a<|b2 (ay 0)<|aX<|ez iz T.iq h8<|bE<|ay 1)
abbrev Cy(f:eD)(F:aq):Prop:=ey f 2 "_law_size" zA F ["_law_pot_here","_law_few","_law_most"] 3 G.y4
def S_(N:dZ f.K f.aJ "_law_size" zA F ["_law_pot_here","_law_few","_law_most"])(T:eI f.aJ){c:aq}(b:nU f c):Cy f F:=by
 refine eN Rv N λae i L Ys m j XA a=>?_;exact (bX (dT (cQ b a (b2 (ay 0) (cg dX (eX a (aX (gh (by exact (b2 (ay 1)<|ay 2))))<|aX<|gw oA rfl T.om oV<|bE<|aX<|kF (gp<|bM a) (aX<|cQ b a<|b2 (ay 0) aT) aT<|dt _) aT)))))
abbrev tl(f:eD)(F:aq):Prop:=ey f 1 "_law_near" vS F ["_law_known","_law_cell"] 2 G.lq
def Vf(N:dZ f.K f.aJ "_law_near" vS F ["_law_known","_law_cell"])(T:eI f.aJ):tl f F:=by
 refine eN G_ N λae i L Ys m j XA b=>?_;exact (bC (lK (fj<|cz 1)<|rt (fK 2 ae)<|fK 3 ae) (bC (cT 4 ae (gh (by exact (ks (er (by exact (b2 (cg oM (ay 2) aT)<|ay 3))) (by exact (gS (er (by exact (b2 (ay 2)<|cg oM (ay 3) aT))) (er (by exact (b2 (ay 2)<|cg dX (ay 3) aT))) (er (by exact (b2 (cg dX (ay 2) aT)<|ay 3))))))))) (bX (dT (md (own:=["_law_other"]) (Yh:=[0]) rfl (mv (d8 vS) G_ (by decide +kernel)) ∅ (eV<|ay 4) (λa=>(h_ 0)) (λa=>(n5<|de (nG<|bM b) (ay 0) (ay 1) rfl))<|λa=>(fj<|cz 0))))))
abbrev uX(f:eD)(F:aq):Prop:=ey f 2 "_law_odd" yl F ["_law_cells","_law_a","_law_b"] 3 G.o7
def Rh(N:dZ f.K f.aJ "_law_odd" yl F ["_law_cells","_law_a","_law_b"])(T:eI f.aJ){b:aq}(c:tl f b):uX f F:=by
 refine eN Vq N λae i L Ys m j XA a=>?_;exact (bC (cT 3 ae (gw (wR rfl<|tW a) rfl T.Ar yV (bE (aX (pq ["_law_cell"] [] (eV<|ay 0) (λd=>(h_ 0)) (λd=>(kx (by exact (b2 (ay 0)<|aX jj))))))))) (bC (cT 4 ae (gh (by exact h2))) (bC (gE (Yw:=[0,1,2]) ft rfl (eV<|aX<|ez (oP rfl<|bM a) T.nd n2<|bE<|ay 0) (fK 5 ae) (bX<|fZ (de (gp<|bM a) (cg h9 (cg dX (cg dX (aX<|ez iz T.iq h8<|bE<|aX<|cQ c a<|b2 (ay 3)<|ay 5)<|aX<|gw oA rfl T.om oV<|bE<|aX<|kF (gp<|bM a) (ay 5) (ay 1)<|dt _)<|aX<|gw oA rfl T.om oV<|bE<|aX<|kF (gp<|bM a) (ay 5) (ay 2)<|dt _) aT) aT<|dt _) (bX<|hc<|hR h5 iv jv jf jx (cz 4)<|bE<|ay 5) gL) ∅ mN)<|bX<|dT<|fj<|cz 4)))
abbrev Cb(f:eD)(F:aq):Prop:=ey f 3 "_law_grown" A_ F ["_law_pot_here","_law_many"] 2 G.yG
def O7(N:dZ f.K f.aJ "_law_grown" A_ F ["_law_pot_here","_law_many"])(T:eI f.aJ){c:aq}(b:vk f c){d:aq}(e:nU f d):Cb f F:=by
 refine eN PZ N λae i L Ys m j XA a=>?_;exact (bC (cT 2 ae (DZ (bM a) (kx (by exact (b2 aT aT))) jj)) (bC (cT 3 ae (gh (by exact (bE (er (by exact (b2 aT aT))))))) (bC (gE (Yw:=[0,1]) ft rfl (r6 rfl T.rJ<|bE<|cg jo (ay 1) aT) (fK 4 ae) (bC (cT 5 ae (kg a (aX (gh (by exact (b2 (eX a (ay 3)<|aX<|wu jw)<|aX<|cQ b a<|b2 (ay 0)<|ay 3))))<|aX<|cQ e a<|b2 (ay 0) aT)) (bC (cT 6 ae (cQ b a (b2 (ay 0) (aX (gh (by exact (ks (er (by exact (b2 (aX<|wu jw) aT))) (by exact (gS (er (by exact (b2 aT<|aX<|wu jw))) (er (by exact (b2 aT aT))) (er (by exact (b2 aT aT)))))))))))) (bC (cT 7 ae (kx (by exact (b2 (cg dX (eX a (ay 5) aT)<|eX a (ay 6) aT)<|cg dX (eX a (ay 5) aT)<|eX a (ay 6) aT))))<|bX<|fZ (fh.g5<|iI (de zc (aX<|ez iz T.iq h8<|bE<|ay 3) (ay 1)<|dt _)<|iI (de (qb<|bM a) (ay 7) (ay 2) rfl)<|iI (DL sg sg aT (eX a (ay 7) aT) aT)<|jK<|DL sg sg aT (eX a (ay 7) aT) aT) (bC (lK jj<|oH (cz 2) (fj<|cz 7)<|pv<|bM a)<|bX<|hc<|hR h5 iv jv jf jx (cz 3)<|bE<|ay 7) gL))) ∅ rp)<|bX<|dT<|fj<|cz 3)))
abbrev CS(f:eD)(F:aq):Prop:=ey f 4 "_law_made" zy F ["_law_pot_here"] 1 G.yS
def L5(N:dZ f.K f.aJ "_law_made" zy F ["_law_pot_here"])(T:eI f.aJ){c:aq}(b:nU f c){d:aq}(e:Cb f d){g:aq}(l:Cy f g):CS f F:=by
 refine eN Oh N λae i L Ys m j XA a=>?_;exact (bC (cT 1 ae<|cQ b a<|b2 (ay 0) aT) (bC (BY (h:=2) (k:=3) rfl ae rfl rfl ∅ rfl rfl (b2 (cg dX aT<|aX<|cQ b a<|b2 (ay 0) aT)<|cg dX aT<|aX<|cQ b a<|b2 (ay 0) aT) ∅ ∅ rfl) (bC (fZ (de (gp<|bM a) (ay 1) aT<|dt _) (bX<|dT<|cQ e a<|b2 (ay 0)<|cg dX aT<|aX<|cQ l a<|gS (ay 0) aT aT) gL) (bC (cT 4 ae (gh (by exact h2))) (bC (gE (Yw:=[0]) ft rfl (r6 rfl T.rJ<|bE<|cg dX (ay 2)<|cg jo aT<|aX<|gw oA rfl T.om oV<|bE<|aX<|kF n6 (ay 1) aT<|dt _) (fK 5 ae) (bX (gE (Yw:=[0]) ft rfl (r6 rfl T.rJ<|bE<|cg dX (ay 3)<|cg jo aT<|aX<|gw oA rfl T.om oV<|bE<|aX<|kF n6 (ay 1) aT<|dt _) (fK 6 ae) (bC (cT 7 ae (S8 (HV (kF (nG<|bM a) (ay 5) (er (by exact (b2 aT<|cg dX (ay 2) aT))) rfl)) (HV (Ws (kF (nG<|bM a) (ay 6) (er (by exact (b2 aT<|cg dX (ay 3) aT))) rfl))))) (bX (fZ (fh.g5<|qj (de zc (ay 1) aT<|dt _)<|qt<|fh.g5<|iI (de (gp<|bM a) (ay 1) aT<|dt _)<|jK<|fh.g5<|qj (uu<|ay 7)<|qt<|de (gp<|bM a) (aX<|cQ b a<|b2 (ay 0) aT) aT<|dt _) (bX (hc (hR h5 iv jv jf jx (cz 4) (bE (er (by exact (b2 (ay 5)<|ay 6))))))) (bX (fZ (fh.g5<|iI (de (gp<|bM a) (ay 1) aT<|dt _)<|jK<|fh.g5<|qj (de (gp<|bM a) (ay 5) aT<|dt _)<|qt<|fh.g5<|iI (de (gp<|bM a) (cg h9 (ay 6) aT) aT<|dt _)<|jK<|de n6 (aX<|cQ b a<|b2 (ay 0) aT) aT<|dt _) (bX (hc (hR h5 iv jv jf jx (cz 4) (bE (er (by exact (b2 (ay 5)<|ay 6))))))) (bX (fZ (fh.g5<|iI (de (gp<|bM a) (ay 1) aT<|dt _)<|jK<|de n6 (aX<|cQ b a<|b2 (ay 0) aT) aT<|dt _) (bX (hc (hR h5 iv jv jf jx (cz 4) (bE (er (by exact (b2 (ay 5)<|ay 6))))))) (bX (fZ (fh.g5<|iI (de (gp<|bM a) (ay 1) aT<|dt _)<|jK<|fh.g5<|qj (de (gp<|bM a) (cg h9 (ay 5) aT) aT<|dt _)<|qt<|de (gp<|bM a) (ay 6) (cg jo (cg dX (ay 3) aT)<|cg h9 (cg xV (ay 5) aT) aT)<|dt _) (bX (hc (hR h5 iv jv jf jx (cz 4) (bE (er (by exact (b2 (ay 5)<|ay 6))))))) gL))))))))) ∅ rp)) ∅ rp) (bX (dT (ha dX (ay 4) (cg H8 (aX (gh (by exact (bE (er (by exact (b2 aT aT))))))) (aX (gw oA rfl T.om oV (bE (aX (kF (qb<|bM a) (er (by exact (b2 aT aT))) (ay 4) rfl))))))))))))))
abbrev FC(f:eD)(F:aq):Prop:=ey f 5 "_law_field" zF F ["_law_pot_here","_law_limit"] 2 G.Ak
def N9(N:dZ f.K f.aJ "_law_field" zF F ["_law_pot_here","_law_limit"])(T:eI f.aJ){d:aq}(e:CS f d){g:aq}(c:nU f g){l:aq}(n:vk f l){o:aq}(p:tl f o){q:aq}(r:uX f q):FC f F:=by
 refine eN OH N λae i L Ys m j XA a=>?_;exact (bC (cT 2 ae<|cQ e a<|bE<|ay 0) (bC (Lo (h:=3) (k:=4) rfl ae rfl rfl (Or.inr rfl) (Or.inr rfl) (b2 (aX<|cQ c a<|b2 (ay 0) aT)<|aX<|cQ c a<|b2 (ay 0) aT) ∅ ∅) (bC (cT 5 ae (gw (wR rfl<|tW a) rfl T.Ar yV (bE (aX (pq ["_law_cell"] [] (eV<|ay 2) (λb=>(h_ 0)) (λb=>(kx (by exact (b2 (ay 0)<|aX jj))))))))) (bC (cT 6 ae (gh (by exact (bE<|aX<|cQ n a<|b2 (ay 0)<|aX<|ez (oP rfl<|bM a) T.nd n2<|bE<|ay 5)))) (bC (hc<|hR ES r8 w0 HH (IW<|bM a) (cz 5)<|bE<|eX a (ay 6) aT) (bC (cT 7 ae jw) (bC (q_ 1000000 ft (de zc (ay 7) (aX<|ez iz T.iq h8<|bE<|ay 6)<|dt _) (bC (gE (Yw:=[0,1]) ft rfl (eV<|aX<|cQ p a<|b2 (ay 5)<|eX a (ay 6)<|ay 7) (fK 8 ae) (bC (hc<|hR ES r8 w0 HH (IW<|bM a) (cz 5)<|bE<|ay 8)<|bX<|hc<|hR h5 iv jv jf jx (cz 6)<|bE<|ay 8) ∅ mN)<|bX<|cT 7 ae<|ha dX (ay 7) aT)) (bC (q_ 1000000 ft (de n6 (aX<|ez iz T.iq h8<|bE<|aX<|cQ r a<|gS (ay 6) (eX a (ay 6) aT)<|eX a (ay 6) aT) (ay 1)<|dt _)<|bX<|hc<|MB h5 iv Bj Bv Ta<|cz 6) (bX (dT (gw nB rfl T.mZ mu (bE (aX (ez (oP rfl<|bM a) T.nd n2 (bE (aX (pq ["_law_one" ,"_law_other"] [3,4] (eV<|ay 6) (λb=>(rt (h_ 0)<|h_ 1)) (λb=>(kx (by exact (b2 (cg dX (ay 0)<|ay 2)<|cg dX (ay 1)<|ay 3)))))))))))))))))))))
abbrev uo(f:eD)(F:aq):Prop:=ey f 1 "_law_lanes" zU F ["_law_field_here"] 1 G.pQ
def Si(N:dZ f.K f.aJ "_law_lanes" zU F ["_law_field_here"])(T:eI f.aJ):uo f F:=by
 refine eN MA N λae i L Ys m j XA a=>?_;exact (bC (cT 1 ae (gh (by exact h2))) (bC (gE (Yw:=[0]) ft rfl (eV<|ay 0) (fK 2 ae) (bX (gE (Yw:=[0]) ft rfl (eV<|ay 0) (fK 3 ae) (bX (fZ (fh.g5<|iI (de (gp<|bM a) (cg dX (aX<|ez vU T.uc u5<|bE<|cg oM (eX a (ay 2) aT)<|eX a (ay 3) aT)<|aX<|ez vU T.uc u5<|bE<|cg oM (eX a (ay 2) aT)<|eX a (ay 3) aT) aT<|dt _)<|jK<|de (T4<|bM a) (ay 2) (ay 3)<|dt _) (bX (hc (hR h5 iv jv jf jx (cz 1) (bE (er (by exact (b2 (ay 2)<|ay 3))))))) gL)) ∅ (qC ∅))) ∅ (qC ∅))<|bX<|dT<|ez (oP rfl<|bM a) T.nd n2<|bE<|ay 1))
abbrev CG(f:eD)(F:aq):Prop:=ey f 3 "_law_makes_even" vg F ["_law_field_here","_law_a","_law_b","_law_some"] 4 G.zl
def Wj(N:dZ f.K f.aJ "_law_makes_even" vg F ["_law_field_here","_law_a","_law_b","_law_some"])(T:eI f.aJ){c:aq}(d:uX f c):CG f F:=by
 refine eN F3 N λae i L Ys m j XA a=>?_;exact (bC (cT 4 ae<|cQ d a<|gS (ay 0) (ay 1)<|ay 2) (bC (gE (Yw:=[0,1,2,3]) ft rfl (eV<|ay 0) (yX (h:=5) ae rfl (Or.inr rfl) ∅) (bX (fZ (de (lU<|bM a) (cg h9 (aX (ez iz T.iq h8 (bE (aX (md (own:=["_law_lane"]) (Yh:=[5]) rfl (mv (d8 vg) F3 (by decide +kernel)) ∅ (eV<|ay 3) (λb=>(h_ 0)) (λb=>(n5<|de (nG<|bM a) (ay 1) (ay 0) rfl))<|λb=>(fj<|cz 0)))))) aT) (aX<|gw oA rfl T.om oV<|bE<|aX<|kF (nG<|bM a) (ay 5) (ay 4) rfl)<|dt _) (bX<|dT jj) gL)) ∅ (qC ∅))<|bX<|dT jj))
abbrev C_(f:eD)(F:aq):Prop:=ey f 6 "_law_small" AH F ["_law_pot_here"] 1 G.Bh
def Vz(N:dZ f.K f.aJ "_law_small" AH F ["_law_pot_here"])(T:eI f.aJ){b:aq}(c:FC f b){d:aq}(e:nU f d){g:aq}(h:tl f g){k:aq}(l:uo f k):C_ f F:=by
 refine eN Vp N λae i L Ys m j XA a=>?_;exact (bC (cT 1 ae<|cQ c a<|b2 (ay 0) aT) (bC (cT 2 ae (gh (by exact (bE<|eX a (ay 1)<|aX<|cQ e a<|b2 (ay 0)<|aX<|ez iz T.iq h8<|bE<|ay 1)))) (bC (gE (Yw:=[0]) ft rfl (eV<|cg H8 (aX<|gw JR rfl T.AP Bp<|bE<|ay 1) aT) (fK 3 ae) (bX (fZ (fh.g5 (iI (de (qb<|bM a) (ay 3) (ay 2) rfl) (jK (de (lU<|bM a) (aX (cQ h a (b2 (aX (gw (wR rfl<|tW a) rfl T.Ar yV (bE (aX (pq ["_law_one"] [] (eV<|ay 2) (λn=>(h_ 0)) (λn=>(kx (by exact (b2 (ay 0)<|aX jj)))))))))<|ay 3))) (aX (gh (by exact h2)))<|dt _)))) (bX (fZ (de sg (aX (ez iz T.iq h8 (bE (aX (cQ l a (bE (aX (gw nB rfl T.mZ mu (bE (aX (ez (oP rfl<|bM a) T.nd n2 (bE (cg dX (ay 2) (aX (gh (by exact (bE<|ay 3))))))))))))))))) aT<|dt _) (bX<|hc<|hR h5 iv jv jf jx (cz 2)<|bE<|ay 3) gL)) gL)) ∅ mN)<|bX<|dT<|gw nB rfl T.mZ mu<|bE<|aX<|ez (oP rfl<|bM a) T.nd n2<|bE<|ay 2)))
abbrev BU(f:eD)(F:aq):Prop:=ey f 3 "_law_least" z1 F ["_law_field_here","_law_a","_law_b"] 3 G.A1
def Wo(N:dZ f.K f.aJ "_law_least" z1 F ["_law_field_here","_law_a","_law_b"])(T:eI f.aJ){b:aq}(c:uX f b){d:aq}(e:uo f d):BU f F:=by
 refine eN QB N λae i L Ys m j XA a=>?_;exact (bC (cT 3 ae<|cQ c a<|gS (ay 0) (ay 1)<|ay 2) (bC (cT 4 ae<|ez (UL rfl) T.P9 OD<|bE<|aX<|pq ["_law_cell"] [0] (eV<|ay 3) (λg=>(h_ 0))<|λg=>(ha AW aT<|aX<|Bf (bM a) (ay 1) (ay 0) ux)) (bC (cT 5 ae<|MT jw jw) (bC (gE (Yw:=[0,1,2]) ft rfl (eV<|aX<|cQ e a<|bE<|ay 0) (rt (fK 6 ae)<|fK 7 ae) (bC (cT 8 ae<|ha dX (cg AW aT<|aX<|Bf (bM a) (ay 0) (ay 6) ux)<|cg AW aT<|aX<|Bf (bM a) (ay 0) (ay 7) ux) (bX (gE (Yw:=[0,1,2]) ft rfl (eV<|aX<|SX rfl T.AP<|ay 5) (rt (fK 9 ae)<|fK 10 ae) (bX<|lK (ez (Gq rfl<|bM a) T.w4 z7<|b2 (cg dX (ay 10) aT)<|aX<|Tb (bM a) (cz 5) (ha JY (ay 9)<|ay 8) jw)<|oH (cz 5) (ha JY (ay 9)<|ay 8)<|pv<|bM a) ∅ mN))) ∅ mN)<|bX<|dT<|kg a (ay 5)<|ay 4))))
abbrev T9(f:eD)(F:aq):Prop:=ey f 20 "law" vt F ["_law_script"] 1 G.qR
def KV(N:dZ f.K f.aJ "law" vt F ["_law_script"])(T:eI f.aJ){e:aq}(g:Ea f e){l:aq}(n:C_ f l){o:aq}(p:uo f o){q:aq}(c:vk f q){r:aq}(b:JJ f r){s:aq}(t:CG f s){u:aq}(v:BU f u):T9 f F:=by
 refine eN HO N λae i L Ys m j XA a=>?_;exact (bC (cT 1 ae<|cQ g a<|bE<|ay 0) (bC (gE (Yw:=[0]) ft rfl (r6 rfl T.rJ<|bE aT) (fK 2 ae) (bC (cT 3 ae<|cQ n a<|bE<|ay 1) (bC (vq (h:=4) ae rfl (Or.inr rfl) (cQ p a<|bE<|ay 3) ∅) (bX (gE (Yw:=[0]) ft rfl (r6 rfl T.rJ<|bE aT) (fK 5 ae) (bC (BY (h:=6) (k:=7) rfl ae rfl rfl ∅ rfl rfl (b2 (aX<|cQ c a<|b2 (ay 1)<|ay 3)<|aX<|cQ c a<|b2 (ay 1)<|ay 3) ∅ ∅ rfl) (bC (cT 8 ae<|cQ b a<|gS (ay 3) (ay 6)<|ay 7) (bC (fZ (fh.g5<|qj (ID<|uu<|aX<|NQ rfl T.Mz Sh rfl T.mZ mu<|ay 8)<|qt<|de (lU<|bM a) (aX<|gw JR rfl T.AP Bp<|bE<|ay 8) (aX<|PF (tW a) rfl T.nd rfl T.V5<|bE<|ay 8)<|dt _) (bX<|dT jj) gL) (bC (fZ (de (lU<|bM a) (aX (md (own:=["_law_lane"]) (Yh:=[4]) rfl (mv (d8 vt) HO (by decide +kernel)) ∅ (eV<|ay 8) (λd=>(h_ 0)) (λd=>(n5<|de (qb<|bM a) (ay 0) (ay 1) rfl))<|λd=>(fj<|cz 0))) (aX (gh (by exact h2)))<|dt _) (bX<|dT jj) gL) (bC (fZ (fh.g5 (qj (ID (uu (aX (cQ t a (ks (ay 3) (by exact (gS (ay 6) (ay 7)<|ay 8)))))))<|qt<|de (lU<|bM a) (aX<|ez iz T.iq h8<|bE<|ay 8) (aX<|cQ v a<|gS (ay 3) (ay 6)<|ay 7)<|dt _)) (bX<|dT jj) gL)<|bX<|fZ (de (lU<|bM a) (aX<|ez iz T.iq h8<|bE<|aX<|cQ b a<|gS (ay 3) (ay 7)<|ay 6) (aX<|ez iz T.iq h8<|bE<|ay 8)<|dt _) (bX<|dT jj) gL))))) ∅ rp)))) ∅ rp) (bX (dT (kF (gp<|bM a) (aX (cQ b a (gS (er (by exact (bE (er (by exact (b2 aT aT)))))) (er (by exact (b2 aT aT))) (er (by exact (b2 aT aT)))))) (er (by exact h2))<|dt _)))))
end
def all_mk{H:a9}{U:Φ}{b:aV}{aJ:aD->Option ag}{k q r s t v w x y z A B C D E F I L M N O P Q R S al am an:aq}(c:U.In b)(a:b.Ns d9 aJ)(ap:aJ "law" = Z (.ref k)){l:hT}(as:dJ U "lesser_first" w9 q)(a1:dJ U "lookup" xa r)(a2:dJ U "around" Aq s)(bd:dJ U "neighbours" tZ t)(be:dJ U "odd_cells" uM v)(bi:dJ U "steps_from" yk w)(bm:dJ U "steps_from_each" wm x)(bn:dJ U "without" t8 y)(n:dJ U "pairs_with" tI z)(bs:dJ U "fewest_pairs" rL A)(bv:dJ U "few_odd_cells" yI B)(ca:dJ U "lanes_back" ti C)(cd:dJ U "again" A3 D)(ce:dJ U "_law_pot" wB E)(ch:dJ U "_law_next" wU F)(ci:dJ U "_law_pick" wN I)(cl:dJ U "_law_size" zA L)(co:dJ U "_law_near" vS M)(cr:dJ U "_law_odd" yl N)(cs:dJ U "_law_grown" A_ O)(db:dJ U "_law_made" zy P)(ds:dJ U "_law_field" zF Q)(dL:dJ U "_law_lanes" zU R)(eq:dJ U "_law_makes_even" vg S)(ev:dJ U "_law_small" AH al)(ex:dJ U "_law_least" z1 am)(o:dJ U "law" vt an)(fn:Ξ U d9 "MOST" = Z (Z<|.int 14 l))(fr:Ξ U d9 "abs" = Z V)(f0:Ξ U d9 "dict" = Z V)(f1:Ξ U d9 "int" = Z V)(f2:Ξ U d9 "isinstance" = Z V)(f4:Ξ U d9 "len" = Z V)(f8:Ξ U d9 "list" = Z V)(ga:Ξ U d9 "max" = Z V)(ge:Ξ U d9 "min" = Z V)(gl:Ξ U d9 "range" = Z V)(go:Ξ U d9 "set" = Z V)(gt:Ξ U d9 "sorted" = Z V)(g1:Ξ U d9 "sum" = Z V)(g2:Ξ U d9 "tuple" = Z V):
  ∃fd:gZ,(∀(m:au) (u:ag),nc m fd ⟨[u],[]⟩ [("_law_script",u)])/\∀X9:aV,U.In X9->X9.Ns d9 aJ->iH J.prog H U aJ X9 ih 20 k fd ["_law_script"] (kl 1 G.qR):=by
 have T:eI aJ:=⟨iM c a fr,iM c a f0,iM c a f1,iM c a f2,iM c a f4,iM c a f8,iM c a ga,iM c a ge,iM c a gl,iM c a go,iM c a gt,iM c a g1,iM c a g2,⟨l,pY c a fn⟩⟩;have h_w8:=n.e8 (XF:=["away","cells","other","known"]) c a;have h_w9:=bs.fO (XF:=["away","cells","known"]) c a;refine Wq o c a ap (λ_ Y Y Y Y Y Y Y=>.of_eq rfl) λX9=>?_;let f:eD:=⟨J.prog,H,U,aJ,X9⟩
 have g3:=Oz (f:=f) (as.c6 c a) T;have p:=Nv (f:=f) (a1.c2 c a) T;have e:=Ul (f:=f) (a2.c2 c a) T;have hd:=WD (f:=f) (bd.c6 c a) T e;have he:=R6 (f:=f) (be.fO c a) T p hd;have hf:=RS (f:=f) (bi.c6 c a) T e;have hm:=M4 (f:=f) (bm.c6 c a) T hf;have hw:=Q6 (f:=f) (bn.fO c a) T;have h0:=JS (f:=f) h_w9 T (n.e8 c a) hw 8;have ii:=MD (f:=f) (bv.fO c a) T he;have im:=Ng (f:=f) (ca.c6 c a) T e g3;have io:=Wy (f:=f) (cd.fO c a) T ii hm p h0 im;have it:=Sv (f:=f) (ce.c2 c a) T;have d:=L_ (f:=f) (ch.c6 c a) T;have g:=NF (f:=f) (ci.c6 c a) T d;have jp:=S_ (f:=f) (cl.fO c a) T d;have h:=Vf (f:=f) (co.c6 c a) T;have i:=Rh (f:=f) (cr.fO c a) T h;have kt:=O7 (f:=f) (cs.c6 c a) T g d;have kv:=L5 (f:=f) (db.c2 c a) T d kt jp;have kw:=N9 (f:=f) (ds.c6 c a) T kv d g h i;have j:=Si (f:=f) (dL.c2 c a) T;have lc:=Wj (f:=f) (eq.e8 c a) T i;have lf:=Vz (f:=f) (ev.c2 c a) T kw d h j;have li:=Wo (f:=f) (ex.fO c a) T i j;exact KV (f:=f) (o.c2 c a) T it lf j g io lc li
def walk{s:bB}{d:List aD}{f:(aD->Option ag)->aV->Prop}{a:a9->aV->Prop}{r:DefRec}{U:tT->Φ}(h:J.most=Z 63)(k:r.params.defaults=[])(l:∀(H:a9) (b:aV),a H b->(U H.params).In b)(o:∀n,sD (U n)=aa)(N:∀(H:a9) (aJ:aD->Option ag) (c:aq) (b:aV),(U H.params).In b->b.Ns d9 aJ->aJ r.name=Z (.ref c)->
   ∃fd:gZ,(∀(m:au) (I:ag),nc m fd ⟨[I],[]⟩ [("_law_script",I)])/\∀X9:aV,(U H.params).In X9->X9.Ns d9 aJ->iH J.prog H (U H.params) aJ X9 ih 20 c fd ["_law_script"] (kl 1 G.qR)):
  PySem.W.WalkO s d f a J.row.toRowW r [] (λF Q=>PySem.call F Q):=
 L2.N6 (v:=63) (q:=20) (e := "_law_script") (YR:=λ_=>ih) (YT:=λH=>kl 1 G.qR) h ∅ k ⟨rfl,by decide,by decide,rfl⟩ l N (λH j g XY p t u=>Uu (o H.params) j g XY t u (G.RY XY (uK p ∅))) λ_ Y Y Y Y i=>i
end K19
namespace PySem.W.Fast
def tw841989897259271075:=(0)
def tw2317273176718607008:=(0)
def tw18292199118765929216:=(0)
def tw12482895692022418336:=(0)
def tw14506227432888663393:=(0)
def tw6335367495762735585:=(0)
def tw2418907222845901313:=(0)
def tw9553708896192448002:=(0)
def tw13239518808534245250:=(0)
def tw13338187254521335682:=(0)
def tw4611266966723224450:=(0)
def tw15212869529624706467:=(0)
def tw7919070369065208675:=(0)
def tw251640601703778468:=(0)
def tw2620041574999929157:=(0)
def tw12581701376974107973:=(0)
def tw14836588385417421157:=(0)
def tw18259925456449923845:=(0)
def tw15825470918897036069:=(0)
def tw6455569688293997541:=(0)
def tw9963355391574243398:=(0)
def tw15693354462010940102:=(0)
def tw14300154815404082631:=(0)
def tw6029735075112706823:=(0)
def tw14251758200983853895:=(0)
def tw9205581303318456231:=(0)
def tw7026443617395915528:=(0)
def tw13812117882748399977:=(0)
def tw14945135292925165033:=(0)
def tw610438155546566377:=(0)
def tw8502611118004355114:=(0)
def tw7807080880147486890:=(0)
def tw13157217648891441354:=(0)
def tw153567189315880810:=(0)
def tw4758752395804324746:=(0)
def tw11360953219574129739:=(0)
def tw14676146795216440395:=(0)
def tw590968033931929932:=(0)
def tw4366731573996445292:=(0)
def tw5173218189831271276:=(0)
def tw15109466922456631565:=(0)
def tw1726886477144170765:=(0)
def tw6855067441433983757:=(0)
def tw5595192012773456813:=(0)
def tw11995782559943641037:=(0)
def tw3215890004436806830:=(0)
def tw4998789625299946798:=(0)
def tw9666312728647760334:=(0)
def tw17072668983161033230:=(0)
def tw3181216150686048046:=(0)
def tw1456264260134127502:=(0)
def tw923567733681135631:=(0)
def tw18413600105409201199:=(0)
def tw16091120557773653039:=(0)
def tw10799769461327513743:=(0)
def tw11298257478056342959:=(0)
def tw15719572154844516207:=(0)
def tw1826358293838659600:=(0)
def tw11643381005699126320:=(0)
def tw5236059406474558576:=(0)
def tw11400488742008512016:=(0)
def tw11923816814332227120:=(0)
def tw10104353700602314352:=(0)
def tw11079674457306851152:=(0)
def tw4282150761230424145:=(0)
def tw11382489198084541745:=(0)
def tw10351110366328490545:=(0)
def tw13138409884828359409:=(0)
def tw16631929734093792081:=(0)
def tw12255236622902067089:=(0)
def tw15278102082703758610:=(0)
def tw13810620375957352114:=(0)
def tw17389757268014828466:=(0)
def tw17256892289337066835:=(0)
def tw6805488733918985939:=(0)
def tw15320257682047566739:=(0)
def tw1127651676829599380:=(0)
def tw1137230736294552404:=(0)
def tw11775394133267067860:=(0)
def tw5163905020840115317:=(0)
def tw14400246470194763477:=(0)
def tw4561078351123871798:=(0)
def tw5980766305846467926:=(0)
def tw14336994798195516982:=(0)
def tw9760352044224909527:=(0)
def tw9741516900888051095:=(0)
def tw7647626516149086167:=(0)
def tw2507901431081625912:=(0)
def tw3395736276089779800:=(0)
def tw1563265648838913656:=(0)
def tw17502688989129029753:=(0)
def tw14772796144327565721:=(0)
def tw13147926877770062457:=(0)
def tw6350993449636948601:=(0)
def tw3183582453995018458:=(0)
def tw6143345727436984634:=(0)
def tw10816176204218898938:=(0)
def tw10983580882558476922:=(0)
def tw16525710770929060858:=(0)
def tw15271135429018088955:=(0)
def tw9473549399193577147:=(0)
def tw9724188676250606267:=(0)
def tw9880984706673314523:=(0)
def tw11828125417870596252:=(0)
def tw6706278152534943100:=(0)
def tw16644769874862283324:=(0)
def tw1239106898369788508:=(0)
def tw2105100700173822620:=(0)
def tw4599758716326612732:=(0)
def tw511513986042946428:=(0)
def tw17792984113228300381:=(0)
def tw15124720155499867358:=(0)
def tw3048163795101271294:=(0)
def tw6126345989767123710:=(0)
def tw10157854950533027646:=(0)
def tw1536413339307681630:=(0)
def tw15937892366156777374:=(0)
def tw9717445413758479326:=(0)
def tw12297684801169560991:=(0)
def tw12194500185282850239:=(0)
def tw3736324785396367935:=(0)
def tw5345553299355704287:=(0)
end PySem.W.Fast
end
open PySem PySem.W PyProof.Rows
set_option maxRecDepth 100000 in
set_option maxHeartbeats 0 in
theorem PySem.Challenge.cw_mowfloor_k19_again_by_all_lanes_holds : PySem.Challenge.rw_mowfloor_k19_again_by_all_lanes.Holds := by
  w_on; o_law; k_head; (case hw => w_witness2)
  k_fill
  refine K19.walk (J := PySem.Challenge.rw_mowfloor_k19_again_by_all_lanes) rfl rfl (fun w h Y => PySem.W.kIn_of Y) ?hK ?F
  case hK => intro p; rfl
  case F =>
    intro w mg fa h KX G hmg
    apply K19.all_mk KX G hmg
    iterate 27 (apply L2.Fw; iterate 4 k_is)
    iterate 14 k_is
