import PyProof.Rows.All
import Wide.All
import OpenK.AllK
import Wide.FinOn
import Lean
import PyProof.EqAt
import PyProof.EqKinds
import PyProof.TupleCall
import PyProof.Rows.SetFrom
import PyProof.WalksMore
import PyProof.IsiNone
import PyProof.NeKinds
import PyProof.MaxThree
import PyProof.CallStr
import KE.KRevIter
import PySem.Challenge.RW_mowfloor_k27_walks_along_all_lanes
set_option maxHeartbeats 4000000
set_option Elab.async false
set_option compiler.extract_closed false
set_option linter.all false
open List (range range' replicate)
open Array (toList)
noncomputable section
local macro_rules|`(∅)=>`(by decide)
local macro_rules|`(⇑$e)=>`(by simpa using $e)
local macro_rules|`(↥$_)=>`(by simp)
local macro_rules|`(tactic|let $p:term:=$e)=>do
 let q:=p.raw
 let X (s:Lean.Syntax):=s.isOfKind ``Lean.Parser.Term.explicit
 let I (s:String):=Lean.mkIdent (.mkSimple s)
 let l:=(if X q then q[1] else q)[1].getSepArgs
 let n:=l.size
 let j:=if X q then 0 else ((l.findIdx? X).map (·+1)).getD 99
 let mut b:Array Lean.Ident:=#[]
 let mut t:Array (Lean.TSyntax `tactic):=#[]
 let w:=I "ζ"
 let E:=e.raw
 let u:=E.getId
 let c:=j<99&&E.isIdent&&l.any fun s=>s.getId==u||s[1].getId==u
 let h:=I "ξ"
 let u:=u.toString
 let u:=if u.startsWith "ζ" then u else "ζ"
 let d:Lean.Term:=if c then h else e
 let r ←if c then `(tactic|(revert $(⟨e⟩):ident;intro $h:ident)) else `(tactic|skip)
 if j<99&&E.isIdent then t:=t.push (←`(tactic|try clear $(⟨d⟩):ident))
 for i in [0:n] do
  let s:=if i+1==j then l[i]![1] else l[i]!
  let z:=I s!"{u}{i}"
  if s.isIdent&&(j==99||s.getId != `rfl) then b:=b.push ⟨s⟩
  else
   b:=b.push z
   if s.isIdent then t:=t.push (←`(tactic|subst $z))
   else if !s.isOfKind ``Lean.Parser.Term.hole then t:=t.push (←`(tactic|let $(⟨s⟩):term:=$z))
 let A:=b.extract j n
 let B:=b.extract 0 j
 let k:=I s!"xE{j}"
 if j==99 then `(tactic|(obtain ⟨$[$b:ident],*⟩:=$e;$t;*)) else if j==0 then `(tactic|($r;refine $(I s!"xA{n}") ($d :) fun $b* =>?_;$t;*)) else if j+1==n then `(tactic|($r;refine $k ($d :) fun $b* =>?_;$t;*)) else `(tactic|($r;refine $k ($d :) fun $B* $w=>?_;refine $(I s!"xA{n-j}") $w fun $A* =>?_;clear $w;$t;*))
local macro_rules|`(command|def $i:declId $s:optDeclSig:=$v)=>if v.raw.isOfKind ``Lean.Parser.Term.paren then `(command|noncomputable def $i $s:optDeclSig:=$v) else (·.raw.rewriteBottomUp (·.setInfo .none))<$>`(command|theorem $i $(⟨.node .none ``Lean.Parser.Command.declSig #[s.raw[0],s.raw[1][0]]⟩):declSig:=$v)|`(command|def $i:declId $s:optDeclSig $v:matchAlts)=>`(command|noncomputable def $i $s:optDeclSig $v:matchAlts)|`(command|@[simp] def $i:declId $s:optDeclSig:=$v)=>`(command|@[simp] noncomputable def $i $s:optDeclSig:=$v)|`(command|@[simp] def $i:declId $s:optDeclSig $v:matchAlts)=>`(command|@[simp] noncomputable def $i $s:optDeclSig $v:matchAlts)|`(command|abbrev $i:declId $s:optDeclSig:=$v)=>`(command|noncomputable abbrev $i $s:optDeclSig:=$v)
local macro_rules|`(⋯)=>`(by lia)
open PySem renaming wpAny_bind->aC,wpAny_pure->a5,wpAny_holding->fI,wpAny_newObj_type->hE,wpAny_seqItems->hH,wpAny_callSpecial?_slot->ll,codeAny_builtin->iL,wpAny_call_entry->jm,plainId_quiet->hK,wpAny_mono->hg,wpAny_truthy_bool->lY,wpAny_field->hO,wpAny_typeNameOfWhole_keyiter->t_,wpAny_letGo->jH,wpAny_tryCatch->l7,wpAny_setField_rec->o4,wpAny_specialOf->nJ,wpAny_passesOwn->nW,wpAny_updateSeq->nO,wpAny_pyIter_list->pH,wpAny_rule->lI,wpAny_forIn_list->qb,wpAny_Call_Name_kw->tv,call_meets->m_,wpAny_dictEntries->tu,builtinLookup_eq_fast->yj,wpAny_isInstance->vT,wpAny_standAt->sr,wpAny_attempt->rD,wpAny_updateSeq_pair->yw,wpAny_execs_nil->sD,call_meetsIn->rU,wpAny_setField->tT,wpAny_of_eq->rZ,wpAny_onRaise->uC,noFill_tuple_add->y6,wpAny_pyNext_list_item->BJ,wpAny_Call_method_late->CH,richCompare_meets_room->FE,wpAny_dictEpoch->zB,typeLookup_type->xE,wpAny_pyNext_list_end->BK,wpAny_notOrdered_dict->Dk,wpAny_isOneOf_keyiter->GB,wpAny_loadName_local->JS,sizeLine_eq->uR,seqIndex_of->uZ,wpAny_pyIter_keyiter->Jj,wpAny_loadName_cell->Gi,seq_tuple_add->xR,wpAny_newList->xT,wpAny_dictSet_heap->DP,call_function_tree->Dv,eqIsQuiet_byValue->He,wpAny_assign_Name->F2,codeAny_mono->zF,concat_meets->yb,wpAny_sequenceKey->Jl,seqIndex_neg->z8,slot_list_getitem->Gw,list_append->Jf,wpAny_Call_method->Cx,wpAny_pyHash_int->C4,wpAny_pyHash_str->Eo,wpAny_execs_cons->De,wpAny_pyIter_zip->Cv,wpAny_ret_mkInt->EJ,wpAny_Name->v7,wpAny_bindName->Im,typeIs_str->yZ,wpAny_fieldsOf->Bs,isSubtype_stop->DD,wpAny_newTuple->AU,callType_codes->Dr,evalPart_none->HX,wpAny_handled->Gr,intBits_le_64->FH
open Option renaming bind_eq_some_iff->bq,map_eq_some_iff->ck,bind_some->pV,map_some->qv,isSome_map->u_,getD_some->uB,getD_none->CZ
open List renaming length_map->br,append_assoc->bV,getD_eq_getElem?_getD->de,map_cons->bH,append_nil->b4,mem_cons->bR,length_cons->cn,size_toArray->cK,mem_singleton->cR,length_append->cZ,nodup_append->c4,perm_append_comm->ea,mem_append_left->eb,mem_append_right->er,mem_map->cL,getElem?_eq_getElem->fj,pairwise_singleton->e4,nodup_cons->dD,getElem?_eq_some_iff->fM,mem_append->d8,length_singleton->fP,map_congr_left->gr,map_map->es,length_nil->fy,mem_filter->fE,getElem?_map->gC,drop_eq_getElem_cons->j6,lookup_cons->gX,find?_cons->gH,pairwise_cons->h1,length_filter_le->j_,nodup_nil->ht,sum_cons->g0,countP_cons->iN,mem_cons_of_mem->kL,pairwise_map->jI,length_pos_iff->kU,map_append->iM,mem_of_getElem?->lg,all_eq_true->k5,drop_of_length_le->n9,mem_range->j4,any_cons->jq,foldl_cons->kH,count_pos_iff->mQ,mem_cons_self->md,cons_append->lJ,getElem?_set_ne->n6,length_drop->l6,not_mem_nil->lE,filter_cons_of_neg->p5,length_range->mj,exists_cons_of_ne_nil->qP,getElem?_append_left->r_,any_eq_true->mR,eq_nil_of_length_eq_zero->vv,filter_cons_of_pos->rA,mem_nil_iff->nC,getElem?_append_right->sR,eq_nil_or_concat->sv,pairwise_iff_getElem->vB,nil_append->nh,flatMap_cons->oM,length_erase_of_mem->uO,mem_flatMap->pL,ne_nil_of_mem->qF,getElem?_set_self->tR,take_of_length_le->tP,length_pos_of_mem->tW,concat_eq_append->sH,reverse_cons->qi,perm_ext_iff_of_nodup->w3,length_take->rB,getElem_mem->rM,filter_cons->ry,cons_ne_nil->sz,getLast?_singleton->yM,map_id->oB,length_eq_zero_iff->w4,drop_zero->r0,take_succ_eq_append_getElem->A0,eraseIdxIfInBounds_toArray->E0,dropLast_eq_take->yu,any_toArray->ud,getLast?_append->w6,length_dropLast->xq,mem_iff_getElem->xg,forIn_cons->uL,length_zip->tY,countP_eq_length_filter->H9,filterMap_cons->xf,length_reverse->wB,map_eq_nil_iff->xV,set_set->qT,lookup_append->xj,nodup_iff_pairwise_ne->J9,count_singleton_self->Fl,getLast?_eq_getElem?->JE,getElem?_zip_eq_some->FQ,count_append->AF,ext_getElem?->wI,countP_congr->Aw,eraseIdx_cons_succ->Jv,getElem?_cons_zero->Hl,getElem?_cons_succ->D9,any_map->tf,of_mem_zip->wU,length_set->zk,getElem?_eq_none->Hr,getElem?_toArray->AX,mem_of_mem_erase->EG,perm_cons_erase->JO,length_eraseIdx->EM,nodup_iff_count->C9,mem_erase_of_ne->Cu,filter_eq_self->CP,countP_eq_zero->Br,set_comm->zz,count_eq_zero->JP,mem_filterMap->FJ,all_map->zM,filter_congr->CI,getElem_inj->BG,zipIdx_cons->DH,take_length->Hf,ext_getElem->CW,getElem_map->FI,head?_cons->Es,zipIdx_nil->Gb,count_cons->C2,forIn_nil->GG,take_zero->Ff,map_nil->Fv,not_lt->Gl
open PySem.Heap renaming get?_push_of_some->cu,get?_push_size->dx,lt_size->b9,get?_update_other->iC,size_push->jj,get?_update_self->oA,get?_none_of_le->z0
open Nat renaming le_refl->bB,le_of_ble_eq_true->fg,lt_of_lt_of_le->eV,ne_of_lt->dE,le_trans->dN,zero_le->fW,lt_irrefl->iF,ne_of_gt->lT,lt_or_ge->mg,zero_add->oo,lt_succ_self->rW,le_add_right->sq,add_lt_add_iff_right->yE,min_eq_left->qm,add_assoc->qn,le_of_lt->rb,le_succ_of_le->ys,le_of_not_lt->ym,min_eq_right->yc,add_zero->vx,add_comm->uJ,sub_zero->vs,lt_of_le_of_lt->C1,min_self->zd,min_le_right->CK,succ_le_succ->H2,le_antisymm->DN,lt_trans->Ez,le_succ->Fn,le_zero->E4,not_lt->F9
open Bool renaming and_eq_true->cI,false_ne_true->dw,false_eq_true->jT,eq_iff_iff->n_,not_eq_true'->uX,and_true->vD,false_or->yl,or_eq_true->HD,false_and->JW,and_false->EA,xor_false->C5,not_true->HI,xor_self->Hw
open List.Perm renaming append_left->fC,append_right->gc,map->AM,eq_of_pairwise->Mv
open PySem.PassesOwn renaming never->e5
open PySem.F renaming plainAttrs_list->ib,slot_list_append->k4,type_list_append->k2,slot_dict_keyiterator_next->rl,slot_dict_get->oV,plain_min_loop->mu,slot_tuple_iterator_next->u5,entry_dict_get->vr,slot_list_pop->tJ,type_list_pop->vA,args_tuple_add_2->w7,slot_list_getattribute->yn,slot_list_extend->vY,type_list_extend->v_,entry_tuple_add->xJ,slot_tuple_hash->vc,slot_tuple_add->yV,args_dict_keyiterator_next_1->II,entry_min_loop->sP,entry_dict_keyiterator_next->Cn,args_tuple_iterator_next_1->B2,slot_zip_next->va,entry_tuple_iterator_next->Eh,slot_dict_getitem->DU,args_dict_get_2->HJ,args_dict_get_3->BD,plainAttrs_dict->A3,type_dict_get->Dp,args_list_append_2->BQ,called_tuple->z1,entry_list_append->BF,slot_list_append->Hv,slot_tuple_count->Bv,args_zip_next_1->Hu,plain_list_iadd->Co,plain_tuple_new->Fq,plainAttrs_list->Ex,entry_list_pop->CO,slot_dict_iter->FC,entry_zip_next->BC,slot_list_pop->IL,slot_dict_len->G5,plain_min->Bw,entry_min->I7,kind_min->Je
open Array renaming length_toList->ha,getElem?_toList->hX,toArray_toList->xv,getD_eq_getD_getElem?->Jn,perm_iff_toList_perm->CM,getElem?_eq_getElem->HB,getElem_toList->I1,forIn_toList->Dj,getElem_mem->I4
open PySem.W renaming kasC_bind->d5,mg_none_of->iZ,kasC_pure->fb,mg_of->oU,kasC_range->oI,kasC_get->oD,kasC_cons->pT,cellsFrom_some->E3,kasC_modify->tQ,kat_item->sW,kas_swaps_map->HH,kasC_lift->xu,kat_kind->xx
open PySem.Around renaming under_plainId->iO
open Ne renaming symm->dY
open PyProof.Rows renaming slot_tuple_getitem->o1,callWith_type1->pX,assignInOrder_cons->x9,subscriptTail_builtinR->Cm,entry_tuple_getitem->EI,args_tuple_getitem->DA,assignInOrder_nil->Cz,callWith_builtin1->TY,get?_update_seq->FU,entry_list_sort->H_,slicePart_none->Di,Subscript_->wA,slot_list_sort->Jd,args_list_sort->I6,tupleItemsOf_->C0,listUpdate_at->A8,plain_sorted->Bj,entry_sorted->BE,args_sorted1->Hs,ints_map->wY,lt_int->Sr,gt_int->RJ
open Int renaming le_refl->g_,emod_lt_of_pos->lV,emod_nonneg->kk,toNat_natCast->oc,add_sub_cancel->tU,mul_le_mul_of_nonneg_right->Ha,le_of_lt->vw,sub_add_cancel->BN,ediv_nonneg->BZ,natCast_add->BX,mul_le_mul->EK,lt_irrefl->G0,mul_one->HU,mul_pos->Dn
open PySem.Calls renaming callWith_builtin->qx,spliced_cons->qw,evalArgs_plain->sG,call_function_entry->Ao,spliced_nil->uj,Name_function_global->CQ
open PySem.MeetsSeq renaming plain_remove_loop->uY,entry_remove_loop->DZ
open List.Pairwise renaming imp_of_mem->uK,map->tj,filter->Qr,imp₂->K1
open Prod renaming ext_iff->mV,ext->m4
open PySem.Heap.SameBut renaming update->uf
open PySem.Obj renaming data_mapFields->vM,isFreed_of_fields->Ho,cls_mapFields->Bl
open Decidable renaming byContradiction->CJ
open PySem.AutoSeq1 renaming sub_tuple_tuple->Fh
open PySem.W.Looks renaming of_pure->wX
open PySem.SeqAt.EqAt renaming int_str->DF,str_int->Ih,none_tuple->KN,bool_tuple->SX,tuple_none->M9,tuple_bool->Km,none_bool->Lq,bool_none->P8,bool_bool->QV,int_tuple->SQ,str_tuple->RX,tuple_int->LX,tuple_str->Sb,none_int->Sv,none_str->QG,bool_int->Mq,bool_str->LA,int_none->SV,int_bool->MG,str_none->Ms,str_bool->Lg,int_int->Qh,str_str->Mm,of_refs->KH
open PySem.SeqAt.RcAt renaming tuples->CV,lists_lengths->Uq,none_tuple->R8,bool_tuple->OW,tuple_none->ON,tuple_bool->K_,none_none->Nx,none_bool->LF,bool_none->Ma,bool_bool->Td,int_tuple->Kr,str_tuple->Rt,tuple_int->KU,tuple_str->Mh,none_int->Of,none_str->P0,bool_int->PJ,bool_str->J_,int_none->PU,int_bool->MM,str_none->Po,str_bool->Nv,int_int->KL,int_str->Nh,str_int->Nn,str_str->LM,lists->UR
open PySem.IsL renaming update->HA
open PySem.SeqAt.RcNeAt renaming lists_lengths->Sn,none_tuple->Ol,bool_tuple->RQ,tuple_none->NN,tuple_bool->OJ,none_none->Ra,none_bool->O1,bool_none->Om,bool_bool->QF,int_tuple->Kc,str_tuple->Ks,tuple_int->SA,tuple_str->Li,none_int->Kv,none_str->Ug,bool_int->K7,bool_str->M8,int_none->Mx,int_bool->N0,str_none->KA,str_bool->Rr,int_int->UJ,int_str->Rj,str_int->SR,str_str->Ut,tuples->U0,lists->OC
open PyProof.Rows.LSm renaming kept_iter->Ck
open Option renaming some->Z,none->X
open PySem renaming Scope->gq,Str->aF,Heap->a4,Value->ah,Sem->fK,Addr->au,Pos->cw,Stmt->cg,CmpOp->kN,Expr->a7,Obj->ba,Shared->aw,Around->bz,World->bf,Program->bu,reduceHash->yO,Builtin->bo,cLine->bN,model->aT,Tok->iE,Paired->dV,sysModules->iG,mainGlobals->ec,builtinsNs->tF,bootBuiltins->fw,Env->eN,GenState->pE,Model->mr,storeName->Ar,eval->bM,isTrue->n5,backTo->eF,starEach->bA,swapsWith->oC,assign->ij,assignInOrder->vL,assignEach->fo,setItem->ph,Operator->l2,inplaceOp->xr,swapsWithSole->uV,swappedStores->vF,unpackItems->yy,bindName->vU,PassesOwn->qN,pyNext->gP,letOwnedTupleGo->qM,pyIter->ts,rawInt->j9,Walks->ka,foldedSetIterable->mZ,truthy->tK,binaryOp->gk,compareOp->eL,behindInMarks->oX,recursionLimit->EY,Result->pI,FuncData->hj,BindsTo->my,bindArgs->kz,Keyword->h5,NameKind->c3,cellsFrom->w2,richCompare->k1,IsPart->kG,getItem->km,typeLookup->ro,seqIndex?->zW,sliceBounds->nE,PlainAttrs->vP,Slot->oE,typeOf->mI,attributeBase->kr,backToKw->nH,keywordEach->nM,valueAt->ni,atKey->lL,Params->vq,callerA->oG,DictEntry->xe,cellOf->sJ,compEnvC->uU,newFunctionEnv->Eb,comprehension->vX,newList->qR,newExc->ub,newTuple->zC,firstArgMember->tI,field->mJ,seqItems?->mx,ZipApart->uA,IsZip->jM,IsPair->iv,Meets->sf,shortFactorBits->tB,getattributeRaised->JX,entryFor->z5,updateSeq->uP,PyData->rK,ItemsOf->rV,argBest->fS
open Bool renaming true->ab,false->az
open PyProof.Rows renaming IsTup->nS,AllBare->l9,envOfC->jl,subscriptTail->w1,IntsAre->so,bubble->rh,SortKind->gG,Keyed->iK,SortSt->e1,arrOf->lP,pendingOf->mT,failedOf->o7,ltAt'->nX,reverseSlice'->rv,setPending->zq,seqObj->gE,keyKind'->yx,tuples'->qE
open PySem.W renaming WData->sb,WShape->rn,kas_rev->me,kas_cmp->iA,kas_item->jA,Frag->Φ,fnOf->Ψ,nsIn->Ξ,keepIn->Θ,codeIn->Δ,methodObj->Γ
open PySem
abbrev aH:=@if_pos
abbrev bW:=@decide_eq_true
abbrev e_:=@of_decide_eq_true
abbrev fu:=@decide_eq_true_iff
abbrev ix:=@decide_eq_decide
abbrev kD:=@beq_self_eq_true
abbrev fO:=@if_false
abbrev gB:=@if_true
abbrev jL:=@or_false
abbrev xX:=@beq_eq_false_iff_ne
abbrev Gq:=@decide_eq_false_iff_not
namespace d2
variable{af:Type}[DecidableEq af]
def pr(h d b i:af):Nat:=(if (h=b/\d=i)\/(h=i/\d=b) then 1 else 0)
def BM(h d b i:af):pr h d b i=pr d h b i:=by
 unfold pr;have:((h=b/\d=i)\/(h=i/\d=b))↔((d=b/\h=i)\/(d=i/\h=b)):=⟨λc=>c.elim (λk=>.inr ⟨k.2,k.1⟩) λk=>.inl ⟨k.2,k.1⟩,λc=>c.elim (λk=>.inr ⟨k.2,k.1⟩) λk=>.inl ⟨k.2,k.1⟩⟩;by_cases c:(h=b/\d=i)\/(h=i/\d=b)
 ·rw[aH c,aH<|this.mp c]
 ·rw[if_neg c,if_neg λk=>c<|this.mpr k]
def NH(h d:af):pr h d h d=1:=aH (.inl ⟨rfl,rfl⟩)
def ce:List af->af->af->Nat
 |h::d::p,b,i=>pr h d b i+ce (d::p) b i
 |_,_,_=>0
theorem sO(b i:af):∀(J:List af) (h:af) (M:List af),ce (J++h::M) b i=ce (J++[h]) b i+ce (h::M) b i
 |[],h,M=>by
  show ce (h::M) b i=0+ce (h::M) b i;rw[oo]
 |[d],h,M=>by
  show pr d h b i+ce (h::M) b i=pr d h b i+0+ce (h::M) b i;rw[vx]
 |d::f::J,h,M=>by
  show ce (d::f::(J++h::M)) b i=ce (d::f::(J++[h])) b i+_;rw[ce,ce];have:=sO b i (f::J) h M;simp only[lJ]at this;omega
def vI(b i:af)(J:List af)(h d:af):ce (J++[h,d]) b i=ce (J++[h]) b i+pr h d b i:=by
 rw[sO b i J h [d]];show _+(pr h d b i+ce [d] b i)=_;rw[show ce [d] b i=0 from rfl,vx]
theorem DL(b i:af):∀J:List af,ce J.reverse b i=ce J b i
 |[]=>rfl
 |[h]=>rfl
 |h::d::p=>by
  rw[qi,qi,bV];show ce (p.reverse++[d,h]) b i=_;rw[vI,<-qi,DL b i (d::p),ce,BM d h];omega
def Oy{J:List af}{b i:af}(c:1<=ce J b i):b∈J/\i∈J:=by
 induction J with
 |nil=>exact absurd c (by show ¬ 1<=0;omega)
 |cons h p a=>
  cases p with
  |nil=>exact absurd c (by show ¬ 1<=0;omega)
  |cons d p=>
   rw[ce]at c;by_cases k:1<=ce (d::p) b i
   ·have:=a k;exact⟨.tail _ this.1,.tail _ this.2⟩
   ·unfold pr at c;split at c
    ·rename_i u;rcases u with u|u
     ·exact⟨u.1 ▸ .head _,u.2 ▸ .tail _ (.head _)⟩
     ·exact⟨u.2 ▸ .tail _ (.head _),u.1 ▸ .head _⟩
    ·omega
def L0(b i:af)(I M r:List af):ce M b i<=ce (I++M++r) b i:=by
 cases M with
 |nil=>exact fW _
 |cons h M=>
  rw[bV,lJ,sO];have:ce (h::M) b i<=ce (h::(M++r)) b i:=by
   rcases sv M with rfl|⟨a,f,rfl⟩
   ·exact fW _
   ·rw[sH];have:=sO b i (h::a) f r;simp only[lJ,bV,nh]at this ⊢;omega
  omega
def lk(z:List af)(h b i:af):Nat:=(match z.getLast? with
 |none=>0
 |some C=>pr h C b i)
structure gL(VP:af->af->Nat)(W:af->List af)(WL:List af)(f:af)(z:List af)(m k h:af):Prop where
 sym:∀b i,(W b).count i=(W i).count b
 cv:∀b,b∉W b
 cnt:∀b i,VP b i=(W b).count i+ce (WL++[f]) b i+ce z b i+lk z h b i
 par:∀b,(W b).length%2=1↔¬ (b=h↔b=f)
 st:z=[]->h=k
 hd:(WL++[f]).head?=Z m
 kQ:∀b∈z,W b=[]
 Ag:z≠[]->z.head?=Z k
variable{VP:af->af->Nat}{W:af->List af}{WL:List af}{f d:af}{z:List af}{m k h:af}{J:List af}
def lh(W:af->List af)(f d:af)(J M:List af):af->List af:=(λb=>if b=f then J else if b=d then M else W b)
def gL.push(V2:gL VP W WL f z m k h)(c:W f=J++[d]):f∈W d/\d≠f/\gL VP (lh W f d J<|(W d).erase f) (WL++[f]) d z m k h:=by
 have n:d≠f:=λa=>V2.cv f (by rw[c,a];simp);have j:f∈W d:=by
  rw[<-mQ,V2.sym d f,c,AF,Fl];omega
 have V_:∀b i,(W b).count i=(lh W f d J ((W d).erase f) b).count i+pr f d b i:=λb i=>by
  unfold lh;by_cases g:b=f
  ·subst g;rw[aH rfl,c,AF];unfold pr;by_cases e:i=d
   ·subst e;rw[Fl,aH<|.inl ⟨rfl,rfl⟩]
   ·rw[List.count_singleton,if_neg ⇑(λk=>e k.symm),if_neg];rintro (k|k)
    ·exact e k.2.symm
    ·exact n k.2
  ·rw[if_neg g];by_cases e:b=d
   ·subst e;rw[aH rfl];unfold pr;by_cases o:i=f
    ·subst o;rw[List.count_erase_self,aH<|.inr ⟨rfl,rfl⟩];have:=mQ.mpr j;omega
    ·have v:¬ ((f=b/\b=i)\/(f=i/\b=b)):=λk=>k.elim (λk=>g k.1.symm) λk=>o k.1.symm;rw[List.count_erase_of_ne o,if_neg v];omega
   ·rw[if_neg e];unfold pr;rw[if_neg]
    ·omega
    ·rintro (k|k)
     ·exact g k.1.symm
     ·exact e k.2.symm
 refine⟨j,n,⟨λb i=>?_,λb r=>?_,λb i=>?_,λb=>?_,V2.st,?_,λb r=>?_,V2.Ag⟩⟩
 ·have Wo:=V_ b i;have Wq:=V_ i b;have w:=V2.sym b i;have x:pr f d b i=pr f d i b:=by
   unfold pr;by_cases k:(f=b/\d=i)\/(f=i/\d=b)
   ·rw[aH k,aH k.symm]
   ·rw[if_neg k,if_neg λu=>k u.symm]
  omega
 ·have:=V_ b b;have t:(W b).count b=0:=JP.mpr (V2.cv b);have y:=mQ.mpr r;omega
 ·have Wo:=V_ b i;have Wq:=V2.cnt b i;rw[show WL++[f]++[d]=WL++[f,d] by simp,vI];omega
 ·have q:=V2.par b;have s:((W d).erase f).length=(W d).length-1:=uO j;have A:1<=(W d).length:=kU.mpr (qF j);unfold lh;by_cases g:b=f
  ·subst g;rw[aH rfl];rw[c,cZ,fP]at q;have u:¬ b=d:=λk=>n k.symm;by_cases k:b=h
   ·have:¬ ((J.length+1)%2=1):=λp=>q.mp p ⟨λ_=>rfl,λ_=>k⟩;exact⟨λ_ C=>u<|C.mp k,λ_=>by omega⟩
   ·have:(J.length+1)%2=1:=q.mpr λC=>k (C.mpr rfl);exact⟨λp=>by omega,λC=>absurd ⟨λp=>absurd p k,λp=>absurd p u⟩ C⟩
  ·rw[if_neg g];by_cases e:b=d
   ·subst e;rw[aH rfl,s];by_cases k:b=h
    ·have:(W b).length%2=1:=q.mpr λC=>g (C.mp k);exact⟨λp=>by omega,λC=>absurd ⟨λ_=>rfl,λ_=>k⟩ C⟩
    ·have:¬ ((W b).length%2=1):=λp=>q.mp p ⟨λp=>absurd p k,λp=>absurd p g⟩;exact⟨λ_ C=>k<|C.mpr rfl,λ_=>by omega⟩
   ·rw[if_neg e];exact q.trans ⟨λC k=>C ⟨λp=>absurd (k.mp p) e,λp=>absurd p g⟩,λC k=>C ⟨λp=>absurd (k.mp p) g,λp=>absurd p e⟩⟩
 ·have:=V2.hd;cases WL<;>simpa using this
 ·have l:=V2.kQ b r;unfold lh;have g:b≠f:=λa=>by rw[a,c]at l;simp at l
  have e:b≠d:=λa=>by rw[<-a,l]at j;exact absurd j ↥0
  rw[if_neg g,if_neg e,l]
def gL.here(V2:gL VP W WL f z m k h)(c:W f=[]):f=h:=by
 have q:=V2.par f;rw[c]at q;exact CJ λk=>absurd (q.mpr λC=>k<|C.mpr rfl) ↥0
def gL.AR(V2:gL VP W WL f z m k h)(c:W f=[])(b i:af):ce (z++[f]) b i=ce z b i+lk z h b i:=by
 have a:=V2.here c;unfold lk;rcases sv z with rfl|⟨U,C,rfl⟩
 ·rfl
 ·rw[sH,bV];show ce (U++[C,f]) b i=_;rw[vI,w6,yM];show _=_+pr h C b i;rw[a,BM]
def gL.pop{d:List af}{o:af}(V2:gL VP W (d++[o]) f z m k h)(c:W f=[]):gL VP W d o (z++[f]) m k o:=by
 have a:=V2.here c;refine⟨V2.sym,V2.cv,λb i=>?_,λb=>?_,λk=>absurd k ↥0,?_,λb e=>?_,λ_=>?_⟩
 ·have s:=V2.cnt b i;rw[bV]at s;have Wq:ce (d++[o,f]) b i=ce (d++[o]) b i+pr o f b i:=vI ..;have g:=V2.AR c b i;have j:lk (z++[f]) o b i=pr o f b i:=by
   unfold lk;rw[w6,yM];rfl
  have s:VP b i=(W b).count i+ce (d++[o,f]) b i+ce z b i+lk z h b i:=s;omega
 ·have q:=V2.par b;rw[a]at q;exact q.trans ⟨λk=>absurd Iff.rfl k,λk=>absurd Iff.rfl k⟩
 ·have:=V2.hd;cases d<;>simpa using this
 ·rcases d8.mp e with k|k
  ·exact V2.kQ b k
  ·rw[cR.mp k];exact c
 ·cases z with
  |nil=>rw[nh,Es,a,V2.st rfl]
  |cons C z=>exact V2.Ag ↥0
inductive oi (VP:af->af->Nat) (m:af):af->Prop
 | self:oi VP m m
 | step {b i:af}:oi VP m b->1<=VP b i->oi VP m i
def gL.fin(V2:gL VP W [] f z m k h)(c:W f=[])(d:∀b i,1<=VP b i->oi VP m b):(z++[f]).head?=Z k/\(z++[f]).getLast?=Z m/\∀b i,VP b i=ce (z++[f]) b i:=by
 have a:=V2.here c;have VU:f=m:=by have:=V2.hd;simpa using this
 have kQ:∀b∈z++[f],W b=[]:=λb e=>by
  rcases d8.mp e with k|k
  ·exact V2.kQ b k
  ·rw[cR.mp k];exact c
 have s:∀b i,VP b i=(W b).count i+ce (z++[f]) b i:=λb i=>by
  have Wo:=V2.cnt b i;have Wq:=V2.AR c b i;have j:ce ([]++[f]) b i=0:=rfl;omega
 have all:∀b,oi VP m b->b∈z++[f]:=λb p=>by
  induction p with
  |self=>rw[VU];simp
  |step p l g=>
   rename_i b i;have:=s b i;rw[kQ b g]at this;exact (Oy (b:=b) (i:=i) (by simp at this;omega)).2
 refine⟨?_,?_,λb i=>?_⟩
 ·cases z with
  |nil=>rw[nh,Es,a,V2.st rfl]
  |cons C z=>exact V2.Ag ↥0
 ·rw[w6,yM,VU];rfl
 ·have u:=s b i;by_cases k:1<=VP b i
  ·rw[kQ b (all b<|d b i k)]at u;simpa using u
  ·omega
def gL.Pd(sym:∀b i,(W b).count i=(W i).count b)(cv:∀b,b∉W b)(jg:∀b,(W b).length%2=1↔¬ (b=k↔b=m)):gL (λb i=>(W b).count i) W [] m [] m k k:=
 ⟨sym,cv,λb i=>by show (W b).count i=(W b).count i+0+0+0;omega,jg,λ_=>rfl,rfl,λb a=>absurd a ↥0,λc=>absurd rfl c⟩
end d2
namespace d2
variable{af:Type}[DecidableEq af]{n:af}
def co(n:af):List af->Nat
 |h::d::p=>(if h=n\/d=n then 1 else 0)+co n (d::p)
 |_=>0
theorem qA:∀{e:List af}{d:af},e.Nodup->d∈e->(e.map λi=>if d=i then 1 else 0).sum=1
 |[],d,_,c=>absurd c ↥0
 |f::e,d,ae,c=>by
  have ae:=dD.mp ae;rw[bH,g0];by_cases a:d=f
  ·have:(e.map λi=>if d=i then 1 else 0).sum=0:=by
    have all:∀J:List af,d∉J->(J.map λi=>if d=i then 1 else 0).sum=0:=λJ=>by
     induction J with
     |nil=>exact λ_=>rfl
     |cons o J g=>
      intro b;rw[bH,g0,if_neg<|show ¬ d=o from λk=>b<|k ▸ .head _,g λk=>b<|.tail _ k]
    exact all e (a ▸ ae.1)
   rw[aH a,this]
  ·rw[if_neg a,qA ae.2<|(bR.mp c).resolve_left a,oo]
theorem sum_add{V7:Type}(z N:V7->Nat):∀J:List V7,(J.map λi=>z i+N i).sum=(J.map z).sum+(J.map N).sum
 |[]=>rfl
 |h::J=>by rw[bH,bH,bH,g0,g0,g0,sum_add z N J];omega
theorem Cw{V7:Type}:∀J:List V7,(J.map λ_=>0).sum=0
 |[]=>rfl
 |h::J=>by rw[bH,g0,Cw J]
end d2
variable{V7:Sort _}{u:Prop}
def xE1{q:V7->Prop}(c:∃h,q h)(s:∀h,q h->u):u:=have ⟨h,k⟩:=c;s h k
variable{WQ:Sort _}
def xE2{q:V7->WQ->Prop}(c:∃h d,q h d)(s:∀h d,q h d->u):u:=have ⟨h,d,k⟩:=c;s h d k
variable{Xj:Sort _}
def xE3{q:V7->WQ->Xj->Prop}(c:∃h d f,q h d f)(s:∀h d f,q h d f->u):u:=have ⟨h,d,f,k⟩:=c;s h d f k
variable{Xk:Sort _}
def xE4{q:V7->WQ->Xj->Xk->Prop}(c:∃h d f o,q h d f o)(s:∀h d f o,q h d f o->u):u:=have ⟨h,d,f,o,k⟩:=c;s h d f o k
variable{Xl:Sort _}
def xE5{q:V7->WQ->Xj->Xk->Xl->Prop}(c:∃h d f o a,q h d f o a)(s:∀h d f o a,q h d f o a->u):u:=have ⟨h,d,f,o,a,k⟩:=c;s h d f o a k
variable{Xm:Sort _}
def xE6{q:V7->WQ->Xj->Xk->Xl->Xm->Prop}(c:∃h d f o a z,q h d f o a z)(s:∀h d f o a z,q h d f o a z->u):u:=have ⟨h,d,f,o,a,z,k⟩:=c;s h d f o a z k
def xE9{b:Sort _}{Wh:Sort _}{e:Sort _}{q:V7->WQ->Xj->Xk->Xl->Xm->b->Wh->e->Prop}(c:∃h d f o a z N j A,q h d f o a z N j A)(s:∀h d f o a z N j A,q h d f o a z N j A->u):u:=have ⟨h,d,f,o,a,z,N,j,A,k⟩:=c;s h d f o a z N j A k
variable{h d:Prop}
def xA2(c:h/\d)(s:h->d->u):u:=s c.1 c.2
variable{f:Prop}
def xA3(c:h/\d/\f)(s:h->d->f->u):u:=s c.1 c.2.1 c.2.2
variable{o:Prop}
def xA4(c:h/\d/\f/\o)(s:h->d->f->o->u):u:=s c.1 c.2.1 c.2.2.1 c.2.2.2
variable{a:Prop}
def xA5(c:h/\d/\f/\o/\a)(s:h->d->f->o->a->u):u:=s c.1 c.2.1 c.2.2.1 c.2.2.2.1 c.2.2.2.2
variable{z:Prop}
def xA6(c:h/\d/\f/\o/\a/\z)(s:h->d->f->o->a->z->u):u:=s c.1 c.2.1 c.2.2.1 c.2.2.2.1 c.2.2.2.2.1 c.2.2.2.2.2
def xA8{N j:Prop}(c:h/\d/\f/\o/\a/\z/\N/\j)(s:h->d->f->o->a->z->N->j->u):u:=s c.1 c.2.1 c.2.2.1 c.2.2.2.1 c.2.2.2.2.1 c.2.2.2.2.2.1 c.2.2.2.2.2.2.1 c.2.2.2.2.2.2.2
set_option maxRecDepth 100000
namespace L2
open Spec PyProof.Rows
variable{Wa:gq}{WT b:aF}{Wj c:a4}{aL:aF->Option ah}{VV Wm:List aF}{z:ah->ah->fK ah}{b_ WZ:List au}{q W9 V3:cw}{Xb:List cg}{Wx:kN}{A v s j Wr:Nat}{N:Int->Int->Int}{Wl f a:a7}{Q:List a7}{U:Φ}{G:List (au×ba)}{m VY:aw}{D VP:ah->aw->Prop}{O:bz}{C:bf}{V0:bu}{I:ah}{d h:au}{Wc:List ah}
inductive aa where
 | aP|aJ (d:Bool)|int (j:Int)|str (b:aF)|tup (E:List aa)|fn (h:au)|aX (E:List aa)|fd (M:List ((Int×Int)×Int))
mutual
def aa.beq:aa->aa->Bool
 |.aP,.aP=>ab
 |.aJ h,.aJ d=>h==d
 |.int j,.int A=>decide (j=A)
 |.str b,.str i=>decide (b=i)
 |.tup h,.tup d=>aa.lp h d
 |.fn h,.fn d=>decide (h=d)
 |.aX h,.aX d=>aa.lp h d
 |.fd h,.fd d=>decide (h=d)
 |_,_=>az
def aa.lp:List aa->List aa->Bool
 |[],[]=>ab
 |h::p,d::H=>aa.beq h d&&aa.lp p H
 |_,_=>az
end
mutual
theorem aa.beq_iff:∀h d:aa,aa.beq h d=ab↔h=d
 |.aP,d=>by cases d<;>simp[aa.beq]
 |.aJ h,d=>by cases d<;>simp[aa.beq]
 |.int j,d=>by cases d<;>simp[aa.beq]
 |.str b,d=>by cases d<;>simp[aa.beq]
 |.tup b,d=>by
  cases d with
  |tup i=>rw[aa.beq,aa.zr b i];simp
  |_=>simp[aa.beq]
 |.fn h,d=>by cases d<;>simp[aa.beq]
 |.aX b,d=>by
  cases d with
  |aX i=>rw[aa.beq,aa.zr b i];simp
  |_=>simp[aa.beq]
 |.fd h,d=>by cases d<;>simp[aa.beq]
theorem aa.zr:∀h d:List aa,aa.lp h d=ab↔h=d
 |[],d=>by cases d<;>simp[aa.lp]
 |b::p,d=>by
  cases d with
  |nil=>simp[aa.lp]
  |cons i H=>rw[aa.lp,cI,aa.beq_iff b i,aa.zr p H];simp
end
noncomputable instance:DecidableEq aa:=λh d=>decidable_of_iff (aa.beq h d=ab) (aa.beq_iff h d)
mutual
def dz(c:a4):aa->ah->Prop
 |.aP,r=>r=.none
 |.aJ d,r=>r=.bool d
 |.int j,r=>∃H,r=.int j H
 |.str b,r=>∃H,r=.str b H
 |.fn h,r=>r=.ref h
 |.aX _,r=>∃h,r=.ref h
 |.fd _,r=>∃h,r=.ref h
 |.tup E,r=>∃h n S v,r=.ref h/\c.get? h=Z n/\n.cls=.type "tuple" /\ n.data=.seq S v/\dU c E S.toList
def dU(c:a4):List aa->List ah->Prop
 |[],P=>P=[]
 |o::E,P=>∃r p,P=r::p/\dz c o r/\dU c E p
end
mutual
def aa.key:Nat->aa->Bool
 |_,.int _=>ab
 |_,.str _=>ab
 |v+1,.tup E=>aa.keys v E
 |_,_=>az
def aa.keys:Nat->List aa->Bool
 |_,[]=>ab
 |v,o::E=>aa.key v o&&aa.keys v E
end
mutual
def tN(C:bf):aa->Int
 |.int j=>hashInt j
 |.str b=>hashStr C b
 |.tup E=>yO (bo.Tuple.tupleHashOf<|iJ C E)
 |_=>0
def iJ(C:bf):List aa->List Int
 |[]=>[]
 |o::E=>tN C o::iJ C E
end
mutual
def uu:aa->Nat
 |.tup E=>jW E+1
 |_=>1
def jW:List aa->Nat
 |[]=>0
 |o::E=>uu o+jW E
end
theorem zU(C:bf):∀h d:List aa,iJ C (h++d)=iJ C h++iJ C d
 |[],d=>rfl
 |o::h,d=>by rw[lJ,iJ,iJ,zU C h d,lJ]
theorem zp:∀h d:List aa,jW (h++d)=jW h+jW d
 |[],d=>by simp[jW]
 |o::h,d=>by rw[lJ,jW,jW,zp h d];lia
theorem Gu{v:Nat}:∀{h d:List aa},aa.keys v (h++d)=ab->aa.keys v d=ab
 |[],d,c=>c
 |o::h,d,c=>by rw[lJ,aa.keys,cI]at c;exact Gu c.2
theorem dU.length{c:a4}:∀{E:List aa}{P:List ah},dU c E P->E.length=P.length
 |[],P,a=>by rw[show P=[] from a];rfl
 |o::E,P,a=>by
  let⟨r,@p,rfl,Y,a⟩:=a;rw[cn,cn,dU.length a]
def HE(c ar:a4):Prop:=(∀h n S v,c.get? h=Z n->n.cls=.type "tuple" -> n.data=.seq S v->ar.get? h=Z n)
mutual
theorem dz.keep{c ar:a4}(s:HE c ar):∀{o:aa}{r:ah},dz c o r->dz ar o r
 |.aP,_,a=>a
 |.aJ _,_,a=>a
 |.int _,_,a=>a
 |.str _,_,a=>a
 |.fn _,_,a=>a
 |.aX _,_,a=>a
 |.fd _,_,a=>a
 |.tup E,_,a=>by
  let⟨h,n,S,@v,rfl,l,t,b,d⟩:=a;exact⟨h,n,S,v,rfl,s h n S v l t b,t,b,dU.keep s d⟩
theorem dU.keep{c ar:a4}(s:HE c ar):∀{E:List aa}{P:List ah},dU c E P->dU ar E P
 |[],_,a=>a
 |o::E,_,a=>by
  let⟨r,@p,rfl,l,t⟩:=a;exact⟨r,p,rfl,dz.keep s l,dU.keep s t⟩
end
theorem Fs{c:a4}:∀(v:Nat) {b i:aa}{r:ah},aa.key v b=ab->aa.key v i=ab->dz c b r->dz c i r->b=i
 |v,.int j,i,r,_,a_,f,e=>by
  let⟨@H,rfl⟩:=f;cases i with
  |int A=>let⟨@I,a⟩:=e;injection a with a;rw[a]
  |str k=>let⟨@I,a⟩:=e;cases a
  |tup E=>let⟨Y,Y,Y,@Y,a,Y⟩:=e;cases a
  |_=>cases v<;>cases a_
 |v,.str k,i,r,_,a_,f,e=>by
  let⟨@H,rfl⟩:=f;cases i with
  |int A=>let⟨@I,a⟩:=e;cases a
  |str k=>let⟨@I,a⟩:=e;injection a with a;rw[a]
  |tup E=>let⟨Y,Y,Y,@Y,a,Y⟩:=e;cases a
  |_=>cases v<;>cases a_
 |v+1,.tup E,i,r,q,a_,f,e=>by
  let⟨h,n,S,@M,rfl,l,t,w,x⟩:=f;cases i with
  |int A=>let⟨@I,a⟩:=e;cases a
  |str k=>let⟨@I,a⟩:=e;cases a
  |tup Q=>
   let⟨D,WN,F,@G,a,m,J,g,y⟩:=e;cases a;rw[l]at m;cases m;rw[w]at g;injection g with g _;subst g;have all:∀(E Q:List aa) (P:List ah),aa.keys v E=ab->aa.keys v Q=ab->dU c E P->dU c Q P->E=Q:=by
    intro E;induction E with
    |nil=>
     intro Q P Y Y h d;cases Q with
     |nil=>rfl
     |cons a Q=>let⟨Y,@Y,u,Y⟩:=d;rw[show P=[] from h]at u;cases u
    |cons o E z=>
     intro Q P Wo Wq h d;let⟨r,@p,rfl,B,C⟩:=h;cases Q with
     |nil=>cases (show r::p=[] from d)
     |cons a Q=>
      let⟨L,@WK,u,dJ,dr⟩:=d;cases u;rw[aa.keys,cI]at Wo Wq;rw[Fs v Wo.1 Wq.1 B dJ,z Q p Wo.2 Wq.2 C dr]
   rw[all E Q _ q a_ x y]
  |_=>cases a_
 |_,.aP,_,_,s,_,_,_=>by cases ‹Nat›<;>cases s
 |_,.aJ _,_,_,s,_,_,_=>by cases ‹Nat›<;>cases s
 |_,.fn _,_,_,s,_,_,_=>by cases ‹Nat›<;>cases s
 |_,.aX _,_,_,s,_,_,_=>by cases ‹Nat›<;>cases s
 |_,.fd _,_,_,s,_,_,_=>by cases ‹Nat›<;>cases s
 |0,.tup _,_,_,s,_,_,_=>by cases s
section
variable{VX:bu}{C:bf}
theorem H8:∀(v:Nat) {O:bz}{VP:ah->aw->Prop}{m:aw}{o:aa}{r:ah}{D:Int->aw->Prop},aa.key v o=ab->O.units+v<bN->dz m.heap o r->D (tN C o) {m with toks:=m.toks+uu o}->
  wpAny (aT VX C) O (pyHash r) D VP m
 |v,O,VP,m,.int j,r,D,_,_,e,c=>by
  let⟨@H,rfl⟩:=e;exact C4 c
 |v,O,VP,m,.str j,r,D,_,_,e,c=>by
  let⟨@H,rfl⟩:=e;exact Eo c
 |v+1,O,VP,m,.tup E,r,D,s,u,e,c=>by
  let⟨h,n,S,@M,rfl,k,t,hd,VW⟩:=e;have f:m.TypeIs (.ref h) "tuple" := ⟨n,k,t⟩;unfold pyHash;first|unfold pyHashByItsType|skip
  first|refine aC (wpAny_cRoomFor_or (.inr ⋯) ?_)|skip
  refine aC (nJ f vc.lookup ?_);show wpAny _ _ (if (Z (ah.builtin "tuple.__hash__")==Z ah.none)=ab then _ else _) D VP m;rw[if_neg (by rw[beq_builtin_none];exact dw)];refine aC (nJ f vc.lookup ?_);show wpAny _ _ (callSpecialIfBoundUnlessNone? (.ref h) "__hash__" _ >>= _) D VP m;refine aC (wpAny_callSpecialIfBoundUnlessNone?_slot f vc<|jm vc f F.entry_tuple_hash ?_<|F.args_tuple_hash_1 _);show wpAny _ _ (bo.Tuple.tupleItemsOf (.ref h) >>= _) _ _ m;refine aC (wpAny_tupleItemsOf k hd ?_);refine aC ?_;rw[<-Dj];refine qb _
   (λd7 (d:Array Int) VY=>∃done left,E=done++left/\dU m.heap left d7/\d.toList=iJ C done/\VY={m with toks:=m.toks+jW done})
   _ ?_ ?_ _ _ ⟨[],E,rfl,VW,rfl,rfl⟩
  ·rintro b d7 d VY ⟨done,left,rfl,g,ag,rfl⟩;cases left with
   |nil=>cases (show b::d7=[] from g)
   |cons o left=>
    let⟨r,@p,a,l,q⟩:=g;cases a;have Wq:=Gu (h:=done) (show aa.keys v (done++o::left)=ab from s);rw[aa.keys,cI]at Wq;refine aC (H8 v Wq.1 (by show O.units+1+v<bN;lia) l ?_);first
     | exact a5 ⟨done++[o],left,by simp,q,by simp[ag,zU,iJ],by simp[zp,jW,qn]⟩
     | exact aC (a5 (a5 ⟨done++[o],left,by simp,q,by simp[ag,zU,iJ],by simp[zp,jW,qn]⟩))
  ·rintro d VY ⟨done,left,rfl,g,ag,rfl⟩;cases left with
   |cons o left=>let⟨Y,@Y,a,Y⟩:=g;cases a
   |nil=>
   rw[b4]at c;show wpAny _ _ (retInt<|bo.Tuple.tupleHashOf d.toList) _ _ _;rw[ag];refine EJ ?_;show wpAny _ _ (if (decide (-(2:Int)^63<=bo.Tuple.tupleHashOf (iJ C done))&&decide (bo.Tuple.tupleHashOf (iJ C done)<2^63))=ab then _ else _) D VP _;rw[tN,uu]at c;unfold yO at c;by_cases i:(decide (-(2:Int)^63<=bo.Tuple.tupleHashOf (iJ C done))&&decide (bo.Tuple.tupleHashOf (iJ C done)<2^63))=ab
   ·rw[aH i];rw[aH i]at c;exact a5 (by simpa [qn] using c)
   ·rw[if_neg i];rw[if_neg i]at c;exact aC (lI (a5 (by simpa [qn] using c)))
 |_,_,_,_,.aP,_,_,s,_,_,_=>by cases ‹Nat›<;>cases s
 |_,_,_,_,.aJ _,_,_,s,_,_,_=>by cases ‹Nat›<;>cases s
 |_,_,_,_,.fn _,_,_,s,_,_,_=>by cases ‹Nat›<;>cases s
 |_,_,_,_,.aX _,_,_,s,_,_,_=>by cases ‹Nat›<;>cases s
 |_,_,_,_,.fd _,_,_,s,_,_,_=>by cases ‹Nat›<;>cases s
 |0,_,_,_,.tup _,_,_,s,_,_,_=>by cases s
mutual
def b8:aa->aa->Bool
 |.aP,.aP=>ab
 |.aJ h,.aJ d=>h==d
 |.aJ h,.int A=>(if h then 1 else 0)==A
 |.int j,.aJ d=>j==(if d then 1 else 0)
 |.int j,.int A=>j==A
 |.str b,.str i=>b==i
 |.tup h,.tup d=>eD h d
 |_,_=>az
def eD:List aa->List aa->Bool
 |[],[]=>ab
 |h::p,d::H=>b8 h d&&eD p H
 |_,_=>az
end
mutual
def aa.bQ:Nat->aa->Bool
 |_,.aP=>ab
 |_,.aJ _=>ab
 |_,.int _=>ab
 |_,.str _=>ab
 |v+1,.tup E=>aa.cx v E
 |_,_=>az
def aa.cx:Nat->List aa->Bool
 |_,[]=>ab
 |v,o::E=>aa.bQ v o&&aa.cx v E
end
theorem j0{v:Nat}:∀{E:List aa}{A:Nat}{o:aa},aa.cx v E=ab->E[A]?=Z o->aa.bQ v o=ab
 |[],A,o,_,c=>by simp at c
 |a::E,0,o,s,c=>by
  rw[aa.cx,cI]at s;simp at c;subst c;exact s.1
 |a::E,A+1,o,s,c=>by
  rw[aa.cx,cI]at s;exact j0 s.2 ⇑c
theorem dU.get{c:a4}:∀{E:List aa}{P:List ah}{A:Nat}{r:ah},dU c E P->P[A]?=Z r->∃o,E[A]?=Z o/\dz c o r
 |[],P,A,r,h,a=>by rw[show P=[] from h]at a;simp at a
 |o::E,P,0,r,h,a=>by
  let⟨I,@p,rfl,b,d⟩:=h;simp at a;subst a;exact⟨o,rfl,b⟩
 |o::E,P,A+1,r,h,a=>by
  let⟨I,@p,rfl,b,d⟩:=h;let⟨@e,l,t⟩:=dU.get (A:=A) d ⇑a;exact⟨e,by simpa using l,t⟩
theorem Et{c:a4}:∀(v:Nat) {b i:aa}{r:ah},aa.bQ v b=ab->aa.bQ v i=ab->dz c b r->dz c i r->b8 b i=ab
 |v,.aP,i,r,_,a_,g,e=>by
  cases (show r=.none from g);cases i with
  |aP=>rfl
  |aJ d=>cases e
  |int A=>let⟨@I,a⟩:=e;cases a
  |str k=>let⟨@I,a⟩:=e;cases a
  |tup E=>let⟨Y,Y,Y,@Y,a,Y⟩:=e;cases a
  |fn h=>cases v<;>cases a_
  |aX h=>cases v<;>cases a_
  |fd=>cases v<;>cases a_
 |v,.aJ d,i,r,_,a_,g,e=>by
  cases (show r=.bool d from g);cases i with
  |aP=>cases e
  |aJ f=>cases e;simp[b8]
  |int A=>let⟨@I,a⟩:=e;cases a
  |str k=>let⟨@I,a⟩:=e;cases a
  |tup E=>let⟨Y,Y,Y,@Y,a,Y⟩:=e;cases a
  |fn h=>cases v<;>cases a_
  |aX h=>cases v<;>cases a_
  |fd=>cases v<;>cases a_
 |v,.int j,i,r,_,a_,g,e=>by
  let⟨@H,rfl⟩:=g;cases i with
  |aP=>cases e
  |aJ f=>cases e
  |int A=>let⟨@I,a⟩:=e;cases a;simp[b8]
  |str k=>let⟨@I,a⟩:=e;cases a
  |tup E=>let⟨Y,Y,Y,@Y,a,Y⟩:=e;cases a
  |fn h=>cases v<;>cases a_
  |aX h=>cases v<;>cases a_
  |fd=>cases v<;>cases a_
 |v,.str j,i,r,_,a_,g,e=>by
  let⟨@H,rfl⟩:=g;cases i with
  |aP=>cases e
  |aJ f=>cases e
  |int A=>let⟨@I,a⟩:=e;cases a
  |str k=>let⟨@I,a⟩:=e;cases a;simp[b8]
  |tup E=>let⟨Y,Y,Y,@Y,a,Y⟩:=e;cases a
  |fn h=>cases v<;>cases a_
  |aX h=>cases v<;>cases a_
  |fd=>cases v<;>cases a_
 |v+1,.tup E,i,r,w,a_,g,e=>by
  let⟨h,n,S,@M,rfl,l,t,x,y⟩:=g;cases i with
  |aP=>cases e
  |aJ f=>cases e
  |int A=>let⟨@I,a⟩:=e;cases a
  |str k=>let⟨@I,a⟩:=e;cases a
  |fn h=>cases a_
  |aX h=>cases a_
  |fd=>cases a_
  |tup Q=>
   let⟨F,WN,G,@J,a,q,L,m,z⟩:=e;cases a;rw[l]at q;cases q;rw[x]at m;injection m with m _;subst m;have all:∀(E Q:List aa) (P:List ah),aa.cx v E=ab->aa.cx v Q=ab->dU c E P->dU c Q P->eD E Q=ab:=by
    intro E;induction E with
    |nil=>
     intro Q P Y Y h d;cases Q with
     |nil=>rfl
     |cons a Q=>let⟨Y,@Y,u,Y⟩:=d;rw[show P=[] from h]at u;cases u
    |cons o E B=>
     intro Q P Wo Wq h d;let⟨r,@p,rfl,C,D⟩:=h;cases Q with
     |nil=>cases (show r::p=[] from d)
     |cons a Q=>
      let⟨N,@WK,u,dJ,dr⟩:=d;cases u;rw[aa.cx,cI]at Wo Wq;rw[eD,Et v Wo.1 Wq.1 C dJ,B Q p Wo.2 Wq.2 D dr];rfl
   rw[b8];exact all E Q _ w a_ y z
 |v,.fn _,_,_,s,_,_,_=>by cases v<;>cases s
 |v,.aX _,_,_,s,_,_,_=>by cases v<;>cases s
 |v,.fd _,_,_,s,_,_,_=>by cases v<;>cases s
 |0,.tup _,_,_,s,_,_,_=>by cases s
def r4{a:Nat->Bool}:∀{E Q:List aa},(∀(A:Nat) (b i:aa),E[A]?=Z b->Q[A]?=Z i->a A=b8 b i)->((range<|min E.length Q.length).all a&&E.length==Q.length)=eD E Q:=by
 have V_:∀(E Q:List aa) (z:Nat->Bool),(∀(A:Nat) (b i:aa),E[A]?=Z b->Q[A]?=Z i->z A=b8 b i)->((range<|min E.length Q.length).all z&&E.length==Q.length)=eD E Q:=by
  intro E;induction E with
  |nil=>intro Q z Y;cases Q<;>simp[eD]
  |cons o E e=>
   intro Q z c;cases Q with
   |nil=>simp[eD]
   |cons f Q=>
    have:=e Q (λA=>z<|A+1) λA b i h d=>c (A+1) b i ⇑h ⇑d;rw[eD,<-this,<-c 0 o f rfl rfl];rw[cn,cn,show min (E.length+1) (Q.length+1)=min E.length Q.length+1 by lia,List.range_succ_eq_map,List.all_cons,zM,Bool.and_assoc];congr 2;rw[n_];simp
 exact λ{E Q} c=>V_ E Q a c
theorem h2{m:aw}:∀(v:Nat) {O:bz}{b i:aa}{I r:ah},aa.bQ v b=ab->aa.bQ v i=ab->O.units+v+1<bN->dz m.heap b I->dz m.heap i r->SeqAt.EqAt O m I r (b8 b i)
 |v,O,.aP,i,I,r,_,a_,p,g,c=>by
  cases (show I=.none from g);cases i with
  |aP=>cases (show r=.none from c);exact SeqAt.EqAt.same _
  |aJ d=>cases (show r=.bool d from c);exact Lq d
  |int A=>let⟨@H,rfl⟩:=c;exact Sv A H
  |str k=>let⟨@H,rfl⟩:=c;exact QG k H
  |tup E=>let⟨h,n,S,@M,rfl,l,t,o,Y⟩:=c;exact KN ⟨n,l,t,M,o⟩ ⋯
  |fn h=>cases v<;>cases a_
  |aX h=>cases v<;>cases a_
  |fd=>cases v<;>cases a_
 |v,O,.aJ d,i,I,r,_,a_,p,g,c=>by
  cases (show I=.bool d from g);cases i with
  |aP=>cases (show r=.none from c);exact P8 d
  |aJ f=>cases (show r=.bool f from c);exact QV d f
  |int A=>let⟨@H,rfl⟩:=c;exact Mq d A H
  |str k=>let⟨@H,rfl⟩:=c;exact LA d k H
  |tup E=>let⟨h,n,S,@M,rfl,l,t,o,Y⟩:=c;exact SX d ⟨n,l,t,M,o⟩ ⋯
  |fn h=>cases v<;>cases a_
  |aX h=>cases v<;>cases a_
  |fd=>cases v<;>cases a_
 |v,O,.int j,i,I,r,_,a_,p,g,c=>by
  let⟨@e,rfl⟩:=g;cases i with
  |aP=>cases (show r=.none from c);exact SV j e
  |aJ f=>cases (show r=.bool f from c);exact MG j e f
  |int A=>let⟨@H,rfl⟩:=c;exact Qh j e A H
  |str k=>let⟨@H,rfl⟩:=c;exact DF j e k H
  |tup E=>let⟨h,n,S,@M,rfl,l,t,o,Y⟩:=c;exact SQ j e ⟨n,l,t,M,o⟩ ⋯
  |fn h=>cases v<;>cases a_
  |aX h=>cases v<;>cases a_
  |fd=>cases v<;>cases a_
 |v,O,.str j,i,I,r,_,a_,p,g,c=>by
  let⟨@e,rfl⟩:=g;cases i with
  |aP=>cases (show r=.none from c);exact Ms j e
  |aJ f=>cases (show r=.bool f from c);exact Lg j e f
  |int A=>let⟨@H,rfl⟩:=c;exact Ih j e A H
  |str k=>let⟨@H,rfl⟩:=c;exact Mm j e k H
  |tup E=>let⟨h,n,S,@M,rfl,l,t,o,Y⟩:=c;exact RX j e ⟨n,l,t,M,o⟩ ⋯
  |fn h=>cases v<;>cases a_
  |aX h=>cases v<;>cases a_
  |fd=>cases v<;>cases a_
 |v+1,O,.tup E,i,I,r,w,a_,p,g,c=>by
  have F:=g;let⟨h,n,S,@M,rfl,l,t,o,x⟩:=g;have WC:m.heap.IsTuple h S:=⟨n,l,t,M,o⟩;cases i with
  |aP=>cases (show r=.none from c);exact M9 WC ⋯
  |aJ f=>cases (show r=.bool f from c);exact Km f WC ⋯
  |int A=>let⟨@H,rfl⟩:=c;exact LX A H WC ⋯
  |str k=>let⟨@H,rfl⟩:=c;exact Sb k H WC ⋯
  |fn h=>cases a_
  |aX h=>cases a_
  |fd=>cases a_
  |tup Q=>
   have G:=c;let⟨d,WN,q,@J,rfl,L,N,P,y⟩:=c;by_cases a:h=d
   ·subst a;rw[Et (v+1) w a_ F G];exact SeqAt.EqAt.same _
   ·have We:m.heap.IsTuple d q:=⟨WN,L,N,J,P⟩;have z:=x.length;have B:=y.length;have R:S.toList.length=S.size:=by simp
    have T:q.toList.length=q.size:=by simp
    rw[R]at z;rw[T]at B;have u:=KH (A:=O) a (CV (e:=λA=>b8 (E.getD A .aP)<|Q.getD A .aP) WC We ⋯ λA U al=>by
     let⟨@Wz,C,am⟩:=x.get (A:=A) (r:=S[A]) (by rw[hX];simp[U]);let⟨@WE,D,an⟩:=y.get (A:=A) (r:=q[A]) (by rw[hX];simp[al]);rw[de,C,de,D];exact h2 v (j0 w C) (j0 a_ D) (by show O.units+1+v+1<bN;lia) am an)
    rw[<-z,<-B,r4 (E:=E) (Q:=Q) (λA b i h d=>by rw[de,h,de,d];rfl)]at u;rw[b8];exact u
 |v,O,.fn _,_,_,_,s,_,_,_,_=>by cases v<;>cases s
 |v,O,.aX _,_,_,_,s,_,_,_,_=>by cases v<;>cases s
 |v,O,.fd _,_,_,_,s,_,_,_,_=>by cases v<;>cases s
 |0,O,.tup _,_,_,_,s,_,_,_,_=>by cases s
mutual
theorem yr:∀{v:Nat}{o:aa},aa.key v o=ab->aa.bQ v o=ab
 |v,.int _,_=>by cases v<;>rfl
 |v,.str _,_=>by cases v<;>rfl
 |v+1,.tup E,c=>by rw[aa.key]at c;rw[aa.bQ];exact C_ c
 |0,.tup _,c=>by cases c
 |v,.aP,c=>by cases v<;>cases c
 |v,.aJ _,c=>by cases v<;>cases c
 |v,.fn _,c=>by cases v<;>cases c
 |v,.aX _,c=>by cases v<;>cases c
 |v,.fd _,c=>by cases v<;>cases c
theorem C_:∀{v:Nat}{E:List aa},aa.keys v E=ab->aa.cx v E=ab
 |v,[],_=>by rw[aa.cx]
 |v,o::E,c=>by rw[aa.keys,cI]at c;rw[aa.cx,yr c.1,C_ c.2];rfl
end
mutual
theorem DX:∀{v:Nat}{b i:aa},aa.key v b=ab->aa.key v i=ab->b8 b i=decide (b=i)
 |v,.int j,i,_,d=>by
  cases i with
  |int A=>rw[b8];by_cases a:j=A<;>simp[a]
  |str k=>simp[b8]
  |tup k=>simp[b8]
  |_=>cases v<;>cases d
 |v,.str j,i,_,d=>by
  cases i with
  |int A=>simp[b8]
  |str k=>rw[b8];by_cases a:j=k<;>simp[a]
  |tup k=>simp[b8]
  |_=>cases v<;>cases d
 |v+1,.tup E,i,e,d=>by
  cases i with
  |int A=>simp[b8]
  |str k=>simp[b8]
  |tup Q=>
   rw[aa.key]at e d;rw[b8,Cy e d];simp
  |_=>cases d
 |0,.tup _,_,c,_=>by cases c
 |v,.aP,_,c,_=>by cases v<;>cases c
 |v,.aJ _,_,c,_=>by cases v<;>cases c
 |v,.fn _,_,c,_=>by cases v<;>cases c
 |v,.aX _,_,c,_=>by cases v<;>cases c
 |v,.fd _,_,c,_=>by cases v<;>cases c
theorem Cy:∀{v:Nat}{b i:List aa},aa.keys v b=ab->aa.keys v i=ab->eD b i=decide (b=i)
 |v,[],i,_,_=>by cases i<;>simp[eD]
 |v,o::E,[],_,_=>by simp[eD]
 |v,o::E,a::Q,c,d=>by
  rw[aa.keys,cI]at c d;rw[eD,DX c.1 d.1,Cy c.2 d.2];by_cases l:o=a<;>by_cases t:E=Q<;>simp[l,t]
end
theorem Hh:∀(v:Nat) {O:bz}{VP:ah->aw->Prop}{m:aw}{o:aa}{r:ah}{D:Bool->aw->Prop},aa.key v o=ab->dz m.heap o r->D ab m->wpAny (aT VX C) O (eqIsQuiet v r) D VP m
 |v,O,VP,m,.int j,r,D,_,b,c=>by
  let⟨@H,rfl⟩:=b;rw[He v rfl];exact a5 c
 |v,O,VP,m,.str j,r,D,_,b,c=>by
  let⟨@H,rfl⟩:=b;rw[He v rfl];exact a5 c
 |v+1,O,VP,m,.tup E,r,D,s,b,c=>by
  let⟨h,n,S,@M,rfl,f,k,hd,VW⟩:=b;have g:m.TypeIs (.ref h) "tuple" := ⟨n,f,k⟩;unfold eqIsQuiet;refine aC (nJ g F.slot_tuple_eq.lookup ?_);show wpAny _ _ (isInstance (.ref h) (.type "tuple") >>= _) _ _ m;refine aC (vT g isSubtype_tuple_tuple ?_);simp only[HI,jT,fO];refine aC (hH f hd ?_);refine aC ?_;show wpAny _ _ (forIn S _ _) _ _ m;rw[<-Dj];rw[aa.key]at s;refine qb _ (λd7 p VY=>p.1=X/\VY=m/\∃left,aa.keys v left=ab/\dU m.heap left d7) _ ?_ ?_ _ _ ⟨rfl,rfl,E,s,VW⟩
  ·rintro r d7 p VY ⟨d,rfl,left,e,i⟩;cases left with
   |nil=>cases (show r::d7=[] from i)
   |cons o left=>
    let⟨t,@WK,a,l,q⟩:=i;cases a;rw[aa.keys,cI]at e;refine aC (Hh v e.1 l ?_);simp only[HI,jT,fO];exact a5 ⟨rfl,rfl,left,e.2,q⟩
  ·rintro⟨u,w⟩ VY ⟨d,rfl,Y⟩;simp only at d;subst d;exact a5 c
 |_,_,_,_,.aP,_,_,s,_,_=>by cases ‹Nat›<;>cases s
 |_,_,_,_,.aJ _,_,_,s,_,_=>by cases ‹Nat›<;>cases s
 |_,_,_,_,.fn _,_,_,s,_,_=>by cases ‹Nat›<;>cases s
 |_,_,_,_,.aX _,_,_,s,_,_=>by cases ‹Nat›<;>cases s
 |_,_,_,_,.fd _,_,_,s,_,_=>by cases ‹Nat›<;>cases s
 |0,_,_,_,.tup _,_,_,s,_,_=>by cases s
def hv(VX:bu)(C:bf):HeapKind VX C (List aa) where
 is:=λc E h=>aa.keys 7 E=ab/\dz c (.tup E) (.ref h)
 hash:=λE=>tN C (.tup E)
 draws:=λE=>uu (.tup E)
 room:=λO=>O.units+10<bN
 inj:=λa e=>by
  have:=Fs 8 (b:=.tup _) (i:=.tup _) a.1 e.1 a.2 e.2;injection this
 keeps:=λ{c ar s h o n Q WI} b k hd l=>⟨b.1,b.2.keep λd I S v ag q j=>by
  have p:d≠o:=by
   rintro rfl;rw[k]at ag;cases ag;rw[hd]at j;cases j
  exact (l.2 d p).trans ag⟩
 pyHash:=λg f c=>H8 8 (o:=.tup _) f.1 (show _<_ by have:_+10<bN:=g;lia) f.2 c
 eqBool:=λ{O VP m b i h d D} g a e c=>by
  have u:=h2 (m:=m) 8 (O:=O) (b:=.tup b) (i:=.tup i) (yr (v:=8) (o:=.tup b) a.1) (yr (v:=8) (o:=.tup i) e.1) (show _<_ by have:O.units+10<bN:=g;lia) a.2 e.2;rw[DX (v:=8) (b:=.tup b) (i:=.tup i) a.1 e.1]at u;exact u _ _ VP D ⇑c
 quiet:=λf c=>Hh 8 (o:=.tup _) f.1 f.2 c
end
abbrev eG:=Sum Int aF
def pe:eG->ah->Bool
 |.inl s,r=>ah.isInt s r
 |.inr b,r=>ah.isStrOf b r
def Q7(C:bf):eG->Int
 |.inl s=>hashInt s
 |.inr b=>hashStr C b
theorem lG:∀{s:eG}{r:ah},pe s r=ab->(∃j H,s=Sum.inl j/\r=ah.int j H)\/(∃b H,s=Sum.inr b/\r=ah.str b H)
 |.inl j,r,c=>by
  let⟨@H,a⟩:=ah.isInt_shape (k:=j) (v:=r) c;exact .inl ⟨j,H,rfl,a⟩
 |.inr b,r,c=>by
  let⟨@H,a⟩:=ah.isStrOf_shape (x:=b) (v:=r) c;exact .inr ⟨b,H,rfl,a⟩
def Na(j:Int)(H:iE):pe (.inl j) (.int j H)=ab:=by simp[pe,ah.isInt]
def O4(b:aF)(H:iE):pe (.inr b) (.str b H)=ab:=by simp[pe,ah.isStrOf]
def K2(h d:Int):decide ((Sum.inl h:eG)=Sum.inl d)=(h==d):=by
 by_cases a:h=d
 ·subst a;simp
 ·have c:¬ (Sum.inl h:eG)=Sum.inl d:=λu=>a (Sum.inl.inj u);rw[decide_eq_false c];exact (xX.mpr a).symm
def SE(h d:aF):decide ((Sum.inr h:eG)=Sum.inr d)=decide (h=d):=by
 by_cases a:h=d
 ·subst a;simp
 ·have c:¬ (Sum.inr h:eG)=Sum.inr d:=λu=>a (Sum.inr.inj u);rw[decide_eq_false c,decide_eq_false a]
def US(h:Int)(d:aF):decide ((Sum.inl h:eG)=Sum.inr d)=az:=decide_eq_false (λu=>nomatch u)
def UK(h:aF)(d:Int):decide ((Sum.inr h:eG)=Sum.inl d)=az:=decide_eq_false (λu=>nomatch u)
def kM(VX:bu)(C:bf):PySem.KeyKind VX C eG where
 is:=pe
 hash:=Q7 C
 inj:=λr h d av ag=>by
  rcases lG av with ⟨j,H,rfl,rfl⟩|⟨b,H,rfl,rfl⟩
  ·rcases lG ag with ⟨A,I,rfl,a⟩|⟨i,I,rfl,a⟩
   ·injection a with e _;rw[e]
   ·exact nomatch a
  ·rcases lG ag with ⟨A,I,rfl,a⟩|⟨i,I,rfl,a⟩
   ·exact nomatch a
   ·injection a with e _;rw[e]
 byValue:=λs r c=>by
  rcases lG c with ⟨j,H,rfl,rfl⟩|⟨b,H,rfl,rfl⟩<;>rfl
 pyHash:=λf c=>by
  rcases lG f with ⟨j,H,rfl,rfl⟩|⟨b,H,rfl,rfl⟩
  ·exact C4 c
  ·exact Eo c
 eqBool:=λg f c=>by
  rcases lG g with ⟨j,H,rfl,rfl⟩|⟨b,H,rfl,rfl⟩
  ·rcases lG f with ⟨A,I,rfl,rfl⟩|⟨i,I,rfl,rfl⟩
   ·rw[K2]at c;exact wpAny_eqBool_int c
   ·rw[US]at c;exact DF j H i I _ _ _ _ c
  ·rcases lG f with ⟨A,I,rfl,rfl⟩|⟨i,I,rfl,rfl⟩
   ·rw[UK]at c;exact Ih b H A I _ _ _ _ c
   ·rw[SE]at c;exact wpAny_eqBool_str c
 «strs»:=λs b H r c=>by
  rcases lG c with ⟨j,I,rfl,a⟩|⟨i,I,rfl,a⟩
  ·exact nomatch a
  ·injection a with e _;subst e;cases r<;>rfl
def Tu(VX:bu)(C:bf)(j:Int)(H:iE):(kM VX C).is (.inl j) (.int j H)=ab:=Na j H
def Pz(VX:bu)(C:bf)(b:aF)(H:iE):(kM VX C).is (.inr b) (.str b H)=ab:=O4 b H
inductive af where
 | aP|aJ (d:Bool)|int (j:Int)|str (b:aF)|rX (d:Array UInt8)|AE (d:UInt64)|ref (h:au)|ty (v:String)
 deriving DecidableEq
variable{P x:List af}{i r:af}
def b1:af->ah->Prop
 |.aP,I=>I=ah.none
 |.aJ d,I=>I=ah.bool d
 |.int j,I=>∃H,I=ah.int j H
 |.str b,I=>∃H,I=ah.str b H
 |.rX d,I=>∃H,I=ah.bytes d H
 |.AE d,I=>∃H,I=ah.float d H
 |.ref h,I=>I=ah.ref h
 |.ty v,I=>I=ah.type v
abbrev bZ:List af->List ah->Prop:=dV b1
def bZ.length(p:bZ x Wc):x.length=Wc.length:=dV.length p
theorem bZ.get:∀{x:List af}{Wc:List ah}{j:Nat}{b:af},bZ x Wc->x[j]?=Z b->∃I,Wc[j]?=Z I/\b1 b I
 |_,_,_,_,.nil,a=>by simp at a
 |_,_,0,_,.cons p _,a=>by simp at a;subst a;exact⟨_,rfl,p⟩
 |_,_,j+1,b,.cons _ H,a=>by
  let⟨@I,l,t⟩:=bZ.get (j:=j) (b:=b) H ⇑a;exact⟨I,by simpa using l,t⟩
theorem bZ.set{b:af}{I:ah}(p:b1 b I):∀{x:List af}{Wc:List ah} (j:Nat),bZ x Wc->bZ (x.set j b) (Wc.set j I)
 |_,_,_,.nil=>.nil
 |_,_,0,.cons _ H=>.cons p H
 |_,_,j+1,.cons u H=>.cons u (bZ.set p j H)
theorem bZ.append:∀{x V5:List af}{Wc WG:List ah},bZ x Wc->bZ V5 WG->bZ (x++V5) (Wc++WG)
 |_,_,_,_,.nil,m=>m
 |_,_,_,_,.cons p H,m=>.cons p (bZ.append H m)
theorem bZ.take:∀{x:List af}{Wc:List ah} (v:Nat),bZ x Wc->bZ (x.take v) (Wc.take v)
 |_,_,0,_=>.nil
 |_,_,_+1,.nil=>.nil
 |_,_,v+1,.cons p H=>.cons p (bZ.take v H)
theorem bZ.drop:∀{x:List af}{Wc:List ah} (v:Nat),bZ x Wc->bZ (x.drop v) (Wc.drop v)
 |_,_,0,p=>p
 |_,_,_+1,.nil=>.nil
 |_,_,v+1,.cons _ H=>bZ.drop v H
def jB:Option af->Option ah->Prop
 |some r,Z I=>b1 r I
 |none,X=>True
 |_,_=>False
def fT{Wh:Type}:List (Wh×af)->List (Wh×ah)->Prop:=(dV λ(q:Wh×af) (u:Wh×ah)=>q.1=u.1/\b1 q.2 u.2)
def cy:eG->af
 |.inl j=>.int j
 |.inr b=>.str b
inductive fz where
 | lst (x:List af)
 | tup (x:List af)
 | dA (VR:List (eG×af))|aB (VR:List (List aa×af))
 | set (V2:Int->Bool) (v:Nat)
 | ins (aN B:au) (Y:List (aF×af))
 | own (b:au)
 | nD (Y:List (aF×af))
 | met (z b:au)
 | AI (VS VW:Int)
 | c6 (n:ba) (I:fz)
 | ny (VV:Array ah)
 | ext (VE:a4->Prop)
variable{n:fz}
abbrev aA:=au->Option fz
variable{F g:aA}
def upd(g:aA)(h:au)(n:fz):aA:=(λd=>if d=h then Z n else g d)
def eu:upd g h n h=Z n:=by unfold upd;rw[aH rfl]
def cP(c:d≠h):upd g h n d=g d:=by unfold upd;rw[if_neg c]
def Ge{I:fz}(c:g h=Z n)(ar:g d=Z I)(o:n≠I):h≠d:=by
 intro a;subst a;rw[c]at ar;exact o (Option.some.inj ar)
def hy(c:g h=Z n)(ar:g d=X):h≠d:=by
 intro a;subst a;rw[c]at ar;cases ar
mutual
def cp(g:aA):aa->af->Prop
 |.aP,r=>r=.aP
 |.aJ d,r=>r=.aJ d
 |.int j,r=>r=.int j
 |.str b,r=>r=.str b
 |.fn h,r=>r=.ref h
 |.aX E,r=>∃h x n,r=.ref h/\g h=Z (.c6 n<|.lst x)/\bC g E x
 |.fd M,r=>∃h n WB,r=.ref h/\g h=Z (.c6 n<|.aB WB)/\WB=M.map λq=>([aa.int q.1.1,aa.int q.1.2],af.int q.2)
 |.tup E,r=>∃h x,r=.ref h/\g h=Z (.tup x)/\bC g E x
def bC(g:aA):List aa->List af->Prop
 |[],P=>P=[]
 |o::E,P=>∃r p,P=r::p/\cp g o r/\bC g E p
end
def ra(g F:aA):Prop:=(∀h x,g h=Z (.tup x)->F h=Z (.tup x))
structure p6(g F:aA):Prop where
 t:ra g F
 z:∀h n I,g h=Z (.c6 n I)->F h=Z (.c6 n I)
noncomputable instance {g F:aA}:CoeFun (p6 g F) (λ_=>∀h x,g h=Z (.tup x)->F h=Z (.tup x)):=⟨λH=>H.t⟩
mutual
theorem cp.mono{g F:aA}(s:p6 g F):∀{o:aa}{r:af},cp g o r->cp F o r
 |.aP,_,a=>a
 |.aJ _,_,a=>a
 |.int _,_,a=>a
 |.str _,_,a=>a
 |.fn _,_,a=>a
 |.tup E,_,a=>by
  let⟨h,@x,rfl,l,t⟩:=a;exact⟨h,x,rfl,s.t h x l,bC.mono s t⟩
 |.aX E,_,a=>by
  let⟨h,x,@n,rfl,l,t⟩:=a;exact⟨h,x,n,rfl,s.z h _ _ l,bC.mono s t⟩
 |.fd M,_,a=>by
  let⟨h,n,@WB,rfl,l,t⟩:=a;exact⟨h,n,WB,rfl,s.z h _ _ l,t⟩
theorem bC.mono{g F:aA}(s:p6 g F):∀{E:List aa}{P:List af},bC g E P->bC F E P
 |[],_,a=>a
 |o::E,_,a=>by
  let⟨r,@p,rfl,l,t⟩:=a;exact⟨r,p,rfl,cp.mono s l,bC.mono s t⟩
end
def hs(g:aA)(s:List aa)(d:au):Prop:=(aa.keys 7 s=ab/\cp g (.tup s) (.ref d))
mutual
theorem cp.qC{g F:aA}(s:ra g F):∀{o:aa}{v:Nat}{r:af},aa.key v o=ab->cp g o r->cp F o r
 |.aP,_,_,_,a=>a
 |.aJ _,_,_,_,a=>a
 |.int _,_,_,_,a=>a
 |.str _,_,_,_,a=>a
 |.fn _,_,_,_,a=>a
 |.tup E,v+1,_,u,a=>by
  let⟨h,@x,rfl,l,t⟩:=a;exact⟨h,x,rfl,s h x l,bC.qC s u t⟩
 |.tup E,0,_,u,a=>nomatch u
 |.aX E,0,_,u,a=>nomatch u
 |.aX E,v+1,_,u,a=>nomatch u
 |.fd _,0,_,u,a=>nomatch u
 |.fd _,v+1,_,u,a=>nomatch u
theorem bC.qC{g F:aA}(s:ra g F):∀{E:List aa}{v:Nat}{P:List af},aa.keys v E=ab->bC g E P->bC F E P
 |[],_,_,_,a=>a
 |o::E,v,_,u,a=>by
  let⟨r,@p,rfl,l,t⟩:=a;rw[aa.keys,cI]at u;exact⟨r,p,rfl,cp.qC s u.1 l,bC.qC s u.2 t⟩
end
def hs.mono{s:List aa}(c:hs g s d)(H:ra g F):hs F s d:=by
 let@⟨b,⟨h,@x,a,l,t⟩⟩:=c;exact⟨b,h,x,a,H h x l,t.qC H b⟩
def mz(c:a4)(h:au)(S:Array ah):Prop:=(∃n,c.get? h=Z n/\(n.cls,n.dict)=(.type "tuple",X)/\∃v,n.data=.seq S v)
def mz.tup{S:Array ah}(b:mz c h S):nS c h S:=let ⟨n,a,f,p⟩:=b;⟨n,a,(Prod.mk.inj f).1,p⟩
def mz.new(c:a4)(S:Array ah):mz (c.push {cls:=.type "tuple",data:=.seq S}) c.objs.size S:=⟨_,dx _ rfl,rfl,_,rfl⟩
section
variable(V0:bu)(C:bf)
def ee(g:aA)(c:a4)(h:au):fz->Prop
 |.lst x=>x.length<=sizeLine/\∃(VZ:List ah) (v:Nat),bZ x VZ/\c.get? h=Z {cls:=.type "list",data:=.seq VZ.toArray v}
 |.tup x=>x.length<=sizeLine/\∃VZ:List ah,bZ x VZ/\mz c h VZ.toArray
 |.dA VR=>VR.length<=sizeLine/\(h==iG)=az/\∃P,fT VR P/\c.DictOf (kM V0 C) h P
 |.aB VR=>VR.length<=sizeLine/\(h==iG)=az/\∃x:List (List aa×au×ah),
   dV (λ(q:List aa×af) (u:List aa×au×ah)=>q.1=u.1/\hs g q.1 u.2.1/\b1 q.2 u.2.2) VR x/\
   ∃n Q WI,c.get? h=Z n/\n.ExactDict/\n.data=.dict Q WI/\Q.toList=x.map (entryOfKey<|hv V0 C)/\(x.map (·.1)).Nodup
 |.set V2 v=>c.SetOf (intKind V0 C) h V2 v
 |.ins aN B Y=>g B=Z (.own h)/\Y.length<=1000/\B≠h/\c.get? h=Z (PySem.W.instObj aN B)/\
   ∃w,c.Ns1 B w/\(∀z,jB (Y.lookup z)<|w z)/\PySem.Within w (Y.map (·.1))
 |.own _=>∃n,c.get? h=Z n
 |.nD Y=>∃w,c.Ns1 h w/\∀z,jB (Y.lookup z) (w z)
 |.AI VS VW=>∃H I r,c.get? h=Z {cls:=.type "range",data:=.fields #[.int VS H,.int VW I,.int 1 r]}
 |.c6 n I=>c.get? h=Z n/\ee g c h I
 |.ny VV=>c.get? h=Z {cls:=.none,data:=.fields VV}
 |.met z b=>c.get? h=Z (Γ (.ref z)<|.ref b)
 |.ext a=>a c/\(∃n,c.get? h=Z n)/\∀l t:a4,a l->(∀n,l.get? h=Z n->t.get? h=Z n)->a t
def eh(g:aA)(c:a4):Prop:=(∀h n,g h=Z n->ee V0 C g c h n)
end
section
variable{V0:bu}{C:bf}{g F:aA}{c ar:a4}{h:au}{n:fz}
def ee.lt(b:ee V0 C g c h n):h<c.objs.size:=by
 cases n with
 |lst x=>let@⟨_,⟨_,@_,_,a⟩⟩:=b;exact b9 a
 |tup x=>let@⟨_,⟨@_,_,q⟩⟩:=b;exact q.tup.lt
 |dA VR=>let@⟨_,_,⟨@_,_,⟨n,_,@_,a,_⟩⟩⟩:=b;exact b9 a
 |aB VR=>let@⟨_,_,⟨@_,_,⟨n,_,@_,a,_⟩⟩⟩:=b;exact b9 a
 |set V2 v=>let⟨n,W,W,@W,a,W⟩:=b;exact b9 a
 |ins aN B Y=>let@⟨_,_,_,a,_⟩:=b;exact b9 a
 |own i=>let⟨@W,a⟩:=b;exact b9 a
 |nD Y=>let⟨@W,⟨W,W,@W,a,W⟩,W⟩:=b;exact b9 a
 |AI VS VW=>let⟨W,W,@W,a⟩:=b;exact b9 a
 |c6 WA I=>let@⟨a,_⟩:=b;exact b9 a
 |ny VV=>exact b9 (show c.get? h=Z _ from b)
 |met z i=>exact b9 (show c.get? h=Z _ from b)
 |ext d=>let@⟨_,⟨@_,a⟩,_⟩:=b;exact b9 a
theorem dV.tV{V7 WQ:Type}{L VN:V7->WQ->Prop}:∀{a:List V7}{b:List WQ},dV L a b->(∀h d,L h d->VN h d)->dV VN a b
 |_,_,.nil,_=>.nil
 |_,_,.cons p H,z=>.cons (z _ _ p) (dV.tV H z)
def ee.gb(b:ee V0 C g c h n)(s:∀d I,(d=h\/g d=Z (.own h))->c.get? d=Z I->ar.get? d=Z I)(e:∀d,g d=Z (.own h)->F d=Z (.own h))(j:∀d x,g d=Z (.tup x)->F d=Z (.tup x)):ee V0 C F ar h n:=by
 induction n with
 |lst x=>let@⟨k,⟨VZ,@v,p,a⟩⟩:=b;exact⟨k,VZ,v,p,s _ _ (.inl rfl) a⟩
 |tup x=>let@⟨k,⟨@VZ,p,⟨@WA,a,f⟩⟩⟩:=b;exact⟨k,VZ,p,WA,s _ _ (.inl rfl) a,f⟩
 |dA VR=>let@⟨k,i,⟨@P,p,⟨WA,Q,@WI,a,f⟩⟩⟩:=b;exact⟨k,i,P,p,WA,Q,WI,s _ _ (.inl rfl) a,f⟩
 |aB VR=>
  let@⟨k,i,⟨@x,p,⟨WA,Q,@WI,a,f⟩⟩⟩:=b;exact⟨k,i,x,dV.tV p λq u k=>⟨k.1,k.2.1.mono j,k.2.2⟩,WA,Q,WI,s _ _ (.inl rfl) a,f⟩
 |set V2 v=>let⟨WA,Q,WI,@H,a,f⟩:=b;exact⟨WA,Q,WI,H,s _ _ (.inl rfl) a,f⟩
 |ins aN B Y=>
  let@⟨o,k,ne,a,⟨@w,⟨l,Q,@WI,m,f⟩,p⟩⟩:=b;exact⟨e _ o,k,ne,s _ _ (.inl rfl) a,w,⟨l,Q,WI,s _ _ (.inr o) m,f⟩,p⟩
 |own i=>let⟨@WA,a⟩:=b;exact⟨WA,s _ _ (.inl rfl) a⟩
 |nD Y=>let⟨@w,⟨l,Q,@WI,a,f⟩,p⟩:=b;exact⟨w,⟨l,Q,WI,s _ _ (.inl rfl) a,f⟩,p⟩
 |AI VS VW=>let⟨H,I,@r,a⟩:=b;exact⟨H,I,r,s _ _ (.inl rfl) a⟩
 |c6 WA I t=>let@⟨a,u⟩:=b;exact⟨s _ _ (.inl rfl) a,t u⟩
 |ny VV=>
  have a:c.get? h=Z {cls:=.none,data:=.fields VV}:=b;show ar.get? h=Z {cls:=.none,data:=.fields VV};exact s h _ (.inl rfl) a
 |met z i=>
  have a:c.get? h=Z (Γ (.ref z)<|.ref i):=b;show ar.get? h=Z (Γ (.ref z)<|.ref i);exact s h _ (.inl rfl) a
 |ext y=>let@⟨q,⟨@n,a⟩,R⟩:=b;exact⟨R _ _ q λn u=>s _ _ (.inl rfl) u,⟨n,s _ _ (.inl rfl) a⟩,R⟩
theorem eh.lt(b:eh V0 C g c)(a:g h=Z n):h<c.objs.size:=(b h n a).lt
def eh.fresh(b:eh V0 C g c)(a:c.objs.size<=h):g h=X:=by
 cases u:g h with
 |none=>rfl
 |some I=>exact absurd (eV (b.lt u) a) (iF _)
def eh.kept(b:eh V0 C g c)(s:∀d I,c.get? d=Z I->ar.get? d=Z I):eh V0 C g ar:=λh n a=>
 (b h n a).gb (λd I Y u=>s d I u) (λ_ u=>u) λ_ Y u=>u
def eh.laid(b:eh V0 C g c)(s:∀d I,c.get? d=Z I->ar.get? d=Z I)(i:c.objs.size<=h)(new:ee V0 C (upd g h n) ar h n):eh V0 C (upd g h n) ar:=λd I a=>by
 have e:=b.fresh i;by_cases ag:d=h
 ·subst ag;rw[eu]at a;cases a;exact new
 ·rw[cP ag]at a;exact (b d I a).gb (λf r Y u=>s f r u) (λf u=>by rw[cP (hy u e)];exact u) λf x u=>by rw[cP (hy u e)];exact u
end
def gS(g:aA)(h:au)(I:fz):Prop:=(g h=Z I\/∃n,g h=Z (.c6 n I))
def gS.ok{I:fz}(p:gS g h I)(b:eh V0 C g c):ee V0 C g c h I:=by
 rcases p with p|⟨n,p⟩
 ·exact b h I p
 ·let@⟨_,u⟩:=b h _ p;exact u
def qo:Option fz->Prop
 |some (.lst _)=>True
 |some (.dA _)=>True
 |some (.aB _)=>True
 |some (.set _ _)=>True
 |some (.ins _ _ _)=>True
 |some (.ext _)=>True
 |_=>False
section
variable{V0:bu}{C:bf}{g:aA}{c ar:a4}{b a:au}{WN:fz}
def eh.write(ok:eh V0 C g c)(e:qo (g b))(l:a=b\/g a=Z (.own b))(s:∀d I,d≠a->c.get? d=Z I->ar.get? d=Z I)(n:∃I,ar.get? a=Z I)(new:ee V0 C (upd g b WN) ar b WN):eh V0 C (upd g b WN) ar:=λd I u=>by
 have m:∀f i,g f=Z (.own i)->f≠b:=λf i p k=>by subst k;rw[p]at e;exact e
 have o:∀f x,g f=Z (.tup x)->f≠b:=λf x p k=>by subst k;rw[p]at e;exact e
 by_cases ag:d=b
 ·subst ag;rw[eu]at u;cases u;exact new
 ·rw[cP ag]at u;by_cases h:d=a
  ·have dK:g d=Z (.own b):=by
    rcases l with k|k
    ·exact absurd (h.trans k) ag
    ·rw[h];exact k
   rw[u]at dK;cases dK;let⟨@r,q⟩:=n;exact⟨r,by rw[h];exact q⟩
  ·refine (ok d I u).gb (λf r j p=>s f r ?_ p) (λf p=>by rw[cP (m f d p)];exact p) λf x p=>by rw[cP (o f x p)];exact p
   rcases j with rfl|j
   ·exact h
   ·rintro rfl;rcases l with k|k
    ·exact m f d j k
    ·rw[j]at k;cases k;exact ag rfl
end
structure fp(Y WD:List au)(g F:aA)(c ar:a4):Prop where
 keep:∀d n,c.get? d=Z n->g d=X->d∉Y->d∉WD->ar.get? d=Z n
 slot:∀d n,c.get? d=Z n->g d=X->d∈Y->d∉WD->∃aS,ar.get? d=Z {n with slots:=aS}
 free:∀d n,c.get? d=Z n->g d=X->d∉WD->F d=X
 kd:∀d n x,c.get? d=Z n->g d=Z (.tup x)->d∉WD->ar.get? d=Z n
 there:∀d n,c.get? d=Z n->d∉WD->∃WN,ar.get? d=Z WN
 jD:∀d x,g d=Z (.tup x)->F d=Z (.tup x)
 j7:∀d n I,g d=Z (.c6 n I)->F d=Z (.c6 n I)
 lN:∀d VV,g d=Z (.ny VV)->∃more,F d=Z (.ny<|VV++more)
section
variable{Y E WD e:List au}{g VT V8:aA}{c l t ar:a4}{h b a:au}{n:fz}
def fp.any(I:fp Y WD g VT c l){d:au}{WA:ba}(u:c.get? d=Z WA)(v:g d=X)(a:d∉WD):∃aS,l.get? d=Z {WA with slots:=aS}:=by
 by_cases ag:d∈Y
 ·exact I.slot d WA u v ag a
 ·exact⟨WA.slots,I.keep d WA u v ag a⟩
def fp.kept(s:∀d I,c.get? d=Z I->ar.get? d=Z I):fp Y WD g g c ar:=
 ⟨λd WA u W W W=>s d WA u,λd WA u W W W=>⟨WA.slots,s d WA u⟩,λ_ W W v W=>v,λd WA W u W W=>s d WA u,λd WA u W=>⟨WA,s d WA u⟩,λ_ W u=>u,λ_ W W u=>u,λ_ VV u=>⟨#[],by rw[u];simp⟩⟩
def fp.refl:fp Y WD g g c c:=fp.kept λ_ W u=>u
theorem fp.laid(s:∀d I,c.get? d=Z I->ar.get? d=Z I)(b:c.objs.size<=h)(a:g h=X):fp Y WD g (upd g h n) c ar where
 keep:=λd I u W W W=>s d I u
 slot:=λd I u W W W=>⟨I.slots,s d I u⟩
 free:=λd I u v W=>by rw[cP (dE<|eV (b9 u) b)];exact v
 kd:=λd I W u W W=>s d I u
 there:=λd I u W=>⟨I,s d I u⟩
 jD:=λd x u=>by rw[cP (hy u a)];exact u
 j7:=λd I x u=>by rw[cP (hy u a)];exact u
 lN:=λd VV u=>⟨#[],by rw[cP (hy u a),u];simp⟩
def fp.write(e:qo (g b))(h:a=b\/g a=Z (.own b))(s:∀d I,d≠a->c.get? d=Z I->ar.get? d=Z I)(l:∃I,ar.get? a=Z I):fp Y WD g (upd g b n) c ar:=by
 have i:∀d,g d=X->d≠b:=λd v k=>by subst k;rw[v]at e;exact e
 have ag:∀d,g d=X->d≠a:=λd v k=>by
  subst k;rcases h with p|p
  ·exact i d v p
  ·rw[v]at p;cases p
 have f:∀d I,g d=Z I->¬ qo (Z I)->d≠b:=λd I u w k=>by subst k;rw[u]at e;exact w e
 refine⟨λd I u v W W=>s d I (ag d v) u,λd I u v W W=>⟨I.slots,s d I (ag d v) u⟩,λd I u v W=>by rw[cP (i d v)];exact v,λd I x u H W=>s d I (λk=>by
   subst k;rcases h with p|p
   ·exact f d _ H (λk=>k) p
   ·rw[H]at p;cases p) u,λd I u W=>?_,
  λd x u=>by rw[cP (f d _ u λk=>k)];exact u,λd I x u=>by rw[cP (f d _ u λk=>k)];exact u,λd VV u=>⟨#[],by rw[cP (f d _ u λk=>k),u];simp⟩⟩
 by_cases j:d=a
 ·subst j;exact l
 ·exact⟨I,s d I j u⟩
end
def tX(c:a4)(g:aA):List au:=((range c.objs.size).filter λh=>(g h).isSome)
def Ht:List ah->Option (List af)
 |[.int j _,.int A _]=>Z [.int j,.int A]
 |_=>X
def qt(n:ba):Option (List af):=(
 match n.cls,n.dict,n.data with
 | .type "tuple",X,.seq VZ _=>Ht VZ.toList
 |_,_,_=>X)
def kp(n:ba):Option fz:=((qt n).map .tup)
def lj(c:a4)(g:aA):a4:=(PySem.W.hideAll c (tX c g))
def MF(c:a4)(g:aA):(lj c g).objs.size=c.objs.size:=PySem.W.hideAll_size _ _
def ML{n:ba}(a:c.get? d=Z n)(v:g d=X):(lj c g).get? d=Z n:=
 PySem.W.hideAll_get _ a λb=>by
  have u:(g d).isSome=ab:=(fE.mp b).2;rw[v]at u;simp at u
def Aa{n:ba}(a:(lj c g).get? d=Z n):c.get? d=Z n/\g d=X:=by
 have e:c.get? d=Z n:=PySem.W.of_hideAll (tX c g) a;refine⟨e,?_⟩;cases u:g d with
 |none=>rfl
 |some b=>
  have f:d∈tX c g:=fE.mpr ⟨j4.mpr<|b9 e,by simp[u]⟩;have k:(lj c g).get? d=X:=PySem.W.hideAll_none (tX c g) f;rw[k]at a;cases a
def RT(N c:a4)(V1:au):List (au×ba):=((range c.objs.size).filterMap λh=>if h=V1\/(N.get? h).isSome=ab then X else (c.get? h).map λn=>(h,n))
def d7(N c:a4)(V1 o:au):List (au×ba):=((RT N c V1).filter λq=>decide (q.1≠o))
structure Mod(U:Φ)(aL:aF->Option ah)(Wj:a4):Prop where
 Ah:U.In Wj
 glob:Wj.Ns ec aL
 blt:∃Hj,Wj.Ns tF Hj/\∀b:aF,b ≠ "__name__" -> Hj b=fw b
 nolimit:Wj.NoLimit
structure aM where
 prog:bu
 w:bf
 K:Φ
 aL:aF->Option ah
 base:a4
 A:bz
 N:List aF
 e7:aw
 m5:aA
 env:eN
 outer:List eN
 stack:List eN
 ex:List au
 fn:aF->Bool
 calm:Bool
 k6:List (au×ba)
 cJ:ah->aw->Prop
variable{e:aM}
def ig(J:List eN):List au:=(J.filterMap (·.frame))
abbrev aM.Y(e:aM):List au:=ig e.outer
def qy(B:gq)(b:aF):Prop:=(B.names.lookup b=Z .local\/B.names.lookup b=Z .cell\/B.names.lookup b=Z .free)
def jc(B:gq)(b:aF):Prop:=(B.names.lookup b=Z .local\/B.names.lookup b=Z .cell)
def Rz(VM:eN)(c:a4)(M:aF->Option ah)(b:aF)(I:ah):Prop:=(
 (VM.kindOf b=Z .local/\M b=Z I)\/((VM.kindOf b=Z .cell\/VM.kindOf b=Z .free)/\∃f,VM.cells.lookup b=Z f/\c.IsCell f (Z I)))
structure aM.Ok(e:aM):Prop where
 mod:Mod e.K e.aL e.base
 kind:e.env.scope.kind=.function
 glob:e.env.globals=ec
 blt:e.env.builtins=tF
 above:e.e7.heap.objs.size<=e.env.locals
 inj:∀b i f,e.env.cells.lookup b=Z f->e.env.cells.lookup i=Z f->b=i
 has:∀b,(e.env.kindOf b=Z .cell\/e.env.kindOf b=Z .free)->∃f,e.env.cells.lookup b=Z f
 om:∀b f,e.fn b=ab->e.env.cells.lookup b=Z f->e.e7.heap.objs.size<=f
 hd:e.calm=ab->e.A.handled=X
 frames:e.A.frames=Z e.stack
 r3:e.stack=e.outer\/(e.stack=e.env::e.outer/\e.env.frame=Z e.env.locals)
 w8:∀d∈e.ex,d≠e.env.locals/\∀b f,e.env.cells.lookup b=Z f->f≠d
 bs:∀d n,e.base.get? d=Z n->e.e7.heap.get? d=Z n/\e.m5 d=kp n
 lC:e.base.objs.size<=e.e7.heap.objs.size
 nx:∀d n,e.base.get? d=Z n->d∉e.ex
 pY:∀d∈e.ex,d∉e.Y
 iQ:e.e7.heap.FunFrames e.base e.outer
 oJ:∀d∈e.Y,e.m5 d=X
structure aI(e:aM)(G:List (au×ba))(y:List (Option af))(g:aA)(m:aw):Prop where
 ok:e.Ok
 os:m.os=e.e7.os
 bare:l9 m.gens
 base:fp e.Y e.ex e.m5 g e.e7.heap m.heap
 loc:∃M,m.heap.Ns e.env.locals M/\∀(j:Nat) (b:aF) (r:af),e.N[j]?=Z b->y[j]?=Z (Z r)->qy e.env.scope b->∃I,b1 r I/\Rz e.env m.heap M b I
 cell:∀b f,e.env.cells.lookup b=Z f->∃r,m.heap.IsCell f r
 free:g e.env.locals=X
 jr:∀b f,e.env.cells.lookup b=Z f->g f=X
 pin:∀q∈e.k6++G,m.heap.get? q.1=Z q.2/\g q.1=X/\q.1≠e.env.locals/\q.1∉e.Y/\∀r,q.2.data≠.cell r
 aV:eh e.prog e.w g m.heap
 len:y.length=e.N.length
section
variable{e:aM}{G:List (au×ba)}{y:List (Option af)}{g F:aA}{m:aw}{ar:a4}
def aM.Ok.Qe(ok:e.Ok){d:au}{n:ba}(a:e.base.get? d=Z n):d∉e.Y:=λag=>by
 have:=(ok.iQ.mem ag).1;rw[a]at this;cases this
def aI.bs(B:aI e G y g m):∀d n,e.base.get? d=Z n->m.heap.get? d=Z n/\g d=kp n:=λd n a=>by
 let⟨l,t⟩:=B.ok.bs d n a;cases f:qt n with
 |none=>
  have v:e.m5 d=X:=t.trans (by rw[kp,f];rfl);exact⟨B.base.keep d n l v (B.ok.Qe a)<|B.ok.nx d n a,(B.base.free d n l v<|B.ok.nx d n a).trans<|v.symm.trans t⟩
 |some x=>
  have H:e.m5 d=Z (.tup x):=t.trans (by rw[kp,f];rfl);exact⟨B.base.kd d n x l H<|B.ok.nx d n a,(B.base.jD d x H).trans<|H.symm.trans t⟩
def aI.e8(B:aI e G y g m):∀d n,e.base.get? d=Z n->m.heap.get? d=Z n:=λd n a=>(B.bs d n a).1
def aI.mod(B:aI e G y g m):Mod e.K e.aL e.base:=B.ok.mod
def aI.o2(B:aI e G y g m):e.K.In m.heap:=B.ok.mod.Ah.keeps B.e8
def aI.lt(B:aI e G y g m):e.env.locals<m.heap.objs.size:=let ⟨_,a,_⟩:=B.loc;a.lt
def aI.dj(B:aI e G y g m):e.e7.heap.objs.size<=m.heap.objs.size:=dN B.ok.above (rb B.lt)
def aI.Tz(B:aI e G y g m){h:au}(c:m.heap.objs.size<=h):h∉e.Y:=λag=>by
 let@⟨_,⟨@n,a,_⟩⟩:=B.ok.iQ.mem ag;exact absurd (eV (b9 a)<|dN B.dj c) (iF _)
def aI.nf(B:aI e G y g m):∀b f,e.env.cells.lookup b=Z f->f≠e.env.locals:=λb f a k=>by
 let⟨r,@n,c,hd⟩:=B.cell b f a;let⟨@M,⟨WN,Q,@WI,d,h,Y⟩,Y⟩:=B.loc;rw[k,d]at c;cases c;rw[h]at hd;cases hd
def aI.iQ(B:aI e G y g m):m.heap.FunFrames e.base e.outer:=by
 have all:∀(J:List eN),(∀d∈ig J,d∈e.Y)->e.e7.heap.FunFrames e.base J->m.heap.FunFrames e.base J:=by
  intro J;induction J with
  |nil=>intro W W;trivial
  |cons VM p h=>
   intro f i;let@⟨j,⟨V1,@n,b,l,o,hd⟩,q⟩:=i;have c:V1∈e.Y:=f V1 (by unfold ig;rw[xf,b];exact md);let⟨@aS,a⟩:=B.base.slot V1 n o (B.ok.oJ V1 c) c λk=>B.ok.pY V1 k c;exact⟨j,⟨V1,_,b,l,a,hd⟩,h (λd ag=>f d (by unfold ig;rw[xf,b];exact kL _ ag)) q⟩
 exact all e.outer (λ_ ag=>ag) B.ok.iQ
def aI.stack(B:aI e G y g m):m.heap.FunFrames e.base e.stack:=by
 rcases B.ok.r3 with a|⟨a,b⟩
 ·rw[a];exact B.iQ
 ·rw[a];let⟨@M,c,Y⟩:=B.loc;refine .cons (by rw[B.ok.kind];decide) b c ?_ B.iQ;exact z0 (dN B.ok.lC B.ok.above)
def aI.wJ(B:aI e G y g m):∀d∈ig e.stack,d∈e.env.locals::e.Y:=λd ag=>by
 rcases B.ok.r3 with a|⟨a,b⟩
 ·rw[a]at ag;exact kL _ ag
 ·rw[a]at ag;unfold ig at ag;rw[xf,b]at ag;exact ag
def aI.Fo(B:aI e G y g m):∀d∈ig e.stack,g d=X:=λd ag=>by
 rcases bR.mp (B.wJ d ag) with a|ag
 ·rw[a];exact B.free
 ·let@⟨_,⟨@n,b,_⟩⟩:=B.ok.iQ.mem ag;exact B.base.free d n b (B.ok.oJ d ag) λk=>B.ok.pY d k ag
def aI.step{L:Array pE}{Wr:Nat}{T:Drawn}{WZ:List au}(B:aI e G y g m)(l:∀d∈WZ,(d∈e.ex\/e.e7.heap.objs.size<=d)/\d≠e.env.locals/\(∀b f,e.env.cells.lookup b=Z f->f≠d)/\∀q∈e.k6++G,q.1≠d)(keep:∀d n,d≠e.env.locals->d∉e.Y->d∉WZ->m.heap.get? d=Z n->g d=X->ar.get? d=Z n)(N:∀d n,d≠e.env.locals->d∈e.Y->d∉WZ->m.heap.get? d=Z n->g d=X->∃aS,ar.get? d=Z {n with slots:=aS})(D:∀d n,d∉WZ->m.heap.get? d=Z n->g d=X->F d=X)(U:∀d n,d∉WZ->m.heap.get? d=Z n->∃WN,ar.get? d=Z WN)(kd:∀d n x,d∉WZ->m.heap.get? d=Z n->g d=Z (.tup x)->ar.get? d=Z n)(jD:∀d x,g d=Z (.tup x)->F d=Z (.tup x))(j7:∀d n I,g d=Z (.c6 n I)->F d=Z (.c6 n I))(lN:∀d VV,g d=Z (.ny VV)->∃al,F d=Z (.ny<|VV++al))(V4:∀M,m.heap.Ns e.env.locals M->ar.Ns e.env.locals M)(aV:eh e.prog e.w F ar)(am:l9 L):
  aI e G y F {m with heap:=ar,gens:=L,drawn:=T,toks:=Wr}:=by
 have O:∀d n,e.e7.heap.get? d=Z n->d≠e.env.locals:=λd n a=>dE (eV (b9 a) B.ok.above);have t:∀d n,e.e7.heap.get? d=Z n->d∉e.ex->d∉WZ:=λd n a c ag=>by
  rcases (l d ag).1 with k|k
  ·exact c k
  ·exact absurd (eV (b9 a) k) (iF _)
 have P:∀b f,e.env.cells.lookup b=Z f->∀r,m.heap.IsCell f r->ar.IsCell f r:=λb f a r ⟨n,i,hd⟩=>by
  have z:f∉WZ:=λk=>(l f k).2.2.1 b f a rfl;by_cases Q:f∈e.Y
  ·let⟨@aS,u⟩:=N f n (B.nf b f a) Q z i (B.jr b f a);exact⟨_,u,hd⟩
  ·exact⟨n,keep f n (B.nf b f a) Q z i<|B.jr b f a,hd⟩
 refine⟨B.ok,B.os,am,⟨λd n a v ag c=>?_,λd n a v ag c=>?_,λd n a v c=>?_,λd n x a H c=>kd d n x (t d n a c) (B.base.kd d n x a H c)<|B.base.jD d x H,λd n a c=>?_,λd x a=>jD d x<|B.base.jD d x a,λd n x a=>j7 d n x<|B.base.j7 d n x a,λd VV a=>?_⟩,?_,λb f a=>?_,?_,λb f a=>?_,λq R=>?_,aV,B.len⟩
 ·exact keep d n (O d n a) ag (t d n a c) (B.base.keep d n a v ag c) (B.base.free d n a v c)
 ·let⟨@aS,h⟩:=B.base.slot d n a v ag c;let⟨@an,A⟩:=N d _ (O d n a) ag (t d n a c) h (B.base.free d n a v c);exact⟨an,A⟩
 ·let⟨@WN,h⟩:=B.base.there d n a c;exact D d WN (t d n a c) h (B.base.free d n a v c)
 ·let⟨@WN,h⟩:=B.base.there d n a c;exact U d WN (t d n a c) h
 ·let⟨@ap,h⟩:=B.base.lN d VV a;let⟨@as,A⟩:=lN d _ h;exact⟨ap++as,by rw[A,Array.append_assoc]⟩
 ·let⟨@M,a1,a2⟩:=B.loc;refine⟨M,V4 M a1,λj b r h A bd=>?_⟩;let⟨@I,p,J⟩:=a2 j b r h A bd;refine⟨I,p,?_⟩;rcases J with J|⟨s,f,a,k⟩
  ·exact .inl J
  ·exact .inr ⟨s,f,a,P b f a _ k⟩
 ·let⟨@r,k⟩:=B.cell b f a;exact⟨r,P b f a r k⟩
 ·let⟨@M,⟨n,W,@W,i,W⟩,W⟩:=B.loc;exact D _ n (λk=>(l _ k).2.1 rfl) i B.free
 ·let⟨r,@n,i,hd⟩:=B.cell b f a;exact D f n (λk=>(l f k).2.2.1 b f a rfl) i (B.jr b f a)
 ·let@⟨a,v,ne,S,o⟩:=B.pin q R;have z:q.1∉WZ:=λk=>(l q.1 k).2.2.2 q R rfl;exact⟨keep q.1 q.2 ne S z a v,D q.1 q.2 z a v,ne,S,o⟩
def aI.un(B:aI e G y g m)(I:fp e.Y [] g F m.heap ar)(aV:eh e.prog e.w F ar):aI e G y F {m with heap:=ar,toks:=Wr}:=by
 let⟨@M,⟨n,Q,@WI,b,p⟩,W⟩:=id B.loc;let⟨@aS,f⟩:=I.any b B.free ↥0;exact B.step (L:=m.gens) (T:=m.drawn) (WZ:=[]) (λ_ k=>nomatch k) (λd n W ag W a v=>I.keep d n a v ag ↥0) (λd n W ag W a v=>I.slot d n a v ag ↥0) (λd n W a v=>I.free d n a v ↥0) (λd n W a=>I.there d n a ↥0) (λd n x W a H=>I.kd d n x a H ↥0) I.jD I.j7 I.lN (λq h=>by
  let⟨WN,i,@j,c,WK⟩:=h;rw[b]at c;cases c;exact⟨_,i,j,f,WK⟩) aV B.bare
def aI.call{i:Array pE}{r:Drawn}(B:aI e G y g m)(I:fp (ig e.stack) WZ g F m.heap ar)(aV:eh e.prog e.w F ar)(s:l9 i)(j:∀d∈WZ,(d∈e.ex\/e.e7.heap.objs.size<=d)/\d≠e.env.locals/\(∀b f,e.env.cells.lookup b=Z f->f≠d)/\∀q∈e.k6++G,q.1≠d):
  aI e G y F {m with heap:=ar,gens:=i,drawn:=r,toks:=Wr}:=by
 let⟨@M,⟨n,Q,@WI,l,p⟩,Y⟩:=id B.loc;let⟨@aS,h⟩:=I.any l B.free λk=>(j _ k).2.1 rfl;exact B.step (WZ:=WZ) j (λd n h ag c a v=>I.keep d n a v (λk=>(bR.mp<|B.wJ d k).elim h ag) c) (λd n Y Y c a v=>I.any a v c) (λd n c a v=>I.free d n a v c) (λd n c a=>I.there d n a c) (λd n x c a H=>I.kd d n x a H c) I.jD I.j7 I.lN (λA t=>by
  let⟨WN,u,@z,o,WK⟩:=t;rw[l]at o;cases o;exact⟨_,u,z,h,WK⟩) aV s
def aI.turned{aO:au}(B:aI e G y g m)(s:∀d n,d≠aO->m.heap.get? d=Z n->ar.get? d=Z n)(j:g aO=X)(h:aO≠e.env.locals)(l:aO∈e.ex\/e.e7.heap.objs.size<=aO)(t:∀b f,e.env.cells.lookup b=Z f->f≠aO)(o:∀q∈e.k6++G,q.1≠aO):aI e G y g {m with heap:=ar,toks:=Wr}:=by
 have i:∀d I,g d=Z I->d≠aO:=λd I a k=>by rw[k,j]at a;cases a
 refine B.step (L:=m.gens) (T:=m.drawn) (WZ:=[aO]) (λd ag=>?_) (λd n Y Y c a Y=>s d n (λk=>c (by simp[k])) a) (λd n Y Y c a Y=>⟨n.slots,s d n (λk=>c (by simp[k])) a⟩) (λ_ Y Y Y v=>v)
  (λd n c a=>⟨n,s d n (λk=>c (by simp[k])) a⟩) (λd n Y c a Y=>s d n (λk=>c (by simp[k])) a) (λ_ Y a=>a) (λ_ Y Y a=>a) (λd VV a=>⟨#[],by rw[a];simp⟩) (λM w=>?_) (λd I a=>?_) B.bare
 ·have a:d=aO:=by simpa using ag
  subst a;exact⟨l,h,t,o⟩
 ·let⟨n,Q,@WI,x,p⟩:=w;exact⟨n,Q,WI,s _ n (dY h) x,p⟩
 ·refine (B.aV d I a).gb (λf r c u=>s f r ?_ u) (λ_ u=>u) λ_ Y u=>u;rcases c with k|k
  ·rw[k];exact i d I a
  ·exact i f _ k
def aI.tok(B:aI e G y g m)(H:Nat):aI e G y g {m with toks:=H}:=B.un (ar:=m.heap) (Wr:=H) fp.refl B.aV
def aI.kept(B:aI e G y g m)(s:∀d I,m.heap.get? d=Z I->ar.get? d=Z I):aI e G y g {m with heap:=ar,toks:=Wr}:=B.un (fp.kept s) (B.aV.kept s)
def aI.laid(B:aI e G y g m)(s:∀d I,m.heap.get? d=Z I->ar.get? d=Z I)(a:m.heap.objs.size<=h)(new:ee e.prog e.w (upd g h n) ar h n):
  aI e G y (upd g h n) {m with heap:=ar,toks:=Wr}:=B.un (fp.laid s a<|B.aV.fresh a) (B.aV.laid s a new)
def aI.write{b a:au}(B:aI e G y g m)(c:qo (g b))(f:a=b\/g a=Z (.own b))(s:∀d I,d≠a->m.heap.get? d=Z I->ar.get? d=Z I)(h:∃I,ar.get? a=Z I)(new:ee e.prog e.w (upd g b n) ar b n):aI e G y (upd g b n) {m with heap:=ar,toks:=Wr}:=B.un (fp.write c f s h) (B.aV.write c f s h new)
def aI.weak{a:List (Option af)}(B:aI e G y g m)(c:a.length=y.length)(C:∀(j:Nat) r,a[j]?=Z (Z r)->y[j]?=Z (Z r)):aI e G a g m:=
 ⟨B.ok,B.os,B.bare,B.base,let ⟨M,d,f⟩:=B.loc;⟨M,d,λj b r h i k=>f j b r h (C j r i) k⟩,B.cell,B.free,B.jr,B.pin,B.aV,c.trans B.len⟩
def aI.p4{a:List (au×ba)}(B:aI e G y g m)(c:∀q∈a,m.heap.get? q.1=Z q.2/\g q.1=X/\q.1≠e.env.locals/\q.1∉e.Y/\∀r,q.2.data≠.cell r):aI e a y g m:=
 ⟨B.ok,B.os,B.bare,B.base,B.loc,B.cell,B.free,B.jr,λq b=>(d8.mp b).elim (λk=>B.pin q<|eb _ k)<|c q,B.aV,B.len⟩
def GX(a:Wm.Nodup){j A:Nat}{b:aF}(h:Wm[j]?=Z b)(d:Wm[A]?=Z b):j=A:=by
 let⟨@l,c⟩:=fM.mp h;let⟨@t,e⟩:=fM.mp d;exact (BG a).mp (c.trans e.symm)
variable{D:Unit->aw->Prop}
def IP{aD:mr}(B:aI e G y g m)(a1:e.N.Nodup)(VW:e.N[j]?=Z b)(z:jc e.env.scope b)(p:b1 r I)(c:∀VY,aI e G (y.set j<|Z r) g VY->(∃h,a4.SameBut h m.heap VY.heap/\(h=e.env.locals\/e.env.cells.lookup b=Z h))->D () VY)(bv:e.fn b=ab\/e.env.scope.names.lookup b=Z .local:=by first|exact .inl rfl|exact .inr rfl|assumption):wpAny aD O (Ar e.env b I) D VP m:=by
 let⟨@M,U,a2⟩:=id B.loc;have ca:(e.env.scope.kind==.class || (e.env.scope.kind==.module&&e.env.locals != e.env.globals))=az:=by rw[B.ok.kind];rfl
 have bd:j<y.length:=by rw[B.len];exact (fM.mp VW).1
 have nf:=B.nf;have be:∀{h:au}{ar:a4},(∃n,m.heap.get? h=Z n/\g h=X)->a4.SameBut h m.heap ar->eh e.prog e.w g ar:=λ{h ar} av l d WA a=>by
  let⟨@Y,Y,bi⟩:=av;refine (B.aV d WA a).gb (λf R J u=>(l.2 f ?_).trans u) (λ_ u=>u) λ_ Y u=>u;rintro rfl;rcases J with rfl|J
  ·rw[bi]at a;cases a
  ·rw[bi]at J;cases J
 rcases z with P|P
 ·refine wpAny_storeName_local P U (λar cd l=>?_) ca;let⟨ce,Y,@Y,ch,Y⟩:=id U;refine c _ ⟨B.ok,B.os,B.bare,⟨λd n a v ag z=>?_,λd n a v ag z=>?_,B.base.free,λd n x a H z=>(l.2 d<|dE<|eV (b9 a) B.ok.above).trans<|B.base.kd d n x a H z,λd n a z=>?_,B.base.jD,B.base.j7,B.base.lN⟩,⟨_,cd,λA i al F L am=>?_⟩,λi f a=>?_,B.free,B.jr,λq an=>?_,be ⟨ce,ch,B.free⟩ l,by simpa using B.len⟩ ⟨_,l,.inl rfl⟩
  ·exact (l.2 d<|dE<|eV (b9 a) B.ok.above).trans (B.base.keep d n a v ag z)
  ·let⟨@aS,F⟩:=B.base.slot d n a v ag z;exact⟨aS,(l.2 d<|dE<|eV (b9 a) B.ok.above).trans F⟩
  ·let⟨@WN,F⟩:=B.base.there d n a z;exact⟨WN,(l.2 d<|dE<|eV (b9 a) B.ok.above).trans F⟩
  ·by_cases Q:A=j
   ·subst Q;rw[VW]at F;cases F;rw[tR bd]at L;cases L;exact⟨I,p,.inl ⟨P,by simp⟩⟩
   ·rw[n6 (dY Q)]at L;let⟨@ap,WK,u⟩:=a2 A i al F L am;refine⟨ap,WK,?_⟩;rcases u with ⟨s,a⟩|⟨s,f,a,k⟩
    ·refine .inl ⟨s,?_⟩;have:i≠b:=λa=>Q (GX a1 F<|a ▸ VW);simp[this,a]
    ·exact .inr ⟨s,f,a,k.sameBut l<|nf i f a⟩
  ·let⟨@R,k⟩:=B.cell i f a;exact⟨R,k.sameBut l<|nf i f a⟩
  ·let@⟨a,v,ne,as,o⟩:=B.pin q an;exact⟨(l.2 q.1 ne).trans a,v,ne,as,o⟩
 ·have S:e.fn b=ab:=by
   rcases bv with k|k
   ·exact k
   ·rw[k]at P;cases P
  let⟨@f,J⟩:=B.ok.has b (.inl P);let⟨@R,k⟩:=B.cell b f J;refine wpAny_storeName_cell B.ok.kind P J k (λar bm l=>?_);let⟨@t,bn,ci⟩:=id k;refine c {m with heap:=ar} ⟨B.ok,B.os,B.bare,⟨λd n a v ag z=>?_,λd n a v ag z=>?_,B.base.free,λd n x a H z=>(l.2 d<|dE<|eV (b9 a)<|B.ok.om b f S J).trans<|B.base.kd d n x a H z,λd n a z=>?_,B.base.jD,B.base.j7,B.base.lN⟩,⟨M,U.sameBut l<|dY<|nf b f J,λA i al F L am=>?_⟩,λi T a=>?_,B.free,B.jr,λq an=>?_,be ⟨t,bn,B.jr b f J⟩ l,by simpa using B.len⟩ ⟨f,l,.inr J⟩
  ·exact (l.2 d<|dE<|eV (b9 a)<|B.ok.om b f S J).trans (B.base.keep d n a v ag z)
  ·let⟨@aS,F⟩:=B.base.slot d n a v ag z;exact⟨aS,(l.2 d<|dE<|eV (b9 a)<|B.ok.om b f S J).trans F⟩
  ·let⟨@WN,F⟩:=B.base.there d n a z;exact⟨WN,(l.2 d<|dE<|eV (b9 a)<|B.ok.om b f S J).trans F⟩
  ·by_cases Q:A=j
   ·subst Q;rw[VW]at F;cases F;rw[tR bd]at L;cases L;exact⟨I,p,.inr ⟨.inl P,f,J,bm⟩⟩
   ·rw[n6 (dY Q)]at L;let⟨@ap,WK,u⟩:=a2 A i al F L am;refine⟨ap,WK,?_⟩;rcases u with u|⟨s,T,a,cl⟩
    ·exact .inl u
    ·refine .inr ⟨s,T,a,cl.sameBut l ?_⟩;rintro rfl;exact Q (GX a1 F<|B.ok.inj _ _ _ a J ▸ VW)
  ·by_cases bs:T=f
   ·subst bs;exact⟨_,bm⟩
   ·let⟨@co,cr⟩:=B.cell i T a;exact⟨co,cr.sameBut l bs⟩
  ·let@⟨a,v,ne,as,o⟩:=B.pin q an;refine⟨(l.2 q.1 ?_).trans a,v,ne,as,o⟩;intro u;rw[u,bn]at a;have dK:t=q.2:=Option.some.inj a;exact o R (by rw[<-dK];exact ci)
def rp{aD:mr}(B:aI e G y g m)(a:e.N.Nodup)(VW:e.N[j]?=Z b)(d:jc e.env.scope b)(p:b1 r I)(c:∀VY,aI e G (y.set j<|Z r) g VY->D () VY)(f:e.fn b=ab\/e.env.scope.names.lookup b=Z .local:=by first|exact .inl rfl|exact .inr rfl|assumption):wpAny aD O (Ar e.env b I) D VP m:=
 IP B a VW d p (λVY h Y=>c VY h) f
def aI.S0(B:aI e G y g m)(i:VY.os=m.os)(I:fp (ig e.stack) WZ g F m.heap VY.heap)(aV:eh e.prog e.w F VY.heap)(j:l9 VY.gens)(k:∀d∈WZ,(d∈e.ex\/e.e7.heap.objs.size<=d)/\d≠e.env.locals/\(∀b f,e.env.cells.lookup b=Z f->f≠d)/\∀q∈e.k6++G,q.1≠d):aI e G y F VY:=by
 let⟨ar,c,h,Wr,WN⟩:=VY;have a:WN=m.os:=i;subst a;exact B.call (i:=c) (Wr:=Wr) (r:=h) I aV j k
end
abbrev gK:=ah->Option au->aA->Prop
abbrev a3:=List (Option af)
variable{y:a3}
abbrev cj:=af->aA->Prop
abbrev bU:=a3->aA->cj->Prop
variable{WX:bU}
abbrev ew:=a3->aA->(Bool->aA->Prop)->Prop
variable{Xh:ew}
abbrev eT:=a3->aA->(List af->aA->Prop)->Prop
variable{WC:eT}
structure ng where
 a8:a3->aA->Prop
 eQ:cj
 e8:a3->aA->Prop:=λ_ _=>False
 ct:a3->aA->Prop:=λ_ _=>False
abbrev eR:=ng->a3->aA->Prop
variable{We:eR}
def eB(e:aM)(G:List (au×ba))(y:a3)(D:cj)(I:ah)(VY:aw):Prop:=(∃r F,aI e G y F VY/\b1 r I/\D r F)
def um(e:aM)(G:List (au×ba))(y:a3)(D:Bool->aA->Prop)(d:Bool)(VY:aw):Prop:=(∃F,aI e G y F VY/\D d F)
def PM(e:aM)(G:List (au×ba))(y:a3)(D:List af->aA->Prop)(Wc:List ah)(VY:aw):Prop:=(∃P F,aI e G y F VY/\bZ P Wc/\D P F)
def oz(e:aM)(G:List (au×ba))(w:ng)(z:Flow)(VY:aw):Prop:=(
 match z with
 |.next=>∃a F,aI e G a F VY/\w.a8 a F
 |.brk=>∃a F,aI e G a F VY/\w.e8 a F
 |.cont=>∃a F,aI e G a F VY/\w.ct a F
 |.ret I=>∃r a F,aI e G a F VY/\b1 r I/\w.eQ r F)
def y5(e:aM)(a:a7)(H:bU)(G:List (au×ba)):Prop:=(
 ∀(m:aw) (y:a3) (g:aA) (D:cj),aI e G y g m->H y g D->wpAny (aT e.prog e.w) e.A (bM a e.env) (eB e G y D) e.cJ m)
def bj(e:aM)(a:a7)(H:bU):Prop:=(∀G,y5 e a H G)
def D4(e:aM)(a:a7)(H:ew)(G:List (au×ba)):Prop:=(
 ∀(m:aw) (y:a3) (g:aA) (D:Bool->aA->Prop),aI e G y g m->H y g D->wpAny (aT e.prog e.w) e.A (n5 a e.env<|bM a e.env) (um e G y D) e.cJ m)
def hq(e:aM)(a:a7)(H:ew):Prop:=(∀G,D4 e a H G)
def JG(e:aM)(a:a7)(H:ew)(b:fK ah):Prop:=(
 ∀(G:List (au×ba)) (m:aw) (y:a3) (g:aA) (D:Bool->aA->Prop),aI e G y g m->H y g D->wpAny (aT e.prog e.w) e.A (n5 a e.env b) (um e G y D) e.cJ m)
def ki(e:aM)(a:a7)(H:ew):Prop:=(∀b,JG e a H b)
def ki.pt{H:ew}(c:ki e a H):hq e a H:=c _
def F0(e:aM)(Q:List a7)(H:eT)(V3:cw):Prop:=(
 ∀(G:List (au×ba)) (m:aw) (y:a3) (g:aA) (D:List af->aA->Prop),aI e G y g m->H y g D->wpAny (aT e.prog e.w) e.A (spliced<|eF V3<|bA Q e.env) (PM e G y D) e.cJ m)
def hl(e:aM)(Q:List a7)(H:eT):Prop:=(∀V3,F0 e Q H V3)
def Df(e:aM)(R:cg)(H:eR)(G:List (au×ba)):Prop:=(
 ∀(m:aw) (y:a3) (g:aA) (w:ng),aI e G y g m->H w y g->wpAny (aT e.prog e.w) e.A (exec R e.env) (oz e G w) e.cJ m)
def hh(e:aM)(R:cg)(H:eR):Prop:=(∀G,Df e R H G)
def Cp(e:aM)(R:List cg)(H:eR)(G:List (au×ba)):Prop:=(
 ∀(m:aw) (y:a3) (g:aA) (w:ng),aI e G y g m->H w y g->wpAny (aT e.prog e.w) e.A (execs R e.env) (oz e G w) e.cJ m)
def hN(e:aM)(R:List cg)(H:eR):Prop:=(∀G,Cp e R H G)
def bK{V7:Type}{H:fK V7}{D a:V7->aw->Prop}{aD:mr}(c:wpAny aD O H D VP m)(d:∀h m,D h m->a h m):wpAny aD O H a VP m:=hg c d λ_ Y b=>b
section
variable{e:aM}
def gY(j:Nat):bU:=(λy g D=>∃r,y[j]?=Z (Z r)/\D r g)
def od(r:af):bU:=(λ_ g D=>D r g)
def J5(k:e.N[j]?=Z b)(l:qy e.env.scope b)(hd:(b==("__debug__" : aF))=az:=by decide)(n:(b==("__classdict__" : aF))=az:=by decide):bj e (.Name b V3) (gY j):=by
 intro G m y g D B c;let⟨@r,a,c⟩:=c;let⟨@M,o,q⟩:=B.loc;let⟨@I,p,J⟩:=q j b r k a l;have fin:eB e G y D I m:=⟨r,g,B,p,c⟩;rcases J with ⟨d,s⟩|⟨d,f,h,i⟩
 ·exact v7 (JS B.ok.kind d o s fin) hd
 ·rcases d with d|d
  ·exact v7 (Gi B.ok.kind d h i fin) hd
  ·exact v7 (wpAny_loadName_free B.ok.kind d h i fin n) hd
def n8{j A V3}:bj e (.Constant (.int j) A V3) (od<|.int j):=λ_ Y Y g Y B c=>wpAny_Constant_int ⟨.int j,g,B.tok _,⟨_,rfl⟩,c⟩
def So{d A V3}:bj e (.Constant (.bool d) A V3) (od<|.aJ d):=λ_ Y Y g Y B c=>Constant_bool ⟨.aJ d,g,B,rfl,c⟩
def eU(e:aM)(b:aF):Prop:=(e.env.kindOf b=Z .globalImplicit)
def GS(B:aI e G y g m)(a:eU e b)(d:e.aL b=Z I)(c:D I m)(hd:(b==("__debug__" : aF))=az:=by decide):wpAny (aT e.prog e.w) e.A (bM (.Name b V3) e.env) D VP m:=
 CQ B.ok.kind a (Calls.loadGlobal_global (by rw[B.ok.glob];exact B.mod.glob.keeps B.e8) d c) hd
def mM(B:aI e G y g m)(a:eU e b)(d:e.aL b=X)(f:fw b=Z I)(c:D I m)(h:b ≠ "__name__" := by decide)(hd:(b==("__debug__" : aF))=az:=by decide):wpAny (aT e.prog e.w) e.A (bM (.Name b V3) e.env) D VP m:=by
 let⟨@i,l,t⟩:=B.mod.blt;exact CQ B.ok.kind a (Calls.loadGlobal_builtin (by rw[B.ok.glob];exact B.mod.glob.keeps B.e8) d (by rw[B.ok.blt];exact l.keeps B.e8) ((t b h).trans f) c) hd
def RC(a:eU e b)(d:e.aL b=Z I)(p:b1 r I)(hd:(b==("__debug__" : aF))=az:=by decide):bj e (.Name b V3) (od r):=
 λ_ Y Y g Y B c=>GS B a d ⟨r,g,B,p,c⟩ hd
def Pu(a:eU e b)(d:e.aL b=X)(f:fw b=Z I)(p:b1 r I)(h:b ≠ "__name__" := by decide)(hd:(b==("__debug__" : aF))=az:=by decide):bj e (.Name b V3) (od r):=
 λ_ Y Y g Y B c=>mM B a d f ⟨r,g,B,p,c⟩ h hd
variable{h d:a7}{WC We:bU}{V3:cw}
variable{hi k:ew}{d7:List a7}
def A6(H I:ew):ew:=(λy g D=>H y g λf VT=>if f=ab then I y VT D else D az VT)
def JQ(H I:ew):ew:=(λy g D=>H y g λf VT=>if f=ab then D ab VT else I y VT D)
def RW(H:ew):ew:=(λy g D=>H y g λf VT=>D (!f) VT)
def LR(av:hq e h hi):ki e (.BoolOp .And [h] V3) hi:=by
 intro b G m y g D B c;refine isTrue_and (bK (av G m y g D B c) λf d a=>?_);cases f with
 |true=>exact isTrue_and_nil a
 |false=>exact a
def QH(av:hq e h hi):ki e (.BoolOp .Or [h] V3) hi:=by
 intro b G m y g D B c;refine isTrue_or (bK (av G m y g D B c) λf d a=>?_);cases f with
 |false=>exact isTrue_or_nil a
 |true=>exact a
def Ss(av:hq e h hi)(ag:ki e (.BoolOp .And (d::d7) V3) k):ki e (.BoolOp .And (h::d::d7) V3) (A6 hi k):=by
 intro i G m y g D B c;refine isTrue_and (bK (av G m y g _ B c) λf j l=>?_);let⟨@VT,a,b⟩:=l;cases f with
 |true=>exact ag i G j y VT D a b
 |false=>exact⟨VT,a,b⟩
def PN(av:hq e h hi)(ag:ki e (.BoolOp .Or (d::d7) V3) k):ki e (.BoolOp .Or (h::d::d7) V3) (JQ hi k):=by
 intro i G m y g D B c;refine isTrue_or (bK (av G m y g _ B c) λf j l=>?_);let⟨@VT,a,b⟩:=l;cases f with
 |true=>exact⟨VT,a,b⟩
 |false=>exact ag i G j y VT D a b
def TN(av:hq e h hi):hq e (.UnaryOp .Not h V3) (RW hi):=by
 intro G m y g D B c;exact isTrue_not (av G m y g (λf VT=>D (!f) VT) B c)
def OI(WC We:bU):bU:=(λy g D=>WC y g λb VT=>∃f,b=.aJ f/\if f=ab then We y VT D else D (.aJ az) VT)
def NK(WC:bU):bU:=(λy g D=>WC y g λb VT=>∃f,b=.aJ f/\D (.aJ<|!f) VT)
def Tg{Wx}{H:bU}(c:bj e h H):bj e (.BoolOp Wx [h] V3) H:=λG m y g D B a=>BoolOp_one (c G m y g D B a)
def Lj(av:bj e h WC)(ag:bj e (.BoolOp .And (d::d7) V3) We):bj e (.BoolOp .And (h::d::d7) V3) (OI WC We):=by
 intro G m y g D B c;refine BoolOp_and (bK (av G m y g _ B c) λr j k=>?_);let⟨b,@VT,i,l,a⟩:=k;let⟨@f,rfl,a⟩:=a;cases l;refine lY ?_;cases f with
 |true=>exact ag G j y VT D i a
 |false=>exact⟨.aJ az,VT,i,rfl,a⟩
def Qw(av:bj e h WC):bj e (.UnaryOp .Not h V3) (NK WC):=by
 intro G m y g D B c;refine UnaryOp_ (bK (av G m y g _ B c) λr k d=>?_);let⟨b,@VT,i,j,a⟩:=d;let⟨@f,rfl,a⟩:=a;cases j;exact not_of (lY ⟨.aJ<|!f,VT,i,rfl,a⟩)
def Ph(H:ew)(WC We:bU):bU:=(λy g D=>H y g λf VT=>if f=ab then WC y VT D else We y VT D)
def RH(j:hq e f hi)(av:bj e h WC)(ag:bj e d We):bj e (.IfExp f h d V3) (Ph hi WC We):=by
 intro G m y g D B c;refine wpAny_IfExp (bK (j G m y g _ B c) λo a k=>?_);let⟨@VT,b,i⟩:=k;cases o with
 |true=>exact av G a y VT D b i
 |false=>exact ag G a y VT D b i
end
def dv(U:Φ)(g:aA)(h:au)(x:List af):Prop:=(
 gS g h (.lst x)\/
  ∃(n:ba) (VZ:Array ah) (v:Nat),U.lookup h=Z n/\n.cls=.type "list" /\ n.dict=X/\n.data=.seq VZ v/\VZ.size<=sizeLine/\bZ x VZ.toList)
def cC(U:Φ)(g:aA)(h:au)(x:List af):Prop:=(
 gS g h (.tup x)\/
  ∃(n:ba) (VZ:Array ah) (v:Nat),U.lookup h=Z n/\n.cls=.type "tuple" /\ n.data=.seq VZ v/\VZ.size<=sizeLine/\bZ x VZ.toList)
def SM:ah->Option af
 |.none=>Z .aP
 |.bool d=>Z (.aJ d)
 |.int j _=>Z (.int j)
 |.str b _=>Z (.str b)
 |.bytes d _=>Z (.rX d)
 |.float d _=>Z (.AE d)
 |.ref h=>Z (.ref h)
 |.type v=>Z (.ty v)
 |_=>X
def b1.abs{b:af}(p:b1 b I):SM I=Z b:=by
 cases b with
 |aP=>cases p;rfl
 |aJ _=>cases p;rfl
 |int _=>let⟨@H,rfl⟩:=p;rfl
 |str _=>let⟨@H,rfl⟩:=p;rfl
 |rX _=>let⟨@H,rfl⟩:=p;rfl
 |AE _=>let⟨@H,rfl⟩:=p;rfl
 |ref _=>cases p;rfl
 |ty _=>cases p;rfl
def b1.inj{b:af}(p:b1 b I)(u:b1 i I):b=i:=Option.some.inj (p.abs.symm.trans u.abs)
theorem bZ.inj:∀{x V5:List af}{Wc:List ah},bZ x Wc->bZ V5 Wc->x=V5
 |_,_,_,.nil,.nil=>rfl
 |_,_,_,.cons p H,.cons WK Wr=>by rw[p.inj WK,bZ.inj H Wr]
section
variable{e:aM}{G:List (au×ba)}{y:a3}{g:aA}{m:aw}{h:au}{x V5:List af}
def dv.of(c:g h=Z (.lst x)):dv U g h x:=.inl (.inl c)
def cC.of(c:g h=Z (.tup x)):cC U g h x:=.inl (.inl c)
def aI.list(B:aI e G y g m)(c:dv e.K g h x):∃VZ:List ah,bZ x VZ/\PlainL m.heap h VZ.toArray/\x.length<=sizeLine:=by
 rcases c with c|⟨n,VZ,v,b,d,hd,f,aR,p⟩
 ·let@⟨k,⟨VZ,@v,p,a⟩⟩:=c.ok B.aV;exact⟨VZ,p,⟨_,v,a,rfl,rfl,rfl⟩,k⟩
 ·refine⟨VZ.toList,p,⟨n,v,B.o2 h n b,d,hd,by simpa using f⟩,?_⟩;have a:=p.length;simp only[ha]at a;lia
def aI.tuple(B:aI e G y g m)(c:cC e.K g h x):∃VZ:List ah,bZ x VZ/\nS m.heap h VZ.toArray/\x.length<=sizeLine:=by
 rcases c with c|⟨n,VZ,v,b,d,f,aR,p⟩
 ·let@⟨k,⟨@VZ,p,q⟩⟩:=c.ok B.aV;exact⟨VZ,p,q.tup,k⟩
 ·refine⟨VZ.toList,p,⟨n,B.o2 h n b,d,v,by simpa using f⟩,?_⟩;have a:=p.length;simp only[ha]at a;lia
def aI.RD(B:aI e G y g m)(c:dv e.K g h x)(ar:dv e.K g h V5):x=V5:=by
 let⟨@VZ,p,⟨n,@v,a,Y,Y,o⟩,Y⟩:=B.list c;let⟨@R,WK,⟨WN,@f,b,Y,Y,d⟩,Y⟩:=B.list ar;rw[a]at b;cases b;rw[o]at d;injection d with Wz _;have:VZ=R:=by simpa using congrArg toList Wz
 subst this;exact p.inj WK
def aI.AN(B:aI e G y g m)(c:cC e.K g h x)(ar:cC e.K g h V5):x=V5:=by
 let⟨@VZ,p,⟨@n,a,Y,⟨@v,o⟩⟩,Y⟩:=B.tuple c;let⟨@R,WK,⟨@WN,b,Y,⟨@f,d⟩⟩,Y⟩:=B.tuple ar;rw[a]at b;cases b;rw[o]at d;injection d with Wz _;have:VZ=R:=by simpa using congrArg toList Wz
 subst this;exact p.inj WK
end
abbrev aM.kn(e:aM)(VP:ah->aw->Prop):aM:={e with cJ:=VP}
abbrev aM.ow(e:aM):aM:=e.kn λ_ _=>False
def aM.Ok.kn(ok:e.Ok)(VP:ah->aw->Prop):(e.kn VP).Ok:=
 ⟨ok.mod,ok.kind,ok.glob,ok.blt,ok.above,ok.inj,ok.has,ok.om,ok.hd,ok.frames,ok.r3,ok.w8,ok.bs,ok.lC,ok.nx,ok.pY,ok.iQ,ok.oJ⟩
def aM.Ok.l_(ok:(e.kn VP).Ok):e.Ok:=
 ⟨ok.mod,ok.kind,ok.glob,ok.blt,ok.above,ok.inj,ok.has,ok.om,ok.hd,ok.frames,ok.r3,ok.w8,ok.bs,ok.lC,ok.nx,ok.pY,ok.iQ,ok.oJ⟩
section
variable{e:aM}{G:List (au×ba)}{y:a3}{g:aA}{m:aw}{VP:ah->aw->Prop}
def aI.kn(B:aI e G y g m)(VP:ah->aw->Prop):aI (e.kn VP) G y g m:=⟨B.ok.kn VP,B.os,B.bare,B.base,B.loc,B.cell,B.free,B.jr,B.pin,B.aV,B.len⟩
def aI.l_(B:aI (e.kn VP) G y g m):aI e G y g m:=⟨B.ok.l_,B.os,B.bare,B.base,B.loc,B.cell,B.free,B.jr,B.pin,B.aV,B.len⟩
def oz.l_{w:ng}{z:Flow}(c:oz (e.kn VP) G w z VY):oz e G w z VY:=by
 cases z with
 |next=>let⟨a,@F,B,u⟩:=c;exact⟨a,F,B.l_,u⟩
 |brk=>let⟨a,@F,B,u⟩:=c;exact⟨a,F,B.l_,u⟩
 |cont=>let⟨a,@F,B,u⟩:=c;exact⟨a,F,B.l_,u⟩
 |ret I=>let⟨r,a,@F,B,p,u⟩:=c;exact⟨r,a,F,B.l_,p,u⟩
def hN.ow{R:List cg}{H:eR}(c:hN e.ow R H):hN e R H:=λG m y g w B a=>
 hg (c G m y g w (B.kn _) a) (λ_ Y u=>u.l_) λ_ Y k=>False.elim k
end
section
variable{e:aM}{R:cg}{d7:List cg}{H I:eR}{a:a7}{WX:bU}{V3:cw}
def LB:eR:=(λw y g=>w.a8 y g)
def JJ(H I:eR):eR:=(λw y g=>H {w with a8:=I w} y g)
def T1:hN e [] LB:=λ_ Y y g Y B c=>sD ⟨y,g,B,c⟩
def PV(l:hh e R H)(t:hN e d7 I):hN e (R::d7) (JJ H I):=by
 intro G m y g w B c;refine De (bK (l G m y g {w with a8:=I w} B c) λz a u=>?_);cases z with
 |next=>
  let⟨b,@F,d,u⟩:=u;exact t G a b F w d u
 |ret r=>exact u
 |brk=>exact u
 |cont=>exact u
def KR(l:hh e R H):hN e [R] H:=by
 intro G m y g w B c;refine De (bK (l G m y g w B c) λz a u=>?_);cases z with
 |next=>exact sD u
 |ret r=>exact u
 |brk=>exact u
 |cont=>exact u
def aI.quiet(B:aI e G y g m):interactive e.env=az:=by simp[interactive,B.ok.kind]
def Mk(WX:bU):eR:=(λw y g=>WX y g λ_ VT=>w.a8 y VT)
def Kb(d:bj e a WX)(f:oC a X V3.line e.env=pure az:=by rfl):hh e (.Expr a V3) (Mk WX):=by
 intro G m y g w B c;exact wpAny_Expr_any (bK (d G m y g _ B c) λr j ⟨b,VT,h,k,i⟩=>⟨y,VT,h,i⟩) B.quiet f
def R6(WX:bU):eR:=(λw y g=>WX y g w.eQ)
def OA(d:bj e a WX):hh e (.Return (Z a) V3) (R6 WX):=by
 intro G m y g w B c;exact wpAny_Return_some (bK (d G m y g _ B c) λr j ⟨b,VT,f,h,i⟩=>⟨b,y,VT,f,h,i⟩)
def Ta(f:ew)(H I:eR):eR:=(λw y g=>f y g λd VT=>if d=ab then H w y VT else I w y VT)
def Uh{h d:List cg}(j:hq e f Xh)(av:hN e h H)(ag:hN e d I):hh e (.If f h d V3) (Ta Xh H I):=by
 intro G m y g w B c;refine wpAny_If (bK (j G m y g _ B c) λo a k=>?_);let⟨@VT,b,i⟩:=k;cases o with
 |true=>exact av G a y VT w b i
 |false=>exact ag G a y VT w b i
def PX:eR:=(λ_ Y Y=>False)
def MN:hh e R PX:=λ_ Y Y Y Y Y c=>c.elim
end
abbrev gw:=af->a3->aA->(a3->aA->Prop)->Prop
abbrev jt:=List af->a3->aA->(a3->aA->Prop)->Prop
def ED(e:aM)(b:a7)(H:gw)(G:List (au×ba)):Prop:=(
 ∀(m:aw) (y:a3) (g:aA) (r:af) (I:ah) (D:a3->aA->Prop),aI e G y g m->b1 r I->H r y g D->
  wpAny (aT e.prog e.w) e.A (ij b e.env I) (λ_ VY=>∃a F,aI e G a F VY/\D a F) e.cJ m)
def jx(e:aM)(a:a7)(H:gw):Prop:=(∀G,ED e a H G)
def Ec(e:aM)(b:List a7)(H:jt)(G:List (au×ba)):Prop:=(
 ∀(m:aw) (y:a3) (g:aA) (P:List af) (Wc:List ah) (D:a3->aA->Prop),aI e G y g m->bZ P Wc->H P y g D->
  wpAny (aT e.prog e.w) e.A (vL ((fo b e.env).map (·.2)) Wc) (λ_ VY=>∃a F,aI e G a F VY/\D a F) e.cJ m)
def og(e:aM)(a:List a7)(H:jt):Prop:=(∀G,Ec e a H G)
abbrev xi:=af->af->af->aA->(aA->Prop)->Prop
def wz(e:aM)(H:xi):Prop:=(
 ∀(G:List (au×ba)) (m:aw) (y:a3) (g:aA) (n j r:af) (a b I:ah) (D:aA->Prop),aI e G y g m->b1 n a->b1 j b->b1 r I->H n j r g D->
  wpAny (aT e.prog e.w) e.A (ph a b I) (λ_ VY=>∃F,aI e G y F VY/\D F) e.cJ m)
abbrev te:=af->af->aA->cj->Prop
def t7(e:aM)(Wx:l2)(H:te):Prop:=(
 ∀(G:List (au×ba)) (m:aw) (y:a3) (g:aA) (b i:af) (r I:ah) (D:cj),aI e G y g m->b1 b r->b1 i I->H b i g D->
  wpAny (aT e.prog e.w) e.A (xr Wx r I) (eB e G y D) e.cJ m)
section
variable{e:aM}{V3:cw}
def zT(j:Nat):gw:=(λr y g D=>D (y.set j<|Z r) g)
def Px(a:e.N.Nodup)(VW:e.N[j]?=Z b)(d:jc e.env.scope b)(f:e.fn b=ab\/e.env.scope.names.lookup b=Z .local:=by first|exact .inl rfl|exact .inr rfl|assumption):jx e (.Name b V3) (zT j):=by
 intro G m y g r I D B p c;exact F2 (rp B a VW d p (λVY h=>⟨_,g,h,c⟩) f)
def UM:jt:=(λP y g D=>P=[]/\D y g)
def Lv(H:gw)(I:jt):jt:=(λP y g D=>∃r p,P=r::p/\H r y g λa F=>I p a F D)
def UI:og e [] UM:=by
 intro G m y g P Wc D B p c;let@⟨a,c⟩:=c;subst a;cases p;exact Cz ⟨y,g,B,c⟩
def SP{H:gw}{I:jt}(l:jx e a H)(t:og e Q I)(b:(fo (a::Q) e.env).map (·.2)=ij a e.env::(fo Q e.env).map (·.2):=by rfl):og e (a::Q) (Lv H I):=by
 intro G m y g P Wc D B p c;let⟨r,@n,d,c⟩:=c;subst d;cases p with
 |cons p f=>
  rw[b];refine x9 (bK (l G m y g _ _ _ B p c) λ_ h i=>?_);let⟨Xe,@VT,j,k⟩:=i;exact t G h Xe VT _ _ D j f k
def LW(U:Φ)(v:Nat)(H:jt):gw:=(λr y g D=>∃h x,r=.ref h/\cC U g h x/\x.length=v/\H x y g D)
def Oz{H:jt}(i:e.calm=ab)(c:og e Q H)(j:(fo Q e.env).length=v:=by rfl)(k:(fo Q e.env).findIdx? (·.1)=X:=by rfl):jx e (.Tuple Q s V3) (LW e.K v H):=by
 intro G m y g r I D B p b;let⟨h,@x,l,o,q,b⟩:=b;subst l;cases p;let⟨@VZ,f,t,aR⟩:=B.tuple o;refine assign_Tuple_tuple (B.ok.hd i) t (by simp[j,<-q,f.length]) k λar u=>?_;have w:aI e G y g {m with heap:=ar}:=B.kept (Wr:=m.toks) λd n a=>u d n (dE<|b9 a) a;exact c G _ y g x _ D w ⇑f b
def Q8(J a:bU)(H:xi):gw:=(λr y g D=>J y g λn VT=>a y VT λj V8=>H n j r V8 λb=>D y b)
def Sk{n j:a7}{J h:bU}{H:xi}(k:bj e n J)(VW:bj e j h)(l:wz e H)(av:∀r,ij (.Subscript n j V3) e.env r=(do
   let a <-holding [r] (bM n e.env)
   let d <-holding [r,a] (bM j e.env)
   standAt V3
   holding [r,a,d] (ph a d r)
   release [r,a,d] []):=by intro Y;rfl):jx e (.Subscript n j V3) (Q8 J h H):=by
 intro G m y g r I D B p c;rw[av];refine aC (fI<|bK (k G m y g _ B c) λa o f=>?_);let⟨b,@VT,q,s,t⟩:=f;refine aC (fI<|bK (VW G o y VT _ q t) λd u f=>?_);let⟨i,@V8,v,w,x⟩:=f;refine aC (sr<|aC<|fI<|bK (l G u y V8 b i r a d I _ v s w p x) λ_ E f=>?_);let⟨@z,A,C⟩:=f;exact wpAny_release ⟨y,z,A,C⟩
def xC(WX:bU)(N:gw):eR:=(λw y g=>WX y g λb VT=>N b y VT w.a8)
def Lz{N:gw}(d:bj e a WX)(f:jx e Wl N)(h:uV [Wl] a V3.line e.env=pure az:=by rfl)(i:vF [Wl] a e.env=pure X:=by rfl)(l:(fo [Wl] e.env).map (·.2)=[ij Wl e.env]:=by rfl):hh e (.Assign [Wl] a V3) (xC WX N):=by
 intro G m y g w B c;refine wpAny_Assign_stores (bK (d G m y g _ B c) λr j ⟨b,VT,k,n,o⟩=>?_) h i;rw[l];exact bK (f G j y VT b r _ k n o) λ_ p u=>u
def TP(d:e.N.Nodup)(VW:e.N[j]?=Z b)(f:jc e.env.scope b)(h:bj e a WX)(k:oC a (Z<|.Name b W9) V3.line e.env=pure az:=by rfl)(l:e.fn b=ab\/e.env.scope.names.lookup b=Z .local:=by first|exact .inl rfl|exact .inr rfl|assumption):
  hh e (.Assign [.Name b W9] a V3) (xC WX<|zT j):=by
 intro G m y g w B c;refine wpAny_Assign_Name (bK (h G m y g _ B c) λr s ⟨i,VT,n,o,p⟩=>?_) k;exact rp n d VW f o (λt q=>⟨_,VT,q,p⟩) l
def M7(j A:Nat)(WC:eT):eR:=(λw y g=>WC y g λP VT=>∃r C,P=[r,C]/\w.a8 ((y.set j<|Z r).set A<|Z C) VT)
def QB{i:aF}{h d:a7}{o p pt:cw}{Xa Wq s}(E:e.calm=ab)(v:e.N.Nodup)(VW:e.N[j]?=Z b)(F:e.N[A]?=Z i)(H:j≠A)(x:e.env.scope.names.lookup b=Z .local)(z:e.env.scope.names.lookup i=Z .local)(av:hl e [h,d] WC)(I:vF [.Tuple [.Name b o,.Name i p] Xa pt] (.Tuple [h,d] Wq s) e.env=pure (Z [b,i]))(J:uV [.Tuple [.Name b o,.Name i p] Xa pt] (.Tuple [h,d] Wq s) V3.line e.env=pure az:=by rfl):
  hh e (.Assign [.Tuple [.Name b o,.Name i p] Xa pt] (.Tuple [h,d] Wq s) V3) (M7 j A WC):=by
 intro G m y g w B c;rw[exec_Assign_arm];refine aC (sr ?_);rw[J];refine aC (a5 ?_);rw[if_neg ∅];refine aC (Tuple_<|bK (av _ G m y g _ B c) λWc f L=>?_);let⟨P,@VT,M,Q,t⟩:=L;let⟨r,@C,R,t⟩:=t;subst R;obtain⟨k,l,rfl,T,U⟩:∃k l,Wc=[k,l]/\b1 r k/\b1 C l:=by
  cases Q with
  |cons q u=>
   cases u with
   |cons c_ dK=>
    cases dK;exact⟨_,_,rfl,q,c_⟩
 refine hE ?_ (by show 2<=sizeLine;decide);have al:aI e G y VT {f with heap:=f.heap.push {cls:=.type "tuple",data:=.seq [k,l].toArray} }:=M.kept (Wr:=f.toks) λd n a=>cu _ a;rw[I];refine aC (a5 ?_);show wpAny (aT e.prog e.w) e.A (do rule "assign.swapped-stores";let S <-yy (.ref f.heap.objs.size) 2 X;vL [λr=>vU e.env i r,λr=>vU e.env b r] S.reverse;pure Flow.next) _ _ _;refine aC (lI<|aC<|unpackItems_tuple (items:=#[k,l]) (B.ok.hd E) (nS.new f.heap _) λar am=>?_);have an:=al.kept (ar:=ar) (Wr:=f.toks) λd n a=>am d n (dE<|b9 a) a;show wpAny _ _ (vL [λr=>vU e.env i r,λr=>vU e.env b r] [l,k] >>= λ_=>pure Flow.next) _ _ _;refine aC (x9<|Im<|rp an v F (.inl z) U (λas ap=>?_)<|.inr z);refine x9 (Im<|rp ap v VW (.inl x) T (λa1 D=>Cz<|a5 ?_)<|.inr x);rw[zz _ _ (dY H)]at D;exact⟨_,VT,D,t⟩
def Ru(j:Nat)(WX:bU)(a:te):eR:=(λw y g=>∃b,y[j]?=Z (Z b)/\WX y g λi VT=>a b i VT λk V8=>w.a8 (y.set j<|Z k) V8)
def Mo{Wx:l2}{n:te}(o:e.N.Nodup)(VW:e.N[j]?=Z b)(h:jc e.env.scope b)(q:bj e a WX)(t:t7 e Wx n)(u:e.fn b=ab\/e.env.scope.names.lookup b=Z .local:=by first|exact .inl rfl|exact .inr rfl|assumption):
  hh e (.AugAssign (.Name b W9) Wx a V3) (Ru j WX n):=by
 intro G m y g w B c;let⟨@r,v,c⟩:=c;let⟨@M,x,z⟩:=B.loc;have D:qy e.env.scope b:=by rcases h with s|s;exact .inl s;exact .inr (.inl s)
 let⟨@I,p,J⟩:=z j b r VW v D;refine wpAny_AugAssign_Name ?_;have go:wpAny (aT e.prog e.w) e.A (bM a e.env) (λC E=>wpAny (aT e.prog e.w) e.A (xr Wx I C) (λp F=>wpAny (aT e.prog e.w) e.A (Ar e.env b p) (λ_=>oz e G w .next) e.cJ F) e.cJ E) e.cJ m:=by
  refine bK (q G m y g _ B c) λC H l=>?_;let⟨i,@VT,L,P,Q⟩:=l;refine bK (t G H y VT r i I C _ L p P Q) λk ap l=>?_;let⟨as,@V8,R,S,T⟩:=l;exact rp R o VW h S (λa1 U=>⟨_,V8,U,T⟩) u
 rcases J with ⟨d,al⟩|⟨d,f,am,an⟩
 ·exact JS B.ok.kind d x al go
 ·rcases d with d|d
  ·exact Gi B.ok.kind d am an go
  ·rcases h with s|s
   ·have:e.env.scope.names.lookup b=Z .free:=d;rw[s]at this;cases this
   ·have:e.env.scope.names.lookup b=Z .free:=d;rw[s]at this;cases this
def yd(z:Int->Int->Int):te:=(λb i g D=>∃j A,b=.int j/\i=.int A/\D (.int<|z j A) g)
def xD:t7 e .Add (yd λj A=>j+A):=by
 intro G m y g b i r I D B a d c;let⟨j,@A,f,h,u⟩:=c;subst f;subst h;let⟨@H,rfl⟩:=a;let⟨@Wr,rfl⟩:=d;exact iadd_int ⟨.int _,g,B.tok _,⟨_,rfl⟩,u⟩
def PC(f:ew)(We:eR):eR:=(λw y g=>∃W:Nat->a3->aA->Prop,(∃M,W M y g)/\∀M y g,W M y g->
 f y g λd VT=>if d=ab then ∃Wm:a3->aA->Prop,(∀a F,Wm a F->∃b,b<M/\W b a F)/\We {w with a8:=Wm,ct:=Wm,e8:=w.a8} y VT else w.a8 y VT)
def Qz(p:qN (aT e.prog e.w) e.A e.env e.cJ)(u:hq e f Xh)(ag:hN e Xb We):hh e (.While f Xb [] V3) (PC Xh We):=by
 intro G m y g w B c;let⟨@W,⟨@x,D⟩,turn⟩:=c;refine wpAny_While (codeAny_whileLoop (λv VY=>∃q F,aI e G q F VY/\W v q F) ?_ x ⟨y,g,B,D⟩);rintro v E ⟨Xe,VT,H,cO⟩;refine nW p (bK (u G E Xe VT _ H<|turn v Xe VT cO) λd I J=>?_);let⟨@V8,s,h⟩:=J;cases d with
 |true=>
  let⟨@Wm,t,h⟩:=h;rw[aH rfl];refine nW p (bK (ag G I Xe V8 _ s h) λz L i=>?_);cases z with
  |next=>
   let⟨a,@b,j,k⟩:=i;let⟨@l,n,o⟩:=t a b k;exact⟨l,n,a,b,j,o⟩
  |cont=>
   let⟨a,@b,j,k⟩:=i;let⟨@l,n,o⟩:=t a b k;exact⟨l,n,a,b,j,o⟩
  |brk=>exact i
  |ret r=>exact i
 |false=>
  rw[if_neg dw];exact sD ⟨Xe,V8,s,h⟩
end
structure e6 where
 go:Nat->aA->Prop
 qJ:Nat->aA->af->aA->Prop
 stop:Nat->aA->Prop
def hC(e:aM)(G:List (au×ba))(g:aA)(d:au):Prop:=(
 g d=X/\d≠e.env.locals/\d∉e.Y/\(d∈e.ex\/e.e7.heap.objs.size<=d)/\(∀b f,e.env.cells.lookup b=Z f->f≠d)/\∀q∈e.k6++G,q.1≠d)
def aI.r7(B:aI e G y g m)(ag:m.heap.objs.size<=d)(c:F d=X):hC e G F d:=by
 refine⟨c,lT<|eV B.lt ag,B.Tz ag,.inr<|dN B.dj ag,λb f a k=>?_,λq h k=>?_⟩
 ·let⟨@r,u⟩:=B.cell b f a;exact absurd (eV u.lt (by rw[k];exact ag)) (iF _)
 ·exact absurd (eV (b9 (B.pin q h).1) (by rw[k];exact ag)) (iF _)
structure oT(V0:bu)(C:bf)(U:Φ)(Wl:a7)(WY:e6)(b_:List au)(aO:au)(J:Nat->a4->Prop):Prop where
 mem:aO∈b_
 obj:∀j c,J j c->∀d∈b_,∃n,c.get? d=Z n/\∀r,n.data≠.cell r
 keep:∀j c ar,J j c->(∀d∈b_,∀n,c.get? d=Z n->ar.get? d=Z n)->J j ar
 item:∀(e:aM),e.prog=V0->e.w=C->e.K=U->e.calm=ab->∀(j:Nat) (G:List (au×ba)) (m:aw) (y:a3) (g:aA) (VP:ah->aw->Prop),aI e G y g m->(∀d∈b_,hC e G g d)->J j m.heap->WY.go j g->
  wpAny (aT V0 C) e.A (gP<|.ref aO) (λp s1=>∃I,p=Z I/\
   wpAny (aT V0 C) e.A (qM Wl (.ref aO) I) (λ_ s2=>∃b F,aI e G y F s2/\b1 b I/\WY.qJ j g b F/\J (j+1) s2.heap/\∀d∈b_,F d=X) VP s1) VP m
 done:∀(e:aM),e.prog=V0->e.w=C->e.K=U->e.calm=ab->∀(j:Nat) (G:List (au×ba)) (m:aw) (y:a3) (g:aA) (VP:ah->aw->Prop),aI e G y g m->(∀d∈b_,hC e G g d)->J j m.heap->WY.stop j g->
  wpAny (aT V0 C) e.A (gP<|.ref aO) (λp s1=>p=X/\aI e G y g s1) VP m
 self:∀(O:bz) (j:Nat) (m:aw) (D:ah->aw->Prop) (VP:ah->aw->Prop),J j m.heap->D (.ref aO) m->wpAny (aT V0 C) O (ts<|.ref aO) D VP m
abbrev c7:=a3->aA->(e6->aA->Prop)->Prop
def Dm(e:aM)(G:List (au×ba))(y:a3)(Wl:a7)(VO:e6->aA->Prop)(b:ah)(a:aw):Prop:=(
 ∃(aO:au) (b_:List au) (J:Nat->a4->Prop) (WY:e6) (F:aA),b=.ref aO/\aI e G y F a/\oT e.prog e.w e.K Wl WY b_ aO J/\J 0 a.heap/\(∀d∈b_,hC e G F d)/\VO WY F)
def CL(e:aM)(Wl WR:a7)(fl:c7)(G:List (au×ba)):Prop:=(
 ∀(m:aw) (y:a3) (g:aA) (VO:e6->aA->Prop),aI e G y g m->fl y g VO->
  wpAny (aT e.prog e.w) e.A (bM WR e.env) (λr a=>wpAny (aT e.prog e.w) e.A (ts r) (Dm e G y Wl VO) e.cJ a) e.cJ m)
def kf(e:aM)(Wl WR:a7)(fl:c7):Prop:=(∀G,CL e Wl WR fl G)
def vG{aD:mr}{VP:ah -> aw -> Prop}{aO:au}{n:ba}{v:String}{P:Array ah}{D:Unit -> aw -> Prop}(b:m.heap.get? aO=Z n)(d:n.cls=.type v)(hd:n.data=.fields P)(e:["enumerate", "zip", "dict_itemiterator", "dict_reverseitemiterator", "odict_iterator", "itertools.zip_longest", "itertools.pairwise"].contains v=az)(a:D () m): wpAny aD O (qM Wl (.ref aO) I) D VP m:=by
  unfold qM;cases Wl <;> first
    | exact a5 a
    | (cases I <;> first
        | exact a5 a
        | (refine aC (wpAny_load b ?_)
           rw [d,hd];show wpAny aD O (if (["enumerate", "zip", "dict_itemiterator", "dict_reverseitemiterator", "odict_iterator", "itertools.zip_longest", "itertools.pairwise"].contains v&&P[0]? == Z (j9 _))=ab then _ else _) D VP m;rw [if_neg (by intro c; rw [e,JW]at c; cases c)];exact a5 a))
def qr(U:Φ)(h:au):e6:=(
 ⟨λj g=>∃x b,dv U g h x/\x[j]?=Z b,λj g b F=>F=g/\∀x,dv U g h x->x[j]?=Z b,λj g=>∃x,dv U g h x/\x.length<=j⟩)
def vC(U:Φ)(h:au):e6:=(
 ⟨λj g=>∃x b,cC U g h x/\x[j]?=Z b,λj g b F=>F=g/\∀x,cC U g h x->x[j]?=Z b,λj g=>∃x,cC U g h x/\x.length<=j⟩)
def qL(VS:Int)(v:Nat):e6:=(⟨λj Y=>j<v,λj g b F=>F=g/\b=.int (VS+j),λj Y=>v<=j⟩)
theorem PG(h aO:au):oT V0 C U Wl (qr U h) [aO] aO (λj c=>c.IsListIter aO h j) where
 mem:=by simp
 obj:=λj c R d ag=>by
  have a:d=aO:=by simpa using ag
  subst a;let⟨@n,a,f,o⟩:=R;exact⟨n,a,λr k=>by rw[o]at k;cases k⟩
 keep:=λj c ar R s=>R.at λn a=>s aO ↥0 n a
 item:=by
  intro e p t u H j G m y g VP B i R v;subst p t u;let⟨x,@b,l,w⟩:=v;let⟨@VZ,z,q,aR⟩:=B.list l;let⟨@I,L,M⟩:=z.get w;let@⟨WW,A,N,D,E,F⟩:=i aO ↥0;refine BJ R q.isList (x:=I) ⇑L λar J O=>?_;have P:aI e G y g {m with heap:=ar}:=B.turned (Wr:=m.toks) (λd n ag a=>(O.2 d ag).trans a) WW A D E F;let⟨@n,a,f,o⟩:=id J;exact⟨I,rfl,vG (m:={m with heap:=ar}) a f o ∅ ⟨b,g,P,M,⟨rfl,λV5 Q=>by rw[B.RD Q l];exact w⟩,J,λd ag=>(i d ag).1⟩⟩
 done:=by
  intro e p t u H j G m y g VP B i R v;subst p t u;let⟨@x,l,w⟩:=v;let⟨@VZ,z,q,aR⟩:=B.list l;let@⟨WW,A,N,D,E,F⟩:=i aO ↥0;have T:=z.length;exact BK (B.ok.hd H) R q.isList (by simp;lia) λar S=>⟨rfl,B.turned (Wr:=m.toks) (λd n ag a=>S d n ag a) WW A D E F⟩
 self:=λ_ Y Y Y Y R c=>wpAny_pyIter_listiter R c
theorem Le(h aO:au):oT V0 C U Wl (vC U h) [aO] aO (λj c=>c.IsTupleIter aO h j) where
 mem:=by simp
 obj:=λj c R d ag=>by
  have a:d=aO:=by simpa using ag
  subst a;let⟨@n,a,f,o⟩:=R;exact⟨n,a,λr k=>by rw[o]at k;cases k⟩
 keep:=λj c ar R s=>R.at λn a=>s aO ↥0 n a
 item:=by
  intro e p t u H j G m y g VP B i R v;subst p t u;let⟨x,@b,l,w⟩:=v;let⟨@VZ,z,q,aR⟩:=B.tuple l;let⟨@I,L,M⟩:=z.get w;let@⟨WW,A,N,D,E,F⟩:=i aO ↥0;refine wpAny_pyNext_tuple_item R (show m.heap.IsTuple h VZ.toArray from q) (x:=I) ⇑L λar J O=>?_;have P:aI e G y g {m with heap:=ar}:=B.turned (Wr:=m.toks) (λd n ag a=>(O.2 d ag).trans a) WW A D E F;let⟨@n,a,f,o⟩:=id J;exact⟨I,rfl,vG (m:={m with heap:=ar}) a f o ∅ ⟨b,g,P,M,⟨rfl,λV5 Q=>by rw[B.AN Q l];exact w⟩,J,λd ag=>(i d ag).1⟩⟩
 done:=by
  intro e p t u H j G m y g VP B i R v;subst p t u;let⟨@x,l,w⟩:=v;let⟨@VZ,z,q,aR⟩:=B.tuple l;let@⟨WW,A,N,D,E,F⟩:=i aO ↥0;have T:=z.length;exact wpAny_pyNext_tuple_end (B.ok.hd H) R (show m.heap.IsTuple h VZ.toArray from q) (by simp;lia) λar S=>⟨rfl,B.turned (Wr:=m.toks) (λd n ag a=>S d n ag a) WW A D E F⟩
 self:=λ_ Y Y Y Y R c=>wpAny_pyIter_tupleiter R c
theorem Tx(aO:au)(VS:Int)(v:Nat):oT V0 C U Wl (qL VS v) [aO] aO (λj c=>IsRangeIter c aO (VS+(j:Nat)*1) ((v:Int)-(j:Nat)) 1) where
 mem:=by simp
 obj:=λj c R d ag=>by
  have a:d=aO:=by simpa using ag
  subst a;exact⟨_,R,λr k=>by
   have z:Data.fields _=Data.cell r:=k;cases z⟩
 keep:=λj c ar R s=>s aO ↥0 _ R
 item:=by
  intro e f h i l j G m y g VP B b R o;subst f h i;let@⟨WW,p,A,q,t,u⟩:=b aO ↥0;have W:=ka.range (prog:=e.prog) (w:=e.w) (B.ok.hd l) aO VS 1 v;refine W.item j m _ _ o R λr ar Wy D x F=>?_;let⟨@H,rfl⟩:=D;have I:aI e G y g {m with heap:=ar,toks:=Wy}:=B.turned (λd n ag a=>F d n ⇑ag a) WW p q t u;refine⟨_,rfl,vG (m:={m with heap:=ar,toks:=Wy}) (v := "range_iterator") x rfl rfl ∅ ⟨.int<|VS+j,g,I,⟨H,?_⟩,⟨rfl,rfl⟩,x,λd ag=>(b d ag).1⟩⟩;rw[HU]
 done:=by
  intro e f h i l j G m y g VP B b R o;subst f h i;let@⟨WW,p,A,q,t,u⟩:=b aO ↥0;exact wpAny_pyNext_range_end (B.ok.hd l) R (by have:v<=j:=o;lia) λar J=>⟨rfl,B.turned (Wr:=m.toks) (λd n ag a=>J d n ag a) WW p q t u⟩
 self:=λ_ Y Y Y Y R c=>wpAny_pyIter_rangeiter R c
section
variable{e:aM}{Wl:a7}
def FY{VO:e6->aA->Prop}{VS VW:Int}{H I r:iE}{Wy:Nat}(B:aI e G y g m)(l : -(2^62)<=VS)(t:VS<2^62)(c : -(2^62)<=VW)(f:VW<2^62)(u:VO (qL VS (VW-VS).toNat) g):wpAny (aT e.prog e.w) e.A (ts<|.ref m.heap.objs.size) (Dm e G y Wl VO) VP {m with heap:=m.heap.push {cls:=.type "range",data:=.fields #[.int VS H,.int VW I,.int 1 r]},toks:=Wy}:=by
 refine wpAny_pyIter_range (IsRange.new ..) (small_one l t c f) ?_;have b:aI e G y g {m with heap:=m.heap.push {cls:=.type "range",data:=.fields #[.int VS H,.int VW I,.int 1 r]},toks:=Wy}:=B.kept λd n a=>cu _ a;refine⟨(m.heap.push {cls:=.type "range",data:=.fields #[.int VS H,.int VW I,.int 1 r]}).objs.size,[(m.heap.push {cls:=.type "range",data:=.fields #[.int VS H,.int VW I,.int 1 r]}).objs.size],_,_,g,rfl,
  b.kept (Wr:=Wy) λd n a=>cu _ a,Tx _ VS (VW-VS).toNat,?_,λd ag=>?_,u⟩
 ·have h:VS+((0:Nat):Int)*1=VS:=by simp
  have i:(((VW-VS).toNat:Nat):Int)-((0:Nat):Int)=bo.Range.rangeSize VS VW 1:=by rw[rangeSize_one];split<;>lia
  show IsRangeIter _ _ (VS+((0:Nat):Int)*1) ((((VW-VS).toNat:Nat):Int)-((0:Nat):Int)) 1;rw[h,i];exact dx _ rfl
 ·have a:d=(m.heap.push {cls:=.type "range",data:=.fields #[.int VS H,.int VW I,.int 1 r]}).objs.size:=by simpa using ag
  subst a;exact b.r7 (bB _) (b.aV.fresh<|bB _)
def NJ(WC:eT):c7:=(λy g VO=>WC y g λP VT=>∃A:Int,P=[.int A] /\ -(2^62)<=A/\A<2^62/\VO (qL 0 A.toNat) VT)
def Sh(WC:eT):c7:=(λy g VO=>WC y g λP VT=>∃j A:Int,P=[.int j,.int A]/\(-(2^62)<=j/\j<2^62 /\ -(2^62)<=A/\A<2^62)/\VO (qL j (A-j).toNat) VT)
variable{h:a7}
def S_(d:eU e "range")(f:e.aL "range" = X)(av:hl e [h] WC)(i:bA [h] e.env=[(az,bM h e.env)]:=by rfl):kf e Wl (.Call (.Name "range" q) [h] [] V3) (NJ WC):=by
 intro G m y g VO B c;refine Call_ (mM B d f boot_range<|pX (bK (av V3 G m y g _ B c) λWc o ⟨P,VT,j,k,b⟩=>?_) i rfl);let⟨@A,a,b,l,u⟩:=b;subst a;cases k with
 |cons p n=>
  cases n;let⟨@H,rfl⟩:=p;exact call_range_1 (FY j ⋯ ⋯ b l ⇑u)
def Lp{d:a7}(k:eU e "range")(l:e.aL "range" = X)(av:hl e [h,d] WC)(n:bA [h,d] e.env=[(az,bM h e.env),(az,bM d e.env)]:=by rfl)(i:bA [d] e.env=[(az,bM d e.env)]:=by rfl):
  kf e Wl (.Call (.Name "range" q) [h,d] [] V3) (Sh WC):=by
 intro G m y g VO B c;refine Call_ (mM B k l boot_range (pX (bK (av V3 G m y g _ B c) λWc w ⟨P,VT,o,r,b⟩=>?_) (by rw[n,i]) (by rw[i];rfl)));let⟨j,@A,a,@⟨b,s,t,v⟩,u⟩:=b;subst a;cases r with
 |cons p f=>
  cases f with
  |cons WK f=>
   cases f;let⟨@H,rfl⟩:=p;let⟨@Wr,rfl⟩:=WK;exact call_range_2 (FY o b s t v u)
def AP(fl:c7)(N:gw)(We:eR):eR:=(λw y g=>fl y g λWY VT=>∃W:Nat->Nat->a3->aA->Prop,(∃M,W 0 M y VT)/\∀j M y g,W j M y g->
 (WY.stop j g/\w.a8 y g)\/(WY.go j g/\∃Wm:a3->aA->Prop,(∀a F,Wm a F->∃c,c<M/\W (j+1) c a F)/\∀b F,WY.qJ j g b F->N b y F λd V8=>We {w with a8:=Wm,ct:=Wm,e8:=w.a8} d V8))
def m8(b_:List au)(c:a4):List (au×ba):=(b_.filterMap λd=>(c.get? d).map λn=>(d,n))
def uW{n:ba}(ag:d∈b_)(a:c.get? d=Z n):(d,n)∈m8 b_ c:=FJ.mpr ⟨d,ag,by rw[a];rfl⟩
def A9{q:au×ba}(b:q∈m8 b_ c):q.1∈b_/\c.get? q.1=Z q.2:=by
 let⟨@d,ag,a⟩:=FJ.mp b;cases u:c.get? d with
 |none=>rw[u]at a;cases a
 |some n=>
  rw[u]at a;have e:(d,n)=q:=Option.some.inj a;subst e;exact⟨ag,u⟩
def aI.pinned(B:aI e G y g m)(c:∀d∈b_,hC e G g d)(f:∀d∈b_,∃n,m.heap.get? d=Z n/\∀r,n.data≠.cell r):aI e (G++m8 b_ m.heap) y g m:=
 B.p4 λq h=>(d8.mp h).elim (λk=>B.pin q<|er _ k) λk=>by
  let@⟨ag,a⟩:=A9 k;let@⟨WW,i,j,_⟩:=c q.1 ag;let⟨@n,b,o⟩:=f q.1 ag;rw[a]at b;cases b;exact⟨a,WW,i,j,o⟩
def aI.As{bQ:List (au×ba)}(B:aI e (G++bQ) y g m):aI e G y g m:=B.p4 λq a=>B.pin q (er _<|eb _ a)
def Vg{WR:a7}{fl:c7}{N:gw}(s:qN (aT e.prog e.w) e.A e.env e.cJ)(R:e.calm=ab)(VW:kf e Wl WR fl)(a1:jx e Wl N)(ag:hN e Xb We)(a2:∀b,mZ WR e.env b=pure b:=by intro Y;rfl):hh e (.For Wl WR Xb [] V3) (AP fl N We):=by
 intro G m y g w B c;refine wpAny_For (bK (VW G m y g _ B c) λr f1 l=>bK l λf2 f4 t=>?_) a2;let⟨aO,b_,J,WY,@V8,a,bd,S,be,T,⟨@W,⟨@bi,bm⟩,turn⟩⟩:=t;subst a;have H:∀{F:aA},(∀d∈b_,F d=X)->∀d∈b_,hC e G F d:=λbn d ag=>⟨bn d ag,(T d ag).2⟩;refine codeAny_forLoop_any (λv VY=>∃j u F,aI e G u F VY/\J j VY.heap/\(∀d∈b_,F d=X)/\W j v u F) ?_ bi ⟨0,y,V8,bd,be,λd ag=>(T d ag).1,bm⟩;rintro v U ⟨j,x,E,al,am,an,bs⟩;rcases turn j v x E bs with ⟨stop,bv⟩|⟨go,Wm,ca,step⟩
 ·refine nW s (bK (S.done e rfl rfl rfl R j G U x E e.cJ al (H an) am stop) λp cd q=>?_);let@⟨L,ce⟩:=q;subst L;exact sD ⟨x,E,ce,bv⟩
 ·refine nW s (bK (S.item e rfl rfl rfl R j G U x E e.cJ al (H an) am go) λp cd q=>?_);let⟨@I,L,ch⟩:=q;subst L;refine nW s (bK ch λ_ ap q=>?_);let⟨b,@as,ci,cl,co,P,cr⟩:=q;have cs:=ci.pinned (H cr) (S.obj _ _ P);refine nW s (bK (a1 _ ap x as b I _ cs cl<|step b as co) λ_ db q=>?_);let⟨ds,@dL,eq,ev⟩:=q;refine nW s (bK (ag _ db ds dL _ eq ev) λz Q k=>?_);have again:∀{f:a3}{h:aA},aI e (G++m8 b_ ap.heap) f h Q->Wm f h->∃M,M<v/\∃j u F,aI e G u F Q/\J j Q.heap/\(∀d∈b_,F d=X)/\W j M u F:=λ{f h} i D=>by
   let⟨@ex,fd,fn⟩:=ca f h D;refine⟨ex,fd,j+1,f,h,i.As,S.keep _ _ _ P λd ag n a=>(i.pin (d,n)<|er _<|er _<|uW ag a).1,λd ag=>?_,fn⟩;let⟨@n,a,o⟩:=S.obj _ _ P d ag;exact (i.pin (d,n)<|er _<|er _<|uW ag a).2.1
  cases z with
  |next=>let⟨f,@h,i,D⟩:=k;exact again i D
  |cont=>let⟨f,@h,i,D⟩:=k;exact again i D
  |brk=>let⟨f,@h,i,k⟩:=k;exact⟨f,h,i.As,k⟩
  |ret r=>let⟨fr,f,@h,i,f0,k⟩:=k;exact⟨fr,f,h,i.As,f0,k⟩
end
abbrev b0:=af->af->aA->cj->Prop
variable{WK p:b0}
def ek(e:aM)(z:ah->ah->fK ah)(p:b0):Prop:=(
 ∀(G:List (au×ba)) (m:aw) (y:a3) (g:aA) (b i:af) (r I:ah) (D:cj),aI e G y g m->b1 b r->b1 i I->p b i g D->
  wpAny (aT e.prog e.w) e.A (z r I) (eB e G y D) e.cJ m)
def xa(e:aM)(z:ah->fK ah)(p:af->aA->cj->Prop):Prop:=(
 ∀(G:List (au×ba)) (m:aw) (y:a3) (g:aA) (b:af) (r:ah) (D:cj),aI e G y g m->b1 b r->p b g D->
  wpAny (aT e.prog e.w) e.A (z r) (eB e G y D) e.cJ m)
def ez(e:aM)(z:ah)(p:List af->aA->cj->Prop):Prop:=(
 ∀(G:List (au×ba)) (m:aw) (y:a3) (g:aA) (x:List af) (Wc:List ah) (D:cj),aI e G y g m->bZ x Wc->p x g D->
  wpAny (aT e.prog e.w) e.A (call z Wc) (eB e G y D) e.cJ m)
def QC(e:aM)(p:af->aA->(Bool->aA->Prop)->Prop):Prop:=(
 ∀(G:List (au×ba)) (m:aw) (y:a3) (g:aA) (b:af) (r:ah) (D:Bool->aA->Prop),aI e G y g m->b1 b r->p b g D->
  wpAny (aT e.prog e.w) e.A (tK r) (um e G y D) e.cJ m)
def ti(p:b0)(WC We:bU):bU:=(λy g D=>WC y g λb VT=>We y VT λi V8=>p b i V8 D)
def Lw(p:af->aA->cj->Prop)(WC:bU):bU:=(λy g D=>WC y g λb VT=>p b VT D)
def pj(aN:Int->Int->Prop)(N:Int->Int->af):b0:=(λb i g D=>∃j A,b=.int j/\i=.int A/\aN j A/\D (N j A) g)
def lR(N:Int->Int->af):b0:=(λb i g D=>∃j A,b=.int j/\i=.int A/\D (N j A) g)
def A1(N:Int->af):af->aA->cj->Prop:=(λb g D=>∃j,b=.int j/\D (N j) g)
section
variable{e:aM}{h d f:a7}{WC We Xh:bU}{V3:cw}
def w5(av:bj e h WC)(ag:bj e d We){G:List (au×ba)}{m:aw}{y:a3}{g:aA}{VO:af->af->aA->Prop}(B:aI e G y g m)(c:WC y g λb VT=>We y VT λi V8=>VO b i V8){D:ah->aw->Prop}{z:ah->ah->fK ah}(j:∀r I a b i V8,aI e G y V8 a->b1 b r->b1 i I->VO b i V8->wpAny (aT e.prog e.w) e.A (z r I) D e.cJ a):
  wpAny (aT e.prog e.w) e.A (bM h e.env) (λr k=>wpAny (aT e.prog e.w) e.A (bM d e.env) (λI l=>wpAny (aT e.prog e.w) e.A (z r I) D e.cJ l) e.cJ k) e.cJ m:=by
 refine bK (av G m y g _ B c) λr n f=>?_;let⟨b,@VT,o,p,q⟩:=f;refine bK (ag G n y VT _ o q) λI a f=>?_;let⟨i,@V8,s,t,u⟩:=f;exact j r I a b i V8 s p t u
def Ux{Wx:l2}(a:ek e (gk Wx) p)(av:bj e h WC)(ag:bj e d We):bj e (.BinOp h Wx d V3) (ti p WC We):=by
 intro G m y g D B c;exact wpAny_BinOp (w5 av ag B c λr I f b i V8 j k l u=>a G f y V8 b i r I D j k l u)
def Rc{Wx:UnaryOp}{p:af->aA->cj->Prop}(a:xa e (unaryOp Wx) p)(av:bj e h WC):bj e (.UnaryOp Wx h V3) (Lw p WC):=by
 intro G m y g D B c;exact UnaryOp_ (bK (av G m y g _ B c) λr d ⟨b,VT,f,i,j⟩=>a G d y VT b r D f i j)
def uy{aN:Int->Int->Prop}(a:∀(j A:Int) (H I:iE) (m:aw) (D:ah->aw->Prop) (VP:ah->aw->Prop),aN j A->D (.int (N j A) m.toks) {m with toks:=m.toks+1}->wpAny (aT e.prog e.w) e.A (z (.int j H)<|.int A I) D VP m):
  ek e z (pj aN λj A=>.int<|N j A):=by
 intro G m y g b i r I D B d f c;let⟨j,@A,rfl,rfl,h,u⟩:=c;let⟨@H,rfl⟩:=d;let⟨@Wr,rfl⟩:=f;exact a j A H Wr m _ _ h ⟨.int<|N j A,g,B.tok _,⟨_,rfl⟩,u⟩
def Jh(a:∀(j A:Int) (H I:iE) (m:aw) (D:ah->aw->Prop) (VP:ah->aw->Prop),D (.int (N j A) m.toks) {m with toks:=m.toks+1}->wpAny (aT e.prog e.w) e.A (z (.int j H)<|.int A I) D VP m):
  ek e z (lR λj A=>.int<|N j A):=by
 intro G m y g b i r I D B d f c;let⟨j,@A,rfl,rfl,u⟩:=c;let⟨@H,rfl⟩:=d;let⟨@Wr,rfl⟩:=f;exact a j A H Wr m _ _ ⟨.int<|N j A,g,B.tok _,⟨_,rfl⟩,u⟩
def vE{N:Int->Int->Bool}(a:∀(j A:Int) (H I:iE) (m:aw) (D:ah->aw->Prop) (VP:ah->aw->Prop),D (.bool<|N j A) m->wpAny (aT e.prog e.w) e.A (z (.int j H)<|.int A I) D VP m):
  ek e z (lR λj A=>.aJ<|N j A):=by
 intro G m y g b i r I D B d f c;let⟨j,@A,rfl,rfl,u⟩:=c;let⟨@H,rfl⟩:=d;let⟨@Wr,rfl⟩:=f;exact a j A H Wr m _ _ ⟨.aJ<|N j A,g,B,rfl,u⟩
def Nr(j A:Int):Prop:=(0<A/\A<1073741824)
def Qp(j A:Int):Prop:=(0<=A/\A<=1000000/\j.natAbs<2^64)
def Mb:ek e (gk .Add) (lR λj A=>.int<|j+A):=Jh λ_ Y Y Y Y Y Y u=>add_int u
def Un:ek e (gk .Sub) (lR λj A=>.int<|j-A):=Jh λ_ Y Y Y Y Y Y u=>sub_int u
def Qg:ek e (gk .FloorDiv) (pj Nr λj A=>.int<|j/A):=uy λj A Y Y Y Y Y a u=>by
 have l:(0:Int)<A:=a.1;have t:A<1073741824:=a.2;exact floordiv_int ⋯ (by rw[Int.fdiv_eq_ediv_of_nonneg j ⋯];exact u) (.inl (PyProof.noPylong_small ⋯))
def PA:ek e (gk .Mod) (pj (λ_ A=>0<A) λj A=>.int<|j%A):=uy λj A Y Y Y Y Y a u=>by
 have l:(0:Int)<A:=a;exact mod_int' ⋯ (by rw[Int.fmod_eq_emod_of_nonneg j ⋯];exact u)
def N5:ek e (gk .Pow) (pj Qp λj A=>.int<|j^A.toNat):=uy λ_ Y Y Y Y Y Y a u=>pow_int_small a.1 a.2.1 a.2.2 u
def NY{z:ah->fK ah}{N:Int->Int}(a:∀(j:Int) (H:iE) (m:aw) (D:ah->aw->Prop) (VP:ah->aw->Prop),D (.int (N j) m.toks) {m with toks:=m.toks+1}->wpAny (aT e.prog e.w) e.A (z<|.int j H) D VP m):
  xa e z (A1 λj=>.int<|N j):=by
 intro G m y g b r D B d c;let⟨@j,rfl,u⟩:=c;let⟨@H,rfl⟩:=d;exact a j H m _ _ ⟨.int<|N j,g,B.tok _,⟨_,rfl⟩,u⟩
def TJ:xa e (unaryOp .USub) (A1 λj=>.int<|-j):=NY λ_ Y Y Y Y u=>neg_int u
def M1:ek e (eL .Lt) (lR λj A=>.aJ<|decide (j<A)):=vE λ_ Y Y Y Y Y Y u=>lt_int u
def Mp:ek e (eL .LtE) (lR λj A=>.aJ<|decide (j<=A)):=vE λ_ Y Y Y Y Y Y u=>le_int u
def Sw:ek e (eL .Gt) (lR λj A=>.aJ<|decide (A<j)):=vE λ_ Y Y Y Y Y Y u=>gt_int u
def Rm:ek e (eL .GtE) (lR λj A=>.aJ<|decide (A<=j)):=vE λ_ Y Y Y Y Y Y u=>ge_int u
def ek.or(c:ek e z p)(ar:ek e z WK):ek e z (λb i g D=>p b i g D\/WK b i g D):=by
 intro G m y g b i r I D B a d u;rcases u with u|u
 ·exact c G m y g b i r I D B a d u
 ·exact ar G m y g b i r I D B a d u
def d1(d:a7){Wx:kN}(c:Wx≠.In:=by decide)(t:Wx≠.NotIn:=by decide):oX Wx d=az:=by
 have a:(Wx==kN.In)=az:=by cases Wx<;>first|rfl|exact absurd rfl c
 have b:(Wx==kN.NotIn)=az:=by cases Wx<;>first|rfl|exact absurd rfl t
 cases d<;>simp[oX,a,b]
def Rg(a:ek e (eL Wx) p)(av:bj e h WC)(ag:bj e d We)(f:oX Wx d=az):bj e (.Compare h [Wx] [d] V3) (ti p WC We):=by
 intro G m y g D B c;exact wpAny_Compare1 (w5 av ag B c λr I j b i V8 k l n u=>a G j y V8 b i r I D k l n u) f
def DV(H:bU):ew:=(λy g D=>H y g λb F=>∃s,b=.aJ s/\D s F)
def TC(j:ek e (eL Wx) p)(av:bj e h WC)(ag:bj e d We)(l:oX Wx d=az):hq e (.Compare h [Wx] [d] V3) (DV<|ti p WC We):=by
 intro G m y g D B c;refine wpAny_isTrue_Compare1 (bK (av G m y g _ B c) λr n ⟨b,VT,o,q,t⟩=>bK (ag G n y VT _ o t) λI u ⟨i,V8,v,w,x⟩=>
  bK (j G u y V8 b i r I _ v q w x) λf F ⟨k,z,A,C,s,a,E⟩=>?_) l;subst a;cases C;exact lY ⟨z,A,E⟩
def DM(p WK:b0)(WC We Xh:bU):bU:=(λy g D=>WC y g λb VT=>We y VT λi V8=>p b i V8 λk a=>∃s,k=.aJ s/\
 (if s=ab then Xh y a λc d=>WK i c d D else D (.aJ az) a))
def P6{j:kN}(u:ek e (eL Wx) p)(v:ek e (eL j) WK)(av:bj e h WC)(ag:bj e d We)(w:bj e f Xh)(x:lastMarks [Wx,j] [d,f]=az:=by with_unfolding_all rfl):hq e (.Compare h [Wx,j] [d,f] V3) (DV<|DM p WK WC We Xh):=by
 intro G m y g D B c;refine isTrue_chain (bK (av G m y g _ B c) λr z ⟨b,VT,A,C,E⟩=>test_link (bK (ag G z y VT _ A E) λI F ⟨i,V8,H,l,J⟩=>
  bK (u G F y V8 b i r I _ H C l J) λo L ⟨k,n,q,M,s,a,t⟩=>?_)) x;subst a;cases M;refine lY ?_;cases s with
 |false=>
  let⟨@a2,N,dK⟩:=t;cases N;exact ite_ff ⟨n,q,dK⟩
 |true=>
  refine ite_tt (test_last<|bK (w G L y n _ q t) λO P ⟨Q,R,S,T,U⟩=>bK (v G P y R i Q I O _ S l T U) λbd be al=>?_);let⟨bi,@am,an,ap,⟨@Wq,as,a1⟩⟩:=al;subst as;cases ap;exact lY ⟨am,an,a1⟩
def zP(U:Φ)(b:af)(g:aA)(s:Bool):Prop:=(
 match b with
 |.aP=>s=az
 |.aJ d=>s=d
 |.int j=>s=(j != 0)
 |.str i=>i.length<=sizeLine/\s=((i.length:Int) != 0)
 |.rX i=>i.size<=sizeLine/\s=((i.size:Int) != 0)
 |.ref q=>(∃x,dv U g q x/\s=!x.isEmpty)\/(∃x,cC U g q x/\s=!x.isEmpty)\/∃VR,g q=Z (.dA VR)/\s=!VR.isEmpty
 |_=>False)
def Pn{Wh:Type}{VR:List (Wh×af)}{P:List (Wh×ah)}(p:fT VR P):(!P.isEmpty)=!VR.isEmpty:=by
 cases p<;>rfl
def IB{VZ:List ah}(p:bZ x VZ):(!VZ.toArray.isEmpty)=!x.isEmpty:=by
 cases p<;>simp
def nB:(sizeLine:Nat)<2^63:=by rw[uR];decide
def UO:QC e (λb g D=>∃s,zP e.K b g s/\D s g):=by
 intro G m y g b r D B h c;let⟨@s,a,u⟩:=c;have t:=nB;have v:sizeLine=16777216:=uR;cases b with
 |aP=>
  cases h;have f:s=az:=a;subst f;exact truthy_none ⟨g,B,u⟩
 |aJ d=>
  cases h;have f:s=d:=a;subst f;exact lY ⟨g,B,u⟩
 |int j=>
  let⟨@H,rfl⟩:=h;have f:s=(j != 0):=a;subst f;exact PySem.P.truthy_int ⟨g,B,u⟩
 |str i=>
  let⟨@H,rfl⟩:=h;obtain⟨n,f⟩:i.length<=sizeLine/\s=((i.length:Int) != 0):=a;subst f;exact PySem.P.truthy_str ⋯ ⟨g,B.tok _,u⟩
 |rX i=>
  let⟨@H,rfl⟩:=h;obtain⟨n,f⟩:i.size<=sizeLine/\s=((i.size:Int) != 0):=a;subst f;exact PySem.W.truthy_bytes ⋯ ⟨g,B.tok _,u⟩
 |ref q=>
  cases h;have f:(∃x,dv e.K g q x/\s=!x.isEmpty)\/(∃x,cC e.K g q x/\s=!x.isEmpty)\/∃VR,g q=Z (.dA VR)/\s=!VR.isEmpty:=a;rcases f with ⟨x,k,f⟩|⟨x,k,f⟩|⟨VR,k,f⟩
  ·subst f;let⟨@VZ,p,bQ,aR⟩:=B.list k;have l:=p.length;exact wpAny_truthy_list bQ.isList (by simp only[cK];lia) ⟨g,B.tok _,by rw[IB p];exact u⟩
  ·subst f;let⟨@VZ,p,bQ,aR⟩:=B.tuple k;have l:=p.length;exact truthy_tuple bQ (by simp only[cK];lia) ⟨g,B.tok _,by rw[IB p];exact u⟩
  ·subst f;obtain⟨aR,o,P,p,M⟩:VR.length<=sizeLine/\(q==iG)=az/\∃P,fT VR P/\m.heap.DictOf (kM e.prog e.w) q P:=B.aV q _ k;have l:VR.length=P.length:=dV.length p;exact wpAny_truthy_dict o M ⋯ ⟨g,B.tok _,by rw[Pn p];exact u⟩
 |_=>exact (show False from a).elim
def HV(av:bj e h WC)(d:∀a,n5 h e.env a=(do let r <-a;standAt h.pos;holding [r] (tK r))):
  hq e h (λy g D=>WC y g λb F=>∃s,zP e.K b F s/\D s F):=by
 intro G m y g D B c;exact isTrue_plain (bK (av G m y g _ B c) λr f ⟨b,VT,i,j,k⟩=>UO G f y VT b r D i j k) (d _)
def K5:ek e (gk .Add) (λb i g D=>∃j A,b=.str j/\i=.str A/\j.length+A.length<=sizeLine/\D (.str<|j++A) g):=by
 intro G m y g b i r I D B a d c;let⟨j,@A,rfl,rfl,aR,u⟩:=c;let⟨@H,rfl⟩:=a;let⟨@Wr,rfl⟩:=d;exact add_str (λWr Wy=>⟨.str<|j++A,g,B.tok _,⟨_,rfl⟩,u⟩) aR
def h3{b:af}(p:bZ [b] Wc):∃I,Wc=[I]/\b1 b I:=by
 cases p with
 |cons a c=>cases c;exact⟨_,rfl,a⟩
def rI{b:af}(p:bZ [b,i] Wc):∃I a,Wc=[I,a]/\b1 b I/\b1 i a:=by
 cases p with
 |cons c d=>
  cases d with
  |cons e f=>cases f;exact⟨_,_,rfl,c,e⟩
def UH(b:e.calm=ab):ez e (.builtin "max") (λx g D=>∃j A,x=[.int j,.int A]/\D (.int<|if A>j then A else j) g):=by
 intro G m y g x Wc D B p c;let⟨j,@A,rfl,u⟩:=c;let⟨I,@d,rfl,⟨@H,rfl⟩,⟨@Wr,rfl⟩⟩:=rI p;refine max_two_ints (B.ok.hd b) λar Wy s=>⟨_,g,B.kept s,?_,u⟩;by_cases a:A>j
 ·rw[aH a,aH a];exact⟨_,rfl⟩
 ·rw[if_neg a,if_neg a];exact⟨_,rfl⟩
def Sp(b:e.calm=ab):ez e (.builtin "min") (λx g D=>∃j A,x=[.int j,.int A]/\D (.int<|if A<j then A else j) g):=by
 intro G m y g x Wc D B p c;let⟨j,@A,rfl,u⟩:=c;let⟨I,@d,rfl,⟨@H,rfl⟩,⟨@Wr,rfl⟩⟩:=rI p;refine min_two_ints (B.ok.hd b) λar Wy s=>⟨_,g,B.kept s,?_,u⟩;by_cases a:A<j
 ·rw[aH a,aH a];exact⟨_,rfl⟩
 ·rw[if_neg a,if_neg a];exact⟨_,rfl⟩
def MW:ez e (.type "int") (λx g D=>(∃j,x=[.int j]/\D (.int j) g)\/∃s,x=[.aJ s]/\D (.int<|if s then 1 else 0) g):=by
 intro G m y g x Wc D B p c;rcases c with ⟨j,rfl,u⟩|⟨s,rfl,u⟩
 ·let⟨@I,rfl,⟨@H,rfl⟩⟩:=h3 p;exact call_int_int ⟨.int j,g,B,⟨_,rfl⟩,u⟩
 ·let⟨@I,rfl,a⟩:=h3 p;cases a;exact call_int_bool ⟨.int<|if s then 1 else 0,g,B.tok _,⟨_,rfl⟩,u⟩
end
def jB.some_of{n:Option ah}(p:jB (Z r) n):∃I,n=Z I/\b1 r I:=by
 cases n with
 |none=>exact (show False from p).elim
 |some I=>exact⟨I,rfl,p⟩
def Nl(e:aM)(Wx:l2)(a:af->af->aA->cj->Prop):Prop:=(
 ∀(G:List (au×ba)) (m:aw) (y:a3) (g:aA) (b i:af) (I r:ah) (D:cj),aI e G y g m->b1 b I->b1 i r->a b i g D->wpAny (aT e.prog e.w) e.A (xr Wx I r) (eB e G y D) e.cJ m)
structure e2(s:Nat)(O:bz):Prop where
 hd:O.handled=X
 Ai:O.depth+3*s+5<EY
 un:O.units+16*s+200<bN
 nc:O.guards=Z []
def e2.mono(p:e2 s O)(c:A<=s):e2 A O:=⟨p.hd,by have:=p.Ai;lia,by have:=p.un;lia,p.nc⟩
def e2.deeper(p:e2 (s+1) O)(VM:eN):e2 s (O.deeper VM):=
 ⟨p.hd,by have:=p.Ai;show O.depth+1+3*s+5<_;lia,by have:=p.un;show O.units+3+16*s+200<_;lia,p.nc⟩
def e2.depth(p:e2 s O):O.depth<EY:=by have:=p.Ai;lia
def UP:eT:=(λ_ g D=>D [] g)
def UX(WC:bU)(a:eT):eT:=(λy g D=>WC y g λb VT=>a y VT λx V8=>D (b::x) V8)
section
variable{e:aM}{a:a7}{Q:List a7}{WX:bU}{H:eT}{V3:cw}
def yG:hl e [] UP:=λ_ Y Y Y g D B c=>uj ⟨[],g,B,.nil,c⟩
def uo(av:bj e a WX)(f:hl e Q H)(h:bA (a::Q) e.env=(az,bM a e.env)::bA Q e.env:=by rfl):hl e (a::Q) (UX WX H):=by
 intro V3 G m y g D B c;rw[h];show wpAny _ _ (spliced ((az,bM a e.env)::eF V3 (bA Q e.env))) _ _ m;refine qw (bK (av G m y g _ B c) λI i d=>?_);let⟨b,@VT,j,k,l⟩:=d;refine bK (f V3 G i y VT _ j l) λWc q d=>?_;let⟨x,@V8,n,o,p⟩:=d;exact⟨b::x,V8,n,.cons k o,p⟩
def S6(H:eT):bU:=(λy g D=>H y g λx VT=>x.length<=sizeLine/\∀q,VT q=X->D (.ref q) (upd VT q<|.tup x))
def Qm(H:eT):bU:=(λy g D=>H y g λx VT=>x.length<=sizeLine/\∀q,VT q=X->D (.ref q) (upd VT q<|.lst x))
def U4{h}(c:hl e Q H):bj e (.Tuple Q h V3) (S6 H):=by
 intro G m y g D B i;refine wpAny_Tuple_spliced (bK (c V3 G m y g _ B i) λWc b ⟨x,VT,f,p,k,u⟩=>⟨by rw[<-p.length];exact k,?_⟩);have j:VT b.heap.objs.size=X:=f.aV.fresh (bB _);refine⟨.ref b.heap.objs.size,upd VT b.heap.objs.size<|.tup x,f.laid (Wr:=b.toks) (λd I a=>cu _ a) (bB _) ?_,rfl,u _ j⟩;exact⟨k,Wc,p,⟨_,dx _ rfl,rfl,_,rfl⟩⟩
def Pt(c:hl e Q H):bj e (.List Q V3) (Qm H):=by
 intro G m y g D B h;refine wpAny_List_spliced (bK (c V3 G m y g _ B h) λWc b ⟨x,VT,f,p,k,u⟩=>⟨by rw[<-p.length];exact k,?_⟩);have i:VT b.heap.objs.size=X:=f.aV.fresh (bB _);refine⟨.ref b.heap.objs.size,upd VT b.heap.objs.size<|.lst x,f.laid (Wr:=b.toks) (λd I a=>cu _ a) (bB _) ?_,rfl,u _ i⟩;exact⟨k,Wc,0,p,dx _ rfl⟩
end
abbrev mc:=List af->aA->cj->gK->Prop
abbrev kX:=List eN->aA->aw->gK->ah->aw->Prop
variable{W3:kX}
structure u1(V0:bu)(C:bf)(U:Φ)(aL:aF->Option ah)(Wj:a4)(O:bz)(WH:List eN)(m:aw)(g:aA):Prop where
 frames:O.frames=Z WH
 mod:Mod U aL Wj
 bs:∀d n,Wj.get? d=Z n->m.heap.get? d=Z n/\g d=kp n
 lC:Wj.objs.size<=m.heap.objs.size
 iQ:m.heap.FunFrames Wj WH
 oJ:∀d∈ig WH,g d=X
 aV:eh V0 C g m.heap
 bare:l9 m.gens
def zE(WH:List eN)(V0:bu)(C:bf)(g:aA)(m:aw)(D:cj)(I:ah)(VY:aw):Prop:=(
 ∃r F,VY.os=m.os/\l9 VY.gens/\fp (ig WH) [] g F m.heap VY.heap/\eh V0 C F VY.heap/\b1 r I/\D r F)
def MZ(W3:kX)(WH:List eN)(V0:bu)(C:bf)(g:aA)(m:aw)(D:cj)(VP:gK)(p:pI)(VY:aw):Prop:=(
 match p with
 |.ok (.ret I)=>zE WH V0 C g m D I VY
 |.ok _=>False
 |.error a=>W3 WH g m VP a VY)
structure iP(V0:bu)(C:bf)(U:Φ)(aL:aF->Option ah)(Wj:a4)(W3:kX)(s:Nat)(z:au)(fd:hj)(VV:List aF)(W6:mc):Prop where
 len:∀P g D VP,W6 P g D VP->P.length=VV.length
 run:∀(O:bz) (WH:List eN) (m:aw) (g:aA) (args:Args) (Wc:List ah) (P:List af) (D:cj) (VP:gK),e2 s O->u1 V0 C U aL Wj O WH m g->my m fd args (VV.zip Wc)->bZ P Wc->W6 P g D VP->
  codeAny (aT V0 C) O (.call (.ref z) args) (MZ W3 WH V0 C g m D VP) m
section
variable{e:aM}{G:List (au×ba)}{y:a3}{g:aA}{m VY:aw}
def aI.Qf(B:aI e G y g m):u1 e.prog e.w e.K e.aL e.base e.A e.stack m g:=
 ⟨B.ok.frames,B.ok.mod,B.bs,dN B.ok.lC B.dj,B.stack,B.Fo,B.aV,B.bare⟩
def aI.after{D:cj}(B:aI e G y g m)(c:zE e.stack e.prog e.w g m D I VY):eB e G y D I VY:=by
 let⟨r,@F,V6,a,un,aV,p,u⟩:=c;let⟨b,N,o,H,f⟩:=VY;obtain rfl:f=m.os:=V6;exact⟨r,F,B.call (ar:=b) (i:=N) (r:=o) (Wr:=H) (WZ:=[]) un aV a (λd k=>absurd k ↥0),p,u⟩
end
def Bf(W6:mc)(k:List af)(VP:gK)(H:eT):bU:=(λy g D=>H y g λP VT=>W6 (P++k) VT D VP)
def jy(U:Φ)(fd:hj)(VV:List aF)(E:List ah):Prop:=(
 ∀(m:aw) (Wc:List ah),U.In m.heap->(Wc++E).length=VV.length->my m fd ⟨Wc,[]⟩ (VV.zip<|Wc++E))
def jy.all{fd:hj}(c:∀Wc:List ah,Wc.length=VV.length->kz fd ⟨Wc,[]⟩=pure (VV.zip Wc)):jy U fd VV []:=λm Wc Y a=>by
 rw[b4]at a ⊢;exact .of_eq (c Wc a)
def AB(W3:kX)(e:aM)(VP:gK):Prop:=(∀(G:List (au×ba)) (y:a3) (g:aA) (m:aw) (a:ah) (VY:aw),aI e G y g m->W3 e.stack g m VP a VY->e.cJ a VY)
section
variable{e:aM}{W3:kX}{s:Nat}{z aN:au}{fd:hj}{VV:List aF}{W6:mc}{k:List af}{E:List ah}{VP:gK}{b M:aF}{q V3 W0:cw}{a n:a7}{Q:List a7}{WC:bU}{H:eT}
def OY{D:cj}(L:iP e.prog e.w e.K e.aL e.base W3 s z fd VV W6)(f:e2 s e.A)(ag:jy e.K fd VV E)(hd:bZ k E)(h:AB W3 e VP)(B:aI e G y g m)(p:bZ P Wc)(c:W6 (P++k) g D VP):wpAny (aT e.prog e.w) e.A (call (.ref z) Wc) (eB e G y D) e.cJ m:=by
 have d:bZ (P++k) (Wc++E):=p.append hd;have i:(Wc++E).length=VV.length:=by rw[<-d.length];exact L.len _ _ _ _ c
 refine wpAny_call (zF (L.run e.A e.stack m g ⟨Wc,[]⟩ (Wc++E) (P++k) D VP f B.Qf (ag m Wc B.o2 i) d c) λp VY b=>?_);cases p with
 |error a=>exact h G y g m a VY B b
 |ok aX=>
  cases aX with
  |ret I=>exact B.after b
  |next=>exact False.elim b
  |brk=>exact False.elim b
  |cont=>exact False.elim b
def R9(L:iP e.prog e.w e.K e.aL e.base W3 s z fd VV W6)(f:e2 s e.A)(h:eU e b)(i:e.aL b=Z (.ref z))(j:Θ e.K (.ref z)=ab)(ag:jy e.K fd VV E)(hd:bZ k E)(l:AB W3 e VP)(av:hl e (a::Q) H)(n:(b==("__debug__" : aF))=az:=by decide)(o:bA (a::Q) e.env=(az,bM a e.env)::bA Q e.env:=by rfl)(r:(eF V3<|bA Q e.env).any (·.1)=az:=by rfl):
  bj e (.Call (.Name b q) (a::Q) [] V3) (Bf W6 k VP H):=by
 intro G m y g D B c;refine tv (GS B h i ?_ n);refine PySem.W.callWith_K (h₀:=e.base) B.ok.mod.Ah j (bK (av V3 G m y g _ B c) λWc v ⟨P,VT,d,p,u⟩=>⟨d.o2,?_⟩) o r;exact OY L f ag hd l d p u
end
structure nk(Wm V0:List aF)(B:gq):Prop where
 kind:B.kind=.function
 co:B.isCoroutine=az
 gen:B.isGenerator=az
 ae:Wm.Nodup
 pre:Wm.take V0.length=V0
 par:∀b∈V0,B.names.lookup b=Z .local\/B.names.lookup b=Z .cell
 KD:∀i∈B.names,i.2≠.free
theorem Dz{a:aF->Option c3}{b:aF}:∀{binds:List (aF×ah)}{M:aF->Option ah},(∀r,(b,r)∉binds)->bindL a binds M b=M b
 |[],_,_=>rfl
 | (v,r)::p,M,c=>by
  unfold bindL;rw[Dz λC d=>c C<|kL _ d];split
  ·have:b≠v:=by rintro rfl;exact c r md
   simp[this]
  ·rfl
theorem Bu{a:aF->Option c3}{b:aF}:∀{binds:List (aF×ah)}{M:aF->Option ah},(∀r,(b,r)∉binds)->bindC a binds M b=M b
 |[],_,_=>rfl
 | (v,r)::p,M,c=>by
  unfold bindC;rw[Bu λC d=>c C<|kL _ d];split
  ·rfl
  ·have:b≠v:=by rintro rfl;exact c r md
   simp[this]
theorem Ep{a:aF->Option c3}{b:aF}{r:ah}:∀{V0:List aF}{P:List ah}{j:Nat}{M:aF->Option ah},V0.Nodup->V0[j]?=Z b->P[j]?=Z r->a b=Z .local->
  bindL a (V0.zip P) M b=Z r
 |[],_,_,_,_,c,_,_=>by simp at c
 |_::_,[],_,_,_,_,c,_=>by simp at c
 |q::V0,C::P,0,M,ae,l,t,d=>by
  simp at l t;subst l;subst t;show bindL a ((q,C)::V0.zip P) M q=_;unfold bindL;rw[Dz λr e=>(dD.mp ae).1 (wU e).1,aH d];simp
 |q::V0,C::P,j+1,M,ae,l,t,d=>by
  show bindL a ((q,C)::V0.zip P) M b=_;unfold bindL;exact Ep (j:=j) (dD.mp ae).2 ⇑l ⇑t d
theorem Dx{a:aF->Option c3}{b:aF}{r:ah}:∀{V0:List aF}{P:List ah}{j:Nat}{M:aF->Option ah},V0.Nodup->V0[j]?=Z b->P[j]?=Z r->a b≠Z .local->
  bindC a (V0.zip P) M b=Z r
 |[],_,_,_,_,c,_,_=>by simp at c
 |_::_,[],_,_,_,_,c,_=>by simp at c
 |q::V0,C::P,0,M,ae,l,t,d=>by
  simp at l t;subst l;subst t;show bindC a ((q,C)::V0.zip P) M q=_;unfold bindC;rw[Bu λr e=>(dD.mp ae).1 (wU e).1,if_neg d];simp
 |q::V0,C::P,j+1,M,ae,l,t,d=>by
  show bindC a ((q,C)::V0.zip P) M b=_;unfold bindC;exact Dx (j:=j) (dD.mp ae).2 ⇑l ⇑t d
def kq(Wm:List aF)(P:List af):a3:=(P.map Z++replicate (Wm.length-P.length) X)
def l4(W3:kX)(V0:bu)(C:bf)(U:Φ)(aL:aF->Option ah)(Wj:a4)(Wm:List aF)(WT:aF)(Wa:gq)(z:au)(b:ah)(O:bz)(WH:List eN)(m:aw)(g:aA)(VP:gK):aM where
 prog:=V0
 w:=C
 K:=U
 aL:=aL
 base:=Wj
 A:=O.deeper (jl WT Wa m.heap.objs.size z b)
 N:=Wm
 e7:=m
 m5:=g
 env:=jl WT Wa m.heap.objs.size z b
 outer:=WH
 stack:=jl WT Wa m.heap.objs.size z b::WH
 ex:=[]
 calm:=ab
 fn:=λ_=>ab
 k6:=[]
 cJ:=λa VY=>wpAny (aT V0 C) (O.deeper<|jl WT Wa m.heap.objs.size z b) (leaving (jl WT Wa m.heap.objs.size z b) a) (λ_ c=>W3 WH g m VP a c) (λd c=>W3 WH g m VP d c) VY
def J4{B:gq}(c:B.names.lookup b=Z .cell):∃f,(w2 v B.names []).lookup b=Z f:=by
 have u:=E3 B.names v [] (.inl c);exact Option.isSome_iff_exists.mp u
def P2{z:au}{w:ah}{WH:List eN}{y:aw}{VP:gK}(V2:nk Wm VV Wa)(hd:O.handled=X)(e:u1 V0 C U aL Wj O WH m g)(G:P.length=VV.length)(p:bZ P Wc)(b:InCallC m m.heap.objs.size (bindL (jl WT Wa m.heap.objs.size z w).kindOf (VV.zip Wc) λ_=>X) (w2 (m.heap.objs.size+1) Wa.names []) (bindC (jl WT Wa m.heap.objs.size z w).kindOf (VV.zip Wc) λ_=>X) y):
  aI (l4 W3 V0 C U aL Wj Wm WT Wa z w O WH m g VP) [] (kq Wm P) g y:=by
 have H:VV.length<=Wm.length:=by have:=congrArg List.length V2.pre;rw[rB]at this;lia
 let⟨l,@Wy,rfl,A⟩:=b.done;have x:∀d:au,d∉(l4 W3 V0 C U aL Wj Wm WT Wa z w O WH m g VP).ex:=λd k=>absurd (show d∈([]:List au) from k) ↥0;refine⟨⟨e.mod,V2.kind,rfl,rfl,bB _,λi k f l t=>?_,λi n=>?_,λi f Y c=>?_,λ_=>hd,bz.frames_deeper e.frames,.inr ⟨rfl,rfl⟩,λd k=>absurd k<|x d,e.bs,e.lC,λd Y Y=>x d,λd k=>absurd k<|x d,e.iQ,e.oJ⟩,
  rfl,e.bare,fp.kept A,⟨_,b.toInCall.ns,λj i r l t J=>?_⟩,λi f c=>⟨_,b.cell i f c⟩,e.aV.fresh<|bB _,λi f c=>?_,λq o=>absurd (show q∈([]:List (au×ba)) from o) ↥0,e.aV.kept A,?_⟩
 ·exact name_of_addr b.apart (PySem.mem_of_lookup l) (PySem.mem_of_lookup t)
 ·have n:Wa.names.lookup i=Z .cell\/Wa.names.lookup i=Z .free:=n;rcases n with n|n
  ·exact J4 n
  ·exact absurd rfl (V2.KD _<|PySem.mem_of_lookup n)
 ·exact rb (b.above i f<|PySem.mem_of_lookup c)
 ·have VW:j<P.length:=by
   unfold kq at t;by_cases VW:j<P.length
   ·exact VW
   ·rw[sR ⇑VW]at t;rw[List.getElem?_replicate]at t;split at t<;>cases t
  have av:P[j]?=Z r:=by
   unfold kq at t;rw[r_ ⇑VW,gC]at t;cases a:P[j]? with
   |none=>rw[a]at t;cases t
   |some h=>rw[a]at t;cases t;rfl
  let⟨@I,B,F⟩:=p.get av;have o:VV[j]?=Z i:=by
   rw[<-V2.pre,List.getElem?_take_of_lt ⋯];exact l
  have D:VV.Nodup:=by rw[<-V2.pre];exact V2.ae.sublist (List.take_sublist _ _)
  refine⟨I,F,?_⟩;rcases V2.par i (lg o) with s|s
  ·exact .inl ⟨s,Ep D o B s⟩
  ·let⟨@f,a⟩:=J4 (v:=m.heap.objs.size+1) s;refine .inr ⟨.inl s,f,a,?_⟩;have u:=b.cell i f a;rw[Dx D o B (by show Wa.names.lookup i≠_;rw[s];decide)]at u;exact u
 ·exact e.aV.fresh (rb<|b.above i f<|PySem.mem_of_lookup c)
 ·unfold kq;show _=Wm.length;rw[cZ,br,List.length_replicate];lia
def Mu{z:au}{name:aF}{o:Arguments}{q cy w Ws k ct t:ah}{S l:Option au}{Xg:Array (Option ah)}{W6:mc}(lk:U.lookup z=Z ⟨t,l,.func<|Ψ name WT o Xb Wa q cy w Ws S k ct,Xg⟩)(G:Δ U k WT=ab)(V2:nk Wm VV Wa)(len:∀P g D VP,W6 P g D VP->P.length=VV.length)(J:∀(O:bz) (WH:List eN) (m:aw) (g:aA) (P:List af) (D:cj) (VP:gK),e2 s (O.deeper<|jl WT Wa m.heap.objs.size z k)->W6 P g D VP->
   ∃H,hN (l4 W3 V0 C U aL Wj Wm WT Wa z k O WH m g VP) Xb H/\H {a8:=λ_ F=>D .aP F,eQ:=D} (kq Wm P) g):
  iP V0 C U aL Wj W3 (s+1) z (Ψ name WT o Xb Wa q cy w Ws S k ct) VV W6:=by
 refine⟨len,λO WH m g args Wc P D VP h e ag p x=>?_⟩;have L:=len _ _ _ _ x;have y:U.In m.heap:=e.mod.Ah.keeps λd n a=>(e.bs d n a).1;have M:m.heap.NoLimit:=e.mod.nolimit.keeps λd n a=>(e.bs d n a).1;have N:∀i∈VV.zip Wc,Wa.names.lookup i.1=Z .local\/(Wa.names.lookup i.1=Z .cell/\((w2 (m.heap.objs.size+1) Wa.names []).lookup i.1).isSome=ab):=λ⟨v,r⟩ Q=>by
  rcases V2.par v (wU Q).1 with u|u
  ·exact .inl u
  ·exact .inr ⟨u,E3 _ _ _<|.inl u⟩
 refine codeAny_call_function h.depth (y _ _ lk) rfl V2.co V2.gen rfl (PySem.W.codeRec_of y G) (ag _ _ _ _ ?_);refine wpAny_newFunctionEnv_cells V2.kind N λVM R A b=>?_;subst R;refine⟨M.keeps b.toInCall.keep,codeAny_func ?_⟩;let⟨@H,T,al⟩:=J O WH m g P D VP (h.deeper _) x;have B:aI (l4 W3 V0 C U aL Wj Wm WT Wa z k O WH m g VP) [] (kq Wm P) g A:=P2 V2 h.hd e L p b;refine hg (T [] A (kq Wm P) g _ B al) (λaX VY c=>?_) λa VY c=>c;have fin:∀{f:a3}{F:aA}{r:af}{I:ah},aI (l4 W3 V0 C U aL Wj Wm WT Wa z k O WH m g VP) [] f F VY->b1 r I->D r F->zE WH V0 C g m D I VY:=
  λ{f F r I} WY j u=>⟨r,F,WY.os,WY.bare,WY.base,WY.aV,j,u⟩;cases aX with
 |ret I=>
  let⟨r,f,@F,WY,j,u⟩:=c;exact fin WY j u
 |next=>
  let⟨f,@F,WY,u⟩:=c;exact fin (r:=af.aP) (I:=ah.none) WY rfl u
 |brk=>
  let⟨Y,@Y,Y,u⟩:=c;exact False.elim u
 |cont=>
  let⟨Y,@Y,Y,u⟩:=c;exact False.elim u
section
variable{e:aM}{b:aF}{q V3:cw}{a:a7}{Q:List a7}{H:eT}{id S:String}{p:List af->aA->cj->Prop}
def G4(p:List af->aA->cj->Prop)(H:eT):bU:=(λy g D=>H y g λP VT=>p P VT D)
def HF(d:ez e (.builtin id) p)(f:eU e b)(h:e.aL b=X)(i:fw b=Z (.builtin id))(av:hl e (a::Q) H)(j:b ≠ "__name__" := by decide)(k:(b==("__debug__" : aF))=az:=by decide)(l:bA (a::Q) e.env=(az,bM a e.env)::bA Q e.env:=by rfl)(n:(eF V3<|bA Q e.env).any (·.1)=az:=by rfl):bj e (.Call (.Name b q) (a::Q) [] V3) (G4 p H):=by
 intro G m y g D B c;refine tv (mM B f h i ?_ j k);exact TY (bK (av V3 G m y g _ B c) λWc o ⟨P,VT,r,s,t⟩=>d G o y VT P Wc D r s t) l n
def Kf(d:ez e (.type S) p)(f:eU e b)(h:e.aL b=X)(i:fw b=Z (.type S))(av:hl e (a::Q) H)(j:b ≠ "__name__" := by decide)(k:(b==("__debug__" : aF))=az:=by decide)(l:bA (a::Q) e.env=(az,bM a e.env)::bA Q e.env:=by rfl)(n:(eF V3<|bA Q e.env).any (·.1)=az:=by rfl):bj e (.Call (.Name b q) (a::Q) [] V3) (G4 p H):=by
 intro G m y g D B c;refine tv (mM B f h i ?_ j k);exact pX (bK (av V3 G m y g _ B c) λWc o ⟨P,VT,r,s,t⟩=>d G o y VT P Wc D r s t) l n
end
end L2
namespace c5
open PyProof.Rows
variable{VW VS:Option Int}{i b3:ah}{aS H:au}{D:ah->aw->Prop}
theorem Te(O:bz)(m:aw)(h:Int)(H:iE)(f:Int)(I:iE)(VX:bu)(C:bf)(VP:ah->aw->Prop)(D:ah->aw->Prop)(c:D (.bool<|decide (h<f)) m):
  wpAny (aT VX C) O (k1 .Lt (.int h H)<|.int f I) D VP m:=
 (Sr c:wpAny (aT VX C) O (eL .Lt (.int h H)<|.int f I) D VP m)
section
open PySem.SeqAt
open PySem.AutoSeq1 (wpAny_loadPart')
open PySem.MeetsSeq PySem.MeetsSeq2 PySem.MeetsSeq3
end
section
variable{VX:bu}{C:bf}{O:bz}{VP:ah->aw->Prop}{m:aw}
def Nc{d:au}{P WG:List ah}(p:nS m.heap H P.toArray)(ag:nS m.heap d WG.toArray)(f:P≠[])(l:WG=[]->D (.ref H) m)(t:WG≠[]->D (.ref m.heap.objs.size) {m with heap:=m.heap.push {cls:=.type "tuple",data:=.seq (P++WG).toArray} })(q:P.length+WG.length<=sizeLine):wpAny (aT VX C) O (gk .Add (.ref H)<|.ref d) D VP m:=by
 let⟨@⟨cls,g,data,aS⟩,b,h,⟨@v,hd⟩⟩:=id p;let⟨@⟨r,i,data2,j⟩,c,k,⟨@n,o⟩⟩:=id ag;simp only at h hd k o;subst h hd k o;have a:P.toArray++WG.toArray=(P++WG).toArray:=by simp
 by_cases e:WG=[]
 ·exact yb ⟨_,b,rfl⟩ ⟨_,c,rfl⟩ y6 xR yV xJ (w7 _ _)
   (tuple_addW1 H d P.toArray WG.toArray v n g i aS j ⇑f (by simp[e])) ⟨b,c,l e⟩
 ·refine yb ⟨_,b,rfl⟩ ⟨_,c,rfl⟩ y6 xR yV xJ (w7 _ _)
   (tuple_addW2 H d P.toArray WG.toArray v n g i aS j ⇑f ⇑e (by rw[cK,cK];exact q)) ⟨b,c,?_⟩;rw[a];exact t e
def cm(v o:Nat):Option Int->Nat
 |none=>o
 |some r=>if r<0 then (r+(v:Int)).toNat else min r.toNat v
def JD(v o:Nat):cm v o X=o:=rfl
def ua(v o s:Nat):cm v o (Z (s:Int))=min s v:=by
 show (if (s:Int)<0 then ((s:Int)+(v:Int)).toNat else min (s:Int).toNat v)=min s v;rw[if_neg ⋯,oc]
def R2(v o:Nat)(hd:o<=v)(n:Option Int):cm v o n<=v:=by
 cases n with
 |none=>exact hd
 |some r=>
  show (if r<0 then (r+(v:Int)).toNat else min r.toNat v)<=v;by_cases a:r<0
  ·rw[aH a];lia
  ·rw[if_neg a];exact CK _ _
def H6(r:Int)(v o:Nat):(if r<0 then max (r+(v:Int)) 0 else min r (v:Int))=((cm v o (Z r):Nat):Int):=by
 show (if r<0 then max (r+(v:Int)) 0 else min r (v:Int))=(((if r<0 then (r+(v:Int)).toNat else min r.toNat v):Nat):Int);by_cases a:r<0
 ·simp only[aH a];lia
 ·simp only[if_neg a];lia
def RY(VS VW:Option Int)(v:Nat):bo.Slice.sliceAdjust VS VW 1 (v:Int)=(((cm v 0 VS:Nat):Int),((cm v v VW:Nat):Int)):=by
 have l:¬ ((1:Int)<0):=⋯
 unfold bo.Slice.sliceAdjust;simp only[l,fO];refine m4 ?_ ?_
 ·cases VS with
  |none=>rfl
  |some r=>exact H6 r v 0
 ·cases VW with
  |none=>rfl
  |some r=>exact H6 r v v
def Qj(j A:Nat):bo.Slice.slicePlaces (j:Int) (A:Int) 1=A-j:=by
 unfold bo.Slice.slicePlaces;have l:(1:Int)>0:=⋯
 simp only[l,gB,Int.ediv_one];split<;>lia
def Ew{r:ah}{n:Option Int}{D:Option Int->aw->Prop}(q:kG r n)(c:D n m):wpAny (aT VX C) O (bo.Slice.slicePartIndex r) D VP m:=by
 cases q with
 |none=>exact Di c
 |int j H=>exact slicePart_int c
def Iz{v:Nat}{D:Int×Int×Nat->aw->Prop}(e:m.heap.IsSliceOf aS b3 i .none)(bQ:kG b3 VS)(f:kG i VW)(c:D (((cm v 0 VS:Nat):Int),1,cm v v VW-cm v 0 VS) m):wpAny (aT VX C) O (bo.Slice.sliceApplied (.ref aS)<|pure (v:Int)) D VP m:=by
 let⟨@V6,a,g,d⟩:=id e;unfold bo.Slice.sliceApplied bo.Slice.sliceFields;refine aC (aC<|hO a d (x:=b3) rfl<|aC<|hO a d (x:=i) rfl<|aC<|hO a d (x:=.none) rfl<|a5 ?_);refine aC (Di ?_);show wpAny _ _ (if ((1:Int)==0)=ab then _ else _) _ _ m;rw[if_neg ∅];refine aC (Ew bQ<|aC<|Ew f<|aC<|a5 ?_);show wpAny _ _ (match bo.Slice.sliceAdjust VS VW 1 (v:Int) with|(VS,VW)=>pure (VS,(1:Int),bo.Slice.slicePlaces VS VW 1)) _ _ m;rw[RY VS VW v];show wpAny _ _ (pure (((cm v 0 VS:Nat):Int),(1:Int),bo.Slice.slicePlaces ((cm v 0 VS:Nat):Int) ((cm v v VW:Nat):Int) 1)) _ _ m;rw[Qj];exact a5 c
def Pr(x:Array ah)(j s:Nat):((range s).filterMap λ(M:Nat)=>x[((j:Int)+(M:Int)*1).toNat]?).toArray=((x.toList.drop j).take s).toArray:=by
 have a:(λ(M:Nat)=>x[((j:Int)+(M:Int)*1).toNat]?)=λM=>x[j+M]?:=by
  funext M;have:((j:Int)+(M:Int)*1).toNat=j+M:=⋯
  rw[this]
 rw[a];have:=pick_run x j s;rw[List.filterMap_map]at this;have c:((λb=>x[b]?) ∘ λb=>j+b)=λM=>x[j+M]?:=rfl;rw[c]at this;rw[this]
def Lk{S:Array ah}(a:nS m.heap H S)(d:m.heap.IsSliceOf aS b3 i .none)(bQ:kG b3 VS)(e:kG i VW)(f:¬ (cm S.size 0 VS=0/\cm S.size S.size VW=S.size))(c:D (.ref m.heap.objs.size) {m with heap:=m.heap.push {cls:=.type "tuple",data:=.seq ((S.toList.drop<|cm S.size 0 VS).take<|cm S.size S.size VW-cm S.size 0 VS).toArray} })(l:S.size<=sizeLine):wpAny (aT VX C) O (km (.ref H)<|.ref aS) D VP m:=by
 have b:sizeOk (.seq ((S.toList.drop<|cm S.size 0 VS).take<|cm S.size S.size VW-cm S.size 0 VS).toArray):=by
  show ((S.toList.drop<|cm S.size 0 VS).take<|cm S.size S.size VW-cm S.size 0 VS).toArray.size<=sizeLine;rw[cK,rB,l6,ha];lia
 have n:cm S.size S.size VW<=S.size:=R2 _ _ (bB _) VW;let⟨@V6,g,h,o⟩:=id d;have j:m.TypeIs (.ref aS) "slice" := ⟨V6,g,h⟩;unfold km;try with_reducible refine fI ?_
 first|refine aC (a5 ?_)|skip
 refine aC (Jl a.typeIs ∅ ?_);refine aC (ll (name:=aF.ofString "__getitem__") a.typeIs o1
  (jm o1 a.typeIs EI ?_<|DA _ _));show wpAny _ _ (bo.Tuple.tupleItemsOf (.ref H) >>= _) _ _ m;refine aC (C0 a ?_);refine aC (wpAny_typeOf j ?_);rw[aH ∅];refine aC (Iz d bQ e ?_);have k:¬ ((((cm S.size 0 VS:Nat):Int)==0&&(1:Int)==1&&(cm S.size S.size VW-cm S.size 0 VS)==S.size)=ab):=by
  intro u;rw[cI,cI]at u;have p:((cm S.size 0 VS:Nat):Int)=0:=eq_of_beq u.1.1;have q:cm S.size S.size VW-cm S.size 0 VS=S.size:=eq_of_beq u.2;exact f ⟨⋯,⋯⟩
 show wpAny _ _ (if (((cm S.size 0 VS:Nat):Int)==0&&(1:Int)==1&&(cm S.size S.size VW-cm S.size 0 VS)==S.size)=ab then _ else _) _ _ m;rw[if_neg k,Pr];first
  | exact aC (m:=bo.Tuple.tupleExact _) (hE (a5 ⟨_,rfl,a5 c⟩) b)
  | exact aC (m:=bo.Tuple.tupleExact _) (hE (aC<|a5<|a5 ⟨_,rfl,a5 c⟩) b)
  | exact aC (aC (m:=bo.Tuple.tupleExact _)<|hE (a5<|a5 ⟨_,rfl,a5 c⟩) b)
  | exact aC (aC (m:=bo.Tuple.tupleExact _)<|hE (a5 ⟨_,rfl,a5 c⟩) b)
end
end c5
namespace L2
open Spec PyProof.Rows
variable{h q:au}{e:aM}{D:ah->aw->Prop}{O:bz}{F g:aA}{VR:List (List aa×af)}{C:bf}{V0:bu}{I:Option ah}{n:Option af}{Wr A v:Nat}{S:String}{R VZ Wc:List ah}{m:aw}{y:a3}{G:List (au×ba)}{p:b0}{V7:Type}{j:Int}{x:List (List aa×au×ah)}
abbrev cU:=a3->aA->(Option Int->aA->Prop)->Prop
def BI(e:aM)(a:Option a7)(H:cU)(G:List (au×ba)):Prop:=(
 ∀(m:aw) (y:a3) (g:aA) (D:Option Int->aA->Prop),aI e G y g m->H y g D->
  wpAny (aT e.prog e.w) e.A (evalPart a e.env) (λI VY=>∃n F,aI e G y F VY/\kG I n/\D n F) e.cJ m)
def pB(e:aM)(a:Option a7)(H:cU):Prop:=(∀G,BI e a H G)
def TQ:cU:=(λ_ g D=>D X g)
def LD(H:bU):cU:=(λy g D=>H y g λb VT=>∃j,b=.int j/\D (Z j) VT)
section
variable{e:aM}{a:a7}{WX:bU}{VS VW:Option a7}{Xi l:cU}{V3 WU:cw}
def Nq:pB e X TQ:=by
 intro G m y g D B c;rw[HX];exact a5 ⟨X,g,B,.none,c⟩
def KI(c:bj e a WX):pB e (Z a) (LD WX):=by
 intro G m y g D B d;rw[evalPart_some];refine bK (c G m y g _ B d) λI l f=>?_;let⟨b,@VT,h,i,k⟩:=f;let⟨@j,rfl,u⟩:=k;let⟨@H,rfl⟩:=i;exact⟨Z j,VT,h,.int j H,u⟩
def r8(e:aM)(p:af->Option Int->Option Int->aA->cj->Prop):Prop:=(
 ∀(G:List (au×ba)) (m:aw) (y:a3) (g:aA) (b:af) (r b3 i:ah) (VS VW:Option Int) (aS:au) (D:cj),aI e G y g m->b1 b r->m.heap.IsSliceOf aS b3 i .none->kG b3 VS->kG i VW->p b VS VW g D->
  ∃S id,ro (.type S) "__getitem__" = pure (Z<|.builtin id)/\m.TypeIs r S/\wpAny (aT e.prog e.w) e.A (km r<|.ref aS) (eB e G y D) e.cJ m)
def Lb(p:af->Option Int->Option Int->aA->cj->Prop)(WX:bU)(Xi l:cU):bU:=(λy g D=>WX y g λb VT=>Xi y VT λJ V8=>l y V8 λI a=>p b J I a D)
def Pc{p:af->Option Int->Option Int->aA->cj->Prop}(k:r8 e p)(n:bj e a WX)(o:pB e VS Xi)(q:pB e VW l):bj e (.Subscript a (.Slice VS VW X WU) V3) (Lb p WX Xi l):=by
 intro G m y g D B c;refine wA (bK (n G m y g _ B c) λr s h=>?_);let⟨b,@VT,t,v,x⟩:=h;refine wpAny_Slice (bK (o G s y VT _ t x) λb3 z ⟨J,V8,E,bQ,F⟩=>bK (q G z y V8 _ E F) λi f h=>?_);let⟨I,@j,H,L,M⟩:=h;rw[HX];refine a5 ?_;have N:aI e G y j {f with heap:=f.heap.push {cls:=.type "slice",data:=.fields #[b3,i,.none]} }:=H.kept (Wr:=f.toks) λd WA u=>cu _ u;let⟨S,@id,P,Q,R⟩:=k G {f with heap:=f.heap.push {cls:=.type "slice",data:=.fields #[b3,i,.none]} } y j b r b3 i J I f.heap.objs.size D N v (a4.IsSliceOf.new ..) bQ L M;show wpAny (aT e.prog e.w) e.A (w1 a (.Slice VS VW X WU) r<|.ref f.heap.objs.size) (eB e G y D) e.cJ {f with heap:=f.heap.push {cls:=.type "slice",data:=.fields #[b3,i,.none]} };exact tail_any (ops:=[.ref f.heap.objs.size,r]) Q P R (by with_unfolding_all rfl)
def mL(x:List af)(VS VW:Option Int):List af:=((x.drop<|c5.cm x.length 0 VS).take (c5.cm x.length x.length VW-c5.cm x.length 0 VS))
def H3(x:List af)(VS VW:Option Int):(mL x VS VW).length<=x.length:=by
 unfold mL;rw[rB,l6];lia
def Qy(U:Φ):af->Option Int->Option Int->aA->cj->Prop:=(λb VS VW g D=>∃h x,b=.ref h/\cC U g h x/\
 ¬ (c5.cm x.length 0 VS=0/\c5.cm x.length x.length VW=x.length)/\∀q,g q=X->D (.ref q) (upd g q<|.tup<|mL x VS VW))
def RO:r8 e (Qy e.K):=by
 intro G m y g b r b3 i VS VW aS D B j k bQ l c;let⟨h,@x,rfl,o,q,u⟩:=c;cases j;let⟨@VZ,p,f,aR⟩:=B.tuple o;have a:VZ.toArray.size=x.length:=by rw[cK];exact p.length.symm
 refine⟨"tuple",_,o1.lookup,f.typeIs,?_⟩;refine c5.Lk f k bQ l (by rw[a];exact q) ?_ (by rw[a];exact aR);rw[a];refine⟨.ref m.heap.objs.size,_,B.laid (Wr:=m.toks) (n:=.tup (mL x VS VW)) (λd WA u=>cu _ u) (bB _) ?_,rfl,u _<|B.aV.fresh<|bB _⟩;exact⟨dN (H3 x VS VW) aR,_,(p.drop<|c5.cm x.length 0 VS).take<|c5.cm x.length x.length VW-c5.cm x.length 0 VS,mz.new _ _⟩
def T7(U:Φ):b0:=(λb i g D=>∃h d x V5,b=.ref h/\i=.ref d/\cC U g h x/\cC U g d V5/\x≠[]/\x.length+V5.length<=sizeLine/\
 (V5=[]->D (.ref h) g)/\(V5≠[]->∀q,g q=X->D (.ref q) (upd g q<|.tup<|x++V5)))
def bZ.vR{x:List af}(p:bZ x Wc):Wc=[]↔x=[]:=by
 cases p with
 |nil=>simp
 |cons _ _=>simp
def SS:ek e (gk .Add) (T7 e.K):=by
 intro G m y g b i r I D B j l c;let⟨h,d,x,@V5,rfl,rfl,av,ag,o,aR,p,q⟩:=c;cases j;cases l;let⟨@VZ,f,s,Y⟩:=B.tuple av;let⟨@t,a,WU,Y⟩:=B.tuple ag;refine c5.Nc s WU (λk=>o<|f.vR.mp k) (λk=>⟨.ref h,g,B,rfl,p<|a.vR.mp k⟩) (λk=>?_) (by rw[<-f.length,<-a.length];exact aR);refine⟨.ref m.heap.objs.size,_,B.laid (Wr:=m.toks) (n:=.tup (x++V5)) (λd WA u=>cu _ u) (bB _) ?_,rfl,q (λC=>k<|a.vR.mpr C) _<|B.aV.fresh<|bB _⟩;exact⟨by rw[cZ];exact aR,_,f.append a,mz.new _ _⟩
end
def i7(v:Nat)(j:Int):Option Nat:=(if 0<=j then (if j<v then Z j.toNat else X) else if -(v:Int)<=j then Z (j+v).toNat else X)
def dM{V7:Type}(x:List V7)(j:Int):Option V7:=((i7 x.length j).bind λA=>x[A]?)
def FA(c:i7 v j=Z A):zW j v=Z A/\A<v /\ -(v:Int)<=j/\j<v:=by
 unfold i7 at c;by_cases b:0<=j
 ·rw[aH b]at c;by_cases l:j<v
  ·rw[aH l]at c;have a:j.toNat=A:=Option.some.inj c;exact⟨by rw[uZ b l,a],⋯,⋯,l⟩
  ·rw[if_neg l]at c;cases c
 ·rw[if_neg b]at c;by_cases l : -(v:Int)<=j
  ·rw[aH l]at c;have a:(j+v).toNat=A:=Option.some.inj c;exact⟨by rw[z8 ⋯ l,a],⋯,l,⋯⟩
  ·rw[if_neg l]at c;cases c
def G2{x:List V7}{r:V7}(c:dM x j=Z r):∃A,zW j x.length=Z A/\x[A]?=Z r/\A<x.length /\ -(x.length:Int)<=j/\j<x.length:=by
 unfold dM at c;cases a:i7 x.length j with
 |none=>rw[a]at c;cases c
 |some A=>
  rw[a]at c;let@⟨l,t,b,d⟩:=FA a;exact⟨A,l,c,t,b,d⟩
def Uy{x:List V7}{r:V7}(c:x[A]?=Z r):dM x (A:Int)=Z r:=by
 have b:A<x.length:=(fM.mp c).1;have a:i7 x.length (A:Int)=Z A:=by
  unfold i7;rw[aH ⋯,aH ⋯];simp
 unfold dM;rw[a];exact c
def qI(d:a7):Prop:=(∀n j,subscripted d az n j=operate [n,j] (km n j))
def i6(e:aM)(p:b0):Prop:=(
 ∀(M a:a7) (G:List (au×ba)) (m:aw) (y:a3) (g:aA) (b i:af) (r I:ah) (D:cj),aI e G y g m->b1 b r->b1 i I->p b i g D->
  subscripted a az r I=operate [r,I] (km r I)->wpAny (aT e.prog e.w) e.A (w1 M a r I) (eB e G y D) e.cJ m)
def qf(e:aM)(id:String)(p:af->List af->aA->cj->Prop):Prop:=(
 ∀(G:List (au×ba)) (m:aw) (y:a3) (g:aA) (b:af) (x:List af) (r:ah) (Wc:List ah) (D:cj),aI e G y g m->b1 b r->bZ x Wc->p b x g D->
  wpAny (aT e.prog e.w) e.A (call (.builtin id) (r::Wc)) (eB e G y D) e.cJ m)
section
variable{e:aM}{h d:a7}{WC We:bU}{V3:cw}
def i6.or{WK:b0}(c:i6 e p)(ar:i6 e WK):i6 e (λb i g D=>p b i g D\/WK b i g D):=by
 intro M a G m y g b i r I D B d f u h;rcases u with u|u
 ·exact c M a G m y g b i r I D B d f u h
 ·exact ar M a G m y g b i r I D B d f u h
def Jr(a:i6 e p)(av:bj e h WC)(ag:bj e d We)(f:qI d):bj e (.Subscript h d V3) (ti p WC We):=by
 intro G m y g D B c;exact wA (w5 av ag B c λr I j b i V8 k l n u=>a h d G j y V8 b i r I D k l n u<|f _ _)
def PB(U:Φ):b0:=(λb i g D=>∃q x j r,b=.ref q/\i=.int j/\dv U g q x/\dM x j=Z r/\D r g)
def M0(U:Φ):b0:=(λb i g D=>∃q x j r,b=.ref q/\i=.int j/\cC U g q x/\dM x j=Z r/\D r g)
def RB:i6 e (PB e.K):=by
 intro M J G m y g b i r I D B n o c d;let⟨q,x,j,@k,rfl,rfl,s,v,u⟩:=c;cases n;let⟨@H,rfl⟩:=o;let⟨@VZ,p,bQ,aR⟩:=B.list s;let⟨@A,l,t,L,w,z⟩:=G2 v;let⟨@C,f,E⟩:=p.get t;have F:=p.length;have N:=nB;have fin:eB e G y D C m:=⟨k,g,B,E,u⟩;by_cases h:0<=j
 ·have a:j.toNat=A:=by
   rw[uZ h z]at l;exact Option.some.inj l
  exact item_listR bQ.isList h ⋯ (by rw[a];simpa using f) fin d
 ·have a:(j+(VZ.toArray.size:Int)).toNat=A:=by
   rw[z8 ⋯ w]at l;rw[cK,<-F];exact Option.some.inj l
  exact Cm (x:=C) bQ.isList.typeIs Gw.lookup
   (wpAny_getItem_list_neg (Q:=λp VY=>p=C/\eB e G y D p VY) bQ.isList ⋯ (by rw[cK]<;>lia) ⋯ (by rw[a];simpa using f) ⟨rfl,fin⟩) d
def F4:i6 e (M0 e.K):=by
 intro M w G m y g b i r I D B a d c f;let⟨q,x,j,@k,rfl,rfl,h,n,u⟩:=c;cases a;let⟨@H,rfl⟩:=d;let⟨@VZ,p,bQ,aR⟩:=B.tuple h;let⟨@A,l,t,z,E,F⟩:=G2 n;let⟨@C,o,s⟩:=p.get t;have v:=p.length;have J:=nB;have fin:eB e G y D C m:=⟨k,g,B,s,u⟩;exact Cm (x:=C) bQ.typeIs slot_tuple_getitem.lookup
  (getItem_tuple (j:=A) (Q:=λp VY=>p=C/\eB e G y D p VY) bQ ⋯ ⋯ (by rw[cK,<-v];exact l) ⇑o ⟨rfl,fin⟩) f
def Uo(VZ:List ah)(v A:Nat)(I:ah):ba.mapSeq (·.setIfInBounds A I) {cls:=.type "list",data:=.seq VZ.toArray v}={cls:=.type "list",data:=.seq (VZ.set A I).toArray v}:=by
 simp[ba.mapSeq]
variable{x:List af}
def aI.lst(B:aI e G y g m)(c:g q=Z (.lst x)):
  ∃(VZ:List ah) (v:Nat),bZ x VZ/\m.heap.get? q=Z {cls:=.type "list",data:=.seq VZ.toArray v}/\x.length<=sizeLine:=by
 let@⟨k,⟨VZ,@v,p,a⟩⟩:=B.aV q _ c;exact⟨VZ,v,p,a,k⟩
def aI.N1{V5:List af}{f:Nat}{z:ba->ba}(B:aI e G y g m)(c:g q=Z (.lst x))(i:m.heap.get? q=Z {cls:=.type "list",data:=.seq VZ.toArray v})(h:z {cls:=.type "list",data:=.seq VZ.toArray v}={cls:=.type "list",data:=.seq R.toArray f})(p:bZ V5 R)(aR:V5.length<=sizeLine)(H:Nat):
  aI e G y (upd g q<|.lst V5) {m with heap:=m.heap.update q z,toks:=H}:=by
 have a:(m.heap.update q z).get? q=Z {cls:=.type "list",data:=.seq R.toArray f}:=by
  rw[oA z i (by rw[h]<;>rfl),h]
 refine B.write (b:=q) (a:=q) (by rw[c];trivial) (.inl rfl) (λd I ag u=>(iC _ _<|dY ag).trans u) ⟨_,a⟩ ?_;exact⟨aR,R,f,p,a⟩
def Se:af->af->af->aA->(aA->Prop)->Prop:=(λn j r g D=>∃q x s A,n=.ref q/\j=.int s/\g q=Z (.lst x)/\i7 x.length s=Z A/\D (upd g q<|.lst<|x.set A r))
def SF:wz e Se:=by
 intro G m y g n j r F J I D B w z C c;let⟨q,x,s,@A,rfl,rfl,f,E,u⟩:=c;cases w;let⟨@H,rfl⟩:=z;let⟨VZ,@v,p,a,aR⟩:=B.lst f;let@⟨l,t,h,i⟩:=FA E;have b:=p.length;have L:=nB;have k:aI e G y (upd g q<|.lst<|x.set A r) {m with heap:=m.heap.update q (ba.mapSeq (·.setIfInBounds A I))}:=
  B.N1 f a (Uo VZ v A I) (p.set C A) (by rw[zk];exact aR) m.toks;by_cases o:0<=s
 ·have d:s.toNat=A:=by
   rw[uZ o i]at l;exact Option.some.inj l
  exact PySem.W.ki_setAt a o ⋯ (by rw[cK,<-b];exact i) (by rw[d];exact⟨_,k,u⟩)
 ·have d:(s+(VZ.toArray.size:Int)).toNat=A:=by
   rw[z8 ⋯ h]at l;rw[cK,<-b];exact Option.some.inj l
  exact PySem.W.ki_setBack a ⋯ (by rw[cK,<-b];exact h) ⋯ (by rw[d];exact⟨_,k,u⟩)
def M4(VS VW:Option Int)(v:Nat):(nE VS VW X v).1=((c5.cm v 0 VS:Nat):Int)/\(nE VS VW X v).2.1=((c5.cm v v VW:Nat):Int)/\(nE VS VW X v).2.2=1:=by
 refine⟨?_,?_,rfl⟩
 ·cases VS with
  |none=>simp[nE,c5.cm]
  |some j=>
   simp only[nE,c5.cm,CZ,show (1:Int)>0 by decide,gB];by_cases c:j<0
   ·simp only[c,gB]<;>lia
   ·simp only[c,fO]<;>lia
 ·cases VW with
  |none=>simp[nE,c5.cm]
  |some j=>
   simp only[nE,c5.cm,CZ,show (1:Int)>0 by decide,gB];by_cases c:j<0
   ·simp only[c,gB]<;>lia
   ·simp only[c,fO]<;>lia
def Pa(VZ:List ah)(VS VW:Option Int):slicePick VZ.toArray VS VW X=((VZ.drop<|c5.cm VZ.length 0 VS).take<|c5.cm VZ.length VZ.length VW-c5.cm VZ.length 0 VS).toArray:=by
 let@⟨l,t,a⟩:=M4 VS VW VZ.toArray.size;unfold slicePick;rw[l,t,a];simp only[sliceRange_one,pick_run,cK]<;>rfl
def SU(U:Φ):af->Option Int->Option Int->aA->cj->Prop:=(λb VS VW g D=>∃h x,b=.ref h/\dv U g h x/\∀q,g q=X->D (.ref q) (upd g q<|.lst<|mL x VS VW))
def Ea:r8 e (SU e.K):=by
 intro G m y g b r b3 i VS VW aS D B f j bQ k c;let⟨h,@x,rfl,l,u⟩:=c;cases f;let⟨@VZ,p,a,aR⟩:=B.list l;have o:=p.length;refine⟨"list",_,Gw.lookup,a.isList.typeIs,?_⟩;refine wpAny_getItem_list_slice a.isList j bQ k .none ↥0 ?_ (by rw[cK]<;>lia);rw[Pa,<-o];refine⟨.ref m.heap.objs.size,_,B.laid (Wr:=m.toks) (n:=.lst (mL x VS VW)) (λd WA u=>cu _ u) (bB _) ?_,rfl,u _<|B.aV.fresh<|bB _⟩;exact⟨dN (H3 x VS VW) aR,_,0,(p.drop<|c5.cm x.length 0 VS).take<|c5.cm x.length x.length VW-c5.cm x.length 0 VS,dx _ rfl⟩
def MX:ez e (.builtin "len") (λx g D=>∃q V5,x=[.ref q]/\(dv e.K g q V5\/cC e.K g q V5)/\D (.int V5.length) g):=by
 intro G m y g x Wc D B p c;let⟨q,@V5,rfl,a,u⟩:=c;let⟨@I,rfl,d⟩:=h3 p;cases d;have f:=nB;rcases a with a|a
 ·let⟨@VZ,WK,bQ,aR⟩:=B.list a;have b:=WK.length;exact Calls.call_len_list bQ.isList (by simp only[cK]<;>lia) ⟨.int V5.length,g,B.tok _,⟨m.toks+1,by rw[cK,b]⟩,u⟩
 ·let⟨@VZ,WK,bQ,aR⟩:=B.tuple a;have b:=WK.length;exact len_tuple bQ (by simp only[cK]<;>lia) ⟨.int V5.length,g,B.tok _,⟨m.toks+1,by rw[cK,b]⟩,u⟩
def SG:ez e (.builtin "len") (λx g D=>∃k,x=[.str k]/\k.length<=sizeLine/\D (.int k.length) g):=by
 intro G m y g x Wc D B p c;let⟨@k,rfl,aR,u⟩:=c;let⟨@I,rfl,⟨@H,rfl⟩⟩:=h3 p;have a:=nB;exact len_str ⋯ ⟨.int k.length,g,B.tok _,⟨_,rfl⟩,u⟩
def ez.or{z:ah}{p WK:List af->aA->cj->Prop}(c:ez e z p)(ar:ez e z WK):ez e z (λx g D=>p x g D\/WK x g D):=by
 intro G m y g x Wc D B a u;rcases u with u|u
 ·exact c G m y g x Wc D B a u
 ·exact ar G m y g x Wc D B a u
def NV:ez e (.type "tuple") (λx g D=>∃q V5,x=[.ref q]/\((dv e.K g q V5/\∀J,g J=X->D (.ref J) (upd g J<|.tup V5))\/(cC e.K g q V5/\D (.ref q) g))):=by
 intro G m y g x Wc D B p c;let⟨q,@V5,rfl,c⟩:=c;let⟨@I,rfl,h⟩:=h3 p;cases h;rcases c with ⟨b,u⟩|⟨b,u⟩
 ·let⟨@VZ,WK,bQ,aR⟩:=B.list b;have j:=WK.length;refine call_tuple_list bQ.isList (λar dk=>?_) (by simp only[cK]<;>lia);have f:aI e G y g {m with heap:=ar}:=B.kept (Wr:=m.toks) dk;have i:aI e G y (upd g ar.objs.size<|.tup V5) {m with heap:=ar.push {cls:=.type "tuple",data:=.seq VZ.toArray} }:=
   f.laid (Wr:=m.toks) (λd n a=>cu _ a) (bB _) (show ee e.prog e.w _ _ _ (.tup V5) from ⟨aR,VZ,WK,mz.new _ _⟩);exact⟨.ref ar.objs.size,_,i,rfl,u _<|f.aV.fresh<|bB _⟩
 ·let⟨@VZ,WK,bQ,aR⟩:=B.tuple b;exact call_tuple_same bQ ⟨.ref q,g,B,rfl,u⟩
def lU(U:Φ)(S:String)(b:af)(g:aA):Prop:=(match b with
 |.str _=>S = "str"
 |.int _=>S = "int"
 |.ref q=>(S = "list" /\ ∃x,dv U g q x)\/(S = "tuple" /\ ∃n,U.lookup q=Z n/\n.cls=.type "tuple" /\ n.dict=X)\/
   (S = "dict" /\ ((∃VR,g q=Z (.dA VR))\/∃VR,g q=Z (.aB VR)))\/(S = "set" /\ ∃V2 v,g q=Z (.set V2 v))
 |_=>False)
def FP{b:af}{r:ah}(B:aI e G y g m)(p:b1 b r)(ty:lU e.K S b g):
  m.TypeIs r S/\∀h,r=.ref h->∃WA,m.heap.get? h=Z WA/\WA.dict=X:=by
 cases b with
 |str k=>
  let⟨@H,rfl⟩:=p;cases (show S = "str" from ty);exact⟨yZ m k H,λ_ a=>nomatch a⟩
 |int j=>
  let⟨@H,rfl⟩:=p;cases (show S = "int" from ty);exact⟨typeIs_int m j H,λ_ a=>nomatch a⟩
 |ref q=>
  cases p;rcases ty with ⟨rfl,x,i⟩|⟨rfl,n,c,l,hd⟩|⟨rfl,c⟩|⟨rfl,V2,v,c⟩
  ·let⟨@VZ,Y,bQ,Y⟩:=B.list i;refine⟨bQ.isList.typeIs,λh a=>?_⟩;cases a;let⟨n,@v,a,f,hd,Y⟩:=bQ;exact⟨n,a,hd⟩
  ·refine⟨⟨n,B.o2 q n c,l⟩,λh a=>?_⟩;cases a;exact⟨n,B.o2 _ n c,hd⟩
  ·have k:∃n,m.heap.get? q=Z n/\n.ExactDict:=by
    rcases c with ⟨VR,c⟩|⟨VR,c⟩
    ·let@⟨_,_,⟨@_,_,⟨n,_,@_,a,WD,_⟩⟩⟩:=B.aV q _ c;exact⟨n,a,WD⟩
    ·let@⟨_,_,⟨@_,_,⟨n,_,@_,a,WD,_⟩⟩⟩:=B.aV q _ c;exact⟨n,a,WD⟩
   let⟨@n,a,WD⟩:=k;refine⟨⟨n,a,WD.1⟩,λh d=>?_⟩;cases d;exact⟨n,a,WD.2.1⟩
  ·let⟨n,Y,Y,@Y,a,WD,Y⟩:=B.aV q _ c;refine⟨⟨n,a,WD.1⟩,λh d=>?_⟩;cases d;exact⟨n,a,WD.2.1⟩
 |_=>exact False.elim ty
def SN(U:Φ)(S:String)(p:af->List af->aA->cj->Prop)(J:bU):bU:=(λy g D=>J y g λb VT=>lU U S b VT/\p b [] VT D)
def Tr(U:Φ)(S:String)(p:af->List af->aA->cj->Prop)(J:bU)(H:eT):bU:=(λy g D=>J y g λb VT=>lU U S b VT/\H y VT λx V8=>p b x V8 D)
variable{n a:a7}{Q:List a7}{J:bU}{H:eT}{name:aF}{W0 WM:cw}{S id:String}{p:af->List af->aA->cj->Prop}
def Hc(f:vP S)(h:oE S name id)(i:mI (.builtin id)=pure (.type "method_descriptor"))(j:qf e id p)(k:bj e n J)(o:kr n name e.env (bM n e.env)=bM n e.env:=by rfl)(q:(W0.endLine==WM.line)=ab:=by rfl):bj e (.Call (.Attribute n name W0) [] [] WM) (SN e.K S p J):=by
 intro G m y g D B c;refine wpAny_Call_method0_late o q (bK (k G m y g _ B c) λr s u=>?_);let⟨b,@VT,a,d,ty,v⟩:=u;let@⟨l,t⟩:=FP a d ty;exact⟨S,id,f,h,i,l,t,qx rfl<|PySem.evalArgs_none<|j G s y VT b [] r [] D a d .nil v⟩
def E5(j:vP S)(k:oE S name id)(o:mI (.builtin id)=pure (.type "method_descriptor"))(q:qf e id p)(s:bj e n J)(av:hl e (a::Q) H)(u:kr n name e.env (bM n e.env)=bM n e.env:=by rfl)(v:((eF WM<|bA (a::Q) e.env).all (λb=>!b.1)&&(nH WM<|nM [] e.env).all (λb=>b.1.isSome)
   && decide ((a::Q).length+([]:List h5).length+(if ([]:List h5).isEmpty then 0 else 1)<30))=ab:=by rfl)(w:(W0.endLine==WM.line)=ab:=by rfl)(x:bA (a::Q) e.env=(az,bM a e.env)::bA Q e.env:=by rfl)(z:(eF WM<|bA Q e.env).any (·.1)=az:=by rfl):
  bj e (.Call (.Attribute n name W0) (a::Q) [] WM) (Tr e.K S p J H):=by
 intro G m y g D B c;refine CH u v w rfl (bK (s G m y g _ B c) λr A d=>?_);let⟨b,@VT,f,h,ty,C⟩:=d;let@⟨l,t⟩:=FP f h ty;refine⟨S,id,j,k,o,l,t,?_⟩;have i:=av WM G A y VT _ f C;rw[x]at i ⊢;refine qx (by show (az || (eF WM<|bA Q e.env).any (·.1))=az;rw[z]<;>rfl) (sG ?_);refine bK i λWc E d=>?_;let⟨P,@V8,F,I,L⟩:=d;exact q G E y V8 b P r Wc D F h I L
end
def uT(e:aM)(id:String)(p:af->List af->aA->cj->Prop):Prop:=(
 ∀(G:List (au×ba)) (m:aw) (y:a3) (g:aA) (b:af) (x:List af) (r:ah) (Wc:List ah) (D:cj),aI e G y g m->b1 b r->bZ x Wc->p b x g D->
  wpAny (aT e.prog e.w) e.A (call (.builtin id) (r::Wc)) (eB e G y D) e.cJ m)
theorem bZ.one:∀{b:af}{Wc:List ah},bZ [b] Wc->∃I,Wc=[I]/\b1 b I
 |_,_,.cons p .nil=>⟨_,rfl,p⟩
theorem bZ.zero:∀{Wc:List ah},bZ [] Wc->Wc=[]
 |_,.nil=>rfl
def bZ.dropLast{x:List af}(c:bZ x Wc):bZ x.dropLast Wc.dropLast:=by
 induction c with
 |nil=>exact .nil
 |cons p H a=>
  cases H with
  |nil=>exact .nil
  |cons u Wr=>exact .cons p a
theorem bZ.eraseIdx:∀{x:List af}{Wc:List ah} (j:Nat),bZ x Wc->bZ (x.eraseIdx j) (Wc.eraseIdx j)
 |_,_,_,.nil=>.nil
 |_,_,0,.cons _ H=>H
 |_,_,j+1,.cons p H=>.cons p (bZ.eraseIdx j H)
def Qt(J:List V7):J.eraseIdx (J.length-1)=J.dropLast:=by
 induction J with
 |nil=>rfl
 |cons h p b=>
  cases p with
  |nil=>rfl
  |cons d p=>
   have a:(h::d::p).length-1=((d::p).length-1)+1:=by
    have l:(h::d::p).length=p.length+2:=rfl;have t:(d::p).length=p.length+1:=rfl;lia
   rw[a,Jv,b];all_goals rfl
theorem HK{V7:Type}:∀(J:List V7) (j:Nat),(J.eraseIdx j).length<=J.length
 |[],_=>bB _
 |_::_,0=>Fn _
 |_::p,j+1=>H2 (HK p j)
section
variable{e:aM}{G:List (au×ba)}{y:a3}{g:aA}{m:aw}{J d:au}{x V5 W5:List af}
def aI.r9{z:Array ah->Array ah}(B:aI e G y g m)(c:g J=Z (.lst x))(a:m.heap.get? J=Z {cls:=.type "list",data:=.seq VZ.toArray v})(d:z VZ.toArray=R.toArray)(f:bZ V5 R)(aR:V5.length<=sizeLine):
  aI e G y (upd g J<|.lst V5) {m with heap:=m.heap.update J (ba.mapSeq z),toks:=Wr}:=by
 have u:=HA a z;rw[d]at u;refine B.write (b:=J) (a:=J) (by rw[c];exact trivial) (.inl rfl) (λi I ag h=>(iC m.heap (ba.mapSeq z)<|dY ag).trans h) ⟨_,u⟩ ?_;exact⟨aR,R,_,f,u⟩
def aI.Pk(B:aI e G y g m)(a:bZ V5 VZ)(aR:V5.length<=sizeLine):
  aI e G y (upd g m.heap.objs.size<|.lst V5) {m with heap:=m.heap.push {cls:=.type "list",data:=.seq VZ.toArray},toks:=Wr}:=
 B.laid (λ_ Y u=>cu _ u) (bB _) ⟨aR,VZ,0,a,dx _ rfl⟩
def aI.fresh(B:aI e G y g m):g m.heap.objs.size=X:=B.aV.fresh (bB _)
def aI.g4(B:aI e G y g m)(b:g J=Z (.lst x)):x.length<=sizeLine/\∃(VZ:List ah) (v:Nat),bZ x VZ/\x.length=VZ.length/\m.heap.get? J=Z {cls:=.type "list",data:=.seq VZ.toArray v}:=by
 let@⟨k,⟨VZ,@v,p,a⟩⟩:=B.aV J _ b;exact⟨k,VZ,v,p,p.length,a⟩
def NC(c:v<=sizeLine):bo.List.listTooLong v=az:=by
 unfold bo.List.listTooLong;exact decide_eq_false ⋯
end
section
variable{e:aM}
def PO:af->List af->aA->cj->Prop:=(λb P g D=>∃J x i,b=.ref J/\P=[i]/\g J=Z (.lst x)/\x.length<sizeLine/\D .aP (upd g J<|.lst<|x++[i]))
def Lu:uT e "list.append" PO:=by
 intro G m y g b P r Wc D B f h c;let⟨J,x,@i,rfl,rfl,d,aR,u⟩:=c;cases f;let⟨@I,rfl,j⟩:=h.one;let@⟨k,⟨VZ,@v,p,l,a⟩⟩:=B.g4 d;refine m_ Hv ⟨_,a,rfl⟩ BF (BQ _ _) (Jf J VZ.toArray v I (by rw[cK];lia)) ⟨a,?_⟩;refine⟨.aP,_,B.r9 (R:=VZ++[I]) d a ↥0 (p.append<|.cons j .nil) ?_,rfl,u⟩;rw[cZ,fP];lia
def Um:af->List af->aA->cj->Prop:=(λb P g D=>∃J d x W5,b=.ref J/\P=[.ref d]/\g J=Z (.lst x)/\g d=Z (.lst W5)/\x.length+W5.length<=sizeLine/\D .aP (upd g J<|.lst<|x++W5))
def MB:uT e "list.extend" Um:=by
 intro G m y g b P r Wc D B i j c;let⟨J,d,x,@W5,rfl,rfl,h,l,aR,u⟩:=c;cases i;let⟨@I,rfl,n⟩:=j.one;cases n;let@⟨k,⟨VZ,@v,p,z,a⟩⟩:=B.g4 h;let@⟨A,⟨f,@o,q,C,s⟩⟩:=B.g4 l;have t:VZ.toArray.size+f.toArray.size<=sizeLine:=by rw[cK,cK];lia
 have w:¬ (!VZ.toArray.isEmpty&&bo.List.listTooLong (VZ.toArray.size+f.toArray.size))=ab:=by
  rw[NC t,EA];exact dw
 refine m_ F.slot_list_extend ⟨_,a,rfl⟩ F.entry_list_extend (F.args_list_extend_2 _ _)
  (AutoSeq1.list_extend_list_list_0 J VZ.toArray v d f.toArray o w (by rw[cK];lia) ⋯) ⟨a,s,?_⟩;refine⟨.aP,_,B.r9 (R:=VZ++f) h a ↥0 (p.append q) ?_,rfl,u⟩;rw[cZ];lia
def RN:af->List af->aA->cj->Prop:=(λb P g D=>∃J x i,b=.ref J/\P=[]/\g J=Z (.lst x)/\x[x.length-1]?=Z i/\D i (upd g J<|.lst x.dropLast))
def Q0:uT e "list.pop" RN:=by
 intro G m y g b P r Wc D B f h c;let⟨J,x,@i,rfl,rfl,d,j,u⟩:=c;cases f;have l:=h.zero;subst l;let@⟨k,⟨VZ,@v,p,n,a⟩⟩:=B.g4 d;let⟨@I,o,q⟩:=p.get j;have s:VZ.toArray[VZ.toArray.size-1]?=Z I:=by
  show VZ.toArray[VZ.length-1]?=Z I;rw[<-hX,<-n];exact o
 refine m_ IL ⟨_,a,rfl⟩ CO (F.args_list_pop_1 _) (MeetsSeq.list_pop_last J VZ.toArray v I s (by rw[cK];lia)) ⟨a,?_⟩;refine⟨i,_,B.r9 (R:=VZ.dropLast) d a ?_ p.dropLast ?_,q,u⟩
 ·show VZ.toArray.eraseIdxIfInBounds (VZ.toArray.size-1)=VZ.dropLast.toArray;rw[cK,E0,Qt]
 ·rw[xq];lia
def MT:af->List af->aA->cj->Prop:=(λb P g D=>∃J x j s i,b=.ref J/\P=[.int j]/\g J=Z (.lst x) /\ -(2^63)<=j/\j<2^63/\zW j x.length=Z s/\x[s]?=Z i/\D i (upd g J<|.lst<|x.eraseIdx s))
def Ry:uT e "list.pop" MT:=by
 intro G m y g b P r Wc D B f h c;let⟨J,x,j,s,@i,rfl,rfl,d,l,t,n,o,u⟩:=c;cases f;let⟨@I,rfl,q⟩:=h.one;let⟨@H,rfl⟩:=q;let@⟨k,⟨VZ,@v,p,w,a⟩⟩:=B.g4 d;let⟨@C,z,A⟩:=p.get o;refine m_ IL ⟨_,a,rfl⟩ CO (F.args_list_pop_2 _ _)
  (MeetsSeq.list_pop_at J VZ.toArray v j H s C (fitsIndex_both l t) (by rw[cK,<-w];exact n) (by rw[<-hX];exact z) (by rw[cK];lia)) ⟨a,?_⟩;refine⟨i,_,B.r9 (R:=VZ.eraseIdx s) d a ?_ (p.eraseIdx s) ?_,A,u⟩
 ·show VZ.toArray.eraseIdxIfInBounds s=(VZ.eraseIdx s).toArray;rw[E0]
 ·have:=HK x s;lia
def Me:b0:=(λb i g D=>∃J d x W5,b=.ref J/\i=.ref d/\g J=Z (.lst x)/\g d=Z (.lst W5)/\x.length+W5.length<=sizeLine/\∀q,g q=X->D (.ref q) (upd g q<|.lst<|x++W5))
def Sf:ek e (gk .Add) Me:=by
 intro G m y g b i r I D B h j c;let⟨J,d,x,@W5,rfl,rfl,l,n,aR,u⟩:=c;cases h;cases j;let@⟨k,⟨VZ,@v,p,t,a⟩⟩:=B.g4 l;let@⟨w,⟨f,@z,o,A,q⟩⟩:=B.g4 n;refine PySem.P.add_list a q ?_ (by rw[cK,cK];lia);have s:VZ.toArray++f.toArray=(VZ++f).toArray:=by simp
 rw[s];exact⟨.ref _,_,B.Pk (Wr:=m.toks) (p.append o) (by rw[cZ];lia),rfl,u _ B.fresh⟩
end
section
variable{Wh:Type}[DecidableEq Wh]
def g9(VR:List (Wh×af))(s:Wh):Option af:=((VR.find? λa=>decide (a.1=s)).map (·.2))
def fR(VR:List (Wh×af))(s:Wh)(r:af):List (Wh×af):=(
 if (VR.any λa=>decide (a.1=s))=ab then VR.map (λa=>if a.1=s then (a.1,r) else a) else VR++[(s,r)])
def q_{q:Wh×af}{p:List (Wh×af)}{s:Wh}(a:q.1=s):g9 (q::p) s=Z q.2:=by simp[g9,gH,a]
def ql{q:Wh×af}{p:List (Wh×af)}{s:Wh}(a:¬ q.1=s):g9 (q::p) s=g9 p s:=by simp[g9,gH,a]
theorem H0(s:Wh):∀VR:List (Wh×af),(VR.any λb=>decide (b.1=s))=(g9 VR s).isSome
 |[]=>rfl
 |q::p=>by
  rw[jq];by_cases a:q.1=s
  ·simp only[q_ a,bW a,Bool.true_or,Option.isSome_some]
  ·rw[ql a,decide_eq_false a,yl];exact H0 s p
def FF(VR:List (Wh×af))(s:Wh)(r:af):(fR VR s r).length<=VR.length+1:=by
 unfold fR;split
 ·rw[br];lia
 ·rw[cZ,cn,fy];lia
def jB.rP(p:jB n I):n.isSome=I.isSome:=by
 cases n with
 |none=>cases I with
  |none=>rfl
  |some _=>exact (show False from p).elim
 |some _=>cases I with
  |none=>exact (show False from p).elim
  |some _=>rfl
def jB.getD{o:af}{a:ah}(p:jB n I)(b:b1 o a):b1 (n.getD o) (I.getD a):=by
 cases n with
 |none=>cases I with
  |none=>exact b
  |some _=>exact (show False from p).elim
 |some _=>cases I with
  |none=>exact (show False from p).elim
  |some _=>exact p
def fT.val{VR:List (Wh×af)}{P:List (Wh×ah)}(p:fT VR P)(s:Wh):jB (g9 VR s) (ni P s):=by
 unfold fT at p;induction p with
 |nil=>exact True.intro
 |@cons q u VV el c H e=>
  let@⟨l,t⟩:=c;by_cases a:q.1=s
  ·have b:u.1=s:=l.symm.trans a;have d:ni (u::el) s=Z u.2:=by simp[ni,gH,b]
   rw[q_ a,d];exact t
  ·have b:¬ u.1=s:=λk=>a (l.trans k);have d:ni (u::el) s=ni el s:=by simp[ni,gH,b]
   rw[ql a,d];exact e
def fT.any{VR:List (Wh×af)}{P:List (Wh×ah)}(p:fT VR P)(s:Wh):(VR.any λa=>decide (a.1=s))=P.any λa=>decide (a.1=s):=by
 unfold fT at p;induction p with
 |nil=>rfl
 |cons c H b=>rw[jq,jq,b,c.1]
def fT.wC{VR:List (Wh×af)}{P:List (Wh×ah)}(p:fT VR P)(s:Wh){i:af}{I:ah}(d:b1 i I):
  fT (VR.map λb=>if b.1=s then (b.1,i) else b) (P.map λb=>if b.1=s then (b.1,I) else b):=by
 unfold fT at p ⊢;induction p with
 |nil=>exact .nil
 |@cons q u VV el c H e=>
  rw[bH,bH];refine .cons ?_ e;let@⟨l,t⟩:=c;by_cases a:q.1=s
  ·rw[aH a,aH<|l.symm.trans a];exact⟨l,d⟩
  ·rw[if_neg a,if_neg<|λk=>a<|l.trans k];exact⟨l,t⟩
def fT.put{VR:List (Wh×af)}{P:List (Wh×ah)}(p:fT VR P)(s:Wh){i:af}{I:ah}(b:b1 i I):fT (fR VR s i) (stored P s I):=by
 unfold fR stored;rw[p.any s];by_cases a:(P.any λc=>decide (c.1=s))=ab
 ·rw[aH a,aH a];exact p.wC s b
 ·rw[if_neg a,if_neg a];exact dV.snoc p ⟨rfl,b⟩
def fT.length{VR:List (Wh×af)}{P:List (Wh×ah)}(p:fT VR P):VR.length=P.length:=dV.length p
end
def o_{s:eG}{I:ah}(p:b1 (cy s) I):(kM V0 C).is s I=ab:=by
 cases s with
 |inl j=>let⟨@H,a⟩:=(show ∃H,I=ah.int j H from p);subst a;exact Tu V0 C j H
 |inr b=>let⟨@H,a⟩:=(show ∃H,I=ah.str b H from p);subst a;exact Pz V0 C b H
abbrev fN(g:aA):List (List aa×af)->List (List aa×au×ah)->Prop:=dV λq u=>q.1=u.1/\hs g q.1 u.2.1/\b1 q.2 u.2.2
def fN.val(p:fN g VR x)(s:List aa):jB (g9 VR s) ((lL x s).map (·.2)):=by
 induction p with
 |nil=>exact True.intro
 |@cons q u VV el c H e=>
  let@⟨l,_,t⟩:=c;by_cases a:q.1=s
  ·have b:u.1=s:=l.symm.trans a;have d:lL (u::el) s=Z u.2:=by simp[lL,gH,b]
   rw[q_ a,d];exact t
  ·have b:¬ u.1=s:=λk=>a (l.trans k);have d:lL (u::el) s=lL el s:=by simp[lL,gH,b]
   rw[ql a,d];exact e
def fN.wC(p:fN g VR x)(s:List aa){i:af}{I:ah}(d:b1 i I):
  fN g (VR.map λb=>if b.1=s then (b.1,i) else b) (x.map<|putAt s I):=by
 induction p with
 |nil=>exact .nil
 |@cons q u VV el c H e=>
  rw[bH,bH];refine .cons ?_ e;let@⟨l,t,f⟩:=c;unfold putAt;by_cases a:q.1=s
  ·rw[aH a,aH<|l.symm.trans a];exact⟨l,t,d⟩
  ·rw[if_neg a,if_neg<|λk=>a<|l.trans k];exact⟨l,t,f⟩
def fN.put(p:fN g VR x)(s:List aa){d:au}{i:af}{I:ah}(ag:hs g s d)(b:b1 i I):
  fN g (fR VR s i) (storedH x s d I):=by
 have a:(VR.any λc=>decide (c.1=s))=(lL x s).isSome:=by
  rw[H0,(p.val s).rP,u_]
 unfold fR storedH;rw[a];by_cases u:(lL x s).isSome=ab
 ·rw[aH u,aH u];exact p.wC s b
 ·rw[if_neg u,if_neg u];exact dV.snoc p ⟨rfl,ag,b⟩
def fN.keeps(p:fN g VR x)(a:∀d V5,g d=Z (.tup V5)->F d=Z (.tup V5)):fN F VR x:=
 dV.tV p λ_ Y k=>⟨k.1,k.2.1.mono a,k.2.2⟩
section
variable{V0:bu}{C:bf}{g:aA}{c:a4}{h:au}
def C3{I:fz}(ok:eh V0 C g c)(a:gS g h I):ee V0 C g c h I:=a.ok ok
def lH{VR:List (eG×af)}(ok:eh V0 C g c)(a:gS g h (.dA VR)):VR.length<=sizeLine/\(h==iG)=az/\∃P,fT VR P/\c.DictOf (kM V0 C) h P:=
 show ee V0 C g c h (.dA VR) from C3 ok a
def OM{VR:List (eG×af)}(ok:eh V0 C g c)(a:g h=Z (.dA VR)):VR.length<=sizeLine/\(h==iG)=az/\∃P,fT VR P/\c.DictOf (kM V0 C) h P:=lH ok (.inl a)
mutual
theorem cp.eA(ok:eh V0 C g c):∀{o:aa}{r:af}{I:ah},cp g o r->b1 r I->dz c o I
 |.aP,_,_,a,p=>by cases (show _=af.aP from a);exact p
 |.aJ d,_,_,a,p=>by cases (show _=af.aJ d from a);exact p
 |.int j,_,_,a,p=>by cases (show _=af.int j from a);exact p
 |.str b,_,_,a,p=>by cases (show _=af.str b from a);exact p
 |.fn h,_,_,a,p=>by cases (show _=af.ref h from a);exact p
 |.tup E,_,_,a,p=>by
  let⟨h,@x,rfl,l,t⟩:=a;cases p;let@⟨_,⟨@VZ,e,⟨@n,f,i,⟨@v,k⟩⟩⟩⟩:=(show ee V0 C g c h (.tup x) from ok h _ l);exact⟨h,n,VZ.toArray,v,rfl,f,(Prod.mk.inj i).1,k,by simpa using bC.eA ok t e⟩
 |.aX E,_,_,a,p=>by
  let⟨h,x,@n,rfl,l,t⟩:=a;cases p;exact⟨h,rfl⟩
 |.fd M,_,_,a,p=>by
  let⟨h,n,@WB,rfl,l,t⟩:=a;cases p;exact⟨h,rfl⟩
theorem bC.eA(ok:eh V0 C g c):∀{E:List aa}{P:List af}{Wc:List ah},bC g E P->bZ P Wc->dU c E Wc
 |[],_,_,a,p=>by cases (show _=[] from a);cases p;rfl
 |o::E,_,_,a,p=>by
  let⟨r,@H,rfl,l,t⟩:=a;cases p with
  |cons b d=>exact⟨_,_,rfl,cp.eA ok l b,bC.eA ok t d⟩
end
def kx{T:List aa}(ok:eh V0 C g c)(a:hs g T h):(hv V0 C).is c T h:=⟨a.1,a.2.eA ok rfl⟩
def oy{V0:bu}{C:bf}(c:O.units+20<bN):(hv V0 C).room O.in1:=show O.units+1+10<bN by lia
def lZ(ok:eh V0 C g c)(a:gS g h (.aB VR)):VR.length<=sizeLine/\(h==iG)=az/\
  ∃x,fN g VR x/\c.DictOfH (hv V0 C) h x:=by
 let@⟨k,i,⟨@x,p,⟨n,Q,@WI,l,t,f,j,m⟩⟩⟩:=(show ee V0 C g c h (.aB VR) from C3 ok a);refine⟨k,i,x,p,n,Q,WI,l,t,f,j,λb d=>?_,m⟩;have all:∀{J:List (List aa×af)}{M:List (List aa×au×ah)},fN g J M->∀b∈M,(hv V0 C).is c b.1 b.2.1:=by
  intro J M u;induction u with
  |nil=>intro b d;exact nomatch d
  |@cons q u VV el e H o=>
   intro b d;rcases bR.mp d with a|d
   ·subst a;exact kx ok (by rw[<-e.1];exact e.2.1)
   ·exact o b d
 exact all p b d
def Be(ok:eh V0 C g c)(a:g h=Z (.aB VR)):VR.length<=sizeLine/\(h==iG)=az/\
  ∃x,fN g VR x/\c.DictOfH (hv V0 C) h x:=lZ ok (.inl a)
end
def eM(g:aA)(h:au)(i:af)(p:Option af):Prop:=(
 (∃VR s,gS g h (.dA VR)/\i=cy s/\p=g9 VR s)\/∃VR s d,gS g h (.aB VR)/\i=.ref d/\hs g s d/\p=g9 VR s)
def k_(g:aA)(h:au)(i r:af)(F:aA):Prop:=(
 (∃VR s,g h=Z (.dA VR)/\i=cy s/\VR.length<sizeLine/\F=upd g h (.dA<|fR VR s r))\/
 ∃VR s d,g h=Z (.aB VR)/\i=.ref d/\hs g s d/\VR.length<sizeLine/\F=upd g h (.aB<|fR VR s r))
def eM.k{g:aA}{h:au}{VR:List (eG×af)}{s:eG}(a:g h=Z (.dA VR)):eM g h (cy s) (g9 VR s):=.inl ⟨VR,s,.inl a,rfl,rfl⟩
def eM.t{g:aA}{h d:au}{VR:List (List aa×af)}{s:List aa}(a:g h=Z (.aB VR))(b:hs g s d):eM g h (.ref d) (g9 VR s):=.inr ⟨VR,s,d,.inl a,rfl,b,rfl⟩
def k_.k{g:aA}{h:au}{VR:List (eG×af)}{s:eG}{r:af}(a:g h=Z (.dA VR))(b:VR.length<sizeLine):k_ g h (cy s) r (upd g h<|.dA<|fR VR s r):=.inl ⟨VR,s,a,rfl,b,rfl⟩
def k_.t{g:aA}{h d:au}{VR:List (List aa×af)}{s:List aa}{r:af}(a:g h=Z (.aB VR))(b:hs g s d)(c:VR.length<sizeLine):
  k_ g h (.ref d) r (upd g h<|.aB<|fR VR s r):=.inr ⟨VR,s,d,a,rfl,b,c,rfl⟩
section
variable{e:aM}{G:List (au×ba)}{y:a3}{g:aA}{m:aw}{h:au}{i r:af}{I p:ah}{n:Option af}{O:bz}{VP:ah->aw->Prop}
def aI.big(B:aI e G y g m):iG<m.heap.objs.size:=by
 have c:ec<m.heap.objs.size:=(B.mod.glob.keeps B.e8).lt;exact Ez ∅ c
def yT(u:O.units+20<bN)(B:aI e G y g m)(N:eM g h i (Z r))(t:b1 i I)(c:∀b VY,aI e G y g VY->b1 r b->D b VY):
  wpAny (aT e.prog e.w) O (km (.ref h) I) D VP m:=by
 rcases N with ⟨VR,s,a,f,J⟩|⟨VR,s,d,a,f,v,J⟩
 ·subst f;let@⟨k,hd,⟨@P,j,l⟩⟩:=lH B.aV a;let⟨@b,o,p⟩:=jB.some_of (r:=r) (n:=ni P s) (by rw[J];exact j.val s);exact wpAny_getItem_of (o_ t) l.mapOf o (c b _ (B.tok _) p)
 ·subst f;cases (show I=ah.ref d from t);let@⟨k,hd,⟨@x,j,l⟩⟩:=lZ B.aV a;let⟨@b,o,p⟩:=jB.some_of (r:=r) (n:=(lL x s).map (·.2)) (by rw[J];exact j.val s);let⟨@q,z,A⟩:=ck.mp o;refine wpAny_getItem_heap (oy u) (kx B.aV v) l z ?_;rw[A];exact c b _ (B.tok _) p
def xU(o:O.units+20<bN)(B:aI e G y g m)(N:eM g h i n)(l:b1 i I)(c:∀VY,aI e G y g VY->D (.bool n.isSome) VY):
  wpAny (aT e.prog e.w) O (eL .In I<|.ref h) D VP m:=by
 rcases N with ⟨VR,s,a,b,J⟩|⟨VR,s,d,a,b,p,J⟩
 ·subst b;let@⟨k,hd,⟨@P,f,j⟩⟩:=lH B.aV a;refine wpAny_in_of (o_ l) hd j.mapOf ?_;rw[<-(f.val s).rP,<-J];exact c _ (B.tok _)
 ·subst b;cases (show I=ah.ref d from l);let@⟨k,hd,⟨@x,f,j⟩⟩:=lZ B.aV a;refine wpAny_in_heap (oy o) (kx B.aV p) hd j ?_;have u:=(f.val s).rP;rw[u_]at u;rw[<-u,<-J];exact c _ (B.tok _)
def xG(o:O.units+20<bN)(B:aI e G y g m)(N:eM g h i n)(l:b1 i I)(c:∀VY,aI e G y g VY->D (.bool<|!n.isSome) VY):
  wpAny (aT e.prog e.w) O (eL .NotIn I<|.ref h) D VP m:=by
 rcases N with ⟨VR,s,a,b,J⟩|⟨VR,s,d,a,b,p,J⟩
 ·subst b;let@⟨k,hd,⟨@P,f,j⟩⟩:=lH B.aV a;refine wpAny_notIn_of (o_ l) hd j.mapOf ?_;rw[<-(f.val s).rP,<-J];exact c _ (B.tok _)
 ·subst b;cases (show I=ah.ref d from l);let@⟨k,hd,⟨@x,f,j⟩⟩:=lZ B.aV a;refine wpAny_notIn_heap (oy o) (kx B.aV p) hd j ?_;have u:=(f.val s).rP;rw[u_]at u;rw[<-u,<-J];exact c _ (B.tok _)
def yJ{ar:a4}{WA:fz}(B:aI e G y g m)(c:qo (g h))(f:a4.SameBut h m.heap ar)(i:∃u,ar.get? h=Z u)(new:ee e.prog e.w (upd g h WA) ar h WA):
  aI e G y (upd g h WA) {m with heap:=ar,toks:=Wr}:=
 B.write (b:=h) (a:=h) c (.inl rfl) (λd u ag k=>(f.2 d ag).trans k) i new
def Kl{ar:a4}{VR:List (eG×af)}{P:List (eG×ah)}(k:VR.length<=sizeLine)(hd:(h==iG)=az)(a:fT VR P)(b:ar.DictOf (kM V0 C) h P):
  ee V0 C F ar h (.dA VR):=⟨k,hd,P,a,b⟩
def td{D:Unit->aw->Prop}(M:O.units+20<bN)(B:aI e G y g m)(N:k_ g h i r F)(A:b1 i I)(E:b1 r p)(c:∀VY,aI e G y F VY->D () VY):
  wpAny (aT e.prog e.w) O (ph (.ref h) I p) D VP m:=by
 rcases N with ⟨VR,s,a,n,J,o⟩|⟨VR,s,d,a,n,H,J,o⟩
 ·subst n o;let@⟨k,hd,⟨@P,b,q⟩⟩:=OM B.aV a;have aR:P.length<=sizeLine:=by rw[<-b.length];exact k
  have v:(fR VR s r).length<=sizeLine:=by have:=FF VR s r;lia
  refine wpAny_setItem_pairs (hsz:=aR) (o_ A) q λar j z=>c _ ?_;have S:∃u,ar.get? h=Z u:=let ⟨u,_,_,l,_⟩:=j;⟨u,l⟩
  exact yJ B (by rw[a];exact True.intro) z S (Kl v hd (b.put s E) j)
 ·subst n o;cases (show I=ah.ref d from A);let@⟨k,hd,⟨@x,b,q⟩⟩:=Be B.aV a;have aR:x.length<=sizeLine:=by rw[<-dV.length b];exact k
  have v:(fR VR s r).length<=sizeLine:=by have:=FF VR s r;lia
  refine wpAny_setItem_heap (hsz:=aR) (oy M) (kx B.aV H) q λar j z=>c _ ?_;let⟨u,Q,@WI,l,t,T,U,Y,al⟩:=j;refine yJ B (by rw[a];exact True.intro) z ⟨u,l⟩ ⟨v,hd,_,(b.put s H E).keeps λf V5 L=>?_,u,Q,WI,l,t,T,U,al⟩;rw[cP (Ge L a<|λk=>nomatch k)];exact L
end
section
variable{e:aM}{G:List (au×ba)}{y:a3}{g:aA}{m:aw}{h:au}{VR:List (eG×af)}{s:eG}{I:ah}{O:bz}{VP:ah->aw->Prop}
def Ko(B:aI e G y g m)(a:gS g h (.dA VR))(c:∀H VY,aI e G y g VY->D (.int VR.length H) VY):wpAny (aT e.prog e.w) O (call (.builtin "len") [.ref h]) D VP m:=by
 let@⟨k,hd,⟨@P,b,d⟩⟩:=lH B.aV a;refine call_len_dict hd d (by rw[<-b.length];rw[uR]at k;lia) ?_;rw[<-b.length];exact c _ _ (B.tok _)
end
def qQ(j:a7):Prop:=(∀a b,subscripted j az a b=operate [a,b] (km a b))
def TK{VX:bu}{VP:ah->aw->Prop}{VM:eN}{M a:a7}{V3:cw}{id:String}(i:ro (.type S) "__getitem__" = pure (Z<|.builtin id))(k:qQ a)(c:wpAny (aT VX C) O (bM M VM) (λn f=>wpAny (aT VX C) O (bM a VM) (λj d=>d.TypeIs n S/\wpAny (aT VX C) O (km n j) D VP d) VP f) VP m):
  wpAny (aT VX C) O (bM (.Subscript M a V3) VM) D VP m:=by
 refine wA (hg c (λn f l=>hg l (λj d e=>?_) λ_ Y b=>b) λ_ Y b=>b);let@⟨g,e⟩:=e;unfold w1;refine aC ?_;rw[getitemInPython_of_ne g.not_modules];refine aC (nJ g i ?_);have fin:wpAny (aT VX C) O (subscripted a az n j) (λp h=>wpAny (aT VX C) O (letTemporaryGo M n p >>= λ_=>pure p) D VP h) VP d:=by
  rw[k n j];exact wpAny_operating (hg e (λp h o=>aC<|wpAny_letTemporaryGo<|a5 o) λ_ Y b=>b)
 first
  | exact a5 (aC fin)
  | exact aC (a5<|aC fin)
  | exact aC fin
def JY{i:af}(B:aI e G y g m)(N:eM g h i n):m.TypeIs (.ref h) "dict" := by
 rcases N with ⟨VR,s,a,_,_⟩|⟨VR,s,d,a,_,_,_⟩
 ·let@⟨_,_,⟨@P,_,b⟩⟩:=lH B.aV a;exact b.typeIs
 ·let@⟨_,_,⟨@x,_,b⟩⟩:=lZ B.aV a;exact b.typeIs
def OV(l ty:bU):bU:=(λy g D=>l y g λb VT=>ty y VT λi V8=>∃h r,b=.ref h/\eM V8 h i (Z r)/\D r V8)
def Ub(l ty E:bU)(c:af->af->aA->cj->Prop):eR:=(λw y g=>l y g λb VT=>ty y VT λi V8=>∃h r,b=.ref h/\eM V8 h i (Z r)/\
 E y V8 λd e=>c r d e λk f=>∃a,k_ f h i k a/\w.a8 y a)
section
variable{e:aM}{n j a M:a7}{V3 W9 J:cw}{l ty E:bU}
def yD(d:e.A.units+20<bN)(f:bj e n l)(VW:bj e j ty)(k:qQ j):bj e (.Subscript n j V3) (OV l ty):=by
 intro G m y g D B c;refine TK DU.lookup k (bK (f G m y g _ B c) λI o ⟨b,VT,p,q,s⟩=>bK (VW G o y VT _ p s) λz C t=>?_);let⟨i,@V8,a,u,⟨h,@r,WD,N,v⟩⟩:=t;subst WD;obtain rfl:I=ah.ref h:=q;exact⟨JY a N,yT d a N u λE F w x=>⟨r,V8,w,x,v⟩⟩
def Mj{Wx:l2}{o:af->af->aA->cj->Prop}(p:e.A.units+20<bN)(s:bj e n l)(VW:bj e j ty)(t:bj e M E)(u:Nl e Wx o)(av:∀d a new,augStore j d a new=(do holding [new,d,a] (ph d a new);release [new,d,a] [];pure .next)):hh e (.AugAssign (.Subscript n j J) Wx M V3) (Ub l ty E o):=by
 intro G m y g w B c;refine wpAny_AugAssign_SubscriptAny (bK (s G m y g _ B c) λI v ⟨b,VT,x,z,C⟩=>bK (VW G v y VT _ x C) λa bi ⟨i,V8,D,q,h,r,WD,N,F⟩=>?_) av;subst WD;obtain rfl:I=ah.ref h:=z;refine yT p D N q λH L P Q=>bK (t G L y V8 _ P F) λR S f=>?_;let⟨T,@U,al,am,an⟩:=f;refine bK (u G S y U r T H R _ al Q am an) λbm bn f=>?_;let⟨k,@bs,ap,as,⟨@a1,a2,bd⟩⟩:=f;exact td p ap a2 q as λbv be=>⟨y,a1,be,bd⟩
end
def BY(c:a4)(ag:iG<c.objs.size):ee V0 C g (c.push {cls:=.type "dict",data:=.dict #[]}) c.objs.size (.aB []):=
 ⟨fW _,xX.mpr<|dY<|dE ag,[],.nil,_,#[],0,dx _ rfl,⟨rfl,rfl,rfl⟩,rfl,rfl,ht⟩
def PR:bU:=(λ_ g D=>∀q,g q=X->D (.ref q) (upd g q<|.aB []))
section
variable{e:aM}{V3:cw}
def Vj:bj e (.Dict [] [] V3) PR:=λG m y g D B c=>
 wpAny_Dict_empty ⟨.ref m.heap.objs.size,_,B.laid (h:=m.heap.objs.size) (n:=.aB []) (Wr:=m.toks) (λ_ Y u=>cu _ u) (bB _)<|BY m.heap B.big,rfl,c _<|B.aV.fresh<|bB _⟩
end
structure Hz(e:aM)(n:a7)(M:aF)(W0:cw)(a:a7)(WM:cw):Prop where
 base:kr n M e.env (bM n e.env)=bM n e.env
 gd:((eF WM<|bA [a] e.env).all (λb=>!b.1)&&(nH WM<|nM [] e.env).all (λb=>b.1.isSome)
  && decide (([a]:List a7).length+([]:List h5).length+(if ([]:List h5).isEmpty then 0 else 1)<30))=ab
 line:(W0.endLine==WM.line)=ab
 trees:eF WM (bA [a] e.env)=[(az,bM a e.env)]
structure GL(e:aM)(n:a7)(M:aF)(W0:cw)(a z:a7)(WM:cw):Prop where
 base:kr n M e.env (bM n e.env)=bM n e.env
 gd:((eF WM<|bA [a,z] e.env).all (λb=>!b.1)&&(nH WM<|nM [] e.env).all (λb=>b.1.isSome)
  && decide (([a,z]:List a7).length+([]:List h5).length+(if ([]:List h5).isEmpty then 0 else 1)<30))=ab
 line:(W0.endLine==WM.line)=ab
 trees:eF WM (bA [a,z] e.env)=[(az,bM a e.env),(az,bM z e.env)]
def t5(g:aA)(h:au):Prop:=((∃VR,gS g h<|.dA VR)\/∃VR,gS g h (.aB VR))
def Ij(B:aI e G y g m)(o:t5 g h):
  m.TypeIs (.ref h) "dict" /\ (∀d,ah.ref h=.ref d->∃WA,m.heap.get? d=Z WA/\WA.dict=X)/\(h==iG)=az:=by
 rcases o with ⟨VR,a⟩|⟨VR,a⟩
 ·let@⟨_,hd,⟨@P,_,b⟩⟩:=lH B.aV a;refine⟨b.typeIs,λd u=>?_,hd⟩;cases u;let⟨WA,Y,@Y,l,t,Y⟩:=b;exact⟨WA,l,t.2.1⟩
 ·let@⟨_,hd,⟨@x,_,b⟩⟩:=lZ B.aV a;refine⟨b.typeIs,λd u=>?_,hd⟩;cases u;let⟨WA,Y,@Y,l,t,Y⟩:=b;exact⟨WA,l,t.2.1⟩
section
variable{e:aM}{G:List (au×ba)}{y:a3}{g:aA}{m:aw}{h:au}{i o:af}{I p:ah}{n:Option af}{O:bz}{VP:ah->aw->Prop}
def KS(p:O.units+20<bN)(B:aI e G y g m)(N:eM g h i n)(l:b1 i I)(c:∀o VY,aI e G y g VY->b1 (n.getD .aP) o->D o VY):
  wpAny (aT e.prog e.w) O (call (.builtin "dict.get") [.ref h,I]) D VP m:=by
 rcases N with ⟨VR,s,a,f,J⟩|⟨VR,s,d,a,f,q,J⟩
 ·subst f;let@⟨k,hd,⟨@P,j,b⟩⟩:=lH B.aV a;refine rU oV b.typeIs vr (HJ _ _) (meets_dict_get (kM e.prog e.w) h (o_ l) hd) ⟨_,b.mapOf,c _ _ (B.tok _) ?_⟩;rw[J];exact (j.val s).getD rfl
 ·subst f;cases (show I=ah.ref d from l);let@⟨k,hd,⟨@x,j,b⟩⟩:=lZ B.aV a;refine rU oV b.typeIs vr (HJ _ _) (meetsH_dict_get (hv e.prog e.w) h d hd) ⟨oy p,s,x,kx B.aV q,b,c _ _ (B.tok _) ?_⟩;rw[J];exact (j.val s).getD rfl
def L8(t:O.units+20<bN)(B:aI e G y g m)(N:eM g h i n)(l:b1 i I)(q:b1 o p)(c:∀r VY,aI e G y g VY->b1 (n.getD o) r->D r VY):
  wpAny (aT e.prog e.w) O (call (.builtin "dict.get") [.ref h,I,p]) D VP m:=by
 rcases N with ⟨VR,s,a,f,J⟩|⟨VR,s,d,a,f,u,J⟩
 ·subst f;let@⟨k,hd,⟨@P,j,b⟩⟩:=lH B.aV a;refine rU oV b.typeIs vr (BD _ _ _) (meets_dict_get_default (kM e.prog e.w) h (o_ l) hd p) ⟨_,b.mapOf,c _ _ (B.tok _) ?_⟩;rw[J];exact (j.val s).getD q
 ·subst f;cases (show I=ah.ref d from l);let@⟨k,hd,⟨@x,j,b⟩⟩:=lZ B.aV a;refine rU oV b.typeIs vr (BD _ _ _) (meetsH_dict_get_default (hv e.prog e.w) h d hd p) ⟨oy t,s,x,kx B.aV u,b,c _ _ (B.tok _) ?_⟩;rw[J];exact (j.val s).getD q
end
def M_(l ty:bU):bU:=(λy g D=>l y g λb VT=>∃h,b=.ref h/\t5 VT h/\ty y VT λi V8=>∃n,eM V8 h i n/\D (n.getD .aP) V8)
def Mc(l ty r:bU):bU:=(λy g D=>l y g λb VT=>∃h,b=.ref h/\t5 VT h/\ty y VT λi V8=>r y V8 λk a=>∃n,eM a h i n/\D (n.getD k) a)
section
variable{e:aM}{n a z:a7}{W0 WM:cw}{l ty r:bU}
def Ke(f:e.A.units+20<bN)(j:bj e n l)(k:bj e a ty)(M:Hz e n "get" W0 a WM):bj e (.Call (.Attribute n "get" W0) [a] [] WM) (M_ l ty):=by
 intro G m y g D B c;refine Cx M.base M.gd M.line A3 oV Dp (bK (j G m y g _ B c) λI p q=>?_);let⟨b,@VT,d,r,⟨@h,WD,o,s⟩⟩:=q;subst WD;obtain rfl:I=ah.ref h:=r;let@⟨t,u,_⟩:=Ij d o;refine⟨t,u,?_⟩;rw[M.trees];refine qx rfl (sG<|qw<|bK (k G p y VT _ d s) λE F ⟨i,V8,v,w,H,N,x⟩=>uj ?_);exact KS f v N w λJ L z C=>⟨_,V8,z,C,x⟩
def Us(f:e.A.units+20<bN)(j:bj e n l)(p:bj e a ty)(q:bj e z r)(M:GL e n "get" W0 a z WM):bj e (.Call (.Attribute n "get" W0) [a,z] [] WM) (Mc l ty r):=by
 intro G m y g D B c;refine Cx M.base M.gd M.line A3 oV Dp (bK (j G m y g _ B c) λI s t=>?_);let⟨b,@VT,d,u,⟨@h,WD,o,v⟩⟩:=t;subst WD;obtain rfl:I=ah.ref h:=u;let@⟨w,x,_⟩:=Ij d o;refine⟨w,x,?_⟩;rw[M.trees];refine qx rfl (sG<|qw (bK (p G s y VT _ d v) λT C ⟨i,V8,E,F,H⟩=>
  qw (bK (q G C y V8 _ E H) λU al ⟨k,J,L,P,am,N,Q⟩=>uj ?_)));exact L8 f L N F P λan ap R S=>⟨_,J,R,S,Q⟩
end
end L2
namespace Fp
open PySem.W PySem.Calls PyProof.Rows
variable{v:Nat}{J:OpenLaw}
def Sg{V0:vq}{c:a4}:∀(V4:List Int) (P:List ah),WellAll V0 c P (V4.map sb.int)->so P V4:=by
 intro V4;induction V4 with
 |nil=>
  intro P C;rw[Fv]at C;cases C;exact .nil
 |cons v V4 a=>
  intro P C;rw[bH]at C;cases C with
  |cons h d=>
   cases h;exact .cons _ _ (a _ d)
def SI(g:J.most=Z v){V0:vq}{c:a4}{args:List sb}{d:List ah}(e:J.row.toRowW.claim.pre args=ab)(i:WellAll V0 c d args):
  ∃h P V4,d=[ah.ref h]/\args=[sb.list (V4.map sb.int)]/\c.get? h=Z {cls:=.type "list",data:=.seq P.toArray}/\so P V4/\V4.length<=v:=by
 have G7:rn.hasAll [] args [.list .int]=ab:=(pre_splitW e).1;have f:J.pre.holds [] {args:=args}=ab:=(pre_splitW e).2;let⟨o,@p,rfl,l,t⟩:=hasAllW_cons G7;obtain rfl:=hasAllW_nil t;let⟨@x,rfl,j⟩:=hasW_list l;let⟨@V4,rfl⟩:=items_int j;have k:V4.length<=v:=by
  unfold OpenLaw.pre at f;have a:(WTm.not<|.lt (.lit<|.int (v:Int))<|.len<|.arg 0).holds [] {args:=[.list (V4.map .int)]}=ab:=by
   have a:=(holds_andW f).1;rw[g]at a;exact a
  have b:=condW_of a (w_not<|w_lt w_lit<|w_len_list<|w_arg rfl);rw[br]at b;refine ym λu=>?_;have dK:(v:Int)<((V4.length:Nat):Int):=⋯
  first
   | (rw[bW dK]at b;exact absurd b ∅)
   | (simp at b;lia)
 cases i with
 |cons cO m=>
  cases m;cases cO with
  |list n q=>exact⟨_,_,V4,rfl,rfl,n,Sg V4 _ q,k⟩
def RA(J:OpenLaw)(args:List sb):J.row.toRowW.claim.post args (.bool ab) args=ab:=
 postW_of (r:=J.row.toRowW) (X:=(ab==ab))
  (show rn.has [] (.bool ab) .bool=ab by first|rfl|decide|simp[rn.has,rn.arms,rn.armsAll])
  (show (WTm.eq .res<|.lit<|.bool ab).value [] {args:=args,res:=Z (.bool ab),after:=args}=Z (.bool<|ab==ab) from w_eq_bool (w_res rfl) w_lit) rfl
def Ni{u:bu}{e:List aF}{f:(aF->Option ah)->a4->Prop}{g:bf->a4->Prop}{o:DefRec}(j:J.most=Z v)(k:o.params.defaults=[])(call:∀(C:bf) (e7 a:aw) (aL d:aF->Option ah) (b:au) (n:ba) (Ws c w:ah) (h:au) (P:List ah) (V4:List Int),
   Ground u e [] f C e7 aL d a.heap->g C a.heap->
   a.heap.get? b=Z n->n.data=.func (docDef o.name o.params o.body o.scope Ws c w)->a.heap.CodeRec c o.name->aL o.name=Z (.ref b)->
   a.heap.get? h=Z {cls:=.type "list",data:=.seq P.toArray}->so P V4->V4.length<=v->a.gens=#[]->
   codeAny (aT J.prog C) oG (.call (.ref b) ⟨[.ref h],[]⟩) (λp VY=>p=.ok (.ret<|.bool ab)/\OldK a.heap VY.heap/\VY.os=a.os/\l9 VY.gens) a):
  WalkO u e f g J.row.toRowW o [] (λz P=>PySem.call z P):=by
 intro C e7 a aL d VN l b n Ws c w m cy q hd r i s x args L M y N O A Q;obtain rfl:m=.none:=Dflts.none i k;obtain rfl:cy=.none:=Dflts.noKw i;let⟨h,P,@V4,rfl,rfl,B,D,E⟩:=SI j y A;refine enter_call (zF (call C e7 a aL d b n Ws c w h P V4 VN l q (fd_plain hd) r s B D E x) λp VY F=>?_);let@⟨rfl,t,G,H⟩:=F;exact⟨.inl ⟨.bool ab,.bool ab,[],rfl,λ_=>rfl,.bool ab,RA J _,λ_=>⟨List.Pairwise.nil,λ_ I=>(nomatch I)⟩⟩,t,G,H⟩
end Fp
namespace L2
open Spec PyProof.Rows
variable{VV:List aF}{z d:au}{R:cg}{WT b:aF}{W6:mc}{fd:hj}{s:Nat}{I:fz}{c:a4}{g:aA}{C:bf}{V0:bu}{n:ba}
theorem E_:∀{P:List ah}{V4:List Int},so P V4->bZ (V4.map af.int) P
 |_,_,.nil=>.nil
 |_,_,.cons v H c=>.cons ⟨H,rfl⟩ (E_ c)
def rH(g:aA):Prop:=(∀d,g d=X\/(∃n x,g d=Z (.c6 n<|.lst x))\/∃x,g d=Z (.tup x))
def R4{x:List af}(f:qt n=Z x):∃j H A I v,(n.cls,n.dict)=(.type "tuple",X)/\n.data=.seq [.int j H,.int A I].toArray v/\x=[.int j,.int A]:=by
 unfold qt at f;split at f
 ·rename_i VZ v l t b;unfold Ht at f;split at f
  ·rename_i j H A I a;cases f;exact⟨j,H,A,I,v,m4 l t,b.trans (by rw[<-a,xv]),rfl⟩
  ·cases f
 ·cases f
def DY(a:c.get? d=Z n)(f:kp n=Z I):∃x,I=.tup x/\ee V0 C g c d I:=by
 unfold kp at f;cases o:qt n with
 |none=>rw[o]at f;cases f
 |some x=>
  rw[o]at f;cases f;let⟨j,H,A,r,v,l,t,rfl⟩:=R4 o;exact⟨_,rfl,dN (show 2<=2 from bB 2) ∅,[.int j H,.int A r],.cons ⟨H,rfl⟩<|.cons ⟨r,rfl⟩ .nil,n,a,l,v,t⟩
def h6(c:a4)(g:aA):aA:=(λd=>match g d with
 |some I=>Z I
 |none=>match c.get? d with
  |some n=>kp n
  |none=>X)
def NX(v:g d=X)(a:c.get? d=Z n):h6 c g d=kp n:=by
 unfold h6;rw[v];dsimp only;rw[a]
def Q_(v:g d=Z I):h6 c g d=Z I:=by
 unfold h6;rw[v]
def Ik(v:h6 c g d=Z I):g d=Z I\/∃n,c.get? d=Z n/\kp n=Z I:=by
 unfold h6 at v;cases u:g d with
 |some r=>rw[u]at v;cases v;exact .inl rfl
 |none=>
  rw[u]at v;dsimp only at v;cases a:c.get? d with
  |none=>rw[a]at v;cases v
  |some n=>rw[a]at v;exact .inr ⟨n,rfl,v⟩
def K4{U:Φ}{aL w:aF->Option ah}{W3:kX}{y h:au}{e:aw}{P:List ah}{V4:List Int}(B:U.In e.heap)(D:e.heap.Ns ec aL)(ag:e.heap.Ns tF w)(T:∀b:aF,b ≠ "__name__" -> w b=fw b)(al:e.heap.NoLimit)(am:e.gens=#[])(av:e.heap.get? h=Z {cls:=.type "list",data:=.seq P.toArray})(VW:so P V4)(E:V4.length<=sizeLine)(an:e2 s oG)(L:∀Wj:a4,U.In Wj->Wj.Ns ec aL->iP V0 C U aL Wj W3 s y fd [b] W6)(ap:∀(m:aw) (I:ah),my m fd ⟨[I],[]⟩ [(b,I)])(as:∀g:aA,rH g->dv U g h (V4.map af.int)->W6 [.ref h] g (λr Y=>r=.aJ ab) λ_ Y Y=>False)(a1:∀g a VY,W3 [] g e (λ_ Y Y=>False) a VY->False):
  codeAny (aT V0 C) oG (.call (.ref y) ⟨[.ref h],[]⟩) (λp VY=>p=.ok (.ret<|.bool ab)/\OldK e.heap VY.heap/\VY.os=e.os/\l9 VY.gens) e:=by
 have G:=E_ VW;have a2:=VW.length;have H:∀i:aA,rH i->dv U (h6 e.heap i) h (V4.map af.int)->(∀g d I,i d=Z I->ee V0 C g e.heap d I)->(∀d,i d≠X->d=h)->(i h≠X->U.lookup h=X)->
   codeAny (aT V0 C) oG (.call (.ref y) ⟨[.ref h],[]⟩) (λp VY=>p=.ok (.ret<|.bool ab)/\OldK e.heap VY.heap/\VY.os=e.os/\l9 VY.gens) e:=by
  intro i bd be bi J bm;have N:∀{d:au}{n:ba},e.heap.get? d=Z n->i d=X->(lj e.heap i).get? d=Z n:=λa v=>ML a v;have aV:eh V0 C (h6 e.heap i) e.heap:=λd I u=>by
   rcases Ik u with u|⟨n,a,f⟩
   ·exact bi _ d I u
   ·exact (DY a f).choose_spec.2
  have O:rH (h6 e.heap i):=λd=>by
   cases u:h6 e.heap i d with
   |none=>exact .inl rfl
   |some I=>
    rcases Ik u with u|⟨n,a,f⟩
    ·rcases bd d with k|k
     ·rw[k]at u;cases u
     ·rw[<-u];exact .inr k
    ·let⟨x,rfl,Y⟩:=DY (V0:=V0) (C:=C) (g:=i) a f;exact .inr (.inr ⟨x,rfl⟩)
  have bn:∀{d:au}{n:ba}{Q:Array xe}{WI:Nat},e.heap.get? d=Z n->n.data=.dict Q WI->i d=X:=λ{d n Q WI} a o=>by
   cases u:i d with
   |none=>rfl
   |some I=>
    have z:d=h:=J d (by rw[u];simp);subst z;rw[av]at a;cases a;have bs:Data.seq P.toArray _=Data.dict Q WI:=o;cases bs
  have q:∀{d:au}{M:aF->Option ah},e.heap.Ns d M->(lj e.heap i).Ns d M:=λ{d M} ⟨n,Q,WI,a,o,p⟩=>⟨n,Q,WI,N a<|bn a o,o,p⟩;have R:U.In (lj e.heap i):=λd n a=>N (B d n a) (by
   cases u:i d with
   |none=>rfl
   |some I=>
    have z:d=h:=J d (by rw[u];simp);subst z;rw[bm (by rw[u];simp)]at a;cases a)
  have bv:Mod U aL (lj e.heap i):=⟨R,q D,⟨w,q ag,T⟩,let ⟨ca,l,t⟩:=al;⟨ca,q l,t⟩⟩;have cd:u1 V0 C U aL (lj e.heap i) oG [] e (h6 e.heap i):=⟨rfl,bv,λd n a=>⟨(Aa a).1,NX (Aa a).2 (Aa a).1⟩,Nat.le_of_eq<|MF _ _,trivial,λd ag=>absurd (show d∈([]:List au) from ag) ↥0,aV,.of_eq am⟩;refine zF ((L _ R<|q D).run oG [] e (h6 e.heap i) ⟨[.ref h],[]⟩ [.ref h] [.ref h] _ _ an cd (ap e<|.ref h) (.cons rfl .nil)<|as (h6 e.heap i) O be) λp VY c=>?_;cases p with
  |error a=>exact (a1 (h6 e.heap i) a VY c).elim
  |ok aX=>
   cases aX with
   |next=>exact False.elim c
   |brk=>exact False.elim c
   |cont=>exact False.elim c
   |ret I=>
    let⟨r,F,V6,ce,un,ch,WK,u⟩:=c;have dK:r=.aJ ab:=u;subst dK;obtain rfl:I=ah.bool ab:=WK;refine⟨rfl,OldK.of_keep λd n a=>?_,V6,ce⟩;rcases O d with u|⟨WA,x,k⟩|⟨x,k⟩
    ·exact un.keep d n a u (by intro k;exact absurd (show d∈([]:List au) from k) ↥0) ↥0
    ·have ci:=un.j7 d WA _ k;let⟨S,Y⟩:=aV d _ k;let⟨cl,Y⟩:=ch d _ ci;rw[a]at S;cases S;exact cl
    ·exact un.kd d n x a k ↥0
 cases A:U.lookup h with
 |some n=>
  have a:=B h n A;rw[av]at a;cases a;refine H (λ_=>X) (λ_=>.inl rfl) (.inr ⟨_,P.toArray,_,A,rfl,rfl,rfl,by rw[cK,a2];exact E,by simpa using G⟩) (λg d I k=>by have j:(X:Option fz)=Z I:=k;cases j) (λd k=>absurd rfl k) λk=>absurd rfl k
 |none=>
  refine H (λd=>if d=h then Z (.c6 {cls:=.type "list",data:=.seq P.toArray} (.lst<|V4.map af.int)) else X) (λd=>?_) (.inl<|.inr ⟨{cls:=.type "list",data:=.seq P.toArray},Q_<|aH rfl⟩) (λg d I k=>?_) (λd k=>?_) λ_=>A
  ·by_cases ag:d=h
   ·exact .inr (.inl ⟨_,_,aH ag⟩)
   ·exact .inl (if_neg ag)
  ·by_cases ag:d=h
   ·have j:=(aH ag).symm.trans k;cases j;subst ag;exact⟨av,by rw[br];exact E,P,_,G,av⟩
   ·have j:=(if_neg ag).symm.trans k;cases j
  ·by_cases ag:d=h
   ·exact ag
   ·exact absurd (if_neg ag) k
def Rv{J:PySem.W.OpenLaw}{v:Nat}{u:bu}{k:List aF}{l:(aF->Option ah)->a4->Prop}{f:bf->a4->Prop}{o:DefRec}{U:vq->Φ}{W3:bf->kX}{W6:bf->mc}(p:J.most=Z v)(q:v<=sizeLine)(t:o.params.defaults=[])(x:e2 s oG)(y:∀(C:bf) (c:a4),f C c->(U C.params).In c)(L:∀(C:bf) (aL:aF->Option ah) (e:au) (c:a4),(U C.params).In c->c.Ns ec aL->aL o.name=Z (.ref e)->
   ∃fd:hj,(∀(m:aw) (I:ah),my m fd ⟨[I],[]⟩ [(b,I)])/\
    ∀Wj:a4,(U C.params).In Wj->Wj.Ns ec aL->iP J.prog C (U C.params) aL Wj (W3 C) s e fd [b] (W6 C))(A:∀(C:bf) (g:aA) (h:au) (V4:List Int),V4.length<=v->rH g->dv (U C.params) g h (V4.map af.int)->W6 C [.ref h] g (λr Y=>r=.aJ ab) λ_ Y Y=>False)(B:∀(C:bf) (g:aA) (m:aw) (a:ah) (VY:aw),W3 C [] g m (λ_ Y Y=>False) a VY->False):
  PySem.W.WalkO u k l f J.row.toRowW o [] (λz P=>PySem.call z P):=by
 refine Fp.Ni p t λC e7 D aL al e n Ws am w h P V4 VN E an hd ap F G H i M=>?_;have j:=y C _ E;let⟨@fd,ag,O⟩:=L C aL e _ j VN.T.g F;exact K4 j VN.T.g VN.T.b VN.T.builtins VN.T.nolimit M G H (dN i q) x O ag (λg Q R=>A C g h V4 i Q R) λg a VY=>B C g D a VY
def h8(m:cg):Arguments:=(match m with
 |.FunctionDef _ h _ _ _ _ _ _ _ _=>h
 |_=>{posonlyargs:=[],args:=[],vararg:=X,kwonlyargs:=[],kw_defaults:=[],kwarg:=X,defaults:=[]})
def gJ(m:cg):List cg:=(match m with
 |.FunctionDef _ _ d _ _ _ _ _ _ _=>d
 |_=>[])
def dP(m:cg):gq:=(match m with
 |.FunctionDef _ _ _ _ _ _ B _ _ _=>B
 |_=>{kind:=.function,names:=[],isGenerator:=az,isCoroutine:=az})
abbrev ir:kX:=λ_ _ _ _ _ _=>False
abbrev K8:gK:=λ_ _ _=>False
def MR{e:aM}:AB ir e K8:=λ_ Y Y Y Y Y Y c=>c.elim
structure gQ(U:Φ)(b WT:aF)(R:cg)(z:au)(fd:hj):Prop where
 ex:∃(t:ah) (l:Option au) (cy w Ws:ah) (S:Option au) (k ct:ah) (Xg:Array (Option ah)),
  fd=Ψ b WT (h8 R) (gJ R) (dP R) .none cy w Ws S k ct/\U.lookup z=Z ⟨t,l,.func fd,Xg⟩/\Δ U k WT=ab
 dk:Θ U (.ref z)=ab
section
variable{V0:bu}{C:bf}{U:Φ}{aL:aF->Option ah}{Wj:a4}
def gQ.ok{Wm:List aF}(L:gQ U b WT R z fd)(V2:nk Wm VV (dP R))(len:∀P g D VP,W6 P g D VP->P.length=VV.length)(a:∀(k:ah) (O:bz) (WH:List eN) (m:aw) (g:aA) (P:List af) (D:cj) (VP:gK),e2 s (O.deeper<|jl WT (dP R) m.heap.objs.size z k)->W6 P g D VP->
   ∃H,hN (l4 ir V0 C U aL Wj Wm WT (dP R) z k O WH m g VP).ow (gJ R) H/\H {a8:=λ_ F=>D .aP F,eQ:=D} (kq Wm P) g):iP V0 C U aL Wj ir (s+1) z fd VV W6:=by
 let⟨t,l,cy,w,Ws,S,k,ct,@Xg,rfl,lk,d⟩:=L.ex;refine Mu lk d V2 len λO WH m g P D VP e f=>?_;let⟨@H,c,u⟩:=a k O WH m g P D VP e f;exact⟨H,c.ow,u⟩
def gQ.binds(L:gQ U b WT R z fd)(c:∀(cy w Ws:ah) (S:Option au) (k ct:ah) (Wc:List ah),Wc.length=VV.length->kz (Ψ b WT (h8 R) (gJ R) (dP R) .none cy w Ws S k ct) ⟨Wc,[]⟩=pure (VV.zip Wc)):jy U fd VV []:=by
 let⟨t,l,cy,w,Ws,S,k,ct,@Xg,rfl,lk,a⟩:=L.ex;exact .all (c cy w Ws S k ct)
def Ue{t:ah}{l S:Option au}{Xg:Array (Option ah)}{cy w Ws k ct:ah}(J:U.lookup z=Z ⟨t,l,.func<|Ψ b WT (h8 R) (gJ R) (dP R) .none cy w Ws S k ct,Xg⟩)(f:Δ U k WT=ab)(s:Θ U (.ref z)=ab):gQ U b WT R z (Ψ b WT (h8 R) (gJ R) (dP R) .none cy w Ws S k ct):=⟨⟨t,l,cy,w,Ws,S,k,ct,Xg,rfl,J,f⟩,s⟩
end
section
variable{e:aM}
def bT(j:Nat){b:aF}{V3:cw}(a:e.N[j]?=Z b:=by rfl)(c:qy e.env.scope b:=by first|exact Or.inl rfl|exact Or.inr (Or.inl rfl)|exact Or.inr (Or.inr rfl))(hd:(b==("__debug__" : aF))=az:=by decide)(d:(b==("__classdict__" : aF))=az:=by decide):bj e (.Name b V3) (gY j):=J5 a c hd d
end
def cX(g F:aA):Prop:=(∀d n,g d=Z n->F d=Z n)
def cX.refl(g:aA):cX g g:=λ_ Y c=>c
end L2
namespace L2
section
variable{e:aM}
def Tq:ez e (.builtin "len") (λx g D=>∃h VR,x=[af.ref h]/\g h=Z (.dA VR)/\D (.int VR.length) g):=by
 intro G m y g x Wc D B p c;let⟨h,@VR,rfl,av,u⟩:=c;let⟨@I,rfl,a⟩:=h3 p;cases a;exact Ko B (.inl av) λH VY b=>⟨.int VR.length,g,b,⟨H,rfl⟩,u⟩
end
end L2
namespace L2
open Spec PyProof.Rows
variable{D:Option ah->aw->Prop}{j WI Xd:Nat}{T:List ah}{o aN:au}{fl:c7}{Wl WR W8:a7}{l:a4}{VU:List (aF×au)}{b_:List au}{g:aA}{y:a3}{G:List (au×ba)}{Wk:List Nat}{own:List aF}{VM:eN}{V3:cw}{Wa:gq}{W4:List a7}{m:aw}{O:bz}
def QJ{VX:bu}{C:bf}{VO:pI->aw->Prop}{d:a7}{aO g:ah}(B:Nat->aw->Prop)(n:∀v m,B v m->wpAny (aT VX C) O (gP aO) (λp a=>match p with
   |none=>VO (.ok .next) a
   |some r=>wpAny (aT VX C) O (qM d aO r) (λ_ a=>wpAny (aT VX C) O (ij d VM r) (λ_ i=>
     wpAny (aT VX C) O (forIn W4 ab λf p=>if p=ab then do let ok <-n5 f VM (bM f VM);pure (ForInStep.yield ok) else pure (ForInStep.yield p)) (λok h=>
      if ok=ab then wpAny (aT VX C) O (bM W8 VM) (λb j=>
       wpAny (aT VX C) O (call (.builtin "list.append") [g,b]) (λ_ k=>∃M,M<v/\B M k) (λ_ Y=>False) j) (λ_ Y=>False) h
      else ∃M,M<v/\B M h) (λ_ Y=>False) i) (λ_ Y=>False) a) (λ_ Y=>False) a) (λ_ Y=>False) m)(v:Nat)(c:B v m):
  codeAny (aT VX C) O (.compLoop (.ListComp W8 [⟨d,WR,W4,0⟩] Wa V3) 0 aO g VM) VO m:=by
 refine codeAny_loop rfl B (λv m dG=>?_) v c;show wpAny _ O ((compTurn (.ListComp W8 [⟨d,WR,W4,0⟩] Wa V3) 0 aO g VM).onRaise (λb=>do noteFrame b VM;theTreesLotGoes b)) _ _ m;refine wpAny_noted ?_;rw[compTurn_list];refine aC (sr<|aC<|hg (n v m dG) (λp a e=>?_) λ_ Y ar=>ar.elim);cases p with
 |none=>exact a5 e
 |some r=>
  refine aC (hg e (λ_ a e=>?_) λ_ Y ar=>ar.elim);refine aC (hg e (λ_ i o=>aC<|hg o (λok h l=>?_) λ_ Y ar=>ar.elim) λ_ Y ar=>ar.elim);cases ok with
  |false=>exact a5 ⟨rfl,l⟩
  |true=>
   exact aC (aC<|hg l (λb j q=>aC<|hg q (λ_ k s=>a5<|a5 ⟨rfl,s⟩) λ_ Y ar=>ar.elim) λ_ Y ar=>ar.elim)
def k3(VM:eN)(Wv:List (aF×c3)):List (aF×au):=(Wv.foldl (λVU i=>if i.2==.free then (i.1,(VM.cells.lookup i.1).getD 0)::VU else VU) [])
theorem xA{VM:eN}:∀(Wv:List (aF×c3)) (VU:List (aF×au)),(∀i∈Wv,i.2=.free->∃f,VM.cells.lookup i.1=Z f)->
  (forIn Wv VU λ(i:aF×c3) VU=>if i.2==.free then (do let f <-sJ VM i.1;pure (ForInStep.yield ((i.1,f)::VU))) else pure (ForInStep.yield VU):fK _)=
   pure (Wv.foldl (λVU i=>if i.2==.free then (i.1,(VM.cells.lookup i.1).getD 0)::VU else VU) VU)
 |[],VU,_=>rfl
 |i::p,VU,c=>by
  rw[uL,kH];by_cases b:i.2=.free
  ·let⟨@f,d⟩:=c i md b;have a:(i.2==c3.free)=ab:=by simp[b]
   rw[aH a,aH a];have e:sJ VM i.1=pure f:=by unfold sJ;rw[d]
   rw[e,d];show (forIn p ((i.1,f)::VU) _:fK _)=_;exact xA p _ λk aR=>c k (kL _ aR)
  ·have a:¬ (i.2==c3.free)=ab:=by simp[b]
   rw[if_neg a,if_neg a];show (forIn p VU _:fK _)=_;exact xA p _ λk aR=>c k (kL _ aR)
def Qu(c:∀i∈Wa.names,i.2=.free->∃f,VM.cells.lookup i.1=Z f):closureFor Wa VM=pure (k3 VM Wa.names):=by
 have:=xA (VM:=VM) Wa.names [] c;unfold closureFor;dsimp only;have a:(forIn Wa.names ([]:List (aF×au))<|λ(b:aF×c3) (p:List (aF×au))=>(if b.2==.free then (do let f <-sJ VM b.1;pure (ForInStep.yield ((b.1,f)::p))) else pure (ForInStep.yield p):fK (ForInStep<|List<|aF×au)))=pure (k3 VM Wa.names):=this;rw[a];rfl
theorem B0{VM:eN}:∀(Wv:List (aF×c3)) (VU:List (aF×au)) (b:aF) (f:au),
  (Wv.foldl (λVU i=>if i.2==.free then (i.1,(VM.cells.lookup i.1).getD 0)::VU else VU) VU).lookup b=Z f->
  (f=(VM.cells.lookup b).getD 0/\(b,c3.free)∈Wv)\/VU.lookup b=Z f
 |[],VU,b,f,c=>.inr c
 |i::p,VU,b,f,c=>by
  rw[kH]at c;rcases B0 p _ b f c with ⟨a,M⟩|c
  ·exact .inl ⟨a,kL _ M⟩
  ·by_cases d:i.2=.free
   ·rw[aH (by simp[d])]at c;rw[gX]at c;by_cases e:b=i.1
    ·subst e;rw[kD]at c;refine .inl ⟨(Option.some.inj c).symm,?_⟩;rw[<-d];exact md
    ·have:(b==i.1)=az:=by simpa using e
     rw[this]at c;exact .inr c
   ·rw[if_neg (by simp[d])]at c;exact .inr c
theorem yC{VM:eN}:∀(Wv:List (aF×c3)) (VU:List (aF×au)) (b:aF),(b,c3.free)∈Wv\/(∃f,VU.lookup b=Z f)->
  ∃f,(Wv.foldl (λVU i=>if i.2==.free then (i.1,(VM.cells.lookup i.1).getD 0)::VU else VU) VU).lookup b=Z f
 |[],VU,b,c=>by
  rcases c with c|c
  ·cases c
  ·exact c
 |i::p,VU,b,c=>by
  rw[kH];apply yC p _ b;rcases c with c|⟨f,c⟩
  ·rcases bR.mp c with a|c
   ·right;subst a;rw[aH (by rfl),gX,kD];exact⟨_,rfl⟩
   ·exact .inl c
  ·right;by_cases d:(i.2==c3.free)=ab
   ·rw[aH d,gX];cases b==i.1
    ·exact⟨f,c⟩
    ·exact⟨_,rfl⟩
   ·rw[if_neg d];exact⟨f,c⟩
structure jP where
 aN:au
 s:aw
 H:aA
 b_:List au
 cs:List (aF×au)
variable{WX:jP->bU}{P:jP->ew}{N:jP->gw}
def aM.fV(e:aM)(c:List aF)(Wa:gq)(a:jP): aM :=(
  {prog:=e.prog,w:=e.w,K:=e.K,aL:=e.aL,base:=e.base,A:=e.A,N:=c,e7:=a.s,m5:=a.H,env:=uU Wa (a.cs ++ k3 e.env Wa.names) a.aN e.env,outer:=e.stack,stack:=e.stack,
    ex:=a.b_,fn:=λb => Wa.names.lookup b==Z .cell,calm:=e.calm,k6:=[],cJ:=λ_ Y => False})
structure sF(Xd:Nat)(Wv:List (aF×c3))(VU:List (aF×au))(c:a4):Prop where
 i_:∀b f,VU.lookup b=Z f->Xd<=f/\c.IsCell f X/\(b,c3.cell)∈Wv
 inj:∀b i f,VU.lookup b=Z f->VU.lookup i=Z f->b=i
def Ka{aD:mr}{VP:ah->aw->Prop}{x:au}{q:List (aF×au)}{WT:aF}{D:eN->aw->Prop}(c:∀ar VU,(∀d n,m.heap.get? d=Z n->ar.get? d=Z n)->ar.Ns m.heap.objs.size (λ_=>X)->sF (m.heap.objs.size+1) Wa.names VU ar->(∀b,(b,c3.cell)∈Wa.names->∃f,VU.lookup b=Z f)->
   D (newEnv Wa m.heap.objs.size x (VU++q) WT X .none (Z VM) tF) {m with heap:=ar}):
  wpAny aD O (Eb Wa x q [] WT X .none<|Z VM) D VP m:=by
 unfold Eb;refine aC (wpAny_alloc ?_);have Xd:(m.heap.push {cls:=.type (if (Z VM).isSome=ab then "dict" else "frame"),data:=.dict #[]}).Ns m.heap.objs.size λ_=>X:=⟨_,#[],_,dx _ rfl,rfl,by intro j VW;simp at VW,λ_=>rfl⟩;refine aC (qb _ (λd7 cells VY=>∃done VU ar,done++d7=Wa.names/\cells=VU++q/\VY={m with heap:=ar}/\m.heap.objs.size+1<=ar.objs.size/\(∀d n,m.heap.get? d=Z n->ar.get? d=Z n)/\ar.Ns m.heap.objs.size (λ_=>X)/\sF (m.heap.objs.size+1) Wa.names VU ar/\∀b,(b,c3.cell)∈done->∃f,VU.lookup b=Z f) _ ?_ ?_ _ _ ⟨[],[],_,rfl,rfl,rfl,by rw[jj];exact bB _,λd n a=>cu _ a,Xd,⟨(λb f a=>by simp at a),(λb i f a=>by simp at a)⟩,(λb e=>nomatch e)⟩)
 ·rintro⟨w,p⟩ d7 cells VY ⟨done,VU,ar,o,rfl,rfl,dj,ext,V4,g,t⟩;by_cases u:p=.cell
  ·subst u;show wpAny aD O (alloc {cls:=.type "cell",data:=.cell X} >>= λh=>pure<|ForInStep.yield ((w,h)::(VU++q))) _ _ _;refine aC (wpAny_alloc<|a5 ?_);have y:∀d n,ar.get? d=Z n->(ar.push {cls:=.type "cell",data:=.cell X}).get? d=Z n:=λd n a=>cu _ a;have z:∀f,(∃r,ar.IsCell f r)->f≠ar.objs.size:=λf ⟨r,n,a,_⟩=>dE (b9 a);refine⟨done++[(w,.cell)],(w,ar.objs.size)::VU,_,by rw[bV];exact o,rfl,rfl,by rw[jj];exact ys dj,λd n a=>y d n<|ext d n a,V4.push _,⟨λb f a=>?_,λb i f WD l=>?_⟩,λb e=>?_⟩
   ·rw[gX]at a;by_cases e:b=w
    ·subst e;rw[kD]at a;cases a;exact⟨dj,⟨_,dx _ rfl,rfl⟩,by rw[<-o];exact er _ (.head _)⟩
    ·rw[show (b==w)=az by simpa using e]at a;let⟨A,⟨n,B,C⟩,F⟩:=g.i_ b f a;exact⟨A,⟨n,y f n B,C⟩,F⟩
   ·rw[gX]at WD l;by_cases e:b=w
    ·by_cases s:i=w
     ·rw[e,s]
     ·rw[e,kD]at WD;rw[show (i==w)=az by simpa using s]at l;cases WD;exact absurd rfl (z _ ⟨_,(g.i_ i _ l).2.1⟩)
    ·rw[show (b==w)=az by simpa using e]at WD;by_cases s:i=w
     ·rw[s,kD]at l;cases l;exact absurd rfl (z _ ⟨_,(g.i_ b _ WD).2.1⟩)
     ·rw[show (i==w)=az by simpa using s]at l;exact g.inj b i f WD l
   ·rw[gX];by_cases v:b=w
    ·rw[v,kD];exact⟨_,rfl⟩
    ·rw[show (b==w)=az by simpa using v];refine t b ((d8.mp e).resolve_right λk=>?_);exact v (Prod.mk.inj<|cR.mp k).1
  ·have a:(p==c3.cell)=az:=by simpa using u
   show wpAny aD O (if (p==c3.cell)=ab then _ else pure (ForInStep.yield<|VU++q)) _ _ _;rw[if_neg (by rw[a];exact dw)];refine a5 ⟨done++[(w,p)],VU,ar,by rw[bV];exact o,rfl,rfl,dj,ext,V4,g,λb e=>t b<|(d8.mp e).resolve_right λk=>?_⟩;exact u (Prod.mk.inj<|cR.mp k).2.symm
 ·rintro cells VY ⟨done,VU,ar,o,rfl,rfl,dj,ext,V4,g,t⟩;rw[b4]at o;subst o;exact aC (a5<|a5<|c ar VU ext V4 g t)
theorem mem_of_lookup:∀{J:List (aF×c3)}{b:aF}{s:c3},J.lookup b=Z s->(b,s)∈J
 |[],_,_,c=>by simp at c
 | (v,d)::p,b,s,c=>by
  rw[gX]at c;by_cases a:b=v
  ·subst a;rw[kD]at c;cases c;exact md
  ·rw[show (b==v)=az by simpa using a]at c;exact kL _ (mem_of_lookup c)
theorem Ax{VM:eN}:∀{Wv:List (aF×c3)}{b:aF}{s:c3},
  (Wv.map λ(v,s)=>if (s==c3.free&&VM.scope.kind==.function&&VM.kindOf v==Z .cell) then (v,c3.cell) else (v,s)).lookup b=Z s->
  (s=.cell\/s=.free)->(b,c3.free)∈Wv\/Wv.lookup b=Z .cell
 |[],b,s,c,_=>by simp at c
 | (v,f)::p,b,s,c,d=>by
  rw[bH]at c;dsimp only at c;by_cases g:b=v
  ·subst g;by_cases e:(f==c3.free&&VM.scope.kind==.function&&VM.kindOf b==Z .cell)=ab
   ·have:f=c3.free:=by
     simp only[cI]at e;exact by simpa using e.1.1
    subst this;exact .inl md
   ·simp only[e]at c;have a:f=s:=by simpa [gX] using c
    subst a;rcases d with d|d
    ·exact .inr (by rw[gX,kD,d])
    ·rw[d];exact .inl md
  ·have ag:(b==v)=az:=by simpa using g
   have ar:(p.map λ(v,s)=>if (s==c3.free&&VM.scope.kind==.function&&VM.kindOf v==Z .cell) then (v,c3.cell) else (v,s)).lookup b=Z s:=by
    by_cases e:(f==c3.free&&VM.scope.kind==.function&&VM.kindOf v==Z .cell)=ab
    ·rw[aH e,gX,ag]at c;exact c
    ·rw[if_neg e,gX,ag]at c;exact c
   rcases Ax ar d with k|k
   ·exact .inl (kL _ k)
   ·exact .inr (by rw[gX,ag];exact k)
section
variable{e:aM}
structure hV(e:aM)(Wa:gq)(own:List aF)(Wk:List Nat):Prop where
 kind:Wa.kind=.function
 zb:∀i∈Wa.names,i.2=.cell->Wa.names.lookup i.1=Z .cell
 free:∀i∈Wa.names,i.2=.free->e.env.scope.names.lookup i.1=Z .cell
 loc:∀i∈Wa.names,i.2=.local->Wa.names.lookup i.1=Z .local
 Ls:∀j∈Wk,∃b,e.N[j]?=Z b/\(b,c3.free)∈Wa.names/\Wa.names.lookup b=Z .free
def f3(e:aM)(own:List aF)(Wk:List Nat):List aF:=(own++Wk.map λj=>e.N.getD j "")
def ke(own:List aF)(Wk:List Nat)(y:a3):a3:=(own.map (λ_=>X)++Wk.map λj=>y.getD j X)
def hV.cells(V2:hV e Wa own Wk)(ok:e.Ok):∀i∈Wa.names,i.2=.free->∃f,e.env.cells.lookup i.1=Z f:=
 λi a b=>ok.has i.1 (.inl<|V2.free i a b)
def hV.sub(V2:hV e Wa own Wk)(ok:e.Ok){b:aF}{f:au}(c:(k3 e.env Wa.names).lookup b=Z f):e.env.cells.lookup b=Z f/\(b,c3.free)∈Wa.names:=by
 rcases B0 Wa.names [] b f c with ⟨a,M⟩|c
 ·let⟨@g,d⟩:=V2.cells ok (b,.free) M rfl;rw[show (List.lookup b e.env.cells)=Z g from d]at a;refine⟨?_,M⟩;rw[a];exact d
 ·simp at c
def hV.two(V2:hV e Wa own Wk)(ok:e.Ok){VU:List (aF×au)}{b:aF}{f:au}(c:(VU++k3 e.env Wa.names).lookup b=Z f):VU.lookup b=Z f\/(VU.lookup b=X/\e.env.cells.lookup b=Z f):=by
 rw[xj]at c;cases u:VU.lookup b with
 |some o=>rw[u]at c;exact .inl c
 |none=>rw[u]at c;exact .inr ⟨rfl,(V2.sub ok c).1⟩
def aI.Ae(B:aI e G y g m){b:aF}{f:au}(c:e.env.cells.lookup b=Z f):f<m.heap.objs.size:=by
 let⟨r,n,a,Y⟩:=B.cell b f c;exact b9 a
theorem IV(V2:hV e Wa own Wk)(B:aI e G y g m)(w:m.heap.objs.size<=aN)(s:∀d∈b_,hC e G g d)(x:∀d∈b_,d<m.heap.objs.size)(j:sF Xd Wa.names VU l)(v:m.heap.objs.size<=Xd)(z:∀b,(b,c3.cell)∈Wa.names->∃f,VU.lookup b=Z f):(e.fV (f3 e own Wk) Wa ⟨aN,m,g,b_,VU⟩).Ok where
 mod:=B.ok.mod
 kind:=V2.kind
 glob:=B.ok.glob
 blt:=B.ok.blt
 above:=w
 inj:=λb i f l t=>by
  rcases V2.two B.ok l with p|⟨_,p⟩<;>rcases V2.two B.ok t with q|⟨_,q⟩
  ·exact j.inj b i f p q
  ·exact absurd (eV (B.Ae q)<|dN v (j.i_ b f p).1) (iF _)
  ·exact absurd (eV (B.Ae p)<|dN v (j.i_ i f q).1) (iF _)
  ·exact B.ok.inj b i f p q
 has:=λb h=>by
  have M:(b,c3.free)∈Wa.names\/Wa.names.lookup b=Z .cell:=by
   rcases h with h|h
   ·exact Ax h (.inl rfl)
   ·exact Ax h (.inr rfl)
  show ∃f,(VU++k3 e.env Wa.names).lookup b=Z f;rw[xj];cases u:VU.lookup b with
  |some o=>exact⟨o,rfl⟩
  |none=>
   rcases M with M|M
   ·exact yC Wa.names [] b (.inl M)
   ·let⟨f,r⟩:=z b (mem_of_lookup M);rw[u]at r;cases r
 om:=λb f c A=>by
  have h:Wa.names.lookup b=Z .cell:=eq_of_beq c;let⟨C,r⟩:=z b (mem_of_lookup h);rcases V2.two B.ok A with k|⟨k,_⟩
  ·exact dN v (j.i_ b f k).1
  ·rw[k]at r;cases r
 hd:=B.ok.hd
 frames:=B.ok.frames
 r3:=.inl rfl
 w8:=λd ag=>⟨dE<|eV (x d ag) w,λb f c=>by
  rcases V2.two B.ok c with k|⟨_,k⟩
  ·exact lT (eV (x d ag)<|dN v (j.i_ b f k).1)
  ·exact (s d ag).2.2.2.2.1 b f k⟩
 bs:=B.bs
 lC:=dN B.ok.lC B.dj
 nx:=λd n a ag=>by
  rcases (s d ag).2.2.2.1 with k|k
  ·exact B.ok.nx d n a k
  ·exact absurd (eV (b9 a)<|dN B.ok.lC k) (iF _)
 pY:=λd ag k=>by
  rcases bR.mp (B.wJ d k) with a|a
  ·exact (s d ag).2.1 a
  ·exact (s d ag).2.2.1 a
 iQ:=B.stack
 oJ:=B.Fo
theorem Tw{Wy:Nat}{M:aF->Option ah}(V2:hV e Wa own Wk)(B:aI e G y g m)(J:m.heap.objs.size<=aN)(al:∀d∈b_,hC e G g d)(am:∀d∈b_,d<m.heap.objs.size)(z:∀d n,m.heap.get? d=Z n->l.get? d=Z n)(an:l.Ns aN M)(C:sF Xd Wa.names VU l)(D:m.heap.objs.size<=Xd)(F:∀b,(b,c3.cell)∈Wa.names->∃f,VU.lookup b=Z f):
  aI (e.fV (f3 e own Wk) Wa ⟨aN,m,g,b_,VU⟩) [] (ke own Wk y) g {m with heap:=l,toks:=Wy} where
 ok:=IV V2 B J al am C D F
 os:=rfl
 bare:=B.bare
 base:=fp.kept z
 loc:=by
  let⟨@bm,D,ap⟩:=B.loc;refine⟨M,an,λA b r t a w=>?_⟩;have t:(own++Wk.map λj=>e.N.getD j "")[A]?=Z b:=t;have a:(own.map (λ_=>(X:Option af))++Wk.map λj=>y.getD j X)[A]?=Z (Z r):=a;by_cases as:A<own.length
  ·rw[r_ (by rw[br];exact as),gC]at a;cases u:own[A]? with
   |none=>rw[u]at a;cases a
   |some k=>rw[u]at a;cases a
  ·rw[sR ⋯,gC]at t;rw[sR (by rw[br];lia),gC,br]at a;cases u:Wk[A-own.length]? with
   |none=>rw[u]at t;cases t
   |some j=>
    rw[u]at t a;have t:e.N.getD j "" = b:=Option.some.inj t;have a:y.getD j X=Z r:=Option.some.inj a;let⟨@h,L,O,P⟩:=V2.Ls j (lg u);have WD:h=b:=by
     rw[<-t,de,L];rfl
    subst WD;have F:y[j]?=Z (Z r):=by
     rw[de]at a;cases Q:y[j]? with
     |none=>rw[Q]at a;cases a
     |some k=>rw[Q]at a;rw[show k=Z r from a]
    have R:=V2.free (h,.free) O rfl;let⟨@I,p,lk⟩:=ap j h r L F (.inr<|.inl R);refine⟨I,p,.inr ⟨?_,?_⟩⟩
    ·rcases w with w|w|w
     ·
      exfalso;have:∀{Wv:List (aF×c3)},Wv.lookup h=Z .free->(Wv.map λ(v,s)=>if (s==c3.free&&e.env.scope.kind==.function&&e.env.kindOf v==Z .cell) then (v,c3.cell) else (v,s)).lookup h≠Z .local:=by
       intro Wv;induction Wv with
       |nil=>intro c;simp at c
       |cons i p S=>
        let⟨v,s⟩:=i;intro c;rw[bH];dsimp only;by_cases T:h=v
        ·subst T;have Xc:s=.free:=by simpa [gX] using c
         subst Xc;by_cases x:(c3.free==c3.free&&e.env.scope.kind==ScopeKind.function&&e.env.kindOf h==Z c3.cell)=ab
         ·rw[aH x];simp[gX]
         ·rw[if_neg x];simp[gX]
        ·have ag:(h==v)=az:=by simpa using T
         rw[gX,ag]at c;by_cases x:(s==c3.free&&e.env.scope.kind==ScopeKind.function&&e.env.kindOf v==Z c3.cell)=ab
         ·rw[aH x,gX,ag];exact S c
         ·rw[if_neg x,gX,ag];exact S c
      exact this P w
     ·exact .inl w
     ·exact .inr w
    ·rcases lk with ⟨a1,_⟩|⟨_,f,a2,bd⟩
     ·exact absurd (a1.symm.trans R) ↥0
     ·let⟨@bn,U⟩:=yC (VM:=e.env) Wa.names [] h (.inl O);have:=(V2.sub B.ok U).1;rw[a2]at this;cases this;let⟨@n,H,hd⟩:=bd;have be:VU.lookup h=X:=by
       cases u:VU.lookup h with
       |none=>rfl
       |some o=>
        have:=V2.zb _ (C.i_ h o u).2.2 rfl;rw[P]at this;cases this
      exact⟨f,by show (VU++k3 e.env Wa.names).lookup h=Z f;rw[xj,be];exact U,n,z _ _ H,hd⟩
 cell:=λb f c=>by
  rcases V2.two B.ok c with k|⟨_,k⟩
  ·exact⟨_,(C.i_ b f k).2.1⟩
  ·let⟨r,@n,H,hd⟩:=B.cell b f k;exact⟨r,n,z _ _ H,hd⟩
 free:=B.aV.fresh J
 jr:=λb f c=>by
  rcases V2.two B.ok c with k|⟨_,k⟩
  ·exact B.aV.fresh (dN D (C.i_ b f k).1)
  ·exact B.jr b f k
 pin:=λq bi=>nomatch bi
 aV:=B.aV.kept z
 len:=by simp[ke,f3,aM.fV]
def Ct(e:aM)(W4:List a7)(H:ew)(G:List (au×ba)):Prop:=(
 ∀(m:aw) (y:a3) (g:aA) (D:Bool->aA->Prop),aI e G y g m->H y g D->
  wpAny (aT e.prog e.w) e.A (forIn W4 ab λf p=>if p=ab then do let ok <-n5 f e.env (bM f e.env);pure (ForInStep.yield ok) else pure (ForInStep.yield p)) (um e G y D) e.cJ m)
def q2(e:aM)(W4:List a7)(H:ew):Prop:=(∀G,Ct e W4 H G)
def Lx:ew:=(λ_ g D=>D ab g)
def N8:q2 e [] Lx:=λG m y g D B c=>wpAny_tests_nil ⟨g,B,c⟩
def Ov{f:a7}{H:ew}(c:hq e f H):q2 e [f] H:=λG m y g D B a=>wpAny_tests_one (c G m y g D B a)
def T9(own:List aF)(Wk:List Nat)(N:gw)(P:ew)(WX:bU)(y:a3)(Wm:List af->aA->Prop)(V5:List af)(b:af)(F:aA):Prop:=(
 N b (ke own Wk y) F λa V8=>(∀(A:Nat) (r:af),(ke own Wk y)[A]?=Z (Z r)->a[A]?=Z (Z r))/\P a V8 λd c=>if d=ab then WX a c λr e=>V5.length<sizeLine/\Wm (V5++[r]) e else Wm V5 c)
def P_(WY:e6)(own:List aF)(Wk:List Nat)(N:gw)(P:ew)(WX:bU)(y:a3)(VT:aA)(D:cj):Prop:=(
 ∃W:Nat->Nat->List af->aA->Prop,(∃M,W 0 M [] VT)/\∀j M V5 g,W j M V5 g->(WY.stop j g/\∀w,g w=X->D (.ref w) (upd g w<|.lst V5))\/
  (WY.go j g/\∃Wm:List af->aA->Prop,(∀a F,Wm a F->∃c,c<M/\W (j+1) c a F)/\∀b F,WY.qJ j g b F->T9 own Wk N P WX y Wm V5 b F))
def u4(own:List aF)(Wk:List Nat)(fl:c7)(N:jP->gw)(P:jP->ew)(WX:jP->bU):bU:=(λy g D=>fl y g λWY VT=>∀a:jP,P_ WY own Wk (N a) (P a) (WX a) y VT D)
def vh(B:gq)(Wm:List aF)(Wa:gq)(Wk:List Nat):Bool:=(
 Wa.kind==.function&&Wa.names.all (λi=>i.2 != .cell || Wa.names.lookup i.1==Z .cell)&&Wa.names.all (λi=>i.2 != .free || B.names.lookup i.1==Z .cell)&&Wa.names.all (λi=>i.2 != .local || Wa.names.lookup i.1==Z .local) &&
  Wk.all (λj=>match Wm[j]? with|some b=>Wa.names.lookup b==Z .free|none=>az))
def i8{e:aM}(B:gq)(Wm:List aF)(c:vh B Wm Wa Wk=ab)(a:e.env.scope=B:=by rfl)(h:e.N=Wm:=by rfl):hV e Wa own Wk:=by
 unfold vh at c;simp only[cI,k5,bne_iff_ne,ne_eq,HD,beq_iff_eq]at c;let@⟨@⟨@⟨@⟨l,t⟩,m⟩,n⟩,o⟩:=c;refine⟨l,λi d f=>(t i d).resolve_left λk=>k f,λi d f=>?_,λi d f=>?_,λj VW=>?_⟩
 ·rw[a];exact (m i d).resolve_left λk=>k f
 ·exact (n i d).resolve_left λk=>k f
 ·have:=o j VW;rw[h];cases u:Wm[j]? with
  |none=>rw[u]at this;cases this
  |some b=>
   rw[u]at this;have g:Wa.names.lookup b=Z .free:=by simpa using this
   exact⟨b,rfl,mem_of_lookup g,g⟩
def D5{WU:cw}{use:Option (ah->fK Unit)}{f8:ah->aw->Prop}{kw:cj}(ol:e.calm=ab)(V2:hV e Wa own Wk)(VW:kf e Wl WR fl)(on:∀a1,jx (e.fV (f3 e own Wk) Wa a1) Wl<|N a1)(op:∀a1,q2 (e.fV (f3 e own Wk) Wa a1) W4<|P a1)(o0:∀a1,bj (e.fV (f3 e own Wk) Wa a1) W8<|WX a1)(pc:∀b,mZ WR e.env b=pure b)(B:aI e G y g m)(c:u4 own Wk fl N P WX y g kw)(pi:∀(w aN:au) (ga:aA) (L:aw) (M:aF->Option ah),aI e G y ga L->L.heap.Ns aN M->ga aN=X->e.env.locals≠aN->(∀b f,e.env.cells.lookup b=Z f->f≠aN)->e.e7.heap.objs.size<=aN->(∀q∈e.k6++G,q.1≠aN)->kw (.ref w) ga->compPost (aT e.prog e.w) e.A e.cJ use f8 (.ref w) aN (.ok .next) L):
  wpAny (aT e.prog e.w) e.A (vX (.ListComp W8 [⟨Wl,WR,W4,0⟩] Wa V3) Wa e.env WU (qR []) az (bM WR e.env) use) f8 e.cJ m:=by
 refine wpAny_comprehension_free (use:=use) rfl pc (Qu<|V2.cells B.ok) V2.kind V2.loc (bK (VW G m y g _ B c) λr v2 l=>bK l λv4 z t=>?_);let⟨aO,b_,J,WY,@V8,a,am,S,ge,a2,pm⟩:=t;subst a;have ci:∀d∈b_,d<z.heap.objs.size:=λd ag=>by
  let⟨@n,a,U⟩:=S.obj _ _ ge d ag;exact b9 a
 refine hE (Ka λgl VU ext db bm lc=>?_);dsimp only at db ext bm ⊢;generalize gt:z.heap.push {cls:=.type "list",dict:=X,data:=.seq ([]:List ah).toArray}=ds at db ext bm ⊢;have dL:ds.objs.size=z.heap.objs.size+1:=by rw[<-gt,jj]
 have bn:z.heap.objs.size≠ds.objs.size:=by rw[dL];exact dE (rW _)
 have eq:z.heap.objs.size<=ds.objs.size:=by rw[dL];exact Fn _
 have g1:∀d n,z.heap.get? d=Z n->gl.get? d=Z n:=λd n a=>ext d n (gt ▸ cu _ a);have lf:gl.get? z.heap.objs.size=Z {cls:=.type "list",data:=.seq ([]:List ah).toArray 0}:=ext _ _ (gt ▸ dx _ rfl);generalize v6:ds.objs.size=aN at db bm dL bn eq ⊢;have ev:z.heap.objs.size<=aN+1:=ys eq;generalize ap:z.heap.objs.size=w at lf dL bn eq ⊢;have bs:z.heap.objs.size<=aN:=by rw[ap];exact eq
 let⟨@W,⟨@po,pp⟩,turn⟩:=pm ⟨aN,z,V8,b_,VU⟩;have li:=λ(Wy:Nat)=>Tw (Wy:=Wy) V2 am bs a2 ci g1 db bm ev lc;have lm:=on ⟨aN,z,V8,b_,VU⟩;have ln:=op ⟨aN,z,V8,b_,VU⟩;have ls:=o0 ⟨aN,z,V8,b_,VU⟩;have g2:=IV V2 am bs a2 ci bm ev lc;generalize Q:e.fV (f3 e own Wk) Wa ⟨aN,z,V8,b_,VU⟩=o at li lm ln ls g2;have bv:o.prog=e.prog:=by rw[<-Q];rfl
 have ca:o.w=e.w:=by rw[<-Q];rfl
 have lv:o.K=e.K:=by rw[<-Q];rfl
 have cl:o.A=e.A:=by rw[<-Q];rfl
 have lw:o.calm=ab:=by rw[<-Q];exact ol
 have cd:o.env.locals=aN:=by rw[<-Q];rfl
 have g3:o.ex=b_:=by rw[<-Q];rfl
 have fd:o.e7=z:=by rw[<-Q];rfl
 have pr:o.m5=V8:=by rw[<-Q];rfl
 have pt:o.Y=ig e.stack:=by rw[<-Q];rfl
 have fn:o.k6=[]:=by rw[<-Q];rfl
 have hd:o.cJ=λ_ U=>False:=by rw[<-Q];rfl
 have mb:o.env=uU Wa (VU++k3 e.env Wa.names) aN e.env:=by rw[<-Q];rfl
 have mo:∀b f,o.env.cells.lookup b=Z f->aN+1<=f\/e.env.cells.lookup b=Z f:=λb f c=>by
  rw[mb]at c;rcases V2.two am.ok c with k|⟨_,k⟩
  ·exact .inl (bm.i_ b f k).1
  ·exact .inr k
 have pu:∀b f,o.env.cells.lookup b=Z f->f≠w:=λb f c k=>by
  rcases mo b f c with i|i
  ·rw[k,<-ap]at i;exact absurd (dN (H2 bs) i) (Nat.not_succ_le_self _)
  ·have:=am.Ae i;rw[k,<-ap]at this;exact iF _ this
 have nF:∀d∈b_,d≠w:=λd ag k=>by
  have:=ci d ag;rw[k,<-ap]at this;exact iF _ this
 have py:w∉o.Y:=λk=>by
  let@⟨_,⟨@n,ce,_⟩⟩:=g2.iQ.mem k;rw[fd]at ce;have:=b9 ce;rw[ap]at this;exact iF _ this
 have he:∀(F:aA) (n:ba),(∀d∈b_,F d=X)->∀d∈b_,hC o [(w,n)] F d:=λF n hf d ag=>by
  refine⟨hf d ag,?_,?_,.inl (by rw[g3];exact ag),λb f c=>(mo b f c).elim (λi=>lT (eV (ci d ag) (dN ev (by rw[ap]at ev;exact i)))) λi=>(a2 d ag).2.2.2.2.1 b f i,λq D=>?_⟩
  ·rw[cd];exact dE (eV (ci d ag) bs)
  ·exact g2.pY d (by rw[g3];exact ag)
  ·rw[fn]at D;have:q=(w,n):=by simpa using D
   rw[this];exact dY (nF d ag)
 have ms:∀hm:aw,hm={z with heap:=gl,toks:=z.toks+([]:List (aF×ah)).length}->
   codeAny (aT e.prog e.w) e.A (.compLoop (.ListComp W8 [⟨Wl,WR,W4,0⟩] Wa V3) 0 (.ref aO) (.ref w) o.env)
    (compPost (aT e.prog e.w) e.A e.cJ use f8 (.ref w) aN) hm:=by
  rintro hm rfl;refine QJ (λv VY=>∃(j:Nat) (V5:List af) (F:aA) (VZ:List ah) (s:Nat),aI o [(w,{cls:=.type "list",data:=.seq VZ.toArray s})] (ke own Wk y) F VY/\bZ V5 VZ/\V5.length<=sizeLine/\J j VY.heap/\
   (∀d∈b_,F d=X)/\W j v V5 F) ?_ po ?_
  ·rintro v m0 ⟨j,V5,R,VZ,s,hw,fr,aR,na,nb,rc⟩;rcases turn j v V5 R rc with ⟨stop,re⟩|⟨go,Wm,ne,step⟩
   ·have:=S.done o bv ca lv lw j _ m0 _ R (λ_ U=>False) hw (he R _ nb) na stop;rw[cl]at this;refine bK this λp L T=>?_;let@⟨h0,bd⟩:=T;subst h0;let⟨@M,hf,U⟩:=bd.loc;have rs:L.heap.Ns aN M:=by rw[<-cd];exact hf
    have D:=bd.pin (w,{cls:=.type "list",data:=.seq VZ.toArray s}) (by rw[fn];simp);have ch:R w=X:=D.2.1;have dk:∀d,d≠aN->L.heap.get? d=L.heap.get? d:=λd ag=>rfl;have bi:∀d n,z.heap.get? d=Z n->d≠aN:=λd n a=>dE (eV (b9 a) bs);have sc:∀d n,z.heap.get? d=Z n->d≠w:=λd n a=>by rw[<-ap];exact dE (b9 a)
    have an:fp (ig e.stack) b_ V8 R z.heap L.heap:=by
     have:=bd.base;rw[pt,g3,pr,fd]at this;exact this
    have I:fp (ig e.stack) b_ V8 (upd R w<|.lst V5) z.heap L.heap:=
     ⟨λd n a v ag as=>(dk d<|bi d n a).trans<|an.keep d n a v ag as,
      λd n a v ag as=>by
      let⟨@aS,u⟩:=an.slot d n a v ag as;exact⟨aS,(dk d<|bi d n a).trans u⟩,
      λd n a v as=>by rw[cP (sc d n a)];exact an.free d n a v as,
      λd n x a H as=>(dk d<|bi d n a).trans<|an.kd d n x a H as,
      λd n a as=>by
      let⟨@WN,u⟩:=an.there d n a as;exact⟨WN,(dk d<|bi d n a).trans u⟩,
      λd x a=>by rw[cP (hy (an.jD d x a) ch)];exact an.jD d x a,
      λd n x a=>by rw[cP (hy (an.j7 d n x a) ch)];exact an.j7 d n x a,
      λd VV a=>by
      let⟨@sn,u⟩:=an.lN d VV a;exact⟨sn,by rw[cP (hy u ch)];exact u⟩⟩
    have nl:∀d n,R d=Z n->d≠aN:=λd n a k=>by
     have:=bd.free;rw[cd,<-k,a]at this;cases this
    have sp:eh e.prog e.w (upd R w<|.lst V5) L.heap:=λh n a=>by
     by_cases av:h=w
     ·subst av;rw[eu]at a;cases a;exact⟨aR,VZ,s,fr,(dk _ bn).trans D.1⟩
     ·rw[cP av]at a;have:=bd.aV h n a;rw[bv,ca]at this;refine this.gb (λd I ag u=>(dk d ?_).trans u) (λd u=>by rw[cP (hy u ch)];exact u) λd x u=>by rw[cP (hy u ch)];exact u
      rcases ag with k|k
      ·rw[k];exact nl h n a
      ·exact nl d _ k
    have ss:aI e G y (upd R w<|.lst V5) L:=am.S0 (VY:=L) (WZ:=b_) (by have:=bd.os;rw[fd]at this;exact this) I sp bd.bare λd ag=>⟨(a2 d ag).2.2.2.1,(a2 d ag).2.1,(a2 d ag).2.2.2.2.1,(a2 d ag).2.2.2.2.2⟩;have sw:e.env.locals≠aN:=by
     let⟨@wf,sB,U⟩:=am.loc;let⟨n,U,@U,ce,U⟩:=sB;exact bi _ _ ce
    have sK:∀b f,e.env.cells.lookup b=Z f->f≠aN:=λb f c=>by
     let⟨r,@n,ce,U⟩:=am.cell b f c;exact bi _ _ ce
    refine pi w aN _ L M ss rs ?_ sw sK ?_ (λq D=>bi _ _ (am.pin q D).1) (re w ch)
    ·rw[cP (dY bn)];have:=bd.free
     rwa [cd]at this
    ·exact dN am.dj bs
   ·have:=S.item o bv ca lv lw j _ m0 _ R (λ_ U=>False) hw (he R _ nb) na go;rw[cl]at this;refine bK this λp L T=>?_;let⟨@I,h0,s0⟩:=T;subst h0;refine bK s0 λ_ co T=>?_;let⟨b,@ii,s1,s2,s3,im,s4⟩:=T;have s5:=s1.pinned (he ii _ s4) (S.obj _ _ im);have nm:=lm _ co _ ii b I _ s5 s2 (step b ii s3);rw[bv,ca,cl,hd]at nm;refine bK nm λ_ to T=>?_;let⟨cr,@tt,ty,tz,t0⟩:=T;have nn:=ln _ to cr tt _ ty t0;rw[bv,ca,cl,hd]at nn;refine bK nn λd t1 T=>?_;let⟨@no,f0,f1⟩:=T;have np:∀{ns:a3}{F:aA}{VY:aw},aI o ([(w,{cls:=.type "list",data:=.seq VZ.toArray s})]++m8 b_ co.heap) ns F VY->(∀d∈b_,F d=X)/\J (j+1) VY.heap:=λ{ns F VY} cs=>by
     refine⟨λd ag=>?_,S.keep _ _ _ im λd ag n a=>(cs.pin (d,n)<|er _<|er _<|uW ag a).1⟩;let⟨@n,a,U⟩:=S.obj _ _ im d ag;exact (cs.pin (d,n)<|er _<|er _<|uW ag a).2.1
    have nw:∀{io:List (au×ba)}{F:aA}{VY:aw},aI o io cr F VY->aI o io (ke own Wk y) F VY:=λ{io F VY} cs=>
     cs.weak (by rw[cs.len,hw.len]) tz;cases d with
    |false=>
     rw[if_neg dw]at f1;let⟨@it,jp,t3⟩:=ne _ _ f1;rw[if_neg dw];let@⟨Wo,Wq⟩:=np f0;exact⟨it,jp,j+1,V5,no,VZ,s,nw (f0.p4 λq D=>f0.pin q (by
      rw[fn];simp at D ⊢;exact .inl D)),fr,aR,Wq,Wo,t3⟩
    |true=>
     rw[aH rfl]at f1 ⊢;have of:=ls _ t1 cr no _ f0 f1;rw[bv,ca,cl,hd]at of;refine bK of λal be T=>?_;let⟨ul,@kt,f2,un,wl,up⟩:=T;let⟨@it,jp,us⟩:=ne _ _ up;have D:=f2.pin (w,{cls:=.type "list",data:=.seq VZ.toArray s}) (er _ (eb _ ↥0));have kv:=D.1;refine m_ Hv ⟨_,kv,rfl⟩ BF (BQ _ _) (Jf w VZ.toArray s al (by rw[cK,<-fr.length];lia)) ⟨kv,?_⟩;have u:=HA kv (λh=>h.push al);let@⟨Wo,Wq⟩:=np f2;have ut:aI o (m8 b_ co.heap) cr kt be:=f2.p4 λq D=>f2.pin q (er _<|er _ D);have dQ:∀d n,d≠w->be.heap.get? d=Z n->(be.heap.update w<|ba.mapSeq λh=>h.push al).get? d=Z n:=λd n ag a=>(iC be.heap _<|dY ag).trans a;have u8:aI o (m8 b_ co.heap) cr kt {be with heap:=be.heap.update w (ba.mapSeq λh=>h.push al),toks:=be.toks}:=
      ut.turned (aO:=w) dQ D.2.1 (by rw[cd];exact bn) (.inr (by rw[fd,ap];exact bB _)) pu λq f4=>by
       rw[fn]at f4;let@⟨ag,_⟩:=A9 (show q∈m8 b_ co.heap by simpa using f4);exact nF _ ag
     refine⟨it,jp,j+1,V5++[ul],kt,VZ++[al],s+1,nw<|u8.p4 λq f4=>?_,fr.append<|.cons un .nil,?_,?_,Wo,us⟩
     ·have a:q=(w,{cls:=.type "list",data:=.seq (VZ++[al]).toArray (s+1)}):=by simpa using f4
      subst a;refine⟨?_,D.2.1,D.2.2.1,D.2.2.2.1,λr k=>by cases k⟩;have v0:VZ.toArray.push al=(VZ++[al]).toArray:=by simp
      rw[<-v0];have dK:IsL (be.heap.update w<|ba.mapSeq λh=>h.push al) w (VZ.toArray.push al) (if (VZ.toArray.push al).size==VZ.toArray.size then s else s+1):=u;rw[if_neg ↥0]at dK;exact dK
     ·rw[cZ,fP];lia
     ·refine S.keep _ _ _ Wq λd ag n a=>dQ d n (nF d ag) a
  ·refine⟨0,[],V8,[],0,?_,.nil,fW _,S.keep _ _ _ ge λd U n a=>g1 d n a,λd ag=>(a2 d ag).1,pp⟩;refine (li _).p4 λq D=>?_;have a:q=(w,{cls:=.type "list",data:=.seq ([]:List ah).toArray 0}):=by simpa using D
   subst a;exact⟨lf,am.aV.fresh (by rw[ap];exact bB _),by rw[cd];exact bn,py,λr k=>by cases k⟩
 have v1:uU Wa (VU++k3 e.env Wa.names) aN e.env=o.env:=mb.symm;show codeAny (aT e.prog e.w) e.A (.compStart _ 0 (.ref aO) (.ref w)<|uU Wa (VU++k3 e.env Wa.names) aN e.env) _ _;rw[v1];exact codeAny_compStart_list (ms _ rfl) (S.self e.A 0 _ _ _ (S.keep _ _ _ ge λd U n a=>g1 d n a)<|ms _ rfl)
def RF(j:e.calm=ab)(V2:hV e Wa own Wk)(VW:kf e Wl WR fl)(l:∀h,jx (e.fV (f3 e own Wk) Wa h) Wl<|N h)(o:∀h,q2 (e.fV (f3 e own Wk) Wa h) W4<|P h)(p:∀h,bj (e.fV (f3 e own Wk) Wa h) W8<|WX h)(r:∀b,mZ WR e.env b=pure b:=by intro Y;rfl):bj e (.ListComp W8 [⟨Wl,WR,W4,0⟩] Wa V3) (u4 own Wk fl N P WX):=by
 intro G m y g D B c;show wpAny _ e.A (vX (.ListComp W8 [⟨Wl,WR,W4,0⟩] Wa V3) Wa e.env _ (qR []) az (bM WR e.env) X) _ _ m;refine D5 (use:=X) (f8:=eB e G y D) j V2 VW l o p r B c λw aN s i M t v z J f k q u=>?_;show ∃M,i.heap.Ns aN M/\∀ar,a4.SameBut aN i.heap ar->eB e G y D (.ref w) {i with heap:=ar};refine⟨M,v,λar x=>⟨.ref w,s,?_,rfl,u⟩⟩;exact t.turned (aO:=aN) (Wr:=i.toks) (λd n ag a=>(x.2 d ag).trans a) z (dY J) (.inr k) f q
end
def hG(c:a4)(o:au)(T:List ah)(WI:Nat):Prop:=(∃n Q,c.get? o=Z n/\n.ExactDict/\n.data=.dict Q WI/\Q.toList.map (·.key)=T)
def hG.ty(b:hG m.heap o T WI):m.TypeIs (.ref o) "dict" := let ⟨n,_,a,f,_⟩:=b;⟨n,a,f.1⟩
def hG.lt{c:a4}(b:hG c o T WI):o<c.objs.size:=let ⟨_,_,a,_⟩:=b;b9 a
def hG.go{c ar:a4}(b:hG c o T WI)(s:∀n,c.get? o=Z n->ar.get? o=Z n):hG ar o T WI:=let ⟨n,Q,a,p⟩:=b;⟨n,Q,s n a,p⟩
section
variable{VX:bu}{C:bf}{O:bz}{VP:ah->aw->Prop}{m:aw}
def Er{D:ah->aw->Prop}(VS:(o==iG)=az)(b:hG m.heap o T WI)(u:D (.ref m.heap.objs.size) {m with heap:=m.heap.push {cls:=.type "dict_keyiterator",data:=.fields #[.ref o,.int 0 0,.int T.length 0,.int WI 0]} }):wpAny (aT VX C) O (ts<|.ref o) D VP m:=by
 have ty:=b.ty;let⟨n,@Q,a,e,c,d⟩:=b;have v:Q.size=T.length:=by rw[<-d,br,ha]
 refine wpAny_pyIter_slot ty FC (jm FC ty F.entry_dict_iter ?k<|F.args_dict_iter_1 _)
 case k=>
  unfold bo.«dict.__iter__» bo.Dict.dictSlotNone;refine aC (aC<|Dk ty ?_);show wpAny _ _ (pure<|ah.ref o) _ _ m;apply a5;show wpAny _ _ (bo.Dict.showsAll o >>= _) _ _ m;unfold bo.Dict.showsAll;rw[if_neg (by rw[VS];simp)];refine aC (a5<|aC<|tu a c<|aC<|zB a c<|aC<|hE<|a5 ⟨_,rfl,"dict_keyiterator",_,⟨_,dx _ rfl,rfl⟩,rl.lookup,?_⟩);simpa [j9,v] using u
def F8{aO o:au}{r:ah}(a:m.heap.IsKeyIter aO o j T.length WI)(b:hG m.heap o T WI)(d:T[j]?=Z r)(u:∀ar,ar.IsKeyIter aO o (j+1) T.length WI->a4.SameBut aO m.heap ar->D (Z r) {m with heap:=ar}):wpAny (aT VX C) O (gP<|.ref aO) D VP m:=by
 let⟨@p,e,l,c⟩:=id a;let⟨n,@Q,f,q,g,h⟩:=b;have v:Q.size=T.length:=by rw[<-h,br,ha]
 have VW:j<Q.size:=by
  have:j<T.length:=(fM.mp d).1;lia
 have Xc:Q[j].key=r:=by
  rw[<-h,gC,hX,HB VW]at d;exact Option.some.inj d
 unfold gP;refine aC (rD<|ll (name:=aF.ofString "__next__") a.typeIs rl<|jm rl a.typeIs Cn ?k<|II _)
 case k=>
  refine aC (a5<|aC<|aC ?_);refine aC (t_ a.typeIs<|a5<|aC<|Bs e c ?_);simp only[show bo.Dict_items.ownsTuple "dict_keyiterator" = az by decide,jT,fO];show wpAny _ _ (if (ah.ref o==ah.none)=ab then _ else _) _ _ m;rw[if_neg (show ¬ (ah.ref o==ah.none)=ab by intro k;cases k)];refine aC (a5<|aC<|tu f g ?_);rw[if_neg (by simp[v])];refine aC (a5<|aC<|zB f g ?_);rw[if_neg ↥0];apply a5;simp only[show ¬ ((j:Int)<0) by lia,fO,oc,HB VW];refine aC (aC<|t_ a.typeIs<|a5<|aC<|GB a.typeIs ?_);show wpAny _ _ (setField (.ref aO) 1 (j9<|(j:Int)+1) >>= _) _ _ m;have i:(m.heap.update aO (ba.mapFields (·.setIfInBounds 1 (j9<|(j:Int)+1)))).IsKeyIter aO o (j+1) T.length WI:=
   ⟨_,oA _ e<|Ho<|vM c _,(Bl ..).trans l,by rw[vM c];simp[j9]⟩;refine aC (tT e c ↥0 (aC (fI (aC (GB (s:={m with heap:=m.heap.update aO (ba.mapFields (·.setIfInBounds 1 (j9<|(j:Int)+1)))}) i.typeIs ?_)))));show wpAny _ _ (pure Q[j].key) _ _ _;rw[Xc];exact a5 (a5 ⟨_,rfl,a5<|u _ i<|uf ..⟩)
def EH{aO o:au}(i:O.handled=X)(a:m.heap.IsKeyIter aO o j T.length WI)(b:hG m.heap o T WI)(p:T.length<=j)(u:∀ar,a4.ExtBut aO m.heap ar->D X {m with heap:=ar}):wpAny (aT VX C) O (gP<|.ref aO) D VP m:=by
 let⟨@q,c,r,e⟩:=id a;let⟨n,@Q,f,s,g,l⟩:=b;have v:Q.size=T.length:=by rw[<-l,br,ha]
 unfold gP;refine aC (rD<|ll (name:=aF.ofString "__next__") a.typeIs rl<|jm rl a.typeIs Cn ?k<|II _)
 case k=>
  refine aC (a5<|aC<|aC ?_);refine aC (t_ a.typeIs<|a5<|aC<|Bs c e ?_);simp only[show bo.Dict_items.ownsTuple "dict_keyiterator" = az by decide,jT,fO];show wpAny _ _ (if (ah.ref o==ah.none)=ab then _ else _) _ _ m;rw[if_neg (show ¬ (ah.ref o==ah.none)=ab by intro k;cases k)];refine aC (a5<|aC<|tu f g ?_);rw[if_neg (by simp[v])];refine aC (a5<|aC<|zB f g ?_);rw[if_neg ↥0];apply a5;simp only[show ¬ ((j:Int)<0) by lia,fO,oc,Array.getElem?_eq_none (show Q.size<=j by lia)];refine aC (aC<|t_ a.typeIs<|a5 ?_);show wpAny _ _ (setField (.ref aO) 0 .none >>= _) _ _ m;refine aC (tT c e ↥0 ?_);show wpAny _ _ (ub (.type "StopIteration") [] >>= _) _ _ _;apply aC;simp only[ub,zC];refine aC (hE (aC (m:=tI _ _) (rZ (a:=ah.none) (by first|rfl|(simp only[tI];rfl)) (hE ?_ (by size_fits)))) (by size_fits));simp only[raiseNew];apply aC;apply Gr;rw[show O.in1.handled=X from i];refine aC (m:=pure _) (a5<|wpAny_throw ?_);apply aC;refine vT (T := "StopIteration") (b:=ab) ⟨_,dx _ rfl,rfl⟩ DD ?_;exact a5 (u _<|((uf ..).extBut.push _).push _)
theorem To(i:O.handled=X)(aO o:au)(ne:o≠aO)(T:List ah)(WI:Nat):ka VX C O aO [aO,o] [aO] T.length (λj r=>T[j]?=Z r) (λj c=>c.IsKeyIter aO o j T.length WI/\hG c o T WI) where
 sub:=λd ag=>by
  have:d=aO:=by simpa using ag
  simp[this]
 frame:=λj c ar R s=>⟨let ⟨n,a,p⟩:=R.1;⟨n,s aO ↥0 n a,p⟩,R.2.go (s o ↥0)⟩
 item:=λj m D VP VW R b=>by
  have g:T[j]?=Z T[j]:=by simp[VW]
  refine F8 R.1 R.2 g λar h d=>b _ ar m.toks g ⟨h,R.2.go λn a=>d.extBut o n ne a⟩ λf n e a=>d.extBut f n ⇑e a
 done:=λm D VP R b=>EH i R.1 R.2 (bB _) λar d=>b ar m.toks λf n e a=>d f n ⇑e a
 self:=λj m D VP R b=>Jj R.1 b
theorem Mf(VS:(o==iG)=az):PySem.W.KdlSrc VX C "dict" o o T.length (λj r=>T[j]?=Z r) (λc=>hG c o T WI) where
 type:=λm b=>b.ty
 there:=λc b=>⟨b.lt,b.lt⟩
 keep:=λc ar b s=>b.go (s o<|.inl rfl)
 notList:=by decide
 notTuple:=by decide
 hint:=λO VP m D b u=>PySem.W.kdl_hint_dict b.ty u
 iter:=λO m d b=>⟨_,_,(λVP D u=>Er VS b u),To d _ o (dE b.lt) T WI,⟨⟨_,dx _ rfl,rfl,rfl⟩,b.go λn a=>cu _ a⟩⟩
end
end L2
namespace L2
open Spec PyProof.Rows PySem.W
section
variable{v:Nat}{V_:Nat->Int}{b:Nat->Nat->(Bool->aw->Prop)->aw->Prop}
def bt(V_:Nat->Int)(q:Array Nat)(j:Nat):Int:=(V_ (q.getD j 0))
def mv(V_:Nat->Int)(q:Array Nat)(M:Nat):Prop:=(∀j A,j<=A->A<M->bt V_ q j<=bt V_ q A)
def j2(v:Nat)(V_:Nat->Int)(b:Nat->Nat->(Bool->aw->Prop)->aw->Prop)(m:aw):Prop:=(∀j A aN,j<v->A<v->aN (decide (V_ j<V_ A)) m->b j A aN m)
def dZ(v:Nat)(q:Array Nat):Prop:=(q.toList.Perm (range v))
variable{q:Array Nat}
def dZ.size(c:dZ v q):q.size=v:=by
 have:=c.length_eq;simpa using this
def dZ.lt(c:dZ v q){j:Nat}(VW:j<v):q.getD j 0<v:=by
 have b:=c.size;have a:q.getD j 0=q[j]:=by simp[Array.getD,b,VW]
 rw[a];have:q[j]∈q.toList:=by simp
 exact j4.mp (c.mem_iff.mp this)
def dZ.ne(c:dZ v q)(inj:∀j A,j<v->A<v->V_ j=V_ A->j=A){j A:Nat}(i:j<A)(d:A<v):bt V_ q j≠bt V_ q A:=by
 intro a;have b:=c.size;have e:=inj _ _ (c.lt (by omega)) (c.lt d) a;have f:q.getD j 0=q[j]:=by simp[Array.getD,b,show j<v by omega]
 have g:q.getD A 0=q[A]:=by simp[Array.getD,b,d]
 rw[f,g]at e;have ae:q.toList.Nodup:=c.nodup_iff.mpr List.nodup_range;have h:q.toList[j]'(by simpa [b] using (show j<v by omega))=q.toList[A]'(by simpa [b] using d):=by simpa using e
 have:=(BG ae).mp h;omega
def pJ{u:Array Nat}{j A:Nat}(a:q[j]?=u[A]?):bt V_ q j=bt V_ u A:=by
 unfold bt;rw[Jn,Jn,a]
theorem dZ.rev(c:dZ v q)(j A:Nat):dZ v (me q j A):=(CM.mp<|mirror_perm q j A _).trans c
theorem dZ.Og(c:dZ v q)(j A:Nat):dZ v (rh q j A):=(CM.mp<|bubble_perm q j A).trans c
end
section
variable{VX:bu}{C:bf}{O:bz}{VP:ah->aw->Prop}{Wh:gG}{aO:Array iK}{V_:Nat->Int}{v:Nat}{m:aw}
def Rq(a:j2 v V_ (iA VX C O Wh aO) m){j A:Nat}(VW:j<v)(b:A<v){R:e1}(d:kindOf R=Wh){D:Option Bool->e1->aw->Prop}(c:D (Z<|decide (V_ j<V_ A)) R m):
  kasC (aT VX C) O VP (lt' (jA aO j)<|jA aO A) D R m:=by
 rw[lt'_eq];apply d5;apply oD;have:=a j A (λf VY=>VY=m/\f=decide (V_ j<V_ A)) VW b ⟨rfl,rfl⟩;unfold iA at this;rw[d];refine d5 (xu<|rD<|hg this (λf VY e=>?_) λ_ Y g=>g.elim);let@⟨rfl,rfl⟩:=e;exact fb c
def rS{y V7:Type}{aD:mr}{M:StateT y fK V7}{D d:V7->y->aw->Prop}{R:y}{VY:aw}(c:kasC aD O VP M d R VY)(N:∀h R VY,d h R VY->D h R VY):kasC aD O VP M D R VY:=
 hg c (λp VY b=>N p.1 p.2 VY b) λ_ Y a=>a
end
section
variable{VX:bu}{C:bf}{O:bz}{VP:ah->aw->Prop}{Wh:gG}{aO:Array iK}{V_:Nat->Int}{v:Nat}{m:aw}{n:Array (Nat×Nat×Nat)}
structure gv(Wh:gG)(aO:Array iK)(n:Array (Nat×Nat×Nat))(R:e1)(p:Array Nat):Prop where
 k:PyProof.Rows.kindOf R=Wh
 a:lP R=p.map (jA aO)
 p:mT R=n
 f:o7 R=X
def qp(f:j2 v V_ (iA VX C O Wh aO) m){q:Array Nat}(b:dZ v q){j A:Nat}(VW:j<v)(d:A<v){R:e1}(g:gv Wh aO n R q){D:Option Bool->e1->aw->Prop}(c:D (Z<|decide (bt V_ q j<bt V_ q A)) R m):
  kasC (aT VX C) O VP (nX j A) D R m:=by
 have e:∀j,j<v->(q.map<|jA aO)[j]?=Z (jA aO<|q.getD j 0):=λj VW=>by
  have:j<q.size:=by rw[b.size];exact VW
  simp[Array.getD,this]
 rw[ltAt'_eq];refine d5 (oD ?_);rw[g.a];dsimp only;rw[elem'_eq,elem'_eq,e j VW,e A d];refine d5 (fb ?_);refine d5 (fb ?_);exact Rq f (b.lt VW) (b.lt d) g.k c
variable{q:Array Nat}{R:e1}
def tx(g:gv Wh aO n R q){j A:Nat}{D:Unit->e1->aw->Prop}(c:∀b,gv Wh aO n b (me q j A)->D () b m):kasC (aT VX C) O VP (rv j A) D R m:=by
 rw[reverseSlice'_eq];refine tQ (c _ ⟨g.k,?_,g.p,g.f⟩);show mirror (lP R) j A ((A-j)/2)=_;rw[g.a];exact HH (jA aO) (λs=>j+s) (λs=>A-1-s) _ q
def Oe(g:gv Wh aO n R q){j A:Nat}{D:Unit->e1->aw->Prop}(c:∀b,gv Wh aO n b (rh q j<|j-A)->D () b m):kasC (aT VX C) O VP (moveDown' j A) D R m:=by
 rw[moveDown'_eq];refine tQ (c _ ⟨g.k,?_,g.p,g.f⟩);show rh (lP R) j (j-A)=_;rw[g.a];exact HH (jA aO) (λs=>j-s) (λs=>j-s-1) _ q
theorem q3{y WQ:Type}{aD:mr}{z:Nat->WQ->StateT y fK (ForInStep WQ)}{D:WQ->y->aw->Prop}(B:Nat->WQ->y->aw->Prop)(Wf:Nat)(step:∀b f R VY,b<Wf->B b f R VY->kasC aD O VP (z b f) (λp e g=>match p with | .yield d=>B (b+1) d e g | .done d=>D d e g) R VY):∀(M h:Nat) (f:WQ) (R:y) (VY:aw),h+M<=Wf->(∀f R VY,B (h+M) f R VY->D f R VY)->B h f R VY->
   kasC aD O VP (forIn (range' h M) f z) D R VY
 |0,h,f,R,VY,i,fin,c=>by
  show kasC aD O VP (forIn ([]:List Nat) f z) D R VY;exact kasC_nil (fin f R VY c)
 |M+1,h,f,R,VY,i,fin,c=>by
  show kasC aD O VP (forIn (h::range' (h+1) M) f z) D R VY;refine pT (hg (step h f R VY ⋯ c) (λp g ar=>?_) λ_ Y a=>a);let⟨p,e⟩:=p;cases p with
  |done d=>exact ar
  |yield d=>exact q3 B Wf step M (h+1) d e g ⋯ (λf R VY VW=>fin f R VY (by rw[show h+(M+1)=h+1+M by lia];exact VW)) ar
end
section
variable{VX:bu}{C:bf}{O:bz}{VP:ah->aw->Prop}{Wh:gG}{aO:Array iK}{V_:Nat->Int}{v:Nat}{m:aw}{n:Array (Nat×Nat×Nat)}
def pd(V_:Nat->Int)(q:Array Nat)(VS M:Nat):Prop:=(∀j A,VS<=j->j<=A->A<VS+M->bt V_ q j<=bt V_ q A)
def Gm{q:Array Nat}{VS M:Nat}(c:∀A,VS+1<=A->A<VS+M->bt V_ q (A-1)<=bt V_ q A):pd V_ q VS M:=by
 intro j A VW a b;obtain⟨o,rfl⟩:∃o,A=j+o:=⟨A-j,⋯⟩;clear a;induction o with
 |zero=>exact g_ _
 |succ o e=>
  have h:=e ⋯;have d:=c (j+(o+1)) ⋯ b;rw[show j+(o+1)-1=j+o by lia]at d;lia
def O7(T:j2 v V_ (iA VX C O Wh aO) m){q:Array Nat}(U:dZ v q){VS M k:Nat}(aR:VS+M<=v)(l:1<=k)(bd:k<=M)(o:pd V_ q VS k){R:e1}(g:gv Wh aO n R q){D:Bool->e1->aw->Prop}(c:∀c_ e,dZ v c_->gv Wh aO n e c_->(∀j,j<VS->c_[j]?=q[j]?)->pd V_ c_ VS M->D ab e m):
  kasC (aT VX C) O VP (binarySort' VS M k) D R m:=by
 rw[binarySort'_eq];rw[show max k 1=k by lia];with_unfolding_all refine d5 (rS (d:=λf e VY=>m=VY/\f=(X,())/\∃u,dZ v u/\gv Wh aO n e u/\(∀j,j<VS->u[j]?=q[j]?)/\pd V_ u VS M)
  (oI (q3 (λb f e VY=>m=VY/\f=(X,())/\1<=b/\∃u,dZ v u/\gv Wh aO n e u/\(∀j,j<VS->u[j]?=q[j]?)/\pd V_ u VS b) M ?step _ _ _ _ _ ⋯ ?fin ⟨rfl,rfl,l,q,U,g,λ_ Y=>rfl,o⟩)) ?after)
 case after=>
  rintro f e VY ⟨rfl,rfl,u,y,z,B,w⟩;exact fb (c u _ y z B w)
 case fin=>
  rintro f e VY ⟨rfl,rfl,be,u,y,z,B,w⟩;rw[show k+(M-k)=M by lia]at w;exact⟨rfl,rfl,u,y,z,B,w⟩
 case step=>
  rintro s f e VY bi ⟨rfl,rfl,Wo,u,E,F,am,o⟩;dsimp only;have an:∀j,VS<=j->j<VS+0->bt V_ u j<=bt V_ u (VS+s):=λj h d=>⋯
  have ap:∀j,VS+s<=j->j<VS+s->bt V_ u (VS+s)<=bt V_ u j:=λj h d=>⋯
  refine d5 (rS (d:=λf r VY=>m=VY/\e=r/\∃J p,f=(X,J,p)/\J<=s/\(∀j,VS<=j->j<VS+J->bt V_ u j<=bt V_ u (VS+s))/\(∀j,VS+J<=j->j<VS+s->bt V_ u (VS+s)<=bt V_ u j))
   (oI (q3 (λb f r VY=>m=VY/\e=r/\∃J p,f=(X,J,p)/\J<=p/\p<=s/\p-J<=s-b/\(∀j,VS<=j->j<VS+J->bt V_ u j<=bt V_ u (VS+s))/\(∀j,VS+p<=j->j<VS+s->bt V_ u (VS+s)<=bt V_ u j)) s ?s2 _ _ _ _ _ ⋯ ?f2 ⟨rfl,rfl,0,s,rfl,⋯,⋯,⋯,an,ap⟩)) ?a2)
  case f2=>
   rintro f r VY ⟨rfl,rfl,J,p,rfl,dJ,dr,jN,lz,t⟩;exact⟨rfl,rfl,J,p,rfl,⋯,lz,λj b i=>t j ⋯ i⟩
  case s2=>
   rintro b f r VY bm ⟨rfl,rfl,J,p,rfl,dJ,dr,jN,lz,t⟩;dsimp only;by_cases a:J >= p
   ·rw[aH a];exact fb ⟨rfl,rfl,J,p,rfl,⋯,lz,λj b i=>t j ⋯ i⟩
   rw[if_neg a];have G:J<=(J+p)/2:=⋯
   have as:(J+p)/2<p:=⋯
   have H:(J+p)/2-J<=s-(b+1):=⋯
   have I:p-((J+p)/2+1)<=s-(b+1):=⋯
   generalize (J+p)/2=mid at G as H I ⊢;refine d5 (qp T E ⋯ ⋯ F ?_);dsimp only;by_cases L:bt V_ u (VS+s)<bt V_ u (VS+mid)
   ·rw[aH ⇑L];refine fb ⟨rfl,rfl,J,mid,rfl,G,⋯,H,lz,λj b i=>?_⟩;have:=o (VS+mid) j ⋯ b i;lia
   ·rw[if_neg ⇑L];refine fb ⟨rfl,rfl,mid+1,p,rfl,⋯,dr,I,λj b i=>?_,t⟩;have:=o j (VS+mid) b ⋯ ⋯;lia
  case a2=>
   rintro f r VY ⟨rfl,rfl,J,p,rfl,dJ,lz,t⟩;dsimp only;refine d5 (Oe F ?_);intro bn a1;have N:∀j,(rh u (VS+s)<|VS+s-(VS+J))[j]?=if j=VS+J then u[VS+s]? else if VS+J<j/\j<=VS+s then u[j-1]? else u[j]?:=λj=>by
    have:=getElem?_bubble (xs:=u) (src:=VS+s) (by rw[E.size];lia) (VS+s-(VS+J)) ⋯ j
    rwa [show VS+s-(VS+s-(VS+J))=VS+J by lia]at this
   have a_:∀j,bt V_ (rh u (VS+s)<|VS+s-(VS+J)) j=if j=VS+J then bt V_ u (VS+s) else if VS+J<j/\j<=VS+s then bt V_ u (j-1) else bt V_ u j:=λj=>by
    have N:=N j;by_cases a:j=VS+J
    ·rw[aH a]at N ⊢;exact pJ N
    ·rw[if_neg a]at N ⊢;by_cases P:VS+J<j/\j<=VS+s
     ·rw[aH P]at N ⊢;exact pJ N
     ·rw[if_neg P]at N ⊢;exact pJ N
   refine fb ⟨rfl,rfl,⋯,_,E.Og _ _,a1,λj VW=>by rw[N,if_neg ⋯,if_neg ⋯];exact am j VW,Gm λA b i=>?_⟩;rw[a_,a_];by_cases Q:A-1=VS+J
   ·rw[aH Q,if_neg ⋯,aH ⋯];exact t (A-1) ⋯ ⋯
   ·rw[if_neg Q];by_cases S:A=VS+J
    ·rw[aH S,if_neg ⋯];exact lz (A-1) ⋯ ⋯
    ·rw[if_neg S];by_cases bv:VS+J<A-1
     ·rw[aH ⋯,aH ⋯];exact o _ _ ⋯ ⋯ ⋯
     ·rw[if_neg ⋯,if_neg ⋯];exact o _ _ ⋯ ⋯ ⋯
variable{u:Array Nat}
def ux(a:dZ v u){j A:Nat}(b:A<=v)(s:Nat):(me u j A)[s]?=if j<=s/\s<A then u[j+A-1-s]? else u[s]?:=by
 unfold me;rw[getElem?_mirror_all (by rw[a.size];lia)]
def Mg(b:dZ v u){j A:Nat}(d:A<=v)(a:∀s,j<=s->s<A->bt V_ u s=bt V_ u j)(s:Nat):bt V_ (me u j A) s=bt V_ u s:=by
 by_cases c:j<=s/\s<A
 ·rw[pJ (show (me u j A)[s]?=u[j+A-1-s]? by rw[ux b d,aH c]),a _ ⋯ ⋯,a s c.1 c.2]
 ·exact pJ (by rw[ux b d,if_neg c])
structure mU(V_:Nat->Int)(v VS:Nat)(q u:Array Nat):Prop where
 mD:dZ v u
 be:∀j,j<VS->u[j]?=q[j]?
 a_:∀s,bt V_ u s=bt V_ q s
def mU.rev{VS:Nat}{q:Array Nat}(V1:mU V_ v VS q u){j A:Nat}(VW:VS<=j)(b:A<=v)(a:∀s,j<=s->s<A->bt V_ q s=bt V_ q j):mU V_ v VS q (me u j A):=
 ⟨V1.mD.rev j A,λs c=>by rw[ux V1.mD b,if_neg ⋯];exact V1.be s c,λs=>by
  rw[Mg V1.mD b (λs h d=>by rw[V1.a_,V1.a_];exact a s h d)];exact V1.a_ s⟩
theorem Jk{z:Nat->Int}{h d:Nat}(c:∀A,h+1<=A->A<d->z A=z (A-1)):∀o,h+o<d->z (h+o)=z h
 |0,_=>rfl
 |o+1,hd=>(c (h+(o+1)) ⋯ hd).trans (Jk c o ⋯)
def Bp(k:j2 v V_ (iA VX C O Wh aO) m){VS c:Nat}(aR:VS+c<=v){u:Array Nat}{g:e1}{h:Nat}(l:dZ v u)(VT:gv Wh aO n g u)(s:1<=h)(t:h<=c)(o:∀A,VS+1<=A->A<VS+h->bt V_ u (A-1)<=bt V_ u A):
   kasC (aT VX C) O VP (forIn [h:c] ((X:Option (Option Nat)),h) λb f=>nX (VS+f.2) (VS+f.2-1) >>= λp=>match p with
    |some q=>if q=ab then pure (ForInStep.done (X,f.2)) else pure (ForInStep.yield (X,f.2+1))
    |b=>pure<|ForInStep.done (Z X,f.2))
    (λf d VY=>m=VY/\g=d/\∃M,f=(X,M)/\h<=M/\M<=c/\(∀A,VS+1<=A->A<VS+M->bt V_ u (A-1)<=bt V_ u A)/\(M=c\/bt V_ u (VS+M)<bt V_ u (VS+M-1))) g m:=by
 refine oI (q3 (λb f d VY=>m=VY/\g=d/\f=(X,b)/\h<=b/\∀A,VS+1<=A->A<VS+b->bt V_ u (A-1)<=bt V_ u A) c ?_ _ _ _ _ _ ⋯ ?_ ⟨rfl,rfl,rfl,bB _,o⟩)
 ·rintro b f d VY w ⟨rfl,rfl,rfl,j,e⟩;dsimp only;refine d5 (qp k l ⋯ ⋯ VT ?_);dsimp only;by_cases i:bt V_ u (VS+b)<bt V_ u (VS+b-1)
  ·rw[aH ⇑i];exact fb ⟨rfl,rfl,b,rfl,j,⋯,e,.inr i⟩
  ·rw[if_neg ⇑i];refine fb ⟨rfl,rfl,rfl,⋯,λA r x=>?_⟩;by_cases a:A=VS+b
   ·subst a;lia
   ·exact e A r ⋯
 ·rintro f d VY ⟨rfl,rfl,rfl,j,e⟩;rw[show h+(c-h)=c by lia]at e ⊢;exact⟨rfl,rfl,c,rfl,⋯,bB _,e,.inl rfl⟩
def sM(VS a M:Nat): StateT e1 fK (Option Nat):=(rv VS (VS+M) >>= λ_ => (forIn [M:a] ((X:Option (Option Nat)),M) λb f => nX (VS+f.2) (VS+f.2-1) >>= λp => match p with
    |some c => if c=ab then pure (ForInStep.done (X,f.2)) else pure (ForInStep.yield (X,f.2+1))
    |b => pure<|ForInStep.done (Z X,f.2)) >>= λf => match f.1 with
    |some p => pure p
    |none => pure (Z f.2))
def Dy(VS b:Nat)(f:Option (Option Nat)×Nat×Nat):StateT e1 fK (ForInStep<|Option (Option Nat)×Nat×Nat):=(nX (VS+f.2.1) (VS+f.2.1-1) >>= λp=>match p with
 |some a=>if a=ab then (if f.2.2>0 then rv (VS+f.2.1-(f.2.2+1)) (VS+f.2.1) >>= λ_=>pure (.yield (X,f.2.1+1,0)) else pure (.yield (X,f.2.1+1,0)))
  else nX (VS+f.2.1-1) (VS+f.2.1) >>= λp=>match p with
   |some c=>if c=ab then pure (.done (X,f.2.1,f.2.2)) else pure (.yield (X,f.2.1+1,f.2.2+1))
   |b=>pure (.done (Z X,f.2.1,f.2.2))
 |b=>pure (.done (Z X,f.2.1,f.2.2)))
def t2(VS a M:Nat):StateT e1 fK (Option Nat):=(liftM (PySem.rule "list.sort.descending-run") >>= λ_=>forIn [M+1:a] ((X:Option (Option Nat)),M+1,0) (Dy VS) >>= λf=>match f.1 with
 |some p=>pure p
 |none=>if f.2.2>0 then rv (VS+f.2.1-(f.2.2+1)) (VS+f.2.1) >>= λ_=>sM VS a f.2.1 else sM VS a f.2.1)
def FW(e:j2 v V_ (iA VX C O Wh aO) m){VS a M:Nat}(aR:VS+a<=v){q u:Array Nat}{R:e1}(V1:mU V_ v VS q u)(g:gv Wh aO n R u)(i:1<=M)(k:M<=a)(l:∀A,VS+1<=A->A<VS+M->bt V_ q A<=bt V_ q (A-1)){D:Option Nat->e1->aw->Prop}(c:∀M c_ b,1<=M->M<=a->dZ v c_->gv Wh aO n b c_->(∀j,j<VS->c_[j]?=q[j]?)->(∀A,VS+1<=A->A<VS+M->bt V_ c_ (A-1)<=bt V_ c_ A)->D (Z M) b m):kasC (aT VX C) O VP (sM VS a M) D R m:=by
 unfold sM;refine d5 (tx g λs V8=>?_);have N:=ux V1.mD (j:=VS) (A:=VS+M) ⋯;have a_:∀j,VS<=j->j<VS+M->bt V_ (me u VS<|VS+M) j=bt V_ q (VS+(VS+M)-1-j):=λj h d=>(pJ (by rw[N,aH ⟨h,d⟩])).trans (V1.a_ _);refine d5 (rS (Bp e aR (V1.mD.rev VS<|VS+M) V8 i k λA t w=>?_) ?_)
 ·rw[a_ _ ⋯ ⋯,a_ _ ⋯ ⋯];have:=l (VS+(VS+M)-1-(A-1)) ⋯ ⋯;rw[show VS+(VS+M)-1-(A-1)-1=VS+(VS+M)-1-A by lia]at this;exact this
 ·rintro f b VY ⟨rfl,rfl,o,rfl,x,p,r,y⟩;dsimp only;exact fb (c o _ _ ⋯ p (V1.mD.rev VS<|VS+M) V8 (λj VW=>by rw[N,if_neg ⋯];exact V1.be j VW) r)
def GQ(w:j2 v V_ (iA VX C O Wh aO) m){VS k M:Nat}(aR:VS+k<=v){q u:Array Nat}{R:e1}(V1:mU V_ v VS q u)(g:gv Wh aO n R u)(P:1<=M)(Q:M<k)(I:∀A,VS+1<=A->A<VS+(M+1)->bt V_ q A<=bt V_ q (A-1)){D:Option Nat->e1->aw->Prop}(c:∀M c_ l,1<=M->M<=k->dZ v c_->gv Wh aO n l c_->(∀j,j<VS->c_[j]?=q[j]?)->(∀A,VS+1<=A->A<VS+M->bt V_ c_ (A-1)<=bt V_ c_ A)->D (Z M) l m):kasC (aT VX C) O VP (t2 VS k M) D R m:=by
 have aX:∀{b o:Nat},o+1<=b->(∀A,VS+b-o<=A->A<VS+b->bt V_ q A=bt V_ q (A-1))->∀s,VS+b-(o+1)<=s->s<VS+b->bt V_ q s=bt V_ q (VS+b-(o+1)):=λ{b o} hd a s h d=>by
  have:=Jk (z:=bt V_ q) (h:=VS+b-(o+1)) (d:=VS+b) (λA b i=>a A ⋯ i) (s-(VS+b-(o+1))) ⋯
  rwa [show VS+b-(o+1)+(s-(VS+b-(o+1)))=s by lia]at this
 unfold t2;refine d5 (xu<|lI ?_);refine d5 (rS (d:=λf l VY=>m=VY/\∃dK b o,f=(X,b,o)/\gv Wh aO n l dK/\mU V_ v VS q dK/\M+1<=b/\b<=k/\o+1<=b/\(∀A,VS+1<=A->A<VS+b->bt V_ q A<=bt V_ q (A-1))/\∀A,VS+b-o<=A->A<VS+b->bt V_ q A=bt V_ q (A-1))
  (oI (q3 (λb f l VY=>m=VY/\∃dK o,f=(X,b,o)/\gv Wh aO n l dK/\mU V_ v VS q dK/\M+1<=b/\o+1<=b/\(∀A,VS+1<=A->A<VS+b->bt V_ q A<=bt V_ q (A-1))/\∀A,VS+b-o<=A->A<VS+b->bt V_ q A=bt V_ q (A-1)) k ?Wz _ _ _ _ _ ⋯ ?WE ⟨rfl,u,0,rfl,g,V1,bB _,⋯,I,λA h d=>⋯⟩)) ?J)
 case Wz=>
  rintro b f l VY T ⟨rfl,dK,o,rfl,F,e,x,t,p,r⟩;unfold Dy;dsimp only;refine d5 (qp w e.mD ⋯ ⋯ F ?_);dsimp only;rw[e.a_,e.a_];by_cases B:bt V_ q (VS+b)<bt V_ q (VS+b-1)
  ·rw[aH ⇑B];have E:∀A,VS+1<=A->A<VS+(b+1)->bt V_ q A<=bt V_ q (A-1):=λA y L=>by
    by_cases a:A=VS+b
    ·subst a;lia
    ·exact p A y ⋯
   by_cases hd:o>0
   ·rw[aH hd];refine d5 (tx F λN V8=>?_);exact fb ⟨rfl,_,0,rfl,V8,e.rev ⋯ ⋯<|aX t r,⋯,⋯,E,λA h d=>⋯⟩
   ·rw[if_neg hd];exact fb ⟨rfl,dK,0,rfl,F,e,⋯,⋯,E,λA h d=>⋯⟩
  ·rw[if_neg ⇑B];refine d5 (qp w e.mD ⋯ ⋯ F ?_);dsimp only;rw[e.a_,e.a_];by_cases G:bt V_ q (VS+b-1)<bt V_ q (VS+b)
   ·rw[aH ⇑G];exact fb ⟨rfl,dK,b,o,rfl,F,e,x,⋯,t,p,r⟩
   ·rw[if_neg ⇑G];refine fb ⟨rfl,dK,o+1,rfl,F,e,⋯,⋯,λA y L=>?_,λA h d=>?_⟩
    ·by_cases a:A=VS+b
     ·subst a;lia
     ·exact p A y ⋯
    ·by_cases a:A=VS+b
     ·subst a;lia
     ·exact r A ⋯ ⋯
 case WE=>
  rintro f l VY ⟨rfl,dK,o,rfl,F,e,x,t,p,r⟩;rw[show M+1+(k-(M+1))=k by lia] at *;exact⟨rfl,dK,k,o,rfl,F,e,x,bB _,t,p,r⟩
 case J=>
  rintro f l VY ⟨rfl,dK,b,o,rfl,F,e,x,H,t,p,r⟩;dsimp only;by_cases hd:o>0
  ·rw[aH hd];refine d5 (tx F λN V8=>?_);exact FW w aR (e.rev ⋯ ⋯<|aX t r) V8 ⋯ H p c
  ·rw[if_neg hd];exact FW w aR e F ⋯ H p c
def Gz(VS a:Nat): StateT e1 fK (Option Nat):=((forIn [1:a] ((X:Option (Option Nat)),1) λb f => nX (VS+f.2) (VS+f.2-1) >>= λp => match p with
    |some c => if c=ab then pure (ForInStep.done (X,f.2)) else pure (ForInStep.yield (X,f.2+1))
    |b => pure<|ForInStep.done (Z X,f.2)) >>= λf => match f.1 with
    |some p => pure p
    |none => if (f.2==a)=ab then pure (Z f.2) else if f.2>1 then nX VS (VS+f.2-1) >>= λp => match p with
      |some d => if d=ab then pure (Z f.2) else rv VS (VS+f.2) >>= λ_ => t2 VS a f.2
      |b => pure X
      else t2 VS a f.2)
def Q9(VS a:Nat):countRun' VS a=Gz VS a:=by
 kernel_rfl
def Kp(i:j2 v V_ (iA VX C O Wh aO) m){q:Array Nat}(b:dZ v q){VS e:Nat}(l:1<=e)(aR:VS+e<=v){R:e1}(g:gv Wh aO n R q){D:Option Nat->e1->aw->Prop}(c:∀M c_ p,1<=M->M<=e->dZ v c_->gv Wh aO n p c_->(∀j,j<VS->c_[j]?=q[j]?)->(∀A,VS+1<=A->A<VS+M->bt V_ c_ (A-1)<=bt V_ c_ A)->D (Z M) p m):
  kasC (aT VX C) O VP (countRun' VS e) D R m:=by
 rw[Q9];unfold Gz;have w:mU V_ v VS q q:=⟨b,λ_ Y=>rfl,λ_=>rfl⟩;refine d5 (rS (Bp i aR b g (bB _) l λA h d=>⋯) ?_);rintro f p VY ⟨rfl,rfl,M,rfl,r,x,k,B⟩;dsimp only;by_cases a:M=e
 ·rw[aH ⇑a];exact fb (c M q _ r x b g (λ_ Y=>rfl) k)
 rw[if_neg ⇑a];have E:bt V_ q (VS+M)<bt V_ q (VS+M-1):=B.resolve_left a;by_cases y:M>1
 ·rw[aH y];refine d5 (qp i b ⋯ ⋯ g ?_);dsimp only;by_cases z:bt V_ q VS<bt V_ q (VS+M-1)
  ·rw[aH ⇑z];exact fb (c M q _ r x b g (λ_ Y=>rfl) k)
  ·rw[if_neg ⇑z];have F:∀o,o<M->bt V_ q VS<=bt V_ q (VS+o)/\bt V_ q (VS+o)<=bt V_ q (VS+M-1):=by
    have G:∀o,o<M->bt V_ q VS<=bt V_ q (VS+o):=λo=>by
     induction o with
     |zero=>intro Y;exact g_ _
     |succ o t=>
      intro hd;have h:=k (VS+(o+1)) ⋯ ⋯;rw[show VS+(o+1)-1=VS+o by lia]at h;have:=t ⋯;lia
    have H:∀o,o<M->bt V_ q (VS+M-1-o)<=bt V_ q (VS+M-1):=λo=>by
     induction o with
     |zero=>intro Y;exact g_ _
     |succ o t=>
      intro hd;have h:=k (VS+M-1-o) ⋯ ⋯;rw[show VS+M-1-o-1=VS+M-1-(o+1) by lia]at h;have:=t ⋯;lia
    intro o hd;refine⟨G o hd,?_⟩;have:=H (M-1-o) ⋯
    rwa [show VS+M-1-(M-1-o)=VS+o by lia]at this
   have u:∀s,VS<=s->s<VS+M->bt V_ q s=bt V_ q VS:=λs h d=>by
    have:=F (s-VS) ⋯;rw[show VS+(s-VS)=s by lia]at this;lia
   refine d5 (tx g λL V8=>?_);exact GQ (q:=q) i aR (w.rev (bB _) ⋯ u) V8 r ⋯ (λA I J=>by
    by_cases a:A=VS+M
    ·subst a;lia
    ·rw[u A ⋯ ⋯,u (A-1) ⋯ ⋯];exact g_ _) c
 rw[if_neg y];obtain rfl:M=1:=⋯
 exact GQ (q:=q) i aR w g (bB _) ⋯ (λA I J=>by
  obtain rfl:A=VS+1:=⋯
  exact vw E) c
end
section
variable{VX:bu}{C:bf}{O:bz}{VP:ah->aw->Prop}{Wh:gG}{aO:Array iK}{V_:Nat->Int}{v:Nat}{m:aw}{n:Array (Nat×Nat×Nat)}
def Vp{aD:mr}{O:bz}{VP:ah->aw->Prop}{y V7:Type}{f:Nat->Prop}{b:∀M,Decidable (f M)}{e WY:Nat->StateT y fK V7}{D:V7->y->aw->Prop}{m:aw}(V0:Nat->y->Prop)(g:∀M R,V0 M R->kasC aD O VP (WY M) D R m)(a:(∀M R,V0 M R->kasC aD O VP (WY M) D R m)->∀M R,f M->V0 M R->kasC aD O VP (e M) D R m):∀M R,V0 M R->kasC aD O VP (if f M then e M else WY M) D R m:=λM R q=>
 if c:f M then by rw[aH c];exact a g M R c q else by rw[if_neg c];exact g M R q
end
end L2
namespace L2
open Spec PyProof.Rows
section
variable{e:aM}{G:List (au×ba)}{y:a3}{g:aA}{m:aw}{ar:a4}
variable{WZ:List au}{Wr:Nat}
def aI.LQ{S:au}{x:List af}(B:aI e G y g m)(c:∀d∈WZ,hC e G g d)(s:∀d n,d∉WZ->m.heap.get? d=Z n->ar.get? d=Z n)(i:m.heap.objs.size<=S)(new:ee e.prog e.w (upd g S<|.tup x) ar S (.tup x)):aI e G y (upd g S<|.tup x) {m with heap:=ar,toks:=Wr}:=by
 have f:g S=X:=B.aV.fresh i;have l:∀d n,m.heap.get? d=Z n->d≠S:=λd n a=>dE (eV (b9 a) i);have j:∀d I,g d=Z I->d∉WZ:=λd I a k=>by rw[(c d k).1]at a;cases a
 refine B.step (L:=m.gens) (T:=m.drawn) (WZ:=WZ) (λd ag=>⟨(c d ag).2.2.2.1,(c d ag).2.1,(c d ag).2.2.2.2.1,(c d ag).2.2.2.2.2⟩) (λd n Y Y b a Y=>s d n b a) (λd n Y Y b a Y=>⟨n.slots,s d n b a⟩)
  (λd n Y a v=>by rw[cP (l d n a)];exact v) (λd n b a=>⟨n,s d n b a⟩) (λd n Y b a Y=>s d n b a) (λd V5 a=>by rw[cP (hy a f)];exact a) (λd n I a=>by rw[cP (hy a f)];exact a)
  (λd VV a=>⟨#[],by rw[cP (hy a f),a];simp⟩) (λM o=>?_) (λh n a=>?_) B.bare
 ·let⟨n,Q,@WI,q,p⟩:=o;exact⟨n,Q,WI,s _ n (λk=>(c _ k).2.1 rfl) q,p⟩
 ·by_cases av:h=S
  ·subst av;rw[eu]at a;cases a;exact new
  ·rw[cP av]at a;refine (B.aV h n a).gb (λd I ag u=>s d I ?_ u) (λd u=>by rw[cP (hy u f)];exact u) λd V5 u=>by rw[cP (hy u f)];exact u
   rcases ag with k|k
   ·rw[k];exact j h n a
   ·exact j d _ k
def aI.SD(B:aI e G y g m)(c:∀d∈WZ,hC e G g d)(s:∀d n,d∉WZ->m.heap.get? d=Z n->ar.get? d=Z n):aI e G y g {m with heap:=ar,toks:=Wr}:=by
 have f:∀d I,g d=Z I->d∉WZ:=λd I a k=>by rw[(c d k).1]at a;cases a
 refine B.step (L:=m.gens) (T:=m.drawn) (WZ:=WZ) (λd ag=>⟨(c d ag).2.2.2.1,(c d ag).2.1,(c d ag).2.2.2.2.1,(c d ag).2.2.2.2.2⟩) (λd n Y Y b a Y=>s d n b a) (λd n Y Y b a Y=>⟨n.slots,s d n b a⟩)
  (λd n Y Y v=>v) (λd n b a=>⟨n,s d n b a⟩) (λd n Y b a Y=>s d n b a) (λd V5 a=>a) (λd n I a=>a) (λd VV a=>⟨#[],by rw[a];simp⟩) (λM i=>?_) (λh n a=>?_) B.bare
 ·let⟨n,Q,@WI,j,p⟩:=i;exact⟨n,Q,WI,s _ n (λk=>(c _ k).2.1 rfl) j,p⟩
 ·refine (B.aV h n a).gb (λd I ag u=>s d I ?_ u) (λd u=>u) λd V5 u=>u;rcases ag with k|k
  ·rw[k];exact f h n a
  ·exact f d _ k
end
section
variable{VX:bu}{C:bf}{O:bz}{VP:ah->aw->Prop}{m:aw}
variable{j:Nat}{S:Array ah}{D:ah->aw->Prop}
def zG{aO H:au}{b:ah}(d:m.heap.IsTupleIter aO H j)(e:m.heap.IsTuple H S)(f:S[j]?=Z b)(u:∀ar,ar.IsTupleIter aO H (j+1)->a4.SameBut aO m.heap ar->D b {m with heap:=ar}):wpAny (aT VX C) O (bo.SmallTypes.nextOf<|.ref aO) D VP m:=by
 let⟨@n,c,g,a⟩:=id d;let⟨@ol,g1,Y,⟨@Af,h⟩⟩:=e;unfold bo.SmallTypes.nextOf;refine aC (ll (name:=aF.ofString "__next__") d.typeIs u5<|jm u5 d.typeIs Eh ?k<|B2 _)
 case k=>
  show wpAny _ _ (mJ (.ref aO) 0 >>= _) _ _ m;refine aC (hO c a (x:=.ref H) rfl ?_);show wpAny _ _ (if (ah.ref H==ah.none)=ab then _ else _) _ _ m;rw[if_neg (show ¬ (ah.ref H==ah.none)=ab by intro k;cases k)];show wpAny _ _ (mJ (.ref aO) 1 >>= _) _ _ m;refine aC (hO c a (x:=.int j 0) rfl ?_);show wpAny _ _ (mx (.ref H) >>= _) _ _ m;refine aC (hH g1 h ?_);simp only[oc,f];refine aC (tT c a ↥0 (a5 ⟨b,rfl,a5 (u _ ⟨_,oA _ c<|Ho<|vM a _,(Bl ..).trans g,by rw[vM a];simp[j9]⟩<|uf ..)⟩))
def F1{aO H:au}(f:O.handled=X)(c:m.heap.IsTupleIter aO H j)(g:m.heap.IsTuple H S)(i:S[j]?=X)(u:∀ar a,a4.ExtBut aO m.heap ar->(∃n,ar.get? a=Z n/\n.cls=.type "StopIteration")->VP (.ref a) {m with heap:=ar}):wpAny (aT VX C) O (bo.SmallTypes.nextOf<|.ref aO) D VP m:=by
 let⟨@n,d,o,e⟩:=id c;let⟨@ol,g1,Y,⟨@Af,l⟩⟩:=g;unfold bo.SmallTypes.nextOf;refine aC (ll (name:=aF.ofString "__next__") c.typeIs u5<|jm u5 c.typeIs Eh ?k<|B2 _)
 case k=>
  show wpAny _ _ (mJ (.ref aO) 0 >>= _) _ _ m;refine aC (hO d e (x:=.ref H) rfl ?_);show wpAny _ _ (if (ah.ref H==ah.none)=ab then _ else _) _ _ m;rw[if_neg (show ¬ (ah.ref H==ah.none)=ab by intro k;cases k)];show wpAny _ _ (mJ (.ref aO) 1 >>= _) _ _ m;refine aC (hO d e (x:=.int j 0) rfl ?_);show wpAny _ _ (mx (.ref H) >>= _) _ _ m;refine aC (hH g1 l ?_);simp only[oc,i];refine aC (lI (aC (tT d e ↥0 ?_)));show wpAny _ _ (ub (.type "StopIteration") [] >>= _) _ _ _;apply aC;simp only[ub,zC];refine aC (hE (aC (m:=tI _ _) (rZ (a:=ah.none) (by first|rfl|(simp only[tI];rfl)) (hE ?_ (by size_fits)))) (by size_fits));simp only[raiseNew];apply aC;apply Gr;rw[show O.in1.handled=X from f];refine aC (m:=pure _) (a5<|wpAny_throw ?_);exact u _ _ (((uf ..).extBut.push _).push _) ⟨_,dx _ rfl,rfl⟩
end
section
variable{VX:bu}{C:bf}{O:bz}{VP:ah->aw->Prop}{m:aw}
variable{h:au}
def i9{c ar:a4}{H:au}{j:Nat}(b:c.IsTupleIter h H j)(s:∀n,c.get? h=Z n->ar.get? h=Z n):ar.IsTupleIter h H j:=let ⟨n,a,p⟩:=b;⟨n,s n a,p⟩
variable{x:Array ah}
def pq{c ar:a4}(b:c.IsTuple h x)(s:∀n,c.get? h=Z n->ar.get? h=Z n):ar.IsTuple h x:=let ⟨n,a,p⟩:=b;⟨n,s n a,p⟩
variable{h d:ah}{Wo Wq:Nat}{V5:Array ah}
def Qb{k c7 cU e g s u:au}{b i:ah}{D:ah->aw->Prop}(w:uA k c7 cU e g s u)(aR:jM m.heap k c7 cU .none)(am:iv m.heap c7 (.ref e) (.ref g))(an:iv m.heap cU h d)(l:m.heap.IsTupleIter e s Wo)(t:m.heap.IsTupleIter g u Wq)(ap:m.heap.IsTuple s x)(as:m.heap.IsTuple u V5)(a1:x[Wo]?=Z b)(a2:V5[Wq]?=Z i)(bd:∀ar,jM ar k c7 cU (j9 m.heap.objs.size)->iv ar cU b i->ar.IsTupleIter e s (Wo+1)->ar.IsTupleIter g u (Wq+1)->iv ar m.heap.objs.size b i->
   (∀f n,f≠k->f≠cU->f≠e->f≠g->m.heap.get? f=Z n->ar.get? f=Z n)->D (.ref m.heap.objs.size) {m with heap:=ar}):
  wpAny (aT VX C) O (bo.«zip.__next__» ⟨[.ref k],[]⟩) (λfin VY=>∃r,fin=.done (.ret r)/\D r VY) VP m:=by
 show wpAny _ _ (mJ (.ref k) 2 >>= _) _ _ _;refine aC (hO aR rfl (x:=.bool az) rfl ?_);show wpAny _ _ (mJ (.ref k) 3 >>= _) _ _ _;refine aC (hO aR rfl (x:=.ref c7) rfl<|aC<|hH am rfl ?_);show wpAny _ _ (bo.SmallTypes.ownedTupleIsFree (.ref k) >>= _) _ _ _;apply aC;unfold bo.SmallTypes.ownedTupleIsFree;refine aC (hO aR rfl (x:=.none) rfl<|a5 ?_);simp only[gB];refine aC (lI (aC (hO aR rfl (x:=.ref cU) rfl (aC (o4 aR ↥0 λN G j=>?_)))));replace G:jM N k c7 cU .ellipsis:=G;apply aC;simp only[DH,Gb,uL,GG];refine aC (aC<|uC ?_);show wpAny _ _ (bo.SmallTypes.nextOf (.ref e) >>= _) _ _ _;refine aC (zG (m:={m with heap:=N}) (i9 l λn a=>j.extBut _ n w.i1z a) (pq ap λn a=>j.extBut _ n w.l1z a) a1 λH be p=>a5 ?_);have Wu:iv H cU h d:=p.extBut _ _ w.TOi1 (j.extBut _ _ w.TOz an);refine aC (hH (s:={m with heap:=H}) Wu rfl<|aC<|yw (s:={m with heap:=H}) Wu λP B q=>?_);replace B:iv P cU b d:=B;refine aC (jH<|a5<|aC<|aC<|uC ?_);show wpAny _ _ (bo.SmallTypes.nextOf (.ref g) >>= _) _ _ _;refine aC (zG (m:={m with heap:=P}) (i9 t λn a=>q.extBut _ n w.TOi2.symm<|p.extBut _ n w.i12.symm<|j.extBut _ n w.i2z a) (pq as λn a=>q.extBut _ n w.l2TO<|p.extBut _ n w.l2i1<|j.extBut _ n w.l2z a) a2 λI bi v=>a5 ?_);have Wn:iv I cU b d:=v.extBut _ _ w.TOi2 B;refine aC (hH (s:={m with heap:=I}) Wn rfl<|aC<|yw (s:={m with heap:=I}) Wn λc Wt y=>?_);replace Wt:iv c cU b i:=Wt;refine aC (jH<|a5<|a5<|aC<|hH (s:={m with heap:=c}) Wt rfl<|aC<|AU ?_);have Q:c.objs.size=m.heap.objs.size:=by rw[y.1,v.1,q.1,p.1,j.1]
 have R:jM c k c7 cU .ellipsis:=y.extBut _ _ w.TOz.symm (v.extBut _ _ w.i2z.symm<|q.extBut _ _ w.TOz.symm<|p.extBut _ _ w.i1z.symm G);have bm:∀f n,f≠k->f≠cU->f≠e->f≠g->m.heap.get? f=Z n->c.get? f=Z n:=λf n o z J L a=>y.extBut _ _ z (v.extBut _ _ L<|q.extBut _ _ z<|p.extBut _ _ J<|j.extBut _ _ o a);have dJ:c.IsTupleIter e s (Wo+1):=i9 be λn a=>y.extBut _ n w.TOi1.symm (v.extBut _ n w.i12<|q.extBut _ n w.TOi1.symm a);have dr:c.IsTupleIter g u (Wq+1):=i9 bi λn a=>y.extBut _ n w.TOi2.symm a;have S:k<c.objs.size:=b9 R;show wpAny _ _ (bo.SmallTypes.ownedTupleHandOut (.ref k) (.ref c.objs.size) >>= _) _ _ _;apply aC;unfold bo.SmallTypes.ownedTupleHandOut;have bn:jM (c.push {cls:=.type "tuple",data:=.seq #[b,i]}) k c7 cU .ellipsis:=cu _ R;refine aC (o4 bn ↥0 λbs M T=>?_);replace M:jM bs k c7 cU (j9 c.objs.size):=M;refine o4 M ↥0 λA E U=>?_;replace E:jM A k c7 cU (j9 c.objs.size):=E;have F:∀f n,f≠k->c.get? f=Z n->A.get? f=Z n:=λf n o a=>U.extBut _ _ o (T.extBut _ _ o<|cu _ a);have al:iv A c.objs.size b i:=U.extBut _ _ (lT S) (T.extBut _ _ (lT S)<|dx _ rfl);rw[Q]at E al;refine a5 ⟨_,rfl,?_⟩;show D (.ref c.objs.size) _;rw[Q];exact bd A E (F _ _ w.TOz Wt) (i9 dJ λn a=>F _ n w.i1z a) (i9 dr λn a=>F _ n w.i2z a) al λf n o z J L a=>F f n o (bm f n o z J L a)
def LO{k c7 cU o p y z:au}{D:PySem.Fin->aw->Prop}(L:O.handled=X)(w:uA k c7 cU o p y z)(aR:jM m.heap k c7 cU .none)(T:iv m.heap c7 (.ref o) (.ref p))(U:iv m.heap cU h d)(l:m.heap.IsTupleIter o y Wo)(t:m.heap.IsTupleIter p z Wq)(M:m.heap.IsTuple y x)(al:m.heap.IsTuple z V5)(am:x[Wo]?=X\/V5[Wq]?=X)(N:∀ar a,(∀f n,f≠k->f≠cU->f≠o->f≠p->m.heap.get? f=Z n->ar.get? f=Z n)->(∃n,ar.get? a=Z n/\n.cls=.type "StopIteration")->VP (.ref a) {m with heap:=ar}):
  wpAny (aT VX C) O (bo.«zip.__next__» ⟨[.ref k],[]⟩) D VP m:=by
 show wpAny _ _ (mJ (.ref k) 2 >>= _) _ _ _;refine aC (hO aR rfl (x:=.bool az) rfl ?_);show wpAny _ _ (mJ (.ref k) 3 >>= _) _ _ _;refine aC (hO aR rfl (x:=.ref c7) rfl<|aC<|hH T rfl ?_);show wpAny _ _ (bo.SmallTypes.ownedTupleIsFree (.ref k) >>= _) _ _ _;apply aC;unfold bo.SmallTypes.ownedTupleIsFree;refine aC (hO aR rfl (x:=.none) rfl<|a5 ?_);simp only[gB];refine aC (lI (aC (hO aR rfl (x:=.ref cU) rfl (aC (o4 aR ↥0 λA v e=>?_)))));replace v:jM A k c7 cU .ellipsis:=v;apply aC;simp only[DH,Gb,uL,GG];refine aC (aC<|uC ?_);show wpAny _ _ (bo.SmallTypes.nextOf (.ref o) >>= _) _ _ _;cases E:x[Wo]? with
 |none=>
  refine aC (F1 (m:={m with heap:=A}) L (i9 l λn a=>e.extBut _ n w.i1z a) (pq M λn a=>e.extBut _ n w.l1z a) E λq a g F=>?_);let⟨@G,i,r⟩:=F;have P:jM q k c7 cU .ellipsis:=g _ _ w.i1z.symm v;have H:a≠k:=λu=>by subst u;rw[P]at i;cases i;simp at r
  refine o4 P ↥0 λI Y j=>N I a (λf n s Y J Y u=>j.extBut _ _ s<|g _ _ J<|e.extBut _ _ s u) ⟨G,j.extBut _ _ H i,r⟩
 |some b=>
  have an:V5[Wq]?=X:=by
   rcases am with c|c
   ·rw[E]at c;cases c
   ·exact c
  refine aC (zG (m:={m with heap:=A}) (i9 l λn a=>e.extBut _ n w.i1z a) (pq M λn a=>e.extBut _ n w.l1z a) E λq bd g=>a5 ?_);have Wu:iv q cU h d:=g.extBut _ _ w.TOi1 (e.extBut _ _ w.TOz U);refine aC (hH (s:={m with heap:=q}) Wu rfl<|aC<|yw (s:={m with heap:=q}) Wu λI B j=>?_);refine aC (jH<|a5<|aC<|aC<|uC ?_);show wpAny _ _ (bo.SmallTypes.nextOf (.ref p) >>= _) _ _ _;refine aC (F1 (m:={m with heap:=I}) L (i9 t λn a=>j.extBut _ n w.TOi2.symm<|g.extBut _ n w.i12.symm<|e.extBut _ n w.i2z a) (pq al λn a=>j.extBut _ n w.l2TO<|g.extBut _ n w.l2i1<|e.extBut _ n w.l2z a) an λap a Q F=>?_);let⟨@G,i,r⟩:=F;have R:jM ap k c7 cU .ellipsis:=Q _ _ w.i2z.symm (j.extBut _ _ w.TOz.symm<|g.extBut _ _ w.i1z.symm v);have H:a≠k:=λu=>by subst u;rw[R]at i;cases i;simp at r
  refine o4 R ↥0 λas Y S=>N as a (λf n s a1 J a2 u=>S.extBut _ _ s<|Q _ _ a2<|j.extBut _ _ a1<|g.extBut _ _ J<|e.extBut _ _ s u) ⟨G,S.extBut _ _ H i,r⟩
end
variable{m:aw}{WK:b0}{Wk WJ T:List Nat}{own VV:List aF}{WR Wl f a d h:a7}{Xb:List cg}{VP:ng}{R:cg}{A v Xc:Nat}{Xe y:a3}{fd:hj}{b:aF}{P x:List af}{E:List aa}{aN Wf O VO Wg V9 Ww VN L:List au}{D:cj}{p Q:List a7}{Wr:ew}{e:aM}{V8 VT F g:aA}{r:af}{q V3:cw}{U:Φ}
def jZ(c:a4)(a b:au):a4:=(((((c.push {cls:=.type "tuple_iterator",data:=.fields #[.ref a,.int 0 0]}).push {cls:=.type "tuple_iterator",data:=.fields #[.ref b,.int 0 0]}).push
 {cls:=.type "tuple",data:=.seq #[.ref c.objs.size,.ref (c.push {cls:=.type "tuple_iterator",data:=.fields #[.ref a,.int 0 0]}).objs.size]}).push {cls:=.type "tuple",data:=.seq #[.none,.none]}))
def Tv(b d:au)(x V5:Array ah):
    sf (bo.«zip.__new__» ⟨[.type "zip", .ref b,.ref d],[]⟩) (λ_ VO m => m.heap.IsTuple b x /\ m.heap.IsTuple d V5 /\
      VO (.ok<|.ret<|.ref (jZ m.heap b d).objs.size) {m with heap:=(jZ m.heap b d).push {cls:=.type "zip", data:=.fields #[.none,.bool az,.bool az,.ref ((m.heap.push {cls:=.type "tuple_iterator", data:=.fields #[.ref b,.int 0 0]}).push {cls:=.type "tuple_iterator", data:=.fields #[.ref d,.int 0 0]}).objs.size,
        .ref (((m.heap.push {cls:=.type "tuple_iterator", data:=.fields #[.ref b,.int 0 0]}).push {cls:=.type "tuple_iterator", data:=.fields #[.ref d,.int 0 0]}).push
  {cls:=.type "tuple", data:=.seq #[.ref m.heap.objs.size,.ref (m.heap.push {cls:=.type "tuple_iterator", data:=.fields #[.ref b,.int 0 0]}).objs.size]}).objs.size]} }) :=
  .of_wp λVX C O VO m c => by
    let⟨e,N,o,Wy,V6⟩:=m;let@⟨f,g,c⟩:=c;have j:=sub_zip;have h:a4.IsTuple (aw.heap ⟨e,N,o,Wy,V6⟩) b x:=f;have i:a4.IsTuple (aw.heap ⟨e.push {cls:=.type "tuple_iterator", data:=.fields #[.ref b,.int 0 0]}, N,o,Wy,V6⟩) d V5:=pq g λn a => cu _ a
    wp_walk using wpAny_pyIter_tuple h,wpAny_pyIter_tuple i
    exact ⟨_,rfl,c⟩
def s_(U:Φ)(h d:au):e6:=(
 ⟨λj g=>∃x V5 b i,cC U g h x/\cC U g d V5/\x[j]?=Z b/\V5[j]?=Z i,
  λj g r F=>∃S b i,g S=X/\r=.ref S/\F=upd g S (.tup [b,i])/\(∀x,cC U g h x->x[j]?=Z b)/\(∀V5,cC U g d V5->V5[j]?=Z i),
  λj g=>∃x V5,cC U g h x/\cC U g d V5/\(x.length<=j\/V5.length<=j)⟩)
def Ee(h d k c7 cU a b:au)(j:Nat)(c:a4):Prop:=(jM c k c7 cU .none/\iv c c7 (.ref a) (.ref b)/\(∃q u,iv c cU q u)/\c.IsTupleIter a h j/\c.IsTupleIter b d j)
theorem Q2{V0:bu}{C:bf}(h d k c7 cU z E:au)(w:uA k c7 cU z E h d):
  oT V0 C U (.Tuple Q Xc V3) (s_ U h d) [k,c7,cU,z,E] k (Ee h d k c7 cU z E) where
 mem:=by simp
 obj:=λj c R f o=>by
  let@⟨l,t,⟨q,@u,v⟩,⟨@Wn,am,_,ca⟩,⟨@Wt,an,_,cd⟩⟩:=R;simp only[bR,nC,jL]at o;rcases o with rfl|rfl|rfl|rfl|rfl
  ·exact⟨_,l,λr a=>by cases a⟩
  ·exact⟨_,t,λr a=>by cases a⟩
  ·exact⟨_,v,λr a=>by cases a⟩
  ·exact⟨_,am,λr a=>by rw[ca]at a;cases a⟩
  ·exact⟨_,an,λr a=>by rw[cd]at a;cases a⟩
 keep:=λj c ar R s=>by
  let@⟨l,t,⟨q,@u,v⟩,J,L⟩:=R;exact⟨s k ↥0 _ l,s c7 ↥0 _ t,⟨q,u,s cU ↥0 _ v⟩,i9 J λn a=>s z ↥0 n a,i9 L λn a=>s E ↥0 n a⟩
 item:=by
  intro e ap as a1 o j G m y g VP B N R a2;subst ap as a1;let⟨x,V5,b,@i,P,T,bm,bn⟩:=a2;let⟨@VZ,bd,q,aR⟩:=B.tuple P;let⟨@be,bi,WU,ce⟩:=B.tuple T;let⟨@I,ch,ci⟩:=bd.get bm;let⟨@bs,cl,co⟩:=bi.get bn;have cr:=R;let@⟨l,t,⟨cs,@db,v⟩,J,L⟩:=R;have M:m.TypeIs (.ref k) "zip" := ⟨_,l,rfl⟩;unfold gP;refine aC (rD (ll (name:=aF.ofString "__next__") M va (jm va M BC
   (Qb (D:=λr VY=>wpAny (aT e.prog e.w) e.A (pure<|Z r) (λp ds=>∃I,p=Z I/\wpAny (aT e.prog e.w) e.A (qM (.Tuple Q Xc V3) (.ref k) I) (λ_ bv=>∃b F,aI e G y F bv/\b1 b I/\(s_ e.K h d).qJ j g b F/\Ee h d k c7 cU z E (j+1) bv.heap/\∀d∈[k,c7,cU,z,E],F d=X) VP ds) VP VY)
    w l t v J L (show m.heap.IsTuple h VZ.toArray from q) (show m.heap.IsTuple d be.toArray from WU) (b:=I) (i:=bs) ⇑ch ⇑cl λar dL eq ev ex fd al=>a5 ⟨_,rfl,?_⟩) (Hu _))));refine wpAny_letOwnedTupleGo_zip dL λfn fr H=>?_;have lt:∀f∈[k,c7,cU,z,E],f<m.heap.objs.size:=λf o=>by
   let@⟨l,t,⟨q,@u,v⟩,⟨@Wn,am,_⟩,⟨@Wt,an,_⟩⟩:=cr;simp only[bR,nC,jL]at o;rcases o with rfl|rfl|rfl|rfl|rfl
   ·exact b9 l
   ·exact b9 t
   ·exact b9 v
   ·exact b9 am
   ·exact b9 an
  have dk:∀f n,f∉[k,c7,cU,z,E]->m.heap.get? f=Z n->fn.get? f=Z n:=λf n o a=>by
   simp only[bR,nC,jL,not_or]at o;exact H.extBut _ _ o.1 (al f n o.1 o.2.2.1 o.2.2.2.1 o.2.2.2.2 a)
  have f0:m.heap.objs.size≠k:=lT (lt k ↥0);have f1:g m.heap.objs.size=X:=B.aV.fresh (bB _);refine⟨.ref m.heap.objs.size,upd g m.heap.objs.size<|.tup [b,i],B.LQ (Wr:=m.toks) N dk (bB _) ⟨by show 2<=sizeLine;decide,[I,bs],.cons ci<|.cons co .nil,?_⟩,rfl,⟨_,b,i,f1,rfl,rfl,λW5 aR=>?_,λW5 aR=>?_⟩,?_,λf o=>?_⟩
  ·exact⟨_,H.extBut _ _ f0 fd,rfl,0,rfl⟩
  ·rw[B.AN aR P];exact bm
  ·rw[B.AN aR T];exact bn
  ·exact⟨fr,H.extBut _ _ w.TIz<|al _ _ w.TIz w.TITO w.TIi1 w.TIi2 t,⟨_,_,H.extBut _ _ w.TOz eq⟩,i9 ev λn a=>H.extBut _ n w.i1z a,i9 ex λn a=>H.extBut _ n w.i2z a⟩
  ·rw[cP (dE<|lt f o)];exact (N f o).1
 done:=by
  intro e ap as a1 o j G m y g VP B N R a2;subst ap as a1;let⟨x,@V5,P,T,f2⟩:=a2;let⟨@VZ,bd,q,aR⟩:=B.tuple P;let⟨@be,bi,WU,ce⟩:=B.tuple T;let@⟨l,t,⟨cs,@db,v⟩,J,L⟩:=R;have M:m.TypeIs (.ref k) "zip" := ⟨_,l,rfl⟩;have ga:=bd.length;have ge:=bi.length;unfold gP;refine aC (rD (ll (name:=aF.ofString "__next__") M va (jm va M BC
   (LO (B.ok.hd o) w l t v J L (show m.heap.IsTuple h VZ.toArray from q) (show m.heap.IsTuple d be.toArray from WU) (by
    rcases f2 with c|c
    ·exact .inl (by simp;lia)
    ·exact .inr (by simp;lia)) λar a al ⟨n,f4,f8⟩=>?_) (Hu _))))
  refine aC (vT (T := "StopIteration") (b:=ab) ⟨n,f4,f8⟩ DD<|a5 ⟨rfl,B.SD (Wr:=m.toks) N λf n o a=>?_⟩);simp only[bR,nC,jL,not_or]at o;exact al f n o.1 o.2.2.1 o.2.2.2.1 o.2.2.2.2 a
 self:=λ_ Y Y Y Y R c=>Cv R.1 c
section
variable{e:aM}
def L5(U:Φ)(WC:eT):c7:=(λy g VO=>WC y g λP VT=>∃h d,P=[.ref h,.ref d]/\(∃x,cC U VT h x)/\(∃V5,cC U VT d V5)/\VO (s_ U h d) VT)
def MA{WC:eT}{VV:cw}(I:eU e "zip")(J:e.aL "zip" = X)(av:hl e [h,d] WC)(M:bA [h,d] e.env=[(az,bM h e.env),(az,bM d e.env)]:=by rfl)(t:bA [d] e.env=[(az,bM d e.env)]:=by rfl):
  kf e (.Tuple Q Xc VV) (.Call (.Name "zip" q) [h,d] [] V3) (L5 e.K WC):=by
 intro G m y g VO B c;refine Call_ (mM B I J boot_zip (pX (bK (av V3 G m y g _ B c) λWc b ⟨P,VT,k,N,O⟩=>?_) (by rw[M,t]) (by rw[t];rfl)));let⟨i,@j,a,⟨@x,R⟩,⟨@V5,S⟩,u⟩:=O;subst a;cases N with
 |cons p r=>
  cases r with
  |cons WK r=>
   cases r;cases p;cases WK;let⟨@VZ,an,q,aR⟩:=k.tuple R;let⟨@T,ap,WU,as⟩:=k.tuple S;have al:i<b.heap.objs.size:=by let⟨@n,a,Y⟩:=q;exact b9 a
   have cW:j<b.heap.objs.size:=by let⟨@n,a,Y⟩:=WU;exact b9 a
   refine callType_new F.called_zip ∅ (F.typeCall_zip_2 _ _) (F.newCall_zip_2 _ _) (λam=>F.args_object_init_3 am _ _) F.entry_zip_new (Tv i j VZ.toArray T.toArray) ⟨q,WU,?_⟩;have s:(b.heap.push {cls:=.type "tuple_iterator",data:=.fields #[.ref i,.int 0 0]}).objs.size=b.heap.objs.size+1:=jj ..;have l:((b.heap.push {cls:=.type "tuple_iterator",data:=.fields #[.ref i,.int 0 0]}).push {cls:=.type "tuple_iterator",data:=.fields #[.ref j,.int 0 0]}).objs.size=b.heap.objs.size+2:=by rw[jj,s]
   have o:(((b.heap.push {cls:=.type "tuple_iterator",data:=.fields #[.ref i,.int 0 0]}).push {cls:=.type "tuple_iterator",data:=.fields #[.ref j,.int 0 0]}).push
    {cls:=.type "tuple",data:=.seq #[.ref b.heap.objs.size,.ref (b.heap.push {cls:=.type "tuple_iterator",data:=.fields #[.ref i,.int 0 0]}).objs.size]}).objs.size=b.heap.objs.size+3:=by rw[jj,l]
   have v:(jZ b.heap i j).objs.size=b.heap.objs.size+4:=by unfold jZ;rw[jj,o]
   show _/\_;refine⟨⟨_,dx _ rfl,rfl⟩,Cv (TI:=b.heap.objs.size+2) (TO:=b.heap.objs.size+3) (f0:=.none) ?_ ?_⟩
   ·rw[l,o];exact dx _ rfl
   ·rw[l,o,v];have z:((jZ b.heap i j).push {cls:=.type "zip",data:=.fields #[.none,.bool az,.bool az,.ref<|b.heap.objs.size+2,.ref<|b.heap.objs.size+3]}).get? (b.heap.objs.size+4)=Z {cls:=.type "zip",data:=.fields #[.none,.bool az,.bool az,.ref<|b.heap.objs.size+2,.ref<|b.heap.objs.size+3]}:=by rw[<-v];exact dx _ rfl
    have A:((jZ b.heap i j).push {cls:=.type "zip",data:=.fields #[.none,.bool az,.bool az,.ref<|b.heap.objs.size+2,.ref<|b.heap.objs.size+3]}).get? (b.heap.objs.size+3)=Z {cls:=.type "tuple",data:=.seq #[.none,.none]}:=by
     rw[<-o];exact cu _ (dx _ rfl)
    have C:((jZ b.heap i j).push {cls:=.type "zip",data:=.fields #[.none,.bool az,.bool az,.ref<|b.heap.objs.size+2,.ref<|b.heap.objs.size+3]}).get? (b.heap.objs.size+2)=Z {cls:=.type "tuple",data:=.seq #[.ref b.heap.objs.size,.ref<|b.heap.objs.size+1]}:=by
     rw[<-l,<-s];exact cu _ (cu _<|dx _ rfl)
    have D:((jZ b.heap i j).push {cls:=.type "zip",data:=.fields #[.none,.bool az,.bool az,.ref<|b.heap.objs.size+2,.ref<|b.heap.objs.size+3]}).get? (b.heap.objs.size+1)=Z {cls:=.type "tuple_iterator",data:=.fields #[.ref j,.int 0 0]}:=by
     rw[<-s];exact cu _ (cu _<|cu _<|dx _ rfl)
    have E:((jZ b.heap i j).push {cls:=.type "zip",data:=.fields #[.none,.bool az,.bool az,.ref<|b.heap.objs.size+2,.ref<|b.heap.objs.size+3]}).get? b.heap.objs.size=Z {cls:=.type "tuple_iterator",data:=.fields #[.ref i,.int 0 0]}:=
     cu _ (cu _<|cu _<|cu _<|dx _ rfl);have dk:∀f n,b.heap.get? f=Z n->((jZ b.heap i j).push {cls:=.type "zip",data:=.fields #[.none,.bool az,.bool az,.ref<|b.heap.objs.size+2,.ref<|b.heap.objs.size+3]}).get? f=Z n:=λf n a=>
     cu _ (cu _<|cu _<|cu _<|cu _ a);generalize ((jZ b.heap i j).push {cls:=.type "zip",data:=.fields #[.none,.bool az,.bool az,.ref<|b.heap.objs.size+2,.ref<|b.heap.objs.size+3]})=a1 at E D C A z dk ⊢;have w:uA (b.heap.objs.size+4) (b.heap.objs.size+2) (b.heap.objs.size+3) b.heap.objs.size (b.heap.objs.size+1) i j:=PySem.W.ktu_apart _ _ _ al cW;refine⟨_,_,_,_,VT,rfl,k.kept (Wr:=b.toks) dk,Q2 i j _ _ _ _ _ w,⟨z,C,⟨_,_,A⟩,⟨_,E,rfl,rfl⟩,⟨_,D,rfl,rfl⟩⟩,λf H=>?_,u⟩;have:b.heap.objs.size<=f:=by
     simp only[bR,nC,jL]at H;rcases H with rfl|rfl|rfl|rfl|rfl
     ·exact sq _ _
     ·exact sq _ _
     ·exact sq _ _
     ·exact bB _
     ·exact sq _ _
    exact k.r7 this (k.aV.fresh this)
end
def CS(U:Φ)(g:aA)(b:af)(S:String)(d:Bool):Prop:=(
 (∃j,b=.int j/\((S = "int" /\ d=ab)\/(S = "tuple" /\ d=az)\/(S = "str" /\ d=az)\/(S = "bool" /\ d=az)\/(S = "list" /\ d=az)))\/
 (∃j,b=.aJ j/\((S = "bool" /\ d=ab)\/(S = "int" /\ d=ab)\/(S = "tuple" /\ d=az)\/(S = "str" /\ d=az)\/(S = "list" /\ d=az)))\/
 (∃j,b=.str j/\((S = "str" /\ d=ab)\/(S = "int" /\ d=az)\/(S = "tuple" /\ d=az)\/(S = "bool" /\ d=az)\/(S = "list" /\ d=az)))\/
 (∃h x,b=.ref h/\cC U g h x/\((S = "tuple" /\ d=ab)\/(S = "int" /\ d=az)\/(S = "str" /\ d=az)\/(S = "bool" /\ d=az)\/(S = "list" /\ d=az)))\/
 (∃h x,b=.ref h/\dv U g h x/\((S = "list" /\ d=ab)\/(S = "int" /\ d=az)\/(S = "str" /\ d=az)\/(S = "bool" /\ d=az)\/(S = "tuple" /\ d=az))))
section
variable{e:aM}
def Qd:ez e (.builtin "isinstance") (λx g D=>∃b S d,x=[b,.ty S]/\CS e.K g b S d/\D (.aJ d) g):=by
 intro G m y g x Wc D B p c;let⟨b,S,@d,rfl,VW,u⟩:=c;cases p with
 |cons p k=>
  cases k with
  |cons WK k=>
   cases k;cases WK;have WW:∀{d:Bool},D (.aJ d) g->eB e G y D (.bool d) m:=λ{d} u=>⟨.aJ d,g,B,rfl,u⟩;have a:∀{d:Bool},D (.aJ d) g->eB e G y D (.bool d) {m with toks:=m.toks+1}:=λ{d} u=>⟨.aJ d,g,B.tok _,rfl,u⟩;rcases VW with ⟨j,rfl,VW⟩|⟨j,rfl,VW⟩|⟨j,rfl,VW⟩|⟨h,x,rfl,l,VW⟩|⟨h,x,rfl,l,VW⟩
   ·let⟨@H,rfl⟩:=p;rcases VW with ⟨rfl,rfl⟩|⟨rfl,rfl⟩|⟨rfl,rfl⟩|⟨rfl,rfl⟩|⟨rfl,rfl⟩
    ·exact IsiPair.int_int (WW u)
    ·exact IsiPair.int_tuple (a u)
    ·exact IsiPair.int_str (a u)
    ·exact IsiPair.int_bool (a u)
    ·exact IsiPair.int_list (a u)
   ·cases p;rcases VW with ⟨rfl,rfl⟩|⟨rfl,rfl⟩|⟨rfl,rfl⟩|⟨rfl,rfl⟩|⟨rfl,rfl⟩
    ·exact IsiPair.bool_bool (WW u)
    ·exact IsiPair.bool_int (WW u)
    ·exact IsiPair.bool_tuple (a u)
    ·exact IsiPair.bool_str (a u)
    ·exact IsiPair.bool_list (a u)
   ·let⟨@H,rfl⟩:=p;rcases VW with ⟨rfl,rfl⟩|⟨rfl,rfl⟩|⟨rfl,rfl⟩|⟨rfl,rfl⟩|⟨rfl,rfl⟩
    ·exact IsiPair.str_str (WW u)
    ·exact IsiPair.str_int (a u)
    ·exact IsiPair.str_tuple (a u)
    ·exact IsiPair.str_bool (a u)
    ·exact IsiPair.str_list (a u)
   ·cases p;let⟨@VZ,o,⟨@n,f,i,Y⟩,aR⟩:=B.tuple l;rcases VW with ⟨rfl,rfl⟩|⟨rfl,rfl⟩|⟨rfl,rfl⟩|⟨rfl,rfl⟩|⟨rfl,rfl⟩
    ·exact IsiPair.tuple_tuple f i (WW u)
    ·exact IsiPair.tuple_int f i (a u)
    ·exact IsiPair.tuple_str f i (a u)
    ·exact IsiPair.tuple_bool f i (a u)
    ·exact IsiPair.tuple_list f i (a u)
   ·cases p;let⟨@VZ,o,q,aR⟩:=B.list l;let⟨@n,f,i,Y⟩:=q.isList;rcases VW with ⟨rfl,rfl⟩|⟨rfl,rfl⟩|⟨rfl,rfl⟩|⟨rfl,rfl⟩|⟨rfl,rfl⟩
    ·exact IsiPair.list_list f i (WW u)
    ·exact IsiPair.list_int f i (a u)
    ·exact IsiPair.list_str f i (a u)
    ·exact IsiPair.list_bool f i (a u)
    ·exact IsiPair.list_tuple f i (a u)
def TG:∀{bs:List Bool}{Wc:List ah},bZ (bs.map af.aJ) Wc->∀(j:Nat) (r:ah),Wc[j]?=Z r->∃d,bs[j]?=Z d/\r=ah.bool d:=by
 intro bs Wc p j r c;have a:=p.length;rw[br]at a;have VW:j<bs.length:=by rw[a];exact (fM.mp c).1
 let⟨@I,e,f⟩:=p.get (j:=j) (b:=af.aJ bs[j]) (by simp[VW]);rw[c]at e;cases e;exact⟨bs[j],by simp[VW],f⟩
def T5(i:e.calm=ab):ez e (.builtin "all") (λx g D=>∃J bs,x=[.ref J]/\g J=Z (.lst<|List.map af.aJ bs)/\D (.aJ<|bs.all id) g):=by
 intro G m y g x Wc D B p c;let⟨J,@bs,rfl,l,u⟩:=c;let⟨@I,rfl,n⟩:=h3 p;cases n;let@⟨k,⟨VZ,@v,b,a⟩⟩:=B.aV J _ l;have f:m.heap.IsList J VZ.toArray:=⟨_,a,rfl,v,rfl⟩;refine call_all_walk (pH f ⟨m.heap.objs.size,[m.heap.objs.size,J],[m.heap.objs.size],VZ.toArray.size,_,_,λj=>(bs[j]?).getD ab,rfl,ka.list (A:=e.A.in1) (B.ok.hd i) _ J (dE<|b9 a) VZ.toArray,
  ⟨⟨_,dx _ rfl,rfl,rfl⟩,f.push _⟩,λj r VY w z o h=>?_,λar Wy q=>?_⟩)
 ·let⟨@d,s,rfl⟩:=TG b j r ⇑o;simp only[s,uB]at h;exact lY h
 ·have t:VZ.toArray.size=bs.length:=by
   have:=b.length;rw[br]at this;rw[cK,this]
  rw[t,LSm.range_all];exact⟨.aJ _,g,B.kept<|Ck q,rfl,u⟩
def QN:ek e (gk .Mult) (pj IntMulOk λj A=>.int<|j*A):=uy λ_ Y Y Y Y Y Y a u=>mul_int u a
end
inductive ak where
 | im (o:aa)
 | c2
 | da (E:List aa)
 | lst (E:List aa)
 | dA (VR:List (eG×aa))
 | aB (VR:List (List aa×aa))
 | g4 (x:List ak)
 | pA (x:List ak)
 | di (VR:List (List aa×aa))
 | dL (VR:List (List aa×List aa))
variable{Wx:List ak->Option ak}{z:ak->ak->Option ak}{n:Option ak}{o:ak}
abbrev aU:=List (Option ak)
variable{Wb w:aU}{c:List ak->aU->Option aU}
abbrev d9{Wh:Type}(g:aA):List (Wh×aa)->List (Wh×af)->Prop:=dV λq u=>q.1=u.1/\cp g q.2 u.2
def d9.mono{Wh:Type}{J:List (Wh×aa)}{M:List (Wh×af)}(H:p6 g F)(c:d9 g J M):d9 F J M:=dV.tV c λ_ Y k=>⟨k.1,k.2.mono H⟩
structure fa(g F:aA):Prop where
 tup:p6 g F
 c6:∀h n I,g h=Z (.c6 n I)->F h=Z (.c6 n I)
def gD(g:aA):List (List aa×List aa)->List (List aa×af)->List au->Prop
 |[],WG,VN=>WG=[]/\VN=[]
 |q::p,WG,VN=>∃d x C a,WG=(q.1,.ref d)::C/\g d=Z (.lst x)/\bC g q.2 x/\gD g p C a/\VN=d::a
theorem gD.mono{g F:aA}(H:fa g F):∀{J:List (List aa×List aa)}{WG:List (List aa×af)}{VN:List au},gD g J WG VN->(∀h∈VN,∀n,g h=Z n->F h=Z n)->gD F J WG VN
 |[],_,_,c,_=>c
 |q::p,WG,VN,c,s=>by
  let⟨d,x,C,@b,a,l,t,e,rfl⟩:=c;exact⟨d,x,C,b,a,s d (.head _) _ l,t.mono H.tup,gD.mono H e λh av=>s h<|.tail _ av,rfl⟩
mutual
def b7(g:aA):ak->af->List au->Prop
 |.im o,r,L=>cp g o r/\L=[]
 |.c2,_,L=>L=[]
 |.da E,r,L=>∃h x n,r=.ref h/\g h=Z (.c6 n<|.lst x)/\bC g E x/\L=[]
 |.lst E,r,L=>∃h x,r=.ref h/\g h=Z (.lst x)/\bC g E x/\L=[h]
 |.dA VR,r,L=>∃h WB,r=.ref h/\g h=Z (.dA WB)/\d9 g VR WB/\L=[h]
 |.aB VR,r,L=>∃h WB,r=.ref h/\g h=Z (.aB WB)/\d9 g VR WB/\L=[h]
 |.g4 E,r,L=>∃h x VN,r=.ref h/\g h=Z (.lst x)/\en g E x VN/\L=h::VN
 |.pA E,r,L=>∃h x,r=.ref h/\g h=Z (.tup x)/\en g E x L
 |.di VR,r,L=>∃h WB n,r=.ref h/\g h=Z (.c6 n<|.aB WB)/\d9 g VR WB/\L=[]
 |.dL VR,r,L=>∃h WB VN,r=.ref h/\g h=Z (.aB WB)/\gD g VR WB VN/\L=h::VN
def en(g:aA):List ak->List af->List au->Prop
 |[],P,L=>P=[]/\L=[]
 |o::E,P,L=>∃r p V9 Wg,P=r::p/\b7 g o r V9/\en g E p Wg/\L=V9++Wg
end
mutual
theorem b7.mono{g F:aA}(H:fa g F):∀{o:ak}{r:af}{L:List au},b7 g o r L->(∀h∈L,∀n,g h=Z n->F h=Z n)->b7 F o r L
 |.im o,r,L,c,_=>⟨c.1.mono H.tup,c.2⟩
 |.c2,r,L,c,_=>c
 |.da E,r,L,c,_=>by
  let⟨h,x,@n,rfl,l,t,rfl⟩:=c;exact⟨h,x,n,rfl,H.c6 _ _ _ l,t.mono H.tup,rfl⟩
 |.lst E,r,L,c,s=>by
  let⟨h,@x,rfl,l,t,rfl⟩:=c;exact⟨h,x,rfl,s h (.head _) _ l,t.mono H.tup,rfl⟩
 |.dA VR,r,L,c,s=>by
  let⟨h,@x,rfl,l,t,rfl⟩:=c;exact⟨h,x,rfl,s h (.head _) _ l,t.mono H.tup,rfl⟩
 |.aB VR,r,L,c,s=>by
  let⟨h,@x,rfl,l,t,rfl⟩:=c;exact⟨h,x,rfl,s h (.head _) _ l,t.mono H.tup,rfl⟩
 |.g4 E,r,L,c,s=>by
  let⟨h,x,@VN,rfl,l,t,rfl⟩:=c;exact⟨h,x,VN,rfl,s h (.head _) _ l,en.mono H t λd ag=>s d<|.tail _ ag,rfl⟩
 |.pA E,r,L,c,s=>by
  let⟨h,@x,rfl,l,t⟩:=c;exact⟨h,x,rfl,H.tup h x l,en.mono H t s⟩
 |.di VR,r,L,c,_=>by
  let⟨h,x,@n,rfl,l,t,rfl⟩:=c;exact⟨h,x,n,rfl,H.c6 _ _ _ l,t.mono H.tup,rfl⟩
 |.dL VR,r,L,c,s=>by
  let⟨h,WB,@VN,rfl,l,t,rfl⟩:=c;exact⟨h,WB,VN,rfl,s h (.head _) _ l,t.mono H λd ag=>s d<|.tail _ ag,rfl⟩
theorem en.mono{g F:aA}(H:fa g F):∀{E:List ak}{P:List af}{L:List au},en g E P L->(∀h∈L,∀n,g h=Z n->F h=Z n)->en F E P L
 |[],P,L,c,_=>c
 |o::E,P,L,c,s=>by
  let⟨r,p,V9,@Wg,rfl,l,t,rfl⟩:=c;exact⟨r,p,V9,Wg,rfl,b7.mono H l λh av=>s h<|eb _ av,en.mono H t λh av=>s h<|er _ av,rfl⟩
end
def fB(g:aA)(h:au):Prop:=(∃n,g h=Z n/\(∀x,n≠.tup x)/\∀q I,n≠.c6 q I)
theorem gD.chg{g:aA}:∀{J:List (List aa×List aa)}{WG:List (List aa×af)}{VN:List au},gD g J WG VN->∀h∈VN,fB g h
 |[],_,VN,c,h,av=>by rw[c.2]at av;cases av
 |q::p,WG,VN,c,h,av=>by
  let⟨d,x,C,@e,a,l,t,b,rfl⟩:=c;rcases bR.mp av with rfl|av
  ·exact⟨_,l,(λ_ a=>by cases a),(λ_ Y a=>by cases a)⟩
  ·exact gD.chg b h av
mutual
theorem b7.chg{g:aA}:∀{o:ak}{r:af}{L:List au},b7 g o r L->∀h∈L,fB g h
 |.im o,r,L,c,h,av=>by rw[c.2]at av;cases av
 |.c2,r,L,c,h,av=>by rw[show L=[] from c]at av;cases av
 |.da E,r,L,c,d,ag=>by
  let⟨h,x,@n,rfl,l,t,rfl⟩:=c;cases ag
 |.lst E,r,L,c,d,ag=>by
  let⟨h,@x,rfl,l,t,rfl⟩:=c;rw[cR.mp ag];exact⟨_,l,(λ_ a=>by cases a),(λ_ Y a=>by cases a)⟩
 |.dA VR,r,L,c,d,ag=>by
  let⟨h,@x,rfl,l,t,rfl⟩:=c;rw[cR.mp ag];exact⟨_,l,(λ_ a=>by cases a),(λ_ Y a=>by cases a)⟩
 |.aB VR,r,L,c,d,ag=>by
  let⟨h,@x,rfl,l,t,rfl⟩:=c;rw[cR.mp ag];exact⟨_,l,(λ_ a=>by cases a),(λ_ Y a=>by cases a)⟩
 |.g4 E,r,L,c,d,ag=>by
  let⟨h,x,@VN,rfl,l,t,rfl⟩:=c;rcases bR.mp ag with rfl|ag
  ·exact⟨_,l,(λ_ a=>by cases a),(λ_ Y a=>by cases a)⟩
  ·exact en.chg t d ag
 |.pA E,r,L,c,d,ag=>by
  let⟨h,@x,rfl,l,t⟩:=c;exact en.chg t d ag
 |.di VR,r,L,c,d,ag=>by
  let⟨h,x,@n,rfl,l,t,rfl⟩:=c;cases ag
 |.dL VR,r,L,c,d,ag=>by
  let⟨h,WB,@VN,rfl,l,t,rfl⟩:=c;rcases bR.mp ag with rfl|ag
  ·exact⟨_,l,(λ_ a=>by cases a),(λ_ Y a=>by cases a)⟩
  ·exact t.chg d ag
theorem en.chg{g:aA}:∀{E:List ak}{P:List af}{L:List au},en g E P L->∀h∈L,fB g h
 |[],P,L,c,h,av=>by rw[c.2]at av;cases av
 |o::E,P,L,c,h,av=>by
  let⟨r,p,V9,@Wg,rfl,l,t,rfl⟩:=c;rcases d8.mp av with av|av
  ·exact b7.chg l h av
  ·exact en.chg t h av
end
theorem en.length:∀{E:List ak}{P:List af}{L:List au},en g E P L->E.length=P.length
 |[],P,L,c=>by rw[c.1];rfl
 |o::E,P,L,c=>by
  let⟨r,p,V9,@Wg,rfl,l,t,rfl⟩:=c;rw[cn,cn,t.length]
theorem bC.length:∀{E:List aa}{P:List af},bC g E P->E.length=P.length
 |[],P,c=>by rw[show P=[] from c];rfl
 |o::E,P,c=>by
  let⟨r,@p,rfl,l,t⟩:=c;rw[cn,cn,t.length]
def mi(g:aA):Option ak->Option af->List au->Prop
 |none,_,L=>L=[]
 |some o,b,L=>∃r,b=Z r/\b7 g o r L
def bp(g:aA):aU->a3->List au->Prop
 |[],y,L=>y=[]/\L=[]
 |n::w,y,L=>∃b p V9 Wg,y=b::p/\mi g n b V9/\bp g w p Wg/\L=V9++Wg
structure bb(g:aA)(L:List au)(F:aA)(Ww:List au):Prop where
 keep:∀h n,g h=Z n->h∉L->F h=Z n
 sub:∀h∈Ww,h∈L\/g h=X
 ae:Ww.Nodup
 tup:fa g F
 grow:∀h n,g h=Z n->∃WN,F h=Z WN
theorem mi.mono(H:fa g F):∀{n:Option ak}{b:Option af}{L:List au},mi g n b L->(∀h∈L,∀n,g h=Z n->F h=Z n)->mi F n b L
 |none,_,_,c,_=>c
 |some o,b,L,c,s=>by
  let⟨@r,rfl,c⟩:=c;exact⟨r,rfl,c.mono H s⟩
theorem bp.mono{g F:aA}(H:fa g F):∀{w:aU}{y:a3}{L:List au},bp g w y L->(∀h∈L,∀n,g h=Z n->F h=Z n)->bp F w y L
 |[],y,L,c,_=>c
 |n::w,y,L,c,s=>by
  let⟨b,p,V9,@Wg,rfl,l,t,rfl⟩:=c;exact⟨b,p,V9,Wg,rfl,l.mono H λh av=>s h<|eb _ av,bp.mono H t λh av=>s h<|er _ av,rfl⟩
theorem mi.chg:∀{n:Option ak}{b:Option af}{L:List au},mi g n b L->∀h∈L,fB g h
 |none,_,L,c,h,av=>by rw[show L=[] from c]at av;cases av
 |some o,b,L,c,h,av=>by
  let⟨@r,rfl,c⟩:=c;exact c.chg h av
theorem bp.chg{g:aA}:∀{w:aU}{y:a3}{L:List au},bp g w y L->∀h∈L,fB g h
 |[],y,L,c,h,av=>by rw[c.2]at av;cases av
 |n::w,y,L,c,h,av=>by
  let⟨b,p,V9,@Wg,rfl,l,t,rfl⟩:=c;rcases d8.mp av with av|av
  ·exact l.chg h av
  ·exact bp.chg t h av
theorem bp.len{g:aA}:∀{w:aU}{y:a3}{L:List au},bp g w y L->w.length=y.length
 |[],y,L,c=>by rw[c.1];rfl
 |n::w,y,L,c=>by
  let⟨b,p,V9,@Wg,rfl,l,t,rfl⟩:=c;rw[cn,cn,bp.len t]
def ak.cT:ak->Bool
 |.im _=>ab
 |.da _=>ab
 |.di _=>ab
 |_=>az
def b7.cT(c:b7 g o r L)(f:o.cT=ab):L=[]:=by
 cases o with
 |im o=>exact c.2
 |da E=>let⟨h,x,@n,rfl,l,t,rfl⟩:=c;rfl
 |di E=>let⟨h,x,@n,rfl,l,t,rfl⟩:=c;rfl
 |_=>cases f
theorem bp.out{g:aA}:∀{w:aU}{y:a3}{L:List au}{j:Nat}{o:ak},bp g w y L->w[j]?=Z (Z o)->∃r V9 Wg,y[j]?=Z (Z r)/\b7 g o r V9/\bp g (w.set j<|Z .c2) y Wg/\(Wg++V9).Perm L
 |[],y,L,j,o,c,a=>by simp at a
 |n::w,y,L,0,o,c,a=>by
  let⟨b,p,V9,@Wg,rfl,l,t,rfl⟩:=c;simp at a;subst a;let⟨@r,rfl,l⟩:=l;exact⟨r,V9,Wg,rfl,l,⟨Z r,p,[],Wg,rfl,⟨r,rfl,rfl⟩,t,rfl⟩,ea⟩
 |n::w,y,L,j+1,o,c,a=>by
  let⟨b,p,V9,@Wg,rfl,l,t,rfl⟩:=c;let⟨r,e,@d,f,h,i,k⟩:=bp.out (j:=j) t ⇑a;refine⟨r,e,V9++d,by simpa using f,h,⟨b,p,V9,d,rfl,l,i,rfl⟩,?_⟩;rw[bV];exact fC _ k
theorem bp.put{g:aA}:∀{w:aU}{y:a3}{L:List au}{j:Nat}{o:ak}{r:af}{VN:List au},bp g w y L->b7 g o r VN->j<w.length->∃V9 Wg,bp g (w.set j<|Z o) (y.set j<|Z r) V9/\(V9++Wg).Perm (L++VN)
 |[],y,L,j,o,r,VN,c,C,J=>by simp at J
 |n::w,y,L,0,o,r,VN,c,C,J=>by
  let⟨b,p,V9,@Wg,rfl,l,t,rfl⟩:=c;refine⟨VN++Wg,V9,⟨Z r,p,VN,Wg,rfl,⟨r,rfl,C⟩,t,rfl⟩,?_⟩;refine ea.trans ?_;rw[bV];exact fC _ ea
 |n::w,y,L,j+1,o,r,VN,c,C,J=>by
  let⟨b,p,V9,@Wg,rfl,l,t,rfl⟩:=c;let⟨a,@d,e,f⟩:=bp.put (j:=j) t C ⇑J;refine⟨V9++a,d,⟨b,_,V9,a,rfl,l,e,rfl⟩,?_⟩;rw[bV,bV];exact fC _ f
def bp.cT{j:Nat}(c:bp g w y L)(a:w[j]?=Z (Z o))(f:o.cT=ab):∃r,y[j]?=Z (Z r)/\b7 g o r []:=by
 let⟨r,V9,@Wg,d,b,Y⟩:=c.out a;obtain rfl:=b.cT f;exact⟨r,d,b⟩
def NR{j:Nat}(c:y[j]?=Z (Z r)):y.set j (Z r)=y:=by
 refine wI λA=>?_;by_cases a:j=A
 ·subst a;rw[c,tR (fM.mp c).1]
 ·rw[n6 a]
def bp.back{j:Nat}(c:bp g w y L)(C:b7 g o r VN)(a:y[j]?=Z (Z r)):∃V9 Wg,bp g (w.set j<|Z o) y V9/\(V9++Wg).Perm (L++VN):=by
 have J:j<w.length:=by rw[c.len];exact (fM.mp a).1
 let⟨V9,@Wg,l,t⟩:=c.put (j:=j) C J;rw[NR a]at l;exact⟨V9,Wg,l,t⟩
def fa.of(z:ra g F)(N:∀h n I,g h=Z (.c6 n I)->F h=Z (.c6 n I)):fa g F:=⟨⟨z,N⟩,N⟩
def KW(g:aA):fa g g:=⟨⟨λ_ Y a=>a,λ_ Y Y a=>a⟩,λ_ Y Y a=>a⟩
def fa.trans(h:fa g VT)(d:fa VT V8):fa g V8:=⟨⟨λb x a=>d.tup.t b x<|h.tup.t b x a,λb n I a=>d.c6 b n I<|h.c6 b n I a⟩,λb n I a=>d.c6 b n I<|h.c6 b n I a⟩
def bb.refl(c:Ww.Nodup)(m:∀h∈Ww,h∈L):bb g L g Ww:=⟨λ_ Y a Y=>a,λh av=>.inl<|m h av,c,KW g,λ_ n a=>⟨n,a⟩⟩
def bb.perm(c:L.Nodup)(q:Ww.Perm L):bb g L g Ww:=bb.refl ((q.nodup_iff).mpr c) λh av=>q.mem_iff.mp av
def bb.trans(h:bb g L VT (V9++VO))(d:bb VT V9 V8 Wg)(k:∀b∈VO,fB VT b):bb g L V8 (Wg++VO):=by
 have ae:=c4.mp h.ae;have m:∀b∈Wg,b∉VO:=λb e j=>by
  rcases d.sub b e with c|c
  ·exact ae.2.2 b c b j rfl
  ·let⟨@n,a,Y⟩:=k b j;rw[a]at c;cases c
 refine⟨λb n a e=>?_,λb e=>?_,c4.mpr ⟨d.ae,ae.2.1,λb e i o a=>m b e<|a ▸ o⟩,h.tup.trans d.tup,λb n a=>let ⟨WN,f⟩:=h.grow b n a;d.grow b WN f⟩
 ·refine d.keep b n (h.keep b n a e) λl=>?_;rcases h.sub b (eb _ l) with c|c
  ·exact e c
  ·rw[a]at c;cases c
 ·rcases d8.mp e with e|e
  ·rcases d.sub b e with c|c
   ·exact h.sub b (eb _ c)
   ·refine .inr ?_;cases a:g b with
    |none=>rfl
    |some n=>
     let⟨@WN,f⟩:=h.grow b n a;rw[f]at c;cases c
  ·exact h.sub b (er _ e)
def cX.tupS(m:cX g F):fa g F:=⟨⟨λh x a=>m h _ a,λh n I a=>m h _ a⟩,λh n I a=>m h _ a⟩
def HR{h d:au}{n I:fz}(a:g d=Z n)(c:g h=X):L2.upd g h I d=Z n:=by rw[cP (hy a c)];exact a
def cX.upd(m:cX g F){h:au}{n:fz}(c:F h=X):cX g (L2.upd F h n):=λd I a=>HR (m d I a) c
abbrev aD(V7:Type):=aU->Option (V7×aU)
variable{Xf:aD ak}{W7 s:aD Bool}
inductive bE where
 | aS (j:Nat)
 | b3 (o:ak)
variable{WO WV:aD bE}{N:aD (List bE)}
def eC(w:aU):bE->Option ak
 |.aS j=>(w[j]?).getD X
 |.b3 o=>Z o
def iu(g:aA)(y:a3):bE->af->List au->Prop
 |.aS j,r,VO=>y[j]?=Z (Z r)/\VO=[]
 |.b3 o,r,VO=>b7 g o r VO
def lB(N:aD ak):bU:=(λy g D=>∃w L p Wb,bp g w y L/\L.Nodup/\N w=Z (p,Wb)/\∀r F Ww VO,bp F Wb y Ww->b7 F p r VO->bb g L F (Ww++VO)->D r F)
def mP(N:aD bE):bU:=(λy g D=>∃w L p Wb,bp g w y L/\L.Nodup/\N w=Z (p,Wb)/\∀r F Ww VO,bp F Wb y Ww->iu F y p r VO->bb g L F (Ww++VO)->D r F)
def jE(N:aD Bool):ew:=(λy g D=>∃w L d Wb,bp g w y L/\L.Nodup/\N w=Z (d,Wb)/\∀F Ww,bp F Wb y Ww->bb g L F Ww->D d F)
def b2(e:aM)(a:a7)(N:aD ak):Prop:=(∀ ⦃q⦄,y5 e a (lB N) q)
def dO(e:aM)(a:a7)(N:aD bE):Prop:=(∀ ⦃q⦄,y5 e a (mP N) q)
def hP(e:aM)(a:a7)(N:aD Bool):Prop:=(∀ ⦃q⦄,D4 e a (jE N) q)
def d_{H Wr:bU}(c:bj e a H)(j:∀y g D,Wr y g D->H y g D):bj e a Wr:=λG m y g D B b=>c G m y g D B (j y g D b)
def qW{H:ew}(c:hq e a H)(j:∀y g D,Wr y g D->H y g D):hq e a Wr:=λG m y g D B b=>c G m y g D B (j y g D b)
def iu.mono{p:bE}(c:iu g y p r VO)(H:fa g F)(s:∀h∈VO,∀n,g h=Z n->F h=Z n):iu F y p r VO:=by
 cases p with
 |aS j=>exact c
 |b3 o=>exact b7.mono H c s
def iu.chg{p:bE}(c:iu g y p r VO):∀h∈VO,fB g h:=by
 cases p with
 |aS j=>intro h av;rw[c.2]at av;cases av
 |b3 o=>exact b7.chg c
def fq(g:aA)(o:ak)(r:af):Prop:=(∃VO,b7 g o r VO)
def iu.read{p:bE}(c:iu g y p r VO)(R:bp g w y L)(a:eC w p=Z o):fq g o r:=by
 cases p with
 |b3 f=>cases a;exact⟨VO,c⟩
 |aS j=>
  have d:w[j]?=Z (Z o):=by
   have:(w[j]?).getD X=Z o:=a;cases u:w[j]? with
   |none=>rw[u]at this;cases this
   |some n=>rw[u]at this;rw[show n=Z o from this]
  let⟨h,V9,@Wg,b,e,Y⟩:=R.out d;rw[c.1]at b;cases b;exact⟨V9,e⟩
@[simp] def c8(j:Nat):aD ak:=λw=>match w[j]? with
 |some (Z o)=>if o.cT=ab then Z (o,w) else Z (o,w.set j<|Z .c2)
 |_=>X
def aG(o:aa):aD ak:=(λw=>Z (.im o,w))
@[simp] def aj(j:Nat):aD bE:=λw=>match w[j]? with
 |some (Z _)=>Z (.aS j,w)
 |_=>X
@[simp] def ai(N:aD ak):aD bE:=λw=>(N w).map λq=>(.b3 q.1,q.2)
section
variable{e:aM}
variable{j:Nat}
def d0(c:bj e a (gY j)):b2 e a (c8 j):=by
 refine d_ c λy g D d=>?_;let⟨w,L,p,@Wb,R,ae,b,u⟩:=d;unfold c8 at b;split at b
 ·rename_i o hd;split at b
  ·rename_i f;cases b;let⟨@r,l,t⟩:=R.cT hd f;exact⟨r,l,u r g L [] R t (by rw[b4];exact bb.perm ae (List.Perm.refl _))⟩
  ·cases b;let⟨r,V9,@Wg,l,t,h,i⟩:=R.out hd;exact⟨r,l,u r g Wg V9 h t<|bb.perm ae i⟩
 ·cases b
def Qk(c:bj e a (gY j)):dO e a (aj j):=by
 refine d_ c λy g D d=>?_;let⟨w,L,p,@Wb,R,ae,b,u⟩:=d;unfold aj at b;split at b
 ·rename_i o hd;cases b;let⟨r,V9,@Wg,l,t,f,h⟩:=R.out hd;exact⟨r,l,u r g L [] R ⟨l,rfl⟩ (by rw[b4];exact bb.perm ae (List.Perm.refl _))⟩
 ·cases b
def aY{N:aD ak}(c:b2 e a N):dO e a (ai N):=by
 refine d_ c λy g D d=>?_;let⟨w,L,p,@Wb,R,ae,b,u⟩:=d;unfold ai at b;let⟨@⟨WK,VQ⟩,l,t⟩:=ck.mp b;cases t;exact⟨w,L,WK,_,R,ae,l,u⟩
def v3{o:aa}(c:bj e a (od r))(hd:∀g,cp g o r):b2 e a (aG o):=by
 refine d_ c λy g D b=>?_;let⟨w,L,p,@Wb,R,ae,d,u⟩:=b;cases d;exact u r g L [] R ⟨hd g,rfl⟩ (by rw[b4];exact bb.perm ae (List.Perm.refl _))
def fZ{j:Int}{A V3}:b2 e (.Constant (.int j) A V3) (aG<|.int j):=v3 n8 λ_=>rfl
def i0{d:Bool}{A V3}:b2 e (.Constant (.bool d) A V3) (aG<|.aJ d):=v3 So λ_=>rfl
def two{VQ Wi:aU}{b i:bE}{U:af->af->aA->Prop}(R:bp g w y L)(ae:L.Nodup)(av:WV w=Z (b,VQ))(ag:WO VQ=Z (i,Wi))(s:∀r I F Ww d b0,bp F Wi y Ww->iu F y b r d->iu F y i I b0->bb g L F ((Ww++b0)++d)->U r I F):mP WV y g λr VT=>mP WO y VT λI V8=>U r I V8:=by
 refine⟨w,L,b,VQ,R,ae,av,λr VT V9 d j Wd e=>⟨VQ,V9,i,Wi,j,(c4.mp e.ae).1,ag,λI V8 Wg b0 k Wu f=>?_⟩⟩;refine s r I V8 Wg d b0 k (Wd.mono f.tup λh av n a=>f.keep h n a λc=>?_) Wu (e.trans f Wd.chg);exact (c4.mp e.ae).2.2 h c h av rfl
def bb.new{e:List au}(h:bb g L VT (V9++VO))(m:cX VT V8)(ae:e.Nodup)(j:∀b∈e,VT b=X)(f:∀b∈V9,fB VT b):bb g L V8 (V9++e):=by
 refine⟨λb n a c=>m _ _<|h.keep b n a c,λb c=>?_,c4.mpr ⟨(c4.mp h.ae).1,ae,λb c i k a=>?_⟩,h.tup.trans m.tupS,λb n a=>let ⟨WN,d⟩:=h.grow b n a;⟨WN,m _ _ d⟩⟩
 ·rcases d8.mp c with c|c
  ·exact h.sub b (eb _ c)
  ·refine .inr ?_;cases a:g b with
   |none=>rfl
   |some n=>
    let⟨@WN,d⟩:=h.grow b n a;rw[j b c]at d;cases d
 ·subst a;let⟨@n,a,Y⟩:=f b c;rw[j b k]at a;cases a
def fx(e:aM)(z:ah->ah->fK ah)(Wx:ak->ak->Option ak):Prop:=(
 ek e z λb i g D=>∃Wz WE o,fq g Wz b/\fq g WE i/\Wx Wz WE=Z o/\∀r F VO,cX g F->b7 F o r VO->VO.Nodup->(∀h∈VO,g h=X)->D r F)
@[simp] def ac(Wx:ak->ak->Option ak)(WV WO:aD bE):aD ak:=λw=>(WV w).bind λq=>(WO q.2).bind λu=>(eC u.2 q.1).bind λWz=>(eC u.2 u.1).bind λWE=>(Wx Wz WE).map λo=>(o,u.2)
def sZ{Wx:ak->ak->Option ak}(c:lB (ac Wx WV WO) y g D):
  mP WV y g λb VT=>mP WO y VT λi V8=>∃Wz WE o,fq V8 Wz b/\fq V8 WE i/\Wx Wz WE=Z o/\∀r F VO,cX V8 F->b7 F o r VO->VO.Nodup->(∀h∈VO,V8 h=X)->D r F:=by
 let⟨w,L,p,@Wb,R,ae,d,u⟩:=c;unfold ac at d;let⟨@⟨b,VQ⟩,av,d⟩:=bq.mp d;let⟨@⟨i,Wi⟩,ag,d⟩:=bq.mp d;let⟨@Wz,l,d⟩:=bq.mp d;let⟨@WE,t,d⟩:=bq.mp d;let⟨@o,k,d⟩:=ck.mp d;cases d;refine two R ae av ag λr I V8 Wg x b0 e Wd Wu j=>⟨Wz,WE,_,Wd.read e l,Wu.read e t,k,λC m VO f q s v=>?_⟩;rw[bV]at j;exact u C m Wg VO (e.mono f.tupS λh Y n a=>f h n a) q (j.new f s v e.chg)
def hI{Wx:l2}(a:fx e (gk Wx) z)(av:dO e h WV)(ag:dO e d WO):b2 e (.BinOp h Wx d V3) (ac z WV WO):=
 d_ (Ux a av ag) λ_ Y Y c=>sZ c
variable{Wx:kN}
def qH(a:fx e (eL Wx) z)(av:dO e h WV)(ag:dO e d WO)(b:oX Wx d=az):b2 e (.Compare h [Wx] [d] V3) (ac z WV WO):=
 d_ (Rg a av ag b) λ_ Y Y c=>sZ c
def Ml(a:i6 e (λb i g D=>∃Wz WE o,fq g Wz b/\fq g WE i/\z Wz WE=Z o/\∀r F VO,cX g F->b7 F o r VO->VO.Nodup->(∀h∈VO,g h=X)->D r F))(av:dO e h WV)(ag:dO e d WO)(f:qI d):b2 e (.Subscript h d V3) (ac z WV WO):=
 d_ (Jr a av ag f) λ_ Y Y c=>sZ c
@[simp] def nV:ak->Option Bool
 |.im (.aJ d)=>Z d
 |_=>X
@[simp] def bO(N:aD ak):aD Bool:=λw=>(N w).bind λq=>(nV q.1).map λd=>(d,q.2)
def sj{d:Bool}(c:nV o=Z d):o=.im (.aJ d):=by
 unfold nV at c;split at c
 ·cases c;rfl
 ·cases c
def dt(b:fx e (eL Wx) z)(av:dO e h WV)(ag:dO e d WO)(c:oX Wx d=az):hP e (.Compare h [Wx] [d] V3) (bO<|ac z WV WO):=by
 refine qW (TC b av ag c) λy g D i=>?_;let⟨w,L,f,@Wb,R,ae,j,u⟩:=i;refine sZ ⟨w,L,.im<|.aJ f,Wb,R,ae,?_,λr F Ww VO k a m=>⟨f,a.1,u F Ww k (by rw[a.2,b4]at m;exact m)⟩⟩;let⟨@q,l,t⟩:=bq.mp j;let⟨@p,n,o⟩:=ck.mp t;cases o;rw[l,<-sj n]
@[simp] def ko(N:aD Bool):aD Bool:=λw=>(N w).map λq=>(!q.1,q.2)
variable{N:aD Bool}
def sL(c:hP e h N):hP e (.UnaryOp .Not h V3) (ko N):=by
 refine qW (TN c) λy g D a=>?_;let⟨w,L,f,@Wb,R,ae,b,u⟩:=a;let⟨@q,l,t⟩:=ck.mp b;cases t;exact⟨w,L,q.1,_,R,ae,l,u⟩
@[simp] def g6(N c:aD Bool):aD Bool:=λw=>(N w).bind λq=>if q.1=ab then c q.2 else Z (az,q.2)
@[simp] def i2(N c:aD Bool):aD Bool:=λw=>(N w).bind λq=>if q.1=ab then Z (ab,q.2) else c q.2
variable{D:Bool->aA->Prop}{c:aD Bool}
def F3(C:jE (g6 N c) y g D):A6 (jE N) (jE c) y g D:=by
 let⟨w,L,f,@Wb,R,ae,h,u⟩:=C;let⟨@⟨d,VQ⟩,l,t⟩:=bq.mp h;refine⟨w,L,d,VQ,R,ae,l,λVT V9 e a=>?_⟩;cases d with
 |true=>
  rw[aH rfl];rw[aH rfl]at t;exact⟨VQ,V9,f,Wb,e,a.ae,t,λV8 Wg i j=>u V8 Wg i (by
   have:=bb.trans (VO:=[]) (by rw[b4];exact a) j (λb k=>nomatch k)
   rwa [b4]at this)⟩
 |false=>
  rw[if_neg dw]at t ⊢;cases t;exact u VT V9 e a
def Q3(C:jE (i2 N c) y g D):JQ (jE N) (jE c) y g D:=by
 let⟨w,L,f,@Wb,R,ae,h,u⟩:=C;let⟨@⟨d,VQ⟩,l,t⟩:=bq.mp h;refine⟨w,L,d,VQ,R,ae,l,λVT V9 e a=>?_⟩;cases d with
 |false=>
  rw[if_neg dw]at t ⊢;exact⟨VQ,V9,f,Wb,e,a.ae,t,λV8 Wg i j=>u V8 Wg i (by
   have:=bb.trans (VO:=[]) (by rw[b4];exact a) j (λb k=>nomatch k)
   rwa [b4]at this)⟩
 |true=>
  rw[aH rfl]at t ⊢;cases t;exact u VT V9 e a
def gy(e:aM)(a:a7)(N:aD Bool):Prop:=(∀ ⦃q⦄,JG e a (jE N) q)
def FO{H:ew}(c:ki e a H)(j:∀y g D,Wr y g D->H y g D):ki e a Wr:=λb G m y g D B d=>c b G m y g D B (j y g D d)
def rR(c:hP e h N):gy e (.BoolOp .And [h] V3) N:=LR c
def px(c:hP e h N):gy e (.BoolOp .Or [h] V3) N:=QH c
def o6(c:hP e h N)(ag:gy e (.BoolOp .And (d::p) V3) s):gy e (.BoolOp .And (h::d::p) V3) (g6 N s):=FO (Ss c ag) λ_ Y Y C=>F3 C
def m2(c:hP e h N)(ag:gy e (.BoolOp .Or (d::p) V3) s):gy e (.BoolOp .Or (h::d::p) V3) (i2 N s):=FO (PN c ag) λ_ Y Y C=>Q3 C
def gy.jX(c:gy e a N):hP e a N:=ki.pt c
@[simp] def kb(N:aD Bool):aD ak:=λw=>(N w).map λq=>(.im<|.aJ q.1,q.2)
def zH(c:b2 e a (kb N)):bj e a λy g D=>jE N y g λd F=>D (.aJ d) F:=by
 refine d_ c λy g D h=>?_;let⟨w,L,f,@Wb,R,ae,i,u⟩:=h;refine⟨w,L,.im<|.aJ f,Wb,R,ae,by unfold kb;rw[i];rfl,λr F Ww VO j b m=>?_⟩;rw[show r=.aJ f from b.1];exact u F Ww j (by rw[b.2,b4]at m;exact m)
def Fu(c:bj e a λy g D=>jE N y g λd F=>D (.aJ d) F):b2 e a (kb N):=by
 refine d_ c λy g D b=>?_;let⟨w,L,p,@Wb,R,ae,f,u⟩:=b;let⟨@q,l,t⟩:=ck.mp f;cases t;exact⟨w,L,q.1,_,R,ae,l,λF Ww h m=>u _ F Ww [] h ⟨rfl,rfl⟩ (by rw[b4];exact m)⟩
def yz{N:aD ak}(c:b2 e a N):b2 e a (kb<|bO N):=by
 refine d_ c λy g D b=>?_;let⟨w,L,p,@Wb,R,ae,d,u⟩:=b;let⟨@q,l,t⟩:=ck.mp d;let⟨@c_,h,i⟩:=bq.mp l;let⟨@f,j,k⟩:=ck.mp i;cases k;cases t;exact⟨w,L,c_.1,_,R,ae,h,by rw[sj j];exact u⟩
def Tn(c:b2 e h (kb N)):b2 e (.UnaryOp .Not h V3) (kb<|ko N):=by
 refine Fu (d_ (Qw<|zH c) λy g D a=>?_);let⟨w,L,f,@Wb,R,ae,b,u⟩:=a;let⟨@q,l,t⟩:=ck.mp b;cases t;exact⟨w,L,q.1,_,R,ae,l,λF Ww d m=>⟨_,rfl,u F Ww d m⟩⟩
def S5{Wx}{N:aD ak}(c:b2 e h N):b2 e (.BoolOp Wx [h] V3) N:=Tg c
def Kh(c:b2 e h (kb N))(ag:b2 e (.BoolOp .And (d::p) V3) (kb s)):b2 e (.BoolOp .And (h::d::p) V3) (kb<|g6 N s):=by
 refine Fu (d_ (Lj (zH c)<|zH ag) λy g D C=>?_);have:=F3 C;let⟨w,L,f,@Wb,R,ae,a,u⟩:=this;exact⟨w,L,f,Wb,R,ae,a,λF Ww b m=>⟨f,rfl,u F Ww b m⟩⟩
@[simp] def x5(f:aD Bool)(h d:aD ak):aD ak:=λw=>(f w).bind λq=>if q.1=ab then h q.2 else d q.2
def bb.seq(h:bb g L VT V9)(d:bb VT V9 V8 Wg):bb g L V8 Wg:=by
 have:=bb.trans (VO:=[]) (by rw[b4];exact h) d (λb a=>nomatch a)
 rwa [b4]at this
def OS{WV WO:aD ak}(k:hP e f W7)(av:b2 e h WV)(ag:b2 e d WO):b2 e (.IfExp f h d V3) (x5 W7 WV WO):=by
 refine d_ (RH k av ag) λy g D m=>?_;let⟨w,L,p,@Wb,R,ae,n,u⟩:=m;let⟨@⟨H,VQ⟩,l,t⟩:=bq.mp n;refine⟨w,L,H,VQ,R,ae,l,λVT V9 j a=>?_⟩;cases H with
 |true=>
  rw[aH rfl]at t ⊢;exact⟨VQ,V9,p,Wb,j,a.ae,t,λr V8 Wg VO b c i=>u r V8 Wg VO b c<|a.seq i⟩
 |false=>
  rw[if_neg dw]at t ⊢;exact⟨VQ,V9,p,Wb,j,a.ae,t,λr V8 Wg VO b c i=>u r V8 Wg VO b c<|a.seq i⟩
end
def la(g:aA)(y:a3):List bE->List af->List au->Prop
 |[],P,VO=>P=[]/\VO=[]
 |n::V6,P,VO=>∃r p a b0,P=r::p/\iu g y n r a/\la g y V6 p b0/\VO=a++b0
def hi(N:aD (List bE)):eT:=(λy g D=>∃w L p Wb,bp g w y L/\L.Nodup/\N w=Z (p,Wb)/\∀P F Ww VO,bp F Wb y Ww->la F y p P VO->bb g L F (Ww++VO)->D P F)
def fG(e:aM)(Q:List a7)(N:aD (List bE)):Prop:=(∀ ⦃q⦄,F0 e Q (hi N) q)
def Cs{H Wr:eT}(c:hl e Q H)(j:∀y g D,Wr y g D->H y g D):hl e Q Wr:=λV3 G m y g D B a=>c V3 G m y g D B (j y g D a)
def ay:aD (List bE):=(λw=>Z ([],w))
@[simp] def ao(N:aD bE)(c:aD (List bE)):aD (List bE):=λw=>(N w).bind λq=>(c q.2).map λu=>(q.1::u.1,u.2)
def bb.kB(m:bb g L F O)(q:O.Perm Wf):bb g L F Wf:=⟨m.keep,λh av=>m.sub h<|q.mem_iff.mpr av,(q.nodup_iff).mp m.ae,m.tup,m.grow⟩
def bb.less(m:bb g L F O)(q:(Wf++aN).Perm O):bb g L F Wf:=
 ⟨m.keep,λh av=>m.sub h<|q.mem_iff.mp<|eb _ av,(c4.mp<|(q.nodup_iff).mpr m.ae).1,m.tup,m.grow⟩
section
variable{e:aM}
def jb:fG e [] ay:=by
 refine Cs yG λy g D a=>?_;let⟨w,L,p,@Wb,R,ae,b,u⟩:=a;cases b;exact u [] g L [] R ⟨rfl,rfl⟩ (by rw[b4];exact bb.perm ae (List.Perm.refl _))
def mE{N:aD bE}{c:aD (List bE)}(j:dO e a N)(k:fG e Q c)(m:bA (a::Q) e.env=(az,bM a e.env)::bA Q e.env:=by rfl):fG e (a::Q) (ao N c):=by
 refine Cs (uo j k m) λy g D o=>?_;let⟨w,L,p,@Wb,R,ae,q,u⟩:=o;let⟨@⟨b,VQ⟩,l,t⟩:=bq.mp q;let⟨@⟨V5,Wi⟩,s,v⟩:=ck.mp t;cases v;refine⟨w,L,b,VQ,R,ae,l,λr VT V9 i x Wd d=>⟨VQ,V9,V5,_,x,(c4.mp d.ae).1,s,λP V8 Wg b0 z Wu f=>?_⟩⟩;refine u (r::P) V8 Wg (i++b0) z ⟨r,P,i,b0,rfl,Wd.mono f.tup λh av n a=>f.keep h n a λc=>?_,Wu,rfl⟩ ((d.trans f Wd.chg).kB ?_)
 ·exact (c4.mp d.ae).2.2 h c h av rfl
 ·rw[bV];exact fC _ ea
end
def gA(w:aU):List bE->Option (List ak)
 |[]=>Z []
 |n::V6=>(eC w n).bind λo=>(gA w V6).map λE=>o::E
def m3(g:aA):List ak->List af->Prop
 |[],P=>P=[]
 |o::E,P=>∃r p,P=r::p/\fq g o r/\m3 g E p
theorem la.read{g:aA}{w:aU}{y:a3}{L:List au}(R:bp g w y L):∀{V6:List bE}{P:List af}{VO:List au}{E:List ak},la g y V6 P VO->gA w V6=Z E->m3 g E P
 |[],_,_,_,c,a=>by cases a;exact c.1
 |n::V6,_,_,_,c,a=>by
  let⟨r,p,h,@b0,rfl,l,t,rfl⟩:=c;let⟨@o,b,d⟩:=bq.mp a;let⟨@E,e,f⟩:=ck.mp d;cases f;exact⟨r,p,rfl,l.read R b,la.read R t e⟩
def eK:List bE->aU->Option (List ak×aU)
 |[],w=>Z ([],w)
 |.b3 o::V6,w=>(eK V6 w).map λq=>(o::q.1,q.2)
 |.aS j::V6,w=>(c8 j w).bind λq=>(eK V6 q.2).map λu=>(q.1::u.1,u.2)
def B6{j:Nat}(R:bp g w y L)(c:c8 j w=Z (o,Wb)):∃r V9 VO,y[j]?=Z (Z r)/\b7 g o r VO/\bp g Wb y V9/\(V9++VO).Perm L:=by
 unfold c8 at c;split at c
 ·rename_i a hd;split at c
  ·rename_i b;cases c;let⟨@r,l,t⟩:=R.cT hd b;exact⟨r,L,[],l,t,R,by rw[b4]⟩
  ·cases c;let⟨r,V9,@Wg,l,t,d,e⟩:=R.out hd;exact⟨r,Wg,V9,l,t,d,e⟩
 ·cases c
def kP:(O++(Wf++aN)).Perm (Wf++(O++aN)):=by
 rw[<-bV,<-bV];exact gc _ ea
theorem oe{g:aA}{y:a3}:∀{V6:List bE}{P:List af}{VO L:List au}{w Wb:aU}{E:List ak},bp g w y L->la g y V6 P VO->eK V6 w=Z (E,Wb)->∃V9 b,bp g Wb y V9/\en g E P b/\(V9++b).Perm (L++VO)
 |[],_,_,L,_,_,_,R,c,a=>by
  cases a;exact⟨L,[],R,⟨c.1,rfl⟩,by rw[c.2]⟩
 |.b3 o::V6,_,_,L,w,_,_,R,c,a=>by
  let⟨r,p,b,@b0,rfl,l,t,rfl⟩:=c;rw[eK]at a;let⟨@q,f,h⟩:=ck.mp a;cases h;let⟨V9,@d,e,i,k⟩:=oe (Wb:=q.2) (E:=q.1) R t f;exact⟨V9,b++d,e,⟨r,p,b,d,rfl,l,i,rfl⟩,kP.trans<|(fC _ k).trans kP⟩
 |.aS j::V6,_,_,L,w,_,_,R,c,a=>by
  let⟨r,p,b,@b0,rfl,@⟨l,rfl⟩,t,rfl⟩:=c;rw[eK]at a;let⟨@⟨o,VQ⟩,n,s⟩:=bq.mp a;let⟨@q,f,h⟩:=ck.mp s;cases h;let⟨x,V9,@d,e,i,k,u⟩:=B6 R n;rw[l]at e;cases e;let⟨Wg,@m,Wo,Wq,v⟩:=oe (Wb:=q.2) (E:=q.1) k t f;refine⟨Wg,d++m,Wo,⟨r,p,d,m,rfl,i,Wq,rfl⟩,kP.trans<|(fC _ v).trans ?_⟩;rw[<-bV];exact gc _ (ea.trans u)
@[simp] def hB:List bE->List ak->aU->aU
 |.aS j::V6,o::E,w=>hB V6 E (match w[j]? with|some (Z .c2)=>w.set j (Z o)|_=>w)
 |.b3 _::V6,_::E,w=>hB V6 E w
 |_,_,w=>w
theorem sT{g i:aA}{y:a3}:∀{V6:List bE}{E:List ak}{P:List af}{VO L V2:List au}{w:aU},bp g w y L->la i y V6 P V2->en g E P VO->∃V9 b,bp g (hB V6 E w) y V9/\(V9++b).Perm (L++VO)
 |[],E,_,VO,L,_,w,R,_,_=>⟨L,VO,by unfold hB;exact R,List.Perm.refl _⟩
 |.b3 _::V6,[],_,VO,L,_,w,R,_,_=>⟨L,VO,by unfold hB;exact R,List.Perm.refl _⟩
 |.aS _::V6,[],_,VO,L,_,w,R,_,_=>⟨L,VO,by unfold hB;exact R,List.Perm.refl _⟩
 |.b3 _::V6,o::E,_,VO,L,_,w,R,c,C=>by
  let⟨r,p,k,@m,rfl,l,t,rfl⟩:=c;let⟨n,WK,b,@b0,a,cO,h,rfl⟩:=C;cases a;let⟨V9,@d,e,f⟩:=sT (w:=w) R t h;refine⟨V9,b++d,by rw[hB];exact e,kP.trans<|(fC _ f).trans kP⟩
 |.aS j::V6,o::E,_,VO,L,_,w,R,c,C=>by
  let⟨r,p,k,@m,rfl,@⟨l,Y⟩,t,rfl⟩:=c;let⟨n,WK,b,@b0,a,cO,h,rfl⟩:=C;cases a;rw[hB];split
  ·let⟨V9,@VN,e,f⟩:=R.back cO l;let⟨Wg,@d,Wo,Wq⟩:=sT e t h;refine⟨Wg,d++VN,Wo,?_⟩;rw[<-bV,<-bV];refine (gc _ Wq).trans ?_;rw[bV];refine (fC _ ea).trans ?_;rw[<-bV];exact gc _ f
  ·let⟨V9,@d,e,f⟩:=sT R t h;exact⟨V9,b++d,e,kP.trans<|(fC _ f).trans kP⟩
def g7:List ak->Option (List aa)
 |[]=>Z []
 |.im o::E=>(g7 E).map λp=>o::p
 |_::_=>X
@[simp] def sx(E:List ak):ak:=match g7 E with
 |some is=>.im (.tup is)
 |none=>.pA E
@[simp] def qq(E:List ak):ak:=match g7 E with
 |some is=>.lst is
 |none=>.g4 E
theorem zL{g:aA}:∀{E:List ak}{P:List af}{VO:List au}{is:List aa},en g E P VO->g7 E=Z is->bC g is P/\VO=[]
 |[],_,_,_,c,a=>by cases a;exact c
 |.im o::E,_,_,_,c,a=>by
  let⟨r,p,f,@b0,rfl,@⟨l,rfl⟩,t,rfl⟩:=c;rw[g7]at a;let⟨@q,b,d⟩:=ck.mp a;cases d;let@⟨e,rfl⟩:=zL t b;exact⟨⟨r,p,rfl,l,e⟩,rfl⟩
 |.c2::_,_,_,_,_,a=>by rw[g7]at a;cases a;all_goals (intro Y k;cases k)
 |.da _::_,_,_,_,_,a=>by rw[g7]at a;cases a;all_goals (intro Y k;cases k)
 |.lst _::_,_,_,_,_,a=>by rw[g7]at a;cases a;all_goals (intro Y k;cases k)
 |.dA _::_,_,_,_,_,a=>by rw[g7]at a;cases a;all_goals (intro Y k;cases k)
 |.aB _::_,_,_,_,_,a=>by rw[g7]at a;cases a;all_goals (intro Y k;cases k)
 |.g4 _::_,_,_,_,_,a=>by rw[g7]at a;cases a;all_goals (intro Y k;cases k)
 |.pA _::_,_,_,_,_,a=>by rw[g7]at a;cases a;all_goals (intro Y k;cases k)
 |.di _::_,_,_,_,_,a=>by rw[g7]at a;cases a;all_goals (intro Y k;cases k)
 |.dL _::_,_,_,_,_,a=>by rw[g7]at a;cases a;all_goals (intro Y k;cases k)
@[simp] def cY(N:aD (List bE)):aD ak:=λw=>(N w).bind λq=>(eK q.1 q.2).bind λu=>if u.1.length<=100000 then Z (sx u.1,u.2) else X
@[simp] def e0(N:aD (List bE)):aD ak:=λw=>(N w).bind λq=>(eK q.1 q.2).bind λu=>if u.1.length<=100000 then Z (qq u.1,u.2) else X
def UL{E:List ak}{q:au}(m:cX g F)(c:en g E P VO)(a:F q=Z (.tup P)):∃b,b7 F (sx E) (.ref q) b/\b=VO:=by
 unfold sx;split
 ·rename_i is VW;let@⟨d,rfl⟩:=zL c VW;exact⟨[],⟨⟨q,P,rfl,a,d.mono m.tupS.tup⟩,rfl⟩,rfl⟩
 ·exact⟨VO,⟨q,P,rfl,a,c.mono m.tupS λh Y n u=>m h n u⟩,rfl⟩
def Np{E:List ak}{q:au}(m:cX g F)(c:en g E P VO)(a:F q=Z (.lst P)):b7 F (qq E) (.ref q) (q::VO):=by
 unfold qq;split
 ·rename_i is VW;let@⟨b,rfl⟩:=zL c VW;exact⟨q,P,rfl,a,b.mono m.tupS.tup,rfl⟩
 ·exact⟨q,P,VO,rfl,a,c.mono m.tupS λh Y n u=>m h n u,rfl⟩
def mq(c:v<=100000):v<=sizeLine:=dN c ∅
def bb.add{q:au}{n:fz}(h:bb g L VT O)(a:VT q=X)(f:∀b∈O,fB VT b):bb g L (upd VT q n) (O++[q]):=by
 have m:cX VT (upd VT q n):=(cX.refl VT).upd a;have:=bb.new (VO:=[]) (e:=[q]) (by rw[b4];exact h) m (e4 _ _) (λb c=>by rw[cR.mp c];exact a) f;exact this
def bb.same(h:bb g L VT O)(m:cX VT V8):bb g L V8 O:=
 ⟨λb n a c=>m _ _<|h.keep b n a c,h.sub,h.ae,h.tup.trans m.tupS,λb n a=>let ⟨WN,d⟩:=h.grow b n a;⟨WN,m _ _ d⟩⟩
section
variable{e:aM}
def hA{f}(c:fG e Q N):b2 e (.Tuple Q f V3) (cY N):=by
 refine d_ (U4 c) λy g D i=>?_;let⟨w,L,p,@Wb,R,ae,j,u⟩:=i;let⟨@⟨V6,VQ⟩,l,t⟩:=bq.mp j;let⟨@⟨E,Wi⟩,k,b⟩:=bq.mp t;refine⟨w,L,V6,VQ,R,ae,l,λP VT V9 C o Wd r=>?_⟩;let⟨Wg,@b0,s,d,Ws⟩:=oe o Wd k;split at b
 ·rename_i v;cases b;have x:P.length<=100000:=by rw[<-d.length];exact v
  refine⟨mq x,λq z=>?_⟩;have m:cX VT (upd VT q<|.tup P):=(cX.refl VT).upd z;let⟨@A,B,rfl⟩:=UL m d eu;exact u _ _ Wg A (s.mono m.tupS λh Y n a=>m h n a) B ((r.kB Ws.symm).same m)
 ·cases b
def gh(c:fG e Q N):b2 e (.List Q V3) (e0 N):=by
 refine d_ (Pt c) λy g D o=>?_;let⟨w,L,p,@Wb,R,ae,r,u⟩:=o;let⟨@⟨V6,VQ⟩,l,t⟩:=bq.mp r;let⟨@⟨E,Wi⟩,s,f⟩:=bq.mp t;refine⟨w,L,V6,VQ,R,ae,l,λP VT V9 C v Wd x=>?_⟩;let⟨Wg,@b0,j,i,Ws⟩:=oe v Wd s;split at f
 ·rename_i z;cases f;have A:P.length<=100000:=by rw[<-i.length];exact z
  refine⟨mq A,λq k=>?_⟩;have m:cX VT (upd VT q<|.lst P):=(cX.refl VT).upd k;have B:=Np m i (q:=q) eu;refine u _ _ Wg (q::b0) (j.mono m.tupS λh Y n a=>m h n a) B (((x.kB Ws.symm).add k λb d=>?_).kB ?_)
  ·rcases d8.mp d with d|d
   ·exact j.chg b d
   ·exact i.chg b d
  ·rw[bV];exact fC _ ea
 ·cases f
def hc(e:aM)(z:ah)(Wx:List ak->Option ak):Prop:=(
 ez e z λx g D=>∃E o,m3 g E x/\Wx E=Z o/\∀r F VO,cX g F->b7 F o r VO->VO.Nodup->(∀h∈VO,g h=X)->D r F)
@[simp] def bF(Wx:List ak->Option ak)(N:aD (List bE)):aD ak:=λw=>(N w).bind λq=>(gA q.2 q.1).bind λE=>(Wx E).map λo=>(o,q.2)
def EN(c:lB (bF Wx N) y g D):
  hi N y g λx VT=>∃E o,m3 VT E x/\Wx E=Z o/\∀r F VO,cX VT F->b7 F o r VO->VO.Nodup->(∀h∈VO,VT h=X)->D r F:=by
 let⟨w,L,p,@Wb,R,ae,e,u⟩:=c;let⟨@⟨V6,VQ⟩,l,t⟩:=bq.mp e;let⟨@E,f,i⟩:=bq.mp t;let⟨@o,j,k⟩:=ck.mp i;cases k;refine⟨w,L,V6,VQ,R,ae,l,λP VT V9 z b Wd m=>⟨E,_,Wd.read b f,j,λr V8 VO d q s v=>?_⟩⟩;exact u r V8 V9 VO (b.mono d.tupS λh Y n a=>d h n a) q (m.new d s v b.chg)
def Uz{id:String}(d:hc e (.builtin id) Wx)(f:eU e b)(g:e.aL b=X)(h:fw b=Z (.builtin id))(av:fG e (a::Q) N)(i:b ≠ "__name__" := by decide)(j:(b==("__debug__" : aF))=az:=by decide)(k:bA (a::Q) e.env=(az,bM a e.env)::bA Q e.env:=by rfl)(l:(eF V3<|bA Q e.env).any (·.1)=az:=by rfl):
  b2 e (.Call (.Name b q) (a::Q) [] V3) (bF Wx N):=d_ (HF d f g h av i j k l) λ_ Y Y c=>EN c
def hU{S:String}(d:hc e (.type S) Wx)(f:eU e b)(g:e.aL b=X)(h:fw b=Z (.type S))(av:fG e (a::Q) N)(i:b ≠ "__name__" := by decide)(j:(b==("__debug__" : aF))=az:=by decide)(k:bA (a::Q) e.env=(az,bM a e.env)::bA Q e.env:=by rfl)(l:(eF V3<|bA Q e.env).any (·.1)=az:=by rfl):
  b2 e (.Call (.Name b q) (a::Q) [] V3) (bF Wx N):=d_ (Kf d f g h av i j k l) λ_ Y Y c=>EN c
abbrev cG:=List ak->Option (ak×List ak)
def kT(v:Nat)(VN:cG):mc:=(λP g D Y=>P.length=v/\∃E L p I,en g E P L/\L.Nodup/\VN E=Z (p,I)/\∀r F VO a,b7 F p r VO->en F I P a->bb g L F (VO++a)->D r F)
@[simp] def aZ(v:Nat)(VN:cG)(N:aD (List bE)):aD ak:=λw=>(N w).bind λq=>if q.1.length=v then (eK q.1 q.2).bind λu=>(VN u.1).map λp=>(p.1,hB q.1 p.2 u.2) else X
theorem la.length{g:aA}{y:a3}:∀{V6:List bE}{P:List af}{VO:List au},la g y V6 P VO->V6.length=P.length
 |[],_,_,c=>by rw[c.1];rfl
 |n::V6,_,_,c=>by
  let⟨r,p,a,@b0,rfl,l,t,rfl⟩:=c;rw[cn,cn,la.length t]
def Kz{VN:cG}{VP:gK}(c:lB (aZ v VN N) y g D):Bf (kT v VN) [] VP (hi N) y g D:=by
 let⟨w,L,p,@Wb,R,ae,i,u⟩:=c;let⟨@⟨V6,VQ⟩,l,t⟩:=bq.mp i;split at t
 ·rename_i j;let⟨@⟨E,Wi⟩,k,m⟩:=bq.mp t;let⟨@⟨WK,I⟩,o,q⟩:=ck.mp m;cases q;refine⟨w,L,V6,VQ,R,ae,l,λP VT V9 O s Wd x=>?_⟩;let⟨Wg,b0,e,z,Ws⟩:=oe s Wd k;have b:=x.kB (Ws.symm.trans ea);rw[b4];refine⟨by rw[<-Wd.length];exact j,E,b0,_,I,z,(c4.mp b.ae).1,o,λr f VO Q cO A d=>?_⟩;have B:=b.trans d e.chg;have C:∀h∈Wg,h∉b0:=λh av ag=>(c4.mp b.ae).2.2 h ag h av rfl;have F:bp f Wi y Wg:=e.mono d.tup λh av n a=>d.keep h n a (C h av);let⟨G,@H,J,M⟩:=sT F Wd A;refine u r f G VO J cO (B.less (aN:=H) ?_);refine List.Perm.trans ?_ ea;rw[bV];refine (fC _ ea).trans ?_;rw[<-bV];refine (gc _ M).trans ?_;rw[bV];exact fC _ ea
 ·cases t
variable{s:Nat}
def S3{VN:cG}{z:au}(L:iP e.prog e.w e.K e.aL e.base ir s z fd VV (kT v VN))(d:e2 s e.A)(f:eU e b)(g:e.aL b=Z (.ref z))(h:Θ e.K (.ref z)=ab)(ag:jy e.K fd VV [])(av:fG e (a::Q) N)(i:(b==("__debug__" : aF))=az:=by decide)(j:bA (a::Q) e.env=(az,bM a e.env)::bA Q e.env:=by rfl)(k:(eF V3<|bA Q e.env).any (·.1)=az:=by rfl):
  b2 e (.Call (.Name b q) (a::Q) [] V3) (aZ v VN N):=d_ (R9 L d f g h ag .nil MR av i j k) λ_ Y Y c=>Kz c
inductive ly where
 | a8|eQ (o:ak)|e8|ct
abbrev bl:=aU->Option (ly×aU)
def dC(T:List Nat)(y a:a3):Prop:=(a.length=y.length/\∀j∈T,a[j]?=y[j]?)
def dC.refl:dC T y y:=⟨rfl,λ_ Y=>rfl⟩
def dC.trans{a:a3}(h:dC T y Xe)(d:dC T Xe a):dC T y a:=⟨d.1.trans h.1,λj VW=>(d.2 j VW).trans<|h.2 j VW⟩
def dC.set{r:Option af}(c:A∉T):dC T y (y.set A r):=⟨zk,λj VW=>n6 λa=>c (by rw[a];exact VW)⟩
def ri(T:List Nat)(VP:ng)(y:a3)(g:aA)(L:List au)(Wb:aU):ly->Prop
 |.a8=>∀a F Ww,dC T y a->bp F Wb a Ww->bb g L F Ww->VP.a8 a F
 |.e8=>∀a F Ww,dC T y a->bp F Wb a Ww->bb g L F Ww->VP.e8 a F
 |.ct=>∀a F Ww,dC T y a->bp F Wb a Ww->bb g L F Ww->VP.ct a F
 |.eQ o=>∀r a F Ww VO,dC T y a->bp F Wb a Ww->b7 F o r VO->bb g L F (Ww++VO)->VP.eQ r F
def o9(T:List Nat)(N:bl):eR:=(λVP y g=>∃w L aX Wb,bp g w y L/\L.Nodup/\N w=Z (aX,Wb)/\ri T VP y g L Wb aX)
def hp(e:aM)(T:List Nat)(R:cg)(N:bl):Prop:=(∀ ⦃q⦄,Df e R (o9 T N) q)
def ju(e:aM)(T:List Nat)(a:List cg)(N:bl):Prop:=(∀ ⦃q⦄,Cp e a (o9 T N) q)
variable{Wr:eR}
def jC{H:eR}(c:hh e R H)(j:∀VP y g,Wr VP y g->H VP y g):hh e R Wr:=λG m y g w B a=>c G m y g w B (j w y g a)
def Ic{R:List cg}{H:eR}(c:hN e R H)(j:∀VP y g,Wr VP y g->H VP y g):hN e R Wr:=λG m y g w B a=>c G m y g w B (j w y g a)
def ri.on{aX:ly}(c:ri T VP y g L Wb aX)(WJ:dC T y Xe)(m:bb g L VT V9):ri T VP Xe VT V9 Wb aX:=by
 cases aX with
 |a8=>exact λa F Ww z R VY=>c a F Ww (WJ.trans z) R (m.seq VY)
 |e8=>exact λa F Ww z R VY=>c a F Ww (WJ.trans z) R (m.seq VY)
 |ct=>exact λa F Ww z R VY=>c a F Ww (WJ.trans z) R (m.seq VY)
 |eQ o=>exact λr a F Ww VO z R b VY=>c r a F Ww VO (WJ.trans z) R b (m.seq VY)
def fY:bl:=(λw=>Z (.a8,w))
@[simp] def bc(N c:bl):bl:=λw=>(N w).bind λq=>match q.1 with
 |.a8=>c q.2
 |aX=>Z (aX,q.2)
def gW:ju e T [] fY:=by
 refine Ic T1 λVP y g a=>?_;let⟨w,L,aX,@Wb,R,ae,b,u⟩:=a;cases b;exact u y g L dC.refl R (bb.perm ae<|List.Perm.refl _)
variable{N:bl}
def bS(c:hp e T R N):ju e T [R] N:=KR c
def U9{c:bl}(C:o9 T (bc N c) VP y g):JJ (o9 T N) (o9 T c) VP y g:=by
 let⟨w,L,aX,@Wb,R,ae,a,u⟩:=C;let⟨@⟨b,VQ⟩,l,t⟩:=bq.mp a;cases b with
 |a8=>exact⟨w,L,.a8,VQ,R,ae,l,λe F Ww WJ d m=>⟨VQ,Ww,aX,Wb,d,m.ae,t,u.on WJ m⟩⟩
 |e8=>cases t;exact⟨w,L,.e8,VQ,R,ae,l,u⟩
 |ct=>cases t;exact⟨w,L,.ct,VQ,R,ae,l,u⟩
 |eQ o=>cases t;exact⟨w,L,.eQ o,VQ,R,ae,l,u⟩
def bh{a:List cg}{c:bl}(l:hp e T R N)(t:ju e T a c):ju e T (R::a) (bc N c):=Ic (PV l t) λ_ Y Y C=>U9 C
def FD:bl:=(λ_=>X)
def La:hp e T R FD:=jC MN λ_ _ _ ⟨_,_,_,_,_,_,c,_⟩=>by cases c
@[simp] def gN(N:aD ak):bl:=λw=>(N w).map λq=>(.a8,q.2)
variable{N:aD ak}
def hY(c:b2 e a N)(b:oC a X V3.line e.env=pure az:=by rfl):hp e T (.Expr a V3) (gN N):=by
 refine jC (Kb c b) λVP y g d=>?_;let⟨w,L,aX,@Wb,R,ae,f,u⟩:=d;let⟨@⟨p,VQ⟩,l,t⟩:=ck.mp f;cases t;exact⟨w,L,p,_,R,ae,l,λr F Ww VO h i m=>u y F Ww dC.refl h<|m.less<|List.Perm.refl _⟩
@[simp] def c1(N:aD ak):bl:=λw=>(N w).map λq=>(.eQ q.1,q.2)
def dq(c:b2 e a N):hp e T (.Return (Z a) V3) (c1 N):=by
 refine jC (OA c) λVP y g b=>?_;let⟨w,L,aX,@Wb,R,ae,d,u⟩:=b;let⟨@⟨p,VQ⟩,l,t⟩:=ck.mp d;cases t;exact⟨w,L,p,_,R,ae,l,λr F Ww VO f h m=>u r y F Ww VO dC.refl f h m⟩
@[simp] def ep(f:aD Bool)(h d:bl):bl:=λw=>(f w).bind λq=>if q.1=ab then h q.2 else d q.2
variable{WO:bl}
def fQ{h d:List cg}{WV:bl}(c:hP e f W7)(av:ju e T h WV)(ag:ju e T d WO):hp e T (.If f h d V3) (ep W7 WV WO):=by
 refine jC (Uh c av ag) λVP y g i=>?_;let⟨w,L,aX,@Wb,R,ae,j,u⟩:=i;let⟨@⟨H,VQ⟩,l,t⟩:=bq.mp j;refine⟨w,L,H,VQ,R,ae,l,λVT V9 b a=>?_⟩;cases H with
 |true=>
  rw[aH rfl]at t ⊢;exact⟨VQ,V9,aX,Wb,b,a.ae,t,u.on dC.refl a⟩
 |false=>
  rw[if_neg dw]at t ⊢;exact⟨VQ,V9,aX,Wb,b,a.ae,t,u.on dC.refl a⟩
@[simp] def bI(j:Nat)(N:aD ak):bl:=λw=>(N w).bind λq=>if j<q.2.length then Z (.a8,q.2.set j<|Z q.1) else X
variable{j:Nat}
def ma{W9:cw}(c:e.N.Nodup)(VW:e.N[j]?=Z b)(d:jc e.env.scope b)(f:b2 e a N)(h:j∉T)(i:oC a (Z<|.Name b W9) V3.line e.env=pure az:=by rfl)(k:e.fn b=ab\/e.env.scope.names.lookup b=Z .local:=by first|exact .inl rfl|exact .inr rfl|assumption):hp e T (.Assign [.Name b W9] a V3) (bI j N):=by
 refine jC (TP c VW d f i k) λVP y g m=>?_;let⟨w,L,aX,@Wb,R,ae,n,u⟩:=m;let⟨@⟨p,VQ⟩,l,t⟩:=bq.mp n;split at t
 ·rename_i o;cases t;refine⟨w,L,p,_,R,ae,l,λr VT V9 VO q s v=>?_⟩;let⟨Wg,@b0,x,Ws⟩:=q.put (j:=j) s o;exact u _ VT Wg (dC.set h) x (v.less Ws)
 ·cases t
abbrev fs:=ak->aU->Option aU
def zV(T:List Nat)(N:fs):gw:=(λr y g D=>∃w L o VO Wb,bp g w y L/\b7 g o r VO/\(L++VO).Nodup/\N o w=Z Wb/\∀a F Ww,dC T y a->bp F Wb a Ww->bb g (L++VO) F Ww->D a F)
def hr(e:aM)(T:List Nat)(a:a7)(N:fs):Prop:=(∀ ⦃q⦄,ED e a (zV T N) q)
def tM{H Wr:gw}(c:jx e a H)(j:∀r y g D,Wr r y g D->H r y g D):jx e a Wr:=λG m y g b r D B p d=>c G m y g b r D B p (j b y g D d)
@[simp] def a6(j:Nat):fs:=λo w=>if j<w.length then Z (w.set j<|Z o) else X
def oH(c:e.N.Nodup)(VW:e.N[j]?=Z b)(d:jc e.env.scope b)(f:j∉T)(h:e.fn b=ab\/e.env.scope.names.lookup b=Z .local:=by first|exact .inl rfl|exact .inr rfl|assumption):hr e T (.Name b V3) (a6 j):=by
 refine tM (Px c VW d h) λr y g D i=>?_;let⟨w,L,o,VO,@Wb,R,k,ae,a,u⟩:=i;unfold a6 at a;split at a
 ·rename_i l;cases a;let⟨Wg,@b0,m,Ws⟩:=R.put (j:=j) k l;exact u _ g Wg (dC.set f) m ((bb.perm ae<|List.Perm.refl _).less Ws)
 ·cases a
def Oh(T:List Nat)(N:List ak->aU->Option aU):jt:=(λP y g D=>∃w L E VO Wb,bp g w y L/\en g E P VO/\(L++VO).Nodup/\N E w=Z Wb/\∀a F Ww,dC T y a->bp F Wb a Ww->bb g (L++VO) F Ww->D a F)
def rg(e:aM)(T:List Nat)(Q:List a7)(N:List ak->aU->Option aU):Prop:=(∀ ⦃q⦄,Ec e Q (Oh T N) q)
@[simp] def h_:List ak->aU->Option aU
 |[],w=>Z w
 |_,_=>X
@[simp] def eP(N:fs)(c:List ak->aU->Option aU):List ak->aU->Option aU
 |o::E,w=>(N o w).bind (c E)
 |_,_=>X
def EB{H Wr:jt}(c:og e Q H)(j:∀r y g D,Wr r y g D->H r y g D):og e Q Wr:=λG m y g x P D B p a=>c G m y g x P D B p (j x y g D a)
def Au:rg e T [] h_:=by
 refine EB UI λP y g D b=>?_;let⟨w,L,E,VO,@Wb,R,c,ae,a,u⟩:=b;cases E with
 |cons o E=>cases a
 |nil=>
  cases a;exact⟨c.1,u y g L dC.refl R<|(bb.perm ae<|List.Perm.refl _).less<|List.Perm.refl _⟩
def nT{N:fs}(l:hr e T a N)(t:rg e T Q c)(s:(fo (a::Q) e.env).map (·.2)=ij a e.env::(fo Q e.env).map (·.2):=by rfl):rg e T (a::Q) (eP N c):=by
 refine EB (SP l t s) λP y g D v=>?_;let⟨w,L,E,VO,@Wb,R,x,ae,j,u⟩:=v;cases E with
 |nil=>cases j
 |cons o E=>
  let⟨r,p,f,@b0,rfl,cO,k,rfl⟩:=x;let⟨@VQ,z,A⟩:=bq.mp (show (N o w).bind (c E)=Z Wb from j);have i:((L++f)++b0).Nodup:=by rw[bV];exact ae
  refine⟨r,p,rfl,w,L,o,f,VQ,R,cO,(c4.mp i).1,z,λXe VT V9 WJ B b=>?_⟩;have m:∀h∈b0,h∉L++f:=λh av ag=>(c4.mp i).2.2 h ag h av rfl;have C:en VT E p b0:=k.mono b.tup λh av n a=>b.keep h n a (m h av);have q:bb g (L++(f++b0)) VT (V9++b0):=by
   refine⟨λh n a av=>b.keep h n a λc=>av ?_,λh av=>?_,c4.mpr ⟨b.ae,(c4.mp i).2.1,λh av d ag a=>?_⟩,b.tup,b.grow⟩
   ·rw[<-bV];exact eb _ c
   ·rcases d8.mp av with av|av
    ·rcases b.sub h av with c|c
     ·left;rw[<-bV];exact eb _ c
     ·exact .inr c
    ·left;rw[<-bV];exact er _ av
   ·subst a;rcases b.sub h av with c|c
    ·exact m h ag c
    ·let⟨@n,a,Y⟩:=k.chg h ag;rw[a]at c;cases c
  exact⟨VQ,V9,E,b0,Wb,B,C,q.ae,A,λF V8 Wg G H I=>u F V8 Wg (WJ.trans G) H<|q.seq I⟩
@[simp] def i3(v:Nat)(c:List ak->aU->Option aU):fs:=λo w=>match o with
 |.im (.tup is)=>if is.length=v then c (is.map .im) w else X
 |.pA E=>if E.length=v then c E w else X
 |_=>X
theorem tS{g:aA}:∀{is:List aa}{P:List af},bC g is P->en g (is.map .im) P []
 |[],P,c=>⟨c,rfl⟩
 |o::is,P,c=>by
  let⟨r,@p,rfl,l,t⟩:=c;exact⟨r,p,[],[],rfl,⟨l,rfl⟩,tS t,rfl⟩
def B4(f:e.calm=ab)(i:rg e T Q c)(j:(fo Q e.env).length=v:=by rfl)(k:(fo Q e.env).findIdx? (·.1)=X:=by rfl):hr e T (.Tuple Q s V3) (i3 v c):=by
 refine tM (Oz f i j k) λr y g D m=>?_;let⟨w,L,o,VO,@Wb,R,d,ae,a,u⟩:=m;unfold i3 at a;split at a
 ·rename_i is;split at a
  ·rename_i b;let@⟨⟨h,@x,rfl,l,t⟩,rfl⟩:=d;exact⟨h,x,rfl,cC.of l,by rw[<-t.length];exact b,w,L,_,[],Wb,R,tS t,ae,a,u⟩
  ·cases a
 ·rename_i E;split at a
  ·rename_i b;let⟨h,@x,rfl,l,t⟩:=d;exact⟨h,x,rfl,cC.of l,by rw[<-t.length];exact b,w,L,_,VO,Wb,R,t,ae,a,u⟩
  ·cases a
 ·cases a
@[simp] def gs(N:aD ak)(c:fs):bl:=λw=>(N w).bind λq=>(c q.1 q.2).map λWb=>(.a8,Wb)
def i5{c:fs}(d:b2 e a N)(f:hr e T Wl c)(h:uV [Wl] a V3.line e.env=pure az:=by rfl)(i:vF [Wl] a e.env=pure X:=by rfl)(l:(fo [Wl] e.env).map (·.2)=[ij Wl e.env]:=by rfl):hp e T (.Assign [Wl] a V3) (gs N c):=by
 refine jC (Lz d f h i l) λVP y g j=>?_;let⟨w,L,aX,@Wb,R,ae,k,u⟩:=j;let⟨@⟨p,VQ⟩,g1,g2⟩:=bq.mp k;let⟨@Wi,m,n⟩:=ck.mp g2;cases n;exact⟨w,L,p,VQ,R,ae,g1,λr VT V9 VO o q b=>⟨VQ,V9,p,VO,_,o,q,b.ae,m,λs F Ww WJ t v=>u s F Ww WJ t<|b.seq v⟩⟩
@[simp] def rJ(j A:Nat)(N:aD (List bE)):bl:=λw=>(N w).bind λq=>(eK q.1 q.2).bind λu=>match u.1 with
 |[Wz,WE]=>if j<u.2.length/\A<u.2.length then Z (.a8,(u.2.set j<|Z Wz).set A<|Z WE) else X
 |_=>X
def RG{i:aF}{N:aD (List bE)}{f k pt:cw}{Xa Wq m}(q:e.calm=ab)(s:e.N.Nodup)(VW:e.N[j]?=Z b)(v:e.N[A]?=Z i)(x:j≠A)(z:e.env.scope.names.lookup b=Z .local)(B:e.env.scope.names.lookup i=Z .local)(av:fG e [h,d] N)(C:j∉T)(D:A∉T)(F:vF [.Tuple [.Name b f,.Name i k] Xa pt] (.Tuple [h,d] Wq m) e.env=pure (Z [b,i]))(G:uV [.Tuple [.Name b f,.Name i k] Xa pt] (.Tuple [h,d] Wq m) V3.line e.env=pure az:=by rfl):
  hp e T (.Assign [.Tuple [.Name b f,.Name i k] Xa pt] (.Tuple [h,d] Wq m) V3) (rJ j A N):=by
 refine jC (QB q s VW v x z B av F G) λVP y g H=>?_;let⟨w,L,aX,@Wb,R,ae,J,u⟩:=H;let⟨@⟨V6,VQ⟩,l,t⟩:=bq.mp J;let⟨@⟨E,Wi⟩,M,c⟩:=bq.mp t;refine⟨w,L,V6,VQ,R,ae,l,λP VT V9 bm Q Wd S=>?_⟩;let⟨Wg,@b0,U,al,Ws⟩:=oe Q Wd M;dsimp only at c;split at c
 ·rename_i Wz WE a;split at c
  ·rename_i n;cases c;let⟨r,p,O,@Wf,rfl,cO,am,rfl⟩:=al;let⟨I,WK,bn,@bs,rfl,an,@⟨rfl,rfl⟩,rfl⟩:=am;let⟨ap,@o,as,a1⟩:=U.put (j:=j) cO n.1;let⟨a2,@bd,be,bi⟩:=as.put (j:=A) an (by rw[zk];exact n.2);refine⟨r,I,rfl,u _ VT a2 ((dC.set C).trans<|dC.set D) be<|(S.kB Ws.symm).less (aN:=bd++o) ?_⟩;rw[<-bV,b4,<-bV];refine (gc o bi).trans ?_;rw[bV];refine (fC ap ea).trans ?_;rw[<-bV];exact gc _ a1
  ·cases c
 ·cases c
def je(f:aD Bool)(d:bl):Nat->bl
 |0=>λ_=>X
 |v+1=>λw=>(f w).bind λq=>if q.1=ab then (d q.2).bind λu=>match u.1 with
  |.a8=>je f d v u.2
  |.ct=>je f d v u.2
  |.e8=>Z (.a8,u.2)
  |.eQ o=>Z (.eQ o,u.2) else Z (.a8,q.2)
def rN(v:Nat)(n:qN (aT e.prog e.w) e.A e.env e.cJ)(p:hP e f W7)(ag:ju e T Xb WO):hp e T (.While f Xb [] V3) (je W7 WO v):=by
 refine jC (Qz n p ag) λVP y g q=>?_;let⟨w,L,aX,@Wb,R,ae,s,u⟩:=q;refine⟨λM a F=>∃i Ww,bp F i a Ww/\dC T y a/\bb g L F Ww/\je W7 WO M i=Z (aX,Wb),⟨v,w,L,R,dC.refl,bb.perm ae<|List.Perm.refl _,s⟩,?_⟩;rintro M Xe VT ⟨VQ,V9,t,j,d,C⟩;cases M with
 |zero=>cases C
 |succ M=>
  rw[je]at C;let⟨@⟨H,Wi⟩,cO,k⟩:=bq.mp C;refine⟨VQ,V9,H,Wi,t,d.ae,cO,λV8 Wg m h=>?_⟩;cases H with
  |false=>
   rw[if_neg dw]at k ⊢;cases k;exact u Xe V8 Wg j m (d.seq h)
  |true=>
   rw[aH rfl]at k ⊢;let⟨@⟨z,WS⟩,x,l⟩:=bq.mp k;refine⟨λa F=>∃i Ww,bp F i a Ww/\dC T y a/\bb g L F Ww/\je W7 WO M i=Z (aX,Wb),λa F c=>⟨M,rW M,c⟩,Wi,Wg,z,WS,m,h.ae,x,?_⟩;cases z with
   |a8=>exact λa F Ww WJ b VY=>⟨WS,Ww,b,j.trans WJ,(d.seq h).seq VY,l⟩
   |ct=>exact λa F Ww WJ b VY=>⟨WS,Ww,b,j.trans WJ,(d.seq h).seq VY,l⟩
   |e8=>
    cases l;exact λa F Ww WJ b VY=>u a F Ww (j.trans WJ) b ((d.seq h).seq VY)
   |eQ o=>
    cases l;exact λr a F Ww VO WJ b B VY=>u r a F Ww VO (j.trans WJ) b B ((d.seq h).seq VY)
structure lr(WY:e6)(g:aA)(VO:List au)(E:List aa):Prop where
 go:∀F,fa g F->(∀h∈VO,∀n,g h=Z n->F h=Z n)->∀(j:Nat) (o:aa),E[j]?=Z o->WY.go j F/\∀b xo,WY.qJ j F b xo->cX F xo/\cp xo o b
 stop:∀F,fa g F->(∀h∈VO,∀n,g h=Z n->F h=Z n)->WY.stop E.length F
def sg(g:aA)(y:a3)(VO:List au):Option (Nat×ak)->Prop
 |none=>True
 |some (j,o)=>∃r,y[j]?=Z (Z r)/\b7 g o r VO
def zv(N:aD (List aa×Option (Nat×ak))):c7:=(λy g a=>∃w L p Wb,bp g w y L/\L.Nodup/\N w=Z (p,Wb)/\∀WY F Ww VO,bp F Wb y Ww->lr WY F VO p.1->sg F y VO p.2->(∀h∈VO,fB F h)->bb g L F (Ww++VO)->a WY F)
def ky(e:aM)(Wl WR:a7)(N:aD (List aa×Option (Nat×ak))):Prop:=(∀ ⦃q⦄,CL e Wl WR (zv N) q)
def qj{H Wr:c7}(c:kf e Wl WR H)(j:∀y g VO,Wr y g VO->H y g VO):kf e Wl WR Wr:=λG m y g VO B a=>c G m y g VO B (j y g VO a)
def dp(Wl:fs)(d:bl):List aa->bl
 |[]=>λw=>Z (.a8,w)
 |b::p=>λw=>(Wl (.im b) w).bind λVQ=>(d VQ).bind λu=>match u.1 with
  |.a8=>dp Wl d p u.2
  |.ct=>dp Wl d p u.2
  |.e8=>Z (.a8,u.2)
  |.eQ o=>Z (.eQ o,u.2)
@[simp] def lO:Option (Nat×ak)->aU->aU
 |none,w=>w
 |some (j,o),w=>match w[j]? with
  |some (Z .c2)=>w.set j (Z o)
  |_=>w
@[simp] def eE(N:aD (List aa×Option (Nat×ak)))(Wl:fs)(d:bl):bl:=λw=>(N w).bind λq=>(dp Wl d q.1.1 q.2).map λu=>(u.1,lO q.1.2 u.2)
def yg{n:Option (Nat×ak)}(R:bp g w y L)(c:sg g y VO n):∃V9 VN,bp g (lO n w) y V9/\(V9++VN).Perm (L++VO):=by
 cases n with
 |none=>exact⟨L,VO,R,List.Perm.refl _⟩
 |some q=>
  let⟨j,o⟩:=q;let⟨@r,l,t⟩:=c;unfold lO;dsimp only;split
  ·exact R.back t l
  ·exact⟨L,VO,R,List.Perm.refl _⟩
def lD(WJ:List Nat):Option (Nat×ak)->Prop
 |none=>True
 |some (j,_)=>j∈WJ
def Uw{N:aD (List aa×Option (Nat×ak))}{i:fs}(g3:qN (aT e.prog e.w) e.A e.env e.cJ)(hd:e.calm=ab)(VW:ky e Wl WR N)(he:hr e WJ Wl i)(ag:ju e WJ Xb WO)(co:∀j∈T,j∈WJ)(cr:∀w p Wb,N w=Z (p,Wb)->lD WJ p.2)(cs:hh e (.For Wl WR Xb [] V3) (AP (zv N) (zV WJ i)<|o9 WJ WO)):hp e T (.For Wl WR Xb [] V3) (eE N i WO):=by
 refine jC cs λVP y g db=>?_;let⟨w,L,aX,@Wb,R,ae,ds,u⟩:=db;let⟨@⟨⟨E,n⟩,VQ⟩,l,t⟩:=bq.mp ds;let⟨@⟨z,Wi⟩,dL,eq⟩:=ck.mp t;cases eq;refine⟨w,L,(E,n),VQ,R,ae,l,λWY VT V9 VO ev aO ex bd al=>?_⟩;have fd:lD WJ n:=cr w _ _ l;have be:=c4.mp al.ae;have am:∀{V8:aA}{Wg:List au},bb VT V9 V8 Wg->∀h∈VO,∀I,VT h=Z I->V8 h=Z I:=λm h av I a=>m.keep h I a λc=>be.2.2 h c h av rfl;have bi:∀{V8:aA}{Wg:List au}{d:a3},bb VT V9 V8 Wg->dC WJ y d->sg V8 d VO n:=λ{V8 Wg d} m z=>by
  cases n with
  |none=>trivial
  |some q=>
   let⟨j,o⟩:=q;let⟨@r,fn,fr⟩:=ex;exact⟨r,(z.2 j fd).trans fn,fr.mono m.tup<|am m⟩
 have bm:∀{d:a3},dC WJ y d->dC T y d:=λz=>⟨z.1,λj VW=>z.2 j<|co j VW⟩;have bn:∀{d:a3}{V8:aA}{Wg:List au}{Wi:aU},ri T VP y g L (lO n Wi) .a8->dC WJ y d->bp V8 Wi d Wg->bb VT V9 V8 Wg->VP.a8 d V8:=λ{d V8 Wg Wi} u z an x=>by
  let⟨H,@VN,ap,Ws⟩:=yg an (bi x z);exact u d V8 H (bm z) ap ((al.trans x bd).less Ws)
 refine⟨λj M as F=>M+j=E.length/\∃f Ww,dC WJ y as/\bp F f as Ww/\bb VT V9 F Ww/\dp i WO (E.drop j) f=Z (z,Wi),⟨E.length,rfl,VQ,V9,dC.refl,ev,bb.perm be.1<|List.Perm.refl _,dL⟩,?_⟩;rintro j M as F ⟨hf,f,Ww,B,bs,VY,J⟩;by_cases bv:j<E.length
 ·let@⟨f0,f1⟩:=aO.go F VY.tup (am VY) j E[j] (by simp[bv]);rw[j6 bv,dp]at J;let⟨@WS,cO,f2⟩:=bq.mp J;let⟨@⟨ca,a1⟩,f4,P⟩:=bq.mp f2;refine .inr ⟨f0,λd V8=>(M-1)+(j+1)=E.length/\∃f Ww,dC WJ y d/\bp V8 f d Ww/\bb VT V9 V8 Ww/\dp i WO (E.drop<|j+1) f=Z (z,Wi),λd V8 c=>⟨M-1,⋯,c⟩,λb V8 f8=>?_⟩;let@⟨a2,ga⟩:=f1 b V8 f8;have an:=bs.mono a2.tupS λh Y n a=>a2 h n a;have x:=VY.same a2;refine⟨f,Ww,.im E[j],[],WS,an,⟨ga,rfl⟩,by rw[b4];exact x.ae,cO,λhm ge H Q ap cd=>?_⟩;have D:bb VT V9 ge H:=x.seq (by rw[b4]at cd;exact cd);refine⟨WS,H,ca,a1,ap,D.ae,f4,?_⟩;cases ca with
  |a8=>exact λS U G k s v=>⟨⋯,a1,G,(B.trans Q).trans k,s,D.seq v,P⟩
  |ct=>exact λS U G k s v=>⟨⋯,a1,G,(B.trans Q).trans k,s,D.seq v,P⟩
  |e8=>
   cases P;exact λS U G k s v=>bn u ((B.trans Q).trans k) s (D.seq v)
  |eQ o=>
   cases P;intro r S U G ce k s gl v;have ch:=D.seq v;have ci:=(B.trans Q).trans k;let⟨cl,@gt,g1,g2⟩:=yg (VO:=VO) s (bi ch ci);refine u r S U cl ce (bm ci) g1 gl ((al.trans ch bd).less (aN:=gt) ?_);rw[bV];refine (fC cl ea).trans ?_;rw[<-bV];refine (gc ce g2).trans ?_;rw[bV,bV];exact fC _ ea
 ·have VW:j=E.length:=⋯
  subst VW;refine .inl ⟨aO.stop F VY.tup<|am VY,?_⟩;rw[n9 (bB _)]at J;cases J;exact bn u B bs VY
end
section
variable{e:aM}
variable{i:fs}
def gp{N:aD (List aa×Option (Nat×ak))}{WO:bl}(a:qN (aT e.prog e.w) e.A e.env e.cJ)(c:e.calm=ab)(VW:ky e Wl WR N)(d:hr e WJ Wl i)(ag:ju e WJ Xb WO)(f:∀j∈T,j∈WJ)(g:∀w p Wb,N w=Z (p,Wb)->lD WJ p.2)(h:∀b,mZ WR e.env b=pure b:=by intro Y;rfl):hp e T (.For Wl WR Xb [] V3) (eE N i WO):=
 Uw a c VW d ag f g (Vg a c VW d ag h)
def LY(U:Φ)(Xi:bU):c7:=(λy g VO=>Xi y g λb VT=>∃h,b=.ref h/\(((∃x,dv U VT h x)/\VO (qr U h) VT)\/((∃x,cC U VT h x)/\VO (vC U h) VT)))
variable{J:a7}
def Vk{Xi:bU}(k:bj e J Xi):kf e Wl J (LY e.K Xi):=by
 intro G m y g VO B c;refine bK (k G m y g _ B c) λr f l=>?_;let⟨b,@VT,i,o,p⟩:=l;let⟨@h,a,u⟩:=p;subst a;cases o;rcases u with ⟨⟨x,j⟩,u⟩|⟨⟨x,j⟩,u⟩
 ·let⟨@VZ,s,q,aR⟩:=i.list j;refine pH q.isList ?_;refine⟨f.heap.objs.size,[f.heap.objs.size],_,_,VT,rfl,i.kept (Wr:=f.toks) λd n a=>cu _ a,PG h _,⟨_,dx _ rfl,rfl,rfl⟩,λd ag=>?_,u⟩;have a:d=f.heap.objs.size:=by simpa using ag
  subst a;exact i.r7 (bB _) (i.aV.fresh<|bB _)
 ·let⟨@VZ,s,q,aR⟩:=i.tuple j;refine wpAny_pyIter_tuple (show f.heap.IsTuple h VZ.toArray from q) ?_;refine⟨f.heap.objs.size,[f.heap.objs.size],_,_,VT,rfl,i.kept (Wr:=f.toks) λd n a=>cu _ a,Le h _,⟨_,dx _ rfl,rfl,rfl⟩,λd ag=>?_,u⟩;have a:d=f.heap.objs.size:=by simpa using ag
  subst a;exact i.r7 (bB _) (i.aV.fresh<|bB _)
theorem bC.get{g:aA}:∀{E:List aa}{P:List af}{j:Nat}{o:aa},bC g E P->E[j]?=Z o->∃r,P[j]?=Z r/\cp g o r
 |[],_,_,_,_,a=>by simp at a
 |o::E,_,0,_,c,a=>by
  let⟨r,@p,rfl,l,t⟩:=c;simp at a;subst a;exact⟨r,rfl,l⟩
 |o::E,_,j+1,_,c,a=>by
  let⟨r,@p,rfl,l,t⟩:=c;let⟨@I,b,d⟩:=bC.get (j:=j) t ⇑a;exact⟨I,by simpa using b,d⟩
theorem Ly{h:au}(c:g h=Z (.lst x))(hd:bC g E x):lr (qr U h) g [h] E where
 go:=λF H s j o a=>by
  let⟨@r,d,e⟩:=hd.get a;have ar:=dv.of (U:=U) (s h (.head _) _ c);refine⟨⟨x,r,ar,d⟩,λb k ⟨f,i⟩=>?_⟩;subst f;rw[i x ar]at d;cases d;exact⟨cX.refl _,e.mono H.tup⟩
 stop:=λF H s=>⟨x,dv.of<|s h (.head _) _ c,by rw[<-hd.length];exact bB _⟩
theorem Rh{h:au}{n:ba}(c:g h=Z (.c6 n<|.lst x))(hd:bC g E x):lr (qr U h) g [] E where
 go:=λF H s j o a=>by
  let⟨@r,d,e⟩:=hd.get a;have ar:dv U F h x:=.inl (.inr ⟨n,H.c6 _ _ _ c⟩);refine⟨⟨x,r,ar,d⟩,λb k ⟨f,i⟩=>?_⟩;subst f;rw[i x ar]at d;cases d;exact⟨cX.refl _,e.mono H.tup⟩
 stop:=λF H s=>⟨x,.inl<|.inr ⟨n,H.c6 _ _ _ c⟩,by rw[<-hd.length];exact bB _⟩
theorem Mt{h:au}(c:g h=Z (.tup x))(hd:bC g E x):lr (vC U h) g [] E where
 go:=λF H s j o a=>by
  let⟨@r,d,e⟩:=hd.get a;have ar:=cC.of (U:=U) (H.tup h _ c);refine⟨⟨x,r,ar,d⟩,λb k ⟨f,i⟩=>?_⟩;subst f;rw[i x ar]at d;cases d;exact⟨cX.refl _,e.mono H.tup⟩
 stop:=λF H s=>⟨x,cC.of<|H.tup h _ c,by rw[<-hd.length];exact bB _⟩
abbrev iS:=aD (List aa×Option (Nat×ak))
@[simp] def mm(o:ak):Option (List aa):=match o with
 |.im (.tup E)=>Z E
 |.lst E=>Z E
 |.da E=>Z E
 |_=>X
@[simp] def bY(N:aD bE):iS:=λw=>(N w).bind λq=>match q.1 with
 |.b3 o=>(mm o).map λE=>((E,X),q.2)
 |.aS j=>(c8 j q.2).bind λu=>(mm u.1).map λE=>((E,if u.1.cT=ab then X else Z (j,u.1)),u.2)
def E1(C:b7 g o r VO)(a:mm o=Z E):
  ∃h,r=.ref h/\(((∃x,dv U g h x)/\lr (qr U h) g VO E)\/((∃x,cC U g h x)/\lr (vC U h) g VO E)):=by
 unfold mm at a;split at a
 ·cases a;let@⟨⟨h,@x,rfl,l,t⟩,rfl⟩:=C;exact⟨h,rfl,.inr ⟨⟨x,cC.of l⟩,Mt l t⟩⟩
 ·cases a;let⟨h,@x,rfl,l,t,rfl⟩:=C;exact⟨h,rfl,.inl ⟨⟨x,dv.of l⟩,Ly l t⟩⟩
 ·cases a;let⟨h,x,@n,rfl,l,t,rfl⟩:=C;exact⟨h,rfl,.inl ⟨⟨x,.inl<|.inr ⟨n,l⟩⟩,Rh l t⟩⟩
 ·cases a
def eg{N:aD bE}(c:dO e J N):ky e Wl J (bY N):=by
 refine qj (Vk c) λy g F z=>?_;let⟨w,L,p,@Wb,R,ae,A,u⟩:=z;let⟨@⟨b,VQ⟩,l,t⟩:=bq.mp A;refine⟨w,L,b,VQ,R,ae,l,λr VT V9 VO i Wd d=>?_⟩;cases b with
 |b3 o=>
  let⟨@E,k,m⟩:=ck.mp t;cases m;let⟨@h,rfl,n⟩:=E1 (U:=e.K) Wd k;refine⟨h,rfl,?_⟩;rcases n with ⟨a,aO⟩|⟨a,aO⟩
  ·exact .inl ⟨a,u _ VT V9 VO i aO trivial (b7.chg Wd) d⟩
  ·exact .inr ⟨a,u _ VT V9 VO i aO trivial (b7.chg Wd) d⟩
 |aS j=>
  let⟨@⟨o,Wi⟩,k,m⟩:=bq.mp t;let⟨@E,B,C⟩:=ck.mp m;cases C;let⟨G,Wg,@b0,q,f,s,D⟩:=B6 i k;let@⟨Wd,rfl⟩:=Wd;rw[Wd]at q;cases q;rw[b4]at d;have v:=d.kB D.symm;let⟨@h,rfl,n⟩:=E1 (U:=e.K) f B;have x:sg VT y b0 (if o.cT=ab then X else Z (j,o)):=by
   split
   ·trivial
   ·exact⟨_,Wd,f⟩
  refine⟨h,rfl,?_⟩;rcases n with ⟨a,aO⟩|⟨a,aO⟩
  ·exact .inl ⟨a,u _ VT Wg b0 s aO x f.chg v⟩
  ·exact .inr ⟨a,u _ VT Wg b0 s aO x f.chg v⟩
def pO{N:aD ak}:∀w p Wb,bY (ai N) w=Z (p,Wb)->lD WJ p.2:=by
 intro w p Wb c;let⟨@⟨b,VQ⟩,l,t⟩:=bq.mp c;unfold ai at l;let⟨@q,e,a⟩:=ck.mp l;cases a;let⟨@E,f,d⟩:=ck.mp t;cases d
 trivial
variable{j:Nat}
def mh(VW:j∈WJ):∀w p Wb,bY (aj j) w=Z (p,Wb)->lD WJ p.2:=by
 intro w p Wb c;let⟨@⟨b,VQ⟩,l,t⟩:=bq.mp c;unfold aj at l;split at l
 ·cases l;let⟨@⟨o,Wi⟩,e,a⟩:=bq.mp t;let⟨@E,f,d⟩:=ck.mp a;cases d;show lD WJ (if o.cT=ab then X else Z (j,o));split
  ·trivial
  ·exact VW
 ·cases l
def eY(VS:Int)(v:Nat):List aa:=((range v).map λ(s:Nat)=>aa.int (VS+(s:Int)))
theorem GA{VS:Int}:lr (qL VS v) g [] (eY VS v) where
 go:=λF H s j o a=>by
  have VW:j<v:=by
   have:=(fM.mp a).1
   rwa [eY,br,mj]at this
  refine⟨VW,λb e ⟨c,d⟩=>?_⟩;subst c;rw[eY,gC,List.getElem?_range VW]at a;cases a;exact⟨cX.refl _,d⟩
 stop:=λF H s=>by
  show v<=_;rw[eY,br,mj];exact bB _
def jd(j:Int):Prop :=( -1000000<=j/\j<=1000000)
noncomputable instance (j:Int):Decidable (jd j):=inferInstanceAs (Decidable<|_/\_)
@[simp] def hu(N:aD (List bE)):iS:=λw=>(N w).bind λq=>(gA q.2 q.1).bind λE=>match E with
 |[.im (.int A)]=>if jd A then Z ((eY 0 A.toNat,X),q.2) else X
 |_=>X
@[simp] def ps(N:aD (List bE)):iS:=λw=>(N w).bind λq=>(gA q.2 q.1).bind λE=>match E with
 |[.im (.int j),.im<|.int A]=>if jd j/\jd A then Z ((eY j (A-j).toNat,X),q.2) else X
 |_=>X
def F7{o:aa}(c:m3 g [.im o] P):∃r,P=[r]/\cp g o r:=by
 let⟨r,@p,rfl,⟨@VO,l,Y⟩,t⟩:=c;cases (show p=[] from t);exact⟨r,rfl,l⟩
def vS{o a:aa}(c:m3 g [.im o,.im a] P):∃r I,P=[r,I]/\cp g o r/\cp g a I:=by
 let⟨r,@p,rfl,⟨@VO,l,Y⟩,t⟩:=c;let⟨@I,rfl,b⟩:=F7 t;exact⟨r,I,rfl,l,b⟩
def pS(f:eU e "range")(i:e.aL "range" = X)(av:fG e [h] N)(j:bA [h] e.env=[(az,bM h e.env)]:=by rfl):ky e Wl (.Call (.Name "range" q) [h] [] V3) (hu N):=by
 refine qj (S_ f i av j) λy g v k=>?_;let⟨w,L,p,@Wb,R,ae,m,u⟩:=k;let⟨@⟨V6,VQ⟩,l,t⟩:=bq.mp m;let⟨@E,n,b⟩:=bq.mp t;refine⟨w,L,V6,VQ,R,ae,l,λP VT V9 x c Wd o=>?_⟩;have s:=Wd.read c n;split at b
 ·rename_i A;split at b
  ·rename_i d;cases b;let⟨@r,rfl,a⟩:=F7 s;cases (show r=.int A from a);exact⟨A,rfl,by have:=d.1;lia,by have:=d.2;lia,u _ VT V9 [] c GA trivial (λh av=>nomatch av) (by rw[b4];exact o.less (List.Perm.refl _))⟩
  ·cases b
 ·cases b
def UN(f:eU e "range")(i:e.aL "range" = X)(av:fG e [h,d] N)(k:bA [h,d] e.env=[(az,bM h e.env),(az,bM d e.env)]:=by rfl)(m:bA [d] e.env=[(az,bM d e.env)]:=by rfl):ky e Wl (.Call (.Name "range" q) [h,d] [] V3) (ps N):=by
 refine qj (Lp f i av k m) λy g C n=>?_;let⟨w,L,p,@Wb,R,ae,o,u⟩:=n;let⟨@⟨V6,VQ⟩,l,t⟩:=bq.mp o;let⟨@E,s,b⟩:=bq.mp t;refine⟨w,L,V6,VQ,R,ae,l,λP VT V9 D c Wd v=>?_⟩;have x:=Wd.read c s;split at b
 ·rename_i j A;split at b
  ·rename_i z;cases b;let⟨r,@I,rfl,a,B⟩:=vS x;cases (show r=.int j from a);cases (show I=.int A from B);let@⟨@⟨F,G⟩,dJ,dr⟩:=z;exact⟨j,A,rfl,⟨⋯,⋯,⋯,⋯⟩,u _ VT V9 [] c GA trivial (λh av=>nomatch av) (by rw[b4];exact v.less (List.Perm.refl _))⟩
  ·cases b
 ·cases b
def uG:∀w p Wb,hu N w=Z (p,Wb)->lD WJ p.2:=by
 intro w p Wb c;let⟨@⟨V6,VQ⟩,l,t⟩:=bq.mp c;let⟨@E,b,a⟩:=bq.mp t;split at a
 ·split at a
  ·cases a;trivial
  ·cases a
 ·cases a
def Uu:∀w p Wb,ps N w=Z (p,Wb)->lD WJ p.2:=by
 intro w p Wb c;let⟨@⟨V6,VQ⟩,l,t⟩:=bq.mp c;let⟨@E,b,a⟩:=bq.mp t;split at a
 ·split at a
  ·cases a;trivial
  ·cases a
 ·cases a
def sS(e:aM)(W4:List a7)(N:aD Bool):Prop:=(∀ ⦃q⦄,Ct e W4 (jE N) q)
def ei:aD Bool:=(λw=>Z (ab,w))
def BL:sS e [] ei:=by
 intro G m y g D B a;let⟨w,L,d,@Wb,R,ae,b,u⟩:=a;cases b;exact N8 G m y g D B (u g L R<|bb.perm ae<|List.Perm.refl _)
def kg{N:aD Bool}(c:hP e f N):sS e [f] N:=Ov c
@[simp] def j5(Wk:List Nat)(w:aU):aU:=Wk.map λj=>w.getD j X
def kE:List Nat->aU->aU
 |[],w=>w
 |j::p,w=>kE p (match w[j]? with|some (Z _)=>w.set j (Z .c2)|_=>w)
@[simp] def iU:List Nat->aU->aU->aU
 |j::p,n::aN,w=>iU p aN (w.set j n)
 |_,_,w=>w
def gn(own:Nat)(Wl:fs)(f:aD Bool)(a:aD ak): List aa -> List aa -> aU -> Option (List aa × aU)
  |[],c,aN => Z (c,aN)
  |b :: p,c,aN => (Wl (.im b)<|replicate own X ++ aN).bind λVQ => (f VQ).bind λq => if q.1=ab then (a q.2).bind λu => match u.1 with
      |.im o => if c.length<100000 then gn own Wl f a p (c ++ [o]) (u.2.drop own) else X
      |_ => X
    else gn own Wl f a p c (q.2.drop own)
@[simp] def cE(own:Nat)(Wk:List Nat)(S:iS)(Wl:fs)(f:aD Bool)(a:aD ak):aD ak:=λw=>(S w).bind λq=>(gn own Wl f a q.1.1 []<|j5 Wk q.2).map λu=>(.lst u.1,lO q.1.2<|iU Wk u.2 q.2)
def oO(own v:Nat):List Nat:=((range v).map (·+own))
def Up(c:w[j]?=Z n):w.getD j X=n:=by rw[de,c];rfl
def bp.void(R:bp g w y L)(j:Nat):∃V9 Wg,bp g (match w[j]? with|some (Z _)=>w.set j (Z .c2)|_=>w) y V9/\mi g (w.getD j X) (y.getD j X) Wg/\(V9++Wg).Perm L:=by
 split
 ·rename_i o hd;let⟨r,V9,@Wg,l,t,b,c⟩:=R.out hd;refine⟨Wg,V9,b,?_,c⟩;rw[Up hd,de,l];exact⟨r,rfl,t⟩
 ·rename_i d;refine⟨L,[],R,?_,by rw[b4]⟩;have:w.getD j X=X:=by
   rw[de];cases a:w[j]? with
   |none=>rfl
   |some n=>
    cases n with
    |none=>rfl
    |some o=>exact absurd a (d o)
  rw[this];exact rfl
theorem J6{g:aA}{y:a3}:∀{Wk:List Nat}{w:aU}{L:List au},Wk.Nodup->bp g w y L->∃V9 Wg,bp g (kE Wk w) y V9/\bp g (j5 Wk w) (Wk.map λj=>y.getD j X) Wg/\(V9++Wg).Perm L
 |[],w,L,_,R=>⟨L,[],R,⟨rfl,rfl⟩,by rw[b4]⟩
 |j::p,w,L,ae,R=>by
  let⟨V9,@Wg,l,t,e⟩:=R.void j;have b:=dD.mp ae;let⟨f,@c,h,d,i⟩:=J6 (Wk:=p) b.2 l;refine⟨f,Wg++c,h,⟨_,_,Wg,c,rfl,t,?_,rfl⟩,kP.trans<|(fC _ i).trans<|ea.trans e⟩;have a:j5 p (match w[j]? with|some (Z _)=>w.set j (Z .c2)|_=>w)=j5 p w:=by
   unfold j5;refine gr λA k=>?_;split
   ·rw[de,de,n6];rintro rfl;exact b.1 k
   ·rfl
  rw[a]at d;exact d
def bp.SO(R:bp g w y L)(c:mi g n (y.getD j X) VN):∃V9 Wg,bp g (w.set j n) y V9/\(V9++Wg).Perm (L++VN):=by
 cases n with
 |some o=>
  let⟨@r,a,C⟩:=c;refine R.back C ?_;rw[de]at a;cases u:y[j]? with
  |none=>rw[u]at a;cases a
  |some b=>rw[u]at a;rw[show b=Z r from a]
 |none=>
  cases (show VN=[] from c);rw[b4];by_cases VW:j<w.length
  ·cases u:w[j]? with
   |none=>exact absurd (List.getElem?_eq_none_iff.mp u) ⋯
   |some b=>
    cases b with
    |none=>
     refine⟨L,[],?_,by rw[b4]⟩;have:w.set j X=w:=by
      refine wI λA=>?_;by_cases a:j=A
      ·subst a;rw[u,tR VW]
      ·rw[n6 a]
     rw[this];exact R
    |some o=>
     let⟨r,V9,@Wg,l,t,k,m⟩:=R.out u;have gen:∀{w:aU}{y:a3}{L:List au}{j:Nat},bp g w y L->∃V9 Wg,bp g (w.set j X) y V9/\(V9++Wg).Perm L:=by
      intro w;induction w with
      |nil=>intro y L j R;exact⟨L,[],by simpa using R,by rw[b4]⟩
      |cons n w e=>
       intro y L j R;let⟨b,p,O,@Wf,rfl,f,d,rfl⟩:=R;cases j with
       |zero=>exact⟨Wf,O,⟨b,p,[],Wf,rfl,rfl,d,rfl⟩,ea⟩
       |succ j=>
        let⟨aN,@VP,h,i⟩:=e (j:=j) d;refine⟨O++aN,VP,⟨b,p,O,aN,rfl,f,h,rfl⟩,?_⟩;rw[bV];exact fC _ i
     exact gen R
  ·refine⟨L,[],?_,by rw[b4]⟩;rw[List.set_eq_of_length_le ⋯];exact R
theorem IM{g:aA}{y:a3}:∀{Wk:List Nat}{aN w:aU}{L VN:List au},bp g w y L->bp g aN (Wk.map λj=>y.getD j X) VN->∃V9 Wg,bp g (iU Wk aN w) y V9/\(V9++Wg).Perm (L++VN)
 |[],aN,w,L,VN,R,_=>⟨L,VN,by cases aN<;>exact R,List.Perm.refl _⟩
 |j::p,[],w,L,VN,R,c=>⟨L,VN,R,List.Perm.refl _⟩
 |j::p,n::aN,w,L,VN,R,c=>by
  let⟨b,H,f,@h,a,l,t,rfl⟩:=c;cases a;let⟨V9,@O,d,e⟩:=R.SO l;let⟨Wg,@Wf,Wo,Wq⟩:=IM (Wk:=p) (aN:=aN) d t;refine⟨Wg,Wf++O,Wo,?_⟩;rw[<-bV,<-bV];refine (gc O Wq).trans ?_;rw[bV];refine (fC V9 ea).trans ?_;rw[<-bV];exact gc _ e
def N4:∀{Wk:List Nat}{aN w:aU},Wk.length=aN.length->Wk.Nodup->iU Wk aN (kE Wk w)=iU Wk aN w:=by
 have l:∀{p:List Nat}{aN w:aU}{j:Nat}{n:Option ak},j∉p->iU p aN (w.set j n)=(iU p aN w).set j n:=by
  intro p;induction p with
  |nil=>intro aN w j n Y;cases aN<;>rfl
  |cons A p b=>
   intro aN w j n c;cases aN with
   |nil=>rfl
   |cons f aN=>
    have e:j≠A:=λa=>c (by rw[a];exact .head _);show iU p aN ((w.set j n).set A f)=(iU p aN<|w.set A f).set j n;rw[zz _ _ e,b λk=>c<|.tail _ k]
 have g:∀{p:List Nat}{w:aU}{j:Nat}{n:Option ak},j∉p->kE p (w.set j n)=(kE p w).set j n:=by
  intro p;induction p with
  |nil=>intro w j n Y;rfl
  |cons A p b=>
   intro w j n c;have e:j≠A:=λa=>c (by rw[a];exact .head _);show kE p (match (w.set j n)[A]? with|some (Z _)=>(w.set j n).set A (Z .c2)|_=>w.set j n)=(kE p (match w[A]? with|some (Z _)=>w.set A (Z .c2)|_=>w)).set j n;rw[n6 e];cases w[A]? with
   |none=>exact b λk=>c (.tail _ k)
   |some u=>
    cases u with
    |none=>exact b λk=>c (.tail _ k)
    |some o=>
     show kE p ((w.set j n).set A<|Z .c2)=_;rw[zz _ _ e];exact b λk=>c (.tail _ k)
 intro Wk;induction Wk with
 |nil=>intro aN w Y Y;cases aN<;>rfl
 |cons j p b=>
  intro aN w h ae;have d:=dD.mp ae;cases aN with
  |nil=>cases h
  |cons f aN=>
   have i:p.length=aN.length:=by simpa using h
   show iU p aN ((kE p (match w[j]? with|some (Z _)=>w.set j (Z .c2)|_=>w)).set j f)=iU p aN (w.set j f);split
   ·rw[g d.1,qT,<-g d.1,b i d.2]
   ·rw[<-g d.1,b i d.2]
theorem Fy{g:aA}{w:aU}{p:a3}{L:List au}(c:bp g w p L):∀{own:List aF},bp g (replicate own.length X++w) (own.map (λ_=>X)++p) L
 |[]=>c
 |b::own=>⟨X,_,[],L,rfl,rfl,Fy c (own:=own),rfl⟩
theorem y4{g:aA}:∀{v:Nat}{w:aU}{y:a3}{L:List au},bp g w y L->∃V9 Wg,bp g (w.drop v) (y.drop v) V9/\(V9++Wg).Perm L
 |0,w,y,L,c=>⟨L,[],c,by rw[b4]⟩
 |v+1,[],y,L,c=>by
  cases c.1;exact⟨[],L,⟨rfl,rfl⟩,List.Perm.refl _⟩
 |v+1,n::w,y,L,c=>by
  let⟨b,p,O,@Wf,rfl,l,t,rfl⟩:=c;let⟨V9,@Wg,a,d⟩:=y4 (v:=v) t;exact⟨V9,Wg++O,a,by rw[<-bV];exact (gc O d).trans ea⟩
def bb.both(h:bb g L VT (V9++VO)):bb g L VT V9:=h.less (List.Perm.refl _)
theorem bC.snoc:∀{E:List aa}{P:List af}{o:aa}{r:af},bC g E P->cp g o r->bC g (E++[o]) (P++[r])
 |[],P,o,r,c,C=>by cases (show P=[] from c);exact⟨r,[],rfl,C,rfl⟩
 |a::E,P,o,r,c,C=>by
  let⟨I,@p,rfl,l,t⟩:=c;exact⟨I,p++[r],rfl,l,t.snoc C⟩
variable{S:iS}
def sk(ae:Wk.Nodup)(c:lB (cE own.length Wk S i W7 Xf) y g D):
  u4 own Wk (zv S) (λ_=>zV (oO own.length Wk.length) i) (λ_=>jE W7) (λ_=>lB Xf) y g D:=by
 let⟨w,L,p,@Wb,R,f0,f1,u⟩:=c;let⟨@⟨⟨x,n⟩,VQ⟩,l,t⟩:=bq.mp f1;let⟨@⟨E,bs⟩,f2,f4⟩:=ck.mp t;cases f4;refine⟨w,L,(x,n),VQ,R,f0,l,λWY VT V9 VO f8 aO ga ge gl lm=>?_⟩;let⟨T,@H,bv,B,Ws⟩:=J6 ae f8;have ca:bb g L VT (H++(T++VO)):=gl.kB (by
  refine (gc VO Ws.symm).trans ?_;rw[bV];exact kP)
 have cd:=c4.mp ca.ae;have gt:∀b∈T++VO,fB VT b:=λb C=>by
  rcases d8.mp C with C|C
  ·exact bv.chg b C
  ·exact ge b C
 have U:∀{V8:aA}{Wg:List au},bb VT H V8 Wg->∀h∈T++VO,∀I,VT h=Z I->V8 h=Z I:=λm h av I a=>m.keep h I a λc=>cd.2.2 h c h av rfl;refine⟨λj M V5 F=>M+j=x.length/\∃f aN G,bp F aN (Wk.map λj=>y.getD j X) G/\aN.length=Wk.length/\bb VT H F G/\bC F f V5/\gn own.length i W7 Xf (x.drop j) f aN=Z (E,bs),
  ⟨x.length,rfl,[],j5 Wk VQ,H,B,by rw[j5,br],bb.perm cd.1<|List.Perm.refl _,rfl,f2⟩,?_⟩;rintro j M V5 F ⟨al,f,aN,G,ce,g1,VY,ch,am⟩;by_cases ci:j<x.length
 ·let@⟨g2,g3⟩:=aO.go F VY.tup (λh av=>U VY h<|er _ av) j x[j] (by simp[ci]);rw[j6 ci,gn]at am;let⟨@WS,cO,hd⟩:=bq.mp am;let⟨@⟨d,as⟩,he,O⟩:=bq.mp hd;refine .inr ⟨g2,λcl V8=>(M-1)+(j+1)=x.length/\∃f aN G,bp V8 aN (Wk.map λj=>y.getD j X) G/\aN.length=Wk.length/\bb VT H V8 G/\bC V8 f cl/\gn own.length i W7 Xf (x.drop<|j+1) f aN=Z (E,bs),λcl V8 c=>⟨M-1,⋯,c⟩,λb V8 C=>?_⟩;let@⟨s,hf⟩:=g3 b V8 C;have hm:=ce.mono s.tupS λh Y n a=>s h n a;have co:=VY.same s;have an:=ch.mono s.tupS.tup;refine⟨replicate own.length X++aN,G,.im x[j],[],WS,Fy hm,⟨hf,rfl⟩,by rw[b4];exact co.ae,cO,λa1 hw cr ap cs a2=>⟨λA r e=>?_,?_⟩⟩
  ·
   have ln:own.length<=A:=by
    by_cases h0:A<own.length
    ·rw[ke,r_ ⇑h0,gC]at e;cases a:own[A]? with
     |none=>rw[a]at e;cases e
     |some k=>rw[a]at e;cases e
    ·lia
   have ls:A<own.length+Wk.length:=by
    have:=(fM.mp e).1
    rwa [ke,cZ,br,br]at this
   have al:A∈oO own.length Wk.length:=cL.mpr ⟨A-own.length,j4.mpr ⋯,⋯⟩;exact (ap.2 A al).trans e
  ·have db:bb VT H hw cr:=co.seq (by rw[b4]at a2;exact a2);have an:=an.mono a2.tup.tup;have ds:a1.drop own.length=Wk.map λj=>y.getD j X:=by
    have lv:=cs.len;refine wI λA=>?_;by_cases e:A<Wk.length
    ·have al:A+own.length∈oO own.length Wk.length:=cL.mpr ⟨A,j4.mpr e,rfl⟩;have:=ap.2 _ al;rw[List.getElem?_drop,uJ,this,ke,sR ↥0,br,Nat.add_sub_cancel]
    ·have lw:a1.length<=own.length+Wk.length:=by
      rw[ap.1,ke,cZ,br,br];exact bB _
     rw[Hr (by rw[l6];lia),Hr (by rw[br];lia)]
   have dL:a1.length=own.length+Wk.length:=by rw[ap.1,ke,cZ,br,br]
   refine⟨WS,cr,d,as,cs,db.ae,he,λmb bd J be=>?_⟩;have P:=db.seq be;dsimp only at O ⊢;cases d with
   |false=>
    rw[if_neg dw]at O ⊢;let⟨Q,@eq,z,bi⟩:=y4 (v:=own.length) J;rw[ds]at z;exact⟨⋯,f,as.drop own.length,Q,z,by rw[l6,J.len,dL];lia,P.less bi,an.mono be.tup.tup,O⟩
   |true=>
    rw[aH rfl]at O ⊢;let⟨@⟨r,ev⟩,ii,N⟩:=bq.mp O;dsimp only at N;split at N
    ·rename_i o;split at N
     ·rename_i mo;refine⟨as,bd,.im o,ev,J,P.ae,ii,λI ms Q m0 z io bm=>?_⟩;let@⟨it,rfl⟩:=io;rw[b4]at bm;have ex:=(an.mono be.tup.tup).mono bm.tup.tup;refine⟨C1 (show V5.length<=100000 by rw[<-ex.length];lia) ∅,?_⟩;let⟨jp,@na,fd,kt⟩:=y4 (v:=own.length) z;rw[ds]at fd;exact⟨⋯,f++[o],ev.drop own.length,jp,fd,by rw[l6,z.len,dL];lia,(P.seq bm).less kt,ex.snoc it,N⟩
     ·cases N
    ·cases N
 ·have VW:j=x.length:=⋯
  subst VW;refine .inl ⟨aO.stop F VY.tup<|λh av=>U VY h<|er _ av,λbn fn=>?_⟩;rw[n9 (bB _),gn]at am;cases am;have kv:bp F (kE Wk VQ) y T:=bv.mono VY.tup λh av=>U VY h (eb _ av);let⟨bd,@fr,J,kw⟩:=IM kv ce;rw[N4 (by rw[g1]) ae]at J;have lc:sg F y VO n:=by
   cases n with
   |none=>trivial
   |some q=>
    let⟨j,o⟩:=q;let⟨@r,lf,li⟩:=ga;exact⟨r,lf,li.mono VY.tup λh av=>U VY h<|er _ av⟩
  let⟨Q,@eq,z,bi⟩:=yg (VO:=VO) J lc;have s:cX F (upd F bn<|.lst V5):=(cX.refl F).upd fn;have P:bb g L F Q:=(ca.trans VY gt).less (aN:=eq++fr) (by
   rw[<-bV];refine (gc fr bi).trans ?_;rw[bV];refine (fC bd ea).trans ?_;rw[<-bV];refine (gc VO kw).trans ?_;rw[bV];exact kP)
  exact u _ _ Q [bn] (z.mono s.tupS λh Y n a=>s h n a) ⟨bn,V5,rfl,eu,ch.mono s.tupS.tup,rfl⟩ (P.add fn z.chg)
def kC{W8:a7}{W4:List a7}{Wa:gq}(d:e.calm=ab)(V2:hV e Wa own Wk)(ae:Wk.Nodup)(VW:ky e Wl WR S)(f:∀a,hr (e.fV (f3 e own Wk) Wa a) (oO own.length Wk.length) Wl i)(h:∀a,sS (e.fV (f3 e own Wk) Wa a) W4 W7)(j:∀a,b2 (e.fV (f3 e own Wk) Wa a) W8 Xf)(k:∀b,mZ WR e.env b=pure b:=by intro Y;rfl):b2 e (.ListComp W8 [⟨Wl,WR,W4,0⟩] Wa V3) (cE own.length Wk S i W7 Xf):=
 d_ (RF d V2 VW f h j k) λy g D c=>sk ae c
end
@[simp] def jv(T:List Nat):List ak->aU->Nat->List ak
 |o::E,n::w,A=>(if o.cT=ab then o else if A∈T then n.getD .c2 else .c2)::jv T E w (A+1)
 |o::E,[],A=>(if o.cT=ab then o else .c2)::jv T E [] (A+1)
 |[],_,_=>[]
@[simp] def dc(v M:Nat)(T:List Nat)(N:bl):cG:=λE=>if E.length=v then match N (E.map Z++replicate (M-v) X) with
 |some (.eQ p,w)=>Z (p,jv T E w 0)
 |some (.a8,w)=>Z (.im .aP,jv T E w 0)
 |_=>X else X
theorem Bh{g:aA}:∀{E:List ak}{P:List af}{L:List au}{M:Nat},en g E P L->bp g (E.map Z++replicate M X) (P.map Z++replicate M X) L
 |[],P,L,M,c=>by
  let@⟨rfl,rfl⟩:=c;show bp g (replicate M X) (replicate M X) [];induction M with
  |zero=>exact⟨rfl,rfl⟩
  |succ M a=>exact⟨X,_,[],[],rfl,rfl,a,rfl⟩
 |o::E,P,L,M,c=>by
  let⟨r,p,V9,@Wg,rfl,l,t,rfl⟩:=c;exact⟨Z r,_,V9,Wg,rfl,⟨r,rfl,l⟩,Bh t,rfl⟩
theorem yq{g F:aA}{T:List Nat}(H:fa g F):∀{E:List ak}{P:List af}{j:List au}{w:aU}{y:a3}{L:List au}{d:Nat},en g E P j->bp F w y L->(∀(A:Nat) (r:af),(d+A)∈T->P[A]?=Z r->y[A]?=Z (Z r))->
  ∃VO VN,en F (jv T E w d) P VO/\(VO++VN).Perm L
 |[],P,j,w,y,L,d,c,R,_=>⟨[],L,by unfold jv;exact⟨c.1,rfl⟩,List.Perm.refl _⟩
 |o::E,P,j,[],y,L,d,c,R,s=>by
  let⟨r,p,O,@Wf,rfl,l,t,rfl⟩:=c;let@⟨rfl,rfl⟩:=R;let⟨VO,@VN,e,f⟩:=yq (w:=[]) (y:=[]) (L:=[]) (d:=d+1) H t ⟨rfl,rfl⟩ λA r k q=>by
   have:=s (A+1) r (by rw[show d+(A+1)=d+1+A by lia];exact k) ⇑q;simp at this
  rw[jv];refine⟨VO,VN,⟨r,p,[],VO,rfl,?_,e,rfl⟩,f⟩;split
  ·rename_i i;have:=l.mono H λh av=>by rw[l.cT i]at av;cases av
   rw[l.cT i]at this;exact this
  ·exact rfl
 |o::E,P,j,n::w,y,L,d,c,R,s=>by
  let⟨r,p,O,@Wf,rfl,l,t,rfl⟩:=c;let⟨b,m,aN,@VP,rfl,v,x,rfl⟩:=R;let⟨VO,@VN,e,f⟩:=yq (w:=w) (y:=m) (d:=d+1) H t x λA r k q=>by
   have:=s (A+1) r (by rw[show d+(A+1)=d+1+A by lia];exact k) ⇑q;simpa using this
  rw[jv];split
  ·rename_i i;have u:=l.mono H λh av=>by rw[l.cT i]at av;cases av
   rw[l.cT i]at u;refine⟨VO,VN++aN,⟨r,p,[],VO,rfl,u,e,rfl⟩,?_⟩;rw[<-bV];exact (gc aN f).trans ea
  ·split
   ·rename_i z;have B:b=Z r:=by
     have:=s 0 r z rfl;simpa using this
    subst B;cases n with
    |none=>
     refine⟨VO,VN++aN,⟨r,p,[],VO,rfl,rfl,e,rfl⟩,?_⟩;rw[<-bV];exact (gc aN f).trans ea
    |some a=>
     let⟨@G,D,C⟩:=v;cases D;refine⟨aN++VO,VN,⟨r,p,aN,VO,rfl,C,e,rfl⟩,?_⟩;rw[bV];exact fC _ f
   ·refine⟨VO,VN++aN,⟨r,p,[],VO,rfl,rfl,e,rfl⟩,?_⟩;rw[<-bV];exact (gc aN f).trans ea
section
variable{V0:bu}{C:bf}{U:Φ}{aL:aF->Option ah}{Wj:a4}
def UT{WT:aF}{z:au}{Wm:List aF}{s:Nat}{N:bl}(L:gQ U b WT R z fd)(V2:nk Wm VV (dP R))(w:VV.length=v)(H:∀j∈T,j<v)(ag:∀(k:ah) (O:bz) (WH:List eN) (m:aw) (g:aA) (VP:gK),e2 s (O.deeper<|jl WT (dP R) m.heap.objs.size z k)->ju (l4 ir V0 C U aL Wj Wm WT (dP R) z k O WH m g VP).ow T (gJ R) N):
  iP V0 C U aL Wj ir (s+1) z fd VV (kT v<|dc v Wm.length T N):=by
 refine L.ok V2 (λP g D VP c=>c.1.trans w.symm) (λk O WH m g P D VP x c=>⟨_,ag k O WH m g VP x,?_⟩);let@⟨n,⟨E,h,p,@I,l,ae,d,u⟩⟩:=c;have y:E.length=v:=l.length.trans n;unfold dc at d;rw[aH y]at d;have R:=Bh (M:=Wm.length-v) l;have Q:kq Wm P=P.map Z++replicate (Wm.length-v) X:=by unfold kq;rw[n]
 rw[Q];have fin:∀{e:a3}{F:aA}{Ww:List au}{Wb:aU}{r:af}{VO:List au},jv T E Wb 0=I->dC T (P.map Z++replicate (Wm.length-v) X) e->bp F Wb e Ww->b7 F p r VO->bb g h F (Ww++VO)->D r F:=λ{e F Ww Wb r VO} B WJ f i VY=>by
  let⟨b0,@VN,o,G⟩:=yq (T:=T) (d:=0) VY.tup l f λA r q t=>by
   rw[oo]at q;rw[WJ.2 A q,r_ (by rw[br];exact (fM.mp t).1),gC,t];rfl
  rw[B]at o;refine u r F VO b0 i o (VY.less (aN:=VN) ?_);rw[bV];exact (fC VO G).trans ea
 split at d
 ·rename_i WK Wb a;cases d;exact⟨_,h,.eQ p,Wb,R,ae,a,λr e F Ww VO WJ f i VY=>fin rfl WJ f i VY⟩
 ·rename_i Wb a;cases d;exact⟨_,h,.a8,Wb,R,ae,a,λe F Ww WJ f VY=>fin rfl WJ f ⟨rfl,rfl⟩ (by rw[b4];exact VY)⟩
 ·cases d
end
def cc(g:aA)(o:ak)(D:cj):Prop:=(∀r F VO,cX g F->b7 F o r VO->VO.Nodup->(∀h∈VO,g h=X)->D r F)
def cc.JB{o:aa}(u:cc g (.im o) D)(m:cX g F)(c:cp F o r):D r F:=u r F [] m ⟨c,rfl⟩ ht (λh av=>nomatch av)
def cc.i{g:aA}{o:aa}{D:cj}{r:af}(u:cc g (.im o) D)(c:cp g o r):D r g:=u.JB (cX.refl g) c
def cc.l{q:au}(u:cc g (.lst E) D)(a:g q=X)(c:bC g E x):D (.ref q) (upd g q<|.lst x):=by
 have m:cX g (upd g q<|.lst x):=(cX.refl g).upd a;exact u _ _ [q] m ⟨q,x,rfl,eu,c.mono m.tupS.tup,rfl⟩ (e4 _ _) λh av=>by rw[cR.mp av];exact a
def cc.t{g:aA}{E:List aa}{x:List af}{D:cj}{q:au}(u:cc g (.im<|.tup E) D)(a:g q=X)(c:bC g E x):D (.ref q) (upd g q<|.tup x):=by
 have m:cX g (upd g q<|.tup x):=(cX.refl g).upd a;exact u.JB m ⟨q,x,rfl,eu,c.mono m.tupS.tup⟩
section
variable{e:aM}
def ek.imp{z:ah->ah->fK ah}{p:b0}(c:ek e z p)(j:∀b i g D,WK b i g D->p b i g D):ek e z WK:=λG m y g b i r I D B a d f=>c G m y g b i r I D B a d (j b i g D f)
def ez.imp{z:ah}{p WK:List af->aA->cj->Prop}(c:ez e z p)(j:∀x g D,WK x g D->p x g D):ez e z WK:=λG m y g x Wc D B a b=>c G m y g x Wc D B a (j x g D b)
def i6.imp{p:b0}(c:i6 e p)(j:∀b i g D,WK b i g D->p b i g D):i6 e WK:=λa d G m y g b i r I D B f h k=>c a d G m y g b i r I D B f h (j b i g D k)
def fq.i{g:aA}{o:aa}{r:af}(c:fq g (.im o) r):cp g o r:=c.elim λ_ C=>C.1
end
abbrev gm:=ak->ak->Option ak
@[simp] def iX(aN:Int->Int->Bool)(N:Int->Int->aa):gm:=λh d=>match h,d with
 |.im (.int j),.im (.int A)=>if aN j A=ab then Z (.im<|N j A) else X
 |_,_=>X
def HN{aN:Int->Int->Bool}{N:Int->Int->aa}{h d:ak}(c:iX aN N h d=Z o):∃j A,h=.im (.int j)/\d=.im (.int A)/\aN j A=ab/\o=.im (N j A):=by
 unfold iX at c;split at c
 ·rename_i j A;split at c
  ·rename_i a;cases c;exact⟨j,A,rfl,rfl,a,rfl⟩
  ·cases c
 ·cases c
section
variable{e:aM}
variable{z:ah->ah->fK ah}{N:Int->Int->af}{c:Int->Int->aa}
def vp{aN:Int->Int->Prop}{Wf:Int->Int->Bool}(n:ek e z (pj aN N))(d:∀j A,Wf j A=ab->aN j A)(f:∀g j A,cp g (c j A)<|N j A):fx e z (iX Wf c):=
 n.imp λb i g D ⟨Wz,WE,o,h,k,a,u⟩=>by
  let⟨j,@A,rfl,rfl,l,rfl⟩:=HN a;exact⟨j,A,h.i,k.i,d j A l,cc.i u<|f g j A⟩
def rf(n:ek e z (lR N))(d:∀g j A,cp g (c j A)<|N j A):fx e z (iX (λ_ Y=>ab) c):=
 n.imp λb i g D ⟨Wz,WE,o,f,h,a,u⟩=>by
  let⟨j,@A,rfl,rfl,k,rfl⟩:=HN a;exact⟨j,A,f.i,h.i,cc.i u<|d g j A⟩
@[simp] def mS:gm:=iX (λ_ Y=>ab) λj A=>.int (j-A)
def hD(j A:Int):Bool:=(!(decide (bo.Int.intBits j>tB)&&decide (bo.Int.intBits A>tB)&&bo.Int.intTooBig (bo.Int.intBits j+bo.Int.intBits A)))
@[simp] def iW:gm:=iX hD λj A=>.int (j*A)
@[simp] def mX:gm:=iX (λ_ A=>decide (0<A/\A<1073741824)) λj A=>.int (j/A)
@[simp] def eJ:gm:=iX (λ_ A=>decide (0<A)) λj A=>.int (j%A)
@[simp] def qO:gm:=iX (λj A=>decide (0<=A/\A<=1000000/\j.natAbs<2^64)) λj A=>.int (j^A.toNat)
@[simp] def D7:gm:=iX (λ_ Y=>ab) λj A=>.aJ (decide (j<A))
@[simp] def hQ:gm:=iX (λ_ Y=>ab) λj A=>.aJ (decide (j<=A))
@[simp] def lK:gm:=iX (λ_ Y=>ab) λj A=>.aJ (decide (A<j))
@[simp] def I3:gm:=iX (λ_ Y=>ab) λj A=>.aJ (decide (A<=j))
def pg:fx e (gk .Sub) mS:=rf Un λ_ Y Y=>rfl
def ku:fx e (gk .Mult) iW:=vp QN (λj A c=>by unfold hD at c;unfold IntMulOk;rw[uX]at c;rw[c];exact dw) λ_ Y Y=>rfl
def qZ:fx e (gk .FloorDiv) mX:=vp Qg (λj A c=>show 0<A/\A<1073741824 from e_ c) λ_ Y Y=>rfl
def gV:fx e (gk .Mod) eJ:=vp PA (λj A c=>e_ c) λ_ Y Y=>rfl
def sX:fx e (gk .Pow) qO:=vp N5 (λj A c=>show 0<=A/\A<=1000000/\j.natAbs<2^64 from e_ c) λ_ Y Y=>rfl
def Uk:fx e (eL .Lt) D7:=rf M1 λ_ Y Y=>rfl
def rC:fx e (eL .LtE) hQ:=rf Mp λ_ Y Y=>rfl
def su:fx e (eL .Gt) lK:=rf Sw λ_ Y Y=>rfl
def KX:fx e (eL .GtE) I3:=rf Rm λ_ Y Y=>rfl
def L9:ek e (gk .Add) (λb i g D=>∃h d V5,b=.ref h/\i=.ref d/\cC e.K g h []/\cC e.K g d V5/\D (.ref d) g):=by
 intro G m y g b i r I D B o p c;let⟨h,d,@V5,rfl,rfl,av,ag,u⟩:=c;cases o;cases p;let⟨@VZ,q,s,Y⟩:=B.tuple av;let⟨@A,C,WU,Y⟩:=B.tuple ag;have a:VZ=[]:=q.vR.mpr rfl;subst a;let⟨@⟨cls,t,data,aS⟩,f,j,⟨@v,hd⟩⟩:=id s;let⟨@⟨E,w,data2,x⟩,k,l,⟨@z,n⟩⟩:=id WU;simp only at j hd l n;subst j hd l n;exact yb ⟨_,f,rfl⟩ ⟨_,k,rfl⟩ y6 xR yV xJ (w7 _ _) (tuple_addW0 h d _ _ v z t w aS x rfl) ⟨f,k,.ref d,g,B,rfl,u⟩
@[simp] def dd:gm:=λh d=>match h,d with
 |.im (.int j),.im (.int A)=>Z (.im<|.int<|j+A)
 |.im (.tup b),.im (.tup i)=>if b.length+i.length<=100000 then Z (.im<|.tup<|b++i) else X
 |.lst b,.lst i=>if b.length+i.length<=100000 then Z (.lst<|b++i) else X
 |.im (.str b),.im (.str i)=>if b.length+i.length<=100000 then Z (.im<|.str<|b++i) else X
 |_,_=>X
theorem bC.app:∀{h d:List aa}{b i:List af},bC g h b->bC g d i->bC g (h++d) (b++i)
 |[],d,b,i,c,s=>by cases (show b=[] from c);exact s
 |o::h,d,b,i,c,s=>by
  let⟨r,@p,rfl,l,t⟩:=c;exact⟨r,p++i,rfl,l,t.app s⟩
def bC.nil{g:aA}{h:List aa}(c:bC g h []):h=[]:=by
 cases h with
 |nil=>rfl
 |cons o h=>let⟨Y,@Y,a,Y⟩:=c;cases a
def eI:fx e (gk .Add) dd:=by
 refine (Mb.or<|L9.or<|SS.or<|Sf.or K5).imp λb i g D w=>?_;let⟨Wz,WE,@o,m,n,a,u⟩:=w;unfold dd at a;split at a
 ·cases a;exact .inl ⟨_,_,m.i,n.i,cc.i u rfl⟩
 ·rename_i h d;split at a
  ·rename_i f;cases a;let⟨q,@x,rfl,l,t⟩:=m.i;let⟨c_,@V5,rfl,k,c⟩:=n.i;refine .inr ?_;by_cases r:x=[]
   ·subst r;cases t.nil;exact .inl ⟨q,c_,V5,rfl,rfl,cC.of l,cC.of k,cc.i u ⟨c_,V5,rfl,k,c⟩⟩
   ·refine .inr (.inl ⟨q,c_,x,V5,rfl,rfl,cC.of l,cC.of k,r,mq (by rw[<-t.length,<-c.length];exact f),λs=>?_,λs v p=>cc.t u p<|t.app c⟩);subst s;cases c.nil;rw[b4]at u;exact cc.i u ⟨q,x,rfl,l,t⟩
  ·cases a
 ·rename_i h d;split at a
  ·rename_i f;cases a;let⟨Y,q,@x,rfl,l,t,Y⟩:=m;let⟨Y,c_,@V5,rfl,k,c,Y⟩:=n;exact .inr (.inr (.inr (.inl ⟨q,c_,x,V5,rfl,rfl,l,k,mq (by rw[<-t.length,<-c.length];exact f),λv p=>cc.l u p<|t.app c⟩)))
  ·cases a
 ·rename_i h d;split at a
  ·rename_i f;cases a;exact .inr (.inr<|.inr<|.inr ⟨h,d,m.i,n.i,mq f,cc.i u rfl⟩)
  ·cases a
 ·cases a
def OP(v:Nat){O:bz}{b i:aa}{I r:ah}(o:aa.bQ v b=ab)(a_:aa.bQ v i=ab)(U:O.units+v+2<bN)(p:dz m.heap b I)(c:dz m.heap i r):SeqAt.RcAt O m I r (b8 b i):=by
 cases b with
 |aP=>
  cases (show I=.none from p);cases i with
  |aP=>cases (show r=.none from c);exact Nx
  |aJ d=>cases (show r=.bool d from c);exact LF d
  |int A=>let⟨@H,rfl⟩:=c;exact Of A H
  |str k=>let⟨@H,rfl⟩:=c;exact P0 k H
  |tup E=>let⟨h,n,S,@M,rfl,l,t,g,Y⟩:=c;exact R8 ⟨n,l,t,M,g⟩ ⋯
  |fn h=>cases v<;>cases a_
  |aX h=>cases v<;>cases a_
  |fd=>cases v<;>cases a_
 |aJ d=>
  cases (show I=.bool d from p);cases i with
  |aP=>cases (show r=.none from c);exact Ma d
  |aJ f=>cases (show r=.bool f from c);exact Td d f
  |int A=>let⟨@H,rfl⟩:=c;exact PJ d A H
  |str k=>let⟨@H,rfl⟩:=c;exact J_ d k H
  |tup E=>let⟨h,n,S,@M,rfl,l,t,g,Y⟩:=c;exact OW d ⟨n,l,t,M,g⟩ ⋯
  |fn h=>cases v<;>cases a_
  |aX h=>cases v<;>cases a_
  |fd=>cases v<;>cases a_
 |int j=>
  let⟨@e,rfl⟩:=p;cases i with
  |aP=>cases (show r=.none from c);exact PU j e
  |aJ f=>cases (show r=.bool f from c);exact MM j e f
  |int A=>let⟨@H,rfl⟩:=c;exact KL j e A H
  |str k=>let⟨@H,rfl⟩:=c;exact Nh j e k H
  |tup E=>let⟨h,n,S,@M,rfl,l,t,g,Y⟩:=c;exact Kr j e ⟨n,l,t,M,g⟩ ⋯
  |fn h=>cases v<;>cases a_
  |aX h=>cases v<;>cases a_
  |fd=>cases v<;>cases a_
 |str j=>
  let⟨@e,rfl⟩:=p;cases i with
  |aP=>cases (show r=.none from c);exact Po j e
  |aJ f=>cases (show r=.bool f from c);exact Nv j e f
  |int A=>let⟨@H,rfl⟩:=c;exact Nn j e A H
  |str k=>let⟨@H,rfl⟩:=c;exact LM j e k H
  |tup E=>let⟨h,n,S,@M,rfl,l,t,g,Y⟩:=c;exact Rt j e ⟨n,l,t,M,g⟩ ⋯
  |fn h=>cases v<;>cases a_
  |aX h=>cases v<;>cases a_
  |fd=>cases v<;>cases a_
 |fn h=>cases v<;>cases o
 |aX h=>cases v<;>cases o
 |fd=>cases v<;>cases o
 |tup E=>
  cases v with
  |zero=>cases o
  |succ v=>
  let⟨h,n,S,@M,rfl,l,t,g,s⟩:=p;have WC:m.heap.IsTuple h S:=⟨n,l,t,M,g⟩;cases i with
  |aP=>cases (show r=.none from c);exact ON WC ⋯
  |aJ f=>cases (show r=.bool f from c);exact K_ f WC ⋯
  |int A=>let⟨@H,rfl⟩:=c;exact KU A H WC ⋯
  |str k=>let⟨@H,rfl⟩:=c;exact Mh k H WC ⋯
  |fn h=>cases a_
  |aX h=>cases a_
  |fd=>cases a_
  |tup Q=>
   let⟨d,WN,q,@C,rfl,D,F,G,w⟩:=c;have We:m.heap.IsTuple d q:=⟨WN,D,F,C,G⟩;have x:=s.length;have y:=w.length;have J:S.toList.length=S.size:=by simp
   have L:q.toList.length=q.size:=by simp
   rw[J]at x;rw[L]at y;have u:=CV (A:=O) (e:=λA=>b8 (E.getD A .aP)<|Q.getD A .aP) WC We ⋯ λA N P=>by
    let⟨@Wz,z,R⟩:=s.get (A:=A) (r:=S[A]) (by rw[hX];simp[N]);let⟨@WE,B,T⟩:=w.get (A:=A) (r:=q[A]) (by rw[hX];simp[P]);rw[de,z,de,B];exact h2 v (j0 o z) (j0 a_ B) (by show O.units+1+v+1<bN;lia) R T
   rw[<-x,<-y,r4 (E:=E) (Q:=Q) (λA b i h d=>by rw[de,h,de,d];rfl)]at u;rw[b8];exact u
@[simp] def ey:gm:=λh d=>match h,d with
 |.im b,.im i=>if (aa.bQ 8 b&&aa.bQ 8 i)=ab then Z (.im<|.aJ<|b8 b i) else X
 |.lst b,.lst i=>if (aa.cx 8 b&&aa.cx 8 i)=ab then Z (.im<|.aJ<|eD b i) else X
 |_,_=>X
theorem xp:∀{b i:List aa},b.length≠i.length->eD b i=az
 |[],[],c=>absurd rfl c
 |[],_::_,_=>rfl
 |_::_,[],_=>rfl
 |h::b,d::i,c=>by
  rw[eD,xp (λa=>c (by rw[cn,cn,a])),EA]
def oS{G:List (au×ba)}(B:aI e G y g m){h:au}{x:List af}{E:List aa}(l:g h=Z (.lst x))(t:bC g E x):∃VZ:List ah,m.heap.IsList h VZ.toArray/\dU m.heap E VZ/\VZ.length=E.length:=by
 let@⟨k,⟨VZ,@v,b,a⟩⟩:=B.aV h _ l;have:=t.eA B.aV b;exact⟨VZ,⟨_,a,rfl,v,rfl⟩,this,this.length.symm⟩
def hS(ap:e.A.units+20<bN):fx e (eL .Eq) ey:=by
 intro G m y g b i r I D B s v R;let⟨Wz,WE,@o,f,k,a,u⟩:=R;unfold ey at a;split at a
 ·rename_i h d;split at a
  ·rename_i c;cases a;rw[cI]at c;exact OP 8 c.1 c.2 ⋯ (f.i.eA B.aV s) (k.i.eA B.aV v) e.prog e.w _ _ ⟨.aJ _,g,B,rfl,cc.i u rfl⟩
  ·cases a
 ·rename_i h d;split at a
  ·rename_i c;cases a;rw[cI]at c;let⟨Y,q,@x,rfl,l,t,Y⟩:=f;let⟨Y,c_,@V5,rfl,S,T,Y⟩:=k;cases s;cases v;let⟨@U,z,al,p⟩:=oS B l t;let⟨@am,F,an,H⟩:=oS B S T;by_cases n:h.length=d.length
   ·have:=UR (A:=e.A) (e:=λA=>b8 (h.getD A .aP)<|d.getD A .aP) z F (by rw[cK,cK,p,H];exact n) ⋯ λA J L=>by
     let⟨@Wz,M,f⟩:=al.get (A:=A) (r:=U.toArray[A]) (by simp at J;simp[J]);let⟨@WE,N,k⟩:=an.get (A:=A) (r:=am.toArray[A]) (by simp at L;simp[L]);rw[de,M,de,N];exact h2 8 (j0 c.1 M) (j0 c.2 N) (by show e.A.units+1+8+1<bN;lia) f k
    refine this e.prog e.w _ _ ⟨.aJ _,g,B,rfl,?_⟩;have P:=r4 (E:=h) (Q:=d) (a:=λA=>b8 (h.getD A .aP)<|d.getD A .aP) (λA b i h d=>by rw[de,h,de,d];rfl);rw[<-n,zd,kD,vD]at P;rw[cK,p,P];exact cc.i u rfl
   ·refine Uq (A:=e.A) z F (by rw[cK,cK,p,H];simpa using n) ⋯ e.prog e.w _ _ ⟨.aJ _,g,B,rfl,?_⟩;rw[xp n]at u;exact cc.i u rfl
  ·cases a
 ·cases a
end
section
variable{e:aM}
def LI(v:Nat){O:bz}{b i:aa}{I r:ah}(o:aa.bQ v b=ab)(a_:aa.bQ v i=ab)(U:O.units+v+2<bN)(p:dz m.heap b I)(c:dz m.heap i r):SeqAt.RcNeAt O m I r (!b8 b i):=by
 cases b with
 |aP=>
  cases (show I=.none from p);cases i with
  |aP=>cases (show r=.none from c);exact Ra
  |aJ d=>cases (show r=.bool d from c);exact O1 d
  |int A=>let⟨@H,rfl⟩:=c;exact Kv A H
  |str k=>let⟨@H,rfl⟩:=c;exact Ug k H
  |tup E=>let⟨h,n,S,@M,rfl,l,t,g,Y⟩:=c;exact Ol ⟨n,l,t,M,g⟩ ⋯
  |fn h=>cases v<;>cases a_
  |aX h=>cases v<;>cases a_
  |fd=>cases v<;>cases a_
 |aJ d=>
  cases (show I=.bool d from p);cases i with
  |aP=>cases (show r=.none from c);exact Om d
  |aJ f=>cases (show r=.bool f from c);exact QF d f
  |int A=>let⟨@H,rfl⟩:=c;exact K7 d A H
  |str k=>let⟨@H,rfl⟩:=c;exact M8 d k H
  |tup E=>let⟨h,n,S,@M,rfl,l,t,g,Y⟩:=c;exact RQ d ⟨n,l,t,M,g⟩ ⋯
  |fn h=>cases v<;>cases a_
  |aX h=>cases v<;>cases a_
  |fd=>cases v<;>cases a_
 |int j=>
  let⟨@e,rfl⟩:=p;cases i with
  |aP=>cases (show r=.none from c);exact Mx j e
  |aJ f=>cases (show r=.bool f from c);exact N0 j e f
  |int A=>let⟨@H,rfl⟩:=c;exact UJ j e A H
  |str k=>let⟨@H,rfl⟩:=c;exact Rj j e k H
  |tup E=>let⟨h,n,S,@M,rfl,l,t,g,Y⟩:=c;exact Kc j e ⟨n,l,t,M,g⟩ ⋯
  |fn h=>cases v<;>cases a_
  |aX h=>cases v<;>cases a_
  |fd=>cases v<;>cases a_
 |str j=>
  let⟨@e,rfl⟩:=p;cases i with
  |aP=>cases (show r=.none from c);exact KA j e
  |aJ f=>cases (show r=.bool f from c);exact Rr j e f
  |int A=>let⟨@H,rfl⟩:=c;exact SR j e A H
  |str k=>let⟨@H,rfl⟩:=c;exact Ut j e k H
  |tup E=>let⟨h,n,S,@M,rfl,l,t,g,Y⟩:=c;exact Ks j e ⟨n,l,t,M,g⟩ ⋯
  |fn h=>cases v<;>cases a_
  |aX h=>cases v<;>cases a_
  |fd=>cases v<;>cases a_
 |fn h=>cases v<;>cases o
 |aX h=>cases v<;>cases o
 |fd=>cases v<;>cases o
 |tup E=>
  cases v with
  |zero=>cases o
  |succ v=>
  let⟨h,n,S,@M,rfl,l,t,g,s⟩:=p;have WC:m.heap.IsTuple h S:=⟨n,l,t,M,g⟩;cases i with
  |aP=>cases (show r=.none from c);exact NN WC ⋯
  |aJ f=>cases (show r=.bool f from c);exact OJ f WC ⋯
  |int A=>let⟨@H,rfl⟩:=c;exact SA A H WC ⋯
  |str k=>let⟨@H,rfl⟩:=c;exact Li k H WC ⋯
  |fn h=>cases a_
  |aX h=>cases a_
  |fd=>cases a_
  |tup Q=>
   let⟨d,WN,q,@C,rfl,D,F,G,w⟩:=c;have We:m.heap.IsTuple d q:=⟨WN,D,F,C,G⟩;have x:=s.length;have y:=w.length;have J:S.toList.length=S.size:=by simp
   have L:q.toList.length=q.size:=by simp
   rw[J]at x;rw[L]at y;have u:=U0 (A:=O) (e:=λA=>b8 (E.getD A .aP)<|Q.getD A .aP) WC We ⋯ λA N P=>by
    let⟨@Wz,z,R⟩:=s.get (A:=A) (r:=S[A]) (by rw[hX];simp[N]);let⟨@WE,B,T⟩:=w.get (A:=A) (r:=q[A]) (by rw[hX];simp[P]);rw[de,z,de,B];exact h2 v (j0 o z) (j0 a_ B) (by show O.units+1+v+1<bN;lia) R T
   rw[<-x,<-y,r4 (E:=E) (Q:=Q) (λA b i h d=>by rw[de,h,de,d];rfl)]at u;rw[b8];exact u
@[simp] def eZ:gm:=λh d=>match h,d with
 |.im b,.im i=>if (aa.bQ 8 b&&aa.bQ 8 i)=ab then Z (.im<|.aJ<|!b8 b i) else X
 |.lst b,.lst i=>if (aa.cx 8 b&&aa.cx 8 i)=ab then Z (.im<|.aJ<|!eD b i) else X
 |_,_=>X
def jV(ap:e.A.units+20<bN):fx e (eL .NotEq) eZ:=by
 intro G m y g b i r I D B s v R;let⟨Wz,WE,@o,f,k,a,u⟩:=R;unfold eZ at a;split at a
 ·rename_i h d;split at a
  ·rename_i c;cases a;rw[cI]at c;exact LI 8 c.1 c.2 ⋯ (f.i.eA B.aV s) (k.i.eA B.aV v) e.prog e.w _ _ ⟨.aJ _,g,B,rfl,cc.i u rfl⟩
  ·cases a
 ·rename_i h d;split at a
  ·rename_i c;cases a;rw[cI]at c;let⟨Y,q,@x,rfl,l,t,Y⟩:=f;let⟨Y,c_,@V5,rfl,S,T,Y⟩:=k;cases s;cases v;let⟨@U,z,al,p⟩:=oS B l t;let⟨@am,F,an,H⟩:=oS B S T;by_cases n:h.length=d.length
   ·have:=OC (A:=e.A) (e:=λA=>b8 (h.getD A .aP)<|d.getD A .aP) z F (by rw[cK,cK,p,H];exact n) ⋯ λA J L=>by
     let⟨@Wz,M,f⟩:=al.get (A:=A) (r:=U.toArray[A]) (by simp at J;simp[J]);let⟨@WE,N,k⟩:=an.get (A:=A) (r:=am.toArray[A]) (by simp at L;simp[L]);rw[de,M,de,N];exact h2 8 (j0 c.1 M) (j0 c.2 N) (by show e.A.units+1+8+1<bN;lia) f k
    refine this e.prog e.w _ _ ⟨.aJ _,g,B,rfl,?_⟩;have P:=r4 (E:=h) (Q:=d) (a:=λA=>b8 (h.getD A .aP)<|d.getD A .aP) (λA b i h d=>by rw[de,h,de,d];rfl);rw[<-n,zd,kD,vD]at P;rw[cK,p,P];exact cc.i u rfl
   ·refine Sn (A:=e.A) z F (by rw[cK,cK,p,H];simpa using n) ⋯ e.prog e.w _ _ ⟨.aJ _,g,B,rfl,?_⟩;rw[xp n]at u;exact cc.i u rfl
  ·cases a
 ·cases a
def cq{Wh:Type}[DecidableEq Wh](VR:List (Wh×aa))(s:Wh):Option aa:=((VR.find? λq=>decide (q.1=s)).map (·.2))
theorem lM{Wh:Type}[DecidableEq Wh]{g:aA}{s:Wh}:∀{VR:List (Wh×aa)}{WB:List (Wh×af)},d9 g VR WB->(∀o,cq VR s=Z o->∃r,g9 WB s=Z r/\cp g o r)/\(cq VR s=X->g9 WB s=X)
 |_,_,.nil=>⟨(λo a=>by cases a),(λ_=>rfl)⟩
 |_,_,@dV.cons _ _ _ q u _ _ c H=>by
  let@⟨l,t⟩:=lM (s:=s) H;by_cases a:q.1=s
  ·have b:u.1=s:=c.1.symm.trans a;refine⟨λo hd=>?_,λd=>?_⟩
   ·have:∀p,cq (q::p) s=Z q.2:=λp=>by simp[cq,gH,a]
    rw[this]at hd;cases hd;exact⟨u.2,q_ b,c.2⟩
   ·have:∀p,cq (q::p) s=Z q.2:=λp=>by simp[cq,gH,a]
    rw[this]at d;cases d
  ·have b:¬ u.1=s:=λk=>a (c.1.trans k);have:∀p,cq (q::p) s=cq p s:=λp=>by simp[cq,gH,a]
   rw[this,ql b];exact⟨l,t⟩
@[simp] def bg:gm:=λh d=>match h,d with
 |.im (.tup E),.im (.int j)=>(dM E j).map .im
 |.lst E,.im (.int j)=>(dM E j).map .im
 |.da E,.im (.int j)=>(dM E j).map .im
 |.aB VR,.im (.tup s)=>if aa.keys 7 s=ab then (cq VR s).map .im else X
 |.dA VR,.im (.int j)=>(cq VR<|.inl j).map .im
 |.dA VR,.im (.str j)=>(cq VR<|.inr j).map .im
 |.di VR,.im (.tup s)=>if aa.keys 7 s=ab then (cq VR s).map .im else X
 |_,_=>X
def Ti(c:e.A.units+20<bN):i6 e (λb i g D=>∃h r,b=.ref h/\eM g h i (Z r)/\D r g):=by
 intro M o G m y g b i r I D B d f ⟨h,k,a,N,u⟩ j;subst a;cases d;exact tail_any (JY B N) DU.lookup (yT c B N f λp q l n=>⟨k,g,l,n,u⟩) j
def yR{j:Int}{o:aa}(c:bC g E x)(a:dM E j=Z o):∃r,dM x j=Z r/\cp g o r:=by
 unfold dM at a ⊢;rw[<-c.length];let⟨@A,b,d⟩:=bq.mp a;let⟨@r,e,f⟩:=c.get d;exact⟨r,by rw[b];exact e,f⟩
def UB(B:e.A.units+20<bN):i6 e (λb i g D=>∃Wz WE o,fq g Wz b/\fq g WE i/\bg Wz WE=Z o/\∀r F VO,cX g F->b7 F o r VO->VO.Nodup->(∀h∈VO,g h=X)->D r F):=by
 refine (RB.or<|F4.or<|Ti B).imp λb i g D C=>?_;let⟨Wz,WE,@o,w,y,a,u⟩:=C;unfold bg at a;split at a
 ·let⟨@v,c,f⟩:=ck.mp a;cases f;let⟨q,@x,rfl,l,t⟩:=w.i;let⟨@r,m,p⟩:=yR t c;exact .inr (.inl ⟨q,x,_,r,rfl,y.i,cC.of l,m,cc.i u p⟩)
 ·let⟨@v,c,f⟩:=ck.mp a;cases f;let⟨Y,q,@x,rfl,l,t,Y⟩:=w;let⟨@r,m,p⟩:=yR t c;exact .inl ⟨q,x,_,r,rfl,y.i,dv.of l,m,cc.i u p⟩
 ·let⟨@v,c,f⟩:=ck.mp a;cases f;let⟨Y,q,x,@n,rfl,l,t,Y⟩:=w;let⟨@r,m,p⟩:=yR t c;exact .inl ⟨q,x,_,r,rfl,y.i,.inl<|.inr ⟨n,l⟩,m,cc.i u p⟩
 ·rename_i VR s;split at a
  ·rename_i z;let⟨@v,c,f⟩:=ck.mp a;cases f;let⟨Y,q,@WB,rfl,l,t,Y⟩:=w;let⟨@r,m,p⟩:=(lM t).1 v c;let⟨d,@x,rfl,Wo,Wq⟩:=y.i;exact .inr (.inr ⟨q,r,rfl,by rw[<-m];exact eM.t l ⟨z,d,x,rfl,Wo,Wq⟩,cc.i u p⟩)
  ·cases a
 ·rename_i VR j;let⟨@v,c,f⟩:=ck.mp a;cases f;let⟨Y,q,@WB,rfl,l,t,Y⟩:=w;let⟨@r,m,p⟩:=(lM t).1 v c;refine .inr (.inr ⟨q,r,rfl,?_,cc.i u p⟩);rw[show i=cy (.inl j) from y.i,<-m];exact eM.k l
 ·rename_i VR j;let⟨@v,c,f⟩:=ck.mp a;cases f;let⟨Y,q,@WB,rfl,l,t,Y⟩:=w;let⟨@r,m,p⟩:=(lM t).1 v c;refine .inr (.inr ⟨q,r,rfl,?_,cc.i u p⟩);rw[show i=cy (.inr j) from y.i,<-m];exact eM.k l
 ·rename_i VR s;split at a
  ·rename_i z;let⟨@v,c,f⟩:=ck.mp a;cases f;let⟨Y,q,WB,@WA,rfl,l,t,Y⟩:=w;let⟨@r,m,p⟩:=(lM t).1 v c;let⟨d,@x,rfl,Wo,Wq⟩:=y.i;exact .inr (.inr ⟨q,r,rfl,.inr ⟨WB,s,d,.inr ⟨WA,l⟩,rfl,⟨z,d,x,rfl,Wo,Wq⟩,m.symm⟩,cc.i u p⟩)
  ·cases a
 ·cases a
end
end L2
namespace c5
open Spec PyProof.Rows
section
variable{VX:bu}{C:bf}{O:bz}{VP:ah->aw->Prop}{m:aw}
def MK{H aS:au}{VZ:Array ah}{b3 i:ah}{VS VW:Option Int}{D:ah->aw->Prop}(q:nS m.heap H VZ)(a:m.heap.IsSliceOf aS b3 i .none)(bQ:kG b3 VS)(b:kG i VW)(c:cm VZ.size 0 VS=0)(l:cm VZ.size VZ.size VW=VZ.size)(u:D (.ref H) m):wpAny (aT VX C) O (km (.ref H)<|.ref aS) D VP m:=by
 let⟨@V6,d,e,hd⟩:=id a;have ty:m.TypeIs (.ref aS) "slice" := ⟨V6,d,e⟩;unfold km;try with_reducible refine fI ?_
 first|refine aC (a5 ?_)|skip
 refine aC (Jl q.typeIs ∅ ?_);refine aC (ll (name:=aF.ofString "__getitem__") q.typeIs o1<|jm o1 q.typeIs EI ?_<|DA _ _);show wpAny _ _ (bo.Tuple.tupleItemsOf (.ref H) >>= _) _ _ m;refine aC (C0 q ?_);refine aC (wpAny_typeOf ty ?_);rw[aH ∅];refine aC (Iz a bQ b ?_);rw[c,l];show wpAny _ _ (if (((0:Nat):Int)==0&&(1:Int)==1&&(VZ.size-0)==VZ.size)=ab then _ else _) _ _ m;rw[aH ↥0];refine aC (m:=bo.Tuple.tupleIsExact _) (aC<|wpAny_typeOf q.typeIs<|a5 ?_);show wpAny _ _ (if (ah.type "tuple" == ah.type "tuple")=ab then _ else _) _ _ m;rw[aH ∅];exact aC (lI<|a5 ⟨_,rfl,a5 u⟩)
end
end c5
namespace L2
open Spec PyProof.Rows
section
variable{e:aM}
@[simp] def n7(N:aD ak):aD ak:=λw=>(N w).bind λq=>match q.1 with
 |.im (.int j)=>Z (.im<|.int<|-j,q.2)
 |_=>X
variable{N:aD ak}{V3:cw}
def y1{h:a7}(c:b2 e h N):b2 e (.UnaryOp .USub h V3) (n7 N):=by
 refine d_ (Rc TJ c) λy g D a=>?_;let⟨w,L,p,@Wb,R,ae,d,u⟩:=a;let⟨@⟨b,VQ⟩,l,t⟩:=bq.mp d;refine⟨w,L,b,VQ,R,ae,l,λr VT V9 VO f i k=>?_⟩;dsimp only at t;split at t
 ·rename_i j;cases t;exact⟨j,i.1,u _ VT V9 [] f ⟨rfl,rfl⟩ (by rw[b4];exact k.both)⟩
 ·cases t
def Uc(N:aD (Option Int)):cU:=(λy g D=>∃w L J Wb,bp g w y L/\L.Nodup/\N w=Z (J,Wb)/\∀F Ww,bp F Wb y Ww->bb g L F Ww->D J F)
def vH(e:aM)(a:Option a7)(N:aD (Option Int)):Prop:=(∀ ⦃q⦄,BI e a (Uc N) q)
def Jx{a:Option a7}{H Wr:cU}(c:pB e a H)(j:∀y g D,Wr y g D->H y g D):pB e a Wr:=λG m y g D B b=>c G m y g D B (j y g D b)
def gu:aD (Option Int):=(λw=>Z (X,w))
@[simp] def fv(N:aD ak):aD (Option Int):=λw=>(N w).bind λq=>match q.1 with
 |.im (.int j)=>Z (Z j,q.2)
 |_=>X
def m1:vH e X gu:=by
 refine Jx Nq λy g D a=>?_;let⟨w,L,p,@Wb,R,ae,b,u⟩:=a;cases b;exact u g L R (bb.perm ae<|List.Perm.refl _)
variable{a:a7}
def kY(c:b2 e a N):vH e (Z a) (fv N):=by
 refine Jx (KI c) λy g D d=>?_;let⟨w,L,p,@Wb,R,ae,f,u⟩:=d;let⟨@⟨b,VQ⟩,l,t⟩:=bq.mp f;refine⟨w,L,b,VQ,R,ae,l,λr VT V9 VO h i k=>?_⟩;dsimp only at t;split at t
 ·rename_i j;cases t;exact⟨j,i.1,u VT V9 h k.both⟩
 ·cases t
def eH{V7:Type}(x:List V7)(VS VW:Option Int):List V7:=((x.drop<|c5.cm x.length 0 VS).take (c5.cm x.length x.length VW-c5.cm x.length 0 VS))
variable{g:aA}
theorem bC.drop:∀{E:List aa}{x:List af} (v:Nat),bC g E x->bC g (E.drop v) (x.drop v)
 |E,x,0,c=>c
 |[],x,v+1,c=>by cases (show x=[] from c);exact rfl
 |o::E,x,v+1,c=>by
  let⟨r,@p,rfl,l,t⟩:=c;exact t.drop v
theorem bC.take:∀{E:List aa}{x:List af} (v:Nat),bC g E x->bC g (E.take v) (x.take v)
 |E,x,0,c=>rfl
 |[],x,v+1,c=>by cases (show x=[] from c);exact rfl
 |o::E,x,v+1,c=>by
  let⟨r,@p,rfl,l,t⟩:=c;exact⟨r,_,rfl,l,t.take v⟩
def bC.cut{E:List aa}{x:List af}(VS VW:Option Int)(c:bC g E x):bC g (eH E VS VW) (mL x VS VW):=by
 unfold eH mL;rw[c.length];exact (c.drop _).take _
@[simp] def i4(o:ak)(VS VW:Option Int):Option ak:=match o with
 |.im (.tup E)=>Z (.im<|.tup<|eH E VS VW)
 |.lst E=>Z (.lst<|eH E VS VW)
 |.da E=>Z (.lst<|eH E VS VW)
 |_=>X
def Lc(U:Φ):af->Option Int->Option Int->aA->cj->Prop:=(λb VS VW g D=>∃h x,b=.ref h/\cC U g h x/\c5.cm x.length 0 VS=0/\c5.cm x.length x.length VW=x.length/\D (.ref h) g)
def Ob:r8 e (λb VS VW g D=>∃o p,fq g o b/\i4 o VS VW=Z p/\cc g p D):=by
 have all:r8 e (Lc e.K):=by
  intro G m y g b r b3 i VS VW aS D B d f bQ k c;let⟨h,@x,rfl,F,I,l,u⟩:=c;cases d;let⟨@VZ,p,A,aR⟩:=B.tuple F;have C:VZ.toArray.size=x.length:=by rw[cK];exact p.length.symm
  exact⟨"tuple",_,o1.lookup,A.typeIs,c5.MK A f bQ k (by rw[C];exact I) (by rw[C];exact l) ⟨.ref h,g,B,rfl,u⟩⟩
 intro G m y g b r b3 i VS VW aS D B d f bQ k L;let⟨o,@p,z,a,u⟩:=L;unfold i4 at a;split at a
 ·rename_i E;cases a;let⟨q,@x,rfl,l,t⟩:=z.i;by_cases s:c5.cm x.length 0 VS=0/\c5.cm x.length x.length VW=x.length
  ·refine all G m y g _ r b3 i VS VW aS D B d f bQ k ⟨q,x,rfl,cC.of l,s.1,s.2,cc.i u ⟨q,x,rfl,l,?_⟩⟩;have:eH E VS VW=E:=by
    unfold eH;rw[t.length,s.1,s.2,r0,vs,<-t.length,Hf]
   rw[this];exact t
  ·exact RO G m y g _ r b3 i VS VW aS D B d f bQ k ⟨q,x,rfl,cC.of l,s,λv w=>cc.t u w<|t.cut VS VW⟩
 ·cases a;let⟨Y,q,@x,rfl,l,t,Y⟩:=z;exact Ea G m y g _ r b3 i VS VW aS D B d f bQ k ⟨q,x,rfl,dv.of l,λv w=>cc.l u w<|t.cut VS VW⟩
 ·cases a;let⟨Y,q,x,@n,rfl,l,t,Y⟩:=z;exact Ea G m y g _ r b3 i VS VW aS D B d f bQ k ⟨q,x,rfl,.inl<|.inr ⟨n,l⟩,λv w=>cc.l u w<|t.cut VS VW⟩
 ·cases a
@[simp] def ff(N:aD bE)(J c:aD (Option Int)):aD ak:=λw=>(N w).bind λq=>(J q.2).bind λu=>(c u.2).bind λp=>(eC p.2 q.1).bind λo=>(i4 o u.1 p.1).map λa=>(a,p.2)
def lA{VS VW:Option a7}{N:aD bE}{k m:aD (Option Int)}{WU:cw}(s:dO e a N)(v:vH e VS k)(x:vH e VW m):b2 e (.Subscript a (.Slice VS VW X WU) V3) (ff N k m):=by
 refine d_ (Pc Ob s v x) λy g D z=>?_;let⟨w,L,p,@Wb,R,ae,A,u⟩:=z;let⟨@⟨b,VQ⟩,l,t⟩:=bq.mp A;let⟨@⟨J,Wi⟩,E,F⟩:=bq.mp t;let⟨@⟨I,WS⟩,G,H⟩:=bq.mp F;let⟨@o,M,O⟩:=bq.mp H;let⟨@be,P,Q⟩:=ck.mp O;cases Q;refine⟨w,L,b,VQ,R,ae,l,λr VT V9 VO S Wd d=>⟨VQ,V9,J,Wi,S,(c4.mp d.ae).1,E,λV8 Wg T q=>⟨Wi,Wg,I,WS,T,q.ae,G,λU al f am=>?_⟩⟩⟩;have i:=q.seq am;have B:iu U y b r VO:=Wd.mono i.tup λh av n a=>i.keep h n a λc=>(c4.mp d.ae).2.2 h c h av rfl;have an:=d.trans i Wd.chg;exact⟨o,_,B.read f M,P,λC ap as j a1 a2 bd=>u C ap al as (f.mono j.tupS λh Y n a=>j h n a) a1<|an.new j a2 bd f.chg⟩
abbrev hR:=List ak->Option ak
@[simp] def cH:hR:=λE=>match E with
 |[.im (.tup b)]=>Z (.im<|.int b.length)
 |[.lst b]=>Z (.im<|.int b.length)
 |[.da b]=>Z (.im<|.int b.length)
 |[.g4 b]=>Z (.im<|.int b.length)
 |[.dA b]=>Z (.im<|.int b.length)
 |[.im (.str b)]=>if b.length<=100000 then Z (.im<|.int b.length) else X
 |_=>X
variable{P:List af}
def fF{o:ak}(c:m3 g [o] P):∃r,P=[r]/\fq g o r:=by
 let⟨r,@p,rfl,l,t⟩:=c;cases (show p=[] from t);exact⟨r,rfl,l⟩
def G3{o a:ak}(c:m3 g [o,a] P):∃r I,P=[r,I]/\fq g o r/\fq g a I:=by
 let⟨r,@p,rfl,l,t⟩:=c;let⟨@I,rfl,b⟩:=fF t;exact⟨r,I,rfl,l,b⟩
def d9.length{Wh:Type}{J:List (Wh×aa)}{M:List (Wh×af)}(c:d9 g J M):J.length=M.length:=dV.length c
def fA:hc e (.builtin "len") cH:=by
 refine (MX.or<|SG.or Tq).imp λx g D d=>?_;let⟨E,@o,b,a,u⟩:=d;unfold cH at a;split at a
 ·cases a;let⟨@r,rfl,c⟩:=fF b;let⟨q,@x,rfl,l,t⟩:=c.i;exact .inl ⟨q,x,rfl,.inr<|cC.of l,by rw[<-t.length];exact cc.i u rfl⟩
 ·cases a;let⟨@r,rfl,⟨Y,q,@x,rfl,l,t,Y⟩⟩:=fF b;exact .inl ⟨q,x,rfl,.inl<|dv.of l,by rw[<-t.length];exact cc.i u rfl⟩
 ·cases a;let⟨@r,rfl,⟨Y,q,x,@n,rfl,l,t,Y⟩⟩:=fF b;exact .inl ⟨q,x,rfl,.inl<|.inl<|.inr ⟨n,l⟩,by rw[<-t.length];exact cc.i u rfl⟩
 ·cases a;let⟨@r,rfl,⟨Y,q,x,@VN,rfl,l,t,Y⟩⟩:=fF b;exact .inl ⟨q,x,rfl,.inl<|dv.of l,by rw[<-t.length];exact cc.i u rfl⟩
 ·cases a;let⟨@r,rfl,⟨Y,q,@WB,rfl,l,t,Y⟩⟩:=fF b;exact .inr (.inr ⟨q,WB,rfl,l,by rw[<-t.length];exact cc.i u rfl⟩)
 ·split at a
  ·rename_i f;cases a;let⟨@r,rfl,c⟩:=fF b;cases (show r=_ from c.i);exact .inr (.inl ⟨_,rfl,mq f,cc.i u rfl⟩)
  ·cases a
 ·cases a
@[simp] def jR:hR:=λE=>match E with
 |[o]=>(mm o).map λb=>.im (.tup b)
 |_=>X
def nQ:hc e (.type "tuple") jR:=by
 refine NV.imp λx g D h=>?_;let⟨E,@o,k,a,u⟩:=h;unfold jR at a;split at a
 ·let⟨@b,d,m⟩:=ck.mp a;cases m;let⟨@r,rfl,c⟩:=fF k;unfold mm at d;split at d
  ·cases d;let⟨q,@x,rfl,l,t⟩:=c.i;exact⟨q,x,rfl,.inr ⟨cC.of l,cc.i u ⟨q,x,rfl,l,t⟩⟩⟩
  ·cases d;let⟨Y,q,@x,rfl,l,t,Y⟩:=c;exact⟨q,x,rfl,.inl ⟨dv.of l,λJ f=>cc.t u f t⟩⟩
  ·cases d;let⟨Y,q,x,@n,rfl,l,t,Y⟩:=c;exact⟨q,x,rfl,.inl ⟨.inl<|.inr ⟨n,l⟩,λJ f=>cc.t u f t⟩⟩
  ·cases d
 ·cases a
@[simp] def vInt:hR:=λE=>match E with
 |[.im (.int j)]=>Z (.im<|.int j)
 |[.im (.aJ d)]=>Z (.im<|.int<|if d then 1 else 0)
 |_=>X
def yt:hc e (.type "int") vInt:=by
 refine MW.imp λx g D d=>?_;let⟨E,@o,b,a,u⟩:=d;unfold vInt at a;split at a
 ·cases a;let⟨@r,rfl,c⟩:=fF b;cases (show r=_ from c.i);exact .inl ⟨_,rfl,cc.i u rfl⟩
 ·cases a;let⟨@r,rfl,c⟩:=fF b;cases (show r=_ from c.i);exact .inr ⟨_,rfl,cc.i u rfl⟩
 ·cases a
@[simp] def AO:hR:=λE=>match E with
 |[.im (.int j),.im<|.int A]=>Z (.im<|.int<|if A>j then A else j)
 |_=>X
@[simp] def Ap:hR:=λE=>match E with
 |[.im (.int j),.im<|.int A]=>Z (.im<|.int<|if A<j then A else j)
 |_=>X
def OB(b:e.calm=ab):hc e (.builtin "max") AO:=by
 refine (UH b).imp λx g D d=>?_;let⟨E,@o,f,a,u⟩:=d;unfold AO at a;split at a
 ·cases a;let⟨r,@I,rfl,c,s⟩:=G3 f;cases (show r=_ from c.i);cases (show I=_ from s.i);exact⟨_,_,rfl,cc.i u rfl⟩
 ·cases a
def Ky(b:e.calm=ab):hc e (.builtin "min") Ap:=by
 refine (Sp b).imp λx g D d=>?_;let⟨E,@o,f,a,u⟩:=d;unfold Ap at a;split at a
 ·cases a;let⟨r,@I,rfl,c,s⟩:=G3 f;cases (show r=_ from c.i);cases (show I=_ from s.i);exact⟨_,_,rfl,cc.i u rfl⟩
 ·cases a
@[simp] def n3:List aa->Option (List Bool)
 |[]=>Z []
 |.aJ d::E=>(n3 E).map λp=>d::p
 |_::_=>X
theorem FZ{g:aA}:∀{E:List aa}{x:List af}{bs:List Bool},bC g E x->n3 E=Z bs->x=bs.map af.aJ
 |[],x,bs,c,a=>by cases a;exact c
 |.aJ d::E,x,bs,c,a=>by
  let⟨r,@p,rfl,l,t⟩:=c;rw[n3]at a;let⟨@q,b,e⟩:=ck.mp a;cases e;cases (show r=.aJ d from l);rw[FZ t b];rfl
 |.aP::_,_,_,_,a=>by cases a
 |.int _::_,_,_,_,a=>by cases a
 |.str _::_,_,_,_,a=>by cases a
 |.tup _::_,_,_,_,a=>by cases a
 |.fn _::_,_,_,_,a=>by cases a
 |.aX _::_,_,_,_,a=>by cases a
 |.fd _::_,_,_,_,a=>by cases a
@[simp] def q8:hR:=λE=>match E with
 |[.lst b]=>(n3 b).map λbs=>.im (.aJ<|bs.all id)
 |_=>X
def Bc(c:e.calm=ab):hc e (.builtin "all") q8:=by
 refine (T5 c).imp λx g D d=>?_;let⟨E,@o,f,a,u⟩:=d;unfold q8 at a;split at a
 ·let⟨@b,h,k⟩:=ck.mp a;cases k;let⟨@r,rfl,⟨Y,q,@x,rfl,l,t,Y⟩⟩:=fF f;rw[FZ t h]at l;exact⟨q,b,rfl,l,cc.i u rfl⟩
 ·cases a
end
section
variable{e:aM}
def zI:ak->Option Nat
 |.im (.int _)=>Z 0
 |.im (.aJ _)=>Z 1
 |.im (.str _)=>Z 2
 |.im (.tup _)=>Z 3
 |.im .aP=>Z 4
 |.lst _=>Z 4
 |.im (.aX _)=>Z 4
 |.im (.fd _)=>Z 4
 |.aB _=>Z 4
 |.dA _=>Z 4
 |_=>X
@[simp] def Ak(S:String)(o:ak):Option Bool:=
 (zI o).bind λs=>if S = "int" then Z (s==0 || s==1) else if S = "bool" then Z (s==1) else if S = "str" then Z (s==2) else if S = "tuple" then Z (s==3) else X
variable{S:String}{d:Bool}
def R7{o:ak}(c:Ak S o=Z d):∃s,zI o=Z s/\((S = "int" /\ d=(s==0 || s==1))\/(S = "bool" /\ d=(s==1))\/(S = "str" /\ d=(s==2))\/(S = "tuple" /\ d=(s==3))):=by
 let⟨@s,a,c⟩:=bq.mp c;refine⟨s,a,?_⟩;by_cases l:S = "int"
 ·rw[aH l]at c;cases c;exact .inl ⟨l,rfl⟩
 rw[if_neg l]at c;by_cases t:S = "bool"
 ·rw[aH t]at c;cases c;exact .inr (.inl ⟨t,rfl⟩)
 rw[if_neg t]at c;by_cases b:S = "str"
 ·rw[aH b]at c;cases c;exact .inr (.inr<|.inl ⟨b,rfl⟩)
 rw[if_neg b]at c;by_cases e:S = "tuple"
 ·rw[aH e]at c;cases c;exact .inr (.inr<|.inr ⟨e,rfl⟩)
 rw[if_neg e]at c;cases c
def nq{O Wf aN w V0:Prop}(c:O\/Wf\/aN\/w)(h:O->V0)(d:Wf->V0)(f:aN->V0)(o:w->V0):V0:=c.elim h λc=>c.elim d λc=>c.elim f o
variable{G:List (au×ba)}{g:aA}{m:aw}
def Bk{y:a3}(B:aI e G y g m){h:au}(c:(∃s,g h=Z (.aB s))\/∃s,g h=Z (.dA s)):∃n,m.heap.get? h=Z n/\n.cls=.type "dict" := by
 rcases c with ⟨s,c⟩|⟨s,c⟩
 ·let@⟨_,_,⟨@x,_,⟨n,Q,@WI,l,t,_⟩⟩⟩:=(show ee e.prog e.w g m.heap h (.aB s) from B.aV h _ c);exact⟨n,l,t.1⟩
 ·let@⟨_,_,⟨@P,_,⟨n,Q,@WI,l,t,_⟩⟩⟩:=(show ee e.prog e.w g m.heap h (.dA s) from B.aV h _ c);exact⟨n,l,t.1⟩
def N7{y:a3}(B:aI e G y g m){h:au}{q:ba}{VR:List (List aa×af)}(c:g h=Z (.c6 q<|.aB VR)):∃n,m.heap.get? h=Z n/\n.cls=.type "dict" := by
 let@⟨_,_,_,⟨@x,_,⟨n,Q,@WI,l,t,_⟩⟩⟩:=(show ee e.prog e.w g m.heap h (.c6 q<|.aB VR) from B.aV h _ c);exact⟨n,l,t.1⟩
def Nj:ez e (.builtin "isinstance") (λx g D=>∃b S o d,x=[b,.ty S]/\fq g o b/\Ak S o=Z d/\D (.aJ d) g):=by
 intro G m y g x Wc D B p c;let⟨b,S,o,@d,rfl,q,VW,u⟩:=c;have N:=p;cases p with
 |cons p I=>
  cases I with
  |cons WK I=>
   cases I;cases WK;have r:∀{d:Bool},D (.aJ d) g->eB e G y D (.bool d) {m with toks:=m.toks+1}:=λ{d} u=>⟨.aJ d,g,B.tok _,rfl,u⟩;let⟨@s,f,E⟩:=R7 VW;have v:d=az->D (.aJ az) g:=λa=>a ▸ u;have J:∀{h:au},s=4->(∃n,m.heap.get? h=Z n/\n.cls=.type "dict")->wpAny (aT e.prog e.w) e.A (call (.builtin "isinstance") [.ref h,.type S]) (eB e G y D) e.cJ m:=by
    rintro h rfl ⟨n,F,H⟩;refine nq E (λ⟨a,z⟩=>a ▸ IsiPair.dict_int F H (r<|v z)) (λ⟨a,z⟩=>a ▸ IsiPair.dict_bool F H (r<|v z)) (λ⟨a,z⟩=>a ▸ IsiPair.dict_str F H (r<|v z)) λL=>?_;let@⟨a,z⟩:=L;exact a ▸ IsiPair.dict_tuple F H (r<|v z)
   have pZ:CS e.K g b S d->wpAny (aT e.prog e.w) e.A (call (.builtin "isinstance") [_,.type S]) (eB e G y D) e.cJ m:=λP=>Qd G m y g _ _ D B N ⟨b,S,d,rfl,P,u⟩;have M:∀{h:au}{x:List af},s=4->b=.ref h->dv e.K g h x->wpAny (aT e.prog e.w) e.A (call (.builtin "isinstance") [_,.type S]) (eB e G y D) e.cJ m:=λ{h x} f a k=>by
    subst f;exact pZ (.inr<|.inr<|.inr<|.inr ⟨h,x,a,k,nq E (λc=>.inr<|.inl c) (λc=>.inr<|.inr<|.inr<|.inl c) (λc=>.inr<|.inr<|.inl c) λc=>.inr<|.inr<|.inr<|.inr c⟩)
   unfold zI at f;split at f
   ·cases f;exact pZ (.inl ⟨_,q.i,nq E .inl (λc=>.inr<|.inr<|.inr<|.inl c) (λc=>.inr<|.inr<|.inl c) λc=>.inr<|.inl c⟩)
   ·cases f;exact pZ (.inr<|.inl ⟨_,q.i,nq E (λc=>.inr<|.inl c) .inl (λc=>.inr<|.inr<|.inr<|.inl c) λc=>.inr<|.inr<|.inl c⟩)
   ·cases f;exact pZ (.inr<|.inr<|.inl ⟨_,q.i,nq E (λc=>.inr<|.inl c) (λc=>.inr<|.inr<|.inr<|.inl c) .inl λc=>.inr<|.inr<|.inl c⟩)
   ·cases f;let⟨h,@x,a,l,t⟩:=q.i;exact pZ (.inr<|.inr<|.inr<|.inl ⟨h,x,a,cC.of l,nq E (λc=>.inr<|.inl c) (λc=>.inr<|.inr<|.inr<|.inl c) (λc=>.inr<|.inr<|.inl c) .inl⟩)
   ·cases f;cases (show b=.aP from q.i);cases p;refine nq E (λ⟨a,z⟩=>a ▸ IsiPair.NoneType_int (r<|v z)) (λ⟨a,z⟩=>a ▸ IsiPair.NoneType_bool (r<|v z)) (λ⟨a,z⟩=>a ▸ IsiPair.NoneType_str (r<|v z)) λL=>?_;let@⟨a,z⟩:=L;exact a ▸ IsiPair.NoneType_tuple (r<|v z)
   ·cases f;let⟨Y,h,@x,a,l,t,Y⟩:=q;exact M rfl a (dv.of l)
   ·cases f;let⟨h,x,@n,a,l,t⟩:=q.i;exact M rfl a (.inl<|.inr ⟨n,l⟩)
   ·cases f;let⟨h,n,@WB,rfl,l,Y⟩:=q.i;cases p;exact J rfl (N7 B l)
   ·cases f;let⟨Y,h,@x,rfl,l,t,Y⟩:=q;cases p;exact J rfl (Bk B<|.inl ⟨_,l⟩)
   ·cases f;let⟨Y,h,@x,rfl,l,t,Y⟩:=q;cases p;exact J rfl (Bk B<|.inr ⟨_,l⟩)
   ·cases f
@[simp] def r2(S:String)(N:aD bE):aD ak:=λw=>(N w).bind λq=>(eC q.2 q.1).bind λo=>(Ak S o).map λd=>(.im<|.aJ d,q.2)
variable{b:aF}{a:a7}{N:aD bE}{V3:cw}
def sN{q WU:cw}(i:eU e "isinstance")(j:e.aL "isinstance" = X)(k:fw "isinstance" = Z (.builtin "isinstance"))(m:eU e b)(s:e.aL b=X)(v:fw b=Z (.type S))(c:dO e a N)(x:b ≠ "__name__" := by decide)(hd:(b==("__debug__" : aF))=az:=by decide)(f:bA [a,.Name b WU] e.env=(az,bM a e.env)::bA [.Name b WU] e.env:=by rfl)(z:bA [.Name b WU] e.env=(az,bM (.Name b WU) e.env)::bA [] e.env:=by rfl)(A:(eF V3<|bA [.Name b WU] e.env).any (·.1)=az:=by rfl):b2 e (.Call (.Name "isinstance" q) [a,.Name b WU] [] V3) (r2 S N):=by
 refine d_ (HF Nj i j k (uo c (uo (Pu (r:=.ty S) m s v rfl x hd) yG z) f) ∅ ∅ f A) λy g D B=>?_;let⟨w,L,p,@Wb,R,ae,C,u⟩:=B;let⟨@⟨n,VQ⟩,l,t⟩:=bq.mp C;let⟨@o,E,F⟩:=bq.mp t;let⟨@d,G,H⟩:=ck.mp F;cases H;exact⟨w,L,n,VQ,R,ae,l,λr VT V9 VO h Wd I=>⟨r,S,o,d,rfl,Wd.read h E,G,u _ VT V9 [] h ⟨rfl,rfl⟩ (by rw[b4];exact I.both)⟩⟩
@[simp] def oP:ak->Option Bool
 |.im .aP=>Z az
 |.im (.aJ d)=>Z d
 |.im (.int j)=>Z (j != 0)
 |.im (.str b)=>if b.length<=100000 then Z ((b.length:Int) != 0) else X
 |.im (.tup E)=>Z (!E.isEmpty)
 |.lst E=>Z (!E.isEmpty)
 |.da E=>Z (!E.isEmpty)
 |.dA VR=>Z (!VR.isEmpty)
 |_=>X
def bC.emp{E:List aa}{x:List af}(c:bC g E x):(!x.isEmpty)=!E.isEmpty:=by
 cases E with
 |nil=>cases (show x=[] from c);rfl
 |cons o E=>let⟨r,@p,rfl,Y⟩:=c;rfl
def DS{o:ak}{r:af}(c:fq g o r)(a:oP o=Z d):zP e.K r g d:=by
 unfold oP at a;split at a
 ·cases a;cases (show r=_ from c.i);rfl
 ·cases a;cases (show r=_ from c.i);rfl
 ·cases a;cases (show r=_ from c.i);rfl
 ·split at a
  ·rename_i b;cases a;cases (show r=_ from c.i);exact⟨mq b,rfl⟩
  ·cases a
 ·cases a;let⟨q,@x,rfl,l,t⟩:=c.i;exact .inr (.inl ⟨x,cC.of l,t.emp.symm⟩)
 ·cases a;let⟨Y,q,@x,rfl,l,t,Y⟩:=c;exact .inl ⟨x,dv.of l,t.emp.symm⟩
 ·cases a;let⟨Y,q,x,@n,rfl,l,t,Y⟩:=c;exact .inl ⟨x,.inl<|.inr ⟨n,l⟩,t.emp.symm⟩
 ·cases a;let⟨Y,q,@WB,rfl,l,t,Y⟩:=c;refine .inr (.inr ⟨WB,l,?_⟩);cases t<;>rfl
 ·cases a
@[simp] def kK(N:aD bE):aD Bool:=λw=>(N w).bind λq=>(eC q.2 q.1).bind λo=>(oP o).map λd=>(d,q.2)
def pQ(c:dO e a N)(h:∀b,n5 a e.env b=(do let r <-b;standAt a.pos;holding [r] (tK r)):=by intro Y;rfl):hP e a (kK N):=by
 refine qW (HV c h) λy g D i=>?_;let⟨w,L,d,@Wb,R,ae,j,u⟩:=i;let⟨@⟨n,VQ⟩,l,t⟩:=bq.mp j;let⟨@o,k,m⟩:=bq.mp t;let⟨@v,p,q⟩:=ck.mp m;cases q;exact⟨w,L,n,VQ,R,ae,l,λr VT V9 VO f Wd s=>⟨_,DS (Wd.read f k) p,u VT V9 f s.both⟩⟩
def Sy{j:Int}{H:iE}(a:eU e b)(c:e.aL b=Z (.int j H))(hd:(b==("__debug__" : aF))=az:=by decide):b2 e (.Name b V3) (aG<|.int j):=v3 (RC (r:=.int j) a c ⟨H,rfl⟩ hd) λ_=>rfl
end
variable{T:List Nat}{WM W0 V3:cw}{n a:a7}{id S:String}{name:aF}{N:aD (List bE)}{j:Nat}{ty:ak->Bool}{U:Φ}{WN:fz}{h:au}{g:aA}
def bb.chg{L V9:List au}(av:h∈L)(f:fB g h)(ae:V9.Nodup)(d:∀b∈V9,b∈L):bb g L (upd g h WN) V9:=by
 let⟨@n,a,e,i⟩:=f;refine⟨λb I WD c=>?_,λb c=>.inl<|d b c,ae,fa.of (λb x WD=>?_)<|λb q I WD=>?_,λb I WD=>?_⟩
 ·rw[cP (λk=>c (by rw[k];exact av))];exact WD
 ·rw[cP]
  ·exact WD
  ·rintro rfl;rw[a]at WD;exact e x (Option.some.inj WD)
 ·rw[cP]
  ·exact WD
  ·rintro rfl;rw[a]at WD;exact i q I (Option.some.inj WD)
 ·by_cases c:b=h
  ·subst c;exact⟨WN,eu⟩
  ·exact⟨I,(cP c).trans WD⟩
theorem cp.kh(f:fB g h):p6 g (upd g h WN):=(bb.chg (L:=[h]) (V9:=[]) (.head _) f ht<|λb a=>nomatch a).tup.tup
def lq(e:aM)(id:String)(aQ:ak->List ak->Option (ak×ak)):Prop:=(
 qf e id λb P g D=>∃f E p a VO V2,b7 g f b VO/\en g E P V2/\(VO++V2).Nodup/\aQ f E=Z (p,a)/\∀r F c b0,b7 F p r c->b7 F a b b0->bb g (VO++V2) F (c++b0)->D r F)
@[simp] def f9:ak->Bool
 |.lst _=>ab
 |.g4 _=>ab
 |_=>az
@[simp] def Bd:ak->Bool
 |.dA _=>ab
 |.aB _=>ab
 |_=>az
@[simp] def fH(ty:ak->Bool)(j:Nat)(aQ:ak->List ak->Option (ak×ak))(N:aD (List bE)):aD ak:=λw=>match w[j]? with
 |some (Z a)=>if ty a=ab then (N w).bind λq=>(eK q.1 q.2).bind λu=>match u.2[j]? with
   |some (Z f)=>(aQ f u.1).map λp=>(p.1,u.2.set j<|Z p.2)
   |_=>X
  else X
 |_=>X
def D_{aQ:ak->List ak->Option (ak×ak)}{y:a3}{D:cj}(C:∀g f b VO,b7 g f b VO->ty f=ab->lU U S b g)(c:lB (fH ty j aQ N) y g D):∃b,y[j]?=Z (Z b)/\lU U S b g/\hi N y g λP V8=>∃f E p e VO V2,b7 V8 f b VO/\en V8 E P V2/\(VO++V2).Nodup/\aQ f E=Z (p,e)/\∀r F k b0,b7 F p r k->b7 F e b b0->bb V8 (VO++V2) F (k++b0)->D r F:=by
 let⟨w,L,p,@Wb,R,ae,d,u⟩:=c;unfold fH at d;split at d
 ·rename_i G H;split at d
  ·rename_i I;let⟨b,bi,@bm,m,J,Y,Y⟩:=R.out H;refine⟨b,m,C g G b _ J I,?_⟩;let⟨@⟨V6,VQ⟩,l,t⟩:=bq.mp d;let⟨@⟨E,Wi⟩,M,i⟩:=bq.mp t;refine⟨w,L,V6,VQ,R,ae,l,λP VT V9 k Q Wd T=>?_⟩;let⟨Wg,@V2,al,am,Ws⟩:=oe Q Wd M;dsimp only at i;split at i
   ·rename_i f an;let⟨@⟨WK,e⟩,ap,as⟩:=ck.mp i;cases as;let⟨bn,VO,@q,s,cO,v,a1⟩:=al.out an;rw[m]at s;cases s;have x:bb g L VT ((VO++V2)++q):=T.kB (Ws.symm.trans ((gc V2 a1.symm).trans (by
     rw[bV];exact ea)))
    have z:=c4.mp x.ae;refine⟨f,E,_,e,VO,V2,cO,am,z.1,ap,λr F O Wf a2 hB o=>?_⟩;have bd:bp F (Wi.set j<|Z .c2) y q:=v.mono o.tup λh av n a=>o.keep h n a λc=>z.2.2 h c h av rfl;let⟨A,@VN,B,be⟩:=bd.back hB m;rw[qT]at B;refine u r F A O B a2 ((x.trans o v.chg).less (aN:=VN) ?_);rw[bV];refine (fC A ea).trans ?_;rw[<-bV];refine (gc O be).trans ?_;rw[bV];refine ea.trans ?_;rw[bV];refine ea.trans ?_;rw[bV,bV];refine (fC O ?_);exact ea
   ·cases i
  ·cases d
 ·cases d
section
variable{e:aM}
def ih:∀(g:aA) (f:ak) (b:af) (VO:List au),b7 g f b VO->f9 f=ab->lU U "list" b g:=by
 intro g f b VO c a;cases f with
 |lst E=>let⟨h,@x,rfl,l,Y⟩:=c;exact .inl ⟨rfl,x,dv.of l⟩
 |g4 E=>let⟨h,x,@VN,rfl,l,Y⟩:=c;exact .inl ⟨rfl,x,dv.of l⟩
 |_=>cases a
def jw{aQ:ak->List ak->Option (ak×ak)}{Q:List a7}(d:∀g f b VO,b7 g f b VO->ty f=ab->lU e.K S b g)(h:vP S)(i:oE S name id)(k:mI (.builtin id)=pure (.type "method_descriptor"))(m:lq e id aQ)(o:bj e n (gY j))(av:fG e (a::Q) N)(p:kr n name e.env (bM n e.env)=bM n e.env:=by rfl)(q:((eF WM<|bA (a::Q) e.env).all (λb=>!b.1)&&(nH WM<|nM [] e.env).all (λb=>b.1.isSome)
   && decide ((a::Q).length+([]:List h5).length+(if ([]:List h5).isEmpty then 0 else 1)<30))=ab:=by rfl)(r:(W0.endLine==WM.line)=ab:=by rfl)(s:bA (a::Q) e.env=(az,bM a e.env)::bA Q e.env:=by rfl)(u:(eF WM<|bA Q e.env).any (·.1)=az:=by rfl):
  b2 e (.Call (.Attribute n name W0) (a::Q) [] WM) (fH ty j aQ N):=
 d_ (E5 h i k m o av p q r s u) λy g D c=>by
  let⟨@b,v,l,t⟩:=D_ d c;exact⟨b,v,l,t⟩
def DT{aQ:ak->List ak->Option (ak×ak)}(a:∀g f b VO,b7 g f b VO->ty f=ab->lU e.K S b g)(d:vP S)(h:oE S name id)(i:mI (.builtin id)=pure (.type "method_descriptor"))(k:lq e id aQ)(m:bj e n (gY j))(o:kr n name e.env (bM n e.env)=bM n e.env:=by rfl)(q:(W0.endLine==WM.line)=ab:=by rfl):
  b2 e (.Call (.Attribute n name W0) [] [] WM) (fH ty j aQ ay):=
 d_ (Hc d h i k m o q) λy g D c=>by
  let⟨@b,r,l,t⟩:=D_ a c;refine⟨b,r,l,?_⟩;let⟨w,L,p,@Wb,R,ae,s,u⟩:=t;cases s;exact u [] g L [] R ⟨rfl,rfl⟩ (by rw[b4];exact bb.perm ae (List.Perm.refl _))
@[simp] def fm:ak->List ak->Option (ak×ak):=λf E=>match f,E with
 |.lst x,[.im o]=>if x.length<100000 then Z (.im .aP,.lst<|x++[o]) else X
 |_,_=>X
def qu{v:Nat}(c:v<100000):v<sizeLine:=eV c ∅
def kJ:lq e "list.append" fm:=by
 intro G m y g b P r Wc D B c d j;let⟨f,E,p,v,VO,@V2,k,n,ae,a,u⟩:=j;unfold fm at a;split at a
 ·split at a
  ·rename_i o;cases a;let⟨h,@V5,rfl,l,t,rfl⟩:=k;let⟨i,H,w,@x,rfl,@⟨q,rfl⟩,@⟨rfl,rfl⟩,rfl⟩:=n;have f:fB g h:=⟨_,l,(λ_ a=>by cases a),(λ_ Y a=>by cases a)⟩;refine Lu G m y g _ _ r Wc D B c d ⟨h,V5,i,rfl,rfl,l,qu (by rw[<-t.length];exact o),u .aP _ [] [h] ⟨rfl,rfl⟩ ?_ (bb.chg (.head _) f (e4 _ _) λb s=>by simpa using s)⟩;exact⟨h,_,rfl,eu,(t.snoc q).mono<|cp.kh f,rfl⟩
  ·cases a
 ·cases a
@[simp] def lQ:ak->List ak->Option (ak×ak):=λf E=>match f,E with
 |.lst x,[]=>(x.getLast?).map λo=>(.im o,.lst x.dropLast)
 |_,_=>X
def bC.last{E:List aa}{x:List af}{o:aa}(c:bC g E x)(a:E.getLast?=Z o):∃r,x[x.length-1]?=Z r/\cp g o r/\bC g E.dropLast x.dropLast:=by
 rw[JE]at a;let⟨@r,b,d⟩:=c.get a;refine⟨r,by rw[<-c.length];exact b,d,?_⟩;rw[yu,yu,<-c.length];exact c.take _
def yY:lq e "list.pop" lQ:=by
 intro G m y g b P r Wc D B c d j;let⟨f,E,p,A,VO,@V2,k,n,ae,a,u⟩:=j;unfold lQ at a;split at a
 ·let⟨@o,q,s⟩:=ck.mp a;cases s;let⟨h,@V5,rfl,l,t,rfl⟩:=k;let@⟨rfl,rfl⟩:=n;let⟨@i,v,w,x⟩:=t.last q;have f:fB g h:=⟨_,l,(λ_ a=>by cases a),(λ_ Y a=>by cases a)⟩;refine Q0 G m y g _ _ r Wc D B c d ⟨h,V5,i,rfl,rfl,l,v,u i _ [] [h] ⟨w.mono<|cp.kh f,rfl⟩ ?_ (bb.chg (.head _) f (e4 _ _) λb z=>by simpa using z)⟩;exact⟨h,_,rfl,eu,x.mono<|cp.kh f,rfl⟩
 ·cases a
@[simp] def qV:ak->List ak->Option (ak×ak):=λf E=>match f,E with
 |.lst x,[.im (.int j)]=>if 0<=j/\j<x.length then (x[j.toNat]?).map λo=>(.im o,.lst<|x.eraseIdx j.toNat) else X
 |_,_=>X
theorem bC.erase{g:aA}:∀{E:List aa}{x:List af} (v:Nat),bC g E x->bC g (E.eraseIdx v) (x.eraseIdx v)
 |[],x,v,c=>by cases (show x=[] from c);exact rfl
 |o::E,x,0,c=>by let⟨r,@p,rfl,l,t⟩:=c;exact t
 |o::E,x,v+1,c=>by let⟨r,@p,rfl,l,t⟩:=c;exact⟨r,_,rfl,l,t.erase v⟩
def Oa:lq e "list.pop" qV:=by
 intro G m y g b P r Wc D B c d k;let⟨f,E,p,C,VO,@V2,n,q,ae,a,u⟩:=k;unfold qV at a;split at a
 ·rename_i j;split at a
  ·rename_i VW;let⟨@o,s,v⟩:=ck.mp a;cases v;let⟨h,@V5,rfl,l,t,rfl⟩:=n;let⟨i,H,F,@I,rfl,@⟨w,rfl⟩,@⟨rfl,rfl⟩,rfl⟩:=q;cases (show i=.int j from w);let⟨@i,x,z⟩:=t.get s;have f:fB g h:=⟨_,l,(λ_ a=>by cases a),(λ_ Y a=>by cases a)⟩;have aR:V5.length<=sizeLine:=(B.aV h _ l).1;have J:=nB;refine Ry G m y g _ _ r Wc D B c d ⟨h,V5,j,j.toNat,i,rfl,rfl,l,⋯,by have:=t.length;lia,uZ VW.1 (by rw[<-t.length];exact VW.2),x,u i _ [] [h] ⟨z.mono<|cp.kh f,rfl⟩ ?_ (bb.chg (.head _) f (e4 _ _) λb A=>by simpa using A)⟩;exact⟨h,_,rfl,eu,(t.erase _).mono<|cp.kh f,rfl⟩
  ·cases a
 ·cases a
@[simp] def nN:ak->List ak->Option (ak×ak):=λf E=>match f,E with
 |.lst x,[.lst V5]=>if x.length+V5.length<=100000 then Z (.im .aP,.lst<|x++V5) else X
 |_,_=>X
def zm:lq e "list.extend" nN:=by
 intro G m y g b P r Wc D B k n o;let⟨f,E,p,x,VO,@V2,q,s,ae,a,u⟩:=o;unfold nN at a;split at a
 ·split at a
  ·rename_i v;cases a;let⟨h,@V5,rfl,l,t,rfl⟩:=q;let⟨i,H,z,@A,rfl,⟨d,@W5,rfl,w,c,rfl⟩,@⟨rfl,rfl⟩,rfl⟩:=s;have f:fB g h:=⟨_,l,(λ_ a=>by cases a),(λ_ Y a=>by cases a)⟩;refine MB G m y g _ _ r Wc D B k n ⟨h,d,V5,W5,rfl,rfl,l,w,mq (by rw[<-t.length,<-c.length];exact v),u .aP _ [] [h] ⟨rfl,rfl⟩ ?_ (bb.chg (.head _) f (e4 _ _) λb j=>by
    rw[nh]at j;exact eb _ j)⟩
   exact⟨h,_,rfl,eu,(t.app c).mono<|cp.kh f,rfl⟩
  ·cases a
 ·cases a
def q6(e:aM)(pt:ak->ak->ak->Option ak):Prop:=(
 wz e λn j r g D=>∃f s o a VO V2,b7 g f n VO/\b7 g s j []/\b7 g o r V2/\(VO++V2).Nodup/\pt f s o=Z a/\∀F b,b7 F a n b->bb g (VO++V2) F b->D F)
@[simp] def pz(f s o:ak):Option ak:=match f,s,o with
 |.lst x,.im<|.int j,.im o=>(i7 x.length j).map λA=>.lst (x.set A o)
 |_,_,_=>X
theorem bC.set{g:aA}{o:aa}{r:af}(C:cp g o r):∀{E:List aa}{x:List af} (v:Nat),bC g E x->bC g (E.set v o) (x.set v r)
 |[],x,v,c=>by cases (show x=[] from c);exact rfl
 |a::E,x,0,c=>by let⟨I,@p,rfl,l,t⟩:=c;exact⟨r,p,rfl,C,t⟩
 |a::E,x,v+1,c=>by let⟨I,@p,rfl,l,t⟩:=c;exact⟨I,_,rfl,l,bC.set C v t⟩
def G8:q6 e pz:=by
 intro G m y g n j r c d I D B i k p q;let⟨f,s,o,F,VO,@V2,v,w,x,ae,a,u⟩:=q;unfold pz at a;split at a
 ·let⟨@A,z,C⟩:=ck.mp a;cases C;let⟨h,@V5,rfl,l,t,rfl⟩:=v;let@⟨hd,rfl⟩:=x;have f:fB g h:=⟨_,l,(λ_ a=>by cases a),(λ_ Y a=>by cases a)⟩;refine SF G m y g _ _ _ c d I D B i k p ⟨h,V5,_,A,rfl,w.1,l,by rw[<-t.length];exact z,u _ [h] ?_ (bb.chg (.head _) f (e4 _ _) λb E=>by simpa using E)⟩;exact⟨h,_,rfl,eu,(bC.set hd A t).mono<|cp.kh f,rfl⟩
 ·cases a
@[simp] def hF(j:Nat)(a:aD ak)(pt:ak->ak->ak->Option ak):fs:=λo w=>match w[j]? with
 |some (Z _)=>(a w).bind λq=>if q.1.cT=ab then match q.2[j]? with
   |some (Z f)=>(pt f q.1 o).map λb=>q.2.set j (Z b)
   |_=>X
  else X
 |_=>X
def j8{s:a7}{x:aD ak}{pt:ak->ak->ak->Option ak}(M:bj e n (gY j))(N:b2 e s x)(O:q6 e pt)(av:∀r,ij (.Subscript n s V3) e.env r=(do
   let d <-holding [r] (bM n e.env)
   let m <-holding [r,d] (bM s e.env)
   standAt V3
   holding [r,d,m] (ph d m r)
   release [r,d,m] []):=by intro Y;rfl):hr e T (.Subscript n s V3) (hF j x pt):=by
 refine tM (Sk M N O av) λr y g D P=>?_;let⟨w,L,o,VO,@Wb,R,z,ae,i,u⟩:=P;unfold hF at i;split at i
 ·rename_i bs Q;let⟨b,bv,@ca,q,cd,Y,Y⟩:=R.out Q;let⟨@⟨p,VQ⟩,l,t⟩:=bq.mp i;split at t
  ·rename_i S;refine⟨b,q,w,L,p,VQ,R,(c4.mp ae).1,l,λce VT V9 ch U A k=>?_⟩;obtain rfl:=A.cT S;rw[b4]at k;have al:=c4.mp ae;dsimp only at t;split at t
   ·rename_i f am;let⟨@an,ap,as⟩:=ck.mp t;cases as;let⟨ci,B,@C,E,cO,G,a1⟩:=U.out am;rw[q]at E;cases E;have a2:b7 VT o r VO:=z.mono k.tup λh av n a=>k.keep h n a λc=>al.2.2 h c h av rfl;have H:bb g (L++VO) VT ((B++VO)++C):=by
     have bd:bb g (L++VO) g (L++VO):=bb.perm ae (List.Perm.refl _);have:=bb.trans (V9:=L) (VO:=VO) bd k z.chg;refine this.kB ((gc VO a1.symm).trans ?_);rw[bV];exact ea
    have I:=c4.mp H.ae;refine⟨f,p,o,an,B,VO,cO,A,a2,I.1,ap,λF cl be v=>?_⟩;have bi:bp F (VQ.set j<|Z .c2) y C:=G.mono v.tup λh av n a=>v.keep h n a λc=>I.2.2 h c h av rfl;let⟨bm,@VN,J,bn⟩:=bi.back be q;rw[qT]at J;exact u y F bm dC.refl J ((H.trans v G.chg).less<|bn.trans ea)
   ·cases t
  ·cases t
 ·cases i
@[simp] def y7(j:Nat)(z:Int->Int->Int)(N:aD ak):bl:=λw=>match w[j]? with
 |some (Z<|.im<|.int b)=>(N w).bind λq=>match q.1 with
   |.im (.int i)=>if j<q.2.length then Z (.a8,q.2.set j<|Z<|.im<|.int<|z b i) else X
   |_=>X
 |_=>X
def Tf{b:aF}{N:aD ak}{Wx:l2}{z:Int->Int->Int}{W9:cw}(f:e.N.Nodup)(VW:e.N[j]?=Z b)(h:jc e.env.scope b)(m:b2 e a N)(n:t7 e Wx (yd z))(q:j∉T)(s:e.fn b=ab\/e.env.scope.names.lookup b=Z .local:=by first|exact .inl rfl|exact .inr rfl|assumption):hp e T (.AugAssign (.Name b W9) Wx a V3) (y7 j z N):=by
 refine jC (Mo f VW h m n s) λVP y g v=>?_;let⟨w,L,aX,@Wb,R,ae,d,u⟩:=v;unfold y7 at d;split at d
 ·rename_i i x;let⟨@r,l,t⟩:=R.cT x rfl;cases (show r=.int i from t.1);let⟨@⟨p,VQ⟩,A,c⟩:=bq.mp d;dsimp only at c;split at c
  ·rename_i k;split at c
   ·rename_i B;cases c;refine⟨_,l,w,L,.im<|.int k,VQ,R,ae,A,λI VT V9 VO C D E=>⟨i,k,rfl,D.1,?_⟩⟩;let⟨Wg,@b0,F,Ws⟩:=C.put (j:=j) (o:=.im (.int<|z i k)) (r:=.int (z i k)) ⟨rfl,rfl⟩ B;rw[b4]at Ws;exact u _ VT Wg (dC.set q) F (E.both.less Ws)
   ·cases c
  ·cases c
 ·cases d
end
end L2
namespace L2
open Spec PyProof.Rows PySem.W
section
variable{VX:bu}{C:bf}{O:bz}{VP:ah->aw->Prop}{Wh:gG}{aO:Array iK}{V_:Nat->Int}{m:aw}
def B9{p:Nat}{q:Array Nat}{R:e1}(g:gv Wh aO #[] R q)(c:dZ (p+2) q)(d:pd V_ q 0 (p+2)){D:Unit->e1->aw->Prop}(e:∀c_ b,dZ (p+2) c_->mv V_ c_ (p+2)->lP b=c_.map (jA aO)->o7 b=X->D () b m):
  D () (zq R<|(mT R).push (0,p+2,0)) m:=e q _ c (λj A i k=>d j A (fW _) i ⋯) g.a g.f
def Tp{v:Nat}{D:Unit->e1->aw->Prop}(f:j2 v V_ (iA VX C O Wh aO) m)(t:2<=v)(j:v<64)(g:∀c_ c,dZ v c_->mv V_ c_ v->lP c=c_.map (jA aO)->o7 c=X->D () c m):kasC (aT VX C) O VP sortRuns' D (kas_st Wh aO (range v).toArray) m:=by
 obtain⟨p,rfl⟩:∃p,v=p+2:=⟨v-2,⋯⟩;rw[sortRuns'_eq];refine d5 (oD ?_);dsimp only;have k:(lP<|kas_st Wh aO<|List.toArray<|range<|p+2).size=p+2:=by
  show ((range<|p+2).toArray.map<|jA aO).size=p+2;simp
 have l:minRun' (p+2) (p+2) 0=p+2:=by
  have a:minRun' (p+1+1) (p+2) 0=p+2:=by rw[minRun'_succ,aH j]
  exact a
 simp only[k,l];refine d5 (oI ?_);show kasC _ _ _ (forIn (0::1::range' 2 p) _ _) _ _ _;refine pT ?_;dsimp only;rw[if_neg ⋯];simp only[vs,zd,oo];refine d5 (Kp (n:=#[]) (q:=(range<|p+2).toArray) f (List.Perm.refl _) ⋯ ⋯ ⟨rfl,rfl,rfl,rfl⟩ λM w d o r h VT Y b=>?_);have b:=Gm b;dsimp only;by_cases i:M<p+2
 ·rw[aH i];refine d5 (xu<|lI ?_);refine d5 (O7 f h ⋯ o r b VT λWU e s V8 Y u=>?_);rw[if_neg ∅];refine d5 (oD ?_);rw[show (mT e).back?=X by rw[V8.p];rfl];dsimp only;refine d5 (tQ<|fb ?_);show kasC _ _ _ (forIn (1::range' 2 p) _ _) _ _ _;refine pT ?_;dsimp only;rw[aH (bB _)];refine fb ?_;dsimp only;refine d5 (oI ?_);show kasC _ _ _ (forIn (0::1::range' 2 p) _ _) _ _ _;refine pT ?_;refine d5 (oD ?_);rw[aH (show (mT<|zq e<|(mT e).push (0,p+2,0)).size<=1 by rw[V8.p];exact bB 1)];refine fb ?_;dsimp only;exact fb (B9 V8 s u g)
 ·rw[if_neg i];obtain rfl:M=p+2:=⋯
  refine d5 (oD ?_);rw[show (mT d).back?=X by rw[VT.p];rfl];dsimp only;refine d5 (tQ<|fb ?_);show kasC _ _ _ (forIn (1::range' 2 p) _ _) _ _ _;refine pT ?_;dsimp only;rw[aH (bB _)];refine fb ?_;dsimp only;refine d5 (oI ?_);show kasC _ _ _ (forIn (0::1::range' 2 p) _ _) _ _ _;refine pT ?_;refine d5 (oD ?_);rw[aH (show (mT<|zq d<|(mT d).push (0,p+2,0)).size<=1 by rw[VT.p];exact bB 1)];refine fb ?_;dsimp only;exact fb (B9 VT h b g)
end
variable{V4:List Int}{V7:Type}{q:Array Nat}
def T3(J:List V7)(o:V7):(range J.length).map (λj=>J.getD j o)=J:=by
 apply CW
 ·simp
 ·intro j l t;simp[List.getD,t]
def wq{J:List V7}{o:V7}(c:dZ J.length q):(q.toList.map λj=>J.getD j o).Perm J:=by
 have:=AM (λj=>J.getD j o) c;rw[T3]at this;exact this
theorem u2{V7 WQ:Type}{L:V7->WQ->Prop}:∀{a:List V7}{e:List WQ},a.length=e.length->(∀(j:Nat) h d,a[j]?=Z h->e[j]?=Z d->L h d)->dV L a e
 |[],[],_,_=>.nil
 |h::J,d::M,c,z=>.cons (z 0 h d rfl rfl) (u2 ⇑c λj b i l t=>z (j+1) b i ⇑l ⇑t)
 |[],_::_,c,_=>by simp at c
 |_::_,[],c,_=>by simp at c
section
variable{VX:bu}{C:bf}{O:bz}{VP:ah->aw->Prop}{m:aw}{P:List ah}
def Gj{Wf:au}{Xd:Nat}{V0:PySem.Fin->aw->Prop}(V_:Nat->Int)(Wh:gG)(g:m.heap.get? Wf=Z (gE "list" P.toArray Xd))(z:2<=P.length->∀b:a4,(∀d n,d≠Wf->m.heap.get? d=Z n->b.get? d=Z n)->∀D:gG->aw->Prop,D Wh {m with heap:=b}->wpAny (aT VX C) O (yx P.toArray) D VP {m with heap:=b})(B:∀b:a4,(∀d n,d≠Wf->m.heap.get? d=Z n->b.get? d=Z n)->j2 P.length V_ (iA VX C O Wh<|P.toArray.zip P.toArray) {m with heap:=b})(E:P.length<64)(aR:P.length<=1000)(c:∀(q:Array Nat) (ar:a4),dZ P.length q->mv V_ q P.length->(∀d n,d≠Wf->m.heap.get? d=Z n->ar.get? d=Z n)->(∃a,ar.get? Wf=Z (gE "list" (q.toList.map λj=>P.getD j ah.none).toArray a))->
   V0 (.done<|.ret .none) {m with heap:=ar}):wpAny (aT VX C) O (bo.«list.sort» ⟨[.ref Wf],[]⟩) V0 VP m:=by
 have w:P.length<=sizeLine:=dN aR ∅;rw[list_sort_plain];have M:Wf<m.heap.objs.size:=b9 g;refine aC (listItems_at g rfl (aC (A8 g rfl ?_ (hsz:=by rw[cK];exact w) (hsz2:=by show 0<=_;exact fW _))));have l:=FU g (λ_=>#[]);generalize N:(if (#[]:Array ah).size==P.toArray.size then Xd else Xd+1)=x at l;refine aC (seqEpoch_at l rfl (aC (AU (aC<|xT<|fI ?_) ⇑w)));have i:∀d n,d≠Wf->m.heap.get? d=Z n->(((m.heap.update Wf<|ba.mapSeq λ_=>#[]).push<|gE "tuple" P.toArray.toList.toArray 0).push<|gE "list" ([]:List ah).toArray 0).get? d=Z n:=λd n ag a=>
  cu _ (cu _<|(iC _ _<|dY ag).trans a);have e:(((m.heap.update Wf<|ba.mapSeq λ_=>#[]).push<|gE "tuple" P.toArray.toList.toArray 0).push<|gE "list" ([]:List ah).toArray 0).get? Wf=Z (gE "list" #[] x):=
  cu _ (cu _ l);show wpAny (aT VX C) O _ V0 VP {m with heap:=((m.heap.update Wf<|ba.mapSeq λ_=>#[]).push<|gE "tuple" P.toArray.toList.toArray 0).push (gE "list" ([]:List ah).toArray 0)};generalize ((m.heap.update Wf<|ba.mapSeq λ_=>#[]).push<|gE "tuple" P.toArray.toList.toArray 0).push (gE "list" ([]:List ah).toArray 0)=b at i e ⊢;have fin:∀(R:e1) (q:Array Nat),dZ P.length q->mv V_ q P.length->lP R=q.map (jA<|P.toArray.zip P.toArray)->o7 R=X->
   wpAny (aT VX C) O (do
    let H:=(<-seqEpoch Wf) != x
    bo.List.listUpdate (.ref Wf) λ_=>(lP R).map (·.2)
    if let Z a:=o7 R then rule "list.sort.comparison-raised";throw a
    if H then rule "list.sort.modified";raiseError "ValueError" "list modified during sort"
    ret .none) V0 VP {m with heap:=b}:=λR q k r s u=>by
  have out:=kat_snds (ks:=P) (vs:=P) rfl s;rw[out,u];refine aC (seqEpoch_at (s:={m with heap:=b}) e rfl (aC (A8 (s:={m with heap:=b}) e rfl ?_ (hsz:=fW _) (hsz2:=by
   show (List.toArray<|q.toList.map λj=>P.getD j ah.none).size<=_;rw[cK,br,ha,k.size];lia))))
  simp only[bne_self_eq_false,jT,fO];refine a5 (c q _ k r (λd n ag a=>(iC _ _<|dY ag).trans<|i d n ag a) ⟨_,FU e λ_=>_⟩)
 dsimp only;by_cases t:P.toArray.size<2
 ·rw[aH t,aH t];refine aC (a5 ?_);rw[StateT.run_pure];apply aC;apply a5;have v:P.length<2:=by simpa using t
  refine fin (e1.mk' general' (P.toArray.zip P.toArray) #[] 7 X) (range P.length).toArray (List.Perm.refl _) (λj A Q S=>?_) ?_ rfl
  ·have:j=A:=⋯
   subst this;exact g_ _
  ·have:=kas_range (P.toArray.zip P.toArray);rw[show (P.toArray.zip P.toArray).size=P.length by simp]at this;exact this.symm
 ·rw[if_neg t,if_neg t];have v:2<=P.length:=by simpa using t
  refine aC (z v b i _ ?_)
  ·have J:=B b i;have y:=kas_range (P.toArray.zip P.toArray);rw[show (P.toArray.zip P.toArray).size=P.length by simp]at y;have run:=Tp (VP:=VP) (D:=λ_ R VY=>VY={m with heap:=b}/\∃q,dZ P.length q/\mv V_ q P.length/\lP R=q.map (jA<|P.toArray.zip P.toArray)/\o7 R=X) J
    v E λc_ U h d f o=>⟨rfl,c_,h,d,f,o⟩;unfold kas_st at run;rw[y]at run;refine aC (hg run (λp VY L=>?_) λ_ Y a=>a);let⟨I,R⟩:=p;let@⟨rfl,⟨@q,k,r,s,u⟩⟩:=L;exact fin R q k r s u
end
section
variable{e:aM}{G:List (au×ba)}{y:L2.a3}{g:aA}{m:aw}
def JC(bi:e.calm=ab){h:au}{V5:List af}{VZ:List ah}{v:Nat}{S:String}{n:ba}{D:cj}(V_:Nat->Int)(Wh:gG)(B:aI e G y g m)(F:bZ V5 VZ)(R:S = "list" \/ S = "tuple")(a:m.heap.get? h=Z n)(aG:n.cls=.type S)(T:n.data=.seq VZ.toArray v)(aR:V5.length<=1000)(U:2<=VZ.length->∀(c:a4) (Wy:Nat),(∀d n,m.heap.get? d=Z n->c.get? d=Z n)->∀(O:bz) (VP:ah->aw->Prop) (D:gG->aw->Prop),D Wh {m with heap:=c,toks:=Wy}->wpAny (aT e.prog e.w) O (yx VZ.toArray) D VP {m with heap:=c,toks:=Wy})(al:∀(c:a4) (Wy:Nat),(∀d n,m.heap.get? d=Z n->c.get? d=Z n)->j2 VZ.length V_ (iA e.prog e.w e.A.in1.in1 Wh<|VZ.toArray.zip VZ.toArray) {m with heap:=c,toks:=Wy})(am:VZ.length<64)(u:∀(q:Array Nat) J,dZ VZ.length q->mv V_ q VZ.length->g J=X->D (.ref J) (upd g J<|.lst<|q.toList.map λj=>V5.getD j .aP)):
  wpAny (aT e.prog e.w) e.A (call (.builtin "sorted") [.ref h]) (eB e G y D) e.cJ m:=by
 have bm:V5.length=VZ.length:=F.length;have H:VZ.length<=sizeLine:=dN ⋯ (show 1000<=sizeLine by decide);refine Ao kind_sorted Bj BE (Hs _) ?k
 case k=>
  unfold bo.«sorted»;refine aC (m:=checkCount "sorted" 1 1 _) (a5 (aC (wpAny_collect_seq h R a aG T (λar p=>?_) (by rw[cK];exact H))));show wpAny _ _ (qR VZ >>= _) _ _ _;refine aC (xT ?_ H);have L:(ar.push<|gE "list" VZ.toArray 0).get? ar.objs.size=Z (gE "list" VZ.toArray 0):=dx _ rfl;have bO:∀d n,m.heap.get? d=Z n->(ar.push<|gE "list" VZ.toArray 0).get? d=Z n:=λd n a=>cu _ (p d n a);have N:aI e G y g {m with heap:=ar}:=B.kept (Wr:=m.toks) p;have P:∀d n,m.heap.get? d=Z n->d≠ar.objs.size:=λd n a=>dE (b9<|p d n a);refine aC (fI<|jm Jd ⟨_,L,rfl⟩ H_ ?i<|I6 _)
  case i=>
   refine Gj (m:={m with heap:=ar.push (gE "list" VZ.toArray 0)}) V_ Wh L (λt c x D an=>U t c m.toks (λd n f=>x d n (P d n f)<|bO d n f) _ _ D an) (λc x=>al c m.toks λd n f=>x d n (P d n f)<|bO d n f) am ⋯ λq t z ap Wq ⟨as,a1⟩=>⟨_,rfl,a5 ⟨_,rfl,?_⟩⟩;have a2:g ar.objs.size=X:=N.aV.fresh (bB _);have bd:∀d n,ar.get? d=Z n->d≠ar.objs.size:=λd n a=>dE (b9 a);refine⟨.ref ar.objs.size,upd g ar.objs.size<|.lst<|q.toList.map λj=>V5.getD j .aP,?_,rfl,u q _ z ap a2⟩;refine N.laid (Wr:=m.toks) (λd I a=>Wq d I (bd d I a)<|cu _ a) (bB _) ⟨?_,_,as,?_,a1⟩
   ·rw[br,ha,z.size];lia
   ·refine u2 ↥0 λj r I l t=>?_;rw[gC]at l t;cases E:q.toList[j]? with
    |none=>rw[E]at l;cases l
    |some s=>
     rw[E]at l t;cases l;cases t;have Q:s<VZ.length:=j4.mp (z.mem_iff.mp<|lg E);let⟨@I,o,be⟩:=F.get (j:=s) (b:=V5[s]'⋯) (by simp[show s<V5.length by lia]);rw[fj Q]at o;have o:=Option.some.inj o;simp only[List.getD,fj Q,fj (show s<V5.length by lia),uB];rw[o];exact be
end
def pD(V4:List Int)(j:Nat):Int:=(V4.getD j 0)
def NF(ae:V4.Nodup):∀j A,j<V4.length->A<V4.length->pD V4 j=pD V4 A->j=A:=λj A VW b a=>by
 unfold pD at a;rw[de,de,fj VW,fj b]at a;have d:V4[j]=V4[A]:=a;rcases Nat.lt_trichotomy j A with c|c|c
 ·exact absurd d ((vB.mp ae) j A VW b c)
 ·exact c
 ·exact absurd d.symm ((vB.mp ae) A j b VW c)
def O5(a:dZ V4.length q)(f:mv (pD V4) q V4.length)(ae:V4.Nodup):(q.toList.map λj=>V4.getD j 0).Pairwise (· < ·):=by
 rw[vB];intro j A VW b g;have c:=a.size;have i:j<V4.length:=by simpa [c] using VW
 have d:A<V4.length:=by simpa [c] using b
 have ne:=a.ne (NF ae) g d;have le:=f j A ⋯ d;have N:∀s (e:s<(q.toList.map λj=>V4.getD j 0).length),(q.toList.map λj=>V4.getD j 0)[s]=bt (pD V4) q s:=λs e=>by
  have h:s<q.size:=by simpa using e
  rw[FI,I1];show _=V4.getD (q.getD s 0) 0;simp[Array.getD,h]
 rw[N j VW,N A b];lia
section
variable{e:aM}
theorem uz{g:aA}:∀{V4:List Int}{VZ:List ah},bZ (V4.map af.int) VZ->∀(j:Nat),j<V4.length->∃H,VZ[j]?=Z (.int (V4.getD j 0) H)
 |v::p,_,.cons h d,0,c=>by let⟨@H,rfl⟩:=h;exact⟨H,rfl⟩
 |v::p,_,.cons h d,j+1,c=>by
  let⟨@H,a⟩:=uz (g:=g) d j ⇑c;exact⟨H,by simpa using a⟩
def Qa(w:e.calm=ab):ez e (.builtin "sorted") (λx g D=>∃(h:au) (V4:List Int),x=[.ref h]/\g h=Z (.lst<|V4.map af.int)/\V4.Nodup/\V4.length<=63/\
  ∀J (f:List Int),g J=X->f.Perm V4->f.Pairwise (· < ·)->D (.ref J) (upd g J<|.lst<|f.map af.int)):=by
 intro G m y g x Wc D B p c;let⟨h,@V4,rfl,av,ae,aR,u⟩:=c;let⟨@I,rfl,z⟩:=h3 p;cases z;let@⟨k,⟨VZ,@v,b,a⟩⟩:=B.aV h _ av;have i:VZ.length=V4.length:=by rw[<-b.length,br]
 refine JC w (pD V4) oneType' B b (.inl rfl) a rfl rfl (by rw[br];lia) (λt C Wy s O VP D E=>?_) (λC Wy s=>?_) ⋯ λq J d n aX=>?_
 ·refine kas_kind (T:=ah.type "int") t (λr F=>?_) ∅ ∅ E;let⟨@j,VW⟩:=List.getElem?_of_mem F;let⟨@H,o⟩:=uz (g:=g) b j (by rw[<-i];exact (fM.mp VW).1);rw[VW]at o;cases o;exact wX rfl
 ·intro j A aN VW P u;let⟨@H,l⟩:=uz (g:=g) b j ⋯;let⟨@I,t⟩:=uz (g:=g) b A ⋯;unfold iA;rw[sW rfl,sW rfl,de,de,l,t];show wpAny _ _ (keyLt' oneType' (.int _ H)<|.int _ I) _ _ _;rw[keyLt'_oneType];exact oneLt_int u
 ·rw[i]at d n;have L:(q.toList.map λj=>(V4.map af.int).getD j .aP)=(q.toList.map λj=>V4.getD j 0).map af.int:=by
   rw[es];refine gr λs M=>?_;have N:s<V4.length:=j4.mp (d.mem_iff.mp M);show (V4.map af.int).getD s .aP=af.int (V4.getD s 0);simp[List.getD,N]
  rw[L];exact u J _ aX (wq d) (O5 d n ae)
end
end L2
namespace L2
open Spec PyProof.Rows
section
variable{e:aM}
def gU:List aa->List aa->List aa
 |b::x,i::V5=>.tup [b,i]::gU x V5
 |_,_=>[]
theorem GP:∀(x V5:List aa),(gU x V5).length=min x.length V5.length
 |[],V5=>by simp[gU]
 |b::x,[]=>by simp[gU]
 |b::x,i::V5=>by simp[gU,GP x V5]
theorem Cb:∀(x V5:List aa) (j:Nat) (o:aa),(gU x V5)[j]?=Z o->∃b i,x[j]?=Z b/\V5[j]?=Z i/\o=.tup [b,i]
 |[],V5,j,o,c=>by simp[gU]at c
 |b::x,[],j,o,c=>by simp[gU]at c
 |b::x,i::V5,0,o,c=>by simp[gU]at c;exact⟨b,i,rfl,rfl,c.symm⟩
 |b::x,i::V5,j+1,o,c=>by
  let⟨h,d,l,t,a⟩:=Cb x V5 j o (by simpa [gU] using c);exact⟨h,d,by simpa using l,by simpa using t,a⟩
@[simp] def lF(N:aD (List bE)):iS:=λw=>(N w).bind λq=>(gA q.2 q.1).bind λE=>match E with
 |[.im (.tup b),.im<|.tup i]=>Z ((gU b i,X),q.2)
 |_=>X
theorem RV{U:Φ}{g:aA}{h d:au}{x V5:List af}{E Q:List aa}(c:g h=Z (.tup x))(hd:bC g E x)(ar:g d=Z (.tup V5))(e:bC g Q V5):lr (s_ U h d) g [] (gU E Q) where
 go:=λF H s j o a=>by
  let⟨b,i,t,u,rfl⟩:=Cb E Q j o a;let⟨r,f,v⟩:=hd.get t;let⟨I,Wo,Wq⟩:=e.get u;have l:=cC.of (U:=U) (H.tup h _ c);have n:=cC.of (U:=U) (H.tup d _ ar);refine⟨⟨x,V5,r,I,l,n,f,Wo⟩,λk C ⟨S,D,G,z,w,y,A,B⟩=>?_⟩;subst w y;have p:=A x l;have q:=B V5 n;rw[f]at p;rw[Wo]at q;cases p;cases q;have m:cX F (upd F S<|.tup [r,I]):=(cX.refl F).upd z;exact⟨m,S,[r,I],rfl,eu,⟨r,[I],rfl,(v.mono H.tup).mono m.tupS.tup,I,[],rfl,(Wq.mono H.tup).mono m.tupS.tup,rfl⟩⟩
 stop:=λF H s=>⟨x,V5,cC.of<|H.tup h _ c,cC.of<|H.tup d _ ar,by rw[GP,<-hd.length,<-e.length];lia⟩
variable{N:aD (List bE)}
def B5{h d:a7}{q V3:cw}{Q:List a7}{Xc:Nat}{VV:cw}(i:eU e "zip")(j:e.aL "zip" = X)(av:fG e [h,d] N)(k:bA [h,d] e.env=[(az,bM h e.env),(az,bM d e.env)]:=by rfl)(m:bA [d] e.env=[(az,bM d e.env)]:=by rfl):
  ky e (.Tuple Q Xc VV) (.Call (.Name "zip" q) [h,d] [] V3) (lF N):=by
 refine qj (MA i j av k m) λy g B ⟨w,L,p,Wb,R,ae,n,u⟩=>?_;let⟨⟨V6,VQ⟩,l,t⟩:=bq.mp n;let⟨E,o,b⟩:=bq.mp t;refine⟨w,L,V6,VQ,R,ae,l,λP VT V9 C c Wd s=>?_⟩;have v:=Wd.read c o;split at b
 ·cases b;let⟨r,I,rfl,a,z⟩:=vS v;let⟨h,x,rfl,Wo,Wq⟩:=a;let⟨d,V5,rfl,f,A⟩:=z;exact⟨h,d,rfl,⟨x,cC.of Wo⟩,⟨V5,cC.of f⟩,u _ VT V9 [] c (RV Wo Wq f A) trivial (λh av=>nomatch av) (by rw[b4];exact s.both)⟩
 ·cases b
def My{WJ:List Nat}:∀w p Wb,lF N w=Z (p,Wb)->lD WJ p.2:=by
 intro w p Wb c;let⟨⟨V6,VQ⟩,l,t⟩:=bq.mp c;let⟨E,b,a⟩:=bq.mp t;split at a
 ·cases a;trivial
 ·cases a
@[simp] def VI:hR:=λE=>match E with
 |[.im (.int j),.im<|.int A,.im<|.int s]=>Z (.im<|.int<|min (min j A) s)
 |_=>X
def kI(lt:aa->aa->Bool)(b:aa):List aa->List aa
 |[]=>[b]
 |i::p=>if lt b i=ab then b::i::p else i::kI lt b p
def gO(lt:aa->aa->Bool):List aa->List aa
 |[]=>[]
 |b::p=>kI lt b (gO lt p)
def sV:aa->aa->Bool
 |.int j,.int A=>decide (j<A)
 |_,_=>az
def kR:List aa->Option (List Int)
 |[]=>Z []
 |.int j::p=>(kR p).map λm=>j::m
 |_::_=>X
@[simp] def zc:hR:=λE=>match E with
 |[.lst b]=>(kR b).bind λV4=>if V4.Nodup/\V4.length<=63 then Z (.lst<|gO sV b) else X
 |_=>X
def mF(b:Int):List Int->List Int
 |[]=>[b]
 |i::p=>if b<i then b::i::p else i::mF b p
def pn:List Int->List Int
 |[]=>[]
 |b::p=>mF b (pn p)
theorem EP(b:Int):∀J:List Int,kI sV (.int b) (J.map .int)=(mF b J).map .int
 |[]=>rfl
 |i::p=>by
  rw[bH,kI,mF,sV];by_cases c:b<i
  ·rw[aH ⇑c,aH c];rfl
  ·rw[if_neg ⇑c,if_neg c,EP b p];rfl
theorem EC:∀J:List Int,gO sV (J.map .int)=(pn J).map .int
 |[]=>rfl
 |b::p=>by rw[bH,gO,EC p,EP];rfl
theorem w_(b:Int):∀J:List Int,(mF b J).Perm (b::J)
 |[]=>List.Perm.refl _
 |i::p=>by
  rw[mF];split
  ·exact List.Perm.refl _
  ·exact ((w_ b p).cons i).trans (List.Perm.swap b i p)
theorem v9:∀J:List Int,(pn J).Perm J
 |[]=>List.Perm.refl _
 |b::p=>(w_ b _).trans ((v9 p).cons b)
theorem CC(b:Int):∀J:List Int,J.Pairwise (·<=·)->(mF b J).Pairwise (·<=·)
 |[],_=>e4 _ _
 |i::p,c=>by
  let⟨l,t⟩:=h1.mp c;rw[mF];split
  ·rename_i a;refine h1.mpr ⟨λk aR=>?_,c⟩;rcases bR.mp aR with rfl|aR
   ·lia
   ·have:=l k aR;lia
  ·rename_i a;refine h1.mpr ⟨λk aR=>?_,CC b p t⟩;rcases bR.mp ((w_ b p).mem_iff.mp aR) with rfl|aR
   ·lia
   ·exact l k aR
theorem JZ:∀J:List Int,(pn J).Pairwise (·<=·)
 |[]=>List.Pairwise.nil
 |b::p=>CC b _ (JZ p)
def PD{J:List Int}(c:J.Nodup):(pn J).Pairwise (· < ·):=by
 have l:=JZ J;have t:(pn J).Nodup:=(v9 J).nodup_iff.mpr c;exact K1 (λh d b i=>⋯) l t
theorem F5:∀{J M:List Int},J.Perm M->J.Pairwise (· < ·)->M.Pairwise (· < ·)->J=M
 |[],M,c,_,_=>c.nil_eq
 |h::J,[],c,_,_=>absurd c.length_eq ↥0
 |h::J,d::M,c,f,g=>by
  have b:=h1.mp f;have e:=h1.mp g;have a:h=d:=by
   rcases bR.mp (c.mem_iff.mp<|.head _) with k|k
   ·exact k
   ·rcases bR.mp (c.mem_iff.mpr<|.head _) with i|i
    ·exact i.symm
    ·have l:=b.1 d i;have t:=e.1 h k;omega
  subst a;rw[F5 c.cons_inv b.2 e.2]
theorem wR:∀{b:List aa}{V4:List Int},kR b=Z V4->b=V4.map .int
 |[],V4,c=>by cases c;rfl
 |.int j::p,V4,c=>by
  rw[kR]at c;let⟨m,l,rfl⟩:=ck.mp c;rw[wR l];rfl
 |.aP::_,_,c=>by cases c
 |.aJ _::_,_,c=>by cases c
 |.str _::_,_,c=>by cases c
 |.tup _::_,_,c=>by cases c
 |.fn _::_,_,c=>by cases c
 |.aX _::_,_,c=>by cases c
 |.fd _::_,_,c=>by cases c
theorem Aq{g:aA}:∀{V4:List Int}{P:List af},bC g (V4.map .int) P->P=V4.map af.int
 |[],P,c=>c
 |v::p,P,c=>by
  let⟨r,H,rfl,l,t⟩:=c;cases (show r=.int v from l);rw[Aq t];rfl
theorem BV{g:aA}:∀V4:List Int,bC g (V4.map .int) (V4.map af.int)
 |[]=>rfl
 |v::p=>⟨.int v,_,rfl,rfl,BV p⟩
def Kw(f:e.calm=ab)(k:e.A.units+20<bN):hc e (.builtin "sorted") zc:=by
 refine (Qa f).imp λx g D ⟨E,o,h,a,u⟩=>?_;unfold zc at a;split at a
 ·rename_i b;let⟨V4,i,c⟩:=bq.mp a;split at c
  ·rename_i d;cases c;let⟨r,rfl,Y,q,x,rfl,l,t,Y⟩:=fF h;cases wR i;cases Aq t;refine⟨q,V4,rfl,l,d.1,d.2,λJ m aX Ws j=>?_⟩;rw[EC]at u;rw[F5 (Ws.trans (v9 V4).symm) j (PD d.1)];exact cc.l u aX (BV _)
  ·cases c
 ·cases a
def zS(a:e.A.units+20<bN):q6 e pz:=G8
end
end L2
namespace L2
open Spec PyProof.Rows PySem.W
end L2
namespace L2
open Spec PyProof.Rows
section
variable{e:aM}
def pw:aa->Option eG
 |.int j=>Z (.inl j)
 |.str b=>Z (.inr b)
 |_=>X
@[simp] theorem VB(j:Int):pw (.int j)=Z (.inl j):=rfl
@[simp] theorem Vm(b:aF):pw (.str b)=Z (.inr b):=rfl
def Iw:eG->aa
 |.inl j=>.int j
 |.inr b=>.str b
@[simp] theorem Vx(j:Int):Iw (.inl j)=.int j:=rfl
@[simp] theorem VH(b:aF):Iw (.inr b)=.str b:=rfl
def AZ{g:aA}{o:aa}{r:af}{s:eG}(c:cp g o r)(a:pw o=Z s):r=cy s:=by
 cases o with
 |int j=>cases a;exact c
 |str b=>cases a;exact c
 |_=>cases a
def dH{Wh:Type}[DecidableEq Wh](VR:List (Wh×aa))(s:Wh)(o:aa):List (Wh×aa):=(
 if (VR.any λa=>decide (a.1=s))=ab then VR.map (λa=>if a.1=s then (a.1,o) else a) else VR++[(s,o)])
variable{Wh:Type}
def d9.any[DecidableEq Wh]{g:aA}{s:Wh}{J:List (Wh×aa)}{M:List (Wh×af)}(c:d9 g J M):(J.any λa=>decide (a.1=s))=(M.any λa=>decide (a.1=s)):=by
 unfold d9 at c;induction c with
 |nil=>rfl
 |cons p _ b=>rw[jq,jq,b,p.1]
def d9.upd[DecidableEq Wh]{g:aA}{s:Wh}{o:aa}{r:af}(C:cp g o r){J:List (Wh×aa)}{M:List (Wh×af)}(c:d9 g J M):d9 g (J.map λb=>if b.1=s then (b.1,o) else b) (M.map λb=>if b.1=s then (b.1,r) else b):=by
 unfold d9 at c;induction c with
 |nil=>exact .nil
 |@cons q u _ _ p _ e=>
  rw[bH,bH];refine .cons ?_ e;by_cases a:q.1=s
  ·have d:u.1=s:=p.1.symm.trans a;rw[aH a,aH d];exact⟨p.1,C⟩
  ·have d:¬ u.1=s:=λk=>a (p.1.trans k);rw[if_neg a,if_neg d];exact p
def MD{V7 WQ:Type}{L:V7->WQ->Prop}{J:List V7}{M:List WQ}{h:V7}{d:WQ}(c:dV L J M)(b:L h d):dV L (J++[h]) (M++[d]):=by
 induction c with
 |nil=>exact .cons b .nil
 |cons p _ a=>exact .cons p a
def d9.put[DecidableEq Wh]{g:aA}{s:Wh}{o:aa}{r:af}(C:cp g o r){J:List (Wh×aa)}{M:List (Wh×af)}(c:d9 g J M):d9 g (dH J s o) (fR M s r):=by
 unfold dH fR;rw[c.any];split
 ·exact c.upd C
 ·exact MD c ⟨rfl,C⟩
@[simp] def mW:aD ak:=λw=>Z (.aB [],w)
def qG{V3:cw}:b2 e (.Dict [] [] V3) mW:=by
 refine d_ Vj λy g D ⟨w,L,p,Wb,R,ae,c,u⟩ q b=>?_;cases c;have m:cX g (L2.upd g q<|.aB []):=(cX.refl g).upd b;have d:bb g L g (L++[]):=by rw[b4];exact bb.perm ae (List.Perm.refl _)
 exact u _ _ L [q] (R.mono m.tupS λh Y n a=>m h n a) ⟨q,[],rfl,eu,.nil,rfl⟩ (d.new m (e4 _ _) (λh av=>by rw[cR.mp av];exact b) R.chg)
@[simp] def Vy(a b:aD ak):aD ak:=λw=>(a w).bind λq=>(b q.2).bind λu=>match q.1,u.1 with
 |.im s,.im o=>(pw s).map λc=>(.dA [(c,o)],u.2)
 |_,_=>X
@[simp] def hM(f s o:ak):Option ak:=match f,s,o with
 |.lst x,.im<|.int j,.im o=>(i7 x.length j).map λA=>.lst (x.set A o)
 |.dA VR,.im s,.im o=>(pw s).bind λa=>if VR.length<100000 then Z (.dA<|dH VR a o) else X
 |.aB VR,.im<|.tup s,.im o=>if aa.keys 7 s=ab/\VR.length<100000 then Z (.aB<|dH VR s o) else X
 |_,_,_=>X
def nv(J:e.A.units+20<bN):q6 e hM:=by
 intro G m y g n j r L M I D B i p q N;let⟨f,s,o,P,VO,@V2,v,w,z,ae,a,u⟩:=N;unfold hM at a;split at a
 ·exact G8 G m y g n j r L M I D B i p q ⟨_,_,_,P,VO,V2,v,w,z,ae,a,u⟩
 ·let⟨@S,Q,C⟩:=bq.mp a;split at C
  ·rename_i c;cases C;let⟨h,@V5,rfl,l,t,rfl⟩:=v;let@⟨hd,rfl⟩:=z;have f:fB g h:=⟨_,l,(λ_ a=>by cases a),(λ_ Y a=>by cases a)⟩;cases i;have R:=AZ w.1 Q;subst R;refine td J B (k_.k l (by rw[<-t.length];exact qu c)) p q λVY E=>⟨_,E,u _ [h] ?_ (bb.chg (.head _) f (e4 _ _) λb F=>by simpa using F)⟩;exact⟨h,_,rfl,eu,(d9.put hd t).mono<|cp.kh f,rfl⟩
  ·cases C
 ·split at a
  ·rename_i c;cases a;let⟨h,@V5,rfl,l,t,rfl⟩:=v;let@⟨hd,rfl⟩:=z;have f:fB g h:=⟨_,l,(λ_ a=>by cases a),(λ_ Y a=>by cases a)⟩;cases i;let⟨d,@x,rfl,Wo,Wq⟩:=w.1;refine td J B (k_.t l ⟨c.1,d,x,rfl,Wo,Wq⟩ (by rw[<-t.length];exact qu c.2)) p q λVY E=>⟨_,E,u _ [h] ?_ (bb.chg (.head _) f (e4 _ _) λb F=>by simpa using F)⟩;exact⟨h,_,rfl,eu,(d9.put hd t).mono<|cp.kh f,rfl⟩
  ·cases a
 ·cases a
@[simp] def vz(j:Nat)(a nc:aD ak):aD ak:=λw=>match w[j]? with
 |some (Z b)=>if Bd b=ab then (a w).bind λq=>(nc q.2).bind λu=>match u.2[j]?,q.1,u.1 with
   |some (Z<|.dA VR),.im s,.im o=>(pw s).map λc=>(.im<|(cq VR c).getD o,u.2)
   |some (Z<|.aB VR),.im<|.tup s,.im o=>if aa.keys 7 s=ab then Z (.im<|(cq VR s).getD o,u.2) else X
   |_,_,_=>X
  else X
 |_=>X
def Rk{g:aA}{f:ak}{b:af}{VO:List au}(c:b7 g f b VO)(a:Bd f=ab):∃h,b=.ref h/\t5 g h:=by
 cases f with
 |dA E=>let⟨h,@x,rfl,l,Y⟩:=c;exact⟨h,rfl,.inl ⟨x,.inl l⟩⟩
 |aB E=>let⟨h,@x,rfl,l,Y⟩:=c;exact⟨h,rfl,.inr ⟨x,.inl l⟩⟩
 |_=>cases a
def zX[DecidableEq Wh]{g:aA}{s:Wh}{VR:List (Wh×aa)}{WB:List (Wh×af)}{o:aa}{r:af}(c:d9 g VR WB)(C:cp g o r):cp g ((cq VR s).getD o) ((g9 WB s).getD r):=by
 let@⟨l,t⟩:=lM (s:=s) c;cases a:cq VR s with
 |none=>rw[t a];exact C
 |some b=>let⟨@I,d,e⟩:=l b a;rw[d];exact e
def ME{j:Nat}{n s b:a7}{G nc:aD ak}{W0 WM:cw}(H:e.A.units+20<bN)(I:bj e n (gY j))(J:b2 e s G)(hd:b2 e b nc)(M:GL e n "get" W0 s b WM:=by exact⟨rfl,rfl,rfl,rfl⟩):
  b2 e (.Call (.Attribute n "get" W0) [s,b] [] WM) (vz j G nc):=by
 refine d_ (Us H I J hd M) λy g D N=>?_;let⟨w,L,p,@Wb,R,ae,c,u⟩:=N;unfold vz at c;split at c
 ·rename_i bv P;split at c
  ·rename_i Q;let⟨ca,cd,@ce,r,S,Y,Y⟩:=R.out P;let⟨@h,rfl,T⟩:=Rk S Q;let⟨@⟨Wz,VQ⟩,l,t⟩:=bq.mp c;let⟨@⟨WE,Wi⟩,U,a⟩:=bq.mp t;refine⟨_,r,h,rfl,T,w,L,Wz,VQ,R,ae,l,λi VT V9 ch al Wd f=>?_⟩;have am:=c4.mp f.ae;refine⟨VQ,V9,WE,Wi,al,am.1,U,λk V8 Wg b0 q Wu m=>?_⟩;dsimp only at a;split at a
   ·rename_i VR an ap v;let⟨@as,a1,a2⟩:=ck.mp a;cases a2;let@⟨cO,rfl⟩:=Wd;let@⟨z,rfl⟩:=Wu;rw[b4]at f m;let⟨bd,VO,@be,o,B,bi,bm⟩:=q.out v;rw[r]at o;cases o;let⟨bn,@WB,C,E,F,Y⟩:=B;cases C;refine⟨_,.inl ⟨WB,as,.inl E,AZ cO a1,rfl⟩,u _ V8 Wg [] q ⟨zX F z,rfl⟩ (by rw[b4];exact f.seq m)⟩
   ·rename_i VR an ap v;split at a
    ·rename_i bs;cases a;let@⟨cO,rfl⟩:=Wd;let@⟨z,rfl⟩:=Wu;rw[b4]at f m;let⟨bd,VO,@be,o,B,bi,bm⟩:=q.out v;rw[r]at o;cases o;let⟨bn,@WB,C,E,F,Y⟩:=B;cases C;let⟨d,@x,rfl,Wo,Wq⟩:=cO.mono m.tup.tup;exact⟨_,.inr ⟨WB,_,d,.inl E,rfl,⟨bs,d,x,rfl,Wo,Wq⟩,rfl⟩,u _ V8 Wg [] q ⟨zX F z,rfl⟩ (by rw[b4];exact f.seq m)⟩
    ·cases a
   ·cases a
  ·cases c
 ·cases c
theorem yF{V7 WQ:Type}{L:V7->WQ->Prop}:∀{a:List V7}{e:List WQ},dV L a e->∀(j:Nat),j<a.length->∃h d,a[j]?=Z h/\e[j]?=Z d/\L h d
 |_,_,.nil,j,c=>by simp at c
 |_,_,.cons p H,0,c=>⟨_,_,rfl,rfl,p⟩
 |_,_,.cons p H,j+1,c=>by
  let⟨h,@d,b,i,k⟩:=yF H j ⇑c;exact⟨h,d,by simpa using b,by simpa using i,k⟩
end
section
variable{e:aM}
def G9:bE->ak->Option (Nat×ak)
 |.aS j,o=>Z (j,o)
 |.b3 _,_=>X
@[simp] theorem Vv(j:Nat)(o:ak):G9 (.aS j) o=Z (j,o):=rfl
@[simp] theorem VJ(f o:ak):G9 (.b3 f) o=X:=rfl
def B8{V4:List Int}{Wc:List ah}(p:bZ (V4.map af.int) Wc)(j:Nat)(r:ah)(c:Wc[j]?=Z r):∃H,r=.int ((V4[j]?).getD 0) H:=by
 have d:=p.length;rw[br]at d;have VW:j<V4.length:=by rw[d];exact (fM.mp c).1
 let⟨@I,e,⟨@H,a⟩⟩:=p.get (j:=j) (b:=af.int V4[j]) (by simp[VW]);rw[c]at e;cases e;exact⟨H,by rw[a];simp[VW]⟩
def OF{j:Nat}{f:aF}{W9 l:cw}{Wl WR W8:a7}{W4:List a7}{Wa:gq}{V3:cw}{own:List aF}{Wk:List Nat}{fl:c7}{N:jP->gw}{P:jP->ew}{WX:jP->bU}(s:e.N.Nodup)(t:e.N[j]?=Z f)(v:jc e.env.scope f)(x:e.calm=ab)(V2:hV e Wa own Wk)(VW:kf e Wl WR fl)(C:∀i,jx (e.fV (f3 e own Wk) Wa i) Wl<|N i)(D:∀i,q2 (e.fV (f3 e own Wk) Wa i) W4<|P i)(E:∀i,bj (e.fV (f3 e own Wk) Wa i) W8<|WX i)(F:∀b,mZ WR e.env b=pure b:=by intro Y;rfl)(H:oC (.ListComp W8 [⟨Wl,WR,W4,0⟩] Wa V3) (Z<|.Name f W9) l.line e.env=pure ab:=by rfl)(I:e.fn f=ab\/e.env.scope.names.lookup f=Z .local:=by first|exact .inl rfl|exact .inr rfl|assumption):
  hh e (.Assign [.Name f W9] (.ListComp W8 [⟨Wl,WR,W4,0⟩] Wa V3) l) (xC (u4 own Wk fl N P WX)<|zT j):=by
 intro G m y g J B c;rw[exec_Assign_Name_used _ _ _ _ H];refine aC (sr<|aC ?_);show wpAny _ e.A (do let _ <-vX (.ListComp W8 [⟨Wl,WR,W4,0⟩] Wa V3) Wa e.env _ (qR []) az (bM WR e.env) (Z<|ij (.Name f W9) e.env)) _ _ m;refine aC (hg (D5 (use:=Z (ij (.Name f W9) e.env)) (f8:=λ_ VY=>oz e G J .next VY) x V2 VW C D E F B c λw aN a1 L M Q R z o p k q u=>?_) (λ_ VY S=>a5<|a5 S) λ_ Y a=>a);show wpAny _ e.A (ij (.Name f W9) e.env<|.ref w) _ _ L;refine F2 (IP Q s t v (r:=.ref w) rfl (λT U al=>?_) I);let⟨@h,am,av⟩:=al;have an:aN≠h:=by
  rcases av with rfl|av
  ·exact dY o
  ·exact dY (p _ _ av)
 exact⟨M,R.sameBut am an,λar ap=>⟨_,_,U.turned (aO:=aN) (Wr:=T.toks) (λd n ag a=>(ap.2 d ag).trans a) z (dY o) (.inr k) p q,u⟩⟩
def x3{T:List Nat}{j:Nat}{a:aF}{W9 d:cw}{Wl WR W8:a7}{W4:List a7}{Wa:gq}{V3:cw}{own:List aF}{Wk:List Nat}{S:iS}{i:fs}{W7:aD Bool}{Xf:aD ak}(f:e.N.Nodup)(h:e.N[j]?=Z a)(k:jc e.env.scope a)(m:e.calm=ab)(V2:hV e Wa own Wk)(ae:Wk.Nodup)(VW:ky e Wl WR S)(n:∀c,hr (e.fV (f3 e own Wk) Wa c) (oO own.length Wk.length) Wl i)(o:∀c,sS (e.fV (f3 e own Wk) Wa c) W4 W7)(q:∀c,b2 (e.fV (f3 e own Wk) Wa c) W8 Xf)(s:j∉T)(v:∀b,mZ WR e.env b=pure b:=by intro Y;rfl)(x:oC (.ListComp W8 [⟨Wl,WR,W4,0⟩] Wa V3) (Z<|.Name a W9) d.line e.env=pure ab:=by rfl)(z:e.fn a=ab\/e.env.scope.names.lookup a=Z .local:=by first|exact .inl rfl|exact .inr rfl|assumption):
  hp e T (.Assign [.Name a W9] (.ListComp W8 [⟨Wl,WR,W4,0⟩] Wa V3) d) (bI j<|cE own.length Wk S i W7 Xf):=by
 refine jC (OF f h k m V2 VW n o q v x z) λVP y g A=>?_;let⟨w,L,aX,@Wb,R,B,C,u⟩:=A;let⟨@⟨p,VQ⟩,l,t⟩:=bq.mp C;split at t
 ·rename_i D;cases t;refine sk ae ⟨w,L,p,_,R,B,l,λr VT V9 VO E F G=>?_⟩;let⟨Wg,@b0,H,Ws⟩:=E.put (j:=j) F D;exact u _ VT Wg (dC.set s) H (G.less Ws)
 ·cases t
def Cq:ak->ak
 |.lst b=>.im (.aX b)
 |.aB []=>.im (.fd [])
 |o=>o
@[simp] theorem VK(b:List aa):Cq (.lst b)=.im (.aX b):=rfl
@[simp] theorem VG(o:aa):Cq (.im o)=.im o:=rfl
variable{h:au}{WA:ba}
def JA{g:aA}{I:fz}(Wo:g h=Z I)(b:∀x,I≠.tup x)(c:∀q r,I≠.c6 q r):fa g (upd g h<|.c6 WA I):=fa.of (λd x a=>by
  have:d≠h:=λk=>by subst k;rw[Wo]at a;cases a;exact b _ rfl
  rw[cP this];exact a) λd n I a=>by
  have:d≠h:=λk=>by subst k;rw[Wo]at a;cases a;exact c _ _ rfl
  rw[cP this];exact a
def NA{G:List (au×ba)}{y:a3}{g VT:aA}{f:aw}{D:cj}{L V9 VO:List au}{VQ:aU}{I:fz}{o:ak}(l:bp VT VQ y V9)(b:bb g L VT (V9++VO))(Wo:VT h=Z I)(m:∀x,I≠.tup x)(p:∀q C,I≠.c6 q C)(s:VO=[h])(t:aI e G y (upd VT h<|.c6 WA I) f)(hd:fa VT (upd VT h<|.c6 WA I)->b7 (upd VT h<|.c6 WA I) o (.ref h) [])(u:∀r F Ww i,bp F VQ y Ww->b7 F o r i->bb g L F (Ww++i)->D r F):eB e G y D (.ref h) f:=by
 subst s;have j:=c4.mp b.ae;have v:h∉V9:=λk=>j.2.2 h k h (.head _) rfl;have gb:=JA (WA:=WA) Wo m p;refine⟨.ref h,_,t,rfl,u _ _ V9 [] (l.mono gb λd ag n a=>by
   have ne:d≠h:=λk=>by subst k;exact v ag
   rw[cP ne];exact a) (hd gb) ?_⟩
 rw[b4];refine⟨λd n a ag=>?_,λd ag=>b.sub d<|eb _ ag,j.1,b.tup.trans gb,λd n a=>?_⟩
 ·have:d≠h:=λk=>by
   subst k;rcases b.sub d (er _<|.head _) with c|c
   ·exact ag c
   ·rw[a]at c;cases c
  rw[cP this];exact b.keep d n a ag
 ·by_cases k:d=h
  ·exact⟨_,by rw[k];exact eu⟩
  ·let⟨@WN,w⟩:=b.grow d n a;exact⟨WN,by rw[cP k];exact w⟩
end
end L2
namespace c5
open Spec PyProof.Rows
end c5
namespace L2
open Spec PyProof.Rows
section
variable{e:aM}
theorem bC.rev{g:aA}:∀{E:List aa}{x:List af},bC g E x->bC g E.reverse x.reverse
 |[],x,c=>by cases (show x=[] from c);rfl
 |o::E,x,c=>by
  let⟨r,@p,rfl,l,t⟩:=c;rw[qi,qi];exact t.rev.app ⟨r,[],rfl,l,rfl⟩
end
variable{O:bz}{W7 WO WV:aD bE}{U z:gm}{D:ah->aw->Prop}{d:Bool}{WE:ak}{I r:ah}{i:af}{m:aw}{y:a3}{G:List (au×ba)}{b o:aa}{g:aA}
theorem CF{c:a4}:∀(v:Nat) {b i:aa}{r:ah},aa.bQ v b=ab->aa.bQ v i=ab->dz c b r->dz c i r->b=i
 |v,.aP,i,r,_,a_,g,e=>by
  cases (show r=.none from g);cases i with
  |aP=>rfl
  |aJ d=>cases e
  |int A=>let⟨@I,a⟩:=e;cases a
  |str k=>let⟨@I,a⟩:=e;cases a
  |tup E=>let⟨Y,Y,Y,@Y,a,Y⟩:=e;cases a
  |fn h=>cases v<;>cases a_
  |aX h=>cases v<;>cases a_
  |fd=>cases v<;>cases a_
 |v,.aJ d,i,r,_,a_,g,e=>by
  cases (show r=.bool d from g);cases i with
  |aP=>cases e
  |aJ f=>cases e;rfl
  |int A=>let⟨@I,a⟩:=e;cases a
  |str k=>let⟨@I,a⟩:=e;cases a
  |tup E=>let⟨Y,Y,Y,@Y,a,Y⟩:=e;cases a
  |fn h=>cases v<;>cases a_
  |aX h=>cases v<;>cases a_
  |fd=>cases v<;>cases a_
 |v,.int j,i,r,_,a_,g,e=>by
  let⟨@H,rfl⟩:=g;cases i with
  |aP=>cases e
  |aJ f=>cases e
  |int A=>let⟨@I,a⟩:=e;injection a with a;rw[a]
  |str k=>let⟨@I,a⟩:=e;cases a
  |tup E=>let⟨Y,Y,Y,@Y,a,Y⟩:=e;cases a
  |fn h=>cases v<;>cases a_
  |aX h=>cases v<;>cases a_
  |fd=>cases v<;>cases a_
 |v,.str j,i,r,_,a_,g,e=>by
  let⟨@H,rfl⟩:=g;cases i with
  |aP=>cases e
  |aJ f=>cases e
  |int A=>let⟨@I,a⟩:=e;cases a
  |str k=>let⟨@I,a⟩:=e;injection a with a;rw[a]
  |tup E=>let⟨Y,Y,Y,@Y,a,Y⟩:=e;cases a
  |fn h=>cases v<;>cases a_
  |aX h=>cases v<;>cases a_
  |fd=>cases v<;>cases a_
 |v+1,.tup E,i,r,w,a_,g,e=>by
  let⟨h,n,S,@M,rfl,l,t,x,y⟩:=g;cases i with
  |aP=>cases e
  |aJ f=>cases e
  |int A=>let⟨@I,a⟩:=e;cases a
  |str k=>let⟨@I,a⟩:=e;cases a
  |fn h=>cases a_
  |aX h=>cases a_
  |fd=>cases a_
  |tup Q=>
   let⟨F,WN,G,@J,a,q,L,m,z⟩:=e;cases a;rw[l]at q;cases q;rw[x]at m;injection m with m _;subst m;have all:∀(E Q:List aa) (P:List ah),aa.cx v E=ab->aa.cx v Q=ab->dU c E P->dU c Q P->E=Q:=by
    intro E;induction E with
    |nil=>
     intro Q P Y Y h d;cases Q with
     |nil=>rfl
     |cons a Q=>let⟨Y,@Y,u,Y⟩:=d;rw[show P=[] from h]at u;cases u
    |cons o E B=>
     intro Q P Wo Wq h d;let⟨r,@p,rfl,C,D⟩:=h;cases Q with
     |nil=>cases (show r::p=[] from d)
     |cons a Q=>
      let⟨N,@WK,u,dJ,dr⟩:=d;cases u;rw[aa.cx,cI]at Wo Wq;rw[CF v Wo.1 Wq.1 C dJ,B Q p Wo.2 Wq.2 D dr]
   rw[all E Q _ w a_ y z]
 |0,.tup _,_,_,s,_,_,_=>by cases s
 |v,.fn _,_,_,s,_,_,_=>by cases v<;>cases s
 |v,.aX _,_,_,s,_,_,_=>by cases v<;>cases s
 |v,.fd _,_,_,s,_,_,_=>by cases v<;>cases s
open Classical in
def jo(c:a4)(o:aa)(r:ah):Bool:=(if k:∃b,aa.bQ 8 b=ab/\dz c b r then b8 k.choose o else az)
def kO{c:a4}(s:aa.bQ 8 b=ab)(j:dz c b r):jo c o r=b8 b o:=by
 unfold jo;have k:∃b,aa.bQ 8 b=ab/\dz c b r:=⟨b,s,j⟩;rw[dif_pos k,CF 8 k.choose_spec.1 s k.choose_spec.2 j]
theorem qU{c:a4}{o:aa}:∀{E:List aa}{P:List ah},aa.cx 8 E=ab->dU c E P->P.any (jo c o)=E.any λb=>b8 b o
 |[],P,_,a=>by rw[show P=[] from a];rfl
 |b::E,P,s,a=>by
  let⟨r,@p,rfl,l,t⟩:=a;rw[aa.cx,cI]at s;rw[jq,jq,kO s.1 l,qU s.2 t]
theorem n2{c:a4}:∀{E:List aa}{P:List ah}{r:ah},aa.cx 8 E=ab->dU c E P->r∈P->∃b,aa.bQ 8 b=ab/\dz c b r
 |[],P,r,_,a,M=>by rw[show P=[] from a]at M;cases M
 |b::E,P,r,s,a,M=>by
  let⟨I,@p,rfl,l,t⟩:=a;rw[aa.cx,cI]at s;rcases bR.mp M with rfl|M
  ·exact⟨b,s.1,l⟩
  ·exact n2 s.2 t M
section
variable{e:aM}
def hn(o:aa):ak->Option Bool
 |.im (.tup E)=>if (aa.bQ 8 o&&aa.cx 8 E)=ab then Z (E.any λb=>b8 b o) else X
 |.lst E=>if (aa.bQ 8 o&&aa.cx 8 E)=ab then Z (E.any λb=>b8 b o) else X
 |.aB VR=>match o with
  |.tup s=>if aa.keys 7 s=ab then Z (cq VR s).isSome else X
  |_=>X
 |.dA VR=>match o with
  |.int j=>Z (cq VR<|.inl j).isSome
  |.str b=>Z (cq VR<|.inr b).isSome
  |_=>X
 |_=>X
@[simp] theorem SH(o:aa)(E:List aa):hn o (.im<|.tup E)=if (aa.bQ 8 o&&aa.cx 8 E)=ab then Z (E.any λb=>b8 b o) else X:=rfl
@[simp] theorem TB(o:aa)(E:List aa):hn o (.lst E)=if (aa.bQ 8 o&&aa.cx 8 E)=ab then Z (E.any λb=>b8 b o) else X:=rfl
@[simp] theorem Ef(s:List aa)(VR:List (List aa×aa)):hn (.tup s) (.aB VR)=if aa.keys 7 s=ab then Z (cq VR s).isSome else X:=rfl
@[simp] def h4:gm:=λh d=>match h with
 |.im o=>(hn o d).map λp=>.im (.aJ p)
 |_=>X
@[simp] def hx:gm:=λh d=>match h with
 |.im o=>(hn o d).map λp=>.im (.aJ<|!p)
 |_=>X
def pF{Wh:Type}[DecidableEq Wh]{g:aA}{s:Wh}{VR:List (Wh×aa)}{WB:List (Wh×af)}(c:d9 g VR WB):(g9 WB s).isSome=(cq VR s).isSome:=by
 cases a:cq VR s with
 |none=>rw[(lM c).2 a];rfl
 |some o=>let⟨@r,l,Y⟩:=(lM c).1 o a;rw[l];rfl
def L1{b:af}(L:e.A.units+20<bN)(B:aI e G y g m)(f:b1 b r)(n:b1 i I)(p:cp g o b)(v:fq g WE i)(a:hn o WE=Z d)(u:∀VY,aI e G y g VY->D (.bool d) VY):wpAny (aT e.prog e.w) e.A (eL .In r I) D e.cJ m:=by
 unfold hn at a;split at a
 ·rename_i E;split at a
  ·rename_i c;cases a;rw[cI]at c;let⟨h,@x,rfl,l,t⟩:=v.i;cases n;let⟨@VZ,N,q,Y⟩:=B.tuple (cC.of l);have z:=t.eA B.aV N;refine SeqAt.in_tupleAt (jo m.heap o) (show m.heap.IsTuple h VZ.toArray from q) (λC M=>?_) ?_
   ·let⟨@k,F,J⟩:=n2 c.2 z ⇑M;rw[kO F J];exact h2 8 F c.1 (by show e.A.units+1+8+1<bN;lia) J (p.eA B.aV f)
   ·rw[ud,qU c.2 z];exact u m B
  ·cases a
 ·rename_i E;split at a
  ·rename_i c;cases a;rw[cI]at c;let⟨Y,h,@x,rfl,l,t,Y⟩:=v;cases n;let⟨@VZ,q,z,Y⟩:=oS B l t;refine SeqAt.in_listAt (jo m.heap o) q (λC M=>?_) ?_
   ·let⟨@k,F,J⟩:=n2 c.2 z ⇑M;rw[kO F J];exact h2 8 F c.1 (by show e.A.units+1+8+1<bN;lia) J (p.eA B.aV f)
   ·rw[ud,qU c.2 z];exact u m B
  ·cases a
 ·rename_i VR;split at a
  ·rename_i s;split at a
   ·rename_i P;cases a;let⟨Y,h,@WB,rfl,l,t,Y⟩:=v;cases n;let⟨d,@V5,rfl,Q,R⟩:=p;rw[<-pF t]at u;exact xU L B (eM.t l ⟨P,d,V5,rfl,Q,R⟩) f u
   ·cases a
  ·cases a
 ·rename_i VR;split at a
  ·rename_i j;cases a;let⟨Y,h,@WB,rfl,l,t,Y⟩:=v;cases n;rw[<-pF t]at u;cases (show b=cy (.inl j) from p);exact xU L B (eM.k l) f u
  ·rename_i j;cases a;let⟨Y,h,@WB,rfl,l,t,Y⟩:=v;cases n;rw[<-pF t]at u;cases (show b=cy (.inr j) from p);exact xU L B (eM.k l) f u
  ·cases a
 ·cases a
def nR(c:e.A.units+20<bN):fx e (eL .In) h4:=by
 intro G m y g b i r I D B f h k;let⟨Wz,WE,@o,l,n,a,u⟩:=k;unfold h4 at a;split at a
 ·let⟨@d,p,q⟩:=ck.mp a;cases q;exact L1 c B f h l.i n p λVY s=>⟨.aJ d,g,s,rfl,cc.i u rfl⟩
 ·cases a
def QU{b:af}(L:e.A.units+20<bN)(B:aI e G y g m)(f:b1 b r)(n:b1 i I)(p:cp g o b)(v:fq g WE i)(a:hn o WE=Z d)(u:∀VY,aI e G y g VY->D (.bool<|!d) VY):wpAny (aT e.prog e.w) e.A (eL .NotIn r I) D e.cJ m:=by
 unfold hn at a;split at a
 ·rename_i E;split at a
  ·rename_i c;cases a;rw[cI]at c;let⟨h,@x,rfl,l,t⟩:=v.i;cases n;let⟨@VZ,N,q,Y⟩:=B.tuple (cC.of l);have z:=t.eA B.aV N;refine SeqAt.notIn_tupleAt (jo m.heap o) (show m.heap.IsTuple h VZ.toArray from q) (λC M=>?_) ?_
   ·let⟨@k,F,J⟩:=n2 c.2 z ⇑M;rw[kO F J];exact h2 8 F c.1 (by show e.A.units+1+8+1<bN;lia) J (p.eA B.aV f)
   ·rw[ud,qU c.2 z];exact u m B
  ·cases a
 ·rename_i E;split at a
  ·rename_i c;cases a;rw[cI]at c;let⟨Y,h,@x,rfl,l,t,Y⟩:=v;cases n;let⟨@VZ,q,z,Y⟩:=oS B l t;refine SeqAt.notIn_listAt (jo m.heap o) q (λC M=>?_) ?_
   ·let⟨@k,F,J⟩:=n2 c.2 z ⇑M;rw[kO F J];exact h2 8 F c.1 (by show e.A.units+1+8+1<bN;lia) J (p.eA B.aV f)
   ·rw[ud,qU c.2 z];exact u m B
  ·cases a
 ·rename_i VR;split at a
  ·rename_i s;split at a
   ·rename_i P;cases a;let⟨Y,h,@WB,rfl,l,t,Y⟩:=v;cases n;let⟨d,@V5,rfl,Q,R⟩:=p;rw[<-pF t]at u;exact xG L B (eM.t l ⟨P,d,V5,rfl,Q,R⟩) f u
   ·cases a
  ·cases a
 ·rename_i VR;split at a
  ·rename_i j;cases a;let⟨Y,h,@WB,rfl,l,t,Y⟩:=v;cases n;rw[<-pF t]at u;cases (show b=cy (.inl j) from p);exact xG L B (eM.k l) f u
  ·rename_i j;cases a;let⟨Y,h,@WB,rfl,l,t,Y⟩:=v;cases n;rw[<-pF t]at u;cases (show b=cy (.inr j) from p);exact xG L B (eM.k l) f u
  ·cases a
 ·cases a
def oR(c:e.A.units+20<bN):fx e (eL .NotIn) hx:=by
 intro G m y g b i r I D B f h k;let⟨Wz,WE,@o,l,n,a,u⟩:=k;unfold hx at a;split at a
 ·let⟨@d,p,q⟩:=ck.mp a;cases q;exact QU c B f h l.i n p λVY s=>⟨.aJ<|!d,g,s,rfl,cc.i u rfl⟩
 ·cases a
@[simp] def m7(z U:gm)(WV WO W7:aD bE):aD ak:=λw=>(WV w).bind λq=>(WO q.2).bind λu=>(eC u.2 q.1).bind λWz=>(eC u.2 u.1).bind λWE=>(z Wz WE).bind λo=>(nV o).bind λs=>
 if s=ab then (W7 u.2).bind λp=>(eC p.2 u.1).bind λa=>(eC p.2 p.1).bind λb=>(U a b).bind λk=>(nV k).map λd=>(.im<|.aJ d,p.2) else Z (.im<|.aJ az,u.2)
def NS{D:cj}(c:lB (m7 z U WV WO W7) y g D):
  DM (λb i g D=>∃Wz WE o,fq g Wz b/\fq g WE i/\z Wz WE=Z o/\cc g o D) (λb i g D=>∃Wz WE o,fq g Wz b/\fq g WE i/\U Wz WE=Z o/\cc g o D) (mP WV) (mP WO) (mP W7) y g D:=by
 let⟨w,L,p,@Wb,R,ae,e,u⟩:=c;let⟨@⟨Wd,VQ⟩,l,e⟩:=bq.mp e;let⟨@⟨Wu,Wi⟩,t,e⟩:=bq.mp e;let⟨@Wz,M,e⟩:=bq.mp e;let⟨@WE,N,e⟩:=bq.mp e;let⟨@o,O,e⟩:=bq.mp e;let⟨@s,P,j⟩:=bq.mp e;have hd:=sj P;subst hd;refine⟨w,L,Wd,VQ,R,ae,l,λb VT V9 Q S cO A=>⟨VQ,V9,Wu,Wi,S,(c4.mp A.ae).1,t,λi V8 Wg b0 m G q=>?_⟩⟩;have T:iu V8 y Wd b Q:=cO.mono q.tup λh av n a=>q.keep h n a λc=>(c4.mp A.ae).2.2 h c h av rfl;refine⟨Wz,WE,_,T.read m M,G.read m N,O,λr H al f am co cr=>?_⟩;let@⟨rfl,rfl⟩:=(show r=.aJ s/\al=[] from am);refine⟨s,rfl,?_⟩;have I:=A.trans q cO.chg;rw[bV]at I;have v:=I.new f ht (λh av=>nomatch av) m.chg;have J:bp H Wi y Wg:=m.mono f.tupS λh Y n a=>f h n a;cases s with
 |false=>
  rw[if_neg dw]at j ⊢;cases j;exact u _ H Wg [] J ⟨rfl,rfl⟩ v
 |true=>
  rw[aH rfl]at j ⊢;let⟨@⟨B,WS⟩,an,Wo⟩:=bq.mp j;let⟨@ap,as,Wq⟩:=bq.mp Wo;let⟨@a1,a2,bd⟩:=bq.mp Wq;let⟨@k,be,bi⟩:=bq.mp bd;let⟨@d,bm,bn⟩:=ck.mp bi;cases bn;have aR:=sj bm;subst aR;rw[b4]at v;refine⟨Wi,Wg,B,WS,J,v.ae,an,λC bs bv cs x ca E=>?_⟩;have cd:=c4.mp q.ae;have ce:iu bs y Wu i b0:=(G.mono f.tupS λh Y n a=>f h n a).mono E.tup λh av n a=>E.keep h n a λc=>cd.2.2 h c h av rfl;refine⟨ap,a1,_,ce.read x as,ca.read x a2,be,λr ch ci F cl db ds=>?_⟩;let@⟨rfl,rfl⟩:=(show r=.aJ d/\ci=[] from cl);exact u _ ch bv [] (x.mono F.tupS λh Y n a=>F h n a) ⟨rfl,rfl⟩ ((v.seq E).new F ht (λh av=>nomatch av) x.chg)
def Ce{Wx a:kN}{h d f:a7}{V3:cw}(c:fx e (eL Wx) z)(i:fx e (eL a) U)(av:dO e h WV)(ag:dO e d WO)(j:dO e f W7)(k:lastMarks [Wx,a] [d,f]=az:=by with_unfolding_all rfl):hP e (.Compare h [Wx,a] [d,f] V3) (bO<|m7 z U WV WO W7):=by
 refine qW (P6 c i av ag j k) λy g D n=>?_;let⟨w,L,s,@Wb,R,ae,o,u⟩:=n;refine NS ⟨w,L,.im<|.aJ s,Wb,R,ae,?_,λr F Ww VO p b m=>⟨s,b.1,u F Ww p (by rw[b.2,b4]at m;exact m)⟩⟩;let⟨@q,l,t⟩:=bq.mp o;let⟨@A,v,x⟩:=ck.mp t;cases x;rw[l,<-sj v]
end
mutual
def a9:aa->aa->Bool
 |.int j,.int A=>decide (j<A)
 |.str b,.str i=>decide (b.cps.toList<i.cps.toList)
 |.tup h,.tup d=>f7 h d
 |_,_=>az
def f7:List aa->List aa->Bool
 |[],[]=>az
 |[],_::_=>ab
 |_::_,[]=>az
 |h::p,d::H=>if aa.beq h d=ab then f7 p H else a9 h d
end
mutual
def ej:Nat->aa->aa->Bool
 |_,.int _,.int _=>ab
 |_,.str _,.str _=>ab
 |v+1,.tup h,.tup d=>ft v h d
 |_,_,_=>az
def ft:Nat->List aa->List aa->Bool
 |_,[],[]=>ab
 |v,h::p,d::H=>ej v h d&&ft v p H
 |v,[],d::H=>aa.cx v (d::H)
 |v,h::p,[]=>aa.cx v (h::p)
end
mutual
theorem p2:∀{v:Nat}{h d:aa},ej v h d=ab->aa.bQ v h=ab/\aa.bQ v d=ab/\b8 h d=aa.beq h d
 |v,.int j,.int A,_=>by
  refine⟨by cases v<;>rfl,by cases v<;>rfl,?_⟩;rw[b8,aa.beq];by_cases c:j=A<;>simp[c]
 |v,.str b,.str i,_=>by
  refine⟨by cases v<;>rfl,by cases v<;>rfl,?_⟩;rw[b8,aa.beq];by_cases c:b=i<;>simp[c]
 |v+1,.tup h,.tup d,c=>by
  rw[ej]at c;let@⟨l,t,a⟩:=JK c;exact⟨l,t,by rw[b8,aa.beq];exact a⟩
theorem JK:∀{v:Nat}{h d:List aa},ft v h d=ab->aa.cx v h=ab/\aa.cx v d=ab/\eD h d=aa.lp h d
 |v,[],[],_=>⟨by cases v<;>rfl,by cases v<;>rfl,rfl⟩
 |v,[],d::H,c=>⟨by cases v<;>rfl,c,rfl⟩
 |v,h::p,[],c=>⟨c,by cases v<;>rfl,rfl⟩
 |v,h::p,d::H,c=>by
  rw[ft,cI]at c;let@⟨l,t,a⟩:=p2 c.1;let@⟨b,e,f⟩:=JK c.2;exact⟨by rw[aa.cx,l,b];rfl,by rw[aa.cx,t,e];rfl,by rw[eD,aa.lp,a,f]⟩
end
def n0{h d:aa}(c:¬ h=d):aa.beq h d=az:=by
 cases a:aa.beq h d with
 |false=>rfl
 |true=>exact absurd ((aa.beq_iff h d).mp a) c
mutual
theorem uH:∀h:aa,a9 h h=az
 |.int j=>by simp[a9]
 |.tup h=>by rw[a9];exact H4 h
 |.aP=>rfl
 |.aJ _=>rfl
 |.str b=>by rw[a9];exact decide_eq_false (List.lt_irrefl _)
 |.fn _=>rfl
 |.aX _=>rfl
 |.fd _=>rfl
theorem H4:∀h:List aa,f7 h h=az
 |[]=>rfl
 |h::p=>by rw[f7,aH<|(aa.beq_iff h h).mpr rfl];exact H4 p
end
mutual
theorem p0:∀{v:Nat}{h d:aa},ej v h d=ab->h≠d->a9 h d=!(a9 d h)
 |v,.int j,.int A,_,c=>by
  have:j≠A:=λa=>c (by rw[a]);rw[a9,a9];rcases Int.lt_or_gt_of_ne this with N|N
  ·simp[N];lia
  ·simp[N];lia
 |v,.str b,.str i,_,c=>by
  have ne:b.cps.toList≠i.cps.toList:=λa=>c (by
   let⟨b⟩:=b;let⟨i⟩:=i;exact congrArg (λk=>aa.str ⟨k⟩) (Array.toList_inj.mp a))
  rw[a9,a9];by_cases N:b.cps.toList<i.cps.toList
  ·rw[bW N,decide_eq_false<|List.lt_asymm N];rfl
  ·rw[decide_eq_false N];by_cases e:i.cps.toList<b.cps.toList
   ·rw[bW e];rfl
   ·exact absurd (List.le_antisymm (Gl.mp e)<|Gl.mp N) ne
 |v+1,.tup h,.tup d,c,a=>by
  rw[ej]at c;rw[a9,a9];exact JR c λk=>a (by rw[k])
theorem JR:∀{v:Nat}{h d:List aa},ft v h d=ab->h≠d->f7 h d=!(f7 d h)
 |v,[],[],_,c=>absurd rfl c
 |v,[],d::H,_,_=>rfl
 |v,h::p,[],_,_=>rfl
 |v,h::p,d::H,c,a=>by
  rw[ft,cI]at c;rw[f7,f7];by_cases k:h=d
  ·subst k;rw[aH ((aa.beq_iff h h).mpr rfl),aH<|(aa.beq_iff h h).mpr rfl];exact JR c.2 λC=>a (by rw[C])
  ·rw[n0 k,n0<|λC=>k C.symm,if_neg dw,if_neg dw];exact p0 c.1 k
end
mutual
theorem pK:∀{v:Nat}{h d f:aa},ej v h d=ab->ej v d f=ab->a9 h d=ab->a9 d f=ab->a9 h f=ab
 |v,.int j,.int A,.int s,_,_,l,t=>by
  rw[a9]at l t ⊢;have:=e_ l;have:=e_ t;exact bW (by omega)
 |v,.str b,.str i,.str k,_,_,l,t=>by
  rw[a9]at l t ⊢;exact bW (List.lt_trans (e_ l)<|e_ t)
 |v+1,.tup h,.tup d,.tup f,a,c,l,t=>by
  rw[ej]at a c;rw[a9]at l t ⊢;exact IU a c l t
theorem IU:∀{v:Nat}{h d f:List aa},ft v h d=ab->ft v d f=ab->f7 h d=ab->f7 d f=ab->f7 h f=ab
 |v,[],_,_::_,_,_,_,_=>rfl
 |v,[],[],[],_,_,c,_=>c
 |v,_::_,[],_,_,_,c,_=>by cases c
 |v,_,_::_,[],_,_,_,c=>by cases c
 |v,h::p,d::H,f::I,e,b,l,t=>by
  rw[ft,cI]at e b;rw[f7]at l t ⊢;by_cases g:h=d
  ·subst g;rw[aH ((aa.beq_iff h h).mpr rfl)]at l;by_cases a:h=f
   ·subst a;rw[aH ((aa.beq_iff h h).mpr rfl)]at t ⊢;exact IU e.2 b.2 l t
   ·rw[n0 a,if_neg dw]at t ⊢;exact t
  ·rw[n0 g,if_neg dw]at l;by_cases a:d=f
   ·subst a;rw[n0 g,if_neg dw];exact l
   ·rw[n0 a,if_neg dw]at t;have i:=pK e.1 b.1 l t;have j:¬ h=f:=λC=>by
     subst C;have:=p0 b.1 a;rw[l,t]at this;cases this
    rw[n0 j,if_neg dw];exact i
end
def qg(O:bz)(m:aw)(i b:ah)(s:Bool):Prop:=(∀(VX:bu) (C:bf) (VP:ah->aw->Prop) (D:ah->aw->Prop),D (.bool s) m->wpAny (aT VX C) O (k1 .Lt i b) D VP m)
def hZ(z:Bool):List (Bool×Bool)->Bool
 |[]=>z
 | (a,s)::p=>if a=ab then hZ z p else s
section
open PySem.SeqAt
open PySem.AutoSeq1 (wpAny_loadPart')
open PySem.MeetsSeq PySem.MeetsSeq2 PySem.MeetsSeq3
def PY(J d:au)(S e:Array ah)(v x:Nat)(y z:Option au)(aS B:Array (Option ah))(VV:List (Bool×Bool))(L:VV.length=min S.size e.size):
  sf (bo.«tuple.__lt__» ⟨[.ref J,.ref d],[]⟩)
   (λO VO m=>m.heap.get? J=Z {cls:=.type "tuple",dict:=y,data:=.seq S v,slots:=aS}/\m.heap.get? d=Z {cls:=.type "tuple",dict:=z,data:=.seq e x,slots:=B}/\
    (∀A (l:A<S.size) (t:A<e.size) (k:A<VV.length),EqAt O.in1 m S[A] e[A] (VV[A]).1/\((VV[A]).1=az->qg O.in1 m S[A] e[A] (VV[A]).2))/\
    VO (.ok<|.ret<|.bool<|hZ (decide (S.size<e.size)) VV) m):=
 .of_wp λVX C O VO m c=>by
  let⟨g,N,o,Wy,V6⟩:=m;let@⟨D,ag,E,c⟩:=c;have M:=Fh;have p:(S.toList.zip e.toList).length=min S.size e.size:=by simp
  wp_walk using wpAny_loadPart' D,wpAny_loadPart' ag,qb _ (λd7 d VY=>d.1=X/\VY=⟨g,N,o,Wy,V6⟩/\∃j,d7=(S.toList.zip e.toList).drop j/\
   VO (.ok<|.ret<|.bool<|hZ (decide (S.size<e.size))<|VV.drop j) ⟨g,N,o,Wy,V6⟩) _
  case turn=>
   rintro⟨i,b⟩ d7 d VY ⟨n,rfl,j,aR,f⟩;have q:j<(S.toList.zip e.toList).length:=by
    rcases mg j (S.toList.zip e.toList).length with ar|ar
    ·exact ar
    ·rw[n9 ar]at aR;cases aR
   have P:j<min S.size e.size:=p ▸ q;have l:j<S.size:=⋯
   have t:j<e.size:=⋯
   have k:j<VV.length:=⋯
   rw[j6 q]at aR;injection aR with r F;have G:i=S[j]:=by have:=congrArg Prod.fst r;simpa using this
   have H:b=e[j]:=by have:=congrArg Prod.snd r;simpa using this
   subst G H;rw[j6 k]at f;let@⟨u,w⟩:=E j l t k;generalize VV[j]=pr at f u w;let⟨a,s⟩:=pr;refine aC (u VX C _ _ ?_);cases a with
   |true=>
    have h:VO (.ok<|.ret<|.bool<|hZ (decide (S.size<e.size))<|VV.drop<|j+1) ⟨g,N,o,Wy,V6⟩:=f
    wp_walk
    exact⟨rfl,rfl,j+1,F,h⟩
   |false=>
    have h:VO (.ok<|.ret<|.bool s) ⟨g,N,o,Wy,V6⟩:=f;have I:=w rfl VX C
    wp_walk using I
    exact⟨_,rfl,by simpa using h⟩
  case fin=>
   rintro⟨dJ,dr⟩ VY ⟨n,rfl,j,aR,f⟩;simp only at n;subst n;have Q:min S.size e.size<=j:=by
    rcases mg j (S.toList.zip e.toList).length with ar|ar
    ·rw[j6 ar]at aR;cases aR
    ·exact p ▸ ar
   rw[n9 ⋯]at f;have h:VO (.ok<|.ret<|.bool<|decide (S.size<e.size)) ⟨g,N,o,Wy,V6⟩:=f
   wp_walk
   exact⟨_,rfl,by simpa [bo.Tuple.tupleCompareSizes] using h⟩
  case h=>
   exact⟨rfl,rfl,0,rfl,by simpa using c⟩
end
def kA(E Q:List aa):List (Bool×Bool):=((E.zip Q).map λq=>(b8 q.1 q.2,a9 q.1 q.2))
theorem BA:∀{v:Nat}{E Q:List aa},ft v E Q=ab->hZ (decide (E.length<Q.length)) (kA E Q)=f7 E Q
 |_,[],[],_=>rfl
 |v,h::p,d::H,c=>by
  rw[ft,cI]at c;show (if b8 h d=ab then hZ (decide (p.length+1<H.length+1)) (kA p H) else a9 h d)=f7 (h::p) (d::H);rw[f7,(p2 c.1).2.2,<-BA c.2,ix.mpr yE]
 |_,[],_::_,_=>rfl
 |_,_::_,[],_=>rfl
theorem yQ{v:Nat}:∀{E Q:List aa}{A:Nat}{h d:aa},ft v E Q=ab->E[A]?=Z h->Q[A]?=Z d->ej v h d=ab
 |[],Q,A,h,d,_,c,_=>by simp at c
 |o::E,[],A,h,d,_,_,c=>by simp at c
 |o::E,a::Q,0,h,d,c,l,t=>by
  rw[ft,cI]at c;cases l;cases t;exact c.1
 |o::E,a::Q,A+1,h,d,c,l,t=>by
  rw[ft,cI]at c;exact yQ (A:=A) c.2 ⇑l ⇑t
def PZ{j A:Int}(a:dz m.heap (.int j) I)(b:dz m.heap (.int A) r):qg O m I r (a9 (.int j)<|.int A):=by
 let⟨@H,rfl⟩:=a;let⟨@Wr,rfl⟩:=b;intro VX C VP D u;rw[a9]at u;exact c5.Te O m j H A Wr VX C VP D u
def OE{b i:aF}(a:dz m.heap (.str b) I)(c:dz m.heap (.str i) r):qg O m I r (a9 (.str b)<|.str i):=by
 let⟨H,rfl⟩:=a;let⟨Wr,rfl⟩:=c;intro VX C VP D u;rw[a9]at u;exact (PySem.P.lt_str u:wpAny (aT VX C) O (eL .Lt (.str b H)<|.str i Wr) D VP m)
def Av(b i:aa):Prop:=((∃j A,b=.int j/\i=.int A)\/∃h d,b=.str h/\i=.str d)
def C7{i:aa}(J:Av b i)(a:dz m.heap b I)(c:dz m.heap i r):qg O m I r (a9 b i):=by
 rcases J with ⟨j,A,rfl,rfl⟩|⟨h,d,rfl,rfl⟩
 ·exact PZ a c
 ·exact OE a c
def oh:∀{v:Nat}{b i:aa},ej v b i=ab->Av b i\/∃M h d,v=M+1/\b=.tup h/\i=.tup d/\ft M h d=ab:=by
 intro v b i c;unfold ej at c;split at c
 ·exact .inl (.inl ⟨_,_,rfl,rfl⟩)
 ·exact .inl (.inr ⟨_,_,rfl,rfl⟩)
 ·exact .inr ⟨_,_,_,rfl,rfl,rfl,c⟩
 ·cases c
def tl(v:Nat):∀{O:bz}{b i:aa}{I r:ah},ej v b i=ab->O.units+v+2<bN->dz m.heap b I->dz m.heap i r->qg O m I r (a9 b i):=by
 induction v with
 |zero=>
  intro O b i I r c N e f;rcases oh c with J|⟨M,_,_,a,_⟩
  ·exact C7 J e f
  ·cases a
 |succ v P=>
  intro O b i I r c N e f;rcases oh c with J|⟨M,E,Q,a,rfl,rfl,c⟩
  ·exact C7 J e f
  cases a;let⟨h,n,VZ,@M,rfl,l,t,g,j⟩:=e;let⟨d,WN,R,@S,rfl,o,p,q,s⟩:=f;let⟨cls,T,data,aS⟩:=n;let⟨a1,U,a2,al⟩:=WN;simp only at t g p q;subst t g p q;have w:E.length=VZ.size:=by rw[j.length,ha]
  have x:Q.length=R.size:=by rw[s.length,ha]
  intro VX C VP D u;rw[a9,<-BA c,w,x]at u;have cv:(kA E Q).length=min VZ.size R.size:=by rw[kA,br,tY,w,x]
  refine FE (op:=.Lt) ⟨_,l,rfl⟩ ⟨_,o,rfl⟩ PySem.F.slot_tuple_lt PySem.F.entry_tuple_lt (PySem.F.args_tuple_lt_2 _ _) (PY h d VZ R M S T U aS al (kA E Q) cv)
   ⟨l,o,λA am an ap=>?_,show ah.bool (hZ (decide (VZ.size<R.size))<|kA E Q)≠ah.notImplemented/\D (.bool<|hZ (decide (VZ.size<R.size))<|kA E Q) m from ⟨(λb=>nomatch b),u⟩⟩ ⋯;let⟨@Wz,y,z⟩:=j.get (A:=A) (r:=VZ[A]) (by rw[hX];simp[am]);let⟨@WE,B,G⟩:=s.get (A:=A) (r:=R[A]) (by rw[hX];simp[an]);have lk:=yQ c y B;have H:=p2 lk;have as:(kA E Q)[A]=(b8 Wz WE,a9 Wz WE):=by
   have:(kA E Q)[A]?=Z (b8 Wz WE,a9 Wz WE):=by
    rw[kA,gC,(FQ (z:=(Wz,WE))).mpr ⟨y,B⟩];rfl
   rw[fj ap]at this;exact Option.some.inj this
  rw[as];exact⟨h2 v H.1 H.2.1 (by show O.units+1+v+1<bN;lia) z G,λ_=>P lk (by show O.units+1+v+2<bN;lia) z G⟩
end L2
namespace L2
open Spec PyProof.Rows PySem.W
variable{o:aa}{VZ:List ah}{E:List aa}
theorem An{V7:Type}{q u:V7->Bool}:∀{J:List V7},(∀b∈J,q b=ab->u b=ab)->(∃b∈J,u b=ab/\q b=az)->J.countP q<J.countP u
 |[],_,c=>by let⟨@b,a,Y⟩:=c;cases a
 |h::J,c,⟨b,a,l,t⟩=>by
  rw[iN,iN];have le:J.countP q<=J.countP u:=List.countP_mono_left λi d=>c i (.tail _ d);rcases bR.mp a with rfl|a
  ·rw[l,t];simp;omega
  ·have:=An (λi d=>c i<|.tail _ d) ⟨b,a,l,t⟩;have av:=c h (.head _);cases e:q h<;>cases f:u h<;>rw[e,f]at av<;>simp at av ⊢<;>omega
structure nd(E:List aa):Prop where
 gd:E.length<=63
 jf:∀h∈E,∀d∈E,ej 6 h d=ab
structure rY(E:List aa):Prop where
 gd:E.length<=63
 jf:∀h∈E,∀d∈E,ej 6 h d=ab
 ae:E.Nodup
def rY.w{E:List aa}(n:rY E):nd E:=⟨n.gd,n.jf⟩
def pv(E:List aa)(b:aa):Nat:=(E.countP λo=>a9 o b)
def CG(n:nd E){b i:aa}(d:b∈E)(e:i∈E)(c:a9 b i=ab):pv E b<pv E i:=
 An (λk aR a=>pK (n.jf k aR b d) (n.jf b d i e) a c) ⟨b,d,c,uH b⟩
def El(n:nd E){b i:aa}(d:b∈E)(e:i∈E):decide ((pv E b:Int)<(pv E i:Int))=a9 b i:=by
 cases a:a9 b i with
 |true=>exact bW (by have:=CG n d e a;lia)
 |false=>
  refine decide_eq_false λk=>?_;by_cases c:b=i
  ·subst c;lia
  ·have H:=p0 (n.jf b d i e) c;rw[a]at H;have Wr:a9 i b=ab:=by cases u:a9 i b<;>rw[u]at H<;>simp at H ⊢
   have:=CG n e d Wr;lia
def oQ(E:List aa)(j:Nat):Int:=(pv E (E.getD j .aP))
def mY{j:Nat}(c:j<E.length):E.getD j .aP∈E:=by
 rw[de,fj c];exact rM c
def Ir(n:nd E){q:Array Nat}(b:dZ E.length q)(i:mv (oQ E) q E.length):(q.toList.map λj=>E.getD j .aP).Pairwise (λh d=>a9 d h=az):=by
 rw[vB];intro j A VW c m;have e:=b.size;have k:j<E.length:=by simpa [e] using VW
 have f:A<E.length:=by simpa [e] using c
 have le:=i j A ⋯ f;have N:∀s (g:s<(q.toList.map λj=>E.getD j .aP).length),(q.toList.map λj=>E.getD j .aP)[s]=E.getD (q.getD s 0) .aP:=λs g=>by
  have l:s<q.size:=by simpa using g
  rw[FI,I1];simp[Array.getD,l]
 rw[N j VW,N A c];rw[<-El n (mY<|b.lt f) (mY<|b.lt k)];refine decide_eq_false ?_;have a:∀s,(pv E (E.getD (q.getD s 0) .aP):Int)=bt (oQ E) q s:=λ_=>rfl;rw[a j,a A];lia
theorem vk(b:aa):∀J:List aa,(kI a9 b J).Perm (b::J)
 |[]=>List.Perm.refl _
 |i::p=>by
  rw[kI];split
  ·exact List.Perm.refl _
  ·exact (List.Perm.cons i<|vk b p).trans (List.Perm.swap b i p)
theorem i1:∀J:List aa,(gO a9 J).Perm J
 |[]=>List.Perm.refl _
 |b::p=>(vk b _).trans (List.Perm.cons b<|i1 p)
theorem HG{b:aa}:∀{J:List aa},J.Pairwise (λh d=>a9 h d=ab)->(∀i∈J,b≠i)->(∀h∈b::J,∀d∈b::J,ej 6 h d=ab)->(kI a9 b J).Pairwise (λh d=>a9 h d=ab)
 |[],_,_,_=>e4 _ _
 |i::p,c,v,lk=>by
  have ar:=h1.mp c;rw[kI];split
  ·rename_i a;refine h1.mpr ⟨λk aR=>?_,c⟩;rcases bR.mp aR with rfl|aR
   ·exact a
   ·exact pK (lk b (.head _) i<|.tail _<|.head _) (lk i (.tail _<|.head _) k<|.tail _<|.tail _ aR) a (ar.1 k aR)
  ·rename_i a;refine h1.mpr ⟨λk aR=>?_,HG ar.2 (λk aR=>v k<|.tail _ aR) λh av d ag=>lk h ?_ d ?_⟩
   ·rcases bR.mp ((vk b p).mem_iff.mp aR) with rfl|aR
    ·have H:=p0 (lk k (.head _) i<|.tail _<|.head _) (v i<|.head _);cases u:a9 i k with
     |true=>rfl
     |false=>rw[u]at H;exact absurd H a
    ·exact ar.1 k aR
   ·rcases bR.mp av with rfl|av
    ·exact .head _
    ·exact .tail _ (.tail _ av)
   ·rcases bR.mp ag with rfl|ag
    ·exact .head _
    ·exact .tail _ (.tail _ ag)
theorem AL:∀{J:List aa},J.Nodup->(∀h∈J,∀d∈J,ej 6 h d=ab)->(gO a9 J).Pairwise (λh d=>a9 h d=ab)
 |[],_,_=>.nil
 |b::p,ae,lk=>by
  have c:=dD.mp ae;refine HG (AL c.2 λh av d ag=>lk h (.tail _ av) d<|.tail _ ag) (λi e a=>c.1 (by rw[a];exact (i1 p).mem_iff.mp e)) λh av d ag=>lk h ?_ d ?_
  ·rcases bR.mp av with rfl|av
   ·exact .head _
   ·exact .tail _ ((i1 p).mem_iff.mp av)
  ·rcases bR.mp ag with rfl|ag
   ·exact .head _
   ·exact .tail _ ((i1 p).mem_iff.mp ag)
theorem Io{b:aa}:∀{J:List aa},J.Pairwise (λh d=>a9 d h=az)->(∀h∈b::J,∀d∈b::J,ej 6 h d=ab)->(kI a9 b J).Pairwise (λh d=>a9 d h=az)
 |[],_,_=>e4 _ _
 |i::p,c,lk=>by
  have ar:=h1.mp c;unfold kI;split
  ·rename_i a;refine h1.mpr ⟨λk aR=>?_,c⟩;cases u:a9 k b with
   |false=>rfl
   |true=>
    have H:=pK (lk k (.tail _ aR) b<|.head _) (lk b (.head _) i<|.tail _<|.head _) u a;rcases bR.mp aR with rfl|aR
    ·rw[uH]at H;cases H
    ·rw[ar.1 k aR]at H;cases H
  ·rename_i a;refine h1.mpr ⟨λk aR=>?_,Io ar.2 λh av d ag=>lk h ?_ d ?_⟩
   ·rcases bR.mp ((vk b p).mem_iff.mp aR) with rfl|aR
    ·cases u:a9 k i with
     |false=>rfl
     |true=>exact absurd u a
    ·exact ar.1 k aR
   ·rcases bR.mp av with rfl|av
    ·exact .head _
    ·exact .tail _ (.tail _ av)
   ·rcases bR.mp ag with rfl|ag
    ·exact .head _
    ·exact .tail _ (.tail _ ag)
theorem t9:∀{J:List aa},(∀h∈J,∀d∈J,ej 6 h d=ab)->(gO a9 J).Pairwise (λh d=>a9 d h=az)
 |[],_=>.nil
 |b::p,lk=>by
  refine Io (t9 λh av d ag=>lk h (.tail _ av) d<|.tail _ ag) λh av d ag=>lk h ?_ d ?_
  ·rcases bR.mp av with rfl|av
   ·exact .head _
   ·exact .tail _ ((i1 p).mem_iff.mp av)
  ·rcases bR.mp ag with rfl|ag
   ·exact .head _
   ·exact .tail _ ((i1 p).mem_iff.mp ag)
def xK{J:List aa}(n:nd E)(q:J.Perm E)(c:J.Pairwise (λh d=>a9 d h=az)):J=gO a9 E:=by
 refine Mv (λh d av ag b i=>?_) c (t9 n.jf) (q.trans (i1 E).symm);by_cases a:h=d
 ·exact a
 ·have H:=p0 (n.jf h (q.mem_iff.mp av) d<|(i1 E).mem_iff.mp ag) a;rw[b,i]at H;cases H
def jJ:aa->Bool
 |.tup (.int _::_)=>ab
 |.tup (.str _::_)=>ab
 |_=>az
def qX:aa->Bool
 |.tup (.int _::_)=>ab
 |_=>az
def qe:aa->Bool
 |.tup (.str _::_)=>ab
 |_=>az
def ov:aa->Bool
 |.tup (.tup _::_)=>ab
 |_=>az
section
variable{VX:bu}{C:bf}{O:bz}{VP:ah->aw->Prop}{m:aw}
theorem Gn{d z:Bool}(v:Nat)(q:O.units+v+2<bN){D:Bool->aw->Prop}:∀{E Q:List aa}{P WG:List ah}{j:Nat},ft v E Q=ab->z=decide (E.length<Q.length)->dU m.heap E P->dU m.heap Q WG->(d=ab->j=0->∃s p,E=s::p/\∀h,s≠.tup h)->D (f7 E Q) m->KatLex VX C O d z D (P.zip WG) j m
 |[],Q,P,WG,j,_,e,l,t,_,u=>by
  rw[show P=[] from l,e];exact kat_nil (by cases Q<;>exact u)
 |o::E,[],P,WG,j,_,e,l,t,_,u=>by
  rw[show WG=[] from t,e,List.zip_nil_right];exact kat_nil u
 |o::E,a::Q,P,WG,j,c,x,l,t,ag,u=>by
  rw[ft,cI]at c;let⟨r,@P,rfl,g,y⟩:=l;let⟨I,@WG,rfl,dJ,dr⟩:=t;rw[List.zip_cons_cons];let@⟨B,WU,F⟩:=p2 c.1;refine kat_cons (h2 v B WU ⋯ g dJ VX C _ _ ?_);rw[F];rw[f7]at u;cases w:aa.beq o a with
  |true=>
   rw[w,aH rfl]at u;exact kat_yes (Gn v q c.2 (x.trans<|ix.mpr yE) y dr (λ_ k=>⋯) u)
  |false=>
   rw[w,if_neg dw]at u;refine kat_no ?_;by_cases e:(d&&j==0)=ab
   ·rw[e];rw[cI]at e;let⟨s,@p,k,G⟩:=ag e.1 ⇑(e.2);cases k;rcases oh c.1 with J|⟨_,_,_,_,f,_⟩
    ·rcases J with ⟨L,A,f,n⟩|⟨b,i,f,n⟩
     ·cases f;cases n;let⟨@H,rfl⟩:=g;let⟨@Wr,rfl⟩:=dJ;rw[a9]at u;exact oneLt_int u
     ·cases f;cases n;let⟨@H,rfl⟩:=g;let⟨@Wr,rfl⟩:=dJ;rw[a9]at u;exact oneLt_str u
    ·exact absurd f (G _)
   ·rw[show (d&&j==0)=az by simpa using e];exact kat_one _ _ (tl v c.1 q g dJ VX C _ _ u)
def Dg{d:Bool}(n:nd E)(f:dU m.heap E VZ)(l:∀o∈E,∃p,o=.tup p)(ag:d=ab->∀o∈E,jJ o=ab)(P:O.units+9<bN):
  j2 VZ.length (oQ E) (iA VX C O (qE d)<|VZ.toArray.zip VZ.toArray) m:=by
 intro j A aN VW w u;have Q:=f.length;have a:=mY (E:=E) (j:=j) ⋯;have e:=mY (E:=E) (j:=A) ⋯;unfold oQ at u;rw[El n a e]at u;let⟨@Wz,q,y⟩:=f.get (A:=j) (r:=VZ[j]) ↥0;let⟨@WE,s,z⟩:=f.get (A:=A) (r:=VZ[A]) ↥0;rw[de,q,de,s]at u;rw[de,q]at a;rw[de,s]at e;let⟨@h,B⟩:=l Wz a;let⟨@g,D⟩:=l WE e;subst B D;have lk:ft 5 h g=ab:=n.jf _ a _ e;unfold iA;rw[sW rfl,sW rfl,de,de,fj VW,fj w];show wpAny _ _ (keyLt' (qE d) VZ[j] VZ[A]) _ _ _;let⟨b,R,x,@S,F,G,T,H,t⟩:=y;let⟨i,U,V5,@al,I,Wo,Wq,J,v⟩:=z;rw[F,I];refine kat_lt (b:=d) G H Wo J ?_;have L:h.length=x.size:=by rw[t.length,ha]
 have M:g.length=V5.size:=by rw[v.length,ha]
 refine Gn 5 ⋯ lk (by rw[L,M]) t v (λN Y=>?_) (by have dK:aN (a9 (.tup h)<|.tup g) m:=u;rw[a9]at dK;exact dK);have:=ag N _ a;unfold jJ at this;split at this
 ·rename_i c;cases c;exact⟨_,_,rfl,λh k=>nomatch k⟩
 ·rename_i c;cases c;exact⟨_,_,rfl,λh k=>nomatch k⟩
 ·cases this
theorem B7:∀{E:List aa}{VZ:List ah},dU m.heap E VZ->(∀o∈E,∃z p,o=.tup (z::p))->∃Y,KatTups m.heap VZ Y/\Y.length=VZ.length/\
  ((∀o∈E,qX o=ab)->∀r∈Y,∃j H,r=ah.int j H)/\((∀o∈E,qe o=ab)->∀r∈Y,∃j H,r=ah.str j H)/\((∀o∈E,ov o=ab)->∀r∈Y,∃h WA,r=ah.ref h/\m.heap.get? h=Z WA/\WA.cls=.type "tuple")
 |[],VZ,c,_=>by
  rw[show VZ=[] from c];exact⟨[],trivial,rfl,(λ_ W c=>nomatch c),(λ_ W c=>nomatch c),(λ_ W c=>nomatch c)⟩
 |o::E,VZ,c,g=>by
  let⟨r,@p,rfl,l,t⟩:=c;let⟨@Y,q,s,w,x,y⟩:=B7 t λb e=>g b (.tail _ e);let⟨z,@WK,rfl⟩:=g o (.head _);let⟨h,n,S,@v,rfl,A,B,C,D⟩:=l;let⟨i,@L,a,f,M⟩:=D;have F:S[0]?=Z i:=by
   rw[<-hX,a];rfl
  refine⟨i::Y,KatTups.cons A B C F q,by simp[s],λk I d=>?_,λk I d=>?_,λk I d=>?_⟩
  ·rcases bR.mp d with rfl|d
   ·have:=k _ (.head _);unfold qX at this;split at this
    ·rename_i u;cases u;exact⟨_,f⟩
    ·cases this
   ·exact w (λb e=>k b<|.tail _ e) I d
  ·rcases bR.mp d with rfl|d
   ·have:=k _ (.head _);unfold qe at this;split at this
    ·rename_i u;cases u;exact⟨_,f⟩
    ·cases this
   ·exact x (λb e=>k b<|.tail _ e) I d
  ·rcases bR.mp d with rfl|d
   ·have:=k _ (.head _);unfold ov at this;split at this
    ·rename_i u;cases u;let⟨G,WN,W,@W,J,Wo,Wq,W⟩:=f;exact⟨G,WN,J,Wo,Wq⟩
    ·cases this
   ·exact y (λb e=>k b<|.tail _ e) I d
def p1(c:jJ o=ab):(qX o=ab\/qe o=ab)/\∃z p,o=.tup (z::p):=by
 unfold jJ at c;split at c
 ·exact⟨.inl rfl,_,_,rfl⟩
 ·exact⟨.inr rfl,_,_,rfl⟩
 ·cases c
def Cf(c:ov o=ab):∃z p,o=.tup (z::p):=by
 unfold ov at c;split at c
 ·exact⟨_,_,rfl⟩
 ·cases c
def OD{v:Nat}(g:∀b∈E,∀i∈E,ej v b i=ab)(c:∀o∈E,jJ o=ab):(∀o∈E,qX o=ab)\/∀o∈E,qe o=ab:=by
 cases E with
 |nil=>exact .inl λo hd=>nomatch hd
 |cons b E=>
  have V_:∀i∈b::E,∀{u:aa->Bool},(u=qX\/u=qe)->u b=ab->u i=ab:=λi e {u} j a=>by
   have J:=g b (.head _) i e;have l:=(p1<|c i e).1;have h:=p1 (c b<|.head _);let⟨z,p,rfl⟩:=h.2;let⟨N,H,rfl⟩:=(p1<|c i e).2;cases v with
   |zero=>cases J
   |succ v=>
    rw[ej,ft,cI]at J;rcases j with rfl|rfl
    ·rcases oh J.1 with J|⟨_,_,_,_,d,_⟩
     ·rcases J with ⟨_,_,_,f⟩|⟨_,_,d,_⟩
      ·rw[f];rfl
      ·rw[d]at a;cases a
     ·rw[d]at a;cases a
    ·rcases oh J.1 with J|⟨_,_,_,_,d,_⟩
     ·rcases J with ⟨_,_,d,_⟩|⟨_,_,_,f⟩
      ·rw[d]at a;cases a
      ·rw[f];rfl
     ·rw[d]at a;cases a
  rcases (p1<|c b<|.head _).1 with k|k
  ·exact .inl λo hd=>V_ o hd (.inl rfl) k
  ·exact .inr λo hd=>V_ o hd (.inr rfl) k
end
section
variable{e:aM}
theorem bC.pick{g:aA}{V5:List af}(c:bC g E V5):∀{q:List Nat},(∀s∈q,s<E.length)->bC g (q.map λj=>E.getD j .aP) (q.map λj=>V5.getD j .aP)
 |[],_=>rfl
 |s::q,a=>by
  let⟨@r,b,d⟩:=c.get (j:=s) (o:=E.getD s .aP) (by
   have:=a s (.head _);rw[de,fj this];rfl)
  refine⟨r,_,?_,d,c.pick λA e=>a A<|.tail _ e⟩;rw[bH,de,b];rfl
structure o3(E:List aa):Prop where
 ord:rY E
 fst:(∀o∈E,jJ o=ab)\/(∀o∈E,ov o=ab)
structure pM(E:List aa):Prop where
 ord:nd E
 fst:(∀o∈E,jJ o=ab)\/(∀o∈E,ov o=ab)
def o3.w{E:List aa}(n:o3 E):pM E:=⟨n.ord.w,n.fst⟩
def pM.tup(n:pM E):∀o∈E,∃p,o=.tup p:=λo hd=>by
 rcases n.fst with k|k
 ·let⟨z,p,a⟩:=(p1<|k o hd).2;exact⟨_,a⟩
 ·let⟨z,p,a⟩:=Cf (k o hd);exact⟨_,a⟩
def dU.qa{c ar:a4}(s:∀d n,c.get? d=Z n->ar.get? d=Z n){E:List aa}{P:List ah}(b:dU c E P):dU ar E P:=b.keep λh n Y Y a Y Y=>s h n a
def BR{c:a4}{m:aw}(n:pM E)(t:2<=VZ.length)(f:dU m.heap E VZ)(O:bz)(VP:ah->aw->Prop)(D:gG->aw->Prop)(a:D (qE<|decide (∀o∈E,jJ o=ab)) m):
  wpAny (aT e.prog e.w) O (yx VZ.toArray) D VP m:=by
 let⟨@Y,d,u,g,i,l⟩:=B7 f (n.fst.elim (λk o hd=>(p1<|k o hd).2) λk o hd=>Cf<|k o hd);have v:=f.length;by_cases hf:∀o∈E,jJ o=ab
 ·rw[bW hf]at a;rcases OD n.ord.jf hf with hf|hf
  ·refine xx (T:=ah.type "int") d ⋯ (λr b=>?_) rfl ?_
   ·let⟨j,@H,rfl⟩:=g hf r b;exact wX rfl
   ·rw[show (ah.type "int" != ah.type "tuple")=ab by decide];exact a
  ·refine xx (T:=ah.type "str") d ⋯ (λr b=>?_) rfl ?_
   ·let⟨j,@H,rfl⟩:=i hf r b;exact wX rfl
   ·rw[show (ah.type "str" != ah.type "tuple")=ab by decide];exact a
 ·rw[decide_eq_false hf]at a;have p:=n.fst.resolve_left hf;refine xx (T:=ah.type "tuple") d ⋯ (λr b=>?_) rfl ?_
  ·let⟨h,@WA,rfl,q,s⟩:=l p r b;have:Looks (aT e.prog e.w) m.heap (mI<|.ref h) WA.cls:=(Looks.ld q).andThen .now;rw[s]at this;exact this
  ·rw[show (ah.type "tuple" != ah.type "tuple")=az by decide];exact a
def CT(z:e.calm=ab)(Q:e.A.units+20<bN):ez e (.builtin "sorted") (λx g D=>∃(h:au) (E:List aa) (V5:List af),x=[.ref h]/\(dv e.K g h V5\/cC e.K g h V5)/\bC g E V5/\pM E/\
  ∀J W5,g J=X->bC g (gO a9 E) W5->D (.ref J) (upd g J<|.lst W5)):=by
 intro G m y g x Wc D B p c;let⟨h,E,@V5,rfl,d,VW,n,u⟩:=c;let⟨@I,rfl,F⟩:=h3 p;cases F;have aR:V5.length<=1000:=by rw[<-VW.length];exact dN n.ord.gd ∅
 have go:∀{S:String}{VZ:List ah}{v:Nat}{WA:ba},(S = "list" \/ S = "tuple")->bZ V5 VZ->m.heap.get? h=Z WA->WA.cls=.type S->WA.data=.seq VZ.toArray v->wpAny (aT e.prog e.w) e.A (call (.builtin "sorted") [.ref h]) (eB e G y D) e.cJ m:=by
  intro S VZ v WA H b a aG f;have k:=VW.eA B.aV b;have L:VZ.length=E.length:=k.length.symm;refine JC z (oQ E) (qE<|decide (∀o∈E,jJ o=ab)) B b H a aG f aR (λt l Wy s O VP D M=>BR (c:=l) n t (k.qa s) O VP D M) (λl Wy s=>?_) (by have:=n.ord.gd;lia) λq J i r aX=>?_
  ·refine Dg (m:={m with heap:=l,toks:=Wy}) n.ord (k.qa s) n.tup (λag=>?_) (by show e.A.units+1+1+9<bN;lia);exact e_ ag
  ·rw[L]at i r;have N:(q.toList.map λj=>E.getD j .aP)=gO a9 E:=xK n.ord (wq i) (Ir n.ord i r);refine u J _ aX ?_;rw[<-N];exact VW.pick λs P=>j4.mp (i.mem_iff.mp P)
 rcases d with d|d
 ·let⟨@VZ,b,q,Y⟩:=B.list d;let⟨@WA,a,aG,⟨@v,f⟩⟩:=q.isList;exact go (.inl rfl) b a aG f
 ·let⟨@VZ,b,q,Y⟩:=B.tuple d;let⟨@WA,a,aG,⟨@v,f⟩⟩:=q;exact go (.inr rfl) b a aG f
theorem Iv{g:aA}:∀{VR:List (List aa×af)}{Q:List (List aa×au×ah)},dV (λ(q:List aa×af) (u:List aa×au×ah)=>q.1=u.1/\hs g q.1 u.2.1/\b1 q.2 u.2.2) VR Q->
  bC g (VR.map λq=>.tup q.1) (Q.map λb=>af.ref b.2.1)/\bZ (Q.map λb=>af.ref b.2.1) (Q.map λb=>ah.ref b.2.1)
 |_,_,.nil=>⟨rfl,.nil⟩
 |_,_,.cons p H=>by
  let@⟨l,t⟩:=Iv H;exact⟨⟨_,_,rfl,p.2.1.2,l⟩,.cons rfl t⟩
def Bo(bd:e.calm=ab)(cr:e.A.units+20<bN):ez e (.builtin "sorted") (λx g D=>∃(o:au) (VR:List (List aa×af)),x=[.ref o]/\gS g o (.aB VR)/\o3 (VR.map λq=>.tup q.1)/\
  ∀J W5,g J=X->bC g (gO a9<|VR.map λq=>.tup q.1) W5->D (.ref J) (upd g J<|.lst W5)):=by
 intro G m y g x Wc D B p c;let⟨o,@VR,rfl,hd,f,u⟩:=c;let⟨@I,rfl,be⟩:=h3 p;cases be;let@⟨k,VS,⟨@Q,rel,⟨n,bi,@WI,bm,bn,bs,bv,ae⟩⟩⟩:=(show ee e.prog e.w g m.heap o (.aB VR) from hd.ok B.aV);let@⟨VW,v⟩:=Iv rel;have U:hG m.heap o (Q.map λb=>ah.ref b.2.1) WI:=⟨n,bi,bm,bn,bs,by rw[bv,es];rfl⟩;generalize (Q.map λb=>ah.ref b.2.1)=VZ at v U;generalize (Q.map λb=>af.ref b.2.1)=V5 at VW v;generalize cs:(VR.map λq=>aa.tup q.1)=E at VW f u;have L:=VW.eA B.aV v;have al:VZ.length=E.length:=L.length.symm;have gd:=f.ord.gd;have db:V5.length=VZ.length:=v.length;have am:VZ.length<=sizeLine:=dN ⋯ (show 1000<=sizeLine by decide);refine Ao kind_sorted Bj BE (Hs _) ?k
 case k=>
  unfold bo.«sorted»;refine aC (m:=checkCount "sorted" 1 1 _) (a5<|aC<|kdu_collect (A:=e.A.in1) (Mf VS) (B.ok.hd bd) U am λar Wy N P an=>?_);have ca:N.toList=VZ:=by
   apply CW
   ·rw[ha];exact an.1
   ·intro j l t;have:=an.2 j N.toList[j] (by rw[<-hX];exact fj l);have this:VZ[j]?=Z N.toList[j]:=this;rw[fj t]at this;exact (Option.some.inj this).symm
  rw[ca];refine aC (xT ?_ am);have ap:(ar.push<|gE "list" VZ.toArray 0).get? ar.objs.size=Z (gE "list" VZ.toArray 0):=dx _ rfl;have bO:∀d n,m.heap.get? d=Z n->(ar.push<|gE "list" VZ.toArray 0).get? d=Z n:=λd n a=>cu _ (P d n a);have as:aI e G y g {m with heap:=ar,toks:=Wy}:=B.kept P;have a1:∀d n,m.heap.get? d=Z n->d≠ar.objs.size:=λd n a=>dE (b9<|P d n a);refine aC (fI<|jm Jd ⟨_,ap,rfl⟩ H_ ?i<|I6 _)
  case i=>
   refine Gj (m:={m with heap:=ar.push (gE "list" VZ.toArray 0),toks:=Wy}) (oQ E) (qE<|decide (∀o∈E,jJ o=ab)) ap
    (λt R S D cd=>BR (e:=e) (c:=R) f.w t (L.qa λd n z=>S d n (a1 d n z)<|bO d n z) _ _ D cd)
    (λR S=>Dg (m:={m with heap:=R,toks:=Wy}) f.w.ord (L.qa λd n z=>S d n (a1 d n z)<|bO d n z) f.w.tup (λag=>e_ ag) (by show e.A.units+1+1+9<bN;lia))
    ⋯ ⋯ λq t h a2 Wq ⟨ce,ch⟩=>⟨_,rfl,a5 ⟨_,rfl,?_⟩⟩;have ci:g ar.objs.size=X:=as.aV.fresh (bB _);have cl:∀d n,ar.get? d=Z n->d≠ar.objs.size:=λd n a=>dE (b9 a);rw[al]at h a2;refine⟨.ref ar.objs.size,upd g ar.objs.size<|.lst<|q.toList.map λj=>V5.getD j .aP,?_,rfl,u _ _ ci ?_⟩
   ·refine as.laid (Wr:=Wy) (λd I a=>Wq d I (cl d I a)<|cu _ a) (bB _) ⟨?_,_,ce,?_,ch⟩
    ·rw[br,ha,h.size];lia
    ·refine u2 ↥0 λj r I l t=>?_;rw[gC]at l t;cases T:q.toList[j]? with
     |none=>rw[T]at l;cases l
     |some s=>
      rw[T]at l t;cases l;cases t;have F:s<VZ.length:=by rw[al];exact j4.mp (h.mem_iff.mp<|lg T)
      let⟨@I,H,co⟩:=v.get (j:=s) (b:=V5[s]'⋯) (by simp[show s<V5.length by lia]);rw[fj F]at H;have H:=Option.some.inj H;simp only[List.getD,fj F,fj (show s<V5.length by lia),uB];rw[H];exact co
   ·rw[<-xK f.w.ord (wq h) (Ir f.w.ord h a2)];exact VW.pick λs F=>j4.mp (h.mem_iff.mp F)
def pb(E:List aa):Bool:=(decide (E.length<=63)&&E.all (λh=>E.all λd=>ej 6 h d)&&decide E.Nodup&&(E.all jJ || E.all ov))
def pf:pb E=ab↔o3 E:=by
 unfold pb;rw[cI,cI,cI,HD,fu,fu,k5,k5,k5];constructor
 ·rintro⟨⟨⟨l,t⟩,a⟩,b⟩;exact⟨⟨l,λh av d ag=>k5.mp (t h av) d ag,a⟩,b⟩
 ·rintro⟨⟨l,t,a⟩,b⟩;exact⟨⟨⟨l,λh av=>k5.mpr λd ag=>t h av d ag⟩,a⟩,b⟩
def iD(E:List aa):Option ak:=(if pb E=ab then Z (.lst<|gO a9 E) else X)
def jQ:hR:=(λE=>match E with
 |[.lst b]=>match kR b with
  |some V4=>zc [.lst b]
  |none=>iD b
 |[.im (.tup b)]=>iD b
 |[.aB VR]=>iD (VR.map λq=>.tup q.1)
 |[.di VR]=>iD (VR.map λq=>.tup q.1)
 |_=>X)
def u9{o:ak}(c:iD E=Z o):o3 E/\o=.lst (gO a9 E):=by
 unfold iD at c;split at c
 ·rename_i a;cases c;exact⟨pf.mp a,rfl⟩
 ·cases c
theorem z9{g:aA}:∀{VR:List (List aa×aa)}{WB:List (List aa×af)},d9 g VR WB->(VR.map λq=>aa.tup q.1)=WB.map λq=>aa.tup q.1
 |_,_,.nil=>rfl
 |_,_,.cons p H=>by rw[bH,bH,z9 H,p.1]
def tG(d:e.calm=ab)(f:e.A.units+20<bN):hc e (.builtin "sorted") jQ:=by
 intro G m y g x Wc D B p s;let⟨E,@o,h,a,u⟩:=s;unfold jQ at a;split at a
 ·rename_i b;split at a
  ·exact Kw d f G m y g x Wc D B p ⟨_,o,h,a,u⟩
  ·let@⟨c,rfl⟩:=u9 a;let⟨@r,rfl,⟨Y,q,@V5,rfl,l,t,Y⟩⟩:=fF h;exact CT d f G m y g _ Wc D B p ⟨q,b,V5,rfl,.inl<|dv.of l,t,c.w,λJ W5 aX aR=>cc.l u aX aR⟩
 ·rename_i b;let@⟨c,rfl⟩:=u9 a;let⟨@r,rfl,k⟩:=fF h;let⟨q,@V5,rfl,l,t⟩:=k.i;exact CT d f G m y g _ Wc D B p ⟨q,b,V5,rfl,.inr<|cC.of l,t,c.w,λJ W5 aX aR=>cc.l u aX aR⟩
 ·rename_i VR;let@⟨c,rfl⟩:=u9 a;let⟨@r,rfl,⟨Y,q,@WB,rfl,l,t,Y⟩⟩:=fF h;rw[z9 t]at c u;exact Bo d f G m y g _ Wc D B p ⟨q,WB,rfl,.inl l,c,λJ W5 aX aR=>cc.l u aX aR⟩
 ·rename_i VR;let@⟨c,rfl⟩:=u9 a;let⟨r,rfl,k⟩:=fF h;let⟨Y,q,WB,n,rfl,l,t,Y⟩:=k;rw[z9 t]at c u;exact Bo d f G m y g _ Wc D B p ⟨q,WB,rfl,.inr ⟨n,l⟩,c,λJ W5 aX aR=>cc.l u aX aR⟩
 ·cases a
end
end L2
namespace L2
open Spec PyProof.Rows
def wM:gm:=(λh d=>match h,d with
 |.im b,.im i=>if ej 6 b i=ab then Z (.im<|.aJ<|a9 b i) else X
 |_,_=>X)
section
variable{e:aM}
def Nd(n:e.A.units+20<bN):fx e (eL .Lt) wM:=by
 intro G m y g b i r I D B c d f;let⟨Wz,WE,@o,h,k,a,u⟩:=f;unfold wM at a;split at a
 ·split at a
  ·rename_i l;cases a;exact tl 6 l ⋯ (h.i.eA B.aV c) (k.i.eA B.aV d) e.prog e.w _ _ ⟨.aJ _,g,B,rfl,cc.i u rfl⟩
  ·cases a
 ·cases a
def PE{Wa:gq}{own:List aF}{Wk:List Nat}(c:vh e.env.scope e.N Wa Wk=ab):hV e Wa own Wk:=i8 _ _ c rfl rfl
end
end L2
namespace PySem
open PySem.Sem (wp)
def MJ:ro (.type "list") "keys" = pure X:=by rw[xE,yj];kernel_rfl
def T6{VX:bu}{C:bf}{O:bz}{VP:ah->aw->Prop}{m:aw}{h:au}{x:Array ah}{s:Nat}{D:Option ah->aw->Prop}(b:m.heap.get? h=Z {cls:=.type "list",data:=.seq x s})(i:O.handled=X)(c:∀ar Wy,(∀d n,m.heap.get? d=Z n->ar.get? d=Z n)->D X {m with heap:=ar,toks:=Wy}):wpAny (aT VX C) O (getAttr? (.ref h) "keys") D VP m:=by
 let⟨j,N,o,Wy,V6⟩:=m;have e:∀f,(⟨j,N,o,f,V6⟩:aw).TypeIs (.ref h) "list" := λ_=>⟨_,b,rfl⟩;have q:=sub_AttributeError;have r:=yn.lookup;have t:=yn.bind (.ref h);have u:=am_list_getattr_none;unfold getAttr? getAttrBy? getAttrBy;repeat (any_goals (first|assumption|exact e _|((with_reducible show wpAny _ _ (call (ah.builtin "list.__getattribute__") _ _) _ _ _);refine m_ yn (e _) am_entry_list_getattribute (F.args_list_getattribute_2 _ _) (meets_getattribute_miss_list h x s _ "keys" _ MJ (by decide +kernel) ∅) ⟨b,i,λar f a g=>?_⟩)|wp_step))
 let⟨Wr,@v,k⟩:=g.there;show wpAny _ _ (JX _ _ _ _ _ _ _) _ _ _;unfold JX;have l:∀p,(⟨ar,N,o,p,V6⟩:aw).TypeIs (.ref a) "AttributeError" := λ_=>⟨_,k,rfl⟩;repeat (any_goals (first|assumption|exact l _|wp_step))
 exact c ar _ g.keeps
end PySem
namespace PySem
namespace F
def A_:z5 table "dict.update.loop" = Z bo.«dict.update.loop»:=entryFor_of_tree (by kernel_rfl)
def vV:plainId "dict.update.loop" = ab:=by decide +kernel
end F
end PySem
namespace L2
open Spec PyProof.Rows PySem.W
variable{v:Nat}{Q:List a7}{S:Array ah}{H:au}{I r:ah}{O:bz}{m:aw}{V3:cw}{s:a7}
theorem zQ{V7 WQ:Type}{L:V7->WQ->Prop}:∀{a:List V7}{e:List WQ},dV L a e->∀(j:Nat),j<a.length->∃h d,a[j]?=Z h/\e[j]?=Z d/\L h d
 |_,_,.nil,j,c=>by simp at c
 |_,_,.cons p H,0,c=>⟨_,_,rfl,rfl,p⟩
 |_,_,.cons p H,j+1,c=>by
  let⟨h,@d,b,i,k⟩:=zQ H j ⇑c;exact⟨h,d,by simpa using b,by simpa using i,k⟩
def ia:List aa->Option (List<|List aa×aa)
 |[]=>Z []
 |.tup [.tup s,o]::p=>(ia p).map λm=>(s,o)::m
 |_=>X
def O6:∀{b:List aa}{VV:List (List aa×aa)},ia b=Z VV->b=VV.map λq=>.tup [.tup q.1,q.2]:=by
 intro b;induction b with
 |nil=>intro VV c;cases c;rfl
 |cons h b d=>
  intro VV c;unfold ia at c;split at c
  ·cases c;rename_i a;cases a
  ·rename_i s o p a;cases a;let⟨@m,e,f⟩:=ck.mp c;cases f;rw[bH,<-d e]
  ·cases c
def gz(VV:List (List aa×aa)):List (List aa×aa):=(VV.foldl (λh q=>dH h q.1 q.2) [])
def wQ(g:aA)(r:af)(q:List aa×aa):Prop:=(∃H h i,r=.ref H/\g H=Z (.tup [.ref h,i])/\hs g q.1 h/\cp g q.2 i)
theorem ET{g:aA}:∀{VV:List (List aa×aa)}{V5:List af},(∀q∈VV,aa.keys 7 q.1=ab)->bC g (VV.map λq=>.tup [.tup q.1,q.2]) V5->dV (wQ g) V5 VV
 |[],V5,_,c=>by rw[show V5=[] from c];exact .nil
 |q::VV,V5,a,c=>by
  let⟨r,@p,rfl,⟨H,@W5,rfl,l,⟨v1,@n,rfl,t,⟨b,@d,rfl,e,f⟩⟩⟩,i⟩:=c;cases (show d=[] from f);let⟨h,@WG,rfl,j,k⟩:=t;exact .cons ⟨H,h,b,rfl,l,⟨a q<|.head _,h,WG,rfl,j,k⟩,e⟩ (ET (λu m=>a u<|.tail _ m) i)
section
variable{e:aM}{G:List (au×ba)}{y:L2.a3}{g:aA}{W2:aw}
def fN.is{VR:List (List aa×af)}{x:List (List aa×au×ah)}(p:fN g VR x):∀b∈x,hs g b.1 b.2.1:=by
 intro b a;let⟨j,VW,rfl⟩:=xg.mp a;let⟨q,@u,l,t,c,d,Y⟩:=zQ p j (by rw[dV.length p];exact VW);rw[fj VW]at t;have t:=Option.some.inj t;subst t;rw[<-c];exact d
def vW(a:aI e G y g W2){w:au}{c ar:a4}{VR:List (List aa×af)}{x:List (List aa×au×ah)}(f:c.DictOfH (hv e.prog e.w) w x)(Xa:fN g VR x)(dk:∀d n,W2.heap.get? d=Z n->ar.get? d=Z n)(h:∀n,c.get? w=Z n->ar.get? w=Z n):ar.DictOfH (hv e.prog e.w) w x:=by
 let⟨n,Q,@WI,l,t,i,j,Y,k⟩:=f;have m:aI e G y g {W2 with heap:=ar}:=a.kept (Wr:=W2.toks) dk;exact⟨n,Q,WI,h n l,t,i,j,λb o=>kx (c:=ar) m.aV<|Xa.is b o,k⟩
def Rf(p:aI e G y g W2){O:bz}(as:O.units+20<bN){w e6 J:au}{P:List ah}{V5:List af}{VV:List (List aa×aa)}{a3:Nat->a4->Prop}{VO:pI->aw->Prop}(t:bZ V5 P)(S:dV (wQ g) V5 VV)(aR:VV.length<=1000)(W:ka e.prog e.w O.in1 e6 [e6,J] [e6] P.length (λj r=>P[j]?=Z r) a3)(a1:W2.heap.get? w=X)(u:W2.heap.get? e6=X)(z:w≠e6)(a2:w≠J)(fin:∀(m:aw) (x:List (List aa×au×ah)) (VR:List (List aa×af)),(∀d n,W2.heap.get? d=Z n->m.heap.get? d=Z n)->m.heap.DictOfH (hv e.prog e.w) w x->fN g VR x->d9 g (gz VV) VR->VR.length<=1000->
   m.gens=W2.gens->m.drawn=W2.drawn->m.os=W2.os->VO (.ok<|.ret .none) m):
  ∀(M j:Nat) (H:iE) (m:aw) (x:List (List aa×au×ah)) (VR:List (List aa×af)),P.length-j=M->j<=P.length->a3 j m.heap->(∀d n,W2.heap.get? d=Z n->m.heap.get? d=Z n)->
   m.heap.DictOfH (hv e.prog e.w) w x->fN g VR x->d9 g (gz<|VV.take j) VR->VR.length<=j->m.gens=W2.gens->m.drawn=W2.drawn->m.os=W2.os->
   codeAny (aT e.prog e.w) O (.builtin "dict.update.loop" ⟨[.ref w,.ref e6,.int j H,.none],[]⟩) VO m:=by
 have fn:P.length=VV.length:=by rw[<-t.length,dV.length S]
 intro M;induction M with
 |zero=>
  intro j H m x VR bd VW R dk A Xa o be B D E;have bi:j=P.length:=⋯
  refine iL F.A_ ?_;rw[iO F.vV _];refine aC (m:=gP (.ref e6)) (W.done m _ _ (bi ▸ R) λar Wy keep=>?_);refine aC (m:=bo.Dict.addKeywords w []) (a5<|a5 ?_);have b:∀d n,d≠e6->m.heap.get? d=Z n->ar.get? d=Z n:=λd n ag a=>keep d n ⇑ag a;refine fin _ x VR (λd n a=>b d n (λk=>by rw[k,u]at a;cases a)<|dk d n a) ?_ Xa (by rw[tP ⋯]at o;exact o) ⋯ B D E;exact vW p A Xa (λd n a=>b d n (λk=>by rw[k,u]at a;cases a)<|dk d n a) λn a=>b w n z a
 |succ M bm=>
  intro j H m x VR bd VW R dk A Xa o be B D E;have lt:j<P.length:=⋯
  refine iL F.A_ ?_;rw[iO F.vV _];refine aC (m:=gP (.ref e6)) (W.item j m _ _ lt R λr ar Wy bn bs keep=>?_);have b:∀d n,d≠e6->m.heap.get? d=Z n->ar.get? d=Z n:=λd n ag a=>keep d n ⇑ag a;let⟨i,@f,bv,ca,⟨q,h,@T,rfl,cd,av,ce⟩⟩:=zQ S j (by rw[t.length];exact lt);let⟨@I,U,ch⟩:=t.get bv;rw[bn]at U;cases U;cases ch;have N:∀d n,W2.heap.get? d=Z n->ar.get? d=Z n:=λd n a=>b d n (λk=>by rw[k,u]at a;cases a) (dk d n a);have al:aI e G y g {W2 with heap:=ar}:=p.kept (Wr:=W2.toks) N;have ci:=vW p A Xa N λn a=>b w n z a;let@⟨_,⟨@VZ,cl,⟨@n,am,co,⟨@v,cr⟩⟩⟩⟩:=al.aV _ _ cd;let⟨cO,@Q,rfl,cs,db⟩:=rI cl;cases cs;show wpAny (aT e.prog e.w) O.in1 (holding [.ref q] _ >>= λ_=>again _) _ _ _;refine aC (fI<|aC<|l7 ?_);unfold bo.Dict.pairItems;refine aC (wpAny_typeOf (s:={m with heap:=ar,toks:=Wy}) (⟨n,am,(Prod.mk.inj co).1⟩:aw.TypeIs {m with heap:=ar,toks:=Wy} (.ref q) "tuple") ?_);rw[aH ∅];refine aC (hH (s:={m with heap:=ar,toks:=Wy}) am cr<|a5 ?_);show wpAny (aT e.prog e.w) O.in1 (holding [.ref h,Q]<|dictSet w (.ref h) Q) _ _ _;refine fI (DP (s:={m with heap:=ar,toks:=Wy}) (k:=f.1) (knd:=hv e.prog e.w) (oy as) (kx (c:=ar) al.aV av) ci (λds dL eq=>?_) (by
   have:=dV.length Xa;exact dN (show x.length<=1000 by lia) ∅))
  have an:∀d n,d≠w->ar.get? d=Z n->ds.get? d=Z n:=λd n ag a=>(eq.2 d ag).trans a;have ev:=Xa.put f.1 (d:=h) (i:=T) (I:=Q) av db;have ex:VV.take (j+1)=VV.take j++[f]:=by
   have ap:=(fM.mp ca);rw[A0 ap.1,ap.2]
  have fd:d9 g (gz<|VV.take<|j+1) (fR VR f.1 T):=by
   rw[ex];unfold gz;rw[List.foldl_append];exact d9.put ce o
  refine a5 ⟨hK F.vV _,bm (j+1) 0 _ _ _ ⋯ lt (W.frame _ _ _ bs λd ag n a=>an d n (λk=>by
    subst k;rcases bR.mp ag with k|ag
    ·exact z k
    ·exact a2 (cR.mp ag)) a) (λd n a=>an d n (λk=>by rw[k,a1]at a;cases a)<|N d n a) dL ev fd ?_ B D E⟩
  unfold fR;split
  ·rw[br];lia
  ·simp;lia
def TR(t:e.calm=ab)(ci:e.A.units+30<bN):ez e (.type "dict") (λx g D=>∃(J:au) (V5:List af) (VV:List (List aa×aa)),x=[.ref J]/\g J=Z (.lst V5)/\dV (wQ g) V5 VV/\VV.length<=1000/\
  ∀(o:au) (VR:List (List aa×af)),g o=X->d9 g (gz VV) VR->D (.ref o) (upd g o<|.aB VR)):=by
 intro G m y g x Wc D B p c;let⟨J,V5,@VV,rfl,S,T,aR,u⟩:=c;let⟨@I,rfl,U⟩:=h3 p;cases U;let@⟨k,⟨VZ,@v,al,a⟩⟩:=B.aV J _ S;have z:J<m.heap.objs.size:=b9 a;refine Dr (Q₁:=λE H=>E=.ref m.heap.objs.size/\H={m with heap:=m.heap.push {cls:=.type "dict",data:=.dict #[]} }) PySem.F.kt_called_dict (PySem.F.kt_typeCall_dict_1 _) PySem.F.entry_dict_init (kt_code_dict_new _ ⟨rfl,rfl⟩) ?_;rintro E H ⟨rfl,rfl⟩;have am:(m.heap.push {cls:=.type "dict",data:=.dict #[]}).DictOfH (hv e.prog e.w) m.heap.objs.size []:=a4.DictOfH.new m.heap;have N:aw.TypeIs {m with heap:=m.heap.push {cls:=.type "dict",data:=.dict #[]} } (.ref m.heap.objs.size) "dict" := ⟨_,dx _ rfl,rfl⟩;have b:(m.heap.push {cls:=.type "dict",data:=.dict #[]}).get? J=Z {cls:=.type "list",data:=.seq VZ.toArray v}:=cu _ a;refine⟨N,PySem.F.args_dict_init_2 _ _,?_⟩;unfold bo.«dict.__init__»;refine aC ?_;unfold bo.Dict.selfAndRest;refine aC (Dk N ?_);show wpAny _ _ (pure (m.heap.objs.size,[ah.ref J])) _ _ _;refine a5 ?_;show wpAny _ _ (bo.Dict.updateFrom "dict.__init__" m.heap.objs.size (.ref J) [] .none) _ _ _;unfold bo.Dict.updateFrom;refine aC (wpAny_typeOf (⟨_,b,rfl⟩:aw.TypeIs {m with heap:=m.heap.push {cls:=.type "dict",data:=.dict #[]} } (.ref J) "list") ?_);rw[aH ∅];refine aC (T6 (m:={m with heap:=m.heap.push {cls:=.type "dict",data:=.dict #[]} }) b (B.ok.hd t) λl Wy Wo=>?_);rw[aH (show (X:Option ah).isNone=ab from rfl)];refine aC (m:=rule _) (lI ?_);have P:l.IsList J VZ.toArray:=⟨_,Wo _ _ b,rfl,v,rfl⟩;refine aC (pH (s:={m with heap:=l,toks:=Wy}) P ?_);have f:m.heap.objs.size<l.objs.size:=b9 (Wo _ _<|dx _ rfl);have dk:∀d n,m.heap.get? d=Z n->(l.push {cls:=.type "list_iterator",data:=.fields #[.ref J,.int 0 0]}).get? d=Z n:=λd n h=>cu _ (Wo d n<|cu _ h);refine a5 ⟨hK PySem.F.vV _,?_⟩;have an:(l.push {cls:=.type "list_iterator",data:=.fields #[.ref J,.int 0 0]}).DictOfH (hv e.prog e.w) m.heap.objs.size []:=vW B (VR:=[]) am .nil dk λn ap=>cu _ (Wo _ _ ap);have as:J≠l.objs.size:=dE (Ez z f);refine Rf B (O:=e.A.in1) (by show e.A.units+1+20<bN;lia) (w:=m.heap.objs.size) (e6:=l.objs.size) (J:=J) (a3:=λj c=>c.IsListIter l.objs.size J j/\c.IsList J VZ.toArray) al T aR ?_ (z0<|bB _) (z0<|rb f) (dE f) (lT z)
  (λVY x VR a1 a2 bd be co i q s=>?_) VZ.length 0 0 _ [] [] rfl (fW _) ?_ dk an .nil .nil (bB _) rfl rfl rfl
 ·have W:=ka.list (prog:=e.prog) (w:=e.w) (A:=e.A.in1.in1) (B.ok.hd t) l.objs.size J as VZ.toArray;have bi:(λ(j:Nat) (r:ah)=>VZ.toArray[j]?=Z r)=λj r=>VZ[j]?=Z r:=by
   funext j r;rw[AX]
  rw[bi,cK]at W;exact W
 ·let⟨ar,bm,bn,Wr,bs⟩:=VY;have i:bm=m.gens:=i;have q:bn=m.drawn:=q;have s:bs=m.os:=s;subst i q s;have R:g m.heap.objs.size=X:=B.aV.fresh (bB _);let⟨n,Q,@WI,bv,ca,cd,ce,Y,ch⟩:=a2;refine⟨rfl,.ref m.heap.objs.size,_,B.laid (n:=.aB VR) (ar:=ar) (Wr:=Wr) a1 (bB _) ⟨dN (show VR.length<=1000 by lia) ∅,xX.mpr<|dY<|dE B.big,x,bd.keeps λd V5 h=>HR h R,n,Q,WI,bv,ca,cd,ce,ch⟩,rfl,u _ VR R be⟩
 ·exact⟨⟨_,dx _ rfl,rfl,rfl⟩,P.push _⟩
@[simp] def ic:hR:=λE=>match E with
 |[.lst b]=>(ia b).bind λVV=>if (VV.all λq=>aa.keys 7 q.1)=ab/\VV.length<=1000 then Z (.aB<|gz VV) else X
 |_=>X
def sd(f:e.calm=ab)(i:e.A.units+30<bN):hc e (.type "dict") ic:=by
 refine (TR f i).imp λx g D j=>?_;let⟨E,@o,k,a,u⟩:=j;unfold ic at a;split at a
 ·rename_i b;let⟨@VV,n,c⟩:=bq.mp a;split at c
  ·rename_i d;cases c;let⟨@r,rfl,⟨Y,q,@V5,rfl,l,t,Y⟩⟩:=fF k;rw[O6 n]at t;refine⟨q,V5,VV,rfl,l,ET (λu p=>k5.mp d.1 u p) t,d.2,λo VR hd s=>?_⟩;have m:cX g (upd g o<|.aB VR):=(cX.refl g).upd hd;exact u _ _ [o] m ⟨o,VR,rfl,eu,s.mono m.tupS.tup,rfl⟩ (e4 _ _) λh av=>by rw[cR.mp av];exact hd
  ·cases c
 ·cases a
end
section
variable{e:aM}
def QW(Wy E:bU):bU:=(λy g D=>∀q,g q=X->Wy y (upd g q<|.aB []) λb VT=>E y VT λi V8=>∃d s,b=.ref d/\hs V8 s d/\V8 q=Z (.aB [])/\D (.ref q) (upd V8 q<|.aB [(s,i)]))
variable{r:a7}
def SJ{Wy E:bU}(ap:e.A.units+20<bN)(p:bj e s Wy)(q:bj e r E):bj e (.Dict [Z s] [r] V3) (QW Wy E):=by
 intro G m y g D B u;have v:=B.aV.fresh (bB m.heap.objs.size);have z:=B.laid (h:=m.heap.objs.size) (n:=.aB []) (ar:=m.heap.push {cls:=.type "dict",data:=.dict #[]}) (Wr:=m.toks) (λ_ Y u=>cu _ u) (bB _) (BY m.heap B.big);refine wpAny_Dict_any rfl rfl ↥0 ↥0 ?_;refine pairTrees_cons_walk (bK (p G _ y _ _ z<|u _ v) λI F ⟨b,VT,H,J,L⟩=>bK (q G F y VT _ H L) λas M ⟨i,V8,a,N,d,f,WD,ag,c,P⟩=>pairTrees_nil_walk ?_);subst WD;cases J;let@⟨k,R,⟨@x,Xa,S⟩⟩:=Be a.aV c;cases Xa;unfold storeAll;rw[uL];refine aC (aC (DP (k:=f) (knd:=hv e.prog e.w) (show e.A.units+10<bN by lia) (kx a.aV ag) S (λar T U=>a5 ?_)<|fW _));refine a5 ⟨.ref m.heap.objs.size,_,?_,rfl,P⟩;let⟨dK,Q,@WI,j,t,al,am,Y,an⟩:=T;refine yJ (m:=M) a (by rw[c];exact True.intro) U ⟨dK,j⟩ ⟨(show 1<=sizeLine by decide),R,_,fN.keeps (fN.put (VR:=[]) (x:=[]) .nil f (d:=d) ag N) λa1 V5 o=>?_,dK,Q,WI,j,t,al,am,an⟩;rw[cP (Ge o c<|λk=>nomatch k)];exact o
@[simp] def uQ(a b:aD ak):aD ak:=λw=>(a w).bind λq=>(b q.2).bind λu=>match q.1,u.1 with
 |.im (.tup s),.im o=>if aa.keys 7 s=ab then Z (.aB [(s,o)],u.2) else X
 |_,_=>X
def wh{E F:aD ak}(N:e.A.units+20<bN)(P:b2 e s E)(Q:b2 e r F):b2 e (.Dict [Z s] [r] V3) (uQ E F):=by
 refine d_ (SJ N P Q) λy g D ⟨w,L,p,Wb,R,ae,S,u⟩ q o=>?_;let⟨@⟨Wz,VQ⟩,l,t⟩:=bq.mp S;let⟨@⟨WE,Wi⟩,T,f⟩:=bq.mp t;have m:cX g (L2.upd g q<|.aB []):=(cX.refl g).upd o;have G:q∉L:=λk=>by let⟨@n,a,Y⟩:=R.chg q k;rw[o]at a;cases a
 refine⟨w,L,Wz,VQ,R.mono m.tupS λh Y n a=>m h n a,ae,l,λb VT V9 a1 U Wd v=>?_⟩;have al:=c4.mp v.ae;refine⟨VQ,V9,WE,Wi,U,al.1,T,λi V8 Wg b0 am Wu j=>?_⟩;dsimp only at f;split at f
 ·rename_i z a2;split at f
  ·rename_i an;cases f;let@⟨cO,rfl⟩:=Wd;let@⟨ap,rfl⟩:=Wu;rw[b4]at v j;have B:=v.seq j;have H:VT q=Z (.aB []):=v.keep q _ eu G;have J:q∉V9:=λk=>by
    rcases v.sub q k with c|c
    ·exact G c
    ·rw[eu]at c;cases c
   have C:V8 q=Z (.aB []):=j.keep q _ H J;have M:q∉Wg:=λk=>by
    rcases j.sub q k with c|c
    ·exact J c
    ·rw[H]at c;cases c
   let⟨d,@x,rfl,Wo,Wq⟩:=(show cp V8 (.tup z) b from cO.mono j.tup.tup);refine⟨d,z,rfl,⟨an,d,x,rfl,Wo,Wq⟩,C,?_⟩;have gb:fa V8 (L2.upd V8 q<|.aB [(z,i)]):=fa.of (λh x a=>by
    have:h≠q:=λk=>by subst k;rw[C]at a;cases a
    rw[cP this];exact a) λh n I a=>by
    have:h≠q:=λk=>by subst k;rw[C]at a;cases a
    rw[cP this];exact a
   refine u _ _ Wg [q] (am.mono gb λh av n a=>by
    have ne:h≠q:=λk=>by subst k;exact M av
    rw[cP ne];exact a) ⟨q,[(z,i)],rfl,eu,.cons ⟨rfl,ap.mono gb.tup⟩ .nil,rfl⟩ ?_
   refine⟨λh n a av=>?_,λh av=>?_,?_,?_,λh n a=>?_⟩
   ·have:h≠q:=λk=>by subst k;rw[o]at a;cases a
    rw[cP this];exact B.keep h n (by rw[cP this];exact a) av
   ·rcases d8.mp av with c|c
    ·rcases B.sub h c with ar|ar
     ·exact .inl ar
     ·by_cases a:h=q
      ·exact .inr (a ▸ o)
      ·rw[cP a]at ar;exact .inr ar
    ·exact .inr (by rw[cR.mp c];exact o)
   ·exact c4.mpr ⟨j.ae,e4 _ _,λh av d ag a=>M (by rw[cR.mp ag]at a;rw[<-a];exact av)⟩
   ·exact (m.tupS.trans B.tup).trans gb
   ·by_cases k:h=q
    ·exact⟨_,by rw[k];exact eu⟩
    ·let⟨@WN,as⟩:=B.grow h n (by rw[cP k];exact a);exact⟨WN,by rw[cP k];exact as⟩
  ·cases f
 ·cases f
end
def O8:String->bo:=((⟨_,rfl⟩:{z:String->bo // z "max" = bo.«max» }).1)
def O9:String->kN->bo:=((⟨_,rfl⟩:{z:String->kN->bo // z "max" .Gt=bo.«max.loop» }).1)
section
variable{VX:bu}{C:bf}{O:bz}{VP:ah->aw->Prop}{m:aw}
def GN{w cv:String}{Wx:kN}(j:(toString w++toString ".loop" : String)=cv)(Q:builtinKind w=X)(S:plainId w=ab)(T:z5 table w=Z (O8 w))(U:∀h d:ah,argsOk w ⟨[h,d],[]⟩)(b:plainId cv=ab)(p:z5 table cv=Z (O9 w Wx)){h d:ah}{s:Bool}{D:ah->aw->Prop}(al:O.handled=X)(am:∀VY:aw,(∀f n,m.heap.get? f=Z n->VY.heap.get? f=Z n)->∀(D:ah->aw->Prop) (VP:ah->aw->Prop),D (.bool s) VY->wpAny (aT VX C) O.in1 (k1 Wx d h) D VP VY)(c:∀ar Wy,(∀f n,m.heap.get? f=Z n->ar.get? f=Z n)->D (if s=ab then d else h) {m with heap:=ar,toks:=Wy}):wpAny (aT VX C) O (call (.builtin w) [h,d]) D VP m:=by
 refine Dv Q S T (U _ _) ?_;show wpAny _ O.in1 (bo.Builtins.bindParams w ["key","default"] 0 ⟨[],[]⟩ >>= _) _ _ m;refine aC (rZ (show bo.Builtins.bindParams w ["key","default"] 0 ⟨[],[]⟩=pure [X,X] from rfl) ?_);show wpAny _ O.in1 (zC [h,d] >>= _) _ _ m;refine aC (hE ?_);have z:(m.heap.push {cls:=.type "tuple",data:=.seq #[h,d]}).IsTuple m.heap.objs.size #[h,d]:=⟨_,dx _ rfl,rfl,0,rfl⟩;refine aC (wpAny_pyIter_tuple z<|aC<|hE ?_);have o:(m.heap.push {cls:=.type "tuple",data:=.seq #[h,d]}).objs.size=m.heap.objs.size+1:=jj ..;have W:=ka.tuple (prog:=VX) (w:=C) (A:=O.in1) al (m.heap.push {cls:=.type "tuple",data:=.seq #[h,d]}).objs.size m.heap.objs.size (by rw[o];exact dE (rW _)) #[h,d];rw[j];refine a5 ⟨hK b _,?_⟩;have dG:((m.heap.push {cls:=.type "tuple",data:=.seq #[h,d]}).push {cls:=.type "tuple_iterator",data:=.fields #[.ref m.heap.objs.size,.int 0 0]}).IsTupleIter (m.heap.push {cls:=.type "tuple",data:=.seq #[h,d]}).objs.size m.heap.objs.size 0:=⟨_,dx _ rfl,rfl,rfl⟩;have A:=z.push {cls:=.type "tuple_iterator",data:=.fields #[.ref m.heap.objs.size,.int 0 0]};have q:((m.heap.push {cls:=.type "tuple",data:=.seq #[h,d]}).push {cls:=.type "tuple_iterator",data:=.fields #[.ref m.heap.objs.size,.int 0 0]}).objs.size=m.heap.objs.size+2:=by rw[jj,o]
 have dk:∀f n,m.heap.get? f=Z n->((m.heap.push {cls:=.type "tuple",data:=.seq #[h,d]}).push {cls:=.type "tuple_iterator",data:=.fields #[.ref m.heap.objs.size,.int 0 0]}).get? f=Z n:=λf n a=>cu _ (cu _ a);rw[o]at W dG;rw[o,q];generalize bn:((m.heap.push {cls:=.type "tuple",data:=.seq #[h,d]}).push {cls:=.type "tuple_iterator",data:=.fields #[.ref m.heap.objs.size,.int 0 0]})=g2 at dG A q dk ⊢;have B:(g2.push {cls:=.type "list",data:=.seq ([]:List ah).toArray}).get? (m.heap.objs.size+2)=Z {cls:=.type "list",data:=.seq ([]:List ah).toArray}:=by rw[<-q];exact dx _ rfl
 have u:m.heap.objs.size+2∉[m.heap.objs.size+1]:=by simp
 have E:∀f∈[m.heap.objs.size+1,m.heap.objs.size],m.heap.objs.size+2≠f:=λf e k=>by
  simp only[bR,nC,jL]at e;rcases e with a|a
  ·rw[a]at k;exact absurd k (lT<|rW _)
  ·rw[a]at k;exact absurd k (lT (Nat.lt_add_of_pos_right ∅))
 have g:∀f n,m.heap.get? f=Z n->f∉[m.heap.objs.size+1]/\f≠m.heap.objs.size+2:=λf n a=>by
  have lt:=b9 a;refine⟨λk=>?_,dE<|eV lt<|sq _ _⟩;rw[cR.mp k]at lt;exact iF _ (Nat.lt_of_succ_lt lt)
 have fin:∀(ar:a4) (Wy:Nat) (i:ah) (F:Nat),(∀f n,m.heap.get? f=Z n->ar.get? f=Z n)->ar.get? (m.heap.objs.size+2)=Z {cls:=.type "list",dict:=X,data:=.seq #[i,i] F,slots:=#[]}->
   ar.IsTupleIter (m.heap.objs.size+1) m.heap.objs.size 2/\ar.IsTuple m.heap.objs.size #[h,d]->i=(if s=ab then d else h)->
   codeAny (aT VX C) O (.builtin cv ⟨[.ref (m.heap.objs.size+1),.none,.ref<|m.heap.objs.size+2],[]⟩) (wants D VP) {m with heap:=ar,toks:=Wy}:=by
  intro ar Wy i F Wo G R jg;refine iL p ?_;rw[iO b _];show wpAny _ O.in1 (mx (.ref<|m.heap.objs.size+2) >>= _) _ _ _;refine aC (hH (s:={m with heap:=ar,toks:=Wy}) G rfl ?_);show wpAny _ O.in1 (tryCatch (gP<|.ref<|m.heap.objs.size+1) _ >>= _) _ _ _;refine aC (l7<|W.done {m with heap:=ar,toks:=Wy} _ _ R λt an H=>?_);have ap:=H _ _ u G;show wpAny _ O.in1 (uP (m.heap.objs.size+2) (λ_=>#[]) >>= _) _ _ _;refine aC (nO ap rfl<|aC<|jH<|a5 ?_);show D i _;rw[jg];exact c _ an λf n a=>(iC _ _<|dY (g f n a).2).trans (H f n (g f n a).1 (Wo f n a))
 refine iL p ?_;rw[iO b _];show wpAny _ O.in1 (mx (.ref<|m.heap.objs.size+2) >>= _) _ _ _;refine aC (hH (s:={m with heap:=g2.push {cls:=.type "list",data:=.seq ([]:List ah).toArray} }) B rfl ?_);show wpAny _ O.in1 (tryCatch (gP<|.ref<|m.heap.objs.size+1) _ >>= _) _ _ _;refine aC (l7 (W.item 0 {m with heap:=g2.push {cls:=.type "list",data:=.seq ([]:List ah).toArray} } _ _ ↥0 ⟨let ⟨n,as,a1⟩:=dG;⟨n,cu _ as,a1⟩,A.push _⟩ λr l bs v a2 Wo=>?_));cases v;have I:=Wo _ _ u B;show wpAny _ O.in1 (uP (m.heap.objs.size+2) (λ_=>#[h,h]) >>= _) _ _ _;refine aC (nO I rfl ?_);rw[j];refine a5 ⟨hK b _,iL p ?_⟩;have J:=oA (ba.mapSeq<|λ_=>(#[h,h]:Array ah)) I rfl;have bd:=W.frame _ _ (l.update (m.heap.objs.size+2)<|ba.mapSeq<|λ_=>(#[h,h]:Array ah)) a2 λf e n a=>(iC _ _<|E f e).trans a;have be:∀f n,m.heap.get? f=Z n->(l.update (m.heap.objs.size+2)<|ba.mapSeq<|λ_=>(#[h,h]:Array ah)).get? f=Z n:=λf n a=>(iC _ _<|dY (g f n a).2).trans (Wo f n (g f n a).1 (cu _<|dk f n a));rw[iO b _];show wpAny _ O.in1 (mx (.ref<|m.heap.objs.size+2) >>= _) _ _ _;refine aC (hH J rfl ?_);show wpAny _ O.in1 (tryCatch (gP<|.ref<|m.heap.objs.size+1) _ >>= _) _ _ _;refine aC (l7 (W.item 1 _ _ _ ↥0 bd λr bi L v M N=>?_));cases v;have x:=N _ _ u J;have y:∀f n,m.heap.get? f=Z n->bi.get? f=Z n:=λf n a=>N f n (g f n a).1 (be f n a);show wpAny _ O.in1 (tryCatch (holding [d,d]<|k1 Wx d h >>= _) _ >>= _) _ _ _;refine aC (l7<|fI<|aC<|am _ y _ _ ?_);refine aC (fI<|lY ?_);refine aC (jH<|a5 ?_);cases P:s with
 |true=>
  simp only[gB];refine aC (nO x rfl<|aC<|jH ?_);rw[j];have bm:=oA (ba.mapSeq<|λ_=>(#[d,d]:Array ah)) x rfl;refine a5 ⟨hK b _,fin _ L d _ (λf n a=>(iC _ _<|dY (g f n a).2).trans<|y f n a) bm (W.frame _ _ _ M λf e n a=>(iC _ _<|E f e).trans a) (by rw[P];rfl)⟩
 |false=>
  simp only[jT,fO];refine aC (jH ?_);rw[j];exact a5 ⟨hK b _,fin _ L h _ y x M (by rw[P];rfl)⟩
end
section
variable{VX:bu}{C:bf}{O:bz}{VP:ah->aw->Prop}{m:aw}{h d:ah}{s:Bool}{D:ah->aw->Prop}
def ND(a:O.handled=X)(b:∀VY:aw,(∀f n,m.heap.get? f=Z n->VY.heap.get? f=Z n)->∀(D:ah->aw->Prop) (VP:ah->aw->Prop),D (.bool s) VY->wpAny (aT VX C) O.in1 (k1 .Gt d h) D VP VY)(c:∀ar Wy,(∀f n,m.heap.get? f=Z n->ar.get? f=Z n)->D (if s=ab then d else h) {m with heap:=ar,toks:=Wy}):wpAny (aT VX C) O (call (.builtin "max") [h,d]) D VP m:=
 GN ∅ F.kind_max F.plain_max F.entry_max F.args_max2 F.plain_max_loop F.entry_max_loop a b c
def Vh(a:O.handled=X)(b:∀VY:aw,(∀f n,m.heap.get? f=Z n->VY.heap.get? f=Z n)->∀(D:ah->aw->Prop) (VP:ah->aw->Prop),D (.bool s) VY->wpAny (aT VX C) O.in1 (k1 .Lt d h) D VP VY)(c:∀ar Wy,(∀f n,m.heap.get? f=Z n->ar.get? f=Z n)->D (if s=ab then d else h) {m with heap:=ar,toks:=Wy}):wpAny (aT VX C) O (call (.builtin "min") [h,d]) D VP m:=
 GN ∅ Je Bw I7 F.args_min2 mu sP a b c
end
def tk(O:bz)(m:aw)(i b:ah)(s:Bool):Prop:=(∀(VX:bu) (C:bf) (VP:ah->aw->Prop) (D:ah->aw->Prop),D (.bool s) m->wpAny (aT VX C) O (k1 .Gt i b) D VP m)
section
open PySem.SeqAt
open PySem.AutoSeq1 (wpAny_loadPart')
open PySem.MeetsSeq PySem.MeetsSeq2 PySem.MeetsSeq3
def UW(J d:au)(S e:Array ah)(v x:Nat)(y z:Option au)(aS B:Array (Option ah))(VV:List (Bool×Bool))(L:VV.length=min S.size e.size):
  sf (bo.«tuple.__gt__» ⟨[.ref J,.ref d],[]⟩)
   (λO VO m=>m.heap.get? J=Z {cls:=.type "tuple",dict:=y,data:=.seq S v,slots:=aS}/\m.heap.get? d=Z {cls:=.type "tuple",dict:=z,data:=.seq e x,slots:=B}/\
    (∀A (l:A<S.size) (t:A<e.size) (k:A<VV.length),EqAt O.in1 m S[A] e[A] (VV[A]).1/\((VV[A]).1=az->tk O.in1 m S[A] e[A] (VV[A]).2))/\
    VO (.ok<|.ret<|.bool<|hZ (decide (e.size<S.size)) VV) m):=
 .of_wp λVX C O VO m c=>by
  let⟨g,N,o,Wy,V6⟩:=m;let@⟨D,ag,E,c⟩:=c;have M:=Fh;have p:(S.toList.zip e.toList).length=min S.size e.size:=by simp
  wp_walk using wpAny_loadPart' D,wpAny_loadPart' ag,qb _ (λd7 d VY=>d.1=X/\VY=⟨g,N,o,Wy,V6⟩/\∃j,d7=(S.toList.zip e.toList).drop j/\
   VO (.ok<|.ret<|.bool<|hZ (decide (e.size<S.size))<|VV.drop j) ⟨g,N,o,Wy,V6⟩) _
  case turn=>
   rintro⟨i,b⟩ d7 d VY ⟨n,rfl,j,aR,f⟩;have q:j<(S.toList.zip e.toList).length:=by
    rcases mg j (S.toList.zip e.toList).length with ar|ar
    ·exact ar
    ·rw[n9 ar]at aR;cases aR
   have P:j<min S.size e.size:=p ▸ q;have l:j<S.size:=⋯
   have t:j<e.size:=⋯
   have k:j<VV.length:=⋯
   rw[j6 q]at aR;injection aR with r F;have G:i=S[j]:=by have:=congrArg Prod.fst r;simpa using this
   have H:b=e[j]:=by have:=congrArg Prod.snd r;simpa using this
   subst G H;rw[j6 k]at f;let@⟨u,w⟩:=E j l t k;generalize VV[j]=pr at f u w;let⟨a,s⟩:=pr;refine aC (u VX C _ _ ?_);cases a with
   |true=>
    have h:VO (.ok<|.ret<|.bool<|hZ (decide (e.size<S.size))<|VV.drop<|j+1) ⟨g,N,o,Wy,V6⟩:=f
    wp_walk
    exact⟨rfl,rfl,j+1,F,h⟩
   |false=>
    have h:VO (.ok<|.ret<|.bool s) ⟨g,N,o,Wy,V6⟩:=f;have I:=w rfl VX C
    wp_walk using I
    exact⟨_,rfl,by simpa using h⟩
  case fin=>
   rintro⟨dJ,dr⟩ VY ⟨n,rfl,j,aR,f⟩;simp only at n;subst n;have Q:min S.size e.size<=j:=by
    rcases mg j (S.toList.zip e.toList).length with ar|ar
    ·rw[j6 ar]at aR;cases aR
    ·exact p ▸ ar
   rw[n9 ⋯]at f;have h:VO (.ok<|.ret<|.bool<|decide (e.size<S.size)) ⟨g,N,o,Wy,V6⟩:=f
   wp_walk
   exact⟨_,rfl,by simpa [bo.Tuple.tupleCompareSizes] using h⟩
  case h=>
   exact⟨rfl,rfl,0,rfl,by simpa using c⟩
end
def kl(E Q:List aa):List (Bool×Bool):=((E.zip Q).map λq=>(b8 q.1 q.2,a9 q.2 q.1))
def T_(h d:aa):aa.beq h d=aa.beq d h:=by
 rw[n_,aa.beq_iff,aa.beq_iff];exact⟨λc=>c.symm,λc=>c.symm⟩
theorem Jt:∀{v:Nat}{E Q:List aa},ft v E Q=ab->hZ (decide (Q.length<E.length)) (kl E Q)=f7 Q E
 |_,[],[],_=>rfl
 |v,h::p,d::H,c=>by
  rw[ft,cI]at c;show (if b8 h d=ab then hZ (decide (H.length+1<p.length+1)) (kl p H) else a9 d h)=f7 (d::H) (h::p);rw[f7,(p2 c.1).2.2,<-Jt c.2,T_,ix.mpr yE]
 |_,[],_::_,_=>rfl
 |_,_::_,[],_=>rfl
def Lm{j A:Int}(a:dz m.heap (.int j) I)(b:dz m.heap (.int A) r):tk O m I r (a9 (.int A)<|.int j):=by
 let⟨@H,rfl⟩:=a;let⟨@Wr,rfl⟩:=b;intro VX C VP D u;rw[a9]at u;exact (RJ u:wpAny (aT VX C) O (eL .Gt (.int j H)<|.int A Wr) D VP m)
def En{b i:aa}(J:Av b i)(c:dz m.heap b I)(e:dz m.heap i r):tk O m I r (a9 i b):=by
 rcases J with ⟨j,A,rfl,rfl⟩|⟨h,d,rfl,rfl⟩
 ·exact Lm c e
 ·let⟨H,rfl⟩:=c;let⟨Wr,rfl⟩:=e;intro VX C VP D u;rw[a9]at u;exact richCompare_gives (op:=.Gt) (yZ m h H) (yZ m d Wr) PySem.F.slot_str_gt PySem.F.entry_str_gt (PySem.F.args_str_gt_2 _ _) (PySem.gives_str_gt h d H Wr) (λa=>nomatch a) u
def QQ(v:Nat):∀{O:bz}{b i:aa}{I r:ah},ej v b i=ab->O.units+v+2<bN->dz m.heap b I->dz m.heap i r->tk O m I r (a9 i b):=by
 induction v with
 |zero=>
  intro O b i I r c N e f;rcases oh c with J|⟨M,_,_,a,_⟩
  ·exact En J e f
  ·cases a
 |succ v P=>
  intro O b i I r c N e f;rcases oh c with J|⟨M,E,Q,a,rfl,rfl,c⟩
  ·exact En J e f
  cases a;let⟨h,n,VZ,@M,rfl,l,t,g,j⟩:=e;let⟨d,WN,R,@S,rfl,o,p,q,s⟩:=f;let⟨cls,T,data,aS⟩:=n;let⟨a1,U,a2,al⟩:=WN;simp only at t g p q;subst t g p q;have w:E.length=VZ.size:=by rw[j.length,ha]
  have x:Q.length=R.size:=by rw[s.length,ha]
  intro VX C VP D u;rw[a9,<-Jt c,w,x]at u;have cv:(kl E Q).length=min VZ.size R.size:=by rw[kl,br,tY,w,x]
  refine FE (op:=.Gt) ⟨_,l,rfl⟩ ⟨_,o,rfl⟩ PySem.F.slot_tuple_gt PySem.F.entry_tuple_gt (PySem.F.args_tuple_gt_2 _ _) (UW h d VZ R M S T U aS al (kl E Q) cv)
   ⟨l,o,λA am an ap=>?_,show ah.bool (hZ (decide (R.size<VZ.size))<|kl E Q)≠ah.notImplemented/\D (.bool<|hZ (decide (R.size<VZ.size))<|kl E Q) m from ⟨(λb=>nomatch b),u⟩⟩ ⋯;let⟨@Wz,y,z⟩:=j.get (A:=A) (r:=VZ[A]) (by rw[hX];simp[am]);let⟨@WE,B,G⟩:=s.get (A:=A) (r:=R[A]) (by rw[hX];simp[an]);have lk:=yQ c y B;have H:=p2 lk;have as:(kl E Q)[A]=(b8 Wz WE,a9 WE Wz):=by
   have:(kl E Q)[A]?=Z (b8 Wz WE,a9 WE Wz):=by
    rw[kl,gC,(FQ (z:=(Wz,WE))).mpr ⟨y,B⟩];rfl
   rw[fj ap]at this;exact Option.some.inj this
  rw[as];exact⟨h2 v H.1 H.2.1 (by show O.units+1+v+1<bN;lia) z G,λ_=>P lk (by show O.units+1+v+2<bN;lia) z G⟩
section
variable{e:aM}
def K3(f:e.calm=ab)(j:e.A.units+20<bN):ez e (.builtin "max") (λx g D=>∃(o a:aa) (r I:af),x=[r,I]/\ej 6 a o=ab/\cp g o r/\cp g a I/\D (if a9 o a=ab then I else r) g):=by
 intro G m y g x Wc D B p c;let⟨o,a,r,@I,rfl,lk,l,t,u⟩:=c;let⟨k,@q,rfl,b,d⟩:=rI p;refine ND (s:=a9 o a) (B.ok.hd f) (λVY s D VP i=>?_) λar Wy s=>⟨if a9 o a=ab then I else r,g,B.kept s,?_,u⟩
 ·exact QQ 6 lk (by show e.A.units+1+6+2<bN;lia) ((t.eA B.aV d).keep λh n Y Y a Y Y=>s h n a) ((l.eA B.aV b).keep λh n Y Y a Y Y=>s h n a) e.prog e.w VP D i
 ·split
  ·exact d
  ·exact b
def Kt(f:e.calm=ab)(j:e.A.units+20<bN):ez e (.builtin "min") (λx g D=>∃(o a:aa) (r I:af),x=[r,I]/\ej 6 a o=ab/\cp g o r/\cp g a I/\D (if a9 a o=ab then I else r) g):=by
 intro G m y g x Wc D B p c;let⟨o,a,r,@I,rfl,lk,l,t,u⟩:=c;let⟨k,@q,rfl,b,d⟩:=rI p;refine Vh (s:=a9 a o) (B.ok.hd f) (λVY s D VP i=>?_) λar Wy s=>⟨if a9 a o=ab then I else r,g,B.kept s,?_,u⟩
 ·exact tl 6 lk (by show e.A.units+1+6+2<bN;lia) ((t.eA B.aV d).keep λh n Y Y a Y Y=>s h n a) ((l.eA B.aV b).keep λh n Y Y a Y Y=>s h n a) e.prog e.w VP D i
 ·split
  ·exact d
  ·exact b
def mG:hR:=(λE=>match E with
 |[.im (.int j),.im<|.int A]=>AO [.im (.int j),.im<|.int A]
 |[.im (.tup h),.im<|.tup d]=>if ej 6 (.tup d) (.tup h)=ab then Z (.im<|if a9 (.tup h) (.tup d)=ab then .tup d else .tup h) else X
 |_=>X)
def mH:hR:=(λE=>match E with
 |[.im (.int j),.im<|.int A]=>Ap [.im (.int j),.im<|.int A]
 |[.im (.tup h),.im<|.tup d]=>if ej 6 (.tup d) (.tup h)=ab then Z (.im<|if a9 (.tup d) (.tup h)=ab then .tup d else .tup h) else X
 |_=>X)
def zN(b:e.calm=ab)(f:e.A.units+20<bN):hc e (.builtin "max") mG:=by
 intro G m y g x Wc D B p k;let⟨E,@o,c,a,u⟩:=k;unfold mG at a;split at a
 ·exact OB b G m y g x Wc D B p ⟨_,o,c,a,u⟩
 ·split at a
  ·rename_i h d lk;cases a;let⟨r,@I,rfl,l,t⟩:=vS c;refine K3 b f G m y g _ Wc D B p ⟨_,_,r,I,rfl,lk,l,t,cc.i u ?_⟩;split
   ·exact t
   ·exact l
  ·cases a
 ·cases a
def y3(b:e.calm=ab)(f:e.A.units+20<bN):hc e (.builtin "min") mH:=by
 intro G m y g x Wc D B p k;let⟨E,@o,c,a,u⟩:=k;unfold mH at a;split at a
 ·exact Ky b G m y g x Wc D B p ⟨_,o,c,a,u⟩
 ·split at a
  ·rename_i h d lk;cases a;let⟨r,@I,rfl,l,t⟩:=vS c;refine Kt b f G m y g _ Wc D B p ⟨_,_,r,I,rfl,lk,l,t,cc.i u ?_⟩;split
   ·exact t
   ·exact l
  ·cases a
 ·cases a
end
mutual
def uN:aa->rK
 |.int j=>.int j
 |.aJ d=>.bool d
 |.str b=>.str b
 |.tup E=>.tuple (qS E)
 |_=>.none
def qS:List aa->List rK
 |[]=>[]
 |o::p=>uN o::qS p
end
mutual
theorem R0{c:a4}:∀{v:Nat}{o:aa}{I:ah},aa.bQ v o=ab->dz c o I->Reads c I (uN o) []
 |_,.aP,I,_,a=>by cases (show I=.none from a);exact .none
 |_,.aJ d,I,_,a=>by cases (show I=.bool d from a);exact .bool d
 |_,.int j,I,_,a=>by let⟨@H,rfl⟩:=a;exact .int j H
 |_,.str b,I,_,a=>by let⟨@H,rfl⟩:=a;exact .str b H
 |v+1,.tup E,I,s,a=>by
  let⟨h,n,S,@M,rfl,l,t,e,f⟩:=a;exact .tuple l t e (CD (v:=v) s f)
 |0,.tup E,I,s,a=>by cases s
 |v,.fn h,I,s,a=>by cases v<;>cases s
 |v,.aX h,I,s,a=>by cases v<;>cases s
 |v,.fd _,I,s,a=>by cases v<;>cases s
theorem CD{c:a4}:∀{v:Nat}{E:List aa}{Wc:List ah},aa.cx v E=ab->dU c E Wc->ReadsAll c Wc (qS E) []
 |_,[],Wc,_,a=>by rw[show Wc=[] from a];exact .nil
 |v,o::E,Wc,s,a=>by
  let⟨r,@p,rfl,l,t⟩:=a;rw[aa.cx,cI]at s;exact .cons (R0 s.1 l) (CD s.2 t)
end
mutual
theorem Rp:∀o:aa,rK.hasDict (uN o)=az
 |.aP=>rfl
 |.aJ _=>rfl
 |.int _=>rfl
 |.str _=>rfl
 |.fn _=>rfl
 |.aX _=>rfl
 |.fd _=>rfl
 |.tup E=>IJ E
theorem IJ:∀E:List aa,rK.hasDictAll (qS E)=az
 |[]=>rfl
 |o::p=>by
  show (rK.hasDict (uN o) || PyData.hasDictAll (qS p))=az;rw[Rp o,IJ p];rfl
end
section
variable{VX:bu}{C:bf}{O:bz}{VP:ah->aw->Prop}{m:aw}
theorem Eu{aO H:au}{S:Array ah}(d:H≠aO):∀(v j:Nat) (m:aw) (D:List ah->aw->Prop),m.heap.IsListIter aO H j->m.heap.IsList H S->j+v<=S.size->
  (∀ar,ar.IsListIter aO H (j+v)->a4.SameBut aO m.heap ar->D ((S.toList.drop j).take v) {m with heap:=ar})->wpAny (aT VX C) O (draw (.ref aO) v) D VP m
 |0,j,m,D,a,_,_,c=>by
  show wpAny _ _ (pure []) D VP m;exact a5 ⇑(c m.heap a (a4.SameBut.refl ..))
 |v+1,j,m,D,a,e,n,c=>by
  have f:j<S.size:=⋯
  show wpAny _ _ (gP (.ref aO) >>= _) D VP m;refine aC (BJ a e (x:=S[j]) (by simp[f]) λo h g=>?_);refine aC (fI (Eu d v (j+1) _ _ h (e.extBut g.extBut d) ⋯ λi k l=>a5 ?_));have hd:S.toList.drop j=S[j]::S.toList.drop (j+1):=by simp[j6,f]
  have:=c i (by rw[show j+(v+1)=j+1+v by lia];exact k) (g.trans l);rw[hd,List.take_succ_cons]at this;exact this
def UA{D:List ah->aw->Prop}(f:O.handled=X)(b:m.heap.IsList H S)(g:∀ar,a4.ExtBut m.heap.objs.size m.heap ar->D S.toList {m with heap:=ar}):wpAny (aT VX C) O (yy (.ref H) S.size X) D VP m:=by
 have c:H≠m.heap.objs.size:=by let⟨@n,h,Y⟩:=b;exact dE (b9 h)
 unfold yy;refine aC ?_
 ·unfold notIterableAtAll;refine aC (nJ b.typeIs F.slot_list_iter.lookup ?_);refine a5 ?_;simp only[jT,fO];refine aC (fI<|pH b ?_);refine aC (fI (Eu c S.size 0 _ _ ⟨_,dx _ rfl,rfl,rfl⟩ (b.push _) ⋯ λi j e=>?_));have k:List.take S.size (List.drop 0 S.toList)=S.toList:=by
   rw[r0];exact tP ↥0
  rw[k];rw[if_neg ↥0];have l:i.IsList H S:=(b.push _).extBut e.extBut c;refine aC (fI (BK f j l ↥0 λo p=>?_));simp only[Option.isSome_none,jT,fO];refine a5 (g o λd n ag a=>p d n ag<|e.extBut d n ag<|cu _ a)
def OZ{VM:eN}{a:List a7}{b}{D:Unit->aw->Prop}(d:O.handled=X)(e:m.heap.IsList H S)(f:(fo a VM).length=S.size)(g:(fo a VM).findIdx? (·.1)=X)(c:∀ar,a4.ExtBut m.heap.objs.size m.heap ar->wpAny (aT VX C) O (vL ((fo a VM).map (·.2)) S.toList) D VP {m with heap:=ar}):
  wpAny (aT VX C) O (ij (.Tuple a b V3) VM<|.ref H) D VP m:=by
 rw[assign_Tuple];refine aC (sr ?_);unfold unpack;rw[f,g];exact aC (fI<|UA d e c)
end
section
variable{e:aM}
def Qn(U:Φ)(v:Nat)(H:jt):gw:=(λr y g D=>∃h x,r=.ref h/\dv U g h x/\x.length=v/\H x y g D)
variable{s:Nat}
def R3{H:jt}(i:e.calm=ab)(c:og e Q H)(j:(fo Q e.env).length=v:=by rfl)(k:(fo Q e.env).findIdx? (·.1)=X:=by rfl):jx e (.Tuple Q s V3) (Qn e.K v H):=by
 intro G m y g r I D B p b;let⟨h,@x,l,o,q,b⟩:=b;subst l;cases p;let⟨@VZ,f,t,aR⟩:=B.list o;refine OZ (B.ok.hd i) t.isList (by simp[j,<-q,f.length]) k λar u=>?_;have w:aI e G y g {m with heap:=ar}:=B.kept (Wr:=m.toks) λd n a=>u d n (dE<|b9 a) a;exact c G _ y g x _ D w ⇑f b
@[simp] def vn(v:Nat)(c:List ak->aU->Option aU):fs:=λo w=>match o with
 |.lst is=>if is.length=v then c (is.map .im) w else X
 |_=>X
def LK{T:List Nat}{c:List ak->aU->Option aU}(f:e.calm=ab)(i:rg e T Q c)(j:(fo Q e.env).length=v:=by rfl)(p:(fo Q e.env).findIdx? (·.1)=X:=by rfl):hr e T (.Tuple Q s V3) (vn v c):=by
 refine tM (R3 f i j p) λr y g D q=>?_;let⟨w,L,o,VO,@Wb,R,z,ae,b,u⟩:=q;unfold vn at b;split at b
 ·rename_i is;split at b
  ·rename_i A;let⟨h,@x,rfl,l,t,rfl⟩:=z;have B:=c4.mp ae;refine⟨h,x,rfl,dv.of l,by rw[<-t.length];exact A,w,L,_,[],Wb,R,tS t,by rw[b4];exact B.1,b,λC F Ww WJ E m=>u C F Ww WJ E ?_⟩;rw[b4]at m;exact⟨λd n a ag=>m.keep d n a λk=>ag<|eb _ k,λd ag=>(m.sub d ag).imp (λk=>eb _ k) id,m.ae,m.tup,m.grow⟩
  ·cases b
 ·cases b
end
def nZ:List aa->aa->Option Nat
 |[],_=>X
 |b::p,o=>if b8 b o=ab then Z 0 else (nZ p o).map (·+1)
theorem Bb{c:a4}{o:aa}:∀{E:List aa}{P:List ah}{A:Nat},aa.cx 8 E=ab->dU c E P->nZ E o=Z A->
  ∃r,P[A]?=Z r/\jo c o r=ab/\∀M I,M<A->P[M]?=Z I->jo c o I=az
 |[],P,A,_,_,a=>by cases a
 |b::E,P,A,s,f,a=>by
  let⟨r,@p,rfl,l,t⟩:=f;rw[aa.cx,cI]at s;unfold nZ at a;split at a
  ·rename_i k;cases a;exact⟨r,rfl,by rw[kO s.1 l];exact k,λM I d=>absurd d<|Nat.not_lt_zero M⟩
  ·rename_i k;let⟨@j,g,rfl⟩:=ck.mp a;let⟨@C,h,i,m⟩:=Bb s.2 t g;refine⟨C,h,i,λM I d e=>?_⟩;cases M with
   |zero=>
    cases e;rw[kO s.1 l];exact Bool.eq_false_iff.mpr k
   |succ M=>exact m M I ⋯ e
variable{U:Φ}{V0:bu}{C:bf}
end L2
namespace L2
open Spec PyProof.Rows PySem.W
def Hd:ak->ak
 |.im (.aX b)=>.da b
 |o=>o
@[simp] theorem VL(b:List aa):Hd (.im<|.aX b)=.da b:=rfl
@[simp] theorem VF(b:List aa):Hd (.im<|.tup b)=.im (.tup b):=rfl
end L2
namespace L2
open Spec PyProof.Rows
variable{c WO WV:aD bE}{d h a:a7}{Q:List a7}{V3 q:cw}{M s v:Nat}{N:aD (List bE)}{T:List Nat}{Wm VV:List aF}{z:au}{R:cg}{WT b:aF}{U:Φ}{VN:cG}
def NO:ro (.type "list_reverseiterator") "__len__" = pure X:=by rw[xE,yj];kernel_rfl
def Ld:ro (.type "list_reverseiterator") "__length_hint__" = pure (Z<|.builtin "list_reverseiterator.__length_hint__"):=by rw[xE,yj];kernel_rfl
section
variable{VX:bu}{C:bf}{O:bz}{m:aw}{VO:pI->aw->Prop}{B:au}{b_ i:List au}{VN:Array pE->Array pE->Prop}{v:Nat}{V0:Nat->ah->Prop}{a3:Nat->aw->Prop}
def Nz(W:WalksS VX C O.in1 B b_ i VN v V0 a3)(e:∀j m,a3 j m->m.TypeIs (.ref B) "list_reverseiterator")(V2:au)(h:ah)(o:Nat)(b:a3 0 m)(k:V2∉b_)(dG:B∈b_)(p:m.heap.get? V2=Z {cls:=.type "list",data:=.seq #[] o})(q:∀VY f c,Moved (V2::i) VN m VY->VY.heap.get? V2=Z {cls:=.type "list",dict:=X,data:=.seq f c,slots:=#[]}->rV V0 f v->VO (.ok<|.ret h) VY)(r:v<=sizeLine):
  wpAny (aT VX C) O.in1 (bo.List.listExtendWith (.ref V2) (.ref B) h)
   (λfin VY=>match fin with | .done z=>VO (.ok z) VY | .again c=>c.quiet=ab/\codeAny (aT VX C) O c VO VY) (λa VY=>VO (.error a) VY) m:=by
 have s:V2≠B:=λa=>k (a ▸ dG);have l:bo.List.listSameRef (.ref V2) (.ref B)=az:=by simp[bo.List.listSameRef,s]
 unfold bo.List.listExtendWith;refine aC (wpAny_typeOf (e 0 _ b) ?_);rw[if_neg (by rw[l];decide)];refine aC (W.self 0 _ _ _ b<|aC<|fI ?_);unfold bo.List.listLengthHint;refine aC (nJ (e 0 _ b) NO ?_);show wpAny _ O.in1 (specialOf (ah.ref B) (aF.ofString "__length_hint__") >>= _) _ _ _;refine aC (nJ (e 0 _ b) Ld ?_)
 (generalize g:("list_reverseiterator.__length_hint__" : String)=n;(fail_if_success (clear g n));wp_delta;rw[show splitId n=Z ("list_reverseiterator","__length_hint__") from by subst g;decide +kernel];subst g)
 refine aC (vT (b:=ab) (e 0 _ b) (by rw[isSubtype_type];kernel_rfl) ?_);refine a5 ?_;rw[if_neg ∅];exact a5 ⟨hK F.plain_extend_loop _,codeAny_extend_loopS W r _ k _ v 0 _ _ _ rfl (fW _) b p (rV.nil V0) λVY f c t u w=>q VY f c t u w⟩
end
def rd:List (au×ba)->Bool
 |[]=>ab
 | (_,n)::p=>(match n.data with
  |.seq _ _=>(match n.cls with | .type v=>v != "list" |_=>ab)
  |_=>ab)&&rd p
def LU{U:List (au×ba)}{h:au}{n:ba}{VZ:Array ah}(c:rd U=ab)(a:U.lookup h=Z n)(e:n.cls=.type "list")(hd:n.data=.seq VZ v):False:=by
 induction U with
 |nil=>cases a
 |cons q p f=>
  let⟨d,b⟩:=q;rw[rd,cI]at c;simp only[List.lookup]at a;split at a
  ·cases a;have l:=c.1;rw[hd]at l;dsimp only at l;rw[e]at l;exact absurd l ∅
  ·exact f c.2 a
theorem GW{g:aA}:∀V4:List Int,bC g (V4.map .int) (V4.map af.int)
 |[]=>rfl
 |v::p=>⟨.int v,_,rfl,rfl,GW p⟩
def QM(d:rd U=ab)(g:aA)(h:au)(V4:List Int)(e:rH g)(f:dv U g h (V4.map af.int))(b:∃I,VN [.da (V4.map .int)]=Z (.im<|.aJ ab,I)){VP:gK}:kT 1 VN [.ref h] g (λr Y=>r=.aJ ab) VP:=by
 let⟨@I,b⟩:=b;have i:∃n,g h=Z (.c6 n<|.lst<|V4.map af.int):=by
  rcases f with (c|c)|⟨n,VZ,v,l,t,m,j,_⟩
  ·rcases e h with a|⟨n,x,a⟩|⟨x,a⟩
   ·rw[a]at c;cases c
   ·rw[a]at c;cases c
   ·rw[a]at c;cases c
  ·exact c
  ·exact (LU d l t j).elim
 let⟨@n,k⟩:=i;refine⟨rfl,[.da (V4.map .int)],[],.im<|.aJ ab,I,⟨_,_,[],[],rfl,⟨h,_,n,rfl,k,GW V4,rfl⟩,⟨rfl,rfl⟩,rfl⟩,ht,b,λr F VO o c Y Y=>?_⟩;exact c.1
def kZ{Wc:List ah}(c:Wc.length=v+1):∃h p,Wc=h::p/\p.length=v:=by
 cases Wc with
 |nil=>cases c
 |cons h p=>exact⟨h,p,rfl,Nat.succ.inj c⟩
def gQ.LV{fd:hj}(L:gQ U b WT R z fd)(c:∀(cy w Ws:ah) (S:Option au) (k ct:ah) (h:ah),kz (Ψ b WT (h8 R) (gJ R) (dP R) .none cy w Ws S k ct) ⟨[h],[]⟩=pure (VV.zip [h]))(d:VV.length=1:=by rfl):jy U fd VV []:=
 L.binds λcy w Ws S k ct Wc a=>by
  replace a:=a.trans d;let⟨h,@e,rfl,l⟩:=kZ a;obtain rfl:=vv l;exact c cy w Ws S k ct h
def gQ.Kk{fd:hj}(L:gQ U b WT R z fd)(c:∀(cy w Ws:ah) (S:Option au) (k ct:ah) (h d:ah),kz (Ψ b WT (h8 R) (gJ R) (dP R) .none cy w Ws S k ct) ⟨[h,d],[]⟩=pure (VV.zip [h,d]))(e:VV.length=2:=by rfl):jy U fd VV []:=
 L.binds λcy w Ws S k ct Wc a=>by
  replace a:=a.trans e;let⟨h,@f,rfl,l⟩:=kZ a;let⟨d,@g,rfl,t⟩:=kZ l;obtain rfl:=vv t;exact c cy w Ws S k ct h d
def gQ.QI{fd:hj}(L:gQ U b WT R z fd)(c:∀(cy w Ws:ah) (S:Option au) (k ct:ah) (h d f:ah),kz (Ψ b WT (h8 R) (gJ R) (dP R) .none cy w Ws S k ct) ⟨[h,d,f],[]⟩=pure (VV.zip [h,d,f]))(e:VV.length=3:=by rfl):jy U fd VV []:=
 L.binds λcy w Ws S k ct Wc a=>by
  replace a:=a.trans e;let⟨h,@i,rfl,l⟩:=kZ a;let⟨d,@j,rfl,t⟩:=kZ l;let⟨f,@m,rfl,g⟩:=kZ t;obtain rfl:=vv g;exact c cy w Ws S k ct h d f
def gQ.LP{fd:hj}(L:gQ U b WT R z fd)(c:∀(cy w Ws:ah) (S:Option au) (k ct:ah) (h d f o:ah),kz (Ψ b WT (h8 R) (gJ R) (dP R) .none cy w Ws S k ct) ⟨[h,d,f,o],[]⟩=pure (VV.zip [h,d,f,o]))(e:VV.length=4:=by rfl):jy U fd VV []:=
 L.binds λcy w Ws S k ct Wc a=>by
  replace a:=a.trans e;let⟨h,@j,rfl,l⟩:=kZ a;let⟨d,@m,rfl,t⟩:=kZ l;let⟨f,@n,rfl,g⟩:=kZ t;let⟨o,@p,rfl,i⟩:=kZ g;obtain rfl:=vv i;exact c cy w Ws S k ct h d f o
structure d4 where
 P:bu
 w:bf
 K:Φ
 aL:aF->Option ah
 base:a4
def dy(U:Φ)(b:aF)(R:cg)(z:au):Prop:=(∃fd,gQ U b b R z fd/\Ξ U ec b=Z (Z<|.ref z))
def dB(U:Φ)(aL:aF->Option ah)(b:aF)(R:cg)(z:au)(VV:List aF):Prop:=(∃fd,gQ U b b R z fd/\jy U fd VV []/\aL b=Z (.ref z))
def kF(V0:bu)(C:bf)(U:Φ)(aL:aF->Option ah)(Wj:a4)(s:Nat)(b:aF)(R:cg)(z:au)(VV:List aF)(v:Nat)(VN:cG):Prop:=(∃fd,gQ U b b R z fd/\jy U fd VV []/\aL b=Z (.ref z)/\iP V0 C U aL Wj ir s z fd VV (kT v VN))
abbrev dW(f:d4):=kF f.P f.w f.K f.aL f.base
def EV{t:ah}{l S:Option au}{Xg:Array (Option ah)}{cy w Ws k ct:ah}(h:Ξ U ec b=Z (Z<|.ref z))(J:U.lookup z=Z ⟨t,l,.func<|Ψ b b (h8 R) (gJ R) (dP R) .none cy w Ws S k ct,Xg⟩)(f:Δ U k b=ab)(s:Θ U (.ref z)=ab):dy U b R z:=⟨_,Ue J f s,h⟩
section
variable{V0:bu}{C:bf}{U:Φ}{aL:aF->Option ah}{Wj c:a4}{s v:Nat}{b:aF}{R:cg}{z:au}{VV:List aF}{VN:cG}
def dy.dJ(p:dy U b R z)(e:U.In c)(d:c.Ns ec aL)(ag:∀(cy w Ws:ah) (S:Option au) (k ct h:ah),kz (Ψ b b (h8 R) (gJ R) (dP R) .none cy w Ws S k ct) ⟨[h],[]⟩=pure (VV.zip [h]):=by intros;rfl)(f:VV.length=1:=by rfl):dB U aL b R z VV:=
 have ⟨_,a,h⟩:=p
 ⟨_,a,a.LV ag f,oU e d h⟩
def dy.dr(p:dy U b R z)(e:U.In c)(f:c.Ns ec aL)(ag:∀(cy w Ws:ah) (S:Option au) (k ct h d:ah),kz (Ψ b b (h8 R) (gJ R) (dP R) .none cy w Ws S k ct) ⟨[h,d],[]⟩=pure (VV.zip [h,d]):=by intros;rfl)(g:VV.length=2:=by rfl):dB U aL b R z VV:=
 have ⟨_,a,h⟩:=p
 ⟨_,a,a.Kk ag g,oU e f h⟩
def dy.jN(p:dy U b R z)(e:U.In c)(g:c.Ns ec aL)(ag:∀(cy w Ws:ah) (S:Option au) (k ct h d f:ah),kz (Ψ b b (h8 R) (gJ R) (dP R) .none cy w Ws S k ct) ⟨[h,d,f],[]⟩=pure (VV.zip [h,d,f]):=by intros;rfl)(i:VV.length=3:=by rfl):dB U aL b R z VV:=
 have ⟨_,a,h⟩:=p
 ⟨_,a,a.QI ag i,oU e g h⟩
def dy.lz(p:dy U b R z)(e:U.In c)(g:c.Ns ec aL)(ag:∀(cy w Ws:ah) (S:Option au) (k ct h d f o:ah),kz (Ψ b b (h8 R) (gJ R) (dP R) .none cy w Ws S k ct) ⟨[h,d,f,o],[]⟩=pure (VV.zip [h,d,f,o]):=by intros;rfl)(i:VV.length=4:=by rfl):dB U aL b R z VV:=
 have ⟨_,a,h⟩:=p
 ⟨_,a,a.LP ag i,oU e g h⟩
def kF.fd{fd:hj}(aN:kF V0 C U aL Wj s b R z VV v VN)(d:gQ U b b R z fd):iP V0 C U aL Wj ir s z fd VV (kT v VN):=by
 let⟨@f,e,Y,Y,N⟩:=aN;let⟨t,l,cy,w,Ws,S,k,ct,@Xg,a,J,Y⟩:=d.ex;let⟨g,h,i,j,m,n,o,p,@q,r,c,Y⟩:=e.ex;rw[J]at c;cases c;exact N
def O3(p:dy U b R z)(e:U.In c)(g:c.Ns ec aL){a:au}(i:aL b=Z (.ref a)){q:aF}(ag:∀(cy w Ws:ah) (S:Option au) (k ct:ah) (m:aw) (r:ah),my m (Ψ b b (h8 R) (gJ R) (dP R) .none cy w Ws S k ct) ⟨[r],[]⟩ [(q,r)])(aN:∀Wj,kF V0 C U aL Wj s b R z [q] v VN):
  ∃fd:hj,(∀(m:aw) (r:ah),my m fd ⟨[r],[]⟩ [(q,r)])/\∀Wj:a4,U.In Wj->Wj.Ns ec aL->iP V0 C U aL Wj ir s a fd [q] (kT v VN):=by
 let⟨@fd,f,h⟩:=p;cases i.symm.trans (oU e g h);refine⟨fd,?_,λd Y Y=>(aN d).fd f⟩;let⟨t,l,cy,w,Ws,S,k,ct,@Xg,rfl,J,Y⟩:=f.ex;exact ag cy w Ws S k ct
def PW{N:bl}(L:dB U aL b R z VV)(V2:nk Wm VV (dP R))(c:VV.length=v)(e:∀j∈T,j<v)(ag:Wm.Nodup->∀(k:ah) (O:bz) (WH:List eN) (m:aw) (g:aA) (VP:gK),e2 s (O.deeper<|jl b (dP R) m.heap.objs.size z k)->ju (l4 ir V0 C U aL Wj Wm b (dP R) z k O WH m g VP).ow T (gJ R) N):
  kF V0 C U aL Wj (s+1) b R z VV v (dc v Wm.length T N):=
 have ⟨_,a,d,M⟩:=L
 ⟨_,a,d,M,UT a V2 c e<|ag V2.ae⟩
end
section
variable{e:aM}
def Bz(aN:kF e.prog e.w e.K e.aL e.base s b R z VV v VN)(c:e2 M e.A)(f:eU e b)(av:fG e (a::Q) N)(g:s<=M:=by decide)(h:(b==("__debug__" : aF))=az:=by decide)(i:bA (a::Q) e.env=(az,bM a e.env)::bA Q e.env:=by rfl)(j:(eF V3<|bA Q e.env).any (·.1)=az:=by rfl):
  b2 e (.Call (.Name b q) (a::Q) [] V3) (aZ v VN N):=
 have ⟨_,k,d,M,L⟩:=aN
 S3 L (c.mono g) f M k.dk d av h i j
def a0{j:Int}{A V3}:dO e (.Constant (.int j) A V3) (ai<|aG<|.int j):=aY fZ
def ax(j:Nat){b:aF}{V3:cw}(a:e.N[j]?=Z b:=by rfl)(c:qy e.env.scope b:=by first|exact Or.inl rfl|exact Or.inr (Or.inl rfl)|exact Or.inr (Or.inr rfl))(hd:(b==("__debug__" : aF))=az:=by decide)(d:(b==("__classdict__" : aF))=az:=by decide):dO e (.Name b V3) (aj j):=Qk (J5 a c hd d)
def bD{N:aD bE}(b:dO e a N)(c:bA [a] e.env=(az,bM a e.env)::bA [] e.env:=by rfl):fG e [a] (ao N ay):=mE b jb c
def il(a:e2 M e.A)(av:dO e h WV)(ag:dO e d WO)(b:qI d:=by exact λ_ Y=>rfl):b2 e (.Subscript h d V3) (ac bg WV WO):=Ml (UB (by have:=a.un;lia)) av ag b
def b6{z:a7}{N:aD bE}(b:dO e a N)(d:dO e z c)(f:bA [a,z] e.env=(az,bM a e.env)::bA [z] e.env:=by rfl)(t:bA [z] e.env=(az,bM z e.env)::bA [] e.env:=by rfl):fG e [a,z] (ao N<|ao c ay):=mE b (bD d t) f
def fU{z o:a7}{N s:aD bE}(b:dO e a N)(d:dO e z c)(hd:dO e o s)(f:bA [a,z,o] e.env=(az,bM a e.env)::bA [z,o] e.env:=by rfl)(l:bA [z,o] e.env=(az,bM z e.env)::bA [o] e.env:=by rfl)(t:bA [o] e.env=(az,bM o e.env)::bA [] e.env:=by rfl):fG e [a,z,o] (ao N<|ao c<|ao s ay):=mE b (b6 d hd l t) f
def cM(j:Nat){b:aF}{a:a7}{N:aD ak}{V3 W9:cw}(c:e.N.Nodup)(d:b2 e a N)(VW:e.N[j]?=Z b:=by rfl)(f:jc e.env.scope b:=by exact Or.inl rfl)(g:j∉T:=by decide)(h:oC a (Z<|.Name b W9) V3.line e.env=pure az:=by rfl)(i:e.fn b=ab\/e.env.scope.names.lookup b=Z .local:=by first|exact .inl rfl|exact .inr rfl|assumption):hp e T (.Assign [.Name b W9] a V3) (bI j N):=ma c VW f d g h i
def fk(j:Nat){b:aF}{V3:cw}(a:e.N.Nodup)(VW:e.N[j]?=Z b:=by rfl)(c:jc e.env.scope b:=by exact Or.inl rfl)(d:j∉T:=by decide)(f:e.fn b=ab\/e.env.scope.names.lookup b=Z .local:=by first|exact .inl rfl|exact .inr rfl|assumption):hr e T (.Name b V3) (a6 j):=oH a VW c d f
def tq:List aF->Bool
 |[]=>ab
 |b::J=>!J.contains b&&tq J
theorem Hb:∀{J:List aF},tq J=ab->J.Nodup
 |[],_=>ht
 |b::J,c=>by
  rw[tq,cI,uX]at c;refine dD.mpr ⟨λk=>?_,Hb c.2⟩;rw[List.contains_iff_mem.mpr k]at c;cases c.1
def fJ(j:Nat){b:aF}{V3:cw}(VW:e.N[j]?=Z b:=by rfl)(a:tq e.N=ab:=by kernel_rfl)(c:jc e.env.scope b:=by exact Or.inl rfl)(d:j∉T:=by decide)(f:e.fn b=ab\/e.env.scope.names.lookup b=Z .local:=by first|exact .inl rfl|exact .inr rfl|assumption):hr e T (.Name b V3) (a6 j):=oH (Hb a) VW c d f
def k7{Wl WR W8:a7}{Wa:gq}(own:List aF)(Wk:List Nat){S:iS}{i:fs}{Xf:aD ak}(VW:ky e Wl WR S)(c:∀a,hr (e.fV (f3 e own Wk) Wa a) (oO own.length Wk.length) Wl i)(d:∀a,b2 (e.fV (f3 e own Wk) Wa a) W8 Xf)(V2:vh e.env.scope e.N Wa Wk=ab:=by kernel_rfl)(f:e.calm=ab:=by rfl)(ae:Wk.Nodup:=by decide)(g:∀b,mZ WR e.env b=pure b:=by intro Y;rfl):b2 e (.ListComp W8 [⟨Wl,WR,[],0⟩] Wa V3) (cE own.length Wk S i ei Xf):=
 kC f (i8 _ _ V2 rfl rfl) ae VW c (λ_=>BL) d g
def tc{N c:fs}{a}(av:hr e T h N)(ag:hr e T d c)(b:e.calm=ab:=by rfl)(l:(fo [h,d] e.env).map (·.2)=ij h e.env::(fo [d] e.env).map (·.2):=by rfl)(t:(fo [d] e.env).map (·.2)=ij d e.env::(fo [] e.env).map (·.2):=by rfl)(f:(fo [h,d] e.env).length=2:=by rfl)(g:(fo [h,d] e.env).findIdx? (·.1)=X:=by rfl):hr e T (.Tuple [h,d] a V3) (i3 2<|eP N<|eP c h_):=B4 b (nT av (nT ag Au t) l) f g
def dI{id:String}{Wx:List ak->Option ak}(c:hc e (.builtin id) Wx)(d:e.aL b=X)(f:fw b=Z (.builtin id))(av:fG e (a::Q) N)(g:eU e b:=by rfl)(h:b ≠ "__name__" := by decide)(i:(b==("__debug__" : aF))=az:=by decide)(j:bA (a::Q) e.env=(az,bM a e.env)::bA Q e.env:=by rfl)(k:(eF V3<|bA Q e.env).any (·.1)=az:=by rfl):
  b2 e (.Call (.Name b q) (a::Q) [] V3) (bF Wx N):=Uz c g d f av h i j k
def cD(aN:kF e.prog e.w e.K e.aL e.base s b R z VV v VN)(c:e2 M e.A)(av:fG e (a::Q) N)(d:eU e b:=by rfl)(f:s<=M:=by decide)(g:(b==("__debug__" : aF))=az:=by decide)(h:bA (a::Q) e.env=(az,bM a e.env)::bA Q e.env:=by rfl)(i:(eF V3<|bA Q e.env).any (·.1)=az:=by rfl):
  b2 e (.Call (.Name b q) (a::Q) [] V3) (aZ v VN N):=Bz aN c d av f g h i
def c0(a:e2 M e.A)(av:dO e h WV)(ag:dO e d WO)(b:qI d:=by exact λ_ Y=>rfl):dO e (.Subscript h d V3) (ai<|ac bg WV WO):=aY (il a av ag b)
def cF{Wx:l2}{z:ak->ak->Option ak}(a:fx e (gk Wx) z)(av:dO e h WV)(ag:dO e d WO):dO e (.BinOp h Wx d V3) (ai<|ac z WV WO):=aY (hI a av ag)
def gF{a}(c:fG e Q N):dO e (.Tuple Q a V3) (ai<|cY N):=aY (hA c)
end
section
variable{V0:bu}{C:bf}{U:Φ}{aL:aF->Option ah}{Wj c:a4}{s v:Nat}{b:aF}{R:cg}{z:au}{VV:List aF}{VN:cG}
def Od{V0:List aF}{B:gq}(h:B.kind=.function:=by rfl)(d:B.isCoroutine=az:=by rfl)(f:B.isGenerator=az:=by rfl)(o:Wm.Nodup:=by decide +kernel)(a:Wm.take V0.length=V0:=by rfl)(z:∀b∈V0,B.names.lookup b=Z .local\/B.names.lookup b=Z .cell:=by decide +kernel)(N:∀i∈B.names,i.2≠.free:=by decide +kernel):nk Wm V0 B:=⟨h,d,f,o,a,z,N⟩
def ef{N:bl}(Wm:List aF)(L:dB U aL b R z VV)(ag:Wm.Nodup->∀(k:ah) (O:bz) (WH:List eN) (m:aw) (g:aA) (VP:gK),e2 s (O.deeper<|jl b (dP R) m.heap.objs.size z k)->ju (l4 ir V0 C U aL Wj Wm b (dP R) z k O WH m g VP).ow T (gJ R) N)(V2:nk Wm VV (dP R):=by exact Od)(a:VV.length=v:=by rfl)(c:∀j∈T,j<v:=by decide):kF V0 C U aL Wj (s+1) b R z VV v (dc v Wm.length T N):=PW L V2 a c ag
end
end L2
namespace L2
open Spec PyProof.Rows PySem.W
section
variable{e:aM}
variable{v s:Nat}{z:au}{R:cg}{VV:List aF}{b:aF}
def tw{M:Nat}{VN:cG}{q V3:cw}{a:a7}{Q:List a7}{N:aD (List bE)}(aN:kF e.prog e.w e.K e.aL e.base s b R z VV v VN)(c:e2 M e.A)(d:s<=M)(av:fG e (a::Q) N)(f:eU e b:=by rfl)(g:(b==("__debug__" : aF))=az:=by decide)(h:bA (a::Q) e.env=(az,bM a e.env)::bA Q e.env:=by rfl)(i:(eF V3<|bA Q e.env).any (·.1)=az:=by rfl):
  b2 e (.Call (.Name b q) (a::Q) [] V3) (aZ v VN N):=Bz aN c f av d g h i
def Ca{V0:bu}{C:bf}{U:Φ}{aL:aF->Option ah}{Wj:a4}(L:dB U aL b R z VV)(e:VV.length=v:=by rfl):kF V0 C U aL Wj s b R z VV v λ_=>X:=
 have ⟨_,f,d,M⟩:=L
 ⟨_,f,d,M,⟨λP g D VP c=>c.1.trans e.symm,λO WH m g args Wc P D VP h i ag j c=>absurd c.2 (by rintro⟨Y,Y,Y,Y,Y,Y,a,Y⟩;cases a)⟩⟩
end
section
variable{VX:bu}{C:bf}{O:bz}{m:aw}{VP:ah->aw->Prop}
variable{B:au}
def PF{VO:pI->aw->Prop}{b_ i:List au}{VN:Array pE->Array pE->Prop}{v:Nat}{V0:Nat->ah->Prop}{a3:Nat->aw->Prop}(W:WalksS VX C O.in1 B b_ i VN v V0 a3)(c:∀j m,a3 j m->m.TypeIs (.ref B) "list_reverseiterator")(V2:au)(a:Nat)(d:a3 0 m)(e:V2∉b_)(dG:B∈b_)(f:m.heap.get? V2=Z {cls:=.type "list",data:=.seq #[] a})(g:∀VY b h,Moved (V2::i) VN m VY->VY.heap.get? V2=Z {cls:=.type "list",dict:=X,data:=.seq b h,slots:=#[]}->rV V0 b v->VO (.ok<|.ret<|.ref V2) VY)(k:v<=sizeLine):codeAny (aT VX C) O (.builtin "list.__iadd__" ⟨[.ref V2,.ref B],[]⟩) VO m:=by
 refine iL F.entry_list_iadd ?_;rw[iO Co _];show wpAny _ O.in1 (bo.List.listExtendWith (.ref V2) (.ref B)<|.ref V2) _ _ _;exact Nz W c V2 _ a d e dG f g k
variable{J:au}{S:Array ah}
def Pg{D:List ah->aw->Prop}(o:O.handled=X)(p:J≠B)(i:m.heap.IsList J S)(k:m.heap.IsRevIter B J ((S.size:Int)-1))(q:S.size<=sizeLine)(s:∀(ar:a4) (Wy:Nat) (g:Array ah),(∀d n,d≠B->m.heap.get? d=Z n->ar.get? d=Z n)->m.heap.objs.size<=ar.objs.size->rV (λj r=>S[S.size-1-j]?=Z r) g S.size->D g.toList {m with heap:=ar,toks:=Wy}):
  wpAny (aT VX C) O (collect<|.ref B) D VP m:=by
 have x:B<m.heap.objs.size:=let ⟨n,a,_⟩:=k;b9 a
 have y:J<m.heap.objs.size:=let ⟨n,a,_⟩:=i;b9 a
 have t:m.heap.objs.size∉[B,J]:=λe=>by
  simp only[bR,nC,jL]at e;rcases e with c|c<;>lia
 unfold collect;refine aC (wpAny_runValue<|iL F.entry_proto_collect ?_);rw[iO F.plain_proto_collect _];show wpAny _ O.in1 (qR [] >>= λJ=>again<|.builtin "list.__iadd__" ⟨[J,.ref B],[]⟩) _ _ m;refine aC (hE<|a5 ⟨hK Co _,?_⟩);have dQ:∀f n,m.heap.get? f=Z n->(m.heap.push {cls:=.type "list",data:=.seq ([]:List ah).toArray}).get? f=Z n:=λf n a=>cu _ a;have u:(m.heap.push {cls:=.type "list",data:=.seq ([]:List ah).toArray}).get? m.heap.objs.size=Z {cls:=.type "list",data:=.seq ([]:List ah).toArray}:=dx _ rfl;refine PF (m:={m with heap:=m.heap.push {cls:=.type "list",data:=.seq ([]:List ah).toArray} }) (O:=O) (ka.listRev (prog:=VX) (w:=C) (A:=O.in1) o B J p S).toS (λj m b=>b.2.1.typeIs) m.heap.objs.size _ ⟨fW _,?_,i.at λn a=>dQ _ n a⟩ t (.head _) u (λVY g z e l v=>?_) q
 ·have:(S.size:Int)-1-((0:Nat):Int)=(S.size:Int)-1:=⋯
  rw[this];exact k.at λn a=>dQ _ n a
 ·show wpAny _ O (load m.heap.objs.size >>= _) _ _ VY;refine aC (wpAny_load l<|a5 ?_);rw[Moved.eq_with e];refine s VY.heap VY.toks g (λd n ag a=>e.heap d n (λh=>?_)<|dQ d n a) (rb<|b9 l) v;rcases bR.mp h with w|h
  ·exact dE (b9 a) w
  ·exact ag (cR.mp h)
def Vf{D:ah->aw->Prop}(i:O.handled=X)(k:J≠B)(l:m.heap.IsList J S)(f:m.heap.IsRevIter B J ((S.size:Int)-1))(g:S.size<=sizeLine)(o:∀(ar:a4) (Wy:Nat) (h:Array ah),(∀d n,d≠B->m.heap.get? d=Z n->ar.get? d=Z n)->m.heap.objs.size<=ar.objs.size->rV (λj r=>S[S.size-1-j]?=Z r) h S.size->D (.ref ar.objs.size) {m with heap:=ar.push {cls:=.type "tuple",data:=.seq h},toks:=Wy}):
  wpAny (aT VX C) O (call (.type "tuple") [.ref B]) D VP m:=by
 refine Dr (Q₁:=λa b=>b.TypeIs a "tuple" /\ D a b) z1 (F.typeCall_tuple_1 _) F.entry_object_init (codeAny_of_tree ?_) λa b c=>⟨c.1,F.args_object_init_2 a _,object_init_meets z1.init.lookup z1.made ∅ VX C O.in1 _ b ⟨c.1,rfl,c.2⟩⟩;show wpAny _ _ (do checkBuiltinCall "tuple.__new__" ⟨[.type "tuple",.ref B],[]⟩;again (.builtin "tuple.__new__" ⟨[.type "tuple",.ref B],[]⟩)) _ _ m;refine aC (rZ (F.newCall_tuple_1 _)<|a5 ⟨hK Fq _,iL F.entry_tuple_new ?_⟩);rw[iO Fq _];have u:=sub_tuple_self;have v:=init_tuple_lookup;have w:=madeHere_tuple;have p:m.TypeIs (.ref B) "list_reverseiterator" := f.typeIs
 wp_walk using wpAny_typeOf p,Pg (O:=O.in1.in1) i k l f g
 intro ar Wy e dk q aO;have s:e.size<=sizeLine:=by rw[aO.1];exact g
 show wpAny _ _ (bo.Tuple.tupleExact e.toList.toArray >>= λr=>ret r) _ _ _;unfold bo.Tuple.tupleExact;refine aC (hE (a5 ?_) (by show e.toList.toArray.size<=sizeLine;simpa using s));rw[xv];exact⟨⟨_,dx _ rfl,rfl⟩,o _ _ _ dk q aO⟩
end
section
variable{e:aM}
def QO(U:Φ)(WC:eT):bU:=(λy g D=>WC y g λP VT=>∃q V5,P=[.ref q]/\dv U VT q V5/\∀J,VT J=X->D (.ref J) (upd VT J<|.tup V5.reverse))
variable{h:a7}{q WU V3 i:cw}
def Ua{WC:eT}(w:e.calm=ab)(x:eU e "tuple")(z:e.aL "tuple" = X)(A:eU e "reversed")(C:e.aL "reversed" = X)(av:hl e [h] WC)(E:bA [h] e.env=[(az,bM h e.env)]:=by rfl):
  bj e (.Call (.Name "tuple" WU) [.Call (.Name "reversed" q) [h] [] V3] [] i) (QO e.K WC):=by
 intro G m y g D B c;refine tv (mM B x z (show fw "tuple" = Z (.type "tuple") by decide +kernel) (pX ?_ rfl rfl) ∅ ∅);refine qw ?_;refine Call_ (mM B A C (show fw "reversed" = Z (.type "reversed") by decide +kernel)<|pX (bK (av V3 G m y g _ B c) λWc b ⟨P,VT,d,F,H⟩=>?_) E rfl);let⟨J,V5,a,L,u⟩:=H;subst a;let⟨I,rfl,M⟩:=h3 F;cases M;let⟨VZ,WK,bQ,aR⟩:=d.list L;have p:=WK.length;have k:=bQ.isList;refine call_reversed_list k (uj ?_);have ne:J≠b.heap.objs.size:=let ⟨n,a,_⟩:=k;dE (b9 a)
 have s:∀f n,b.heap.get? f=Z n->(b.heap.push<|revObj J<|(VZ.toArray.size:Int)-1).get? f=Z n:=λf n a=>cu _ a;have le:b.heap.objs.size<=(b.heap.push<|revObj J<|(VZ.toArray.size:Int)-1).objs.size:=by show _<=(b.heap.objs.push _).size;rw[Array.size_push];lia
 refine Vf (S:=VZ.toArray) (d.ok.hd w) ne (k.at λn a=>s _ n a) ⟨_,dx _ rfl,rfl,rfl⟩ (by simp only[cK];lia) λar Wy o dk N aO=>?_;have O:bZ V5.reverse o.toList:=by
  refine u2 (show V5.reverse.length=o.toList.length from (by rw[wB];exact p.trans ⇑(aO.1.symm))) λj r I l t=>?_;have VW:j<V5.length:=by
   have:=(fM.mp l).1
   rwa [wB]at this
  rw[List.getElem?_reverse VW]at l;let⟨T,Q,R⟩:=WK.get l;have:=aO.2 j I ⇑t;simp only[cK,AX]at this;rw[<-p,Q]at this;cases this;exact R
 have v:=dN le N;exact⟨.ref _,_,d.laid (Wr:=Wy) (n:=.tup V5.reverse) (λf n a=>cu _<|dk f n (dE<|b9 a)<|s f n a) v ⟨by rw[wB];exact aR,o.toList,O,⟨_,dx _ rfl,rfl,0,by rw[xv]⟩⟩,rfl,u _<|d.aV.fresh v⟩
@[simp] def Dd(N:aD (List bE)):aD ak:=λw=>(N w).bind λq=>(gA q.2 q.1).bind λE=>match E with
 |[.lst b]=>Z (.im<|.tup b.reverse,q.2)
 |_=>X
def S1{N:aD (List bE)}(f:eU e "tuple")(j:e.aL "tuple" = X)(k:eU e "reversed")(m:e.aL "reversed" = X)(av:fG e [h] N)(o:bA [h] e.env=[(az,bM h e.env)]:=by rfl)(s:e.calm=ab:=by rfl):
  b2 e (.Call (.Name "tuple" WU) [.Call (.Name "reversed" q) [h] [] V3] [] i) (Dd N):=by
 refine d_ (Ua s f j k m av o) λy g D v=>?_;let⟨w,L,p,Wb,R,ae,z,u⟩:=v;let⟨⟨V6,VQ⟩,l,t⟩:=bq.mp z;let⟨E,A,c⟩:=bq.mp t;refine⟨w,L,V6,VQ,R,ae,l,λP VT V9 F d Wd B=>?_⟩;have C:=Wd.read d A;split at c
 ·cases c;let⟨r,rfl,⟨Y,q,x,rfl,Wo,Wq,Y⟩⟩:=fF C;refine⟨q,x,rfl,dv.of Wo,λJ aX=>?_⟩;have b:cX VT (upd VT J<|.tup x.reverse):=(cX.refl VT).upd aX;exact u _ _ V9 [] (d.mono b.tupS λh Y n a=>b h n a) ⟨⟨J,_,rfl,eu,(Wq.mono b.tupS.tup).rev⟩,rfl⟩ (B.new b ht (λh av=>nomatch av) d.chg)
 ·cases c
end
end L2
namespace G
open L2
def JM:bl:=((c1<|cY<|ao (ai<|bF mH<|ao (aj 0)<|ao (aj 1) ay)<|ao (ai<|bF mG<|ao (aj 0)<|ao (aj 1) ay) ay))
def uI:cG:=(dc 2 2 [0,1] JM)
def pC:bl:=((bI 2<|ac eJ (ai<|ac dd (ai<|ac dd (ai<|ac iW (aj 2)<|ai<|aG<|.int 69621)<|ai<|ac eJ (aj 3)<|ai<|aG<|.int 2147483587)<|ai<|aG<|.int 13)<|ai<|aG<|.int 2305843009213693951))
def Jp:bl:=((bc (bI 2<|ac dd (ai<|aG<|.int 7)<|ai<|ac iW (ai<|aG<|.int 7919)<|aj 1)<|bc (eE (bY<|ai<|ff (aj 0) gu<|fv<|aG<|.int 63) (a6 3) G.pC)<|bc (bI 3<|x5 (bO<|ac lK (ai<|bF cH<|ao (aj 0) ay)<|ai<|aG<|.int 0) (ac bg (aj 0)<|ai<|ac eJ (aj 1)<|ai<|bF cH<|ao (aj 0) ay)<|aG<|.int 0)<|bc (bI 4<|ac iW (ai<|ac iW (ai<|ac qO (ai<|aG<|.int 10)<|ai<|aG<|.int 60)<|ai<|ac qO (ai<|aG<|.int 10)<|ai<|aG<|.int 60)<|ai<|ac qO (ai<|aG<|.int 10)<|ai<|aG<|.int 60)<|c1<|e0<|ao (ai<|ac iW (ai<|ac eJ (aj 3)<|aj 4)<|ai<|bF vInt<|ao (ai<|ac I3 (aj 3)<|ai<|ac qO (ai<|aG<|.int 10)<|ai<|aG<|.int 18) ay)<|ao (aj 2)<|ao (ai<|aG<|.int 0) ay))
def sa:cG:=(dc 2 5 [0,1] Jp)
def v8:bl:=((bc (ep (bO<|ac lK (ai<|ac bg (aj 0)<|ai<|aG<|.int 0)<|ai<|aG<|.int 0) (bc (bI 2<|ac eJ (ai<|ac bg (aj 0)<|ai<|aG<|.int 0)<|aj 1)<|bc (gs (ac mX (ai<|ac bg (aj 0)<|ai<|aG<|.int 0)<|aj 1)<|hF 0 (aG<|.int 0) pz)<|c1<|c8 2) fY)<|bc (gs (ac dd (ai<|ac bg (aj 0)<|ai<|aG<|.int 2)<|ai<|aG<|.int 1)<|hF 0 (aG<|.int 2) pz)<|bc (bI 3<|ac eJ (ai<|ac iW (ai<|ac dd (ai<|ac bg (aj 0)<|ai<|aG<|.int 1)<|ai<|ac iW (ai<|ac bg (aj 0)<|ai<|aG<|.int 2)<|ai<|aG<|.int 104729)<|ai<|aG<|.int 48271)<|ai<|aG<|.int 2305843009213693951)<|bc (gs (ac eJ (ai<|ac iW (aj 3)<|ai<|ac dd (ai<|ac eJ (aj 3)<|ai<|aG<|.int 1009)<|ai<|aG<|.int 69621)<|ai<|aG<|.int 2305843009213693951)<|hF 0 (aG<|.int 1) pz)<|c1<|ac eJ (ai<|ac mX (ai<|ac bg (aj 0)<|ai<|aG<|.int 1)<|ai<|aG<|.int 1000003)<|aj 1))
def e3:cG:=(dc 2 4 [0,1] v8)
def By:bl:=((c1<|e0<|ao (ai<|cY<|ao (ai<|ac mS (ai<|ac bg (aj 0)<|ai<|aG<|.int 0)<|ai<|aG<|.int 1)<|ao (ai<|ac bg (aj 0)<|ai<|aG<|.int 1) ay)<|ao (ai<|cY<|ao (ai<|ac bg (aj 0)<|ai<|aG<|.int 0)<|ao (ai<|ac mS (ai<|ac bg (aj 0)<|ai<|aG<|.int 1)<|ai<|aG<|.int 1) ay)<|ao (ai<|cY<|ao (ai<|ac bg (aj 0)<|ai<|aG<|.int 0)<|ao (ai<|ac dd (ai<|ac bg (aj 0)<|ai<|aG<|.int 1)<|ai<|aG<|.int 1) ay)<|ao (ai<|cY<|ao (ai<|ac dd (ai<|ac bg (aj 0)<|ai<|aG<|.int 0)<|ai<|aG<|.int 1)<|ao (ai<|ac bg (aj 0)<|ai<|aG<|.int 1) ay) ay))
def hT:cG:=(dc 1 1 [0] By)
def t4:aD ak:=((cY<|ao (aj 0)<|ao (ai<|aG<|.aJ ab) ay))
def nA:bl:=((ep (g6 (bO<|ac h4 (aj 5)<|aj 2)<|bO<|ac hx (aj 5)<|aj 3) (bc (gs (aG<|.aJ ab)<|hF 3 (c8 5) hM)<|gN<|fH f9 4 fm<|ao (aj 5) ay) fY))
def yp:aD Bool:=((bO<|ac eZ (aj 4)<|ai<|e0 ay))
def v5:bl:=((eE (bY<|ai<|aZ 1 G.hT<|ao (ai<|fH f9 4 lQ ay) ay) (a6 5) G.nA))
def Fj:bl:=((bc (bI 2<|bF ic<|ao (ai<|cE 1 [] (bY<|aj 0) (a6 0) ei G.t4) ay)<|bc (bI 3<|uQ (c8 1)<|aG<|.aJ ab)<|bc (bI 4<|e0<|ao (aj 1) ay)<|bc (je G.yp G.v5 1000000)<|c1<|bF jR<|ao (ai<|bF jQ<|ao (aj 3) ay) ay))
def qK:cG:=(dc 2 6 [0,1] Fj)
def ue:bl:=((bc (bI 4<|ac bg (ai<|aZ 1 G.hT<|ao (ai<|ac bg (aj 2)<|ai<|aZ 2 G.e3<|ao (aj 0)<|ao (ai<|bF cH<|ao (aj 2) ay) ay) ay)<|ai<|aZ 2 G.e3<|ao (aj 0)<|ao (ai<|aG<|.int 4) ay)<|ep (g6 (bO<|ac hx (aj 4)<|aj 2)<|g6 (bO<|m7 hQ hQ (ai<|aG<|.int 0) (ai<|ac bg (aj 4)<|ai<|aG<|.int 0)<|ai<|aG<|.int 24)<|bO<|m7 hQ hQ (ai<|aG<|.int 0) (ai<|ac bg (aj 4)<|ai<|aG<|.int 1)<|ai<|aG<|.int 24) (gN<|fH f9 2 fm<|ao (aj 4) ay) fY))
def C8:bl:=((bc (bI 2<|e0<|ao (ai<|cY<|ao (ai<|aG<|.int 12)<|ao (ai<|aG<|.int 12) ay) ay)<|bc (eE (hu<|ao (ai<|aZ 2 G.e3<|ao (aj 0)<|ao (aj 1) ay) ay) (a6 3) G.ue)<|c1<|c8 2))
def pG:cG:=(dc 2 5 [0,1] C8)
def yh:aD ak:=((cY<|ao (ai<|ac mX (aj 0)<|aj 1)<|ao (ai<|ac eJ (aj 0)<|aj 1) ay))
def pk:bl:=((gN<|fH f9 5 qV<|ao (ai<|aZ 2 G.e3<|ao (aj 0)<|ao (ai<|bF cH<|ao (aj 5) ay) ay) ay))
def yN:aD ak:=((c8 0))
def sY:aD Bool:=((bO<|ac ey (ai<|ac iW (ai<|ac eJ (ai<|ac bg (aj 0)<|ai<|aG<|.int 0)<|ai<|aG<|.int 2)<|ai<|ac eJ (ai<|ac eJ (ai<|ac bg (aj 0)<|ai<|aG<|.int 1)<|ai<|aG<|.int 3)<|ai<|aG<|.int 2)<|ai<|aG<|.int 0))
def nr:aD ak:=((ac bg (ai<|e0<|ao (ai<|aG<|.int 0)<|ao (ai<|aG<|.int 0)<|ao (ai<|aG<|.int 6)<|ao (ai<|aG<|.int 3) ay)<|ai<|aZ 2 G.e3<|ao (aj 1)<|ao (ai<|aG<|.int 4) ay))
def u6:aD ak:=((cY<|ao (ai<|ac dd (ai<|ac bg (aj 0)<|ai<|aG<|.int 0)<|aj 1)<|ao (ai<|ac dd (ai<|ac bg (aj 0)<|ai<|aG<|.int 1)<|aj 2) ay))
def Jq:bl:=((bc (bI 2<|aZ 2 G.e3<|ao (aj 0)<|ao (ai<|aG<|.int 6) ay)<|bc (bI 3<|ac dd (ai<|aG<|.int 1)<|ai<|aZ 2 G.e3<|ao (aj 0)<|ao (ai<|aG<|.int 7) ay)<|bc (bI 4<|ac dd (ai<|aG<|.int 1)<|ai<|aZ 2 G.e3<|ao (aj 0)<|ao (ai<|bF mG<|ao (ai<|aG<|.int 1)<|ao (ai<|bF mH<|ao (ai<|aG<|.int 7)<|ao (ai<|ac mX (aj 1)<|aj 3) ay) ay) ay)<|bc (bI 5<|cE 1 [3] (hu<|ao (ai<|ac iW (aj 4)<|aj 3) ay) (a6 0) ei G.yh)<|bc (ep (i2 (bO<|ac ey (aj 2)<|ai<|aG<|.int 1)<|bO<|ac ey (aj 2)<|ai<|aG<|.int 2) (eE (hu<|ao (ai<|aZ 2 G.e3<|ao (aj 0)<|ao (ai<|ac dd (ai<|aG<|.int 1)<|ai<|ac mX (ai<|bF cH<|ao (aj 5) ay)<|ai<|aG<|.int 2) ay) ay) (a6 6) G.pk)<|ep (bO<|ac ey (aj 2)<|ai<|aG<|.int 3) (bI 5<|cE 1 [] (bY<|aj 5) (a6 0) G.sY G.yN)<|ep (bO<|ac lK (aj 2)<|ai<|aG<|.int 3) (bI 5<|aZ 2 G.pG<|ao (aj 0)<|ao (aj 1) ay) fY)<|bc (bI 7<|aZ 2 G.qK<|ao (aj 5)<|ao (ai<|ac bg (aj 5)<|ai<|aZ 2 G.e3<|ao (aj 0)<|ao (ai<|bF cH<|ao (aj 5) ay) ay) ay)<|bc (gs (cE 1 [0] (hu<|ao (ai<|aG<|.int 2) ay) (a6 0) ei G.nr)<|vn 2<|eP (a6 8)<|eP (a6 9) h_)<|c1<|bF jR<|ao (ai<|cE 1 [8,9] (bY<|aj 7) (a6 0) ei G.u6) ay))
def pR:cG:=(dc 2 10 [0,1] Jq)
def Ay:bl:=((bc (bI 4<|cY<|ao (ai<|bF mH<|ao (aj 2)<|ao (aj 3) ay)<|ao (ai<|bF mG<|ao (aj 2)<|ao (aj 3) ay) ay)<|gs (ac dd (ai<|vz 1 (c8 4)<|aG<|.int 0)<|ai<|aG<|.int 1)<|hF 1 (c8 4) hM))
def EE:bl:=((bc (bI 1 mW)<|bc (eE (lF<|ao (aj 0)<|ao (ai<|ff (aj 0) (fv<|aG<|.int 1) gu) ay) (i3 2<|eP (a6 2)<|eP (a6 3) h_) G.Ay)<|c1<|c8 1))
def nu:cG:=(dc 1 5 [0] EE)
def rL:bl:=((gs (aG<|.aJ ab)<|hF 1 (c8 2) hM))
def HS:bl:=((bc (bI 1 mW)<|bc (eE (bY<|aj 0) (a6 2) G.rL)<|c1<|c8 1))
def mw:cG:=(dc 1 3 [0] HS)
def Mn:bl:=((bc (bI 1<|ac bg (aj 0)<|ai<|aG<|.int 0)<|bc (bI 2<|ac bg (aj 0)<|ai<|aG<|.int 1)<|c1<|e0<|ao (ai<|cY<|ao (ai<|ac mS (aj 1)<|ai<|aG<|.int 1)<|ao (aj 2) ay)<|ao (ai<|cY<|ao (aj 1)<|ao (ai<|ac mS (aj 2)<|ai<|aG<|.int 1) ay)<|ao (ai<|cY<|ao (aj 1)<|ao (ai<|ac dd (aj 2)<|ai<|aG<|.int 1) ay)<|ao (ai<|cY<|ao (ai<|ac dd (aj 1)<|ai<|aG<|.int 1)<|ao (aj 2) ay) ay))
def kc:cG:=(dc 1 3 [0] Mn)
def N9:aD ak:=((kb<|g6 (bO<|r2 "int"<|aj 0)<|bO<|kb<|ko<|bO<|r2 "bool"<|aj 0))
def tg:bl:=((bc (ep (i2 (ko<|kK<|ai<|r2 "tuple"<|aj 2)<|i2 (bO<|ac eZ (ai<|bF cH<|ao (aj 2) ay)<|ai<|aG<|.int 2)<|bO<|ac hx (aj 2)<|aj 0) (c1<|aG<|.aJ az) fY)<|ep (ko<|kK<|ai<|bF q8<|ao (ai<|cE 1 [] (bY<|aj 2) (a6 0) ei G.N9) ay) (c1<|aG<|.aJ az) fY))
def Fw:aD ak:=((ac h4 (aj 1)<|ai<|aZ 1 G.hT<|ao (aj 0) ay))
def IT:bl:=((bc (ep (i2 (ko<|kK<|ai<|r2 "tuple"<|aj 1)<|bO<|ac ey (ai<|bF cH<|ao (aj 1) ay)<|ai<|aG<|.int 0) (c1<|aG<|.aJ az) fY)<|bc (eE (bY<|aj 1) (a6 2) G.tg)<|c1<|bF q8<|ao (ai<|cE 2 [] (lF<|ao (aj 1)<|ao (ai<|ff (aj 1) (fv<|aG<|.int 1) gu) ay) (i3 2<|eP (a6 0)<|eP (a6 1) h_) ei G.Fw) ay))
def qs:cG:=(dc 2 3 [0,1] IT)
end G
namespace L2
open Spec PySem.Calls PyProof.Rows
def Qx{VX:bu}{C:bf}(o:au)(hd:(o==iG)=az)(n:ba)(Q:Array xe)(WI:Nat)(a:n.data=.dict Q WI):
  MeetsIn VX C (bo.«dict.__len__» ⟨[.ref o],[]⟩) (λ_ VO m=>m.heap.get? o=Z n/\VO (.ok<|.ret<|.int Q.size m.toks) {m with toks:=m.toks+1}):=
 .of_wp λO VO m ⟨b,c⟩=>by
  show wpAny _ _ (dictSize o >>= _) _ _ m;unfold dictSize;refine aC (aC<|tu b a<|a5 ?_);show wpAny _ _ (bo.Dict.pendingCount o >>= _) _ _ m;refine aC (wpAny_pendingCount_other hd ?_);refine EJ ?_;rw[vx];exact c
section
variable{e:aM}
def Vi:ez e (.builtin "len") (λx g D=>∃h VR,x=[af.ref h]/\gS g h (.aB VR)/\D (.int VR.length) g):=by
 intro G m y g x Wc D B p c;let⟨h,VR,rfl,av,u⟩:=c;let⟨I,rfl,d⟩:=h3 p;cases d;let⟨k,hd,x,f,n,Q,WI,l,t,i,j,Y⟩:=lZ B.aV av;have a:m.TypeIs (.ref h) "dict" := ⟨n,l,t.1⟩;have b:Q.size=VR.length:=by
  have o:Q.toList.length=x.length:=by rw[j,br]
  have q:=dV.length f;rw[ha]at o;lia
 have r:(Q.size:Int)<2^63:=by rw[b];rw[uR]at k;lia
 refine Ao kind_len plain_len entry_len (args_len1 _) ?_;unfold bo.«len»;refine aC (m:=oneArg "len" _) (a5 ?_);refine aC (m:=callSpecial? (.ref h) (aF.ofString "__len__")) (ll (name:=aF.ofString "__len__") a G5
  (rU G5 a F.entry_dict_len (F.args_dict_len_1 _) (Qx h hd n Q WI i) ⟨l,?_⟩));show wpAny _ _ _ _ _ {m with toks:=m.toks+1};refine aC (fI<|a5 ?_);refine aC (jH ?_);show wpAny _ _ (if ((Q.size:Nat):Int)<0 then _ else _) _ _ _;rw[if_neg (by omega)];show wpAny _ _ (if ((Q.size:Nat):Int) >= 2^63 then _ else _) _ _ _;rw[if_neg (by omega)];refine aC (wpAny_mkInt (a5 ⟨_,rfl,.int VR.length,g,B.tok _,⟨_,by rw[b]⟩,u⟩))
@[simp] def rr:hR:=λE=>match E with
 |[.aB b]=>Z (.im<|.int b.length)
 |[.di b]=>Z (.im<|.int b.length)
 |_=>X
def RI:hc e (.builtin "len") rr:=by
 refine Vi.imp λx g D ⟨E,o,b,a,u⟩=>?_;unfold rr at a;split at a
 ·cases a;let⟨r,rfl,Y,q,WB,rfl,l,t,Y⟩:=fF b;exact⟨q,WB,rfl,.inl l,by rw[<-t.length];exact cc.i u rfl⟩
 ·cases a;let⟨r,rfl,Y,q,WB,n,rfl,l,t,Y⟩:=fF b;exact⟨q,WB,rfl,.inr ⟨n,l⟩,by rw[<-t.length];exact cc.i u rfl⟩
 ·cases a
end
end L2
namespace L2
open Spec PyProof.Rows
section
open PySem.SeqAt
open PySem.AutoSeq1 (wpAny_loadPart')
open PySem.MeetsSeq PySem.MeetsSeq2 PySem.MeetsSeq3
end
end L2
namespace c5
def jg{V7:Type}:List V7->List V7
 |[]=>[]
 |[h]=>[h]
 |h::_::p=>h::jg p
open Spec PyProof.Rows
end c5
namespace L2
open Spec PyProof.Rows
end L2
namespace G
open L2
end G
namespace L2
open Spec PyProof.Rows PySem.W
section
variable{e:aM}
def dG(j:Int):Int:=(hashInt j)
def G7(f:Int×Int):Int:=(yO (bo.Tuple.tupleHashOf [dG f.1,dG f.2]))
def pZ(f:Int×Int):List aa:=([.int f.1,.int f.2])
end
end L2
namespace L2
open Spec PyProof.Rows
end L2
namespace G
open L2
end G
namespace L2
open Spec PyProof.Rows
end L2
namespace L2
end L2
namespace L2
open Spec PyProof.Rows
variable{n Wl:a7}
def xB(h:au)(WA:ba)(VR:List (List aa×af)):e6:=(
 ⟨λj g=>g h=Z (.c6 WA<|.aB VR)/\j<VR.length,
  λj g r F=>F=g/\∃d q,r=.ref d/\VR[j]?=Z q/\hs g q.1 d,
  λj g=>g h=Z (.c6 WA<|.aB VR)/\VR.length<=j⟩)
theorem Sx{V0:bu}{C:bf}{U:Φ}(h aO:au)(WA:ba)(VR:List (List aa×af))(F:Array xe)(WI:Nat)(z:WA.data=.dict F WI):
  oT V0 C U Wl (xB h WA VR) [aO] aO (λj c=>c.IsKeyIter aO h j VR.length WI) where
 mem:=by simp
 obj:=λj c R f A=>by
  cases cR.mp A;let⟨@n,a,f,o⟩:=R;exact⟨n,a,λr k=>by rw[o]at k;cases k⟩
 keep:=λj c ar R s=>let ⟨n,a,p⟩:=R;⟨n,s aO ↥0 n a,p⟩
 item:=by
  intro e H I J A j G m y g VP B E R L;subst H I J;let@⟨av,VW⟩:=L;let@⟨i,k,hd,⟨@x,rel,⟨Wu,ap,@as,l,M,t,N,a1⟩⟩⟩:=(show m.heap.get? h=Z WA/\ee e.prog e.w g m.heap h (.aB VR) from B.aV h _ av);rw[i]at l;cases l;rw[z]at t;cases t;let@⟨WL,P,a2,Q,S,T⟩:=E aO ↥0;have al:=dV.length rel;have Xc:F.toList.map (·.key)=x.map λb=>ah.ref b.2.1:=by rw[N,es];rfl
  have am:hG m.heap h (x.map λb=>ah.ref b.2.1) WI:=⟨_,_,i,M,z,Xc⟩;let⟨q,@u,bd,WU,bs,be,bv⟩:=yF rel j VW;have v:(x.map λb=>ah.ref b.2.1).length=VR.length:=by rw[br,al]
  refine F8 (by rw[v];exact R) am (r:=.ref u.2.1) (by rw[gC,WU];rfl) λar an bi=>?_;have bm:aI e G y g {m with heap:=ar}:=B.turned (Wr:=m.toks) (λd n ag a=>bi.extBut d n ag a) WL P Q S T;rw[v]at an;let⟨@n,a,f,o⟩:=id an;exact⟨_,rfl,vG (m:={m with heap:=ar}) a f o ∅ ⟨.ref u.2.1,g,bm,rfl,⟨rfl,_,q,rfl,bd,be⟩,an,λd ag=>(E d ag).1⟩⟩
 done:=by
  intro e H I J A j G m y g VP B E R L;subst H I J;let@⟨av,VW⟩:=L;let@⟨i,k,hd,⟨@x,rel,⟨Wu,ap,@as,l,M,t,N,a1⟩⟩⟩:=(show m.heap.get? h=Z WA/\ee e.prog e.w g m.heap h (.aB VR) from B.aV h _ av);rw[i]at l;cases l;rw[z]at t;cases t;let@⟨WL,P,a2,Q,S,T⟩:=E aO ↥0;have al:=dV.length rel;have Xc:F.toList.map (·.key)=x.map λb=>ah.ref b.2.1:=by rw[N,es];rfl
  have am:hG m.heap h (x.map λb=>ah.ref b.2.1) WI:=⟨_,_,i,M,z,Xc⟩;have v:(x.map λb=>ah.ref b.2.1).length=VR.length:=by rw[br,al]
  exact EH (B.ok.hd A) (by rw[v];exact R) am (by rw[v];exact VW) λar bn=>⟨rfl,B.turned (Wr:=m.toks) (λd n ag a=>bn d n ag a) WL P Q S T⟩
 self:=λO j m D VP R c=>Jj R c
section
variable{e:aM}
theorem Sl{g:aA}{h:au}{WA:ba}{VR:List (List aa×aa)}{WB:List (List aa×af)}(c:g h=Z (.c6 WA<|.aB WB))(hd:d9 g VR WB):lr (xB h WA WB) g [] (VR.map λi=>.tup i.1) where
 go:=λF H s j o a=>by
  rw[gC]at a;let⟨@⟨v,w⟩,b,rfl⟩:=ck.mp a;have VW:j<VR.length:=(fM.mp b).1;have l:j<WB.length:=by rw[<-hd.length];exact VW
  refine⟨⟨H.c6 _ _ _ c,l⟩,λk x ⟨m,d,q,n,p,r⟩=>?_⟩;subst n m;let⟨c_,@u,e,f,t,y⟩:=yF hd j VW;rw[b]at e;cases e;rw[p]at f;cases f;cases t;exact⟨cX.refl _,r.2⟩
 stop:=λF H s=>⟨H.c6 _ _ _ c,by rw[br,hd.length];exact bB _⟩
end
def Ng:ak->ak
 |.aB VR=>.di VR
 |o=>o
@[simp] def qz(N:aD ak):aD ak:=λw=>(N w).map λq=>(Ng q.1,q.2)
section
variable{e:aM}
def JL{a:a7}{N:aD ak}(c:b2 e a N):b2 e a (qz N):=by
 intro G m y g D B b;let⟨w,L,p,Wb,R,ae,E,u⟩:=b;let⟨⟨i,VQ⟩,l,t⟩:=ck.mp E;cases t;refine bK (@c G m y g (λr VT=>∃V9 VO,bp VT VQ y V9/\b7 VT i r VO/\bb g L VT (V9++VO)) B ⟨w,L,i,VQ,R,ae,l,λr VT V9 VO h d f=>⟨V9,VO,h,d,f⟩⟩) λI s b=>?_;let⟨r,VT,j,v,⟨V9,VO,z,A,C⟩⟩:=b;cases i with
 |aB VR=>
  let⟨h,WB,rfl,Wo,Wq,F⟩:=A;cases v;let⟨k,VS,x,J,n,Q,WI,q,M,O,P,S⟩:=j.aV h _ Wo;have gb:=JA (WA:=n) Wo (λ_ a=>by cases a) (λ_ Y a=>by cases a);refine NA (WA:=n) (o:=.di VR) z C Wo (λ_ a=>by cases a) (λ_ Y a=>by cases a) F (j.write (ar:=s.heap) (Wr:=s.toks) (a:=h) (by rw[Wo];trivial) (.inl rfl) (λd I Y a=>a) ⟨_,q⟩ ⟨q,k,VS,x,fN.keeps J λd V5 a=>gb.tup.t d V5 a,n,Q,WI,q,M,O,P,S⟩) (λgb=>⟨h,WB,_,rfl,eu,Wq.mono gb.tup,rfl⟩) u
 |_=>exact⟨r,VT,j,v,u r VT V9 VO z A C⟩
def Ku(J:bU):c7:=(λy g VO=>J y g λb VT=>∃h WA VR,b=.ref h/\VT h=Z (.c6 WA<|.aB VR)/\VO (xB h WA VR) VT)
def Vb{J:bU}(r:bj e n J):kf e Wl n (Ku J):=by
 intro G m y g VO B c;refine bK (r G m y g _ B c) λI i s=>?_;let⟨b,VT,j,t,⟨h,WA,VR,WD,av,u⟩⟩:=s;subst WD;obtain rfl:I=ah.ref h:=t;let⟨l,k,hd,x,v,Wu,o,WI,p,z,q,A,L⟩:=(show i.heap.get? h=Z WA/\ee e.prog e.w VT i.heap h (.aB VR) from j.aV h _ av);rw[l]at p;cases p;have D:=dV.length v;have Xc:o.toList.map (·.key)=x.map λb=>ah.ref b.2.1:=by rw[A,es];rfl
 have E:(x.map λb=>ah.ref b.2.1).length=VR.length:=by rw[br,D]
 have F:hG i.heap h (x.map λb=>ah.ref b.2.1) WI:=⟨_,_,l,z,q,Xc⟩;refine Er hd F ?_;rw[E];refine⟨_,_,_,_,_,rfl,j.kept (Wr:=i.toks)<|λd n a=>cu _ a,Sx h _ WA VR o WI q,⟨_,dx _ rfl,rfl,rfl⟩,λf H=>?_,u⟩;cases cR.mp H;exact j.r7 (bB _) (j.aV.fresh<|bB _)
@[simp] def uS(N:aD bE):iS:=λw=>(N w).bind λq=>match eC q.2 q.1 with
 |some (.di VR)=>Z ((VR.map λa=>.tup a.1,X),q.2)
 |_=>X
def QP{N:aD bE}(c:dO e n N):ky e Wl n (uS N):=by
 refine qj (Vb c) λy g m f=>?_;let⟨w,L,p,Wb,R,ae,i,u⟩:=f;let⟨⟨b,VQ⟩,l,t⟩:=bq.mp i;refine⟨w,L,b,VQ,R,ae,l,λr VT V9 VO a Wd j=>?_⟩;dsimp only at t;split at t
 ·rename_i VR k;cases t;let⟨Y,h,WB,WA,rfl,Wo,Wq,Y⟩:=Wd.read a k;exact⟨h,WA,WB,rfl,Wo,u _ _ V9 [] a (Sl Wo Wq) trivial (λd ag=>nomatch ag) (j.less (aN:=VO) (by rw[b4]))⟩
 ·cases t
end
end L2
namespace L2
open Spec PyProof.Rows PySem.W SeqAt
variable{WM W0 V3:cw}{n a:a7}{id:String}{name:aF}{W_:aU->Option aa}{j A:Nat}{g:aA}{s:List aa}{p:List (List aa×List aa)}{q:List aa×List aa}
def ks(VR:List (List aa×List aa))(s:List aa):Option (List aa):=((VR.find? λq=>decide (q.1=s)).map (·.2))
def jz(VR:List (List aa×List aa))(s:List aa)(J:List aa):List (List aa×List aa):=(VR.map λq=>if q.1=s then (q.1,J) else q)
def Dc(a:q.1=s):ks (q::p) s=Z q.2:=by simp[ks,gH,a]
def Ie(a:¬ q.1=s):ks (q::p) s=ks p s:=by simp[ks,gH,a]
theorem gD.keys:∀{J:List (List aa×List aa)}{WG:List (List aa×af)}{VN:List au},gD g J WG VN->WG.map (·.1)=J.map (·.1)
 |[],_,_,c=>by rw[c.1];rfl
 |q::p,_,_,c=>by
  let⟨d,x,C,b,rfl,l,t,a,rfl⟩:=c;rw[bH,bH,a.keys]
theorem gD.at_{E:List aa}:∀{J:List (List aa×List aa)}{WG:List (List aa×af)}{VN:List au},gD g J WG VN->VN.Nodup->ks J s=Z E->(J.map (·.1)).Nodup->
  ∃d x,g9 WG s=Z (.ref d)/\g d=Z (.lst x)/\bC g E x/\d∈VN/\∀F e b,fa g F->(∀h∈VN,h≠d->∀n,g h=Z n->F h=Z n)->F d=Z (.lst e)->bC F b e->gD F (jz J s b) WG VN
 |[],_,_,_,_,a,_=>by cases a
 |q::p,_,VN,c,ae,a,f=>by
  let⟨d,x,C,j,rfl,l,t,m,rfl⟩:=c;have ae:=dD.mp ae;rw[bH]at f;have f:=dD.mp f;by_cases k:q.1=s
  ·rw[Dc k]at a;cases a;refine⟨d,x,q_ k,l,t,.head _,λF e b H keep ag VW=>?_⟩;have iH:jz p s b=p:=by
    unfold jz;refine (gr λu v=>?_).trans (oB p);have:¬ u.1=s:=λi=>f.1 (cL.mpr ⟨u,v,by rw[i,k]⟩);rw[if_neg this];rfl
   have:jz (q::p) s b=(q.1,b)::p:=by
    unfold jz;rw[bH,aH k];exact congrArg _ iH
   rw[this];exact⟨d,e,C,j,rfl,ag,VW,m.mono H λh av n a=>keep h (.tail _ av) (λi=>ae.1<|i ▸ av) n a,rfl⟩
  ·rw[Ie k]at a;let⟨o,V5,w,y,z,r,A⟩:=m.at_ ae.2 a f.2;refine⟨o,V5,(ql k).trans w,y,z,.tail _ r,λF e b H keep ag VW=>?_⟩;have:jz (q::p) s b=q::jz p s b:=by
    unfold jz;rw[bH,if_neg k]
   rw[this];have B:d≠o:=λi=>ae.1 (i ▸ r);exact⟨d,x,C,j,rfl,keep d (.head _) B _ l,t.mono H.tup,A F e b H (λh av=>keep h<|.tail _ av) ag VW,rfl⟩
def DI(WC:bU)(a:aU->Option aa):Prop:=(∀w y g L o D,bp g w y L->a w=Z o->(∀r,cp g o r->D r g)->WC y g D)
@[simp] def jh(A:Nat):aU->Option aa:=λw=>match w[A]? with
 |some (Z<|.im o)=>Z o
 |_=>X
@[simp] def k0(A v:Nat):aU->Option aa:=λw=>match w[A]? with
 |some (Z<|.im<|.tup E)=>E[v]?
 |_=>X
def OH:DI (gY A) (jh A):=by
 intro w y g L o D R a u;unfold jh at a;split at a
 ·rename_i b hd;cases a;let⟨r,l,t⟩:=R.cT hd rfl;exact⟨r,l,u r t.1⟩
 ·cases a
section
variable{e:aM}
def p3(e:aM)(a:a7)(b:aU->Option aa):Prop:=(∃WC,bj e a WC/\DI WC b)
def vj(c:bj e a (gY A)):p3 e a (jh A):=⟨_,c,OH⟩
def uF{v:Nat}{M:Int}{h d:a7}(av:bj e h (gY A))(ag:bj e d (od<|.int M))(c:qI d:=by exact λ_ Y=>rfl)(f:M=v:=by decide):p3 e (.Subscript h d V3) (k0 A v):=by
 subst f;refine⟨_,Jr F4 av ag c,λw y g L o D R a u=>?_⟩;unfold k0 at a;split at a
 ·rename_i E hd;let⟨r,l,t⟩:=R.cT hd rfl;let⟨q,x,rfl,i,j⟩:=t.1;let⟨b,k,m⟩:=j.get a;exact⟨_,l,q,x,v,b,rfl,rfl,.of i,Uy k,u b m⟩
 ·cases a
@[simp] def iI(j:Nat)(W_:aU->Option aa)(aQ:ak->List ak->Option (ak×ak))(a:aU->Option (List aa)):aD ak:=λw=>match w[j]?,W_ w,a w with
 |some (Z<|.dL VR),Z<|.tup s,Z b=>if aa.keys 7 s=ab/\(VR.map (·.1)).Nodup then match ks VR s with
   |some J=>match aQ (.lst J) (b.map .im) with
    |some (.im p,.lst c)=>Z (.im p,w.set j<|Z<|.dL<|jz VR s c)
    |_=>X
   |none=>X
  else X
 |_,_,_=>X
def IE{U:Φ}{aQ:ak->List ak->Option (ak×ak)}{A:aU->Option (List aa)}{y:a3}{D:cj}(c:lB (iI j W_ aQ A) y g D):
  ∃w L h s o,bp g w y L/\y[j]?=Z (Z<|.ref h)/\W_ w=Z (.tup s)/\A w=Z o/\∀i,cp g (.tup s) i->∃d,eM g h i (Z<|.ref d)/\lU U "list" (.ref d) g/\∀P,bC g o P->
   ∃f E p B VO V2,b7 g f (.ref d) VO/\en g E P V2/\(VO++V2).Nodup/\aQ f E=Z (p,B)/\∀r F q b0,b7 F p r q->b7 F B (.ref d) b0->bb g (VO++V2) F (q++b0)->D r F:=by
 let⟨w,L,p,Wb,R,ae,e,u⟩:=c;unfold iI at e;split at e
 ·rename_i VR s o al am av;split at e
  ·rename_i C;split at e
   ·rename_i J an;split at e
    ·rename_i WK v ap;cases e;let⟨v0,cs,Wg,G,⟨h,WB,VN,rfl,l,t,rfl⟩,as,Ws⟩:=R.out al;have I:=c4.mp ((Ws.nodup_iff).mpr ae);have M:=dD.mp I.2.1;let⟨d,x,a1,N,a2,z,bd⟩:=t.at_ M.2 an C.2;have be:h≠d:=λa=>M.1 (a ▸ z);have O:d∈L:=Ws.mem_iff.mp (er _<|.tail _ z);refine⟨w,L,h,s,o,R,G,am,av,λi bi=>?_⟩;let⟨e8,T,rfl,Wo,Wq⟩:=bi;refine⟨d,by rw[<-a1];exact eM.t l ⟨C.1,e8,T,rfl,Wo,Wq⟩,.inl ⟨rfl,x,dv.of N⟩,λP bm=>?_⟩;refine⟨.lst J,o.map .im,_,.lst v,[d],[],⟨d,x,rfl,N,a2,rfl⟩,tS bm,by rw[b4];exact e4 _ _,ap,λr F q b0 cO bn m=>?_⟩;let⟨cO,rfl⟩:=cO;let⟨db,bs,a,bv,ca,rfl⟩:=bn;cases a;have own:b7 F (.dL<|jz VR s v) (.ref h) (h::VN):=⟨h,WB,VN,rfl,m.keep h _ l ⇑be,bd F bs v m.tup (λf Q cd n a=>m.keep f n a ⇑cd) bv ca,rfl⟩;have ce:bp F (w.set j<|Z .c2) y Wg:=as.mono m.tup λf Q n a=>m.keep f n a (by
      rw[b4,cR];intro k;exact I.2.2 f Q d (.tail _ z) k)
     let⟨ch,ci,S,cl⟩:=ce.back own G;rw[qT]at S;have W2:bb g L g ([d]++L.erase d):=bb.perm ae (JO O).symm;have co:=W2.trans (VO:=L.erase d) (by rw[b4]at m;exact m) λb cr=>R.chg b (EG cr);refine u r F ch [] S ⟨cO,rfl⟩ (co.less (aN:=ci) ?_);rw[b4];exact cl.trans (Ws.trans<|JO O)
    ·cases e
   ·cases e
  ·cases e
 ·cases e
variable{s:a7}
def UU{aQ:ak->List ak->Option (ak×ak)}(b:e.A.units+20<bN)(f:oE "list" name id)(k:mI (.builtin id)=pure (.type "method_descriptor"))(l:lq e id aQ)(m:bj e n (gY j))(a:p3 e s W_)(o:qQ s:=by exact λ_ Y=>rfl)(p:kr (.Subscript n s V3) name e.env (bM (.Subscript n s V3) e.env)=bM (.Subscript n s V3) e.env:=by rfl)(q:(W0.endLine==WM.line)=ab:=by rfl):
  b2 e (.Call (.Attribute (.Subscript n s V3) name W0) [] [] WM) (iI j W_ aQ λ_=>Z []):=by
 let⟨Wy,a,r⟩:=a;exact d_ (Hc Ex f k l (yD b m a o) p q) λy g D c=>by
  let⟨w,L,h,s,F,R,t,v,x,u⟩:=IE c;cases x;refine⟨_,t,r w y g L _ _ R v λi z=>?_⟩;let⟨d,B,C,E⟩:=u i z;exact⟨h,.ref d,rfl,B,C,E [] rfl⟩
def yP{k:aU->Option aa}{aQ:ak->List ak->Option (ak×ak)}(m:e.A.units+20<bN)(p:oE "list" name id)(q:mI (.builtin id)=pure (.type "method_descriptor"))(t:lq e id aQ)(v:bj e n (gY j))(f:p3 e s W_)(av:p3 e a k)(x:qQ s:=by exact λ_ Y=>rfl)(z:kr (.Subscript n s V3) name e.env (bM (.Subscript n s V3) e.env)=bM (.Subscript n s V3) e.env:=by rfl)(B:((eF WM<|bA [a] e.env).all (λb=>!b.1)&&(nH WM<|nM [] e.env).all (λb=>b.1.isSome)
   && decide ([a].length+([]:List h5).length+(if ([]:List h5).isEmpty then 0 else 1)<30))=ab:=by rfl)(C:(W0.endLine==WM.line)=ab:=by rfl)(l:bA [a] e.env=(az,bM a e.env)::bA [] e.env:=by rfl)(E:(eF WM<|bA [] e.env).any (·.1)=az:=by rfl):
  b2 e (.Call (.Attribute (.Subscript n s V3) name W0) [a] [] WM) (iI j W_ aQ λw=>(k w).map λo=>[o]):=by
 let⟨Wy,f,F⟩:=f;let⟨WC,av,G⟩:=av;exact d_ (E5 Ex p q t (yD m v f x) (uo av yG l) z B C l E) λy g D c=>by
  let⟨w,L,h,s,U,R,H,I,J,u⟩:=IE c;let⟨o,M,rfl⟩:=ck.mp J;refine⟨_,H,F w y g L _ _ R I λi N=>?_⟩;let⟨d,P,Q,S⟩:=u i N;refine⟨h,.ref d,rfl,P,Q,G w y g L _ _ R M λr T=>?_⟩;exact S [r] ⟨r,[],rfl,T,rfl⟩
@[simp] def pW(j:Nat)(W_:aU->Option aa):aD Bool:=λw=>match w[j]?,W_ w with
 |some (Z<|.dL VR),Z (.tup s)=>if aa.keys 7 s=ab/\(VR.map (·.1)).Nodup then (ks VR s).map λJ=>(!J.isEmpty,w) else X
 |_,_=>X
def S4(p:e.A.units+20<bN)(q:bj e n (gY j))(c:p3 e s W_)(v:qQ s:=by exact λ_ Y=>rfl)(z:∀k,n5 (.Subscript n s V3) e.env k=(do let r <-k;standAt (a7.Subscript n s V3).pos;holding [r] (tK r)):=by intro Y;rfl):hP e (.Subscript n s V3) (pW j W_):=by
 let⟨Wy,c,B⟩:=c;refine qW (HV (yD p q c v) z) λy g D C=>?_;let⟨w,L,f,Wb,R,ae,b,u⟩:=C;unfold pW at b;split at b
 ·rename_i VR U E F;split at b
  ·rename_i m;let⟨J,G,a⟩:=ck.mp b;cases a;let⟨v0,al,Wg,I,⟨h,WB,VN,rfl,l,t,rfl⟩,am,Ws⟩:=R.out E;have M:=c4.mp ((Ws.nodup_iff).mpr ae);let⟨d,x,N,P,Q,an,ap⟩:=t.at_ (dD.mp M.2.1).2 G m.2;refine⟨_,I,B w y g L _ _ R F λi S=>?_⟩;let⟨e8,T,rfl,Wo,Wq⟩:=S;exact⟨h,.ref d,rfl,by rw[<-N];exact eM.t l ⟨m.1,e8,T,rfl,Wo,Wq⟩,_,DS (o:=.lst J) ⟨[d],d,x,rfl,P,Q,rfl⟩ rfl,u g L R<|bb.perm ae<|List.Perm.refl _⟩
  ·cases b
 ·cases b
theorem gD.snoc{g:aA}{s:List aa}{E:List aa}{x:List af}{d:au}(l:g d=Z (.lst x))(t:bC g E x):∀{J:List (List aa×List aa)}{WG:List (List aa×af)}{VN:List au},gD g J WG VN->gD g (J++[(s,E)]) (WG++[(s,.ref d)]) (VN++[d])
 |[],WG,VN,c=>by let⟨rfl,rfl⟩:=c;exact⟨d,x,[],[],rfl,l,t,⟨rfl,rfl⟩,rfl⟩
 |q::p,WG,VN,c=>by
  let⟨a,V5,C,h,rfl,b,e,f,rfl⟩:=c;exact⟨a,V5,_,_,rfl,b,e,gD.snoc l t f,rfl⟩
@[simp] def z_:ak->Option (List<|List aa×List aa)
 |.aB []=>Z []
 |.dL VR=>Z VR
 |_=>X
def putL(f s o:ak):Option ak:=(match z_ f,s,o with
 |some VR,.im<|.tup s,.lst J=>if aa.keys 7 s=ab/\VR.length<100000/\s∉VR.map (·.1) then Z (.dL<|VR++[(s,J)]) else X
 |_,_,_=>X)
def UC{f:ak}{n:af}{VO:List au}{VR:List (List aa×List aa)}(c:b7 g f n VO)(a:z_ f=Z VR):∃h WB VN,n=.ref h/\g h=Z (.aB WB)/\gD g VR WB VN/\VO=h::VN:=by
 unfold z_ at a;split at a
 ·cases a;let⟨h,WB,rfl,l,t,rfl⟩:=c;cases t;exact⟨h,[],[],rfl,l,⟨rfl,rfl⟩,rfl⟩
 ·cases a;exact c
 ·cases a
def MH(w:e.A.units+20<bN):q6 e putL:=by
 intro G m y g n j r as a1 I D B z C E F;let⟨f,s,o,a2,VO,V2,M,N,P,ae,a,u⟩:=F;unfold putL at a;split at a
 ·rename_i VR s J c;split at a
  ·rename_i i;cases a;let⟨h,WB,VN,rfl,l,t,rfl⟩:=UC M c;let⟨d,x,rfl,Q,S,rfl⟩:=P;let⟨e8,T,rfl,Wo,Wq⟩:=N.1;cases z;have WZ:fB g h:=⟨_,l,(λ_ a=>by cases a),(λ_ Y a=>by cases a)⟩;have U:WB.length=VR.length:=by have:=congrArg List.length t.keys;rwa [br,br]at this
   have WI:fR WB s (.ref d)=WB++[(s,.ref d)]:=by
    unfold fR;rw[if_neg];intro k;let⟨q,al,a⟩:=mR.mp k;refine i.2.2 ?_;rw[<-t.keys];exact cL.mpr ⟨q,al,e_ a⟩
   have v:=c4.mp ae;have am:=dD.mp v.1;have i_:h≠d:=λk=>v.2.2 h (.head _) d (.head _) k;refine td w B (k_.t l ⟨i.1,e8,T,rfl,Wo,Wq⟩ (by rw[U];exact qu i.2.1)) C E λVY an=>⟨_,an,u _ (h::(VN++[d])) ?_ ?_⟩
   ·rw[WI];have R:=(bb.chg (WN:=.aB (WB++[(s,.ref d)])) (L:=[h]) (V9:=[]) (.head _) WZ ht<|λb p=>nomatch p).tup;have ap:=(t.snoc (s:=s) Q S).mono R λf c n a=>by
     rw[cP]
     ·exact a
     ·rintro rfl;rcases d8.mp c with k|k
      ·exact am.1 k
      ·exact i_ (cR.mp k)
    exact⟨h,_,_,rfl,eu,ap,rfl⟩
   ·exact bb.chg (.head _) WZ ae λb p=>p
  ·cases a
 ·cases a
def RR(J:au)(S:Array ah)(v:Nat)(b:ah)(a:ah->Bool)(A:Nat)(h:A<S.size)(p:a S[A]=ab)(s:Nat)(k:S.size<=sizeLine):
  ∀j:Nat,A-j=s->j<=A->(∀M (n:M<S.size),j<=M->M<A->a S[M]=az)->sf (bo.«list.remove.loop» ⟨[.ref J,b,j9 j],[]⟩)
   (λO VO m=>m.heap.get? J=Z {cls:=.type "list",dict:=X,data:=.seq S v,slots:=#[]}/\(∀i,i∈S->EqAt O.in1 m i b (a i))/\VO (.ok<|.ret .none) {m with heap:=m.heap.update J (ba.mapSeq λx=>x.eraseIdxIfInBounds A)}):=by
 induction s with
 |zero=>
  intro j q r f VX C O VO m c;let⟨u,N,o,Wy,V6⟩:=m;let⟨d,e,c⟩:=c;have w:j=A:=by omega
  subst w
  wp_walk using wpAny_loadPart' d
  have VW:S[((j:Nat):Int).toNat]?=Z S[j]:=by simp[h]
  rw[VW];refine aC (e _ (I4 h) VX C _ _ ?_);rw[p];have y:(S.eraseIdxIfInBounds j).size<=sizeLine+1:=dN (MeetsSeq.size_erased S _) (ys k)
  wp_walk using (nO d rfl (hz:=k) (_hz':=y)),wpAny_loadPart' d
  simpa using c
 |succ s z=>
  intro j q r f VX C O VO m c;let⟨u,N,o,Wy,V6⟩:=m;let⟨d,e,c⟩:=c;have g:j<S.size:=by omega
  wp_walk using wpAny_loadPart' d
  have VW:S[((j:Nat):Int).toNat]?=Z S[j]:=by simp[g]
  have B:((j:Int)+1)=((j+1:Nat):Int):=by push_cast;rfl
  rw[VW];refine aC (e _ (I4 g) VX C _ _ ?_);rw[f j g (bB _) (by omega)]
  wp_walk
  rw[B];exact⟨hK uY _,iL DZ (by
   rw[iO uY _];exact z (j+1) (by omega) (by omega) (λM n l t=>f M n (by omega) t) VX C O VO _ ⟨d,e,c⟩)⟩
def TH(J:au)(S:Array ah)(v:Nat)(b:ah)(a:ah->Bool)(A:Nat)(f:A<S.size)(g:a S[A]=ab)(h:∀M (d:M<S.size),M<A->a S[M]=az)(j:S.size<=sizeLine):
  sf (bo.«list.remove» ⟨[.ref J,b],[]⟩)
   (λO VO m=>m.heap.get? J=Z {cls:=.type "list",dict:=X,data:=.seq S v,slots:=#[]}/\(∀i,i∈S->EqAt O.in1 m i b (a i))/\VO (.ok<|.ret .none) {m with heap:=m.heap.update J (ba.mapSeq λx=>x.eraseIdxIfInBounds A)}):=by
 intro VX C O VO m c;let⟨l,N,o,Wy,V6⟩:=m;let⟨e,k,c⟩:=c
 wp_walk using wpAny_loadPart' e
 exact⟨hK uY _,iL DZ (by
  rw[iO uY _];exact RR J S v b a A f g _ j 0 rfl (fW _) (λM d Y t=>h M d t) VX C O VO _ ⟨e,k,c⟩)⟩
@[simp] def sm:ak->List ak->Option (ak×ak):=λf E=>match f,E with
 |.lst x,[.im o]=>if (aa.bQ 8 o&&aa.cx 8 x)=ab then (nZ x o).map λA=>(.im .aP,.lst<|x.eraseIdx A) else X
 |_,_=>X
def M5(bi:e.A.units+20<bN):lq e "list.remove" sm:=by
 intro G m y g b P r Wc D B J N Q;let⟨f,E,p,bm,VO,V2,S,T,ae,a,u⟩:=Q;unfold sm at a;split at a
 ·rename_i x o;split at a
  ·rename_i c;rw[cI]at c;let⟨A,U,al⟩:=ck.mp a;cases al;let⟨h,V5,rfl,l,t,rfl⟩:=S;let⟨i,H,bn,bs,rfl,⟨am,rfl⟩,⟨rfl,rfl⟩,rfl⟩:=T;cases J;let⟨I,rfl,an⟩:=N.one;have WZ:fB g h:=⟨_,l,(λ_ a=>by cases a),(λ_ Y a=>by cases a)⟩;let⟨k,VZ,v,n,ap,d⟩:=B.g4 l;have q:=t.eA B.aV n;let⟨C,as,a1,a2⟩:=Bb c.2 q U;let⟨s,j⟩:=fM.mp as;refine m_ F.slot_list_remove ⟨_,d,rfl⟩ F.entry_list_remove (F.args_list_remove_2 _ _) (TH h VZ.toArray v I (jo m.heap o) A ⇑s (by simpa [j] using a1) (λM bv bd=>a2 M _ bd ↥0) (by rw[cK,<-ap];exact k)) ⟨d,λC j=>?_,?_⟩
   ·let⟨ca,w,z⟩:=n2 c.2 q ⇑j;rw[kO w z];exact h2 8 w c.1 (by show e.A.units+1+8+1<bN;lia) z (am.eA B.aV an)
   ·refine⟨.aP,_,B.r9 (R:=VZ.eraseIdx A) l d (by simp[Array.eraseIdxIfInBounds,s]) (n.eraseIdx A) (by rw[EM];split<;>lia),rfl,?_⟩;exact u .aP _ [] [h] ⟨rfl,rfl⟩ ⟨h,_,rfl,eu,(t.erase A).mono<|cp.kh WZ,rfl⟩ (bb.chg (.head _) WZ (e4 _ _) λb be=>by simpa using be)
  ·cases a
 ·cases a
end
end L2
namespace L2
end L2
namespace L2
open Spec PyProof.Rows PySem.W SeqAt
end L2
namespace L2
open Spec PyProof.Rows PySem.W
section
variable{e:aM}
@[simp] def p8(j A:Nat)(z:Int->Int->Int)(v:Int):bl:=λw=>match w[j]?,w[A]? with
 |some (Z<|.aB VR),Z (Z<|.im<|.tup s)=>if aa.keys 7 s=ab/\VR.length<100000 then (match cq VR s with
   |some (.int b)=>Z (.a8,w.set j<|Z<|.aB<|dH VR s<|.int<|z b v)
   |_=>X) else X
 |_,_=>X
def Hq{T:List Nat}{j A:Nat}{n C M:a7}{Wx:l2}{z:Int->Int->Int}{v:Int}{J V3:cw}(Q:e.A.units+20<bN)(S:bj e n (gY j))(U:bj e C (gY A))(al:bj e M (od<|.int v))(am:t7 e Wx (yd z))(cd:j∉T)(av:∀p q new,augStore C p q new=(do holding [new,p,q] (ph p q new);release [new,p,q] [];pure .next):=by intros;rfl):hp e T (.AugAssign (.Subscript n C J) Wx M V3) (p8 j A z v):=by
 refine jC (Mj Q S U al am av) λVP y g an=>?_;let⟨w,L,aX,Wb,R,ae,m,u⟩:=an;unfold p8 at m;split at m
 ·rename_i VR s VW ap;split at m
  ·rename_i D;split at m
   ·rename_i b E;cases m;let⟨r,ce,F,I,cO,N,B⟩:=R.out VW;let⟨i,as,a1⟩:=R.cT ap rfl;let⟨h,V5,rfl,l,t,rfl⟩:=cO;let⟨d,x,rfl,Wo,Wq⟩:=a1.1;let⟨k,a2,bd⟩:=(lM t).1 _ E;cases (show k=.int b from bd);have f:fB g h:=⟨_,l,(λ_ a=>by cases a),(λ_ Y a=>by cases a)⟩;refine⟨_,I,_,as,h,.int b,rfl,by rw[<-a2];exact eM.t l ⟨D.1,d,x,rfl,Wo,Wq⟩,b,v,rfl,rfl,_,k_.t l ⟨D.1,d,x,rfl,Wo,Wq⟩ (by rw[<-t.length];exact qu D.2),?_⟩;have G:bb g [h] (upd g h<|.aB<|fR V5 s<|.int<|z b v) [h]:=bb.chg (.head _) f (e4 _ _) λb E=>by simpa using E
    have B:=ea.trans B;have be:([h]++F).Nodup:=B.nodup_iff.mpr ae;have bi:=c4.mp be;have bm:bp (upd g h<|.aB<|fR V5 s<|.int<|z b v) (w.set j<|Z .c2) y F:=N.mono G.tup λd ag n a=>G.keep d n a λc=>bi.2.2 d c d ag rfl;have bn:b7 (upd g h<|.aB<|fR V5 s<|.int<|z b v) (.aB<|dH VR s<|.int<|z b v) (.ref h) [h]:=⟨h,_,rfl,eu,(d9.put (o:=.int (z b v)) (r:=.int (z b v)) rfl t).mono<|cp.kh f,rfl⟩;let⟨bs,VN,P,bv⟩:=bm.back bn I;rw[qT]at P;have ca:bb g L g ([h]++F):=bb.perm ae B;exact u y _ bs dC.refl P ((ca.trans G N.chg).less<|bv.trans ea)
   ·cases m
  ·cases m
 ·cases m
end
end L2
namespace L2
open Spec PyProof.Rows
end L2
namespace L2
open Spec PyProof.Rows PySem.W SeqAt
section
variable{e:aM}
def KJ(p:af->List af->aA->cj->Prop)(J:bU)(H:eT):bU:=(λy g D=>J y g λb VT=>(∃h x,b=.ref h/\VT h=Z (.tup x))/\H y VT λP V8=>p b P V8 D)
def KY{n a:a7}{Q:List a7}{J:bU}{H:eT}{name:aF}{W0 WM:cw}{id:String}{p:af->List af->aA->cj->Prop}(s:oE "tuple" name id)(t:mI (.builtin id)=pure (.type "method_descriptor"))(u:qf e id p)(z:bj e n J)(av:hl e (a::Q) H)(A:kr n name e.env (bM n e.env)=bM n e.env:=by rfl)(E:((eF WM<|bA (a::Q) e.env).all (λb=>!b.1)&&(nH WM<|nM [] e.env).all (λb=>b.1.isSome)
   && decide ((a::Q).length+([]:List h5).length+(if ([]:List h5).isEmpty then 0 else 1)<30))=ab:=by rfl)(I:(W0.endLine==WM.line)=ab:=by rfl)(M:bA (a::Q) e.env=(az,bM a e.env)::bA Q e.env:=by rfl)(N:(eF WM<|bA Q e.env).any (·.1)=az:=by rfl):
  bj e (.Call (.Attribute n name W0) (a::Q) [] WM) (KJ p J H):=by
 intro G m y g D B c;refine CH A E I rfl (bK (z G m y g _ B c) λr j i=>?_);let⟨b,@VT,l,O,⟨h,@x,WD,R⟩,S⟩:=i;subst WD;cases (show r=ah.ref h from O);let@⟨k,⟨@VZ,ap,⟨@n,o,f,⟨@v,as⟩⟩⟩⟩:=(show ee e.prog e.w VT j.heap h (.tup x) from l.aV h _ R);refine⟨"tuple",id,F.plainAttrs_tuple,s,t,⟨n,o,(Prod.mk.inj f).1⟩,λd T=>?_,?_⟩
 ·cases T;exact⟨n,o,(Prod.mk.inj f).2⟩
 have q:=av WM G j y VT _ l S;rw[M]at q ⊢;refine qx (by show (az || (eF WM<|bA Q e.env).any (·.1))=az;rw[N]<;>rfl) (sG ?_);refine bK q λWc U i=>?_;let⟨P,@V8,al,am,an⟩:=i;exact u G U y V8 (.ref h) P (.ref h) Wc D al rfl am an
def JV(N:aD bE):Prop:=(∀w p Wb,N w=Z (p,Wb)->Wb=w)
def Rl{j:Nat}:JV (aj j):=by
 intro w p Wb c;unfold aj at c;split at c
 ·cases c;rfl
 ·cases c
end
end L2
namespace L2
open Spec PyProof.Rows PySem.W
def l8(E:List aa)(o:aa):Nat:=(E.countP λb=>b8 b o)
theorem Fz{c:a4}{o:aa}:∀{E:List aa}{P:List ah},aa.cx 8 E=ab->dU c E P->P.countP (jo c o)=l8 E o
 |[],P,_,a=>by cases (show P=[] from a);rfl
 |b::E,P,s,a=>by
  let⟨r,p,rfl,l,t⟩:=a;rw[aa.cx,cI]at s;unfold l8;rw[iN,iN,kO s.1 l,Fz s.2 t];rfl
section
variable{e:aM}
def Qi(al:e.A.units+20<bN):qf e "tuple.count" (λb P g D=>∃(o:aa) (E:List aa) (i:af),P=[i]/\cp g o i/\cp g (.tup E) b/\aa.bQ 8 o=ab/\aa.cx 8 E=ab/\D (.int<|l8 E o) g):=by
 intro G m y g b P r Wc D B J M c;let⟨o,E,i,rfl,N,Q,Wo,Wq,u⟩:=c;let⟨I,rfl,R⟩:=M.one;let⟨h,x,rfl,l,t⟩:=Q;cases J;let⟨k,VZ,S,⟨cls,T,data,aS⟩,j,f,v,p⟩:=(show ee e.prog e.w g m.heap h (.tup x) from B.aV h _ l);have q:=(Prod.mk.inj f).1;dsimp only at q p;subst q p;have s:=t.eA B.aV S;refine m_ Bv ⟨_,j,rfl⟩ F.entry_tuple_count (F.args_tuple_count_2 _ _) (SeqAt.tuple_countAt h VZ.toArray v T aS I<|jo m.heap o) ⟨j,λC U=>?_,?_⟩
 ·let⟨k,z,H⟩:=n2 Wq s ⇑U;rw[kO z H];exact h2 8 z Wo (by show e.A.units+1+8+1<bN;omega) H (N.eA B.aV R)
 ·refine⟨.int<|l8 E o,g,B.kept (Wr:=m.toks+1) λd n a=>a,⟨_,by rw[<-Fz Wq s]⟩,u⟩
@[simp] def nL:gm:=λh d=>match h,d with
 |.im (.tup E),.im o=>if (aa.bQ 8 o&&aa.cx 8 E)=ab then Z (.im<|.int (l8 E o:Nat)) else X
 |_,_=>X
def PS{h d o:ak}(c:nL h d=Z o):∃E a,h=.im (.tup E)/\d=.im a/\aa.bQ 8 a=ab/\aa.cx 8 E=ab/\o=.im (.int (l8 E a:Nat)):=by
 unfold nL at c;split at c
 ·rename_i E a;split at c
  ·rename_i b;cases c;rw[cI]at b;exact⟨E,a,rfl,rfl,b.1,b.2,rfl⟩
  ·cases c
 ·cases c
def Sz{n a:a7}{go WV:aD bE}{W0 WM:cw}(z:e.A.units+20<bN)(B:dO e n go)(av:dO e a WV)(C:JV WV)(G:kr n "count" e.env (bM n e.env)=bM n e.env:=by rfl)(H:((eF WM<|bA [a] e.env).all (λb=>!b.1)&&(nH WM<|nM [] e.env).all (λb=>b.1.isSome)
   && decide ([a].length+([]:List h5).length+(if ([]:List h5).isEmpty then 0 else 1)<30))=ab:=by rfl)(J:(W0.endLine==WM.line)=ab:=by rfl)(q:bA [a] e.env=(az,bM a e.env)::bA [] e.env:=by rfl)(M:(eF WM<|bA [] e.env).any (·.1)=az:=by rfl):
  b2 e (.Call (.Attribute n "count" W0) [a] [] WM) (ac nL go WV):=by
 refine d_ (KY Bv F.type_tuple_count (Qi z) B (mE av jb q) G H J q M) λy g D N=>?_;let⟨w,L,p,Wb,R,ae,d,u⟩:=N;unfold ac at d;let⟨⟨b,VQ⟩,av,d⟩:=bq.mp d;let⟨⟨i,Wi⟩,ag,d⟩:=bq.mp d;let⟨Wz,l,d⟩:=bq.mp d;let⟨WE,t,d⟩:=bq.mp d;let⟨o,Q,d⟩:=ck.mp d;cases d;have S:Wi=VQ:=C _ _ _ ag;subst S;let⟨E,s,rfl,rfl,T,WU,rfl⟩:=PS Q;refine⟨w,L,b,_,R,ae,av,λr VT V9 U v Wd f=>⟨?_,_,V9,[i],_,v,(c4.mp f.ae).1,by unfold ao;rw[ag];rfl,λP V8 Wg b0 k Wu m=>?_⟩⟩
 ·let⟨VO,⟨h,x,rfl,al,Y⟩,Y⟩:=Wd.read v l;exact⟨h,x,rfl,al⟩
 ·let⟨I,WK,am,a2,rfl,Wu,⟨rfl,rfl⟩,rfl⟩:=Wu;have an:=Wd.mono m.tup λh av n a=>m.keep h n a λc=>(c4.mp f.ae).2.2 h c h av rfl;have ap:=an.read k l;have as:=Wu.read k t;refine⟨s,E,I,rfl,as.i,ap.i,T,WU,?_⟩;refine u (.int (l8 E s:Nat)) V8 Wg [] k ⟨rfl,rfl⟩ ?_;have a1:=f.trans m Wd.chg;exact a1.less (aN:=am++U) ↥0
end
end L2
namespace G
open L2
def Ja:aD ak:=((c8 0))
def Gd:aD Bool:=((bO<|ac h4 (aj 0)<|aj 1))
def J3:bl:=((c1<|bF jR<|ao (ai<|cE 1 [0] (bY<|ai<|aZ 1 G.kc<|ao (aj 1) ay) (a6 0) G.Gd G.Ja) ay))
def jG:cG:=(dc 2 2 [0,1] J3)
def AJ:aD ak:=((cY<|ao (aj 1)<|ao (aj 0) ay))
def vZ:aD Bool:=((bO<|ac wM (aj 1)<|aj 0))
def zo:bl:=((gN<|fH f9 2 nN<|ao (ai<|cE 1 [3] (bY<|ai<|aZ 2 G.jG<|ao (aj 1)<|ao (aj 3) ay) (a6 0) G.vZ G.AJ) ay))
def GY:bl:=((bc (bI 1<|aZ 1 G.mw<|ao (aj 0) ay)<|bc (bI 2<|e0 ay)<|bc (eE (bY<|aj 0) (a6 3) G.zo)<|c1<|bF jR<|ao (aj 2) ay))
def oF:cG:=(dc 1 4 [0] GY)
def Ii:aD ak:=((c8 0))
def y8:aD Bool:=((bO<|ac ey (ai<|ac eJ (ai<|ac dd (ai<|bF cH<|ao (ai<|aZ 2 G.jG<|ao (aj 1)<|ao (aj 0) ay) ay)<|ai<|ac nL (ai<|cY<|ao (aj 2)<|ao (aj 3) ay)<|aj 0)<|ai<|aG<|.int 2)<|ai<|aG<|.int 1))
def Gy:bl:=((bc (bI 3<|aZ 1 G.mw<|ao (aj 0) ay)<|c1<|bF jR<|ao (ai<|cE 1 [3,1,2] (bY<|aj 0) (a6 0) G.y8 G.Ii) ay))
def rx:cG:=(dc 3 4 [0,1,2] Gy)
def nG:bl:=((gs (e0 ay)<|hF 2 (c8 3) putL))
def vQ:bl:=((bc (gN<|iI 2 (k0 4 0) fm λw=>((k0 4 1) w).map λo=>[o])<|gN<|iI 2 (k0 4 1) fm λw=>((k0 4 0) w).map λo=>[o]))
def ye:bl:=((bc (bI 2 mW)<|bc (eE (bY<|aj 0) (a6 3) G.nG)<|bc (eE (bY<|aj 1) (a6 4) G.vQ)<|c1<|c8 2))
def q1:cG:=(dc 2 5 [0,1] ye)
def CN:aD Bool:=((kK<|aj 3))
def HC:bl:=((bc (bI 4<|ac bg (aj 3)<|ai<|n7<|aG<|.int 1)<|ep (pW 0<|jh 4) (bc (bI 5<|iI 0 (jh 4) lQ λ_=>Z [])<|bc (gN<|iI 0 (jh 5) sm λw=>((jh 4) w).map λo=>[o])<|gN<|fH f9 3 fm<|ao (aj 5) ay)<|gN<|fH f9 2 fm<|ao (ai<|fH f9 3 lQ ay) ay))
def yL:bl:=((bc (bI 2<|e0 ay)<|bc (bI 3<|e0<|ao (aj 1) ay)<|bc (je G.CN G.HC 1000000)<|c1<|Dd<|ao (aj 2) ay))
def vg:cG:=(dc 2 6 [0,1] yL)
def G1:aD ak:=((cY<|ao (aj 0)<|ao (ai<|aG<|.aJ ab) ay))
def xP:aD ak:=((cY<|ao (aj 2)<|ao (aj 0) ay))
def zA:aD Bool:=((bO<|ac h4 (aj 0)<|aj 1))
def wH:bl:=((gN<|fH f9 2 nN<|ao (ai<|cE 1 [1,3] (bY<|ai<|ff (ai<|aZ 1 G.hT<|ao (aj 3) ay) (fv<|aG<|.int 2) gu) (a6 0) G.zA G.xP) ay))
def CE:bl:=((bc (bI 1<|bF ic<|ao (ai<|cE 1 [] (bY<|aj 0) (a6 0) ei G.G1) ay)<|bc (bI 2<|e0 ay)<|bc (eE (bY<|aj 0) (a6 3) G.wH)<|c1<|bF jQ<|ao (aj 2) ay))
def mC:cG:=(dc 1 4 [0] CE)
def yk:aD ak:=((cY<|ao (aj 0)<|ao (ai<|ac dd (ai<|bF vInt<|ao (ai<|ac ey (aj 0)<|aj 1) ay)<|ai<|bF vInt<|ao (ai<|ac ey (aj 0)<|aj 2) ay) ay))
def zR:bl:=((bc (p8 3 4 (λj A=>j+A)<|1)<|p8 3 5 (λj A=>j+A)<|1))
def FR:aD ak:=((c8 0))
def wj:aD Bool:=((bO<|ac ey (ai<|ac eJ (ai<|ac bg (aj 1)<|aj 0)<|ai<|aG<|.int 2)<|ai<|aG<|.int 1))
def G6:bl:=((bc (bI 3<|bF ic<|ao (ai<|cE 1 [1,2] (bY<|aj 0) (a6 0) ei G.yk) ay)<|bc (eE (bY<|ai<|aZ 1 G.mC<|ao (aj 0) ay) (i3 2<|eP (a6 4)<|eP (a6 5) h_) G.zR)<|c1<|cE 1 [3] (bY<|aj 0) (a6 0) G.wj G.FR))
def mf:cG:=(dc 3 6 [0,1,2] G6)
end G
namespace L2
variable{h c N d:bl}{a:aD ak}{own M v:Nat}{E:List ak}{T:List Nat}{n:Option (Nat×ak)}{x:List aa}{o:ak}{VQ w:aU}{f:aD Bool}{Wl:fs}{V7:Type}{A j:Int}
@[simp] theorem U_(o:aa)(w:aU):aG o w=Z (.im o,w):=rfl
@[simp] theorem y0(w:aU):ay w=Z ([],w):=rfl
@[simp] theorem VA(w:aU):fY w=Z (.a8,w):=rfl
@[simp] theorem Ve(w:aU):gu w=Z (X,w):=rfl
@[simp] theorem VC(w:aU):ei w=Z (ab,w):=rfl
@[simp] theorem Vw(o:aa):(ak.im o).cT=ab:=rfl
@[simp] theorem Vq(o:List aa):(ak.da o).cT=ab:=rfl
@[simp] theorem Vn(o:List aa):(ak.lst o).cT=az:=rfl
@[simp] theorem Vu(o:List (List aa×aa)):(ak.aB o).cT=az:=rfl
@[simp] theorem Vz(o:List (eG×aa)):(ak.dA o).cT=az:=rfl
@[simp] theorem Jc(w:aU)(o:ak):eC w (.b3 o)=Z o:=rfl
@[simp] theorem Nu(w:aU)(j:Nat):eC w (.aS j)=(w[j]?).getD X:=rfl
@[simp] theorem JT(w:aU):gA w []=Z []:=rfl
@[simp] theorem Il(w:aU)(n:bE)(V6:List bE):gA w (n::V6)=(eC w n).bind λo=>(gA w V6).map λE=>o::E:=rfl
@[simp] theorem Va(w:aU):eK [] w=Z ([],w):=rfl
@[simp] theorem Oc(o:ak)(V6:List bE)(w:aU):eK (.b3 o::V6) w=(eK V6 w).map λq=>(o::q.1,q.2):=rfl
@[simp] theorem VD(j:Nat)(V6:List bE)(w:aU):eK (.aS j::V6) w=(c8 j w).bind λq=>(eK V6 q.2).map λu=>(q.1::u.1,u.2):=rfl
@[simp] theorem Vs:g7 []=Z []:=rfl
@[simp] theorem Vt(o:aa)(E:List ak):g7 (.im o::E)=(g7 E).map λp=>o::p:=rfl
@[simp] theorem Vr(d:Bool):nV (.im<|.aJ d)=Z d:=rfl
def nP(l : -(2^64)<A)(t:A<2^64):hD j A=ab:=by
 have:bo.Int.intBits A<=64:=FH l t;have ar:¬ (bo.Int.intBits A>tB):=F9.mpr this;unfold hD;rw[decide_eq_false ar];simp
def Pf(l : -(2^64)<j)(t:j<2^64):hD j A=ab:=by
 have:bo.Int.intBits j<=64:=FH l t;have ar:¬ (bo.Int.intBits j>tB):=F9.mpr this;unfold hD;rw[decide_eq_false ar];simp
def Fb{x:List V7}(c:x.length<=v):x.take v=x:=tP c
def tA(x:List V7)(s:Nat):eH x (Z (s:Int)) X=x.drop s:=by
 unfold eH;rw[c5.ua,c5.JD];by_cases c:s<=x.length
 ·rw[qm c,Fb (by rw[l6];lia)]
 ·rw[yc ⋯,Nat.sub_self,Ff,n9 ⋯]
def MO(x:List V7)(s:Nat):eH x X (Z (s:Int))=x.take s:=by
 unfold eH;rw[c5.ua,c5.JD,r0,vs];by_cases c:s<=x.length
 ·rw[qm c]
 ·rw[yc ⋯,Hf,Fb ⋯]
def Pq(x:List V7):eH x X (Z<|-1)=x.dropLast:=by
 unfold eH c5.cm;simp only[r0,vs];rw[aH ∅,yu];congr 1;lia
def m6{x:List V7}{o:V7}(a:0<=j)(c:x[j.toNat]?=Z o):dM x j=Z o:=by
 unfold dM i7;have VW:j.toNat<x.length:=(fM.mp c).1;rw[aH a,aH ⋯];exact c
def Hg{x:List V7}{o:V7}(c:x.getLast?=Z o):dM x (-1)=Z o:=by
 rw[JE]at c;have VW:x.length-1<x.length:=(fM.mp c).1;unfold dM i7;rw[if_neg ∅,aH ⋯];show x[(-1+(x.length:Int)).toNat]?=Z o;rw[show (-1+(x.length:Int)).toNat=x.length-1 by lia];exact c
def IA(B:Nat->aU->Prop)(VO:ak->aU->Prop):∀{x:List aa}{w:aU},B 0 w->
  (∀(j:Nat) (b:aa) (w:aU),x[j]?=Z b->B j w->∃VQ aX Wi,Wl (.im b) w=Z VQ/\d VQ=Z (aX,Wi)/\(((aX=.a8\/aX=.ct)/\B (j+1) Wi)\/∃o,aX=.eQ o/\VO o Wi))->
  (∃Wb,dp Wl d x w=Z (.a8,Wb)/\B x.length Wb)\/∃o Wb,dp Wl d x w=Z (.eQ o,Wb)/\VO o Wb:=by
 intro x;induction x generalizing B with
 |nil=>intro w e Y;exact .inl ⟨w,rfl,e⟩
 |cons b p f=>
  intro w e c;let⟨VQ,aX,@Wi,l,t,g⟩:=c 0 b w rfl e;rcases g with ⟨h,dG⟩|⟨o,rfl,k⟩
  ·have:=f (λj=>B<|j+1) (w:=Wi) dG λj i Wb m n=>c (j+1) i Wb ⇑m n;have a:dp Wl d (b::p) w=dp Wl d p Wi:=by
    rw[dp];dsimp only;rw[l];show (d VQ).bind _=_;rw[t];rcases h with rfl|rfl<;>rfl
   rw[a];exact this
  ·refine .inr ⟨o,Wi,?_,k⟩;rw[dp];dsimp only;rw[l];show (d VQ).bind _=_;rw[t];rfl
def vm(B:Nat->aU->Prop){x:List aa}{w:aU}(a:B 0 w)(c:∀(j:Nat) (b:aa) (w:aU),x[j]?=Z b->B j w->∃VQ aX Wi,Wl (.im b) w=Z VQ/\d VQ=Z (aX,Wi)/\(aX=.a8\/aX=.ct)/\B (j+1) Wi):
  ∃Wb,dp Wl d x w=Z (.a8,Wb)/\B x.length Wb:=by
 rcases IA B (λ_ Y=>False) a (λj b w e dG=>by
  let⟨VQ,aX,@Wi,l,t,f,g⟩:=c j b w e dG;exact⟨VQ,aX,Wi,l,t,.inl ⟨f,g⟩⟩) with c|⟨_,_,_,c⟩
 ·exact c
 ·exact c.elim
def p_(B:Nat->aU->Prop)(b:aU->Prop)(step:∀M w,B M w->∃H VQ,f w=Z (H,VQ)/\(H=ab->∃aX Wi,d VQ=Z (aX,Wi)/\(aX=.a8\/aX=.ct)/\∃a,a<M/\B a Wi)/\(H=az->b VQ)):
  ∀(v M:Nat) (w:aU),B M w->M<v->∃Wb,je f d v w=Z (.a8,Wb)/\b Wb:=by
 intro v;induction v with
 |zero=>intro M w Y c;lia
 |succ v e=>
  intro M w dG m;let⟨H,@VQ,l,t,g⟩:=step M w dG;rw[je];dsimp only;rw[l];cases H with
  |false=>exact⟨VQ,rfl,g rfl⟩
  |true=>
   let⟨aX,@Wi,h,hf,⟨@a,n,i⟩⟩:=t rfl;let⟨@Wb,j,k⟩:=e a Wi i ⋯;refine⟨Wb,?_,k⟩;simp only[pV,gB,h];rcases hf with rfl|rfl<;>exact j
def U1(x:List V7):x.filter (λ_=>ab)=x:=CP.mpr λ_ Y=>rfl
def gI(a:N w=Z (.a8,VQ)):bc N c w=c VQ:=by unfold bc;rw[a];rfl
def ur(a:N w=Z (.eQ o,VQ)):bc N c w=Z (.eQ o,VQ):=by unfold bc;rw[a];rfl
def sC{N:iS}{Wi:aU}{aX:ly}(a:N w=Z ((x,n),VQ))(c:dp Wl d x VQ=Z (aX,Wi)):eE N Wl d w=Z (aX,lO n Wi):=by
 unfold eE;rw[a];show (dp Wl d x VQ).map _=_;rw[c];rfl
def MC{p:ak}(b:E.length=v)(a:N (E.map Z++replicate (M-v) X)=Z (.eQ p,w)):dc v M T N E=Z (p,jv T E w 0):=by
 unfold dc;rw[aH b,a]
def nj{Wk:List Nat}{S:iS}{b:aU}{E:List aa}(l:S w=Z ((x,n),VQ))(t:gn own Wl f a x [] (j5 Wk VQ)=Z (E,b)):cE own Wk S Wl f a w=Z (.lst E,lO n<|iU Wk b VQ):=by
 unfold cE;rw[l];show (gn own Wl f a x []<|j5 Wk VQ).map _=_;rw[t];rfl
def gf{N:aD ak}(a:N w=Z (o,VQ)):c1 N w=Z (.eQ o,VQ):=by unfold c1;rw[a];rfl
def z3{j:Nat}{N:aD ak}(a:N w=Z (o,VQ))(c:j<VQ.length):bI j N w=Z (.a8,VQ.set j<|Z o):=by unfold bI;rw[a];show (if j<VQ.length then _ else _)=_;rw[aH c]
def Ab(a:f w=Z (ab,VQ)):ep f h d w=h VQ:=by unfold ep;rw[a];rfl
def zi(a:f w=Z (az,VQ)):ep f h d w=d VQ:=by unfold ep;rw[a];rfl
def rQ(w:aU){p:ak}{I:List ak}(b:E.length=v)(a:N (E.map Z++replicate (M-v) X)=Z (.eQ p,w))(c:jv T E w 0=I):dc v M T N E=Z (p,I):=by
 rw[MC b a,c]
theorem iw{V7:Type}{own:Nat}{Wl:fs}{f:aD Bool}{a:aD ak}{aN:aU}(e:V7->aa)(q:V7->Bool)(z:V7->aa):∀(x:List V7) (d:List aa),(∀b∈x,∃VQ Wi,Wl (.im<|e b) (replicate own X++aN)=Z VQ/\f VQ=Z (q b,Wi)/\(q b=az->Wi.drop own=aN)/\(q b=ab->∃WS,a Wi=Z (.im<|z b,WS)/\WS.drop own=aN))->
  d.length+x.length<=100000->gn own Wl f a (x.map e) d aN=Z (d++(x.filter q).map z,aN)
 |[],d,_,_=>by simp[gn]
 |b::p,d,c,j=>by
  let⟨VQ,@Wi,l,t,k,m⟩:=c b (.head _);rw[cn]at j;rw[bH,gn,l];show (f VQ).bind _=_;rw[t];show (if q b=ab then _ else _)=_;cases g:q b with
  |false=>
   rw[if_neg dw];show gn own Wl f a (p.map e) d (Wi.drop own)=_;rw[k g,iw e q z p d (λi h=>c i<|.tail _ h) ⋯,ry,g];rfl
  |true=>
   let⟨@WS,n,o⟩:=m g;rw[aH rfl];show (a Wi).bind _=_;rw[n];show (if d.length<100000 then gn own Wl f a (p.map e) (d++[z b]) (WS.drop own) else X)=_;rw[aH ⋯,o,iw e q z p (d++[z b]) (λi h=>c i<|.tail _ h) (by rw[cZ,fP];lia),ry,g];simp
def lb{aN:aU}(d:V7->aa)(z:V7->aa)(x:List V7)(c:∀b∈x,∃VQ Wi WS,Wl (.im<|d b) (replicate own X++aN)=Z VQ/\f VQ=Z (ab,Wi)/\a Wi=Z (.im<|z b,WS)/\WS.drop own=aN)(i:x.length<=100000):gn own Wl f a (x.map d) [] aN=Z (x.map z,aN):=by
 have:=iw (own:=own) (Wl:=Wl) (f:=f) (a:=a) (aN:=aN) d (λ_=>ab) z x [] (λb e=>by
  let⟨VQ,Wi,@WS,l,t,g,h⟩:=c b e;exact⟨VQ,Wi,l,t,(λk=>by cases k),(λ_=>⟨WS,g,h⟩)⟩) (by rw[fy];lia)
 rw[U1]at this;exact this
theorem Aj{V7 WQ:Type}(a:V7->aa)(c:WQ->aa):∀(x:List V7) (V5:List WQ),gU (x.map a) (V5.map c)=(x.zip V5).map λq=>.tup [a q.1,c q.2]
 |[],V5=>by simp[gU]
 |b::x,[]=>by simp[gU]
 |b::x,i::V5=>by simp[gU,Aj a c x V5]
def m9{WQ:Type}(z:V7->WQ)(x:List V7)(VS VW:Option Int):eH (x.map z) VS VW=(eH x VS VW).map z:=by
 unfold eH;rw[br,List.map_take,List.map_drop]
end L2
namespace G
open L2
variable{s:List aa}{VR:List (List aa×aa)}{T:List (Int×Int)}{d h:Int×Int}{c:ak}{v:Nat}
abbrev aE(j:Int):ak:=.im (.int j)
def V(q:Int×Int):aa:=(.tup [.int q.1,.int q.2])
abbrev aK(VV:List (Int×Int)):ak:=.im (.tup<|VV.map V)
abbrev aW(VV:List (Int×Int)):ak:=.lst (VV.map V)
abbrev l1(o m H:Int):ak:=.lst [.int o,.int m,.int H]
def et(v:Nat)(c:ak):Prop:=(∃o m H,c=l1 o m H/\0<=o/\0<=m/\m<2^62/\0<=H/\H+v<2^40)
def et.mono{M:Nat}(b:et v c)(a:M<=v):et M c:=by
 let⟨o,m,@H,rfl,l,t,d,e,f⟩:=b;exact⟨o,m,H,rfl,l,t,d,e,⋯⟩
def et.lst(b:et v c):∃u,c=.lst u:=by
 let⟨o,m,@H,rfl,Y⟩:=b;exact⟨_,rfl⟩
def iY{M:Int}(b:et (v+1) c)(d:0<M)(g:M<1073741824):∃r ar,e3 [c,aE M]=Z (aE r,[ar,aE M])/\0<=r/\r<M/\et v ar:=by
 let⟨o,m,@H,rfl,l,t,h,i,z⟩:=b;have A:∀o:Int,dM [aa.int o,.int m,.int H] 0=Z (.int o):=λo=>rfl;have B:¬ M=0:=⋯
 by_cases hd:0<o
 ·refine⟨o%M,l1 (o/M) m H,?_,kk _ ⋯,lV _ d,o/M,m,H,rfl,BZ l ⋯,t,h,i,⋯⟩;have e:dM [aa.int o,.int m,.int H] 0=Z (.int o):=rfl;simp -implicitDefEqProofs [e3,v8,hd,d,g,e,i7]
 ·obtain⟨a,j⟩:∃a:Int,a=(m+(H+1)*104729)*48271%2305843009213693951:=⟨_,rfl⟩;obtain⟨VY,f⟩:∃VY:Int,VY=a*(a%1009+69621)%2305843009213693951:=⟨_,rfl⟩;have k:0<=VY:=by rw[f];exact kk _ ∅
  have n:VY<2^62:=by
   rw[f];have:=lV (a*(a%1009+69621)) (show (0:Int)<2305843009213693951 by decide);lia
  have p:hD (H+1) 104729=ab:=nP ∅ ∅;have q:hD (m+(H+1)*104729) 48271=ab:=nP ∅ ∅;have s:hD a (a%1009+69621)=ab:=by
   have C:=kk a (show (1009:Int)≠0 by decide);have D:=lV a (show (0:Int)<1009 by decide);exact nP ⋯ ⋯
  refine⟨VY/1000003%M,l1 o VY<|H+1,?_,kk _ ⋯,lV _ d,o,VY,H+1,rfl,l,k,n,⋯,⋯⟩;have e:dM [aa.int o,.int m,.int H] 0=Z (.int o):=rfl;have u:dM [aa.int o,.int m,.int H] 2=Z (.int H):=rfl;have w:dM [aa.int o,.int m,.int<|H+1] 1=Z (.int m):=rfl;have x:dM [aa.int o,.int m,.int<|H+1] 2=Z (.int<|H+1):=rfl;have y:dM [aa.int o,.int VY,.int<|H+1] 1=Z (.int VY):=rfl;simp -implicitDefEqProofs [e3,v8,hd,d,g,e,u,w,x,y,i7,p,q,s,<-j,<-f]
theorem Jw:∀(x:List Int) (F Wd B Wn:Option ak) (m:Int),0<=m->m<2^62->∃c VY,0<=VY/\VY<2^62/\dp (a6 3) pC (x.map .int) [F,Wd,Z<|aE m,B,Wn]=Z (.a8,[F,Wd,Z<|aE VY,c,Wn])
 |[],F,Wd,B,Wn,m,e,l=>⟨B,m,e,l,rfl⟩
 |b::x,F,Wd,B,Wn,m,e,l=>by
  obtain⟨a,d⟩:∃a:Int,a=(m*69621+b%2147483587+13)%2305843009213693951:=⟨_,rfl⟩;have f:0<=a:=by rw[d];exact kk _ ∅
  have g:a<2^62:=by
   rw[d];have:=lV (m*69621+b%2147483587+13) (show (0:Int)<2305843009213693951 by decide);lia
  let⟨c,@VY,WL,h,i⟩:=Jw x F Wd (Z<|aE b) Wn a f g;refine⟨c,VY,WL,h,?_⟩;have j:hD m 69621=ab:=nP ∅ ∅;rw[bH,dp];dsimp only;rw[show a6 3 (.im<|.int b) [F,Wd,Z<|aE m,B,Wn]=Z [F,Wd,Z<|aE m,Z<|aE b,Wn] from rfl];show (pC _).bind _=_;rw[show pC [F,Wd,Z<|aE m,Z<|aE b,Wn]=Z (.a8,[F,Wd,Z<|aE a,Z<|aE b,Wn]) by simp -implicitDefEqProofs [pC,j,<-d]];exact i
def Ow{V4:List Int}{s:Int}(y:0<=s)(z:s<1000):∃c,sa [.da (V4.map .int),aE s]=Z (c,[.da (V4.map .int),aE s])/\et 1000000 c:=by
 obtain⟨x,h⟩:∃x,eH (V4.map aa.int) X (Z 63)=x.map .int:=⟨eH V4 X<|Z 63,m9 _ _ _ _⟩;let⟨B,@m,W2,i,cv⟩:=Jw x (Z<|.da<|V4.map .int) (Z<|aE s) X X (7+7919*s) ⋯ ⋯;have j:hD 7919 s=ab:=Pf ∅ ∅;have k:hD (10^60) (10^60)=ab:=by decide +kernel
 have WU:hD (10^60*10^60) (10^60)=ab:=by decide +kernel
 have o:∀b f:Int,hD b (if 10^18<=f then 1 else 0)=ab:=λb f=>nP (by split<;>decide) (by split<;>decide);have g:(10:Nat)<2^64:=by decide
 have p:(0:Int)<10^60*10^60*10^60:=by decide
 have V_:∀f:Int,et 1000000 (l1 (f%(10^60*10^60*10^60)*(if 10^18<=f then 1 else 0)) m 0):=λf=>by
  have l:=kk f (show (10^60*10^60*10^60:Int)≠0 by decide);refine⟨_,_,_,rfl,?_,W2,i,g_ 0,by decide⟩;split
  ·rw[HU];exact l
  ·rw[Int.mul_zero];exact g_ 0
 have q:bI 2 (ac dd (ai<|aG<|.int 7)<|ai<|ac iW (ai<|aG<|.int 7919)<|aj 1) [Z (.da<|V4.map .int),Z<|aE s,X,X,X]=Z (.a8,[Z (.da<|V4.map .int),Z<|aE s,Z<|aE<|7+7919*s,X,X]):=by
  simp -implicitDefEqProofs [j]
 have r:eE (bY<|ai<|ff (aj 0) gu<|fv<|aG<|.int 63) (a6 3) G.pC [Z (.da<|V4.map .int),Z<|aE s,Z<|aE<|7+7919*s,X,X]=Z (.a8,[Z (.da<|V4.map .int),Z<|aE s,Z<|aE m,B,X]):=
  (sC (n:=X) (x:=x.map .int) (VQ:=[Z (.da<|V4.map .int),Z<|aE s,Z<|aE<|7+7919*s,X,X]) (by simp -implicitDefEqProofs [h]) cv).trans rfl;have d7:∀f:Int,bI 3 (x5 (bO<|ac lK (ai<|bF cH<|ao (aj 0) ay)<|ai<|aG<|.int 0) (ac bg (aj 0)<|ai<|ac eJ (aj 1)<|ai<|bF cH<|ao (aj 0) ay)<|aG<|.int 0) [Z (.da<|V4.map .int),Z<|aE s,Z<|aE m,B,X]=Z (.a8,[Z (.da<|V4.map .int),Z<|aE s,Z<|aE m,Z<|aE f,X])->
   ∃c,sa [.da (V4.map .int),aE s]=Z (c,[.da (V4.map .int),aE s])/\et 1000000 c:=λf d=>by
  refine⟨_,?_,V_ f⟩;unfold sa Jp;refine rQ [Z (.da<|V4.map .int),Z<|aE s,Z<|aE m,Z<|aE f,Z<|aE<|10^60*10^60*10^60] rfl ((gI q).trans<|(gI r).trans<|(gI d).trans<|(gI (VQ:=[Z (.da<|V4.map .int),Z<|aE s,Z<|aE m,Z<|aE f,Z<|aE<|10^60*10^60*10^60]) ?_).trans ?_) rfl
  ·simp -implicitDefEqProofs [k,WU,g,-Int.reducePow,-Nat.reducePow]
  ·simp -implicitDefEqProofs [o,g,p,-Int.reducePow,-Nat.reducePow]
 by_cases t:0<(V4.length:Int)
 ·obtain⟨A,e⟩:∃A:Int,A=s%(V4.length:Int):=⟨_,rfl⟩;have u:0<=A:=by rw[e];exact kk _ ⋯
  have C:A<V4.length:=by rw[e];exact lV _ t
  obtain⟨f,d⟩:∃f,V4[A.toNat]?=Z f:=⟨V4[A.toNat]'⋯,by simp⟩;have v:dM (V4.map aa.int) A=Z (.int f):=m6 u (by rw[gC,d];rfl);refine d7 f ?_;have w:0<V4.length:=⋯
  simp -implicitDefEqProofs [w,<-e,v]
 ·refine d7 0 ?_;have a:V4=[]:=w4.mp ⋯;subst a;simp -implicitDefEqProofs
def bw(q:Int×Int):List (Int×Int):=([(q.1-1,q.2),(q.1,q.2-1),(q.1,q.2+1),(q.1+1,q.2)])
def rO(q:Int×Int):hT [.im (V q)]=Z (aW<|bw q,[.im (V q)]):=by
 have a:dM [aa.int q.1,.int q.2] 0=Z (.int q.1):=rfl;have b:dM [aa.int q.1,.int q.2] 1=Z (.int q.2):=rfl;simp -implicitDefEqProofs [hT,By,V,bw,a,b]
def bJ(q:Int×Int):List aa:=([.int q.1,.int q.2])
def p9(q:Int×Int):V q=.tup (bJ q):=rfl
def h7(c:bJ h=bJ d):h=d:=by
 unfold bJ at c;simp at c;exact m4 c.1 c.2
def zZ(c:V h=V d):h=d:=by
 rw[p9,p9]at c;exact h7 (by injection c)
def l5(q:Int×Int):aa.keys 7 (bJ q)=ab:=rfl
def g8:aa->Int×Int
 |.tup [.int h,.int d]=>(h,d)
 |_=>(0,0)
def DC(q:Int×Int):g8 (V q)=q:=rfl
def o8(q:Int×Int):aa.bQ 8 (V q)=ab:=rfl
theorem rj:∀VV:List (Int×Int),aa.cx 8 (VV.map V)=ab
 |[]=>rfl
 |q::p=>by rw[bH,aa.cx,o8,rj p];rfl
def nz(h d:Int×Int):b8 (V h) (V d)=decide (h=d):=by
 show ((h.1==d.1)&&((h.2==d.2)&&ab))=_;let⟨a,b⟩:=h;let⟨dJ,dr⟩:=d;by_cases l:a=dJ<;>by_cases t:b=dr<;>simp[l,t]
def A5(VV:List (Int×Int))(f:Int×Int):((VV.map V).any λb=>b8 b<|V f)=decide (f∈VV):=by
 rw[tf,n_,mR,fu];constructor
 ·rintro⟨b,d,a⟩;have:decide (b=f)=ab:=by rw[<-nz];exact a
  rw[<-e_ this];exact d
 ·intro c;refine⟨f,c,?_⟩;show b8 (V f) (V f)=ab;rw[nz];exact bW rfl
theorem Hn:∀(J:List aa) (T:List (Int×Int)),(∀b∈J,b∈T.map V)->J=(J.map g8).map V
 |[],_,_=>rfl
 |b::J,T,c=>by
  let⟨@q,Y,a⟩:=cL.mp (c b<|.head _);rw[bH,bH,<-Hn J T λi d=>c i<|.tail _ d,<-a,DC]
def MV{J:List aa}(c:J.Perm (T.map V)):∃d:List (Int×Int),d.Perm T/\J=d.map V:=by
 refine⟨J.map g8,?_,Hn J T λb e=>c.mem_iff.mp e⟩;have:=AM g8 c;rw[es]at this;have a:(g8 ∘ V:Int×Int->Int×Int)=id:=funext DC;rw[a,oB]at this;exact this
def Pe(ae:T.Nodup)(c:T.length<=63):o3 (T.map V):=by
 refine⟨⟨by rw[br];exact c,λh av d ag=>?_,?_⟩,.inl λo hd=>?_⟩
 ·let⟨@b,Y,rfl⟩:=cL.mp av;let⟨@i,Y,rfl⟩:=cL.mp ag;rfl
 ·exact tj V (λh d v a=>v<|zZ a) ae
 ·let⟨@b,Y,rfl⟩:=cL.mp hd;rfl
def vN:(cq VR s).isSome=VR.any λq=>decide (q.1=s):=by
 unfold cq;rw[u_,List.isSome_find?]
def M3{b:List aa}{o:aa}:((dH VR s o).any λq=>decide (q.1=b))=((VR.any λq=>decide (q.1=b)) || decide (s=b)):=by
 unfold dH;split
 ·rename_i c;have a:((VR.map λd=>if d.1=s then (d.1,o) else d).any λq=>decide (q.1=b))=VR.any λq=>decide (q.1=b):=by
   rw[tf];congr 1;funext q;show decide ((if q.1=s then (q.1,o) else q).1=b)=_;split<;>rfl
  rw[a];by_cases k:s=b
  ·subst k;rw[c];rfl
  ·rw[decide_eq_false k,Bool.or_false]
 ·rw[List.any_append];simp
theorem GF:∀(VV a:List (List aa×aa)) (s:List aa),((VV.foldl (λh q=>dH h q.1 q.2) a).any λq=>decide (q.1=s))=((a.any λq=>decide (q.1=s)) || VV.any λq=>decide (q.1=s))
 |[],a,s=>by simp
 |q::VV,a,s=>by
  rw[kH,GF VV _ s,M3,jq,Bool.or_assoc]
def aQ(T:List (Int×Int)):List (List aa×aa):=(T.map λf=>(bJ f,.aJ ab))
def vJ(T:List (Int×Int))(f:Int×Int):((aQ T).any λq=>decide (q.1=bJ f))=decide (f∈T):=by
 unfold aQ;rw[tf,n_,mR,fu];constructor
 ·rintro⟨b,d,a⟩;have:bJ b=bJ f:=e_ a;rw[<-h7 this];exact d
 ·intro c;exact⟨f,c,bW rfl⟩
def QX(VU:List (Int×Int))(f:Int×Int):(cq (gz<|aQ VU)<|bJ f).isSome=decide (f∈VU):=by
 rw[vN];unfold gz;rw[GF,vJ];rfl
def EF(T:List (Int×Int))(f:Int×Int):(cq (aQ T)<|bJ f).isSome=decide (f∈T):=by rw[vN,vJ]
def Cd{f:Int×Int}(c:f∉T):dH (aQ T) (bJ f) (.aJ ab)=aQ (T++[f]):=by
 unfold dH;rw[if_neg (by rw[vJ];simpa using c)];unfold aQ;rw[iM];rfl
def z4(VU:List (Int×Int)):ia (VU.map λf=>.tup [V f,.aJ ab])=Z (aQ VU):=by
 induction VU with
 |nil=>rfl
 |cons f p a=>
  rw[bH,p9,ia,a];rfl
def RU(T:List (Int×Int)):((aQ T).map λq=>aa.tup q.1)=T.map V:=by
 unfold aQ;rw[es];rfl
def AA(T:List (Int×Int)):((aQ T).all λq=>aa.keys 7 q.1)=ab:=by
 unfold aQ;rw[zM,k5];intro f Y;rfl
end G
namespace L2
section
variable{w VQ Wi:aU}
variable{o:ak}
def df{N:aD ak}(c:N w=Z (o,VQ)):ai N w=Z (.b3 o,VQ):=by unfold ai;rw[c];rfl
variable{b:bE}
def dm{N:aD bE}{c:aD (List bE)}{x:List bE}(a:N w=Z (b,VQ))(d:c VQ=Z (x,Wi)):ao N c w=Z (b::x,Wi):=by unfold ao;rw[a];show (c VQ).map _=_;rw[d];rfl
variable{Wz WE:ak}
def fX{Wx:ak->ak->Option ak}{WV WO:aD bE}{i:bE}(a:WV w=Z (b,VQ))(c:WO VQ=Z (i,Wi))(d:eC Wi b=Z Wz)(e:eC Wi i=Z WE)(f:Wx Wz WE=Z o):ac Wx WV WO w=Z (o,Wi):=by
 unfold ac;rw[a];show (WO VQ).bind _=_;rw[c];show (eC Wi b).bind _=_;rw[d];show (eC Wi i).bind _=_;rw[e];show (Wx Wz WE).map _=_;rw[f];rfl
variable{N:aD (List bE)}{v:Nat}{V6:List bE}{E I:List ak}
def O0{VN:cG}{p:ak}(a:N w=Z (V6,VQ))(b:V6.length=v)(c:eK V6 VQ=Z (E,Wi))(d:VN E=Z (p,I)):aZ v VN N w=Z (p,hB V6 I Wi):=by
 unfold aZ;rw[a];show (if V6.length=v then _ else _)=_;rw[aH b];show (eK V6 VQ).bind _=_;rw[c];show (VN E).map _=_;rw[d];rfl
def k8{Wx:List ak->Option ak}(a:N w=Z (V6,VQ))(b:gA VQ V6=Z E)(c:Wx E=Z o):bF Wx N w=Z (o,VQ):=by
 unfold bF;rw[a];show (gA VQ V6).bind _=_;rw[b];show (Wx E).map _=_;rw[c];rfl
variable{d:Bool}
def Dh{N:aD ak}(a:N w=Z (.im<|.aJ d,VQ)):bO N w=Z (d,VQ):=by unfold bO;rw[a];rfl
def O_{N:aD Bool}(a:N w=Z (d,VQ)):ko N w=Z (!d,VQ):=by unfold ko;rw[a];rfl
def rF{N:aD bE}(a:N w=Z (b,VQ))(c:eC VQ b=Z o)(e:oP o=Z d):kK N w=Z (d,VQ):=by
 unfold kK;rw[a];show (eC VQ b).bind _=_;rw[c];show (oP o).map _=_;rw[e];rfl
def ox{N:aD ak}{c:fs}(a:N w=Z (o,VQ))(b:c o VQ=Z Wi):gs N c w=Z (.a8,Wi):=by unfold gs;rw[a];show (c o VQ).map _=_;rw[b];rfl
def jk{N:aD ak}(a:N w=Z (o,VQ)):gN N w=Z (.a8,VQ):=by unfold gN;rw[a];rfl
variable{WS:aU}{j:Nat}
def kW{ty:ak->Bool}{aQ:ak->List ak->Option (ak×ak)}{a f p b:ak}(c:w[j]?=Z (Z a))(d:ty a=ab)(e:N w=Z (V6,VQ))(g:eK V6 VQ=Z (E,Wi))(h:Wi[j]?=Z (Z f))(i:aQ f E=Z (p,b))(s:Wi.set j (Z b)=WS):fH ty j aQ N w=Z (p,WS):=by
 subst s;unfold fH;rw[c];show (if ty a=ab then _ else _)=_;rw[aH d,e];show (eK V6 VQ).bind _=_;rw[g];show (match Wi[j]? with|some (Z f)=>_|_=>X)=_;rw[h];show (aQ f E).map _=_;rw[i];rfl
def P1(a:N w=Z (V6,VQ))(b:eK V6 VQ=Z (E,Wi))(c:E.length<=100000)(s:sx E=o):cY N w=Z (o,Wi):=by
 unfold cY;rw[a];show (eK V6 VQ).bind _=_;rw[b];show (if _ then _ else _)=_;rw[aH c,s]
def kS(a:N w=Z (V6,VQ))(b:eK V6 VQ=Z (E,Wi))(c:E.length<=100000)(s:qq E=o):e0 N w=Z (o,Wi):=by
 unfold e0;rw[a];show (eK V6 VQ).bind _=_;rw[b];show (if _ then _ else _)=_;rw[aH c,s]
def DW{N:aD ak}{j:Int}(a:N w=Z (.im<|.int j,VQ)):n7 N w=Z (.im<|.int<|-j,VQ):=by unfold n7;rw[a];rfl
def Ad{b:List aa}{o:aa}(c:b.length<100000):fm (.lst b) [.im o]=Z (.im .aP,.lst<|b++[o]):=aH c
def oa(j A:Int):ey (.im<|.int j) (.im<|.int A)=Z (.im<|.aJ<|decide (j=A)):=by
 show Z (ak.im<|.aJ<|j==A)=_;by_cases c:j=A<;>simp[c]
def JF(j A:Int):eZ (.im<|.int j) (.im<|.int A)=Z (.im<|.aJ<|!decide (j=A)):=by
 show Z (ak.im<|.aJ<|!(j==A))=_;by_cases c:j=A<;>simp[c]
variable{A:Int}
def uD{j:Int}(c:0<A):eJ (.im<|.int j) (.im<|.int A)=Z (.im<|.int<|j%A):=aH (bW c)
variable{p:Option (ly×aU)}{d:bl}{f:aD Bool}
theorem pN{h:bl}(a:f w=Z (ab,VQ))(c:h VQ=p):ep f h d w=p:=(Ab a).trans c
theorem hb{h:bl}(a:f w=Z (az,VQ))(c:d VQ=p):ep f h d w=p:=(zi a).trans c
theorem bP{N c:bl}(a:N w=Z (.a8,VQ))(s:c VQ=p):bc N c w=p:=(gI a).trans s
theorem gg{N:aD ak}(a:N w=Z (o,VQ))(c:j<VQ.length)(s:VQ.set j (Z o)=Wi):bI j N w=Z (.a8,Wi):=(z3 a c).trans (by rw[s])
variable{x:List aa}{Wl:fs}{n:Option (Nat×ak)}
theorem gZ{N:iS}{aX:ly}(a:N w=Z ((x,n),VQ))(c:dp Wl d x VQ=Z (aX,Wi))(s:lO n Wi=WS):eE N Wl d w=Z (aX,WS):=(sC a c).trans (by rw[s])
theorem ho{own:Nat}{Wk:List Nat}{S:iS}{a:aD ak}{b:aU}{E:List aa}(l:S w=Z ((x,n),VQ))(t:gn own Wl f a x [] (j5 Wk VQ)=Z (E,b))(s:lO n (iU Wk b VQ)=WS):cE own Wk S Wl f a w=Z (.lst E,WS):=(nj l t).trans (by rw[s])
variable{p:Option (Bool×aU)}{d h:aD Bool}
def nK(a:h w=Z (az,VQ))(c:d VQ=p):i2 h d w=p:=by unfold i2;rw[a];exact c
def qD(a:h w=Z (ab,VQ))(c:d VQ=p):g6 h d w=p:=by unfold g6;rw[a];exact c
def yf(a:h w=Z (az,VQ)):g6 h d w=Z (az,VQ):=by unfold g6;rw[a];rfl
def SK{A:Nat}(a:N w=Z (V6,VQ))(b:eK V6 VQ=Z ([Wz,WE],Wi))(VW:j<Wi.length)(c:A<Wi.length)(s:(Wi.set j<|Z Wz).set A (Z WE)=WS):rJ j A N w=Z (.a8,WS):=by
 unfold rJ;rw[a];show (eK V6 VQ).bind _=_;rw[b];show (if j<Wi.length/\A<Wi.length then _ else _)=_;rw[aH ⟨VW,c⟩,s]
variable{p:ak}
def dh{VN:cG}(a:N w=Z (V6,VQ))(b:V6.length=v)(c:eK V6 VQ=Z (E,Wi))(d:VN E=Z (p,I))(s:hB V6 I Wi=WS):aZ v VN N w=Z (p,WS):=by rw[<-s];exact O0 a b c d
def Vc{N:aD Bool}(a:N w=Z (ab,VQ)):ko N w=Z (az,VQ):=O_ a
def OO{b i:List aa}(a:N w=Z (V6,VQ))(c:gA VQ V6=Z [.im (.tup b),.im<|.tup i]):lF N w=Z ((gU b i,X),VQ):=by
 unfold lF;rw[a];show (gA VQ V6).bind _=_;rw[c];rfl
def xd{N:aD bE}{J c:aD (Option Int)}{VS VW:Option Int}{a:ak}(d:N w=Z (b,VQ))(e:J VQ=Z (VS,Wi))(f:c Wi=Z (VW,WS))(g:eC WS b=Z o)(h:i4 o VS VW=Z a):ff N J c w=Z (a,WS):=by
 unfold ff;rw[d];show (J VQ).bind _=_;rw[e];show (c Wi).bind _=_;rw[f];show (eC WS b).bind _=_;rw[g];show (i4 o VS VW).map _=_;rw[h];rfl
def LS(a:N w=Z (V6,VQ))(b:gA VQ V6=Z [.im (.int A)])(c:jd A):hu N w=Z ((eY 0 A.toNat,X),VQ):=by
 unfold hu;rw[a];show (gA VQ V6).bind _=_;rw[b];show (if jd A then _ else _)=_;rw[aH c]
def eO{M:Nat}{T:List Nat}{N:bl}(b:E.length=v)(a:N (E.map Z++replicate (M-v) X)=Z (.eQ p,w))(c:jv T E w 0=I):dc v M T N E=Z (p,I):=rQ w b a c
end
section
variable{w VQ:aU}
variable{o:ak}
def bL{N:aD ak}(c:N w=Z (o,w)):ai N w=Z (.b3 o,w):=df c
variable{b:bE}
def cf{N:aD bE}{c:aD (List bE)}{x:List bE}(a:N w=Z (b,w))(d:c w=Z (x,w)):ao N c w=Z (b::x,w):=dm a d
variable{Wx:ak->ak->Option ak}{WV WO:aD bE}{i:bE}{Wz WE:ak}
def du(a:WV w=Z (b,w))(c:WO w=Z (i,w))(d:eC w b=Z Wz)(e:eC w i=Z WE)(f:Wx Wz WE=Z o):ac Wx WV WO w=Z (o,w):=fX a c d e f
def fc(a:Wx Wz WE=Z o)(c:WV w=Z (b,w):=by rfl)(d:WO w=Z (i,w):=by rfl)(e:eC w b=Z Wz:=by rfl)(f:eC w i=Z WE:=by rfl):ac Wx WV WO w=Z (o,w):=fX c d e f a
variable{N:aD (List bE)}{V6:List bE}{E:List ak}
def eS{Wx:List ak->Option ak}(a:N w=Z (V6,w))(b:gA w V6=Z E)(c:Wx E=Z o):bF Wx N w=Z (o,w):=k8 a b c
variable{d:Bool}
def eo{N:aD ak}(a:N w=Z (.im<|.aJ d,w)):bO N w=Z (d,w):=Dh a
def Qv{N:aD bE}(a:N w=Z (b,w))(c:eC w b=Z o)(e:oP o=Z d):kK N w=Z (d,w):=rF a c e
def jF(a:N w=Z (V6,w))(b:eK V6 w=Z (E,w))(c:E.length<=100000)(s:sx E=o):cY N w=Z (o,w):=P1 a b c s
def D2(a:N w=Z (V6,w))(b:eK V6 w=Z (E,w))(c:E.length<=100000)(s:qq E=o):e0 N w=Z (o,w):=kS a b c s
def qc{N:aD bE}{J c:aD (Option Int)}{VS VW:Option Int}{a:ak}(d:N w=Z (b,w))(e:J w=Z (VS,w))(f:c w=Z (VW,w))(g:eC w b=Z o)(h:i4 o VS VW=Z a):ff N J c w=Z (a,w):=xd d e f g h
def ik{j:Nat}{N:aD ak}(a:N w=Z (o,w))(c:j<w.length)(s:w.set j (Z o)=VQ):bI j N w=Z (.a8,VQ):=gg a c s
end
end L2
namespace G
open L2
variable{E L D e Wt Wu B Wn Wd F:Option ak}{C:Int}{c:ak}{VU J:List (Int×Int)}{V7:Type}{W_:aU->Option aa}{f:Int×Int}{j v:Nat}{Wi VQ w:aU}
def Ip(j A:Int):b8 (.int j) (.int A)=decide (j=A):=by
 show (j==A)=_;by_cases c:j=A<;>simp[c]
def pa{bs:List (Int×Int)}{n:Int×Int}(c:bs.length<100000):fm (aW bs) [.im (V n)]=Z (.im .aP,aW<|bs++[n]):=by
 have:fm (aW bs) [.im (V n)]=Z (.im .aP,.lst<|bs.map V++[V n]):=Ad (by rw[br];exact c);rw[this];simp
def yv(bs:List (Int×Int)):cH [aW bs]=Z (aE (bs.length:Int)):=by
 show Z (aE ((bs.map V).length:Int))=_;rw[br]
def dX{M:Nat}(c:Nat.ble (v+1) M=ab):v<M:=fg c
def iR{Wl:fs}{d:bl}{b:aa}{x:List aa}{p:Option (ly×aU)}(a:Wl (.im b) w=Z VQ)(c:d VQ=Z (.a8,Wi))(s:dp Wl d x Wi=p):dp Wl d (b::x) w=p:=by
 rw[dp];show (Wl (.im b) w).bind _=_;rw[a];show (d VQ).bind _=_;rw[c];exact s
def vt{a:aD ak}{pt:ak->ak->ak->Option ak}{o s c f b:ak}(d:w[j]?=Z (Z c))(e:a w=Z (s,VQ))(g:s.cT=ab)(h:VQ[j]?=Z (Z f))(i:pt f s o=Z b)(k:VQ.set j (Z b)=Wi):hF j a pt o w=Z Wi:=by
 unfold hF;rw[d];show (a w).bind _=_;rw[e];show (if s.cT=ab then _ else _)=_;rw[aH g,h];show (pt f s o).map _=_;rw[i,<-k];rfl
def iH(J:List (Int×Int))(f:Int×Int):List (Int×Int):=(@List.erase (Int×Int) instBEqOfDecidableEq J f)
def Vd(J:List (Int×Int))(f:Int×Int):iH (f::J) f=J:=@List.erase_cons_head (Int×Int) instBEqOfDecidableEq _ f J
def Kn{h:Int×Int}(J:List (Int×Int))(c:h≠f):iH (h::J) f=h::iH J f:=@List.erase_cons_tail (Int×Int) instBEqOfDecidableEq f h J ⇑c
def P4(c:f∈J):(iH J f).length=J.length-1:=@uO (Int×Int) instBEqOfDecidableEq _ f J c
def L3{b:Int×Int}(c:b∈iH J f):b∈J:=@EG (Int×Int) instBEqOfDecidableEq b f J c
abbrev aq:=Int×Int
variable{Y P:List aq}{o:aq}{W:aq->List aq}
def dn(P:List aq)(W:aq->List aq):List (List aa×List aa):=(P.map λf=>(bJ f,(W f).map V))
def dR(W:aq->List aq)(f:aq)(J:List aq):aq->List aq:=(λb=>if b=f then J else W b)
def GK(P:List aq)(W:aq->List aq):(dn P W).map (·.1)=P.map bJ:=by
 unfold dn;rw[es];rfl
def HM(ae:P.Nodup):((dn P W).map (·.1)).Nodup:=by
 rw[GK];exact jI.mpr (ae.imp λc k=>c<|h7 k)
theorem zw:∀{P:List aq}{W:aq->List aq}{f:aq},f∈P->ks (dn P W) (bJ f)=Z ((W f).map V)
 |r::P,W,f,c=>by
  show ks ((bJ r,(W r).map V)::dn P W) (bJ f)=_;by_cases a:r=f
  ·rw[Dc (by rw[a]),a]
  ·rw[Ie λk=>a<|h7 k];exact zw ((bR.mp c).resolve_left λk=>a k.symm)
def QE(P:List aq)(W:aq->List aq)(f:aq)(J:List aq):jz (dn P W) (bJ f) (J.map V)=dn P (dR W f J):=by
 unfold jz dn;rw[es];refine gr λr Y=>?_;show (if bJ r=bJ f then (bJ r,J.map V) else (bJ r,(W r).map V))=(bJ r,(if r=f then J else W r).map V);by_cases a:r=f
 ·rw[aH (by rw[a]),aH a]
 ·rw[if_neg λk=>a<|h7 k,if_neg a]
def x8(f:aq):aa.keys 7 (bJ f)=ab:=rfl
def ve{aQ:ak->List ak->Option (ak×ak)}{d:aU->Option (List aa)}{f:aq}{a:List aa}{p:aa}{J:List aq}(ae:P.Nodup)(e:f∈P)(g:w[j]?=Z (Z<|.dL<|dn P W))(b:W_ w=Z (V f))(h:d w=Z a)(c:aQ (aW<|W f) (a.map .im)=Z (.im p,aW J)):iI j W_ aQ d w=Z (.im p,w.set j<|Z<|.dL<|dn P<|dR W f J):=by
 have b:W_ w=Z (.tup<|bJ f):=b;have c:aQ (.lst<|(W f).map V) (a.map .im)=Z (.im p,.lst<|J.map V):=c;unfold iI;rw[g,b,h];dsimp only;rw[aH ⟨x8 f,HM ae⟩,zw e];dsimp only;rw[c];dsimp only;rw[QE]
def R_{f:aq}(ae:P.Nodup)(b:f∈P)(c:w[j]?=Z (Z<|.dL<|dn P W))(a:W_ w=Z (V f)):pW j W_ w=Z (!(W f).isEmpty,w):=by
 have a:W_ w=Z (.tup<|bJ f):=a;unfold pW;rw[c,a];dsimp only;rw[aH ⟨x8 f,HM ae⟩,zw b];cases W f<;>rfl
def D6(J:List aq)(d:aq):lQ (aW<|J++[d]) []=Z (.im<|V d,aW J):=by
 show ((((J++[d]).map V).getLast?).map λo=>(ak.im o,ak.lst ((J++[d]).map V).dropLast))=_;rw[iM];simp
theorem Ia:∀{J:List aq}{f:aq},f∈J->∃A,nZ (J.map V) (V f)=Z A/\(J.map V).eraseIdx A=(iH J f).map V
 |h::J,f,c=>by
  rw[bH,nZ,nz];by_cases a:h=f
  ·exact⟨0,aH<|bW a,by rw[a,Vd];rfl⟩
  ·let⟨A,l,t⟩:=Ia ((bR.mp c).resolve_left λk=>a k.symm);refine⟨A+1,?_,?_⟩
   ·rw[decide_eq_false a,if_neg ∅,l];rfl
   ·rw[Jv,t,Kn _ a];rfl
def R1{J:List aq}{f:aq}(c:f∈J):sm (aW J) [.im (V f)]=Z (.im .aP,aW<|iH J f):=by
 let⟨A,l,t⟩:=Ia c;have a:=o8 f;have WU:=rj J;show (if (aa.bQ 8 (V f)&&aa.cx 8 (J.map V))=ab then (nZ (J.map V)<|V f).map λA=>(ak.im .aP,ak.lst<|(J.map V).eraseIdx A) else X)=_;rw[a,WU,aH<|show (ab&&ab)=ab from rfl,l];show Z (ak.im .aP,ak.lst<|(J.map V).eraseIdx A)=_;rw[t]
def jS(P:List aq)(W:aq->List aq):Nat:=((P.map λf=>(W f).length).sum)
theorem zj:∀{P:List aq}{W:aq->List aq}{f:aq}{J:List aq},P.Nodup->f∈P->jS P (dR W f J)+(W f).length=jS P W+J.length
 |r::P,W,f,J,ae,c=>by
  have ae:=dD.mp ae;show (dR W f J r).length+jS P (dR W f J)+_=(W r).length+jS P W+_;by_cases a:r=f
  ·subst a;have:jS P (dR W r J)=jS P W:=by
    unfold jS;congr 1;refine gr λb d=>?_;unfold dR;rw[if_neg λk=>ae.1 (by rw[<-k];exact d)]
   rw[this];unfold dR;rw[aH rfl];omega
  ·have:=zj (W:=W) (J:=J) ae.2 ((bR.mp c).resolve_left λk=>a k.symm);have e:dR W f J r=W r:=if_neg a;rw[e];omega
abbrev f_(P:List aq)(W:aq->List aq)(m:aq)(z N:List aq)(Wn Wt:Option ak):aU:=[Z (.dL<|dn P W),Z<|.im<|V m,Z<|aW z,Z<|aW N,Wn,Wt]
def LZ(N:List aq)(f:aq):bg (aW<|N++[f]) (aE<|-1)=Z (.im<|V f):=by
 show (dM ((N++[f]).map V)<|-1).map ak.im=_;rw[Hg (o:=V f) ↥0];rfl
def QA{m k:aq}{VP:aq->aq->Nat}(ae:P.Nodup)(E:m∈P)(e:∀b∈P,∀i∈W b,i∈P)(g:d2.gL VP W [] m [] m k k)(F:jS P W<=5000)(G:∀b i,1<=VP b i->d2.oi VP m b):
  ∃C u,vg [.dL (dn P W),.im<|V m]=Z (aK C,[.dL (dn P u),.im<|V m])/\C.head?=Z m/\C.getLast?=Z k/\∀b i,VP b i=d2.ce C b i:=by
 let⟨Wb,cv,u,z,f,Wn,Wt,rfl,l,t,r⟩:=p_ (f:=CN) (d:=HC)
  (λM w=>(∃W WL f z h Wn Wt,w=f_ P W m z (WL++[f]) Wn Wt/\f∈P/\(∀b∈WL,b∈P)/\(∀b∈P,∀i∈W b,i∈P)/\d2.gL VP W WL f z m k h/\jS P W+WL.length+1<=M/\M+z.length<=6000)\/
   ∃W z f Wn Wt,w=f_ P W m (z++[f]) [] Wn Wt/\(z++[f]).head?=Z k/\(z++[f]).getLast?=Z m/\∀b i,VP b i=d2.ce (z++[f]) b i)
  (λw=>∃W z f Wn Wt,w=f_ P W m (z++[f]) [] Wn Wt/\(z++[f]).head?=Z k/\(z++[f]).getLast?=Z m/\∀b i,VP b i=d2.ce (z++[f]) b i)
  (λM w dG=>by
   rcases dG with ⟨W,WL,f,z,h,Wn,Wt,rfl,p,x,e,V2,I,U⟩|⟨W,z,f,Wn,Wt,rfl,l,t,r⟩
   ·refine⟨ab,f_ P W m z (WL++[f]) Wn Wt,?_,λ_=>?_,(λk=>by cases k)⟩
    ·exact rF rfl rfl (by show Z (!((WL++[f]).map V).isEmpty)=_;simp)
    ·have g5:=LZ WL f;have A:bI 4 (ac bg (aj 3)<|ai<|n7<|aG<|.int 1) (f_ P W m z (WL++[f]) Wn Wt)=Z (.a8,f_ P W m z (WL++[f]) (Z<|.im<|V f) Wt):=gg (fX rfl (df<|DW rfl) rfl rfl g5) (dX rfl) rfl;have H:=R_ (w:=f_ P W m z (WL++[f]) (Z<|.im<|V f) Wt) (j:=0) (W_:=jh 4) ae p rfl rfl;rcases sv (W f) with a|⟨J,d,a⟩
     ·rw[a]at H;have L:fH f9 3 lQ ay (f_ P W m z (WL++[f]) (Z<|.im<|V f) Wt)=Z (.im<|V f,f_ P W m z WL (Z<|.im<|V f) Wt):=kW rfl rfl rfl rfl rfl (D6 WL f) rfl;have WU:fm (aW z) [.im (V f)]=Z (.im .aP,aW<|z++[f]):=pa (by omega);refine⟨.a8,f_ P W m (z++[f]) WL (Z<|.im<|V f) Wt,bP A<|(zi H).trans<|jk<|kW rfl rfl (dm (df L) rfl) rfl rfl WU rfl,.inl rfl,M-1,by omega,?_⟩;rcases sv WL with v|⟨N,o,v⟩
      ·subst v;let⟨l,t,r⟩:=V2.fin a G;exact .inr ⟨W,z,f,_,_,rfl,l,t,r⟩
      ·rw[sH]at v;subst v;refine .inl ⟨W,N,o,z++[f],o,_,_,rfl,x o ↥0,λb n=>x b (by simp[n]),e,V2.pop a,?_,?_⟩
       ·rw[cZ,fP]at I;omega
       ·rw[cZ,fP];omega
     ·rw[sH]at a;rw[a]at H;have H:pW 0 (jh 4) (f_ P W m z (WL++[f]) (Z<|.im<|V f) Wt)=Z (ab,f_ P W m z (WL++[f]) (Z<|.im<|V f) Wt):=by rw[H];simp
      let⟨y,B,Iq⟩:=V2.push a;have ag:d∈P:=e f p d (by rw[a];simp);have O:iI 0 (jh 4) lQ (λ_=>Z []) (f_ P W m z (WL++[f]) (Z<|.im<|V f) Wt)=Z (.im<|V d,f_ P (dR W f J) m z (WL++[f]) (Z<|.im<|V f) Wt):=ve (a:=[]) ae p rfl rfl rfl (by rw[a];exact D6 J d);have hB:dR W f J d=W d:=if_neg B;have D:iI 0 (jh 5) sm (λw=>((jh 4) w).map λo=>[o]) (f_ P (dR W f J) m z (WL++[f]) (Z<|.im<|V f)<|Z<|.im<|V d)=Z (.im .aP,f_ P (dR (dR W f J) d<|iH (W d) f) m z (WL++[f]) (Z<|.im<|V f)<|Z<|.im<|V d):=ve (a:=[V f]) ae ag rfl rfl rfl (by rw[hB];exact R1 y);have R:fm (aW<|WL++[f]) [.im (V d)]=Z (.im .aP,aW<|WL++[f]++[d]):=pa (by rw[cZ,fP];omega);have bG:dR (dR W f J) d (iH (W d) f)=d2.lh W f d J (iH (W d) f):=by
       funext b;unfold dR d2.lh;by_cases s:b=d
       ·rw[aH s,if_neg (by rw[s];exact B),aH s]
       ·rw[if_neg s,if_neg s]
      rw[bG]at D;refine⟨.a8,f_ P (d2.lh W f d J<|iH (W d) f) m z (WL++[f]++[d]) (Z<|.im<|V f)<|Z<|.im<|V d,bP A<|(Ab H).trans<|bP (gg O (dX rfl) rfl)<|bP (jk D)<|jk<|kW rfl rfl (dm rfl rfl) rfl rfl R rfl,.inl rfl,M-1,by omega,.inl ⟨_,WL++[f],d,z,h,_,_,rfl,ag,λb n=>?_,λb n i q=>?_,Iq,?_,?_⟩⟩
      ·rcases d8.mp n with c|c
       ·exact x b c
       ·rw[cR.mp c];exact p
      ·unfold d2.lh at q;split at q
       ·exact e f p i (by rw[a];simp[q])
       ·split at q
        ·exact e d ag i (L3 q)
        ·exact e b n i q
      ·have S:=zj (W:=W) (J:=J) ae p;have T:=zj (W:=dR W f J) (J:=iH (W d) f) ae ag;rw[hB,bG]at T;rw[a,cZ,fP]at S;have al:=P4 y;have:=tW y;rw[cZ,fP];omega
      ·omega
   ·exact⟨az,_,rF rfl rfl rfl,(λk=>by cases k),λ_=>⟨W,z,f,Wn,Wt,rfl,l,t,r⟩⟩) 1000000 5001 (f_ P W m [] ([]++[m]) X X) (.inl ⟨W,[],m,[],k,X,X,rfl,E,(λb n=>by cases n),e,g,by simp;exact F,by simp⟩) ∅
 refine⟨(z++[f]).reverse,u,?_,?_,?_,λb i=>(r b i).trans (d2.DL b i _).symm⟩
 ·unfold vg;refine eO (w:=f_ P u m (z++[f]) [] Wn Wt) rfl ?_ rfl;show yL [Z (.dL<|dn P W),Z<|.im<|V m,X,X,X,X]=_;unfold yL;refine bP (VQ:=[Z (.dL<|dn P W),Z<|.im<|V m,Z<|aW [],X,X,X]) (gg rfl (dX rfl) rfl) (bP (VQ:=f_ P W m [] [m] X X) (gg (kS (dm rfl rfl) rfl (fg rfl) rfl) (dX rfl) rfl)<|bP cv<|gf ?_);show Z (ak.im<|.tup ((z++[f]).map V).reverse,_)=Z (ak.im<|.tup<|(z++[f]).reverse.map V,_);rw[List.map_reverse]
 ·rw[List.head?_reverse];exact t
 ·rw[List.getLast?_reverse];exact l
abbrev bk:=aq×aq
variable{Q:List bk}
def bG(a:bk):aa:=(.tup [V a.1,V a.2])
def iz(W:aq->List aq)(a:bk):aq->List aq:=(dR (dR W a.1<|W a.1++[a.2]) a.2 (dR W a.1 (W a.1++[a.2]) a.2++[a.1]))
def iB(Q:List bk):aq->List aq:=(Q.foldl iz λ_=>[])
def PH{f:aq}(c:W f=[])(d:f∉P)(h:P.length<10000):putL (.dL<|dn P W) (.im<|V f) (.lst [])=Z (.dL<|dn (P++[f]) W):=by
 show (if aa.keys 7 (bJ f)=ab/\(dn P W).length<100000/\bJ f∉(dn P W).map (·.1) then Z (ak.dL<|dn P W++[(bJ f,[])]) else X)=_;have e:bJ f∉(dn P W).map (·.1):=by
  rw[GK];intro k;let⟨b,g,a⟩:=cL.mp k;exact d (h7 a ▸ g)
 rw[aH ⟨x8 f,by unfold dn;rw[br];omega,e⟩];unfold dn;rw[iM];show _=Z (ak.dL<|_++[(bJ f,(W f).map V)]);rw[c];rfl
theorem Bg{F Wd Wn:Option ak}:∀(b P:List aq) (B:Option ak),(P++b).Nodup->(P++b).length<10000->
  ∃d,dp (a6 3) nG (b.map V) [F,Wd,Z<|.dL<|dn P λ_=>[],B,Wn]=Z (.a8,[F,Wd,Z<|.dL<|dn (P++b) λ_=>[],d,Wn])
 |[],P,B,_,_=>⟨B,by rw[b4];rfl⟩
 |f::b,P,B,ae,e=>by
  have g:f∉P:=λc=>(c4.mp ae).2.2 f c f (.head _) rfl;let⟨d,h⟩:=Bg (F:=F) (Wd:=Wd) (Wn:=Wn) b (P++[f]) (Z<|.im<|V f) (by rw[bV];exact ae) (by rw[bV];exact e);refine⟨d,?_⟩;have i:=PH (W:=λ_=>[]) rfl g (by rw[cZ]at e;omega);have a:nG [F,Wd,Z<|.dL<|dn P λ_=>[],Z<|.im<|V f,Wn]=Z (.a8,[F,Wd,Z<|.dL<|dn (P++[f]) λ_=>[],Z<|.im<|V f,Wn]):=by
   unfold nG;refine ox rfl ?_;show (putL (.dL<|dn P λ_=>[]) (.im<|V f)<|.lst []).map _=_;rw[i];rfl
  rw[bH,dp];show (nG [F,Wd,Z<|.dL<|dn P λ_=>[],Z<|.im<|V f,Wn]).bind _=_;rw[a];rw[show P++f::b=P++[f]++b by simp];exact h
theorem Eg{F Wd B:Option ak}{P:List aq}(ae:P.Nodup):∀(Q:List bk) (W:aq->List aq) (Wn:Option ak),(∀a∈Q,a.1∈P/\a.2∈P)->(∀b,(W b).length+2*Q.length<10000)->
  ∃d,dp (a6 4) vQ (Q.map bG) [F,Wd,Z<|.dL<|dn P W,B,Wn]=Z (.a8,[F,Wd,Z<|.dL<|dn P<|Q.foldl iz W,B,d])
 |[],W,Wn,_,_=>⟨Wn,rfl⟩
 |a::Q,W,Wn,c,e=>by
  have f:=c a (.head _);have h:=e a.1;have g:∀b,(dR W a.1 (W a.1++[a.2]) b).length<=(W b).length+1:=λb=>by
   unfold dR;split
   ·rename_i k;rw[k,cZ,fP];omega
   ·omega
  have i:∀b,(iz W a b).length<=(W b).length+2:=λb=>by
   have:=g b;unfold iz;generalize dR W a.1 (W a.1++[a.2])=r at *;unfold dR;split
   ·rename_i k;rw[<-k,cZ,fP];omega
   ·omega
  let⟨d,j⟩:=Eg (F:=F) (Wd:=Wd) (B:=B) ae Q (iz W a) (Z<|.im<|bG a) (λo hd=>c o<|.tail _ hd) λb=>by
   have:=e b;have:=i b;rw[cn] at *;omega
  refine⟨d,?_⟩;rw[cn]at h;have l:fm (aW<|W a.1) [.im (V a.2)]=Z (.im .aP,aW<|W a.1++[a.2]):=pa (by omega);have m:fm (aW<|dR W a.1 (W a.1++[a.2]) a.2) [.im (V a.1)]=Z (.im .aP,aW<|dR W a.1 (W a.1++[a.2]) a.2++[a.1]):=pa (by
   have:=g a.2;have:=e a.2;rw[cn]at this;omega)
  have n:iI 2 (k0 4 0) fm (λw=>((k0 4 1) w).map λo=>[o]) [F,Wd,Z<|.dL<|dn P W,B,Z<|.im<|bG a]=Z (.im .aP,[F,Wd,Z<|.dL<|dn P<|dR W a.1<|W a.1++[a.2],B,Z<|.im<|bG a]):=ve (a:=[V a.2]) ae f.1 rfl rfl rfl l;have q:iI 2 (k0 4 1) fm (λw=>((k0 4 0) w).map λo=>[o]) [F,Wd,Z<|.dL<|dn P<|dR W a.1<|W a.1++[a.2],B,Z<|.im<|bG a]=Z (.im .aP,[F,Wd,Z<|.dL<|dn P<|iz W a,B,Z<|.im<|bG a]):=ve (a:=[V a.1]) ae f.2 rfl rfl rfl m;rw[bH,dp];show (vQ [F,Wd,Z<|.dL<|dn P W,B,Z<|.im<|bG a]).bind _=_;rw[show vQ [F,Wd,Z<|.dL<|dn P W,B,Z<|.im<|bG a]=Z (.a8,[F,Wd,Z<|.dL<|dn P<|iz W a,B,Z<|.im<|bG a]) from bP (jk n) (jk q)];exact j
def PI(r:aq)(p:List aq):dp (a6 3) nG ((r::p).map V) [F,Wd,Z<|.aB [],B,Wn]=dp (a6 3) nG (p.map V) [F,Wd,Z<|.dL<|dn [r] λ_=>[],Z<|.im<|V r,Wn]:=rfl
def S7(ne:P≠[])(ae:P.Nodup)(d:P.length<10000)(e:∀a∈Q,a.1∈P/\a.2∈P)(f:2*Q.length<10000):
  q1 [aK P,.im<|.tup<|Q.map bG]=Z (.dL<|dn P<|iB Q,[aK P,.im<|.tup<|Q.map bG]):=by
 let⟨r,p,rfl⟩:=qP ne;let⟨c,b⟩:=Bg (F:=Z (aK (r::p))) (Wd:=Z (.im<|.tup<|Q.map bG)) (Wn:=X) p [r] (Z<|.im<|V r) ae d;let⟨g,h⟩:=Eg (F:=Z (aK (r::p))) (Wd:=Z (.im<|.tup<|Q.map bG)) (B:=c) ae Q (λ_=>[]) X e λ_=>by simpa using f
 have b:=(PI (F:=Z (aK (r::p))) (Wd:=Z (.im<|.tup<|Q.map bG)) (B:=X) (Wn:=X) r p).trans b;unfold q1;refine eO (w:=[Z (aK (r::p)),Z<|.im<|.tup<|Q.map bG,Z .c2,c,g]) rfl ?_ rfl;show ye [Z (aK (r::p)),Z<|.im<|.tup<|Q.map bG,X,X,X]=_;unfold ye;exact bP (VQ:=[Z (aK (r::p)),Z<|.im<|.tup<|Q.map bG,Z<|.aB [],X,X]) rfl (bP (gZ (n:=X) (x:=(r::p).map V) rfl b rfl)<|bP (gZ (n:=X) (x:=Q.map bG) rfl h rfl) rfl)
def cO(a:bk)(b i:aq):Nat:=((if a.1=b/\a.2=i then 1 else 0)+if a.2=b/\a.1=i then 1 else 0)
def Sq(W:aq->List aq)(a:bk)(b i:aq):@List.count aq instBEqOfDecidableEq i (iz W a b)=@List.count aq instBEqOfDecidableEq i (W b)+cO a b i:=by
 have f:∀(J:List aq) (d:aq),@List.count aq instBEqOfDecidableEq i (J++[d])=@List.count aq instBEqOfDecidableEq i J+if d=i then 1 else 0:=λJ d=>by
  rw[@AF aq instBEqOfDecidableEq,@C2 aq instBEqOfDecidableEq,@List.count_nil aq instBEqOfDecidableEq];by_cases c:d=i<;>simp[c]
 unfold iz cO;by_cases t:a.2=b<;>by_cases l:a.1=b
 ·simp only[dR,l,t,gB,f];simp only[true_and];omega
 ·have e:¬ b=a.1:=λk=>l k.symm;simp only[dR,t,gB,f,e,fO,l,false_and];simp only[true_and];omega
 ·have g:¬ b=a.2:=λk=>t k.symm;simp only[dR,l,gB,f,g,fO,t,false_and];simp only[true_and];omega
 ·have e:¬ b=a.1:=λk=>l k.symm;have g:¬ b=a.2:=λk=>t k.symm;simp only[dR,e,g,l,t,fO,false_and];omega
theorem Jo(b i:aq):∀(Q:List bk) (W:aq->List aq),@List.count aq instBEqOfDecidableEq i (Q.foldl iz W b)=@List.count aq instBEqOfDecidableEq i (W b)+(Q.map λa=>cO a b i).sum
 |[],W=>rfl
 |a::Q,W=>by rw[kH,Jo b i Q<|iz W a,Sq,bH,g0];omega
def Ot(Q:List bk)(b i:aq):@List.count aq instBEqOfDecidableEq i (iB Q b)=(Q.map λa=>cO a b i).sum:=by
 unfold iB;rw[Jo];simp
def cW(h d:aq):Bool:=(a9 (V h) (V d))
def Ox(b i:aq):cW b i=if b.1=i.1 then decide (b.2<i.2) else decide (b.1<i.1):=by
 have d:∀j A:Int,aa.beq (.int<|j) (.int A)=decide (j=A):=λj A=>by rw[aa.beq]
 show (if aa.beq (.int b.1) (.int i.1)=ab then (if aa.beq (.int b.2) (.int i.2)=ab then az else decide (b.2<i.2)) else decide (b.1<i.1))=_;rw[d,d];by_cases l:b.1=i.1
 ·rw[bW l,aH rfl,aH l];by_cases t:b.2=i.2
  ·rw[bW t,aH rfl,t,decide_eq_false<|G0 _]
  ·rw[decide_eq_false t,if_neg dw]
 ·rw[decide_eq_false l,if_neg dw,if_neg l]
def hk(b i:aq):cW b i=ab↔b.1<i.1\/b.1=i.1/\b.2<i.2:=by
 rw[Ox];split
 ·rename_i c;rw[fu];omega
 ·rename_i c;rw[fu];omega
def rT{f:aq}:o∈bw f↔(o.1=f.1-1/\o.2=f.2)\/(o.1=f.1/\o.2=f.2-1)\/(o.1=f.1/\o.2=f.2+1)\/(o.1=f.1+1/\o.2=f.2):=by
 unfold bw;simp only[bR,lE,jL,mV]
def lu{f:aq}(c:o∈bw f):f∈bw o:=by
 rw[rT] at *;omega
def ob{f:aq}(c:o∈bw f):o≠f:=λa=>by
 rw[rT,a]at c;omega
def qB(f:aq):(bw f).Nodup:=by
 have v:∀{h d b i:Int},h≠b\/d≠i->((h,d):aq)≠(b,i):=λc a=>c.elim (λc=>c<|congrArg Prod.fst a) λc=>c (congrArg Prod.snd a);unfold bw;refine dD.mpr ⟨?_,dD.mpr ⟨?_,dD.mpr ⟨?_,dD.mpr ⟨lE,ht⟩⟩⟩⟩
 ·intro k;rcases bR.mp k with k|k
  ·exact v (.inl (by omega)) k
  rcases bR.mp k with k|k
  ·exact v (.inl (by omega)) k
  ·exact v (.inl (by omega)) (cR.mp k)
 ·intro k;rcases bR.mp k with k|k
  ·exact v (.inr (by omega)) k
  ·exact v (.inl (by omega)) (cR.mp k)
 ·intro k;exact v (.inl (by omega)) (cR.mp k)
def cV(Y:List aq)(f:aq):List aq:=((bw f).filter λo=>decide (o∈Y))
def qd{f:aq}:o∈cV Y f↔o∈bw f/\o∈Y:=by
 unfold cV;rw[fE,fu]
def hL(Y VU:List aq):List bk:=(VU.flatMap λf=>((cV Y f).filter<|cW f).map λo=>(f,o))
abbrev cA(Y:List aq):List bk:=hL Y Y
def eW{a:bk}:a∈cA Y↔a.1∈Y/\a.2∈Y/\a.2∈bw a.1/\cW a.1 a.2=ab:=by
 unfold cA hL;rw[pL];constructor
 ·rintro⟨f,e,c⟩;let⟨o,hd,rfl⟩:=cL.mp c;let⟨l,t⟩:=fE.mp hd;let⟨b,d⟩:=qd.mp l;exact⟨e,d,b,t⟩
 ·rintro⟨l,t,b,d⟩;exact⟨a.1,l,cL.mpr ⟨a.2,fE.mpr ⟨qd.mpr ⟨b,t⟩,d⟩,rfl⟩⟩
theorem jU{Y:List aq}:∀{VU:List aq},VU.Nodup->(hL Y VU).Nodup
 |[],_=>ht
 |f::VU,ae=>by
  have ae:=dD.mp ae;unfold hL;rw[oM];refine c4.mpr ⟨tj _ (λh d v a=>v (Prod.mk.inj a).2)<|((qB f).filter _).filter _,jU ae.2,λb e i g a=>?_⟩;let⟨o,W,rfl⟩:=cL.mp e;let⟨k,j,c⟩:=pL.mp g;let⟨l,W,rfl⟩:=cL.mp c;exact ae.1 ((Prod.mk.inj a).1 ▸ j)
theorem Jm{Y:List aq}:∀VU:List aq,(hL Y VU).length<=4*VU.length
 |[]=>bB _
 |f::VU=>by
  have a:=Jm (Y:=Y) VU;unfold hL at a ⊢;rw[oM,cZ,br,cn];have l:((cV Y f).filter<|cW f).length<=(cV Y f).length:=j_ _ _;have t:(cV Y f).length<=(bw f).length:=j_ _ _;have b:(bw f).length=4:=rfl;omega
def b5{V7:Type}[DecidableEq V7](a:V7)(J:List V7):Nat:=((J.map λo=>if o=a then 1 else 0).sum)
def f6[DecidableEq V7](a h:V7)(J:List V7):b5 a (h::J)=(if h=a then 1 else 0)+b5 a J:=by unfold b5;rw[bH,g0]
theorem oj{V7:Type}[DecidableEq V7](a:V7):∀J M:List V7,b5 a (J++M)=b5 a J+b5 a M
 |[],M=>(oo _).symm
 |h::J,M=>by rw[lJ,f6,f6,oj a J M,qn]
theorem jO{V7:Type}[DecidableEq V7](a:V7):∀J:List V7,J.count a=b5 a J
 |[]=>rfl
 |h::J=>by
  rw[C2,f6,jO a J,uJ];congr 1;by_cases c:h=a
  ·rw[aH c,aH ⇑c]
  ·rw[if_neg c,if_neg ⇑c]
def ji[DecidableEq V7]{a:V7}{J:List V7}(c:a∉J):b5 a J=0:=by rw[<-jO];exact JP.mpr c
def AS[DecidableEq V7]{a:V7}{J:List V7}(c:1<=b5 a J):a∈J:=by rw[<-jO]at c;exact mQ.mp c
def lS[DecidableEq V7]{a:V7}{J:List V7}(ae:J.Nodup)(c:a∈J):b5 a J=1:=by
 have l:=C9.mp ae a;have t:=mQ.mpr c;rw[jO]at l t;omega
def EZ[DecidableEq V7]{J M:List V7}(c:∀a,b5 a J=b5 a M):J.Perm M:=List.perm_iff_count.mpr λa=>by rw[jO,jO,c]
def cS(Q:List bk)(b:aq):Nat:=((Q.map λa=>(if a.1=b then 1 else 0)+if a.2=b then 1 else 0).sum)
def RZ(Q:List bk)(b i:aq):(Q.map λa=>cO a b i).sum=b5 (b,i) Q+b5 (i,b) Q:=by
 unfold b5;rw[<-d2.sum_add];congr 1;refine gr λa Y=>?_;unfold cO;have f:∀(h d:aq),(if a.1=h/\a.2=d then 1 else 0)=if a=(h,d) then 1 else 0:=λh d=>by
  by_cases c:a=(h,d)
  ·rw[aH c,aH ⟨congrArg Prod.fst c,congrArg Prod.snd c⟩]
  ·rw[if_neg c,if_neg λk=>c<|m4 k.1 k.2]
 rw[f,<-f i b];congr 1;by_cases c:a.2=b/\a.1=i
 ·rw[aH c,aH ⟨c.2,c.1⟩]
 ·rw[if_neg c,if_neg λk=>c ⟨k.2,k.1⟩]
def F6(Q:List bk)(b i:aq):b5 i (iB Q b)=b5 (b,i) Q+b5 (i,b) Q:=by
 rw[<-jO,Ot,RZ]
def NZ(W:aq->List aq)(a:bk)(b:aq):(iz W a b).length=(W b).length+((if a.1=b then 1 else 0)+if a.2=b then 1 else 0):=by
 unfold iz;by_cases t:a.2=b<;>by_cases l:a.1=b
 ·simp only[dR,l,t,gB,cZ,fP]
 ·have c:¬ b=a.1:=λk=>l k.symm;simp only[dR,t,gB,c,fO,l,cZ,fP]
 ·have d:¬ b=a.2:=λk=>t k.symm;simp only[dR,l,gB,d,fO,t,cZ,fP]
 ·have c:¬ b=a.1:=λk=>l k.symm;have d:¬ b=a.2:=λk=>t k.symm;simp only[dR,c,d,l,t,fO];omega
theorem Bm(b:aq):∀(Q:List bk) (W:aq->List aq),(Q.foldl iz W b).length=(W b).length+cS Q b
 |[],W=>rfl
 |a::Q,W=>by rw[kH,Bm b Q,NZ];unfold cS;rw[bH,g0];omega
theorem we(Q:List bk)(b:aq):(iB Q b).length=cS Q b:=(Bm b Q _).trans (oo _)
def yi(b:aq)(Q Y:List bk):cS (Q++Y) b=cS Q b+cS Y b:=by
 unfold cS;rw[iM,List.sum_append]
def xH(ae:Y.Nodup){b:aq}(a:b∈Y):cS (cA Y) b=(cV Y b).length:=by
 rw[<-we];refine (EZ λi=>?_).length_eq;rw[F6];have v:=jU (Y:=Y) ae;have e:(cV Y b).Nodup:=(qB b).filter _;by_cases c:i∈cV Y b
 ·rw[lS e c];let⟨l,t⟩:=qd.mp c;have d:=rT.mp l;cases J:cW b i with
  |true=>
   rw[lS v (eW.mpr ⟨a,t,l,J⟩),ji];intro k;have:=(hk _ _).mp (eW.mp k).2.2.2;have:=(hk _ _).mp J;dsimp only at *;omega
  |false=>
   have f:cW i b=ab:=by
    rw[hk];have:¬ cW b i=ab:=by rw[J];exact dw
    rw[hk]at this;omega
   rw[ji,lS v<|eW.mpr ⟨t,a,lu l,f⟩];intro k;have:=(eW.mp k).2.2.2;rw[J]at this;cases this
 ·rw[ji c,ji,ji]
  ·exact λk=>c (qd.mpr ⟨lu (eW.mp k).2.2.1,(eW.mp k).1⟩)
  ·exact λk=>c (qd.mpr ⟨(eW.mp k).2.2.1,(eW.mp k).2.1⟩)
def N3{b:aq}(c:∀a∈Q,a.1≠b/\a.2≠b):cS Q b=0:=by
 induction Q with
 |nil=>rfl
 |cons a Q d=>
  unfold cS at *;rw[bH,g0,if_neg (c a<|.head _).1,if_neg (c a<|.head _).2,d λo hd=>c o<|.tail _ hd]
def Bi(ae:Y.Nodup){Q:List bk}(c:∀a∈Q,a.1∈Y/\a.2∈Y):(Y.map λb=>cS Q b).sum=2*Q.length:=by
 induction Q with
 |nil=>exact d2.Cw Y
 |cons a Q d=>
  have d:=d λo hd=>c o (.tail _ hd);have e:(Y.map λb=>cS (a::Q) b)=Y.map λb=>((if a.1=b then 1 else 0)+if a.2=b then 1 else 0)+cS Q b:=gr λb W=>by unfold cS;rw[bH,g0]
  rw[e,d2.sum_add,d2.sum_add,d2.qA ae (c a<|.head _).1,d2.qA ae (c a<|.head _).2,d,cn];omega
theorem Hp(z:aq->Nat):∀J:List aq,(J.map z).sum%2=(J.filter λb=>decide (z b%2=1)).length%2
 |[]=>rfl
 |b::J=>by
  have a:=Hp z J;rw[bH,g0];by_cases c:z b%2=1
  ·rw[rA (by rw[bW c]),cn];omega
  ·rw[p5 (by rw[decide_eq_false c];exact dw)];omega
def jn(VU T:List (Int×Int)):Nat:=(VU.countP λf=>decide (f∉T))
def Rx{T:List (Int×Int)}(l:f∈VU)(t:f∉T):jn VU (T++[f])<jn VU T:=by
 unfold jn;refine An (λb c a=>?_) ⟨f,l,bW t,decide_eq_false λk=>k<|er _<|.head _⟩;exact bW λk=>e_ a (eb _ k)
def Tc{WG:List V7}(c:WG≠[]):∃a C,WG=a++[C]:=⟨WG.dropLast,WG.getLast c,(List.dropLast_concat_getLast c).symm⟩
def AD(q:Int×Int):dM [aa.int q.1,.int q.2] 0=Z (.int q.1):=rfl
def wu(q:Int×Int):dM [aa.int q.1,.int q.2] 1=Z (.int q.2):=rfl
def zy{j:Int}(a:0<=j)(c:VU[j.toNat]?=Z f):dM (VU.map V) j=Z (V f):=m6 a (by rw[gC,c];rfl)
def GO(VV:List (Int×Int))(f:Int×Int):hn (V f) (aW VV)=Z (decide (f∈VV)):=by
 rw[TB,o8,rj,A5];rfl
def C6(VV:List (Int×Int))(f:Int×Int):hn (V f) (aK VV)=Z (decide (f∈VV)):=by
 rw[SH,o8,rj,A5];rfl
def iT(f:Int×Int):Prop:=(0<=f.1/\f.1<25/\0<=f.2/\f.2<25)
def Ki{M:Int}{s:Option ak}(g:et (v+2) c)(u:VU≠[])(T:VU.length<=500)(x:∀f∈VU,iT f):
  ∃ar h z,ue [Z c,Z<|aE M,Z<|aW VU,s,Wn]=Z (.a8,[Z ar,Z<|aE M,Z<|aW h,s,z])/\et v ar/\h≠[]/\h.length<=VU.length+1/\∀f∈h,iT f:=by
 have U:=kU.mpr u;let⟨y,@l,A,B,al,VT⟩:=iY (v:=v+1) (M:=(VU.length:Int)) g ⋯ ⋯;obtain⟨f,a⟩:∃f,VU[y.toNat]?=Z f:=⟨VU[y.toNat]'⋯,by simp⟩;let⟨m,@t,C,dJ,dr,V8⟩:=iY (v:=v) (M:=4) VT ⋯ ⋯;obtain⟨n,D⟩:∃n,(bw f)[m.toNat]?=Z n:=⟨(bw f)[m.toNat]'(by show m.toNat<4;lia),by simp⟩;have E:=zy B a;have F:=zy dJ D;have H:=rO f;let⟨@I,rfl⟩:=g.lst;let⟨@am,rfl⟩:=VT.lst;let⟨@e,rfl⟩:=V8.lst;have r:bI 4 (ac bg (ai<|aZ 1 G.hT<|ao (ai<|ac bg (aj 2)<|ai<|aZ 2 G.e3<|ao (aj 0)<|ao (ai<|bF cH<|ao (aj 2) ay) ay) ay)<|ai<|aZ 2 G.e3<|ao (aj 0)<|ao (ai<|aG<|.int 4) ay) [Z (.lst I),Z<|aE M,Z<|aW VU,s,Wn]=Z (.a8,[Z (.lst e),Z<|aE M,Z<|aW VU,s,Z<|.im<|V n]):=by
  simp -implicitDefEqProofs [A,E,H,C,F]
 have J:=GO VU n;have WL:=AD n;have L:=wu n;obtain⟨w,b⟩:∃w:aU,w=[Z (.lst e),Z<|aE M,Z<|aW VU,s,Z<|.im<|V n]:=⟨_,rfl⟩;rw[<-b]at r;have N:bO (ac hx (aj 4)<|aj 2) w=Z (!decide (n∈VU),w):=by
  rw[b];show (((hn (V n)<|aW VU).map λp=>ak.im<|.aJ<|!p).map λo=>(o,[Z (.lst e),Z<|aE M,Z<|aW VU,s,Z<|.im<|V n])).bind (λq=>(nV q.1).map λd=>(d,q.2))=_;rw[J];rfl
 have O:bO (m7 hQ hQ (ai<|aG<|.int 0) (ai<|ac bg (aj 4)<|ai<|aG<|.int 0)<|ai<|aG<|.int 24) w=Z (decide (0<=n.1)&&decide (n.1<=24),w):=by
  rw[b];by_cases k:0<=n.1<;>simp -implicitDefEqProofs [V,WL,k]
 have P:bO (m7 hQ hQ (ai<|aG<|.int 0) (ai<|ac bg (aj 4)<|ai<|aG<|.int 1)<|ai<|aG<|.int 24) w=Z (decide (0<=n.2)&&decide (n.2<=24),w):=by
  rw[b];by_cases k:0<=n.2<;>simp -implicitDefEqProofs [V,L,k]
 have fin:∀d:Bool,d=(!decide (n∈VU)&&((decide (0<=n.1)&&decide (n.1<=24))&&(decide (0<=n.2)&&decide (n.2<=24))))->
   g6 (bO<|ac hx (aj 4)<|aj 2) (g6 (bO<|m7 hQ hQ (ai<|aG<|.int 0) (ai<|ac bg (aj 4)<|ai<|aG<|.int 0)<|ai<|aG<|.int 24)<|bO<|m7 hQ hQ (ai<|aG<|.int 0) (ai<|ac bg (aj 4)<|ai<|aG<|.int 1)<|ai<|aG<|.int 24) w=Z (d,w):=by
  intro d ag;rw[ag];simp -implicitDefEqProofs only[g6,N,O,P,pV];generalize (decide (0<=n.1)&&decide (n.1<=24))=i;generalize (decide (0<=n.2)&&decide (n.2<=24))=k;cases decide (n∈VU)<;>cases i<;>rfl
 unfold ue;by_cases j:n∉VU/\0<=n.1/\n.1<=24/\0<=n.2/\n.2<=24
 ·have Q:=fin ab (by simp[j]);refine⟨.lst e,VU++[n],Z<|.im<|V n,(gI r).trans<|(Ab Q).trans ?_,V8,by simp,by simp,λf a=>?_⟩
  ·have R:VU.length<100000:=⋯
   rw[b];simp -implicitDefEqProofs [f9,R]
  ·rcases d8.mp a with a|a
   ·exact x f a
   ·rw[cR.mp a];exact⟨j.2.1,⋯,j.2.2.2.1,⋯⟩
 ·have S:=fin az (by
   cases k:(!decide (n∈VU)&&((decide (0<=n.1)&&decide (n.1<=24))&&(decide (0<=n.2)&&decide (n.2<=24)))) with
   |false=>rfl
   |true=>
    simp at k;exact absurd ⟨k.1,k.2.1.1,k.2.1.2,k.2.2.1,k.2.2.2⟩ j)
  exact⟨.lst e,VU,Z<|.im<|V n,(gI r).trans ((zi S).trans (by rw[b];rfl)),V8,u,⋯,x⟩
def Pb(j A:Int):mG [.im (.int j),.im<|.int A]=Z (.im<|.int<|if A>j then A else j):=rfl
def LC(j A:Int):mH [.im (.int j),.im<|.int A]=Z (.im<|.int<|if A<j then A else j):=rfl
theorem Dq{V7 WQ:Type}(z:V7->WQ):∀(J:List V7) (s:Nat),(J.map z).eraseIdx s=(J.eraseIdx s).map z
 |[],_=>rfl
 |_::_,0=>rfl
 |h::J,s+1=>by simp[Dq z J s]
def lx(C:Int)(v:Nat):List (Int×Int):=((range v).map λ(s:Nat)=>((0+(s:Int))/C,(0+(s:Int))%C))
def I8(C:Int)(v:Nat):(lx C v).length=v:=by rw[lx,br,mj]
def Lo(a:0<C)(g:C<=7)(h:(v:Int)<=7*C):∀f∈lx C v,iT f:=by
 intro f b;let⟨s,c,rfl⟩:=cL.mp b;have:=j4.mp c;have d:0<=(0+(s:Int))/C:=BZ ⋯ ⋯;have i:(0+(s:Int))/C<7:=Int.ediv_lt_of_lt_mul a ⋯;have e:=kk (0+(s:Int)) (show C≠0 by lia);have j:=lV (0+(s:Int)) a;exact⟨d,by show (0+(s:Int))/C<25;lia,e,by show (0+(s:Int))%C<25;lia⟩
def T4{a:Int}(c:0<C)(d:C<=7)(f:0<a)(g:a<=7):
  bI 5 (cE 1 [3] (hu<|ao (ai<|ac iW (aj 4)<|aj 3) ay) (a6 0) ei G.yh) [F,Wd,Wu,Z<|aE C,Z<|aE a,Wt,e,D,L,E]=Z (.a8,[F,Wd,Wu,Z<|aE C,Z<|aE a,Z<|aW<|lx C (a*C).toNat,e,D,L,E]):=by
 obtain⟨v,b⟩:∃v:Int,v=a*C:=⟨_,rfl⟩;have Xd:0<v:=by rw[b];exact Dn f c
 have j:v<=49:=by
  rw[b];have:=EK g d ⋯ ⋯;lia
 have h:jd v:=⟨⋯,⋯⟩;have mk:hD a C=ab:=nP ⋯ ⋯;rw[<-b];refine (z3 (o:=aW (lx C v.toNat)) (VQ:=[F,Wd,Wu,Z<|aE C,Z<|aE a,Wt,e,D,L,E]) ?_ (show 5<10 by decide)).trans rfl;refine (nj (x:=eY 0 v.toNat) (n:=X) (VQ:=[F,Wd,Wu,Z<|aE C,Z<|aE a,Wt,e,D,L,E]) ?_ (lb _ (λ(s:Nat)=>V ((0+(s:Int))/C,(0+(s:Int))%C)) _ (λs k=>?_) (by rw[mj];lia))).trans ?_
 ·simp -implicitDefEqProofs [mk,<-b,h]
 ·have i:C<1073741824:=⋯
  exact⟨[Z (aE<|0+(s:Int)),Z<|aE C],_,[Z (aE<|0+(s:Int)),Z<|aE C],rfl,rfl,by simp -implicitDefEqProofs [yh,c,i,V],rfl⟩
 ·show Z (ak.lst _,_)=Z (ak.lst<|(lx C v.toNat).map V,_);unfold lx;rw[es];rfl
def QT(r:Nat){c:ak}{VU:List (Int×Int)}{e:Option ak}(g:et (v+200) c)(Q:r<VU.length)(R:VU.length<=100)(p:∀f∈VU,iT f):
  ∃ar h q,dp (a6 6) pk (eY 0 r) [Z c,Wd,Wu,B,Wn,Z<|aW VU,e,D,L,E]=Z (.a8,[Z ar,Wd,Wu,B,Wn,Z<|aW h,q,D,L,E])/\et v ar/\h≠[]/\h.length<=VU.length/\∀f∈h,iT f:=by
 let⟨@Wb,cv,⟨t,a,@s,rfl,V8,i,u⟩⟩:=vm (Wl:=a6 6) (d:=pk) (x:=eY 0 r) (λj w=>∃c a e,w=[Z c,Wd,Wu,B,Wn,Z<|aW a,e,D,L,E]/\et (v+200-j) c/\a.length+j=VU.length/\∀f∈a,iT f) (w:=[Z c,Wd,Wu,B,Wn,Z<|aW VU,e,D,L,E]) ⟨c,VU,e,rfl,g,rfl,p⟩
  (λj b w y dG=>by
   let⟨c,a,@e,rfl,n,Wz,z⟩:=dG;have VW:j<r:=by
    have:=(fM.mp y).1
    rwa [eY,br,mj]at this
   let⟨C,@l,A,F,G,VT⟩:=iY (v:=v+200-(j+1)) (M:=(a.length:Int)) (n.mono ⋯) ⋯ ⋯;obtain⟨f,m⟩:∃f,a[C.toNat]?=Z f:=⟨a[C.toNat]'⋯,by simp⟩;let⟨@H,rfl⟩:=n.lst;let⟨@o,rfl⟩:=VT.lst;refine⟨[Z (.lst H),Wd,Wu,B,Wn,Z<|aW a,Z<|.im b,D,L,E],.a8,[Z (.lst o),Wd,Wu,B,Wn,Z<|aW<|a.eraseIdx C.toNat,Z<|.im b,D,L,E],rfl,?_,.inl rfl,.lst o,a.eraseIdx C.toNat,_,rfl,VT,?_,λf m=>z f<|List.mem_of_mem_eraseIdx m⟩
   ·have I:(a.map V)[C.toNat]?=Z (V f):=by rw[gC,m];rfl
    have J:(0<=C/\C<((a.map V).length:Int)):=⟨F,by rw[br];exact G⟩;have N:=Dq V a C.toNat;have O:qV (aW a) [aE C]=Z (.im<|V f,aW<|a.eraseIdx C.toNat):=by
     show (if 0<=C/\C<((a.map V).length:Int) then _ else X)=_;rw[aH J,I,N];rfl
    simp -implicitDefEqProofs [pk,f9,A,O,-qV]
   ·rw[EM,aH ⋯];lia)
 have P:(eY 0 r).length=r:=by rw[eY,br,mj]
 rw[P]at V8 i;exact⟨t,a,s,cv,V8.mono ⋯,λk=>by rw[k]at i;simp at i;lia,⋯,u⟩
def odd(f:Int×Int):Bool:=(decide (f.1%2*(f.2%3%2)=0))
def Pw(c:VU.length<=1000):
  bI 5 (cE 1 [] (bY<|aj 5) (a6 0) G.sY G.yN) [F,Wd,Wu,B,Wn,Z<|aW VU,e,D,L,E]=Z (.a8,[F,Wd,Wu,B,Wn,Z<|aW<|VU.filter odd,e,D,L,E]):=by
 refine (z3 (o:=aW (VU.filter odd)) (VQ:=[F,Wd,Wu,B,Wn,Z<|aW VU,e,D,L,E]) ?_ (show 5<10 by decide)).trans rfl;refine (nj (x:=VU.map V) (n:=Z (5,aW VU)) (VQ:=[F,Wd,Wu,B,Wn,Z .c2,e,D,L,E]) rfl (iw _ odd V _ _ (λf d=>?_) (by rw[fy];lia))).trans rfl;have a:=AD f;have b:=wu f;have mk:hD (f.1%2) (f.2%3%2)=ab:=by
  have:=kk (f.2%3) (show (2:Int)≠0 by decide);have:=lV (f.2%3) (show (0:Int)<2 by decide);exact nP ⋯ ⋯
 refine⟨[Z (.im<|V f)],[Z (.im<|V f)],rfl,?_,λ_=>rfl,λ_=>⟨[Z (.im<|V f)],rfl,rfl⟩⟩;simp -implicitDefEqProofs [sY,V,a,b,mk,odd];rfl
def Mz(c:0<v):(0,0)∈lx C v:=by
 refine cL.mpr ⟨0,j4.mpr c,?_⟩;show ((0:Int)/C,(0:Int)%C)=_;rw[Int.zero_ediv,Int.zero_emod]
def mid:bl:=((ep (i2 (bO<|ac ey (aj 2)<|ai<|aG<|.int 1)<|bO<|ac ey (aj 2)<|ai<|aG<|.int 2) (eE (hu<|ao (ai<|aZ 2 G.e3<|ao (aj 0)<|ao (ai<|ac dd (ai<|aG<|.int 1)<|ai<|ac mX (ai<|bF cH<|ao (aj 5) ay)<|ai<|aG<|.int 2) ay) ay) (a6 6) G.pk)<|ep (bO<|ac ey (aj 2)<|ai<|aG<|.int 3) (bI 5<|cE 1 [] (bY<|aj 5) (a6 0) G.sY G.yN)<|ep (bO<|ac lK (aj 2)<|ai<|aG<|.int 3) (bI 5<|aZ 2 G.pG<|ao (aj 0)<|ao (aj 1) ay) fY))
def GZ(g:et (v+1) c):∃(m:Int) (ar:ak),nr [F,Z c]=Z (aE m,[F,Z ar])/\0<=m/\m<7/\et v ar:=by
 let⟨r,@l,a,h,i,VT⟩:=iY (v:=v) (M:=4) g ⋯ ⋯;let⟨@j,rfl⟩:=g.lst;let⟨@b,rfl⟩:=VT.lst;have d:r=0\/r=1\/r=2\/r=3:=⋯
 obtain⟨m,e,W2,f⟩:∃m:Int,dM [aa.int 0,.int 0,.int 6,.int 3] r=Z (.int m)/\0<=m/\m<7:=by
  rcases d with rfl|rfl|rfl|rfl
  ·exact⟨0,rfl,by decide,by decide⟩
  ·exact⟨0,rfl,by decide,by decide⟩
  ·exact⟨6,rfl,by decide,by decide⟩
  ·exact⟨3,rfl,by decide,by decide⟩
 exact⟨m,.lst b,by simp -implicitDefEqProofs [nr,a,e],W2,f,VT⟩
def OX(g:et (v+2) c):∃(m H:Int) (ar:ak),gs (cE 1 [0] (hu<|ao (ai<|aG<|.int 2) ay) (a6 0) ei G.nr) (vn 2<|eP (a6 8)<|eP (a6 9) h_) [Z c,Wd,Wu,B,Wn,Wt,e,D,L,E]=Z (.a8,[Z ar,Wd,Wu,B,Wn,Wt,e,D,Z<|aE m,Z<|aE H])/\(0<=m/\m<7/\0<=H/\H<7)/\et v ar:=by
 let⟨m,@l,a,W2,b,VT⟩:=GZ (v:=v+1) (F:=Z (aE 0)) g;let⟨H,@t,d,f,h,V8⟩:=GZ (v:=v) (F:=Z (aE 1)) VT;refine⟨m,H,t,?_,⟨W2,b,f,h⟩,V8⟩;have cT:gn 1 (a6 0) ei nr [.int 0,.int 1] [] [Z c]=Z ([.int m,.int H],[Z t]):=by
  show (nr [Z (aE 0),Z c]).bind _=_;rw[a];show (nr [Z (aE 1),Z l]).bind _=_;rw[d];rfl
 have ce:=nj (Wk:=[0]) (S:=hu (ao (ai<|aG<|.int 2) ay)) (w:=[Z c,Wd,Wu,B,Wn,Wt,e,D,L,E]) (VQ:=[Z c,Wd,Wu,B,Wn,Wt,e,D,L,E]) (n:=X) (x:=[.int 0,.int 1]) rfl cT;unfold gs;rw[ce];rfl
def TL{a:List (Int×Int)}{m H:Int}(d:a.length<=1000):
  bF jR (ao (ai<|cE 1 [8,9] (bY<|aj 7) (a6 0) ei G.u6) ay) [F,Wd,Wu,B,Wn,Wt,e,Z<|aK a,Z<|aE m,Z<|aE H]=Z (aK<|a.map λf=>(f.1+m,f.2+H),[F,Wd,Wu,B,Wn,Wt,e,Z<|aK a,Z<|aE m,Z<|aE H]):=by
 have ce:cE 1 [8,9] (bY<|aj 7) (a6 0) ei G.u6 [F,Wd,Wu,B,Wn,Wt,e,Z<|aK a,Z<|aE m,Z<|aE H]=Z (aW<|a.map λf=>(f.1+m,f.2+H),[F,Wd,Wu,B,Wn,Wt,e,Z<|aK a,Z<|aE m,Z<|aE H]):=by
  refine (nj (x:=a.map V) (n:=X) (VQ:=[F,Wd,Wu,B,Wn,Wt,e,Z<|aK a,Z<|aE m,Z<|aE H]) rfl (lb _ (λf=>V (f.1+m,f.2+H)) _ (λf g=>?_) ⋯)).trans ?_
  ·have b:=AD f;have c:=wu f;exact⟨[Z (.im<|V f),Z<|aE m,Z<|aE H],_,[Z (.im<|V f),Z<|aE m,Z<|aE H],rfl,rfl,by simp -implicitDefEqProofs [u6,V,b,c],rfl⟩
  ·show Z (ak.lst _,_)=Z (ak.lst<|(a.map λf=>(f.1+m,f.2+H)).map V,_);rw[es];rfl
 simp -implicitDefEqProofs only[bF,ao,ai,ce,pV,qv,y0,Il,JT,Jc,jR,mm]
abbrev cz:=Int×Int
variable{d:cz}{T:List cz}
inductive dT (VU:List cz) (m:cz):cz->Prop
 | self:dT VU m m
 | step {h d:cz}:dT VU m h->d∈VU->d∈bw h->dT VU m d
def sl(VU:List cz):Prop:=(VU.Pairwise λh d=>a9 (V h) (V d)=ab)
def QR(ae:T.Nodup)(a:T.length<=63):∃VU:List cz,iD (T.map V)=Z (aW VU)/\VU.Perm T/\sl VU:=by
 have n:=Pe ae a;let⟨VU,l,t⟩:=MV (i1<|T.map V);refine⟨VU,?_,l,?_⟩
 ·unfold iD;rw[aH (pf.mpr n),t]
 ·have:=AL n.ord.ae n.ord.jf;rw[t]at this;exact jI.mp this
structure mB(VU:List cz)(d:cz)(T WG:List cz)(C:cz)(V4:List cz):Prop where
 ae:T.Nodup
 rk:d∈T
 con:∀f∈T,dT VU d f
 gd:T.length+jn VU T<=VU.length+1
 wl:WG.length<=T.length
 fl:∀f∈WG,f∈T
 cl:∀f∈T,f∉WG->∀o∈bw f,o∈VU->o∈T\/(f=C/\o∈V4)
abbrev hz(F:Option ak)(VU:List cz)(d:cz)(T WG:List cz)(Wt:Option ak):aU:=[F,Z<|.im<|V d,Z<|.aB<|gz<|aQ VU,Z<|.aB<|aQ T,Z<|aW WG,Wt]
def Gt{VU:List cz}{f C:cz}{WG V4:List cz}(z:VU.length<=500)(m:C∈T)(s:f∈bw C)(V0:mB VU d T WG C (f::V4)):
  ∃n q,nA (hz F VU d T WG<|Z<|.im<|V f)=Z (.a8,hz F VU d n q<|Z<|.im<|V f)/\mB VU d n q C V4/\C∈n/\2*jn VU n+q.length<=2*jn VU T+WG.length:=by
 have g:(cq (gz<|aQ VU)<|bJ f).isSome=decide (f∈VU):=QX VU f;have p:(cq (aQ T)<|bJ f).isSome=decide (f∈T):=EF T f;have r:=l5 f;have A:=V0.gd;have B:=V0.wl;by_cases l:f∈VU
 ·by_cases t:f∈T
  ·refine⟨T,WG,?_,⟨V0.ae,V0.rk,V0.con,V0.gd,V0.wl,V0.fl,λb e h o hd j=>?_⟩,m,bB _⟩
   ·rw[bW l]at g;rw[bW t]at p;simp -implicitDefEqProofs [nA,p9,r,g,p]
   ·rcases V0.cl b e h o hd j with c|⟨c,ar⟩
    ·exact .inl c
    ·rcases bR.mp ar with rfl|ar
     ·exact .inl t
     ·exact .inr ⟨c,ar⟩
  ·rw[bW l]at g;rw[decide_eq_false t]at p;have I:=Rx l t;refine⟨T++[f],WG++[f],?_,⟨?_,eb _ V0.rk,λb e=>?_,?_,by simp;exact V0.wl,λb e=>?_,λb e h o hd j=>?_⟩,eb _ m,by simp;lia⟩
   ·have u:=Cd t;have v:(aQ T).length<100000:=by unfold aQ;rw[br];lia
    have w:WG.length<100000:=⋯
    simp -implicitDefEqProofs [nA,p9,r,g,p,u,v,w,f9]
   ·exact c4.mpr ⟨V0.ae,e4 _ _,λb e i x a=>t (by rw[cR.mp x]at a;rw[<-a];exact e)⟩
   ·rcases d8.mp e with e|e
    ·exact V0.con b e
    ·rw[cR.mp e];exact .step (V0.con C m) l s
   ·rw[cZ,fP];lia
   ·rcases d8.mp e with e|e
    ·exact eb _ (V0.fl b e)
    ·exact er _ e
   ·have y:b∈T:=by
     rcases d8.mp e with e|e
     ·exact e
     ·exact absurd (er _ e) h
    rcases V0.cl b y (λk=>h<|eb _ k) o hd j with c|⟨c,ar⟩
    ·exact .inl (eb _ c)
    ·rcases bR.mp ar with rfl|ar
     ·exact .inl (er _<|.head _)
     ·exact .inr ⟨c,ar⟩
 ·refine⟨T,WG,?_,⟨V0.ae,V0.rk,V0.con,V0.gd,V0.wl,V0.fl,λb e h o hd j=>?_⟩,m,bB _⟩
  ·rw[decide_eq_false l]at g;simp -implicitDefEqProofs [nA,p9,r,g]
  ·rcases V0.cl b e h o hd j with c|⟨c,ar⟩
   ·exact .inl c
   ·rcases bR.mp ar with rfl|ar
    ·exact absurd j l
    ·exact .inr ⟨c,ar⟩
theorem B_{VU:List cz}{d C:cz}{F:Option ak}(e:VU.length<=500):∀(V4:List cz) {T WG:List cz} (Wt:Option ak),C∈T->(∀f∈V4,f∈bw C)->mB VU d T WG C V4->
  ∃a c h,dp (a6 5) nA (V4.map V) (hz F VU d T WG Wt)=Z (.a8,hz F VU d a c h)/\mB VU d a c C []/\2*jn VU a+c.length<=2*jn VU T+WG.length
 |[],T,WG,Wt,_,_,V0=>⟨T,WG,Wt,rfl,V0,bB _⟩
 |f::V4,T,WG,Wt,i,g,V0=>by
  let⟨Wo,cO,j,k,l,m⟩:=Gt (f:=f) (F:=F) e i (g f<|.head _) V0;let⟨Wq,n,Wu,o,p,q⟩:=B_ e V4 (Z<|.im<|V f) l (λb r=>g b<|.tail _ r) k;refine⟨Wq,n,Wu,?_,p,dN q m⟩;rw[bH,dp];dsimp only;rw[show a6 5 (.im<|V f) (hz F VU d T WG Wt)=Z (hz F VU d T WG<|Z<|.im<|V f) from rfl];show (nA _).bind _=_;rw[j];exact o
def TO(b:ak)(VU:List cz):Prop:=(b=aW VU\/b=aK VU)
def Cc{VU:List cz}{b:ak}(r:TO b VU)(y:VU.length<=62):∃i:List cz,qK [b,.im<|V d]=Z (aK i,[b,.im<|V d])/\sl i/\(∀M,M∈i↔dT VU d M)/\i.length<=VU.length+1/\i.Nodup:=by
 have s:∀f∈VU,∃VQ Wi WS,a6 0 (.im<|V f) (replicate 1 X++j5 [] [Z b,Z<|.im<|V d,X,X,X,X])=Z VQ/\ei VQ=Z (ab,Wi)/\t4 Wi=Z (.im<|.tup [V f,.aJ ab],WS)/\WS.drop 1=[]:=λf Y=>⟨[Z (.im<|V f)],_,[Z (.im<|V f)],rfl,rfl,rfl,rfl⟩;have z:cE 1 [] (bY<|aj 0) (a6 0) ei G.t4 [Z b,Z<|.im<|V d,X,X,X,X]=Z (.lst<|VU.map λf=>.tup [V f,.aJ ab],[Z b,Z<|.im<|V d,X,X,X,X]):=by
  rcases r with rfl|rfl
  ·exact (nj (x:=VU.map V) (n:=Z (0,aW VU)) (VQ:=[Z .c2,Z<|.im<|V d,X,X,X,X]) rfl (lb _ (λf=>.tup [V f,.aJ ab]) _ s ⋯)).trans rfl
  ·exact (nj (x:=VU.map V) (n:=X) (VQ:=[Z (aK VU),Z<|.im<|V d,X,X,X,X]) rfl (lb _ (λf=>.tup [V f,.aJ ab]) _ s ⋯)).trans rfl
 have l:((aQ VU).all λq=>aa.keys 7 q.1)=ab/\(aQ VU).length<=1000:=⟨AA VU,by unfold aQ;rw[br];lia⟩;have A:bI 2 (bF ic<|ao (ai<|cE 1 [] (bY<|aj 0) (a6 0) ei G.t4) ay) [Z b,Z<|.im<|V d,X,X,X,X]=Z (.a8,[Z b,Z<|.im<|V d,Z<|.aB<|gz<|aQ VU,X,X,X]):=by
  refine ik (o:=.aB (gz<|aQ VU)) (eS (cf (bL z) rfl) rfl ?_) (dX rfl) rfl;simp -implicitDefEqProofs only[pV,qv,ic,z4,l.1,l.2,and_self,gB]
 have t:mB VU d [d] [d] d []:=⟨e4 _ _,.head _,λf e=>by rw[cR.mp e];exact .self,by
  have:VU.countP (λf=>decide (f∉[d]))<=VU.length:=List.countP_le_length;show 1+jn VU [d]<=VU.length+1;unfold jn;lia,bB _,λf e=>e,λf e j=>absurd e j⟩
 let⟨Wb,cv,⟨T,C,Wt,rfl,V0⟩⟩:=p_ (f:=yp) (d:=v5) (λM w=>∃T WG C Wt,w=hz (Z b) VU d T WG Wt/\mB VU d T WG C []/\2*jn VU T+WG.length<=M) (λw=>∃T C Wt,w=hz (Z b) VU d T [] Wt/\mB VU d T [] C [])
  (λM w dG=>by
   let⟨T,WG,B,Wt,rfl,V0,l⟩:=dG;by_cases u:WG=[]
   ·subst u;exact⟨az,hz (Z b) VU d T [] Wt,rfl,(λk=>by cases k),λ_=>⟨T,B,Wt,rfl,V0⟩⟩
   ·let⟨g,C,rfl⟩:=Tc u;have ag:yp (hz (Z b) VU d T (g++[C]) Wt)=Z (ab,hz (Z b) VU d T (g++[C]) Wt):=by
     have D:=rj (g++[C]);have j:eD ((g++[C]).map V) []=az:=by
      cases g with
      |nil=>rfl
      |cons h p=>rfl
     have E:eZ (aW<|g++[C]) (.lst [])=Z (.im<|.aJ ab):=by
      simp only[eZ,D,j];rfl
     exact eo (fc E)
    refine⟨ab,_,ag,λ_=>?_,(λk=>by cases k)⟩;have H:mB VU d T g C (bw C):=⟨V0.ae,V0.rk,V0.con,V0.gd,by have:=V0.wl;simp at this;lia,λf e=>V0.fl f<|eb _ e,λf e j o hd I=>by
     by_cases v:f=C
     ·subst v;exact .inr ⟨rfl,hd⟩
     ·rcases V0.cl f e (λk=>(d8.mp k).elim j λk=>v<|cR.mp k) o hd I with c|⟨_,c⟩
      ·exact .inl c
      ·cases c⟩
    let⟨Wq,m,Wu,J,L,S⟩:=B_ (F:=Z b) (dN y ∅) (bw C) Wt (V0.fl C<|er _<|.head _) (λf e=>e) H;refine⟨.a8,hz (Z b) VU d Wq m Wu,?_,.inl rfl,2*jn VU Wq+m.length,?_,Wq,m,C,Wu,rfl,L,bB _⟩
    ·unfold v5;refine gZ (n:=X) (x:=(bw C).map V) (VQ:=hz (Z b) VU d T g Wt) ?_ J rfl;have N:((g++[C]).map V).getLast?=Z (V C):=by simp
     have hd:((g++[C]).map V).dropLast=g.map V:=by simp
     have a:=rO C;simp -implicitDefEqProofs only[bY,ai,aZ,ao,fH,Hl,D9,f9,gB,y0,pV,Va,lQ,N,hd,qv,Oc,cn,fy,a];simp -implicitDefEqProofs [a,mm]
    ·simp at l;lia) 1000000 _ (hz (Z b) VU d [d] [d] X) ⟨[d],[d],d,X,rfl,t,bB _⟩ (by
    have:=t.gd;simp;simp at this;lia)
 let⟨i,O,Ws,P⟩:=QR V0.ae (by have:=V0.gd;lia);refine⟨i,?_,P,λM=>Ws.mem_iff.trans ⟨V0.con M,λc=>?_⟩,by rw[Ws.length_eq];have:=V0.gd;lia,Ws.nodup_iff.mpr V0.ae⟩
 ·have Q:jQ [.aB (aQ T)]=Z (aW i):=by
   show iD ((aQ T).map λq=>.tup q.1)=Z (aW i);rw[RU];exact O
  unfold qK Fj;exact eO (w:=hz (Z b) VU d T [] Wt) rfl (bP A<|bP (VQ:=[Z b,Z<|.im<|V d,Z<|.aB<|gz<|aQ VU,Z<|.aB<|aQ [d],X,X]) rfl<|bP (VQ:=hz (Z b) VU d [d] [d] X) rfl<|bP cv<|gf<|eS (cf (bL<|eS (cf rfl rfl) rfl Q) rfl) rfl rfl) (by rcases r with rfl|rfl<;>rfl)
 ·induction c with
  |self=>exact V0.rk
  |step _ ag hd R=>
   rcases V0.cl _ R (λk=>nomatch k) _ hd ag with c|⟨_,c⟩
   ·exact c
   ·cases c
end G
namespace ot
variable{af:Type}[DecidableEq af]
variable{L:List af}{b:af->af->Prop}{h d:af}{z:af->af}{c:List af}{V2:af->Bool->Prop}
def h9(b:af->af->Prop):af->List af->Prop
 |_,[]=>True
 |f,o::q=>b f o/\h9 b o q
def aO(z:af->af):Nat->af->af
 |0,f=>f
 |v+1,f=>aO z v (z f)
end ot
namespace ot
variable{af:Type}[DecidableEq af]{L:List af}{b:af->af->Prop}{h d:af}{z N:af->af}{c:List af}
variable{s:Nat}{f o:Nat->af}
end ot
namespace ot
variable{af:Type}[DecidableEq af]{L:List af}{b:af->af->Prop}{h d:af}{z N:af->af}{c:List af}
variable{V1:List ((af×Bool)×Option (af×Bool))}
end ot
namespace ot
variable{af:Type}[DecidableEq af]{L:List af}{b:af->af->Prop}{h d:af}{z N:af->af}{c:List af}
def zt(z:af->af)(J:af)(v:Nat):List af:=((range<|v+1).map λj=>aO z j J)
end ot
namespace G
open L2
variable{M:Int}{v:Nat}{h i b:cz}{VU Y:List cz}{V7:Type}
def Ds(Y:List cz)(b i:cz):Prop:=(b∈Y/\i∈Y/\i∈bw b)
def Ou(b i:cz):eZ (.im<|V b) (.im<|V i)=Z (.im<|.aJ<|!decide (b=i)):=by
 show (if (aa.bQ 8 (V b)&&aa.bQ 8 (V i))=ab then Z (ak.im<|.aJ<|!b8 (V b) (V i)) else X)=_;rw[o8,o8,aH<|show (ab&&ab)=ab from rfl,nz]
def RS(c:Ds Y b i):Ds Y i b:=by
 refine⟨c.2.1,c.1,?_⟩;have:=c.2.2;let⟨h,d⟩:=b;let⟨f,o⟩:=i;unfold bw at this ⊢;simp only[bR,lE,jL,Prod.mk.injEq]at this ⊢;lia
theorem J2:∀(VV d:List (List aa×aa)),((d++VV).map (·.1)).Nodup->VV.foldl (λh q=>dH h q.1 q.2) d=d++VV
 |[],d,_=>(b4 d).symm
 |q::VV,d,c=>by
  rw[kH];have a:dH d q.1 q.2=d++[q]:=by
   unfold dH;rw[if_neg];intro k;let⟨b,e,f⟩:=mR.mp k;rw[iM]at c;exact (c4.mp c).2.2 b.1 (cL.mpr ⟨b,e,rfl⟩) q.1 (.head _) (e_ f)
  rw[a,J2 VV (d++[q]) (by rw[bV];exact c),bV];rfl
def yo{VV:List (List aa×aa)}(c:(VV.map (·.1)).Nodup):gz VV=VV:=J2 VV [] c
def zY{WQ:Type}{N:V7->WQ}{J:List V7}(inj:∀b∈J,∀i∈J,N b=N i->b=i)(ae:J.Nodup):(J.map N).Nodup:=by
 rw[J9,jI];exact ae.imp_of_mem λ{b i} d e c a=>c (inj b d i e a)
abbrev uw:=List cz
variable{C:uw}
def hW(C:uw):aa:=(.tup (C.map V))
def MU(J:List cz)(f:cz):hx (.im<|V f) (aK J)=Z (.im<|.aJ<|!decide (f∈J)):=by
 show (hn (V f)<|aK J).map (λp=>ak.im<|.aJ<|!p)=_;rw[C6];rfl
def Qc(J:List cz)(f:cz):h4 (.im<|V f) (aK J)=Z (.im<|.aJ<|decide (f∈J)):=by
 show (hn (V f)<|aK J).map (λp=>ak.im<|.aJ p)=_;rw[C6];rfl
def MS(J:List cz)(f:cz):h4 (.im<|V f) (aW J)=Z (.im<|.aJ<|decide (f∈J)):=by
 show (hn (V f)<|aW J).map (λp=>ak.im<|.aJ p)=_;rw[GO];rfl
theorem E7{V7:Type}(z:V7->Bool):∀x:List V7,n3 (x.map λp=>.aJ<|z p)=Z (x.map z)
 |[]=>rfl
 |b::x=>by
  show (n3<|x.map λp=>.aJ<|z p).map _=_;rw[E7 z x];rfl
def KV(z:V7->Bool)(x:List V7):q8 [.lst (x.map λp=>.aJ<|z p)]=Z (.im<|.aJ<|x.all z):=by
 show (n3 _).map _=_;rw[E7,qv,zM];rfl
def ml(C:uw):Bool:=((C.zip<|C.drop 1).all λq=>decide (q.2∈bw q.1))
def NQ{f:cz}{Wd:Option ak}(a:f∈Y):tg [Z (aK Y),Wd,Z<|.im<|V f]=Z (.a8,[Z (aK Y),Wd,Z<|.im<|V f]):=by
 have b:bO (ac hx (aj 2)<|aj 0) [Z (aK Y),Wd,Z<|.im<|V f]=Z (az,[Z (aK Y),Wd,Z<|.im<|V f]):=eo (fc ((MU Y f).trans (by rw[bW a];rfl)));unfold tg;refine bP (hb (nK (VQ:=[Z (aK Y),Wd,Z<|.im<|V f]) rfl<|nK (VQ:=[Z (aK Y),Wd,Z<|.im<|V f]) rfl b) rfl) (hb (VQ:=[Z (aK Y),Wd,Z<|.im<|V f]) rfl rfl)
def L7(l:C.length<=1000)(a:C≠[])(c:∀f∈C,f∈Y):qs [aK Y,.im<|hW C]=Z (.im<|.aJ<|ml C,[aK Y,.im<|hW C]):=by
 let⟨Wb,cv,Wu,rfl⟩:=vm (Wl:=a6 2) (d:=tg) (x:=C.map V) (λ_ w=>∃Wu,w=[Z (aK Y),Z<|.im<|hW C,Wu]) (w:=[Z (aK Y),Z<|.im<|hW C,X]) ⟨X,rfl⟩ (λj b w e dG=>by
  let⟨Wu,rfl⟩:=dG;let⟨f,g,rfl⟩:=cL.mp (lg e);exact⟨_,.a8,_,rfl,NQ<|c f g,.inl rfl,_,rfl⟩)
 have h:cH [.im (hW C)]=Z (aE (C.length:Int)):=by
  show Z (ak.im<|.int ((C.map V).length:Int))=_;rw[br]
 have m:=kU.mpr a;have Wq:bO (ac ey (ai<|bF cH<|ao (aj 1) ay)<|ai<|aG<|.int 0) [Z (aK Y),Z<|.im<|hW C,X]=Z (az,[Z (aK Y),Z<|.im<|hW C,X]):=eo (du (bL<|eS (cf rfl rfl) rfl h) rfl rfl rfl ((oa _ _).trans (by rw[decide_eq_false ⋯])));have i:gU (C.map V) (eH (C.map V) (Z 1) X)=(C.zip<|C.drop 1).map λq=>.tup [V q.1,V q.2]:=by
  rw[m9,show (1:Int)=((1:Nat):Int) from rfl,tA,Aj]
 have o:(C.zip<|C.drop 1).length<=1000:=by rw[tY];lia
 have k:cE 2 [] (lF<|ao (aj 1)<|ao (ai<|ff (aj 1) (fv<|aG<|.int 1) gu) ay) (i3 2<|eP (a6 0)<|eP (a6 1) h_) ei G.Fw [Z (aK Y),Z<|.im<|hW C,Wu]=Z (.lst<|(C.zip<|C.drop 1).map λq=>.aJ<|decide (q.2∈bw q.1),[Z (aK Y),Z<|.im<|hW C,Wu]):=by
  refine ho (x:=(C.zip<|C.drop 1).map λq=>.tup [V q.1,V q.2]) (n:=X) (VQ:=[Z (aK Y),Z<|.im<|hW C,Wu]) ?_ (lb (λq:cz×cz=>.tup [V q.1,V q.2]) (λq=>.aJ<|decide (q.2∈bw q.1)) _ (λq W=>?_) ⋯) rfl
  ·rw[<-i];exact OO (cf rfl<|cf (bL<|xd rfl rfl rfl rfl rfl) rfl) rfl
  ·refine⟨[Z (.im<|V q.1),Z<|.im<|V q.2],_,[Z (.im<|V q.1),Z<|.im<|V q.2],rfl,rfl,?_,rfl⟩;exact du rfl (bL<|dh (V6:=[.aS 0]) rfl rfl rfl (rO q.1) rfl) rfl rfl (MS (bw q.1) q.2)
 unfold qs IT;exact eO (w:=[Z (aK Y),Z<|.im<|hW C,Wu]) rfl (bP (hb (nK (VQ:=[Z (aK Y),Z<|.im<|hW C,X]) rfl Wq) rfl)<|bP (gZ (n:=X) (x:=C.map V) (VQ:=[Z (aK Y),Z<|.im<|hW C,X]) rfl cv rfl)<|gf<|eS (cf (bL k) rfl) rfl<|KV _ _) rfl
theorem UY(a:C.length<=1000)(b:C≠[])(c:∀f∈C,f∈Y)(d:ml C=ab):qs [aK Y,.im<|hW C]=Z (.im<|.aJ ab,[aK Y,.im<|hW C]):=(L7 a b c).trans (by rw[d])
theorem wo:∀VU:List cz,eD (VU.map V) (VU.map V)=ab
 |[]=>rfl
 |f::VU=>by rw[bH,eD,nz,bW rfl,wo VU];rfl
def sl.ae(c:sl VU):VU.Nodup:=by
 refine J9.mpr (c.imp λ{b i} a k=>?_);rw[k,uH]at a;cases a
def PK(b i:cz)(p:uw):ml (b::i::p)=(decide (i∈bw b)&&ml (i::p)):=rfl
def dT.trans{k:cz}(c:dT Y b i)(s:dT Y i k):dT Y b k:=by
 induction s with
 |self=>exact c
 |step _ l t a=>exact .step a l t
def dT.zt(a:b∈Y)(c:dT Y b i):i∈Y:=by
 cases c with
 |self=>exact a
 |step _ l _=>exact l
theorem L_(c:i∈bw b):b∈bw i:=(RS (Y:=[b,i]) ⟨.head _,.tail _<|.head _,c⟩).2.2
def dT.sym(a:b∈Y)(c:dT Y b i):dT Y i b:=by
 induction c with
 |self=>exact .self
 |step d l t e=>exact (dT.step .self (dT.zt a d)<|L_ t).trans e
def E6{m:cz}(c:∀b,b∈Y↔dT VU m b){h d:cz}(av:h∈Y)(ag:d∈Y):dT Y h d:=by
 have V_:∀b,dT VU m b->dT Y m b:=λb a=>by
  induction a with
  |self=>exact .self
  |step e l t f=>exact .step f ((c _).mpr<|.step e l t) t
 have g:m∈Y:=(c m).mpr .self;exact (dT.sym g<|V_ h<|(c h).mp av).trans (V_ d<|(c d).mp ag)
def N_(b i:cz)(m H:Int):a9 (V (b.1+m,b.2+H)) (V (i.1+m,i.2+H))=a9 (V b) (V i):=by
 have d:∀j A:Int,aa.beq (.int<|j) (.int A)=decide (j=A):=λj A=>by rw[aa.beq]
 have a:∀b i:cz,a9 (V b) (V i)=if b.1=i.1 then decide (b.2<i.2) else decide (b.1<i.1):=λb i=>by
  show (if aa.beq (.int b.1) (.int i.1)=ab then (if aa.beq (.int b.2) (.int i.2)=ab then az else decide (b.2<i.2)) else decide (b.1<i.1))=_;rw[d,d];by_cases l:b.1=i.1
  ·rw[bW l,aH rfl,aH l];by_cases t:b.2=i.2
   ·rw[bW t,aH rfl,t,decide_eq_false<|G0 _]
   ·rw[decide_eq_false t,if_neg dw]
  ·rw[decide_eq_false l,if_neg dw,if_neg l]
 rw[a,a];simp only[Int.add_left_inj,Int.add_lt_add_iff_right]
def Mw(m H:Int)(c:dT VU h b):dT (VU.map λf=>(f.1+m,f.2+H)) (h.1+m,h.2+H) (b.1+m,b.2+H):=by
 induction c with
 |self=>exact .self
 |step _ l t a=>
  refine .step a (cL.mpr ⟨_,l,rfl⟩) ?_;unfold bw at t ⊢;simp only[bR,lE,jL,mV]at t ⊢;lia
def O2{m H:Int}(c:dT (VU.map λf=>(f.1+m,f.2+H)) (h.1+m,h.2+H) b):dT VU h (b.1-m,b.2-H):=by
 induction c with
 |self=>
  have:(((h.1+m,h.2+H):cz).1-m,((h.1+m,h.2+H):cz).2-H)=h:=by rw[mV];exact⟨tU _ _,tU _ _⟩
  rw[this];exact .self
 |@step i k _ l t a=>
  let⟨f,d,rfl⟩:=cL.mp l;have:(((f.1+m,f.2+H):cz).1-m,((f.1+m,f.2+H):cz).2-H)=f:=by rw[mV];exact⟨tU _ _,tU _ _⟩
  rw[this];refine .step a d ?_;unfold bw at t ⊢;simp only[bR,lE,jL,mV]at t ⊢;lia
def Sj(e:0<M)(I:M<=60){c:ak}(g:et (v+400) c):∃ar VU,pG [c,aE M]=Z (aW VU,[ar,aE M])/\et v ar/\VU≠[]/\VU.length<=M.toNat/\∀f∈VU,iT f:=by
 let⟨r,l,h,J,L,VT⟩:=iY (v:=v+399) (M:=M) g e ⋯;have i:jd r:=⟨⋯,⋯⟩;let⟨Wb,cv,⟨t,VU,B,Wn,rfl,V8,k,m,o⟩⟩:=vm (Wl:=a6 3) (d:=ue) (x:=eY 0 r.toNat) (λj w=>∃c VU B Wn,w=[Z c,Z<|aE M,Z<|aW VU,B,Wn]/\et (v+398-2*j) c/\VU≠[]/\VU.length<=j+1/\∀f∈VU,iT f) (w:=[Z l,Z<|aE M,Z<|aW [(12,12)],X,X]) ⟨l,[(12,12)],X,X,rfl,VT.mono ⋯,by simp,by simp,λf p=>by rw[cR.mp p];exact⟨by decide,by decide,by decide,by decide⟩⟩
  (λj b w q dG=>by
   let⟨c,VU,B,Wn,rfl,u,Wz,WE,y⟩:=dG;have VW:j<r.toNat:=by
    have:=(fM.mp q).1
    rwa [eY,br,mj]at this
   let⟨ar,z,N,a,F,A,O,C⟩:=Ki (v:=v+398-2*(j+1)) (M:=M) (s:=Z (.im b)) (Wn:=Wn) (u.mono ⋯) Wz ⋯ y;exact⟨[Z c,Z<|aE M,Z<|aW VU,Z<|.im b,Wn],.a8,_,rfl,a,.inl rfl,ar,z,_,_,rfl,F,A,⋯,C⟩)
 have D:(eY 0 r.toNat).length=r.toNat:=by rw[eY,br,mj]
 rw[D]at V8 m;refine⟨t,VU,?_,V8.mono ⋯,k,⋯,o⟩;let⟨E,rfl⟩:=g.lst;let⟨G,rfl⟩:=VT.lst;let⟨H,rfl⟩:=V8.lst;unfold pG C8;refine rQ [Z (.lst H),Z<|aE M,Z .c2,B,Wn] rfl ((gI (VQ:=[Z (.lst E),Z<|aE M,Z<|aW [(12,12)],X,X]) rfl).trans<|(gI<|sC (n:=X) (x:=eY 0 r.toNat) (VQ:=[Z (.lst G),Z<|aE M,Z<|aW [(12,12)],X,X]) ?_ cv).trans rfl) rfl;simp -implicitDefEqProofs [h,i]
def TX(w:0<M)(y:M<=60){c:ak}{d C h:Int}{VU:List (Int×Int)}(g:et (v+402) c)(N:0<=d)(cO:d<6)(i:(0,0)∈VU)(O:VU.length<=49)(j:∀f∈VU,iT f):
  ∃ar b e,mid [Z c,Z<|aE M,Z<|aE d,Z<|aE C,Z<|aE h,Z<|aW VU,X,X,X,X]=Z (.a8,[Z ar,Z<|aE M,Z<|aE d,Z<|aE C,Z<|aE h,Z<|aW b,e,X,X,X])/\et v ar/\b≠[]/\(b.length<=VU.length\/b.length<=M.toNat)/\∀f∈b,iT f:=by
 have P:=tW i;have q:∀d:Int,∃ar b e,eE (hu<|ao (ai<|aZ 2 G.e3<|ao (aj 0)<|ao (ai<|ac dd (ai<|aG<|.int 1)<|ai<|ac mX (ai<|bF cH<|ao (aj 5) ay)<|ai<|aG<|.int 2) ay) ay) (a6 6) G.pk [Z c,Z<|aE M,Z<|aE d,Z<|aE C,Z<|aE h,Z<|aW VU,X,X,X,X]=Z (.a8,[Z ar,Z<|aE M,Z<|aE d,Z<|aE C,Z<|aE h,Z<|aW b,e,X,X,X])/\et v ar/\b≠[]/\(b.length<=VU.length\/b.length<=M.toNat)/\∀f∈b,iT f:=λd=>by
  let⟨r,l,z,Q,R,VT⟩:=iY (v:=v+200) (M:=1+(VU.length:Int)/2) (g.mono ⋯) ⋯ ⋯;have A:jd r:=⟨⋯,⋯⟩;let⟨t,k,e,cv,V8,m,s,o⟩:=QT (Wd:=Z (aE M)) (Wu:=Z (aE d)) (B:=Z (aE C)) (Wn:=Z (aE h)) (D:=X) (L:=X) (E:=X) (e:=X) r.toNat VT (VU:=VU) ⋯ ⋯ j;refine⟨t,k,e,?_,V8,m,⋯,o⟩;let⟨F,rfl⟩:=g.lst;let⟨H,rfl⟩:=VT.lst;refine (sC (n:=X) (x:=eY 0 r.toNat) (VQ:=[Z (.lst H),Z<|aE M,Z<|aE d,Z<|aE C,Z<|aE h,Z<|aW VU,X,X,X,X]) ?_ cv).trans rfl;simp -implicitDefEqProofs [z,A]
 have u:∀d:Int,∃ar b e,bI 5 (aZ 2 G.pG<|ao (aj 0)<|ao (aj 1) ay) [Z c,Z<|aE M,Z<|aE d,Z<|aE C,Z<|aE h,Z<|aW VU,X,X,X,X]=Z (.a8,[Z ar,Z<|aE M,Z<|aE d,Z<|aE C,Z<|aE h,Z<|aW b,e,X,X,X])/\et v ar/\b≠[]/\(b.length<=VU.length\/b.length<=M.toNat)/\∀f∈b,iT f:=λd=>by
  let⟨t,k,a,V8,m,s,o⟩:=Sj (v:=v) w y (g.mono ⋯);refine⟨t,k,X,?_,V8,m,.inr s,o⟩;let⟨F,rfl⟩:=g.lst;let⟨S,rfl⟩:=V8.lst;simp -implicitDefEqProofs [a]
 have I:d=0\/d=1\/d=2\/d=3\/d=4\/d=5:=⋯
 unfold mid;rcases I with rfl|rfl|rfl|rfl|rfl|rfl
 ·exact⟨c,VU,X,rfl,g.mono ⋯,qF i,⋯,j⟩
 ·let⟨ar,b,e,a,p⟩:=q 1;exact⟨ar,b,e,a,p⟩
 ·let⟨ar,b,e,a,p⟩:=q 2;exact⟨ar,b,e,a,p⟩
 ·exact⟨c,VU.filter odd,X,Pw ⋯,g.mono ⋯,qF (fE.mpr ⟨i,by decide⟩),by have:=j_ odd VU;lia,λf J=>j f (fE.mp J).1⟩
 ·let⟨ar,b,e,a,p⟩:=u 4;exact⟨ar,b,e,a,p⟩
 ·let⟨ar,b,e,a,p⟩:=u 5;exact⟨ar,b,e,a,p⟩
def LN(P:0<M)(Q:M<=60){c:ak}(g:et (v+500) c):∃ar h,pR [c,aE M]=Z (aK h,[ar,aE M])/\et v ar/\h≠[]/\(h.length<=7\/h.length<=M.toNat)/\sl h/\(∃(q:List cz) (k:cz),∀b,b∈h↔dT q k b)/\∀f∈h,0<=f.1/\f.1<=30/\0<=f.2/\f.2<=30:=by
 let⟨j,l,R,S,T,VT⟩:=iY (v:=v+499) (M:=6) g ⋯ ⋯;let⟨C,t,U,dJ,dr,V8⟩:=iY (v:=v+498) (M:=7) VT ⋯ ⋯;obtain⟨o,y⟩:∃o:Int,o=M/(1+C):=⟨_,rfl⟩;obtain⟨mn,r⟩:∃mn:Int,mn=(if o<7 then o else 7):=⟨_,rfl⟩;obtain⟨n,s⟩:∃n:Int,n=(if mn>1 then mn else 1):=⟨_,rfl⟩;have ds:mn<=7:=by rw[r];split<;>lia
 have dL:n<=7/\0<n:=by rw[s];split<;>lia
 let⟨a,u,al,eq,am,z⟩:=iY (v:=v+497) (M:=n) V8 ⋯ ⋯;have p:0<1+C:=⋯
 have w:1+C<=7:=⋯
 have WL:0<1+a:=⋯
 have x:1+a<=7:=⋯
 have an:0<(1+a)*(1+C):=Dn WL p;have Af:(1+a)*(1+C)<=49:=EK x w ⋯ ⋯;have ap:(((1+a)*(1+C)).toNat:Int)<=7*(1+C):=by rw[Int.toNat_of_nonneg (vw an)];exact Ha x (vw p)
 let⟨ev,VU,e,as,A,Wz,WE,F⟩:=TX (v:=v+3) P Q (d:=j) (C:=1+C) (h:=1+a) (VU:=lx (1+C) ((1+a)*(1+C)).toNat) (z.mono ⋯) S T (Mz ⋯) (by rw[I8];lia) (Lo p w ap);rw[I8]at WE;have ex:=kU.mpr Wz;let⟨G,fd,a1,a2,fn,J⟩:=iY (v:=v+2) (M:=(VU.length:Int)) A ⋯ ⋯;obtain⟨d,ag⟩:∃d,VU[G.toNat]?=Z d:=⟨VU[G.toNat]'⋯,by simp⟩;have fr:((1+a)*(1+C)).toNat<=7\/((1+a)*(1+C)).toNat<=M.toNat:=by
  by_cases k:a=0
  ·subst k;left;lia
  ·right;have l:1+a<=o:=by
    have:a<n:=am;rw[s]at this;split at this
    ·rw[r]at this;split at this<;>lia
    ·lia
   have t:=Ha l (vw p);have u:=Int.ediv_mul_le M (show (1+C)≠0 by lia);rw[<-y]at u;exact Int.toNat_le_toNat (Int.le_trans t u)
 let⟨h,bd,Wo,Wq,f0,be⟩:=Cc (b:=aW VU) (VU:=VU) (d:=d) (.inl rfl) ⋯;have f1:h.length<=VU.length:=be.length_le_of_subset λb bi=>by
  cases (Wq b).mp bi with
  |self=>exact lg ag
  |step _ l _=>exact l
 let⟨m,H,bm,bn,⟨W2,f2,f4,N⟩,O⟩:=OX (v:=v) (Wd:=Z (aE M)) (Wu:=Z (aE j)) (B:=Z (aE<|1+C)) (Wn:=Z (aE<|1+a)) (Wt:=Z (aW VU)) (e:=e) (D:=Z (aK h)) (L:=X) (E:=X) J;refine⟨bm,h.map λf=>(f.1+m,f.2+H),?_,O,?_,by rw[br];lia,jI.mpr (Wo.imp λ{b i} c=>by rw[N_];exact c),⟨VU.map λf=>(f.1+m,f.2+H),(d.1+m,d.2+H),λb=>?_⟩,λf bs=>?_⟩
 ·let⟨f8,rfl⟩:=g.lst;let⟨bv,rfl⟩:=VT.lst;let⟨ca,rfl⟩:=V8.lst;let⟨cd,rfl⟩:=z.lst;let⟨ga,rfl⟩:=A.lst;let⟨ce,rfl⟩:=J.lst;let⟨ch,rfl⟩:=O.lst;have N:=zy a2 ag;unfold pR Jq;refine rQ [Z (.lst ch),Z<|aE M,Z<|aE j,Z<|aE<|1+C,Z<|aE<|1+a,Z<|aW VU,e,Z<|aK h,Z<|aE m,Z<|aE H] rfl
   ((gI (VQ:=[Z (.lst bv),Z<|aE M,Z<|aE j,X,X,X,X,X,X,X]) ?_).trans
   ((gI (VQ:=[Z (.lst ca),Z<|aE M,Z<|aE j,Z<|aE<|1+C,X,X,X,X,X,X]) ?_).trans
   ((gI (VQ:=[Z (.lst cd),Z<|aE M,Z<|aE j,Z<|aE<|1+C,Z<|aE<|1+a,X,X,X,X,X]) ?_).trans
   ((gI<|T4 p w WL x).trans
   ((gI as).trans
   ((gI (VQ:=[Z (.lst ce),Z<|aE M,Z<|aE j,Z<|aE<|1+C,Z<|aE<|1+a,Z<|aW VU,e,Z<|aK h,X,X]) ?_).trans
   ((gI bn).trans (gf (TL ⋯))))))))) rfl
  ·simp -implicitDefEqProofs [R]
  ·simp -implicitDefEqProofs [U]
  ·have ci:1+C<1073741824:=⋯
   have cl:mH [aE 7,aE o]=Z (aE mn):=by rw[LC,<-r]
   have co:mG [aE 1,aE mn]=Z (aE n):=by rw[Pb,<-s]
   simp -implicitDefEqProofs [al,p,ci,<-y,cl,co]
  ·simp -implicitDefEqProofs [a1,N,bd]
 ·have:=(Wq d).mpr .self;exact λk=>by rw[xV]at k;rw[k]at this;cases this
 ·rw[cL];constructor
  ·rintro⟨I,cr,rfl⟩;exact Mw m H ((Wq I).mp cr)
  ·intro c;refine⟨(b.1-m,b.2-H),(Wq _).mpr ?_,by rw[mV];exact⟨BN _ _,BN _ _⟩⟩;exact O2 c
 ·let⟨I,cs,rfl⟩:=cL.mp bs;have db:iT I:=by
   cases (Wq I).mp cs with
   |self=>exact F _ (lg ag)
   |step _ l _=>exact F I l
  let⟨ge,gl,go,gt⟩:=db;exact⟨by show 0<=I.1+m;lia,by show I.1+m<=30;lia,by show 0<=I.2+H;lia,by show I.2+H<=30;lia⟩
abbrev c9:=(Int×Int)×(Int×Int)
def d6(a:c9):List aa:=([V a.1,V a.2])
def yS{h d:c9}(c:d6 h=d6 d):h=d:=by
 unfold d6 at c;injection c with l t;injection t with t _;exact m4 (zZ l) (zZ t)
def Ed(a:c9):aa.keys 7 (d6 a)=ab:=rfl
def dS(h d:Int×Int):c9:=((if a9 (V d) (V h)=ab then d else h,if a9 (V h) (V d)=ab then d else h))
def ES(h d:Int×Int):mH [.im (V h),.im<|V d]=Z (.im<|V (dS h d).1):=by
 show (if ej 6 (V d) (V h)=ab then Z (ak.im<|if a9 (V d) (V h)=ab then V d else V h) else X)=Z (.im<|V<|if a9 (V d) (V h)=ab then d else h);rw[aH (show ej 6 (V d) (V h)=ab from rfl)];split<;>rfl
def FN(h d:Int×Int):mG [.im (V h),.im<|V d]=Z (.im<|V (dS h d).2):=by
 show (if ej 6 (V d) (V h)=ab then Z (ak.im<|if a9 (V h) (V d)=ab then V d else V h) else X)=Z (.im<|V<|if a9 (V h) (V d)=ab then d else h);rw[aH (show ej 6 (V d) (V h)=ab from rfl)];split<;>rfl
def bump:List (c9×Int)->c9->List (c9×Int)
 |[],a=>[(a,1)]
 | (z,v)::p,a=>if z=a then (z,v+1)::p else (z,v)::bump p a
def d3(V1:List (c9×Int)):List (List aa×aa):=(V1.map λq=>(d6 q.1,.int q.2))
def Kq{s a:List aa}{r o:aa}{p:List (List aa×aa)}(c:a≠s):dH ((a,r)::p) s o=(a,r)::dH p s o:=by
 unfold dH;rw[jq,show decide (((a,r):List aa×aa).1=s)=az from decide_eq_false c,yl];split
 ·rw[bH,if_neg c]
 ·rfl
theorem Jg:∀(V1:List (c9×Int)) (a:c9),(V1.map (·.1)).Nodup->∃v:Int,(cq (d3 V1)<|d6 a).getD (.int 0)=.int v/\dH (d3 V1) (d6 a) (.int<|v+1)=d3 (bump V1 a)
 |[],a,_=>⟨0,rfl,rfl⟩
 | (z,v)::p,a,ae=>by
  rw[bH,dD]at ae;by_cases c:z=a
  ·subst c;refine⟨v,?_,?_⟩
   ·unfold cq d3;rw[bH,gH,show decide (((d6 (z,v).1,aa.int (z,v).2):List aa×aa).1=d6 z)=ab from bW rfl];rfl
   ·unfold dH bump;rw[aH (by unfold d3;rw[bH,jq,show decide (((d6 (z,v).1,aa.int (z,v).2):List aa×aa).1=d6 z)=ab from bW rfl];rfl),aH rfl];unfold d3;rw[bH,bH,bH,aH rfl,es];congr 1;refine gr λq d=>?_;show (if d6 q.1=d6 z then _ else _)=_;rw[if_neg λk=>ae.1 (by rw[<-yS k];exact cL.mpr ⟨q,d,rfl⟩)]
  ·let⟨@M,l,t⟩:=Jg p a ae.2;have b:d6 z≠d6 a:=λk=>c (yS k);refine⟨M,?_,?_⟩
   ·rw[<-l];unfold cq d3;rw[bH,gH,show decide (((d6 (z,v).1,aa.int (z,v).2):List aa×aa).1=d6 a)=az from decide_eq_false b]
   ·show dH ((d6 z,.int v)::d3 p) (d6 a) _=_;rw[Kq b,t,bump,if_neg c];rfl
theorem FT:∀{V1:List (c9×Int)}{a:c9}{q:c9×Int},q∈bump V1 a->q.1=a\/q.1∈V1.map (·.1)
 |[],a,q,c=>by rw[cR.mp c];exact .inl rfl
 | (z,v)::p,a,q,c=>by
  unfold bump at c;split at c
  ·rename_i k;rcases bR.mp c with rfl|c
   ·exact .inl k
   ·exact .inr (.tail _<|cL.mpr ⟨q,c,rfl⟩)
  ·rcases bR.mp c with rfl|c
   ·exact .inr (.head _)
   ·rcases FT c with c|c
    ·exact .inl c
    ·exact .inr (.tail _ c)
theorem zx:∀{V1:List (c9×Int)}{a:c9},(V1.map (·.1)).Nodup->((bump V1 a).map (·.1)).Nodup
 |[],a,_=>e4 _ _
 | (z,v)::p,a,ae=>by
  unfold bump;split
  ·exact ae
  ·rename_i k;rw[bH,dD]at ae ⊢;refine⟨λc=>?_,zx ae.2⟩;let⟨@q,d,b⟩:=cL.mp c;rcases FT d with c|c
   ·exact k (by rw[<-c];exact b.symm)
   ·exact ae.1 (by rw[show ((z,v):c9×Int).1=q.1 from b.symm];exact c)
theorem HW:∀{V1:List (c9×Int)}{a:c9},(bump V1 a).length<=V1.length+1
 |[],a=>bB _
 | (z,v)::p,a=>by
  unfold bump;split
  ·simp
  ·have:=HW (V1:=p) (a:=a);simp;omega
def cnt(V1:List (c9×Int))(VV:List c9):List (c9×Int):=(VV.foldl (λV1 q=>bump V1<|dS q.1 q.2) V1)
def AK(Wf:bl):Prop:=(∀(V1:List (c9×Int)) (h d:Int×Int) (F Wn:Option ak),(V1.map (·.1)).Nodup->V1.length<100000->∃a,Wf [F,Z<|.aB<|d3 V1,Z<|.im<|V h,Z<|.im<|V d,Wn]=Z (.a8,[F,Z<|.aB<|d3<|bump V1<|dS h d,Z<|.im<|V h,Z<|.im<|V d,a]))
theorem IX{Wf:bl}(e:AK Wf){F:Option ak}:∀(VV:List c9) (V1:List (c9×Int)) (Wu B Wn:Option ak),(V1.map (·.1)).Nodup->V1.length+VV.length<100000->
  ∃b c d,dp (i3 2<|eP (a6 2)<|eP (a6 3) h_) Wf (VV.map λq=>.tup [V q.1,V q.2]) [F,Z<|.aB<|d3 V1,Wu,B,Wn]=Z (.a8,[F,Z<|.aB<|d3<|cnt V1 VV,b,c,d])
 |[],V1,Wu,B,Wn,_,_=>⟨Wu,B,Wn,rfl⟩
 |q::VV,V1,Wu,B,Wn,ae,f=>by
  rw[cn]at f;let⟨@d,a⟩:=e V1 q.1 q.2 F Wn ae ⋯;have:=HW (V1:=V1) (a:=dS q.1 q.2);let⟨b,c,g,h⟩:=IX e VV (bump V1<|dS q.1 q.2) (Z<|.im<|V q.1) (Z<|.im<|V q.2) d (zx ae) ⋯;refine⟨b,c,g,?_⟩;rw[bH,dp];show (Wf [F,Z<|.aB<|d3 V1,Z<|.im<|V q.1,Z<|.im<|V q.2,Wn]).bind _=_;rw[a];exact h
def Oi(h d:Int×Int):uI [.im (V h),.im<|V d]=Z (.im<|.tup<|d6<|dS h d,[.im (V h),.im<|V d]):=by
 have l:=ES h d;have t:=FN h d;simp -implicitDefEqProofs [uI,JM,l,t,d6]
def MP{w:aU}{V1:List (c9×Int)}{a:c9}(l:w[1]?=Z (Z<|.aB<|d3 V1))(b:w[4]?=Z (Z<|.im<|.tup<|d6 a))(ae:(V1.map (·.1)).Nodup)(c:V1.length<100000):
  gs (ac dd (ai<|vz 1 (c8 4)<|aG<|.int 0)<|ai<|aG<|.int 1) (hF 1 (c8 4) hM) w=Z (.a8,w.set 1<|Z<|.aB<|d3<|bump V1 a):=by
 let⟨@v,d,e⟩:=Jg V1 a ae;have f:=Ed a;have g:(d3 V1).length<100000:=by unfold d3;rw[br];exact c
 simp -implicitDefEqProofs [l,b,d,e,f,g]
def RM:AK Ay:=λV1 h d F Wn ae a=>by
 have l:=ES h d;have t:=FN h d;refine⟨Z<|.im<|.tup<|d6<|dS h d,?_⟩;unfold Ay;refine (gI (VQ:=[F,Z<|.aB<|d3 V1,Z<|.im<|V h,Z<|.im<|V d,Z<|.im<|.tup<|d6<|dS h d]) ?_).trans ((MP rfl rfl ae a).trans rfl);simp -implicitDefEqProofs [l,t,d6]
def gM(a:List (Int×Int)):List c9:=(a.zip (a.drop 1))
def A2(a:List (Int×Int)):(gM a).length=a.length-1:=by
 unfold gM;rw[tY,l6];lia
def NT{Wf:bl}(c:AK Wf){b:List (Int×Int)}(f:b.length<=500):∃Wu B Wn,eE (lF<|ao (aj 0)<|ao (ai<|ff (aj 0) (fv<|aG<|.int 1) gu) ay) (i3 2<|eP (a6 2)<|eP (a6 3) h_) Wf [Z (aK b),Z<|.aB [],X,X,X]=Z (.a8,[Z (aK b),Z<|.aB<|d3<|cnt []<|gM b,Wu,B,Wn]):=by
 have:=A2 b;let⟨Wu,B,Wn,a⟩:=IX c (F:=Z (aK b)) (gM b) [] X X X ht (by rw[fy];lia);refine⟨Wu,B,Wn,(sC (n:=X) (x:=(gM b).map λq=>.tup [V q.1,V q.2]) (VQ:=[Z (aK b),Z<|.aB [],X,X,X]) ?_ a).trans rfl⟩;have d:eH (b.map V) (Z 1) X=(b.drop 1).map V:=(m9 _ _ _ _).trans (by rw[show (1:Int)=((1:Nat):Int) from rfl,tA]);have k:=Aj V V b (b.drop 1);have e:i4 (aK b) (Z 1) X=Z (aK<|b.drop 1):=by
  show Z (ak.im<|.tup<|eH (b.map V) (Z 1) X)=_;rw[d]
 simp -implicitDefEqProofs only[lF,ao,aj,ai,ff,fv,U_,Ve,y0,Hl,pV,qv,Il,JT,Nu,Jc,uB,e,k,gM]
def OU{b:List (Int×Int)}(c:b.length<=500):nu [aK b]=Z (.aB<|d3<|cnt []<|gM b,[aK b]):=by
 let⟨Wu,B,Wn,a⟩:=NT RM c;unfold nu EE;exact rQ [Z (aK b),Z .c2,Wu,B,Wn] rfl ((gI (VQ:=[Z (aK b),Z<|.aB [],X,X,X]) rfl).trans<|(gI a).trans rfl) rfl
end G
namespace Tj
variable{V7 af WQ:Type}[DecidableEq af][DecidableEq V7]
def iq(J:List WQ)(z:WQ->Bool):Bool:=(J.foldr (λb d=>xor (z b) d) az)
def nY(h:WQ)(J:List WQ)(z:WQ->Bool):iq (h::J) z=xor (z h) (iq J z):=rfl
theorem I2(z N:WQ->Bool):∀J:List WQ,iq J (λb=>xor (z b)<|N b)=xor (iq J z) (iq J N)
 |[]=>rfl
 |h::J=>by rw[nY,nY,nY,I2 z N J];cases z h<;>cases N h<;>cases iq J z<;>cases iq J N<;>rfl
theorem Cg{z N:WQ->Bool}:∀{J:List WQ},(∀b∈J,z b=N b)->iq J z=iq J N
 |[],_=>rfl
 |h::J,c=>by rw[nY,nY,c h<|.head _,Cg λb a=>c b<|.tail _ a]
def xF{z:WQ->Bool}{J:List WQ}(c:∀b∈J,z b=az):iq J z=az:=by
 induction J with
 |nil=>rfl
 |cons h J a=>rw[nY,c h<|.head _,a λb d=>c b<|.tail _ d];rfl
def Nt{z:WQ->Bool}{J:List WQ}(c:iq J z=ab):∃b∈J,z b=ab:=by
 refine CJ λv=>?_;rw[xF λb a=>by
  cases u:z b with
  |false=>rfl
  |true=>exact absurd ⟨b,a,u⟩ v]at c
 cases c
theorem H5{z:WQ->Bool}[DecidableEq WQ]{h:WQ}:∀{J:List WQ},J.Nodup->h∈J->(∀b∈J,b≠h->z b=az)->iq J z=z h
 |d::J,ae,c,s=>by
  have ae:=dD.mp ae;rw[nY];by_cases a:d=h
  ·subst a;rw[xF λb e=>s b (.tail _ e) λk=>ae.1<|k ▸ e];cases z d<;>rfl
  ·rw[s d (.head _) a,H5 ae.2 ((bR.mp c).resolve_left λk=>a k.symm) λb e=>s b<|.tail _ e];cases z h<;>rfl
def inc(q u:V7->af)(a:V7)(r:af):Bool:=(xor (decide (q a=r)) (decide (u a=r)))
def gR(U V1:V7->Bool):V7->Bool:=(λa=>xor (U a) (V1 a))
def only(a:V7):V7->Bool:=(λo=>decide (o=a))
def par(Q:List V7)(q u:V7->af)(U:V7->Bool)(r:af):Bool:=(iq Q λa=>U a&&inc q u a r)
abbrev dj(Q:List V7)(U:V7->Bool):Nat:=Q.countP U
def Gs(V2:af->Bool)(r:af):af->Bool:=(λb=>xor (V2 b) (decide (b=r)))
section
variable{Q:List V7}{q u:V7->af}{U V1 V0:V7->Bool}
def vl(r:af):par Q q u (gR U V1) r=xor (par Q q u U r) (par Q q u V1 r):=by
 unfold par;rw[<-I2];refine Cg λa Y=>?_;unfold gR;cases U a<;>cases V1 a<;>cases inc q u a r<;>rfl
def uv(ae:Q.Nodup){a:V7}(c:a∈Q)(r:af):par Q q u (only a) r=inc q u a r:=by
 unfold par;rw[H5 ae c λb Y v=>by show (decide (b=a)&&_)=az;rw[decide_eq_false v];rfl];show (decide (a=a)&&_)=_;rw[bW rfl];rfl
def yW(ae:Q.Nodup){a:V7}(c:a∈Q):dj Q (only a)=1:=by
 have l:=C9.mp ae a;have t:=mQ.mpr c;have d:Q.count a=dj Q (only a):=by
  unfold List.count;exact Aw λb Y=>by show _↔decide (b=a)=ab;simp
 omega
theorem zf:∀Q:List V7,dj Q (gR U V1)+2*dj Q (λa=>U a&&V1 a)=dj Q U+dj Q V1
 |[]=>rfl
 |h::Q=>by
  have c:=zf Q;unfold dj at *;rw[iN,iN,iN,iN];have b:gR U V1 h=xor (U h) (V1 h):=rfl;rw[b];cases U h<;>cases V1 h<;>simp<;>omega
def CX(c:∀a,V0 a=ab->U a=ab):dj Q (gR U V0)+dj Q V0=dj Q U:=by
 have:=zf (U:=U) (V1:=V0) Q;have a:dj Q (λa=>U a&&V0 a)=dj Q V0:=Aw λb Y=>by
  rw[cI];exact⟨λk=>k.2,λk=>⟨c b k,k⟩⟩
 omega
def Q1(c:∀a∈Q,U a=ab->V0 a=az):dj Q (gR U V0)=dj Q U+dj Q V0:=by
 have:=zf (U:=U) (V1:=V0) Q;have a:dj Q (λa=>U a&&V0 a)=0:=Br.mpr λb d=>by
  rw[cI];exact λk=>by rw[c b d k.1]at k;exact absurd k.2 dw
 omega
def A7(ae:Q.Nodup){a:V7}(b:a∈Q)(c:U a=ab):dj Q (gR U<|only a)+1=dj Q U:=by
 have:=CX (Q:=Q) (U:=U) (V0:=only a) λo hd=>by rw[e_ (show decide (o=a)=ab from hd)];exact c
 rwa [yW ae b]at this
def H7(ae:Q.Nodup){a:V7}(b:a∈Q)(c:U a=az):dj Q (gR U<|only a)=dj Q U+1:=by
 rw[Q1 (V0:=only a) λo Y hd=>decide_eq_false λk=>by rw[k,c]at hd;exact dw hd,yW ae b]
def rt{a:V7}(c:q a≠u a)(r:af):inc q u a r=ab↔q a=r\/u a=r:=by
 unfold inc;by_cases l:q a=r<;>by_cases t:u a=r
 ·exact absurd (l.trans t.symm) c
 ·simp[l,t]
 ·simp[l,t]
 ·simp[l,t]
def xk{a:V7}{r:af}(c:inc q u a r=ab):q a≠u a:=λk=>by
 unfold inc at c;rw[k,Hw]at c;exact dw c
def dQ(q u:V7->af)(a:V7)(r:af):af:=(if q a=r then u a else q a)
def sU{a:V7}{r:af}(c:inc q u a r=ab):dQ q u a r≠r:=by
 have v:=xk c;unfold dQ;split
 ·rename_i k;exact λi=>v (k.trans i.symm)
 ·rename_i k;exact k
def BS{a:V7}{r:af}(c:inc q u a r=ab)(b:af):inc q u a b=xor (decide (b=r)) (decide (b=dQ q u a r)):=by
 have v:=xk c;have k:=(rt v r).mp c;unfold inc dQ;by_cases l:q a=r
 ·rw[aH l];congr 1
  ·exact ix.mpr ⟨λi=>i.symm.trans l,λi=>l.trans i.symm⟩
  ·exact ix.mpr ⟨λi=>i.symm,λi=>i.symm⟩
 ·rw[if_neg l,Bool.xor_comm];have t:=k.resolve_left l;congr 1
  ·exact ix.mpr ⟨λi=>i.symm.trans t,λi=>t.trans i.symm⟩
  ·exact ix.mpr ⟨λi=>i.symm,λi=>i.symm⟩
inductive h9 (Q:List V7) (q u:V7->af):af->af->Nat->Prop
 | nil (h:af):h9 Q q u h h 0
 | cons {a:V7}{h d:af}{v:Nat}:a∈Q->inc q u a h=ab->h9 Q q u (dQ q u a h) d v->h9 Q q u h d (v+1)
theorem Ek(ae:Q.Nodup):∀(v:Nat) (U:V7->Bool) (h:af),dj Q U=v->par Q q u U h=ab->
  ∃V0 d,(∀a,V0 a=ab->U a=ab)/\d≠h/\par Q q u U d=ab/\(∀b,par Q q u V0 b=xor (decide (b=h)) (decide (b=d)))/\h9 Q q u h d (dj Q V0)
 |v,U,h,w,av=>by
  let⟨a,e,c⟩:=Nt av;rw[cI]at c;have g:=BS c.2;have x:=A7 ae e c.1;by_cases ag:par Q q u U (dQ q u a h)=ab
  ·refine⟨only a,dQ q u a h,λo hd=>by rw[e_ (show decide (o=a)=ab from hd)];exact c.1,sU c.2,ag,λb=>(uv ae e b).trans<|g b,?_⟩;rw[yW ae e];exact .cons e c.2 (.nil _)
  ·have i:∀b,par Q q u (gR U<|only a) b=xor (par Q q u U b) (xor (decide (b=h))<|decide (b=dQ q u a h)):=λb=>by rw[vl,uv ae e,g]
   let⟨V0,d,l,t,f,n,p⟩:=Ek ae (v-1) (gR U<|only a) (dQ q u a h) (by omega) (by
    rw[i,bW rfl,decide_eq_false<|sU c.2,eq_false_of_ne_true ag];rfl)
   have j:d≠h:=λk=>by
    rw[k,i,av,bW rfl,decide_eq_false<|dY<|sU c.2]at f;cases f
   have r:V0 a=az:=by
    cases C:V0 a with
    |false=>rfl
    |true=>
     have:=l a C;unfold gR only at this;rw[c.1,bW rfl]at this;cases this
   refine⟨gR V0<|only a,d,λo hd=>?_,j,?_,λb=>?_,?_⟩
   ·by_cases k:o=a
    ·rw[k];exact c.1
    ·have m:only a o=az:=decide_eq_false k;have s:V0 o=ab:=by unfold gR at hd;rw[m]at hd;simpa using hd
     have:=l o s;unfold gR at this;rw[m]at this;simpa using this
   ·rw[i,decide_eq_false j,decide_eq_false t]at f;simpa using f
   ·rw[vl,n,uv ae e,g];cases decide (b=h)<;>cases decide (b=d)<;>cases decide (b=dQ q u a h)<;>rfl
   ·rw[H7 ae e r];exact .cons e c.2 p
 termination_by v=>v
 decreasing_by omega
end
end Tj
namespace Tj
variable{V7 af:Type}[DecidableEq af][DecidableEq V7]
abbrev Gg(Q:List V7)(q u:V7->af)(U:V7->Bool)(e:af->Bool):Prop:=∀b,par Q q u U b=e b
structure c5(Q:List V7)(q u:V7->af)(e:List af)(f V2:af->Bool)(c:af->Nat):Prop where
 ae:Q.Nodup
 Vl:e.Nodup
 Vo:∀a∈Q,q a∈e/\u a∈e
 col:∀a∈Q,q a≠u a->f (q a)≠f (u a)
 ex:∀r∈e,∃U,Gg Q q u U (Gs V2 r)/\dj Q U=c r
 le:∀r∈e,∀U,Gg Q q u U (Gs V2 r)->c r<=dj Q U
def Af(Q:List V7)(q u:V7->af)(U:V7->Bool):Nat:=(Q.countP λa=>U a&&decide (q a≠u a))
section
variable{Q:List V7}{q u:V7->af}{e:List af}{f V2:af->Bool}{c:af->Nat}{U V1 V0:V7->Bool}{H r I:af}{a:V7}
def Gh(Q:List V7)(q u:V7->af)(H:af):List af:=((Q.filter λa=>inc q u a H).map λa=>dQ q u a H)
end
end Tj
namespace Tj
variable{V7 af:Type}[DecidableEq af][DecidableEq V7]
section
variable{Q:List V7}{q u:V7->af}{e:List af}{f V2:af->Bool}{c:af->Nat}{U V1 V0:V7->Bool}{H r I:af}{a:V7}
def BH(a:List af)(H b:af):af:=(if b∈a then H else b)
def Iq(V2:af->Bool)(e a:List af)(H b:af):Bool:=(if b=H then !(iq (e.filter λi=>decide (i∉a)&&decide (i≠H)) V2) else if b∈a then az else V2 b)
abbrev c_(Q:List V7)(q u:V7->af)(H:af):V7->af:=λa=>BH (Gh Q q u H) H (q a)
abbrev dK(Q:List V7)(q u:V7->af)(H:af):V7->af:=λa=>BH (Gh Q q u H) H (u a)
def ar(c:af->Nat)(H b:af):Nat:=(if b=H then c H else c b-1)
inductive gS (Q:List V7) (q u:V7->af) (w:af->Bool) (I:af):af->Prop
 | self:gS Q q u w I I
 | step {a:V7}{r:af}:gS Q q u w I r->a∈Q->inc q u a r=ab->w (dQ q u a r)=ab->gS Q q u w I (dQ q u a r)
def FL{a:V7}(b:q a≠u a):dQ q u a (q a)=u a/\dQ q u a (u a)=q a:=by
 unfold dQ;exact⟨aH rfl,if_neg b⟩
end
end Tj
namespace Tj
variable{V7 af:Type}[DecidableEq af][DecidableEq V7]
section
variable{Q:List V7}{q u:V7->af}{e:List af}{f V2:af->Bool}{c:af->Nat}{U V1 V0:V7->Bool}{H r I:af}{a:V7}
def mn:List Nat->Nat
 |[]=>0
 |[b]=>b
 |b::i::J=>min b (mn (i::J))
theorem xw:∀{J:List Nat}{b:Nat},b∈J->mn J<=b
 |[h],b,c=>by rw[cR.mp c];exact bB _
 |h::d::J,b,c=>by
  rw[mn];rcases bR.mp c with rfl|c
  ·exact Nat.min_le_left _ _
  ·exact dN (CK _ _) (xw c)
theorem Dl:∀{J:List Nat},J≠[]->mn J∈J
 |[h],_=>.head _
 |h::d::J,_=>by
  rw[mn];rcases Nat.le_total h (mn (d::J)) with k|k
  ·rw[qm k];exact .head _
  ·rw[yc k];exact .tail _ (Dl<|sz _ _)
def rm(d:af)(p:List af):List af:=(p.filter λb=>decide (b≠d))
def cQ{d b:af}{p:List af}:b∈rm d p↔b∈p/\b≠d:=by unfold rm;rw[fE,fu]
def uq{d:af}{p:List af}(ae:p.Nodup):(rm d p).Nodup:=ae.filter _
def EX(d:af)(p:List af):rm d (d::p)=rm d p:=p5 (p:=λb=>decide (b≠d)) λk=>absurd rfl (e_ k)
def Mr{h d:af}(p:List af)(c:h≠d):rm d (h::p)=h::rm d p:=rA (p:=λb=>decide (b≠d)) (bW c)
def wL{d:af}{p:List af}(c:d∉p):rm d p=p:=CP.mpr λb a=>bW λk:b=d=>c (k ▸ a)
def wi{p:List af}{d:af}(ae:p.Nodup)(ag:d∈p):(rm d p).length+1=p.length:=by
 induction p with
 |nil=>cases ag
 |cons h p b=>
  have ae:=dD.mp ae;by_cases a:h=d
  ·rw[a,EX,wL<|a ▸ ae.1,cn]
  ·rw[Mr p a,cn,cn,b ae.2<|(bR.mp ag).resolve_left λk=>a k.symm]
def mp(o:af->af->Nat):Nat->List af->Nat
 |v+1,h::p=>mn (p.map λd=>o h d+mp o v (rm d p))
 |_,_=>0
def Nm{h d:af}{p:List af}(e:h∉p)(ag:d∈p)(b:af):xor (decide (b∈h::p)) (xor (decide (b=h))<|decide (b=d))=decide (b∈rm d p):=by
 have f:d≠h:=λk=>e (k ▸ ag);by_cases a:b=h
 ·have l:decide (b∈h::p)=ab:=bW (a ▸ .head _);have t:decide (b∈rm d p)=az:=decide_eq_false λk=>e (a ▸ (cQ.mp k).1);have g:decide (b=d)=az:=decide_eq_false λk=>f (k.symm.trans a);rw[l,t,g,bW a];rfl
 ·by_cases c:b=d
  ·have l:decide (b∈h::p)=ab:=bW (.tail _<|c ▸ ag);have t:decide (b∈rm d p)=az:=decide_eq_false λk=>(cQ.mp k).2 c;rw[l,t,decide_eq_false a,bW c];rfl
  ·rw[decide_eq_false a,decide_eq_false c,Hw,C5];exact ix.mpr ⟨λk=>cQ.mpr ⟨(bR.mp k).resolve_left a,c⟩,λk=>.tail _ (cQ.mp k).1⟩
theorem AW(o:af->af->Nat)(ae:Q.Nodup)(hd:∀h d v,h9 Q q u h d v->o h d<=v):∀(v:Nat) (S:List af) (U:V7->Bool),S.length<=v->S.Nodup->(∀b,par Q q u U b=decide (b∈S))->mp o v S<=dj Q U
 |0,S,U,_,_,_=>fW _
 |v+1,[],U,_,_,_=>fW _
 |v+1,h::p,U,f,a,c=>by
  have a:=dD.mp a;let⟨V0,d,sub,g,e,i,C⟩:=Ek ae _ U h rfl (by rw[c];exact bW (.head _));rw[c,fu]at e;have ag:d∈p:=(bR.mp e).resolve_left g;have j:=wi a.2 ag;have m:=CX (Q:=Q) sub;have k:=AW o ae hd v (rm d p) (gR U V0) (by rw[cn]at f;omega) (uq a.2) λb=>by
   rw[vl,c,i,Nm a.1 ag]
  have l:=hd h d _ C;have:=xw (cL.mpr ⟨d,ag,rfl⟩:o h d+mp o v (rm d p)∈p.map λd=>o h d+mp o v (rm d p));show mn (p.map λd=>o h d+mp o v (rm d p))<=_;omega
end
end Tj
namespace G
open L2
variable{h m:aq}{a:bk}{T Y:List aq}
structure eX(Y:List aq)(m:aq)(T:List aq)(z:aq->Int)(u:List aq):Prop where
 ae:T.Nodup
 sub:∀f∈T,f∈Y
 st:m∈T
 f0:z m=0
 back:∀f∈T,f=m\/∃o∈T,f∈bw o/\z f=z o+1
 pos:∀f∈T,0<=z f
 el:∀f∈u,f∈T
 kQ:∀f∈T,f∈u\/∀o∈bw f,o∈Y->o∈T/\z o<=z f+1
 up:u.Pairwise λh d=>z h<=z d
 top:∀b∈u.head?,∀f∈T,z f<=z b+1
def dF(Y T V4:List aq):List aq:=(V4.filter λo=>decide (o∈Y) && !decide (o∈T))
def q9{V4:List aq}{o:aq}:o∈dF Y T V4↔o∈V4/\o∈Y/\o∉T:=by
 unfold dF;rw[fE,cI,fu,uX,Gq]
def ie(z:aq->Int)(b:aq)(a:List aq):aq->Int:=(λf=>if f∈a then z b+1 else z f)
def xZ(f:aq):f∉bw f:=λc=>ob c rfl
def eX.step{Y:List aq}{m:aq}{T:List aq}{z:aq->Int}{b:aq}{p:List aq}(Wf:eX Y m T z (b::p)):eX Y m (T++dF Y T (bw b)) (ie z b<|dF Y T<|bw b) (p++dF Y T (bw b)):=by
 have j:=Wf.el b (.head _);have q:=Wf.top b rfl;have e:∀f∈T,ie z b (dF Y T<|bw b) f=z f:=λf g=>if_neg λk=>(q9.mp k).2.2 g;have new:∀f∈dF Y T (bw b),ie z b (dF Y T<|bw b) f=z b+1:=λf g=>aH g;have s:(dF Y T<|bw b).Nodup:=(qB b).filter _;refine⟨c4.mpr ⟨Wf.ae,s,λh av d ag a=>(q9.mp ag).2.2 (a ▸ av)⟩,λf g=>?_,eb _ Wf.st,by rw[e _ Wf.st,Wf.f0],λf g=>?_,λf g=>?_,λf g=>?_,λf g=>?_,?_,λi w f g=>?_⟩
 ·rcases d8.mp g with c|c
  ·exact Wf.sub f c
  ·exact (q9.mp c).2.1
 ·rcases d8.mp g with c|c
  ·rcases Wf.back f c with a|⟨o,hd,l,t⟩
   ·exact .inl a
   ·exact .inr ⟨o,eb _ hd,l,by rw[e f c,e o hd,t]⟩
  ·exact .inr ⟨b,eb _ j,(q9.mp c).1,by rw[new f c,e b j]⟩
 ·rcases d8.mp g with c|c
  ·rw[e f c];exact Wf.pos f c
  ·rw[new f c];have:=Wf.pos b j;omega
 ·rcases d8.mp g with c|c
  ·exact eb _ (Wf.el f<|.tail _ c)
  ·exact er _ c
 ·rcases d8.mp g with c|c
  ·rcases Wf.kQ f c with k|k
   ·rcases bR.mp k with a|k
    ·refine .inr λo hd r=>?_;rw[a]at hd;by_cases n:o∈T
     ·refine⟨eb _ n,?_⟩;rw[e o n,a,e b j];exact q o n
     ·have u:o∈dF Y T (bw b):=q9.mpr ⟨hd,r,n⟩;refine⟨er _ u,?_⟩;rw[new o u,a,e b j];exact g_ _
    ·exact .inl (eb _ k)
   ·refine .inr λo hd r=>?_;let⟨v,x⟩:=k o hd r;exact⟨eb _ v,by rw[e o v,e f c];exact x⟩
  ·exact .inl (er _ c)
 ·refine List.pairwise_append.mpr ⟨?_,?_,λh av d ag=>?_⟩
  ·exact ((h1.mp Wf.up).2).imp_of_mem λ{h d} av ag c=>by rw[e h (Wf.el h<|.tail _ av),e d<|Wf.el d<|.tail _ ag];exact c
  ·exact uK (λ{h d} av ag _=>by rw[new h av,new d ag];exact g_ _) s
  ·rw[e h (Wf.el h<|.tail _ av),new d ag];exact q h (Wf.el h<|.tail _ av)
 ·have A:z b<=ie z b (dF Y T<|bw b) i:=by
   have y:i∈p++dF Y T (bw b):=List.mem_of_mem_head? w;rcases d8.mp y with c|c
   ·rw[e i (Wf.el i<|.tail _ c)];exact (h1.mp Wf.up).1 i c
   ·rw[new i c];omega
  rcases d8.mp g with c|c
  ·rw[e f c];have:=q f c;omega
  ·rw[new f c];omega
def eX.init(d:m∈Y){z:aq->Int}(c:z m=0):eX Y m [m] z [m]:=
 ⟨e4 _ _,λf a=>by rw[cR.mp a];exact d,.head _,c,λf a=>.inl<|cR.mp a,λf a=>by rw[cR.mp a,c];exact g_ _,λf a=>a,λf a=>.inl a,e4 _ _,λb e f a=>by
  have:b=m:=by simpa using e.symm
  rw[cR.mp a,this];omega⟩
abbrev pU(Y:List aq):aq->aq->Nat->Prop:=Tj.h9 (cA Y) Prod.fst Prod.snd
abbrev Ji(a:bk)(r:aq):Bool:=Tj.inc Prod.fst Prod.snd a r
def ya(c:a∈cA Y):a.1≠a.2:=λk=>by
 have:=(eW.mp c).2.2.1;rw[k]at this;exact xZ _ this
def Sm{d:aq}(av:h∈Y)(ag:d∈Y)(c:d∈bw h):∃a∈cA Y,Ji a h=ab/\Tj.dQ Prod.fst Prod.snd a h=d:=by
 by_cases J:cW h d=ab
 ·refine⟨(h,d),eW.mpr ⟨av,ag,c,J⟩,(Tj.rt (q:=Prod.fst) (u:=Prod.snd) (dY<|ob c) h).mpr<|.inl rfl,?_⟩;unfold Tj.dQ;rw[aH rfl]
 ·have b:cW d h=ab:=by
   rw[hk] at *;have:=rT.mp c;omega
  refine⟨(d,h),eW.mpr ⟨ag,av,lu c,b⟩,(Tj.rt (q:=Prod.fst) (u:=Prod.snd) (ob c) h).mpr<|.inr rfl,?_⟩;unfold Tj.dQ;rw[if_neg (ob c)]
def Sa(b:a∈cA Y)(VW:Ji a h=ab):h∈Y/\Tj.dQ Prod.fst Prod.snd a h∈Y/\Tj.dQ Prod.fst Prod.snd a h∈bw h:=by
 let⟨l,t,c,W⟩:=eW.mp b;have k:=(Tj.rt (ya b) h).mp VW;unfold Tj.dQ;by_cases i:a.1=h
 ·rw[aH i,<-i];exact⟨l,t,c⟩
 ·rw[if_neg i,<-k.resolve_left i];exact⟨t,l,lu c⟩
structure mK(Y:List aq)(m:aq)(z:aq->Nat):Prop where
 FX:∀f∈Y,pU Y f m (z f)
 le:∀f v,pU Y m f v->z f<=v
def eX.all{z:aq->Int}(Wf:eX Y m T z [])(b:∀f∈Y,dT Y m f):∀f∈Y,f∈T:=λf a=>by
 have u:=b f a;clear a;induction u with
 |self=>exact Wf.st
 |step q l t c=>
  rcases Wf.kQ _ c with k|k
  ·cases k
  ·exact (k _ t l).1
def eX.ds{Y:List aq}{m:aq}{T:List aq}{z:aq->Int}(Wf:eX Y m T z [])(i:m∈Y)(j:∀f∈Y,dT Y m f):mK Y m λf=>(z f).toNat:=by
 have all:=Wf.all j;have b:∀f∈Y,∀o∈bw f,o∈Y->z o<=z f+1:=λf c o hd n=>by
  rcases Wf.kQ f (all f c) with k|k
  ·cases k
  ·exact (k o hd n).2
 refine⟨λf c=>?_,λf v C=>?_⟩
 ·have V_:∀(v:Nat) (f:aq),f∈T->z f=v->pU Y f m v:=λv=>by
   induction v with
   |zero=>
    intro f c a;rcases Wf.back f c with k|⟨o,hd,_,t⟩
    ·rw[k];exact .nil _
    ·have:=Wf.pos o hd;omega
   |succ v e=>
    intro f c a;rcases Wf.back f c with k|⟨o,hd,l,t⟩
    ·rw[k,Wf.f0]at a;omega
    ·let⟨N,p,VW,q⟩:=Sm (Wf.sub f c) (Wf.sub o hd) (lu l);refine .cons p VW ?_;rw[q];exact e o hd (by omega)
  have g:=all f c;exact V_ _ f g (by have:=Wf.pos f g;omega)
 ·have V_:∀(h d:aq) (M:Nat),pU Y h d M->h∈Y->z d<=z h+M:=λh d M r=>by
   clear C;induction r with
   |nil h=>intro W;omega
   |cons s VW C e=>
    intro av;let⟨W,l,t⟩:=Sa s VW;have:=e l;have:=b _ av _ t l;omega
  have:=V_ m f v C i;rw[Wf.f0]at this;omega
end G
namespace Tj
variable{v:Nat}
variable{V7 af:Type}[DecidableEq af][DecidableEq V7]{Q:List V7}{q u:V7->af}
def h9.snoc{h d:af}(C:h9 Q q u h d v){a:V7}(b:a∈Q)(VW:inc q u a d=ab):h9 Q q u h (dQ q u a d) (v+1):=by
 induction C with
 |nil h=>exact .cons b VW (.nil _)
 |cons l t C c=>exact .cons l t (c VW)
def UG{a:V7}{h:af}(VW:inc q u a h=ab):inc q u a (dQ q u a h)=ab/\dQ q u a (dQ q u a h)=h:=by
 have v:=xk VW;have d:=(rt v h).mp VW;refine⟨by rw[BS VW,bW rfl,decide_eq_false<|sU VW];rfl,?_⟩;by_cases i:q a=h
 ·have:dQ q u a h=u a:=by unfold dQ;rw[aH i]
  rw[this,(FL v).2,i]
 ·have:dQ q u a h=q a:=by unfold dQ;rw[if_neg i]
  rw[this,(FL v).1,d.resolve_left i]
def h9.rev{h d:af}(C:h9 Q q u h d v):h9 Q q u d h v:=by
 induction C with
 |nil h=>exact .nil h
 |cons l t C a=>
  have n:=UG t;have:=a.snoc l n.1
  rwa [n.2]at this
end Tj
namespace G
open L2
variable{z:aq->Int}{Q i b VV:List bk}{S Y:List aq}{o:aq->aq->Nat}{f d h:aq}
def dg(Y:List aq)(h d:aq):List aq:=(Y.filter λf=>decide (((cV Y f).length+b5 f [h,d])%2=1))
def JI(ae:Y.Nodup)(h d:aq):(dg Y h d).Nodup:=ae.filter _
theorem DJ(c:f∈dg Y h d):f∈Y:=(fE.mp c).1
def NW(ae:Y.Nodup){h d:aq}(av:h∈Y)(ag:d∈Y):(Y.map λf=>b5 f [h,d]).sum=2:=by
 have a:(Y.map λf=>b5 f [h,d])=Y.map λf=>(if h=f then 1 else 0)+if d=f then 1 else 0:=gr λf W=>by
  rw[f6,f6];rfl
 rw[a,d2.sum_add,d2.qA ae av,d2.qA ae ag]
def B1(ae:Y.Nodup){h d:aq}(av:h∈Y)(ag:d∈Y):(dg Y h d).length%2=0:=by
 have c:=Bi ae (Q:=cA Y) λa e=>⟨(eW.mp e).1,(eW.mp e).2.1⟩;have a:(Y.map λb=>cS (cA Y) b)=Y.map λb=>(cV Y b).length:=gr λb f=>xH ae f;rw[a]at c;have q:=Hp (λb=>(cV Y b).length+b5 b [h,d]) Y;rw[d2.sum_add,c,NW ae av ag]at q;unfold dg;omega
def ip(V1:List bk):bk->Bool:=(λa=>decide (b5 a V1%2=1))
def Gv(a:bk)(V1:List bk):ip (a::V1)=Tj.gR (ip V1) (Tj.only a):=by
 funext o;show decide (b5 o (a::V1)%2=1)=xor (decide (b5 o V1%2=1)) (decide (o=a));rw[f6];by_cases c:a=o
 ·rw[aH c,bW c.symm];by_cases k:b5 o V1%2=1
  ·rw[bW k,decide_eq_false (by omega)];rfl
  ·rw[decide_eq_false k,bW (by omega)];rfl
 ·rw[if_neg c,decide_eq_false<|dY c,oo,C5]
theorem Cr{Y:List aq}(ae:Y.Nodup)(b:aq):∀{V1:List bk},(∀a∈V1,a∈cA Y)->Tj.par (cA Y) Prod.fst Prod.snd (ip V1) b=decide (cS V1 b%2=1)
 |[],_=>Tj.xF λ_ W=>rfl
 |a::V1,c=>by
  have d:=c a (.head _);have v:=ya d;rw[Gv,Tj.vl,Cr ae b λo hd=>c o<|.tail _ hd,Tj.uv (jU ae) d];have Wz:cS (a::V1) b=((if a.1=b then 1 else 0)+if a.2=b then 1 else 0)+cS V1 b:=by unfold cS;rw[bH,g0]
  rw[Wz];unfold Tj.inc;by_cases l:a.1=b<;>by_cases t:a.2=b
  ·exact absurd (l.trans t.symm) v
  all_goals
   by_cases k:cS V1 b%2=1
   ·simp[l,t,k];try omega
   ·simp[l,t,k];try omega
theorem Fi{Y:List aq}(ae:Y.Nodup):∀{V1:List bk},(∀a∈V1,a∈cA Y)->Tj.dj (cA Y) (ip V1)<=V1.length/\(Tj.dj (cA Y) (ip V1)=V1.length->V1.Nodup)
 |[],_=>⟨by rw[show Tj.dj (cA Y) (ip [])=0 from Br.mpr λ_ W k=>dw k];exact fW _,λ_=>ht⟩
 |a::V1,c=>by
  have b:=c a (.head _);let⟨g,e⟩:=Fi ae λo hd=>c o (.tail _ hd);rw[Gv,cn];cases s:ip V1 a with
  |true=>
   have m:Tj.dj (cA Y) (Tj.gR (ip V1)<|Tj.only a)+1=Tj.dj (cA Y) (ip V1):=Tj.A7 (jU ae) b s;exact⟨by omega,λk=>by omega⟩
  |false=>
   have m:Tj.dj (cA Y) (Tj.gR (ip V1)<|Tj.only a)=Tj.dj (cA Y) (ip V1)+1:=Tj.H7 (jU ae) b s;refine⟨by omega,λk=>?_⟩;have d:=e (by omega);refine dD.mpr ⟨λf=>?_,d⟩;have:=lS d f;unfold ip at s;rw[this]at s;exact absurd s ∅
open Tj (mp rm cQ mn)
theorem IK(o:aq->aq->Nat):∀(v M:Nat) (S:List aq),S.length<=v->S.length<=M->mp o v S=mp o M S
 |0,0,S,_,_=>rfl
 |0,M+1,[],_,_=>rfl
 |v+1,0,[],_,_=>rfl
 |v+1,M+1,[],_,_=>rfl
 |0,M+1,h::p,c,_=>absurd c (by rw[cn];omega)
 |v+1,0,h::p,_,c=>absurd c (by rw[cn];omega)
 |v+1,M+1,h::p,l,t=>by
  rw[cn]at l t;show mn (p.map λd=>o h d+mp o v (rm d p))=mn (p.map λd=>o h d+mp o M (rm d p));congr 1;refine gr λd Y=>?_;have:(rm d p).length<=p.length:=j_ _ _;rw[IK o v M (rm d p) (by omega) (by omega)]
def cB(o:aq->aq->Nat)(S:List aq):Nat:=(mp o S.length S)
def sE(o:aq->aq->Nat)(h:aq)(p:List aq):cB o (h::p)=mn (p.map λd=>o h d+cB o (rm d p)):=by
 show mn (p.map λd=>o h d+mp o p.length (rm d p))=_;congr 1;refine gr λd Y=>?_;have:(rm d p).length<=p.length:=j_ _ _;unfold cB;rw[IK o p.length (rm d p).length (rm d p) this (bB _)]
def l0(VV:List bk):List aq:=(VV.flatMap λq=>[q.1,q.2])
structure gx(o:aq->aq->Nat)(S:List aq)(VV:List bk):Prop where
 cost:(VV.map λq=>o q.1 q.2).sum=cB o S
 pm:(l0 VV).Perm S
def gx.nil(o:aq->aq->Nat):gx o [] []:=⟨rfl,.refl _⟩
theorem Rb{p:List aq}(ae:p.Nodup)(ag:d∈p):(d::rm d p).Perm p:=(w3 (dD.mpr ⟨λk=>(cQ.mp k).2 rfl,Tj.uq ae⟩) ae).mpr λb=>by
 rw[bR,cQ];exact⟨λk=>k.elim (λa=>a ▸ ag) λk=>k.1,λk=>if a:b=d then .inl a else .inr ⟨k,a⟩⟩
def gx.cons{o:aq->aq->Nat}{h d:aq}{p:List aq}{VV:List bk}(ae:p.Nodup)(ag:d∈p)(b:gx o (rm d p) VV)(c:∀f∈p,o h d+cB o (rm d p)<=o h f+cB o (rm f p)):gx o (h::p) ((h,d)::VV):=by
 refine⟨?_,?_⟩
 ·rw[bH,g0,b.cost,sE];refine DN ?_ (Tj.xw<|cL.mpr ⟨d,ag,rfl⟩);let⟨f,e,a⟩:=cL.mp (Tj.Dl (J:=p.map λd=>o h d+cB o (rm d p)) λk=>by rw[xV.mp k]at ag;cases ag);rw[<-a];exact c f e
 ·show ([h,d]++l0 VV).Perm (h::p);exact ((b.pm.cons d).trans<|Rb ae ag).cons h
def gx.in(a:gx o S VV):∀q∈VV,q.1∈S/\q.2∈S:=λq b=>⟨a.pm.mem_iff.mp<|pL.mpr ⟨q,b,.head _⟩,a.pm.mem_iff.mp<|pL.mpr ⟨q,b,.tail _<|.head _⟩⟩
def Kj(VV:List bk):(l0 VV).length=2*VV.length:=by
 induction VV with
 |nil=>rfl
 |cons q VV a=>show ([q.1,q.2]++l0 VV).length=_;rw[cZ,a];show 2+2*VV.length=2*(VV.length+1);omega
def gx.len(a:gx o S VV):S.length=2*VV.length:=by rw[<-a.pm.length_eq,Kj]
theorem yH:∀(y:List aq) (J:List (List aq)),J.Nodup->(∀H∈J,H.Sublist y)->J.length<=2^y.length
 |[],J,ae,c=>by
  have all:∀H∈J,H=[]:=λH d=>List.sublist_nil.mp (c H d)
  match J,ae,all with
  |[],_,_=>exact fW _
  |[_],_,_=>exact bB _
  |b::i::p,ae,all=>exact absurd ((all b<|.head _).trans (all i<|.tail _<|.head _).symm) (dD.mp ae |>.1 |> λk a=>k<|a ▸ .head _)
 |h::p,J,ae,c=>by
  have g:((J.filter λH=>decide (H.head?=Z h)).map List.tail).Nodup:=by
   refine jI.mpr (uK (λ{b i} e j v a=>v ?_)<|ae.filter _);have WD:=e_ (fE.mp e).2;have f:=e_ (fE.mp j).2;cases b with
   |nil=>cases WD
   |cons b x=>
    cases i with
    |nil=>cases f
    |cons i V5=>
     have n:b=h:=by simpa using WD
     have o:i=h:=by simpa using f
     rw[n,o,show x=V5 from a]
  have q:∀H∈(J.filter λH=>decide (H.head?=Z h)).map List.tail,H.Sublist p:=λH d=>by
   let⟨b,e,rfl⟩:=cL.mp d;let⟨l,t⟩:=fE.mp e;have a:=e_ t;have m:=c b l;cases b with
   |nil=>cases a
   |cons b x=>
    have:b=h:=by simpa using a
    rw[this]at m;exact List.cons_sublist_cons.mp m
  have l:=yH p _ g q;have t:=yH p (J.filter λH=>!decide (H.head?=Z h)) (ae.filter _) λH d=>by
   let⟨l,t⟩:=fE.mp d;have m:=c H l;cases m with
   |cons _ m=>exact m
   |cons_cons _ m=>exact absurd t ↥0
  have r:J.length=(J.filter λH=>decide (H.head?=Z h)).length+(J.filter λH=>!decide (H.head?=Z h)).length:=by
   rw[<-H9,<-H9];have:=List.length_eq_countP_add_countP (λH:List aq=>decide (H.head?=Z h)) (l:=J);rw[this];congr 1;exact Aw λH Y=>by simp
  rw[br]at l;rw[cn,Nat.pow_succ];omega
structure y_(Y S:List aq)(V1:List bk)(M:Nat):Prop where
 ae:V1.Nodup
 sub:∀a∈V1,a∈cA Y
 odd:∀b,cS V1 b%2=1↔b∈S
 len:V1.length=M
def MQ{r:bk->List bk}(ae:Y.Nodup)(e:S.Nodup)(hd:∀h d v,pU Y h d v->o h d<=v)(f:gx o S VV)(l:∀q∈VV,∀a∈r q,a∈cA Y)(t:∀q∈VV,∀b,cS (r q) b%2=b5 b [q.1,q.2]%2)(g:∀q∈VV,(r q).length=o q.1 q.2):y_ Y S (VV.flatMap r) (cB o S):=by
 have sub:∀a∈VV.flatMap r,a∈cA Y:=λa i=>by
  let⟨q,m,c⟩:=pL.mp i;exact l q m a c
 have len:(VV.flatMap r).length=cB o S:=by
  rw[<-f.cost,List.length_flatMap];congr 1;exact gr g
 have n:∀(el:List bk),(∀q∈el,∀b,cS (r q) b%2=b5 b [q.1,q.2]%2)->∀b,cS (el.flatMap r) b%2=b5 b (l0 el)%2:=λel=>by
  induction el with
  |nil=>exact λ_ W=>rfl
  |cons q el p=>
   intro c b;have j:=p (λu w=>c u<|.tail _ w) b;have s:=c q (.head _) b;have a:b5 b (l0 (q::el))=b5 b [q.1,q.2]+b5 b (l0 el):=oj b [q.1,q.2] (l0 el);rw[oM,yi,a];omega
 have odd:∀b,cS (VV.flatMap r) b%2=1↔b∈S:=λb=>by
  rw[n VV t b];have a:b5 b (l0 VV)=b5 b S:=(f.pm.map _).sum_nat;rw[a];by_cases c:b∈S
  ·rw[lS e c];exact⟨λ_=>c,λ_=>rfl⟩
  ·rw[ji c];exact⟨λk=>absurd k ∅,λk=>absurd k c⟩
 let⟨y,x⟩:=Fi ae sub;have J:=Tj.AW o (jU ae) hd S.length S (ip<|VV.flatMap r) (bB _) e λb=>by
  rw[Cr ae b sub];exact ix.mpr (odd b)
 have J:cB o S<=Tj.dj (cA Y) (ip<|VV.flatMap r):=J;exact⟨x (by omega),sub,odd,len⟩
def Kg{n:aq}{H:List aq}(c:f∈H):∃I o r,n::H=I++[o,f]++r:=by
 let⟨a,WU,rfl⟩:=List.append_of_mem c;rcases sv a with rfl|⟨q,o,rfl⟩
 ·exact⟨[],n,WU,rfl⟩
 ·exact⟨n::q,o,WU,by simp⟩
theorem ER:∀{q:List aq},(∀I r h d,q=I++[h,d]++r->d∈bw h)->ml q=ab
 |[],_=>rfl
 |[b],_=>rfl
 |b::i::p,c=>by
  rw[PK,cI,fu];exact⟨c [] p b i rfl,ER λI r h d a=>c (b::I) r h d (by rw[a];rfl)⟩
theorem Ej:∀{q:List aq}{u:bk},u∈gM q->∃I r,q=I++[u.1,u.2]++r
 |[],u,c=>by cases c
 |[b],u,c=>by cases c
 |b::i::p,u,c=>by
  rcases bR.mp (show u∈(b,i)::gM (i::p) from c) with rfl|c
  ·exact⟨[],p,rfl⟩
  ·let⟨I,r,a⟩:=Ej c;exact⟨b::I,r,by rw[a];rfl⟩
abbrev wk(u:bk):bk:=dS u.1 u.2
def s6(c:cW h d=ab):dS h d=(h,d):=by
 have v:¬ cW d h=ab:=by rw[hk] at *;omega
 unfold dS;rw[if_neg (show ¬ a9 (V d) (V h)=ab from v),aH<|show a9 (V h) (V d)=ab from c]
def ug(c:cW d h=ab):dS h d=(d,h):=by
 have v:¬ cW h d=ab:=by rw[hk] at *;omega
 unfold dS;rw[aH (show a9 (V d) (V h)=ab from c),if_neg<|show ¬ a9 (V h) (V d)=ab from v]
def yU(c:¬ cW h d=ab)(s:¬ cW d h=ab):h=d:=by
 rw[hk] at *;exact m4 (by omega) (by omega)
def Jb(av:h∈Y)(ag:d∈Y)(c:d∈bw h):dS h d∈cA Y:=by
 by_cases l:cW h d=ab
 ·rw[s6 l];exact eW.mpr ⟨av,ag,c,l⟩
 ·by_cases t:cW d h=ab
  ·rw[ug t];exact eW.mpr ⟨ag,av,lu c,t⟩
  ·exact absurd (yU l t).symm (ob c)
def GJ{a:bk}(J:cW a.1 a.2=ab):dS h d=a↔(h=a.1/\d=a.2)\/(h=a.2/\d=a.1):=by
 constructor
 ·intro c;by_cases l:cW h d=ab
  ·rw[s6 l]at c;exact .inl ⟨by rw[<-c],by rw[<-c]⟩
  ·by_cases t:cW d h=ab
   ·rw[ug t]at c;exact .inr ⟨by rw[<-c],by rw[<-c]⟩
   ·have b:=yU l t;unfold dS at c;rw[if_neg (show ¬ a9 (V d) (V h)=ab from t),if_neg<|show ¬ a9 (V h) (V d)=ab from l]at c;rw[<-c,hk]at J;dsimp only at J;omega
 ·rintro (⟨rfl,rfl⟩|⟨rfl,rfl⟩)
  ·exact s6 J
  ·exact ug J
theorem Fx{a:bk}(J:cW a.1 a.2=ab):∀q:List aq,b5 a ((gM q).map wk)=d2.ce q a.1 a.2
 |[]=>rfl
 |[b]=>rfl
 |b::i::p=>by
  show b5 a (dS b i::(gM (i::p)).map wk)=_;rw[f6,Fx J (i::p),d2.ce];congr 1;unfold d2.pr;by_cases c:dS b i=a
  ·rw[aH c,aH<|(GJ J).mp c]
  ·rw[if_neg c,if_neg λk=>c<|(GJ J).mpr k]
abbrev hd(o m H:Int):ak:=.lst [.int o,.int m,.int H]
abbrev xt(d:Bool):ak:=.im (.aJ d)
def k9(T:List (Int×Int))(f:Int×Int):List (Int×Int):=(if f∈T then T else T++[f])
def P5(T:List (Int×Int))(f:Int×Int):dH (aQ T) (bJ f) (.aJ ab)=aQ (k9 T f):=by
 unfold k9;by_cases c:f∈T
 ·rw[aH c];unfold dH;rw[aH (by rw[vJ];simpa using c)];unfold aQ;rw[es];refine gr λb Y=>?_;show (if bJ b=bJ f then (bJ b,aa.aJ ab) else (bJ b,aa.aJ ab))=_;split<;>rfl
 ·rw[if_neg c];exact Cd c
abbrev mO:=Int×Int
theorem DK(F:Option ak):∀(VU T:List mO) (Wu:Option ak),T.length+VU.length<100000->∃b,dp (a6 2) rL (VU.map V) [F,Z<|.aB<|aQ T,Wu]=Z (.a8,[F,Z<|.aB<|aQ<|VU.foldl k9 T,b])
 |[],T,Wu,_=>⟨Wu,rfl⟩
 |f::VU,T,Wu,c=>by
  have d:hM (.aB<|aQ T) (.im<|.tup<|bJ f) (xt ab)=Z (.aB<|aQ<|k9 T f):=by
   rw[<-P5];exact aH ⟨rfl,by unfold aQ;rw[br];rw[cn]at c;lia⟩
  have g5:(k9 T f).length<=T.length+1:=by
   unfold k9;split
   ·lia
   ·rw[cZ];exact bB _
  let⟨@b,e⟩:=DK F VU (k9 T f) (Z<|.im<|V f) (by rw[cn]at c;lia);refine⟨b,?_⟩;have a:rL [F,Z<|.aB<|aQ T,Z<|.im<|V f]=Z (.a8,[F,Z<|.aB<|aQ<|k9 T f,Z<|.im<|V f]):=by
   unfold rL;refine ox rfl ?_;show (hM (.aB<|aQ T) (.im<|.tup<|bJ f)<|xt ab).map _=_;rw[d];rfl
  rw[bH,dp];show (rL [F,Z<|.aB<|aQ T,Z<|.im<|V f]).bind _=_;rw[a];exact e
theorem Fe:∀(VU T:List mO),(T++VU).Nodup->VU.foldl k9 T=T++VU
 |[],T,_=>by rw[b4];rfl
 |f::VU,T,ae=>by
  have a:f∉T:=λc=>by
   have:=(c4.mp ae).2.2 f c f (.head _);exact this rfl
  rw[kH,k9,if_neg a,Fe VU (T++[f]) (by rw[bV];exact ae),bV];rfl
def Az{VU:List mO}(ae:VU.Nodup)(a:VU.length<10000):mw [aK VU]=Z (.aB<|aQ VU,[aK VU]):=by
 let⟨@n,cv⟩:=DK (Z<|aK VU) VU [] X (by show 0+_<_;lia);rw[Fe VU [] ae]at cv;unfold mw HS;refine eO (w:=[Z (aK VU),Z .c2,n]) rfl (bP (VQ:=[Z (aK VU),Z<|.aB [],X]) rfl<|bP (gZ (n:=X) rfl cv rfl) rfl) rfl
def RK(f:mO):List mO:=([(f.1-1,f.2),(f.1,f.2-1),(f.1,f.2+1),(f.1+1,f.2)])
def Gx(f:mO):kc [.im (V f)]=Z (aW<|RK f,[.im (V f)]):=rfl
def s9(T:List mO)(f:mO):h4 (.im<|V f) (.aB<|aQ T)=Z (xt<|decide (f∈T)):=by
 rw[<-EF];rfl
def gT(Q:List bk):ak:=(.im (.tup<|Q.map bG))
def cb(Q:List bk):ak:=(.lst (Q.map bG))
def pP(f:aq):(bw f).length=4:=rfl
def ze(Y:List aq)(f:aq):(cV Y f).length<=4:=j_ _ _
def Em(Y:List aq)(f:aq):jG [.aB (aQ Y),.im<|V f]=Z (aK<|cV Y f,[.aB (aQ Y),.im<|V f]):=by
 have cT:cE 1 [0] (bY<|ai<|aZ 1 G.kc<|ao (aj 1) ay) (a6 0) G.Gd G.Ja [Z (.aB<|aQ Y),Z<|.im<|V f]=Z (aW<|cV Y f,[Z (.aB<|aQ Y),Z<|.im<|V f]):=by
  refine ho (x:=(bw f).map V) (n:=X) (VQ:=[Z (.aB<|aQ Y),Z<|.im<|V f]) rfl (iw V (λo=>decide (o∈Y)) V _ [] (λo W=>?_) (by rw[pP];decide)) rfl;exact⟨[Z (.im<|V o),Z<|.aB<|aQ Y],[Z (.im<|V o),Z<|.aB<|aQ Y],rfl,eo<|fc<|s9 Y o,λ_=>rfl,λ_=>⟨[Z (.im<|V o),Z<|.aB<|aQ Y],rfl,rfl⟩⟩
 unfold jG J3;exact eO (w:=[Z (.aB<|aQ Y),Z<|.im<|V f]) rfl (gf<|eS (cf (bL cT) rfl) rfl rfl) rfl
def wd(c:b.length+i.length<=100000):nN (cb b) [cb i]=Z (.im .aP,cb<|b++i):=by
 have:nN (cb b) [cb i]=Z (.im .aP,.lst<|b.map bG++i.map bG):=aH (by rw[br,br];exact c);rw[this,<-iM];rfl
def tO(Y:List aq)(f:aq)(VU:List aq):hL Y (f::VU)=(((cV Y f).filter<|cW f).map λo=>(f,o))++hL Y VU:=oM
theorem Du{Y:List aq}:∀(VU:List aq) (a:List bk) (B:Option ak),a.length+4*VU.length<=10000->
  ∃b,dp (a6 3) zo (VU.map V) [Z (aK Y),Z<|.aB<|aQ Y,Z<|cb a,B]=Z (.a8,[Z (aK Y),Z<|.aB<|aQ Y,Z<|cb<|a++hL Y VU,b])
 |[],a,B,_=>⟨B,by rw[show hL Y []=[] from rfl,b4];rfl⟩
 |f::VU,a,B,c=>by
  rw[cn]at c;have h:((cV Y f).filter<|cW f).length<=4:=dN (j_ _ _) (ze Y f);let⟨b,d⟩:=Du VU (a++((cV Y f).filter<|cW f).map λo=>(f,o)) (Z<|.im<|V f) (by rw[cZ,br];omega);have cT:cE 1 [3] (bY<|ai<|aZ 2 G.jG<|ao (aj 1)<|ao (aj 3) ay) (a6 0) G.vZ G.AJ [Z (aK Y),Z<|.aB<|aQ Y,Z<|cb a,Z<|.im<|V f]=Z (cb<|((cV Y f).filter<|cW f).map λo=>(f,o),[Z (aK Y),Z<|.aB<|aQ Y,Z<|cb a,Z<|.im<|V f]):=by
   have e:cE 1 [3] (bY<|ai<|aZ 2 G.jG<|ao (aj 1)<|ao (aj 3) ay) (a6 0) G.vZ G.AJ [Z (aK Y),Z<|.aB<|aQ Y,Z<|cb a,Z<|.im<|V f]=Z (.lst<|((cV Y f).filter<|cW f).map λo=>bG (f,o),[Z (aK Y),Z<|.aB<|aQ Y,Z<|cb a,Z<|.im<|V f]):=by
    have l:bY (ai<|aZ 2 G.jG<|ao (aj 1)<|ao (aj 3) ay) [Z (aK Y),Z<|.aB<|aQ Y,Z<|cb a,Z<|.im<|V f]=Z (((cV Y f).map V,X),[Z (aK Y),Z<|.aB<|aQ Y,Z<|cb a,Z<|.im<|V f]):=by
     have g:aZ 2 G.jG (ao (aj 1)<|ao (aj 3) ay) [Z (aK Y),Z<|.aB<|aQ Y,Z<|cb a,Z<|.im<|V f]=Z (aK<|cV Y f,[Z (aK Y),Z<|.aB<|aQ Y,Z<|cb a,Z<|.im<|V f]):=dh (V6:=[.aS 1,.aS 3]) rfl rfl rfl (Em Y f) rfl;unfold bY;rw[df g];rfl
    refine ho (x:=(cV Y f).map V) (n:=X) l (iw V (cW f) (λo=>bG (f,o)) _ [] (λo W=>?_) (by have:=ze Y f;rw[fy];omega)) rfl;refine⟨[Z (.im<|V o),Z<|.im<|V f],[Z (.im<|V o),Z<|.im<|V f],rfl,eo<|du rfl rfl rfl rfl rfl,λ_=>rfl,λ_=>⟨[Z (.im<|V o),Z<|.im<|V f],jF (cf rfl<|cf rfl rfl) rfl (fg rfl) rfl,rfl⟩⟩
   rw[e];unfold cb;rw[es];rfl
  refine⟨b,?_⟩;rw[bH];refine iR (VQ:=[Z (aK Y),Z<|.aB<|aQ Y,Z<|cb a,Z<|.im<|V f]) (Wi:=[Z (aK Y),Z<|.aB<|aQ Y,Z<|cb<|a++((cV Y f).filter<|cW f).map λo=>(f,o),Z<|.im<|V f]) rfl ?_ ?_
  ·unfold zo;exact jk (kW rfl rfl (dm (df cT) rfl) rfl rfl (wd (by rw[br];omega)) rfl)
  ·rw[d,tO,bV]
def TA(ae:Y.Nodup)(b:Y.length<=1000):oF [aK Y]=Z (gT<|cA Y,[aK Y]):=by
 let⟨a,cv⟩:=Du (Y:=Y) Y [] X (by rw[fy];omega);unfold oF GY;refine eO (w:=[Z (aK Y),Z<|.aB<|aQ Y,Z<|cb<|cA Y,a]) rfl ?_ rfl;exact bP (VQ:=[Z (aK Y),Z<|.aB<|aQ Y,X,X]) (gg (dh (V6:=[.aS 0]) rfl rfl rfl (Az ae (by omega)) rfl) (dX rfl) rfl) (bP (VQ:=[Z (aK Y),Z<|.aB<|aQ Y,Z<|cb [],X]) (gg (kS rfl rfl (fg rfl) rfl) (dX rfl) rfl)<|bP (gZ (n:=X) (x:=Y.map V) rfl cv rfl)<|gf<|k8 (dm rfl rfl) rfl rfl)
def Nb(h d f:aq):nL (.im<|.tup [V h,V d]) (.im<|V f)=Z (aE ((b5 f [h,d]:Nat):Int)):=by
 have u:∀b i:aq,b8 (V b) (V i)=decide (b=i):=λb i=>by
  have d:∀j A:Int,b8 (.int j) (.int A)=decide (j=A):=λj A=>Ip j A;show eD [.int b.1,.int b.2] [.int i.1,.int i.2]=_;show (b8 (.int b.1) (.int i.1)&&(b8 (.int b.2) (.int i.2)&&ab))=_;rw[d,d,vD,n_,cI,fu,fu,fu,mV]
 show Z (ak.im<|.int (l8 [V h,V d] (V f):Nat))=_;unfold l8;rw[iN,iN,List.countP_nil,u,u,f6,f6];by_cases l:h=f<;>by_cases t:d=f<;>simp[l,t,b5]
def E9(f o:aq):ey (.im<|V f) (.im<|V o)=Z (.im<|.aJ<|decide (f=o)):=by
 have d:∀j A:Int,b8 (.int j) (.int A)=decide (j=A):=λj A=>Ip j A;show Z (ak.im<|.aJ<|b8 (.int f.1) (.int o.1)&&(b8 (.int f.2) (.int o.2)&&ab))=_;rw[d,d,vD];congr 3;rw[n_,cI,fu,fu,fu,mV]
theorem xQ(z:aq->Int)(M:Int):∀Y:List aq,∃s:Nat,∀b∈Y,z b<=M+s
 |[]=>⟨0,λ_ c=>absurd c lE⟩
 |i::Y=>by
  let⟨s,c⟩:=xQ z M Y;refine⟨s+(z i-M).toNat,λb a=>?_⟩;rcases bR.mp a with rfl|a
  ·omega
  ·have:=c b a;omega
theorem wV{Y:List aq}{N:aq->aq}{z q:aq->Int}(a:∀f,z (N f)=z f+1)(e:∀f,q (N f)=q f):∀(s:Nat) (f:aq),f∈Y->(∀b∈Y,z b<=z f+s)->∃h∈Y,N h∉Y/\q h=q f
 |0,f,d,c=>⟨f,d,λk=>by have:=c _ k;rw[a]at this;omega,rfl⟩
 |s+1,f,d,c=>by
  by_cases k:N f∈Y
  ·let⟨h,l,t,g⟩:=wV a e s (N f) k λb i=>by have:=c b i;rw[a];omega
   exact⟨h,l,t,g.trans<|e f⟩
  ·exact⟨f,d,k,rfl⟩
def Pl(O Wf:List aq):(O.flatMap λh=>Wf.map λd=>((h.1,d.2):aq)).length=O.length*Wf.length:=by
 induction O with
 |nil=>rw[fy,Nat.zero_mul];rfl
 |cons h O a=>rw[oM,cZ,a,br,cn,Nat.succ_mul,uJ]
def Py{O Wf:List aq}(ae:Y.Nodup)(l:∀f∈Y,∃h∈O,h.1=f.1)(t:∀f∈Y,∃d∈Wf,d.2=f.2):Y.length<=O.length*Wf.length:=by
 rw[<-Pl];refine ae.length_le_of_subset λf a=>?_;let⟨h,av,b⟩:=l f a;let⟨d,ag,c⟩:=t f a;exact pL.mpr ⟨h,av,cL.mpr ⟨d,ag,m4 b c⟩⟩
theorem xS{q:aq->Bool}:∀J:List aq,J.countP q+(J.filter λf=>!q f).length=J.length
 |[]=>rfl
 |h::J=>by
  have:=xS (q:=q) J;rw[iN,ry,cn];cases q h<;>simp<;>omega
def nt(f:aq):aq:=((f.1,f.2+1))
def nU(f:aq):aq:=((f.1+1,f.2))
theorem It{Y:List aq}(a:∀f,(cV Y f).filter (cW f)=((bw f).drop 2).filter λo=>decide (o∈Y)):∀VU:List aq,(hL Y VU).length=VU.countP (λf=>decide (nt f∈Y))+VU.countP λf=>decide (nU f∈Y)
 |[]=>rfl
 |f::VU=>by
  have b:=It a VU;rw[tO,cZ,br,b,a,iN,iN];show (List.filter _ [nt f,nU f]).length+_=_;by_cases l:nt f∈Y<;>by_cases t:nU f∈Y<;>simp[ry,l,t]<;>omega
def zK(m:∀f,(cV Y f).filter (cW f)=((bw f).drop 2).filter λo=>decide (o∈Y))(ae:Y.Nodup)(n:Y.length<=36):(cA Y).length<=63:=by
 have a:=It m Y;have p:=xS (q:=λf=>decide (nt f∈Y)) Y;have r:=xS (q:=λf=>decide (nU f∈Y)) Y;have d:=Py (O:=Y.filter λf=>!decide (nt f∈Y)) (Wf:=Y.filter λf=>!decide (nU f∈Y)) ae (λf e=>by
  let⟨s,g⟩:=xQ (·.2) f.2 Y;let⟨h,l,t,j⟩:=wV (Y:=Y) (N:=nt) (z:=(·.2)) (q:=(·.1)) (λ_=>rfl) (λ_=>rfl) s f e g;exact⟨h,fE.mpr ⟨l,by rw[decide_eq_false t];rfl⟩,j⟩) (λf e=>by
  let⟨s,g⟩:=xQ (·.1) f.1 Y;let⟨h,l,t,j⟩:=wV (Y:=Y) (N:=nU) (z:=(·.1)) (q:=(·.2)) (λ_=>rfl) (λ_=>rfl) s f e g;exact⟨h,fE.mpr ⟨l,by rw[decide_eq_false t];rfl⟩,j⟩)
 show (hL Y Y).length<=63;rw[a];generalize (Y.filter λf=>!decide (nt f∈Y)).length=b at *;generalize (Y.filter λf=>!decide (nU f∈Y)).length=i at *;refine ym λk=>?_;have c:b=0\/b=1\/b=2\/b=3\/b=4\/b=5\/b=6\/b=7\/b=8:=by omega
 rcases c with rfl|rfl|rfl|rfl|rfl|rfl|rfl|rfl|rfl<;>omega
def ru:aa->bk
 |.tup [h,d]=>(g8 h,g8 d)
 |_=>((0,0),(0,0))
def tE(a:bk):ru (bG a)=a:=rfl
def x1{h d:bk}(c:bG h=bG d):h=d:=by rw[<-tE h,c,tE]
def Q6{J:List aa}{T:List bk}(c:J.Perm (T.map bG)):∃d:List bk,d.Perm T/\J=d.map bG:=by
 have all:∀J:List aa,(∀b∈J,b∈T.map bG)->J=(J.map ru).map bG:=λJ=>by
  induction J with
  |nil=>exact λ_=>rfl
  |cons b J e=>
   intro c;let⟨q,Y,a⟩:=cL.mp (c b<|.head _);rw[bH,bH,<-e λi f=>c i<|.tail _ f,<-a,tE]
 refine⟨J.map ru,?_,all J λb g=>c.mem_iff.mp g⟩;have:=AM ru c;rw[es]at this;have a:(ru ∘ bG:bk->bk)=id:=funext tE;rw[a,oB]at this;exact this
def tp(a:Q.length<=63):pM (Q.map bG):=⟨⟨by rw[br];exact a,λh av d ag=>by
  let⟨b,Y,rfl⟩:=cL.mp av;let⟨i,Y,rfl⟩:=cL.mp ag;rfl⟩,.inr λo hd=>by
  let⟨b,Y,rfl⟩:=cL.mp hd;rfl⟩
def kj(Q:List bk):ak:=(.lst (gO a9<|Q.map bG))
def Mi{Y:List bk}(a:Y.length<=63)(q:Q.Perm Y):kj Q=kj Y:=by
 unfold kj;congr 1;exact xK (tp a).ord ((i1 _).trans<|q.map bG) (t9 (tp (Q:=Q) (by rw[q.length_eq];exact a)).ord.jf)
def IQ(ae:Q.Nodup)(b:Q.length<=63):jQ [cb Q]=Z (kj Q):=by
 cases Q with
 |nil=>rfl
 |cons a Q=>
  show iD ((a::Q).map bG)=_;unfold iD;have n:=tp b;rw[aH (pf.mpr ⟨⟨n.ord.gd,n.ord.jf,tj bG (λh d v a=>v<|x1 a) ae⟩,n.fst⟩)];rfl
def wb(Q:List bk):∃S:List bk,S.Perm Q/\kj Q=cb S:=by
 let⟨S,Ws,a⟩:=Q6 (i1<|Q.map bG);exact⟨S,Ws,congrArg ak.lst a⟩
def rE(Y:List aq)(f:aq):((bw f).drop 2).filter (λo=>decide (o∈Y))=(cV Y f).filter (cW f):=by
 have l:cW f (f.1-1,f.2)=az:=by
  cases c:cW f (f.1-1,f.2) with
  |false=>rfl
  |true=>have:=(hk _ _).mp c;dsimp only at this;omega
 have t:cW f (f.1,f.2-1)=az:=by
  cases c:cW f (f.1,f.2-1) with
  |false=>rfl
  |true=>have:=(hk _ _).mp c;dsimp only at this;omega
 have a:cW f (f.1,f.2+1)=ab:=(hk _ _).mpr (by dsimp only;omega);have b:cW f (f.1+1,f.2)=ab:=(hk _ _).mpr (by dsimp only;omega);unfold cV;rw[List.filter_filter];unfold bw;simp only[List.drop_succ_cons,r0,ry,List.filter_nil,l,t,a,b,JW,Bool.true_and,jT,fO]
abbrev j1(Y:List aq):ak:=.aB (aQ Y)
theorem EW{Y:List aq}:∀(VU:List aq) (a:List bk) (B:Option ak),a.length+4*VU.length<=10000->
  ∃b,dp (a6 3) wH (VU.map V) [Z (aK Y),Z<|j1 Y,Z<|cb a,B]=Z (.a8,[Z (aK Y),Z<|j1 Y,Z<|cb<|a++hL Y VU,b])
 |[],a,B,_=>⟨B,by rw[show hL Y []=[] from rfl,b4];rfl⟩
 |f::VU,a,B,c=>by
  rw[cn]at c;have i:((cV Y f).filter<|cW f).length<=4:=dN (j_ _ _) (ze Y f);let⟨b,d⟩:=EW VU (a++((cV Y f).filter<|cW f).map λo=>(f,o)) (Z<|.im<|V f) (by rw[cZ,br];omega);let w:aU:=[Z (aK Y),Z<|j1 Y,Z<|cb a,Z<|.im<|V f]
  have cT:cE 1 [1,3] (bY<|ai<|ff (ai<|aZ 1 G.hT<|ao (aj 3) ay) (fv<|aG<|.int 2) gu) (a6 0) G.zA G.xP w=Z (cb<|((cV Y f).filter<|cW f).map λo=>(f,o),w):=by
   have e:cE 1 [1,3] (bY<|ai<|ff (ai<|aZ 1 G.hT<|ao (aj 3) ay) (fv<|aG<|.int 2) gu) (a6 0) G.zA G.xP w=Z (.lst<|(((bw f).drop 2).filter λo=>decide (o∈Y)).map λo=>bG (f,o),w):=by
    have g:aZ 1 G.hT (ao (aj 3) ay) w=Z (aW<|bw f,w):=dh (V6:=[.aS 3]) rfl rfl rfl (rO f) rfl;have h:i4 (aW<|bw f) (Z 2) X=Z (aW<|(bw f).drop 2):=rfl;have l:bY (ai<|ff (ai<|aZ 1 G.hT<|ao (aj 3) ay) (fv<|aG<|.int 2) gu) w=Z ((((bw f).drop 2).map V,X),w):=by
     unfold bY;rw[df (xd (df g) rfl rfl rfl h)];rfl
    refine ho (x:=((bw f).drop 2).map V) (n:=X) l (iw V (λo=>decide (o∈Y)) (λo=>bG (f,o)) _ [] (λo W=>?_) (by rw[l6,pP,fy];omega)) rfl;refine⟨[Z (.im<|V o),Z<|j1 Y,Z<|.im<|V f],[Z (.im<|V o),Z<|j1 Y,Z<|.im<|V f],rfl,eo<|fc<|s9 Y o,λ_=>rfl,λ_=>⟨[Z (.im<|V o),Z<|j1 Y,Z<|.im<|V f],jF (cf rfl<|cf rfl rfl) rfl (fg rfl) rfl,rfl⟩⟩
   rw[e,rE];unfold cb;rw[es];rfl
  refine⟨b,?_⟩;rw[bH];refine iR (VQ:=w) (Wi:=[Z (aK Y),Z<|j1 Y,Z<|cb<|a++((cV Y f).filter<|cW f).map λo=>(f,o),Z<|.im<|V f]) rfl ?_ ?_
  ·unfold wH;exact jk (kW rfl rfl (dm (df cT) rfl) rfl rfl (wd (by rw[br];omega)) rfl)
  ·rw[d,tO,bV]
def HZ(ae:Y.Nodup):gz (aQ Y)=aQ Y:=yo (by
 unfold aQ;rw[es];exact zY (λb W i W a=>h7 a) ae)
def Ig(ae:Y.Nodup)(a:Y.length<=36):mC [aK Y]=Z (kj<|cA Y,[aK Y]):=by
 have b:cE 1 [] (bY<|aj 0) (a6 0) ei G.G1 [Z (aK Y),X,X,X]=Z (.lst<|Y.map λf=>.tup [V f,.aJ ab],[Z (aK Y),X,X,X]):=
  ho (x:=Y.map V) (n:=X) (VQ:=[Z (aK Y),X,X,X]) rfl (lb V (λf=>.tup [V f,.aJ ab]) _ (λf W=>⟨[Z (.im<|V f)],_,[Z (.im<|V f)],rfl,rfl,rfl,rfl⟩) (by omega)) rfl;have c:((aQ Y).all λq=>aa.keys 7 q.1)=ab/\(aQ Y).length<=1000:=⟨AA Y,by unfold aQ;rw[br];omega⟩;have d:ic [.lst (Y.map λf=>.tup [V f,.aJ ab])]=Z (j1 Y):=by
  show (ia<|Y.map λf=>.tup [V f,.aJ ab]).bind _=_;rw[z4];show (if ((aQ Y).all λq=>aa.keys 7 q.1)=ab/\(aQ Y).length<=1000 then Z (ak.aB<|gz<|aQ Y) else X)=_;rw[aH c,HZ ae]
 let⟨e,cv⟩:=EW (Y:=Y) Y [] X (by rw[fy];omega);have g:(cA Y).length<=63:=zK (λf=>(rE Y f).symm) ae a;unfold mC CE;refine eO (w:=[Z (aK Y),Z<|j1 Y,Z<|cb<|cA Y,e]) rfl ?_ rfl;exact bP (VQ:=[Z (aK Y),Z<|j1 Y,X,X]) (ik (eS (cf (bL b) rfl) rfl d) (dX rfl) rfl) (bP (VQ:=[Z (aK Y),Z<|j1 Y,Z<|cb [],X]) (gg (kS rfl rfl (fg rfl) rfl) (dX rfl) rfl) (bP (gZ (n:=X) (x:=Y.map V) rfl cv rfl) (gf (k8 (dm rfl rfl) rfl (IQ (jU ae) (by omega))))))
def bx(Y:List aq)(z:aq->Int):List (List aa×aa):=(Y.map λf=>(bJ f,.int<|z f))
theorem sh{z:aq->Int}:∀{Y:List aq}{f:aq},f∈Y->cq (bx Y z) (bJ f)=Z (.int<|z f)
 |h::Y,f,c=>by
  unfold cq bx;rw[bH,gH];by_cases a:h=f
  ·subst a;rw[show decide ((bJ h,aa.int<|z h).1=bJ h)=ab from bW rfl];rfl
  ·rw[show decide ((bJ h,aa.int<|z h).1=bJ f)=az from decide_eq_false λk=>a<|h7 k];exact sh ((bR.mp c).resolve_left λk=>a k.symm)
def e9(z:aq->Int)(f:aq)(r:Int):aq->Int:=(λb=>if b=f then r else z b)
def OG(c:f∈Y)(r:Int):dH (bx Y z) (bJ f) (.int r)=bx Y (e9 z f r):=by
 unfold dH;have av:((bx Y z).any λq=>decide (q.1=bJ f))=ab:=by
  rw[mR];exact⟨(bJ f,.int<|z f),cL.mpr ⟨f,c,rfl⟩,bW rfl⟩
 rw[aH av];unfold bx;rw[es];refine gr λb W=>?_;show (if (bJ b,aa.int<|z b).1=bJ f then (bJ b,aa.int r) else (bJ b,aa.int<|z b))=(bJ b,aa.int<|e9 z f r b);unfold e9;by_cases a:b=f
 ·rw[aH (by rw[a]),aH a]
 ·rw[if_neg λk=>a<|h7 k,if_neg a]
def GH{w:aU}{j A:Nat}(a:f∈Y)(c:Y.length<100000)(d:w[j]?=Z (Z<|.aB<|bx Y z))(e:w[A]?=Z (Z<|.im<|V f)):p8 j A (λj A=>j+A) 1 w=Z (.a8,w.set j<|Z<|.aB<|bx Y<|e9 z f<|z f+1):=by
 unfold p8;rw[d,e];show (if aa.keys 7 (bJ f)=ab/\(bx Y z).length<100000 then (match cq (bx Y z) (bJ f) with
   |some (.int b)=>Z (ly.a8,w.set j<|Z<|.aB<|dH (bx Y z) (bJ f)<|.int<|b+1)
   |_=>X) else X)=_;rw[aH ⟨l5 f,by unfold bx;rw[br];exact c⟩,sh a];show Z (ly.a8,w.set j<|Z<|.aB<|dH (bx Y z) (bJ f)<|.int<|z f+1)=_;rw[OG a]
theorem HT{F Wd Wu:Option ak}{Y:List aq}(d:Y.length<100000):∀(S:List bk) (z:aq->Int) (Wn Wt:Option ak),(∀a∈S,a.1∈Y/\a.2∈Y)->
  ∃N e f,dp (i3 2<|eP (a6 4)<|eP (a6 5) h_) zR (S.map bG) [F,Wd,Wu,Z<|.aB<|bx Y z,Wn,Wt]=Z (.a8,[F,Wd,Wu,Z<|.aB<|bx Y N,e,f])/\∀b,N b=z b+(cS S b:Nat)
 |[],z,Wn,Wt,_=>⟨z,Wn,Wt,rfl,λb=>(Int.add_zero _).symm⟩
 |a::S,z,Wn,Wt,c=>by
  have g:=c a (.head _);let⟨N,e,f,h,i⟩:=HT (F:=F) (Wd:=Wd) (Wu:=Wu) d S (e9 (e9 z a.1<|z a.1+1) a.2<|e9 z a.1 (z a.1+1) a.2+1) (Z<|.im<|V a.1) (Z<|.im<|V a.2) λo hd=>c o (.tail _ hd);have k:=GH (w:=[F,Wd,Wu,Z<|.aB<|bx Y z,Z<|.im<|V a.1,Z<|.im<|V a.2]) (j:=3) (A:=4) g.1 d rfl rfl;have m:=GH (w:=[F,Wd,Wu,Z<|.aB<|bx Y<|e9 z a.1<|z a.1+1,Z<|.im<|V a.1,Z<|.im<|V a.2]) (j:=3) (A:=5) g.2 d rfl rfl;refine⟨N,e,f,?_,λb=>?_⟩
  ·rw[bH];refine iR (VQ:=[F,Wd,Wu,Z<|.aB<|bx Y z,Z<|.im<|V a.1,Z<|.im<|V a.2]) (Wi:=[F,Wd,Wu,Z<|.aB<|bx Y<|e9 (e9 z a.1<|z a.1+1) a.2<|e9 z a.1 (z a.1+1) a.2+1,Z<|.im<|V a.1,Z<|.im<|V a.2]) rfl ?_ h;unfold zR;exact bP k m
  ·rw[i b];have Wz:(cS (a::S) b:Nat)=((if a.1=b then 1 else 0)+if a.2=b then 1 else 0)+cS S b:=by unfold cS;rw[bH,g0]
   rw[Wz];unfold e9;by_cases l:a.1=b<;>by_cases t:a.2=b
   ·subst l;rw[t];simp;omega
   ·subst l;simp[t,dY t];omega
   ·subst t;simp[l,dY l];omega
   ·simp[l,t,dY l,dY t]
theorem z6{V2 S:List bk}(c:V2.Perm S)(b:aq):cS V2 b=cS S b:=(c.map _).sum_nat
def Fc(c:b.length+i.length<=100000):dd (gT b) (gT i)=Z (gT<|b++i):=by
 show (if (b.map bG).length+(i.map bG).length<=100000 then Z (ak.im<|.tup<|b.map bG++i.map bG) else X)=_;rw[aH (by rw[br,br];exact c),<-iM];rfl
def R5{P:List aq}(ae:P.Nodup)(c:∀a∈Q,a.1∈P/\a.2∈P):jS P (iB Q)=2*Q.length:=by
 rw[<-Bi ae c];unfold jS;congr 1;exact gr λf Y=>we Q f
def Uv{V7:Type}[DecidableEq V7]{a:V7}{J:List V7}(c:a∈J):1<=b5 a J:=by rw[<-jO];exact mQ.mpr c
theorem A4:∀S:List bk,aa.cx 8 (S.map bG)=ab
 |[]=>rfl
 |C::S=>by rw[bH,aa.cx,A4 S];rfl
theorem Ei:∀S:List bk,eD (S.map bG) (S.map bG)=ab
 |[]=>rfl
 |a::S=>by
  rw[bH,eD,Ei S];show ((b8 (V a.1) (V a.1)&&(b8 (V a.2) (V a.2)&&ab))&&ab)=ab;rw[nz,nz,bW rfl,bW rfl];rfl
def Nf(Q:List bk):eZ (kj Q) (kj Q)=Z (.im<|.aJ az):=by
 let⟨S,Y,a⟩:=wb Q;rw[a];show (if (aa.cx 8 (S.map bG)&&aa.cx 8 (S.map bG))=ab then Z (ak.im<|.aJ<|!eD (S.map bG) (S.map bG)) else X)=_;rw[A4,aH<|show (ab&&ab)=ab from rfl,Ei];rfl
end G
namespace L2
open Spec PyProof.Rows
theorem GU(z:Nat->Int):∀v,fS (λj A=>decide (z j<z A)) v<=v/\∀A,A<=v->z (fS (λj A=>decide (z j<z A)) v)<=z A
 |0=>⟨bB _,λA a=>by rw[E4.mp a];exact g_ _⟩
 |v+1=>by
  let⟨l,t⟩:=GU z v;unfold fS;by_cases ag:z (v+1)<z (fS (λj A=>decide (z j<z A)) v)
  ·rw[aH ⇑ag];refine⟨bB _,λA a=>?_⟩;rcases mg A (v+1) with c|c
   ·have:=t A ⋯;lia
   ·rw[show A=v+1 by lia];exact g_ _
  ·rw[if_neg ⇑ag];refine⟨⋯,λA a=>?_⟩;rcases mg A (v+1) with c|c
   ·exact t A ⋯
   ·rw[show A=v+1 by lia];lia
section
variable{e:aM}
def Md(i:e.calm=ab):ez e (.builtin "min") (λx g D=>∃J V4,x=[.ref J]/\g J=Z (.lst<|List.map af.int V4)/\V4≠[]/\∀aD,aD∈V4->(∀h∈V4,aD<=h)->D (.int aD) g):=by
 intro G m y g x Wc D B p c;let⟨J,V4,rfl,l,n,u⟩:=c;let⟨I,rfl,o⟩:=h3 p;cases o;let⟨k,VZ,v,b,a⟩:=B.aV J _ l;have f:m.heap.IsList J VZ.toArray:=⟨_,a,rfl,v,rfl⟩;have C:VZ.length=V4.length:=by rw[<-b.length,br]
 have E:0<V4.length:=kU.mpr n;refine call_min_walk (pH f ⟨m.heap.objs.size,[m.heap.objs.size,J],[m.heap.objs.size],VZ.toArray.size,_,_,_,rfl,ka.list (A:=e.A.in1) (B.ok.hd i) _ J (dE<|b9 a) VZ.toArray,
  ⟨⟨_,dx _ rfl,rfl,rfl⟩,f.push _⟩,?_,by rw[cK];omega,CmpOf.ints_lt (λj=>(V4[j]?).getD 0) (λj r q=>B8 b j r ⇑q),λr ar Wy s t=>?_⟩)
 ·intro d ag;show d<(m.heap.push _).objs.size;rw[jj];rcases bR.mp ag with rfl|ag
  ·exact rW _
  ·rw[cR.mp ag];exact Nat.lt_succ_of_lt (b9 a)
 ·let⟨H,rfl⟩:=B8 b _ r ⇑s;let⟨dJ,dr⟩:=GU (λj=>(V4[j]?).getD 0) (VZ.toArray.size-1);rw[cK]at dJ dr;refine⟨.int _,g,B.kept<|Ck t,⟨H,rfl⟩,u _ ?_ λh av=>?_⟩
  ·have ag:fS (λj A=>decide ((V4[j]?).getD 0<(V4[A]?).getD 0)) (VZ.length-1)<V4.length:=by omega
   have w:(V4[fS (λj A=>decide ((V4[j]?).getD 0<(V4[A]?).getD 0)) (VZ.length-1)]?).getD 0=V4[fS (λj A=>decide ((V4[j]?).getD 0<(V4[A]?).getD 0)) (VZ.length-1)]:=by rw[fj ag];rfl
   exact w ▸ rM _
  ·let⟨A,z,rfl⟩:=xg.mp av;have:=dr A (by omega);rw[fj z]at this;exact this
def J1:List Int->Option Int
 |[]=>X
 |b::p=>Z (p.foldl min b)
theorem FK:∀(p:List Int) (b:Int),p.foldl min b<=b/\(∀h∈p,p.foldl min b<=h)/\(p.foldl min b=b\/p.foldl min b∈p)
 |[],b=>⟨g_ _,(λh c=>nomatch c),.inl rfl⟩
 |i::p,b=>by
  let⟨l,t,a⟩:=FK p (min b i);rw[kH];refine⟨⋯,λh av=>?_,?_⟩
  ·rcases bR.mp av with rfl|av
   ·lia
   ·exact t h av
  ·rcases a with a|a
   ·rw[a];by_cases c:i<=b
    ·rw[show min b i=i by lia];exact .inr (.head _)
    ·rw[show min b i=b by lia];exact .inl rfl
   ·exact .inr (.tail _ a)
def N6{V4:List Int}{M:Int}(c:J1 V4=Z M):V4≠[]/\M∈V4/\∀h∈V4,M<=h:=by
 cases V4 with
 |nil=>cases c
 |cons b p=>
  cases c;let⟨l,t,a⟩:=FK p b;refine⟨by simp,?_,λh av=>?_⟩
  ·rcases a with a|a
   ·rw[a];exact .head _
   ·exact .tail _ a
  ·rcases bR.mp av with rfl|av
   ·exact l
   ·exact t h av
@[simp] def q5:hR:=λE=>match E with
 |[.lst b]=>(kR b).bind λV4=>(J1 V4).map λM=>.im (.int M)
 |_=>X
def TS(c:e.calm=ab)(w:e.A.units+20<bN):hc e (.builtin "min") q5:=by
 refine (Md c).imp λx g D ⟨E,o,d,a,u⟩=>?_;unfold q5 at a;split at a
 ·rename_i b;let⟨V4,f,h⟩:=bq.mp a;let⟨M,k,m⟩:=ck.mp h;cases m;let⟨r,rfl,Y,q,x,rfl,l,t,Y⟩:=fF d;cases wR f;cases Aq t;let⟨Xd,n,p⟩:=N6 k;refine⟨q,V4,rfl,l,Xd,λaD s v=>?_⟩;have:=p aD s;have:=v M n;rw[show aD=M by lia];exact cc.i u rfl
 ·cases a
end
end L2
namespace L2
open Spec PyProof.Rows PySem.W
section
variable{VX:bu}{C:bf}{O:bz}{VO:pI->aw->Prop}{B:au}{b_ i:List au}{v:Nat}{V0:Nat->ah->Prop}{a3:Nat->a4->Prop}
def j3(N c:a4):Prop:=(∀f n,N.get? f=Z n->c.get? f=Z n)
def S9(W:ka VX C O.in1 B b_ i v V0 a3){N:a4}(e:Nat->Nat->Bool)(M:∀j A I r (m:aw) (D:ah->aw->Prop) (VP:ah->aw->Prop),j3 N m.heap->V0 j I->V0 A r->D (.bool<|e j A) m->wpAny (aT VX C) O.in1 (k1 .Lt I r) D VP m){V2:au}(t:V2∉b_)(u:∀f n,N.get? f=Z n->f∉i/\f≠V2):∀(s A:Nat) (m:aw) (b:ah) (f:Nat),v-(A+1)=s->A+1<=v->a3 (A+1) m.heap->V0 (fS e A) b->
  m.heap.get? V2=Z {cls:=.type "list",dict:=X,data:=.seq #[b,b] f,slots:=#[]}->j3 N m.heap->(∀r ar Wy,V0 (fS e<|v-1) r->j3 N ar->VO (.ok<|.ret r) {m with heap:=ar,toks:=Wy})->
  codeAny (aT VX C) O (.builtin "min.loop" ⟨[.ref B,.none,.ref V2],[]⟩) VO m:=by
 have w:V2∉i:=λc=>t (W.sub _ c);have x:(toString "min" ++ toString ".loop" : String) = "min.loop" := by decide
 have y:∀{c:a4}{z:ba->ba},j3 N c->j3 N (c.update V2 z):=λs f n a=>(iC _ _<|dY (u f n a).2).trans (s f n a);have E:∀{c ar:a4},j3 N c->(∀d n,d∉i->c.get? d=Z n->ar.get? d=Z n)->j3 N ar:=λs H f n a=>H f n (u f n a).1 (s f n a);intro s;induction s with
 |zero=>
  intro A m b f P Q o k g dk l;have F:A+1=v:=⋯
  refine iL sP ?_;rw[iO mu _];show wpAny _ O.in1 (mx (.ref V2) >>= _) _ _ m;refine aC (hH g rfl ?_);show wpAny _ O.in1 (tryCatch (gP<|.ref B) _ >>= _) _ _ m;refine aC (l7<|W.done m _ _ (F ▸ o) λar Wy H=>?_);have h:=H V2 _ w g;show wpAny _ O.in1 (uP V2 (λ_=>#[]) >>= _) _ _ _;refine aC (nO h rfl<|aC<|jH<|a5 ?_);exact l b _ Wy (by rw[<-F];exact k) (y<|E dk H)
 |succ s G=>
  intro A m b f P Q o k g dk l;have p:A+1<v:=⋯
  refine iL sP ?_;rw[iO mu _];show wpAny _ O.in1 (mx (.ref V2) >>= _) _ _ m;refine aC (hH g rfl ?_);show wpAny _ O.in1 (tryCatch (gP<|.ref B) _ >>= _) _ _ m;refine aC (l7<|W.item (A+1) m _ _ p o λr ar Wy J L H=>?_);have h:=H V2 _ w g;have q:=E dk H;show wpAny _ O.in1 (tryCatch (holding [r,r]<|k1 .Lt r b >>= _) _ >>= _) _ _ _;refine aC (l7<|fI<|aC<|M (A+1) (fS e A) r b _ _ _ q J k ?_);refine aC (fI<|lY<|aC<|jH<|a5 ?_);cases ag:e (A+1) (fS e A) with
  |true=>
   simp only[gB];refine aC (nO h rfl<|aC<|jH ?_);rw[x];refine a5 ⟨hK mu _,G (A+1) _ r _ ⋯ p (W.frame _ _ _ L λd R n a=>(iC _ _ (λc:V2=d=>t (by rw[c];exact R))).trans a) (by simp only[fS,ag,gB];exact J) (oA _ h rfl) (y q) l⟩
  |false=>
   simp only[jT,fO];refine aC (jH ?_);rw[x];exact a5 ⟨hK mu _,G (A+1) _ b f ⋯ p L (by simp only[fS,ag,jT,fO];exact k) h q l⟩
def Tb(W:ka VX C O.in1 B b_ i v V0 a3){N:a4}(b:Nat->Nat->Bool)(o:∀j A I r (m:aw) (D:ah->aw->Prop) (VP:ah->aw->Prop),j3 N m.heap->V0 j I->V0 A r->D (.bool<|b j A) m->wpAny (aT VX C) O.in1 (k1 .Lt I r) D VP m){V2:au}(e:V2∉b_)(g:∀f n,N.get? f=Z n->f∉i/\f≠V2)(h:0<v){m:aw}{f:Nat}(p:a3 0 m.heap)(k:m.heap.get? V2=Z {cls:=.type "list",dict:=X,data:=.seq #[] f,slots:=#[]})(dk:j3 N m.heap)(q:∀r ar Wy,V0 (fS b<|v-1) r->j3 N ar->VO (.ok<|.ret r) {m with heap:=ar,toks:=Wy}):codeAny (aT VX C) O (.builtin "min.loop" ⟨[.ref B,.none,.ref V2],[]⟩) VO m:=by
 have s:V2∉i:=λc=>e (W.sub _ c);have t:(toString "min" ++ toString ".loop" : String) = "min.loop" := by decide
 refine iL sP ?_;rw[iO mu _];show wpAny _ O.in1 (mx (.ref V2) >>= _) _ _ m;refine aC (hH k rfl ?_);show wpAny _ O.in1 (tryCatch (gP<|.ref B) _ >>= _) _ _ m;refine aC (l7<|W.item 0 m _ _ h p λr ar Wy u w H=>?_);have l:=H V2 _ s k;have x:j3 N ar:=λf n a=>H f n (g f n a).1 (dk f n a);show wpAny _ O.in1 (uP V2 (λ_=>#[r,r]) >>= _) _ _ _;refine aC (nO l rfl ?_);rw[t];exact a5 ⟨hK mu _,S9 W b o e g _ 0 _ r _ rfl h (W.frame _ _ _ w λd y n a=>(iC _ _ (λc:V2=d=>e (by rw[c];exact y))).trans a) u (oA _ l rfl) (λf n a=>(iC _ _<|dY (g f n a).2).trans<|x f n a) q⟩
end
theorem I0{E:List aa}(n:rY E):∀s,s<E.length->fS (λj A=>a9 (E.getD j .aP)<|E.getD A .aP) s<=s/\∀A,A<=s->E.getD A .aP=E.getD (fS (λj A=>a9 (E.getD j .aP)<|E.getD A .aP) s) .aP\/a9 (E.getD (fS (λj A=>a9 (E.getD j .aP)<|E.getD A .aP) s) .aP) (E.getD A .aP)=ab
 |0,c=>⟨bB _,λA e=>.inl (by rw[E4.mp e];rfl)⟩
 |s+1,c=>by
  let⟨l,t⟩:=I0 n s ⋯;rw[fS];have g:=mY c;have b:E.getD (fS (λj A=>a9 (E.getD j .aP)<|E.getD A .aP) s) .aP∈E:=mY ⋯;generalize ag:fS (λj A=>a9 (E.getD j .aP)<|E.getD A .aP) s=d at l t b ⊢;by_cases f:a9 (E.getD (s+1) .aP) (E.getD d .aP)=ab
  ·rw[aH f];refine⟨bB _,λA e=>?_⟩;rcases mg A (s+1) with u|u
   ·right;rcases t A ⋯ with a|a
    ·rw[a];exact f
    ·exact pK (n.2 _ g _ b) (n.2 _ b _ (mY ⋯)) f a
   ·rw[show A=s+1 by lia];exact .inl rfl
  ·rw[if_neg f];refine⟨⋯,λA e=>?_⟩;rcases mg A (s+1) with u|u
   ·exact t A ⋯
   ·rw[show A=s+1 by lia];by_cases a:E.getD (s+1) .aP=E.getD d .aP
    ·exact .inl a
    ·right;have:=p0 (n.2 _ g _ b) a;rw[Bool.not_eq_true]at f;rw[f]at this;cases k:a9 (E.getD d .aP) (E.getD (s+1) .aP) with
     |true=>rfl
     |false=>rw[k]at this;cases this
section
variable{e:aM}
def TV(U:e.calm=ab)(co:e.A.units+20<bN):ez e (.builtin "min") (λx g D=>∃(h:au) (E:List aa) (V5:List af),x=[.ref h]/\g h=Z (.lst V5)/\bC g E V5/\rY E/\E≠[]/\
  ∀o i,o∈E->(∀a∈E,a=o\/a9 o a=ab)->cp g o i->D i g):=by
 intro G m y g x Wc D B p c;let⟨J,E,V5,rfl,al,hd,n,am,u⟩:=c;let⟨I,rfl,an⟩:=h3 p;cases an;let⟨k,VZ,v,l,a⟩:=B.aV J _ al;have H:m.heap.IsList J VZ.toArray:=⟨_,a,rfl,v,rfl⟩;have ap:=hd.length;have as:=l.length;have cr:0<E.length:=kU.mpr am;have a1:=hd.eA B.aV l;refine Dv Je Bw I7 (F.args_min1 _) ?_;show wpAny _ e.A.in1 (bo.Builtins.bindParams "min" ["key","default"] 0 ⟨[],[]⟩ >>= _) _ _ m;refine aC (rZ (show bo.Builtins.bindParams "min" ["key","default"] 0 ⟨[],[]⟩=pure [X,X] from rfl) ?_);refine aC (a5 ?_);refine aC (pH H ?_);have W:=ka.list (prog:=e.prog) (w:=e.w) (A:=e.A.in1) (B.ok.hd U) m.heap.objs.size J (dE<|b9 a) VZ.toArray;have a2:(toString "min" ++ toString ".loop" : String) = "min.loop" := by decide
 refine aC (hE ?_);rw[a2];have bd:∀f n,m.heap.get? f=Z n->f<m.heap.objs.size:=λf n a=>b9 a;refine a5 ⟨hK mu _,Tb W (N:=m.heap) (λj A=>a9 (E.getD j .aP)<|E.getD A .aP) ?b ?be ?bi ?v ?R (dx _ rfl) ?dk ?VO⟩
 case b=>
  intro j A I r VY bm bn dk VW q M;have P:=a1.qa dk;let⟨h,Q,bs⟩:=P.get (show VZ[j]?=Z I by simpa using VW);let⟨d,dJ,dr⟩:=P.get (show VZ[A]?=Z r by simpa using q);have bv:E.getD j .aP=h:=by rw[de,Q];rfl
  have ca:E.getD A .aP=d:=by rw[de,dJ];rfl
  rw[bv,ca]at M;exact tl 6 (n.2 h (lg Q) d<|lg dJ) (by show e.A.units+1+6+2<bN;lia) bs dr e.prog e.w bn bm M
 case be=>
  intro s;simp only[jj,bR,lE,jL]at s;have:=b9 a;lia
 case bi=>
  intro f S t;have:=bd f S t;rw[jj];exact⟨λs=>by rw[cR.mp s]at this;exact iF _ this,⋯⟩
 case v=>rw[cK];lia
 case R=>exact⟨a4.IsListIter.at (h:=m.heap.push _) ⟨_,dx _ rfl,rfl,rfl⟩ λn a=>cu _ a,(H.push _).push _⟩
 case dk=>exact λf S t=>cu _ (cu _ t)
 case VO=>
  intro r ar Wy z dk;let⟨dJ,dr⟩:=I0 n (E.length-1) ⋯;rw[cK,<-as,<-ap]at z;generalize fS (λj A=>a9 (E.getD j .aP)<|E.getD A .aP) (E.length-1)=d at z dJ dr;have ag:d<E.length:=⋯
  let⟨i,cd,ce⟩:=hd.get (show E[d]?=Z (E.getD d .aP) by rw[de,fj ag];rfl);let⟨ch,T,ci⟩:=l.get cd;have jg:ch=r:=by
   have:VZ[d]?=Z r:=by simpa using z
   rw[this]at T;exact (Option.some.inj T).symm
  subst jg;refine⟨i,g,B.kept (Wr:=Wy) dk,ci,u _ i (mY ag) (λa cl=>?_) ce⟩;let⟨A,q,rfl⟩:=xg.mp cl;have:=dr A ⋯;rw[show E.getD A .aP=E[A] by rw[de,fj q];rfl]at this;exact this
@[simp] def vi:hR:=λE=>match E with
 |[.lst b]=>if pb b=ab then (gO a9 b).head?.map .im else X
 |_=>X
def Rd(n:e.calm=ab)(q:e.A.units+20<bN):hc e (.builtin "min") vi:=by
 refine (TV n q).imp λx g D ⟨E,o,s,a,u⟩=>?_;unfold vi at a;split at a
 ·rename_i b;split at a
  ·rename_i ag;have d:=pf.mp ag;let⟨M,f,v⟩:=ck.mp a;subst v;let⟨r,rfl,c⟩:=fF s;let⟨VO,h,V5,rfl,l,t,Y⟩:=c;have Ws:=i1 b;have lt:=AL d.1.3 d.1.2;cases m:gO a9 b with
   |nil=>rw[m]at f;cases f
   |cons F p=>
    rw[m]at f lt Ws;cases f;rw[h1]at lt;have w:∀a∈b,a=M\/a9 M a=ab:=λa y=>by
     rcases bR.mp (Ws.mem_iff.mpr y) with k|k
     ·exact .inl k
     ·exact .inr (lt.1 a k)
    refine⟨h,b,V5,rfl,l,t,d.1,λk=>by rw[k]at Ws;simpa using Ws.length_eq,λo i hd z B=>?_⟩;have:o=M:=by
     rcases w o hd with k|k
     ·exact k
     ·rcases z M (Ws.mem_iff.mp<|.head _) with C|C
      ·exact C.symm
      ·have H:=pK (d.1.2 _ hd _<|Ws.mem_iff.mp<|.head _) (d.1.2 _ (Ws.mem_iff.mp<|.head _) _ hd) C k;rw[uH]at H;cases H
    subst this;exact cc.i u B
  ·cases a
 ·cases a
end
end L2
namespace L2
open Spec PyProof.Rows
variable{N:aD ak}{a:a7}{VO:List au}{r:af}{o:ak}{g:aA}
def lX(M:List ((Int×Int)×Int)):List (List aa×aa):=(M.map λq=>([aa.int q.1.1,aa.int q.1.2],aa.int q.2))
def n1:List (List aa×aa)->Option (List<|(Int×Int)×Int)
 |[]=>Z []
 | ([.int h,.int d],.int v)::p=>(n1 p).map λM=>((h,d),v)::M
 |_=>X
theorem BU:∀M,n1 (lX M)=Z M
 |[]=>rfl
 |q::M=>by
  show (n1<|lX M).map _=_;rw[BU M];rfl
theorem J0:∀{VR:List (List aa×aa)}{M},n1 VR=Z M->VR=lX M
 |[],M,c=>by cases c;rfl
 |b::p,M,c=>by
  unfold n1 at c;split at c
  ·cases ‹_::_=[]›
  ·rename_i h d v WK a;cases a;let⟨e,l,t⟩:=ck.mp c;subst t;rw[J0 l];rfl
  ·cases c
theorem Bn{g:aA}:∀{M:List ((Int×Int)×Int)}{WB:List (List aa×af)},d9 g (lX M) WB->WB=M.map λq=>([aa.int q.1.1,aa.int q.1.2],af.int q.2)
 |[],_,.nil=>rfl
 |q::M,_,.cons p H=>by
  rename_i i V5;let⟨s,r⟩:=i;have l:s=[aa.int q.1.1,aa.int q.1.2]:=p.1.symm;have t:r=af.int q.2:=p.2;rw[bH,<-Bn H,l,t]
theorem Cj{g:aA}:∀M:List ((Int×Int)×Int),d9 g (lX M) (M.map λq=>([aa.int q.1.1,aa.int q.1.2],af.int q.2))
 |[]=>.nil
 |q::M=>.cons ⟨rfl,rfl⟩ (Cj M)
def wG:ak->ak
 |.di VR=>match n1 VR with
  |some M=>.im (.fd M)
  |none=>.di VR
 |o=>o
def xO:ak->ak
 |.im (.fd M)=>.di (lX M)
 |o=>o
def LG(c:b7 g o r VO):b7 g (wG o) r VO:=by
 unfold wG;split
 ·rename_i VR;split
  ·rename_i M a;let⟨h,WB,n,rfl,l,t,rfl⟩:=c;rw[J0 a]at t;exact⟨⟨h,n,WB,rfl,l,Bn t⟩,rfl⟩
  ·exact c
 ·exact c
def UZ(c:b7 g o r VO):b7 g (xO o) r VO:=by
 unfold xO;split
 ·rename_i M;let⟨⟨h,n,WB,rfl,l,t⟩,rfl⟩:=c;rw[t]at l;exact⟨h,_,n,rfl,l,Cj M,rfl⟩
 ·exact c
def sy(z:ak->ak)(N:aD ak):aD ak:=(λw=>(N w).map λq=>(z q.1,q.2))
abbrev tb(N:aD ak):aD ak:=sy wG (qz N)
abbrev mN(N:aD ak):aD ak:=sy xO N
section
variable{e:aM}
def Gk{z:ak->ak}(b:∀{g:aA}{o:ak}{r:af}{VO:List au},b7 g o r VO->b7 g (z o) r VO)(c:b2 e a N):b2 e a (sy z N):=by
 refine d_ (@c) λy g D i=>?_;let⟨w,L,p,Wb,R,ae,j,u⟩:=i;let⟨⟨k,VQ⟩,l,t⟩:=ck.mp j;cases t;exact⟨w,L,k,VQ,R,ae,l,λr VT V9 VO h d f=>u r VT V9 VO h (b d) f⟩
def AY(c:b2 e a N):b2 e a (tb N):=Gk LG (JL c)
def xh(c:b2 e a N):b2 e a (mN N):=Gk UZ c
@[simp] def th(j:Nat)(a:aD ak):aD ak:=λw=>match w[j]? with
 |some (Z<|.di _)=>(a w).bind λq=>match q.2[j]?,q.1 with
   |some (Z<|.di VR),.im (.tup s)=>if aa.keys 7 s=ab then Z (.im<|(cq VR s).getD .aP,q.2) else X
   |_,_=>X
 |_=>X
def K6{j:Nat}{n s:a7}{c:aD ak}{W0 WM:cw}(o:e.A.units+20<bN)(q:bj e n (gY j))(r:b2 e s c)(M:Hz e n "get" W0 s WM:=by exact⟨rfl,rfl,rfl,rfl⟩):
  b2 e (.Call (.Attribute n "get" W0) [s] [] WM) (th j c):=by
 refine d_ (Ke o q r M) λy g D t=>?_;let⟨w,L,p,Wb,R,ae,b,u⟩:=t;unfold th at b;split at b
 ·rename_i N v;let⟨P,Q,S,f,z,Y,Y⟩:=R.out v;let⟨h,T,F,rfl,WL,Y,Y⟩:=z;let⟨⟨Wz,VQ⟩,l,a⟩:=bq.mp b;refine⟨_,f,h,rfl,.inr ⟨_,.inr ⟨_,WL⟩⟩,w,L,Wz,VQ,R,ae,l,λi VT V9 U k Wd B=>?_⟩;dsimp only at a;split at a
  ·rename_i VR al C;split at a
   ·rename_i E;cases a;let⟨cO,rfl⟩:=Wd;let⟨am,VO,an,m,G,ap,as⟩:=k.out C;rw[f]at m;cases m;let⟨a1,WB,WN,H,I,J,Y⟩:=G;cases H;let⟨d,x,rfl,Wo,Wq⟩:=cO;exact⟨_,.inr ⟨WB,_,d,.inr ⟨_,I⟩,rfl,⟨E,d,x,rfl,Wo,Wq⟩,rfl⟩,u _ VT V9 [] k ⟨zX J (rfl:cp VT .aP .aP),rfl⟩ B⟩
   ·cases a
  ·cases a
 ·cases b
end
end L2
namespace G
open L2
variable{A j:Nat}{VV:List bk}{R:List (List aa×aa)}{y p S V4 Y T:List aq}{d h m b f:aq}{VQ w:aU}{N:aD ak}{We:aq->List ((Int×Int)×Int)}{o:aq->aq->Nat}{z:aq->Int}
def r6:bl:=((ep (g6 (bO<|ac h4 (aj 6)<|aj 0)<|bO<|ac hx (aj 6)<|aj 2) (bc (gs (ac dd (ai<|ac bg (aj 2)<|aj 5)<|ai<|aG<|.int 1)<|hF 2 (c8 6) hM)<|gN<|fH f9 4 fm<|ao (aj 6) ay) fY))
def zh:bl:=((eE (bY<|ai<|aZ 1 G.kc<|ao (aj 5) ay) (a6 6) G.r6))
def Gp:aD Bool:=((kK<|aj 3))
def xc:bl:=((bc (bI 4<|e0 ay)<|bc (eE (bY<|aj 3) (a6 5) G.zh)<|bI 3<|c8 4))
def GC:bl:=((bc (bI 2<|uQ (c8 1)<|aG<|.int 0)<|bc (bI 3<|e0<|ao (aj 1) ay)<|bc (je G.Gp G.xc 1000000)<|c1<|c8 2))
def mA:cG:=(dc 2 7 [0,1] GC)
def xY:bl:=((gs (tb<|aZ 2 G.mA<|ao (aj 0)<|ao (aj 3) ay)<|hF 2 (c8 3) hM))
def BO:bl:=((bc (bI 2 mW)<|bc (eE (bY<|aj 1) (a6 3) G.xY)<|c1<|c8 2))
def r1:cG:=(dc 2 4 [0,1] BO)
def Gf:aD ak:=((c8 0))
def z2:aD Bool:=((g6 (bO<|ac eZ (aj 0)<|aj 1)<|bO<|ac eZ (aj 0)<|aj 2))
def IY:bl:=((c1<|bF jR<|ao (ai<|cE 1 [1,2] (bY<|aj 0) (a6 0) G.z2 G.Gf) ay))
def oW:cG:=(dc 3 3 [0,1,2] IY)
def Bx(a:cG):bl:=((bc (bI 4<|aZ 3 a<|ao (aj 0)<|ao (ai<|aZ 3 G.oW<|ao (aj 1)<|ao (ai<|ac bg (aj 1)<|ai<|aG<|.int 0)<|ao (aj 2) ay)<|ao (aj 3) ay)<|c1<|cY<|ao (ai<|ac dd (ai<|ac bg (ai<|mN<|ac bg (aj 0)<|ai<|ac bg (aj 1)<|ai<|aG<|.int 0)<|aj 2)<|ai<|ac bg (aj 4)<|ai<|aG<|.int 0)<|ao (ai<|ac dd (ai<|cY<|ao (ai<|cY<|ao (ai<|ac bg (aj 1)<|ai<|aG<|.int 0)<|ao (aj 2) ay) ay)<|ai<|ac bg (aj 4)<|ai<|aG<|.int 1) ay))
def tm(a:cG):cG:=(dc 4 5 [0,1,2,3] (Bx a))
def oq(a:cG):aD ak:=((aZ 4 (G.tm a)<|ao (aj 1)<|ao (aj 2)<|ao (aj 0)<|ao (aj 3) ay))
def ou(a:cG):bl:=((bc (ep (bO<|ac ey (ai<|bF cH<|ao (aj 1) ay)<|ai<|aG<|.int 0) (c1<|cY<|ao (ai<|aG<|.int 0)<|ao (ai<|cY ay) ay) fY)<|bc (ep (bO<|ac hx (aj 1)<|aj 2) (gs (bF vi<|ao (ai<|cE 1 [0,1,2] (bY<|ai<|ff (aj 1) (fv<|aG<|.int 1) gu) (a6 0) ei<|G.oq a) ay)<|hF 2 (c8 1) hM) fY)<|c1<|ac bg (aj 2)<|aj 1))
def iV:Nat->cG
 |0=>λ_=>X
 |s+1=>dc 3 3 [0,1,2] (ou<|iV s)
def DE:bl:=((bc (bI 3<|aZ 3 G.rx<|ao (aj 0)<|ao (aj 1)<|ao (aj 2) ay)<|bc (ep (bO<|ac lK (ai<|bF cH<|ao (aj 3) ay)<|ai<|aG<|.int 14) FD fY)<|c1<|c8 3))
def qh:cG:=(dc 3 4 [0,1,2] DE)
def Fd:aD ak:=((c8 0))
def Bt:aD Bool:=((bO<|ac ey (ai<|th 1<|c8 0)<|ai<|ac mS (ai<|ac bg (aj 1)<|aj 2)<|ai<|aG<|.int 1))
def Am:aD Bool:=((bO<|ac lK (ai<|ac bg (aj 0)<|aj 1)<|ai<|aG<|.int 0))
def w9:bl:=((bc (bI 3<|ac bg (ai<|cE 1 [0,1] (bY<|ai<|aZ 1 G.kc<|ao (aj 1) ay) (a6 0) G.Bt G.Fd)<|ai<|aG<|.int 0)<|bc (gN<|fH f9 2 fm<|ao (ai<|aZ 2 G.uI<|ao (aj 1)<|ao (aj 3) ay) ay)<|bI 1<|c8 3))
def BB:bl:=((bc (bI 2<|e0 ay)<|bc (je G.Am G.w9 1000000)<|c1<|c8 2))
def pl:cG:=(dc 2 4 [0] BB)
def AH:bl:=((gN<|fH f9 5 nN<|ao (ai<|aZ 2 G.pl<|ao (ai<|mN<|ac bg (aj 4)<|aj 6)<|ao (aj 7) ay) ay))
def Hi:bl:=((bc (bI 3<|aZ 3 G.qh<|ao (aj 0)<|ao (aj 1)<|ao (aj 2) ay)<|bc (bI 4<|aZ 2 G.r1<|ao (ai<|aZ 1 G.mw<|ao (aj 0) ay)<|ao (aj 3) ay)<|bc (bI 5<|e0 ay)<|bc (eE (bY<|ai<|ac bg (ai<|aZ 3 (G.iV 8)<|ao (aj 4)<|ao (aj 3)<|ao (ai mW) ay)<|ai<|aG<|.int 1) (i3 2<|eP (a6 6)<|eP (a6 7) h_) G.AH)<|c1<|bF jR<|ao (ai<|bF jQ<|ao (aj 5) ay) ay))
def oK:cG:=(dc 3 8 [0,1,2] Hi)
def J8:bl:=((c1<|aZ 2 G.vg<|ao (ai<|aZ 2 G.q1<|ao (aj 0)<|ao (ai<|ac dd (ai<|aZ 1 G.oF<|ao (aj 0) ay)<|ai<|aZ 3 G.oK<|ao (aj 0)<|ao (aj 1)<|ao (aj 2) ay) ay)<|ao (aj 1) ay))
def oL:cG:=(dc 3 3 [0,1,2] J8)
def ui:bl:=((bc (bI 6<|ac bg (aj 1)<|ai<|ac eJ (aj 3)<|ai<|bF cH<|ao (aj 1) ay)<|bc (bI 7<|ac bg (aj 1)<|ai<|ac eJ (ai<|ac dd (aj 3)<|aj 4)<|ai<|bF cH<|ao (aj 1) ay)<|bc (ep (bO<|ac hQ (ai<|bF cH<|ao (ai<|aZ 3 G.mf<|ao (aj 1)<|ao (aj 6)<|ao (aj 7) ay) ay)<|aj 2) (c1<|cY<|ao (aj 1)<|ao (aj 6)<|ao (aj 7) ay) fY)<|bI 1<|aZ 2 G.qK<|ao (ai<|ff (aj 1) gu<|fv<|n7<|aG<|.int 1)<|ao (ai<|ac bg (aj 1)<|ai<|aG<|.int 0) ay))
def wF:bl:=((bc (rJ 3 4<|ao (ai<|aZ 2 G.e3<|ao (aj 0)<|ao (ai<|bF cH<|ao (aj 1) ay) ay)<|ao (ai<|ac bg (ai<|e0<|ao (ai<|aZ 2 G.e3<|ao (aj 0)<|ao (ai<|bF cH<|ao (aj 1) ay) ay)<|ao (ai<|aG<|.int 0) ay)<|ai<|aZ 2 G.e3<|ao (aj 0)<|ao (ai<|aG<|.int 2) ay) ay)<|bc (eE (hu<|ao (ai<|bF cH<|ao (aj 1) ay) ay) (a6 5) G.ui)<|c1<|cY<|ao (ai<|ff (aj 1) gu<|fv<|aG<|.int 1)<|ao (ai<|ac bg (aj 1)<|ai<|aG<|.int 0)<|ao (ai<|ac bg (aj 1)<|ai<|aG<|.int 0) ay))
def oZ:cG:=(dc 3 8 [0,2] wF)
def EO:aD ak:=((cY<|ao (aj 0)<|ao (ai<|aG<|.aJ ab) ay))
def sA:bl:=((ep (g6 (bO<|ac h4 (aj 6)<|aj 2)<|bO<|ac hx (aj 6)<|aj 3) (bc (gs (ac dd (ai<|ac bg (aj 3)<|ai<|ac bg (aj 4)<|aj 5)<|ai<|aG<|.int 1)<|hF 3 (c8 6) hM)<|gN<|fH f9 4 fm<|ao (aj 6) ay) fY))
def x4:aD Bool:=((bO<|ac D7 (aj 5)<|ai<|bF cH<|ao (aj 4) ay))
def xM:bl:=((bc (eE (bY<|ai<|aZ 1 G.hT<|ao (ai<|ac bg (aj 4)<|aj 5) ay) (a6 6) G.sA)<|y7 5 (λj A=>j+A)<|aG<|.int 1))
def Dt:bl:=((bc (bI 2<|bF ic<|ao (ai<|cE 1 [] (bY<|aj 0) (a6 0) ei G.EO) ay)<|bc (bI 3<|uQ (c8 1)<|aG<|.int 0)<|bc (bI 4<|e0<|ao (aj 1) ay)<|bc (bI 5<|aG<|.int 0)<|bc (je G.x4 G.xM 1000000)<|c1<|c8 3))
def p7:cG:=(dc 2 7 [0,1] Dt)
def zl(a:cG):bl:=((gN<|fH f9 2 fm<|ao (ai<|ac dd (ai<|ac bg (ai<|mN<|ac bg (aj 0)<|ai<|ac bg (aj 1)<|ai<|aG<|.int 0)<|ai<|ac bg (aj 1)<|aj 3)<|ai<|aZ 2 a<|ao (aj 0)<|ao (ai<|ac dd (ai<|ff (aj 1) (fv<|aG<|.int 1)<|fv<|c8 3)<|ai<|ff (aj 1) (fv<|ac dd (aj 3)<|ai<|aG<|.int 1) gu) ay) ay))
def rG(a:cG):bl:=((bc (ep (bO<|ac ey (aj 1)<|ai<|e0 ay) (c1<|aG<|.int 0) fY)<|bc (bI 2<|e0 ay)<|bc (eE (ps<|ao (ai<|aG<|.int 1)<|ao (ai<|bF cH<|ao (aj 1) ay) ay) (a6 3)<|G.zl a)<|c1<|bF q5<|ao (aj 2) ay))
def l3:Nat->cG
 |0=>λ_=>X
 |s+1=>dc 2 4 [0,1] (rG<|l3 s)
def tL:aD ak:=((cY<|ao (aj 0)<|ao (ai<|tb<|aZ 2 G.p7<|ao (aj 1)<|ao (aj 0) ay) ay))
def GI:bl:=((bc (bI 3<|aZ 3 G.mf<|ao (aj 0)<|ao (aj 1)<|ao (aj 2) ay)<|bc (bI 4<|bF ic<|ao (ai<|cE 1 [0] (bY<|aj 3) (a6 0) ei G.tL) ay)<|c1<|aZ 2 (G.l3 8)<|ao (aj 4)<|ao (aj 3) ay))
def vK:cG:=(dc 3 5 [0,1,2] GI)
def wm:aD ak:=((c8 0))
def xl:aD Bool:=((bO<|ac ey (ai<|ac bg (aj 1)<|aj 0)<|ai<|aG<|.int 2))
def DO:aD ak:=((c8 0))
def Js:aD Bool:=((bO<|ac h4 (aj 1)<|aj 0))
def Jy:aD ak:=((c8 0))
def x7:aD Bool:=((bO<|ac ey (ai<|ac eJ (ai<|bF cH<|ao (ai<|cE 1 [0] (bY<|aj 1) (a6 0) G.Js G.DO) ay)<|ai<|aG<|.int 2)<|ai<|aG<|.int 1))
def uh:bl:=((bc (bI 2<|aZ 2 G.sa<|ao (aj 0)<|ao (aj 1) ay)<|bc (gs (aZ 3 G.oZ<|ao (aj 2)<|ao (ai<|aZ 2 G.pR<|ao (aj 2)<|ao (ai<|aG<|.int 36) ay)<|ao (ai<|aG<|.int 8) ay)<|i3 3<|eP (a6 3)<|eP (a6 4)<|eP (a6 5) h_)<|bc (bI 6<|aZ 3 G.oL<|ao (aj 3)<|ao (aj 4)<|ao (aj 5) ay)<|bc (ep (i2 (ko<|kK<|ai<|aZ 2 G.qs<|ao (aj 3)<|ao (aj 6) ay)<|i2 (bO<|ac eZ (ai<|ac bg (aj 6)<|ai<|aG<|.int 0)<|aj 4)<|bO<|ac eZ (ai<|ac bg (aj 6)<|ai<|n7<|aG<|.int 1)<|aj 5) (c1<|aG<|.aJ az) fY)<|bc (bI 7<|qz<|aZ 1 G.nu<|ao (aj 6) ay)<|bc (bI 8<|cE 1 [7] (uS<|aj 7) (a6 0) G.xl G.wm)<|bc (ep (i2 (bO<|ac eZ (ai<|bF jQ<|ao (aj 7) ay)<|ai<|aZ 1 G.mC<|ao (aj 3) ay)<|bO<|ac eZ (ai<|ac dd (ai<|bF rr<|ao (aj 7) ay)<|ai<|bF cH<|ao (aj 8) ay)<|ai<|ac mS (ai<|bF cH<|ao (aj 6) ay)<|ai<|aG<|.int 1) (c1<|aG<|.aJ az) fY)<|bc (ep (bO<|ac eZ (ai<|bF cH<|ao (aj 8) ay)<|ai<|aZ 3 G.vK<|ao (aj 3)<|ao (aj 4)<|ao (aj 5) ay) (c1<|aG<|.aJ az) fY)<|bc (bI 9<|cE 1 [8] (bY<|aj 3) (a6 0) G.x7 G.Jy)<|ep (i2 (bO<|ac eZ (aj 9)<|ai<|aZ 3 G.mf<|ao (aj 3)<|ao (aj 4)<|ao (aj 5) ay)<|bO<|ac eZ (ai<|aZ 3 G.oL<|ao (aj 3)<|ao (aj 4)<|ao (aj 5) ay)<|aj 6) (c1<|aG<|.aJ az) fY))
def AV:bl:=((bc (eE (hu<|ao (ai<|aG<|.int 3) ay) (a6 1) G.uh)<|c1<|ac ey (ai<|aZ 3 G.oL<|ao (ai<|cY<|ao (ai<|cY<|ao (ai<|aG<|.int 5)<|ao (ai<|aG<|.int 5) ay) ay)<|ao (ai<|cY<|ao (ai<|aG<|.int 5)<|ao (ai<|aG<|.int 5) ay)<|ao (ai<|cY<|ao (ai<|aG<|.int 5)<|ao (ai<|aG<|.int 5) ay) ay)<|ai<|cY<|ao (ai<|cY<|ao (ai<|aG<|.int 5)<|ao (ai<|aG<|.int 5) ay) ay))
def o5:cG:=(dc 1 10 [0] AV)
def D8(T:List aq)(z:aq->Int):(bx T z).length=T.length:=br _
def wt(f:aq):((bx T z).any λq=>decide (q.1=bJ f))=decide (f∈T):=by
 unfold bx;rw[tf,n_,mR,fu];constructor
 ·rintro⟨b,d,a⟩;have:bJ b=bJ f:=e_ a;rw[<-h7 this];exact d
 ·exact λc=>⟨f,c,bW rfl⟩
def S8{o:aq}(c:o∉T)(r:Int):dH (bx T z) (bJ o) (.int r)=bx (T++[o]) (e9 z o r):=by
 unfold dH;rw[wt,if_neg (by rw[decide_eq_false c];exact dw)];unfold bx;rw[iM];congr 1
 ·refine gr λf a=>?_;unfold e9;rw[if_neg λk:f=o=>c<|k ▸ a]
 ·show _=[(bJ o,aa.int<|e9 z o r o)];unfold e9;rw[aH rfl]
def IF{o:aq}(c:o∉T)(a:T.length<100000)(r:Int):hM (.aB<|bx T z) (.im<|V o) (aE r)=Z (.aB<|bx (T++[o])<|e9 z o r):=by
 rw[<-S8 c];exact aH ⟨rfl,by rw[D8];exact a⟩
def HP(T:List aq)(z:aq->Int)(f:aq):hx (.im<|V f) (.aB<|bx T z)=Z (.im<|.aJ<|!decide (f∈T)):=by
 show (hn (.tup<|bJ f)<|.aB<|bx T z).map (λp=>ak.im<|.aJ<|!p)=_;rw[Ef,aH<|l5 f,vN,wt];rfl
def x_(c:f∈T):bg (.aB<|bx T z) (.im<|V f)=Z (aE<|z f):=by
 show (if aa.keys 7 (bJ f)=ab then (cq (bx T z)<|bJ f).map ak.im else X)=_;rw[aH (l5 f),sh c];rfl
def HL{o:aq}(c:o∈Y)(s:o∉T):dF Y T (o::V4)=o::dF Y T V4:=by
 unfold dF;rw[rA (by rw[bW c,decide_eq_false s];rfl)]
def vy{o:aq}(c:¬ (o∈Y/\o∉T)):dF Y T (o::V4)=dF Y T V4:=by
 unfold dF;rw[p5];rw[cI,fu,uX,Gq];exact c
def CB{o:aq}(c:o∉V4):dF Y (T++[o]) V4=dF Y T V4:=by
 unfold dF;refine CI λb d=>?_;congr 2;refine ix.mpr ?_;rw[d8,cR];exact⟨λk=>k.elim id λa=>absurd (a ▸ d) c,.inl⟩
def CR{o:aq}{a:List aq}(c:b≠o):ie (e9 z o<|z b+1) b a=ie z b (o::a):=by
 funext f;unfold ie e9;rw[if_neg c];by_cases l:f∈a
 ·rw[aH l,aH<|.tail _ l]
 ·by_cases t:f=o
  ·rw[if_neg l,aH t,aH<|t ▸ .head _]
  ·rw[if_neg l,if_neg t,if_neg λk=>(bR.mp k).elim t l]
def FG(z:aq->Int)(b:aq):ie z b []=z:=funext λf=>if_neg lE
abbrev fh(Y:List aq)(m:aq)(T:List aq)(z:aq->Int)(B:Option ak)(a:List aq)(Wt e:Option ak):aU:=[Z (.aB<|aQ Y),Z<|.im<|V m,Z<|.aB<|bx T z,B,Z<|aW a,Wt,e]
theorem vo{Y:List aq}{m b:aq}{B:Option ak}:∀(V4 T:List aq) (z:aq->Int) (c:List aq) (e:Option ak),V4.Nodup->b∈T->b∉V4->T.length+V4.length<5000->c.length+V4.length<5000->
  ∃d,dp (a6 6) r6 (V4.map V) (fh Y m T z B c (Z<|.im<|V b) e)=Z (.a8,fh Y m (T++dF Y T V4) (ie z b<|dF Y T V4) B (c++dF Y T V4) (Z<|.im<|V b) d)
 |[],T,z,c,e,_,_,_,_,_=>⟨e,by rw[show dF Y T []=[] from rfl,b4,b4,FG];rfl⟩
 |o::V4,T,z,c,e,ae,g,h,i,ag=>by
  have ae:=dD.mp ae;rw[cn]at i ag;have nD:b≠o:=λa=>h (a ▸ .head _);have Wo:bO (ac h4 (aj 6)<|aj 0) (fh Y m T z B c (Z<|.im<|V b)<|Z<|.im<|V o)=Z (decide (o∈Y),fh Y m T z B c (Z<|.im<|V b)<|Z<|.im<|V o):=eo (fc<|s9 Y o);have Wq:bO (ac hx (aj 6)<|aj 2) (fh Y m T z B c (Z<|.im<|V b)<|Z<|.im<|V o)=Z (!decide (o∈T),fh Y m T z B c (Z<|.im<|V b)<|Z<|.im<|V o):=eo (fc<|HP T z o);rw[bH];by_cases l:o∈Y
  ·rw[bW l]at Wo;by_cases t:o∈T
   ·rw[bW t]at Wq;let⟨d,f⟩:=vo (Y:=Y) (m:=m) (B:=B) V4 T z c (Z<|.im<|V o) ae.2 g (λk=>h<|.tail _ k) (by omega) (by omega);refine⟨d,?_⟩;rw[vy λk=>k.2 t];refine iR (VQ:=fh Y m T z B c (Z<|.im<|V b) (Z<|.im<|V o)) (Wi:=fh Y m T z B c (Z<|.im<|V b) (Z<|.im<|V o)) rfl ?_ f;unfold r6;exact hb (qD Wo Wq) rfl
   ·rw[decide_eq_false t]at Wq;let⟨d,f⟩:=vo (Y:=Y) (m:=m) (B:=B) V4 (T++[o]) (e9 z o<|z b+1) (c++[o]) (Z<|.im<|V o) ae.2 (eb _ g) (λk=>h<|.tail _ k) (by rw[cZ,fP];omega) (by rw[cZ,fP];omega);rw[CB ae.1,CR nD,bV,bV]at f;refine⟨d,?_⟩;rw[HL l t];refine iR (VQ:=fh Y m T z B c (Z<|.im<|V b) (Z<|.im<|V o)) (Wi:=fh Y m (T++[o]) (e9 z o<|z b+1) B (c++[o]) (Z<|.im<|V b) (Z<|.im<|V o)) rfl ?_ f;unfold r6;have pt:=IF (z:=z) t (by omega) (z b+1);refine pN (qD Wo Wq) (bP (VQ:=fh Y m (T++[o]) (e9 z o<|z b+1) B c (Z<|.im<|V b) (Z<|.im<|V o)) (ox (fX (df<|fX rfl rfl rfl rfl<|x_ g) rfl rfl rfl rfl) ?_) (jk (kW rfl rfl (dm rfl rfl) rfl rfl (pa (by omega)) rfl)));exact vt rfl rfl rfl rfl pt rfl
  ·rw[decide_eq_false l]at Wo;let⟨d,f⟩:=vo (Y:=Y) (m:=m) (B:=B) V4 T z c (Z<|.im<|V o) ae.2 g (λk=>h<|.tail _ k) (by omega) (by omega);refine⟨d,?_⟩;rw[vy λk=>l k.1];refine iR (VQ:=fh Y m T z B c (Z<|.im<|V b) (Z<|.im<|V o)) (Wi:=fh Y m T z B c (Z<|.im<|V b) (Z<|.im<|V o)) rfl ?_ f;unfold r6;exact hb (yf Wo) rfl
theorem zJ:∀{T Y:List aq},T.Nodup->(∀f∈T,f∈Y)->T.length<=Y.length
 |[],_,_,_=>fW _
 |h::T,Y,ae,c=>by
  have ae:=dD.mp ae;have av:=c h (.head _);have d:=zJ (T:=T) (Y:=Y.erase h) ae.2 λf b=>(Cu λa:f=h=>ae.1<|a ▸ b).mpr (c f<|.tail _ b);rw[uO av]at d;have:=tW av;rw[cn];omega
def xb{u:List aq}(Wf:eX Y m T z u):T.length<=Y.length:=zJ Wf.ae Wf.sub
theorem IS{Y:List aq}{m:aq}(i:Y.length<=1000):∀(x T:List aq) (z:aq->Int) (a:List aq) (Wt e:Option ak),a.length<=T.length->eX Y m T z (x++a)->
  ∃d U c g f,dp (a6 5) zh (x.map V) (fh Y m T z (Z .c2) a Wt e)=Z (.a8,fh Y m d U (Z .c2) c g f)/\eX Y m d U c/\d.length+a.length=T.length+c.length/\a.length<=c.length
 |[],T,z,a,Wt,e,_,Wf=>⟨T,z,a,Wt,e,rfl,Wf,by omega,bB _⟩
 |b::p,T,z,a,Wt,e,ag,Wf=>by
  have h:eX Y m (T++dF Y T (bw b)) (ie z b<|dF Y T<|bw b) (p++a++dF Y T (bw b)):=Wf.step;have u:=xb Wf;let⟨f,j⟩:=vo (Y:=Y) (m:=m) (b:=b) (B:=Z .c2) (bw b) T z a e (qB b) (Wf.el b<|.head _) (xZ b) (by rw[pP];omega) (by rw[pP];omega);rw[bV]at h;let⟨d,U,c,g,k,l,o,q,r⟩:=IS i p (T++dF Y T (bw b)) (ie z b<|dF Y T<|bw b) (a++dF Y T (bw b)) (Z<|.im<|V b) f (by rw[cZ,cZ];omega) h;rw[cZ,cZ]at q;rw[cZ]at r;refine⟨d,U,c,g,k,?_,o,by omega,by omega⟩;rw[bH];refine iR (VQ:=fh Y m T z (Z .c2) a (Z<|.im<|V b) e) (Wi:=fh Y m (T++dF Y T (bw b)) (ie z b<|dF Y T<|bw b) (Z .c2) (a++dF Y T (bw b)) (Z<|.im<|V b) f) rfl ?_ l;unfold zh;have s:aZ 1 G.kc (ao (aj 5) ay) (fh Y m T z (Z .c2) a (Z<|.im<|V b) e)=Z (aW<|bw b,fh Y m T z (Z .c2) a (Z<|.im<|V b) e):=dh (V6:=[.aS 5]) rfl rfl rfl (Gx b) rfl;have t:bY (ai<|aZ 1 G.kc<|ao (aj 5) ay) (fh Y m T z (Z .c2) a (Z<|.im<|V b) e)=Z (((bw b).map V,X),fh Y m T z (Z .c2) a (Z<|.im<|V b) e):=by
   unfold bY;rw[df s];rfl
  exact gZ (n:=X) t j rfl
def SW(l:m∈Y)(o:Y.length<=1000):∃T z,mA [.aB (aQ Y),.im<|V m]=Z (.aB<|bx T z,[.aB (aQ Y),.im<|V m])/\eX Y m T z []:=by
 let⟨Wb,cv,T,z,Wn,Wt,e,rfl,Wf⟩:=p_ (f:=Gp) (d:=xc)
  (λM w=>∃T z g5 Wn Wt e,w=[Z (.aB<|aQ Y),Z<|.im<|V m,Z<|.aB<|bx T z,Z<|aW g5,Wn,Wt,e]/\eX Y m T z g5/\2*(Y.length-T.length)+(if g5=[] then 0 else 1)<=M)
  (λw=>∃T z Wn Wt e,w=[Z (.aB<|aQ Y),Z<|.im<|V m,Z<|.aB<|bx T z,Z<|aW [],Wn,Wt,e]/\eX Y m T z [])
  (λM w dG=>by
   let⟨T,z,g5,Wn,Wt,e,rfl,Wf,p⟩:=dG;by_cases c:g5=[]
   ·subst c;exact⟨az,_,rF rfl rfl rfl,(λk=>by cases k),λ_=>⟨T,z,Wn,Wt,e,rfl,Wf⟩⟩
   ·let⟨g,U,b,h,i,a,j,q,r⟩:=IS o g5 T z [] Wt e (fW _) (by rw[b4];exact Wf);have s:=xb j;rw[if_neg c]at p;rw[fy]at q;refine⟨ab,_,rF rfl rfl (by cases g5 with|nil=>exact absurd rfl c|cons=>rfl),λ_=>⟨.a8,[Z (.aB<|aQ Y),Z<|.im<|V m,Z<|.aB<|bx g U,Z<|aW b,Z .c2,h,i],?_,.inl rfl,M-1,by omega,g,U,b,Z .c2,h,i,rfl,j,?_⟩,(λk=>by cases k)⟩
    ·unfold xc;exact bP (VQ:=fh Y m T z (Z<|aW g5) [] Wt e) (gg (kS rfl rfl (fg rfl) rfl) (dX rfl) rfl) (bP (VQ:=fh Y m g U (Z<|aW g5) b h i) (gZ (n:=Z (3,aW g5)) (VQ:=fh Y m T z (Z .c2) [] Wt e) rfl a rfl) rfl)
    ·by_cases k:b=[]
     ·rw[aH k];omega
     ·rw[if_neg k];have:=kU.mpr k;omega) 1000000 (2*Y.length+1) [Z (.aB<|aQ Y),Z<|.im<|V m,Z<|.aB<|bx [m] λ_=>0,Z<|aW [m],X,X,X] ⟨[m],λ_=>0,[m],X,X,X,rfl,eX.init l rfl,by rw[if_neg (sz _ _)];omega⟩ (by omega)
 refine⟨T,z,?_,Wf⟩;unfold mA GC;refine eO (w:=[Z (.aB<|aQ Y),Z<|.im<|V m,Z .c2,Z<|aW [],Wn,Wt,e]) rfl ?_ rfl;exact bP (VQ:=[Z (.aB<|aQ Y),Z<|.im<|V m,Z<|.aB<|bx [m] λ_=>0,X,X,X,X]) rfl (bP (VQ:=[Z (.aB<|aQ Y),Z<|.im<|V m,Z<|.aB<|bx [m] λ_=>0,Z<|aW [m],X,X,X]) (gg (kS (dm rfl rfl) rfl (fg rfl) rfl) (dX rfl) rfl)<|bP cv rfl)
abbrev fD(Y:List aq)(m:aq)(T:List aq)(z:aq->Int)(s:Nat)(e:Option ak):aU:=[Z (aK Y),Z<|.im<|V m,Z<|.aB<|aQ Y,Z<|.aB<|bx T z,Z<|aW T,Z<|aE (s:Int),e]
def rz{J:List aq}{s:Nat}(c:J[s]?=Z b):bg (aW J) (aE (s:Int))=Z (.im<|V b):=by
 show (dM (J.map V) (s:Int)).map ak.im=_;rw[m6 (o:=V b) (Int.natCast_nonneg s) (by rw[oc,gC,c];rfl)];rfl
theorem uM{Y:List aq}{m b:aq}{s:Nat}:∀(V4 T:List aq) (z:aq->Int) (e:Option ak),V4.Nodup->b∈T->T[s]?=Z b->b∉V4->T.length+V4.length<5000->
  ∃c,dp (a6 6) sA (V4.map V) (fD Y m T z s e)=Z (.a8,fD Y m (T++dF Y T V4) (ie z b<|dF Y T V4) s c)
 |[],T,z,e,_,_,_,_,_=>⟨e,by rw[show dF Y T []=[] from rfl,b4,FG];rfl⟩
 |o::V4,T,z,e,ae,g,f,h,i=>by
  have ae:=dD.mp ae;rw[cn]at i;have nD:b≠o:=λa=>h (a ▸ .head _);have Wo:bO (ac h4 (aj 6)<|aj 2) (fD Y m T z s<|Z<|.im<|V o)=Z (decide (o∈Y),fD Y m T z s<|Z<|.im<|V o):=eo (fc<|s9 Y o);have Wq:bO (ac hx (aj 6)<|aj 3) (fD Y m T z s<|Z<|.im<|V o)=Z (!decide (o∈T),fD Y m T z s<|Z<|.im<|V o):=eo (fc<|HP T z o);rw[bH];by_cases l:o∈Y
  ·rw[bW l]at Wo;by_cases t:o∈T
   ·rw[bW t]at Wq;let⟨c,d⟩:=uM (Y:=Y) (m:=m) V4 T z (Z<|.im<|V o) ae.2 g f (λk=>h<|.tail _ k) (by omega);refine⟨c,?_⟩;rw[vy λk=>k.2 t];refine iR (VQ:=fD Y m T z s (Z<|.im<|V o)) (Wi:=fD Y m T z s (Z<|.im<|V o)) rfl ?_ d;unfold sA;exact hb (qD Wo Wq) rfl
   ·rw[decide_eq_false t]at Wq;let⟨c,d⟩:=uM (Y:=Y) (m:=m) (s:=s) V4 (T++[o]) (e9 z o<|z b+1) (Z<|.im<|V o) ae.2 (eb _ g) (by rw[r_ (fM.mp f).1];exact f) (λk=>h<|.tail _ k) (by rw[cZ,fP];omega);rw[CB ae.1,CR nD,bV]at d;refine⟨c,?_⟩;rw[HL l t];refine iR (VQ:=fD Y m T z s (Z<|.im<|V o)) (Wi:=fD Y m (T++[o]) (e9 z o<|z b+1) s (Z<|.im<|V o)) rfl ?_ d;unfold sA;have pt:=IF (z:=z) t (by omega) (z b+1);refine pN (qD Wo Wq) (bP (VQ:=[Z (aK Y),Z<|.im<|V m,Z<|.aB<|aQ Y,Z<|.aB<|bx (T++[o])<|e9 z o<|z b+1,Z<|aW T,Z<|aE (s:Int),Z<|.im<|V o]) (ox (fX (df<|fX rfl (df<|fX rfl rfl rfl rfl<|rz f) rfl rfl<|x_ g) rfl rfl rfl rfl) ?_) (jk (kW rfl rfl (dm rfl rfl) rfl rfl (pa (by omega)) rfl)));exact vt rfl rfl rfl rfl pt rfl
  ·rw[decide_eq_false l]at Wo;let⟨c,d⟩:=uM (Y:=Y) (m:=m) V4 T z (Z<|.im<|V o) ae.2 g f (λk=>h<|.tail _ k) (by omega);refine⟨c,?_⟩;rw[vy λk=>l k.1];refine iR (VQ:=fD Y m T z s (Z<|.im<|V o)) (Wi:=fD Y m T z s (Z<|.im<|V o)) rfl ?_ d;unfold sA;exact hb (yf Wo) rfl
def Pj(ae:Y.Nodup)(l:m∈Y)(t:Y.length<=500):∃T z,p7 [aK Y,.im<|V m]=Z (.aB<|bx T z,[aK Y,.im<|V m])/\eX Y m T z []:=by
 let⟨Wb,cv,T,z,s,e,rfl,Wf⟩:=p_ (f:=x4) (d:=xM)
  (λM w=>∃T z s e,w=fD Y m T z s e/\eX Y m T z (T.drop s)/\s<=T.length/\Y.length+1-s<=M)
  (λw=>∃T z s e,w=fD Y m T z s e/\eX Y m T z [])
  (λM w dG=>by
   let⟨T,z,s,e,rfl,Wf,u,h⟩:=dG;have v:=xb Wf;have a:x4 (fD Y m T z s e)=Z (decide ((s:Int)<(T.length:Int)),fD Y m T z s e):=Dh (fX rfl (df<|k8 (dm rfl rfl) rfl<|yv T) rfl rfl rfl);by_cases c:s<T.length
   ·rw[bW (by omega)]at a;have i:T[s]?=Z T[s]:=fj c;have hd:T.drop s=T[s]::T.drop (s+1):=j6 c;rw[hd]at Wf;have o:=Wf.step;let⟨j,g⟩:=uM (Y:=Y) (m:=m) (s:=s) (b:=T[s]) (bw T[s]) T z e (qB _) (rM c) i (xZ _) (by rw[pP];omega);have p:bY (ai<|aZ 1 G.hT<|ao (ai<|ac bg (aj 4)<|aj 5) ay) (fD Y m T z s e)=Z (((bw T[s]).map V,X),fD Y m T z s e):=by
     have g:aZ 1 G.hT (ao (ai<|ac bg (aj 4)<|aj 5) ay) (fD Y m T z s e)=Z (aW<|bw T[s],fD Y m T z s e):=dh (V6:=[.b3 (.im<|V T[s])]) (dm (df<|fX rfl rfl rfl rfl<|rz i) rfl) rfl rfl (rO _) rfl;unfold bY;rw[df g];rfl
    refine⟨ab,_,a,λ_=>⟨.a8,fD Y m (T++dF Y T (bw T[s])) (ie z T[s] (dF Y T<|bw T[s])) (s+1) j,?_,.inl rfl,M-1,by omega,_,_,s+1,j,rfl,?_,by rw[cZ];omega,by omega⟩,(λk=>by cases k)⟩
    ·unfold xM;exact bP (gZ (n:=X) p g rfl) rfl
    ·rw[List.drop_append_of_le_length (by omega)];exact o
   ·rw[decide_eq_false (by omega)]at a;refine⟨az,_,a,(λk=>by cases k),λ_=>⟨T,z,s,e,rfl,?_⟩⟩
    rwa [List.drop_eq_nil_of_le (by omega)]at Wf) 1000000 (Y.length+1) (fD Y m [m] (λ_=>0) 0 X) ⟨[m],λ_=>0,0,X,rfl,eX.init l rfl,fW _,bB _⟩ (by omega)
 refine⟨T,z,?_,Wf⟩;have a:cE 1 [] (bY<|aj 0) (a6 0) ei G.EO [Z (aK Y),Z<|.im<|V m,X,X,X,X,X]=Z (.lst<|Y.map λf=>.tup [V f,.aJ ab],[Z (aK Y),Z<|.im<|V m,X,X,X,X,X]):=
  ho (x:=Y.map V) (n:=X) (VQ:=[Z (aK Y),Z<|.im<|V m,X,X,X,X,X]) rfl (lb V (λf=>.tup [V f,.aJ ab]) _ (λf W=>⟨[Z (.im<|V f)],_,[Z (.im<|V f)],rfl,rfl,rfl,rfl⟩) (by omega)) rfl;have h:((aQ Y).all λq=>aa.keys 7 q.1)=ab/\(aQ Y).length<=1000:=⟨AA Y,by unfold aQ;rw[br];omega⟩;have r:ic [.lst (Y.map λf=>.tup [V f,.aJ ab])]=Z (.aB<|aQ Y):=by
  show (ia<|Y.map λf=>.tup [V f,.aJ ab]).bind _=_;rw[z4];show (if ((aQ Y).all λq=>aa.keys 7 q.1)=ab/\(aQ Y).length<=1000 then Z (ak.aB<|gz<|aQ Y) else X)=_;rw[aH h,HZ ae]
 unfold p7 Dt;refine eO (w:=[Z (aK Y),Z<|.im<|V m,Z<|.aB<|aQ Y,Z .c2,Z<|aW T,Z<|aE (s:Int),e]) rfl ?_ rfl;exact bP (VQ:=[Z (aK Y),Z<|.im<|V m,Z<|.aB<|aQ Y,X,X,X,X]) (ik (eS (cf (bL a) rfl) rfl r) (dX rfl) rfl) (bP (VQ:=[Z (aK Y),Z<|.im<|V m,Z<|.aB<|aQ Y,Z<|.aB<|bx [m] λ_=>0,X,X,X]) rfl<|bP (VQ:=[Z (aK Y),Z<|.im<|V m,Z<|.aB<|aQ Y,Z<|.aB<|bx [m] λ_=>0,Z<|aW [m],X,X]) (gg (kS (dm rfl rfl) rfl (fg rfl) rfl) (dX rfl) rfl)<|bP (VQ:=fD Y m [m] (λ_=>0) 0 X) rfl<|bP cv rfl)
def js(T:List aq)(z:aq->Int):List ((Int×Int)×Int):=(T.map λf=>(f,z f))
def GD(T:List aq)(z:aq->Int):lX (js T z)=bx T z:=by
 unfold lX js bx;rw[es];rfl
abbrev cN(S:List aq)(We:aq->List ((Int×Int)×Int)):List (List aa×aa):=S.map λh=>(bJ h,aa.fd<|We h)
theorem D3{We:aq->List ((Int×Int)×Int)}:∀{S:List aq}{f:aq},f∈S->cq (cN S We) (bJ f)=Z (.fd<|We f)
 |h::S,f,c=>by
  unfold cq;show ((((bJ h,aa.fd<|We h)::cN S We).find? λq=>decide (q.1=bJ f)).map (·.2))=_;rw[gH];by_cases a:h=f
  ·subst a;rw[show decide ((bJ h,aa.fd<|We h).1=bJ h)=ab from bW rfl];rfl
  ·rw[show decide ((bJ h,aa.fd<|We h).1=bJ f)=az from decide_eq_false λk=>a<|h7 k];exact D3 ((bR.mp c).resolve_left λk=>a k.symm)
def w0(c:f∈S):bg (.aB<|cN S We) (.im<|V f)=Z (.im<|.fd<|We f):=by
 show (if aa.keys 7 (bJ f)=ab then (cq (cN S We)<|bJ f).map ak.im else X)=_;rw[aH (l5 f),D3 c];rfl
def tZ(c:f∈T):bg (.di<|bx T z) (.im<|V f)=Z (aE<|z f):=by
 show (if aa.keys 7 (bJ f)=ab then (cq (bx T z)<|bJ f).map ak.im else X)=_;rw[aH (l5 f),sh c];rfl
structure n4(Y S:List aq)(We:aq->List ((Int×Int)×Int))(o:aq->aq->Nat):Prop where
 t:∀h∈S,∃T z,We h=js T z/\eX Y h T z []/\(∀f∈Y,f∈T)/\∀f∈Y,z f=(o h f:Int)
 ds:∀h∈S,mK Y h (o h)
def HY{z:ak->ak}{b:ak}(a:N w=Z (b,VQ)):sy z N w=Z (z b,VQ):=by
 unfold sy;rw[a];rfl
def JH(a:N w=Z (.aB<|bx T z,VQ)):tb N w=Z (.im<|.fd<|js T z,VQ):=by
 have b:qz N w=Z (.di<|bx T z,VQ):=by
  show (N w).map _=_;rw[a];rfl
 refine (HY b).trans ?_;congr 2;show (match n1 (bx T z) with|some M=>ak.im (.fd M)|none=>ak.di<|bx T z)=_;rw[<-GD,BU]
def wD(a:N w=Z (.im<|.fd<|js T z,VQ)):mN N w=Z (.di<|bx T z,VQ):=by
 refine (HY a).trans ?_;show Z (ak.di<|lX<|js T z,VQ)=_;rw[GD]
def za(Wf:eX Y m T z [])(a:m∈Y)(b:∀h∈Y,∀d∈Y,dT Y h d):(∀f∈Y,f∈T)/\mK Y m (λf=>(z f).toNat)/\∀f∈Y,z f=((z f).toNat:Int):=by
 have all:=Wf.all (b m a);exact⟨all,Wf.ds a<|b m a,λf c=>by have:=Wf.pos f (all f c);omega⟩
def F_(b:∀h∈S,h∈Y)(e:∀h∈Y,∀d∈Y,dT Y h d){VO:aq->List aq->(aq->Int)->Prop}(c:∀h∈S,∃T z,VO h T z/\eX Y h T z []):
  ∃We o,n4 Y S We o/\(∀h∈S,∃T z,We h=js T z/\VO h T z)/\∀h d v,pU Y h d v->o h d<=v:=by
 classical
 have ar:∀h,∃q:List aq×(aq->Int),h∈S->VO h q.1 q.2/\eX Y h q.1 q.2 []:=λh=>by
  by_cases av:h∈S
  ·let⟨T,z,l,t⟩:=c h av;exact⟨(T,z),λ_=>⟨l,t⟩⟩
  ·exact⟨([],λ_=>0),λk=>absurd k av⟩
 refine⟨λh=>js (ar h).choose.1 (ar h).choose.2,λh f=>if h∈S then ((ar h).choose.2 f).toNat else 0,⟨λh av=>?_,λh av=>?_⟩,λh av=>⟨_,_,rfl,((ar h).choose_spec av).1⟩,λh d v C=>?_⟩
 ·have Wf:=((ar h).choose_spec av).2;let⟨Wo,Wq,g⟩:=za Wf (b h av) e;exact⟨_,_,rfl,Wf,Wo,λf i=>by rw[aH av];exact g f i⟩
 ·have Wf:=((ar h).choose_spec av).2;let⟨Wo,Wq,g⟩:=za Wf (b h av) e;have a:(λf=>if h∈S then ((ar h).choose.2 f).toNat else 0)=λf=>((ar h).choose.2 f).toNat:=funext λf=>aH av;rw[a];exact Wq
 ·by_cases av:h∈S
  ·have Wf:=((ar h).choose_spec av).2;let⟨Wo,Wq,g⟩:=za Wf (b h av) e;show (if h∈S then ((ar h).choose.2 d).toNat else 0)<=v;rw[aH av];exact Wq.le d v C
  ·show (if h∈S then ((ar h).choose.2 d).toNat else 0)<=v;rw[if_neg av];exact fW _
def QL{z N:aq->Nat}(L:mK Y m z)(VN:mK Y m N){f:aq}(a:f∈Y):z f=N f:=DN (L.le f _ (VN.FX f a).rev) (VN.le f _ (L.FX f a).rev)
theorem Hk{Y:List aq}{Wd:Option ak}{We:aq->List ((Int×Int)×Int)}:∀(b S:List aq) (B:Option ak),(S++b).Nodup->(S++b).length<1000->
  (∀h∈b,∃T z,We h=js T z/\mA [.aB (aQ Y),.im<|V h]=Z (.aB<|bx T z,[.aB (aQ Y),.im<|V h]))->
  ∃e,dp (a6 3) xY (b.map V) [Z (.aB<|aQ Y),Wd,Z<|.aB<|cN S We,B]=Z (.a8,[Z (.aB<|aQ Y),Wd,Z<|.aB<|cN (S++b) We,e])
 |[],S,B,_,_,_=>⟨B,by rw[b4];rfl⟩
 |h::b,S,B,ae,g,c=>by
  have av:h∉S:=λk=>(c4.mp ae).2.2 h k h (.head _) rfl;let⟨T,z,j,l⟩:=c h (.head _);let⟨e,i⟩:=Hk (Y:=Y) (Wd:=Wd) (We:=We) b (S++[h]) (Z<|.im<|V h) (by rw[bV];exact ae) (by rw[bV];exact g) λd ag=>c d (.tail _ ag);rw[bV]at i;refine⟨e,?_⟩;rw[bH];refine iR (VQ:=[Z (.aB<|aQ Y),Wd,Z<|.aB<|cN S We,Z<|.im<|V h]) (Wi:=[Z (.aB<|aQ Y),Wd,Z<|.aB<|cN (S++[h]) We,Z<|.im<|V h]) rfl ?_ i;have pt:hM (.aB<|cN S We) (.im<|V h) (.im<|.fd<|We h)=Z (.aB<|cN (S++[h]) We):=by
   have a:dH (cN S We) (bJ h) (.fd<|We h)=cN (S++[h]) We:=by
    unfold dH;rw[if_neg]
    ·show _=(S++[h]).map _;rw[iM];rfl
    ·rw[mR];rintro⟨q,m,k⟩;let⟨f,n,rfl⟩:=cL.mp m;exact av (h7 (e_ k) ▸ n)
   rw[<-a];exact aH ⟨rfl,by rw[cZ]at g;show (S.map _).length<_;rw[br];omega⟩
  unfold xY;have o:aZ 2 G.mA (ao (aj 0)<|ao (aj 3) ay) [Z (.aB<|aQ Y),Wd,Z<|.aB<|cN S We,Z<|.im<|V h]=Z (.aB<|bx T z,[Z (.aB<|aQ Y),Wd,Z<|.aB<|cN S We,Z<|.im<|V h]):=dh (V6:=[.aS 0,.aS 3]) rfl rfl rfl l rfl;refine ox (JH o) ?_;rw[<-j];exact vt rfl rfl rfl rfl pt rfl
def Kd(a:S.Nodup)(b:S.length<1000)(c:∀h∈S,∃T z,We h=js T z/\mA [.aB (aQ Y),.im<|V h]=Z (.aB<|bx T z,[.aB (aQ Y),.im<|V h])):
  r1 [.aB (aQ Y),aK S]=Z (.aB<|cN S We,[.aB (aQ Y),aK S]):=by
 let⟨d,cv⟩:=Hk (Y:=Y) (Wd:=Z (aK S)) (We:=We) S [] X a b c;unfold r1 BO;exact eO (w:=[Z (.aB<|aQ Y),Z<|aK S,Z .c2,d]) rfl (bP (VQ:=[Z (.aB<|aQ Y),Z<|aK S,Z<|.aB [],X]) rfl<|bP (gZ (n:=X) (x:=S.map V) rfl cv rfl) rfl) rfl
open Tj (mp rm cQ mn)
def wK(f o:aq):eZ (.im<|V f) (.im<|V o)=Z (.im<|.aJ<|!decide (f=o)):=Ou f o
def Lh(b:h∉p)(g:p.length<1000):oW [aK (h::p),.im<|V h,.im<|V d]=Z (aK<|rm d p,[aK (h::p),.im<|V h,.im<|V d]):=by
 have cT:cE 1 [1,2] (bY<|aj 0) (a6 0) G.z2 G.Gf [Z (aK (h::p)),Z<|.im<|V h,Z<|.im<|V d]=Z (aW<|(h::p).filter λf=>!decide (f=h) && !decide (f=d),[Z (aK (h::p)),Z<|.im<|V h,Z<|.im<|V d]):=by
  refine ho (x:=(h::p).map V) (n:=X) (VQ:=[Z (aK (h::p)),Z<|.im<|V h,Z<|.im<|V d]) rfl (iw V (λf=>!decide (f=h) && !decide (f=d)) V _ [] (λf Y=>?_) (by rw[cn,fy];omega)) rfl;refine⟨[Z (.im<|V f),Z<|.im<|V h,Z<|.im<|V d],[Z (.im<|V f),Z<|.im<|V h,Z<|.im<|V d],rfl,?_,λ_=>rfl,λ_=>⟨[Z (.im<|V f),Z<|.im<|V h,Z<|.im<|V d],rfl,rfl⟩⟩;have Wo:bO (ac eZ (aj 0)<|aj 1) [Z (.im<|V f),Z<|.im<|V h,Z<|.im<|V d]=Z (!decide (f=h),[Z (.im<|V f),Z<|.im<|V h,Z<|.im<|V d]):=eo (fc<|wK f h);have Wq:bO (ac eZ (aj 0)<|aj 2) [Z (.im<|V f),Z<|.im<|V h,Z<|.im<|V d]=Z (!decide (f=d),[Z (.im<|V f),Z<|.im<|V h,Z<|.im<|V d]):=eo (fc<|wK f d);unfold z2;cases c:decide (f=h) with
  |true=>rw[c]at Wo;exact yf Wo
  |false=>rw[c]at Wo;exact qD Wo Wq
 have a:((h::p).filter λf=>!decide (f=h) && !decide (f=d))=rm d p:=by
  rw[p5 (by rw[bW rfl];exact dw)];unfold rm;refine CI λf e=>?_;rw[decide_eq_false λk:f=h=>b<|k ▸ e];by_cases k:f=d
  ·rw[bW k,decide_eq_false λC=>C k];rfl
  ·rw[decide_eq_false k,bW k];rfl
 rw[a]at cT;unfold oW IY;exact eO (w:=[Z (aK (h::p)),Z<|.im<|V h,Z<|.im<|V d]) rfl (gf<|eS (cf (bL cT) rfl) rfl rfl) rfl
def f5(f:Nat)(VV:List bk):aa:=(.tup [.int (f:Int),.tup<|VV.map bG])
structure jY(o:aq->aq->Nat)(y:List aq)(R:List (List aa×aa)):Prop where
 ok:∀Ro∈R,∃S VV,S.Sublist y/\Ro=(S.map V,f5 (cB o S) VV)/\gx o S VV
 ae:(R.map (·.1)).Nodup
def OT{V2:List aq}(c:V2.map V=S.map V):V2=S:=by
 have:=congrArg (List.map g8) c;rw[es,es]at this;have a:(g8 ∘ V:aq->aq)=id:=funext λf=>rfl
 rwa [a,oB,oB]at this
def jY.len(U:jY o y R):R.length<=2^y.length:=by
 have c:=yH y (R.map λd=>d.1.map g8) (by
  have v:=jI.mp U.ae;refine jI.mpr (uK (λ{b i} g h ne a=>ne ?_) v);let⟨V2,Y,Y,e,Y⟩:=U.ok b g;let⟨S,Y,Y,j,Y⟩:=U.ok i h;rw[e,j]at a ⊢;have f:∀J:List aq,(J.map V).map g8=J:=λJ=>by
   rw[es];have a:(g8 ∘ V:aq->aq)=id:=funext λf=>rfl;rw[a,oB]
  have a:(V2.map V).map g8=(S.map V).map g8:=a;rw[f,f]at a;show V2.map V=S.map V;rw[a]) λH k=>by
   let⟨d,l,rfl⟩:=cL.mp k;let⟨V2,Y,m,e,Y⟩:=U.ok d l;rw[e];have f:(V2.map V).map g8=V2:=by
    rw[es];have a:(g8 ∘ V:aq->aq)=id:=funext λf=>rfl;rw[a,oB]
   show ((V2.map V).map g8).Sublist y;rw[f];exact m
 rwa [br]at c
theorem sI:∀S:List aq,aa.keys 7 (S.map V)=ab
 |[]=>rfl
 |f::S=>by rw[bH,aa.keys,sI S];rfl
theorem Ll(c:(h::p).Sublist y):(rm d p).Sublist y:=(List.filter_sublist.trans<|List.sublist_cons_self h p).trans c
abbrev nF(O y:List aq)(We:aq->List ((Int×Int)×Int))(S:List aq)(R:List (List aa×aa)):aU:=[Z (.aB<|cN y We),Z<|aK S,Z<|.aB R]
def hC(o:aq->aq->Nat)(y:List aq)(We:aq->List ((Int×Int)×Int))(L:cG)(S:List aq):Prop:=(
 ∀R,jY o y R->∃VV a,L [.aB (cN y We),aK S,.aB R]=Z (.im<|f5 (cB o S) VV,[.aB (cN y We),aK S,.aB a])/\jY o y a/\gx o S VV)
def QZ{c:cG}(O:n4 Y y We o)(g:∀b∈y,b∈Y)(i:(h::p).Sublist y)(ae:(h::p).Nodup)(D:p.length<100)(ag:d∈p)(U:jY o y R)(m:hC o y We c (rm d p)):
  ∃VV a,tm c [.aB (cN y We),aK (h::p),.im<|V d,.aB R]=Z (.im<|f5 (o h d+cB o (rm d p)) ((h,d)::VV),[.aB (cN y We),aK (h::p),.im<|V d,.aB a])/\jY o y a/\gx o (rm d p) VV:=by
 have ae:=dD.mp ae;have j:h∈y:=i.subset (.head _);have k:d∈y:=i.subset (.tail _ ag);let⟨VV,a,n,q,l⟩:=m R U;let⟨T,z,r,Wf,s,u⟩:=O.t h j;refine⟨VV,a,?_,q,l⟩;have e:bg (aK (h::p)) (aE 0)=Z (.im<|V h):=by
  show (dM ((h::p).map V) 0).map ak.im=_;rw[m6 (o:=V h) (g_ 0) rfl];rfl
 let f:aU:=[Z (.aB<|cN y We),Z<|aK (h::p),Z<|.im<|V d,Z<|.aB R,X]
 let VQ:aU:=[Z (.aB<|cN y We),Z<|aK (h::p),Z<|.im<|V d,Z<|.aB a,Z<|.im<|f5 (cB o<|rm d p) VV]
 have cO:aZ 3 G.oW (ao (aj 1)<|ao (ai<|ac bg (aj 1)<|ai<|aG<|.int 0)<|ao (aj 2) ay) f=Z (aK<|rm d p,f):=dh (V6:=[.aS 1,.b3<|.im<|V h,.aS 2]) (cf rfl<|cf (bL<|fc e) rfl) rfl rfl (Lh ae.1 (by omega)) rfl;have v:bI 4 (aZ 3 c<|ao (aj 0)<|ao (ai<|aZ 3 G.oW<|ao (aj 1)<|ao (ai<|ac bg (aj 1)<|ai<|aG<|.int 0)<|ao (aj 2) ay)<|ao (aj 3) ay) f=Z (.a8,VQ):=gg (dh (V6:=[.aS 0,.b3<|aK<|rm d p,.aS 3]) (dm rfl<|dm (df cO) rfl) rfl rfl n rfl) (dX rfl) rfl;have x:mN (ac bg (aj 0)<|ai<|ac bg (aj 1)<|ai<|aG<|.int 0) VQ=Z (.di<|bx T z,VQ):=wD (by rw[<-r];exact fX rfl (df<|fX rfl rfl rfl rfl e) rfl rfl (w0 j));have ad:dd (aE<|z d) (aE ((cB o (rm d p):Nat):Int))=Z (aE ((o h d+cB o (rm d p):Nat):Int)):=by
  show Z (aE<|z d+((cB o (rm d p):Nat):Int))=_;rw[u d (g d k),<-BX]
 have A:bg (.im<|f5 (cB o<|rm d p) VV) (aE 0)=Z (aE ((cB o (rm d p):Nat):Int)):=rfl;have B:bg (.im<|f5 (cB o<|rm d p) VV) (aE 1)=Z (gT VV):=rfl;have F:(rm d p).length<=p.length:=j_ _ _;have cv:=l.len;have C:dd (gT [(h,d)]) (gT VV)=Z (gT ((h,d)::VV)):=Fc (by rw[fP];omega);unfold tm Bx;refine eO (w:=VQ) rfl (bP v<|gf ?_) rfl;refine jF (E:=[aE ((o h d+cB o (rm d p):Nat):Int),gT ((h,d)::VV)]) (V6:=[.b3 (aE ((o h d+cB o (rm d p):Nat):Int)),.b3<|gT ((h,d)::VV)]) (cf (bL<|du (bL<|du (bL x) rfl rfl rfl<|tZ<|s d<|g d k) (bL<|fc A) rfl rfl ad)<|cf (bL<|du (bL<|jF (cf (bL<|jF (cf (bL<|fc e)<|cf rfl rfl) rfl (fg rfl) rfl) rfl) rfl (fg rfl) rfl) (bL<|fc B) rfl rfl C) rfl) rfl (fg rfl) rfl
open Tj (mp rm cQ mn)
def Pm{VR:List (List aa×aa)}{s:List aa}{r:aa}(c:cq VR s=Z r):(s,r)∈VR:=by
 unfold cq at c;let⟨q,l,t⟩:=ck.mp c;have b:=List.find?_some l;have d:=List.mem_of_find?_eq_some l;have a:q=(s,r):=m4 (e_ b) t;exact a ▸ d
theorem BW{s:List aa}{o:aa}:∀{VR:List (List aa×aa)},(VR.any λq=>decide (q.1=s))=ab->cq (VR.map λb=>if b.1=s then (b.1,o) else b) s=Z o
 |q::p,c=>by
  unfold cq;rw[bH,gH];by_cases a:q.1=s
  ·rw[aH a,show decide ((q.1,o).1=s)=ab from bW a];rfl
  ·rw[if_neg a,decide_eq_false a];rw[jq,decide_eq_false a,yl]at c;exact BW c
theorem I_{s:List aa}{o:aa}:∀{VR:List (List aa×aa)},¬ (VR.any λq=>decide (q.1=s))=ab->cq (VR++[(s,o)]) s=Z o
 |[],_=>by
  show Option.map _ (List.find? _ [(s,o)])=_;rw[gH,show decide ((s,o).1=s)=ab from bW rfl];rfl
 |q::p,c=>by
  unfold cq;rw[jq]at c;have a:¬ q.1=s:=λk=>c (by rw[bW k];rfl);rw[lJ,gH,decide_eq_false a];exact I_ λk=>c (by rw[k,Bool.or_true])
def N2(VR:List (List aa×aa))(s:List aa)(o:aa):cq (dH VR s o) s=Z o:=by
 unfold dH;split
 ·rename_i c;exact BW c
 ·rename_i c;exact I_ c
def jY.put(U:jY o y R)(g:S.Sublist y)(h:gx o S VV):jY o y (dH R (S.map V)<|f5 (cB o S) VV):=by
 unfold dH;split
 ·refine⟨λd e=>?_,?_⟩
  ·let⟨b,f,rfl⟩:=cL.mp e;split
   ·rename_i a;exact⟨S,VV,g,by rw[a],h⟩
   ·exact U.ok b f
  ·have a:((R.map λd=>if d.1=S.map V then (d.1,f5 (cB o S) VV) else d).map (·.1))=R.map (·.1):=by
    rw[es];refine gr λb Y=>?_;show (if b.1=S.map V then (b.1,f5 (cB o S) VV) else b).1=b.1;split<;>rfl
   rw[a];exact U.ae
 ·rename_i c;refine⟨λd e=>?_,?_⟩
  ·rcases d8.mp e with k|k
   ·exact U.ok d k
   ·exact⟨S,VV,g,cR.mp k,h⟩
  ·rw[iM];refine c4.mpr ⟨U.ae,e4 _ _,λb f i j a=>c ?_⟩;let⟨q,l,rfl⟩:=cL.mp f;rw[List.map_singleton,cR]at j;rw[mR];exact⟨q,l,bW<|a.trans j⟩
def fL(o:aq->aq->Nat)(h:aq)(p:List aq)(b:aq×List bk):aa:=(f5 (o h b.1+cB o (rm b.1 p)) ((h,b.1)::b.2))
theorem sk{Y y:List aq}{We:aq->List ((Int×Int)×Int)}{o:aq->aq->Nat}{e:cG}{h:aq}{p:List aq}(O:n4 Y y We o)(k:∀b∈y,b∈Y)(l:(h::p).Sublist y)(ae:(h::p).Nodup)(m:p.length<100)(n:∀d∈p,hC o y We e<|rm d p):
  ∀(bs:List aq) (c:List aa) (R:List (List aa×aa)),(∀d∈bs,d∈p)->c.length+bs.length<1000->jY o y R->
   ∃(V1:List (aq×List bk)) (g:List (List aa×aa)),gn 1 (a6 0) ei (G.oq e) (bs.map V) c [Z (.aB<|cN y We),Z<|aK (h::p),Z<|.aB R]=Z (c++V1.map (fL o h p),[Z (.aB<|cN y We),Z<|aK (h::p),Z<|.aB g])/\
    jY o y g/\V1.map (·.1)=bs/\∀b∈V1,gx o (rm b.1 p) b.2
 |[],c,R,_,_,U=>⟨[],R,(by show _=Z (c++[],_);rw[b4];rfl),U,rfl,λb i=>by cases i⟩
 |d::bs,c,R,ag,q,U=>by
  rw[cn]at q;let⟨VV,j,r,s,t⟩:=QZ O k l ae m (ag d<|.head _) U (n d<|ag d<|.head _);let⟨V1,g,v,w,x,z⟩:=sk O k l ae m n bs (c++[fL o h p (d,VV)]) j (λf A=>ag f<|.tail _ A) (by rw[cZ,fP];omega) s;refine⟨(d,VV)::V1,g,?_,w,by rw[bH,x],λb i=>(bR.mp i).elim (λa=>a ▸ t)<|z b⟩;have B:G.oq e [Z (.im<|V d),Z<|.aB<|cN y We,Z<|aK (h::p),Z<|.aB R]=Z (.im<|fL o h p (d,VV),[Z (.im<|V d),Z<|.aB<|cN y We,Z<|aK (h::p),Z<|.aB j]):=dh (V6:=[.aS 1,.aS 2,.aS 0,.aS 3]) rfl rfl rfl r rfl;rw[bH];show ((G.oq e [Z (.im<|V d),Z<|.aB<|cN y We,Z<|aK (h::p),Z<|.aB R]).bind λu=>match u.1 with
   |.im o=>if c.length<100000 then gn 1 (a6 0) ei (G.oq e) (bs.map V) (c++[o]) (u.2.drop 1) else X
   |_=>X)=_;rw[B];show (if c.length<100000 then gn 1 (a6 0) ei (G.oq e) (bs.map V) (c++[fL o h p (d,VV)]) [Z (.aB<|cN y We),Z<|aK (h::p),Z<|.aB j] else X)=_;rw[aH (by omega),v,bH,bV];rfl
theorem zg:∀(v:Nat) (J:List bk),aa.cx (v+3) (J.map bG)=ab
 |_,[]=>rfl
 |v,a::J=>by
  rw[bH,aa.cx,zg v J];rfl
theorem CY:∀(J M:List bk),ft 4 (J.map bG) (M.map bG)=ab
 |[],[]=>rfl
 |h::J,[]=>zg 1 (h::J)
 |[],d::M=>zg 1 (d::M)
 |h::J,d::M=>by
  rw[bH,bH,ft,CY J M];rfl
def NB{el:List bk}(c:j<A):a9 (f5 j VV) (f5 A el)=ab:=by
 show (if aa.beq (.int (j:Int)) (.int (A:Int))=ab then _ else decide ((j:Int)<(A:Int)))=ab;rw[if_neg (by rw[aa.beq_iff];intro k;injection k with k;omega)];exact bW (by omega)
def QS{V1:List (aq×List bk)}(ae:p.Nodup)(C:p.length<60)(v:p≠[])(l:V1.map (·.1)=p)(t:∀b∈V1,gx o (rm b.1 p) b.2):
  ∃VV,vi [.lst (V1.map<|fL o h p)]=Z (.im<|f5 (cB o (h::p)) VV)/\gx o (h::p) VV:=by
 have w:V1.length=p.length:=by rw[<-l,br]
 have inj:∀b∈V1,∀i∈V1,fL o h p b=fL o h p i->b.1=i.1:=λb Y i Y a=>by
  unfold fL f5 at a;injection a with a;have g:=(List.cons.inj (List.cons.inj a).2).1;injection g with g;have x:=(List.cons.inj g).1;exact (Prod.mk.inj<|x1 x).2
 have D:V1.Nodup:=by
  have:=l ▸ ae;exact (jI.mp this).imp λc a=>c (by rw[a])
 have y:(V1.map<|fL o h p).Nodup:=by
  have z:(V1.map (·.1)).Nodup:=l ▸ ae;exact jI.mpr (uK (λ{b i} d e c a=>c<|inj b d i e a)<|jI.mp z)
 have lk:∀b∈V1.map (fL o h p),∀i∈V1.map (fL o h p),ej 6 b i=ab:=λb d i e=>by
  let⟨q,Y,rfl⟩:=cL.mp d;let⟨u,Y,rfl⟩:=cL.mp e;show (ab&&(ft 4 (((h,q.1)::q.2).map bG) (((h,u.1)::u.2).map bG)&&ab))=ab;rw[CY];rfl
 have n:pb (V1.map<|fL o h p)=ab:=pf.mpr ⟨⟨by rw[br];omega,lk,y⟩,.inl λb d=>by
  let⟨q,Y,rfl⟩:=cL.mp d;rfl⟩
 have Ws:=i1 (V1.map<|fL o h p);have j:=t9 lk;have A:gO a9 (V1.map<|fL o h p)≠[]:=λk=>by
  rw[k]at Ws;have:=Ws.length_eq;rw[br,w]at this;exact v (w4.mp this.symm)
 let⟨M,d7,m⟩:=qP A;rw[m]at Ws j;let⟨b,d,WD⟩:=cL.mp (Ws.mem_iff.mp<|List.Mem.head _);have ag:b.1∈p:=by rw[<-l];exact cL.mpr ⟨b,d,rfl⟩
 have r:=gx.cons (o:=o) (h:=h) ae ag (t b d) λf s=>by
  rw[<-l]at s;let⟨i,e,rfl⟩:=cL.mp s;refine ym λk=>?_;have J:=NB (VV:=(h,i.1)::i.2) (el:=(h,b.1)::b.2) k;have B:fL o h p i∈M::d7:=Ws.mem_iff.mpr (cL.mpr ⟨i,e,rfl⟩);rcases bR.mp B with a|c
  ·rw[<-WD]at a;have:=inj i e b d a;rw[this]at k;exact iF _ k
  ·have:=(h1.mp j).1 _ c;rw[<-WD]at this;rw[show a9 (fL o h p i) (fL o h p b)=ab from J]at this;cases this
 refine⟨(h,b.1)::b.2,?_,r⟩;show (if pb (V1.map<|fL o h p)=ab then (gO a9<|V1.map<|fL o h p).head?.map ak.im else X)=_;rw[aH n,m,<-WD];show Z (ak.im<|fL o h p b)=_;unfold fL;have a:o h b.1+cB o (rm b.1 p)=cB o (h::p):=by
  rw[<-r.cost,bH,g0,(t b d).cost]
 rw[a]
theorem Fg{Y y:List aq}{We:aq->List ((Int×Int)×Int)}{o:aq->aq->Nat}(O:n4 Y y We o)(q:∀b∈y,b∈Y)(t:y.length<=16):∀(s:Nat) (S:List aq),S.Sublist y->S.Nodup->S.length%2=0->S.length<=2*s->hC o y We (iV<|s+1) S
 |s,[],_,_,_,_=>λR U=>⟨[],R,by
   show dc 3 3 [0,1,2] (ou<|iV s) _=_;unfold ou;exact eO (w:=nF [] y We [] R) rfl (ur<|pN (VQ:=nF [] y We [] R) rfl rfl) rfl,U,gx.nil o⟩
 |0,h::p,_,_,_,c=>absurd c (by rw[cn];omega)
 |s+1,h::p,f,ae,u,A=>λR U=>by
  rw[cn]at u A;have l:=f.length_le;rw[cn]at l;have n:=dD.mp ae;have B:p≠[]:=λk=>by rw[k,fy]at u;omega
  have M:=U.len;have N:2^y.length<=2^16:=Nat.pow_le_pow_right ∅ t;have P:(2:Nat)^16=65536:=by decide
  have C:∀d∈p,hC o y We (iV<|s+1) (rm d p):=λd ag=>by
   have:=Tj.wi n.2 ag;exact Fg O q t s (rm d p) (Ll f) (Tj.uq n.2) (by omega) (by omega)
  let w (R:List (List aa×aa)):aU:=nF [] y We (h::p) R
  have D:cH [aK (h::p)]=Z (aE ((h::p).length:Int)):=by
   show Z (aE (((h::p).map V).length:Int))=_;rw[br]
  have g:bO (ac ey (ai<|bF cH<|ao (aj 1) ay)<|ai<|aG<|.int 0) (w R)=Z (az,w R):=eo (du (bL<|eS (cf rfl rfl) rfl D) rfl rfl rfl ((oa _ _).trans (by rw[decide_eq_false (by rw[cn];omega)])));have i:bO (ac hx (aj 1)<|aj 2) (w R)=Z (!(cq R<|(h::p).map V).isSome,w R):=eo (du rfl rfl rfl rfl (by
   show (hn (.tup<|(h::p).map V)<|.aB R).map (λp=>ak.im<|.aJ<|!p)=_;rw[Ef,aH<|sI _];rfl))
  have ret:∀{R:List (List aa×aa)}{r:aa},cq R ((h::p).map V)=Z r->ac bg (aj 2) (aj 1) (w R)=Z (.im r,w R):=λ{R r} c=>du rfl rfl rfl rfl (by
   show (if aa.keys 7 ((h::p).map V)=ab then (cq R<|(h::p).map V).map ak.im else X)=_;rw[aH (sI _),c];rfl)
  cases j:cq R ((h::p).map V) with
  |some r=>
   rw[j]at i;let⟨E,VV,VY,a,m⟩:=U.ok _ (Pm j);have v:h::p=E:=OT (Prod.mk.inj a).1;have jg:r=f5 (cB o (h::p)) VV:=by rw[v];exact (Prod.mk.inj a).2
   refine⟨VV,R,?_,U,v ▸ m⟩;rw[<-jg];show dc 3 3 [0,1,2] (ou<|iV<|s+1) _=_;unfold ou;exact eO (w:=w R) rfl (bP (hb g rfl)<|bP (hb i rfl)<|gf<|ret j) rfl
  |none=>
   rw[j]at i;let⟨V1,e,x,z,F,H⟩:=sk O q f ae (by omega) C p [] R (λd ag=>ag) (by rw[fy];omega) U;let⟨VV,I,m⟩:=QS (h:=h) n.2 (by omega) B F H;refine⟨VV,dH e ((h::p).map V)<|f5 (cB o (h::p)) VV,?_,z.put f m,m⟩;have Q:=z.len;have J:i4 (aK (h::p)) (Z 1) X=Z (aK p):=by
    show Z (ak.im<|.tup<|eH ((h::p).map V) (Z 1) X)=_;have g:eH ((h::p).map V) (Z 1) X=((h::p).drop 1).map V:=(m9 _ _ _ _).trans (by rw[show (1:Int)=((1:Nat):Int) from rfl,tA]);rw[g];rfl
   have L:bY (ai<|ff (aj 1) (fv<|aG<|.int 1) gu) (w R)=Z ((p.map V,X),w R):=by
    unfold bY;rw[bL (qc (b:=.aS 1) rfl rfl rfl rfl J)];rfl
   have cT:cE 1 [0,1,2] (bY<|ai<|ff (aj 1) (fv<|aG<|.int 1) gu) (a6 0) ei (G.oq<|iV<|s+1) (w R)=Z (.lst<|V1.map<|fL o h p,w e):=ho L (by rw[nh]at x;exact x) rfl;have pt:hM (.aB e) (aK (h::p)) (.im<|f5 (cB o (h::p)) VV)=Z (.aB<|dH e ((h::p).map V)<|f5 (cB o (h::p)) VV):=aH ⟨sI _,by omega⟩;show dc 3 3 [0,1,2] (ou<|iV<|s+1) _=_;unfold ou;refine eO (w:=w (dH e ((h::p).map V)<|f5 (cB o (h::p)) VV)) rfl (bP (hb g rfl)<|bP (pN i<|ox (k8 (dm (df cT) rfl) rfl I) ?_)<|gf<|ret<|N2 _ _ _) rfl;exact vt rfl rfl rfl rfl pt rfl
def TU(f:aq):(cq (bx T z)<|bJ f).getD .aP=if f∈T then .int (z f) else .aP:=by
 by_cases c:f∈T
 ·rw[sh c,aH c];rfl
 ·rw[if_neg c];have:cq (bx T z) (bJ f)=X:=by
   have a:(cq (bx T z)<|bJ f).isSome=az:=by rw[vN,wt,decide_eq_false c]
   cases k:cq (bx T z) (bJ f) with
   |none=>rfl
   |some r=>rw[k]at a;cases a
  rw[this];rfl
def L4(d:Bool)(j A:Int):ey (.im<|if d=ab then .int j else .aP) (aE A)=Z (.im<|.aJ<|d&&decide (j=A)):=by
 cases d with
 |true=>exact oa j A
 |false=>rfl
structure EU(Y:List aq)(h d:aq)(z:aq->Int)(E:aq)(L:List bk):Prop where
 c:E∈Y
 len:(L.length:Int)+z E=z d
 sub:∀a∈L,a∈cA Y
 odd:∀b,cS L b%2=b5 b [E,d]%2
abbrev hJ(T:List aq)(z:aq->Int)(E:aq)(L:List bk)(B:Option ak):aU:=[Z (.di<|bx T z),Z<|.im<|V E,Z<|cb L,B]
def U8{c:aq}(L:List bk)(b:aq):cS (L++[dS f c]) b=cS L b+((if f=b then 1 else 0)+if c=b then 1 else 0):=by
 rw[yi];congr 1;have Wz:cS [dS f c] b=((if (dS f c).1=b then 1 else 0)+if (dS f c).2=b then 1 else 0)+0:=rfl;rw[Wz,vx];by_cases l:cW f c=ab
 ·rw[s6 l]
 ·by_cases t:cW c f=ab
  ·rw[ug t,uJ]
  ·have a:=yU l t;have d:dS f c=(f,c):=by
    unfold dS;rw[if_neg (show ¬ a9 (V c) (V f)=ab from t),if_neg<|show ¬ a9 (V f) (V c)=ab from l,a]
   rw[d]
def Uj(Wf:eX Y h T z [])(all:∀f∈Y,f∈T)(ag:d∈Y)(F:Y.length<=1000)(H:z d<=1000):
  ∃L,pl [.di (bx T z),.im<|V d]=Z (cb L,[.di (bx T z),.im<|V d])/\(∀a∈L,a∈cA Y)/\(∀b,cS L b%2=b5 b [h,d]%2)/\(L.length:Int)=z d:=by
 let⟨Wb,cv,E,L,B,rfl,V1,WW⟩:=p_ (f:=Am) (d:=w9)
  (λM w=>∃E L B,w=hJ T z E L B/\EU Y h d z E L/\(z E).toNat<=M)
  (λw=>∃E L B,w=hJ T z E L B/\EU Y h d z E L/\z E=0)
  (λM w dG=>by
   let⟨E,L,B,rfl,V1,I⟩:=dG;have g:=all E V1.c;have V3:=Wf.pos E g;have Wo:Am (hJ T z E L B)=Z (decide (z E>0),hJ T z E L B):=eo (du (bL<|fc<|tZ g) rfl rfl rfl rfl);by_cases c:z E>0
   ·rw[bW c]at Wo;let V0:aq->Bool:=λb=>decide (b∈T)&&decide (z b=z E-1)
    have cT:cE 1 [0,1] (bY<|ai<|aZ 1 G.kc<|ao (aj 1) ay) (a6 0) G.Bt G.Fd (hJ T z E L B)=Z (aW<|(bw E).filter V0,hJ T z E L B):=by
     have q:aZ 1 G.kc (ao (aj 1) ay) (hJ T z E L B)=Z (aW<|bw E,hJ T z E L B):=dh (V6:=[.aS 1]) rfl rfl rfl (Gx E) rfl;have r:bY (ai<|aZ 1 G.kc<|ao (aj 1) ay) (hJ T z E L B)=Z (((bw E).map V,X),hJ T z E L B):=by
      unfold bY;rw[df q];rfl
     refine ho (x:=(bw E).map V) (n:=X) r (iw V V0 V _ [] (λb W=>?_) (by rw[pP];decide)) rfl;refine⟨[Z (.im<|V b),Z<|.di<|bx T z,Z<|.im<|V E],[Z (.im<|V b),Z<|.di<|bx T z,Z<|.im<|V E],rfl,?_,λ_=>rfl,λ_=>⟨[Z (.im<|V b),Z<|.di<|bx T z,Z<|.im<|V E],rfl,rfl⟩⟩;have u:th 1 (c8 0) [Z (.im<|V b),Z<|.di<|bx T z,Z<|.im<|V E]=Z (.im<|if decide (b∈T)=ab then .int (z b) else .aP,[Z (.im<|V b),Z<|.di<|bx T z,Z<|.im<|V E]):=by
      show (if aa.keys 7 (bJ b)=ab then Z (ak.im<|(cq (bx T z)<|bJ b).getD .aP,_) else X)=_;rw[aH (l5 b),TU];by_cases k:b∈T
      ·rw[aH k,aH<|bW k]
      ·rw[if_neg k,if_neg (by rw[decide_eq_false k];exact dw)]
     exact eo (du (bL u) (bL<|du (bL<|fc<|tZ g) rfl rfl rfl rfl) rfl rfl<|L4 (decide (b∈T)) (z b)<|z E-1)
    have ne:(bw E).filter V0≠[]:=λk=>by
     rcases Wf.back E g with a|⟨o,hd,l,t⟩
     ·rw[a,Wf.f0]at c;exact absurd c ∅
     ·have:o∈(bw E).filter V0:=fE.mpr ⟨lu l,by show (decide (o∈T)&&decide (z o=z E-1))=ab;rw[bW hd,bW (by omega)];rfl⟩;rw[k]at this;cases this
    let⟨e,d7,j⟩:=qP ne;let⟨v,m⟩:=fE.mp (show e∈(bw E).filter V0 by rw[j];exact .head _);rw[cI,fu,fu]at m;have p:=Wf.sub e m.1;have y:bg (aW<|(bw E).filter V0) (aE 0)=Z (.im<|V e):=by
     rw[j];exact rz (s:=0) rfl
    refine⟨ab,_,Wo,λ_=>⟨.a8,hJ T z e (L++[dS E e])<|Z<|.im<|V e,?_,.inl rfl,M-1,by omega,e,L++[dS E e],Z<|.im<|V e,rfl,⟨p,?_,λa i=>?_,λb=>?_⟩,by omega⟩,(λk=>by cases k)⟩
    ·unfold w9;have A:fm (cb L) [.im (bG<|dS E e)]=Z (.im .aP,cb<|L++[dS E e]):=by
      have C:L.length<100000:=by have:=V1.len;omega
      have:fm (cb L) [.im (bG<|dS E e)]=Z (.im .aP,.lst<|L.map bG++[bG (dS E e)]):=Ad (by rw[br];exact C);rw[this];unfold cb;rw[iM];rfl
     exact bP (VQ:=hJ T z E L (Z<|.im<|V e)) (ik (du (bL cT) rfl rfl rfl y) (dX rfl) rfl) (bP (VQ:=hJ T z E (L++[dS E e]) (Z<|.im<|V e)) (jk<|kW rfl rfl (dm (df<|dh (V6:=[.aS 1,.aS 3]) rfl rfl rfl (Oi E e) rfl) rfl) rfl rfl A rfl) rfl)
    ·have:=V1.len;rw[cZ,fP];omega
    ·rcases d8.mp i with k|k
     ·exact V1.sub a k
     ·rw[cR.mp k];exact Jb V1.c p v
    ·have n:=V1.odd b;rw[U8];rw[f6,f6]at n ⊢;omega
   ·rw[decide_eq_false c]at Wo;exact⟨az,_,Wo,(λk=>by cases k),λ_=>⟨E,L,B,rfl,V1,by omega⟩⟩) 1000000 1001 (hJ T z d [] X) ⟨d,[],X,rfl,⟨ag,by rw[fy];omega,(λa i=>by cases i),λb=>by
    rw[f6,f6];have:b5 b ([]:List aq)=0:=rfl;have:cS [] b=0:=rfl;omega⟩,by omega⟩ ∅
 have D:E=h:=by
  rcases Wf.back E (all E V1.c) with a|⟨o,hd,_,t⟩
  ·exact a
  ·have:=Wf.pos o hd;omega
 refine⟨L,?_,V1.sub,λb=>by rw[<-D];exact V1.odd b,by have:=V1.len;omega⟩;unfold pl BB;exact eO (w:=[Z (.di<|bx T z),Z<|.im<|V E,Z .c2,B]) rfl (bP (VQ:=hJ T z d [] X) (gg (kS rfl rfl (fg rfl) rfl) (dX rfl) rfl)<|bP cv rfl) rfl
def TZ(ae:Y.Nodup)(l:Y.length<=1000)(h d:aq):rx [aK Y,.im<|V h,.im<|V d]=Z (aK<|dg Y h d,[aK Y,.im<|V h,.im<|V d]):=by
 have cT:cE 1 [3,1,2] (bY<|aj 0) (a6 0) G.y8 G.Ii [Z (aK Y),Z<|.im<|V h,Z<|.im<|V d,Z<|.aB<|aQ Y]=Z (aW<|dg Y h d,[Z (aK Y),Z<|.im<|V h,Z<|.im<|V d,Z<|.aB<|aQ Y]):=by
  refine ho (x:=Y.map V) (n:=X) (VQ:=[Z (aK Y),Z<|.im<|V h,Z<|.im<|V d,Z<|.aB<|aQ Y]) rfl (iw V (λf=>decide (((cV Y f).length+b5 f [h,d])%2=1)) V _ [] (λf W=>?_) (by rw[fy];omega)) rfl;refine⟨[Z (.im<|V f),Z<|.aB<|aQ Y,Z<|.im<|V h,Z<|.im<|V d],[Z (.im<|V f),Z<|.aB<|aQ Y,Z<|.im<|V h,Z<|.im<|V d],rfl,?_,λ_=>rfl,λ_=>⟨[Z (.im<|V f),Z<|.aB<|aQ Y,Z<|.im<|V h,Z<|.im<|V d],rfl,rfl⟩⟩;have a:cH [aK (cV Y f)]=Z (aE ((cV Y f).length:Int)):=by
   show Z (aE (((cV Y f).map V).length:Int))=_;rw[br]
  have c:eJ (aE<|((cV Y f).length:Int)+(b5 f [h,d]:Nat)) (aE 2)=Z (aE<|(((cV Y f).length:Int)+(b5 f [h,d]:Nat))%2):=uD ∅;let w:aU:=[Z (.im<|V f),Z<|.aB<|aQ Y,Z<|.im<|V h,Z<|.im<|V d]
  have e:aZ 2 G.jG (ao (aj 1)<|ao (aj 0) ay) w=Z (aK<|cV Y f,w):=dh (V6:=[.aS 1,.aS 0]) rfl rfl rfl (Em Y f) rfl;have g:bF cH (ao (ai<|aZ 2 G.jG<|ao (aj 1)<|ao (aj 0) ay) ay) w=Z (aE ((cV Y f).length:Int),w):=eS (cf (bL e) rfl) rfl a;have i:ac nL (ai<|cY<|ao (aj 2)<|ao (aj 3) ay) (aj 0) w=Z (aE ((b5 f [h,d]:Nat):Int),w):=du (bL<|jF (cf (b:=.aS 2) (x:=[.aS 3]) rfl<|cf (b:=.aS 3) (x:=[]) rfl rfl) (E:=[.im (V h),.im<|V d]) rfl (fg rfl) rfl) rfl rfl rfl (Nb h d f);generalize b5 f [h,d]=v at *;have j:ac eJ (ai<|ac dd (ai<|bF cH<|ao (ai<|aZ 2 G.jG<|ao (aj 1)<|ao (aj 0) ay) ay)<|ai<|ac nL (ai<|cY<|ao (aj 2)<|ao (aj 3) ay)<|aj 0) (ai<|aG<|.int 2) w=Z (aE<|(((cV Y f).length:Int)+(v:Int))%2,w):=du (bL<|du (bL g) (bL i) rfl rfl rfl) rfl rfl rfl c;have k:y8 w=Z (decide ((((cV Y f).length:Int)+(v:Int))%2=1),w):=eo (du (bL j) rfl rfl rfl<|oa _ _);rw[show decide (((cV Y f).length+v)%2=1)=decide ((((cV Y f).length:Int)+(v:Int))%2=1) from ix.mpr (by omega)];exact k
 unfold rx Gy;refine eO (w:=[Z (aK Y),Z<|.im<|V h,Z<|.im<|V d,Z<|.aB<|aQ Y]) rfl ?_ rfl;exact bP (VQ:=[Z (aK Y),Z<|.im<|V h,Z<|.im<|V d,Z<|.aB<|aQ Y]) (gg (dh (V6:=[.aS 0]) rfl rfl rfl (Az ae (by omega)) rfl) (dX rfl) rfl) (gf<|eS (cf (bL cT) rfl) rfl rfl)
def NG(ae:Y.Nodup)(a:Y.length<=1000)(h d:aq)(c:(dg Y h d).length<=14):qh [aK Y,.im<|V h,.im<|V d]=Z (aK<|dg Y h d,[aK Y,.im<|V h,.im<|V d]):=by
 have b:bI 3 (aZ 3 G.rx<|ao (aj 0)<|ao (aj 1)<|ao (aj 2) ay) [Z (aK Y),Z<|.im<|V h,Z<|.im<|V d,X]=Z (.a8,[Z (aK Y),Z<|.im<|V h,Z<|.im<|V d,Z<|aK<|dg Y h d]):=gg (dh (V6:=[.aS 0,.aS 1,.aS 2]) rfl rfl rfl (TZ ae a h d) rfl) (dX rfl) rfl;have e:cH [aK (dg Y h d)]=Z (aE ((dg Y h d).length:Int)):=by
  show Z (aE (((dg Y h d).map V).length:Int))=_;rw[br]
 have N:lK (aE ((dg Y h d).length:Int)) (aE 14)=Z (.im<|.aJ az):=congrArg (λd=>Z<|ak.im<|.aJ d) (decide_eq_false (by omega));unfold qh DE;exact eO (w:=[Z (aK Y),Z<|.im<|V h,Z<|.im<|V d,Z<|aK<|dg Y h d]) rfl (bP b<|bP (hb (eo<|du (bL<|eS (cf rfl rfl) rfl e) rfl rfl rfl N) rfl) rfl) rfl
theorem q4{V7:Type}[DecidableEq V7]:∀{T Y:List V7},T.Nodup->(∀f∈T,f∈Y)->T.length<=Y.length
 |[],_,_,_=>fW _
 |h::T,Y,ae,c=>by
  have ae:=dD.mp ae;have av:=c h (.head _);have d:=q4 (T:=T) (Y:=Y.erase h) ae.2 λf b=>(Cu λa:f=h=>ae.1<|a ▸ b).mpr (c f<|.tail _ b);rw[uO av]at d;have:=tW av;rw[cn];omega
def U2(l:Y.length<=200)(Wf:eX Y h T z [])(all:∀f∈Y,f∈T){i:aq}(c:i∈Y):z i<=200:=by
 have V_:∀(v:Nat) (i:aq),i∈T->z i=v->∃J:List aq,J.Nodup/\(∀f∈J,f∈T/\z f<v)/\J.length=v:=λv=>by
  induction v with
  |zero=>exact λi W W=>⟨[],ht,(λf b=>by cases b),rfl⟩
  |succ v j=>
   intro i c a;rcases Wf.back i c with k|⟨o,hd,_,t⟩
   ·rw[k,Wf.f0]at a;omega
   ·let⟨J,e,d,g⟩:=j o hd (by omega);refine⟨o::J,dD.mpr ⟨λk=>by have:=(d o k).2;omega,e⟩,λf b=>?_,by rw[cn,g]⟩;rcases bR.mp b with rfl|b
    ·exact⟨hd,by omega⟩
    ·have:=d f b;exact⟨this.1,by omega⟩
 have V3:=Wf.pos i (all i c);let⟨J,e,d,g⟩:=V_ (z i).toNat i (all i c) (by omega);have:=zJ e λf b=>Wf.sub f (d f b).1;omega
structure IG(Y y:List aq)(We:aq->List ((Int×Int)×Int))(o:aq->aq->Nat)(r:bk->List bk):Prop where
 f:∀q:bk,q.1∈y->q.2∈y->∃T f,We q.1=js T f/\pl [.di (bx T f),.im<|V q.2]=Z (cb<|r q,[.di (bx T f),.im<|V q.2])
 sub:∀q:bk,q.1∈y->q.2∈y->∀a∈r q,a∈cA Y
 odd:∀q:bk,q.1∈y->q.2∈y->∀b,cS (r q) b%2=b5 b [q.1,q.2]%2
 len:∀q:bk,q.1∈y->q.2∈y->(r q).length=o q.1 q.2
def Ur(O:n4 Y y We o)(e:∀b∈y,b∈Y)(p:Y.length<=200)(hd:∀h∈y,∀d∈Y,o h d<=1000):∃r,IG Y y We o r:=by
 classical
 have c:∀q:bk,∃L:List bk,q.1∈y->q.2∈y->(∃T z,We q.1=js T z/\pl [.di (bx T z),.im<|V q.2]=Z (cb L,[.di (bx T z),.im<|V q.2]))/\(∀a∈L,a∈cA Y)/\(∀b,cS L b%2=b5 b [q.1,q.2]%2)/\L.length=o q.1 q.2:=λq=>by
  by_cases l:q.1∈y
  ·by_cases t:q.2∈y
   ·let⟨T,z,f,Wf,g,i⟩:=O.t q.1 l;have dl:=hd q.1 l q.2 (e _ t);have P:=i _ (e _ t);let⟨L,j,m,n,s⟩:=Uj Wf g (e _ t) (by omega) (by omega);exact⟨L,λ_ W=>⟨⟨T,z,f,j⟩,m,n,by omega⟩⟩
   ·exact⟨[],λ_ k=>absurd k t⟩
  ·exact⟨[],λk=>absurd k l⟩
 exact⟨λq=>(c q).choose,λq h d=>((c q).choose_spec h d).1,λq h d=>((c q).choose_spec h d).2.1,λq h d=>((c q).choose_spec h d).2.2.1,λq h d=>((c q).choose_spec h d).2.2.2⟩
theorem Bq{Y y:List aq}{We:aq->List ((Int×Int)×Int)}{o:aq->aq->Nat}{r:bk->List bk}{F Wd Wu B:Option ak}(W:IG Y y We o r)(hd:∀h∈y,∀d∈y,o h d<=1000):
  ∀(VV:List bk) (a:List bk) (e D:Option ak),(∀q∈VV,q.1∈y/\q.2∈y)->a.length+1000*VV.length<=50000->
   ∃(b g:Option ak),dp (i3 2<|eP (a6 6)<|eP (a6 7) h_) AH (VV.map bG) [F,Wd,Wu,B,Z<|.aB<|cN y We,Z<|cb a,e,D]=Z (.a8,[F,Wd,Wu,B,Z<|.aB<|cN y We,Z<|cb<|a++VV.flatMap r,b,g])
 |[],a,e,D,_,_=>⟨e,D,by rw[List.flatMap_nil,b4];rfl⟩
 |q::VV,a,e,D,c,j=>by
  rw[cn]at j;let⟨l,t⟩:=c q (.head _);let⟨T,z,k,m⟩:=W.f q l t;have s:=W.len q l t;have dl:=hd q.1 l q.2 t;let⟨b,g,i⟩:=Bq (F:=F) (Wd:=Wd) (Wu:=Wu) (B:=B) W hd VV (a++r q) (Z<|.im<|V q.1) (Z<|.im<|V q.2) (λu n=>c u<|.tail _ n) (by rw[cZ];omega);rw[bV]at i;refine⟨b,g,?_⟩;rw[bH,oM];let w:aU:=[F,Wd,Wu,B,Z<|.aB<|cN y We,Z<|cb a,Z<|.im<|V q.1,Z<|.im<|V q.2]
  refine iR (VQ:=w) (Wi:=[F,Wd,Wu,B,Z<|.aB<|cN y We,Z<|cb<|a++r q,Z<|.im<|V q.1,Z<|.im<|V q.2]) rfl ?_ i;have p:mN (ac bg (aj 4)<|aj 6) w=Z (.di<|bx T z,w):=wD (by rw[<-k];exact fX rfl rfl rfl rfl (w0 l));unfold AH;exact jk (kW rfl rfl (dm (df<|dh (V6:=[.b3 (.di<|bx T z),.aS 7]) (dm (df p)<|dm rfl rfl) rfl rfl m rfl) rfl) rfl rfl (wd (by omega)) rfl)
def Q4(f:Nat)(VV:List bk):bg (.im<|f5 f VV) (aE 1)=Z (gT VV):=rfl
def OQ(ae:Y.Nodup)(D:∀h∈Y,∀d∈Y,dT Y h d)(s:Y.length<=36){h d:aq}(av:h∈Y)(ag:d∈Y)(be:(dg Y h d).length<=14):
  ∃(V1:List bk) (o:aq->aq->Nat),oK [aK Y,.im<|V h,.im<|V d]=Z (gT V1,[aK Y,.im<|V h,.im<|V d])/\y_ Y (dg Y h d) V1 (cB o<|dg Y h d)/\(∀b∈dg Y h d,mK Y b<|o b):=by
 generalize k:dg Y h d=y at *;have v:y.Nodup:=k ▸ JI ae h d;have m:∀b∈y,b∈Y:=λb e=>DJ (k ▸ e);have jg:y.length%2=0:=k ▸ B1 ae av ag;let⟨We,o,O,VO,I⟩:=F_ m D (VO:=λb T z=>mA [.aB (aQ Y),.im<|V b]=Z (.aB<|bx T z,[.aB (aQ Y),.im<|V b])) λb e=>SW (m b e) (by omega);have dl:∀b∈y,∀i∈Y,o b i<=1000:=λb e i u=>by
  let⟨T,z,K,Wf,J,L⟩:=O.t b e;have:=U2 Wf J u (l:=dN s ∅);have:=L i u;omega
 let⟨r,W⟩:=Ur O m (dN s ∅) dl;have M:=Kd (Y:=Y) (We:=We) v (by omega) VO;let⟨VV,bi,N,K,A⟩:=Fg O m (by omega) 7 y (List.Sublist.refl _) v jg (by omega) [] ⟨(λbm P=>by cases P),ht⟩;have g:=A.in;have bQ:=A.len;have j:=MQ (r:=r) ae v I A (λq c=>W.sub q (g q c).1 (g q c).2) (λq c=>W.odd q (g q c).1 (g q c).2) λq c=>W.len q (g q c).1 (g q c).2;let⟨V1,Ws,Q⟩:=wb (VV.flatMap r);have R:(VV.flatMap r).length<=63:=by
  have l:=q4 j.ae j.sub;have t:=zK (λf=>(rE Y f).symm) ae s;omega
 refine⟨V1,o,?_,⟨Ws.nodup_iff.mpr j.ae,λa S=>j.sub a<|Ws.mem_iff.mp S,λb=>by rw[z6 Ws];exact j.odd b,Ws.length_eq.trans j.len⟩,O.ds⟩;let⟨U,al,cv⟩:=Bq (F:=Z (aK Y)) (Wd:=Z (.im<|V h)) (Wu:=Z (.im<|V d)) (B:=Z (aK y)) W (λb e i u=>dl b e i<|m i u) VV [] X X g (by rw[fy];omega);rw[nh]at cv;let am:aU:=[Z (aK Y),Z<|.im<|V h,Z<|.im<|V d,X,X,X,X,X]
 let WS:aU:=[Z (aK Y),Z<|.im<|V h,Z<|.im<|V d,Z<|aK y,X,X,X,X]
 let an:aU:=[Z (aK Y),Z<|.im<|V h,Z<|.im<|V d,Z<|aK y,Z<|.aB<|cN y We,X,X,X]
 let p:aU:=[Z (aK Y),Z<|.im<|V h,Z<|.im<|V d,Z<|aK y,Z<|.aB<|cN y We,Z<|cb [],X,X]
 have C:=NG ae (by omega) h d (by rw[k];omega);rw[k]at C;have ap:bI 3 (aZ 3 G.qh<|ao (aj 0)<|ao (aj 1)<|ao (aj 2) ay) am=Z (.a8,WS):=gg (dh (V6:=[.aS 0,.aS 1,.aS 2]) rfl rfl rfl C rfl) (dX rfl) rfl;have lk:aZ 1 G.mw (ao (aj 0) ay) WS=Z (.aB<|aQ Y,WS):=dh (V6:=[.aS 0]) rfl rfl rfl (Az ae (by omega)) rfl;have as:bI 4 (aZ 2 G.r1<|ao (ai<|aZ 1 G.mw<|ao (aj 0) ay)<|ao (aj 3) ay) WS=Z (.a8,an):=gg (dh (V6:=[.b3 (.aB<|aQ Y),.aS 3]) (dm (df lk)<|dm rfl rfl) rfl rfl M rfl) (dX rfl) rfl;have a1:aZ 3 (G.iV 8) (ao (aj 4)<|ao (aj 3)<|ao (ai mW) ay) p=Z (.im<|f5 (cB o y) VV,p):=dh (V6:=[.aS 4,.aS 3,.b3<|.aB []]) rfl rfl rfl N rfl;have a2:bY (ai<|ac bg (ai<|aZ 3 (G.iV 8)<|ao (aj 4)<|ao (aj 3)<|ao (ai mW) ay)<|ai<|aG<|.int 1) p=Z ((VV.map bG,X),p):=by
  unfold bY;rw[df (fX (df a1) rfl rfl rfl<|Q4 _ _)];rfl
 have bd:jQ [cb (VV.flatMap r)]=Z (cb V1):=(IQ j.ae R).trans (by rw[Q]);unfold oK Hi;refine eO (w:=[Z (aK Y),Z<|.im<|V h,Z<|.im<|V d,Z<|aK y,Z<|.aB<|cN y We,Z<|cb<|VV.flatMap r,U,al]) rfl ?_ rfl;exact bP ap (bP as<|bP (VQ:=p) (gg (kS rfl rfl (fg rfl) rfl) (dX rfl) rfl)<|bP (gZ (n:=X) (x:=VV.map bG) a2 cv rfl)<|gf<|k8 (dm (df<|k8 (dm rfl rfl) rfl bd) rfl) rfl rfl)
theorem DR:∀{V1:List (c9×Int)}{a:c9}{q:c9×Int},(V1.map (·.1)).Nodup->q∈bump V1 a->(q.1≠a/\q∈V1)\/(q.1=a/\((∃v,(a,v)∈V1/\q.2=v+1)\/(a∉V1.map (·.1)/\q.2=1)))
 |[],a,q,_,c=>by
  rw[cR.mp (show q∈[(a,(1:Int))] from c)];exact .inr ⟨rfl,.inr ⟨lE,rfl⟩⟩
 | (z,v)::p,a,q,ae,c=>by
  have ae:=dD.mp (show (z::p.map (·.1)).Nodup from ae);unfold bump at c;by_cases k:z=a
  ·rw[aH k]at c;rcases bR.mp c with rfl|c
   ·exact .inr ⟨k,.inl ⟨v,by rw[<-k];exact .head _,rfl⟩⟩
   ·exact .inl ⟨λi=>ae.1<|cL.mpr ⟨q,c,i.trans k.symm⟩,.tail _ c⟩
  ·rw[if_neg k]at c;rcases bR.mp c with rfl|c
   ·exact .inl ⟨k,.head _⟩
   ·rcases DR ae.2 c with ⟨h,d⟩|⟨h,⟨M,d,f⟩|⟨d,f⟩⟩
    ·exact .inl ⟨h,.tail _ d⟩
    ·exact .inr ⟨h,.inl ⟨M,.tail _ d,f⟩⟩
    ·exact .inr ⟨h,.inr ⟨λi=>(bR.mp (show a∈z::p.map (·.1) from i)).elim (λC=>k C.symm) d,f⟩⟩
theorem Jz:∀(V1:List (c9×Int)) (a b:c9),b∈(bump V1 a).map (·.1)↔b∈V1.map (·.1)\/b=a
 |[],a,b=>by show b∈[a]↔_;simp
 | (z,v)::p,a,b=>by
  unfold bump;by_cases k:z=a
  ·rw[aH k];show b∈z::p.map (·.1)↔b∈z::p.map (·.1)\/b=a;exact⟨.inl,λC=>C.elim id λC=>by rw[C,<-k];exact .head _⟩
  ·rw[if_neg k];show b∈z::(bump p a).map (·.1)↔b∈z::p.map (·.1)\/b=a;rw[bR,bR,Jz p a b,or_assoc]
structure oY(V1:List (c9×Int))(M:List c9):Prop where
 ae:(V1.map (·.1)).Nodup
 n:∀q∈V1,q.2=(b5 q.1 M:Nat)
 k:∀a,a∈V1.map (·.1)↔a∈M
def oY.bump{V1:List (c9×Int)}{M:List c9}(aN:oY V1 M)(a:c9):oY (bump V1 a) (M++[a]):=by
 refine⟨zx aN.ae,λq c=>?_,λb=>?_⟩
 ·rw[oj];have one:b5 q.1 [a]=if a=q.1 then 1 else 0:=f6 _ _ _
  rcases DR aN.ae c with ⟨h,d⟩|⟨h,⟨v,d,f⟩|⟨d,f⟩⟩
  ·rw[one,if_neg<|dY h,aN.n q d];omega
  ·have:=aN.n _ d;rw[one,aH h.symm,f,h];have H:v=(b5 a M:Nat):=this;omega
  ·rw[one,aH h.symm,f,h,ji λk=>d<|(aN.k a).mpr k];rfl
 ·rw[Jz,aN.k,d8,cR]
theorem CU:∀(VV:List c9) (V1:List (c9×Int)) (M:List c9),oY V1 M->oY (cnt V1 VV) (M++VV.map λq=>dS q.1 q.2)
 |[],V1,M,aN=>by rw[Fv,b4];exact aN
 |q::VV,V1,M,aN=>by
  have:=CU VV _ _ (aN.bump<|dS q.1 q.2);rw[bV]at this;exact this
def MY(VV:List c9):oY (cnt [] VV) (VV.map λq=>dS q.1 q.2):=by
 have:=CU VV [] [] ⟨ht,(λq b=>by cases b),λa=>Iff.rfl⟩
 rwa [nh]at this
section
variable{Y:List aq}{h d:aq}{V1:List bk}
abbrev gi(Y:List aq)(V1:List bk):List bk:=cA Y++V1
abbrev ja(Y:List aq)(V1:List bk)(b i:aq):Nat:=b5 i (iB (gi Y V1) b)
structure gj(Y:List aq)(h d:aq)(V1:List bk):Prop where
 ae:Y.Nodup
 av:h∈Y
 ag:d∈Y
 con:∀b∈Y,∀i∈Y,dT Y b i
 g:y_ Y (dg Y h d) V1 V1.length
def gj.e(b i:aq):ja Y V1 b i=b5 (b,i) (gi Y V1)+b5 (i,b) (gi Y V1):=F6 _ b i
theorem gj.sub(O:gj Y h d V1){a:bk}(c:a∈gi Y V1):a∈cA Y:=(d8.mp c).elim id (O.g.sub a)
def gj.u3(O:gj Y h d V1){b i:aq}(c:1<=ja Y V1 b i):b∈Y/\i∈Y/\i∈bw b:=by
 rw[gj.e]at c;by_cases l:1<=b5 (b,i) (gi Y V1)
 ·let⟨h,d,f,W⟩:=eW.mp (O.sub<|AS l);exact⟨h,d,f⟩
 ·let⟨h,d,f,W⟩:=eW.mp (O.sub (AS (show 1<=b5 (i,b) (gi Y V1) by omega)));exact⟨d,h,lu f⟩
def gj.at(O:gj Y h d V1){a:bk}(c:a∈cA Y):ja Y V1 a.1 a.2=1+b5 a V1:=by
 let⟨l,t,j,f⟩:=eW.mp c;have b:(a.2,a.1)∉cA Y:=λk=>by
  have:=(hk _ _).mp (eW.mp k).2.2.2;have:=(hk _ _).mp f;dsimp only at *;omega
 have i:b5 (a.2,a.1) V1=0:=ji λk=>b (O.g.sub _ k);rw[gj.e,oj,oj,ji b,i,lS (jU O.ae) c];show 1+b5 a V1+(0+0)=1+b5 a V1;omega
def gj.ad(O:gj Y h d V1){b i:aq}(f:b∈Y)(g:i∈Y)(c:i∈bw b):1<=ja Y V1 b i:=by
 cases J:cW b i with
 |true=>rw[O.at (a:=(b,i)) (eW.mpr ⟨f,g,c,J⟩)];omega
 |false=>
  have d:=rT.mp c;have j:cW i b=ab:=by
   rw[hk];have:¬ cW b i=ab:=by rw[J];exact dw
   rw[hk]at this;omega
  have:=O.at (a:=(i,b)) (eW.mpr ⟨g,f,lu c,j⟩);rw[gj.e]at this ⊢;dsimp only at this;omega
def gj.aR(O:gj Y h d V1):d2.gL (ja Y V1) (iB<|gi Y V1) [] h [] h d d:=by
 have j:∀b,b∉Y->cS (gi Y V1) b=0:=λb f=>N3 (b:=b) λa o=>by
  let⟨l,t,U⟩:=eW.mp (O.sub o);exact⟨λk=>f<|k ▸ l,λk=>f<|k ▸ t⟩
 have c:=d2.gL.Pd (W:=iB (gi Y V1)) (m:=h) (k:=d) (λb i=>by rw[jO,jO];show ja Y V1 b i=ja Y V1 i b;rw[gj.e,gj.e];omega) (λb f=>by
  have l:=@mQ aq instBEqOfDecidableEq _ b (iB (gi Y V1) b);rw[jO]at l;have t:1<=ja Y V1 b b:=l.mpr f;exact ob (O.u3 t).2.2 rfl) (λb=>by
  rw[we];by_cases f:b∈Y
  ·rw[yi,xH O.ae f];have n:=O.g.odd b;have H:b∈dg Y h d↔((cV Y b).length+b5 b [h,d])%2=1:=by
    unfold dg;rw[fE,fu];exact⟨λk=>k.2,λk=>⟨f,k⟩⟩
   rw[H,f6,f6]at n;have p:b5 b ([]:List aq)=0:=rfl;by_cases l:h=b<;>by_cases t:d=b
   ·rw[aH l,aH t]at n;have:b=d↔b=h:=⟨λ_=>l.symm,λ_=>t.symm⟩;exact⟨λk=>by omega,λk=>absurd this k⟩
   ·rw[aH l,if_neg t]at n;have:¬ (b=d↔b=h):=λk=>t (k.mpr l.symm).symm;exact⟨λ_=>this,λ_=>by omega⟩
   ·rw[if_neg l,aH t]at n;have:¬ (b=d↔b=h):=λk=>l (k.mp t.symm).symm;exact⟨λ_=>this,λ_=>by omega⟩
   ·rw[if_neg l,if_neg t]at n;have:b=d↔b=h:=⟨λk=>absurd k.symm t,λk=>absurd k.symm l⟩;exact⟨λk=>by omega,λk=>absurd this k⟩
  ·rw[j b f];have:b=d↔b=h:=⟨λk=>absurd (k ▸ O.ag) f,λk=>absurd (k ▸ O.av) f⟩;exact⟨λk=>by omega,λk=>absurd this k⟩)
 have a:(λb i=>@List.count aq instBEqOfDecidableEq i<|iB (gi Y V1) b)=ja Y V1:=funext λb=>funext λi=>jO _ _;rw[a]at c;exact c
def gj.reach(O:gj Y h d V1)(b i:aq)(c:1<=ja Y V1 b i):d2.oi (ja Y V1) h b:=by
 have u:=O.con h O.av b (O.u3 c).1;clear c;induction u with
 |self=>exact .self
 |step q l t a=>exact .step a (O.ad (dT.zt O.av q) l t)
structure iy(Y:List aq)(h d:aq)(V1:List bk)(C:List aq):Prop where
 al:gj Y h d V1
 hd:C.head?=Z h
 g5:C.getLast?=Z d
 e:∀b i,ja Y V1 b i=d2.ce C b i
variable{C:List aq}
def iy.z7(V2:iy Y h d V1 C){I r:List aq}{b i:aq}(c:C=I++[b,i]++r):b∈Y/\i∈Y/\i∈bw b:=V2.al.u3 (by
 rw[V2.e,c];refine dN ?_ (d2.L0 b i I [b,i] r);show 1<=d2.pr b i b i+0;rw[d2.NH];exact bB 1)
def iy.cons(V2:iy Y h d V1 C):∃H,C=h::H:=by
 have:=V2.hd;cases C with
 |nil=>cases this
 |cons f H=>exact⟨H,by rw[show f=h by simpa using this]⟩
def iy.zb(V2:iy Y h d V1 C):∀f∈C,f∈Y:=λf b=>by
 let⟨H,rfl⟩:=V2.cons;rcases bR.mp b with rfl|c
 ·exact V2.al.av
 ·let⟨I,o,r,a⟩:=Kg (n:=h) c;exact (V2.z7 a).2.1
def iy.ml(V2:iy Y h d V1 C):ml C=ab:=ER λI r b i a=>(V2.z7 a).2.2
def iy.pm(V2:iy Y h d V1 C):((gM C).map wk).Perm (gi Y V1):=EZ λa=>by
 by_cases c:a∈cA Y
 ·rw[Fx (eW.mp c).2.2.2,<-V2.e,V2.al.at c,oj,lS (jU V2.al.ae) c]
 ·rw[ji λk=>c<|V2.al.sub k,ji];intro k;let⟨u,b,rfl⟩:=cL.mp k;let⟨I,r,a⟩:=Ej b;let⟨l,t,f⟩:=V2.z7 a;exact c (Jb l t f)
def iy.len(V2:iy Y h d V1 C):C.length=(cA Y).length+V1.length+1:=by
 have:=V2.pm.length_eq;rw[br,A2,cZ]at this;let⟨H,a⟩:=V2.cons;have l:1<=C.length:=by rw[a,cn];omega
 omega
end
open Tj (mp rm cQ mn)
def E8(ae:Y.Nodup)(f:∀h∈Y,∀d∈Y,dT Y h d)(n:Y.length<=36){h d:aq}(av:h∈Y)(ag:d∈Y)(p:(dg Y h d).length<=14):
  ∃(C:List aq) (V1:List bk) (o:aq->aq->Nat),oL [aK Y,.im<|V h,.im<|V d]=Z (aK C,[aK Y,.im<|V h,.im<|V d])/\iy Y h d V1 C/\V1.length=cB o (dg Y h d)/\(∀b∈dg Y h d,mK Y b<|o b):=by
 let⟨V1,o,q,e,w⟩:=OQ ae f n av ag p;have O:gj Y h d V1:=⟨ae,av,ag,f,⟨e.ae,e.sub,e.odd,rfl⟩⟩;have A:(cA Y).length<=4*Y.length:=Jm Y;have B:=q4 e.ae e.sub;have le:(gi Y V1).length=(cA Y).length+V1.length:=cZ;have g:∀a∈gi Y V1,a.1∈Y/\a.2∈Y:=λa j=>⟨(eW.mp<|O.sub j).1,(eW.mp<|O.sub j).2.1⟩;have WG:=S7 (P:=Y) (Q:=gi Y V1) (qF av) ae (by omega) g (by omega);let⟨C,D,r,l,t,s⟩:=QA (P:=Y) (W:=iB (gi Y V1)) (m:=h) (k:=d) (VP:=ja Y V1) ae av (λb U i u=>(O.u3 (b:=b)<|Uv u).2.1) O.aR (by rw[R5 ae g];omega) O.reach;refine⟨C,V1,o,?_,⟨O,l,t,s⟩,e.len,w⟩;let c:aU:=[Z (aK Y),Z<|.im<|V h,Z<|.im<|V d]
 have v:aZ 1 G.oF (ao (aj 0) ay) c=Z (gT<|cA Y,c):=dh (V6:=[.aS 0]) rfl rfl rfl (TA ae (by omega)) rfl;have x:aZ 3 G.oK (ao (aj 0)<|ao (aj 1)<|ao (aj 2) ay) c=Z (gT V1,c):=dh (V6:=[.aS 0,.aS 1,.aS 2]) rfl rfl rfl q rfl;have y:ac dd (ai<|aZ 1 G.oF<|ao (aj 0) ay) (ai<|aZ 3 G.oK<|ao (aj 0)<|ao (aj 1)<|ao (aj 2) ay) c=Z (gT<|gi Y V1,c):=du (bL v) (bL x) rfl rfl (Fc (by omega));have z:aZ 2 G.q1 (ao (aj 0)<|ao (ai<|ac dd (ai<|aZ 1 G.oF<|ao (aj 0) ay)<|ai<|aZ 3 G.oK<|ao (aj 0)<|ao (aj 1)<|ao (aj 2) ay) ay) c=Z (.dL<|dn Y<|iB<|gi Y V1,c):=dh (V6:=[.aS 0,.b3<|gT<|gi Y V1]) (cf rfl<|cf (bL y) rfl) rfl rfl WG rfl;unfold oL J8;exact eO (w:=c) rfl (gf<|dh (V6:=[.b3 (.dL<|dn Y<|iB<|gi Y V1),.aS 1]) (cf (bL z)<|cf rfl rfl) rfl rfl r rfl) rfl
def yK(ae:Y.Nodup)(g:Y.length<=36)(h d:aq):mf [aK Y,.im<|V h,.im<|V d]=Z (aW<|dg Y h d,[aK Y,.im<|V h,.im<|V d]):=by
 let WW:aq->Int:=λf=>(if decide (f=h) then 1 else 0)+(if decide (f=d) then 1 else 0)
 let c:aU:=[Z (aK Y),Z<|.im<|V h,Z<|.im<|V d,X,X,X]
 have j:cE 1 [1,2] (bY<|aj 0) (a6 0) ei G.yk c=Z (.lst<|Y.map λf=>.tup [V f,.int<|WW f],c):=by
  refine ho (x:=Y.map V) (n:=X) (VQ:=c) rfl (lb V (λf=>.tup [V f,.int<|WW f]) _ (λf W=>⟨[Z (.im<|V f),Z<|.im<|V h,Z<|.im<|V d],_,[Z (.im<|V f),Z<|.im<|V h,Z<|.im<|V d],rfl,rfl,?_,rfl⟩) (by omega)) rfl;have k:bF vInt (ao (ai<|ac ey (aj 0)<|aj 1) ay) [Z (.im<|V f),Z<|.im<|V h,Z<|.im<|V d]=Z (aE<|if decide (f=h) then 1 else 0,[Z (.im<|V f),Z<|.im<|V h,Z<|.im<|V d]):=eS (cf (bL<|fc<|E9 f h) rfl) rfl rfl;have o:bF vInt (ao (ai<|ac ey (aj 0)<|aj 2) ay) [Z (.im<|V f),Z<|.im<|V h,Z<|.im<|V d]=Z (aE<|if decide (f=d) then 1 else 0,[Z (.im<|V f),Z<|.im<|V h,Z<|.im<|V d]):=eS (cf (bL<|fc<|E9 f d) rfl) rfl rfl;unfold yk;exact jF (cf rfl<|cf (bL<|du (bL k) (bL o) rfl rfl rfl) rfl) rfl (fg rfl) rfl
 have pr:∀J:List aq,ia (J.map λf=>.tup [V f,.int<|WW f])=Z (bx J WW):=λJ=>by
  induction J with
  |nil=>rfl
  |cons f p r=>
   rw[bH];show (ia<|p.map λf=>.tup [V f,.int<|WW f]).map (λm=>(bJ f,.int<|WW f)::m)=_;rw[r];rfl
 have u:ic [.lst (Y.map λf=>.tup [V f,.int<|WW f])]=Z (.aB<|bx Y WW):=by
  show (ia<|Y.map λf=>.tup [V f,.int<|WW f]).bind _=_;rw[pr];show (if ((bx Y WW).all λq=>aa.keys 7 q.1)=ab/\(bx Y WW).length<=1000 then Z (ak.aB<|gz<|bx Y WW) else X)=_;rw[aH ⟨by
   rw[k5];intro q v;let⟨b,I,rfl⟩:=cL.mp v;exact l5 b,by rw[D8];omega⟩,yo (by
   unfold bx;rw[es];exact zY (λb W i W a=>h7 a) ae)]
 let⟨S,Ws,gT⟩:=wb (cA Y);let⟨N,y,z,cv,A⟩:=HT (F:=Z (aK Y)) (Wd:=Z (.im<|V h)) (Wu:=Z (.im<|V d)) (Y:=Y) (by omega) S WW X X λa B=>by
  let⟨b,i,W,W⟩:=eW.mp (Ws.mem_iff.mp B);exact⟨b,i⟩
 let VQ:aU:=[Z (aK Y),Z<|.im<|V h,Z<|.im<|V d,Z<|.aB<|bx Y WW,X,X]
 let Wi:aU:=[Z (aK Y),Z<|.im<|V h,Z<|.im<|V d,Z<|.aB<|bx Y N,y,z]
 have C:bY (ai<|aZ 1 G.mC<|ao (aj 0) ay) VQ=Z ((S.map bG,X),VQ):=by
  have D:aZ 1 G.mC (ao (aj 0) ay) VQ=Z (kj<|cA Y,VQ):=dh (V6:=[.aS 0]) rfl rfl rfl (Ig ae g) rfl;unfold bY;rw[df D,gT];rfl
 have E:cE 1 [3] (bY<|aj 0) (a6 0) G.wj G.FR Wi=Z (aW<|dg Y h d,Wi):=by
  refine ho (x:=Y.map V) (n:=X) (VQ:=Wi) rfl (iw V (λf=>decide (((cV Y f).length+b5 f [h,d])%2=1)) V _ [] (λf e=>?_) (by rw[fy];omega)) rfl;refine⟨[Z (.im<|V f),Z<|.aB<|bx Y N],[Z (.im<|V f),Z<|.aB<|bx Y N],rfl,?_,λ_=>rfl,λ_=>⟨[Z (.im<|V f),Z<|.aB<|bx Y N],rfl,rfl⟩⟩;have H:eJ (aE<|N f) (aE 2)=Z (aE<|N f%2):=uD ∅;have s:wj [Z (.im<|V f),Z<|.aB<|bx Y N]=Z (decide (N f%2=1),[Z (.im<|V f),Z<|.aB<|bx Y N]):=eo (du (bL<|du (bL<|fc<|x_ e) rfl rfl rfl H) rfl rfl rfl<|oa _ _);rw[s];congr 2;refine ix.mpr ?_;rw[A f,z6 Ws,xH ae e];show (((if decide (f=h) then (1:Int) else 0)+(if decide (f=d) then 1 else 0))+_)%2=1↔_;rw[f6,f6];have L:b5 f ([]:List aq)=0:=rfl;by_cases l:f=h<;>by_cases t:f=d
  ·rw[aH (bW l),aH<|bW t,aH l.symm,aH t.symm];omega
  ·rw[aH (bW l),if_neg (by rw[decide_eq_false t];exact dw),aH l.symm,if_neg<|dY t];omega
  ·rw[if_neg (by rw[decide_eq_false l];exact dw),aH<|bW t,if_neg<|dY l,aH t.symm];omega
  ·rw[if_neg (by rw[decide_eq_false l];exact dw),if_neg (by rw[decide_eq_false t];exact dw),if_neg<|dY l,if_neg<|dY t];omega
 unfold mf G6;refine eO (w:=Wi) rfl ?_ rfl;exact bP (VQ:=VQ) (ik (eS (cf (bL j) rfl) rfl u) (dX rfl) rfl) (bP (gZ (n:=X) (x:=S.map bG) C cv rfl)<|gf E)
def NL(ae:p.Nodup){j:Nat}(c:j<p.length):p.take j++p.drop (j+1)=rm p[j] p:=by
 have a:p=p.take j++p[j]::p.drop (j+1):=by rw[<-j6 c,List.take_append_drop]
 have e:(p.take j++p[j]::p.drop (j+1)).Nodup:=a ▸ ae;let⟨h,b,f⟩:=c4.mp e;have b:=dD.mp b;generalize ag:p[j]=d at *;generalize p.take j=m at *;generalize p.drop (j+1)=H at *;rw[a];have g:rm d (m++d::H)=rm d m++rm d (d::H):=List.filter_append ..;rw[g,Tj.EX,Tj.wL λk=>f d k d (.head _) rfl,Tj.wL b.1]
def PQ{V7:Type}{x:List V7}(c:j<=A)(s:A<=x.length):eH x (Z (j:Int)) (Z (A:Int))=(x.drop j).take (A-j):=by
 unfold eH;rw[c5.ua,c5.ua,qm s,qm<|dN c s]
theorem QY:∀{J:List Nat},J≠[]->q5 [.lst (J.map λ(v:Nat)=>aa.int (v:Int))]=Z (aE ((mn J:Nat):Int))
 |b::p,_=>by
  have d:kR ((b::p).map λ(v:Nat)=>aa.int (v:Int))=Z ((b::p).map λ(v:Nat)=>(v:Int)):=wY (b::p);show (kR<|(b::p).map λ(v:Nat)=>aa.int (v:Int)).bind _=_;rw[d];show Z (ak.im<|.int<|(p.map λ(v:Nat)=>(v:Int)).foldl min (b:Int))=_;congr 3;exact c p b
where
 wY:∀J:List Nat,kR (J.map λ(v:Nat)=>aa.int (v:Int))=Z (J.map λ(v:Nat)=>(v:Int))
  |[]=>rfl
  |b::p=>by
   rw[bH];show (kR<|p.map λ(v:Nat)=>aa.int (v:Int)).map _=_;rw[wY p];rfl
 c:∀(p:List Nat) (b:Nat),(p.map λ(v:Nat)=>(v:Int)).foldl min (b:Int)=((mn (b::p):Nat):Int)
  |[],b=>rfl
  |i::p,b=>by
   rw[bH,kH];have a:min (b:Int) (i:Int)=((min b i:Nat):Int):=by omega
   rw[a,c p<|min b i];congr 1;cases p with
   |nil=>rfl
   |cons k p=>
    show min (min b i) (mn (k::p))=min b (min i<|mn (k::p));omega
def tr(o:aq->aq->Nat)(y:List aq)(We:aq->List ((Int×Int)×Int))(L:cG)(S:List aq):Prop:=(
 L [.aB (cN y We),aW S]=Z (aE ((cB o S:Nat):Int),[.aB (cN y We),aW S]))
theorem JU{Y y:List aq}{We:aq->List ((Int×Int)×Int)}{o:aq->aq->Nat}{g:cG}{h:aq}{p:List aq}(O:n4 Y y We o)(a:∀b∈y,b∈Y)(e:∀b∈h::p,b∈y)(ae:p.Nodup)(m:p.length<100)(i:∀d∈p,tr o y We g<|rm d p):
  ∀(M j:Nat) (B:Option ak),j+M=p.length->
   ∃f,dp (a6 3) (zl g) ((range' j M).map λ(s:Nat)=>aa.int<|1+(s:Int)) [Z (.aB<|cN y We),Z<|aW (h::p),Z<|.lst<|(p.take j).map λd=>.int ((o h d+cB o (rm d p):Nat):Int),B]=
    Z (.a8,[Z (.aB<|cN y We),Z<|aW (h::p),Z<|.lst<|p.map λd=>.int ((o h d+cB o (rm d p):Nat):Int),f])
 |0,j,B,c=>⟨B,by rw[tP (by omega)];rfl⟩
 |M+1,j,B,c=>by
  have VW:j<p.length:=by omega
  let⟨f,n⟩:=JU O a e ae m i M (j+1) (Z<|aE<|1+(j:Int)) (by omega);refine⟨f,?_⟩;rw[List.range'_succ,bH];let w:aU:=[Z (.aB<|cN y We),Z<|aW (h::p),Z<|.lst<|(p.take j).map λd=>.int ((o h d+cB o (rm d p):Nat):Int),Z<|aE<|1+(j:Int)]
  have k:=e h (.head _);have ag:p[j]∈p:=rM VW;have l:=e p[j] (.tail _ ag);let⟨T,z,q,Wf,r,u⟩:=O.t h k;have v:bg (aW (h::p)) (aE 0)=Z (.im<|V h):=rz (s:=0) rfl;have x:bg (aW (h::p)) (aE<|1+(j:Int))=Z (.im<|V p[j]):=by
   rw[show (1+(j:Int))=((j+1:Nat):Int) by omega];exact rz (s:=j+1) (by rw[D9];exact fj VW)
  have A:mN (ac bg (aj 0)<|ai<|ac bg (aj 1)<|ai<|aG<|.int 0) w=Z (.di<|bx T z,w):=wD (by rw[<-q];exact fX rfl (df<|fX rfl rfl rfl rfl v) rfl rfl (w0 k));have C:i4 (aW (h::p)) (Z 1) (Z<|1+(j:Int))=Z (aW<|p.take j):=by
   show Z (ak.lst<|eH ((h::p).map V) (Z 1)<|Z<|1+(j:Int))=_;rw[m9];congr 3;rw[show (1:Int)=((1:Nat):Int) from rfl,show ((1:Nat):Int)+(j:Int)=((j+1:Nat):Int) by omega,PQ (by omega) (by rw[cn];omega)];rfl
  have D:i4 (aW (h::p)) (Z<|1+(j:Int)+1) X=Z (aW<|p.drop<|j+1):=by
   show Z (ak.lst<|eH ((h::p).map V) (Z<|1+(j:Int)+1) X)=_;rw[m9,show (1+(j:Int)+1)=((j+2:Nat):Int) by omega,tA];rfl
  have ad:dd (aW<|p.take j) (aW<|p.drop<|j+1)=Z (aW<|rm p[j] p):=by
   rw[<-NL ae VW];show (if ((p.take j).map V).length+((p.drop<|j+1).map V).length<=100000 then Z (ak.lst<|(p.take j).map V++(p.drop<|j+1).map V) else X)=_;rw[aH (by rw[br,br,rB,l6];omega),<-iM]
  have E:=i p[j] ag;have F:dd (aE<|z p[j]) (aE ((cB o (rm p[j] p):Nat):Int))=Z (aE ((o h p[j]+cB o (rm p[j] p):Nat):Int)):=by
   show Z (aE<|z p[j]+((cB o (rm p[j] p):Nat):Int))=_;rw[u _ (a _ l),<-BX]
  have G:fm (.lst<|(p.take j).map λd=>.int ((o h d+cB o (rm d p):Nat):Int)) [aE ((o h p[j]+cB o (rm p[j] p):Nat):Int)]=Z (.im .aP,.lst<|(p.take<|j+1).map λd=>.int ((o h d+cB o (rm d p):Nat):Int)):=by
   rw[Ad (by rw[br,rB];omega),A0 VW,iM];rfl
  refine iR (VQ:=w) (Wi:=[Z (.aB<|cN y We),Z<|aW (h::p),Z<|.lst<|(p.take<|j+1).map λd=>.int ((o h d+cB o (rm d p):Nat):Int),Z<|aE<|1+(j:Int)]) rfl ?_ n;unfold zl;have I:ff (aj 1) (fv<|aG<|.int 1) (fv<|c8 3) w=Z (aW<|p.take j,w):=qc (b:=.aS 1) rfl rfl rfl rfl C;have J:ff (aj 1) (fv<|ac dd (aj 3)<|ai<|aG<|.int 1) gu w=Z (aW<|p.drop<|j+1,w):=qc (b:=.aS 1) rfl rfl rfl rfl D;exact jk (kW rfl rfl (dm (df<|fX (df<|fX (df A) (df<|fX rfl rfl rfl rfl x) rfl rfl<|tZ<|r _<|a _ l) (df<|dh (V6:=[.aS 0,.b3<|aW<|rm p[j] p]) (dm rfl<|dm (df<|fX (df I) (df J) rfl rfl ad) rfl) rfl rfl E rfl) rfl rfl F) rfl) rfl rfl G rfl)
open Tj (mp rm cQ mn)
def Sd{N:aD (List bE)}{V6:List bE}{j A:Int}{x:List aa}(a:N w=Z (V6,VQ))(b:gA VQ V6=Z [.im (.int j),.im<|.int A])(l:jd j)(t:jd A)(s:eY j (A-j).toNat=x):ps N w=Z ((x,X),VQ):=by
 unfold ps;rw[a];show (gA VQ V6).bind _=_;rw[b];show (if jd j/\jd A then Z ((eY j (A-j).toNat,X),VQ) else X)=_;rw[aH ⟨l,t⟩,s]
theorem xI:∀VV:List aq,aa.cx 8 (VV.map V)=ab
 |[]=>rfl
 |f::VV=>by rw[bH,aa.cx,xI VV];rfl
def PT(bs:List aq):ey (aW bs) (.lst [])=Z (.im<|.aJ<|decide (bs=[])):=by
 cases bs with
 |nil=>rfl
 |cons d p=>
  show (if (aa.cx 8 ((d::p).map V)&&ab)=ab then Z (ak.im<|.aJ<|eD ((d::p).map V) []) else X)=_;rw[xI];rfl
theorem HO{Y y:List aq}{We:aq->List ((Int×Int)×Int)}{o:aq->aq->Nat}(O:n4 Y y We o)(e:∀b∈y,b∈Y):∀(s:Nat) (S:List aq),(∀b∈S,b∈y)->S.Nodup->S.length%2=0->S.length<=2*s->S.length<100->tr o y We (l3<|s+1) S
 |s,[],_,_,_,_,_=>by
  show dc 2 4 [0,1] (rG<|l3 s) _=_;unfold rG;exact eO (w:=[Z (.aB<|cN y We),Z<|aW [],X,X]) rfl (ur<|pN (VQ:=[Z (.aB<|cN y We),Z<|aW [],X,X]) rfl rfl) rfl
 |0,h::p,_,_,_,c,_=>absurd c (by rw[cn];omega)
 |s+1,h::p,f,ae,g,i,j=>by
  rw[cn]at g i j;have a:=dD.mp ae;have l:p≠[]:=λk=>by rw[k,fy]at g;omega
  have m:∀d∈p,tr o y We (l3<|s+1) (rm d p):=λd ag=>by
   have:=Tj.wi a.2 ag;exact HO O e s (rm d p) (λb q=>f b<|.tail _ (cQ.mp q).1) (Tj.uq a.2) (by omega) (by omega) (by omega)
  let⟨r,cv⟩:=JU O e f a.2 (by omega) m p.length 0 X (by omega);let w (Wu B:Option ak):aU:=[Z (.aB<|cN y We),Z<|aW (h::p),Wu,B]
  have t:bO (ac ey (aj 1)<|ai<|e0 ay) (w X X)=Z (az,w X X):=eo (du rfl (bL<|D2 rfl rfl (fg rfl) rfl) rfl rfl ((PT (h::p)).trans (by rw[decide_eq_false (sz _ _)])));have u:ps (ao (ai<|aG<|.int 1)<|ao (ai<|bF cH<|ao (aj 1) ay) ay) (w (Z<|.lst []) X)=Z (((range' 0 p.length).map λ(s:Nat)=>aa.int<|1+(s:Int),X),w (Z<|.lst []) X):=by
   have v:ao (ai<|aG<|.int 1) (ao (ai<|bF cH<|ao (aj 1) ay) ay) (w (Z<|.lst []) X)=Z ([.b3 (aE 1),.b3<|aE ((h::p).length:Int)],w (Z<|.lst []) X):=dm rfl (dm (df<|k8 (dm rfl rfl) rfl<|yv (h::p)) rfl);refine Sd v rfl ∅ (by rw[cn];constructor<;>omega) ?_;unfold eY;rw[cn,<-List.range_eq_range',show (((p.length+1:Nat):Int)-1).toNat=p.length by omega]
  have x:q5 [.lst (p.map λd=>.int ((o h d+cB o (rm d p):Nat):Int))]=Z (aE ((cB o (h::p):Nat):Int)):=by
   have:=QY (J:=p.map λd=>o h d+cB o (rm d p)) λk=>l (xV.mp k);rw[es]at this;rw[sE];exact this
  show dc 2 4 [0,1] (rG<|l3<|s+1) _=_;unfold rG;refine eO (w:=w (Z<|.lst<|p.map λd=>.int ((o h d+cB o (rm d p):Nat):Int)) r) rfl (bP (hb t rfl) (bP (VQ:=w (Z<|.lst []) X) (ik (D2 rfl rfl (fg rfl) rfl) (dX rfl) rfl) (bP (gZ (n:=X) u (by rw[Ff]at cv;exact cv) rfl)<|gf<|eS (cf rfl rfl) rfl x))) rfl
theorem Ib(o a:aq->aq->Nat):∀(v:Nat) (S:List aq),S.length<=v->(∀b∈S,∀i∈S,o b i=a b i)->cB o S=cB a S
 |_,[],_,_=>rfl
 |0,h::p,c,_=>absurd c (by rw[cn];omega)
 |v+1,h::p,e,c=>by
  rw[cn]at e;rw[sE,sE];congr 1;refine gr λd ag=>?_;have:(rm d p).length<=p.length:=j_ _ _;rw[c h (.head _) d (.tail _ ag),Ib o a v (rm d p) (by omega) λb f i g=>c b (.tail _ (cQ.mp f).1) i<|.tail _ (cQ.mp g).1]
def KZ(ae:Y.Nodup)(j:∀h∈Y,∀d∈Y,dT Y h d)(k:Y.length<=36){h d:aq}(av:h∈Y)(ag:d∈Y)(I:(dg Y h d).length<=14){o:aq->aq->Nat}(l:∀b∈dg Y h d,mK Y b<|o b):
  vK [aK Y,.im<|V h,.im<|V d]=Z (aE ((cB o (dg Y h d):Nat):Int),[aK Y,.im<|V h,.im<|V d]):=by
 have r:=yK ae k h d;have jg:=B1 ae av ag;have g:=JI ae h d;have e:∀b∈dg Y h d,b∈Y:=λb c=>DJ c;generalize dg Y h d=S at *;let⟨We,a,O,VO,W⟩:=F_ e j (VO:=λb T z=>p7 [aK Y,.im<|V b]=Z (.aB<|bx T z,[aK Y,.im<|V b])) λb c=>Pj ae (e b c) (by omega);have s:cB o S=cB a S:=Ib o a _ S (bB _) λb c i t=>QL (l b c) (O.ds b c) (e i t);have cv:tr a S We (l3 8) S:=HO O e 7 S (λb c=>c) g jg (by omega) (by omega);let w (B Wn:Option ak):aU:=[Z (aK Y),Z<|.im<|V h,Z<|.im<|V d,B,Wn]
 have u:bI 3 (aZ 3 G.mf<|ao (aj 0)<|ao (aj 1)<|ao (aj 2) ay) (w X X)=Z (.a8,w (Z<|aW S) X):=gg (dh (V6:=[.aS 0,.aS 1,.aS 2]) rfl rfl rfl r rfl) (dX rfl) rfl;have cT:cE 1 [0] (bY<|aj 3) (a6 0) ei G.tL (w (Z<|aW S) X)=Z (.lst<|S.map λf=>.tup [V f,.fd<|We f],w (Z<|aW S) X):=by
  refine ho (x:=S.map V) (n:=Z (3,aW S)) (VQ:=w (Z .c2) X) rfl (lb V (λf=>.tup [V f,.fd<|We f]) _ (λf v=>?_) (by omega)) rfl;let⟨T,z,y,Q⟩:=VO f v;refine⟨[Z (.im<|V f),Z<|aK Y],_,[Z (.im<|V f),Z<|aK Y],rfl,rfl,?_,rfl⟩;have A:aZ 2 G.p7 (ao (aj 1)<|ao (aj 0) ay) [Z (.im<|V f),Z<|aK Y]=Z (.aB<|bx T z,[Z (.im<|V f),Z<|aK Y]):=dh (V6:=[.aS 1,.aS 0]) rfl rfl rfl Q rfl;unfold tL;rw[y];exact jF (cf rfl<|cf (bL<|JH A) rfl) rfl (fg rfl) rfl
 have pr:∀J:List aq,ia (J.map λf=>.tup [V f,.fd<|We f])=Z (cN J We):=λJ=>by
  induction J with
  |nil=>rfl
  |cons f p C=>
   rw[bH];show (ia<|p.map λf=>.tup [V f,.fd<|We f]).map (λm=>(bJ f,.fd<|We f)::m)=_;rw[C];rfl
 have D:ic [.lst (S.map λf=>.tup [V f,.fd<|We f])]=Z (.aB<|cN S We):=by
  show (ia<|S.map λf=>.tup [V f,.fd<|We f]).bind _=_;rw[pr];show (if ((cN S We).all λq=>aa.keys 7 q.1)=ab/\(cN S We).length<=1000 then Z (ak.aB<|gz<|cN S We) else X)=_;rw[aH ⟨by
   rw[k5];intro q F;let⟨b,c,rfl⟩:=cL.mp F;exact l5 b,by show (S.map _).length<=_;rw[br];omega⟩,yo (by
   show ((S.map _).map _).Nodup;rw[es];exact zY (λb W i W a=>h7 a) g)]
 have H:bI 4 (bF ic<|ao (ai<|cE 1 [0] (bY<|aj 3) (a6 0) ei G.tL) ay) (w (Z<|aW S) X)=Z (.a8,w (Z<|aW S)<|Z<|.aB<|cN S We):=ik (eS (cf (bL cT) rfl) rfl D) (dX rfl) rfl;rw[s];unfold vK GI;exact eO (w:=w (Z<|aW S) (Z<|.aB<|cN S We)) rfl (bP u<|bP H<|gf<|dh (V6:=[.aS 4,.aS 3]) rfl rfl rfl cv rfl) rfl
structure tC(q:List aq):Prop where
 ae:q.Nodup
 ne:q≠[]
 con:∀b∈q,∀i∈q,dT q b i
abbrev jK(u:List aa)(q:List aq)(a b J:Int)(Wt e D:Option ak):aU:=[Z (.lst u),Z<|aK q,Z<|aE a,Z<|aE b,Z<|aE J,Wt,e,D]
def G_{q:List aq}(a:q≠[])(j:Int):∃h∈q,bg (aK q) (aE<|j%(q.length:Int))=Z (.im<|V h)/\eJ (aE j) (aE (q.length:Int))=Z (aE<|j%(q.length:Int)):=by
 have c:=kU.mpr a;have b:0<=j%(q.length:Int):=kk _ (by omega);have l:j%(q.length:Int)<(q.length:Int):=lV _ (by omega);have VW:(j%(q.length:Int)).toNat<q.length:=by omega
 refine⟨q[(j%(q.length:Int)).toNat],rM VW,?_,uD (by omega)⟩;show (dM (q.map V)<|j%(q.length:Int)).map ak.im=_;rw[m6 (o:=V q[(j%(q.length:Int)).toNat]) b (by rw[gC,fj VW];rfl)];rfl
def Hx(f:aq):dg [f] f f=[]:=by
 unfold dg;have v:cV [f] f=[]:=List.filter_eq_nil_iff.mpr λb c k=>ob c (cR.mp<|e_ k);have a:b5 f [f,f]=2:=by rw[f6,f6,aH rfl];rfl
 rw[p5]
 ·rfl
 ·rw[v,a];decide
def If{v:Nat}{c:ak}{f:Int}{Wm:Nat}(a1:Wm<=36)(g:et (v+10) c)(L:tC Y)(a2:Y.length<=Wm)(bd:0<=f):∃q h d ar,oZ [c,aK Y,aE f]=Z (.im<|.tup [.tup (q.map V),V h,V d],[ar,aK Y,aE f])/\et v ar/\tC q/\q.length<=Wm/\h∈q/\d∈q/\((dg q h d).length:Int)<=f:=by
 have be:=kU.mpr L.ne;let⟨m,l,bi,W,W,VT⟩:=iY (v:=v+9) (M:=(Y.length:Int)) g (by omega) (by omega);let⟨S,t,bm,W,W,V8⟩:=iY (v:=v+8) (M:=(Y.length:Int)) VT (by omega) (by omega);let⟨O,cr,bn,cs,jN,P⟩:=iY (v:=v+7) (M:=2) V8 (by omega) (by omega);obtain⟨J,bs⟩:∃J:Int,bg (.lst [.int S,.int 0]) (aE O)=Z (aE J):=by
  by_cases k:O=0
  ·rw[k];exact⟨S,rfl⟩
  ·rw[show O=1 by omega];exact⟨0,rfl⟩
 let⟨u,rfl⟩:=g.lst;let⟨db,rfl⟩:=VT.lst;let⟨T,rfl⟩:=V8.lst;let⟨s,rfl⟩:=P.lst;let w (u:List aa):aU:=[Z (.lst u),Z<|aK Y,Z<|aE f,X,X,X,X,X]
 have l1:∀q:List aq,cH [aK q]=Z (aE (q.length:Int)):=λq=>by
  show Z (aE ((q.map V).length:Int))=_;rw[br]
 have U:∀{u dK:List aa}{r:Int},e3 [.lst u,aE (Y.length:Int)]=Z (aE r,[.lst dK,aE (Y.length:Int)])->aZ 2 G.e3 (ao (aj 0)<|ao (ai<|bF cH<|ao (aj 1) ay) ay) (w u)=Z (aE r,w dK):=λa=>dh (V6:=[.aS 0,.b3<|aE (Y.length:Int)]) (dm rfl<|dm (df<|k8 (dm rfl rfl) rfl<|l1 Y) rfl) rfl rfl a rfl;have W2:rJ 3 4 (ao (ai<|aZ 2 G.e3<|ao (aj 0)<|ao (ai<|bF cH<|ao (aj 1) ay) ay)<|ao (ai<|ac bg (ai<|e0<|ao (ai<|aZ 2 G.e3<|ao (aj 0)<|ao (ai<|bF cH<|ao (aj 1) ay) ay)<|ao (ai<|aG<|.int 0) ay)<|ai<|aZ 2 G.e3<|ao (aj 0)<|ao (ai<|aG<|.int 2) ay) ay) (w u)=Z (.a8,jK s Y f m J X X X):=
  SK (V6:=[.b3 (aE m),.b3<|aE J]) (Wz:=aE m) (WE:=aE J) (VQ:=w s) (dm (df<|U bi)<|dm (df<|fX (VQ:=w T) (Wi:=w s) (df<|kS (VQ:=w T) (dm (df<|U bm)<|dm rfl rfl) rfl (fg rfl) rfl) (df<|dh (V6:=[.aS 0,.b3<|aE 2]) rfl rfl rfl bn rfl) rfl rfl bs) rfl) rfl (dX rfl) (dX rfl) rfl;have ca:=IA (Wl:=a6 5) (d:=ui) (x:=eY 0 Y.length) (λ_ w=>∃q Wt e D,w=jK s q f m J Wt e D/\tC q/\q.length<=Wm)
  (λp w=>∃q h d Wt e D,p=.im (.tup [.tup (q.map V),V h,V d])/\w=jK s q f m J Wt e D/\tC q/\q.length<=Wm/\h∈q/\d∈q/\((dg q h d).length:Int)<=f)
  (w:=jK s Y f m J X X X) ⟨Y,X,X,X,rfl,L,a2⟩ (λj b w C dG=>by
   let⟨q,Wt,e,D,rfl,y,z⟩:=dG;let⟨h,av,cd,ce⟩:=G_ y.ne m;let⟨d,ag,ch,ci⟩:=G_ y.ne (m+J);have cl:=yK y.ae (dN z a1) h d;let VP (e D:Option ak):aU:=jK s q f m J (Z<|.im b) e D
   have al:bI 6 (ac bg (aj 1)<|ai<|ac eJ (aj 3)<|ai<|bF cH<|ao (aj 1) ay) (VP e D)=Z (.a8,VP (Z<|.im<|V h) D):=ik (du rfl (bL<|du rfl (bL<|eS (cf rfl rfl) rfl<|l1 q) rfl rfl ce) rfl rfl cd) (dX rfl) rfl;have am:bI 7 (ac bg (aj 1)<|ai<|ac eJ (ai<|ac dd (aj 3)<|aj 4)<|ai<|bF cH<|ao (aj 1) ay) (VP (Z<|.im<|V h) D)=Z (.a8,VP (Z<|.im<|V h)<|Z<|.im<|V d):=ik (du rfl (bL<|du (bL<|du rfl rfl rfl rfl rfl) (bL<|eS (cf rfl rfl) rfl<|l1 q) rfl rfl ci) rfl rfl ch) (dX rfl) rfl;have F:bO (ac hQ (ai<|bF cH<|ao (ai<|aZ 3 G.mf<|ao (aj 1)<|ao (aj 6)<|ao (aj 7) ay) ay)<|aj 2) (VP (Z<|.im<|V h)<|Z<|.im<|V d)=Z (decide (((dg q h d).length:Int)<=f),VP (Z<|.im<|V h)<|Z<|.im<|V d):=eo (du (bL<|eS (cf (bL<|dh (V6:=[.aS 1,.aS 6,.aS 7]) rfl rfl rfl cl rfl) rfl) rfl<|yv<|dg q h d) rfl rfl rfl rfl);by_cases B:((dg q h d).length:Int)<=f
   ·rw[bW B]at F;refine⟨VP e D,.eQ<|.im<|.tup [.tup (q.map V),V h,V d],VP (Z<|.im<|V h)<|Z<|.im<|V d,rfl,?_,.inr ⟨_,rfl,q,h,d,_,_,_,rfl,rfl,y,z,av,ag,B⟩⟩;unfold ui;exact bP al (bP am<|ur<|pN F<|gf<|jF (cf rfl<|cf rfl<|cf rfl rfl) rfl (fg rfl) rfl)
   ·rw[decide_eq_false B]at F;let⟨WL,p,H⟩:=qP y.ne;let⟨an,WI,ds,ap,co,mn⟩:=Cc (VU:=q.dropLast) (d:=WL) (b:=aK q.dropLast) (.inr rfl) (by rw[xq];omega);have be:=kU.mpr y.ne;have I:bg (aK q) (aE 0)=Z (.im<|V WL):=by
     show (dM (q.map V) 0).map ak.im=_;rw[m6 (o:=V WL) (g_ 0) (by rw[H];rfl)];rfl
    have Q:i4 (aK q) X (Z<|-1)=Z (aK q.dropLast):=by
     show Z (ak.im<|.tup<|eH (q.map V) X<|Z<|-1)=_;rw[m9,Pq]
    refine⟨VP e D,.a8,jK s an f m J (Z<|.im b) (Z<|.im<|V h)<|Z<|.im<|V d,rfl,?_,.inl ⟨.inl rfl,an,_,_,_,rfl,⟨mn,qF<|(ap WL).mpr .self,λb C i R=>E6 ap C R⟩,by rw[xq]at co;omega⟩⟩;unfold ui;exact bP al (bP am<|bP (hb F rfl)<|ik (dh (V6:=[.b3 (aK q.dropLast),.b3<|.im<|V WL]) (cf (bL<|qc (b:=.aS 1) rfl rfl rfl rfl Q)<|cf (bL<|fc I) rfl) rfl rfl WI rfl) (dX rfl) rfl))
 have as:hu (ao (ai<|bF cH<|ao (aj 1) ay) ay) (jK s Y f m J X X X)=Z ((eY 0 Y.length,X),jK s Y f m J X X X):=by
  have:=LS (N:=ao (ai<|bF cH<|ao (aj 1) ay) ay) (w:=jK s Y f m J X X X) (VQ:=jK s Y f m J X X X) (V6:=[.b3 (aE (Y.length:Int))]) (A:=(Y.length:Int)) (dm (df<|k8 (dm rfl rfl) rfl<|l1 Y) rfl) rfl (by constructor<;>omega)
  rwa [oc]at this
 rcases ca with ⟨Wb,cv,q,Wt,e,D,rfl,y,z⟩|⟨p,Wb,cv,q,h,d,Wt,e,D,rfl,rfl,y,z,av,ag,B⟩
 ·let⟨WL,p,H⟩:=qP y.ne;have I:bg (aK q) (aE 0)=Z (.im<|V WL):=by
   show (dM (q.map V) 0).map ak.im=_;rw[m6 (o:=V WL) (g_ 0) (by rw[H];rfl)];rfl
  have Q:i4 (aK q) X (Z 1)=Z (aK [WL]):=by
   show Z (ak.im<|.tup<|eH (q.map V) X<|Z 1)=_;rw[m9,show (1:Int)=((1:Nat):Int) from rfl,MO,H];rfl
  refine⟨[WL],WL,WL,.lst s,?_,P.mono (by omega),⟨e4 _ _,sz _ _,λb C i R=>by rw[cR.mp C,cR.mp R];exact .self⟩,by show 1<=Wm;omega,.head _,.head _,by rw[Hx];exact bd⟩;unfold oZ wF;exact eO (w:=jK s q f m J Wt e D) rfl (bP W2<|bP (gZ (n:=X) as cv rfl)<|gf<|jF (V6:=[.b3 (aK [WL]),.b3<|.im<|V WL,.b3<|.im<|V WL]) (E:=[aK [WL],.im<|V WL,.im<|V WL]) (cf (bL<|qc (b:=.aS 1) rfl rfl rfl rfl Q)<|cf (bL<|fc I)<|cf (bL<|fc I) rfl) rfl (fg rfl) rfl) rfl
 ·refine⟨q,h,d,.lst s,?_,P.mono (by omega),y,z,av,ag,B⟩;unfold oZ wF;exact eO (w:=jK s q f m J Wt e D) rfl (bP W2<|ur<|gZ (n:=X) as cv rfl) rfl
open Tj (mp rm cQ mn)
theorem Ba{Y:List aq}:∀VU:List aq,(hL Y VU).length<=2*VU.length
 |[]=>bB _
 |f::VU=>by
  have a:=Ba (Y:=Y) VU;rw[tO,cZ,br,cn,<-rE];have l:(((bw f).drop 2).filter λo=>decide (o∈Y)).length<=((bw f).drop 2).length:=j_ _ _;have t:((bw f).drop 2).length=2:=rfl;omega
def RL{Q:List bk}(ae:Q.Nodup)(b:Q.length<=63):iD (Q.map bG)=Z (kj Q):=by
 unfold iD;have n:=tp b;rw[aH (pf.mpr ⟨⟨n.ord.gd,n.ord.jf,tj bG (λh d v a=>v<|x1 a) ae⟩,n.fst⟩)];rfl
theorem Ga:∀{VO:List (c9×Int)}{q:c9×Int},(VO.map (·.1)).Nodup->q∈VO->cq (d3 VO) (d6 q.1)=Z (.int q.2)
 | (a,v)::VO,q,ae,c=>by
  have ae:=dD.mp (show (a::VO.map (·.1)).Nodup from ae);unfold cq;show ((((d6 a,aa.int v)::d3 VO).find? λu=>decide (u.1=d6 q.1)).map (·.2))=_;rw[gH];rcases bR.mp c with rfl|c
  ·rw[show decide ((d6 a,aa.int v).1=d6 ((a,v):c9×Int).1)=ab from bW rfl];rfl
  ·have ne:a≠q.1:=λk=>ae.1 (cL.mpr ⟨q,c,k.symm⟩);rw[show decide ((d6 a,aa.int v).1=d6 q.1)=az from decide_eq_false λk=>ne<|yS k];exact Ga ae.2 c
theorem DB:∀VV:List aq,aa.cx 7 (VV.map V)=ab
 |[]=>rfl
 |f::VV=>by rw[bH,aa.cx,DB VV];rfl
def Oo(C:List aq):eZ (aK C) (aK C)=Z (.im<|.aJ az):=by
 show (if (aa.cx 7 (C.map V)&&aa.cx 7 (C.map V))=ab then Z (ak.im<|.aJ<|!eD (C.map V) (C.map V)) else X)=_;rw[DB,aH<|show (ab&&ab)=ab from rfl,wo];rfl
def Su(C:List aq):eZ (aW C) (aW C)=Z (.im<|.aJ az):=by
 show (if (aa.cx 8 (C.map V)&&aa.cx 8 (C.map V))=ab then Z (ak.im<|.aJ<|!eD (C.map V) (C.map V)) else X)=_;rw[xI,aH<|show (ab&&ab)=ab from rfl,wo];rfl
theorem DG(f:aq):eZ (.im<|V f) (.im<|V f)=Z (.im<|.aJ az):=(wK f f).trans (by rw[bW rfl];rfl)
theorem QK(f:aq)(a:bk):h4 (.im<|V f) (.im<|bG a)=Z (.im<|.aJ<|decide (f=a.1\/f=a.2)):=(Qc [a.1,a.2] f).trans (by
 congr 3;exact ix.mpr ⟨λk=>(bR.mp k).elim .inl λk=>.inr<|cR.mp k,λk=>k.elim (λk=>k ▸ .head _) λk=>k ▸ .tail _ (.head _)⟩)
theorem Dw{Y:List aq}(f:aq):∀{S:List bk},(∀a∈S,a∈cA Y)->(S.filter λa=>decide (f=a.1\/f=a.2)).length=cS S f
 |[],_=>rfl
 |a::S,c=>by
  have b:=Dw (Y:=Y) f λo hd=>c o (kL a hd);have v:=ya (c a<|.head _);have Wz:cS (a::S) f=((if a.1=f then 1 else 0)+if a.2=f then 1 else 0)+cS S f:=by unfold cS;rw[bH,g0]
  rw[Wz,<-b];by_cases l:a.1=f
  ·have t:¬ a.2=f:=λk=>v (l.trans k.symm);rw[rA (by rw[bW (.inl l.symm)]),cn,aH l,if_neg t];omega
  ·by_cases t:a.2=f
   ·rw[rA (by rw[bW (.inr t.symm)]),cn,if_neg l,aH t];omega
   ·rw[p5 (by rw[decide_eq_false λk=>k.elim (λk=>l k.symm) λk=>t k.symm];exact dw),if_neg l,if_neg t];omega
structure Ud(Y:List aq)(V1:List bk)(VO:List (c9×Int)):Prop where
 ae:(VO.map (·.1)).Nodup
 keys:(VO.map (·.1)).Perm (cA Y)
 two:((VO.filter λq=>decide (q.2=2)).map (·.1)).Perm V1
def Qo{V1:List bk}{C:List aq}(V2:iy Y h d V1 C):Ud Y V1 (cnt []<|gM C):=by
 have aN:=MY (gM C);have f:∀a,b5 a ((gM C).map λq=>dS q.1 q.2)=b5 a (cA Y)+b5 a V1:=λa=>by
  rw[<-oj];exact (V2.pm.map _).sum_nat
 have c:∀a,a∈(gM C).map (λq=>dS q.1 q.2)↔a∈cA Y:=λa=>by
  rw[V2.pm.mem_iff];exact⟨V2.al.sub,λk=>eb _ k⟩
 have val:∀q∈cnt [] (gM C),q.1∈cA Y/\(q.2=2↔q.1∈V1):=λq b=>by
  have s:q.1∈cA Y:=(c _).mp ((aN.k _).mp<|cL.mpr ⟨q,b,rfl⟩);refine⟨s,?_⟩;rw[aN.n q b,f,lS (jU V2.al.ae) s];by_cases k:q.1∈V1
  ·rw[lS V2.al.g.ae k];exact⟨λ_=>k,λ_=>rfl⟩
  ·rw[ji k];exact⟨λi=>absurd i ∅,λi=>absurd i k⟩
 refine⟨aN.ae,(w3 aN.ae<|jU V2.al.ae).mpr λa=>(aN.k a).trans<|c a,?_⟩;refine (w3 ?_ V2.al.g.ae).mpr λa=>?_
 ·exact jI.mpr (Qr _<|jI.mp aN.ae)
 ·rw[cL];constructor
  ·rintro⟨q,b,rfl⟩;let⟨l,t⟩:=fE.mp b;exact ((val q l).2).mp (e_ t)
  ·intro k;let⟨q,b,e⟩:=cL.mp ((aN.k a).mpr<|(c a).mpr<|V2.al.g.sub a k);exact⟨q,fE.mpr ⟨b,bW (((val q b).2).mpr (by rw[e];exact k))⟩,e⟩
abbrev KP(V4:List Int)(s:Int)(c:ak)(Y:List aq)(h d:aq)(e D L E:Option ak):aU:=[Z (.da<|V4.map .int),Z<|aE s,Z c,Z<|aK Y,Z<|.im<|V h,Z<|.im<|V d,e,D,L,E]
def NU{V4:List Int}{s:Int}{Wu B Wn Wt e D L E:Option ak}(R:0<=s)(gt:s<3):∃Wi S WU T U am an ap as a1,uh [Z (.da<|V4.map .int),Z<|aE s,Wu,B,Wn,Wt,e,D,L,E]=Z (.a8,Wi)/\Wi=[Z (.da<|V4.map .int),S,WU,T,U,am,an,ap,as,a1]:=by
 let⟨c,p,g⟩:=Ow (V4:=V4) R ⋯;let⟨l,u,a2,VT,bd,A,be,⟨g1,g2,bi⟩,fin⟩:=LN (v:=13) (M:=36) ⋯ ⋯ (g.mono ⋯);have A:u.length<=36:=by have:(36:Int).toNat=36:=rfl;lia
 let⟨Y,h,d,t,bm,V8,y,aX,av,ag,g3⟩:=If (v:=3) (Wm:=36) (f:=8) ∅ VT ⟨be.ae,bd,λb bn i bs=>E6 bi bn bs⟩ A ∅;have ae:=y.ae;let⟨C,V1,o,F,V2,bv,ca⟩:=E8 ae y.con (by omega) av ag (by omega);have I:=KZ ae y.con (by omega) av ag (by omega) ca;rw[<-bv]at I;have m:=Qo V2;have he:=V2.len;have hf:(cA Y).length<=2*Y.length:=Ba Y;have hm:(cA Y).length<=63:=zK (λf=>(rE Y f).symm) ae (by omega);have hw:=q4 V2.al.g.ae V2.al.g.sub;have cd:=OU (b:=C) (by omega);generalize cnt [] (gM C)=VO at *;have g5:=Ig ae (by omega);have VS:=yK ae (by omega) h d;let⟨H,J⟩:=V2.cons;have ce:C≠[]:=by rw[J];exact sz _ _
 have ch:=UY (Y:=Y) (C:=C) (by omega) ce V2.zb V2.ml;let⟨z,rfl⟩:=g.lst;let⟨O,rfl⟩:=VT.lst;let⟨P,rfl⟩:=V8.lst;let j:=(VO.filter λq=>decide (q.2=2)).map (·.1)
 have Xi:j.length=V1.length:=m.two.length_eq;have ii:VO.length=(cA Y).length:=by have:=m.keys.length_eq;rwa [br]at this
 let w (e D L E:Option ak):aU:=KP V4 s (.lst P) Y h d e D L E
 let W:Option ak:=Z (aK C)
 let aD:Option ak:=Z (.di<|d3 VO)
 have ci:bg (aK C) (aE 0)=Z (.im<|V h):=by
  show (dM (C.map V) 0).map ak.im=_;rw[m6 (o:=V h) (g_ 0) (by rw[J];rfl)];rfl
 have cl:bg (aK C) (aE<|-1)=Z (.im<|V d):=by
  show (dM (C.map V)<|-1).map ak.im=_;let⟨N,co⟩:=List.getLast?_eq_some_iff.mp V2.g5;rw[Hg (o:=V d) (by rw[co];simp)];rfl
 have cr:cE 1 [7] (uS<|aj 7) (a6 0) G.xl G.wm (w W aD L E)=Z (cb j,w W aD L E):=by
  have cs:uS (aj 7) (w W aD L E)=Z ((VO.map λq=>bG q.1,X),w W aD L E):=by
   show Z (((d3 VO).map λdb=>aa.tup db.1,X),w W aD L E)=_;congr 3;unfold d3;rw[es];rfl
  have ds:=ho (own:=1) (Wk:=[7]) (WS:=w W aD L E) (Wl:=a6 0) (f:=G.xl) (a:=G.wm) cs (iw (λq:c9×Int=>bG q.1) (λq=>decide (q.2=2)) (λq=>bG q.1) VO [] (λq dL=>by
   have eq:bg (.di<|d3 VO) (.im<|bG q.1)=Z (aE q.2):=by
    show (if aa.keys 7 (d6 q.1)=ab then (cq (d3 VO)<|d6 q.1).map ak.im else X)=_;rw[aH (Ed q.1),Ga m.ae dL];rfl
   exact⟨[Z (.im<|bG q.1),aD],[Z (.im<|bG q.1),aD],rfl,eo<|du (bL<|fc eq) rfl rfl rfl<|oa _ _,λ_=>rfl,λ_=>⟨[Z (.im<|bG q.1),aD],rfl,rfl⟩⟩) (by rw[fy];omega)) rfl
  rw[ds];show _=Z (cb ((VO.filter λq=>decide (q.2=2)).map (·.1)),_);unfold cb;rw[es];rfl
 have ev:jQ [.di (d3 VO)]=Z (kj<|cA Y):=by
  show iD ((d3 VO).map λq=>.tup q.1)=_;have a:((d3 VO).map λq=>aa.tup q.1)=(VO.map (·.1)).map bG:=by
   unfold d3;rw[es,es];rfl
  rw[a,RL m.ae (by rw[br];omega),Mi (by omega) m.keys]
 have Q:cH [cb j]=Z (aE (j.length:Int)):=by
  show Z (aE ((j.map bG).length:Int))=_;rw[br]
 have ex:rr [.di (d3 VO)]=Z (aE (VO.length:Int)):=by
  show Z (aE ((VO.map _).length:Int))=_;rw[br]
 have r:cH [aK C]=Z (aE (C.length:Int)):=by
  show Z (aE ((C.map V).length:Int))=_;rw[br]
 have fd:∀a∈j,a∈cA Y:=λa fn=>V2.al.g.sub a (m.two.mem_iff.mp fn);have fr:cE 1 [8] (bY<|aj 3) (a6 0) G.x7 G.Jy (w W aD (Z<|cb j) E)=Z (aW<|dg Y h d,w W aD (Z<|cb j) E):=by
  refine ho (x:=Y.map V) (n:=X) (VQ:=w W aD (Z<|cb j) E) rfl (iw V (λf=>decide (((cV Y f).length+b5 f [h,d])%2=1)) V _ [] (λf f0=>?_) (by rw[fy];omega)) rfl;let VP:aU:=[Z (.im<|V f),Z<|cb j]
  refine⟨VP,VP,rfl,?_,λ_=>rfl,λ_=>⟨VP,rfl,rfl⟩⟩;have f1:cE 1 [0] (bY<|aj 1) (a6 0) G.Js G.DO VP=Z (cb<|j.filter λa=>decide (f=a.1\/f=a.2),VP):=by
   refine ho (x:=j.map bG) (n:=Z (1,cb j)) (VQ:=[Z (.im<|V f),Z .c2]) rfl (iw bG (λa=>decide (f=a.1\/f=a.2)) bG j [] (λa K=>?_) (by rw[fy];omega)) rfl;exact⟨[Z (.im<|bG a),Z<|.im<|V f],[Z (.im<|bG a),Z<|.im<|V f],rfl,eo<|fc<|QK f a,λ_=>rfl,λ_=>⟨[Z (.im<|bG a),Z<|.im<|V f],rfl,rfl⟩⟩
  have f2:cH [cb (j.filter λa=>decide (f=a.1\/f=a.2))]=Z (aE ((cS j f:Nat):Int)):=by
   show Z (aE (((j.filter λa=>decide (f=a.1\/f=a.2)).map bG).length:Int))=_;rw[br,Dw f fd]
  have f4:eJ (aE ((cS j f:Nat):Int)) (aE 2)=Z (aE<|((cS j f:Nat):Int)%2):=uD ∅;have f8:x7 VP=Z (decide (((cS j f:Nat):Int)%2=1),VP):=eo (du (bL<|du (bL<|eS (cf (bL f1) rfl) rfl f2) rfl rfl rfl f4) rfl rfl rfl<|oa _ _);rw[f8];congr 2;refine ix.mpr ?_;have n:=V2.al.g.odd f;rw[<-z6 m.two]at n;have M:f∈dg Y h d↔((cV Y f).length+b5 f [h,d])%2=1:=by
   unfold dg;rw[fE,fu];exact⟨λk=>k.2,λk=>⟨f0,k⟩⟩
  have p:((cS j f:Nat):Int)%2=1↔cS j f%2=1:=by omega
  exact p.trans (n.trans M)
 refine⟨w W aD (Z<|cb j)<|Z<|aW<|dg Y h d,_,_,_,_,_,_,_,_,_,?_,rfl⟩;unfold uh;refine bP (VQ:=[Z (.da<|V4.map .int),Z<|aE s,Z<|.lst z,B,Wn,Wt,e,D,L,E]) (gg (dh (V6:=[.aS 0,.aS 1]) rfl rfl rfl p rfl) (dX rfl) rfl) ?_;have ga:aZ 2 G.pR (ao (aj 2)<|ao (ai<|aG<|.int 36) ay) [Z (.da<|V4.map .int),Z<|aE s,Z<|.lst z,B,Wn,Wt,e,D,L,E]=Z (aK u,[Z (.da<|V4.map .int),Z<|aE s,Z<|.lst O,B,Wn,Wt,e,D,L,E]):=dh (V6:=[.aS 2,.b3<|aE 36]) rfl rfl rfl a2 rfl;have ge:aZ 3 G.oZ (ao (aj 2)<|ao (ai<|aZ 2 G.pR<|ao (aj 2)<|ao (ai<|aG<|.int 36) ay)<|ao (ai<|aG<|.int 8) ay) [Z (.da<|V4.map .int),Z<|aE s,Z<|.lst z,B,Wn,Wt,e,D,L,E]=Z (.im<|.tup [.tup (Y.map V),V h,V d],[Z (.da<|V4.map .int),Z<|aE s,Z<|.lst P,B,Wn,Wt,e,D,L,E]):=dh (VQ:=[Z (.da<|V4.map .int),Z<|aE s,Z<|.lst O,B,Wn,Wt,e,D,L,E]) (V6:=[.aS 2,.b3<|aK u,.b3<|aE 8]) (dm rfl<|dm (df ga)<|dm rfl rfl) rfl rfl bm rfl;refine bP (VQ:=w e D L E) (ox ge rfl) ?_;refine bP (VQ:=w W D L E) (ik (dh (V6:=[.aS 3,.aS 4,.aS 5]) rfl rfl rfl F rfl) (dX rfl) rfl) ?_;refine bP (hb (VQ:=w W D L E) (nK (Vc<|Qv (bL<|dh (V6:=[.aS 3,.aS 6]) rfl rfl rfl ch rfl) rfl rfl)<|nK (eo<|du (bL<|fc ci) rfl rfl rfl<|DG h)<|eo<|du (bL<|du rfl (bL<|DW rfl) rfl rfl cl) rfl rfl rfl<|DG d) rfl) ?_;have gl:qz (aZ 1 G.nu<|ao (aj 6) ay) (w W D L E)=Z (.di<|d3 VO,w W D L E):=by
  have go:aZ 1 G.nu (ao (aj 6) ay) (w W D L E)=Z (.aB<|d3 VO,w W D L E):=dh (V6:=[.aS 6]) rfl rfl rfl cd rfl;show (aZ 1 G.nu (ao (aj 6) ay)<|w W D L E).map _=_;rw[go];rfl
 refine bP (VQ:=w W aD L E) (ik gl (dX rfl) rfl) ?_;refine bP (VQ:=w W aD (Z<|cb j) E) (ik cr (dX rfl) rfl) ?_;have Wo:bO (ac eZ (ai<|bF jQ<|ao (aj 7) ay)<|ai<|aZ 1 G.mC<|ao (aj 3) ay) (w W aD (Z<|cb j) E)=Z (az,w W aD (Z<|cb j) E):=eo (du (bL<|eS (cf rfl rfl) rfl ev) (bL<|dh (V6:=[.aS 3]) rfl rfl rfl g5 rfl) rfl rfl<|Nf _);have Wq:bO (ac eZ (ai<|ac dd (ai<|bF rr<|ao (aj 7) ay)<|ai<|bF cH<|ao (aj 8) ay)<|ai<|ac mS (ai<|bF cH<|ao (aj 6) ay)<|ai<|aG<|.int 1) (w W aD (Z<|cb j) E)=Z (az,w W aD (Z<|cb j) E):=eo (du (bL<|du (bL<|eS (cf rfl rfl) rfl ex) (bL<|eS (cf rfl rfl) rfl Q) rfl rfl rfl) (bL<|du (bL<|eS (cf rfl rfl) rfl r) rfl rfl rfl rfl) rfl rfl ((JF _ _).trans (by rw[bW (show (VO.length:Int)+(j.length:Int)=(C.length:Int)-1 by omega)];rfl)));refine bP (hb (nK Wo Wq) rfl) ?_;refine bP (hb (VQ:=w W aD (Z<|cb j) E) (eo (du (bL<|eS (cf rfl rfl) rfl Q) (bL<|dh (V6:=[.aS 3,.aS 4,.aS 5]) rfl rfl rfl I rfl) rfl rfl ((JF _ _).trans (by rw[bW (show (j.length:Int)=(V1.length:Int) by omega)];rfl)))) rfl) ?_;refine bP (VQ:=w W aD (Z<|cb j) (Z<|aW<|dg Y h d)) (ik fr (dX rfl) rfl) ?_;exact hb (nK (eo<|du rfl (bL<|dh (V6:=[.aS 3,.aS 4,.aS 5]) rfl rfl rfl VS rfl) rfl rfl<|Su _)<|eo<|du (bL<|dh (V6:=[.aS 3,.aS 4,.aS 5]) rfl rfl rfl F rfl) rfl rfl rfl<|Oo C) rfl
def UE(V4:List Int)(u:V4.length<100000):∃I,o5 [.da (V4.map .int)]=Z (.im<|.aJ ab,I):=by
 let⟨Wb,cv,Wd,Wu,B,Wn,Wt,e,D,L,E,rfl⟩:=vm (Wl:=a6 1) (d:=uh) (x:=eY 0 3) (λj w=>∃Wd Wu B Wn Wt e D L E,w=[Z (.da<|V4.map .int),Wd,Wu,B,Wn,Wt,e,D,L,E]) (w:=[Z (.da<|V4.map .int),X,X,X,X,X,X,X,X,X]) ⟨X,X,X,X,X,X,X,X,X,rfl⟩
  (λj b w c dG=>by
   let⟨Wd,Wu,B,Wn,Wt,e,D,L,E,rfl⟩:=dG;obtain⟨VW,rfl⟩:j<3/\b=.int (0+(j:Int)):=by
    match j,c with
    |0,c=>exact⟨by decide,(Option.some.inj c).symm⟩
    |1,c=>exact⟨by decide,(Option.some.inj c).symm⟩
    |2,c=>exact⟨by decide,(Option.some.inj c).symm⟩
    |v+3,c=>cases c
   let⟨Wi,y,WU,z,A,F,J,M,O,P,a,rfl⟩:=NU (V4:=V4) (s:=0+(j:Int)) (Wu:=Wu) (B:=B) (Wn:=Wn) (Wt:=Wt) (e:=e) (D:=D) (L:=L) (E:=E) ⋯ ⋯;exact⟨[Z (.da<|V4.map .int),Z<|aE<|0+(j:Int),Wu,B,Wn,Wt,e,D,L,E],.a8,_,rfl,a,.inl rfl,_,_,_,_,_,_,_,_,_,rfl⟩)
 have m:cA [((5,5):aq)]=[]:=by decide +kernel
 let⟨C,V1,o,p,V2,W,W⟩:=E8 (Y:=[(5,5)]) (h:=(5,5)) (d:=(5,5)) ↥0 (λh av d ag=>by rw[cR.mp av,cR.mp ag];exact .self) ∅ (.head _) (.head _) (by rw[Hx];decide);have q:C=[(5,5)]:=by
  have i:=V2.len;have r:=q4 V2.al.g.ae V2.al.g.sub;rw[m,fy]at i r;let⟨H,k⟩:=V2.cons;rw[k,cn]at i;rw[k,w4.mp (show H.length=0 by omega)]
 subst q;let w:aU:=[Z (.da<|V4.map .int),Wd,Wu,B,Wn,Wt,e,D,L,E]
 have f:cY (ao (ai<|aG<|.int 5)<|ao (ai<|aG<|.int 5) ay) w=Z (.im<|V (5,5),w):=jF (cf rfl<|cf rfl rfl) rfl (fg rfl) rfl;have l:cY (ao (ai<|cY<|ao (ai<|aG<|.int 5)<|ao (ai<|aG<|.int 5) ay) ay) w=Z (aK [((5,5):aq)],w):=jF (cf (bL f) rfl) rfl (fg rfl) rfl;have t:aZ 3 G.oL (ao (ai<|cY<|ao (ai<|cY<|ao (ai<|aG<|.int 5)<|ao (ai<|aG<|.int 5) ay) ay)<|ao (ai<|cY<|ao (ai<|aG<|.int 5)<|ao (ai<|aG<|.int 5) ay)<|ao (ai<|cY<|ao (ai<|aG<|.int 5)<|ao (ai<|aG<|.int 5) ay) ay) w=Z (aK [((5,5):aq)],w):=dh (V6:=[.b3 (aK [((5,5):aq)]),.b3<|.im<|V (5,5),.b3<|.im<|V (5,5)]) (cf (bL l)<|cf (bL f)<|cf (bL f) rfl) rfl rfl p rfl;refine⟨[.da (V4.map .int)],?_⟩;unfold o5 AV;exact eO (w:=w) rfl (bP (gZ (n:=X) (x:=eY 0 3) (VQ:=[Z (.da<|V4.map .int),X,X,X,X,X,X,X,X,X]) rfl cv rfl)<|gf<|du (bL t) (bL l) rfl rfl rfl) rfl
end G
namespace L2
end L2
set_option maxHeartbeats 4000000
namespace K27
open L2 PyProof.Rows
variable{J:PySem.W.OpenLaw}{z:au}{f:d4}{s:Nat}{O:bz}
def top(j:Nat):cg:=(PySem.Challenge.pw_mowfloor_k27_walks_along_all_lanes.main.body.getD j (.Pass ⟨0,0,0,0⟩))
structure ed(aL:aF->Option ah):Prop where
 Hm:aL "all" = X
 Rw:aL "bool" = X
 rq:aL "dict" = X
 tH:aL "int" = X
 uc:aL "isinstance" = X
 fi:aL "len" = X
 wW:aL "max" = X
 si:aL "min" = X
 nI:aL "range" = X
 Nk:aL "reversed" = X
 s7:aL "sorted" = X
 kV:aL "tuple" = X
 D1:aL "zip" = X
 LH:∃H,aL "MOST" = Z (.int 14 H)
def D0:fw "all" = Z (.builtin "all"):=by decide +kernel
def NM:fw "bool" = Z (.type "bool"):=by decide +kernel
def q7:fw "dict" = Z (.type "dict"):=by decide +kernel
def uE:fw "int" = Z (.type "int"):=by decide +kernel
def vb:fw "isinstance" = Z (.builtin "isinstance"):=by decide +kernel
def fe:fw "len" = Z (.builtin "len"):=by decide +kernel
def wx:fw "max" = Z (.builtin "max"):=by decide +kernel
def q0:fw "min" = Z (.builtin "min"):=by decide +kernel
def sQ:fw "sorted" = Z (.builtin "sorted"):=by decide +kernel
def lW:fw "tuple" = Z (.type "tuple"):=by decide +kernel
def bX(a:e2 s O):O.units+20<bN:=by have:=a.un;omega
def qY(a:e2 s O):O.units+30<bN:=by have:=a.un;omega
abbrev xN:cg:=top 1
abbrev RP:List aF:=["one","other"]
abbrev wZ:cg:=top 2
abbrev Qs:List aF:=["things","found","thing"]
abbrev zD:cg:=top 3
abbrev TM:List aF:=["cell","row","column"]
abbrev uk:cg:=top 8
abbrev Ju:List aF:=["floor","cell"]
abbrev vd:cg:=top 10
abbrev EL:List aF:=["field","free","found","cell"]
abbrev ta:cg:=top 11
abbrev E2:List aF:=["field","a","b","free"]
abbrev xn:cg:=top 13
abbrev OK:List aF:=["free","start","steps","layer","behind","cell","beside"]
abbrev yI:cg:=top 14
abbrev U5:List aF:=["free","cells","away","cell"]
abbrev vO:cg:=top 15
abbrev Iy:List aF:=["cells","one","other"]
abbrev tn:cg:=top 16
abbrev OL:List aF:=["away","cells","other","known","fewest"]
abbrev r5:cg:=top 17
abbrev Kx:List aF:=["away","cells","known"]
abbrev Ac:cg:=top 20
abbrev KO:List aF:=["field","a","b","odd"]
abbrev s8:cg:=top 21
abbrev AQ:List aF:=["steps","cell","found","nearer"]
abbrev wa:cg:=top 22
abbrev OR:List aF:=["field","a","b","odd","away","found","one","other"]
abbrev zu:cg:=top 24
abbrev Oq:List aF:=["cells","some","ways","cell","lane"]
abbrev wN:cg:=top 25
abbrev Ul:List aF:=["ways","start","found","going","cell","beside"]
abbrev wg:cg:=top 26
abbrev Rn:List aF:=["field","a","b"]
abbrev Al:cg:=top 28
abbrev Ts:List aF:=["_law_script","_law_turn","_law_seed","_law_cell","_law_bound"]
abbrev xm:cg:=top 29
abbrev M6:List aF:=["_law_left_here","_law_many","_law_digit","_law_mixed"]
abbrev xW:cg:=top 30
abbrev U7:List aF:=["_law_cell"]
abbrev wy:cg:=top 31
abbrev Qq:List aF:=["_law_some","_law_begin","_law_there","_law_met","_law_waiting","_law_other"]
abbrev yB:cg:=top 32
abbrev TF:List aF:=["_law_left_here","_law_most","_law_cells","_law_k","_law_other"]
abbrev se:cg:=top 33
abbrev x2:List aF:=["_law_left_here","_law_most","_law_way","_law_wide","_law_high","_law_cells","_law_k","_law_part_here","_law_row","_law_column"]
abbrev tD:cg:=top 34
abbrev IW:List aF:=["_law_field_here","_law_there","_law_found","_law_cell"]
abbrev u7:cg:=top 35
abbrev CA:List aF:=["_law_field_here","_law_a","_law_b","_law_many","_law_one","_law_other"]
abbrev zO:cg:=top 36
abbrev LL:List aF:=["_law_left_here","_law_field_here","_law_most","_law_at","_law_to","_law_k","_law_a","_law_b"]
abbrev wO:cg:=top 37
abbrev K0:List aF:=["_law_field_here","_law_thing","_law_cell"]
abbrev yX:cg:=top 38
abbrev U6:List aF:=["_law_walk","_law_many","_law_one","_law_other","_law_lane"]
abbrev y2:cg:=top 39
abbrev L6:List aF:=["_law_field_here","_law_begin","_law_there","_law_found","_law_waiting","_law_at","_law_other"]
abbrev vu:cg:=top 40
abbrev UD:List aF:=["_law_far","_law_odd_here","_law_some","_law_k"]
abbrev yA:cg:=top 41
abbrev Ql:List aF:=["_law_field_here","_law_a","_law_b","_law_odd_here","_law_far"]
abbrev qk:cg:=top 42
abbrev AG:List aF:=["_law_script","_law_turn","_law_left_here","_law_field_here","_law_a","_law_b","_law_walk","_law_many","_law_twice","_law_odd_here"]
section
variable{V0:bu}{C:bf}{U:Φ}{aL:aF->Option ah}{Wj:a4}
abbrev Ci(f:d4)(z:au):Prop:=dW f 1 "lesser_first" xN z ["one","other"] 2 G.uI
def Q5(L:dB f.K f.aL "lesser_first" xN z ["one","other"])(S:ed f.aL):Ci f z:=by
 refine ef RP L λae k O WH m g VP a=>?_;exact (bS (dq (hA (by exact (b6 (aY<|dI (y3 rfl<|bX a) S.si q0<|b6 (ax 0)<|ax 1)<|aY<|dI (zN rfl<|bX a) S.wW wx<|b6 (ax 0)<|ax 1)))))
abbrev t8(f:d4)(z:au):Prop:=dW f 1 "lookup" wZ z ["things"] 1 G.mw
def NP(L:dB f.K f.aL "lookup" wZ z ["things"])(S:ed f.aL):t8 f z:=by
 refine ef Qs L λae k O WH m g VP a=>?_;exact (bh (cM 1 ae qG) (bh (gp (WJ:=[0]) e5 rfl (eg<|ax 0) (fk 2 ae) (bS<|i5 i0<|j8 (bT 1) (d0<|bT 2)<|nv<|bX a) ∅ (mh ∅))<|bS<|dq<|d0<|bT 1))
abbrev t6(f:d4)(z:au):Prop:=dW f 1 "around" zD z ["cell"] 1 G.kc
def P9(L:dB f.K f.aL "around" zD z ["cell"])(S:ed f.aL):t6 f z:=by
 refine ef TM L λae k O WH m g VP a=>?_;exact (bh (cM 1 ae<|il a (ax 0) a0) (bh (cM 2 ae<|il a (ax 0) a0) (bS (dq (gh (by exact (mE (gF (by exact (b6 (cF pg (ax 1) a0)<|ax 2))) (by exact (fU (gF (by exact (b6 (ax 1)<|cF pg (ax 2) a0))) (gF (by exact (b6 (ax 1)<|cF eI (ax 2) a0))) (gF (by exact (b6 (cF eI (ax 1) a0)<|ax 2))))))))))))
abbrev wc(f:d4)(z:au):Prop:=dW f 2 "neighbours" uk z ["floor","cell"] 2 G.jG
def Ri(L:dB f.K f.aL "neighbours" uk z ["floor","cell"])(S:ed f.aL){c:au}(d:t6 f c):wc f z:=by
 refine ef Ju L λae k O WH m g VP a=>?_;exact (bS (dq (hU nQ rfl S.kV lW (bD (aY (kC (own:=["beside"]) (Wk:=[0]) rfl (i8 (dP uk) Ju (by decide +kernel)) ∅ (eg<|aY<|cD d a<|bD<|ax 1) (λb=>(fJ 0)) (λb=>(kg<|dt (nR<|bX a) (ax 0) (ax 1) rfl))<|λb=>(d0<|bT 0)))))))
abbrev Ey(f:d4)(z:au):Prop:=dW f 3 "lanes" vd z ["field"] 1 G.oF
def P7(L:dB f.K f.aL "lanes" vd z ["field"])(S:ed f.aL){c:au}(d:t8 f c){e:au}(cz:wc f e):Ey f z:=by
 refine ef EL L λae k O WH m g VP a=>?_;exact (bh (cM 1 ae<|cD d a<|bD<|ax 0) (bh (cM 2 ae (gh (by exact jb))) (bh (gp (WJ:=[0]) e5 rfl (eg<|ax 0) (oH (j:=3) ae rfl (Or.inr rfl) ∅) (bS (hY (jw ih ib vY v_ zm (bT 2) (bD (aY (kC (own:=["beside"]) (Wk:=[3]) rfl (i8 (dP vd) EL (by decide +kernel)) ∅ (eg<|aY<|cD cz a<|b6 (ax 1)<|ax 3) (λb=>(fJ 0)) (λb=>(kg<|dt (Nd<|bX a) (ax 1) (ax 0)<|d1 _)) (λb=>(hA (by exact (b6 (ax 1)<|ax 0)))))))))) ∅ (mh ∅))<|bS<|dq<|hU nQ rfl S.kV lW<|bD<|ax 2)))
abbrev IC(f:d4)(z:au):Prop:=dW f 3 "odd_cells" ta z ["field","a","b"] 3 G.rx
def MI(L:dB f.K f.aL "odd_cells" ta z ["field","a","b"])(S:ed f.aL){c:au}(d:t8 f c){e:au}(cz:wc f e):IC f z:=by
 refine ef E2 L λae k O WH m g VP a=>?_;exact (bh (ma (j:=3) ae rfl (Or.inr rfl) (cD d a<|bD<|ax 0) ∅) (bS (dq (hU nQ rfl S.kV lW (bD (aY (kC (own:=["cell"]) (Wk:=[3,1,2]) rfl (i8 (dP ta) E2 (by decide +kernel)) ∅ (eg<|ax 0) (λb=>(fJ 0)) (λb=>(kg (dt (hS<|bX a) (cF gV (cF eI (aY<|dI fA S.fi fe<|bD<|aY<|cD cz a<|b6 (ax 1)<|ax 0) (aY (Sz (bX a) (gF (by exact (b6 (ax 2)<|ax 3))) (ax 0) Rl))) a0) a0<|d1 _)))<|λb=>(d0<|bT 0))))))))
abbrev I9(f:d4)(z:au):Prop:=dW f 2 "steps_from" xn z ["free","start"] 2 G.mA
def Lr(L:dB f.K f.aL "steps_from" xn z ["free","start"])(S:ed f.aL){b:au}(c:t6 f b):I9 f z:=by
 refine ef OK L λae k O WH m g VP a=>?_;exact (bh (cM 2 ae<|wh (bX a) (d0<|bT 1) fZ) (bh (cM 3 ae (gh (by exact (bD<|ax 1)))) (bh (rN 1000000 e5 (pQ<|ax 3) (bh (cM 4 ae (gh (by exact jb))) (bh (gp (WJ:=[3,0,1]) e5 rfl (eg<|ax 3) (fk 5 ae) (bS (gp (WJ:=[3,0,1]) e5 rfl (eg<|aY<|cD c a<|bD<|ax 5) (fk 6 ae) (bS<|fQ (gy.jX<|o6 (dt (nR<|bX a) (ax 6) (ax 0) rfl)<|rR<|dt (oR<|bX a) (ax 6) (ax 2) rfl) (bh (i5 (hI eI (c0 a (ax 2)<|ax 5) a0)<|j8 (bT 2) (d0<|bT 6)<|nv<|bX a)<|bS<|hY<|jw ih ib k4 k2 kJ (bT 4)<|bD<|ax 6) gW) ∅ pO)) ∅ (mh ∅))<|bS<|cM 3 ae<|d0<|bT 4)))<|bS<|dq<|d0<|bT 2)))
abbrev J7(f:d4)(z:au):Prop:=dW f 3 "steps_from_each" yI z ["free","cells"] 2 G.r1
def RE(L:dB f.K f.aL "steps_from_each" yI z ["free","cells"])(S:ed f.aL){b:au}(c:I9 f b):J7 f z:=by
 refine ef U5 L λae k O WH m g VP a=>?_;exact (bh (cM 2 ae qG) (bh (gp (WJ:=[0,1]) e5 rfl (eg<|ax 1) (fk 3 ae) (bS<|i5 (AY<|cD c a<|b6 (ax 0)<|ax 3)<|j8 (bT 2) (d0<|bT 3)<|nv<|bX a) ∅ (mh ∅))<|bS<|dq<|d0<|bT 2))
abbrev x6(f:d4)(z:au):Prop:=dW f 1 "without" vO z ["cells","one","other"] 3 G.oW
def SY(L:dB f.K f.aL "without" vO z ["cells","one","other"])(S:ed f.aL):x6 f z:=by
 refine ef Iy L λae k O WH m g VP a=>?_;exact (bS (dq (hU nQ rfl S.kV lW (bD (aY (kC (own:=["cell"]) (Wk:=[1,2]) rfl (i8 (dP vO) Iy (by decide +kernel)) ∅ (eg<|ax 0) (λb=>(fJ 0)) (λb=>(kg<|gy.jX<|o6 (dt (jV<|bX a) (ax 0) (ax 1)<|d1 _)<|rR<|dt (jV<|bX a) (ax 0) (ax 2)<|d1 _))<|λb=>(d0<|bT 0)))))))
abbrev Nw:cg:=top 17
def PL{c:au}{b:cG}{M:Nat}(L:dB f.K f.aL "pairs_with" tn z ["away","cells","other","known"])(S:ed f.aL){d:au}(e:x6 f d)(h:dW f (2+M) "fewest_pairs" Nw c ["away","cells","known"] 3 b):dW f (2+M+1) "pairs_with" tn z ["away","cells","other","known"] 4 (G.tm b):=by
 refine ef OL L λae k O WH m g VP a=>?_;exact (bh (cM 4 ae (tw h a (bB _) (fU (ax 0) (aY (tw e a (Nat.le_add_right_of_le ∅)<|fU (ax 1) (c0 a (ax 1) a0)<|ax 2))<|ax 3))) (bS (dq (hA (by exact (b6 (cF eI (c0 a (aY<|xh<|il a (ax 0)<|c0 a (ax 1) a0)<|ax 2)<|c0 a (ax 4) a0) (cF eI (gF (by exact (bD (gF (by exact (b6 (c0 a (ax 1) a0)<|ax 2))))))<|c0 a (ax 4) a0)))))))
theorem JN{f:d4}{z d:au}(L:dB f.K f.aL "fewest_pairs" r5 z ["away","cells","known"])(S:ed f.aL)(b:dB f.K f.aL "pairs_with" tn d ["away","cells","other","known"]){e:au}(c:x6 f e):∀s,dW f (2+(s+s)) "fewest_pairs" r5 z ["away","cells","known"] 3 (G.iV s)
 |0=>Ca L
 |s+1=>by
  have h:=JN L S b c s;have i:=PL b S c h;have j:=(show 2+(s+s)+1=2+(s+1+s) by omega) ▸ i;show dW f (2+(s+1+s)+1) "fewest_pairs" r5 z ["away","cells","known"] 3 (G.iV<|s+1);refine ef Kx L λae k O WH m g VP a=>?_;exact (bh (fQ (dt (hS<|bX a) (aY<|dI fA S.fi fe<|bD<|ax 1) a0<|d1 _) (bS (dq (hA (by exact (b6 a0 (gF (by exact jb))))))) gW) (bh (fQ (dt (oR<|bX a) (ax 1) (ax 2) rfl) (bS (i5 (dI (Rd rfl<|bX a) S.si q0 (bD (aY (k7 ["other"] [0,1,2] (eg<|aY<|lA (ax 1) (kY fZ) m1) (λl=>(fJ 0)) (λl=>(tw j a (bB _) (mE (ax 1) (by exact (fU (ax 2) (ax 0)<|ax 3)))))))))<|j8 (bT 2) (d0<|bT 1)<|nv<|bX a)) gW)<|bS<|dq<|il a (ax 2)<|ax 1))
abbrev I5(f:d4)(z:au):Prop:=dW f 4 "few_odd_cells" Ac z ["field","a","b"] 3 G.qh
def UQ(L:dB f.K f.aL "few_odd_cells" Ac z ["field","a","b"])(S:ed f.aL){a:au}(b:IC f a):I5 f z:=by
 refine ef KO L λae k O WH m g VP c=>?_;exact (bh (cM 3 ae<|cD b c<|fU (ax 0) (ax 1)<|ax 2)<|bh (fQ (dt su (aY<|dI fA S.fi fe<|bD<|ax 3) (aY<|Sy rfl S.LH.choose_spec)<|d1 _) (bS La) gW)<|bS<|dq<|d0<|bT 3)
abbrev ID(f:d4)(z:au):Prop:=dW f 2 "lanes_back" s8 z ["steps","cell"] 2 G.pl
def KC(L:dB f.K f.aL "lanes_back" s8 z ["steps","cell"])(S:ed f.aL){c:au}(d:t6 f c){e:au}(h:Ci f e):ID f z:=by
 refine ef AQ L λae k O WH m g VP a=>?_;exact (bh (cM 2 ae (gh (by exact jb))) (bh (rN 1000000 e5 (dt su (c0 a (ax 0)<|ax 1) a0<|d1 _) (bh (cM 3 ae (il a (aY (kC (own:=["beside"]) (Wk:=[0,1]) rfl (i8 (dP s8) AQ (by decide +kernel)) ∅ (eg<|aY<|cD d a<|bD<|ax 1) (λb=>(fJ 0)) (λb=>(kg<|dt (hS<|bX a) (aY<|K6 (bX a) (bT 1)<|d0<|bT 0) (cF pg (c0 a (ax 1)<|ax 2) a0)<|d1 _))<|λb=>(d0<|bT 0))) a0)) (bh (hY<|jw ih ib k4 k2 kJ (bT 2)<|bD<|aY<|cD h a<|b6 (ax 1)<|ax 3) (bS (ma (j:=1) ae rfl (Or.inr rfl) (d0<|bT 3) ∅)))))<|bS<|dq<|d0<|bT 2))
abbrev IZ(f:d4)(z:au):Prop:=dW f 19 "again" wa z ["field","a","b"] 3 G.oK
def Tt(L:dB f.K f.aL "again" wa z ["field","a","b"])(S:ed f.aL){b:au}(c:I5 f b){d:au}(e:J7 f d){h:au}(i:t8 f h){j:au}(l:dW f 18 "fewest_pairs" r5 j ["away","cells","known"] 3 (G.iV 8)){n:au}(o:ID f n):IZ f z:=by
 refine ef OR L λae k O WH m g VP a=>?_;exact (bh (cM 3 ae<|cD c a<|fU (ax 0) (ax 1)<|ax 2) (bh (cM 4 ae<|cD e a<|b6 (aY<|cD i a<|bD<|ax 0)<|ax 3) (bh (cM 5 ae (gh (by exact jb))) (bh (gp (WJ:=[0,1,2]) e5 rfl (eg<|c0 a (aY<|cD l a<|fU (ax 4) (ax 3)<|aY qG) a0) (tc (fk 6 ae)<|fk 7 ae) (bS<|hY<|jw ih ib vY v_ zm (bT 5)<|bD<|aY<|cD o a<|b6 (aY<|xh<|il a (ax 4)<|ax 6)<|ax 7) ∅ pO)<|bS<|dq<|hU nQ rfl S.kV lW<|bD<|aY<|dI (tG rfl<|bX a) S.s7 sQ<|bD<|ax 5))))
abbrev BP(f:d4)(z:au):Prop:=dW f 1 "ways_by" zu z ["cells","some"] 2 G.q1
def Th(L:dB f.K f.aL "ways_by" zu z ["cells","some"])(S:ed f.aL):BP f z:=by
 refine ef Oq L λae k O WH m g VP a=>?_;exact (bh (cM 2 ae qG) (bh (gp (WJ:=[0,1]) e5 rfl (eg<|ax 0) (fk 3 ae) (bS (i5 (gh (by exact jb))<|j8 (bT 2) (d0<|bT 3)<|MH<|bX a)) ∅ (mh ∅)) (bh (gp (WJ:=[0,1]) e5 rfl (eg<|ax 1) (fk 4 ae) (bh (hY<|yP (bX a) k4 k2 kJ (bT 2) (uF (bT 4) n8)<|uF (bT 4) n8)<|bS<|hY<|yP (bX a) k4 k2 kJ (bT 2) (uF (bT 4) n8)<|uF (bT 4) n8) ∅ (mh ∅))<|bS<|dq<|d0<|bT 2)))
abbrev B3(f:d4)(z:au):Prop:=dW f 1 "walk_along" wN z ["ways","start"] 2 G.vg
def T8(L:dB f.K f.aL "walk_along" wN z ["ways","start"])(S:ed f.aL):B3 f z:=by
 refine ef Ul L λae k O WH m g VP a=>?_;exact (bh (cM 2 ae (gh (by exact jb))) (bh (cM 3 ae (gh (by exact (bD<|ax 1))))<|bh (rN 1000000 e5 (pQ<|ax 3)<|bh (cM 4 ae<|il a (ax 3)<|aY<|y1 fZ)<|bS<|fQ (S4 (bX a) (bT 0)<|vj<|bT 4) (bh (cM 5 ae<|UU (bX a) tJ vA yY (bT 0)<|vj<|bT 4)<|bh (hY<|yP (bX a) PySem.F.slot_list_remove PySem.F.type_list_remove (M5<|bX a) (bT 0) (vj<|bT 5)<|vj<|bT 4)<|bS<|hY<|jw ih ib k4 k2 kJ (bT 3)<|bD<|ax 5)<|bS<|hY<|jw ih ib k4 k2 kJ (bT 2)<|bD<|aY<|DT ih ib tJ vA yY<|bT 3)<|bS<|dq<|S1 rfl S.kV rfl S.Nk<|bD<|ax 2))
abbrev GR(f:d4)(z:au):Prop:=dW f 20 "all_lanes" wg z ["field","a","b"] 3 G.oL
def U3(L:dB f.K f.aL "all_lanes" wg z ["field","a","b"])(S:ed f.aL){b:au}(c:B3 f b){d:au}(e:BP f d){h:au}(i:Ey f h){j:au}(l:IZ f j):GR f z:=by
 refine ef Rn L λae k O WH m g VP a=>?_;exact (bS<|dq<|cD c a<|b6 (aY<|cD e a<|b6 (ax 0)<|cF eI (aY<|cD i a<|bD<|ax 0)<|aY<|cD l a<|fU (ax 0) (ax 1)<|ax 2)<|ax 1)
abbrev DQ(f:d4)(z:au):Prop:=dW f 1 "_law_left" Al z ["_law_script","_law_turn"] 2 G.sa
def K9(L:dB f.K f.aL "_law_left" Al z ["_law_script","_law_turn"])(S:ed f.aL):DQ f z:=by
 refine ef Ts L λae k O WH m g VP a=>?_;exact (bh (cM 2 ae<|hI eI a0<|cF ku a0<|ax 1) (bh (gp (WJ:=[0,1]) e5 rfl (eg<|aY<|lA (ax 0) m1<|kY fZ) (fk 3 ae) (bS<|cM 2 ae<|hI gV (cF eI (cF eI (cF ku (ax 2) a0)<|cF gV (ax 3) a0) a0) a0) ∅ pO) (bh (cM 3 ae<|OS (dt su (aY<|dI fA S.fi fe<|bD<|ax 0) a0<|d1 _) (il a (ax 0)<|cF gV (ax 1)<|aY<|dI fA S.fi fe<|bD<|ax 0) fZ) (bh (cM 4 ae<|hI ku (cF ku (cF sX a0 a0)<|cF sX a0 a0)<|cF sX a0 a0) (bS (dq (gh (by exact (fU (cF ku (cF gV (ax 3)<|ax 4)<|aY<|hU yt rfl S.tH uE<|bD<|aY<|qH KX (ax 3) (cF sX a0 a0)<|d1 _) (ax 2) a0)))))))))
abbrev u0(f:d4)(z:au):Prop:=dW f 1 "_law_pick" xm z ["_law_left_here","_law_many"] 2 G.e3
def Oj(L:dB f.K f.aL "_law_pick" xm z ["_law_left_here","_law_many"])(S:ed f.aL):u0 f z:=by
 refine ef M6 L λae k O WH m g VP a=>?_;exact (bh (fQ (dt su (c0 a (ax 0) a0) a0<|d1 _) (bh (cM 2 ae<|hI gV (c0 a (ax 0) a0)<|ax 1)<|bh (i5 (hI qZ (c0 a (ax 0) a0)<|ax 1)<|j8 (bT 0) fZ<|zS<|bX a)<|bS<|dq<|d0<|bT 2) gW)<|bh (i5 (hI eI (c0 a (ax 0) a0) a0)<|j8 (bT 0) fZ<|zS<|bX a)<|bh (cM 3 ae<|hI gV (cF ku (cF eI (c0 a (ax 0) a0)<|cF ku (c0 a (ax 0) a0) a0) a0) a0)<|bh (i5 (hI gV (cF ku (ax 3)<|cF eI (cF gV (ax 3) a0) a0) a0)<|j8 (bT 0) fZ<|zS<|bX a)<|bS<|dq<|hI gV (cF qZ (c0 a (ax 0) a0) a0)<|ax 1)
abbrev oN(f:d4)(z:au):Prop:=dW f 1 "_law_beside" xW z ["_law_cell"] 1 G.hT
def Ln(L:dB f.K f.aL "_law_beside" xW z ["_law_cell"])(S:ed f.aL):oN f z:=by
 refine ef U7 L λae k O WH m g VP a=>?_;exact (bS (dq (gh (by exact (mE (gF (by exact (b6 (cF pg (c0 a (ax 0) a0) a0)<|c0 a (ax 0) a0))) (by exact (fU (gF (by exact (b6 (c0 a (ax 0) a0)<|cF pg (c0 a (ax 0) a0) a0))) (gF (by exact (b6 (c0 a (ax 0) a0)<|cF eI (c0 a (ax 0) a0) a0))) (gF (by exact (b6 (cF eI (c0 a (ax 0) a0) a0)<|c0 a (ax 0) a0))))))))))
abbrev y9(f:d4)(z:au):Prop:=dW f 2 "_law_part" wy z ["_law_some","_law_begin"] 2 G.qK
def KQ(L:dB f.K f.aL "_law_part" wy z ["_law_some","_law_begin"])(S:ed f.aL){b:au}(c:oN f b):y9 f z:=by
 refine ef Qq L λae k O WH m g VP a=>?_;exact (bh (cM 2 ae (hU (sd rfl<|qY a) rfl S.rq q7 (bD (aY (k7 ["_law_cell"] [] (eg<|ax 0) (λd=>(fJ 0)) (λd=>(hA (by exact (b6 (ax 0)<|aY i0))))))))) (bh (cM 3 ae<|wh (bX a) (d0<|bT 1) i0) (bh (cM 4 ae (gh (by exact (bD<|ax 1)))) (bh (rN 1000000 e5 (dt (jV<|bX a) (ax 4) (aY (gh (by exact jb)))<|d1 _) (bS (gp (WJ:=[0,1]) e5 rfl (eg<|aY<|cD c a<|bD<|aY<|DT ih ib tJ vA yY<|bT 4) (fk 5 ae) (bS<|fQ (gy.jX<|o6 (dt (nR<|bX a) (ax 5) (ax 2) rfl)<|rR<|dt (oR<|bX a) (ax 5) (ax 3) rfl) (bh (i5 i0<|j8 (bT 3) (d0<|bT 5)<|nv<|bX a)<|bS<|hY<|jw ih ib k4 k2 kJ (bT 4)<|bD<|ax 5) gW) ∅ pO)))<|bS<|dq<|hU nQ rfl S.kV lW<|bD<|aY<|dI (tG rfl<|bX a) S.s7 sQ<|bD<|ax 3))))
abbrev Fm(f:d4)(z:au):Prop:=dW f 2 "_law_grown" yB z ["_law_left_here","_law_most"] 2 G.pG
def NI(L:dB f.K f.aL "_law_grown" yB z ["_law_left_here","_law_most"])(S:ed f.aL){c:au}(b:u0 f c){d:au}(e:oN f d):Fm f z:=by
 refine ef TF L λae k O WH m g VP a=>?_;exact (bh (cM 2 ae (gh (by exact (bD (gF (by exact (b6 a0 a0))))))) (bh (gp (WJ:=[0,1]) e5 rfl (pS rfl S.nI<|bD<|aY<|cD b a<|b6 (ax 0)<|ax 1) (fk 3 ae) (bh (cM 4 ae<|il a (aY<|cD e a<|bD<|c0 a (ax 2)<|aY<|cD b a<|b6 (ax 0)<|aY<|dI fA S.fi fe<|bD<|ax 2)<|aY<|cD b a<|b6 (ax 0) a0)<|bS<|fQ (gy.jX<|o6 (dt (oR<|bX a) (ax 4) (ax 2) rfl)<|o6 (Ce rC rC a0 (c0 a (ax 4) a0) a0)<|rR<|Ce rC rC a0 (c0 a (ax 4) a0) a0) (bS<|hY<|jw ih ib k4 k2 kJ (bT 2)<|bD<|ax 4) gW) ∅ uG)<|bS<|dq<|d0<|bT 2))
abbrev Iu(f:d4)(z:au):Prop:=dW f 3 "_law_field" se z ["_law_left_here","_law_most"] 2 G.pR
def Si(L:dB f.K f.aL "_law_field" se z ["_law_left_here","_law_most"])(S:ed f.aL){d:au}(c:u0 f d){e:au}(h:Fm f e){i:au}(l:y9 f i):Iu f z:=by
 refine ef x2 L λae k O WH m g VP a=>?_;exact (bh (cM 2 ae<|cD c a<|b6 (ax 0) a0) (bh (ma (j:=3) ae rfl (Or.inr rfl) (hI eI a0<|aY<|cD c a<|b6 (ax 0) a0) ∅) (bh (cM 4 ae<|hI eI a0<|aY<|cD c a<|b6 (ax 0)<|aY<|dI (zN rfl<|bX a) S.wW wx<|b6 a0<|aY<|dI (y3 rfl<|bX a) S.si q0<|b6 a0<|cF qZ (ax 1)<|ax 3) (bh (x3 (j:=5) (own:=["_law_k"]) (Wk:=[3]) ae rfl (Or.inl rfl) rfl (i8 (dP se) x2 (by decide +kernel)) ∅ (pS rfl S.nI<|bD<|cF ku (ax 4)<|ax 3) (λb=>(fJ 0)) (λb=>BL) (λb=>(hA (by exact (b6 (cF qZ (ax 0)<|ax 1)<|cF gV (ax 0)<|ax 1)))) ∅) (bh (fQ (gy.jX<|m2 (dt (hS<|bX a) (ax 2) a0<|d1 _)<|px<|dt (hS<|bX a) (ax 2) a0<|d1 _) (bS (gp (WJ:=[0,1]) e5 rfl (pS rfl S.nI<|bD<|aY<|cD c a<|b6 (ax 0)<|cF eI a0<|cF qZ (aY<|dI fA S.fi fe<|bD<|ax 5) a0) (fk 6 ae) (bS<|hY<|jw ih ib tJ vA Oa (bT 5)<|bD<|aY<|cD c a<|b6 (ax 0)<|aY<|dI fA S.fi fe<|bD<|ax 5) ∅ uG)) (bS (fQ (dt (hS<|bX a) (ax 2) a0<|d1 _) (bS (x3 (j:=5) (own:=["_law_cell"]) (Wk:=[]) ae rfl (Or.inl rfl) rfl (i8 (dP se) x2 (by decide +kernel)) ∅ (eg<|ax 5) (λb=>(fJ 0)) (λb=>(kg<|dt (hS<|bX a) (cF ku (cF gV (c0 a (ax 0) a0) a0)<|cF gV (cF gV (c0 a (ax 0) a0) a0) a0) a0<|d1 _)) (λb=>(d0<|bT 0)) ∅))<|bS<|fQ (dt su (ax 2) a0<|d1 _) (bS<|cM 5 ae<|cD h a<|b6 (ax 0)<|ax 1) gW))) (bh (cM 7 ae<|cD l a<|b6 (ax 5)<|c0 a (ax 5)<|aY<|cD c a<|b6 (ax 0)<|aY<|dI fA S.fi fe<|bD<|ax 5) (bh (i5 (k7 ["_law_k"] [0] (pS rfl S.nI<|bD a0) (λb=>(fJ 0)) (λb=>(il a (aY (gh (by exact (mE a0 (by exact (fU a0 a0 a0))))))<|aY<|cD c a<|b6 (ax 1) a0))) (LK rfl (nT (oH (j:=8) ae rfl (Or.inr rfl) ∅) (nT (oH (j:=9) ae rfl (Or.inr rfl) ∅) Au)))) (bS (dq (hU nQ rfl S.kV lW (bD (aY (k7 ["_law_cell"] [8,9] (eg<|ax 7) (λb=>(fJ 0)) (λb=>(hA (by exact (b6 (cF eI (c0 a (ax 0) a0)<|ax 1)<|cF eI (c0 a (ax 0) a0)<|ax 2)))))))))))))))))
abbrev xy(f:d4)(z:au):Prop:=dW f 2 "_law_lanes" tD z ["_law_field_here"] 1 G.mC
def Pp(L:dB f.K f.aL "_law_lanes" tD z ["_law_field_here"])(S:ed f.aL){c:au}(d:oN f c):xy f z:=by
 refine ef IW L λae k O WH m g VP a=>?_;exact (bh (ma (j:=1) ae rfl (Or.inr rfl) (hU (sd rfl<|qY a) rfl S.rq q7 (bD (aY (k7 ["_law_cell"] [] (eg<|ax 0) (λb=>(fJ 0)) (λb=>(hA (by exact (b6 (ax 0)<|aY i0)))))))) ∅) (bh (cM 2 ae (gh (by exact jb))) (bh (gp (WJ:=[0]) e5 rfl (eg<|ax 0) (oH (j:=3) ae rfl (Or.inr rfl) ∅) (bS (hY (jw ih ib vY v_ zm (bT 2) (bD (aY (kC (own:=["_law_other"]) (Wk:=[1,3]) rfl (i8 (dP tD) IW (by decide +kernel)) ∅ (eg<|aY<|lA (aY<|cD d a<|bD<|ax 3) (kY fZ) m1) (λb=>(fJ 0)) (λb=>(kg<|dt (nR<|bX a) (ax 0) (ax 1) rfl)) (λb=>(hA (by exact (b6 (ax 2)<|ax 0)))))))))) ∅ (mh ∅))<|bS<|dq<|dI (tG rfl<|bX a) S.s7 sQ<|bD<|ax 2)))
abbrev vf(f:d4)(z:au):Prop:=dW f 3 "_law_odd" u7 z ["_law_field_here","_law_a","_law_b"] 3 G.mf
def LJ(L:dB f.K f.aL "_law_odd" u7 z ["_law_field_here","_law_a","_law_b"])(S:ed f.aL){c:au}(d:xy f c):vf f z:=by
 refine ef CA L λae k O WH m g VP a=>?_;exact (bh (ma (j:=3) ae rfl (Or.inr rfl) (hU (sd rfl<|qY a) rfl S.rq q7 (bD (aY (k7 ["_law_cell"] [1,2] (eg<|ax 0) (λb=>(fJ 0)) (λb=>(hA (by exact (b6 (ax 0)<|cF eI (aY<|hU yt rfl S.tH uE<|bD<|aY<|qH (hS<|bX a) (ax 0) (ax 1)<|d1 _)<|aY<|hU yt rfl S.tH uE<|bD<|aY<|qH (hS<|bX a) (ax 0) (ax 2)<|d1 _)))))))) ∅) (bh (gp (WJ:=[0,1,2]) e5 rfl (eg<|aY<|cD d a<|bD<|ax 0) (tc (fk 4 ae)<|fk 5 ae) (bh (Hq (bX a) (bT 3) (bT 4) n8 xD ∅) (bS (Hq (bX a) (bT 3) (bT 5) n8 xD ∅))) ∅ pO) (bS (dq (kC (own:=["_law_cell"]) (Wk:=[3]) rfl (i8 (dP u7) CA (by decide +kernel)) ∅ (eg<|ax 0) (λb=>(fJ 0)) (λb=>(kg<|dt (hS<|bX a) (cF gV (c0 a (ax 1)<|ax 0) a0) a0<|d1 _))<|λb=>(d0<|bT 0))))))
abbrev GV(f:d4)(z:au):Prop:=dW f 4 "_law_tamed" zO z ["_law_left_here","_law_field_here","_law_most"] 3 G.oZ
def KG(L:dB f.K f.aL "_law_tamed" zO z ["_law_left_here","_law_field_here","_law_most"])(S:ed f.aL){c:au}(b:u0 f c){d:au}(e:vf f d){h:au}(i:y9 f h):GV f z:=by
 refine ef LL L λae k O WH m g VP a=>?_;exact (bh (RG (j:=3) (A:=4) rfl ae rfl rfl ∅ rfl rfl (b6 (aY<|cD b a<|b6 (ax 0)<|aY<|dI fA S.fi fe<|bD<|ax 1) (c0 a (aY (gh (by exact (b6 (aY<|cD b a<|b6 (ax 0)<|aY<|dI fA S.fi fe<|bD<|ax 1) a0))))<|aY<|cD b a<|b6 (ax 0) a0)) ∅ ∅ rfl) (bh (gp (WJ:=[0,2]) e5 rfl (pS rfl S.nI<|bD<|aY<|dI fA S.fi fe<|bD<|ax 1) (fk 5 ae) (bh (cM 6 ae<|il a (ax 1)<|cF gV (ax 3)<|aY<|dI fA S.fi fe<|bD<|ax 1) (bh (cM 7 ae<|il a (ax 1)<|cF gV (cF eI (ax 3)<|ax 4)<|aY<|dI fA S.fi fe<|bD<|ax 1) (bh (fQ (dt rC (aY<|dI fA S.fi fe<|bD<|aY<|cD e a<|fU (ax 1) (ax 6)<|ax 7) (ax 2)<|d1 _) (bS (dq (hA (by exact (fU (ax 1) (ax 6)<|ax 7))))) gW)<|bS<|cM 1 ae<|cD i a<|b6 (aY<|lA (ax 1) m1<|kY<|y1 fZ)<|c0 a (ax 1) a0))) ∅ uG) (bS (dq (hA (by exact (fU (aY<|lA (ax 1) m1<|kY fZ) (c0 a (ax 1) a0)<|c0 a (ax 1) a0)))))))
abbrev Ft(f:d4)(z:au):Prop:=dW f 2 "_law_is_walk" wO z ["_law_field_here","_law_thing"] 2 G.qs
def Ui(L:dB f.K f.aL "_law_is_walk" wO z ["_law_field_here","_law_thing"])(S:ed f.aL){c:au}(d:oN f c):Ft f z:=by
 refine ef K0 L λae k O WH m g VP a=>?_;exact (bh (fQ (gy.jX<|m2 (sL<|pQ<|aY<|sN rfl S.uc vb rfl S.kV lW<|ax 1)<|px<|dt (hS<|bX a) (aY<|dI fA S.fi fe<|bD<|ax 1) a0<|d1 _) (bS<|dq i0) gW) (bh (gp (WJ:=[0,1]) e5 rfl (eg<|ax 1) (fk 2 ae) (bh (fQ (gy.jX<|m2 (sL<|pQ<|aY<|sN rfl S.uc vb rfl S.kV lW<|ax 2)<|m2 (dt (jV<|bX a) (aY<|dI fA S.fi fe<|bD<|ax 2) a0<|d1 _)<|px<|dt (oR<|bX a) (ax 2) (ax 0) rfl) (bS<|dq i0) gW)<|bS<|fQ (sL<|pQ<|aY<|dI (Bc rfl) S.Hm D0<|bD<|aY<|k7 ["_law_number"] [] (eg<|ax 2) (λb=>(fJ 0))<|λb=>(Kh (yz<|sN rfl S.uc vb rfl S.tH uE<|ax 0)<|yz<|S5<|Tn<|yz<|sN rfl S.uc vb rfl S.Rw NM<|ax 0)) (bS<|dq i0) gW) ∅ (mh ∅))<|bS<|dq<|dI (Bc rfl) S.Hm D0<|bD<|aY<|k7 ["_law_one" ,"_law_other"] [] (B5 rfl S.D1<|b6 (ax 1)<|aY<|lA (ax 1) (kY fZ) m1) (λb=>(tc (fJ 0)<|fJ 1))<|λb=>(qH (nR<|bX a) (ax 1) (aY<|cD d a<|bD<|ax 0) rfl)))
abbrev HQ(f:d4)(z:au):Prop:=dW f 1 "_law_gone" yX z ["_law_walk"] 1 G.nu
def S2(L:dB f.K f.aL "_law_gone" yX z ["_law_walk"])(S:ed f.aL):HQ f z:=by
 refine ef U6 L λae k O WH m g VP a=>?_;exact (bh (cM 1 ae qG) (bh (gp (WJ:=[0]) e5 rfl (B5 rfl S.D1<|b6 (ax 0)<|aY<|lA (ax 0) (kY fZ) m1) (tc (fk 2 ae)<|fk 3 ae) (bh (cM 4 ae (hA (by exact (b6 (aY<|dI (y3 rfl<|bX a) S.si q0<|b6 (ax 2)<|ax 3)<|aY<|dI (zN rfl<|bX a) S.wW wx<|b6 (ax 2)<|ax 3))))<|bS<|i5 (hI eI (aY<|ME (bX a) (bT 1) (d0<|bT 4) fZ) a0)<|j8 (bT 1) (d0<|bT 4)<|nv<|bX a) ∅ My)<|bS<|dq<|d0<|bT 1))
abbrev Hy(f:d4)(z:au):Prop:=dW f 2 "_law_steps" y2 z ["_law_field_here","_law_begin"] 2 G.p7
def Ny(L:dB f.K f.aL "_law_steps" y2 z ["_law_field_here","_law_begin"])(S:ed f.aL){b:au}(c:oN f b):Hy f z:=by
 refine ef L6 L λae k O WH m g VP a=>?_;exact (bh (cM 2 ae (hU (sd rfl<|qY a) rfl S.rq q7 (bD (aY (k7 ["_law_cell"] [] (eg<|ax 0) (λd=>(fJ 0)) (λd=>(hA (by exact (b6 (ax 0)<|aY i0))))))))) (bh (cM 3 ae<|wh (bX a) (d0<|bT 1) fZ) (bh (cM 4 ae (gh (by exact (bD<|ax 1)))) (bh (cM 5 ae fZ) (bh (rN 1000000 e5 (dt Uk (ax 5) (aY<|dI fA S.fi fe<|bD<|ax 4)<|d1 _) (bh (gp (WJ:=[0,1]) e5 rfl (eg<|aY<|cD c a<|bD<|c0 a (ax 4)<|ax 5) (fk 6 ae) (bS<|fQ (gy.jX<|o6 (dt (nR<|bX a) (ax 6) (ax 2) rfl)<|rR<|dt (oR<|bX a) (ax 6) (ax 3) rfl) (bh (i5 (hI eI (c0 a (ax 3)<|c0 a (ax 4)<|ax 5) a0)<|j8 (bT 3) (d0<|bT 6)<|nv<|bX a)<|bS<|hY<|jw ih ib k4 k2 kJ (bT 4)<|bD<|ax 6) gW) ∅ pO) (bS (Tf (j:=5) ae rfl (Or.inl rfl) fZ xD ∅))))<|bS<|dq<|d0<|bT 3)))))
theorem IH{f:d4}{z:au}(L:dB f.K f.aL "_law_paired" vu z ["_law_far","_law_odd_here"])(S:ed f.aL):∀s,dW f (1+s) "_law_paired" vu z ["_law_far","_law_odd_here"] 2 (G.l3 s)
 |0=>Ca L
 |s+1=>by
  have b:=IH L S  s;refine ef UD L λae k O WH m g VP a=>?_;exact (bh (fQ (dt (hS<|bX a) (ax 1) (aY (gh (by exact jb)))<|d1 _) (bS<|dq fZ) gW) (bh (cM 2 ae (gh (by exact jb))) (bh (gp (WJ:=[0,1]) e5 rfl (UN rfl S.nI<|b6 a0<|aY<|dI fA S.fi fe<|bD<|ax 1) (fk 3 ae) (bS<|hY<|jw ih ib k4 k2 kJ (bT 2)<|bD<|cF eI (c0 a (aY<|xh<|il a (ax 0)<|c0 a (ax 1) a0)<|c0 a (ax 1)<|ax 3)<|aY<|tw b a (bB _)<|b6 (ax 0)<|cF eI (aY<|lA (ax 1) (kY fZ)<|kY<|d0<|bT 3)<|aY<|lA (ax 1) (kY<|hI eI (ax 3) a0) m1) ∅ Uu)<|bS<|dq<|dI (TS rfl<|bX a) S.si q0<|bD<|ax 2)))
abbrev FV(f:d4)(z:au):Prop:=dW f 10 "_law_least" yA z ["_law_field_here","_law_a","_law_b"] 3 G.vK
def Lf(L:dB f.K f.aL "_law_least" yA z ["_law_field_here","_law_a","_law_b"])(S:ed f.aL){b:au}(c:vf f b){d:au}(e:Hy f d){h:au}(i:dW f 9 "_law_paired" vu h ["_law_far","_law_odd_here"] 2 (G.l3 8)):FV f z:=by
 refine ef Ql L λae k O WH m g VP a=>?_;exact (bh (cM 3 ae<|cD c a<|fU (ax 0) (ax 1)<|ax 2) (bh (cM 4 ae (hU (sd rfl<|qY a) rfl S.rq q7 (bD (aY (k7 ["_law_cell"] [0] (eg<|ax 3) (λj=>(fJ 0)) (λj=>(hA (by exact (b6 (ax 0)<|aY<|AY<|cD e a<|b6 (ax 1)<|ax 0)))))))))<|bS<|dq<|cD i a<|b6 (ax 4)<|ax 3))
abbrev T2(f:d4)(z:au):Prop:=dW f 21 "law" qk z ["_law_script"] 1 G.o5
def QD(L:dB f.K f.aL "law" qk z ["_law_script"])(S:ed f.aL){d:au}(e:DQ f d){h:au}(i:GV f h){l:au}(n:Iu f l){o:au}(c:GR f o){p:au}(q:Ft f p){r:au}(s:HQ f r){t:au}(u:xy f t){v:au}(w:FV f v){x:au}(y:vf f x):T2 f z:=by
 refine ef AG L λae k O WH m g VP a=>?_;exact (bh (gp (WJ:=[0]) e5 rfl (pS rfl S.nI<|bD a0) (fk 1 ae) (bh (cM 2 ae<|cD e a<|b6 (ax 0)<|ax 1) (bh (i5 (cD i a<|fU (ax 2) (aY<|cD n a<|b6 (ax 2) a0) a0)<|B4 rfl<|nT (fk 3 ae)<|nT (fk 4 ae)<|nT (fk 5 ae) Au) (bh (cM 6 ae<|cD c a<|fU (ax 3) (ax 4)<|ax 5) (bh (fQ (gy.jX<|m2 (sL<|pQ<|aY<|cD q a<|b6 (ax 3)<|ax 6)<|m2 (dt (jV<|bX a) (c0 a (ax 6) a0) (ax 4)<|d1 _)<|px<|dt (jV<|bX a) (c0 a (ax 6)<|aY<|y1 fZ) (ax 5)<|d1 _) (bS<|dq i0) gW) (bh (ma (j:=7) ae rfl (Or.inr rfl) (JL<|cD s a<|bD<|ax 6) ∅) (bh (ma (j:=8) ae rfl (Or.inr rfl) (kC (own:=["_law_lane"]) (Wk:=[7]) rfl (i8 (dP qk) AG (by decide +kernel)) ∅ (QP<|ax 7) (λb=>(fJ 0)) (λb=>(kg<|dt (hS<|bX a) (c0 a (ax 1)<|ax 0) a0<|d1 _))<|λb=>(d0<|bT 0)) ∅) (bh (fQ (gy.jX<|m2 (dt (jV<|bX a) (aY<|dI (tG rfl<|bX a) S.s7 sQ<|bD<|ax 7) (aY<|cD u a<|bD<|ax 3)<|d1 _)<|px<|dt (jV<|bX a) (cF eI (aY<|dI RI S.fi fe<|bD<|ax 7)<|aY<|dI fA S.fi fe<|bD<|ax 8) (cF pg (aY<|dI fA S.fi fe<|bD<|ax 6) a0)<|d1 _) (bS<|dq i0) gW) (bh (fQ (dt (jV<|bX a) (aY<|dI fA S.fi fe<|bD<|ax 8) (aY<|cD w a<|fU (ax 3) (ax 4)<|ax 5)<|d1 _) (bS<|dq i0) gW) (bh (x3 (j:=9) (own:=["_law_cell"]) (Wk:=[8]) ae rfl (Or.inl rfl) rfl (i8 (dP qk) AG (by decide +kernel)) ∅ (eg<|ax 3) (λb=>(oH (j:=0) (show (["_law_cell" ,"_law_twice"]:List aF).Nodup by decide +kernel) rfl (Or.inr rfl) ∅)) (λb=>(kg (dt (hS<|bX a) (cF gV (aY (dI fA S.fi fe (bD (aY (kC (own:=["_law_lane"]) (Wk:=[0]) rfl (PE (by with_unfolding_all rfl)) ∅ (eg<|ax 1) (λb=>(fJ 0)) (λb=>(kg<|dt (nR<|bX a) (ax 1) (ax 0) rfl))<|λb=>(d0<|bT 0)))))) a0) a0<|d1 _))) (λb=>(d0<|bT 0)) ∅)<|bS<|fQ (gy.jX<|m2 (dt (jV<|bX a) (ax 9) (aY<|cD y a<|fU (ax 3) (ax 4)<|ax 5)<|d1 _)<|px<|dt (jV<|bX a) (aY<|cD c a<|fU (ax 3) (ax 4)<|ax 5) (ax 6)<|d1 _) (bS<|dq i0) gW))))))))) ∅ uG) (bS (dq (qH (hS<|bX a) (aY (cD c a (fU (gF (by exact (bD (gF (by exact (b6 a0 a0)))))) (gF (by exact (b6 a0 a0))) (gF (by exact (b6 a0 a0)))))) (gF (by exact (bD (gF (by exact (b6 a0 a0))))))<|d1 _))))
end
def all_mk{C:bf}{U:Φ}{c:a4}{aL:aF->Option ah}{j s t u v w x y z A B D E F H I L M N O P Q R T al am an ap as a1 a2 bd be:au}(e:U.In c)(a:c.Ns ec aL)(bi:aL "law" = Z (.ref j)){k:iE}(bm:dy U "lesser_first" xN s)(bn:dy U "lookup" wZ t)(bs:dy U "around" zD u)(bv:dy U "neighbours" uk v)(ca:dy U "lanes" vd w)(cd:dy U "odd_cells" ta x)(ce:dy U "steps_from" xn y)(ch:dy U "steps_from_each" yI z)(ci:dy U "without" vO A)(l:dy U "pairs_with" tn B)(cl:dy U "fewest_pairs" r5 D)(co:dy U "few_odd_cells" Ac E)(cr:dy U "lanes_back" s8 F)(cs:dy U "again" wa H)(db:dy U "ways_by" zu I)(ds:dy U "walk_along" wN L)(dL:dy U "all_lanes" wg M)(eq:dy U "_law_left" Al N)(ev:dy U "_law_pick" xm O)(ex:dy U "_law_beside" xW P)(fn:dy U "_law_part" wy Q)(fr:dy U "_law_grown" yB R)(f0:dy U "_law_field" se T)(f1:dy U "_law_lanes" tD al)(f2:dy U "_law_odd" u7 am)(f4:dy U "_law_tamed" zO an)(f8:dy U "_law_is_walk" wO ap)(ga:dy U "_law_gone" yX as)(ge:dy U "_law_steps" y2 a1)(gl:dy U "_law_paired" vu a2)(go:dy U "_law_least" yA bd)(n:dy U "law" qk be)(gt:Ξ U ec "MOST" = Z (Z<|.int 14 k))(g1:Ξ U ec "all" = Z X)(g2:Ξ U ec "bool" = Z X)(g3:Ξ U ec "dict" = Z X)(hd:Ξ U ec "int" = Z X)(he:Ξ U ec "isinstance" = Z X)(hf:Ξ U ec "len" = Z X)(hm:Ξ U ec "max" = Z X)(hw:Ξ U ec "min" = Z X)(h0:Ξ U ec "range" = Z X)(ii:Ξ U ec "reversed" = Z X)(im:Ξ U ec "sorted" = Z X)(io:Ξ U ec "tuple" = Z X)(it:Ξ U ec "zip" = Z X):
  ∃fd:hj,(∀(m:aw) (r:ah),my m fd ⟨[r],[]⟩ [("_law_script",r)])/\∀Wj:a4,U.In Wj->Wj.Ns ec aL->iP J.prog C U aL Wj ir 21 j fd ["_law_script"] (kT 1 G.o5):=by
 have S:ed aL:=⟨iZ e a g1,iZ e a g2,iZ e a g3,iZ e a hd,iZ e a he,iZ e a hf,iZ e a hm,iZ e a hw,iZ e a h0,iZ e a ii,iZ e a im,iZ e a io,iZ e a it,⟨k,oU e a gt⟩⟩;have h_w9:=l.lz (VV:=["away","cells","other","known"]) e a;have h_w10:=cl.jN (VV:=["away","cells","known"]) e a;have h_w29:=gl.dr (VV:=["_law_far","_law_odd_here"]) e a;refine O3 n e a bi (λ_ Y Y Y Y Y Y Y=>.of_eq rfl) λWj=>?_;let f:d4:=⟨J.prog,C,U,aL,Wj⟩
 have jp:=Q5 (f:=f) (bm.dr e a) S;have d:=NP (f:=f) (bn.dJ e a) S;have g:=P9 (f:=f) (bs.dJ e a) S;have o:=Ri (f:=f) (bv.dr e a) S g;have kt:=P7 (f:=f) (ca.dJ e a) S d o;have kv:=MI (f:=f) (cd.jN e a) S d o;have kw:=Lr (f:=f) (ce.dr e a) S g;have lc:=RE (f:=f) (ch.dr e a) S kw;have lf:=SY (f:=f) (ci.jN e a) S;have li:=JN (f:=f) h_w10 S (l.lz e a) lf 8;have lm:=UQ (f:=f) (co.jN e a) S kv;have ln:=KC (f:=f) (cr.dr e a) S g jp;have ls:=Tt (f:=f) (cs.jN e a) S lm lc d li ln;have lv:=Th (f:=f) (db.dr e a) S;have lw:=T8 (f:=f) (ds.dr e a) S;have mb:=U3 (f:=f) (dL.jN e a) S lw lv kt ls;have mo:=K9 (f:=f) (eq.dr e a) S;have h:=Oj (f:=f) (ev.dr e a) S;have b:=Ln (f:=f) (ex.dJ e a) S;have p:=KQ (f:=f) (fn.dr e a) S b;have ms:=NI (f:=f) (fr.dr e a) S h b;have m0:=Si (f:=f) (f0.dr e a) S h ms p;have q:=Pp (f:=f) (f1.dJ e a) S b;have i:=LJ (f:=f) (f2.jN e a) S q;have na:=KG (f:=f) (f4.jN e a) S h i p;have nb:=Ui (f:=f) (f8.dr e a) S b;have ne:=S2 (f:=f) (ga.dJ e a) S;have nl:=Ny (f:=f) (ge.dr e a) S b;have nm:=IH (f:=f) h_w29 S  8;have nn:=Lf (f:=f) (go.jN e a) S i nl nm;exact QD (f:=f) (n.dJ e a) S mo na m0 mb nb ne q nn i
def walk{u:bu}{e:List aF}{f:(aF->Option ah)->a4->Prop}{a:bf->a4->Prop}{o:DefRec}{U:vq->Φ}(i:J.most=Z 63)(j:o.params.defaults=[])(l:∀(C:bf) (c:a4),a C c->(U C.params).In c)(n:∀q,rd (U q)=ab)(L:∀(C:bf) (aL:aF->Option ah) (d:au) (c:a4),(U C.params).In c->c.Ns ec aL->aL o.name=Z (.ref d)->
   ∃fd:hj,(∀(m:aw) (I:ah),my m fd ⟨[I],[]⟩ [("_law_script",I)])/\∀Wj:a4,(U C.params).In Wj->Wj.Ns ec aL->iP J.prog C (U C.params) aL Wj ir 21 d fd ["_law_script"] (kT 1 G.o5)):
  PySem.W.WalkO u e f a J.row.toRowW o [] (λz P=>PySem.call z P):=
 L2.Rv (v:=63) (s:=21) (b := "_law_script") (W3:=λ_=>ir) (W6:=λC=>kT 1 G.o5) i ∅ j ⟨rfl,by decide,by decide,rfl⟩ l L (λC g h V4 p r t=>QM (n C.params) g h V4 r t (G.UE V4 (C1 p ∅))) λ_ Y Y Y Y k=>k
end K27
namespace PySem.W.Fast
def tw713331282627789949:=(0)
def tw16516247683297467584:=(0)
def tw17915566532457976128:=(0)
def tw10975161629117538016:=(0)
def tw8751019888560035905:=(0)
def tw13000123850721419585:=(0)
def tw7466486770277354849:=(0)
def tw16502818710329433537:=(0)
def tw7773108380308742049:=(0)
def tw4164318682098910562:=(0)
def tw9083362438627292706:=(0)
def tw14593101856184561570:=(0)
def tw14078917156867833859:=(0)
def tw5538135471316270979:=(0)
def tw1463905147429457891:=(0)
def tw13523875286117889540:=(0)
def tw15825101592747322148:=(0)
def tw8290583391787223141:=(0)
def tw8222004043504216357:=(0)
def tw9686777864833595717:=(0)
def tw1423054871790245285:=(0)
def tw15866275760440950565:=(0)
def tw14168874689909009510:=(0)
def tw4840149777526580358:=(0)
def tw11136332114149300454:=(0)
def tw4609363539186154918:=(0)
def tw2517428110932792838:=(0)
def tw1260305249781158566:=(0)
def tw12609468307727589062:=(0)
def tw7642690965076827495:=(0)
def tw11400753298078679431:=(0)
def tw11212754994934398727:=(0)
def tw16415260235023954984:=(0)
def tw5725949522049473064:=(0)
def tw2159615187673933384:=(0)
def tw11415723432493933577:=(0)
def tw215252284732253225:=(0)
def tw6597296289947012233:=(0)
def tw11451775286807789769:=(0)
def tw16259709228853100937:=(0)
def tw10451471597071613609:=(0)
def tw2297630752583320297:=(0)
def tw18252129129767920810:=(0)
def tw6109271463160769706:=(0)
def tw6086382694957459690:=(0)
def tw14988822649737230154:=(0)
def tw4924871772804575307:=(0)
def tw15643736069332415691:=(0)
def tw17804528787602090283:=(0)
def tw7703579127978818923:=(0)
def tw10974674019142267275:=(0)
def tw7010097826243167019:=(0)
def tw9691593121176068172:=(0)
def tw6655626246733172396:=(0)
def tw13740978513220406124:=(0)
def tw4153649616959364109:=(0)
def tw3707968019634995725:=(0)
def tw13982374008718482253:=(0)
def tw15432935181924467565:=(0)
def tw12427526826243605550:=(0)
def tw12246664875683436654:=(0)
def tw9422103764301249870:=(0)
def tw16155188670347056462:=(0)
def tw17821871102925464014:=(0)
def tw1001464575799662062:=(0)
def tw6632383117412718190:=(0)
def tw11099088294015058670:=(0)
def tw4234406833155269358:=(0)
def tw12314083502496651054:=(0)
def tw13823121226645368239:=(0)
def tw11467826527436593583:=(0)
def tw1079978886509040111:=(0)
def tw2307733608112264047:=(0)
def tw4829299745020503951:=(0)
def tw11882305271302932592:=(0)
def tw8939395570227017296:=(0)
def tw14202089503692417712:=(0)
def tw1067275117126931216:=(0)
def tw11686277443647742097:=(0)
def tw5442377319894598961:=(0)
def tw16397321475745035633:=(0)
def tw13080723715980690865:=(0)
def tw1118556856758674065:=(0)
def tw1552229351579339633:=(0)
def tw10122044897591632817:=(0)
def tw17589186340908395922:=(0)
def tw7885106699878319155:=(0)
def tw7603992732282779315:=(0)
def tw35699692417612467:=(0)
def tw1731690583388601396:=(0)
def tw4635895883020009876:=(0)
def tw9327371893577583316:=(0)
def tw3331875303143916661:=(0)
def tw4527274415795209589:=(0)
def tw6297933957057447829:=(0)
def tw13807910162180195478:=(0)
def tw11181740961286149462:=(0)
def tw3995400647273026134:=(0)
def tw14366895744324470454:=(0)
def tw17956239763097812694:=(0)
def tw17005001572761519926:=(0)
def tw9583320804371899254:=(0)
def tw17665719283920329975:=(0)
def tw7278746375697473975:=(0)
def tw5743268506459055607:=(0)
def tw790463478762167895:=(0)
def tw17099244934186247063:=(0)
def tw17459544186272421048:=(0)
def tw9309453695446266168:=(0)
def tw17344064958516239320:=(0)
def tw2290274797763360985:=(0)
def tw10476159053409445113:=(0)
def tw15749351023595332217:=(0)
def tw17363535148068835418:=(0)
def tw10091303032484192666:=(0)
def tw6892724569178661434:=(0)
def tw786337290695814714:=(0)
def tw11788855125348056826:=(0)
def tw2375259532858807130:=(0)
def tw10461689593521030491:=(0)
def tw10332608217030747771:=(0)
def tw13486410903063125755:=(0)
def tw15759749251154908091:=(0)
def tw2964323353983327548:=(0)
def tw8834620881590006268:=(0)
def tw1260323718341246556:=(0)
def tw593664137712173724:=(0)
def tw13787092680463822492:=(0)
def tw18070173439834260156:=(0)
def tw267673622746359676:=(0)
def tw5602693518504305085:=(0)
def tw4284243542152738301:=(0)
def tw3800040861431160990:=(0)
def tw3271063641354914142:=(0)
def tw8311626226587644510:=(0)
def tw17068451178146606271:=(0)
def tw15518864521659781343:=(0)
def tw11084066584371012287:=(0)
def tw4924531431580794815:=(0)
end PySem.W.Fast
end
open PySem PySem.W PyProof.Rows
set_option maxRecDepth 100000 in
set_option maxHeartbeats 0 in
theorem PySem.Challenge.cw_mowfloor_k27_walks_along_all_lanes_holds : PySem.Challenge.rw_mowfloor_k27_walks_along_all_lanes.Holds := by
  w_on; o_law; k_head; (case hw => w_witness2)
  k_fill
  refine K27.walk (J := PySem.Challenge.rw_mowfloor_k27_walks_along_all_lanes) rfl rfl (fun w h Y => PySem.W.kIn_of Y) ?hK ?F
  case hK => intro p; rfl
  case F =>
    intro w mg fa h KX G hmg
    apply K27.all_mk KX G hmg
    iterate 32 (apply L2.EV; iterate 4 k_is)
    iterate 14 k_is
