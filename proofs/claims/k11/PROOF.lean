import PyProof.Rows.All
import Wide.All
import OpenK.AllK
import Wide.FinOn
import Lean
import PyProof.EqAt
import PyProof.EqKinds
import PyProof.TupleCall
import KE.KLam
import PyProof.IsiNone
import PyProof.NeKinds
import PyProof.MaxThree
import PyProof.Rows.SetFrom
import PyProof.WalksMore
import PyProof.CallStr
import KE.KRevIter
import KE.KSortKey
import PySem.Challenge.RW_mowfloor_k11_all_runs
set_option maxHeartbeats 4000000
set_option Elab.async false
set_option compiler.extract_closed false
open List (range range' replicate)
noncomputable section
local macro_rules|`(∅)=>`(by decide)
local macro_rules|`(⇑$e)=>`(by simpa using $e)
local macro_rules|`(↥$_)=>`(by simp)
local macro_rules|`(tactic|let $p:term:=$e)=>do
 let q:=p.raw
 let X (s:Lean.Syntax):=s.isOfKind ``Lean.Parser.Term.explicit
 let I (s:String):=Lean.mkIdent (.mkSimple s)
 let l:=(if X q then q[1] else q)[1].getSepArgs
 let n:=l.size
 let j:=if X q then 0 else ((l.findIdx? X).map (·+1)).getD 99
 let mut b:Array Lean.Ident:=#[]
 let mut t:Array (Lean.TSyntax `tactic):=#[]
 let w:=I "ζ"
 let E:=e.raw
 let u:=E.getId
 let c:=j<99&&E.isIdent&&l.any fun s=>s.getId==u||s[1].getId==u
 let h:=I "ξ"
 let u:=u.toString
 let u:=if u.startsWith "ζ" then u else "ζ"
 let d:Lean.Term:=if c then h else e
 let r ←if c then `(tactic|(revert $(⟨e⟩):ident;intro $h:ident)) else `(tactic|skip)
 if j<99&&E.isIdent then t:=t.push (←`(tactic|try clear $(⟨d⟩):ident))
 for i in [0:n] do
  let s:=if i+1==j then l[i]![1] else l[i]!
  let z:=I s!"{u}{i}"
  if s.isIdent&&(j==99||s.getId != `rfl) then b:=b.push ⟨s⟩
  else
   b:=b.push z
   if s.isIdent then t:=t.push (←`(tactic|subst $z))
   else if !s.isOfKind ``Lean.Parser.Term.hole then t:=t.push (←`(tactic|let $(⟨s⟩):term:=$z))
 let A:=b.extract j n
 let B:=b.extract 0 j
 let k:=I s!"xE{j}"
 if j==99 then `(tactic|(obtain ⟨$[$b:ident],*⟩:=$e;$t;*)) else if j==0 then `(tactic|($r;refine $(I s!"xA{n}") ($d :) fun $b* =>?_;$t;*)) else if j+1==n then `(tactic|($r;refine $k ($d :) fun $b* =>?_;$t;*)) else `(tactic|($r;refine $k ($d :) fun $B* $w=>?_;refine $(I s!"xA{n-j}") $w fun $A* =>?_;clear $w;$t;*))
local macro_rules|`(command|def $i:declId $s:optDeclSig:=$v)=>if v.raw.isOfKind ``Lean.Parser.Term.paren then `(command|noncomputable def $i $s:optDeclSig:=$v) else (·.raw.rewriteBottomUp (·.setInfo .none))<$>`(command|theorem $i $(⟨.node .none ``Lean.Parser.Command.declSig #[s.raw[0],s.raw[1][0]]⟩):declSig:=$v)|`(command|def $i:declId $s:optDeclSig $v:matchAlts)=>`(command|noncomputable def $i $s:optDeclSig $v:matchAlts)|`(command|@[simp] def $i:declId $s:optDeclSig:=$v)=>`(command|@[simp] noncomputable def $i $s:optDeclSig:=$v)|`(command|@[simp] def $i:declId $s:optDeclSig $v:matchAlts)=>`(command|@[simp] noncomputable def $i $s:optDeclSig $v:matchAlts)|`(command|abbrev $i:declId $s:optDeclSig:=$v)=>`(command|noncomputable abbrev $i $s:optDeclSig:=$v)
local macro_rules|`(⋯)=>`(by lia)
open Option renaming bind_eq_some_iff->bl,map_eq_some_iff->cb,isSome_iff_exists->rU,isSome_map->p3,getD_some->qF
open PySem renaming wpAny_bind->aD,wpAny_pure->bk,wpAny_seqItems->hg,wpAny_mono->fq,wpAny_call_entry->iS,wpAny_newObj_type->jB,wpAny_callSpecial?_slot->mT,wpAny_holding->iq,wpAny_truthy_bool->j0,wpAny_typeNameOfWhole_keyiter->qf,wpAny_field->hl,wpAny_setField_rec->l1,wpAny_passesOwn->ky,wpAny_rule->ik,wpAny_letGo->jI,wpAny_forIn_list->nc,wpAny_attempt->mJ,wpAny_Call_Name_kw->qH,wpAny_newList->oS,wpAny_updateSeq_pair->sZ,wpAny_execs_nil->pn,wpAny_setField->pk,wpAny_tryCatch->qb,wpAny_dictEntries->sP,wpAny_standAt->rt,wpAny_onRaise->p0,plainId_quiet->rC,wpAny_isInstance->td,noFill_tuple_add->r9,richCompare_meets_room->BH,wpAny_specialOf->ux,wpAny_dictEpoch->tI,codeAny_builtin->sb,wpAny_updateSeq->vq,wpAny_isOneOf_keyiter->yY,wpAny_loadName_local->yW,wpAny_newTuple->tu,wpAny_loadName_cell->BO,wpAny_Assign_stores->zk,seq_tuple_add->sy,eqIsQuiet_byValue->AN,wpAny_assign_Name->xJ,codeAny_mono->u0,concat_meets->vl,seqIndex_neg->vv,list_append->yX,wpAny_pyIter_list->z6,wpAny_collect_seq->AV,wpAny_pyHash_int->BW,wpAny_pyHash_str->zU,wpAny_execs_cons->AL,wpAny_pyIter_zip->z4,sizeLine_eq->sT,seqIndex_of->sC,wpAny_of_eq->tp,wpAny_Name->tY,typeIs_str->tx,wpAny_fieldsOf->yZ,isSubtype_stop->wb,wpAny_handled->Br,intBits_le_64->zx
open List renaming append_assoc->bb,getD_eq_getElem?_getD->b6,length_map->bF,perm_append_comm->cA,append_nil->bN,size_toArray->cC,getElem?_eq_getElem->dR,mem_append_right->dr,mem_cons->cu,mem_singleton->dk,getElem?_eq_some_iff->eT,nodup_append->dp,map_cons->c3,take_append_drop->eS,length_cons->dK,length_append->eK,getElem?_map->eJ,pairwise_singleton->fX,lookup_cons->eA,mem_append_left->fM,mem_append->er,drop_eq_getElem_cons->ir,pairwise_cons->fW,length_take->g7,length_drop->gU,nodup_cons->gZ,mem_range->gq,getElem?_append_right->lz,length_range->hW,mem_cons_of_mem->jc,getElem?_append_left->lF,mem_map->fN,nodup_nil->hc,map_append->ic,pairwise_iff_getElem->mh,length_singleton->kM,mem_cons_self->jK,getElem?_drop->j5,getElem?_set_ne->k4,all_eq_true->jl,mem_of_mem_drop->k0,drop_of_length_le->mD,find?_cons->je,getElem?_take->lj,map_map->hZ,mem_of_mem_take->md,eq_nil_of_length_eq_zero->rG,getLast?_eq_none_iff->qT,mem_of_getElem?->nt,ext_getElem?->ml,map_drop->ks,map_take->kp,map_congr_left->nN,drop_drop->lC,drop_zero->lp,mem_nil_iff->lZ,getElem?_set_self->pl,length_nil->mv,any_cons->kY,cons_append->nK,filter_cons->om,foldl_cons->og,getLast?_singleton->uR,take_sublist->q5,getElem_drop->pB,take_of_length_le->r2,drop_take->oh,pairwise_map->rL,getElem?_eq_none->tg,any_toArray->qS,pairwise_append->sD,mem_of_getLast?->sF,getLast?_append->tn,length_set->rP,nil_append->qO,filterMap_cons->r3,set_set->ng,lookup_append->sR,take_take->o_,setIfInBounds_toArray->Bw,getLast?_eq_getElem?->w7,getElem?_zip_eq_some->w_,getElem_take->tA,drop_sublist->uB,nodup_range->tG,drop_length->tv,take_length->uK,zipIdx_cons->u5,not_mem_nil->u4,map_nil->o5,mem_filter->uy,of_mem_zip->r1,forIn_cons->uP,set_append_right->y3,dropLast_eq_take->yB,mem_iff_getElem->AS,extract_toArray->AK,getElem?_range->xh,perm_iff_count->A0,length_reverse->yd,mem_filterMap->wA,set_cons_zero->yA,filter_append->zV,getElem?_set->xV,count_append->xN,getElem_inj->Ac,getElem_mem->vP,map_toArray->xx,ext_getElem->y4,getElem_map->xt,countP_cons->yv,any_eq_true->wH,zipIdx_nil->AE,length_zip->y9,filter_nil->Ad,count_cons->Aw,take_zero->wI,forIn_nil->zj,set_comm->Bu,all_map->BI,any_map->y7,not_lt->A9,map_id->yT
open PySem.Heap renaming get?_push_of_some->b4,lt_size->bQ,get?_push_size->df,get?_update_other->gm,size_push->jn,get?_update_self->oN
open PySem.W renaming kasC_pure->a3,kasC_bind->a4,mg_none_of->hL,kasC_range->eQ,kasC_modify->i2,kasC_get->hU,mg_of->mL,kasC_lift->lH,cellsFrom_some->Ak,tab_of->yP,kat_item->rr,kas_swaps_map->wq,kas_range->s7,kat_kind->tw
open Nat renaming le_refl->bq,lt_of_lt_of_le->dn,ne_of_lt->c8,le_trans->dv,le_of_ble_eq_true->gC,lt_irrefl->fI,zero_le->gY,ne_of_gt->jR,le_add_right->ov,add_lt_add_iff_right->uM,lt_or_ge->mG,lt_succ_self->p1,add_assoc->ox,min_eq_left->pU,le_of_lt->nU,add_sub_cancel->sA,le_succ_of_le->sx,lt_of_le_of_lt->z3,sub_self->uh,zero_add->s6,lt_trichotomy->yb,succ_le_succ->Bk,le_of_eq->vL,min_self->Ax,not_lt->Bd
open List.Perm renaming append_left->c4,append_right->dO,eq_of_pairwise->Bs,map->yI,eq_nil->GL
open Bool renaming and_eq_true->cE,false_ne_true->dg,false_eq_true->hM,not_eq_true'->l6,eq_iff_iff->rT,or_eq_true->sh,not_true->vG,and_true->v_
open Array renaming length_toList->eD,getElem?_toList->gi,ext'->iT,getD_eq_getD_getElem?->xu,perm_iff_toList_perm->yL,getElem?_eq_getElem->xd,getElem_toList->zK,forIn_toList->w6,toList_push->xO
open PySem.F renaming slot_dict_keyiterator_next->oI,slot_tuple_iterator_next->q7,args_tuple_add_2->so,slot_list_append->rX,type_list_append->vd,entry_tuple_add->vb,slot_tuple_hash->o4,slot_tuple_add->vC,args_dict_keyiterator_next_1->zW,entry_dict_keyiterator_next->xq,args_tuple_iterator_next_1->vU,slot_zip_next->rp,entry_tuple_iterator_next->ze,plainAttrs_list->vY,args_list_append_2->BM,entry_list_append->ya,slot_list_append->z1,args_zip_next_1->Ay,slot_dict_iter->z0,entry_zip_next->wd
open Ne renaming symm->d3
open PyProof.Rows renaming get?_update_seq->kO,callWith_type1->r8,listUpdate_at->mM,subscriptTail_builtinR->wM,entry_list_sort->uv,seqEpoch_at->qY,slot_list_sort->tj,assign_Tuple_tuple->zh,listItems_at->tK,plain_sorted->tF,entry_sorted->sz,callWith_builtin1->Hm,kind_sorted->tc,elem'_eq->p2,args_list_sort->yC,args_sorted1->zv,lt_int->H6,gt_int->Gw
open PySem.PassesOwn renaming never->kU
open Int renaming le_refl->jE,emod_lt_of_pos->oB,emod_nonneg->mR,toNat_natCast->o6,mul_ediv_add_emod->AF,le_trans->vi,ediv_nonneg->x4,not_lt->tQ,add_assoc->zc,add_zero->yx,mul_one->Bx
open PySem.Heap.SameBut renaming update->pA
open PySem.Obj renaming data_mapFields->pw,isFreed_of_fields->BN,cls_mapFields->yS
open PySem.Around renaming under_plainId->tO,frames_deeper->AY
open PySem.Calls renaming Name_function_global->v9,call_function_entry->zt
open PySem.SeqAt.RcNeAt renaming lists_lengths->zi,none_tuple->ED,bool_tuple->CY,tuple_none->Jp,tuple_bool->Jl,none_none->CB,none_bool->FT,bool_none->JN,bool_bool->Ee,int_tuple->Jm,str_tuple->Ke,tuple_int->F7,tuple_str->Gh,none_int->HO,none_str->Gk,bool_int->JG,bool_str->DL,int_none->JW,int_bool->FR,str_none->F6,str_bool->KA,int_int->Jo,int_str->Jj,str_int->H9,str_str->FF,tuples->FE,lists->KD
open PySem.AutoSeq1 renaming sub_tuple_tuple->vZ
open PySem.W.Looks renaming of_pure->sL
open PySem.SeqAt.EqAt renaming int_str->Bm,str_int->Bt,none_tuple->Ew,bool_tuple->He,tuple_none->B6,tuple_bool->Dh,none_bool->Gs,bool_none->Cb,bool_bool->GK,int_tuple->Hf,str_tuple->Cw,tuple_int->FQ,tuple_str->Cy,none_int->EE,none_str->E5,bool_int->Hu,bool_str->E1,int_none->DG,int_bool->Fz,str_none->Kv,str_bool->Dd,int_int->Gx,str_str->G7,of_refs->DX
open PySem.SeqAt.RcAt renaming tuples->wt,lists_lengths->FD,none_tuple->EC,bool_tuple->KN,tuple_none->Hg,tuple_bool->G4,none_none->I9,none_bool->Hz,bool_none->J4,bool_bool->HW,int_tuple->DU,str_tuple->J5,tuple_int->Dj,tuple_str->Hs,none_int->G3,none_str->JX,bool_int->B8,bool_str->Kl,int_none->Fs,int_bool->Ks,str_none->Hl,str_bool->Co,int_int->FH,int_str->JP,str_int->IQ,str_str->EN,lists->B3
open PySem.IsL renaming update->vM
open List.Nodup renaming length_le_of_subset->H2
open StateT renaming run_pure->yG
open List.cons renaming injEq->zq
open Prod renaming ext->pG
open Classical renaming epsilon_spec->Gv
open List.Pairwise renaming imp₂->EW,map->B0
open PySem renaming Scope->dU,Str->az,Heap->a0,Value->aa,Sem->da,Addr->af,Stmt->cv,CmpOp->iI,Expr->a7,Obj->aQ,Shared->ag,Around->a9,GenState->vj,World->a5,Program->bf,reduceHash->r5,Builtin->bO,cLine->bP,model->aP,Tok->gX,Paired->d2,sysModules->hE,TriplesOk->tk,codeAmong->l9,mainGlobals->cT,builtinsNs->hk,bootBuiltins->ez,Env->dy,Model->ft,storeName->tT,eval->bU,isTrue->l5,backTo->ek,starEach->bu,swapsWith->kx,assign->fO,assignEach->eo,setItem->rn,Operator->mO,swapsWithSole->pD,swappedStores->rb,PassesOwn->n0,pyNext->hN,letOwnedTupleGo->nH,pyIter->ry,rawInt->ep,foldedSetIterable->jX,binaryOp->eU,compareOp->dz,behindInMarks->lA,recursionLimit->y1,FuncData->fu,BindsTo->jM,bindArgs->iD,Keyword->lB,NameKind->ct,cellsFrom->u6,Arguments->nX,richCompare->lG,typeOf->qq,attributeBase->t8,backToKw->uq,keywordEach->se,valueAt->kR,atKey->jd,Params->pH,callerA->kZ,cellOf->pN,closureFor->qP,compEnvC->pb,newFunctionEnv->Aq,comprehension->uU,newList->nB,newExc->rz,newTuple->vn,firstArgMember->qc,field->ke,seqItems?->n4,ZipApart->o9,IsZip->hs,IsPair->gG,shortFactorBits->qy,checkCount->t_,PyData->nV,SetTable->rv
open Bool renaming true->V,false->ar
open Option renaming some->Z,none->Y
open PyProof.Rows renaming IsTup->nI,AllBare->jt,envOfC->fR,IntsAre->oi,bubble->m9,SortKind->fi,Keyed->aZ,SortSt->ba,pendingOf->fT,failedOf->fx,mergeAt'->pq,ltAt'->k3,reverseSlice'->nW,seqObj->cL,keyKind'->ui,tuples'->mH
open PySem.W renaming WData->oK,WShape->oA,kas_rev->jJ,kas_cmp->dQ,kas_item->aV,kas_st->nZ,Frag->Φ,nsIn->Ψ,tabIn->Ξ,fnOf->Θ,tabObj->Δ,keepIn->Γ,envX->Ω,codeIn->Φa,methodObj->Φb,CodeHd->Φc,noTabs->Φd,kla_obj->Φe
open PySem
abbrev aK:=@if_pos
abbrev aM:=@if_neg
abbrev es:=@decide_eq_false
abbrev eH:=@decide_eq_true
abbrev fK:=@of_decide_eq_true
abbrev gp:=@beq_self_eq_true
abbrev gD:=@if_false
abbrev rD:=@decide_eq_false_iff_not
abbrev q_:=@decide_eq_true_iff
abbrev vg:=@beq_eq_false_iff_ne
abbrev uo:=@decide_eq_true_eq
abbrev lu:=@or_false
abbrev t7:=@decide_eq_decide
abbrev jV:=@if_true
variable{L0:Sort _}{q:Prop}
def xE1{u:L0->Prop}(e:∃g,u g)(n:∀g,u g->q):q:=have ⟨g,B⟩:=e;n g B
variable{Mx:Sort _}
def xE2{u:L0->Mx->Prop}(e:∃g c,u g c)(n:∀g c,u g c->q):q:=have ⟨g,c,B⟩:=e;n g c B
variable{MM:Sort _}
def xE3{u:L0->Mx->MM->Prop}(e:∃g c o,u g c o)(n:∀g c o,u g c o->q):q:=have ⟨g,c,o,B⟩:=e;n g c o B
variable{MN:Sort _}
def xE4{u:L0->Mx->MM->MN->Prop}(e:∃g c o v,u g c o v)(n:∀g c o v,u g c o v->q):q:=have ⟨g,c,o,v,B⟩:=e;n g c o v B
variable{MO:Sort _}
def xE5{u:L0->Mx->MM->MN->MO->Prop}(e:∃g c o v d,u g c o v d)(n:∀g c o v d,u g c o v d->q):q:=have ⟨g,c,o,v,d,B⟩:=e;n g c o v d B
variable{MP:Sort _}
def xE6{u:L0->Mx->MM->MN->MO->MP->Prop}(e:∃g c o v d R,u g c o v d R)(n:∀g c o v d R,u g c o v d R->q):q:=have ⟨g,c,o,v,d,R,B⟩:=e;n g c o v d R B
def xE9{b:Sort _}{U:Sort _}{f:Sort _}{u:L0->Mx->MM->MN->MO->MP->b->U->f->Prop}(e:∃g c o v d R F a i,u g c o v d R F a i)(n:∀g c o v d R F a i,u g c o v d R F a i->q):q:=have ⟨g,c,o,v,d,R,F,a,i,B⟩:=e;n g c o v d R F a i B
variable{g c:Prop}
def xA2(e:g/\c)(n:g->c->q):q:=n e.1 e.2
variable{o:Prop}
def xA3(e:g/\c/\o)(n:g->c->o->q):q:=n e.1 e.2.1 e.2.2
variable{v:Prop}
def xA4(e:g/\c/\o/\v)(n:g->c->o->v->q):q:=n e.1 e.2.1 e.2.2.1 e.2.2.2
variable{d:Prop}
def xA5(e:g/\c/\o/\v/\d)(n:g->c->o->v->d->q):q:=n e.1 e.2.1 e.2.2.1 e.2.2.2.1 e.2.2.2.2
variable{R:Prop}
def xA6(e:g/\c/\o/\v/\d/\R)(n:g->c->o->v->d->R->q):q:=n e.1 e.2.1 e.2.2.1 e.2.2.2.1 e.2.2.2.2.1 e.2.2.2.2.2
def xA8{F a:Prop}(e:g/\c/\o/\v/\d/\R/\F/\a)(n:g->c->o->v->d->R->F->a->q):q:=n e.1 e.2.1 e.2.2.1 e.2.2.2.1 e.2.2.2.2.1 e.2.2.2.2.2.1 e.2.2.2.2.2.2.1 e.2.2.2.2.2.2.2
set_option linter.all false
set_option maxRecDepth 100000
namespace L2
open Spec PyProof.Rows
variable{LD:dU}{Mj f:az}{LB Lq e:a0}{aI:az->Option aa}{LO LR:List az}{R:aa->aa->da aa}{bY Mt:List af}{Mv:List cv}{L4:iI}{MC LC:Pos}{F:Int->Int->Int}{LS d:a7}{s n a LY:Nat}{Lu:List a7}{M:List (af×aQ)}{j S:ag}{x Ls:aa->ag->Prop}{O:a9}{Mk:Drawn}{MF:Array vj}{o c g:af}{Lr:Φ}{I:a5}{LF:bf}{D:aa}{LP:List aa}
inductive X where
 | aR|aF (c:Bool)|int (a:Int)|str (f:az)|tup (A:List X)|fn (g:af)|aN (A:List X)|fd
mutual
def X.beq:X->X->Bool
 |.aR,.aR=>V
 |.aF g,.aF c=>g==c
 |.int a,.int i=>decide (a=i)
 |.str f,.str l=>decide (f=l)
 |.tup g,.tup c=>X.jb g c
 |.fn g,.fn c=>decide (g=c)
 |.aN g,.aN c=>X.jb g c
 |.fd,.fd=>V
 |_,_=>ar
def X.jb:List X->List X->Bool
 |[],[]=>V
 |g::p,c::E=>X.beq g c&&X.jb p E
 |_,_=>ar
end
mutual
theorem X.beq_iff:∀g c:X,X.beq g c=V↔g=c
 |.aR,c=>by cases c<;>simp[X.beq]
 |.aF g,c=>by cases c<;>simp[X.beq]
 |.int a,c=>by cases c<;>simp[X.beq]
 |.str f,c=>by cases c<;>simp[X.beq]
 |.tup f,c=>by
  cases c with
  |tup l=>rw[X.beq,X.tX f l];simp
  |_=>simp[X.beq]
 |.fn g,c=>by cases c<;>simp[X.beq]
 |.aN f,c=>by
  cases c with
  |aN l=>rw[X.beq,X.tX f l];simp
  |_=>simp[X.beq]
 |.fd,c=>by cases c<;>simp[X.beq]
theorem X.tX:∀g c:List X,X.jb g c=V↔g=c
 |[],c=>by cases c<;>simp[X.jb]
 |f::p,c=>by
  cases c with
  |nil=>simp[X.jb]
  |cons l E=>rw[X.jb,cE,X.beq_iff f l,X.tX p E];simp
end
noncomputable instance:DecidableEq X:=λg c=>decidable_of_iff (X.beq g c=V) (X.beq_iff g c)
mutual
def cD(e:a0):X->aa->Prop
 |.aR,r=>r=.none
 |.aF c,r=>r=.bool c
 |.int a,r=>∃E,r=.int a E
 |.str f,r=>∃E,r=.str f E
 |.fn g,r=>r=.ref g
 |.aN _,r=>∃g,r=.ref g
 |.fd,r=>∃g,r=.ref g
 |.tup A,r=>∃g m T s,r=.ref g/\e.get? g=Z m/\m.cls=.type "tuple" /\ m.data=.seq T s/\c7 e A T.toList
def c7(e:a0):List X->List aa->Prop
 |[],Q=>Q=[]
 |v::A,Q=>∃r p,Q=r::p/\cD e v r/\c7 e A p
end
mutual
def X.key:Nat->X->Bool
 |_,.int _=>V
 |_,.str _=>V
 |s+1,.tup A=>X.keys s A
 |_,_=>ar
def X.keys:Nat->List X->Bool
 |_,[]=>V
 |s,v::A=>X.key s v&&X.keys s A
end
mutual
def pL(I:a5):X->Int
 |.int a=>hashInt a
 |.str f=>hashStr I f
 |.tup A=>r5 (bO.Tuple.tupleHashOf<|gM I A)
 |_=>0
def gM(I:a5):List X->List Int
 |[]=>[]
 |v::A=>pL I v::gM I A
end
mutual
def o1:X->Nat
 |.tup A=>iw A+1
 |_=>1
def iw:List X->Nat
 |[]=>0
 |v::A=>o1 v+iw A
end
theorem sO(I:a5):∀g c:List X,gM I (g++c)=gM I g++gM I c
 |[],c=>rfl
 |v::g,c=>by rw[nK,gM,gM,sO I g c,nK]
theorem sf:∀g c:List X,iw (g++c)=iw g+iw c
 |[],c=>by simp[iw]
 |v::g,c=>by rw[nK,iw,iw,sf g c];lia
theorem yh{s:Nat}:∀{g c:List X},X.keys s (g++c)=V->X.keys s c=V
 |[],c,e=>e
 |v::g,c,e=>by rw[nK,X.keys,cE]at e;exact yh e.2
theorem c7.length{e:a0}:∀{A:List X}{Q:List aa},c7 e A Q->A.length=Q.length
 |[],Q,d=>by rw[show Q=[] from d];rfl
 |v::A,Q,d=>by
  let⟨r,@p,rfl,W,d⟩:=d;rw[dK,dK,c7.length d]
def xQ(e Lq:a0):Prop:=(∀g m T s,e.get? g=Z m->m.cls=.type "tuple" -> m.data=.seq T s->Lq.get? g=Z m)
mutual
theorem cD.keep{e Lq:a0}(n:xQ e Lq):∀{v:X}{r:aa},cD e v r->cD Lq v r
 |.aR,_,d=>d
 |.aF _,_,d=>d
 |.int _,_,d=>d
 |.str _,_,d=>d
 |.fn _,_,d=>d
 |.aN _,_,d=>d
 |.fd,_,d=>d
 |.tup A,_,d=>by
  let⟨g,m,T,@s,rfl,y,z,a,b⟩:=d;exact⟨g,m,T,s,rfl,n g m T s y z a,z,a,c7.keep n b⟩
theorem c7.keep{e Lq:a0}(n:xQ e Lq):∀{A:List X}{Q:List aa},c7 e A Q->c7 Lq A Q
 |[],_,d=>d
 |v::A,_,d=>by
  let⟨r,@p,rfl,y,z⟩:=d;exact⟨r,p,rfl,cD.keep n y,c7.keep n z⟩
end
theorem yl{e:a0}:∀(s:Nat) {f l:X}{r:aa},X.key s f=V->X.key s l=V->cD e f r->cD e l r->f=l
 |s,.int a,l,r,_,aS,h,b=>by
  let⟨@E,rfl⟩:=h;cases l with
  |int i=>let⟨@D,d⟩:=b;injection d with d;rw[d]
  |str B=>let⟨@D,d⟩:=b;cases d
  |tup A=>let⟨W,W,W,@W,d,W⟩:=b;cases d
  |_=>cases s<;>cases aS
 |s,.str B,l,r,_,aS,h,b=>by
  let⟨@E,rfl⟩:=h;cases l with
  |int i=>let⟨@D,d⟩:=b;cases d
  |str B=>let⟨@D,d⟩:=b;injection d with d;rw[d]
  |tup A=>let⟨W,W,W,@W,d,W⟩:=b;cases d
  |_=>cases s<;>cases aS
 |s+1,.tup A,l,r,dc,aS,h,b=>by
  let⟨g,m,T,@H,rfl,y,z,o,t⟩:=h;cases l with
  |int i=>let⟨@D,d⟩:=b;cases d
  |str B=>let⟨@D,d⟩:=b;cases d
  |tup Lu=>
   let⟨F,LZ,I,@J,d,k,L,j,u⟩:=b;cases d;rw[y]at k;cases k;rw[o]at j;injection j with j _;subst j;have all:∀(A Lu:List X) (Q:List aa),X.keys s A=V->X.keys s Lu=V->c7 e A Q->c7 e Lu Q->A=Lu:=by
    intro A;induction A with
    |nil=>
     intro Lu Q W W g c;cases Lu with
     |nil=>rfl
     |cons d Lu=>let⟨W,@W,q,W⟩:=c;rw[show Q=[] from g]at q;cases q
    |cons v A w=>
     intro Lu Q L9 L_ g c;let⟨r,@p,rfl,x,C⟩:=g;cases Lu with
     |nil=>cases (show r::p=[] from c)
     |cons d Lu=>
      let⟨M,@Mc,q,cF,cS⟩:=c;cases q;rw[X.keys,cE]at L9 L_;rw[yl s L9.1 L_.1 x cF,w Lu p L9.2 L_.2 C cS]
   rw[all A Lu _ dc aS t u]
  |_=>cases aS
 |_,.aR,_,_,n,_,_,_=>by cases ‹Nat›<;>cases n
 |_,.aF _,_,_,n,_,_,_=>by cases ‹Nat›<;>cases n
 |_,.fn _,_,_,n,_,_,_=>by cases ‹Nat›<;>cases n
 |_,.aN _,_,_,n,_,_,_=>by cases ‹Nat›<;>cases n
 |_,.fd,_,_,n,_,_,_=>by cases ‹Nat›<;>cases n
 |0,.tup _,_,_,n,_,_,_=>by cases n
section
variable{Lx:bf}{I:a5}
theorem AG:∀(s:Nat) {O:a9}{Ls:aa->ag->Prop}{j:ag}{v:X}{r:aa}{x:Int->ag->Prop},X.key s v=V->O.units+s<bP->cD j.heap v r->x (pL I v) {j with toks:=j.toks+o1 v}->
  wpAny (aP Lx I) O (pyHash r) x Ls j
 |s,O,Ls,j,.int a,r,x,_,_,b,e=>by
  let⟨@E,rfl⟩:=b;exact BW e
 |s,O,Ls,j,.str a,r,x,_,_,b,e=>by
  let⟨@E,rfl⟩:=b;exact zU e
 |s+1,O,Ls,j,.tup A,r,x,n,t,b,e=>by
  let⟨g,m,T,@H,rfl,l,q,hd,Lv⟩:=b;have h:j.TypeIs (.ref g) "tuple" := ⟨m,l,q⟩;unfold pyHash;first|unfold pyHashByItsType|skip
  first|refine aD (wpAny_cRoomFor_or (.inr ⋯) ?_)|skip
  refine aD (ux h o4.lookup ?_);show wpAny _ _ (if (Z (aa.builtin "tuple.__hash__")==Z aa.none)=V then _ else _) x Ls j;rw[aM (by rw[beq_builtin_none];exact dg)];refine aD (ux h o4.lookup ?_);show wpAny _ _ (callSpecialIfBoundUnlessNone? (.ref g) "__hash__" _ >>= _) x Ls j;refine aD (wpAny_callSpecialIfBoundUnlessNone?_slot h o4<|iS o4 h F.entry_tuple_hash ?_<|F.args_tuple_hash_1 _);show wpAny _ _ (bO.Tuple.tupleItemsOf (.ref g) >>= _) _ _ j;refine aD (wpAny_tupleItemsOf l hd ?_);refine aD ?_;rw[<-w6];refine nc _
   (λcU (c:Array Int) S=>∃done left,A=done++left/\c7 j.heap left cU/\c.toList=gM I done/\S={j with toks:=j.toks+iw done})
   _ ?_ ?_ _ _ ⟨[],A,rfl,Lv,rfl,rfl⟩
  ·rintro f cU c S ⟨done,left,rfl,i,k,rfl⟩;cases left with
   |nil=>cases (show f::cU=[] from i)
   |cons v left=>
    let⟨r,@p,d,y,o⟩:=i;cases d;have L_:=yh (g:=done) (show X.keys s (done++v::left)=V from n);rw[X.keys,cE]at L_;refine aD (AG s L_.1 (by show O.units+1+s<bP;lia) y ?_);first
     | exact bk ⟨done++[v],left,by simp,o,by simp[k,sO,gM],by simp[sf,iw,ox]⟩
     | exact aD (bk (bk ⟨done++[v],left,by simp,o,by simp[k,sO,gM],by simp[sf,iw,ox]⟩))
  ·rintro c S ⟨done,left,rfl,i,k,rfl⟩;cases left with
   |cons v left=>let⟨W,@W,d,W⟩:=i;cases d
   |nil=>
   rw[bN]at e;show wpAny _ _ (retInt<|bO.Tuple.tupleHashOf c.toList) _ _ _;rw[k];refine wpAny_ret_mkInt ?_;show wpAny _ _ (if (decide (-(2:Int)^63<=bO.Tuple.tupleHashOf (gM I done))&&decide (bO.Tuple.tupleHashOf (gM I done)<2^63))=V then _ else _) x Ls _;rw[pL,o1]at e;unfold r5 at e;by_cases LG:(decide (-(2:Int)^63<=bO.Tuple.tupleHashOf (gM I done))&&decide (bO.Tuple.tupleHashOf (gM I done)<2^63))=V
   ·rw[aK LG];rw[aK LG]at e;exact bk (by simpa [ox] using e)
   ·rw[aM LG];rw[aM LG]at e;exact aD (ik (bk (by simpa [ox] using e)))
 |_,_,_,_,.aR,_,_,n,_,_,_=>by cases ‹Nat›<;>cases n
 |_,_,_,_,.aF _,_,_,n,_,_,_=>by cases ‹Nat›<;>cases n
 |_,_,_,_,.fn _,_,_,n,_,_,_=>by cases ‹Nat›<;>cases n
 |_,_,_,_,.aN _,_,_,n,_,_,_=>by cases ‹Nat›<;>cases n
 |_,_,_,_,.fd,_,_,n,_,_,_=>by cases ‹Nat›<;>cases n
 |0,_,_,_,.tup _,_,_,n,_,_,_=>by cases n
mutual
def bV:X->X->Bool
 |.aR,.aR=>V
 |.aF g,.aF c=>g==c
 |.aF g,.int i=>(if g then 1 else 0)==i
 |.int a,.aF c=>a==(if c then 1 else 0)
 |.int a,.int i=>a==i
 |.str f,.str l=>f==l
 |.tup g,.tup c=>e4 g c
 |_,_=>ar
def e4:List X->List X->Bool
 |[],[]=>V
 |g::p,c::E=>bV g c&&e4 p E
 |_,_=>ar
end
mutual
def X.bE:Nat->X->Bool
 |_,.aR=>V
 |_,.aF _=>V
 |_,.int _=>V
 |_,.str _=>V
 |s+1,.tup A=>X.cY s A
 |_,_=>ar
def X.cY:Nat->List X->Bool
 |_,[]=>V
 |s,v::A=>X.bE s v&&X.cY s A
end
theorem hR{s:Nat}:∀{A:List X}{i:Nat}{v:X},X.cY s A=V->A[i]?=Z v->X.bE s v=V
 |[],i,v,_,e=>by simp at e
 |d::A,0,v,n,e=>by
  rw[X.cY,cE]at n;simp at e;subst e;exact n.1
 |d::A,i+1,v,n,e=>by
  rw[X.cY,cE]at n;exact hR n.2 ⇑e
theorem c7.get{e:a0}:∀{A:List X}{Q:List aa}{i:Nat}{r:aa},c7 e A Q->Q[i]?=Z r->∃v,A[i]?=Z v/\cD e v r
 |[],Q,i,r,g,d=>by rw[show Q=[] from g]at d;simp at d
 |v::A,Q,0,r,g,d=>by
  let⟨D,@p,rfl,a,b⟩:=g;simp at d;subst d;exact⟨v,rfl,a⟩
 |v::A,Q,i+1,r,g,d=>by
  let⟨D,@p,rfl,a,b⟩:=g;let⟨@Mk,y,z⟩:=c7.get (i:=i) b ⇑d;exact⟨Mk,by simpa using y,z⟩
theorem xg{e:a0}:∀(s:Nat) {f l:X}{r:aa},X.bE s f=V->X.bE s l=V->cD e f r->cD e l r->bV f l=V
 |s,.aR,l,r,_,aS,h,b=>by
  cases (show r=.none from h);cases l with
  |aR=>rfl
  |aF c=>cases b
  |int i=>let⟨@D,d⟩:=b;cases d
  |str B=>let⟨@D,d⟩:=b;cases d
  |tup A=>let⟨W,W,W,@W,d,W⟩:=b;cases d
  |fn g=>cases s<;>cases aS
  |aN g=>cases s<;>cases aS
  |fd=>cases s<;>cases aS
 |s,.aF c,l,r,_,aS,h,b=>by
  cases (show r=.bool c from h);cases l with
  |aR=>cases b
  |aF o=>cases b;simp[bV]
  |int i=>let⟨@D,d⟩:=b;cases d
  |str B=>let⟨@D,d⟩:=b;cases d
  |tup A=>let⟨W,W,W,@W,d,W⟩:=b;cases d
  |fn g=>cases s<;>cases aS
  |aN g=>cases s<;>cases aS
  |fd=>cases s<;>cases aS
 |s,.int a,l,r,_,aS,h,b=>by
  let⟨@E,rfl⟩:=h;cases l with
  |aR=>cases b
  |aF o=>cases b
  |int i=>let⟨@D,d⟩:=b;cases d;simp[bV]
  |str B=>let⟨@D,d⟩:=b;cases d
  |tup A=>let⟨W,W,W,@W,d,W⟩:=b;cases d
  |fn g=>cases s<;>cases aS
  |aN g=>cases s<;>cases aS
  |fd=>cases s<;>cases aS
 |s,.str a,l,r,_,aS,h,b=>by
  let⟨@E,rfl⟩:=h;cases l with
  |aR=>cases b
  |aF o=>cases b
  |int i=>let⟨@D,d⟩:=b;cases d
  |str B=>let⟨@D,d⟩:=b;cases d;simp[bV]
  |tup A=>let⟨W,W,W,@W,d,W⟩:=b;cases d
  |fn g=>cases s<;>cases aS
  |aN g=>cases s<;>cases aS
  |fd=>cases s<;>cases aS
 |s+1,.tup A,l,r,dc,aS,h,b=>by
  let⟨g,m,T,@H,rfl,y,z,t,u⟩:=h;cases l with
  |aR=>cases b
  |aF o=>cases b
  |int i=>let⟨@D,d⟩:=b;cases d
  |str B=>let⟨@D,d⟩:=b;cases d
  |fn g=>cases aS
  |aN g=>cases aS
  |fd=>cases aS
  |tup Lu=>
   let⟨G,LZ,I,@J,d,k,L,j,w⟩:=b;cases d;rw[y]at k;cases k;rw[t]at j;injection j with j _;subst j;have all:∀(A Lu:List X) (Q:List aa),X.cY s A=V->X.cY s Lu=V->c7 e A Q->c7 e Lu Q->e4 A Lu=V:=by
    intro A;induction A with
    |nil=>
     intro Lu Q W W g c;cases Lu with
     |nil=>rfl
     |cons d Lu=>let⟨W,@W,q,W⟩:=c;rw[show Q=[] from g]at q;cases q
    |cons v A x=>
     intro Lu Q L9 L_ g c;let⟨r,@p,rfl,C,F⟩:=g;cases Lu with
     |nil=>cases (show r::p=[] from c)
     |cons d Lu=>
      let⟨M,@Mc,q,cF,cS⟩:=c;cases q;rw[X.cY,cE]at L9 L_;rw[e4,xg s L9.1 L_.1 C cF,x Lu p L9.2 L_.2 F cS];rfl
   rw[bV];exact all A Lu _ dc aS u w
 |s,.fn _,_,_,n,_,_,_=>by cases s<;>cases n
 |s,.aN _,_,_,n,_,_,_=>by cases s<;>cases n
 |s,.fd,_,_,n,_,_,_=>by cases s<;>cases n
 |0,.tup _,_,_,n,_,_,_=>by cases n
def oG{d:Nat->Bool}:∀{A Lu:List X},(∀(i:Nat) (f l:X),A[i]?=Z f->Lu[i]?=Z l->d i=bV f l)->((range<|min A.length Lu.length).all d&&A.length==Lu.length)=e4 A Lu:=by
 have G:∀(A Lu:List X) (R:Nat->Bool),(∀(i:Nat) (f l:X),A[i]?=Z f->Lu[i]?=Z l->R i=bV f l)->((range<|min A.length Lu.length).all R&&A.length==Lu.length)=e4 A Lu:=by
  intro A;induction A with
  |nil=>intro Lu R W;cases Lu<;>simp[e4]
  |cons v A a=>
   intro Lu R e;cases Lu with
   |nil=>simp[e4]
   |cons o Lu=>
    have:=a Lu (λi=>R<|i+1) λi f l g c=>e (i+1) f l ⇑g ⇑c;rw[e4,<-this,<-e 0 v o rfl rfl];rw[dK,dK,show min (A.length+1) (Lu.length+1)=min A.length Lu.length+1 by lia,List.range_succ_eq_map,List.all_cons,BI,Bool.and_assoc];congr 2;rw[rT];simp
 exact λ{A Lu} e=>G A Lu d e
theorem g6{j:ag}:∀(s:Nat) {O:a9}{f l:X}{D r:aa},X.bE s f=V->X.bE s l=V->O.units+s+1<bP->cD j.heap f D->cD j.heap l r->SeqAt.EqAt O j D r (bV f l)
 |s,O,.aR,l,D,r,_,aS,p,h,b=>by
  cases (show D=.none from h);cases l with
  |aR=>cases (show r=.none from b);exact SeqAt.EqAt.same _
  |aF c=>cases (show r=.bool c from b);exact Gs c
  |int i=>let⟨@E,rfl⟩:=b;exact EE i E
  |str B=>let⟨@E,rfl⟩:=b;exact E5 B E
  |tup A=>let⟨g,m,T,@H,rfl,y,z,k,W⟩:=b;exact Ew ⟨m,y,z,H,k⟩ ⋯
  |fn g=>cases s<;>cases aS
  |aN g=>cases s<;>cases aS
  |fd=>cases s<;>cases aS
 |s,O,.aF c,l,D,r,_,aS,p,h,b=>by
  cases (show D=.bool c from h);cases l with
  |aR=>cases (show r=.none from b);exact Cb c
  |aF o=>cases (show r=.bool o from b);exact GK c o
  |int i=>let⟨@E,rfl⟩:=b;exact Hu c i E
  |str B=>let⟨@E,rfl⟩:=b;exact E1 c B E
  |tup A=>let⟨g,m,T,@H,rfl,y,z,k,W⟩:=b;exact He c ⟨m,y,z,H,k⟩ ⋯
  |fn g=>cases s<;>cases aS
  |aN g=>cases s<;>cases aS
  |fd=>cases s<;>cases aS
 |s,O,.int a,l,D,r,_,aS,p,h,b=>by
  let⟨@e,rfl⟩:=h;cases l with
  |aR=>cases (show r=.none from b);exact DG a e
  |aF o=>cases (show r=.bool o from b);exact Fz a e o
  |int i=>let⟨@E,rfl⟩:=b;exact Gx a e i E
  |str B=>let⟨@E,rfl⟩:=b;exact Bm a e B E
  |tup A=>let⟨g,m,T,@H,rfl,y,z,k,W⟩:=b;exact Hf a e ⟨m,y,z,H,k⟩ ⋯
  |fn g=>cases s<;>cases aS
  |aN g=>cases s<;>cases aS
  |fd=>cases s<;>cases aS
 |s,O,.str a,l,D,r,_,aS,p,h,b=>by
  let⟨@e,rfl⟩:=h;cases l with
  |aR=>cases (show r=.none from b);exact Kv a e
  |aF o=>cases (show r=.bool o from b);exact Dd a e o
  |int i=>let⟨@E,rfl⟩:=b;exact Bt a e i E
  |str B=>let⟨@E,rfl⟩:=b;exact G7 a e B E
  |tup A=>let⟨g,m,T,@H,rfl,y,z,k,W⟩:=b;exact Cw a e ⟨m,y,z,H,k⟩ ⋯
  |fn g=>cases s<;>cases aS
  |aN g=>cases s<;>cases aS
  |fd=>cases s<;>cases aS
 |s+1,O,.tup A,l,D,r,dc,aS,p,h,b=>by
  have G:=h;let⟨g,m,T,@H,rfl,y,z,k,u⟩:=h;have L8:j.heap.IsTuple g T:=⟨m,y,z,H,k⟩;cases l with
  |aR=>cases (show r=.none from b);exact B6 L8 ⋯
  |aF o=>cases (show r=.bool o from b);exact Dh o L8 ⋯
  |int i=>let⟨@E,rfl⟩:=b;exact FQ i E L8 ⋯
  |str B=>let⟨@E,rfl⟩:=b;exact Cy B E L8 ⋯
  |fn g=>cases aS
  |aN g=>cases aS
  |fd=>cases aS
  |tup Lu=>
   have I:=b;let⟨c,LZ,t,@J,rfl,L,M,N,v⟩:=b;by_cases d:g=c
   ·subst d;rw[xg (s+1) dc aS G I];exact SeqAt.EqAt.same _
   ·have cy:j.heap.IsTuple c t:=⟨LZ,L,M,J,N⟩;have w:=u.length;have x:=v.length;have P:T.toList.length=T.size:=by simp
    have Q:t.toList.length=t.size:=by simp
    rw[P]at w;rw[Q]at x;have q:=DX (A:=O) d (wt (e:=λi=>bV (A.getD i .aR)<|Lu.getD i .aR) L8 cy ⋯ λi R S=>by
     let⟨@L6,C,U⟩:=u.get (i:=i) (r:=T[i]) (by rw[gi];simp[R]);let⟨@L7,F,al⟩:=v.get (i:=i) (r:=t[i]) (by rw[gi];simp[S]);rw[b6,C,b6,F];exact g6 s (hR dc C) (hR aS F) (by show O.units+1+s+1<bP;lia) U al)
    rw[<-w,<-x,oG (A:=A) (Lu:=Lu) (λi f l g c=>by rw[b6,g,b6,c];rfl)]at q;rw[bV];exact q
 |s,O,.fn _,_,_,_,n,_,_,_,_=>by cases s<;>cases n
 |s,O,.aN _,_,_,_,n,_,_,_,_=>by cases s<;>cases n
 |s,O,.fd,_,_,_,n,_,_,_,_=>by cases s<;>cases n
 |0,O,.tup _,_,_,_,n,_,_,_,_=>by cases n
mutual
theorem tN:∀{s:Nat}{v:X},X.key s v=V->X.bE s v=V
 |s,.int _,_=>by cases s<;>rfl
 |s,.str _,_=>by cases s<;>rfl
 |s+1,.tup A,e=>by rw[X.key]at e;rw[X.bE];exact A6 e
 |0,.tup _,e=>by cases e
 |s,.aR,e=>by cases s<;>cases e
 |s,.aF _,e=>by cases s<;>cases e
 |s,.fn _,e=>by cases s<;>cases e
 |s,.aN _,e=>by cases s<;>cases e
 |s,.fd,e=>by cases s<;>cases e
theorem A6:∀{s:Nat}{A:List X},X.keys s A=V->X.cY s A=V
 |s,[],_=>by rw[X.cY]
 |s,v::A,e=>by rw[X.keys,cE]at e;rw[X.cY,tN e.1,A6 e.2];rfl
end
mutual
theorem Be:∀{s:Nat}{f l:X},X.key s f=V->X.key s l=V->bV f l=decide (f=l)
 |s,.int a,l,_,b=>by
  cases l with
  |int i=>rw[bV];by_cases d:a=i<;>simp[d]
  |str B=>simp[bV]
  |tup B=>simp[bV]
  |_=>cases s<;>cases b
 |s,.str a,l,_,b=>by
  cases l with
  |int i=>simp[bV]
  |str B=>rw[bV];by_cases d:a=B<;>simp[d]
  |tup B=>simp[bV]
  |_=>cases s<;>cases b
 |s+1,.tup A,l,c,b=>by
  cases l with
  |int i=>simp[bV]
  |str B=>simp[bV]
  |tup Lu=>
   rw[X.key]at c b;rw[bV,AP c b];simp
  |_=>cases b
 |0,.tup _,_,e,_=>by cases e
 |s,.aR,_,e,_=>by cases s<;>cases e
 |s,.aF _,_,e,_=>by cases s<;>cases e
 |s,.fn _,_,e,_=>by cases s<;>cases e
 |s,.aN _,_,e,_=>by cases s<;>cases e
 |s,.fd,_,e,_=>by cases s<;>cases e
theorem AP:∀{s:Nat}{f l:List X},X.keys s f=V->X.keys s l=V->e4 f l=decide (f=l)
 |s,[],l,_,_=>by cases l<;>simp[e4]
 |s,v::A,[],_,_=>by simp[e4]
 |s,v::A,d::Lu,a,b=>by
  rw[X.keys,cE]at a b;rw[e4,Be a.1 b.1,AP a.2 b.2];by_cases y:v=d<;>by_cases z:A=Lu<;>simp[y,z]
end
theorem x7:∀(s:Nat) {O:a9}{Ls:aa->ag->Prop}{j:ag}{v:X}{r:aa}{x:Bool->ag->Prop},X.key s v=V->cD j.heap v r->x V j->wpAny (aP Lx I) O (eqIsQuiet s r) x Ls j
 |s,O,Ls,j,.int a,r,x,_,b,e=>by
  let⟨@E,rfl⟩:=b;rw[AN s rfl];exact bk e
 |s,O,Ls,j,.str a,r,x,_,b,e=>by
  let⟨@E,rfl⟩:=b;rw[AN s rfl];exact bk e
 |s+1,O,Ls,j,.tup A,r,x,n,b,e=>by
  let⟨g,m,T,@H,rfl,f,k,hd,Lv⟩:=b;have h:j.TypeIs (.ref g) "tuple" := ⟨m,f,k⟩;unfold eqIsQuiet;refine aD (ux h F.slot_tuple_eq.lookup ?_);show wpAny _ _ (isInstance (.ref g) (.type "tuple") >>= _) _ _ j;refine aD (td h isSubtype_tuple_tuple ?_);simp only[vG,hM,gD];refine aD (hg f hd ?_);refine aD ?_;show wpAny _ _ (forIn T _ _) _ _ j;rw[<-w6];rw[X.key]at n;refine nc _ (λcU p S=>p.1=Y/\S=j/\∃left,X.keys s left=V/\c7 j.heap left cU) _ ?_ ?_ _ _ ⟨rfl,rfl,A,n,Lv⟩
  ·rintro r cU p S ⟨LG,rfl,left,c,i⟩;cases left with
   |nil=>cases (show r::cU=[] from i)
   |cons v left=>
    let⟨o,@Mc,d,y,l⟩:=i;cases d;rw[X.keys,cE]at c;refine aD (x7 s c.1 y ?_);simp only[vG,hM,gD];exact bk ⟨rfl,rfl,left,c.2,l⟩
  ·rintro⟨q,t⟩ S ⟨LG,rfl,W⟩;simp only at LG;subst LG;exact bk e
 |_,_,_,_,.aR,_,_,n,_,_=>by cases ‹Nat›<;>cases n
 |_,_,_,_,.aF _,_,_,n,_,_=>by cases ‹Nat›<;>cases n
 |_,_,_,_,.fn _,_,_,n,_,_=>by cases ‹Nat›<;>cases n
 |_,_,_,_,.aN _,_,_,n,_,_=>by cases ‹Nat›<;>cases n
 |_,_,_,_,.fd,_,_,n,_,_=>by cases ‹Nat›<;>cases n
 |0,_,_,_,.tup _,_,_,n,_,_=>by cases n
def mY(Lx:bf)(I:a5):HeapKind Lx I (List X) where
 is:=λe A g=>X.keys 7 A=V/\cD e (.tup A) (.ref g)
 hash:=λA=>pL I (.tup A)
 draws:=λA=>o1 (.tup A)
 room:=λO=>O.units+10<bP
 inj:=λa b=>by
  have:=yl 8 (f:=.tup _) (l:=.tup _) a.1 b.1 a.2 b.2;injection this
 keeps:=λ{e Lq n g v m Lu Mg} f o hd au=>⟨f.1,f.2.keep λc D T s h r k=>by
  have p:c≠v:=by
   rintro rfl;rw[o]at h;cases h;rw[hd]at k;cases k
  exact (au.2 c p).trans h⟩
 pyHash:=λi d e=>AG 8 (v:=.tup _) d.1 (show _<_ by have:_+10<bP:=i;lia) d.2 e
 eqBool:=λ{O Ls j f l g c x} i a b e=>by
  have q:=g6 (j:=j) 8 (O:=O) (f:=.tup f) (l:=.tup l) (tN (s:=8) (v:=.tup f) a.1) (tN (s:=8) (v:=.tup l) b.1) (show _<_ by have:O.units+10<bP:=i;lia) a.2 b.2;rw[Be (s:=8) (f:=.tup f) (l:=.tup l) a.1 b.1]at q;exact q _ _ Ls x ⇑e
 quiet:=λd e=>x7 8 (v:=.tup _) d.1 d.2 e
end
abbrev dw:=Sum Int az
def lO:dw->aa->Bool
 |.inl n,r=>aa.isInt n r
 |.inr f,r=>aa.isStrOf f r
def Fe(I:a5):dw->Int
 |.inl n=>hashInt n
 |.inr f=>hashStr I f
theorem jx:∀{n:dw}{r:aa},lO n r=V->(∃a E,n=Sum.inl a/\r=aa.int a E)\/(∃f E,n=Sum.inr f/\r=aa.str f E)
 |.inl a,r,e=>by
  let⟨@E,d⟩:=aa.isInt_shape (k:=a) (v:=r) e;exact .inl ⟨a,E,rfl,d⟩
 |.inr f,r,e=>by
  let⟨@E,d⟩:=aa.isStrOf_shape (x:=f) (v:=r) e;exact .inr ⟨f,E,rfl,d⟩
def EH(a:Int)(E:gX):lO (.inl a) (.int a E)=V:=by simp[lO,aa.isInt]
def GO(f:az)(E:gX):lO (.inr f) (.str f E)=V:=by simp[lO,aa.isStrOf]
def Cg(g c:Int):decide ((Sum.inl g:dw)=Sum.inl c)=(g==c):=by
 by_cases d:g=c
 ·subst d;simp
 ·have e:¬ (Sum.inl g:dw)=Sum.inl c:=λq=>d (Sum.inl.inj q);rw[es e];exact (vg.mpr d).symm
def En(g c:az):decide ((Sum.inr g:dw)=Sum.inr c)=decide (g=c):=by
 by_cases d:g=c
 ·subst d;simp
 ·have e:¬ (Sum.inr g:dw)=Sum.inr c:=λq=>d (Sum.inr.inj q);rw[es e,es d]
def Jw(g:Int)(c:az):decide ((Sum.inl g:dw)=Sum.inr c)=ar:=es (λq=>nomatch q)
def Cp(g:az)(c:Int):decide ((Sum.inr g:dw)=Sum.inl c)=ar:=es (λq=>nomatch q)
def jW(Lx:bf)(I:a5):PySem.KeyKind Lx I dw where
 is:=lO
 hash:=Fe I
 inj:=λr g c k j=>by
  rcases jx k with ⟨a,E,rfl,rfl⟩|⟨f,E,rfl,rfl⟩
  ·rcases jx j with ⟨i,D,rfl,d⟩|⟨l,D,rfl,d⟩
   ·injection d with b _;rw[b]
   ·exact nomatch d
  ·rcases jx j with ⟨i,D,rfl,d⟩|⟨l,D,rfl,d⟩
   ·exact nomatch d
   ·injection d with b _;rw[b]
 byValue:=λn r e=>by
  rcases jx e with ⟨a,E,rfl,rfl⟩|⟨f,E,rfl,rfl⟩<;>rfl
 pyHash:=λh e=>by
  rcases jx h with ⟨a,E,rfl,rfl⟩|⟨f,E,rfl,rfl⟩
  ·exact BW e
  ·exact zU e
 eqBool:=λm h e=>by
  rcases jx m with ⟨a,E,rfl,rfl⟩|⟨f,E,rfl,rfl⟩
  ·rcases jx h with ⟨i,D,rfl,rfl⟩|⟨l,D,rfl,rfl⟩
   ·rw[Cg]at e;exact wpAny_eqBool_int e
   ·rw[Jw]at e;exact Bm a E l D _ _ _ _ e
  ·rcases jx h with ⟨i,D,rfl,rfl⟩|⟨l,D,rfl,rfl⟩
   ·rw[Cp]at e;exact Bt f E i D _ _ _ _ e
   ·rw[En]at e;exact wpAny_eqBool_str e
 «strs»:=λn f E r e=>by
  rcases jx e with ⟨a,D,rfl,d⟩|⟨l,D,rfl,d⟩
  ·exact nomatch d
  ·injection d with b _;subst b;cases r<;>rfl
def G9(Lx:bf)(I:a5)(a:Int)(E:gX):(jW Lx I).is (.inl a) (.int a E)=V:=EH a E
def Hd(Lx:bf)(I:a5)(f:az)(E:gX):(jW Lx I).is (.inr f) (.str f E)=V:=GO f E
inductive ah where
 | aR|aF (c:Bool)|int (a:Int)|str (f:az)|od (c:Array UInt8)|uD (c:UInt64)|ref (g:af)|ty (s:String)
 deriving DecidableEq
variable{Q C:List ah}{l r:ah}
def bC:ah->aa->Prop
 |.aR,D=>D=aa.none
 |.aF c,D=>D=aa.bool c
 |.int a,D=>∃E,D=aa.int a E
 |.str f,D=>∃E,D=aa.str f E
 |.od c,D=>∃E,D=aa.bytes c E
 |.uD c,D=>∃E,D=aa.float c E
 |.ref g,D=>D=aa.ref g
 |.ty s,D=>D=aa.type s
abbrev b1:List ah->List aa->Prop:=d2 bC
def b1.length(p:b1 C LP):C.length=LP.length:=d2.length p
theorem b1.get:∀{C:List ah}{LP:List aa}{a:Nat}{f:ah},b1 C LP->C[a]?=Z f->∃D,LP[a]?=Z D/\bC f D
 |_,_,_,_,.nil,d=>by simp at d
 |_,_,0,_,.cons p _,d=>by simp at d;subst d;exact⟨_,rfl,p⟩
 |_,_,a+1,f,.cons _ E,d=>by
  let⟨@D,y,z⟩:=b1.get (a:=a) (f:=f) E ⇑d;exact⟨D,by simpa using y,z⟩
theorem b1.set{f:ah}{D:aa}(p:bC f D):∀{C:List ah}{LP:List aa} (a:Nat),b1 C LP->b1 (C.set a f) (LP.set a D)
 |_,_,_,.nil=>.nil
 |_,_,0,.cons _ E=>.cons p E
 |_,_,a+1,.cons q E=>.cons q (b1.set p a E)
theorem b1.append:∀{C LH:List ah}{LP a:List aa},b1 C LP->b1 LH a->b1 (C++LH) (LP++a)
 |_,_,_,_,.nil,j=>j
 |_,_,_,_,.cons p E,j=>.cons p (b1.append E j)
def i6:Option ah->Option aa->Prop
 |some r,Z D=>bC r D
 |none,Y=>True
 |_,_=>False
def eL{U:Type}:List (U×ah)->List (U×aa)->Prop:=(d2 λ(u:U×ah) (q:U×aa)=>u.1=q.1/\bC u.2 q.2)
def b7:dw->ah
 |.inl a=>.int a
 |.inr f=>.str f
inductive d8 where
 | lst (C:List ah)
 | tup (C:List ah)
 | cW (G:List (dw×ah))|br (G:List (List X×ah))
 | set (LX:Int->Bool) (s:Nat)
 | ins (aH i:af) (aj:List (az×ah))
 | own (f:af)
 | ub (aj:List (az×ah))
 | met (R f:af)
 | lU (T Lv:Int)
 | b8 (m:aQ) (D:d8)
 | fo
 | ext (KQ:a0->Prop)
variable{m:d8}
abbrev aq:=af->Option d8
variable{P h:aq}
def upd(h:aq)(g:af)(m:d8):aq:=(λc=>if c=g then Z m else h c)
def de:upd h g m g=Z m:=by unfold upd;rw[aK rfl]
def bB(e:c≠g):upd h g m c=h c:=by unfold upd;rw[aM e]
def Ku{D:d8}(e:h g=Z m)(Lq:h c=Z D)(v:m≠D):g≠c:=by
 intro d;subst d;rw[e]at Lq;exact v (Option.some.inj Lq)
def eM(e:h g=Z m)(Lq:h c=Y):g≠c:=by
 intro d;subst d;rw[e]at Lq;cases Lq
mutual
def b9(h:aq):X->ah->Prop
 |.aR,r=>r=.aR
 |.aF c,r=>r=.aF c
 |.int a,r=>r=.int a
 |.str f,r=>r=.str f
 |.fn g,r=>r=.ref g
 |.aN A,r=>∃g C m,r=.ref g/\h g=Z (.b8 m<|.lst C)/\bo h A C
 |.fd,r=>∃g m,r=.ref g/\h g=Z (.b8 m<|.br [])
 |.tup A,r=>∃g C,r=.ref g/\h g=Z (.tup C)/\bo h A C
def bo(h:aq):List X->List ah->Prop
 |[],Q=>Q=[]
 |v::A,Q=>∃r p,Q=r::p/\b9 h v r/\bo h A p
end
def nF(h P:aq):Prop:=(∀g C,h g=Z (.tup C)->P g=Z (.tup C))
structure kl(h P:aq):Prop where
 t:nF h P
 z:∀g m D,h g=Z (.b8 m D)->P g=Z (.b8 m D)
noncomputable instance {h P:aq}:CoeFun (kl h P) (λ_=>∀g C,h g=Z (.tup C)->P g=Z (.tup C)):=⟨λE=>E.t⟩
mutual
theorem b9.mono{h P:aq}(n:kl h P):∀{v:X}{r:ah},b9 h v r->b9 P v r
 |.aR,_,d=>d
 |.aF _,_,d=>d
 |.int _,_,d=>d
 |.str _,_,d=>d
 |.fn _,_,d=>d
 |.tup A,_,d=>by
  let⟨g,@C,rfl,y,z⟩:=d;exact⟨g,C,rfl,n.t g C y,bo.mono n z⟩
 |.aN A,_,d=>by
  let⟨g,C,@m,rfl,y,z⟩:=d;exact⟨g,C,m,rfl,n.z g _ _ y,bo.mono n z⟩
 |.fd,_,d=>by
  let⟨g,@m,rfl,y⟩:=d;exact⟨g,m,rfl,n.z g _ _ y⟩
theorem bo.mono{h P:aq}(n:kl h P):∀{A:List X}{Q:List ah},bo h A Q->bo P A Q
 |[],_,d=>d
 |v::A,_,d=>by
  let⟨r,@p,rfl,y,z⟩:=d;exact⟨r,p,rfl,b9.mono n y,bo.mono n z⟩
end
def hh(h:aq)(n:List X)(c:af):Prop:=(X.keys 7 n=V/\b9 h (.tup n) (.ref c))
mutual
theorem b9.ob{h P:aq}(n:nF h P):∀{v:X}{s:Nat}{r:ah},X.key s v=V->b9 h v r->b9 P v r
 |.aR,_,_,_,d=>d
 |.aF _,_,_,_,d=>d
 |.int _,_,_,_,d=>d
 |.str _,_,_,_,d=>d
 |.fn _,_,_,_,d=>d
 |.tup A,s+1,_,q,d=>by
  let⟨g,@C,rfl,y,z⟩:=d;exact⟨g,C,rfl,n g C y,bo.ob n q z⟩
 |.tup A,0,_,q,d=>nomatch q
 |.aN A,0,_,q,d=>nomatch q
 |.aN A,s+1,_,q,d=>nomatch q
 |.fd,0,_,q,d=>nomatch q
 |.fd,s+1,_,q,d=>nomatch q
theorem bo.ob{h P:aq}(n:nF h P):∀{A:List X}{s:Nat}{Q:List ah},X.keys s A=V->bo h A Q->bo P A Q
 |[],_,_,_,d=>d
 |v::A,s,_,q,d=>by
  let⟨r,@p,rfl,y,z⟩:=d;rw[X.keys,cE]at q;exact⟨r,p,rfl,b9.ob n q.1 y,bo.ob n q.2 z⟩
end
def hh.mono{n:List X}(e:hh h n c)(E:nF h P):hh P n c:=by
 let@⟨a,⟨g,@C,d,y,z⟩⟩:=e;exact⟨a,g,C,d,E g C y,z.ob E a⟩
def kX(e:a0)(g:af)(T:Array aa):Prop:=(∃m,e.get? g=Z m/\(m.cls,m.dict)=(.type "tuple",Y)/\∃s,m.data=.seq T s)
def kX.tup{T:Array aa}(f:kX e g T):nI e g T:=let ⟨m,d,o,p⟩:=f;⟨m,d,(Prod.mk.inj o).1,p⟩
def kX.new(e:a0)(T:Array aa):kX (e.push {cls:=.type "tuple",data:=.seq T}) e.objs.size T:=⟨_,df _ rfl,rfl,_,rfl⟩
def gJ:az :=( "_law_runs_of.<locals>.<lambda>")
section
variable(LF:bf)(I:a5)
def dG(h:aq)(e:a0)(g:af):d8->Prop
 |.lst C=>C.length<=sizeLine/\∃(Lz:List aa) (s:Nat),b1 C Lz/\e.get? g=Z {cls:=.type "list",data:=.seq Lz.toArray s}
 |.tup C=>C.length<=sizeLine/\∃Lz:List aa,b1 C Lz/\kX e g Lz.toArray
 |.cW G=>G.length<=sizeLine/\(g==hE)=ar/\∃Q,eL G Q/\e.DictOf (jW LF I) g Q
 |.br G=>G.length<=sizeLine/\(g==hE)=ar/\∃C:List (List X×af×aa),
   d2 (λ(u:List X×ah) (q:List X×af×aa)=>u.1=q.1/\hh h u.1 q.2.1/\bC u.2 q.2.2) G C/\
   ∃m Lu Mg,e.get? g=Z m/\m.ExactDict/\m.data=.dict Lu Mg/\Lu.toList=C.map (entryOfKey<|mY LF I)/\(C.map (·.1)).Nodup
 |.set LX s=>e.SetOf (intKind LF I) g LX s
 |.ins aH i aj=>h i=Z (.own g)/\aj.length<=1000/\i≠g/\e.get? g=Z (PySem.W.instObj aH i)/\
   ∃k,e.Ns1 i k/\(∀R,i6 (aj.lookup R)<|k R)/\PySem.Within k (aj.map (·.1))
 |.own _=>∃m,e.get? g=Z m
 |.ub aj=>∃k,e.Ns1 g k/\∀R,i6 (aj.lookup R) (k R)
 |.lU T Lv=>∃E D r,e.get? g=Z {cls:=.type "range",data:=.fields #[.int T E,.int Lv D,.int 1 r]}
 |.b8 m D=>e.get? g=Z m/\dG h e g D
 |.fo=>∃LO,e.get? g=Z (Δ LO)/\tk LO.toList/\∀LC b,l9 LC LO.toList=Z b->∃o Mo Q E,b=.ref o/\h o=Z (.b8 Mo<|.ext λ_=>True)/\Mo.data=.fields Q/\Q[1]?=Z (.str gJ E)
 |.met R f=>e.get? g=Z (Φb (.ref R)<|.ref f)
 |.ext a=>a e/\(∃m,e.get? g=Z m)/\∀y z:a0,a y->(∀m,y.get? g=Z m->z.get? g=Z m)->a z
def di(h:aq)(e:a0):Prop:=(∀g m,h g=Z m->dG LF I h e g m)
end
section
variable{LF:bf}{I:a5}{h P:aq}{e Lq:a0}{g:af}{m:d8}
def dG.lt(f:dG LF I h e g m):g<e.objs.size:=by
 cases m with
 |lst C=>let@⟨_,⟨_,@_,_,d⟩⟩:=f;exact bQ d
 |tup C=>let@⟨_,⟨@_,_,u⟩⟩:=f;exact u.tup.lt
 |cW G=>let@⟨_,_,⟨@_,_,⟨m,_,@_,d,_⟩⟩⟩:=f;exact bQ d
 |br G=>let@⟨_,_,⟨@_,_,⟨m,_,@_,d,_⟩⟩⟩:=f;exact bQ d
 |set LX s=>let⟨m,W,W,@W,d,W⟩:=f;exact bQ d
 |ins aH i aj=>let@⟨_,_,_,d,_⟩:=f;exact bQ d
 |own l=>let⟨@W,d⟩:=f;exact bQ d
 |ub aj=>let⟨@W,⟨W,W,@W,d,W⟩,W⟩:=f;exact bQ d
 |lU T Lv=>let⟨W,W,@W,d⟩:=f;exact bQ d
 |b8 a D=>let@⟨d,_⟩:=f;exact bQ d
 |fo=>let⟨W,d,W⟩:=f;exact bQ d
 |met R l=>exact bQ (show e.get? g=Z _ from f)
 |ext b=>let@⟨_,⟨@_,d⟩,_⟩:=f;exact bQ d
theorem d2.qV{L0 Mx:Type}{N Ly:L0->Mx->Prop}:∀{a:List L0}{b:List Mx},d2 N a b->(∀g c,N g c->Ly g c)->d2 Ly a b
 |_,_,.nil,_=>.nil
 |_,_,.cons p E,R=>.cons (R _ _ p) (d2.qV E R)
def dG.fC(f:dG LF I h e g m)(n:∀c D,(c=g\/h c=Z (.own g))->e.get? c=Z D->Lq.get? c=Z D)(j:∀c,h c=Z (.own g)->P c=Z (.own g))(t:∀c C,h c=Z (.tup C)->P c=Z (.tup C))(w:∀c m D,h c=Z (.b8 m D)->P c=Z (.b8 m D)):dG LF I P Lq g m:=by
 induction m with
 |lst C=>let@⟨B,⟨Lz,@s,p,d⟩⟩:=f;exact⟨B,Lz,s,p,n _ _ (.inl rfl) d⟩
 |tup C=>let@⟨B,⟨@Lz,p,⟨@a,d,o⟩⟩⟩:=f;exact⟨B,Lz,p,a,n _ _ (.inl rfl) d,o⟩
 |cW G=>let@⟨B,l,⟨@Q,p,⟨a,Lu,@Mg,d,o⟩⟩⟩:=f;exact⟨B,l,Q,p,a,Lu,Mg,n _ _ (.inl rfl) d,o⟩
 |br G=>
  let@⟨B,l,⟨@C,p,⟨a,Lu,@Mg,d,o⟩⟩⟩:=f;exact⟨B,l,C,d2.qV p λu q B=>⟨B.1,B.2.1.mono t,B.2.2⟩,a,Lu,Mg,n _ _ (.inl rfl) d,o⟩
 |set LX s=>let⟨a,Lu,Mg,@E,d,o⟩:=f;exact⟨a,Lu,Mg,E,n _ _ (.inl rfl) d,o⟩
 |ins aH i aj=>
  let@⟨v,B,ne,d,⟨@k,⟨y,Lu,@Mg,b,o⟩,p⟩⟩:=f;exact⟨j _ v,B,ne,n _ _ (.inl rfl) d,k,⟨y,Lu,Mg,n _ _ (.inr v) b,o⟩,p⟩
 |own l=>let⟨@a,d⟩:=f;exact⟨a,n _ _ (.inl rfl) d⟩
 |ub aj=>let⟨@k,⟨y,Lu,@Mg,d,o⟩,p⟩:=f;exact⟨k,⟨y,Lu,Mg,n _ _ (.inl rfl) d,o⟩,p⟩
 |lU T Lv=>let⟨E,D,@r,d⟩:=f;exact⟨E,D,r,n _ _ (.inl rfl) d⟩
 |b8 a D x=>let@⟨d,q⟩:=f;exact⟨n _ _ (.inl rfl) d,x q⟩
 |fo=>
  let⟨LO,d,E,q⟩:=f;refine⟨LO,n _ _ (.inl rfl) d,E,λLC z A=>?_⟩;let⟨o,Mo,Q,D,F,b,H⟩:=q LC z A;exact⟨o,Mo,Q,D,F,w o Mo _ b,H⟩
 |met R l=>
  have d:e.get? g=Z (Φb (.ref R)<|.ref l):=f;show Lq.get? g=Z (Φb (.ref R)<|.ref l);exact n g _ (.inl rfl) d
 |ext L=>let@⟨u,⟨@m,d⟩,J⟩:=f;exact⟨J _ _ u λm q=>n _ _ (.inl rfl) q,⟨m,n _ _ (.inl rfl) d⟩,J⟩
theorem di.lt(f:di LF I h e)(d:h g=Z m):g<e.objs.size:=(f g m d).lt
def di.fresh(f:di LF I h e)(d:e.objs.size<=g):h g=Y:=by
 cases q:h g with
 |none=>rfl
 |some D=>exact absurd (dn (f.lt q) d) (fI _)
def di.kept(f:di LF I h e)(n:∀c D,e.get? c=Z D->Lq.get? c=Z D):di LF I h Lq:=λg m d=>
 (f g m d).fC (λc D W q=>n c D q) (λ_ q=>q) (λ_ W q=>q) λ_ W W q=>q
def di.laid(f:di LF I h e)(n:∀c D,e.get? c=Z D->Lq.get? c=Z D)(i:e.objs.size<=g)(new:dG LF I (upd h g m) Lq g m):di LF I (upd h g m) Lq:=λc D d=>by
 have a:=f.fresh i;by_cases b:c=g
 ·subst b;rw[de]at d;cases d;exact new
 ·rw[bB b]at d;exact (f c D d).fC (λo r W q=>n o r q) (λo q=>by rw[bB (eM q a)];exact q) (λo C q=>by rw[bB (eM q a)];exact q) λo m D q=>by rw[bB (eM q a)];exact q
end
def iX(h:aq)(g:af)(D:d8):Prop:=(h g=Z D\/∃m,h g=Z (.b8 m D))
def iX.ok{D:d8}(p:iX h g D)(f:di LF I h e):dG LF I h e g D:=by
 rcases p with p|⟨m,p⟩
 ·exact f g D p
 ·let@⟨_,q⟩:=f g _ p;exact q
def mC:Option d8->Prop
 |some (.lst _)=>True
 |some (.cW _)=>True
 |some (.br _)=>True
 |some (.set _ _)=>True
 |some (.ins _ _ _)=>True
 |some (.ext _)=>True
 |_=>False
section
variable{LF:bf}{I:a5}{h:aq}{e Lq:a0}{f d:af}{LZ:d8}
def di.write(ok:di LF I h e)(a:mC (h f))(j:d=f\/h d=Z (.own f))(n:∀c D,c≠d->e.get? c=Z D->Lq.get? c=Z D)(t:∃D,Lq.get? d=Z D)(new:dG LF I (upd h f LZ) Lq f LZ):di LF I (upd h f LZ) Lq:=λc D q=>by
 have k:∀o l,h o=Z (.own l)->o≠f:=λo l p B=>by subst B;rw[p]at a;exact a
 have u:∀o C,h o=Z (.tup C)->o≠f:=λo C p B=>by subst B;rw[p]at a;exact a
 have v:∀o m D,h o=Z (.b8 m D)->o≠f:=λo m D p B=>by subst B;rw[p]at a;exact a
 by_cases b:c=f
 ·subst b;rw[de]at q;cases q;exact new
 ·rw[bB b]at q;by_cases g:c=d
  ·have s:h c=Z (.own f):=by
    rcases j with B|B
    ·exact absurd (g.trans B) b
    ·rw[g];exact B
   rw[q]at s;cases s;let⟨@r,w⟩:=t;exact⟨r,by rw[g];exact w⟩
  ·refine (ok c D q).fC (λo r i p=>n o r ?_ p) (λo p=>by rw[bB (k o c p)];exact p) (λo C p=>by rw[bB (u o C p)];exact p) λo m D p=>by rw[bB (v o m D p)];exact p
   rcases i with rfl|i
   ·exact g
   ·rintro rfl;rcases j with B|B
    ·exact k o c i B
    ·rw[i]at B;cases B;exact b rfl
end
def jN(e Lq:a0)(c:af):Prop:=(∀LO,e.get? c=Z (Δ LO)->∃a,Lq.get? c=Z (Δ<|LO++a))
def jN.of(n:∀m,e.get? c=Z m->Lq.get? c=Z m):jN e Lq c:=λLO q=>⟨#[],by rw[n _ q];simp⟩
def jN.trans{z:a0}(f:jN e Lq c)(l:jN Lq z c):jN e z c:=λLO q=>by
 let⟨H,d⟩:=f LO q;let⟨a,b⟩:=l _ d;exact⟨H++a,by rw[b,Array.append_assoc]⟩
structure dW(aj Mb:List af)(h P:aq)(e Lq:a0):Prop where
 keep:∀c m,e.get? c=Z m->h c=Y->c∉aj->c∉Mb->Lq.get? c=Z m
 slot:∀c m,e.get? c=Z m->h c=Y->c∈aj->c∉Mb->∃bx,Lq.get? c=Z {m with slots:=bx}
 free:∀c m,e.get? c=Z m->h c=Y->c∉Mb->P c=Y
 h_:∀c m C,e.get? c=Z m->h c=Z (.tup C)->c∉Mb->Lq.get? c=Z m
 there:∀c m,e.get? c=Z m->c∉Mb->∃LZ,Lq.get? c=Z LZ
 hI:∀c C,h c=Z (.tup C)->P c=Z (.tup C)
 ia:∀c m D,h c=Z (.b8 m D)->P c=Z (.b8 m D)
 e8:∀c,h c=Z .fo->P c=Z .fo/\(c∉Mb->jN e Lq c)
section
variable{aj t Mb b:List af}{h Lw LK:aq}{e y z Lq:a0}{g f d:af}{m:d8}
def dW.any(D:dW aj Mb h Lw e y){c:af}{a:aQ}(q:e.get? c=Z a)(s:h c=Y)(b:c∉Mb):∃bx,y.get? c=Z {a with slots:=bx}:=by
 by_cases d:c∈aj
 ·exact D.slot c a q s d b
 ·exact⟨a.slots,D.keep c a q s d b⟩
def dW.kept(n:∀c D,e.get? c=Z D->Lq.get? c=Z D):dW aj Mb h h e Lq:=
 ⟨λc a q W W W=>n c a q,λc a q W W W=>⟨a.slots,n c a q⟩,λ_ W W s W=>s,λc a W q W W=>n c a q,λc a q W=>⟨a,n c a q⟩,λ_ W q=>q,λ_ W W q=>q,λc q=>⟨q,λ_=>.of<|n c⟩⟩
def dW.refl:dW aj Mb h h e e:=dW.kept λ_ W q=>q
theorem dW.laid(n:∀c D,e.get? c=Z D->Lq.get? c=Z D)(b:e.objs.size<=g)(a:h g=Y):dW aj Mb h (upd h g m) e Lq where
 keep:=λc D q W W W=>n c D q
 slot:=λc D q W W W=>⟨D.slots,n c D q⟩
 free:=λc D q s W=>by rw[bB (c8<|dn (bQ q) b)];exact s
 h_:=λc D W q W W=>n c D q
 there:=λc D q W=>⟨D,n c D q⟩
 hI:=λc C q=>by rw[bB (eM q a)];exact q
 ia:=λc D C q=>by rw[bB (eM q a)];exact q
 e8:=λc q=>⟨by rw[bB (eM q a)];exact q,λ_=>.of<|n c⟩
def dW.write(b:mC (h f))(g:d=f\/h d=Z (.own f))(n:∀c D,c≠d->e.get? c=Z D->Lq.get? c=Z D)(o:∃D,Lq.get? d=Z D):dW aj Mb h (upd h f m) e Lq:=by
 have i:∀c,h c=Y->c≠f:=λc s B=>by subst B;rw[s]at b;exact b
 have j:∀c,h c=Y->c≠d:=λc s B=>by
  subst B;rcases g with p|p
  ·exact i c s p
  ·rw[s]at p;cases p
 have a:∀c D,h c=Z D->¬ mC (Z D)->c≠f:=λc D q k B=>by subst B;rw[q]at b;exact k b
 refine⟨λc D q s W W=>n c D (j c s) q,λc D q s W W=>⟨D.slots,n c D (j c s) q⟩,λc D q s W=>by rw[bB (i c s)];exact s,λc D C q E W=>n c D (λB=>by
   subst B;rcases g with p|p
   ·exact a c _ E (λB=>B) p
   ·rw[E]at p;cases p) q,λc D q W=>?_,
  λc C q=>by rw[bB (a c _ q λB=>B)];exact q,λc D C q=>by rw[bB (a c _ q λB=>B)];exact q,λc q=>⟨by rw[bB (a c _ q λB=>B)];exact q,λ_=>.of λD=>n c D λB=>by
   subst B;rcases g with p|p
   ·exact a c _ q (λB=>B) p
   ·rw[q]at p;cases p⟩⟩
 by_cases l:c=d
 ·subst l;exact o
 ·exact⟨D,n c D l q⟩
end
def qh(e:a0)(h:aq):List af:=((range e.objs.size).filter λg=>(h g).isSome)
def w5:List aa->Option (List ah)
 |[.int a _,.int i _]=>Z [.int a,.int i]
 |_=>Y
def oR(m:aQ):Option (List ah):=(
 match m.cls,m.dict,m.data with
 | .type "tuple",Y,.seq Lz _=>w5 Lz.toList
 |_,_,_=>Y)
def iP(m:aQ):Option d8:=((oR m).map .tup)
def i9(e:a0)(h:aq):a0:=(PySem.W.hideAll e (qh e h))
def Jz(e:a0)(h:aq):(i9 e h).objs.size=e.objs.size:=PySem.W.hideAll_size _ _
def GX{m:aQ}(d:e.get? c=Z m)(s:h c=Y):(i9 e h).get? c=Z m:=
 PySem.W.hideAll_get _ d λa=>by
  have q:(h c).isSome=V:=(uy.mp a).2;rw[s]at q;simp at q
def uY{m:aQ}(d:(i9 e h).get? c=Z m):e.get? c=Z m/\h c=Y:=by
 have a:e.get? c=Z m:=PySem.W.of_hideAll (qh e h) d;refine⟨a,?_⟩;cases q:h c with
 |none=>rfl
 |some f=>
  have b:c∈qh e h:=uy.mpr ⟨gq.mpr<|bQ a,by simp[q]⟩;have B:(i9 e h).get? c=Y:=PySem.W.hideAll_none (qh e h) b;rw[B]at d;cases d
def Dp(F e:a0)(Mr:af):List (af×aQ):=((range e.objs.size).filterMap λg=>if g=Mr\/(F.get? g).isSome=V then Y else (e.get? g).map λm=>(g,m))
def cU(F e:a0)(Mr v:af):List (af×aQ):=((Dp F e Mr).filter λu=>decide (u.1≠v))
structure Mod(Lr:Φ)(aI:az->Option aa)(LB:a0):Prop where
 uC:Lr.In LB
 glob:LB.Ns cT aI
 blt:∃xA,LB.Ns hk xA/\∀f:az,f ≠ "__name__" -> xA f=ez f
 nolimit:LB.NoLimit
 bm:∃bm m,aI "__builtins__" = Z (.ref bm)/\bm≠hk/\bm≠cT/\LB.get? bm=Z m/\m.cls=.type "module" /\ m.dict=Z hk/\m.data=.plain
structure aE where
 prog:bf
 w:a5
 K:Φ
 aI:az->Option aa
 base:a0
 A:a9
 N:List az
 dF:ag
 iK:aq
 env:dy
 outer:List dy
 stack:List dy
 ex:List af
 fn:az->Bool
 calm:Bool
 cV:List (af×aQ)
 bX:aa->ag->Prop
variable{b:aE}
def gB(L:List dy):List af:=(L.filterMap (·.frame))
abbrev aE.aj(b:aE):List af:=gB b.outer
def mE(t:dU)(f:az):Prop:=(t.names.lookup f=Z .local\/t.names.lookup f=Z .cell\/t.names.lookup f=Z .free)
def fs(t:dU)(f:az):Prop:=(t.names.lookup f=Z .local\/t.names.lookup f=Z .cell)
def CH(U:dy)(e:a0)(H:az->Option aa)(f:az)(D:aa):Prop:=(
 (U.kindOf f=Z .local/\H f=Z D)\/((U.kindOf f=Z .cell\/U.kindOf f=Z .free)/\∃o,U.cells.lookup f=Z o/\e.IsCell o (Z D)))
def qt(Lr:Φ)(o LF:af): Prop :=( ∃m Q a b c LS d e A,Lr.lookup o=Z m /\ m.cls=.type "code" /\ m.data=.fields Q /\ Q[11]? = Z (.ref LF) /\ Q.getD 11 .none=.ref LF /\ Q.getD 18 .none=.str a b /\
    Q.getD 7 .none=.int c LS /\ Q.getD 9 .none=.bool d /\ Q.getD 10 .none=.int e A /\ o ≠ LF)
def qt.hd{LF:af}(f:qt Lr o LF)(n:Lr.In e):Φc e o LF:=
 let ⟨m,Q,a,b,c,LS,g,h,A,d,p⟩:=f;⟨m,Q,a,b,c,LS,g,h,A,n _ _ d,p⟩
def I2{LF:af}(n:Lr.In e)(d:Ξ Lr f=Z (o,LF))(v:Φc e o LF):qt Lr o LF:=by
 let⟨m,Q,a,b,c,LS,g,h,A,i,p⟩:=v;have lk:∃LZ,Lr.lookup o=Z LZ:=by
  unfold Ξ at d;split at d
  ·split at d
   ·split at d
    ·split at d
     ·rename_i j;split at d
      ·cases d;exact⟨_,j⟩
      ·cases d
     ·cases d
    ·cases d
   ·cases d
  ·cases d
 let⟨LZ,y⟩:=lk;have z:=n _ _ y;rw[i]at z;cases z;exact⟨m,Q,a,b,c,LS,g,h,A,y,p⟩
def t4(Lr:Φ)(h:aq):Prop:=(∀o LF,Ξ Lr "_law_runs_of" = Z (o,LF)->h LF=Z .fo/\qt Lr o LF)
structure aE.Ok(b:aE):Prop where
 mod:Mod b.K b.aI b.base
 kind:b.env.scope.kind=.function
 glob:b.env.globals=cT
 blt:b.env.builtins=hk
 above:b.dF.heap.objs.size<=b.env.locals
 inj:∀f l o,b.env.cells.lookup f=Z o->b.env.cells.lookup l=Z o->f=l
 has:∀f,(b.env.kindOf f=Z .cell\/b.env.kindOf f=Z .free)->∃o,b.env.cells.lookup f=Z o
 lg:∀f o,b.fn f=V->b.env.cells.lookup f=Z o->b.dF.heap.objs.size<=o
 hd:b.calm=V->b.A.handled=Y
 frames:b.A.frames=Z b.stack
 oQ:b.stack=b.outer\/(b.stack=b.env::b.outer/\b.env.frame=Z b.env.locals)
 sQ:∀c∈b.ex,c≠b.env.locals/\∀f o,b.env.cells.lookup f=Z o->o≠c
 bs:∀c m,b.base.get? c=Z m->b.dF.heap.get? c=Z m/\b.iK c=iP m
 iO:b.base.objs.size<=b.dF.heap.objs.size
 k_:∀c m,b.base.get? c=Z m->c∉b.ex
 mm:∀c∈b.ex,c∉b.aj
 gy:b.dF.heap.FunFrames b.base b.outer
 ju:(∀c∈b.aj,b.iK c=Y)/\t4 b.K b.iK
structure aA(b:aE)(M:List (af×aQ))(w:List (Option ah))(h:aq)(j:ag):Prop where
 ok:b.Ok
 os:j.os=b.dF.os
 bare:jt j.gens
 base:dW b.aj b.ex b.iK h b.dF.heap j.heap
 loc:∃H,j.heap.Ns b.env.locals H/\∀(a:Nat) (f:az) (r:ah),b.N[a]?=Z f->w[a]?=Z (Z r)->mE b.env.scope f->∃D,bC r D/\CH b.env j.heap H f D
 cell:∀f o,b.env.cells.lookup f=Z o->∃r,j.heap.IsCell o r
 free:h b.env.locals=Y
 gk:∀f o,b.env.cells.lookup f=Z o->h o=Y
 pin:∀u∈b.cV++M,j.heap.get? u.1=Z u.2/\h u.1=Y/\u.1≠b.env.locals/\u.1∉b.aj/\∀r,u.2.data≠.cell r
 aT:di b.prog b.w h j.heap
 len:w.length=b.N.length
section
variable{b:aE}{M:List (af×aQ)}{w:List (Option ah)}{h P:aq}{j:ag}{Lq:a0}
def aE.Ok.Ib(ok:b.Ok){c:af}{m:aQ}(d:b.base.get? c=Z m):c∉b.aj:=λa=>by
 have:=(ok.gy.mem a).1;rw[d]at this;cases this
def aA.bs(t:aA b M w h j):∀c m,b.base.get? c=Z m->j.heap.get? c=Z m/\h c=iP m:=λc m d=>by
 let⟨y,z⟩:=t.ok.bs c m d;cases o:oR m with
 |none=>
  have s:b.iK c=Y:=z.trans (by rw[iP,o];rfl);exact⟨t.base.keep c m y s (t.ok.Ib d)<|t.ok.k_ c m d,(t.base.free c m y s<|t.ok.k_ c m d).trans<|s.symm.trans z⟩
 |some C=>
  have E:b.iK c=Z (.tup C):=z.trans (by rw[iP,o];rfl);exact⟨t.base.h_ c m C y E<|t.ok.k_ c m d,(t.base.hI c C E).trans<|E.symm.trans z⟩
def aA.d_(t:aA b M w h j):∀c m,b.base.get? c=Z m->j.heap.get? c=Z m:=λc m d=>(t.bs c m d).1
def aA.mod(t:aA b M w h j):Mod b.K b.aI b.base:=t.ok.mod
def aA.lr(t:aA b M w h j):b.K.In j.heap:=t.ok.mod.uC.keeps t.d_
def aA.nolimit(t:aA b M w h j):j.heap.NoLimit:=t.ok.mod.nolimit.keeps t.d_
def aA.lt(t:aA b M w h j):b.env.locals<j.heap.objs.size:=let ⟨_,a,_⟩:=t.loc;a.lt
def aA.hp(t:aA b M w h j):b.dF.heap.objs.size<=j.heap.objs.size:=dv t.ok.above (nU t.lt)
def aA.Gb(t:aA b M w h j){g:af}(e:j.heap.objs.size<=g):g∉b.aj:=λa=>by
 let@⟨_,⟨@m,c,_⟩⟩:=t.ok.gy.mem a;exact absurd (dn (bQ c)<|dv t.hp e) (fI _)
def aA.kv(t:aA b M w h j):∀f o,b.env.cells.lookup f=Z o->o≠b.env.locals:=λf o d B=>by
 let⟨r,@m,a,hd⟩:=t.cell f o d;let⟨@H,⟨LZ,Lu,@Mg,c,e,W⟩,W⟩:=t.loc;rw[B,c]at a;cases a;rw[e]at hd;cases hd
def aA.gy(t:aA b M w h j):j.heap.FunFrames b.base b.outer:=by
 have all:∀(L:List dy),(∀c∈gB L,c∈b.aj)->b.dF.heap.FunFrames b.base L->j.heap.FunFrames b.base L:=by
  intro L;induction L with
  |nil=>intro W W;trivial
  |cons U p g=>
   intro au i;let@⟨k,⟨Mr,@m,a,l,n,hd⟩,LG⟩:=i;have e:Mr∈b.aj:=au Mr (by unfold gB;rw[r3,a];exact jK);let⟨@bx,d⟩:=t.base.slot Mr m n (t.ok.ju.1 Mr e) e λB=>t.ok.mm Mr B e;exact⟨k,⟨Mr,_,a,l,d,hd⟩,g (λc f=>au c (by unfold gB;rw[r3,a];exact jc _ f)) LG⟩
 exact all b.outer (λ_ f=>f) t.ok.gy
def aA.stack(t:aA b M w h j):j.heap.FunFrames b.base b.stack:=by
 rcases t.ok.oQ with d|⟨d,a⟩
 ·rw[d];exact t.gy
 ·rw[d];let⟨@H,c,W⟩:=t.loc;refine .cons (by rw[t.ok.kind];decide) a c ?_ t.gy;exact a0.get?_none_of_le (dv t.ok.iO t.ok.above)
def aA.tU(t:aA b M w h j):∀c∈gB b.stack,c∈b.env.locals::b.aj:=λc a=>by
 rcases t.ok.oQ with d|⟨d,e⟩
 ·rw[d]at a;exact jc _ a
 ·rw[d]at a;unfold gB at a;rw[r3,e]at a;exact a
def aA.uN(t:aA b M w h j):∀c∈gB b.stack,h c=Y:=λc a=>by
 rcases cu.mp (t.tU c a) with d|a
 ·rw[d];exact t.free
 ·let@⟨_,⟨@m,e,_⟩⟩:=t.ok.gy.mem a;exact t.base.free c m e (t.ok.ju.1 c a) λB=>t.ok.mm c B a
def aA.cy(t:aA b M w h j):t4 b.K h:=λo LF d=>⟨(t.base.e8 LF (t.ok.ju.2 o LF d).1).1,(t.ok.ju.2 o LF d).2⟩
def aA.step(t:aA b M w h j)(x:∀c∈Mt,(c∈b.ex\/b.dF.heap.objs.size<=c)/\c≠b.env.locals/\(∀f o,b.env.cells.lookup f=Z o->o≠c)/\∀u∈b.cV++M,u.1≠c)(keep:∀c m,c≠b.env.locals->c∉b.aj->c∉Mt->j.heap.get? c=Z m->h c=Y->Lq.get? c=Z m)(A:∀c m,c≠b.env.locals->c∈b.aj->c∉Mt->j.heap.get? c=Z m->h c=Y->∃bx,Lq.get? c=Z {m with slots:=bx})(free:∀c m,c∉Mt->j.heap.get? c=Z m->h c=Y->P c=Y)(Q:∀c m,c∉Mt->j.heap.get? c=Z m->∃LZ,Lq.get? c=Z LZ)(h_:∀c m C,c∉Mt->j.heap.get? c=Z m->h c=Z (.tup C)->Lq.get? c=Z m)(hI:∀c C,h c=Z (.tup C)->P c=Z (.tup C))(ia:∀c m D,h c=Z (.b8 m D)->P c=Z (.b8 m D))(e8:∀c,h c=Z .fo->P c=Z .fo/\(c∉Mt->jN j.heap Lq c))(LN:∀H,j.heap.Ns b.env.locals H->Lq.Ns b.env.locals H)(aT:di b.prog b.w P Lq)(R:jt MF):
  aA b M w P {j with heap:=Lq,gens:=MF,drawn:=Mk,toks:=LY}:=by
 have F:∀c m,b.dF.heap.get? c=Z m->c≠b.env.locals:=λc m d=>c8 (dn (bQ d) t.ok.above);have k:∀c m,b.dF.heap.get? c=Z m->c∉b.ex->c∉Mt:=λc m d e g=>by
  rcases (x c g).1 with B|B
  ·exact e B
  ·exact absurd (dn (bQ d) B) (fI _)
 have G:∀f o,b.env.cells.lookup f=Z o->∀r,j.heap.IsCell o r->Lq.IsCell o r:=λf o d r ⟨m,l,hd⟩=>by
  have y:o∉Mt:=λB=>(x o B).2.2.1 f o d rfl;by_cases J:o∈b.aj
  ·let⟨@bx,q⟩:=A o m (t.kv f o d) J y l (t.gk f o d);exact⟨_,q,hd⟩
  ·exact⟨m,keep o m (t.kv f o d) J y l<|t.gk f o d,hd⟩
 refine⟨t.ok,t.os,R,⟨λc m d s g e=>?_,λc m d s g e=>?_,λc m d s e=>?_,λc m C d E e=>h_ c m C (k c m d e) (t.base.h_ c m C d E e)<|t.base.hI c C E,λc m d e=>?_,λc C d=>hI c C<|t.base.hI c C d,λc m C d=>ia c m C<|t.base.ia c m C d,λc d=>⟨(e8 c (t.base.e8 c d).1).1,λe LO q=>((t.base.e8 c d).2 e).trans ((e8 c (t.base.e8 c d).1).2 (k c _ q e)) LO q⟩⟩,?_,λf o d=>?_,?_,λf o d=>?_,λu N=>?_,aT,t.len⟩
 ·exact keep c m (F c m d) g (k c m d e) (t.base.keep c m d s g e) (t.base.free c m d s e)
 ·let⟨@bx,i⟩:=t.base.slot c m d s g e;let⟨@S,z⟩:=A c _ (F c m d) g (k c m d e) i (t.base.free c m d s e);exact⟨S,z⟩
 ·let⟨@LZ,i⟩:=t.base.there c m d e;exact free c LZ (k c m d e) i (t.base.free c m d s e)
 ·let⟨@LZ,i⟩:=t.base.there c m d e;exact Q c LZ (k c m d e) i
 ·let⟨@H,T,al⟩:=t.loc;refine⟨H,LN H T,λa f r i z am=>?_⟩;let⟨@D,p,L⟩:=al a f r i z am;refine⟨D,p,?_⟩;rcases L with L|⟨n,o,d,B⟩
  ·exact .inl L
  ·exact .inr ⟨n,o,d,G f o d _ B⟩
 ·let⟨@r,B⟩:=t.cell f o d;exact⟨r,G f o d r B⟩
 ·let⟨@H,⟨m,W,@W,l,W⟩,W⟩:=t.loc;exact free _ m (λB=>(x _ B).2.1 rfl) l t.free
 ·let⟨r,@m,l,hd⟩:=t.cell f o d;exact free o m (λB=>(x o B).2.2.1 f o d rfl) l (t.gk f o d)
 ·let@⟨d,s,ne,O,v⟩:=t.pin u N;have y:u.1∉Mt:=λB=>(x u.1 B).2.2.2 u N rfl;exact⟨keep u.1 u.2 ne O y d s,free u.1 u.2 y d s,ne,O,v⟩
def aA.un(t:aA b M w h j)(D:dW b.aj [] h P j.heap Lq)(aT:di b.prog b.w P Lq):aA b M w P {j with heap:=Lq,toks:=LY}:=by
 let⟨@H,⟨m,Lu,@Mg,e,p⟩,W⟩:=id t.loc;let⟨@bx,g⟩:=D.any e t.free ↥0;exact t.step (MF:=j.gens) (Mk:=j.drawn) (Mt:=[]) (λ_ B=>nomatch B) (λc m W a W d s=>D.keep c m d s a ↥0) (λc m W a W d s=>D.slot c m d s a ↥0) (λc m W d s=>D.free c m d s ↥0) (λc m W d=>D.there c m d ↥0) (λc m C W d E=>D.h_ c m C d E ↥0) D.hI D.ia (λc q=>⟨(D.e8 c q).1,λ_=>(D.e8 c q).2 ↥0⟩) (λn i=>by
  let⟨LZ,k,@l,f,Mc⟩:=i;rw[e]at f;cases f;exact⟨_,k,l,g,Mc⟩) aT t.bare
def aA.call(t:aA b M w h j)(D:dW (gB b.stack) Mt h P j.heap Lq)(aT:di b.prog b.w P Lq)(l:jt MF)(g:∀c∈Mt,(c∈b.ex\/b.dF.heap.objs.size<=c)/\c≠b.env.locals/\(∀f o,b.env.cells.lookup f=Z o->o≠c)/\∀u∈b.cV++M,u.1≠c):
  aA b M w P {j with heap:=Lq,gens:=MF,drawn:=Mk,toks:=LY}:=by
 let⟨@H,⟨m,Lu,@Mg,i,p⟩,W⟩:=id t.loc;let⟨@bx,e⟩:=D.any i t.free λB=>(g _ B).2.1 rfl;exact t.step (Mt:=Mt) g (λc m e n a d s=>D.keep c m d s (λB=>(cu.mp<|t.tU c B).elim e n) a) (λc m W W a d s=>D.any d s a) (λc m a d s=>D.free c m d s a) (λc m a d=>D.there c m d a) (λc m C a d E=>D.h_ c m C d E a) D.hI D.ia D.e8 (λx q=>by
  let⟨LZ,r,@v,k,Mc⟩:=q;rw[i]at k;cases k;exact⟨_,r,v,e,Mc⟩) aT l
def aA.turned{ae:af}(t:aA b M w h j)(n:∀c m,c≠ae->j.heap.get? c=Z m->Lq.get? c=Z m)(k:h ae=Y)(g:ae≠b.env.locals)(y:ae∈b.ex\/b.dF.heap.objs.size<=ae)(z:∀f o,b.env.cells.lookup f=Z o->o≠ae)(l:∀u∈b.cV++M,u.1≠ae):aA b M w h {j with heap:=Lq,toks:=LY}:=by
 have i:∀c D,h c=Z D->c≠ae:=λc D d B=>by rw[B,k]at d;cases d
 refine t.step (MF:=j.gens) (Mk:=j.drawn) (Mt:=[ae]) (λc e=>?_) (λc m W W a d W=>n c m (λB=>a (by simp[B])) d) (λc m W W a d W=>⟨m.slots,n c m (λB=>a (by simp[B])) d⟩) (λ_ W W W s=>s)
  (λc m a d=>⟨m,n c m (λB=>a (by simp[B])) d⟩) (λc m W a d W=>n c m (λB=>a (by simp[B])) d) (λ_ W d=>d) (λ_ W W d=>d) (λc d=>⟨d,λe=>.of λm q=>n c m (λB=>e (by simp[B])) q⟩) (λH v=>?_) (λc D d=>?_) t.bare
 ·have d:c=ae:=by simpa using e
  subst d;exact⟨y,g,z,l⟩
 ·let⟨m,Lu,@Mg,x,p⟩:=v;exact⟨m,Lu,Mg,n _ m (d3 g) x,p⟩
 ·refine (t.aT c D d).fC (λo r a q=>n o r ?_ q) (λ_ q=>q) (λ_ W q=>q) λ_ W W q=>q;rcases a with B|B
  ·rw[B];exact i c D d
  ·exact i o _ B
def aA.tok(t:aA b M w h j)(E:Nat):aA b M w h {j with toks:=E}:=t.un (Lq:=j.heap) (LY:=E) dW.refl t.aT
def aA.kept(t:aA b M w h j)(n:∀c D,j.heap.get? c=Z D->Lq.get? c=Z D):aA b M w h {j with heap:=Lq,toks:=LY}:=t.un (dW.kept n) (t.aT.kept n)
def aA.laid(t:aA b M w h j)(n:∀c D,j.heap.get? c=Z D->Lq.get? c=Z D)(a:j.heap.objs.size<=g)(new:dG b.prog b.w (upd h g m) Lq g m):
  aA b M w (upd h g m) {j with heap:=Lq,toks:=LY}:=t.un (dW.laid n a<|t.aT.fresh a) (t.aT.laid n a new)
def aA.write{f d:af}(t:aA b M w h j)(a:mC (h f))(e:d=f\/h d=Z (.own f))(n:∀c D,c≠d->j.heap.get? c=Z D->Lq.get? c=Z D)(g:∃D,Lq.get? d=Z D)(new:dG b.prog b.w (upd h f m) Lq f m):aA b M w (upd h f m) {j with heap:=Lq,toks:=LY}:=t.un (dW.write a e n g) (t.aT.write a e n g new)
def aA.weak{c:List (Option ah)}(t:aA b M w h j)(d:c.length=w.length)(I:∀(a:Nat) r,c[a]?=Z (Z r)->w[a]?=Z (Z r)):aA b M c h j:=
 ⟨t.ok,t.os,t.bare,t.base,let ⟨H,e,g⟩:=t.loc;⟨H,e,λa f r i k l=>g a f r i (I a r k) l⟩,t.cell,t.free,t.gk,t.pin,t.aT,d.trans t.len⟩
def aA.ly{a:List (af×aQ)}(t:aA b M w h j)(e:∀u∈a,j.heap.get? u.1=Z u.2/\h u.1=Y/\u.1≠b.env.locals/\u.1∉b.aj/\∀r,u.2.data≠.cell r):aA b a w h j:=
 ⟨t.ok,t.os,t.bare,t.base,t.loc,t.cell,t.free,t.gk,λu c=>(er.mp c).elim (λB=>t.pin u<|fM _ B)<|e u,t.aT,t.len⟩
def zz(b:LR.Nodup){a i:Nat}{f:az}(g:LR[a]?=Z f)(c:LR[i]?=Z f):a=i:=by
 let⟨@y,d⟩:=eT.mp g;let⟨@z,e⟩:=eT.mp c;exact (Ac b).mp (d.trans e.symm)
variable{x:Unit->ag->Prop}
def yp{aB:ft}(t:aA b M w h j)(a1:b.N.Nodup)(Lv:b.N[a]?=Z f)(y:fs b.env.scope f)(p:bC r D)(e:∀S,aA b M (w.set a<|Z r) h S->(∃g,a0.SameBut g j.heap S.heap/\(g=b.env.locals\/b.env.cells.lookup f=Z g))->x () S)(bv:b.fn f=V\/b.env.scope.names.lookup f=Z .local:=by first|exact .inl rfl|exact .inr rfl|assumption):wpAny aB O (tT b.env f D) x Ls j:=by
 let⟨@H,T,a2⟩:=id t.loc;have ca:(b.env.scope.kind==.class || (b.env.scope.kind==.module&&b.env.locals != b.env.globals))=ar:=by rw[t.ok.kind];rfl
 have bd:a<w.length:=by rw[t.len];exact (eT.mp Lv).1
 have kv:=t.kv;have be:∀{g:af}{Lq:a0},(∃m,j.heap.get? g=Z m/\h g=Y)->a0.SameBut g j.heap Lq->di b.prog b.w h Lq:=λ{g Lq} cd au c ce d=>by
  let⟨@W,W,bi⟩:=cd;refine (t.aT c ce d).fC (λo P z q=>(au.2 o ?_).trans q) (λ_ q=>q) (λ_ W q=>q) λ_ W W q=>q;rintro rfl;rcases z with rfl|z
  ·rw[bi]at d;cases d
  ·rw[bi]at z;cases z
 rcases y with F|F
 ·refine wpAny_storeName_local F T (λLq ch au=>?_) ca;let⟨ci,W,@W,cl,W⟩:=id T;refine e _ ⟨t.ok,t.os,t.bare,⟨λc m d s J y=>?_,λc m d s J y=>?_,t.base.free,λc m C d E y=>(au.2 c<|c8<|dn (bQ d) t.ok.above).trans<|t.base.h_ c m C d E y,λc m d y=>?_,t.base.hI,t.base.ia,λc d=>⟨(t.base.e8 c d).1,λy=>((t.base.e8 c d).2 y).trans (.of λm q=>(au.2 c λB=>by have k:=(t.base.e8 c d).1;rw[B,t.free]at k;cases k).trans q)⟩⟩,⟨_,ch,λi l al k A am=>?_⟩,λl o d=>?_,t.free,t.gk,λu an=>?_,be ⟨ci,cl,t.free⟩ au,by simpa using t.len⟩ ⟨_,au,.inl rfl⟩
  ·exact (au.2 c<|c8<|dn (bQ d) t.ok.above).trans (t.base.keep c m d s J y)
  ·let⟨@bx,k⟩:=t.base.slot c m d s J y;exact⟨bx,(au.2 c<|c8<|dn (bQ d) t.ok.above).trans k⟩
  ·let⟨@LZ,k⟩:=t.base.there c m d y;exact⟨LZ,(au.2 c<|c8<|dn (bQ d) t.ok.above).trans k⟩
  ·by_cases L:i=a
   ·subst L;rw[Lv]at k;cases k;rw[pl bd]at A;cases A;exact⟨D,p,.inl ⟨F,by simp⟩⟩
   ·rw[k4 (d3 L)]at A;let⟨@ap,Mc,q⟩:=a2 i l al k A am;refine⟨ap,Mc,?_⟩;rcases q with ⟨n,d⟩|⟨n,o,d,B⟩
    ·refine .inl ⟨n,?_⟩;have:l≠f:=λd=>L (zz a1 k<|d ▸ Lv);simp[this,d]
    ·exact .inr ⟨n,o,d,B.sameBut au<|kv l o d⟩
  ·let⟨@P,B⟩:=t.cell l o d;exact⟨P,B.sameBut au<|kv l o d⟩
  ·let@⟨d,s,ne,as,v⟩:=t.pin u an;exact⟨(au.2 u.1 ne).trans d,s,ne,as,v⟩
 ·have Q:b.fn f=V:=by
   rcases bv with B|B
   ·exact B
   ·rw[B]at F;cases F
  let⟨@o,z⟩:=t.ok.has f (.inl F);let⟨@P,B⟩:=t.cell f o z;refine wpAny_storeName_cell t.ok.kind F z B (λLq bm au=>?_);let⟨@Mo,bn,co⟩:=id B;refine e {j with heap:=Lq} ⟨t.ok,t.os,t.bare,⟨λc m d s J y=>?_,λc m d s J y=>?_,t.base.free,λc m C d E y=>(au.2 c<|c8<|dn (bQ d)<|t.ok.lg f o Q z).trans<|t.base.h_ c m C d E y,λc m d y=>?_,t.base.hI,t.base.ia,λc d=>⟨(t.base.e8 c d).1,λy=>((t.base.e8 c d).2 y).trans (.of λm q=>(au.2 c λB=>by have k:=(t.base.e8 c d).1;rw[B,t.gk f o z]at k;cases k).trans q)⟩⟩,⟨H,T.sameBut au<|d3<|kv f o z,λi l al k A am=>?_⟩,λl R d=>?_,t.free,t.gk,λu an=>?_,be ⟨Mo,bn,t.gk f o z⟩ au,by simpa using t.len⟩ ⟨o,au,.inr z⟩
  ·exact (au.2 c<|c8<|dn (bQ d)<|t.ok.lg f o Q z).trans (t.base.keep c m d s J y)
  ·let⟨@bx,k⟩:=t.base.slot c m d s J y;exact⟨bx,(au.2 c<|c8<|dn (bQ d)<|t.ok.lg f o Q z).trans k⟩
  ·let⟨@LZ,k⟩:=t.base.there c m d y;exact⟨LZ,(au.2 c<|c8<|dn (bQ d)<|t.ok.lg f o Q z).trans k⟩
  ·by_cases L:i=a
   ·subst L;rw[Lv]at k;cases k;rw[pl bd]at A;cases A;exact⟨D,p,.inr ⟨.inl F,o,z,bm⟩⟩
   ·rw[k4 (d3 L)]at A;let⟨@ap,Mc,q⟩:=a2 i l al k A am;refine⟨ap,Mc,?_⟩;rcases q with q|⟨n,R,d,cr⟩
    ·exact .inl q
    ·refine .inr ⟨n,R,d,cr.sameBut au ?_⟩;rintro rfl;exact L (zz a1 k<|t.ok.inj _ _ _ d z ▸ Lv)
  ·by_cases bs:R=o
   ·subst bs;exact⟨_,bm⟩
   ·let⟨@cs,db⟩:=t.cell l R d;exact⟨cs,db.sameBut au bs⟩
  ·let@⟨d,s,ne,as,v⟩:=t.pin u an;refine⟨(au.2 u.1 ?_).trans d,s,ne,as,v⟩;intro q;rw[q,bn]at d;have ds:Mo=u.2:=Option.some.inj d;exact v P (by rw[<-ds];exact co)
def sU{aB:ft}(t:aA b M w h j)(c:b.N.Nodup)(Lv:b.N[a]?=Z f)(d:fs b.env.scope f)(p:bC r D)(e:∀S,aA b M (w.set a<|Z r) h S->x () S)(g:b.fn f=V\/b.env.scope.names.lookup f=Z .local:=by first|exact .inl rfl|exact .inr rfl|assumption):wpAny aB O (tT b.env f D) x Ls j:=
 yp t c Lv d p (λS i W=>e S i) g
def aA.Kh(t:aA b M w h j)(a:S.os=j.os)(D:dW (gB b.stack) Mt h P j.heap S.heap)(aT:di b.prog b.w P S.heap)(e:jt S.gens)(g:∀c∈Mt,(c∈b.ex\/b.dF.heap.objs.size<=c)/\c≠b.env.locals/\(∀f o,b.env.cells.lookup f=Z o->o≠c)/\∀u∈b.cV++M,u.1≠c):aA b M w P S:=by
 let⟨Lq,MF,Mk,LY,LZ⟩:=S;have d:LZ=j.os:=a;subst d;exact t.call (MF:=MF) (LY:=LY) (Mk:=Mk) D aT e g
end
abbrev eO:=aa->Option af->aq->Prop
abbrev aW:=List (Option ah)
variable{w:aW}
abbrev cp:=ah->aq->Prop
abbrev bT:=aW->aq->cp->Prop
variable{Mq:bT}
abbrev dq:=aW->aq->(Bool->aq->Prop)->Prop
variable{Mz:dq}
abbrev ei:=aW->aq->(List ah->aq->Prop)->Prop
structure k1 where
 bh:aW->aq->Prop
 cR:cp
 d_:aW->aq->Prop:=λ_ _=>False
 bW:aW->aq->Prop:=λ_ _=>False
abbrev dV:=k1->aW->aq->Prop
variable{cy:dV}
def dD(b:aE)(M:List (af×aQ))(w:aW)(x:cp)(D:aa)(S:ag):Prop:=(∃r P,aA b M w P S/\bC r D/\x r P)
def o3(b:aE)(M:List (af×aQ))(w:aW)(x:Bool->aq->Prop)(c:Bool)(S:ag):Prop:=(∃P,aA b M w P S/\x c P)
def IT(b:aE)(M:List (af×aQ))(w:aW)(x:List ah->aq->Prop)(LP:List aa)(S:ag):Prop:=(∃Q P,aA b M w P S/\b1 Q LP/\x Q P)
def kT(b:aE)(M:List (af×aQ))(k:k1)(R:Flow)(S:ag):Prop:=(
 match R with
 |.next=>∃a P,aA b M a P S/\k.bh a P
 |.brk=>∃a P,aA b M a P S/\k.d_ a P
 |.cont=>∃a P,aA b M a P S/\k.bW a P
 |.ret D=>∃r a P,aA b M a P S/\bC r D/\k.cR r P)
def vm(b:aE)(d:a7)(E:bT)(M:List (af×aQ)):Prop:=(
 ∀(j:ag) (w:aW) (h:aq) (x:cp),aA b M w h j->E w h x->wpAny (aP b.prog b.w) b.A (bU d b.env) (dD b M w x) b.bX j)
def bw(b:aE)(d:a7)(E:bT):Prop:=(∀M,vm b d E M)
def yN(b:aE)(d:a7)(E:dq)(M:List (af×aQ)):Prop:=(
 ∀(j:ag) (w:aW) (h:aq) (x:Bool->aq->Prop),aA b M w h j->E w h x->wpAny (aP b.prog b.w) b.A (l5 d b.env<|bU d b.env) (o3 b M w x) b.bX j)
def f9(b:aE)(d:a7)(E:dq):Prop:=(∀M,yN b d E M)
def zI(b:aE)(d:a7)(E:dq)(a:da aa):Prop:=(
 ∀(M:List (af×aQ)) (j:ag) (w:aW) (h:aq) (x:Bool->aq->Prop),aA b M w h j->E w h x->wpAny (aP b.prog b.w) b.A (l5 d b.env a) (o3 b M w x) b.bX j)
def h1(b:aE)(d:a7)(E:dq):Prop:=(∀a,zI b d E a)
def h1.pt{E:dq}(e:h1 b d E):f9 b d E:=e _
def zp(b:aE)(Lu:List a7)(E:ei)(LC:Pos):Prop:=(
 ∀(M:List (af×aQ)) (j:ag) (w:aW) (h:aq) (x:List ah->aq->Prop),aA b M w h j->E w h x->wpAny (aP b.prog b.w) b.A (spliced<|ek LC<|bu Lu b.env) (IT b M w x) b.bX j)
def gd(b:aE)(Lu:List a7)(E:ei):Prop:=(∀LC,zp b Lu E LC)
def yo(b:aE)(J:cv)(E:dV)(M:List (af×aQ)):Prop:=(
 ∀(j:ag) (w:aW) (h:aq) (k:k1),aA b M w h j->E k w h->wpAny (aP b.prog b.w) b.A (exec J b.env) (kT b M k) b.bX j)
def f3(b:aE)(J:cv)(E:dV):Prop:=(∀M,yo b J E M)
def Bn(b:aE)(J:List cv)(E:dV)(M:List (af×aQ)):Prop:=(
 ∀(j:ag) (w:aW) (h:aq) (k:k1),aA b M w h j->E k w h->wpAny (aP b.prog b.w) b.A (execs J b.env) (kT b M k) b.bX j)
def fP(b:aE)(J:List cv)(E:dV):Prop:=(∀M,Bn b J E M)
def bK{L0:Type}{E:da L0}{x a:L0->ag->Prop}{aB:ft}(e:wpAny aB O E x Ls j)(b:∀g j,x g j->a g j):wpAny aB O E a Ls j:=fq e b λ_ W f=>f
section
variable{b:aE}
def h6(a:Nat):bT:=(λw h x=>∃r,w[a]?=Z (Z r)/\x r h)
def mI(r:ah):bT:=(λ_ h x=>x r h)
def y8(l:b.N[a]?=Z f)(m:mE b.env.scope f)(hd:(f==("__debug__" : az))=ar:=by decide)(n:(f==("__classdict__" : az))=ar:=by decide):bw b (.Name f LC) (h6 a):=by
 intro M j w h x t e;let⟨@r,d,e⟩:=e;let⟨@H,q,s⟩:=t.loc;let⟨@D,p,L⟩:=s a f r l d m;have g:dD b M w x D j:=⟨r,h,t,p,e⟩;rcases L with ⟨c,u⟩|⟨c,o,i,k⟩
 ·exact tY (yW t.ok.kind c q u g) hd
 ·rcases c with c|c
  ·exact tY (BO t.ok.kind c i k g) hd
  ·exact tY (wpAny_loadName_free t.ok.kind c i k g n) hd
def wN{a i LC}:bw b (.Constant (.int a) i LC) (mI<|.int a):=λ_ W W h W t e=>wpAny_Constant_int ⟨.int a,h,t.tok _,⟨_,rfl⟩,e⟩
def Fq{c i LC}:bw b (.Constant (.bool c) i LC) (mI<|.aF c):=λ_ W W h W t e=>Constant_bool ⟨.aF c,h,t,rfl,e⟩
def D1{f i LC}:bw b (.Constant (.str f) i LC) (mI<|.str f):=λ_ W W h W t e=>Calls.Constant_str ⟨.str f,h,t.tok _,⟨_,rfl⟩,e⟩
def eC(b:aE)(f:az):Prop:=(b.env.kindOf f=Z .globalImplicit)
def AI(t:aA b M w h j)(a:eC b f)(c:b.aI f=Z D)(e:x D j)(hd:(f==("__debug__" : az))=ar:=by decide):wpAny (aP b.prog b.w) b.A (bU (.Name f LC) b.env) x Ls j:=
 v9 t.ok.kind a (Calls.loadGlobal_global (by rw[t.ok.glob];exact t.mod.glob.keeps t.d_) c e) hd
def l3(t:aA b M w h j)(a:eC b f)(c:b.aI f=Y)(d:ez f=Z D)(e:x D j)(g:f ≠ "__name__" := by decide)(hd:(f==("__debug__" : az))=ar:=by decide):wpAny (aP b.prog b.w) b.A (bU (.Name f LC) b.env) x Ls j:=by
 let⟨@i,y,z⟩:=t.mod.blt;exact v9 t.ok.kind a (Calls.loadGlobal_builtin (by rw[t.ok.glob];exact t.mod.glob.keeps t.d_) c (by rw[t.ok.blt];exact y.keeps t.d_) ((z f g).trans d) e) hd
def B7(a:eC b f)(c:b.aI f=Z D)(p:bC r D)(hd:(f==("__debug__" : az))=ar:=by decide):bw b (.Name f LC) (mI r):=
 λ_ W W h W t e=>AI t a c ⟨r,h,t,p,e⟩ hd
def Cn(a:eC b f)(c:b.aI f=Y)(d:ez f=Z D)(p:bC r D)(g:f ≠ "__name__" := by decide)(hd:(f==("__debug__" : az))=ar:=by decide):bw b (.Name f LC) (mI r):=
 λ_ W W h W t e=>l3 t a c d ⟨r,h,t,p,e⟩ g hd
variable{g c:a7}{L8 cy:bT}{LC:Pos}
def F3(E:bT):dq:=(λw h x=>E w h λf Lw=>∃o,f=.aF o/\x o Lw)
variable{fJ i:dq}{cU:List a7}
def Bo(E D:dq):dq:=(λw h x=>E w h λo Lw=>if o=V then D w Lw x else x ar Lw)
def zo(E D:dq):dq:=(λw h x=>E w h λo Lw=>if o=V then x V Lw else D w Lw x)
def F4(E:dq):dq:=(λw h x=>E w h λo Lw=>x (!o) Lw)
def Ef(a:f9 b g fJ):h1 b (.BoolOp .And [g] LC) fJ:=by
 intro c M j w h x t e;refine isTrue_and (bK (a M j w h x t e) λo f d=>?_);cases o with
 |true=>exact isTrue_and_nil d
 |false=>exact d
def Jq(a:f9 b g fJ):h1 b (.BoolOp .Or [g] LC) fJ:=by
 intro c M j w h x t e;refine isTrue_or (bK (a M j w h x t e) λo f d=>?_);cases o with
 |false=>exact isTrue_or_nil d
 |true=>exact d
def JC(f:f9 b g fJ)(k:h1 b (.BoolOp .And (c::cU) LC) i):h1 b (.BoolOp .And (g::c::cU) LC) (Bo fJ i):=by
 intro l M j w h x t e;refine isTrue_and (bK (f M j w h _ t e) λo m n=>?_);let⟨@Lw,a,d⟩:=n;cases o with
 |true=>exact k l M m w Lw x a d
 |false=>exact⟨Lw,a,d⟩
def E8(f:f9 b g fJ)(k:h1 b (.BoolOp .Or (c::cU) LC) i):h1 b (.BoolOp .Or (g::c::cU) LC) (zo fJ i):=by
 intro l M j w h x t e;refine isTrue_or (bK (f M j w h _ t e) λo m n=>?_);let⟨@Lw,a,d⟩:=n;cases o with
 |true=>exact⟨Lw,a,d⟩
 |false=>exact k l M m w Lw x a d
def Jt(a:f9 b g fJ):f9 b (.UnaryOp .Not g LC) (F4 fJ):=by
 intro M j w h x t e;exact isTrue_not (a M j w h (λo Lw=>x (!o) Lw) t e)
def C9(L8 cy:bT):bT:=(λw h x=>L8 w h λf Lw=>∃o,f=.aF o/\if o=V then cy w Lw x else x (.aF ar) Lw)
def Er(L8:bT):bT:=(λw h x=>L8 w h λf Lw=>∃o,f=.aF o/\x (.aF<|!o) Lw)
def H3{L4}{E:bT}(e:bw b g E):bw b (.BoolOp L4 [g] LC) E:=λM j w h x t a=>BoolOp_one (e M j w h x t a)
def Gl(i:bw b g L8)(k:bw b (.BoolOp .And (c::cU) LC) cy):bw b (.BoolOp .And (g::c::cU) LC) (C9 L8 cy):=by
 intro M j w h x t e;refine BoolOp_and (bK (i M j w h _ t e) λr l m=>?_);let⟨f,@Lw,d,n,a⟩:=m;let⟨@o,rfl,a⟩:=a;cases n;refine j0 ?_;cases o with
 |true=>exact k M l w Lw x d a
 |false=>exact⟨.aF ar,Lw,d,rfl,a⟩
def I1(c:bw b g L8):bw b (.UnaryOp .Not g LC) (Er L8):=by
 intro M j w h x t e;refine UnaryOp_ (bK (c M j w h _ t e) λr l d=>?_);let⟨f,@Lw,i,k,a⟩:=d;let⟨@o,rfl,a⟩:=a;cases k;exact not_of (j0 ⟨.aF<|!o,Lw,i,rfl,a⟩)
end
def cB(Lr:Φ)(h:aq)(g:af)(C:List ah):Prop:=(
 iX h g (.lst C)\/
  ∃(m:aQ) (Lz:Array aa) (s:Nat),Lr.lookup g=Z m/\m.cls=.type "list" /\ m.dict=Y/\m.data=.seq Lz s/\Lz.size<=sizeLine/\b1 C Lz.toList)
def b3(Lr:Φ)(h:aq)(g:af)(C:List ah):Prop:=(
 iX h g (.tup C)\/
  ∃(m:aQ) (Lz:Array aa) (s:Nat),Lr.lookup g=Z m/\m.cls=.type "tuple" /\ m.data=.seq Lz s/\Lz.size<=sizeLine/\b1 C Lz.toList)
def Jc:aa->Option ah
 |.none=>Z .aR
 |.bool c=>Z (.aF c)
 |.int a _=>Z (.int a)
 |.str f _=>Z (.str f)
 |.bytes c _=>Z (.od c)
 |.float c _=>Z (.uD c)
 |.ref g=>Z (.ref g)
 |.type s=>Z (.ty s)
 |_=>Y
def bC.abs{f:ah}(p:bC f D):Jc D=Z f:=by
 cases f with
 |aR=>cases p;rfl
 |aF _=>cases p;rfl
 |int _=>let⟨@E,rfl⟩:=p;rfl
 |str _=>let⟨@E,rfl⟩:=p;rfl
 |od _=>let⟨@E,rfl⟩:=p;rfl
 |uD _=>let⟨@E,rfl⟩:=p;rfl
 |ref _=>cases p;rfl
 |ty _=>cases p;rfl
def bC.inj{f:ah}(p:bC f D)(q:bC l D):f=l:=Option.some.inj (p.abs.symm.trans q.abs)
theorem b1.inj:∀{C LH:List ah}{LP:List aa},b1 C LP->b1 LH LP->C=LH
 |_,_,_,.nil,.nil=>rfl
 |_,_,_,.cons p E,.cons Mc LY=>by rw[p.inj Mc,b1.inj E LY]
section
variable{b:aE}{M:List (af×aQ)}{w:aW}{h:aq}{j:ag}{g:af}{C LH:List ah}
def cB.of(e:h g=Z (.lst C)):cB Lr h g C:=.inl (.inl e)
def b3.of(e:h g=Z (.tup C)):b3 Lr h g C:=.inl (.inl e)
def aA.list(t:aA b M w h j)(e:cB b.K h g C):∃Lz:List aa,b1 C Lz/\PlainL j.heap g Lz.toArray/\C.length<=sizeLine:=by
 rcases e with e|⟨m,Lz,s,a,c,hd,au,f,p⟩
 ·let@⟨B,⟨Lz,@s,p,d⟩⟩:=e.ok t.aT;exact⟨Lz,p,⟨_,s,d,rfl,rfl,rfl⟩,B⟩
 ·refine⟨Lz.toList,p,⟨m,s,t.lr g m a,c,hd,by simpa using au⟩,?_⟩;have d:=p.length;simp only[eD]at d;lia
def aA.tuple(t:aA b M w h j)(e:b3 b.K h g C):∃Lz:List aa,b1 C Lz/\nI j.heap g Lz.toArray/\C.length<=sizeLine:=by
 rcases e with e|⟨m,Lz,s,a,c,au,f,p⟩
 ·let@⟨B,⟨@Lz,p,u⟩⟩:=e.ok t.aT;exact⟨Lz,p,u.tup,B⟩
 ·refine⟨Lz.toList,p,⟨m,t.lr g m a,c,s,by simpa using au⟩,?_⟩;have d:=p.length;simp only[eD]at d;lia
def aA.E0(t:aA b M w h j)(e:cB b.K h g C)(Lq:cB b.K h g LH):C=LH:=by
 let⟨@Lz,p,⟨m,@s,d,W,W,v⟩,W⟩:=t.list e;let⟨@J,Mc,⟨LZ,@c,a,W,W,Mk⟩,W⟩:=t.list Lq;rw[d]at a;cases a;rw[v]at Mk;injection Mk with L6 _;have:Lz=J:=by simpa using congrArg Array.toList L6
 subst this;exact p.inj Mc
def aA.tS(t:aA b M w h j)(e:b3 b.K h g C)(Lq:b3 b.K h g LH):C=LH:=by
 let⟨@Lz,p,⟨@m,d,W,⟨@s,v⟩⟩,W⟩:=t.tuple e;let⟨@J,Mc,⟨@LZ,a,W,⟨@c,Mk⟩⟩,W⟩:=t.tuple Lq;rw[d]at a;cases a;rw[v]at Mk;injection Mk with L6 _;have:Lz=J:=by simpa using congrArg Array.toList L6
 subst this;exact p.inj Mc
end
abbrev aE.iR(b:aE)(Ls:aa->ag->Prop):aE:={b with bX:=Ls}
abbrev aE.hX(b:aE):aE:=b.iR λ_ _=>False
def aE.Ok.iR(ok:b.Ok)(Ls:aa->ag->Prop):(b.iR Ls).Ok:=
 ⟨ok.mod,ok.kind,ok.glob,ok.blt,ok.above,ok.inj,ok.has,ok.lg,ok.hd,ok.frames,ok.oQ,ok.sQ,ok.bs,ok.iO,ok.k_,ok.mm,ok.gy,ok.ju⟩
def aE.Ok.jU(ok:(b.iR Ls).Ok):b.Ok:=
 ⟨ok.mod,ok.kind,ok.glob,ok.blt,ok.above,ok.inj,ok.has,ok.lg,ok.hd,ok.frames,ok.oQ,ok.sQ,ok.bs,ok.iO,ok.k_,ok.mm,ok.gy,ok.ju⟩
section
variable{b:aE}{M:List (af×aQ)}{w:aW}{h:aq}{j:ag}{Ls:aa->ag->Prop}
def aA.iR(t:aA b M w h j)(Ls:aa->ag->Prop):aA (b.iR Ls) M w h j:=⟨t.ok.iR Ls,t.os,t.bare,t.base,t.loc,t.cell,t.free,t.gk,t.pin,t.aT,t.len⟩
def aA.jU(t:aA (b.iR Ls) M w h j):aA b M w h j:=⟨t.ok.jU,t.os,t.bare,t.base,t.loc,t.cell,t.free,t.gk,t.pin,t.aT,t.len⟩
def kT.jU{k:k1}{R:Flow}(e:kT (b.iR Ls) M k R S):kT b M k R S:=by
 cases R with
 |next=>let⟨a,@P,t,q⟩:=e;exact⟨a,P,t.jU,q⟩
 |brk=>let⟨a,@P,t,q⟩:=e;exact⟨a,P,t.jU,q⟩
 |cont=>let⟨a,@P,t,q⟩:=e;exact⟨a,P,t.jU,q⟩
 |ret D=>let⟨r,a,@P,t,p,q⟩:=e;exact⟨r,a,P,t.jU,p,q⟩
def fP.hX{J:List cv}{E:dV}(e:fP b.hX J E):fP b J E:=λM j w h k t a=>
 fq (e M j w h k (t.iR _) a) (λ_ W q=>q.jU) λ_ W B=>False.elim B
end
section
variable{b:aE}{J:cv}{cU:List cv}{E D:dV}{d:a7}{Mq:bT}{LC:Pos}
def CJ:dV:=(λk w h=>k.bh w h)
def BS(E D:dV):dV:=(λk w h=>E {k with bh:=D k} w h)
def Jn:fP b [] CJ:=λ_ W w h W t e=>pn ⟨w,h,t,e⟩
def Dt(y:f3 b J E)(z:fP b cU D):fP b (J::cU) (BS E D):=by
 intro M j w h k t e;refine AL (bK (y M j w h {k with bh:=D k} t e) λR a q=>?_);cases R with
 |next=>
  let⟨c,@P,d,q⟩:=q;exact z M a c P k d q
 |ret r=>exact q
 |brk=>exact q
 |cont=>exact q
def Eo(y:f3 b J E):fP b [J] E:=by
 intro M j w h k t e;refine AL (bK (y M j w h k t e) λR a q=>?_);cases R with
 |next=>exact pn q
 |ret r=>exact q
 |brk=>exact q
 |cont=>exact q
def aA.quiet(t:aA b M w h j):interactive b.env=ar:=by simp[interactive,t.ok.kind]
def Fo(Mq:bT):dV:=(λk w h=>Mq w h λ_ Lw=>k.bh w Lw)
def FW(a:bw b d Mq)(au:kx d Y LC.line b.env=pure ar:=by rfl):f3 b (.Expr d LC) (Fo Mq):=by
 intro M j w h k t e;exact wpAny_Expr_any (bK (a M j w h _ t e) λr i ⟨f,Lw,c,l,g⟩=>⟨w,Lw,c,g⟩) t.quiet au
def Df(Mq:bT):dV:=(λk w h=>Mq w h k.cR)
def Iv(a:bw b d Mq):f3 b (.Return (Z d) LC) (Df Mq):=by
 intro M j w h k t e;exact wpAny_Return_some (bK (a M j w h _ t e) λr l ⟨f,Lw,c,g,i⟩=>⟨f,w,Lw,c,g,i⟩)
def H5(o:dq)(E D:dV):dV:=(λk w h=>o w h λc Lw=>if c=V then E k w Lw else D k w Lw)
def CR{o:a7}{g c:List cv}(i:f9 b o Mz)(l:fP b g E)(m:fP b c D):f3 b (.If o g c LC) (H5 Mz E D):=by
 intro M j w h k t e;refine wpAny_If (bK (i M j w h _ t e) λv a n=>?_);let⟨@Lw,d,f⟩:=n;cases v with
 |true=>exact l M a w Lw k d f
 |false=>exact m M a w Lw k d f
end
abbrev fj:=ah->aW->aq->(aW->aq->Prop)->Prop
abbrev iQ:=List ah->aW->aq->(aW->aq->Prop)->Prop
def xf(b:aE)(c:a7)(E:fj)(M:List (af×aQ)):Prop:=(
 ∀(j:ag) (w:aW) (h:aq) (r:ah) (D:aa) (x:aW->aq->Prop),aA b M w h j->bC r D->E r w h x->
  wpAny (aP b.prog b.w) b.A (fO c b.env D) (λ_ S=>∃a P,aA b M a P S/\x a P) b.bX j)
def hQ(b:aE)(a:a7)(E:fj):Prop:=(∀M,xf b a E M)
def ye(b:aE)(c:List a7)(E:iQ)(M:List (af×aQ)):Prop:=(
 ∀(j:ag) (w:aW) (h:aq) (Q:List ah) (LP:List aa) (x:aW->aq->Prop),aA b M w h j->b1 Q LP->E Q w h x->
  wpAny (aP b.prog b.w) b.A (assignInOrder ((eo c b.env).map (·.2)) LP) (λ_ S=>∃a P,aA b M a P S/\x a P) b.bX j)
def kL(b:aE)(a:List a7)(E:iQ):Prop:=(∀M,ye b a E M)
abbrev sS:=ah->ah->ah->aq->(aq->Prop)->Prop
def tm(b:aE)(E:sS):Prop:=(
 ∀(M:List (af×aQ)) (j:ag) (w:aW) (h:aq) (m a r:ah) (c d D:aa) (x:aq->Prop),aA b M w h j->bC m c->bC a d->bC r D->E m a r h x->
  wpAny (aP b.prog b.w) b.A (rn c d D) (λ_ S=>∃P,aA b M w P S/\x P) b.bX j)
abbrev q2:=ah->ah->aq->cp->Prop
def tJ(b:aE)(L4:mO)(E:q2):Prop:=(
 ∀(M:List (af×aQ)) (j:ag) (w:aW) (h:aq) (f l:ah) (r D:aa) (x:cp),aA b M w h j->bC f r->bC l D->E f l h x->
  wpAny (aP b.prog b.w) b.A (inplaceOp L4 r D) (dD b M w x) b.bX j)
section
variable{b:aE}{LC:Pos}
def uO(a:Nat):fj:=(λr w h x=>x (w.set a<|Z r) h)
def uF(c:b.N.Nodup)(Lv:b.N[a]?=Z f)(d:fs b.env.scope f)(g:b.fn f=V\/b.env.scope.names.lookup f=Z .local:=by first|exact .inl rfl|exact .inr rfl|assumption):hQ b (.Name f LC) (uO a):=by
 intro M j w h r D x t p e;exact xJ (sU t c Lv d p (λS i=>⟨_,h,i,e⟩) g)
def EI:iQ:=(λQ w h x=>Q=[]/\x w h)
def Iu(E:fj)(D:iQ):iQ:=(λQ w h x=>∃r p,Q=r::p/\E r w h λa P=>D p a P x)
def AB:kL b [] EI:=by
 intro M j w h Q LP x t p e;let@⟨d,e⟩:=e;subst d;cases p;exact assignInOrder_nil ⟨w,h,t,e⟩
def sV{E:fj}{D:iQ}(y:hQ b d E)(z:kL b Lu D)(au:(eo (d::Lu) b.env).map (·.2)=fO d b.env::(eo Lu b.env).map (·.2):=by rfl):kL b (d::Lu) (Iu E D):=by
 intro M j w h Q LP x t p e;let⟨r,@l,a,e⟩:=e;subst a;cases p with
 |cons p c=>
  rw[au];refine assignInOrder_cons (bK (y M j w h _ _ _ t p e) λ_ f g=>?_);let⟨MH,@Lw,i,k⟩:=g;exact z M f MH Lw _ _ x i c k
def C5(Lr:Φ)(s:Nat)(E:iQ):fj:=(λr w h x=>∃g C,r=.ref g/\b3 Lr h g C/\C.length=s/\E C w h x)
def C_{E:iQ}(i:b.calm=V)(e:kL b Lu E)(k:(eo Lu b.env).length=s:=by rfl)(l:(eo Lu b.env).findIdx? (·.1)=Y:=by rfl):hQ b (.Tuple Lu n LC) (C5 b.K s E):=by
 intro M j w h r D x t p a;let⟨g,@C,o,q,u,a⟩:=a;subst o;cases p;let⟨@Lz,f,v,A⟩:=t.tuple q;refine zh (t.ok.hd i) v (by simp[k,<-u,f.length]) l λLq y=>?_;have z:aA b M w h {j with heap:=Lq}:=t.kept (LY:=j.toks) λc m d=>y c m (c8<|bQ d) d;exact e M _ w h C _ x z ⇑f a
def Kd(k b:bT)(E:sS):fj:=(λr w h x=>k w h λm Lw=>b w Lw λa LK=>E m a r LK λc=>x w c)
def Kt{m a:a7}{k i:bT}{E:sS}(n:bw b m k)(Lv:bw b a i)(au:tm b E)(o:∀r,fO (.Subscript m a LC) b.env r=(do
   let c <-holding [r] (bU m b.env)
   let d <-holding [r,c] (bU a b.env)
   standAt LC
   holding [r,c,d] (rn c d r)
   release [r,c,d] []):=by intro W;rfl):hQ b (.Subscript m a LC) (Kd k i E):=by
 intro M j w h r D x t p e;rw[o];refine aD (iq<|bK (n M j w h _ t e) λc q g=>?_);let⟨f,@Lw,s,u,v⟩:=g;refine aD (iq<|bK (Lv M q w Lw _ s v) λd y g=>?_);let⟨l,@LK,z,A,B⟩:=g;refine aD (rt<|aD<|iq<|bK (au M y w LK f l r c d D _ z u A p B) λ_ H g=>?_);let⟨@C,F,G⟩:=g;exact wpAny_release ⟨w,C,F,G⟩
def vp(Mq:bT)(F:fj):dV:=(λk w h=>Mq w h λf Lw=>F f w Lw k.bh)
def Ki{F:fj}(a:bw b d Mq)(c:hQ b LS F)(au:pD [LS] d LC.line b.env=pure ar:=by rfl)(g:rb [LS] d b.env=pure Y:=by rfl)(y:(eo [LS] b.env).map (·.2)=[fO LS b.env]:=by rfl):f3 b (.Assign [LS] d LC) (vp Mq F):=by
 intro M j w h k t e;refine zk (bK (a M j w h _ t e) λr i ⟨f,Lw,l,m,n⟩=>?_) au g;rw[y];exact bK (c M i w Lw f r _ l m n) λ_ o q=>q
def Gf(c:b.N.Nodup)(Lv:b.N[a]?=Z f)(g:fs b.env.scope f)(i:bw b d Mq)(au:kx d (Z<|.Name f MC) LC.line b.env=pure ar:=by rfl)(m:b.fn f=V\/b.env.scope.names.lookup f=Z .local:=by first|exact .inl rfl|exact .inr rfl|assumption):
  f3 b (.Assign [.Name f MC] d LC) (vp Mq<|uO a):=by
 intro M j w h k t e;refine wpAny_Assign_Name (bK (i M j w h _ t e) λr s ⟨l,Lw,n,o,p⟩=>?_) au;exact sU n c Lv g o (λu q=>⟨_,Lw,q,p⟩) m
def D0(a i:Nat)(L8:ei):dV:=(λk w h=>L8 w h λQ Lw=>∃r I,Q=[r,I]/\k.bh ((w.set a<|Z r).set i<|Z I) Lw)
def DF(a:Nat)(Mq:bT)(b:q2):dV:=(λk w h=>∃f,w[a]?=Z (Z f)/\Mq w h λl Lw=>b f l Lw λB LK=>k.bh (w.set a<|Z B) LK)
def EJ{L4:mO}{m:q2}(q:b.N.Nodup)(Lv:b.N[a]?=Z f)(g:fs b.env.scope f)(s:bw b d Mq)(u:tJ b L4 m)(v:b.fn f=V\/b.env.scope.names.lookup f=Z .local:=by first|exact .inl rfl|exact .inr rfl|assumption):
  f3 b (.AugAssign (.Name f MC) L4 d LC) (DF a Mq m):=by
 intro M j w h k t e;let⟨@r,x,e⟩:=e;let⟨@H,y,z⟩:=t.loc;have C:mE b.env.scope f:=by rcases g with n|n;exact .inl n;exact .inr (.inl n)
 let⟨@D,p,L⟩:=z a f r Lv x C;refine wpAny_AugAssign_Name ?_;have go:wpAny (aP b.prog b.w) b.A (bU d b.env) (λI E=>wpAny (aP b.prog b.w) b.A (inplaceOp L4 D I) (λp F=>wpAny (aP b.prog b.w) b.A (tT b.env f p) (λ_=>kT b M k .next) b.bX F) b.bX E) b.bX j:=by
  refine bK (s M j w h _ t e) λI J i=>?_;let⟨l,@Lw,P,Q,R⟩:=i;refine bK (u M J w Lw r l D I _ P p Q R) λB a1 i=>?_;let⟨a2,@LK,S,T,al⟩:=i;exact sU S q Lv g T (λbd am=>⟨_,LK,am,al⟩) v
 rcases L with ⟨c,an⟩|⟨c,o,ap,as⟩
 ·exact yW t.ok.kind c y an go
 ·rcases c with c|c
  ·exact BO t.ok.kind c ap as go
  ·rcases g with n|n
   ·have:b.env.scope.names.lookup f=Z .free:=c;rw[n]at this;cases this
   ·have:b.env.scope.names.lookup f=Z .free:=c;rw[n]at this;cases this
def yU(R:Int->Int->Int):q2:=(λf l h x=>∃a i,f=.int a/\l=.int i/\x (.int<|R a i) h)
def Gr:tJ b .Add (yU λa i=>a+i):=by
 intro M j w h f l r D x t c d e;let⟨a,@i,g,k,q⟩:=e;subst g;subst k;let⟨@E,rfl⟩:=c;let⟨@LY,rfl⟩:=d;exact iadd_int ⟨.int _,h,t.tok _,⟨_,rfl⟩,q⟩
def B2(o:dq)(cy:dV):dV:=(λk w h=>∃W:Nat->aW->aq->Prop,(∃H,W H w h)/\∀H w h,W H w h->
 o w h λc Lw=>if c=V then ∃LR:aW->aq->Prop,(∀a P,LR a P->∃b,b<H/\W b a P)/\cy {k with bh:=LR,bW:=LR,d_:=k.bh} w Lw else k.bh w Lw)
def Kc{o:a7}(q:n0 (aP b.prog b.w) b.A b.env b.bX)(y:f9 b o Mz)(z:fP b Mv cy):f3 b (.While o Mv [] LC) (B2 Mz cy):=by
 intro M j w h k t e;let⟨@W,⟨@B,C⟩,turn⟩:=e;refine wpAny_While (codeAny_whileLoop (λs S=>∃u P,aA b M u P S/\W s u P) ?_ B ⟨w,h,t,C⟩);rintro s D ⟨MH,Lw,E,F⟩;refine ky q (bK (y M D MH Lw _ E<|turn s MH Lw F) λc G H=>?_);let⟨@LK,v,f⟩:=H;cases c with
 |true=>
  let⟨@LR,x,f⟩:=f;rw[aK rfl];refine ky q (bK (z M G MH LK _ v f) λR J g=>?_);cases R with
  |next=>
   let⟨a,@d,i,l⟩:=g;let⟨@m,n,p⟩:=x a d l;exact⟨m,n,a,d,i,p⟩
  |cont=>
   let⟨a,@d,i,l⟩:=g;let⟨@m,n,p⟩:=x a d l;exact⟨m,n,a,d,i,p⟩
  |brk=>exact g
  |ret r=>exact g
 |false=>
  rw[aM dg];exact pn ⟨MH,LK,v,f⟩
end
structure hz where
 go:Nat->aq->Prop
 m4:Nat->aq->ah->aq->Prop
 stop:Nat->aq->Prop
def h9(b:aE)(M:List (af×aQ))(h:aq)(c:af):Prop:=(
 h c=Y/\c≠b.env.locals/\c∉b.aj/\(c∈b.ex\/b.dF.heap.objs.size<=c)/\(∀f o,b.env.cells.lookup f=Z o->o≠c)/\∀u∈b.cV++M,u.1≠c)
def aA.rh(t:aA b M w h j)(a:j.heap.objs.size<=c)(e:P c=Y):h9 b M P c:=by
 refine⟨e,jR<|dn t.lt a,t.Gb a,.inr<|dv t.hp a,λf o d B=>?_,λu g B=>?_⟩
 ·let⟨@r,q⟩:=t.cell f o d;exact absurd (dn q.lt (by rw[B];exact a)) (fI _)
 ·exact absurd (dn (bQ (t.pin u g).1) (by rw[B];exact a)) (fI _)
structure oE(LF:bf)(I:a5)(Lr:Φ)(LS:a7)(Ml:hz)(bY:List af)(ae:af)(i:Nat->a0->Prop):Prop where
 mem:ae∈bY
 obj:∀a e,i a e->∀c∈bY,∃m,e.get? c=Z m/\∀r,m.data≠.cell r
 keep:∀a e Lq,i a e->(∀c∈bY,∀m,e.get? c=Z m->Lq.get? c=Z m)->i a Lq
 item:∀(b:aE),b.prog=LF->b.w=I->b.K=Lr->b.calm=V->∀(a:Nat) (M:List (af×aQ)) (j:ag) (w:aW) (h:aq) (Ls:aa->ag->Prop),aA b M w h j->(∀c∈bY,h9 b M h c)->i a j.heap->Ml.go a h->
  wpAny (aP LF I) b.A (hN<|.ref ae) (λp s1=>∃D,p=Z D/\
   wpAny (aP LF I) b.A (nH LS (.ref ae) D) (λ_ s2=>∃f P,aA b M w P s2/\bC f D/\Ml.m4 a h f P/\i (a+1) s2.heap/\∀c∈bY,P c=Y) Ls s1) Ls j
 done:∀(b:aE),b.prog=LF->b.w=I->b.K=Lr->b.calm=V->∀(a:Nat) (M:List (af×aQ)) (j:ag) (w:aW) (h:aq) (Ls:aa->ag->Prop),aA b M w h j->(∀c∈bY,h9 b M h c)->i a j.heap->Ml.stop a h->
  wpAny (aP LF I) b.A (hN<|.ref ae) (λp s1=>p=Y/\aA b M w h s1) Ls j
 self:∀(O:a9) (a:Nat) (j:ag) (x:aa->ag->Prop) (Ls:aa->ag->Prop),i a j.heap->x (.ref ae) j->wpAny (aP LF I) O (ry<|.ref ae) x Ls j
abbrev cw:=aW->aq->(hz->aq->Prop)->Prop
def By(b:aE)(M:List (af×aQ))(w:aW)(LS:a7)(Lp:hz->aq->Prop)(d:aa)(a:ag):Prop:=(
 ∃(ae:af) (bY:List af) (i:Nat->a0->Prop) (Ml:hz) (P:aq),d=.ref ae/\aA b M w P a/\oE b.prog b.w b.K LS Ml bY ae i/\i 0 a.heap/\(∀c∈bY,h9 b M P c)/\Lp Ml P)
def vO(b:aE)(LS Mm:a7)(MG:cw)(M:List (af×aQ)):Prop:=(
 ∀(j:ag) (w:aW) (h:aq) (Lp:hz->aq->Prop),aA b M w h j->MG w h Lp->
  wpAny (aP b.prog b.w) b.A (bU Mm b.env) (λr a=>wpAny (aP b.prog b.w) b.A (ry r) (By b M w LS Lp) b.bX a) b.bX j)
def jq(b:aE)(LS Mm:a7)(MG:cw):Prop:=(∀M,vO b LS Mm MG M)
def t2{aB:ft}{Ls:aa -> ag -> Prop}{ae:af}{m:aQ}{s:String}{Q:Array aa}{x:Unit -> ag -> Prop}(b:j.heap.get? ae=Z m)(c:m.cls=.type s)(hd:m.data=.fields Q)(d:["enumerate", "zip", "dict_itemiterator", "dict_reverseitemiterator", "odict_iterator", "itertools.zip_longest", "itertools.pairwise"].contains s=ar)(a:x () j): wpAny aB O (nH LS (.ref ae) D) x Ls j:=by
  unfold nH;cases LS <;> first
    | exact bk a
    | (cases D <;> first
        | exact bk a
        | (refine aD (wpAny_load b ?_)
           rw [c,hd];show wpAny aB O (if (["enumerate", "zip", "dict_itemiterator", "dict_reverseitemiterator", "odict_iterator", "itertools.zip_longest", "itertools.pairwise"].contains s&&Q[0]? == Z (ep _))=V then _ else _) x Ls j;rw [aM (by intro e; rw [d,Bool.false_and]at e; cases e)];exact bk a))
def n_(Lr:Φ)(g:af):hz:=(
 ⟨λa h=>∃C f,cB Lr h g C/\C[a]?=Z f,λa h f P=>P=h/\∀C,cB Lr h g C->C[a]?=Z f,λa h=>∃C,cB Lr h g C/\C.length<=a⟩)
def qU(Lr:Φ)(g:af):hz:=(
 ⟨λa h=>∃C f,b3 Lr h g C/\C[a]?=Z f,λa h f P=>P=h/\∀C,b3 Lr h g C->C[a]?=Z f,λa h=>∃C,b3 Lr h g C/\C.length<=a⟩)
def rH(T:Int)(s:Nat):hz:=(⟨λa W=>a<s,λa h f P=>P=h/\f=.int (T+a),λa W=>s<=a⟩)
theorem Iq(g ae:af):oE LF I Lr LS (n_ Lr g) [ae] ae (λa e=>e.IsListIter ae g a) where
 mem:=by simp
 obj:=λa e J c i=>by
  have d:c=ae:=by simpa using i
  subst d;let⟨@m,d,o,v⟩:=J;exact⟨m,d,λr B=>by rw[v]at B;cases B⟩
 keep:=λa e Lq J n=>J.at λm d=>n ae ↥0 m d
 item:=by
  intro b p q s L a M j w h Ls t k J x;subst p q s;let⟨C,@f,l,y⟩:=x;let⟨@Lz,z,u,O⟩:=t.list l;let⟨@D,P,Q⟩:=z.get y;let@⟨A,E,R,F,G,H⟩:=k ae ↥0;refine wpAny_pyNext_list_item J u.isList (x:=D) ⇑P λLq N b5=>?_;have S:aA b M w h {j with heap:=Lq}:=t.turned (LY:=j.toks) (λc m i d=>(b5.2 c i).trans d) A E F G H;let⟨@m,d,o,v⟩:=id N;exact⟨D,rfl,t2 (j:={j with heap:=Lq}) d o v ∅ ⟨f,h,S,Q,⟨rfl,λLH T=>by rw[t.E0 T l];exact y⟩,N,λc i=>(k c i).1⟩⟩
 done:=by
  intro b p q s L a M j w h Ls t k J x;subst p q s;let⟨@C,l,y⟩:=x;let⟨@Lz,z,u,O⟩:=t.list l;let@⟨A,E,R,F,G,H⟩:=k ae ↥0;have al:=z.length;exact wpAny_pyNext_list_end (t.ok.hd L) J u.isList (by simp;lia) λLq U=>⟨rfl,t.turned (LY:=j.toks) (λc m i d=>U c m i d) A E F G H⟩
 self:=λ_ W W W W J e=>wpAny_pyIter_listiter J e
theorem Fi(g ae:af):oE LF I Lr LS (qU Lr g) [ae] ae (λa e=>e.IsTupleIter ae g a) where
 mem:=by simp
 obj:=λa e J c i=>by
  have d:c=ae:=by simpa using i
  subst d;let⟨@m,d,o,v⟩:=J;exact⟨m,d,λr B=>by rw[v]at B;cases B⟩
 keep:=λa e Lq J n=>J.at λm d=>n ae ↥0 m d
 item:=by
  intro b p q s L a M j w h Ls t k J x;subst p q s;let⟨C,@f,l,y⟩:=x;let⟨@Lz,z,u,O⟩:=t.tuple l;let⟨@D,P,Q⟩:=z.get y;let@⟨A,E,R,F,G,H⟩:=k ae ↥0;refine wpAny_pyNext_tuple_item J (show j.heap.IsTuple g Lz.toArray from u) (x:=D) ⇑P λLq N b5=>?_;have S:aA b M w h {j with heap:=Lq}:=t.turned (LY:=j.toks) (λc m i d=>(b5.2 c i).trans d) A E F G H;let⟨@m,d,o,v⟩:=id N;exact⟨D,rfl,t2 (j:={j with heap:=Lq}) d o v ∅ ⟨f,h,S,Q,⟨rfl,λLH T=>by rw[t.tS T l];exact y⟩,N,λc i=>(k c i).1⟩⟩
 done:=by
  intro b p q s L a M j w h Ls t k J x;subst p q s;let⟨@C,l,y⟩:=x;let⟨@Lz,z,u,O⟩:=t.tuple l;let@⟨A,E,R,F,G,H⟩:=k ae ↥0;have al:=z.length;exact wpAny_pyNext_tuple_end (t.ok.hd L) J (show j.heap.IsTuple g Lz.toArray from u) (by simp;lia) λLq U=>⟨rfl,t.turned (LY:=j.toks) (λc m i d=>U c m i d) A E F G H⟩
 self:=λ_ W W W W J e=>wpAny_pyIter_tupleiter J e
theorem HD(ae:af)(T:Int)(s:Nat):oE LF I Lr LS (rH T s) [ae] ae (λa e=>IsRangeIter e ae (T+(a:Nat)*1) ((s:Int)-(a:Nat)) 1) where
 mem:=by simp
 obj:=λa e J c f=>by
  have d:c=ae:=by simpa using f
  subst d;exact⟨_,J,λr B=>by
   have A:Data.fields _=Data.cell r:=B;cases A⟩
 keep:=λa e Lq J n=>n ae ↥0 _ J
 item:=by
  intro b i k l o a M j w h Ls t g J p;subst i k l;let@⟨q,u,C,v,x,y⟩:=g ae ↥0;have W:=Walks.range (prog:=b.prog) (w:=b.w) (t.ok.hd o) ae T 1 s;refine W.item a j _ _ p J λr Lq Md D z F=>?_;let⟨@E,rfl⟩:=D;have G:aA b M w h {j with heap:=Lq,toks:=Md}:=t.turned (λc m f d=>F c m ⇑f d) q u v x y;refine⟨_,rfl,t2 (j:={j with heap:=Lq,toks:=Md}) (s := "range_iterator") z rfl rfl ∅ ⟨.int<|T+a,h,G,⟨E,?_⟩,⟨rfl,rfl⟩,z,λc f=>(g c f).1⟩⟩;rw[Bx]
 done:=by
  intro b i k l o a M j w h Ls t g J p;subst i k l;let@⟨q,u,C,v,x,y⟩:=g ae ↥0;exact wpAny_pyNext_range_end (t.ok.hd o) J (by have:s<=a:=p;lia) λLq H=>⟨rfl,t.turned (LY:=j.toks) (λc m f d=>H c m f d) q u v x y⟩
 self:=λ_ U U U U J e=>wpAny_pyIter_rangeiter J e
section
variable{b:aE}{LS:a7}
def HR{Lp:hz->aq->Prop}{T Lv:Int}{E D r:gX}{Md:Nat}(t:aA b M w h j)(y : -(2^62)<=T)(z:T<2^62)(e : -(2^62)<=Lv)(f:Lv<2^62)(q:Lp (rH T (Lv-T).toNat) h):wpAny (aP b.prog b.w) b.A (ry<|.ref j.heap.objs.size) (By b M w LS Lp) Ls {j with heap:=j.heap.push {cls:=.type "range",data:=.fields #[.int T E,.int Lv D,.int 1 r]},toks:=Md}:=by
 refine wpAny_pyIter_range (IsRange.new ..) (small_one y z e f) ?_;have a:aA b M w h {j with heap:=j.heap.push {cls:=.type "range",data:=.fields #[.int T E,.int Lv D,.int 1 r]},toks:=Md}:=t.kept λc m d=>b4 _ d;refine⟨(j.heap.push {cls:=.type "range",data:=.fields #[.int T E,.int Lv D,.int 1 r]}).objs.size,[(j.heap.push {cls:=.type "range",data:=.fields #[.int T E,.int Lv D,.int 1 r]}).objs.size],_,_,h,rfl,
  a.kept (LY:=Md) λc m d=>b4 _ d,HD _ T (Lv-T).toNat,?_,λc g=>?_,q⟩
 ·have i:T+((0:Nat):Int)*1=T:=by simp
  have k:(((Lv-T).toNat:Nat):Int)-((0:Nat):Int)=bO.Range.rangeSize T Lv 1:=by rw[rangeSize_one];split<;>lia
  show IsRangeIter _ _ (T+((0:Nat):Int)*1) ((((Lv-T).toNat:Nat):Int)-((0:Nat):Int)) 1;rw[i,k];exact df _ rfl
 ·have d:c=(j.heap.push {cls:=.type "range",data:=.fields #[.int T E,.int Lv D,.int 1 r]}).objs.size:=by simpa using g
  subst d;exact a.rh (bq _) (a.aT.fresh<|bq _)
def GV(L8:ei):cw:=(λw h Lp=>L8 w h λQ Lw=>∃i:Int,Q=[.int i] /\ -(2^62)<=i/\i<2^62/\Lp (rH 0 i.toNat) Lw)
def Hc{g:a7}{L8:ei}{u:Pos}(c:eC b "range")(f:b.aI "range" = Y)(k:gd b [g] L8)(au:bu [g] b.env=[(ar,bU g b.env)]:=by rfl):jq b LS (.Call (.Name "range" u) [g] [] LC) (GV L8):=by
 intro M j w h Lp t e;refine Call_ (l3 t c f boot_range<|r8 (bK (k LC M j w h _ t e) λLP r ⟨Q,Lw,l,m,a⟩=>?_) au rfl);let⟨@i,d,a,n,q⟩:=a;subst d;cases m with
 |cons p o=>
  cases o;let⟨@E,rfl⟩:=p;exact call_range_1 (HR l ⋯ ⋯ a n ⇑q)
def vR(MG:cw)(F:fj)(cy:dV):dV:=(λk w h=>MG w h λMl Lw=>∃W:Nat->Nat->aW->aq->Prop,(∃H,W 0 H w Lw)/\∀a H w h,W a H w h->
 (Ml.stop a h/\k.bh w h)\/(Ml.go a h/\∃LR:aW->aq->Prop,(∀b P,LR b P->∃c,c<H/\W (a+1) c b P)/\∀f P,Ml.m4 a h f P->F f w P λd LK=>cy {k with bh:=LR,bW:=LR,d_:=k.bh} d LK))
def jY(bY:List af)(e:a0):List (af×aQ):=(bY.filterMap λc=>(e.get? c).map λm=>(c,m))
def q4{m:aQ}(a:c∈bY)(d:e.get? c=Z m):(c,m)∈jY bY e:=wA.mpr ⟨c,a,by rw[d];rfl⟩
def BX{u:af×aQ}(a:u∈jY bY e):u.1∈bY/\e.get? u.1=Z u.2:=by
 let⟨@c,b,d⟩:=wA.mp a;cases q:e.get? c with
 |none=>rw[q]at d;cases d
 |some m=>
  rw[q]at d;have f:(c,m)=u:=Option.some.inj d;subst f;exact⟨b,q⟩
def aA.pinned(t:aA b M w h j)(f:∀c∈bY,h9 b M h c)(g:∀c∈bY,∃m,j.heap.get? c=Z m/\∀r,m.data≠.cell r):aA b (M++jY bY j.heap) w h j:=
 t.ly λu i=>(er.mp i).elim (λB=>t.pin u<|dr _ B) λB=>by
  let@⟨a,d⟩:=BX B;let@⟨k,l,n,_⟩:=f u.1 a;let⟨@m,e,v⟩:=g u.1 a;rw[d]at e;cases e;exact⟨d,k,l,n,v⟩
def aA.pd{bE:List (af×aQ)}(t:aA b (M++bE) w h j):aA b M w h j:=t.ly λu a=>t.pin u (dr _<|fM _ a)
def H0{Mm:a7}{MG:cw}{F:fj}(x:n0 (aP b.prog b.w) b.A b.env b.bX)(Q:b.calm=V)(Lv:jq b LS Mm MG)(a2:hQ b LS F)(g:fP b Mv cy)(au:∀f,jX Mm b.env f=pure f:=by intro U;rfl):f3 b (.For LS Mm Mv [] LC) (vR MG F cy):=by
 intro M j w h k t e;refine wpAny_For (bK (Lv M j w h _ t e) λr f1 y=>bK y λf2 f4 z=>?_) au;let⟨ae,bY,i,Ml,@LK,d,bd,LA,be,T,⟨@W,⟨@bi,bm⟩,turn⟩⟩:=z;subst d;have J:∀{P:aq},(∀c∈bY,P c=Y)->∀c∈bY,h9 b M P c:=λbn c g=>⟨bn c g,(T c g).2⟩;refine codeAny_forLoop_any (λs S=>∃a B P,aA b M B P S/\i a S.heap/\(∀c∈bY,P c=Y)/\W a s B P) ?_ bi ⟨0,w,LK,bd,be,λc g=>(T c g).1,bm⟩;rintro s al ⟨a,C,G,am,an,ap,bs⟩;rcases turn a s C G bs with ⟨stop,bv⟩|⟨go,LR,ca,step⟩
 ·refine ky x (bK (LA.done b rfl rfl rfl Q a M al C G b.bX am (J ap) an stop) λp cd u=>?_);let@⟨LG,ce⟩:=u;subst LG;exact pn ⟨C,G,ce,bv⟩
 ·refine ky x (bK (LA.item b rfl rfl rfl Q a M al C G b.bX am (J ap) an go) λp cd u=>?_);let⟨@D,LG,ch⟩:=u;subst LG;refine ky x (bK ch λ_ as u=>?_);let⟨f,@a1,ci,cl,co,L,cr⟩:=u;have cs:=ci.pinned (J cr) (LA.obj _ _ L);refine ky x (bK (a2 _ as C a1 f D _ cs cl<|step f a1 co) λ_ db u=>?_);let⟨ds,@dL,eq,ev⟩:=u;refine ky x (bK (g _ db ds dL _ eq ev) λR N q=>?_);have again:∀{l:aW}{n:aq},aA b (M++jY bY as.heap) l n N->LR l n->∃H,H<s/\∃a B P,aA b M B P N/\i a N.heap/\(∀c∈bY,P c=Y)/\W a H B P:=λ{l n} o E=>by
   let⟨@ex,fd,fn⟩:=ca l n E;refine⟨ex,fd,a+1,l,n,o.pd,LA.keep _ _ _ L λc g m d=>(o.pin (c,m)<|dr _<|dr _<|q4 g d).1,λc g=>?_,fn⟩;let⟨@m,d,v⟩:=LA.obj _ _ L c g;exact (o.pin (c,m)<|dr _<|dr _<|q4 g d).2.1
  cases R with
  |next=>let⟨l,@n,o,E⟩:=q;exact again o E
  |cont=>let⟨l,@n,o,E⟩:=q;exact again o E
  |brk=>let⟨l,@n,o,q⟩:=q;exact⟨l,n,o.pd,q⟩
  |ret r=>let⟨fr,l,@n,o,f0,q⟩:=q;exact⟨fr,l,n,o.pd,f0,q⟩
end
abbrev bp:=ah->ah->aq->cp->Prop
variable{Mc p:bp}
def dd(b:aE)(R:aa->aa->da aa)(p:bp):Prop:=(
 ∀(M:List (af×aQ)) (j:ag) (w:aW) (h:aq) (f l:ah) (r D:aa) (x:cp),aA b M w h j->bC f r->bC l D->p f l h x->
  wpAny (aP b.prog b.w) b.A (R r D) (dD b M w x) b.bX j)
def u9(b:aE)(R:aa->da aa)(p:ah->aq->cp->Prop):Prop:=(
 ∀(M:List (af×aQ)) (j:ag) (w:aW) (h:aq) (f:ah) (r:aa) (x:cp),aA b M w h j->bC f r->p f h x->
  wpAny (aP b.prog b.w) b.A (R r) (dD b M w x) b.bX j)
def dX(b:aE)(R:aa)(p:List ah->aq->cp->Prop):Prop:=(
 ∀(M:List (af×aQ)) (j:ag) (w:aW) (h:aq) (C:List ah) (LP:List aa) (x:cp),aA b M w h j->b1 C LP->p C h x->
  wpAny (aP b.prog b.w) b.A (call R LP) (dD b M w x) b.bX j)
def J2(b:aE)(p:ah->aq->(Bool->aq->Prop)->Prop):Prop:=(
 ∀(M:List (af×aQ)) (j:ag) (w:aW) (h:aq) (f:ah) (r:aa) (x:Bool->aq->Prop),aA b M w h j->bC f r->p f h x->
  wpAny (aP b.prog b.w) b.A (truthy r) (o3 b M w x) b.bX j)
def rJ(p:bp)(L8 cy:bT):bT:=(λw h x=>L8 w h λf Lw=>cy w Lw λl LK=>p f l LK x)
def FG(p:ah->aq->cp->Prop)(L8:bT):bT:=(λw h x=>L8 w h λf Lw=>p f Lw x)
def l7(aH:Int->Int->Prop)(F:Int->Int->ah):bp:=(λf l h x=>∃a i,f=.int a/\l=.int i/\aH a i/\x (F a i) h)
def jv(F:Int->Int->ah):bp:=(λf l h x=>∃a i,f=.int a/\l=.int i/\x (F a i) h)
def BQ(F:Int->ah):ah->aq->cp->Prop:=(λf h x=>∃a,f=.int a/\x (F a) h)
section
variable{b:aE}{g c o:a7}{L8 cy Mz:bT}{LC:Pos}
def sY(i:bw b g L8)(k:bw b c cy){M:List (af×aQ)}{j:ag}{w:aW}{h:aq}{Lp:ah->ah->aq->Prop}(t:aA b M w h j)(e:L8 w h λf Lw=>cy w Lw λl LK=>Lp f l LK){x:aa->ag->Prop}{R:aa->aa->da aa}(m:∀r D a f l LK,aA b M w LK a->bC f r->bC l D->Lp f l LK->wpAny (aP b.prog b.w) b.A (R r D) x b.bX a):
  wpAny (aP b.prog b.w) b.A (bU g b.env) (λr n=>wpAny (aP b.prog b.w) b.A (bU c b.env) (λD o=>wpAny (aP b.prog b.w) b.A (R r D) x b.bX o) b.bX n) b.bX j:=by
 refine bK (i M j w h _ t e) λr p d=>?_;let⟨f,@Lw,q,s,u⟩:=d;refine bK (k M p w Lw _ q u) λD a d=>?_;let⟨l,@LK,v,y,z⟩:=d;exact m r D a f l LK v s y z
def Hp{L4:mO}(a:dd b (eU L4) p)(d:bw b g L8)(i:bw b c cy):bw b (.BinOp g L4 c LC) (rJ p L8 cy):=by
 intro M j w h x t e;exact wpAny_BinOp (sY d i t e λr D k f l LK m n o q=>a M k w LK f l r D x m n o q)
def xn{L4:UnaryOp}{p:ah->aq->cp->Prop}(a:u9 b (unaryOp L4) p)(c:bw b g L8):bw b (.UnaryOp L4 g LC) (FG p L8):=by
 intro M j w h x t e;exact UnaryOp_ (bK (c M j w h _ t e) λr d ⟨f,Lw,i,k,l⟩=>a M d w Lw f r x i k l)
def qD{aH:Int->Int->Prop}(c:∀(a i:Int) (E D:gX) (j:ag) (x:aa->ag->Prop) (Ls:aa->ag->Prop),aH a i->x (.int (F a i) j.toks) {j with toks:=j.toks+1}->wpAny (aP b.prog b.w) b.A (R (.int a E)<|.int i D) x Ls j):
  dd b R (l7 aH λa i=>.int<|F a i):=by
 intro M j w h f l r D x t d g e;let⟨a,@i,rfl,rfl,k,q⟩:=e;let⟨@E,rfl⟩:=d;let⟨@LY,rfl⟩:=g;exact c a i E LY j _ _ k ⟨.int<|F a i,h,t.tok _,⟨_,rfl⟩,q⟩
def zL(c:∀(a i:Int) (E D:gX) (j:ag) (x:aa->ag->Prop) (Ls:aa->ag->Prop),x (.int (F a i) j.toks) {j with toks:=j.toks+1}->wpAny (aP b.prog b.w) b.A (R (.int a E)<|.int i D) x Ls j):
  dd b R (jv λa i=>.int<|F a i):=by
 intro M j w h f l r D x t d g e;let⟨a,@i,rfl,rfl,q⟩:=e;let⟨@E,rfl⟩:=d;let⟨@LY,rfl⟩:=g;exact c a i E LY j _ _ ⟨.int<|F a i,h,t.tok _,⟨_,rfl⟩,q⟩
def qs{F:Int->Int->Bool}(c:∀(a i:Int) (E D:gX) (j:ag) (x:aa->ag->Prop) (Ls:aa->ag->Prop),x (.bool<|F a i) j->wpAny (aP b.prog b.w) b.A (R (.int a E)<|.int i D) x Ls j):
  dd b R (jv λa i=>.aF<|F a i):=by
 intro M j w h f l r D x t d g e;let⟨a,@i,rfl,rfl,q⟩:=e;let⟨@E,rfl⟩:=d;let⟨@LY,rfl⟩:=g;exact c a i E LY j _ _ ⟨.aF<|F a i,h,t,rfl,q⟩
def B9(a i:Int):Prop:=(0<i/\i<1073741824)
def C6(a i:Int):Prop:=(0<=i/\i<=1000000/\a.natAbs<2^64)
def Ko:dd b (eU .Add) (jv λa i=>.int<|a+i):=zL λ_ W W W W W W q=>add_int q
def Eb:dd b (eU .Sub) (jv λa i=>.int<|a-i):=zL λ_ W W W W W W q=>sub_int q
def JK:dd b (eU .FloorDiv) (l7 B9 λa i=>.int<|a/i):=qD λa i W W W W W c q=>by
 have y:(0:Int)<i:=c.1;have z:i<1073741824:=c.2;exact floordiv_int ⋯ (by rw[Int.fdiv_eq_ediv_of_nonneg a ⋯];exact q) (.inl (PyProof.noPylong_small ⋯))
def FN:dd b (eU .Mod) (l7 (λ_ i=>0<i) λa i=>.int<|a%i):=qD λa i W W W W W c q=>by
 have y:(0:Int)<i:=c;exact mod_int' ⋯ (by rw[Int.fmod_eq_emod_of_nonneg a ⋯];exact q)
def Ct:dd b (eU .Pow) (l7 C6 λa i=>.int<|a^i.toNat):=qD λ_ W W W W W W c q=>pow_int_small c.1 c.2.1 c.2.2 q
def HH{R:aa->da aa}{F:Int->Int}(c:∀(a:Int) (E:gX) (j:ag) (x:aa->ag->Prop) (Ls:aa->ag->Prop),x (.int (F a) j.toks) {j with toks:=j.toks+1}->wpAny (aP b.prog b.w) b.A (R<|.int a E) x Ls j):
  u9 b R (BQ λa=>.int<|F a):=by
 intro M j w h f r x t d e;let⟨@a,rfl,q⟩:=e;let⟨@E,rfl⟩:=d;exact c a E j _ _ ⟨.int<|F a,h,t.tok _,⟨_,rfl⟩,q⟩
def vJ:u9 b (unaryOp .USub) (BQ λa=>.int<|-a):=HH λ_ W W W W q=>neg_int q
def J1:dd b (dz .Lt) (jv λa i=>.aF<|decide (a<i)):=qs λ_ W W W W W W q=>lt_int q
def HS:dd b (dz .LtE) (jv λa i=>.aF<|decide (a<=i)):=qs λ_ W W W W W W q=>le_int q
def GC:dd b (dz .Gt) (jv λa i=>.aF<|decide (i<a)):=qs λ_ W W W W W W q=>gt_int q
def Cq:dd b (dz .GtE) (jv λa i=>.aF<|decide (i<=a)):=qs λ_ W W W W W W q=>ge_int q
def dd.or(e:dd b R p)(Lq:dd b R Mc):dd b R (λf l h x=>p f l h x\/Mc f l h x):=by
 intro M j w h f l r D x t a c q;rcases q with q|q
 ·exact e M j w h f l r D x t a c q
 ·exact Lq M j w h f l r D x t a c q
def e_(c:a7){L4:iI}(e:L4≠.In:=by decide)(z:L4≠.NotIn:=by decide):lA L4 c=ar:=by
 have a:(L4==iI.In)=ar:=by cases L4<;>first|rfl|exact absurd rfl e
 have b:(L4==iI.NotIn)=ar:=by cases L4<;>first|rfl|exact absurd rfl z
 cases c<;>simp[lA,a,b]
def Gn(a:dd b (dz L4) p)(d:bw b g L8)(i:bw b c cy)(k:lA L4 c=ar):bw b (.Compare g [L4] [c] LC) (rJ p L8 cy):=by
 intro M j w h x t e;exact wpAny_Compare1 (sY d i t e λr D m f l LK n o s q=>a M m w LK f l r D x n o s q) k
def vQ(E:bT):dq:=(λw h x=>E w h λf P=>∃n,f=.aF n/\x n P)
def Al(a:dd b (dz L4) p)(i:bw b g L8)(k:bw b c cy)(m:lA L4 c=ar):f9 b (.Compare g [L4] [c] LC) (vQ<|rJ p L8 cy):=by
 intro M j w h x t e;refine wpAny_isTrue_Compare1 (bK (i M j w h _ t e) λr q ⟨f,Lw,s,u,v⟩=>bK (k M q w Lw _ s v) λD y ⟨l,LK,z,A,C⟩=>
  bK (a M y w LK f l r D _ z u A C) λo I ⟨B,E,F,G,n,d,H⟩=>?_) m;subst d;cases G;exact j0 ⟨E,F,H⟩
def yf(p Mc:bp)(L8 cy Mz:bT):bT:=(λw h x=>L8 w h λf Lw=>cy w Lw λl LK=>p f l LK λB a=>∃n,B=.aF n/\
 (if n=V then Mz w a λb c=>Mc l b c x else x (.aF ar) a))
def IS{a:iI}(s:dd b (dz L4) p)(u:dd b (dz a) Mc)(y:bw b g L8)(z:bw b c cy)(A:bw b o Mz)(C:lastMarks [L4,a] [c,o]=ar:=by with_unfolding_all rfl):f9 b (.Compare g [L4,a] [c,o] LC) (vQ<|yf p Mc L8 cy Mz):=by
 intro M j w h x t e;refine isTrue_chain (bK (y M j w h _ t e) λr E ⟨f,Lw,F,G,H⟩=>test_link (bK (z M E w Lw _ F H) λD I ⟨l,LK,J,i,L⟩=>
  bK (s M I w LK f l r D _ J G i L) λv N ⟨B,k,m,O,n,d,q⟩=>?_)) C;subst d;cases O;refine j0 ?_;cases n with
 |false=>
  let⟨@bi,P,Q⟩:=q;cases P;exact ite_ff ⟨k,m,Q⟩
 |true=>
  refine ite_tt (test_last<|bK (A M N w k _ m q) λR S ⟨T,U,al,am,an⟩=>bK (u M S w U l T D R _ al i am an) λMk bm ap=>?_);let⟨bn,@as,a1,a2,⟨@L_,bd,be⟩⟩:=ap;subst bd;cases a2;exact j0 ⟨as,a1,be⟩
def rY(Lr:Φ)(f:ah)(h:aq)(n:Bool):Prop:=(
 match f with
 |.aR=>n=ar
 |.aF c=>n=c
 |.int a=>n=(a != 0)
 |.str l=>l.length<=sizeLine/\n=((l.length:Int) != 0)
 |.od l=>l.size<=sizeLine/\n=((l.size:Int) != 0)
 |.ref u=>(∃C,cB Lr h u C/\n=!C.isEmpty)\/(∃C,b3 Lr h u C/\n=!C.isEmpty)\/∃G,h u=Z (.cW G)/\n=!G.isEmpty
 |_=>False)
def Hk{U:Type}{G:List (U×ah)}{Q:List (U×aa)}(p:eL G Q):(!Q.isEmpty)=!G.isEmpty:=by
 cases p<;>rfl
def Bp{Lz:List aa}(p:b1 C Lz):(!Lz.toArray.isEmpty)=!C.isEmpty:=by
 cases p<;>simp
def mg:(sizeLine:Nat)<2^63:=by rw[sT];decide
def Hq:J2 b (λf h x=>∃n,rY b.K f h n/\x n h):=by
 intro M j w h f r x t i e;let⟨@n,d,q⟩:=e;have y:=mg;have au:sizeLine=16777216:=sT;cases f with
 |aR=>
  cases i;have g:n=ar:=d;subst g;exact truthy_none ⟨h,t,q⟩
 |aF c=>
  cases i;have g:n=c:=d;subst g;exact j0 ⟨h,t,q⟩
 |int a=>
  let⟨@E,rfl⟩:=i;have g:n=(a != 0):=d;subst g;exact PySem.P.truthy_int ⟨h,t,q⟩
 |str l=>
  let⟨@E,rfl⟩:=i;obtain⟨s,g⟩:l.length<=sizeLine/\n=((l.length:Int) != 0):=d;subst g;exact PySem.P.truthy_str ⋯ ⟨h,t.tok _,q⟩
 |od l=>
  let⟨@E,rfl⟩:=i;obtain⟨s,g⟩:l.size<=sizeLine/\n=((l.size:Int) != 0):=d;subst g;exact PySem.W.truthy_bytes ⋯ ⟨h,t.tok _,q⟩
 |ref u=>
  cases i;have g:(∃C,cB b.K h u C/\n=!C.isEmpty)\/(∃C,b3 b.K h u C/\n=!C.isEmpty)\/∃G,h u=Z (.cW G)/\n=!G.isEmpty:=d;rcases g with ⟨C,k,g⟩|⟨C,k,g⟩|⟨G,k,g⟩
  ·subst g;let⟨@Lz,p,bE,m⟩:=t.list k;have o:=p.length;exact wpAny_truthy_list bE.isList (by simp only[cC];lia) ⟨h,t.tok _,by rw[Bp p];exact q⟩
  ·subst g;let⟨@Lz,p,bE,m⟩:=t.tuple k;have o:=p.length;exact truthy_tuple bE (by simp only[cC];lia) ⟨h,t.tok _,by rw[Bp p];exact q⟩
  ·subst g;obtain⟨m,v,Q,p,H⟩:G.length<=sizeLine/\(u==hE)=ar/\∃Q,eL G Q/\j.heap.DictOf (jW b.prog b.w) u Q:=t.aT u _ k;have o:G.length=Q.length:=d2.length p;exact wpAny_truthy_dict v H ⋯ ⟨h,t.tok _,by rw[Hk p];exact q⟩
 |_=>exact (show False from d).elim
def Io(c:bw b g L8)(d:∀a,l5 g b.env a=(do let r <-a;standAt g.pos;holding [r] (truthy r))):
  f9 b g (λw h x=>L8 w h λf P=>∃n,rY b.K f P n/\x n P):=by
 intro M j w h x t e;exact isTrue_plain (bK (c M j w h _ t e) λr i ⟨f,Lw,k,l,m⟩=>Hq M i w Lw f r x k l m) (d _)
def De:dd b (eU .Add) (λf l h x=>∃a i,f=.str a/\l=.str i/\a.length+i.length<=sizeLine/\x (.str<|a++i) h):=by
 intro M j w h f l r D x t c d e;let⟨a,@i,rfl,rfl,g,q⟩:=e;let⟨@E,rfl⟩:=c;let⟨@LY,rfl⟩:=d;exact add_str (λLY Md=>⟨.str<|a++i,h,t.tok _,⟨_,rfl⟩,q⟩) g
def ip{f:ah}(p:b1 [f] LP):∃D,LP=[D]/\bC f D:=by
 cases p with
 |cons a b=>cases b;exact⟨_,rfl,a⟩
def p8{f:ah}(p:b1 [f,l] LP):∃D a,LP=[D,a]/\bC f D/\bC l a:=by
 cases p with
 |cons b c=>
  cases c with
  |cons d e=>cases e;exact⟨_,_,rfl,b,d⟩
def Ey(d:b.calm=V):dX b (.builtin "max") (λC h x=>∃a i,C=[.int a,.int i]/\x (.int<|if i>a then i else a) h):=by
 intro M j w h C LP x t p e;let⟨a,@i,rfl,q⟩:=e;let⟨D,@f,rfl,⟨@E,rfl⟩,⟨@LY,rfl⟩⟩:=p8 p;refine max_two_ints (t.ok.hd d) λLq Md n=>⟨_,h,t.kept n,?_,q⟩;by_cases c:i>a
 ·rw[aK c,aK c];exact⟨_,rfl⟩
 ·rw[aM c,aM c];exact⟨_,rfl⟩
def KG(d:b.calm=V):dX b (.builtin "min") (λC h x=>∃a i,C=[.int a,.int i]/\x (.int<|if i<a then i else a) h):=by
 intro M j w h C LP x t p e;let⟨a,@i,rfl,q⟩:=e;let⟨D,@f,rfl,⟨@E,rfl⟩,⟨@LY,rfl⟩⟩:=p8 p;refine min_two_ints (t.ok.hd d) λLq Md n=>⟨_,h,t.kept n,?_,q⟩;by_cases c:i<a
 ·rw[aK c,aK c];exact⟨_,rfl⟩
 ·rw[aM c,aM c];exact⟨_,rfl⟩
def Hx:dX b (.type "int") (λC h x=>(∃a,C=[.int a]/\x (.int a) h)\/∃n,C=[.aF n]/\x (.int<|if n then 1 else 0) h):=by
 intro M j w h C LP x t p e;rcases e with ⟨a,rfl,q⟩|⟨n,rfl,q⟩
 ·let⟨@D,rfl,⟨@E,rfl⟩⟩:=ip p;exact call_int_int ⟨.int a,h,t,⟨_,rfl⟩,q⟩
 ·let⟨@D,rfl,c⟩:=ip p;cases c;exact call_int_bool ⟨.int<|if n then 1 else 0,h,t.tok _,⟨_,rfl⟩,q⟩
end
def i6.some_of{m:Option aa}(p:i6 (Z r) m):∃D,m=Z D/\bC r D:=by
 cases m with
 |none=>exact (show False from p).elim
 |some D=>exact⟨D,rfl,p⟩
structure cQ(n:Nat)(O:a9):Prop where
 hd:O.handled=Y
 qo:O.depth+3*n+5<y1
 un:O.units+16*n+200<bP
 ib:O.guards=Z []
def cQ.mono{i:Nat}(p:cQ n O)(e:i<=n):cQ i O:=⟨p.hd,by have:=p.qo;lia,by have:=p.un;lia,p.ib⟩
def cQ.deeper(p:cQ (n+1) O)(U:dy):cQ n (O.deeper U):=
 ⟨p.hd,by have:=p.qo;show O.depth+1+3*n+5<_;lia,by have:=p.un;show O.units+3+16*n+200<_;lia,p.ib⟩
def cQ.in1(p:cQ (n+1) O):cQ n O.in1:=
 ⟨p.hd,by have:=p.qo;show O.depth+3*n+5<_;lia,by have:=p.un;show O.units+1+16*n+200<_;lia,p.ib⟩
def cQ.depth(p:cQ n O):O.depth<y1:=by have:=p.qo;lia
def JM:ei:=(λ_ h x=>x [] h)
def Ff(L8:bT)(a:ei):ei:=(λw h x=>L8 w h λf Lw=>a w Lw λC LK=>x (f::C) LK)
section
variable{b:aE}{d:a7}{Lu:List a7}{Mq:bT}{E:ei}{LC:Pos}
def pM:gd b [] JM:=λ_ W W W h x t e=>Calls.spliced_nil ⟨[],h,t,.nil,e⟩
def rA(c:bw b d Mq)(LG:gd b Lu E)(au:bu (d::Lu) b.env=(ar,bU d b.env)::bu Lu b.env:=by rfl):gd b (d::Lu) (Ff Mq E):=by
 intro LC M j w h x t e;rw[au];show wpAny _ _ (spliced ((ar,bU d b.env)::ek LC (bu Lu b.env))) _ _ j;refine Calls.spliced_cons (bK (c M j w h _ t e) λD g a=>?_);let⟨f,@Lw,i,k,l⟩:=a;refine bK (LG LC M g w Lw _ i l) λLP p a=>?_;let⟨C,@LK,m,n,o⟩:=a;exact⟨f::C,LK,m,.cons k n,o⟩
def Kw(E:ei):bT:=(λw h x=>E w h λC Lw=>C.length<=sizeLine/\∀u,Lw u=Y->x (.ref u) (upd Lw u<|.tup C))
def Gd(E:ei):bT:=(λw h x=>E w h λC Lw=>C.length<=sizeLine/\∀u,Lw u=Y->x (.ref u) (upd Lw u<|.lst C))
def Ht{g}(e:gd b Lu E):bw b (.Tuple Lu g LC) (Kw E):=by
 intro M j w h x t i;refine wpAny_Tuple_spliced (bK (e LC M j w h _ t i) λLP a ⟨C,Lw,f,p,B,q⟩=>⟨by rw[<-p.length];exact B,?_⟩);have k:Lw a.heap.objs.size=Y:=f.aT.fresh (bq _);refine⟨.ref a.heap.objs.size,upd Lw a.heap.objs.size<|.tup C,f.laid (LY:=a.toks) (λc D d=>b4 _ d) (bq _) ?_,rfl,q _ k⟩;exact⟨B,LP,p,⟨_,df _ rfl,rfl,_,rfl⟩⟩
def AX(e:gd b Lu E):bw b (.List Lu LC) (Gd E):=by
 intro M j w h x t g;refine wpAny_List_spliced (bK (e LC M j w h _ t g) λLP a ⟨C,Lw,f,p,B,q⟩=>⟨by rw[<-p.length];exact B,?_⟩);have i:Lw a.heap.objs.size=Y:=f.aT.fresh (bq _);refine⟨.ref a.heap.objs.size,upd Lw a.heap.objs.size<|.lst C,f.laid (LY:=a.toks) (λc D d=>b4 _ d) (bq _) ?_,rfl,q _ i⟩;exact⟨B,LP,0,p,df _ rfl⟩
end
abbrev h3:=List ah->aq->cp->eO->Prop
abbrev iZ:=List dy->aq->ag->eO->aa->ag->Prop
variable{MB:iZ}
structure rd(LF:bf)(I:a5)(Lr:Φ)(aI:az->Option aa)(LB:a0)(O:a9)(T:List dy)(j:ag)(h:aq):Prop where
 frames:O.frames=Z T
 mod:Mod Lr aI LB
 bs:∀c m,LB.get? c=Z m->j.heap.get? c=Z m/\h c=iP m
 iO:LB.objs.size<=j.heap.objs.size
 gy:j.heap.FunFrames LB T
 ju:(∀c∈gB T,h c=Y)/\t4 Lr h
 aT:di LF I h j.heap
 bare:jt j.gens
def vD(T:List dy)(LF:bf)(I:a5)(h:aq)(j:ag)(x:cp)(D:aa)(S:ag):Prop:=(
 ∃r P,S.os=j.os/\jt S.gens/\dW (gB T) [] h P j.heap S.heap/\di LF I P S.heap/\bC r D/\x r P)
def Ik(MB:iZ)(T:List dy)(LF:bf)(I:a5)(h:aq)(j:ag)(x:cp)(Ls:eO)(p:Result)(S:ag):Prop:=(
 match p with
 |.ok (.ret D)=>vD T LF I h j x D S
 |.ok _=>False
 |.error d=>MB T h j Ls d S)
structure fZ(LF:bf)(I:a5)(Lr:Φ)(aI:az->Option aa)(LB:a0)(MB:iZ)(n:Nat)(R:af)(fd:fu)(LO:List az)(Ms:h3):Prop where
 len:∀Q h x Ls,Ms Q h x Ls->Q.length=LO.length
 run:∀(O:a9) (T:List dy) (j:ag) (h:aq) (args:Args) (LP:List aa) (Q:List ah) (x:cp) (Ls:eO),cQ n O->rd LF I Lr aI LB O T j h->jM j fd args (LO.zip LP)->b1 Q LP->Ms Q h x Ls->
  codeAny (aP LF I) O (.call (.ref R) args) (Ik MB T LF I h j x Ls) j
section
variable{b:aE}{M:List (af×aQ)}{w:aW}{h:aq}{j S:ag}
def aA.Kz(t:aA b M w h j):rd b.prog b.w b.K b.aI b.base b.A b.stack j h:=
 ⟨t.ok.frames,t.ok.mod,t.bs,dv t.ok.iO t.hp,t.stack,⟨t.uN,t.cy⟩,t.aT,t.bare⟩
def aA.after{x:cp}(t:aA b M w h j)(e:vD b.stack b.prog b.w h j x D S):dD b M w x D S:=by
 let⟨r,@P,LM,a,un,aT,p,q⟩:=e;let⟨d,F,v,E,f⟩:=S;obtain rfl:f=j.os:=LM;exact⟨r,P,t.call (Lq:=d) (MF:=F) (Mk:=v) (LY:=E) (Mt:=[]) un aT a (λc B=>absurd B ↥0),p,q⟩
end
def xI(Ms:h3)(i:List ah)(Ls:eO)(E:ei):bT:=(λw h x=>E w h λQ Lw=>Ms (Q++i) Lw x Ls)
def ix(Lr:Φ)(fd:fu)(LO:List az)(A:List aa):Prop:=(
 ∀(j:ag) (LP:List aa),Lr.In j.heap->(LP++A).length=LO.length->jM j fd ⟨LP,[]⟩ (LO.zip<|LP++A))
def ix.all{fd:fu}(e:∀LP:List aa,LP.length=LO.length->iD fd ⟨LP,[]⟩=pure (LO.zip LP)):ix Lr fd LO []:=λj LP W a=>by
 rw[bN]at a ⊢;exact .of_eq (e LP a)
def ue(MB:iZ)(b:aE)(Ls:eO):Prop:=(∀(M:List (af×aQ)) (w:aW) (h:aq) (j:ag) (d:aa) (S:ag),aA b M w h j->MB b.stack h j Ls d S->b.bX d S)
section
variable{b:aE}{MB:iZ}{n:Nat}{R aH:af}{fd:fu}{LO:List az}{Ms:h3}{i:List ah}{A:List aa}{Ls:eO}{f H:az}{u LC B:Pos}{d m:a7}{Lu:List a7}{L8:bT}{E:ei}
def Dl{x:cp}(N:fZ b.prog b.w b.K b.aI b.base MB n R fd LO Ms)(LG:cQ n b.A)(f:ix b.K fd LO A)(hd:b1 i A)(g:ue MB b Ls)(t:aA b M w h j)(p:b1 Q LP)(e:Ms (Q++i) h x Ls):wpAny (aP b.prog b.w) b.A (call (.ref R) LP) (dD b M w x) b.bX j:=by
 have c:b1 (Q++i) (LP++A):=p.append hd;have k:(LP++A).length=LO.length:=by rw[<-c.length];exact N.len _ _ _ _ e
 refine wpAny_call (u0 (N.run b.A b.stack j h ⟨LP,[]⟩ (LP++A) (Q++i) x Ls LG t.Kz (f j LP t.lr k) c e) λp S a=>?_);cases p with
 |error d=>exact g M w h j d S t a
 |ok aN=>
  cases aN with
  |ret D=>exact t.after a
  |next=>exact False.elim a
  |brk=>exact False.elim a
  |cont=>exact False.elim a
def Hh(N:fZ b.prog b.w b.K b.aI b.base MB n R fd LO Ms)(LG:cQ n b.A)(c:eC b f)(g:b.aI f=Z (.ref R))(k:Γ b.K (.ref R)=V)(l:ix b.K fd LO A)(hd:b1 i A)(m:ue MB b Ls)(o:gd b (d::Lu) E)(r:(f==("__debug__" : az))=ar:=by decide)(s:bu (d::Lu) b.env=(ar,bU d b.env)::bu Lu b.env:=by rfl)(v:(ek LC<|bu Lu b.env).any (·.1)=ar:=by rfl):
  bw b (.Call (.Name f u) (d::Lu) [] LC) (xI Ms i Ls E):=by
 intro M j w h x t e;refine qH (AI t c g ?_ r);refine PySem.W.callWith_K (h₀:=b.base) t.ok.mod.uC k (bK (o LC M j w h _ t e) λLP z ⟨Q,Lw,a,p,q⟩=>⟨a.lr,?_⟩) s v;exact Dl N LG l hd m a p q
end
structure iH(LR LF:List az)(t:dU):Prop where
 kind:t.kind=.function
 co:t.isCoroutine=ar
 gen:t.isGenerator=ar
 ak:LR.Nodup
 pre:LR.take LF.length=LF
 par:∀f∈LF,t.names.lookup f=Z .local\/t.names.lookup f=Z .cell
 GB:∀l∈t.names,l.2≠.free
theorem A_{a:az->Option ct}{f:az}:∀{binds:List (az×aa)}{H:az->Option aa},(∀r,(f,r)∉binds)->bindL a binds H f=H f
 |[],_,_=>rfl
 | (s,r)::p,H,e=>by
  unfold bindL;rw[A_ λI b=>e I<|jc _ b];split
  ·have:f≠s:=by rintro rfl;exact e r jK
   simp[this]
  ·rfl
theorem Au{a:az->Option ct}{f:az}:∀{binds:List (az×aa)}{H:az->Option aa},(∀r,(f,r)∉binds)->bindC a binds H f=H f
 |[],_,_=>rfl
 | (s,r)::p,H,e=>by
  unfold bindC;rw[Au λI b=>e I<|jc _ b];split
  ·rfl
  ·have:f≠s:=by rintro rfl;exact e r jK
   simp[this]
theorem yc{b:az->Option ct}{f:az}{r:aa}:∀{LF:List az}{Q:List aa}{a:Nat}{H:az->Option aa},LF.Nodup->LF[a]?=Z f->Q[a]?=Z r->b f=Z .local->
  bindL b (LF.zip Q) H f=Z r
 |[],_,_,_,_,e,_,_=>by simp at e
 |_::_,[],_,_,_,_,e,_=>by simp at e
 |u::LF,I::Q,0,H,ak,y,z,c=>by
  simp at y z;subst y;subst z;show bindL b ((u,I)::LF.zip Q) H u=_;unfold bindL;rw[A_ λr d=>(gZ.mp ak).1 (r1 d).1,aK c];simp
 |u::LF,I::Q,a+1,H,ak,y,z,c=>by
  show bindL b ((u,I)::LF.zip Q) H f=_;unfold bindL;exact yc (a:=a) (gZ.mp ak).2 ⇑y ⇑z c
theorem Bb{b:az->Option ct}{f:az}{r:aa}:∀{LF:List az}{Q:List aa}{a:Nat}{H:az->Option aa},LF.Nodup->LF[a]?=Z f->Q[a]?=Z r->b f≠Z .local->
  bindC b (LF.zip Q) H f=Z r
 |[],_,_,_,_,e,_,_=>by simp at e
 |_::_,[],_,_,_,_,e,_=>by simp at e
 |u::LF,I::Q,0,H,ak,y,z,c=>by
  simp at y z;subst y;subst z;show bindC b ((u,I)::LF.zip Q) H u=_;unfold bindC;rw[Au λr d=>(gZ.mp ak).1 (r1 d).1,aM c];simp
 |u::LF,I::Q,a+1,H,ak,y,z,c=>by
  show bindC b ((u,I)::LF.zip Q) H f=_;unfold bindC;exact Bb (a:=a) (gZ.mp ak).2 ⇑y ⇑z c
def start(LR:List az)(Q:List ah):aW:=(Q.map Z++replicate (LR.length-Q.length) Y)
def hH(MB:iZ)(LF:bf)(I:a5)(Lr:Φ)(aI:az->Option aa)(LB:a0)(LR:List az)(Mj:az)(LD:dU)(R:af)(a:aa)(O:a9)(T:List dy)(j:ag)(h:aq)(Ls:eO):aE where
 prog:=LF
 w:=I
 K:=Lr
 aI:=aI
 base:=LB
 A:=O.deeper (fR Mj LD j.heap.objs.size R a)
 N:=LR
 dF:=j
 iK:=h
 env:=fR Mj LD j.heap.objs.size R a
 outer:=T
 stack:=fR Mj LD j.heap.objs.size R a::T
 ex:=[]
 calm:=V
 fn:=λ_=>V
 cV:=[]
 bX:=λd S=>wpAny (aP LF I) (O.deeper<|fR Mj LD j.heap.objs.size R a) (leaving (fR Mj LD j.heap.objs.size R a) d) (λ_ b=>MB T h j Ls d b) (λc b=>MB T h j Ls c b) S
def Bz{t:dU}(e:t.names.lookup f=Z .cell):∃o,(u6 s t.names []).lookup f=Z o:=by
 have q:=Ak t.names s [] (.inl e);exact rU.mp q
def Kn{R:af}{t:aa}{T:List dy}{w:ag}{Ls:eO}(LX:iH LR LO LD)(hd:O.handled=Y)(b:rd LF I Lr aI LB O T j h)(H:Q.length=LO.length)(p:b1 Q LP)(f:InCallC j j.heap.objs.size (bindL (fR Mj LD j.heap.objs.size R t).kindOf (LO.zip LP) λ_=>Y) (u6 (j.heap.objs.size+1) LD.names []) (bindC (fR Mj LD j.heap.objs.size R t).kindOf (LO.zip LP) λ_=>Y) w):
  aA (hH MB LF I Lr aI LB LR Mj LD R t O T j h Ls) [] (start LR Q) h w:=by
 have J:LO.length<=LR.length:=by have:=congrArg List.length LX.pre;rw[g7]at this;lia
 let⟨y,@Md,rfl,x⟩:=f.done;have v:∀c:af,c∉(hH MB LF I Lr aI LB LR Mj LD R t O T j h Ls).ex:=λc B=>absurd (show c∈([]:List af) from B) ↥0;refine⟨⟨b.mod,LX.kind,rfl,rfl,bq _,λl B o y z=>?_,λl k=>?_,λl o W e=>?_,λ_=>hd,AY b.frames,.inr ⟨rfl,rfl⟩,λc B=>absurd B<|v c,b.bs,b.iO,λc W W=>v c,λc B=>absurd B<|v c,b.gy,b.ju⟩,
  rfl,b.bare,dW.kept x,⟨_,f.toInCall.ns,λa l r y z L=>?_⟩,λl o e=>⟨_,f.cell l o e⟩,b.aT.fresh<|bq _,λl o e=>?_,λu m=>absurd (show u∈([]:List (af×aQ)) from m) ↥0,b.aT.kept x,?_⟩
 ·exact name_of_addr f.apart (PySem.mem_of_lookup y) (PySem.mem_of_lookup z)
 ·have k:LD.names.lookup l=Z .cell\/LD.names.lookup l=Z .free:=k;rcases k with k|k
  ·exact Bz k
  ·exact absurd rfl (LX.GB _<|PySem.mem_of_lookup k)
 ·exact nU (f.above l o<|PySem.mem_of_lookup e)
 ·have Lv:a<Q.length:=by
   unfold start at z;by_cases Lv:a<Q.length
   ·exact Lv
   ·rw[lz ⇑Lv]at z;rw[List.getElem?_replicate]at z;split at z<;>cases z
  have E:Q[a]?=Z r:=by
   unfold start at z;rw[lF ⇑Lv,eJ]at z;cases d:Q[a]? with
   |none=>rw[d]at z;cases z
   |some g=>rw[d]at z;cases z;rfl
  let⟨@D,A,F⟩:=p.get E;have m:LO[a]?=Z l:=by
   rw[<-LX.pre,List.getElem?_take_of_lt ⋯];exact y
  have C:LO.Nodup:=by rw[<-LX.pre];exact LX.ak.sublist (q5 _ _)
  refine⟨D,F,?_⟩;rcases LX.par l (nt m) with n|n
  ·exact .inl ⟨n,yc C m A n⟩
  ·let⟨@o,d⟩:=Bz (s:=j.heap.objs.size+1) n;refine .inr ⟨.inl n,o,d,?_⟩;have q:=f.cell l o d;rw[Bb C m A (by show LD.names.lookup l≠_;rw[n];decide)]at q;exact q
 ·exact b.aT.fresh (nU<|f.above l o<|PySem.mem_of_lookup e)
 ·unfold start;show _=LR.length;rw[eK,bF,List.length_replicate];lia
def zb{R:af}{name:az}{My:nX}{g b7 k L3 B bW Mo:aa}{A y:Option af}{z:Array (Option aa)}{Ms:h3}(lk:Lr.lookup R=Z ⟨Mo,y,.func<|Θ name Mj My Mv LD g b7 k L3 A B bW,z⟩)(C:Φa Lr B Mj=V)(LX:iH LR LO LD)(len:∀Q h x Ls,Ms Q h x Ls->Q.length=LO.length)(F:∀(O:a9) (T:List dy) (j:ag) (h:aq) (Q:List ah) (x:cp) (Ls:eO),cQ n (O.deeper<|fR Mj LD j.heap.objs.size R B)->Ms Q h x Ls->
   ∃E,fP (hH MB LF I Lr aI LB LR Mj LD R B O T j h Ls) Mv E/\E {bh:=λ_ P=>x .aR P,cR:=x} (start LR Q) h):
  fZ LF I Lr aI LB MB (n+1) R (Θ name Mj My Mv LD g b7 k L3 A B bW) LO Ms:=by
 refine⟨len,λO T j h args LP Q x Ls LG a H p o=>?_⟩;have J:=len _ _ _ _ o;have u:Lr.In j.heap:=a.mod.uC.keeps λc m d=>(a.bs c m d).1;have L:j.heap.NoLimit:=a.mod.nolimit.keeps λc m d=>(a.bs c m d).1;have M:∀l∈LO.zip LP,LD.names.lookup l.1=Z .local\/(LD.names.lookup l.1=Z .cell/\((u6 (j.heap.objs.size+1) LD.names []).lookup l.1).isSome=V):=λ⟨s,r⟩ N=>by
  rcases LX.par s (r1 N).1 with q|q
  ·exact .inl q
  ·exact .inr ⟨q,Ak _ _ _<|.inl q⟩
 refine codeAny_call_function LG.depth (u _ _ lk) rfl LX.co LX.gen rfl (PySem.W.codeRec_of u C) (H _ _ _ _ ?_);refine wpAny_newFunctionEnv_cells LX.kind M λU al v f=>?_;subst al;refine⟨L.keeps f.toInCall.keep,codeAny_func ?_⟩;let⟨@E,am,an⟩:=F O T j h Q x Ls (LG.deeper _) o;have t:aA (hH MB LF I Lr aI LB LR Mj LD R B O T j h Ls) [] (start LR Q) h v:=Kn LX LG.hd a J p f;refine fq (am [] v (start LR Q) h _ t an) (λaN S au=>?_) λd S au=>au;have w:∀{b:aW}{P:aq}{r:ah}{D:aa},aA (hH MB LF I Lr aI LB LR Mj LD R B O T j h Ls) [] b P S->bC r D->x r P->vD T LF I h j x D S:=
  λ{b P r D} Ml e q=>⟨r,P,Ml.os,Ml.bare,Ml.base,Ml.aT,e,q⟩;cases aN with
 |ret D=>
  let⟨r,b,@P,Ml,e,q⟩:=au;exact w Ml e q
 |next=>
  let⟨b,@P,Ml,q⟩:=au;exact w (r:=ah.aR) (D:=aa.none) Ml rfl q
 |brk=>
  let⟨K,@K,K,q⟩:=au;exact False.elim q
 |cont=>
  let⟨K,@K,K,q⟩:=au;exact False.elim q
section
variable{b:aE}{f:az}{u LC:Pos}{d:a7}{Lu:List a7}{E:ei}{id LA:String}{p:List ah->aq->cp->Prop}
def xZ(p:List ah->aq->cp->Prop)(E:ei):bT:=(λw h x=>E w h λQ Lw=>p Q Lw x)
def Bc(a:dX b (.builtin id) p)(c:eC b f)(g:b.aI f=Y)(i:ez f=Z (.builtin id))(k:gd b (d::Lu) E)(l:f ≠ "__name__" := by decide)(m:(f==("__debug__" : az))=ar:=by decide)(n:bu (d::Lu) b.env=(ar,bU d b.env)::bu Lu b.env:=by rfl)(o:(ek LC<|bu Lu b.env).any (·.1)=ar:=by rfl):bw b (.Call (.Name f u) (d::Lu) [] LC) (xZ p E):=by
 intro M j w h x t e;refine qH (l3 t c g i ?_ l m);exact Hm (bK (k LC M j w h _ t e) λLP q ⟨Q,Lw,r,s,v⟩=>a M q w Lw Q LP x r s v) n o
def G6(a:dX b (.type LA) p)(c:eC b f)(g:b.aI f=Y)(i:ez f=Z (.type LA))(k:gd b (d::Lu) E)(l:f ≠ "__name__" := by decide)(m:(f==("__debug__" : az))=ar:=by decide)(n:bu (d::Lu) b.env=(ar,bU d b.env)::bu Lu b.env:=by rfl)(o:(ek LC<|bu Lu b.env).any (·.1)=ar:=by rfl):bw b (.Call (.Name f u) (d::Lu) [] LC) (xZ p E):=by
 intro M j w h x t e;refine qH (l3 t c g i ?_ l m);exact r8 (bK (k LC M j w h _ t e) λLP q ⟨Q,Lw,r,s,v⟩=>a M q w Lw Q LP x r s v) n o
end
end L2
namespace jA
open PyProof.Rows
theorem I7(O:a9)(j:ag)(g:Int)(E:gX)(o:Int)(D:gX)(Lx:bf)(I:a5)(Ls:aa->ag->Prop)(x:aa->ag->Prop)(e:x (.bool<|decide (g<o)) j):
  wpAny (aP Lx I) O (lG .Lt (.int g E)<|.int o D) x Ls j:=
 (H6 e:wpAny (aP Lx I) O (dz .Lt (.int g E)<|.int o D) x Ls j)
section
open PySem.SeqAt
open PySem.AutoSeq1 (wpAny_loadPart')
open PySem.MeetsSeq PySem.MeetsSeq2 PySem.MeetsSeq3
end
section
variable{Lx:bf}{I:a5}{O:a9}{Ls:aa->ag->Prop}{j:ag}
def Kb{E c:af}{Q a:List aa}{x:aa->ag->Prop}(p:nI j.heap E Q.toArray)(q:nI j.heap c a.toArray)(g:Q≠[])(y:a=[]->x (.ref E) j)(z:a≠[]->x (.ref j.heap.objs.size) {j with heap:=j.heap.push {cls:=.type "tuple",data:=.seq (Q++a).toArray} })(r:Q.length+a.length<=sizeLine):wpAny (aP Lx I) O (eU .Add (.ref E)<|.ref c) x Ls j:=by
 let⟨@⟨cls,h,data,bx⟩,b,i,⟨@s,hd⟩⟩:=id p;let⟨@⟨t,k,data2,l⟩,e,m,⟨@n,o⟩⟩:=id q;simp only at i hd m o;subst i hd m o;have d:Q.toArray++a.toArray=(Q++a).toArray:=by simp
 by_cases f:a=[]
 ·exact vl ⟨_,b,rfl⟩ ⟨_,e,rfl⟩ r9 sy vC vb (so _ _)
   (tuple_addW1 E c Q.toArray a.toArray s n h k bx l ⇑g (by simp[f])) ⟨b,e,y f⟩
 ·refine vl ⟨_,b,rfl⟩ ⟨_,e,rfl⟩ r9 sy vC vb (so _ _)
   (tuple_addW2 E c Q.toArray a.toArray s n h k bx l ⇑g ⇑f (by rw[cC,cC];exact r)) ⟨b,e,?_⟩;rw[d];exact z f
end
end jA
namespace L2
open Spec PyProof.Rows
variable{Lq:a0}{x:aa->ag->Prop}{P h:aq}{G:List (List X×ah)}{I:a5}{LF:bf}{m:Option ah}{LY i s:Nat}{J Lz:List aa}{u:af}{j:ag}{w:aW}{M:List (af×aQ)}{p:bp}{L0:Type}{a:Int}{C:List (List X×af×aa)}
abbrev cx:=aW->aq->(Option Int->aq->Prop)->Prop
section
variable{b:aE}{d:a7}{Mq:bT}{T Lv:Option a7}{E k:cx}{LC Mh:Pos}
def KC(Lr:Φ):bp:=(λf l h x=>∃g c C LH,f=.ref g/\l=.ref c/\b3 Lr h g C/\b3 Lr h c LH/\C≠[]/\C.length+LH.length<=sizeLine/\
 (LH=[]->x (.ref g) h)/\(LH≠[]->∀u,h u=Y->x (.ref u) (upd h u<|.tup<|C++LH)))
def b1.qe{C:List ah}{LP:List aa}(p:b1 C LP):LP=[]↔C=[]:=by
 cases p with
 |nil=>simp
 |cons _ _=>simp
def Ie:dd b (eU .Add) (KC b.K):=by
 intro M j w h f l r D x t k n e;let⟨g,c,C,@LH,rfl,rfl,o,p,s,i,u,v⟩:=e;cases k;cases n;let⟨@Lz,d,y,W⟩:=t.tuple o;let⟨@z,a,Mh,W⟩:=t.tuple p;refine jA.Kb y Mh (λB=>s<|d.qe.mp B) (λB=>⟨.ref g,h,t,rfl,u<|a.qe.mp B⟩) (λB=>?_) (by rw[<-d.length,<-a.length];exact i);refine⟨.ref j.heap.objs.size,_,t.laid (LY:=j.toks) (m:=.tup (C++LH)) (λc A q=>b4 _ q) (bq _) ?_,rfl,v (λI=>B<|a.qe.mpr I) _<|t.aT.fresh<|bq _⟩;exact⟨by rw[eK];exact i,_,d.append a,kX.new _ _⟩
end
def hu(s:Nat)(a:Int):Option Nat:=(if 0<=a then (if a<s then Z a.toNat else Y) else if -(s:Int)<=a then Z (a+s).toNat else Y)
def dM{L0:Type}(C:List L0)(a:Int):Option L0:=((hu C.length a).bind λi=>C[i]?)
def zC(e:hu s a=Z i):seqIndex? a s=Z i/\i<s /\ -(s:Int)<=a/\a<s:=by
 unfold hu at e;by_cases b:0<=a
 ·rw[aK b]at e;by_cases y:a<s
  ·rw[aK y]at e;have d:a.toNat=i:=Option.some.inj e;exact⟨by rw[sC b y,d],⋯,⋯,y⟩
  ·rw[aM y]at e;cases e
 ·rw[aM b]at e;by_cases y : -(s:Int)<=a
  ·rw[aK y]at e;have d:(a+s).toNat=i:=Option.some.inj e;exact⟨by rw[vv ⋯ y,d],⋯,y,⋯⟩
  ·rw[aM y]at e;cases e
def BA{C:List L0}{r:L0}(e:dM C a=Z r):∃i,seqIndex? a C.length=Z i/\C[i]?=Z r/\i<C.length /\ -(C.length:Int)<=a/\a<C.length:=by
 unfold dM at e;cases d:hu C.length a with
 |none=>rw[d]at e;cases e
 |some i=>
  rw[d]at e;let@⟨y,z,b,c⟩:=zC d;exact⟨i,y,e,z,b,c⟩
def Cc{C:List L0}{r:L0}(e:C[i]?=Z r):dM C (i:Int)=Z r:=by
 have a:i<C.length:=(eT.mp e).1;have d:hu C.length (i:Int)=Z i:=by
  unfold hu;rw[aK ⋯,aK ⋯];simp
 unfold dM;rw[d];exact e
def kI(c:a7):Prop:=(∀m a,subscripted c ar m a=operate [m,a] (getItem m a))
def gr(b:aE)(p:bp):Prop:=(
 ∀(H a:a7) (M:List (af×aQ)) (j:ag) (w:aW) (h:aq) (f l:ah) (r D:aa) (x:cp),aA b M w h j->bC f r->bC l D->p f l h x->
  subscripted a ar r D=operate [r,D] (getItem r D)->wpAny (aP b.prog b.w) b.A (subscriptTail H a r D) (dD b M w x) b.bX j)
def xv(b:aE)(id:String)(p:ah->List ah->aq->cp->Prop):Prop:=(
 ∀(M:List (af×aQ)) (j:ag) (w:aW) (h:aq) (f:ah) (C:List ah) (r:aa) (LP:List aa) (x:cp),aA b M w h j->bC f r->b1 C LP->p f C h x->
  wpAny (aP b.prog b.w) b.A (call (.builtin id) (r::LP)) (dD b M w x) b.bX j)
section
variable{b:aE}{g c:a7}{L8 cy:bT}{LC:Pos}
def gr.or{Mc:bp}(e:gr b p)(Lq:gr b Mc):gr b (λf l h x=>p f l h x\/Mc f l h x):=by
 intro H a M j w h f l r D x t c d q au;rcases q with q|q
 ·exact e H a M j w h f l r D x t c d q au
 ·exact Lq H a M j w h f l r D x t c d q au
def qZ(LG:gr b p)(a:bw b g L8)(d:bw b c cy)(au:kI c):bw b (.Subscript g c LC) (rJ p L8 cy):=by
 intro M j w h x t e;exact Subscript_ (sY a d t e λr D i f l LK k m n q=>LG g c M i w LK f l r D x k m n q<|au _ _)
def CW(Lr:Φ):bp:=(λf l h x=>∃u C a r,f=.ref u/\l=.int a/\cB Lr h u C/\dM C a=Z r/\x r h)
def DY(Lr:Φ):bp:=(λf l h x=>∃u C a r,f=.ref u/\l=.int a/\b3 Lr h u C/\dM C a=Z r/\x r h)
def n9:gr b (CW b.K):=by
 intro H J M j w h f l r D x t m n e au;let⟨u,C,a,@B,rfl,rfl,o,s,q⟩:=e;cases m;let⟨@E,rfl⟩:=n;let⟨@Lz,p,bE,L⟩:=t.list o;let⟨@i,y,z,N,v,A⟩:=BA s;let⟨@I,d,F⟩:=p.get z;have G:=p.length;have O:=mg;have g:dD b M w x I j:=⟨B,h,t,F,q⟩;by_cases k:0<=a
 ·have c:a.toNat=i:=by
   rw[sC k A]at y;exact Option.some.inj y
  exact item_listR bE.isList k ⋯ (by rw[c];simpa using d) g au
 ·have c:(a+(Lz.toArray.size:Int)).toNat=i:=by
   rw[vv ⋯ v]at y;rw[cC,<-G];exact Option.some.inj y
  exact wM (x:=I) bE.isList.typeIs slot_list_getitem.lookup
   (wpAny_getItem_list_neg (Q:=λp S=>p=I/\dD b M w x p S) bE.isList ⋯ (by rw[cC]<;>lia) ⋯ (by rw[c];simpa using d) ⟨rfl,g⟩) au
def DE:gr b (DY b.K):=by
 intro H v M j w h f l r D x t c d e au;let⟨u,C,a,@B,rfl,rfl,g,k,q⟩:=e;cases c;let⟨@E,rfl⟩:=d;let⟨@Lz,p,bE,A⟩:=t.tuple g;let⟨@i,y,z,F,G,J⟩:=BA k;let⟨@I,m,n⟩:=p.get z;have o:=p.length;have L:=mg;have s:dD b M w x I j:=⟨B,h,t,n,q⟩;exact wM (x:=I) bE.typeIs slot_tuple_getitem.lookup
  (getItem_tuple (j:=i) (Q:=λp S=>p=I/\dD b M w x p S) bE ⋯ ⋯ (by rw[cC,<-o];exact y) ⇑m ⟨rfl,s⟩) au
def D2(Lz:List aa)(s i:Nat)(D:aa):aQ.mapSeq (·.setIfInBounds i D) {cls:=.type "list",data:=.seq Lz.toArray s}={cls:=.type "list",data:=.seq (Lz.set i D).toArray s}:=by
 simp[aQ.mapSeq]
variable{C:List ah}
def aA.lst(t:aA b M w h j)(e:h u=Z (.lst C)):
  ∃(Lz:List aa) (s:Nat),b1 C Lz/\j.heap.get? u=Z {cls:=.type "list",data:=.seq Lz.toArray s}/\C.length<=sizeLine:=by
 let@⟨B,⟨Lz,@s,p,d⟩⟩:=t.aT u _ e;exact⟨Lz,s,p,d,B⟩
def aA.Jy{LH:List ah}{a:Nat}{R:aQ->aQ}(t:aA b M w h j)(e:h u=Z (.lst C))(i:j.heap.get? u=Z {cls:=.type "list",data:=.seq Lz.toArray s})(g:R {cls:=.type "list",data:=.seq Lz.toArray s}={cls:=.type "list",data:=.seq J.toArray a})(p:b1 LH J)(k:LH.length<=sizeLine)(E:Nat):
  aA b M w (upd h u<|.lst LH) {j with heap:=j.heap.update u R,toks:=E}:=by
 have d:(j.heap.update u R).get? u=Z {cls:=.type "list",data:=.seq J.toArray a}:=by
  rw[oN R i (by rw[g]<;>rfl),g]
 refine t.write (f:=u) (d:=u) (by rw[e];trivial) (.inl rfl) (λc D l q=>(gm _ _<|d3 l).trans q) ⟨_,d⟩ ?_;exact⟨k,J,a,p,d⟩
def GA:ah->ah->ah->aq->(aq->Prop)->Prop:=(λm a r h x=>∃u C n i,m=.ref u/\a=.int n/\h u=Z (.lst C)/\hu C.length n=Z i/\x (upd h u<|.lst<|C.set i r))
def CC:tm b GA:=by
 intro M j w h m a r I J D x t k B F e;let⟨u,C,n,@i,rfl,rfl,g,G,q⟩:=e;cases k;let⟨@E,rfl⟩:=B;let⟨Lz,@s,p,c,H⟩:=t.lst g;let@⟨y,z,l,o⟩:=zC G;have d:=p.length;have L:=mg;have v:aA b M w (upd h u<|.lst<|C.set i r) {j with heap:=j.heap.update u (aQ.mapSeq (·.setIfInBounds i D))}:=
  t.Jy g c (D2 Lz s i D) (p.set F i) (by rw[rP];exact H) j.toks;by_cases A:0<=n
 ·have f:n.toNat=i:=by
   rw[sC A o]at y;exact Option.some.inj y
  exact PySem.W.ki_setAt c A ⋯ (by rw[cC,<-d];exact o) (by rw[f];exact⟨_,v,q⟩)
 ·have f:(n+(Lz.toArray.size:Int)).toNat=i:=by
   rw[vv ⋯ l]at y;rw[cC,<-d];exact Option.some.inj y
  exact PySem.W.ki_setBack c ⋯ (by rw[cC,<-d];exact l) ⋯ (by rw[f];exact⟨_,v,q⟩)
def A4:dX b (.builtin "len") (λC h x=>∃u LH,C=[.ref u]/\(cB b.K h u LH\/b3 b.K h u LH)/\x (.int LH.length) h):=by
 intro M j w h C LP x t p e;let⟨u,@LH,rfl,a,q⟩:=e;let⟨@D,rfl,d⟩:=ip p;cases d;have g:=mg;rcases a with a|a
 ·let⟨@Lz,Mc,bE,f⟩:=t.list a;have c:=Mc.length;exact Calls.call_len_list bE.isList (by simp only[cC]<;>lia) ⟨.int LH.length,h,t.tok _,⟨j.toks+1,by rw[cC,c]⟩,q⟩
 ·let⟨@Lz,Mc,bE,f⟩:=t.tuple a;have c:=Mc.length;exact len_tuple bE (by simp only[cC]<;>lia) ⟨.int LH.length,h,t.tok _,⟨j.toks+1,by rw[cC,c]⟩,q⟩
def DR:dX b (.builtin "len") (λC h x=>∃B,C=[.str B]/\B.length<=sizeLine/\x (.int B.length) h):=by
 intro M j w h C LP x t p e;let⟨@B,rfl,a,q⟩:=e;let⟨@D,rfl,⟨@E,rfl⟩⟩:=ip p;have c:=mg;exact len_str ⋯ ⟨.int B.length,h,t.tok _,⟨_,rfl⟩,q⟩
def dX.or{R:aa}{p Mc:List ah->aq->cp->Prop}(e:dX b R p)(Lq:dX b R Mc):dX b R (λC h x=>p C h x\/Mc C h x):=by
 intro M j w h C LP x t A q;rcases q with q|q
 ·exact e M j w h C LP x t A q
 ·exact Lq M j w h C LP x t A q
def Ez:dX b (.type "tuple") (λC h x=>∃u LH,C=[.ref u]/\((cB b.K h u LH/\∀L,h L=Y->x (.ref L) (upd h L<|.tup LH))\/(b3 b.K h u LH/\x (.ref u) h))):=by
 intro M j w h C LP x t p e;let⟨u,@LH,rfl,e⟩:=e;let⟨@D,rfl,i⟩:=ip p;cases i;rcases e with ⟨a,q⟩|⟨a,q⟩
 ·let⟨@Lz,Mc,bE,f⟩:=t.list a;have l:=Mc.length;refine call_tuple_list bE.isList (λLq eu=>?_) (by simp only[cC]<;>lia);have g:aA b M w h {j with heap:=Lq}:=t.kept (LY:=j.toks) eu;have k:aA b M w (upd h Lq.objs.size<|.tup LH) {j with heap:=Lq.push {cls:=.type "tuple",data:=.seq Lz.toArray} }:=
   g.laid (LY:=j.toks) (λc m d=>b4 _ d) (bq _) (show dG b.prog b.w _ _ _ (.tup LH) from ⟨f,Lz,Mc,kX.new _ _⟩);exact⟨.ref Lq.objs.size,_,k,rfl,q _<|g.aT.fresh<|bq _⟩
 ·let⟨@Lz,Mc,bE,f⟩:=t.tuple a;exact call_tuple_same bE ⟨.ref u,h,t,rfl,q⟩
def kN(Lr:Φ)(LA:String)(f:ah)(h:aq):Prop:=(match f with
 |.str _=>LA = "str"
 |.int _=>LA = "int"
 |.ref u=>(LA = "list" /\ ∃C,cB Lr h u C)\/(LA = "tuple" /\ ∃m,Lr.lookup u=Z m/\m.cls=.type "tuple" /\ m.dict=Y)\/
   (LA = "dict" /\ ((∃G,h u=Z (.cW G))\/∃G,h u=Z (.br G)))\/(LA = "set" /\ ∃LX s,h u=Z (.set LX s))
 |_=>False)
def IU{LA:String}{f:ah}{r:aa}(t:aA b M w h j)(p:bC f r)(ty:kN b.K LA f h):
  j.TypeIs r LA/\∀g,r=.ref g->∃i,j.heap.get? g=Z i/\i.dict=Y:=by
 cases f with
 |str B=>
  let⟨@E,rfl⟩:=p;cases (show LA = "str" from ty);exact⟨tx j B E,λ_ d=>nomatch d⟩
 |int a=>
  let⟨@E,rfl⟩:=p;cases (show LA = "int" from ty);exact⟨typeIs_int j a E,λ_ d=>nomatch d⟩
 |ref u=>
  cases p;rcases ty with ⟨rfl,C,k⟩|⟨rfl,m,c,l,hd⟩|⟨rfl,c⟩|⟨rfl,LX,s,c⟩
  ·let⟨@Lz,W,bE,W⟩:=t.list k;refine⟨bE.isList.typeIs,λg d=>?_⟩;cases d;let⟨m,@s,d,o,hd,W⟩:=bE;exact⟨m,d,hd⟩
  ·refine⟨⟨m,t.lr u m c,l⟩,λg d=>?_⟩;cases d;exact⟨m,t.lr _ m c,hd⟩
  ·have B:∃m,j.heap.get? u=Z m/\m.ExactDict:=by
    rcases c with ⟨G,c⟩|⟨G,c⟩
    ·let@⟨_,_,⟨@_,_,⟨m,_,@_,d,Mb,_⟩⟩⟩:=t.aT u _ c;exact⟨m,d,Mb⟩
    ·let@⟨_,_,⟨@_,_,⟨m,_,@_,d,Mb,_⟩⟩⟩:=t.aT u _ c;exact⟨m,d,Mb⟩
   let⟨@m,d,Mb⟩:=B;refine⟨⟨m,d,Mb.1⟩,λg e=>?_⟩;cases e;exact⟨m,d,Mb.2.1⟩
  ·let⟨m,W,W,@W,d,Mb,W⟩:=t.aT u _ c;refine⟨⟨m,d,Mb.1⟩,λg e=>?_⟩;cases e;exact⟨m,d,Mb.2.1⟩
 |_=>exact False.elim ty
def DV(Lr:Φ)(LA:String)(p:ah->List ah->aq->cp->Prop)(k:bT)(E:ei):bT:=(λw h x=>k w h λf Lw=>kN Lr LA f Lw/\E w Lw λC LK=>p f C LK x)
variable{m d:a7}{Lu:List a7}{k:bT}{E:ei}{name:az}{B l:Pos}{LA id:String}{p:ah->List ah->aq->cp->Prop}
def Bh(bA:PlainAttrs LA)(n:Slot LA name id)(o:qq (.builtin id)=pure (.type "method_descriptor"))(q:xv b id p)(s:bw b m k)(u:gd b (d::Lu) E)(v:t8 m name b.env (bU m b.env)=bU m b.env:=by rfl)(A:((ek l<|bu (d::Lu) b.env).all (λf=>!f.1)&&(uq l<|se [] b.env).all (λf=>f.1.isSome)
   && decide ((d::Lu).length+([]:List lB).length+(if ([]:List lB).isEmpty then 0 else 1)<30))=V:=by rfl)(C:(B.endLine==l.line)=V:=by rfl)(au:bu (d::Lu) b.env=(ar,bU d b.env)::bu Lu b.env:=by rfl)(D:(ek l<|bu Lu b.env).any (·.1)=ar:=by rfl):
  bw b (.Call (.Attribute m name B) (d::Lu) [] l) (DV b.K LA p k E):=by
 intro M j w h x t e;refine wpAny_Call_method_late v A C rfl (bK (s M j w h _ t e) λr F a=>?_);let⟨f,@Lw,c,g,ty,G⟩:=a;let@⟨y,z⟩:=IU c g ty;refine⟨LA,id,bA,n,o,y,z,?_⟩;have i:=u l M F w Lw _ c G;rw[au]at i ⊢;refine Calls.callWith_builtin (by show (ar || (ek l<|bu Lu b.env).any (·.1))=ar;rw[D]<;>rfl) (Calls.evalArgs_plain ?_);refine bK i λLP H a=>?_;let⟨Q,@LK,I,J,L⟩:=a;exact q M H w LK f Q r LP x I g J L
end
def CX(b:aE)(id:String)(p:ah->List ah->aq->cp->Prop):Prop:=(
 ∀(M:List (af×aQ)) (j:ag) (w:aW) (h:aq) (f:ah) (C:List ah) (r:aa) (LP:List aa) (x:cp),aA b M w h j->bC f r->b1 C LP->p f C h x->
  wpAny (aP b.prog b.w) b.A (call (.builtin id) (r::LP)) (dD b M w x) b.bX j)
theorem b1.one:∀{f:ah}{LP:List aa},b1 [f] LP->∃D,LP=[D]/\bC f D
 |_,_,.cons p .nil=>⟨_,rfl,p⟩
section
variable{b:aE}{M:List (af×aQ)}{w:aW}{h:aq}{j:ag}{L c:af}{C LH E:List ah}
def aA.EM{R:Array aa->Array aa}(t:aA b M w h j)(a:h L=Z (.lst C))(d:j.heap.get? L=Z {cls:=.type "list",data:=.seq Lz.toArray s})(c:R Lz.toArray=J.toArray)(e:b1 LH J)(g:LH.length<=sizeLine):
  aA b M w (upd h L<|.lst LH) {j with heap:=j.heap.update L (aQ.mapSeq R),toks:=LY}:=by
 have q:=vM d R;rw[c]at q;refine t.write (f:=L) (d:=L) (by rw[a];exact trivial) (.inl rfl) (λl D i k=>(gm j.heap (aQ.mapSeq R)<|d3 i).trans k) ⟨_,q⟩ ?_;exact⟨g,J,_,e,q⟩
def aA.G2(t:aA b M w h j)(a:b1 LH Lz)(c:LH.length<=sizeLine):
  aA b M w (upd h j.heap.objs.size<|.lst LH) {j with heap:=j.heap.push {cls:=.type "list",data:=.seq Lz.toArray},toks:=LY}:=
 t.laid (λ_ W q=>b4 _ q) (bq _) ⟨c,Lz,0,a,df _ rfl⟩
def aA.fresh(t:aA b M w h j):h j.heap.objs.size=Y:=t.aT.fresh (bq _)
def aA.dh(t:aA b M w h j)(a:h L=Z (.lst C)):C.length<=sizeLine/\∃(Lz:List aa) (s:Nat),b1 C Lz/\C.length=Lz.length/\j.heap.get? L=Z {cls:=.type "list",data:=.seq Lz.toArray s}:=by
 let@⟨B,⟨Lz,@s,p,d⟩⟩:=t.aT L _ a;exact⟨B,Lz,s,p,p.length,d⟩
def Le(e:s<=sizeLine):bO.List.listTooLong s=ar:=by
 unfold bO.List.listTooLong;exact es ⋯
end
section
variable{b:aE}
def Di:ah->List ah->aq->cp->Prop:=(λf Q h x=>∃L C l,f=.ref L/\Q=[l]/\h L=Z (.lst C)/\C.length<sizeLine/\x .aR (upd h L<|.lst<|C++[l]))
def BR:CX b "list.append" Di:=by
 intro M j w h f Q r LP x t c g e;let⟨L,C,@l,rfl,rfl,a,k,q⟩:=e;cases c;let⟨@D,rfl,i⟩:=g.one;let@⟨B,⟨Lz,@s,p,m,d⟩⟩:=t.dh a;refine call_meets z1 ⟨_,d,rfl⟩ ya (BM _ _) (yX L Lz.toArray s D (by rw[cC];lia)) ⟨d,?_⟩;refine⟨.aR,_,t.EM (J:=Lz++[D]) a d ↥0 (p.append<|.cons i .nil) ?_,rfl,q⟩;rw[eK,kM];lia
def Eg:bp:=(λf l h x=>∃L c C E,f=.ref L/\l=.ref c/\h L=Z (.lst C)/\h c=Z (.lst E)/\C.length+E.length<=sizeLine/\∀u,h u=Y->x (.ref u) (upd h u<|.lst<|C++E))
def ID:dd b (eU .Add) Eg:=by
 intro M j w h f l r D x t g i e;let⟨L,c,C,@E,rfl,rfl,k,m,v,q⟩:=e;cases g;cases i;let@⟨B,⟨Lz,@s,p,y,d⟩⟩:=t.dh k;let@⟨z,⟨a,@A,n,F,o⟩⟩:=t.dh m;refine PySem.P.add_list d o ?_ (by rw[cC,cC];lia);have u:Lz.toArray++a.toArray=(Lz++a).toArray:=by simp
 rw[u];exact⟨.ref _,_,t.G2 (LY:=j.toks) (p.append n) (by rw[eK];lia),rfl,q _ t.fresh⟩
end
section
variable{U:Type}[DecidableEq U]
def f_(G:List (U×ah))(n:U):Option ah:=((G.find? λa=>decide (a.1=n)).map (·.2))
def gI(G:List (U×ah))(n:U)(r:ah):List (U×ah):=(
 if (G.any λa=>decide (a.1=n))=V then G.map (λa=>if a.1=n then (a.1,r) else a) else G++[(n,r)])
def pX{u:U×ah}{p:List (U×ah)}{n:U}(d:u.1=n):f_ (u::p) n=Z u.2:=by simp[f_,je,d]
def pZ{u:U×ah}{p:List (U×ah)}{n:U}(d:¬ u.1=n):f_ (u::p) n=f_ p n:=by simp[f_,je,d]
theorem yk(n:U):∀G:List (U×ah),(G.any λa=>decide (a.1=n))=(f_ G n).isSome
 |[]=>rfl
 |u::p=>by
  rw[kY];by_cases d:u.1=n
  ·simp only[pX d,eH d,Bool.true_or,Option.isSome_some]
  ·rw[pZ d,es d,Bool.false_or];exact yk n p
def xP(G:List (U×ah))(n:U)(r:ah):(gI G n r).length<=G.length+1:=by
 unfold gI;split
 ·rw[bF];lia
 ·rw[eK,dK,mv];lia
def i6.oO{D:Option aa}(p:i6 m D):m.isSome=D.isSome:=by
 cases m with
 |none=>cases D with
  |none=>rfl
  |some _=>exact (show False from p).elim
 |some _=>cases D with
  |none=>exact (show False from p).elim
  |some _=>rfl
def eL.val{G:List (U×ah)}{Q:List (U×aa)}(p:eL G Q)(n:U):i6 (f_ G n) (kR Q n):=by
 unfold eL at p;induction p with
 |nil=>exact True.intro
 |@cons u q LO a e E f=>
  let@⟨y,z⟩:=e;by_cases d:u.1=n
  ·have b:q.1=n:=y.symm.trans d;have c:kR (q::a) n=Z q.2:=by simp[kR,je,b]
   rw[pX d,c];exact z
  ·have b:¬ q.1=n:=λB=>d (y.trans B);have c:kR (q::a) n=kR a n:=by simp[kR,je,b]
   rw[pZ d,c];exact f
def eL.any{G:List (U×ah)}{Q:List (U×aa)}(p:eL G Q)(n:U):(G.any λa=>decide (a.1=n))=Q.any λa=>decide (a.1=n):=by
 unfold eL at p;induction p with
 |nil=>rfl
 |cons e E b=>rw[kY,kY,b,e.1]
def eL.sr{G:List (U×ah)}{Q:List (U×aa)}(p:eL G Q)(n:U){l:ah}{D:aa}(b:bC l D):
  eL (G.map λa=>if a.1=n then (a.1,l) else a) (Q.map λa=>if a.1=n then (a.1,D) else a):=by
 unfold eL at p ⊢;induction p with
 |nil=>exact .nil
 |@cons u q LO f e E c=>
  rw[c3,c3];refine .cons ?_ c;let@⟨y,z⟩:=e;by_cases d:u.1=n
  ·rw[aK d,aK<|y.symm.trans d];exact⟨y,b⟩
  ·rw[aM d,aM<|λB=>d<|y.trans B];exact⟨y,z⟩
def eL.put{G:List (U×ah)}{Q:List (U×aa)}(p:eL G Q)(n:U){l:ah}{D:aa}(a:bC l D):eL (gI G n l) (stored Q n D):=by
 unfold gI stored;rw[p.any n];by_cases d:(Q.any λb=>decide (b.1=n))=V
 ·rw[aK d,aK d];exact p.sr n a
 ·rw[aM d,aM d];exact d2.snoc p ⟨rfl,a⟩
def eL.length{G:List (U×ah)}{Q:List (U×aa)}(p:eL G Q):G.length=Q.length:=d2.length p
end
def pQ{n:dw}{D:aa}(p:bC (b7 n) D):(jW LF I).is n D=V:=by
 cases n with
 |inl a=>let⟨@E,d⟩:=(show ∃E,D=aa.int a E from p);subst d;exact G9 LF I a E
 |inr f=>let⟨@E,d⟩:=(show ∃E,D=aa.str f E from p);subst d;exact Hd LF I f E
abbrev gu(h:aq):List (List X×ah)->List (List X×af×aa)->Prop:=d2 λu q=>u.1=q.1/\hh h u.1 q.2.1/\bC u.2 q.2.2
def gu.val(p:gu h G C)(n:List X):i6 (f_ G n) ((jd C n).map (·.2)):=by
 induction p with
 |nil=>exact True.intro
 |@cons u q LO a e E f=>
  let@⟨y,_,z⟩:=e;by_cases d:u.1=n
  ·have b:q.1=n:=y.symm.trans d;have c:jd (q::a) n=Z q.2:=by simp[jd,je,b]
   rw[pX d,c];exact z
  ·have b:¬ q.1=n:=λB=>d (y.trans B);have c:jd (q::a) n=jd a n:=by simp[jd,je,b]
   rw[pZ d,c];exact f
def gu.sr(p:gu h G C)(n:List X){l:ah}{D:aa}(b:bC l D):
  gu h (G.map λa=>if a.1=n then (a.1,l) else a) (C.map<|putAt n D):=by
 induction p with
 |nil=>exact .nil
 |@cons u q LO g e E c=>
  rw[c3,c3];refine .cons ?_ c;let@⟨y,z,f⟩:=e;unfold putAt;by_cases d:u.1=n
  ·rw[aK d,aK<|y.symm.trans d];exact⟨y,z,b⟩
  ·rw[aM d,aM<|λB=>d<|y.trans B];exact⟨y,z,f⟩
def gu.put(p:gu h G C)(n:List X){c:af}{l:ah}{D:aa}(b:hh h n c)(a:bC l D):
  gu h (gI G n l) (storedH C n c D):=by
 have d:(G.any λe=>decide (e.1=n))=(jd C n).isSome:=by
  rw[yk,(p.val n).oO,p3]
 unfold gI storedH;rw[d];by_cases q:(jd C n).isSome=V
 ·rw[aK q,aK q];exact p.sr n a
 ·rw[aM q,aM q];exact d2.snoc p ⟨rfl,b,a⟩
def gu.keeps(p:gu h G C)(a:∀c LH,h c=Z (.tup LH)->P c=Z (.tup LH)):gu P G C:=
 d2.qV p λ_ W B=>⟨B.1,B.2.1.mono a,B.2.2⟩
section
variable{LF:bf}{I:a5}{h:aq}{e:a0}{g:af}
def z_{D:d8}(ok:di LF I h e)(d:iX h g D):dG LF I h e g D:=d.ok ok
def mc{G:List (dw×ah)}(ok:di LF I h e)(d:iX h g (.cW G)):G.length<=sizeLine/\(g==hE)=ar/\∃Q,eL G Q/\e.DictOf (jW LF I) g Q:=
 show dG LF I h e g (.cW G) from z_ ok d
def GP{G:List (dw×ah)}(ok:di LF I h e)(d:h g=Z (.cW G)):G.length<=sizeLine/\(g==hE)=ar/\∃Q,eL G Q/\e.DictOf (jW LF I) g Q:=mc ok (.inl d)
mutual
theorem b9.ed(ok:di LF I h e):∀{v:X}{r:ah}{D:aa},b9 h v r->bC r D->cD e v D
 |.aR,_,_,d,p=>by cases (show _=ah.aR from d);exact p
 |.aF c,_,_,d,p=>by cases (show _=ah.aF c from d);exact p
 |.int a,_,_,d,p=>by cases (show _=ah.int a from d);exact p
 |.str f,_,_,d,p=>by cases (show _=ah.str f from d);exact p
 |.fn g,_,_,d,p=>by cases (show _=ah.ref g from d);exact p
 |.tup A,_,_,d,p=>by
  let⟨g,@C,rfl,y,z⟩:=d;cases p;let@⟨_,⟨@Lz,b,⟨@m,i,j,⟨@s,k⟩⟩⟩⟩:=(show dG LF I h e g (.tup C) from ok g _ y);exact⟨g,m,Lz.toArray,s,rfl,i,(Prod.mk.inj j).1,k,by simpa using bo.ed ok z b⟩
 |.aN A,_,_,d,p=>by
  let⟨g,C,@m,rfl,y,z⟩:=d;cases p;exact⟨g,rfl⟩
 |.fd,_,_,d,p=>by
  let⟨g,@m,rfl,y⟩:=d;cases p;exact⟨g,rfl⟩
theorem bo.ed(ok:di LF I h e):∀{A:List X}{Q:List ah}{LP:List aa},bo h A Q->b1 Q LP->c7 e A LP
 |[],_,_,d,p=>by cases (show _=[] from d);cases p;rfl
 |v::A,_,_,d,p=>by
  let⟨r,@E,rfl,y,z⟩:=d;cases p with
  |cons a b=>exact⟨_,_,rfl,b9.ed ok y a,bo.ed ok z b⟩
end
def nu{LL:List X}(ok:di LF I h e)(d:hh h LL g):(mY LF I).is e LL g:=⟨d.1,d.2.ed ok rfl⟩
def qp{LF:bf}{I:a5}{O:a9}(e:O.units+20<bP):(mY LF I).room O.in1:=show O.units+1+10<bP by lia
def ow(ok:di LF I h e)(d:iX h g (.br G)):G.length<=sizeLine/\(g==hE)=ar/\
  ∃C,gu h G C/\e.DictOfH (mY LF I) g C:=by
 let@⟨B,l,⟨@C,p,⟨m,Lu,@Mg,y,z,c,i,j⟩⟩⟩:=(show dG LF I h e g (.br G) from z_ ok d);refine⟨B,l,C,p,m,Lu,Mg,y,z,c,i,λf a=>?_,j⟩;have all:∀{L:List (List X×ah)}{H:List (List X×af×aa)},gu h L H->∀f∈H,(mY LF I).is e f.1 f.2.1:=by
  intro L H q;induction q with
  |nil=>intro f a;exact nomatch a
  |@cons u q LO n b E k=>
   intro f a;rcases cu.mp a with d|a
   ·subst d;exact nu ok (by rw[<-b.1];exact b.2.1)
   ·exact k f a
 exact all p f a
def EB(ok:di LF I h e)(d:h g=Z (.br G)):G.length<=sizeLine/\(g==hE)=ar/\
  ∃C,gu h G C/\e.DictOfH (mY LF I) g C:=ow ok (.inl d)
end
def fe(h:aq)(g:af)(l:ah)(p:Option ah):Prop:=(
 (∃G n,iX h g (.cW G)/\l=b7 n/\p=f_ G n)\/∃G n c,iX h g (.br G)/\l=.ref c/\hh h n c/\p=f_ G n)
def kC(h:aq)(g:af)(l r:ah)(P:aq):Prop:=(
 (∃G n,h g=Z (.cW G)/\l=b7 n/\G.length<sizeLine/\P=upd h g (.cW<|gI G n r))\/
 ∃G n c,h g=Z (.br G)/\l=.ref c/\hh h n c/\G.length<sizeLine/\P=upd h g (.br<|gI G n r))
def fe.k{h:aq}{g:af}{G:List (dw×ah)}{n:dw}(d:h g=Z (.cW G)):fe h g (b7 n) (f_ G n):=.inl ⟨G,n,.inl d,rfl,rfl⟩
def fe.t{h:aq}{g c:af}{G:List (List X×ah)}{n:List X}(d:h g=Z (.br G))(a:hh h n c):fe h g (.ref c) (f_ G n):=.inr ⟨G,n,c,.inl d,rfl,a,rfl⟩
def kC.k{h:aq}{g:af}{G:List (dw×ah)}{n:dw}{r:ah}(d:h g=Z (.cW G))(a:G.length<sizeLine):kC h g (b7 n) r (upd h g<|.cW<|gI G n r):=.inl ⟨G,n,d,rfl,a,rfl⟩
def kC.t{h:aq}{g c:af}{G:List (List X×ah)}{n:List X}{r:ah}(d:h g=Z (.br G))(a:hh h n c)(b:G.length<sizeLine):
  kC h g (.ref c) r (upd h g<|.br<|gI G n r):=.inr ⟨G,n,c,d,rfl,a,b,rfl⟩
section
variable{b:aE}{M:List (af×aQ)}{w:aW}{h:aq}{j:ag}{g:af}{l r:ah}{D p:aa}{m:Option ah}{O:a9}{Ls:aa->ag->Prop}
def aA.big(t:aA b M w h j):hE<j.heap.objs.size:=by
 have e:cT<j.heap.objs.size:=(t.mod.glob.keeps t.d_).lt;exact Nat.lt_trans ∅ e
def Kf(s:O.units+20<bP)(t:aA b M w h j)(F:fe h g l (Z r))(q:bC l D)(e:∀a S,aA b M w h S->bC r a->x a S):
  wpAny (aP b.prog b.w) O (getItem (.ref g) D) x Ls j:=by
 rcases F with ⟨G,n,d,f,L⟩|⟨G,n,c,d,f,v,L⟩
 ·subst f;let@⟨B,hd,⟨@Q,i,k⟩⟩:=mc t.aT d;let⟨@a,o,p⟩:=i6.some_of (r:=r) (m:=kR Q n) (by rw[L];exact i.val n);exact wpAny_getItem_of (pQ q) k.mapOf o (e a _ (t.tok _) p)
 ·subst f;cases (show D=aa.ref c from q);let@⟨B,hd,⟨@C,i,k⟩⟩:=ow t.aT d;let⟨@a,o,p⟩:=i6.some_of (r:=r) (m:=(jd C n).map (·.2)) (by rw[L];exact i.val n);let⟨@u,y,z⟩:=cb.mp o;refine wpAny_getItem_heap (qp s) (nu t.aT v) k y ?_;rw[z];exact e a _ (t.tok _) p
def um(o:O.units+20<bP)(t:aA b M w h j)(F:fe h g l m)(k:bC l D)(e:∀S,aA b M w h S->x (.bool m.isSome) S):
  wpAny (aP b.prog b.w) O (dz .In D<|.ref g) x Ls j:=by
 rcases F with ⟨G,n,d,a,L⟩|⟨G,n,c,d,a,p,L⟩
 ·subst a;let@⟨B,hd,⟨@Q,f,i⟩⟩:=mc t.aT d;refine wpAny_in_of (pQ k) hd i.mapOf ?_;rw[<-(f.val n).oO,<-L];exact e _ (t.tok _)
 ·subst a;cases (show D=aa.ref c from k);let@⟨B,hd,⟨@C,f,i⟩⟩:=ow t.aT d;refine wpAny_in_heap (qp o) (nu t.aT p) hd i ?_;have q:=(f.val n).oO;rw[p3]at q;rw[<-q,<-L];exact e _ (t.tok _)
def sW(o:O.units+20<bP)(t:aA b M w h j)(F:fe h g l m)(k:bC l D)(e:∀S,aA b M w h S->x (.bool<|!m.isSome) S):
  wpAny (aP b.prog b.w) O (dz .NotIn D<|.ref g) x Ls j:=by
 rcases F with ⟨G,n,d,a,L⟩|⟨G,n,c,d,a,p,L⟩
 ·subst a;let@⟨B,hd,⟨@Q,f,i⟩⟩:=mc t.aT d;refine wpAny_notIn_of (pQ k) hd i.mapOf ?_;rw[<-(f.val n).oO,<-L];exact e _ (t.tok _)
 ·subst a;cases (show D=aa.ref c from k);let@⟨B,hd,⟨@C,f,i⟩⟩:=ow t.aT d;refine wpAny_notIn_heap (qp o) (nu t.aT p) hd i ?_;have q:=(f.val n).oO;rw[p3]at q;rw[<-q,<-L];exact e _ (t.tok _)
def x2{a:d8}(t:aA b M w h j)(e:mC (h g))(au:a0.SameBut g j.heap Lq)(i:∃q,Lq.get? g=Z q)(new:dG b.prog b.w (upd h g a) Lq g a):
  aA b M w (upd h g a) {j with heap:=Lq,toks:=LY}:=
 t.write (f:=g) (d:=g) e (.inl rfl) (λc q k B=>(au.2 c k).trans B) i new
def JU{G:List (dw×ah)}{Q:List (dw×aa)}(B:G.length<=sizeLine)(hd:(g==hE)=ar)(a:eL G Q)(b:Lq.DictOf (jW LF I) g Q):
  dG LF I P Lq g (.cW G):=⟨B,hd,Q,a,b⟩
def y0{x:Unit->ag->Prop}(J:O.units+20<bP)(t:aA b M w h j)(F:kC h g l r P)(y:bC l D)(A:bC r p)(e:∀S,aA b M w P S->x () S):
  wpAny (aP b.prog b.w) O (rn (.ref g) D p) x Ls j:=by
 rcases F with ⟨G,n,d,k,L,m⟩|⟨G,n,c,d,k,E,L,m⟩
 ·subst k m;let@⟨B,hd,⟨@Q,a,s⟩⟩:=GP t.aT d;have u:Q.length<=sizeLine:=by rw[<-a.length];exact B
  have v:(gI G n r).length<=sizeLine:=by have:=xP G n r;lia
  refine wpAny_setItem_pairs (hsz:=u) (pQ y) s λLq f au=>e _ ?_;have R:∃q,Lq.get? g=Z q:=let ⟨q,_,_,i,_⟩:=f;⟨q,i⟩
  exact x2 t (by rw[d];exact True.intro) au R (JU v hd (a.put n A) f)
 ·subst k m;cases (show D=aa.ref c from y);let@⟨B,hd,⟨@C,a,s⟩⟩:=EB t.aT d;have u:C.length<=sizeLine:=by rw[<-d2.length a];exact B
  have v:(gI G n r).length<=sizeLine:=by have:=xP G n r;lia
  refine wpAny_setItem_heap (hsz:=u) (qp J) (nu t.aT E) s λLq f au=>e _ ?_;let⟨q,Lu,@Mg,i,z,T,U,W,al⟩:=f;refine x2 t (by rw[d];exact True.intro) au ⟨q,i⟩ ⟨v,hd,_,(a.put n E A).keeps λo LH H=>?_,q,Lu,Mg,i,z,T,U,al⟩;rw[bB (Ku H d<|λB=>nomatch B)];exact H
end
section
variable{b:aE}{M:List (af×aQ)}{w:aW}{h:aq}{j:ag}{g:af}{G:List (dw×ah)}{n:dw}{D:aa}{O:a9}{Ls:aa->ag->Prop}
def Dg(t:aA b M w h j)(d:iX h g (.cW G))(e:∀E S,aA b M w h S->x (.int G.length E) S):wpAny (aP b.prog b.w) O (call (.builtin "len") [.ref g]) x Ls j:=by
 let@⟨B,hd,⟨@Q,a,c⟩⟩:=mc t.aT d;refine call_len_dict hd c (by rw[<-a.length];rw[sT]at B;lia) ?_;rw[<-a.length];exact e _ _ (t.tok _)
end
def CU{b:aE}{g:af}{l:ah}(t:aA b M w h j)(F:fe h g l m):j.TypeIs (.ref g) "dict" := by
 rcases F with ⟨G,n,d,_,_⟩|⟨G,n,c,d,_,_,_⟩
 ·let@⟨_,_,⟨@Q,_,a⟩⟩:=mc t.aT d;exact a.typeIs
 ·let@⟨_,_,⟨@C,_,a⟩⟩:=ow t.aT d;exact a.typeIs
def H7(e:a0)(a:hE<e.objs.size):dG LF I h (e.push {cls:=.type "dict",data:=.dict #[]}) e.objs.size (.br []):=
 ⟨gY _,vg.mpr<|d3<|c8 a,[],.nil,_,#[],0,df _ rfl,⟨rfl,rfl,rfl⟩,rfl,rfl,hc⟩
def FV:bT:=(λ_ h x=>∀u,h u=Y->x (.ref u) (upd h u<|.br []))
section
variable{b:aE}{LC:Pos}
def H8:bw b (.Dict [] [] LC) FV:=λM j w h x t e=>
 wpAny_Dict_empty ⟨.ref j.heap.objs.size,_,t.laid (g:=j.heap.objs.size) (m:=.br []) (LY:=j.toks) (λ_ W q=>b4 _ q) (bq _)<|H7 j.heap t.big,rfl,e _<|t.aT.fresh<|bq _⟩
end
end L2
namespace zd
open PySem.W PySem.Calls PyProof.Rows
variable{s:Nat}{L:OpenLaw}
def F8{LF:pH}{e:a0}:∀(LN:List Int) (Q:List aa),WellAll LF e Q (LN.map oK.int)->oi Q LN:=by
 intro LN;induction LN with
 |nil=>
  intro Q I;rw[o5]at I;cases I;exact .nil
 |cons s LN a=>
  intro Q I;rw[c3]at I;cases I with
  |cons g c=>
   cases g;exact .cons _ _ (a _ c)
def Kq(h:L.most=Z s){LF:pH}{e:a0}{args:List oK}{c:List aa}(d:L.row.toRowW.claim.pre args=V)(i:WellAll LF e c args):
  ∃g Q LN,c=[aa.ref g]/\args=[oK.list (LN.map oK.int)]/\e.get? g=Z {cls:=.type "list",data:=.seq Q.toArray}/\oi Q LN/\LN.length<=s:=by
 have AJ:oA.hasAll [] args [.list .int]=V:=(pre_splitW d).1;have f:L.pre.holds [] {args:=args}=V:=(pre_splitW d).2;let⟨v,@p,rfl,y,z⟩:=hasAllW_cons AJ;obtain rfl:=hasAllW_nil z;let⟨@C,rfl,j⟩:=hasW_list y;let⟨@LN,rfl⟩:=items_int j;have k:LN.length<=s:=by
  unfold OpenLaw.pre at f;have a:(WTm.not<|.lt (.lit<|.int (s:Int))<|.len<|.arg 0).holds [] {args:=[.list (LN.map .int)]}=V:=by
   have a:=(holds_andW f).1;rw[h]at a;exact a
  have b:=condW_of a (w_not<|w_lt w_lit<|w_len_list<|w_arg rfl);rw[bF]at b;refine Nat.le_of_not_lt λq=>?_;have l:(s:Int)<((LN.length:Nat):Int):=⋯
  first
   | (rw[eH l]at b;exact absurd b ∅)
   | (simp at b;lia)
 cases i with
 |cons m n=>
  cases n;cases m with
  |list o r=>exact⟨_,_,LN,rfl,rfl,o,F8 LN _ r,k⟩
def Dv(L:OpenLaw)(args:List oK):L.row.toRowW.claim.post args (.bool V) args=V:=
 postW_of (r:=L.row.toRowW) (X:=(V==V))
  (show oA.has [] (.bool V) .bool=V by first|rfl|decide|simp[oA.has,oA.arms,oA.armsAll])
  (show (WTm.eq .res<|.lit<|.bool V).value [] {args:=args,res:=Z (.bool V),after:=args}=Z (.bool<|V==V) from w_eq_bool (w_res rfl) w_lit) rfl
def KJ{q:bf}{e:List az}{f:(az->Option aa)->a0->Prop}{h:a5->a0->Prop}{v:DefRec}(j:L.most=Z s)(l:v.params.defaults=[])(call:∀(I:a5) (dF a:ag) (aI d:az->Option aa) (b:af) (m:aQ) (L3 c k:aa) (g:af) (Q:List aa) (LN:List Int),
   Ground q e [] f I dF aI d a.heap->h I a.heap->
   a.heap.get? b=Z m->m.data=.func (docDef v.name v.params v.body v.scope L3 c k)->a.heap.CodeRec c v.name->aI v.name=Z (.ref b)->
   a.heap.get? g=Z {cls:=.type "list",data:=.seq Q.toArray}->oi Q LN->LN.length<=s->a.gens=#[]->
   codeAny (aP L.prog I) kZ (.call (.ref b) ⟨[.ref g],[]⟩) (λp S=>p=.ok (.ret<|.bool V)/\OldK a.heap S.heap/\S.os=a.os/\jt S.gens) a):
  WalkO q e f h L.row.toRowW v [] (λR Q=>PySem.call R Q):=by
 intro I dF a aI d Ly n b m L3 c k o b7 r hd t i u w args H J x M N y O;obtain rfl:o=.none:=Dflts.none i l;obtain rfl:b7=.none:=Dflts.noKw i;let⟨g,Q,@LN,rfl,rfl,A,B,C⟩:=Kq j x y;refine enter_call (u0 (call I dF a aI d b m L3 c k g Q LN Ly n r (fd_plain hd) t u A B C w) λp S D=>?_);let@⟨rfl,z,E,F⟩:=D;exact⟨.inl ⟨.bool V,.bool V,[],rfl,λ_=>rfl,.bool V,Dv L _,λ_=>⟨List.Pairwise.nil,λ_ G=>(nomatch G)⟩⟩,z,E,F⟩
end zd
namespace L2
open Spec PyProof.Rows
variable{LO:List az}{R c:af}{J:cv}{Mj f:az}{fd:fu}{n:Nat}{aI:az->Option aa}{D:d8}{e:a0}{h:aq}{I:a5}{LF:bf}{m:aQ}
theorem x_:∀{Q:List aa}{LN:List Int},oi Q LN->b1 (LN.map ah.int) Q
 |_,_,.nil=>.nil
 |_,_,.cons s E e=>.cons ⟨E,rfl⟩ (x_ e)
def oV(h:aq):Prop:=(∀c,h c=Y\/(∃m C,h c=Z (.b8 m<|.lst C))\/(∃C,h c=Z (.tup C))\/h c=Z .fo)
def Hv{C:List ah}(o:oR m=Z C):∃a E i D s,(m.cls,m.dict)=(.type "tuple",Y)/\m.data=.seq [.int a E,.int i D].toArray s/\C=[.int a,.int i]:=by
 unfold oR at o;split at o
 ·rename_i Lz s y z b;unfold w5 at o;split at o
  ·rename_i a E i D d;cases o;exact⟨a,E,i,D,s,pG y z,b.trans (by rw[<-d,Array.toArray_toList]),rfl⟩
  ·cases o
 ·cases o
def tC(d:e.get? c=Z m)(o:iP m=Z D):∃C,D=.tup C/\dG LF I h e c D:=by
 unfold iP at o;cases v:oR m with
 |none=>rw[v]at o;cases o
 |some C=>
  rw[v]at o;cases o;let⟨a,E,i,r,s,y,z,rfl⟩:=Hv v;exact⟨_,rfl,dv (show 2<=2 from bq 2) ∅,[.int a E,.int i r],.cons ⟨E,rfl⟩<|.cons ⟨r,rfl⟩ .nil,m,d,y,s,z⟩
def fg(e:a0)(h:aq):aq:=(λc=>match h c with
 |some D=>Z D
 |none=>match e.get? c with
  |some m=>iP m
  |none=>Y)
def FC(s:h c=Y)(d:e.get? c=Z m):fg e h c=iP m:=by
 unfold fg;rw[s];dsimp only;rw[d]
def vK(s:h c=Z D):fg e h c=Z D:=by
 unfold fg;rw[s]
def vB(s:fg e h c=Z D):h c=Z D\/∃m,e.get? c=Z m/\iP m=Z D:=by
 unfold fg at s;cases q:h c with
 |some r=>rw[q]at s;cases s;exact .inl rfl
 |none=>
  rw[q]at s;dsimp only at s;cases d:e.get? c with
  |none=>rw[d]at s;cases s
  |some m=>rw[d]at s;exact .inr ⟨m,rfl,s⟩
def Jr{Lr:Φ}{R:az->Option aa}{MB:iZ}{T g:af}{Ms:h3}{a:ag}{Q:List aa}{LN:List Int}(G:Lr.In a.heap)(ap:a.heap.Ns cT aI)(i:a.heap.Ns hk R)(cd:∀f:az,f ≠ "__name__" -> R f=ez f)(ce:a.heap.NoLimit)(ch:a.gens=#[])(k:a.heap.get? g=Z {cls:=.type "list",data:=.seq Q.toArray})(Lv:oi Q LN)(as:LN.length<=sizeLine)(LG:cQ n kZ)(N:∀LB:a0,Lr.In LB->LB.Ns cT aI->fZ LF I Lr aI LB MB n T fd [f] Ms)(ci:∀(j:ag) (D:aa),jM j fd ⟨[D],[]⟩ [(f,D)])(cl:∀h:aq,oV h->cB Lr h g (LN.map ah.int)->Ms [.ref g] h (λr K=>r=.aF V) λ_ K K=>False)(co:∀h d S,MB [] h a (λ_ K K=>False) d S->False){Mz cG:af}(a1:Ξ Lr "_law_runs_of" = Z (Mz,cG))(a2:Φc a.heap Mz cG)(w:a.heap.get? cG=Z (Δ #[]))(cr:Φd Lr=V)(cs:∃A m,aI "__builtins__" = Z (.ref A)/\A≠hk/\A≠cT/\a.heap.get? A=Z m/\m.cls=.type "module" /\ m.dict=Z hk/\m.data=.plain):
  codeAny (aP LF I) kZ (.call (.ref T) ⟨[.ref g],[]⟩) (λp S=>p=.ok (.ret<|.bool V)/\OldK a.heap S.heap/\S.os=a.os/\jt S.gens) a:=by
 have bd:=x_ Lv;have db:=Lv.length;have be:g≠cG:=λB=>by rw[B,w]at k;cases k
 have bi:∀b:aq,oV b->cB Lr (fg a.heap b) g (LN.map ah.int)->(∀h c D,b c=Z D->dG LF I h a.heap c D)->(∀c,b c≠Y->c=g\/c=cG)->(b g≠Y->Lr.lookup g=Y)->b cG=Z .fo->
   codeAny (aP LF I) kZ (.call (.ref T) ⟨[.ref g],[]⟩) (λp S=>p=.ok (.ret<|.bool V)/\OldK a.heap S.heap/\S.os=a.os/\jt S.gens) a:=by
  intro b bm ds bn J dL eq;have U:∀{c:af}{m:aQ},a.heap.get? c=Z m->b c=Y->(i9 a.heap b).get? c=Z m:=λd s=>GX d s;have aT:di LF I (fg a.heap b) a.heap:=λc D q=>by
   rcases vB q with q|⟨m,d,o⟩
   ·exact bn _ c D q
   ·exact (tC d o).choose_spec.2
  have bs:oV (fg a.heap b):=λc=>by
   cases q:fg a.heap b c with
   |none=>exact .inl rfl
   |some D=>
    rcases vB q with q|⟨m,d,o⟩
    ·rcases bm c with B|B
     ·rw[B]at q;cases q
     ·rw[<-q];exact .inr B
    ·let⟨C,rfl,K⟩:=tC (LF:=LF) (I:=I) (h:=b) d o;exact .inr (.inr<|.inl ⟨C,rfl⟩)
  have ev:∀{c:af}{m:aQ}{Lu:Array DictEntry}{Mg:Nat},a.heap.get? c=Z m->m.data=.dict Lu Mg->b c=Y:=λ{c m Lu Mg} d v=>by
   cases q:b c with
   |none=>rfl
   |some D=>
    rcases J c (by rw[q];simp) with t|t
    case inr=>subst t;rw[w]at d;cases d;cases v
    subst t;rw[k]at d;cases d;have Mk:Data.seq Q.toArray _=Data.dict Lu Mg:=v;cases Mk
  have L:∀{c:af}{H:az->Option aa},a.heap.Ns c H->(i9 a.heap b).Ns c H:=λ{c H} ⟨m,Lu,Mg,d,v,p⟩=>⟨m,Lu,Mg,U d<|ev d v,v,p⟩;have bv:Lr.In (i9 a.heap b):=λc m d=>U (G c m d) (by
   cases q:b c with
   |none=>rfl
   |some D=>
    rcases J c (by rw[q];simp) with t|t
    ·subst t;rw[dL (by rw[q];simp)]at d;cases d
    ·subst t;have y:=G c m d;rw[w]at y;cases y;exact absurd (show ar=V from jl.mp cr _ (PySem.W.mem_of_lookupK d)) dg)
  have ex:Mod Lr aI (i9 a.heap b):=⟨bv,L ap,⟨R,L i,cd⟩,let ⟨fn,y,z⟩:=ce;⟨fn,L y,z⟩,let ⟨A,m,fr,f0,f1,E,al,f2,f4⟩:=cs;⟨A,m,fr,f0,f1,U E (by
   cases q:b A with
   |none=>rfl
   |some D=>
    rcases J A (by rw[q];simp) with t|t
    ·subst t;rw[k]at E;cases E;exact absurd (aa.type.inj al) ∅
    ·subst t;rw[w]at E;cases E;cases al),al,f2,f4⟩⟩
  have f8:rd LF I Lr aI (i9 a.heap b) kZ [] a (fg a.heap b):=⟨rfl,ex,λc m d=>⟨(uY d).1,FC (uY d).2 (uY d).1⟩,vL<|Jz _ _,trivial,⟨λc i=>absurd (show c∈([]:List af) from i) ↥0,λo LF d=>by rw[a1]at d;cases d;exact⟨vK eq,I2 G a1 a2⟩⟩,aT,.of_eq ch⟩;refine u0 ((N _ bv<|L ap).run kZ [] a (fg a.heap b) ⟨[.ref g],[]⟩ [.ref g] [.ref g] _ _ LG f8 (ci a<|.ref g) (.cons rfl .nil)<|cl (fg a.heap b) bs ds) λp S e=>?_;cases p with
  |error d=>exact (co (fg a.heap b) d S e).elim
  |ok aN=>
   cases aN with
   |next=>exact False.elim e
   |brk=>exact False.elim e
   |cont=>exact False.elim e
   |ret D=>
    let⟨r,P,LM,ga,un,ge,Mc,q⟩:=e;have gl:r=.aF V:=q;subst gl;obtain rfl:D=aa.bool V:=Mc;have eu:∀c m,a.heap.get? c=Z m->fg a.heap b c≠Z .fo->S.heap.get? c=Z m:=λc m d go=>?_;have x:∀c m,a.heap.get? c=Z m->fg a.heap b c=Z .fo->m=Δ #[]/\c=cG/\∃M,S.heap.get? c=Z (Δ<|#[]++M):=λc m d q=>by
     have i:c=cG:=by
      rcases vB q with B|⟨LZ,O,o⟩
      ·rcases J c (by rw[B];simp) with l|l
       ·rcases bm c with p|⟨_,_,p⟩|⟨_,p⟩|p
        ·rw[p]at B;cases B
        ·rw[p]at B;cases B
        ·rw[p]at B;cases B
        ·let⟨K,y,K⟩:=bn b c _ p;rw[l,k]at y;cases y
       ·exact l
      ·let⟨K,am,K⟩:=tC (LF:=LF) (I:=I) (h:=b) O o;cases am
     subst i;rw[w]at d;cases d;exact⟨rfl,rfl,(un.e8 c q).2 ↥0 _ w⟩
    refine⟨rfl,⟨λc m d=>?_,λc m d=>?_⟩,LM,ga⟩
    ·by_cases q:fg a.heap b c=Z .fo
     ·let⟨rfl,rfl,M,F⟩:=x c m d q;let⟨Mo,gt,K,K,K,K,K,K,K,g1,am,g2,g3,K⟩:=a2;exact .inr (.inl ⟨⟨Mz,Mo,gt,g1,am,g2,g3⟩,rfl,#[],M,rfl,F⟩)
     ·exact .inl (eu c m d q)
    ·by_cases q:fg a.heap b c=Z .fo
     ·let⟨K,K,M,F⟩:=x c m d q;exact⟨_,F⟩
     ·exact⟨m,eu c m d q⟩
    rcases bs c with q|⟨hd,C,B⟩|⟨C,B⟩|B
    ·exact un.keep c m d q (by intro B;exact absurd (show c∈([]:List af) from B) ↥0) ↥0
    ·have he:=un.ia c hd _ B;let⟨O,K⟩:=aT c _ B;let⟨F,K⟩:=ge c _ he;rw[d]at O;cases O;exact F
    ·exact un.h_ c m C d B ↥0
    ·exact absurd B go
 cases an:Lr.lookup g with
 |some m=>
  have d:=G g m an;rw[k]at d;cases d;have hf:(if g=cG then Z d8.fo else Y)=Y:=aM be;refine bi (λc=>if c=cG then Z .fo else Y) (λc=>?_) (.inr ⟨_,Q.toArray,_,an,rfl,rfl,rfl,by rw[cC,db];exact as,by simpa using bd⟩) (λh c D B=>?_) (λc B=>?_) (λB=>absurd hf B) (aK rfl)
  ·by_cases i:c=cG
   ·exact .inr (.inr<|.inr<|aK i)
   ·exact .inl (aM i)
  ·by_cases i:c=cG
   ·have u:=(aK i).symm.trans B;cases u;subst i;exact⟨#[],w,trivial,λLC hm e=>by cases e⟩
   ·have u:=(aM i).symm.trans B;cases u
  ·by_cases i:c=cG
   ·exact .inr i
   ·exact absurd (aM i) B
 |none=>
  refine bi (λc=>if c=cG then Z .fo else if c=g then Z (.b8 {cls:=.type "list",data:=.seq Q.toArray} (.lst<|LN.map ah.int)) else Y) (λc=>?_) (.inl<|.inr ⟨{cls:=.type "list",data:=.seq Q.toArray},vK<|(aM be).trans<|aK rfl⟩) (λh c D B=>?_) (λc B=>?_) (λ_=>an) (aK rfl)
  ·by_cases i:c=cG
   ·exact .inr (.inr<|.inr<|aK i)
   by_cases k:c=g
   ·exact .inr (.inl ⟨_,_,(aM i).trans<|aK k⟩)
   ·exact .inl ((aM i).trans<|aM k)
  ·by_cases i:c=cG
   ·have u:=(aK i).symm.trans B;cases u;subst i;exact⟨#[],w,trivial,λLC hm e=>by cases e⟩
   replace B:=(aM i).symm.trans B;by_cases i:c=g
   ·have u:=(aK i).symm.trans B;cases u;subst i;exact⟨k,by rw[bF];exact as,Q,_,bd,k⟩
   ·have u:=(aM i).symm.trans B;cases u
  ·by_cases i:c=cG
   ·exact .inr i
   by_cases ca:c=g
   ·exact .inl ca
   ·exact absurd ((aM i).trans<|aM ca) B
def Hr(F:e.Ns cT aI)(c:∃a m,aI "__builtins__" = Z (.ref a)/\a≠hk/\e.get? a=Z m/\m.cls=.type "module" /\ m.dict=Z hk/\m.data=.plain):
  ∃a m,aI "__builtins__" = Z (.ref a)/\a≠hk/\a≠cT/\e.get? a=Z m/\m.cls=.type "module" /\ m.dict=Z hk/\m.data=.plain:=by
 let⟨a,m,cF,cS,i1,f,g,b⟩:=c;refine⟨a,m,cF,cS,λq=>?_,i1,f,g,b⟩;let⟨LZ,Lu,Mg,d,hd,W⟩:=F;rw[q,d]at i1;cases i1;rw[hd]at b;cases b
def DP{L:PySem.W.OpenLaw}{s:Nat}{q:bf}{w:List az}{x:(az->Option aa)->a0->Prop}{o:a5->a0->Prop}{v:DefRec}{Lr:pH->Φ}{MB:a5->iZ}{Ms:a5->h3}(y:L.most=Z s)(z:s<=sizeLine)(A:v.params.defaults=[])(LG:cQ n kZ)(B:∀(I:a5) (e:a0),o I e->(Lr I.params).In e)(N:∀(I:a5) (aI:az->Option aa) (a:af) (e:a0),(Lr I.params).In e->e.Ns cT aI->aI v.name=Z (.ref a)->
   ∃fd:fu,(∀(j:ag) (D:aa),jM j fd ⟨[D],[]⟩ [(f,D)])/\
    ∀LB:a0,(Lr I.params).In LB->LB.Ns cT aI->fZ L.prog I (Lr I.params) aI LB (MB I) n a fd [f] (Ms I))(C:∀(I:a5) (h:aq) (g:af) (LN:List Int),LN.length<=s->oV h->cB (Lr I.params) h g (LN.map ah.int)->Ms I [.ref g] h (λr K=>r=.aF V) λ_ K K=>False)(E:∀(I:a5) (h:aq) (j:ag) (d:aa) (S:ag),MB I [] h j (λ_ K K=>False) d S->False)(G:((recsOf q).find? λd=>d.name==("_law_runs_of" : az)).isSome=V)(H:∀u,(Ξ (Lr u) "_law_runs_of").isSome=V)(J:∀u,Φd (Lr u)=V):
  PySem.W.WalkO q w x o L.row.toRowW v [] (λR Q=>PySem.call R Q):=by
 refine zd.KJ y A λI dF M aI a2 a m L3 bd k g Q LN Ly O be hd bi P U al p am=>?_;have i:=B I _ O;let⟨@fd,an,ap⟩:=N I aI a _ i Ly.T.g P;let⟨⟨Mz,cG⟩,l⟩:=rU.mp (H I.params);let⟨bm,t⟩:=rU.mp G;exact Jr i Ly.T.g Ly.T.b Ly.T.builtins Ly.T.nolimit am U al (dv p z) LG ap an (λh as a1=>C I h g LN p as a1) (λh d S=>E I h M d S) l (yP Ly.T i t l).1 (yP Ly.T i t l).2 (J I.params) (Hr Ly.T.g Ly.T.bmain)
def hC(j:cv):nX:=(match j with
 |.FunctionDef _ g _ _ _ _ _ _ _ _=>g
 |_=>{posonlyargs:=[],args:=[],vararg:=Y,kwonlyargs:=[],kw_defaults:=[],kwarg:=Y,defaults:=[]})
def e3(j:cv):List cv:=(match j with
 |.FunctionDef _ _ c _ _ _ _ _ _ _=>c
 |_=>[])
def cZ(j:cv):dU:=(match j with
 |.FunctionDef _ _ _ _ _ _ t _ _ _=>t
 |_=>{kind:=.function,names:=[],isGenerator:=ar,isCoroutine:=ar})
abbrev e2:iZ:=λ_ _ _ _ _ _=>False
abbrev EP:eO:=λ_ _ _=>False
def Cf{b:aE}:ue e2 b EP:=λ_ W W W W W W e=>e.elim
structure e1(Lr:Φ)(f Mj:az)(J:cv)(R:af)(fd:fu):Prop where
 ex:∃(Mo:aa) (y:Option af) (b7 k L3:aa) (A:Option af) (B bW:aa) (z:Array (Option aa)),
  fd=Θ f Mj (hC J) (e3 J) (cZ J) .none b7 k L3 A B bW/\Lr.lookup R=Z ⟨Mo,y,.func fd,z⟩/\Φa Lr B Mj=V
 eu:Γ Lr (.ref R)=V
section
variable{LF:bf}{I:a5}{Lr:Φ}{aI:az->Option aa}{LB:a0}
def e1.ok{LR:List az}{Ms:h3}(N:e1 Lr f Mj J R fd)(LX:iH LR LO (cZ J))(len:∀Q h x Ls,Ms Q h x Ls->Q.length=LO.length)(a:∀(B:aa) (O:a9) (T:List dy) (j:ag) (h:aq) (Q:List ah) (x:cp) (Ls:eO),cQ n (O.deeper<|fR Mj (cZ J) j.heap.objs.size R B)->Ms Q h x Ls->
   ∃E,fP (hH e2 LF I Lr aI LB LR Mj (cZ J) R B O T j h Ls).hX (e3 J) E/\E {bh:=λ_ P=>x .aR P,cR:=x} (start LR Q) h):fZ LF I Lr aI LB e2 (n+1) R fd LO Ms:=by
 let⟨Mo,y,b7,k,L3,A,B,bW,@z,rfl,lk,b⟩:=N.ex;refine zb lk b LX len λO T j h Q x Ls LG c=>?_;let⟨@E,e,q⟩:=a B O T j h Q x Ls LG c;exact⟨E,e.hX,q⟩
def e1.binds(N:e1 Lr f Mj J R fd)(e:∀(b7 k L3:aa) (A:Option af) (B bW:aa) (LP:List aa),LP.length=LO.length->iD (Θ f Mj (hC J) (e3 J) (cZ J) .none b7 k L3 A B bW) ⟨LP,[]⟩=pure (LO.zip LP)):ix Lr fd LO []:=by
 let⟨Mo,y,b7,k,L3,A,B,bW,@z,rfl,lk,a⟩:=N.ex;exact .all (e b7 k L3 A B bW)
def Jx{Mo:aa}{y A:Option af}{z:Array (Option aa)}{b7 k L3 B bW:aa}(L:Lr.lookup R=Z ⟨Mo,y,.func<|Θ f Mj (hC J) (e3 J) (cZ J) .none b7 k L3 A B bW,z⟩)(o:Φa Lr B Mj=V)(n:Γ Lr (.ref R)=V):e1 Lr f Mj J R (Θ f Mj (hC J) (e3 J) (cZ J) .none b7 k L3 A B bW):=⟨⟨Mo,y,b7,k,L3,A,B,bW,z,rfl,L,o⟩,n⟩
end
section
variable{b:aE}
def gz(a:Nat){f:az}{LC:Pos}(c:b.N[a]?=Z f:=by rfl)(d:mE b.env.scope f:=by first|exact Or.inl rfl|exact Or.inr (Or.inl rfl)|exact Or.inr (Or.inr rfl))(hd:(f==("__debug__" : az))=ar:=by decide)(e:(f==("__classdict__" : az))=ar:=by decide):bw b (.Name f LC) (h6 a):=y8 c d hd e
end
def bz(h P:aq):Prop:=(∀c m,h c=Z m->P c=Z m)
def bz.refl(h:aq):bz h h:=λ_ W e=>e
def bz.trans{Lw LK:aq}(g:bz h Lw)(c:bz Lw LK):bz h LK:=λo m e=>c o m (g o m e)
def bz.free{P:aq}(d:bz h P){L:af}(e:P L=Option.none):h L=Option.none:=by
 cases q:h L with
 |none=>rfl
 |some m=>
  rw[d L m q]at e;cases e
end L2
namespace L2
section
variable{b:aE}
def Et:dX b (.builtin "len") (λC h x=>∃g G,C=[ah.ref g]/\h g=Z (.cW G)/\x (.int G.length) h):=by
 intro M j w h C LP x t p e;let⟨g,@G,rfl,a,q⟩:=e;let⟨@D,rfl,c⟩:=ip p;cases c;exact Dg t (.inl a) λE S d=>⟨.int G.length,h,d,⟨E,rfl⟩,q⟩
end
end L2
namespace L2
open Spec PyProof.Rows
variable{x:Option aa->ag->Prop}{a Mg MI:Nat}{e y:a0}{LL:List aa}{v aH:af}{MG:cw}{LS Mm ME:a7}{Q:List (az×af)}{bY:List af}{h:aq}{w:aW}{M:List (af×aQ)}{LV:List Nat}{own:List az}{U:dy}{LC:Pos}{LD:dU}{MD:List a7}{j:ag}{O:a9}
def HZ{Lx:bf}{I:a5}{Lp:Result->ag->Prop}{b:a7}{ae Mi:aa}(t:Nat->ag->Prop)(l:∀s j,t s j->wpAny (aP Lx I) O (hN ae) (λp a=>match p with
   |none=>Lp (.ok .next) a
   |some r=>wpAny (aP Lx I) O (nH b ae r) (λ_ a=>wpAny (aP Lx I) O (fO b U r) (λ_ g=>
     wpAny (aP Lx I) O (forIn MD V λo p=>if p=V then do let ok <-l5 o U (bU o U);pure (ForInStep.yield ok) else pure (ForInStep.yield p)) (λok d=>
      if ok=V then wpAny (aP Lx I) O (bU ME U) (λf h=>
       wpAny (aP Lx I) O (call (.builtin "list.append") [Mi,f]) (λ_ i=>∃H,H<s/\t H i) (λ_ W=>False) h) (λ_ W=>False) d
      else ∃H,H<s/\t H d) (λ_ W=>False) g) (λ_ W=>False) a) (λ_ W=>False) a) (λ_ W=>False) j)(s:Nat)(e:t s j):
  codeAny (aP Lx I) O (.compLoop (.ListComp ME [⟨b,Mm,MD,0⟩] LD LC) 0 ae Mi U) Lp j:=by
 refine codeAny_loop rfl t (λs j d5=>?_) s e;show wpAny _ O ((compTurn (.ListComp ME [⟨b,Mm,MD,0⟩] LD LC) 0 ae Mi U).onRaise (λf=>do noteFrame f U;theTreesLotGoes f)) _ _ j;refine wpAny_noted ?_;rw[compTurn_list];refine aD (rt<|aD<|fq (l s j d5) (λp a c=>?_) λ_ W Lq=>Lq.elim);cases p with
 |none=>exact bk c
 |some r=>
  refine aD (fq c (λ_ a c=>?_) λ_ W Lq=>Lq.elim);refine aD (fq c (λ_ g m=>aD<|fq m (λok d k=>?_) λ_ W Lq=>Lq.elim) λ_ W Lq=>Lq.elim);cases ok with
  |false=>exact bk ⟨rfl,k⟩
  |true=>
   exact aD (aD<|fq k (λf h n=>aD<|fq n (λ_ i q=>bk<|bk ⟨rfl,q⟩) λ_ W Lq=>Lq.elim) λ_ W Lq=>Lq.elim)
def i5(U:dy)(G:List (az×ct)):List (az×af):=(G.foldl (λQ l=>if l.2==.free then (l.1,(U.cells.lookup l.1).getD 0)::Q else Q) [])
theorem ts{U:dy}:∀(G:List (az×ct)) (Q:List (az×af)),(∀l∈G,l.2=.free->∃o,U.cells.lookup l.1=Z o)->
  (forIn G Q λ(l:az×ct) Q=>if l.2==.free then (do let o <-pN U l.1;pure (ForInStep.yield ((l.1,o)::Q))) else pure (ForInStep.yield Q):da _)=
   pure (G.foldl (λQ l=>if l.2==.free then (l.1,(U.cells.lookup l.1).getD 0)::Q else Q) Q)
 |[],Q,_=>rfl
 |l::p,Q,e=>by
  rw[uP,og];by_cases a:l.2=.free
  ·let⟨@o,c⟩:=e l jK a;have d:(l.2==ct.free)=V:=by simp[a]
   rw[aK d,aK d];have f:pN U l.1=pure o:=by unfold pN;rw[c]
   rw[f,c];show (forIn p ((l.1,o)::Q) _:da _)=_;exact ts p _ λB b=>e B (jc _ b)
  ·have d:¬ (l.2==ct.free)=V:=by simp[a]
   rw[aM d,aM d];show (forIn p Q _:da _)=_;exact ts p _ λB b=>e B (jc _ b)
def F1(e:∀l∈LD.names,l.2=.free->∃o,U.cells.lookup l.1=Z o):qP LD U=pure (i5 U LD.names):=by
 have:=ts (U:=U) LD.names [] e;unfold qP;dsimp only;have d:(forIn LD.names ([]:List (az×af))<|λ(f:az×ct) (p:List (az×af))=>(if f.2==.free then (do let o <-pN U f.1;pure (ForInStep.yield ((f.1,o)::p))) else pure (ForInStep.yield p):da (ForInStep<|List<|az×af)))=pure (i5 U LD.names):=this;rw[d];rfl
theorem w0{U:dy}:∀(G:List (az×ct)) (Q:List (az×af)) (f:az) (o:af),
  (G.foldl (λQ l=>if l.2==.free then (l.1,(U.cells.lookup l.1).getD 0)::Q else Q) Q).lookup f=Z o->
  (o=(U.cells.lookup f).getD 0/\(f,ct.free)∈G)\/Q.lookup f=Z o
 |[],Q,f,o,e=>.inr e
 |l::p,Q,f,o,e=>by
  rw[og]at e;rcases w0 p _ f o e with ⟨d,H⟩|e
  ·exact .inl ⟨d,jc _ H⟩
  ·by_cases a:l.2=.free
   ·rw[aK (by simp[a])]at e;rw[eA]at e;by_cases b:f=l.1
    ·subst b;rw[gp]at e;refine .inl ⟨(Option.some.inj e).symm,?_⟩;rw[<-a];exact jK
    ·have:(f==l.1)=ar:=by simpa using b
     rw[this]at e;exact .inr e
   ·rw[aM (by simp[a])]at e;exact .inr e
theorem uQ{U:dy}:∀(G:List (az×ct)) (Q:List (az×af)) (f:az),(f,ct.free)∈G\/(∃o,Q.lookup f=Z o)->
  ∃o,(G.foldl (λQ l=>if l.2==.free then (l.1,(U.cells.lookup l.1).getD 0)::Q else Q) Q).lookup f=Z o
 |[],Q,f,e=>by
  rcases e with e|e
  ·cases e
  ·exact e
 |l::p,Q,f,e=>by
  rw[og];apply uQ p _ f;rcases e with e|⟨o,e⟩
  ·rcases cu.mp e with d|e
   ·right;subst d;rw[aK (by rfl),eA,gp];exact⟨_,rfl⟩
   ·exact .inl e
  ·right;by_cases a:(l.2==ct.free)=V
   ·rw[aK a,eA];cases f==l.1
    ·exact⟨o,e⟩
    ·exact⟨_,rfl⟩
   ·rw[aM a];exact⟨o,e⟩
structure ig where
 aH:af
 s:ag
 H:aq
 bY:List af
 cs:List (az×af)
variable{Mq:ig->bT}{A:ig->dq}{F:ig->fj}
def aE.eI(b:aE)(c:List az)(LD:dU)(a:ig): aE :=(
  {prog:=b.prog,w:=b.w,K:=b.K,aI:=b.aI,base:=b.base,A:=b.A,N:=c,dF:=a.s,iK:=a.H,env:=pb LD (a.cs ++ i5 b.env LD.names) a.aH b.env,outer:=b.stack,stack:=b.stack,
    ex:=a.bY,fn:=λf => LD.names.lookup f==Z .cell,calm:=b.calm,cV:=[],bX:=λ_ W => False})
structure rB(MI:Nat)(G:List (az×ct))(Q:List (az×af))(e:a0):Prop where
 h5:∀f o,Q.lookup f=Z o->MI<=o/\e.IsCell o Y/\(f,ct.cell)∈G
 inj:∀f l o,Q.lookup f=Z o->Q.lookup l=Z o->f=l
def Jk{aB:ft}{Ls:aa->ag->Prop}{v:af}{q:List (az×af)}{Mj:az}{x:dy->ag->Prop}(e:∀Lq Q,(∀c m,j.heap.get? c=Z m->Lq.get? c=Z m)->Lq.Ns j.heap.objs.size (λ_=>Y)->rB (j.heap.objs.size+1) LD.names Q Lq->(∀f,(f,ct.cell)∈LD.names->∃o,Q.lookup f=Z o)->
   x (newEnv LD j.heap.objs.size v (Q++q) Mj Y .none (Z U) hk) {j with heap:=Lq}):
  wpAny aB O (Aq LD v q [] Mj Y .none<|Z U) x Ls j:=by
 unfold Aq;refine aD (wpAny_alloc ?_);have MI:(j.heap.push {cls:=.type (if (Z U).isSome=V then "dict" else "frame"),data:=.dict #[]}).Ns j.heap.objs.size λ_=>Y:=⟨_,#[],_,df _ rfl,rfl,by intro a Lv;simp at Lv,λ_=>rfl⟩;refine aD (nc _ (λcU cells S=>∃done Q Lq,done++cU=LD.names/\cells=Q++q/\S={j with heap:=Lq}/\j.heap.objs.size+1<=Lq.objs.size/\(∀c m,j.heap.get? c=Z m->Lq.get? c=Z m)/\Lq.Ns j.heap.objs.size (λ_=>Y)/\rB (j.heap.objs.size+1) LD.names Q Lq/\∀f,(f,ct.cell)∈done->∃o,Q.lookup f=Z o) _ ?_ ?_ _ _ ⟨[],[],_,rfl,rfl,rfl,by rw[jn];exact bq _,λc m d=>b4 _ d,MI,⟨(λf o d=>by simp at d),(λf l o d=>by simp at d)⟩,(λf b=>nomatch b)⟩)
 ·rintro⟨k,i⟩ cU cells S ⟨done,Q,Lq,p,rfl,rfl,hp,ext,LN,h,au⟩;by_cases t:i=.cell
  ·subst t;show wpAny aB O (alloc {cls:=.type "cell",data:=.cell Y} >>= λg=>pure<|ForInStep.yield ((k,g)::(Q++q))) _ _ _;refine aD (wpAny_alloc<|bk ?_);have w:∀c m,Lq.get? c=Z m->(Lq.push {cls:=.type "cell",data:=.cell Y}).get? c=Z m:=λc m d=>b4 _ d;have y:∀o,(∃r,Lq.IsCell o r)->o≠Lq.objs.size:=λo ⟨r,m,d,_⟩=>c8 (bQ d);refine⟨done++[(k,.cell)],(k,Lq.objs.size)::Q,_,by rw[bb];exact p,rfl,rfl,by rw[jn];exact sx hp,λc m d=>w c m<|ext c m d,LN.push _,⟨λf o d=>?_,λf l o Mb n=>?_⟩,λf b=>?_⟩
   ·rw[eA]at d;by_cases b:f=k
    ·subst b;rw[gp]at d;cases d;exact⟨hp,⟨_,df _ rfl,rfl⟩,by rw[<-p];exact dr _ (.head _)⟩
    ·rw[show (f==k)=ar by simpa using b]at d;let⟨z,⟨m,A,C⟩,D⟩:=h.h5 f o d;exact⟨z,⟨m,w o m A,C⟩,D⟩
   ·rw[eA]at Mb n;by_cases b:f=k
    ·by_cases s:l=k
     ·rw[b,s]
     ·rw[b,gp]at Mb;rw[show (l==k)=ar by simpa using s]at n;cases Mb;exact absurd rfl (y _ ⟨_,(h.h5 l _ n).2.1⟩)
    ·rw[show (f==k)=ar by simpa using b]at Mb;by_cases s:l=k
     ·rw[s,gp]at n;cases n;exact absurd rfl (y _ ⟨_,(h.h5 f _ Mb).2.1⟩)
     ·rw[show (l==k)=ar by simpa using s]at n;exact h.inj f l o Mb n
   ·rw[eA];by_cases u:f=k
    ·rw[u,gp];exact⟨_,rfl⟩
    ·rw[show (f==k)=ar by simpa using u];refine au f ((er.mp b).resolve_right λB=>?_);exact u (Prod.mk.inj<|dk.mp B).1
  ·have d:(i==ct.cell)=ar:=by simpa using t
   show wpAny aB O (if (i==ct.cell)=V then _ else pure (ForInStep.yield<|Q++q)) _ _ _;rw[aM (by rw[d];exact dg)];refine bk ⟨done++[(k,i)],Q,Lq,by rw[bb];exact p,rfl,rfl,hp,ext,LN,h,λf b=>au f<|(er.mp b).resolve_right λB=>?_⟩;exact t (Prod.mk.inj<|dk.mp B).2.symm
 ·rintro cells S ⟨done,Q,Lq,p,rfl,rfl,hp,ext,LN,h,au⟩;rw[bN]at p;subst p;exact aD (bk<|bk<|e Lq Q ext LN h au)
theorem mem_of_lookup:∀{L:List (az×ct)}{f:az}{n:ct},L.lookup f=Z n->(f,n)∈L
 |[],_,_,e=>by simp at e
 | (s,b)::p,f,n,e=>by
  rw[eA]at e;by_cases a:f=s
  ·subst a;rw[gp]at e;cases e;exact jK
  ·rw[show (f==s)=ar by simpa using a]at e;exact jc _ (mem_of_lookup e)
theorem th{U:dy}:∀{G:List (az×ct)}{f:az}{n:ct},
  (G.map λ(s,n)=>if (n==ct.free&&U.scope.kind==.function&&U.kindOf s==Z .cell) then (s,ct.cell) else (s,n)).lookup f=Z n->
  (n=.cell\/n=.free)->(f,ct.free)∈G\/G.lookup f=Z .cell
 |[],f,n,e,_=>by simp at e
 | (s,c)::p,f,n,e,a=>by
  rw[c3]at e;dsimp only at e;by_cases h:f=s
  ·subst h;by_cases b:(c==ct.free&&U.scope.kind==.function&&U.kindOf f==Z .cell)=V
   ·have:c=ct.free:=by
     simp only[cE]at b;exact by simpa using b.1.1
    subst this;exact .inl jK
   ·simp only[b]at e;have d:c=n:=by simpa [eA] using e
    subst d;rcases a with a|a
    ·exact .inr (by rw[eA,gp,a])
    ·rw[a];exact .inl jK
  ·have g:(f==s)=ar:=by simpa using h
   have Lq:(p.map λ(s,n)=>if (n==ct.free&&U.scope.kind==.function&&U.kindOf s==Z .cell) then (s,ct.cell) else (s,n)).lookup f=Z n:=by
    by_cases b:(c==ct.free&&U.scope.kind==.function&&U.kindOf s==Z .cell)=V
    ·rw[aK b,eA,g]at e;exact e
    ·rw[aM b,eA,g]at e;exact e
   rcases th Lq a with B|B
   ·exact .inl (jc _ B)
   ·exact .inr (by rw[eA,g];exact B)
section
variable{b:aE}
structure gL(b:aE)(LD:dU)(own:List az)(LV:List Nat):Prop where
 kind:LD.kind=.function
 qW:∀l∈LD.names,l.2=.cell->LD.names.lookup l.1=Z .cell
 free:∀l∈LD.names,l.2=.free->b.env.scope.names.lookup l.1=Z .cell
 loc:∀l∈LD.names,l.2=.local->LD.names.lookup l.1=Z .local
 HJ:∀a∈LV,∃f,b.N[a]?=Z f/\(f,ct.free)∈LD.names/\LD.names.lookup f=Z .free
def eP(b:aE)(own:List az)(LV:List Nat):List az:=(own++LV.map λa=>b.N.getD a "")
def hS(own:List az)(LV:List Nat)(w:aW):aW:=(own.map (λ_=>Y)++LV.map λa=>w.getD a Y)
def gL.cells(LX:gL b LD own LV)(ok:b.Ok):∀l∈LD.names,l.2=.free->∃o,b.env.cells.lookup l.1=Z o:=
 λl a c=>ok.has l.1 (.inl<|LX.free l a c)
def gL.sub(LX:gL b LD own LV)(ok:b.Ok){f:az}{o:af}(e:(i5 b.env LD.names).lookup f=Z o):b.env.cells.lookup f=Z o/\(f,ct.free)∈LD.names:=by
 rcases w0 LD.names [] f o e with ⟨d,H⟩|e
 ·let⟨@c,a⟩:=LX.cells ok (f,.free) H rfl;rw[show (List.lookup f b.env.cells)=Z c from a]at d;refine⟨?_,H⟩;rw[d];exact a
 ·simp at e
def gL.two(LX:gL b LD own LV)(ok:b.Ok){Q:List (az×af)}{f:az}{o:af}(e:(Q++i5 b.env LD.names).lookup f=Z o):Q.lookup f=Z o\/(Q.lookup f=Y/\b.env.cells.lookup f=Z o):=by
 rw[sR]at e;cases q:Q.lookup f with
 |some v=>rw[q]at e;exact .inl e
 |none=>rw[q]at e;exact .inr ⟨rfl,(LX.sub ok e).1⟩
def aA.sm(t:aA b M w h j){f:az}{o:af}(e:b.env.cells.lookup f=Z o):o<j.heap.objs.size:=by
 let⟨r,m,a,W⟩:=t.cell f o e;exact bQ a
theorem AQ(LX:gL b LD own LV)(t:aA b M w h j)(x:j.heap.objs.size<=aH)(s:∀c∈bY,h9 b M h c)(A:∀c∈bY,c<j.heap.objs.size)(k:rB MI LD.names Q y)(u:j.heap.objs.size<=MI)(au:∀f,(f,ct.cell)∈LD.names->∃o,Q.lookup f=Z o):(b.eI (eP b own LV) LD ⟨aH,j,h,bY,Q⟩).Ok where
 mod:=t.ok.mod
 kind:=LX.kind
 glob:=t.ok.glob
 blt:=t.ok.blt
 above:=x
 inj:=λf l o y z=>by
  rcases LX.two t.ok y with n|⟨_,n⟩<;>rcases LX.two t.ok z with p|⟨_,p⟩
  ·exact k.inj f l o n p
  ·exact absurd (dn (t.sm p)<|dv u (k.h5 f o n).1) (fI _)
  ·exact absurd (dn (t.sm n)<|dv u (k.h5 l o p).1) (fI _)
  ·exact t.ok.inj f l o n p
 has:=λf g=>by
  have H:(f,ct.free)∈LD.names\/LD.names.lookup f=Z .cell:=by
   rcases g with g|g
   ·exact th g (.inl rfl)
   ·exact th g (.inr rfl)
  show ∃o,(Q++i5 b.env LD.names).lookup f=Z o;rw[sR];cases q:Q.lookup f with
  |some v=>exact⟨v,rfl⟩
  |none=>
   rcases H with H|H
   ·exact uQ LD.names [] f (.inl H)
   ·let⟨o,r⟩:=au f (mem_of_lookup H);rw[q]at r;cases r
 lg:=λf o e C=>by
  have g:LD.names.lookup f=Z .cell:=eq_of_beq e;let⟨D,r⟩:=au f (mem_of_lookup g);rcases LX.two t.ok C with B|⟨B,_⟩
  ·exact dv u (k.h5 f o B).1
  ·rw[B]at r;cases r
 hd:=t.ok.hd
 frames:=t.ok.frames
 oQ:=.inl rfl
 sQ:=λc a=>⟨c8<|dn (A c a) x,λf o e=>by
  rcases LX.two t.ok e with B|⟨_,B⟩
  ·exact jR (dn (A c a)<|dv u (k.h5 f o B).1)
  ·exact (s c a).2.2.2.2.1 f o B⟩
 bs:=t.bs
 iO:=dv t.ok.iO t.hp
 k_:=λc m d a=>by
  rcases (s c a).2.2.2.1 with B|B
  ·exact t.ok.k_ c m d B
  ·exact absurd (dn (bQ d)<|dv t.ok.iO B) (fI _)
 mm:=λc a B=>by
  rcases cu.mp (t.tU c B) with d|d
  ·exact (s c a).2.1 d
  ·exact (s c a).2.2.1 d
 gy:=t.stack
 ju:=⟨t.uN,t.cy⟩
theorem Fb{Md:Nat}{H:az->Option aa}(LX:gL b LD own LV)(t:aA b M w h j)(J:j.heap.objs.size<=aH)(an:∀c∈bY,h9 b M h c)(ap:∀c∈bY,c<j.heap.objs.size)(A:∀c m,j.heap.get? c=Z m->y.get? c=Z m)(as:y.Ns aH H)(C:rB MI LD.names Q y)(E:j.heap.objs.size<=MI)(au:∀f,(f,ct.cell)∈LD.names->∃o,Q.lookup f=Z o):
  aA (b.eI (eP b own LV) LD ⟨aH,j,h,bY,Q⟩) [] (hS own LV w) h {j with heap:=y,toks:=Md} where
 ok:=AQ LX t J an ap C E au
 os:=rfl
 bare:=t.bare
 base:=dW.kept A
 loc:=by
  let⟨@bs,E,a1⟩:=t.loc;refine⟨H,as,λi f r k d x=>?_⟩;have k:(own++LV.map λa=>b.N.getD a "")[i]?=Z f:=k;have d:(own.map (λ_=>(Y:Option ah))++LV.map λa=>w.getD a Y)[i]?=Z (Z r):=d;by_cases a2:i<own.length
  ·rw[lF (by rw[bF];exact a2),eJ]at d;cases q:own[i]? with
   |none=>rw[q]at d;cases d
   |some B=>rw[q]at d;cases d
  ·rw[lz ⋯,eJ]at k;rw[lz (by rw[bF];lia),eJ,bF]at d;cases q:LV[i-own.length]? with
   |none=>rw[q]at k;cases k
   |some a=>
    rw[q]at k d;have k:b.N.getD a "" = f:=Option.some.inj k;have d:w.getD a Y=Z r:=Option.some.inj d;let⟨@g,L,O,P⟩:=LX.HJ a (nt q);have Mb:g=f:=by
     rw[<-k,b6,L];rfl
    subst Mb;have au:w[a]?=Z (Z r):=by
     rw[b6]at d;cases R:w[a]? with
     |none=>rw[R]at d;cases d
     |some B=>rw[R]at d;rw[show B=Z r from d]
    have S:=LX.free (g,.free) O rfl;let⟨@D,p,lk⟩:=a1 a g r L au (.inr<|.inl S);refine⟨D,p,.inr ⟨?_,?_⟩⟩
    ·rcases x with x|x|x
     ·
      exfalso;have:∀{G:List (az×ct)},G.lookup g=Z .free->(G.map λ(s,n)=>if (n==ct.free&&b.env.scope.kind==.function&&b.env.kindOf s==Z .cell) then (s,ct.cell) else (s,n)).lookup g≠Z .local:=by
       intro G;induction G with
       |nil=>intro e;simp at e
       |cons l p T=>
        let⟨s,n⟩:=l;intro e;rw[c3];dsimp only;by_cases al:g=s
        ·subst al;have MK:n=.free:=by simpa [eA] using e
         subst MK;by_cases z:(ct.free==ct.free&&b.env.scope.kind==ScopeKind.function&&b.env.kindOf g==Z ct.cell)=V
         ·rw[aK z];simp[eA]
         ·rw[aM z];simp[eA]
        ·have F:(g==s)=ar:=by simpa using al
         rw[eA,F]at e;by_cases z:(n==ct.free&&b.env.scope.kind==ScopeKind.function&&b.env.kindOf s==Z ct.cell)=V
         ·rw[aK z,eA,F];exact T e
         ·rw[aM z,eA,F];exact T e
      exact this P x
     ·exact .inl x
     ·exact .inr x
    ·rcases lk with ⟨bd,_⟩|⟨_,o,be,bi⟩
     ·exact absurd (bd.symm.trans S) ↥0
     ·let⟨@bv,am⟩:=uQ (U:=b.env) LD.names [] g (.inl O);have:=(LX.sub t.ok am).1;rw[be]at this;cases this;let⟨@m,I,hd⟩:=bi;have bm:Q.lookup g=Y:=by
       cases q:Q.lookup g with
       |none=>rfl
       |some v=>
        have:=LX.qW _ (C.h5 g v q).2.2 rfl;rw[P]at this;cases this
      exact⟨o,by show (Q++i5 b.env LD.names).lookup g=Z o;rw[sR,bm];exact am,m,A _ _ I,hd⟩
 cell:=λf o e=>by
  rcases LX.two t.ok e with B|⟨_,B⟩
  ·exact⟨_,(C.h5 f o B).2.1⟩
  ·let⟨r,@m,I,hd⟩:=t.cell f o B;exact⟨r,m,A _ _ I,hd⟩
 free:=t.aT.fresh J
 gk:=λf o e=>by
  rcases LX.two t.ok e with B|⟨_,B⟩
  ·exact t.aT.fresh (dv E (C.h5 f o B).1)
  ·exact t.gk f o B
 pin:=λu bn=>nomatch bn
 aT:=t.aT.kept A
 len:=by simp[hS,eP,aE.eI]
def yF(b:aE)(MD:List a7)(E:dq)(M:List (af×aQ)):Prop:=(
 ∀(j:ag) (w:aW) (h:aq) (x:Bool->aq->Prop),aA b M w h j->E w h x->
  wpAny (aP b.prog b.w) b.A (forIn MD V λo p=>if p=V then do let ok <-l5 o b.env (bU o b.env);pure (ForInStep.yield ok) else pure (ForInStep.yield p)) (o3 b M w x) b.bX j)
def nG(b:aE)(MD:List a7)(E:dq):Prop:=(∀M,yF b MD E M)
def IC:dq:=(λ_ h x=>x V h)
def E4:nG b [] IC:=λM j w h x t e=>wpAny_tests_nil ⟨h,t,e⟩
def IA{o:a7}{E:dq}(e:f9 b o E):nG b [o] E:=λM j w h x t a=>wpAny_tests_one (e M j w h x t a)
def JY(own:List az)(LV:List Nat)(F:fj)(A:dq)(Mq:bT)(w:aW)(LR:List ah->aq->Prop)(LH:List ah)(f:ah)(P:aq):Prop:=(
 F f (hS own LV w) P λa LK=>(∀(i:Nat) (r:ah),(hS own LV w)[i]?=Z (Z r)->a[i]?=Z (Z r))/\A a LK λc b=>if c=V then Mq a b λr d=>LH.length<sizeLine/\LR (LH++[r]) d else LR LH b)
def Cs(Ml:hz)(own:List az)(LV:List Nat)(F:fj)(A:dq)(Mq:bT)(w:aW)(Lw:aq)(x:cp):Prop:=(
 ∃W:Nat->Nat->List ah->aq->Prop,(∃H,W 0 H [] Lw)/\∀a H LH h,W a H LH h->(Ml.stop a h/\∀k,h k=Y->x (.ref k) (upd h k<|.lst LH))\/
  (Ml.go a h/\∃LR:List ah->aq->Prop,(∀b P,LR b P->∃c,c<H/\W (a+1) c b P)/\∀f P,Ml.m4 a h f P->JY own LV F A Mq w LR LH f P))
def pg(own:List az)(LV:List Nat)(MG:cw)(F:ig->fj)(A:ig->dq)(Mq:ig->bT):bT:=(λw h x=>MG w h λMl Lw=>∀a:ig,Cs Ml own LV (F a) (A a) (Mq a) w Lw x)
def uH(t:dU)(LR:List az)(LD:dU)(LV:List Nat):Bool:=(
 LD.kind==.function&&LD.names.all (λl=>l.2 != .cell || LD.names.lookup l.1==Z .cell)&&LD.names.all (λl=>l.2 != .free || t.names.lookup l.1==Z .cell)&&LD.names.all (λl=>l.2 != .local || LD.names.lookup l.1==Z .local) &&
  LV.all (λa=>match LR[a]? with|some f=>LD.names.lookup f==Z .free|none=>ar))
def qM{b:aE}(t:dU)(LR:List az)(e:uH t LR LD LV=V)(d:b.env.scope=t:=by rfl)(i:b.N=LR:=by rfl):gL b LD own LV:=by
 unfold uH at e;simp only[cE,jl,bne_iff_ne,ne_eq,sh,beq_iff_eq]at e;let@⟨@⟨@⟨@⟨y,z⟩,j⟩,k⟩,m⟩:=e;refine⟨y,λl c g=>(z l c).resolve_left λB=>B g,λl c g=>?_,λl c g=>?_,λa Lv=>?_⟩
 ·rw[d];exact (j l c).resolve_left λB=>B g
 ·exact (k l c).resolve_left λB=>B g
 ·have:=m a Lv;rw[i];cases q:LR[a]? with
  |none=>rw[q]at this;cases this
  |some f=>
   rw[q]at this;have h:LD.names.lookup f=Z .free:=by simpa using this
   exact⟨f,rfl,mem_of_lookup h,h⟩
def yt{Mh:Pos}{use:Option (aa->da Unit)}{ge:aa->ag->Prop}{li:cp}(po:b.calm=V)(LX:gL b LD own LV)(Lv:jq b LS Mm MG)(pp:∀be,hQ (b.eI (eP b own LV) LD be) LS<|F be)(pr:∀be,nG (b.eI (eP b own LV) LD be) MD<|A be)(pt:∀be,bw (b.eI (eP b own LV) LD be) ME<|Mq be)(au:∀f,jX Mm b.env f=pure f)(t:aA b M w h j)(e:pg own LV MG F A Mq w h li)(pu:∀(k aH:af) (gl:aq) (R:ag) (H:az->Option aa),aA b M w gl R->R.heap.Ns aH H->gl aH=Y->b.env.locals≠aH->(∀f o,b.env.cells.lookup f=Z o->o≠aH)->b.dF.heap.objs.size<=aH->(∀u∈b.cV++M,u.1≠aH)->li (.ref k) gl->compPost (aP b.prog b.w) b.A b.bX use ge (.ref k) aH (.ok .next) R):
  wpAny (aP b.prog b.w) b.A (uU (.ListComp ME [⟨LS,Mm,MD,0⟩] LD LC) LD b.env Mh (nB []) ar (bU Mm b.env) use) ge b.bX j:=by
 refine wpAny_comprehension_free (use:=use) rfl au (F1<|LX.cells t.ok) LX.kind LX.loc (bK (Lv M j w h _ t e) λr wn y=>bK y λwr L z=>?_);let⟨ae,bY,i,Ml,@LK,d,ap,LA,gt,bi,py⟩:=z;subst d;have co:∀c∈bY,c<L.heap.objs.size:=λc x=>by
  let⟨@m,d,U⟩:=LA.obj _ _ gt c x;exact bQ d
 refine jB (Jk λg1 Q ext dL ca lm=>?_);dsimp only at dL ext ca ⊢;generalize g2:L.heap.push {cls:=.type "list",dict:=Y,data:=.seq ([]:List aa).toArray}=eq at dL ext ca ⊢;have ev:eq.objs.size=L.heap.objs.size+1:=by rw[<-g2,jn]
 have cd:L.heap.objs.size≠eq.objs.size:=by rw[ev];exact c8 (p1 _)
 have fd:L.heap.objs.size<=eq.objs.size:=by rw[ev];exact Nat.le_succ _
 have g3:∀c m,L.heap.get? c=Z m->g1.get? c=Z m:=λc m d=>ext c m (g2 ▸ b4 _ d);have ln:g1.get? L.heap.objs.size=Z {cls:=.type "list",data:=.seq ([]:List aa).toArray 0}:=ext _ _ (g2 ▸ df _ rfl);generalize ws:eq.objs.size=aH at dL ca ev cd fd ⊢;have fn:L.heap.objs.size<=aH+1:=sx fd;generalize a1:L.heap.objs.size=k at ln ev cd fd ⊢;have ce:L.heap.objs.size<=aH:=by rw[a1];exact fd
 let⟨@W,⟨@rc,re⟩,turn⟩:=py ⟨aH,L,LK,bY,Q⟩;have ls:=λ(Md:Nat)=>Fb (Md:=Md) LX ap ce bi co g3 dL ca fn lm;have lv:=pp ⟨aH,L,LK,bY,Q⟩;have lw:=pr ⟨aH,L,LK,bY,Q⟩;have mb:=pt ⟨aH,L,LK,bY,Q⟩;have hd:=AQ LX ap ce bi co ca fn lm;generalize T:b.eI (eP b own LV) LD ⟨aH,L,LK,bY,Q⟩=J at ls lv lw mb hd;have ch:J.prog=b.prog:=by rw[<-T];rfl
 have ci:J.w=b.w:=by rw[<-T];rfl
 have mo:J.K=b.K:=by rw[<-T];rfl
 have cr:J.A=b.A:=by rw[<-T];rfl
 have mp:J.calm=V:=by rw[<-T];exact po
 have bn:J.env.locals=aH:=by rw[<-T];rfl
 have he:J.ex=bY:=by rw[<-T];rfl
 have fr:J.dF=L:=by rw[<-T];rfl
 have rs:J.iK=LK:=by rw[<-T];rfl
 have sc:J.aj=gB b.stack:=by rw[<-T];rfl
 have f0:J.cV=[]:=by rw[<-T];rfl
 have hf:J.bX=λ_ U=>False:=by rw[<-T];rfl
 have ms:J.env=pb LD (Q++i5 b.env LD.names) aH b.env:=by rw[<-T];rfl
 have m0:∀f o,J.env.cells.lookup f=Z o->aH+1<=o\/b.env.cells.lookup f=Z o:=λf o e=>by
  rw[ms]at e;rcases LX.two ap.ok e with B|⟨_,B⟩
  ·exact .inl (ca.h5 f o B).1
  ·exact .inr B
 have sn:∀f o,J.env.cells.lookup f=Z o->o≠k:=λf o e B=>by
  rcases m0 f o e with l|l
  ·rw[B,<-a1]at l;exact absurd (dv (Bk ce) l) (Nat.not_succ_le_self _)
  ·have:=ap.sm l;rw[B,<-a1]at this;exact fI _ this
 have hm:∀c∈bY,c≠k:=λc x B=>by
  have:=co c x;rw[B,<-a1]at this;exact fI _ this
 have sp:k∉J.aj:=λB=>by
  let@⟨_,⟨@m,cl,_⟩⟩:=hd.gy.mem B;rw[fr]at cl;have:=bQ cl;rw[a1]at this;exact fI _ this
 have hw:∀(P:aq) (m:aQ),(∀c∈bY,P c=Y)->∀c∈bY,h9 J [(k,m)] P c:=λP m h0 c x=>by
  refine⟨h0 c x,?_,?_,.inl (by rw[he];exact x),λf o e=>(m0 f o e).elim (λl=>jR (dn (co c x) (dv fn (by rw[a1]at fn;exact l)))) λl=>(bi c x).2.2.2.2.1 f o l,λu N=>?_⟩
  ·rw[bn];exact c8 (dn (co c x) ce)
  ·exact hd.mm c (by rw[he];exact x)
  ·rw[f0]at N;have:u=(k,m):=by simpa using N
   rw[this];exact d3 (hm c x)
 have na:∀ii:ag,ii={L with heap:=g1,toks:=L.toks+([]:List (az×aa)).length}->
   codeAny (aP b.prog b.w) b.A (.compLoop (.ListComp ME [⟨LS,Mm,MD,0⟩] LD LC) 0 (.ref ae) (.ref k) J.env)
    (compPost (aP b.prog b.w) b.A b.bX use ge (.ref k) aH) ii:=by
  rintro ii rfl;refine HZ (λs S=>∃(a:Nat) (LH:List ah) (P:aq) (Lz:List aa) (n:Nat),aA J [(k,{cls:=.type "list",data:=.seq Lz.toArray n})] (hS own LV w) P S/\b1 LH Lz/\LH.length<=sizeLine/\i a S.heap/\
   (∀c∈bY,P c=Y)/\W a s LH P) ?_ rc ?_
  ·rintro s nb ⟨a,LH,al,Lz,n,im,f1,ne,nl,nm,ss⟩;rcases turn a s LH al ss with ⟨stop,sw⟩|⟨go,LR,nn,step⟩
   ·have:=LA.done J ch ci mo mp a _ nb _ al (λ_ U=>False) im (hw al _ nm) nl stop;rw[cr]at this;refine bK this λp R am=>?_;let@⟨LG,a2⟩:=am;subst LG;let⟨@H,h0,U⟩:=a2.loc;have sB:R.heap.Ns aH H:=by rw[<-bn];exact h0
    have N:=a2.pin (k,{cls:=.type "list",data:=.seq Lz.toArray n}) (by rw[f0];simp);have bs:al k=Y:=N.2.1;have eu:∀c,c≠aH->R.heap.get? c=R.heap.get? c:=λc x=>rfl;have bv:∀c m,L.heap.get? c=Z m->c≠aH:=λc m d=>c8 (dn (bQ d) ce);have sK:∀c m,L.heap.get? c=Z m->c≠k:=λc m d=>by rw[<-a1];exact c8 (bQ d)
    have as:dW (gB b.stack) bY LK al L.heap R.heap:=by
     have:=a2.base;rw[sc,he,rs,fr]at this;exact this
    have D:dW (gB b.stack) bY LK (upd al k<|.lst LH) L.heap R.heap:=
     ⟨λc m d s x bd=>(eu c<|bv c m d).trans<|as.keep c m d s x bd,
      λc m d s x bd=>by
      let⟨@bx,q⟩:=as.slot c m d s x bd;exact⟨bx,(eu c<|bv c m d).trans q⟩,
      λc m d s bd=>by rw[bB (sK c m d)];exact as.free c m d s bd,
      λc m C d E bd=>(eu c<|bv c m d).trans<|as.h_ c m C d E bd,
      λc m d bd=>by
      let⟨@LZ,q⟩:=as.there c m d bd;exact⟨LZ,(eu c<|bv c m d).trans q⟩,
      λc C d=>by rw[bB (eM (as.hI c C d) bs)];exact as.hI c C d,
      λc m C d=>by rw[bB (eM (as.ia c m C d) bs)];exact as.ia c m C d,
      λc d=>by
      let⟨q,F⟩:=as.e8 c d;exact⟨by rw[bB (eM q bs)];exact q,λv=>(F v).trans (.of λm B=>(eu c (λB=>by have:=a2.free;rw[bn,<-B,q]at this;cases this)).trans B)⟩⟩
    have no:∀c m,al c=Z m->c≠aH:=λc m d B=>by
     have:=a2.free;rw[bn,<-B,d]at this;cases this
    have s0:di b.prog b.w (upd al k<|.lst LH) R.heap:=λg m d=>by
     by_cases np:g=k
     ·subst np;rw[de]at d;cases d;exact⟨ne,Lz,n,f1,(eu _ cd).trans N.1⟩
     ·rw[bB np]at d;have:=a2.aT g m d;rw[ch,ci]at this;refine this.fC (λc D x q=>(eu c ?_).trans q) (λc q=>by rw[bB (eM q bs)];exact q) (λc C q=>by rw[bB (eM q bs)];exact q) λc m C q=>by rw[bB (eM q bs)];exact q
      rcases x with B|B
      ·rw[B];exact no g m d
      ·exact no c _ B
    have s1:aA b M w (upd al k<|.lst LH) R:=ap.Kh (S:=R) (Mt:=bY) (by have:=a2.os;rw[fr]at this;exact this) D s0 a2.bare λc x=>⟨(bi c x).2.2.2.1,(bi c x).2.1,(bi c x).2.2.2.2.1,(bi c x).2.2.2.2.2⟩;have s2:b.env.locals≠aH:=by
     let⟨@wv,s3,U⟩:=ap.loc;let⟨m,U,@U,cl,U⟩:=s3;exact bv _ _ cl
    have s4:∀f o,b.env.cells.lookup f=Z o->o≠aH:=λf o e=>by
     let⟨r,@m,cl,U⟩:=ap.cell f o e;exact bv _ _ cl
    refine pu k aH _ R H s1 sB ?_ s2 s4 ?_ (λu N=>bv _ _ (ap.pin u N).1) (sw k bs)
    ·rw[bB (d3 cd)];have:=a2.free
     rwa [bn]at this
    ·exact dv ap.hp ce
   ·have:=LA.item J ch ci mo mp a _ nb _ al (λ_ U=>False) im (hw al _ nm) nl go;rw[cr]at this;refine bK this λp R am=>?_;let⟨@D,LG,s5⟩:=am;subst LG;refine bK s5 λ_ cs am=>?_;let⟨f,@io,to,tt,ty,it,tz⟩:=am;have t0:=to.pinned (hw io _ tz) (LA.obj _ _ it);have ns:=lv _ cs _ io f D _ t0 tt (step f io ty);rw[ch,ci,cr,hf]at ns;refine bK ns λ_ t1 am=>?_;let⟨db,@t3,ul,un,up⟩:=am;have nw:=lw _ t1 db t3 _ ul up;rw[ch,ci,cr,hf]at nw;refine bK nw λc us am=>?_;let⟨@ol,f2,f4⟩:=am;have on:∀{op:aW}{P:aq}{S:ag},aA J ([(k,{cls:=.type "list",data:=.seq Lz.toArray n})]++jY bY cs.heap) op P S->(∀c∈bY,P c=Y)/\i (a+1) S.heap:=λ{op P S} ds=>by
     refine⟨λc x=>?_,LA.keep _ _ _ it λc x m d=>(ds.pin (c,m)<|dr _<|dr _<|q4 x d).1⟩;let⟨@m,d,U⟩:=LA.obj _ _ it c x;exact (ds.pin (c,m)<|dr _<|dr _<|q4 x d).2.1
    have o0:∀{jp:List (af×aQ)}{P:aq}{S:ag},aA J jp db P S->aA J jp (hS own LV w) P S:=λ{jp P S} ds=>
     ds.weak (by rw[ds.len,im.len]) un;cases c with
    |false=>
     rw[aM dg]at f4;let⟨@kt,kw,ut⟩:=nn _ _ f4;rw[aM dg];let@⟨L9,L_⟩:=on f2;exact⟨kt,kw,a+1,LH,ol,Lz,n,o0 (f2.ly λu N=>f2.pin u (by
      rw[f0];simp at N ⊢;exact .inl N)),f1,ne,L_,L9,ut⟩
    |true=>
     rw[aK rfl]at f4 ⊢;have pc:=mb _ us db ol _ f2 f4;rw[ch,ci,cr,hf]at pc;refine bK pc λan bm am=>?_;let⟨u8,@lc,f8,v0,ww,v1⟩:=am;let⟨@kt,kw,v2⟩:=nn _ _ v1;have N:=f8.pin (k,{cls:=.type "list",data:=.seq Lz.toArray n}) (dr _ (fM _ ↥0));have lf:=N.1;refine call_meets z1 ⟨_,lf,rfl⟩ ya (BM _ _) (yX k Lz.toArray n an (by rw[cC,<-f1.length];lia)) ⟨lf,?_⟩;have q:=vM lf (λg=>g.push an);let@⟨L9,L_⟩:=on f8;have v4:aA J (jY bY cs.heap) db lc bm:=f8.ly λu N=>f8.pin u (dr _<|dr _ N);have pi:∀c m,c≠k->bm.heap.get? c=Z m->(bm.heap.update k<|aQ.mapSeq λg=>g.push an).get? c=Z m:=λc m x d=>(gm bm.heap _<|d3 x).trans d;have v6:aA J (jY bY cs.heap) db lc {bm with heap:=bm.heap.update k (aQ.mapSeq λg=>g.push an),toks:=bm.toks}:=
      v4.turned (ae:=k) pi N.2.1 (by rw[bn];exact cd) (.inr (by rw[fr,a1];exact bq _)) sn λu ga=>by
       rw[f0]at ga;let@⟨x,_⟩:=BX (show u∈jY bY cs.heap by simpa using ga);exact hm _ x
     refine⟨kt,kw,a+1,LH++[u8],lc,Lz++[an],n+1,o0<|v6.ly λu ga=>?_,f1.append<|.cons v0 .nil,?_,?_,L9,v2⟩
     ·have d:u=(k,{cls:=.type "list",data:=.seq (Lz++[an]).toArray (n+1)}):=by simpa using ga
      subst d;refine⟨?_,N.2.1,N.2.2.1,N.2.2.2.1,λr B=>by cases B⟩;have wf:Lz.toArray.push an=(Lz++[an]).toArray:=by simp
      rw[<-wf];have pm:IsL (bm.heap.update k<|aQ.mapSeq λg=>g.push an) k (Lz.toArray.push an) (if (Lz.toArray.push an).size==Lz.toArray.size then n else n+1):=q;rw[aM ↥0]at pm;exact pm
     ·rw[eK,kM];lia
     ·refine LA.keep _ _ _ L_ λc x m d=>pi c m (hm c x) d
  ·refine⟨0,[],LK,[],0,?_,.nil,gY _,LA.keep _ _ _ gt λc U m d=>g3 c m d,λc x=>(bi c x).1,re⟩;refine (ls _).ly λu N=>?_;have d:u=(k,{cls:=.type "list",data:=.seq ([]:List aa).toArray 0}):=by simpa using N
   subst d;exact⟨ln,ap.aT.fresh (by rw[a1];exact bq _),by rw[bn];exact cd,sp,λr B=>by cases B⟩
 have wl:pb LD (Q++i5 b.env LD.names) aH b.env=J.env:=ms.symm;show codeAny (aP b.prog b.w) b.A (.compStart _ 0 (.ref ae) (.ref k)<|pb LD (Q++i5 b.env LD.names) aH b.env) _ _;rw[wl];exact codeAny_compStart_list (na _ rfl) (LA.self b.A 0 _ _ _ (LA.keep _ _ _ gt λc U m d=>g3 c m d)<|na _ rfl)
def Ga(i:b.calm=V)(LX:gL b LD own LV)(Lv:jq b LS Mm MG)(l:∀a,hQ (b.eI (eP b own LV) LD a) LS<|F a)(n:∀a,nG (b.eI (eP b own LV) LD a) MD<|A a)(p:∀a,bw (b.eI (eP b own LV) LD a) ME<|Mq a)(au:∀f,jX Mm b.env f=pure f:=by intro W;rfl):bw b (.ListComp ME [⟨LS,Mm,MD,0⟩] LD LC) (pg own LV MG F A Mq):=by
 intro M j w h x t e;show wpAny _ b.A (uU (.ListComp ME [⟨LS,Mm,MD,0⟩] LD LC) LD b.env _ (nB []) ar (bU Mm b.env) Y) _ _ j;refine yt (use:=Y) (ge:=dD b M w x) i LX Lv l n p au t e λk aH r g H s v R L o B u q=>?_;show ∃H,g.heap.Ns aH H/\∀Lq,a0.SameBut aH g.heap Lq->dD b M w x (.ref k) {g with heap:=Lq};refine⟨H,v,λLq b5=>⟨.ref k,r,?_,rfl,q⟩⟩;exact s.turned (ae:=aH) (LY:=g.toks) (λc m y d=>(b5.2 c y).trans d) R (d3 L) (.inr B) o u
end
def g5(e:a0)(v:af)(LL:List aa)(Mg:Nat):Prop:=(∃m Lu,e.get? v=Z m/\m.ExactDict/\m.data=.dict Lu Mg/\Lu.toList.map (·.key)=LL)
def g5.ty(f:g5 j.heap v LL Mg):j.TypeIs (.ref v) "dict" := let ⟨m,_,d,o,_⟩:=f;⟨m,d,o.1⟩
def g5.lt(f:g5 e v LL Mg):v<e.objs.size:=let ⟨_,_,d,_⟩:=f;bQ d
def g5.go{Lq:a0}(f:g5 e v LL Mg)(n:∀m,e.get? v=Z m->Lq.get? v=Z m):g5 Lq v LL Mg:=let ⟨m,Lu,d,p⟩:=f;⟨m,Lu,n m d,p⟩
section
variable{Lx:bf}{I:a5}{O:a9}{Ls:aa->ag->Prop}{j:ag}
def Jb{x:aa->ag->Prop}(T:(v==hE)=ar)(f:g5 j.heap v LL Mg)(q:x (.ref j.heap.objs.size) {j with heap:=j.heap.push {cls:=.type "dict_keyiterator",data:=.fields #[.ref v,.int 0 0,.int LL.length 0,.int Mg 0]} }):wpAny (aP Lx I) O (ry<|.ref v) x Ls j:=by
 have ty:=f.ty;let⟨m,@Lu,a,d,b,c⟩:=f;have s:Lu.size=LL.length:=by rw[<-c,bF,eD]
 refine wpAny_pyIter_slot ty z0 (iS z0 ty F.entry_dict_iter ?B<|F.args_dict_iter_1 _)
 case B=>
  unfold bO.«dict.__iter__» bO.Dict.dictSlotNone;refine aD (aD<|wpAny_notOrdered_dict ty ?_);show wpAny _ _ (pure<|aa.ref v) _ _ j;apply bk;show wpAny _ _ (bO.Dict.showsAll v >>= _) _ _ j;unfold bO.Dict.showsAll;rw[aM (by rw[T];simp)];refine aD (bk<|aD<|sP a b<|aD<|tI a b<|aD<|jB<|bk ⟨_,rfl,"dict_keyiterator",_,⟨_,df _ rfl,rfl⟩,oI.lookup,?_⟩);simpa [ep,s] using q
def KI{ae v:af}{r:aa}(b:j.heap.IsKeyIter ae v a LL.length Mg)(f:g5 j.heap v LL Mg)(d:LL[a]?=Z r)(q:∀Lq,Lq.IsKeyIter ae v (a+1) LL.length Mg->a0.SameBut ae j.heap Lq->x (Z r) {j with heap:=Lq}):wpAny (aP Lx I) O (hN<|.ref ae) x Ls j:=by
 let⟨@n,e,l,c⟩:=id b;let⟨m,@Lu,g,o,h,i⟩:=f;have s:Lu.size=LL.length:=by rw[<-i,bF,eD]
 have Lv:a<Lu.size:=by
  have:a<LL.length:=(eT.mp d).1;lia
 have MK:Lu[a].key=r:=by
  rw[<-i,eJ,gi,xd Lv]at d;exact Option.some.inj d
 unfold hN;refine aD (mJ<|mT (name:=az.ofString "__next__") b.typeIs oI<|iS oI b.typeIs xq ?B<|zW _)
 case B=>
  refine aD (bk<|aD<|aD ?_);refine aD (qf b.typeIs<|bk<|aD<|yZ e c ?_);simp only[show bO.Dict_items.ownsTuple "dict_keyiterator" = ar by decide,hM,gD];show wpAny _ _ (if (aa.ref v==aa.none)=V then _ else _) _ _ j;rw[aM (show ¬ (aa.ref v==aa.none)=V by intro B;cases B)];refine aD (bk<|aD<|sP g h ?_);rw[aM (by simp[s])];refine aD (bk<|aD<|tI g h ?_);rw[aM ↥0];apply bk;simp only[show ¬ ((a:Int)<0) by lia,gD,o6,xd Lv];refine aD (aD<|qf b.typeIs<|bk<|aD<|yY b.typeIs ?_);show wpAny _ _ (setField (.ref ae) 1 (ep<|(a:Int)+1) >>= _) _ _ j;have k:(j.heap.update ae (aQ.mapFields (·.setIfInBounds 1 (ep<|(a:Int)+1)))).IsKeyIter ae v (a+1) LL.length Mg:=
   ⟨_,oN _ e<|BN<|pw c _,(yS ..).trans l,by rw[pw c];simp[ep]⟩;refine aD (pk e c ↥0 (aD (iq (aD (yY (s:={j with heap:=j.heap.update ae (aQ.mapFields (·.setIfInBounds 1 (ep<|(a:Int)+1)))}) k.typeIs ?_)))));show wpAny _ _ (pure Lu[a].key) _ _ _;rw[MK];exact bk (bk ⟨_,rfl,bk<|q _ k<|pA ..⟩)
def GU{ae v:af}(k:O.handled=Y)(b:j.heap.IsKeyIter ae v a LL.length Mg)(f:g5 j.heap v LL Mg)(n:LL.length<=a)(q:∀Lq,a0.ExtBut ae j.heap Lq->x Y {j with heap:=Lq}):wpAny (aP Lx I) O (hN<|.ref ae) x Ls j:=by
 let⟨@o,d,p,e⟩:=id b;let⟨m,@Lu,h,r,i,l⟩:=f;have s:Lu.size=LL.length:=by rw[<-l,bF,eD]
 unfold hN;refine aD (mJ<|mT (name:=az.ofString "__next__") b.typeIs oI<|iS oI b.typeIs xq ?B<|zW _)
 case B=>
  refine aD (bk<|aD<|aD ?_);refine aD (qf b.typeIs<|bk<|aD<|yZ d e ?_);simp only[show bO.Dict_items.ownsTuple "dict_keyiterator" = ar by decide,hM,gD];show wpAny _ _ (if (aa.ref v==aa.none)=V then _ else _) _ _ j;rw[aM (show ¬ (aa.ref v==aa.none)=V by intro B;cases B)];refine aD (bk<|aD<|sP h i ?_);rw[aM (by simp[s])];refine aD (bk<|aD<|tI h i ?_);rw[aM ↥0];apply bk;simp only[show ¬ ((a:Int)<0) by lia,gD,o6,Array.getElem?_eq_none (show Lu.size<=a by lia)];refine aD (aD<|qf b.typeIs<|bk ?_);show wpAny _ _ (setField (.ref ae) 0 .none >>= _) _ _ j;refine aD (pk d e ↥0 ?_);show wpAny _ _ (rz (.type "StopIteration") [] >>= _) _ _ _;apply aD;simp only[rz,vn];refine aD (jB (aD (m:=qc _ _) (tp (a:=aa.none) (by first|rfl|(simp only[qc];rfl)) (jB ?_ (by size_fits)))) (by size_fits));simp only[raiseNew];apply aD;apply Br;rw[show O.in1.handled=Y from k];refine aD (m:=pure _) (bk<|wpAny_throw ?_);apply aD;refine td (T := "StopIteration") (b:=V) ⟨_,df _ rfl,rfl⟩ wb ?_;exact bk (q _<|((pA ..).extBut.push _).push _)
theorem Dy(i:O.handled=Y)(ae v:af)(ne:v≠ae)(LL:List aa)(Mg:Nat):Walks Lx I O ae [ae,v] [ae] LL.length (λa r=>LL[a]?=Z r) (λa e=>e.IsKeyIter ae v a LL.length Mg/\g5 e v LL Mg) where
 sub:=λc k=>by
  have:c=ae:=by simpa using k
  simp[this]
 frame:=λa e Lq J n=>⟨let ⟨m,d,p⟩:=J.1;⟨m,n ae ↥0 m d,p⟩,J.2.go (n v ↥0)⟩
 item:=λa j x Ls Lv J b=>by
  have h:LL[a]?=Z LL[a]:=by simp[Lv]
  refine KI J.1 J.2 h λLq g c=>b _ Lq j.toks h ⟨g,J.2.go λm d=>c.extBut v m ne d⟩ λo m f d=>c.extBut o m ⇑f d
 done:=λj x Ls J b=>GU i J.1 J.2 (bq _) λLq c=>b Lq j.toks λo m f d=>c o m ⇑f d
 self:=λa j x Ls J b=>wpAny_pyIter_keyiter J.1 b
theorem Jf(T:(v==hE)=ar):PySem.W.KdlSrc Lx I "dict" v v LL.length (λa r=>LL[a]?=Z r) (λe=>g5 e v LL Mg) where
 type:=λj f=>f.ty
 there:=λe f=>⟨f.lt,f.lt⟩
 keep:=λe Lq f n=>f.go (n v<|.inl rfl)
 notList:=by decide
 notTuple:=by decide
 hint:=λO Ls j x f q=>PySem.W.kdl_hint_dict f.ty q
 iter:=λO j b f=>⟨_,_,(λLs x q=>Jb T f q),Dy b _ v (c8 f.lt) LL Mg,⟨⟨_,df _ rfl,rfl,rfl⟩,f.go λm d=>b4 _ d⟩⟩
end
end L2
namespace L2
open Spec PyProof.Rows PySem.W
section
variable{s:Nat}{G:Nat->Int}{b:Nat->Nat->(Bool->ag->Prop)->ag->Prop}
def aX(G:Nat->Int)(u:Array Nat)(a:Nat):Int:=(G (u.getD a 0))
def ho(G:Nat->Int)(u:Array Nat)(H:Nat):Prop:=(∀a i,a<=i->i<H->aX G u a<=aX G u i)
def ew(s:Nat)(G:Nat->Int)(b:Nat->Nat->(Bool->ag->Prop)->ag->Prop)(j:ag):Prop:=(∀a i aH,a<s->i<s->aH (decide (G a<G i)) j->b a i aH j)
def cj(s:Nat)(u:Array Nat):Prop:=(u.toList.Perm (range s))
variable{u:Array Nat}
def cj.size(e:cj s u):u.size=s:=by
 have:=e.length_eq;simpa using this
def cj.lt(e:cj s u){a:Nat}(Lv:a<s):u.getD a 0<s:=by
 have au:=e.size;have d:u.getD a 0=u[a]:=by simp[Array.getD,au,Lv]
 rw[d];have:u[a]∈u.toList:=by simp
 exact gq.mp (e.mem_iff.mp this)
def cj.ne(e:cj s u)(inj:∀a i,a<s->i<s->G a=G i->a=i){a i:Nat}(j:a<i)(b:i<s):aX G u a≠aX G u i:=by
 intro d;have au:=e.size;have c:=inj _ _ (e.lt (by omega)) (e.lt b) d;have f:u.getD a 0=u[a]:=by simp[Array.getD,au,show a<s by omega]
 have g:u.getD i 0=u[i]:=by simp[Array.getD,au,b]
 rw[f,g]at c;have ak:u.toList.Nodup:=e.nodup_iff.mpr tG;have h:u.toList[a]'(by simpa [au] using (show a<s by omega))=u.toList[i]'(by simpa [au] using b):=by simpa using c
 have:=(Ac ak).mp h;omega
def kg{q:Array Nat}{a i:Nat}(d:u[a]?=q[i]?):aX G u a=aX G q i:=by
 unfold aX;rw[xu,xu,d]
theorem cj.rev(e:cj s u)(a i:Nat):cj s (jJ u a i):=(yL.mp<|mirror_perm u a i _).trans e
theorem cj.EL(e:cj s u)(a i:Nat):cj s (m9 u a i):=(yL.mp<|bubble_perm u a i).trans e
end
section
variable{Lx:bf}{I:a5}{O:a9}{Ls:aa->ag->Prop}{U:fi}{ae:Array aZ}{G:Nat->Int}{s:Nat}{j:ag}
def lJ:Bool->aZ->Array aZ->Nat->Nat->Nat->StateT ba da (Option Nat):=(sortPriv% PySem.Builtin.gallop)
def nS(b:ew s G (dQ Lx I O U ae) j){a i:Nat}(Lv:a<s)(c:i<s){J:ba}(d:kindOf J=U){x:Option Bool->ba->ag->Prop}(e:x (Z<|decide (G a<G i)) J j):
  kasC (aP Lx I) O Ls (lt' (aV ae a)<|aV ae i) x J j:=by
 rw[lt'_eq];apply a4;apply hU;have:=b a i (λo S=>S=j/\o=decide (G a<G i)) Lv c ⟨rfl,rfl⟩;unfold dQ at this;rw[d];refine a4 (lH<|mJ<|fq this (λo S f=>?_) λ_ W g=>g.elim);let@⟨rfl,rfl⟩:=f;exact a3 e
theorem fl{w Mx:Type}{aB:ft}{R:Nat->Mx->StateT w da (ForInStep Mx)}{x:Mx->w->ag->Prop}(t:Nat->Mx->w->ag->Prop)(step:∀f o J S,t f o J S->kasC aB O Ls (R f o) (λp b c=>match p with | .yield a=>t (f+1) a b c | .done a=>x a b c) J S):∀(H g:Nat) (o:Mx) (J:w) (S:ag),(∀o J S,t (g+H) o J S->x o J S)->t g o J S->
   kasC aB O Ls (forIn (range' g H) o R) x J S
 |0,g,o,J,S,h,e=>by
  show kasC aB O Ls (forIn ([]:List Nat) o R) x J S;exact kasC_nil (h o J S e)
 |H+1,g,o,J,S,h,e=>by
  show kasC aB O Ls (forIn (g::range' (g+1) H) o R) x J S;refine kasC_cons (fq (step g o J S e) (λp c Lq=>?_) λ_ W d=>d);let⟨p,b⟩:=p;cases p with
  |done a=>exact Lq
  |yield a=>exact fl t step H (g+1) a b c (λo J S Lv=>h o J S (by rw[show g+(H+1)=g+1+H by lia];exact Lv)) Lq
def cc(G:Nat->Int)(left:Bool)(n:Nat)(bA:Array Nat)(LB a:Nat):Bool:=(if left=V then decide (G (bA.getD (LB+a) 0)<G n) else !decide (G n<G (bA.getD (LB+a) 0)))
def zu(Q:ew s G (dQ Lx I O U ae) j){left:Bool}{n:Nat}(R:n<s){bA:Array Nat}(as:∀a,a<bA.size->bA.getD a 0<s){LB H b:Nat}(be:LB+H<=bA.size)(a1:b<H)(mono:∀a i,a<=i->i<H->cc G left n bA LB i=V->cc G left n bA LB a=V){J:ba}(al:kindOf J=U){x:Option Nat->ba->ag->Prop}(e:∀p,p<=H->(∀a,a<p->cc G left n bA LB a=V)->(∀a,p<=a->a<H->cc G left n bA LB a=ar)->x (Z p) J j):
  kasC (aP Lx I) O Ls (lJ left (aV ae n) (bA.map<|aV ae) LB H b) x J j:=by
 have a2:∀a,a<H->(bA.map<|aV ae)[LB+a]?=Z (aV ae<|bA.getD (LB+a) 0):=λa Lv=>by
  have:LB+a<bA.size:=⋯
  simp[Array.getD,this]
 have ask:∀a,a<H->∀P:Option Bool->ba->ag->Prop,P (Z<|cc G left n bA LB a) J j->
   kasC (aP Lx I) O Ls (do let f <-elem' (bA.map<|aV ae) (LB+a);if left=V then lt' f (aV ae n) else do let p <-lt' (aV ae n) f;pure (p.map λf=>!f)) P J j:=λa Lv P L=>by
  rw[p2,a2 a Lv];apply a4;apply a3;have am:=as (LB+a) ⋯;unfold cc at L;cases left with
  |true=>
   rw[aK rfl]at L ⊢;exact nS Q am R al L
  |false=>
   rw[aM dg]at L ⊢;exact a4 (nS Q R am al<|a3 L)
 unfold lJ;with_unfolding_all refine a4 ?_;refine ask b a1 _ ?_;dsimp only;cases an:cc G left n bA LB b with
 |true=>
  rw[aK rfl];apply a4;apply eQ;have E:∀last h,last<h->b+last<H->cc G left n bA LB (b+last)=V->(h >= H-b\/cc G left n bA LB (b+h)=ar)->
    b+last+1<=b+min h (H-b)/\b+min h (H-b)<=H/\(∀a,a<b+last+1->cc G left n bA LB a=V)/\(∀a,b+min h (H-b)<=a->a<H->cc G left n bA LB a=ar)/\b+min h (H-b)-(b+last+1)<=H-0:=λlast h bd ap N D=>by
   refine⟨⋯,⋯,λa Lv=>mono a (b+last) ⋯ ap N,λa y z=>?_,⋯⟩;rcases D with D|D
   ·lia
   ·cases v:cc G left n bA LB a with
    |false=>rfl
    |true=>rw[mono (b+h) a ⋯ z v]at D;cases D
  refine fl (λf o m S=>m=J/\S=j/\∃last h,o=(Y,last,h)/\last<h/\f<h/\b+last<H/\cc G left n bA LB (b+last)=V) ?_ _ 0 _ _ _ ?_ ⟨rfl,rfl,0,1,rfl,⋯,⋯,⋯,an⟩
  ·rintro f o m S ⟨q,r,last,h,rfl,y,z,k,l⟩;rw[q,r];dsimp only;by_cases F:h >= H-b
   ·rw[aK F];apply a3;dsimp only;have w:=E last h y k l (.inl F);apply a4;apply eQ;refine fl (λf o m S=>m=J/\S=j/\∃T Lv,o=(Y,T,Lv)/\T<=Lv/\Lv<=H/\(∀a,a<T->cc G left n bA LB a=V)/\(∀a,Lv<=a->a<H->cc G left n bA LB a=ar)/\Lv-T<=H-f) ?_ _ 0 _ _ _ ?_ ⟨rfl,rfl,_,_,rfl,w⟩
    ·rintro f o m S ⟨q,r,T,Lv,rfl,y,z,k,l,A⟩;rw[q,r];dsimp only;by_cases u:T >= Lv
     ·rw[aK u];apply a3;dsimp only;have d:T=Lv:=⋯
      subst d;exact a3 (e T z k l)
     ·rw[aM u];have B:T<=T+(Lv-T)/2:=⋯
      have C:T+(Lv-T)/2<Lv:=⋯
      generalize T+(Lv-T)/2=mid at B C ⊢;refine a4 (ask mid ⋯ _ ?_);dsimp only;cases t:cc G left n bA LB mid with
      |true=>
       rw[aK rfl];exact a3 ⟨rfl,rfl,mid+1,Lv,rfl,⋯,z,λa M=>mono a mid ⋯ ⋯ t,l,⋯⟩
      |false=>
       rw[aM dg];refine a3 ⟨rfl,rfl,T,mid,rfl,⋯,⋯,k,λa g c=>?_,⋯⟩;cases v:cc G left n bA LB a with
       |false=>rfl
       |true=>rw[mono mid a g c v]at t;cases t
    ·rintro o m S ⟨q,r,T,Lv,rfl,y,z,k,l,A⟩;rw[q,r];dsimp only;have d:T=Lv:=⋯
     subst d;exact a3 (e T z k l)
   ·rw[aM F];refine a4 (ask (b+h) ⋯ _ ?_);dsimp only;cases t:cc G left n bA LB (b+h) with
    |true=>
     simp only[vG,hM,gD];exact a3 ⟨rfl,rfl,h,2*h+1,rfl,⋯,⋯,⋯,t⟩
    |false=>
     simp only[Bool.not_false,jV];apply a3;dsimp only;have w:=E last h y k l (.inr t);apply a4;apply eQ;refine fl (λf o m S=>m=J/\S=j/\∃T Lv,o=(Y,T,Lv)/\T<=Lv/\Lv<=H/\(∀a,a<T->cc G left n bA LB a=V)/\(∀a,Lv<=a->a<H->cc G left n bA LB a=ar)/\Lv-T<=H-f) ?_ _ 0 _ _ _ ?_ ⟨rfl,rfl,_,_,rfl,w⟩
     ·rintro f o m S ⟨q,r,T,Lv,rfl,y,z,k,l,A⟩;rw[q,r];dsimp only;by_cases u:T >= Lv
      ·rw[aK u];apply a3;dsimp only;have d:T=Lv:=⋯
       subst d;exact a3 (e T z k l)
      ·rw[aM u];have B:T<=T+(Lv-T)/2:=⋯
       have C:T+(Lv-T)/2<Lv:=⋯
       generalize T+(Lv-T)/2=mid at B C ⊢;refine a4 (ask mid ⋯ _ ?_);dsimp only;cases t:cc G left n bA LB mid with
       |true=>
        rw[aK rfl];exact a3 ⟨rfl,rfl,mid+1,Lv,rfl,⋯,z,λa M=>mono a mid ⋯ ⋯ t,l,⋯⟩
       |false=>
        rw[aM dg];refine a3 ⟨rfl,rfl,T,mid,rfl,⋯,⋯,k,λa g c=>?_,⋯⟩;cases v:cc G left n bA LB a with
        |false=>rfl
        |true=>rw[mono mid a g c v]at t;cases t
     ·rintro o m S ⟨q,r,T,Lv,rfl,y,z,k,l,A⟩;rw[q,r];dsimp only;have d:T=Lv:=⋯
      subst d;exact a3 (e T z k l)
  ·rintro o m S ⟨q,r,last,h,rfl,y,z,k,l⟩;rw[q,r];dsimp only;have w:=E last h y k l (.inl ⋯);apply a4;apply eQ;refine fl (λf o m S=>m=J/\S=j/\∃T Lv,o=(Y,T,Lv)/\T<=Lv/\Lv<=H/\(∀a,a<T->cc G left n bA LB a=V)/\(∀a,Lv<=a->a<H->cc G left n bA LB a=ar)/\Lv-T<=H-f) ?_ _ 0 _ _ _ ?_ ⟨rfl,rfl,_,_,rfl,w⟩
   ·rintro f o m S ⟨q,r,T,Lv,rfl,y,z,k,l,A⟩;rw[q,r];dsimp only;by_cases u:T >= Lv
    ·rw[aK u];apply a3;dsimp only;have d:T=Lv:=⋯
     subst d;exact a3 (e T z k l)
    ·rw[aM u];have B:T<=T+(Lv-T)/2:=⋯
     have C:T+(Lv-T)/2<Lv:=⋯
     generalize T+(Lv-T)/2=mid at B C ⊢;refine a4 (ask mid ⋯ _ ?_);dsimp only;cases t:cc G left n bA LB mid with
     |true=>
      rw[aK rfl];exact a3 ⟨rfl,rfl,mid+1,Lv,rfl,⋯,z,λa M=>mono a mid ⋯ ⋯ t,l,⋯⟩
     |false=>
      rw[aM dg];refine a3 ⟨rfl,rfl,T,mid,rfl,⋯,⋯,k,λa g c=>?_,⋯⟩;cases v:cc G left n bA LB a with
      |false=>rfl
      |true=>rw[mono mid a g c v]at t;cases t
   ·rintro o m S ⟨q,r,T,Lv,rfl,y,z,k,l,A⟩;rw[q,r];dsimp only;have d:T=Lv:=⋯
    subst d;exact a3 (e T z k l)
 |false=>
  rw[aM dg];apply a4;apply eQ;have E:∀last h,last<h->last<=b->cc G left n bA LB (b-last)=ar->(h >= b+1\/cc G left n bA LB (b-h)=V)->
    b+1-min h (b+1)<=b-last/\b-last<=H/\(∀a,a<b+1-min h (b+1)->cc G left n bA LB a=V)/\(∀a,b-last<=a->a<H->cc G left n bA LB a=ar)/\b-last-(b+1-min h (b+1))<=H-0:=λlast h bd ap N D=>by
   refine⟨⋯,⋯,λa Lv=>?_,λa y z=>?_,⋯⟩
   ·rcases D with D|D
    ·lia
    ·exact mono a (b-h) ⋯ ⋯ D
   ·cases v:cc G left n bA LB a with
    |false=>rfl
    |true=>rw[mono (b-last) a ⋯ z v]at N;cases N
  refine fl (λf o m S=>m=J/\S=j/\∃last h,o=(Y,last,h)/\last<h/\f<h/\last<=b/\cc G left n bA LB (b-last)=ar) ?_ _ 0 _ _ _ ?_ ⟨rfl,rfl,0,1,rfl,⋯,⋯,⋯,an⟩
  ·rintro f o m S ⟨q,r,last,h,rfl,y,z,k,l⟩;rw[q,r];dsimp only;by_cases F:h >= b+1
   ·rw[aK F];apply a3;dsimp only;have w:=E last h y k l (.inl F);apply a4;apply eQ;refine fl (λf o m S=>m=J/\S=j/\∃T Lv,o=(Y,T,Lv)/\T<=Lv/\Lv<=H/\(∀a,a<T->cc G left n bA LB a=V)/\(∀a,Lv<=a->a<H->cc G left n bA LB a=ar)/\Lv-T<=H-f) ?_ _ 0 _ _ _ ?_ ⟨rfl,rfl,_,_,rfl,w⟩
    ·rintro f o m S ⟨q,r,T,Lv,rfl,y,z,k,l,A⟩;rw[q,r];dsimp only;by_cases u:T >= Lv
     ·rw[aK u];apply a3;dsimp only;have d:T=Lv:=⋯
      subst d;exact a3 (e T z k l)
     ·rw[aM u];have B:T<=T+(Lv-T)/2:=⋯
      have C:T+(Lv-T)/2<Lv:=⋯
      generalize T+(Lv-T)/2=mid at B C ⊢;refine a4 (ask mid ⋯ _ ?_);dsimp only;cases t:cc G left n bA LB mid with
      |true=>
       rw[aK rfl];exact a3 ⟨rfl,rfl,mid+1,Lv,rfl,⋯,z,λa M=>mono a mid ⋯ ⋯ t,l,⋯⟩
      |false=>
       rw[aM dg];refine a3 ⟨rfl,rfl,T,mid,rfl,⋯,⋯,k,λa g c=>?_,⋯⟩;cases v:cc G left n bA LB a with
       |false=>rfl
       |true=>rw[mono mid a g c v]at t;cases t
    ·rintro o m S ⟨q,r,T,Lv,rfl,y,z,k,l,A⟩;rw[q,r];dsimp only;have d:T=Lv:=⋯
     subst d;exact a3 (e T z k l)
   ·rw[aM F];refine a4 (ask (b-h) ⋯ _ ?_);dsimp only;cases t:cc G left n bA LB (b-h) with
    |false=>
     rw[aM dg];exact a3 ⟨rfl,rfl,h,2*h+1,rfl,⋯,⋯,⋯,t⟩
    |true=>
     rw[aK rfl];apply a3;dsimp only;have w:=E last h y k l (.inr t);apply a4;apply eQ;refine fl (λf o m S=>m=J/\S=j/\∃T Lv,o=(Y,T,Lv)/\T<=Lv/\Lv<=H/\(∀a,a<T->cc G left n bA LB a=V)/\(∀a,Lv<=a->a<H->cc G left n bA LB a=ar)/\Lv-T<=H-f) ?_ _ 0 _ _ _ ?_ ⟨rfl,rfl,_,_,rfl,w⟩
     ·rintro f o m S ⟨q,r,T,Lv,rfl,y,z,k,l,A⟩;rw[q,r];dsimp only;by_cases u:T >= Lv
      ·rw[aK u];apply a3;dsimp only;have d:T=Lv:=⋯
       subst d;exact a3 (e T z k l)
      ·rw[aM u];have B:T<=T+(Lv-T)/2:=⋯
       have C:T+(Lv-T)/2<Lv:=⋯
       generalize T+(Lv-T)/2=mid at B C ⊢;refine a4 (ask mid ⋯ _ ?_);dsimp only;cases t:cc G left n bA LB mid with
       |true=>
        rw[aK rfl];exact a3 ⟨rfl,rfl,mid+1,Lv,rfl,⋯,z,λa M=>mono a mid ⋯ ⋯ t,l,⋯⟩
       |false=>
        rw[aM dg];refine a3 ⟨rfl,rfl,T,mid,rfl,⋯,⋯,k,λa g c=>?_,⋯⟩;cases v:cc G left n bA LB a with
        |false=>rfl
        |true=>rw[mono mid a g c v]at t;cases t
     ·rintro o m S ⟨q,r,T,Lv,rfl,y,z,k,l,A⟩;rw[q,r];dsimp only;have d:T=Lv:=⋯
      subst d;exact a3 (e T z k l)
  ·rintro o m S ⟨q,r,last,h,rfl,y,z,k,l⟩;rw[q,r];dsimp only;have w:=E last h y k l (.inl ⋯);apply a4;apply eQ;refine fl (λf o m S=>m=J/\S=j/\∃T Lv,o=(Y,T,Lv)/\T<=Lv/\Lv<=H/\(∀a,a<T->cc G left n bA LB a=V)/\(∀a,Lv<=a->a<H->cc G left n bA LB a=ar)/\Lv-T<=H-f) ?_ _ 0 _ _ _ ?_ ⟨rfl,rfl,_,_,rfl,w⟩
   ·rintro f o m S ⟨q,r,T,Lv,rfl,y,z,k,l,A⟩;rw[q,r];dsimp only;by_cases u:T >= Lv
    ·rw[aK u];apply a3;dsimp only;have d:T=Lv:=⋯
     subst d;exact a3 (e T z k l)
    ·rw[aM u];have B:T<=T+(Lv-T)/2:=⋯
     have C:T+(Lv-T)/2<Lv:=⋯
     generalize T+(Lv-T)/2=mid at B C ⊢;refine a4 (ask mid ⋯ _ ?_);dsimp only;cases t:cc G left n bA LB mid with
     |true=>
      rw[aK rfl];exact a3 ⟨rfl,rfl,mid+1,Lv,rfl,⋯,z,λa M=>mono a mid ⋯ ⋯ t,l,⋯⟩
     |false=>
      rw[aM dg];refine a3 ⟨rfl,rfl,T,mid,rfl,⋯,⋯,k,λa g c=>?_,⋯⟩;cases v:cc G left n bA LB a with
      |false=>rfl
      |true=>rw[mono mid a g c v]at t;cases t
   ·rintro o m S ⟨q,r,T,Lv,rfl,y,z,k,l,A⟩;rw[q,r];dsimp only;have d:T=Lv:=⋯
    subst d;exact a3 (e T z k l)
end
section
variable{G:Nat->Int}
def bR(G:Nat->Int)(L:List Nat):Prop:=(L.Pairwise λf l=>G f<=G l)
structure HI(G:Nat->Int)(av r:List Nat)(b:List Nat)(B C:Nat):Prop where
 perm:b.Perm (av.take B++r.take C)
 aG:bR G (b++av.drop B)
 b5:bR G (b++r.drop C)
 bA:B+1<av.length
 iu:C<r.length
variable{L H:List Nat}
def el:bR G (L++H)↔bR G L/\bR G H/\∀f∈L,∀l∈H,G f<=G l:=sD
def mU(L:List Nat)(a n:Nat):L.take a++(L.drop a).take n=L.take (a+n):=by rw[List.take_add]
variable{av r b:List Nat}{B C:Nat}
def rK(n:Nat)(perm:b.Perm (av.take B++r.take C))(aG:bR G (b++av.drop B))(b5:bR G (b++r.drop C))(e:∀f∈(av.drop B).take n,∀l∈r.drop C,G f<=G l):
  (b++(av.drop B).take n).Perm (av.take (B+n)++r.take C)/\bR G (b++(av.drop B).take n++av.drop (B+n))/\bR G (b++(av.drop B).take n++r.drop C):=by
 refine⟨?_,?_,?_⟩
 ·rw[<-mU av B n];refine (perm.append_right _).trans ?_;rw[bb,bb];exact c4 _ cA
 ·rw[bb,<-lC,eS];exact aG
 ·rw[bb];have c:=el.mp aG;have d:=el.mp b5;refine el.mpr ⟨c.1,el.mpr ⟨c.2.1.sublist<|q5 _ _,d.2.1,e⟩,λf g l a=>?_⟩;rcases er.mp a with a|a
  ·exact c.2.2 f g l (md a)
  ·exact d.2.2 f g l a
def vu(n:Nat)(perm:b.Perm (av.take B++r.take C))(aG:bR G (b++av.drop B))(b5:bR G (b++r.drop C))(e:∀f∈(r.drop C).take n,∀l∈av.drop B,G f<=G l):
  (b++(r.drop C).take n).Perm (av.take B++r.take (C+n))/\bR G (b++(r.drop C).take n++av.drop B)/\bR G (b++(r.drop C).take n++r.drop (C+n)):=by
 have:=rK (av:=r) (r:=av) n (perm.trans cA) b5 aG e;exact⟨this.1.trans cA,this.2.2,this.2.1⟩
variable{a:Nat}
def il(e:a<L.length):(L.drop a).take 1=[L.getD a 0]:=by
 rw[ir e,b6,dR e];rfl
variable{l:Nat}
def hP(e:l∈L.drop a):∃i,a<=i/\i<L.length/\l=L.getD i 0:=by
 let⟨i,b,d⟩:=AS.mp e;have c:=b;rw[gU]at c;exact⟨a+i,⋯,⋯,by rw[<-d,pB];simp[List.getD,show a+i<L.length by lia]⟩
variable{n:Nat}
def mw(e:l∈(L.drop a).take n):∃i,i<n/\a+i<L.length/\l=L.getD (a+i) 0:=by
 let⟨i,b,d⟩:=AS.mp e;have c:=b;rw[g7,gU]at c;exact⟨i,by omega,by omega,by rw[<-d,tA,pB];simp[List.getD,show a+i<L.length by omega]⟩
def kH(e:bR G L){a i:Nat}(c:a<=i)(b:i<L.length):G (L.getD a 0)<=G (L.getD i 0):=by
 rcases Nat.lt_or_eq_of_le c with d|rfl
 ·have:=mh.mp e a i ⋯ b d;simpa [List.getD,b,show a<L.length by lia] using this
 ·exact jE _
theorem An(e:bR G (L++H)):bR G H:=(el.mp e).2.1
def mW{i:Nat}(e:bR G (b++L.drop a))(c:a<=i)(d:i<=n)(f:n<L.length):G (L.getD i 0)<=G (L.getD n 0):=by
 have:=kH (An e) (a:=i-a) (i:=n-a) ⋯ (by rw[gU];lia);simpa [List.getD,j5,show a+(i-a)=i by lia,show a+(n-a)=n by lia] using this
def fm(G:Nat->Int)(ae:Array aZ)(av r:List Nat)(out:Array aZ):Prop:=(∃b:List Nat,out=(b.map<|aV ae).toArray/\b.Perm (av++r)/\bR G b)
def oY{ae:Array aZ}(perm:b.Perm (av.take B++r.take C))(aG:bR G (b++av.drop B))(b5:bR G (b++r.drop C))(a:C=r.length\/B=av.length):
  fm G ae av r ((b.map<|aV ae).toArray++(av.map<|aV ae).toArray.extract B (av.map<|aV ae).toArray.size++(r.map<|aV ae).toArray.extract C (r.map<|aV ae).toArray.size):=by
 refine⟨b++av.drop B++r.drop C,?_,?_,?_⟩
 ·apply iT;simp[ks,r2]
 ·rw[bb];refine (perm.append_right _).trans ?_;have:(av.take B++r.take C++(av.drop B++r.drop C)).Perm ((av.take B++av.drop B)++(r.take C++r.drop C)):=by
   rw[bb,bb];refine c4 _ ?_;rw[<-bb,<-bb];exact dO _ cA
  rw[eS,eS]at this;exact this
 ·rcases a with d|d
  ·rw[d,tv,bN];exact aG
  ·rw[d,tv,bN];exact b5
def qa{ae:Array aZ}(perm:b.Perm (av.take B++r.take C))(aG:bR G (b++av.drop B))(b5:bR G (b++r.drop C))(d:B+1=av.length)(eh:∀f∈r,G f<=G (av.getD (av.length-1) 0)):
  fm G ae av r ((b.map<|aV ae).toArray++(r.map<|aV ae).toArray.extract C (r.map<|aV ae).toArray.size++(av.map<|aV ae).toArray.extract B (av.map<|aV ae).toArray.size):=by
 refine⟨b++r.drop C++av.drop B,?_,?_,?_⟩
 ·apply iT;simp[ks,r2]
 ·rw[bb];refine (perm.append_right _).trans ?_;have:(av.take B++r.take C++(r.drop C++av.drop B)).Perm ((av.take B++av.drop B)++(r.take C++r.drop C)):=by
   rw[bb,bb];refine c4 _ ?_;rw[<-bb];exact cA
  rw[eS,eS]at this;exact this
 ·refine el.mpr ⟨b5,An aG,λf a l c=>?_⟩;rcases er.mp a with a|a
  ·exact (el.mp aG).2.2 f a l c
  ·let⟨@i,y,z,rfl⟩:=hP c;have:i=av.length-1:=⋯
   rw[this];exact eh f (k0 a)
end
section
variable{Lx:bf}{I:a5}{O:a9}{Ls:aa->ag->Prop}{U:fi}{ae:Array aZ}{G:Nat->Int}{s:Nat}{j:ag}
def BV:Array aZ->Array aZ->StateT ba da (Array aZ):=(sortPriv% PySem.Builtin.mergeLo)
structure cK(z J:ba):Prop where
 k:kindOf J=kindOf z
 a:arrOf J=arrOf z
 p:fT J=fT z
 f:fx J=fx z
def cK.refl(J:ba):cK J J:=⟨rfl,rfl,rfl,rfl⟩
def fV{w L0:Type}{aB:ft}{H:StateT w da L0}{x a:L0->w->ag->Prop}{J:w}{S:ag}(e:kasC aB O Ls H a J S)(F:∀g J S,a g J S->x g J S):kasC aB O Ls H x J S:=
 fq e (λp S f=>F p.1 p.2 S f) λ_ W d=>d
variable{L:List Nat}
def eW{a:Nat}(Lv:a<L.length){J:ba}{x:aZ->ba->ag->Prop}(e:x (aV ae<|L.getD a 0) J j):kasC (aP Lx I) O Ls (elem' (L.map<|aV ae).toArray a) x J j:=by
 rw[p2,show ((L.map<|aV ae).toArray)[a]?=Z (aV ae<|L.getD a 0) by simp[List.getD,Lv]];exact a3 e
def hF(b:∀f∈L,f<s){a:Nat}(Lv:a<L.length):L.getD a 0<s:=by
 rw[b6,dR Lv];exact b _ (vP Lv)
def jr(L:List Nat)(a:Nat):L.toArray.getD a 0=L.getD a 0:=by simp[Array.getD,List.getD];split<;>simp_all
def r_(d:ew s G (dQ Lx I O U ae) j){n:Nat}(h:n<s){L:List Nat}(k:∀f∈L,f<s){LB H b:Nat}(l:LB+H<=L.length)(m:b<H)(mono:∀a i,LB<=a->a<=i->i<LB+H->G (L.getD a 0)<=G (L.getD i 0)){J:ba}(o:kindOf J=U){x:Option Nat->ba->ag->Prop}(e:∀p,p<=H->(∀a,LB<=a->a<LB+p->G (L.getD a 0)<=G n)->(∀a,LB+p<=a->a<LB+H->G n<G (L.getD a 0))->x (Z p) J j):
  kasC (aP Lx I) O Ls (lJ ar (aV ae n) (L.map<|aV ae).toArray LB H b) x J j:=by
 rw[<-xx];refine zu d h (λa Lv=>by rw[jr];exact hF k ⇑Lv) ⇑l m (λa i r t q=>?_) o λp LG g c=>e p LG (λa y z=>?_) (λa y z=>?_)
 ·simp only[cc,jr,hM,gD,l6,rD,tQ]at q ⊢;have:=mono (LB+a) (LB+i) ⋯ ⋯ ⋯;lia
 ·have:=g (a-LB) ⋯;simp only[cc,jr,hM,gD,l6,rD,tQ]at this
  rwa [show LB+(a-LB)=a by lia]at this
 ·have:=c (a-LB) ⋯ ⋯;simp only[cc,jr,hM,gD,Bool.not_eq_false',uo]at this
  rwa [show LB+(a-LB)=a by lia]at this
def vf(d:ew s G (dQ Lx I O U ae) j){n:Nat}(h:n<s){L:List Nat}(k:∀f∈L,f<s){LB H b:Nat}(l:LB+H<=L.length)(m:b<H)(mono:∀a i,LB<=a->a<=i->i<LB+H->G (L.getD a 0)<=G (L.getD i 0)){J:ba}(o:kindOf J=U){x:Option Nat->ba->ag->Prop}(e:∀p,p<=H->(∀a,LB<=a->a<LB+p->G (L.getD a 0)<G n)->(∀a,LB+p<=a->a<LB+H->G n<=G (L.getD a 0))->x (Z p) J j):
  kasC (aP Lx I) O Ls (lJ V (aV ae n) (L.map<|aV ae).toArray LB H b) x J j:=by
 rw[<-xx];refine zu d h (λa Lv=>by rw[jr];exact hF k ⇑Lv) ⇑l m (λa i r t q=>?_) o λp LG g c=>e p LG (λa y z=>?_) (λa y z=>?_)
 ·simp only[cc,jr,jV,uo]at q ⊢;have:=mono (LB+a) (LB+i) ⋯ ⋯ ⋯;lia
 ·have:=g (a-LB) ⋯;simp only[cc,jr,jV,uo]at this
  rwa [show LB+(a-LB)=a by lia]at this
 ·have:=c (a-LB) ⋯ ⋯;simp only[cc,jr,jV,rD,tQ]at this
  rwa [show LB+(a-LB)=a by lia]at this
def mi(b:List Nat)(l:Nat):(b.map<|aV ae).toArray.push (aV ae l)=((b++[l]).map<|aV ae).toArray:=by simp
def Bl(b L:List Nat)(a n:Nat):(b.map<|aV ae).toArray++(L.map<|aV ae).toArray.extract a (a+n)=((b++(L.drop a).take n).map<|aV ae).toArray:=by
 apply iT;simp[ks,kp,oh]
end
section
variable{Lx:bf}{I:a5}{O:a9}{Ls:aa->ag->Prop}{U:fi}{ae:Array aZ}{G:Nat->Int}{s:Nat}{j:ag}
def gh(G:Nat->Int)(ae:Array aZ)(av r:List Nat)(out:Array aZ)(B C:Nat):Prop:=(∃b:List Nat,out=(b.map<|aV ae).toArray/\HI G av r b B C)
variable{w L0:Type}
def xc{aB:ft}{O:a9}{Ls:aa->ag->Prop}{o:Nat->Prop}{b:∀F,Decidable (o F)}{g LF:Nat->StateT w da L0}{x:L0->w->ag->Prop}{J:w}{j:ag}(f:Nat->Nat)(a:∀F,g F=LF (f F))(h:∀F,kasC aB O Ls (LF F) x J j):∀F,kasC aB O Ls (if o F then g F else LF F) x J j:=by
 intro F;rw[a];split
 ·exact h _
 ·exact h _
variable{o:Prop}
def qx{aB:ft}{O:a9}{Ls:aa->ag->Prop}{i:Decidable o}{b Ml:Array aZ->Nat->StateT w da L0}{x:L0->w->ag->Prop}{J:w}{j:ag}(c d:Array aZ->Nat->Prop)(h:∀m a,d m a->kasC aB O Ls (Ml m a) x J j)(f:¬ o->∀m a,c m a->d m a)(g:(∀m a,d m a->kasC aB O Ls (Ml m a) x J j)->o->∀m a,c m a->kasC aB O Ls (b m a) x J j):∀m a,c m a->kasC aB O Ls (if o then b m a else Ml m a) x J j:=λm a u=>
 if e:o then by rw[aK e];exact g h e m a u else by rw[aM e];exact h m a (f e m a u)
def zl{aB:ft}{O:a9}{Ls:aa->ag->Prop}{R:ba->ba}{x:PUnit->ba->ag->Prop}{z J:ba}{j:ag}(au:cK z (R J))(e:∀a,cK z a->x ⟨⟩ a j):kasC aB O Ls (modify R:StateT ba da PUnit) x J j:=i2 (e _ au)
def ny(G:Nat->Int)(ae:Array aZ)(av r:List Nat)(J:ba)(j:ag): Option (Array aZ)×Array aZ×Nat×Nat×Nat->ba->ag->Prop:=(λo b S=>j=S/\cK J b/\∃a u q p F,o=(Z a,u,q,p,F)/\fm G ae av r a)
def oP(G:Nat->Int)(ae:Array aZ)(av r:List Nat)(J:ba)(j:ag)(f:Nat):Option (Array aZ)×Array aZ×Nat×Nat×Nat->ba->ag->Prop:=(λo a S=>j=S/\cK J a/\∃m B C F,o=(Y,m,B,C,F)/\gh G ae av r m B C/\f+1<=B+C)
def iC(G:Nat->Int)(ae:Array aZ)(av r:List Nat)(J:ba)(j:ag)(f:Nat):Option (Array aZ)×Array aZ×Nat×Nat×Nat×Nat->ba->ag->Prop:=(λo c S=>j=S/\cK J c/\((∃b u q p ac a,o=(Z b,u,q,p,ac,a)/\fm G ae av r b)\/∃m B C ac a,o=(Y,m,B,C,ac,a)/\gh G ae av r m B C/\f+2<=B+C))
def mP(G:Nat->Int)(ae:Array aZ)(av r:List Nat)(J:ba)(j:ag)(f l:Nat):Option (Array aZ)×Array aZ×Nat×Nat×Nat×Nat->ba->ag->Prop:=(λo a S=>j=S/\cK J a/\∃m B C ac b,o=(Y,m,B,C,ac,b)/\gh G ae av r m B C/\f+1+l<=B+C)
def hj(G:Nat->Int)(ae:Array aZ)(av r:List Nat)(J:ba)(j:ag)(f:Nat):Option (Array aZ)×Array aZ×Nat×Nat×Nat×Nat×Nat->ba->ag->Prop:=(λo c S=>j=S/\cK J c/\((∃b u q p F ac a,o=(Z b,u,q,p,F,ac,a)/\fm G ae av r b)\/∃m B C F ac a,o=(Y,m,B,C,F,ac,a)/\gh G ae av r m B C/\f+2<=B+C))
def m1(G:Nat->Int)(ae:Array aZ)(av r:List Nat)(J:ba)(j:ag)(f l:Nat):Option (Array aZ)×Array aZ×Nat×Nat×Nat×Nat×Nat->ba->ag->Prop:=(λo a S=>j=S/\cK J a/\∃m B C F ac b,o=(Y,m,B,C,F,ac,b)/\gh G ae av r m B C/\f+2<=B+C)
def ny.a{G:Nat->Int}{ae:Array aZ}{av r:List Nat}{J b:ba}{j:ag}{out:Array aZ}{u:Array aZ}{q p:Nat}{F:Nat}(e:cK J b)(H:fm G ae av r out):ny G ae av r J j (Z out,u,q,p,F) b j:=⟨rfl,e,_,_,_,_,_,rfl,H⟩
def oP.k{G:Nat->Int}{ae:Array aZ}{av r:List Nat}{J a:ba}{j:ag}{f:Nat}{m:Array aZ}{B C:Nat}{F:Nat}(e:cK J a)(i:gh G ae av r m B C)(d:f+1<=B+C):oP G ae av r J j f (Y,m,B,C,F) a j:=⟨rfl,e,_,_,_,_,rfl,i,d⟩
def iC.a{G:Nat->Int}{ae:Array aZ}{av r:List Nat}{J b:ba}{j:ag}{f:Nat}{out:Array aZ}{u:Array aZ}{q p:Nat}{F c:Nat}(e:cK J b)(H:fm G ae av r out):iC G ae av r J j f (Z out,u,q,p,F,c) b j:=⟨rfl,e,.inl ⟨_,_,_,_,_,_,rfl,H⟩⟩
def iC.b{G:Nat->Int}{ae:Array aZ}{av r:List Nat}{J a:ba}{j:ag}{f:Nat}{m:Array aZ}{B C:Nat}{F g:Nat}(e:cK J a)(i:gh G ae av r m B C)(d:f+2<=B+C):iC G ae av r J j f (Y,m,B,C,F,g) a j:=⟨rfl,e,.inr ⟨_,_,_,_,_,rfl,i,d⟩⟩
def mP.k{G:Nat->Int}{ae:Array aZ}{av r:List Nat}{J a:ba}{j:ag}{f l:Nat}{m:Array aZ}{B C:Nat}{F b:Nat}(e:cK J a)(i:gh G ae av r m B C)(d:f+1+l<=B+C):mP G ae av r J j f l (Y,m,B,C,F,b) a j:=⟨rfl,e,_,_,_,_,_,rfl,i,d⟩
def hj.a{G:Nat->Int}{ae:Array aZ}{av r:List Nat}{J b:ba}{j:ag}{f:Nat}{out:Array aZ}{u:Array aZ}{q p:Nat}{F c d:Nat}(e:cK J b)(H:fm G ae av r out):hj G ae av r J j f (Z out,u,q,p,F,c,d) b j:=⟨rfl,e,.inl ⟨_,_,_,_,_,_,_,rfl,H⟩⟩
def hj.b{G:Nat->Int}{ae:Array aZ}{av r:List Nat}{J a:ba}{j:ag}{f:Nat}{m:Array aZ}{B C:Nat}{F g h:Nat}(e:cK J a)(i:gh G ae av r m B C)(d:f+2<=B+C):hj G ae av r J j f (Y,m,B,C,F,g,h) a j:=⟨rfl,e,.inr ⟨_,_,_,_,_,_,rfl,i,d⟩⟩
def m1.k{G:Nat->Int}{ae:Array aZ}{av r:List Nat}{J a:ba}{j:ag}{f l:Nat}{m:Array aZ}{B C:Nat}{F b c:Nat}(e:cK J a)(i:gh G ae av r m B C)(d:f+2<=B+C):m1 G ae av r J j f l (Y,m,B,C,F,b,c) a j:=⟨rfl,e,_,_,_,_,_,_,rfl,i,d⟩
def Ds{g c:Nat}(e:g=c):(g==c)=V:=by simp[e]
def DB{g c:Nat}(e:¬ g=c):¬ (g==c)=V:=by simp[e]
def i8{aB:ft}{O:a9}{Ls:aa->ag->Prop}{g:Nat}{L:List Nat}{f l:StateT w da L0}{x:L0->w->ag->Prop}{J:w}{j:ag}(a:g=L.length->kasC aB O Ls f x J j)(b:¬ g=L.length->kasC aB O Ls l x J j):kasC aB O Ls (if (g==(List.map (aV ae) L).toArray.size)=V then f else l) x J j:=by
 rw[show (List.map (aV ae) L).toArray.size=L.length by simp];by_cases e:g=L.length
 ·rw[aK (Ds e)];exact a e
 ·rw[aM (DB e)];exact b e
def jk{aB:ft}{O:a9}{Ls:aa->ag->Prop}{c:Decidable o}{f l:StateT w da L0}{x:L0->w->ag->Prop}{J:w}{j:ag}(a:o->kasC aB O Ls f x J j)(b:¬ o->kasC aB O Ls l x J j):kasC aB O Ls (if o then f else l) x J j:=if e:o then by rw[aK e];exact a e else by rw[aM e];exact b e
def Gq(b:ew s G (dQ Lx I O U ae) j){n:Nat}(d:n<s){L:List Nat}(h:∀f∈L,f<s){LB:Nat}(m:LB<L.length)(mono:∀a i,LB<=a->a<=i->i<L.length->G (L.getD a 0)<=G (L.getD i 0)){J:ba}(k:kindOf J=U){x:Option Nat->ba->ag->Prop}(e:∀p,LB+p<=L.length->(∀a,LB<=a->a<LB+p->G (L.getD a 0)<=G n)->(∀a,LB+p<=a->a<L.length->G n<G (L.getD a 0))->x (Z p) J j):
  kasC (aP Lx I) O Ls (lJ ar (aV ae n) (L.map<|aV ae).toArray LB ((L.map<|aV ae).toArray.size-LB) 0) x J j:=by
 rw[show (L.map<|aV ae).toArray.size=L.length by simp];exact r_ b d h ⋯ ⋯ (λa i g c o=>mono a i g c ⋯) k λp y z l=>e p ⋯ z λa g c=>l a g ⋯
def I3(b:ew s G (dQ Lx I O U ae) j){n:Nat}(d:n<s){L:List Nat}(h:∀f∈L,f<s){LB:Nat}(m:LB<L.length)(mono:∀a i,LB<=a->a<=i->i<L.length->G (L.getD a 0)<=G (L.getD i 0)){J:ba}(k:kindOf J=U){x:Option Nat->ba->ag->Prop}(e:∀p,LB+p<=L.length->(∀a,LB<=a->a<LB+p->G (L.getD a 0)<G n)->(∀a,LB+p<=a->a<L.length->G n<=G (L.getD a 0))->x (Z p) J j):
  kasC (aP Lx I) O Ls (lJ V (aV ae n) (L.map<|aV ae).toArray LB ((L.map<|aV ae).toArray.size-LB) 0) x J j:=by
 rw[show (L.map<|aV ae).toArray.size=L.length by simp];exact vf b d h ⋯ ⋯ (λa i g c o=>mono a i g c ⋯) k λp y z l=>e p ⋯ z λa g c=>l a g ⋯
def DM(bm:ew s G (dQ Lx I O U ae) j){av r:List Nat}(bn:∀f∈av,f<s)(bs:∀f∈r,f<s)(fr:bR G av)(f0:bR G r)(h0:0<av.length)(y:0<r.length)(first:∀f∈av,G (r.getD 0 0)<=G f)(eh:∀f∈r,G f<=G (av.getD (av.length-1) 0)){J:ba}(cl:kindOf J=U){x:Array aZ->ba->ag->Prop}(e:∀out w,fm G ae av r out->cK J w->x out w j):
  kasC (aP Lx I) O Ls (BV (av.map<|aV ae).toArray (r.map<|aV ae).toArray) x J j:=by
 have bv:[r.getD 0 0].Perm (av.take 0++r.take 1):=by
  have:=il (L:=r) (a:=0) y;simp only[lp]at this;rw[this];exact List.Perm.refl _
 have ca:bR G ([r.getD 0 0]++r.drop 1):=by
  have:=il (L:=r) (a:=0) y;simp only[lp]at this;rw[<-this,eS];exact f0
 have cd:bR G ([r.getD 0 0]++av.drop 0):=el.mpr ⟨fX _ _,by rw[lp];exact fr,λf d l q=>by
  rw[dk.mp d];exact first l (by rwa [lp]at q)⟩
 have ii:(List.map (aV ae) av).toArray.size=av.length:=by simp
 have im:(List.map (aV ae) r).toArray.size=r.length:=by simp
 unfold BV;with_unfolding_all refine a4 (lH<|ik ?_);refine a4 (eW y ?_);refine i8 (λco=>a3<|e _ _ (oY bv cd ca<|.inl co)<|cK.refl J) λco=>?_;refine i8 (λcr=>a3<|e _ _ (qa bv cd ca cr eh)<|cK.refl J) λcr=>?_;refine a4 (hU ?_);refine a4 (fV (a:=ny G ae av r J j) (eQ (fl (oP G ae av r J j) ?step _ 0 _ _ _ ?fin (oP.k (cK.refl J) ⟨_,rfl,bv,cd,ca,⋯,⋯⟩ ⋯))) ?after)
 case after=>
  rintro o w S ⟨rfl,au,db,m,B,C,F,rfl,ap⟩;exact a3 (e _ _ ap au)
 case fin=>
  rintro o w S ⟨rfl,au,m,B,C,F,rfl,⟨b,rfl,H⟩,d⟩;have:=H.bA;have:=H.iu;lia
 case step=>
  rintro f o w S ⟨rfl,au,m,B,C,F,rfl,A,d⟩;refine a4 (fV (a:=iC G ae av r J j f)
   (eQ (fl (mP G ae av r J j f) ?f4 _ 0 _ _ _ ?f8 (mP.k au A ⋯))) ?ga)
  case f8=>
   rintro o w S ⟨rfl,au,m,B,C,ac,T,rfl,A,d⟩;exact iC.b au A ⋯
  case f4=>
   rintro l o w S ⟨rfl,au,m,B,C,ac,T,rfl,⟨b,rfl,H⟩,d⟩;have as:=H.bA;have t:=H.iu;have be:kindOf w=U:=au.k.trans cl;have v:B<av.length:=⋯
   have cF:G (r.getD C 0)<G (av.getD B 0)->(b++[r.getD C 0]).Perm (av.take B++r.take (C+1))/\bR G (b++[r.getD C 0]++av.drop B)/\bR G (b++[r.getD C 0]++r.drop (C+1)):=λa1=>by
    have:=vu 1 H.perm H.aG H.b5 (λf d l q=>by
     rw[il t,dk]at d;let⟨@i,D,al,rfl⟩:=hP q;have:=mW H.aG (bq _) D al;rw[d];lia)
    rwa [il t]at this
   have cS:¬ G (r.getD C 0)<G (av.getD B 0)->(b++[av.getD B 0]).Perm (av.take (B+1)++r.take C)/\bR G (b++[av.getD B 0]++av.drop (B+1))/\bR G (b++[av.getD B 0]++r.drop C):=λa1=>by
    have:=rK 1 H.perm H.aG H.b5 (λf d l q=>by
     rw[il v,dk]at d;let⟨@i,D,al,rfl⟩:=hP q;have:=mW H.b5 (bq _) D al;rw[d];lia)
    rwa [il v]at this
   refine a4 (eW t<|a4<|eW v<|a4<|nS bm (hF bs t) (hF bn v) be ?_);refine jk (λa1=>?_) λa1=>?_
   ·have c:=cF ⇑a1;refine a4 (eW t (i8 (λN=>a3 (iC.a au (by rw[mi];exact oY c.1 c.2.1 c.2.2 (.inl N)))) λN=>?_));have P:gh G ae av r ((b.map<|aV ae).toArray.push<|aV ae<|r.getD C 0) B (C+1):=⟨_,mi _ _,c.1,c.2.1,c.2.2,as,⋯⟩;exact jk (λ_=>a3 (iC.b au P ⋯)) λ_=>a3 (mP.k au P ⋯)
   ·have c:=cS ⇑a1;refine a4 (eW v (i8 (λN=>a3 (iC.a au (by rw[mi];exact qa c.1 c.2.1 c.2.2 N eh))) λN=>?_));have P:gh G ae av r ((b.map<|aV ae).toArray.push<|aV ae<|av.getD B 0) (B+1) C:=⟨_,mi _ _,c.1,c.2.1,c.2.2,⋯,t⟩;exact jk (λ_=>a3 (iC.b au P ⋯)) λ_=>a3 (mP.k au P ⋯)
  case ga=>
   rintro o w S ⟨rfl,au,⟨db,m,B,C,ac,T,rfl,ap⟩|⟨m,B,C,ac,T,rfl,A,d⟩⟩
   ·exact a3 (ny.a au ap)
   ·refine a4 (lH<|ik ?_);refine a4 (fV (a:=hj G ae av r J j f)
     (eQ (fl (m1 G ae av r J j f) ?ge _ 0 _ _ _ ?fin2 (m1.k au A ⋯))) ?gl)
    case fin2=>
     rintro o w S ⟨rfl,au,m,B,C,F,ac,T,rfl,A,d⟩;exact hj.b au A ⋯
    case gl=>
     rintro o w S ⟨rfl,au,⟨db,m,B,C,F,ac,T,rfl,ap⟩|⟨m,B,C,F,ac,T,rfl,A,d⟩⟩
     ·exact a3 (ny.a au ap)
     ·refine a4 (i2 ?_);exact a3 (oP.k ⟨au.k,au.a,au.p,au.f⟩ A ⋯)
    case ge=>
     rintro l o w S ⟨rfl,au,m,B,C,F,ac,T,rfl,⟨b,ds,H⟩,d⟩;have as:=H.bA;have t:=H.iu;dsimp only;revert F;refine xc (λF=>F-1) ?v ?_
     case v=>exact λF=>rfl
     intro F;refine a4 (zl (z:=J) ⟨au.k,au.a,au.p,au.f⟩ λio Q=>?_);have be:=Q.k.trans cl;refine a4 (eW t ?_);refine a4 (Gq bm (hF bs t) bn (show B<av.length by lia) (λa i g c o=>mW H.aG g c o) be ?_);intro n it go dL;dsimp only;generalize a2:m=LZ;generalize bd:B=a;have LF:LZ=m/\a=B:=⟨a2.symm,bd.symm⟩;clear a2 bd;revert LZ a;refine qx (λLZ a=>LZ=m/\a=B) (λLZ a=>gh G ae av r LZ a C/\B<=a/\∀i,a<=i->i<av.length->G (r.getD C 0)<G (av.getD i 0)) ?Lw ?f1 ?gt
     case f1=>
      rintro g1 LZ a ⟨rfl,rfl⟩;exact⟨⟨b,ds,H⟩,bq _,λi g c=>dL i ⋯ c⟩
     case gt=>
      rintro h _ LZ a ⟨rfl,rfl⟩;try dsimp only
      have M:=rK n H.perm H.aG H.b5 (λf d l q=>by
       let⟨@i,g2,D,rfl⟩:=mw d;let⟨@g3,ce,ch,rfl⟩:=hP q;have:=go (a+i) ⋯ ⋯;have:=mW H.b5 (bq _) ce ch;lia)
      rw[ds,Bl];refine i8 (λN=>a3<|hj.a Q<|qa M.1 M.2.1 M.2.2 N eh) λN=>?_;refine i8 (λeq=>a3<|hj.a Q<|oY M.1 M.2.1 M.2.2<|.inr eq) λeq=>?_;exact h _ _ ⟨⟨_,rfl,M.1,M.2.1,M.2.2,⋯,t⟩,⋯,λi g c=>dL i g c⟩
     case Lw=>
      rintro LZ a ⟨⟨b,rfl,H⟩,le,hd⟩;have as:=H.bA;try dsimp only
      refine a4 (eW t ?_);have Mh:=vu 1 H.perm H.aG H.b5 (λf d l q=>by
       rw[il t,dk]at d;let⟨@i,D,al,rfl⟩:=hP q;have:=hd i D al;rw[d];lia)
      rw[il t]at Mh;rw[mi];refine i8 (λev=>a3<|hj.a Q<|oY Mh.1 Mh.2.1 Mh.2.2<|.inl ev) λev=>?_;have v:a<av.length:=⋯
      refine a4 (eW v ?_);refine a4 (I3 bm (hF bn v) bs (show C+1<r.length by lia) (λa i g c o=>mW Mh.2.2 g c o) be ?_);intro L_ jp he ex;dsimp only;generalize b++[r.getD C 0]=ci at *;generalize kt:C+1=bi at *;generalize a2:(List.map (aV ae) ci).toArray=LZ;generalize bd:bi=i;have LF:LZ=(List.map (aV ae) ci).toArray/\i=bi:=⟨a2.symm,bd.symm⟩;clear a2 bd;revert LZ i;refine qx (λLZ i=>LZ=(List.map (aV ae) ci).toArray/\i=bi) (λLZ i=>gh G ae av r LZ a i/\bi<=i/\∀E,i<=E->E<r.length->G (av.getD a 0)<=G (r.getD E 0)) ?LK ?f2 ?hf
      case f2=>
       rintro g1 LZ i ⟨rfl,rfl⟩;exact⟨⟨_,rfl,Mh.1,Mh.2.1,Mh.2.2,as,⋯⟩,bq _,λE g c=>ex E ⋯ c⟩
      case hf=>
       rintro h _ LZ i ⟨rfl,rfl⟩;try dsimp only
       have an:=vu L_ Mh.1 Mh.2.1 Mh.2.2 (λf d l q=>by
        let⟨@E,g2,D,rfl⟩:=mw d;let⟨@g3,ce,ch,rfl⟩:=hP q;have:=he (i+E) ⋯ ⋯;have:=mW Mh.2.1 (bq _) ce ch;lia)
       rw[Bl];refine i8 (λfd=>a3<|hj.a Q<|oY an.1 an.2.1 an.2.2<|.inl fd) λfd=>?_;exact h _ _ ⟨⟨_,rfl,an.1,an.2.1,an.2.2,as,⋯⟩,⋯,λE g c=>ex E g c⟩
      case LK=>
       rintro LZ i ⟨⟨b,rfl,H⟩,kw,hm⟩;have hw:=H.iu;try dsimp only
       refine a4 (eW v ?_);have am:=rK 1 H.perm H.aG H.b5 (λf d l q=>by
        rw[il v,dk]at d;let⟨@E,D,al,rfl⟩:=hP q;rw[d];exact hm E D al)
       rw[il v]at am;rw[mi];refine i8 (λfn=>a3<|hj.a Q<|qa am.1 am.2.1 am.2.2 fn eh) λfn=>?_;have P:gh G ae av r ((b++[av.getD a 0]).map<|aV ae).toArray (a+1) i:=⟨_,rfl,am.1,am.2.1,am.2.2,⋯,hw⟩;exact jk (λ_=>a3 (hj.b Q P ⋯)) λ_=>a3 (m1.k Q P ⋯)
end
section
variable{Lx:bf}{I:a5}{O:a9}{Ls:aa->ag->Prop}{U:fi}{ae:Array aZ}{G:Nat->Int}{s:Nat}{j:ag}
def zg:Array aZ->Array aZ->StateT ba da (Array aZ):=(sortPriv% PySem.Builtin.mergeHi)
variable{L:List Nat}{a i:Nat}
def rZ(b:a<=i)(c:i<=L.length):L.drop a=(L.take i).drop a++L.drop i:=by
 have d:L.drop a=(L.take i++L.drop i).drop a:=by rw[eS]
 rw[d,List.drop_append_of_le_length (by rw[g7];lia)]
def JS(b:a<=i):L.take a++(L.take i).drop a=L.take i:=by
 have:=eS a (L.take i)
 rwa [o_,pU b]at this
variable{av r k:List Nat}{t A:Nat}
def pj(n:Nat)(d:n<=t)(h:t<=av.length)(perm:k.Perm (av.drop t++r.drop A))(aG:bR G (av.take t++k))(b5:bR G (r.take A++k))(e:∀f∈(av.take t).drop n,∀l∈r.take A,G l<=G f):
  ((av.take t).drop n++k).Perm (av.drop n++r.drop A)/\bR G (av.take n++((av.take t).drop n++k))/\bR G (r.take A++((av.take t).drop n++k)):=by
 refine⟨?_,?_,?_⟩
 ·rw[rZ d h,bb];exact c4 _ perm
 ·rw[<-bb,JS d];exact aG
 ·have g:=el.mp aG;have c:=el.mp b5;refine el.mpr ⟨c.1,el.mpr ⟨g.1.sublist<|uB _ _,c.2.1,λf b l a=>g.2.2 f (k0 b) l a⟩,λf b l a=>?_⟩;rcases er.mp a with a|a
  ·exact e l a f b
  ·exact c.2.2 f b l a
def r7(n:Nat)(a:n<=A)(b:A<=r.length)(perm:k.Perm (av.drop t++r.drop A))(aG:bR G (av.take t++k))(b5:bR G (r.take A++k))(e:∀f∈(r.take A).drop n,∀l∈av.take t,G l<=G f):
  ((r.take A).drop n++k).Perm (av.drop t++r.drop n)/\bR G (av.take t++((r.take A).drop n++k))/\bR G (r.take n++((r.take A).drop n++k)):=by
 have:=pj (av:=r) (r:=av) n a b (perm.trans cA) b5 aG e;exact⟨this.1.trans cA,this.2.2,this.2.1⟩
def hx(b:0<a)(e:a<=L.length):(L.take a).drop (a-1)=[L.getD (a-1) 0]:=by
 rw[oh,show a-(a-1)=1 by lia];exact il ⋯
variable{l:Nat}
def jf(e:l∈L.take a):∃i,i<a/\i<L.length/\l=L.getD i 0:=by
 have:=mw (a:=0) (n:=a) (l:=l) (L:=L) (by rwa [lp]);let⟨@i,g,c,d⟩:=this;exact⟨i,g,⋯,by rw[d];congr 1;lia⟩
variable{n:Nat}
def x3(e:l∈(L.take n).drop a):∃i,a<=i/\i<n/\i<L.length/\l=L.getD i 0:=by
 rw[oh]at e;let⟨@i,g,c,d⟩:=mw e;exact⟨a+i,⋯,⋯,c,d⟩
def lQ(e:bR G (L.take a++k))(b:i<=n)(c:n<a)(d:n<L.length):G (L.getD i 0)<=G (L.getD n 0):=by
 have:=kH (el.mp e).1 (a:=i) (i:=n) b (by rw[g7];lia);simpa [List.getD,lj,show i<a by lia,c] using this
def oX(perm:k.Perm (av.drop t++r.drop A))(aG:bR G (av.take t++k))(b5:bR G (r.take A++k))(a:t=0\/A=0):
  fm G ae av r ((av.map<|aV ae).toArray.extract 0 t++(r.map<|aV ae).toArray.extract 0 A++(k.reverse.map<|aV ae).toArray.reverse):=by
 refine⟨av.take t++r.take A++k,?_,?_,?_⟩
 ·apply iT;simp[kp]
 ·refine (c4 _ perm).trans ?_;have:(av.take t++r.take A++(av.drop t++r.drop A)).Perm ((av.take t++av.drop t)++(r.take A++r.drop A)):=by
   rw[bb,bb];refine c4 _ ?_;rw[<-bb,<-bb];exact dO _ cA
  rw[eS,eS]at this;exact this
 ·rcases a with d|d
  ·rw[d,wI,qO];exact b5
  ·rw[d,wI,bN];exact aG
def rF(perm:k.Perm (av.drop t++r.drop A))(aG:bR G (av.take t++k))(b5:bR G (r.take A++k))(c:A=1)(first:∀f∈av,G (r.getD 0 0)<=G f):
  fm G ae av r ((r.map<|aV ae).toArray.extract 0 A++(av.map<|aV ae).toArray.extract 0 t++(k.reverse.map<|aV ae).toArray.reverse):=by
 refine⟨r.take A++av.take t++k,?_,?_,?_⟩
 ·apply iT;simp[kp]
 ·refine (c4 _ perm).trans ?_;have:(r.take A++av.take t++(av.drop t++r.drop A)).Perm ((av.take t++av.drop t)++(r.take A++r.drop A)):=by
   rw[bb,<-bb (av.take t),<-bb (av.take t++av.drop t)];rw[<-bb (r.take A)];exact dO _ cA
  rw[eS,eS]at this;exact this
 ·rw[bb];refine el.mpr ⟨(el.mp b5).1,aG,λf b l a=>?_⟩;rcases er.mp a with a|a
  ·let⟨@i,y,z,rfl⟩:=jf b;have:i=0:=⋯
   rw[this];exact first l (md a)
  ·exact (el.mp b5).2.2 f b l a
def mQ(k:List Nat)(l:Nat):(k.reverse.map<|aV ae).toArray.push (aV ae l)=(([l]++k).reverse.map<|aV ae).toArray:=by simp
def AM(k L:List Nat)(a n:Nat):(k.reverse.map<|aV ae).toArray++((L.map<|aV ae).toArray.extract a n).reverse=(((L.take n).drop a++k).reverse.map<|aV ae).toArray:=by
 apply iT;simp[ks,kp,oh]
structure G1(G:Nat->Int)(av r:List Nat)(k:List Nat)(t A:Nat):Prop where
 perm:k.Perm (av.drop t++r.drop A)
 aG:bR G (av.take t++k)
 b5:bR G (r.take A++k)
 bA:0<t
 iu:1<A
 uf:t<=av.length
 vE:A<=r.length
def gf(G:Nat->Int)(ae:Array aZ)(av r:List Nat)(out:Array aZ)(t A:Nat):Prop:=(∃k:List Nat,out=(k.reverse.map<|aV ae).toArray/\G1 G av r k t A)
end
section
variable{Lx:bf}{I:a5}{O:a9}{Ls:aa->ag->Prop}{U:fi}{ae:Array aZ}{G:Nat->Int}{s:Nat}{j:ag}
def oe(G:Nat->Int)(ae:Array aZ)(av r:List Nat)(J:ba)(j:ag): Option (Array aZ)×Nat×Nat×Array aZ×Nat->ba->ag->Prop:=(λo b S=>j=S/\cK J b/\∃a u q p F,o=(Z a,u,q,p,F)/\fm G ae av r a)
def m5(G:Nat->Int)(ae:Array aZ)(av r:List Nat)(J:ba)(j:ag)(f:Nat):Option (Array aZ)×Nat×Nat×Array aZ×Nat->ba->ag->Prop:=(λo a S=>j=S/\cK J a/\∃t A m F,o=(Y,t,A,m,F)/\gf G ae av r m t A/\t+A+f+1<=av.length+r.length)
def i4(G:Nat->Int)(ae:Array aZ)(av r:List Nat)(J:ba)(j:ag)(f:Nat):Option (Array aZ)×Nat×Nat×Array aZ×Nat×Nat->ba->ag->Prop:=(λo c S=>j=S/\cK J c/\((∃b u q p ac a,o=(Z b,u,q,p,ac,a)/\fm G ae av r b)\/∃t A m ac a,o=(Y,t,A,m,ac,a)/\gf G ae av r m t A/\t+A+f+2<=av.length+r.length))
def mF(G:Nat->Int)(ae:Array aZ)(av r:List Nat)(J:ba)(j:ag)(f l:Nat):Option (Array aZ)×Nat×Nat×Array aZ×Nat×Nat->ba->ag->Prop:=(λo a S=>j=S/\cK J a/\∃t A m ac b,o=(Y,t,A,m,ac,b)/\gf G ae av r m t A/\t+A+f+1+l<=av.length+r.length)
def hK(G:Nat->Int)(ae:Array aZ)(av r:List Nat)(J:ba)(j:ag)(f:Nat):Option (Array aZ)×Nat×Nat×Array aZ×Nat×Nat×Nat->ba->ag->Prop:=(λo c S=>j=S/\cK J c/\((∃b u q p F ac a,o=(Z b,u,q,p,F,ac,a)/\fm G ae av r b)\/∃t A m F ac a,o=(Y,t,A,m,F,ac,a)/\gf G ae av r m t A/\t+A+f+2<=av.length+r.length))
def oU(G:Nat->Int)(ae:Array aZ)(av r:List Nat)(J:ba)(j:ag)(f l:Nat):Option (Array aZ)×Nat×Nat×Array aZ×Nat×Nat×Nat->ba->ag->Prop:=(λo a S=>j=S/\cK J a/\∃t A m F ac b,o=(Y,t,A,m,F,ac,b)/\gf G ae av r m t A/\t+A+f+2<=av.length+r.length)
def oe.a{G:Nat->Int}{ae:Array aZ}{av r:List Nat}{J b:ba}{j:ag}{out:Array aZ}{u q:Nat}{p:Array aZ}{F:Nat}(e:cK J b)(H:fm G ae av r out):oe G ae av r J j (Z out,u,q,p,F) b j:=⟨rfl,e,_,_,_,_,_,rfl,H⟩
def m5.k{G:Nat->Int}{ae:Array aZ}{av r:List Nat}{J a:ba}{j:ag}{f:Nat}{t A:Nat}{m:Array aZ}{F:Nat}(e:cK J a)(i:gf G ae av r m t A)(d:t+A+f+1<=av.length+r.length):m5 G ae av r J j f (Y,t,A,m,F) a j:=⟨rfl,e,_,_,_,_,rfl,i,d⟩
def i4.a{G:Nat->Int}{ae:Array aZ}{av r:List Nat}{J b:ba}{j:ag}{f:Nat}{out:Array aZ}{u q:Nat}{p:Array aZ}{F c:Nat}(e:cK J b)(H:fm G ae av r out):i4 G ae av r J j f (Z out,u,q,p,F,c) b j:=⟨rfl,e,.inl ⟨_,_,_,_,_,_,rfl,H⟩⟩
def i4.b{G:Nat->Int}{ae:Array aZ}{av r:List Nat}{J a:ba}{j:ag}{f:Nat}{t A:Nat}{m:Array aZ}{F g:Nat}(e:cK J a)(i:gf G ae av r m t A)(d:t+A+f+2<=av.length+r.length):i4 G ae av r J j f (Y,t,A,m,F,g) a j:=⟨rfl,e,.inr ⟨_,_,_,_,_,rfl,i,d⟩⟩
def mF.k{G:Nat->Int}{ae:Array aZ}{av r:List Nat}{J a:ba}{j:ag}{f l:Nat}{t A:Nat}{m:Array aZ}{F b:Nat}(e:cK J a)(i:gf G ae av r m t A)(d:t+A+f+1+l<=av.length+r.length):mF G ae av r J j f l (Y,t,A,m,F,b) a j:=⟨rfl,e,_,_,_,_,_,rfl,i,d⟩
def hK.a{G:Nat->Int}{ae:Array aZ}{av r:List Nat}{J b:ba}{j:ag}{f:Nat}{out:Array aZ}{u q:Nat}{p:Array aZ}{F c d:Nat}(e:cK J b)(H:fm G ae av r out):hK G ae av r J j f (Z out,u,q,p,F,c,d) b j:=⟨rfl,e,.inl ⟨_,_,_,_,_,_,_,rfl,H⟩⟩
def hK.b{G:Nat->Int}{ae:Array aZ}{av r:List Nat}{J a:ba}{j:ag}{f:Nat}{t A:Nat}{m:Array aZ}{F g h:Nat}(e:cK J a)(i:gf G ae av r m t A)(d:t+A+f+2<=av.length+r.length):hK G ae av r J j f (Y,t,A,m,F,g,h) a j:=⟨rfl,e,.inr ⟨_,_,_,_,_,_,rfl,i,d⟩⟩
def oU.k{G:Nat->Int}{ae:Array aZ}{av r:List Nat}{J a:ba}{j:ag}{f l:Nat}{t A:Nat}{m:Array aZ}{F b c:Nat}(e:cK J a)(i:gf G ae av r m t A)(d:t+A+f+2<=av.length+r.length):oU G ae av r J j f l (Y,t,A,m,F,b,c) a j:=⟨rfl,e,_,_,_,_,_,_,rfl,i,d⟩
def jj{aB:ft}{O:a9}{Ls:aa->ag->Prop}{w L0:Type}{g c:Nat}{f l:StateT w da L0}{x:L0->w->ag->Prop}{J:w}{j:ag}(a:g=c->kasC aB O Ls f x J j)(b:¬ g=c->kasC aB O Ls l x J j):kasC aB O Ls (if (g==c)=V then f else l) x J j:=jk (λe=>a ⇑e) λe=>b ⇑e
def H4(cd:ew s G (dQ Lx I O U ae) j){av r:List Nat}(ce:∀f∈av,f<s)(ch:∀f∈r,f<s)(gl:bR G av)(go:bR G r)(gt:0<av.length)(y:0<r.length)(first:∀f∈av,G (r.getD 0 0)<=G f)(eh:∀f∈r,G f<=G (av.getD (av.length-1) 0)){J:ba}(ev:kindOf J=U){x:Array aZ->ba->ag->Prop}(e:∀out v,fm G ae av r out->cK J v->x out v j):
  kasC (aP Lx I) O Ls (zg (av.map<|aV ae).toArray (r.map<|aV ae).toArray) x J j:=by
 have bs:(List.map (aV ae) av).toArray.size=av.length:=by simp
 have bv:(List.map (aV ae) r).toArray.size=r.length:=by simp
 have ci:=hx gt (bq _);rw[uK]at ci;have cl:[av.getD (av.length-1) 0].Perm (av.drop (av.length-1)++r.drop r.length):=by
  rw[ci,tv];exact List.Perm.refl _
 have co:bR G (av.take (av.length-1)++[av.getD (av.length-1) 0]):=by
  rw[<-ci,eS];exact gl
 have cr:bR G (r.take r.length++[av.getD (av.length-1) 0]):=el.mpr ⟨by rw[uK];exact go,fX _ _,λf d l q=>by
  rw[dk.mp q];exact eh f (by rwa [uK]at d)⟩
 unfold zg;with_unfolding_all refine a4 (lH<|ik ?_);refine a4 (eW (show (List.map (aV ae) av).toArray.size-1<av.length by lia) ?_);refine jj (λcs=>a3 (e _ _ (by rw[bs]at cs;rw[bs,bv];exact oX cl co cr (.inl cs))<|cK.refl J)) λcs=>?_;refine jj (λdb=>a3 (e _ _ (by rw[bv]at db;rw[bs,bv];exact rF cl co cr db first)<|cK.refl J)) λdb=>?_;refine a4 (hU ?_);refine a4 (fV (a:=oe G ae av r J j) (eQ (fl (m5 G ae av r J j) ?step _ 0 _ _ _ ?fin (m5.k (cK.refl J) (by rw[bs,bv];exact⟨_,rfl,cl,co,cr,⋯,⋯,⋯,⋯⟩) ⋯))) ?after)
 case after=>
  rintro o v S ⟨rfl,au,fd,m,B,C,F,rfl,a2⟩;exact a3 (e _ _ a2 au)
 case fin=>
  rintro o v S ⟨rfl,au,t,A,m,F,rfl,⟨b,rfl,H⟩,d⟩;have:=H.bA;have:=H.iu;lia
 case step=>
  rintro f o v S ⟨rfl,au,t,A,m,F,rfl,D,d⟩;refine a4 (fV (a:=i4 G ae av r J j f)
   (eQ (fl (mF G ae av r J j f) ?g1 _ 0 _ _ _ ?g2 (mF.k au D ⋯))) ?g3)
  case g2=>
   rintro o v S ⟨rfl,au,t,A,m,ac,am,rfl,D,d⟩;exact i4.b au D ⋯
  case g1=>
   rintro l o v S ⟨rfl,au,t,A,m,ac,am,rfl,⟨b,rfl,H⟩,d⟩;have L:=H.bA;have ds:=H.iu;have w:=H.uf;have M:=H.vE;have ca:kindOf v=U:=au.k.trans ev;have N:t-1<av.length:=⋯
   have an:A-1<r.length:=⋯
   have cF:G (r.getD (A-1) 0)<G (av.getD (t-1) 0)->_:=λbd=>by
    have:=pj (t-1) ⋯ w H.perm H.aG H.b5 (λf d l q=>by
     rw[hx L w,dk]at d;let⟨@i,ap,be,rfl⟩:=jf q;have:=lQ H.b5 (show i<=A-1 by lia) ⋯ ⋯;rw[d];lia)
    rw[hx L w]at this;exact this
   have cS:¬ G (r.getD (A-1) 0)<G (av.getD (t-1) 0)->_:=λbd=>by
    have:=r7 (A-1) ⋯ M H.perm H.aG H.b5 (λf d l q=>by
     rw[hx ⋯ M,dk]at d;let⟨@i,ap,be,rfl⟩:=jf q;have:=lQ H.aG (show i<=t-1 by lia) ⋯ ⋯;rw[d];lia)
    rw[hx ⋯ M]at this;exact this
   refine a4 (eW an<|a4<|eW N<|a4<|nS cd (hF ch an) (hF ce N) ca ?_);refine jk (λbd=>?_) λbd=>?_
   ·have c:=cF ⇑bd;refine a4 (eW N (jj (λQ=>a3 (i4.a au (by rw[mQ];exact oX c.1 c.2.1 c.2.2 (.inl Q)))) λQ=>?_));have T:gf G ae av r ((b.reverse.map<|aV ae).toArray.push<|aV ae<|av.getD (t-1) 0) (t-1) A:=⟨_,mQ _ _,c.1,c.2.1,c.2.2,⋯,ds,⋯,M⟩;exact jk (λ_=>a3 (i4.b au T ⋯)) λ_=>a3 (mF.k au T ⋯)
   ·have c:=cS ⇑bd;refine a4 (eW an (jj (λQ=>a3 (i4.a au (by rw[mQ];exact rF c.1 c.2.1 c.2.2 Q first))) λQ=>?_));have T:gf G ae av r ((b.reverse.map<|aV ae).toArray.push<|aV ae<|r.getD (A-1) 0) t (A-1):=⟨_,mQ _ _,c.1,c.2.1,c.2.2,L,⋯,w,⋯⟩;exact jk (λ_=>a3 (i4.b au T ⋯)) λ_=>a3 (mF.k au T ⋯)
  case g3=>
   rintro o v S ⟨rfl,au,⟨fd,m,B,C,ac,am,rfl,a2⟩|⟨t,A,m,ac,am,rfl,D,d⟩⟩
   ·exact a3 (oe.a au a2)
   ·refine a4 (lH<|ik ?_);refine a4 (fV (a:=hK G ae av r J j f)
     (eQ (fl (oU G ae av r J j f) ?hd _ 0 _ _ _ ?fin2 (oU.k au D ⋯))) ?he)
    case fin2=>
     rintro o v S ⟨rfl,au,t,A,m,F,ac,am,rfl,D,d⟩;exact hK.b au D ⋯
    case he=>
     rintro o v S ⟨rfl,au,⟨fd,m,B,C,F,ac,am,rfl,a2⟩|⟨t,A,m,F,ac,am,rfl,D,d⟩⟩
     ·exact a3 (oe.a au a2)
     ·refine a4 (i2 ?_);exact a3 (m5.k ⟨au.k,au.a,au.p,au.f⟩ D ⋯)
    case hd=>
     rintro l o v S ⟨rfl,au,t,A,m,F,ac,am,rfl,⟨b,fn,H⟩,d⟩;have L:=H.bA;have ds:=H.iu;have w:=H.uf;have M:=H.vE;have an:A-1<r.length:=⋯
     dsimp only;revert F;refine xc (λF=>F-1) ?N ?_
     case N=>exact λF=>rfl
     intro F;refine a4 (zl (z:=J) ⟨au.k,au.a,au.p,au.f⟩ λlc al=>?_);have ca:=al.k.trans ev;refine a4 (eW an ?_);refine a4 (r_ cd (hF ch an) ce (LB:=0) (H:=t) (b:=t-1) ⋯ ⋯ (λa i g c o=>lQ H.aG c ⋯ ⋯) ca ?_);intro n lf fr hm;dsimp only;generalize li:t-n=lm;generalize bi:m=LZ;generalize bm:t=a;have LF:LZ=m/\a=t:=⟨bi.symm,bm.symm⟩;clear bi bm;revert LZ a;refine qx (λLZ a=>LZ=m/\a=t) (λLZ a=>gf G ae av r LZ a A/\a<=t/\∀i,i<a->G (av.getD i 0)<=G (r.getD (A-1) 0)) ?Lw ?f1 ?hw
     case f1=>
      rintro h0 LZ a ⟨rfl,rfl⟩;exact⟨⟨b,fn,H⟩,bq _,λi g=>fr i ⋯ ⋯⟩
     case hw=>
      rintro h _ LZ a ⟨rfl,rfl⟩;try dsimp only
      have a1:=pj n ⋯ w H.perm H.aG H.b5 (λf d l q=>by
       let⟨@i,ii,ap,be,rfl⟩:=x3 d;let⟨@dL,im,io,rfl⟩:=jf q;have:=hm i ⋯ ⋯;have:=lQ H.b5 (show dL<=A-1 by lia) ⋯ ⋯;lia)
      rw[fn,AM];refine jj (λQ=>a3<|hK.a al<|oX a1.1 a1.2.1 a1.2.2<|.inl Q) λQ=>?_;exact h _ _ ⟨⟨_,rfl,a1.1,a1.2.1,a1.2.2,⋯,ds,⋯,M⟩,⋯,λi g=>fr i ⋯ ⋯⟩
     case Lw=>
      rintro LZ a ⟨⟨b,rfl,H⟩,le,it⟩;have L:=H.bA;have w:=H.uf;have N:a-1<av.length:=⋯
      try dsimp only
      refine a4 (eW an ?_);have Mh:=r7 (A-1) ⋯ M H.perm H.aG H.b5 (λf d l q=>by
       rw[hx ⋯ M,dk]at d;let⟨@i,ap,be,rfl⟩:=jf q;rw[d];exact it i ap)
      rw[hx ⋯ M]at Mh;rw[mQ];refine jj (λf0=>a3<|hK.a al<|rF Mh.1 Mh.2.1 Mh.2.2 f0 first) λf0=>?_;refine a4 (eW N ?_);refine a4 (vf cd (hF ce N) ch (LB:=0) (H:=A-1) (b:=A-1-1) ⋯ ⋯ (λa i g c o=>lQ Mh.2.2 c ⋯ ⋯) ca ?_);intro L_ ln f4 jp;dsimp only;generalize [r.getD (A-1) 0]++b=eq at *;generalize ls:A-1=bn at *;generalize lv:bn-L_=d_;generalize bi:(List.map (aV ae) eq.reverse).toArray=LZ;generalize bm:bn=i;have LF:LZ=(List.map (aV ae) eq.reverse).toArray/\i=bn:=⟨bi.symm,bm.symm⟩;clear bi bm;revert LZ i;refine qx (λLZ i=>LZ=(List.map (aV ae) eq.reverse).toArray/\i=bn) (λLZ i=>gf G ae av r LZ a i/\i<=bn/\∀E,E<i->G (r.getD E 0)<G (av.getD (a-1) 0)) ?LK ?f2 ?kt
      case f2=>
       rintro h0 LZ i ⟨rfl,rfl⟩;exact⟨⟨_,rfl,Mh.1,Mh.2.1,Mh.2.2,L,⋯,w,⋯⟩,bq _,λE g=>f4 E ⋯ ⋯⟩
      case kt=>
       rintro h _ LZ i ⟨rfl,rfl⟩;try dsimp only
       have P:=r7 L_ ⋯ (show i<=r.length by lia) Mh.1 Mh.2.1 Mh.2.2 (λf d l q=>by
        let⟨@E,ii,ap,be,rfl⟩:=x3 d;let⟨@dL,im,io,rfl⟩:=jf q;have:=jp E ⋯ ⋯;have:=lQ Mh.2.1 (show dL<=a-1 by lia) ⋯ ⋯;lia)
       rw[AM];refine jj (λf8=>a3<|hK.a al<|rF P.1 P.2.1 P.2.2 f8 first) λf8=>?_;refine jj (λga=>a3<|hK.a al<|oX P.1 P.2.1 P.2.2<|.inr ga) λga=>?_;exact h _ _ ⟨⟨_,rfl,P.1,P.2.1,P.2.2,L,⋯,w,⋯⟩,⋯,λE g=>f4 E ⋯ ⋯⟩
      case LK=>
       rintro LZ i ⟨⟨b,rfl,H⟩,lw,kw⟩;try dsimp only
       refine a4 (eW N ?_);have as:=pj (a-1) ⋯ w H.perm H.aG H.b5 (λf d l q=>by
        rw[hx L w,dk]at d;let⟨@E,ap,be,rfl⟩:=jf q;have:=kw E ap;rw[d];lia)
       rw[hx L w]at as;rw[mQ];refine jj (λge=>a3<|hK.a al<|oX as.1 as.2.1 as.2.2<|.inl ge) λge=>?_;have T:gf G ae av r (([av.getD (a-1) 0]++b).reverse.map<|aV ae).toArray (a-1) i:=⟨_,rfl,as.1,as.2.1,as.2.2,⋯,H.iu,⋯,H.vE⟩;exact jk (λ_=>a3 (hK.b al T ⋯)) λ_=>a3 (oU.k al T ⋯)
def B5{w:Type}{aB:ft}{x:PUnit->w->ag->Prop}{J a:w}{j:ag}(e:x ⟨⟩ a j):kasC aB O Ls (set a:StateT w da PUnit) x J j:=by
 unfold kasC;rw[StateT.run_set];exact bk e
theorem sJ{L0:Type}:∀(L:List L0) (b:List L0) (q c u:Nat),q+L.length<=b.length->q=u+c->((L.zipIdx c).foldl (λ(g:Array L0) (f:L0×Nat)=>g.setIfInBounds (u+f.2) f.1) b.toArray)=(b.take q++L++b.drop (q+L.length)).toArray
 |[],b,q,c,u,e,d=>by simp
 |f::L,b,q,c,u,e,d=>by
  rw[dK]at e;rw[u5,og];dsimp only;rw[<-d,Bw,sJ L (b.set q f) (q+1) (c+1) u (by rw[rP];lia) ⋯];congr 1;have h:(b.set q f).take (q+1)=b.take q++[f]:=by
   apply ml;intro a;rw[lj,List.getElem?_append,g7,lj,xV];by_cases y:a<q
   ·rw[aK ⋯,aM ⋯,aK ⋯,aK y]
   ·by_cases z:a=q
    ·subst z;rw[aK ⋯,aK rfl,aK ⋯,aM ⋯];simp[show a-min a b.length=0 by lia]
    ·rw[aM ⋯,aM ⋯];rw[tg];rw[kM];lia
  have i:(b.set q f).drop (q+1+L.length)=b.drop (q+(L.length+1)):=by
   apply ml;intro a;rw[j5,j5,xV,aM ⋯];congr 1;lia
  rw[h,i,dK,bb,bb,bb];rfl
def xW{c d b:List Nat}{n H:Nat}(p:bR G c)(q:bR G d)(t:0<d.length)(u:0<c.length)(y:∀f∈c.take n,G f<=G (d.getD 0 0))(r:∀f∈d.drop H,G (c.getD (c.length-1) 0)<=G f)(k:b.Perm (c.drop n++d.take H))(Ms:bR G b):bR G (c.take n++b++d.drop H)/\(c.take n++b++d.drop H).Perm (c++d):=by
 have m:∀l∈d,G (d.getD 0 0)<=G l:=λl g=>by
  let⟨@i,W,o,rfl⟩:=hP (a:=0) (L:=d) (by rwa [lp]);exact kH q (gY _) o
 have s:∀f∈c,G f<=G (c.getD (c.length-1) 0):=λf e=>by
  let⟨@i,W,o,rfl⟩:=hP (a:=0) (L:=c) (by rwa [lp]);exact kH p (by omega) (by omega)
 have h:bR G (c.take n++c.drop n):=by rwa [eS]
 have j:bR G (d.take H++d.drop H):=by rwa [eS]
 have h:=el.mp h;have j:=el.mp j;refine⟨el.mpr ⟨el.mpr ⟨h.1,Ms,λf e l g=>?_⟩,j.2.1,λf e l g=>?_⟩,?_⟩
 ·rcases er.mp (k.mem_iff.mp g) with g|g
  ·exact h.2.2 f e l g
  ·exact vi (y f e) (m l<|md g)
 ·rcases er.mp e with e|e
  ·exact vi (y f e) (m l<|k0 g)
  ·rcases er.mp (k.mem_iff.mp e) with e|e
   ·exact vi (s f<|k0 e) (r l g)
   ·exact j.2.2 f e l g
 ·refine (dO _<|c4 _ k).trans ?_;rw[<-bb,eS,bb,eS]
def CM(S:ew s G (dQ Lx I O U ae) j){h:List Nat}(D:∀f∈h,f<s){a aG t A bs f0:Nat}{J:ba}(z:PyProof.Rows.kindOf J=U)(f1:arrOf J=(h.map<|aV ae).toArray)(T:fx J=Y)(Lv:(fT J)[a]?=Z (aG,t,bs))(M:(fT J)[a+1]?=Z (aG+t,A,f0))(f2:0<t)(bv:0<A)(g1:aG+t+A<=h.length)(B:bR G ((h.drop aG).take t))(C:bR G ((h.drop<|aG+t).take A)){x:Bool->ba->ag->Prop}(e:∀mid r,PyProof.Rows.kindOf r=U->fx r=Y->fT r=((fT J).setIfInBounds a (aG,t+A,bs)).eraseIdxIfInBounds (a+1)->mid.Perm ((h.drop aG).take<|t+A)->bR G mid->
   arrOf r=((h.take aG++mid++h.drop (aG+(t+A))).map<|aV ae).toArray->x V r j):
  kasC (aP Lx I) O Ls (pq a) x J j:=by
 have ca:((h.drop aG).take t).length=t:=by rw[g7,gU];lia
 have f4:((h.drop<|aG+t).take A).length=A:=by rw[g7,gU];lia
 have E:∀i,i<t->((h.drop aG).take t).getD i 0=h.getD (aG+i) 0:=λi M=>by simp[List.getD,lj,j5,M]
 have F:∀i,i<A->((h.drop<|aG+t).take A).getD i 0=h.getD (aG+t+i) 0:=λi M=>by simp[List.getD,lj,j5,M]
 have al:(h.drop aG).take t++(h.drop<|aG+t).take A=(h.drop aG).take (t+A):=by rw[<-lC,mU]
 have cd:h.take aG++(h.drop aG).take (t+A)++h.drop (aG+(t+A))=h:=by rw[mU,eS]
 have ce:∀a i,aG<=a->a<=i->i<aG+t->G (h.getD a 0)<=G (h.getD i 0):=λa i g c o=>by
  have:=kH B (a:=a-aG) (i:=i-aG) ⋯ ⋯
  rwa [E _ ⋯,E _ ⋯,show aG+(a-aG)=a by lia,show aG+(i-aG)=i by lia]at this
 have ch:∀a i,aG+t<=a->a<=i->i<aG+t+A->G (h.getD a 0)<=G (h.getD i 0):=λa i g c o=>by
  have:=kH C (a:=a-(aG+t)) (i:=i-(aG+t)) ⋯ ⋯
  rwa [F _ ⋯,F _ ⋯,show aG+t+(a-(aG+t))=a by lia,show aG+t+(i-(aG+t))=i by lia]at this
 have k:∀f∈(h.drop aG).take t,∃i,aG<=i/\i<aG+t/\f=h.getD i 0:=λf q=>by
  let⟨@i,N,v,rfl⟩:=mw q;exact⟨aG+i,⋯,⋯,rfl⟩
 have ci:∀f∈(h.drop<|aG+t).take A,∃i,aG+t<=i/\i<aG+t+A/\f=h.getD i 0:=λf q=>by
  let⟨@i,N,v,rfl⟩:=mw q;exact⟨aG+t+i,⋯,⋯,rfl⟩
 unfold pq;with_unfolding_all refine a4 (hU ?_);simp only[Lv,M,f1];refine a4 (B5 ?_);refine a4 (eW (show aG+t<h.length by lia) ?_);refine a4 (r_ S (hF D (show aG+t<h.length by lia)) D (LB:=aG) (H:=t) (b:=0) ⋯ f2 ce (by exact z) ?_);intro n cl co ga;dsimp only;by_cases cr:t-n=0
 ·rw[aK ⇑cr];refine a3 (e _ _ (by exact z) (by exact T) rfl (List.Perm.refl _) ?_ ?_)
  ·rw[<-al];refine el.mpr ⟨B,C,λf q l am=>?_⟩;let⟨@i,v,ge,rfl⟩:=k f q;let⟨@an,cs,ap,rfl⟩:=ci l am;have:=co i v ⋯;have:=ch (aG+t) an ⋯ cs ap;lia
  ·rw[cd]
 rw[aM ⇑cr];rw[show aG+n+(t-n)-1=aG+t-1 by lia];refine a4 (eW (show aG+t-1<h.length by lia) ?_);refine a4 (vf S (hF D (show aG+t-1<h.length by lia)) D (LB:=aG+t) (H:=A) (b:=A-1) ⋯ ⋯ ch (by exact z) ?_);intro m as gl db;dsimp only;by_cases ds:m=0
 ·rw[aK ⇑ds];refine a3 (e _ _ (by exact z) (by exact T) rfl (List.Perm.refl _) ?_ ?_)
  ·rw[<-al];refine el.mpr ⟨B,C,λf q l am=>?_⟩;let⟨@i,v,ge,rfl⟩:=k f q;let⟨@an,cs,ap,rfl⟩:=ci l am;have:=db an ⋯ ap;have:=ce i (aG+t-1) v ⋯ ⋯;lia
  ·rw[cd]
 rw[aM ⇑ds];have go:(h.map<|aV ae).toArray.extract (aG+n) (aG+t)=((((h.drop aG).take t).drop n).map<|aV ae).toArray:=by
  apply iT;simp only[AK,List.extract_eq_drop_take,ks,kp];rw[oh,lC,show aG+t-(aG+n)=t-n by lia]
 have gt:(h.map<|aV ae).toArray.extract (aG+t) (aG+t+m)=((((h.drop<|aG+t).take A).take m).map<|aV ae).toArray:=by
  apply iT;simp only[AK,List.extract_eq_drop_take,ks,kp];rw[o_,pU as,show aG+t+m-(aG+t)=m by lia]
 rw[go,gt];have y:∀f∈((h.drop aG).take t).take n,G f<=G (((h.drop<|aG+t).take A).getD 0 0):=λf q=>by
  rw[F 0 bv];let⟨@i,N,v,rfl⟩:=jf q;rw[E i ⋯];exact co _ ⋯ ⋯
 have dL:∀f∈((h.drop<|aG+t).take A).drop m,G (((h.drop aG).take t).getD (((h.drop aG).take t).length-1) 0)<=G f:=λf q=>by
  rw[ca,E _ ⋯];let⟨@i,N,v,rfl⟩:=hP q;rw[F i ⋯,show aG+(t-1)=aG+t-1 by lia];exact db _ ⋯ ⋯
 have eq:∀f∈((h.drop aG).take t).drop n,G ((((h.drop<|aG+t).take A).take m).getD 0 0)<=G f:=λf q=>by
  rw[show (((h.drop<|aG+t).take A).take m).getD 0 0=((h.drop<|aG+t).take A).getD 0 0 by simp only[List.getD,lj,aK (show 0<m by lia)],F 0 bv];let⟨@i,N,v,rfl⟩:=hP q;rw[E i ⋯];have:=ga (aG+i) ⋯ ⋯;rw[Nat.add_zero];lia
 have a1:(((h.drop aG).take t).drop n).length=t-n:=by rw[gU,ca]
 have ev:(((h.drop<|aG+t).take A).take m).length=m:=by rw[g7,f4];lia
 have ex:∀f∈((h.drop<|aG+t).take A).take m,G f<=G ((((h.drop aG).take t).drop n).getD ((((h.drop aG).take t).drop n).length-1) 0):=λf q=>by
  rw[a1,show (((h.drop aG).take t).drop n).getD (t-n-1) 0=((h.drop aG).take t).getD (t-1) 0 by simp only[List.getD,j5,show n+(t-n-1)=t-1 by lia],E _ ⋯,show aG+(t-1)=aG+t-1 by lia];let⟨@i,N,v,rfl⟩:=jf q;rw[F i ⋯];have:=gl (aG+t+i) ⋯ ⋯;lia
 have fd:∀f∈((h.drop aG).take t).drop n,f<s:=λf q=>D f (k0<|md<|k0 q);have fn:∀f∈((h.drop<|aG+t).take A).take m,f<s:=λf q=>D f (k0<|md<|md q);by_cases fr:t-n<=m
 ·rw[aK fr];refine a4 (DM S fd fn (B.sublist<|uB _ _) (C.sublist<|q5 _ _) ⋯ ⋯ eq ex (by exact z) ?_);intro out r a2 w;let⟨@b,rfl,P,bd⟩:=a2;have Q:=xW (G:=G) B C ⋯ ⋯ y dL P bd;refine a4 (i2 ?_);refine a4 (hU ?_);refine a3 ?_;have d:fx r=Y:=w.f.trans T;show x (fx r).isNone _ j;rw[d];refine e (((h.drop aG).take t).take n++b++((h.drop<|aG+t).take A).drop m) _ (w.k.trans z) (by first|rfl|exact d) (by exact w.p) (by rw[<-al];exact Q.2) Q.1 ?_;have be:arrOf r=(h.map<|aV ae).toArray:=w.a;have bE:b.length=t-n+m:=by rw[P.length_eq,eK,a1,ev]
  have bi:=sJ (b.map<|aV ae) (h.map<|aV ae) (aG+n) 0 (aG+n) (by rw[bF,bF,bE];lia) rfl;show List.foldl (λg f=>g.setIfInBounds (aG+n+f.2) f.1) (arrOf r) (b.map<|aV ae).toArray.toList.zipIdx=_;rw[be];refine bi.trans ?_;rw[bF,bE,<-kp,<-ks,<-ic,<-ic];congr 2;have bm:h.take (aG+n)=h.take aG++((h.drop aG).take t).take n:=by
   rw[o_,pU cl,mU]
  have bn:h.drop (aG+n+(t-n+m))=((h.drop<|aG+t).take A).drop m++h.drop (aG+(t+A)):=by
   have:=rZ (L:=h.drop (aG+t)) (a:=m) (i:=A) as (by rw[gU];lia);rw[lC,lC]at this;rw[show aG+n+(t-n+m)=aG+t+m by lia,this,show aG+t+A=aG+(t+A) by lia]
  rw[bm,bn];simp only[bb]
 ·rw[aM fr];refine a4 (H4 S fd fn (B.sublist<|uB _ _) (C.sublist<|q5 _ _) ⋯ ⋯ eq ex (by exact z) ?_);intro out r a2 w;let⟨@b,rfl,P,bd⟩:=a2;have Q:=xW (G:=G) B C ⋯ ⋯ y dL P bd;refine a4 (i2 ?_);refine a4 (hU ?_);refine a3 ?_;have d:fx r=Y:=w.f.trans T;show x (fx r).isNone _ j;rw[d];refine e (((h.drop aG).take t).take n++b++((h.drop<|aG+t).take A).drop m) _ (w.k.trans z) (by first|rfl|exact d) (by exact w.p) (by rw[<-al];exact Q.2) Q.1 ?_;have be:arrOf r=(h.map<|aV ae).toArray:=w.a;have bE:b.length=t-n+m:=by rw[P.length_eq,eK,a1,ev]
  have bi:=sJ (b.map<|aV ae) (h.map<|aV ae) (aG+n) 0 (aG+n) (by rw[bF,bF,bE];lia) rfl;show List.foldl (λg f=>g.setIfInBounds (aG+n+f.2) f.1) (arrOf r) (b.map<|aV ae).toArray.toList.zipIdx=_;rw[be];refine bi.trans ?_;rw[bF,bE,<-kp,<-ks,<-ic,<-ic];congr 2;have bm:h.take (aG+n)=h.take aG++((h.drop aG).take t).take n:=by
   rw[o_,pU cl,mU]
  have bn:h.drop (aG+n+(t-n+m))=((h.drop<|aG+t).take A).drop m++h.drop (aG+(t+A)):=by
   have:=rZ (L:=h.drop (aG+t)) (a:=m) (i:=A) as (by rw[gU];lia);rw[lC,lC]at this;rw[show aG+n+(t-n+m)=aG+t+m by lia,this,show aG+t+A=aG+(t+A) by lia]
  rw[bm,bn];simp only[bb]
end
section
variable{Lx:bf}{I:a5}{O:a9}{Ls:aa->ag->Prop}{U:fi}{ae:Array aZ}{G:Nat->Int}{s:Nat}{j:ag}{m:Array (Nat×Nat×Nat)}
structure dx(U:fi)(ae:Array aZ)(m:Array (Nat×Nat×Nat))(J:ba)(p:Array Nat):Prop where
 k:PyProof.Rows.kindOf J=U
 a:arrOf J=p.map (aV ae)
 p:fT J=m
 f:fx J=Y
def nC(f:ew s G (dQ Lx I O U ae) j){u:Array Nat}(b:cj s u){a i:Nat}(Lv:a<s)(c:i<s){J:ba}(h:dx U ae m J u){x:Option Bool->ba->ag->Prop}(e:x (Z<|decide (aX G u a<aX G u i)) J j):
  kasC (aP Lx I) O Ls (k3 a i) x J j:=by
 have d:∀a,a<s->(u.map<|aV ae)[a]?=Z (aV ae<|u.getD a 0):=λa Lv=>by
  have:a<u.size:=by rw[b.size];exact Lv
  simp[Array.getD,this]
 rw[ltAt'_eq];refine a4 (hU ?_);rw[h.a];dsimp only;rw[p2,p2,d a Lv,d i c];refine a4 (a3 ?_);refine a4 (a3 ?_);exact nS f (b.lt Lv) (b.lt c) h.k e
variable{u:Array Nat}{J:ba}
def rl(h:dx U ae m J u){a i:Nat}{x:Unit->ba->ag->Prop}(e:∀b,dx U ae m b (jJ u a i)->x () b j):kasC (aP Lx I) O Ls (nW a i) x J j:=by
 rw[reverseSlice'_eq];refine i2 (e _ ⟨h.k,?_,h.p,h.f⟩);show mirror (arrOf J) a i ((i-a)/2)=_;rw[h.a];exact wq (aV ae) (λn=>a+n) (λn=>i-1-n) _ u
def HX(h:dx U ae m J u){a i:Nat}{x:Unit->ba->ag->Prop}(e:∀b,dx U ae m b (m9 u a<|a-i)->x () b j):kasC (aP Lx I) O Ls (moveDown' a i) x J j:=by
 rw[moveDown'_eq];refine i2 (e _ ⟨h.k,?_,h.p,h.f⟩);show m9 (arrOf J) a (a-i)=_;rw[h.a];exact wq (aV ae) (λn=>a-n) (λn=>a-n-1) _ u
theorem n2{w Mx:Type}{aB:ft}{R:Nat->Mx->StateT w da (ForInStep Mx)}{x:Mx->w->ag->Prop}(t:Nat->Mx->w->ag->Prop)(L5:Nat)(step:∀f o J S,f<L5->t f o J S->kasC aB O Ls (R f o) (λp b c=>match p with | .yield a=>t (f+1) a b c | .done a=>x a b c) J S):∀(H g:Nat) (o:Mx) (J:w) (S:ag),g+H<=L5->(∀o J S,t (g+H) o J S->x o J S)->t g o J S->
   kasC aB O Ls (forIn (range' g H) o R) x J S
 |0,g,o,J,S,i,h,e=>by
  show kasC aB O Ls (forIn ([]:List Nat) o R) x J S;exact kasC_nil (h o J S e)
 |H+1,g,o,J,S,i,h,e=>by
  show kasC aB O Ls (forIn (g::range' (g+1) H) o R) x J S;refine kasC_cons (fq (step g o J S ⋯ e) (λp c Lq=>?_) λ_ W d=>d);let⟨p,b⟩:=p;cases p with
  |done a=>exact Lq
  |yield a=>exact n2 t L5 step H (g+1) a b c ⋯ (λo J S Lv=>h o J S (by rw[show g+(H+1)=g+1+H by lia];exact Lv)) Lq
end
section
variable{Lx:bf}{I:a5}{O:a9}{Ls:aa->ag->Prop}{U:fi}{ae:Array aZ}{G:Nat->Int}{s:Nat}{j:ag}{m:Array (Nat×Nat×Nat)}
def fS(G:Nat->Int)(u:Array Nat)(T H:Nat):Prop:=(∀a i,T<=a->a<=i->i<T+H->aX G u a<=aX G u i)
def vV{u:Array Nat}{T H:Nat}(e:∀i,T+1<=i->i<T+H->aX G u (i-1)<=aX G u i):fS G u T H:=by
 intro a i Lv b d;obtain⟨v,rfl⟩:∃v,i=a+v:=⟨i-a,⋯⟩;clear b;induction v with
 |zero=>exact jE _
 |succ v f=>
  have g:=f ⋯;have c:=e (a+(v+1)) ⋯ d;rw[show a+(v+1)-1=a+v by lia]at c;lia
def Hw(as:ew s G (dQ Lx I O U ae) j){u:Array Nat}(a1:cj s u){T H k:Nat}(bv:T+H<=s)(y:1<=k)(ca:k<=H)(r:fS G u T k){J:ba}(h:dx U ae m J u){x:Bool->ba->ag->Prop}(e:∀z b,cj s z->dx U ae m b z->(∀a,a<T->z[a]?=u[a]?)->fS G z T H->x V b j):
  kasC (aP Lx I) O Ls (binarySort' T H k) x J j:=by
 rw[binarySort'_eq];rw[show max k 1=k by lia];with_unfolding_all refine a4 (fV (a:=λo b S=>j=S/\o=(Y,())/\∃q,cj s q/\dx U ae m b q/\(∀a,a<T->q[a]?=u[a]?)/\fS G q T H)
  (eQ (n2 (λf o b S=>j=S/\o=(Y,())/\1<=f/\∃q,cj s q/\dx U ae m b q/\(∀a,a<T->q[a]?=u[a]?)/\fS G q T f) H ?step _ _ _ _ _ ⋯ ?fin ⟨rfl,rfl,y,u,a1,h,λ_ W=>rfl,r⟩)) ?after)
 case after=>
  rintro o b S ⟨rfl,rfl,q,B,D,E,A⟩;exact a3 (e q _ B D E A)
 case fin=>
  rintro o b S ⟨rfl,rfl,cd,q,B,D,E,A⟩;rw[show k+(H-k)=H by lia]at A;exact⟨rfl,rfl,q,B,D,E,A⟩
 case step=>
  rintro n o b S ce ⟨rfl,rfl,L9,q,M,P,be,r⟩;dsimp only;have bi:∀a,T<=a->a<T+0->aX G q a<=aX G q (T+n):=λa g c=>⋯
  have bm:∀a,T+n<=a->a<T+n->aX G q (T+n)<=aX G q a:=λa g c=>⋯
  refine a4 (fV (a:=λo t S=>j=S/\b=t/\∃L p,o=(Y,L,p)/\L<=n/\(∀a,T<=a->a<T+L->aX G q a<=aX G q (T+n))/\(∀a,T+L<=a->a<T+n->aX G q (T+n)<=aX G q a))
   (eQ (n2 (λf o t S=>j=S/\b=t/\∃L p,o=(Y,L,p)/\L<=p/\p<=n/\p-L<=n-f/\(∀a,T<=a->a<T+L->aX G q a<=aX G q (T+n))/\(∀a,T+p<=a->a<T+n->aX G q (T+n)<=aX G q a)) n ?s2 _ _ _ _ _ ⋯ ?f2 ⟨rfl,rfl,0,n,rfl,⋯,⋯,⋯,bi,bm⟩)) ?a2)
  case f2=>
   rintro o t S ⟨rfl,rfl,L,p,rfl,cF,cS,i1,v,w⟩;exact⟨rfl,rfl,L,p,rfl,⋯,v,λa f l=>w a ⋯ l⟩
  case s2=>
   rintro f o t S ch ⟨rfl,rfl,L,p,rfl,cF,cS,i1,v,w⟩;dsimp only;by_cases d:L >= p
   ·rw[aK d];exact a3 ⟨rfl,rfl,L,p,rfl,⋯,v,λa f l=>w a ⋯ l⟩
   rw[aM d];have N:L<=(L+p)/2:=⋯
   have bn:(L+p)/2<p:=⋯
   have Q:(L+p)/2-L<=n-(f+1):=⋯
   have R:p-((L+p)/2+1)<=n-(f+1):=⋯
   generalize (L+p)/2=mid at N bn Q R ⊢;refine a4 (nC as M ⋯ ⋯ P ?_);dsimp only;by_cases al:aX G q (T+n)<aX G q (T+mid)
   ·rw[aK ⇑al];refine a3 ⟨rfl,rfl,L,mid,rfl,N,⋯,Q,v,λa f l=>?_⟩;have:=r (T+mid) a ⋯ f l;lia
   ·rw[aM ⇑al];refine a3 ⟨rfl,rfl,mid+1,p,rfl,⋯,cS,R,λa f l=>?_,w⟩;have:=r a (T+mid) f ⋯ ⋯;lia
  case a2=>
   rintro o t S ⟨rfl,rfl,L,p,rfl,cF,v,w⟩;dsimp only;refine a4 (HX P ?_);intro ci bs;have F:∀a,(m9 q (T+n)<|T+n-(T+L))[a]?=if a=T+L then q[T+n]? else if T+L<a/\a<=T+n then q[a-1]? else q[a]?:=λa=>by
    have:=getElem?_bubble (xs:=q) (src:=T+n) (by rw[M.size];lia) (T+n-(T+L)) ⋯ a
    rwa [show T+n-(T+n-(T+L))=T+L by lia]at this
   have aS:∀a,aX G (m9 q (T+n)<|T+n-(T+L)) a=if a=T+L then aX G q (T+n) else if T+L<a/\a<=T+n then aX G q (a-1) else aX G q a:=λa=>by
    have F:=F a;by_cases d:a=T+L
    ·rw[aK d]at F ⊢;exact kg F
    ·rw[aM d]at F ⊢;by_cases am:T+L<a/\a<=T+n
     ·rw[aK am]at F ⊢;exact kg F
     ·rw[aM am]at F ⊢;exact kg F
   refine a3 ⟨rfl,rfl,⋯,_,M.EL _ _,bs,λa Lv=>by rw[F,aM ⋯,aM ⋯];exact be a Lv,vV λi f l=>?_⟩;rw[aS,aS];by_cases an:i-1=T+L
   ·rw[aK an,aM ⋯,aK ⋯];exact w (i-1) ⋯ ⋯
   ·rw[aM an];by_cases ap:i=T+L
    ·rw[aK ap,aM ⋯];exact v (i-1) ⋯ ⋯
    ·rw[aM ap];by_cases co:T+L<i-1
     ·rw[aK ⋯,aK ⋯];exact r _ _ ⋯ ⋯ ⋯
     ·rw[aM ⋯,aM ⋯];exact r _ _ ⋯ ⋯ ⋯
def du(G:Nat->Int)(u:Array Nat):Nat->List (Nat×Nat×Nat)->Nat->Prop
 |g,[],c=>g=c
 |g,(f,L,_)::E,c=>f=g/\0<L/\fS G u f L/\du G u (g+L) E c
variable{u:Array Nat}
theorem du.le:∀{E:List (Nat×Nat×Nat)}{g c:Nat},du G u g E c->g+E.length<=c
 |[],g,c,e=>by rw[show c=g from e.symm];exact bq _
 | (f,L,_)::E,g,c,e=>by
  have:=e.2.2.2.le;have:=e.2.1;rw[dK];lia
theorem du.congr{q:Array Nat}:∀{E:List (Nat×Nat×Nat)}{g c:Nat},du G u g E c->(∀a,g<=a->a<c->aX G q a=aX G u a)->du G q g E c
 |[],g,c,e,_=>e
 | (f,L,_)::E,g,c,e,F=>by
  have:=e.2.2.2.le;let@⟨rfl,z,b,d⟩:=e;refine⟨rfl,z,λa i Lv h j=>?_,d.congr λa g c=>F a ⋯ c⟩;rw[F a Lv ⋯,F i ⋯ ⋯];exact b a i Lv h j
theorem du.app{u:Array Nat}:∀{E D:List (Nat×Nat×Nat)}{g c:Nat},du G u g (E++D) c↔∃o,du G u g E o/\du G u o D c
 |[],D,g,c=>⟨λe=>⟨g,rfl,e⟩,λ⟨o,d,e⟩=>by rw[show g=o from d];exact e⟩
 | (f,L,B)::E,D,g,c=>by
  show (f=g/\0<L/\fS G u f L/\du G u (g+L) (E++D) c)↔_;rw[du.app];constructor
  ·rintro⟨y,z,a,o,b,h⟩;exact⟨o,⟨y,z,a,b⟩,h⟩
  ·rintro⟨o,⟨y,z,a,b⟩,h⟩;exact⟨y,z,a,o,b,h⟩
def Kp{L0:Type}{L:List L0}{a:Nat}(e:a+1<L.length):∃b f l c,L=b++f::l::c/\b.length=a:=by
 refine⟨L.take a,L[a]'⋯,L[a+1],L.drop<|a+2,?_,by rw[g7];lia⟩;have d:=ir (l:=L) (i:=a) ⋯;have g:=ir (l:=L) (i:=a+1) e;rw[<-g,<-d,eS]
def q1(L:List Nat)(a:Nat):aX G L.toArray a=G (L.getD a 0):=by unfold aX;rw[jr]
def v7(S:ew s G (dQ Lx I O U ae) j){u:Array Nat}(D:cj s u){J:ba}(h:dx U ae m J u){T a:Nat}(Lv:a+1<m.size)(Lp:du G u 0 m.toList T)(cs:T<=s){x:Bool->ba->ag->Prop}(e:∀F r v,cj s r->dx U ae F v r->F.size+1=m.size->du G r 0 F.toList T->(∀a,T<=a->aX G r a=aX G u a)->x V v j):kasC (aP Lx I) O Ls (pq a) x J j:=by
 let⟨b,⟨aG,t,l⟩,⟨b5,A,w⟩,@q,d,rfl⟩:=Kp (L:=m.toList) (a:=a) ⇑Lv;rw[d]at Lp;let⟨@o,al,rfl,am,an,rfl,ap,as,bp⟩:=du.app.mp Lp;have cS:=bp.le;have B:m=(b++(aG,t,l)::(aG+t,A,w)::q).toArray:=by rw[<-d]
 have a1:u.size=s:=D.size;have a2:∀f∈u.toList,f<s:=λf bd=>gq.mp (D.mem_iff.mp bd);have C:∀a,aX G u a=G (u.toList.getD a 0):=λa=>q1 u.toList a;have bE:u.toList.length=s:=by rw[eD,a1]
 have M:∀g H,g+H<=s->fS G u g H->bR G ((u.toList.drop g).take H):=λg H db e=>by
  refine mh.mpr λa i Lv be ds=>?_;have bi:=Lv;have bm:=be;rw[g7,gU,bE]at bi bm;have:=e (g+a) (g+i) ⋯ ⋯ ⋯;rw[C,C]at this;rw[tA,pB,tA,pB];rw[b6,b6,dR ⋯,dR ⋯]at this;exact this
 refine CM S (h:=u.toList) a2 (a:=b.length) (aG:=aG) (t:=t) (A:=A) (bs:=l) (f0:=w) h.k (by rw[h.a];apply iT;simp) h.f (by rw[h.p,B];simp) (by rw[h.p,B];simp) am ap ⋯ (M _ _ ⋯ an) (M _ _ ⋯ as) ?_;intro mid v L9 bn bs N bv ca;have cd:mid.length=t+A:=by rw[N.length_eq,g7,gU,bE];lia
 have ce:u.toList.take aG++(u.toList.drop aG).take (t+A)++u.toList.drop (aG+(t+A))=u.toList:=by rw[mU,eS]
 have ch:cj s (u.toList.take aG++mid++u.toList.drop (aG+(t+A))).toArray:=by
  show (u.toList.take aG++mid++u.toList.drop (aG+(t+A))).Perm (range s);refine List.Perm.trans (dO _<|c4 _ N) ?_;rw[ce];exact D
 have E:(u.toList.take aG).length=aG:=by rw[g7,bE];lia
 have ci:∀a,a<aG->aX G (u.toList.take aG++mid++u.toList.drop (aG+(t+A))).toArray a=aX G u a:=λa Lv=>by
  rw[q1,C];congr 1;rw[b6,b6,bb,lF ⋯,lj,aK Lv]
 have P:∀a,aG+(t+A)<=a->aX G (u.toList.take aG++mid++u.toList.drop (aG+(t+A))).toArray a=aX G u a:=λa Lv=>by
  rw[q1,C];congr 1;rw[b6,b6,lz (by rw[eK];lia),j5,eK,E,cd];congr 2;lia
 have Q:∀a,aG<=a->a<aG+(t+A)->aX G (u.toList.take aG++mid++u.toList.drop (aG+(t+A))).toArray a=G (mid.getD (a-aG) 0):=λa y z=>by
  rw[q1];congr 1;rw[b6,b6,bb,lz ⋯,E,lF ⋯]
 have cl:((b++(aG,t,l)::(aG+t,A,w)::q).toArray.setIfInBounds b.length (aG,t+A,l)).eraseIdxIfInBounds (b.length+1)=(b++(aG,t+A,l)::q).toArray:=by
  rw[Bw,y3 _ _<|bq _,uh,yA];rw[List.eraseIdxIfInBounds_toArray,List.eraseIdx_append_of_length_le ⋯,show b.length+1-b.length=1 by lia];rfl
 refine e ((b++(aG,t+A,l)::q).toArray) _ v ch ⟨L9,by rw[ca];apply iT;simp,by rw[bs,h.p,B,cl],bn⟩ (by rw[B];simp;lia) ?_ (λa Lv=>P a ⋯);have co:du G u (aG+(t+A)) q T:=by rw[<-ox];exact bp
 refine du.app.mpr ⟨aG,al.congr λa W c=>ci a c,rfl,⋯,λa i y z cr=>?_,co.congr λa g c=>P a g⟩
 ·rw[Q a y ⋯,Q i ⋯ cr];exact kH bv ⋯ ⋯
end
section
variable{Lx:bf}{I:a5}{O:a9}{Ls:aa->ag->Prop}{U:fi}{ae:Array aZ}{G:Nat->Int}{s:Nat}{j:ag}{m:Array (Nat×Nat×Nat)}
variable{q:Array Nat}
def q0(b:cj s q){a i:Nat}(c:i<=s)(n:Nat):(jJ q a i)[n]?=if a<=n/\n<i then q[a+i-1-n]? else q[n]?:=by
 unfold jJ;rw[getElem?_mirror_all (by rw[b.size];lia)]
def DK(b:cj s q){a i:Nat}(c:i<=s)(d:∀n,a<=n->n<i->aX G q n=aX G q a)(n:Nat):aX G (jJ q a i) n=aX G q n:=by
 by_cases e:a<=n/\n<i
 ·rw[kg (show (jJ q a i)[n]?=q[a+i-1-n]? by rw[q0 b c,aK e]),d _ ⋯ ⋯,d n e.1 e.2]
 ·exact kg (by rw[q0 b c,aM e])
structure kj(G:Nat->Int)(s T:Nat)(u q:Array Nat):Prop where
 j3:cj s q
 be:∀a,a<T->q[a]?=u[a]?
 aS:∀n,aX G q n=aX G u n
def kj.rev{T:Nat}{u:Array Nat}(Mr:kj G s T u q){a i:Nat}(Lv:T<=a)(b:i<=s)(d:∀n,a<=n->n<i->aX G u n=aX G u a):kj G s T u (jJ q a i):=
 ⟨Mr.j3.rev a i,λn e=>by rw[q0 Mr.j3 b,aM ⋯];exact Mr.be n e,λn=>by
  rw[DK Mr.j3 b (λn g c=>by rw[Mr.aS,Mr.aS];exact d n g c)];exact Mr.aS n⟩
theorem yK{R:Nat->Int}{g c:Nat}(e:∀i,g+1<=i->i<c->R i=R (i-1)):∀v,g+v<c->R (g+v)=R g
 |0,_=>rfl
 |v+1,hd=>(e (g+(v+1)) ⋯ hd).trans (yK e v ⋯)
def w3(l:ew s G (dQ Lx I O U ae) j){T a:Nat}(v:T+a<=s){q:Array Nat}{e:ba}{g:Nat}(n:cj s q)(Lw:dx U ae m e q)(w:1<=g)(x:g<=a)(r:∀i,T+1<=i->i<T+g->aX G q (i-1)<=aX G q i):
   kasC (aP Lx I) O Ls (forIn [g:a] ((Y:Option (Option Nat)),g) λf o=>k3 (T+o.2) (T+o.2-1) >>= λp=>match p with
    |some t=>if t=V then pure (ForInStep.done (Y,o.2)) else pure (ForInStep.yield (Y,o.2+1))
    |f=>pure<|ForInStep.done (Z Y,o.2))
    (λo b S=>j=S/\e=b/\∃H,o=(Y,H)/\g<=H/\H<=a/\(∀i,T+1<=i->i<T+H->aX G q (i-1)<=aX G q i)/\(H=a\/aX G q (T+H)<aX G q (T+H-1))) e j:=by
 refine eQ (n2 (λf o b S=>j=S/\e=b/\o=(Y,f)/\g<=f/\∀i,T+1<=i->i<T+f->aX G q (i-1)<=aX G q i) a ?_ _ _ _ _ _ ⋯ ?_ ⟨rfl,rfl,rfl,bq _,r⟩)
 ·rintro f o b S y ⟨rfl,rfl,rfl,k,c⟩;dsimp only;refine a4 (nC l n ⋯ ⋯ Lw ?_);dsimp only;by_cases h:aX G q (T+f)<aX G q (T+f-1)
  ·rw[aK ⇑h];exact a3 ⟨rfl,rfl,f,rfl,k,⋯,c,.inr h⟩
  ·rw[aM ⇑h];refine a3 ⟨rfl,rfl,rfl,⋯,λi u z=>?_⟩;by_cases d:i=T+f
   ·subst d;lia
   ·exact c i u ⋯
 ·rintro o b S ⟨rfl,rfl,rfl,k,c⟩;rw[show g+(a-g)=a by lia]at c ⊢;exact⟨rfl,rfl,a,rfl,⋯,bq _,c,.inl rfl⟩
def rE(T a H:Nat): StateT ba da (Option Nat):=(nW T (T+H) >>= λ_ => (forIn [H:a] ((Y:Option (Option Nat)),H) λf o => k3 (T+o.2) (T+o.2-1) >>= λp => match p with
    |some b => if b=V then pure (ForInStep.done (Y,o.2)) else pure (ForInStep.yield (Y,o.2+1))
    |f => pure<|ForInStep.done (Z Y,o.2)) >>= λo => match o.1 with
    |some p => pure p
    |none => pure (Z o.2))
def yq(T f:Nat)(o:Option (Option Nat)×Nat×Nat):StateT ba da (ForInStep<|Option (Option Nat)×Nat×Nat):=(k3 (T+o.2.1) (T+o.2.1-1) >>= λp=>match p with
 |some a=>if a=V then (if o.2.2>0 then nW (T+o.2.1-(o.2.2+1)) (T+o.2.1) >>= λ_=>pure (.yield (Y,o.2.1+1,0)) else pure (.yield (Y,o.2.1+1,0)))
  else k3 (T+o.2.1-1) (T+o.2.1) >>= λp=>match p with
   |some b=>if b=V then pure (.done (Y,o.2.1,o.2.2)) else pure (.yield (Y,o.2.1+1,o.2.2+1))
   |f=>pure (.done (Z Y,o.2.1,o.2.2))
 |f=>pure (.done (Z Y,o.2.1,o.2.2)))
def pf(T a H:Nat):StateT ba da (Option Nat):=(liftM (PySem.rule "list.sort.descending-run") >>= λ_=>forIn [H+1:a] ((Y:Option (Option Nat)),H+1,0) (yq T) >>= λo=>match o.1 with
 |some p=>pure p
 |none=>if o.2.2>0 then nW (T+o.2.1-(o.2.2+1)) (T+o.2.1) >>= λ_=>rE T a o.2.1 else rE T a o.2.1)
def yy(k:ew s G (dQ Lx I O U ae) j){T d H:Nat}(l:T+d<=s){u q:Array Nat}{J:ba}(Mr:kj G s T u q)(h:dx U ae m J q)(n:1<=H)(p:H<=d)(r:∀i,T+1<=i->i<T+H->aX G u i<=aX G u (i-1)){x:Option Nat->ba->ag->Prop}(e:∀H b f,1<=H->H<=d->cj s b->dx U ae m f b->(∀a,a<T->b[a]?=u[a]?)->(∀i,T+1<=i->i<T+H->aX G b (i-1)<=aX G b i)->x (Z H) f j):kasC (aP Lx I) O Ls (rE T d H) x J j:=by
 unfold rE;refine a4 (rl h λy LK=>?_);have F:=q0 Mr.j3 (a:=T) (i:=T+H) ⋯;have aS:∀a,T<=a->a<T+H->aX G (jJ q T<|T+H) a=aX G u (T+(T+H)-1-a):=λa g c=>(kg (by rw[F,aK ⟨g,c⟩])).trans (Mr.aS _);refine a4 (fV (w3 k l (Mr.j3.rev T<|T+H) LK n p λi z A=>?_) ?_)
 ·rw[aS _ ⋯ ⋯,aS _ ⋯ ⋯];have:=r (T+(T+H)-1-(i-1)) ⋯ ⋯;rw[show T+(T+H)-1-(i-1)-1=T+(T+H)-1-i by lia]at this;exact this
 ·rintro o f S ⟨rfl,rfl,t,rfl,B,v,w,C⟩;dsimp only;exact a3 (e t _ _ ⋯ v (Mr.j3.rev T<|T+H) LK (λa Lv=>by rw[F,aM ⋯];exact Mr.be a Lv) w)
def z7(A:ew s G (dQ Lx I O U ae) j){T p H:Nat}(D:T+p<=s){u q:Array Nat}{J:ba}(Mr:kj G s T u q)(h:dx U ae m J q)(an:1<=H)(ap:H<p)(N:∀i,T+1<=i->i<T+(H+1)->aX G u i<=aX G u (i-1)){x:Option Nat->ba->ag->Prop}(e:∀H z r,1<=H->H<=p->cj s z->dx U ae m r z->(∀a,a<T->z[a]?=u[a]?)->(∀i,T+1<=i->i<T+H->aX G z (i-1)<=aX G z i)->x (Z H) r j):kasC (aP Lx I) O Ls (pf T p H) x J j:=by
 have aN:∀{f v:Nat},v+1<=f->(∀i,T+f-v<=i->i<T+f->aX G u i=aX G u (i-1))->∀n,T+f-(v+1)<=n->n<T+f->aX G u n=aX G u (T+f-(v+1)):=λ{f v} hd d n g c=>by
  have:=yK (R:=aX G u) (g:=T+f-(v+1)) (c:=T+f) (λi f l=>d i ⋯ l) (n-(T+f-(v+1))) ⋯
  rwa [show T+f-(v+1)+(n-(T+f-(v+1)))=n by lia]at this
 unfold pf;refine a4 (lH<|ik ?_);refine a4 (fV (a:=λo r S=>j=S/\∃k f v,o=(Y,f,v)/\dx U ae m r k/\kj G s T u k/\H+1<=f/\f<=p/\v+1<=f/\(∀i,T+1<=i->i<T+f->aX G u i<=aX G u (i-1))/\∀i,T+f-v<=i->i<T+f->aX G u i=aX G u (i-1))
  (eQ (n2 (λf o r S=>j=S/\∃k v,o=(Y,f,v)/\dx U ae m r k/\kj G s T u k/\H+1<=f/\v+1<=f/\(∀i,T+1<=i->i<T+f->aX G u i<=aX G u (i-1))/\∀i,T+f-v<=i->i<T+f->aX G u i=aX G u (i-1)) p ?L6 _ _ _ _ _ ⋯ ?L7 ⟨rfl,q,0,rfl,h,Mr,bq _,⋯,N,λi g c=>⋯⟩)) ?Q)
 case L6=>
  rintro f o r S a1 ⟨rfl,k,v,rfl,P,b,B,y,t,w⟩;unfold yq;dsimp only;refine a4 (nC A b.j3 ⋯ ⋯ P ?_);dsimp only;rw[b.aS,b.aS];by_cases E:aX G u (T+f)<aX G u (T+f-1)
  ·rw[aK ⇑E];have F:∀i,T+1<=i->i<T+(f+1)->aX G u i<=aX G u (i-1):=λi C al=>by
    by_cases d:i=T+f
    ·subst d;lia
    ·exact t i C ⋯
   by_cases hd:v>0
   ·rw[aK hd];refine a4 (rl P λam LK=>?_);exact a3 ⟨rfl,_,0,rfl,LK,b.rev ⋯ ⋯<|aN y w,⋯,⋯,F,λi g c=>⋯⟩
   ·rw[aM hd];exact a3 ⟨rfl,k,0,rfl,P,b,⋯,⋯,F,λi g c=>⋯⟩
  ·rw[aM ⇑E];refine a4 (nC A b.j3 ⋯ ⋯ P ?_);dsimp only;rw[b.aS,b.aS];by_cases L:aX G u (T+f-1)<aX G u (T+f)
   ·rw[aK ⇑L];exact a3 ⟨rfl,k,f,v,rfl,P,b,B,⋯,y,t,w⟩
   ·rw[aM ⇑L];refine a3 ⟨rfl,k,v+1,rfl,P,b,⋯,⋯,λi C al=>?_,λi g c=>?_⟩
    ·by_cases d:i=T+f
     ·subst d;lia
     ·exact t i C ⋯
    ·by_cases d:i=T+f
     ·subst d;lia
     ·exact w i ⋯ ⋯
 case L7=>
  rintro o r S ⟨rfl,k,v,rfl,P,b,B,y,t,w⟩;rw[show H+1+(p-(H+1))=p by lia] at *;exact⟨rfl,k,p,v,rfl,P,b,B,bq _,y,t,w⟩
 case Q=>
  rintro o r S ⟨rfl,k,f,v,rfl,P,b,B,M,y,t,w⟩;dsimp only;by_cases hd:v>0
  ·rw[aK hd];refine a4 (rl P λam LK=>?_);exact yy A D (b.rev ⋯ ⋯<|aN y w) LK ⋯ M t e
  ·rw[aM hd];exact yy A D b P ⋯ M t e
def AO(T a:Nat): StateT ba da (Option Nat):=((forIn [1:a] ((Y:Option (Option Nat)),1) λf o => k3 (T+o.2) (T+o.2-1) >>= λp => match p with
    |some b => if b=V then pure (ForInStep.done (Y,o.2)) else pure (ForInStep.yield (Y,o.2+1))
    |f => pure<|ForInStep.done (Z Y,o.2)) >>= λo => match o.1 with
    |some p => pure p
    |none => if (o.2==a)=V then pure (Z o.2) else if o.2>1 then k3 T (T+o.2-1) >>= λp => match p with
      |some c => if c=V then pure (Z o.2) else nW T (T+o.2) >>= λ_ => pf T a o.2
      |f => pure Y
      else pf T a o.2)
def CS(T a:Nat):countRun' T a=AO T a:=by
 kernel_rfl
def Fm(l:ew s G (dQ Lx I O U ae) j){u:Array Nat}(b:cj s u){T f:Nat}(y:1<=f)(q:T+f<=s){J:ba}(h:dx U ae m J u){x:Option Nat->ba->ag->Prop}(e:∀H k r,1<=H->H<=f->cj s k->dx U ae m r k->(∀a,a<T->k[a]?=u[a]?)->(∀i,T+1<=i->i<T+H->aX G k (i-1)<=aX G k i)->x (Z H) r j):
  kasC (aP Lx I) O Ls (countRun' T f) x J j:=by
 rw[CS];unfold AO;have A:kj G s T u u:=⟨b,λ_ W=>rfl,λ_=>rfl⟩;refine a4 (fV (w3 l q b h (bq _) y λi g c=>⋯) ?_);rintro o r S ⟨rfl,rfl,H,rfl,t,B,p,D⟩;dsimp only;by_cases d:H=f
 ·rw[aK ⇑d];exact a3 (e H u _ t B b h (λ_ W=>rfl) p)
 rw[aM ⇑d];have E:aX G u (T+H)<aX G u (T+H-1):=D.resolve_left d;by_cases C:H>1
 ·rw[aK C];refine a4 (nC l b ⋯ ⋯ h ?_);dsimp only;by_cases LG:aX G u T<aX G u (T+H-1)
  ·rw[aK ⇑LG];exact a3 (e H u _ t B b h (λ_ W=>rfl) p)
  ·rw[aM ⇑LG];have F:∀v,v<H->aX G u T<=aX G u (T+v)/\aX G u (T+v)<=aX G u (T+H-1):=by
    have L:∀v,v<H->aX G u T<=aX G u (T+v):=λv=>by
     induction v with
     |zero=>intro W;exact jE _
     |succ v w=>
      intro hd;have g:=p (T+(v+1)) ⋯ ⋯;rw[show T+(v+1)-1=T+v by lia]at g;have:=w ⋯;lia
    have M:∀v,v<H->aX G u (T+H-1-v)<=aX G u (T+H-1):=λv=>by
     induction v with
     |zero=>intro W;exact jE _
     |succ v w=>
      intro hd;have g:=p (T+H-1-v) ⋯ ⋯;rw[show T+H-1-v-1=T+H-1-(v+1) by lia]at g;have:=w ⋯;lia
    intro v hd;refine⟨L v hd,?_⟩;have:=M (H-1-v) ⋯
    rwa [show T+H-1-(H-1-v)=T+v by lia]at this
   have z:∀n,T<=n->n<T+H->aX G u n=aX G u T:=λn g c=>by
    have:=F (n-T) ⋯;rw[show T+(n-T)=n by lia]at this;lia
   refine a4 (rl h λQ LK=>?_);exact z7 (u:=u) l q (A.rev (bq _) ⋯ z) LK t ⋯ (λi N P=>by
    by_cases d:i=T+H
    ·subst d;lia
    ·rw[z i ⋯ ⋯,z (i-1) ⋯ ⋯];exact jE _) e
 rw[aM C];obtain rfl:H=1:=⋯
 exact z7 (u:=u) l q A h (bq _) ⋯ (λi N P=>by
  obtain rfl:i=T+1:=⋯
  exact Int.le_of_lt E) e
end
section
variable{Lx:bf}{I:a5}{O:a9}{Ls:aa->ag->Prop}{U:fi}{ae:Array aZ}{G:Nat->Int}{s:Nat}{j:ag}{m:Array (Nat×Nat×Nat)}
variable{u:Array Nat}
theorem du.same:∀{E D:List (Nat×Nat×Nat)}{g c:Nat},du G u g E c->(E.map λf=>(f.1,f.2.1))=(D.map λf=>(f.1,f.2.1))->du G u g D c
 |[],[],g,c,e,_=>e
 |[],_::_,g,c,e,d=>by cases d
 |_::_,[],g,c,e,d=>by cases d
 | (f,L,B)::E,(j,k,l)::D,g,c,e,d=>by
  rw[c3,c3]at d;injection d with h i;injection h with a b;dsimp only at a b;subst a;subst b;exact⟨e.1,e.2.1,e.2.2.1,e.2.2.2.same i⟩
def IJ(C:Array (Nat×Nat×Nat))(a B:Nat):(C.toList.map λf=>(f.1,f.2.1))=((C.modify a λf=>(f.1,f.2.1,B)).toList.map λf=>(f.1,f.2.1)):=by
 apply ml;intro i;rw[eJ,eJ,gi,gi,Array.getElem?_modify];split
 ·rw[Option.map_map];rfl
 ·rfl
def fS.congr{q:Array Nat}{T H:Nat}(e:fS G u T H)(F:∀a,T<=a->aX G q a=aX G u a):fS G q T H:=λa i g c o=>by
 rw[F a g,F i ⋯];exact e a i g c o
def DA{aB:ft}{O:a9}{Ls:aa->ag->Prop}{w L0:Type}{o:Nat->Prop}{c:∀H,Decidable (o H)}{b Ml:Nat->StateT w da L0}{x:L0->w->ag->Prop}{j:ag}(LF:Nat->w->Prop)(h:∀H J,LF H J->kasC aB O Ls (Ml H) x J j)(a:(∀H J,LF H J->kasC aB O Ls (Ml H) x J j)->∀H J,o H->LF H J->kasC aB O Ls (b H) x J j):∀H J,LF H J->kasC aB O Ls (if o H then b H else Ml H) x J j:=λH J u=>
 if e:o H then by rw[aK e];exact a h H J e u else by rw[aM e];exact h H J u
variable{x:Unit->ba->ag->Prop}
def Jg(C:ew s G (dQ Lx I O U ae) j)(z:2<=s)(bi:∀t b,cj s t->ho G t s->arrOf b=t.map (aV ae)->fx b=Y->x () b j):kasC (aP Lx I) O Ls sortRuns' x (nZ U ae (range s).toArray) j:=by
 rw[sortRuns'_eq];refine a4 (hU ?_);dsimp only;have bm:(arrOf<|nZ U ae (range s).toArray).size=s:=by
  show ((range s).toArray.map<|aV ae).size=s;simp
 simp only[bm];refine a4 (fV (a:=λo b S=>j=S/\o=(Y,s)/\∃m u,cj s u/\dx U ae m b u/\du G u 0 m.toList s)
  (eQ (fl (λf o b S=>j=S/\∃T m u,o=(Y,T)/\f<=T/\T<=s/\cj s u/\dx U ae m b u/\du G u 0 m.toList T) ?step _ 0 _ _ _ ?fin ⟨rfl,0,#[],(range s).toArray,rfl,bq _,⋯,List.Perm.refl _,⟨rfl,rfl,rfl,rfl⟩,rfl⟩)) ?after)
 case fin=>
  rintro o b S ⟨rfl,T,m,u,rfl,g,c,v,d,R⟩;have:T=s:=⋯
  subst this;exact⟨rfl,rfl,m,u,v,d,R⟩
 case after=>
  rintro o b S ⟨rfl,rfl,m,u,r,h,Lp⟩;dsimp only;refine a4 (fV (a:=λo b S=>j=S/\o=(Y,())/\∃u,cj s u/\ho G u s/\arrOf b=u.map (aV ae)/\fx b=Y)
   (eQ (fl (λf o b S=>j=S/\o=(Y,())/\∃m u,cj s u/\dx U ae m b u/\du G u 0 m.toList s/\m.size+f<=s) ?D _ 0 _ _ _ ?f2 ⟨rfl,rfl,m,u,r,h,Lp,by have:=Lp.le;rw[eD]at this;lia⟩)) ?a2)
  case a2=>
   rintro o b S ⟨rfl,rfl,u,g,c,o,v⟩;exact a3 (bi u _ g c o v)
  case f2=>
   rintro o b S ⟨rfl,rfl,m,u,r,h,Lp,bn⟩;have d:m.toList=[]:=rG (by rw[eD];lia);rw[d]at Lp;have:0=s:=Lp;lia
  case D=>
   rintro f o b S ⟨rfl,rfl,m,u,r,h,Lp,bn⟩;refine a4 (hU ?_);by_cases d:(fT b).size<=1
   ·rw[aK d];refine a3 ⟨rfl,rfl,u,r,?_,h.a,h.f⟩;rw[h.p]at d;have bs:m.toList.length<=1:=by rw[eD];exact d
    match an:m.toList,bs with
    |[],_=>
     rw[an]at Lp;have:0=s:=Lp;lia
    |[(f,L,B)],_=>
     rw[an]at Lp;let@⟨rfl,_,bv,ca⟩:=Lp;have:0+L=s:=ca;exact λa i cd db=>bv a i (gY _) cd ⋯
    |_::_::_,e=>exact absurd e ↥0
   ·rw[aM d];rw[h.p]at d;have ce:∀P,P+1<m.size->kasC (aP Lx I) O Ls (pq P) (λc w D=>c=V/\j=D/\∃m u,cj s u/\dx U ae m w u/\du G u 0 m.toList s/\m.size+(f+1)<=s) b j:=λP ch=>
     v7 C r h ch Lp (bq _) λQ t ci g c o v ap=>⟨rfl,rfl,Q,t,g,c,v,⋯⟩;refine a4 (fV (ce _ ?_) ?_)
    ·rw[h.p];have:∀(o:Prop) [Decidable o],(if o then m.size-2-1 else m.size-2)+1<m.size:=λo W=>by split<;>lia
     exact this _
    ·rintro c w D ⟨rfl,rfl,cl⟩;rw[aM ∅];exact a3 ⟨rfl,rfl,cl⟩
 case step=>
  rintro f o b S ⟨rfl,T,m,u,rfl,ds,dL,r,h,Lp⟩;dsimp only;by_cases as:T >= s
  ·rw[aK as];have:T=s:=⋯
   subst this;exact a3 ⟨rfl,rfl,m,u,r,h,Lp⟩
  rw[aM as];refine a4 (Fm C r ⋯ ⋯ h ?_);intro H a1 A y E F Lw bd J;have q:H<=s-T/\1<=H/\∃u,cj s u/\dx U ae m A u/\du G u 0 m.toList T/\fS G u T H:=⟨E,y,a1,F,Lw,Lp.congr λa W c=>kg<|bd a c,vV J⟩;dsimp only;clear J bd Lw F y E;revert H A;refine DA (λH A=>H<=s-T/\1<=H/\∃u,cj s u/\dx U ae m A u/\du G u 0 m.toList T/\fS G u T H) ?_ ?_
  ·intro H w q;let@⟨E,y,⟨@Mh,M,LK,bp,N⟩⟩:=q;refine a4 (hU ?_);rcases eq:(fT w).back? with _|⟨ev,ex,fd⟩
   ·dsimp only;refine a4 (i2 ?_);refine a3 ⟨rfl,T+H,m.push (T,H,0),Mh,rfl,⋯,⋯,M,⟨LK.k,LK.a,by show (fT w).push _=_;rw[LK.p],LK.f⟩,?_⟩;rw[xO];exact du.app.mpr ⟨T,bp,rfl,⋯,N,rfl⟩
   ·dsimp only;refine a4 (fV (a:=λo b S=>j=S/\o=(Y,())/\∃m u,cj s u/\dx U ae m b u/\du G u 0 m.toList T/\fS G u T (H))
     (eQ<|fl (λf o b S=>j=S/\o=(Y,())/\∃m u,cj s u/\dx U ae m b u/\du G u 0 m.toList T/\fS G u T (H)) ?_ _ 0 _ _ _ (λ_ W W B=>B) ⟨rfl,rfl,m,Mh,M,LK,bp,N⟩) ?_)
    ·rintro l o b S ⟨rfl,rfl,m,u,r,h,Lp,O⟩;refine a4 (hU ?_);by_cases d:(fT b).size>1
     ·rw[aK d];rcases fn:(fT b)[(fT b).size-2]? with _|⟨g,c,fr⟩
      ·dsimp only;exact a3 ⟨rfl,rfl,m,u,r,h,Lp,O⟩
      ·dsimp only;split
       ·exact a3 ⟨rfl,rfl,m,u,r,h,Lp,O⟩
       ·refine a4 (v7 C r h (by rw[h.p]at d ⊢;lia) Lp ⋯ ?_);intro Q t ci g c o v ap;rw[aM ∅];exact a3 ⟨rfl,rfl,Q,t,g,c,v,O.congr ap⟩
     ·rw[aM d];dsimp only;exact a3 ⟨rfl,rfl,m,u,r,h,Lp,O⟩
    ·rintro o b S ⟨rfl,rfl,m,u,r,h,Lp,O⟩;dsimp only;refine a4 (i2 ?_);refine a4 (i2 ?_);refine a3 ⟨rfl,T+H,(m.modify (m.size-1) _).push (T,H,0),u,rfl,⋯,⋯,r,⟨h.k,h.a,by show ((fT b).modify ((fT b).size-1) _).push _=_;rw[h.p],h.f⟩,?_⟩;rw[xO];exact du.app.mpr ⟨T,Lp.same<|IJ _ _ _,rfl,⋯,O,rfl⟩
  ·intro LA H A f0 q;let@⟨E,y,⟨@a1,F,Lw,co,J⟩⟩:=q;refine a4 (lH<|ik ?_);have al:H<=min (s-T) (minRun' s s 0):=⋯
   have be:min (s-T) (minRun' s s 0)<=s-T:=⋯
   generalize min (s-T) (minRun' s s 0)=cr at al be ⊢;refine a4 (Hw C F ⋯ y al J Lw ?_);intro Mh w M LK cs N;rw[aM ∅];exact LA cr w ⟨be,dv y al,Mh,M,LK,co.congr λa W c=>kg<|cs a c,N⟩
def AR(c:ew s G (dQ Lx I O U ae) j)(z:2<=s)(e:s<1001\/∀i,1<=i->i<s->G (i-1)<=G i)(d:∀a b,cj s a->ho G a s->arrOf b=a.map (aV ae)->fx b=Y->x () b j):kasC (aP Lx I) O Ls sortRuns' x (nZ U ae (range s).toArray) j:=Jg c z d
end
end L2
namespace L2
open Spec PyProof.Rows
section
variable{b:aE}{M:List (af×aQ)}{w:aW}{h:aq}{j:ag}{Lq:a0}
variable{Mt:List af}{LY:Nat}
def aA.GJ{LA:af}{C:List ah}(t:aA b M w h j)(f:∀c∈Mt,h9 b M h c)(n:∀c m,c∉Mt->j.heap.get? c=Z m->Lq.get? c=Z m)(k:j.heap.objs.size<=LA)(new:dG b.prog b.w (upd h LA<|.tup C) Lq LA (.tup C)):aA b M w (upd h LA<|.tup C) {j with heap:=Lq,toks:=LY}:=by
 have i:h LA=Y:=t.aT.fresh k;have r:∀c m,j.heap.get? c=Z m->c≠LA:=λc m d=>c8 (dn (bQ d) k);have l:∀c D,h c=Z D->c∉Mt:=λc D d B=>by rw[(f c B).1]at d;cases d
 refine t.step (MF:=j.gens) (Mk:=j.drawn) (Mt:=Mt) (λc a=>⟨(f c a).2.2.2.1,(f c a).2.1,(f c a).2.2.2.2.1,(f c a).2.2.2.2.2⟩) (λc m W W e d W=>n c m e d) (λc m W W e d W=>⟨m.slots,n c m e d⟩)
  (λc m W d s=>by rw[bB (r c m d)];exact s) (λc m e d=>⟨m,n c m e d⟩) (λc m W e d W=>n c m e d) (λc LH d=>by rw[bB (eM d i)];exact d) (λc m D d=>by rw[bB (eM d i)];exact d)
  (λc d=>⟨by rw[bB (eM d i)];exact d,λa=>.of λm=>n c m a⟩) (λH u=>?_) (λg m d=>?_) t.bare
 ·let⟨m,Lu,@Mg,v,p⟩:=u;exact⟨m,Lu,Mg,n _ m (λB=>(f _ B).2.1 rfl) v,p⟩
 ·by_cases o:g=LA
  ·subst o;rw[de]at d;cases d;exact new
  ·rw[bB o]at d;refine (t.aT g m d).fC (λc D a q=>n c D ?_ q) (λc q=>by rw[bB (eM q i)];exact q) (λc LH q=>by rw[bB (eM q i)];exact q) λc m LH q=>by rw[bB (eM q i)];exact q
   rcases a with B|B
   ·rw[B];exact l g m d
   ·exact l c _ B
def aA.Ia(t:aA b M w h j)(f:∀c∈Mt,h9 b M h c)(n:∀c m,c∉Mt->j.heap.get? c=Z m->Lq.get? c=Z m):aA b M w h {j with heap:=Lq,toks:=LY}:=by
 have i:∀c D,h c=Z D->c∉Mt:=λc D d B=>by rw[(f c B).1]at d;cases d
 refine t.step (MF:=j.gens) (Mk:=j.drawn) (Mt:=Mt) (λc a=>⟨(f c a).2.2.2.1,(f c a).2.1,(f c a).2.2.2.2.1,(f c a).2.2.2.2.2⟩) (λc m W W e d W=>n c m e d) (λc m W W e d W=>⟨m.slots,n c m e d⟩)
  (λc m W W s=>s) (λc m e d=>⟨m,n c m e d⟩) (λc m W e d W=>n c m e d) (λc LH d=>d) (λc m D d=>d) (λc d=>⟨d,λa=>.of λm=>n c m a⟩) (λH k=>?_) (λg m d=>?_) t.bare
 ·let⟨m,Lu,@Mg,l,p⟩:=k;exact⟨m,Lu,Mg,n _ m (λB=>(f _ B).2.1 rfl) l,p⟩
 ·refine (t.aT g m d).fC (λc D a q=>n c D ?_ q) (λc q=>q) (λc LH q=>q) λc m LH q=>q;rcases a with B|B
  ·rw[B];exact i g m d
  ·exact i c _ B
end
section
variable{Lx:bf}{I:a5}{O:a9}{Ls:aa->ag->Prop}{j:ag}
variable{a:Nat}{T:Array aa}{x:aa->ag->Prop}
def tB{ae E:af}{f:aa}(d:j.heap.IsTupleIter ae E a)(e:j.heap.IsTuple E T)(g:T[a]?=Z f)(q:∀Lq,Lq.IsTupleIter ae E (a+1)->a0.SameBut ae j.heap Lq->x f {j with heap:=Lq}):wpAny (aP Lx I) O (bO.SmallTypes.nextOf<|.ref ae) x Ls j:=by
 let⟨@m,c,h,b⟩:=id d;let⟨@ol,g1,W,⟨@k,i⟩⟩:=e;unfold bO.SmallTypes.nextOf;refine aD (mT (name:=az.ofString "__next__") d.typeIs q7<|iS q7 d.typeIs ze ?B<|vU _)
 case B=>
  show wpAny _ _ (ke (.ref ae) 0 >>= _) _ _ j;refine aD (hl c b (x:=.ref E) rfl ?_);show wpAny _ _ (if (aa.ref E==aa.none)=V then _ else _) _ _ j;rw[aM (show ¬ (aa.ref E==aa.none)=V by intro B;cases B)];show wpAny _ _ (ke (.ref ae) 1 >>= _) _ _ j;refine aD (hl c b (x:=.int a 0) rfl ?_);show wpAny _ _ (n4 (.ref E) >>= _) _ _ j;refine aD (hg g1 i ?_);simp only[o6,g];refine aD (pk c b ↥0 (bk ⟨f,rfl,bk (q _ ⟨_,oN _ c<|BN<|pw b _,(yS ..).trans h,by rw[pw b];simp[ep]⟩<|pA ..)⟩))
def Ab{ae E:af}(h:O.handled=Y)(b:j.heap.IsTupleIter ae E a)(i:j.heap.IsTuple E T)(k:T[a]?=Y)(q:∀Lq d,a0.ExtBut ae j.heap Lq->(∃m,Lq.get? d=Z m/\m.cls=.type "StopIteration")->Ls (.ref d) {j with heap:=Lq}):wpAny (aP Lx I) O (bO.SmallTypes.nextOf<|.ref ae) x Ls j:=by
 let⟨@m,c,n,e⟩:=id b;let⟨@ol,g1,W,⟨@o,l⟩⟩:=i;unfold bO.SmallTypes.nextOf;refine aD (mT (name:=az.ofString "__next__") b.typeIs q7<|iS q7 b.typeIs ze ?B<|vU _)
 case B=>
  show wpAny _ _ (ke (.ref ae) 0 >>= _) _ _ j;refine aD (hl c e (x:=.ref E) rfl ?_);show wpAny _ _ (if (aa.ref E==aa.none)=V then _ else _) _ _ j;rw[aM (show ¬ (aa.ref E==aa.none)=V by intro B;cases B)];show wpAny _ _ (ke (.ref ae) 1 >>= _) _ _ j;refine aD (hl c e (x:=.int a 0) rfl ?_);show wpAny _ _ (n4 (.ref E) >>= _) _ _ j;refine aD (hg g1 l ?_);simp only[o6,k];refine aD (ik (aD (pk c e ↥0 ?_)));show wpAny _ _ (rz (.type "StopIteration") [] >>= _) _ _ _;apply aD;simp only[rz,vn];refine aD (jB (aD (m:=qc _ _) (tp (a:=aa.none) (by first|rfl|(simp only[qc];rfl)) (jB ?_ (by size_fits)))) (by size_fits));simp only[raiseNew];apply aD;apply Br;rw[show O.in1.handled=Y from h];refine aD (m:=pure _) (bk<|wpAny_throw ?_);exact q _ _ (((pA ..).extBut.push _).push _) ⟨_,df _ rfl,rfl⟩
end
section
variable{Lx:bf}{I:a5}{O:a9}{Ls:aa->ag->Prop}{j:ag}
variable{e Lq:a0}{g:af}
def g4{E:af}{a:Nat}(f:e.IsTupleIter g E a)(n:∀m,e.get? g=Z m->Lq.get? g=Z m):Lq.IsTupleIter g E a:=let ⟨m,d,p⟩:=f;⟨m,n m d,p⟩
variable{C:Array aa}
def l8(f:e.IsTuple g C)(n:∀m,e.get? g=Z m->Lq.get? g=Z m):Lq.IsTuple g C:=let ⟨m,d,p⟩:=f;⟨m,n m d,p⟩
variable{g c:aa}{L9 L_:Nat}{LH:Array aa}
def DH{B cw cx b e q s:af}{f l:aa}{x:aa->ag->Prop}(k:o9 B cw cx b e q s)(u:hs j.heap B cw cx .none)(ap:gG j.heap cw (.ref b) (.ref e))(as:gG j.heap cx g c)(y:j.heap.IsTupleIter b q L9)(z:j.heap.IsTupleIter e s L_)(a1:j.heap.IsTuple q C)(a2:j.heap.IsTuple s LH)(bd:C[L9]?=Z f)(be:LH[L_]?=Z l)(bi:∀Lq,hs Lq B cw cx (ep j.heap.objs.size)->gG Lq cx f l->Lq.IsTupleIter b q (L9+1)->Lq.IsTupleIter e s (L_+1)->gG Lq j.heap.objs.size f l->
   (∀o m,o≠B->o≠cx->o≠b->o≠e->j.heap.get? o=Z m->Lq.get? o=Z m)->x (.ref j.heap.objs.size) {j with heap:=Lq}):
  wpAny (aP Lx I) O (bO.«zip.__next__» ⟨[.ref B],[]⟩) (λbm S=>∃r,bm=.done (.ret r)/\x r S) Ls j:=by
 show wpAny _ _ (ke (.ref B) 2 >>= _) _ _ _;refine aD (hl u rfl (x:=.bool ar) rfl ?_);show wpAny _ _ (ke (.ref B) 3 >>= _) _ _ _;refine aD (hl u rfl (x:=.ref cw) rfl<|aD<|hg ap rfl ?_);show wpAny _ _ (bO.SmallTypes.ownedTupleIsFree (.ref B) >>= _) _ _ _;apply aD;unfold bO.SmallTypes.ownedTupleIsFree;refine aD (hl u rfl (x:=.none) rfl<|bk ?_);simp only[jV];refine aD (ik (aD (hl u rfl (x:=.ref cx) rfl (aD (l1 u ↥0 λP G h=>?_)))));replace G:hs P B cw cx .ellipsis:=G;apply aD;simp only[u5,AE,uP,zj];refine aD (aD<|p0 ?_);show wpAny _ _ (bO.SmallTypes.nextOf (.ref b) >>= _) _ _ _;refine aD (tB (j:={j with heap:=P}) (g4 y λm d=>h.extBut _ m k.i1z d) (l8 a1 λm d=>h.extBut _ m k.l1z d) bd λH bn n=>bk ?_);have Mw:gG H cx g c:=n.extBut _ _ k.TOi1 (h.extBut _ _ k.TOz as);refine aD (hg (s:={j with heap:=H}) Mw rfl<|aD<|sZ (s:={j with heap:=H}) Mw λQ t p=>?_);replace t:gG Q cx f c:=t;refine aD (jI<|bk<|aD<|aD<|p0 ?_);show wpAny _ _ (bO.SmallTypes.nextOf (.ref e) >>= _) _ _ _;refine aD (tB (j:={j with heap:=Q}) (g4 z λm d=>p.extBut _ m k.TOi2.symm<|n.extBut _ m k.i12.symm<|h.extBut _ m k.i2z d) (l8 a2 λm d=>p.extBut _ m k.l2TO<|n.extBut _ m k.l2i1<|h.extBut _ m k.l2z d) be λJ bs v=>bk ?_);have Mn:gG J cx f c:=v.extBut _ _ k.TOi2 t;refine aD (hg (s:={j with heap:=J}) Mn rfl<|aD<|sZ (s:={j with heap:=J}) Mn λa Mu w=>?_);replace Mu:gG a cx f l:=Mu;refine aD (jI<|bk<|bk<|aD<|hg (s:={j with heap:=a}) Mu rfl<|aD<|tu ?_);have R:a.objs.size=j.heap.objs.size:=by rw[w.1,v.1,p.1,n.1,h.1]
 have T:hs a B cw cx .ellipsis:=w.extBut _ _ k.TOz.symm (v.extBut _ _ k.i2z.symm<|p.extBut _ _ k.TOz.symm<|n.extBut _ _ k.i1z.symm G);have bv:∀o m,o≠B->o≠cx->o≠b->o≠e->j.heap.get? o=Z m->a.get? o=Z m:=λo m i A L M d=>w.extBut _ _ A (v.extBut _ _ M<|p.extBut _ _ A<|n.extBut _ _ L<|h.extBut _ _ i d);have cF:a.IsTupleIter b q (L9+1):=g4 bn λm d=>w.extBut _ m k.TOi1.symm (v.extBut _ m k.i12<|p.extBut _ m k.TOi1.symm d);have cS:a.IsTupleIter e s (L_+1):=g4 bs λm d=>w.extBut _ m k.TOi2.symm d;have U:B<a.objs.size:=bQ T;show wpAny _ _ (bO.SmallTypes.ownedTupleHandOut (.ref B) (.ref a.objs.size) >>= _) _ _ _;apply aD;unfold bO.SmallTypes.ownedTupleHandOut;have ca:hs (a.push {cls:=.type "tuple",data:=.seq #[f,l]}) B cw cx .ellipsis:=b4 _ T;refine aD (l1 ca ↥0 λcd N al=>?_);replace N:hs cd B cw cx (ep a.objs.size):=N;refine l1 N ↥0 λD E am=>?_;replace E:hs D B cw cx (ep a.objs.size):=E;have F:∀o m,o≠B->a.get? o=Z m->D.get? o=Z m:=λo m i d=>am.extBut _ _ i (al.extBut _ _ i<|b4 _ d);have an:gG D a.objs.size f l:=am.extBut _ _ (jR U) (al.extBut _ _ (jR U)<|df _ rfl);rw[R]at E an;refine bk ⟨_,rfl,?_⟩;show x (.ref a.objs.size) _;rw[R];exact bi D E (F _ _ k.TOz Mu) (g4 cF λm d=>F _ m k.i1z d) (g4 cS λm d=>F _ m k.i2z d) an λo m i A L M d=>F o m i (bv o m i A L M d)
def Cr{B cw cx l n w A:af}{x:PySem.Fin->ag->Prop}(M:O.handled=Y)(k:o9 B cw cx l n w A)(p:hs j.heap B cw cx .none)(U:gG j.heap cw (.ref l) (.ref n))(al:gG j.heap cx g c)(y:j.heap.IsTupleIter l w L9)(z:j.heap.IsTupleIter n A L_)(N:j.heap.IsTuple w C)(am:j.heap.IsTuple A LH)(an:C[L9]?=Y\/LH[L_]?=Y)(P:∀Lq d,(∀o m,o≠B->o≠cx->o≠l->o≠n->j.heap.get? o=Z m->Lq.get? o=Z m)->(∃m,Lq.get? d=Z m/\m.cls=.type "StopIteration")->Ls (.ref d) {j with heap:=Lq}):
  wpAny (aP Lx I) O (bO.«zip.__next__» ⟨[.ref B],[]⟩) x Ls j:=by
 show wpAny _ _ (ke (.ref B) 2 >>= _) _ _ _;refine aD (hl p rfl (x:=.bool ar) rfl ?_);show wpAny _ _ (ke (.ref B) 3 >>= _) _ _ _;refine aD (hl p rfl (x:=.ref cw) rfl<|aD<|hg U rfl ?_);show wpAny _ _ (bO.SmallTypes.ownedTupleIsFree (.ref B) >>= _) _ _ _;apply aD;unfold bO.SmallTypes.ownedTupleIsFree;refine aD (hl p rfl (x:=.none) rfl<|bk ?_);simp only[jV];refine aD (ik (aD (hl p rfl (x:=.ref cx) rfl (aD (l1 p ↥0 λD v a=>?_)))));replace v:hs D B cw cx .ellipsis:=v;apply aD;simp only[u5,AE,uP,zj];refine aD (aD<|p0 ?_);show wpAny _ _ (bO.SmallTypes.nextOf (.ref l) >>= _) _ _ _;cases E:C[L9]? with
 |none=>
  refine aD (Ab (j:={j with heap:=D}) M (g4 y λm d=>a.extBut _ m k.i1z d) (l8 N λm d=>a.extBut _ m k.l1z d) E λr d b F=>?_);let⟨@G,h,s⟩:=F;have Q:hs r B cw cx .ellipsis:=b _ _ k.i1z.symm v;have H:d≠B:=λq=>by subst q;rw[Q]at h;cases h;simp at s
  refine l1 Q ↥0 λJ W i=>P J d (λo m u W L W q=>i.extBut _ _ u<|b _ _ L<|a.extBut _ _ u q) ⟨G,i.extBut _ _ H h,s⟩
 |some f=>
  have ap:LH[L_]?=Y:=by
   rcases an with e|e
   ·rw[E]at e;cases e
   ·exact e
  refine aD (tB (j:={j with heap:=D}) (g4 y λm d=>a.extBut _ m k.i1z d) (l8 N λm d=>a.extBut _ m k.l1z d) E λr be b=>bk ?_);have Mw:gG r cx g c:=b.extBut _ _ k.TOi1 (a.extBut _ _ k.TOz al);refine aD (hg (s:={j with heap:=r}) Mw rfl<|aD<|sZ (s:={j with heap:=r}) Mw λJ t i=>?_);refine aD (jI<|bk<|aD<|aD<|p0 ?_);show wpAny _ _ (bO.SmallTypes.nextOf (.ref n) >>= _) _ _ _;refine aD (Ab (j:={j with heap:=J}) M (g4 z λm d=>i.extBut _ m k.TOi2.symm<|b.extBut _ m k.i12.symm<|a.extBut _ m k.i2z d) (l8 am λm d=>i.extBut _ m k.l2TO<|b.extBut _ m k.l2i1<|a.extBut _ m k.l2z d) ap λas d R F=>?_);let⟨@G,h,s⟩:=F;have S:hs as B cw cx .ellipsis:=R _ _ k.i2z.symm (i.extBut _ _ k.TOz.symm<|b.extBut _ _ k.i1z.symm v);have H:d≠B:=λq=>by subst q;rw[S]at h;cases h;simp at s
  refine l1 S ↥0 λa1 W T=>P a1 d (λo m u a2 L bd q=>T.extBut _ _ u<|R _ _ bd<|i.extBut _ _ a2<|b.extBut _ _ L<|a.extBut _ _ u q) ⟨G,T.extBut _ _ H h,s⟩
end
variable{j:ag}{Mc:bp}{LV Mf LU:List Nat}{own LO:List az}{Mm LS o d c g:a7}{Mv:List cv}{Ls:k1}{J:cv}{MH w:aW}{fd:fu}{s MK:Nat}{Q C:List ah}{A:List X}{aH L5 O Lp LQ LI LW Ly N:List af}{x:cp}{f:az}{p Lu:List a7}{LY:dq}{b:aE}{LK Lw P h:aq}{r:ah}{u LC:Pos}{Lr:Φ}
def ie(e:a0)(a b:af):a0:=(((((e.push {cls:=.type "tuple_iterator",data:=.fields #[.ref a,.int 0 0]}).push {cls:=.type "tuple_iterator",data:=.fields #[.ref b,.int 0 0]}).push
 {cls:=.type "tuple",data:=.seq #[.ref e.objs.size,.ref (e.push {cls:=.type "tuple_iterator",data:=.fields #[.ref a,.int 0 0]}).objs.size]}).push {cls:=.type "tuple",data:=.seq #[.none,.none]}))
def CK(a b:af)(C LH:Array aa):
    Meets (bO.«zip.__new__» ⟨[.type "zip", .ref a,.ref b],[]⟩) (λ_ Lp j => j.heap.IsTuple a C /\ j.heap.IsTuple b LH /\
      Lp (.ok<|.ret<|.ref (ie j.heap a b).objs.size) {j with heap:=(ie j.heap a b).push {cls:=.type "zip", data:=.fields #[.none,.bool ar,.bool ar,.ref ((j.heap.push {cls:=.type "tuple_iterator", data:=.fields #[.ref a,.int 0 0]}).push {cls:=.type "tuple_iterator", data:=.fields #[.ref b,.int 0 0]}).objs.size,
        .ref (((j.heap.push {cls:=.type "tuple_iterator", data:=.fields #[.ref a,.int 0 0]}).push {cls:=.type "tuple_iterator", data:=.fields #[.ref b,.int 0 0]}).push
  {cls:=.type "tuple", data:=.seq #[.ref j.heap.objs.size,.ref (j.heap.push {cls:=.type "tuple_iterator", data:=.fields #[.ref a,.int 0 0]}).objs.size]}).objs.size]} }) :=
  .of_wp λLx I O Lp j e => by
    let⟨c,F,v,Md,LM⟩:=j;let@⟨f,g,e⟩:=e;have k:=sub_zip;have h:a0.IsTuple (ag.heap ⟨c,F,v,Md,LM⟩) a C:=f;have i:a0.IsTuple (ag.heap ⟨c.push {cls:=.type "tuple_iterator", data:=.fields #[.ref a,.int 0 0]}, F,v,Md,LM⟩) b LH:=l8 g λm d => b4 _ d
    wp_walk using wpAny_pyIter_tuple h,wpAny_pyIter_tuple i
    exact ⟨_,rfl,e⟩
def pC(Lr:Φ)(g c:af):hz:=(
 ⟨λa h=>∃C LH f l,b3 Lr h g C/\b3 Lr h c LH/\C[a]?=Z f/\LH[a]?=Z l,
  λa h r P=>∃LA f l,h LA=Y/\r=.ref LA/\P=upd h LA (.tup [f,l])/\(∀C,b3 Lr h g C->C[a]?=Z f)/\(∀LH,b3 Lr h c LH->LH[a]?=Z l),
  λa h=>∃C LH,b3 Lr h g C/\b3 Lr h c LH/\(C.length<=a\/LH.length<=a)⟩)
def v8(g c B cw cx b d:af)(a:Nat)(e:a0):Prop:=(hs e B cw cx .none/\gG e cw (.ref b) (.ref d)/\(∃u q,gG e cx u q)/\e.IsTupleIter b g a/\e.IsTupleIter d c a)
theorem J3{LF:bf}{I:a5}(g c B cw cx v F:af)(k:o9 B cw cx v F g c):
  oE LF I Lr (.Tuple Lu MK LC) (pC Lr g c) [B,cw,cx,v,F] B (v8 g c B cw cx v F) where
 mem:=by simp
 obj:=λa e J o i=>by
  let@⟨y,z,⟨u,@q,s⟩,⟨@Mn,al,_,bv⟩,⟨@Mu,am,_,ca⟩⟩:=J;simp only[cu,lZ,lu]at i;rcases i with rfl|rfl|rfl|rfl|rfl
  ·exact⟨_,y,λr d=>by cases d⟩
  ·exact⟨_,z,λr d=>by cases d⟩
  ·exact⟨_,s,λr d=>by cases d⟩
  ·exact⟨_,al,λr d=>by rw[bv]at d;cases d⟩
  ·exact⟨_,am,λr d=>by rw[ca]at d;cases d⟩
 keep:=λa e Lq J n=>by
  let@⟨y,z,⟨u,@q,s⟩,G,H⟩:=J;exact⟨n B ↥0 _ y,n cw ↥0 _ z,⟨u,q,n cx ↥0 _ s⟩,g4 G λm d=>n v ↥0 m d,g4 H λm d=>n F ↥0 m d⟩
 item:=by
  intro b an ap as i a M j w h Ls t Q J a1;subst an ap as;let⟨C,LH,f,@l,R,T,bi,bm⟩:=a1;let⟨@Lz,a2,u,L⟩:=t.tuple R;let⟨@bd,be,Mh,cd⟩:=t.tuple T;let⟨@D,ce,ch⟩:=a2.get bi;let⟨@bn,ci,cl⟩:=be.get bm;have co:=J;let@⟨y,z,⟨bA,@iu,s⟩,G,H⟩:=J;have N:j.TypeIs (.ref B) "zip" := ⟨_,y,rfl⟩;unfold hN;refine aD (mJ (mT (name:=az.ofString "__next__") N rp (iS rp N wd
   (DH (x:=λr S=>wpAny (aP b.prog b.w) b.A (pure<|Z r) (λp cr=>∃D,p=Z D/\wpAny (aP b.prog b.w) b.A (nH (.Tuple Lu MK LC) (.ref B) D) (λ_ bs=>∃f P,aA b M w P bs/\bC f D/\(pC b.K g c).m4 a h f P/\v8 g c B cw cx v F (a+1) bs.heap/\∀c∈[B,cw,cx,v,F],P c=Y) Ls cr) Ls S)
    k y z s G H (show j.heap.IsTuple g Lz.toArray from u) (show j.heap.IsTuple c bd.toArray from Mh) (f:=D) (l:=bn) ⇑ce ⇑ci λLq cs db ds dL eq U=>bk ⟨_,rfl,?_⟩) (Ay _))));refine wpAny_letOwnedTupleGo_zip cs λev ex b5=>?_;have lt:∀o∈[B,cw,cx,v,F],o<j.heap.objs.size:=λo i=>by
   let@⟨y,z,⟨u,@q,s⟩,⟨@Mn,al,_⟩,⟨@Mu,am,_⟩⟩:=co;simp only[cu,lZ,lu]at i;rcases i with rfl|rfl|rfl|rfl|rfl
   ·exact bQ y
   ·exact bQ z
   ·exact bQ s
   ·exact bQ al
   ·exact bQ am
  have eu:∀o m,o∉[B,cw,cx,v,F]->j.heap.get? o=Z m->ev.get? o=Z m:=λo m i d=>by
   simp only[cu,lZ,lu,not_or]at i;exact b5.extBut _ _ i.1 (U o m i.1 i.2.2.1 i.2.2.2.1 i.2.2.2.2 d)
  have fd:j.heap.objs.size≠B:=jR (lt B ↥0);have fn:h j.heap.objs.size=Y:=t.aT.fresh (bq _);refine⟨.ref j.heap.objs.size,upd h j.heap.objs.size<|.tup [f,l],t.GJ (LY:=j.toks) Q eu (bq _) ⟨by show 2<=sizeLine;decide,[D,bn],.cons ch<|.cons cl .nil,?_⟩,rfl,⟨_,f,l,fn,rfl,rfl,λE L=>?_,λE L=>?_⟩,?_,λo i=>?_⟩
  ·exact⟨_,b5.extBut _ _ fd eq,rfl,0,rfl⟩
  ·rw[t.tS L R];exact bi
  ·rw[t.tS L T];exact bm
  ·exact⟨ex,b5.extBut _ _ k.TIz<|U _ _ k.TIz k.TITO k.TIi1 k.TIi2 z,⟨_,_,b5.extBut _ _ k.TOz db⟩,g4 ds λm d=>b5.extBut _ m k.i1z d,g4 dL λm d=>b5.extBut _ m k.i2z d⟩
  ·rw[bB (c8<|lt o i)];exact (Q o i).1
 done:=by
  intro b an ap as i a M j w h Ls t Q J a1;subst an ap as;let⟨C,@LH,R,T,fr⟩:=a1;let⟨@Lz,a2,u,L⟩:=t.tuple R;let⟨@bd,be,Mh,cd⟩:=t.tuple T;let@⟨y,z,⟨bA,@iu,s⟩,G,H⟩:=J;have N:j.TypeIs (.ref B) "zip" := ⟨_,y,rfl⟩;have f2:=a2.length;have f4:=be.length;unfold hN;refine aD (mJ (mT (name:=az.ofString "__next__") N rp (iS rp N wd
   (Cr (t.ok.hd i) k y z s G H (show j.heap.IsTuple g Lz.toArray from u) (show j.heap.IsTuple c bd.toArray from Mh) (by
    rcases fr with e|e
    ·exact .inl (by simp;lia)
    ·exact .inr (by simp;lia)) λLq d U ⟨m,f0,f1⟩=>?_) (Ay _))))
  refine aD (td (T := "StopIteration") (b:=V) ⟨m,f0,f1⟩ wb<|bk ⟨rfl,t.Ia (LY:=j.toks) Q λo m i d=>?_⟩);simp only[cu,lZ,lu,not_or]at i;exact U o m i.1 i.2.2.1 i.2.2.2.1 i.2.2.2.2 d
 self:=λ_ W W W W J e=>z4 J.1 e
section
variable{b:aE}
def KH(Lr:Φ)(L8:ei):cw:=(λw h Lp=>L8 w h λQ Lw=>∃g c,Q=[.ref g,.ref c]/\(∃C,b3 Lr Lw g C)/\(∃LH,b3 Lr Lw c LH)/\Lp (pC Lr g c) Lw)
def IL{L8:ei}{LO:Pos}(H:eC b "zip")(I:b.aI "zip" = Y)(J:gd b [g,c] L8)(au:bu [g,c] b.env=[(ar,bU g b.env),(ar,bU c b.env)]:=by rfl)(x:bu [c] b.env=[(ar,bU c b.env)]:=by rfl):
  jq b (.Tuple Lu MK LO) (.Call (.Name "zip" u) [g,c] [] LC) (KH b.K L8):=by
 intro M j w h Lp t e;refine Call_ (l3 t H I boot_zip (r8 (bK (J LC M j w h _ t e) λLP a ⟨Q,Lw,l,L,O⟩=>?_) (by rw[au,x]) (by rw[x];rfl)));let⟨f,@i,d,⟨@C,P⟩,⟨@LH,R⟩,q⟩:=O;subst d;cases L with
 |cons p s=>
  cases s with
  |cons Mc s=>
   cases s;cases p;cases Mc;let⟨@Lz,an,u,ap⟩:=l.tuple P;let⟨@S,as,Mh,a1⟩:=l.tuple R;have T:f<a.heap.objs.size:=by let⟨@m,d,U⟩:=u;exact bQ d
   have al:i<a.heap.objs.size:=by let⟨@m,d,U⟩:=Mh;exact bQ d
   refine callType_new F.called_zip ∅ (F.typeCall_zip_2 _ _) (F.newCall_zip_2 _ _) (λam=>F.args_object_init_3 am _ _) F.entry_zip_new (CK f i Lz.toArray S.toArray) ⟨u,Mh,?_⟩;have v:(a.heap.push {cls:=.type "tuple_iterator",data:=.fields #[.ref f,.int 0 0]}).objs.size=a.heap.objs.size+1:=jn ..;have n:((a.heap.push {cls:=.type "tuple_iterator",data:=.fields #[.ref f,.int 0 0]}).push {cls:=.type "tuple_iterator",data:=.fields #[.ref i,.int 0 0]}).objs.size=a.heap.objs.size+2:=by rw[jn,v]
   have r:(((a.heap.push {cls:=.type "tuple_iterator",data:=.fields #[.ref f,.int 0 0]}).push {cls:=.type "tuple_iterator",data:=.fields #[.ref i,.int 0 0]}).push
    {cls:=.type "tuple",data:=.seq #[.ref a.heap.objs.size,.ref (a.heap.push {cls:=.type "tuple_iterator",data:=.fields #[.ref f,.int 0 0]}).objs.size]}).objs.size=a.heap.objs.size+3:=by rw[jn,n]
   have y:(ie a.heap f i).objs.size=a.heap.objs.size+4:=by unfold ie;rw[jn,r]
   show _/\_;refine⟨⟨_,df _ rfl,rfl⟩,z4 (TI:=a.heap.objs.size+2) (TO:=a.heap.objs.size+3) (f0:=.none) ?_ ?_⟩
   ·rw[n,r];exact df _ rfl
   ·rw[n,r,y];have z:((ie a.heap f i).push {cls:=.type "zip",data:=.fields #[.none,.bool ar,.bool ar,.ref<|a.heap.objs.size+2,.ref<|a.heap.objs.size+3]}).get? (a.heap.objs.size+4)=Z {cls:=.type "zip",data:=.fields #[.none,.bool ar,.bool ar,.ref<|a.heap.objs.size+2,.ref<|a.heap.objs.size+3]}:=by rw[<-y];exact df _ rfl
    have A:((ie a.heap f i).push {cls:=.type "zip",data:=.fields #[.none,.bool ar,.bool ar,.ref<|a.heap.objs.size+2,.ref<|a.heap.objs.size+3]}).get? (a.heap.objs.size+3)=Z {cls:=.type "tuple",data:=.seq #[.none,.none]}:=by
     rw[<-r];exact b4 _ (df _ rfl)
    have B:((ie a.heap f i).push {cls:=.type "zip",data:=.fields #[.none,.bool ar,.bool ar,.ref<|a.heap.objs.size+2,.ref<|a.heap.objs.size+3]}).get? (a.heap.objs.size+2)=Z {cls:=.type "tuple",data:=.seq #[.ref a.heap.objs.size,.ref<|a.heap.objs.size+1]}:=by
     rw[<-n,<-v];exact b4 _ (b4 _<|df _ rfl)
    have D:((ie a.heap f i).push {cls:=.type "zip",data:=.fields #[.none,.bool ar,.bool ar,.ref<|a.heap.objs.size+2,.ref<|a.heap.objs.size+3]}).get? (a.heap.objs.size+1)=Z {cls:=.type "tuple_iterator",data:=.fields #[.ref i,.int 0 0]}:=by
     rw[<-v];exact b4 _ (b4 _<|b4 _<|df _ rfl)
    have E:((ie a.heap f i).push {cls:=.type "zip",data:=.fields #[.none,.bool ar,.bool ar,.ref<|a.heap.objs.size+2,.ref<|a.heap.objs.size+3]}).get? a.heap.objs.size=Z {cls:=.type "tuple_iterator",data:=.fields #[.ref f,.int 0 0]}:=
     b4 _ (b4 _<|b4 _<|b4 _<|df _ rfl);have eu:∀o m,a.heap.get? o=Z m->((ie a.heap f i).push {cls:=.type "zip",data:=.fields #[.none,.bool ar,.bool ar,.ref<|a.heap.objs.size+2,.ref<|a.heap.objs.size+3]}).get? o=Z m:=λo m d=>
     b4 _ (b4 _<|b4 _<|b4 _<|b4 _ d);generalize ((ie a.heap f i).push {cls:=.type "zip",data:=.fields #[.none,.bool ar,.bool ar,.ref<|a.heap.objs.size+2,.ref<|a.heap.objs.size+3]})=bd at E D B A z eu ⊢;have k:o9 (a.heap.objs.size+4) (a.heap.objs.size+2) (a.heap.objs.size+3) a.heap.objs.size (a.heap.objs.size+1) f i:=PySem.W.ktu_apart _ _ _ T al;refine⟨_,_,_,_,Lw,rfl,l.kept (LY:=a.toks) eu,J3 f i _ _ _ _ _ k,⟨z,B,⟨_,_,A⟩,⟨_,E,rfl,rfl⟩,⟨_,D,rfl,rfl⟩⟩,λo G=>?_,q⟩;have:a.heap.objs.size<=o:=by
     simp only[cu,lZ,lu]at G;rcases G with rfl|rfl|rfl|rfl|rfl
     ·exact ov _ _
     ·exact ov _ _
     ·exact ov _ _
     ·exact bq _
     ·exact ov _ _
    exact l.rh this (l.aT.fresh this)
end
def xT(Lr:Φ)(h:aq)(f:ah)(LA:String)(c:Bool):Prop:=(
 (∃a,f=.int a/\((LA = "int" /\ c=V)\/(LA = "tuple" /\ c=ar)\/(LA = "str" /\ c=ar)\/(LA = "bool" /\ c=ar)\/(LA = "list" /\ c=ar)))\/
 (∃a,f=.aF a/\((LA = "bool" /\ c=V)\/(LA = "int" /\ c=V)\/(LA = "tuple" /\ c=ar)\/(LA = "str" /\ c=ar)\/(LA = "list" /\ c=ar)))\/
 (∃a,f=.str a/\((LA = "str" /\ c=V)\/(LA = "int" /\ c=ar)\/(LA = "tuple" /\ c=ar)\/(LA = "bool" /\ c=ar)\/(LA = "list" /\ c=ar)))\/
 (∃g C,f=.ref g/\b3 Lr h g C/\((LA = "tuple" /\ c=V)\/(LA = "int" /\ c=ar)\/(LA = "str" /\ c=ar)\/(LA = "bool" /\ c=ar)\/(LA = "list" /\ c=ar)))\/
 (∃g C,f=.ref g/\cB Lr h g C/\((LA = "list" /\ c=V)\/(LA = "int" /\ c=ar)\/(LA = "str" /\ c=ar)\/(LA = "bool" /\ c=ar)\/(LA = "tuple" /\ c=ar))))
section
variable{b:aE}
def G5:dX b (.builtin "isinstance") (λC h x=>∃f LA c,C=[f,.ty LA]/\xT b.K h f LA c/\x (.aF c) h):=by
 intro M j w h C LP x t p e;let⟨f,LA,@c,rfl,Lv,q⟩:=e;cases p with
 |cons p n=>
  cases n with
  |cons Mc n=>
   cases n;cases Mc;have l:∀{c:Bool},x (.aF c) h->dD b M w x (.bool c) j:=λ{c} q=>⟨.aF c,h,t,rfl,q⟩;have d:∀{c:Bool},x (.aF c) h->dD b M w x (.bool c) {j with toks:=j.toks+1}:=λ{c} q=>⟨.aF c,h,t.tok _,rfl,q⟩;rcases Lv with ⟨a,rfl,Lv⟩|⟨a,rfl,Lv⟩|⟨a,rfl,Lv⟩|⟨g,C,rfl,au,Lv⟩|⟨g,C,rfl,au,Lv⟩
   ·let⟨@E,rfl⟩:=p;rcases Lv with ⟨rfl,rfl⟩|⟨rfl,rfl⟩|⟨rfl,rfl⟩|⟨rfl,rfl⟩|⟨rfl,rfl⟩
    ·exact IsiPair.int_int (l q)
    ·exact IsiPair.int_tuple (d q)
    ·exact IsiPair.int_str (d q)
    ·exact IsiPair.int_bool (d q)
    ·exact IsiPair.int_list (d q)
   ·cases p;rcases Lv with ⟨rfl,rfl⟩|⟨rfl,rfl⟩|⟨rfl,rfl⟩|⟨rfl,rfl⟩|⟨rfl,rfl⟩
    ·exact IsiPair.bool_bool (l q)
    ·exact IsiPair.bool_int (l q)
    ·exact IsiPair.bool_tuple (d q)
    ·exact IsiPair.bool_str (d q)
    ·exact IsiPair.bool_list (d q)
   ·let⟨@E,rfl⟩:=p;rcases Lv with ⟨rfl,rfl⟩|⟨rfl,rfl⟩|⟨rfl,rfl⟩|⟨rfl,rfl⟩|⟨rfl,rfl⟩
    ·exact IsiPair.str_str (l q)
    ·exact IsiPair.str_int (d q)
    ·exact IsiPair.str_tuple (d q)
    ·exact IsiPair.str_bool (d q)
    ·exact IsiPair.str_list (d q)
   ·cases p;let⟨@Lz,o,⟨@m,i,k,W⟩,r⟩:=t.tuple au;rcases Lv with ⟨rfl,rfl⟩|⟨rfl,rfl⟩|⟨rfl,rfl⟩|⟨rfl,rfl⟩|⟨rfl,rfl⟩
    ·exact IsiPair.tuple_tuple i k (l q)
    ·exact IsiPair.tuple_int i k (d q)
    ·exact IsiPair.tuple_str i k (d q)
    ·exact IsiPair.tuple_bool i k (d q)
    ·exact IsiPair.tuple_list i k (d q)
   ·cases p;let⟨@Lz,o,u,r⟩:=t.list au;let⟨@m,i,k,W⟩:=u.isList;rcases Lv with ⟨rfl,rfl⟩|⟨rfl,rfl⟩|⟨rfl,rfl⟩|⟨rfl,rfl⟩|⟨rfl,rfl⟩
    ·exact IsiPair.list_list i k (l q)
    ·exact IsiPair.list_int i k (d q)
    ·exact IsiPair.list_str i k (d q)
    ·exact IsiPair.list_bool i k (d q)
    ·exact IsiPair.list_tuple i k (d q)
def Ja:∀{i:List Bool}{LP:List aa},b1 (i.map ah.aF) LP->∀(a:Nat) (r:aa),LP[a]?=Z r->∃c,i[a]?=Z c/\r=aa.bool c:=by
 intro i LP p a r e;have b:=p.length;rw[bF]at b;have Lv:a<i.length:=by rw[b];exact (eT.mp e).1
 let⟨@D,d,g⟩:=p.get (a:=a) (f:=ah.aF i[a]) (by simp[Lv]);rw[e]at d;cases d;exact⟨i[a],by simp[Lv],g⟩
def Im(l:b.calm=V):dX b (.builtin "all") (λC h x=>∃L i,C=[.ref L]/\h L=Z (.lst<|List.map ah.aF i)/\x (.aF<|i.all id) h):=by
 intro M j w h C LP x t p e;let⟨L,@i,rfl,m,q⟩:=e;let⟨@D,rfl,n⟩:=ip p;cases n;let@⟨B,⟨Lz,@s,f,d⟩⟩:=t.aT L _ m;have g:j.heap.IsList L Lz.toArray:=⟨_,d,rfl,s,rfl⟩;refine call_all_walk (z6 g ⟨j.heap.objs.size,[j.heap.objs.size,L],[j.heap.objs.size],Lz.toArray.size,_,_,λa=>(i[a]?).getD V,rfl,Walks.list (A:=b.A.in1) (t.ok.hd l) _ L (c8<|bQ d) Lz.toArray,
  ⟨⟨_,df _ rfl,rfl,rfl⟩,g.push _⟩,λa r S z E o k=>?_,λLq Md u=>?_⟩)
 ·let⟨@c,v,rfl⟩:=Ja f a r ⇑o;simp only[v,qF]at k;exact j0 k
 ·have y:Lz.toArray.size=i.length:=by
   have:=f.length;rw[bF]at this;rw[cC,this]
  rw[y,LSm.range_all];exact⟨.aF _,h,t.kept<|LSm.kept_iter u,rfl,q⟩
def Hi:dd b (eU .Mult) (l7 IntMulOk λa i=>.int<|a*i):=qD λ_ W W W W W W c q=>mul_int q c
end
inductive ai where
 | im (v:X)
 | ej
 | cq (A:List X)
 | lst (A:List X)
 | cW (G:List (dw×X))
 | br (G:List (List X×X))
 | dh (C:List ai)
 | lR (C:List ai)
 | k9 (G:List (List X×X))
 | dL (G:List (List X×List X))
variable{L4:List ai->Option ai}{R:ai->ai->Option ai}{m:Option ai}{v:ai}
abbrev aU:=List (Option ai)
variable{LJ k:aU}{e:List ai->aU->Option aU}
abbrev eg{U:Type}(h:aq):List (U×X)->List (U×ah)->Prop:=d2 λu q=>u.1=q.1/\b9 h u.2 q.2
def eg.mono{U:Type}{L:List (U×X)}{H:List (U×ah)}(E:kl h P)(e:eg h L H):eg P L H:=d2.qV e λ_ W B=>⟨B.1,B.2.mono E⟩
structure d6(h P:aq):Prop where
 tup:kl h P
 b8:∀g m D,h g=Z (.b8 m D)->P g=Z (.b8 m D)
def jC(h:aq):List (List X×List X)->List (List X×ah)->List af->Prop
 |[],a,Ly=>a=[]/\Ly=[]
 |u::p,a,Ly=>∃c C I b,a=(u.1,.ref c)::I/\h c=Z (.lst C)/\bo h u.2 C/\jC h p I b/\Ly=c::b
theorem jC.mono{h P:aq}(E:d6 h P):∀{L:List (List X×List X)}{a:List (List X×ah)}{Ly:List af},jC h L a Ly->(∀g∈Ly,∀m,h g=Z m->P g=Z m)->jC P L a Ly
 |[],_,_,e,_=>e
 |u::p,a,Ly,e,n=>by
  let⟨c,C,I,@b,d,y,z,f,rfl⟩:=e;exact⟨c,C,I,b,d,n c (.head _) _ y,z.mono E.tup,jC.mono E f λg i=>n g<|.tail _ i,rfl⟩
mutual
def bJ(h:aq):ai->ah->List af->Prop
 |.im v,r,N=>b9 h v r/\N=[]
 |.ej,_,N=>N=[]
 |.cq A,r,N=>∃g C m,r=.ref g/\h g=Z (.b8 m<|.lst C)/\bo h A C/\N=[]
 |.lst A,r,N=>∃g C,r=.ref g/\h g=Z (.lst C)/\bo h A C/\N=[g]
 |.cW G,r,N=>∃g i,r=.ref g/\h g=Z (.cW i)/\eg h G i/\N=[g]
 |.br G,r,N=>∃g i,r=.ref g/\h g=Z (.br i)/\eg h G i/\N=[g]
 |.dh A,r,N=>∃g C Ly,r=.ref g/\h g=Z (.lst C)/\cz h A C Ly/\N=g::Ly
 |.lR A,r,N=>∃g C,r=.ref g/\h g=Z (.tup C)/\cz h A C N
 |.k9 G,r,N=>∃g i m,r=.ref g/\h g=Z (.b8 m<|.br i)/\eg h G i/\N=[]
 |.dL G,r,N=>∃g i Ly,r=.ref g/\h g=Z (.br i)/\jC h G i Ly/\N=g::Ly
def cz(h:aq):List ai->List ah->List af->Prop
 |[],Q,N=>Q=[]/\N=[]
 |v::A,Q,N=>∃r p LI LQ,Q=r::p/\bJ h v r LI/\cz h A p LQ/\N=LI++LQ
end
mutual
theorem bJ.mono{h P:aq}(E:d6 h P):∀{v:ai}{r:ah}{N:List af},bJ h v r N->(∀g∈N,∀m,h g=Z m->P g=Z m)->bJ P v r N
 |.im v,r,N,e,_=>⟨e.1.mono E.tup,e.2⟩
 |.ej,r,N,e,_=>e
 |.cq A,r,N,e,_=>by
  let⟨g,C,@m,rfl,y,z,rfl⟩:=e;exact⟨g,C,m,rfl,E.b8 _ _ _ y,z.mono E.tup,rfl⟩
 |.lst A,r,N,e,n=>by
  let⟨g,@C,rfl,y,z,rfl⟩:=e;exact⟨g,C,rfl,n g (.head _) _ y,z.mono E.tup,rfl⟩
 |.cW G,r,N,e,n=>by
  let⟨g,@C,rfl,y,z,rfl⟩:=e;exact⟨g,C,rfl,n g (.head _) _ y,z.mono E.tup,rfl⟩
 |.br G,r,N,e,n=>by
  let⟨g,@C,rfl,y,z,rfl⟩:=e;exact⟨g,C,rfl,n g (.head _) _ y,z.mono E.tup,rfl⟩
 |.dh A,r,N,e,n=>by
  let⟨g,C,@Ly,rfl,y,z,rfl⟩:=e;exact⟨g,C,Ly,rfl,n g (.head _) _ y,cz.mono E z λc a=>n c<|.tail _ a,rfl⟩
 |.lR A,r,N,e,n=>by
  let⟨g,@C,rfl,y,z⟩:=e;exact⟨g,C,rfl,E.tup g C y,cz.mono E z n⟩
 |.k9 G,r,N,e,_=>by
  let⟨g,C,@m,rfl,y,z,rfl⟩:=e;exact⟨g,C,m,rfl,E.b8 _ _ _ y,z.mono E.tup,rfl⟩
 |.dL G,r,N,e,n=>by
  let⟨g,i,@Ly,rfl,y,z,rfl⟩:=e;exact⟨g,i,Ly,rfl,n g (.head _) _ y,z.mono E λc a=>n c<|.tail _ a,rfl⟩
theorem cz.mono{h P:aq}(E:d6 h P):∀{A:List ai}{Q:List ah}{N:List af},cz h A Q N->(∀g∈N,∀m,h g=Z m->P g=Z m)->cz P A Q N
 |[],Q,N,e,_=>e
 |v::A,Q,N,e,n=>by
  let⟨r,p,LI,@LQ,rfl,y,z,rfl⟩:=e;exact⟨r,p,LI,LQ,rfl,bJ.mono E y λg a=>n g<|fM _ a,cz.mono E z λg a=>n g<|dr _ a,rfl⟩
end
def fh(h:aq)(g:af):Prop:=(∃m,h g=Z m/\(∀C,m≠.tup C)/\∀u D,m≠.b8 u D)
theorem jC.chg{h:aq}:∀{L:List (List X×List X)}{b:List (List X×ah)}{Ly:List af},jC h L b Ly->∀g∈Ly,fh h g
 |[],_,Ly,e,g,a=>by rw[e.2]at a;cases a
 |u::p,b,Ly,e,g,a=>by
  let⟨c,C,I,@i,d,y,z,f,rfl⟩:=e;rcases cu.mp a with rfl|a
  ·exact⟨_,y,(λ_ d=>by cases d),(λ_ W d=>by cases d)⟩
  ·exact jC.chg f g a
mutual
theorem bJ.chg{h:aq}:∀{v:ai}{r:ah}{N:List af},bJ h v r N->∀g∈N,fh h g
 |.im v,r,N,e,g,b=>by rw[e.2]at b;cases b
 |.ej,r,N,e,g,b=>by rw[show N=[] from e]at b;cases b
 |.cq A,r,N,e,c,a=>by
  let⟨g,C,@m,rfl,y,z,rfl⟩:=e;cases a
 |.lst A,r,N,e,c,a=>by
  let⟨g,@C,rfl,y,z,rfl⟩:=e;rw[dk.mp a];exact⟨_,y,(λ_ d=>by cases d),(λ_ W d=>by cases d)⟩
 |.cW G,r,N,e,c,a=>by
  let⟨g,@C,rfl,y,z,rfl⟩:=e;rw[dk.mp a];exact⟨_,y,(λ_ d=>by cases d),(λ_ W d=>by cases d)⟩
 |.br G,r,N,e,c,a=>by
  let⟨g,@C,rfl,y,z,rfl⟩:=e;rw[dk.mp a];exact⟨_,y,(λ_ d=>by cases d),(λ_ W d=>by cases d)⟩
 |.dh A,r,N,e,c,a=>by
  let⟨g,C,@Ly,rfl,y,z,rfl⟩:=e;rcases cu.mp a with rfl|a
  ·exact⟨_,y,(λ_ d=>by cases d),(λ_ W d=>by cases d)⟩
  ·exact cz.chg z c a
 |.lR A,r,N,e,c,a=>by
  let⟨g,@C,rfl,y,z⟩:=e;exact cz.chg z c a
 |.k9 G,r,N,e,c,a=>by
  let⟨g,C,@m,rfl,y,z,rfl⟩:=e;cases a
 |.dL G,r,N,e,c,a=>by
  let⟨g,i,@Ly,rfl,y,z,rfl⟩:=e;rcases cu.mp a with rfl|a
  ·exact⟨_,y,(λ_ d=>by cases d),(λ_ W d=>by cases d)⟩
  ·exact z.chg c a
theorem cz.chg{h:aq}:∀{A:List ai}{Q:List ah}{N:List af},cz h A Q N->∀g∈N,fh h g
 |[],Q,N,e,g,a=>by rw[e.2]at a;cases a
 |v::A,Q,N,e,g,a=>by
  let⟨r,p,LI,@LQ,rfl,y,z,rfl⟩:=e;rcases er.mp a with a|a
  ·exact bJ.chg y g a
  ·exact cz.chg z g a
end
theorem cz.length:∀{A:List ai}{Q:List ah}{N:List af},cz h A Q N->A.length=Q.length
 |[],Q,N,e=>by rw[e.1];rfl
 |v::A,Q,N,e=>by
  let⟨r,p,LI,@LQ,rfl,y,z,rfl⟩:=e;rw[dK,dK,z.length]
theorem bo.length:∀{A:List X}{Q:List ah},bo h A Q->A.length=Q.length
 |[],Q,e=>by rw[show Q=[] from e];rfl
 |v::A,Q,e=>by
  let⟨r,@p,rfl,y,z⟩:=e;rw[dK,dK,z.length]
def jQ(h:aq):Option ai->Option ah->List af->Prop
 |none,_,N=>N=[]
 |some v,f,N=>∃r,f=Z r/\bJ h v r N
def a_(h:aq):aU->aW->List af->Prop
 |[],w,N=>w=[]/\N=[]
 |m::k,w,N=>∃f p LI LQ,w=f::p/\jQ h m f LI/\a_ h k p LQ/\N=LI++LQ
structure aY(h:aq)(N:List af)(P:aq)(LW:List af):Prop where
 keep:∀g m,h g=Z m->g∉N->P g=Z m
 sub:∀g∈LW,g∈N\/h g=Y
 ak:LW.Nodup
 tup:d6 h P
 grow:∀g m,h g=Z m->∃LZ,P g=Z LZ
theorem jQ.mono(E:d6 h P):∀{m:Option ai}{f:Option ah}{N:List af},jQ h m f N->(∀g∈N,∀m,h g=Z m->P g=Z m)->jQ P m f N
 |none,_,_,e,_=>e
 |some v,f,N,e,n=>by
  let⟨@r,rfl,e⟩:=e;exact⟨r,rfl,e.mono E n⟩
theorem a_.mono{h P:aq}(E:d6 h P):∀{k:aU}{w:aW}{N:List af},a_ h k w N->(∀g∈N,∀m,h g=Z m->P g=Z m)->a_ P k w N
 |[],w,N,e,_=>e
 |m::k,w,N,e,n=>by
  let⟨f,p,LI,@LQ,rfl,y,z,rfl⟩:=e;exact⟨f,p,LI,LQ,rfl,y.mono E λg a=>n g<|fM _ a,a_.mono E z λg a=>n g<|dr _ a,rfl⟩
theorem jQ.chg:∀{m:Option ai}{f:Option ah}{N:List af},jQ h m f N->∀g∈N,fh h g
 |none,_,N,e,g,a=>by rw[show N=[] from e]at a;cases a
 |some v,f,N,e,g,a=>by
  let⟨@r,rfl,e⟩:=e;exact e.chg g a
theorem a_.chg{h:aq}:∀{k:aU}{w:aW}{N:List af},a_ h k w N->∀g∈N,fh h g
 |[],w,N,e,g,a=>by rw[e.2]at a;cases a
 |m::k,w,N,e,g,a=>by
  let⟨f,p,LI,@LQ,rfl,y,z,rfl⟩:=e;rcases er.mp a with a|a
  ·exact y.chg g a
  ·exact a_.chg z g a
theorem a_.len{h:aq}:∀{k:aU}{w:aW}{N:List af},a_ h k w N->k.length=w.length
 |[],w,N,e=>by rw[e.1];rfl
 |m::k,w,N,e=>by
  let⟨f,p,LI,@LQ,rfl,y,z,rfl⟩:=e;rw[dK,dK,a_.len z]
def ai.c2:ai->Bool
 |.im _=>V
 |.cq _=>V
 |.k9 _=>V
 |_=>ar
def bJ.c2(e:bJ h v r N)(o:v.c2=V):N=[]:=by
 cases v with
 |im v=>exact e.2
 |cq A=>let⟨g,C,@m,rfl,y,z,rfl⟩:=e;rfl
 |k9 A=>let⟨g,C,@m,rfl,y,z,rfl⟩:=e;rfl
 |_=>cases o
theorem a_.out{h:aq}:∀{k:aU}{w:aW}{N:List af}{a:Nat}{v:ai},a_ h k w N->k[a]?=Z (Z v)->∃r LI LQ,w[a]?=Z (Z r)/\bJ h v r LI/\a_ h (k.set a<|Z .ej) w LQ/\(LQ++LI).Perm N
 |[],w,N,a,v,e,d=>by simp at d
 |m::k,w,N,0,v,e,d=>by
  let⟨f,p,LI,@LQ,rfl,y,z,rfl⟩:=e;simp at d;subst d;let⟨@r,rfl,y⟩:=y;exact⟨r,LI,LQ,rfl,y,⟨Z r,p,[],LQ,rfl,⟨r,rfl,rfl⟩,z,rfl⟩,cA⟩
 |m::k,w,N,a+1,v,e,d=>by
  let⟨f,p,LI,@LQ,rfl,y,z,rfl⟩:=e;let⟨r,c,@b,g,i,j,l⟩:=a_.out (a:=a) z ⇑d;refine⟨r,c,LI++b,by simpa using g,i,⟨f,p,LI,b,rfl,y,j,rfl⟩,?_⟩;rw[bb];exact c4 _ l
theorem a_.put{h:aq}:∀{k:aU}{w:aW}{N:List af}{a:Nat}{v:ai}{r:ah}{Ly:List af},a_ h k w N->bJ h v r Ly->a<k.length->∃LI LQ,a_ h (k.set a<|Z v) (w.set a<|Z r) LI/\(LI++LQ).Perm (N++Ly)
 |[],w,N,a,v,r,Ly,e,I,L=>by simp at L
 |m::k,w,N,0,v,r,Ly,e,I,L=>by
  let⟨f,p,LI,@LQ,rfl,y,z,rfl⟩:=e;refine⟨Ly++LQ,LI,⟨Z r,p,Ly,LQ,rfl,⟨r,rfl,I⟩,z,rfl⟩,?_⟩;refine cA.trans ?_;rw[bb];exact c4 _ cA
 |m::k,w,N,a+1,v,r,Ly,e,I,L=>by
  let⟨f,p,LI,@LQ,rfl,y,z,rfl⟩:=e;let⟨b,@c,d,g⟩:=a_.put (a:=a) z I ⇑L;refine⟨LI++b,c,⟨f,_,LI,b,rfl,y,d,rfl⟩,?_⟩;rw[bb,bb];exact c4 _ g
def a_.c2{a:Nat}(e:a_ h k w N)(d:k[a]?=Z (Z v))(o:v.c2=V):∃r,w[a]?=Z (Z r)/\bJ h v r []:=by
 let⟨r,LI,@LQ,c,b,W⟩:=e.out d;obtain rfl:=b.c2 o;exact⟨r,c,b⟩
def HQ{a:Nat}(e:w[a]?=Z (Z r)):w.set a (Z r)=w:=by
 refine ml λi=>?_;by_cases d:a=i
 ·subst d;rw[e,pl (eT.mp e).1]
 ·rw[k4 d]
def a_.back{a:Nat}(e:a_ h k w N)(I:bJ h v r Ly)(b:w[a]?=Z (Z r)):∃LI LQ,a_ h (k.set a<|Z v) w LI/\(LI++LQ).Perm (N++Ly):=by
 have L:a<k.length:=by rw[e.len];exact (eT.mp b).1
 let⟨LI,@LQ,y,z⟩:=e.put (a:=a) I L;rw[HQ b]at y;exact⟨LI,LQ,y,z⟩
def d6.of(R:nF h P)(F:∀g m D,h g=Z (.b8 m D)->P g=Z (.b8 m D)):d6 h P:=⟨⟨R,F⟩,F⟩
def Hy(h:aq):d6 h h:=⟨⟨λ_ W d=>d,λ_ W W d=>d⟩,λ_ W W d=>d⟩
def d6.trans(g:d6 h Lw)(c:d6 Lw LK):d6 h LK:=⟨⟨λf C d=>c.tup.t f C<|g.tup.t f C d,λf m D d=>c.b8 f m D<|g.b8 f m D d⟩,λf m D d=>c.b8 f m D<|g.b8 f m D d⟩
def aY.refl(e:LW.Nodup)(j:∀g∈LW,g∈N):aY h N h LW:=⟨λ_ W d W=>d,λg a=>.inl<|j g a,e,Hy h,λ_ m d=>⟨m,d⟩⟩
def aY.perm(e:N.Nodup)(u:LW.Perm N):aY h N h LW:=aY.refl ((u.nodup_iff).mpr e) λg a=>u.mem_iff.mp a
def aY.trans(g:aY h N Lw (LI++Lp))(c:aY Lw LI LK LQ)(i:∀f∈Lp,fh Lw f):aY h N LK (LQ++Lp):=by
 have ak:=dp.mp g.ak;have j:∀f∈LQ,f∉Lp:=λf a LG=>by
  rcases c.sub f a with e|e
  ·exact ak.2.2 f e f LG rfl
  ·let⟨@m,d,W⟩:=i f LG;rw[d]at e;cases e
 refine⟨λf m d a=>?_,λf a=>?_,dp.mpr ⟨c.ak,ak.2.1,λf a l k d=>j f a<|d ▸ k⟩,g.tup.trans c.tup,λf m d=>let ⟨LZ,b⟩:=g.grow f m d;c.grow f LZ b⟩
 ·refine c.keep f m (g.keep f m d a) λy=>?_;rcases g.sub f (fM _ y) with e|e
  ·exact a e
  ·rw[d]at e;cases e
 ·rcases er.mp a with a|a
  ·rcases c.sub f a with e|e
   ·exact g.sub f (fM _ e)
   ·refine .inr ?_;cases d:h f with
    |none=>rfl
    |some m=>
     let⟨@LZ,b⟩:=g.grow f m d;rw[b]at e;cases e
  ·exact g.sub f (dr _ a)
def bz.tupS(j:bz h P):d6 h P:=⟨⟨λg C d=>j g _ d,λg m D d=>j g _ d⟩,λg m D d=>j g _ d⟩
def Hn{g c:af}{m D:d8}(d:h c=Z m)(e:h g=Y):L2.upd h g D c=Z m:=by rw[bB (eM d e)];exact d
def bz.upd(j:bz h P){g:af}{m:d8}(e:P g=Y):bz h (L2.upd P g m):=λc D d=>Hn (j c D d) e
abbrev aB(L0:Type):=aU->Option (L0×aU)
variable{MJ:aB ai}{MA n:aB Bool}
inductive bj where
 | bx (a:Nat)
 | c_ (v:ai)
variable{Ma Mp:aB bj}{F:aB (List bj)}
def dj(k:aU):bj->Option ai
 |.bx a=>(k[a]?).getD Y
 |.c_ v=>Z v
def gV(h:aq)(w:aW):bj->ah->List af->Prop
 |.bx a,r,Lp=>w[a]?=Z (Z r)/\Lp=[]
 |.c_ v,r,Lp=>bJ h v r Lp
def hn(F:aB ai):bT:=(λw h x=>∃k N p LJ,a_ h k w N/\N.Nodup/\F k=Z (p,LJ)/\∀r P LW Lp,a_ P LJ w LW->bJ P p r Lp->aY h N P (LW++Lp)->x r P)
def j7(F:aB bj):bT:=(λw h x=>∃k N p LJ,a_ h k w N/\N.Nodup/\F k=Z (p,LJ)/\∀r P LW Lp,a_ P LJ w LW->gV P w p r Lp->aY h N P (LW++Lp)->x r P)
def hv(F:aB Bool):dq:=(λw h x=>∃k N c LJ,a_ h k w N/\N.Nodup/\F k=Z (c,LJ)/\∀P LW,a_ P LJ w LW->aY h N P LW->x c P)
def b0(b:aE)(d:a7)(F:aB ai):Prop:=(∀ ⦃u⦄,vm b d (hn F) u)
def c6(b:aE)(d:a7)(F:aB bj):Prop:=(∀ ⦃u⦄,vm b d (j7 F) u)
def gA(b:aE)(d:a7)(F:aB Bool):Prop:=(∀ ⦃u⦄,yN b d (hv F) u)
def d7{E LY:bT}(e:bw b d E)(a:∀w h x,LY w h x->E w h x):bw b d LY:=λM j w h x t c=>e M j w h x t (a w h x c)
def n3{E:dq}(e:f9 b d E)(a:∀w h x,LY w h x->E w h x):f9 b d LY:=λM j w h x t c=>e M j w h x t (a w h x c)
def gV.mono{p:bj}(e:gV h w p r Lp)(E:d6 h P)(n:∀g∈Lp,∀m,h g=Z m->P g=Z m):gV P w p r Lp:=by
 cases p with
 |bx a=>exact e
 |c_ v=>exact bJ.mono E e n
def gV.chg{p:bj}(e:gV h w p r Lp):∀g∈Lp,fh h g:=by
 cases p with
 |bx a=>intro g b;rw[e.2]at b;cases b
 |c_ v=>exact bJ.chg e
def dC(h:aq)(v:ai)(r:ah):Prop:=(∃Lp,bJ h v r Lp)
def gV.read{p:bj}(e:gV h w p r Lp)(J:a_ h k w N)(d:dj k p=Z v):dC h v r:=by
 cases p with
 |c_ Mk=>cases d;exact⟨Lp,e⟩
 |bx a=>
  have c:k[a]?=Z (Z v):=by
   have:(k[a]?).getD Y=Z v:=d;cases q:k[a]? with
   |none=>rw[q]at this;cases this
   |some m=>rw[q]at this;rw[show m=Z v from this]
  let⟨g,LI,@LQ,b,f,W⟩:=J.out c;rw[e.1]at b;cases b;exact⟨LI,f⟩
@[simp] def gs(a:Nat):aB ai:=λk=>match k[a]? with
 |some (Z v)=>if v.c2=V then Z (v,k) else Z (v,k.set a<|Z .ej)
 |_=>Y
def aw(v:X):aB ai:=(λk=>Z (.im v,k))
@[simp] def ay(a:Nat):aB bj:=λk=>match k[a]? with
 |some (Z _)=>Z (.bx a,k)
 |_=>Y
@[simp] def ab(F:aB ai):aB bj:=λk=>(F k).map λu=>(.c_ u.1,u.2)
section
variable{b:aE}
variable{a:Nat}
def rm(e:bw b d (h6 a)):b0 b d (gs a):=by
 refine d7 e λw h x f=>?_;let⟨k,N,p,@LJ,J,ak,c,q⟩:=f;unfold gs at c;split at c
 ·rename_i v hd;split at c
  ·rename_i g;cases c;let⟨@r,y,z⟩:=J.c2 hd g;exact⟨r,y,q r h N [] J z (by rw[bN];exact aY.perm ak (List.Perm.refl _))⟩
  ·cases c;let⟨r,LI,@LQ,y,z,i,j⟩:=J.out hd;exact⟨r,y,q r h LQ LI i z<|aY.perm ak j⟩
 ·cases c
def JV(e:bw b d (h6 a)):c6 b d (ay a):=by
 refine d7 e λw h x f=>?_;let⟨k,N,p,@LJ,J,ak,c,q⟩:=f;unfold ay at c;split at c
 ·rename_i v hd;cases c;let⟨r,LI,@LQ,y,z,g,i⟩:=J.out hd;exact⟨r,y,q r h N [] J ⟨y,rfl⟩ (by rw[bN];exact aY.perm ak (List.Perm.refl _))⟩
 ·cases c
def bt{F:aB ai}(e:b0 b d F):c6 b d (ab F):=by
 refine d7 e λw h x c=>?_;let⟨k,N,p,@LJ,J,ak,a,q⟩:=c;unfold ab at a;let⟨@⟨Mc,T⟩,y,z⟩:=cb.mp a;cases z;exact⟨k,N,Mc,_,J,ak,y,q⟩
def qJ{v:X}(e:bw b d (mI r))(hd:∀h,b9 h v r):b0 b d (aw v):=by
 refine d7 e λw h x a=>?_;let⟨k,N,p,@LJ,J,ak,c,q⟩:=a;cases c;exact q r h N [] J ⟨hd h,rfl⟩ (by rw[bN];exact aY.perm ak (List.Perm.refl _))
def h8{a:Int}{i LC}:b0 b (.Constant (.int a) i LC) (aw<|.int a):=qJ wN λ_=>rfl
def vo{c:Bool}{i LC}:b0 b (.Constant (.bool c) i LC) (aw<|.aF c):=qJ Fq λ_=>rfl
def kA{i LC}:b0 b (.Constant (.str f) i LC) (aw<|.str f):=qJ D1 λ_=>rfl
def two{T L1:aU}{f l:bj}{Lr:ah->ah->aq->Prop}(J:a_ h k w N)(ak:N.Nodup)(b:Mp k=Z (f,T))(j:Ma T=Z (l,L1))(n:∀r D P LW a bp,a_ P L1 w LW->gV P w f r a->gV P w l D bp->aY h N P ((LW++bp)++a)->Lr r D P):j7 Mp w h λr Lw=>j7 Ma w Lw λD LK=>Lr r D LK:=by
 refine⟨k,N,f,T,J,ak,b,λr Lw LI a o Me c=>⟨T,LI,l,L1,o,(dp.mp c.ak).1,j,λD LK LQ bp p Mw i=>?_⟩⟩;refine n r D LK LQ a bp p (Me.mono i.tup λg b m d=>i.keep g m d λe=>?_) Mw (c.trans i Me.chg);exact (dp.mp c.ak).2.2 g e g b rfl
def aY.new{c:List af}(g:aY h N Lw (LI++Lp))(j:bz Lw LK)(ak:c.Nodup)(e:∀f∈c,Lw f=Y)(o:∀f∈LI,fh Lw f):aY h N LK (LI++c):=by
 refine⟨λf m d a=>j _ _<|g.keep f m d a,λf a=>?_,dp.mpr ⟨(dp.mp g.ak).1,ak,λf a l i d=>?_⟩,g.tup.trans j.tupS,λf m d=>let ⟨LZ,b⟩:=g.grow f m d;⟨LZ,j _ _ b⟩⟩
 ·rcases er.mp a with a|a
  ·exact g.sub f (fM _ a)
  ·refine .inr ?_;cases d:h f with
   |none=>rfl
   |some m=>
    let⟨@LZ,b⟩:=g.grow f m d;rw[e f a]at b;cases b
 ·subst d;let⟨@m,d,W⟩:=o f a;rw[e f i]at d;cases d
def ey(b:aE)(R:aa->aa->da aa)(L4:ai->ai->Option ai):Prop:=(
 dd b R λf l h x=>∃L6 L7 v,dC h L6 f/\dC h L7 l/\L4 L6 L7=Z v/\∀r P Lp,bz h P->bJ P v r Lp->Lp.Nodup->(∀g∈Lp,h g=Y)->x r P)
@[simp] def aC(L4:ai->ai->Option ai)(Mp Ma:aB bj):aB ai:=λk=>(Mp k).bind λu=>(Ma u.2).bind λq=>(dj q.2 u.1).bind λL6=>(dj q.2 q.1).bind λL7=>(L4 L6 L7).map λv=>(v,q.2)
def qj{L4:ai->ai->Option ai}(e:hn (aC L4 Mp Ma) w h x):
  j7 Mp w h λf Lw=>j7 Ma w Lw λl LK=>∃L6 L7 v,dC LK L6 f/\dC LK L7 l/\L4 L6 L7=Z v/\∀r P Lp,bz LK P->bJ P v r Lp->Lp.Nodup->(∀g∈Lp,LK g=Y)->x r P:=by
 let⟨k,N,p,@LJ,J,ak,a,q⟩:=e;unfold aC at a;let⟨@⟨f,T⟩,j,a⟩:=bl.mp a;let⟨@⟨l,L1⟩,n,a⟩:=bl.mp a;let⟨@L6,y,a⟩:=bl.mp a;let⟨@L7,z,a⟩:=bl.mp a;let⟨@v,o,a⟩:=cb.mp a;cases a;refine two J ak j n λr D LK LQ B bp b Me Mw i=>⟨L6,L7,_,Me.read b y,Mw.read b z,o,λI s Lp c t u A=>?_⟩;rw[bb]at i;exact q I s LQ Lp (b.mono c.tupS λg W m d=>c g m d) t (i.new c u A b.chg)
def ki{L4:mO}(a:ey b (eU L4) R)(d:c6 b g Mp)(f:c6 b c Ma):b0 b (.BinOp g L4 c LC) (aC R Mp Ma):=
 d7 (Hp a d f) λ_ W W e=>qj e
variable{L4:iI}
def k6(a:ey b (dz L4) R)(d:c6 b g Mp)(f:c6 b c Ma)(h:lA L4 c=ar):b0 b (.Compare g [L4] [c] LC) (aC R Mp Ma):=
 d7 (Gn a d f h) λ_ W W e=>qj e
def zy(a:gr b (λf l h x=>∃L6 L7 v,dC h L6 f/\dC h L7 l/\R L6 L7=Z v/\∀r P Lp,bz h P->bJ P v r Lp->Lp.Nodup->(∀g∈Lp,h g=Y)->x r P))(d:c6 b g Mp)(i:c6 b c Ma)(au:kI c):b0 b (.Subscript g c LC) (aC R Mp Ma):=
 d7 (qZ a d i au) λ_ W W e=>qj e
@[simp] def lN:ai->Option Bool
 |.im (.aF c)=>Z c
 |_=>Y
@[simp] def bM(F:aB ai):aB Bool:=λk=>(F k).bind λu=>(lN u.1).map λc=>(c,u.2)
def nE{c:Bool}(e:lN v=Z c):v=.im (.aF c):=by
 unfold lN at e;split at e
 ·cases e;rfl
 ·cases e
def gE(d:ey b (dz L4) R)(e:c6 b g Mp)(f:c6 b c Ma)(i:lA L4 c=ar):gA b (.Compare g [L4] [c] LC) (bM<|aC R Mp Ma):=by
 refine n3 (Al d e f i) λw h x l=>?_;let⟨k,N,o,@LJ,J,ak,m,q⟩:=l;refine qj ⟨k,N,.im<|.aF o,LJ,J,ak,?_,λr P LW Lp n a j=>⟨o,a.1,q P LW n (by rw[a.2,bN]at j;exact j)⟩⟩;let⟨@u,y,z⟩:=bl.mp m;let⟨@t,p,s⟩:=cb.mp z;cases s;rw[y,<-nE p]
@[simp] def kb(F:aB Bool):aB Bool:=λk=>(F k).map λu=>(!u.1,u.2)
variable{F:aB Bool}
def z8(e:gA b g F):gA b (.UnaryOp .Not g LC) (kb F):=by
 refine n3 (Jt e) λw h x a=>?_;let⟨k,N,o,@LJ,J,ak,c,q⟩:=a;let⟨@u,y,z⟩:=cb.mp c;cases z;exact⟨k,N,u.1,_,J,ak,y,q⟩
@[simp] def eG(F e:aB Bool):aB Bool:=λk=>(F k).bind λu=>if u.1=V then e u.2 else Z (ar,u.2)
@[simp] def mN(F e:aB Bool):aB Bool:=λk=>(F k).bind λu=>if u.1=V then Z (V,u.2) else e u.2
variable{x:Bool->aq->Prop}{e:aB Bool}
def yV(I:hv (eG F e) w h x):Bo (hv F) (hv e) w h x:=by
 let⟨k,N,o,@LJ,J,ak,d,q⟩:=I;let⟨@⟨c,T⟩,y,z⟩:=bl.mp d;refine⟨k,N,c,T,J,ak,y,λLw LI b a=>?_⟩;cases c with
 |true=>
  rw[aK rfl];rw[aK rfl]at z;exact⟨T,LI,o,LJ,b,a.ak,z,λLK LQ g i=>q LK LQ g (by
   have:=aY.trans (Lp:=[]) (by rw[bN];exact a) i (λf j=>nomatch j)
   rwa [bN]at this)⟩
 |false=>
  rw[aM dg]at z ⊢;cases z;exact q Lw LI b a
def DQ(I:hv (mN F e) w h x):zo (hv F) (hv e) w h x:=by
 let⟨k,N,o,@LJ,J,ak,d,q⟩:=I;let⟨@⟨c,T⟩,y,z⟩:=bl.mp d;refine⟨k,N,c,T,J,ak,y,λLw LI b a=>?_⟩;cases c with
 |false=>
  rw[aM dg]at z ⊢;exact⟨T,LI,o,LJ,b,a.ak,z,λLK LQ g i=>q LK LQ g (by
   have:=aY.trans (Lp:=[]) (by rw[bN];exact a) i (λf j=>nomatch j)
   rwa [bN]at this)⟩
 |true=>
  rw[aK rfl]at z ⊢;cases z;exact q Lw LI b a
def ih(b:aE)(d:a7)(F:aB Bool):Prop:=(∀ ⦃u⦄,zI b d (hv F) u)
def y6{E:dq}(e:h1 b d E)(a:∀w h x,LY w h x->E w h x):h1 b d LY:=λc M j w h x t f=>e c M j w h x t (a w h x f)
def wz(e:gA b g F):ih b (.BoolOp .And [g] LC) F:=Ef e
def Ck(e:gA b g F):ih b (.BoolOp .Or [g] LC) F:=Jq e
def qv(e:gA b g F)(a:ih b (.BoolOp .And (c::p) LC) n):ih b (.BoolOp .And (g::c::p) LC) (eG F n):=y6 (JC e a) λ_ W W I=>yV I
def Iz(e:gA b g F)(a:ih b (.BoolOp .Or (c::p) LC) n):ih b (.BoolOp .Or (g::c::p) LC) (mN F n):=y6 (E8 e a) λ_ W W I=>DQ I
def ih.sE(e:ih b d F):gA b d F:=h1.pt e
@[simp] def f5(F:aB Bool):aB ai:=λk=>(F k).map λu=>(.im<|.aF u.1,u.2)
def s9(e:b0 b d (f5 F)):bw b d λw h x=>hv F w h λc P=>x (.aF c) P:=by
 refine d7 e λw h x f=>?_;let⟨k,N,o,@LJ,J,ak,g,q⟩:=f;refine⟨k,N,.im<|.aF o,LJ,J,ak,by unfold f5;rw[g];rfl,λr P LW Lp i a j=>?_⟩;rw[show r=.aF o from a.1];exact q P LW i (by rw[a.2,bN]at j;exact j)
def AW(e:bw b d λw h x=>hv F w h λc P=>x (.aF c) P):b0 b d (f5 F):=by
 refine d7 e λw h x a=>?_;let⟨k,N,p,@LJ,J,ak,f,q⟩:=a;let⟨@u,y,z⟩:=cb.mp f;cases z;exact⟨k,N,u.1,_,J,ak,y,λP LW g j=>q _ P LW [] g ⟨rfl,rfl⟩ (by rw[bN];exact j)⟩
def j1{F:aB ai}(e:b0 b d F):b0 b d (f5<|bM F):=by
 refine d7 e λw h x a=>?_;let⟨k,N,p,@LJ,J,ak,c,q⟩:=a;let⟨@u,y,z⟩:=cb.mp c;let⟨@f,g,i⟩:=bl.mp y;let⟨@o,j,l⟩:=cb.mp i;cases l;cases z;exact⟨k,N,f.1,_,J,ak,g,by rw[nE j];exact q⟩
def G8(e:b0 b g (f5 F)):b0 b (.UnaryOp .Not g LC) (f5<|kb F):=by
 refine AW (d7 (I1<|s9 e) λw h x a=>?_);let⟨k,N,o,@LJ,J,ak,c,q⟩:=a;let⟨@u,y,z⟩:=cb.mp c;cases z;exact⟨k,N,u.1,_,J,ak,y,λP LW d j=>⟨_,rfl,q P LW d j⟩⟩
def u1{L4}{F:aB ai}(e:b0 b g F):b0 b (.BoolOp L4 [g] LC) F:=H3 e
def px(e:b0 b g (f5 F))(a:b0 b (.BoolOp .And (c::p) LC) (f5 n)):b0 b (.BoolOp .And (g::c::p) LC) (f5<|eG F n):=by
 refine AW (d7 (Gl (s9 e)<|s9 a) λw h x I=>?_);have:=yV I;let⟨k,N,o,@LJ,J,ak,d,q⟩:=this;exact⟨k,N,o,LJ,J,ak,d,λP LW f j=>⟨o,rfl,q P LW f j⟩⟩
def aY.seq(g:aY h N Lw LI)(c:aY Lw LI LK LQ):aY h N LK LQ:=by
 have:=aY.trans (Lp:=[]) (by rw[bN];exact g) c (λf a=>nomatch a)
 rwa [bN]at this
end
def ij(h:aq)(w:aW):List bj->List ah->List af->Prop
 |[],Q,Lp=>Q=[]/\Lp=[]
 |m::LM,Q,Lp=>∃r p a bp,Q=r::p/\gV h w m r a/\ij h w LM p bp/\Lp=a++bp
def fJ(F:aB (List bj)):ei:=(λw h x=>∃k N p LJ,a_ h k w N/\N.Nodup/\F k=Z (p,LJ)/\∀Q P LW Lp,a_ P LJ w LW->ij P w p Q Lp->aY h N P (LW++Lp)->x Q P)
def eR(b:aE)(Lu:List a7)(F:aB (List bj)):Prop:=(∀ ⦃u⦄,zp b Lu (fJ F) u)
def xK{E LY:ei}(e:gd b Lu E)(a:∀w h x,LY w h x->E w h x):gd b Lu LY:=λLC M j w h x t c=>e LC M j w h x t (a w h x c)
def aJ:aB (List bj):=(λk=>Z ([],k))
@[simp] def ao(F:aB bj)(e:aB (List bj)):aB (List bj):=λk=>(F k).bind λu=>(e u.2).map λq=>(u.1::q.1,q.2)
def aY.iB(j:aY h N P O)(u:O.Perm L5):aY h N P L5:=⟨j.keep,λg a=>j.sub g<|u.mem_iff.mpr a,(u.nodup_iff).mp j.ak,j.tup,j.grow⟩
def aY.less(j:aY h N P O)(u:(L5++aH).Perm O):aY h N P L5:=
 ⟨j.keep,λg a=>j.sub g<|u.mem_iff.mp<|fM _ a,(dp.mp<|(u.nodup_iff).mpr j.ak).1,j.tup,j.grow⟩
section
variable{b:aE}
def ps:eR b [] aJ:=by
 refine xK pM λw h x a=>?_;let⟨k,N,p,@LJ,J,ak,c,q⟩:=a;cases c;exact q [] h N [] J ⟨rfl,rfl⟩ (by rw[bN];exact aY.perm ak (List.Perm.refl _))
def mX{F:aB bj}{e:aB (List bj)}(j:c6 b d F)(LG:eR b Lu e)(au:bu (d::Lu) b.env=(ar,bU d b.env)::bu Lu b.env:=by rfl):eR b (d::Lu) (ao F e):=by
 refine xK (rA j LG au) λw h x l=>?_;let⟨k,N,p,@LJ,J,ak,n,q⟩:=l;let⟨@⟨f,T⟩,y,z⟩:=bl.mp n;let⟨@⟨LH,L1⟩,o,s⟩:=cb.mp z;cases s;refine⟨k,N,f,T,J,ak,y,λr Lw LI i t Me a=>⟨T,LI,LH,_,t,(dp.mp a.ak).1,o,λQ LK LQ bp u Mw c=>?_⟩⟩;refine q (r::Q) LK LQ (i++bp) u ⟨r,Q,i,bp,rfl,Me.mono c.tup λg v m d=>c.keep g m d λe=>?_,Mw,rfl⟩ ((a.trans c Me.chg).iB ?_)
 ·exact (dp.mp a.ak).2.2 g e g v rfl
 ·rw[bb];exact c4 _ cA
end
def gN(k:aU):List bj->Option (List ai)
 |[]=>Z []
 |m::LM=>(dj k m).bind λv=>(gN k LM).map λA=>v::A
def ko(h:aq):List ai->List ah->Prop
 |[],Q=>Q=[]
 |v::A,Q=>∃r p,Q=r::p/\dC h v r/\ko h A p
theorem ij.read{h:aq}{k:aU}{w:aW}{N:List af}(J:a_ h k w N):∀{LM:List bj}{Q:List ah}{Lp:List af}{A:List ai},ij h w LM Q Lp->gN k LM=Z A->ko h A Q
 |[],_,_,_,e,d=>by cases d;exact e.1
 |m::LM,_,_,_,e,d=>by
  let⟨r,p,g,@bp,rfl,y,z,rfl⟩:=e;let⟨@v,a,b⟩:=bl.mp d;let⟨@A,c,f⟩:=cb.mp b;cases f;exact⟨r,p,rfl,y.read J a,ij.read J z c⟩
def dA:List bj->aU->Option (List ai×aU)
 |[],k=>Z ([],k)
 |.c_ v::LM,k=>(dA LM k).map λu=>(v::u.1,u.2)
 |.bx a::LM,k=>(gs a k).bind λu=>(dA LM u.2).map λq=>(u.1::q.1,q.2)
def wV{a:Nat}(J:a_ h k w N)(e:gs a k=Z (v,LJ)):∃r LI Lp,w[a]?=Z (Z r)/\bJ h v r Lp/\a_ h LJ w LI/\(LI++Lp).Perm N:=by
 unfold gs at e;split at e
 ·rename_i d hd;split at e
  ·rename_i b;cases e;let⟨@r,y,z⟩:=J.c2 hd b;exact⟨r,N,[],y,z,J,by rw[bN]⟩
  ·cases e;let⟨r,LI,@LQ,y,z,c,f⟩:=J.out hd;exact⟨r,LQ,LI,y,z,c,f⟩
 ·cases e
def i3:(O++(L5++aH)).Perm (L5++(O++aH)):=by
 rw[<-bb,<-bb];exact dO _ cA
theorem kF{h:aq}{w:aW}:∀{LM:List bj}{Q:List ah}{Lp N:List af}{k LJ:aU}{A:List ai},a_ h k w N->ij h w LM Q Lp->dA LM k=Z (A,LJ)->∃LI b,a_ h LJ w LI/\cz h A Q b/\(LI++b).Perm (N++Lp)
 |[],_,_,N,_,_,_,J,e,d=>by
  cases d;exact⟨N,[],J,⟨e.1,rfl⟩,by rw[e.2]⟩
 |.c_ v::LM,_,_,N,k,_,_,J,e,d=>by
  let⟨r,p,b,@bp,rfl,y,z,rfl⟩:=e;rw[dA]at d;let⟨@u,g,i⟩:=cb.mp d;cases i;let⟨LI,@c,f,j,l⟩:=kF (LJ:=u.2) (A:=u.1) J z g;exact⟨LI,b++c,f,⟨r,p,b,c,rfl,y,j,rfl⟩,i3.trans<|(c4 _ l).trans i3⟩
 |.bx a::LM,_,_,N,k,_,_,J,e,d=>by
  let⟨r,p,b,@bp,rfl,@⟨y,rfl⟩,z,rfl⟩:=e;rw[dA]at d;let⟨@⟨v,T⟩,n,o⟩:=bl.mp d;let⟨@u,g,i⟩:=cb.mp o;cases i;let⟨t,LI,@c,f,j,l,q⟩:=wV J n;rw[y]at f;cases f;let⟨LQ,@m,L9,L_,s⟩:=kF (LJ:=u.2) (A:=u.1) l z g;refine⟨LQ,c++m,L9,⟨r,p,c,m,rfl,j,L_,rfl⟩,i3.trans<|(c4 _ s).trans ?_⟩;rw[<-bb];exact dO _ (cA.trans q)
@[simp] def gP:List bj->List ai->aU->aU
 |.bx a::LM,v::A,k=>gP LM A (match k[a]? with|some (Z .ej)=>k.set a (Z v)|_=>k)
 |.c_ _::LM,_::A,k=>gP LM A k
 |_,_,k=>k
theorem qA{h l:aq}{w:aW}:∀{LM:List bj}{A:List ai}{Q:List ah}{Lp N LX:List af}{k:aU},a_ h k w N->ij l w LM Q LX->cz h A Q Lp->∃LI b,a_ h (gP LM A k) w LI/\(LI++b).Perm (N++Lp)
 |[],A,_,Lp,N,_,k,J,_,_=>⟨N,Lp,by unfold gP;exact J,List.Perm.refl _⟩
 |.c_ _::LM,[],_,Lp,N,_,k,J,_,_=>⟨N,Lp,by unfold gP;exact J,List.Perm.refl _⟩
 |.bx _::LM,[],_,Lp,N,_,k,J,_,_=>⟨N,Lp,by unfold gP;exact J,List.Perm.refl _⟩
 |.c_ _::LM,v::A,_,Lp,N,_,k,J,e,I=>by
  let⟨r,p,m,@n,rfl,y,z,rfl⟩:=e;let⟨o,Mc,b,@bp,d,j,i,rfl⟩:=I;cases d;let⟨LI,@c,f,g⟩:=qA (k:=k) J z i;refine⟨LI,b++c,by rw[gP];exact f,i3.trans<|(c4 _ g).trans i3⟩
 |.bx a::LM,v::A,_,Lp,N,_,k,J,e,I=>by
  let⟨r,p,m,@n,rfl,@⟨y,W⟩,z,rfl⟩:=e;let⟨o,Mc,b,@bp,d,j,i,rfl⟩:=I;cases d;rw[gP];split
  ·let⟨LI,@Ly,f,g⟩:=J.back j y;let⟨LQ,@c,L9,L_⟩:=qA f z i;refine⟨LQ,c++Ly,L9,?_⟩;rw[<-bb,<-bb];refine (dO _ L_).trans ?_;rw[bb];refine (c4 _ cA).trans ?_;rw[<-bb];exact dO _ g
  ·let⟨LI,@c,f,g⟩:=qA J z i;exact⟨LI,b++c,f,i3.trans<|(c4 _ g).trans i3⟩
def fD:List ai->Option (List X)
 |[]=>Z []
 |.im v::A=>(fD A).map λp=>v::p
 |_::_=>Y
@[simp] def oD(A:List ai):ai:=match fD A with
 |some is=>.im (.tup is)
 |none=>.lR A
@[simp] def nx(A:List ai):ai:=match fD A with
 |some is=>.lst is
 |none=>.dh A
theorem sN{h:aq}:∀{A:List ai}{Q:List ah}{Lp:List af}{is:List X},cz h A Q Lp->fD A=Z is->bo h is Q/\Lp=[]
 |[],_,_,_,e,d=>by cases d;exact e
 |.im v::A,_,_,_,e,d=>by
  let⟨r,p,f,@bp,rfl,@⟨y,rfl⟩,z,rfl⟩:=e;rw[fD]at d;let⟨@u,a,b⟩:=cb.mp d;cases b;let@⟨c,rfl⟩:=sN z a;exact⟨⟨r,p,rfl,y,c⟩,rfl⟩
 |.ej::_,_,_,_,_,d=>by rw[fD]at d;cases d;all_goals (intro W B;cases B)
 |.cq _::_,_,_,_,_,d=>by rw[fD]at d;cases d;all_goals (intro W B;cases B)
 |.lst _::_,_,_,_,_,d=>by rw[fD]at d;cases d;all_goals (intro W B;cases B)
 |.cW _::_,_,_,_,_,d=>by rw[fD]at d;cases d;all_goals (intro W B;cases B)
 |.br _::_,_,_,_,_,d=>by rw[fD]at d;cases d;all_goals (intro W B;cases B)
 |.dh _::_,_,_,_,_,d=>by rw[fD]at d;cases d;all_goals (intro W B;cases B)
 |.lR _::_,_,_,_,_,d=>by rw[fD]at d;cases d;all_goals (intro W B;cases B)
 |.k9 _::_,_,_,_,_,d=>by rw[fD]at d;cases d;all_goals (intro W B;cases B)
 |.dL _::_,_,_,_,_,d=>by rw[fD]at d;cases d;all_goals (intro W B;cases B)
@[simp] def cn(F:aB (List bj)):aB ai:=λk=>(F k).bind λu=>(dA u.1 u.2).bind λq=>if q.1.length<=100000 then Z (oD q.1,q.2) else Y
@[simp] def e7(F:aB (List bj)):aB ai:=λk=>(F k).bind λu=>(dA u.1 u.2).bind λq=>if q.1.length<=100000 then Z (nx q.1,q.2) else Y
def I4{A:List ai}{u:af}(j:bz h P)(e:cz h A Q Lp)(d:P u=Z (.tup Q)):∃a,bJ P (oD A) (.ref u) a/\a=Lp:=by
 unfold oD;split
 ·rename_i is Lv;let@⟨b,rfl⟩:=sN e Lv;exact⟨[],⟨⟨u,Q,rfl,d,b.mono j.tupS.tup⟩,rfl⟩,rfl⟩
 ·exact⟨Lp,⟨u,Q,rfl,d,e.mono j.tupS λg W m q=>j g m q⟩,rfl⟩
def HN{A:List ai}{u:af}(j:bz h P)(e:cz h A Q Lp)(d:P u=Z (.lst Q)):bJ P (nx A) (.ref u) (u::Lp):=by
 unfold nx;split
 ·rename_i is Lv;let@⟨a,rfl⟩:=sN e Lv;exact⟨u,Q,rfl,d,a.mono j.tupS.tup,rfl⟩
 ·exact⟨u,Q,Lp,rfl,d,e.mono j.tupS λg W m q=>j g m q,rfl⟩
def jF(e:s<=100000):s<=sizeLine:=dv e ∅
def aY.add{u:af}{m:d8}(g:aY h N Lw O)(a:Lw u=Y)(o:∀f∈O,fh Lw f):aY h N (upd Lw u m) (O++[u]):=by
 have j:bz Lw (upd Lw u m):=(bz.refl Lw).upd a;have:=aY.new (Lp:=[]) (c:=[u]) (by rw[bN];exact g) j (fX _ _) (λf b=>by rw[dk.mp b];exact a) o;exact this
def aY.same(g:aY h N Lw O)(j:bz Lw LK):aY h N LK O:=
 ⟨λf m d a=>j _ _<|g.keep f m d a,g.sub,g.ak,g.tup.trans j.tupS,λf m d=>let ⟨LZ,b⟩:=g.grow f m d;⟨LZ,j _ _ b⟩⟩
section
variable{b:aE}
def jy{f}(e:eR b Lu F):b0 b (.Tuple Lu f LC) (cn F):=by
 refine d7 (Ht e) λw h x i=>?_;let⟨k,N,p,@LJ,J,ak,l,q⟩:=i;let⟨@⟨LM,T⟩,y,z⟩:=bl.mp l;let⟨@⟨A,L1⟩,n,a⟩:=bl.mp z;refine⟨k,N,LM,T,J,ak,y,λQ Lw LI E o Me r=>?_⟩;let⟨LQ,@bp,s,c,L3⟩:=kF o Me n;split at a
 ·rename_i t;cases a;have v:Q.length<=100000:=by rw[<-c.length];exact t
  refine⟨jF v,λu B=>?_⟩;have j:bz Lw (upd Lw u<|.tup Q):=(bz.refl Lw).upd B;let⟨@C,D,rfl⟩:=I4 j c de;exact q _ _ LQ C (s.mono j.tupS λg W m d=>j g m d) D ((r.iB L3.symm).same j)
 ·cases a
def ka(e:eR b Lu F):b0 b (.List Lu LC) (e7 F):=by
 refine d7 (AX e) λw h x o=>?_;let⟨k,N,p,@LJ,J,ak,r,q⟩:=o;let⟨@⟨LM,T⟩,y,z⟩:=bl.mp r;let⟨@⟨A,L1⟩,s,c⟩:=bl.mp z;refine⟨k,N,LM,T,J,ak,y,λQ Lw LI E t Me v=>?_⟩;let⟨LQ,@bp,l,i,L3⟩:=kF t Me s;split at c
 ·rename_i B;cases c;have C:Q.length<=100000:=by rw[<-i.length];exact B
  refine⟨jF C,λu n=>?_⟩;have j:bz Lw (upd Lw u<|.lst Q):=(bz.refl Lw).upd n;have D:=HN j i (u:=u) de;refine q _ _ LQ (u::bp) (l.mono j.tupS λg W m d=>j g m d) D (((v.iB L3.symm).add n λf a=>?_).iB ?_)
  ·rcases er.mp a with a|a
   ·exact l.chg f a
   ·exact i.chg f a
  ·rw[bb];exact c4 _ cA
 ·cases c
def gv(b:aE)(R:aa)(L4:List ai->Option ai):Prop:=(
 dX b R λC h x=>∃A v,ko h A C/\L4 A=Z v/\∀r P Lp,bz h P->bJ P v r Lp->Lp.Nodup->(∀g∈Lp,h g=Y)->x r P)
@[simp] def cI(L4:List ai->Option ai)(F:aB (List bj)):aB ai:=λk=>(F k).bind λu=>(gN u.2 u.1).bind λA=>(L4 A).map λv=>(v,u.2)
def xa(e:hn (cI L4 F) w h x):
  fJ F w h λC Lw=>∃A v,ko Lw A C/\L4 A=Z v/\∀r P Lp,bz Lw P->bJ P v r Lp->Lp.Nodup->(∀g∈Lp,Lw g=Y)->x r P:=by
 let⟨k,N,p,@LJ,J,ak,c,q⟩:=e;let⟨@⟨LM,T⟩,y,z⟩:=bl.mp c;let⟨@A,f,i⟩:=bl.mp z;let⟨@v,j,l⟩:=cb.mp i;cases l;refine⟨k,N,LM,T,J,ak,y,λQ Lw LI u a Me n=>⟨A,_,Me.read a f,j,λr LK Lp b o s t=>?_⟩⟩;exact q r LK LI Lp (a.mono b.tupS λg W m d=>b g m d) o (n.new b s t a.chg)
def E9{id:String}(a:gv b (.builtin id) L4)(c:eC b f)(g:b.aI f=Y)(h:ez f=Z (.builtin id))(i:eR b (d::Lu) F)(j:f ≠ "__name__" := by decide)(k:(f==("__debug__" : az))=ar:=by decide)(l:bu (d::Lu) b.env=(ar,bU d b.env)::bu Lu b.env:=by rfl)(m:(ek LC<|bu Lu b.env).any (·.1)=ar:=by rfl):
  b0 b (.Call (.Name f u) (d::Lu) [] LC) (cI L4 F):=d7 (Bc a c g h i j k l m) λ_ W W e=>xa e
def ji{LA:String}(a:gv b (.type LA) L4)(c:eC b f)(g:b.aI f=Y)(h:ez f=Z (.type LA))(i:eR b (d::Lu) F)(j:f ≠ "__name__" := by decide)(k:(f==("__debug__" : az))=ar:=by decide)(l:bu (d::Lu) b.env=(ar,bU d b.env)::bu Lu b.env:=by rfl)(m:(ek LC<|bu Lu b.env).any (·.1)=ar:=by rfl):
  b0 b (.Call (.Name f u) (d::Lu) [] LC) (cI L4 F):=d7 (G6 a c g h i j k l m) λ_ W W e=>xa e
abbrev dm:=List ai->Option (ai×List ai)
def h7(s:Nat)(Ly:dm):h3:=(λQ h x W=>Q.length=s/\∃A N p l,cz h A Q N/\N.Nodup/\Ly A=Z (p,l)/\∀r P Lp a,bJ P p r Lp->cz P l Q a->aY h N P (Lp++a)->x r P)
@[simp] def bH(s:Nat)(Ly:dm)(F:aB (List bj)):aB ai:=λk=>(F k).bind λu=>if u.1.length=s then (dA u.1 u.2).bind λq=>(Ly q.1).map λp=>(p.1,gP u.1 p.2 q.2) else Y
theorem ij.length{h:aq}{w:aW}:∀{LM:List bj}{Q:List ah}{Lp:List af},ij h w LM Q Lp->LM.length=Q.length
 |[],_,_,e=>by rw[e.1];rfl
 |m::LM,_,_,e=>by
  let⟨r,p,a,@bp,rfl,y,z,rfl⟩:=e;rw[dK,dK,ij.length z]
def Fg{Ly:dm}{Ls:eO}(e:hn (bH s Ly F) w h x):xI (h7 s Ly) [] Ls (fJ F) w h x:=by
 let⟨k,N,p,@LJ,J,ak,j,q⟩:=e;let⟨@⟨LM,T⟩,y,z⟩:=bl.mp j;split at z
 ·rename_i n;let⟨@⟨A,L1⟩,o,t⟩:=bl.mp z;let⟨@⟨Mc,l⟩,u,v⟩:=cb.mp t;cases v;refine⟨k,N,LM,T,J,ak,y,λQ Lw LI U B Me C=>?_⟩;let⟨LQ,bp,f,D,L3⟩:=kF B Me o;have a:=C.iB (L3.symm.trans cA);rw[bN];refine⟨by rw[<-Me.length];exact n,A,bp,_,l,D,(dp.mp a.ak).1,u,λr i Lp al E G b=>?_⟩;have H:=a.trans b f.chg;have I:∀g∈LQ,g∉bp:=λg c L=>(dp.mp a.ak).2.2 g L g c rfl;have M:a_ i L1 w LQ:=f.mono b.tup λg c m d=>b.keep g m d (I g c);let⟨O,@P,R,S⟩:=qA M Me G;refine q r i O Lp R E (H.less (aH:=P) ?_);refine List.Perm.trans ?_ cA;rw[bb];refine (c4 _ cA).trans ?_;rw[<-bb];refine (dO _ S).trans ?_;rw[bb];exact c4 _ cA
 ·cases z
variable{n:Nat}
def Kk{Ly:dm}{R:af}(N:fZ b.prog b.w b.K b.aI b.base e2 n R fd LO (h7 s Ly))(LG:cQ n b.A)(a:eC b f)(c:b.aI f=Z (.ref R))(g:Γ b.K (.ref R)=V)(h:ix b.K fd LO [])(i:eR b (d::Lu) F)(j:(f==("__debug__" : az))=ar:=by decide)(k:bu (d::Lu) b.env=(ar,bU d b.env)::bu Lu b.env:=by rfl)(l:(ek LC<|bu Lu b.env).any (·.1)=ar:=by rfl):
  b0 b (.Call (.Name f u) (d::Lu) [] LC) (bH s Ly F):=d7 (Hh N LG a c g h .nil Cf i j k l) λ_ U U e=>Fg e
inductive k5 where
 | bh|cR (v:ai)|d_|bW
abbrev bI:=aU->Option (k5×aU)
def cH(LU:List Nat)(w b:aW):Prop:=(b.length=w.length/\∀a∈LU,b[a]?=w[a]?)
def cH.refl:cH LU w w:=⟨rfl,λ_ W=>rfl⟩
def cH.trans{b:aW}(g:cH LU w MH)(c:cH LU MH b):cH LU w b:=⟨c.1.trans g.1,λa Lv=>(c.2 a Lv).trans<|g.2 a Lv⟩
def cH.set{i:Nat}{r:Option ah}(e:i∉LU):cH LU w (w.set i r):=⟨rP,λa Lv=>k4 λd=>e (by rw[d];exact Lv)⟩
def nv(LU:List Nat)(Ls:k1)(w:aW)(h:aq)(N:List af)(LJ:aU):k5->Prop
 |.bh=>∀a P LW,cH LU w a->a_ P LJ a LW->aY h N P LW->Ls.bh a P
 |.d_=>∀a P LW,cH LU w a->a_ P LJ a LW->aY h N P LW->Ls.d_ a P
 |.bW=>∀a P LW,cH LU w a->a_ P LJ a LW->aY h N P LW->Ls.bW a P
 |.cR v=>∀r a P LW Lp,cH LU w a->a_ P LJ a LW->bJ P v r Lp->aY h N P (LW++Lp)->Ls.cR r P
def mj(LU:List Nat)(F:bI):dV:=(λLs w h=>∃k N aN LJ,a_ h k w N/\N.Nodup/\F k=Z (aN,LJ)/\nv LU Ls w h N LJ aN)
def gF(b:aE)(LU:List Nat)(J:cv)(F:bI):Prop:=(∀ ⦃u⦄,yo b J (mj LU F) u)
def gj(b:aE)(LU:List Nat)(a:List cv)(F:bI):Prop:=(∀ ⦃u⦄,Bn b a (mj LU F) u)
variable{LY:dV}
def iY{E:dV}(e:f3 b J E)(a:∀Ls w h,LY Ls w h->E Ls w h):f3 b J LY:=λM j w h k t c=>e M j w h k t (a k w h c)
def za{J:List cv}{E:dV}(e:fP b J E)(a:∀Ls w h,LY Ls w h->E Ls w h):fP b J LY:=λM j w h k t c=>e M j w h k t (a k w h c)
def nv.on{aN:k5}(e:nv LU Ls w h N LJ aN)(Mf:cH LU w MH)(j:aY h N Lw LI):nv LU Ls MH Lw LI LJ aN:=by
 cases aN with
 |bh=>exact λa P LW R J S=>e a P LW (Mf.trans R) J (j.seq S)
 |d_=>exact λa P LW R J S=>e a P LW (Mf.trans R) J (j.seq S)
 |bW=>exact λa P LW R J S=>e a P LW (Mf.trans R) J (j.seq S)
 |cR v=>exact λr a P LW Lp R J b S=>e r a P LW Lp (Mf.trans R) J b (j.seq S)
def e5:bI:=(λk=>Z (.bh,k))
@[simp] def bZ(F e:bI):bI:=λk=>(F k).bind λu=>match u.1 with
 |.bh=>e u.2
 |aN=>Z (aN,u.2)
def ht:gj b LU [] e5:=by
 refine za Jn λLs w h a=>?_;let⟨k,N,aN,@LJ,J,ak,c,q⟩:=a;cases c;exact q w h N cH.refl J (aY.perm ak<|List.Perm.refl _)
variable{F:bI}
def c0(e:gF b LU J F):gj b LU [J] F:=Eo e
def Ge{e:bI}(I:mj LU (bZ F e) Ls w h):BS (mj LU F) (mj LU e) Ls w h:=by
 let⟨k,N,aN,@LJ,J,ak,a,q⟩:=I;let⟨@⟨b,T⟩,y,z⟩:=bl.mp a;cases b with
 |bh=>exact⟨k,N,.bh,T,J,ak,y,λd P LW Mf c j=>⟨T,LW,aN,LJ,c,j.ak,z,q.on Mf j⟩⟩
 |d_=>cases z;exact⟨k,N,.d_,T,J,ak,y,q⟩
 |bW=>cases z;exact⟨k,N,.bW,T,J,ak,y,q⟩
 |cR v=>cases z;exact⟨k,N,.cR v,T,J,ak,y,q⟩
def cN{a:List cv}{e:bI}(y:gF b LU J F)(z:gj b LU a e):gj b LU (J::a) (bZ F e):=za (Dt y z) λ_ W W I=>Ge I
@[simp] def jS(F:aB ai):bI:=λk=>(F k).map λu=>(.bh,u.2)
variable{F:aB ai}
def uE(e:b0 b d F)(au:kx d Y LC.line b.env=pure ar:=by rfl):gF b LU (.Expr d LC) (jS F):=by
 refine iY (FW e au) λLs w h a=>?_;let⟨k,N,aN,@LJ,J,ak,c,q⟩:=a;let⟨@⟨p,T⟩,y,z⟩:=cb.mp c;cases z;exact⟨k,N,p,_,J,ak,y,λr P LW Lp f g j=>q w P LW cH.refl f<|j.less<|List.Perm.refl _⟩
@[simp] def dt(F:aB ai):bI:=λk=>(F k).map λu=>(.cR u.1,u.2)
def ef(e:b0 b d F):gF b LU (.Return (Z d) LC) (dt F):=by
 refine iY (Iv e) λLs w h a=>?_;let⟨k,N,aN,@LJ,J,ak,c,q⟩:=a;let⟨@⟨p,T⟩,y,z⟩:=cb.mp c;cases z;exact⟨k,N,p,_,J,ak,y,λr P LW Lp f g j=>q r w P LW Lp cH.refl f g j⟩
@[simp] def dN(o:aB Bool)(g c:bI):bI:=λk=>(o k).bind λu=>if u.1=V then g u.2 else c u.2
variable{Ma:bI}
def g0{g c:List cv}{Mp:bI}(e:gA b o MA)(f:gj b LU g Mp)(i:gj b LU c Ma):gF b LU (.If o g c LC) (dN MA Mp Ma):=by
 refine iY (CR e f i) λLs w h j=>?_;let⟨k,N,aN,@LJ,J,ak,l,q⟩:=j;let⟨@⟨E,T⟩,y,z⟩:=bl.mp l;refine⟨k,N,E,T,J,ak,y,λLw LI d a=>?_⟩;cases E with
 |true=>
  rw[aK rfl]at z ⊢;exact⟨T,LI,aN,LJ,d,a.ak,z,q.on cH.refl a⟩
 |false=>
  rw[aM dg]at z ⊢;exact⟨T,LI,aN,LJ,d,a.ak,z,q.on cH.refl a⟩
@[simp] def cX(a:Nat)(F:aB ai):bI:=λk=>(F k).bind λu=>if a<u.2.length then Z (.bh,u.2.set a<|Z u.1) else Y
variable{a:Nat}
def uX{MC:Pos}(c:b.N.Nodup)(Lv:b.N[a]?=Z f)(e:fs b.env.scope f)(g:b0 b d F)(i:a∉LU)(au:kx d (Z<|.Name f MC) LC.line b.env=pure ar:=by rfl)(j:b.fn f=V\/b.env.scope.names.lookup f=Z .local:=by first|exact .inl rfl|exact .inr rfl|assumption):gF b LU (.Assign [.Name f MC] d LC) (cX a F):=by
 refine iY (Gf c Lv e g au j) λLs w h l=>?_;let⟨k,N,aN,@LJ,J,ak,m,q⟩:=l;let⟨@⟨p,T⟩,y,z⟩:=bl.mp m;split at z
 ·rename_i n;cases z;refine⟨k,N,p,_,J,ak,y,λr Lw LI Lp o s t=>?_⟩;let⟨LQ,@bp,u,L3⟩:=o.put (a:=a) s n;exact q _ Lw LQ (cH.set i) u (t.less L3)
 ·cases z
abbrev ee:=ai->aU->Option aU
def tD(LU:List Nat)(F:ee):fj:=(λr w h x=>∃k N v Lp LJ,a_ h k w N/\bJ h v r Lp/\(N++Lp).Nodup/\F v k=Z LJ/\∀a P LW,cH LU w a->a_ P LJ a LW->aY h (N++Lp) P LW->x a P)
def f7(b:aE)(LU:List Nat)(d:a7)(F:ee):Prop:=(∀ ⦃u⦄,xf b d (tD LU F) u)
def sX{E LY:fj}(e:hQ b d E)(a:∀r w h x,LY r w h x->E r w h x):hQ b d LY:=λM j w h f r x t p c=>e M j w h f r x t p (a f w h x c)
@[simp] def cf(a:Nat):ee:=λv k=>if a<k.length then Z (k.set a<|Z v) else Y
def vs(d:b.N.Nodup)(Lv:b.N[a]?=Z f)(e:fs b.env.scope f)(g:a∉LU)(i:b.fn f=V\/b.env.scope.names.lookup f=Z .local:=by first|exact .inl rfl|exact .inr rfl|assumption):f7 b LU (.Name f LC) (cf a):=by
 refine sX (uF d Lv e i) λr w h x j=>?_;let⟨k,N,v,Lp,@LJ,J,l,ak,c,q⟩:=j;unfold cf at c;split at c
 ·rename_i m;cases c;let⟨LQ,@bp,n,L3⟩:=J.put (a:=a) l m;exact q _ h LQ (cH.set g) n ((aY.perm ak<|List.Perm.refl _).less L3)
 ·cases c
def GR(LU:List Nat)(F:List ai->aU->Option aU):iQ:=(λQ w h x=>∃k N A Lp LJ,a_ h k w N/\cz h A Q Lp/\(N++Lp).Nodup/\F A k=Z LJ/\∀a P LW,cH LU w a->a_ P LJ a LW->aY h (N++Lp) P LW->x a P)
def pR(b:aE)(LU:List Nat)(Lu:List a7)(F:List ai->aU->Option aU):Prop:=(∀ ⦃u⦄,ye b Lu (GR LU F) u)
@[simp] def hi:List ai->aU->Option aU
 |[],k=>Z k
 |_,_=>Y
@[simp] def ec(F:ee)(e:List ai->aU->Option aU):List ai->aU->Option aU
 |v::A,k=>(F v k).bind (e A)
 |_,_=>Y
def BE{E LY:iQ}(e:kL b Lu E)(a:∀r w h x,LY r w h x->E r w h x):kL b Lu LY:=λM j w h C Q x t p c=>e M j w h C Q x t p (a C w h x c)
def Gj:pR b LU [] hi:=by
 refine BE AB λQ w h x c=>?_;let⟨k,N,A,Lp,@LJ,J,d,ak,a,q⟩:=c;cases A with
 |cons v A=>cases a
 |nil=>
  cases a;exact⟨d.1,q w h N cH.refl J<|(aY.perm ak<|List.Perm.refl _).less<|List.Perm.refl _⟩
def x8{F:ee}(y:f7 b LU d F)(z:pR b LU Lu e)(au:(eo (d::Lu) b.env).map (·.2)=fO d b.env::(eo Lu b.env).map (·.2):=by rfl):pR b LU (d::Lu) (ec F e):=by
 refine BE (sV y z au) λQ w h x u=>?_;let⟨k,N,A,Lp,@LJ,J,B,ak,n,q⟩:=u;cases A with
 |nil=>cases n
 |cons v A=>
  let⟨r,p,i,@bp,rfl,C,o,rfl⟩:=B;let⟨@T,D,E⟩:=bl.mp (show (F v k).bind (e A)=Z LJ from n);have l:((N++i)++bp).Nodup:=by rw[bb];exact ak
  refine⟨r,p,rfl,k,N,v,i,T,J,C,(dp.mp l).1,D,λMH Lw LI Mf G f=>?_⟩;have s:∀g∈bp,g∉N++i:=λg a j=>(dp.mp l).2.2 g j g a rfl;have H:cz Lw A p bp:=o.mono f.tup λg a m d=>f.keep g m d (s g a);have t:aY h (N++(i++bp)) Lw (LI++bp):=by
   refine⟨λg m d a=>f.keep g m d λe=>a ?_,λg a=>?_,dp.mpr ⟨f.ak,(dp.mp l).2.1,λg a c j d=>?_⟩,f.tup,f.grow⟩
   ·rw[<-bb];exact fM _ e
   ·rcases er.mp a with a|a
    ·rcases f.sub g a with e|e
     ·left;rw[<-bb];exact fM _ e
     ·exact .inr e
    ·left;rw[<-bb];exact dr _ a
   ·subst d;rcases f.sub g a with e|e
    ·exact s g j e
    ·let⟨@m,d,W⟩:=o.chg g j;rw[d]at e;cases e
  exact⟨T,LI,A,bp,LJ,G,H,t.ak,E,λI LK LQ L M O=>q I LK LQ (Mf.trans L) M<|t.seq O⟩
@[simp] def gS(s:Nat)(e:List ai->aU->Option aU):ee:=λv k=>match v with
 |.im (.tup is)=>if is.length=s then e (is.map .im) k else Y
 |.lR A=>if A.length=s then e A k else Y
 |_=>Y
theorem wk{h:aq}:∀{is:List X}{Q:List ah},bo h is Q->cz h (is.map .im) Q []
 |[],Q,e=>⟨e,rfl⟩
 |v::is,Q,e=>by
  let⟨r,@p,rfl,y,z⟩:=e;exact⟨r,p,[],[],rfl,⟨y,rfl⟩,wk z,rfl⟩
def IY(f:b.calm=V)(au:pR b LU Lu e)(i:(eo Lu b.env).length=s:=by rfl)(j:(eo Lu b.env).findIdx? (·.1)=Y:=by rfl):f7 b LU (.Tuple Lu n LC) (gS s e):=by
 refine sX (C_ f au i j) λr w h x l=>?_;let⟨k,N,v,Lp,@LJ,J,d,ak,a,q⟩:=l;unfold gS at a;split at a
 ·rename_i is;split at a
  ·rename_i c;let@⟨⟨g,@C,rfl,y,z⟩,rfl⟩:=d;exact⟨g,C,rfl,b3.of y,by rw[<-z.length];exact c,k,N,_,[],LJ,J,wk z,ak,a,q⟩
  ·cases a
 ·rename_i A;split at a
  ·rename_i c;let⟨g,@C,rfl,y,z⟩:=d;exact⟨g,C,rfl,b3.of y,by rw[<-z.length];exact c,k,N,_,Lp,LJ,J,z,ak,a,q⟩
  ·cases a
 ·cases a
@[simp] def fp(F:aB ai)(e:ee):bI:=λk=>(F k).bind λu=>(e u.1 u.2).map λLJ=>(.bh,LJ)
def j6{e:ee}(c:b0 b d F)(f:f7 b LU LS e)(au:pD [LS] d LC.line b.env=pure ar:=by rfl)(g:rb [LS] d b.env=pure Y:=by rfl)(y:(eo [LS] b.env).map (·.2)=[fO LS b.env]:=by rfl):gF b LU (.Assign [LS] d LC) (fp F e):=by
 refine iY (Ki c f au g y) λLs w h i=>?_;let⟨k,N,aN,@LJ,J,ak,j,q⟩:=i;let⟨@⟨p,T⟩,g1,g2⟩:=bl.mp j;let⟨@L1,l,m⟩:=cb.mp g2;cases m;exact⟨k,N,p,T,J,ak,g1,λr Lw LI Lp n o a=>⟨T,LI,p,Lp,_,n,o,a.ak,l,λs P LW Mf t u=>q s P LW Mf t<|a.seq u⟩⟩
@[simp] def kW(a i:Nat)(F:aB (List bj)):bI:=λk=>(F k).bind λu=>(dA u.1 u.2).bind λq=>match q.1 with
 |[L6,L7]=>if a<q.2.length/\i<q.2.length then Z (.bh,(q.2.set a<|Z L6).set i<|Z L7) else Y
 |_=>Y
def jm(o:aB Bool)(c:bI):Nat->bI
 |0=>λ_=>Y
 |s+1=>λk=>(o k).bind λu=>if u.1=V then (c u.2).bind λq=>match q.1 with
  |.bh=>jm o c s q.2
  |.bW=>jm o c s q.2
  |.d_=>Z (.bh,q.2)
  |.cR v=>Z (.cR v,q.2) else Z (.bh,u.2)
def CA(s:Nat)(n:n0 (aP b.prog b.w) b.A b.env b.bX)(p:gA b o MA)(t:gj b LU Mv Ma):gF b LU (.While o Mv [] LC) (jm MA Ma s):=by
 refine iY (Kc n p t) λLs w h u=>?_;let⟨k,N,aN,@LJ,J,ak,x,q⟩:=u;refine⟨λH a P=>∃g LW,a_ P g a LW/\cH LU w a/\aY h N P LW/\jm MA Ma H g=Z (aN,LJ),⟨s,k,N,J,cH.refl,aY.perm ak<|List.Perm.refl _,x⟩,?_⟩;rintro H MH Lw ⟨T,LI,y,i,d,I⟩;cases H with
 |zero=>cases I
 |succ H=>
  rw[jm]at I;let⟨@⟨E,L1⟩,z,j⟩:=bl.mp I;refine⟨T,LI,E,L1,y,d.ak,z,λLK LQ m f=>?_⟩;cases E with
  |false=>
   rw[aM dg]at j ⊢;cases j;exact q MH LK LQ i m (d.seq f)
  |true=>
   rw[aK rfl]at j ⊢;let⟨@⟨R,G⟩,B,l⟩:=bl.mp j;refine⟨λa P=>∃g LW,a_ P g a LW/\cH LU w a/\aY h N P LW/\jm MA Ma H g=Z (aN,LJ),λa P e=>⟨H,p1 H,e⟩,L1,LQ,R,G,m,f.ak,B,?_⟩;cases R with
   |bh=>exact λa P LW Mf c S=>⟨G,LW,c,i.trans Mf,(d.seq f).seq S,l⟩
   |bW=>exact λa P LW Mf c S=>⟨G,LW,c,i.trans Mf,(d.seq f).seq S,l⟩
   |d_=>
    cases l;exact λa P LW Mf c S=>q a P LW (i.trans Mf) c ((d.seq f).seq S)
   |cR v=>
    cases l;exact λr a P LW Lp Mf c C S=>q r a P LW Lp (i.trans Mf) c C ((d.seq f).seq S)
structure j9(Ml:hz)(h:aq)(Lp:List af)(A:List X):Prop where
 go:∀P,d6 h P->(∀g∈Lp,∀m,h g=Z m->P g=Z m)->∀(a:Nat) (v:X),A[a]?=Z v->Ml.go a P/\∀f si,Ml.m4 a P f si->bz P si/\b9 si v f
 stop:∀P,d6 h P->(∀g∈Lp,∀m,h g=Z m->P g=Z m)->Ml.stop A.length P
def oy(h:aq)(w:aW)(Lp:List af):Option (Nat×ai)->Prop
 |none=>True
 |some (a,v)=>∃r,w[a]?=Z (Z r)/\bJ h v r Lp
def vH(F:aB (List X×Option (Nat×ai))):cw:=(λw h a=>∃k N p LJ,a_ h k w N/\N.Nodup/\F k=Z (p,LJ)/\∀Ml P LW Lp,a_ P LJ w LW->j9 Ml P Lp p.1->oy P w Lp p.2->(∀g∈Lp,fh P g)->aY h N P (LW++Lp)->a Ml P)
def kh(b:aE)(LS Mm:a7)(F:aB (List X×Option (Nat×ai))):Prop:=(∀ ⦃u⦄,vO b LS Mm (vH F) u)
def uS{E LY:cw}(e:jq b LS Mm E)(a:∀w h Lp,LY w h Lp->E w h Lp):jq b LS Mm LY:=λM j w h Lp t c=>e M j w h Lp t (a w h Lp c)
def eX(LS:ee)(c:bI):List X->bI
 |[]=>λk=>Z (.bh,k)
 |f::p=>λk=>(LS (.im f) k).bind λT=>(c T).bind λq=>match q.1 with
  |.bh=>eX LS c p q.2
  |.bW=>eX LS c p q.2
  |.d_=>Z (.bh,q.2)
  |.cR v=>Z (.cR v,q.2)
@[simp] def jG:Option (Nat×ai)->aU->aU
 |none,k=>k
 |some (a,v),k=>match k[a]? with
  |some (Z .ej)=>k.set a (Z v)
  |_=>k
@[simp] def gQ(F:aB (List X×Option (Nat×ai)))(LS:ee)(c:bI):bI:=λk=>(F k).bind λu=>(eX LS c u.1.1 u.2).map λq=>(q.1,jG u.1.2 q.2)
def te{m:Option (Nat×ai)}(J:a_ h k w N)(e:oy h w Lp m):∃LI Ly,a_ h (jG m k) w LI/\(LI++Ly).Perm (N++Lp):=by
 cases m with
 |none=>exact⟨N,Lp,J,List.Perm.refl _⟩
 |some u=>
  let⟨a,v⟩:=u;let⟨@r,y,z⟩:=e;unfold jG;dsimp only;split
  ·exact J.back z y
  ·exact⟨N,Lp,J,List.Perm.refl _⟩
def kz(Mf:List Nat):Option (Nat×ai)->Prop
 |none=>True
 |some (a,_)=>a∈Mf
def Ce{F:aB (List X×Option (Nat×ai))}{l:ee}(he:n0 (aP b.prog b.w) b.A b.env b.bX)(hf:b.calm=V)(Lv:kh b LS Mm F)(hm:f7 b Mf LS l)(hw:gj b Mf Mv Ma)(cs:∀a∈LU,a∈Mf)(au:∀k p LJ,F k=Z (p,LJ)->kz Mf p.2)(db:f3 b (.For LS Mm Mv [] LC) (vR (vH F) (tD Mf l)<|mj Mf Ma)):gF b LU (.For LS Mm Mv [] LC) (gQ F l Ma):=by
 refine iY db λLs w h ds=>?_;let⟨k,N,aN,@LJ,J,ak,dL,q⟩:=ds;let⟨@⟨⟨A,m⟩,T⟩,y,z⟩:=bl.mp dL;let⟨@⟨R,L1⟩,eq,ev⟩:=cb.mp z;cases ev;refine⟨k,N,(A,m),T,J,ak,y,λMl Lw LI Lp ex ae fy bi an=>?_⟩;have fd:kz Mf m:=au k _ _ y;have bm:=dp.mp an.ak;have ap:∀{LK:aq}{LQ:List af},aY Lw LI LK LQ->∀g∈Lp,∀D,Lw g=Z D->LK g=Z D:=λj g fn D d=>j.keep g D d λe=>bm.2.2 g e g fn rfl;have bn:∀{LK:aq}{LQ:List af}{c:aW},aY Lw LI LK LQ->cH Mf w c->oy LK c Lp m:=λ{LK LQ c} j R=>by
  cases m with
  |none=>trivial
  |some u=>
   let⟨a,v⟩:=u;let⟨@r,fr,f0⟩:=fy;exact⟨r,(R.2 a fd).trans fr,f0.mono j.tup<|ap j⟩
 have bs:∀{c:aW},cH Mf w c->cH LU w c:=λR=>⟨R.1,λa Lv=>R.2 a<|cs a Lv⟩;have bv:∀{c:aW}{LK:aq}{LQ:List af}{L1:aU},nv LU Ls w h N (jG m L1) .bh->cH Mf w c->a_ LK L1 c LQ->aY Lw LI LK LQ->Ls.bh c LK:=λ{c LK LQ L1} q R as t=>by
  let⟨E,@Ly,a1,L3⟩:=te as (bn t R);exact q c LK E (bs R) a1 ((an.trans t bi).less L3)
 refine⟨λa H a2 P=>H+a=A.length/\∃i LW,cH Mf w a2/\a_ P i a2 LW/\aY Lw LI P LW/\eX l Ma (A.drop a) i=Z (R,L1),⟨A.length,rfl,T,LI,cH.refl,ex,aY.perm bm.1<|List.Perm.refl _,eq⟩,?_⟩;rintro a H a2 P ⟨h0,i,LW,x,ca,S,L⟩;by_cases cd:a<A.length
 ·let@⟨f1,f2⟩:=ae.go P S.tup (ap S) a A[a] (by simp[cd]);rw[ir cd,eX]at L;let⟨@G,f4,f8⟩:=bl.mp L;let⟨@⟨ce,bd⟩,ga,M⟩:=bl.mp f8;refine .inr ⟨f1,λc LK=>(H-1)+(a+1)=A.length/\∃i LW,cH Mf w c/\a_ LK i c LW/\aY Lw LI LK LW/\eX l Ma (A.drop<|a+1) i=Z (R,L1),λc LK e=>⟨H-1,⋯,e⟩,λf LK ge=>?_⟩;let@⟨be,gl⟩:=f2 f LK ge;have as:=ca.mono be.tupS λg W m d=>be g m d;have t:=S.same be;refine⟨i,LW,.im A[a],[],G,as,⟨gl,rfl⟩,by rw[bN];exact t.ak,f4,λii gt E Q a1 ch=>?_⟩;have B:aY Lw LI gt E:=t.seq (by rw[bN]at ch;exact ch);refine⟨G,E,ce,bd,a1,B.ak,ga,?_⟩;cases ce with
  |bh=>exact λal am C n o s=>⟨⋯,bd,C,(x.trans Q).trans n,o,B.seq s,M⟩
  |bW=>exact λal am C n o s=>⟨⋯,bd,C,(x.trans Q).trans n,o,B.seq s,M⟩
  |d_=>
   cases M;exact λal am C n o s=>bv q ((x.trans Q).trans n) o (B.seq s)
  |cR v=>
   cases M;intro r al am C ci n o g1 s;have cl:=B.seq s;have co:=(x.trans Q).trans n;let⟨cr,@g2,g3,hd⟩:=te (Lp:=Lp) o (bn cl co);refine q r al am cr ci (bs co) g3 g1 ((an.trans cl bi).less (aH:=g2) ?_);rw[bb];refine (c4 cr cA).trans ?_;rw[<-bb];refine (dO ci hd).trans ?_;rw[bb,bb];exact c4 _ cA
 ·have Lv:a=A.length:=⋯
  subst Lv;refine .inl ⟨ae.stop P S.tup<|ap S,?_⟩;rw[mD (bq _)]at L;cases L;exact bv q x ca S
end
section
variable{b:aE}
variable{l:ee}
def mx{F:aB (List X×Option (Nat×ai))}{Ma:bI}(c:n0 (aP b.prog b.w) b.A b.env b.bX)(d:b.calm=V)(Lv:kh b LS Mm F)(e:f7 b Mf LS l)(g:gj b Mf Mv Ma)(h:∀a∈LU,a∈Mf)(au:∀k p LJ,F k=Z (p,LJ)->kz Mf p.2)(i:∀f,jX Mm b.env f=pure f:=by intro W;rfl):gF b LU (.For LS Mm Mv [] LC) (gQ F l Ma):=
 Ce c d Lv e g h au (H0 c d Lv e g i)
def HE(Lr:Φ)(E:bT):cw:=(λw h Lp=>E w h λf Lw=>∃g,f=.ref g/\(((∃C,cB Lr Lw g C)/\Lp (n_ Lr g) Lw)\/((∃C,b3 Lr Lw g C)/\Lp (qU Lr g) Lw)))
variable{L:a7}
def H_{E:bT}(n:bw b L E):jq b LS L (HE b.K E):=by
 intro M j w h Lp t e;refine bK (n M j w h _ t e) λr a o=>?_;let⟨f,@Lw,i,p,s⟩:=o;let⟨@g,d,q⟩:=s;subst d;cases p;rcases q with ⟨⟨C,k⟩,q⟩|⟨⟨C,k⟩,q⟩
 ·let⟨@Lz,v,u,x⟩:=i.list k;refine z6 u.isList ?_;refine⟨a.heap.objs.size,[a.heap.objs.size],_,_,Lw,rfl,i.kept (LY:=a.toks) λc m d=>b4 _ d,Iq g _,⟨_,df _ rfl,rfl,rfl⟩,λc l=>?_,q⟩;have d:c=a.heap.objs.size:=by simpa using l
  subst d;exact i.rh (bq _) (i.aT.fresh<|bq _)
 ·let⟨@Lz,v,u,x⟩:=i.tuple k;refine wpAny_pyIter_tuple (show a.heap.IsTuple g Lz.toArray from u) ?_;refine⟨a.heap.objs.size,[a.heap.objs.size],_,_,Lw,rfl,i.kept (LY:=a.toks) λc m d=>b4 _ d,Fi g _,⟨_,df _ rfl,rfl,rfl⟩,λc l=>?_,q⟩;have d:c=a.heap.objs.size:=by simpa using l
  subst d;exact i.rh (bq _) (i.aT.fresh<|bq _)
theorem bo.get{h:aq}:∀{A:List X}{Q:List ah}{a:Nat}{v:X},bo h A Q->A[a]?=Z v->∃r,Q[a]?=Z r/\b9 h v r
 |[],_,_,_,_,d=>by simp at d
 |v::A,_,0,_,e,d=>by
  let⟨r,@p,rfl,y,z⟩:=e;simp at d;subst d;exact⟨r,rfl,y⟩
 |v::A,_,a+1,_,e,d=>by
  let⟨r,@p,rfl,y,z⟩:=e;let⟨@D,b,c⟩:=bo.get (a:=a) z ⇑d;exact⟨D,by simpa using b,c⟩
variable{g:af}
theorem Ft(e:h g=Z (.lst C))(hd:bo h A C):j9 (n_ Lr g) h [g] A where
 go:=λP E n a v d=>by
  let⟨@r,b,c⟩:=hd.get d;have Lq:=cB.of (Lr:=Lr) (n g (.head _) _ e);refine⟨⟨C,r,Lq,b⟩,λf k ⟨i,j⟩=>?_⟩;subst i;rw[j C Lq]at b;cases b;exact⟨bz.refl _,c.mono E.tup⟩
 stop:=λP E n=>⟨C,cB.of<|n g (.head _) _ e,by rw[<-hd.length];exact bq _⟩
theorem F_{m:aQ}(e:h g=Z (.b8 m<|.lst C))(hd:bo h A C):j9 (n_ Lr g) h [] A where
 go:=λP E n a v d=>by
  let⟨@r,b,c⟩:=hd.get d;have Lq:cB Lr P g C:=.inl (.inr ⟨m,E.b8 _ _ _ e⟩);refine⟨⟨C,r,Lq,b⟩,λf k ⟨i,j⟩=>?_⟩;subst i;rw[j C Lq]at b;cases b;exact⟨bz.refl _,c.mono E.tup⟩
 stop:=λP E n=>⟨C,.inl<|.inr ⟨m,E.b8 _ _ _ e⟩,by rw[<-hd.length];exact bq _⟩
theorem Dc(e:h g=Z (.tup C))(hd:bo h A C):j9 (qU Lr g) h [] A where
 go:=λP E n a v d=>by
  let⟨@r,b,c⟩:=hd.get d;have Lq:=b3.of (Lr:=Lr) (E.tup g _ e);refine⟨⟨C,r,Lq,b⟩,λf k ⟨i,j⟩=>?_⟩;subst i;rw[j C Lq]at b;cases b;exact⟨bz.refl _,c.mono E.tup⟩
 stop:=λP E n=>⟨C,b3.of<|E.tup g _ e,by rw[<-hd.length];exact bq _⟩
abbrev iy:=aB (List X×Option (Nat×ai))
@[simp] def lY(v:ai):Option (List X):=match v with
 |.im (.tup A)=>Z A
 |.lst A=>Z A
 |.cq A=>Z A
 |_=>Y
@[simp] def gw(F:aB bj):iy:=λk=>(F k).bind λu=>match u.1 with
 |.c_ v=>(lY v).map λA=>((A,Y),u.2)
 |.bx a=>(gs a u.2).bind λq=>(lY q.1).map λA=>((A,if q.1.c2=V then Y else Z (a,q.1)),q.2)
def wO(I:bJ h v r Lp)(d:lY v=Z A):
  ∃g,r=.ref g/\(((∃C,cB Lr h g C)/\j9 (n_ Lr g) h Lp A)\/((∃C,b3 Lr h g C)/\j9 (qU Lr g) h Lp A)):=by
 unfold lY at d;split at d
 ·cases d;let@⟨⟨g,@C,rfl,y,z⟩,rfl⟩:=I;exact⟨g,rfl,.inr ⟨⟨C,b3.of y⟩,Dc y z⟩⟩
 ·cases d;let⟨g,@C,rfl,y,z,rfl⟩:=I;exact⟨g,rfl,.inl ⟨⟨C,cB.of y⟩,Ft y z⟩⟩
 ·cases d;let⟨g,C,@m,rfl,y,z,rfl⟩:=I;exact⟨g,rfl,.inl ⟨⟨C,.inl<|.inr ⟨m,y⟩⟩,F_ y z⟩⟩
 ·cases d
def m6{F:aB bj}(e:c6 b L F):kh b LS L (gw F):=by
 refine uS (H_ e) λw h E u=>?_;let⟨k,N,p,@LJ,J,ak,x,q⟩:=u;let⟨@⟨f,T⟩,y,z⟩:=bl.mp x;refine⟨k,N,f,T,J,ak,y,λr Lw LI Lp j Me d=>?_⟩;cases f with
 |c_ v=>
  let⟨@A,l,m⟩:=cb.mp z;cases m;let⟨@g,rfl,n⟩:=wO (Lr:=b.K) Me l;refine⟨g,rfl,?_⟩;rcases n with ⟨c,ae⟩|⟨c,ae⟩
  ·exact .inl ⟨c,q _ Lw LI Lp j ae trivial (bJ.chg Me) d⟩
  ·exact .inr ⟨c,q _ Lw LI Lp j ae trivial (bJ.chg Me) d⟩
 |bx a=>
  let⟨@⟨v,L1⟩,l,m⟩:=bl.mp z;let⟨@A,B,C⟩:=cb.mp m;cases C;let⟨G,LQ,@bp,o,i,s,D⟩:=wV j l;let@⟨Me,rfl⟩:=Me;rw[Me]at o;cases o;rw[bN]at d;have t:=d.iB D.symm;let⟨@g,rfl,n⟩:=wO (Lr:=b.K) i B;have fy:oy Lw w bp (if v.c2=V then Y else Z (a,v)):=by
   split
   ·trivial
   ·exact⟨_,Me,i⟩
  refine⟨g,rfl,?_⟩;rcases n with ⟨c,ae⟩|⟨c,ae⟩
  ·exact .inl ⟨c,q _ Lw LQ bp s ae fy i.chg t⟩
  ·exact .inr ⟨c,q _ Lw LQ bp s ae fy i.chg t⟩
def DW{F:aB ai}:∀k p LJ,gw (ab F) k=Z (p,LJ)->kz Mf p.2:=by
 intro k p LJ e;let⟨@⟨f,T⟩,y,z⟩:=bl.mp e;unfold ab at y;let⟨@u,c,a⟩:=cb.mp y;cases a;let⟨@A,d,b⟩:=cb.mp z;cases b
 trivial
variable{a:Nat}
def JZ(Lv:a∈Mf):∀k p LJ,gw (ay a) k=Z (p,LJ)->kz Mf p.2:=by
 intro k p LJ e;let⟨@⟨f,T⟩,y,z⟩:=bl.mp e;unfold ay at y;split at y
 ·cases y;let⟨@⟨v,L1⟩,d,b⟩:=bl.mp z;let⟨@A,g,c⟩:=cb.mp b;cases c;show kz Mf (if v.c2=V then Y else Z (a,v));split
  ·trivial
  ·exact Lv
 ·cases y
def fw(T:Int)(s:Nat):List X:=((range s).map λ(n:Nat)=>X.int (T+(n:Int)))
theorem Fj{T:Int}:j9 (rH T s) h [] (fw T s) where
 go:=λP E n a v d=>by
  have Lv:a<s:=by
   have:=(eT.mp d).1
   rwa [fw,bF,hW]at this
  refine⟨Lv,λf e ⟨b,c⟩=>?_⟩;subst b;rw[fw,eJ,xh Lv]at d;cases d;exact⟨bz.refl _,c⟩
 stop:=λP E n=>by
  show s<=_;rw[fw,bF,hW];exact bq _
def l2(a:Int):Prop :=( -1000000<=a/\a<=1000000)
noncomputable instance (a:Int):Decidable (l2 a):=inferInstanceAs (Decidable<|_/\_)
@[simp] def gH(F:aB (List bj)):iy:=λk=>(F k).bind λu=>(gN u.2 u.1).bind λA=>match A with
 |[.im (.int i)]=>if l2 i then Z ((fw 0 i.toNat,Y),u.2) else Y
 |_=>Y
def AA{v:X}(e:ko h [.im v] Q):∃r,Q=[r]/\b9 h v r:=by
 let⟨r,@p,rfl,⟨@Lp,y,W⟩,z⟩:=e;cases (show p=[] from z);exact⟨r,rfl,y⟩
def sa{v d:X}(e:ko h [.im v,.im d] Q):∃r D,Q=[r,D]/\b9 h v r/\b9 h d D:=by
 let⟨r,@p,rfl,⟨@Lp,y,W⟩,z⟩:=e;let⟨@D,rfl,a⟩:=AA z;exact⟨r,D,rfl,y,a⟩
def oT{g:a7}(j:eC b "range")(l:b.aI "range" = Y)(c:eR b [g] F)(au:bu [g] b.env=[(ar,bU g b.env)]:=by rfl):kh b LS (.Call (.Name "range" u) [g] [] LC) (gH F):=by
 refine uS (Hc j l c au) λw h v m=>?_;let⟨k,N,p,@LJ,J,ak,n,q⟩:=m;let⟨@⟨LM,T⟩,y,z⟩:=bl.mp n;let⟨@A,o,a⟩:=bl.mp z;refine⟨k,N,LM,T,J,ak,y,λQ Lw LI x e Me s=>?_⟩;have t:=Me.read e o;split at a
 ·rename_i i;split at a
  ·rename_i f;cases a;let⟨@r,rfl,d⟩:=AA t;cases (show r=.int i from d);exact⟨i,rfl,by have:=f.1;lia,by have:=f.2;lia,q _ Lw LI [] e Fj trivial (λg c=>nomatch c) (by rw[bN];exact s.less (List.Perm.refl _))⟩
  ·cases a
 ·cases a
def rk:∀k p LJ,gH F k=Z (p,LJ)->kz Mf p.2:=by
 intro k p LJ e;let⟨@⟨LM,T⟩,y,z⟩:=bl.mp e;let⟨@A,b,a⟩:=bl.mp z;split at a
 ·split at a
  ·cases a;trivial
  ·cases a
 ·cases a
def pT(b:aE)(MD:List a7)(F:aB Bool):Prop:=(∀ ⦃u⦄,yF b MD (hv F) u)
def hY:aB Bool:=(λk=>Z (V,k))
def yD:pT b [] hY:=by
 intro M j w h x t a;let⟨k,N,c,@LJ,J,ak,d,q⟩:=a;cases d;exact E4 M j w h x t (q h N J<|aY.perm ak<|List.Perm.refl _)
def zT{F:aB Bool}(e:gA b o F):pT b [o] F:=IA e
@[simp] def iG(LV:List Nat)(k:aU):aU:=LV.map λa=>k.getD a Y
def iL:List Nat->aU->aU
 |[],k=>k
 |a::p,k=>iL p (match k[a]? with|some (Z _)=>k.set a (Z .ej)|_=>k)
@[simp] def gR:List Nat->aU->aU->aU
 |a::p,m::aH,k=>gR p aH (k.set a m)
 |_,_,k=>k
def eb(own:Nat)(LS:ee)(o:aB Bool)(d:aB ai): List X -> List X -> aU -> Option (List X × aU)
  |[],Mi,aH => Z (Mi,aH)
  |f :: p,Mi,aH => (LS (.im f)<|replicate own Y ++ aH).bind λT => (o T).bind λu => if u.1=V then (d u.2).bind λq => match q.1 with
      |.im v => if Mi.length<100000 then eb own LS o d p (Mi ++ [v]) (q.2.drop own) else Y
      |_ => Y
    else eb own LS o d p Mi (u.2.drop own)
@[simp] def e6(own:Nat)(LV:List Nat)(E:iy)(LS:ee)(o:aB Bool)(d:aB ai):aB ai:=λk=>(E k).bind λu=>(eb own LS o d u.1.1 []<|iG LV u.2).map λq=>(.lst q.1,jG u.1.2<|gR LV q.2 u.2)
def mf(own s:Nat):List Nat:=((range s).map (·+own))
def Gg(e:k[a]?=Z m):k.getD a Y=m:=by rw[b6,e];rfl
def a_.void(J:a_ h k w N)(a:Nat):∃LI LQ,a_ h (match k[a]? with|some (Z _)=>k.set a (Z .ej)|_=>k) w LI/\jQ h (k.getD a Y) (w.getD a Y) LQ/\(LI++LQ).Perm N:=by
 split
 ·rename_i v hd;let⟨r,LI,@LQ,y,z,b,c⟩:=J.out hd;refine⟨LQ,LI,b,?_,c⟩;rw[Gg hd,b6,y];exact⟨r,rfl,z⟩
 ·rename_i e;refine⟨N,[],J,?_,by rw[bN]⟩;have:k.getD a Y=Y:=by
   rw[b6];cases d:k[a]? with
   |none=>rfl
   |some m=>
    cases m with
    |none=>rfl
    |some v=>exact absurd d (e v)
  rw[this];exact rfl
theorem x9{h:aq}{w:aW}:∀{LV:List Nat}{k:aU}{N:List af},LV.Nodup->a_ h k w N->∃LI LQ,a_ h (iL LV k) w LI/\a_ h (iG LV k) (LV.map λa=>w.getD a Y) LQ/\(LI++LQ).Perm N
 |[],k,N,_,J=>⟨N,[],J,⟨rfl,rfl⟩,by rw[bN]⟩
 |a::p,k,N,ak,J=>by
  let⟨LI,@LQ,y,z,f⟩:=J.void a;have b:=gZ.mp ak;let⟨g,@c,j,e,l⟩:=x9 (LV:=p) b.2 y;refine⟨g,LQ++c,j,⟨_,_,LQ,c,rfl,z,?_,rfl⟩,i3.trans<|(c4 _ l).trans<|cA.trans f⟩;have d:iG p (match k[a]? with|some (Z _)=>k.set a (Z .ej)|_=>k)=iG p k:=by
   unfold iG;refine nN λi m=>?_;split
   ·rw[b6,b6,k4];rintro rfl;exact b.1 m
   ·rfl
  rw[d]at e;exact e
def a_.El(J:a_ h k w N)(e:jQ h m (w.getD a Y) Ly):∃LI LQ,a_ h (k.set a m) w LI/\(LI++LQ).Perm (N++Ly):=by
 cases m with
 |some v=>
  let⟨@r,d,I⟩:=e;refine J.back I ?_;rw[b6]at d;cases q:w[a]? with
  |none=>rw[q]at d;cases d
  |some f=>rw[q]at d;rw[show f=Z r from d]
 |none=>
  cases (show Ly=[] from e);rw[bN];by_cases Lv:a<k.length
  ·cases q:k[a]? with
   |none=>exact absurd (List.getElem?_eq_none_iff.mp q) ⋯
   |some f=>
    cases f with
    |none=>
     refine⟨N,[],?_,by rw[bN]⟩;have:k.set a Y=k:=by
      refine ml λi=>?_;by_cases d:a=i
      ·subst d;rw[q,pl Lv]
      ·rw[k4 d]
     rw[this];exact J
    |some v=>
     let⟨r,LI,@LQ,y,z,n,o⟩:=J.out q;have gen:∀{k:aU}{w:aW}{N:List af}{a:Nat},a_ h k w N->∃LI LQ,a_ h (k.set a Y) w LI/\(LI++LQ).Perm N:=by
      intro k;induction k with
      |nil=>intro w N a J;exact⟨N,[],by simpa using J,by rw[bN]⟩
      |cons m k c=>
       intro w N a J;let⟨f,p,O,@L5,rfl,g,b,rfl⟩:=J;cases a with
       |zero=>exact⟨L5,O,⟨f,p,[],L5,rfl,rfl,b,rfl⟩,cA⟩
       |succ a=>
        let⟨aH,@Ls,j,l⟩:=c (a:=a) b;refine⟨O++aH,Ls,⟨f,p,O,aH,rfl,g,j,rfl⟩,?_⟩;rw[bb];exact c4 _ l
     exact gen J
  ·refine⟨N,[],?_,by rw[bN]⟩;rw[List.set_eq_of_length_le ⋯];exact J
theorem xi{h:aq}{w:aW}:∀{LV:List Nat}{aH k:aU}{N Ly:List af},a_ h k w N->a_ h aH (LV.map λa=>w.getD a Y) Ly->∃LI LQ,a_ h (gR LV aH k) w LI/\(LI++LQ).Perm (N++Ly)
 |[],aH,k,N,Ly,J,_=>⟨N,Ly,by cases aH<;>exact J,List.Perm.refl _⟩
 |a::p,[],k,N,Ly,J,e=>⟨N,Ly,J,List.Perm.refl _⟩
 |a::p,m::aH,k,N,Ly,J,e=>by
  let⟨f,E,g,@i,d,y,z,rfl⟩:=e;cases d;let⟨LI,@O,b,c⟩:=J.El y;let⟨LQ,@L5,L9,L_⟩:=xi (LV:=p) (aH:=aH) b z;refine⟨LQ,L5++O,L9,?_⟩;rw[<-bb,<-bb];refine (dO O L_).trans ?_;rw[bb];refine (c4 LI cA).trans ?_;rw[<-bb];exact dO _ c
def J_:∀{LV:List Nat}{aH k:aU},LV.length=aH.length->LV.Nodup->gR LV aH (iL LV k)=gR LV aH k:=by
 have l:∀{p:List Nat}{aH k:aU}{a:Nat}{m:Option ai},a∉p->gR p aH (k.set a m)=(gR p aH k).set a m:=by
  intro p;induction p with
  |nil=>intro aH k a m W;cases aH<;>rfl
  |cons i p b=>
   intro aH k a m e;cases aH with
   |nil=>rfl
   |cons o aH=>
    have f:a≠i:=λd=>e (by rw[d];exact .head _);show gR p aH ((k.set a m).set i o)=(gR p aH<|k.set i o).set a m;rw[Bu _ _ f,b λB=>e<|.tail _ B]
 have g:∀{p:List Nat}{k:aU}{a:Nat}{m:Option ai},a∉p->iL p (k.set a m)=(iL p k).set a m:=by
  intro p;induction p with
  |nil=>intro k a m W;rfl
  |cons i p b=>
   intro k a m e;have f:a≠i:=λd=>e (by rw[d];exact .head _);show iL p (match (k.set a m)[i]? with|some (Z _)=>(k.set a m).set i (Z .ej)|_=>k.set a m)=(iL p (match k[i]? with|some (Z _)=>k.set i (Z .ej)|_=>k)).set a m;rw[k4 f];cases k[i]? with
   |none=>exact b λB=>e (.tail _ B)
   |some q=>
    cases q with
    |none=>exact b λB=>e (.tail _ B)
    |some v=>
     show iL p ((k.set a m).set i<|Z .ej)=_;rw[Bu _ _ f];exact b λB=>e (.tail _ B)
 intro LV;induction LV with
 |nil=>intro aH k W W;cases aH<;>rfl
 |cons a p b=>
  intro aH k h ak;have c:=gZ.mp ak;cases aH with
  |nil=>cases h
  |cons o aH=>
   have j:p.length=aH.length:=by simpa using h
   show gR p aH ((iL p (match k[a]? with|some (Z _)=>k.set a (Z .ej)|_=>k)).set a o)=gR p aH (k.set a o);split
   ·rw[g c.1,ng,<-g c.1,b j c.2]
   ·rw[<-g c.1,b j c.2]
theorem wc{h:aq}{k:aU}{p:aW}{N:List af}(e:a_ h k p N):∀{own:List az},a_ h (replicate own.length Y++k) (own.map (λ_=>Y)++p) N
 |[]=>e
 |f::own=>⟨Y,_,[],N,rfl,rfl,wc e (own:=own),rfl⟩
theorem vA{h:aq}:∀{s:Nat}{k:aU}{w:aW}{N:List af},a_ h k w N->∃LI LQ,a_ h (k.drop s) (w.drop s) LI/\(LI++LQ).Perm N
 |0,k,w,N,e=>⟨N,[],e,by rw[bN]⟩
 |s+1,[],w,N,e=>by
  cases e.1;exact⟨[],N,⟨rfl,rfl⟩,List.Perm.refl _⟩
 |s+1,m::k,w,N,e=>by
  let⟨f,p,O,@L5,rfl,y,z,rfl⟩:=e;let⟨LI,@LQ,a,b⟩:=vA (s:=s) z;exact⟨LI,LQ++O,a,by rw[<-bb];exact (dO O b).trans cA⟩
def aY.both(g:aY h N Lw (LI++Lp)):aY h N Lw LI:=g.less (List.Perm.refl _)
theorem bo.snoc:∀{A:List X}{Q:List ah}{v:X}{r:ah},bo h A Q->b9 h v r->bo h (A++[v]) (Q++[r])
 |[],Q,v,r,e,I=>by cases (show Q=[] from e);exact⟨r,[],rfl,I,rfl⟩
 |d::A,Q,v,r,e,I=>by
  let⟨D,@p,rfl,y,z⟩:=e;exact⟨D,p++[r],rfl,y,z.snoc I⟩
variable{E:iy}
def ym(ak:LV.Nodup)(e:hn (e6 own.length LV E l MA MJ) w h x):
  pg own LV (vH E) (λ_=>tD (mf own.length LV.length) l) (λ_=>hv MA) (λ_=>hn MJ) w h x:=by
 let⟨k,N,p,@LJ,J,f2,f4,q⟩:=e;let⟨@⟨⟨C,m⟩,T⟩,y,z⟩:=bl.mp f4;let⟨@⟨A,ca⟩,f8,ga⟩:=cb.mp z;cases ga;refine⟨k,N,(C,m),T,J,f2,y,λMl Lw LI Lp ge ae fy gl gt lv=>?_⟩;let⟨jL,@M,cd,t,L3⟩:=x9 ak ge;have ce:aY h N Lw (M++(jL++Lp)):=gt.iB (by
  refine (dO Lp L3.symm).trans ?_;rw[bb];exact i3)
 have ch:=dp.mp ce.ak;have g1:∀f∈jL++Lp,fh Lw f:=λf I=>by
  rcases er.mp I with I|I
  ·exact cd.chg f I
  ·exact gl f I
 have am:∀{LK:aq}{LQ:List af},aY Lw M LK LQ->∀g∈jL++Lp,∀D,Lw g=Z D->LK g=Z D:=λj g b D d=>j.keep g D d λe=>ch.2.2 g e g b rfl;refine⟨λa H LH P=>H+a=C.length/\∃Mi aH L,a_ P aH (LV.map λa=>w.getD a Y) L/\aH.length=LV.length/\aY Lw M P L/\bo P Mi LH/\eb own.length l MA MJ (C.drop a) Mi aH=Z (A,ca),
  ⟨C.length,rfl,[],iG LV T,M,t,by rw[iG,bF],aY.perm ch.1<|List.Perm.refl _,rfl,f8⟩,?_⟩;rintro a H LH P ⟨an,Mi,aH,L,ci,g2,S,cl,ap⟩;by_cases co:a<C.length
 ·let@⟨g3,hd⟩:=ae.go P S.tup (λg b=>am S g<|dr _ b) a C[a] (by simp[co]);rw[ir co,eb]at ap;let⟨@G,he,hf⟩:=bl.mp ap;let⟨@⟨c,a2⟩,hm,R⟩:=bl.mp hf;refine .inr ⟨g3,λcr LK=>(H-1)+(a+1)=C.length/\∃Mi aH L,a_ LK aH (LV.map λa=>w.getD a Y) L/\aH.length=LV.length/\aY Lw M LK L/\bo LK Mi cr/\eb own.length l MA MJ (C.drop<|a+1) Mi aH=Z (A,ca),λcr LK e=>⟨H-1,⋯,e⟩,λf LK I=>?_⟩;let@⟨o,hw⟩:=hd f LK I;have h0:=ci.mono o.tupS λg W m d=>o g m d;have cs:=S.same o;have as:=cl.mono o.tupS.tup;refine⟨replicate own.length Y++aH,L,.im C[a],[],G,wc h0,⟨hw,rfl⟩,by rw[bN];exact cs.ak,he,λbd ii db a1 ds be=>⟨λi r n=>?_,?_⟩⟩
  ·
   have lw:own.length<=i:=by
    by_cases io:i<own.length
    ·rw[hS,lF ⇑io,eJ]at n;cases d:own[i]? with
     |none=>rw[d]at n;cases n
     |some B=>rw[d]at n;cases n
    ·lia
   have mb:i<own.length+LV.length:=by
    have:=(eT.mp n).1
    rwa [hS,eK,bF,bF]at this
   have an:i∈mf own.length LV.length:=fN.mpr ⟨i-own.length,gq.mpr ⋯,⋯⟩;exact (a1.2 i an).trans n
  ·have dL:aY Lw M ii db:=cs.seq (by rw[bN]at be;exact be);have as:=as.mono be.tup.tup;have eq:bd.drop own.length=LV.map λa=>w.getD a Y:=by
    have mo:=ds.len;refine ml λi=>?_;by_cases n:i<LV.length
    ·have an:i+own.length∈mf own.length LV.length:=fN.mpr ⟨i,gq.mpr n,rfl⟩;have:=a1.2 _ an;rw[j5,Nat.add_comm,this,hS,lz ↥0,bF,sA]
    ·have ms:bd.length<=own.length+LV.length:=by
      rw[a1.1,hS,eK,bF,bF];exact bq _
     rw[tg (by rw[gU];lia),tg (by rw[bF];lia)]
   have ev:bd.length=own.length+LV.length:=by rw[a1.1,hS,eK,bF,bF]
   refine⟨G,db,c,a2,ds,dL.ak,hm,λm0 bi O bm=>?_⟩;have U:=dL.seq bm;dsimp only at R ⊢;cases c with
   |false=>
    rw[aM dg]at R ⊢;let⟨al,@ex,F,bn⟩:=vA (s:=own.length) O;rw[eq]at F;exact⟨⋯,Mi,a2.drop own.length,al,F,by rw[gU,O.len,ev];lia,U.less bn,as.mono bm.tup.tup,R⟩
   |true=>
    rw[aK rfl]at R ⊢;let⟨@⟨r,fd⟩,it,Q⟩:=bl.mp R;dsimp only at Q;split at Q
    ·rename_i v;split at Q
     ·rename_i na;refine⟨a2,bi,.im v,fd,O,U.ak,it,λD nb al ne F jp bs=>?_⟩;let@⟨kt,rfl⟩:=jp;rw[bN]at bs;have fn:=(as.mono bm.tup.tup).mono bs.tup.tup;refine⟨z3 (show LH.length<=100000 by rw[<-fn.length];lia) ∅,?_⟩;let⟨kw,@nl,fr,lc⟩:=vA (s:=own.length) F;rw[eq]at fr;exact⟨⋯,Mi++[v],fd.drop own.length,kw,fr,by rw[gU,F.len,ev];lia,(U.seq bs).less lc,fn.snoc kt,Q⟩
     ·cases Q
    ·cases Q
 ·have Lv:a=C.length:=⋯
  subst Lv;refine .inl ⟨ae.stop P S.tup<|λg b=>am S g<|dr _ b,λbv f0=>?_⟩;rw[mD (bq _),eb]at ap;cases ap;have lf:a_ P (iL LV T) w jL:=cd.mono S.tup λg b=>am S g (fM _ b);let⟨bi,@f1,O,li⟩:=xi lf ci;rw[J_ (by rw[g2]) ak]at O;have lm:oy P w Lp m:=by
   cases m with
   |none=>trivial
   |some u=>
    let⟨a,v⟩:=u;let⟨@r,ln,ls⟩:=fy;exact⟨r,ln,ls.mono S.tup λg b=>am S g<|dr _ b⟩
  let⟨al,@ex,F,bn⟩:=te (Lp:=Lp) O lm;have o:bz P (upd P bv<|.lst LH):=(bz.refl P).upd f0;have U:aY h N P al:=(ce.trans S g1).less (aH:=ex++f1) (by
   rw[<-bb];refine (dO f1 bn).trans ?_;rw[bb];refine (c4 bi cA).trans ?_;rw[<-bb];refine (dO Lp li).trans ?_;rw[bb];exact i3)
  exact q _ _ al [bv] (F.mono o.tupS λg W m d=>o g m d) ⟨bv,LH,rfl,de,cl.mono o.tupS.tup,rfl⟩ (U.add f0 F.chg)
def s_{ME:a7}{MD:List a7}{LD:dU}(c:b.calm=V)(LX:gL b LD own LV)(ak:LV.Nodup)(Lv:kh b LS Mm E)(d:∀a,f7 (b.eI (eP b own LV) LD a) (mf own.length LV.length) LS l)(g:∀a,pT (b.eI (eP b own LV) LD a) MD MA)(i:∀a,b0 (b.eI (eP b own LV) LD a) ME MJ)(au:∀f,jX Mm b.env f=pure f:=by intro W;rfl):b0 b (.ListComp ME [⟨LS,Mm,MD,0⟩] LD LC) (e6 own.length LV E l MA MJ):=
 d7 (Ga c LX Lv d g i au) λw h x e=>ym ak e
end
@[simp] def g_(LU:List Nat):List ai->aU->Nat->List ai
 |v::A,m::k,i=>(if v.c2=V then v else if i∈LU then m.getD .ej else .ej)::g_ LU A k (i+1)
 |v::A,[],i=>(if v.c2=V then v else .ej)::g_ LU A [] (i+1)
 |[],_,_=>[]
@[simp] def dB(s H:Nat)(LU:List Nat)(F:bI):dm:=λA=>if A.length=s then match F (A.map Z++replicate (H-s) Y) with
 |some (.cR p,k)=>Z (p,g_ LU A k 0)
 |some (.bh,k)=>Z (.im .aR,g_ LU A k 0)
 |_=>Y else Y
theorem u3{h:aq}:∀{A:List ai}{Q:List ah}{N:List af}{H:Nat},cz h A Q N->a_ h (A.map Z++replicate H Y) (Q.map Z++replicate H Y) N
 |[],Q,N,H,e=>by
  let@⟨rfl,rfl⟩:=e;show a_ h (replicate H Y) (replicate H Y) [];induction H with
  |zero=>exact⟨rfl,rfl⟩
  |succ H a=>exact⟨Y,_,[],[],rfl,rfl,a,rfl⟩
 |v::A,Q,N,H,e=>by
  let⟨r,p,LI,@LQ,rfl,y,z,rfl⟩:=e;exact⟨Z r,_,LI,LQ,rfl,⟨r,rfl,y⟩,u3 z,rfl⟩
theorem qB{h P:aq}{LU:List Nat}(E:d6 h P):∀{A:List ai}{Q:List ah}{q:List af}{k:aU}{w:aW}{N:List af}{a:Nat},cz h A Q q->a_ P k w N->(∀(i:Nat) (r:ah),(a+i)∈LU->Q[i]?=Z r->w[i]?=Z (Z r))->
  ∃Lp Ly,cz P (g_ LU A k a) Q Lp/\(Lp++Ly).Perm N
 |[],Q,q,k,w,N,a,e,J,_=>⟨[],N,by unfold g_;exact⟨e.1,rfl⟩,List.Perm.refl _⟩
 |v::A,Q,q,[],w,N,a,e,J,n=>by
  let⟨r,p,O,@L5,rfl,y,z,rfl⟩:=e;let@⟨rfl,rfl⟩:=J;let⟨Lp,@Ly,b,c⟩:=qB (k:=[]) (w:=[]) (N:=[]) (a:=a+1) E z ⟨rfl,rfl⟩ λi r s t=>by
   have:=n (i+1) r (by rw[show a+(i+1)=a+1+i by lia];exact s) ⇑t;simp at this
  rw[g_];refine⟨Lp,Ly,⟨r,p,[],Lp,rfl,?_,b,rfl⟩,c⟩;split
  ·rename_i l;have:=y.mono E λg o=>by rw[y.c2 l]at o;cases o
   rw[y.c2 l]at this;exact this
  ·exact rfl
 |v::A,Q,q,m::k,w,N,a,e,J,n=>by
  let⟨r,p,O,@L5,rfl,y,z,rfl⟩:=e;let⟨f,j,aH,@Ls,rfl,x,B,rfl⟩:=J;let⟨Lp,@Ly,b,c⟩:=qB (k:=k) (w:=j) (a:=a+1) E z B λi r s t=>by
   have:=n (i+1) r (by rw[show a+(i+1)=a+1+i by lia];exact s) ⇑t;simpa using this
  rw[g_];split
  ·rename_i l;have u:=y.mono E λg o=>by rw[y.c2 l]at o;cases o
   rw[y.c2 l]at u;refine⟨Lp,Ly++aH,⟨r,p,[],Lp,rfl,u,b,rfl⟩,?_⟩;rw[<-bb];exact (dO aH c).trans cA
  ·split
   ·rename_i C;have D:f=Z r:=by
     have:=n 0 r C rfl;simpa using this
    subst D;cases m with
    |none=>
     refine⟨Lp,Ly++aH,⟨r,p,[],Lp,rfl,rfl,b,rfl⟩,?_⟩;rw[<-bb];exact (dO aH c).trans cA
    |some d=>
     let⟨@G,F,I⟩:=x;cases F;refine⟨aH++Lp,Ly,⟨r,p,aH,Lp,rfl,I,b,rfl⟩,?_⟩;rw[bb];exact c4 _ c
   ·refine⟨Lp,Ly++aH,⟨r,p,[],Lp,rfl,rfl,b,rfl⟩,?_⟩;rw[<-bb];exact (dO aH c).trans cA
section
variable{LF:bf}{I:a5}{Lr:Φ}{aI:az->Option aa}{LB:a0}
def HB{Mj:az}{R:af}{LR:List az}{n:Nat}{F:bI}(N:e1 Lr f Mj J R fd)(LX:iH LR LO (cZ J))(y:LO.length=s)(L:∀a∈LU,a<s)(z:∀(B:aa) (O:a9) (T:List dy) (j:ag) (h:aq) (Ls:eO),cQ n (O.deeper<|fR Mj (cZ J) j.heap.objs.size R B)->gj (hH e2 LF I Lr aI LB LR Mj (cZ J) R B O T j h Ls).hX LU (e3 J) F):
  fZ LF I Lr aI LB e2 (n+1) R fd LO (h7 s<|dB s LR.length LU F):=by
 refine N.ok LX (λQ h x Ls e=>e.1.trans y.symm) (λB O T j h Q x Ls LG e=>⟨_,z B O T j h Ls LG,?_⟩);let@⟨o,⟨A,k,p,@l,m,ak,b,q⟩⟩:=e;have C:A.length=s:=m.length.trans o;unfold dB at b;rw[aK C]at b;have J:=u3 (H:=LR.length-s) m;have Lu:start LR Q=Q.map Z++replicate (LR.length-s) Y:=by unfold start;rw[o]
 rw[Lu];have t:∀{c:aW}{P:aq}{LW:List af}{LJ:aU}{r:ah}{Lp:List af},g_ LU A LJ 0=l->cH LU (Q.map Z++replicate (LR.length-s) Y) c->a_ P LJ c LW->bJ P p r Lp->aY h k P (LW++Lp)->x r P:=λ{c P LW LJ r Lp} E Mf g D S=>by
  let⟨bp,@Ly,u,G⟩:=qB (LU:=LU) (a:=0) S.tup m g λi r v w=>by
   rw[s6]at v;rw[Mf.2 i v,lF (by rw[bF];exact (eT.mp w).1),eJ,w];rfl
  rw[E]at u;refine q r P Lp bp D u (S.less (aH:=Ly) ?_);rw[bb];exact (c4 Lp G).trans cA
 split at b
 ·rename_i Mc LJ d;cases b;exact⟨_,k,.cR p,LJ,J,ak,d,λr c P LW Lp Mf g D S=>t rfl Mf g D S⟩
 ·rename_i LJ d;cases b;exact⟨_,k,.bh,LJ,J,ak,d,λc P LW Mf g S=>t rfl Mf g ⟨rfl,rfl⟩ (by rw[bN];exact S)⟩
 ·cases b
end
def b2(h:aq)(v:ai)(x:cp):Prop:=(∀r P Lp,bz h P->bJ P v r Lp->Lp.Nodup->(∀g∈Lp,h g=Y)->x r P)
def b2.Aa{v:X}(q:b2 h (.im v) x)(j:bz h P)(e:b9 P v r):x r P:=q r P [] j ⟨e,rfl⟩ hc (λg a=>nomatch a)
def b2.i{h:aq}{v:X}{x:cp}{r:ah}(q:b2 h (.im v) x)(e:b9 h v r):x r h:=q.Aa (bz.refl h) e
def b2.l{u:af}(q:b2 h (.lst A) x)(a:h u=Y)(e:bo h A C):x (.ref u) (upd h u<|.lst C):=by
 have j:bz h (upd h u<|.lst C):=(bz.refl h).upd a;exact q _ _ [u] j ⟨u,C,rfl,de,e.mono j.tupS.tup,rfl⟩ (fX _ _) λg b=>by rw[dk.mp b];exact a
def b2.t{h:aq}{A:List X}{C:List ah}{x:cp}{u:af}(q:b2 h (.im<|.tup A) x)(a:h u=Y)(e:bo h A C):x (.ref u) (upd h u<|.tup C):=by
 have j:bz h (upd h u<|.tup C):=(bz.refl h).upd a;exact q.Aa j ⟨u,C,rfl,de,e.mono j.tupS.tup⟩
section
variable{b:aE}
def dd.imp{R:aa->aa->da aa}{p:bp}(e:dd b R p)(a:∀f l h x,Mc f l h x->p f l h x):dd b R Mc:=λM j w h f l r D x t c d g=>e M j w h f l r D x t c d (a f l h x g)
def dX.imp{R:aa}{p Mc:List ah->aq->cp->Prop}(e:dX b R p)(a:∀C h x,Mc C h x->p C h x):dX b R Mc:=λM j w h C LP x t c d=>e M j w h C LP x t c (a C h x d)
def gr.imp{p:bp}(e:gr b p)(a:∀f l h x,Mc f l h x->p f l h x):gr b Mc:=λc d M j w h f l r D x t g i k=>e c d M j w h f l r D x t g i (a f l h x k)
def dC.i{h:aq}{v:X}{r:ah}(e:dC h (.im v) r):b9 h v r:=e.elim λ_ I=>I.1
end
abbrev e9:=ai->ai->Option ai
@[simp] def ha(aH:Int->Int->Bool)(F:Int->Int->X):e9:=λg c=>match g,c with
 |.im (.int a),.im (.int i)=>if aH a i=V then Z (.im<|F a i) else Y
 |_,_=>Y
def zB{aH:Int->Int->Bool}{F:Int->Int->X}{g c:ai}(e:ha aH F g c=Z v):∃a i,g=.im (.int a)/\c=.im (.int i)/\aH a i=V/\v=.im (F a i):=by
 unfold ha at e;split at e
 ·rename_i a i;split at e
  ·rename_i b;cases e;exact⟨a,i,rfl,rfl,b,rfl⟩
  ·cases e
 ·cases e
section
variable{b:aE}
variable{R:aa->aa->da aa}{F:Int->Int->ah}{e:Int->Int->X}
def qr{aH:Int->Int->Prop}{L5:Int->Int->Bool}(m:dd b R (l7 aH F))(c:∀a i,L5 a i=V->aH a i)(g:∀h a i,b9 h (e a i)<|F a i):ey b R (ha L5 e):=
 m.imp λf l h x ⟨L6,L7,v,j,k,d,q⟩=>by
  let⟨a,@i,rfl,rfl,n,rfl⟩:=zB d;exact⟨a,i,j.i,k.i,c a i n,b2.i q<|g h a i⟩
def oJ(m:dd b R (jv F))(c:∀h a i,b9 h (e a i)<|F a i):ey b R (ha (λ_ W=>V) e):=
 m.imp λf l h x ⟨L6,L7,v,g,j,d,q⟩=>by
  let⟨a,@i,rfl,rfl,k,rfl⟩:=zB d;exact⟨a,i,g.i,j.i,b2.i q<|c h a i⟩
@[simp] def h4:e9:=ha (λ_ W=>V) λa i=>.int (a-i)
def fH(a i:Int):Bool:=(!(decide (bO.Int.intBits a>qy)&&decide (bO.Int.intBits i>qy)&&bO.Int.intTooBig (bO.Int.intBits a+bO.Int.intBits i)))
@[simp] def dE:e9:=ha fH λa i=>.int (a*i)
@[simp] def kr:e9:=ha (λ_ i=>decide (0<i/\i<1073741824)) λa i=>.int (a/i)
@[simp] def eE:e9:=ha (λ_ i=>decide (0<i)) λa i=>.int (a%i)
@[simp] def jP:e9:=ha (λa i=>decide (0<=i/\i<=1000000/\a.natAbs<2^64)) λa i=>.int (a^i.toNat)
@[simp] def gO:e9:=ha (λ_ W=>V) λa i=>.aF (decide (a<i))
@[simp] def e0:e9:=ha (λ_ W=>V) λa i=>.aF (decide (a<=i))
@[simp] def kK:e9:=ha (λ_ W=>V) λa i=>.aF (decide (i<a))
@[simp] def v5:e9:=ha (λ_ W=>V) λa i=>.aF (decide (i<=a))
def qQ:ey b (eU .Sub) h4:=oJ Eb λ_ W W=>rfl
def hT:ey b (eU .Mult) dE:=qr Hi (λa i e=>by unfold fH at e;unfold IntMulOk;rw[l6]at e;rw[e];exact dg) λ_ W W=>rfl
def vI:ey b (eU .FloorDiv) kr:=qr JK (λa i e=>show 0<i/\i<1073741824 from fK e) λ_ W W=>rfl
def kf:ey b (eU .Mod) eE:=qr FN (λa i e=>fK e) λ_ W W=>rfl
def p7:ey b (eU .Pow) jP:=qr Ct (λa i e=>show 0<=i/\i<=1000000/\a.natAbs<2^64 from fK e) λ_ W W=>rfl
def qz:ey b (dz .Lt) gO:=oJ J1 λ_ W W=>rfl
def qX:ey b (dz .LtE) e0:=oJ HS λ_ W W=>rfl
def AD:ey b (dz .Gt) kK:=oJ GC λ_ W W=>rfl
def IG:ey b (dz .GtE) v5:=oJ Cq λ_ W W=>rfl
def C4:dd b (eU .Add) (λf l h x=>∃g c LH,f=.ref g/\l=.ref c/\b3 b.K h g []/\b3 b.K h c LH/\x (.ref c) h):=by
 intro M j w h f l r D x t o p e;let⟨g,c,@LH,rfl,rfl,u,v,q⟩:=e;cases o;cases p;let⟨@Lz,y,z,W⟩:=t.tuple u;let⟨@F,G,Mh,W⟩:=t.tuple v;have d:Lz=[]:=y.qe.mpr rfl;subst d;let⟨@⟨cls,A,data,bx⟩,a,i,⟨@s,hd⟩⟩:=id z;let⟨@⟨H,B,data2,C⟩,k,m,⟨@E,n⟩⟩:=id Mh;simp only at i hd m n;subst i hd m n;exact vl ⟨_,a,rfl⟩ ⟨_,k,rfl⟩ r9 sy vC vb (so _ _) (tuple_addW0 g c _ _ s E A B bx C rfl) ⟨a,k,.ref c,h,t,rfl,q⟩
@[simp] def c1:e9:=λg c=>match g,c with
 |.im (.int a),.im (.int i)=>Z (.im<|.int<|a+i)
 |.im (.tup f),.im (.tup l)=>if f.length+l.length<=100000 then Z (.im<|.tup<|f++l) else Y
 |.lst f,.lst l=>if f.length+l.length<=100000 then Z (.lst<|f++l) else Y
 |.im (.str f),.im (.str l)=>if f.length+l.length<=100000 then Z (.im<|.str<|f++l) else Y
 |_,_=>Y
theorem bo.app:∀{g c:List X}{f l:List ah},bo h g f->bo h c l->bo h (g++c) (f++l)
 |[],c,f,l,e,n=>by cases (show f=[] from e);exact n
 |v::g,c,f,l,e,n=>by
  let⟨r,@p,rfl,y,z⟩:=e;exact⟨r,p++l,rfl,y,z.app n⟩
def bo.nil{h:aq}{g:List X}(e:bo h g []):g=[]:=by
 cases g with
 |nil=>rfl
 |cons v g=>let⟨W,@W,d,W⟩:=e;cases d
def fQ:ey b (eU .Add) c1:=by
 refine (Ko.or<|C4.or<|Ie.or<|ID.or De).imp λf l h x A=>?_;let⟨L6,L7,@v,n,o,d,q⟩:=A;unfold c1 at d;split at d
 ·cases d;exact .inl ⟨_,_,n.i,o.i,b2.i q rfl⟩
 ·rename_i g c;split at d
  ·rename_i j;cases d;let⟨u,@C,rfl,y,z⟩:=n.i;let⟨k,@LH,rfl,m,e⟩:=o.i;refine .inr ?_;by_cases r:C=[]
   ·subst r;cases z.nil;exact .inl ⟨u,k,LH,rfl,rfl,b3.of y,b3.of m,b2.i q ⟨k,LH,rfl,m,e⟩⟩
   ·refine .inr (.inl ⟨u,k,C,LH,rfl,rfl,b3.of y,b3.of m,r,jF (by rw[<-z.length,<-e.length];exact j),λw=>?_,λw s p=>b2.t q p<|z.app e⟩);subst w;cases e.nil;rw[bN]at q;exact b2.i q ⟨u,C,rfl,y,z⟩
  ·cases d
 ·rename_i g c;split at d
  ·rename_i j;cases d;let⟨W,u,@C,rfl,y,z,W⟩:=n;let⟨W,k,@LH,rfl,m,e,W⟩:=o;exact .inr (.inr (.inr (.inl ⟨u,k,C,LH,rfl,rfl,y,m,jF (by rw[<-z.length,<-e.length];exact j),λs p=>b2.l q p<|z.app e⟩)))
  ·cases d
 ·rename_i g c;split at d
  ·rename_i j;cases d;exact .inr (.inr<|.inr<|.inr ⟨g,c,n.i,o.i,jF j,b2.i q rfl⟩)
  ·cases d
 ·cases d
def Il(s:Nat){O:a9}{f l:X}{D r:aa}(dc:X.bE s f=V)(aS:X.bE s l=V)(R:O.units+s+2<bP)(k:cD j.heap f D)(b:cD j.heap l r):SeqAt.RcAt O j D r (bV f l):=by
 cases f with
 |aR=>
  cases (show D=.none from k);cases l with
  |aR=>cases (show r=.none from b);exact I9
  |aF c=>cases (show r=.bool c from b);exact Hz c
  |int i=>let⟨@E,rfl⟩:=b;exact G3 i E
  |str B=>let⟨@E,rfl⟩:=b;exact JX B E
  |tup A=>let⟨g,m,T,@H,rfl,y,z,h,W⟩:=b;exact EC ⟨m,y,z,H,h⟩ ⋯
  |fn g=>cases s<;>cases aS
  |aN g=>cases s<;>cases aS
  |fd=>cases s<;>cases aS
 |aF c=>
  cases (show D=.bool c from k);cases l with
  |aR=>cases (show r=.none from b);exact J4 c
  |aF o=>cases (show r=.bool o from b);exact HW c o
  |int i=>let⟨@E,rfl⟩:=b;exact B8 c i E
  |str B=>let⟨@E,rfl⟩:=b;exact Kl c B E
  |tup A=>let⟨g,m,T,@H,rfl,y,z,h,W⟩:=b;exact KN c ⟨m,y,z,H,h⟩ ⋯
  |fn g=>cases s<;>cases aS
  |aN g=>cases s<;>cases aS
  |fd=>cases s<;>cases aS
 |int a=>
  let⟨@e,rfl⟩:=k;cases l with
  |aR=>cases (show r=.none from b);exact Fs a e
  |aF o=>cases (show r=.bool o from b);exact Ks a e o
  |int i=>let⟨@E,rfl⟩:=b;exact FH a e i E
  |str B=>let⟨@E,rfl⟩:=b;exact JP a e B E
  |tup A=>let⟨g,m,T,@H,rfl,y,z,h,W⟩:=b;exact DU a e ⟨m,y,z,H,h⟩ ⋯
  |fn g=>cases s<;>cases aS
  |aN g=>cases s<;>cases aS
  |fd=>cases s<;>cases aS
 |str a=>
  let⟨@e,rfl⟩:=k;cases l with
  |aR=>cases (show r=.none from b);exact Hl a e
  |aF o=>cases (show r=.bool o from b);exact Co a e o
  |int i=>let⟨@E,rfl⟩:=b;exact IQ a e i E
  |str B=>let⟨@E,rfl⟩:=b;exact EN a e B E
  |tup A=>let⟨g,m,T,@H,rfl,y,z,h,W⟩:=b;exact J5 a e ⟨m,y,z,H,h⟩ ⋯
  |fn g=>cases s<;>cases aS
  |aN g=>cases s<;>cases aS
  |fd=>cases s<;>cases aS
 |fn g=>cases s<;>cases dc
 |aN g=>cases s<;>cases dc
 |fd=>cases s<;>cases dc
 |tup A=>
  cases s with
  |zero=>cases dc
  |succ s=>
  let⟨g,m,T,@H,rfl,y,z,h,p⟩:=k;have L8:j.heap.IsTuple g T:=⟨m,y,z,H,h⟩;cases l with
  |aR=>cases (show r=.none from b);exact Hg L8 ⋯
  |aF o=>cases (show r=.bool o from b);exact G4 o L8 ⋯
  |int i=>let⟨@E,rfl⟩:=b;exact Dj i E L8 ⋯
  |str B=>let⟨@E,rfl⟩:=b;exact Hs B E L8 ⋯
  |fn g=>cases aS
  |aN g=>cases aS
  |fd=>cases aS
  |tup Lu=>
   let⟨c,LZ,n,@C,rfl,F,G,I,t⟩:=b;have cy:j.heap.IsTuple c n:=⟨LZ,F,G,C,I⟩;have u:=p.length;have v:=t.length;have J:T.toList.length=T.size:=by simp
   have L:n.toList.length=n.size:=by simp
   rw[J]at u;rw[L]at v;have q:=wt (A:=O) (e:=λi=>bV (A.getD i .aR)<|Lu.getD i .aR) L8 cy ⋯ λi M N=>by
    let⟨@L6,w,P⟩:=p.get (i:=i) (r:=T[i]) (by rw[gi];simp[M]);let⟨@L7,x,Q⟩:=t.get (i:=i) (r:=n[i]) (by rw[gi];simp[N]);rw[b6,w,b6,x];exact g6 s (hR dc w) (hR aS x) (by show O.units+1+s+1<bP;lia) P Q
   rw[<-u,<-v,oG (A:=A) (Lu:=Lu) (λi f l g c=>by rw[b6,g,b6,c];rfl)]at q;rw[bV];exact q
@[simp] def en:e9:=λg c=>match g,c with
 |.im f,.im l=>if (X.bE 8 f&&X.bE 8 l)=V then Z (.im<|.aF<|bV f l) else Y
 |.lst f,.lst l=>if (X.cY 8 f&&X.cY 8 l)=V then Z (.im<|.aF<|e4 f l) else Y
 |_,_=>Y
theorem r4:∀{f l:List X},f.length≠l.length->e4 f l=ar
 |[],[],e=>absurd rfl e
 |[],_::_,_=>rfl
 |_::_,[],_=>rfl
 |g::f,c::l,e=>by
  rw[e4,r4 (λd=>e (by rw[dK,dK,d])),Bool.and_false]
def lS{M:List (af×aQ)}(t:aA b M w h j){g:af}{C:List ah}{A:List X}(y:h g=Z (.lst C))(z:bo h A C):∃Lz:List aa,j.heap.IsList g Lz.toArray/\c7 j.heap A Lz/\Lz.length=A.length:=by
 let@⟨B,⟨Lz,@s,a,d⟩⟩:=t.aT g _ y;have:=z.ed t.aT a;exact⟨Lz,⟨_,d,rfl,s,rfl⟩,this,this.length.symm⟩
def iJ(am:b.A.units+20<bP):ey b (dz .Eq) en:=by
 intro M j w h f l r D x t p s P;let⟨L6,L7,@v,k,m,d,q⟩:=P;unfold en at d;split at d
 ·rename_i g c;split at d
  ·rename_i e;cases d;rw[cE]at e;exact Il 8 e.1 e.2 ⋯ (k.i.ed t.aT p) (m.i.ed t.aT s) b.prog b.w _ _ ⟨.aF _,h,t,rfl,b2.i q rfl⟩
  ·cases d
 ·rename_i g c;split at d
  ·rename_i e;cases d;rw[cE]at e;let⟨W,u,@C,rfl,y,z,W⟩:=k;let⟨W,an,@LH,rfl,Q,R,W⟩:=m;cases p;cases s;let⟨@S,B,T,o⟩:=lS t y z;let⟨@U,E,al,F⟩:=lS t Q R;by_cases n:g.length=c.length
   ·have:=B3 (A:=b.A) (e:=λi=>bV (g.getD i .aR)<|c.getD i .aR) B E (by rw[cC,cC,o,F];exact n) ⋯ λi G H=>by
     let⟨@L6,J,k⟩:=T.get (i:=i) (r:=S.toArray[i]) (by simp at G;simp[G]);let⟨@L7,L,m⟩:=al.get (i:=i) (r:=U.toArray[i]) (by simp at H;simp[H]);rw[b6,J,b6,L];exact g6 8 (hR e.1 J) (hR e.2 L) (by show b.A.units+1+8+1<bP;lia) k m
    refine this b.prog b.w _ _ ⟨.aF _,h,t,rfl,?_⟩;have N:=oG (A:=g) (Lu:=c) (d:=λi=>bV (g.getD i .aR)<|c.getD i .aR) (λi f l g c=>by rw[b6,g,b6,c];rfl);rw[<-n,Ax,gp,v_]at N;rw[cC,o,N];exact b2.i q rfl
   ·refine FD (A:=b.A) B E (by rw[cC,cC,o,F];simpa using n) ⋯ b.prog b.w _ _ ⟨.aF _,h,t,rfl,?_⟩;rw[r4 n]at q;exact b2.i q rfl
  ·cases d
 ·cases d
end
section
variable{b:aE}
def Dx(s:Nat){O:a9}{f l:X}{D r:aa}(dc:X.bE s f=V)(aS:X.bE s l=V)(R:O.units+s+2<bP)(k:cD j.heap f D)(b:cD j.heap l r):SeqAt.RcNeAt O j D r (!bV f l):=by
 cases f with
 |aR=>
  cases (show D=.none from k);cases l with
  |aR=>cases (show r=.none from b);exact CB
  |aF c=>cases (show r=.bool c from b);exact FT c
  |int i=>let⟨@E,rfl⟩:=b;exact HO i E
  |str B=>let⟨@E,rfl⟩:=b;exact Gk B E
  |tup A=>let⟨g,m,T,@H,rfl,y,z,h,W⟩:=b;exact ED ⟨m,y,z,H,h⟩ ⋯
  |fn g=>cases s<;>cases aS
  |aN g=>cases s<;>cases aS
  |fd=>cases s<;>cases aS
 |aF c=>
  cases (show D=.bool c from k);cases l with
  |aR=>cases (show r=.none from b);exact JN c
  |aF o=>cases (show r=.bool o from b);exact Ee c o
  |int i=>let⟨@E,rfl⟩:=b;exact JG c i E
  |str B=>let⟨@E,rfl⟩:=b;exact DL c B E
  |tup A=>let⟨g,m,T,@H,rfl,y,z,h,W⟩:=b;exact CY c ⟨m,y,z,H,h⟩ ⋯
  |fn g=>cases s<;>cases aS
  |aN g=>cases s<;>cases aS
  |fd=>cases s<;>cases aS
 |int a=>
  let⟨@e,rfl⟩:=k;cases l with
  |aR=>cases (show r=.none from b);exact JW a e
  |aF o=>cases (show r=.bool o from b);exact FR a e o
  |int i=>let⟨@E,rfl⟩:=b;exact Jo a e i E
  |str B=>let⟨@E,rfl⟩:=b;exact Jj a e B E
  |tup A=>let⟨g,m,T,@H,rfl,y,z,h,W⟩:=b;exact Jm a e ⟨m,y,z,H,h⟩ ⋯
  |fn g=>cases s<;>cases aS
  |aN g=>cases s<;>cases aS
  |fd=>cases s<;>cases aS
 |str a=>
  let⟨@e,rfl⟩:=k;cases l with
  |aR=>cases (show r=.none from b);exact F6 a e
  |aF o=>cases (show r=.bool o from b);exact KA a e o
  |int i=>let⟨@E,rfl⟩:=b;exact H9 a e i E
  |str B=>let⟨@E,rfl⟩:=b;exact FF a e B E
  |tup A=>let⟨g,m,T,@H,rfl,y,z,h,W⟩:=b;exact Ke a e ⟨m,y,z,H,h⟩ ⋯
  |fn g=>cases s<;>cases aS
  |aN g=>cases s<;>cases aS
  |fd=>cases s<;>cases aS
 |fn g=>cases s<;>cases dc
 |aN g=>cases s<;>cases dc
 |fd=>cases s<;>cases dc
 |tup A=>
  cases s with
  |zero=>cases dc
  |succ s=>
  let⟨g,m,T,@H,rfl,y,z,h,p⟩:=k;have L8:j.heap.IsTuple g T:=⟨m,y,z,H,h⟩;cases l with
  |aR=>cases (show r=.none from b);exact Jp L8 ⋯
  |aF o=>cases (show r=.bool o from b);exact Jl o L8 ⋯
  |int i=>let⟨@E,rfl⟩:=b;exact F7 i E L8 ⋯
  |str B=>let⟨@E,rfl⟩:=b;exact Gh B E L8 ⋯
  |fn g=>cases aS
  |aN g=>cases aS
  |fd=>cases aS
  |tup Lu=>
   let⟨c,LZ,n,@C,rfl,F,G,I,t⟩:=b;have cy:j.heap.IsTuple c n:=⟨LZ,F,G,C,I⟩;have u:=p.length;have v:=t.length;have J:T.toList.length=T.size:=by simp
   have L:n.toList.length=n.size:=by simp
   rw[J]at u;rw[L]at v;have q:=FE (A:=O) (e:=λi=>bV (A.getD i .aR)<|Lu.getD i .aR) L8 cy ⋯ λi M N=>by
    let⟨@L6,w,P⟩:=p.get (i:=i) (r:=T[i]) (by rw[gi];simp[M]);let⟨@L7,x,Q⟩:=t.get (i:=i) (r:=n[i]) (by rw[gi];simp[N]);rw[b6,w,b6,x];exact g6 s (hR dc w) (hR aS x) (by show O.units+1+s+1<bP;lia) P Q
   rw[<-u,<-v,oG (A:=A) (Lu:=Lu) (λi f l g c=>by rw[b6,g,b6,c];rfl)]at q;rw[bV];exact q
@[simp] def nj:e9:=λg c=>match g,c with
 |.im f,.im l=>if (X.bE 8 f&&X.bE 8 l)=V then Z (.im<|.aF<|!bV f l) else Y
 |.lst f,.lst l=>if (X.cY 8 f&&X.cY 8 l)=V then Z (.im<|.aF<|!e4 f l) else Y
 |_,_=>Y
def v3(am:b.A.units+20<bP):ey b (dz .NotEq) nj:=by
 intro M j w h f l r D x t p s P;let⟨L6,L7,@v,k,m,d,q⟩:=P;unfold nj at d;split at d
 ·rename_i g c;split at d
  ·rename_i e;cases d;rw[cE]at e;exact Dx 8 e.1 e.2 ⋯ (k.i.ed t.aT p) (m.i.ed t.aT s) b.prog b.w _ _ ⟨.aF _,h,t,rfl,b2.i q rfl⟩
  ·cases d
 ·rename_i g c;split at d
  ·rename_i e;cases d;rw[cE]at e;let⟨W,u,@C,rfl,y,z,W⟩:=k;let⟨W,an,@LH,rfl,Q,R,W⟩:=m;cases p;cases s;let⟨@S,B,T,o⟩:=lS t y z;let⟨@U,E,al,F⟩:=lS t Q R;by_cases n:g.length=c.length
   ·have:=KD (A:=b.A) (e:=λi=>bV (g.getD i .aR)<|c.getD i .aR) B E (by rw[cC,cC,o,F];exact n) ⋯ λi G H=>by
     let⟨@L6,J,k⟩:=T.get (i:=i) (r:=S.toArray[i]) (by simp at G;simp[G]);let⟨@L7,L,m⟩:=al.get (i:=i) (r:=U.toArray[i]) (by simp at H;simp[H]);rw[b6,J,b6,L];exact g6 8 (hR e.1 J) (hR e.2 L) (by show b.A.units+1+8+1<bP;lia) k m
    refine this b.prog b.w _ _ ⟨.aF _,h,t,rfl,?_⟩;have N:=oG (A:=g) (Lu:=c) (d:=λi=>bV (g.getD i .aR)<|c.getD i .aR) (λi f l g c=>by rw[b6,g,b6,c];rfl);rw[<-n,Ax,gp,v_]at N;rw[cC,o,N];exact b2.i q rfl
   ·refine zi (A:=b.A) B E (by rw[cC,cC,o,F];simpa using n) ⋯ b.prog b.w _ _ ⟨.aF _,h,t,rfl,?_⟩;rw[r4 n]at q;exact b2.i q rfl
  ·cases d
 ·cases d
def eB{U:Type}[DecidableEq U](G:List (U×X))(n:U):Option X:=((G.find? λu=>decide (u.1=n)).map (·.2))
theorem k8{U:Type}[DecidableEq U]{h:aq}{n:U}:∀{G:List (U×X)}{i:List (U×ah)},eg h G i->(∀v,eB G n=Z v->∃r,f_ i n=Z r/\b9 h v r)/\(eB G n=Y->f_ i n=Y)
 |_,_,.nil=>⟨(λv d=>by cases d),(λ_=>rfl)⟩
 |_,_,@d2.cons _ _ _ u q _ _ e E=>by
  let@⟨y,z⟩:=k8 (n:=n) E;by_cases d:u.1=n
  ·have a:q.1=n:=e.1.symm.trans d;refine⟨λv hd=>?_,λb=>?_⟩
   ·have:∀p,eB (u::p) n=Z u.2:=λp=>by simp[eB,je,d]
    rw[this]at hd;cases hd;exact⟨q.2,pX a,e.2⟩
   ·have:∀p,eB (u::p) n=Z u.2:=λp=>by simp[eB,je,d]
    rw[this]at b;cases b
  ·have a:¬ q.1=n:=λB=>d (e.1.trans B);have:∀p,eB (u::p) n=eB p n:=λp=>by simp[eB,je,d]
   rw[this,pZ a];exact⟨y,z⟩
@[simp] def bD:e9:=λg c=>match g,c with
 |.im (.tup A),.im (.int a)=>(dM A a).map .im
 |.lst A,.im (.int a)=>(dM A a).map .im
 |.cq A,.im (.int a)=>(dM A a).map .im
 |.br G,.im (.tup n)=>if X.keys 7 n=V then (eB G n).map .im else Y
 |.cW G,.im (.int a)=>(eB G<|.inl a).map .im
 |.cW G,.im (.str a)=>(eB G<|.inr a).map .im
 |.k9 G,.im (.tup n)=>if X.keys 7 n=V then (eB G n).map .im else Y
 |_,_=>Y
def Js(a:b.A.units+20<bP):gr b (λf l h x=>∃g r,f=.ref g/\fe h g l (Z r)/\x r h):=by
 intro H m M j w h f l r D x t c e ⟨g,B,d,F,q⟩ au;subst d;cases c;exact tail_any (CU t F) PySem.F.slot_dict_getitem.lookup (Kf a t F e λn o i k=>⟨B,h,i,k,q⟩) au
def qN{a:Int}{v:X}(e:bo h A C)(d:dM A a=Z v):∃r,dM C a=Z r/\b9 h v r:=by
 unfold dM at d ⊢;rw[<-e.length];let⟨@i,b,c⟩:=bl.mp d;let⟨@r,f,g⟩:=e.get c;exact⟨r,by rw[b];exact f,g⟩
def Fh(D:b.A.units+20<bP):gr b (λf l h x=>∃L6 L7 v,dC h L6 f/\dC h L7 l/\bD L6 L7=Z v/\∀r P Lp,bz h P->bJ P v r Lp->Lp.Nodup->(∀g∈Lp,h g=Y)->x r P):=by
 refine (n9.or<|DE.or<|Js D).imp λf l h x F=>?_;let⟨L6,L7,@v,s,w,d,q⟩:=F;unfold bD at d;split at d
 ·let⟨@Mk,e,j⟩:=cb.mp d;cases j;let⟨u,@C,rfl,y,z⟩:=s.i;let⟨@r,o,p⟩:=qN z e;exact .inr (.inl ⟨u,C,_,r,rfl,w.i,b3.of y,o,b2.i q p⟩)
 ·let⟨@Mk,e,j⟩:=cb.mp d;cases j;let⟨W,u,@C,rfl,y,z,W⟩:=s;let⟨@r,o,p⟩:=qN z e;exact .inl ⟨u,C,_,r,rfl,w.i,cB.of y,o,b2.i q p⟩
 ·let⟨@Mk,e,j⟩:=cb.mp d;cases j;let⟨W,u,C,@m,rfl,y,z,W⟩:=s;let⟨@r,o,p⟩:=qN z e;exact .inl ⟨u,C,_,r,rfl,w.i,.inl<|.inr ⟨m,y⟩,o,b2.i q p⟩
 ·rename_i G n;split at d
  ·rename_i B;let⟨@Mk,e,j⟩:=cb.mp d;cases j;let⟨W,u,@i,rfl,y,z,W⟩:=s;let⟨@r,o,p⟩:=(k8 z).1 Mk e;let⟨c,@C,rfl,L9,L_⟩:=w.i;exact .inr (.inr ⟨u,r,rfl,by rw[<-o];exact fe.t y ⟨B,c,C,rfl,L9,L_⟩,b2.i q p⟩)
  ·cases d
 ·rename_i G a;let⟨@Mk,e,j⟩:=cb.mp d;cases j;let⟨W,u,@i,rfl,y,z,W⟩:=s;let⟨@r,o,p⟩:=(k8 z).1 Mk e;refine .inr (.inr ⟨u,r,rfl,?_,b2.i q p⟩);rw[show l=b7 (.inl a) from w.i,<-o];exact fe.k y
 ·rename_i G a;let⟨@Mk,e,j⟩:=cb.mp d;cases j;let⟨W,u,@i,rfl,y,z,W⟩:=s;let⟨@r,o,p⟩:=(k8 z).1 Mk e;refine .inr (.inr ⟨u,r,rfl,?_,b2.i q p⟩);rw[show l=b7 (.inr a) from w.i,<-o];exact fe.k y
 ·rename_i G n;split at d
  ·rename_i B;let⟨@Mk,e,j⟩:=cb.mp d;cases j;let⟨W,u,i,@H,rfl,y,z,W⟩:=s;let⟨@r,o,p⟩:=(k8 z).1 Mk e;let⟨c,@C,rfl,L9,L_⟩:=w.i;exact .inr (.inr ⟨u,r,rfl,.inr ⟨i,n,c,.inr ⟨H,y⟩,rfl,⟨B,c,C,rfl,L9,L_⟩,o.symm⟩,b2.i q p⟩)
  ·cases d
 ·cases d
end
end L2
namespace jA
open Spec PyProof.Rows
end jA
namespace L2
open Spec PyProof.Rows
section
variable{b:aE}
@[simp] def iV(F:aB ai):aB ai:=λk=>(F k).bind λu=>match u.1 with
 |.im (.int a)=>Z (.im<|.int<|-a,u.2)
 |_=>Y
def p4{g:a7}{F:aB ai}{LC:Pos}(e:b0 b g F):b0 b (.UnaryOp .USub g LC) (iV F):=by
 refine d7 (xn vJ e) λw h x c=>?_;let⟨k,N,p,@LJ,J,ak,d,q⟩:=c;let⟨@⟨f,T⟩,y,z⟩:=bl.mp d;refine⟨k,N,f,T,J,ak,y,λr Lw LI Lp i j l=>?_⟩;dsimp only at z;split at z
 ·rename_i a;cases z;exact⟨a,j.1,q _ Lw LI [] i ⟨rfl,rfl⟩ (by rw[bN];exact l.both)⟩
 ·cases z
def cG(F:aB (Option Int)):cx:=(λw h x=>∃k N L LJ,a_ h k w N/\N.Nodup/\F k=Z (L,LJ)/\∀P LW,a_ P LJ w LW->aY h N P LW->x L P)
def Ea:aB (Option Int):=(λk=>Z (Y,k))
variable{h:aq}
theorem bo.take:∀{A:List X}{C:List ah} (s:Nat),bo h A C->bo h (A.take s) (C.take s)
 |A,C,0,e=>rfl
 |[],C,s+1,e=>by cases (show C=[] from e);exact rfl
 |v::A,C,s+1,e=>by
  let⟨r,@p,rfl,y,z⟩:=e;exact⟨r,_,rfl,y,z.take s⟩
abbrev hB:=List ai->Option ai
@[simp] def fB:hB:=λA=>match A with
 |[.im (.tup f)]=>Z (.im<|.int f.length)
 |[.lst f]=>Z (.im<|.int f.length)
 |[.cq f]=>Z (.im<|.int f.length)
 |[.dh f]=>Z (.im<|.int f.length)
 |[.cW f]=>Z (.im<|.int f.length)
 |[.im (.str f)]=>if f.length<=100000 then Z (.im<|.int f.length) else Y
 |_=>Y
variable{Q:List ah}
def fv{v:ai}(e:ko h [v] Q):∃r,Q=[r]/\dC h v r:=by
 let⟨r,@p,rfl,y,z⟩:=e;cases (show p=[] from z);exact⟨r,rfl,y⟩
def x1{v d:ai}(e:ko h [v,d] Q):∃r D,Q=[r,D]/\dC h v r/\dC h d D:=by
 let⟨r,@p,rfl,y,z⟩:=e;let⟨@D,rfl,a⟩:=fv z;exact⟨r,D,rfl,y,a⟩
def eg.length{U:Type}{L:List (U×X)}{H:List (U×ah)}(e:eg h L H):L.length=H.length:=d2.length e
def mS:gv b (.builtin "len") fB:=by
 refine (A4.or<|DR.or Et).imp λC h x f=>?_;let⟨A,@v,c,d,q⟩:=f;unfold fB at d;split at d
 ·cases d;let⟨@r,rfl,e⟩:=fv c;let⟨u,@C,rfl,y,z⟩:=e.i;exact .inl ⟨u,C,rfl,.inr<|b3.of y,by rw[<-z.length];exact b2.i q rfl⟩
 ·cases d;let⟨@r,rfl,⟨W,u,@C,rfl,y,z,W⟩⟩:=fv c;exact .inl ⟨u,C,rfl,.inl<|cB.of y,by rw[<-z.length];exact b2.i q rfl⟩
 ·cases d;let⟨@r,rfl,⟨W,u,C,@m,rfl,y,z,W⟩⟩:=fv c;exact .inl ⟨u,C,rfl,.inl<|.inl<|.inr ⟨m,y⟩,by rw[<-z.length];exact b2.i q rfl⟩
 ·cases d;let⟨@r,rfl,⟨W,u,C,@Ly,rfl,y,z,W⟩⟩:=fv c;exact .inl ⟨u,C,rfl,.inl<|cB.of y,by rw[<-z.length];exact b2.i q rfl⟩
 ·cases d;let⟨@r,rfl,⟨W,u,@i,rfl,y,z,W⟩⟩:=fv c;exact .inr (.inr ⟨u,i,rfl,y,by rw[<-z.length];exact b2.i q rfl⟩)
 ·split at d
  ·rename_i g;cases d;let⟨@r,rfl,e⟩:=fv c;cases (show r=_ from e.i);exact .inr (.inl ⟨_,rfl,jF g,b2.i q rfl⟩)
  ·cases d
 ·cases d
@[simp] def la:hB:=λA=>match A with
 |[v]=>(lY v).map λf=>.im (.tup f)
 |_=>Y
def nD:gv b (.type "tuple") la:=by
 refine Ez.imp λC h x j=>?_;let⟨A,@v,k,d,q⟩:=j;unfold la at d;split at d
 ·let⟨@f,c,l⟩:=cb.mp d;cases l;let⟨@r,rfl,e⟩:=fv k;unfold lY at c;split at c
  ·cases c;let⟨u,@C,rfl,y,z⟩:=e.i;exact⟨u,C,rfl,.inr ⟨b3.of y,b2.i q ⟨u,C,rfl,y,z⟩⟩⟩
  ·cases c;let⟨W,u,@C,rfl,y,z,W⟩:=e;exact⟨u,C,rfl,.inl ⟨cB.of y,λL g=>b2.t q g z⟩⟩
  ·cases c;let⟨W,u,C,@m,rfl,y,z,W⟩:=e;exact⟨u,C,rfl,.inl ⟨.inl<|.inr ⟨m,y⟩,λL g=>b2.t q g z⟩⟩
  ·cases c
 ·cases d
@[simp] def vInt:hB:=λA=>match A with
 |[.im (.int a)]=>Z (.im<|.int a)
 |[.im (.aF c)]=>Z (.im<|.int<|if c then 1 else 0)
 |_=>Y
def ro:gv b (.type "int") vInt:=by
 refine Hx.imp λC h x f=>?_;let⟨A,@v,c,d,q⟩:=f;unfold vInt at d;split at d
 ·cases d;let⟨@r,rfl,e⟩:=fv c;cases (show r=_ from e.i);exact .inl ⟨_,rfl,b2.i q rfl⟩
 ·cases d;let⟨@r,rfl,e⟩:=fv c;cases (show r=_ from e.i);exact .inr ⟨_,rfl,b2.i q rfl⟩
 ·cases d
@[simp] def tf:hB:=λA=>match A with
 |[.im (.int a),.im<|.int i]=>Z (.im<|.int<|if i>a then i else a)
 |_=>Y
@[simp] def uG:hB:=λA=>match A with
 |[.im (.int a),.im<|.int i]=>Z (.im<|.int<|if i<a then i else a)
 |_=>Y
def D3(c:b.calm=V):gv b (.builtin "max") tf:=by
 refine (Ey c).imp λC h x f=>?_;let⟨A,@v,g,d,q⟩:=f;unfold tf at d;split at d
 ·cases d;let⟨r,@D,rfl,e,n⟩:=x1 g;cases (show r=_ from e.i);cases (show D=_ from n.i);exact⟨_,_,rfl,b2.i q rfl⟩
 ·cases d
def FL(c:b.calm=V):gv b (.builtin "min") uG:=by
 refine (KG c).imp λC h x f=>?_;let⟨A,@v,g,d,q⟩:=f;unfold uG at d;split at d
 ·cases d;let⟨r,@D,rfl,e,n⟩:=x1 g;cases (show r=_ from e.i);cases (show D=_ from n.i);exact⟨_,_,rfl,b2.i q rfl⟩
 ·cases d
@[simp] def kG:List X->Option (List Bool)
 |[]=>Z []
 |.aF c::A=>(kG A).map λp=>c::p
 |_::_=>Y
theorem BF{h:aq}:∀{A:List X}{C:List ah}{i:List Bool},bo h A C->kG A=Z i->C=i.map ah.aF
 |[],C,i,e,d=>by cases d;exact e
 |.aF c::A,C,i,e,d=>by
  let⟨r,@p,rfl,y,z⟩:=e;rw[kG]at d;let⟨@u,a,b⟩:=cb.mp d;cases b;cases (show r=.aF c from y);rw[BF z a];rfl
 |.aR::_,_,_,_,d=>by cases d
 |.int _::_,_,_,_,d=>by cases d
 |.str _::_,_,_,_,d=>by cases d
 |.tup _::_,_,_,_,d=>by cases d
 |.fn _::_,_,_,_,d=>by cases d
 |.aN _::_,_,_,_,d=>by cases d
 |.fd::_,_,_,_,d=>by cases d
@[simp] def qC:hB:=λA=>match A with
 |[.lst f]=>(kG f).map λi=>.im (.aF<|i.all id)
 |_=>Y
def Ij(c:b.calm=V):gv b (.builtin "all") qC:=by
 refine (Im c).imp λC h x e=>?_;let⟨A,@v,g,d,q⟩:=e;unfold qC at d;split at d
 ·let⟨@f,j,k⟩:=cb.mp d;cases k;let⟨@r,rfl,⟨W,u,@C,rfl,y,z,W⟩⟩:=fv g;rw[BF z j]at y;exact⟨u,f,rfl,y,b2.i q rfl⟩
 ·cases d
end
section
variable{b:aE}
def sH:ai->Option Nat
 |.im (.int _)=>Z 0
 |.im (.aF _)=>Z 1
 |.im (.str _)=>Z 2
 |.im (.tup _)=>Z 3
 |.im .aR=>Z 4
 |.lst _=>Z 4
 |.im (.aN _)=>Z 4
 |.im .fd=>Z 4
 |.br _=>Z 4
 |.cW _=>Z 4
 |_=>Y
@[simp] def sd(LA:String)(v:ai):Option Bool:=
 (sH v).bind λn=>if LA = "int" then Z (n==0 || n==1) else if LA = "bool" then Z (n==1) else if LA = "str" then Z (n==2) else if LA = "tuple" then Z (n==3) else Y
variable{LA:String}{c:Bool}
def IF{v:ai}(e:sd LA v=Z c):∃n,sH v=Z n/\((LA = "int" /\ c=(n==0 || n==1))\/(LA = "bool" /\ c=(n==1))\/(LA = "str" /\ c=(n==2))\/(LA = "tuple" /\ c=(n==3))):=by
 let⟨@n,d,e⟩:=bl.mp e;refine⟨n,d,?_⟩;by_cases y:LA = "int"
 ·rw[aK y]at e;cases e;exact .inl ⟨y,rfl⟩
 rw[aM y]at e;by_cases z:LA = "bool"
 ·rw[aK z]at e;cases e;exact .inr (.inl ⟨z,rfl⟩)
 rw[aM z]at e;by_cases a:LA = "str"
 ·rw[aK a]at e;cases e;exact .inr (.inr<|.inl ⟨a,rfl⟩)
 rw[aM a]at e;by_cases b:LA = "tuple"
 ·rw[aK b]at e;cases e;exact .inr (.inr<|.inr ⟨b,rfl⟩)
 rw[aM b]at e;cases e
def kV{O L5 aH k LF:Prop}(e:O\/L5\/aH\/k)(g:O->LF)(c:L5->LF)(o:aH->LF)(v:k->LF):LF:=e.elim g λe=>e.elim c λe=>e.elim o v
variable{M:List (af×aQ)}{h:aq}{j:ag}
def xy{w:aW}(t:aA b M w h j){g:af}(e:(∃n,h g=Z (.br n))\/∃n,h g=Z (.cW n)):∃m,j.heap.get? g=Z m/\m.cls=.type "dict" := by
 rcases e with ⟨n,e⟩|⟨n,e⟩
 ·let@⟨_,_,⟨@C,_,⟨m,Lu,@Mg,y,z,_⟩⟩⟩:=(show dG b.prog b.w h j.heap g (.br n) from t.aT g _ e);exact⟨m,y,z.1⟩
 ·let@⟨_,_,⟨@Q,_,⟨m,Lu,@Mg,y,z,_⟩⟩⟩:=(show dG b.prog b.w h j.heap g (.cW n) from t.aT g _ e);exact⟨m,y,z.1⟩
def EY{w:aW}(t:aA b M w h j){g:af}{u:aQ}(e:h g=Z (.b8 u<|.br [])):∃m,j.heap.get? g=Z m/\m.cls=.type "dict" := by
 let@⟨_,_,_,⟨@C,_,⟨m,Lu,@Mg,y,z,_⟩⟩⟩:=(show dG b.prog b.w h j.heap g (.b8 u<|.br []) from t.aT g _ e);exact⟨m,y,z.1⟩
def C7:dX b (.builtin "isinstance") (λC h x=>∃f LA v c,C=[f,.ty LA]/\dC h v f/\sd LA v=Z c/\x (.aF c) h):=by
 intro M j w h C LP x t p e;let⟨f,LA,v,@c,rfl,l,Lv,q⟩:=e;have H:=p;cases p with
 |cons p E=>
  cases E with
  |cons Mc E=>
   cases E;cases Mc;have o:∀{c:Bool},x (.aF c) h->dD b M w x (.bool c) {j with toks:=j.toks+1}:=λ{c} q=>⟨.aF c,h,t.tok _,rfl,q⟩;let⟨@n,k,s⟩:=IF Lv;have r:c=ar->x (.aF ar) h:=λd=>d ▸ q;have F:∀{g:af},n=4->(∃m,j.heap.get? g=Z m/\m.cls=.type "dict")->wpAny (aP b.prog b.w) b.A (call (.builtin "isinstance") [.ref g,.type LA]) (dD b M w x) b.bX j:=by
    rintro g rfl ⟨m,u,D⟩;refine kV s (λ⟨d,R⟩=>d ▸ IsiPair.dict_int u D (o<|r R)) (λ⟨d,R⟩=>d ▸ IsiPair.dict_bool u D (o<|r R)) (λ⟨d,R⟩=>d ▸ IsiPair.dict_str u D (o<|r R)) λG=>?_;let@⟨d,R⟩:=G;exact d ▸ IsiPair.dict_tuple u D (o<|r R)
   have j4:xT b.K h f LA c->wpAny (aP b.prog b.w) b.A (call (.builtin "isinstance") [_,.type LA]) (dD b M w x) b.bX j:=λJ=>G5 M j w h _ _ x t H ⟨f,LA,c,rfl,J,q⟩;have va:∀{g:af}{C:List ah},n=4->f=.ref g->cB b.K h g C->wpAny (aP b.prog b.w) b.A (call (.builtin "isinstance") [_,.type LA]) (dD b M w x) b.bX j:=λ{g C} k d B=>by
    subst k;exact j4 (.inr<|.inr<|.inr<|.inr ⟨g,C,d,B,kV s (λe=>.inr<|.inl e) (λe=>.inr<|.inr<|.inr<|.inl e) (λe=>.inr<|.inr<|.inl e) λe=>.inr<|.inr<|.inr<|.inr e⟩)
   unfold sH at k;split at k
   ·cases k;exact j4 (.inl ⟨_,l.i,kV s .inl (λe=>.inr<|.inr<|.inr<|.inl e) (λe=>.inr<|.inr<|.inl e) λe=>.inr<|.inl e⟩)
   ·cases k;exact j4 (.inr<|.inl ⟨_,l.i,kV s (λe=>.inr<|.inl e) .inl (λe=>.inr<|.inr<|.inr<|.inl e) λe=>.inr<|.inr<|.inl e⟩)
   ·cases k;exact j4 (.inr<|.inr<|.inl ⟨_,l.i,kV s (λe=>.inr<|.inl e) (λe=>.inr<|.inr<|.inr<|.inl e) .inl λe=>.inr<|.inr<|.inl e⟩)
   ·cases k;let⟨g,@C,d,y,z⟩:=l.i;exact j4 (.inr<|.inr<|.inr<|.inl ⟨g,C,d,b3.of y,kV s (λe=>.inr<|.inl e) (λe=>.inr<|.inr<|.inr<|.inl e) (λe=>.inr<|.inr<|.inl e) .inl⟩)
   ·cases k;cases (show f=.aR from l.i);cases p;refine kV s (λ⟨d,R⟩=>d ▸ IsiPair.NoneType_int (o<|r R)) (λ⟨d,R⟩=>d ▸ IsiPair.NoneType_bool (o<|r R)) (λ⟨d,R⟩=>d ▸ IsiPair.NoneType_str (o<|r R)) λG=>?_;let@⟨d,R⟩:=G;exact d ▸ IsiPair.NoneType_tuple (o<|r R)
   ·cases k;let⟨W,g,@C,d,y,z,W⟩:=l;exact va rfl d (cB.of y)
   ·cases k;let⟨g,C,@m,d,y,z⟩:=l.i;exact va rfl d (.inl<|.inr ⟨m,y⟩)
   ·cases k;let⟨g,@m,rfl,y⟩:=l.i;cases p;exact F rfl (EY t y)
   ·cases k;let⟨W,g,@C,rfl,y,z,W⟩:=l;cases p;exact F rfl (xy t<|.inl ⟨_,y⟩)
   ·cases k;let⟨W,g,@C,rfl,y,z,W⟩:=l;cases p;exact F rfl (xy t<|.inr ⟨_,y⟩)
   ·cases k
@[simp] def lD(LA:String)(F:aB bj):aB ai:=λk=>(F k).bind λu=>(dj u.2 u.1).bind λv=>(sd LA v).map λc=>(.im<|.aF c,u.2)
variable{f:az}{d:a7}{F:aB bj}{LC:Pos}
def l4{u Mh:Pos}(i:eC b "isinstance")(j:b.aI "isinstance" = Y)(l:ez "isinstance" = Z (.builtin "isinstance"))(n:eC b f)(o:b.aI f=Y)(s:ez f=Z (.type LA))(e:c6 b d F)(t:f ≠ "__name__" := by decide)(hd:(f==("__debug__" : az))=ar:=by decide)(a:bu [d,.Name f Mh] b.env=(ar,bU d b.env)::bu [.Name f Mh] b.env:=by rfl)(A:bu [.Name f Mh] b.env=(ar,bU (.Name f Mh) b.env)::bu [] b.env:=by rfl)(B:(ek LC<|bu [.Name f Mh] b.env).any (·.1)=ar:=by rfl):b0 b (.Call (.Name "isinstance" u) [d,.Name f Mh] [] LC) (lD LA F):=by
 refine d7 (Bc C7 i j l (rA e (rA (Cn (r:=.ty LA) n o s rfl t hd) pM A) a) ∅ ∅ a B) λw h x C=>?_;let⟨k,N,p,@LJ,J,ak,D,q⟩:=C;let⟨@⟨m,T⟩,y,z⟩:=bl.mp D;let⟨@v,E,G⟩:=bl.mp z;let⟨@c,H,I⟩:=cb.mp G;cases I;exact⟨k,N,m,T,J,ak,y,λr Lw LI Lp g Me L=>⟨r,LA,v,c,rfl,Me.read g E,H,q _ Lw LI [] g ⟨rfl,rfl⟩ (by rw[bN];exact L.both)⟩⟩
@[simp] def l0:ai->Option Bool
 |.im .aR=>Z ar
 |.im (.aF c)=>Z c
 |.im (.int a)=>Z (a != 0)
 |.im (.str f)=>if f.length<=100000 then Z ((f.length:Int) != 0) else Y
 |.im (.tup A)=>Z (!A.isEmpty)
 |.lst A=>Z (!A.isEmpty)
 |.cq A=>Z (!A.isEmpty)
 |.cW G=>Z (!G.isEmpty)
 |_=>Y
def bo.emp{A:List X}{C:List ah}(e:bo h A C):(!C.isEmpty)=!A.isEmpty:=by
 cases A with
 |nil=>cases (show C=[] from e);rfl
 |cons v A=>let⟨r,@p,rfl,W⟩:=e;rfl
def FP{v:ai}{r:ah}(e:dC h v r)(d:l0 v=Z c):rY b.K r h c:=by
 unfold l0 at d;split at d
 ·cases d;cases (show r=_ from e.i);rfl
 ·cases d;cases (show r=_ from e.i);rfl
 ·cases d;cases (show r=_ from e.i);rfl
 ·split at d
  ·rename_i f;cases d;cases (show r=_ from e.i);exact⟨jF f,rfl⟩
  ·cases d
 ·cases d;let⟨u,@C,rfl,y,z⟩:=e.i;exact .inr (.inl ⟨C,b3.of y,z.emp.symm⟩)
 ·cases d;let⟨W,u,@C,rfl,y,z,W⟩:=e;exact .inl ⟨C,cB.of y,z.emp.symm⟩
 ·cases d;let⟨W,u,C,@m,rfl,y,z,W⟩:=e;exact .inl ⟨C,.inl<|.inr ⟨m,y⟩,z.emp.symm⟩
 ·cases d;let⟨W,u,@i,rfl,y,z,W⟩:=e;refine .inr (.inr ⟨i,y,?_⟩);cases z<;>rfl
 ·cases d
@[simp] def kk(F:aB bj):aB Bool:=λk=>(F k).bind λu=>(dj u.2 u.1).bind λv=>(l0 v).map λc=>(c,u.2)
def rI(e:c6 b d F)(g:∀a,l5 d b.env a=(do let r <-a;standAt d.pos;holding [r] (truthy r)):=by intro W;rfl):gA b d (kk F):=by
 refine n3 (Io e g) λw h x i=>?_;let⟨k,N,c,@LJ,J,ak,j,q⟩:=i;let⟨@⟨m,T⟩,y,z⟩:=bl.mp j;let⟨@v,l,n⟩:=bl.mp z;let⟨@t,o,p⟩:=cb.mp n;cases p;exact⟨k,N,m,T,J,ak,y,λr Lw LI Lp f Me s=>⟨_,FP (Me.read f l) o,q Lw LI f s.both⟩⟩
def vy{a:az}{E:gX}(c:eC b f)(d:b.aI f=Z (.str a E))(hd:(f==("__debug__" : az))=ar:=by decide):b0 b (.Name f LC) (aw<|.str a):=qJ (B7 (r:=.str a) c d ⟨E,rfl⟩ hd) λ_=>rfl
end
variable{LU:List Nat}{m d:a7}{F:aB (List bj)}{a:Nat}{ty:ai->Bool}{Lr:Φ}{LZ:d8}{g:af}{LA:String}{h:aq}{LC:Pos}
def aY.chg{N LI:List af}(b:g∈N)(o:fh h g)(ak:LI.Nodup)(b5:∀f∈LI,f∈N):aY h N (upd h g LZ) LI:=by
 let⟨@m,d,c,e⟩:=o;refine⟨λf D Mb a=>?_,λf a=>.inl<|b5 f a,ak,d6.of (λf C Mb=>?_)<|λf u D Mb=>?_,λf D Mb=>?_⟩
 ·rw[bB (λB=>a (by rw[B];exact b))];exact Mb
 ·rw[bB]
  ·exact Mb
  ·rintro rfl;rw[d]at Mb;exact c C (Option.some.inj Mb)
 ·rw[bB]
  ·exact Mb
  ·rintro rfl;rw[d]at Mb;exact e u D (Option.some.inj Mb)
 ·by_cases a:f=g
  ·subst a;exact⟨LZ,de⟩
  ·exact⟨D,(bB a).trans Mb⟩
theorem b9.q6(o:fh h g):kl h (upd h g LZ):=(aY.chg (N:=[g]) (LI:=[]) (.head _) o hc<|λf a=>nomatch a).tup.tup
def q8(b:aE)(id:String)(bL:ai->List ai->Option (ai×ai)):Prop:=(
 xv b id λf Q h x=>∃o A p a Lp LX,bJ h o f Lp/\cz h A Q LX/\(Lp++LX).Nodup/\bL o A=Z (p,a)/\∀r P c bp,bJ P p r c->bJ P a f bp->aY h (Lp++LX) P (c++bp)->x r P)
@[simp] def oC:ai->Bool
 |.lst _=>V
 |.dh _=>V
 |_=>ar
@[simp] def ja(ty:ai->Bool)(a:Nat)(bL:ai->List ai->Option (ai×ai))(F:aB (List bj)):aB ai:=λk=>match k[a]? with
 |some (Z b)=>if ty b=V then (F k).bind λu=>(dA u.1 u.2).bind λq=>match q.2[a]? with
   |some (Z o)=>(bL o q.1).map λp=>(p.1,q.2.set a<|Z p.2)
   |_=>Y
  else Y
 |_=>Y
def FJ{bL:ai->List ai->Option (ai×ai)}{w:aW}{x:cp}(E:∀h o f Lp,bJ h o f Lp->ty o=V->kN Lr LA f h)(e:hn (ja ty a bL F) w h x):∃f,w[a]?=Z (Z f)/\kN Lr LA f h/\fJ F w h λQ LK=>∃o A p c Lp LX,bJ LK o f Lp/\cz LK A Q LX/\(Lp++LX).Nodup/\bL o A=Z (p,c)/\∀r P j bp,bJ P p r j->bJ P c f bp->aY LK (Lp++LX) P (j++bp)->x r P:=by
 let⟨k,N,p,@LJ,J,ak,b,q⟩:=e;unfold ja at b;split at b
 ·rename_i G H;split at b
  ·rename_i I;let⟨f,bm,@bn,l,L,W,W⟩:=J.out H;refine⟨f,l,E h G f _ L I,?_⟩;let⟨@⟨LM,T⟩,y,z⟩:=bl.mp b;let⟨@⟨A,L1⟩,M,i⟩:=bl.mp z;refine⟨k,N,LM,T,J,ak,y,λQ Lw LI j R Me S=>?_⟩;let⟨LQ,@LX,U,al,L3⟩:=kF R Me M;dsimp only at i;split at i
   ·rename_i o am;let⟨@⟨Mc,c⟩,an,ap⟩:=cb.mp i;cases ap;let⟨bs,Lp,@s,t,as,u,a1⟩:=U.out am;rw[l]at t;cases t;have v:aY h N Lw ((Lp++LX)++s):=S.iB (L3.symm.trans ((dO LX a1.symm).trans (by
     rw[bb];exact cA)))
    have B:=dp.mp v.ak;refine⟨o,A,_,c,Lp,LX,as,al,B.1,an,λr P O L5 a2 gP n=>?_⟩;have bd:a_ P (L1.set a<|Z .ej) w s:=u.mono n.tup λg be m d=>n.keep g m d λe=>B.2.2 g e g be rfl;let⟨C,@Ly,D,bi⟩:=bd.back gP l;rw[ng]at D;refine q r P C O D a2 ((v.trans n u.chg).less (aH:=Ly) ?_);rw[bb];refine (c4 C cA).trans ?_;rw[<-bb];refine (dO O bi).trans ?_;rw[bb];refine cA.trans ?_;rw[bb];refine cA.trans ?_;rw[bb,bb];refine (c4 O ?_);exact cA
   ·cases i
  ·cases b
 ·cases b
section
variable{b:aE}
def Ai:∀(h:aq) (o:ai) (f:ah) (Lp:List af),bJ h o f Lp->oC o=V->kN Lr "list" f h:=by
 intro h o f Lp e d;cases o with
 |lst A=>let⟨g,@C,rfl,y,W⟩:=e;exact .inl ⟨rfl,C,cB.of y⟩
 |dh A=>let⟨g,C,@Ly,rfl,y,W⟩:=e;exact .inl ⟨rfl,C,cB.of y⟩
 |_=>cases d
def Aj{name:az}{id:String}{bL:ai->List ai->Option (ai×ai)}{Lu:List a7}{B l:Pos}(c:∀h o f Lp,bJ h o f Lp->ty o=V->kN b.K LA f h)(bA:PlainAttrs LA)(g:Slot LA name id)(i:qq (.builtin id)=pure (.type "method_descriptor"))(j:q8 b id bL)(k:bw b m (h6 a))(n:eR b (d::Lu) F)(p:t8 m name b.env (bU m b.env)=bU m b.env:=by rfl)(q:((ek l<|bu (d::Lu) b.env).all (λf=>!f.1)&&(uq l<|se [] b.env).all (λf=>f.1.isSome)
   && decide ((d::Lu).length+([]:List lB).length+(if ([]:List lB).isEmpty then 0 else 1)<30))=V:=by rfl)(r:(B.endLine==l.line)=V:=by rfl)(au:bu (d::Lu) b.env=(ar,bU d b.env)::bu Lu b.env:=by rfl)(s:(ek l<|bu Lu b.env).any (·.1)=ar:=by rfl):
  b0 b (.Call (.Attribute m name B) (d::Lu) [] l) (ja ty a bL F):=
 d7 (Bh bA g i j k n p q r au s) λw h x e=>by
  let⟨@f,t,y,z⟩:=FJ c e;exact⟨f,t,y,z⟩
@[simp] def iF:ai->List ai->Option (ai×ai):=λo A=>match o,A with
 |.lst C,[.im v]=>if C.length<100000 then Z (.im .aR,.lst<|C++[v]) else Y
 |_,_=>Y
def qn{s:Nat}(e:s<100000):s<sizeLine:=dn e ∅
def BJ:q8 b "list.append" iF:=by
 intro M j w h f Q r LP x t a c e;let⟨o,A,p,s,Lp,@LX,i,bG,ak,d,q⟩:=e;unfold iF at d;split at d
 ·split at d
  ·rename_i k;cases d;let⟨g,@LH,rfl,y,z,rfl⟩:=i;let⟨l,E,u,@v,rfl,@⟨m,rfl⟩,@⟨rfl,rfl⟩,rfl⟩:=bG;have o:fh h g:=⟨_,y,(λ_ d=>by cases d),(λ_ W d=>by cases d)⟩;refine BR M j w h _ _ r LP x t a c ⟨g,LH,l,rfl,rfl,y,qn (by rw[<-z.length];exact k),q .aR _ [] [g] ⟨rfl,rfl⟩ ?_ (aY.chg (.head _) o (fX _ _) λf n=>by simpa using n)⟩;exact⟨g,_,rfl,de,(z.snoc m).mono<|b9.q6 o,rfl⟩
  ·cases d
 ·cases d
def bo.last{A:List X}{C:List ah}{v:X}(e:bo h A C)(d:A.getLast?=Z v):∃r,C[C.length-1]?=Z r/\b9 h v r/\bo h A.dropLast C.dropLast:=by
 rw[w7]at d;let⟨@r,a,b⟩:=e.get d;refine⟨r,by rw[<-e.length];exact a,b,?_⟩;rw[yB,yB,<-e.length];exact e.take _
@[simp] def GF:ai->List ai->Option (ai×ai):=λo A=>match o,A with
 |.lst C,[.im (.int a)]=>if 0<=a/\a<C.length then (C[a.toNat]?).map λv=>(.im v,.lst<|C.eraseIdx a.toNat) else Y
 |_,_=>Y
def ra(b:aE)(B:ai->ai->ai->Option ai):Prop:=(
 tm b λm a r h x=>∃o n v c Lp LX,bJ h o m Lp/\bJ h n a []/\bJ h v r LX/\(Lp++LX).Nodup/\B o n v=Z c/\∀P d,bJ P c m d->aY h (Lp++LX) P d->x P)
@[simp] def jo(o n v:ai):Option ai:=match o,n,v with
 |.lst C,.im<|.int a,.im v=>(hu C.length a).map λi=>.lst (C.set i v)
 |_,_,_=>Y
theorem bo.set{h:aq}{v:X}{r:ah}(I:b9 h v r):∀{A:List X}{C:List ah} (s:Nat),bo h A C->bo h (A.set s v) (C.set s r)
 |[],C,s,e=>by cases (show C=[] from e);exact rfl
 |d::A,C,0,e=>by let⟨D,@p,rfl,y,z⟩:=e;exact⟨r,p,rfl,I,z⟩
 |d::A,C,s+1,e=>by let⟨D,@p,rfl,y,z⟩:=e;exact⟨D,_,rfl,y,bo.set I s z⟩
def BB:ra b jo:=by
 intro M j w h m a r c e D x t k l p s;let⟨o,n,v,F,Lp,@LX,u,A,bG,ak,d,q⟩:=s;unfold jo at d;split at d
 ·let⟨@i,B,C⟩:=cb.mp d;cases C;let⟨g,@LH,rfl,y,z,rfl⟩:=u;let@⟨hd,rfl⟩:=bG;have o:fh h g:=⟨_,y,(λ_ d=>by cases d),(λ_ W d=>by cases d)⟩;refine CC M j w h _ _ _ c e D x t k l p ⟨g,LH,_,i,rfl,A.1,y,by rw[<-z.length];exact B,q _ [g] ?_ (aY.chg (.head _) o (fX _ _) λf E=>by simpa using E)⟩;exact⟨g,_,rfl,de,(bo.set hd i z).mono<|b9.q6 o,rfl⟩
 ·cases d
@[simp] def jg(a:Nat)(b:aB ai)(B:ai->ai->ai->Option ai):ee:=λv k=>match k[a]? with
 |some (Z _)=>(b k).bind λu=>if u.1.c2=V then match u.2[a]? with
   |some (Z o)=>(B o u.1 v).map λc=>u.2.set a (Z c)
   |_=>Y
  else Y
 |_=>Y
def pV{n:a7}{A:aB ai}{B:ai->ai->ai->Option ai}(O:bw b m (h6 a))(Q:b0 b n A)(R:ra b B)(c:∀r,fO (.Subscript m n LC) b.env r=(do
   let j <-holding [r] (bU m b.env)
   let s <-holding [r,j] (bU n b.env)
   standAt LC
   holding [r,j,s] (rn j s r)
   release [r,j,s] []):=by intro W;rfl):f7 b LU (.Subscript m n LC) (jg a A B):=by
 refine sX (Kt O Q R c) λr w h x S=>?_;let⟨k,N,v,Lp,@LJ,J,C,ak,l,q⟩:=S;unfold jg at l;split at l
 ·rename_i ce al;let⟨f,ch,@ci,t,cl,W,W⟩:=J.out al;let⟨@⟨i,T⟩,y,z⟩:=bl.mp l;split at z
  ·rename_i am;refine⟨f,t,k,N,i,T,J,(dp.mp ak).1,y,λco Lw LI cr an D p=>?_⟩;obtain rfl:=D.c2 am;rw[bN]at p;have ap:=dp.mp ak;dsimp only at z;split at z
   ·rename_i o as;let⟨@a1,a2,bd⟩:=cb.mp z;cases bd;let⟨cs,E,@F,G,be,H,bi⟩:=an.out as;rw[t]at G;cases G;have bm:bJ Lw v r Lp:=C.mono p.tup λg c m d=>p.keep g m d λe=>ap.2.2 g e g c rfl;have I:aY h (N++Lp) Lw ((E++Lp)++F):=by
     have bn:aY h (N++Lp) h (N++Lp):=aY.perm ak (List.Perm.refl _);have:=aY.trans (LI:=N) (Lp:=Lp) bn p C.chg;refine this.iB ((dO Lp bi.symm).trans ?_);rw[bb];exact cA
    have L:=dp.mp I.ak;refine⟨o,i,v,a1,E,Lp,be,D,bm,L.1,a2,λP db bs u=>?_⟩;have bv:a_ P (T.set a<|Z .ej) w F:=H.mono u.tup λg c m d=>u.keep g m d λe=>L.2.2 g e g c rfl;let⟨ca,@Ly,M,cd⟩:=bv.back bs t;rw[ng]at M;exact q w P ca cH.refl M ((I.trans u H.chg).less<|cd.trans cA)
   ·cases z
  ·cases z
 ·cases l
@[simp] def tP(a:Nat)(R:Int->Int->Int)(F:aB ai):bI:=λk=>match k[a]? with
 |some (Z<|.im<|.int f)=>(F k).bind λu=>match u.1 with
   |.im (.int l)=>if a<u.2.length then Z (.bh,u.2.set a<|Z<|.im<|.int<|R f l) else Y
   |_=>Y
 |_=>Y
def Gu{f:az}{F:aB ai}{L4:mO}{R:Int->Int->Int}{MC:Pos}(g:b.N.Nodup)(Lv:b.N[a]?=Z f)(i:fs b.env.scope f)(j:b0 b d F)(m:tJ b L4 (yU R))(n:a∉LU)(o:b.fn f=V\/b.env.scope.names.lookup f=Z .local:=by first|exact .inl rfl|exact .inr rfl|assumption):gF b LU (.AugAssign (.Name f MC) L4 d LC) (tP a R F):=by
 refine iY (EJ g Lv i j m o) λLs w h s=>?_;let⟨k,N,aN,@LJ,J,ak,e,q⟩:=s;unfold tP at e;split at e
 ·rename_i l t;let⟨@r,y,z⟩:=J.c2 t rfl;cases (show r=.int l from z.1);let⟨@⟨p,T⟩,u,c⟩:=bl.mp e;dsimp only at c;split at c
  ·rename_i B;split at c
   ·rename_i x;cases c;refine⟨_,y,k,N,.im<|.int B,T,J,ak,u,λD Lw LI Lp A C E=>⟨l,B,rfl,C.1,?_⟩⟩;let⟨LQ,@bp,H,L3⟩:=A.put (a:=a) (v:=.im (.int<|R l B)) (r:=.int (R l B)) ⟨rfl,rfl⟩ x;rw[bN]at L3;exact q _ Lw LQ (cH.set n) H (E.both.less L3)
   ·cases c
  ·cases c
 ·cases e
end
end L2
namespace L2
open Spec PyProof.Rows PySem.W
variable{LN:List Int}{u:Array Nat}{L0:Type}
def JO(L:List L0)(v:L0):(range L.length).map (λa=>L.getD a v)=L:=by
 apply y4
 ·simp
 ·intro a y z;simp[List.getD,z]
def rM{L:List L0}{v:L0}(e:cj L.length u):(u.toList.map λa=>L.getD a v).Perm L:=by
 have:=yI (λa=>L.getD a v) e;rw[JO]at this;exact this
theorem qK{L0 Mx:Type}{N:L0->Mx->Prop}:∀{b:List L0}{d:List Mx},b.length=d.length->(∀(a:Nat) g c,b[a]?=Z g->d[a]?=Z c->N g c)->d2 N b d
 |[],[],_,_=>.nil
 |g::L,c::H,e,R=>.cons (R 0 g c rfl rfl) (qK ⇑e λa f l y z=>R (a+1) f l ⇑y ⇑z)
 |[],_::_,e,_=>by simp at e
 |_::_,[],e,_=>by simp at e
section
variable{Lx:bf}{I:a5}{O:a9}{Ls:aa->ag->Prop}{j:ag}{Q:List aa}
def xB{L5:af}{MI:Nat}{LF:PySem.Fin->ag->Prop}(G:Nat->Int)(U:fi)(h:j.heap.get? L5=Z (cL "list" Q.toArray MI))(E:2<=Q.length->∀f:a0,(∀c m,c≠L5->j.heap.get? c=Z m->f.get? c=Z m)->∀x:fi->ag->Prop,x U {j with heap:=f}->wpAny (aP Lx I) O (ui Q.toArray) x Ls {j with heap:=f})(F:∀f:a0,(∀c m,c≠L5->j.heap.get? c=Z m->f.get? c=Z m)->ew Q.length G (dQ Lx I O U<|Q.toArray.zip Q.toArray) {j with heap:=f})(H:Q.length<1001\/∀i,1<=i->i<Q.length->G (i-1)<=G i)(L:Q.length<=1000)(e:∀(u:Array Nat) (Lq:a0),cj Q.length u->ho G u Q.length->(∀c m,c≠L5->j.heap.get? c=Z m->Lq.get? c=Z m)->(∃d,Lq.get? L5=Z (cL "list" (u.toList.map λa=>Q.getD a aa.none).toArray d))->
   LF (.done<|.ret .none) {j with heap:=Lq}):wpAny (aP Lx I) O (bO.«list.sort» ⟨[.ref L5],[]⟩) LF Ls j:=by
 have y:Q.length<=sizeLine:=dv L ∅;rw[list_sort_plain];have al:L5<j.heap.objs.size:=bQ h;refine aD (tK h rfl (aD (mM h rfl ?_ (hsz:=by rw[cC];exact y) (hsz2:=by show 0<=_;exact gY _))));have q:=kO h (λ_=>#[]);generalize am:(if (#[]:Array aa).size==Q.toArray.size then MI else MI+1)=A at q;refine aD (qY q rfl (aD (tu (aD<|oS<|iq ?_) ⇑y)));have k:∀c m,c≠L5->j.heap.get? c=Z m->(((j.heap.update L5<|aQ.mapSeq λ_=>#[]).push<|cL "tuple" Q.toArray.toList.toArray 0).push<|cL "list" ([]:List aa).toArray 0).get? c=Z m:=λc m l d=>
  b4 _ (b4 _<|(gm _ _<|d3 l).trans d);have b:(((j.heap.update L5<|aQ.mapSeq λ_=>#[]).push<|cL "tuple" Q.toArray.toList.toArray 0).push<|cL "list" ([]:List aa).toArray 0).get? L5=Z (cL "list" #[] A):=
  b4 _ (b4 _ q);show wpAny (aP Lx I) O _ LF Ls {j with heap:=((j.heap.update L5<|aQ.mapSeq λ_=>#[]).push<|cL "tuple" Q.toArray.toList.toArray 0).push (cL "list" ([]:List aa).toArray 0)};generalize ((j.heap.update L5<|aQ.mapSeq λ_=>#[]).push<|cL "tuple" Q.toArray.toList.toArray 0).push (cL "list" ([]:List aa).toArray 0)=f at k b ⊢;have B:∀(J:ba) (u:Array Nat),cj Q.length u->ho G u Q.length->arrOf J=u.map (aV<|Q.toArray.zip Q.toArray)->fx J=Y->
   wpAny (aP Lx I) O (do
    let P:=(<-seqEpoch L5) != A
    bO.List.listUpdate (.ref L5) λ_=>(arrOf J).map (·.2)
    if let Z d:=fx J then rule "list.sort.comparison-raised";throw d
    if P then rule "list.sort.modified";raiseError "ValueError" "list modified during sort"
    ret .none) LF Ls {j with heap:=f}:=λJ u n r s t=>by
  have out:=kat_snds (ks:=Q) (vs:=Q) rfl s;rw[out,t];refine aD (qY (s:={j with heap:=f}) b rfl (aD (mM (s:={j with heap:=f}) b rfl ?_ (hsz:=gY _) (hsz2:=by
   show (List.toArray<|u.toList.map λa=>Q.getD a aa.none).size<=_;rw[cC,bF,eD,n.size];lia))))
  simp only[bne_self_eq_false,hM,gD];refine bk (e u _ n r (λc m l d=>(gm _ _<|d3 l).trans<|k c m l d) ⟨_,kO b λ_=>_⟩)
 dsimp only;by_cases z:Q.toArray.size<2
 ·rw[aK z,aK z];refine aD (bk ?_);rw[yG];apply aD;apply bk;have w:Q.length<2:=by simpa using z
  refine B (ba.mk' general' (Q.toArray.zip Q.toArray) #[] 7 Y) (range Q.length).toArray (List.Perm.refl _) (λa i an ap=>?_) ?_ rfl
  ·have:a=i:=⋯
   subst this;exact jE _
  ·have:=s7 (Q.toArray.zip Q.toArray);rw[show (Q.toArray.zip Q.toArray).size=Q.length by simp]at this;exact this.symm
 ·rw[aM z,aM z];have w:2<=Q.length:=by simpa using z
  refine aD (E w f k _ ?_)
  ·have R:=F f k;have C:=s7 (Q.toArray.zip Q.toArray);rw[show (Q.toArray.zip Q.toArray).size=Q.length by simp]at C;have run:=AR (Ls:=Ls) (x:=λ_ J S=>S={j with heap:=f}/\∃u,cj Q.length u/\ho G u Q.length/\arrOf J=u.map (aV<|Q.toArray.zip Q.toArray)/\fx J=Y) R
    w H λT as g c o v=>⟨rfl,T,g,c,o,v⟩;unfold nZ at run;rw[C]at run;refine aD (fq run (λp S LG=>?_) λ_ W d=>d);let⟨D,J⟩:=p;let@⟨rfl,⟨@u,n,r,s,t⟩⟩:=LG;exact B J u n r s t
end
section
variable{b:aE}{M:List (af×aQ)}{w:L2.aW}{h:aq}{j:ag}
def A8(bm:b.calm=V){g:af}{LH:List ah}{Lz:List aa}{s:Nat}{LA:String}{m:aQ}{x:cp}(G:Nat->Int)(U:fi)(t:aA b M w h j)(F:b1 LH Lz)(S:LA = "list" \/ LA = "tuple")(d:j.heap.get? g=Z m)(aw:m.cls=.type LA)(T:m.data=.seq Lz.toArray s)(bn:LH.length<=1000)(al:2<=Lz.length->∀(e:a0) (Md:Nat),(∀c m,j.heap.get? c=Z m->e.get? c=Z m)->∀(O:a9) (Ls:aa->ag->Prop) (x:fi->ag->Prop),x U {j with heap:=e,toks:=Md}->wpAny (aP b.prog b.w) O (ui Lz.toArray) x Ls {j with heap:=e,toks:=Md})(am:∀(e:a0) (Md:Nat),(∀c m,j.heap.get? c=Z m->e.get? c=Z m)->ew Lz.length G (dQ b.prog b.w b.A.in1.in1 U<|Lz.toArray.zip Lz.toArray) {j with heap:=e,toks:=Md})(an:Lz.length<1001\/∀i,1<=i->i<Lz.length->G (i-1)<=G i)(q:∀(u:Array Nat) L,cj Lz.length u->ho G u Lz.length->h L=Y->x (.ref L) (upd h L<|.lst<|u.toList.map λa=>LH.getD a .aR)):
  wpAny (aP b.prog b.w) b.A (call (.builtin "sorted") [.ref g]) (dD b M w x) b.bX j:=by
 have bs:LH.length=Lz.length:=F.length;have J:Lz.length<=sizeLine:=dv ⋯ (show 1000<=sizeLine by decide);refine zt tc tF sz (zv _) ?B
 case B=>
  unfold bO.«sorted»;refine aD (m:=t_ "sorted" 1 1 _) (bk (aD (AV g S d aw T (λLq p=>?_) (by rw[cC];exact J))));show wpAny _ _ (nB Lz >>= _) _ _ _;refine aD (oS ?_ J);have N:(Lq.push<|cL "list" Lz.toArray 0).get? Lq.objs.size=Z (cL "list" Lz.toArray 0):=df _ rfl;have bM:∀c m,j.heap.get? c=Z m->(Lq.push<|cL "list" Lz.toArray 0).get? c=Z m:=λc m d=>b4 _ (p c m d);have P:aA b M w h {j with heap:=Lq}:=t.kept (LY:=j.toks) p;have Q:∀c m,j.heap.get? c=Z m->c≠Lq.objs.size:=λc m d=>c8 (bQ<|p c m d);refine aD (iq<|iS tj ⟨_,N,rfl⟩ uv ?l<|yC _)
  case l=>
   refine xB (j:={j with heap:=Lq.push (cL "list" Lz.toArray 0)}) G U N (λz e v x ap=>al z e j.toks (λc m k=>v c m (Q c m k)<|bM c m k) _ _ x ap) (λe v=>am e j.toks λc m k=>v c m (Q c m k)<|bM c m k) an ⋯ λu z C as L_ ⟨a1,a2⟩=>⟨_,rfl,bk ⟨_,rfl,?_⟩⟩;have bd:h Lq.objs.size=Y:=P.aT.fresh (bq _);have be:∀c m,Lq.get? c=Z m->c≠Lq.objs.size:=λc m d=>c8 (bQ d);refine⟨.ref Lq.objs.size,upd h Lq.objs.size<|.lst<|u.toList.map λa=>LH.getD a .aR,?_,rfl,q u _ C as bd⟩;refine P.laid (LY:=j.toks) (λc D d=>L_ c D (be c D d)<|b4 _ d) (bq _) ⟨?_,_,a1,?_,a2⟩
   ·rw[bF,eD,C.size];lia
   ·refine qK ↥0 λa r D y z=>?_;rw[eJ]at y z;cases E:u.toList[a]? with
    |none=>rw[E]at y;cases y
    |some n=>
     rw[E]at y z;cases y;cases z;have R:n<Lz.length:=gq.mp (C.mem_iff.mp<|nt E);let⟨@D,o,bi⟩:=F.get (a:=n) (f:=LH[n]'⋯) (by simp[show n<LH.length by lia]);rw[dR R]at o;have o:=Option.some.inj o;simp only[List.getD,dR R,dR (show n<LH.length by lia),qF];rw[o];exact bi
end
def mn(LN:List Int)(a:Nat):Int:=(LN.getD a 0)
def Kx(ak:LN.Nodup):∀a i,a<LN.length->i<LN.length->mn LN a=mn LN i->a=i:=λa i Lv b d=>by
 unfold mn at d;rw[b6,b6,dR Lv,dR b]at d;have c:LN[a]=LN[i]:=d;rcases yb a i with e|e|e
 ·exact absurd c ((mh.mp ak) a i Lv b e)
 ·exact e
 ·exact absurd c.symm ((mh.mp ak) i a b Lv e)
def FO(b:cj LN.length u)(f:ho (mn LN) u LN.length)(ak:LN.Nodup):(u.toList.map λa=>LN.getD a 0).Pairwise (· < ·):=by
 rw[mh];intro a i Lv c g;have au:=b.size;have j:a<LN.length:=by simpa [au] using Lv
 have d:i<LN.length:=by simpa [au] using c
 have ne:=b.ne (Kx ak) g d;have le:=f a i ⋯ d;have F:∀n (e:n<(u.toList.map λa=>LN.getD a 0).length),(u.toList.map λa=>LN.getD a 0)[n]=aX (mn LN) u n:=λn e=>by
  have h:n<u.size:=by simpa using e
  rw[xt,zK];show _=LN.getD (u.getD n 0) 0;simp[Array.getD,h]
 rw[F a Lv,F i c];lia
section
variable{b:aE}
theorem rg{h:aq}:∀{LN:List Int}{Lz:List aa},b1 (LN.map ah.int) Lz->∀(a:Nat),a<LN.length->∃E,Lz[a]?=Z (.int (LN.getD a 0) E)
 |s::p,_,.cons g c,0,e=>by let⟨@E,rfl⟩:=g;exact⟨E,rfl⟩
 |s::p,_,.cons g c,a+1,e=>by
  let⟨@E,d⟩:=rg (h:=h) c a ⇑e;exact⟨E,by simpa using d⟩
def JI(v:b.calm=V):dX b (.builtin "sorted") (λC h x=>∃(g:af) (LN:List Int),C=[.ref g]/\h g=Z (.lst<|LN.map ah.int)/\LN.Nodup/\LN.length<=1000/\
  ∀L (k:List Int),h L=Y->k.Perm LN->k.Pairwise (· < ·)->x (.ref L) (upd h L<|.lst<|k.map ah.int)):=by
 intro M j w h C LP x t p e;let⟨g,@LN,rfl,A,ak,F,q⟩:=e;let⟨@D,rfl,G⟩:=ip p;cases G;let@⟨B,⟨Lz,@s,c,d⟩⟩:=t.aT g _ A;have l:Lz.length=LN.length:=by rw[<-c.length,bF]
 refine A8 v (mn LN) oneType' t c (.inl rfl) d rfl rfl (by rw[bF];exact F) (λz H Md n O Ls x I=>?_) (λH Md n=>?_) (.inl ⋯) λu L f m aN=>?_
 ·refine kas_kind (T:=aa.type "int") z (λr J=>?_) ∅ ∅ I;let⟨@a,Lv⟩:=List.getElem?_of_mem J;let⟨@E,o⟩:=rg (h:=h) c a (by rw[<-l];exact (eT.mp Lv).1);rw[Lv]at o;cases o;exact sL rfl
 ·intro a i aH Lv R q;let⟨@E,y⟩:=rg (h:=h) c a ⋯;let⟨@D,z⟩:=rg (h:=h) c i ⋯;unfold dQ;rw[rr rfl,rr rfl,b6,b6,y,z];show wpAny _ _ (keyLt' oneType' (.int _ E)<|.int _ D) _ _ _;rw[keyLt'_oneType];exact oneLt_int q
 ·rw[l]at f m;have N:(u.toList.map λa=>(LN.map ah.int).getD a .aR)=(u.toList.map λa=>LN.getD a 0).map ah.int:=by
   rw[hZ];refine nN λn P=>?_;have Q:n<LN.length:=gq.mp (f.mem_iff.mp P);show (LN.map ah.int).getD n .aR=ah.int (LN.getD n 0);simp[List.getD,Q]
  rw[N];exact q L _ aN (rM f) (FO f m ak)
end
end L2
namespace L2
open Spec PyProof.Rows
section
variable{b:aE}
def gc:List X->List X->List X
 |f::C,l::LH=>.tup [f,l]::gc C LH
 |_,_=>[]
theorem x6:∀(C LH:List X),(gc C LH).length=min C.length LH.length
 |[],LH=>by simp[gc]
 |f::C,[]=>by simp[gc]
 |f::C,l::LH=>by simp[gc,x6 C LH]
theorem wL:∀(C LH:List X) (a:Nat) (v:X),(gc C LH)[a]?=Z v->∃f l,C[a]?=Z f/\LH[a]?=Z l/\v=.tup [f,l]
 |[],LH,a,v,e=>by simp[gc]at e
 |f::C,[],a,v,e=>by simp[gc]at e
 |f::C,l::LH,0,v,e=>by simp[gc]at e;exact⟨f,l,rfl,rfl,e.symm⟩
 |f::C,l::LH,a+1,v,e=>by
  let⟨g,c,y,z,b⟩:=wL C LH a v (by simpa [gc] using e);exact⟨g,c,by simpa using y,by simpa using z,b⟩
@[simp] def sj(F:aB (List bj)):iy:=λk=>(F k).bind λu=>(gN u.2 u.1).bind λA=>match A with
 |[.im (.tup f),.im<|.tup l]=>Z ((gc f l,Y),u.2)
 |_=>Y
theorem EK{Lr:Φ}{h:aq}{g c:af}{C LH:List ah}{A Lu:List X}(e:h g=Z (.tup C))(hd:bo h A C)(Lq:h c=Z (.tup LH))(b:bo h Lu LH):j9 (pC Lr g c) h [] (gc A Lu) where
 go:=λP E n a v d=>by
  let⟨f,l,q,s,rfl⟩:=wL A Lu a v d;let⟨r,i,t⟩:=hd.get q;let⟨D,L9,L_⟩:=b.get s;have k:=b3.of (Lr:=Lr) (E.tup g _ e);have m:=b3.of (Lr:=Lr) (E.tup c _ Lq);refine⟨⟨C,LH,r,D,k,m,i,L9⟩,λB z ⟨LA,F,G,R,u,w,x,y⟩=>?_⟩;subst u w;have o:=x C k;have p:=y LH m;rw[i]at o;rw[L9]at p;cases o;cases p;have j:bz P (upd P LA<|.tup [r,D]):=(bz.refl P).upd R;exact⟨j,LA,[r,D],rfl,de,⟨r,[D],rfl,(t.mono E.tup).mono j.tupS.tup,D,[],rfl,(L_.mono E.tup).mono j.tupS.tup,rfl⟩⟩
 stop:=λP E n=>⟨C,LH,b3.of<|E.tup g _ e,b3.of<|E.tup c _ Lq,by rw[x6,<-hd.length,<-b.length];lia⟩
def Kj{g c:a7}{F:aB (List bj)}{u LC:Pos}{Lu:List a7}{MK:Nat}{LO:Pos}(j:eC b "zip")(l:b.aI "zip" = Y)(a:eR b [g,c] F)(au:bu [g,c] b.env=[(ar,bU g b.env),(ar,bU c b.env)]:=by rfl)(m:bu [c] b.env=[(ar,bU c b.env)]:=by rfl):
  kh b (.Tuple Lu MK LO) (.Call (.Name "zip" u) [g,c] [] LC) (sj F):=by
 refine uS (IL j l a au m) λw h B ⟨k,N,p,LJ,J,ak,n,q⟩=>?_;let⟨⟨LM,T⟩,y,z⟩:=bl.mp n;let⟨A,o,e⟩:=bl.mp z;refine⟨k,N,LM,T,J,ak,y,λQ Lw LI E f Me s=>?_⟩;have t:=Me.read f o;split at e
 ·cases e;let⟨r,D,rfl,d,v⟩:=sa t;let⟨g,C,rfl,L9,L_⟩:=d;let⟨c,LH,rfl,i,x⟩:=v;exact⟨g,c,rfl,⟨C,b3.of L9⟩,⟨LH,b3.of i⟩,q _ Lw LI [] f (EK L9 L_ i x) trivial (λg a=>nomatch a) (by rw[bN];exact s.both)⟩
 ·cases e
@[simp] def Lo:hB:=λA=>match A with
 |[.im (.int a),.im<|.int i,.im<|.int n]=>Z (.im<|.int<|min (min a i) n)
 |_=>Y
def iW(lt:X->X->Bool)(f:X):List X->List X
 |[]=>[f]
 |l::p=>if lt f l=V then f::l::p else l::iW lt f p
def fE(lt:X->X->Bool):List X->List X
 |[]=>[]
 |f::p=>iW lt f (fE lt p)
def qi:X->X->Bool
 |.int a,.int i=>decide (a<i)
 |_,_=>ar
def nQ:List X->Option (List Int)
 |[]=>Z []
 |.int a::p=>(nQ p).map λj=>a::j
 |_::_=>Y
@[simp] def tR:hB:=λA=>match A with
 |[.lst f]=>(nQ f).bind λLN=>if LN.Nodup/\LN.length<=1000 then Z (.lst<|fE qi f) else Y
 |_=>Y
def jO(f:Int):List Int->List Int
 |[]=>[f]
 |l::p=>if f<l then f::l::p else l::jO f p
def mz:List Int->List Int
 |[]=>[]
 |f::p=>jO f (mz p)
theorem wZ(f:Int):∀L:List Int,iW qi (.int f) (L.map .int)=(jO f L).map .int
 |[]=>rfl
 |l::p=>by
  rw[c3,iW,jO,qi];by_cases e:f<l
  ·rw[aK ⇑e,aK e];rfl
  ·rw[aM ⇑e,aM e,wZ f p];rfl
theorem wW:∀L:List Int,fE qi (L.map .int)=(mz L).map .int
 |[]=>rfl
 |f::p=>by rw[c3,fE,wW p,wZ];rfl
theorem t9(f:Int):∀L:List Int,(jO f L).Perm (f::L)
 |[]=>List.Perm.refl _
 |l::p=>by
  rw[jO];split
  ·exact List.Perm.refl _
  ·exact ((t9 f p).cons l).trans (List.Perm.swap f l p)
theorem tq:∀L:List Int,(mz L).Perm L
 |[]=>List.Perm.refl _
 |f::p=>(t9 f _).trans ((tq p).cons f)
theorem zX(f:Int):∀L:List Int,L.Pairwise (·<=·)->(jO f L).Pairwise (·<=·)
 |[],_=>fX _ _
 |l::p,e=>by
  let⟨y,z⟩:=fW.mp e;rw[jO];split
  ·rename_i b;refine fW.mpr ⟨λB a=>?_,e⟩;rcases cu.mp a with rfl|a
   ·lia
   ·have:=y B a;lia
  ·rename_i b;refine fW.mpr ⟨λB a=>?_,zX f p z⟩;rcases cu.mp ((t9 f p).mem_iff.mp a) with rfl|a
   ·lia
   ·exact y B a
theorem zJ:∀L:List Int,(mz L).Pairwise (·<=·)
 |[]=>List.Pairwise.nil
 |f::p=>zX f _ (zJ p)
def Ji{L:List Int}(e:L.Nodup):(mz L).Pairwise (· < ·):=by
 have y:=zJ L;have z:(mz L).Nodup:=(tq L).nodup_iff.mpr e;exact EW (λg c f l=>⋯) y z
theorem zE:∀{L H:List Int},L.Perm H->L.Pairwise (· < ·)->H.Pairwise (· < ·)->L=H
 |[],H,e,_,_=>e.nil_eq
 |g::L,[],e,_,_=>absurd e.length_eq ↥0
 |g::L,c::H,e,f,h=>by
  have a:=fW.mp f;have b:=fW.mp h;have d:g=c:=by
   rcases cu.mp (e.mem_iff.mp<|.head _) with B|B
   ·exact B
   ·rcases cu.mp (e.mem_iff.mpr<|.head _) with l|l
    ·exact l.symm
    ·have y:=a.1 c l;have z:=b.1 g B;omega
  subst d;rw[zE e.cons_inv a.2 b.2]
theorem yR:∀{f:List X}{LN:List Int},nQ f=Z LN->f=LN.map .int
 |[],LN,e=>by cases e;rfl
 |.int a::p,LN,e=>by
  rw[nQ]at e;let⟨j,y,rfl⟩:=cb.mp e;rw[yR y];rfl
 |.aR::_,_,e=>by cases e
 |.aF _::_,_,e=>by cases e
 |.str _::_,_,e=>by cases e
 |.tup _::_,_,e=>by cases e
 |.fn _::_,_,e=>by cases e
 |.aN _::_,_,e=>by cases e
 |.fd::_,_,e=>by cases e
theorem A1{h:aq}:∀{LN:List Int}{Q:List ah},bo h (LN.map .int) Q->Q=LN.map ah.int
 |[],Q,e=>e
 |s::p,Q,e=>by
  let⟨r,E,rfl,y,z⟩:=e;cases (show r=.int s from y);rw[A1 z];rfl
theorem z5{h:aq}:∀LN:List Int,bo h (LN.map .int) (LN.map ah.int)
 |[]=>rfl
 |s::p=>⟨.int s,_,rfl,rfl,z5 p⟩
def E3(e:b.calm=V)(k:b.A.units+20<bP):gv b (.builtin "sorted") tR:=by
 refine (JI e).imp λC h x ⟨A,v,g,d,q⟩=>?_;unfold tR at d;split at d
 ·rename_i f;let⟨LN,i,a⟩:=bl.mp d;split at a
  ·rename_i c;cases a;let⟨r,rfl,W,u,C,rfl,y,z,W⟩:=fv g;cases yR i;cases A1 z;refine⟨u,LN,rfl,y,c.1,c.2,λL m aN L3 j=>?_⟩;rw[wW]at q;rw[zE (L3.trans (tq LN).symm) j (Ji c.1)];exact b2.l q aN (z5 _)
  ·cases a
 ·cases d
def uz(a:b.A.units+20<bP):ra b jo:=BB
end
end L2
namespace L2
variable{g e F c:bI}{d:aB ai}{own H s:Nat}{A:List ai}{LU:List Nat}{m:Option (Nat×ai)}{C:List X}{v:ai}{T k:aU}{o:aB Bool}{LS:ee}{L0:Type}{i a:Int}
@[simp] theorem K9(v:X)(k:aU):aw v k=Z (.im v,k):=rfl
@[simp] theorem KS(k:aU):aJ k=Z ([],k):=rfl
@[simp] theorem Ld(k:aU):e5 k=Z (.bh,k):=rfl
@[simp] theorem K5(k:aU):Ea k=Z (Y,k):=rfl
@[simp] theorem K6(k:aU):hY k=Z (V,k):=rfl
@[simp] theorem Lf(v:X):(ai.im v).c2=V:=rfl
@[simp] theorem KW(v:List X):(ai.cq v).c2=V:=rfl
@[simp] theorem KV(v:List X):(ai.lst v).c2=ar:=rfl
@[simp] theorem Ln(v:List (List X×X)):(ai.br v).c2=ar:=rfl
@[simp] theorem K1(v:List (dw×X)):(ai.cW v).c2=ar:=rfl
@[simp] theorem K0(k:aU)(v:ai):dj k (.c_ v)=Z v:=rfl
@[simp] theorem Ll(k:aU)(a:Nat):dj k (.bx a)=(k[a]?).getD Y:=rfl
@[simp] theorem KY(k:aU):gN k []=Z []:=rfl
@[simp] theorem La(k:aU)(m:bj)(LM:List bj):gN k (m::LM)=(dj k m).bind λv=>(gN k LM).map λA=>v::A:=rfl
@[simp] theorem K3(k:aU):dA [] k=Z ([],k):=rfl
@[simp] theorem Lm(v:ai)(LM:List bj)(k:aU):dA (.c_ v::LM) k=(dA LM k).map λu=>(v::u.1,u.2):=rfl
@[simp] theorem KX(a:Nat)(LM:List bj)(k:aU):dA (.bx a::LM) k=(gs a k).bind λu=>(dA LM u.2).map λq=>(u.1::q.1,q.2):=rfl
@[simp] theorem Lg:fD []=Z []:=rfl
@[simp] theorem Lb(v:X)(A:List ai):fD (.im v::A)=(fD A).map λp=>v::p:=rfl
@[simp] theorem Lh(c:Bool):lN (.im<|.aF c)=Z c:=rfl
def mK(y : -(2^64)<i)(z:i<2^64):fH a i=V:=by
 have:bO.Int.intBits i<=64:=zx y z;have Lq:¬ (bO.Int.intBits i>qy):=Bd.mpr this;unfold fH;rw[es Lq];simp
def uA(y : -(2^64)<a)(z:a<2^64):fH a i=V:=by
 have:bO.Int.intBits a<=64:=zx y z;have Lq:¬ (bO.Int.intBits a>qy):=Bd.mpr this;unfold fH;rw[es Lq];simp
def xR{C:List L0}{v:L0}(b:0<=a)(e:C[a.toNat]?=Z v):dM C a=Z v:=by
 unfold dM hu;have Lv:a.toNat<C.length:=(eT.mp e).1;rw[aK b,aK ⋯];exact e
def IE{C:List L0}{v:L0}(e:C.getLast?=Z v):dM C (-1)=Z v:=by
 rw[w7]at e;have Lv:C.length-1<C.length:=(eT.mp e).1;unfold dM hu;rw[aM ∅,aK ⋯];show C[(-1+(C.length:Int)).toNat]?=Z v;rw[show (-1+(C.length:Int)).toNat=C.length-1 by lia];exact e
def Cu(t:Nat->aU->Prop)(Lp:ai->aU->Prop):∀{C:List X}{k:aU},t 0 k->
  (∀(a:Nat) (f:X) (k:aU),C[a]?=Z f->t a k->∃T aN L1,LS (.im f) k=Z T/\c T=Z (aN,L1)/\(((aN=.bh\/aN=.bW)/\t (a+1) L1)\/∃v,aN=.cR v/\Lp v L1))->
  (∃LJ,eX LS c C k=Z (.bh,LJ)/\t C.length LJ)\/∃v LJ,eX LS c C k=Z (.cR v,LJ)/\Lp v LJ:=by
 intro C;induction C generalizing t with
 |nil=>intro k b W;exact .inl ⟨k,rfl,b⟩
 |cons f p g=>
  intro k b e;let⟨T,aN,@L1,y,z,h⟩:=e 0 f k rfl b;rcases h with ⟨i,d5⟩|⟨v,rfl,j⟩
  ·have:=g (λa=>t<|a+1) (k:=L1) d5 λa l LJ m n=>e (a+1) l LJ ⇑m n;have d:eX LS c (f::p) k=eX LS c p L1:=by
    rw[eX];dsimp only;rw[y];show (c T).bind _=_;rw[z];rcases i with rfl|rfl<;>rfl
   rw[d];exact this
  ·refine .inr ⟨v,L1,?_,j⟩;rw[eX];dsimp only;rw[y];show (c T).bind _=_;rw[z];rfl
def qI(t:Nat->aU->Prop){C:List X}{k:aU}(b:t 0 k)(e:∀(a:Nat) (f:X) (k:aU),C[a]?=Z f->t a k->∃T aN L1,LS (.im f) k=Z T/\c T=Z (aN,L1)/\(aN=.bh\/aN=.bW)/\t (a+1) L1):
  ∃LJ,eX LS c C k=Z (.bh,LJ)/\t C.length LJ:=by
 rcases Cu t (λ_ W=>False) b (λa f k d d5=>by
  let⟨T,aN,@L1,y,z,g,h⟩:=e a f k d d5;exact⟨T,aN,L1,y,z,.inl ⟨g,h⟩⟩) with e|⟨_,_,_,e⟩
 ·exact e
 ·exact e.elim
def Ex(t:Nat->aU->Prop)(b:aU->Prop)(step:∀H k,t H k->∃E T,o k=Z (E,T)/\(E=V->∃aN L1,c T=Z (aN,L1)/\(aN=.bh\/aN=.bW)/\∃a,a<H/\t a L1)/\(E=ar->b T)):
  ∀(s H:Nat) (k:aU),t H k->H<s->∃LJ,jm o c s k=Z (.bh,LJ)/\b LJ:=by
 intro s;induction s with
 |zero=>intro H k W e;lia
 |succ s d=>
  intro H k d5 l;let⟨E,@T,y,z,f⟩:=step H k d5;rw[jm];dsimp only;rw[y];cases E with
  |false=>exact⟨T,rfl,f rfl⟩
  |true=>
   let⟨aN,@L1,g,hf,⟨@a,m,h⟩⟩:=z rfl;let⟨@LJ,i,j⟩:=d a L1 h ⋯;refine⟨LJ,?_,j⟩;simp only[Option.bind_some,jV,g];rcases hf with rfl|rfl<;>exact i
def CZ(C:List L0):C.filter (λ_=>V)=C:=List.filter_eq_self.mpr λ_ W=>rfl
def lb(d:F k=Z (.bh,T)):bZ F e k=e T:=by unfold bZ;rw[d];rfl
def ot(d:F k=Z (.cR v,T)):bZ F e k=Z (.cR v,T):=by unfold bZ;rw[d];rfl
def CD{F:iy}{L1:aU}{aN:k5}(d:F k=Z ((C,m),T))(e:eX LS c C T=Z (aN,L1)):gQ F LS c k=Z (aN,jG m L1):=by
 unfold gQ;rw[d];show (eX LS c C T).map _=_;rw[e];rfl
def IM{p:ai}(a:A.length=s)(d:F (A.map Z++replicate (H-s) Y)=Z (.cR p,k)):dB s H LU F A=Z (p,g_ LU A k 0):=by
 unfold dB;rw[aK a,d]
def HF{LV:List Nat}{E:iy}{a:aU}{A:List X}(y:E k=Z ((C,m),T))(z:eb own LS o d C [] (iG LV T)=Z (A,a)):e6 own LV E LS o d k=Z (.lst A,jG m<|gR LV a T):=by
 unfold e6;rw[y];show (eb own LS o d C []<|iG LV T).map _=_;rw[z];rfl
def gn{F:aB ai}(d:F k=Z (v,T)):dt F k=Z (.cR v,T):=by unfold dt;rw[d];rfl
def BP{a:Nat}{F:aB ai}(d:F k=Z (v,T))(e:a<T.length):cX a F k=Z (.bh,T.set a<|Z v):=by unfold cX;rw[d];show (if a<T.length then _ else _)=_;rw[aK e]
def ud(d:o k=Z (V,T)):dN o g c k=g T:=by unfold dN;rw[d];rfl
def u7(d:o k=Z (ar,T)):dN o g c k=c T:=by unfold dN;rw[d];rfl
def l_(k:aU){p:ai}{l:List ai}(a:A.length=s)(d:F (A.map Z++replicate (H-s) Y)=Z (.cR p,k))(b:g_ LU A k 0=l):dB s H LU F A=Z (p,l):=by
 rw[IM a d,b]
theorem qw{L0:Type}{own:Nat}{LS:ee}{o:aB Bool}{d:aB ai}{aH:aU}(a:L0->X)(u:L0->Bool)(R:L0->X):∀(C:List L0) (Mi:List X),(∀f∈C,∃T L1,LS (.im<|a f) (replicate own Y++aH)=Z T/\o T=Z (u f,L1)/\(u f=ar->L1.drop own=aH)/\(u f=V->∃G,d L1=Z (.im<|R f,G)/\G.drop own=aH))->
  Mi.length+C.length<=100000->eb own LS o d (C.map a) Mi aH=Z (Mi++(C.filter u).map R,aH)
 |[],Mi,_,_=>by simp[eb]
 |f::p,Mi,e,g=>by
  let⟨T,@L1,y,z,h,i⟩:=e f (.head _);rw[dK]at g;rw[c3,eb,y];show (o T).bind _=_;rw[z];show (if u f=V then _ else _)=_;cases b:u f with
  |false=>
   rw[aM dg];show eb own LS o d (p.map a) Mi (L1.drop own)=_;rw[h b,qw a u R p Mi (λl c=>e l<|.tail _ c) ⋯,om,b];rfl
  |true=>
   let⟨@G,j,k⟩:=i b;rw[aK rfl];show (d L1).bind _=_;rw[j];show (if Mi.length<100000 then eb own LS o d (p.map a) (Mi++[R f]) (G.drop own) else Y)=_;rw[aK ⋯,k,qw a u R p (Mi++[R f]) (λl c=>e l<|.tail _ c) (by rw[eK,kM];lia),om,b];simp
def tZ{aH:aU}(a:L0->X)(R:L0->X)(C:List L0)(e:∀f∈C,∃T L1 G,LS (.im<|a f) (replicate own Y++aH)=Z T/\o T=Z (V,L1)/\d L1=Z (.im<|R f,G)/\G.drop own=aH)(h:C.length<=100000):eb own LS o d (C.map a) [] aH=Z (C.map R,aH):=by
 have:=qw (own:=own) (LS:=LS) (o:=o) (d:=d) (aH:=aH) a (λ_=>V) R C [] (λf b=>by
  let⟨T,L1,@G,y,z,c,g⟩:=e f b;exact⟨T,L1,y,z,(λB=>by cases B),(λ_=>⟨G,c,g⟩)⟩) (by rw[mv];lia)
 rw[CZ]at this;exact this
end L2
namespace G
open L2
abbrev ax(a:Int):ai:=.im (.int a)
end G
namespace L2
open Spec PyProof.Rows
section
variable{b:aE}
def nk:X->Option dw
 |.int a=>Z (.inl a)
 |.str f=>Z (.inr f)
 |_=>Y
@[simp] theorem K_(a:Int):nk (.int a)=Z (.inl a):=rfl
@[simp] theorem K8(f:az):nk (.str f)=Z (.inr f):=rfl
def vW:dw->X
 |.inl a=>.int a
 |.inr f=>.str f
@[simp] theorem Lj(a:Int):vW (.inl a)=.int a:=rfl
@[simp] theorem Lk(f:az):vW (.inr f)=.str f:=rfl
def Dn{h:aq}{v:X}{r:ah}{n:dw}(e:b9 h v r)(d:nk v=Z n):r=b7 n:=by
 cases v with
 |int a=>cases d;exact e
 |str f=>cases d;exact e
 |_=>cases d
def jZ{U:Type}[DecidableEq U](G:List (U×X))(n:U)(v:X):List (U×X):=(
 if (G.any λa=>decide (a.1=n))=V then G.map (λa=>if a.1=n then (a.1,v) else a) else G++[(n,v)])
variable{U:Type}
def eg.any[DecidableEq U]{h:aq}{n:U}{L:List (U×X)}{H:List (U×ah)}(e:eg h L H):(L.any λa=>decide (a.1=n))=(H.any λa=>decide (a.1=n)):=by
 unfold eg at e;induction e with
 |nil=>rfl
 |cons p _ b=>rw[kY,kY,b,p.1]
def eg.upd[DecidableEq U]{h:aq}{n:U}{v:X}{r:ah}(I:b9 h v r){L:List (U×X)}{H:List (U×ah)}(e:eg h L H):eg h (L.map λa=>if a.1=n then (a.1,v) else a) (H.map λa=>if a.1=n then (a.1,r) else a):=by
 unfold eg at e;induction e with
 |nil=>exact .nil
 |@cons u q _ _ p _ c=>
  rw[c3,c3];refine .cons ?_ c;by_cases d:u.1=n
  ·have b:q.1=n:=p.1.symm.trans d;rw[aK d,aK b];exact⟨p.1,I⟩
  ·have b:¬ q.1=n:=λB=>d (p.1.trans B);rw[aM d,aM b];exact p
def J6{L0 Mx:Type}{N:L0->Mx->Prop}{L:List L0}{H:List Mx}{g:L0}{c:Mx}(e:d2 N L H)(f:N g c):d2 N (L++[g]) (H++[c]):=by
 induction e with
 |nil=>exact .cons f .nil
 |cons p _ a=>exact .cons p a
def eg.put[DecidableEq U]{h:aq}{n:U}{v:X}{r:ah}(I:b9 h v r){L:List (U×X)}{H:List (U×ah)}(e:eg h L H):eg h (jZ L n v) (gI H n r):=by
 unfold jZ gI;rw[e.any];split
 ·exact e.upd I
 ·exact J6 e ⟨rfl,I⟩
@[simp] def zr:aB ai:=λk=>Z (.br [],k)
def J0{LC:Pos}:b0 b (.Dict [] [] LC) zr:=by
 refine d7 H8 λw h x ⟨k,N,p,LJ,J,ak,c,q⟩ u a=>?_;cases c;have j:bz h (L2.upd h u<|.br []):=(bz.refl h).upd a;have e:aY h N h (N++[]):=by rw[bN];exact aY.perm ak (List.Perm.refl _)
 exact q _ _ N [u] (J.mono j.tupS λg W m d=>j g m d) ⟨u,[],rfl,de,.nil,rfl⟩ (e.new j (fX _ _) (λg f=>by rw[dk.mp f];exact a) J.chg)
@[simp] def KZ(a b:aB ai):aB ai:=λk=>(a k).bind λu=>(b u.2).bind λq=>match u.1,q.1 with
 |.im n,.im v=>(nk n).map λc=>(.cW [(c,v)],q.2)
 |_,_=>Y
@[simp] def oj(o n v:ai):Option ai:=match o,n,v with
 |.lst C,.im<|.int a,.im v=>(hu C.length a).map λi=>.lst (C.set i v)
 |.cW G,.im n,.im v=>(nk n).bind λb=>if G.length<100000 then Z (.cW<|jZ G b v) else Y
 |.br G,.im<|.tup n,.im v=>if X.keys 7 n=V/\G.length<100000 then Z (.br<|jZ G n v) else Y
 |_,_,_=>Y
def Ka(G:b.A.units+20<bP):ra b oj:=by
 intro M j w h m a r H I D x t k i l J;let⟨o,n,v,L,Lp,@LX,p,s,bG,ak,d,q⟩:=J;unfold oj at d;split at d
 ·exact BB M j w h m a r H I D x t k i l ⟨_,_,_,L,Lp,LX,p,s,bG,ak,d,q⟩
 ·let⟨@Q,N,u⟩:=bl.mp d;split at u
  ·rename_i e;cases u;let⟨g,@LH,rfl,y,z,rfl⟩:=p;let@⟨hd,rfl⟩:=bG;have o:fh h g:=⟨_,y,(λ_ d=>by cases d),(λ_ W d=>by cases d)⟩;cases k;have P:=Dn s.1 N;subst P;refine y0 G t (kC.k y (by rw[<-z.length];exact qn e)) i l λS B=>⟨_,B,q _ [g] ?_ (aY.chg (.head _) o (fX _ _) λf F=>by simpa using F)⟩;exact⟨g,_,rfl,de,(eg.put hd z).mono<|b9.q6 o,rfl⟩
  ·cases u
 ·split at d
  ·rename_i e;cases d;let⟨g,@LH,rfl,y,z,rfl⟩:=p;let@⟨hd,rfl⟩:=bG;have o:fh h g:=⟨_,y,(λ_ d=>by cases d),(λ_ W d=>by cases d)⟩;cases k;let⟨c,@C,rfl,L9,L_⟩:=s.1;refine y0 G t (kC.t y ⟨e.1,c,C,rfl,L9,L_⟩ (by rw[<-z.length];exact qn e.2)) i l λS B=>⟨_,B,q _ [g] ?_ (aY.chg (.head _) o (fX _ _) λf F=>by simpa using F)⟩;exact⟨g,_,rfl,de,(eg.put hd z).mono<|b9.q6 o,rfl⟩
  ·cases d
 ·cases d
end
section
variable{b:aE}
def zS:bj->ai->Option (Nat×ai)
 |.bx a,v=>Z (a,v)
 |.c_ _,_=>Y
@[simp] theorem KP(a:Nat)(v:ai):zS (.bx a) v=Z (a,v):=rfl
@[simp] theorem Lc(o v:ai):zS (.c_ o) v=Y:=rfl
def D_{n:Nat}{a:az}{MC o:Pos}{LS Mm ME:a7}{MD:List a7}{LD:dU}{LC:Pos}{own:List az}{LV:List Nat}{MG:cw}{F:ig->fj}{A:ig->dq}{Mq:ig->bT}(v:b.N.Nodup)(x:b.N[n]?=Z a)(y:fs b.env.scope a)(z:b.calm=V)(LX:gL b LD own LV)(Lv:jq b LS Mm MG)(C:∀i,hQ (b.eI (eP b own LV) LD i) LS<|F i)(D:∀i,nG (b.eI (eP b own LV) LD i) MD<|A i)(E:∀i,bw (b.eI (eP b own LV) LD i) ME<|Mq i)(au:∀f,jX Mm b.env f=pure f:=by intro W;rfl)(I:kx (.ListComp ME [⟨LS,Mm,MD,0⟩] LD LC) (Z<|.Name a MC) o.line b.env=pure V:=by rfl)(J:b.fn a=V\/b.env.scope.names.lookup a=Z .local:=by first|exact .inl rfl|exact .inr rfl|assumption):
  f3 b (.Assign [.Name a MC] (.ListComp ME [⟨LS,Mm,MD,0⟩] LD LC) o) (vp (pg own LV MG F A Mq)<|uO n):=by
 intro M j w h L t e;rw[exec_Assign_Name_used _ _ _ _ I];refine aD (rt<|aD ?_);show wpAny _ b.A (do let _ <-uU (.ListComp ME [⟨LS,Mm,MD,0⟩] LD LC) LD b.env _ (nB []) ar (bU Mm b.env) (Z<|fO (.Name a MC) b.env)) _ _ j;refine aD (fq (yt (use:=Z (fO (.Name a MC) b.env)) (ge:=λ_ S=>kT b M L .next S) z LX Lv C D E au t e λk aH be P H Q T R p s B u q=>?_) (λ_ S al=>bk<|bk al) λ_ W d=>d);show wpAny _ b.A (fO (.Name a MC) b.env<|.ref k) _ _ P;refine xJ (yp Q v x y (r:=.ref k) rfl (λam an ap=>?_) J);let⟨@g,as,l⟩:=ap;have a1:aH≠g:=by
  rcases l with rfl|l
  ·exact d3 p
  ·exact d3 (s _ _ l)
 exact⟨H,T.sameBut as a1,λLq b5=>⟨_,_,an.turned (ae:=aH) (LY:=am.toks) (λc m a2 d=>(b5.2 c a2).trans d) R (d3 p) (.inr B) s u,q⟩⟩
def E_{LU:List Nat}{a:Nat}{c:az}{MC e:Pos}{LS Mm ME:a7}{MD:List a7}{LD:dU}{LC:Pos}{own:List az}{LV:List Nat}{E:iy}{l:ee}{MA:aB Bool}{MJ:aB ai}(g:b.N.Nodup)(i:b.N[a]?=Z c)(j:fs b.env.scope c)(m:b.calm=V)(LX:gL b LD own LV)(ak:LV.Nodup)(Lv:kh b LS Mm E)(n:∀d,f7 (b.eI (eP b own LV) LD d) (mf own.length LV.length) LS l)(o:∀d,pT (b.eI (eP b own LV) LD d) MD MA)(s:∀d,b0 (b.eI (eP b own LV) LD d) ME MJ)(t:a∉LU)(au:∀f,jX Mm b.env f=pure f:=by intro W;rfl)(u:kx (.ListComp ME [⟨LS,Mm,MD,0⟩] LD LC) (Z<|.Name c MC) e.line b.env=pure V:=by rfl)(v:b.fn c=V\/b.env.scope.names.lookup c=Z .local:=by first|exact .inl rfl|exact .inr rfl|assumption):
  gF b LU (.Assign [.Name c MC] (.ListComp ME [⟨LS,Mm,MD,0⟩] LD LC) e) (cX a<|e6 own.length LV E l MA MJ):=by
 refine iY (D_ g i j m LX Lv n o s au u v) λLs w h x=>?_;let⟨k,N,aN,@LJ,J,A,B,q⟩:=x;let⟨@⟨p,T⟩,y,z⟩:=bl.mp B;split at z
 ·rename_i C;cases z;refine ym ak ⟨k,N,p,_,J,A,y,λr Lw LI Lp D F H=>?_⟩;let⟨LQ,@bp,I,L3⟩:=D.put (a:=a) F C;exact q _ Lw LQ (cH.set t) I (H.less L3)
 ·cases z
def yu:ai->ai
 |.lst f=>.im (.aN f)
 |.br []=>.im .fd
 |v=>v
@[simp] theorem KR(f:List X):yu (.lst f)=.im (.aN f):=rfl
@[simp] theorem K2(v:X):yu (.im v)=.im v:=rfl
def Ao{h:aq}{g:af}{D:d8}{a:aQ}(L9:h g=Z D)(b:∀C,D≠.tup C)(e:∀u r,D≠.b8 u r):d6 h (upd h g<|.b8 a D):=d6.of (λc C d=>by
  have:c≠g:=λB=>by subst B;rw[L9]at d;cases d;exact b _ rfl
  rw[bB this];exact d) λc m D d=>by
  have:c≠g:=λB=>by subst B;rw[L9]at d;cases d;exact e _ _ rfl
  rw[bB this];exact d
end
end L2
namespace jA
open Spec PyProof.Rows
end jA
namespace L2
open Spec PyProof.Rows
variable{O:a9}{MA Ma Mp:aB bj}{ML R:e9}{x:aa->ag->Prop}{c:Bool}{L7:ai}{D r:aa}{l:ah}{j:ag}{h:aq}{w:aW}{M:List (af×aQ)}{f v:X}
theorem zf{e:a0}:∀(s:Nat) {f l:X}{r:aa},X.bE s f=V->X.bE s l=V->cD e f r->cD e l r->f=l
 |s,.aR,l,r,_,aS,h,b=>by
  cases (show r=.none from h);cases l with
  |aR=>rfl
  |aF c=>cases b
  |int i=>let⟨@D,d⟩:=b;cases d
  |str B=>let⟨@D,d⟩:=b;cases d
  |tup A=>let⟨W,W,W,@W,d,W⟩:=b;cases d
  |fn g=>cases s<;>cases aS
  |aN g=>cases s<;>cases aS
  |fd=>cases s<;>cases aS
 |s,.aF c,l,r,_,aS,h,b=>by
  cases (show r=.bool c from h);cases l with
  |aR=>cases b
  |aF o=>cases b;rfl
  |int i=>let⟨@D,d⟩:=b;cases d
  |str B=>let⟨@D,d⟩:=b;cases d
  |tup A=>let⟨W,W,W,@W,d,W⟩:=b;cases d
  |fn g=>cases s<;>cases aS
  |aN g=>cases s<;>cases aS
  |fd=>cases s<;>cases aS
 |s,.int a,l,r,_,aS,h,b=>by
  let⟨@E,rfl⟩:=h;cases l with
  |aR=>cases b
  |aF o=>cases b
  |int i=>let⟨@D,d⟩:=b;injection d with d;rw[d]
  |str B=>let⟨@D,d⟩:=b;cases d
  |tup A=>let⟨W,W,W,@W,d,W⟩:=b;cases d
  |fn g=>cases s<;>cases aS
  |aN g=>cases s<;>cases aS
  |fd=>cases s<;>cases aS
 |s,.str a,l,r,_,aS,h,b=>by
  let⟨@E,rfl⟩:=h;cases l with
  |aR=>cases b
  |aF o=>cases b
  |int i=>let⟨@D,d⟩:=b;cases d
  |str B=>let⟨@D,d⟩:=b;injection d with d;rw[d]
  |tup A=>let⟨W,W,W,@W,d,W⟩:=b;cases d
  |fn g=>cases s<;>cases aS
  |aN g=>cases s<;>cases aS
  |fd=>cases s<;>cases aS
 |s+1,.tup A,l,r,dc,aS,h,b=>by
  let⟨g,m,T,@H,rfl,y,z,t,u⟩:=h;cases l with
  |aR=>cases b
  |aF o=>cases b
  |int i=>let⟨@D,d⟩:=b;cases d
  |str B=>let⟨@D,d⟩:=b;cases d
  |fn g=>cases aS
  |aN g=>cases aS
  |fd=>cases aS
  |tup Lu=>
   let⟨G,LZ,I,@J,d,k,L,j,w⟩:=b;cases d;rw[y]at k;cases k;rw[t]at j;injection j with j _;subst j;have all:∀(A Lu:List X) (Q:List aa),X.cY s A=V->X.cY s Lu=V->c7 e A Q->c7 e Lu Q->A=Lu:=by
    intro A;induction A with
    |nil=>
     intro Lu Q W W g c;cases Lu with
     |nil=>rfl
     |cons d Lu=>let⟨W,@W,q,W⟩:=c;rw[show Q=[] from g]at q;cases q
    |cons v A x=>
     intro Lu Q L9 L_ g c;let⟨r,@p,rfl,C,F⟩:=g;cases Lu with
     |nil=>cases (show r::p=[] from c)
     |cons d Lu=>
      let⟨M,@Mc,q,cF,cS⟩:=c;cases q;rw[X.cY,cE]at L9 L_;rw[zf s L9.1 L_.1 C cF,x Lu p L9.2 L_.2 F cS]
   rw[all A Lu _ dc aS u w]
 |0,.tup _,_,_,n,_,_,_=>by cases n
 |s,.fn _,_,_,n,_,_,_=>by cases s<;>cases n
 |s,.aN _,_,_,n,_,_,_=>by cases s<;>cases n
 |s,.fd,_,_,n,_,_,_=>by cases s<;>cases n
open Classical in
def kP(e:a0)(v:X)(r:aa):Bool:=(if B:∃f,X.bE 8 f=V/\cD e f r then bV B.choose v else ar)
def m_{e:a0}(n:X.bE 8 f=V)(a:cD e f r):kP e v r=bV f v:=by
 unfold kP;have B:∃f,X.bE 8 f=V/\cD e f r:=⟨f,n,a⟩;rw[dif_pos B,zf 8 B.choose_spec.1 n B.choose_spec.2 a]
theorem oW{e:a0}{v:X}:∀{A:List X}{Q:List aa},X.cY 8 A=V->c7 e A Q->Q.any (kP e v)=A.any λf=>bV f v
 |[],Q,_,d=>by rw[show Q=[] from d];rfl
 |f::A,Q,n,d=>by
  let⟨r,@p,rfl,y,z⟩:=d;rw[X.cY,cE]at n;rw[kY,kY,m_ n.1 y,oW n.2 z]
theorem nR{e:a0}:∀{A:List X}{Q:List aa}{r:aa},X.cY 8 A=V->c7 e A Q->r∈Q->∃f,X.bE 8 f=V/\cD e f r
 |[],Q,r,_,d,H=>by rw[show Q=[] from d]at H;cases H
 |f::A,Q,r,n,d,H=>by
  let⟨D,@p,rfl,y,z⟩:=d;rw[X.cY,cE]at n;rcases cu.mp H with rfl|H
  ·exact⟨f,n.1,y⟩
  ·exact nR n.2 z H
section
variable{b:aE}
def hD(v:X):ai->Option Bool
 |.im (.tup A)=>if (X.bE 8 v&&X.cY 8 A)=V then Z (A.any λf=>bV f v) else Y
 |.lst A=>if (X.bE 8 v&&X.cY 8 A)=V then Z (A.any λf=>bV f v) else Y
 |.br G=>match v with
  |.tup n=>if X.keys 7 n=V then Z (eB G n).isSome else Y
  |_=>Y
 |.cW G=>match v with
  |.int a=>Z (eB G<|.inl a).isSome
  |.str f=>Z (eB G<|.inr f).isSome
  |_=>Y
 |_=>Y
@[simp] theorem KU(v:X)(A:List X):hD v (.im<|.tup A)=if (X.bE 8 v&&X.cY 8 A)=V then Z (A.any λf=>bV f v) else Y:=rfl
@[simp] theorem IZ(v:X)(A:List X):hD v (.lst A)=if (X.bE 8 v&&X.cY 8 A)=V then Z (A.any λf=>bV f v) else Y:=rfl
@[simp] theorem CF(n:List X)(G:List (List X×X)):hD (.tup n) (.br G)=if X.keys 7 n=V then Z (eB G n).isSome else Y:=rfl
@[simp] def rx:e9:=λg c=>match g with
 |.im v=>(hD v c).map λp=>.im (.aF p)
 |_=>Y
@[simp] def jw:e9:=λg c=>match g with
 |.im v=>(hD v c).map λp=>.im (.aF<|!p)
 |_=>Y
def mV{U:Type}[DecidableEq U]{h:aq}{n:U}{G:List (U×X)}{i:List (U×ah)}(e:eg h G i):(f_ i n).isSome=(eB G n).isSome:=by
 cases d:eB G n with
 |none=>rw[(k8 e).2 d];rfl
 |some v=>let⟨@r,y,W⟩:=(k8 e).1 v d;rw[y];rfl
def Cm{f:ah}(L:b.A.units+20<bP)(t:aA b M w h j)(m:bC f r)(o:bC l D)(p:b9 h v f)(s:dC h L7 l)(d:hD v L7=Z c)(q:∀S,aA b M w h S->x (.bool c) S):wpAny (aP b.prog b.w) b.A (dz .In r D) x b.bX j:=by
 unfold hD at d;split at d
 ·rename_i A;split at d
  ·rename_i e;cases d;rw[cE]at e;let⟨g,@C,rfl,y,z⟩:=s.i;cases o;let⟨@Lz,P,u,W⟩:=t.tuple (b3.of y);have F:=z.ed t.aT P;refine SeqAt.in_tupleAt (kP j.heap v) (show j.heap.IsTuple g Lz.toArray from u) (λI N=>?_) ?_
   ·let⟨@B,H,J⟩:=nR e.2 F ⇑N;rw[m_ H J];exact g6 8 H e.1 (by show b.A.units+1+8+1<bP;lia) J (p.ed t.aT m)
   ·rw[qS,oW e.2 F];exact q j t
  ·cases d
 ·rename_i A;split at d
  ·rename_i e;cases d;rw[cE]at e;let⟨W,g,@C,rfl,y,z,W⟩:=s;cases o;let⟨@Lz,u,F,W⟩:=lS t y z;refine SeqAt.in_listAt (kP j.heap v) u (λI N=>?_) ?_
   ·let⟨@B,H,J⟩:=nR e.2 F ⇑N;rw[m_ H J];exact g6 8 H e.1 (by show b.A.units+1+8+1<bP;lia) J (p.ed t.aT m)
   ·rw[qS,oW e.2 F];exact q j t
  ·cases d
 ·rename_i G;split at d
  ·rename_i n;split at d
   ·rename_i Q;cases d;let⟨W,g,@i,rfl,y,z,W⟩:=s;cases o;let⟨c,@LH,rfl,R,T⟩:=p;rw[<-mV z]at q;exact um L t (fe.t y ⟨Q,c,LH,rfl,R,T⟩) m q
   ·cases d
  ·cases d
 ·rename_i G;split at d
  ·rename_i a;cases d;let⟨W,g,@i,rfl,y,z,W⟩:=s;cases o;rw[<-mV z]at q;cases (show f=b7 (.inl a) from p);exact um L t (fe.k y) m q
  ·rename_i a;cases d;let⟨W,g,@i,rfl,y,z,W⟩:=s;cases o;rw[<-mV z]at q;cases (show f=b7 (.inr a) from p);exact um L t (fe.k y) m q
  ·cases d
 ·cases d
def C2(e:b.A.units+20<bP):ey b (dz .In) rx:=by
 intro M j w h f l r D x t g k m;let⟨L6,L7,@v,n,o,d,q⟩:=m;unfold rx at d;split at d
 ·let⟨@c,p,s⟩:=cb.mp d;cases s;exact Cm e t g k n.i o p λS u=>⟨.aF c,h,u,rfl,b2.i q rfl⟩
 ·cases d
def Ig{f:ah}(L:b.A.units+20<bP)(t:aA b M w h j)(m:bC f r)(o:bC l D)(p:b9 h v f)(s:dC h L7 l)(d:hD v L7=Z c)(q:∀S,aA b M w h S->x (.bool<|!c) S):wpAny (aP b.prog b.w) b.A (dz .NotIn r D) x b.bX j:=by
 unfold hD at d;split at d
 ·rename_i A;split at d
  ·rename_i e;cases d;rw[cE]at e;let⟨g,@C,rfl,y,z⟩:=s.i;cases o;let⟨@Lz,P,u,W⟩:=t.tuple (b3.of y);have F:=z.ed t.aT P;refine SeqAt.notIn_tupleAt (kP j.heap v) (show j.heap.IsTuple g Lz.toArray from u) (λI N=>?_) ?_
   ·let⟨@B,H,J⟩:=nR e.2 F ⇑N;rw[m_ H J];exact g6 8 H e.1 (by show b.A.units+1+8+1<bP;lia) J (p.ed t.aT m)
   ·rw[qS,oW e.2 F];exact q j t
  ·cases d
 ·rename_i A;split at d
  ·rename_i e;cases d;rw[cE]at e;let⟨W,g,@C,rfl,y,z,W⟩:=s;cases o;let⟨@Lz,u,F,W⟩:=lS t y z;refine SeqAt.notIn_listAt (kP j.heap v) u (λI N=>?_) ?_
   ·let⟨@B,H,J⟩:=nR e.2 F ⇑N;rw[m_ H J];exact g6 8 H e.1 (by show b.A.units+1+8+1<bP;lia) J (p.ed t.aT m)
   ·rw[qS,oW e.2 F];exact q j t
  ·cases d
 ·rename_i G;split at d
  ·rename_i n;split at d
   ·rename_i Q;cases d;let⟨W,g,@i,rfl,y,z,W⟩:=s;cases o;let⟨c,@LH,rfl,R,T⟩:=p;rw[<-mV z]at q;exact sW L t (fe.t y ⟨Q,c,LH,rfl,R,T⟩) m q
   ·cases d
  ·cases d
 ·rename_i G;split at d
  ·rename_i a;cases d;let⟨W,g,@i,rfl,y,z,W⟩:=s;cases o;rw[<-mV z]at q;cases (show f=b7 (.inl a) from p);exact sW L t (fe.k y) m q
  ·rename_i a;cases d;let⟨W,g,@i,rfl,y,z,W⟩:=s;cases o;rw[<-mV z]at q;cases (show f=b7 (.inr a) from p);exact sW L t (fe.k y) m q
  ·cases d
 ·cases d
def A7(e:b.A.units+20<bP):ey b (dz .NotIn) jw:=by
 intro M j w h f l r D x t g k m;let⟨L6,L7,@v,n,o,d,q⟩:=m;unfold jw at d;split at d
 ·let⟨@c,p,s⟩:=cb.mp d;cases s;exact Ig e t g k n.i o p λS u=>⟨.aF<|!c,h,u,rfl,b2.i q rfl⟩
 ·cases d
@[simp] def hy(R ML:e9)(Mp Ma MA:aB bj):aB ai:=λk=>(Mp k).bind λu=>(Ma u.2).bind λq=>(dj q.2 u.1).bind λL6=>(dj q.2 q.1).bind λL7=>(R L6 L7).bind λv=>(lN v).bind λn=>
 if n=V then (MA q.2).bind λp=>(dj p.2 q.1).bind λa=>(dj p.2 p.1).bind λb=>(ML a b).bind λB=>(lN B).map λc=>(.im<|.aF c,p.2) else Z (.im<|.aF ar,q.2)
def Dz{x:cp}(e:hn (hy R ML Mp Ma MA) w h x):
  yf (λf l h x=>∃L6 L7 v,dC h L6 f/\dC h L7 l/\R L6 L7=Z v/\b2 h v x) (λf l h x=>∃L6 L7 v,dC h L6 f/\dC h L7 l/\ML L6 L7=Z v/\b2 h v x) (j7 Mp) (j7 Ma) (j7 MA) w h x:=by
 let⟨k,N,p,@LJ,J,ak,a,q⟩:=e;let⟨@⟨Me,T⟩,y,a⟩:=bl.mp a;let⟨@⟨Mw,L1⟩,z,a⟩:=bl.mp a;let⟨@L6,P,a⟩:=bl.mp a;let⟨@L7,Q,a⟩:=bl.mp a;let⟨@v,S,a⟩:=bl.mp a;let⟨@n,U,j⟩:=bl.mp a;have hd:=nE U;subst hd;refine⟨k,N,Me,T,J,ak,y,λf Lw LI al am F C=>⟨T,LI,Mw,L1,am,(dp.mp C.ak).1,z,λl LK LQ bp o H s=>?_⟩⟩;have an:gV LK w Me f al:=F.mono s.tup λg b m d=>s.keep g m d λe=>(dp.mp C.ak).2.2 g e g b rfl;refine⟨L6,L7,_,an.read o P,H.read o Q,S,λr L ap i as ds dL=>?_⟩;let@⟨rfl,rfl⟩:=(show r=.aF n/\ap=[] from as);refine⟨n,rfl,?_⟩;have M:=C.trans s F.chg;rw[bb]at M;have u:=M.new i hc (λg b=>nomatch b) o.chg;have O:a_ L L1 w LQ:=o.mono i.tupS λg W m d=>i g m d;cases n with
 |false=>
  rw[aM dg]at j ⊢;cases j;exact q _ L LQ [] O ⟨rfl,rfl⟩ u
 |true=>
  rw[aK rfl]at j ⊢;let⟨@⟨t,G⟩,a1,L9⟩:=bl.mp j;let⟨@a2,bd,L_⟩:=bl.mp L9;let⟨@be,bi,bm⟩:=bl.mp L_;let⟨@B,bn,bs⟩:=bl.mp bm;let⟨@c,bv,ca⟩:=cb.mp bs;cases ca;have cd:=nE bv;subst cd;rw[bN]at u;refine⟨L1,LQ,t,G,O,u.ak,a1,λI ce ch eq A ci D=>?_⟩;have cl:=dp.mp s.ak;have co:gV ce w Mw l bp:=(H.mono i.tupS λg W m d=>i g m d).mono D.tup λg b m d=>D.keep g m d λe=>cl.2.2 g e g b rfl;refine⟨a2,be,_,co.read A bd,ci.read A bi,bn,λr cr cs E db ev ex=>?_⟩;let@⟨rfl,rfl⟩:=(show r=.aF c/\cs=[] from db);exact q _ cr ch [] (A.mono E.tupS λg W m d=>E g m d) ⟨rfl,rfl⟩ ((u.seq D).new E hc (λg b=>nomatch b) A.chg)
def Ar{L4 a:iI}{g c o:a7}{LC:Pos}(e:ey b (dz L4) R)(f:ey b (dz a) ML)(i:c6 b g Mp)(l:c6 b c Ma)(m:c6 b o MA)(p:lastMarks [L4,a] [c,o]=ar:=by with_unfolding_all rfl):gA b (.Compare g [L4,a] [c,o] LC) (bM<|hy R ML Mp Ma MA):=by
 refine n3 (IS e f i l m p) λw h x s=>?_;let⟨k,N,n,@LJ,J,ak,t,q⟩:=s;refine Dz ⟨k,N,.im<|.aF n,LJ,J,ak,?_,λr P LW Lp v d j=>⟨n,d.1,q P LW v (by rw[d.2,bN]at j;exact j)⟩⟩;let⟨@u,y,z⟩:=bl.mp t;let⟨@C,A,B⟩:=cb.mp z;cases B;rw[y,<-nE A]
end
mutual
def bc:X->X->Bool
 |.int a,.int i=>decide (a<i)
 |.str f,.str l=>decide (f.cps.toList<l.cps.toList)
 |.tup g,.tup c=>dS g c
 |_,_=>ar
def dS:List X->List X->Bool
 |[],[]=>ar
 |[],_::_=>V
 |_::_,[]=>ar
 |g::p,c::E=>if X.beq g c=V then dS p E else bc g c
end
mutual
def dJ:Nat->X->X->Bool
 |_,.int _,.int _=>V
 |_,.str _,.str _=>V
 |s+1,.tup g,.tup c=>eN s g c
 |_,_,_=>ar
def eN:Nat->List X->List X->Bool
 |_,[],[]=>V
 |s,g::p,c::E=>dJ s g c&&eN s p E
 |s,[],c::E=>X.cY s (c::E)
 |s,g::p,[]=>X.cY s (g::p)
end
mutual
theorem mr:∀{s:Nat}{g c:X},dJ s g c=V->X.bE s g=V/\X.bE s c=V/\bV g c=X.beq g c
 |s,.int a,.int i,_=>by
  refine⟨by cases s<;>rfl,by cases s<;>rfl,?_⟩;rw[bV,X.beq];by_cases e:a=i<;>simp[e]
 |s,.str f,.str l,_=>by
  refine⟨by cases s<;>rfl,by cases s<;>rfl,?_⟩;rw[bV,X.beq];by_cases e:f=l<;>simp[e]
 |s+1,.tup g,.tup c,e=>by
  rw[dJ]at e;let@⟨y,z,b⟩:=xM e;exact⟨y,z,by rw[bV,X.beq];exact b⟩
theorem xM:∀{s:Nat}{g c:List X},eN s g c=V->X.cY s g=V/\X.cY s c=V/\e4 g c=X.jb g c
 |s,[],[],_=>⟨by cases s<;>rfl,by cases s<;>rfl,rfl⟩
 |s,[],c::E,e=>⟨by cases s<;>rfl,e,rfl⟩
 |s,g::p,[],e=>⟨e,by cases s<;>rfl,rfl⟩
 |s,g::p,c::E,e=>by
  rw[eN,cE]at e;let@⟨y,z,a⟩:=mr e.1;let@⟨b,d,f⟩:=xM e.2;exact⟨by rw[X.cY,y,b];rfl,by rw[X.cY,z,d];rfl,by rw[e4,X.jb,a,f]⟩
end
def lI{g c:X}(e:¬ g=c):X.beq g c=ar:=by
 cases d:X.beq g c with
 |false=>rfl
 |true=>exact absurd ((X.beq_iff g c).mp d) e
mutual
theorem uk:∀g:X,bc g g=ar
 |.int a=>by simp[bc]
 |.tup g=>by rw[bc];exact wX g
 |.aR=>rfl
 |.aF _=>rfl
 |.str f=>by rw[bc];exact es (List.lt_irrefl _)
 |.fn _=>rfl
 |.aN _=>rfl
 |.fd=>rfl
theorem wX:∀g:List X,dS g g=ar
 |[]=>rfl
 |g::p=>by rw[dS,aK<|(X.beq_iff g g).mpr rfl];exact wX p
end
mutual
theorem oc:∀{s:Nat}{g c:X},dJ s g c=V->g≠c->bc g c=!(bc c g)
 |s,.int a,.int i,_,e=>by
  have:a≠i:=λd=>e (by rw[d]);rw[bc,bc];rcases Int.lt_or_gt_of_ne this with F|F
  ·simp[F];lia
  ·simp[F];lia
 |s,.str f,.str l,_,e=>by
  have ne:f.cps.toList≠l.cps.toList:=λd=>e (by
   let⟨f⟩:=f;let⟨l⟩:=l;exact congrArg (λB=>X.str ⟨B⟩) (Array.toList_inj.mp d))
  rw[bc,bc];by_cases F:f.cps.toList<l.cps.toList
  ·rw[eH F,es<|List.lt_asymm F];rfl
  ·rw[es F];by_cases MF:l.cps.toList<f.cps.toList
   ·rw[eH MF];rfl
   ·exact absurd (List.le_antisymm (A9.mp MF)<|A9.mp F) ne
 |s+1,.tup g,.tup c,e,d=>by
  rw[dJ]at e;rw[bc,bc];exact vX e λB=>d (by rw[B])
theorem vX:∀{s:Nat}{g c:List X},eN s g c=V->g≠c->dS g c=!(dS c g)
 |s,[],[],_,e=>absurd rfl e
 |s,[],c::E,_,_=>rfl
 |s,g::p,[],_,_=>rfl
 |s,g::p,c::E,e,d=>by
  rw[eN,cE]at e;rw[dS,dS];by_cases B:g=c
  ·subst B;rw[aK ((X.beq_iff g g).mpr rfl),aK<|(X.beq_iff g g).mpr rfl];exact vX e.2 λI=>d (by rw[I])
  ·rw[lI B,lI<|λI=>B I.symm,aM dg,aM dg];exact oc e.1 B
end
mutual
theorem ni:∀{s:Nat}{g c o:X},dJ s g c=V->dJ s c o=V->bc g c=V->bc c o=V->bc g o=V
 |s,.int a,.int i,.int n,_,_,y,z=>by
  rw[bc]at y z ⊢;have:=fK y;have:=fK z;exact eH (by omega)
 |s,.str f,.str l,.str B,_,_,y,z=>by
  rw[bc]at y z ⊢;exact eH (List.lt_trans (fK y)<|fK z)
 |s+1,.tup g,.tup c,.tup o,b,d,y,z=>by
  rw[dJ]at b d;rw[bc]at y z ⊢;exact xG b d y z
theorem xG:∀{s:Nat}{g c o:List X},eN s g c=V->eN s c o=V->dS g c=V->dS c o=V->dS g o=V
 |s,[],_,_::_,_,_,_,_=>rfl
 |s,[],[],[],_,_,e,_=>e
 |s,_::_,[],_,_,_,e,_=>by cases e
 |s,_,_::_,[],_,_,_,e=>by cases e
 |s,g::p,c::E,o::D,d,b,y,z=>by
  rw[eN,cE]at d b;rw[dS]at y z ⊢;by_cases f:g=c
  ·subst f;rw[aK ((X.beq_iff g g).mpr rfl)]at y;by_cases a:g=o
   ·subst a;rw[aK ((X.beq_iff g g).mpr rfl)]at z ⊢;exact xG d.2 b.2 y z
   ·rw[lI a,aM dg]at z ⊢;exact z
  ·rw[lI f,aM dg]at y;by_cases a:c=o
   ·subst a;rw[lI f,aM dg];exact y
   ·rw[lI a,aM dg]at z;have h:=ni d.1 b.1 y z;have i:¬ g=o:=λI=>by
     subst I;have:=oc b.1 a;rw[y,z]at this;cases this
    rw[lI i,aM dg];exact h
end
def nO(O:a9)(j:ag)(l f:aa)(n:Bool):Prop:=(∀(Lx:bf) (I:a5) (Ls:aa->ag->Prop) (x:aa->ag->Prop),x (.bool n) j->wpAny (aP Lx I) O (lG .Lt l f) x Ls j)
def gg(R:Bool):List (Bool×Bool)->Bool
 |[]=>R
 | (d,n)::p=>if d=V then gg R p else n
section
open PySem.SeqAt
open PySem.AutoSeq1 (wpAny_loadPart')
open PySem.MeetsSeq PySem.MeetsSeq2 PySem.MeetsSeq3
def Hj(L c:af)(T b:Array aa)(s x:Nat)(A B:Option af)(bx C:Array (Option aa))(LO:List (Bool×Bool))(Q:LO.length=min T.size b.size):
  Meets (bO.«tuple.__lt__» ⟨[.ref L,.ref c],[]⟩)
   (λO Lp j=>j.heap.get? L=Z {cls:=.type "tuple",dict:=A,data:=.seq T s,slots:=bx}/\j.heap.get? c=Z {cls:=.type "tuple",dict:=B,data:=.seq b x,slots:=C}/\
    (∀i (y:i<T.size) (z:i<b.size) (o:i<LO.length),EqAt O.in1 j T[i] b[i] (LO[i]).1/\((LO[i]).1=ar->nO O.in1 j T[i] b[i] (LO[i]).2))/\
    Lp (.ok<|.ret<|.bool<|gg (decide (T.size<b.size)) LO) j):=
 .of_wp λLx I O Lp j e=>by
  let⟨k,F,v,Md,LM⟩:=j;let@⟨D,E,G,e⟩:=e;have R:=vZ;have q:(T.toList.zip b.toList).length=min T.size b.size:=by simp
  wp_walk using wpAny_loadPart' D,wpAny_loadPart' E,nc _ (λcU c S=>c.1=Y/\S=⟨k,F,v,Md,LM⟩/\∃a,cU=(T.toList.zip b.toList).drop a/\
   Lp (.ok<|.ret<|.bool<|gg (decide (T.size<b.size))<|LO.drop a) ⟨k,F,v,Md,LM⟩) _
  case turn=>
   rintro⟨l,f⟩ cU c S ⟨p,rfl,a,g,h⟩;have r:a<(T.toList.zip b.toList).length:=by
    rcases mG a (T.toList.zip b.toList).length with Lq|Lq
    ·exact Lq
    ·rw[mD Lq]at g;cases g
   have U:a<min T.size b.size:=q ▸ r;have y:a<T.size:=⋯
   have z:a<b.size:=⋯
   have o:a<LO.length:=⋯
   rw[ir r]at g;injection g with t H;have J:l=T[a]:=by have:=congrArg Prod.fst t;simpa using this
   have M:f=b[a]:=by have:=congrArg Prod.snd t;simpa using this
   subst J M;rw[ir o]at h;let@⟨u,w⟩:=G a y z o;generalize LO[a]=N at h u w;let⟨d,n⟩:=N;refine aD (u Lx I _ _ ?_);cases d with
   |true=>
    have m:Lp (.ok<|.ret<|.bool<|gg (decide (T.size<b.size))<|LO.drop<|a+1) ⟨k,F,v,Md,LM⟩:=h
    wp_walk
    exact⟨rfl,rfl,a+1,H,m⟩
   |false=>
    have m:Lp (.ok<|.ret<|.bool n) ⟨k,F,v,Md,LM⟩:=h;have P:=w rfl Lx I
    wp_walk using P
    exact⟨_,rfl,by simpa using m⟩
  case fin=>
   rintro⟨cF,cS⟩ S ⟨p,rfl,a,g,h⟩;simp only at p;subst p;have al:min T.size b.size<=a:=by
    rcases mG a (T.toList.zip b.toList).length with Lq|Lq
    ·rw[ir Lq]at g;cases g
    ·exact q ▸ Lq
   rw[mD ⋯]at h;have m:Lp (.ok<|.ret<|.bool<|decide (T.size<b.size)) ⟨k,F,v,Md,LM⟩:=h
   wp_walk
   exact⟨_,rfl,by simpa [bO.Tuple.tupleCompareSizes] using m⟩
  case h=>
   exact⟨rfl,rfl,0,rfl,by simpa using e⟩
end
def i7(A Lu:List X):List (Bool×Bool):=((A.zip Lu).map λu=>(bV u.1 u.2,bc u.1 u.2))
theorem BU:∀{s:Nat}{A Lu:List X},eN s A Lu=V->gg (decide (A.length<Lu.length)) (i7 A Lu)=dS A Lu
 |_,[],[],_=>rfl
 |s,g::p,c::E,e=>by
  rw[eN,cE]at e;show (if bV g c=V then gg (decide (p.length+1<E.length+1)) (i7 p E) else bc g c)=dS (g::p) (c::E);rw[dS,(mr e.1).2.2,<-BU e.2,t7.mpr uM]
 |_,[],_::_,_=>rfl
 |_,_::_,[],_=>rfl
theorem uI{s:Nat}:∀{A Lu:List X}{i:Nat}{g c:X},eN s A Lu=V->A[i]?=Z g->Lu[i]?=Z c->dJ s g c=V
 |[],Lu,i,g,c,_,e,_=>by simp at e
 |v::A,[],i,g,c,_,_,e=>by simp at e
 |v::A,d::Lu,0,g,c,e,y,z=>by
  rw[eN,cE]at e;cases y;cases z;exact e.1
 |v::A,d::Lu,i+1,g,c,e,y,z=>by
  rw[eN,cE]at e;exact uI (i:=i) e.2 ⇑y ⇑z
def Ju{a i:Int}(b:cD j.heap (.int a) D)(c:cD j.heap (.int i) r):nO O j D r (bc (.int a)<|.int i):=by
 let⟨@E,rfl⟩:=b;let⟨@LY,rfl⟩:=c;intro Lx I Ls x q;rw[bc]at q;exact jA.I7 O j a E i LY Lx I Ls x q
def GG{f l:az}(a:cD j.heap (.str f) D)(b:cD j.heap (.str l) r):nO O j D r (bc (.str f)<|.str l):=by
 let⟨E,rfl⟩:=a;let⟨LY,rfl⟩:=b;intro Lx I Ls x q;rw[bc]at q;exact (PySem.P.lt_str q:wpAny (aP Lx I) O (dz .Lt (.str f E)<|.str l LY) x Ls j)
def uu(f l:X):Prop:=((∃a i,f=.int a/\l=.int i)\/∃g c,f=.str g/\l=.str c)
def xU{l:X}(L:uu f l)(b:cD j.heap f D)(d:cD j.heap l r):nO O j D r (bc f l):=by
 rcases L with ⟨a,i,rfl,rfl⟩|⟨g,c,rfl,rfl⟩
 ·exact Ju b d
 ·exact GG b d
def lh:∀{s:Nat}{f l:X},dJ s f l=V->uu f l\/∃H g c,s=H+1/\f=.tup g/\l=.tup c/\eN H g c=V:=by
 intro s f l e;unfold dJ at e;split at e
 ·exact .inl (.inl ⟨_,_,rfl,rfl⟩)
 ·exact .inl (.inr ⟨_,_,rfl,rfl⟩)
 ·exact .inr ⟨_,_,_,rfl,rfl,rfl,e⟩
 ·cases e
def zY(s:Nat):∀{O:a9}{f l:X}{D r:aa},dJ s f l=V->O.units+s+2<bP->cD j.heap f D->cD j.heap l r->nO O j D r (bc f l):=by
 induction s with
 |zero=>
  intro O f l D r e P a b;rcases lh e with L|⟨H,_,_,d,_⟩
  ·exact xU L a b
  ·cases d
 |succ s Q=>
  intro O f l D r e P a b;rcases lh e with L|⟨H,A,Lu,d,rfl,rfl,e⟩
  ·exact xU L a b
  cases d;let⟨g,m,Lz,@H,rfl,y,z,h,k⟩:=a;let⟨c,LZ,J,@R,rfl,n,o,p,t⟩:=b;let⟨cls,S,data,bx⟩:=m;let⟨a1,T,a2,U⟩:=LZ;simp only at z h o p;subst z h o p;have u:A.length=Lz.size:=by rw[k.length,eD]
  have v:Lu.length=J.size:=by rw[t.length,eD]
  intro Lx I Ls x q;rw[bc,<-BU e,u,v]at q;have al:(i7 A Lu).length=min Lz.size J.size:=by rw[i7,bF,y9,u,v]
  refine BH (op:=.Lt) ⟨_,y,rfl⟩ ⟨_,n,rfl⟩ PySem.F.slot_tuple_lt PySem.F.entry_tuple_lt (PySem.F.args_tuple_lt_2 _ _) (Hj g c Lz J H R S T bx U (i7 A Lu) al)
   ⟨y,n,λi am an ap=>?_,show aa.bool (gg (decide (Lz.size<J.size))<|i7 A Lu)≠aa.notImplemented/\x (.bool<|gg (decide (Lz.size<J.size))<|i7 A Lu) j from ⟨(λf=>nomatch f),q⟩⟩ ⋯;let⟨@L6,w,C⟩:=k.get (i:=i) (r:=Lz[i]) (by rw[gi];simp[am]);let⟨@L7,E,G⟩:=t.get (i:=i) (r:=J[i]) (by rw[gi];simp[an]);have lk:=uI e w E;have M:=mr lk;have as:(i7 A Lu)[i]=(bV L6 L7,bc L6 L7):=by
   have:(i7 A Lu)[i]?=Z (bV L6 L7,bc L6 L7):=by
    rw[i7,eJ,(w_ (z:=(L6,L7))).mpr ⟨w,E⟩];rfl
   rw[dR ap]at this;exact Option.some.inj this
  rw[as];exact⟨g6 s M.1 M.2.1 (by show O.units+1+s+1<bP;lia) C G,λ_=>Q lk (by show O.units+1+s+2<bP;lia) C G⟩
end L2
namespace L2
open Spec PyProof.Rows PySem.W
variable{v:X}{Lz:List aa}{A:List X}
theorem BL{L0:Type}{u q:L0->Bool}:∀{L:List L0},(∀f∈L,u f=V->q f=V)->(∃f∈L,q f=V/\u f=ar)->L.countP u<L.countP q
 |[],_,e=>by let⟨@f,a,W⟩:=e;cases a
 |g::L,e,⟨f,a,y,z⟩=>by
  rw[yv,yv];have le:L.countP u<=L.countP q:=List.countP_mono_left λl b=>e l (.tail _ b);rcases cu.mp a with rfl|a
  ·rw[y,z];simp;omega
  ·have:=BL (λl b=>e l<|.tail _ b) ⟨f,a,y,z⟩;have c:=e g (.head _);cases d:u g<;>cases h:q g<;>rw[d,h]at c<;>simp at c ⊢<;>omega
structure k2(A:List X):Prop where
 kn:A.length<=1000
 hJ:∀g∈A,∀c∈A,dJ 6 g c=V
structure tM(A:List X):Prop where
 kn:A.length<=1000
 hJ:∀g∈A,∀c∈A,dJ 6 g c=V
 ak:A.Nodup
def tM.w{A:List X}(m:tM A):k2 A:=⟨m.kn,m.hJ⟩
def lL(A:List X)(f:X):Nat:=(A.countP λv=>bc v f)
def BY(m:k2 A){f l:X}(a:f∈A)(b:l∈A)(e:bc f l=V):lL A f<lL A l:=
 BL (λB c d=>ni (m.hJ B c f a) (m.hJ f a l b) d e) ⟨f,a,e,uk f⟩
def z9(m:k2 A){f l:X}(a:f∈A)(b:l∈A):decide ((lL A f:Int)<(lL A l:Int))=bc f l:=by
 cases d:bc f l with
 |true=>exact eH (by have:=BY m a b d;lia)
 |false=>
  refine es λB=>?_;by_cases e:f=l
  ·subst e;lia
  ·have E:=oc (m.hJ f a l b) e;rw[d]at E;have LY:bc l f=V:=by cases q:bc l f<;>rw[q]at E<;>simp at E ⊢
   have:=BY m b a LY;lia
def jH(A:List X)(a:Nat):Int:=(lL A (A.getD a .aR))
def o2{a:Nat}(e:a<A.length):A.getD a .aR∈A:=by
 rw[b6,dR e];exact vP e
def sv(m:k2 A){u:Array Nat}(b:cj A.length u)(j:ho (jH A) u A.length):(u.toList.map λa=>A.getD a .aR).Pairwise (λg c=>bc c g=ar):=by
 rw[mh];intro a i Lv e o;have au:=b.size;have k:a<A.length:=by simpa [au] using Lv
 have f:i<A.length:=by simpa [au] using e
 have le:=j a i ⋯ f;have F:∀n (h:n<(u.toList.map λa=>A.getD a .aR).length),(u.toList.map λa=>A.getD a .aR)[n]=A.getD (u.getD n 0) .aR:=λn h=>by
  have l:n<u.size:=by simpa using h
  rw[xt,zK];simp[Array.getD,l]
 rw[F a Lv,F i e];rw[<-z9 m (o2<|b.lt f) (o2<|b.lt k)];refine es ?_;have d:∀n,(lL A (A.getD (u.getD n 0) .aR):Int)=aX (jH A) u n:=λ_=>rfl;rw[d a,d i];lia
theorem pK(f:X):∀L:List X,(iW bc f L).Perm (f::L)
 |[]=>List.Perm.refl _
 |l::p=>by
  rw[iW];split
  ·exact List.Perm.refl _
  ·exact (List.Perm.cons l<|pK f p).trans (List.Perm.swap f l p)
theorem h2:∀L:List X,(fE bc L).Perm L
 |[]=>List.Perm.refl _
 |f::p=>(pK f _).trans (List.Perm.cons f<|h2 p)
theorem wG{f:X}:∀{L:List X},L.Pairwise (λg c=>bc g c=V)->(∀l∈L,f≠l)->(∀g∈f::L,∀c∈f::L,dJ 6 g c=V)->(iW bc f L).Pairwise (λg c=>bc g c=V)
 |[],_,_,_=>fX _ _
 |l::p,e,s,lk=>by
  have Lq:=fW.mp e;rw[iW];split
  ·rename_i d;refine fW.mpr ⟨λB a=>?_,e⟩;rcases cu.mp a with rfl|a
   ·exact d
   ·exact ni (lk f (.head _) l<|.tail _<|.head _) (lk l (.tail _<|.head _) B<|.tail _<|.tail _ a) d (Lq.1 B a)
  ·rename_i d;refine fW.mpr ⟨λB a=>?_,wG Lq.2 (λB a=>s B<|.tail _ a) λg b c h=>lk g ?_ c ?_⟩
   ·rcases cu.mp ((pK f p).mem_iff.mp a) with rfl|a
    ·have E:=oc (lk B (.head _) l<|.tail _<|.head _) (s l<|.head _);cases q:bc l B with
     |true=>rfl
     |false=>rw[q]at E;exact absurd E d
    ·exact Lq.1 B a
   ·rcases cu.mp b with rfl|b
    ·exact .head _
    ·exact .tail _ (.tail _ b)
   ·rcases cu.mp h with rfl|h
    ·exact .head _
    ·exact .tail _ (.tail _ h)
theorem qk:∀{L:List X},L.Nodup->(∀g∈L,∀c∈L,dJ 6 g c=V)->(fE bc L).Pairwise (λg c=>bc g c=V)
 |[],_,_=>.nil
 |f::p,ak,lk=>by
  have e:=gZ.mp ak;refine wG (qk e.2 λg a c b=>lk g (.tail _ a) c<|.tail _ b) (λl h d=>e.1 (by rw[d];exact (h2 p).mem_iff.mp h)) λg a c b=>lk g ?_ c ?_
  ·rcases cu.mp a with rfl|a
   ·exact .head _
   ·exact .tail _ ((h2 p).mem_iff.mp a)
  ·rcases cu.mp b with rfl|b
   ·exact .head _
   ·exact .tail _ ((h2 p).mem_iff.mp b)
theorem xl{f:X}:∀{L:List X},L.Pairwise (λg c=>bc c g=ar)->(∀g∈f::L,∀c∈f::L,dJ 6 g c=V)->(iW bc f L).Pairwise (λg c=>bc c g=ar)
 |[],_,_=>fX _ _
 |l::p,e,lk=>by
  have Lq:=fW.mp e;unfold iW;split
  ·rename_i d;refine fW.mpr ⟨λB a=>?_,e⟩;cases q:bc B f with
   |false=>rfl
   |true=>
    have E:=ni (lk B (.tail _ a) f<|.head _) (lk f (.head _) l<|.tail _<|.head _) q d;rcases cu.mp a with rfl|a
    ·rw[uk]at E;cases E
    ·rw[Lq.1 B a]at E;cases E
  ·rename_i d;refine fW.mpr ⟨λB a=>?_,xl Lq.2 λg b c h=>lk g ?_ c ?_⟩
   ·rcases cu.mp ((pK f p).mem_iff.mp a) with rfl|a
    ·cases q:bc B l with
     |false=>rfl
     |true=>exact absurd q d
    ·exact Lq.1 B a
   ·rcases cu.mp b with rfl|b
    ·exact .head _
    ·exact .tail _ (.tail _ b)
   ·rcases cu.mp h with rfl|h
    ·exact .head _
    ·exact .tail _ (.tail _ h)
theorem wJ:∀{L:List X},(∀g∈L,∀c∈L,dJ 6 g c=V)->(fE bc L).Pairwise (λg c=>bc c g=ar)
 |[],_=>.nil
 |f::p,lk=>by
  refine xl (wJ λg a c b=>lk g (.tail _ a) c<|.tail _ b) λg a c b=>lk g ?_ c ?_
  ·rcases cu.mp a with rfl|a
   ·exact .head _
   ·exact .tail _ ((h2 p).mem_iff.mp a)
  ·rcases cu.mp b with rfl|b
   ·exact .head _
   ·exact .tail _ ((h2 p).mem_iff.mp b)
def u_{L:List X}(m:k2 A)(u:L.Perm A)(e:L.Pairwise (λg c=>bc c g=ar)):L=fE bc A:=by
 refine Bs (λg c a b f l=>?_) e (wJ m.hJ) (u.trans (h2 A).symm);by_cases d:g=c
 ·exact d
 ·have E:=oc (m.hJ g (u.mem_iff.mp a) c<|(h2 A).mem_iff.mp b) d;rw[f,l]at E;cases E
def gK:X->Bool
 |.tup (.int _::_)=>V
 |.tup (.str _::_)=>V
 |_=>ar
def n1:X->Bool
 |.tup (.int _::_)=>V
 |_=>ar
def n8:X->Bool
 |.tup (.str _::_)=>V
 |_=>ar
def k7:X->Bool
 |.tup (.tup _::_)=>V
 |_=>ar
section
variable{Lx:bf}{I:a5}{O:a9}{Ls:aa->ag->Prop}{j:ag}
theorem Af{c R:Bool}(s:Nat)(t:O.units+s+2<bP){x:Bool->ag->Prop}:∀{A Lu:List X}{Q h:List aa}{a:Nat},eN s A Lu=V->R=decide (A.length<Lu.length)->c7 j.heap A Q->c7 j.heap Lu h->(c=V->a=0->∃n p,A=n::p/\∀g,n≠.tup g)->x (dS A Lu) j->KatLex Lx I O c R x (Q.zip h) a j
 |[],Lu,Q,h,a,_,b,y,z,_,q=>by
  rw[show Q=[] from y,b];exact kat_nil (by cases Lu<;>exact q)
 |v::A,[],Q,h,a,_,b,y,z,_,q=>by
  rw[show h=[] from z,b,List.zip_nil_right];exact kat_nil q
 |v::A,d::Lu,Q,h,a,e,w,y,z,C,q=>by
  rw[eN,cE]at e;let⟨r,@Q,rfl,m,F⟩:=y;let⟨D,@h,rfl,cF,cS⟩:=z;rw[List.zip_cons_cons];let@⟨G,Mh,H⟩:=mr e.1;refine kat_cons (g6 s G Mh ⋯ m cF Lx I _ _ ?_);rw[H];rw[dS]at q;cases u:X.beq v d with
  |true=>
   rw[u,aK rfl]at q;exact kat_yes (Af s t e.2 (w.trans<|t7.mpr uM) F cS (λ_ B=>⋯) q)
  |false=>
   rw[u,aM dg]at q;refine kat_no ?_;by_cases b:(c&&a==0)=V
   ·rw[b];rw[cE]at b;let⟨n,@p,B,J⟩:=C b.1 ⇑(b.2);cases B;rcases lh e.1 with L|⟨_,_,_,_,k,_⟩
    ·rcases L with ⟨M,i,k,o⟩|⟨f,l,k,o⟩
     ·cases k;cases o;let⟨@E,rfl⟩:=m;let⟨@LY,rfl⟩:=cF;rw[bc]at q;exact oneLt_int q
     ·cases k;cases o;let⟨@E,rfl⟩:=m;let⟨@LY,rfl⟩:=cF;rw[bc]at q;exact oneLt_str q
    ·exact absurd k (J _)
   ·rw[show (c&&a==0)=ar by simpa using b];exact kat_one _ _ (zY s e.1 t m cF Lx I _ _ q)
def vw{c:Bool}(m:k2 A)(h:c7 j.heap A Lz)(n:∀v∈A,∃p,v=.tup p)(x:c=V->∀v∈A,gK v=V)(R:O.units+9<bP):
  ew Lz.length (jH A) (dQ Lx I O (mH c)<|Lz.toArray.zip Lz.toArray) j:=by
 intro a i aH Lv y q;have S:=h.length;have b:=o2 (A:=A) (a:=a) ⋯;have d:=o2 (A:=A) (a:=i) ⋯;unfold jH at q;rw[z9 m b d]at q;let⟨@L6,o,z⟩:=h.get (i:=a) (r:=Lz[a]) ↥0;let⟨@L7,s,D⟩:=h.get (i:=i) (r:=Lz[i]) ↥0;rw[b6,o,b6,s]at q;rw[b6,o]at b;rw[b6,s]at d;let⟨@g,E⟩:=n L6 b;let⟨@k,F⟩:=n L7 d;subst E F;have lk:eN 5 g k=V:=m.hJ _ b _ d;unfold dQ;rw[rr rfl,rr rfl,b6,b6,dR Lv,dR y];show wpAny _ _ (keyLt' (mH c) Lz[a] Lz[i]) _ _ _;let⟨f,T,C,@U,G,H,al,J,t⟩:=z;let⟨l,am,LH,@an,L,L9,L_,M,u⟩:=D;rw[G,L];refine kat_lt (b:=c) H J L9 M ?_;have N:g.length=C.size:=by rw[t.length,eD]
 have P:k.length=LH.size:=by rw[u.length,eD]
 refine Af 5 ⋯ lk (by rw[N,P]) t u (λQ W=>?_) (by have w:aH (bc (.tup g)<|.tup k) j:=q;rw[bc]at w;exact w);have:=x Q _ b;unfold gK at this;split at this
 ·rename_i e;cases e;exact⟨_,_,rfl,λg B=>nomatch B⟩
 ·rename_i e;cases e;exact⟨_,_,rfl,λg B=>nomatch B⟩
 ·cases this
theorem BD:∀{A:List X}{Lz:List aa},c7 j.heap A Lz->(∀v∈A,∃R p,v=.tup (R::p))->∃aj,KatTups j.heap Lz aj/\aj.length=Lz.length/\
  ((∀v∈A,n1 v=V)->∀r∈aj,∃a E,r=aa.int a E)/\((∀v∈A,n8 v=V)->∀r∈aj,∃a E,r=aa.str a E)/\((∀v∈A,k7 v=V)->∀r∈aj,∃g i,r=aa.ref g/\j.heap.get? g=Z i/\i.cls=.type "tuple")
 |[],Lz,e,_=>by
  rw[show Lz=[] from e];exact⟨[],trivial,rfl,(λ_ W e=>nomatch e),(λ_ W e=>nomatch e),(λ_ W e=>nomatch e)⟩
 |v::A,Lz,e,k=>by
  let⟨r,@p,rfl,y,z⟩:=e;let⟨@aj,n,o,t,u,w⟩:=BD z λf c=>k f (.tail _ c);let⟨R,@Mc,rfl⟩:=k v (.head _);let⟨g,m,T,@s,rfl,x,C,F,G⟩:=y;let⟨l,@L,d,h,M⟩:=G;have H:T[0]?=Z l:=by
   rw[<-gi,d];rfl
  refine⟨l::aj,KatTups.cons x C F H n,by simp[o],λB D b=>?_,λB D b=>?_,λB D b=>?_⟩
  ·rcases cu.mp b with rfl|b
   ·have:=B _ (.head _);unfold n1 at this;split at this
    ·rename_i q;cases q;exact⟨_,h⟩
    ·cases this
   ·exact t (λf c=>B f<|.tail _ c) D b
  ·rcases cu.mp b with rfl|b
   ·have:=B _ (.head _);unfold n8 at this;split at this
    ·rename_i q;cases q;exact⟨_,h⟩
    ·cases this
   ·exact u (λf c=>B f<|.tail _ c) D b
  ·rcases cu.mp b with rfl|b
   ·have:=B _ (.head _);unfold k7 at this;split at this
    ·rename_i q;cases q;let⟨I,LZ,W,@W,J,L9,L_,W⟩:=h;exact⟨I,LZ,J,L9,L_⟩
    ·cases this
   ·exact w (λf c=>B f<|.tail _ c) D b
def lK(e:gK v=V):(n1 v=V\/n8 v=V)/\∃R p,v=.tup (R::p):=by
 unfold gK at e;split at e
 ·exact⟨.inl rfl,_,_,rfl⟩
 ·exact⟨.inr rfl,_,_,rfl⟩
 ·cases e
def zQ(e:k7 v=V):∃R p,v=.tup (R::p):=by
 unfold k7 at e;split at e
 ·exact⟨_,_,rfl⟩
 ·cases e
def Ih{s:Nat}(h:∀f∈A,∀l∈A,dJ s f l=V)(e:∀v∈A,gK v=V):(∀v∈A,n1 v=V)\/∀v∈A,n8 v=V:=by
 cases A with
 |nil=>exact .inl λv hd=>nomatch hd
 |cons f A=>
  have G:∀l∈f::A,∀{q:X->Bool},(q=n1\/q=n8)->q f=V->q l=V:=λl c {q} i a=>by
   have L:=h f (.head _) l c;have j:=(lK<|e l c).1;have g:=lK (e f<|.head _);let⟨R,p,rfl⟩:=g.2;let⟨F,E,rfl⟩:=(lK<|e l c).2;cases s with
   |zero=>cases L
   |succ s=>
    rw[dJ,eN,cE]at L;rcases i with rfl|rfl
    ·rcases lh L.1 with L|⟨_,_,_,_,b,_⟩
     ·rcases L with ⟨_,_,_,d⟩|⟨_,_,b,_⟩
      ·rw[d];rfl
      ·rw[b]at a;cases a
     ·rw[b]at a;cases a
    ·rcases lh L.1 with L|⟨_,_,_,_,b,_⟩
     ·rcases L with ⟨_,_,b,_⟩|⟨_,_,_,d⟩
      ·rw[b]at a;cases a
      ·rw[d];rfl
     ·rw[b]at a;cases a
  rcases (lK<|e f<|.head _).1 with B|B
  ·exact .inl λv hd=>G v hd (.inl rfl) B
  ·exact .inr λv hd=>G v hd (.inr rfl) B
end
section
variable{b:aE}
theorem bo.pick{h:aq}{LH:List ah}(e:bo h A LH):∀{u:List Nat},(∀n∈u,n<A.length)->bo h (u.map λa=>A.getD a .aR) (u.map λa=>LH.getD a .aR)
 |[],_=>rfl
 |n::u,b=>by
  let⟨@r,c,d⟩:=e.get (a:=n) (v:=A.getD n .aR) (by
   have:=b n (.head _);rw[b6,dR this];rfl)
  refine⟨r,_,?_,d,e.pick λi f=>b i<|.tail _ f⟩;rw[c3,b6,c];rfl
structure j8(A:List X):Prop where
 ord:tM A
 fst:(∀v∈A,gK v=V)\/(∀v∈A,k7 v=V)
structure lP(A:List X):Prop where
 ord:k2 A
 fst:(∀v∈A,gK v=V)\/(∀v∈A,k7 v=V)
def j8.w{A:List X}(m:j8 A):lP A:=⟨m.ord.w,m.fst⟩
def lP.tup(m:lP A):∀v∈A,∃p,v=.tup p:=λv hd=>by
 rcases m.fst with B|B
 ·let⟨R,p,d⟩:=(lK<|B v hd).2;exact⟨_,d⟩
 ·let⟨R,p,d⟩:=zQ (B v hd);exact⟨_,d⟩
def c7.rj{e Lq:a0}(n:∀c m,e.get? c=Z m->Lq.get? c=Z m){A:List X}{Q:List aa}(f:c7 e A Q):c7 Lq A Q:=f.keep λg m W W d W W=>n g m d
def uT{e:a0}{j:ag}(m:lP A)(z:2<=Lz.length)(h:c7 j.heap A Lz)(O:a9)(Ls:aa->ag->Prop)(x:fi->ag->Prop)(c:x (mH<|decide (∀v∈A,gK v=V)) j):
  wpAny (aP b.prog b.w) O (ui Lz.toArray) x Ls j:=by
 let⟨@aj,f,s,i,k,l⟩:=BD h (m.fst.elim (λB v hd=>(lK<|B v hd).2) λB v hd=>zQ<|B v hd);have t:=h.length;by_cases hf:∀v∈A,gK v=V
 ·rw[eH hf]at c;rcases Ih m.ord.hJ hf with hf|hf
  ·refine tw (T:=aa.type "int") f ⋯ (λr d=>?_) rfl ?_
   ·let⟨a,@E,rfl⟩:=i hf r d;exact sL rfl
   ·rw[show (aa.type "int" != aa.type "tuple")=V by decide];exact c
  ·refine tw (T:=aa.type "str") f ⋯ (λr d=>?_) rfl ?_
   ·let⟨a,@E,rfl⟩:=k hf r d;exact sL rfl
   ·rw[show (aa.type "str" != aa.type "tuple")=V by decide];exact c
 ·rw[es hf]at c;have n:=m.fst.resolve_left hf;refine tw (T:=aa.type "tuple") f ⋯ (λr d=>?_) rfl ?_
  ·let⟨g,@o,rfl,p,q⟩:=l n r d;have:Looks (aP b.prog b.w) j.heap (qq<|.ref g) o.cls:=(Looks.ld p).andThen .now;rw[q]at this;exact this
  ·rw[show (aa.type "tuple" != aa.type "tuple")=ar by decide];exact c
def wy(y:b.calm=V)(R:b.A.units+20<bP):dX b (.builtin "sorted") (λC h x=>∃(g:af) (A:List X) (LH:List ah),C=[.ref g]/\(cB b.K h g LH\/b3 b.K h g LH)/\bo h A LH/\lP A/\
  ∀L E,h L=Y->bo h (fE bc A) E->x (.ref L) (upd h L<|.lst E)):=by
 intro M j w h C LP x t p e;let⟨g,A,@LH,rfl,au,Lv,m,q⟩:=e;let⟨@D,rfl,B⟩:=ip p;cases B;have F:LH.length<=1000:=by rw[<-Lv.length];exact m.ord.kn
 have go:∀{LA:String}{Lz:List aa}{s:Nat}{c:aQ},(LA = "list" \/ LA = "tuple")->b1 LH Lz->j.heap.get? g=Z c->c.cls=.type LA->c.data=.seq Lz.toArray s->wpAny (aP b.prog b.w) b.A (call (.builtin "sorted") [.ref g]) (dD b M w x) b.bX j:=by
  intro LA Lz s c G f d aw i;have l:=Lv.ed t.aT f;have H:Lz.length=A.length:=l.length.symm;refine A8 y (jH A) (mH<|decide (∀v∈A,gK v=V)) t f G d aw i F (λz o Md n O Ls x J=>uT (e:=o) m z (l.rj n) O Ls x J) (λo Md n=>?_) (.inl (by have:=m.ord.kn;lia)) λu L k r aN=>?_
  ·refine vw (j:={j with heap:=o,toks:=Md}) m.ord (l.rj n) m.tup (λN=>?_) (by show b.A.units+1+1+9<bP;lia);exact fK N
  ·rw[H]at k r;have P:(u.toList.map λa=>A.getD a .aR)=fE bc A:=u_ m.ord (rM k) (sv m.ord k r);refine q L _ aN ?_;rw[<-P];exact Lv.pick λn Q=>gq.mp (k.mem_iff.mp Q)
 rcases au with au|au
 ·let⟨@Lz,f,u,W⟩:=t.list au;let⟨@c,d,aw,⟨@s,i⟩⟩:=u.isList;exact go (.inl rfl) f d aw i
 ·let⟨@Lz,f,u,W⟩:=t.tuple au;let⟨@c,d,aw,⟨@s,i⟩⟩:=u;exact go (.inr rfl) f d aw i
theorem AZ{h:aq}:∀{G:List (List X×ah)}{Lu:List (List X×af×aa)},d2 (λ(u:List X×ah) (q:List X×af×aa)=>u.1=q.1/\hh h u.1 q.2.1/\bC u.2 q.2.2) G Lu->
  bo h (G.map λu=>.tup u.1) (Lu.map λf=>ah.ref f.2.1)/\b1 (Lu.map λf=>ah.ref f.2.1) (Lu.map λf=>aa.ref f.2.1)
 |_,_,.nil=>⟨rfl,.nil⟩
 |_,_,.cons p E=>by
  let@⟨y,z⟩:=AZ E;exact⟨⟨_,_,rfl,p.2.1.2,y⟩,.cons rfl z⟩
def FA(a2:b.calm=V)(cr:b.A.units+20<bP):dX b (.builtin "sorted") (λC h x=>∃(v:af) (G:List (List X×ah)),C=[.ref v]/\h v=Z (.br G)/\j8 (G.map λu=>.tup u.1)/\
  ∀L E,h L=Y->bo h (fE bc<|G.map λu=>.tup u.1) E->x (.ref L) (upd h L<|.lst E)):=by
 intro M j w h C LP x t p e;let⟨v,@G,rfl,hd,g,q⟩:=e;let⟨@D,rfl,bd⟩:=ip p;cases bd;let@⟨B,T,⟨@Lu,rel,⟨m,be,@Mg,bi,bm,bn,bs,ak⟩⟩⟩:=t.aT v _ hd;let@⟨Lv,k⟩:=AZ rel;have S:g5 j.heap v (Lu.map λf=>aa.ref f.2.1) Mg:=⟨m,be,bi,bm,bn,by rw[bs,hZ];rfl⟩;generalize (Lu.map λf=>aa.ref f.2.1)=Lz at k S;generalize (Lu.map λf=>ah.ref f.2.1)=LH at Lv k;generalize cs:(G.map λu=>X.tup u.1)=A at Lv g q;have J:=Lv.ed t.aT k;have U:Lz.length=A.length:=J.length.symm;have kn:=g.ord.kn;have db:LH.length=Lz.length:=k.length;have al:Lz.length<=sizeLine:=dv ⋯ (show 1000<=sizeLine by decide);refine zt tc tF sz (zv _) ?B
 case B=>
  unfold bO.«sorted»;refine aD (m:=t_ "sorted" 1 1 _) (bk<|aD<|kdu_collect (A:=b.A.in1) (Jf T) (t.ok.hd a2) S al λLq Md Mi N am=>?_);have bv:Mi.toList=Lz:=by
   apply y4
   ·rw[eD];exact am.1
   ·intro a y z;have:=am.2 a Mi.toList[a] (by rw[<-gi];exact dR y);have this:Lz[a]?=Z Mi.toList[a]:=this;rw[dR z]at this;exact (Option.some.inj this).symm
  rw[bv];refine aD (oS ?_ al);have an:(Lq.push<|cL "list" Lz.toArray 0).get? Lq.objs.size=Z (cL "list" Lz.toArray 0):=df _ rfl;have bM:∀c m,j.heap.get? c=Z m->(Lq.push<|cL "list" Lz.toArray 0).get? c=Z m:=λc m d=>b4 _ (N c m d);have ap:aA b M w h {j with heap:=Lq,toks:=Md}:=t.kept N;have as:∀c m,j.heap.get? c=Z m->c≠Lq.objs.size:=λc m d=>c8 (bQ<|N c m d);refine aD (iq<|iS tj ⟨_,an,rfl⟩ uv ?l<|yC _)
  case l=>
   refine xB (j:={j with heap:=Lq.push (cL "list" Lz.toArray 0),toks:=Md}) (jH A) (mH<|decide (∀v∈A,gK v=V)) an
    (λz P Q x ca=>uT (b:=b) (e:=P) g.w z (J.rj λc m o=>Q c m (as c m o)<|bM c m o) _ _ x ca)
    (λP Q=>vw (j:={j with heap:=P,toks:=Md}) g.w.ord (J.rj λc m o=>Q c m (as c m o)<|bM c m o) g.w.tup (λcd=>fK cd) (by show b.A.units+1+1+9<bP;lia))
    (.inl ⋯) ⋯ λu z i a1 L_ ⟨ce,ch⟩=>⟨_,rfl,bk ⟨_,rfl,?_⟩⟩;have ci:h Lq.objs.size=Y:=ap.aT.fresh (bq _);have cl:∀c m,Lq.get? c=Z m->c≠Lq.objs.size:=λc m d=>c8 (bQ d);rw[U]at i a1;refine⟨.ref Lq.objs.size,upd h Lq.objs.size<|.lst<|u.toList.map λa=>LH.getD a .aR,?_,rfl,q _ _ ci ?_⟩
   ·refine ap.laid (LY:=Md) (λc D d=>L_ c D (cl c D d)<|b4 _ d) (bq _) ⟨?_,_,ce,?_,ch⟩
    ·rw[bF,eD,i.size];lia
    ·refine qK ↥0 λa r D y z=>?_;rw[eJ]at y z;cases R:u.toList[a]? with
     |none=>rw[R]at y;cases y
     |some n=>
      rw[R]at y z;cases y;cases z;have s:n<Lz.length:=by rw[U];exact gq.mp (i.mem_iff.mp<|nt R)
      let⟨@D,F,co⟩:=k.get (a:=n) (f:=LH[n]'⋯) (by simp[show n<LH.length by lia]);rw[dR s]at F;have F:=Option.some.inj F;simp only[List.getD,dR s,dR (show n<LH.length by lia),qF];rw[F];exact co
   ·rw[<-u_ g.w.ord (rM i) (sv g.w.ord i a1)];exact Lv.pick λn s=>gq.mp (i.mem_iff.mp s)
def pS(A:List X):Bool:=(decide (A.length<=1000)&&A.all (λg=>A.all λc=>dJ 6 g c)&&decide A.Nodup&&(A.all gK || A.all k7))
def n6:pS A=V↔j8 A:=by
 unfold pS;rw[cE,cE,cE,sh,q_,q_,jl,jl,jl];constructor
 ·rintro⟨⟨⟨y,z⟩,a⟩,b⟩;exact⟨⟨y,λg d c e=>jl.mp (z g d) c e,a⟩,b⟩
 ·rintro⟨⟨y,z,a⟩,b⟩;exact⟨⟨⟨y,λg d=>jl.mpr λc e=>z g d c e⟩,a⟩,b⟩
def i0(A:List X):Option ai:=(if pS A=V then Z (.lst<|fE bc A) else Y)
def i_:hB:=(λA=>match A with
 |[.lst f]=>match nQ f with
  |some LN=>tR [.lst f]
  |none=>i0 f
 |[.im (.tup f)]=>i0 f
 |[.br G]=>i0 (G.map λu=>.tup u.1)
 |_=>Y)
def sI{v:ai}(e:i0 A=Z v):j8 A/\v=.lst (fE bc A):=by
 unfold i0 at e;split at e
 ·rename_i d;cases e;exact⟨n6.mp d,rfl⟩
 ·cases e
theorem Bi{h:aq}:∀{G:List (List X×X)}{i:List (List X×ah)},eg h G i->(G.map λu=>X.tup u.1)=i.map λu=>X.tup u.1
 |_,_,.nil=>rfl
 |_,_,.cons p E=>by rw[c3,c3,Bi E,p.1]
def vc(g:b.calm=V)(k:b.A.units+20<bP):gv b (.builtin "sorted") i_:=by
 intro M j w h C LP x t p n;let⟨A,@v,m,d,q⟩:=n;unfold i_ at d;split at d
 ·rename_i f;split at d
  ·exact E3 g k M j w h C LP x t p ⟨_,v,m,d,q⟩
  ·let@⟨c,rfl⟩:=sI d;let⟨@r,rfl,⟨W,u,@LH,rfl,y,z,W⟩⟩:=fv m;exact wy g k M j w h _ LP x t p ⟨u,f,LH,rfl,.inl<|cB.of y,z,c.w,λL E aN e=>b2.l q aN e⟩
 ·rename_i f;let@⟨c,rfl⟩:=sI d;let⟨@r,rfl,o⟩:=fv m;let⟨u,@LH,rfl,y,z⟩:=o.i;exact wy g k M j w h _ LP x t p ⟨u,f,LH,rfl,.inr<|b3.of y,z,c.w,λL E aN e=>b2.l q aN e⟩
 ·rename_i G;let@⟨c,rfl⟩:=sI d;let⟨@r,rfl,⟨W,u,@i,rfl,y,z,W⟩⟩:=fv m;rw[Bi z]at c q;exact FA g k M j w h _ LP x t p ⟨u,i,rfl,y,c,λL E aN e=>b2.l q aN e⟩
 ·cases d
end
end L2
namespace PySem
open PySem.Sem (wp)
end PySem
namespace PySem
namespace F
end F
end PySem
namespace L2
open Spec PyProof.Rows PySem.W
variable{r D:aa}{O:a9}{j:ag}
def Gm:String->bO:=((⟨_,rfl⟩:{R:String->bO // R "max" = bO.«max» }).1)
def F0:String->iI->bO:=((⟨_,rfl⟩:{R:String->iI->bO // R "max" .Gt=bO.«max.loop» }).1)
section
variable{Lx:bf}{I:a5}{O:a9}{Ls:aa->ag->Prop}{j:ag}
def xY{k i:String}{L4:iI}(l:(toString k++toString ".loop" : String)=i)(U:builtinKind k=Y)(al:plainId k=V)(am:entryFor table k=Z (Gm k))(an:∀g c:aa,argsOk k ⟨[g,c],[]⟩)(a:plainId i=V)(q:entryFor table i=Z (F0 k L4)){g c:aa}{n:Bool}{x:aa->ag->Prop}(ap:O.handled=Y)(as:∀S:ag,(∀o m,j.heap.get? o=Z m->S.heap.get? o=Z m)->∀(x:aa->ag->Prop) (Ls:aa->ag->Prop),x (.bool n) S->wpAny (aP Lx I) O.in1 (lG L4 c g) x Ls S)(e:∀Lq Md,(∀o m,j.heap.get? o=Z m->Lq.get? o=Z m)->x (if n=V then c else g) {j with heap:=Lq,toks:=Md}):wpAny (aP Lx I) O (call (.builtin k) [g,c]) x Ls j:=by
 refine call_function_tree U al am (an _ _) ?_;show wpAny _ O.in1 (bO.Builtins.bindParams k ["key","default"] 0 ⟨[],[]⟩ >>= _) _ _ j;refine aD (tp (show bO.Builtins.bindParams k ["key","default"] 0 ⟨[],[]⟩=pure [Y,Y] from rfl) ?_);show wpAny _ O.in1 (vn [g,c] >>= _) _ _ j;refine aD (jB ?_);have A:(j.heap.push {cls:=.type "tuple",data:=.seq #[g,c]}).IsTuple j.heap.objs.size #[g,c]:=⟨_,df _ rfl,rfl,0,rfl⟩;refine aD (wpAny_pyIter_tuple A<|aD<|jB ?_);have p:(j.heap.push {cls:=.type "tuple",data:=.seq #[g,c]}).objs.size=j.heap.objs.size+1:=jn ..;have W:=Walks.tuple (prog:=Lx) (w:=I) (A:=O.in1) ap (j.heap.push {cls:=.type "tuple",data:=.seq #[g,c]}).objs.size j.heap.objs.size (by rw[p];exact c8 (p1 _)) #[g,c];rw[l];refine bk ⟨rC a _,?_⟩;have d5:((j.heap.push {cls:=.type "tuple",data:=.seq #[g,c]}).push {cls:=.type "tuple_iterator",data:=.fields #[.ref j.heap.objs.size,.int 0 0]}).IsTupleIter (j.heap.push {cls:=.type "tuple",data:=.seq #[g,c]}).objs.size j.heap.objs.size 0:=⟨_,df _ rfl,rfl,rfl⟩;have C:=A.push {cls:=.type "tuple_iterator",data:=.fields #[.ref j.heap.objs.size,.int 0 0]};have s:((j.heap.push {cls:=.type "tuple",data:=.seq #[g,c]}).push {cls:=.type "tuple_iterator",data:=.fields #[.ref j.heap.objs.size,.int 0 0]}).objs.size=j.heap.objs.size+2:=by rw[jn,p]
 have eu:∀o m,j.heap.get? o=Z m->((j.heap.push {cls:=.type "tuple",data:=.seq #[g,c]}).push {cls:=.type "tuple_iterator",data:=.fields #[.ref j.heap.objs.size,.int 0 0]}).get? o=Z m:=λo m d=>b4 _ (b4 _ d);rw[p]at W d5;rw[p,s];generalize ca:((j.heap.push {cls:=.type "tuple",data:=.seq #[g,c]}).push {cls:=.type "tuple_iterator",data:=.fields #[.ref j.heap.objs.size,.int 0 0]})=g2 at d5 C s eu ⊢;have D:(g2.push {cls:=.type "list",data:=.seq ([]:List aa).toArray}).get? (j.heap.objs.size+2)=Z {cls:=.type "list",data:=.seq ([]:List aa).toArray}:=by rw[<-s];exact df _ rfl
 have t:j.heap.objs.size+2∉[j.heap.objs.size+1]:=by simp
 have E:∀o∈[j.heap.objs.size+1,j.heap.objs.size],j.heap.objs.size+2≠o:=λo b B=>by
  simp only[cu,lZ,lu]at b;rcases b with d|d
  ·rw[d]at B;exact absurd B (jR<|p1 _)
  ·rw[d]at B;exact absurd B (jR (Nat.lt_add_of_pos_right ∅))
 have f:∀o m,j.heap.get? o=Z m->o∉[j.heap.objs.size+1]/\o≠j.heap.objs.size+2:=λo m d=>by
  have lt:=bQ d;refine⟨λB=>?_,c8<|dn lt<|ov _ _⟩;rw[dk.mp B]at lt;exact fI _ (Nat.lt_of_succ_lt lt)
 have F:∀(Lq:a0) (Md:Nat) (h:aa) (G:Nat),(∀o m,j.heap.get? o=Z m->Lq.get? o=Z m)->Lq.get? (j.heap.objs.size+2)=Z {cls:=.type "list",dict:=Y,data:=.seq #[h,h] G,slots:=#[]}->
   Lq.IsTupleIter (j.heap.objs.size+1) j.heap.objs.size 2/\Lq.IsTuple j.heap.objs.size #[g,c]->h=(if n=V then c else g)->
   codeAny (aP Lx I) O (.builtin i ⟨[.ref (j.heap.objs.size+1),.none,.ref<|j.heap.objs.size+2],[]⟩) (wants x Ls) {j with heap:=Lq,toks:=Md}:=by
  intro Lq Md h G L9 H J sk;refine sb q ?_;rw[tO a _];show wpAny _ O.in1 (n4 (.ref<|j.heap.objs.size+2) >>= _) _ _ _;refine aD (hg (s:={j with heap:=Lq,toks:=Md}) H rfl ?_);show wpAny _ O.in1 (tryCatch (hN<|.ref<|j.heap.objs.size+1) _ >>= _) _ _ _;refine aD (qb<|W.done {j with heap:=Lq,toks:=Md} _ _ J λz a1 L=>?_);have a2:=L _ _ t H;show wpAny _ O.in1 (updateSeq (j.heap.objs.size+2) (λ_=>#[]) >>= _) _ _ _;refine aD (vq a2 rfl<|aD<|jI<|bk ?_);show x h _;rw[sk];exact e _ a1 λo m d=>(gm _ _<|d3 (f o m d).2).trans (L o m (f o m d).1 (L9 o m d))
 refine sb q ?_;rw[tO a _];show wpAny _ O.in1 (n4 (.ref<|j.heap.objs.size+2) >>= _) _ _ _;refine aD (hg (s:={j with heap:=g2.push {cls:=.type "list",data:=.seq ([]:List aa).toArray} }) D rfl ?_);show wpAny _ O.in1 (tryCatch (hN<|.ref<|j.heap.objs.size+1) _ >>= _) _ _ _;refine aD (qb (W.item 0 {j with heap:=g2.push {cls:=.type "list",data:=.seq ([]:List aa).toArray} } _ _ ↥0 ⟨let ⟨m,bd,be⟩:=d5;⟨m,b4 _ bd,be⟩,C.push _⟩ λr y cd u bi L9=>?_));cases u;have M:=L9 _ _ t D;show wpAny _ O.in1 (updateSeq (j.heap.objs.size+2) (λ_=>#[g,g]) >>= _) _ _ _;refine aD (vq M rfl ?_);rw[l];refine bk ⟨rC a _,sb q ?_⟩;have N:=oN (aQ.mapSeq<|λ_=>(#[g,g]:Array aa)) M rfl;have bm:=W.frame _ _ (y.update (j.heap.objs.size+2)<|aQ.mapSeq<|λ_=>(#[g,g]:Array aa)) bi λo b m d=>(gm _ _<|E o b).trans d;have bn:∀o m,j.heap.get? o=Z m->(y.update (j.heap.objs.size+2)<|aQ.mapSeq<|λ_=>(#[g,g]:Array aa)).get? o=Z m:=λo m d=>(gm _ _<|d3 (f o m d).2).trans (L9 o m (f o m d).1 (b4 _<|eu o m d));rw[tO a _];show wpAny _ O.in1 (n4 (.ref<|j.heap.objs.size+2) >>= _) _ _ _;refine aD (hg N rfl ?_);show wpAny _ O.in1 (tryCatch (hN<|.ref<|j.heap.objs.size+1) _ >>= _) _ _ _;refine aD (qb (W.item 1 _ _ _ ↥0 bm λr bs P u Q R=>?_));cases u;have v:=R _ _ t N;have w:∀o m,j.heap.get? o=Z m->bs.get? o=Z m:=λo m d=>R o m (f o m d).1 (bn o m d);show wpAny _ O.in1 (tryCatch (holding [c,c]<|lG L4 c g >>= _) _ >>= _) _ _ _;refine aD (qb<|iq<|aD<|as _ w _ _ ?_);refine aD (iq<|j0 ?_);refine aD (jI<|bk ?_);cases T:n with
 |true=>
  simp only[jV];refine aD (vq v rfl<|aD<|jI ?_);rw[l];have bv:=oN (aQ.mapSeq<|λ_=>(#[c,c]:Array aa)) v rfl;refine bk ⟨rC a _,F _ P c _ (λo m d=>(gm _ _<|d3 (f o m d).2).trans<|w o m d) bv (W.frame _ _ _ Q λo b m d=>(gm _ _<|E o b).trans d) (by rw[T];rfl)⟩
 |false=>
  simp only[hM,gD];refine aD (jI ?_);rw[l];exact bk ⟨rC a _,F _ P g _ w v Q (by rw[T];rfl)⟩
end
section
variable{Lx:bf}{I:a5}{O:a9}{Ls:aa->ag->Prop}{j:ag}{g c:aa}{n:Bool}{x:aa->ag->Prop}
def Fx(a:O.handled=Y)(b:∀S:ag,(∀o m,j.heap.get? o=Z m->S.heap.get? o=Z m)->∀(x:aa->ag->Prop) (Ls:aa->ag->Prop),x (.bool n) S->wpAny (aP Lx I) O.in1 (lG .Gt c g) x Ls S)(e:∀Lq Md,(∀o m,j.heap.get? o=Z m->Lq.get? o=Z m)->x (if n=V then c else g) {j with heap:=Lq,toks:=Md}):wpAny (aP Lx I) O (call (.builtin "max") [g,c]) x Ls j:=
 xY ∅ F.kind_max F.plain_max F.entry_max F.args_max2 F.plain_max_loop F.entry_max_loop a b e
def Cx(a:O.handled=Y)(b:∀S:ag,(∀o m,j.heap.get? o=Z m->S.heap.get? o=Z m)->∀(x:aa->ag->Prop) (Ls:aa->ag->Prop),x (.bool n) S->wpAny (aP Lx I) O.in1 (lG .Lt c g) x Ls S)(e:∀Lq Md,(∀o m,j.heap.get? o=Z m->Lq.get? o=Z m)->x (if n=V then c else g) {j with heap:=Lq,toks:=Md}):wpAny (aP Lx I) O (call (.builtin "min") [g,c]) x Ls j:=
 xY ∅ F.kind_min F.plain_min F.entry_min F.args_min2 F.plain_min_loop F.entry_min_loop a b e
end
def pP(O:a9)(j:ag)(l f:aa)(n:Bool):Prop:=(∀(Lx:bf) (I:a5) (Ls:aa->ag->Prop) (x:aa->ag->Prop),x (.bool n) j->wpAny (aP Lx I) O (lG .Gt l f) x Ls j)
section
open PySem.SeqAt
open PySem.AutoSeq1 (wpAny_loadPart')
open PySem.MeetsSeq PySem.MeetsSeq2 PySem.MeetsSeq3
def EX(L c:af)(T b:Array aa)(s x:Nat)(A B:Option af)(bx C:Array (Option aa))(LO:List (Bool×Bool))(Q:LO.length=min T.size b.size):
  Meets (bO.«tuple.__gt__» ⟨[.ref L,.ref c],[]⟩)
   (λO Lp j=>j.heap.get? L=Z {cls:=.type "tuple",dict:=A,data:=.seq T s,slots:=bx}/\j.heap.get? c=Z {cls:=.type "tuple",dict:=B,data:=.seq b x,slots:=C}/\
    (∀i (y:i<T.size) (z:i<b.size) (o:i<LO.length),EqAt O.in1 j T[i] b[i] (LO[i]).1/\((LO[i]).1=ar->pP O.in1 j T[i] b[i] (LO[i]).2))/\
    Lp (.ok<|.ret<|.bool<|gg (decide (b.size<T.size)) LO) j):=
 .of_wp λLx I O Lp j e=>by
  let⟨k,F,v,Md,LM⟩:=j;let@⟨D,E,G,e⟩:=e;have R:=vZ;have q:(T.toList.zip b.toList).length=min T.size b.size:=by simp
  wp_walk using wpAny_loadPart' D,wpAny_loadPart' E,nc _ (λcU c S=>c.1=Y/\S=⟨k,F,v,Md,LM⟩/\∃a,cU=(T.toList.zip b.toList).drop a/\
   Lp (.ok<|.ret<|.bool<|gg (decide (b.size<T.size))<|LO.drop a) ⟨k,F,v,Md,LM⟩) _
  case turn=>
   rintro⟨l,f⟩ cU c S ⟨p,rfl,a,g,h⟩;have r:a<(T.toList.zip b.toList).length:=by
    rcases mG a (T.toList.zip b.toList).length with Lq|Lq
    ·exact Lq
    ·rw[mD Lq]at g;cases g
   have U:a<min T.size b.size:=q ▸ r;have y:a<T.size:=⋯
   have z:a<b.size:=⋯
   have o:a<LO.length:=⋯
   rw[ir r]at g;injection g with t H;have J:l=T[a]:=by have:=congrArg Prod.fst t;simpa using this
   have M:f=b[a]:=by have:=congrArg Prod.snd t;simpa using this
   subst J M;rw[ir o]at h;let@⟨u,w⟩:=G a y z o;generalize LO[a]=N at h u w;let⟨d,n⟩:=N;refine aD (u Lx I _ _ ?_);cases d with
   |true=>
    have m:Lp (.ok<|.ret<|.bool<|gg (decide (b.size<T.size))<|LO.drop<|a+1) ⟨k,F,v,Md,LM⟩:=h
    wp_walk
    exact⟨rfl,rfl,a+1,H,m⟩
   |false=>
    have m:Lp (.ok<|.ret<|.bool n) ⟨k,F,v,Md,LM⟩:=h;have P:=w rfl Lx I
    wp_walk using P
    exact⟨_,rfl,by simpa using m⟩
  case fin=>
   rintro⟨cF,cS⟩ S ⟨p,rfl,a,g,h⟩;simp only at p;subst p;have al:min T.size b.size<=a:=by
    rcases mG a (T.toList.zip b.toList).length with Lq|Lq
    ·rw[ir Lq]at g;cases g
    ·exact q ▸ Lq
   rw[mD ⋯]at h;have m:Lp (.ok<|.ret<|.bool<|decide (b.size<T.size)) ⟨k,F,v,Md,LM⟩:=h
   wp_walk
   exact⟨_,rfl,by simpa [bO.Tuple.tupleCompareSizes] using m⟩
  case h=>
   exact⟨rfl,rfl,0,rfl,by simpa using e⟩
end
def iN(A Lu:List X):List (Bool×Bool):=((A.zip Lu).map λu=>(bV u.1 u.2,bc u.2 u.1))
def D9(g c:X):X.beq g c=X.beq c g:=by
 rw[rT,X.beq_iff,X.beq_iff];exact⟨λe=>e.symm,λe=>e.symm⟩
theorem wx:∀{s:Nat}{A Lu:List X},eN s A Lu=V->gg (decide (Lu.length<A.length)) (iN A Lu)=dS Lu A
 |_,[],[],_=>rfl
 |s,g::p,c::E,e=>by
  rw[eN,cE]at e;show (if bV g c=V then gg (decide (E.length+1<p.length+1)) (iN p E) else bc c g)=dS (c::E) (g::p);rw[dS,(mr e.1).2.2,<-wx e.2,D9,t7.mpr uM]
 |_,[],_::_,_=>rfl
 |_,_::_,[],_=>rfl
def Cv{a i:Int}(b:cD j.heap (.int a) D)(c:cD j.heap (.int i) r):pP O j D r (bc (.int i)<|.int a):=by
 let⟨@E,rfl⟩:=b;let⟨@LY,rfl⟩:=c;intro Lx I Ls x q;rw[bc]at q;exact (Gw q:wpAny (aP Lx I) O (dz .Gt (.int a E)<|.int i LY) x Ls j)
def xF{f l:X}(L:uu f l)(b:cD j.heap f D)(e:cD j.heap l r):pP O j D r (bc l f):=by
 rcases L with ⟨a,i,rfl,rfl⟩|⟨g,c,rfl,rfl⟩
 ·exact Cv b e
 ·let⟨E,rfl⟩:=b;let⟨LY,rfl⟩:=e;intro Lx I Ls x q;rw[bc]at q;exact richCompare_gives (op:=.Gt) (tx j g E) (tx j c LY) PySem.F.slot_str_gt PySem.F.entry_str_gt (PySem.F.args_str_gt_2 _ _) (PySem.gives_str_gt g c E LY) (λd=>nomatch d) q
def G0(s:Nat):∀{O:a9}{f l:X}{D r:aa},dJ s f l=V->O.units+s+2<bP->cD j.heap f D->cD j.heap l r->pP O j D r (bc l f):=by
 induction s with
 |zero=>
  intro O f l D r e P a b;rcases lh e with L|⟨H,_,_,d,_⟩
  ·exact xF L a b
  ·cases d
 |succ s Q=>
  intro O f l D r e P a b;rcases lh e with L|⟨H,A,Lu,d,rfl,rfl,e⟩
  ·exact xF L a b
  cases d;let⟨g,m,Lz,@H,rfl,y,z,h,k⟩:=a;let⟨c,LZ,J,@R,rfl,n,o,p,t⟩:=b;let⟨cls,S,data,bx⟩:=m;let⟨a1,T,a2,U⟩:=LZ;simp only at z h o p;subst z h o p;have u:A.length=Lz.size:=by rw[k.length,eD]
  have v:Lu.length=J.size:=by rw[t.length,eD]
  intro Lx I Ls x q;rw[bc,<-wx e,u,v]at q;have al:(iN A Lu).length=min Lz.size J.size:=by rw[iN,bF,y9,u,v]
  refine BH (op:=.Gt) ⟨_,y,rfl⟩ ⟨_,n,rfl⟩ PySem.F.slot_tuple_gt PySem.F.entry_tuple_gt (PySem.F.args_tuple_gt_2 _ _) (EX g c Lz J H R S T bx U (iN A Lu) al)
   ⟨y,n,λi am an ap=>?_,show aa.bool (gg (decide (J.size<Lz.size))<|iN A Lu)≠aa.notImplemented/\x (.bool<|gg (decide (J.size<Lz.size))<|iN A Lu) j from ⟨(λf=>nomatch f),q⟩⟩ ⋯;let⟨@L6,w,C⟩:=k.get (i:=i) (r:=Lz[i]) (by rw[gi];simp[am]);let⟨@L7,E,G⟩:=t.get (i:=i) (r:=J[i]) (by rw[gi];simp[an]);have lk:=uI e w E;have M:=mr lk;have as:(iN A Lu)[i]=(bV L6 L7,bc L7 L6):=by
   have:(iN A Lu)[i]?=Z (bV L6 L7,bc L7 L6):=by
    rw[iN,eJ,(w_ (z:=(L6,L7))).mpr ⟨w,E⟩];rfl
   rw[dR ap]at this;exact Option.some.inj this
  rw[as];exact⟨g6 s M.1 M.2.1 (by show O.units+1+s+1<bP;lia) C G,λ_=>Q lk (by show O.units+1+s+2<bP;lia) C G⟩
section
variable{b:aE}
def JD(f:b.calm=V)(k:b.A.units+20<bP):dX b (.builtin "max") (λC h x=>∃(v d:X) (r D:ah),C=[r,D]/\dJ 6 d v=V/\b9 h v r/\b9 h d D/\x (if bc v d=V then D else r) h):=by
 intro M j w h C LP x t p e;let⟨v,d,r,@D,rfl,lk,y,z,q⟩:=e;let⟨l,@o,rfl,a,c⟩:=p8 p;refine Fx (n:=bc v d) (t.ok.hd f) (λS n x Ls i=>?_) λLq Md n=>⟨if bc v d=V then D else r,h,t.kept n,?_,q⟩
 ·exact G0 6 lk (by show b.A.units+1+6+2<bP;lia) ((z.ed t.aT c).keep λg m W W d W W=>n g m d) ((y.ed t.aT a).keep λg m W W d W W=>n g m d) b.prog b.w Ls x i
 ·split
  ·exact c
  ·exact a
def D6(f:b.calm=V)(k:b.A.units+20<bP):dX b (.builtin "min") (λC h x=>∃(v d:X) (r D:ah),C=[r,D]/\dJ 6 d v=V/\b9 h v r/\b9 h d D/\x (if bc d v=V then D else r) h):=by
 intro M j w h C LP x t p e;let⟨v,d,r,@D,rfl,lk,y,z,q⟩:=e;let⟨l,@o,rfl,a,c⟩:=p8 p;refine Cx (n:=bc d v) (t.ok.hd f) (λS n x Ls i=>?_) λLq Md n=>⟨if bc d v=V then D else r,h,t.kept n,?_,q⟩
 ·exact zY 6 lk (by show b.A.units+1+6+2<bP;lia) ((z.ed t.aT c).keep λg m W W d W W=>n g m d) ((y.ed t.aT a).keep λg m W W d W W=>n g m d) b.prog b.w Ls x i
 ·split
  ·exact c
  ·exact a
def nA:hB:=(λA=>match A with
 |[.im (.int a),.im<|.int i]=>tf [.im (.int a),.im<|.int i]
 |[.im (.tup g),.im<|.tup c]=>if dJ 6 (.tup c) (.tup g)=V then Z (.im<|if bc (.tup g) (.tup c)=V then .tup c else .tup g) else Y
 |_=>Y)
def nY:hB:=(λA=>match A with
 |[.im (.int a),.im<|.int i]=>uG [.im (.int a),.im<|.int i]
 |[.im (.tup g),.im<|.tup c]=>if dJ 6 (.tup c) (.tup g)=V then Z (.im<|if bc (.tup c) (.tup g)=V then .tup c else .tup g) else Y
 |_=>Y)
def E6(e:b.calm=V)(k:b.A.units+20<bP):gv b (.builtin "max") nA:=by
 intro M j w h C LP x t p l;let⟨A,@v,f,d,q⟩:=l;unfold nA at d;split at d
 ·exact D3 e M j w h C LP x t p ⟨_,v,f,d,q⟩
 ·split at d
  ·rename_i g c lk;cases d;let⟨r,@D,rfl,y,z⟩:=sa f;refine JD e k M j w h _ LP x t p ⟨_,_,r,D,rfl,lk,y,z,b2.i q ?_⟩;split
   ·exact z
   ·exact y
  ·cases d
 ·cases d
def C1(e:b.calm=V)(k:b.A.units+20<bP):gv b (.builtin "min") nY:=by
 intro M j w h C LP x t p l;let⟨A,@v,f,d,q⟩:=l;unfold nY at d;split at d
 ·exact FL e M j w h C LP x t p ⟨_,v,f,d,q⟩
 ·split at d
  ·rename_i g c lk;cases d;let⟨r,@D,rfl,y,z⟩:=sa f;refine D6 e k M j w h _ LP x t p ⟨_,_,r,D,rfl,lk,y,z,b2.i q ?_⟩;split
   ·exact z
   ·exact y
  ·cases d
 ·cases d
end
mutual
def p5:X->nV
 |.int a=>.int a
 |.aF c=>.bool c
 |.str f=>.str f
 |.tup A=>.tuple (nT A)
 |_=>.none
def nT:List X->List nV
 |[]=>[]
 |v::p=>p5 v::nT p
end
mutual
theorem GI{e:a0}:∀{s:Nat}{v:X}{D:aa},X.bE s v=V->cD e v D->Reads e D (p5 v) []
 |_,.aR,D,_,d=>by cases (show D=.none from d);exact .none
 |_,.aF c,D,_,d=>by cases (show D=.bool c from d);exact .bool c
 |_,.int a,D,_,d=>by let⟨@E,rfl⟩:=d;exact .int a E
 |_,.str f,D,_,d=>by let⟨@E,rfl⟩:=d;exact .str f E
 |s+1,.tup A,D,n,d=>by
  let⟨g,m,T,@H,rfl,y,z,b,h⟩:=d;exact .tuple y z b (Ah (s:=s) n h)
 |0,.tup A,D,n,d=>by cases n
 |s,.fn g,D,n,d=>by cases s<;>cases n
 |s,.aN g,D,n,d=>by cases s<;>cases n
 |s,.fd,D,n,d=>by cases s<;>cases n
theorem Ah{e:a0}:∀{s:Nat}{A:List X}{LP:List aa},X.cY s A=V->c7 e A LP->ReadsAll e LP (nT A) []
 |_,[],LP,_,d=>by rw[show LP=[] from d];exact .nil
 |s,v::A,LP,n,d=>by
  let⟨r,@p,rfl,y,z⟩:=d;rw[X.cY,cE]at n;exact .cons (GI n.1 y) (Ah n.2 z)
end
mutual
theorem Ed:∀v:X,nV.hasDict (p5 v)=ar
 |.aR=>rfl
 |.aF _=>rfl
 |.int _=>rfl
 |.str _=>rfl
 |.fn _=>rfl
 |.aN _=>rfl
 |.fd=>rfl
 |.tup A=>wo A
theorem wo:∀A:List X,nV.hasDictAll (nT A)=ar
 |[]=>rfl
 |v::p=>by
  show (nV.hasDict (p5 v) || PyData.hasDictAll (nT p))=ar;rw[Ed v,wo p];rfl
end
end L2
namespace G
open L2
variable{o c g:Int×Int}{LL:List (Int×Int)}{e:ai}{s:Nat}
def DI:bI:=((bZ (dN (bM<|aC kK (ab<|aC bD (ay 0)<|ab<|aw<|.int 0)<|ab<|aw<|.int 0) (bZ (cX 2<|aC eE (ab<|aC bD (ay 0)<|ab<|aw<|.int 0)<|ay 1)<|bZ (fp (aC kr (ab<|aC bD (ay 0)<|ab<|aw<|.int 0)<|ay 1)<|jg 0 (aw<|.int 0) jo)<|dt<|gs 2) e5)<|bZ (fp (aC c1 (ab<|aC bD (ay 0)<|ab<|aw<|.int 2)<|ab<|aw<|.int 1)<|jg 0 (aw<|.int 2) jo)<|bZ (cX 3<|aC eE (ab<|aC dE (ab<|aC c1 (ab<|aC bD (ay 0)<|ab<|aw<|.int 1)<|ab<|aC dE (ab<|aC bD (ay 0)<|ab<|aw<|.int 2)<|ab<|aw<|.int 104729)<|ab<|aw<|.int 48271)<|ab<|aw<|.int 2305843009213693951)<|bZ (fp (aC eE (ab<|aC dE (ay 3)<|ab<|aC c1 (ab<|aC eE (ay 3)<|ab<|aw<|.int 1009)<|ab<|aw<|.int 69621)<|ab<|aw<|.int 2305843009213693951)<|jg 0 (aw<|.int 1) jo)<|dt<|aC eE (ab<|aC kr (ab<|aC bD (ay 0)<|ab<|aw<|.int 1)<|ab<|aw<|.int 1000003)<|ay 1))
def oa:dm:=(dB 2 4 [0,1] DI)
def Fy:bI:=((dt<|e7<|ao (ab<|cn<|ao (ab<|aC h4 (ab<|aC bD (ay 0)<|ab<|aw<|.int 0)<|ab<|aw<|.int 1)<|ao (ab<|aC bD (ay 0)<|ab<|aw<|.int 1) aJ)<|ao (ab<|cn<|ao (ab<|aC bD (ay 0)<|ab<|aw<|.int 0)<|ao (ab<|aC h4 (ab<|aC bD (ay 0)<|ab<|aw<|.int 1)<|ab<|aw<|.int 1) aJ)<|ao (ab<|cn<|ao (ab<|aC bD (ay 0)<|ab<|aw<|.int 0)<|ao (ab<|aC c1 (ab<|aC bD (ay 0)<|ab<|aw<|.int 1)<|ab<|aw<|.int 1) aJ)<|ao (ab<|cn<|ao (ab<|aC c1 (ab<|aC bD (ay 0)<|ab<|aw<|.int 0)<|ab<|aw<|.int 1)<|ao (ab<|aC bD (ay 0)<|ab<|aw<|.int 1) aJ) aJ))
def Ec:dm:=(dB 1 1 [0] Fy)
def Kg:bI:=((bZ (cX 4<|aC bD (ab<|bH 1 G.Ec<|ao (ab<|aC bD (ay 2)<|ab<|bH 2 G.oa<|ao (ay 0)<|ao (ab<|cI fB<|ao (ay 2) aJ) aJ) aJ)<|ab<|bH 2 G.oa<|ao (ay 0)<|ao (ab<|aw<|.int 4) aJ)<|dN (eG (bM<|aC jw (ay 4)<|ay 2)<|eG (bM<|hy e0 e0 (ab<|aw<|.int 0) (ab<|aC bD (ay 4)<|ab<|aw<|.int 0)<|ab<|aw<|.int 24)<|bM<|hy e0 e0 (ab<|aw<|.int 0) (ab<|aC bD (ay 4)<|ab<|aw<|.int 1)<|ab<|aw<|.int 24) (jS<|ja oC 2 iF<|ao (ay 4) aJ) e5))
def Dq:bI:=((bZ (cX 2<|e7<|ao (ab<|cn<|ao (ab<|aw<|.int 12)<|ao (ab<|aw<|.int 12) aJ) aJ)<|bZ (gQ (gH<|ao (ab<|bH 2 G.oa<|ao (ay 0)<|ao (ay 1) aJ) aJ) (cf 3) G.Kg)<|dt<|gs 2))
def GZ:dm:=(dB 2 5 [0,1] Dq)
def DT:bI:=((jS<|ja oC 5 GF<|ao (ab<|bH 2 G.oa<|ao (ay 0)<|ao (ab<|cI fB<|ao (ay 5) aJ) aJ) aJ))
def Ca:aB ai:=((gs 0))
def Ho:aB Bool:=((bM<|aC en (ab<|aC dE (ab<|aC eE (ab<|aC bD (ay 0)<|ab<|aw<|.int 0)<|ab<|aw<|.int 2)<|ab<|aC eE (ab<|aC eE (ab<|aC bD (ay 0)<|ab<|aw<|.int 1)<|ab<|aw<|.int 3)<|ab<|aw<|.int 2)<|ab<|aw<|.int 0))
def aL(u:Int×Int):X:=(.tup [.int u.1,.int u.2])
abbrev cg(LO:List (Int×Int)):ai:=.im (.tup<|LO.map aL)
abbrev dY(LO:List (Int×Int)):ai:=.lst (LO.map aL)
abbrev eY(v j E:Int):ai:=.lst [.int v,.int j,.int E]
def et(s:Nat)(e:ai):Prop:=(∃v j E,e=eY v j E/\0<=v/\0<=j/\j<2^62/\0<=E/\E+s<2^40)
def et.mono{H:Nat}(f:et s e)(d:H<=s):et H e:=by
 let⟨v,j,@E,rfl,y,z,a,b,c⟩:=f;exact⟨v,j,E,rfl,y,z,a,b,⋯⟩
def et.lst(f:et s e):∃q,e=.lst q:=by
 let⟨v,j,@E,rfl,W⟩:=f;exact⟨_,rfl⟩
def z2(u:Int×Int):List (Int×Int):=([(u.1-1,u.2),(u.1,u.2-1),(u.1,u.2+1),(u.1+1,u.2)])
def eV(u:Int×Int):List X:=([.int u.1,.int u.2])
def wC(u:Int×Int):aL u=.tup (eV u):=rfl
def w2(e:eV g=eV c):g=c:=by
 unfold eV at e;simp at e;exact pG e.1 e.2
def vx(e:aL g=aL c):g=c:=by
 rw[wC,wC]at e;exact w2 (by injection e)
def HM(u:Int×Int):X.keys 7 (eV u)=V:=rfl
def oM:X->Int×Int
 |.tup [.int g,.int c]=>(g,c)
 |_=>(0,0)
def zO(u:Int×Int):oM (aL u)=u:=rfl
def xH(u:Int×Int):X.bE 8 (aL u)=V:=rfl
theorem w8:∀LO:List (Int×Int),X.cY 8 (LO.map aL)=V
 |[]=>rfl
 |u::p=>by rw[c3,X.cY,xH,w8 p];rfl
def sM(g c:Int×Int):bV (aL g) (aL c)=decide (g=c):=by
 show ((g.1==c.1)&&((g.2==c.2)&&V))=_;let⟨a,b⟩:=g;let⟨cF,cS⟩:=c;by_cases y:a=cF<;>by_cases z:b=cS<;>simp[y,z]
def C3(LO:List (Int×Int))(o:Int×Int):((LO.map aL).any λf=>bV f<|aL o)=decide (o∈LO):=by
 rw[y7,rT,wH,q_];constructor
 ·rintro⟨f,a,d⟩;have:decide (f=o)=V:=by rw[<-sM];exact d
  rw[<-fK this];exact a
 ·intro e;refine⟨o,e,?_⟩;show bV (aL o) (aL o)=V;rw[sM];exact eH rfl
theorem wR:∀(L:List X) (LL:List (Int×Int)),(∀f∈L,f∈LL.map aL)->L=(L.map oM).map aL
 |[],_,_=>rfl
 |f::L,LL,e=>by
  let⟨@u,W,d⟩:=fN.mp (e f<|.head _);rw[c3,c3,<-wR L LL λl a=>e l<|.tail _ a,<-d,zO]
def Ei{L:List X}(e:L.Perm (LL.map aL)):∃a:List (Int×Int),a.Perm LL/\L=a.map aL:=by
 refine⟨L.map oM,?_,wR L LL λf b=>e.mem_iff.mp b⟩;have:=yI oM e;rw[hZ]at this;have d:(oM ∘ aL:Int×Int->Int×Int)=id:=funext zO;rw[d,yT]at this;exact this
def B_(ak:LL.Nodup)(a:LL.length<=1000):j8 (LL.map aL):=by
 refine⟨⟨by rw[bF];exact a,λg b c e=>?_,?_⟩,.inl λv hd=>?_⟩
 ·let⟨@f,W,rfl⟩:=fN.mp b;let⟨@l,W,rfl⟩:=fN.mp e;rfl
 ·exact B0 aL (λg c s d=>s<|vx d) ak
 ·let⟨@f,W,rfl⟩:=fN.mp hd;rfl
def CN{G:List (List X×X)}{n:List X}:(eB G n).isSome=G.any λu=>decide (u.1=n):=by
 unfold eB;rw[p3,List.isSome_find?]
def bL(LL:List (Int×Int)):List (List X×X):=(LL.map λo=>(eV o,.aF V))
def sq(LL:List (Int×Int))(o:Int×Int):((bL LL).any λu=>decide (u.1=eV o))=decide (o∈LL):=by
 unfold bL;rw[y7,rT,wH,q_];constructor
 ·rintro⟨f,a,d⟩;have:eV f=eV o:=fK d;rw[<-w2 this];exact a
 ·intro e;exact⟨o,e,eH rfl⟩
def wU(LL:List (Int×Int))(o:Int×Int):(eB (bL LL)<|eV o).isSome=decide (o∈LL):=by rw[CN,sq]
def J9(e:o∉LL):jZ (bL LL) (eV o) (.aF V)=bL (LL++[o]):=by
 unfold jZ;rw[aM (by rw[sq];simpa using e)];unfold bL;rw[ic];rfl
def IX{L0:Type}{a:List L0}(e:a≠[]):∃b I,a=b++[I]:=⟨a.dropLast,a.getLast e,(List.dropLast_concat_getLast e).symm⟩
def zH{Q:List (Int×Int)}{a:Int}(b:0<=a)(e:Q[a.toNat]?=Z o):dM (Q.map aL) a=Z (aL o):=xR b (by rw[eJ,e];rfl)
def HV(LO:List (Int×Int))(o:Int×Int):hD (aL o) (dY LO)=Z (decide (o∈LO)):=by
 rw[IZ,xH,w8,C3];rfl
def EO(a i:Int):nA [.im (.int a),.im<|.int i]=Z (.im<|.int<|if i>a then i else a):=rfl
def Jv(a i:Int):nY [.im (.int a),.im<|.int i]=Z (.im<|.int<|if i<a then i else a):=rfl
def mid:bI:=((dN (mN (bM<|aC en (ay 2)<|ab<|aw<|.int 1)<|bM<|aC en (ay 2)<|ab<|aw<|.int 2) (gQ (gH<|ao (ab<|bH 2 G.oa<|ao (ay 0)<|ao (ab<|aC c1 (ab<|aw<|.int 1)<|ab<|aC kr (ab<|cI fB<|ao (ay 5) aJ)<|ab<|aw<|.int 2) aJ) aJ) (cf 6) G.DT)<|dN (bM<|aC en (ay 2)<|ab<|aw<|.int 3) (cX 5<|e6 1 [] (gw<|ay 5) (cf 0) G.Ho G.Ca)<|dN (bM<|aC kK (ay 2)<|ab<|aw<|.int 3) (cX 5<|bH 2 G.GZ<|ao (ay 0)<|ao (ay 1) aJ) e5))
end G
namespace L2
open Spec PyProof.Rows PySem.W
variable{Lr:Φ}{LF:bf}{I:a5}
end L2
namespace L2
open Spec PyProof.Rows PySem.W
def Gz(k:aU)(a:Nat)(A:List X):Bool:=(match k[a]? with
 |some (Z<|.lst l)=>decide (l=A)
 |_=>ar)
def yr:ai->ai
 |.im (.aN f)=>.cq f
 |v=>v
@[simp] theorem K4(f:List X):yr (.im<|.aN f)=.cq f:=rfl
@[simp] theorem Li(f:List X):yr (.im<|.tup f)=.im (.tup f):=rfl
end L2
namespace L2
section
variable{k T L1:aU}
variable{v:ai}
def cP{F:aB ai}(e:F k=Z (v,T)):ab F k=Z (.c_ v,T):=by unfold ab;rw[e];rfl
variable{f:bj}
def fF{F:aB bj}{e:aB (List bj)}{C:List bj}(a:F k=Z (f,T))(b:e T=Z (C,L1)):ao F e k=Z (f::C,L1):=by unfold ao;rw[a];show (e T).map _=_;rw[b];rfl
variable{L6 L7:ai}
def dZ{L4:ai->ai->Option ai}{Mp Ma:aB bj}{l:bj}(a:Mp k=Z (f,T))(b:Ma T=Z (l,L1))(c:dj L1 f=Z L6)(d:dj L1 l=Z L7)(e:L4 L6 L7=Z v):aC L4 Mp Ma k=Z (v,L1):=by
 unfold aC;rw[a];show (Ma T).bind _=_;rw[b];show (dj L1 f).bind _=_;rw[c];show (dj L1 l).bind _=_;rw[d];show (L4 L6 L7).map _=_;rw[e];rfl
variable{F:aB (List bj)}{s:Nat}{LM:List bj}{A l:List ai}
def fa{Ly:dm}{p:ai}(a:F k=Z (LM,T))(b:LM.length=s)(c:dA LM T=Z (A,L1))(d:Ly A=Z (p,l)):bH s Ly F k=Z (p,gP LM l L1):=by
 unfold bH;rw[a];show (if LM.length=s then _ else _)=_;rw[aK b];show (dA LM T).bind _=_;rw[c];show (Ly A).map _=_;rw[d];rfl
def ph{L4:List ai->Option ai}(a:F k=Z (LM,T))(b:gN T LM=Z A)(c:L4 A=Z v):cI L4 F k=Z (v,T):=by
 unfold cI;rw[a];show (gN T LM).bind _=_;rw[b];show (L4 A).map _=_;rw[c];rfl
variable{c:Bool}
def me{F:aB ai}(d:F k=Z (.im<|.aF c,T)):bM F k=Z (c,T):=by unfold bM;rw[d];rfl
def F2{F:aB Bool}(d:F k=Z (c,T)):kb F k=Z (!c,T):=by unfold kb;rw[d];rfl
def D4{F:aB bj}(d:F k=Z (f,T))(a:dj T f=Z v)(b:l0 v=Z c):kk F k=Z (c,T):=by
 unfold kk;rw[d];show (dj T f).bind _=_;rw[a];show (l0 v).map _=_;rw[b];rfl
def jT{F:aB ai}{e:ee}(d:F k=Z (v,T))(a:e v T=Z L1):fp F e k=Z (.bh,L1):=by unfold fp;rw[d];show (e v T).map _=_;rw[a];rfl
def p6{F:aB ai}(d:F k=Z (v,T)):jS F k=Z (.bh,T):=by unfold jS;rw[d];rfl
variable{G:aU}
def vr{ty:ai->Bool}{a:Nat}{bL:ai->List ai->Option (ai×ai)}{b o p c:ai}(d:k[a]?=Z (Z b))(e:ty b=V)(f:F k=Z (LM,T))(g:dA LM T=Z (A,L1))(h:L1[a]?=Z (Z o))(i:bL o A=Z (p,c))(n:L1.set a (Z c)=G):ja ty a bL F k=Z (p,G):=by
 subst n;unfold ja;rw[d];show (if ty b=V then _ else _)=_;rw[aK e,f];show (dA LM T).bind _=_;rw[g];show (match L1[a]? with|some (Z o)=>_|_=>Y)=_;rw[h];show (bL o A).map _=_;rw[i];rfl
def zm(a:F k=Z (LM,T))(b:dA LM T=Z (A,L1))(c:A.length<=100000)(n:oD A=v):cn F k=Z (v,L1):=by
 unfold cn;rw[a];show (dA LM T).bind _=_;rw[b];show (if _ then _ else _)=_;rw[aK c,n]
def m3(a:F k=Z (LM,T))(b:dA LM T=Z (A,L1))(c:A.length<=100000)(n:nx A=v):e7 F k=Z (v,L1):=by
 unfold e7;rw[a];show (dA LM T).bind _=_;rw[b];show (if _ then _ else _)=_;rw[aK c,n]
variable{a:Int}
def F9{F:aB ai}(d:F k=Z (.im<|.int a,T)):iV F k=Z (.im<|.int<|-a,T):=by unfold iV;rw[d];rfl
def zZ{f:List X}{v:X}(e:f.length<100000):iF (.lst f) [.im v]=Z (.im .aR,.lst<|f++[v]):=aK e
def ri(a i:Int):en (.im<|.int a) (.im<|.int i)=Z (.im<|.aF<|decide (a=i)):=by
 show Z (ai.im<|.aF<|a==i)=_;by_cases e:a=i<;>simp[e]
def CV(a i:Int):nj (.im<|.int a) (.im<|.int i)=Z (.im<|.aF<|!decide (a=i)):=by
 show Z (ai.im<|.aF<|!(a==i))=_;by_cases e:a=i<;>simp[e]
variable{i:Int}
def iz(e:fH a i=V):dE (.im<|.int a) (.im<|.int i)=Z (.im<|.int<|a*i):=aK e
def kc(e:0<i):eE (.im<|.int a) (.im<|.int i)=Z (.im<|.int<|a%i):=aK (eH e)
def sG(e:0<i)(z:i<1073741824):kr (.im<|.int a) (.im<|.int i)=Z (.im<|.int<|a/i):=aK (eH (⟨e,z⟩:0<i/\i<1073741824))
def Av(e:decide (0<=i/\i<=1000000/\a.natAbs<2^64)=V):jP (.im<|.int a) (.im<|.int i)=Z (.im<|.int<|a^i.toNat):=aK e
variable{p:Option (k5×aU)}{c:bI}{o:aB Bool}
theorem lx{g:bI}(d:o k=Z (V,T))(e:g T=p):dN o g c k=p:=(ud d).trans e
theorem hA{g:bI}(d:o k=Z (ar,T))(e:c T=p):dN o g c k=p:=(u7 d).trans e
theorem cm{F e:bI}(d:F k=Z (.bh,T))(n:e T=p):bZ F e k=p:=(lb d).trans n
variable{a:Nat}
theorem kE{F:aB ai}(d:F k=Z (v,T))(e:a<T.length)(n:T.set a (Z v)=L1):cX a F k=Z (.bh,L1):=(BP d e).trans (by rw[n])
variable{C:List X}{LS:ee}{m:Option (Nat×ai)}
theorem mZ{F:iy}{aN:k5}(d:F k=Z ((C,m),T))(e:eX LS c C T=Z (aN,L1))(n:jG m L1=G):gQ F LS c k=Z (aN,G):=(CD d e).trans (by rw[n])
theorem nq{own:Nat}{LV:List Nat}{E:iy}{d:aB ai}{a:aU}{A:List X}(y:E k=Z ((C,m),T))(z:eb own LS o d C [] (iG LV T)=Z (A,a))(n:jG m (gR LV a T)=G):e6 own LV E LS o d k=Z (.lst A,G):=(HF y z).trans (by rw[n])
variable{p:Option (Bool×aU)}{c g:aB Bool}
def GQ(d:g k=Z (ar,T))(e:c T=p):mN g c k=p:=by unfold mN;rw[d];exact e
def kS(d:g k=Z (V,T))(e:c T=p):eG g c k=p:=by unfold eG;rw[d];exact e
def pE(d:g k=Z (ar,T)):eG g c k=Z (ar,T):=by unfold eG;rw[d];rfl
def vN{i:Nat}(b:F k=Z (LM,T))(c:dA LM T=Z ([L6,L7],L1))(Lv:a<L1.length)(d:i<L1.length)(n:(L1.set a<|Z L6).set i (Z L7)=G):kW a i F k=Z (.bh,G):=by
 unfold kW;rw[b];show (dA LM T).bind _=_;rw[c];show (if a<L1.length/\i<L1.length then _ else _)=_;rw[aK ⟨Lv,d⟩,n]
def wg{F:aB Bool}{c:Bool}(d:F k=Z (c,T)):f5 F k=Z (.im<|.aF c,T):=by unfold f5;rw[d];rfl
variable{p:ai}
def eZ{Ly:dm}(a:F k=Z (LM,T))(b:LM.length=s)(c:dA LM T=Z (A,L1))(d:Ly A=Z (p,l))(n:gP LM l L1=G):bH s Ly F k=Z (p,G):=by rw[<-n];exact fa a b c d
def HA{F:aB Bool}(d:F k=Z (V,T)):kb F k=Z (ar,T):=F2 d
def uJ(a:F k=Z (LM,T))(b:gN T LM=Z [.im (.int i)])(e:l2 i):gH F k=Z ((fw 0 i.toNat,Y),T):=by
 unfold gH;rw[a];show (gN T LM).bind _=_;rw[b];show (if l2 i then _ else _)=_;rw[aK e]
def hb{H:Nat}{LU:List Nat}{F:bI}(a:A.length=s)(d:F (A.map Z++replicate (H-s) Y)=Z (.cR p,k))(b:g_ LU A k 0=l):dB s H LU F A=Z (p,l):=l_ k a d b
end
section
variable{k T:aU}
variable{v:ai}
def bS{F:aB ai}(e:F k=Z (v,k)):ab F k=Z (.c_ v,k):=cP e
variable{f:bj}
def dH{F:aB bj}{e:aB (List bj)}{C:List bj}(a:F k=Z (f,k))(b:e k=Z (C,k)):ao F e k=Z (f::C,k):=fF a b
variable{L4:ai->ai->Option ai}{Mp Ma:aB bj}{l:bj}{L6 L7:ai}
def cJ(a:Mp k=Z (f,k))(b:Ma k=Z (l,k))(c:dj k f=Z L6)(d:dj k l=Z L7)(e:L4 L6 L7=Z v):aC L4 Mp Ma k=Z (v,k):=dZ a b c d e
def gb(a:L4 L6 L7=Z v)(b:Mp k=Z (f,k):=by rfl)(c:Ma k=Z (l,k):=by rfl)(d:dj k f=Z L6:=by rfl)(e:dj k l=Z L7:=by rfl):aC L4 Mp Ma k=Z (v,k):=dZ b c d e a
variable{F:aB (List bj)}{LM:List bj}{A:List ai}
def fz{L4:List ai->Option ai}(a:F k=Z (LM,k))(b:gN k LM=Z A)(c:L4 A=Z v):cI L4 F k=Z (v,k):=ph a b c
variable{c:Bool}
def fc{F:aB ai}(d:F k=Z (.im<|.aF c,k)):bM F k=Z (c,k):=me d
def C0{F:aB bj}(d:F k=Z (f,k))(a:dj k f=Z v)(b:l0 v=Z c):kk F k=Z (c,k):=D4 d a b
def Am(a:F k=Z (LM,k))(b:dA LM k=Z (A,k))(c:A.length<=100000)(n:oD A=v):cn F k=Z (v,k):=zm a b c n
def BC(a:F k=Z (LM,k))(b:dA LM k=Z (A,k))(c:A.length<=100000)(n:nx A=v):e7 F k=Z (v,k):=m3 a b c n
def nf{a:Nat}{F:aB ai}(d:F k=Z (v,k))(e:a<k.length)(n:k.set a (Z v)=T):cX a F k=Z (.bh,T):=kE d e n
end
end L2
namespace G
open L2
def hr{s H:Nat}(e:Nat.ble (s+1) H=V):s<H:=gC e
abbrev a6:=Int×Int
inductive o7 (Q:List a6) (j:a6):a6->Prop
 | self:o7 Q j j
 | step {g c:a6}:o7 Q j g->c∈Q->c∈z2 g->o7 Q j c
def Ag(Q:List a6):Prop:=(Q.Pairwise λg c=>bc (aL g) (aL c)=V)
def IH{LL:List a6}(ak:LL.Nodup)(a:LL.length<=1000):∃Q:List a6,i0 (LL.map aL)=Z (dY Q)/\Q.Perm LL/\Ag Q:=by
 have m:=B_ ak a;let⟨Q,y,z⟩:=Ei (h2<|LL.map aL);refine⟨Q,?_,y,?_⟩
 ·unfold i0;rw[aK (n6.mpr m),z]
 ·have:=qk m.ord.ak m.ord.hJ;rw[z]at this;exact rL.mp this
end G
namespace L2
open Spec PyProof.Rows
def pW(H:Nat)(e:Int):Nat->Nat×Nat
 |0=>(rv.bits e%(H+1),rv.bits e)
 |q+1=>rv.leap H (pW H e q).1 (pW H e q).2
def tV(H:Nat)(e:Int):Nat->Nat
 |0=>0
 |q+1=>tV H e q+(rv.runEnd H (pW H e q).1-(pW H e q).1)+1
end L2
namespace L2
open Spec PyProof.Rows PySem.W
end L2
namespace L2
open Spec PyProof.Rows
variable{e Ma Mp:aB bj}{c g d:a7}{Lu:List a7}{LC u:Pos}{H n s:Nat}{F:aB (List bj)}{LU:List Nat}{LR LO:List az}{R:af}{J:cv}{Mj f:az}{Lr:Φ}{Ly:dm}
def oq:List (af×aQ)->Bool
 |[]=>V
 | (_,m)::p=>(match m.data with
  |.seq _ _=>(match m.cls with | .type s=>s != "list" |_=>V)
  |_=>V)&&oq p
def I8{Lr:List (af×aQ)}{g:af}{m:aQ}{Lz:Array aa}(e:oq Lr=V)(d:Lr.lookup g=Z m)(a:m.cls=.type "list")(hd:m.data=.seq Lz s):False:=by
 induction Lr with
 |nil=>cases d
 |cons u p b=>
  let⟨c,f⟩:=u;rw[oq,cE]at e;simp only[List.lookup]at d;split at d
  ·cases d;have y:=e.1;rw[hd]at y;dsimp only at y;rw[a]at y;exact absurd y ∅
  ·exact b e.2 d
theorem y_{h:aq}:∀LN:List Int,bo h (LN.map .int) (LN.map ah.int)
 |[]=>rfl
 |s::p=>⟨.int s,_,rfl,rfl,y_ p⟩
def GY(b:oq Lr=V)(h:aq)(g:af)(LN:List Int)(c:oV h)(f:cB Lr h g (LN.map ah.int))(a:∃l,Ly [.cq (LN.map .int)]=Z (.im<|.aF V,l)){Ls:eO}:h7 1 Ly [.ref g] h (λr W=>r=.aF V) Ls:=by
 let⟨@l,a⟩:=a;have i:∃m,h g=Z (.b8 m<|.lst<|LN.map ah.int):=by
  rcases f with (e|e)|⟨m,Lz,s,y,z,n,j,_⟩
  ·rcases c g with d|⟨m,C,d⟩|⟨C,d⟩|d
   ·rw[d]at e;cases e
   ·rw[d]at e;cases e
   ·rw[d]at e;cases e
   ·rw[d]at e;cases e
  ·exact e
  ·exact (I8 b y z j).elim
 let⟨@m,k⟩:=i;refine⟨rfl,[.cq (LN.map .int)],[],.im<|.aF V,l,⟨_,_,[],[],rfl,⟨g,_,m,rfl,k,y_ LN,rfl⟩,⟨rfl,rfl⟩,rfl⟩,hc,a,λr P Lp o e W W=>?_⟩;exact e.1
def mA{LP:List aa}(e:LP.length=s+1):∃g p,LP=g::p/\p.length=s:=by
 cases LP with
 |nil=>cases e
 |cons g p=>exact⟨g,p,rfl,Nat.succ.inj e⟩
def e1.FZ{fd:fu}(N:e1 Lr f Mj J R fd)(e:∀(b7 k L3:aa) (A:Option af) (B bW:aa) (g:aa),iD (Θ f Mj (hC J) (e3 J) (cZ J) .none b7 k L3 A B bW) ⟨[g],[]⟩=pure (LO.zip [g]))(b:LO.length=1:=by rfl):ix Lr fd LO []:=
 N.binds λb7 k L3 A B bW LP a=>by
  replace a:=a.trans b;let⟨g,@c,rfl,y⟩:=mA a;obtain rfl:=rG y;exact e b7 k L3 A B bW g
def e1.Fp{fd:fu}(N:e1 Lr f Mj J R fd)(e:∀(b7 k L3:aa) (A:Option af) (B bW:aa) (g c:aa),iD (Θ f Mj (hC J) (e3 J) (cZ J) .none b7 k L3 A B bW) ⟨[g,c],[]⟩=pure (LO.zip [g,c]))(b:LO.length=2:=by rfl):ix Lr fd LO []:=
 N.binds λb7 k L3 A B bW LP a=>by
  replace a:=a.trans b;let⟨g,@d,rfl,y⟩:=mA a;let⟨c,@h,rfl,z⟩:=mA y;obtain rfl:=rG z;exact e b7 k L3 A B bW g c
def e1.JA{fd:fu}(N:e1 Lr f Mj J R fd)(e:∀(b7 k L3:aa) (A:Option af) (B bW:aa) (g c o:aa),iD (Θ f Mj (hC J) (e3 J) (cZ J) .none b7 k L3 A B bW) ⟨[g,c,o],[]⟩=pure (LO.zip [g,c,o]))(b:LO.length=3:=by rfl):ix Lr fd LO []:=
 N.binds λb7 k L3 A B bW LP a=>by
  replace a:=a.trans b;let⟨g,@h,rfl,y⟩:=mA a;let⟨c,@i,rfl,z⟩:=mA y;let⟨o,@j,rfl,d⟩:=mA z;obtain rfl:=rG d;exact e b7 k L3 A B bW g c o
structure fG where
 P:bf
 w:a5
 K:Φ
 aI:az->Option aa
 base:a0
def d4(Lr:Φ)(f:az)(J:cv)(R:af):Prop:=(∃fd,e1 Lr f f J R fd/\Ψ Lr cT f=Z (Z<|.ref R))
def eF(Lr:Φ)(aI:az->Option aa)(f:az)(J:cv)(R:af)(LO:List az):Prop:=(∃fd,e1 Lr f f J R fd/\ix Lr fd LO []/\aI f=Z (.ref R))
def iA(LF:bf)(I:a5)(Lr:Φ)(aI:az->Option aa)(LB:a0)(n:Nat)(f:az)(J:cv)(R:af)(LO:List az)(s:Nat)(Ly:dm):Prop:=(∃fd,e1 Lr f f J R fd/\ix Lr fd LO []/\aI f=Z (.ref R)/\fZ LF I Lr aI LB e2 n R fd LO (h7 s Ly))
abbrev fU(o:fG):=iA o.P o.w o.K o.aI o.base
def zw{Mo:aa}{y A:Option af}{z:Array (Option aa)}{b7 k L3 B bW:aa}(g:Ψ Lr cT f=Z (Z<|.ref R))(L:Lr.lookup R=Z ⟨Mo,y,.func<|Θ f f (hC J) (e3 J) (cZ J) .none b7 k L3 A B bW,z⟩)(o:Φa Lr B f=V)(n:Γ Lr (.ref R)=V):d4 Lr f J R:=⟨_,Jx L o n,g⟩
section
variable{LF:bf}{I:a5}{Lr:Φ}{aI:az->Option aa}{LB e:a0}{n s:Nat}{f:az}{J:cv}{R:af}{LO:List az}{Ly:dm}
def d4.cF(p:d4 Lr f J R)(b:Lr.In e)(c:e.Ns cT aI)(d:∀(b7 k L3:aa) (A:Option af) (B bW g:aa),iD (Θ f f (hC J) (e3 J) (cZ J) .none b7 k L3 A B bW) ⟨[g],[]⟩=pure (LO.zip [g]):=by intros;rfl)(h:LO.length=1:=by rfl):eF Lr aI f J R LO:=
 have ⟨_,a,g⟩:=p
 ⟨_,a,a.FZ d h,mL b c g⟩
def d4.cS(p:d4 Lr f J R)(b:Lr.In e)(d:e.Ns cT aI)(h:∀(b7 k L3:aa) (A:Option af) (B bW g c:aa),iD (Θ f f (hC J) (e3 J) (cZ J) .none b7 k L3 A B bW) ⟨[g,c],[]⟩=pure (LO.zip [g,c]):=by intros;rfl)(i:LO.length=2:=by rfl):eF Lr aI f J R LO:=
 have ⟨_,a,g⟩:=p
 ⟨_,a,a.Fp h i,mL b d g⟩
def d4.i1(p:d4 Lr f J R)(b:Lr.In e)(d:e.Ns cT aI)(h:∀(b7 k L3:aa) (A:Option af) (B bW g c o:aa),iD (Θ f f (hC J) (e3 J) (cZ J) .none b7 k L3 A B bW) ⟨[g,c,o],[]⟩=pure (LO.zip [g,c,o]):=by intros;rfl)(i:LO.length=3:=by rfl):eF Lr aI f J R LO:=
 have ⟨_,a,g⟩:=p
 ⟨_,a,a.JA h i,mL b d g⟩
def iA.fd{fd:fu}(aH:iA LF I Lr aI LB n f J R LO s Ly)(b:e1 Lr f f J R fd):fZ LF I Lr aI LB e2 n R fd LO (h7 s Ly):=by
 let⟨@e,c,W,W,F⟩:=aH;let⟨Mo,y,b7,k,L3,A,B,bW,@z,d,L,W⟩:=b.ex;let⟨g,h,i,j,l,m,o,p,@q,r,a,W⟩:=c.ex;rw[L]at a;cases a;exact F
def DJ(p:d4 Lr f J R)(b:Lr.In e)(h:e.Ns cT aI){a:af}(i:aI f=Z (.ref a)){u:az}(l:∀(b7 k L3:aa) (A:Option af) (B bW:aa) (j:ag) (r:aa),jM j (Θ f f (hC J) (e3 J) (cZ J) .none b7 k L3 A B bW) ⟨[r],[]⟩ [(u,r)])(aH:∀LB,iA LF I Lr aI LB n f J R [u] s Ly):
  ∃fd:fu,(∀(j:ag) (r:aa),jM j fd ⟨[r],[]⟩ [(u,r)])/\∀LB:a0,Lr.In LB->LB.Ns cT aI->fZ LF I Lr aI LB e2 n a fd [u] (h7 s Ly):=by
 let⟨@fd,d,g⟩:=p;cases i.symm.trans (mL b h g);refine⟨fd,?_,λc U U=>(aH c).fd d⟩;let⟨Mo,y,b7,k,L3,A,B,bW,@z,rfl,L,U⟩:=d.ex;exact l b7 k L3 A B bW
def I_{F:bI}(N:eF Lr aI f J R LO)(LX:iH LR LO (cZ J))(d:LO.length=s)(e:∀a∈LU,a<s)(g:LR.Nodup->∀(B:aa) (O:a9) (T:List dy) (j:ag) (h:aq) (Ls:eO),cQ n (O.deeper<|fR f (cZ J) j.heap.objs.size R B)->gj (hH e2 LF I Lr aI LB LR f (cZ J) R B O T j h Ls).hX LU (e3 J) F):
  iA LF I Lr aI LB (n+1) f J R LO s (dB s LR.length LU F):=
 have ⟨_,b,c,H⟩:=N
 ⟨_,b,c,H,HB b LX d e<|g LX.ak⟩
end
section
variable{b:aE}
def Ba(aH:iA b.prog b.w b.K b.aI b.base n f J R LO s Ly)(LG:cQ H b.A)(a:eC b f)(e:eR b (d::Lu) F)(g:n<=H:=by decide)(h:(f==("__debug__" : az))=ar:=by decide)(i:bu (d::Lu) b.env=(ar,bU d b.env)::bu Lu b.env:=by rfl)(j:(ek LC<|bu Lu b.env).any (·.1)=ar:=by rfl):
  b0 b (.Call (.Name f u) (d::Lu) [] LC) (bH s Ly F):=
 have ⟨_,k,c,H,N⟩:=aH
 Kk N (LG.mono g) a H k.eu c e h i j
def a8{a:Int}{i LC}:c6 b (.Constant (.int a) i LC) (ab<|aw<|.int a):=bt h8
def aO(a:Nat){f:az}{LC:Pos}(c:b.N[a]?=Z f:=by rfl)(d:mE b.env.scope f:=by first|exact Or.inl rfl|exact Or.inr (Or.inl rfl)|exact Or.inr (Or.inr rfl))(hd:(f==("__debug__" : az))=ar:=by decide)(e:(f==("__classdict__" : az))=ar:=by decide):c6 b (.Name f LC) (ay a):=JV (y8 c d hd e)
def cO{F:aB bj}(a:c6 b d F)(au:bu [d] b.env=(ar,bU d b.env)::bu [] b.env:=by rfl):eR b [d] (ao F aJ):=mX a ps au
def kJ(LG:cQ H b.A)(a:c6 b g Mp)(d:c6 b c Ma)(au:kI c:=by exact λ_ W=>rfl):b0 b (.Subscript g c LC) (aC bD Mp Ma):=zy (Fh (by have:=LG.un;lia)) a d au
def b_{R:a7}{F:aB bj}(a:c6 b d F)(c:c6 b R e)(au:bu [d,R] b.env=(ar,bU d b.env)::bu [R] b.env:=by rfl)(z:bu [R] b.env=(ar,bU R b.env)::bu [] b.env:=by rfl):eR b [d,R] (ao F<|ao e aJ):=mX a (cO c z) au
def hq{R v:a7}{F n:aB bj}(a:c6 b d F)(c:c6 b R e)(hd:c6 b v n)(au:bu [d,R,v] b.env=(ar,bU d b.env)::bu [R,v] b.env:=by rfl)(y:bu [R,v] b.env=(ar,bU R b.env)::bu [v] b.env:=by rfl)(z:bu [v] b.env=(ar,bU v b.env)::bu [] b.env:=by rfl):eR b [d,R,v] (ao F<|ao e<|ao n aJ):=mX a (b_ c hd y z) au
def gx(a:Nat){f:az}{d:a7}{F:aB ai}{LC MC:Pos}(c:b.N.Nodup)(e:b0 b d F)(Lv:b.N[a]?=Z f:=by rfl)(g:fs b.env.scope f:=by exact Or.inl rfl)(h:a∉LU:=by decide)(au:kx d (Z<|.Name f MC) LC.line b.env=pure ar:=by rfl)(i:b.fn f=V\/b.env.scope.names.lookup f=Z .local:=by first|exact .inl rfl|exact .inr rfl|assumption):gF b LU (.Assign [.Name f MC] d LC) (cX a F):=uX c Lv g e h au i
def g9(a:Nat){f:az}{LC:Pos}(c:b.N.Nodup)(Lv:b.N[a]?=Z f:=by rfl)(d:fs b.env.scope f:=by exact Or.inl rfl)(e:a∉LU:=by decide)(g:b.fn f=V\/b.env.scope.names.lookup f=Z .local:=by first|exact .inl rfl|exact .inr rfl|assumption):f7 b LU (.Name f LC) (cf a):=vs c Lv d e g
def pI:List az->Bool
 |[]=>V
 |f::L=>!L.contains f&&pI L
theorem Ae:∀{L:List az},pI L=V->L.Nodup
 |[],_=>hc
 |f::L,e=>by
  rw[pI,cE,l6]at e;refine gZ.mpr ⟨λB=>?_,Ae e.2⟩;rw[List.contains_iff_mem.mpr B]at e;cases e.1
def lX(a:Nat){f:az}{LC:Pos}(Lv:b.N[a]?=Z f:=by rfl)(c:pI b.N=V:=by kernel_rfl)(d:fs b.env.scope f:=by exact Or.inl rfl)(e:a∉LU:=by decide)(g:b.fn f=V\/b.env.scope.names.lookup f=Z .local:=by first|exact .inl rfl|exact .inr rfl|assumption):f7 b LU (.Name f LC) (cf a):=vs (Ae c) Lv d e g
def zN{LS Mm ME:a7}{LD:dU}(own:List az)(LV:List Nat){E:iy}{l:ee}{MJ:aB ai}(Lv:kh b LS Mm E)(c:∀a,f7 (b.eI (eP b own LV) LD a) (mf own.length LV.length) LS l)(d:∀a,b0 (b.eI (eP b own LV) LD a) ME MJ)(LX:uH b.env.scope b.N LD LV=V:=by kernel_rfl)(e:b.calm=V:=by rfl)(ak:LV.Nodup:=by decide)(au:∀f,jX Mm b.env f=pure f:=by intro W;rfl):b0 b (.ListComp ME [⟨LS,Mm,[],0⟩] LD LC) (e6 own.length LV E l hY MJ):=
 s_ e (qM _ _ LX rfl rfl) ak Lv c (λ_=>yD) d au
def m2{F e:ee}{a}(d:f7 b LU g F)(f:f7 b LU c e)(h:b.calm=V:=by rfl)(y:(eo [g,c] b.env).map (·.2)=fO g b.env::(eo [c] b.env).map (·.2):=by rfl)(z:(eo [c] b.env).map (·.2)=fO c b.env::(eo [] b.env).map (·.2):=by rfl)(i:(eo [g,c] b.env).length=2:=by rfl)(j:(eo [g,c] b.env).findIdx? (·.1)=Y:=by rfl):f7 b LU (.Tuple [g,c] a LC) (gS 2<|ec F<|ec e hi):=IY h (x8 d (x8 f Gj z) y) i j
def gT{id:String}{L4:List ai->Option ai}(a:gv b (.builtin id) L4)(c:b.aI f=Y)(e:ez f=Z (.builtin id))(g:eR b (d::Lu) F)(h:eC b f:=by rfl)(i:f ≠ "__name__" := by decide)(j:(f==("__debug__" : az))=ar:=by decide)(k:bu (d::Lu) b.env=(ar,bU d b.env)::bu Lu b.env:=by rfl)(l:(ek LC<|bu Lu b.env).any (·.1)=ar:=by rfl):
  b0 b (.Call (.Name f u) (d::Lu) [] LC) (cI L4 F):=E9 a h c e g i j k l
def c9(aH:iA b.prog b.w b.K b.aI b.base n f J R LO s Ly)(LG:cQ H b.A)(a:eR b (d::Lu) F)(c:eC b f:=by rfl)(e:n<=H:=by decide)(g:(f==("__debug__" : az))=ar:=by decide)(h:bu (d::Lu) b.env=(ar,bU d b.env)::bu Lu b.env:=by rfl)(i:(ek LC<|bu Lu b.env).any (·.1)=ar:=by rfl):
  b0 b (.Call (.Name f u) (d::Lu) [] LC) (bH s Ly F):=Ba aH LG c a e g h i
def fk(LG:cQ H b.A)(a:c6 b g Mp)(d:c6 b c Ma)(au:kI c:=by exact λ_ W=>rfl):c6 b (.Subscript g c LC) (ab<|aC bD Mp Ma):=bt (kJ LG a d au)
def cM{L4:mO}{R:ai->ai->Option ai}(a:ey b (eU L4) R)(d:c6 b g Mp)(e:c6 b c Ma):c6 b (.BinOp g L4 c LC) (ab<|aC R Mp Ma):=bt (ki a d e)
def ff{a}(e:eR b Lu F):c6 b (.Tuple Lu a LC) (ab<|cn F):=bt (jy e)
end
section
variable{LF:bf}{I:a5}{Lr:Φ}{aI:az->Option aa}{LB e:a0}{n s:Nat}{f:az}{J:cv}{R:af}{LO:List az}{Ly:dm}
def w1{LF:List az}{t:dU}(g:t.kind=.function:=by rfl)(c:t.isCoroutine=ar:=by rfl)(o:t.isGenerator=ar:=by rfl)(v:LR.Nodup:=by decide +kernel)(d:LR.take LF.length=LF:=by rfl)(R:∀f∈LF,t.names.lookup f=Z .local\/t.names.lookup f=Z .cell:=by decide +kernel)(F:∀l∈t.names,l.2≠.free:=by decide +kernel):iH LR LF t:=⟨g,c,o,v,d,R,F⟩
def gW{F:bI}(LR:List az)(N:eF Lr aI f J R LO)(b:LR.Nodup->∀(B:aa) (O:a9) (T:List dy) (j:ag) (h:aq) (Ls:eO),cQ n (O.deeper<|fR f (cZ J) j.heap.objs.size R B)->gj (hH e2 LF I Lr aI LB LR f (cZ J) R B O T j h Ls).hX LU (e3 J) F)(LX:iH LR LO (cZ J):=by exact w1)(c:LO.length=s:=by rfl)(d:∀a∈LU,a<s:=by decide):iA LF I Lr aI LB (n+1) f J R LO s (dB s LR.length LU F):=I_ N LX c d b
end
end L2
namespace L2
open Spec PyProof.Rows PySem.W
section
variable{b:aE}
variable{s n:Nat}{R:af}{J:cv}{LO:List az}{f:az}
def Iy{H:Nat}{Ly:dm}{u LC:Pos}{d:a7}{Lu:List a7}{F:aB (List bj)}(aH:iA b.prog b.w b.K b.aI b.base n f J R LO s Ly)(LG:cQ H b.A)(a:n<=H)(c:eR b (d::Lu) F)(e:eC b f:=by rfl)(g:(f==("__debug__" : az))=ar:=by decide)(h:bu (d::Lu) b.env=(ar,bU d b.env)::bu Lu b.env:=by rfl)(i:(ek LC<|bu Lu b.env).any (·.1)=ar:=by rfl):
  b0 b (.Call (.Name f u) (d::Lu) [] LC) (bH s Ly F):=Ba aH LG e c a g h i
def IW{LF:bf}{I:a5}{Lr:Φ}{aI:az->Option aa}{LB:a0}(N:eF Lr aI f J R LO)(a:LO.length=s:=by rfl):iA LF I Lr aI LB n f J R LO s λ_=>Y:=
 have ⟨_,b,c,H⟩:=N
 ⟨_,b,c,H,⟨λQ h x Ls e=>e.1.trans a.symm,λO T j h args LP Q x Ls LG g i k e=>absurd e.2 (by rintro⟨U,U,U,U,U,U,d,U⟩;cases d)⟩⟩
end
end L2
namespace G
open L2
def oL:bI:=((fp (aw<|.aF V)<|jg 1 (gs 2) oj))
def yn:bI:=((bZ (cX 1 zr)<|bZ (gQ (gw<|ay 0) (cf 2) G.oL)<|dt<|gs 1))
def nM:dm:=(dB 1 3 [0] yn)
end G
namespace lq
variable{ah:Type}[DecidableEq ah]
variable{N:List ah}{b:ah->ah->Prop}{g c:ah}{R:ah->ah}{l:List ah}{LX:ah->Bool->Prop}
def ae(R:ah->ah):Nat->ah->ah
 |0,o=>o
 |s+1,o=>ae R s (R o)
end lq
namespace lq
variable{ah:Type}[DecidableEq ah]{N:List ah}{b:ah->ah->Prop}{g c:ah}{R F:ah->ah}{l:List ah}
variable{n:Nat}{o v:Nat->ah}
end lq
namespace lq
variable{ah:Type}[DecidableEq ah]{N:List ah}{b:ah->ah->Prop}{g c:ah}{R F:ah->ah}{l:List ah}
def JQ(R:ah->ah)(b:ah->ah->Prop)(u j:ah×Bool):Prop:=((u.2=ar/\j=(R u.1,V))\/(u.2=V/\j.2=ar/\(j.1=u.1\/b u.1 j.1)))
structure Ek(R:ah->ah)(b:ah->ah->Prop)(g:ah)(Mr:List ((ah×Bool)×Option (ah×Bool))):Prop where
 ak:(Mr.map (·.1)).Nodup
 par:∀(a:Nat) (j u:ah×Bool),Mr[a]?=Z (j,Z u)->∃i<a,∃q,Mr[i]?=Z (u,q)/\JQ R b u j
 root:∀(a:Nat) (j:ah×Bool),Mr[a]?=Z (j,Y)->j=(g,V)
variable{Mr:List ((ah×Bool)×Option (ah×Bool))}
end lq
namespace lq
variable{ah:Type}[DecidableEq ah]{N:List ah}{b:ah->ah->Prop}{g c:ah}{R F:ah->ah}{l:List ah}
def rf(R:ah->ah)(L:ah)(s:Nat):List ah:=((range<|s+1).map λa=>ae R a L)
end lq
namespace G
open L2
variable{L0:Type}
abbrev h3:=a6×Bool
def m7{Mx:Type}{F:L0->Mx}{L:List L0}(inj:∀f∈L,∀l∈L,F f=F l->f=l)(ak:L.Nodup):(L.map F).Nodup:=by
 rw[List.nodup_iff_pairwise_ne,rL];exact ak.imp_of_mem λ{f l} a b e d=>e (inj f a l b d)
abbrev j2:=List a6
def wD(I:j2):X:=(.tup (I.map aL))
def Ha(a:List j2):Prop:=(a.Pairwise λg c=>bc (wD g) (wD c)=V)
open Classical in
def CG(L:List a6)(o:a6):jw (.im<|aL o) (dY L)=Z (.im<|.aF<|!decide (o∈L)):=by
 show (hD (aL o)<|dY L).map (λp=>ai.im<|.aF<|!p)=_;rw[HV];rfl
def FI(I:j2):Bool:=((I.zip<|I.drop 1).all λu=>decide (u.2∈z2 u.1))
def vh(I:j2):j2:=((I.drop 1).dropLast)
abbrev hd(v j E:Int):ai:=.lst [.int v,.int j,.int E]
abbrev jh(c:Bool):ai:=.im (.aF c)
def hV(LL:List (Int×Int))(o:Int×Int):List (Int×Int):=(if o∈LL then LL else LL++[o])
def I6(LL:List (Int×Int))(o:Int×Int):jZ (bL LL) (eV o) (.aF V)=bL (hV LL o):=by
 unfold hV;by_cases e:o∈LL
 ·rw[aK e];unfold jZ;rw[aK (by rw[sq];simpa using e)];unfold bL;rw[hZ];refine nN λf W=>?_;show (if eV f=eV o then (eV f,X.aF V) else (eV f,X.aF V))=_;split<;>rfl
 ·rw[aM e];exact J9 e
def ho(Q:List (Int×Int)):Prop:=(Q.Pairwise λg c=>bc (aL g) (aL c)=V)
abbrev vF:=Int×Int
theorem xw(w:Option ai):∀(Q LL:List vF) (Mw:Option ai),LL.length+Q.length<100000->∃a,eX (cf 2) oL (Q.map aL) [w,Z<|.br<|bL LL,Mw]=Z (.bh,[w,Z<|.br<|bL<|Q.foldl hV LL,a])
 |[],LL,Mw,_=>⟨Mw,rfl⟩
 |o::Q,LL,Mw,b=>by
  have c:oj (.br<|bL LL) (.im<|.tup<|eV o) (jh V)=Z (.br<|bL<|hV LL o):=by
   rw[<-I6];exact aK ⟨rfl,by unfold bL;rw[bF];rw[dK]at b;lia⟩
  have av:(hV LL o).length<=LL.length+1:=by
   unfold hV;split
   ·lia
   ·rw[eK];exact bq _
  let⟨@a,e⟩:=xw w Q (hV LL o) (Z<|.im<|aL o) (by rw[dK]at b;lia);refine⟨a,?_⟩;have d:oL [w,Z<|.br<|bL LL,Z<|.im<|aL o]=Z (.bh,[w,Z<|.br<|bL<|hV LL o,Z<|.im<|aL o]):=by
   unfold oL;refine jT rfl ?_;show (oj (.br<|bL LL) (.im<|.tup<|eV o)<|jh V).map _=_;rw[c];rfl
  rw[c3,eX];show (oL [w,Z<|.br<|bL LL,Z<|.im<|aL o]).bind _=_;rw[d];exact e
def Ii(LL:List vF)(o:vF):rx (.im<|aL o) (.br<|bL LL)=Z (jh<|decide (o∈LL)):=by
 rw[<-wU];rfl
theorem yE{L0:Type}(R:L0->Bool):∀C:List L0,kG (C.map λp=>.aF<|R p)=Z (C.map R)
 |[]=>rfl
 |f::p=>by rw[c3,kG,yE R p];rfl
def ET(R:L0->Bool)(C:List L0):qC [.lst (C.map λp=>.aF<|R p)]=Z (jh<|C.all R):=by
 show (kG _).map _=_;rw[yE,Option.map_some,BI];rfl
def Gz:X->Bool
 |.int a=>decide (0<=a)&&decide (a<31)
 |_=>ar
end G
namespace jA
def sk{L0:Type}:List L0->List L0
 |[]=>[]
 |[g]=>[g]
 |g::_::p=>g::sk p
open Spec PyProof.Rows
end jA
namespace L2
open Spec PyProof.Rows
end L2
namespace G
open L2
end G
namespace L2
open Spec PySem.Calls PyProof.Rows
end L2
namespace L2
open Spec PyProof.Rows
section
open PySem.SeqAt
open PySem.AutoSeq1 (wpAny_loadPart')
open PySem.MeetsSeq PySem.MeetsSeq2 PySem.MeetsSeq3
end
end L2
namespace G
open L2
def ur:bI:=((bZ (dN (bM<|aC gO (ay 1)<|ab<|cI fB<|ao (ay 0) aJ) (dt<|aC bD (ay 0)<|ay 1) e5)<|dt<|aw<|.int 0))
def nd:dm:=(dB 2 2 [0,1] ur)
def y2:bI:=((bZ (cX 2<|bH 2 G.nd<|ao (ay 0)<|ao (ay 1) aJ)<|bZ (cX 3<|aC dE (ab<|aC dE (ab<|aC jP (ab<|aw<|.int 10)<|ab<|aw<|.int 60)<|ab<|aC jP (ab<|aw<|.int 10)<|ab<|aw<|.int 60)<|ab<|aC jP (ab<|aw<|.int 10)<|ab<|aw<|.int 60)<|bZ (cX 4<|aC eE (ab<|aC dE (ab<|aC c1 (ab<|aC c1 (ab<|aC eE (ay 2)<|ab<|aw<|.int 2147483629)<|ab<|aC dE (ab<|aC dE (ab<|aw<|.int 7919)<|ay 1)<|ay 1)<|ab<|aw<|.int 11)<|ab<|aw<|.int 48271)<|ab<|aw<|.int 2147483647)<|dt<|e7<|ao (ab<|aC dE (ab<|aC eE (ay 2)<|ay 3)<|ab<|cI vInt<|ao (ab<|aC v5 (ay 2)<|ab<|aC jP (ab<|aw<|.int 10)<|ab<|aw<|.int 18) aJ)<|ao (ay 4)<|ao (ab<|aw<|.int 0) aJ))
def rO:dm:=(dB 2 5 [0,1] y2)
def ua:bI:=((bZ (dN (bM<|aC kK (ab<|aC bD (ay 0)<|ab<|aw<|.int 0)<|ab<|aw<|.int 0) (bZ (cX 2<|aC eE (ab<|aC bD (ay 0)<|ab<|aw<|.int 0)<|ay 1)<|bZ (fp (aC kr (ab<|aC bD (ay 0)<|ab<|aw<|.int 0)<|ay 1)<|jg 0 (aw<|.int 0) jo)<|dt<|gs 2) e5)<|bZ (fp (aC c1 (ab<|aC bD (ay 0)<|ab<|aw<|.int 2)<|ab<|aw<|.int 1)<|jg 0 (aw<|.int 2) jo)<|bZ (fp (aC eE (ab<|aC c1 (ab<|aC c1 (ab<|aC dE (ab<|aC bD (ay 0)<|ab<|aw<|.int 1)<|ab<|aw<|.int 48271)<|ab<|aw<|.int 12345)<|ab<|aC dE (ab<|aw<|.int 7919)<|ab<|aC bD (ay 0)<|ab<|aw<|.int 2)<|ab<|aw<|.int 2147483647)<|jg 0 (aw<|.int 1) jo)<|dt<|aC eE (ab<|aC kr (ab<|aC eE (ab<|aC dE (ab<|aC bD (ay 0)<|ab<|aw<|.int 1)<|ab<|aC bD (ay 0)<|ab<|aw<|.int 1)<|ab<|aw<|.int 1999999973)<|ab<|aw<|.int 31)<|ay 1))
def c5:dm:=(dB 2 3 [0,1] ua)
def xX(a:dm):aB ai:=((bH 2 a<|ao (ay 0)<|ao (ay 1) aJ))
def uW(a:dm):bI:=((bZ (dN (kk<|ab<|lD "tuple"<|ay 1) (bZ (dN (mN (kb<|kk<|ab<|lD "tuple"<|ay 0)<|bM<|aC nj (ab<|cI fB<|ao (ay 0) aJ)<|ab<|cI fB<|ao (ay 1) aJ) (dt<|aw<|.aF ar) e5)<|dt<|cI qC<|ao (ab<|e6 2 [] (sj<|ao (ay 0)<|ao (ay 1) aJ) (gS 2<|ec (cf 0)<|ec (cf 1) hi) hY<|G.xX a) aJ) e5)<|bZ (dN (kk<|ab<|lD "str"<|ay 1) (dt<|f5<|eG (bM<|lD "str"<|ay 0)<|bM<|aC en (ay 0)<|ay 1) e5)<|dt<|f5<|eG (bM<|lD "int"<|ay 0)<|eG (bM<|f5<|kb<|bM<|lD "bool"<|ay 0)<|bM<|aC en (ay 0)<|ay 1))
def g8:Nat->dm
 |0=>λ_=>Y
 |n+1=>dB 2 2 [0,1] (uW<|g8 n)
theorem wF{L0:Type}{a:List L0->L0->List L0}(e:∀L f,(f∈L->a L f=L)/\(f∉L->a L f=L++[f])):∀(L Mi:List L0),(Mi++L).Nodup->L.foldl a Mi=Mi++L
 |[],Mi,_=>(bN Mi).symm
 |f::L,Mi,ak=>by
  have b:f∉Mi:=λB=>(dp.mp ak).2.2 f B f (.head _) rfl;rw[og,(e Mi f).2 b,wF e L (Mi++[f]) (by rw[bb];exact ak),bb];rfl
def I0(L:List a6)(f:a6):(f∈L->hV L f=L)/\(f∉L->hV L f=L++[f]):=⟨λe=>aK e,λe=>aM e⟩
def Es(g c:a6)(I:j2):Prop:=(∃H,I=g::(H++[c]))
structure Fw(g c:a6)(LA:List j2):Prop where
 ch:∀I∈LA,FI I=V
 up:Ha LA
 ib:∀I∈LA,Es g c I
 ak:(LA.flatMap vh).Nodup
 na:g∉LA.flatMap vh
 nb:c∉LA.flatMap vh
structure J7(aj:List a6)(g c:a6)(b:List a6)(LA:List j2):Prop where
 up:Ag b
 na:g∉b
 nb:c∉b
 K7:¬ o7 (aj.filter λo=>!decide (o∈b)) g c
 w:Fw g c LA
 n:LA.length=b.length
def Ir{b:List a6}(c:b.length<10000):nM [cg b]=Z (.br<|bL<|b.foldl hV [],[cg b]):=by
 let⟨m,a⟩:=xw (Z<|cg b) b [] Y (by show 0+_<_;lia);unfold nM yn;exact hb (k:=[Z (cg b),Z .ej,m]) rfl (cm (T:=[Z (cg b),Z<|.br [],Y]) rfl<|cm (mZ (m:=Y) rfl a rfl) rfl) rfl
def EZ(LL:List a6)(o:a6):jw (.im<|aL o) (.br<|bL LL)=Z (.im<|.aF<|!decide (o∈LL)):=by
 show (hD (.tup<|eV o)<|.br<|bL LL).map (λp=>ai.im<|.aF<|!p)=_;rw[CF,aK<|HM o,wU];rfl
section
variable{Lr ah:Type}[DecidableEq Lr]
def F3(p:Lr->List X)(a:ah->X)(LL:List Lr)(R:Lr->ah):List (List X×X):=(LL.map λn=>(p n,a<|R n))
variable{p:Lr->List X}{a:ah->X}{LL:List Lr}{R:Lr->ah}{n:Lr}
end
end G
namespace L2
open Spec PyProof.Rows PySem.W
section
variable{b:aE}
def d5(a:Int):Int:=(hashInt a)
def AJ(o:Int×Int):Int:=(r5 (bO.Tuple.tupleHashOf [d5 o.1,d5 o.2]))
def j4(o:Int×Int):List X:=([.int o.1,.int o.2])
end
end L2
namespace L2
open Spec PyProof.Rows
abbrev Cj:=(Int×Int)×(Int×Int)
def va(L:Cj):List X:=([.tup (j4 L.1),.tup<|j4 L.2])
end L2
namespace G
open L2
end G
namespace L2
open Spec PyProof.Rows
end L2
namespace L2
end L2
namespace L2
open Spec PyProof.Rows
end L2
namespace G
open L2
def G_:bI:=((bZ (dN (bM<|aC en (ay 0)<|ab<|aw<|.str "down") (dt<|cn<|ao (ab<|aC c1 (ab<|aC bD (ay 1)<|ab<|aw<|.int 0)<|ay 2)<|ao (ab<|aC bD (ay 1)<|ab<|aw<|.int 1) aJ) e5)<|dt<|cn<|ao (ab<|aC bD (ay 1)<|ab<|aw<|.int 0)<|ao (ab<|aC c1 (ab<|aC bD (ay 1)<|ab<|aw<|.int 1)<|ay 2) aJ))
def rR:dm:=(dB 3 3 [0,1,2] G_)
def vk:aB Bool:=((bM<|aC rx (ab<|bH 3 G.rR<|ao (ay 1)<|ao (ay 2)<|ao (ay 3) aJ)<|ay 0))
def zR:bI:=((tP 3 (λa i=>a+i)<|aw<|.int 1))
def BG:bI:=((bZ (cX 3<|aw<|.int 1)<|bZ (jm G.vk G.zR 1000000)<|dt<|cn<|ao (ay 1)<|ao (ay 2)<|ao (ay 3) aJ))
def oz:dm:=(dB 3 4 [0,1,2] BG)
def wm:aB ai:=((bH 3 G.oz<|ao (ay 2)<|ao (ay 1)<|ao (ay 0) aJ))
def Bv:aB Bool:=((bM<|aC jw (ab<|bH 3 G.rR<|ao (ay 1)<|ao (ay 0)<|ao (ab<|iV<|aw<|.int 1) aJ)<|ay 2))
def xm:bI:=((bZ (cX 2<|bH 1 G.nM<|ao (ay 0) aJ)<|dt<|e6 1 [1,2] (gw<|ay 0) (cf 0) G.Bv G.wm))
def nL:dm:=(dB 2 3 [0,1] xm)
def wY:bI:=((dt<|cI la<|ao (ab<|cI i_<|ao (ab<|aC c1 (ab<|bH 2 G.nL<|ao (ay 0)<|ao (ab<|aw<|.str "down") aJ)<|ab<|bH 2 G.nL<|ao (ay 0)<|ao (ab<|aw<|.str "right") aJ) aJ) aJ))
def js:dm:=(dB 1 1 [0] wY)
def pY:bI:=((bZ (fp (aC bD (ay 2)<|ab<|bH 2 G.c5<|ao (ay 0)<|ao (ab<|cI fB<|ao (ay 2) aJ) aJ)<|gS 2<|ec (cf 4)<|ec (cf 5) hi)<|bZ (dN (bM<|aC en (ab<|bH 2 G.c5<|ao (ay 0)<|ao (ab<|aw<|.int 2) aJ)<|ab<|aw<|.int 0) (fp (aC bD (ay 2)<|ab<|iV<|aw<|.int 1)<|gS 2<|ec (cf 4)<|ec (cf 5) hi) e5)<|bZ (fp (aC bD (ab<|e7<|ao (ab<|cn<|ao (ab<|aw<|.int 0)<|ao (ab<|aw<|.int 1) aJ)<|ao (ab<|cn<|ao (ab<|aw<|.int 1)<|ao (ab<|aw<|.int 0) aJ)<|ao (ab<|cn<|ao (ab<|aw<|.int 0)<|ao (ab<|iV<|aw<|.int 1) aJ)<|ao (ab<|cn<|ao (ab<|iV<|aw<|.int 1)<|ao (ab<|aw<|.int 0) aJ) aJ)<|ab<|bH 2 G.c5<|ao (ay 0)<|ao (ab<|aw<|.int 4) aJ)<|gS 2<|ec (cf 6)<|ec (cf 7) hi)<|bZ (cX 8<|cn<|ao (ab<|aC c1 (ay 4)<|ay 6)<|ao (ab<|aC c1 (ay 5)<|ay 7) aJ)<|dN (eG (bM<|aC jw (ay 8)<|ay 2)<|eG (bM<|aC gO (ab<|cI fB<|ao (ay 2) aJ)<|ay 1)<|eG (bM<|hy e0 e0 (ab<|aw<|.int 0) (ab<|aC bD (ay 8)<|ab<|aw<|.int 0)<|ab<|aw<|.int 30)<|bM<|hy e0 e0 (ab<|aw<|.int 0) (ab<|aC bD (ay 8)<|ab<|aw<|.int 1)<|ab<|aw<|.int 30) (jS<|ja oC 2 iF<|ao (ay 8) aJ) e5))
def Ap:bI:=((bZ (cX 2<|e7<|ao (ab<|cn<|ao (ab<|bH 2 G.c5<|ao (ay 0)<|ao (ab<|aw<|.int 31) aJ)<|ao (ab<|bH 2 G.c5<|ao (ay 0)<|ao (ab<|aw<|.int 31) aJ) aJ) aJ)<|bZ (gQ (gH<|ao (ab<|aC dE (ab<|aw<|.int 2)<|ay 1) aJ) (cf 3) G.pY)<|dt<|cI la<|ao (ab<|cI i_<|ao (ay 2) aJ) aJ))
def qu:dm:=(dB 2 9 [0,1] Ap)
def t5:aB ai:=((cn<|ao (ab<|aC c1 (ay 1)<|ab<|aC kr (ay 0)<|ay 2)<|ao (ab<|aC c1 (ay 3)<|ab<|aC eE (ay 0)<|ay 2) aJ))
def w4:aB ai:=((gs 0))
def ta:aB Bool:=((bM<|aC kK (ab<|bH 2 G.c5<|ao (ay 1)<|ao (ay 2) aJ)<|ab<|aw<|.int 0))
def wh:bI:=((bZ (cX 1<|bH 2 G.c5<|ao (ay 0)<|ao (ab<|aw<|.int 8) aJ)<|bZ (kW 2 3<|ao (ab<|aC c1 (ab<|aw<|.int 1)<|ab<|bH 2 G.c5<|ao (ay 0)<|ao (ab<|aw<|.int 8) aJ)<|ao (ab<|aC c1 (ab<|aw<|.int 1)<|ab<|bH 2 G.c5<|ao (ay 0)<|ao (ab<|aw<|.int 8) aJ) aJ)<|bZ (dN (bM<|aC en (ab<|bH 2 G.c5<|ao (ay 0)<|ao (ab<|aw<|.int 8) aJ)<|ab<|aw<|.int 0) (fp (aC bD (ab<|e7<|ao (ab<|cn<|ao (ab<|aw<|.int 1)<|ao (ab<|aw<|.int 31) aJ)<|ao (ab<|cn<|ao (ab<|aw<|.int 31)<|ao (ab<|aw<|.int 1) aJ)<|ao (ab<|cn<|ao (ab<|aw<|.int 2)<|ao (ab<|aw<|.int 31) aJ)<|ao (ab<|cn<|ao (ab<|aw<|.int 31)<|ao (ab<|aw<|.int 2) aJ) aJ)<|ab<|bH 2 G.c5<|ao (ay 0)<|ao (ab<|aw<|.int 4) aJ)<|gS 2<|ec (cf 2)<|ec (cf 3) hi) e5)<|bZ (kW 4 5<|ao (ab<|bH 2 G.c5<|ao (ay 0)<|ao (ab<|aC h4 (ab<|aw<|.int 32)<|ay 2) aJ)<|ao (ab<|bH 2 G.c5<|ao (ay 0)<|ao (ab<|aC h4 (ab<|aw<|.int 32)<|ay 3) aJ) aJ)<|bZ (cX 6<|e6 1 [4,3,5] (gH<|ao (ab<|aC dE (ay 2)<|ay 3) aJ) (cf 0) hY G.t5)<|bZ (dN (bM<|aC gO (ay 1)<|ab<|aw<|.int 2) (dt<|cI la<|ao (ay 6) aJ) e5)<|bZ (dN (bM<|aC gO (ay 1)<|ab<|aw<|.int 6) (bZ (cX 7<|aC bD (ab<|e7<|ao (ab<|aw<|.int 2)<|ao (ab<|aw<|.int 3)<|ao (ab<|aw<|.int 4)<|ao (ab<|aw<|.int 8) aJ)<|ab<|bH 2 G.c5<|ao (ay 0)<|ao (ab<|aw<|.int 4) aJ)<|dt<|cI la<|ao (ab<|e6 1 [0,7] (gw<|ay 6) (cf 0) G.ta G.w4) aJ) e5)<|dt<|bH 2 G.qu<|ao (ay 0)<|ao (ab<|aC c1 (ab<|aw<|.int 1)<|ab<|bH 2 G.c5<|ao (ay 0)<|ao (ab<|aC bD (ab<|e7<|ao (ab<|aw<|.int 6)<|ao (ab<|aw<|.int 24)<|ao (ab<|aw<|.int 60) aJ)<|ab<|bH 2 G.c5<|ao (ay 0)<|ao (ab<|aw<|.int 3) aJ) aJ) aJ))
def qm:dm:=(dB 1 8 [0] wh)
end G
namespace jD
variable{k Lp:Type}[DecidableEq k][DecidableEq Lp]
structure J7(Ls:k->Lp->Prop)(m:Lp->Option k)(cR:k->Option Lp)(LL:List Lp):Prop where
 inv:∀p v,m p=Z v↔cR v=Z p
 JT:∀p v,m p=Z v->Ls v p
 ak:LL.Nodup
 mem:∀p,p∈LL↔∃v,m p=Z v
def put{O L5:Type}[DecidableEq O](R:O->Option L5)(g:O)(c:L5):O->Option L5:=(λf=>if f=g then Z c else R f)
structure Ek(Ls:k->Lp->Prop)(cR:k->Option Lp)(a:Lp->Option k)(b:Lp->Nat):Prop where
 JT:∀p v,a p=Z v->Ls v p
 lo:∀p v Mc,a p=Z v->cR v=Z Mc->(∃Mk,a Mc=Z Mk)/\b Mc<b p
variable{Ls:k->Lp->Prop}{m:Lp->Option k}{cR e:k->Option Lp}{a:Lp->Option k}{b:Lp->Nat}{LL:List Lp}{p:Lp}
end jD
namespace jD
variable{k Lp:Type}[DecidableEq k][DecidableEq Lp]{Ls:k->Lp->Prop}{m:Lp->Option k}{cR:k->Option Lp}{a:Lp->Option k}{LL:List Lp}{A:List k}{b e:k->Prop}{s:Nat}
end jD
namespace jD
abbrev hO:=Int×Int
def AH(Ly:Int->Prop)(a i:Int):Prop:=(∀n,(a<=n/\n<=i\/i<=n/\n<=a)->Ly n)
def In(N:hO->Prop):Bool->hO->hO->Prop
 |true,f,l=>f.2=l.2/\AH (λa=>N (a,f.2)) f.1 l.1
 |false,f,l=>f.1=l.1/\AH (λi=>N (f.1,i)) f.2 l.2
variable{N Ly h:hO->Prop}{c:Bool}{f l B:hO}
def dx(N:hO->Prop)(L:List (Bool×hO)):Prop:=(∀o,N o->∃u∈L,In N u.1 u.2 o)
end jD
namespace jD
variable{N Ly h:hO->Prop}{c:Bool}{f l B:hO}
end jD
namespace jD
variable{k Lp:Type}[DecidableEq k][DecidableEq Lp]{Ls:k->Lp->Prop}{m:Lp->Option k}{cR:k->Option Lp}{LL:List Lp}{aH:Lp->Prop}{N:hO->Prop}
variable{hd:k->hO}{LG:Lp->hO}
end jD
namespace G
open L2
variable{L0:Type}{s:Nat}{aj:List a6}{i a:Int}{o:a6}{c:Bool}
abbrev ck:=Bool×a6×Nat
variable{A:List ck}
def bG:Bool->X
 |true=>.str "down"
 |false=>.str "right"
def kQ(p:ck):List X:=([bG p.1,aL p.2.1,.int p.2.2])
def ea(p:ck):X:=(.tup (kQ p))
def DZ(p j:ck)(e:kQ p=kQ j):p=j:=by
 let⟨c,o,s⟩:=p;let⟨a,f,b⟩:=j;unfold kQ at e;simp only[zq,and_true,X.int.injEq]at e;have z:=vx e.2.1;have d:s=b:=by have:=e.2.2;lia
 subst z d;cases c<;>cases a
 ·rfl
 ·exact absurd e.1 ∅
 ·exact absurd e.1 ∅
 ·rfl
def Eh{p j:ck}(e:ea p=ea j):p=j:=DZ p j (X.tup.inj e)
abbrev fA(A:List ck):ai:=.lst (A.map ea)
abbrev fb(A:List ck):ai:=.im (.tup<|A.map ea)
def bg(c:Bool)(o:a6)(n:Int):a6:=(if c then (o.1+n,o.2) else (o.1,o.2+n))
def wj(c:Bool)(o:a6)(n:Int):rR [.im (bG c),.im<|aL o,ax n]=Z (.im<|aL<|bg c o n,[.im (bG c),.im<|aL o,ax n]):=by cases c<;>rfl
def FY(e:bg c o a=bg c o i):a=i:=by
 cases c
 ·have:o.2+a=o.2+i:=congrArg Prod.snd e;lia
 ·have:o.1+a=o.1+i:=congrArg Prod.fst e;lia
def iM(c:Bool)(o:a6):bg c o 0=o:=by
 let⟨f,l⟩:=o;cases c
 ·show (f,l+0)=_;rw[yx]
 ·show (f+0,l)=_;rw[yx]
def q3(c:Bool)(o:a6)(a i:Int):bg c (bg c o a) i=bg c o (a+i):=by
 cases c
 ·show (o.1,o.2+a+i)=(o.1,o.2+(a+i));rw[zc]
 ·show (o.1+a+i,o.2)=(o.1+(a+i),o.2);rw[zc]
structure iE(aj:List a6)(c:Bool)(o:a6)(s:Nat):Prop where
 pos:1<=s
 rf:∀i:Nat,i<s->bg c o i∈aj
 out:bg c o s∉aj
def iE.uniq{H:Nat}(e:iE aj c o s)(F:iE aj c o H):s=H:=by
 rcases yb s H with B|B|B
 ·exact absurd (F.rf s B) e.out
 ·exact B
 ·exact absurd (e.rf H B) F.out
def fy(aj:List a6)(c:Bool)(o:a6):Nat:=(Classical.epsilon (iE aj c o))
def yH(e:∀i:Nat,i<s->bg c o i∈aj):s<=aj.length:=by
 have:=H2 (l₁:=(range s).map λ(i:Nat)=>bg c o (i:Int)) (l₂:=aj) ?_ λf b=>?_
 ·rwa [bF,hW]at this
 ·exact m7 (λa W i W d=>by have:=FY d;lia) tG
 ·let⟨i,g,rfl⟩:=fN.mp b;exact e i (gq.mp g)
def xC(b:o∈aj)(h:aj.length<=1000):∃s,iE aj c o s/\oz [.br (bL aj),.im<|bG c,.im<|aL o]=Z (.im<|ea (c,o,s),[.br (bL aj),.im<|bG c,.im<|aL o]):=by
 have cond:∀n:Nat,vk [Z (.br<|bL aj),Z<|.im<|bG c,Z<|.im<|aL o,Z<|ax n]=Z (decide (bg c o n∈aj),[Z (.br<|bL aj),Z<|.im<|bG c,Z<|.im<|aL o,Z<|ax n]):=λn=>fc (cJ (bS<|eZ (LM:=[.bx 1,.bx 2,.bx 3]) rfl rfl rfl (wj c o n) rfl) rfl rfl rfl<|Ii aj _);let⟨LJ,d,⟨s,rfl,Mr⟩⟩:=Ex (o:=vk) (c:=zR) (λH k=>∃n:Nat,k=[Z (.br<|bL aj),Z<|.im<|bG c,Z<|.im<|aL o,Z<|ax n]/\1<=n/\(∀i:Nat,i<n->bg c o i∈aj)/\aj.length+1-n<=H) (λk=>∃n:Nat,k=[Z (.br<|bL aj),Z<|.im<|bG c,Z<|.im<|aL o,Z<|ax n]/\iE aj c o n)
  (λH k d5=>by
   let⟨n,rfl,y,z,j⟩:=d5;refine⟨_,_,cond n,λe=>?_,λf=>⟨n,rfl,y,z,of_decide_eq_false f⟩⟩;have a:∀i:Nat,i<n+1->bg c o i∈aj:=λi g=>by
    rcases mG i n with B|B
    ·exact z i B
    ·rw[show i=n by lia];exact fK e
   have:=yH a;exact⟨.bh,[Z (.br<|bL aj),Z<|.im<|bG c,Z<|.im<|aL o,Z<|ax (n+1:Nat)],rfl,.inl rfl,aj.length+1-(n+1),⋯,n+1,rfl,⋯,a,bq _⟩) 1000000 (aj.length+1-1) [Z (.br<|bL aj),Z<|.im<|bG c,Z<|.im<|aL o,Z<|ax (1:Nat)] ⟨1,rfl,bq _,λi g=>by rw[show i=0 by lia];show bg c o 0∈aj;rw[iM];exact b,bq _⟩ ⋯
 refine⟨s,Mr,?_⟩;unfold oz BG;exact hb (k:=[Z (.br<|bL aj),Z<|.im<|bG c,Z<|.im<|aL o,Z<|ax s]) rfl (cm (T:=[Z (.br<|bL aj),Z<|.im<|bG c,Z<|.im<|aL o,Z<|ax (1:Nat)]) rfl<|cm d rfl) rfl
def rN(a:o∈aj)(b:aj.length<=1000):iE aj c o (fy aj c o):=by
 let⟨s,e,W⟩:=xC (c:=c) a b;exact @Gv Nat (iE aj c o) ⟨s,e⟩
abbrev lV(aj:List a6)(c:Bool)(o:a6):ck:=(c,o,fy aj c o)
def EF(a:o∈aj)(b:aj.length<=1000):oz [.br (bL aj),.im<|bG c,.im<|aL o]=Z (.im<|ea<|lV aj c o,[.br (bL aj),.im<|bG c,.im<|aL o]):=by
 let⟨s,e,d⟩:=xC (c:=c) a b;have:=(rN a b).uniq e;subst this;exact d
def au(aj:List a6)(c:Bool):List a6:=(aj.filter λo=>!decide (bg c o (-1)∈aj))
def dI(aj:List a6)(c:Bool):List ck:=((au aj c).map (lV aj c))
def Fc(ak:aj.Nodup)(a:aj.length<=1000):nM [cg aj]=Z (.br<|bL aj,[cg aj]):=by
 have:=Ir (b:=aj) ⋯
 rwa [wF I0 aj [] (by exact ak)]at this
def wB(ak:aj.Nodup)(a:aj.length<=1000)(c:Bool):nL [cg aj,.im<|bG c]=Z (fA<|dI aj c,[cg aj,.im<|bG c]):=by
 have c2:e6 1 [1,2] (gw<|ay 0) (cf 0) G.Bv G.wm [Z (cg aj),Z<|.im<|bG c,Z<|.br<|bL aj]=Z (.lst<|(aj.filter λo=>!decide (bg c o (-1)∈aj)).map λo=>ea<|lV aj c o,[Z (cg aj),Z<|.im<|bG c,Z<|.br<|bL aj]):=by
  refine nq (C:=aj.map aL) (m:=Y) (T:=[Z (cg aj),Z<|.im<|bG c,Z<|.br<|bL aj]) rfl (qw aL (λo=>!decide (bg c o (-1)∈aj)) (λo=>ea<|lV aj c o) _ [] (λo b=>?_) (by rw[mv];lia)) rfl;refine⟨[Z (.im<|aL o),Z<|.im<|bG c,Z<|.br<|bL aj],[Z (.im<|aL o),Z<|.im<|bG c,Z<|.br<|bL aj],rfl,fc<|cJ (bS<|eZ (LM:=[.bx 1,.bx 0,.c_<|ax<|-1]) rfl rfl rfl (wj c o<|-1) rfl) rfl rfl rfl<|EZ aj _,λ_=>rfl,λ_=>⟨[Z (.im<|aL o),Z<|.im<|bG c,Z<|.br<|bL aj],eZ (LM:=[.bx 2,.bx 1,.bx 0]) rfl rfl rfl (EF b a) rfl,rfl⟩⟩
 unfold nL xm;refine hb (k:=[Z (cg aj),Z<|.im<|bG c,Z<|.br<|bL aj]) rfl (cm (T:=[Z (cg aj),Z<|.im<|bG c,Z<|.br<|bL aj]) (nf (eZ (LM:=[.bx 0]) rfl rfl rfl (Fc ak a) rfl) (hr rfl) rfl)<|gn<|c2.trans ?_) rfl;unfold dI au fA;rw[hZ];rfl
def cls(p:ck):List a6:=((range p.2.2).map λ(n:Nat)=>bg p.1 p.2.1 (n:Int))
abbrev k5(aj:List a6):a6->Prop:=λo=>o∈aj
section
variable{aj:List a6}{c:Bool}
def F5{e:a6}:e∈au aj c↔e∈aj/\bg c e (-1)∉aj:=by
 unfold au;rw[uy,l6,rD]
def wu(a:aj.length<=1000){p:ck}(LG:p∈dI aj c):p.1=c/\p.2.1∈aj/\p.2.2<=aj.length:=by
 let⟨e,b,rfl⟩:=fN.mp LG;have:=(F5.mp b).1;exact⟨rfl,this,yH (rN this a).rf⟩
end
def wi(ak:aj.Nodup):(dI aj c).Nodup:=m7 (λf W l W d=>congrArg (λp:ck=>p.2.1) d) (ak.sublist List.filter_sublist)
def xe:(dI aj c).length<=aj.length:=by
 unfold dI;rw[bF];exact List.length_filter_le _ _
def ES(aj:List a6)(o:a6):ck:=(Classical.epsilon λp=>p∈dI aj ar/\o∈cls p)
def ac(aj:List a6)(v:ck):List ck:=((cls v).map (ES aj))
def yO{Mx:Type}{e:L0->Mx}{L H:List Mx}(u:L.Perm H):∀LL:List L0,H=LL.map e->∃a:List L0,a.Perm LL/\L=a.map e:=by
 induction u with
 |nil=>intro LL d;exact⟨LL,.refl _,d⟩
 |cons f _ g=>
  intro LL d;cases LL with
  |nil=>cases d
  |cons n LL=>
   rw[c3]at d;let⟨b,c⟩:=List.cons.inj d;let⟨a,y,z⟩:=g LL c;exact⟨n::a,y.cons n,by rw[c3,<-z,b]⟩
 |swap f l L=>
  intro LL d;cases LL with
  |nil=>cases d
  |cons n LL=>
   cases LL with
   |nil=>cases d
   |cons L_ LL=>
    rw[c3,c3]at d;let⟨b,c⟩:=List.cons.inj d;let⟨h,i⟩:=List.cons.inj c;exact⟨L_::n::LL,.swap ..,by rw[c3,c3,b,h,i]⟩
 |trans _ _ j k=>
  intro LL d;let⟨a,y,z⟩:=k LL d;let⟨m,o,p⟩:=j a z;exact⟨m,o.trans y,p⟩
theorem uV(a:L0->List X):∀L:List L0,i_ [.lst (L.map λf=>.tup<|a f)]=i0 (L.map λf=>.tup<|a f)
 |[]=>rfl
 |_::_=>rfl
def tr(D r:ck):dJ 6 (ea D) (ea r)=V:=by
 let⟨c,o,s⟩:=D;let⟨a,b,d⟩:=r;cases c<;>cases a<;>rfl
def oZ(A:List ck):Prop:=(A.Pairwise λg c=>bc (ea g) (ea c)=V)
def FX(ak:A.Nodup)(b:A.length<=1000):j8 (A.map ea):=by
 refine⟨⟨by rw[bF];exact b,λf a l e=>?_,m7 (λf W l W d=>Eh d) ak⟩,.inl λf a=>?_⟩
 ·let⟨D,W,rfl⟩:=fN.mp a;let⟨r,W,rfl⟩:=fN.mp e;exact tr D r
 ·let⟨⟨c,o,s⟩,g,rfl⟩:=fN.mp a;cases c<;>rfl
def xr(ak:A.Nodup)(a:A.length<=1000):∃LA:List ck,i0 (A.map ea)=Z (fA LA)/\LA.Perm A/\oZ LA:=by
 have m:=FX ak a;let⟨LA,y,z⟩:=yO (h2<|A.map ea) A rfl;refine⟨LA,?_,y,?_⟩
 ·unfold i0;rw[aK (n6.mpr m),z]
 ·have:=qk m.ord.ak m.ord.hJ;rw[z]at this;exact rL.mp this
def dc(c:Bool)(o:a6):Int×Int:=(if c then (o.2,o.1) else (o.1,o.2))
def ru(c:Bool)(o:a6)(n:Int):dc c (bg c o n)=((dc c o).1,(dc c o).2+n):=by cases c<;>rfl
def dP(c:Bool)(o v:a6):Prop:=((dc c o).1<(dc c v).1\/((dc c o).1=(dc c v).1/\(dc c o).2<(dc c v).2))
def dP.uw(e:dP c o o):False:=by unfold dP at e;lia
def dP.tH{v:a6}(e:dP c o v)(F:dP c v o):False:=by unfold dP at e F;lia
def dP.next{f:a6}(e:dP c o f)(F:dP c f (bg c o 1)):False:=by
 unfold dP at e F;rw[ru]at F;dsimp only at F;lia
def p9:dP c o (bg c o 1):=by
 unfold dP;rw[ru];dsimp only;lia
def iU(c:Bool)(U:List ck)(f:a6):List ck:=(match U with
 |[]=>[(c,f,1)]
 |p::E=>if bg c p.2.1 ((p.2.2:Int)-1)=bg c f (-1) then (c,p.2.1,p.2.2+1)::E else (c,f,1)::p::E)
structure iv(aj:List a6)(c:Bool)(b:List a6)(U:List ck):Prop where
 wf:∀p∈U,p.1=c/\1<=p.2.2/\(∀i:Nat,i<p.2.2->bg c p.2.1 (i:Int)∈aj)/\bg c p.2.1 (-1)∉aj
 cl:∀p∈U.tail,bg c p.2.1 (p.2.2:Int)∉aj
 av:∀l,b.getLast?=Z l->∃p E,U=p::E/\l=bg c p.2.1 ((p.2.2:Int)-1)
 no:b=[]->U=[]
 hd:U.map (·.2.1)=(b.filter λo=>!decide (bg c o (-1)∈aj)).reverse
def iv.start(aj:List a6)(c:Bool):iv aj c [] []:=⟨λ_ e=>(by cases e),λ_ e=>(by cases e),λ_ e=>(by cases e),λ_=>rfl,rfl⟩
theorem q9{c:Bool}:∀{L:List a6}{l:a6},L.Pairwise (dP c)->L.getLast?=Z l->∀g∈L,g=l\/dP c g l
 |[],_,_,e,_,_=>by cases e
 |[o],l,_,e,g,a=>by
  cases e;exact .inl (dk.mp a)
 |o::v::p,l,u,e,g,a=>by
  rw[List.getLast?_cons_cons]at e;have q:=fW.mp u;rcases cu.mp a with rfl|a
  ·exact .inr (q.1 l<|sF e)
  ·exact q9 q.2 e g a
section
variable{aj h b cU:List a6}{c:Bool}{f:a6}{U:List ck}
def zG(au:h=b++f::cU)(i:h.Pairwise (dP c))(j:∀o,o∈h↔o∈aj)(e:bg c f (-1)∈aj):b.getLast?=Z (bg c f<|-1):=by
 subst au;have a:=sD.mp i;have n:dP c (bg c f<|-1) f:=by
  unfold dP;rw[ru];dsimp only;lia
 have d:bg c f (-1)∈b:=by
  rcases er.mp ((j _).mpr e) with B|B
  ·exact B
  ·rcases cu.mp B with B|B
   ·rw[B]at n;exact n.uw.elim
   ·exact (n.tH<|(fW.mp a.2.1).1 _ B).elim
 cases g:b.getLast? with
 |none=>rw[qT.mp g]at d;cases d
 |some l=>
  rcases q9 a.1 g _ d with B|B
  ·rw[B]
  ·have k:=a.2.2 l (sF g) f (.head _);unfold dP at B k;rw[ru]at B;dsimp only at B;exact absurd B ⋯
def D7(au:h=b++f::cU)(i:h.Pairwise (dP c))(j:∀o,o∈h↔o∈aj){l:a6}(g:b.getLast?=Z l)(e:bg c l 1∈aj):f=bg c l 1:=by
 subst au;have a:=sD.mp i;have k:=sF g;rcases er.mp ((j _).mpr e) with B|B
 ·rcases q9 a.1 g _ B with d|d
  ·have:=p9 (c:=c) (o:=l);rw[d]at this;exact this.uw.elim
  ·exact (p9.tH d).elim
 ·rcases cu.mp B with d|d
  ·exact d.symm
  ·exact ((a.2.2 l k f<|.head _).next<|(fW.mp a.2.1).1 _ d).elim
def pa{n:Int}(e:a+i=n):bg c (bg c o a) i=bg c o n:=by rw[q3,e]
def iv.step(t:iv aj c b U)(au:h=b++f::cU)(s:h.Pairwise (dP c))(r:∀o,o∈h↔o∈aj):iv aj c (b++[f]) (iU c U f):=by
 have v:f∈aj:=(r f).mp (by rw[au];exact dr _ (.head _));have one:(c,f,1).1=c/\1<=(c,f,1).2.2/\(∀i:Nat,i<(c,f,1).2.2->bg c (c,f,1).2.1 (i:Int)∈aj):=⟨rfl,bq 1,λi u=>by
  have:i=0:=Nat.lt_one_iff.mp u;subst this;show bg c f 0∈aj;rw[iM];exact v⟩
 have hx:∀(E:List ck) (l:a6),(b++[f]).getLast?=Z l->∃p LY,((c,f,1)::E:List ck)=p::LY/\l=bg c p.2.1 ((p.2.2:Int)-1):=λE l e=>by
  rw[tn,uR]at e;cases e;exact⟨_,_,rfl,(iM c f).symm⟩
 cases U with
 |nil=>
  have m:b=[]:=by
   cases g:b.getLast? with
   |none=>exact qT.mp g
   |some l=>let⟨W,W,d,W⟩:=t.av l g;cases d
  have k:bg c f (-1)∉aj:=λB=>by
   have:=zG au s r B;rw[m]at this;cases this
  subst m;refine⟨λp LG=>?_,λ_ e=>(by cases e),hx [],λe=>by simp at e,?_⟩
  ·rw[dk.mp LG];exact⟨one.1,one.2.1,one.2.2,k⟩
  ·show [f]=_;rw[qO,om,aK ⇑k];rfl
 |cons p E=>
  have g:b.getLast?=Z (bg c p.2.1<|(p.2.2:Int)-1):=by
   cases g:b.getLast? with
   |none=>have:=t.no (qT.mp g);cases this
   |some l=>
    let⟨Mc,LY,d,x⟩:=t.av l g;cases d;rw[x]
  let⟨D,F,w,y⟩:=t.wf p (.head _);unfold iU;dsimp only;split
  ·rename_i n;have Mb:f=bg c p.2.1 (p.2.2:Int):=by
    have z:f=bg c (bg c f<|-1) 1:=by rw[q3];exact (iM c f).symm
    rw[z,<-n];exact pa ⋯
   have A:bg c f (-1)∈aj:=by
    rw[<-n];have:=w (p.2.2-1) ⋯
    rwa [show ((p.2.2-1:Nat):Int)=(p.2.2:Int)-1 by lia]at this
   refine⟨λj a=>?_,λj a=>t.cl j a,λl e=>?_,λe=>by simp at e,?_⟩
   ·rcases cu.mp a with rfl|a
    ·refine⟨rfl,by show 1<=p.2.2+1;lia,λi u=>?_,y⟩;rcases mG i p.2.2 with q|q
     ·exact w i q
     ·have:i=p.2.2:=by have:i<p.2.2+1:=u;lia
      subst this;show bg c p.2.1 (p.2.2:Int)∈aj;rw[<-Mb];exact v
    ·exact t.wf j (.tail _ a)
   ·rw[tn,uR]at e;cases e;refine⟨_,_,rfl,?_⟩;show f=bg c p.2.1 (((p.2.2+1:Nat):Int)-1);rw[show ((p.2.2+1:Nat):Int)-1=(p.2.2:Int) by lia];exact Mb
   ·rw[zV,om,aM ⇑A,Ad,bN];exact t.hd
  ·rename_i n;have k:bg c f (-1)∉aj:=λB=>by
    have:=zG au s r B;rw[g]at this;exact n (Option.some.inj this)
   have C:bg c p.2.1 (p.2.2:Int)∉aj:=λB=>by
    have d:bg c (bg c p.2.1<|(p.2.2:Int)-1) 1=bg c p.2.1 (p.2.2:Int):=pa ⋯;have:=D7 au s r g (by rw[d];exact B);refine n ?_;rw[this,q3];exact (iM c _).symm
   refine⟨λj a=>?_,λj a=>?_,hx _,λe=>by simp at e,?_⟩
   ·rcases cu.mp a with rfl|a
    ·exact⟨one.1,one.2.1,one.2.2,k⟩
    ·exact t.wf j a
   ·rcases cu.mp (show j∈p::E from a) with rfl|a
    ·exact C
    ·exact t.cl j a
   ·rw[zV,om,aK ⇑k,Ad,List.reverse_append,<-t.hd];rfl
end
def lE(c:Bool)(U:List ck)(C:List a6):List ck:=(C.foldl (iU c) U)
theorem iv.all{aj h:List a6}{c:Bool}(a:h.Pairwise (dP c))(d:∀o,o∈h↔o∈aj):∀(cU b:List a6) {U:List ck},iv aj c b U->h=b++cU->iv aj c h (lE c U cU)
 |[],b,U,t,au=>by rw[au,bN];exact t
 |f::cU,b,U,t,au=>iv.all a d cU (b++[f]) (t.step au a d) (by rw[au];simp)
def Fd{h:List a6}(k:aj.length<=1000)(f:h.Pairwise (dP c))(L3:h.Perm aj):(lE c [] h).reverse.Perm (dI aj c):=by
 have g:∀o,o∈h↔o∈aj:=λo=>L3.mem_iff;have t:=iv.all f g h [] (iv.start aj c) rfl;generalize lE c [] h=U at t;have m:∀p∈U,p=lV aj c p.2.1:=λp LG=>by
  let⟨n,i,j,v⟩:=t.wf p LG;have r:p.2.1∈aj:=by have:=j 0 i;rwa [show ((0:Nat):Int)=0 from rfl,iM]at this
  have out:bg c p.2.1 (p.2.2:Int)∉aj:=by
   cases U with
   |nil=>cases LG
   |cons F E=>
    rcases cu.mp LG with rfl|LG
    ·intro B;cases b:h.getLast? with
     |none=>have:=t.no (qT.mp b);cases this
     |some l=>
      let⟨Mc,LY,d,u⟩:=t.av l b;cases d;have e:bg c l 1=bg c p.2.1 (p.2.2:Int):=by rw[u];exact pa ⋯
      rcases q9 f b _ ((g _).mpr (e ▸ B:bg c l 1∈aj)) with q|q
      ·have:=p9 (c:=c) (o:=l);rw[q]at this;exact this.uw
      ·exact p9.tH q
    ·exact t.cl p LG
  have:=(iE.uniq ⟨i,j,out⟩<|rN r k);let⟨a,o,s⟩:=p;cases n;show (a,o,s)=(a,o,fy aj a o);rw[show s=fy aj a o from this]
 have e:U=(U.map (·.2.1)).map (lV aj c):=by
  rw[hZ];refine (yT U).symm.trans (nN λp LG=>m p LG)
 rw[e,t.hd,<-List.map_reverse,List.reverse_reverse];exact (L3.filter _).map _
end G
namespace L2
open Spec PyProof.Rows
variable{Ls:aa->ag->Prop}{O:a9}{k:List (az×af)}{LD:dU}{Mv:a7}{My:nX}{N:af}{LC:Pos}{h:aq}
abbrev kd:d8:=.ext λ_=>True
def tE{LF:bf}{I:a5}{e:a0}{g:af}{m:aQ}(d:e.get? g=Z m):dG LF I h e g (.b8 m kd):=⟨d,trivial,⟨m,d⟩,λ_ W W W=>trivial⟩
def Cz{MC:Pos}{o a:aa}(L:List aa)(e:tk L)(d:l9 MC (L++[ep LC.line,ep LC.col,o])=Z a):l9 MC L=Z a\/a=o:=by
 fun_induction tk L
 ·simp only[qO,l9,ep]at d;split at d
  ·exact .inr (Option.some.inj d).symm
  ·cases d
 ·rename_i g E c D f cU b;simp only[nK,l9]at d ⊢;split at d
  ·rename_i q;rw[aK q];exact .inl d
  ·rename_i q;rw[aM q];exact b e d
 ·exact e.elim
def oH(h:aq)(N:af)(My:nX)(Mv:a7)(LD:dU)(k:List (az×af)):Prop:=(
 ∃L3 o a Mo Q E,h N=Z (.b8 (Φe "<lambda>" gJ My Mv LD k L3 o a) kd)/\h o=Z (.b8 Mo kd)/\Mo.data=.fields Q/\Q[1]?=Z (.str gJ E))
def oH.same{P:aq}(L:oH h N My Mv LD k)(n:bz h P):oH P N My Mv LD k:=
 let ⟨L3,o,a,Mo,Q,E,g,c,p⟩:=L;⟨L3,o,a,Mo,Q,E,n _ _ g,n _ _ c,p⟩
section
variable{b:aE}{M:List (af×aQ)}{w:aW}{h:aq}{j:ag}
def GW{aB:ft}{Mz cG:af}{x:aa->ag->Prop}(t:aA b M w h j)(cl:Ξ b.K "_law_runs_of" = Z (Mz,cG))(ap:b.env.code=.ref Mz)(co:b.env.qual ++ "<lambda>" = gJ)(as:qP LD b.env=pure k)(e:∀N Lw a1,aA b M w Lw a1->bz h Lw->oH Lw N My Mv LD k->x (.ref N) a1):
  wpAny aB O (makeFunction "<lambda>" (b.env.qual ++ "<lambda>") My (.expr Mv) LD b.env [] [] [] LC LC.line) x Ls j:=by
 rw[co];let⟨z,cr⟩:=t.cy Mz cG cl;let⟨LO,o,A,a2⟩:=t.aT cG _ z;have aH:=cr.hd t.lr;have F:=t.mod.glob.keeps t.d_;let⟨J,m,cs,db,ds,bd,dL,eq,be⟩:=t.mod.bm;have bi:j.heap.BuiltinsAt b.aI cG:=⟨J,m,cs,db,ds,(λB=>by
  have:=t.d_ J m bd;rw[B,o]at this;cases this;cases be),t.d_ J m bd,dL,eq,be⟩
 have ev:cT≠cG:=λB=>by
  let⟨LZ,Lu,Mg,d,hd,U⟩:=F;rw[B,o]at d;cases d;cases hd
 cases L:l9 LC LO.toList with
 |some R=>
  let⟨a,Mo,Q,E,rfl,S,T,al⟩:=a2 LC R L;refine PySem.W.kla_makeFunctionHit as t.ok.glob F ap aH o A L bi λu Lq Md ex bn=>?_;have fd:h Lq.objs.size=Y:=t.aT.fresh bn;have f:bz h (upd h Lq.objs.size<|.b8 (Φe "<lambda>" gJ My Mv LD k ((b.aI "__name__").getD .none) a u) kd):=λg m d=>by rw[bB (eM d fd)];exact d
  exact e _ _ _ (t.laid (LY:=Md) (λc D d=>b4 _<|ex c D d) bn<|tE<|df _ rfl) f ⟨_,a,u,Mo,Q,E,de,f _ _ S,T,al⟩
 |none=>
  refine PySem.W.kla_makeFunction as t.ok.glob F ap aH o A L ev bi λa u Lq Md fn G am fr f0=>?_;let⟨g3,Mo,Q,E,f1,f2,hd,bs⟩:=fr;cases f1;generalize bv:Φe "<lambda>" gJ My Mv LD k ((b.aI "__name__").getD .none) a u=y;have f4:∀c m,h c=Z m->c≠a:=λc m d B=>by rw[B,t.aT.fresh G]at d;cases d
  have f8:∀c m,h c=Z m->c≠Lq.objs.size:=λc m d B=>by rw[B,t.aT.fresh<|dv G<|nU am]at d;cases d
  have ca:a≠Lq.objs.size:=c8 am;have f:bz h (upd (upd h a<|.b8 Mo kd) Lq.objs.size<|.b8 y kd):=λg m d=>by rw[bB (f8 g m d),bB<|f4 g m d];exact d
  have n:∀c m,c≠cG->j.heap.get? c=Z m->(Lq.push y).get? c=Z m:=λc m s d=>b4 _ (fn c m s d);have I:∀c,h c≠Z .fo->c≠cG:=λc s B=>s (B ▸ z);have an:(Lq.push y).get? cG=Z (Δ<|LO++#[ep LC.line,ep LC.col,.ref a]):=b4 _ f0;have cd:∀c m,j.heap.get? c=Z m->c≠a/\c≠Lq.objs.size:=λc m d=>⟨c8<|dn (bQ d) G,c8<|dn (bQ d)<|dv G<|nU am⟩;refine e _ _ _ (t.step (MF:=j.gens) (Mk:=j.drawn) (LY:=Md) (Lq:=Lq.push y) (P:=upd (upd h a<|.b8 Mo kd) Lq.objs.size (.b8 y kd)) (Mt:=[]) (λ_ B=>nomatch B) (λc m U U U d s=>n c m (I c (by rw[s];simp)) d) (λc m U U U d s=>⟨m.slots,n c m (I c (by rw[s];simp)) d⟩)
   (λc m U d s=>by rw[bB (cd c m d).2,bB (cd c m d).1];exact s) (λc m U d=>?_) (λc m C U d E=>n c m (I c (by rw[E];simp)) d) (λc C d=>f _ _ d) (λc m D d=>f _ _ d) (λc d=>⟨f _ _ d,λ_ he q=>?_⟩)
   (λH ga=>?_) (λc D d=>?_) t.bare) f ⟨(b.aI "__name__").getD .none,a,u,Mo,Q,E,?_,?_,hd,bs⟩
  ·by_cases i:c=cG
   ·exact⟨_,by rw[i];exact an⟩
   ·exact⟨m,n c m i d⟩
  ·by_cases i:c=cG
   ·rw[i]at q ⊢;rw[o]at q;cases q;exact⟨_,an⟩
   ·exact⟨#[],by rw[n c _ i q];simp⟩
  ·let⟨LZ,Lu,Mg,ge,p⟩:=ga;exact⟨LZ,Lu,Mg,n _ LZ (I _ (by rw[t.free];simp)) ge,p⟩
  ·by_cases ce:c=Lq.objs.size
   ·subst ce;rw[de]at d;cases d;exact tE (df _ (by rw[<-bv];rfl))
   ·rw[bB ce]at d;by_cases ch:c=a
    ·subst ch;rw[de]at d;cases d;exact tE (b4 _ f2)
    ·rw[bB ch]at d;by_cases i:c=cG
     ·subst i;rw[z]at d;cases d;refine⟨_,an,?_,λMC R ci=>?_⟩
      ·rw[show (LO++#[ep LC.line,ep LC.col,aa.ref a]).toList=LO.toList++[ep LC.line,ep LC.col,.ref a] by simp];exact TriplesOk_snoc _ _ _ _ A
      ·rw[show (LO++#[ep LC.line,ep LC.col,aa.ref a]).toList=LO.toList++[ep LC.line,ep LC.col,.ref a] by simp]at ci;rcases Cz _ A ci with B|B
       ·let⟨gl,go,gt,g1,S,T,al⟩:=a2 MC R B;exact⟨gl,go,gt,g1,S,f _ _ T,al⟩
       ·exact⟨a,Mo,Q,E,B,by rw[bB ca,de],hd,bs⟩
     ·refine (t.aT c D d).fC (λv r g2 q=>n v r (λB=>?_) q) (λv q=>f _ _ q) (λv C q=>f _ _ q) λv m D q=>f _ _ q;rcases g2 with l|l
      ·exact i (l.symm.trans B)
      ·rw[B,z]at l;cases l
  ·rw[<-bv];exact de
  ·rw[bB ca,de]
end
def mB(b:aE)(O:a9)(LR:List az)(LD:dU)(N:af)(a:aa)(c:List (az×af))(j:ag)(h:aq):aE where
 prog:=b.prog
 w:=b.w
 K:=b.K
 aI:=b.aI
 base:=b.base
 A:=O.deeper (Ω gJ LD j.heap.objs.size N a c)
 N:=LR
 dF:=j
 iK:=h
 env:=Ω gJ LD j.heap.objs.size N a c
 outer:=b.stack
 stack:=Ω gJ LD j.heap.objs.size N a c::b.stack
 ex:=[]
 fn:=λ_=>ar
 calm:=V
 cV:=[]
 bX:=λ_ U=>False
section
variable{b:aE}{M:List (af×aQ)}{w:aW}{h:aq}{j:ag}
structure sl(LD:dU)(cV C:az):Prop where
 kind:LD.kind=.function
 co:LD.isCoroutine=ar
 gen:LD.isGenerator=ar
 ne:cV≠C
 loc:LD.names.lookup cV=Z .local
 HC:LD.names.lookup C=Z .free
 qW:∀f∈LD.names,f.2≠.cell
 one:∀f∈LD.names,f.2=.free->f.1=C
def Cd{H al:Nat}{k:af}{cV C:az}{Ma:aB ai}{v n bG:X}{r F:ah}{D:aa}{LJ:aU}(t:aA b M w h j)(bv:O.frames=Z b.stack)(LG:cQ (H+1) O)(Mr:oH h N My Mv LD [(C,k)])(LX:sl LD cV C)(ca:∀(L3:aa) (o:af) (ap g:aa),iD (PySem.W.kla_fn "<lambda>" gJ My Mv LD [(C,k)] L3 (.ref o) ap) ⟨[g],[]⟩=pure [(cV,g)])(cd:b.N[al]?=Z C)(as:b.env.kindOf C=Z .cell)(a1:b.env.cells.lookup C=Z k)(ce:w[al]?=Z (Z F))(ch:b9 h bG F)(hd:b9 h v r)(ci:bC r D)(cl:∀(N:af) (a2:aa) (j:ag) (h:aq),cQ H (mB b O [cV,C] LD N a2 [(C,k)] j h).A->b0 (mB b O [cV,C] LD N a2 [(C,k)] j h) Mv Ma)(cr:Ma [Z (.im v),Z<|.im bG]=Z (.im n,LJ)):
  wpAny (aP b.prog b.w) O (call (.ref N) [D]) (λl S=>∃P B,aA b M w P S/\bC B l/\bz h P/\b9 P n B) Ls j:=by
 let⟨L3,o,ap,Mo,Q,E,cs,db,ds,dL⟩:=Mr;let⟨eq,U⟩:=t.aT N _ cs;let⟨MA,U⟩:=t.aT o _ db;have ev:=t.nolimit;refine wpAny_call (PySem.W.kla_callFunE LG.depth eq rfl LX.co LX.gen rfl ⟨o,Mo,Q,E,rfl,MA,ds,dL⟩ ?_);rw[ca];refine bk (wpAny_newFunctionEnv LX.qW (λl s=>by rw[dk.mp s];exact LX.loc) (λbd ex be=>?_) LX.kind);have L:∀c m,j.heap.get? c=Z m->bd.get? c=Z m:=λc m d=>be.extBut c m (c8<|bQ d) (b4 _ d);refine⟨ev.fresh _ be,?_⟩;show codeAny _ _ (.expr Mv<|Ω gJ LD j.heap.objs.size N (.ref o) [(C,k)]) _ _;let⟨ge,gl,fd⟩:=id t.loc;let⟨bi,fn,lk⟩:=fd al C F cd ce (by unfold mE;exact .inr (.inl as));have bm:j.heap.IsCell k (Z bi):=by
  rcases lk with ⟨B,_⟩|⟨_,go,d,B⟩
  ·rw[as]at B;cases B
  ·rw[a1]at d;cases d;exact B
 have p:∀l,(Ω gJ LD j.heap.objs.size N (.ref o) [(C,k)]).kindOf l=LD.names.lookup l:=λ_=>rfl;have R:∀l c,([(C,k)]:List (az×af)).lookup l=Z c->l=C/\c=k:=λl c d=>by
  rw[eA]at d;by_cases q:l=C
  ·subst q;rw[gp]at d;cases d;exact⟨rfl,rfl⟩
  ·rw[show (l==C)=ar by simpa using q]at d;cases d
 have Ml:aA (mB b O [cV,C] LD N (.ref o) [(C,k)] j h) [] [Z r,Z F] h {j with heap:=bd,toks:=j.toks+1}:=by
  refine⟨⟨t.mod,LX.kind,rfl,rfl,bq _,λl B c y z=>?_,λl s=>?_,λl c e=>(by cases e),λ_=>LG.hd,AY bv,.inr ⟨rfl,rfl⟩,λc B=>(by cases B),t.bs,dv t.ok.iO t.hp,λc U U B=>(by cases B),λc B=>(by cases B),t.stack,⟨t.uN,t.cy⟩⟩,
   rfl,t.bare,dW.kept L,⟨_,ex,λa l f y z gt=>?_⟩,λl c e=>?_,t.aT.fresh<|bq _,λl c e=>?_,λu fr=>(by cases fr),t.aT.kept L,rfl⟩
  ·exact (R _ _ y).1.trans (R _ _ z).1.symm
  ·have s:LD.names.lookup l=Z .cell\/LD.names.lookup l=Z .free:=s;rcases s with s|s
   ·exact absurd rfl (LX.qW _<|PySem.mem_of_lookup s)
   ·refine⟨k,?_⟩;show ([(C,k)]:List (az×af)).lookup l=_;rw[show l=C from LX.one _ (PySem.mem_of_lookup s) rfl,eA,gp]
  ·match a,y,z with
   |0,y,z=>
    cases (Option.some.inj y:cV=l);cases (Option.some.inj (Option.some.inj z):r=f);refine⟨D,ci,.inl ⟨LX.loc,?_⟩⟩;show ([(cV,D)]:List (az×aa)).lookup cV=_;rw[eA,gp]
   |1,y,z=>
    cases (Option.some.inj y:C=l);cases (Option.some.inj (Option.some.inj z):F=f);let⟨m,am,an⟩:=bm;refine⟨bi,fn,.inr ⟨.inr LX.HC,k,?_,m,L _ _ am,an⟩⟩;show ([(C,k)]:List (az×af)).lookup C=_;rw[eA,gp]
   |a+2,y,_=>cases y
  ·let⟨m,am,an⟩:=bm;rw[(R l c e).2];exact⟨_,m,L _ _ am,an⟩
  ·rw[(R l c e).2];exact t.gk _ _ a1
 have f0:bw (mB b O [cV,C] LD N (.ref o) [(C,k)] j h) Mv (hn Ma):=cl N (.ref o) j h (LG.deeper _);refine PySem.W.kla_codeExpr (fq (f0 [] _ [Z r,Z F] h (λB P=>bz h P/\b9 P n B) Ml ⟨[Z (.im v),Z<|.im bG],[],.im n,LJ,?_,hc,cr,λB P LW Lp J I Ms=>?_⟩) (λl S s=>?_) λd S B=>False.elim B)
 ·exact⟨Z r,[Z F],[],[],rfl,⟨r,rfl,hd,rfl⟩,⟨Z F,[],[],[],rfl,⟨F,rfl,ch,rfl⟩,⟨rfl,rfl⟩,rfl⟩,rfl⟩
 ·exact⟨λc m d=>Ms.keep c m d ↥0,I.1⟩
 ·let⟨B,P,T,f1,f2,Lv⟩:=s;let⟨f4,LK,f8,ga,bn⟩:=t.after (x:=λB P=>bz h P/\b9 P n B) ⟨B,P,T.os,T.bare,T.base,T.aT,f1,f2,Lv⟩;exact⟨LK,f4,f8,ga,bn.1,bn.2⟩
end
end L2
namespace L2
open Spec PyProof.Rows PySem.W
variable{g:af}{P:aq}
def rq{LL Q:List aa}{a:Nat}(b:LL.length=Q.length)(Lv:a<LL.length):(aV (LL.toArray.zip Q.toArray) a).1=LL.getD a aa.none/\(aV (LL.toArray.zip Q.toArray) a).2=Q.getD a aa.none:=by
 have z:a<Q.length:=b ▸ Lv;unfold aV;simp[Array.getD,Lv,z,List.getD,show a<min LL.length Q.length from Nat.lt_min.mpr ⟨Lv,z⟩]
def lM:X->X
 |.tup [_,v]=>v
 |_=>.aR
section
variable{b:aE}{M:List (af×aQ)}{w:L2.aW}{h:aq}{j:ag}
def bz.mq{h:aq}(n:bz h P):kl h P:=⟨λg W d=>n g _ d,λg W W d=>n g _ d⟩
def ou{h:aq}{m:d8}(n:bz h P)(s:h g=Y):bz h (upd P g m):=λc D d=>by
 rw[bB (eM d s)];exact n c D d
def Fv{N:af}{LH:List ah}{A LL:List X}{x:cp}(t:aA b M w h j)(g2:b.calm=V)(re:b.A.units+20<bP)(li:b3 b.K h g LH)(Lv:bo h A LH)(lk:LL.length=A.length)(m:lP LL)(au:LL.map lM=A)(lm:∀(Lw:aq) (g3:ag) (he:List (af×aQ)),aA b he w Lw g3->bz h Lw->∀(i:Nat) (v:X) (r:ah) (D:aa),A[i]?=Z v->b9 Lw v r->bC r D->
   wpAny (aP b.prog b.w) b.A.in1.in1 (call (.ref N) [D]) (λl T=>∃LK B,aA b he w LK T/\bC B l/\bz Lw LK/\b9 LK (LL.getD i .aR) B) (λ_ W=>False) g3)(q:∀L P E,h L=Y->bz h P->P L=Z (.lst E)->bo P ((fE bc LL).map lM) E->x (.ref L) P):
  wpAny (aP b.prog b.w) b.A (call (.builtin "sorted") [.ref g] [(az.ofString "key",.ref N)]) (dD b M w x) b.bX j:=by
 let⟨Lz,ex,⟨rs,d,aw,s,ln⟩,W⟩:=t.tuple li;have ls:LH.length=Lz.length:=ex.length;have lv:A.length=Lz.length:=by rw[<-ls];exact Lv.length
 have kn:=m.ord.kn;have lw:Lz.length<=1000:=⋯
 have cl:Lz.length<=sizeLine:=dv lw (show 1000<=sizeLine by decide);refine call_function_entry_kw tc tF sz (ksk_s1 _ _) ?B;unfold bO.«sorted»;refine aD (m:=t_ "sorted" 1 1 _) (bk (aD (AV g (.inr rfl) d aw ln (λLq fd=>?_) (by rw[cC];exact cl))));show wpAny _ _ (nB Lz >>= _) _ _ _;refine aD (oS ?_ cl);have bM:∀c m,j.heap.get? c=Z m->(Lq.push<|cL "list" Lz.toArray 0).get? c=Z m:=λc m d=>b4 _ (fd c m d);have bm:(Lq.push<|cL "list" Lz.toArray 0).get? Lq.objs.size=Z (cL "list" Lz.toArray 0):=df _ rfl;have co:aA b M w h {j with heap:=Lq}:=t.kept (LY:=j.toks) fd;have hf:aA b M w h {j with heap:=Lq.push (cL "list" Lz.toArray 0)}:=t.kept (LY:=j.toks) bM;have cr:b.dF.heap.objs.size<=Lq.objs.size:=co.hp;have bn:h Lq.objs.size=Y:=co.aT.fresh (bq _);have hm:∀c m,j.heap.get? c=Z m->c≠Lq.objs.size:=λc m d=>c8 (bQ<|fd c m d);have ca:Lq.objs.size≠b.env.locals:=λB=>fI _ (B ▸ co.lt:Lq.objs.size<Lq.objs.size);have fn:∀f o,b.env.cells.lookup f=Z o->o≠Lq.objs.size:=λf o mb B=>by
  let⟨W,LZ,fr,W⟩:=co.cell f o mb;exact fI _ (B ▸ bQ fr:Lq.objs.size<Lq.objs.size)
 have f0:∀u∈b.cV++M,u.1≠Lq.objs.size:=λu a1=>hm _ _ (t.pin u a1).1;generalize Lq.objs.size=L5 at bm cr bn hm ca fn f0 ⊢;generalize Lq.push (cL "list" Lz.toArray 0)=bs at bM bm hf ⊢;refine aD (iq<|wpAny_call_entry_kw tj ⟨_,bm,rfl⟩ uv ?Mv<|ksk_l1 _ _);show wpAny (aP b.prog b.w) b.A.in1.in1 (bO.«list.sort» ⟨[.ref L5],[(az.ofString "key",.ref N)]⟩) _ _ _;rw[ksk_t1];unfold ksk_tree;refine aD (tK bm rfl (aD (mM bm rfl ?_ (hsz:=by rw[cC];exact cl) (hsz2:=by show 0<=_;exact gY _))));have f1:=kO bm (λ_=>#[]);generalize (if (#[]:Array aa).size==Lz.toArray.size then 0 else 0+1)=R at f1;refine aD (qY f1 rfl (aD (tu (aD<|oS<|iq ?_) ⇑cl)));have m0:aA b M w h {j with heap:=bs.update L5 (aQ.mapSeq λ_=>#[])}:=hf.turned (LY:=j.toks) (λc m k d=>(gm _ _<|d3 k).trans d) bn ca (.inr cr) fn f0;have f2:aA b M w h {j with heap:=(bs.update L5<|aQ.mapSeq λ_=>#[]).push (cL "tuple" Lz.toArray.toList.toArray 0)}:=m0.kept (LY:=j.toks) λc m d=>b4 _ d;have f4:((bs.update L5<|aQ.mapSeq λ_=>#[]).push<|cL "tuple" Lz.toArray.toList.toArray 0).get? L5=Z (cL "list" #[] R):=b4 _ f1;show wpAny _ _ (ksk_rest L5 (.ref N) ar Lz.toArray R<|.ref ((bs.update L5<|aQ.mapSeq λ_=>#[]).push<|cL "tuple" Lz.toArray.toList.toArray 0).objs.size) _ _ {j with heap:=((bs.update L5<|aQ.mapSeq λ_=>#[]).push<|cL "tuple" Lz.toArray.toList.toArray 0).push (cL "list" ([]:List aa).toArray 0)};generalize (bs.update L5<|aQ.mapSeq λ_=>#[]).push (cL "tuple" Lz.toArray.toList.toArray 0)=an at f2 f4 ⊢;have na:L5∉b.aj:=λk=>by
  let⟨W,⟨LZ,fr,W⟩⟩:=t.ok.gy.mem k;exact fI _ (dn (bQ fr) cr)
 have hw:aA b (M++[(L5,cL "list" #[] R)]) w h {j with heap:=an}:=f2.ly λu a1=>by
  rcases er.mp a1 with a1|a1
  ·exact f2.pin u (dr _ a1)
  ·rw[dk.mp a1];exact⟨f4,bn,ca,na,λr B=>by cases B⟩
 have cs:h an.objs.size=Y:=hw.aT.fresh (bq _);have h0:aA b (M++[(L5,cL "list" #[] R)]) w (upd h an.objs.size<|.lst []) {j with heap:=an.push (cL "list" ([]:List aa).toArray 0)}:=
  hw.laid (LY:=j.toks) (λc D d=>b4 _ d) (bq _) ⟨gY _,[],0,.nil,df _ rfl⟩;have nb:an.objs.size≠L5:=λB=>fI _ (B ▸ bQ f4:an.objs.size<an.objs.size);generalize an.objs.size=F at cs h0 nb ⊢;unfold ksk_rest;refine aD (ik ?_);rw[List.forIn_toArray];refine aD (ksk_fold (λa S=>∃P ap,aA b (M++[(L5,cL "list" #[] R)]) w P S/\bz h P/\P F=Z (.lst ap)/\bo P (LL.take a) ap) Lz 0 _ ⟨_,[],h0,ou (bz.refl h) cs,de,rfl⟩ ?step ?done)
 case step=>
  rintro i f S ii ⟨P,ap,Ml,cd,al,a2⟩;simp only[s6]at a2 ⊢;have ne:i<Lz.length:=(eT.mp ii).1;obtain⟨v,hd⟩:∃v,A[i]?=Z v:=⟨_,dR ⋯⟩;let⟨r,nl,nm⟩:=Lv.get hd;let⟨D,im,nn⟩:=ex.get nl;rw[ii]at im;cases im;refine aD (mJ<|fq (lm P S _ Ml cd i v r f hd (nm.mono cd.mq) nn) (λl T no=>?_) λ_ W np=>np.elim);let⟨LK,B,io,ns,f8,nw⟩:=no;try dsimp only
  have db:=f8 _ _ al;let⟨ol,G,on,ce,bd⟩:=io.aT F _ db;have op:ap.length=i:=by rw[<-a2.length,g7];lia
  have ch:G.length=i:=by rw[<-ce.length];exact op
  obtain⟨ga,it⟩:∃ga,(T.heap.update F (aQ.mapSeq (·.push l))).get? F=Z (cL "list" (G.toArray.push l) ga):=⟨_,kO bd (·.push l)⟩;refine aD (mM bd rfl ?_ (by rw[cC];lia) (dv (vL<|Array.size_push ..) (by rw[cC];lia)));have o0:aA b (M++[(L5,cL "list" #[] R)]) w (upd LK F<|.lst<|ap++[B]) {T with heap:=T.heap.update F (aQ.mapSeq (·.push l))}:=
   io.write (LY:=T.toks) (by rw[db];trivial) (.inl rfl) (λc D k d=>(gm _ _<|d3 k).trans d) ⟨_,it⟩ ⟨by rw[eK];show _+1<=_;lia,G++[l],ga,ce.append<|.cons ns .nil,by
    rw[it];simp⟩
  have jp:kl LK (upd LK F<|.lst<|ap++[B]):=⟨λc C d=>by rw[bB (λI=>by rw[I,db]at d;cases d)];exact d,λc m D d=>by rw[bB (λI=>by rw[I,db]at d;cases d)];exact d⟩;refine bk ⟨rfl,_,ap++[B],o0,ou (cd.trans f8) cs,de,?_⟩;have MK:LL.take (i+1)=LL.take i++[LL.getD i .aR]:=by
   have:i<LL.length:=⋯
   rw[List.take_add_one,dR this,b6,dR this];rfl
  rw[MK];exact bo.snoc ((a2.mono f8.mq).mono jp) (nw.mono jp)
 case done=>
  rintro S ⟨P,ap,Ml,cd,al,a2⟩;rw[show LL.take (0+Lz.length)=LL from r2 ⋯]at a2;let⟨ol,G,on,ce,bd⟩:=Ml.aT F _ al;have kt:=a2.ed Ml.aT ce;have ch:G.length=Lz.length:=by rw[<-ce.length,<-a2.length];lia
  try dsimp only
  refine aD (tK bd rfl ?_);have pc:(G.toArray.zip Lz.toArray).size=Lz.length:=by simp[ch]
  have bv:∀(J:ba) (u:Array Nat),cj Lz.length u->ho (jH LL) u Lz.length->arrOf J=u.map (aV<|G.toArray.zip Lz.toArray)->fx J=Y->
    wpAny (aP b.prog b.w) b.A.in1.in1 (ksk_tail L5 ar R (.ref F) J) (λbv S=>∃r,bv=Fin.done (Flow.ret r)/\wpAny (aP b.prog b.w) b.A.in1 (ret<|aa.ref L5) (λbv S=>∃r,bv=Fin.done (Flow.ret r)/\dD b M w x r S) b.bX S) b.bX S:=λJ u am ds ge gl=>by
   have out:=kat_snds (ks:=G) (vs:=Lz) ch ge;unfold ksk_tail;dsimp only;rw[out,gl];have pi:mC (P F):=by rw[al];trivial
   have dL:aA b (M++[(L5,cL "list" #[] R)]) w (upd P F<|.lst []) {S with heap:=S.heap.update F (aQ.mapSeq λ_=>#[])}:=
    Ml.write (LY:=S.toks) pi (.inl rfl) (λc D k d=>(gm _ _<|d3 k).trans d) ⟨_,kO bd λ_=>#[]⟩ ⟨gY _,[],_,.nil,kO bd λ_=>#[]⟩;let⟨eq,kw,W⟩:=dL.pin (L5,cL "list" #[] R) (dr _<|dr _<|.head _);have ci:=dL.pd;have go:bz h (upd P F<|.lst []):=ou cd cs;refine aD (mM bd rfl ?_ (by rw[cC];lia)<|gY _);refine aD (jI ?_);generalize S.heap.update F (aQ.mapSeq λ_=>#[])=as at dL ci eq ⊢;generalize upd P F (.lst [])=lc at dL ci kw go;have pm:=kO eq λ_=>(u.toList.map λa=>Lz.getD a aa.none).toArray;refine aD (qY (s:={S with heap:=as}) eq rfl (aD (mM (s:={S with heap:=as}) eq rfl ?_ (hsz:=gY _) (hsz2:=by
    show (List.toArray<|u.toList.map λa=>Lz.getD a aa.none).size<=_;rw[cC,bF,eD,am.size];lia))))
   simp only[bne_self_eq_false,hM,gD];refine bk ⟨_,rfl,bk ⟨_,rfl,?_⟩⟩;have be:∀c m,c≠L5->as.get? c=Z m->(as.update L5<|aQ.mapSeq λ_=>(u.toList.map λa=>Lz.getD a aa.none).toArray).get? c=Z m:=λc m k d=>(gm _ _<|d3 k).trans d;have bi:∀c D,lc c=Z D->c≠L5:=λc D d B=>by rw[B,kw]at d;cases d
   have nil:∀{c:af},c∉[L5]->c≠L5:=λe B=>e (B ▸ .head _);refine⟨.ref L5,upd lc L5<|.lst<|u.toList.map λa=>LH.getD a .aR,aA.step (j:={S with heap:=as}) (Lq:=as.update L5 (aQ.mapSeq λ_=>(u.toList.map λa=>Lz.getD a aa.none).toArray)) ci (MF:=S.gens) (Mk:=S.drawn) (LY:=S.toks) (Mt:=[L5]) (λc k=>?_) (λc m W W k d W=>be c m (nil k) d) (λc m W W k d W=>⟨m.slots,be c m (nil k) d⟩) (λc m k d s=>by rw[bB (nil k)];exact s)
    (λc m k d=>⟨m,be c m (nil k) d⟩) (λc m W k d W=>be c m (nil k) d) (λc C d=>by rw[bB (bi c _ d)];exact d) (λc m D d=>by rw[bB (bi c _ d)];exact d) (λc d=>⟨by rw[bB (bi c _ d)];exact d,λk=>.of λm=>be c m<|nil k⟩)
    (λH po=>?_) (λc D d=>?_) ci.bare,rfl,q L5 _ _ bn (ou go bn) de ?_⟩
   ·rw[dk.mp k];exact⟨.inr cr,ca,fn,f0⟩
   ·let⟨LZ,Lu,Mg,pp,p⟩:=po;exact⟨LZ,Lu,Mg,be _ LZ (d3 ca) pp,p⟩
   ·by_cases k:c=L5
    ·subst k;rw[de]at d;cases d;refine⟨by rw[bF,eD,am.size];lia,_,_,qK ↥0 λa r D y z=>?_,pm⟩;rw[eJ]at y z;cases gt:u.toList[a]? with
     |none=>rw[gt]at y;cases y
     |some n=>
      rw[gt]at y z;cases y;cases z;have al:n<Lz.length:=gq.mp (am.mem_iff.mp<|nt gt);let⟨D,ev,as⟩:=ex.get (a:=n) (f:=LH[n]'⋯) (by simp[show n<LH.length by lia]);rw[dR al]at ev;have ev:=Option.some.inj ev;simp only[List.getD,dR al,dR (show n<LH.length by lia),qF];rw[ev];exact as
    ·rw[bB k]at d;refine (ci.aT c D d).fC (λo r g2 q=>be o r (λB=>?_) q) (λo q=>by rw[bB (bi o _ q)];exact q) (λo C q=>by rw[bB (bi o _ q)];exact q) λo m D q=>by rw[bB (bi o _ q)];exact q
     rcases g2 with l|l
     ·exact k (l.symm.trans B)
     ·exact bi o _ l B
   ·rw[<-lv,<-lk]at am ds;have R:(u.toList.map λa=>LL.getD a .aR)=fE bc LL:=u_ m.ord (rM am) (sv m.ord am ds);have pr:(fE bc LL).map lM=u.toList.map λa=>A.getD a .aR:=by
     rw[<-R,hZ];refine nN λa W=>?_;show lM (LL.getD a .aR)=A.getD a .aR;rw[<-au,b6,b6,eJ];cases LL[a]?<;>rfl
    rw[pr];exact (Lv.pick λn al=>by rw[<-lk];exact gq.mp (am.mem_iff.mp al)).mono (ou go bn).mq
  unfold ksk_end;dsimp only;rw[aM dg];simp only[hM,gD];have g1:=s7 (G.toArray.zip Lz.toArray);rw[pc]at g1;by_cases z:Lz.toArray.size<2
  ·rw[aK z,aK z];refine aD (bk ?_);rw[yG];apply aD;apply bk;have lf:Lz.length<2:=by simpa using z
   refine bv (ba.mk' general' (G.toArray.zip Lz.toArray) #[] 7 Y) (range Lz.length).toArray (List.Perm.refl _) (λa i sc ne=>?_) g1.symm rfl;have:a=i:=⋯
   subst this;exact jE _
  ·rw[aM z,aM z];have lf:2<=Lz.length:=by simpa using z
   refine aD (uT (b:=b) (e:=S.heap) m ⋯ kt _ _ _ ?_);have pt:=vw (Lx:=b.prog) (I:=b.w) (O:=b.A.in1.in1) (j:=S) (c:=decide (∀v∈LL,gK v=V)) m.ord kt m.tup (λk=>fK k) (by show b.A.units+1+1+9<bP;lia);have pu:ew Lz.length (jH LL) (dQ b.prog b.w b.A.in1.in1 (mH<|decide (∀v∈LL,gK v=V))<|G.toArray.zip Lz.toArray) S:=by
    intro a i aH sn sp py;have:=pt (a:=a) (i:=i) (aH:=aH) ⋯ ⋯ py;unfold dQ at this ⊢;rw[(rq ch ⋯).1,(rq ch ⋯).1];rw[(rq rfl ⋯).1,(rq rfl ⋯).1]at this;exact this
   have run:=AR (Ls:=b.bX) (x:=λ_ J T=>T=S/\∃u,cj Lz.length u/\ho (jH LL) u Lz.length/\arrOf J=u.map (aV<|G.toArray.zip Lz.toArray)/\fx J=Y) pu
    lf (.inl ⋯) λrc ss g c o v=>⟨rfl,rc,g,c,o,v⟩;unfold nZ at run;rw[g1]at run;refine aD (fq run (λp T LG=>?_) λ_ W d=>d);let⟨D,J⟩:=p;let⟨rfl,u,am,ds,ge,gl⟩:=LG;exact bv J u am ds ge gl
end
end L2
namespace L2
open Spec PyProof.Rows
def kq(Ma:aB ai)(I:X):List X->Option (List X)
 |[]=>Z []
 |v::p=>match Ma [Z (.im v),Z<|.im I] with
  |some (.im n,_)=>(kq Ma I p).map (n::·)
  |_=>Y
theorem yj{Ma:aB ai}{I:X}:∀{A LL:List X},kq Ma I A=Z LL->LL.length=A.length/\∀(i:Nat) (v:X),A[i]?=Z v->∃LJ,Ma [Z (.im v),Z<|.im I]=Z (.im<|LL.getD i .aR,LJ)
 |[],LL,e=>by
  cases e;exact⟨rfl,λi v d=>by cases d⟩
 |v::p,LL,e=>by
  rw[kq]at e;split at e
  ·rename_i n LJ a;let⟨b,y,rfl⟩:=cb.mp e;let⟨L,q⟩:=yj y;refine⟨by rw[dK,dK,L],λi Mk d=>?_⟩;cases i with
   |zero=>
    cases d;exact⟨LJ,a⟩
   |succ i=>exact q i Mk d
  ·cases e
def m8(LL:List X)(f:List X):Option ai:=(if pS LL=V then (if LL.map lM=f then Z (.lst<|(fE bc LL).map lM) else Y) else Y)
def pz(Ma:aB ai)(I:X)(A:List ai):Option ai:=(match A with
 |[.im (.tup f)]=>(kq Ma I f).bind λLL=>m8 LL f
 |_=>Y)
def zP(a:Nat)(k:aU):Option X:=(match k[a]? with
 |some (Z<|.im I)=>Z I
 |_=>Y)
def nz(a:Nat)(Ma:aB ai)(F:aB (List bj)):aB ai:=(λk=>(F k).bind λu=>(gN u.2 u.1).bind λA=>(zP a u.2).bind λI=>(pz Ma I A).map λv=>(v,u.2))
section
variable{b:aE}
def GD{H al:Nat}{s Mz cG:af}{f cV C:az}{u LC G bn:Pos}{d:a7}{My:nX}{Mv:a7}{LD:dU}{Ma:aB ai}{F:aB (List bj)}(bs:Ξ b.K "_law_runs_of" = Z (Mz,cG))(bv:b.env.code=.ref Mz)(LG:cQ (H+3) b.A)(ca:b.aI f=Y)(as:ez f=Z (.builtin "sorted"))(a1:eR b [d] F)(LX:sl LD cV C)(cd:∀(N:af) (be:aa) (j:ag) (h:aq),cQ H (mB b b.A.in1.in1 [cV,C] LD N be [(C,s)] j h).A->b0 (mB b b.A.in1.in1 [cV,C] LD N be [(C,s)] j h) Mv Ma)(ce:∀(L3:aa) (o:af) (ch g:aa),iD (PySem.W.kla_fn "<lambda>" gJ My Mv LD [(C,s)] L3 (.ref o) ch) ⟨[g],[]⟩=pure [(cV,g)]:=by intros;rfl)(ci:b.N[al]?=Z C:=by rfl)(cl:b.env.kindOf C=Z .cell:=by rfl)(co:b.env.cells.lookup C=Z s:=by rfl)(cr:qP LD b.env=pure [(C,s)]:=by rfl)(cs:b.env.qual ++ "<lambda>" = gJ:=by rfl)(db:defaultsOf My b.env=([],[]):=by rfl)(ds:b.calm=V:=by rfl)(dL:eC b f:=by rfl)(eq:f ≠ "__name__" := by decide)(ev:(f==("__debug__" : az))=ar:=by decide)(ex:ek LC (bu [d] b.env)=(ar,bU d b.env)::ek LC (bu [] b.env):=by rfl)(fd:(ek LC<|bu [d] b.env).any (·.1)=ar:=by rfl):
  b0 b (.Call (.Name f u) [d] [⟨Z "key",.Lambda My Mv LD bn,G⟩] LC) (nz al Ma F):=by
 show bw b _ (hn<|nz al Ma F);intro M j w h x t e;let⟨k,N,p,LJ,J,ak,fn,q⟩:=e;let⟨⟨LM,T⟩,y,z⟩:=bl.mp fn;let⟨A,fr,f0⟩:=bl.mp z;let⟨I,am,f1⟩:=bl.mp f0;let⟨v,an,f2⟩:=cb.mp f1;cases f2;have f4:gd b [d] (fJ F):=a1;refine qH (l3 t dL ca as ?_ eq ev);refine callWith_kw (bK (f4 LC M j w h (λQ Lw=>∃LI B,a_ Lw T w LI/\ij Lw w LM Q B/\aY h N Lw (LI++B)) t ⟨k,N,LM,T,J,ak,y,λQ Lw LI B g c o=>⟨LI,B,g,c,o⟩⟩) λLP kt f8=>?_) ex fd;let⟨Q,Lw,ga,ge,LI,B,ap,Me,Ms⟩:=f8;have gl:=Me.read ap fr;unfold pz at an;split at an
 case h_2=>cases an
 rename_i l;let⟨LL,go,n⟩:=bl.mp an;unfold m8 at n;split at n
 case isFalse=>cases n
 rename_i gt;split at n
 case isFalse=>cases n
 rename_i au;cases n;let⟨r,rfl,as⟩:=fv gl;let⟨g,LH,rfl,g1,g2⟩:=as.i;let⟨D,rfl,a2⟩:=ip ge;cases a2;let⟨lk,tV⟩:=yj go;have g3:T[al]?=Z (Z<|.im I):=by
  unfold zP at am;split at am
  ·rename_i he;cases am;exact he
  ·cases am
 let⟨kw,lc,U,hf,⟨hm,U⟩,U⟩:=ap.out g3;refine wpAny_evalAll_cons (aD<|PySem.W.kla_eval db<|GW ga bs bv cs cr λN LK lf hw R Mr=>aD<|rt<|bk<|wpAny_evalAll_nil ?_);have li:=(LG.un:b.A.units+16*(H+3)+200<bP);refine Fv hw ds ⋯ (b3.of<|R _ _ g1) (g2.mono R.mq) lk (n6.mp gt).w au (λlm ln ls bi bm i v r D hd Lv a2=>?_) λL P E aN S h0 ii=>?_
 ·let⟨LJ,io⟩:=tV i v hd;have it:cQ (H+1) b.A.in1.in1:=(show cQ (H+1+1) b.A.in1 from (show cQ (H+1+1+1) b.A from LG).in1).in1;exact Cd bi (by exact bi.ok.frames) it (Mr.same bm) LX ce ci cl co hf ((hm.mono R.mq).mono bm.mq) Lv a2 cd io
 ·have bd:=R.trans S;have jp:=R.free aN;exact q (.ref L) P LI [L] (ap.mono bd.tupS λg U m d=>bd g m d) ⟨L,E,rfl,h0,ii,rfl⟩ (Ms.new bd (gZ.mpr ⟨u4,hc⟩) (λg a1=>by rw[dk.mp a1];exact jp) ap.chg)
end
end L2
namespace L2
open Spec PyProof.Rows PySem.W SeqAt
variable{i:Nat}
def w9(L8:bT)(a:aU->Option X):Prop:=(∀k w h N v x,a_ h k w N->a k=Z v->(∀r,b9 h v r->x r h)->L8 w h x)
@[simp] def qd(i:Nat):aU->Option X:=λk=>match k[i]? with
 |some (Z<|.im v)=>Z v
 |_=>Y
def Hb:w9 (h6 i) (qd i):=by
 intro k w h N v x J d q;unfold qd at d;split at d
 ·rename_i Mk hd;cases d;let⟨r,y,z⟩:=J.c2 hd rfl;exact⟨r,y,q r z.1⟩
 ·cases d
section
variable{b:aE}
def xD(b:aE)(d:a7)(a:aU->Option X):Prop:=(∃L8,bw b d L8/\w9 L8 a)
def CO{d:a7}(e:bw b d (h6 i)):xD b d (qd i):=⟨_,e,Hb⟩
end
end L2
namespace L2
open Spec PyProof.Rows PySem.W
variable{d m:a7}{LC H:Pos}{A:List ai}{a:Nat}{h:aq}
theorem cz.at{h:aq}{v:ai}:∀{A:List ai}{Q:List ah}{Ly:List af}{i:Nat},cz h A Q Ly->A[i]?=Z v->∃r Lp b,Q[i]?=Z r/\bJ h v r Lp/\(Lp++b).Perm Ly/\
  ∀P Mk c a,d6 h P->(∀o∈b,∀m,h o=Z m->P o=Z m)->bJ P Mk c a->∃g,cz P (A.set i Mk) (Q.set i c) g/\g.Perm (a++b)
 |[],_,_,_,_,d=>by simp at d
 |f::A,_,_,0,e,d=>by
  let⟨r,p,LI,LQ,rfl,y,z,rfl⟩:=e;cases (Option.some.inj d:f=v);exact⟨r,LI,LQ,rfl,y,List.Perm.refl _,λP Mk c a E n I=>⟨a++LQ,⟨c,p,a,LQ,rfl,I,z.mono E n,rfl⟩,List.Perm.refl _⟩⟩
 |f::A,_,_,i+1,e,d=>by
  let⟨r,p,LI,LQ,rfl,y,z,rfl⟩:=e;let⟨D,Lp,b,k,l,q,s⟩:=cz.at (i:=i) z ⇑d;have L3:∀Lp:List af,(Lp++(LI++b)).Perm (LI++(Lp++b)):=λLp=>by
   rw[<-bb,<-bb];exact dO _ cA
  refine⟨D,Lp,LI++b,by simpa using k,l,(L3 Lp).trans<|c4 _ q,λP Mk c a E n I=>?_⟩;let⟨g,t,u⟩:=s P Mk c a E (λo j=>n o<|dr _ j) I;exact⟨LI++g,⟨r,p.set i c,LI,g,rfl,y.mono E λo j=>n o<|fM _ j,t,rfl⟩,(c4 _ u).trans (L3 a).symm⟩
theorem yi{L0:Type}{r:L0}:∀{L:List L0}{i:Nat},L[i]?=Z r->L.set i r=L
 |[],_,e=>by simp at e
 |f::L,0,e=>by
  rw[List.getElem?_cons_zero]at e;rw[yA,Option.some.inj e]
 |f::L,i+1,e=>by
  rw[List.getElem?_cons_succ]at e;rw[List.set_cons_succ,yi e]
def Bq{k:aU}{w:aW}{N:List af}{i:Nat}{v:ai}(J:a_ h k w N)(ak:N.Nodup)(E:k[a]?=Z (Z<|.dh A))(hd:A[i]?=Z v):
  ∃g Q r Lp,w[a]?=Z (Z<|.ref g)/\h g=Z (.lst Q)/\A.length=Q.length/\Q[i]?=Z r/\bJ h v r Lp/\Lp.Nodup/\(∀f∈Lp,f∈N)/\∀P Mk b LX,bJ P Mk r b->aY h Lp P (b++LX)->∃LW,a_ P (k.set a<|Z<|.dh<|A.set i Mk) w LW/\aY h N P (LW++LX):=by
 let⟨v0,T,LQ,q,⟨g,Q,Ly,rfl,y,z,rfl⟩,F,L3⟩:=J.out E;let⟨r,Lp,l,s,G,t,H⟩:=z.at hd;have e:(Lp++(LQ++g::l)).Perm N:=by
  rw[A0]at L3 t ⊢;intro f;have:=L3 f;have:=t f;simp only[xN,Aw] at *;omega
 have c:=dp.mp (e.nodup_iff.mpr ak);have L:g∉Lp:=λB=>c.2.2 g B g (dr _<|.head _) rfl;refine⟨g,Q,r,Lp,q,y,z.length,s,G,c.1,λf n=>e.mem_iff.mp<|fM _ n,λP Mk b LX I j=>?_⟩;let⟨x,Me,Mw⟩:=H P Mk r b j.tup (λo p m d=>j.keep o m d λB=>c.2.2 o B o (dr _<|.tail _ p) rfl) I;rw[yi s]at Me;have own:bJ P (.dh<|A.set i Mk) (.ref g) (g::x):=⟨g,Q,x,rfl,j.keep g _ y L,Me,rfl⟩;have M:a_ P (k.set a<|Z .ej) w LQ:=F.mono j.tup λo p m d=>j.keep o m d λB=>c.2.2 o B o (fM _ p) rfl;let⟨O,R,C,D⟩:=M.back own q;rw[ng]at C;have u:aY h N h (Lp++(LQ++g::l)):=aY.perm ak e;have S:=u.trans (Lp:=LQ++g::l) j λf n=>J.chg f (e.mem_iff.mp<|dr _ n);refine⟨O,C,S.less (aH:=R) ?_⟩;rw[A0]at D Mw ⊢;intro f;have:=D f;have:=Mw f;simp only[xN,Aw] at *;omega
def sg{L0:Type}{C:List L0}{r:L0}(e:C[C.length-1]?=Z r):dM C (-1)=Z r:=by
 have a:=(eT.mp e).1;unfold dM hu;rw[aM ∅,aK ⋯];show C[_]?=_;rw[<-e];congr 1;lia
section
variable{b:aE}
@[simp] def qG:ai->List ai->Option (ai×ai):=λo A=>match o,A with
 |.lst [],[.lst L]=>Z (.im .aR,.dh [.lst L])
 |.dh C,[.lst L]=>if C.length<100000 then Z (.im .aR,.dh<|C++[.lst L]) else Y
 |_,_=>Y
theorem cz.yM{h:aq}{v:ai}{r:ah}{Lp:List af}(I:bJ h v r Lp):∀{A:List ai}{Q:List ah}{Ly:List af},cz h A Q Ly->cz h (A++[v]) (Q++[r]) (Ly++Lp)
 |[],_,_,e=>by
  let⟨rfl,rfl⟩:=e;exact⟨r,[],Lp,[],rfl,I,⟨rfl,rfl⟩,by rw[bN];rfl⟩
 |f::A,_,_,e=>by
  let⟨D,p,LI,LQ,rfl,y,z,rfl⟩:=e;exact⟨D,p++[r],LI,LQ++Lp,rfl,y,cz.yM I z,by rw[bb]⟩
def Dr{o:ai}{f:ah}{Lp:List af}(e:bJ h o f Lp)(d:o=.dh A\/(o=.lst []/\A=[])):∃g LH Ly,f=.ref g/\h g=Z (.lst LH)/\cz h A LH Ly/\Lp=g::Ly:=by
 rcases d with rfl|⟨rfl,rfl⟩
 ·exact e
 ·let⟨g,LH,rfl,y,z,rfl⟩:=e;cases z;exact⟨g,[],[],rfl,y,⟨rfl,rfl⟩,rfl⟩
def Gp:q8 b "list.append" qG:=by
 intro M j w h f Q r LP x t v C D;let⟨o,A,p,F,Lp,LX,H,bG,ak,d,q⟩:=D;have G:∃a L,(o=.dh a\/(o=.lst []/\a=[]))/\A=[.lst L]/\a.length<100000/\p=.im .aR/\F=.dh (a++[.lst L]):=by
  unfold qG at d;split at d
  ·cases d;exact⟨[],_,.inr ⟨rfl,rfl⟩,rfl,by decide,rfl,rfl⟩
  ·split at d
   ·rename_i e;cases d;exact⟨_,_,.inl rfl,rfl,e,rfl,rfl⟩
   ·cases d
  ·cases d
 let⟨a,L,I,rfl,e,rfl,rfl⟩:=G;let⟨g,LH,Ly,rfl,y,z,rfl⟩:=Dr H I;let⟨l,E,i,R,rfl,J,⟨rfl,rfl⟩,rfl⟩:=bG;rw[bN]at ak q;have Mt:fh h g:=⟨_,y,(λ_ d=>by cases d),(λ_ W d=>by cases d)⟩;have s:=dp.mp ak;have O:=(gZ.mp s.1).1;have P:g∉i:=λB=>s.2.2 g (.head _) g B rfl;have u:=(aY.chg (LZ:=.lst (LH++[l])) (N:=[g]) (LI:=[]) (.head _) Mt hc<|λf k=>nomatch k).tup;refine BR M j w h _ _ r LP x t v C ⟨g,LH,l,rfl,rfl,y,qn (by rw[<-z.length];exact e),q .aR _ [] (g::(Ly++i)) ⟨rfl,rfl⟩ ⟨g,_,Ly++i,rfl,de,?_,rfl⟩<|aY.chg (.head _) Mt ak λf k=>k⟩;exact cz.yM (J.mono u λc n m d=>by rw[bB (λB=>P (by rw[<-B];exact n))];exact d) (z.mono u λc n m d=>by rw[bB (λB=>O (by rw[<-B];exact n))];exact d)
def JB(e:b.A.units+20<bP):dd b (dz .NotEq) (λf l h x=>(∃L6 L7 v,dC h L6 f/\dC h L7 l/\nj L6 L7=Z v/\∀r P Lp,bz h P->bJ P v r Lp->Lp.Nodup->(∀g∈Lp,h g=Y)->x r P)\/
  (∃g c C LH,f=.ref g/\l=.ref c/\h g=Z (.lst C)/\h c=Z (.lst LH)/\C.length≠LH.length/\x (.aF V) h)):=by
 intro M j w h f l r D x t a d i;rcases i with B|⟨g,c,C,LH,rfl,rfl,y,z,k,q⟩
 ·exact v3 e M j w h f l r D x t a d B
 ·cases a;cases d;let⟨p,m,n,W⟩:=t.list (cB.of y);let⟨s,o,Mh,W⟩:=t.list (cB.of z);refine zi (A:=b.A) n.isList Mh.isList (by rw[cC,cC,<-m.length,<-o.length];simpa using k) ⋯ b.prog b.w _ _ ⟨.aF _,h,t,rfl,q⟩
@[simp] def n5(a:Nat):aB Bool:=λk=>match k[a]? with
 |some (Z<|.lst [])=>Z (ar,k)
 |some (Z<|.dh A)=>if A=[] then Y else Z (V,k)
 |_=>Y
def HT{n:Pos}(p:b.A.units+20<bP)(s:bw b m (h6 a))(t:lA .NotEq (.List [] H)=ar:=by rfl):
  gA b (.Compare m [.NotEq] [.List [] H] n) (n5 a):=by
 refine n3 (Al (JB p) s (AX pM) t) λw h x v=>?_;let⟨k,N,o,LJ,J,ak,c,q⟩:=v;unfold n5 at c;split at c
 ·rename_i e;cases c;let⟨r,D,LQ,f,E,F,L3⟩:=J.out e;refine⟨r,f,jF (show 0<=100000 by decide),λu i=>.inl ?_⟩;have j:bz h (upd h u<|.lst []):=(bz.refl h).upd i;refine⟨.lst [],.lst [],_,⟨_,E.mono j.tupS λg W m d=>j g m d⟩,⟨[u],u,[],rfl,de,rfl,rfl⟩,rfl,λr P Lp S I G W=>?_⟩;let⟨I,rfl⟩:=I;have l:bz h P:=λg m d=>S g m (j g m d);exact⟨_,I,q P N (J.mono l.tupS λg W m d=>l g m d)<|(aY.perm ak<|List.Perm.refl N).same l⟩
 ·rename_i A e;split at c
  ·cases c
  ·rename_i ne;cases c;let⟨r,D,LQ,f,⟨g,C,Ly,rfl,y,z,rfl⟩,F,L3⟩:=J.out e;refine⟨_,f,jF (show 0<=100000 by decide),λu i=>.inr ?_⟩;have j:bz h (upd h u<|.lst []):=(bz.refl h).upd i;refine⟨g,u,C,[],rfl,rfl,j _ _ y,de,?_,_,rfl,q _ N (J.mono j.tupS λg W m d=>j g m d)<|(aY.perm ak<|List.Perm.refl N).same j⟩;rw[<-z.length];intro B;exact ne (List.length_eq_zero_iff.mp B)
 ·cases c
def km(A:List ai):Option (List X):=(match A[A.length-1]? with
 |some (.lst L)=>Z L
 |_=>Y)
def xb{L:List X}(e:km A=Z L):A[A.length-1]?=Z (.lst L):=by
 unfold km at e;split at e
 ·rename_i d;cases e;exact d
 ·cases e
def rQ(b:aE)(c:a7):Prop:=(∃E,bw b c E/\∀w h x,x (.int<|-1) h->E w h x)
def u2{i}{u:Pos}:rQ b (.UnaryOp .USub (.Constant (.int 1) i u) LC):=⟨_,xn vJ wN,λw h x q=>⟨_,rfl,q⟩⟩
@[simp] def nr(a:Nat):aB ai:=λk=>match k[a]? with
 |some (Z<|.dh A)=>(km A).bind λL=>(L.getLast?).map λv=>(.im v,k)
 |_=>Y
def HP{c o:a7}(i:bw b m (h6 a))(e:rQ b c)(f:rQ b o)(au:kI c:=by exact λ_ W=>rfl)(j:kI o:=by exact λ_ W=>rfl):b0 b (.Subscript (.Subscript m c LC) o H) (nr a):=by
 let⟨S,e,l⟩:=e;let⟨T,f,n⟩:=f;refine d7 (qZ n9 (qZ n9 i e au) f j) λw h x s=>?_;let⟨k,N,p,LJ,J,ak,d,q⟩:=s;unfold nr at d;split at d
 ·rename_i A t;let⟨L,y,z⟩:=bl.mp d;let⟨v,u,B⟩:=cb.mp z;cases B;have C:=xb y;let⟨g,Q,r,Lp,D,L9,L_,E,F,W⟩:=Bq J ak t C;let⟨cF,G,rfl,M,O,rfl⟩:=F;let⟨I,P,R,W⟩:=O.last u;refine⟨_,D,l w h _ ⟨g,Q,-1,_,rfl,rfl,cB.of L9,sg (by rw[<-L_];exact E),n w h _ ⟨cF,G,-1,I,rfl,rfl,cB.of M,sg P,?_⟩⟩⟩;exact q I h N [] J ⟨R,rfl⟩ (aY.perm ak (by rw[bN]))
 ·cases d
@[simp] def tl(a:Nat)(bL:ai->List ai->Option (ai×ai))(b:aU->Option X):aB ai:=λk=>match k[a]?,b k with
 |some (Z<|.dh A),Z f=>(km A).bind λL=>match bL (.lst L) [.im f] with
  |some (.im p,.lst c)=>Z (.im p,k.set a<|Z<|.dh<|A.set (A.length-1)<|.lst c)
  |_=>Y
 |_,_=>Y
def CI{name:az}{id:String}{s:aU->Option X}{bL:ai->List ai->Option (ai×ai)}{n:a7}{B l:Pos}(C:Slot "list" name id)(D:qq (.builtin id)=pure (.type "method_descriptor"))(E:q8 b id bL)(G:bw b m (h6 a))(e:rQ b n)(i:xD b d s)(au:kI n:=by exact λ_ W=>rfl)(H:t8 (.Subscript m n LC) name b.env (bU (.Subscript m n LC) b.env)=bU (.Subscript m n LC) b.env:=by rfl)(I:((ek l<|bu [d] b.env).all (λf=>!f.1)&&(uq l<|se [] b.env).all (λf=>f.1.isSome)
   && decide ([d].length+([]:List lB).length+(if ([]:List lB).isEmpty then 0 else 1)<30))=V:=by rfl)(M:(B.endLine==l.line)=V:=by rfl)(t:bu [d] b.env=(ar,bU d b.env)::bu [] b.env:=by rfl)(O:(ek l<|bu [] b.env).any (·.1)=ar:=by rfl):
  b0 b (.Call (.Attribute (.Subscript m n LC) name B) [d] [] l) (tl a bL s):=by
 let⟨Md,e,R⟩:=e;let⟨L8,i,S⟩:=i;refine d7 (Bh F.plainAttrs_list C D E (qZ n9 G e au) (rA i pM t) H I M t O) λw h x T=>?_;let⟨k,N,p,LJ,J,ak,c,q⟩:=T;unfold tl at c;split at c
 ·rename_i A f al am;let⟨L,y,z⟩:=bl.mp c;split at z
  ·rename_i Mc u an;cases z;have ap:=xb y;let⟨g,Q,r,Lp,as,L9,L_,a1,v,a2,ca,bd⟩:=Bq J ak al ap;let⟨cF,be,rfl,bi,cd,rfl⟩:=(show bJ h (.lst L) r Lp from v);refine⟨_,as,R w h _ ⟨g,Q,-1,_,rfl,rfl,cB.of L9,sg (by rw[<-L_];exact a1),(show kN b.K "list" (.ref cF) h from .inl ⟨rfl,be,cB.of bi⟩),S k w h N _ _ J am λr bm=>?_⟩⟩;refine⟨.lst L,[.im f],_,.lst u,[cF],[],v,⟨r,[],[],[],rfl,⟨bm,rfl⟩,⟨rfl,rfl⟩,rfl⟩,by rw[bN];exact a2,an,λbn P ce bp o bs j=>?_⟩;let⟨o,rfl⟩:=o;rw[bN]at j;let⟨LW,bv,Ms⟩:=bd P (.lst u) bp [] bs (by rw[bN];exact j);exact q bn P LW [] bv ⟨o,rfl⟩ Ms
  ·cases z
 ·cases c
@[simp] def qR:e9:=λg c=>match g,c with
 |.im (.aN A),.im (.int a)=>(dM A a).map .im
 |_,_=>Y
def J8:gr b (λf l h x=>∃L6 L7 v,dC h L6 f/\dC h L7 l/\qR L6 L7=Z v/\∀r P Lp,bz h P->bJ P v r Lp->Lp.Nodup->(∀g∈Lp,h g=Y)->x r P):=by
 refine n9.imp λf l h x c=>?_;let⟨L6,L7,v,e,j,d,q⟩:=c;unfold qR at d;split at d
 ·let⟨Mk,k,n⟩:=cb.mp d;cases n;let⟨u,C,m,rfl,y,z⟩:=e.i;let⟨r,o,p⟩:=qN z k;exact⟨u,C,_,r,rfl,j.i,.inl<|.inr ⟨m,y⟩,o,b2.i q p⟩
 ·cases d
@[simp] def pv:hB:=λA=>match A with
 |[.im (.aN f)]=>Z (.im<|.int f.length)
 |_=>Y
def JH:gv b (.builtin "len") pv:=by
 refine A4.imp λC h x c=>?_;let⟨A,v,f,d,q⟩:=c;unfold pv at d;split at d
 ·cases d;let⟨r,rfl,e⟩:=fv f;let⟨u,C,m,rfl,y,z⟩:=e.i;exact⟨u,C,rfl,.inl<|.inl<|.inr ⟨m,y⟩,by rw[<-z.length];exact b2.i q rfl⟩
 ·cases d
def my:List ai->Option (List<|List X)
 |[]=>Z []
 |.lst L::p=>(my p).map (L::·)
 |_::_=>Y
theorem wa:∀{A:List ai}{l:List (List X)},my A=Z l->A=l.map .lst
 |[],l,e=>by cases e;rfl
 |v::p,l,e=>by
  cases v<;>first|(cases e;done)|skip
  let⟨a,y,rfl⟩:=cb.mp e;rw[wa y];rfl
theorem Bj{M:List (af×aQ)}{w:L2.aW}{j:ag}:∀{l:List (List X)}{C:List ah}{Ly:List af}{h:aq},aA b M w h j->cz h (l.map .lst) C Ly->Ly.Nodup->
  ∃P,aA b M w P j/\bo P (l.map .aN) C/\d6 h P/\(∀c,c∉Ly->P c=h c)/\∀c m,h c=Z m->∃LZ,P c=Z LZ
 |[],C,Ly,h,t,e,ak=>by
  let⟨rfl,rfl⟩:=e;exact⟨h,t,rfl,d6.of (λ_ W d=>d)<|λ_ W W d=>d,λ_ W=>rfl,λc m d=>⟨m,d⟩⟩
 |L::l,C,Ly,h,t,e,ak=>by
  let⟨r,p,LI,LQ,rfl,⟨g,LH,rfl,L9,L_,rfl⟩,z,rfl⟩:=e;let⟨B,Lz,s,n,f⟩:=t.aT g _ L9;have k:=gZ.mp ak;have o:aA b M w (upd h g<|.b8 {cls:=.type "list",data:=.seq Lz.toArray s} (.lst LH)) j:=t.write (Lq:=j.heap) (LY:=j.toks) (d:=g) (by rw[L9];trivial) (.inl rfl) (λc D W d=>d) ⟨_,f⟩ ⟨f,B,Lz,s,n,f⟩;have fC:=Ao (a:={cls:=.type "list",data:=.seq Lz.toArray s}) L9 (λ_ d=>by cases d) (λ_ W d=>by cases d);have ne:∀c∈LQ,c≠g:=λc a B=>k.1 (by rw[<-B];exact a);let⟨P,q,is,i,u,U⟩:=Bj o (z.mono fC λc a m d=>by rw[bB (ne c a)];exact d) k.2;refine⟨P,q,⟨.ref g,p,rfl,⟨g,LH,_,rfl,i.b8 g _ _ de,(L_.mono fC.tup).mono i.tup⟩,is⟩,fC.trans i,λc a=>?_,λc m d=>?_⟩
  ·rw[u c λB=>a<|.tail _ B,bB λB=>a (by rw[B];exact .head _)]
  ·by_cases a:c=g
   ·rw[a];exact U g _ de
   ·exact U c m (by rw[bB a];exact d)
@[simp] def p_(a:Nat)(F:aB ai):aB ai:=λk=>match k[a]? with
 |some (Z<|.dh A)=>(my A).bind λl=>F (k.set a<|Z<|.cq<|l.map .aN)
 |_=>F k
def KO{F:aB ai}(a:Nat)(e:b0 b d F):b0 b d (p_ a F):=by
 intro M j w h x t al;let⟨k,N,p,LJ,J,ak,n,q⟩:=al;unfold p_ at n;split at n
 ·rename_i A am;let⟨l,y,z⟩:=bl.mp n;have:=wa y;subst this;let⟨v0,bv,LQ,an,⟨g,C,Ly,rfl,L9,L_,rfl⟩,ap,L3⟩:=J.out am;have v:=dp.mp (L3.nodup_iff.mpr ak);have L:=gZ.mp v.2.1;let⟨Lw,O,is,as,P,U⟩:=Bj t L_ L.2;have G:Lw g=Z (.lst C):=by rw[P g L.1];exact L9
  let⟨B,Lz,s,a1,H⟩:=O.aT g _ G;have a2:aA b M w (upd Lw g<|.b8 {cls:=.type "list",data:=.seq Lz.toArray s} (.lst C)) j:=O.write (Lq:=j.heap) (LY:=j.toks) (d:=g) (by rw[G];trivial) (.inl rfl) (λc D W d=>d) ⟨_,H⟩ ⟨H,B,Lz,s,a1,H⟩;have fC:=Ao (a:={cls:=.type "list",data:=.seq Lz.toArray s}) G (λ_ d=>by cases d) (λ_ W d=>by cases d);have Q:=as.trans fC;have keep:∀c,c∉g::Ly->(upd Lw g<|.b8 {cls:=.type "list",data:=.seq Lz.toArray s} (.lst C)) c=h c:=λc i=>by
   rw[bB λB=>i (by rw[B];exact .head _),P c λB=>i<|.tail _ B]
  have bd:=ap.mono Q λc i m d=>(keep c λB=>v.2.2 c i c B rfl).trans d;have own:bJ (upd Lw g<|.b8 {cls:=.type "list",data:=.seq Lz.toArray s} (.lst C)) (.cq<|l.map .aN) (.ref g) []:=⟨g,C,_,rfl,de,is.mono fC.tup,rfl⟩;let⟨be,bi,R,S⟩:=bd.back own an;rw[ng]at R;rw[bN]at S;have u:aY h N (upd Lw g<|.b8 {cls:=.type "list",data:=.seq Lz.toArray s} (.lst C)) LQ:=by
   refine⟨λc m d i=>(keep c λB=>i<|L3.mem_iff.mp<|dr _ B).trans d,λc i=>.inl<|L3.mem_iff.mp<|fM _ i,v.1,Q,λc m d=>?_⟩;by_cases i:c=g
   ·exact⟨_,by rw[i];exact de⟩
   ·let⟨LZ,bm⟩:=U c m d;exact⟨LZ,by rw[bB i];exact bm⟩
  have T:=u.less (aH:=bi) S;have I:bw b d (hn F):=e;refine I M j w _ x a2 ⟨_,be,p,LJ,R,T.ak,z,λr bn LW Lp g c o=>q r bn LW Lp g c (by
   have E:=aY.trans (Lp:=[]) (by rw[bN];exact T) o (λf bs=>by cases bs);rw[bN]at E;exact E)⟩
 ·have I:bw b d (hn F):=e;exact I M j w h x t ⟨k,N,p,LJ,J,ak,n,q⟩
end
end L2
namespace L2
open Spec PyProof.Rows
variable{F:bI}{LU:List Nat}{s n:Nat}{b:aa->Prop}{LO LR:List az}{fd:fu}{R:af}{J:cv}{Mj f:az}
def Bg(t:dU)(cV C:az):Bool:=(t.kind==.function && !t.isCoroutine && !t.isGenerator && !(cV==C)&&t.names.lookup cV==Z .local&&t.names.lookup C==Z .free&&t.names.all (λf=>f.2 != .cell)&&t.names.all (λf=>f.2 != .free || f.1==C))
def IB{t:dU}{cV C:az}(e:Bg t cV C=V):sl t cV C:=by
 unfold Bg at e;simp only[cE,jl,bne_iff_ne,ne_eq,sh,beq_iff_eq,l6,vg]at e;let⟨⟨⟨⟨⟨⟨⟨y,z⟩,a⟩,b⟩,c⟩,d⟩,g⟩,h⟩:=e;exact⟨y,z,a,b,c,d,g,λf i j=>(h f i).resolve_left λB=>B j⟩
section
variable{LF:bf}{I:a5}{Lr:Φ}{aI:az->Option aa}{LB:a0}
def e1.Ci{Ms:h3}(N:e1 Lr f Mj J R fd)(c:∀Mo y z B a,a.code=B->Lr.lookup R=Z ⟨Mo,y,.func a,z⟩->b B)(LX:iH LR LO (cZ J))(len:∀Q h x Ls,Ms Q h x Ls->Q.length=LO.length)(d:∀(B:aa) (O:a9) (T:List dy) (j:ag) (h:aq) (Q:List ah) (x:cp) (Ls:eO),b B->cQ n (O.deeper<|fR Mj (cZ J) j.heap.objs.size R B)->Ms Q h x Ls->
   ∃E,fP (hH e2 LF I Lr aI LB LR Mj (cZ J) R B O T j h Ls).hX (e3 J) E/\E {bh:=λ_ P=>x .aR P,cR:=x} (start LR Q) h):fZ LF I Lr aI LB e2 (n+1) R fd LO Ms:=by
 let⟨Mo,y,b7,k,L3,A,B,bW,z,rfl,lk,g⟩:=N.ex;refine zb lk g LX len λO T j h Q x Ls LG i=>?_;let⟨E,e,q⟩:=d B O T j h Q x Ls (c _ _ _ B _ rfl lk) LG i;exact⟨E,e.hX,q⟩
def B1(N:e1 Lr f Mj J R fd)(G:∀Mo y z B t,t.code=B->Lr.lookup R=Z ⟨Mo,y,.func t,z⟩->b B)(LX:iH LR LO (cZ J))(L:LO.length=s)(ap:∀a∈LU,a<s)(M:∀(B:aa) (O:a9) (T:List dy) (j:ag) (h:aq) (Ls:eO),b B->cQ n (O.deeper<|fR Mj (cZ J) j.heap.objs.size R B)->gj (hH e2 LF I Lr aI LB LR Mj (cZ J) R B O T j h Ls).hX LU (e3 J) F):
  fZ LF I Lr aI LB e2 (n+1) R fd LO (h7 s<|dB s LR.length LU F):=by
 refine N.Ci G LX (λQ h x Ls e=>e.1.trans L.symm) (λB O T j h Q x Ls U LG e=>⟨_,M B O T j h Ls U LG,?_⟩);let⟨u,A,m,p,l,o,ak,c,q⟩:=e;have al:A.length=s:=o.length.trans u;unfold dB at c;rw[aK al]at c;have J:=u3 (H:=LR.length-s) o;have Lu:start LR Q=Q.map Z++replicate (LR.length-s) Y:=by unfold start;rw[u]
 rw[Lu];have v:∀{g:aW}{P:aq}{LW:List af}{LJ:aU}{r:ah}{Lp:List af},g_ LU A LJ 0=l->cH LU (Q.map Z++replicate (LR.length-s) Y) g->a_ P LJ g LW->bJ P p r Lp->aY h m P (LW++Lp)->x r P:=λ{g P LW LJ r Lp} am Mf k D S=>by
  let⟨bp,Ly,w,an⟩:=qB (LU:=LU) (a:=0) S.tup o k λi r C E=>by
   rw[s6]at C;rw[Mf.2 i C,lF (by rw[bF];exact (eT.mp E).1),eJ,E];rfl
  rw[am]at w;refine q r P Lp bp D w (S.less (aH:=Ly) ?_);rw[bb];exact (c4 Lp an).trans cA
 split at c
 ·rename_i Mc LJ d;cases c;exact⟨_,m,.cR p,LJ,J,ak,d,λr g P LW Lp Mf k D S=>v rfl Mf k D S⟩
 ·rename_i LJ d;cases c;exact⟨_,m,.bh,LJ,J,ak,d,λg P LW Mf k S=>v rfl Mf k ⟨rfl,rfl⟩ (by rw[bN];exact S)⟩
 ·cases c
def It(LR:List az)(g:(Ξ Lr f).isSome=V)(p:d4 Lr f J R)(N:eF Lr aI f J R LO)(i:LR.Nodup->∀(B:aa) (O:a9) (T:List dy) (j:ag) (h:aq) (Ls:eO),(∃Mz cG,Ξ Lr f=Z (Mz,cG)/\B=.ref Mz)->cQ n (O.deeper<|fR f (cZ J) j.heap.objs.size R B)->gj (hH e2 LF I Lr aI LB LR f (cZ J) R B O T j h Ls).hX LU (e3 J) F)(LX:iH LR LO (cZ J):=by exact w1)(k:LO.length=s:=by rfl)(l:∀a∈LU,a<s:=by decide):iA LF I Lr aI LB (n+1) f J R LO s (dB s LR.length LU F):=by
 let⟨fd,e,c,H⟩:=N;let⟨U,U,LN⟩:=p;let⟨⟨Mz,cG⟩,d⟩:=rU.mp g;refine⟨fd,e,c,H,B1 (b:=λB=>∃Mz cG,Ξ Lr f=Z (Mz,cG)/\B=.ref Mz) e (λMo y z B r m lk=>⟨Mz,cG,d,?_⟩) LX k l<|i LX.ak⟩;unfold Ξ at d;rw[LN]at d;dsimp only at d;rw[lk]at d;dsimp only at d;split at d
 ·rename_i o q;split at d
  ·split at d
   ·cases d;exact m.symm.trans q
   ·cases d
  ·cases d
 ·cases d
end
end L2
namespace G
open L2
variable{Mw Me w t b Mu Mn:Option ai}{LA U:List ck}{Lp:Option (List X×aU)}{L1 T aH:aU}{Mi p:List X}{d:aB ai}{LS:ee}{own s:Nat}{n H:Int}{LN:List Int}{e:ai}{f v:a6}{aj:List a6}{o:aB Bool}{c:Bool}
def jz:aB ai:=((cn<|ao (ab<|aC bD (ay 0)<|ab<|cI vInt<|ao (ab<|aC en (ay 1)<|ab<|aw<|.str "down") aJ)<|ao (ay 0) aJ))
def oF:bI:=((bZ (cX 4<|cn<|ao (ab<|aC h4 (ab<|aC bD (ay 3)<|ab<|aw<|.int 0)<|ab<|cI vInt<|ao (ab<|aC en (ay 1)<|ab<|aw<|.str "down") aJ)<|ao (ab<|aC h4 (ab<|aC bD (ay 3)<|ab<|aw<|.int 1)<|ab<|cI vInt<|ao (ab<|aC en (ay 1)<|ab<|aw<|.str "right") aJ) aJ)<|dN (eG (n5 2)<|bM<|aC en (ab<|nr 2)<|ay 4) (jS<|tl 2 iF<|qd 3)<|jS<|ja oC 2 qG<|ao (ab<|e7<|ao (ay 3) aJ) aJ))
def tb:aB ai:=((cn<|ao (ay 1)<|ao (ab<|aC qR (ay 0)<|ab<|aw<|.int 0)<|ao (ab<|cI pv<|ao (ay 0) aJ) aJ))
def As:bI:=((bZ (cX 2<|e7 aJ)<|bZ (gQ (gw<|ab<|nz 1 G.jz<|ao (ay 0) aJ) (cf 3) G.oF)<|dt<|p_ 2<|e6 1 [1] (gw<|ay 2) (cf 0) hY G.tb))
def n7:dm:=(dB 2 5 [0,1] As)
def we:bI:=((dt<|cI i_<|ao (ab<|aC c1 (ab<|bH 2 G.n7<|ao (ay 0)<|ao (ab<|aw<|.str "down") aJ)<|ab<|bH 2 G.n7<|ao (ay 0)<|ao (ab<|aw<|.str "right") aJ) aJ))
def pO:dm:=(dB 1 1 [0] we)
def qg:bI:=((dN (kb<|kk<|ab<|bH 2 (G.g8 8)<|ao (ab<|bH 1 G.js<|ao (ay 4) aJ)<|ao (ay 5) aJ) (dt<|aw<|.aF ar) e5))
def o8:bI:=((bZ (cX 4<|bH 1 G.qm<|ao (ay 2) aJ)<|bZ (cX 5<|cI la<|ao (ab<|bH 1 G.pO<|ao (ay 4) aJ) aJ)<|gQ (gH<|ao (ab<|aw<|.int 2) aJ) (cf 6) G.qg))
def pJ:bI:=((bZ (cX 2<|bH 2 G.rO<|ao (ay 0)<|ao (ay 1) aJ)<|gQ (gH<|ao (ab<|aw<|.int 2) aJ) (cf 3) G.o8))
def vT:bI:=((bZ (gQ (gH<|ao (ab<|cI nA<|ao (ab<|aw<|.int 1)<|ao (ab<|cI nY<|ao (ab<|aw<|.int 6)<|ao (ab<|cI fB<|ao (ay 0) aJ) aJ) aJ) aJ) (cf 1) G.pJ)<|dt<|f5<|eG (bM<|aC en (ab<|bH 1 G.js<|ao (ab<|cn aJ) aJ)<|ab<|cn aJ)<|bM<|bH 2 (G.g8 8)<|ao (ab<|bH 1 G.js<|ao (ab<|cn<|ao (ab<|cn<|ao (ab<|aw<|.int 3)<|ao (ab<|aw<|.int 4) aJ) aJ) aJ)<|ao (ab<|cn<|ao (ab<|cn<|ao (ab<|aw<|.str "down")<|ao (ab<|cn<|ao (ab<|aw<|.int 3)<|ao (ab<|aw<|.int 4) aJ)<|ao (ab<|aw<|.int 1) aJ)<|ao (ab<|cn<|ao (ab<|aw<|.str "right")<|ao (ab<|cn<|ao (ab<|aw<|.int 3)<|ao (ab<|aw<|.int 4) aJ)<|ao (ab<|aw<|.int 1) aJ) aJ) aJ))
def mu:dm:=(dB 1 7 [0] vT)
def hG(c:Bool)(o:a6):X:=(.tup [.int (dc c o).1,aL o])
def Fn(c:Bool)(o:a6):jz [Z (.im<|aL o),Z<|.im<|bG c]=Z (.im<|hG c o,[Z (.im<|aL o),Z<|.im<|bG c]):=by cases c<;>rfl
theorem xp(c:Bool):∀Q:List a6,kq jz (bG c) (Q.map aL)=Z (Q.map<|hG c)
 |[]=>rfl
 |o::Q=>by
  rw[c3,kq,Fn];show (kq jz (bG c)<|Q.map aL).map (hG c o::·)=_;rw[xp c Q];rfl
def GN{o:a6}(e:hG c o=hG c v):o=v:=by
 unfold hG at e;simp only[X.tup.injEq,zq,and_true]at e;exact vx e.2
def Kr{o:a6}(e:bc (hG c o) (hG c v)=V):dP c o v:=by
 unfold hG aL at e;rw[bc,dS]at e;unfold dP;split at e
 ·rename_i d;have a:(dc c o).1=(dc c v).1:=X.int.inj ((X.beq_iff _ _).mp d);refine .inr ⟨a,?_⟩;rw[dS]at e;split at e
  ·rw[dS]at e;cases e
  ·rw[bc,dS]at e;split at e
   ·rename_i b;have b:o.1=v.1:=X.int.inj ((X.beq_iff _ _).mp b);rw[dS]at e;split at e
    ·rw[dS]at e;cases e
    ·rw[bc]at e;have e:=fK e;cases c
     ·exact e
     ·have a:o.2=v.2:=a;lia
   ·rw[bc]at e;have e:=fK e;cases c
    ·have a:o.1=v.1:=a;lia
    ·exact e
 ·rw[bc]at e;exact .inl (fK e)
def Ky(ak:aj.Nodup)(b:aj.length<=1000):j8 (aj.map<|hG c):=by
 refine⟨⟨by rw[bF];exact b,λf a l e=>?_,m7 (λf W l W d=>GN d) ak⟩,.inl λf a=>?_⟩
 ·let⟨D,W,rfl⟩:=fN.mp a;let⟨r,W,rfl⟩:=fN.mp e;rfl
 ·let⟨o,g,rfl⟩:=fN.mp a;rfl
def Du(c:Bool){aj:List a6}(ak:aj.Nodup)(a:aj.length<=1000):∃h:List a6,pz jz (bG c) [cg aj]=Z (dY h)/\h.Perm aj/\h.Pairwise (dP c):=by
 have m:=Ky (c:=c) ak a;let⟨h,y,z⟩:=yO (h2<|aj.map<|hG c) aj rfl;refine⟨h,?_,y,?_⟩
 ·show (kq jz (bG c)<|aj.map aL).bind (λLL=>m8 LL<|aj.map aL)=_;rw[xp];show m8 (aj.map<|hG c) (aj.map aL)=_;unfold m8;rw[aK (n6.mpr m),aK (by rw[hZ];rfl),z,hZ];rfl
 ·have:=qk m.ord.ak m.ord.hJ;rw[z]at this;exact (rL.mp this).imp λe=>Kr e
def d0(U:List ck):List ai:=(U.reverse.map λp=>.lst ((cls p).map aL))
def ti(U:List ck):ai:=(if U=[] then .lst [] else .dh (d0 U))
def j_(p:ck)(E:List ck):ti (p::E)=.dh (d0 (p::E)):=aM ↥0
def ma(p:ck)(E:List ck):d0 (p::E)=d0 E++[.lst ((cls p).map aL)]:=by
 unfold d0;rw[List.reverse_cons,ic];rfl
def wQ(p:ck)(E:List ck):km (d0 (p::E))=Z ((cls p).map aL):=by
 unfold km;rw[ma,eK];show (match (d0 E++[ai.lst ((cls p).map aL)])[(d0 E).length+1-1]? with|some (.lst L)=>Z L|_=>Y)=_;rw[sA,lz<|bq _,uh];rfl
def vS(c:Bool)(e:a6)(s:Nat):cls (c,e,s+1)=cls (c,e,s)++[bg c e (s:Int)]:=by
 unfold cls;rw[List.range_succ,ic];rfl
def C8(c:Bool)(e:a6){s:Nat}(a:1<=s):((cls (c,e,s)).map aL).getLast?=Z (aL<|bg c e<|(s:Int)-1):=by
 obtain⟨n,rfl⟩:∃n,s=n+1:=⟨s-1,⋯⟩;rw[vS,ic,c3,o5,tn,uR];rw[show ((n+1:Nat):Int)-1=(n:Int) by lia];rfl
abbrev dT(aj:List a6)(c:Bool)(U:List ck)(t Mn:Option ai):aU:=[Z (cg aj),Z<|.im<|bG c,Z<|ti U,t,Mn]
def KL(aj:List a6)(c:Bool)(U:List ck)(f:a6)(Mn:Option ai):cX 4 (cn<|ao (ab<|aC h4 (ab<|aC bD (ay 3)<|ab<|aw<|.int 0)<|ab<|cI vInt<|ao (ab<|aC en (ay 1)<|ab<|aw<|.str "down") aJ)<|ao (ab<|aC h4 (ab<|aC bD (ay 3)<|ab<|aw<|.int 1)<|ab<|cI vInt<|ao (ab<|aC en (ay 1)<|ab<|aw<|.str "right") aJ) aJ) (dT aj c U (Z<|.im<|aL f) Mn)=
  Z (.bh,dT aj c U (Z<|.im<|aL f)<|Z<|.im<|aL<|bg c f<|-1):=by
 have d:∀a i:Int,(a,i)=bg c f (-1)->(X.tup [.int a,.int i])=aL (bg c f<|-1):=λa i e=>by rw[<-e];rfl
 cases c
 ·have:=d (f.1-0) (f.2-1) (pG (by show f.1-0=f.1;lia) (by show f.2-1=f.2 + -1;lia));rw[<-this];rfl
 ·have:=d (f.1-1) (f.2-0) (pG (by show f.1-1=f.1 + -1;lia) (by show f.2-0=f.2;lia));rw[<-this];rfl
def ER(g o:a6):en (.im<|aL g) (.im<|aL o)=Z (.im<|.aF<|decide (g=o)):=by
 show (if (X.bE 8 (aL g)&&X.bE 8 (aL o))=V then Z (ai.im<|.aF<|bV (aL g)<|aL o) else Y)=_;rw[aK (show (X.bE 8 (aL g)&&X.bE 8 (aL o))=V from rfl),sM]
def Ej(g:∀p∈U,p.1=c/\1<=p.2.2)(o:U.length<=1000)(h:∀p∈U,p.2.2<=1000):
  oF (dT aj c U (Z<|.im<|aL f) Mn)=Z (.bh,dT aj c (iU c U f) (Z<|.im<|aL f)<|Z<|.im<|aL<|bg c f<|-1):=by
 unfold oF;refine cm (KL aj c U f Mn) ?_;cases U with
 |nil=>
  exact hA (pE rfl) (p6 (vr rfl rfl (dH (bS<|BC (dH rfl rfl) rfl (gC rfl) rfl) rfl) rfl rfl rfl (by
   show _=dT aj c [(c,f,1)] _ _;have:cls (c,f,1)=[f]:=by rw[show cls (c,f,1)=[bg c f 0] from rfl,iM]
   show [Z (cg aj),Z<|.im<|bG c,Z<|ai.dh [.lst [aL f]],_,_]=_;unfold dT;rw[j_,ma,this];rfl)))
 |cons p E=>
  let⟨a,e,s⟩:=p;let⟨rfl,i⟩:=g (a,e,s) (.head _);have q:=h (a,e,s) (.head _);have j:nr 2 (dT aj a ((a,e,s)::E) (Z<|.im<|aL f)<|Z<|.im<|aL<|bg a f<|-1)=Z (.im<|aL<|bg a e<|(s:Int)-1,dT aj a ((a,e,s)::E) (Z<|.im<|aL f)<|Z<|.im<|aL<|bg a f<|-1):=by
   unfold dT;rw[j_];show (km<|d0 ((a,e,s)::E)).bind _=_;rw[wQ];show (((cls (a,e,s)).map aL).getLast?).map _=_;rw[C8 _ _ i];rfl
  have ne:n5 2 (dT aj a ((a,e,s)::E) (Z<|.im<|aL f)<|Z<|.im<|aL<|bg a f<|-1)=Z (V,dT aj a ((a,e,s)::E) (Z<|.im<|aL f)<|Z<|.im<|aL<|bg a f<|-1):=by
   unfold dT;rw[j_];show (if d0 ((a,e,s)::E)=[] then Y else Z (V,_))=_;rw[aM (by rw[ma];simp)]
  have cond:eG (n5 2) (bM<|aC en (ab<|nr 2)<|ay 4) (dT aj a ((a,e,s)::E) (Z<|.im<|aL f)<|Z<|.im<|aL<|bg a f<|-1)=Z (decide (bg a e ((s:Int)-1)=bg a f (-1)),dT aj a ((a,e,s)::E) (Z<|.im<|aL f)<|Z<|.im<|aL<|bg a f<|-1):=kS ne (fc<|cJ (bS j) rfl rfl rfl<|ER (bg a e<|(s:Int)-1)<|bg a f<|-1);by_cases b:bg a e ((s:Int)-1)=bg a f (-1)
  ·rw[eH b]at cond;have d:iU a ((a,e,s)::E) f=(a,e,s+1)::E:=aK b;rw[d];refine lx cond (p6 (v:=.im .aR) ?_);have Mb:f=bg a e (s:Int):=by
    have z:f=bg a (bg a f<|-1) 1:=by rw[q3];exact (iM a f).symm
    rw[z,<-b];exact pa ⋯
   unfold dT;rw[j_,j_];show (km<|d0 ((a,e,s)::E)).bind _=_;rw[wQ];show (match iF (.lst<|(cls (a,e,s)).map aL) [.im (aL f)] with|some (.im p,.lst r)=>Z (ai.im p,_)|_=>Y)=_;have k:(cls (a,e,s)).length=s:=by unfold cls;rw[bF,hW]
   rw[show iF (.lst<|(cls (a,e,s)).map aL) [.im (aL f)]=Z (.im .aR,.lst<|(cls (a,e,s)).map aL++[aL f]) from zZ (by rw[bF,k];lia)];have l:(d0 ((a,e,s)::E)).set ((d0 ((a,e,s)::E)).length-1) (.lst<|(cls (a,e,s)).map aL++[aL f])=d0 ((a,e,s+1)::E):=by
    rw[ma,ma,eK,vS,ic,Mb];show (d0 E++[_]).set ((d0 E).length+1-1) _=_;rw[sA,y3 _ _<|bq _,uh];rfl
   rw[<-l];rfl
  ·rw[es b]at cond;have d:iU a ((a,e,s)::E) f=(a,f,1)::(a,e,s)::E:=aM b;rw[d];have m:(d0 ((a,e,s)::E)).length<100000:=by unfold d0;rw[bF,yd];lia
   have n:qG (.dh<|d0 ((a,e,s)::E)) [.lst [aL f]]=Z (.im .aR,.dh<|d0 ((a,f,1)::(a,e,s)::E)):=by
    show (if _ then _ else _)=_;rw[aK m,ma (a,f,1),show cls (a,f,1)=[bg a f 0] from rfl,iM];rfl
   refine hA cond (p6 (v:=.im .aR) ?_);unfold dT;rw[j_,j_];exact vr rfl rfl (dH (bS<|BC (dH rfl rfl) rfl (gC rfl) rfl) rfl) rfl rfl n rfl
def zM(Q:List a6):Prop:=(∀o∈Q,0<=o.1/\o.1<=30/\0<=o.2/\o.2<=30)
def fL(f:et (s+1) e)(a:0<H)(d:H<1073741824):∃r Lq,c5 [e,ax H]=Z (ax r,[Lq,ax H])/\0<=r/\r<H/\et s Lq:=by
 let⟨v,j,@E,rfl,y,z,g,h,u⟩:=f;have w:¬ H=0:=⋯
 by_cases hd:0<v
 ·refine⟨v%H,eY (v/H) j E,?_,mR _ ⋯,oB _ a,v/H,j,E,rfl,x4 y ⋯,z,g,h,⋯⟩;unfold c5 ua;have l:kK (ax v) (ax 0)=Z (.im<|.aF V):=congrArg (λc=>Z<|ai.im<|.aF c) (eH hd);refine l_ [Z (eY (v/H) j E),Z<|ax H,Z<|ax<|v%H] rfl (ot ((ud<|fc<|cJ (bS<|cJ (v:=ax v) rfl rfl rfl rfl rfl) rfl rfl rfl l).trans ((lb ((BP (cJ (bS<|cJ (v:=ax v) rfl rfl rfl rfl rfl) rfl rfl rfl<|kc a) (show 2<3 by decide)).trans rfl)).trans<|(lb<|jT (L1:=[Z (eY (v/H) j E),Z<|ax H,Z<|ax<|v%H]) (cJ (bS<|cJ (v:=ax v) rfl rfl rfl rfl rfl) rfl rfl rfl<|sG a d) rfl).trans rfl))) rfl
 ·obtain⟨S,b⟩:∃S:Int,S=(j*48271+12345+7919*(E+1))%2147483647:=⟨_,rfl⟩;have i:0<=S:=by rw[b];exact mR _ ∅
  have x:S<2147483647:=by
   rw[b];exact oB _ ∅
  have k:fH j 48271=V:=mK ∅ ∅;have m:fH 7919 (E+1)=V:=uA ∅ ∅;have n:fH S S=V:=mK ⋯ ⋯;refine⟨S*S%1999999973/31%H,eY v S<|E+1,?_,mR _ ⋯,oB _ a,v,S,E+1,rfl,y,i,⋯,⋯,⋯⟩;unfold c5 ua;have l:kK (ax v) (ax 0)=Z (.im<|.aF ar):=congrArg (λc=>Z<|ai.im<|.aF c) (es hd);have o:aC dE (ab<|aC bD (ay 0)<|ab<|aw<|.int 1) (ab<|aw<|.int 48271) [Z (eY v j<|E+1),Z<|ax H,Y]=Z (ax<|j*48271,[Z (eY v j<|E+1),Z<|ax H,Y]):=cJ (bS<|cJ (v:=ax j) rfl rfl rfl rfl rfl) rfl rfl rfl (iz k);have p:aC dE (ab<|aw<|.int 7919) (ab<|aC bD (ay 0)<|ab<|aw<|.int 2) [Z (eY v j<|E+1),Z<|ax H,Y]=Z (ax<|7919*(E+1),[Z (eY v j<|E+1),Z<|ax H,Y]):=cJ rfl (bS<|cJ (v:=ax (E+1)) rfl rfl rfl rfl rfl) rfl rfl (iz m);have q:aC eE (ab<|aC c1 (ab<|aC c1 (ab<|aC dE (ab<|aC bD (ay 0)<|ab<|aw<|.int 1)<|ab<|aw<|.int 48271)<|ab<|aw<|.int 12345)<|ab<|aC dE (ab<|aw<|.int 7919)<|ab<|aC bD (ay 0)<|ab<|aw<|.int 2) (ab<|aw<|.int 2147483647) [Z (eY v j<|E+1),Z<|ax H,Y]=Z (ax S,[Z (eY v j<|E+1),Z<|ax H,Y]):=by
   rw[b];exact cJ (bS<|cJ (bS<|cJ (bS o) rfl rfl rfl rfl) (bS p) rfl rfl rfl) rfl rfl rfl (kc ∅)
  have t:aC dE (ab<|aC bD (ay 0)<|ab<|aw<|.int 1) (ab<|aC bD (ay 0)<|ab<|aw<|.int 1) [Z (eY v S<|E+1),Z<|ax H,Y]=Z (ax<|S*S,[Z (eY v S<|E+1),Z<|ax H,Y]):=cJ (bS<|cJ (v:=ax S) rfl rfl rfl rfl rfl) (bS<|cJ (v:=ax S) rfl rfl rfl rfl rfl) rfl rfl (iz n);exact l_ [Z (eY v S<|E+1),Z<|ax H,Y] rfl ((lb<|(u7<|fc<|cJ (bS<|cJ (v:=ax v) rfl rfl rfl rfl rfl) rfl rfl rfl l).trans rfl).trans ((lb<|jT (L1:=[Z (eY v j<|E+1),Z<|ax H,Y]) (cJ (v:=ax (E+1)) (bS<|cJ (v:=ax E) rfl rfl rfl rfl rfl) rfl rfl rfl rfl) rfl).trans ((lb<|jT (L1:=[Z (eY v S<|E+1),Z<|ax H,Y]) q rfl).trans (gn (cJ (bS (cJ (bS (cJ (bS t) rfl rfl rfl (kc ∅))) rfl rfl rfl (sG ∅ ∅))) rfl rfl rfl<|kc a))))) rfl
def DD(b:0<=n):∃o,nd [.cq (LN.map .int),ax n]=Z (ax o,[.cq (LN.map .int),ax n]):=by
 by_cases a:n<(LN.length:Int)
 ·obtain⟨o,d⟩:∃o,LN[n.toNat]?=Z o:=⟨LN[n.toNat]'(by omega),by simp⟩;have e:dM (LN.map X.int) n=Z (.int o):=xR b (by rw[eJ,d];rfl);have lt:gO (ax n) (ax ((LN.map X.int).length:Int))=Z (.im<|.aF V):=congrArg (λc=>Z<|ai.im<|.aF c) (eH (by rw[bF];exact a));have f:bD (.cq<|LN.map .int) (ax n)=Z (ax o):=congrArg (Option.map ai.im) e;unfold nd ur;exact⟨o,l_ [Z (.cq<|LN.map .int),Z<|ax n] rfl (ot<|(ud<|fc<|cJ rfl (bS<|fz rfl rfl rfl) rfl rfl lt).trans<|gn<|gb f) rfl⟩
 ·have lt:gO (ax n) (ax ((LN.map X.int).length:Int))=Z (.im<|.aF ar):=congrArg (λc=>Z<|ai.im<|.aF c) (es (by rw[bF];exact a));unfold nd ur;exact⟨0,l_ [Z (.cq<|LN.map .int),Z<|ax n] rfl ((lb<|(u7<|fc<|cJ rfl (bS<|fz rfl rfl rfl) rfl rfl lt).trans rfl).trans rfl) rfl⟩
def Fl(d:0<=n)(r:n<1000):∃e,rO [.cq (LN.map .int),ax n]=Z (e,[.cq (LN.map .int),ax n])/\et 1000000 e:=by
 let⟨@o,g⟩:=DD (LN:=LN) d;have h:fH 7919 n=V:=uA ∅ ∅;have i:fH (7919*n) n=V:=mK ⋯ ⋯;have k:fH (o%2147483629+7919*n*n+11) 48271=V:=mK ∅ ∅;obtain⟨j,au⟩:∃j:Int,j=(o%2147483629+7919*n*n+11)*48271%2147483647:=⟨_,rfl⟩;have u:0<=j:=by rw[au];exact mR _ ∅
 have s:j<2147483647:=by rw[au];exact oB _ ∅
 have l:fH (10^60) (10^60)=V:=by decide +kernel
 have Mh:fH (10^60*10^60) (10^60)=V:=by decide +kernel
 have m:∀(f:Int) (c:Bool),fH f (if c then 1 else 0)=V:=λf c=>mK (by cases c<;>decide) (by cases c<;>decide);have p:(0:Int)<10^60*10^60*10^60:=by decide
 have a:jP (ax 10) (ax 60)=Z (ax<|10^(60:Int).toNat):=Av ∅;have b:jP (ax 10) (ax 18)=Z (ax<|10^(18:Int).toNat):=Av ∅;rw[show (60:Int).toNat=60 from rfl]at a;rw[show (18:Int).toNat=18 from rfl]at b;have G:et 1000000 (eY (o%(10^60*10^60*10^60)*(if decide ((10:Int)^18<=o) then 1 else 0)) j 0):=by
  have y:=mR o (show (10^60*10^60*10^60:Int)≠0 by decide);refine⟨_,_,_,rfl,?_,u,⋯,jE 0,by decide⟩;split
  ·rw[Bx];exact y
  ·rw[Int.mul_zero];exact jE 0
 refine⟨_,?_,G⟩;generalize (10:Int)^60=LF at *;generalize (10:Int)^18=Lp at *;unfold rO y2;have q:cX 4 (aC eE (ab<|aC dE (ab<|aC c1 (ab<|aC c1 (ab<|aC eE (ay 2)<|ab<|aw<|.int 2147483629)<|ab<|aC dE (ab<|aC dE (ab<|aw<|.int 7919)<|ay 1)<|ay 1)<|ab<|aw<|.int 11)<|ab<|aw<|.int 48271)<|ab<|aw<|.int 2147483647) [Z (.cq<|LN.map .int),Z<|ax n,Z<|ax o,Z<|ax<|LF*LF*LF,Y]=Z (.bh,[Z (.cq<|LN.map .int),Z<|ax n,Z<|ax o,Z<|ax<|LF*LF*LF,Z<|ax j]):=by
  rw[au];exact nf (cJ (bS (cJ (bS (cJ (bS (cJ (bS (gb (kc ∅))) (bS<|cJ (bS<|gb<|iz h) rfl rfl rfl<|iz i) rfl rfl rfl)) rfl rfl rfl rfl)) rfl rfl rfl<|iz k)) rfl rfl rfl (kc ∅)) (show 4<5 by decide) rfl
 exact hb rfl (cm (kE (fa rfl rfl rfl g) (show 2<5 by decide) rfl) (cm (kE (dZ (cP<|dZ (cP<|dZ rfl rfl rfl rfl a) (cP<|dZ rfl rfl rfl rfl a) rfl rfl<|iz l) (cP<|dZ rfl rfl rfl rfl a) rfl rfl<|iz Mh) (show 3<5 by decide) rfl)<|cm q<|gn<|m3 (fF (cP<|dZ (cP<|dZ rfl rfl rfl rfl<|kc p) (cP<|ph (fF (cP<|dZ rfl (cP<|dZ rfl rfl rfl rfl b) rfl rfl rfl) rfl) rfl rfl) rfl rfl<|iz<|m _ _) rfl) rfl (gC rfl) rfl)) rfl
def HY{i:List (Int×Int)}{m:Int×Int}(e:i.length<100000):iF (dY i) [.im (aL m)]=Z (.im .aR,dY<|i++[m]):=by
 have:iF (dY i) [.im (aL m)]=Z (.im .aR,.lst<|i.map aL++[aL m]):=zZ (by rw[bF];exact e);rw[this];simp
def xS(i:List (Int×Int)):fB [dY i]=Z (ax (i.length:Int)):=by
 show Z (ax ((i.map aL).length:Int))=_;rw[bF]
def x5{Mp Ma MA:aB bj}{k:aU}{f l B:bj}{g c o:Int}(b:Mp k=Z (f,k))(d:Ma k=Z (l,k))(e:dj k f=Z (ax g))(a:dj k l=Z (ax c))(h:MA k=Z (B,k))(i:dj k B=Z (ax o):=by rfl):bM (hy e0 e0 Mp Ma MA) k=Z (decide (g<=c)&&decide (c<=o),k):=by
 unfold bM hy;rw[b];show ((Ma k).bind _).bind _=_;rw[d];show ((dj k f).bind _).bind _=_;rw[e];show ((dj k l).bind _).bind _=_;rw[a];show ((if decide (g<=c)=V then _ else _):Option (ai×aU)).bind _=_;cases decide (g<=c) with
 |false=>rfl
 |true=>
  rw[aK rfl];show ((MA k).bind _).bind _=_;rw[h];show ((dj k l).bind _).bind _=_;rw[a];show ((dj k B).bind _).bind _=_;rw[i];rfl
structure pe(H:Int)(i:List a6):Prop where
 ne:i≠[]
 ak:i.Nodup
 len:(i.length:Int)<=H
 lU:zM i
def Bf:List a6:=([(0,1),(1,0),(0,-1),(-1,0)])
abbrev fY(e:ai)(H:Int)(i:List a6)(n Mn Mu b a c:Option ai):aU:=[Z e,Z<|ax H,Z<|dY i,n,Mn,Mu,b,a,c]
def Em{i:List a6}{n j a:Option ai}(h:et (s+3) e)(F:pe H i)(cs:H<=60):
  ∃Lq M an ap as a1 a2,pY (fY e H i n Mn Mu b j a)=Z (.bh,fY Lq H M n an ap as a1 a2)/\et s Lq/\pe H M:=by
 have db:=List.length_pos_iff.mpr F.ne;have ds:=F.len;let⟨N,y,bd,be,dL,Lw⟩:=fL (s:=s+2) (H:=(i.length:Int)) h ⋯ ⋯;obtain⟨r,bi⟩:∃o,i[N.toNat]?=Z o:=⟨i[N.toNat]'⋯,by simp⟩;let⟨I,z,O,cF,cS,LK⟩:=fL (s:=s+1) (H:=2) Lw ⋯ ⋯;let⟨w,eq,bm,L6,L7,J⟩:=fL (s:=s) (H:=4) LK ⋯ ⋯;obtain⟨v,hd⟩:∃v,Bf[w.toNat]?=Z v:=⟨Bf[w.toNat]'(by show w.toNat<4;lia),by simp⟩;have bn:=zH be bi;have bs:=zH L6 hd;let⟨P,L,rfl⟩:=IX F.ne;have bv:dM ((P++[L]).map aL) (-1)=Z (aL L):=IE ↥0;let⟨ca,rfl⟩:=h.lst;let⟨Q,rfl⟩:=Lw.lst;let⟨R,rfl⟩:=LK.lst;let⟨t,rfl⟩:=J.lst;generalize ev:P++[L]=i at *;have S:fp (aC bD (ay 2)<|ab<|bH 2 G.c5<|ao (ay 0)<|ao (ab<|cI fB<|ao (ay 2) aJ) aJ) (gS 2<|ec (cf 4)<|ec (cf 5) hi) (fY (.lst ca) H i n Mn Mu b j a)=Z (.bh,fY (.lst Q) H i n (Z<|ax r.1) (Z<|ax r.2) b j a):=by
  exact jT (dZ rfl (cP<|fa (fF rfl<|fF (cP<|ph rfl rfl<|xS i) rfl) rfl rfl bd) rfl rfl<|congrArg (Option.map ai.im) bn) rfl
 obtain⟨o,T⟩:∃o:a6,dN (bM<|aC en (ab<|bH 2 G.c5<|ao (ay 0)<|ao (ab<|aw<|.int 2) aJ)<|ab<|aw<|.int 0) (fp (aC bD (ay 2)<|ab<|iV<|aw<|.int 1)<|gS 2<|ec (cf 4)<|ec (cf 5) hi) e5 (fY (.lst Q) H i n (Z<|ax r.1) (Z<|ax r.2) b j a)=Z (.bh,fY (.lst R) H i n (Z<|ax o.1) (Z<|ax o.2) b j a):=by
  by_cases u:I=0
  ·have q:=ri I 0;rw[eH u]at q;exact⟨L,lx (me<|dZ (cP<|fa rfl rfl rfl O) rfl rfl rfl q)<|jT (dZ rfl (cP<|F9 rfl) rfl rfl<|congrArg (Option.map ai.im) bv) rfl⟩
  ·have q:=ri I 0;rw[es u]at q;exact⟨r,hA (me<|dZ (cP<|fa rfl rfl rfl O) rfl rfl rfl q) rfl⟩
 have U:fp (aC bD (ab<|e7<|ao (ab<|cn<|ao (ab<|aw<|.int 0)<|ao (ab<|aw<|.int 1) aJ)<|ao (ab<|cn<|ao (ab<|aw<|.int 1)<|ao (ab<|aw<|.int 0) aJ)<|ao (ab<|cn<|ao (ab<|aw<|.int 0)<|ao (ab<|iV<|aw<|.int 1) aJ)<|ao (ab<|cn<|ao (ab<|iV<|aw<|.int 1)<|ao (ab<|aw<|.int 0) aJ) aJ)<|ab<|bH 2 G.c5<|ao (ay 0)<|ao (ab<|aw<|.int 4) aJ) (gS 2<|ec (cf 6)<|ec (cf 7) hi) (fY (.lst R) H i n (Z<|ax o.1) (Z<|ax o.2) b j a)=Z (.bh,fY (.lst t) H i n (Z<|ax o.1) (Z<|ax o.2) (Z<|ax v.1) (Z<|ax v.2) a):=by
  have cd:dM [X.tup [.int 0,.int 1],.tup [.int 1,.int 0],.tup [.int 0,.int<|-1],.tup [.int (-1),.int 0]] w=Z (.tup [.int v.1,.int v.2]):=bs;exact jT (dZ rfl (cP<|fa rfl rfl rfl bm) rfl rfl<|congrArg (Option.map ai.im) cd) rfl
 obtain⟨m,ce⟩:∃m:a6,m=(o.1+v.1,o.2+v.2):=⟨_,rfl⟩;obtain⟨k,g⟩:∃k:aU,k=fY (.lst t) H i n (Z<|ax o.1) (Z<|ax o.2) (Z<|ax v.1) (Z<|ax v.2) (Z<|.im<|aL m):=⟨_,rfl⟩;have al:cX 8 (cn<|ao (ab<|aC c1 (ay 4)<|ay 6)<|ao (ab<|aC c1 (ay 5)<|ay 7) aJ) (fY (.lst t) H i n (Z<|ax o.1) (Z<|ax o.2) (Z<|ax v.1) (Z<|ax v.2) a)=Z (.bh,k):=by
  rw[g,ce];rfl
 have x:bM (aC jw (ay 8)<|ay 2) k=Z (!decide (m∈i),k):=by
  rw[g];exact fc (gb<|CG i m)
 have A:bM (hy e0 e0 (ab<|aw<|.int 0) (ab<|aC bD (ay 8)<|ab<|aw<|.int 0)<|ab<|aw<|.int 30) k=Z (decide (0<=m.1)&&decide (m.1<=30),k):=by
  rw[g];exact x5 rfl rfl rfl rfl rfl
 have ch:bM (hy e0 e0 (ab<|aw<|.int 0) (ab<|aC bD (ay 8)<|ab<|aw<|.int 1)<|ab<|aw<|.int 30) k=Z (decide (0<=m.2)&&decide (m.2<=30),k):=by
  rw[g];exact x5 rfl rfl rfl rfl rfl
 have C:bM (aC gO (ab<|cI fB<|ao (ay 2) aJ)<|ay 1) k=Z (decide ((i.length:Int)<H),k):=by
  rw[g];exact fc (cJ (bS<|fz rfl rfl<|xS i) rfl rfl rfl rfl)
 have am:∀c:Bool,c=(!decide (m∈i)&&(decide ((i.length:Int)<H)&&((decide (0<=m.1)&&decide (m.1<=30))&&(decide (0<=m.2)&&decide (m.2<=30)))))->
   eG (bM<|aC jw (ay 8)<|ay 2) (eG (bM<|aC gO (ab<|cI fB<|ao (ay 2) aJ)<|ay 1)<|eG (bM<|hy e0 e0 (ab<|aw<|.int 0) (ab<|aC bD (ay 8)<|ab<|aw<|.int 0)<|ab<|aw<|.int 30)<|bM<|hy e0 e0 (ab<|aw<|.int 0) (ab<|aC bD (ay 8)<|ab<|aw<|.int 1)<|ab<|aw<|.int 30) k=Z (c,k):=by
  intro c ci;rw[ci];cases p:decide (m∈i) with
  |true=>rw[p]at x;exact pE x
  |false=>
   rw[p]at x;refine kS x ?_;cases D:decide ((i.length:Int)<H) with
   |false=>rw[D]at C;exact pE C
   |true=>
    rw[D]at C;refine kS C ?_;cases u:(decide (0<=m.1)&&decide (m.1<=30)) with
    |false=>rw[u]at A;exact pE A
    |true=>rw[u]at A;exact kS A ch
 unfold pY;by_cases E:m∉i/\(i.length:Int)<H/\0<=m.1/\m.1<=30/\0<=m.2/\m.2<=30
 ·have cl:=am V (by simp[E]);refine⟨.lst t,i++[m],Z<|ax o.1,Z<|ax o.2,Z<|ax v.1,Z<|ax v.2,Z<|.im<|aL m,cm S<|cm T<|cm U<|cm al<|lx cl ?_,J,⟨by simp,dp.mpr ⟨F.ak,fX _ _,λf p l D d=>E.1 (by rw[dk.mp D]at d;rw[<-d];exact p)⟩,by rw[eK,kM];lia,λf p=>?_⟩⟩
  ·have co:i.length<100000:=⋯
   rw[g];exact p6 (vr rfl rfl rfl rfl rfl (HY co) rfl)
  ·rcases er.mp p with B|B
   ·exact F.lU f B
   ·rw[dk.mp B];exact E.2.2
 ·have cr:=am ar (by
   cases B:(!decide (m∈i)&&(decide ((i.length:Int)<H)&&((decide (0<=m.1)&&decide (m.1<=30))&&(decide (0<=m.2)&&decide (m.2<=30))))) with
   |false=>rfl
   |true=>
    simp at B;exact absurd ⟨B.1,⋯,B.2.2.1.1,B.2.2.1.2,B.2.2.2.1,B.2.2.2.2⟩ E)
  exact⟨.lst t,i,Z<|ax o.1,Z<|ax o.2,Z<|ax v.1,Z<|ax v.2,Z<|.im<|aL m,cm S (cm T (cm U (cm al (hA cr (by rw[g];rfl))))),J,F⟩
structure jL(aj:List a6):Prop where
 ak:aj.Nodup
 bn:zM aj
 len:aj.length<=64
def JF(h:et (s+400) e)(w:1<=H)(x:H<=60):∃Lq aj,qu [e,ax H]=Z (cg aj,[Lq,ax H])/\et s Lq/\jL aj:=by
 let⟨l,z,y,A,al,LK⟩:=fL (s:=s+399) (H:=31) h ⋯ ⋯;let⟨m,r,B,L6,L7,u⟩:=fL (s:=s+398) (H:=31) LK ⋯ ⋯;have D:pe H [(l,m)]:=⟨by simp,fX _ _,by rw[kM];exact w,λc E=>by rw[dk.mp E];exact⟨A,by show l<=30;lia,L6,by show m<=30;lia⟩⟩;let⟨LJ,I,⟨J,i,t,Mn,Mu,b,g,j,rfl,p,F⟩⟩:=qI (LS:=cf 3) (c:=pY) (C:=fw 0 (2*H).toNat) (λa k=>∃e i t Mn Mu b g j,k=fY e H i t Mn Mu b g j/\et (s+398-3*a) e/\pe H i) (k:=fY r H [(l,m)] Y Y Y Y Y Y) ⟨r,[(l,m)],Y,Y,Y,Y,Y,Y,rfl,u,D⟩
  (λa f k L d5=>by
   let⟨e,i,t,Mn,Mu,b,g,j,rfl,M,F⟩:=d5;have Lv:a<(2*H).toNat:=by
    have:=(eT.mp L).1
    rwa [fw,bF,hW]at this
   let⟨Lq,N,am,an,ap,as,a1,d,P,MF⟩:=Em (s:=s+398-3*(a+1)) (n:=Z (.im f)) (Mn:=Mn) (Mu:=Mu) (b:=b) (j:=g) (a:=j) (M.mono ⋯) F x;exact⟨fY e H i (Z<|.im f) Mn Mu b g j,.bh,_,rfl,d,.inl rfl,Lq,N,_,_,_,_,_,_,rfl,P,MF⟩)
 have O:(fw 0 (2*H).toNat).length=(2*H).toNat:=by rw[fw,bF,hW]
 rw[O]at p;have a2:=F.len;let⟨v,Lu,L3,W⟩:=IH F.ak ⋯;have Lu:i_ [dY i]=Z (dY v):=(uV eV i).trans Lu;refine⟨J,v,?_,p.mono ⋯,L3.nodup_iff.mpr F.ak,λo Q=>F.lU o<|L3.mem_iff.mp Q,by rw[L3.length_eq];lia⟩;let⟨q,rfl⟩:=h.lst;let⟨bd,rfl⟩:=LK.lst;let⟨R,rfl⟩:=u.lst;let⟨S,rfl⟩:=p.lst;have T:l2 (2*H):=⟨⋯,⋯⟩;have mk:fH 2 H=V:=uA ∅ ∅;have U:cX 2 (e7<|ao (ab<|cn<|ao (ab<|bH 2 G.c5<|ao (ay 0)<|ao (ab<|aw<|.int 31) aJ)<|ao (ab<|bH 2 G.c5<|ao (ay 0)<|ao (ab<|aw<|.int 31) aJ) aJ) aJ) [Z (.lst q),Z<|ax H,Y,Y,Y,Y,Y,Y,Y]=Z (.bh,fY (.lst R) H [(l,m)] Y Y Y Y Y Y):=
  kE (m3 (fF (cP<|zm (fF (cP<|fa rfl rfl rfl y)<|fF (cP<|fa rfl rfl rfl B) rfl) rfl (gC rfl) rfl) rfl) rfl (gC rfl) rfl) (hr rfl) rfl;unfold qu Ap;exact hb (k:=fY (.lst S) H i t Mn Mu b g j) rfl (cm U<|cm (mZ (uJ (dH (bS<|gb<|iz mk) rfl) rfl T) I rfl)<|gn<|fz (dH (bS<|fz (dH rfl rfl) rfl Lu) rfl) rfl rfl) rfl
def ib(p o I:Int)(s:Nat):List a6:=((range s).map λ(n:Nat)=>(p+(0+(n:Int))/I,o+(0+(n:Int))%I))
def DN{p o I F:Int}(j:1<=F)(k:1<=I)(l:F*I<=64)(m:0<=p)(q:p<32-F)(r:0<=o)(s:o<32-I):jL (ib p o I (F*I).toNat):=by
 refine⟨m7 (λa W i W d=>?_) tG,λf c=>?_,by unfold ib;rw[bF,hW];lia⟩
 ·have t:p+(0+(a:Int))/I=p+(0+(i:Int))/I:=congrArg Prod.fst d;have u:o+(0+(a:Int))%I=o+(0+(i:Int))%I:=congrArg Prod.snd d;have e:=AF (0+(a:Int)) I;have v:=AF (0+(i:Int)) I;have g:(0+(a:Int))/I=(0+(i:Int))/I:=⋯
  rw[g]at e;lia
 ·let⟨n,b,rfl⟩:=fN.mp c;have b:=gq.mp b;have h:0+(n:Int)<F*I:=⋯
  have cF:=Int.ediv_lt_of_lt_mul (show 0<I by lia) h;have cS:=x4 (show (0:Int)<=0+(n:Int) by lia) (show 0<=I by lia);have i1:=mR (0+(n:Int)) (show I≠0 by lia);have w:=oB (0+(n:Int)) (show 0<I by lia);exact⟨by show 0<=p+(0+(n:Int))/I;lia,by show p+(0+(n:Int))/I<=30;lia,by show 0<=o+(0+(n:Int))%I;lia,by show o+(0+(n:Int))%I<=30;lia⟩
def JL{f v:X}{G:aU}(a:LS (.im f) (replicate own Y++aH)=Z T)(b:o T=Z (V,L1))(c:d L1=Z (.im v,G))(e:Mi.length<100000)(n:eb own LS o d p (Mi++[v]) (G.drop own)=Lp):eb own LS o d (f::p) Mi aH=Lp:=by
 rw[eb,a];show (o T).bind _=_;rw[b];show (d L1).bind _=_;rw[c];show (if Mi.length<100000 then _ else _)=_;rw[aK e];exact n
def I5{f:X}(a:LS (.im f) (replicate own Y++aH)=Z T)(b:o T=Z (ar,L1))(n:eb own LS o d p Mi (L1.drop own)=Lp):eb own LS o d (f::p) Mi aH=Lp:=by
 rw[eb,a];show (o T).bind _=_;rw[b];exact n
theorem uL{s:Nat}{H:Int}(c:1<=H)(d:H<=8):∀(Q:List a6) (Mi:List X) {e:ai},et (s+Q.length) e->Mi.length+Q.length<=1000->
  ∃(Lq:ai) (A:List a6),eb 1 (cf 0) G.ta G.w4 (Q.map aL) Mi [Z e,Z<|ax H]=Z (Mi++A.map aL,[Z Lq,Z<|ax H])/\et s Lq/\A.Sublist Q
 |[],Mi,e,h,_=>⟨e,[],by rw[o5,bN];rfl,h,.slnil⟩
 |o::Q,Mi,e,h,g=>by
  rw[dK]at h g;let⟨r,y,i,k,l,Lw⟩:=fL (s:=s+Q.length) (H:=H) h ⋯ ⋯;let⟨q,rfl⟩:=h.lst;let⟨j,rfl⟩:=Lw.lst;have L9:G.ta [Z (.im<|aL o),Z<|.lst q,Z<|ax H]=Z (decide (r>0),[Z (.im<|aL o),Z<|.lst j,Z<|ax H]):=me (dZ (cP<|fa rfl rfl rfl i) rfl rfl rfl rfl);rw[c3];cases f:decide (r>0) with
  |false=>
   rw[f]at L9;let⟨Lq,A,a,LK,b⟩:=uL c d Q Mi Lw ⋯;exact⟨Lq,A,I5 rfl L9 a,LK,b.cons o⟩
  |true=>
   rw[f]at L9;let⟨Lq,A,a,LK,b⟩:=uL c d Q (Mi++[aL o]) Lw (by rw[eK,kM];lia);refine⟨Lq,o::A,JL rfl L9 rfl ⋯<|a.trans ?_,LK,b.cons_cons o⟩;rw[bb,c3];rfl
abbrev d9(e:ai)(Me Mw t Mn Mu b a:Option ai):aU:=[Z e,Me,Mw,t,Mn,Mu,b,a]
def Dk(h:et (s+600) e):∃Lq aj,qm [e]=Z (cg aj,[Lq])/\et s Lq/\jL aj:=by
 let⟨a,y,ce,hd,cF,Lw⟩:=fL (s:=s+599) (H:=8) h ⋯ ⋯;let⟨u,z,ch,he,cS,LK⟩:=fL (s:=s+598) (H:=8) Lw ⋯ ⋯;let⟨j,hf,ci,hm,i1,an⟩:=fL (s:=s+597) (H:=8) LK ⋯ ⋯;let⟨ap,hw,as,h0,ii,L⟩:=fL (s:=s+596) (H:=8) an ⋯ ⋯;let⟨q,rfl⟩:=h.lst;let⟨a1,rfl⟩:=Lw.lst;let⟨io,rfl⟩:=LK.lst;let⟨a2,rfl⟩:=an.lst;let⟨cl,rfl⟩:=L.lst;have M:cX 1 (bH 2 G.c5<|ao (ay 0)<|ao (ab<|aw<|.int 8) aJ) (d9 (.lst q) Y Y Y Y Y Y Y)=Z (.bh,d9 (.lst a1) (Z<|ax a) Y Y Y Y Y Y):=kE (fa rfl rfl rfl ce) (hr rfl) rfl;have O:kW 2 3 (ao (ab<|aC c1 (ab<|aw<|.int 1)<|ab<|bH 2 G.c5<|ao (ay 0)<|ao (ab<|aw<|.int 8) aJ)<|ao (ab<|aC c1 (ab<|aw<|.int 1)<|ab<|bH 2 G.c5<|ao (ay 0)<|ao (ab<|aw<|.int 8) aJ) aJ) (d9 (.lst a1) (Z<|ax a) Y Y Y Y Y Y)=Z (.bh,d9 (.lst a2) (Z<|ax a) (Z<|ax<|1+u) (Z<|ax<|1+j) Y Y Y Y):=vN (fF (cP<|dZ rfl (cP<|fa rfl rfl rfl ch) rfl rfl rfl)<|fF (cP<|dZ rfl (cP<|fa rfl rfl rfl ci) rfl rfl rfl) rfl) rfl (hr rfl) (hr rfl) rfl;obtain⟨F,I,g,P,v,co,cr,cs,it,jp⟩:∃F I g,dN (bM<|aC en (ab<|bH 2 G.c5<|ao (ay 0)<|ao (ab<|aw<|.int 8) aJ)<|ab<|aw<|.int 0) (fp (aC bD (ab<|e7<|ao (ab<|cn<|ao (ab<|aw<|.int 1)<|ao (ab<|aw<|.int 31) aJ)<|ao (ab<|cn<|ao (ab<|aw<|.int 31)<|ao (ab<|aw<|.int 1) aJ)<|ao (ab<|cn<|ao (ab<|aw<|.int 2)<|ao (ab<|aw<|.int 31) aJ)<|ao (ab<|cn<|ao (ab<|aw<|.int 31)<|ao (ab<|aw<|.int 2) aJ) aJ)<|ab<|bH 2 G.c5<|ao (ay 0)<|ao (ab<|aw<|.int 4) aJ)<|gS 2<|ec (cf 2)<|ec (cf 3) hi) e5 (d9 (.lst a2) (Z<|ax a) (Z<|ax<|1+u) (Z<|ax<|1+j) Y Y Y Y)=Z (.bh,d9 (.lst g) (Z<|ax a) (Z<|ax F) (Z<|ax I) Y Y Y Y)/\et (s+595) (.lst g)/\1<=F/\1<=I/\F*I<=64/\F<=31/\I<=31:=by
  have w:=ri ap 0;by_cases bd:ap=0
  ·rw[eH bd]at w;let⟨l,kt,db,kw,lc,v⟩:=fL (s:=s+595) (H:=4) L ⋯ ⋯;let⟨g,rfl⟩:=v.lst;obtain⟨F,I,ds,dL,eq,ev,ex,fd⟩:∃F I:Int,dM [X.tup [.int 1,.int 31],.tup [.int 31,.int 1],.tup [.int 2,.int 31],.tup [.int 31,.int 2]] l=Z (.tup [.int F,.int I])/\1<=F/\1<=I/\F*I<=64/\F<=31/\I<=31:=by
    have:l=0\/l=1\/l=2\/l=3:=⋯
    rcases this with rfl|rfl|rfl|rfl
    ·exact⟨1,31,rfl,by decide⟩
    ·exact⟨31,1,rfl,by decide⟩
    ·exact⟨2,31,rfl,by decide⟩
    ·exact⟨31,2,rfl,by decide⟩
   exact⟨F,I,g,lx (me<|dZ (cP<|fa rfl rfl rfl as) rfl rfl rfl w)<|jT (dZ (cP<|m3 rfl rfl (gC rfl) rfl) (cP<|fa rfl rfl rfl db) rfl rfl<|congrArg (Option.map ai.im) ds) rfl,v,dL,eq,ev,ex,fd⟩
  ·rw[es bd]at w;have:=Int.mul_le_mul (show 1+u<=8 by lia) (show 1+j<=8 by lia) (show 0<=1+j by lia) (show (0:Int)<=8 by decide);exact⟨1+u,1+j,cl,hA (me<|dZ (cP<|fa rfl rfl rfl as) rfl rfl rfl w) rfl,L.mono ⋯,⋯,⋯,⋯,⋯,⋯⟩
 let⟨p,lf,fn,fr,f0,be⟩:=fL (s:=s+594) (H:=32-F) v ⋯ ⋯;let⟨o,li,f1,f2,f4,x⟩:=fL (s:=s+593) (H:=32-I) be ⋯ ⋯;let⟨lm,rfl⟩:=be.lst;let⟨b,rfl⟩:=x.lst;have R:kW 4 5 (ao (ab<|bH 2 G.c5<|ao (ay 0)<|ao (ab<|aC h4 (ab<|aw<|.int 32)<|ay 2) aJ)<|ao (ab<|bH 2 G.c5<|ao (ay 0)<|ao (ab<|aC h4 (ab<|aw<|.int 32)<|ay 3) aJ) aJ) (d9 (.lst g) (Z<|ax a) (Z<|ax F) (Z<|ax I) Y Y Y Y)=Z (.bh,d9 (.lst b) (Z<|ax a) (Z<|ax F) (Z<|ax I) (Z<|ax p) (Z<|ax o) Y Y):=vN (fF (cP<|fa rfl rfl rfl fn)<|fF (cP<|fa rfl rfl rfl f1) rfl) rfl (hr rfl) (hr rfl) rfl;have N:=DN (p:=p) (o:=o) co cr cs fr f0 f2 f4;have MI:0<=F*I:=Int.mul_nonneg ⋯ ⋯;have B:cX 6 (e6 1 [4,3,5] (gH<|ao (ab<|aC dE (ay 2)<|ay 3) aJ) (cf 0) hY G.t5) (d9 (.lst b) (Z<|ax a) (Z<|ax F) (Z<|ax I) (Z<|ax p) (Z<|ax o) Y Y)=Z (.bh,d9 (.lst b) (Z<|ax a) (Z<|ax F) (Z<|ax I) (Z<|ax p) (Z<|ax o) (Z<|dY<|ib p o I (F*I).toNat) Y):=by
  have c2:e6 1 [4,3,5] (gH<|ao (ab<|aC dE (ay 2)<|ay 3) aJ) (cf 0) hY G.t5 (d9 (.lst b) (Z<|ax a) (Z<|ax F) (Z<|ax I) (Z<|ax p) (Z<|ax o) Y Y)=Z (.lst<|(range (F*I).toNat).map λ(n:Nat)=>aL (p+(0+(n:Int))/I,o+(0+(n:Int))%I),d9 (.lst b) (Z<|ax a) (Z<|ax F) (Z<|ax I) (Z<|ax p) (Z<|ax o) Y Y):=by
   refine nq (C:=(range (F*I).toNat).map λ(n:Nat)=>X.int<|0+(n:Int)) (m:=Y) (T:=d9 (.lst b) (Z<|ax a) (Z<|ax F) (Z<|ax I) (Z<|ax p) (Z<|ax o) Y Y) (uJ (i:=F*I) (dH (bS (gb (iz (mK ⋯ ⋯)))) rfl) rfl ⟨⋯,⋯⟩) (tZ (λ(n:Nat)=>X.int<|0+(n:Int)) (λ(n:Nat)=>aL (p+(0+(n:Int))/I,o+(0+(n:Int))%I)) _ (λn ln=>?_) (by rw[hW];lia)) rfl;exact⟨[Z (ax<|0+(n:Int)),Z<|ax p,Z<|ax I,Z<|ax o],_,[Z (ax<|0+(n:Int)),Z<|ax p,Z<|ax I,Z<|ax o],rfl,rfl,Am (dH (bS (cJ rfl (bS (gb (sG ⋯ ⋯))) rfl rfl rfl)) (dH (bS (cJ rfl (bS (gb (kc ⋯))) rfl rfl rfl)) rfl)) rfl (gC rfl) rfl,rfl⟩
  refine nf (c2.trans ?_) (hr rfl) rfl;show Z (ai.lst _,_)=Z (ai.lst<|(ib p o I (F*I).toNat).map aL,_);unfold ib;rw[hZ];rfl
 unfold qm wh;generalize ib p o I (F*I).toNat=Q at N B;by_cases bi:a<2
 ·have D:gO (ax a) (ax 2)=Z (.im<|.aF V):=congrArg (λc=>Z<|ai.im<|.aF c) (eH bi);exact⟨.lst b,Q,hb (k:=d9 (.lst b) (Z<|ax a) (Z<|ax F) (Z<|ax I) (Z<|ax p) (Z<|ax o) (Z<|dY Q) Y) rfl (cm M<|cm O<|cm P<|cm R<|cm B<|ot<|lx (fc<|gb D)<|gn<|fz (dH rfl rfl) rfl rfl) rfl,x.mono ⋯,N⟩
 ·have D:gO (ax a) (ax 2)=Z (.im<|.aF ar):=congrArg (λc=>Z<|ai.im<|.aF c) (es bi);by_cases bm:a<6
  ·have S:gO (ax a) (ax 6)=Z (.im<|.aF V):=congrArg (λc=>Z<|ai.im<|.aF c) (eH bm);let⟨d,f8,U,ga,ge,r⟩:=fL (s:=s+592) (H:=4) x ⋯ ⋯;let⟨E,rfl⟩:=r.lst;obtain⟨H,al,bs,bv⟩:∃H:Int,dM [X.int 2,.int 3,.int 4,.int 8] d=Z (.int H)/\1<=H/\H<=8:=by
    have:d=0\/d=1\/d=2\/d=3:=⋯
    rcases this with rfl|rfl|rfl|rfl
    ·exact⟨2,rfl,by decide,by decide⟩
    ·exact⟨3,rfl,by decide,by decide⟩
    ·exact⟨4,rfl,by decide,by decide⟩
    ·exact⟨8,rfl,by decide,by decide⟩
   have aN:=N.len;let⟨gl,A,c2,t,b5⟩:=uL (s:=s) bs bv Q [] (r.mono ⋯) (by rw[mv];lia);let⟨J,rfl⟩:=t.lst;rw[qO]at c2;refine⟨.lst J,A,hb (k:=d9 (.lst J) (Z<|ax a) (Z<|ax F) (Z<|ax I) (Z<|ax p) (Z<|ax o) (Z<|dY Q) (Z<|ax H)) rfl (cm M<|cm O<|cm P<|cm R<|cm B ?_) rfl,t,N.ak.sublist b5,λf go=>N.bn f<|b5.subset go,dv b5.length_le aN⟩;refine cm (hA (fc<|gb D) rfl) (ot<|lx (fc<|gb S) ?_);refine cm (T:=d9 (.lst E) (Z<|ax a) (Z<|ax F) (Z<|ax I) (Z<|ax p) (Z<|ax o) (Z<|dY Q) (Z<|ax H)) (kE (dZ (cP<|m3 rfl rfl (gC rfl) rfl) (cP<|fa rfl rfl rfl U) rfl rfl<|congrArg (Option.map ai.im) al) (hr rfl) rfl) (gn ?_);exact ph (fF (cP<|nq (m:=Z (6,dY Q)) (T:=d9 (.lst E) (Z<|ax a) (Z<|ax F) (Z<|ax I) (Z<|ax p) (Z<|ax o) (Z .ej) (Z<|ax H)) rfl c2 rfl) rfl) rfl rfl
  ·have S:gO (ax a) (ax 6)=Z (.im<|.aF ar):=congrArg (λc=>Z<|ai.im<|.aF c) (es bm);let⟨d,f8,U,ga,ge,r⟩:=fL (s:=s+592) (H:=3) x ⋯ ⋯;let⟨E,rfl⟩:=r.lst;obtain⟨H,al,bs,bv⟩:∃H:Int,dM [X.int 6,.int 24,.int 60] d=Z (.int H)/\1<=H/\H<=60:=by
    have:d=0\/d=1\/d=2:=⋯
    rcases this with rfl|rfl|rfl
    ·exact⟨6,rfl,by decide,by decide⟩
    ·exact⟨24,rfl,by decide,by decide⟩
    ·exact⟨60,rfl,by decide,by decide⟩
   let⟨am,gl,gt,ls,lv,t⟩:=fL (s:=s+591) (H:=H) r ⋯ ⋯;let⟨J,rfl⟩:=t.lst;let⟨lw,aj,g1,ca,g2⟩:=JF (s:=s) (H:=1+am) (t.mono ⋯) ⋯ ⋯;let⟨cd,rfl⟩:=ca.lst;refine⟨.lst cd,aj,hb (k:=d9 (.lst cd) (Z<|ax a) (Z<|ax F) (Z<|ax I) (Z<|ax p) (Z<|ax o) (Z<|dY Q) Y) rfl (cm M<|cm O<|cm P<|cm R<|cm B ?_) rfl,ca,g2⟩;refine cm (hA (fc<|gb D) rfl) (cm (hA (fc<|gb S) rfl)<|gn ?_);have g3:aC bD (ab<|e7<|ao (ab<|aw<|.int 6)<|ao (ab<|aw<|.int 24)<|ao (ab<|aw<|.int 60) aJ) (ab<|bH 2 G.c5<|ao (ay 0)<|ao (ab<|aw<|.int 3) aJ) (d9 (.lst b) (Z<|ax a) (Z<|ax F) (Z<|ax I) (Z<|ax p) (Z<|ax o) (Z<|dY Q) Y)=Z (ax H,d9 (.lst E) (Z<|ax a) (Z<|ax F) (Z<|ax I) (Z<|ax p) (Z<|ax o) (Z<|dY Q) Y):=dZ (f:=.c_ (.lst [.int 6,.int 24,.int 60])) (T:=d9 (.lst b) (Z<|ax a) (Z<|ax F) (Z<|ax I) (Z<|ax p) (Z<|ax o) (Z<|dY Q) Y) rfl (cP<|eZ (LM:=[.bx 0,.c_<|ax 3]) rfl rfl rfl U rfl) rfl rfl (congrArg (Option.map ai.im) al);have mk:aC c1 (ab<|aw<|.int 1) (ab<|bH 2 G.c5<|ao (ay 0)<|ao (ab<|aC bD (ab<|e7<|ao (ab<|aw<|.int 6)<|ao (ab<|aw<|.int 24)<|ao (ab<|aw<|.int 60) aJ)<|ab<|bH 2 G.c5<|ao (ay 0)<|ao (ab<|aw<|.int 3) aJ) aJ) (d9 (.lst b) (Z<|ax a) (Z<|ax F) (Z<|ax I) (Z<|ax p) (Z<|ax o) (Z<|dY Q) Y)=Z (ax<|1+am,d9 (.lst J) (Z<|ax a) (Z<|ax F) (Z<|ax I) (Z<|ax p) (Z<|ax o) (Z<|dY Q) Y):=dZ (T:=d9 (.lst b) (Z<|ax a) (Z<|ax F) (Z<|ax I) (Z<|ax p) (Z<|ax o) (Z<|dY Q) Y) (f:=.c_ (ax 1)) rfl (cP<|eZ (LM:=[.bx 0,.c_<|ax H]) (fF rfl<|fF (cP g3) rfl) rfl rfl gt rfl) rfl rfl rfl;exact eZ (LM:=[.bx 0,.c_<|ax<|1+am]) (fF rfl<|fF (cP mk) rfl) rfl rfl g1 rfl
def FU{H:Nat}(e:∀p∈U,p.1=c/\1<=p.2.2/\p.2.2<=H):(∀p∈iU c U f,p.1=c/\1<=p.2.2/\p.2.2<=H+1)/\(iU c U f).length<=U.length+1:=by
 have a:∀p∈U,p.1=c/\1<=p.2.2/\p.2.2<=H+1:=λp LG=>⟨(e p LG).1,(e p LG).2.1,sx (e p LG).2.2⟩;have one:(c,f,1).1=c/\1<=(c,f,1).2.2/\(c,f,1).2.2<=H+1:=⟨rfl,bq 1,Bk<|gY H⟩;cases U with
 |nil=>exact⟨λp LG=>by rw[dk.mp LG];exact one,bq 1⟩
 |cons p E=>
  unfold iU;dsimp only;split
  ·refine⟨λj au=>?_,by rw[dK,dK];lia⟩;rcases cu.mp au with rfl|au
   ·have:=e p (.head _);exact⟨rfl,by show 1<=p.2.2+1;lia,by show p.2.2+1<=H+1;lia⟩
   ·exact a j (.tail _ au)
  ·refine⟨λj au=>?_,bq _⟩;rcases cu.mp au with rfl|au
   ·exact one
   ·exact a j au
theorem ys{aj:List a6}{c:Bool}:∀(a:List a6) (U:List ck) (H:Nat) (t Mn:Option ai),(∀p∈U,p.1=c/\1<=p.2.2/\p.2.2<=H)->U.length<=H->H+a.length<=1000->
  ∃d g,eX (cf 3) oF (a.map aL) (dT aj c U t Mn)=Z (.bh,dT aj c (lE c U a) d g)/\(∀p∈lE c U a,p.1=c/\1<=p.2.2/\p.2.2<=1000)/\(lE c U a).length<=1000
 |[],U,H,t,Mn,e,h,b=>⟨t,Mn,rfl,λp LG=>⟨(e p LG).1,(e p LG).2.1,by have:=(e p LG).2.2;rw[mv]at b;lia⟩,by rw[mv]at b;exact dv h ⋯⟩
 |f::a,U,H,t,Mn,e,h,b=>by
  rw[dK]at b;let⟨i,k⟩:=FU (f:=f) e;let⟨d,g,j,q⟩:=ys (aj:=aj) a (iU c U f) (H+1) (Z<|.im<|aL f) (Z<|.im<|aL<|bg c f<|-1) i ⋯ ⋯;refine⟨d,g,?_,q⟩;rw[c3,eX];show (oF<|dT aj c U (Z<|.im<|aL f) Mn).bind _=_;rw[Ej (λp LG=>⟨(e p LG).1,(e p LG).2.1⟩) ⋯ λp LG=>by have:=(e p LG).2.2;lia];exact j
def HL(e:∀p∈U,p.1=c/\1<=p.2.2/\p.2.2<=1000)(d:U.length<=1000):∃Mh f h,p_ 2 (e6 1 [1] (gw<|ay 2) (cf 0) hY G.tb) (dT aj c U t Mn)=Z (fA U.reverse,[Z (cg aj),Z<|.im<|bG c,Mh,f,h]):=by
 cases U with
 |nil=>exact⟨_,_,_,rfl⟩
 |cons p E=>
  generalize i:p::E=a at e d;have k:ti a=.dh (d0 a):=by rw[<-i];exact j_ p E
  have l:my (d0 a)=Z (a.reverse.map λp=>(cls p).map aL):=by
   unfold d0;generalize a.reverse=L;induction L with
   |nil=>rfl
   |cons g L n=>
    rw[c3,my,n];rfl
  have c2:e6 1 [1] (gw<|ay 2) (cf 0) hY G.tb [Z (cg aj),Z<|.im<|bG c,Z<|.cq<|(a.reverse.map λp=>(cls p).map aL).map .aN,t,Mn]=Z (fA a.reverse,[Z (cg aj),Z<|.im<|bG c,Z<|.cq<|(a.reverse.map λp=>(cls p).map aL).map .aN,t,Mn]):=by
   rw[hZ];refine nq (C:=a.reverse.map λp=>.aN<|(cls p).map aL) (m:=Y) (T:=[Z (cg aj),Z<|.im<|bG c,Z<|.cq<|a.reverse.map λp=>.aN<|(cls p).map aL,t,Mn]) rfl (tZ (λp=>.aN<|(cls p).map aL) ea a.reverse (λj au=>?_) (by rw[yd];lia)) rfl;let⟨rfl,q,v⟩:=e j (List.mem_reverse.mp au);let⟨b,o,s⟩:=j;have r:qR (.im<|.aN<|(cls (b,o,s)).map aL) (.im<|.int 0)=Z (.im<|aL o):=by
    show (dM ((cls (b,o,s)).map aL) 0).map ai.im=_;have:((cls (b,o,s)).map aL)[0]?=Z (aL o):=by
     unfold cls;rw[eJ,eJ,xh q];show Z (aL<|bg b o ((0:Nat):Int))=_;rw[show ((0:Nat):Int)=0 from rfl,iM]
    rw[show (0:Int)=((0:Nat):Int) from rfl,Cc this];rfl
   have u:pv [.im (.aN<|(cls (b,o,s)).map aL)]=Z (.im<|.int (s:Int)):=by
    show Z (ai.im<|.int (((cls (b,o,s)).map aL).length:Int))=_;rw[bF,cls,bF,hW]
   exact⟨[Z (.im<|.aN<|(cls (b,o,s)).map aL),Z<|.im<|bG b],_,[Z (.im<|.aN<|(cls (b,o,s)).map aL),Z<|.im<|bG b],rfl,rfl,Am (dH rfl<|dH (bS<|gb r)<|dH (bS<|fz (dH rfl rfl) rfl u) rfl) rfl (gC rfl) rfl,rfl⟩
  refine⟨Z<|.cq<|(a.reverse.map λp=>(cls p).map aL).map .aN,t,Mn,?_⟩;unfold dT;rw[k];show (my<|d0 a).bind _=_;rw[l];exact c2
def zA(c:Bool)(ak:aj.Nodup)(p:aj.length<=900):∃LA:List ck,n7 [cg aj,.im<|bG c]=Z (fA LA,[cg aj,.im<|bG c])/\LA.Perm (dI aj c):=by
 let⟨h,y,z,a⟩:=Du c ak ⋯;let⟨b,d,f,g,i⟩:=ys (aj:=aj) (c:=c) h [] 0 Y Y (λ_ e=>by cases e) (bq 0) (by rw[z.length_eq];lia);let⟨j,l,n,E⟩:=HL (aj:=aj) (t:=b) (Mn:=d) g i;refine⟨(lE c [] h).reverse,?_,Fd ⋯ a z⟩;have o:nz 1 G.jz (ao (ay 0) aJ) (dT aj c [] Y Y)=Z (dY h,dT aj c [] Y Y):=by
  show (pz jz (bG c) [cg aj]).map _=_;rw[y];rfl
 have ae:gw (ab<|nz 1 G.jz<|ao (ay 0) aJ) (dT aj c [] Y Y)=Z ((h.map aL,Y),dT aj c [] Y Y):=by
  unfold gw;rw[cP o];rfl
 unfold n7 As;exact hb (k:=[Z (cg aj),Z<|.im<|bG c,j,l,n]) rfl (cm (T:=dT aj c [] Y Y) rfl<|cm (mZ (m:=Y) ae f rfl)<|gn E) rfl
def zD{O L5:List ck}(u:O.Perm L5)(a:oZ O)(b:oZ L5):O=L5:=by
 refine Bs (λf l W W y z=>?_) a b u;have:=ni (tr f l) (tr l f) y z;rw[uk]at this;cases this
def su(ak:aj.Nodup)(t:aj.length<=400):∃LA:List ck,js [cg aj]=Z (fb LA,[cg aj])/\pO [cg aj]=Z (fA LA,[cg aj])/\LA.length<=1000/\LA.Perm (dI aj V++dI aj ar)/\oZ LA:=by
 have u:=xe (aj:=aj) (c:=V);have v:=xe (aj:=aj) (c:=ar);have s:(dI aj V++dI aj ar).Nodup:=dp.mpr ⟨wi ak,wi ak,λf i l j d=>by
  have e:=(wu ⋯ i).1;have m:=(wu ⋯ j).1;rw[d,m]at e;cases e⟩
 have fy:(dI aj V++dI aj ar).length<=1000:=by rw[eK];lia
 let⟨O,n,g⟩:=zA V ak (by lia:aj.length<=900);let⟨L5,cF,cS⟩:=zA ar ak (by lia:aj.length<=900);have L3:=g.append cS;let⟨Ls,a,b,h⟩:=xr s fy;let⟨LA,o,p,q⟩:=xr (L3.nodup_iff.mpr s) (by rw[L3.length_eq];exact fy);have:LA=Ls:=zD (p.trans<|L3.trans b.symm) q h;subst this;refine⟨LA,?_,?_,by rw[b.length_eq];exact fy,b,h⟩
 ·have a:i_ [fA (dI aj V++dI aj ar)]=Z (fA LA):=(uV kQ _).trans a;have ad:c1 (fA<|dI aj V) (fA<|dI aj ar)=Z (fA<|dI aj V++dI aj ar):=by
   show (if ((dI aj V).map ea).length+((dI aj ar).map ea).length<=100000 then Z (ai.lst<|(dI aj V).map ea++(dI aj ar).map ea) else Y)=_;rw[aK (by rw[bF,bF];lia),<-ic]
  unfold js wY;exact hb (k:=[Z (cg aj)]) rfl (gn (fz (dH (bS (fz (dH (bS (cJ (bS (eZ (LM:=[.bx 0,.c_<|.im<|bG V]) rfl rfl rfl (wB ak ⋯ V) rfl)) (bS (eZ (LM:=[.bx 0,.c_<|.im<|bG ar]) rfl rfl rfl (wB ak ⋯ ar) rfl)) rfl rfl ad)) rfl) rfl a)) rfl) rfl rfl)) rfl
 ·have a:i_ [fA (O++L5)]=Z (fA LA):=(uV kQ _).trans o;have av:=g.length_eq;have r:=cS.length_eq;have ad:c1 (fA O) (fA L5)=Z (fA<|O++L5):=by
   show (if (O.map ea).length+(L5.map ea).length<=100000 then Z (ai.lst<|O.map ea++L5.map ea) else Y)=_;rw[aK (by rw[bF,bF];lia),<-ic]
  unfold pO we;exact hb (k:=[Z (cg aj)]) rfl (gn<|fz (dH (bS<|cJ (bS<|eZ (LM:=[.bx 0,.c_<|.im<|bG V]) rfl rfl rfl n rfl) (bS<|eZ (LM:=[.bx 0,.c_<|.im<|bG ar]) rfl rfl rfl cF rfl) rfl rfl ad) rfl) rfl a) rfl
def Eu(L:List X):gc L L=L.map λv=>.tup [v,v]:=by
 induction L with
 |nil=>rfl
 |cons v p a=>rw[gc,a];rfl
def ve(s:Nat){L:List X}(c:L.length<=1000)(e:∀v∈L,g8 (s+1) [.im v,.im v]=Z (jh V,[.im v,.im v])):g8 (s+2) [.im (.tup L),.im<|.tup L]=Z (jh V,[.im (.tup L),.im<|.tup L]):=by
 have b:e6 2 [] (sj<|ao (ay 0)<|ao (ay 1) aJ) (gS 2<|ec (cf 0)<|ec (cf 1) hi) hY (G.xX<|g8<|s+1) [Z (.im<|.tup L),Z<|.im<|.tup L]=Z (.lst<|L.map λ_=>.aF V,[Z (.im<|.tup L),Z<|.im<|.tup L]):=by
  refine nq (C:=L.map λv=>.tup [v,v]) (m:=Y) (T:=[Z (.im<|.tup L),Z<|.im<|.tup L]) ?_ (tZ (λv=>.tup [v,v]) (λ_=>.aF V) L (λv hd=>?_) ⋯) rfl
  ·show Z ((gc L L,Y),_)=_;rw[Eu]
  ·exact⟨[Z (.im v),Z<|.im v],_,[Z (.im v),Z<|.im v],rfl,rfl,eZ (LM:=[.bx 0,.bx 1]) rfl rfl rfl (e v hd) rfl,rfl⟩
 have a:=ET (λ_:X=>V) L;rw[show (L.all λ_=>V)=V from jl.mpr λ_ W=>rfl]at a;have q:=CV (L.length:Int) (L.length:Int);rw[eH rfl]at q;rw[g8];unfold uW;exact hb (k:=[Z (.im<|.tup L),Z<|.im<|.tup L]) rfl (ot<|lx rfl<|cm (hA (GQ rfl<|fc<|cJ (bS<|fz rfl rfl rfl) (bS<|fz rfl rfl rfl) rfl rfl q) rfl)<|gn<|fz (dH (bS b) rfl) rfl a) rfl
def t6(s:Nat)(a:Int):g8 (s+1) [ax a,ax a]=Z (jh V,[ax a,ax a]):=by
 rw[g8];unfold uW;have q:=ri a a;rw[eH rfl]at q;exact l_ [Z (ax a),Z<|ax a] rfl (cm (hA rfl rfl)<|cm (hA rfl rfl)<|gn<|wg<|kS rfl<|kS rfl<|fc<|gb q) rfl
def HU(s:Nat)(c:Bool):g8 (s+1) [.im (bG c),.im<|bG c]=Z (jh V,[.im (bG c),.im<|bG c]):=by cases c<;>rfl
def xk(a:LA.length<=1000):g8 8 [fb LA,fb LA]=Z (jh V,[fb LA,fb LA]):=
 ve 6 (by rw[bF];exact a) λv hd=>by
  let⟨⟨c,o,s⟩,W,rfl⟩:=fN.mp hd;refine ve 5 (gC rfl) λv hd=>?_;simp only[kQ,cu,u4,lu]at hd;rcases hd with rfl|rfl|rfl
  ·exact HU 5 c
  ·refine ve 4 (gC rfl) λv hd=>?_;rcases cu.mp hd with rfl|hd
   ·exact t6 4 o.1
   ·rw[dk.mp hd];exact t6 4 o.2
  ·exact t6 5 (s:Int)
def EV:js [cg []]=Z (fb [],[cg []]):=by
 let⟨LA,d,W,W,u,W⟩:=su (aj:=[]) hc (gY _);have:LA=[]:=GL u;subst this;exact d
def BK(c:Bool):dI [(3,4)] c=[(c,(3,4),1)]:=by
 have a:au [(3,4)] c=[(3,4)]:=by cases c<;>rfl
 have:fy [(3,4)] c (3,4)=1:=iE.uniq (rN (.head _)<|gC rfl) ⟨bq 1,λi b=>by
  have:i=0:=⋯
  subst this;cases c<;>exact .head _,by cases c<;>decide⟩
 unfold dI;rw[a,c3,o5];show [(c,((3,4):a6),fy [(3,4)] c (3,4))]=_;rw[this]
def JJ:js [cg [(3,4)]]=Z (fb [(V,(3,4),1),(ar,(3,4),1)],[cg [(3,4)]]):=by
 let⟨LA,d,W,W,u,D⟩:=su (aj:=[(3,4)]) (gZ.mpr ⟨u4,hc⟩) (gC rfl);rw[BK,BK]at u;have:LA=[(V,(3,4),1),(ar,(3,4),1)]:=zD u D (fW.mpr ⟨λf a=>by
  rw[dk.mp a];decide,fX _ _⟩)
 rw[this]at d;exact d
def IP(a:js [cg aj]=Z (fb LA,[cg aj]))(c:LA.length<=1000):qg [w,Me,Mw,t,Z<|cg aj,Z<|fb LA,b]=Z (.bh,[w,Me,Mw,t,Z<|cg aj,Z<|fb LA,b]):=by
 unfold qg;exact hA (HA<|C0 (bS<|eZ (LM:=[.c_ (fb LA),.bx 5]) (dH (bS<|eZ (LM:=[.bx 4]) rfl rfl rfl a rfl) rfl) rfl rfl (xk c) rfl) rfl rfl) rfl
def CT(h:et (s+600) e):∃Lq i j d,o8 [w,Me,Z e,t,Mn,Mu,b]=Z (.bh,[w,Me,Z Lq,t,i,j,d])/\et s Lq:=by
 let⟨Lq,aj,l,P,N⟩:=Dk h;have eY:=N.len;let⟨LA,n,o,E,W⟩:=su N.ak ⋯;let⟨q,rfl⟩:=h.lst;let⟨g,rfl⟩:=P.lst;let⟨LJ,p,d,rfl⟩:=qI (LS:=cf 6) (c:=qg) (C:=fw 0 2) (λa k=>∃d,k=[w,Me,Z<|.lst g,t,Z<|cg aj,Z<|fb LA,d]) (k:=[w,Me,Z<|.lst g,t,Z<|cg aj,Z<|fb LA,b]) ⟨_,rfl⟩
  (λa f k r d5=>by
   let⟨d,rfl⟩:=d5;exact⟨[w,Me,Z<|.lst g,t,Z<|cg aj,Z<|fb LA,Z<|.im f],.bh,_,rfl,IP n E,.inl rfl,_,rfl⟩)
 refine⟨_,Z<|cg aj,Z<|fb LA,d,?_,P⟩;unfold o8;refine cm (T:=[w,Me,Z<|.lst g,t,Z<|cg aj,Mu,b]) (kE (T:=[w,Me,Z<|.lst g,t,Mn,Mu,b]) (eZ (LM:=[.bx 2]) rfl rfl rfl l rfl) (hr rfl) rfl) (cm (T:=[w,Me,Z<|.lst g,t,Z<|cg aj,Z<|fb LA,b]) (nf (fz (dH (bS<|eZ (LM:=[.bx 4]) rfl rfl rfl o rfl) rfl) rfl rfl) (hr rfl) rfl) ?_);exact mZ (m:=Y) rfl p rfl
def HG(p:0<=n)(L9:n<1000):∃Mh l g i j,pJ [Z (.cq<|LN.map .int),Z<|ax n,Mw,t,Mn,Mu,b]=Z (.bh,[Z (.cq<|LN.map .int),Z<|ax n,Mh,l,g,i,j]):=by
 let⟨y,q,Lw⟩:=Fl (LN:=LN) p L9;let⟨o,rfl⟩:=Lw.lst;let⟨LJ,r,z,l,g,i,j,rfl,W⟩:=qI (LS:=cf 3) (c:=o8) (C:=fw 0 2) (λa k=>∃e l g i j,k=[Z (.cq<|LN.map .int),Z<|ax n,Z e,l,g,i,j]/\et (1000000-1000*a) e) (k:=[Z (.cq<|LN.map .int),Z<|ax n,Z<|.lst o,t,Mn,Mu,b]) ⟨_,_,_,_,_,rfl,Lw⟩
  (λa f k u d5=>by
   let⟨e,l,g,i,j,rfl,h⟩:=d5;have Lv:a<2:=by
    have:=(eT.mp u).1
    rwa [fw,bF,hW]at this
   let⟨Lq,v,x,A,d,P⟩:=CT (s:=1000000-1000*(a+1)) (e:=e) (w:=Z (.cq<|LN.map .int)) (Me:=Z (ax n)) (t:=Z (.im f)) (Mn:=g) (Mu:=i) (b:=j) (h.mono ⋯);exact⟨[Z (.cq<|LN.map .int),Z<|ax n,Z e,Z<|.im f,g,i,j],.bh,_,rfl,d,.inl rfl,_,_,_,_,_,rfl,P⟩)
 refine⟨Z z,l,g,i,j,?_⟩;unfold pJ;exact cm (T:=[Z (.cq<|LN.map .int),Z<|ax n,Z<|.lst o,t,Mn,Mu,b]) (nf (eZ (LM:=[.bx 0,.bx 1]) rfl rfl rfl q rfl) (hr rfl) rfl) (mZ (m:=Y) rfl r rfl)
def B4(LN:List Int)(q:LN.length<100000):∃l,mu [.cq (LN.map .int)]=Z (.im<|.aF V,l):=by
 obtain⟨H,g,r,s⟩:∃H:Int,H=(if (if (LN.length:Int)<6 then (LN.length:Int) else 6)>1 then (if (LN.length:Int)<6 then (LN.length:Int) else 6) else 1)/\1<=H/\H<=6:=⟨_,rfl,by split<;>lia,by split<;>(try split)<;>lia⟩;let⟨LJ,h,Me,Mw,t,Mn,Mu,b,rfl⟩:=qI (LS:=cf 1) (c:=pJ) (C:=fw 0 H.toNat) (λa k=>∃Me Mw t Mn Mu b,k=[Z (.cq<|LN.map .int),Me,Mw,t,Mn,Mu,b]) (k:=[Z (.cq<|LN.map .int),Y,Y,Y,Y,Y,Y]) ⟨Y,Y,Y,Y,Y,Y,rfl⟩
  (λa f k i d5=>by
   let⟨Me,Mw,t,Mn,Mu,b,rfl⟩:=d5;let⟨Lv,j⟩:=eT.mp i;have u:a<H.toNat:=by rwa [fw,bF,hW]at Lv
   have Mb:f=.int (0+(a:Int)):=by
    rw[<-j];simp[fw]
   subst Mb;let⟨Mh,v,w,x,y,d⟩:=HG (LN:=LN) (n:=0+(a:Int)) (Mw:=Mw) (t:=t) (Mn:=Mn) (Mu:=Mu) (b:=b) ⋯ ⋯;exact⟨[Z (.cq<|LN.map .int),Z<|ax<|0+(a:Int),Mw,t,Mn,Mu,b],.bh,_,rfl,d,.inl rfl,_,_,_,_,_,_,rfl⟩)
 refine⟨[.cq (LN.map .int)],?_⟩;unfold mu vT;have m:l2 H:=⟨⋯,⋯⟩;have eY:fB [.cq (LN.map .int)]=Z (ax (LN.length:Int)):=by
  show Z (ax ((LN.map X.int).length:Int))=_;rw[bF]
 have ae:gH (ao (ab<|cI nA<|ao (ab<|aw<|.int 1)<|ao (ab<|cI nY<|ao (ab<|aw<|.int 6)<|ao (ab<|cI fB<|ao (ay 0) aJ) aJ) aJ) aJ) [Z (.cq<|LN.map .int),Y,Y,Y,Y,Y,Y]=Z ((fw 0 H.toNat,Y),[Z (.cq<|LN.map .int),Y,Y,Y,Y,Y,Y]):=by
  have o:=Jv 6 (LN.length:Int);have e:=EO 1 (if (LN.length:Int)<6 then (LN.length:Int) else 6);rw[<-g]at e;exact uJ (dH (bS<|fz (dH rfl<|dH (bS<|fz (dH rfl<|dH (bS<|fz rfl rfl eY) rfl) rfl o) rfl) rfl e) rfl) rfl m
 have p:=xk (LA:=[(V,(3,4),1),(ar,(3,4),1)]) ∅;exact hb (k:=[Z (.cq<|LN.map .int),Me,Mw,t,Mn,Mu,b]) rfl (cm (mZ ae h rfl)<|gn<|wg<|kS (fc<|cJ (bS<|eZ (LM:=[.c_ (cg [])]) rfl rfl rfl EV rfl) rfl rfl rfl rfl)<|fc<|eZ (LM:=[.c_ (fb [(V,(3,4),1),(ar,(3,4),1)]),.c_<|fb [(V,(3,4),1),(ar,(3,4),1)]]) (dH (bS<|eZ (LM:=[.c_ (cg [(3,4)])]) rfl rfl rfl JJ rfl) rfl) rfl rfl p rfl) rfl
end G
namespace L2
end L2
namespace L2
open Spec PyProof.Rows
section
variable{b:aE}
variable{a i:Nat}{f l:az}{g c:a7}{n s B LC:Pos}
def D8{L8:ei}{x L_ y}(E:b.calm=V)(C:b.N.Nodup)(Lv:b.N[a]?=Z f)(F:b.N[i]?=Z l)(H:fs b.env.scope f)(J:fs b.env.scope l)(L:gd b [g,c] L8)(O:rb [.Tuple [.Name f n,.Name l s] x B] (.Tuple [g,c] L_ y) b.env=pure Y)(au:pD [.Tuple [.Name f n,.Name l s] x B] (.Tuple [g,c] L_ y) LC.line b.env=pure ar)(R:(eo [.Tuple [.Name f n,.Name l s] x B] b.env).map (·.2)=[fO (.Tuple [.Name f n,.Name l s] x B) b.env])(S:(eo [.Name f n,.Name l s] b.env).length=2)(al:(eo [.Name f n,.Name l s] b.env).findIdx? (·.1)=Y)(Mf:b.fn f=V\/b.env.scope.names.lookup f=Z .local)(am:b.fn l=V\/b.env.scope.names.lookup l=Z .local):
  f3 b (.Assign [.Tuple [.Name f n,.Name l s] x B] (.Tuple [g,c] L_ y) LC) (D0 a i L8):=by
 intro M j w h k t e;refine zk (Tuple_<|bK (L _ M j w h _ t e) λLP o ⟨Q,Lw,an,ap,z⟩=>?_) au O;let⟨r,I,A,z⟩:=z;subst A;obtain⟨p,v,rfl,as,a1⟩:∃p v,LP=[p,v]/\bC r p/\bC I v:=by
  cases ap with
  |cons u q=>
   cases q with
   |cons a2 bd=>
    cases bd;exact⟨_,_,rfl,u,a2⟩
 refine jB ?_ (by show 2<=sizeLine;decide);have be:aA b M w Lw {o with heap:=o.heap.push {cls:=.type "tuple",data:=.seq [p,v].toArray} }:=an.kept (LY:=o.toks) λc m d=>b4 _ d;rw[R];show wpAny _ _ (fO (.Tuple [.Name f n,.Name l s] x B) b.env<|.ref o.heap.objs.size) _ _ _;refine zh (items:=#[p,v]) (t.ok.hd E) (nI.new o.heap _) (by rw[S];rfl) al λLq bi=>?_;have bm:=be.kept (Lq:=Lq) (LY:=o.toks) λc m d=>bi c m (c8<|bQ d) d;have bn:kL b [.Name f n,.Name l s] _:=sV (uF C Lv H Mf) (sV (uF C F J am) AB);refine bK (bn M _ w Lw [r,I] [p,v] (λD P=>D=(w.set a<|Z r).set i (Z I)/\P=Lw) bm (.cons as<|.cons a1 .nil) ⟨r,[I],rfl,I,[],rfl,rfl,rfl,rfl⟩) λ_ ca ⟨D,P,bs,A,bv⟩=>?_;subst A bv;exact⟨_,_,bs,z⟩
def Az{LU:List Nat}{F:aB (List bj)}{x L_ j}(t:b.calm=V)(u:b.N.Nodup)(Lv:b.N[a]?=Z f)(v:b.N[i]?=Z l)(C:fs b.env.scope f)(E:fs b.env.scope l)(H:eR b [g,c] F)(I:a∉LU)(L:i∉LU)(M:rb [.Tuple [.Name f n,.Name l s] x B] (.Tuple [g,c] L_ j) b.env=pure Y:=by rfl)(au:pD [.Tuple [.Name f n,.Name l s] x B] (.Tuple [g,c] L_ j) LC.line b.env=pure ar:=by rfl)(P:(eo [.Tuple [.Name f n,.Name l s] x B] b.env).map (·.2)=[fO (.Tuple [.Name f n,.Name l s] x B) b.env]:=by rfl)(R:(eo [.Name f n,.Name l s] b.env).length=2:=by rfl)(S:(eo [.Name f n,.Name l s] b.env).findIdx? (·.1)=Y:=by rfl)(Mf:b.fn f=V\/b.env.scope.names.lookup f=Z .local:=by first|exact .inl rfl|exact .inr rfl|assumption)(al:b.fn l=V\/b.env.scope.names.lookup l=Z .local:=by first|exact .inl rfl|exact .inr rfl|assumption):
  gF b LU (.Assign [.Tuple [.Name f n,.Name l s] x B] (.Tuple [g,c] L_ j) LC) (kW a i F):=by
 refine iY (D8 t u Lv v C E H M au P R S Mf al) λLs w h ⟨k,N,aN,LJ,J,ak,am,q⟩=>?_;let⟨⟨LM,T⟩,y,z⟩:=bl.mp am;let⟨⟨A,L1⟩,an,e⟩:=bl.mp z;refine⟨k,N,LM,T,J,ak,y,λQ Lw LI ch ap Me as=>?_⟩;let⟨LQ,bp,a1,a2,L3⟩:=kF ap Me an;dsimp only at e;split at e
 ·rename_i L6 L7 d;split at e
  ·rename_i m;cases e;let⟨r,p,O,L5,rfl,bd,be,rfl⟩:=a2;let⟨D,Mc,ci,cl,rfl,bi,⟨rfl,rfl⟩,rfl⟩:=be;let⟨bm,o,bn,bs⟩:=a1.put (a:=a) bd m.1;let⟨bv,ca,cd,ce⟩:=bn.put (a:=i) bi (by rw[rP];exact m.2);refine⟨r,D,rfl,q _ Lw bv ((cH.set I).trans<|cH.set L) cd<|(as.iB L3.symm).less (aH:=ca++o) ?_⟩;rw[<-bb,bN,<-bb];refine (dO o ce).trans ?_;rw[bb];refine (c4 bm cA).trans ?_;rw[<-bb];exact dO _ bs
  ·cases e
 ·cases e
end
end L2
set_option maxHeartbeats 4000000
namespace K11
open L2 PyProof.Rows
variable{R:af}{o:fG}
def eh(a:Nat):cv:=(PySem.Challenge.pw_mowfloor_k11_all_runs.main.body.getD a (.Pass ⟨0,0,0,0⟩))
structure f6(aI:az->Option aa):Prop where
 FK:aI "all" = Y
 Gi:aI "bool" = Y
 nJ:aI "int" = Y
 lT:aI "isinstance" = Y
 ku:aI "len" = Y
 Km:aI "max" = Y
 D5:aI "min" = Y
 nh:aI "range" = Y
 rS:aI "sorted" = Y
 yg:aI "str" = Y
 kB:aI "tuple" = Y
 EA:aI "zip" = Y
 A5:∃E,aI "DOWN" = Z (.str "down" E)
 II:∃E,aI "RIGHT" = Z (.str "right" E)
def CE:ez "all" = Z (.builtin "all"):=by decide +kernel
def IV:ez "bool" = Z (.type "bool"):=by decide +kernel
def oo:ez "int" = Z (.type "int"):=by decide +kernel
def lW:ez "isinstance" = Z (.builtin "isinstance"):=by decide +kernel
def kD:ez "len" = Z (.builtin "len"):=by decide +kernel
def BZ:ez "max" = Z (.builtin "max"):=by decide +kernel
def EU:ez "min" = Z (.builtin "min"):=by decide +kernel
def qL:ez "sorted" = Z (.builtin "sorted"):=by decide +kernel
def yw:ez "str" = Z (.type "str"):=by decide +kernel
def ll:ez "tuple" = Z (.type "tuple"):=by decide +kernel
def d1{O:a9}{n:Nat}(LG:cQ n O):O.units+20<bP:=by have:=LG.un;omega
abbrev ug:cv:=eh 1
abbrev CL:List az:=["things","found","thing"]
abbrev tL:cv:=eh 5
abbrev HK:List az:=["word","cell","many"]
abbrev uc:cv:=eh 6
abbrev Ep:List az:=["free","word","cell","many"]
abbrev ql:cv:=eh 7
abbrev y5:List az:=["floor","word","free"]
abbrev uZ:cv:=eh 8
abbrev GS:List az:=["floor"]
abbrev r0:cv:=eh 10
abbrev JE:List az:=["_law_script","_law_k"]
abbrev s8:cv:=eh 11
abbrev IK:List az:=["_law_script","_law_k","_law_cell","_law_bound","_law_seed"]
abbrev vt:cv:=eh 12
abbrev DO:List az:=["_law_hand_here","_law_many","_law_digit"]
abbrev rV:cv:=eh 14
abbrev CQ:List az:=["_law_hand_here","_law_many","_law_some","_law_turn","_law_row","_law_column","_law_down","_law_right","_law_cell"]
abbrev nP:cv:=eh 13
abbrev rW:List az:=["_law_hand_here","_law_way","_law_high","_law_wide","_law_row","_law_column","_law_some","_law_often"]
abbrev qE:cv:=eh 15
abbrev Dm:List az:=["_law_floor_here","_law_word","_law_some","_law_cell","_law_ahead"]
abbrev uj:cv:=eh 16
abbrev Ip:List az:=["_law_floor_here"]
abbrev pF:cv:=eh 17
abbrev EG:List az:=["_law_got","_law_due"]
abbrev vz:cv:=eh 18
abbrev Ic:List az:=["_law_script","_law_k","_law_hand_here","_law_turn","_law_floor_here","_law_due","_law_asking"]
section
variable{LF:bf}{I:a5}{Lr:Φ}{aI:az->Option aa}{LB:a0}
abbrev xj(o:fG)(R:af):Prop:=fU o 1 "lookup" ug R ["things"] 1 G.nM
def Jd(N:eF o.K o.aI "lookup" ug R ["things"])(LA:f6 o.aI):xj o R:=by
 refine gW CL N λak B O T j h Ls LG=>?_;exact (cN (gx 1 ak J0) (cN (mx (Mf:=[0]) kU rfl (m6<|aO 0) (g9 2 ak) (c0<|j6 vo<|pV (gz 1) (rm<|gz 2)<|Ka<|d1 LG) ∅ (JZ ∅))<|c0<|ef<|rm<|gz 1))
abbrev r6(o:fG)(R:af):Prop:=fU o 1 "further" tL R ["word","cell","many"] 3 G.rR
def JR(N:eF o.K o.aI "further" tL R ["word","cell","many"])(LA:f6 o.aI):r6 o R:=by
 refine gW HK N λak B O T j h Ls LG=>?_;exact (cN (g0 (gE (iJ<|d1 LG) (aO 0) (bt<|vy rfl LA.A5.choose_spec)<|e_ _) (c0 (ef (jy (by exact (b_ (cM fQ (fk LG (aO 1) a8)<|aO 2)<|fk LG (aO 1) a8))))) ht) (c0 (ef (jy (by exact (b_ (fk LG (aO 1) a8)<|cM fQ (fk LG (aO 1) a8)<|aO 2))))))
abbrev xo(o:fG)(R:af):Prop:=fU o 2 "run_from" uc R ["free","word","cell"] 3 G.oz
def Dw(N:eF o.K o.aI "run_from" uc R ["free","word","cell"])(LA:f6 o.aI){b:af}(c:r6 o b):xo o R:=by
 refine gW Ep N λak B O T j h Ls LG=>?_;exact (cN (gx 3 ak h8) (cN (CA 1000000 kU (gE (C2<|d1 LG) (bt<|c9 c LG<|hq (aO 1) (aO 2)<|aO 3) (aO 0) rfl) (c0 (Gu (a:=3) ak rfl (Or.inl rfl) h8 Gr ∅))) (c0 (ef (jy (by exact (hq (aO 1) (aO 2)<|aO 3)))))))
abbrev yJ(o:fG)(R:af):Prop:=fU o 3 "runs_of_word" ql R ["floor","word"] 2 G.nL
def Jh(N:eF o.K o.aI "runs_of_word" ql R ["floor","word"])(LA:f6 o.aI){c:af}(d:xj o c){e:af}(f:r6 o e){g:af}(i:xo o g):yJ o R:=by
 refine gW y5 N λak B O T j h Ls LG=>?_;exact (cN (uX (a:=2) ak rfl (Or.inr rfl) (c9 d LG<|cO<|aO 0) ∅) (c0 (ef (s_ (own:=["cell"]) (LV:=[1,2]) rfl (qM (cZ ql) y5 (by decide +kernel)) ∅ (m6<|aO 0) (λb=>(lX 0)) (λb=>(zT<|gE (A7<|d1 LG) (bt<|c9 f LG<|hq (aO 1) (aO 0)<|bt<|p4 h8) (aO 2) rfl))<|λb=>(c9 i LG<|hq (aO 2) (aO 1)<|aO 0)))))
abbrev AU(o:fG)(R:af):Prop:=fU o 4 "runs" uZ R ["floor"] 1 G.js
def DS(N:eF o.K o.aI "runs" uZ R ["floor"])(LA:f6 o.aI){a:af}(a6:yJ o a):AU o R:=by
 refine gW GS N λak B O T j h Ls LG=>?_;exact (c0<|ef<|ji nD rfl LA.kB ll<|cO<|bt<|gT (vc rfl<|d1 LG) LA.rS qL<|cO<|cM fQ (bt<|c9 a6 LG<|b_ (aO 0)<|bt<|vy rfl LA.A5.choose_spec)<|bt<|c9 a6 LG<|b_ (aO 0)<|bt<|vy rfl LA.II.choose_spec)
abbrev A2(o:fG)(R:af):Prop:=fU o 1 "_law_cell_at" r0 R ["_law_script","_law_k"] 2 G.nd
def CP(N:eF o.K o.aI "_law_cell_at" r0 R ["_law_script","_law_k"])(LA:f6 o.aI):A2 o R:=by
 refine gW JE N λak B O T j h Ls LG=>?_;exact (cN (g0 (gE qz (aO 1) (bt<|gT mS LA.ku kD<|cO<|aO 0)<|e_ _) (c0<|ef<|kJ LG (aO 0)<|aO 1) ht)<|c0<|ef h8)
abbrev zF(o:fG)(R:af):Prop:=fU o 2 "_law_hand" s8 R ["_law_script","_law_k"] 2 G.rO
def DC(N:eF o.K o.aI "_law_hand" s8 R ["_law_script","_law_k"])(LA:f6 o.aI){a:af}(b:A2 o a):zF o R:=by
 refine gW IK N λak B O T j h Ls LG=>?_;exact (cN (gx 2 ak<|c9 b LG<|b_ (aO 0)<|aO 1) (cN (gx 3 ak<|ki hT (cM hT (cM p7 a8 a8)<|cM p7 a8 a8)<|cM p7 a8 a8) (cN (gx 4 ak<|ki kf (cM hT (cM fQ (cM fQ (cM kf (aO 2) a8)<|cM hT (cM hT a8<|aO 1)<|aO 1) a8) a8) a8) (c0 (ef (ka (by exact (hq (cM hT (cM kf (aO 2)<|aO 3)<|bt<|ji ro rfl LA.nJ oo<|cO<|bt<|k6 IG (aO 2) (cM p7 a8 a8)<|e_ _) (aO 4) a8))))))))
abbrev tW(o:fG)(R:af):Prop:=fU o 1 "_law_pick" vt R ["_law_hand_here","_law_many"] 2 G.c5
def GH(N:eF o.K o.aI "_law_pick" vt R ["_law_hand_here","_law_many"])(LA:f6 o.aI):tW o R:=by
 refine gW DO N λak B O T j h Ls LG=>?_;exact (cN (g0 (gE AD (fk LG (aO 0) a8) a8<|e_ _) (cN (gx 2 ak<|ki kf (fk LG (aO 0) a8)<|aO 1)<|cN (j6 (ki vI (fk LG (aO 0) a8)<|aO 1)<|pV (gz 0) h8<|uz<|d1 LG)<|c0<|ef<|rm<|gz 2) ht)<|cN (j6 (ki fQ (fk LG (aO 0) a8) a8)<|pV (gz 0) h8<|uz<|d1 LG)<|cN (j6 (ki kf (cM fQ (cM fQ (cM hT (fk LG (aO 0) a8) a8) a8)<|cM hT a8<|fk LG (aO 0) a8) a8)<|pV (gz 0) h8<|uz<|d1 LG)<|c0<|ef<|ki kf (cM vI (cM kf (cM hT (fk LG (aO 0) a8)<|fk LG (aO 0) a8) a8) a8)<|aO 1)
abbrev wK(o:fG)(R:af):Prop:=fU o 2 "_law_grown" rV R ["_law_hand_here","_law_many"] 2 G.qu
def E7(N:eF o.K o.aI "_law_grown" rV R ["_law_hand_here","_law_many"])(LA:f6 o.aI){b:af}(a:tW o b):wK o R:=by
 refine gW CQ N λak B O T j h Ls LG=>?_;exact (cN (gx 2 ak (ka (by exact (cO (ff (by exact (b_ (bt<|c9 a LG<|b_ (aO 0) a8)<|bt<|c9 a LG<|b_ (aO 0) a8))))))) (cN (mx (Mf:=[0,1]) kU rfl (oT rfl LA.nh<|cO<|cM hT a8<|aO 1) (g9 3 ak) (cN (j6 (kJ LG (aO 2)<|bt<|c9 a LG<|b_ (aO 0)<|bt<|gT mS LA.ku kD<|cO<|aO 2)<|m2 (g9 4 ak)<|g9 5 ak) (cN (g0 (gE (iJ<|d1 LG) (bt<|c9 a LG<|b_ (aO 0) a8) a8<|e_ _) (c0<|j6 (kJ LG (aO 2)<|bt<|p4 h8)<|m2 (g9 4 ak)<|g9 5 ak) ht) (cN (j6 (kJ LG (bt (ka (by exact (mX (ff (by exact (b_ a8 a8))) (by exact (hq (ff (by exact (b_ a8 a8))) (ff (by exact (b_ a8<|bt<|p4 h8))) (ff (by exact (b_ (bt<|p4 h8) a8)))))))))<|bt<|c9 a LG<|b_ (aO 0) a8)<|m2 (g9 6 ak)<|g9 7 ak) (cN (gx 8 ak (jy (by exact (b_ (cM fQ (aO 4)<|aO 6)<|cM fQ (aO 5)<|aO 7))))<|c0<|g0 (ih.sE<|qv (gE (A7<|d1 LG) (aO 8) (aO 2) rfl)<|qv (gE qz (bt<|gT mS LA.ku kD<|cO<|aO 2) (aO 1)<|e_ _)<|qv (Ar qX qX a8 (fk LG (aO 8) a8) a8)<|wz<|Ar qX qX a8 (fk LG (aO 8) a8) a8) (c0<|uE<|Aj Ai vY rX vd BJ (gz 2)<|cO<|aO 8) ht)))) ∅ rk)<|c0<|ef<|ji nD rfl LA.kB ll<|cO<|bt<|gT (vc rfl<|d1 LG) LA.rS qL<|cO<|aO 2))
abbrev yz(o:fG)(R:af):Prop:=fU o 3 "_law_floor" nP R ["_law_hand_here"] 1 G.qm
def E2(N:eF o.K o.aI "_law_floor" nP R ["_law_hand_here"])(LA:f6 o.aI){d:af}(b:tW o d){e:af}(f:wK o e):yz o R:=by
 refine gW rW N λak B O T j h Ls LG=>?_;exact (cN (gx 1 ak<|c9 b LG<|b_ (aO 0) a8) (cN (Az (a:=2) (i:=3) rfl ak rfl rfl (Or.inl rfl) (Or.inr rfl) (b_ (cM fQ a8<|bt<|c9 b LG<|b_ (aO 0) a8)<|cM fQ a8<|bt<|c9 b LG<|b_ (aO 0) a8) ∅ ∅) (cN (g0 (gE (iJ<|d1 LG) (bt<|c9 b LG<|b_ (aO 0) a8) a8<|e_ _) (c0 (j6 (kJ LG (bt (ka (by exact (mX (ff (by exact (b_ a8 a8))) (by exact (hq (ff (by exact (b_ a8 a8))) (ff (by exact (b_ a8 a8))) (ff (by exact (b_ a8 a8)))))))))<|bt<|c9 b LG<|b_ (aO 0) a8) (m2 (g9 2 ak) (vs (a:=3) ak rfl (Or.inr rfl) ∅)))) ht) (cN (Az (a:=4) (i:=5) rfl ak rfl rfl (Or.inr rfl) (Or.inr rfl) (b_ (bt<|c9 b LG<|b_ (aO 0)<|cM qQ a8<|aO 2)<|bt<|c9 b LG<|b_ (aO 0)<|cM qQ a8<|aO 3) ∅ ∅) (cN (E_ (a:=6) (own:=["_law_k"]) (LV:=[4,3,5]) ak rfl (Or.inl rfl) rfl (qM (cZ nP) rW (by decide +kernel)) ∅ (oT rfl LA.nh<|cO<|cM hT (aO 2)<|aO 3) (λc=>(lX 0)) (λc=>yD) (λc=>(jy (by exact (b_ (cM fQ (aO 1)<|cM vI (aO 0)<|aO 2)<|cM fQ (aO 3)<|cM kf (aO 0)<|aO 2)))) ∅) (cN (g0 (gE qz (aO 1) a8<|e_ _) (c0<|ef<|ji nD rfl LA.kB ll<|cO<|aO 6) ht) (cN (g0 (gE qz (aO 1) a8<|e_ _) (cN (uX (a:=7) ak rfl (Or.inr rfl) (kJ LG (bt (ka (by exact (mX a8 (by exact (hq a8 a8 a8))))))<|bt<|c9 b LG<|b_ (aO 0) a8) ∅) (c0 (ef (ji nD rfl LA.kB ll (cO (bt (s_ (own:=["_law_cell"]) (LV:=[0,7]) rfl (qM (cZ nP) rW (by decide +kernel)) ∅ (m6<|aO 6) (λc=>(lX 0)) (λc=>(zT<|gE AD (bt<|c9 b LG<|b_ (aO 1)<|aO 2) a8<|e_ _))<|λc=>(rm<|gz 0)))))))) ht) (c0 (ef (c9 f LG (b_ (aO 0) (cM fQ a8 (bt (c9 b LG (b_ (aO 0) (fk LG (bt (ka (by exact (hq a8 a8 a8))))<|bt<|c9 b LG<|b_ (aO 0) a8))))))))))))))))
abbrev xE(o:fG)(R:af):Prop:=fU o 6 "_law_runs_of" qE R ["_law_floor_here","_law_word"] 2 G.n7
def Gy(a:(Ξ o.K "_law_runs_of").isSome=V)(p:d4 o.K "_law_runs_of" qE R)(N:eF o.K o.aI "_law_runs_of" qE R ["_law_floor_here","_law_word"])(LA:f6 o.aI):xE o R:=by
 refine It Dm a p N λak B O T j h Ls ⟨Mz,cG,b,c⟩ LG=>?_;exact (cN (gx 2 ak (ka (by exact ps))) (cN (mx (Mf:=[0,1]) kU rfl (m6 (bt (GD (al:=1) (cV := "_law_one") (C := "_law_word") b c LG LA.rS qL (cO<|aO 0) (IB (by kernel_rfl)) (λ_ U U U LG=>(jy (by exact (b_ (fk LG (aO 0)<|bt<|ji ro rfl LA.nJ oo<|cO<|bt<|k6 (iJ<|d1 LG) (aO 1) (bt kA)<|e_ _)<|aO 0))))))) (g9 3 ak) (cN (gx 4 ak (jy (by exact (b_ (cM qQ (fk LG (aO 3) a8)<|bt<|ji ro rfl LA.nJ oo<|cO<|bt<|k6 (iJ<|d1 LG) (aO 1) (bt kA)<|e_ _)<|cM qQ (fk LG (aO 3) a8)<|bt<|ji ro rfl LA.nJ oo<|cO<|bt<|k6 (iJ<|d1 LG) (aO 1) (bt kA)<|e_ _)))) (c0 (g0 (ih.sE<|qv (HT (d1 LG)<|gz 2)<|wz<|gE (iJ<|d1 LG) (bt<|HP (gz 2) u2 u2) (aO 4)<|e_ _) (c0<|uE<|CI rX vd BJ (gz 2) u2<|CO<|gz 3) (c0 (uE (Aj Ai vY rX vd Gp (gz 2) (cO (bt (ka (by exact (cO<|aO 3))))))))))) ∅ DW) (c0 (ef (KO 2 (zN ["_law_one"] [1] (m6<|aO 2) (λd=>(lX 0)) (λd=>(jy (by exact (hq (aO 1) (bt<|zy J8 (aO 0) a8<|λ_ U=>rfl)<|bt<|gT JH LA.ku kD<|cO<|aO 0))))))))))
abbrev yQ(o:fG)(R:af):Prop:=fU o 7 "_law_all_runs" uj R ["_law_floor_here"] 1 G.pO
def Je(N:eF o.K o.aI "_law_all_runs" uj R ["_law_floor_here"])(LA:f6 o.aI){b:af}(a:xE o b):yQ o R:=by
 refine gW Ip N λak B O T j h Ls LG=>?_;exact (c0<|ef<|gT (vc rfl<|d1 LG) LA.rS qL<|cO<|cM fQ (bt<|c9 a LG<|b_ (aO 0)<|bt kA)<|bt<|c9 a LG<|b_ (aO 0)<|bt kA)
theorem A3{o:fG}{R:af}(N:eF o.K o.aI "_law_same" pF R ["_law_got","_law_due"])(LA:f6 o.aI):∀n,fU o (1+n) "_law_same" pF R ["_law_got","_law_due"] 2 (G.g8 n)
 |0=>IW N
 |n+1=>by
  have a:=A3 N LA  n;refine gW EG N λak B O T j h Ls LG=>?_;exact (cN (g0 (rI<|bt<|l4 rfl LA.lT lW rfl LA.kB ll<|aO 1) (cN (g0 (ih.sE<|Iz (z8<|rI<|bt<|l4 rfl LA.lT lW rfl LA.kB ll<|aO 0)<|Ck<|gE (v3<|d1 LG) (bt<|gT mS LA.ku kD<|cO<|aO 0) (bt<|gT mS LA.ku kD<|cO<|aO 1)<|e_ _) (c0<|ef vo) ht)<|c0<|ef<|gT (Ij rfl) LA.FK CE<|cO<|bt<|zN ["_law_one" ,"_law_other"] [] (Kj rfl LA.EA<|b_ (aO 0)<|aO 1) (λb=>(m2 (lX 0)<|lX 1))<|λb=>(Iy a LG (bq _)<|b_ (aO 0)<|aO 1)) ht)<|cN (g0 (rI<|bt<|l4 rfl LA.lT lW rfl LA.yg yw<|aO 1) (c0<|ef<|px (j1<|l4 rfl LA.lT lW rfl LA.yg yw<|aO 0)<|j1<|u1<|k6 (iJ<|d1 LG) (aO 0) (aO 1)<|e_ _) ht)<|c0<|ef<|px (j1<|l4 rfl LA.lT lW rfl LA.nJ oo<|aO 0)<|px (j1<|G8<|j1<|l4 rfl LA.lT lW rfl LA.Gi IV<|aO 0)<|j1<|u1<|k6 (iJ<|d1 LG) (aO 0) (aO 1)<|e_ _)
abbrev Iw(o:fG)(R:af):Prop:=fU o 10 "law" vz R ["_law_script"] 1 G.mu
def Fu(N:eF o.K o.aI "law" vz R ["_law_script"])(LA:f6 o.aI){c:af}(d:zF o c){e:af}(f:yz o e){g:af}(i:yQ o g){k:af}(b:fU o 9 "_law_same" pF k ["_law_got","_law_due"] 2 (G.g8 8)){l:af}(a:AU o l):Iw o R:=by
 refine gW Ic N λak B O T j h Ls LG=>?_;exact (cN (mx (Mf:=[0]) kU rfl (oT rfl LA.nh<|cO<|bt<|gT (E6 rfl<|d1 LG) LA.Km BZ<|b_ a8<|bt<|gT (C1 rfl<|d1 LG) LA.D5 EU<|b_ a8<|bt<|gT mS LA.ku kD<|cO<|aO 0) (g9 1 ak) (cN (gx 2 ak<|c9 d LG<|b_ (aO 0)<|aO 1) (c0 (mx (Mf:=[0]) kU rfl (oT rfl LA.nh<|cO a8) (g9 3 ak) (cN (gx 4 ak<|c9 f LG<|cO<|aO 2) (cN (gx 5 ak<|ji nD rfl LA.kB ll<|cO<|bt<|c9 i LG<|cO<|aO 4) (c0 (mx (Mf:=[0]) kU rfl (oT rfl LA.nh<|cO a8) (g9 6 ak) (c0<|g0 (z8<|rI<|bt<|c9 b LG<|b_ (bt<|c9 a LG<|cO<|aO 4)<|aO 5) (c0<|ef vo) ht) ∅ rk)))) ∅ rk))) ∅ rk) (c0 (ef (px (j1 (k6 (iJ<|d1 LG) (bt (c9 a LG (cO (ff (by exact ps))))) (ff (by exact ps))<|e_ _)) (j1 (u1 (c9 b LG (b_ (bt (c9 a LG (cO (ff (by exact (cO (ff (by exact (b_ a8 a8))))))))) (ff (by exact (b_ (ff (by exact (hq (bt kA) (ff (by exact (b_ a8 a8))) a8))) (ff (by exact (hq (bt kA) (ff (by exact (b_ a8 a8))) a8))))))))))))))
end
end K11
namespace L2
open Spec PyProof.Rows
end L2
namespace K11
open L2 PyProof.Rows
variable{L:PySem.W.OpenLaw}
def all_mk{I:a5}{Lr:Φ}{e:a0}{aI:az->Option aa}{c l m n p q s t u v w x y z A:af}(b:Lr.In e)(a:e.Ns cT aI)(B:aI "law" = Z (.ref c)){d f:gX}(C:d4 Lr "lookup" ug l)(D:d4 Lr "further" tL m)(E:d4 Lr "run_from" uc n)(F:d4 Lr "runs_of_word" ql p)(H:d4 Lr "runs" uZ q)(J:d4 Lr "_law_cell_at" r0 s)(M:d4 Lr "_law_hand" s8 t)(N:d4 Lr "_law_pick" vt u)(O:d4 Lr "_law_grown" rV v)(P:d4 Lr "_law_floor" nP w)(g:d4 Lr "_law_runs_of" qE x)(Q:d4 Lr "_law_all_runs" uj y)(R:d4 Lr "_law_same" pF z)(h:d4 Lr "law" vz A)(S:(Ξ Lr "_law_runs_of").isSome=V)(T:Ψ Lr cT "DOWN" = Z (Z<|.str "down" d))(U:Ψ Lr cT "RIGHT" = Z (Z<|.str "right" f))(al:Ψ Lr cT "all" = Z Y)(am:Ψ Lr cT "bool" = Z Y)(an:Ψ Lr cT "int" = Z Y)(ap:Ψ Lr cT "isinstance" = Z Y)(as:Ψ Lr cT "len" = Z Y)(a1:Ψ Lr cT "max" = Z Y)(a2:Ψ Lr cT "min" = Z Y)(bd:Ψ Lr cT "range" = Z Y)(be:Ψ Lr cT "sorted" = Z Y)(bi:Ψ Lr cT "str" = Z Y)(bm:Ψ Lr cT "tuple" = Z Y)(bn:Ψ Lr cT "zip" = Z Y):
  ∃fd:fu,(∀(j:ag) (r:aa),jM j fd ⟨[r],[]⟩ [("_law_script",r)])/\∀LB:a0,Lr.In LB->LB.Ns cT aI->fZ L.prog I Lr aI LB e2 10 c fd ["_law_script"] (h7 1 G.mu):=by
 have LA:f6 aI:=⟨hL b a al,hL b a am,hL b a an,hL b a ap,hL b a as,hL b a a1,hL b a a2,hL b a bd,hL b a be,hL b a bi,hL b a bm,hL b a bn,⟨d,mL b a T⟩,⟨f,mL b a U⟩⟩;have h_w12:=R.cS (LO:=["_law_got","_law_due"]) b a;refine DJ h b a B (λ_ K K K K K K K=>.of_eq rfl) λLB=>?_;let o:fG:=⟨L.prog,I,Lr,aI,LB⟩
 have bs:=Jd (o:=o) (C.cF b a) LA;have i:=JR (o:=o) (D.i1 b a) LA;have bv:=Dw (o:=o) (E.i1 b a) LA i;have ca:=Jh (o:=o) (F.cS b a) LA bs i bv;have cd:=DS (o:=o) (H.cF b a) LA ca;have ce:=CP (o:=o) (J.cS b a) LA;have ch:=DC (o:=o) (M.cS b a) LA ce;have k:=GH (o:=o) (N.cS b a) LA;have ci:=E7 (o:=o) (O.cS b a) LA k;have cl:=E2 (o:=o) (P.cF b a) LA k ci;have co:=Gy (o:=o) S g (g.cS b a) LA;have cr:=Je (o:=o) (Q.cF b a) LA co;have cs:=A3 (o:=o) h_w12 LA  8;exact Fu (o:=o) (h.cF b a) LA ch cl cr cs cd
def walk{q:bf}{c:List az}{i:(az->Option aa)->a0->Prop}{a:a5->a0->Prop}{v:DefRec}{Lr:pH->Φ}(k:L.most=Z 63)(l:v.params.defaults=[])(m:∀(I:a5) (e:a0),a I e->(Lr I.params).In e)(o:∀u,oq (Lr u)=V)(N:∀(I:a5) (aI:az->Option aa) (b:af) (e:a0),(Lr I.params).In e->e.Ns cT aI->aI v.name=Z (.ref b)->
   ∃fd:fu,(∀(j:ag) (D:aa),jM j fd ⟨[D],[]⟩ [("_law_script",D)])/\∀LB:a0,(Lr I.params).In LB->LB.Ns cT aI->fZ L.prog I (Lr I.params) aI LB e2 10 b fd ["_law_script"] (h7 1 G.mu))(p:((recsOf q).find? λd=>d.name==("_law_runs_of" : az)).isSome=V)(r:∀u,(Ξ (Lr u) "_law_runs_of").isSome=V)(t:∀u,Φd (Lr u)=V):
  PySem.W.WalkO q c i a L.row.toRowW v [] (λR Q=>PySem.call R Q):=
 L2.DP (s:=63) (n:=10) (f := "_law_script") (MB:=λ_=>e2) (Ms:=λI=>h7 1 G.mu) k ∅ l ⟨rfl,by decide,by decide,rfl⟩ m N (λI h g LN w x y=>GY (o I.params) h g LN x y (G.B4 LN (z3 w ∅))) (λ_ U U U U B=>B) p r t
end K11
end
open PySem PySem.W PyProof.Rows
set_option maxRecDepth 100000 in
set_option maxHeartbeats 0 in
theorem PySem.Challenge.cw_mowfloor_k11_all_runs_holds : PySem.Challenge.rw_mowfloor_k11_all_runs.Holds := by
  w_on; o_law; k_head; (case hw => w_witness2)
  k_fill
  refine' K11.walk (L := PySem.Challenge.rw_mowfloor_k11_all_runs) rfl rfl (fun w h Y => PySem.W.km_in_of Y) ?hK ?F ?hrc ?htb ?hnt
  case hK => intro p; rfl
  case hrc => kernel_rfl
  case htb => intro p; kernel_rfl
  case hnt => intro p; kernel_rfl
  case F =>
    intro w mg fa h KX G hmg
    apply K11.all_mk KX G hmg
    iterate 14 (apply L2.zw; iterate 4 k_is)
    kernel_rfl
    iterate 14 k_is
